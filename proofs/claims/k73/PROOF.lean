import PyProof.Rows.All
import Wide.All
import OpenK.AllK
import Wide.FinOn
import Lean
import PyProof.EqAt
import PyProof.EqKinds
import PyProof.TupleCall
import PyProof.DictItems
import KE.KPairComp
import KE.KDictList
import PyProof.ListRange
import KE.KUnpack
import KE.KEqDict
import PyProof.DictFindH
import KE.KDictSum
import PyProof.AutoListH
import PyProof.SumAny
import PyProof.Rows.Range3
import KE.KStateDown
import KE.KSortTup
import KE.KLam
import KE.KNestM
import KE.KDictOf
import PyProof.AttrMissHeap
import KE.KRevSl
import PyProof.RaisesMany
import PyProof.ExcInit
import PyProof.ExcClass2
import PyProof.RulesTry
import PyProof.PassesOwn
import OpenK.KOwn
import PyProof.RulesDel
import KE.KIsAll
import PyProof.EnumMake
import PyProof.LayNew
import PyProof.ZipIter
import PyProof.Rows.ZipGen
import KE.KIntText
import KE.KMinKey
import PyProof.SetKind
import PyProof.TupleKey
import PyProof.IsRules
import PyProof.Rows.SetFrom
import PyProof.SetRoads
import PyProof.FactsAll.set
import PySem.Challenge.RW_skewread_k73_doubts_counted
set_option Elab.async false
set_option linter.all false
set_option maxRecDepth 100000
def qp:Nat->Lean.TSyntax `term->Lean.MacroM (Lean.TSyntax `rcasesPat)
 |0,_=>Lean.Macro.throwUnsupported
 |n+1,t=>match t with
  |`(_)=>`(rcasesPat|_)
  |`(⟨$ts,*⟩)=>do
   let ps<-ts.getElems.mapM fun t=>do
    let p<-qp n t
    `(Lean.Parser.Tactic.rcasesPatLo|$p:rcasesPat)
   `(rcasesPat|⟨$ps,*⟩)
  |`($i:ident)=>`(rcasesPat|$i:ident)
  |_=>Lean.Macro.throwUnsupported
theorem rd{α:Sort u}{a p:α->Prop}{w:α}(h:a w)(k:p w):∃x,a x/\p x:=⟨w,h,k⟩
theorem rd2{α:Sort u}{β:Sort v}{a:α->Prop}{b p:α->β->Prop}{w:α}{y:β}(h:a w)(i:b w y)(k:p w y):∃x,a x/\∃z,b x z/\p x z:=⟨w,h,y,i,k⟩
theorem rd3{α:Sort u}{β:Sort v}{B:Sort t}{a:α->Prop}{b:α->β->Prop}{c p:α->β->B->Prop}{w:α}{y:β}{v:B}(h:a w)(i:b w y)(j:c w y v)(k:p w y v):∃x,a x/\∃z,b x z/\∃q,c x z q/\p x z q:=⟨w,h,y,i,v,j,k⟩
def rdw(t:Lean.TSyntax `term):Nat->Lean.MacroM (Lean.TSyntax `term)
 |0=>pure t
 |1=>`(rd rfl $t)
 |2=>`(rd2 rfl rfl $t)
 |n+3=>do
  let r<-rdw t n
  `(rd3 rfl rfl rfl $r)
def rdb(r:Array (Lean.TSyntax `term)):Lean.MacroM (Lean.TSyntax `term):=if h:r.size=1 then pure r[0] else `(⟨$r,*⟩)
local macro_rules(kind:=«term{_}»)|`({$x:term,*})=>`(⟨$x,*⟩)
local macro_rules | `(def $n:declId $s:optDeclSig $v:declVal)=>`(noncomputable def $n:declId $s:optDeclSig $v:declVal)
local macro_rules | `(abbrev $n:declId $s:optDeclSig $v:declVal)=>`(noncomputable abbrev $n:declId $s:optDeclSig $v:declVal)
open List renaming length_map->Ja,getElem?_eq_getElem->Jb,length_append->Jc,take_succ_eq_append_getElem->Jd,mem_singleton->Je,mem_cons_of_mem->Jf,getElem?_eq_some_iff->Jg,mem_cons_self->Jh,map_append->Jj,mem_map->Jk,map_cons->Jl,append_assoc->Jn,prefix_refl->Jo,mem_append_right->Jp,size_toArray->Jq,pairwise_map->Jr,getElem_mem->Js,map_map->Ju,mem_append->Jv,getElem?_append_left->Jw,length_cons->Jy,length_take->Jz,take_append_drop->J0,getElem?_append_right->J8,mem_cons->J9,length_drop->Ga,take_length->Gb,getElem?_map->Gc,append_nil->Gg,getElem_of_mem->Gh,mem_filter->Gi,length_pos_iff->Gj,take_of_length_le->Gk,prefix_append->Go,mem_flatMap->Gp,getD_eq_getElem?_getD->Gq,mem_append_left->Gs,mem_of_mem_take->Gv,map_congr_left->Gw,pairwise_iff_getElem->Gx,find?_cons->Gz,mem_range->G0,mem_of_getElem?->G1,length_singleton->G4,mem_of_mem_drop->G6,perm_append_comm->G7,length_flatMap->G8,length_eq_zero_iff->G9,pairwise_singleton->Ba,nodup_append->Bc,drop_eq_getElem_cons->Bd,length_nil->Bf,getElem_inj->Bh,replicate_succ->Bj,getElem?_eq_none->Bk,pairwise_flatMap->Bl,flatten_cons->Bn,length_range->Bo,sum_cons->Bs,lookup_cons->Bt,getElem_map->Bv,mem_map_of_mem->Bw,getElem_take->Bx,length_set->B1,any_cons->B3,getElem?_set_self->B4,take_sublist->B5,take_zero->B7,take_left->B8,set_append_right->Fa,pairwise_cons->Fb,filter_cons->Fc,length_filterMap_le->Fd,nodup_nil->Fe,take_append_of_le_length->Ff,reverse_cons->Fg,nodup_cons->Fh,any_eq_true->Fm,perm_ext_iff_of_nodup->Fo,length_filter_le->Fp,getElem?_set_ne->Ft,drop_sublist->Fw,getElem_drop->Fy,filterMap_cons->F0,drop_drop->F2,take_prefix->F3,mem_filterMap->F5,map_nil->F6,drop_of_length_le->F7,flatten_singleton->Db,zip_cons_cons->Dc,filter_append->De,sum_append->Dg,range_succ->Dh,map_take->Di,drop_zero->Dl,pairwise_append->Dm,map_drop->Dp,getElem?_take->Dq,find?_eq_none->Ds,map_singleton->Dt,drop_take->Dv,replicate->Cp,range->Cv,take->Ee,length->Eu,lookup->Ki,getElem?_take_of_lt->Km,ext_getElem?->K2,prefix_or_prefix_of_prefix->K4,reverse_perm->Mm,getElem?_replicate->Mp,countP_cons->My,map_snd_zip->Mz,map_reverse->M7,of_mem_zip->Jb0,forIn_cons->Jb2,filter_nil->Jb9,toList_toArray->Jdu,push_toArray->Jem,cons_append->Je1,foldl->Jgd
open Nat renaming le_refl->Ji,le_trans->Jx,zero_le->Ge,lt_of_lt_of_le->Gm,ne_of_lt->Gn,lt_of_le_of_lt->Gu,lt_irrefl->Bb,not_lt_zero->Bg,add_assoc->Br,zero_add->Bu,le_of_eq->Bz,add_sub_cancel_left->B2,lt_succ_of_lt->B6,le_of_lt->Fi,sub_self->Fj,eq_zero_of_not_pos->Fk,le_of_not_lt->Fl,min_eq_left->Fq,le_succ->Fu,lt_or_ge->Fv,lt_succ_self->F1,add_zero->F8,mod_eq_of_lt->Do,succ_mul->Du,mul_le_mul_right->Le,add_comm->L7,min_eq_right->Je3,mul_comm->Jg1,sub_zero->Jg2,add_mul->Jhj
open Array renaming length_toList->Jm,getElem?_toList->Jt,toList_append->Gr,getElem?_eq_getElem->Gy,perm_iff_toList_perm->G3,toList_extract->Fx,forIn_toList->Dd,toList_push->Dj,toList_reverse->Dn,getD->Mi,toList->Jer
open Bool renaming false_ne_true->Gd,false_eq_true->Gf,and_eq_true->Bi,not_true->By,not_eq_true->Fn,eq_iff_iff->Df,beq_eq_decide_eq->Jb7,false_or->Jd5,false_and->Jfj,and_false->Jfv
open Int renaming toNat_natCast->G2,emod_lt_of_pos->Be,eq_ofNat_of_zero_le->Bp,emod_nonneg->Bq,natCast_add->Fs,mul_le_mul_of_nonneg_left->Ld,zero_add->L8,le_refl->Jdt,natCast_nonneg->Jeb,le_of_lt->Jg3,le_trans->Jg5,mul_one->Jha,mul_sub->Jhh
open Option renaming map_eq_some_iff->G5,map_some->B9,isSome_iff_exists->Fz,isSome_map->Mf,getD_some->Mx,isNone_none->Jd9,getD_none->Je0
open PySem renaming wpAny_bind->D0,wpAny_pure->D1,boot_len->Jab,wpAny_mono->Jac,sizeLine->Ca,Value->Cb,Shared->Cc,wpAny->Ck,model->Cn,starEach->Cs,mainGlobals->Cw,sizeLine_eq->C0,wpAny_loadPart'->C4,wpAny_call_entry->Eb,wpAny_holding->Ec,wpAny_truthy_bool->Ek,wpAny_newObj_type->Em,compareOp->Ep,cLine->Er,sysModules->Es,wpAny_rule->Et,NameKind->E5,wpAny_Call_Name_kw->E9,Program->Ha,wpAny_passesOwn->He,behindInMarks->Hj,binaryOp->Hk,mem_of_lookup->Hl,wpAny_callSpecial?_slot->Hm,wpAny_getItem_str_slice->Ho,tupleKind_room_in1->Hr,wpAny_tupleItemsOf->Ht,keywordEach->Hv,World->Hz,rawInt->Ke,backTo->Kl,call_meets->Kp,attributeBase->Kr,getattributeRaised->Kv,Around->Kw,wpAny_pyIter_list->Ky,sliceBounds->K0,bootBuiltins->K5,wpAny_typeOf->K6,builtinLookup_eq_fast->K7,wpAny_eqBool_int->K9,getItem->Lc,wpAny_standAt->Lf,wpAny_newList->Lh,tupleKind->Lj,wpAny_execs_nil->Ll,letOwnedTupleGo->Lm,codeAny->Lp,post_val_or_str->Lq,Fin->Lr,codeAny_builtin->Lu,wpAny_newFunctionEnv_cells->Lx,FuncData->L4,codeAny_mono->L5,backToKw->L6,holding->L9,assignEach->Mc,foldedSetIterable->Md,wpAny_getItem_list_slice->Me,wpAny_comprehension_free->Mg,wpAny_pyNext_tuple_item->Mo,subscripted->Mr,wpAny_attempt->Mt,noFill_tuple_add->Mw,wpAny_pyNext_list_item->M8,wpAny_pyNext_tuple_end->M9,Within->Ja4,wpAny_isTrue_Compare1->Ja6,swapsWith->Ja7,wpAny_pyNext_list_end->Ja8,getMethod->Ja9,typeLookup_type->Jb5,builtinsNs->Jc0,wpAny_loadName_local->Jc3,pyNext->Jc5,wpAny_loadName_cell->Jc9,standAt->Jdp,Keyword->Jdq,wpAny_pyIter_tuple->Jdw,bindArgs->Jdz,IsPart->Jd1,evalPart_none->Jd3,atKey->Jd6,sub_AttributeError->Jd7,wpAny_assign_Name->Jed,BindsTo->Jef,wpAny_sequenceKey->Jeg,typeLookup->Jeh,valueAt->Jej,callerA->Jek,isInstance->Jeo,assign->Jes,seqIndex_neg->Jex,wpAny_execs_cons->Jey,wpAny_Dict_empty->Je2,Str->Je5,wpAny_field->Jfa,seqIndex_of->Jfb,codeAmong->Jfe,Model->Jfi,Addr->Jfw,wpAny_Name->Jfx,wpAny_call->Jga,typeIs_str->Jgb,typeIs_int->Jgc,call->Jge,closureFor->Jgf,CmpOp->Jgk,setItem->Jgl,Operator->Jgm,callWith->Jgq,getAttr?->Jgt,storeName->Jgy,cellsFrom->Jg0,bindL->Jhc,bindC->Jhd,operate->Jhe,relabel->Jhf,Result->Jhk,Expr->Jhm
open PySem.Heap renaming get?_push_of_some->D2,get?_push_size->D3,lt_size->D4,SameBut->Hu,get?_push_ne->Ka,get?_update_other->Ja1,get?_update_self->Jb1,size_push->Jc6,NewExcOf->Jgs
open Option.some renaming inj->Jaa,injEq->Mj
open PySem.Value renaming ref->Cd,bool->Kj,int->Li,type->Mb,builtin->Mu,str->Ja3,isInt->Jc8,float->Je6,isStrOf->Jgj,bytes->Jg8
open PyProof.Rows renaming Keyed->Cg,wpS_bind->Ch,wpS_pure->Cj,SortSt->Cm,arrOf->Ct,pendingOf->Cu,slot_tuple_getitem->C1,boot_sorted->C2,wpS_forRange->Ea,seqObj->Eh,boot_dict->Ej,failedOf->Ew,boot_tuple->Ex,boot_isinstance->Ey,IntsAre->E4,boot_list->Hq,wpS_mono->Hs,get?_update_seq->Kt,listUpdate_at->Ku,boot_max->K8,callWith_type1->Ln,envOfC->Lw,subscriptTail->Mq,subscriptTail_builtinR->Ja0,AllBare->Ja5,boot_min->Jb8,size_push'->Jc2,entry_tuple_getitem->Jdr,Constant_none->Jdv,args_tuple_getitem->Jd2,Subscript_->Jei,callWith_builtin1->Jew,entry_list_sort->Jfd,boot_bool->Jgx,boot_abs->Jg6,boot_int->Jg7,lt_int->Jhg
open Or renaming inl->Ci,inr->Cy
open PySem.PassesOwn renaming never->Co
open PySem.W renaming Frag->Cq,findIn->Ez,kia_one->Kf,instObj->Lk,keepIn->Jc1,fnOf->Jc7,plainGet_of->Jdx,codeIn->Jd0,plainGet->Jee,codeHdIn->Jen,callWith_K->Jev,cellsFrom_some->Jez,methodObj->Je7,hasDictIn->Je8,methodCall_KW->Je9,lookIn->Jgo,kitOne->Jgp,codeHd_of_K->Jgr,takerIn->Jgz,OpenLaw->Jg4,tabObj->Jhl
open PySem.Obj renaming mapSeq->Cr,data_mapFields->Jea,mapFields->Jgv
open Sum renaming inl->Cz,inr->Jec
open False renaming elim->C3
open PySem.Builtin.Tuple renaming tupleHashOf->C5,tupleExact->Hf,tupleItemsOf->Kb,tupleCompareSizes->Jep,tupleIsExact->Jfg
open PySem.NameKind renaming free->C6,cell->Lg
open PySem.PyData renaming eqvAll->C7,eqv->Eo,int->K1,canLay0->Ma,canLayAll0->Mh,depthAll->Jb3,depth->Jb4,list->Jhi
open PySem.Str renaming ofString->C8,empty->Jdy
open PySem.F renaming slot_dict_get->C9,plainAttrs_list->Ed,entry_dict_get->E7,slot_list_append->Hg,type_list_append->Hh,slot_list_extend->Hw,args_tuple_add_2->Ko,entry_tuple_add->Ks,slot_tuple_add->Kx,type_list_extend->Mn,args_dict_get_2->Ms,args_list_extend_2->Jc4,entry_list_extend->Jds,slot_int_rmul->Jfc,slot_tuple_lt->Jff
open PySem.Heap.SameBut renaming update->Ef
open PySem.Builtin.List renaming listTooLong->Eg
open ForInStep renaming yield->Ei
open True renaming intro->El
open PySem.Calls renaming callWith_builtin->E6,spliced_cons->E8,evalArgs_plain->Kc,spliced_nil->Kz,Name_function_global->Lv
open PySem.Builtin.Slice renaming slicePlaces->Hb,sliceAdjust->Kg,sliceApplied->Ly,slicePartIndex->Je4,sliceFields->Jfu
open Ne renaming symm->Hd
open PySem.SeqAt renaming shaped->Hy,EqAt->Jgi
open PySem.Around renaming under_plainId->Kd,under->Jet
open Sum.inl renaming inj->Kh
open PyProof.Rows.LSm renaming kept_iter->Lz
open PySem.AutoSeq1 renaming wpAny_loadPart'->Ml,sub_list_list->Ja2
open PySem.Builtin.Dict renaming updateFrom->Mv,addKeywords->Jgg,selfAndRest->Jgh,pairItems->Jgw
open List.Pairwise renaming sublist->Jb6,nil->Jel
open PySem.Heap.IsSliceOf renaming new->Jd4
open PySem.Code renaming quiet_builtin->Jd8,isFrame->Jeu,frames->Jhb
open List.Sublist renaming refl->Jeq
open List.IsPrefix renaming eq_of_length->Jfh
open PySem.EqNone renaming eq_none_none->Jfk,eq_none_bool->Jfl,eq_bool_none->Jfm,ne_none_none->Jfp,ne_none_bool->Jfq,ne_bool_none->Jfr,eq_none_int->Jfy,eq_none_str->Jfz,eq_int_none->Jf0,eq_str_none->Jf2,ne_none_int->Jf4,ne_none_str->Jf5,ne_int_none->Jf6,ne_str_none->Jf8
open PySem.EqMixed renaming eq_bool_str->Jfn,eq_str_bool->Jfo,ne_bool_str->Jfs,ne_str_bool->Jft,eq_int_str->Jf1,eq_str_int->Jf3,ne_int_str->Jf7,ne_str_int->Jf9
open PySem.Builtin.Range renaming rangeSize->Jgn
open PySem.Shared renaming TypeIs->Jgu
open PySem.CmpOp renaming NotIn->Jg9
open PySem.Within renaming cons->Jhn
open PySem.W.WShape renaming has->Jho
open PySem.Heap.DictOf renaming new->Jhp
open PySem.W.WData renaming int->Jhq
theorem Dw:type_of% @of_decide_eq_true:=@of_decide_eq_true
def Dx:type_of% @absurd:=@absurd
theorem Dy:type_of% @of_decide_eq_false:=@of_decide_eq_false
theorem Dz:type_of% @decide_eq_true_iff:=@decide_eq_true_iff
theorem D6:type_of% @if_neg:=@if_neg
theorem D7:type_of% @if_pos:=@if_pos
theorem D8:type_of% @decide_eq_true:=@decide_eq_true
theorem D9:type_of% @decide_eq_false:=@decide_eq_false
local macro_rules | `(tactic| rfl')=>`(tactic| refine ⟨rfl,rfl,rfl,?_,rfl,?_,?_⟩<;>decide +kernel)
local macro_rules | `(nofun)=>`(term| by decide)
local macro_rules | `(tactic| exists $es,*)=>do
 let mut a:Array (Lean.TSyntax `term):=#[]
 for e in es.getElems do
  if e.raw.isOfKind ``Lean.Parser.Term.cdot then a:=a++#[<-`(_),<-`(rfl)] else a:=a.push e
 let mut r:Array (Lean.TSyntax `term):=#[]
 let mut c:=0
 for e in es.getElems.reverse do
  if e.raw.isOfKind ``Lean.Parser.Term.cdot then
   if r.isEmpty then r:=#[<-`(_),<-`(rfl)] else c:=c+1
  else if c=0 then r:=#[e]++r
  else
   r:=#[e,<-rdw (<-rdb r) c]
   c:=0
 let t<-rdw (<-rdb r) c
 `(tactic| first | refine $t | refine ⟨$a,*⟩)
local macro_rules |`(tactic|let $d:letDecl)=>match d with
 |`(Lean.Parser.Term.letDecl|$p:term:=$e:term)=>do
  let q<-qp 9 p
  `(tactic|obtain $q:rcasesPat:=$e:term)
 |_=>`(tactic|have $d:letDecl)
local macro_rules |`(())=>`(by lia)
variable{α α' fp:List Jfw}{s:Cc}{A:PySem.Around}{f Pt dx l c it Zt:Jfw}{w:PySem.World}{K K':PySem.W.Frag}{fd:PySem.FuncData}{pos pos' apos:PySem.Pos}{E:Cb->Cc->Prop}{τ κ β υ:Type}{pz:List (Jfw×PySem.Obj)}{P prog:PySem.Program}{ns r sw ms:List Int}{h h':PySem.Heap}{na nb j base ia ib ac bc t' pl ep hint:Nat}{kn:List (Option Int)}{mg:Je5->Option Cb}{us its:List Cb}{ps N T:List Je5}{tg value:Jhm}{st:PySem.Stmt}{es:List Jhm}{ws:List (List Int)}{qual:Je5}{left:Bool}{kw:List (Je5×Cb)}{lo hi:Option Int}{kp:List (Nat×Int)}{pm:Cb}{B:Prop}{cs:List Nat}
namespace L2
open PySem PySem.Spec PyProof.Rows
abbrev Key:=Sum Int Str
def Qk:Key->Cb->Bool
 |.inl k,v=>Jc8 k v
 |.inr x,v=>Jgj x v
def keyH(w:Hz):Key->Int
 |.inl k=>hashInt k
 |.inr x=>hashStr w x
theorem Z7:∀{k:Key}{v:Cb},Qk k v=true->(∃i t,k=Cz i/\v=Li i t)\/(∃x t,k=Jec x/\v=Ja3 x t)
 |.inl i,v,h=>by
  let⟨t,e⟩:=Cb.isInt_shape (k:=i) (v:=v) h;exact .inl ⟨i,t,rfl,e⟩
 |.inr x,v,h=>by
  let⟨t,e⟩:=Cb.isStrOf_shape (x:=x) (v:=v) h;exact .inr ⟨x,t,rfl,e⟩
def Zbk(i:Int)(t:Tok):Qk (.inl i) (.int i t)=true:=by simp[Qk,Jc8]
def Zjh(x:Str)(t:Tok):Qk (.inr x) (.str x t)=true:=by simp[Qk,Jgj]
def Zuw(a b:Int):decide ((Cz a:Key)=Cz b)=(a==b):=by
 by_cases e:a=b
 .subst e;simp
 .let h:¬ (Cz a:Key)=Cz b:=λq=>e (Kh q);rw[D9 h];exact(beq_eq_false_iff_ne.mpr e).symm
def Zut(a b:Str):decide ((Jec a:Key)=Jec b)=decide (a=b):=by
 by_cases e:a=b
 .subst e;simp
 .let h:¬ (Jec a:Key)=Jec b:=λq=>e (Sum.inr.inj q);rw[D9 h,D9 e]
def Zuv(a:Int)(b:Str):decide ((Cz a:Key)=Jec b)=false:=D9 (λq=>nomatch q)
def Zuu(a:Str)(b:Int):decide ((Jec a:Key)=Cz b)=false:=D9 (λq=>nomatch q)
def Z9(prog:Ha)(w:Hz):PySem.KeyKind prog w Key where
 is:=Qk
 hash:=keyH w
 inj:=λv a b O G=>by
  rcases Z7 O with⟨i,t,rfl,rfl⟩|⟨x,t,rfl,rfl⟩
  .rcases Z7 G with⟨j,u,rfl,e⟩|⟨y,u,rfl,e⟩
   .injection e with e1 _;rw[e1]
   .exact nomatch e
  .rcases Z7 G with⟨j,u,rfl,e⟩|⟨y,u,rfl,e⟩
   .exact nomatch e
   .injection e with e1 _;rw[e1]
 byValue:=λk v h=>by
  rcases Z7 h with⟨i,t,rfl,rfl⟩|⟨x,t,rfl,rfl⟩<;>rfl
 pyHash:=λB h=>by
  rcases Z7 B with⟨i,t,rfl,rfl⟩|⟨x,t,rfl,rfl⟩
  .exact wpAny_pyHash_int h
  .exact wpAny_pyHash_str h
 eqBool:=λJ B h=>by
  rcases Z7 J with⟨i,t,rfl,rfl⟩|⟨x,t,rfl,rfl⟩
  .rcases Z7 B with⟨j,u,rfl,rfl⟩|⟨y,u,rfl,rfl⟩
   .rw[Zuw]at h;exact K9 h
   .rw[Zuv]at h;exact SeqAt.EqAt.int_str i t y u _ _ _ _ h
  .rcases Z7 B with⟨j,u,rfl,rfl⟩|⟨y,u,rfl,rfl⟩
   .rw[Zuu]at h;exact SeqAt.EqAt.str_int x t j u _ _ _ _ h
   .rw[Zut]at h;exact wpAny_eqBool_str h
 «strs»:=λk x t v h=>by
  rcases Z7 h with⟨i,u,rfl,e⟩|⟨y,u,rfl,e⟩
  .exact nomatch e
  .injection e with e1 _
   subst e1;cases v<;>rfl
def Zc0(prog:Ha)(w:Hz)(i:Int)(t:Tok):(Z9 prog w).is (.inl i) (.int i t)=true:=Zbk i t
def Zcz(prog:Ha)(w:Hz)(x:Str)(t:Tok):(Z9 prog w).is (.inr x) (.str x t)=true:=Zjh x t
inductive V where
 |non|bl (b:Bool)|int (i:Int)|str (x:Str)|byt (b:Array UInt8)|flt (b:UInt64)|ref (a:Addr)|ty (n:String)
 deriving DecidableEq
variable{vs xs ys:List L2.V}{y:L2.V}{kvs:List (List L2.Key×L2.V)}
def RelV:V->Cb->Prop
 |.non,u=>u=Cb.none
 |.bl b,u=>u=Kj b
 |.int i,u=>∃t,u=Li i t
 |.str x,u=>∃t,u=Ja3 x t
 |.byt b,u=>∃t,u=Jg8 b t
 |.flt b,u=>∃t,u=Je6 b t
 |.ref a,u=>u=Cd a
 |.ty n,u=>u=Mb n
abbrev Vals:List V->List Cb->Prop:=Paired RelV
def Vals.length(r:Vals xs us):xs.length=us.length:=Paired.length r
theorem Vals.get:∀{xs:List V}{us:List Cb}{i:Nat}{x:V},Vals xs us->xs[i]?=some x->∃u,us[i]?=some u/\RelV x u
 |_,_,_,_,.nil,e=>by simp at e
 |_,_,0,_,.cons r _,e=>by simp at e;subst e;exists ·,r
 |_,_,i+1,x,.cons _ t,e=>by
  let⟨u,h1,h2⟩:=Vals.get (i:=i) (x:=x) t (by simpa using e);exists u,by simpa using h1,h2
theorem Vals.set{x:V}{u:Cb}(r:RelV x u):∀{xs:List V}{us:List Cb}(i:Nat),Vals xs us->Vals (xs.set i x) (us.set i u)
 |_,_,_,.nil=>.nil
 |_,_,0,.cons _ t=>.cons r t
 |_,_,i+1,.cons q t=>.cons q (Vals.set r i t)
theorem Vals.append:∀{xs ys:List V}{us ws:List Cb},Vals xs us->Vals ys ws->Vals (xs++ys) (us++ws):=by
 intro _ _ _ _ h s;cases h with
 |nil=>
  exact s
 |cons r t=>
  exact .cons r (Vals.append t s)
theorem Vals.take:∀{xs:List V}{us:List Cb}(n:Nat),Vals xs us->Vals (xs.take n) (us.take n)
 |_,_,0,_=>.nil
 |_,_,_+1,.nil=>.nil
 |_,_,n+1,.cons r t=>.cons r (Vals.take n t)
theorem Vals.drop:∀{xs:List V}{us:List Cb}(n:Nat),Vals xs us->Vals (xs.drop n) (us.drop n)
 |_,_,0,r=>r
 |_,_,_+1,.nil=>.nil
 |_,_,n+1,.cons _ t=>Vals.drop n t
def RelO:Option V->Option Cb->Prop
 |some v,some u=>RelV v u
 |none,none=>True
 |_,_=>False
def KV :List (κ×V)->List (κ×Cb)->Prop:=Paired λ(p:κ×V)(q:κ×Cb)=>p.1=q.1/\RelV p.2 q.2
def kV:Key->V
 |.inl i=>.int i
 |.inr x=>.str x
def V4(h:Heap)(a:Addr)(y:Array Cb):Prop:=∃o,h.get? a=some o/\o.cls=.type "tuple"/\∃n,o.data=.seq y n/\o.dict=none
def V4.tup{h:Heap}{a:Addr}{y:Array Cb}(x:V4 h a y):IsTup h a y:=let⟨o,e,c,n,d,_⟩:=x;⟨o,e,c,n,d⟩
def V4.new(h:Heap)(y:Array Cb):V4 (h.push {cls:=.type "tuple",data:=.seq y}) h.objs.size y:={_,D3 _ rfl,rfl,_,rfl,rfl}
def V4.lt{a:Addr}{y:Array Cb}(x:V4 h a y):a<h.objs.size:=let⟨_,e,_⟩:=x;D4 e
inductive HO where
 |lst (xs:List V)
 |tup (xs:List V)
 |dK (kvs:List (Key×V))|dT (kvs:List (List Key×V))
 |set (S:Int->Bool) (n:Nat)
 |ins (C dx:Addr) (fs:List (Str×V))
 |own (x:Addr)
 |xd (fs:List (Str×V))
 |met (f x:Addr)
 |rng (lo hi:Int)
 |frz (o:Obj) (u:HO)
 |tbl (ps:Array Cb)
 |ext (φ:Heap->Prop)
abbrev Hp:=Addr->Option HO
variable{H I H' I' H1:L2.Hp}
def upd(H:Hp)(a:Addr)(o:HO):Hp:=λb=>if b=a then some o else H b
def Ze{a:Addr}{o:HO}:upd H a o a=some o:=by unfold upd;rw[if_pos rfl]
def Zo{a b:Addr}{o:HO}(h:b≠a):upd H a o b=H b:=by unfold upd;rw[if_neg h]
def Zgu{a:Addr}{o u:HO}:upd (upd H a o) a u=upd H a u:=by
 funext b;unfold upd;split<;>rfl
def X5{a b:Addr}{o u:HO}(h:H a=some o)(h':H b=some u)(d:o≠u):a≠b:=by
 intro e;subst e;rw[h]at h';exact d (Jaa h')
def Zx{a b:Addr}{o:HO}(h:H a=some o)(h':H b=none):a≠b:=by
 intro e;subst e;rw[h]at h';cases h'
section
variable(P:Ha)(w:Hz)
def Y0(H:Hp)(h:Heap)(a:Addr):HO->Prop
 |.lst xs=>xs.length<=Ca/\∃(its:List Cb)(n:Nat),Vals xs its/\h.get? a=some {cls:=.type "list",data:=.seq its.toArray n}
 |.tup xs=>xs.length<=Ca/\∃its:List Cb,Vals xs its/\V4 h a its.toArray
 |.dK kvs=>kvs.length<=Ca/\(a==Es)=false/\∃vs,KV kvs vs/\h.DictOf (Z9 P w) a vs
 |.dT kvs=>kvs.length<=Ca/\(a==Es)=false/\∃xs:List (List Key×Addr×Cb),
   Paired (λ(p:List Key×V)(q:List Key×Addr×Cb)=>p.1=q.1/\H q.2.1=some (.tup (p.1.map kV))/\RelV p.2 q.2.2) kvs xs /\
   ∃o es ep,h.get? a=some o/\o.ExactDict/\o.data=.dict es ep/\es.toList=xs.map (entryOfKey (Lj (Z9 P w)))/\(xs.map (·.1)).Nodup
 |.set S n=>h.SetOf (intKind P w) a S n
 |.ins C dx fs=>H dx=some (.own a)/\fs.length<=1000/\dx≠a/\h.get? a=some (Lk C dx) /\
   ∃mA,h.Ns1 dx mA/\(∀f,RelO (fs.lookup f) (mA f))/\Ja4 mA (fs.map (·.1))
 |.own _=>∃o,h.get? a=some o
 |.xd fs=>∃mA,h.Ns1 a mA/\∀f,RelO (fs.lookup f) (mA f)
 |.rng lo hi=>∃t u v,h.get? a=some {cls:=.type "range",data:=.fields #[.int lo t,.int hi u,.int 1 v]}
 |.frz o u=>h.get? a=some o/\Y0 H h a u
 |.tbl ps=>h.get? a=some {cls:=.none,data:=.fields ps}
 |.met f x=>h.get? a=some (Je7 (.ref f) (.ref x))
 |.ext y=>y h/\(∃o,h.get? a=some o)/\∀h1 h2:Heap,y h1->(∀o,h1.get? a=some o->h2.get? a=some o)->y h2
def HOk(H:Hp)(h:Heap):Prop:=∀a o,H a=some o->Y0 P w H h a o
end
section
variable{a:Addr}{o:HO}
theorem Y0.lt(x:Y0 P w H h a o):a<h.objs.size:=by
 cases o with
 |lst xs=>obtain⟨_,_,_,_,e⟩:=x;exact D4 e
 |tup xs=>obtain⟨_,_,_,p⟩:=x;exact p.lt
 |dK kvs=>obtain⟨_,_,_,_,o,_,_,e,_⟩:=x;exact D4 e
 |dT kvs=>obtain⟨_,_,_,_,o,_,_,e,_⟩:=x;exact D4 e
 |set S n=>obtain⟨o,_,_,_,e,_⟩:=x;exact D4 e
 |ins C dx fs=>obtain⟨_,_,_,e,_⟩:=x;exact D4 e
 |own y=>obtain⟨_,e⟩:=x;exact D4 e
 |xd fs=>obtain⟨_,⟨_,_,_,e,_⟩,_⟩:=x;exact D4 e
 |rng lo hi=>obtain⟨_,_,_,e⟩:=x;exact D4 e
 |frz G u=>obtain⟨e,_⟩:=x;exact D4 e
 |tbl ps=>exact D4 (show h.get? a=some _ from x)
 |met f y=>exact D4 (show h.get? a=some _ from x)
 |ext B=>obtain⟨_,⟨_,e⟩,_⟩:=x;exact D4 e
theorem Paired.mapP{α:Type}{F G:α->β->Prop}:∀{l₁:List α}{l₂:List β},Paired F l₁ l₂->(∀a b,F a b->G a b)->Paired G l₁ l₂
 |_,_,.nil,_=>.nil
 |_,_,.cons r t,f=>.cons (f _ _ r) (Paired.mapP t f)
theorem Y0.stay(x:Y0 P w H h a o)(k:∀b u,(b=a\/H b=some (.own a))->h.get? b=some u->h'.get? b=some u)(O:∀b,H b=some (.own a)->H' b=some (.own a))(J:∀b xs,H b=some (.tup xs)->H' b=some (.tup xs)):Y0 P w H' h' a o:=by
 induction o with
 |lst xs=>obtain⟨z,its,n,r,e⟩:=x;exists z,its,n,r,k _ _ (.inl rfl) e
 |tup xs=>obtain⟨z,its,r,B,e,c⟩:=x;exists z,its,r,B,k _ _ (.inl rfl) e,c
 |dK kvs=>obtain⟨z,y,vs,r,B,es,ep,e,c⟩:=x;exists z,y,vs,r,B,es,ep,k _ _ (.inl rfl) e,c
 |dT kvs =>
  let⟨z,y,xs,r,B,es,ep,e,c⟩:=x;exists z,y,xs,Paired.mapP r λp q z=>{z.1,J _ _ z.2.1,z.2.2},B,es,ep,k _ _ (.inl rfl) e,c
 |set S n=>obtain⟨B,es,ep,t,e,c⟩:=x;exists B,es,ep,t,k _ _ (.inl rfl) e,c
 |ins C dx fs =>
  let⟨d,z,ne,e,mA,⟨od,es,ep,e2,c⟩,r⟩:=x;exists O _ d,z,ne,k _ _ (.inl rfl) e,mA,{od,es,ep,k _ _ (.inr d) e2,c},r
 |own y=>obtain⟨B,e⟩:=x;exists B,k _ _ (.inl rfl) e
 |xd fs=>obtain⟨mA,⟨od,es,ep,e,c⟩,r⟩:=x;exists mA,{od,es,ep,k _ _ (.inl rfl) e,c},r
 |rng lo hi=>obtain⟨t,u,v,e⟩:=x;exists t,u,v,k _ _ (.inl rfl) e
 |frz B u G=>obtain⟨e,q⟩:=x;exists k _ _ (.inl rfl) e,G q
 |tbl ps =>
  let e:h.get? a=some {cls:=.none,data:=.fields ps}:=x;show h'.get? a=some {cls:=.none,data:=.fields ps};exact k a _ (.inl rfl) e
 |met f y =>
  let e:h.get? a=some (Je7 (.ref f) (.ref y)):=x;show h'.get? a=some (Je7 (.ref f) (.ref y));exact k a _ (.inl rfl) e
 |ext Y=>obtain⟨p,⟨o,e⟩,st⟩:=x;exists st _ _ p λo q=>k _ _ (.inl rfl) q,{o,k _ _ (.inl rfl) e},st
def HOk.lt(x:HOk P w H h)(e:H a=some o):a<h.objs.size:=(x a o e).lt
theorem HOk.fresh(x:HOk P w H h)(e:h.objs.size<=a):H a=none:=by
 cases q:H a with
 |none=>rfl
 |some u=>exact Dx (Gm (x.lt q) e) (Bb _)
def HOk.kept(x:HOk P w H h)(k:∀b u,h.get? b=some u->h'.get? b=some u):HOk P w H h':=λa o e =>
 (x a o e).stay (λb u _ q=>k b u q) (λ_ q=>q) λ_ _ q=>q
def HOk.laid(x:HOk P w H h)(k:∀b u,h.get? b=some u->h'.get? b=some u)(y:h.objs.size<=a)(new:Y0 P w (upd H a o) h' a o):HOk P w (upd H a o) h':=λb u e=>by
 let hn:=x.fresh y
 by_cases hb:b=a
 .subst hb;rw[Ze]at e;cases e;exact new
 .rw[Zo hb]at e;exact(x b u e).stay (λc v _ q=>k c v q) (λc q=>by rw[Zo (Zx q hn)];exact q) λc xs q=>by rw[Zo (Zx q hn)];exact q
end
def Rd(H:Hp)(a:Addr)(u:HO):Prop:=H a=some u\/∃o,H a=some (.frz o u)
def Rd.ok{a:Addr}{u:HO}(r:Rd H a u)(x:HOk P w H h):Y0 P w H h a u:=by
 rcases r with r|⟨o,r⟩
 .exact x a u r
 .let⟨_,q⟩:=x a _ r;exact q
def Mut:Option HO->Prop
 |some (.lst _)=>True
 |some (.dK _)=>True
 |some (.dT _)=>True
 |some (.set _ _)=>True
 |some (.ins _ _ _)=>True
 |some (.ext _)=>True
 |_=>False
section
variable{x e:Addr}{o':HO}
def HOk.write(ok:HOk P w H h)(mu:Mut (H x))(Z:e=x\/H e=some (.own x))(k:∀b u,b≠e->h.get? b=some u->h'.get? b=some u)(O:∃u,h'.get? e=some u)(new:Y0 P w (upd H x o') h' x o'):HOk P w (upd H x o') h':=λb u q=>by
 let B:∀c y,H c=some (.own y)->c≠x:=λc y r z=>by subst z;rw[r]at mu;exact mu
 let G:∀c xs,H c=some (.tup xs)->c≠x:=λc xs r z=>by subst z;rw[r]at mu;exact mu
 by_cases hb:b=x
 .subst hb;rw[Ze]at q;cases q;exact new
 .rw[Zo hb]at q
  by_cases hbe:b=e
  .let Y:H b=some (.own x):=by
    rcases Z with z|z
    .exact Dx (hbe.trans z) hb
    .rw[hbe];exact z
   rw[q]at Y;cases Y;let⟨v,hv⟩:=O;exact{v,by rw[hbe];exact hv}
  .refine(ok b u q).stay (λc v J r=>k c v ?_ r) (λc r=>by rw[Zo (B c b r)];exact r) λc xs r=>by rw[Zo (G c xs r)];exact r
   rcases J with rfl|J
   .exact hbe
   .rintro rfl;rcases Z with z|z
    .exact B c b J z
    .rw[J]at z;cases z;exact hb rfl
end
structure Un(fs ex:List Addr)(H H':Hp)(h h':Heap):Prop where
 keep:∀b o,h.get? b=some o->H b=none->b∉fs->b∉ex->h'.get? b=some o
 slot:∀b o,h.get? b=some o->H b=none->b∈fs->b∉ex->∃sl,h'.get? b=some {o with slots:=sl}
 free:∀b o,h.get? b=some o->H b=none->b∉ex->H' b=none
 there:∀b o,h.get? b=some o->b∉ex->∃o',h'.get? b=some o'
 tups:∀b xs,H b=some (.tup xs)->H' b=some (.tup xs)
 frzs:∀b o u,H b=some (.frz o u)->H' b=some (.frz o u)
 tbls:∀b ps,H b=some (.tbl ps)->∃more,H' b=some (.tbl (ps++more))
section
variable{fs ex:List Addr}{h1:Heap}{a x e:Addr}{o:HO}
def Un.any(u:Un fs ex H H1 h h1){b:Addr}{y:Obj}(q:h.get? b=some y)(n:H b=none)(hx:b∉ex):∃sl,h1.get? b=some {y with slots:=sl}:=by
 by_cases hb:b∈fs
 .exact u.slot b y q n hb hx
 .exists y.slots,u.keep b y q n hb hx
def Un.kept(k:∀b u,h.get? b=some u->h'.get? b=some u):Un fs ex H H h h' :=
 {λb y q _ _ _=>k b y q,λb y q _ _ _=>{y.slots,k b y q},λ_ _ _ n _=>n,λb y q _=>⟨y,k b y q⟩,λ_ _ q=>q,λ_ _ _ q=>q,λ_ ps q=>{#[],by rw[q];simp}}
def Un.refl:Un fs ex H H h h:=Un.kept λ_ _ q=>q
def Un.laid(k:∀b u,h.get? b=some u->h'.get? b=some u)(y:h.objs.size<=a)(hn:H a=none):Un fs ex H (upd H a o) h h' where
 keep:=λb u q _ _ _=>k b u q
 slot:=λb u q _ _ _=>{u.slots,k b u q}
 free:=λb u q n _=>by rw[Zo (Gn (Gm (D4 q) y))];exact n
 there:=λb u q _=>⟨u,k b u q⟩
 tups:=λb xs q=>by rw[Zo (Zx q hn)];exact q
 frzs:=λb u xs q=>by rw[Zo (Zx q hn)];exact q
 tbls:=λb ps q=>{#[],by rw[Zo (Zx q hn),q];simp}
def Un.write(mu:Mut (H x))(J:e=x\/H e=some (.own x))(k:∀b u,b≠e->h.get? b=some u->h'.get? b=some u)(B:∃u,h'.get? e=some u):Un fs ex H (upd H x o) h h':=by
 let hx:∀b,H b=none->b≠x:=λb n z=>by subst z;rw[n]at mu;exact mu
 let G:∀b,H b=none->b≠e:=λb n z=>by
  subst z;rcases J with r|r
  .exact hx b n r
  .rw[n]at r;cases r
 let y:∀b u,H b=some u->¬ Mut (some u)->b≠x:=λb u q nm z=>by subst z;rw[q]at mu;exact nm mu
 refine{λb u q n _ _=>k b u (G b n) q,λb u q n _ _=>{u.slots,k b u (G b n) q},λb u q n _=>by rw[Zo (hx b n)];exact n,λb u q _=>?_,
  λb xs q=>by rw[Zo (y b _ q λz=>z)];exact q,λb u xs q=>by rw[Zo (y b _ q λz=>z)];exact q,λb ps q=>{#[],by rw[Zo (y b _ q λz=>z),q];simp}}
 by_cases hbe:b=e
 .subst hbe;exact B
 .exists u,k b u hbe q
end
def trk(h:Heap)(H:Hp):List Addr:=(Cv h.objs.size).filter λa=>(H a).isSome
def hidT(h:Heap)(H:Hp):Heap:=W.hideAll h (trk h H)
def Zjr(h:Heap)(H:Hp):(hidT h H).objs.size=h.objs.size:=W.hideAll_size _ _
def Zmp{b:Addr}{o:Obj}(e:h.get? b=some o)(n:H b=none):(hidT h H).get? b=some o :=
 W.hideAll_get _ e λy=>by
  let q:(H b).isSome=true:=(Gi.mp y).2;rw[n]at q;simp at q
theorem Zqt{b:Addr}{o:Obj}(e:(hidT h H).get? b=some o):h.get? b=some o/\H b=none:=by
 let y:h.get? b=some o:=W.of_hideAll (trk h H) e;exists y,?_;cases q:H b with
 |none=>rfl
 |some x =>
  let B:b∈trk h H:=Gi.mpr {G0.mpr (D4 y),by simp[q]};let z:(hidT h H).get? b=none:=W.hideAll_none (trk h H) B;rw[z]at e;cases e
structure Mod(K:Cq)(mg:Str->Option Cb)(base:Heap):Prop where
 kin:K.In base
 glob:base.Ns Cw mg
 blt:∃mb,base.Ns Jc0 mb/\∀x:Str,x≠"__name__"->mb x=K5 x
 nolimit:base.NoLimit
structure Cx where
 prog:Ha
 w:Hz
 K:Cq
 mg:Str->Option Cb
 base:Heap
 A:Kw
 N:List Str
 s₀:Cc
 H₀:Hp
 env:Env
 outer:List Env
 stack:List Env
 ex:List Addr
 fn:Str->Bool
 calm:Bool
 pn:List (Addr×Obj)
 xe:Cb->Cc->Prop
variable{X:L2.Cx}
def frs(l:List Env):List Addr:=l.filterMap (·.frame)
abbrev Cx.fs(X:Cx):List Addr:=frs X.outer
def Vis(h:Scope)(x:Str):Prop:=h.names.lookup x=some .local\/h.names.lookup x=some .cell\/h.names.lookup x=some .free
def Loc(h:Scope)(x:Str):Prop:=h.names.lookup x=some .local\/h.names.lookup x=some .cell
def Look(env:Env)(h:Heap)(m:Str->Option Cb)(x:Str)(u:Cb):Prop :=
 (env.kindOf x=some .local/\m x=some u)\/((env.kindOf x=some .cell\/env.kindOf x=some .free)/\∃c,env.cells.lookup x=some c/\h.IsCell c (some u))
structure Cx.Ok(X:Cx):Prop where
 mod:Mod X.K X.mg X.base
 kind:X.env.scope.kind=.function
 glob:X.env.globals=Cw
 blt:X.env.builtins=Jc0
 above:X.s₀.heap.objs.size<=X.env.locals
 inj:∀x y c,X.env.cells.lookup x=some c->X.env.cells.lookup y=some c->x=y
 has:∀x,(X.env.kindOf x=some .cell\/X.env.kindOf x=some .free)->∃c,X.env.cells.lookup x=some c
 cab:∀x c,X.fn x=true->X.env.cells.lookup x=some c->X.s₀.heap.objs.size<=c
 hd:X.calm=true->X.A.handled=none
 frames:X.A.frames=some X.stack
 stk:X.stack=X.outer\/(X.stack=X.env::X.outer/\X.env.frame=some X.env.locals)
 exf:∀b∈X.ex,b≠X.env.locals/\∀x c,X.env.cells.lookup x=some c->c≠b
 bs:∀b o,X.base.get? b=some o->X.s₀.heap.get? b=some o/\X.H₀ b=none
 bsz:X.base.objs.size<=X.s₀.heap.objs.size
 noex:∀b o,X.base.get? b=some o->b∉X.ex
 exfs:∀b∈X.ex,b∉X.fs
 funs:X.s₀.heap.FunFrames X.base X.outer
 frf:∀b∈X.fs,X.H₀ b=none
structure Inv(X:Cx)(pz:List (Addr×Obj))(σ:List (Option V))(H:Hp)(s:Cc):Prop where
 ok:X.Ok
 os:s.os=X.s₀.os
 bare:Ja5 s.gens
 base:Un X.fs X.ex X.H₀ H X.s₀.heap s.heap
 loc:∃m,s.heap.Ns X.env.locals m/\∀(i:Nat)(x:Str)(v:V),X.N[i]?=some x->σ[i]?=some (some v)->Vis X.env.scope x->∃u,RelV v u/\Look X.env s.heap m x u
 cell:∀x c,X.env.cells.lookup x=some c->∃v,s.heap.IsCell c v
 free:H X.env.locals=none
 freeC:∀x c,X.env.cells.lookup x=some c->H c=none
 pin:∀p∈X.pn++pz,s.heap.get? p.1=some p.2/\H p.1=none/\p.1≠X.env.locals/\p.1∉X.fs/\∀v,p.2.data≠.cell v
 hok:HOk X.prog X.w H s.heap
 len:σ.length=X.N.length
section
variable{σ:List (Option V)} 
def Cx.Ok.nofr(ok:X.Ok){b:Addr}{o:Obj}(e:X.base.get? b=some o):b∉X.fs:=λh=>by
 let:=(ok.funs.mem h).1;rw[e]at this;cases this
def Inv.bs(I:Inv X pz σ H s):∀b o,X.base.get? b=some o->s.heap.get? b=some o/\H b=none:=λb o e =>
 {I.base.keep b o (I.ok.bs b o e).1 (I.ok.bs b o e).2 (I.ok.nofr e) (I.ok.noex b o e),I.base.free b o (I.ok.bs b o e).1 (I.ok.bs b o e).2 (I.ok.noex b o e)}
def Inv.bk(I:Inv X pz σ H s):∀b o,X.base.get? b=some o->s.heap.get? b=some o:=λb o e=>(I.bs b o e).1
def Inv.mod(I:Inv X pz σ H s):Mod X.K X.mg X.base:=I.ok.mod
def Inv.kIn(I:Inv X pz σ H s):X.K.In s.heap:=I.ok.mod.kin.keeps I.bk
def Inv.lt(I:Inv X pz σ H s):X.env.locals<s.heap.objs.size:=let⟨_,hn,_⟩:=I.loc;hn.lt
def Inv.sz(I:Inv X pz σ H s):X.s₀.heap.objs.size<=s.heap.objs.size:=Jx I.ok.above (Fi I.lt)
def Inv.nofs(I:Inv X pz σ H s){a:Addr}(h:s.heap.objs.size<=a):a∉X.fs:=λB=>by
 let⟨_,o,y,_⟩:=I.ok.funs.mem B;exact Dx (Gm (D4 y) (Jx I.sz h)) (Bb _)
def Inv.cne(I:Inv X pz σ H s):∀x c,X.env.cells.lookup x=some c->c≠X.env.locals:=λx c e z=>by
 let⟨v,o,B,hd⟩:=I.cell x c e;let⟨m,⟨o',es,ep,h,y,_⟩,_⟩:=I.loc;rw[z,h]at B;cases B;rw[y]at hd;cases hd
def Inv.funs(I:Inv X pz σ H s):s.heap.FunFrames X.base X.outer:=by
 let all:∀(l:List Env),(∀b∈frs l,b∈X.fs)->X.s₀.heap.FunFrames X.base l->s.heap.FunFrames X.base l:=by
  intro l
  induction l with
  |nil=>intro _ _;trivial
  |cons env r G =>
   intro hs hl;let⟨Y,⟨L,o,h,hn,O,hd⟩,J⟩:=hl;let B:L∈X.fs:=hs L (by unfold frs;rw[F0,h];exact List.mem_cons_self);let⟨sl,e⟩:=I.base.slot L o O (I.ok.frf L B) B λz=>I.ok.exfs L z B;exists Y,{L,_,h,hn,e,hd},G (λb y=>hs b (by unfold frs;rw[F0,h];exact List.mem_cons_of_mem _ y)) J
 exact all X.outer (λ_ y=>y) I.ok.funs
def Inv.stack(I:Inv X pz σ H s):s.heap.FunFrames X.base X.stack:=by
 rcases I.ok.stk with e|⟨e,hf⟩
 .rw[e];exact I.funs
 .rw[e];let⟨m,hn,_⟩:=I.loc;refine .cons (by rw[I.ok.kind];decide) hf hn ?_ I.funs;exact Heap.get?_none_of_le (Jx I.ok.bsz I.ok.above)
def Inv.stkSub(I:Inv X pz σ H s):∀b∈frs X.stack,b∈X.env.locals::X.fs:=λb h=>by
 rcases I.ok.stk with e|⟨e,hf⟩
 .rw[e]at h;exact Jf _ h
 .rw[e]at h;unfold frs at h;rw[F0,hf]at h;exact h
def Inv.stkFree(I:Inv X pz σ H s):∀b∈frs X.stack,H b=none:=λb h=>by
 rcases J9.mp (I.stkSub b h)with e|h
 .rw[e];exact I.free
 .let⟨_,o,y,_⟩:=I.ok.funs.mem h;exact I.base.free b o y (I.ok.frf b h) λz=>I.ok.exfs b z h
def Inv.step{g':Array GenState}{d':Drawn}{ch:List Addr}(I:Inv X pz σ H s)(y:∀b∈ch,(b∈X.ex\/X.s₀.heap.objs.size<=b)/\b≠X.env.locals/\(∀x c,X.env.cells.lookup x=some c->c≠b)/\∀p∈X.pn++pz,p.1≠b)(keep:∀b o,b≠X.env.locals->b∉X.fs->b∉ch->s.heap.get? b=some o->H b=none->h'.get? b=some o)(slot:∀b o,b≠X.env.locals->b∈X.fs->b∉ch->s.heap.get? b=some o->H b=none->∃sl,h'.get? b=some {o with slots:=sl})(free:∀b o,b∉ch->s.heap.get? b=some o->H b=none->H' b=none)(there:∀b o,b∉ch->s.heap.get? b=some o->∃o',h'.get? b=some o')(tups:∀b xs,H b=some (.tup xs)->H' b=some (.tup xs))(frzs:∀b o u,H b=some (.frz o u)->H' b=some (.frz o u))(tbls:∀b ps,H b=some (.tbl ps)->∃more,H' b=some (.tbl (ps++more)))(ns:∀m,s.heap.Ns X.env.locals m->h'.Ns X.env.locals m)(Z:HOk X.prog X.w H' h')(hg:Ja5 g') :
  Inv X pz σ H' {s with heap:=h',gens:=g',drawn:=d',toks:=t'}:=by
 let O:∀b o,X.s₀.heap.get? b=some o->b≠X.env.locals:=λb o e=>Gn (Gm (D4 e) I.ok.above);let B:∀b o,X.s₀.heap.get? b=some o->b∉X.ex->b∉ch:=λb o e hx G=>by
  rcases(y b G).1 with z|z
  .exact hx z
  .exact Dx (Gm (D4 e) z) (Bb _)
 let cellK:∀x c,X.env.cells.lookup x=some c->∀v,s.heap.IsCell c v->h'.IsCell c v:=λx c e v⟨o,J,hd⟩=>by
  let h:c∉ch:=λz=>(y c z).2.2.1 x c e rfl
  by_cases hc:c∈X.fs
  .let⟨sl,q⟩:=slot c o (I.cne x c e) hc h J (I.freeC x c e);exists _,q,hd
  .exists o,keep c o (I.cne x c e) hc h J (I.freeC x c e),hd
 exists I.ok,I.os,hg,{λb o e n G hx=>?_,λb o e n G hx=>?_,λb o e n hx=>?_,λb o e hx=>?_,λb xs e=>tups b xs (I.base.tups b xs e),λb o xs e=>frzs b o xs (I.base.frzs b o xs e),λb ps e=>?_},?_,λx c e=>?_,?_,λx c e=>?_,λp hp=>?_,Z,I.len
 .exact keep b o (O b o e) G (B b o e hx) (I.base.keep b o e n G hx) (I.base.free b o e n hx)
 .let⟨sl,e1⟩:=I.base.slot b o e n G hx;let⟨Y,e2⟩:=slot b _ (O b o e) G (B b o e hx) e1 (I.base.free b o e n hx);exists Y,e2
 .let⟨o',e1⟩:=I.base.there b o e hx;exact free b o' (B b o e hx) e1 (I.base.free b o e n hx)
 .let⟨o',e1⟩:=I.base.there b o e hx;exact there b o' (B b o e hx) e1
 .let⟨m1,e1⟩:=I.base.tbls b ps e;let⟨m2,e2⟩:=tbls b _ e1;exact{m1++m2,by rw[e2,Array.append_assoc]}
 .let⟨m,hn,hl⟩:=I.loc;exists m,ns m hn,λi x v e1 e2 e3=>?_;let⟨u,r,l⟩:=hl i x v e1 e2 e3;exists u,r,?_;rcases l with l|⟨k,c,e,z⟩
  .exact .inl l
  .exact .inr ⟨k,c,e,cellK x c e _ z⟩
 .let⟨v,z⟩:=I.cell x c e;exists v,cellK x c e v z
 .let⟨m,⟨o,_,_,J,_⟩,_⟩:=I.loc;exact free _ o (λz=>(y _ z).2.1 rfl) J I.free
 .let⟨v,o,J,hd⟩:=I.cell x c e;exact free c o (λz=>(y c z).2.2.1 x c e rfl) J (I.freeC x c e)
 .let⟨e,n,ne,nf,d⟩:=I.pin p hp;let h:p.1∉ch:=λz=>(y p.1 z).2.2.2 p hp rfl;exists keep p.1 p.2 ne nf h e n,free p.1 p.2 h e n,ne,nf,d
def Inv.un(I:Inv X pz σ H s)(u:Un X.fs [] H H' s.heap h')(y:HOk X.prog X.w H' h'):Inv X pz σ H' {s with heap:=h',toks:=t'}:=by
 let⟨m,⟨o,es,ep,O,r⟩,_⟩:=id I.loc;let⟨sl,hL⟩:=u.any O I.free (by simp);exact I.step (g':=s.gens) (d':=s.drawn) (ch:=[]) (λ_ z=>nomatch z) (λb o _ B _ e n=>u.keep b o e n B (by simp)) (λb o _ B _ e n=>u.slot b o e n B (by simp)) (λb o _ e n=>u.free b o e n (by simp)) (λb o _ e=>u.there b o e (by simp)) u.tups u.frzs u.tbls (λm' Z=>by
  let⟨o',G,J,h,Y⟩:=Z;rw[O]at h;cases h;exact{_,G,J,hL,Y}) y I.bare
def Inv.call{g':Array GenState}{d':Drawn}{ch:List Addr}(I:Inv X pz σ H s)(u:Un (frs X.stack) ch H H' s.heap h')(G:HOk X.prog X.w H' h')(hg:Ja5 g')(B:∀b∈ch,(b∈X.ex\/X.s₀.heap.objs.size<=b)/\b≠X.env.locals/\(∀x c,X.env.cells.lookup x=some c->c≠b)/\∀p∈X.pn++pz,p.1≠b) :
  Inv X pz σ H' {s with heap:=h',gens:=g',drawn:=d',toks:=t'}:=by
 let⟨m,⟨o,es,ep,Z,r⟩,_⟩:=id I.loc;let⟨sl,J⟩:=u.any Z I.free λz=>(B _ z).2.1 rfl;exact I.step (ch:=ch) B (λb o J hb h e n=>u.keep b o e n (λz=>(J9.mp (I.stkSub b z)).elim J hb) h) (λb o _ _ h e n=>u.any e n h) (λb o h e n=>u.free b o e n h) (λb o h e=>u.there b o e h) u.tups u.frzs u.tbls (λm' hm=>by
  let⟨o',O,Y,y,r'⟩:=hm;rw[Z]at y;cases y;exact{_,O,Y,J,r'}) G hg
def Inv.turned(I:Inv X pz σ H s)(k:∀b o,b≠it->s.heap.get? b=some o->h'.get? b=some o)(hn:H it=none)(B:it≠X.env.locals)(h1:it∈X.ex\/X.s₀.heap.objs.size<=it)(h2:∀x c,X.env.cells.lookup x=some c->c≠it)(h3:∀p∈X.pn++pz,p.1≠it):Inv X pz σ H {s with heap:=h',toks:=t'}:=by
 let y:∀b u,H b=some u->b≠it:=λb u e z=>by rw[z,hn]at e;cases e
 refine I.step (g':=s.gens) (d':=s.drawn) (ch:=[it]) (λb O=>?_) (λb o _ _ h e _=>k b o (λz=>h (by simp[z])) e) (λb o _ _ h e _=>{o.slots,k b o (λz=>h (by simp[z])) e}) (λ_ _ _ _ n=>n)
  (λb o h e=>{o,k b o (λz=>h (by simp[z])) e}) (λ_ _ e=>e) (λ_ _ _ e=>e) (λb ps e=>{#[],by rw[e];simp}) (λm J=>?_) (λb u e=>?_) I.bare
 .let e:b=it:=by simpa using O
  subst e;exists h1,B,h2,h3
 .let⟨o,es,ep,G,r⟩:=J;exists o,es,ep,k _ o (Hd B) G,r
 .refine(I.hok b u e).stay (λc v h q=>k c v ?_ q) (λ_ q=>q) λ_ _ q=>q;rcases h with z|z
  .rw[z];exact y b u e
  .exact y c _ z
def Inv.tok(I:Inv X pz σ H s)(t:Nat):Inv X pz σ H {s with toks:=t}:=I.un (h':=s.heap) (t':=t) Un.refl I.hok
def Inv.kept(I:Inv X pz σ H s)(k:∀b u,s.heap.get? b=some u->h'.get? b=some u):Inv X pz σ H {s with heap:=h',toks:=t'}:=I.un (Un.kept k) (I.hok.kept k)
def Inv.laid{a:Addr}{o:HO}(I:Inv X pz σ H s)(k:∀b u,s.heap.get? b=some u->h'.get? b=some u)(h:s.heap.objs.size<=a)(new:Y0 X.prog X.w (upd H a o) h' a o) :
  Inv X pz σ (upd H a o) {s with heap:=h',toks:=t'}:=I.un (Un.laid k h (I.hok.fresh h)) (I.hok.laid k h new)
def Inv.write{x e:Addr}{o:HO}(I:Inv X pz σ H s)(mu:Mut (H x))(y:e=x\/H e=some (.own x))(k:∀b u,b≠e->s.heap.get? b=some u->h'.get? b=some u)(h:∃u,h'.get? e=some u)(new:Y0 X.prog X.w (upd H x o) h' x o):Inv X pz σ (upd H x o) {s with heap:=h',toks:=t'}:=I.un (Un.write mu y k h) (I.hok.write mu y k h new)
def Inv.weak{h:List (Option V)}(I:Inv X pz σ H s)(hl:h.length=σ.length)(w:∀(i:Nat)v,h[i]?=some (some v)->σ[i]?=some (some v)):Inv X pz h H s :=
 {I.ok,I.os,I.bare,I.base,let⟨m,hn,y⟩:=I.loc;{m,hn,λi x v e1 e2 e3=>y i x v e1 (w i v e2) e3},I.cell,I.free,I.freeC,I.pin,I.hok,hl.trans I.len}
def Inv.pins_of{pins':List (Addr×Obj)}(I:Inv X pz σ H s)(h:∀p∈pins',s.heap.get? p.1=some p.2/\H p.1=none/\p.1≠X.env.locals/\p.1∉X.fs/\∀v,p.2.data≠.cell v):Inv X pins' σ H s :=
 {I.ok,I.os,I.bare,I.base,I.loc,I.cell,I.free,I.freeC,λp y=>(Jv.mp y).elim (λz=>I.pin p (Gs _ z)) (h p),I.hok,I.len}
def Zew(h:N.Nodup){i:Nat}{x:Str}(a:N[i]?=some x)(b:N[j]?=some x):i=j:=by
 let⟨h1,e1⟩:=Jg.mp a;let⟨h2,e2⟩:=Jg.mp b;exact(Bh h).mp (e1.trans e2.symm)
def Za0{M:Jfi}{i:Nat}{x:Str}{v:V}{u:Cb}{Q:Unit->Cc->Prop}(I:Inv X pz σ H s)(hN:X.N.Nodup)(hi:X.N[i]?=some x)(hx:Loc X.env.scope x)(r:RelV v u)(h:∀s',Inv X pz (σ.set i (some v)) H s'->(∃a,Hu a s.heap s'.heap/\(a=X.env.locals\/X.env.cells.lookup x=some a))->Q ⟨⟩ s')(hf:X.fn x=true\/X.env.scope.names.lookup x=some .local:=by first|left;rfl|right;rfl|assumption):Ck M A (Jgy X.env x u) Q E s:=by
 let⟨m,hn,hl⟩:=id I.loc;let a0:(X.env.scope.kind == .class ||(X.env.scope.kind == .module&&X.env.locals != X.env.globals))=false:=by rw[I.ok.kind];rfl
 let G:i < σ.length:=by rw[I.len];exact(Jg.mp hi).1
 let cne:=I.cne;let tracked:∀{a:Addr}{h':Heap},(∃o,s.heap.get? a=some o/\H a=none)->Hu a s.heap h'->HOk X.prog X.w H h':=λ{a h'}ha hs b ob e=>by
  let⟨_,_,hfree⟩:=ha;refine(I.hok b ob e).stay (λc w' B q=>(hs.2 c ?_).trans q) (λ_ q=>q) λ_ _ q=>q;rintro rfl;rcases B with rfl|B
  .rw[hfree]at e;cases e
  .rw[hfree]at B;cases B
 rcases hx with hk|hk
 .refine wpAny_storeName_local hk hn (λh' a3 hs=>?_) a0;let⟨oL,_,_,a2,_⟩:=id hn;refine h _ {I.ok,I.os,I.bare,{λb o e n O hx=>?_,λb o e n O hx=>?_,I.base.free,λb o e hx=>?_,I.base.tups,I.base.frzs,I.base.tbls},{_,a3,λj y v' e1 e2 e3=>?_},λy c e=>?_,I.free,I.freeC,λp hp=>?_,tracked {oL,a2,I.free} hs,by simpa using I.len} {_,hs,.inl rfl}
  .exact(hs.2 b (Gn (Gm (D4 e) I.ok.above))).trans (I.base.keep b o e n O hx)
  .let⟨sl,e1⟩:=I.base.slot b o e n O hx;exists sl,(hs.2 b (Gn (Gm (D4 e) I.ok.above))).trans e1
  .let⟨o',e1⟩:=I.base.there b o e hx;exists o',(hs.2 b (Gn (Gm (D4 e) I.ok.above))).trans e1
  .by_cases hj:j=i
   .subst hj;rw[hi]at e1;cases e1;rw[B4 G]at e2;cases e2;exists u,r,.inl ⟨hk,by simp⟩
   .rw[Ft (Hd hj)]at e2;let⟨u',r',q⟩:=hl j y v' e1 e2 e3;exists u',r',?_;rcases q with⟨k,e⟩|⟨k,c,e,z⟩
    .refine .inl {k,?_};let:y≠x:=λe=>hj (Zew hN e1 (e ▸ hi));simp[this,e]
    .exact .inr {k,c,e,z.sameBut hs (cne y c e)}
  .let⟨w',z⟩:=I.cell y c e;exists w',z.sameBut hs (cne y c e)
  .let⟨e,n,ne,nf,d⟩:=I.pin p hp;exists(hs.2 p.1 ne).trans e,n,ne,nf,d
 .let J:X.fn x=true:=by
   rcases hf with z|z
   .exact z
   .rw[z]at hk;cases hk
  let⟨c,B⟩:=I.ok.has x (.inl hk);let⟨w',z⟩:=I.cell x c B;refine wpAny_storeName_cell I.ok.kind hk B z (λh' a1 hs=>?_);let⟨oc,Z,Y⟩:=id z;refine h {s with heap:=h'} {I.ok,I.os,I.bare,{λb o e n O hx=>?_,λb o e n O hx=>?_,I.base.free,λb o e hx=>?_,I.base.tups,I.base.frzs,I.base.tbls},{m,hn.sameBut hs (Hd (cne x c B)),λj y v' e1 e2 e3=>?_},λy c' e=>?_,I.free,I.freeC,λp hp=>?_,tracked {oc,Z,I.freeC x c B} hs,by simpa using I.len} {c,hs,.inr B}
  .exact(hs.2 b (Gn (Gm (D4 e) (I.ok.cab x c J B)))).trans (I.base.keep b o e n O hx)
  .let⟨sl,e1⟩:=I.base.slot b o e n O hx;exists sl,(hs.2 b (Gn (Gm (D4 e) (I.ok.cab x c J B)))).trans e1
  .let⟨o',e1⟩:=I.base.there b o e hx;exists o',(hs.2 b (Gn (Gm (D4 e) (I.ok.cab x c J B)))).trans e1
  .by_cases hj:j=i
   .subst hj;rw[hi]at e1;cases e1;rw[B4 G]at e2;cases e2;exists u,r,.inr {.inl hk,c,B,a1}
   .rw[Ft (Hd hj)]at e2;let⟨u',r',q⟩:=hl j y v' e1 e2 e3;exists u',r',?_;rcases q with q|⟨k,c',e,z'⟩
    .exact .inl q
    .refine .inr {k,c',e,z'.sameBut hs ?_};rintro rfl;exact hj (Zew hN e1 (I.ok.inj _ _ _ e B ▸ hi))
  .by_cases hcc:c'=c
   .subst hcc;exists _,a1
   .let⟨w2,z2⟩:=I.cell y c' e;exists w2,z2.sameBut hs hcc
  .let⟨e,n,ne,nf,d⟩:=I.pin p hp;exists(hs.2 p.1 ?_).trans e,n,ne,nf,d;intro q;rw[q,Z]at e;let q':oc=p.2:=Jaa e;exact d w' (by rw[<-q'];exact Y)
def Nb{M:Jfi}{i:Nat}{x:Str}{v:V}{u:Cb}{Q:Unit->Cc->Prop}(I:Inv X pz σ H s)(B:X.N.Nodup)(hi:X.N[i]?=some x)(hx:Loc X.env.scope x)(r:RelV v u)(h:∀s',Inv X pz (σ.set i (some v)) H s'->Q ⟨⟩ s')(y:X.fn x=true\/X.env.scope.names.lookup x=some .local:=by first|left;rfl|right;rfl|assumption):Ck M A (Jgy X.env x u) Q E s :=
 Za0 I B hi hx r (λs' I' _=>h s' I') y
def Inv.call'{s':Cc}{ch:List Addr}(I:Inv X pz σ H s)(B:s'.os=s.os)(u:Un (frs X.stack) ch H H' s.heap s'.heap)(h:HOk X.prog X.w H' s'.heap)(G:Ja5 s'.gens)(y:∀b∈ch,(b∈X.ex\/X.s₀.heap.objs.size<=b)/\b≠X.env.locals/\(∀x c,X.env.cells.lookup x=some c->c≠b)/\∀p∈X.pn++pz,p.1≠b):Inv X pz σ H' s':=by
 let⟨h',g',d',t',o'⟩:=s';let e:o'=s.os:=B;subst e;exact I.call (g':=g') (t':=t') (d':=d') u h G y
end
abbrev XK:=Cb->Option Addr->Hp->Prop
abbrev St:=List (Option V)
variable{σ:L2.St}
abbrev VK:=V->Hp->Prop
variable{Q:L2.VK}
abbrev TE:=St->Hp->VK->Prop
variable{te ta tb to tv:L2.TE}
abbrev TT:=St->Hp->(Bool->Hp->Prop)->Prop
abbrev TA:=St->Hp->(List V->Hp->Prop)->Prop
structure Ends where
 nx:St->Hp->Prop
 rt:VK
 bk:St->Hp->Prop:=λ_ _=>False
 ct:St->Hp->Prop:=λ_ _=>False
abbrev TS:=Ends->St->Hp->Prop
def EP(X:Cx)(pz:List (Addr×Obj))(σ:St)(Q:VK)(u:Cb)(s':Cc):Prop:=∃v H',Inv X pz σ H' s'/\RelV v u/\Q v H'
def TP(X:Cx)(pz:List (Addr×Obj))(σ:St)(Q:Bool->Hp->Prop)(b:Bool)(s':Cc):Prop:=∃H',Inv X pz σ H' s'/\Q b H'
def AP(X:Cx)(pz:List (Addr×Obj))(σ:St)(Q:List V->Hp->Prop)(us:List Cb)(s':Cc):Prop:=∃vs H',Inv X pz σ H' s'/\Vals vs us/\Q vs H'
def SP(X:Cx)(pz:List (Addr×Obj))(D:Ends)(f:Flow)(s':Cc):Prop :=
 match f with
 |.next=>∃h H',Inv X pz h H' s'/\D.nx h H'
 |.brk=>∃h H',Inv X pz h H' s'/\D.bk h H'
 |.cont=>∃h H',Inv X pz h H' s'/\D.ct h H'
 |.ret u=>∃v h H',Inv X pz h H' s'/\RelV v u/\D.rt v H'
def PE(X:Cx)(e:Expr)(t:TE):Prop :=
 ∀(pz:List (Addr×Obj))(s:Cc)(σ:St)(H:Hp)(Q:VK),Inv X pz σ H s->t σ H Q->Ck (Cn X.prog X.w) X.A (eval e X.env) (EP X pz σ Q) X.xe s
def PT(X:Cx)(e:Expr)(t:TT):Prop :=
 ∀(pz:List (Addr×Obj))(s:Cc)(σ:St)(H:Hp)(Q:Bool->Hp->Prop),Inv X pz σ H s->t σ H Q->Ck (Cn X.prog X.w) X.A (isTrue e X.env (eval e X.env)) (TP X pz σ Q) X.xe s
def PW(X:Cx)(e:Expr)(t:TT):Prop :=
 ∀(whole:Sem Cb)(pz:List (Addr×Obj))(s:Cc)(σ:St)(H:Hp)(Q:Bool->Hp->Prop),Inv X pz σ H s->t σ H Q->Ck (Cn X.prog X.w) X.A (isTrue e X.env whole) (TP X pz σ Q) X.xe s
def PW.pt{e:Expr}{t:TT}(h:PW X e t):PT X e t:=h _
def PA(X:Cx)(es:List Expr)(t:TA):Prop :=
 ∀(pos:Pos)(pz:List (Addr×Obj))(s:Cc)(σ:St)(H:Hp)(Q:List V->Hp->Prop),Inv X pz σ H s->t σ H Q->Ck (Cn X.prog X.w) X.A (spliced (Kl pos (Cs es X.env))) (AP X pz σ Q) X.xe s
def PS(X:Cx)(st:Stmt)(t:TS):Prop :=
 ∀(pz:List (Addr×Obj))(s:Cc)(σ:St)(H:Hp)(D:Ends),Inv X pz σ H s->t D σ H->Ck (Cn X.prog X.w) X.A (exec st X.env) (SP X pz D) X.xe s
def PSs(X:Cx)(st:List Stmt)(t:TS):Prop :=
 ∀(pz:List (Addr×Obj))(s:Cc)(σ:St)(H:Hp)(D:Ends),Inv X pz σ H s->t D σ H->Ck (Cn X.prog X.w) X.A (execs st X.env) (SP X pz D) X.xe s
def thn{α:Type}{t:Sem α}{Q y:α->Cc->Prop}{M:Jfi}(h:Ck M A t Q E s)(B:∀a s,Q a s->y a s):Ck M A t y E s:=Jac h B λ_ _ x=>x
section
def tVar(i:Nat):TE:=λσ H Q=>∃v,σ[i]?=some (some v)/\Q v H
def tC(v:V):TE:=λ_ H Q=>Q v H
def Zt6{i:Nat}{x:Str}(Y:X.N[i]?=some x)(J:Vis X.env.scope x)(hd:(x==("__debug__":Str))=false:=by decide)(B:(x==("__classdict__":Str))=false:=by decide):PE X (.Name x pos) (tVar i):=by
 intro pz s σ H Q I h;let⟨v,e,h⟩:=h;let⟨m,hn,hl⟩:=I.loc;let⟨u,r,l⟩:=hl i x v Y e J;let fin:EP X pz σ Q u s:=⟨v,H,I,r,h⟩;rcases l with⟨y,O⟩|⟨y,c,G,hcell⟩
 .exact Jfx (Jc3 I.ok.kind y hn O fin) hd
 .rcases y with y|y
  .exact Jfx (Jc9 I.ok.kind y G hcell fin) hd
  .exact Jfx (wpAny_loadName_free I.ok.kind y G hcell fin B) hd
def Zf{i j pos}:PE X (.Constant (.int i) j pos) (tC (.int i)):=λ_ _ _ H _ I h=>wpAny_Constant_int {.int i,H,I.tok _,{_,rfl},h}
def Nq{b j pos}:PE X (.Constant (.bool b) j pos) (tC (.bl b)):=λ_ _ _ H _ I h=>Constant_bool {.bl b,H,I,rfl,h}
def W1{j pos}:PE X (.Constant .none j pos) (tC .non):=λ_ _ _ H _ I h=>Jdv {.non,H,I,rfl,h}
def Zik{x j pos}:PE X (.Constant (.str x) j pos) (tC (.str x)):=λ_ _ _ H _ I h=>Calls.Constant_str {.str x,H,I.tok _,{_,rfl},h}
def Gl(X:Cx)(x:Str):Prop:=X.env.kindOf x=some .globalImplicit
def Zc3{x:Str}{u:Cb}{Q:Cb->Cc->Prop}(I:Inv X pz σ H s)(B:Gl X x)(y:X.mg x=some u)(h:Q u s)(hd:(x==("__debug__":Str))=false:=by decide):Ck (Cn X.prog X.w) X.A (eval (.Name x pos) X.env) Q E s :=
 Lv I.ok.kind B (Calls.loadGlobal_global (by rw[I.ok.glob];exact I.mod.glob.keeps I.bk) y h) hd
def Pn{x:Str}{u:Cb}{Q:Cb->Cc->Prop}(I:Inv X pz σ H s)(G:Gl X x)(B:X.mg x=none)(y:K5 x=some u)(h:Q u s)(hn:x≠"__name__":=by decide)(hd:(x==("__debug__":Str))=false:=by decide):Ck (Cn X.prog X.w) X.A (eval (.Name x pos) X.env) Q E s:=by
 let⟨J,h1,h2⟩:=I.mod.blt;exact Lv I.ok.kind G (Calls.loadGlobal_builtin (by rw[I.ok.glob];exact I.mod.glob.keeps I.bk) B (by rw[I.ok.blt];exact h1.keeps I.bk) ((h2 x hn).trans y) h) hd
def Zil{x:Str}{v:V}{u:Cb}(B:Gl X x)(y:X.mg x=some u)(r:RelV v u)(hd:(x==("__debug__":Str))=false:=by decide):PE X (.Name x pos) (tC v) :=
 λ_ _ _ H _ I h=>Zc3 I B y ⟨v,H,I,r,h⟩ hd
def Np{x:Str}{v:V}{u:Cb}(G:Gl X x)(B:X.mg x=none)(y:K5 x=some u)(r:RelV v u)(hn:x≠"__name__":=by decide)(hd:(x==("__debug__":Str))=false:=by decide):PE X (.Name x pos) (tC v) :=
 λ_ _ _ H _ I h=>Pn I G B y ⟨v,H,I,r,h⟩ hn hd
variable{a b:Expr} 
def PC(X:Cx)(op:Jgk)(a b:Expr)(t:TE):Prop :=
 ∀(pz:List (Addr×Obj))(s:Cc)(σ:St)(H:Hp)(Q:VK),Inv X pz σ H s->t σ H Q ->
  Ck (Cn X.prog X.w) X.A (eval a X.env) (λv y=>Ck (Cn X.prog X.w) X.A (eval b X.env) (λu h=>Ck (Cn X.prog X.w) X.A (Ep op v u) (EP X pz σ Q) X.xe h) X.xe y) X.xe s
def Zex(b:Expr){op:Jgk}(h:op≠.In)(h2:op≠.NotIn):Hj op b=false:=by
 let e1:(op==Jgk.In)=false:=by cases op<;>first|rfl|exact Dx rfl h
 let e2:(op==Jg9)=false:=by cases op<;>first|rfl|exact Dx rfl h2
 cases b<;>simp[Hj,e1,e2]
def tIsN(ta:TE):TE:=λσ H Q=>ta σ H λx H1=>Q (.bl (decide (x=.non))) H1
def Zs3(ta:TE):TE:=λσ H Q=>ta σ H λx H1=>Q (.bl (!decide (x=.non))) H1
theorem RelV.none_iff{x:V}{v:Cb}(r:RelV x v):(v==Cb.none)=decide (x=.non):=by
 cases x with
 |non=>cases r;rfl
 |bl _=>cases r;rfl
 |int _=>obtain⟨t,rfl⟩:=r;rfl
 |str _=>obtain⟨t,rfl⟩:=r;rfl
 |byt _=>obtain⟨t,rfl⟩:=r;rfl
 |flt _=>obtain⟨t,rfl⟩:=r;rfl
 |ref _=>cases r;rfl
 |ty _=>cases r;rfl
def Vs{j pos'}(G:PE X a ta):PC X .Is a (.Constant .none j pos') (tIsN ta):=by
 intro pz s σ H Q I h;refine thn (G pz s σ H _ I h) λv O hz=>?_;let⟨x,H1,J,y,B⟩:=hz;exact Jdv (is_none_gen {.bl _,H1,J,by rw[y.none_iff];rfl,B})
def Nr{j pos'}(G:PE X a ta):PC X .IsNot a (.Constant .none j pos') (Zs3 ta):=by
 intro pz s σ H Q I h;refine thn (G pz s σ H _ I h) λv O hz=>?_;let⟨x,H1,J,y,B⟩:=hz;exact Jdv (isnot_none_gen {.bl _,H1,J,by rw[y.none_iff];rfl,B})
def tB(t:TE):TT:=λσ H Q=>t σ H λx H1=>∃c,x=.bl c/\Q c H1
def Zim{op:Jgk}{t:TE}(h:PC X op a b t)(h1:Hj op b=false:=by first|exact Zex _ nofun nofun|rfl):PE X (.Compare a [op] [b] pos) t:=λpz s σ H Q I hw=>wpAny_Compare1 (h pz s σ H Q I hw) h1
def X9{op:Jgk}{t:TE}(h:PC X op a b t)(h1:Hj op b=false:=by first|exact Zex _ nofun nofun|rfl):PT X (.Compare a [op] [b] pos) (tB t):=by
 intro pz s σ H Q I hw;refine Ja6 (thn (h pz s σ H _ I hw) λv Y h1=>thn h1 λu O h2=>thn h2 λc J hz=>?_) h1;let⟨x,H1,G,y,B⟩:=hz;let⟨d,rfl,q⟩:=B;cases y;exact Ek ⟨H1,G,q⟩
def Sz{e:Expr}{t:TE}(h:PE X e t)(G:∀whole,isTrue e X.env whole=(do let v <-whole;Jdp e.pos;L9 [v] (truthy v)):=by intro _;rfl):PT X e (tB t):=by
 intro pz s σ H Q I hw;refine isTrue_plain (thn (h pz s σ H _ I hw) λv O hz=>?_) (G _);let⟨x,H1,J,y,B⟩:=hz;let⟨d,rfl,q⟩:=B;cases y;exact Ek ⟨H1,J,q⟩
variable{tA tB':TT}{rest:List Expr}
def tAnd(t u:TT):TT:=λσ H Q=>t σ H λc H1=>if c=true then u σ H1 Q else Q false H1
def tOr(t u:TT):TT:=λσ H Q=>t σ H λc H1=>if c=true then Q true H1 else u σ H1 Q
def tNot(t:TT):TT:=λσ H Q=>t σ H λc H1=>Q (!c) H1
theorem Zif(y:PT X a tA):PW X (.BoolOp .And [a] pos) tA:=by
 intro B pz s σ H Q I h;refine isTrue_and (thn (y pz s σ H Q I h) λc G e=>?_);cases c with
 |true=>exact isTrue_and_nil e
 |false=>exact e
theorem Zie(y:PT X a tA):PW X (.BoolOp .Or [a] pos) tA:=by
 intro B pz s σ H Q I h;refine isTrue_or (thn (y pz s σ H Q I h) λc G e=>?_);cases c with
 |false=>exact isTrue_or_nil e
 |true=>exact e
theorem Zn4(Y:PT X a tA)(O:PW X (.BoolOp .And (b::rest) pos) tB'):PW X (.BoolOp .And (a::b::rest) pos) (tAnd tA tB'):=by
 intro G pz s σ H Q I h;refine isTrue_and (thn (Y pz s σ H _ I h) λc J hz=>?_);let⟨H1,B,y⟩:=hz;cases c with
 |true=>exact O G pz J σ H1 Q B y
 |false=>exact⟨H1,B,y⟩
theorem Zqf(Y:PT X a tA)(O:PW X (.BoolOp .Or (b::rest) pos) tB'):PW X (.BoolOp .Or (a::b::rest) pos) (tOr tA tB'):=by
 intro G pz s σ H Q I h;refine isTrue_or (thn (Y pz s σ H _ I h) λc J hz=>?_);let⟨H1,B,y⟩:=hz;cases c with
 |true=>exact⟨H1,B,y⟩
 |false=>exact O G pz J σ H1 Q B y
def Zig(y:PT X a tA):PT X (.UnaryOp .Not a pos) (tNot tA):=by
 intro pz s σ H Q I h;exact isTrue_not (y pz s σ H (λc H1=>Q (!c) H1) I h)
def tOrV(ta tb:TE):TE:=λσ H Q=>ta σ H λx H1=>∃c,x=.bl c/\if c=true then Q (.bl true) H1 else tb σ H1 Q
def Zs2(ta:TE):TE:=λσ H Q=>ta σ H λx H1=>∃c,x=.bl c/\Q (.bl (!c)) H1
def Zn9{op}{t:TE}(h:PE X a t):PE X (.BoolOp op [a] pos) t:=λpz s σ H Q I hw=>BoolOp_one (h pz s σ H Q I hw)
theorem Zt8(Y:PE X a ta)(O:PE X (.BoolOp .Or (b::rest) pos) tb):PE X (.BoolOp .Or (a::b::rest) pos) (tOrV ta tb):=by
 intro pz s σ H Q I h;refine BoolOp_or (thn (Y pz s σ H _ I h) λv G hz=>?_);let⟨x,H1,B,J,y⟩:=hz;let⟨c,rfl,y⟩:=y;cases J;refine Ek ?_;cases c with
 |false=>exact O pz G σ H1 Q B y
 |true=>exact{.bl true,H1,B,rfl,y}
def Zt9(G:PE X a ta):PE X (.UnaryOp .Not a pos) (Zs2 ta):=by
 intro pz s σ H Q I h;refine UnaryOp_ (thn (G pz s σ H _ I h) λv O hz=>?_);let⟨x,H1,J,B,y⟩:=hz;let⟨c,rfl,y⟩:=y;cases B;exact not_of (Ek {.bl (!c),H1,J,rfl,y})
def tIf(t:TT)(ta tb:TE):TE:=λσ H Q=>t σ H λc H1=>if c=true then ta σ H1 Q else tb σ H1 Q
theorem Tx{c:Expr}(J:PT X c tA)(Y:PE X a ta)(O:PE X b tb):PE X (.IfExp c a b pos) (tIf tA ta tb):=by
 intro pz s σ H Q I h;refine wpAny_IfExp (thn (J pz s σ H _ I h) λd y hz=>?_);let⟨H1,G,B⟩:=hz;cases d with
 |true=>exact Y pz y σ H1 Q G B
 |false=>exact O pz y σ H1 Q G B
end
def SqL(K:Cq)(H:Hp)(a:Addr)(xs:List V):Prop :=
 Rd H a (.lst xs) \/
  ∃(o:Obj)(its:Array Cb)(n:Nat),K.lookup a=some o/\o.cls=.type "list"/\o.dict=none/\o.data=.seq its n/\its.size<=Ca/\Vals xs its.toList
def SqT(K:Cq)(H:Hp)(a:Addr)(xs:List V):Prop :=
 Rd H a (.tup xs) \/
  ∃(o:Obj)(its:Array Cb)(n:Nat),K.lookup a=some o/\o.cls=.type "tuple"/\o.data=.seq its n/\its.size<=Ca/\Vals xs its.toList
def absV:Cb->Option V
 |.none=>some .non
 |.bool b=>some (.bl b)
 |.int i _=>some (.int i)
 |.str x _=>some (.str x)
 |.bytes b _=>some (.byt b)
 |.float b _=>some (.flt b)
 |.ref a=>some (.ref a)
 |.type n=>some (.ty n)
 |_=>none
theorem RelV.abs{x:V}{u:Cb}(r:RelV x u):absV u=some x:=by
 cases x with
 |non=>cases r;rfl
 |bl _=>cases r;rfl
 |int _=>obtain⟨t,rfl⟩:=r;rfl
 |str _=>obtain⟨t,rfl⟩:=r;rfl
 |byt _=>obtain⟨t,rfl⟩:=r;rfl
 |flt _=>obtain⟨t,rfl⟩:=r;rfl
 |ref _=>cases r;rfl
 |ty _=>cases r;rfl
def RelV.inj{x:V}{u:Cb}(r:RelV x u)(q:RelV y u):x=y:=Jaa (r.abs.symm.trans q.abs)
theorem Vals.inj:∀{xs ys:List V}{us:List Cb},Vals xs us->Vals ys us->xs=ys:=by
 intro _ _ _ y h;cases y with
 |nil=>
  cases h with
  |nil=>
   exact rfl
 |cons r t=>
  cases h with
  |cons B t'=>
   exact by rw[r.inj B,Vals.inj t t']
section
variable{a:Addr} 
def SqL.of(h:H a=some (.lst xs)):SqL K H a xs:=.inl (.inl h)
def SqT.of(h:H a=some (.tup xs)):SqT K H a xs:=.inl (.inl h)
theorem Inv.list(I:Inv X pz σ H s)(h:SqL X.K H a xs):∃its:List Cb,Vals xs its/\PlainL s.heap a its.toArray/\xs.length<=Ca:=by
 rcases h with h|⟨o,its,n,hk,hc,hd,hs,hz,r⟩
 .let⟨z,its,n,r,e⟩:=h.ok I.hok;exists its,r,{_,n,e,rfl,rfl,rfl},z
 .exists its.toList,r,{o,n,I.kIn a o hk,hc,hd,by simpa using hs},?_;let e:=r.length;simp only[Jm]at e;lia
theorem Inv.tuple(I:Inv X pz σ H s)(h:SqT X.K H a xs):∃its:List Cb,Vals xs its/\IsTup s.heap a its.toArray/\xs.length<=Ca:=by
 rcases h with h|⟨o,its,n,hk,hc,hs,hz,r⟩
 .let⟨z,its,r,p⟩:=h.ok I.hok;exists its,r,p.tup,z
 .exists its.toList,r,{o,I.kIn a o hk,hc,n,by simpa using hs},?_;let e:=r.length;simp only[Jm]at e;lia
def Inv.list_inj(I:Inv X pz σ H s)(h:SqL X.K H a xs)(h':SqL X.K H a ys):xs=ys:=by
 let⟨its,r,⟨o,n,e,_,_,d⟩,_⟩:=I.list h;let⟨its',B,⟨o',G,y,_,_,d'⟩,_⟩:=I.list h';rw[e]at y;cases y;rw[d]at d';injection d' with d1 _
 let:its=its':=by simpa using congrArg Jer d1
 subst this;exact r.inj B
def Inv.tuple_inj(I:Inv X pz σ H s)(h:SqT X.K H a xs)(h':SqT X.K H a ys):xs=ys:=by
 let⟨its,r,⟨o,e,_,n,d⟩,_⟩:=I.tuple h;let⟨its',B,⟨o',y,_,G,d'⟩,_⟩:=I.tuple h';rw[e]at y;cases y;rw[d]at d';injection d' with d1 _
 let:its=its':=by simpa using congrArg Jer d1
 subst this;exact r.inj B
end
abbrev Cx.wish(X:Cx)(E:Cb->Cc->Prop):Cx:={X with xe:=E}
abbrev Cx.nox(X:Cx):Cx:=X.wish λ_ _=>False
def Cx.Ok.wish(ok:X.Ok)(E:Cb->Cc->Prop):(X.wish E).Ok :=
 {ok.mod,ok.kind,ok.glob,ok.blt,ok.above,ok.inj,ok.has,ok.cab,ok.hd,ok.frames,ok.stk,ok.exf,ok.bs,ok.bsz,ok.noex,ok.exfs,ok.funs,ok.frf}
def Cx.Ok.unwish(ok:(X.wish E).Ok):X.Ok :=
 {ok.mod,ok.kind,ok.glob,ok.blt,ok.above,ok.inj,ok.has,ok.cab,ok.hd,ok.frames,ok.stk,ok.exf,ok.bs,ok.bsz,ok.noex,ok.exfs,ok.funs,ok.frf}
section
def Inv.wish(I:Inv X pz σ H s)(E:Cb->Cc->Prop):Inv (X.wish E) pz σ H s:={I.ok.wish E,I.os,I.bare,I.base,I.loc,I.cell,I.free,I.freeC,I.pin,I.hok,I.len}
def Inv.unwish(I:Inv (X.wish E) pz σ H s):Inv X pz σ H s:={I.ok.unwish,I.os,I.bare,I.base,I.loc,I.cell,I.free,I.freeC,I.pin,I.hok,I.len}
theorem SP.unwish{D:Ends}{f:Flow}{s':Cc}(h:SP (X.wish E) pz D f s'):SP X pz D f s':=by
 cases f with
 |next=>obtain⟨y,H',I,q⟩:=h;exists y,H',I.unwish,q
 |brk=>obtain⟨y,H',I,q⟩:=h;exists y,H',I.unwish,q
 |cont=>obtain⟨y,H',I,q⟩:=h;exists y,H',I.unwish,q
 |ret u=>obtain⟨v,y,H',I,r,q⟩:=h;exists v,y,H',I.unwish,r,q
def PSs.nox{st:List Stmt}{t:TS}(h:PSs X.nox st t):PSs X st t:=λpz s σ H D I hw =>
 Jac (h pz s σ H D (I.wish _) hw) (λ_ _ q=>q.unwish) λ_ _ z=>C3 z
end
section
variable{rest:List Stmt}{t u:TS}{e:Expr} 
def Zs4:TS:=λD σ H=>D.nx σ H
def tSeq(t u:TS):TS:=λD σ H=>t {D with nx:=u D} σ H
def Z2:PSs X [] Zs4:=λ_ _ σ H _ I h=>Ll ⟨σ,H,I,h⟩
theorem Zb(h1:PS X st t)(h2:PSs X rest u):PSs X (st::rest) (tSeq t u):=by
 intro pz s σ H D I h;refine Jey (thn (h1 pz s σ H {D with nx:=u D} I h) λf B q=>?_);cases f with
 |next =>
  let⟨y,H',I',q⟩:=q;exact h2 pz B y H' D I' q
 |ret v=>exact q
 |brk=>exact q
 |cont=>exact q
theorem Zg(h1:PS X st t):PSs X [st] t:=by
 intro pz s σ H D I h;refine Jey (thn (h1 pz s σ H D I h) λf y q=>?_);cases f with
 |next=>exact Ll q
 |ret v=>exact q
 |brk=>exact q
 |cont=>exact q
def Inv.quiet(I:Inv X pz σ H s):interactive X.env=false:=by simp[interactive,I.ok.kind]
def Zs7(te:TE):TS:=λD σ H=>te σ H λ_ H1=>D.nx σ H1
def U3(B:PE X e te)(hs:Ja7 e none pos.line X.env=pure false:=by rfl):PS X (.Expr e pos) (Zs7 te):=by
 intro pz s σ H D I h;exact wpAny_Expr_any (thn (B pz s σ H _ I h) λv J⟨x,H1,G,O,y⟩=>⟨σ,H1,G,y⟩) I.quiet hs
def tRet(te:TE):TS:=λD σ H=>te σ H D.rt
def Zy(G:PE X e te):PS X (.Return (some e) pos) (tRet te):=by
 intro pz s σ H D I h;exact wpAny_Return_some (thn (G pz s σ H _ I h) λv O⟨x,H1,J,y,B⟩=>⟨x,σ,H1,J,y,B⟩)
def Zwt:TS:=λD _ H=>D.rt .non H
def Zqg:PS X (.Return none pos) Zwt:=λ_ _ σ H _ I h=>wpAny_Return_none {.non,σ,H,I,rfl,h}
def tIfS(c:TT)(t u:TS):TS:=λD σ H=>c σ H λb H1=>if b=true then t D σ H1 else u D σ H1
theorem Yz{c:Expr}{a b:List Stmt}{tc:TT}(J:PT X c tc)(Y:PSs X a t)(O:PSs X b u):PS X (.If c a b pos) (tIfS tc t u):=by
 intro pz s σ H D I h;refine wpAny_If (thn (J pz s σ H _ I h) λd y hz=>?_);let⟨H1,G,B⟩:=hz;cases d with
 |true=>exact Y pz y σ H1 D G B
 |false=>exact O pz y σ H1 D G B
def Zs5:TS:=λ_ _ _=>False
def Zen:PS X st Zs5:=λ_ _ _ _ _ _ h=>h.elim
end
abbrev TG:=V->St->Hp->(St->Hp->Prop)->Prop
abbrev TGs:=List V->St->Hp->(St->Hp->Prop)->Prop
def PG(X:Cx)(target:Expr)(t:TG):Prop :=
 ∀(pz:List (Addr×Obj))(s:Cc)(σ:St)(H:Hp)(v:V)(u:Cb)(Q:St->Hp->Prop),Inv X pz σ H s->RelV v u->t v σ H Q ->
  Ck (Cn X.prog X.w) X.A (Jes target X.env u) (λ_ s'=>∃h H',Inv X pz h H' s'/\Q h H') X.xe s
def PGs(X:Cx)(ts:List Expr)(t:TGs):Prop :=
 ∀(pz:List (Addr×Obj))(s:Cc)(σ:St)(H:Hp)(vs:List V)(us:List Cb)(Q:St->Hp->Prop),Inv X pz σ H s->Vals vs us->t vs σ H Q ->
  Ck (Cn X.prog X.w) X.A (assignInOrder ((Mc ts X.env).map (·.2)) us) (λ_ s'=>∃h H',Inv X pz h H' s'/\Q h H') X.xe s
abbrev TSet:=V->V->V->Hp->(Hp->Prop)->Prop
def PSet(X:Cx)(t:TSet):Prop :=
 ∀(pz:List (Addr×Obj))(s:Cc)(σ:St)(H:Hp)(o i v:V)(h y u:Cb)(Q:Hp->Prop),Inv X pz σ H s->RelV o h->RelV i y->RelV v u->t o i v H Q ->
  Ck (Cn X.prog X.w) X.A (Jgl h y u) (λ_ s'=>∃H',Inv X pz σ H' s'/\Q H') X.xe s
abbrev TIp:=V->V->Hp->VK->Prop
def PIp(X:Cx)(op:Jgm)(t:TIp):Prop :=
 ∀(pz:List (Addr×Obj))(s:Cc)(σ:St)(H:Hp)(x y:V)(v u:Cb)(Q:VK),Inv X pz σ H s->RelV x v->RelV y u->t x y H Q ->
  Ck (Cn X.prog X.w) X.A (inplaceOp op v u) (EP X pz σ Q) X.xe s
section
def Zdb(i:Nat):TG:=λv σ H Q=>Q (σ.set i (some v)) H
def Zl{i:Nat}{x:Str}(B:X.N.Nodup)(hi:X.N[i]?=some x)(hx:Loc X.env.scope x)(y:X.fn x=true\/X.env.scope.names.lookup x=some .local:=by first|left;rfl|right;rfl|assumption):PG X (.Name x pos) (Zdb i):=by
 intro pz s σ H v u Q I r h;exact Jed (Nb I B hi hx r (λs' I'=>{_,H,I',h}) y)
def gNil:TGs:=λvs σ H Q=>vs=[]/\Q σ H
def Zrg(t:TG)(u:TGs):TGs:=λvs σ H Q=>∃v r,vs=v::r/\t v σ H λh H'=>u r h H' Q
def Yw:PGs X [] gNil:=by
 intro pz s σ H vs us Q I r h;let⟨e,h⟩:=h;subst e;cases r;exact assignInOrder_nil ⟨σ,H,I,h⟩
theorem Zu{e:Expr}{t:TG}{u:TGs}(h1:PG X e t)(h2:PGs X es u)(hs:(Mc (e::es) X.env).map (·.2)=Jes e X.env::(Mc es X.env).map (·.2):=by rfl):PGs X (e::es) (Zrg t u):=by
 intro pz s σ H vs us Q I r h;let⟨v,Y,e1,h⟩:=h;subst e1;cases r with
 |cons r G =>
  rw[hs];refine assignInOrder_cons (thn (h1 pz s σ H _ _ _ I r h) λ_ B hz=>?_);let⟨y,H1,O,J⟩:=hz;exact h2 pz B y H1 _ _ Q O G J
def gTup(K:Cq)(n:Nat)(t:TGs):TG:=λv σ H Q=>∃a xs,v=.ref a/\SqT K H a xs/\xs.length=n/\t xs σ H Q
def Xq{k:Nat}{t:TGs}{n:Nat}(O:X.calm=true)(h:PGs X es t)(hn:(Mc es X.env).length=n:=by rfl)(y:(Mc es X.env).findIdx? (·.1)=none:=by rfl):PG X (.Tuple es k pos) (gTup X.K n t):=by
 intro pz s σ H v u Q I r hw;let⟨a,xs,e1,J,hl,hw⟩:=hw;subst e1;cases r;let⟨its,B,G,hz⟩:=I.tuple J;refine assign_Tuple_tuple (I.ok.hd O) G (by simp[hn,<-hl,B.length]) y λh' hx=>?_;let Y:Inv X pz σ H {s with heap:=h'}:=I.kept (t':=s.toks) λb o e=>hx b o (Gn (D4 e)) e;exact h pz _ σ H xs _ Q Y (by simpa using B) hw
def gSub(to h:TE)(t:TSet):TG:=λv σ H Q=>to σ H λo H1=>h σ H1 λi B=>t o i v B λy=>Q σ y
def Zep{o i:Expr}{J:TE}{t:TSet}(ho:PE X o to)(hi:PE X i J)(hs:PSet X t)(ha:∀v,Jes (.Subscript o i pos) X.env v=(do
   let B <-L9 [v] (eval o X.env)
   let G <-L9 [v,B] (eval i X.env)
   Jdp pos
   L9 [v,B,G] (Jgl B G v)
   release [v,B,G] []):=by intro _;rfl):PG X (.Subscript o i pos) (gSub to J t):=by
 intro pz s σ H v u Q I r h;rw[ha];refine D0 (Ec (thn (ho pz s σ H _ I h) λB Y hz=>?_));let⟨x,H1,I1,r1,q1⟩:=hz;refine D0 (Ec (thn (hi pz Y σ H1 _ I1 q1) λG O hz=>?_));let⟨y,H2,I2,Z,q2⟩:=hz;refine D0 (Lf (D0 (Ec (thn (hs pz O σ H2 x y v B G u _ I2 r1 Z r q2) λ_ s3 hz=>?_))));let⟨H3,I3,q3⟩:=hz;exact wpAny_release ⟨σ,H3,I3,q3⟩
def tAsg(te:TE)(g:TG):TS:=λD σ H=>te σ H λx H1=>g x σ H1 D.nx
def Pj{e:Expr}{g:TG}(O:PE X e te)(J:PG X tg g)(hs:swapsWithSole [tg] e pos.line X.env=pure false:=by rfl)(hw:swappedStores [tg] e X.env=pure none:=by rfl)(h1:(Mc [tg] X.env).map (·.2)=[Jes tg X.env]:=by rfl):PS X (.Assign [tg] e pos) (tAsg te g):=by
 intro pz s σ H D I h;refine wpAny_Assign_stores (thn (O pz s σ H _ I h) λv y hz=>?_) hs hw;let⟨x,H1,Y,B,G⟩:=hz;rw[h1];exact thn (J pz y σ H1 x v _ Y B G) λ_ Z q=>q
def Zq{i:Nat}{x:Str}{e:Expr}(Y:X.N.Nodup)(hi:X.N[i]?=some x)(hx:Loc X.env.scope x)(O:PE X e te)(hs:Ja7 e (some (.Name x pos')) pos.line X.env=pure false:=by rfl)(J:X.fn x=true\/X.env.scope.names.lookup x=some .local:=by first|left;rfl|right;rfl|assumption) :
  PS X (.Assign [.Name x pos'] e pos) (tAsg te (Zdb i)):=by
 intro pz s σ H D I h;refine wpAny_Assign_Name (thn (O pz s σ H _ I h) λv s1 hz=>?_) hs;let⟨y,H1,I1,B,G⟩:=hz;exact Nb I1 Y hi hx B (λs2 Z=>{_,H1,Z,G}) J
def tAug(i:Nat)(te:TE)(h:TIp):TS:=λD σ H=>∃x,σ[i]?=some (some x)/\te σ H λy H1=>h x y H1 λz B=>D.nx (σ.set i (some z)) B
def Za8{i:Nat}{x:Str}{e:Expr}{op:Jgm}{Y:TIp}(hN:X.N.Nodup)(hi:X.N[i]?=some x)(hx:Loc X.env.scope x)(he:PE X e te)(ho:PIp X op Y)(hf:X.fn x=true\/X.env.scope.names.lookup x=some .local:=by first|left;rfl|right;rfl|assumption) :
  PS X (.AugAssign (.Name x pos') op e pos) (tAug i te Y):=by
 intro pz s σ H D I h;let⟨v,e1,h⟩:=h;let⟨m,hn,hl⟩:=I.loc;let O:Vis X.env.scope x:=by rcases hx with k|k;exact .inl k;exact .inr (.inl k)
 let⟨u,r,l⟩:=hl i x v hi e1 O;refine wpAny_AugAssign_Name ?_;let Z:Ck (Cn X.prog X.w) X.A (eval e X.env) (λw J=>Ck (Cn X.prog X.w) X.A (inplaceOp op u w) (λr G=>Ck (Cn X.prog X.w) X.A (Jgy X.env x r) (λ_=>SP X pz D .next) X.xe G) X.xe J) X.xe s:=by
  refine thn (he pz s σ H _ I h) λw s1 hz=>?_;let⟨y,H1,I1,r1,q1⟩:=hz;refine thn (ho pz s1 σ H1 v y u w _ I1 r r1 q1) λz s2 hz=>?_;let⟨zv,H2,I2,r2,q2⟩:=hz;exact Nb I2 hN hi hx r2 (λs3 I3=>{_,H2,I3,q2}) hf
 rcases l with⟨B,hm⟩|⟨B,c,hc,hcell⟩
 .exact Jc3 I.ok.kind B hn hm Z
 .rcases B with B|B
  .exact Jc9 I.ok.kind B hc hcell Z
  .rcases hx with k|k
   .let:X.env.scope.names.lookup x=some .free:=B;rw[k]at this;cases this
   .let:X.env.scope.names.lookup x=some .free:=B;rw[k]at this;cases this
def Zwu(to J te:TE)(B:V->V->Hp->VK->Prop)(G:TIp)(h:TSet):TS:=λD σ H=>to σ H λo H1=>J σ H1 λi H2=>B o i H2 λx H3=>te σ H3 λy Z=>G x y Z λz Y=>h o i z Y λO=>D.nx σ O
def PGet(X:Cx)(t:V->V->Hp->VK->Prop):Prop :=
 ∀(pz:List (Addr×Obj))(s:Cc)(σ:St)(H:Hp)(o i:V)(h y:Cb)(Q:VK),Inv X pz σ H s->RelV o h->RelV i y->t o i H Q ->
  Ck (Cn X.prog X.w) X.A (Lc h y) (EP X pz σ Q) X.xe s
def Zqh{o i e:Expr}{ti:TE}{B:V->V->Hp->VK->Prop}{Y:TIp}{y:TSet}{op:Jgm}{O:Pos}(ho:PE X o to)(hi:PE X i ti)(hg:PGet X B)(he:PE X e te)(hp:PIp X op Y)(hs:PSet X y)(ha:∀G J new,augStore i G J new=(do L9 [new,G,J] (Jgl G J new);release [new,G,J] [];pure .next):=by intros;rfl):PS X (.AugAssign (.Subscript o i O) op e pos) (Zwu to ti te B Y y):=by
 intro pz s σ H D I h;refine wpAny_AugAssign_SubscriptAny (thn (ho pz s σ H _ I h) λG s1 hz=>?_) ha;let⟨x1,H1,I1,r1,q1⟩:=hz;refine thn (hi pz s1 σ H1 _ I1 q1) λJ s2 hz=>?_;let⟨Z,H2,I2,r2,q2⟩:=hz;refine thn (hg pz s2 σ H2 x1 Z G J _ I2 r1 r2 q2) λold s3 hz=>?_;let⟨x3,H3,I3,r3,q3⟩:=hz;refine thn (he pz s3 σ H3 _ I3 q3) λv s4 hz=>?_;let⟨x4,H4,I4,r4,q4⟩:=hz;refine thn (hp pz s4 σ H4 x3 x4 old v _ I4 r3 r4 q4) λnew s5 hz=>?_;let⟨x5,H5,I5,r5,q5⟩:=hz;exact thn (hs pz s5 σ H5 x1 Z x5 G J new _ I5 r1 r2 r5 q5) λ_ s6⟨H6,I6,q6⟩=>⟨σ,H6,I6,q6⟩
def ipI(f:Int->Int->Int):TIp:=λx y H Q=>∃i j,x=.int i/\y=.int j/\Q (.int (f i j)) H
def Pp:PIp X .Add (ipI λi j=>i+j):=by
 intro pz s σ H x y v u Q I G B h;let⟨i,j,e1,e2,q⟩:=h;subst e1;subst e2;let⟨t,rfl⟩:=G;let⟨t',rfl⟩:=B;exact iadd_int {.int _,H,I.tok _,{_,rfl},q}
end
section
def Znf(c:TT)(tb:TS):TS:=λD σ H=>∃W:Nat->St->Hp->Prop,(∃m,W m σ H)/\∀m σ H,W m σ H ->
 c σ H λb H1=>if b=true then ∃N:St->Hp->Prop,(∀h H',N h H'->∃y,y<m/\W y h H')/\tb {D with nx:=N,ct:=N,bk:=D.nx} σ H1 else D.nx σ H1
theorem Nm{c:Expr}{body:List Stmt}{tc:TT}{tb:TS}(hp:PassesOwn (Cn X.prog X.w) X.A X.env X.xe)(hc:PT X c tc)(hb:PSs X body tb):PS X (.While c body [] pos) (Znf tc tb):=by
 intro pz s σ H D I h;let⟨W,⟨m0,w0⟩,turn⟩:=h;refine wpAny_While (codeAny_whileLoop (λn s'=>∃G H',Inv X pz G H' s'/\W n G H') ?_ m0 ⟨σ,H,I,w0⟩);rintro n s1 ⟨B,H1,I1,w1⟩;refine He hp (thn (hc pz s1 B H1 _ I1 (turn n B H1 w1)) λb s2 hz=>?_);let⟨H2,I2,Y⟩:=hz;cases b with
 |true =>
  let⟨N,hN,Y⟩:=Y;rw[D7 rfl];refine He hp (thn (hb pz s2 B H2 _ I2 Y) λf s3 O=>?_);cases f with
  |next =>
   let⟨y,J,I3,n3⟩:=O;let⟨m',hm,Z⟩:=hN y J n3;exists m',hm,y,J,I3,Z
  |cont =>
   let⟨y,J,I3,n3⟩:=O;let⟨m',hm,Z⟩:=hN y J n3;exists m',hm,y,J,I3,Z
  |brk=>exact O
  |ret v=>exact O
 |false =>
  rw[D6 Gd];exact Ll ⟨B,H2,I2,Y⟩
end
structure It where
 go:Nat->Hp->Prop
 yld:Nat->Hp->V->Hp->Prop
 stop:Nat->Hp->Prop
def FpOk(X:Cx)(pz:List (Addr×Obj))(H:Hp)(b:Addr):Prop :=
 H b=none/\b≠X.env.locals/\b∉X.fs/\(b∈X.ex\/X.s₀.heap.objs.size<=b)/\(∀x c,X.env.cells.lookup x=some c->c≠b)/\∀p∈X.pn++pz,p.1≠b
def Inv.fpOk{b:Addr}(I:Inv X pz σ H s)(h:s.heap.objs.size<=b)(hn:H' b=none):FpOk X pz H' b:=by
 exists hn,Nat.ne_of_gt (Gm I.lt h),I.nofs h,.inr (Jx I.sz h),λx c e z=>?_,λp y z=>?_
 .let⟨v,q⟩:=I.cell x c e;exact Dx (Gm q.lt (by rw[z];exact h)) (Bb _)
 .exact Dx (Gm (D4 (I.pin p y).1) (by rw[z];exact h)) (Bb _)
structure Turn(P:Ha)(w:Hz)(K:Cq)(tg:Expr)(J:It)(fp:List Addr)(it:Addr)(tn:Nat->Heap->Prop):Prop where
 mem:it∈fp
 obj:∀i h,tn i h->∀b∈fp,∃o,h.get? b=some o/\∀v,o.data≠.cell v
 keep:∀i h h',tn i h->(∀b∈fp,∀o,h.get? b=some o->h'.get? b=some o)->tn i h'
 item:∀(X:Cx),X.prog=P->X.w=w->X.K=K->X.calm=true->∀(i:Nat)(pz:List (Addr×Obj))(s:Cc)(σ:St)(H:Hp)(E:Cb->Cc->Prop),Inv X pz σ H s->(∀b∈fp,FpOk X pz H b)->tn i s.heap->J.go i H ->
  Ck (Cn P w) X.A (Jc5 (.ref it)) (λr s1=>∃u,r=some u /\
   Ck (Cn P w) X.A (Lm tg (.ref it) u) (λ_ s2=>∃x H',Inv X pz σ H' s2/\RelV x u/\J.yld i H x H'/\tn (i+1) s2.heap/\∀b∈fp,H' b=none) E s1) E s
 done:∀(X:Cx),X.prog=P->X.w=w->X.K=K->X.calm=true->∀(i:Nat)(pz:List (Addr×Obj))(s:Cc)(σ:St)(H:Hp)(E:Cb->Cc->Prop),Inv X pz σ H s->(∀b∈fp,FpOk X pz H b)->tn i s.heap->J.stop i H ->
  Ck (Cn P w) X.A (Jc5 (.ref it)) (λr s1=>r=none/\Inv X pz σ H s1) E s
 self:∀(A:Kw)(i:Nat)(s:Cc)(Q:Cb->Cc->Prop)(E:Cb->Cc->Prop),tn i s.heap->Q (.ref it) s->Ck (Cn P w) A (pyIter (.ref it)) Q E s
abbrev TI:=St->Hp->(It->Hp->Prop)->Prop
variable{wi:L2.TI}
def PIE(X:Cx)(pz:List (Addr×Obj))(σ:St)(tg:Expr)(R:It->Hp->Prop)(h:Cb)(B:Cc):Prop :=
 ∃(it:Addr)(fp:List Addr)(y:Nat->Heap->Prop)(J:It)(H':Hp),h=.ref it/\Inv X pz σ H' B/\Turn X.prog X.w X.K tg J fp it y/\y 0 B.heap/\(∀b∈fp,FpOk X pz H' b)/\R J H'
def PI(X:Cx)(tg iter:Expr)(wi:TI):Prop :=
 ∀(pz:List (Addr×Obj))(s:Cc)(σ:St)(H:Hp)(R:It->Hp->Prop),Inv X pz σ H s->wi σ H R ->
  Ck (Cn X.prog X.w) X.A (eval iter X.env) (λv h=>Ck (Cn X.prog X.w) X.A (pyIter v) (PIE X pz σ tg R) X.xe h) X.xe s
def Zms{M:Jfi}{u:Cb}{o:Obj}{n:String}{vs:Array Cb}{Q:Unit->Cc->Prop}(B:s.heap.get? it=some o)(G:o.cls=.type n)(hd:o.data=.fields vs)(hn:["enumerate","zip","dict_itemiterator","dict_reverseitemiterator","odict_iterator","itertools.zip_longest","itertools.pairwise"].contains n=false)(y:Q ⟨⟩ s):Ck M A (Lm tg (.ref it) u) Q E s:=by
  unfold Lm;cases tg<;>first
    |exact D1 y
    | (cases u <;> first
        |exact D1 y
        | (refine D0 (wpAny_load B ?_)
           rw[G,hd];show Ck M A (if(["enumerate","zip","dict_itemiterator","dict_reverseitemiterator","odict_iterator","itertools.zip_longest","itertools.pairwise"].contains n&&vs[0]? == some (Ke _))=true then _ else _) Q E s;rw[D6 (by intro h;rw[hn,Jfj]at h;cases h)];exact D1 y))
def Itl(K:Cq)(a:Addr):It :=
 {λi H=>∃xs x,SqL K H a xs/\xs[i]?=some x,λi H x H'=>H'=H/\∀xs,SqL K H a xs->xs[i]?=some x,λi H=>∃xs,SqL K H a xs/\xs.length<=i}
def Itt(K:Cq)(a:Addr):It :=
 {λi H=>∃xs x,SqT K H a xs/\xs[i]?=some x,λi H x H'=>H'=H/\∀xs,SqT K H a xs->xs[i]?=some x,λi H=>∃xs,SqT K H a xs/\xs.length<=i}
def Itr(lo:Int)(n:Nat):It:={λi _=>i<n,λi H x H'=>H'=H/\x=.int (lo+i),λi _=>n<=i}
theorem Zgx(a it:Addr):Turn P w K tg (Itl K a) [it] it (λi h=>h.IsListIter it a i) where
 mem:=by simp
 obj:=λi h st b y=>by
  let e:b=it:=by simpa using y
  subst e;let⟨o,e,c,d⟩:=st;exact{o,e,λv z=>by rw[d]at z;cases z}
 keep:=λi h h' st k=>st.at λo e=>k it (by simp) o e
 item:=by
  intro X Z hw hK hc i pz s σ H E I J st Y;subst Z hw hK;let⟨xs,x,G,hx⟩:=Y;let⟨its,O,p,hz⟩:=I.list G;let⟨u,hu,ru⟩:=O.get hx;let⟨f0,f1,f2,f3,f4,f5⟩:=J it (by simp);refine M8 st p.isList (x:=u) (by simpa using hu) λh' B sb=>?_;let I1:Inv X pz σ H {s with heap:=h'}:=I.turned (t':=s.toks) (λb o y e=>(sb.2 b y).trans e) f0 f1 f3 f4 f5;let⟨o,e,c,d⟩:=id B;exists u,rfl,Zms (s:={s with heap:=h'}) e c d nofun {x,H,I1,ru,{rfl,λys hy=>by rw[I.list_inj hy G];exact hx},B,λb y=>(J b y).1}
 done:=by
  intro X Z hw hK hc i pz s σ H E I J st Y;subst Z hw hK;let⟨xs,G,hx⟩:=Y;let⟨its,O,p,hz⟩:=I.list G;let⟨f0,f1,f2,f3,f4,f5⟩:=J it (by simp);let hl:=O.length;exact Ja8 (I.ok.hd hc) st p.isList (by simp;lia) λh' eb=>{rfl,I.turned (t':=s.toks) (λb o y e=>eb b o y e) f0 f1 f3 f4 f5}
 self:=λ_ _ _ _ _ st h=>wpAny_pyIter_listiter st h
theorem Zfp(a it:Addr):Turn P w K tg (Itt K a) [it] it (λi h=>h.IsTupleIter it a i) where
 mem:=by simp
 obj:=λi h st b y=>by
  let e:b=it:=by simpa using y
  subst e;let⟨o,e,c,d⟩:=st;exact{o,e,λv z=>by rw[d]at z;cases z}
 keep:=λi h h' st k=>st.at λo e=>k it (by simp) o e
 item:=by
  intro X Z hw hK hc i pz s σ H E I J st Y;subst Z hw hK;let⟨xs,x,G,hx⟩:=Y;let⟨its,O,p,hz⟩:=I.tuple G;let⟨u,hu,ru⟩:=O.get hx;let⟨f0,f1,f2,f3,f4,f5⟩:=J it (by simp);refine Mo st (show s.heap.IsTuple a its.toArray from p) (x:=u) (by simpa using hu) λh' B sb=>?_;let I1:Inv X pz σ H {s with heap:=h'}:=I.turned (t':=s.toks) (λb o y e=>(sb.2 b y).trans e) f0 f1 f3 f4 f5;let⟨o,e,c,d⟩:=id B;exists u,rfl,Zms (s:={s with heap:=h'}) e c d nofun {x,H,I1,ru,{rfl,λys hy=>by rw[I.tuple_inj hy G];exact hx},B,λb y=>(J b y).1}
 done:=by
  intro X Z hw hK hc i pz s σ H E I J st Y;subst Z hw hK;let⟨xs,G,hx⟩:=Y;let⟨its,O,p,hz⟩:=I.tuple G;let⟨f0,f1,f2,f3,f4,f5⟩:=J it (by simp);let hl:=O.length;exact M9 (I.ok.hd hc) st (show s.heap.IsTuple a its.toArray from p) (by simp;lia) λh' eb=>{rfl,I.turned (t':=s.toks) (λb o y e=>eb b o y e) f0 f1 f3 f4 f5}
 self:=λ_ _ _ _ _ st h=>wpAny_pyIter_tupleiter st h
theorem Zfq(it:Addr)(lo:Int)(n:Nat):Turn P w K tg (Itr lo n) [it] it (λi h=>IsRangeIter h it (lo+(i:Nat)*1) ((n:Int)-(i:Nat)) 1) where
 mem:=by simp
 obj:=λi h st b y=>by
  let e:b=it:=by simpa using y
  subst e;exact{_,st,λv z=>by
   let z':Data.fields _=Data.cell v:=z;cases z'}
 keep:=λi h h' st k=>k it (by simp) _ st
 item:=by
  intro X Y hw Z O i pz s σ H E I G st J;subst Y hw Z;let⟨f0,f1,f2,f3,f4,f5⟩:=G it (by simp);let W:=Walks.range (prog:=X.prog) (w:=X.w) (I.ok.hd O) it lo 1 n;refine W.item i s _ _ J st λv h' tk hv B kk=>?_;let⟨t,rfl⟩:=hv;let I1:Inv X pz σ H {s with heap:=h',toks:=tk}:=I.turned (λb o y e=>kk b o (by simpa using y) e) f0 f1 f3 f4 f5;exists ·,Zms (s:={s with heap:=h',toks:=tk}) (n:="range_iterator") B rfl rfl nofun {.int (lo+i),H,I1,{t,?_},⟨rfl,rfl⟩,B,λb y=>(G b y).1};rw[Jha]
 done:=by
  intro X Y hw Z O i pz s σ H E I G st J;subst Y hw Z;let⟨f0,f1,f2,f3,f4,f5⟩:=G it (by simp);exact wpAny_pyNext_range_end (I.ok.hd O) st (by have:n<=i:=J;lia) λh' eb=>{rfl,I.turned (t':=s.toks) (λb o y e=>eb b o y e) f0 f1 f3 f4 f5}
 self:=λ_ _ _ _ _ st h=>wpAny_pyIter_rangeiter st h
section
def Zrb(K:Cq)(tl:TE):TI:=λσ H R=>tl σ H λx H1=>∃a,x=.ref a/\(∃xs,SqL K H1 a xs)/\R (Itl K a) H1
def iTup(K:Cq)(tl:TE):TI:=λσ H R=>tl σ H λx H1=>∃a,x=.ref a/\(∃xs,SqT K H1 a xs)/\R (Itt K a) H1
def Z5{l:Expr}{tl:TE}(hl:PE X l tl):PI X tg l (Zrb X.K tl):=by
 intro pz s σ H R I h;refine thn (hl pz s σ H _ I h) λv y hz=>?_;let⟨x,H1,B,G,J⟩:=hz;let⟨a,e,⟨xs,O⟩,q⟩:=J;subst e;cases G;let⟨its,Z,p,hz⟩:=B.list O;refine Ky p.isList ?_;exists y.heap.objs.size,[y.heap.objs.size],_,_,H1,rfl,B.kept (t':=y.toks) λb o e=>D2 _ e,Zgx a _,{_,D3 _ rfl,rfl,rfl},λb Y=>?_,q;let e:b=y.heap.objs.size:=by simpa using Y
 subst e;exact B.fpOk (Ji _) (B.hok.fresh (Ji _))
def R7{l:Expr}{tl:TE}(hl:PE X l tl):PI X tg l (iTup X.K tl):=by
 intro pz s σ H R I h;refine thn (hl pz s σ H _ I h) λv y hz=>?_;let⟨x,H1,B,G,J⟩:=hz;let⟨a,e,⟨xs,O⟩,q⟩:=J;subst e;cases G;let⟨its,Z,p,hz⟩:=B.tuple O;refine Jdw (show y.heap.IsTuple a its.toArray from p) ?_;exists y.heap.objs.size,[y.heap.objs.size],_,_,H1,rfl,B.kept (t':=y.toks) λb o e=>D2 _ e,Zfp a _,{_,D3 _ rfl,rfl,rfl},λb Y=>?_,q;let e:b=y.heap.objs.size:=by simpa using Y
 subst e;exact B.fpOk (Ji _) (B.hok.fresh (Ji _))
theorem Zl0{R:It->Hp->Prop}{lo hi:Int}{t u v:Tok}{tk:Nat}(I:Inv X pz σ H s)(h1:-(2 ^ 62)<=lo)(h2:lo<2 ^ 62)(h3:-(2 ^ 62)<=hi)(h4:hi<2 ^ 62)(q:R (Itr lo (hi-lo).toNat) H):Ck (Cn X.prog X.w) X.A (pyIter (.ref s.heap.objs.size)) (PIE X pz σ tg R) E {s with heap:=s.heap.push {cls:=.type "range",data:=.fields #[.int lo t,.int hi u,.int 1 v]},toks:=tk}:=by
 refine wpAny_pyIter_range (IsRange.new ..) (small_one h1 h2 h3 h4) ?_;let h:Inv X pz σ H {s with heap:=s.heap.push {cls:=.type "range",data:=.fields #[.int lo t,.int hi u,.int 1 v]},toks:=tk}:=I.kept λb o e=>D2 _ e;refine{(s.heap.push {cls:=.type "range",data:=.fields #[.int lo t,.int hi u,.int 1 v]}).objs.size,[(s.heap.push {cls:=.type "range",data:=.fields #[.int lo t,.int hi u,.int 1 v]}).objs.size],_,_,H,rfl,
  h.kept (t':=tk) λb o e=>D2 _ e,Zfq _ lo (hi-lo).toNat,?_,λb y=>?_,q}
 .let e1:lo+((0:Nat):Int)*1=lo:=by simp
  let e2:(((hi-lo).toNat:Nat):Int)-((0:Nat):Int)=Jgn lo hi 1:=by rw[rangeSize_one];split<;>lia
  show IsRangeIter _ _ (lo+((0:Nat):Int)*1) ((((hi-lo).toNat:Nat):Int)-((0:Nat):Int)) 1;rw[e1,e2];exact D3 _ rfl
 .let e:b=(s.heap.push {cls:=.type "range",data:=.fields #[.int lo t,.int hi u,.int 1 v]}).objs.size:=by simpa using y
  subst e;exact h.fpOk (Ji _) (h.hok.fresh (Ji _))
def Zu3(ta:TA):TI:=λσ H R=>ta σ H λvs H1=>∃j:Int,vs=[.int j]/\-(2 ^ 62)<=j/\j<2 ^ 62/\R (Itr 0 j.toNat) H1
theorem Yq{a:Expr}{ta:TA}{p:Pos}(Y:Gl X "range")(O:X.mg "range"=none)(Z:PA X [a] ta)(hs:Cs [a] X.env=[(false,eval a X.env)]:=by rfl):PI X tg (.Call (.Name "range" p) [a] [] pos) (Zu3 ta):=by
 intro pz s σ H R I h;refine Call_ (Pn I Y O boot_range (Ln (thn (Z pos pz s σ H _ I h) λus s1 hz=>?_) hs rfl));let⟨vs,H1,I1,G,y⟩:=hz;let⟨j,e,y,J,q⟩:=y;subst e;cases G with
 |cons r B =>
  cases B;let⟨t,rfl⟩:=r;exact call_range_1 (Zl0 I1 () () y J (by simpa using q))
def tFor(wi:TI)(g:TG)(tb:TS):TS:=λD σ H=>wi σ H λJ H1=>∃W:Nat->Nat->St->Hp->Prop,(∃m,W 0 m σ H1)/\∀i m σ H,W i m σ H ->
 (J.stop i H/\D.nx σ H)\/(J.go i H/\∃N:St->Hp->Prop,(∀h H',N h H'->∃B,B<m/\W (i+1) B h H')/\∀x H',J.yld i H x H'->g x σ H' λy G=>tb {D with nx:=N,ct:=N,bk:=D.nx} y G)
def Zbb(fp:List Addr)(h:Heap):List (Addr×Obj):=fp.filterMap λb=>(h.get? b).map λo=>(b,o)
def Uf{b:Addr}{o:Obj}(y:b∈fp)(e:h.get? b=some o):(b,o)∈Zbb fp h:=F5.mpr {b,y,by rw[e];rfl}
theorem Zis{p:Addr×Obj}(y:p∈Zbb fp h):p.1∈fp/\h.get? p.1=some p.2:=by
 let⟨b,B,e⟩:=F5.mp y;cases q:h.get? b with
 |none=>rw[q]at e;cases e
 |some o =>
  rw[q]at e;let G:(b,o)=p:=Jaa e;subst G;exists B,q
def Inv.pinned(I:Inv X pz σ H s)(J:∀b∈fp,FpOk X pz H b)(G:∀b∈fp,∃o,s.heap.get? b=some o/\∀v,o.data≠.cell v):Inv X (pz++Zbb fp s.heap) σ H s :=
 I.pins_of λp B=>(Jv.mp B).elim (λz=>I.pin p (Jp _ z)) λz=>by
  let⟨h,e⟩:=Zis z;let⟨Z,Y,O,_⟩:=J p.1 h;let⟨o,y,d⟩:=G p.1 h;rw[e]at y;cases y;exists e,Z,Y,O,d
def Inv.unpinned{pl:List (Addr×Obj)}(I:Inv X (pz++pl) σ H s):Inv X pz σ H s:=I.pins_of λp h=>I.pin p (Jp _ (Gs _ h))
def Y1{iter:Expr}{body:List Stmt}{g:TG}{tb:TS}(hp:PassesOwn (Cn X.prog X.w) X.A X.env X.xe)(hc:X.calm=true)(hi:PI X tg iter wi)(hg:PG X tg g)(Y:PSs X body tb)(hs:∀x,Md iter X.env x=pure x:=by intro _;rfl):PS X (.For tg iter body [] pos) (tFor wi g tb):=by
 intro pz s σ H D I h;refine wpAny_For (thn (hi pz s σ H _ I h) λv s1 h1=>thn h1 λa8 s2 h2=>?_) hs;let⟨it,fp,tn,J,H2,e,I2,T,a5,f2,W,⟨m0,w0⟩,turn⟩:=h2;subst e;let O:∀{H':Hp},(∀b∈fp,H' b=none)->∀b∈fp,FpOk X pz H' b:=λhn b Y=>{hn b Y,(f2 b Y).2};refine codeAny_forLoop_any (λn s'=>∃i G H',Inv X pz G H' s'/\tn i s'.heap/\(∀b∈fp,H' b=none)/\W i n G H') ?_ m0 {0,σ,H2,I2,a5,λb Y=>(f2 b Y).1,w0};rintro n s3 ⟨i,B,H3,I3,a2,a3,w3⟩;rcases turn i n B H3 w3 with⟨a1,qn⟩|⟨go,N,hN,step⟩
 .refine He hp (thn (T.done X rfl rfl rfl hc i pz s3 B H3 X.xe I3 (O a3) a2 a1) λr s4 hz=>?_);let⟨hr,I4⟩:=hz;subst hr;exact Ll ⟨B,H3,I4,qn⟩
 .refine He hp (thn (T.item X rfl rfl rfl hc i pz s3 B H3 X.xe I3 (O a3) a2 go) λr s4 hz=>?_);let⟨u,hr,h4⟩:=hz;subst hr;refine He hp (thn h4 λ_ s5 hz=>?_);let⟨x,H5,I5,r5,y5,a0,a6⟩:=hz;let a7:=I5.pinned (O a6) (T.obj _ _ a0);refine He hp (thn (hg _ s5 B H5 x u _ a7 r5 (step x H5 y5)) λ_ s6 hz=>?_);let⟨a4,H6,I6,q6⟩:=hz;refine He hp (thn (Y _ s6 a4 H6 _ I6 q6) λf s7 q7=>?_);let again:∀{y:St}{H7:Hp},Inv X (pz++Zbb fp s5.heap) y H7 s7->N y H7->∃m,m<n/\∃i G H',Inv X pz G H' s7/\tn i s7.heap/\(∀b∈fp,H' b=none)/\W i m G H':=λ{y H7}Z n7=>by
   let⟨m',hm,w7⟩:=hN y H7 n7;exists m',hm,i+1,y,H7,Z.unpinned,T.keep _ _ _ a0 λb Y o e=>(Z.pin (b,o) (Jp _ (Jp _ (Uf Y e)))).1,λb Y=>?_,w7;let⟨o,e,d⟩:=T.obj _ _ a0 b Y;exact(Z.pin (b,o) (Jp _ (Jp _ (Uf Y e)))).2.1
  cases f with
  |next=>obtain⟨y,H7,Z,n7⟩:=q7;exact again Z n7
  |cont=>obtain⟨y,H7,Z,n7⟩:=q7;exact again Z n7
  |brk=>obtain⟨y,H7,Z,q7⟩:=q7;exists y,H7,Z.unpinned,q7
  |ret v=>obtain⟨x7,y,H7,Z,r7,q7⟩:=q7;exists x7,y,H7,Z.unpinned,r7,q7
end
theorem Ze6{a:Addr}{g:TG}{tb:TS}{D:Ends}(h:Nat->St->Hp->Prop)(h0:h 0 σ H)(hl:∀i σ H,i<=xs.length->h i σ H->SqL K H a xs)(hs:∀i x σ H,xs[i]?=some x->h i σ H->g x σ H λB J=>tb {D with nx:=h (i+1),ct:=h (i+1),bk:=D.nx} B J)(hd:∀σ H,h xs.length σ H->D.nx σ H) :
  ∃W:Nat->Nat->St->Hp->Prop,(∃m,W 0 m σ H)/\∀i m σ H,W i m σ H ->
   ((Itl K a).stop i H/\D.nx σ H)\/((Itl K a).go i H/\∃N:St->Hp->Prop,(∀G H',N G H'->∃O,O<m/\W (i+1) O G H')/\∀x H',(Itl K a).yld i H x H'->g x σ H' λB J=>tb {D with nx:=N,ct:=N,bk:=D.nx} B J):=by
 exists λi m σ H=>m=xs.length-i/\i<=xs.length/\h i σ H,{xs.length,by simp,Ge _,h0},?_;rintro i m σ H ⟨rfl,hi,p⟩;let q:=hl i σ H hi p
 by_cases hlt:i<xs.length
 .refine .inr {{xs,xs[i],q,by simp[hlt]},h (i+1),λG H' Y=>{xs.length-(i+1),(),rfl,hlt,Y},λx H' y=>?_};let⟨e,y⟩:=y;subst e;exact hs i x σ _ (y xs q) p
 .let e:i=xs.length:=by lia
  subst e;exact .inl {⟨xs,q,Ji _⟩,hd σ H p}
theorem Qt{lo:Int}{n:Nat}{g:TG}{tb:TS}{D:Ends}(G:Nat->St->Hp->Prop)(h0:G 0 σ H)(hs:∀i σ H,i<n->G i σ H->g (.int (lo+i)) σ H λh J=>tb {D with nx:=G (i+1),ct:=G (i+1),bk:=D.nx} h J)(hd:∀σ H,G n σ H->D.nx σ H) :
  ∃W:Nat->Nat->St->Hp->Prop,(∃m,W 0 m σ H)/\∀i m σ H,W i m σ H ->
   ((Itr lo n).stop i H/\D.nx σ H)\/((Itr lo n).go i H/\∃N:St->Hp->Prop,(∀B H',N B H'->∃O,O<m/\W (i+1) O B H')/\∀x H',(Itr lo n).yld i H x H'->g x σ H' λh J=>tb {D with nx:=N,ct:=N,bk:=D.nx} h J):=by
 exists λi m σ H=>m=n-i/\i<=n/\G i σ H,⟨n,by simp,Ge _,h0⟩,?_;rintro i m σ H ⟨rfl,hi,p⟩
 by_cases hlt:i<n
 .refine .inr {hlt,G (i+1),λB H' Y=>{n-(i+1),(),rfl,hlt,Y},λx H' y=>?_};let⟨e,y⟩:=y;subst e y;exact hs i σ _ hlt p
 .let e:i=n:=by lia
  subst e;exact .inl ⟨Ji _,hd σ H p⟩
abbrev R2:=V->V->Hp->VK->Prop
def OpR(X:Cx)(f:Cb->Cb->Sem Cb)(r:R2):Prop :=
 ∀(pz:List (Addr×Obj))(s:Cc)(σ:St)(H:Hp)(x y:V)(v u:Cb)(Q:VK),Inv X pz σ H s->RelV x v->RelV y u->r x y H Q ->
  Ck (Cn X.prog X.w) X.A (f v u) (EP X pz σ Q) X.xe s
def UnR(X:Cx)(f:Cb->Sem Cb)(r:V->Hp->VK->Prop):Prop :=
 ∀(pz:List (Addr×Obj))(s:Cc)(σ:St)(H:Hp)(x:V)(v:Cb)(Q:VK),Inv X pz σ H s->RelV x v->r x H Q ->
  Ck (Cn X.prog X.w) X.A (f v) (EP X pz σ Q) X.xe s
def Wi(X:Cx)(f:Cb)(r:List V->Hp->VK->Prop):Prop :=
 ∀(pz:List (Addr×Obj))(s:Cc)(σ:St)(H:Hp)(xs:List V)(us:List Cb)(Q:VK),Inv X pz σ H s->Vals xs us->r xs H Q ->
  Ck (Cn X.prog X.w) X.A (call f us) (EP X pz σ Q) X.xe s
def tOp(r:R2)(ta tb:TE):TE:=λσ H Q=>ta σ H λx H1=>tb σ H1 λy h=>r x y h Q
def tUn(r:V->Hp->VK->Prop)(ta:TE):TE:=λσ H Q=>ta σ H λx H1=>r x H1 Q
def rI(C:Int->Int->Prop)(g:Int->Int->V):R2:=λx y H Q=>∃i j,x=.int i/\y=.int j/\C i j/\Q (g i j) H
def rI0(g:Int->Int->V):R2:=λx y H Q=>∃i j,x=.int i/\y=.int j/\Q (g i j) H
def rU(g:Int->V):V->Hp->VK->Prop:=λx H Q=>∃i,x=.int i/\Q (g i) H
section
variable{a b:Expr} 
def binT(ha:PE X a ta)(hb:PE X b tb){R:V->V->Hp->Prop}(I:Inv X pz σ H s)(h:ta σ H λx H1=>tb σ H1 λy B=>R x y B){Q:Cb->Cc->Prop}{f:Cb->Cb->Sem Cb}(hf:∀v u O x y B,Inv X pz σ B O->RelV x v->RelV y u->R x y B->Ck (Cn X.prog X.w) X.A (f v u) Q X.xe O) :
  Ck (Cn X.prog X.w) X.A (eval a X.env) (λv J=>Ck (Cn X.prog X.w) X.A (eval b X.env) (λu G=>Ck (Cn X.prog X.w) X.A (f v u) Q X.xe G) X.xe J) X.xe s:=by
 refine thn (ha pz s σ H _ I h) λv Y hz=>?_;let⟨x,H1,I1,r1,q1⟩:=hz;refine thn (hb pz Y σ H1 _ I1 q1) λu O hz=>?_;let⟨y,B,I2,Z,q2⟩:=hz;exact hf v u O x y B I2 r1 Z q2
def Z0{op:Jgm}{r:R2}(O:OpR X (Hk op) r)(Z:PE X a ta)(Y:PE X b tb):PE X (.BinOp a op b pos) (tOp r ta tb):=by
 intro pz s σ H Q I h;exact wpAny_BinOp (binT Z Y I h λv u B x y H2 I2 J G q=>O pz B σ H2 x y v u Q I2 J G q)
def Zt7{op:UnaryOp}{r:V->Hp->VK->Prop}(J:UnR X (unaryOp op) r)(O:PE X a ta):PE X (.UnaryOp op a pos) (tUn r ta):=by
 intro pz s σ H Q I h;exact UnaryOp_ (thn (O pz s σ H _ I h) λv y⟨x,H1,Y,B,G⟩=>J pz y σ H1 x v Q Y B G)
def opI{f:Cb->Cb->Sem Cb}{C:Int->Int->Prop}{g:Int->Int->Int}(rule:∀(i j:Int)(t u:Tok)(s:Cc)(Q:Cb->Cc->Prop)(E:Cb->Cc->Prop),C i j->Q (.int (g i j) s.toks) {s with toks:=s.toks+1}->Ck (Cn X.prog X.w) X.A (f (.int i t) (.int j u)) Q E s) :
  OpR X f (rI C λi j=>.int (g i j)):=by
 intro pz s σ H x y v u Q I G B h;let⟨i,j,rfl,rfl,J,q⟩:=h;let⟨t,rfl⟩:=G;let⟨t',rfl⟩:=B;exact rule i j t t' s _ _ J {.int (g i j),H,I.tok _,{_,rfl},q}
def opI0{f:Cb->Cb->Sem Cb}{g:Int->Int->Int}(rule:∀(i j:Int)(t u:Tok)(s:Cc)(Q:Cb->Cc->Prop)(E:Cb->Cc->Prop),Q (.int (g i j) s.toks) {s with toks:=s.toks+1}->Ck (Cn X.prog X.w) X.A (f (.int i t) (.int j u)) Q E s) :
  OpR X f (rI0 λi j=>.int (g i j)):=by
 intro pz s σ H x y v u Q I G B h;let⟨i,j,rfl,rfl,q⟩:=h;let⟨t,rfl⟩:=G;let⟨t',rfl⟩:=B;exact rule i j t t' s _ _ {.int (g i j),H,I.tok _,{_,rfl},q}
def opB0{f:Cb->Cb->Sem Cb}{g:Int->Int->Bool}(rule:∀(i j:Int)(t u:Tok)(s:Cc)(Q:Cb->Cc->Prop)(E:Cb->Cc->Prop),Q (.bool (g i j)) s->Ck (Cn X.prog X.w) X.A (f (.int i t) (.int j u)) Q E s) :
  OpR X f (rI0 λi j=>.bl (g i j)):=by
 intro pz s σ H x y v u Q I G B h;let⟨i,j,rfl,rfl,q⟩:=h;let⟨t,rfl⟩:=G;let⟨t',rfl⟩:=B;exact rule i j t t' s _ _ {.bl (g i j),H,I,rfl,q}
def CDiv(i j:Int):Prop:=0<j/\j<1073741824
def CPow(i j:Int):Prop:=0<=j/\j<=1000000/\i.natAbs<2 ^ 64
def CMul(i j:Int):Prop:=(-(2 ^ 64)<i/\i<2 ^ 64)\/(-(2 ^ 64)<j/\j<2 ^ 64)
def CMul.ok{i j:Int}(h:CMul i j):IntMulOk i j:=by
 rcases h with⟨h1,h2⟩|⟨h1,h2⟩
 .exact .of_left (intBits_le_64 h1 h2)
 .exact .of_right (intBits_le_64 h1 h2)
def Vt:OpR X (Hk .Add) (rI0 λi j=>.int (i+j)):=opI0 λ_ _ _ _ _ _ _ q=>add_int q
def Zet:OpR X (Hk .Sub) (rI0 λi j=>.int (i-j)):=opI0 λ_ _ _ _ _ _ _ q=>sub_int q
def Ra:OpR X (Hk .Mult) (rI CMul λi j=>.int (i*j)):=opI λ_ _ _ _ _ _ _ h q=>mul_int q h.ok
theorem Zip:OpR X (Hk .FloorDiv) (rI CDiv λi j=>.int (i / j)):=opI λi j _ _ _ _ _ h q=>by
 let h1:(0:Int)<j:=h.1;let h2:j<1073741824:=h.2;exact floordiv_int () (by rw[Int.fdiv_eq_ediv_of_nonneg i ()];exact q) (.inl (PyProof.noPylong_small ()))
theorem Wb:OpR X (Hk .Mod) (rI (λ_ j=>0<j) λi j=>.int (i % j)):=opI λi j _ _ _ _ _ h q=>by
 let h1:(0:Int)<j:=h;exact mod_int' () (by rw[Int.fmod_eq_emod_of_nonneg i ()];exact q)
def Zio:OpR X (Hk .Pow) (rI CPow λi j=>.int (i ^ j.toNat)):=opI λ_ _ _ _ _ _ _ h q=>pow_int_small h.1 h.2.1 h.2.2 q
def unI{f:Cb->Sem Cb}{g:Int->Int}(rule:∀(i:Int)(t:Tok)(s:Cc)(Q:Cb->Cc->Prop)(E:Cb->Cc->Prop),Q (.int (g i) s.toks) {s with toks:=s.toks+1}->Ck (Cn X.prog X.w) X.A (f (.int i t)) Q E s) :
  UnR X f (rU λi=>.int (g i)):=by
 intro pz s σ H x v Q I y h;let⟨i,rfl,q⟩:=h;let⟨t,rfl⟩:=y;exact rule i t s _ _ {.int (g i),H,I.tok _,{_,rfl},q}
def Znb:UnR X (unaryOp .USub) (rU λi=>.int (-i)):=unI λ_ _ _ _ _ q=>neg_int q
end
def scal:V->V->Bool
 |.non,.non=>true|.non,.int _=>true|.int _,.non=>true|.non,.bl _=>true|.bl _,.non=>true|.non,.str _=>true|.str _,.non=>true
 |.int _,.int _=>true|.bl _,.bl _=>true|.str _,.str _=>true|.byt _,.byt _=>true
 |.int _,.str _=>true|.str _,.int _=>true|.bl _,.str _=>true|.str _,.bl _=>true
 |_,_=>false
def rEq:R2:=λx y H Q=>scal x y=true/\Q (.bl (decide (x=y))) H
def rNe:R2:=λx y H Q=>scal x y=true/\Q (.bl (!decide (x=y))) H
def Zj3{i j:Int}:decide (V.int i=V.int j)=(i==j):=by
 rw[Df];simp
def Zol{i j:Bool}:decide (V.bl i=V.bl j)=(i==j):=by
 rw[Df];simp
def Zj2{i j:Str}:decide (V.str i=V.str j)=(i==j):=by
 rw[Df];simp
def Zj4{i j:Array UInt8}:decide (V.byt i=V.byt j)=(i.toList==j.toList):=by
 rw[Df];cases i;cases j;simp
section
variable{a b c:Expr} 
def Yh{k h:Bool}(I:Inv X pz σ H s)(q:Q (.bl k) H)(e:k=h):EP X pz σ Q (.bool h) s:=by
 subst e;exists .bl k,H,I,rfl,q
theorem Zmc:OpR X (Ep .Eq) rEq:=by
 intro pz s σ H x y v u Q I G B h;let⟨hs,q⟩:=h;cases x with
 |non =>
  cases G;cases y with
  |non=>cases B;exact Jfk (Yh I q (by simp))
  |bl j=>cases B;exact Jfl (Yh I q (by simp))
  |int j=>obtain⟨t',rfl⟩:=B;exact Jfy (Yh I q (by simp))
  |str j=>obtain⟨t',rfl⟩:=B;exact Jfz (Yh I q (by simp))
  |_=>exact Dx (show false=true from hs) Gd
 |bl i =>
  cases G;cases y with
  |non=>cases B;exact Jfm (Yh I q (by simp))
  |bl j=>cases B;exact eq_bool (Yh I q Zol)
  |str j=>obtain⟨t',rfl⟩:=B;exact Jfn (Yh I q (by simp))
  |_=>exact Dx (show false=true from hs) Gd
 |int i =>
  let⟨t,rfl⟩:=G;cases y with
  |non=>cases B;exact Jf0 (Yh I q (by simp))
  |int j=>obtain⟨t',rfl⟩:=B;exact eq_int (Yh I q Zj3)
  |str j=>obtain⟨t',rfl⟩:=B;exact Jf1 (Yh I q (by simp))
  |_=>exact Dx (show false=true from hs) Gd
 |str i =>
  let⟨t,rfl⟩:=G;cases y with
  |non=>cases B;exact Jf2 (Yh I q (by simp))
  |bl j=>cases B;exact Jfo (Yh I q (by simp))
  |int j=>obtain⟨t',rfl⟩:=B;exact Jf3 (Yh I q (by simp))
  |str j=>obtain⟨t',rfl⟩:=B;exact eq_str (Yh I q Zj2)
  |_=>exact Dx (show false=true from hs) Gd
 |byt i =>
  let⟨t,rfl⟩:=G;cases y with
  |byt j=>obtain⟨t',rfl⟩:=B;exact W.eq_bytes (Yh I q Zj4)
  |_=>exact Dx (show false=true from hs) Gd
 |_=>cases y<;>exact Dx (show false=true from hs) Gd
theorem Zxe:OpR X (Ep .NotEq) rNe:=by
 intro pz s σ H x y v u Q I G B h;let⟨hs,q⟩:=h;cases x with
 |non =>
  cases G;cases y with
  |non=>cases B;exact Jfp (Yh I q (by simp))
  |bl j=>cases B;exact Jfq (Yh I q (by simp))
  |int j=>obtain⟨t',rfl⟩:=B;exact Jf4 (Yh I q (by simp))
  |str j=>obtain⟨t',rfl⟩:=B;exact Jf5 (Yh I q (by simp))
  |_=>exact Dx (show false=true from hs) Gd
 |bl i =>
  cases G;cases y with
  |non=>cases B;exact Jfr (Yh I q (by simp))
  |bl j=>cases B;exact ne_bool (Yh I q (congrArg not Zol))
  |str j=>obtain⟨t',rfl⟩:=B;exact Jfs (Yh I q (by simp))
  |_=>exact Dx (show false=true from hs) Gd
 |int i =>
  let⟨t,rfl⟩:=G;cases y with
  |non=>cases B;exact Jf6 (Yh I q (by simp))
  |int j=>obtain⟨t',rfl⟩:=B;exact ne_int (Yh I q (congrArg not Zj3))
  |str j=>obtain⟨t',rfl⟩:=B;exact Jf7 (Yh I q (by simp))
  |_=>exact Dx (show false=true from hs) Gd
 |str i =>
  let⟨t,rfl⟩:=G;cases y with
  |non=>cases B;exact Jf8 (Yh I q (by simp))
  |bl j=>cases B;exact Jft (Yh I q (by simp))
  |int j=>obtain⟨t',rfl⟩:=B;exact Jf9 (Yh I q (by simp))
  |str j=>obtain⟨t',rfl⟩:=B;exact ne_str (Yh I q (congrArg not Zj2))
  |_=>exact Dx (show false=true from hs) Gd
 |byt i =>
  let⟨t,rfl⟩:=G;cases y with
  |byt j=>obtain⟨t',rfl⟩:=B;exact W.ne_bytes (Yh I q (congrArg not Zj4))
  |_=>exact Dx (show false=true from hs) Gd
 |_=>cases y<;>exact Dx (show false=true from hs) Gd
def Zqp:OpR X (Ep .Lt) (rI0 λi j=>.bl (decide (i<j))):=opB0 λ_ _ _ _ _ _ _ q=>lt_int q
def Zqq:OpR X (Ep .LtE) (rI0 λi j=>.bl (decide (i<=j))):=opB0 λ_ _ _ _ _ _ _ q=>le_int q
def Nx:OpR X (Ep .Gt) (rI0 λi j=>.bl (decide (j<i))):=opB0 λ_ _ _ _ _ _ _ q=>gt_int q
def Zxf:OpR X (Ep .GtE) (rI0 λi j=>.bl (decide (j<=i))):=opB0 λ_ _ _ _ _ _ _ q=>ge_int q
def Ya(b:Expr){op:Jgk}(h:op≠.In:=by decide)(h2:op≠.NotIn:=by decide):Hj op b=false:=by
 let e1:(op==Jgk.In)=false:=by cases op<;>first|rfl|exact Dx rfl h
 let e2:(op==Jg9)=false:=by cases op<;>first|rfl|exact Dx rfl h2
 cases b<;>simp[Hj,e1,e2]
def Zqn{op:Jgk}{r:R2}(O:OpR X (Ep op) r)(ha:PE X a ta)(Z:PE X b tb)(Y:Hj op b=false):PE X (.Compare a [op] [b] pos) (tOp r ta tb):=by
 intro pz s σ H Q I h;exact wpAny_Compare1 (binT ha Z I h λv u B x y H2 I2 J G q=>O pz B σ H2 x y v u Q I2 J G q) Y
def Zsz(t:TE):TT:=λσ H Q=>t σ H λx H'=>∃k,x=.bl k/\Q k H'
def Z1{op:Jgk}{r:R2}(ho:OpR X (Ep op) r)(ha:PE X a ta)(hb:PE X b tb)(hm:Hj op b=false):PT X (.Compare a [op] [b] pos) (Zsz (tOp r ta tb)):=by
 intro pz s σ H Q I h;refine Ja6 (thn (ha pz s σ H _ I h) λv G⟨x,H1,I1,Y,q1⟩=>thn (hb pz G σ H1 _ I1 q1) λu B ⟨y,H2,I2,O,q2⟩ =>
  thn (ho pz B σ H2 x y v u _ I2 Y O q2) λc s3⟨z,H3,I3,J,k,e,Z⟩=>?_) hm
 subst e;cases J;exact Ek ⟨H3,I3,Z⟩
def Pm:(Ca:Nat)<2 ^ 63:=by rw[C0];decide
def Zfz:OpR X (Hk .Add) (λx y H Q=>∃i j,x=.str i/\y=.str j/\i.length+j.length<=Ca/\Q (.str (i++j)) H):=by
 intro pz s σ H x y v u Q I G B h;let⟨i,j,rfl,rfl,hz,q⟩:=h;let⟨t,rfl⟩:=G;let⟨t',rfl⟩:=B;exact add_str (λt' tk=>{.str (i++j),H,I.tok _,{_,rfl},q}) hz
theorem Rb{x:V}(r:Vals [x] us):∃u,us=[u]/\RelV x u:=by
 cases r with
 |cons y h=>cases h;exists ·,y
theorem Zo0{x:V}(r:Vals [x,y] us):∃u h,us=[u,h]/\RelV x u/\RelV y h:=by
 cases r with
 |cons O J =>
  cases J with
  |cons G B=>cases B;exists _,·,O,G
def Zm2:Wi X (.builtin "abs") (λxs H Q=>∃i,xs=[.int i]/\Q (.int (if i<0 then -i else i)) H):=by
 intro pz s σ H xs us Q I r h;let⟨i,rfl,q⟩:=h;let⟨u,rfl,t,rfl⟩:=Rb r;exact call_abs_int λu tk=>{.int (if i<0 then -i else i),H,I.tok _,{_,rfl},q}
def Qz(y:X.calm=true):Wi X (.builtin "max") (λxs H Q=>∃i j,xs=[.int i,.int j]/\Q (.int (if j > i then j else i)) H):=by
 intro pz s σ H xs us Q I r h;let⟨i,j,rfl,q⟩:=h;let⟨u,B,rfl,⟨t,rfl⟩,⟨t',rfl⟩⟩:=Zo0 r;refine max_two_ints (I.ok.hd y) λh' tk k=>{_,H,I.kept k,?_,q}
 by_cases hj:j > i
 .rw[D7 hj,D7 hj];exists ·
 .rw[D6 hj,D6 hj];exists ·
def Zb0(y:X.calm=true):Wi X (.builtin "min") (λxs H Q=>∃i j,xs=[.int i,.int j]/\Q (.int (if j<i then j else i)) H):=by
 intro pz s σ H xs us Q I r h;let⟨i,j,rfl,q⟩:=h;let⟨u,B,rfl,⟨t,rfl⟩,⟨t',rfl⟩⟩:=Zo0 r;refine min_two_ints (I.ok.hd y) λh' tk k=>{_,H,I.kept k,?_,q}
 by_cases hj:j<i
 .rw[D7 hj,D7 hj];exists ·
 .rw[D6 hj,D6 hj];exists ·
def LenV(K:Cq)(x:V)(H:Hp)(n:Nat):Prop :=
 match x with
 |.str y=>y.length<=Ca/\n=y.length
 |.byt y=>y.size<=Ca/\n=y.size
 |.ref p=>(∃xs,SqL K H p xs/\n=xs.length)\/∃xs,SqT K H p xs/\n=xs.length
 |_=>False
theorem Xa:Wi X (.builtin "len") (λxs H Q=>∃x n,xs=[x]/\LenV X.K x H n/\Q (.int n) H):=by
 intro pz s σ H xs us Q I r h;let⟨x,n,rfl,e,q⟩:=h;let⟨u,rfl,J⟩:=Rb r;let hl:=Pm;let hs:Ca=16777216:=C0;cases x with
 |str y =>
  let⟨t,rfl⟩:=J;obtain⟨Y,G⟩:y.length<=Ca/\n=y.length:=e;subst G;exact len_str () {.int _,H,I.tok _,{_,rfl},q}
 |byt y =>
  let⟨t,rfl⟩:=J;obtain⟨Y,G⟩:y.size<=Ca/\n=y.size:=e;subst G;exact W.len_bytes () {.int _,H,I.tok _,{_,rfl},q}
 |ref p =>
  cases J;let G:(∃xs,SqL X.K H p xs/\n=xs.length)\/∃xs,SqT X.K H p xs/\n=xs.length:=e;rcases G with⟨xs,hx,G⟩|⟨xs,hx,G⟩
  .subst G;let⟨its,O,pl,hz⟩:=I.list hx;let B:=O.length;exact Calls.call_len_list pl.isList (by simp only[Jq];lia) {.int xs.length,H,I.tok _,{_,by simp only[Jq];rw[B]},q}
  .subst G;let⟨its,O,pl,hz⟩:=I.tuple hx;let B:=O.length;exact len_tuple pl (by simp only[Jq];lia) {.int xs.length,H,I.tok _,{_,by simp only[Jq];rw[B]},q}
 |_=>exact(show False from e).elim
end
structure ObjM(h:Heap)(x dx C:Addr)(mA:Str->Option Cb):Prop where
 obj:h.get? x=some (Lk C dx)
 ns:h.Ns1 dx mA
 ne:dx≠x
def Zi6{mA:Str->Option Cb}(n:h.Ns1 dx mA):∃od,h.get? dx=some od/\∀name,Jgo name od=some (mA name):=by
 let⟨o,es,ep,J,hd,Y,_,O⟩:=n;exists o,J,λname=>?_;let e:=O name;unfold nsFind findBy at e;rw[<-Array.find?_toList]at e;unfold Jgo;rw[hd];dsimp only
 split
 .rename_i y q
  rw[q]at e;exact congrArg some e
 .rename_i q
  rw[q]at e;let a:es.toList.any (·.refKey)=false:=by
   rw[List.any_eq_false];intro y G;let⟨z,t,B⟩:=Y y (Array.mem_toList_iff.mp G);simp[DictEntry.refKey,B]
  let Z:¬ es.toList.any (·.refKey)=true:=by rw[a];exact Gd
  rw[D6 Z];exact congrArg some e
def ObjM.look{x C:Addr}{mA:Str->Option Cb}(I:ObjM h x dx C mA):∃od,W.InstAt h x (Lk C dx) C (some od)/\∀name,Jgo name od=some (mA name) :=
 let⟨od,y,hl⟩:=Zi6 I.ns
 {od,{I.obj,rfl,rfl,y},hl}
section
variable{x C:Addr}{mA:Str->Option Cb}{name:Str}{v:Cb}
def Zrf{y:Bool}{Q:Cb->Cc->Prop}(X:K.In s.heap)(I:ObjM s.heap x dx C mA)(Y:Jee K C name=true)(O:Je8 K C=true)(Z:Ez K (.ref C) name=some none)(G:mA name=some v)(B:W.handedIn v=true)(h:Q v {s with toks:=s.toks+1}) :
  Ck (Cn prog w) A (getAttr (.ref x) name y) Q E s:=by
 let⟨od,J,hl⟩:=I.look;exact W.get_value X J (Jdx Y).1 (W.findObj_own O Z rfl (by rw[hl,G])) B h
def Zmt{pl:Sem Bool}{Q:Cb×List Cb->Cc->Prop}(X:K.In s.heap)(I:ObjM s.heap x dx C mA)(y:Jee K C name=true)(O:Ez K (.ref C) name=some (some (.ref f)))(G:W.isFn K (.ref f)=true)(B:mA name=none)(h:Q (.ref f,[.ref x]) s) :
  Ck (Cn prog w) A (Ja9 (.ref x) name pl) Q E s:=by
 let⟨od,J,hl⟩:=I.look;exact W.method_fn X J (Jdx y).1 (Jdx y).2 O (beq_iff_eq.mp G) (by show(Jgo name od).map (·.isSome)=some false;rw[hl,B];rfl) h
theorem Zpy{ns:List Str}{Q:Unit->Cc->Prop}(X:K.In s.heap)(I:ObjM s.heap x dx C mA)(hs:Ez K (.ref C) "__setattr__"=some (some (.builtin "object.__setattr__")))(hp:W.plainOver K C=true)(ht:Jgz K C name=some none)(hh:Je8 K C=true)(hw:Ja4 mA ns)(hsz:ns.length<=Ca)(h:∀h',ObjM h' x dx C (λy=>if y=name then some v else mA y)->Hu dx s.heap h'->Q ⟨⟩ {s with heap:=h',toks:=s.toks+2}) :
  Ck (Cn prog w) A (setAttr (.ref x) name v) Q E s:=by
 let⟨od,J,hl⟩:=I.look;refine W.set_plain X J hs (W.osa_open (s:={s with toks:=s.toks+1}) (r:=none) X J hp ht λb=>?_);let⟨cd,hc,Z⟩:=W.any_some hh;let hx:s.heap.get? x=some {.ref C,some dx,.plain,#[]}:=I.obj;refine D0 (D1 (D0 (D0 (wpAny_loadPart hx (D0 (W.Looks.here (s:={s with toks:=s.toks+1}) (W.looks_clsIn X hc) ?_))))));rw[Z];refine D1 (a:=some dx) (D0 (D1 (D0 ?_)));refine wpAny_nsSet1 (s:={s with toks:=s.toks+1}) I.ns λh' G B=>?_;let⟨oD,a1,a2,O,Y,a0⟩:=G.count (Jhn name v hw);refine D0 (wpAny_lookBehind O (by rw[Y];exact pastItsLine_dict (Jx a0 (by rw[Jy];lia))) ?_)
 exact D1 (h _ {(B.2 _ (Hd I.ne)).trans I.obj,G,I.ne} B)
def Zmi{R:Jhk->Cc->Prop}{vs:List Cb}(X:K.In s.heap)(y:W.makesIn K C=true)(hi:Ez K (.ref C) "__init__"=some (some (.ref f)))(B:W.typeIn K (.ref f)=some (.type "function"))(h:Lp (Cn prog w) (A.under (.builtin "type.__call__" {.ref C::vs,kw})) (.call (.ref f) {.ref (s.heap.objs.size+1)::vs,kw}) (W.InitBack (s.heap.objs.size+1) R)
   {s with heap:=(s.heap.push W.emptyDict).push (Lk C s.heap.objs.size)}) :
  Lp (Cn prog w) A (.call (.ref C) ⟨vs,kw⟩) R s:=by
 let⟨G,g,d,t,os⟩:=s;exact W.make_core (W.makes_of X y) (W.looks_findIn X hi) (λself=>W.bind_fn X self B) (.inl rfl) h
end
def putF(f:Str)(v:V):List (Str×V)->List (Str×V)
 |[]=>[(f,v)]
 |(g,x)::r=>if g=f then(g,v)::r else(g,x)::putF f v r
theorem Qb(f g:Str)(v:V):∀fs:List (Str×V),(putF f v fs).lookup g=if g=f then some v else fs.lookup g
 |[]=>by
  show Ki g [(f,v)]=_
  by_cases h:g=f
  .let y:(g==f)=true:=beq_iff_eq.mpr h;simp only[Ki,y,D7 h]
  .let y:(g==f)=false:=beq_eq_false_iff_ne.mpr h;simp only[Ki,y,D6 h]
 |(k,x)::r=>by
  let B:=Qb f g v r;rw[show putF f v ((k,x)::r)=(if k=f then(k,v)::r else(k,x)::putF f v r)from rfl]
  by_cases hk:k=f
  .rw[D7 hk]
   by_cases h:g=k
   .let y:(g==k)=true:=beq_iff_eq.mpr h;simp only[Ki,y,D7 (h.trans hk)]
   .let y:(g==k)=false:=beq_eq_false_iff_ne.mpr h;simp only[Ki,y,D6 (λe:g=f=>h (e.trans hk.symm))]
  .rw[D6 hk]
   by_cases h:g=k
   .let y:(g==k)=true:=beq_iff_eq.mpr h;simp only[Ki,y,D6 (λe:g=f=>hk (h.symm.trans e))]
   .let y:(g==k)=false:=beq_eq_false_iff_ne.mpr h;simp only[Ki,y];exact B
theorem Qg(f:Str)(v:V):∀fs:List (Str×V),f∈(putF f v fs).map (·.1)/\∀g,g∈fs.map (·.1)->g∈(putF f v fs).map (·.1)
 |[]=>{by simp[putF],λg h=>by simp at h}
 |(k,x)::r=>by
  let⟨B,y⟩:=Qg f v r;rw[show putF f v ((k,x)::r)=(if k=f then(k,v)::r else(k,x)::putF f v r)from rfl]
  by_cases hk:k=f
  .rw[D7 hk];subst hk;exact{by simp,λg h=>by simpa using h}
  .rw[D6 hk];exists ?_,λg h=>?_
   .rw[Jl];exact Jf _ B
   .rw[Jl]at h⊢;rcases J9.mp h with e|e
    .exact J9.mpr (.inl e)
    .exact Jf _ (y g e)
theorem Qd(f:Str)(v:V):∀fs:List (Str×V),(putF f v fs).length<=fs.length+1
 |[]=>by simp[putF]
 |(k,x)::r=>by
  let h:=Qd f v r;rw[show putF f v ((k,x)::r)=(if k=f then(k,v)::r else(k,x)::putF f v r)from rfl]
  by_cases hk:k=f
  .rw[D7 hk,Jy,Jy];lia
  .rw[D6 hk,Jy,Jy];lia
theorem RelO.some_of{v:V}{o:Option Cb}(r:RelO (some v) o):∃u,o=some u/\RelV v u:=by
 cases o with
 |none=>exact(show False from r).elim
 |some u=>exact⟨u,rfl,r⟩
theorem RelO.none_of{o:Option Cb}(r:RelO none o):o=none:=by
 cases o with
 |none=>rfl
 |some u=>exact(show False from r).elim
theorem Zjs{v:V}{u:Cb}(r:RelV v u):W.handedIn u=true:=by
 cases v with
 |non=>cases(show u=Cb.none from r);rfl
 |bl b=>cases(show u=Kj b from r);rfl
 |int i=>obtain⟨t,e⟩:=(show ∃t,u=Li i t from r);cases e;rfl
 |str x=>obtain⟨t,e⟩:=(show ∃t,u=Ja3 x t from r);cases e;rfl
 |byt b=>obtain⟨t,e⟩:=(show ∃t,u=Jg8 b t from r);cases e;rfl
 |flt b=>obtain⟨t,e⟩:=(show ∃t,u=Je6 b t from r);cases e;rfl
 |ref a=>cases(show u=Cd a from r);rfl
 |ty n=>cases(show u=Mb n from r);rfl
section
variable{a C:Addr}{fs:List (Str×V)}
def Zad(y:HOk P w H h)(e:H a=some (.ins C dx fs)):∃mA,ObjM h a dx C mA/\(∀f,RelO (fs.lookup f) (mA f))/\Ja4 mA (fs.map (·.1))/\fs.length<=1000/\H dx=some (.own a):=by
 let⟨d,z,ne,B,mA,n,r,q⟩:=(show Y0 P w H h a (.ins C dx fs)from y a _ e);exists mA,⟨B,n,ne⟩,r,q,z,d
end
structure Cls(K:Cq)(C:Addr):Prop where
 pg:Jee K C Jdy=true
 hd:Je8 K C=true
 po:W.plainOver K C=true
 sa:Ez K (.ref C) "__setattr__"=some (some (.builtin "object.__setattr__"))
def Cls.get{C:Addr}(c:Cls K C)(f:Str):Jee K C f=true:=c.pg
def Y4(K:Cq)(C:Addr)(f:Str):Prop:=Ez K (.ref C) f=some none
def Y4.taker{C:Addr}{f:Str}(n:Y4 K C f):Jgz K C f=some none:=by
 unfold Jgz;rw[show Ez K (.ref C) f=some none from n];rfl
structure Meth(K:Cq)(C:Addr)(m:Str)(f:Addr):Prop where
 at_:Ez K (.ref C) m=some (some (.ref f))
 fn:W.isFn K (.ref f)=true
 kp:Jc1 K (.ref f)=true
section
variable{a C:Addr}{fs:List (Str×V)}{f:Str}{v:V} 
def Zf9{b:Bool}{Q:Cb->Cc->Prop}(I:Inv X pz σ H s)(e:H a=some (.ins C dx fs))(c:Cls X.K C)(n:Y4 X.K C f)(l:fs.lookup f=some v)(h:∀u s',Inv X pz σ H s'->RelV v u->Q u s'):Ck (Cn X.prog X.w) A (getAttr (.ref a) f b) Q E s:=by
 let⟨mA,O,r,_,_,_⟩:=Zad I.hok e;let⟨u,B,y⟩:=RelO.some_of (v:=v) (o:=mA f) (by rw[<-l];exact r f);exact Zrf I.kIn O (c.get f) c.hd n B (Zjs y) (h u _ (I.tok _) y)
def Ps{m:Str}{g:Addr}{pl:Sem Bool}{Q:Cb×List Cb->Cc->Prop}(I:Inv X pz σ H s)(e:H a=some (.ins C dx fs))(c:Cls X.K C)(k:Meth X.K C m g)(l:fs.lookup m=none)(h:Q (.ref g,[.ref a]) s):Ck (Cn X.prog X.w) A (Ja9 (.ref a) m pl) Q E s:=by
 let⟨mA,O,r,_,_,_⟩:=Zad I.hok e;let hn:mA m=none:=RelO.none_of (by rw[<-l];exact r m);exact Zmt I.kIn O (c.get m) k.at_ k.fn hn h
theorem Zfu{u:Cb}{Q:Unit->Cc->Prop}(I:Inv X pz σ H s)(e:H a=some (.ins C dx fs))(c:Cls X.K C)(n:Y4 X.K C f)(hl:fs.length<1000)(J:RelV y u)(h:∀s',Inv X pz σ (upd H a (.ins C dx (putF f y fs))) s'->Q ⟨⟩ s'):Ck (Cn X.prog X.w) A (setAttr (.ref a) f u) Q E s:=by
 let⟨mA,O,r,wi,_,G⟩:=Zad I.hok e;let hz:(fs.map (·.1)).length<=Ca:=by rw[Ja,C0];lia
 refine Zpy I.kIn O c.sa c.po n.taker c.hd wi hz λh' B sb=>h _ ?_;let hd:∃o,h'.get? dx=some o:=let⟨o,_,_,e',_⟩:=B.ns;⟨o,e'⟩
 refine I.write (x:=a) (e:=dx) (by rw[e];exact El) (.inr G) (λb q Z z=>(sb.2 b Z).trans z) hd ?_;exists by rw[Zo O.ne];exact G,?_,O.ne,B.obj,_,B.ns,λg=>?_,λg Y=>?_
 .let:=Qd f y fs;lia
 .show RelO ((putF f y fs).lookup g) (if g=f then some u else mA g);rw[Qb]
  by_cases q:g=f
  .rw[D7 q,D7 q];exact J
  .rw[D6 q,D6 q];exact r g
 .by_cases q:g=f
  .rw[q];exact(Qg f y fs).1
  .refine(Qg f y fs).2 g (wi g λz=>Y ?_);show(if g=f then some u else mA g)=none;rw[D6 q];exact z
def Inv.made(I:Inv X pz σ H s):Inv X pz σ (upd (upd H s.heap.objs.size (.own (s.heap.objs.size+1))) (s.heap.objs.size+1) (.ins C s.heap.objs.size []))
  {s with heap:=(s.heap.push W.emptyDict).push (Lk C s.heap.objs.size)}:=by
 let e1:(s.heap.push W.emptyDict).get? s.heap.objs.size=some W.emptyDict:=D3 s.heap rfl;let e2:((s.heap.push W.emptyDict).push (Lk C s.heap.objs.size)).get? (s.heap.objs.size+1)=some (Lk C s.heap.objs.size):=by
  let:=D3 (s.heap.push W.emptyDict) (o:=Lk C s.heap.objs.size) rfl;rwa [Jc6]at this
 let e3:(s.heap.push W.emptyDict).Ns s.heap.objs.size (λ_=>none):={W.emptyDict,#[],_,e1,rfl,(λe B=>Dx B (by simp)),λ_=>rfl};let G:=I.laid (a:=s.heap.objs.size) (o:=.own (s.heap.objs.size+1)) (h':=s.heap.push W.emptyDict) (t':=s.toks) (λb u q=>D2 _ q) (Ji _) {_,e1};refine G.laid (a:=s.heap.objs.size+1) (o:=.ins C s.heap.objs.size []) (t':=s.toks) (λb u q=>D2 _ q) (Bz (Jc6 _ _)) ?_;let ne:s.heap.objs.size≠s.heap.objs.size+1:=Gn (F1 _);exists by rw[Zo ne,Ze],Ge _,ne,e2,λ_=>none,(Heap.Ns1.of_empty e3).at λo q=>D2 _ q,λ_=>El,λy h=>Dx rfl h
def Zrt{env:Env}{e:Expr}{f:Str}{Q:Cb->Cc->Prop}(B:Kr e f env (eval e env)=eval e env)(h:Ck (Cn prog w) A (eval e env) (λo y=>Ck (Cn prog w) A (getAttr o f true) Q E y) E s):Ck (Cn prog w) A (eval (.Attribute e f pos) env) Q E s :=
 Attribute_any_ h (by rw[arm_eval_Attribute,B])
end
def tFld(K:Cq)(ta:TE)(f:Str):TE:=λσ H Q=>ta σ H λx H1=>∃a C dx fs v,x=.ref a/\H1 a=some (.ins C dx fs)/\Cls K C/\Y4 K C f/\fs.lookup f=some v/\Q v H1
def sFld(K:Cq)(ta tv:TE)(f:Str):TS:=λD σ H=>tv σ H λy H1=>ta σ H1 λx h=>∃a C dx fs,x=.ref a/\h a=some (.ins C dx fs)/\Cls K C/\Y4 K C f/\fs.length<1000 /\
 D.nx σ (upd h a (.ins C dx (putF f y fs)))
section
variable{o e:Expr}{f:Str} 
def Wa(G:PE X e ta)(J:Kr e f X.env (eval e X.env)=eval e X.env):PE X (.Attribute e f pos) (tFld X.K ta f):=by
 intro pz s σ H Q I h;refine Zrt J (thn (G pz s σ H _ I h) λu s1 hz=>?_);let⟨x,H1,Z,y,a,C,dx,fs,v,ex,O,c,n,l,q⟩:=hz;subst ex;obtain rfl:u=Cd a:=y;exact Zf9 Z O c n l λu' s2 Y B=>⟨v,H1,Y,B,q⟩
def S0(ha:PE X o ta)(Z:PE X value tv)(hs:Ja7 value (some (.Attribute o f pos')) pos.line X.env=pure false):PS X (.Assign [.Attribute o f pos'] value pos) (sFld X.K ta tv f):=by
 intro pz s σ H D I h;refine plainObj_wpAny_Assign_Attribute (thn (Z pz s σ H _ I h) λu B⟨y,H1,I1,G,q⟩=>thn (ha pz B σ H1 _ I1 q) λY s2 hz=>?_) hs;let⟨x,H2,I2,J,a,C,dx,fs,ex,ea,c,n,l,O⟩:=hz;subst ex;obtain rfl:Y=Cd a:=J;exact Zfu I2 ea c n l G λs3 I3=>{σ,_,I3,O}
end
section
variable{Q:Cb->Cc->Prop}{c:Cb}{b:Bool}
inductive TyOf(K:Cq)(H:Hp):V->Cb->Prop where
 |non:TyOf K H .non (.type "NoneType")
 |bl (x:Bool):TyOf K H (.bl x) (.type "bool")
 |int (i:Int):TyOf K H (.int i) (.type "int")
 |str (x:Str):TyOf K H (.str x) (.type "str")
 |flt (x:UInt64):TyOf K H (.flt x) (.type "float")
 |lst {a:Addr} {xs:List V} (e:H a=some (.lst xs)):TyOf K H (.ref a) (.type "list")
 |frz {a:Addr} {o:Obj} {xs:List V} (e:H a=some (.frz o (.lst xs))):TyOf K H (.ref a) (.type "list")
 |tup {a:Addr} {xs:List V} (e:H a=some (.tup xs)):TyOf K H (.ref a) (.type "tuple")
 |dK {a:Addr} {kvs:List (Key×V)} (e:H a=some (.dK kvs)):TyOf K H (.ref a) (.type "dict")
 |dT {a:Addr} {kvs:List (List Key×V)} (e:H a=some (.dT kvs)):TyOf K H (.ref a) (.type "dict")
 |ins {a C dx:Addr} {fs:List (Str×V)} (e:H a=some (.ins C dx fs)) (cl:Cls K C) (ha:Ez K (.ref C) "__class__"=some (some (.builtin "object.__class__")))
   (hn:W.specialIn K (.builtin "object.__class__") "__get__"=some (some (.builtin "getset_descriptor.__get__"))) (htk:W.takesIn K (.builtin "object.__class__")=some true)
   (hm:W.mroIn K C (.type "object")=some true):TyOf K H (.ref a) (.ref C)
theorem Zjm{x:V}{u t:Cb}(I:Inv X pz σ H s)(B:RelV x u)(ty:TyOf X.K H x t)(e:Jgp X.K t c=some b)(h:∀tk,Q (.bool b) {s with toks:=tk}) :
  Ck (Cn X.prog X.w) A (call (.builtin "isinstance") [u,c]) Q E s:=by
 cases ty with
 |non=>cases(show u=Cb.none from B);exact Kf W.kitx_none I.kIn El e (λz=>nomatch z) h
 |bl y=>cases(show u=Kj y from B);exact Kf W.kitx_bool I.kIn El e (λz=>nomatch z) h
 |int i=>obtain⟨t,q⟩:=(show ∃t,u=Li i t from B);cases q;exact Kf W.kitx_int I.kIn El e (λz=>nomatch z) h
 |str y=>obtain⟨t,q⟩:=(show ∃t,u=Ja3 y t from B);cases q;exact Kf W.kitx_str I.kIn El e (λz=>nomatch z) h
 |flt y=>obtain⟨t,q⟩:=(show ∃t,u=Je6 y t from B);cases q;exact Kf W.kitx_float I.kIn El e (λz=>nomatch z) h
 | @lst a xs ea =>
  cases(show u=Cd a from B);let⟨_,_,n,_,h1⟩:=(show Y0 X.prog X.w H s.heap a (.lst xs)from I.hok a _ ea);exact Kf W.kitx_list I.kIn {_,h1,rfl} e (λz=>nomatch z) h
 | @frz a ob xs ea =>
  cases(show u=Cd a from B);let⟨_,_,_,n,_,h1⟩:=(show Y0 X.prog X.w H s.heap a (.frz ob (.lst xs))from I.hok a _ ea);exact Kf W.kitx_list I.kIn {_,h1,rfl} e (λz=>nomatch z) h
 | @tup a xs ea =>
  cases(show u=Cd a from B);let⟨_,_,_,p⟩:=(show Y0 X.prog X.w H s.heap a (.tup xs)from I.hok a _ ea);let⟨o,h1,h2,_⟩:=p;exact Kf W.kitx_tuple I.kIn ⟨o,h1,h2⟩ e (λz=>nomatch z) h
 | @dK a kvs ea =>
  cases(show u=Cd a from B);let⟨_,_,vs,_,p⟩:=(show Y0 X.prog X.w H s.heap a (.dK kvs)from I.hok a _ ea);let⟨o,es,ep,h1,h2,_⟩:=p;exact Kf W.kitx_dict I.kIn {o,h1,h2.1} e (λz=>nomatch z) h
 | @dT a kvs ea =>
  cases(show u=Cd a from B);let⟨_,_,xs,_,o,es,ep,h1,h2,_⟩:=(show Y0 X.prog X.w H s.heap a (.dT kvs)from I.hok a _ ea);exact Kf W.kitx_dict I.kIn {o,h1,h2.1} e (λz=>nomatch z) h
 | @ins a C dx fs ea cl ha hn htk hm =>
  cases(show u=Cd a from B);let⟨mA,O,_⟩:=Zad I.hok ea;let⟨od,J,_⟩:=O.look;exact Kf (W.kitx_own (cl.get _) cl.hd ha hn htk hm) I.kIn J e (λz=>nomatch z) h
end
structure Room(k:Nat)(A:Kw):Prop where
 hd:A.handled=none
 dp:A.depth+3*k+5<recursionLimit
 un:A.units+16*k+200<Er
theorem Room.mono{k:Nat}(r:Room k A)(h:j<=k):Room j A:={r.hd,by have:=r.dp;lia,by have:=r.un;lia}
theorem Room.deeper{k:Nat}(r:Room (k+1) A)(env:Env):Room k (A.deeper env) :=
 {r.hd,by have:=r.dp;show A.depth+1+3*k+5<_;lia,by have:=r.un;show A.units+3+16*k+200<_;lia}
theorem Room.in1{k:Nat}(r:Room (k+1) A):Room k A.in1 :=
 {r.hd,by have:=r.dp;show A.depth+3*k+5<_;lia,by have:=r.un;show A.units+1+16*k+200<_;lia}
def Zf5{C:Addr} :(A.under (.builtin "type.__call__" {.ref C::us,kw})).depth=A.depth+1:=by
 first|rfl|simp[Jet,Code.weight,Code.isCreation,Code.isGuard,Code.isCaller,Jhb,Jeu,guardIds]
def Zf4{C:Addr} :(A.under (.builtin "type.__call__" {.ref C::us,kw})).units=A.units+1:=by
 first|rfl|simp[Jet,Code.cUnits,Jhb,Jeu]
theorem Room.make{k:Nat}(r:Room (k+1) A)(C:Addr)(us:List Cb)(kw:List (Str×Cb)):Room k (A.under (.builtin "type.__call__" {.ref C::us,kw})) :=
 {r.hd,by have:=r.dp;rw[Zf5];lia,by have:=r.un;rw[Zf4];lia}
theorem Room.depth{k:Nat}(r:Room k A):A.depth<recursionLimit:=by have:=r.dp;lia
theorem Room.units{k:Nat}(r:Room k A):A.units+64<Er:=by have:=r.un;lia
def tNil:TA:=λ_ H Q=>Q [] H
def Zlj(ta:TE)(h:TA):TA:=λσ H Q=>ta σ H λx H1=>h σ H1 λxs y=>Q (x::xs) y
section
variable{e:Expr}{t:TA} 
def Zd:PA X [] tNil:=λ_ _ _ _ H Q I h=>Kz {[],H,I,.nil,h}
def Za(Z:PE X e te)(Y:PA X es t)(hs:Cs (e::es) X.env=(false,eval e X.env)::Cs es X.env:=by rfl):PA X (e::es) (Zlj te t):=by
 intro pos pz s σ H Q I h;rw[hs];show Ck _ _ (spliced ((false,eval e X.env)::Kl pos (Cs es X.env))) _ _ s;refine E8 (thn (Z pz s σ H _ I h) λu y hz=>?_);let⟨x,H1,I1,G,O⟩:=hz;exact thn (Y pos pz y σ H1 _ I1 O) λus s2⟨xs,H2,I2,B,J⟩=>{x::xs,H2,I2,.cons G B,J}
def tTup(t:TA):TE:=λσ H Q=>t σ H λxs H1=>xs.length<=Ca/\∀p,H1 p=none->Q (.ref p) (upd H1 p (.tup xs))
def tLst(t:TA):TE:=λσ H Q=>t σ H λxs H1=>xs.length<=Ca/\∀p,H1 p=none->Q (.ref p) (upd H1 p (.lst xs))
def Yc{x1}(h:PA X es t):PE X (.Tuple es x1 pos) (tTup t):=by
 intro pz s σ H Q I G;refine wpAny_Tuple_spliced (thn (h pos pz s σ H _ I G) λus y⟨xs,H1,B,r,z,q⟩=>{by rw[<-r.length];exact z,?_});let J:H1 y.heap.objs.size=none:=B.hok.fresh (Ji _);exists .ref y.heap.objs.size,upd H1 y.heap.objs.size (.tup xs),B.laid (t':=y.toks) (λb u e=>D2 _ e) (Ji _) ?_,rfl,q _ J;exists z,us,r,{_,D3 _ rfl,rfl,_,rfl,rfl}
def Y6(h:PA X es t):PE X (.List es pos) (tLst t):=by
 intro pz s σ H Q I G;refine wpAny_List_spliced (thn (h pos pz s σ H _ I G) λus y⟨xs,H1,B,r,z,q⟩=>{by rw[<-r.length];exact z,?_});let J:H1 y.heap.objs.size=none:=B.hok.fresh (Ji _);exists .ref y.heap.objs.size,upd H1 y.heap.objs.size (.lst xs),B.laid (t':=y.toks) (λb u e=>D2 _ e) (Ji _) ?_,rfl,q _ J;exists z,us,0,r,D3 _ rfl
end
abbrev Sp:=List V->Hp->VK->XK->Prop
abbrev CXT:=List Env->Hp->Cc->XK->Cb->Cc->Prop
variable{CX:L2.CXT}
structure Env0(P:Ha)(w:Hz)(K:Cq)(mg:Str->Option Cb)(base:Heap)(A:Kw)(outer:List Env)(s:Cc)(H:Hp):Prop where
 frames:A.frames=some outer
 mod:Mod K mg base
 bs:∀b o,base.get? b=some o->s.heap.get? b=some o/\H b=none
 bsz:base.objs.size<=s.heap.objs.size
 funs:s.heap.FunFrames base outer
 frf:∀b∈frs outer,H b=none
 hok:HOk P w H s.heap
 bare:Ja5 s.gens
def CE(outer:List Env)(P:Ha)(w:Hz)(H:Hp)(s:Cc)(Q:VK)(u:Cb)(s':Cc):Prop :=
 ∃v H',s'.os=s.os/\Ja5 s'.gens/\Un (frs outer) [] H H' s.heap s'.heap/\HOk P w H' s'.heap/\RelV v u/\Q v H'
def CR(CX:CXT)(outer:List Env)(P:Ha)(w:Hz)(H:Hp)(s:Cc)(Q:VK)(E:XK)(r:Jhk)(s':Cc):Prop :=
 match r with
 |.ok (.ret u)=>CE outer P w H s Q u s'
 |.ok _=>False
 |.error e=>CX outer H s E e s'
structure FnOk(P:Ha)(w:Hz)(K:Cq)(mg:Str->Option Cb)(base:Heap)(CX:CXT)(k:Nat)(f:Addr)(fd:L4)(ps:List Str)(sp:Sp):Prop where
 len:∀vs H Q E,sp vs H Q E->vs.length=ps.length
 run:∀(A:Kw)(outer:List Env)(s:Cc)(H:Hp)(args:Args)(us:List Cb)(vs:List V)(Q:VK)(E:XK),Room k A->Env0 P w K mg base A outer s H->Jef s fd args (ps.zip us)->Vals vs us->sp vs H Q E ->
  Lp (Cn P w) A (.call (.ref f) args) (CR CX outer P w H s Q E) s
def FnOk.imp{base:Heap}{k:Nat}{sp y:Sp}(F:FnOk P w K mg base CX k f fd ps sp)(h:∀vs H Q E,y vs H Q E->sp vs H Q E):FnOk P w K mg base CX k f fd ps y :=
 {λvs H Q E q=>F.len vs H Q E (h _ _ _ _ q),λA outer s H args us vs Q E G J O B hs=>F.run A outer s H args us vs Q E G J O B (h _ _ _ _ hs)}
def Env0.make{base:Heap}{outer:List Env}(e:Env0 P w K mg base A outer s H)(C:Addr)(us:List Cb)(kw:List (Str×Cb)) :
  Env0 P w K mg base (A.under (.builtin "type.__call__" {.ref C::us,kw})) outer s H:={by first|exact e.frames|(simpa[Jet,Code.envs,Jeu,pushEnvs]using e.frames),e.mod,e.bs,e.bsz,e.funs,e.frf,e.hok,e.bare}
def Env0.in1{base:Heap}{outer:List Env}(e:Env0 P w K mg base A outer s H) :
  Env0 P w K mg base A.in1 outer s H:={e.frames,e.mod,e.bs,e.bsz,e.funs,e.frf,e.hok,e.bare}
section
variable{s':Cc}
def Inv.env0(I:Inv X pz σ H s):Env0 X.prog X.w X.K X.mg X.base X.A X.stack s H :=
 {I.ok.frames,I.ok.mod,I.bs,Jx I.ok.bsz I.sz,I.stack,I.stkFree,I.hok,I.bare}
def Inv.after{u:Cb}(I:Inv X pz σ H s)(h:CE X.stack X.prog X.w H s Q u s'):EP X pz σ Q u s':=by
 let⟨v,H',os,y,un,G,r,q⟩:=h;let⟨J,g,d,t,B⟩:=s';obtain rfl:B=s.os:=os;exists v,H',I.call (h':=J) (g':=g) (d':=d) (t':=t) (ch:=[]) un G y (λb z=>Dx z (by simp)),r,q
end
def Zpo(sp:Sp)(dvs:List V)(E:XK)(t:TA):TE:=λσ H Q=>t σ H λvs H1=>sp (vs++dvs) H1 Q E
def Zg2(C:Addr)(m:Str)(sp:Sp)(dvs:List V)(E:XK)(ta:TE)(t:TA):TE:=λσ H Q=>ta σ H λx H1=>∃a dx fs,x=.ref a/\H1 a=some (.ins C dx fs)/\fs.lookup m=none /\
 t σ H1 λvs h=>sp (x::(vs++dvs)) h Q E
def Zli(C:Addr)(sp:Sp)(dvs:List V)(E:XK)(t:TA):TE:=λσ H Q=>t σ H λvs H1=>∀x dx,H1 x=none->H1 dx=none->dx≠x ->
 sp (.ref x::(vs++dvs)) (upd (upd H1 dx (.own x)) x (.ins C dx [])) (λv h=>v=.non/\Q (.ref x) h) E
def Sx(K:Cq)(fd:L4)(ps:List Str)(ds:List Cb):Prop :=
 ∀(s:Cc)(us:List Cb),K.In s.heap->(us++ds).length=ps.length->Jef s fd {us,[]} (ps.zip (us++ds))
def Sx.all(h:∀us:List Cb,us.length=ps.length->Jdz fd {us,[]}=pure (ps.zip us)):Sx K fd ps []:=λs us _ hl=>by
 rw[Gg]at hl⊢;exact .of_eq (h us hl)
def Q4(CX:CXT)(X:Cx)(E:XK):Prop:=∀(pz:List (Addr×Obj))(σ:St)(H:Hp)(s:Cc)(e:Cb)(s':Cc),Inv X pz σ H s->CX X.stack H s E e s'->X.xe e s'
section
variable{k:Nat}{C:Addr}{sp:Sp}{dvs:List V}{ds:List Cb}{E:XK}{x m:Str}{p:Pos}{e o:Expr}{t:TA}
theorem Zhz(F:FnOk X.prog X.w X.K X.mg X.base CX k f fd ps sp)(G:Room k X.A)(J:Sx X.K fd ps ds)(hd:Vals dvs ds)(hx:Q4 CX X E)(I:Inv X pz σ H s)(r:Vals vs us)(h:sp (vs++dvs) H Q E):Ck (Cn X.prog X.w) X.A (call (.ref f) us) (EP X pz σ Q) X.xe s:=by
 let B:Vals (vs++dvs) (us++ds):=r.append hd;let hl:(us++ds).length=ps.length:=by rw[<-B.length];exact F.len _ _ _ _ h
 refine Jga (L5 (F.run X.A X.stack s H {us,[]} (us++ds) (vs++dvs) Q E G I.env0 (J s us I.kIn hl) B h) λr s' y=>?_);cases r with
 |error e=>exact hx pz σ H s e s' I y
 |ok O =>
  cases O with
  |ret u=>exact I.after y
  |next=>exact C3 y
  |brk=>exact C3 y
  |cont=>exact C3 y
def Zqo(F:FnOk X.prog X.w X.K X.mg X.base CX k f fd ps sp)(J:Room k X.A)(Z:Gl X x)(O:X.mg x=some (.ref f))(Y:Jc1 X.K (.ref f)=true)(hb:Sx X.K fd ps ds)(hd:Vals dvs ds)(hx:Q4 CX X E)(ha:PA X (e::es) t)(B:(x==("__debug__":Str))=false:=by decide)(he:Cs (e::es) X.env=(false,eval e X.env)::Cs es X.env:=by rfl)(y:(Kl pos (Cs es X.env)).any (·.1)=false:=by rfl) :
  PE X (.Call (.Name x p) (e::es) [] pos) (Zpo sp dvs E t):=by
 intro pz s σ H Q I h;refine E9 (Zc3 I Z O ?_ B);refine Jev (h₀:=X.base) I.ok.mod.kin Y (thn (ha pos pz s σ H _ I h) λus s1⟨vs,H1,G,r,q⟩=>{G.kIn,?_}) he y;exact Zhz F J hb hd hx G r q
def Zql{pl:Sem Bool}(he:PE X o ta)(c:Cls X.K C)(J:Meth X.K C m f)(F:FnOk X.prog X.w X.K X.mg X.base CX k f fd ps sp)(hr:Room k X.A)(hb:Sx X.K fd ps ds)(hd:Vals dvs ds)(hx:Q4 CX X E)(ha:PA X (e::es) t)(y:Cs (e::es) X.env=(false,eval e X.env)::Cs es X.env:=by rfl)(B:(Kl pos (Cs es X.env)).any (·.1)=false:=by rfl)(ht:eval (.Call (.Attribute o m apos) (e::es) [] pos) X.env=(do
   let G <-eval o X.env
   Jdp apos.atName
   let(f,first) <-L9 [G] (Ja9 G m pl)
   Jgq pos f first (Kl pos (Cs (e::es) X.env)) (L6 pos (Hv [] X.env))):=by rfl) :
  PE X (.Call (.Attribute o m apos) (e::es) [] pos) (Zg2 C m sp dvs E ta t):=by
 intro pz s σ H Q I h;refine Je9 (pl:=pl) (thn (he pz s σ H _ I h) λu Z hz=>?_) ht;let⟨x,H1,Y,rx,a,dx,fs,ex,ea,l,q⟩:=hz;subst ex;obtain rfl:u=Cd a:=rx;refine Ps Y ea c J l ?_;refine Jev (first:=[.ref a]) (h₀:=X.base) I.ok.mod.kin J.kp (thn (ha pos pz Z σ H1 _ Y q) λus s2⟨vs,H2,O,r,q2⟩=>{O.kIn,?_}) y B;exact Zhz (us:=.ref a::us) (vs:=.ref a::vs) F hr hb hd hx O (.cons rfl r) q2
def Zl9{pl:Sem Bool}(Z:PE X o ta)(c:Cls X.K C)(G:Meth X.K C m f)(F:FnOk X.prog X.w X.K X.mg X.base CX k f fd ps sp)(Y:Room k X.A)(hb:Sx X.K fd ps ds)(hd:Vals dvs ds)(hx:Q4 CX X E)(O:eval (.Call (.Attribute o m apos) [] [] pos) X.env=(do
   let B <-eval o X.env
   Jdp apos.atName
   let(f,first) <-L9 [B] (Ja9 B m pl)
   Jgq pos f first (Kl pos (Cs [] X.env)) (L6 pos (Hv [] X.env))):=by rfl) :
  PE X (.Call (.Attribute o m apos) [] [] pos) (Zg2 C m sp dvs E ta tNil):=by
 intro pz s σ H Q I h;refine Je9 (pl:=pl) (thn (Z pz s σ H _ I h) λu s1 hz=>?_) O;let⟨x,H1,y,J,a,dx,fs,ex,ea,l,q⟩:=hz;subst ex;obtain rfl:u=Cd a:=J;refine Ps y ea c G l ?_;exact W.callWith_K0 (first:=[.ref a]) y.kIn G.kp (Zhz (us:=[.ref a]) (vs:=[.ref a]) F Y hb hd hx y (.cons rfl .nil) q)
structure Mk(K:Cq)(C f:Addr):Prop where
 makes:W.makesIn K C=true
 init:Ez K (.ref C) "__init__"=some (some (.ref f))
 fn:W.isFn K (.ref f)=true
 kp:Jc1 K (.ref C)=true
theorem Zlw(M:Mk X.K C f)(F:FnOk X.prog X.w X.K X.mg X.base CX k f fd ps sp)(Z:Room (k+1) X.A)(hb:Sx X.K fd ps ds)(hd:Vals dvs ds)(hx:Q4 CX X E)(I:Inv X pz σ H s)(r:Vals vs us)(h:∀x dx,H x=none->H dx=none->dx≠x->sp (.ref x::(vs++dvs)) (upd (upd H dx (.own x)) x (.ins C dx [])) (λv H2=>v=.non/\Q (.ref x) H2) E) :
  Ck (Cn X.prog X.w) X.A (call (.ref C) us) (EP X pz σ Q) X.xe s:=by
 let J:=h (s.heap.objs.size+1) s.heap.objs.size (I.hok.fresh (Fu _)) (I.hok.fresh (Ji _)) (Gn (F1 _));let B:=Inv.made (C:=C) I;let G:Vals (V.ref (s.heap.objs.size+1)::(vs++dvs)) (Cd (s.heap.objs.size+1)::(us++ds)):=.cons rfl (r.append hd);let hl:(Cd (s.heap.objs.size+1)::us++ds).length=ps.length:=by
  let e:=G.length;rw[F.len _ _ _ _ J]at e;exact e.symm
 refine Jga (Zmi (f:=f) I.kIn M.makes M.init (beq_iff_eq.mp M.fn) (L5 (F.run _ X.stack _ _ {Cd (s.heap.objs.size+1)::us,[]} (Cd (s.heap.objs.size+1)::(us++ds)) _ _ E (Z.make C us [])
  (B.env0.make C us []) (hb _ (Cd (s.heap.objs.size+1)::us) B.kIn hl) G J) λr s' y=>?_))
 cases r with
 |error e=>exact hx pz σ _ _ e s' B y
 |ok fl =>
  cases fl with
  |ret u =>
   let⟨v,H',I3,O,ev,Y⟩:=B.after y;subst ev;exists O,{V.ref (s.heap.objs.size+1),H',I3,rfl,Y}
  |next=>exact C3 y
  |brk=>exact C3 y
  |cont=>exact C3 y
def Zqm(M:Mk X.K C f)(F:FnOk X.prog X.w X.K X.mg X.base CX k f fd ps sp)(J:Room (k+1) X.A)(Y:Gl X x)(O:X.mg x=some (.ref C))(hb:Sx X.K fd ps ds)(hd:Vals dvs ds)(hx:Q4 CX X E)(ha:PA X (e::es) t)(B:(x==("__debug__":Str))=false:=by decide)(Z:Cs (e::es) X.env=(false,eval e X.env)::Cs es X.env:=by rfl)(y:(Kl pos (Cs es X.env)).any (·.1)=false:=by rfl) :
  PE X (.Call (.Name x p) (e::es) [] pos) (Zli C sp dvs E t):=by
 intro pz s σ H Q I h;refine E9 (Zc3 I Y O ?_ B);refine Jev (h₀:=X.base) I.ok.mod.kin M.kp (thn (ha pos pz s σ H _ I h) λus s1⟨vs,H1,G,r,q⟩=>{G.kIn,?_}) Z y;exact Zlw M F J hb hd hx G r q
end
def PK(X:Cx)(kws:List Jdq)(t:TA):Prop :=
 ∀(pos:Pos)(pz:List (Addr×Obj))(s:Cc)(σ:St)(H:Hp)(Q:List V->Hp->Prop),Inv X pz σ H s->t σ H Q->Ck (Cn X.prog X.w) X.A (evalAll ((L6 pos (Hv kws X.env)).map (·.2))) (AP X pz σ Q) X.xe s
section
variable{x:Str}{kpos:Pos}{e:Expr}{kws:List Jdq}{t:TA}{nm:Option Str}
def Zt4:PK X [] tNil:=λ_ _ _ _ H Q I h=>wpAny_evalAll_nil {[],H,I,.nil,h}
def Zqk(Z:PE X e te)(Y:PK X kws t):PK X (⟨nm,e,kpos⟩::kws) (Zlj te t):=by
 intro pos pz s σ H Q I h;show Ck _ _ (evalAll ((do let v <-eval e X.env;Jdp pos;pure v)::(L6 pos (Hv kws X.env)).map (·.2))) _ _ s;refine wpAny_evalAll_cons (D0 (thn (Z pz s σ H _ I h) λu y⟨x,H1,I1,G,O⟩=>D0 (Lf (D1 ?_))));exact thn (Y pos pz y σ H1 _ I1 O) λus s2⟨xs,H2,I2,B,J⟩=>{x::xs,H2,I2,.cons G B,J}
end
structure FnScope(N P:List Str)(sc:Scope):Prop where
 kind:sc.kind=.function
 co:sc.isCoroutine=false
 gen:sc.isGenerator=false
 nd:N.Nodup
 pre:N.take P.length=P
 par:∀x∈P,sc.names.lookup x=some .local\/sc.names.lookup x=some .cell
 nofree:∀y∈sc.names,y.2≠.free
theorem Zb4{kindOf:Str->Option E5}{x:Str}:∀{binds:List (Str×Cb)}{m:Str->Option Cb},(∀v,(x,v)∉binds)->Jhc kindOf binds m x=m x
 |[],_,_=>rfl
 |(n,v)::r,m,h=>by
  unfold Jhc;rw[Zb4 λw hw=>h w (Jf _ hw)]
  split
  .let:x≠n:=by rintro rfl;exact h v Jh
   simp[this]
  .rfl
theorem Zb6{kindOf:Str->Option E5}{x:Str}:∀{binds:List (Str×Cb)}{m:Str->Option Cb},(∀v,(x,v)∉binds)->Jhd kindOf binds m x=m x
 |[],_,_=>rfl
 |(n,v)::r,m,h=>by
  unfold Jhd;rw[Zb6 λw hw=>h w (Jf _ hw)]
  split
  .rfl
  .let:x≠n:=by rintro rfl;exact h v Jh
   simp[this]
theorem Zb5{kindOf:Str->Option E5}{x:Str}{v:Cb}:∀{P:List Str}{vs:List Cb}{i:Nat}{m:Str->Option Cb},P.Nodup->P[i]?=some x->vs[i]?=some v->kindOf x=some .local ->
  Jhc kindOf (P.zip vs) m x=some v
 |[],_,_,_,_,h,_,_=>by simp at h
 |_::_,[],_,_,_,_,h,_=>by simp at h
 |p::P,w::vs,0,m,nd,h1,h2,hk=>by
  simp at h1 h2;subst h1;subst h2;show Jhc kindOf ((p,w)::P.zip vs) m p=_;unfold Jhc;rw[Zb4 λv y=>(Fh.mp nd).1 (Jb0 y).1,D7 hk];simp
 |p::P,w::vs,i+1,m,nd,h1,h2,hk=>by
  show Jhc kindOf ((p,w)::P.zip vs) m x=_;unfold Jhc;exact Zb5 (i:=i) (Fh.mp nd).2 (by simpa using h1) (by simpa using h2) hk
theorem Zb7{kindOf:Str->Option E5}{x:Str}{v:Cb}:∀{P:List Str}{vs:List Cb}{i:Nat}{m:Str->Option Cb},P.Nodup->P[i]?=some x->vs[i]?=some v->kindOf x≠some .local ->
  Jhd kindOf (P.zip vs) m x=some v
 |[],_,_,_,_,h,_,_=>by simp at h
 |_::_,[],_,_,_,_,h,_=>by simp at h
 |p::P,w::vs,0,m,nd,h1,h2,hk=>by
  simp at h1 h2;subst h1;subst h2;show Jhd kindOf ((p,w)::P.zip vs) m p=_;unfold Jhd;rw[Zb6 λv y=>(Fh.mp nd).1 (Jb0 y).1,D6 hk];simp
 |p::P,w::vs,i+1,m,nd,h1,h2,hk=>by
  show Jhd kindOf ((p,w)::P.zip vs) m x=_;unfold Jhd;exact Zb7 (i:=i) (Fh.mp nd).2 (by simpa using h1) (by simpa using h2) hk
def Tj(N:List Str)(vs:List V):St:=vs.map some++Cp (N.length-vs.length) none
def cxOf(CX:CXT)(P:Ha)(w:Hz)(K:Cq)(mg:Str->Option Cb)(base:Heap)(N:List Str)(qual:Str)(scope:Scope)(f:Addr)(y:Cb)(A:Kw)(outer:List Env)(s:Cc)(H:Hp)(E:XK):Cx where
 prog:=P
 w:=w
 K:=K
 mg:=mg
 base:=base
 A:=A.deeper (Lw qual scope s.heap.objs.size f y)
 N:=N
 s₀:=s
 H₀:=H
 env:=Lw qual scope s.heap.objs.size f y
 outer:=outer
 stack:=Lw qual scope s.heap.objs.size f y::outer
 ex:=[]
 calm:=true
 fn:=λ_=>true
 pn:=[]
 xe:=λe s'=>Ck (Cn P w) (A.deeper (Lw qual scope s.heap.objs.size f y)) (leaving (Lw qual scope s.heap.objs.size f y) e) (λ_ h=>CX outer H s E e h) (λB h=>CX outer H s E B h) s'
def Zff{y:Scope}{n:Nat}{x:Str}(h:y.names.lookup x=some .cell):∃c,(Jg0 n y.names []).lookup x=some c:=by
 let q:=Jez y.names n [] (.inl h);exact Fz.mp q
theorem Zbl{base:Heap}{scope:Scope}{Z:Cb}{outer:List Env}{s1:Cc}{E:XK}(S:FnScope N ps scope)(hd:A.handled=none)(B:Env0 P w K mg base A outer s H)(hl:vs.length=ps.length)(r:Vals vs us)(x:InCallC s s.heap.objs.size (Jhc (Lw qual scope s.heap.objs.size f Z).kindOf (ps.zip us) λ_=>none) (Jg0 (s.heap.objs.size+1) scope.names []) (Jhd (Lw qual scope s.heap.objs.size f Z).kindOf (ps.zip us) λ_=>none) s1) :
  Inv (cxOf CX P w K mg base N qual scope f Z A outer s H E) [] (Tj N vs) H s1:=by
 let a0:ps.length<=N.length:=by have:=congrArg Eu S.pre;rw[Jz]at this;lia
 let⟨h1,tk,rfl,hk⟩:=x.done;let G:∀b:Addr,b∉(cxOf CX P w K mg base N qual scope f Z A outer s H E).ex:=λb z=>Dx (show b∈([]:List Addr)from z) (by simp);refine{{B.mod,S.kind,rfl,rfl,Ji _,λy z c h1 h2=>?_,λy J=>?_,λy c _ h=>?_,λ_=>hd,Kw.frames_deeper B.frames,.inr ⟨rfl,rfl⟩,λb z=>Dx z (G b),B.bs,B.bsz,λb _ _=>G b,λb z=>Dx z (G b),B.funs,B.frf},
  rfl,B.bare,Un.kept hk,{_,x.toInCall.ns,λi y v h1 h2 h3=>?_},λy c h=>{_,x.cell y c h},B.hok.fresh (Ji _),λy c h=>?_,λp Y=>Dx (show p∈([]:List (Addr×Obj))from Y) (by simp),B.hok.kept hk,?_}
 .exact name_of_addr x.apart (Hl h1) (Hl h2)
 .let J:scope.names.lookup y=some .cell\/scope.names.lookup y=some .free:=J;rcases J with J|J
  .exact Zff J
  .exact Dx rfl (S.nofree _ (Hl J))
 .exact Fi (x.above y c (Hl h))
 .let hi:i<vs.length:=by
   unfold Tj at h2
   by_cases hi:i<vs.length
   .exact hi
   .rw[J8 (by simpa using hi)]at h2;rw[Mp]at h2
    split at h2<;>cases h2
  let ha:vs[i]?=some v:=by
   unfold Tj at h2;rw[Jw (by simpa using hi),Gc]at h2;cases e:vs[i]? with
   |none=>rw[e]at h2;cases h2
   |some a=>rw[e]at h2;cases h2;rfl
  let⟨u,hu,rv⟩:=r.get ha;let Y:ps[i]?=some y:=by
   rw[<-S.pre,Km ()];exact h1
  let O:ps.Nodup:=by rw[<-S.pre];exact S.nd.sublist (B5 _ _)
  exists u,rv,?_;rcases S.par y (G1 Y)with k|k
  .exact .inl ⟨k,Zb5 O Y hu k⟩
  .let⟨c,e⟩:=Zff (n:=s.heap.objs.size+1) k;refine .inr {.inl k,c,e,?_};let q:=x.cell y c e;rw[Zb7 O Y hu (by show scope.names.lookup y≠_;rw[k];decide)]at q;exact q
 .exact B.hok.fresh (Fi (x.above y c (Hl h)))
 .unfold Tj;show _=N.length;rw[Jc,Ja,List.length_replicate];lia
theorem Zu6{base:Heap}{k:Nat}{name:Str}{params:Arguments}{body:List Stmt}{scope:Scope}{dV kV Y h ct oc:Cb}{an od:Option Addr}{a0:Array (Option Cb)}{N ps:List Str}{sp:Sp}(lk:K.lookup f=some {oc,od,.func (Jc7 name qual params body scope dV kV Y pm an h ct),a0})(a2:Jd0 K h qual=true)(S:FnScope N ps scope)(len:∀vs H Q E,sp vs H Q E->vs.length=ps.length)(hbody:∀(A:Kw)(outer:List Env)(s:Cc)(H:Hp)(vs:List V)(Q:VK)(E:XK),Room k (A.deeper (Lw qual scope s.heap.objs.size f h))->sp vs H Q E ->
   ∃t,PSs (cxOf CX P w K mg base N qual scope f h A outer s H E) body t/\t {nx:=λ_ H'=>Q .non H',rt:=Q} (Tj N vs) H) :
  FnOk P w K mg base CX (k+1) f (Jc7 name qual params body scope dV kV Y pm an h ct) ps sp:=by
 refine{len,λA outer s H args us vs Q E hr O hb r G=>?_};let hl:=len _ _ _ _ G;let KX:K.In s.heap:=O.mod.kin.keeps λb o e=>(O.bs b o e).1;let a1:s.heap.NoLimit:=O.mod.nolimit.keeps λb o e=>(O.bs b o e).1;let hkind:∀y∈ps.zip us,scope.names.lookup y.1=some .local\/(scope.names.lookup y.1=some .cell/\((Jg0 (s.heap.objs.size+1) scope.names []).lookup y.1).isSome=true):=λ⟨n,v⟩hy=>by
  rcases S.par n (Jb0 hy).1 with q|q
  .exact .inl q
  .exact .inr {q,Jez _ _ _ (.inl q)}
 refine codeAny_call_function hr.depth (KX _ _ lk) rfl S.co S.gen rfl (W.codeRec_of KX a2) (hb _ _ _ _ ?_);refine Lx S.kind hkind λenv he s1 x=>?_;subst he;refine{a1.keeps x.toInCall.keep,codeAny_func ?_};let⟨t,ht,hq⟩:=hbody A outer s H vs Q E (hr.deeper _) G;let I:Inv (cxOf CX P w K mg base N qual scope f h A outer s H E) [] (Tj N vs) H s1:=Zbl S hr.hd O hl r x;refine Jac (ht [] s1 (Tj N vs) H _ I hq) (λfl s' hs=>?_) λe s' hs=>hs;let fin:∀{B:St}{H':Hp}{v:V}{u:Cb},Inv (cxOf CX P w K mg base N qual scope f h A outer s H E) [] B H' s'->RelV v u->Q v H'->CE outer P w H s Q u s' :=
  λ{B H' v u}J Z q=>{v,H',J.os,J.bare,J.base,J.hok,Z,q}
 cases fl with
 |ret u =>
  let⟨v,B,H',J,Z,q⟩:=hs;exact fin J Z q
 |next =>
  let⟨B,H',J,q⟩:=hs;exact fin (v:=V.non) (u:=Cb.none) J rfl q
 |brk =>
  let⟨_,_,_,q⟩:=hs;exact C3 q
 |cont =>
  let⟨_,_,_,q⟩:=hs;exact C3 q
section
variable{x:Str}{p:Pos}{e:Expr}{t:TA}{id T:String}{r:List V->Hp->VK->Prop}
def tCB(r:List V->Hp->VK->Prop)(t:TA):TE:=λσ H Q=>t σ H λvs H1=>r vs H1 Q
def Zn(hc:Wi X (.builtin id) r)(hg:Gl X x)(Z:X.mg x=none)(Y:K5 x=some (.builtin id))(ha:PA X (e::es) t)(hn:x≠"__name__":=by decide)(B:(x==("__debug__":Str))=false:=by decide)(he:Cs (e::es) X.env=(false,eval e X.env)::Cs es X.env:=by rfl)(y:(Kl pos (Cs es X.env)).any (·.1)=false:=by rfl):PE X (.Call (.Name x p) (e::es) [] pos) (tCB r t):=by
 intro pz s σ H Q I h;refine E9 (Pn I hg Z Y ?_ hn B);exact Jew (thn (ha pos pz s σ H _ I h) λus G⟨vs,H1,I1,J,O⟩=>hc pz G σ H1 vs us Q I1 J O) he y
def Yr(hc:Wi X (.type T) r)(hg:Gl X x)(Z:X.mg x=none)(Y:K5 x=some (.type T))(ha:PA X (e::es) t)(hn:x≠"__name__":=by decide)(B:(x==("__debug__":Str))=false:=by decide)(he:Cs (e::es) X.env=(false,eval e X.env)::Cs es X.env:=by rfl)(y:(Kl pos (Cs es X.env)).any (·.1)=false:=by rfl):PE X (.Call (.Name x p) (e::es) [] pos) (tCB r t):=by
 intro pz s σ H Q I h;refine E9 (Pn I hg Z Y ?_ hn B);exact Ln (thn (ha pos pz s σ H _ I h) λus G⟨vs,H1,I1,J,O⟩=>hc pz G σ H1 vs us Q I1 J O) he y
end
end L2
variable{H I H' I' H1:L2.Hp}{X:L2.Cx}{σ:L2.St}{vs xs ys:List L2.V}{Q:L2.VK}{y:L2.V}{te ta tb to tv:L2.TE}{kvs:List (List L2.Key×L2.V)}{wi:L2.TI}{CX:L2.CXT}
namespace HT
open PySem PyProof.Rows
def lexLt:List Int->List Int->Bool
 |[],[]=>false
 |[],_::_=>true
 |_::_,[]=>false
 |x::xs,y::ys=>if x=y then lexLt xs ys else decide (x<y)
def lexLt_cons(x y:Int)(xs ys:List Int):lexLt (x::xs) (y::ys)=if x=y then lexLt xs ys else decide (x<y):=rfl
def N5:lexLt [] []=false:=rfl
def Uq(y:Int)(ys:List Int):lexLt [] (y::ys)=true:=rfl
def Ws(x:Int)(xs:List Int):lexLt (x::xs) []=false:=rfl
section
def cat_tup{t b:Addr}{vs ws:List Cb}{Q:Cb->Cc->Prop}(ht:IsTup s.heap t vs.toArray)(hb:IsTup s.heap b ws.toArray)(Z:vs≠[])(h1:ws=[]->Q (.ref t) s)(h2:ws≠[]->Q (.ref s.heap.objs.size) {s with heap:=s.heap.push {cls:=.type "tuple",data:=.seq (vs++ws).toArray} })(hsz:vs.length+ws.length<=Ca):Ck (Cn prog w) A (Hk .Add (.ref t) (.ref b)) Q E s:=by
 let⟨⟨cls,dd,data,sl⟩,O,hc,n,hd⟩:=id ht;let⟨⟨a0,J,data2,y⟩,h,G,Y,B⟩:=id hb;simp only at hc hd G B;subst hc hd G B;let e:vs.toArray++ws.toArray=(vs++ws).toArray:=by simp
 by_cases hw:ws=[]
 .exact concat_meets {_,O,rfl} {_,h,rfl} Mw seq_tuple_add Kx Ks (Ko _ _)
   (tuple_addW1 t b vs.toArray ws.toArray n Y dd J sl y (by simpa using Z) (by simp[hw])) ⟨O,h,h1 hw⟩
 .refine concat_meets {_,O,rfl} {_,h,rfl} Mw seq_tuple_add Kx Ks (Ko _ _)
   (tuple_addW2 t b vs.toArray ws.toArray n Y dd J sl y (by simpa using Z) (by simpa using hw) (by rw[Jq,Jq];exact hsz)) {O,h,?_}
  rw[e];exact h2 hw
def sIx(n d:Nat):Option Int->Nat
 |none=>d
 |some v=>if v<0 then(v+(n:Int)).toNat else min v.toNat n
def sIx_none(n d:Nat):sIx n d none=d:=rfl
theorem sIx_nat(n d k:Nat):sIx n d (some (k:Int))=min k n:=by
 show(if(k:Int)<0 then((k:Int)+(n:Int)).toNat else min (k:Int).toNat n)=min k n;rw[D6 (),G2]
theorem Ztw(n d:Nat)(hd:d<=n)(o:Option Int):sIx n d o<=n:=by
 cases o with
 |none=>exact hd
 |some v =>
  show(if v<0 then(v+(n:Int)).toNat else min v.toNat n)<=n
  by_cases hv:v<0
  .rw[D7 hv];lia
  .rw[D6 hv];exact Nat.min_le_right _ _
theorem Zkk(v:Int)(n d:Nat):(if v<0 then max (v+(n:Int)) 0 else min v (n:Int))=((sIx n d (some v):Nat):Int):=by
 show(if v<0 then max (v+(n:Int)) 0 else min v (n:Int))=(((if v<0 then(v+(n:Int)).toNat else min v.toNat n):Nat):Int)
 by_cases hv:v<0
 .simp only[D7 hv];lia
 .simp only[D6 hv];lia
theorem Zgi(lo hi:Option Int)(n:Nat):Kg lo hi 1 (n:Int)=(((sIx n 0 lo:Nat):Int),((sIx n n hi:Nat):Int)):=by
 let h1:¬ ((1:Int)<0):=by lia
 unfold Kg;simp only[h1,if_false];refine Prod.ext ?_ ?_
 .cases lo with
  |none=>rfl
  |some v=>exact Zkk v n 0
 .cases hi with
  |none=>rfl
  |some v=>exact Zkk v n n
theorem Zfw(i j:Nat):Hb (i:Int) (j:Int) 1=j-i:=by
 unfold Hb;let h1:(1:Int) > 0:=by lia
 simp only[h1,if_true,Int.ediv_one]
 split<;>lia
theorem Pi{v:Cb}{o:Option Int}{Q:Option Int->Cc->Prop}(p:Jd1 v o)(h:Q o s):Ck (Cn prog w) A (Je4 v) Q E s:=by
 cases p with
 |none=>exact slicePart_none h
 |int i t=>exact slicePart_int h
def sliceApplied_gen{sl:Addr}{J G:Cb}{n:Nat}{Q:Int×Int×Nat->Cc->Prop}(hs:s.heap.IsSliceOf sl J G .none)(pl:Jd1 J lo)(O:Jd1 G hi)(h:Q (((sIx n 0 lo:Nat):Int),1,sIx n n hi-sIx n 0 lo) s):Ck (Cn prog w) A (Ly (.ref sl) (pure (n:Int))) Q E s:=by
 let⟨os,y,Y,B⟩:=id hs;unfold Ly Jfu;refine D0 (D0 (Jfa y B (x:=J) rfl (D0 (Jfa y B (x:=G) rfl (D0 (Jfa y B (x:=.none) rfl (D1 ?_)))))));refine D0 (slicePart_none ?_);show Ck _ _ (if((1:Int)==0)=true then _ else _) _ _ s;rw[D6 nofun];refine D0 (Pi pl (D0 (Pi O (D0 (D1 ?_)))));show Ck _ _ (match Kg lo hi 1 (n:Int)with|(lo,hi)=>pure (lo,(1:Int),Hb lo hi 1)) _ _ s;rw[Zgi lo hi n];show Ck _ _ (pure (((sIx n 0 lo:Nat):Int),(1:Int),Hb ((sIx n 0 lo:Nat):Int) ((sIx n n hi:Nat):Int) 1)) _ _ s
 rw[Zfw];exact D1 h
theorem Zl4(xs:Array Cb)(i k:Nat):((Cv k).filterMap λ(m:Nat)=>xs[((i:Int)+(m:Int)*1).toNat]?).toArray=((xs.toList.drop i).take k).toArray:=by
 let e:(λ(m:Nat)=>xs[((i:Int)+(m:Int)*1).toNat]?)=λm=>xs[i+m]?:=by
  funext m
  let:((i:Int)+(m:Int)*1).toNat=i+m:=by lia
  rw[this]
 rw[e];let:=pick_run xs i k;rw[List.filterMap_map]at this;let e2:((λx=>xs[x]?) ∘ λx=>i+x)=λm=>xs[i+m]?:=rfl;rw[e2]at this;rw[this]
theorem getItem_tuple_cut{t sl:Addr}{y:Array Cb}{vl Z:Cb}{Q:Cb->Cc->Prop}(B:IsTup s.heap t y)(hs:s.heap.IsSliceOf sl vl Z .none)(pl:Jd1 vl lo)(pu:Jd1 Z hi)(hw:¬ (sIx y.size 0 lo=0/\sIx y.size y.size hi=y.size))(h:Q (.ref s.heap.objs.size) {s with heap:=s.heap.push {cls:=.type "tuple",data:=.seq ((y.toList.drop (sIx y.size 0 lo)).take (sIx y.size y.size hi-sIx y.size 0 lo)).toArray} })(hsz:y.size<=Ca):Ck (Cn prog w) A (Lc (.ref t) (.ref sl)) Q E s:=by
 let htake:sizeOk (.seq ((y.toList.drop (sIx y.size 0 lo)).take (sIx y.size y.size hi-sIx y.size 0 lo)).toArray):=by
  show((y.toList.drop (sIx y.size 0 lo)).take (sIx y.size y.size hi-sIx y.size 0 lo)).toArray.size<=Ca;rw[Jq,Jz,Ga,Jm];lia
 let hj:sIx y.size y.size hi<=y.size:=Ztw _ _ (Ji _) hi;let⟨os,G,O,a0⟩:=id hs;let Y:s.TypeIs (.ref sl) "slice":=⟨os,G,O⟩;unfold Lc
 try with_reducible refine Ec ?_
 first|refine D0 (D1 ?_)|skip
 refine D0 (Jeg B.typeIs nofun ?_);refine D0 (Hm (name:=C8 "__getitem__") B.typeIs C1
  (Eb C1 B.typeIs Jdr ?_ (Jd2 _ _)))
 show Ck _ _ (Kb (.ref t) >>= _) _ _ s;refine D0 (tupleItemsOf_ B ?_);refine D0 (K6 Y ?_);rw[D7 nofun];refine D0 (sliceApplied_gen hs pl pu ?_);let J:¬ ((((sIx y.size 0 lo:Nat):Int)==0&&(1:Int)==1&&(sIx y.size y.size hi-sIx y.size 0 lo)==y.size)=true):=by
  intro q;rw[Bi,Bi]at q;let q1:((sIx y.size 0 lo:Nat):Int)=0:=eq_of_beq q.1.1;let q2:sIx y.size y.size hi-sIx y.size 0 lo=y.size:=eq_of_beq q.2;exact hw {(),()}
 show Ck _ _ (if(((sIx y.size 0 lo:Nat):Int)==0&&(1:Int)==1&&(sIx y.size y.size hi-sIx y.size 0 lo)==y.size)=true then _ else _) _ _ s;rw[D6 J,Zl4]
 first
  |exact D0 (m:=Hf _) (Em (D1 {_,rfl,D1 h}) htake)
  |exact D0 (m:=Hf _) (Em (D0 (D1 (D1 {_,rfl,D1 h}))) htake)
  |exact D0 (D0 (m:=Hf _) (Em (D1 (D1 {_,rfl,D1 h})) htake))
  |exact D0 (D0 (m:=Hf _) (Em (D1 {_,rfl,D1 h}) htake))
end
end HT
namespace L2
open PySem PySem.Spec PyProof.Rows
abbrev TO:=St->Hp->(Option Int->Hp->Prop)->Prop
def PO(X:Cx)(e:Option Expr)(t:TO):Prop :=
 ∀(pz:List (Addr×Obj))(s:Cc)(σ:St)(H:Hp)(Q:Option Int->Hp->Prop),Inv X pz σ H s->t σ H Q ->
  Ck (Cn X.prog X.w) X.A (evalPart e X.env) (λu s'=>∃o H',Inv X pz σ H' s'/\Jd1 u o/\Q o H') X.xe s
def Zg0:TO:=λ_ H Q=>Q none H
def Zs1(t:TE):TO:=λσ H Q=>t σ H λx H1=>∃i,x=.int i/\Q (some i) H1
section
variable{e:Expr}{lo hi:Option Expr}{tl th:TO}{p2:Pos}
def Y2:PO X none Zg0:=by
 intro pz s σ H Q I h;rw[Jd3];exact D1 {none,H,I,.none,h}
def Yn(h:PE X e te):PO X (some e) (Zs1 te):=by
 intro pz s σ H Q I hw;rw[evalPart_some];refine thn (h pz s σ H _ I hw) λu J hz=>?_;let⟨x,H1,G,y,B⟩:=hz;let⟨i,rfl,q⟩:=B;let⟨t,rfl⟩:=y;exists some i,H1,G,.int i t,q
def SlR(X:Cx)(r:V->Option Int->Option Int->Hp->VK->Prop):Prop :=
 ∀(pz:List (Addr×Obj))(s:Cc)(σ:St)(H:Hp)(x:V)(v y h:Cb)(lo hi:Option Int)(sl:Addr)(Q:VK),Inv X pz σ H s->RelV x v->s.heap.IsSliceOf sl y h .none->Jd1 y lo->Jd1 h hi->r x lo hi H Q ->
  ∃T id,Jeh (.type T) "__getitem__"=pure (some (.builtin id))/\s.TypeIs v T/\Ck (Cn X.prog X.w) X.A (Lc v (.ref sl)) (EP X pz σ Q) X.xe s
def tSl(r:V->Option Int->Option Int->Hp->VK->Prop)(te:TE)(tl th:TO):TE:=λσ H Q=>te σ H λx H1=>tl σ H1 λl y=>th σ y λu h=>r x l u h Q
def Yg{r:V->Option Int->Option Int->Hp->VK->Prop}(hr:SlR X r)(he:PE X e te)(hl:PO X lo tl)(hu:PO X hi th):PE X (.Subscript e (.Slice lo hi none p2) pos) (tSl r te tl th):=by
 intro pz s σ H Q I h;refine Jei (thn (he pz s σ H _ I h) λv Y hz=>?_);let⟨x,H1,I1,Z,q1⟩:=hz;refine wpAny_Slice (thn (hl pz Y σ H1 _ I1 q1) λG O⟨l,H2,I2,pl,q2⟩=>thn (hu pz O σ H2 _ I2 q2) λB y hz=>?_);let⟨u,J,I3,pu,q3⟩:=hz;rw[Jd3];refine D1 ?_;let I4:Inv X pz σ J {y with heap:=y.heap.push {cls:=.type "slice",data:=.fields #[G,B,.none]} }:=I3.kept (t':=y.toks) λb ob q=>D2 _ q;let⟨T,id,hT,ht,hg⟩:=hr pz {y with heap:=y.heap.push {cls:=.type "slice",data:=.fields #[G,B,.none]} } σ J x v G B l u y.heap.objs.size Q I4 Z (Jd4 ..) pl pu q3
 show Ck (Cn X.prog X.w) X.A (Mq e (.Slice lo hi none p2) v (.ref y.heap.objs.size)) (EP X pz σ Q) X.xe {y with heap:=y.heap.push {cls:=.type "slice",data:=.fields #[G,B,.none]} };exact tail_any (ops:=[.ref y.heap.objs.size,v]) ht hT hg (by with_unfolding_all rfl)
def cutV(xs:List V)(lo hi:Option Int):List V:=(xs.drop (HT.sIx xs.length 0 lo)).take (HT.sIx xs.length xs.length hi-HT.sIx xs.length 0 lo)
theorem U8(xs:List V)(lo hi:Option Int):(cutV xs lo hi).length<=xs.length:=by
 unfold cutV;rw[Jz,Ga];lia
def rSlT(K:Cq):V->Option Int->Option Int->Hp->VK->Prop:=λx lo hi H Q=>∃a xs,x=.ref a/\SqT K H a xs /\
 ¬ (HT.sIx xs.length 0 lo=0/\HT.sIx xs.length xs.length hi=xs.length)/\∀p,H p=none->Q (.ref p) (upd H p (.tup (cutV xs lo hi)))
def Zta:SlR X (rSlT X.K):=by
 intro pz s σ H x v Y O lo hi sl Q I G hs pl J h;let⟨a,xs,rfl,hx,hw,q⟩:=h;cases G;let⟨its,r,B,hz⟩:=I.tuple hx;let y:its.toArray.size=xs.length:=by rw[Jq];exact r.length.symm
 exists "tuple",_,C1.lookup,B.typeIs,?_;refine HT.getItem_tuple_cut B hs pl J (by rw[y];exact hw) ?_ (by rw[y];exact hz);rw[y];exists .ref s.heap.objs.size,_,I.laid (t':=s.toks) (o:=.tup (cutV xs lo hi)) (λb Z q=>D2 _ q) (Ji _) ?_,rfl,q _ (I.hok.fresh (Ji _));exists Jx (U8 xs lo hi) hz,_,(r.drop (HT.sIx xs.length 0 lo)).take (HT.sIx xs.length xs.length hi-HT.sIx xs.length 0 lo),V4.new _ _
def Zqd(K:Cq):R2:=λx y H Q=>∃a b xs ys,x=.ref a/\y=.ref b/\SqT K H a xs/\SqT K H b ys/\xs≠[]/\xs.length+ys.length<=Ca /\
 (ys=[]->Q (.ref a) H)/\(ys≠[]->∀p,H p=none->Q (.ref p) (upd H p (.tup (xs++ys))))
theorem Vals.nil_iff(r:Vals xs us):us=[]↔xs=[]:=by
 cases r with
 |nil=>simp
 |cons _ _=>simp
def Ziq:OpR X (Hk .Add) (Zqd X.K):=by
 intro pz s σ H x y v u Q I Y O h;let⟨a,b,xs,ys,rfl,rfl,ha,hb,hx,hz,q1,Z⟩:=h;cases Y;cases O;let⟨its,G,p1,_⟩:=I.tuple ha;let⟨J,B,p2,_⟩:=I.tuple hb;refine HT.cat_tup p1 p2 (λz=>hx (G.nil_iff.mp z)) (λz=>{.ref a,H,I,rfl,q1 (B.nil_iff.mp z)}) (λz=>?_) (by rw[<-G.length,<-B.length];exact hz);exists .ref s.heap.objs.size,_,I.laid (t':=s.toks) (o:=.tup (xs++ys)) (λb ob q=>D2 _ q) (Ji _) ?_,rfl,Z (λw=>z (B.nil_iff.mpr w)) _ (I.hok.fresh (Ji _));exists by rw[Jc];exact hz,_,G.append B,V4.new _ _
end
def ixN(n:Nat)(i:Int):Option Nat:=if 0<=i then(if i<n then some i.toNat else none)else if -(n:Int)<=i then some (i+n).toNat else none
def atI{α:Type}(xs:List α)(i:Int):Option α:=(ixN xs.length i).bind λj=>xs[j]?
theorem Zjj{n:Nat}{i:Int}(h:ixN n i=some j):seqIndex? i n=some j/\j<n/\-(n:Int)<=i/\i<n:=by
 unfold ixN at h
 by_cases h0:0<=i
 .rw[D7 h0]at h
  by_cases h1:i<n
  .rw[D7 h1]at h;let e:i.toNat=j:=Jaa h;exists by rw[Jfb h0 h1,e],(),(),h1
  .rw[D6 h1]at h;cases h
 .rw[D6 h0]at h
  by_cases h1:-(n:Int)<=i
  .rw[D7 h1]at h;let e:(i+n).toNat=j:=Jaa h;exact{by rw[Jex () h1,e],(),h1,()}
  .rw[D6 h1]at h;cases h
theorem Zdr{α:Type}{xs:List α}{i:Int}{v:α}(h:atI xs i=some v):∃j,seqIndex? i xs.length=some j/\xs[j]?=some v/\j<xs.length/\-(xs.length:Int)<=i/\i<xs.length:=by
 unfold atI at h;cases e:ixN xs.length i with
 |none=>rw[e]at h;cases h
 |some j =>
  rw[e]at h;let⟨h1,h2,h3,h4⟩:=Zjj e;exists j,h1,h,h2,h3,h4
theorem Zdq{α:Type}{xs:List α}{v:α}(h:xs[j]?=some v):atI xs (j:Int)=some v:=by
 let y:j<xs.length:=(Jg.mp h).1;let e:ixN xs.length (j:Int)=some j:=by
  unfold ixN;rw[D7 (),D7 ()];simp
 unfold atI;rw[e];exact h
def Zr1(b:Expr):Prop:=∀o i,Mr b false o i=Jhe [o,i] (Lc o i)
def IxR(X:Cx)(r:R2):Prop :=
 ∀(value slice:Expr)(pz:List (Addr×Obj))(s:Cc)(σ:St)(H:Hp)(x y:V)(v u:Cb)(Q:VK),Inv X pz σ H s->RelV x v->RelV y u->r x y H Q ->
  Mr slice false v u=Jhe [v,u] (Lc v u)->Ck (Cn X.prog X.w) X.A (Mq value slice v u) (EP X pz σ Q) X.xe s
def MtR(X:Cx)(id:String)(r:V->List V->Hp->VK->Prop):Prop :=
 ∀(pz:List (Addr×Obj))(s:Cc)(σ:St)(H:Hp)(x:V)(xs:List V)(v:Cb)(us:List Cb)(Q:VK),Inv X pz σ H s->RelV x v->Vals xs us->r x xs H Q ->
  Ck (Cn X.prog X.w) X.A (call (.builtin id) (v::us)) (EP X pz σ Q) X.xe s
section
variable{a b:Expr} 
def IxR.or{r J:R2}(h:IxR X r)(h':IxR X J):IxR X (λx y H Q=>r x y H Q\/J x y H Q):=by
 intro value slice pz s σ H x y v u Q I G B q hs;rcases q with q|q
 .exact h value slice pz s σ H x y v u Q I G B q hs
 .exact h' value slice pz s σ H x y v u Q I G B q hs
def Z3{r:R2}(O:IxR X r)(Z:PE X a ta)(Y:PE X b tb)(hs:Zr1 b):PE X (.Subscript a b pos) (tOp r ta tb):=by
 intro pz s σ H Q I h;exact Jei (binT Z Y I h λv u B x y H2 I2 J G q=>O a b pz B σ H2 x y v u Q I2 J G q (hs _ _))
def rIxL(K:Cq):R2:=λx y H Q=>∃p xs i v,x=.ref p/\y=.int i/\SqL K H p xs/\atI xs i=some v/\Q v H
def rIxT(K:Cq):R2:=λx y H Q=>∃p xs i v,x=.ref p/\y=.int i/\SqT K H p xs/\atI xs i=some v/\Q v H
def rIxS:R2:=λx y H Q=>∃z i c,x=.str z/\y=.int i/\z.length<=Ca/\atI z.cps.toList i=some c/\Q (.str {#[c]}) H
theorem Xb:IxR X (rIxL X.K):=by
 intro value slice pz s σ H x y v u Q I Y O h hs;let⟨p,xs,i,z,rfl,rfl,Z,he,q⟩:=h;cases Y;let⟨t,rfl⟩:=O;let⟨its,r,pl,hz⟩:=I.list Z;let⟨j,h1,h2,h3,h4,h5⟩:=Zdr he;let⟨w,J,B⟩:=r.get h2;let hl:=r.length;let hn:=Pm;let fin:EP X pz σ Q w s:=⟨z,H,I,B,q⟩
 by_cases h0:0<=i
 .let G:i.toNat=j:=by
   rw[Jfb h0 h5]at h1;exact Jaa h1
  exact item_listR pl.isList h0 () (by rw[G];simpa using J) fin hs
 .let G:(i+(its.toArray.size:Int)).toNat=j:=by
   rw[Jex () h4]at h1;rw[Jq,<-hl];exact Jaa h1
  exact Ja0 (x:=w) pl.isList.typeIs slot_list_getitem.lookup
   (wpAny_getItem_list_neg (Q:=λr s'=>r=w/\EP X pz σ Q r s') pl.isList () (by rw[Jq]<;>lia) () (by rw[G];simpa using J) ⟨rfl,fin⟩) hs
theorem T5:IxR X (rIxT X.K):=by
 intro value slice pz s σ H x y v u Q I J G h hs;let⟨p,xs,i,z,rfl,rfl,O,Y,q⟩:=h;cases J;let⟨t,rfl⟩:=G;let⟨its,r,pl,hz⟩:=I.tuple O;let⟨j,h1,h2,h3,h4,h5⟩:=Zdr Y;let⟨w,Z,B⟩:=r.get h2;let hl:=r.length;let hn:=Pm;let fin:EP X pz σ Q w s:=⟨z,H,I,B,q⟩;exact Ja0 (x:=w) pl.typeIs slot_tuple_getitem.lookup
  (getItem_tuple (j:=j) (Q:=λr s'=>r=w/\EP X pz σ Q r s') pl () () (by rw[Jq,<-hl];exact h1) (by simpa using Z) ⟨rfl,fin⟩) hs
theorem Zuy:IxR X rIxS:=by
 intro value slice pz s σ H x y v u Q I G B h hs;let⟨z,i,c,rfl,rfl,hz,J,q⟩:=h;let⟨t,rfl⟩:=G;let⟨t',rfl⟩:=B;let⟨j,h1,h2,h3,h4,h5⟩:=Zdr J;let hl:z.cps.toList.length=z.length:=by simp[Str.length]
 rw[hl]at h1 h4 h5;let hn:=Pm;exact tail_any (Jgb s z t) slot_str_getitem.lookup (getItem_str (c:=c) (by
  let e1:decide (i < -(2 ^ 63:Int))=false:=D9 ();let e2:decide (i≥2 ^ 63)=false:=D9 ();rw[e1,e2,Bool.or_false]) (by rw[h1];simpa using h2) {.str {#[c]},H,I.tok _,{_,rfl},q}) hs
def rIx(K:Cq):R2:=λx y H Q=>rIxL K x y H Q\/rIxT K x y H Q\/rIxS x y H Q
def Zuz:IxR X (rIx X.K):=Xb.or (T5.or Zuy)
def Zf3(its:List Cb)(n j:Nat)(u:Cb):Cr (·.setIfInBounds j u) {cls:=.type "list",data:=.seq its.toArray n}={cls:=.type "list",data:=.seq (its.set j u).toArray n}:=by
 simp[Cr]
def Inv.lst{pz:List (Addr×Obj)}{σ:St}{H:Hp}{s:Cc}{p:Addr}{xs:List V}(I:Inv X pz σ H s)(h:H p=some (.lst xs)) :
  ∃(its:List Cb)(n:Nat),Vals xs its/\s.heap.get? p=some {cls:=.type "list",data:=.seq its.toArray n}/\xs.length<=Ca:=by
 let⟨z,its,n,r,e⟩:=I.hok p _ h;exists its,n,r,e,z
def Inv.lstUpd{p:Addr}{its':List Cb}{n y:Nat}{f:Obj->Obj}(I:Inv X pz σ H s)(h:H p=some (.lst xs))(G:s.heap.get? p=some {cls:=.type "list",data:=.seq its.toArray n})(B:f {cls:=.type "list",data:=.seq its.toArray n}={cls:=.type "list",data:=.seq its'.toArray y})(r:Vals ys its')(hz:ys.length<=Ca)(t:Nat) :
  Inv X pz σ (upd H p (.lst ys)) {s with heap:=s.heap.update p f,toks:=t}:=by
 let e:(s.heap.update p f).get? p=some {cls:=.type "list",data:=.seq its'.toArray y}:=by
  rw[Jb1 f G (by rw[B]<;>rfl),B]
 refine I.write (x:=p) (e:=p) (by rw[h];trivial) (.inl rfl) (λb u J q=>(Ja1 _ _ (Hd J)).trans q) {_,e} ?_;exists hz,its',y,r,e
def Zt1:V->V->V->Hp->(Hp->Prop)->Prop:=λo i v H Q=>∃p xs k j,o=.ref p/\i=.int k/\H p=some (.lst xs)/\ixN xs.length k=some j/\Q (upd H p (.lst (xs.set j v)))
theorem Tp:PSet X Zt1:=by
 intro pz s σ H o i v ov iv u Q I O Y J h;let⟨p,xs,k,j,rfl,rfl,G,Z,q⟩:=h;cases O;let⟨t,rfl⟩:=Y;let⟨its,n,r,y,hz⟩:=I.lst G;let⟨h1,h2,h3,h4⟩:=Zjj Z;let hl:=r.length;let hn:=Pm;let I':Inv X pz σ (upd H p (.lst (xs.set j v))) {s with heap:=s.heap.update p (Cr (·.setIfInBounds j u))} :=
  I.lstUpd G y (Zf3 its n j u) (r.set J j) (by rw[B1];exact hz) s.toks
 by_cases h0:0<=k
 .let B:k.toNat=j:=by
   rw[Jfb h0 h4]at h1;exact Jaa h1
  exact W.ki_setAt y h0 () (by rw[Jq,<-hl];exact h4) (by rw[B];exact{_,I',q})
 .let B:(k+(its.toArray.size:Int)).toNat=j:=by
   rw[Jex () h3]at h1;rw[Jq,<-hl];exact Jaa h1
  exact W.ki_setBack y () (by rw[Jq,<-hl];exact h3) () (by rw[B];exact{_,I',q})
theorem Za2(lo hi:Option Int)(n:Nat):(K0 lo hi none n).1=((HT.sIx n 0 lo:Nat):Int)/\(K0 lo hi none n).2.1=((HT.sIx n n hi:Nat):Int)/\(K0 lo hi none n).2.2=1:=by
 exists ?_,?_,rfl
 .cases lo with
  |none=>simp[K0,HT.sIx]
  |some i =>
   simp only[K0,HT.sIx,Je0,show(1:Int) > 0 by decide,if_true]
   by_cases h:i<0
   .simp only[h,if_true]<;>lia
   .simp only[h,if_false]<;>lia
 .cases hi with
  |none=>simp[K0,HT.sIx]
  |some i =>
   simp only[K0,HT.sIx,Je0,show(1:Int) > 0 by decide,if_true]
   by_cases h:i<0
   .simp only[h,if_true]<;>lia
   .simp only[h,if_false]<;>lia
def Nf(its:List Cb)(lo hi:Option Int):slicePick its.toArray lo hi none=((its.drop (HT.sIx its.length 0 lo)).take (HT.sIx its.length its.length hi-HT.sIx its.length 0 lo)).toArray:=by
 let⟨h1,h2,h3⟩:=Za2 lo hi its.toArray.size;unfold slicePick;rw[h1,h2,h3];simp only[sliceRange_one,pick_run,Jq]<;>rfl
def rSlL(K:Cq):V->Option Int->Option Int->Hp->VK->Prop:=λx lo hi H Q=>∃a xs,x=.ref a/\SqL K H a xs/\∀p,H p=none->Q (.ref p) (upd H p (.lst (cutV xs lo hi)))
theorem Uv:SlR X (rSlL X.K):=by
 intro pz s σ H x v Y O lo hi sl Q I G hs pl J h;let⟨a,xs,rfl,hx,q⟩:=h;cases G;let⟨its,r,B,hz⟩:=I.list hx;let y:=r.length;refine{"list",_,slot_list_getitem.lookup,B.isList.typeIs,?_};refine Me B.isList hs pl J .none (by simp) ?_ (by rw[Jq]<;>lia);rw[Nf,<-y];refine{.ref s.heap.objs.size,_,I.laid (t':=s.toks) (o:=.lst (cutV xs lo hi)) (λb Z q=>D2 _ q) (Ji _) ?_,rfl,q _ (I.hok.fresh (Ji _))};exact{Jx (U8 xs lo hi) hz,_,0,(r.drop (HT.sIx xs.length 0 lo)).take (HT.sIx xs.length xs.length hi-HT.sIx xs.length 0 lo),D3 _ rfl}
theorem Zb1:Wi X (.type "list") (λxs H Q=>∃p ys,xs=[.ref p]/\(SqL X.K H p ys\/SqT X.K H p ys)/\∀l,H l=none->Q (.ref l) (upd H l (.lst ys))):=by
 intro pz s σ H xs us Q I r h;let⟨p,ys,rfl,G,q⟩:=h;let⟨u,rfl,Z⟩:=Rb r;cases Z;let fin:∀(its:List Cb),Vals ys its->ys.length<=Ca->∀(h':Heap)(B:Nat),(∀b o',s.heap.get? b=some o'->h'.get? b=some o') ->
   h'.get? s.heap.objs.size=some {cls:=.type "list",dict:=none,data:=.seq its.toArray B,slots:=#[]}->EP X pz σ Q (.ref s.heap.objs.size) {s with heap:=h'}:=λits y hz h' B kp e =>
  {.ref s.heap.objs.size,_,I.laid (t':=s.toks) kp (Ji _) (show Y0 X.prog X.w _ h' _ (.lst ys)from⟨hz,its,B,y,e⟩),rfl,q _ (I.hok.fresh (Ji _))}
 rcases G with G|G
 .let⟨its,y,pl,hz⟩:=I.list G;let J:=y.length;let⟨o,O,Y,n,hd⟩:=pl.isList;exact call_list_seq p (.inl rfl) O Y hd (λh' B kp e=>fin its y hz h' B kp e) (by simp only[Jq]<;>lia)
 .let⟨its,y,pl,hz⟩:=I.tuple G;let J:=y.length;let⟨o,O,Y,n,hd⟩:=pl;exact call_list_seq p (.inr rfl) O Y hd (λh' B kp e=>fin its y hz h' B kp e) (by simp only[Jq]<;>lia)
theorem X6:Wi X (.type "tuple") (λxs H Q=>∃p ys,xs=[.ref p]/\((SqL X.K H p ys/\∀l,H l=none->Q (.ref l) (upd H l (.tup ys)))\/(SqT X.K H p ys/\Q (.ref p) H))):=by
 intro pz s σ H xs us Q I r h;let⟨p,ys,rfl,h⟩:=h;let⟨u,rfl,O⟩:=Rb r;cases O;rcases h with⟨B,q⟩|⟨B,q⟩
 .let⟨its,y,pl,hz⟩:=I.list B;let G:=y.length;refine call_tuple_list pl.isList (λh' kp=>?_) (by simp only[Jq]<;>lia);let J:Inv X pz σ H {s with heap:=h'}:=I.kept (t':=s.toks) kp;let Y:Inv X pz σ (upd H h'.objs.size (.tup ys)) {s with heap:=h'.push {cls:=.type "tuple",data:=.seq its.toArray} } :=
   J.laid (t':=s.toks) (λb o e=>D2 _ e) (Ji _) (show Y0 X.prog X.w _ _ _ (.tup ys)from{hz,its,y,V4.new _ _})
  exists .ref h'.objs.size,_,Y,rfl,q _ (J.hok.fresh (Ji _))
 .let⟨its,y,pl,hz⟩:=I.tuple B;exact call_tuple_same pl {.ref p,H,I,rfl,q}
def tyV(K:Cq)(T:String)(x:V)(H:Hp):Prop:=match x with
 |.str _=>T="str"
 |.int _=>T="int"
 |.ref p=>(T="list"/\∃xs,SqL K H p xs)\/(T="tuple"/\∃o,K.lookup p=some o/\o.cls=.type "tuple"/\o.dict=none) \/
   (T="dict"/\((∃kvs,H p=some (.dK kvs))\/∃kvs,H p=some (.dT kvs)))\/(T="set"/\∃S n,H p=some (.set S n))
 |_=>False
theorem Znd{T:String}{x:V}{v:Cb}(I:Inv X pz σ H s)(r:RelV x v)(ty:tyV X.K T x H) :
  s.TypeIs v T/\∀a,v=.ref a->∃y,s.heap.get? a=some y/\y.dict=none:=by
 cases x with
 |str z =>
  let⟨t,rfl⟩:=r;cases(show T="str" from ty);exists Jgb s z t,λ_ e=>nomatch e
 |int i =>
  let⟨t,rfl⟩:=r;cases(show T="int" from ty);exists Jgc s i t,λ_ e=>nomatch e
 |ref p =>
  cases r;rcases ty with⟨rfl,xs,B⟩|⟨rfl,o,h,G,hd⟩|⟨rfl,h⟩|⟨rfl,S,n,h⟩
  .let⟨its,_,pl,_⟩:=I.list B;exists pl.isList.typeIs,λa e=>?_;cases e;let⟨o,n,e,c,hd,_⟩:=pl;exists o,e,hd
  .exists{o,I.kIn p o h,G},λa e=>?_;cases e;exists o,I.kIn _ o h,hd
  .let z:∃o,s.heap.get? p=some o/\o.ExactDict:=by
    rcases h with⟨kvs,h⟩|⟨kvs,h⟩
    .let⟨_,_,_,_,o,_,_,e,ex,_⟩:=I.hok p _ h;exists o,e,ex
    .let⟨_,_,_,_,o,_,_,e,ex,_⟩:=I.hok p _ h;exists o,e,ex
   let⟨o,e,ex⟩:=z;exists{o,e,ex.1},λa e2=>?_;cases e2;exists o,e,ex.2.1
  .let⟨o,_,_,_,e,ex,_⟩:=I.hok p _ h;exists{o,e,ex.1},λa e2=>?_;cases e2;exists o,e,ex.2.1
 |_=>exact C3 ty
def tBM0(K:Cq)(T:String)(r:V->List V->Hp->VK->Prop)(to:TE):TE:=λσ H Q=>to σ H λx H1=>tyV K T x H1/\r x [] H1 Q
def tBM(K:Cq)(T:String)(r:V->List V->Hp->VK->Prop)(to:TE)(t:TA):TE:=λσ H Q=>to σ H λx H1=>tyV K T x H1/\t σ H1 λxs h=>r x xs h Q
variable{o e:Expr}{t:TA}{name:Str}{cpos:Pos}{T id:String}{r:V->List V->Hp->VK->Prop}
def Zuc(Y:PlainAttrs T)(slot:Slot T name id)(y:typeOf (.builtin id)=pure (.type "method_descriptor"))(hm:MtR X id r)(Z:PE X o to)(hbase:Kr o name X.env (eval o X.env)=eval o X.env:=by rfl)(hline:(apos.endLine==cpos.line)=true:=by rfl):PE X (.Call (.Attribute o name apos) [] [] cpos) (tBM0 X.K T r to):=by
 intro pz s σ H Q I h;refine wpAny_Call_method0_late hbase hline (thn (Z pz s σ H _ I h) λv J hz=>?_);let⟨x,H1,G,B,ty,O⟩:=hz;let⟨h1,h2⟩:=Znd G B ty;exists T,id,Y,slot,y,h1,h2,E6 rfl (PySem.evalArgs_none (hm pz J σ H1 x [] v [] Q G B .nil O))
def Zfx(pa:PlainAttrs T)(slot:Slot T name id)(B:typeOf (.builtin id)=pure (.type "method_descriptor"))(hm:MtR X id r)(ho:PE X o to)(ha:PA X (e::es) t)(hbase:Kr o name X.env (eval o X.env)=eval o X.env:=by rfl)(y:((Kl cpos (Cs (e::es) X.env)).all (λx=>!x.1)&&(L6 cpos (Hv [] X.env)).all (λx=>x.1.isSome)
   && decide ((e::es).length+([]:List Jdq).length+(if([]:List Jdq).isEmpty then 0 else 1)<30))=true:=by rfl)(hline:(apos.endLine==cpos.line)=true:=by rfl)(hs:Cs (e::es) X.env=(false,eval e X.env)::Cs es X.env:=by rfl)(hplain:(Kl cpos (Cs es X.env)).any (·.1)=false:=by rfl) :
  PE X (.Call (.Attribute o name apos) (e::es) [] cpos) (tBM X.K T r to t):=by
 intro pz s σ H Q I h;refine wpAny_Call_method_late hbase y hline rfl (thn (ho pz s σ H _ I h) λv Z hz=>?_);let⟨x,H1,O,G,ty,q1⟩:=hz;let⟨h1,h2⟩:=Znd O G ty;refine{T,id,pa,slot,B,h1,h2,?_};let J:=ha cpos pz Z σ H1 _ O q1;rw[hs]at J⊢;refine E6 (by show(false ||(Kl cpos (Cs es X.env)).any (·.1))=false;rw[hplain]<;>rfl) (Kc ?_);exact thn J λus Y⟨vs,H2,I2,r2,q2⟩=>hm pz Y σ H2 x vs v us Q I2 G r2 q2
end
def MtM(X:Cx)(id:String)(r:V->List V->Hp->VK->Prop):Prop :=
 ∀(pz:List (Addr×Obj))(s:Cc)(σ:St)(H:Hp)(x:V)(xs:List V)(v:Cb)(us:List Cb)(Q:VK),Inv X pz σ H s->RelV x v->Vals xs us->r x xs H Q ->
  Ck (Cn X.prog X.w) X.A (call (.builtin id) (v::us)) (EP X pz σ Q) X.xe s
theorem Vals.one:∀{x:V}{us:List Cb},Vals [x] us->∃u,us=[u]/\RelV x u
 |_,_,.cons r .nil=>{_,rfl,r}
theorem Vals.zero:∀{us:List Cb},Vals [] us->us=[]:=by
 intro _ h;cases h with
 |nil=>
  exact rfl
theorem Vals.dropLast(h:Vals xs us):Vals xs.dropLast us.dropLast:=by
 induction h with
 |nil=>exact .nil
 |cons r t y =>
  cases t with
  |nil=>exact .nil
  |cons q t'=>exact .cons r y
theorem Vals.rep(h:Vals xs us):∀k:Nat,Vals (Cp k xs).flatten (Cp k us).flatten
 |0=>.nil
 |k+1=>by
  rw[Bj,Bj,Bn,Bn];exact Vals.append h (Vals.rep h k)
theorem Zgd{α:Type}(l:List α):l.eraseIdx (l.length-1)=l.dropLast:=by
 induction l with
 |nil=>rfl
 |cons a r h =>
  cases r with
  |nil=>rfl
  |cons b r =>
   let e:(a::b::r).length-1=((b::r).length-1)+1:=by
    let h1:(a::b::r).length=r.length+2:=rfl;let h2:(b::r).length=r.length+1:=rfl;lia
   rw[e,List.eraseIdx_cons_succ,h]
   all_goals rfl
theorem Zbr(its:List Cb):∀(k:Nat)(acc:List Cb),
  Jgd (λy h=>y++h) acc.toArray (Cp k its.toArray)=(acc++(Cp k its).flatten).toArray
 |0,acc=>by simp
 |k+1,acc=>by
  let e:acc.toArray++its.toArray=(acc++its).toArray:=by simp
  let e2:(acc++its)++(Cp k its).flatten=acc++(Cp (k+1) its).flatten:=by
   rw[Bj,Bn,Jn]
  rw[<-e2,<-Zbr its k (acc++its),<-e,Bj,List.foldl_cons]
section
def Inv.lset{its':List Cb}{n:Nat}{f:Array Cb->Array Cb}(I:Inv X pz σ H s)(J:H l=some (.lst xs))(e:s.heap.get? l=some {cls:=.type "list",data:=.seq its.toArray n})(B:f its.toArray=its'.toArray)(h:Vals ys its')(hz:ys.length<=Ca) :
  Inv X pz σ (upd H l (.lst ys)) {s with heap:=s.heap.update l (Cr f),toks:=t'}:=by
 let q:=PySem.IsL.update e f;rw[B]at q;refine I.write (x:=l) (e:=l) (by rw[J];exact trivial) (.inl rfl) (λO u G y=>(Ja1 s.heap (Cr f) (Hd G)).trans y) {_,q} ?_;exists hz,its',_,h,q
def Inv.lnew(I:Inv X pz σ H s)(h:Vals ys its)(hz:ys.length<=Ca) :
  Inv X pz σ (upd H s.heap.objs.size (.lst ys)) {s with heap:=s.heap.push {cls:=.type "list",data:=.seq its.toArray},toks:=t'} :=
 I.laid (λ_ _ q=>D2 _ q) (Ji _) ⟨hz,its,0,h,D3 _ rfl⟩
def Inv.fresh(I:Inv X pz σ H s):H s.heap.objs.size=none:=I.hok.fresh (Ji _)
def Inv.lstM(I:Inv X pz σ H s)(h:H l=some (.lst xs)):xs.length<=Ca/\∃(its:List Cb)(n:Nat),Vals xs its/\xs.length=its.length/\s.heap.get? l=some {cls:=.type "list",data:=.seq its.toArray n}:=by
 let⟨z,its,n,r,e⟩:=I.hok l _ h;exists z,its,n,r,r.length,e
theorem Nz{n:Nat}(h:n<=Ca):Eg n=false:=by
 unfold Eg;exact D9 ()
end
section
def Zcs:V->List V->Hp->VK->Prop:=λx vs H Q=>∃l xs y,x=.ref l/\vs=[y]/\H l=some (.lst xs)/\xs.length<Ca/\Q .non (upd H l (.lst (xs++[y])))
theorem Tz:MtM X "list.append" Zcs:=by
 intro pz s σ H x vs v us Q I G J h;let⟨l,xs,y,rfl,rfl,B,hz,q⟩:=h;cases G;let⟨u,rfl,O⟩:=J.one;let⟨z,its,n,r,hl,e⟩:=I.lstM B;refine Kp F.slot_list_append {_,e,rfl} F.entry_list_append (F.args_list_append_2 _ _) (PySem.list_append l its.toArray n u (by rw[Jq];lia)) {e,?_};exists .non,_,I.lset (its':=its++[u]) B e (by simp) (r.append (.cons O .nil)) ?_,rfl,q;rw[Jc,G4];lia
def Zic:V->List V->Hp->VK->Prop:=λx vs H Q=>∃l b xs zs,x=.ref l/\vs=[.ref b]/\H l=some (.lst xs)/\H b=some (.lst zs)/\xs.length+zs.length<=Ca/\Q .non (upd H l (.lst (xs++zs)))
theorem Zi3:MtM X "list.extend" Zic:=by
 intro pz s σ H x vs v us Q I G J h;let⟨l,b,xs,zs,rfl,rfl,B,hB,hz,q⟩:=h;cases G;let⟨u,rfl,O⟩:=J.one;cases O;let⟨z,its,n,r,hl,e⟩:=I.lstM B;let⟨z2,y,Z,Y,a0,e2⟩:=I.lstM hB;let hsz:its.toArray.size+y.toArray.size<=Ca:=by rw[Jq,Jq];lia
 let hlong:¬ (!its.toArray.isEmpty&&Eg (its.toArray.size+y.toArray.size))=true:=by
  rw[Nz hsz,Jfv];exact Gd
 refine Kp Hw {_,e,rfl} Jds (Jc4 _ _)
  (AutoSeq1.list_extend_list_list_0 l its.toArray n b y.toArray Z hlong (by rw[Jq];lia) ()) {e,e2,?_}
 exists .non,_,I.lset (its':=its++y) B e (by simp) (r.append Y) ?_,rfl,q;rw[Jc];lia
def rPop:V->List V->Hp->VK->Prop:=λx vs H Q=>∃l xs y,x=.ref l/\vs=[]/\H l=some (.lst xs)/\xs[xs.length-1]?=some y/\Q y (upd H l (.lst xs.dropLast))
theorem Zuk:MtM X "list.pop" rPop:=by
 intro pz s σ H x vs v us Q I O Y h;let⟨l,xs,y,rfl,rfl,J,hy,q⟩:=h;cases O;let G:=Y.zero;subst G;let⟨z,its,n,r,hl,e⟩:=I.lstM J;let⟨u,hu,Z⟩:=r.get hy;let B:its.toArray[its.toArray.size-1]?=some u:=by
  show its.toArray[its.length-1]?=some u;rw[<-Jt,<-hl];exact hu
 refine Kp F.slot_list_pop {_,e,rfl} F.entry_list_pop (F.args_list_pop_1 _) (MeetsSeq.list_pop_last l its.toArray n u B (by rw[Jq];lia)) {e,?_};exists y,_,I.lset (its':=its.dropLast) J e ?_ r.dropLast ?_,Z,q
 .show its.toArray.eraseIdxIfInBounds (its.toArray.size-1)=its.dropLast.toArray;rw[Jq,List.eraseIdxIfInBounds_toArray,Zgd]
 .rw[List.length_dropLast];lia
def rCat:R2:=λx y H Q=>∃l b xs zs,x=.ref l/\y=.ref b/\H l=some (.lst xs)/\H b=some (.lst zs)/\xs.length+zs.length<=Ca/\∀p,H p=none->Q (.ref p) (upd H p (.lst (xs++zs)))
theorem Zir:OpR X (Hk .Add) rCat:=by
 intro pz s σ H x y v u Q I J G h;let⟨l,b,xs,zs,rfl,rfl,Z,hB,hz,q⟩:=h;cases J;cases G;let⟨z,its,n,r,hl,e⟩:=I.lstM Z;let⟨z2,B,n2,O,Y,e2⟩:=I.lstM hB;refine PySem.P.add_list e e2 ?_ (by rw[Jq,Jq];lia);let ea:its.toArray++B.toArray=(its++B).toArray:=by simp
 rw[ea];exists .ref _,_,I.lnew (t':=s.toks) (r.append O) (by rw[Jc];lia),rfl,q _ I.fresh
def rRep:R2:=λx y H Q=>∃l k xs,x=.ref l/\y=.int k/\H l=some (.lst xs)/\-(2 ^ 63)<=k/\k<2 ^ 63/\xs.length*k.toNat<=Ca /\
 ∀p,H p=none->Q (.ref p) (upd H p (.lst (Cp k.toNat xs).flatten))
theorem Zq1{α:Type}(xs:List α)(k:Nat):(Cp k xs).flatten.length=k*xs.length:=by
 induction k with
 |zero=>simp
 |succ k h=>rw[Bj,Bn,Jc,h,Du,L7]
theorem Zue:OpR X (Hk .Mult) rRep:=by
 intro pz s σ H x y v u Q I rx ry h;let⟨l,k,xs,rfl,rfl,hH,h1,h2,hz,q⟩:=h;cases rx;let⟨t,rfl⟩:=ry;let⟨z,its,n,r,hl,e⟩:=I.lstM hH;let G:its.toArray.size*k.toNat<=Ca:=by rw[Jq,<-hl];exact hz
 let O:¬ its.toArray.size*k.toNat > (2 ^ 63-1) / 8:=by
  let:(Ca:Nat)<=(2 ^ 63-1) / 8:=by decide
  lia
 let J:¬ (!Builtin.List.listFitsIndex k)=true:=by
  rw[fitsIndex_both h1 h2];exact Gd
 let hlong:¬ Eg (its.toArray.size*k.toNat)=true:=by
  rw[Nz G];exact Gd
 let B:Jgd (λZ Y=>Z++Y) #[] (Cp (if its.toArray.isEmpty=true then 0 else k.toNat) its.toArray)=(Cp k.toNat its).flatten.toArray:=by
  let f0:∀m:Nat,Jgd (λZ Y=>Z++Y) #[] (Cp m its.toArray)=(Cp m its).flatten.toArray:=λm=>by
   let:=Zbr its m [];rw[List.nil_append]at this;exact this
  rw[f0];cases its with
  |nil=>simp
  |cons a r'=>rw[D6 (by simp)]
 refine wpAny_binaryOp_repeat_ref (T:="list") (U:="int") nofun {_,e,rfl} (λs'=>Jgc s' k t) noFill_list_mul F.fills_int_mul Jfc repeat_list F.slot_int_index.lookup
  (Kp Jfc (Jgc s k t) F.entry_int_rmul (F.args_int_rmul_2 _ _) (int___rmul___int_list k t l its.toArray n)
   {e,rfl,{_,e,rfl},Kp F.slot_list_mul {_,e,rfl} F.entry_list_mul (F.args_list_mul_2 _ _) (AutoListH.list___mul___list_int_3 l its.toArray n k t J O hlong) {e,?_}})
 rw[B];exists .ref _,_,I.lnew (t':=s.toks) (r.rep k.toNat) (by rw[Zq1,Jg1];exact hz),rfl,q _ I.fresh
end
section
variable[DecidableEq κ]
def valV(kvs:List (κ×V))(k:κ):Option V:=(kvs.find? λh=>decide (h.1=k)).map (·.2)
def putK(kvs:List (κ×V))(k:κ)(v:V):List (κ×V) :=
 if(kvs.any λh=>decide (h.1=k))=true then kvs.map (λh=>if h.1=k then(h.1,v)else h)else kvs++[(k,v)]
def Zk4{k:κ}:valV ([]:List (κ×V)) k=none:=rfl
def Xh{p:κ×V}{r:List (κ×V)}{k:κ}(e:p.1=k):valV (p::r) k=some p.2:=by simp[valV,Gz,e]
def Xi{p:κ×V}{r:List (κ×V)}{k:κ}(e:¬ p.1=k):valV (p::r) k=valV r k:=by simp[valV,Gz,e]
theorem Rf(k:κ):∀kvs:List (κ×V),(kvs.any λh=>decide (h.1=k))=(valV kvs k).isSome
 |[]=>rfl
 |p::r=>by
  rw[B3]
  by_cases e:p.1=k
  .simp only[Xh e,D8 e,Bool.true_or,Option.isSome_some]
  .rw[Xi e,D9 e,Jd5];exact Rf k r
theorem Zd3(k j:κ)(y:V):∀kvs:List (κ×V),valV (kvs.map λB=>if B.1=k then(B.1,y)else B) j=(valV kvs j).map λx=>if j=k then y else x
 |[]=>rfl
 |p::r=>by
  let G:=Zd3 k j y r;rw[Jl]
  by_cases h:p.1=k
  .rw[D7 h]
   by_cases e:p.1=j
   .rw[Xh (p:=(p.1,y)) e,Xh e,B9,D7 (e.symm.trans h)]
   .rw[Xi (p:=(p.1,y)) e,Xi e,G]
  .rw[D6 h]
   by_cases e:p.1=j
   .rw[Xh (p:=p) e,Xh e,B9,D6 (λz=>h (e.trans z))]
   .rw[Xi (p:=p) e,Xi e,G]
theorem Zaw(k j:κ)(y:V):∀kvs:List (κ×V),valV kvs k=none->valV (kvs++[(k,y)]) j=if j=k then some y else valV kvs j
 |[],_=>by
  by_cases e:k=j
  .rw[D7 e.symm];exact Xh (p:=(k,y)) e
  .rw[D6 (λz=>e z.symm)];exact Xi (p:=(k,y)) e
 |p::r,hn=>by
  rw[Je1];let h:¬ p.1=k:=λz=>by rw[Xh z]at hn;cases hn
  rw[Xi h]at hn;let B:=Zaw k j y r hn
  by_cases e:p.1=j
  .rw[Xh e,Xh e,D6 (λz=>h (e.trans z))]
  .rw[Xi e,Xi e,B]
def P3(kvs:List (κ×V))(k j:κ)(y:V):valV (putK kvs k y) j=if j=k then some y else valV kvs j:=by
 unfold putK
 by_cases a:(kvs.any λh=>decide (h.1=k))=true
 .rw[D7 a,Zd3];rw[Rf]at a
  by_cases e:j=k
  .let⟨x,hx⟩:=Fz.mp a;rw[D7 e,e,hx,B9,D7 rfl]
  .rw[D6 e];cases valV kvs j with
   |none=>rfl
   |some x=>rw[B9,D6 e]
 .rw[D6 a];refine Zaw k j y kvs ?_;rw[Rf]at a;cases q:valV kvs k with
  |none=>rfl
  |some x=>rw[q]at a;exact(a rfl).elim
theorem Y3(kvs:List (κ×V))(k:κ)(v:V):(putK kvs k v).length<=kvs.length+1:=by
 unfold putK
 split
 .rw[Ja];lia
 .rw[Jc,Jy,Bf];lia
theorem RelO.isSome_eq{o:Option V}{u:Option Cb}(r:RelO o u):o.isSome=u.isSome:=by
 cases o with
 |none=>cases u with
  |none=>rfl
  |some _=>exact(show False from r).elim
 |some _=>cases u with
  |none=>exact(show False from r).elim
  |some _=>rfl
theorem RelO.getD{o:Option V}{u:Option Cb}{d:V}{d':Cb}(r:RelO o u)(rd:RelV d d'):RelV (o.getD d) (u.getD d'):=by
 cases o with
 |none=>cases u with
  |none=>exact rd
  |some _=>exact(show False from r).elim
 |some _=>cases u with
  |none=>exact(show False from r).elim
  |some _=>exact r
theorem KV.val{kvs:List (κ×V)}{vs:List (κ×Cb)}(r:KV kvs vs)(k:κ):RelO (valV kvs k) (Jej vs k):=by
 unfold KV at r
 induction r with
 |nil=>exact El
 | @cons p q ps qs h t ih =>
  let⟨h1,h2⟩:=h
  by_cases e:p.1=k
  .let y:q.1=k:=h1.symm.trans e;let b:Jej (q::qs) k=some q.2:=by simp[Jej,Gz,y]
   rw[Xh e,b];exact h2
  .let y:¬ q.1=k:=λz=>e (h1.trans z);let b:Jej (q::qs) k=Jej qs k:=by simp[Jej,Gz,y]
   rw[Xi e,b];exact ih
theorem KV.any{kvs:List (κ×V)}{vs:List (κ×Cb)}(r:KV kvs vs)(k:κ):(kvs.any λy=>decide (y.1=k))=vs.any λy=>decide (y.1=k):=by
 unfold KV at r
 induction r with
 |nil=>rfl
 |cons h t B=>rw[B3,B3,B,h.1]
theorem KV.repl{kvs:List (κ×V)}{vs:List (κ×Cb)}(r:KV kvs vs)(k:κ){u:Cb}(G:RelV y u) :
  KV (kvs.map λB=>if B.1=k then(B.1,y)else B) (vs.map λB=>if B.1=k then(B.1,u)else B):=by
 unfold KV at r⊢
 induction r with
 |nil=>exact .nil
 | @cons p q ps qs h t ih =>
  rw[Jl,Jl];refine .cons ?_ ih;let⟨h1,h2⟩:=h
  by_cases e:p.1=k
  .rw[D7 e,D7 (h1.symm.trans e)];exists h1,G
  .rw[D6 e,D6 (λz=>e (h1.trans z))];exists h1,h2
def KV.put{kvs:List (κ×V)}{vs:List (κ×Cb)}(r:KV kvs vs)(k:κ){u:Cb}(h:RelV y u):KV (putK kvs k y) (stored vs k u):=by
 unfold putK stored;rw[r.any k]
 by_cases e:(vs.any λB=>decide (B.1=k))=true
 .rw[D7 e,D7 e];exact r.repl k h
 .rw[D6 e,D6 e];exact Paired.snoc r ⟨rfl,h⟩
def KV.length{kvs:List (κ×V)}{vs:List (κ×Cb)}(r:KV kvs vs):kvs.length=vs.length:=Paired.length r
end
theorem Zc5{k:Key}{u:Cb}(r:RelV (kV k) u):(Z9 P w).is k u=true:=by
 cases k with
 |inl i=>obtain⟨t,e⟩:=(show ∃t,u=Li i t from r);subst e;exact Zc0 P w i t
 |inr x=>obtain⟨t,e⟩:=(show ∃t,u=Ja3 x t from r);subst e;exact Zcz P w x t
theorem Ql :∀{ks:List Key}{us:List Cb},Vals (ks.map kV) us->ItemsAre (Z9 P w) ks us
 |[],_,r=>by rw[F6]at r;cases r;exact .nil
 |k::ks,_,r=>by
  rw[Jl]at r;cases r with
  |cons h t=>exact .cons (Zc5 h) (Ql t)
abbrev KT(H:Hp):List (List Key×V)->List (List Key×Addr×Cb)->Prop:=Paired λp q=>p.1=q.1/\H q.2.1=some (.tup (p.1.map kV))/\RelV p.2 q.2.2
theorem KT.val{xs:List (List Key×Addr×Cb)}(r:KT H kvs xs)(k:List Key):RelO (valV kvs k) ((Jd6 xs k).map (·.2)):=by
 induction r with
 |nil=>exact El
 | @cons p q ps qs h t ih =>
  let⟨h1,_,h2⟩:=h
  by_cases e:p.1=k
  .let y:q.1=k:=h1.symm.trans e;let b:Jd6 (q::qs) k=some q.2:=by simp[Jd6,Gz,y]
   rw[Xh e,b];exact h2
  .let y:¬ q.1=k:=λz=>e (h1.trans z);let b:Jd6 (q::qs) k=Jd6 qs k:=by simp[Jd6,Gz,y]
   rw[Xi e,b];exact ih
theorem KT.repl{xs:List (List Key×Addr×Cb)}(r:KT H kvs xs)(k:List Key){u:Cb}(G:RelV y u) :
  KT H (kvs.map λB=>if B.1=k then(B.1,y)else B) (xs.map (putAt k u)):=by
 induction r with
 |nil=>exact .nil
 | @cons p q ps qs h t ih =>
  rw[Jl,Jl];refine .cons ?_ ih;let⟨h1,h2,h3⟩:=h;unfold putAt
  by_cases e:p.1=k
  .rw[D7 e,D7 (h1.symm.trans e)];exists h1,h2,G
  .rw[D6 e,D6 (λz=>e (h1.trans z))];exists h1,h2,h3
def KT.put{xs:List (List Key×Addr×Cb)}(r:KT H kvs xs)(k:List Key){b:Addr}{u:Cb}(G:H b=some (.tup (k.map kV)))(h:RelV y u) :
  KT H (putK kvs k y) (storedH xs k b u):=by
 let e:(kvs.any λB=>decide (B.1=k))=(Jd6 xs k).isSome:=by
  rw[Rf,(r.val k).isSome_eq,Mf]
 unfold putK storedH;rw[e]
 by_cases q:(Jd6 xs k).isSome=true
 .rw[D7 q,D7 q];exact r.repl k h
 .rw[D6 q,D6 q];exact Paired.snoc r ⟨rfl,G,h⟩
def KT.keeps{xs:List (List Key×Addr×Cb)}(r:KT H kvs xs)(h:∀b ys,H b=some (.tup ys)->H' b=some (.tup ys)):KT H' kvs xs :=
 Paired.mapP r λ_ _ z=>{z.1,h _ _ z.2.1,z.2.2}
section
variable{a:Addr}
def Zqa{u:HO}(ok:HOk P w H h)(e:Rd H a u):Y0 P w H h a u:=e.ok ok
def Zdf{kvs:List (Key×V)}(ok:HOk P w H h)(e:Rd H a (.dK kvs)):kvs.length<=Ca/\(a==Es)=false/\∃vs,KV kvs vs/\h.DictOf (Z9 P w) a vs :=
 show Y0 P w H h a (.dK kvs)from Zqa ok e
def Zrl{kvs:List (Key×V)}(ok:HOk P w H h)(e:H a=some (.dK kvs)):kvs.length<=Ca/\(a==Es)=false/\∃vs,KV kvs vs/\h.DictOf (Z9 P w) a vs:=Zdf ok (.inl e)
def Qi{ks:List Key}(ok:HOk P w H h)(e:H a=some (.tup (ks.map kV))):(Lj (Z9 P w)).is h ks a:=by
 let⟨_,its,r,o,h1,h2,n,h3,_⟩:=(show Y0 P w H h a (.tup (ks.map kV))from ok a _ e);exact{o,its.toArray,n,h1,h2,h3,by simpa using Ql r}
def Zdd(ok:HOk P w H h)(e:Rd H a (.dT kvs)):kvs.length<=Ca/\(a==Es)=false /\
  ∃xs,KT H kvs xs/\h.DictOfH (Lj (Z9 P w)) a xs:=by
 let⟨z,y,xs,r,o,es,ep,h1,h2,h3,h4,h5⟩:=(show Y0 P w H h a (.dT kvs)from Zqa ok e);refine{z,y,xs,r,o,es,ep,h1,h2,h3,h4,λx hx=>?_,h5};let all:∀{l:List (List Key×V)}{m:List (List Key×Addr×Cb)},KT H l m->∀x∈m,(Lj (Z9 P w)).is h x.1 x.2.1:=by
  intro l m q
  induction q with
  |nil=>intro x hx;exact nomatch hx
  | @cons p q ps qs hq t ih =>
   intro x hx;rcases J9.mp hx with e|hx
   .subst e;exact Qi ok (by rw[<-hq.1];exact hq.2.1)
   .exact ih x hx
 exact all r x hx
def Zvb(ok:HOk P w H h)(e:H a=some (.dT kvs)):kvs.length<=Ca/\(a==Es)=false /\
  ∃xs,KT H kvs xs/\h.DictOfH (Lj (Z9 P w)) a xs:=Zdd ok (.inl e)
end
def DGet(H:Hp)(a:Addr)(y:V)(r:Option V):Prop :=
 (∃kvs k,Rd H a (.dK kvs)/\y=kV k/\r=valV kvs k)\/∃kvs k b,Rd H a (.dT kvs)/\y=.ref b/\H b=some (.tup (k.map kV))/\r=valV kvs k
def DPut(H:Hp)(a:Addr)(y v:V)(H':Hp):Prop :=
 (∃kvs k,H a=some (.dK kvs)/\y=kV k/\kvs.length<Ca/\H'=upd H a (.dK (putK kvs k v))) \/
 ∃kvs k b,H a=some (.dT kvs)/\y=.ref b/\H b=some (.tup (k.map kV))/\kvs.length<Ca/\H'=upd H a (.dT (putK kvs k v))
theorem DGet.k{a:Addr}{kvs:List (Key×V)}{k:Key}(e:H a=some (.dK kvs)):DGet H a (kV k) (valV kvs k):=.inl {kvs,k,.inl e,rfl,rfl}
def DGet.t{a b:Addr}{k:List Key}(e:H a=some (.dT kvs))(h:H b=some (.tup (k.map kV))):DGet H a (.ref b) (valV kvs k):=.inr {kvs,k,b,.inl e,rfl,h,rfl}
theorem DPut.k{a:Addr}{kvs:List (Key×V)}{k:Key}{v:V}(e:H a=some (.dK kvs))(hl:kvs.length<Ca):DPut H a (kV k) v (upd H a (.dK (putK kvs k v))):=.inl ⟨kvs,k,e,rfl,hl,rfl⟩
def DPut.t{a b:Addr}{k:List Key}{v:V}(e:H a=some (.dT kvs))(h:H b=some (.tup (k.map kV)))(hl:kvs.length<Ca) :
  DPut H a (.ref b) v (upd H a (.dT (putK kvs k v))):=.inr ⟨kvs,k,b,e,rfl,h,hl,rfl⟩
section
variable{a:Addr}{v:V}{u r:Cb}{o:Option V} 
def Inv.big(I:Inv X pz σ H s):Es<s.heap.objs.size:=by
 let h:Cw<s.heap.objs.size:=(I.mod.glob.keeps I.bk).lt;exact Nat.lt_trans nofun h
def Zj9{Q:Cb->Cc->Prop}(hu:A.units+1<Er)(I:Inv X pz σ H s)(g:DGet H a y (some v))(ry:RelV y u)(h:∀J s',Inv X pz σ H s'->RelV v J->Q J s') :
  Ck (Cn X.prog X.w) A (Lc (.ref a) u) Q E s:=by
 rcases g with⟨kvs,k,e,Y,l⟩|⟨kvs,k,b,e,Y,eb,l⟩
 .subst Y;let⟨z,hd,vs,G,Z⟩:=Zdf I.hok e;let⟨J,hw,B⟩:=RelO.some_of (v:=v) (o:=Jej vs k) (by rw[l];exact G.val k);exact wpAny_getItem_of (Zc5 ry) Z.mapOf hw (h J _ (I.tok _) B)
 .subst Y;cases(show u=Cd b from ry);let⟨z,hd,xs,G,Z⟩:=Zdd I.hok e;let⟨J,hw,B⟩:=RelO.some_of (v:=v) (o:=(Jd6 xs k).map (·.2)) (by rw[l];exact G.val k);let⟨p,hp,O⟩:=G5.mp hw;refine wpAny_getItem_heap (Hr hu) (Qi I.hok eb) Z hp ?_;rw[O];exact h J _ (I.tok _) B
def d_in{Q:Cb->Cc->Prop}(Y:A.units+1<Er)(I:Inv X pz σ H s)(g:DGet H a y o)(O:RelV y u)(h:∀s',Inv X pz σ H s'->Q (.bool o.isSome) s') :
  Ck (Cn X.prog X.w) A (Ep .In u (.ref a)) Q E s:=by
 rcases g with⟨kvs,k,e,G,l⟩|⟨kvs,k,b,e,G,Z,l⟩
 .subst G;let⟨z,hd,vs,B,J⟩:=Zdf I.hok e;refine wpAny_in_of (Zc5 O) hd J.mapOf ?_;rw[<-(B.val k).isSome_eq,<-l];exact h _ (I.tok _)
 .subst G;cases(show u=Cd b from O);let⟨z,hd,xs,B,J⟩:=Zdd I.hok e;refine wpAny_in_heap (Hr Y) (Qi I.hok Z) hd J ?_;let q:=(B.val k).isSome_eq;rw[Mf]at q;rw[<-q,<-l];exact h _ (I.tok _)
def Sr{h:HO}(I:Inv X pz σ H s)(mu:Mut (H a))(hs:Hu a s.heap h')(y:∃q,h'.get? a=some q)(new:Y0 X.prog X.w (upd H a h) h' a h) :
  Inv X pz σ (upd H a h) {s with heap:=h',toks:=t'} :=
 I.write (x:=a) (e:=a) mu (.inl rfl) (λb q B z=>(hs.2 b B).trans z) y new
def Zok{kvs:List (Key×V)}{vs:List (Key×Cb)}(z:kvs.length<=Ca)(hd:(a==Es)=false)(h:KV kvs vs)(y:h'.DictOf (Z9 P w) a vs) :
  Y0 P w H' h' a (.dK kvs):=⟨z,hd,vs,h,y⟩
theorem Zj8{Q:Unit->Cc->Prop}(hu:A.units+1<Er)(I:Inv X pz σ H s)(g:DPut H a y v H')(ry:RelV y u)(rv:RelV v r)(h:∀s',Inv X pz σ H' s'->Q ⟨⟩ s') :
  Ck (Cn X.prog X.w) A (Jgl (.ref a) u r) Q E s:=by
 rcases g with⟨kvs,k,e,O,l,Y⟩|⟨kvs,k,b,e,O,eb,l,Y⟩
 .subst O Y;let⟨z,hd,vs,B,Z⟩:=Zrl I.hok e;let hz:vs.length<=Ca:=by rw[<-B.length];exact z
  let hl:(putK kvs k v).length<=Ca:=by have:=Y3 kvs k v;lia
  refine wpAny_setItem_pairs (hsz:=hz) (Zc5 ry) Z λh' G hs=>h _ ?_;let he:∃q,h'.get? a=some q:=let⟨q,_,_,J,_⟩:=G;⟨q,J⟩
  exact Sr I (by rw[e];exact El) hs he (Zok hl hd (B.put k rv) G)
 .subst O Y;cases(show u=Cd b from ry);let⟨z,hd,xs,B,Z⟩:=Zvb I.hok e;let hz:xs.length<=Ca:=by rw[<-Paired.length B];exact z
  let hl:(putK kvs k v).length<=Ca:=by have:=Y3 kvs k v;lia
  refine wpAny_setItem_heap (hsz:=hz) (Hr hu) (Qi I.hok eb) Z λh' G hs=>h _ ?_;let⟨q,es,ep,J,h2,h3,h4,_,h5⟩:=G;refine Sr I (by rw[e];exact El) hs ⟨q,J⟩ {hl,hd,_,(B.put k eb rv).keeps λc ys ec=>?_,q,es,ep,J,h2,h3,h4,h5};rw[Zo (X5 ec e (λz=>nomatch z))];exact ec
end
def NoSl(i:Expr):Prop:=∀h y,Mr i false h y=Jhe [h,y] (Lc h y)
def Zg5{env:Env}{slice:Expr}{T id:String}{Q:Cb->Cc->Prop}(hl:Jeh (.type T) "__getitem__"=pure (some (.builtin id)))(hs:NoSl slice)(h:Ck (Cn prog w) A (eval value env) (λo J=>Ck (Cn prog w) A (eval slice env) (λi y=>y.TypeIs o T/\Ck (Cn prog w) A (Lc o i) Q E y) E J) E s) :
  Ck (Cn prog w) A (eval (.Subscript value slice pos) env) Q E s:=by
 refine Jei (Jac h (λo J h₁=>Jac h₁ (λi y B=>?_) λ_ _ x=>x) λ_ _ x=>x);let⟨Y,B⟩:=B;unfold Mq;refine D0 ?_;rw[getitemInPython_of_ne Y.not_modules];refine D0 (wpAny_specialOf Y hl ?_);let fin:Ck (Cn prog w) A (Mr slice false o i) (λr G=>Ck (Cn prog w) A (letTemporaryGo value o r >>= λ_=>pure r) Q E G) E y:=by
  rw[hs o i];exact wpAny_operating (Jac B (λr G O=>D0 (wpAny_letTemporaryGo (D1 O))) λ_ _ x=>x)
 first
  |exact D1 (D0 fin)
  |exact D0 (D1 (D0 fin))
  |exact D0 fin
def Zdg{a:Addr}{o:Option V}(I:Inv X pz σ H s)(g:DGet H a y o):s.TypeIs (.ref a) "dict":=by
 rcases g with⟨kvs,k,e,_,_⟩|⟨kvs,k,b,e,_,_,_⟩
 .let⟨_,_,vs,_,h⟩:=Zdf I.hok e;exact h.typeIs
 .let⟨_,_,xs,_,h⟩:=Zdd I.hok e;exact h.typeIs
def Zs9(td ty:TE):TE:=λσ H Q=>td σ H λx H1=>ty σ H1 λy h=>∃a v,x=.ref a/\DGet h a y (some v)/\Q v h
def tDIn(ty td:TE):TE:=λσ H Q=>ty σ H λy H1=>td σ H1 λx h=>∃a o,x=.ref a/\DGet h a y o/\Q (.bl o.isSome) h
def Ztx(td ty tv:TE):TS:=λD σ H=>tv σ H λv H1=>td σ H1 λx G=>ty σ G λy B=>∃a h,x=.ref a/\DPut B a y v h/\D.nx σ h
section
variable{o i:Expr}{td ty:TE}
def R8(hu:X.A.units+1<Er)(ho:PE X o td)(hi:PE X i ty)(hs:NoSl i):PE X (.Subscript o i pos) (Zs9 td ty):=by
 intro pz s σ H Q I h;refine Zg5 PySem.F.slot_dict_getitem.lookup hs (thn (ho pz s σ H _ I h) λu J⟨x,H1,I1,Y,q1⟩=>thn (hi pz J σ H1 _ I1 q1) λiv s2 hz=>?_);let⟨y,H2,G,O,a,v,ex,g,Z⟩:=hz;subst ex;obtain rfl:u=Cd a:=Y;exists Zdg G g,Zj9 hu G g O λw' s3 I3 B=>⟨v,H2,I3,B,Z⟩
def Zoc(hu:X.A.units+1<Er)(hi:PE X i ty)(ho:PE X o td):PC X .In i o (tDIn ty td):=by
 intro pz s σ H Q I h;refine thn (hi pz s σ H _ I h) λiv B⟨y,H1,I1,G,Y⟩=>thn (ho pz B σ H1 _ I1 Y) λu s2 hz=>?_;let⟨x,H2,I2,J,a,Z,ex,g,O⟩:=hz;subst ex;obtain rfl:u=Cd a:=J;exact d_in hu I2 g G λs3 I3=>{.bl Z.isSome,H2,I3,rfl,O}
def Zct(hu:X.A.units+1<Er)(ho:PE X o td)(hi:PE X i ty)(hv:PE X value tv)(hs:Ja7 value (some (.Subscript o i pos')) pos.line X.env=pure false) :
  PS X (.Assign [.Subscript o i pos'] value pos) (Ztx td ty tv):=by
 intro pz s σ H D I h;refine wpAny_Assign_Subscript (thn (hv pz s σ H _ I h) λr G⟨v,H1,I1,Y,q1⟩=>thn (ho pz G σ H1 _ I1 q1) λu B⟨x,H2,I2,O,q2⟩=>thn (hi pz B σ H2 _ I2 q2) λiv s3 hz=>?_) hs;let⟨y,H3,I3,J,a,H4,ex,g,Z⟩:=hz;subst ex;obtain rfl:u=Cd a:=O;exact Zj8 hu I3 g J Y λs4 I4=>⟨σ,H4,I4,Z⟩
end
def Zmu(h:Heap)(y:Es<h.objs.size):Y0 P w H (h.push {cls:=.type "dict",data:=.dict #[]}) h.objs.size (.dK []) :=
 {Ge _,beq_eq_false_iff_ne.mpr (Hd (Gn y)),[],.nil,Jhp h}
def Zfb(h:Heap)(y:Es<h.objs.size):Y0 P w H (h.push {cls:=.type "dict",data:=.dict #[]}) h.objs.size (.dT []) :=
 {Ge _,beq_eq_false_iff_ne.mpr (Hd (Gn y)),[],.nil,_,#[],0,D3 _ rfl,⟨rfl,rfl,rfl⟩,rfl,rfl,Fe}
def Znk:TE:=λ_ H Q=>∀p,H p=none->Q (.ref p) (upd H p (.dT []))
section
def No:PE X (.Dict [] [] pos) Znk:=λpz s σ H Q I h =>
 Je2 {.ref s.heap.objs.size,_,I.laid (a:=s.heap.objs.size) (o:=.dT []) (t':=s.toks) (λ_ _ q=>D2 _ q) (Ji _) (Zfb s.heap I.big),rfl,h _ (I.hok.fresh (Ji _))}
end
def Znh:List (TE×TE)->St->Hp->(List (V×V)->Hp->Prop)->Prop
 |[],_,H,Q=>Q [] H
 |(tk,tv)::r,σ,H,Q=>tk σ H λx H1=>tv σ H1 λy B=>Znh r σ B λps h=>Q ((x,y)::ps) h
abbrev VV:List (V×V)->List (Cb×Cb)->Prop:=Paired λp q=>RelV p.1 q.1/\RelV p.2 q.2
def PPs(X:Cx)(pos:Pos)(h:List (Option Expr))(values:List Expr)(y:List (TE×TE)):Prop :=
 ∀(pz:List (Addr×Obj))(s:Cc)(σ:St)(H:Hp)(Q:List (V×V)->Hp->Prop),Inv X pz σ H s->Znh y σ H Q ->
  Ck (Cn X.prog X.w) X.A (evalPairs (pairTrees h values X.env pos)) (λvs s'=>∃ps H',Inv X pz σ H' s'/\VV ps vs/\Q ps H') X.xe s
def Zqj :PPs X pos [] [] []:=λpz s σ H Q I h=>pairTrees_nil_walk {[],H,I,.nil,h}
def Zl3{k v:Expr}{ks:List (Option Expr)}{vs:List Expr}{tk:TE}{B:List (TE×TE)}(hk:PE X k tk)(hv:PE X v tv)(hr:PPs X pos ks vs B) :
  PPs X pos (some k::ks) (v::vs) ((tk,tv)::B):=λpz s σ H Q I h =>
 pairTrees_cons_walk (thn (hk pz s σ H _ I h) λu O⟨x,H1,I1,Z,q1⟩=>thn (hv pz O σ H1 _ I1 q1) λw2 J ⟨y,H2,I2,Y,q2⟩ =>
  thn (hr pz J σ H2 _ I2 q2) λws s3⟨ps,H3,I3,G,q3⟩=>{(x,y)::ps,H3,I3,.cons ⟨Z,Y⟩ G,q3})
structure M1(X:Cx)(o:Expr)(m:Str)(apos:Pos)(e:Expr)(cpos:Pos):Prop where
 base:Kr o m X.env (eval o X.env)=eval o X.env
 few:((Kl cpos (Cs [e] X.env)).all (λx=>!x.1)&&(L6 cpos (Hv [] X.env)).all (λx=>x.1.isSome)
  && decide (([e]:List Expr).length+([]:List Jdq).length+(if([]:List Jdq).isEmpty then 0 else 1)<30))=true
 line:(apos.endLine==cpos.line)=true
 trees:Kl cpos (Cs [e] X.env)=[(false,eval e X.env)]
structure M2(X:Cx)(o:Expr)(m:Str)(apos:Pos)(e f:Expr)(cpos:Pos):Prop where
 base:Kr o m X.env (eval o X.env)=eval o X.env
 few:((Kl cpos (Cs [e,f] X.env)).all (λx=>!x.1)&&(L6 cpos (Hv [] X.env)).all (λx=>x.1.isSome)
  && decide (([e,f]:List Expr).length+([]:List Jdq).length+(if([]:List Jdq).isEmpty then 0 else 1)<30))=true
 line:(apos.endLine==cpos.line)=true
 trees:Kl cpos (Cs [e,f] X.env)=[(false,eval e X.env),(false,eval f X.env)]
def IsD(H:Hp)(a:Addr):Prop:=(∃kvs,Rd H a (.dK kvs))\/∃kvs,Rd H a (.dT kvs)
def isD_at{a:Addr}(I:Inv X pz σ H s)(d:IsD H a) :
  s.TypeIs (.ref a) "dict"/\(∀b,Cd a=.ref b->∃h,s.heap.get? b=some h/\h.dict=none)/\(a==Es)=false:=by
 rcases d with⟨kvs,e⟩|⟨kvs,e⟩
 .let⟨_,hd,vs,_,y⟩:=Zdf I.hok e;exists y.typeIs,λb q=>?_,hd;cases q;let⟨h,_,_,h1,h2,_⟩:=y;exists h,h1,h2.2.1
 .let⟨_,hd,xs,_,y⟩:=Zdd I.hok e;exists y.typeIs,λb q=>?_,hd;cases q;let⟨h,_,_,h1,h2,_⟩:=y;exists h,h1,h2.2.1
section
variable{a:Addr}{d:V}{u r:Cb}{o:Option V} 
def Zvd{Q:Cb->Cc->Prop}(Z:A.units+1<Er)(I:Inv X pz σ H s)(g:DGet H a y o)(Y:RelV y u)(h:∀O s',Inv X pz σ H s'->RelV (o.getD .non) O->Q O s') :
  Ck (Cn X.prog X.w) A (call (.builtin "dict.get") [.ref a,u]) Q E s:=by
 rcases g with⟨kvs,k,e,J,l⟩|⟨kvs,k,b,e,J,eb,l⟩
 .subst J;let⟨z,hd,vs,B,G⟩:=Zdf I.hok e;refine call_meetsIn C9 G.typeIs E7 (Ms _ _) (meets_dict_get (Z9 X.prog X.w) a (Zc5 Y) hd) {_,G.mapOf,h _ _ (I.tok _) ?_};rw[l];exact(B.val k).getD rfl
 .subst J;cases(show u=Cd b from Y);let⟨z,hd,xs,B,G⟩:=Zdd I.hok e;refine call_meetsIn C9 G.typeIs E7 (Ms _ _) (meetsH_dict_get (Lj (Z9 X.prog X.w)) a b hd) {Hr Z,k,xs,Qi I.hok eb,G,h _ _ (I.tok _) ?_};rw[l];exact(B.val k).getD rfl
def Zvc{Q:Cb->Cc->Prop}(Z:A.units+1<Er)(I:Inv X pz σ H s)(g:DGet H a y o)(Y:RelV y u)(rd:RelV d r)(h:∀O s',Inv X pz σ H s'->RelV (o.getD d) O->Q O s') :
  Ck (Cn X.prog X.w) A (call (.builtin "dict.get") [.ref a,u,r]) Q E s:=by
 rcases g with⟨kvs,k,e,J,l⟩|⟨kvs,k,b,e,J,eb,l⟩
 .subst J;let⟨z,hd,vs,B,G⟩:=Zdf I.hok e;refine call_meetsIn C9 G.typeIs E7 (PySem.F.args_dict_get_3 _ _ _) (meets_dict_get_default (Z9 X.prog X.w) a (Zc5 Y) hd r) {_,G.mapOf,h _ _ (I.tok _) ?_};rw[l];exact(B.val k).getD rd
 .subst J;cases(show u=Cd b from Y);let⟨z,hd,xs,B,G⟩:=Zdd I.hok e;refine call_meetsIn C9 G.typeIs E7 (PySem.F.args_dict_get_3 _ _ _) (meetsH_dict_get_default (Lj (Z9 X.prog X.w)) a b hd r) {Hr Z,k,xs,Qi I.hok eb,G,h _ _ (I.tok _) ?_};rw[l];exact(B.val k).getD rd
end
def Zs8(td ty:TE):TE:=λσ H Q=>td σ H λx H1=>∃a,x=.ref a/\IsD H1 a/\ty σ H1 λy h=>∃o,DGet h a y o/\Q (o.getD .non) h
def Znm(td ty tx:TE):TE:=λσ H Q=>td σ H λx H1=>∃a,x=.ref a/\IsD H1 a/\ty σ H1 λy B=>tx σ B λz h=>∃o,DGet h a y o/\Q (o.getD z) h
section
variable{o e f:Expr}{cpos:Pos}{td ty tx:TE}
def Zes(hu:X.A.units+1<Er)(ho:PE X o td)(he:PE X e ty)(m:M1 X o "get" apos e cpos):PE X (.Call (.Attribute o "get" apos) [e] [] cpos) (Zs8 td ty):=by
 intro pz s σ H Q I h;refine wpAny_Call_method m.base m.few m.line PySem.F.plainAttrs_dict C9 PySem.F.type_dict_get (thn (ho pz s σ H _ I h) λu Y hz=>?_);let⟨x,H1,G,rx,a,ex,d,q1⟩:=hz;subst ex;obtain rfl:u=Cd a:=rx;let⟨O,J,_⟩:=isD_at G d;exists O,J,?_;rw[m.trees];refine E6 rfl (Kc (E8 (thn (he pz Y σ H1 _ G q1) λiv s2⟨y,H2,I2,Z,ov,g,q2⟩=>Kz ?_)));exact Zvd hu I2 g Z λw' s3 I3 B=>{_,H2,I3,B,q2}
def Zer(hu:X.A.units+1<Er)(ho:PE X o td)(he:PE X e ty)(hf:PE X f tx)(m:M2 X o "get" apos e f cpos):PE X (.Call (.Attribute o "get" apos) [e,f] [] cpos) (Znm td ty tx):=by
 intro pz s σ H Q I h;refine wpAny_Call_method m.base m.few m.line PySem.F.plainAttrs_dict C9 PySem.F.type_dict_get (thn (ho pz s σ H _ I h) λu Z hz=>?_);let⟨x,H1,G,rx,a,ex,d,q1⟩:=hz;subst ex;obtain rfl:u=Cd a:=rx;let⟨O,J,_⟩:=isD_at G d;refine{O,J,?_};rw[m.trees];refine E6 rfl (Kc (E8 (thn (he pz Z σ H1 _ G q1) λiv Y ⟨y,H2,I2,ry,q2⟩ =>
  E8 (thn (hf pz Y σ H2 _ I2 q2) λfv s3⟨z,H3,I3,rz,ov,g,q3⟩=>Kz ?_))))
 exact Zvc hu I3 g ry rz λw' s4 I4 B=>{_,H3,I4,B,q3}
end
end L2
namespace Att
open PySem PySem.W PySem.Calls PyProof.Rows
theorem Qn{P:Params} :∀(ns:List Int)(vs:List Cb),WellAll P h vs (ns.map Jhq)->E4 vs ns:=by
 intro ns
 induction ns with
 |nil =>
  intro vs w;rw[F6]at w;cases w;exact .nil
 |cons n ns y =>
  intro vs w;rw[Jl]at w;cases w with
  |cons a b =>
   cases a;exact .cons _ _ (y _ b)
theorem Zhj{l:OpenLaw}{n:Nat}(hn:l.most=some n){P:Params}{args:List WData}{y:List Cb}(B:l.row.toRowW.claim.pre args=true)(O:WellAll P h y args) :
  ∃a vs ns,y=[Cd a]/\args=[WData.list (ns.map Jhq)]/\h.get? a=some {cls:=.type "list",data:=.seq vs.toArray}/\E4 vs ns/\ns.length<=n:=by
 let Y:WShape.hasAll [] args [.list .int]=true:=(pre_splitW B).1;let Z:l.pre.holds [] {args:=args}=true:=(pre_splitW B).2;let⟨d,r,rfl,h1,h2⟩:=hasAllW_cons Y;obtain rfl:=hasAllW_nil h2;let⟨xs,rfl,h3⟩:=hasW_list h1;let⟨ns,rfl⟩:=items_int h3;let G:ns.length<=n:=by
  unfold OpenLaw.pre at Z;let h4:(WTm.not (.lt (.lit (.int (n:Int))) (.len (.arg 0)))).holds [] {args:=[.list (ns.map .int)]}=true:=by
   let h4:=(holds_andW Z).1;rw[hn]at h4;exact h4
  let h5:=condW_of h4 (w_not (w_lt w_lit (w_len_list (w_arg rfl))));rw[Ja]at h5;refine Fl λq=>?_;let q':(n:Int)<((ns.length:Nat):Int):=by lia
  first
   |(rw[D8 q']at h5;exact Dx h5 nofun)
   |(simp at h5;lia)
 cases O with
 |cons w1 w2 =>
  cases w2;cases w1 with
  |list ho J=>exact{_,_,ns,rfl,rfl,ho,Qn ns _ J,G}
def Zih(l:OpenLaw)(args:List WData):l.row.toRowW.claim.post args (.bool true) args=true :=
 postW_of (r:=l.row.toRowW) (X:=(true==true))
  (show Jho [] (.bool true) .bool=true by first|rfl|decide|simp[Jho,WShape.arms,WShape.armsAll])
  (show(WTm.eq .res (.lit (.bool true))).value [] {args:=args,res:=some (.bool true),after:=args}=some (.bool (true==true))from w_eq_bool (w_res rfl) w_lit) rfl
def attach_call{l:OpenLaw}{n:Nat}{q:Ha}{loose:List Str}{XP:(Str->Option Cb)->Heap->Prop}{YP:Hz->Heap->Prop}{d:DefRec}(hn:l.most=some n)(a2:d.params.defaults=[])(call:∀(w:Hz)(s₀ h:Cc)(mg mb:Str->Option Cb)(Z:Addr)(o:Obj)(pm cd y:Cb)(a:Addr)(vs:List Cb)(ns:List Int),
   Ground q loose [] XP w s₀ mg mb h.heap->YP w h.heap ->
   h.heap.get? Z=some o->o.data=.func (docDef d.name d.params d.body d.scope pm cd y)->h.heap.CodeRec cd d.name->mg d.name=some (.ref Z) ->
   h.heap.get? a=some {cls:=.type "list",data:=.seq vs.toArray}->E4 vs ns->ns.length<=n->h.gens=#[] ->
   Lp (Cn l.prog w) Jek (.call (.ref Z) {[.ref a],[]}) (λr s'=>r=.ok (.ret (.bool true))/\OldK h.heap s'.heap/\s'.os=h.os/\Ja5 s'.gens) h) :
  WalkO q loose XP YP l.row.toRowW d [] (λf vs=>Jge f vs):=by
 intro w s₀ h mg mb G Y Z o pm cd y dV kV ho hd a3 hD a1 hg args a4 as B a5 a6 a0 a7;obtain rfl:dV=.none:=Dflts.none hD a2;obtain rfl:kV=.none:=Dflts.noKw hD;let⟨a,vs,ns,rfl,rfl,J,hints,O⟩:=Zhj hn B a0;refine enter_call (L5 (call w s₀ h mg mb Z o pm cd y a vs ns G Y ho (fd_plain hd) a3 a1 J hints O hg) λr s' hq=>?_);let⟨rfl,h2,h3,h4⟩:=hq;exists .inl {.bool true,.bool true,[],rfl,λ_=>rfl,.bool true,Zih l _,λ_=>{Jel,λ_ hm=>(nomatch hm)}},h2,h3,h4
end Att
namespace L2
open PySem PySem.Spec PyProof.Rows
theorem Zav:∀{vs:List Cb}{ns:List Int},E4 vs ns->Vals (ns.map V.int) vs:=by
 intro _ _ y;cases y with
 |nil=>
  exact .nil
 |cons n t h=>
  exact .cons ⟨t,rfl⟩ (Zav h)
def Sm(s:Stmt)(j:Nat):Stmt:=match s with
 |.ClassDef _ _ _ body _ _ _ _ _ _ _=>body.getD j (.Pass ⟨0,0,0,0⟩)
 |_=>.Pass ⟨0,0,0,0⟩
def Wf(s:Stmt):Arguments:=match s with
 |.FunctionDef _ a _ _ _ _ _ _ _ _=>a
 |_=>{posonlyargs:=[],args:=[],vararg:=none,kwonlyargs:=[],kw_defaults:=[],kwarg:=none,defaults:=[]}
def Xm(s:Stmt):List Stmt:=match s with
 |.FunctionDef _ _ b _ _ _ _ _ _ _=>b
 |_=>[]
def Zm(s:Stmt):Scope:=match s with
 |.FunctionDef _ _ _ _ _ _ h _ _ _=>h
 |_=>{kind:=.function,names:=[],isGenerator:=false,isCoroutine:=false}
abbrev CX0:CXT:=λ_ _ _ _ _ _=>False
abbrev E0:XK:=λ_ _ _=>False
def Zmb :Q4 CX0 X E0:=λ_ _ _ _ _ _ _ h=>h.elim
structure Fun(K:Cq)(x qual:Str)(st:Stmt)(f:Addr)(fd:L4):Prop where
 ex:∃(oc:Cb)(od:Option Addr)(kV doc pm:Cb)(an:Option Addr)(cdv ct:Cb)(osl:Array (Option Cb)),
  fd=Jc7 x qual (Wf st) (Xm st) (Zm st) .none kV doc pm an cdv ct/\K.lookup f=some {oc,od,.func fd,osl}/\Jd0 K cdv qual=true
 kp:Jc1 K (.ref f)=true
section
variable{base:Heap}
def Fun.ok{x:Str}{k:Nat}{sp:Sp}(F:Fun K x qual st f fd)(S:FnScope N ps (Zm st))(len:∀vs H Q E,sp vs H Q E->vs.length=ps.length)(hbody:∀(y:Cb)(A:Kw)(outer:List Env)(s:Cc)(H:Hp)(vs:List V)(Q:VK)(E:XK),Room k (A.deeper (Lw qual (Zm st) s.heap.objs.size f y))->sp vs H Q E ->
   ∃t,PSs (cxOf CX0 P w K mg base N qual (Zm st) f y A outer s H E).nox (Xm st) t/\t {nx:=λ_ H'=>Q .non H',rt:=Q} (Tj N vs) H):FnOk P w K mg base CX0 (k+1) f fd ps sp:=by
 let⟨Z,od,kV,Y,pm,an,y,ct,J,rfl,lk,G⟩:=F.ex;refine Zu6 lk G S len λA outer s H vs Q E O B=>?_;let⟨t,h,q⟩:=hbody y A outer s H vs Q E O B;exists t,h.nox,q
def Fun.binds{x:Str}(F:Fun K x qual st f fd)(h:∀(kV y pm:Cb)(G:Option Addr)(B ct:Cb)(us:List Cb),us.length=ps.length->Jdz (Jc7 x qual (Wf st) (Xm st) (Zm st) .none kV y pm G B ct) {us,[]}=pure (ps.zip us)):Sx K fd ps []:=by
 let⟨Y,od,kV,y,pm,G,B,ct,J,rfl,lk,O⟩:=F.ex;exact .all (h kV y pm G B ct)
def Zjx{x:Str}{J:Cb}{od G:Option Addr}{B:Array (Option Cb)}{kV y h ct:Cb}(l:K.lookup f=some {J,od,.func (Jc7 x qual (Wf st) (Xm st) (Zm st) .none kV y pm G h ct),B})(c:Jd0 K h qual=true)(k:Jc1 K (.ref f)=true):Fun K x qual st f (Jc7 x qual (Wf st) (Xm st) (Zm st) .none kV y pm G h ct):={⟨J,od,kV,y,pm,G,h,ct,B,rfl,l,c⟩,k}
end
def Xy{k:Nat}(h:Room k A):A.units+1<Er:=Gu (Nat.add_le_add_left (by decide:1<=64) _) h.units
section
def pv(i:Nat){x:Str}(B:X.N[i]?=some x:=by rfl)(y:Vis X.env.scope x:=by first|left;rfl|right;left;rfl|right;right;rfl)(hd:(x==("__debug__":Str))=false:=by decide)(h:(x==("__classdict__":Str))=false:=by decide):PE X (.Name x pos) (tVar i):=Zt6 B y hd h
end
def iteF{A:Prop}(h:B):if false=true then A else B:=by
 rw[D6 Gd];exact h
def iteT{A:Prop}(h:A):if true=true then A else B:=by
 rw[D7 rfl];exact h
def ite2{c A:Prop}[Decidable c](h1:c->A)(h2:¬ c->B):if c then A else B:=by
 by_cases h:c
 .rw[D7 h];exact h1 h
 .rw[D6 h];exact h2 h
def Zxl{c A:Prop}[Decidable c](y:c)(h:B):if(!decide c)=true then A else B:=by
 rw[D8 y];exact iteF h
def Same(H H':Hp):Prop:=∀b o,H b=some o->H' b=some o
def Same.refl(H:Hp):Same H H:=λ_ _ h=>h
def Same.trans{y:Hp}(a:Same H H1)(b:Same H1 y):Same H y:=λc o h=>b c o (a c o h)
theorem Same.free(e:Same H H')(h:H' l=Option.none):H l=Option.none:=by
 cases q:H l with
 |none=>rfl
 |some o =>
  rw[e l o q]at h;cases h
def Same.seq{a:Addr}(e:Same H H')(h:SqL K H a xs):SqL K H' a xs:=by
 rcases h with(h|⟨o,h⟩)|h
 .exact .inl (.inl (e _ _ h))
 .exact .inl (.inr ⟨o,e _ _ h⟩)
 .exact .inr h
end L2
namespace L2
open PySem
def Wg(cells:List (Str×Addr)):List (Str×E5)->List (Str×Addr)->List (Str×Addr)
 |[],acc=>acc
 |(n,k)::r,acc=>if k == .free then Wg cells r ((n,(cells.lookup n).getD 0)::acc)else Wg cells r acc
def Zkj(env:Env)(l:List (Str×E5))(acc:List (Str×Addr)):Sem (List (Str×Addr)):=do
 let mut cs:=acc
 for (name,kind) in l do
  if kind == .free then cs:=(name,<-cellOf env name)::cs
 return cs
theorem Pz{env:Env}:∀(l:List (Str×E5))(acc:List (Str×Addr)),(∀y∈l,y.2=.free->∃c,env.cells.lookup y.1=some c) ->
  Zkj env l acc=pure (Wg env.cells l acc)
 |[],acc,_=>rfl
 |(n,k)::r,acc,h=>by
  let B:=λacc=>Pz r acc λy J=>h y (Jf _ J);unfold Zkj at B⊢;rw[Wg];cases hk:(k==C6)with
  |false =>
   simp only[Jb2,hk,Gf,if_false,pure_bind]at B⊢;exact B acc
  |true =>
   let⟨c,O⟩:=h (n,k) Jh (by simpa using hk);let G:env.cells.lookup n=some c:=O;simp only[Jb2,hk,if_true,cellOf,G,pure_bind,Mx]at B⊢;exact B _
def Py{scope:Scope}{env:Env}(h:∀y∈scope.names,y.2=.free->∃c,env.cells.lookup y.1=some c):Jgf scope env=pure (Wg env.cells scope.names []) :=
 Pz scope.names [] h
theorem Ta{cells:List (Str×Addr)}{x:Str} :∀{l:List (Str×E5)}{acc:List (Str×Addr)},(∀y∈l,y.2=.free->∃c,cells.lookup y.1=some c) ->
  (Wg cells l acc).lookup x=some c->acc.lookup x=some c\/cells.lookup x=some c
 |[],acc,_,h=>.inl h
 |(n,k)::r,acc,hl,h=>by
  rw[Wg]at h
  by_cases hk:(k==C6)=true
  .rw[D7 hk]at h;let⟨J,Y⟩:=hl (n,k) Jh (by simpa using hk);let B:cells.lookup n=some J:=Y;rcases Ta (λy G=>hl y (Jf _ G)) h with z|z
   .rw[Bt,B]at z;cases hx:(x==n)with
    |true =>
     rw[hx]at z;let e:x=n:=by simpa using hx
     subst e;let O:J=c:=by simpa using z
     subst O;exact .inr B
    |false=>rw[hx]at z;exact .inl z
   .exact .inr z
  .rw[D6 hk]at h;exact Ta (λy G=>hl y (Jf _ G)) h
theorem V1{cells:List (Str×Addr)}{x:Str}:∀{l:List (Str×E5)}{acc:List (Str×Addr)},(∃c,acc.lookup x=some c)->∃c,(Wg cells l acc).lookup x=some c
 |[],acc,h=>h
 |(n,k)::r,acc,h=>by
  rw[Wg]
  by_cases hk:(k==C6)=true
  .rw[D7 hk];refine V1 ?_;rw[Bt];cases hx:(x==n)with
   |true=>exact{_,rfl}
   |false=>exact h
  .rw[D6 hk];exact V1 h
theorem Uh{cells:List (Str×Addr)}{x:Str}:∀{l:List (Str×E5)}{acc:List (Str×Addr)},(x,C6)∈l->∃c,(Wg cells l acc).lookup x=some c
 |[],acc,h=>nomatch h
 |(n,k)::r,acc,h=>by
  rw[Wg];rcases J9.mp h with e|h
  .cases e;rw[D7 (by rfl)];refine V1 ?_;rw[Bt,beq_self_eq_true];exists ·
  .by_cases hk:(k==C6)=true
   .rw[D7 hk];exact Uh h
   .rw[D6 hk];exact Uh h
def Vq{scope:Scope}{env:Env}(B:∀y∈scope.names,y.2≠.cell){x:Str}(h:(Jhf scope env).names.lookup x=some .cell\/(Jhf scope env).names.lookup x=some .free):(x,C6)∈scope.names:=by
  let go:∀(l:List (Str×E5)),(∀y∈l,y.2≠.cell) ->
      ((l.map λ(n,k)=>if(k==C6&&env.scope.kind == .function&&env.kindOf n==some .cell)then(n,Lg)else(n,k)).lookup x=some .cell \/
       (l.map λ(n,k)=>if(k==C6&&env.scope.kind == .function&&env.kindOf n==some .cell)then(n,Lg)else(n,k)).lookup x=some .free)->(x,C6)∈l:=by
    intro l
    induction l with
    |nil=>intro _ h;rcases h with h|h<;>cases h
    |cons a r O =>
      let⟨n,k⟩:=a;intro B h;let G:k≠.cell:=B (n,k) Jh;simp only[Jl]at h
      by_cases hx:(x==n)=true
      · let e:x=n:=by simpa using hx
        subst e
        by_cases hk:k=.free
        · subst hk;exact Jh
        · let Z:(k==C6)=false:=by simpa using hk
          simp only[Z,Jfj,Gf,if_false,Bt,beq_self_eq_true]at h;rcases h with h|h
          · exact Dx (Jaa h) G
          · exact Dx (Jaa h) hk
      · let J:(x==n)=false:=by simpa using hx
        refine Jf _ (O (λy Y=>B y (Jf _ Y)) ?_);let el:∀(p:Str×E5)(t:List (Str×E5)),p.1=n->(p::t).lookup x=t.lookup x:=by
          intro p t e;let⟨a,b⟩:=p;let e':a=n:=e;subst e';rw[Bt,J]
        rw[el _ _ (by split<;>rfl)]at h;exact h
  exact go scope.names B h
def Tv{scope:Scope}{env:Env}{x:Str}(h:(Jhf scope env).names.lookup x=some .local):scope.names.lookup x=some .local:=by
 let J:∀(l:List (Str×E5)),
   (l.map λ(n,k)=>if(k==C6&&env.scope.kind == .function&&env.kindOf n==some .cell)then(n,Lg)else(n,k)).lookup x=some .local->l.lookup x=some .local:=by
  intro l
  induction l with
  |nil=>intro h;cases h
  |cons a r G =>
   let⟨n,k⟩:=a;intro h;simp only[Jl]at h
   by_cases hx:(x==n)=true
   .let e:x=n:=by simpa using hx
    subst e
    by_cases hc:(k==C6&&env.scope.kind == .function&&env.kindOf x==some .cell)=true
    .rw[D7 hc,Bt,beq_self_eq_true]at h;cases h
    .rw[D6 hc,Bt,beq_self_eq_true]at h;rw[Bt,beq_self_eq_true];exact h
   .let y:(x==n)=false:=by simpa using hx
    let B:∀(p:Str×E5)(t:List (Str×E5)),p.1=n->(p::t).lookup x=t.lookup x:=by
     intro p t e;let⟨a,b⟩:=p;let O:a=n:=e;subst O;rw[Bt,y]
    rw[B _ _ (by split<;>rfl)]at h;rw[B _ _ rfl];exact G h
 exact J scope.names h
end L2
namespace L2
open PySem PySem.Spec PyProof.Rows
def nbOf(N T:List Str)(cs:List Nat):List Str:=T++cs.map λi=>N.getD i Jdy
def sgOf(σ:St)(T:List Str)(cs:List Nat):St:=T.map (λ_=>none)++cs.map λi=>σ.getD i none
structure CScope(outer scope:Scope)(N T:List Str)(cs:List Nat):Prop where
 kind:scope.kind=.function
 nocell:∀y∈scope.names,y.2≠.cell
 names:∀y∈scope.names,y.2=.local->scope.names.lookup y.1=some .local
 free:∀y∈scope.names,y.2=.free->outer.names.lookup y.1=some .cell\/outer.names.lookup y.1=some .free
 cap:∀i∈cs,scope.names.lookup (N.getD i Jdy)≠some .local
def Zkf(outer scope:Scope)(N:List Str)(cs:List Nat):Bool :=
 decide (scope.kind=.function)&&(scope.names.all (λy=>!decide (y.2=Lg))&&(scope.names.all (λy=>!decide (y.2=E5.local) ||decide (scope.names.lookup y.1=some E5.local)) &&
  (scope.names.all (λy=>!decide (y.2=C6) ||(decide (outer.names.lookup y.1=some Lg) ||decide (outer.names.lookup y.1=some C6)))&&cs.all (λi=>!decide (scope.names.lookup (N.getD i Jdy)=some E5.local)))))
def CScope.ok{outer scope:Scope}(h:Zkf outer scope N cs=true):CScope outer scope N T cs:=by
 unfold Zkf at h;simp only[Bi,List.all_eq_true,Bool.or_eq_true,decide_eq_true_eq,Bool.not_eq_true',decide_eq_false_iff_not]at h;let⟨h1,h2,h3,h4,h5⟩:=h;exists h1,h2,λy B e=>(h3 y B).resolve_left (λq=>q e),λy B e=>(h4 y B).resolve_left (λq=>q e),h5
def Ys{l:List Str}(h:decide l.Nodup=true):l.Nodup:=Dw h
def blk(X:Cx)(T:List Str)(cs:List Nat)(scope:Scope)(C:Addr)(s₀:Cc)(H₀:Hp)(ex:List Addr):Cx where
 prog:=X.prog
 w:=X.w
 K:=X.K
 mg:=X.mg
 base:=X.base
 A:=X.A
 N:=nbOf X.N T cs
 s₀:=s₀
 H₀:=H₀
 env:=compEnvC scope (Wg X.env.cells scope.names []) C X.env
 outer:=X.stack
 stack:=X.stack
 ex:=ex
 fn:=λ_=>false
 calm:=X.calm
 pn:=[]
 xe:=λ_ _=>False
section
variable{scope:Scope} 
def Inv.hl(I:Inv X pz σ H s)(S:CScope X.env.scope scope X.N T cs):∀y∈scope.names,y.2=.free->∃c,X.env.cells.lookup y.1=some c :=
 λy h e=>I.ok.has y.1 (S.free y h e)
def Inv.clo(I:Inv X pz σ H s)(S:CScope X.env.scope scope X.N T cs){x:Str}(h:(Wg X.env.cells scope.names []).lookup x=some c):X.env.cells.lookup x=some c :=
 (Ta (I.hl S) h).resolve_left (by simp)
theorem Zq9(I:Inv X pz σ H s)(S:CScope X.env.scope scope X.N T cs)(hf:∀b∈fp,FpOk X pz H b)(a3:∀b∈fp,∃o,s.heap.get? b=some o){C:Addr}{h1:Heap}{m:Str->Option Cb}{tk:Nat}(hC:s.heap.objs.size<=C)(ns:h1.Ns C m)(k:∀b o,s.heap.get? b=some o->h1.get? b=some o) :
  Inv (blk X T cs scope C s H fp) [] (sgOf σ T cs) H {s with heap:=h1,toks:=tk}:=by
 let fr:H C=none:=I.hok.fresh hC;let cellS:∀{c:Addr}{v:Option Cb},s.heap.IsCell c v->h1.IsCell c v:=λ⟨o,e,d⟩=>⟨o,k _ o e,d⟩;refine{{I.ok.mod,S.kind,I.ok.glob,I.ok.blt,hC,λx y c e1 e2=>I.ok.inj x y c (I.clo S e1) (I.clo S e2),λx hx=>Uh (Vq S.nocell hx),λx c h _=>Dx (show false=true from h) Gd,
  I.ok.hd,I.ok.frames,.inl rfl,λb J=>{?_,λx c e=>(hf b J).2.2.2.2.1 x c (I.clo S e)},I.bs,Jx I.ok.bsz I.sz,λb o e J=>?_,λb J z=>?_,I.stack,I.stkFree},
  rfl,I.bare,Un.kept k,{m,ns,λi x v a5 a4 Z=>?_},λx c e=>?_,fr,λx c e=>I.freeC x c (I.clo S e),λp hp=>Dx (show p∈([]:List (Addr×Obj))from hp) (by simp),I.hok.kept k,?_}
 .let⟨o,e⟩:=a3 b J;exact Gn (Gm (D4 e) hC)
 .rcases(hf b J).2.2.2.1 with z|z
  .exact I.ok.noex b o e z
  .exact Dx (Gm (Gm (D4 e) I.ok.bsz) z) (Bb _)
 .rcases J9.mp (I.stkSub b z)with e|e
  .exact(hf b J).2.1 e
  .exact(hf b J).2.2.1 e
 .let h2:(sgOf σ T cs)[i]?=some (some v):=a4;let B:(nbOf X.N T cs)[i]?=some x:=a5;unfold sgOf at h2;unfold nbOf at B
  by_cases hi:i<T.length
  .rw[Jw (by simpa using hi),Gc]at h2;cases e:T[i]? with
   |none=>rw[e]at h2;cases h2
   |some a=>rw[e]at h2;cases h2
  .rw[J8 (by simpa using hi),Gc,Ja]at h2;rw[J8 (),Gc]at B;cases e:cs[i-T.length]? with
   |none=>rw[e]at h2;cases h2
   |some G =>
    rw[e]at h2 B;let ex:X.N.getD G Jdy=x:=Jaa B;let ev:σ.getD G none=some v:=Jaa h2;let a0:σ[G]?=some (some v):=by
     rw[Gq]at ev;cases q:σ[G]? with
     |none=>rw[q]at ev;cases ev
     |some z=>rw[q]at ev;exact congrArg some ev
    let Y:G<X.N.length:=by
     let:=(Jg.mp a0).1;rw[I.len]at this;exact this
    let eN:X.N[G]?=some x:=by
     rw[Gq,Jb Y]at ex;rw[Jb Y];exact congrArg some ex
    let hfree:(x,C6)∈scope.names:=by
     rcases Z with z|z|z
     .exact Dx (Tv z) (by rw[<-ex];exact S.cap G (G1 e))
     .exact Vq S.nocell (.inl z)
     .exact Vq S.nocell (.inr z)
    let ok:=S.free _ hfree rfl;let⟨m',a6,a2⟩:=I.loc;let⟨u,r,l⟩:=a2 G x v eN a0 (.inr ok);exists u,r,?_;rcases l with⟨kd,_⟩|⟨_,c,ec,z⟩
    .let O:X.env.scope.names.lookup x=some .local:=kd;rcases ok with q|q<;>(rw[show X.env.scope.names.lookup x=_ from q]at O;cases O)
    .let⟨c',a1⟩:=Uh (cells:=X.env.cells) (acc:=[]) hfree;let:c'=c:=by
      let q:=I.clo S a1;rw[ec]at q;exact(Jaa q).symm
     subst this;refine .inr {?_,c',a1,cellS z};rcases Z with q|q|q
     .exact Dx (Tv q) (by rw[<-ex];exact S.cap G (G1 e))
     .exact .inl q
     .exact .inr q
 .let⟨v,z⟩:=I.cell x c (I.clo S e);exists v,cellS z
 .show(sgOf σ T cs).length=(nbOf X.N T cs).length;simp[sgOf,nbOf]
def Inv.track{D:Addr}{n:Nat}(I:Inv X pz σ H s)(Y:s.heap.get? D=some {cls:=.type "list",data:=.seq its.toArray n})(f:FpOk X pz H D)(J:Vals ys its)(hz:ys.length<=Ca) :
  Inv X pz σ (upd H D (.lst ys)) s:=by
 let⟨y,f1,f2,f3,f4,Z⟩:=f;let G:HOk X.prog X.w (upd H D (.lst ys)) s.heap:=λb u e=>by
  by_cases B:b=D
  .subst B;rw[Ze]at e;cases e;exists hz,its,n,J,Y
  .rw[Zo B]at e;exact(I.hok b u e).stay (λ_ _ _ q=>q) (λc q=>by rw[Zo (Zx q y)];exact q) λc xs q=>by rw[Zo (Zx q y)];exact q
 let st:=I.step (H':=upd H D (.lst ys)) (h':=s.heap) (g':=s.gens) (t':=s.toks) (d':=s.drawn) (ch:=[D])
  (λb B=>by
   let e:b=D:=by simpa using B
   subst e;exact⟨f3,f1,f4,Z⟩)
  (λb o _ _ _ e _=>e) (λb o _ _ _ e _=>{o.slots,e}) (λb o O e n=>by rw[Zo (λz=>O (by simp[z]))];exact n) (λb o _ e=>⟨o,e⟩)
  (λb xs e=>by rw[Zo (Zx e y)];exact e) (λb o u e=>by rw[Zo (Zx e y)];exact e) (λb ps e=>{#[],by rw[Zo (Zx e y),e];simp}) (λm h=>h) G I.bare
 exact st
end
section
variable{R:Jhk->Cc->Prop} 
abbrev Zgy(ifs:List Expr)(env:Env):Sem Bool:=forIn ifs true λc r=>if r=true then do let ok <-isTrue c env (eval c env);pure (Ei ok)else pure (Ei r)
theorem Zbz{elt target iter:Expr}{ifs:List Expr}{scope:Scope}{it acc:Cb}{env:Env}(I:Nat->Cc->Prop)(turn:∀n s,I n s->Ck (Cn prog w) A (Jc5 it) (λr B=>match r with
   |none=>R (.ok .next) B
   |some v=>Ck (Cn prog w) A (Lm target it v) (λ_ Y=>Ck (Cn prog w) A (Jes target env v) (λ_ O =>
     Ck (Cn prog w) A (Zgy ifs env) (λok y =>
      if ok=true then Ck (Cn prog w) A (eval elt env) (λx J =>
       Ck (Cn prog w) A (call (.builtin "list.append") [acc,x]) (λ_ G=>∃m,m<n/\I m G) (λ_ _=>False) J) (λ_ _=>False) y
      else ∃m,m<n/\I m y) (λ_ _=>False) O) (λ_ _=>False) Y) (λ_ _=>False) B) (λ_ _=>False) s)(n:Nat)(h:I n s) :
  Lp (Cn prog w) A (.compLoop (.ListComp elt [⟨target,iter,ifs,0⟩] scope pos) 0 it acc env) R s:=by
 refine codeAny_loop rfl I (λn s hI=>?_) n h;show Ck _ A ((compTurn (.ListComp elt [⟨target,iter,ifs,0⟩] scope pos) 0 it acc env).onRaise (λx=>do noteFrame x env;theTreesLotGoes x)) _ _ s;refine wpAny_noted ?_;rw[compTurn_list];refine D0 (Lf (D0 (Jac (turn n s hI) (λr B h₁=>?_) λ_ _ h'=>C3 h')));cases r with
 |none=>exact D1 h₁
 |some v =>
  refine D0 (Jac h₁ (λ_ Y a3=>?_) λ_ _ h'=>C3 h');refine D0 (Jac a3 (λ_ O a2=>D0 (Jac a2 (λok y Z=>?_) λ_ _ h'=>C3 h')) λ_ _ h'=>C3 h');cases ok with
  |false=>exact D1 ⟨rfl,Z⟩
  |true =>
   exact D0 (D0 (Jac Z (λx J a1=>D0 (Jac a1 (λ_ G a0=>D1 (D1 ⟨rfl,a0⟩)) λ_ _ h'=>C3 h')) λ_ _ h'=>C3 h'))
end
def PTs(X:Cx)(ifs:List Expr)(t:TT):Prop :=
 ∀(pz:List (Addr×Obj))(s:Cc)(σ:St)(H:Hp)(Q:Bool->Hp->Prop),Inv X pz σ H s->t σ H Q->Ck (Cn X.prog X.w) X.A (Zgy ifs X.env) (TP X pz σ Q) X.xe s
def Zsy:TT:=λ_ H Q=>Q true H
def Ym :PTs X [] Zsy:=λpz s σ H Q I h=>wpAny_tests_nil ⟨H,I,h⟩
def W6{c:Expr}{t:TT}(y:PT X c t):PTs X [c] t:=λpz s σ H Q I h=>wpAny_tests_one (y pz s σ H Q I h)
def Ag(n:Nat)(σ h:St):Prop:=σ.length=h.length/\∀i,n<=i->σ[i]?=h[i]?
def Zcc(g:TG)(n:Nat):Prop:=∀y x σ H R,Ag n σ y->g x σ H R->g x σ H λh B=>R h B/\Ag n h y
def Zar(g:TGs)(n:Nat):Prop:=∀y xs σ H R,Ag n σ y->g xs σ H R->g xs σ H λh B=>R h B/\Ag n h y
theorem Ag.set{n i:Nat}{y:St}(a:Ag n σ y)(h:i<n)(v:Option V):Ag n (σ.set i v) y :=
 {by rw[B1];exact a.1,λj B=>(Ft ()).trans (a.2 j B)}
def Yt{i n:Nat}(h:i<n):Zcc (Zdb i) n:=λy x σ H R a q=>{q,a.set h _}
def Wd{n:Nat}:Zar gNil n:=λh xs σ H R a q=>{q.1,q.2,a}
def Z8{i n:Nat}{u:TGs}(h:i<n)(h2:Zar u n):Zar (Zrg (Zdb i) u) n:=λy xs σ H R a q=>by
 let⟨v,r,e,q⟩:=q;exists v,r,e,h2 y r _ _ _ (a.set h _) q
def Vz{m n:Nat}{t:TGs}(h:Zar t n):Zcc (gTup K m t) n:=λy x σ H R G q=>by
 let⟨a,xs,e,B,hl,q⟩:=q;exists a,xs,e,B,hl,h y xs σ H R G q
section
variable{scope:Scope}{elt iter:Expr}{ifs:List Expr}{g:TG}{tt:TT} 
theorem Zby{RR:Cb->Addr->Jhk->Cc->Prop}{Fin:List V->Hp->Prop}{J:It}{tn:Nat->Heap->Prop}(I:Inv X pz σ H s)(hc:X.calm=true)(S:CScope X.env.scope scope X.N T cs)(Tn:Turn X.prog X.w X.K tg J fp it tn)(st:tn 0 s.heap)(hf:∀b∈fp,FpOk X pz H b)(hg:∀C s₀ H₀ ex,PG (blk X T cs scope C s₀ H₀ ex) tg g)(ht:∀C s₀ H₀ ex,PTs (blk X T cs scope C s₀ H₀ ex) ifs tt)(he:∀C s₀ H₀ ex,PE (blk X T cs scope C s₀ H₀ ex) elt te)(hk:Zcc g T.length)(W:Nat->Nat->List V->Hp->Prop)(w0:∃m,W 0 m [] H)(turn:∀i m ys H,W i m ys H->(J.stop i H/\ys.length<=Ca/\Fin ys H)\/(J.go i H/\ys.length<Ca/\∃N:List V->Hp->Prop,(∀b4 H',N b4 H'->∃m',m'<m/\W (i+1) m' b4 H') /\
   ∀x H',J.yld i H x H'->g x (sgOf σ T cs) H' λb3 H2=>tt b3 H2 λb H3=>if b=true then te b3 H3 λy H4=>N (ys++[y]) H4 else N ys H3))(fin:∀(D C:Addr)(s':Cc)(m:Str->Option Cb)(ys:List V)(H':Hp),Fin ys H'->H' D=none->s'.heap.Ns C m->FpOk X pz H' C->C≠D->Inv X pz σ (upd H' D (.lst ys)) s'->RR (.ref D) C (.ok .next) s') :
  Ck (Cn X.prog X.w) X.A (newList []) (λacc b7=>Ck (Cn X.prog X.w) X.A (newFunctionEnv scope X.env.globals (Wg X.env.cells scope.names []) [] X.env.qual none .none (some X.env)) (λa6 b6 =>
   Lp (Cn X.prog X.w) X.A (.compStart (.ListComp elt [⟨tg,iter,ifs,0⟩] scope pos) 0 (.ref it) acc {a6 with scope:=Jhf scope X.env}) (RR acc a6.locals) b6) E b7) E s:=by
 refine Em (wpAny_newFunctionEnv S.nocell (by intro y hy;simp at hy) (λh₁ G h=>?_) S.kind);dsimp only at G h⊢;generalize b1:s.heap.push {cls:=.type "list",dict:=none,data:=.seq ([]:List Cb).toArray}=H2 at G h⊢;let b2:H2.objs.size=s.heap.objs.size+1:=by rw[<-b1,Jc6]
 let a3:s.heap.objs.size≠H2.objs.size:=by rw[b2];exact Gn (F1 _)
 let a2:s.heap.objs.size<=H2.objs.size:=by rw[b2];exact Fu _
 let old:∀b o,s.heap.get? b=some o->h₁.get? b=some o:=λb o e =>
  h.extBut b o (by rw[b2];exact Gn (B6 (D4 e))) (D2 _ (b1 ▸ D2 _ e))
 let c1:h₁.get? s.heap.objs.size=some {cls:=.type "list",data:=.seq ([]:List Cb).toArray 0}:=h.extBut _ _ a3 (D2 _ (b1 ▸ D3 _ rfl));let c0:∀b∈fp,∃o,s.heap.get? b=some o:=λb B=>let⟨o,e,_⟩:=Tn.obj _ _ st b B;⟨o,e⟩
 let a8:∀b∈fp,b<s.heap.objs.size:=λb B=>let⟨o,e⟩:=c0 b B;D4 e
 let a0:tn 0 h₁:=Tn.keep _ _ _ st λb _ o e=>old b o e;generalize O:s.heap.objs.size=D at *
 generalize d0:H2.objs.size=C at *
 let c3:H D=none:=I.hok.fresh (Bz O);let a1:∀{H':Hp}{its:List Cb}{n:Nat},(∀b∈fp,H' b=none)->∀b∈fp,FpOk (blk X T cs scope C s H fp) [(D,({cls:=.type "list",data:=.seq its.toArray n}:Obj))] H' b:=λhn b B=>by
  let⟨f0,f1,f2,f3,f4,f5⟩:=hf b B;exists hn b B,Gn (Gm (a8 b B) a2),λz=>?_,.inl B,λx c e=>f4 x c (I.clo S e),λp hp z=>?_
  .rcases J9.mp (I.stkSub b z)with e|e
   .exact f1 e
   .exact f2 e
  .let e:p.1=D:=by
    rcases Jv.mp hp with q|q
    .exact Dx (show p∈([]:List (Addr×Obj))from q) (by simp)
    .rw[Je.mp q]
   exact Dx (a8 b B) (by rw[<-z,e];exact Bb _)
 let a5:∀tk:Nat,Lp (Cn X.prog X.w) X.A (.compLoop (.ListComp elt [⟨tg,iter,ifs,0⟩] scope pos) 0 (.ref it) (.ref D) (compEnvC scope (Wg X.env.cells scope.names []) C X.env)) (RR (.ref D) C) {s with heap:=h₁,toks:=tk}:=by
  intro tk;let I1:Inv (blk X T cs scope C s H fp) [] (sgOf σ T cs) H {s with heap:=h₁,toks:=tk}:=Zq9 I S hf c0 (by rw[O];exact a2) G old;let⟨m0,w0⟩:=w0;let a4:∀{Y:St}{H':Hp}{s':Cc}{its:List Cb}{n:Nat}{pl:List (Addr×Obj)},Inv (blk X T cs scope C s H fp) pl Y H' s'->s'.heap.get? D=some {cls:=.type "list",data:=.seq its.toArray n}->H' D=none ->
    Inv (blk X T cs scope C s H fp) [(D,({cls:=.type "list",data:=.seq its.toArray n}:Obj))] Y H' s':=λ{Y H' s' its n pl}J e hn=>J.pins_of λp hp=>by
   obtain rfl:=Je.mp hp;refine{e,hn,a3,λz=>?_,λv q=>by cases q};let z':D∈frs X.stack:=z;let⟨_,o,ho,_⟩:=I.stack.mem z';exact Dx (D4 ho) (by rw[O];exact Bb _)
  refine Zbz (λn s'=>∃(i:Nat)(ys:List V)(its:List Cb)(k:Nat)(H':Hp),Inv (blk X T cs scope C s H fp) [(D,({cls:=.type "list",data:=.seq its.toArray k}:Obj))] (sgOf σ T cs) H' s'/\Vals ys its/\tn i s'.heap/\(∀b∈fp,H' b=none)/\W i n ys H') ?_ m0
   {0,[],[],0,H,a4 I1 c1 c3,.nil,a0,λb B=>(hf b B).1,w0}
  rintro n s1 ⟨i,ys,its,k,H1,J1,rv,b9,fr1,w1⟩;rcases turn i n ys H1 w1 with⟨b8,hz,fq⟩|⟨go,hz,N,hN,step⟩
  .refine Jac (Tn.done (blk X T cs scope C s H fp) rfl rfl rfl hc i _ s1 _ H1 (λ_ _=>False) J1 (a1 fr1) b9 b8) (λr s2 hz=>?_) λ_ _ z=>z;let⟨hr,J2⟩:=hz;subst hr;let⟨eD,nD,_⟩:=J2.pin (D,({cls:=.type "list",data:=.seq its.toArray k}:Obj)) (Jp _ (Je.mpr rfl));let J3:Inv X pz σ H1 s2:=I.call' (ch:=fp) J2.os J2.base J2.hok J2.bare λb B=>by
    let⟨f0,f1,f2,f3,f4,f5⟩:=hf b B;exists f3,f1,f4,f5
   let⟨mC,c4,_⟩:=J2.loc;let fC:FpOk X pz H1 C:=I.fpOk (by rw[O];exact a2) J2.free;let fD:FpOk X pz H1 D:=I.fpOk (Bz O) nD;exact fin D C s2 mC ys H1 fq nD c4 fC (Hd a3) (J3.track eD fD rv hz)
  .refine Jac (Tn.item (blk X T cs scope C s H fp) rfl rfl rfl hc i _ s1 _ H1 (λ_ _=>False) J1 (a1 fr1) b9 go) (λr s2 hz=>?_) λ_ _ z=>z;let⟨u,hr,h2⟩:=hz;subst hr;refine Jac h2 (λ_ s3 hz=>?_) λ_ _ z=>z;let⟨x,H3,J3,r3,y3,a7,c6⟩:=hz;let c8:=J3.pinned (a1 c6) (Tn.obj _ _ a7);refine Jac (hg C s H fp _ s3 _ H3 x u _ c8 r3 (hk (sgOf σ T cs) x _ H3 _ {rfl,λ_ _=>rfl} (step x H3 y3))) (λ_ s4 hz=>?_) λ_ _ z=>z;let⟨Z,H4,J4,q4,l4,k4⟩:=hz;refine Jac (ht C s H fp _ s4 Z H4 _ J4 q4) (λb s5 hz=>?_) λ_ _ z=>z;let⟨H5,J5,q5⟩:=hz;let wk:∀{pl:List (Addr×Obj)}{H':Hp}{s':Cc},Inv (blk X T cs scope C s H fp) pl Z H' s'->Inv (blk X T cs scope C s H fp) pl (sgOf σ T cs) H' s':=λJ=>J.weak l4.symm λj v e=>by
    by_cases hj:T.length<=j
    .rw[k4 j hj];exact e
    .exfalso
     unfold sgOf at e;rw[Jw (by simp;lia),Gc]at e;cases q:T[j]? with
     |none=>rw[q]at e;cases e
     |some a=>rw[q]at e;cases e
   let b5:∀{H':Hp}{s':Cc}{Y:St},Inv (blk X T cs scope C s H fp) ([(D,({cls:=.type "list",data:=.seq its.toArray k}:Obj))]++Zbb fp s3.heap) Y H' s'->tn (i+1) s'.heap/\∀b∈fp,H' b=none:=λ{H' s' Y}J=>by
    exists Tn.keep _ _ _ a7 λb B o e=>(J.pin (b,o) (Jp _ (Jp _ (Uf B e)))).1,λb B=>?_;let⟨o,e,d⟩:=Tn.obj _ _ a7 b B;exact(J.pin (b,o) (Jp _ (Jp _ (Uf B e)))).2.1
   cases b with
   |false =>
    rw[D6 Gd]at q5⊢;let⟨m',hm,w5⟩:=hN _ _ q5;let⟨t5,f5⟩:=b5 J5;exists m',hm,i+1,ys,its,k,H5,wk J5.unpinned,rv,t5,f5,w5
   |true =>
    rw[D7 rfl]at q5⊢;refine Jac (he C s H fp _ s5 Z H5 _ J5 q5) (λuy s6 hz=>?_) λ_ _ z=>z;let⟨y,H6,J6,ry,n6⟩:=hz;let⟨m',hm,w6⟩:=hN _ _ n6;let⟨t6,f6⟩:=b5 J6;let⟨eD,nD,_⟩:=J6.pin (D,({cls:=.type "list",data:=.seq its.toArray k}:Obj)) (Jp _ (Gs _ (Je.mpr rfl)));let hsz:its.toArray.size<=Ca:=by rw[Jq,<-rv.length];lia
    refine append_at (hsz:=hsz) eD λh7 sb c5=>?_;let c7:Inv (blk X T cs scope C s H fp) [] Z H6 s6:=J6.pins_of λp hp=>Dx hp (by simp);let J7:Inv (blk X T cs scope C s H fp) [] Z H6 {s6 with heap:=h7}:=c7.turned (t':=s6.toks) (it:=D) (λb o B e=>(sb.2 b B).trans e) nD a3 (.inr (Bz O))
     (λx c e z=>by
      let⟨v,q⟩:=I.cell x c (I.clo S e);exact Dx q.lt (by rw[z,O];exact Bb _))
     (λp hp=>Dx hp (by simp[blk]))
    let c2:h7.get? D=some {cls:=.type "list",data:=.seq (its++[uy]).toArray (k+1)}:=by
     rw[c5,Jem]
    exists m',hm,i+1,ys++[y],its++[uy],k+1,H6,wk (a4 J7 c2 nD),rv.append (.cons ry .nil),Tn.keep _ _ _ t6 λb B o e=>(sb.2 b (Gn (a8 b B))).trans e,f6,w6
 exact codeAny_compStart_list (a5 _) (Tn.self _ 0 _ _ _ a0 (a5 _))
def Zg3(wi:TI)(g:TG)(tt:TT)(te:TE)(T:List Str)(cs:List Nat):TE:=λσ H Q=>wi σ H λJ H1=>∃W:Nat->Nat->List V->Hp->Prop,(∃m,W 0 m [] H1) /\
 ∀i m ys H,W i m ys H->(J.stop i H/\ys.length<=Ca/\∀p,H p=none->Q (.ref p) (upd H p (.lst ys)))\/(J.go i H/\ys.length<Ca/\∃N:List V->Hp->Prop,(∀B H',N B H'->∃G,G<m/\W (i+1) G B H') /\
  ∀x H',J.yld i H x H'->g x (sgOf σ T cs) H' λh Z=>tt h Z λb O=>if b=true then te h O λy Y=>N (ys++[y]) Y else N ys O)
def Yi(hc:X.calm=true)(S:CScope X.env.scope scope X.N T cs)(hi:PI X tg iter wi)(hg:∀C s₀ H₀ ex,PG (blk X T cs scope C s₀ H₀ ex) tg g)(Z:∀C s₀ H₀ ex,PTs (blk X T cs scope C s₀ H₀ ex) ifs tt)(he:∀C s₀ H₀ ex,PE (blk X T cs scope C s₀ H₀ ex) elt te)(hk:Zcc g T.length)(hs:∀x,Md iter X.env x=pure x:=by intro _;rfl):PE X (.ListComp elt [⟨tg,iter,ifs,0⟩] scope pos) (Zg3 wi g tt te T cs):=by
 intro pz s σ H Q I h;rw[eval_ListComp];refine Mg (use:=none) rfl hs (Py (I.hl S)) S.kind S.names (thn (hi pz s σ H _ I h) λv s1 h1=>thn h1 λY s2 h2=>?_);let⟨it,fp,tn,J,H2,e,I2,Tn,st,hf,W,G,turn⟩:=h2;subst e;refine Zby (RR:=λacc C=>compPost (Cn X.prog X.w) X.A X.xe none (EP X pz σ Q) acc C) (Fin:=λys H=>∀p,H p=none->Q (.ref p) (upd H p (.lst ys))) I2 hc S Tn st hf hg Z he hk W G turn ?_;intro D C s' m ys H' q O hn y B I';exists m,hn,λh' sb=>{.ref D,_,I'.turned (t':=s'.toks) (it:=C) (λb o hb e=>(sb.2 b hb).trans e) ?_ y.2.1 y.2.2.2.1 y.2.2.2.2.1 y.2.2.2.2.2,rfl,q D O}
 rw[Zo B];exact y.1
def Vr{i:Nat}{y:Str}{Y G:Pos}(hN:X.N.Nodup)(hy:X.N[i]?=some y)(hl:X.env.scope.names.lookup y=some .local)(hc:X.calm=true)(S:CScope X.env.scope scope X.N T cs)(hi:PI X tg iter wi)(hg:∀C s₀ H₀ ex,PG (blk X T cs scope C s₀ H₀ ex) tg g)(ht:∀C s₀ H₀ ex,PTs (blk X T cs scope C s₀ H₀ ex) ifs tt)(he:∀C s₀ H₀ ex,PE (blk X T cs scope C s₀ H₀ ex) elt te)(hk:Zcc g T.length)(hs:∀x,Md iter X.env x=pure x:=by intro _;rfl)(a1:Ja7 (.ListComp elt [⟨tg,iter,ifs,0⟩] scope pos) (some (.Name y Y)) G.line X.env=pure true:=by rfl):PS X (.Assign [.Name y Y] (.ListComp elt [⟨tg,iter,ifs,0⟩] scope pos) G) (tAsg (Zg3 wi g tt te T cs) (Zdb i)):=by
 intro pz s σ H D I h;rw[exec_Assign_Name_used _ _ _ _ a1];refine D0 (Lf (D0 ?_));show Ck _ X.A (do let _ <-comprehension (.ListComp elt [⟨tg,iter,ifs,0⟩] scope pos) scope X.env _ (newList []) false (eval iter X.env) (some (Jes (.Name y Y) X.env))) _ _ s;refine D0 (Jac (Mg (use:=some (Jes (.Name y Y) X.env)) (Q:=λ_ s'=>SP X pz D .next s') rfl hs (Py (I.hl S)) S.kind S.names
  (thn (hi pz s σ H _ I h) λv s1 h1=>thn h1 λa4 s2 h2=>?_)) (λ_ s' hq=>D1 (D1 hq)) λ_ _ e=>e)
 let⟨it,fp,tn,J,H2,e,I2,Tn,st,hf,W,w0,turn⟩:=h2;subst e;refine Zby (RR:=λacc C=>compPost (Cn X.prog X.w) X.A X.xe (some (Jes (.Name y Y) X.env)) (λ_ s'=>SP X pz D .next s') acc C) (Fin:=λys H=>∀p,H p=none->Zdb i (.ref p) σ (upd H p (.lst ys)) D.nx) I2 hc S Tn st hf hg ht he hk W w0 turn ?_;intro B C s' m ys H' q nB hn O a2 I';show Ck _ X.A (Jes (.Name y Y) X.env (.ref B)) _ _ s';refine Jed (Za0 (v:=.ref B) I' hN hy (.inl hl) rfl (λa0 a3 hz=>?_) (.inr hl));let⟨a,sb,ha⟩:=hz;let nC:C≠a:=by
  rcases ha with z|z
  .rw[z];exact O.2.1
  .exact Hd (O.2.2.2.2.1 y a z)
 exists m,hn.sameBut sb nC,λh' Z=>{_,_,a3.turned (t':=a0.toks) (it:=C) (λb o hb e=>(Z.2 b hb).trans e) ?_ O.2.1 O.2.2.2.1 O.2.2.2.2.1 O.2.2.2.2.2,q B nB};rw[Zo a2];exact O.1
end
theorem U9{J:It}{n:Nat}{g:TG}{tt:TT}{O:St}{F:List V->Hp->Prop}(B:Nat->List V->Hp->Prop)(h0:B 0 [] H1)(hn:∀i ys H,B i ys H->ys.length<=i)(hz:n<=Ca)(Z:∀i ys H,i<n->B i ys H->J.go i H)(hstop:∀ys H,B n ys H->J.stop n H)(hs:∀i ys H,i<n->B i ys H->∀x H',J.yld i H x H'->g x O H' λh H2=>tt h H2 λb Y=>if b=true then te h Y λy H4=>B (i+1) (ys++[y]) H4 else B (i+1) ys Y)(hd:∀ys H,B n ys H->F ys H) :
  ∃W:Nat->Nat->List V->Hp->Prop,(∃m,W 0 m [] H1)/\∀i m ys H,W i m ys H->(J.stop i H/\ys.length<=Ca/\F ys H)\/(J.go i H/\ys.length<Ca/\∃N:List V->Hp->Prop,(∀G H',N G H'->∃m',m'<m/\W (i+1) m' G H') /\
   ∀x H',J.yld i H x H'->g x O H' λh H2=>tt h H2 λb Y=>if b=true then te h Y λy H4=>N (ys++[y]) H4 else N ys Y):=by
 exists λi m ys H=>m=n-i/\i<=n/\B i ys H,⟨n,rfl,Ge _,h0⟩,?_;rintro i m ys H ⟨rfl,hi,p⟩;let hl:=hn i ys H p
 by_cases hlt:i<n
 .exact .inr {Z i ys H hlt p,(),B (i+1),λG H' q=>{n-(i+1),(),rfl,hlt,q},hs i ys H hlt p}
 .let e:i=n:=by lia
  subst e;exact .inl {hstop ys H p,(),hd ys H p}
section
def Zxd(K:Cq):V->V->Hp->VK->Prop:=λo i H Q=>∃p xs k v,o=.ref p/\i=.int ((k:Nat):Int)/\SqL K H p xs/\xs[k]?=some v/\Q v H
theorem Zii:PGet X (Zxd X.K):=by
 intro pz s σ H o i Z iv Q I G J h;let⟨p,xs,k,v,rfl,rfl,Y,hx,q⟩:=h;cases G;let⟨t,rfl⟩:=J;let⟨its,y,pl,hz⟩:=I.list Y;let⟨u,O,B⟩:=y.get hx;let hk:k<xs.length:=(Jg.mp hx).1;let hn:=Pm;exact wpAny_getItem_list pl.isList () () (by simpa using O) ⟨v,H,I,B,q⟩
theorem Vals.bl_get{bs:List Bool}(r:Vals (bs.map V.bl) us){i:Nat}{v:Cb}(e:us[i]?=some v):∃b,bs[i]?=some b/\v=.bool b:=by
 let hi:i<us.length:=(Jg.mp e).1;let hl:=r.length;rw[Ja]at hl;let y:i<bs.length:=by lia
 let G:(bs.map V.bl)[i]?=some (V.bl bs[i]):=by rw[Gc,Jb y];rfl
 let⟨u,h,B⟩:=r.get G;rw[e]at h;cases h;exists bs[i],Jb y,B
def Zvv(bs:List Bool):((Cv bs.length).any λi=>(bs[i]?).getD false)=bs.any id:=by
 rw[Df];simp only[Fm,G0,id]
 constructor
 .rintro⟨i,hi,e⟩;rw[Jb hi]at e;exists _,Js hi,e
 .rintro⟨b,h,e⟩;let⟨i,hi,y⟩:=List.mem_iff_getElem.mp h;exists i,hi,?_;rw[Jb hi,y];exact e
def Zm1(hc:X.calm=true):Wi X (.builtin "any") (λxs H Q=>∃(p:Addr)(bs:List Bool),xs=[.ref p]/\SqL X.K H p (bs.map V.bl)/\Q (.bl (bs.any id)) H):=by
 intro pz s σ H xs us Q I r h;let⟨p,bs,rfl,Y,q⟩:=h;let⟨u,rfl,O⟩:=Rb r;cases O;let⟨its,G,pl,hz⟩:=I.list Y;let y:=G.length;rw[Ja]at y;let B:p<s.heap.objs.size:=by let⟨_,e,_⟩:=pl.isList;exact D4 e
 refine call_any_walk (Ky pl.isList ?_);refine{s.heap.objs.size,[s.heap.objs.size,p],[s.heap.objs.size],its.toArray.size,_,_,λi=>(bs[i]?).getD false,rfl,Walks.list (A:=X.A.in1) (I.ok.hd hc) _ p (Gn B) its.toArray,
  {{_,D3 _ rfl,rfl,rfl},pl.isList.push _},λi v s' Q' E' hP J=>?_,λh' tk Z=>?_}
 .let⟨b,e,rfl⟩:=G.bl_get (by simpa using hP);simp only[e,Mx]at J;exact Ek J
 .rw[Jq,<-y,Zvv];exists .bl (bs.any id),H,I.kept (t':=tk) (Lz Z),rfl,q
def Zm0:Wi X (.builtin "isinstance") (λxs H Q=>∃x T t b,xs=[x,.ty T]/\TyOf X.K H x t/\Jgp X.K t (.type T)=some b/\Q (.bl b) H):=by
 intro pz s σ H xs us Q I r h;let⟨x,T,t,b,rfl,ty,e,q⟩:=h;let⟨u,G,rfl,B,y⟩:=Zo0 r;cases y;exact Zjm I B ty e λtk=>{.bl b,H,I.tok tk,rfl,q}
def rSlS:V->Option Int->Option Int->Hp->VK->Prop:=λx lo hi H Q=>∃z,x=.str z/\z.length<=Ca/\Q (.str (Txt.slice z lo hi)) H
theorem Ztb:SlR X rSlS:=by
 intro pz s σ H x v Y O lo hi sl Q I J hs pl G h;let⟨z,rfl,hz,q⟩:=h;let⟨t,rfl⟩:=J;exists "str",_,F.slot_str_getitem.lookup,Jgb _ _ _,?_;cases pl with
 |none =>
  cases G with
  |none=>exact Ho (l:=none) (u:=none) (st:=none) hs rfl (Lq {Jx (Txt.slice_le z _ _) hz,λt' k=>{.str _,H,I.tok _,{_,rfl},q}})
  |int j y=>exact Ho (l:=none) (u:=some (j,y)) (st:=none) hs rfl (Lq {Jx (Txt.slice_le z _ _) hz,λt' k=>{.str _,H,I.tok _,{_,rfl},q}})
 |int i B =>
  cases G with
  |none=>exact Ho (l:=some (i,B)) (u:=none) (st:=none) hs rfl (Lq {Jx (Txt.slice_le z _ _) hz,λt' k=>{.str _,H,I.tok _,{_,rfl},q}})
  |int j y=>exact Ho (l:=some (i,B)) (u:=some (j,y)) (st:=none) hs rfl (Lq {Jx (Txt.slice_le z _ _) hz,λt' k=>{.str _,H,I.tok _,{_,rfl},q}})
end
mutual
inductive DV(K:Cq)(H:Hp):V->PyData->Prop
 |non:DV K H .non .none
 |bl (b:Bool):DV K H (.bl b) (.bool b)
 |int (i:Int):DV K H (.int i) (.int i)
 |str (x:Str):DV K H (.str x) (.str x)
 |lst {a:Addr} {xs:List V} {ds:List PyData} (h:SqL K H a xs) (r:DVs K H xs ds):DV K H (.ref a) (.list ds)
 |tup {a:Addr} {xs:List V} {ds:List PyData} (h:SqT K H a xs) (r:DVs K H xs ds):DV K H (.ref a) (.tuple ds)
inductive DVs(K:Cq)(H:Hp):List V->List PyData->Prop
 |nil:DVs K H [] []
 |cons {x:V} {d:PyData} {xs:List V} {ds:List PyData} (h:DV K H x d) (r:DVs K H xs ds):DVs K H (x::xs) (d::ds)
end
section
mutual
theorem T7(I:Inv X pz σ H s):∀{x:V}{d:PyData}{u:Cb},DV X.K H x d->RelV x u->∃as,Reads s.heap u d as
 |_,_,u,.non,r=>by obtain rfl:u=Cb.none:=r;exists _,Reads.none
 |_,_,u,.bl b,r=>by obtain rfl:u=Kj b:=r;exists _,Reads.bool b
 |_,_,u,.int i,r=>by let⟨t,rfl⟩:=(show ∃t,u=Li i t from r);exists _,Reads.int i t
 |_,_,u,.str x,r=>by let⟨t,rfl⟩:=(show ∃t,u=Ja3 x t from r);exists _,Reads.str x t
 |_,_,u,.lst (a:=a) h q,r=>by
  obtain rfl:u=Cd a:=r;let⟨its,y,⟨o,n,e,c,d,G⟩,_⟩:=I.list h;let⟨as,B⟩:=dvs_reads I q y;exists _,reads_list_at e c G (by simpa using B)
 |_,_,u,.tup (a:=a) h q,r=>by
  obtain rfl:u=Cd a:=r;let⟨its,y,⟨o,e,c,n,G⟩,_⟩:=I.tuple h;let⟨as,B⟩:=dvs_reads I q y;exists _,reads_tuple_at e c G (by simpa using B)
theorem dvs_reads(I:Inv X pz σ H s):∀{xs:List V}{ds:List PyData}{us:List Cb},DVs X.K H xs ds->Vals xs us->∃as,ReadsAll s.heap us ds as:=by
 intro _ _ _ B y;cases B with
 |nil=>
  cases y with
  |nil=>
   exists _,ReadsAll.nil
 |cons h q=>
  cases y with
  |cons r G=>
   exact by
     let⟨as,J⟩:=T7 I h r;let⟨bs,rb⟩:=dvs_reads I q G;exists _,ReadsAll.cons J rb
end
def rEqD(K:Cq):R2:=λx y H Q=>∃dx h,DV K H x dx/\DV K H y h/\Hy dx=true/\Hy h=true/\Q (.bl (Eo dx h)) H
def rNeD(K:Cq):R2:=λx y H Q=>∃dx h,DV K H x dx/\DV K H y h/\Hy dx=true/\Hy h=true/\Q (.bl (!PyData.eqv dx h)) H
def Zeu(hu:X.A.units+64<Er):OpR X (Ep .Eq) (rEqD X.K):=by
 intro pz s σ H x y v u Q I O J h;let⟨dx,dy,hx,Z,G,B,q⟩:=h;let⟨as,Y⟩:=T7 I hx O;let⟨bs,rb⟩:=T7 I Z J;exact eq_dataH Y rb G B hu {.bl _,H,I,rfl,q}
def Zuf(hu:X.A.units+64<Er):OpR X (Ep .NotEq) (rNeD X.K):=by
 intro pz s σ H x y v u Q I O J h;let⟨dx,dy,hx,Z,G,B,q⟩:=h;let⟨as,Y⟩:=T7 I hx O;let⟨bs,rb⟩:=T7 I Z J;exact ne_dataH Y rb G B hu {.bl _,H,I,rfl,q}
end
theorem Ug :∀ns:List Int,DVs K H (ns.map V.int) (ns.map K1)
 |[]=>.nil
 |n::r=>.cons (.int n) (Ug r)
def Cal(P:Ha)(w:Hz)(K:Cq)(mg:Str->Option Cb)(base:Heap)(x:Str)(k:Nat)(ps:List Str)(sp:Sp):Prop :=
 ∃(f:Addr)(fd:L4),FnOk P w K mg base CX0 k f fd ps sp/\mg x=some (.ref f)/\Jc1 K (.ref f)=true/\Sx K fd ps []
section
variable{x:Str}{k:Nat}{sp:Sp}{e:Expr}{t:TA}{p:Pos}
def Zv(C:Cal X.prog X.w X.K X.mg X.base x k ps sp)(B:Room k X.A)(O:Gl X x)(ha:PA X (e::es) t)(y:(x==("__debug__":Str))=false:=by decide)(Y:Cs (e::es) X.env=(false,eval e X.env)::Cs es X.env:=by rfl)(h:(Kl pos (Cs es X.env)).any (·.1)=false:=by rfl):PE X (.Call (.Name x p) (e::es) [] pos) (Zpo sp [] E0 t):=by
 let⟨f,fd,F,G,J,Z⟩:=C;exact Zqo F B O G J Z .nil Zmb ha y Y h
end
def Grow(p:Addr)(H H':Hp):Prop:=∀b o,H b=some o->b≠p->H' b=some o
def Grow.trans{p:Addr}{h:Hp}(a:Grow p H H1)(b:Grow p H1 h):Grow p H h:=λc o e n=>b c o (a c o e n) n
def Grow.same{p:Addr}(s:Same H H'):Grow p H H':=λb o e _=>s b o e
theorem Grow.free{p:Addr}(g:Grow p H H')(h:H' l=none)(n:l≠p):H l=none:=by
 cases q:H l with
 |none=>rfl
 |some o=>rw[g l o q n]at h;cases h
def Zc{p:Addr}{o:HO}(h:H p=none):Same H (upd H p o):=λb u e=>by rw[Zo (Zx e h)];exact e
structure HandAt(H:Hp)(p a:Addr):Prop where
 ex:∃(d k:Int)(cs:List Int),H p=some (.lst [.int d,.int k,.ref a])/\H a=some (.lst (cs.map V.int))/\cs≠[]/\cs.length<=63/\0<=d/\0<=k/\∀c∈cs,0<=c
theorem HandAt.ne{p a:Addr}(h:HandAt H p a):p≠a:=by
 let⟨d,k,cs,e1,e2,_⟩:=h.ex;refine X5 e1 e2 λz=>?_;injection z with z
 cases cs with
 |nil=>cases z
 |cons c r =>
  rw[Jl]at z;injection z with _ z
  cases r with
  |nil=>cases z
  |cons B r =>
   rw[Jl]at z;injection z with _ z
   cases r with
   |nil=>cases z
   |cons y r=>rw[Jl]at z;injection z with z _;cases z
def HandAt.same{p a:Addr}(h:HandAt H p a)(g:Same H H'):HandAt H' p a:=by
 let⟨d,k,cs,e1,e2,r⟩:=h.ex;exists d,k,cs,g _ _ e1,g _ _ e2,r
def Zeb:Sp:=λvs H Q _=>∃(p a:Addr)(n:Int),vs=[.ref p,.int n]/\HandAt H p a/\0<n/\n<1073741824 /\
 ∀(r:Int)(H':Hp),0<=r->r<n->HandAt H' p a->Grow p H H'->(∀b,b≠p->H' b=H b)->Q (.int r) H'
def Znr(K:Cq):Sp:=λvs H Q _=>∃(s:Addr)(ns:List Int)(i:Int),vs=[.ref s,.int i]/\SqL K H s (ns.map V.int)/\ns.length<=63/\0<=i/\i<2 ^ 60 /\
 ∀(p a:Addr)(H':Hp),H p=none->H a=none->HandAt H' p a->Same H H'->Q (.ref p) H'
theorem Zdp{cs:List Int}(h:cs≠[])(z:Int):∃c,c∈cs/\atI (cs.map V.int) (z % ((cs.map V.int).length:Nat))=some (.int c):=by
 let hl:0<cs.length:=Gj.mpr h;let h0:0<=z % ((cs.map V.int).length:Nat):=Bq _ (by rw[Ja];lia);let h1:z % ((cs.map V.int).length:Nat)<((cs.map V.int).length:Nat):=Be _ (by rw[Ja];lia);generalize z % ((cs.map V.int).length:Nat)=m at h0 h1;rw[Ja]at h1;let y:m.toNat<cs.length:=by lia
 let⟨k,rfl⟩:=Bp h0;let y:k<cs.length:=y;exists cs[k],Js y,Zdq ?_;rw[Gc,Jb y];rfl
def Shp(n:Nat)(d:PyData):Prop:=d.canLay0=true/\d.depth<=n
def Shp.shaped{n:Nat}{d:PyData}(h:Shp n d)(hn:n<=64):Hy d=true:=by
 unfold Hy;rw[h.1,Bool.true_and];exact D8 (Jx h.2 hn)
theorem Zcn{n:Nat}:∀{ds:List PyData},(∀d∈ds,Shp n d)->Mh ds=true/\Jb3 ds<=n
 |[],_=>{by simp only[Mh],by simp only[Jb3];exact Ge _}
 |d::r,h=>by
  let⟨h1,h2⟩:=h d Jh;let⟨h3,h4⟩:=Zcn (n:=n) λx hx=>h x (Jf _ hx);exists by simp only[Mh,h1,h3,Bool.and_self],?_;simp only[Jb3];lia
theorem Zed{n:Nat}{ds:List PyData}(h:∀d∈ds,Shp n d):Shp (n+1) (.list ds):=by
 let⟨h1,h2⟩:=Zcn h;exact{by simp only[Ma,h1],by simp only[Jb4];lia}
theorem Rt{n:Nat}{ds:List PyData}(h:∀d∈ds,Shp n d):Shp (n+1) (.tuple ds):=by
 let⟨h1,h2⟩:=Zcn h;exact{by simp only[Ma,h1],by simp only[Jb4];lia}
def Ng(i:Int):Shp 0 (.int i):={by simp only[Ma],by simp only[Jb4];exact Ji _}
def Zee(ns:List Int):Shp 1 (.list (ns.map K1)):=Zed λd hd=>by
 let⟨i,_,rfl⟩:=Jk.mp hd;exact Ng i
theorem Zrj(ns:List Int):Eo (.list (ns.map K1)) (.list [])=decide (ns=[]):=by
 cases ns with
 |nil=>simp[Eo,C7]
 |cons n r=>simp[Eo,C7]
theorem Zmw(ns:List Int)(lo hi:Option Int):∃ms:List Int,cutV (ns.map V.int) lo hi=ms.map V.int/\ms.length<=ns.length/\∀c∈ms,c∈ns:=by
 exists(ns.drop (HT.sIx (ns.map V.int).length 0 lo)).take (HT.sIx (ns.map V.int).length (ns.map V.int).length hi-HT.sIx (ns.map V.int).length 0 lo),?_,?_,?_
 .unfold cutV;rw[Di,Dp]
 .rw[Jz,Ga];lia
 .intro c h;exact G6 (Gv h)
def Zi{n:Nat}(h:n<=100000):n<=Ca:=Jx h nofun
theorem Zfd{as:List V}{j:Int}(h0:0<=j)(h1:j<=as.length):cutV as (some j) none=as.drop j.toNat:=by
 let⟨m,rfl⟩:=Bp h0;unfold cutV;rw[HT.sIx_nat,HT.sIx_none,Fq (),Gk (by rw[Ga];exact Ji _)];rfl
theorem Zkd{as:List V}{j:Int}(h0:0<=j)(h1:j<=as.length):cutV as none (some j)=as.take j.toNat:=by
 let⟨m,rfl⟩:=Bp h0;unfold cutV;rw[HT.sIx_nat,HT.sIx_none,Fq (),Dl,Jg2];rfl
def HC(H h:Hp)(cl:Addr):Prop:=∃as:List Int,Same H h/\H cl=none/\h cl=some (.lst (as.map V.int))/\as≠[]/\as.length<=63/\∀c∈as,0<=c
theorem spun{as:List Int}(h:as≠[])(i:Int):∃cs:List Int,cutV (as.map V.int) (some (i % ((as.map V.int).length:Nat))) none++cutV (as.map V.int) none (some (i % ((as.map V.int).length:Nat)))=cs.map V.int/\cs≠[]/\cs.length=as.length/\∀c∈cs,c∈as:=by
 let hl:0<as.length:=Gj.mpr h;let h0:0<=i % ((as.map V.int).length:Nat):=Bq _ (by rw[Ja];lia);let h1:i % ((as.map V.int).length:Nat)<((as.map V.int).length:Nat):=Be _ (by rw[Ja];lia);generalize i % ((as.map V.int).length:Nat)=j at h0 h1;rw[Zfd h0 (),Zkd h0 ()];rw[Ja]at h1;exists as.drop j.toNat++as.take j.toNat,by rw[Jj,Dp,Di],?_,?_,?_
 .intro e;let:=congrArg Eu e;rw[Jc,Ga,Jz]at this;simp at this;lia
 .rw[Jc,Ga,Jz];lia
 .intro c y;rcases Jv.mp y with z|z
  .exact G6 z
  .exact Gv z
def Zvi{base:Heap}{x:Str}{k:Nat}{sp:Sp}(F:Fun K x x st f fd)(G:FnOk P w K mg base CX0 k f fd ps sp)(m:mg x=some (.ref f))(b:Sx K fd ps []) :
  Cal P w K mg base x k ps sp:={f,fd,G,m,F.kp,b}
end L2
namespace L2
open PySem
def Zu0{n:Nat}{k:Int}(h0:0<=k)(h1:k<n):ixN n k=some k.toNat:=by
 unfold ixN;rw[D7 h0,D7 h1]
end L2
set_option maxHeartbeats 4000000
namespace L2
open PySem PyProof.Rows
def We:Bool->Cg->Array Cg->Nat->Nat->Nat->StateT Cm Sem (Option Nat):=sortPriv% PySem.Builtin.gallop
def Vd(left:Bool)(h:Cg)(y:Array Cg)(base i:Nat):StateT Cm Sem (Option Bool):=do
 let x <-elem' y (base+i)
 if left then lt' x h else return(<-lt' h x).map (!·)
def Zga(left:Bool)(h:Cg)(y:Array Cg)(base n hint:Nat):We left h y base n hint=(do
 let mut lastofs:=0
 let mut ofs:=1
 let mut lo:=0
 let mut hi:=0
 let some right <-Vd left h y base hint|return none
 if right then
  let maxofs:=n-hint
  for _ in [0:n] do
   if ofs≥maxofs then break
   let some more <-Vd left h y base (hint+ofs)|return none
   if !more then break
   lastofs:=ofs
   ofs:=2*ofs+1
  lo:=hint+lastofs+1
  hi:=hint+min ofs maxofs
 else
  let maxofs:=hint+1
  for _ in [0:n] do
   if ofs≥maxofs then break
   let some found <-Vd left h y base (hint-ofs)|return none
   if found then break
   lastofs:=ofs
   ofs:=2*ofs+1
  lo:=hint+1-min ofs maxofs
  hi:=hint-lastofs
 for _ in [0:n] do
  if lo≥hi then break
  let m:=lo+(hi-lo) / 2
  let some more <-Vd left h y base m|return none
  if more then lo:=m+1 else hi:=m
 return some hi):=rfl
section
variable{M:Jfi}{κ:SortKind}{S:Cg->Prop}{R:Cg->Int}
def LtS(M:Jfi)(A:Kw)(E:Cb->Cc->Prop)(s:Cc)(κ:SortKind)(S:Cg->Prop)(R:Cg->Int):Prop:=∀(x y:Cg)(st:Cm)(Q:Option Bool->Cm->Prop),S x->S y->kindOf st=κ->Q (some (decide (R x<R y))) st->wpS M A E s (lt' x y) Q st
def Z6{y:Array Cg}{i:Nat}{p:Cg}{Q:Cg->Cm->Prop}{st:Cm}(h:y[i]?=some p)(B:Q p st):wpS M A E s (elem' y i) Q st:=by
 rw[elem'_eq,h];exact Cj B
theorem Zfn(Y:LtS M A E s κ S R){y:Cg}{G:Array Cg}{i:Nat}{st:Cm}{Q:Option Bool->Cm->Prop}{x:Cg}(O:S y)(B:kindOf st=κ)(hx:G[base+i]?=some x)(J:S x)(ne:R x≠R y)(h:Q (some (decide (R x<R y))) st):wpS M A E s (Vd left y G base i) Q st:=by
 unfold Vd;refine Ch (Z6 hx ?_);cases left with
 |true=>exact Y _ _ _ _ J O B h
 |false =>
  refine Ch (Y _ _ _ _ O J B (Cj ?_));show Q (some (!decide (R y<R x))) st;rw[show(!decide (R y<R x))=decide (R x<R y)from ?_]
  .exact h
  .by_cases z:R x<R y
   .rw[D8 z,D9 ()];rfl
   .rw[D9 z,D8 ()];rfl
theorem Zfh{O:Cg}{Y:Array Cg}{n:Nat}{st:Cm}{Q:Option Nat->Cm->Prop}{B:Nat->Bool}(mono:∀i j,i<=j->j<n->B j=true->B i=true)(ask:∀{i:Nat}{Q:Option Bool->Cm->Prop},i<n->Q (some (B i)) st->wpS M A E s (Vd left O Y base i) Q st)(fin:∀k,k<=n->(∀i,i<k->B i=true)->(∀i,k<=i->i<n->B i=false)->Q (some k) st){lo hi:Nat}(h1:lo<=hi)(h2:hi<=n)(h3:∀i,i<lo->B i=true)(h4:∀i,hi<=i->i<n->B i=false):wpS M A E s (do
   let mut lo:=lo
   let mut hi:=hi
   for _ in [0:n] do
    if lo≥hi then break
    let m:=lo+(hi-lo) / 2
    let some more <-Vd left O Y base m|return none
    if more then lo:=m+1 else hi:=m
   return some hi) Q st:=by
 refine Ch (Hs (Ea (I:=λx c h=>h=st/\∃l r,c=(none,l,r)/\l<=r/\r<=n/\r-l<=n-x/\(∀i,i<l->B i=true)/\∀i,r<=i->i<n->B i=false) (Q:=λc h=>h=st/\∃r,c=(none,r,r)/\r<=n/\(∀i,i<r->B i=true)/\∀i,r<=i->i<n->B i=false) ?step ?fin ?init) ?post)
 case init=>exact{rfl,lo,hi,rfl,h1,h2,(),h3,h4}
 case fin =>
  rintro c h ⟨rfl,l,r,rfl,a1,J,Z,G,y⟩;let:l=r:=by lia
  subst this;exists rfl,l,rfl,J,G,y
 case step =>
  rintro x c h _ hx ⟨rfl,l,r,rfl,a1,J,Z,G,y⟩;dsimp only
  by_cases hge:l≥r
  .rw[D7 hge];let:l=r:=by lia
   subst this;exact Cj ⟨rfl,l,rfl,J,G,y⟩
  .rw[D6 hge];refine Ch (ask () ?_);cases hb:B (l+(r-l) / 2)with
   |true =>
    simp only[if_true];exact Cj {rfl,_,_,rfl,(),J,(),λi hi=>mono i _ () () hb,y}
   |false =>
    simp only[Gf,if_false];refine Cj {rfl,_,_,rfl,(),(),(),G,λi hi hi2=>?_};cases hq:B i with
    |false=>rfl
    |true=>rw[mono _ i hi hi2 hq]at hb;cases hb
 case post =>
  rintro c h ⟨rfl,r,rfl,J,G,y⟩;exact Cj (fin r J G y)
theorem Se(HL:LtS M A E s κ S R){O:Cg}{J:Array Cg}{n:Nat}{st:Cm}{Q:Option Nat->Cm->Prop}(hk:S O)(a0:kindOf st=κ)(hn:hint<n)(he:∀i,i<n->∃x,J[base+i]?=some x/\S x/\R x≠R O)(hs:∀i j x y,i<j->j<n->J[base+i]?=some x->J[base+j]?=some y->R x<R y)(h:∀k,k<=n->(∀i x,i<k->J[base+i]?=some x->R x<R O)->(∀i x,k<=i->i<n->J[base+i]?=some x->R O<R x)->Q (some k) st):wpS M A E s (We left O J base n hint) Q st:=by
 let' B:Nat->Bool:=λi=>match J[base+i]? with|some x=>decide (R x<R O)|none=>false
 let mono:∀i j,i<=j->j<n->B j=true->B i=true:=λi j a7 hj hb=>by
  rcases Fv i j with z|z
  .let⟨x,ex,_,_⟩:=he i ();let⟨y,ey,_,_⟩:=he j hj;let:=hs i j x y z hj ex ey;simp only[B,ey,ex,decide_eq_true_eq]at hb⊢;lia
  .let:i=j:=by lia
   rw[this];exact hb
 let ask:∀{i:Nat}{Q:Option Bool->Cm->Prop},i<n->Q (some (B i)) st->wpS M A E s (Vd left O J base i) Q st:=λ{i Q}hi hq=>by
  let⟨x,ex,sx,nx⟩:=he i hi;refine Zfn HL hk a0 ex sx nx ?_;simpa only[B,ex]using hq
 let fin:∀k,k<=n->(∀i,i<k->B i=true)->(∀i,k<=i->i<n->B i=false)->Q (some k) st:=λk a6 h1 h2=>h k a6 (λi x hi ex=>by
  let:=h1 i hi;simpa only[B,ex,decide_eq_true_eq]using this) λi x hi hi2 ex=>by
  let:=h2 i hi hi2;let⟨y,ey,_,ny⟩:=he i hi2;rw[ex]at ey;cases ey;simp only[B,ex,decide_eq_false_iff_not]at this;lia
 clear_value B;rw[Zga];refine Ch (ask hn ?_);dsimp only;cases hB:B hint with
 |true =>
  simp only[if_true];refine Ch (Hs (Ea (I:=λx c G=>G=st/\∃l o,c=(none,l,o)/\l<o/\x+1<=o/\hint+l<n/\B (hint+l)=true) (Q:=λc G=>G=st/\∃l o,c=(none,l,o)/\l<o/\hint+l<n/\B (hint+l)=true/\(n-hint<=o\/(hint+o<n/\B (hint+o)=false))) ?step ?fin ?init) ?post)
  case init=>exact⟨rfl,0,1,rfl,nofun,nofun,hn,hB⟩
  case fin =>
   rintro c G ⟨rfl,l,o,rfl,a1,a2,Z,Y⟩;exists rfl,l,o,rfl,a1,Z,Y,.inl ()
  case step =>
   rintro x c G _ hx ⟨rfl,l,o,rfl,a1,a2,Z,Y⟩;dsimp only
   by_cases hge:o≥n-hint
   .rw[D7 hge];exact Cj {rfl,l,o,rfl,a1,Z,Y,.inl hge}
   .rw[D6 hge];refine Ch (ask () ?_);cases hb:B (hint+o)with
    |true =>
     simp only[By,Gf,if_false];exact Cj {rfl,_,_,rfl,(),(),(),hb}
    |false =>
     simp only[Bool.not_false,if_true];exact Cj {rfl,l,o,rfl,a1,Z,Y,.inr {(),hb}}
  case post =>
   rintro c G ⟨rfl,l,o,rfl,a1,Z,Y,a5⟩;refine Zfh mono ask fin ?_ ?_ (λi hi=>mono i (hint+l) (by have hi:i<hint+l+1:=hi;lia) Z Y) λi hi hi2=>?_
   .show hint+l+1<=hint+min o (n-hint);lia
   .show hint+min o (n-hint)<=n;lia
   .let hi:hint+min o (n-hint)<=i:=hi;rcases a5 with z|⟨z1,z2⟩
    .lia
    .cases hq:B i with
     |false=>rfl
     |true=>rw[mono (hint+o) i () hi2 hq]at z2;cases z2
 |false =>
  simp only[Gf,if_false];refine Ch (Hs (Ea (I:=λx c G=>G=st/\∃l o,c=(none,l,o)/\l<o/\x+1<=o/\l<=hint/\B (hint-l)=false) (Q:=λc G=>G=st/\∃l o,c=(none,l,o)/\l<o/\l<=hint/\B (hint-l)=false/\(hint+1<=o\/(o<=hint/\B (hint-o)=true))) ?step2 ?fin2 ?init2) ?post2)
  case init2=>exact⟨rfl,0,1,rfl,nofun,nofun,Ge _,hB⟩
  case fin2 =>
   rintro c G ⟨rfl,l,o,rfl,a1,a2,Z,Y⟩;exists rfl,l,o,rfl,a1,Z,Y,.inl ()
  case step2 =>
   rintro x c G _ hx ⟨rfl,l,o,rfl,a1,a2,Z,Y⟩;dsimp only
   by_cases hge:o≥hint+1
   .rw[D7 hge];exact Cj {rfl,l,o,rfl,a1,Z,Y,.inl hge}
   .rw[D6 hge];refine Ch (ask () ?_);cases hb:B (hint-o)with
    |true =>
     simp only[if_true];exact Cj {rfl,l,o,rfl,a1,Z,Y,.inr {(),hb}}
    |false =>
     simp only[Gf,if_false];exact Cj {rfl,_,_,rfl,(),(),(),hb}
  case post2 =>
   rintro c G ⟨rfl,l,o,rfl,a1,Z,Y,a5⟩;refine Zfh mono ask fin ?_ ?_ (λi hi=>?_) λi hi hi2=>?_
   .show hint+1-min o (hint+1)<=hint-l;lia
   .show hint-l<=n;lia
   .let hi:i<hint+1-min o (hint+1):=hi;rcases a5 with z|⟨z1,z2⟩
    .lia
    .exact mono i (hint-o) () () z2
   .let hi:hint-l<=i:=hi;cases hq:B i with
    |false=>rfl
    |true=>rw[mono (hint-l) i hi hi2 hq]at Y;cases Y
end
def Xk:Nat->StateT Cm Sem Unit:=sortPriv% PySem.Builtin.setMinGallop
abbrev Tq(st:Cm)(g:Nat):Cm:=Cm.mk' (kindOf st) (Ct st) (Cu st) g (Ew st)
def Y9(g:Nat):Xk g=modify λst=>Tq st g:=rfl
def N1:Array Cg->Array Cg->StateT Cm Sem (Array Cg):=sortPriv% PySem.Builtin.mergeLo
abbrev LoSt:=Option (Array Cg)×Array Cg×Nat×Nat×Nat×Nat×Nat
abbrev Vi(a b out:Array Cg)(ia ib:Nat):Array Cg:=out++a.extract ia a.size++b.extract ib b.size
abbrev Pl(a b out:Array Cg)(ia ib:Nat):Array Cg:=out++b.extract ib b.size++a.extract ia a.size
def lo4(a b:Array Cg)(mg ac bc:Nat)(out:Array Cg)(ia ib:Nat):StateT Cm Sem (ForInStep LoSt):=do
 let y <-elem' a ia
 if ia+1+1==a.size then pure (.done (some (Pl a b (out.push y) (ia+1) ib),out.push y,ia+1,ib,mg,ac,bc))
 else if decide (ac<7)&&decide (bc<7)then pure (.done (none,out.push y,ia+1,ib,mg,ac,bc))else pure (.yield (none,out.push y,ia+1,ib,mg,ac,bc))
def lo3(a b:Array Cg)(mg ac h:Nat)(out:Array Cg)(ia ib:Nat):StateT Cm Sem (ForInStep LoSt):=do
 let y <-elem' a ia
 let x <-We true y b ib (b.size-ib) 0
 match x with
 |some k =>
  if k > 0 then
   if ib+k==b.size then pure (.done (some (Vi a b (out++b.extract ib (ib+k)) ia (ib+k)),out++b.extract ib (ib+k),ia,ib+k,mg,ac,k))
   else lo4 a b mg ac k (out++b.extract ib (ib+k)) ia (ib+k)
  else lo4 a b mg ac k out ia ib
 |_=>pure (.done (some (Vi a b out ia ib),out,ia,ib,mg,ac,h))
def lo2(a b:Array Cg)(mg ac h:Nat)(out:Array Cg)(ia ib:Nat):StateT Cm Sem (ForInStep LoSt):=do
 let y <-elem' b ib
 if ib+1==b.size then pure (.done (some (Vi a b (out.push y) ia (ib+1)),out.push y,ia,ib+1,mg,ac,h))
 else lo3 a b mg ac h (out.push y) ia (ib+1)
def lo1(a b:Array Cg)(mg B h:Nat)(out:Array Cg)(ia ib:Nat):StateT Cm Sem (ForInStep LoSt):=do
 Xk mg
 let y <-elem' b ib
 let x <-We false y a ia (a.size-ia) 0
 match x with
 |some k =>
  if k > 0 then
   if ia+k+1==a.size then pure (.done (some (Pl a b (out++a.extract ia (ia+k)) (ia+k) ib),out++a.extract ia (ia+k),ia+k,ib,mg,k,h))
   else if ia+k==a.size then pure (.done (some (Vi a b (out++a.extract ia (ia+k)) (ia+k) ib),out++a.extract ia (ia+k),ia+k,ib,mg,k,h))
   else lo2 a b mg k h (out++a.extract ia (ia+k)) (ia+k) ib
  else lo2 a b mg k h out ia ib
 |_=>pure (.done (some (Vi a b out ia ib),out,ia,ib,mg,B,h))
def loF(a b:Array Cg):Nat->LoSt->StateT Cm Sem (ForInStep LoSt):=λ_ c=>if c.2.2.2.2.1 > 1 then lo1 a b (c.2.2.2.2.1-1) c.2.2.2.2.2.1 c.2.2.2.2.2.2 c.2.1 c.2.2.1 c.2.2.2.1 else lo1 a b c.2.2.2.2.1 c.2.2.2.2.2.1 c.2.2.2.2.2.2 c.2.1 c.2.2.1 c.2.2.2.1
abbrev LoS1:=Option (Array Cg)×Array Cg×Nat×Nat×Nat×Nat
def loG(a b:Array Cg)(mg:Nat):Nat->LoS1->StateT Cm Sem (ForInStep LoS1):=λ_ c=>do
 let x <-elem' b c.2.2.2.1
 let y <-elem' a c.2.2.1
 let z <-lt' x y
 match z with
 |some bWins =>
  if bWins=true then do
   let x <-elem' b c.2.2.2.1
   if c.2.2.2.1+1==b.size then pure (.done (some (Vi a b (c.2.1.push x) c.2.2.1 (c.2.2.2.1+1)),c.2.1.push x,c.2.2.1,c.2.2.2.1+1,0,c.2.2.2.2.2+1))
   else if c.2.2.2.2.2+1≥mg then pure (.done (none,c.2.1.push x,c.2.2.1,c.2.2.2.1+1,0,c.2.2.2.2.2+1))else pure (.yield (none,c.2.1.push x,c.2.2.1,c.2.2.2.1+1,0,c.2.2.2.2.2+1))
  else do
   let y <-elem' a c.2.2.1
   if c.2.2.1+1+1==a.size then pure (.done (some (Pl a b (c.2.1.push y) (c.2.2.1+1) c.2.2.2.1),c.2.1.push y,c.2.2.1+1,c.2.2.2.1,c.2.2.2.2.1+1,0))
   else if c.2.2.2.2.1+1≥mg then pure (.done (none,c.2.1.push y,c.2.2.1+1,c.2.2.2.1,c.2.2.2.2.1+1,0))else pure (.yield (none,c.2.1.push y,c.2.2.1+1,c.2.2.2.1,c.2.2.2.2.1+1,0))
 |_=>pure (.done (some (Vi a b c.2.1 c.2.2.1 c.2.2.2.1),c.2.1,c.2.2.1,c.2.2.2.1,c.2.2.2.2.1,c.2.2.2.2.2))
abbrev LoS0:=Option (Array Cg)×Array Cg×Nat×Nat×Nat
def loH(a b:Array Cg):Nat->LoS0->StateT Cm Sem (ForInStep LoS0):=λ_ c=>do
 let d <-forIn [0:a.size+b.size] ((none,c.2.1,c.2.2.1,c.2.2.2.1,0,0):LoS1) (loG a b c.2.2.2.2)
 match d.1 with
 |some r=>pure (.done (some r,d.2.1,d.2.2.1,d.2.2.2.1,c.2.2.2.2))
 |none=>do
  liftM (rule "list.sort.gallop")
  let e <-forIn [0:a.size+b.size] ((none,d.2.1,d.2.2.1,d.2.2.2.1,c.2.2.2.2+1,d.2.2.2.2.1,d.2.2.2.2.2):LoSt) (loF a b)
  match e.1 with
  |some r=>pure (.done (some r,e.2.1,e.2.2.1,e.2.2.2.1,e.2.2.2.2.1))
  |none=>do
   Xk (e.2.2.2.2.1+1)
   pure (.yield (none,e.2.1,e.2.2.1,e.2.2.2.1,e.2.2.2.2.1+1))
def Zbd(a b:Array Cg):N1 a b=(do
 liftM (rule "list.sort.merge-lo")
 let x <-elem' b 0
 if 1==b.size then pure (Vi a b #[x] 0 1)
 else if 0+1==a.size then pure (Pl a b #[x] 0 1)
 else do
  let st <-get
  let c <-forIn [0:a.size+b.size] ((none,#[x],0,1,gallopOf st):LoS0) (loH a b)
  match c.1 with
  |some r=>pure r
  |none=>liftM (unsupported "internal:list.sort.merge-bound")):=by
 kernel_rfl
section
variable{R:Cg->Int}{la lb:List Cg}
abbrev Up(R:Cg->Int)(l:List Cg):Prop:=l.Pairwise λx y=>R x<R y
structure MI(R:Cg->Int)(la lb:List Cg)(ia ib:Nat)(out:List Cg):Prop where
 al:ia<=la.length
 bl:ib<=lb.length
 pm:out.Perm (la.take ia++lb.take ib)
 pa:Up R (out++la.drop ia)
 pb:Up R (out++lb.drop ib)
def MRes(R:Cg->Int)(la lb r:List Cg):Prop:=r.Perm (la++lb)/\Up R r
def Yx{l m:List Cg}:Up R (l++m)↔Up R l/\Up R m/\∀x∈l,∀y∈m,R x<R y:=Dm
def MI.a{k:Nat}{out:List Cg}(h:MI R la lb ia ib out)(hk:ia+k<=la.length)(hx:∀x∈(la.drop ia).take k,∀y∈lb.drop ib,R x<R y):MI R la lb (ia+k) ib (out++(la.drop ia).take k):=by
 let e:(la.drop ia).take k++la.drop (ia+k)=la.drop ia:=by rw[<-F2,J0]
 let⟨Z,p2,Y⟩:=Yx.mp h.pa;let⟨q1,O,J⟩:=Yx.mp h.pb;exists hk,h.bl,?_,by rw[Jn,e];exact h.pa,?_
 .rw[List.take_add];refine(h.pm.append_right _).trans ?_;rw[Jn,Jn];exact List.Perm.append_left _ G7
 .refine Yx.mpr {Yx.mpr {Z,p2.sublist (B5 _ _),λx hx y B=>Y x hx y (Gv B)},O,λx G y B=>?_};rcases Jv.mp G with z|z
  .exact J x z y B
  .exact hx x z y B
def MI.b{k:Nat}{out:List Cg}(h:MI R la lb ia ib out)(hk:ib+k<=lb.length)(hx:∀y∈(lb.drop ib).take k,∀x∈la.drop ia,R y<R x):MI R la lb ia (ib+k) (out++(lb.drop ib).take k):=by
 let e:(lb.drop ib).take k++lb.drop (ib+k)=lb.drop ib:=by rw[<-F2,J0]
 let⟨Z,p2,Y⟩:=Yx.mp h.pa;let⟨q1,O,J⟩:=Yx.mp h.pb;refine{h.al,hk,?_,?_,by rw[Jn,e];exact h.pb}
 .rw[List.take_add];refine(h.pm.append_right _).trans ?_;rw[Jn]
 .refine Yx.mpr {Yx.mpr {Z,O.sublist (B5 _ _),λx hx y B=>J x hx y (Gv B)},p2,λx G y B=>?_};rcases Jv.mp G with z|z
  .exact Y x z y B
  .exact hx x z y B
def MI.doneB{out:List Cg}(h:MI R la lb ia ib out)(e:ib=lb.length):MRes R la lb (out++la.drop ia++lb.drop ib):=by
 subst e;rw[List.drop_length,Gg];exists(h.pm.append_right _).trans ?_,h.pa;rw[Gb,Jn];refine(List.Perm.append_left _ G7).trans ?_;rw[<-Jn,J0]
def MI.doneA{out:List Cg}(h:MI R la lb ia ib out)(e:ia=la.length):MRes R la lb (out++la.drop ia++lb.drop ib):=by
 subst e;rw[List.drop_length,Gg];exists(h.pm.append_right _).trans ?_,h.pb;rw[Gb,Jn,J0]
def MI.last{out:List Cg}(h:MI R la lb ia ib out)(hl:∀x∈la.drop ia,∀y∈lb.drop ib,R y<R x):MRes R la lb (out++lb.drop ib++la.drop ia):=by
 let⟨J,p2,G⟩:=Yx.mp h.pa;exists ?_,Yx.mpr {h.pb,p2,λx hx y B=>?_}
 .refine((h.pm.append_right _).append_right _).trans ?_;rw[Jn (la.take ia),J0,Jn];refine(List.Perm.append_left _ G7).trans ?_;rw[<-Jn,J0]
 .rcases Jv.mp hx with z|z
  .exact G x z y B
  .exact hl y B x z
def Ty{l:List Cg}{i:Nat}{x:Cg}(h:l[i]?=some x):(l.drop i).take 1=[x]:=by
 let⟨hi,e⟩:=Jg.mp h;rw[Bd hi,e];rfl
def Rs{l:List Cg}{i:Nat}{x:Cg}(u:Up R l)(h:l[i]?=some x):∀y∈l.drop i,R x<=R y:=λy G=>by
 let⟨hi,e⟩:=Jg.mp h;let B:=u.sublist (Fw i l);rw[Bd hi]at B G;rcases J9.mp G with z|z
 .rw[z,e];exact Jdt _
 .rw[e]at B;exact Jg3 ((Fb.mp B).1 y z)
end
section
variable{S:Cg->Prop}{R:Cg->Int}{a b:Array Cg}
def Keep(st h:Cm):Prop:=kindOf h=kindOf st/\Ct h=Ct st/\Cu h=Cu st/\Ew h=Ew st
def Keep.refl(st:Cm):Keep st st:=⟨rfl,rfl,rfl,rfl⟩
def Keep.trans{x y z:Cm}(h:Keep x y)(k:Keep y z):Keep x z:={k.1.trans h.1,k.2.1.trans h.2.1,k.2.2.1.trans h.2.2.1,k.2.2.2.trans h.2.2.2}
def Keep.gal(st:Cm)(g:Nat):Keep st (Tq st g):=⟨rfl,rfl,rfl,rfl⟩
structure Lo(S:Cg->Prop)(R:Cg->Int)(a b:Array Cg):Prop where
 sa:∀x∈a.toList,S x
 sb:∀x∈b.toList,S x
 ua:Up R a.toList
 ub:Up R b.toList
 dj:∀x∈a.toList,∀y∈b.toList,R x≠R y
 ends:∀x,a.toList[a.size-1]?=some x->∀y∈b.toList,R y<R x
def Ph(R:Cg->Int)(a b:Array Cg)(base:Nat)(r:Option (Array Cg))(out:Array Cg)(ia ib:Nat):Prop:=(∃z,r=some z/\MRes R a.toList b.toList z.toList)\/(r=none/\MI R a.toList b.toList ia ib out.toList/\ia+1<a.size/\ib<b.size/\base<=ia+ib)
def Pw(xs:Array Cg)(i:Nat):(xs.extract i xs.size).toList=xs.toList.drop i:=by
 rw[Fx];show((xs.toList.drop i).take (xs.size-i))=_;exact Gk (by rw[Ga,Jm];exact Ji _)
def Zu8(xs:Array Cg)(i k:Nat):(xs.extract i (i+k)).toList=(xs.toList.drop i).take k:=by
 rw[Fx];show((xs.toList.drop i).take (i+k-i))=_;rw[B2]
theorem N4{out:Array Cg}(L:Lo S R a b)(h:MI R a.toList b.toList ia ib out.toList)(e:ia+1=a.size):MRes R a.toList b.toList (Pl a b out ia ib).toList:=by
 unfold Pl;rw[Gr,Gr,Pw,Pw];refine h.last λx hx y B=>?_;let hl:ia<a.toList.length:=by rw[Jm];lia
 rw[Bd hl,F7 (by rw[Jm];lia)]at hx;rw[Je.mp hx];refine L.ends _ ?_ y (G6 B);rw[show a.size-1=ia by lia];exact Jb hl
def Ro{out:Array Cg}(h:MI R a.toList b.toList ia ib out.toList)(e:ib=b.size):MRes R a.toList b.toList (Vi a b out ia ib).toList:=by
 unfold Vi;rw[Gr,Gr,Pw,Pw];exact h.doneB (by rw[Jm];exact e)
def Zmj{out:Array Cg}(h:MI R a.toList b.toList ia ib out.toList)(e:ia=a.size):MRes R a.toList b.toList (Vi a b out ia ib).toList:=by
 unfold Vi;rw[Gr,Gr,Pw,Pw];exact h.doneA (by rw[Jm];exact e)
theorem MI.pushA{out:Array Cg}{x:Cg}(h:MI R a.toList b.toList ia ib out.toList)(hx:a[ia]?=some x)(hl:∀y∈b.toList.drop ib,R x<R y):MI R a.toList b.toList (ia+1) ib (out.push x).toList:=by
 let B:a.toList[ia]?=some x:=by rw[Jt];exact hx
 let:=h.a (k:=1) (by have:=(Jg.mp B).1;lia) (by rw[Ty B];intro z hz;rw[Je.mp hz];exact hl);rw[Ty B]at this;rw[Dj];exact this
theorem MI.pushB{out:Array Cg}{x:Cg}(h:MI R a.toList b.toList ia ib out.toList)(hx:b[ib]?=some x)(hl:∀y∈a.toList.drop ia,R x<R y):MI R a.toList b.toList ia (ib+1) (out.push x).toList:=by
 let B:b.toList[ib]?=some x:=by rw[Jt];exact hx
 let:=h.b (k:=1) (by have:=(Jg.mp B).1;lia) (by rw[Ty B];intro z hz;rw[Je.mp hz];exact hl);rw[Ty B]at this;rw[Dj];exact this
end
section
variable{M:Jfi}{κ:SortKind}{S:Cg->Prop}{R:Cg->Int}{a b:Array Cg}
def Zr5{xs:Array Cg}(u:Up R xs.toList){i:Nat}{x y:Cg}(h:i<j)(hx:xs[i]?=some x)(B:xs[j]?=some y):R x<R y:=by
 rw[<-Jt]at hx B;let⟨h1,e1⟩:=Jg.mp hx;let⟨h2,e2⟩:=Jg.mp B;let:=(Gx.mp u) i j h1 h2 h;rwa [e1,e2]at this
theorem Zjw(HL:LtS M A E s κ S R){B:Cg}{xs:Array Cg}{st:Cm}{Q:Option Nat->Cm->Prop}(Z:S B)(G:kindOf st=κ)(J:∀x∈xs.toList,S x)(u:Up R xs.toList)(dj:∀x∈xs.toList,R x≠R B)(hh:hint<xs.size-base)(h:∀k,base+k<=xs.size->(∀x∈(xs.toList.drop base).take k,R x<R B)->(∀x∈xs.toList.drop (base+k),R B<R x)->Q (some k) st):wpS M A E s (We left B xs base (xs.size-base) hint) Q st:=by
 refine Se HL Z G hh (λi hi=>?_) (λi j x y a0 hj hx O=>Zr5 u () hx O) λk Y h1 h2=>h k () (λx hx=>?_) λx hx=>?_
 .let hl:base+i<xs.size:=by lia
  refine{xs[base+i],Gy hl,J _ ?_,dj _ ?_}<;>simp
 .let⟨i,hi,e⟩:=Gh hx;rw[Jz,Ga,Jm]at hi;refine h1 i x () ?_;rw[Bx,Fy]at e;rw[<-Jt,Jb (by rw[Jm];lia),e]
 .let⟨i,hi,e⟩:=Gh hx;rw[Ga,Jm]at hi;rw[Fy]at e;refine h2 (k+i) x () () ?_;rw[<-Jt,Jb (by rw[Jm];lia)];rw[<-e]
  congr 2
  lia
def Ut{xs:Array Cg}{i:Nat}(h:i<xs.size):∃x,xs[i]?=some x/\x∈xs.toList:={xs[i],Gy h,by simp}
theorem Zgm(L:Lo S R a b){mg:Nat}{out:Array Cg}{st:Cm}{Q:ForInStep LoSt->Cm->Prop}{y:Cg}(h:MI R a.toList b.toList ia ib out.toList)(Z:ia+1<a.size)(Y:ib<b.size)(hbase:base<=ia+ib)(O:a[ia]?=some y)(lt:∀x∈b.toList.drop ib,R y<R x)(q:∀r o i j B J G,Ph R a b base r o i j->Q (.done (r,o,i,j,B,J,G)) st/\(r=none->Q (.yield (r,o,i,j,B,J,G)) st)):wpS M A E s (lo4 a b mg ac bc out ia ib) Q st:=by
 unfold lo4;refine Ch (Z6 O ?_);let h2:=h.pushA O lt
 by_cases e:(ia+1+1==a.size)=true
 .rw[D7 e];exact Cj (q _ _ _ _ _ _ _ (.inl {_,rfl,N4 L h2 (by simpa using e)})).1
 .rw[D6 e];let g:Ph R a b base none (out.push y) (ia+1) ib:=.inr {rfl,h2,by have:¬ ia+1+1=a.size:=(by simpa using e);lia,Y,()}
  split
  .exact Cj (q _ _ _ _ _ _ _ g).1
  .exact Cj ((q _ _ _ _ _ _ _ g).2 rfl)
theorem Zou(HL:LtS M A E s κ S R)(L:Lo S R a b){mg:Nat}{out:Array Cg}{st:Cm}{Q:ForInStep LoSt->Cm->Prop}(Y:kindOf st=κ)(h:MI R a.toList b.toList ia ib out.toList)(ha:ia+1<a.size)(hb:ib<b.size)(hbase:base<=ia+ib)(q:∀r o i j B J G,Ph R a b base r o i j->Q (.done (r,o,i,j,B,J,G)) st/\(r=none->Q (.yield (r,o,i,j,B,J,G)) st)):wpS M A E s (lo3 a b mg ac bc out ia ib) Q st:=by
 unfold lo3;let⟨y,O,Z⟩:=Ut (xs:=a) (i:=ia) ();refine Ch (Z6 O (Ch (Zjw HL (L.sa _ Z) Y L.sb L.ub (λx hx e=>L.dj y Z x hx e.symm) () λk hk h1 h2=>?_)));dsimp only
 by_cases k0:k > 0
 .rw[D7 k0];let h3:=h.b (k:=k) (by rw[Jm];exact hk) λx hx z hz=>by
   let l1:=h1 x hx;let l2:=Rs L.ua (by rw[Jt];exact O) z hz;lia
  rw[<-Zu8,<-Gr]at h3
  by_cases e:(ib+k==b.size)=true
  .rw[D7 e];exact Cj (q _ _ _ _ _ _ _ (.inl {_,rfl,Ro h3 (by simpa using e)})).1
  .rw[D6 e];exact Zgm L h3 ha (by have:¬ ib+k=b.size:=(by simpa using e);lia) () O h2 q
 .rw[D6 k0];let:k=0:=by lia
  subst this;exact Zgm L h ha hb hbase O h2 q
theorem Zgn(HL:LtS M A E s κ S R)(L:Lo S R a b){mg:Nat}{out:Array Cg}{st:Cm}{Q:ForInStep LoSt->Cm->Prop}{y:Cg}(O:kindOf st=κ)(h:MI R a.toList b.toList ia ib out.toList)(Z:ia+1<a.size)(hb:ib<b.size)(hbase:base<=ia+ib)(Y:b[ib]?=some y)(lt:∀x∈a.toList.drop ia,R y<R x)(q:∀r o i j B J G,Ph R a b base r o i j->Q (.done (r,o,i,j,B,J,G)) st/\(r=none->Q (.yield (r,o,i,j,B,J,G)) st)):wpS M A E s (lo2 a b mg ac bc out ia ib) Q st:=by
 unfold lo2;refine Ch (Z6 Y ?_);let h2:=h.pushB Y lt
 by_cases e:(ib+1==b.size)=true
 .rw[D7 e];exact Cj (q _ _ _ _ _ _ _ (.inl {_,rfl,Ro h2 (by simpa using e)})).1
 .rw[D6 e];exact Zou HL L O h2 Z (by have:¬ ib+1=b.size:=(by simpa using e);lia) () q
theorem Zgo(HL:LtS M A E s κ S R)(L:Lo S R a b){mg:Nat}{out:Array Cg}{st:Cm}{Q:ForInStep LoSt->Cm->Prop}(Y:kindOf st=κ)(h:MI R a.toList b.toList ia ib out.toList)(ha:ia+1<a.size)(hb:ib<b.size)(hbase:base<=ia+ib)(q:∀r o i j B J G O,Keep st O->Ph R a b base r o i j->Q (.done (r,o,i,j,B,J,G)) O/\(r=none->Q (.yield (r,o,i,j,B,J,G)) O)):wpS M A E s (lo1 a b mg ac bc out ia ib) Q st:=by
 unfold lo1;rw[Y9];refine Ch (wpS_modify ?_);let Z:=λr o i j B J G=>q r o i j B J G (Tq st mg) (Keep.gal st mg);let⟨y,hy,my⟩:=Ut (xs:=b) (i:=ib) hb;refine Ch (Z6 hy (Ch (Zjw HL (L.sb _ my) Y L.sa L.ua (λx hx=>L.dj x hx y my) () λk hk h1 h2=>?_)));dsimp only
 by_cases k0:k > 0
 .rw[D7 k0];let h3:=h.a (k:=k) (by rw[Jm];exact hk) λx hx z hz=>by
   let l1:=h1 x hx;let l2:=Rs L.ub (by rw[Jt];exact hy) z hz;lia
  rw[<-Zu8,<-Gr]at h3
  by_cases e:(ia+k+1==a.size)=true
  .rw[D7 e];exact Cj (Z _ _ _ _ _ _ _ (.inl {_,rfl,N4 L h3 (by simpa using e)})).1
  .rw[D6 e]
   by_cases e2:(ia+k==a.size)=true
   .rw[D7 e2];exact Cj (Z _ _ _ _ _ _ _ (.inl {_,rfl,Zmj h3 (by simpa using e2)})).1
   .rw[D6 e2];refine Zgn HL L Y h3 ?_ hb () hy h2 Z;let:¬ ia+k+1=a.size:=by simpa using e
    let:¬ ia+k=a.size:=by simpa using e2
    lia
 .rw[D6 k0];let:k=0:=by lia
  subst this;exact Zgn HL L Y h ha hb hbase hy h2 Z
def Zot(HL:LtS M A E s κ S R)(L:Lo S R a b){mg:Nat}{out:Array Cg}{st:Cm}{Q:LoSt->Cm->Prop}(Z:kindOf st=κ)(h:MI R a.toList b.toList ia ib out.toList)(ha:ia+1<a.size)(hb:ib<b.size)(hbase:base<=ia+ib)(q:∀r o i j B J G y,Keep st y->Ph R a b base r o i j->Q (r,o,i,j,B,J,G) y):wpS M A E s (forIn [0:a.size+b.size] ((none,out,ia,ib,mg,ac,bc):LoSt) (loF a b)) Q st:=by
 refine Ea (I:=λ_ c y=>Keep st y/\c.1=none/\Ph R a b base c.1 c.2.1 c.2.2.1 c.2.2.2.1) ?_ ?_ {.refl _,rfl,.inr ⟨rfl,h,ha,hb,hbase⟩}
 .rintro i ⟨r,o,i',j',B,J,G⟩ y _ _ ⟨kp,er,g⟩;let er:r=none:=er;subst er;rcases g with⟨z,ez,_⟩|⟨_,g1,g2,g3,g4⟩
  .cases ez
  .unfold loF;dsimp only
   split
   .exact Zgo HL L (kp.1.trans Z) g1 g2 g3 g4 λr o i j B J G O Y gg=>{q _ _ _ _ _ _ _ _ (kp.trans Y) gg,λe=>{kp.trans Y,e,gg}}
   .exact Zgo HL L (kp.1.trans Z) g1 g2 g3 g4 λr o i j B J G O Y gg=>{q _ _ _ _ _ _ _ _ (kp.trans Y) gg,λe=>{kp.trans Y,e,gg}}
 .rintro⟨r,o,i',j',B,J,G⟩ y ⟨kp,er,g⟩;exact q _ _ _ _ _ _ _ _ kp g
theorem Zos(HL:LtS M A E s κ S R)(L:Lo S R a b){mg:Nat}{out:Array Cg}{st:Cm}{Q:LoS1->Cm->Prop}(a0:kindOf st=κ)(h:MI R a.toList b.toList ia ib out.toList)(ha:ia+1<a.size)(hb:ib<b.size)(hbase:base<=ia+ib)(q:∀r o i j O J,Ph R a b (base+1) r o i j->Q (r,o,i,j,O,J) st):wpS M A E s (forIn [0:a.size+b.size] ((none,out,ia,ib,ac,bc):LoS1) (loG a b mg)) Q st:=by
 refine Ea (I:=λx c B=>B=st/\c.1=none/\Ph R a b (base+min x 1) c.1 c.2.1 c.2.2.1 c.2.2.2.1) ?_ ?_ {rfl,rfl,.inr ⟨rfl,h,ha,hb,hbase⟩}
 .rintro x ⟨r,o,i,j,O,J⟩ B _ _ ⟨rfl,er,g⟩;let er:r=none:=er;subst er;rcases g with⟨z,ez,_⟩|⟨_,Z,Y,G,g4⟩
  .cases ez
  .let g4:base+min x 1<=i+j:=g4;let Z:MI R a.toList b.toList i j o.toList:=Z;let Y:i+1<a.size:=Y;let G:j<b.size:=G;let⟨p,hp,mp⟩:=Ut (xs:=b) (i:=j) G;let⟨y,hy,my⟩:=Ut (xs:=a) (i:=i) ();let pa:=Rs L.ua (i:=i) (by rw[Jt];exact hy);let pb:=Rs L.ub (i:=j) (by rw[Jt];exact hp);let nd:=L.dj y my p mp;unfold loG;refine Ch (Z6 hp (Ch (Z6 hy (Ch (HL _ _ _ _ (L.sb _ mp) (L.sa _ my) a0 ?_)))));dsimp only
   by_cases lt:R p<R y
   .rw[D8 lt,D7 rfl];refine Ch (Z6 hp ?_);let h2:=Z.pushB hp λz hz=>by have:=pa z hz;lia
    by_cases e:(j+1==b.size)=true
    .rw[D7 e];exact Cj (q _ _ _ _ _ _ (.inl {_,rfl,Ro h2 (by simpa using e)}))
    .rw[D6 e];let:¬ j+1=b.size:=by simpa using e
     split
     .exact Cj (q _ _ _ _ _ _ (.inr {rfl,h2,Y,(),()}))
     .exact Cj {rfl,rfl,.inr {rfl,h2,Y,by show j+1<b.size;lia,by show base+min (x+1) 1<=i+(j+1);lia}}
   .rw[D9 lt,D6 nofun];refine Ch (Z6 hy ?_);let h2:=Z.pushA hy λz hz=>by have:=pb z hz;lia
    by_cases e:(i+1+1==a.size)=true
    .rw[D7 e];exact Cj (q _ _ _ _ _ _ (.inl {_,rfl,N4 L h2 (by simpa using e)}))
    .rw[D6 e];let:¬ i+1+1=a.size:=by simpa using e
     split
     .exact Cj (q _ _ _ _ _ _ (.inr {rfl,h2,(),G,()}))
     .exact Cj {rfl,rfl,.inr {rfl,h2,by show i+1+1<a.size;lia,G,by show base+min (x+1) 1<=i+1+j;lia}}
 .rintro⟨r,o,i,j,O,J⟩ B ⟨rfl,er,g⟩;refine q _ _ _ _ _ _ ?_;rcases g with g|⟨g0,Z,Y,G,g4⟩
  .exact .inl g
  .exact .inr {g0,Z,Y,G,by
    let g4:base+min (max 0 (a.size+b.size)) 1<=i+j:=g4;lia}
theorem Zcf(HL:LtS M A E s κ S R)(L:Lo S R a b){st:Cm}{Q:Array Cg->Cm->Prop}(B:kindOf st=κ)(hb:0<b.size)(ha:0<a.size)(h0:∀p,b[0]?=some p->∀x∈a.toList,R p<R x)(q:∀r h,Keep st h->MRes R a.toList b.toList r.toList->Q r h):wpS M A E s (N1 a b) Q st:=by
 rw[Zbd];refine Ch (wpS_lift (Et {rfl,?_}));let⟨p,G,mp⟩:=Ut (xs:=b) (i:=0) hb;refine Ch (Z6 G ?_);let h1:MI R a.toList b.toList 0 1 #[p].toList:=by
  let a2:b.toList[0]?=some p:=by rw[Jt];exact G
  let base:MI R a.toList b.toList 0 0 (#[]:Array Cg).toList:={Ge _,Ge _,.refl _,by simpa using L.ua,by simpa using L.ub};exact base.pushB G (h0 p G)
 by_cases e:(1==b.size)=true
 .rw[D7 e];exact Cj (q _ _ (.refl _) (Ro h1 (by simpa using e)))
 rw[D6 e]
 by_cases e2:(0+1==a.size)=true
 .rw[D7 e2];exact Cj (q _ _ (.refl _) (N4 L h1 (by simpa using e2)))
 rw[D6 e2];let n1:¬ 1=b.size:=by simpa using e
 let n2:¬ 0+1=a.size:=by simpa using e2
 refine Ch (wpS_get ?_);refine Ch (Hs (Ea (I:=λx c h=>Keep st h/\c.1=none/\Ph R a b (x+1) c.1 c.2.1 c.2.2.1 c.2.2.2.1) (Q:=λc h=>Keep st h/\∃r,c.1=some r/\MRes R a.toList b.toList r.toList) ?_ ?_ {.refl _,rfl,.inr {rfl,h1,by show 0+1<a.size;lia,by show 1<b.size;lia,Ji _}}) ?_)
 .rintro x ⟨r,o,i,j,mg⟩ h _ _ ⟨kp,Z,g⟩;let Z:r=none:=Z;subst Z;rcases g with⟨z,y,_⟩|⟨_,g1,Y,O,J⟩
  .cases y
  .unfold loH;refine Ch (Zos HL L (kp.1.trans B) g1 Y O J λr o i j ac bc gg=>?_);rcases gg with⟨z,rfl,hz⟩|⟨rfl,f1,f2,f3,f4⟩
   .exact Cj ⟨kp,z,rfl,hz⟩
   .refine Ch (wpS_lift (Et {rfl,?_}));refine Ch (Zot HL L (kp.1.trans B) f1 f2 f3 f4 λr o i j a1 ac bc a0 k2 gg=>?_);rcases gg with⟨z,rfl,hz⟩|⟨rfl,d1,d2,d3,d4⟩
    .exact Cj {kp.trans k2,z,rfl,hz}
    .dsimp only;rw[Y9];exact Ch (wpS_modify (Cj {(kp.trans k2).trans (Keep.gal _ _),rfl,.inr ⟨rfl,d1,d2,d3,d4⟩}))
 .rintro⟨r,o,i,j,mg⟩ h ⟨kp,Z,g⟩;rcases g with⟨z,y,hz⟩|⟨_,g1,Y,O,J⟩
  .exists kp,z,y,hz
  .let Y:i+1<a.size:=Y;let O:j<b.size:=O;let J:max 0 (a.size+b.size)+1<=i+j:=J;lia
 .rintro⟨r,o,i,j,mg⟩ h ⟨kp,z,y,hz⟩;let y:r=some z:=y;subst y;exact Cj (q _ _ kp hz)
end
def N2:Array Cg->Array Cg->StateT Cm Sem (Array Cg):=sortPriv% PySem.Builtin.mergeHi
abbrev Vj(a b out:Array Cg)(na nb:Nat):Array Cg:=a.extract 0 na++b.extract 0 nb++out.reverse
abbrev Sn(a b out:Array Cg)(na nb:Nat):Array Cg:=b.extract 0 nb++a.extract 0 na++out.reverse
abbrev HiSt:=Option (Array Cg)×Nat×Nat×Array Cg×Nat×Nat×Nat
def hi4(a b:Array Cg)(mg ac bc:Nat)(out:Array Cg)(na nb:Nat):StateT Cm Sem (ForInStep HiSt):=do
 let y <-elem' a (na-1)
 if na-1==0 then pure (.done (some (Vj a b (out.push y) (na-1) nb),na-1,nb,out.push y,mg,ac,bc))
 else if decide (ac<7)&&decide (bc<7)then pure (.done (none,na-1,nb,out.push y,mg,ac,bc))else pure (.yield (none,na-1,nb,out.push y,mg,ac,bc))
def hi3(a b:Array Cg)(mg ac h:Nat)(out:Array Cg)(na nb:Nat):StateT Cm Sem (ForInStep HiSt):=do
 let y <-elem' a (na-1)
 let x <-We true y b 0 nb (nb-1)
 match x with
 |some k =>
  if nb-k > 0 then
   if k==1 then pure (.done (some (Sn a b (out++(b.extract k nb).reverse) na k),na,k,out++(b.extract k nb).reverse,mg,ac,nb-k))
   else if k==0 then pure (.done (some (Vj a b (out++(b.extract k nb).reverse) na k),na,k,out++(b.extract k nb).reverse,mg,ac,nb-k))
   else hi4 a b mg ac (nb-k) (out++(b.extract k nb).reverse) na k
  else hi4 a b mg ac (nb-k) out na nb
 |_=>pure (.done (some (Vj a b out na nb),na,nb,out,mg,ac,h))
def hi2(a b:Array Cg)(mg ac h:Nat)(out:Array Cg)(na nb:Nat):StateT Cm Sem (ForInStep HiSt):=do
 let y <-elem' b (nb-1)
 if nb-1==1 then pure (.done (some (Sn a b (out.push y) na (nb-1)),na,nb-1,out.push y,mg,ac,h))
 else hi3 a b mg ac h (out.push y) na (nb-1)
def hi1(a b:Array Cg)(mg B h:Nat)(out:Array Cg)(na nb:Nat):StateT Cm Sem (ForInStep HiSt):=do
 Xk mg
 let y <-elem' b (nb-1)
 let x <-We false y a 0 na (na-1)
 match x with
 |some k =>
  if na-k > 0 then
   if k==0 then pure (.done (some (Vj a b (out++(a.extract k na).reverse) k nb),k,nb,out++(a.extract k na).reverse,mg,na-k,h))
   else hi2 a b mg (na-k) h (out++(a.extract k na).reverse) k nb
  else hi2 a b mg (na-k) h out na nb
 |_=>pure (.done (some (Vj a b out na nb),na,nb,out,mg,B,h))
def hiF(a b:Array Cg):Nat->HiSt->StateT Cm Sem (ForInStep HiSt):=λ_ c=>if c.2.2.2.2.1 > 1 then hi1 a b (c.2.2.2.2.1-1) c.2.2.2.2.2.1 c.2.2.2.2.2.2 c.2.2.2.1 c.2.1 c.2.2.1 else hi1 a b c.2.2.2.2.1 c.2.2.2.2.2.1 c.2.2.2.2.2.2 c.2.2.2.1 c.2.1 c.2.2.1
abbrev HiS1:=Option (Array Cg)×Nat×Nat×Array Cg×Nat×Nat
def hiG(a b:Array Cg)(mg:Nat):Nat->HiS1->StateT Cm Sem (ForInStep HiS1):=λ_ c=>do
 let x <-elem' b (c.2.2.1-1)
 let y <-elem' a (c.2.1-1)
 let z <-lt' x y
 match z with
 |some aWins =>
  if aWins=true then do
   let x <-elem' a (c.2.1-1)
   if c.2.1-1==0 then pure (.done (some (Vj a b (c.2.2.2.1.push x) (c.2.1-1) c.2.2.1),c.2.1-1,c.2.2.1,c.2.2.2.1.push x,c.2.2.2.2.1+1,0))
   else if c.2.2.2.2.1+1≥mg then pure (.done (none,c.2.1-1,c.2.2.1,c.2.2.2.1.push x,c.2.2.2.2.1+1,0))else pure (.yield (none,c.2.1-1,c.2.2.1,c.2.2.2.1.push x,c.2.2.2.2.1+1,0))
  else do
   let y <-elem' b (c.2.2.1-1)
   if c.2.2.1-1==1 then pure (.done (some (Sn a b (c.2.2.2.1.push y) c.2.1 (c.2.2.1-1)),c.2.1,c.2.2.1-1,c.2.2.2.1.push y,0,c.2.2.2.2.2+1))
   else if c.2.2.2.2.2+1≥mg then pure (.done (none,c.2.1,c.2.2.1-1,c.2.2.2.1.push y,0,c.2.2.2.2.2+1))else pure (.yield (none,c.2.1,c.2.2.1-1,c.2.2.2.1.push y,0,c.2.2.2.2.2+1))
 |_=>pure (.done (some (Vj a b c.2.2.2.1 c.2.1 c.2.2.1),c.2.1,c.2.2.1,c.2.2.2.1,c.2.2.2.2.1,c.2.2.2.2.2))
abbrev HiS0:=Option (Array Cg)×Nat×Nat×Array Cg×Nat
def hiH(a b:Array Cg):Nat->HiS0->StateT Cm Sem (ForInStep HiS0):=λ_ c=>do
 let d <-forIn [0:a.size+b.size] ((none,c.2.1,c.2.2.1,c.2.2.2.1,0,0):HiS1) (hiG a b c.2.2.2.2)
 match d.1 with
 |some r=>pure (.done (some r,d.2.1,d.2.2.1,d.2.2.2.1,c.2.2.2.2))
 |none=>do
  liftM (rule "list.sort.gallop")
  let e <-forIn [0:a.size+b.size] ((none,d.2.1,d.2.2.1,d.2.2.2.1,c.2.2.2.2+1,d.2.2.2.2.1,d.2.2.2.2.2):HiSt) (hiF a b)
  match e.1 with
  |some r=>pure (.done (some r,e.2.1,e.2.2.1,e.2.2.2.1,e.2.2.2.2.1))
  |none=>do
   Xk (e.2.2.2.2.1+1)
   pure (.yield (none,e.2.1,e.2.2.1,e.2.2.2.1,e.2.2.2.2.1+1))
def Zbe(a b:Array Cg):N2 a b=(do
 liftM (rule "list.sort.merge-hi")
 let x <-elem' a (a.size-1)
 if a.size-1==0 then pure (Vj a b #[x] (a.size-1) b.size)
 else if b.size==1 then pure (Sn a b #[x] (a.size-1) b.size)
 else do
  let st <-get
  let c <-forIn [0:a.size+b.size] ((none,a.size-1,b.size,#[x],gallopOf st):HiS0) (hiH a b)
  match c.1 with
  |some r=>pure r
  |none=>liftM (unsupported "internal:list.sort.merge-bound")):=by
 kernel_rfl
section
variable{R:Cg->Int}{la lb:List Cg}
structure MH(R:Cg->Int)(la lb:List Cg)(na nb:Nat)(o:List Cg):Prop where
 al:na<=la.length
 bl:nb<=lb.length
 pm:o.Perm (la.drop na++lb.drop nb)
 pa:Up R (la.take na++o)
 pb:Up R (lb.take nb++o)
def Zd8{l:List Cg}{i n:Nat}(h:i<=n):l.take i++(l.take n).drop i=l.take n:=by
 let:=J0 i (l.take n);rw[List.take_take,Fq h]at this;exact this
theorem Zfc{l:List Cg}{i n:Nat}(h:i<=n):(l.take n).drop i++l.drop n=l.drop i:=by
 rw[Dv];let:=J0 (n-i) (l.drop i);rw[F2,show i+(n-i)=n by lia]at this;exact this
def MH.a{i:Nat}{o:List Cg}(h:MH R la lb na nb o)(hi:i<=na)(hx:∀x∈(la.take na).drop i,∀y∈lb.take nb,R y<R x):MH R la lb i nb ((la.take na).drop i++o):=by
 let⟨Z,p2,Y⟩:=Yx.mp h.pa;let⟨O,q2,J⟩:=Yx.mp h.pb;exists Jx hi h.al,h.bl,?_,by rw[<-Jn,Zd8 hi];exact h.pa,?_
 .refine(h.pm.append_left _).trans ?_;rw[<-Jn,Zfc hi]
 .refine Yx.mpr {O,Yx.mpr {Z.sublist (Fw _ _),p2,λx hx y B=>Y x (G6 hx) y B},λy B x G=>?_};rcases Jv.mp G with z|z
  .exact hx x z y B
  .exact J y B x z
def MH.b{i:Nat}{o:List Cg}(h:MH R la lb na nb o)(hi:i<=nb)(hx:∀y∈(lb.take nb).drop i,∀x∈la.take na,R x<R y):MH R la lb na i ((lb.take nb).drop i++o):=by
 let⟨Z,p2,Y⟩:=Yx.mp h.pa;let⟨O,q2,J⟩:=Yx.mp h.pb;refine{h.al,Jx hi h.bl,?_,?_,by rw[<-Jn,Zd8 hi];exact h.pb}
 .refine(h.pm.append_left _).trans ?_;rw[<-Jn];refine(G7.append_right _).trans ?_;rw[Jn,Zfc hi]
 .refine Yx.mpr {Z,Yx.mpr {O.sublist (Fw _ _),p2,λx hx y B=>J x (G6 hx) y B},λy B x G=>?_};rcases Jv.mp G with z|z
  .exact hx x z y B
  .exact Y y B x z
def MH.doneA{o:List Cg}(h:MH R la lb na nb o)(e:na=0):MRes R la lb (la.take na++lb.take nb++o):=by
 subst e;exists ?_,h.pb;show(lb.take nb++o).Perm _;refine(h.pm.append_left _).trans ?_;rw[Dl,<-Jn];refine(G7.append_right _).trans ?_;rw[Jn,J0]
def MH.doneB{o:List Cg}(h:MH R la lb na nb o)(e:nb=0):MRes R la lb (la.take na++lb.take nb++o):=by
 subst e;rw[B7,Gg];exists ?_,h.pa;refine(h.pm.append_left _).trans ?_;rw[Dl,<-Jn,J0]
def MH.first{o:List Cg}(h:MH R la lb na nb o)(hl:∀y∈lb.take nb,∀x∈la.take na,R y<R x):MRes R la lb (lb.take nb++la.take na++o):=by
 let⟨J,O,G⟩:=Yx.mp h.pb;exists ?_,?_
 .refine(h.pm.append_left _).trans ?_;rw[Jn];refine G7.trans ?_;rw[Jn,Jn];rw[<-Jn (la.take na),J0];refine List.Perm.append_left _ ?_;refine G7.trans ?_;rw[J0]
 .rw[Jn];refine Yx.mpr {J,h.pa,λy B x hx=>?_};rcases Jv.mp hx with z|z
  .exact hl y B x z
  .exact G y B x z
theorem Th{l:List Cg}{n:Nat}{x:Cg}(u:Up R l)(hn:0<n)(h:l[n-1]?=some x):∀y∈l.take n,R y<=R x:=λy B=>by
 let⟨hi,e⟩:=Jg.mp h;let⟨i,hi2,e2⟩:=Gh B;rw[Jz]at hi2;rw[Bx]at e2;rcases Fv i (n-1)with z|z
 .let:=(Gx.mp u) i (n-1) () hi z;rw[e,e2]at this;lia
 .let:i=n-1:=by lia
  subst this;rw[<-e2,e];exact Jdt _
theorem Rl{l:List Cg}{n:Nat}{x:Cg}(hn:0<n)(h:l[n-1]?=some x):(l.take n).drop (n-1)=[x]:=by
 rw[Dv,show n-(n-1)=1 by lia];exact Ty h
end
section
variable{M:Jfi}{κ:SortKind}{S:Cg->Prop}{R:Cg->Int}{a b:Array Cg}
structure Hi(S:Cg->Prop)(R:Cg->Int)(a b:Array Cg):Prop where
 sa:∀x∈a.toList,S x
 sb:∀x∈b.toList,S x
 ua:Up R a.toList
 ub:Up R b.toList
 dj:∀x∈a.toList,∀y∈b.toList,R x≠R y
 begs:∀y,b.toList[0]?=some y->∀x∈a.toList,R y<R x
theorem Zjv(HL:LtS M A E s κ S R){B:Cg}{xs:Array Cg}{n:Nat}{st:Cm}{Q:Option Nat->Cm->Prop}(Z:S B)(G:kindOf st=κ)(O:∀x∈xs.toList,S x)(u:Up R xs.toList)(dj:∀x∈xs.toList,R x≠R B)(hn:n<=xs.size)(hh:hint<n)(h:∀k,k<=n->(∀x∈xs.toList.take k,R x<R B)->(∀x∈(xs.toList.take n).drop k,R B<R x)->Q (some k) st):wpS M A E s (We left B xs 0 n hint) Q st:=by
 refine Se HL Z G hh (λi hi=>?_) (λi j x y a0 hj hx Y=>Zr5 u () hx Y) λk J h1 h2=>h k J (λx hx=>?_) λx hx=>?_
 .let hl:0+i<xs.size:=by lia
  refine{xs[0+i],Gy hl,O _ ?_,dj _ ?_}<;>simp
 .let⟨i,hi,e⟩:=Gh hx;rw[Jz,Jm]at hi;refine h1 i x () ?_;rw[Bx]at e;rw[Bu,<-Jt,Jb (by rw[Jm];lia),e]
 .let⟨i,hi,e⟩:=Gh hx;rw[Ga,Jz,Jm]at hi;rw[Fy,Bx]at e;refine h2 (k+i) x () () ?_;rw[Bu,<-Jt,Jb (by rw[Jm];lia),e]
def Zdw(R:Cg->Int)(a b:Array Cg)(base:Nat)(r:Option (Array Cg))(out:Array Cg)(na nb:Nat):Prop:=(∃z,r=some z/\MRes R a.toList b.toList z.toList)\/(r=none/\MH R a.toList b.toList na nb out.toList.reverse/\0<na/\1<nb/\na+nb+base<=a.size+b.size)
def Zgc(xs:Array Cg)(n:Nat):(xs.extract 0 n).toList=xs.toList.take n:=by
 rw[Fx];show((xs.toList.drop 0).take (n-0))=_;rfl
def Zu7(xs:Array Cg)(i n:Nat):(xs.extract i n).toList=(xs.toList.take n).drop i:=by
 rw[Fx,Dv]
theorem Rp{out:Array Cg}(L:Hi S R a b)(h:MH R a.toList b.toList na nb out.toList.reverse)(e:nb=1):MRes R a.toList b.toList (Sn a b out na nb).toList:=by
 unfold Sn;rw[Gr,Gr,Zgc,Zgc,Dn];refine h.first λy G x hx=>?_;subst e;let⟨i,hi,B⟩:=Gh G;rw[Jz]at hi;let:i=0:=by lia
 subst this;rw[Bx]at B;exact L.begs y (by rw[Jb (),B]) x (Gv hx)
def Rq{out:Array Cg}(h:MH R a.toList b.toList na nb out.toList.reverse)(e:na=0):MRes R a.toList b.toList (Vj a b out na nb).toList:=by
 unfold Vj;rw[Gr,Gr,Zgc,Zgc,Dn];exact h.doneA e
def Zmq{out:Array Cg}(h:MH R a.toList b.toList na nb out.toList.reverse)(e:nb=0):MRes R a.toList b.toList (Vj a b out na nb).toList:=by
 unfold Vj;rw[Gr,Gr,Zgc,Zgc,Dn];exact h.doneB e
theorem MH.pushA{out:Array Cg}{x:Cg}(h:MH R a.toList b.toList na nb out.toList.reverse)(hn:0<na)(hx:a[na-1]?=some x)(hl:∀y∈b.toList.take nb,R y<R x):MH R a.toList b.toList (na-1) nb (out.push x).toList.reverse:=by
 let B:a.toList[na-1]?=some x:=by rw[Jt];exact hx
 let:=h.a (i:=na-1) () (by rw[Rl hn B];intro z hz;rw[Je.mp hz];exact hl);rw[Rl hn B]at this;rw[Dj,List.reverse_append];exact this
theorem MH.pushB{out:Array Cg}{x:Cg}(h:MH R a.toList b.toList na nb out.toList.reverse)(hn:0<nb)(hx:b[nb-1]?=some x)(hl:∀y∈a.toList.take na,R y<R x):MH R a.toList b.toList na (nb-1) (out.push x).toList.reverse:=by
 let B:b.toList[nb-1]?=some x:=by rw[Jt];exact hx
 let:=h.b (i:=nb-1) () (by rw[Rl hn B];intro z hz;rw[Je.mp hz];exact hl);rw[Rl hn B]at this;rw[Dj,List.reverse_append];exact this
def Zh5(out xs:Array Cg):(out++xs.reverse).toList.reverse=xs.toList++out.toList.reverse:=by
 rw[Gr,Dn,List.reverse_append,List.reverse_reverse]
abbrev QH(R:Cg->Int)(a b:Array Cg)(base:Nat)(st:Cm)(Q:ForInStep HiSt->Cm->Prop):Prop:=∀r o i j h B y,Zdw R a b base r o i j->Q (.done (r,i,j,o,h,B,y)) st/\(r=none->Q (.yield (r,i,j,o,h,B,y)) st)
theorem Zgp(L:Hi S R a b){mg:Nat}{out:Array Cg}{st:Cm}{Q:ForInStep HiSt->Cm->Prop}{y:Cg}(h:MH R a.toList b.toList na nb out.toList.reverse)(J:0<na)(G:1<nb)(hbase:na+nb+base<=a.size+b.size)(B:a[na-1]?=some y)(lt:∀x∈b.toList.take nb,R x<R y)(q:QH R a b base st Q):wpS M A E s (hi4 a b mg ac bc out na nb) Q st:=by
 unfold hi4;refine Ch (Z6 B ?_);let h2:=h.pushA J B lt
 by_cases e:(na-1==0)=true
 .rw[D7 e];exact Cj (q _ _ _ _ _ _ _ (.inl {_,rfl,Rq h2 (by simpa using e)})).1
 .rw[D6 e];let g:Zdw R a b base none (out.push y) (na-1) nb:=.inr {rfl,h2,by have:¬ na-1=0:=(by simpa using e);lia,G,()}
  split
  .exact Cj (q _ _ _ _ _ _ _ g).1
  .exact Cj ((q _ _ _ _ _ _ _ g).2 rfl)
theorem Zox(HL:LtS M A E s κ S R)(L:Hi S R a b){mg:Nat}{out:Array Cg}{st:Cm}{Q:ForInStep HiSt->Cm->Prop}(G:kindOf st=κ)(h:MH R a.toList b.toList na nb out.toList.reverse)(J:0<na)(Z:1<nb)(hbase:na+nb+base<=a.size+b.size)(q:QH R a b base st Q):wpS M A E s (hi3 a b mg ac bc out na nb) Q st:=by
 unfold hi3;let al:na<=a.size:=by have:=h.al;rwa [Jm]at this
 let bl:nb<=b.size:=by have:=h.bl;rwa [Jm]at this
 let⟨y,B,O⟩:=Ut (xs:=a) (i:=na-1) ();let Y:=Th L.ua J (by rw[Jt];exact B);refine Ch (Z6 B (Ch (Zjv HL (L.sa _ O) G L.sb L.ub (λx hx e=>L.dj y O x hx e.symm) bl () λk hk h1 h2=>?_)));dsimp only
 by_cases k0:nb-k > 0
 .rw[D7 k0];let h3:=h.b (i:=k) () λx hx z hz=>by
   let l1:=h2 x hx;let l2:=Y z hz;lia
  rw[<-Zu7,<-Zh5]at h3
  by_cases e:(k==1)=true
  .rw[D7 e];exact Cj (q _ _ _ _ _ _ _ (.inl {_,rfl,Rp L h3 (by simpa using e)})).1
  .rw[D6 e]
   by_cases e2:(k==0)=true
   .rw[D7 e2];exact Cj (q _ _ _ _ _ _ _ (.inl {_,rfl,Zmq h3 (by simpa using e2)})).1
   .rw[D6 e2];let:¬ k=1:=by simpa using e
    let:¬ k=0:=by simpa using e2
    exact Zgp L h3 J () () B h1 q
 .rw[D6 k0];let:k=nb:=by lia
  subst this;exact Zgp L h J Z hbase B h1 q
theorem Zgq(O:LtS M A E s κ S R)(L:Hi S R a b){mg:Nat}{out:Array Cg}{st:Cm}{Q:ForInStep HiSt->Cm->Prop}{y:Cg}(B:kindOf st=κ)(h:MH R a.toList b.toList na nb out.toList.reverse)(J:0<na)(Y:1<nb)(hbase:na+nb+base<=a.size+b.size)(G:b[nb-1]?=some y)(lt:∀x∈a.toList.take na,R x<R y)(q:QH R a b base st Q):wpS M A E s (hi2 a b mg ac bc out na nb) Q st:=by
 unfold hi2;refine Ch (Z6 G ?_);let h2:=h.pushB () G lt
 by_cases e:(nb-1==1)=true
 .rw[D7 e];exact Cj (q _ _ _ _ _ _ _ (.inl {_,rfl,Rp L h2 (by simpa using e)})).1
 .rw[D6 e];let:¬ nb-1=1:=by simpa using e
  exact Zox O L B h2 J () () q
theorem Zgr(Y:LtS M A E s κ S R)(L:Hi S R a b){mg:Nat}{out:Array Cg}{st:Cm}{Q:ForInStep HiSt->Cm->Prop}(B:kindOf st=κ)(h:MH R a.toList b.toList na nb out.toList.reverse)(ha:0<na)(hb:1<nb)(hbase:na+nb+base<=a.size+b.size)(q:∀G,Keep st G->QH R a b base G Q):wpS M A E s (hi1 a b mg ac bc out na nb) Q st:=by
 unfold hi1;rw[Y9];refine Ch (wpS_modify ?_);let O:=q (Tq st mg) (Keep.gal st mg);let al:na<=a.size:=by have:=h.al;rwa [Jm]at this
 let bl:nb<=b.size:=by have:=h.bl;rwa [Jm]at this
 let⟨y,J,Z⟩:=Ut (xs:=b) (i:=nb-1) ();let pb:=Th L.ub (n:=nb) () (by rw[Jt];exact J);refine Ch (Z6 J (Ch (Zjv Y (L.sb _ Z) B L.sa L.ua (λx hx=>L.dj x hx y Z) al () λk hk h1 h2=>?_)));dsimp only
 by_cases k0:na-k > 0
 .rw[D7 k0];let h3:=h.a (i:=k) () λx hx z hz=>by
   let l1:=h2 x hx;let l2:=pb z hz;lia
  rw[<-Zu7,<-Zh5]at h3
  by_cases e:(k==0)=true
  .rw[D7 e];exact Cj (O _ _ _ _ _ _ _ (.inl {_,rfl,Rq h3 (by simpa using e)})).1
  .rw[D6 e];let:¬ k=0:=by simpa using e
   exact Zgq Y L B h3 () hb () J h1 O
 .rw[D6 k0];let:k=na:=by lia
  subst this;exact Zgq Y L B h ha hb hbase J h1 O
def Zow(HL:LtS M A E s κ S R)(L:Hi S R a b){mg:Nat}{out:Array Cg}{st:Cm}{Q:HiSt->Cm->Prop}(Z:kindOf st=κ)(h:MH R a.toList b.toList na nb out.toList.reverse)(ha:0<na)(hb:1<nb)(hbase:na+nb+base<=a.size+b.size)(q:∀r o i j B J G y,Keep st y->Zdw R a b base r o i j->Q (r,i,j,o,B,J,G) y):wpS M A E s (forIn [0:a.size+b.size] ((none,na,nb,out,mg,ac,bc):HiSt) (hiF a b)) Q st:=by
 refine Ea (I:=λ_ c y=>Keep st y/\c.1=none/\Zdw R a b base c.1 c.2.2.2.1 c.2.1 c.2.2.1) ?_ ?_ {.refl _,rfl,.inr ⟨rfl,h,ha,hb,hbase⟩}
 .rintro i ⟨r,i',j',o,B,J,G⟩ y _ _ ⟨kp,er,g⟩;let er:r=none:=er;subst er;rcases g with⟨z,ez,_⟩|⟨_,g1,g2,g3,g4⟩
  .cases ez
  .unfold hiF;dsimp only
   split
   .exact Zgr HL L (kp.1.trans Z) g1 g2 g3 g4 λO Y r o i j B J G gg=>{q _ _ _ _ _ _ _ _ (kp.trans Y) gg,λe=>{kp.trans Y,e,gg}}
   .exact Zgr HL L (kp.1.trans Z) g1 g2 g3 g4 λO Y r o i j B J G gg=>{q _ _ _ _ _ _ _ _ (kp.trans Y) gg,λe=>{kp.trans Y,e,gg}}
 .rintro⟨r,i',j',o,B,J,G⟩ y ⟨kp,er,g⟩;exact q _ _ _ _ _ _ _ _ kp g
theorem Zov(HL:LtS M A E s κ S R)(L:Hi S R a b){mg:Nat}{out:Array Cg}{st:Cm}{Q:HiS1->Cm->Prop}(a0:kindOf st=κ)(h:MH R a.toList b.toList na nb out.toList.reverse)(ha:0<na)(hb:1<nb)(hbase:na+nb+base<=a.size+b.size)(q:∀r o i j Y O,Zdw R a b (base+1) r o i j->Q (r,i,j,o,Y,O) st):wpS M A E s (forIn [0:a.size+b.size] ((none,na,nb,out,ac,bc):HiS1) (hiG a b mg)) Q st:=by
 let al:na<=a.size:=by have:=h.al;rwa [Jm]at this
 refine Ea (I:=λx c J=>J=st/\c.1=none/\Zdw R a b (base+min x 1) c.1 c.2.2.2.1 c.2.1 c.2.2.1) ?_ ?_ {rfl,rfl,.inr ⟨rfl,h,ha,hb,hbase⟩}
 .rintro x ⟨r,i,j,o,Y,O⟩ J _ _ ⟨rfl,er,g⟩;let er:r=none:=er;subst er;rcases g with⟨z,ez,_⟩|⟨_,G,B,Z,g4⟩
  .cases ez
  .let g4:i+j+(base+min x 1)<=a.size+b.size:=g4;let G:MH R a.toList b.toList i j o.toList.reverse:=G;let B:0<i:=B;let Z:1<j:=Z;let al:i<=a.size:=by have:=G.al;rwa [Jm]at this
   let bl:j<=b.size:=by have:=G.bl;rwa [Jm]at this
   let⟨p,hp,mp⟩:=Ut (xs:=b) (i:=j-1) ();let⟨y,hy,my⟩:=Ut (xs:=a) (i:=i-1) ();let pa:=Th L.ua (n:=i) B (by rw[Jt];exact hy);let pb:=Th L.ub (n:=j) () (by rw[Jt];exact hp);let nd:=L.dj y my p mp;unfold hiG;refine Ch (Z6 hp (Ch (Z6 hy (Ch (HL _ _ _ _ (L.sb _ mp) (L.sa _ my) a0 ?_)))));dsimp only
   by_cases lt:R p<R y
   .rw[D8 lt,D7 rfl];refine Ch (Z6 hy ?_);let h2:=G.pushA B hy λz hz=>by have:=pb z hz;lia
    by_cases e:(i-1==0)=true
    .rw[D7 e];exact Cj (q _ _ _ _ _ _ (.inl {_,rfl,Rq h2 (by simpa using e)}))
    .rw[D6 e];let:¬ i-1=0:=by simpa using e
     split
     .exact Cj (q _ _ _ _ _ _ (.inr {rfl,h2,(),Z,()}))
     .exact Cj {rfl,rfl,.inr {rfl,h2,by show 0<i-1;lia,Z,by show i-1+j+(base+min (x+1) 1)<=_;lia}}
   .rw[D9 lt,D6 nofun];refine Ch (Z6 hp ?_);let h2:=G.pushB () hp λz hz=>by have:=pa z hz;lia
    by_cases e:(j-1==1)=true
    .rw[D7 e];exact Cj (q _ _ _ _ _ _ (.inl {_,rfl,Rp L h2 (by simpa using e)}))
    .rw[D6 e];let:¬ j-1=1:=by simpa using e
     split
     .exact Cj (q _ _ _ _ _ _ (.inr {rfl,h2,B,(),()}))
     .exact Cj {rfl,rfl,.inr {rfl,h2,B,by show 1<j-1;lia,by show i+(j-1)+(base+min (x+1) 1)<=_;lia}}
 .rintro⟨r,i,j,o,Y,O⟩ J ⟨rfl,er,g⟩;refine q _ _ _ _ _ _ ?_;rcases g with g|⟨g0,G,B,Z,g4⟩
  .exact .inl g
  .exact .inr {g0,G,B,Z,by
    let g4:i+j+(base+min (max 0 (a.size+b.size)) 1)<=a.size+b.size:=g4;lia}
theorem Zcg(HL:LtS M A E s κ S R)(L:Hi S R a b){st:Cm}{Q:Array Cg->Cm->Prop}(G:kindOf st=κ)(hb:0<b.size)(ha:0<a.size)(h0:∀p,a[a.size-1]?=some p->∀x∈b.toList,R x<R p)(q:∀r h,Keep st h->MRes R a.toList b.toList r.toList->Q r h):wpS M A E s (N2 a b) Q st:=by
 rw[Zbe];refine Ch (wpS_lift (Et {rfl,?_}));let⟨p,hp,mp⟩:=Ut (xs:=a) (i:=a.size-1) ();refine Ch (Z6 hp ?_);let h1:MH R a.toList b.toList (a.size-1) b.size #[p].toList.reverse:=by
  let base:MH R a.toList b.toList a.size b.size (#[]:Array Cg).toList.reverse:=by
   let e1:a.toList.take a.size=a.toList:=Gk (by rw[Jm];exact Ji _);let e2:b.toList.take b.size=b.toList:=Gk (by rw[Jm];exact Ji _);let e3:a.toList.drop a.size=[]:=F7 (by rw[Jm];exact Ji _);let e4:b.toList.drop b.size=[]:=F7 (by rw[Jm];exact Ji _);refine{by rw[Jm];exact Ji _,by rw[Jm];exact Ji _,by rw[e3,e4];exact .refl _,by rw[e1];simpa using L.ua,by rw[e2];simpa using L.ub}
  exact base.pushA ha hp λy hy=>h0 p hp y (Gv hy)
 by_cases e:(a.size-1==0)=true
 .rw[D7 e];exact Cj (q _ _ (.refl _) (Rq h1 (by simpa using e)))
 rw[D6 e]
 by_cases e2:(b.size==1)=true
 .rw[D7 e2];exact Cj (q _ _ (.refl _) (Rp L h1 (by simpa using e2)))
 rw[D6 e2];let n1:¬ a.size-1=0:=by simpa using e
 let n2:¬ b.size=1:=by simpa using e2
 refine Ch (wpS_get ?_);refine Ch (Hs (Ea (I:=λx c h=>Keep st h/\c.1=none/\Zdw R a b (x+1) c.1 c.2.2.2.1 c.2.1 c.2.2.1) (Q:=λc h=>Keep st h/\∃r,c.1=some r/\MRes R a.toList b.toList r.toList) ?_ ?_ {.refl _,rfl,.inr {rfl,h1,by show 0<a.size-1;lia,by show 1<b.size;lia,by show a.size-1+b.size+(0+1)<=_;lia}}) ?_)
 .rintro x ⟨r,i,j,o,mg⟩ h _ _ ⟨kp,Z,g⟩;let Z:r=none:=Z;subst Z;rcases g with⟨z,B,_⟩|⟨_,g1,Y,O,J⟩
  .cases B
  .unfold hiH;refine Ch (Zov HL L (kp.1.trans G) g1 Y O J λr o i j ac bc gg=>?_);rcases gg with⟨z,rfl,hz⟩|⟨rfl,f1,f2,f3,f4⟩
   .exact Cj ⟨kp,z,rfl,hz⟩
   .refine Ch (wpS_lift (Et {rfl,?_}));refine Ch (Zow HL L (kp.1.trans G) f1 f2 f3 f4 λr o i j a1 ac bc a0 k2 gg=>?_);rcases gg with⟨z,rfl,hz⟩|⟨rfl,d1,d2,d3,d4⟩
    .exact Cj {kp.trans k2,z,rfl,hz}
    .dsimp only;rw[Y9];exact Ch (wpS_modify (Cj {(kp.trans k2).trans (Keep.gal _ _),rfl,.inr ⟨rfl,d1,d2,d3,d4⟩}))
 .rintro⟨r,i,j,o,mg⟩ h ⟨kp,Z,g⟩;rcases g with⟨z,B,hz⟩|⟨_,g1,Y,O,J⟩
  .exists kp,z,B,hz
  .let Y:0<i:=Y;let O:1<j:=O;let J:i+j+(max 0 (a.size+b.size)+1)<=a.size+b.size:=J;lia
 .rintro⟨r,i,j,o,mg⟩ h ⟨kp,z,B,hz⟩;let B:r=some z:=B;subst B;exact Cj (q _ _ kp hz)
end
def Zc1(i:Nat):mergeAt' i=(do
 let s <-get
 let(some (sa,na,power),some (sb,nb,_)):=((Cu s)[i]?,(Cu s)[i+1]?)|unsupported "internal:list.sort.pending"
 set (setPending s (((Cu s).setIfInBounds i (sa,na+nb,power)).eraseIdxIfInBounds (i+1)))
 let some k <-We false (<-elem' (Ct s) sb) (Ct s) sa na 0|return false
 let(sa,na):=(sa+k,na-k)
 if na==0 then return true
 let some nb <-We true (<-elem' (Ct s) (sa+na-1)) (Ct s) sb nb (nb-1)|return false
 if nb==0 then return true
 let x:=(Ct s).extract sa sb
 let y:=(Ct s).extract sb (sb+nb)
 let merged <-if na<=nb then N1 x y else N2 x y
 modify λs=>setArr s (merged.toList.zipIdx.foldl (λa(p,j)=>a.setIfInBounds (sa+j) p) (Ct s))
 return(Ew (<-get)).isNone):=rfl
theorem Ze0:∀(l:List Cg)(n o:Nat)(h:Array Cg)(P W T:List Cg),h.toList=P++W++T->P.length=o+n->W.length=l.length->((l.zipIdx n).foldl (λa(x:Cg×Nat)=>a.setIfInBounds (o+x.2) x.1) h).toList=P++l++T
 |[],n,o,h,P,W,T,e,hP,hW=>by
  let:W=[]:=G9.mp hW;subst this;exact e
 |x::l,n,o,h,P,[],T,e,hP,hW=>by cases hW
 |x::l,n,o,h,P,w::W,T,e,hP,hW=>by
  rw[List.zipIdx_cons,List.foldl_cons];let e1:(h.setIfInBounds (o+n) x).toList=(P++[x])++W++T:=by
   rw[Array.toList_setIfInBounds,e,<-hP,Jn,Fa _ _ (Ji _),Fj];simp
  let:=Ze0 l (n+1) o _ (P++[x]) W T e1 (by rw[Jc,hP];rfl) (Nat.succ.inj hW);rw[this];simp
section
variable{M:Jfi}{κ:SortKind}{S:Cg->Prop}{R:Cg->Int}
theorem Ru{h:Array Cg}{P X T:List Cg}(e:h.toList=P++X++T){i:Nat}(hi:i<X.length):h[P.length+i]?=some X[i]:=by
 rw[<-Jt,e,Jn,J8 (),B2,Jw hi,Jb hi]
def Zhi{h:Array Cg}{P X T:List Cg}(e:h.toList=P++X++T){o n:Nat}(y:P.length=o)(hn:o+X.length=n):(h.extract o n).toList=X:=by
 rw[Fx,e];show((P++X++T).drop o).take (n-o)=X;rw[<-y,Jn,List.drop_left,<-hn,y,B2,B8]
theorem Zju(HL:LtS M A E s κ S R){B:Cg}{G:Array Cg}{P X T:List Cg}{o n:Nat}{st:Cm}{Q:Option Nat->Cm->Prop}(e:G.toList=P++X++T)(ho:P.length=o)(hn:X.length=n)(hk:S B)(J:kindOf st=κ)(sS:∀x∈X,S x)(u:Up R X)(dj:∀x∈X,R x≠R B)(hh:hint<n)(h:∀k,k<=n->(∀x∈X.take k,R x<R B)->(∀x∈X.drop k,R B<R x)->Q (some k) st):wpS M A E s (We left B G o n hint) Q st:=by
 subst ho;subst hn;refine Se HL hk J hh (λi hi=>{X[i],Ru e hi,sS _ (Js hi),dj _ (Js hi)}) (λi j x y Y hj hx Z=>?_) λk O h1 h2=>h k O (λx hx=>?_) λx hx=>?_
 .rw[Ru e ()]at hx;rw[Ru e hj]at Z;cases hx;cases Z;exact(Gx.mp u) i j () hj Y
 .let⟨i,hi,ex⟩:=Gh hx;rw[Jz]at hi;rw[Bx]at ex;exact h1 i x () (by rw[Ru e (),ex])
 .let⟨i,hi,ex⟩:=Gh hx;rw[Ga]at hi;rw[Fy]at ex;exact h2 (k+i) x () () (by rw[Ru e (),ex])
def Zv8{X:List Cg}(u:Up R X)(h:0<X.length):∀x∈X,R X[0]<=R x:=λx hx=>by
 let:=Rs u (i:=0) (Jb h) x (by rw[Dl];exact hx);exact this
theorem Zv7{X:List Cg}(u:Up R X)(h:0<X.length):∀x∈X,R x<=R (X[X.length-1]'()):=λx hx=>Th u h (Jb ()) x (by rw[Gb];exact hx)
theorem Zch(HL:LtS M A E s κ S R){st:Cm}{i sa pw sb pw2:Nat}{P X Y T:List Cg}{Q:Bool->Cm->Prop}(b1:(Cu st)[i]?=some (sa,na,pw))(a8:(Cu st)[i+1]?=some (sb,nb,pw2))(e:(Ct st).toList=P++X++Y++T)(lP:P.length=sa)(lX:X.length=na)(lY:Y.length=nb)(hb:sb=sa+na)(b2:0<na)(b3:0<nb)(uX:Up R X)(uY:Up R Y)(sX:∀x∈X,S x)(sY:∀x∈Y,S x)(dj:∀x∈X,∀y∈Y,R x≠R y)(J:kindOf st=κ)(hf:Ew st=none)(q:∀B Z,kindOf B=κ->Ew B=none->Cu B=((Cu st).setIfInBounds i (sa,na+nb,pw)).eraseIdxIfInBounds (i+1)->(Ct B).toList=P++Z++T->Z.Perm (X++Y)->Up R Z->Q true B):wpS M A E s (mergeAt' i) Q st:=by
 rw[Zc1];refine Ch (wpS_get ?_);rw[b1,a8];dsimp only;generalize eP:((Cu st).setIfInBounds i (sa,na+nb,pw)).eraseIdxIfInBounds (i+1)=pn at q;let a7:0<X.length:=by lia
 let a0:0<Y.length:=by lia
 let eX:(Ct st).toList=P++X++(Y++T):=by rw[e];simp
 let eY:(Ct st).toList=(P++X)++Y++T:=e;let a2:(P++X).length=sb:=by rw[Jc,lP,lX,hb]
 let aY:(Ct st)[sb]?=some Y[0]:=by
  let:=Ru eY a0;rw[a2,F8]at this;exact this
 let aX:(Ct st)[sb-1]?=some (X[X.length-1]'()):=by
  let:=Ru eX (i:=X.length-1) ();rw[<-this]
  congr 1
  lia
 refine Ch ?_;show wpS M A E s (set _) _ st;let a3:∀{a1:Cm}{Q:PUnit->Cm->Prop},Q ⟨⟩ a1->wpS M A E s (set a1:StateT Cm Sem PUnit) Q st:=λ{a1 Q}h=>by
  unfold wpS;rw[StateT.run_set];exact D1 ⟨rfl,h⟩
 refine a3 ?_;let whole:Up R (X++Y)->Q true (setPending st pn):=λu=>q (setPending st pn) (X++Y) J hf rfl (by rw[show(Ct (setPending st pn)).toList=(Ct st).toList from rfl,e];simp) (.refl _) u;refine Ch (Z6 aY (Ch (Zju HL eX lP lX (sY _ (Js a0)) J sX uX (λx hx=>dj x hx _ (Js a0)) b2 λk hk h1 h2=>?_)));dsimp only;let hd:=Zv8 uY a0;let ls:=Zv7 uX a7
 by_cases e0:(na-k==0)=true
 .rw[D7 e0];let ek:na-k=0:=by simpa using e0
  refine Cj (whole (Yx.mpr {uX,uY,λx hx y G=>?_}));let:=h1 x (by rw[Gk ()];exact hx);let:=hd y G;lia
 rw[D6 e0];let nk:¬ na-k=0:=by simpa using e0
 rw[show sa+k+(na-k)-1=sb-1 by lia];refine Ch (Z6 aX (Ch (Zju HL eY a2 lY (sX _ (Js _)) J sY uY (λy G z=>dj _ (Js _) y G z.symm) () λm hm g1 g2=>?_)));dsimp only
 by_cases e1:(m==0)=true
 .rw[D7 e1];let em:m=0:=by simpa using e1
  subst em;refine Cj (whole (Yx.mpr {uX,uY,λx hx y G=>?_}));let:=g2 y G;let:=ls x hx;lia
 rw[D6 e1];let nm:¬ m=0:=by simpa using e1
 let b5:X=X.take k++X.drop k:=(J0 _ _).symm;let b4:Y=Y.take m++Y.drop m:=(J0 _ _).symm;let e5:(Ct st).toList=(P++X.take k)++X.drop k++(Y++T):=by rw[eX];simp
 let a5:Y++T=Y.take m++(Y.drop m++T):=by rw[<-Jn,J0]
 let e6:(Ct st).toList=(P++X)++Y.take m++(Y.drop m++T):=by rw[eX,a5];simp only[Jn]
 let a4:(P++X.take k).length=sa+k:=by rw[Jc,Jz];lia
 let ex:((Ct st).extract (sa+k) sb).toList=X.drop k:=Zhi e5 a4 (by rw[Ga];lia);let O:((Ct st).extract sb (sb+m)).toList=Y.take m:=Zhi e6 a2 (by rw[Jz];lia);let sx:((Ct st).extract (sa+k) sb).size=X.length-k:=by rw[<-Jm,ex,Ga]
 let sy:((Ct st).extract sb (sb+m)).size=m:=by rw[<-Jm,O,Jz];lia
 let lastX:(X.drop k)[X.length-k-1]?=some (X[X.length-1]'()):=by
  rw[List.getElem?_drop,Jb ()]
  congr 2
  lia
 let firstY:(Y.take m)[0]?=some Y[0]:=by
  rw[Km (),Jb a0]
 let fin:∀(r:Array Cg)(B:Cm),Keep (setPending st pn) B->MRes R (X.drop k) (Y.take m) r.toList->wpS M A E s (do
   modify λs=>setArr s (r.toList.zipIdx.foldl (λa(p,j)=>a.setIfInBounds (sa+k+j) p) (Ct s))
   return(Ew (<-get)).isNone) Q B:=λr B kp⟨rp,ru⟩=>by
  refine Ch (wpS_modify (Ch (wpS_get (Cj ?_))));rw[show Ew (setArr B _)=Ew B from rfl,kp.2.2.2,show Ew (setPending st pn)=Ew st from rfl,hf];let ea:(Ct B).toList=(P++X.take k)++(X.drop k++Y.take m)++(Y.drop m++T):=by
   rw[kp.2.1,show Ct (setPending st pn)=Ct st from rfl,e5,a5];simp only[Jn]
  let lb:=Ze0 r.toList 0 (sa+k) (Ct B) (P++X.take k) (X.drop k++Y.take m) (Y.drop m++T) ea a4 rp.length_eq.symm;refine q _ (X.take k++r.toList++Y.drop m) (kp.1.trans J) (by rw[show Ew (setArr B _)=Ew B from rfl,kp.2.2.2];exact hf) (by rw[show Cu (setArr B _)=Cu B from rfl,kp.2.2.1]) ?_ ?_ ?_
  .refine Eq.trans lb ?_;simp
  .refine((rp.append_left _).append_right _).trans ?_;rw[<-Jn,J0,Jn,J0]
  .let mem:∀z∈r.toList,z∈X.drop k\/z∈Y.take m:=λz hz=>Jv.mp (rp.mem_iff.mp hz);refine Yx.mpr {Yx.mpr {uX.sublist (B5 _ _),ru,λx hx z hz=>?_},uY.sublist (Fw _ _),λx hx y G=>?_}
   .let l1:=h1 x hx;rcases mem z hz with q'|q'
    .let:=h2 z q';lia
    .let:=hd z (Gv q');lia
   .let l2:=g2 y G;rcases Jv.mp hx with q'|q'
    .let:=ls x (Gv q');lia
    .rcases mem x q' with q'|q'
     .let:=ls x (G6 q');lia
     .let:=g1 x q';lia
 let a6:∀x∈X.drop k,∀y∈Y.take m,R x≠R y:=λx hx y G=>dj x (G6 hx) y (Gv G)
 split
 .refine Ch (Zcf HL {λx hx=>sX x (G6 (by rwa [ex]at hx)),λx hx=>sY x (Gv (by rwa [O]at hx)),by rw[ex];exact uX.sublist (Fw _ _),by rw[O];exact uY.sublist (B5 _ _),by rw[ex,O];exact a6,λx hx y G=>?_} J () () (λp hp x hx=>?_) λr B kp hr=>fin r B kp (by rw[ex,O]at hr;exact hr))
  .rw[ex,sx,lastX]at hx;cases hx;rw[O]at G;exact g1 y G
  .rw[<-Jt,O,firstY]at hp;cases hp;rw[ex]at hx;exact h2 x hx
 .refine Ch (Zcg HL {λx hx=>sX x (G6 (by rwa [ex]at hx)),λx hx=>sY x (Gv (by rwa [O]at hx)),by rw[ex];exact uX.sublist (Fw _ _),by rw[O];exact uY.sublist (B5 _ _),by rw[ex,O];exact a6,λy G x hx=>?_} J () () (λp hp x hx=>?_) λr B kp hr=>fin r B kp (by rw[ex,O]at hr;exact hr))
  .rw[O,firstY]at G;cases G;rw[ex]at hx;exact h2 x hx
  .rw[<-Jt,ex,sx,lastX]at hp;cases hp;rw[O]at hx;exact g1 x hx
end
section
variable{M:Jfi}{κ:SortKind}{S:Cg->Prop}{R:Cg->Int}{N:Nat}
def rkA(R:Cg->Int)(xs:Array Cg)(i:Nat):Int:=match xs[i]? with|some x=>R x|none=>0
structure B0(κ:SortKind)(S:Cg->Prop)(R:Cg->Int)(N:Nat)(st:Cm):Prop where
 kind:kindOf st=κ
 fail:Ew st=none
 size:(Ct st).size=N
 s:∀x∈(Ct st).toList,S x
 nd:((Ct st).toList.map R).Nodup
def B0.at{st:Cm}(B:B0 κ S R N st){i:Nat}(hi:i<N):∃x,(Ct st)[i]?=some x/\S x/\R x=rkA R (Ct st) i:=by
 let h:i<(Ct st).size:=by rw[B.size];exact hi
 let e:(Ct st)[i]?=some (Ct st)[i]:=Gy h;exists(Ct st)[i],e,B.s _ (by simp),?_;unfold rkA;rw[e]
theorem B0.ne{st:Cm}(B:B0 κ S R N st){i:Nat}(hi:i<N)(hj:j<N)(h:i≠j):rkA R (Ct st) i≠rkA R (Ct st) j:=λz=>by
 let⟨x,ex,_,O⟩:=B.at hi;let⟨y,G,_,J⟩:=B.at hj;rw[<-O,<-J]at z;let sz:=B.size;let Z:i<((Ct st).toList.map R).length:=by simp;lia
 let Y:j<((Ct st).toList.map R).length:=by simp;lia
 rw[<-Jt]at ex G;let⟨_,e1⟩:=Jg.mp ex;let⟨_,e2⟩:=Jg.mp G;exact h ((Bh (h₀:=Z) (h₁:=Y) B.nd).mp (by rw[Bv,Bv,e1,e2,z]))
def B0.perm{st:Cm}(B:B0 κ S R N st){xs:Array Cg}(p:xs.Perm (Ct st)):B0 κ S R N (setArr st xs):=by
 let pl:=G3.mp p;exists B.kind,B.fail,by show xs.size=N;rw[<-B.size];exact p.size_eq,λx hx=>B.s x (pl.mem_iff.mp hx),(pl.map R).nodup_iff.mpr B.nd
def Rr(HL:LtS M A E s κ S R){st:Cm}{i:Nat}{Q:Option Bool->Cm->Prop}(B:B0 κ S R N st)(hi:i<N)(Z:j<N)(h:Q (some (decide (rkA R (Ct st) i<rkA R (Ct st) j))) st):wpS M A E s (ltAt' i j) Q st:=by
 let⟨x,ex,J,Y⟩:=B.at hi;let⟨y,ey,G,O⟩:=B.at Z;rw[ltAt'_eq];refine Ch (wpS_get (Ch (Z6 ex (Ch (Z6 ey (HL _ _ _ _ J G B.kind ?_))))));rw[Y,O];exact h
def Uk(R:Cg->Int)(xs:Array Cg)(lo n:Nat):Prop:=∀i j,lo<=i->i<j->j<lo+n->rkA R xs i<rkA R xs j
theorem Uk.more{xs:Array Cg}{lo n:Nat}(h:Uk R xs lo n)(h1:1<=n)(l:rkA R xs (lo+n-1)<rkA R xs (lo+n)):Uk R xs lo (n+1):=λi j hi B G=>by
 rcases Fv j (lo+n)with z|z
 .exact h i j hi B z
 .let:j=lo+n:=by lia
  subst this;rcases Fv i (lo+n-1)with y|y
  .exact Int.lt_trans (h i (lo+n-1) hi y ()) l
  .let:i=lo+n-1:=by lia
   subst this;exact l
theorem Zfj(J:LtS M A E s κ S R){st:Cm}{lo h a:Nat}{Q:Option (Option Nat)×Nat->Cm->Prop}(B:B0 κ S R N st)(Y:lo+h=N)(h1:1<=a)(O:a<=h)(G:Uk R (Ct st) lo a)(q:∀n,a<=n->n<=h->Uk R (Ct st) lo n->(n=h\/(n<h/\rkA R (Ct st) (lo+n)<rkA R (Ct st) (lo+n-1)))->Q (none,n) st) :
  wpS M A E s (forIn [a:h] ((none,a):Option (Option Nat)×Nat) λ_ __s=>do
   let __x <-ltAt' (lo+__s.snd) (lo+__s.snd-1)
   match __x with
   |some smaller=>if smaller=true then pure (ForInStep.done (none,__s.snd))else pure (Ei (none,__s.snd+1))
   |_=>pure (ForInStep.done (some none,__s.snd))) Q st:=by
 refine Ea (I:=λx c y=>y=st/\∃n,c=(none,n)/\n=x/\Uk R (Ct st) lo n) ?_ ?_ ⟨rfl,a,rfl,rfl,G⟩
 .rintro x c y hx hx2 ⟨rfl,n,rfl,rfl,G⟩;dsimp only;refine Ch (Rr J B () () ?_)
  by_cases l:rkA R (Ct y) (lo+n)<rkA R (Ct y) (lo+n-1)
  .simp only[l,decide_true,if_true];exact Cj (q n hx () G (.inr ⟨hx2,l⟩))
  .simp only[l,decide_false,Gf,if_false];let ne:=B.ne (i:=lo+n) (j:=lo+n-1) () () ();exact Cj {rfl,_,rfl,rfl,G.more () ()}
 .rintro c y ⟨rfl,n,rfl,e,G⟩;exact q n () () G (.inl ())
def Zh2{xs:Array Cg}{i:Nat}(y:j<=xs.size)(k:Nat):rkA R (mirror xs i j ((j-i) / 2)) k=if i<=k/\k<j then rkA R xs (i+j-1-k)else rkA R xs k:=by
 unfold rkA;rw[getElem?_mirror_all y]
 by_cases h:i<=k/\k<j
 .rw[D7 h,D7 h]
 .rw[D6 h,D6 h]
theorem Zat(HL:LtS M A E s κ S R){st:Cm}{lo G:Nat}{Q:Option Nat->Cm->Prop}(B:B0 κ S R N st)(hN:lo+G=N)(h1:1<=G)(q:∀xs n,1<=n->n<=G->xs.Perm (Ct st)->(∀k,k<lo->xs[k]?=(Ct st)[k]?)->Uk R xs lo n->Q (some n) (setArr st xs)):wpS M A E s (countRun' lo G) Q st:=by
 rw[countRun'_eq];dsimp only;let q0:∀n,1<=n->n<=G->Uk R (Ct st) lo n->Q (some n) st:=λn a1 Z Y=>q (Ct st) n a1 Z (Array.Perm.refl _) (λ_ _=>rfl) Y;refine Ch (Hs (Zfj HL B hN (Ji 1) h1 (λi j hi O hj=>Dx hj ()) (Q:=λc J=>J=st/\∃n,c=(none,n)/\1<=n/\n<=G/\Uk R (Ct st) lo n/\(n=G\/(n<G/\rkA R (Ct st) (lo+n)<rkA R (Ct st) (lo+n-1)))) λn a1 Z Y a4=>⟨rfl,n,rfl,a1,Z,Y,a4⟩) ?_);rintro c J ⟨rfl,n,rfl,a1,Z,Y,a4⟩;dsimp only
 by_cases e:(n==G)=true
 .rw[D7 e];exact Cj (q0 n a1 Z Y)
 rw[D6 e];let ne:¬ n=G:=by simpa using e
 let a6:=(a4.resolve_left ne).2
 by_cases n1:n > 1
 .rw[D7 n1];refine Ch (Rr HL B () () ?_);rw[D8 (Y lo (lo+n-1) (Ji _) () ())];exact Cj (q0 n a1 Z Y)
 rw[D6 n1];let e1:n=1:=by lia
 subst e1;refine Ch (wpS_lift (Et {rfl,?_}));refine Ch (Hs (Ea (I:=λx c h=>h=J/\c=(none,x,0)/\∀i j,lo<=i->i<j->j<lo+x->rkA R (Ct J) j<rkA R (Ct J) i) (Q:=λc h=>h=J/\∃n,c=(none,n,0)/\2<=n/\n<=G/\∀i j,lo<=i->i<j->j<lo+n->rkA R (Ct J) j<rkA R (Ct J) i) ?step ?fin ?init) ?post)
 case init =>
  exists rfl,rfl,λi j hi O hj=>?_;let:i=lo:=by lia
  let:j=lo+1:=by lia
  subst i;subst j;exact a6
 case fin =>
  rintro c h ⟨rfl,rfl,hd⟩;exists rfl,·,(),(),hd
 case step =>
  rintro x c h hx hx2 ⟨rfl,rfl,hd⟩;dsimp only;refine Ch (Rr HL B () () ?_)
  by_cases l:rkA R (Ct h) (lo+x)<rkA R (Ct h) (lo+x-1)
  .simp only[l,decide_true,if_true,Bb,gt_iff_lt,if_false];refine Cj {rfl,rfl,λi j hi O hj=>?_};rcases Fv j (lo+x)with z|z
   .exact hd i j hi O z
   .let:j=lo+x:=by lia
    subst this;rcases Fv i (lo+x-1)with y|y
    .exact Int.lt_trans l (hd i (lo+x-1) hi y ())
    .let:i=lo+x-1:=by lia
     subst this;exact l
  .simp only[l,decide_false,Gf,if_false];let ne:=B.ne (i:=lo+x) (j:=lo+x-1) () () ();refine Ch (Rr HL B () () ?_);rw[D8 (show rkA R (Ct h) (lo+x-1)<rkA R (Ct h) (lo+x)by lia)];exact Cj {rfl,x,rfl,(),(),hd}
 case post =>
  rintro c h ⟨rfl,n,rfl,b1,b2,hd⟩;dsimp only;rw[D6 nofun,reverseSlice'_eq];refine Ch (wpS_modify ?_);let sz:=B.size;let Bm:=B.perm (mirror_perm (Ct h) lo (lo+n) ((lo+n-lo) / 2));let rm:=λk=>Zh2 (R:=R) (xs:=Ct h) (i:=lo) (j:=lo+n) () k;let a5:∀k,k<lo->(mirror (Ct h) lo (lo+n) ((lo+n-lo) / 2))[k]?=(Ct h)[k]?:=λk hk=>by
   rw[getElem?_mirror_all (),D6 ()]
  let pm:=mirror_perm (Ct h) lo (lo+n) ((lo+n-lo) / 2);generalize mirror (Ct h) lo (lo+n) ((lo+n-lo) / 2)=xs at Bm rm a5 pm;let su:Uk R xs lo n:=λi j hi O hj=>by
   rw[rm,rm,D7 (),D7 ()];exact hd _ _ () () ()
  refine Ch (Hs (Zfj HL Bm hN () b2 su (Q:=λc a0=>a0=setArr h xs/\∃n,c=(none,n)/\1<=n/\n<=G/\Uk R xs lo n) λn a1 Z Y a4=>{rfl,n,rfl,(),Z,Y}) ?_);rintro c a0 ⟨rfl,n',rfl,c1,c2,c3⟩;exact Cj (q xs n' c1 c2 pm a5 c3)
def Zh3{xs:Array Cg}{src d:Nat}(hs:src<xs.size)(hd:d<=src)(k:Nat):rkA R (bubble xs src d) k=if k=src-d then rkA R xs src else if src-d<k/\k<=src then rkA R xs (k-1)else rkA R xs k:=by
 unfold rkA;rw[getElem?_bubble hs d hd]
 by_cases h:k=src-d
 .rw[D7 h,D7 h]
 .rw[D6 h,D6 h]
  by_cases h2:src-d<k/\k<=src
  .rw[D7 h2,D7 h2]
  .rw[D6 h2,D6 h2]
theorem Zfm(HL:LtS M A E s κ S R){st:Cm}{lo n ok:Nat}{Q:Bool->Cm->Prop}(B:B0 κ S R N st)(hN:lo+n<=N)(h1:1<=n)(a0:ok<=n)(G:Uk R (Ct st) lo ok)(q:∀xs,xs.Perm (Ct st)->(∀k,k<lo->xs[k]?=(Ct st)[k]?)->Uk R xs lo n->Q true (setArr st xs)):wpS M A E s (binarySort' lo n ok) Q st:=by
 rw[binarySort'_eq];refine Ch (Hs (Ea (I:=λk c y=>c=(none,PUnit.unit)/\∃xs,y=setArr st xs/\xs.Perm (Ct st)/\(∀k,k<lo->xs[k]?=(Ct st)[k]?)/\Uk R xs lo (min k n)) (Q:=λc y=>c=(none,PUnit.unit)/\∃xs,y=setArr st xs/\xs.Perm (Ct st)/\(∀k,k<lo->xs[k]?=(Ct st)[k]?)/\Uk R xs lo n) ?step ?fin ?init) ?post)
 case init =>
  exists rfl,Ct st,rfl,Array.Perm.refl _,λ_ _=>rfl,λi j hi Z hj=>?_
  by_cases z:ok=0
  .lia
  .exact G i j hi Z ()
 case fin =>
  rintro c y ⟨rfl,xs,rfl,p,Y,G⟩;rw[show min (max (max ok 1) n) n=n by lia]at G;exists rfl,xs,rfl,p,Y,G
 case post =>
  rintro c y ⟨rfl,xs,rfl,p,Y,G⟩;exact Cj (q xs p Y G)
 case step =>
  rintro k c y hk a6 ⟨rfl,xs,rfl,p,Y,G⟩;rw[show min k n=k by lia]at G;let B':=B.perm p;let sz:xs.size=N:=B'.size;refine Ch (Hs (Ea (I:=λx c h=>h=setArr st xs/\∃l r,c=(none,l,r)/\l<=r/\r<=k/\r-l<=k-x/\(∀i,i<l->rkA R xs (lo+i)<rkA R xs (lo+k))/\∀i,r<=i->i<k->rkA R xs (lo+k)<rkA R xs (lo+i)) (Q:=λc h=>h=setArr st xs/\∃l,c=(none,l,l)/\l<=k/\(∀i,i<l->rkA R xs (lo+i)<rkA R xs (lo+k))/\∀i,l<=i->i<k->rkA R xs (lo+k)<rkA R xs (lo+i)) ?istep ?ifin ?iinit) ?ipost)
  case iinit=>exact{rfl,0,k,rfl,Ge _,Ji _,Ji _,λi hi=>Dx hi (Bg _),λi a b=>by lia}
  case ifin =>
   rintro c h ⟨rfl,l,r,rfl,a1,a2,a3,O,J⟩;let:l=r:=by lia
   subst this;exists rfl,l,rfl,a2,O,J
  case istep =>
   rintro x c h _ hx ⟨rfl,l,r,rfl,a1,a2,a3,O,J⟩;dsimp only
   by_cases hge:l≥r
   .rw[D7 hge];let:l=r:=by lia
    subst this;exact Cj ⟨rfl,l,rfl,a2,O,J⟩
   .rw[D6 hge];refine Ch (Rr HL B' () () ?_)
    by_cases l2:rkA R xs (lo+k)<rkA R xs (lo+(l+r) / 2)
    .simp only[l2,decide_true,if_true];refine Cj {rfl,l,(l+r) / 2,rfl,(),(),(),O,λi b1 b2=>?_};rcases Fv ((l+r) / 2) i with z|z
     .exact Int.lt_trans l2 (G _ _ () () ())
     .let:i=(l+r) / 2:=by lia
      subst this;exact l2
    .simp only[l2,decide_false,Gf,if_false];let ne:=B'.ne (i:=lo+k) (j:=lo+(l+r) / 2) () () ();let l3:rkA R xs (lo+(l+r) / 2)<rkA R xs (lo+k):=by
      let ne:rkA R xs (lo+k)≠rkA R xs (lo+(l+r) / 2):=ne;lia
     refine Cj {rfl,(l+r) / 2+1,r,rfl,(),(),(),λi b1=>?_,J};rcases Fv i ((l+r) / 2)with z|z
     .exact Int.lt_trans (G _ _ () () ()) l3
     .let:i=(l+r) / 2:=by lia
      subst this;exact l3
  case ipost =>
   rintro c h ⟨rfl,l,rfl,a2,O,J⟩;show wpS _ _ _ _ (do moveDown' (lo+k) (lo+l);pure (Ei (none,PUnit.unit))) _ _;rw[moveDown'_eq];let rb:=λi=>Zh3 (R:=R) (xs:=xs) (src:=lo+k) (d:=lo+k-(lo+l)) () () i;refine Ch (wpS_modify (Cj {rfl,bubble xs (lo+k) (lo+k-(lo+l)),rfl,(bubble_perm _ _ _).trans p,λi hi=>?_,?_}))
   .rw[getElem?_bubble () _ (),D6 (),D6 ()];exact Y i hi
   .rw[show min (k+1) n=k+1 by lia];intro i j hi Z hj;rw[rb,rb,show lo+k-(lo+k-(lo+l))=lo+l by lia];let s1:∀i,lo<=i->i<lo+l->rkA R xs i<rkA R xs (lo+k):=λi h1 h2=>by have:=O (i-lo) ();rwa [show lo+(i-lo)=i by lia]at this
    let s2:∀i,lo+l<=i->i<lo+k->rkA R xs (lo+k)<rkA R xs i:=λi h1 h2=>by have:=J (i-lo) () ();rwa [show lo+(i-lo)=i by lia]at this
    repeat' split
    all_goals first
     |(exfalso;lia)
     |exact s1 _ () ()
     |exact s2 _ () ()
     |exact G _ _ () () ()
end
section
variable{M:Jfi}{κ:SortKind}{S:Cg->Prop}{R:Cg->Int}{N:Nat}{a₀:Array Cg}
def Pd:Nat->List (List Cg)->List (Nat×Nat×Nat)->Prop
 |_,[],[]=>True
 |o,g::gs,p::ps=>p.1=o/\p.2.1=g.length/\Pd (o+g.length) gs ps
 |_,_,_=>False
theorem Pd.len:∀{o:Nat}{gs:List (List Cg)}{ps:List (Nat×Nat×Nat)},Pd o gs ps->ps.length=gs.length
 |_,[],[],_=>rfl
 |_,_::_,_::_,h=>congrArg (· + 1) (Pd.len h.2.2)
 |_,[],_::_,h=>h.elim
 |_,_::_,[],h=>h.elim
theorem Zob:∀{o:Nat}{gs hs:List (List Cg)}{ps:List (Nat×Nat×Nat)},Pd o (gs++hs) ps->∃y p2,ps=y++p2/\Pd o gs y/\Pd (o+gs.flatten.length) hs p2
 |_,[],_,ps,h=>{[],ps,rfl,trivial,by simpa using h}
 |_,_::_,_,[],h=>h.elim
 |o,g::gs,hs,p::ps,h=>by
  let⟨y,p2,e,h1,h2⟩:=Zob (gs:=gs) (hs:=hs) h.2.2;exists p::y,p2,by rw[e];rfl,{h.1,h.2.1,h1},?_;rw[Bn,Jc,<-Br];exact h2
theorem Zcv:∀{o:Nat}{gs hs:List (List Cg)}{y p2:List (Nat×Nat×Nat)},Pd o gs y->Pd (o+gs.flatten.length) hs p2->Pd o (gs++hs) (y++p2)
 |_,[],_,[],_,_,h=>by simpa using h
 |_,[],_,_::_,_,h,_=>h.elim
 |_,_::_,_,[],_,h,_=>h.elim
 |o,g::gs,hs,p::y,p2,h1,h2=>by
  rw[Bn,Jc,<-Br]at h2;exists h1.1,h1.2.1,Zcv h1.2.2 h2
theorem Zoa{pw:Nat}:∀{o i:Nat}{gs:List (List Cg)}{ps:List (Nat×Nat×Nat)},Pd o gs ps->Pd o gs (ps.modify i λx=>(x.1,x.2.1,pw))
 |_,_,[],[],h=>by simpa using h
 |_,0,g::gs,p::ps,h=>by
  rw[List.modify_zero_cons];exact h
 |_,i+1,g::gs,p::ps,h=>by
  rw[List.modify_succ_cons];exists h.1,h.2.1,Zoa h.2.2
 |_,_,[],_::_,h=>h.elim
 |_,_,_::_,[],h=>h.elim
structure TmS(κ:SortKind)(R:Cg->Int)(a₀:Array Cg)(st:Cm)(gs:List (List Cg))(rest:List Cg):Prop where
 kind:kindOf st=κ
 fail:Ew st=none
 perm:(Ct st).toList.Perm a₀.toList
 arr:(Ct st).toList=gs.flatten++rest
 up:∀g∈gs,g≠[]/\Up R g
 pend:Pd 0 gs (Cu st).toList
variable{gs:List (List Cg)}{rest:List Cg}
def TmS.size{st:Cm}(T:TmS κ R a₀ st gs rest):(Ct st).size=a₀.size:=by
 let:=T.perm.length_eq;simpa using this
def TmS.len{st:Cm}(T:TmS κ R a₀ st gs rest):gs.flatten.length+rest.length=a₀.size:=by
 rw[<-Jc,<-T.arr,Jm,T.size]
def TmS.b0{st:Cm}(T:TmS κ R a₀ st gs rest)(h:∀x∈a₀.toList,S x)(nd:(a₀.toList.map R).Nodup):B0 κ S R a₀.size st :=
 {T.kind,T.fail,T.size,λx hx=>h x (T.perm.mem_iff.mp hx),(T.perm.map R).nodup_iff.mpr nd}
theorem Zoi:∀{gs:List (List Cg)},(∀g∈gs,g≠[]/\Up R g)->gs.length<=gs.flatten.length
 |[],_=>Ji _
 |g::gs,h=>by
  let:=Zoi λg y=>h g (Jf _ y);let:=Gj.mpr (h g Jh).1;rw[Bn,Jc,Jy];lia
theorem TmS.merge(HL:LtS M A E s κ S R)(hS:∀x∈a₀.toList,S x)(nd:(a₀.toList.map R).Nodup){st:Cm}{i:Nat}{Q:Bool->Cm->Prop}(T:TmS κ R a₀ st gs rest)(hi:i+1<gs.length)(q:∀J hs,TmS κ R a₀ J hs rest->hs.length+1=gs.length->hs.flatten.length=gs.flatten.length->Q true J):wpS M A E s (mergeAt' i) Q st:=by
 let eg:gs=gs.take i++gs[i]::gs[i+1]::gs.drop (i+2):=by
  rw[<-Bd,<-Bd,J0]
 let lG:(gs.take i).length=i:=by rw[Jz];lia
 generalize gs.take i=G at eg lG;generalize gs[i]=X at eg;generalize gs[i+1]=Y at eg;generalize gs.drop (i+2)=H at eg;subst eg;let⟨p1,p2,ep,h1,h2⟩:=Zob T.pend
 match p2,h2 with
 |[],h2=>exact h2.elim
 |[_],h2=>exact h2.2.2.elim
 |(sa,na,pw)::(sb,nb,pw2)::pH,⟨ea,en,eb,em,h3⟩ =>
 let ea:sa=0+G.flatten.length:=ea;let en:na=X.length:=en;let eb:sb=0+G.flatten.length+X.length:=eb;let em:nb=Y.length:=em;let l1:p1.length=i:=h1.len.trans lG;let hX:=T.up X (by simp);let hY:=T.up Y (by simp);let B:(Ct st).toList=G.flatten++X++Y++(H.flatten++rest):=by
  rw[T.arr];simp
 let mem:∀x∈X,x∈(Ct st).toList:=λx hx=>by rw[B];simp[hx]
 let a0:∀x∈Y,x∈(Ct st).toList:=λx hx=>by rw[B];simp[hx]
 let O:((Ct st).toList.map R).Nodup:=(T.perm.map R).nodup_iff.mpr nd;let dj:∀x∈X,∀y∈Y,R x≠R y:=λx hx y hy z=>by
  rw[B,show G.flatten++X++Y++(H.flatten++rest)=G.flatten++((X++Y)++(H.flatten++rest))by simp,Jj,Jj,Jj]at O;let n3:=(Bc.mp (Bc.mp O).2.1).1;exact(Bc.mp n3).2.2 _ (Bw hx) _ (Bw hy) z
 refine Zch HL (sa:=sa) (na:=na) (pw:=pw) (sb:=sb) (nb:=nb) (pw2:=pw2) ?_ ?_ B () en.symm em.symm () (by rw[en];exact Gj.mpr hX.1) (by rw[em];exact Gj.mpr hY.1) hX.2 hY.2 (λx hx=>hS x (T.perm.mem_iff.mp (mem x hx))) (λx hx=>hS x (T.perm.mem_iff.mp (a0 x hx))) dj T.kind T.fail ?_
 .rw[<-Jt,ep,J8 (),l1,Fj];rfl
 .rw[<-Jt,ep,J8 (),l1,B2];rfl
 .intro J Z k1 k2 k3 k4 k5 k6;let zl:Z.length=X.length+Y.length:=by rw[k5.length_eq,Jc]
  refine q J (G++Z::H) {k1,k2,?_,?_,?_,?_} (by simp;lia) (by simp;lia)
  .refine List.Perm.trans ?_ T.perm;rw[k4,B];refine List.Perm.append_right _ ?_;rw[Jn];exact List.Perm.append_left _ k5
  .rw[k4];simp
  .intro g hg;rcases Jv.mp hg with z|z
   .exact T.up g (Gs _ z)
   .rcases J9.mp z with rfl|z
    .exists λe0=>hX.1 (G9.mp (by rw[e0]at zl;simp at zl;lia)),k6
    .exact T.up g (by simp[z])
  .rw[k3];let:(((Cu st).setIfInBounds i (sa,na+nb,pw)).eraseIdxIfInBounds (i+1)).toList=p1++(sa,na+nb,pw)::pH:=by
    rw[Array.toList_eraseIdxIfInBounds,Array.toList_setIfInBounds,ep,<-l1];simp[List.eraseIdx_append];intro h;lia
   rw[this];refine Zcv h1 {ea,?_,?_}
   .show na+nb=Z.length;lia
   .rw[zl,<-Br];exact h3
def Zn2{xs:Array Cg}{i:Nat}(h:i<xs.toList.length):rkA R xs i=R xs.toList[i]:=by
 unfold rkA;rw[<-Jt,Jb h]
theorem Znw{xs:Array Cg}{lo n:Nat}(h:Uk R xs lo n):Up R ((xs.toList.drop lo).take n):=by
 refine Gx.mpr λi j hi G J=>?_;let B:=hi;let y:=G;rw[Jz,Ga]at B y;let:=h (lo+i) (lo+j) () () ();rw[Zn2 (),Zn2 ()]at this;rw[Bx,Bx,Fy,Fy];exact this
theorem TmS.move{st:Cm}{xs:Array Cg}(T:TmS κ R a₀ st gs rest)(p:xs.Perm (Ct st))(h:∀k,k<gs.flatten.length->xs[k]?=(Ct st)[k]?):TmS κ R a₀ (setArr st xs) gs (xs.toList.drop gs.flatten.length):=by
 exists T.kind,T.fail,(G3.mp p).trans T.perm,?_,T.up,T.pend;show xs.toList=_;refine(J0 gs.flatten.length xs.toList).symm.trans (congrArg (·++_) ?_);refine K2 λk=>?_;rw[Dq]
 by_cases hk:k<gs.flatten.length
 .rw[D7 hk,Jt,h k hk,<-Jt,T.arr,Jw hk]
 .rw[D6 hk,Bk ()]
def Zne(N lo n:Nat):StateT Cm Sem (ForInStep (Option Unit×Nat)):=do
 match(Cu (<-get)).back? with
 |some (s1,n1,_)=>do
  let __s <-forIn [:N] ((none,PUnit.unit):Option Unit×Unit) λ_ _=>do
   let p:=Cu (<-get)
   match(if p.size > 1 then p[p.size-2]? else none)with
   |some (_,_,older) =>
    if older<=power' N (2*s1+n1) (2*s1+n1+n1+n) N then pure (ForInStep.done (none,PUnit.unit))
    else do
     let b <-mergeAt' (p.size-2)
     if(!b)=true then pure (ForInStep.done (some ⟨⟩,⟨⟩))else pure (Ei (none,PUnit.unit))
   |_=>pure (ForInStep.done (none,PUnit.unit))
  match __s.1 with
  |some r=>pure (ForInStep.done (some r,lo))
  |none=>do
   modify λs=>setPending s ((Cu s).modify ((Cu s).size-1) λx=>(x.1,x.2.1,power' N (2*s1+n1) (2*s1+n1+n1+n) N))
   modify λs=>setPending s ((Cu s).push (lo,n,0))
   pure (Ei (none,lo+n))
 |_=>do
  modify λs=>setPending s ((Cu s).push (lo,n,0))
  pure (Ei (none,lo+n))
theorem TmS.push{st:Cm}{n:Nat}(T:TmS κ R a₀ st gs rest)(h1:1<=n)(hn:n<=rest.length)(u:Up R (rest.take n)):TmS κ R a₀ (setPending st ((Cu st).push (gs.flatten.length,n,0))) (gs++[rest.take n]) (rest.drop n):=by
 let h:(rest.take n).length=n:=by rw[Jz];lia
 exists T.kind,T.fail,T.perm,?_,λg y=>?_,?_
 .refine T.arr.trans ?_;rw[List.flatten_append,Db,Jn,J0]
 .rcases Jv.mp y with z|z
  .exact T.up g z
  .rw[Je]at z;subst z;exists λe=>by rw[e]at h;simp at h;lia,u
 .show Pd 0 _ ((Cu st).push _).toList;rw[Dj];exact Zcv T.pend {by simp,h.symm,trivial}
theorem Zgz(HL:LtS M A E s κ S R)(Z:∀x∈a₀.toList,S x)(nd:(a₀.toList.map R).Nodup){st:Cm}{n:Nat}(T:TmS κ R a₀ st gs rest)(h1:1<=n)(hn:n<=rest.length)(u:Up R (rest.take n)) :
  wpS M A E s (Zne a₀.size gs.flatten.length n) (λr y=>∃hs rest',r=Ei (none,hs.flatten.length)/\TmS κ R a₀ y hs rest'/\gs.flatten.length+1<=hs.flatten.length) st:=by
 let J:(rest.take n).length=n:=by rw[Jz];lia
 let fin:∀{y:Cm}{hs:List (List Cg)},TmS κ R a₀ y hs rest->hs.flatten.length=gs.flatten.length->wpS M A E s (do
   modify λs=>setPending s ((Cu s).push (gs.flatten.length,n,0))
   pure (Ei ((none,gs.flatten.length+n):Option Unit×Nat))) (λr y=>∃hs rest',r=Ei (none,hs.flatten.length)/\TmS κ R a₀ y hs rest'/\gs.flatten.length+1<=hs.flatten.length) y:=λ{y hs}B e=>by
  rw[<-e];refine Ch (wpS_modify (Cj {hs++[rest.take n],rest.drop n,?_,B.push h1 hn u,?_}))
  .rw[List.flatten_append,Db,Jc,J]
  .rw[List.flatten_append,Db,Jc,J];lia
 unfold Zne;refine Ch (wpS_get ?_);cases(Cu st).back? with
 |none=>exact fin T rfl
 |some p =>
  let⟨s1,n1,p1⟩:=p;dsimp only;refine Ch (Hs (Ea (I:=λ_ c y=>c=(none,PUnit.unit)/\∃hs,TmS κ R a₀ y hs rest/\hs.flatten.length=gs.flatten.length) (Q:=λc y=>c=(none,PUnit.unit)/\∃hs,TmS κ R a₀ y hs rest/\hs.flatten.length=gs.flatten.length) ?_ (λ_ _ h=>h) ⟨rfl,gs,T,rfl⟩) ?_)
  .rintro x c y _ _ ⟨rfl,hs,B,e⟩;refine Ch (wpS_get ?_);let pl:(Cu y).size=hs.length:=by rw[<-Jm];exact B.pend.len
   by_cases h2:(Cu y).size > 1
   .rw[D7 h2];cases(Cu y)[(Cu y).size-2]? with
    |none=>exact Cj ⟨rfl,hs,B,e⟩
    |some p =>
     let⟨a,b,older⟩:=p;dsimp only
     split
     .exact Cj ⟨rfl,hs,B,e⟩
     .refine Ch (B.merge HL Z nd () λO G T3 l3 Y=>?_);simp only[By,Gf,if_false];exact Cj {rfl,G,T3,Y.trans e}
   .rw[D6 h2];exact Cj ⟨rfl,hs,B,e⟩
  .rintro c y ⟨rfl,hs,B,e⟩;dsimp only;refine Ch (wpS_modify (fin (hs:=hs) {B.kind,B.fail,B.perm,B.arr,B.up,?_} e));show Pd 0 hs ((Cu y).modify _ _).toList;rw[Array.toList_modify];exact Zoa B.pend
def Zd2{α:Type}{f g:StateT Cm Sem α}{Q:α->Cm->Prop}{st:Cm}(e:f=g)(h:wpS M A E s g Q st):wpS M A E s f Q st:=e ▸ h
theorem P2(J:LtS M A E s κ S R)(O:∀x∈a₀.toList,S x)(nd:(a₀.toList.map R).Nodup){st:Cm}{Q:Unit->Cm->Prop}(e0:Ct st=a₀)(hp:Cu st=#[])(hk:kindOf st=κ)(hf:Ew st=none)(q:∀G,(Ct G).toList.Perm a₀.toList->kindOf G=κ->Ew G=none->Up R (Ct G).toList->Q ⟨⟩ G):wpS M A E s sortRuns' Q st:=by
 rw[sortRuns'_eq];refine Ch (wpS_get ?_);dsimp only;rw[e0];generalize minRun' a₀.size a₀.size 0=mr;let T0:TmS κ R a₀ st [] a₀.toList:={hk,hf,by rw[e0],by rw[e0];rfl,λg hg=>Dx hg List.not_mem_nil,by rw[hp];exact trivial};refine Ch (Hs (Ea
  (I:=λx c G=>∃gs rest,c=(none,gs.flatten.length)/\TmS κ R a₀ G gs rest/\x<=gs.flatten.length)
  (Q:=λc G=>∃gs,c=(none,a₀.size)/\TmS κ R a₀ G gs []) ?step ?fin {[],_,rfl,T0,Ji _}) ?post)
 case fin =>
  rintro c G ⟨gs,rest,rfl,T,hx⟩;let l:=T.len;rw[show max 0 a₀.size=a₀.size by lia]at hx;let:rest=[]:=G9.mp ();subst this;exists gs,by rw[show gs.flatten.length=a₀.size by simpa using l],T
 case step =>
  rintro x c G _ hx ⟨gs,rest,rfl,T,hx2⟩;let l:=T.len;dsimp only
  by_cases hlo:gs.flatten.length≥a₀.size
  .rw[D7 hlo];let:rest=[]:=G9.mp ();subst this;exact Cj {gs,by rw[show gs.flatten.length=a₀.size by simpa using l],T}
  rw[D6 hlo];let B:=T.b0 O nd;refine Ch (Zat J B () () λxs n n1 n2 p lw su=>?_);dsimp only;let T2:=T.move p lw;let xl:xs.toList.length=a₀.size:=by rw[Jm,p.size_eq,T.size]
  by_cases hm:n<mr
  .rw[D7 hm];refine Ch (wpS_lift (Et {rfl,?_}));refine Ch (Zfm J (B.perm p) () () () su λys p2 a0 Y=>?_);let T3:=T2.move p2 a0;let yl:ys.toList.length=a₀.size:=by rw[Jm,p2.size_eq];rw[<-xl];rfl
   simp only[By,Gf,if_false];refine Hs (Zd2 ?same (Zgz J O nd (n:=min (a₀.size-gs.flatten.length) mr) T3 () (by rw[Ga];lia) (Znw Y))) ?_
   case same=>kernel_rfl
   rintro r Z ⟨hs,rest',rfl,T4,l4⟩;exact{hs,rest',rfl,T4,()}
  .rw[D6 hm];refine Hs (Zd2 ?same (Zgz J O nd (n:=n) T2 () (by rw[Ga];lia) (Znw su))) ?_
   case same=>kernel_rfl
   rintro r Z ⟨hs,rest',rfl,T4,l4⟩;exact{hs,rest',rfl,T4,()}
 case post =>
  rintro c G ⟨gs,rfl,T⟩;dsimp only;refine Ch (Hs (Ea (I:=λx c y=>c=(none,PUnit.unit)/\∃hs,TmS κ R a₀ y hs []/\hs.length+x<=a₀.size) (Q:=λc y=>c=(none,PUnit.unit)/\∃hs,TmS κ R a₀ y hs []/\hs.length<=1) ?fstep ?ffin ?finit) ?fpost)
  case finit =>
   let:=Zoi T.up;let l:=T.len;exact{rfl,gs,T,by rw[Bf]at l;lia}
  case ffin =>
   rintro c y ⟨rfl,hs,T,h⟩;exact{rfl,hs,T,()}
  case fstep =>
   rintro x c y _ hx ⟨rfl,hs,T,h⟩;refine Ch (wpS_get ?_);let pl:(Cu y).size=hs.length:=by rw[<-Jm];exact T.pend.len
   rw[pl]
   by_cases h1:hs.length<=1
   .rw[D7 h1];exact Cj ⟨rfl,hs,T,h1⟩
   rw[D6 h1];refine Ch (T.merge J O nd (by split<;>split<;>lia) λa2 a1 T3 l3 _=>?_);simp only[By,Gf,if_false];exact Cj {rfl,a1,T3,()}
  case fpost =>
   rintro c y ⟨rfl,hs,T,h⟩;refine Cj (q y T.perm T.kind T.fail ?_);rw[T.arr,Gg]
   match hs,h with
   |[],_=>exact Jel
   |[g],_ =>
    rw[Db];exact(T.up g (by simp)).2
end
end L2
namespace L2
open PySem PySem.W PyProof.Rows
def Rk(rk:Nat->Int)(p:Array Nat)(i:Nat):Int:=rk (p.getD i 0)
def SrtR(rk:Nat->Int)(p:Array Nat)(k:Nat):Prop:=∀i j,i<=j->j<k->Rk rk p i<=Rk rk p j
structure GoodP(n:Nat)(p:Array Nat):Prop where
 perm:p.Perm (Cv n).toArray
def GoodP.size{n:Nat}{p:Array Nat}(g:GoodP n p):p.size=n:=by have:=g.perm.size_eq;simpa using this
def GoodP.lt{n:Nat}{p:Array Nat}(g:GoodP n p)(i:Nat)(hi:i<n):p.getD i 0<n:=by
 let h:i<p.size:=by rw[g.size];exact hi
 let e:p.getD i 0=p[i]:=by simp[Mi,h]
 rw[e];let y:p[i]∈p.toList:=by simp
 let:=(G3.mp g.perm).mem_iff.mp y;simpa using this
def GoodP.ne{n:Nat}{p:Array Nat}(g:GoodP n p){i:Nat}(hi:i<n)(G:j<n)(h:i≠j):p.getD i 0≠p.getD j 0:=by
 let nd:p.toList.Nodup:=(G3.mp g.perm).nodup_iff.mpr (by simpa using List.nodup_range);let B:i<p.size:=by rw[g.size];exact hi
 let y:j<p.size:=by rw[g.size];exact G
 let e:p.getD i 0=p[i]:=by simp[Mi,B]
 let e2:p.getD j 0=p[j]:=by simp[Mi,y]
 rw[e,e2];intro z;let:=(Bh (h₀:=by simpa using B) (h₁:=by simpa using y) nd).mp (by simpa using z);exact h this
section
variable{rk:Nat->Int}{n:Nat}{cmp:Nat->Nat->(Bool->Cc->Prop)->Cc->Prop} 
def CmpR(rk:Nat->Int)(n:Nat)(cmp:Nat->Nat->(Bool->Cc->Prop)->Cc->Prop)(s:Cc):Prop :=
 ∀i j(C:Bool->Cc->Prop),i<n->j<n->C (decide (rk i<rk j)) s->cmp i j C s
end
section
variable{κ:SortKind}{vs ks:List Cb}{rk:Nat->Int}{n:Nat}
open Classical in
noncomputable def ixK(ks:List Cb)(x:Cg):Nat:=if h:∃i,i<ks.length/\ks.getD i Cb.none=x.1 then h.choose else 0
def Zu1{x:Cg}{i:Nat}(hi:i<ks.length)(e:ks.getD i Cb.none=x.1):ixK ks x<ks.length/\ks.getD (ixK ks x) Cb.none=x.1:=by
 unfold ixK;let h:∃i,i<ks.length/\ks.getD i Cb.none=x.1:=⟨i,hi,e⟩;rw[dif_pos h];exact h.choose_spec
def Zjk(h:ks.Nodup){x:Cg}{i:Nat}(hi:i<ks.length)(e:ks.getD i Cb.none=x.1):ixK ks x=i:=by
 let⟨h1,h2⟩:=Zu1 hi e;rw[<-e,Gq,Gq,Jb h1,Jb hi]at h2;exact(Bh (h₀:=h1) (h₁:=hi) h).mp h2
def Zuo(Z:CmpR rk n (kas_ask prog w A κ ks) s)(hn:ks.length=n)(B:ks.Nodup):LtS (Cn prog w) A E s κ (λx=>∃i,i<n/\ks.getD i Cb.none=x.1) (λx=>rk (ixK ks x)):=by
 subst hn;rintro x y st Q ⟨i,hi,O⟩ ⟨j,G,J⟩ Y h;rw[lt'_eq];refine Ch (wpS_get ?_);rw[Y];let h:Q (some (decide (rk (ixK ks x)<rk (ixK ks y)))) st:=h;rw[Zjk B hi O,Zjk B G J]at h;let c:=Z i j (λb s'=>s'=s/\b=decide (rk i<rk j)) hi G ⟨rfl,rfl⟩;unfold kas_ask at c;rw[O,J]at c;refine Ch (wpS_lift (Mt (Jac c ?_ λ_ _ f=>f.elim)));rintro b s' ⟨rfl,rfl⟩;exists rfl,Cj h
theorem Ze3(hl:ks.length=vs.length)(hn:ks.length=n)(G:ks.Nodup)(hc:CmpR rk n (kas_ask prog w A κ ks) s)(inj:∀i j,i<n->j<n->rk i=rk j->i=j) :
  Ck (Cn prog w) A ((sortRuns').run (Cm.mk' κ (ks.toArray.zip vs.toArray) #[] 7 none)) (λr s'=>∃p:Array Nat,s'=s/\GoodP n p/\SrtR rk p n/\Ct r.2=p.map (kas_item (ks.toArray.zip vs.toArray))/\Ew r.2=none) E s:=by
 let O:=kas_range (ks.toArray.zip vs.toArray);let hz:(ks.toArray.zip vs.toArray).size=n:=by simp[hl];lia
 rw[hz]at O;let B:(ks.toArray.zip vs.toArray).toList=(Cv n).map (kas_item (ks.toArray.zip vs.toArray)):=by
  let:=congrArg Jer O;rw[Array.toList_map]at this;exact this.symm
 let it:=λi=>kat_item hl i;let Z:∀i,i<n->ixK ks (kas_item (ks.toArray.zip vs.toArray) i)=i:=λi hi=>Zjk G () (by rw[it]);let hS:∀x∈(ks.toArray.zip vs.toArray).toList,∃i,i<n/\ks.getD i Cb.none=x.1:=λx hx=>by
  rw[B]at hx;let⟨i,hi,rfl⟩:=Jk.mp hx;exact{i,G0.mp hi,by rw[it]}
 let Y:(ks.toArray.zip vs.toArray).toList.map (ixK ks)=Cv n:=by
  rw[B,Ju];refine(Gw λi hi=>?_).trans (List.map_id _);exact Z i (G0.mp hi)
 let nd:((ks.toArray.zip vs.toArray).toList.map λx=>rk (ixK ks x)).Nodup:=by
  let e:((ks.toArray.zip vs.toArray).toList.map λx=>rk (ixK ks x))=(Cv n).map rk:=by
   rw[<-Y,Ju];rfl
  rw[e];refine Jr.mpr ?_;refine List.Pairwise.imp_of_mem (λ{a b}ha hb h z=>h (inj a b (G0.mp ha) (G0.mp hb) z)) List.nodup_range
 let run:=P2 (E:=E) (Zuo (E:=E) hc hn G) hS nd (st:=Cm.mk' κ (ks.toArray.zip vs.toArray) #[] 7 none) (Q:=λ_ y=>(Ct y).toList.Perm (ks.toArray.zip vs.toArray).toList/\Ew y=none/\Up (λx=>rk (ixK ks x)) (Ct y).toList) rfl rfl rfl rfl λy a1 a2 a3 a4=>⟨a1,a3,a4⟩;unfold wpS at run;refine Jac run ?_ λ_ _ x=>x;rintro⟨⟨⟩,y⟩ s' ⟨rfl,pm,J,up⟩;dsimp only at pm J up⊢;let mem:∀x∈(Ct y).toList,∃i,i<n/\x=kas_item (ks.toArray.zip vs.toArray) i:=λx hx=>by
  let:=pm.mem_iff.mp hx;rw[B]at this;let⟨i,hi,e⟩:=Jk.mp this;exists i,G0.mp hi,e.symm
 let lp:(Ct y).toList.length=n:=by rw[pm.length_eq,Jm,hz]
 exists((Ct y).toList.map (ixK ks)).toArray,rfl,{?_},?_,?_,J
 .refine G3.mpr ?_;show((Ct y).toList.map (ixK ks)).Perm (Cv n);rw[<-Y];exact pm.map _
 .intro i j a0 hj;let gd:∀k,(h:k<n)->(((Ct y).toList.map (ixK ks)).toArray).getD k 0=ixK ks ((Ct y).toList[k]'()):=λk h=>by
   let:k<(((Ct y).toList.map (ixK ks)).toArray).size:=by simp;simpa using(by lia:k<(Ct y).toList.length)
   rw[Mi,dif_pos this];simp
  unfold Rk;rw[gd i (),gd j hj];rcases Fv i j with z|z
  .exact Jg3 (Gx.mp up i j () () z)
  .let:i=j:=by lia
   subst this;exact Jdt _
 .apply Array.toList_inj.mp
  rw[Array.toList_map,Ju];refine((List.map_id _).symm.trans (Gw λx hx=>?_));let⟨i,hi,rfl⟩:=mem x hx;show _=kas_item _ (ixK ks _);rw[Z i hi];rfl
end
end L2
namespace L2
open PySem PySem.W PyProof.Rows HT
theorem U5:∀a:List Int,lexLt a a=false
 |[]=>rfl
 |x::r=>by rw[lexLt_cons,D7 rfl];exact U5 r
theorem Qc:∀{a b c:List Int},lexLt a b=true->lexLt b c=true->lexLt a c=true
 |[],[],_,h,_=>by rw[N5]at h;cases h
 |[],_::_,[],_,h=>by rw[Ws]at h;cases h
 |[],_::_,_::_,_,_=>rfl
 |_::_,[],_,h,_=>by rw[Ws]at h;cases h
 |_::_,_::_,[],_,h=>by rw[Ws]at h;cases h
 |x::a,y::b,z::c,h1,h2=>by
  rw[lexLt_cons]at h1 h2⊢
  by_cases e1:x=y
  .subst e1;rw[D7 rfl]at h1
   by_cases e2:x=z
   .rw[D7 e2]at h2⊢;exact Qc h1 h2
   .rw[D6 e2]at h2⊢;exact h2
  .rw[D6 e1]at h1;let G:x<y:=Dw h1
   by_cases e2:y=z
   .subst e2;rw[D6 e1];exact h1
   .rw[D6 e2]at h2;let B:y<z:=Dw h2;rw[D6 ()];exact D8 ()
theorem Zc2:∀{a b:List Int},lexLt a b=false->lexLt b a=false->a=b
 |[],[],_,_=>rfl
 |[],_::_,h,_=>by rw[Uq]at h;cases h
 |_::_,[],_,h=>by rw[Uq]at h;cases h
 |x::a,y::b,h1,h2=>by
  rw[lexLt_cons]at h1 h2
  by_cases e:x=y
  .subst e;rw[D7 rfl]at h1 h2;rw[Zc2 h1 h2]
  .rw[D6 e]at h1;rw[D6 (λz=>e z.symm)]at h2;let:=Dy h1;let:=Dy h2;lia
theorem Zbx{α:Type}{p q:α->Bool}:∀{l:List α},(∀x∈l,p x=true->q x=true)->(∃x∈l,q x=true/\p x=false)->l.countP p<l.countP q
 |[],_,{_,h,_}=>nomatch h
 |a::l,h1,⟨x,hx,hq,hp⟩=>by
  let le:l.countP p<=l.countP q:=List.countP_mono_left λy B=>h1 y (Jf _ B);rw[My,My];rcases J9.mp hx with e|hx
  .subst e;rw[hq,hp];simp;lia
  .let lt:=Zbx (λy B=>h1 y (Jf _ B)) ⟨x,hx,hq,hp⟩;let:=h1 a Jh;cases ha:p a<;>cases hb:q a<;>simp_all<;>lia
def Xw(ks:List (List Int))(i:Nat):Int:=((Cv ks.length).countP λj=>lexLt (ks.getD j []) (ks.getD i []):Nat)
theorem Zh8{ks:List (List Int)}{i:Nat}(hi:i<ks.length)(h:lexLt (ks.getD i []) (ks.getD j [])=true):Xw ks i<Xw ks j:=by
 unfold Xw;let:=Zbx (l:=Cv ks.length) (p:=λx=>lexLt (ks.getD x []) (ks.getD i [])) (q:=λx=>lexLt (ks.getD x []) (ks.getD j [])) (λx _ hx=>Qc hx h) {i,G0.mpr hi,h,U5 _};lia
theorem Ud{ks:List (List Int)}(nd:ks.Nodup){i:Nat}(hi:i<ks.length)(h:j<ks.length):decide (Xw ks i<Xw ks j)=lexLt (ks.getD i []) (ks.getD j []):=by
 cases e:lexLt (ks.getD i []) (ks.getD j [])with
 |true=>exact D8 (Zh8 hi e)
 |false =>
  refine D9 λz=>?_;cases e2:lexLt (ks.getD j []) (ks.getD i [])with
  |true=>have:=Zh8 h e2;lia
  |false =>
   let e3:=Zc2 e e2;unfold Xw at z;rw[e3]at z;exact Dx z (Int.lt_irrefl _)
theorem Nk{ks:List (List Int)}(nd:ks.Nodup){i:Nat}(hi:i<ks.length)(y:j<ks.length)(h:Xw ks i=Xw ks j):i=j:=by
 let e1:lexLt (ks.getD i []) (ks.getD j [])=false:=by rw[<-Ud nd hi y];exact D9 ()
 let e2:lexLt (ks.getD j []) (ks.getD i [])=false:=by rw[<-Ud nd y hi];exact D9 ()
 let e3:=Zc2 e1 e2;rw[Gq,Gq,Jb hi,Jb y]at e3;exact(Bh (h₀:=hi) (h₁:=y) nd).mp (by simpa using e3)
section
theorem Zey{Q:Bool->Cc->Prop}:∀{vs ws:List Cb}{ns ms:List Int}{fin:Bool}{i:Nat},E4 vs ns->E4 ws ms->(fin=decide (ns.length<ms.length))->Q (lexLt ns ms) s->KatLex prog w A true fin Q (vs.zip ws) i s
 |_,_,_,_,fin,i,.nil,.nil,e,h=>by
  subst e;exact kat_nil h
 |_,_,_,_,fin,i,.nil,.cons _ _ r,e,h=>by
  subst e;exact kat_nil (by simpa[HT.lexLt]using h)
 |_,_,_,_,fin,i,.cons _ _ r,.nil,e,h=>by
  subst e;exact kat_nil (by simpa[HT.lexLt]using h)
 |_,_,_,_,fin,i,.cons a t r,.cons c u r2,e,h=>by
  rw[Dc];refine kat_cons (K9 ?_);rw[lexLt_cons]at h
  by_cases z:a=c
  .subst z;rw[D7 rfl]at h;rw[beq_self_eq_true];exact kat_yes (Zey r r2 (by rw[e];simp) h)
  .rw[D6 z]at h;let y:(a==c)=false:=by simpa using z
   rw[y];refine kat_no ?_;cases hi:(true&&i==0)with
   |true=>exact oneLt_int h
   |false=>exact kat_one _ _ (Jhg (show PySem.W.BoolBack Q (.bool (decide (a<c))) s from h))
end
abbrev KIt:=V×Addr×List Int
section
def Inv.pin1{b:Addr}{o:Obj}(I:Inv X pz σ H s)(f:FpOk X pz H b)(e:s.heap.get? b=some o)(hd:∀v,o.data≠.cell v):Inv X (pz++[(b,o)]) σ H s :=
 I.pins_of λp h=>(Jv.mp h).elim (λz=>I.pin p (Jp _ z)) λz=>by
  rw[Je.mp z];exists e,f.1,f.2.1,f.2.2.1,hd
def Inv.turn1{b:Addr}(I:Inv X pz σ H s)(f:FpOk X pz H b)(hs:Hu b s.heap h'):Inv X pz σ H {s with heap:=h'} :=
 I.turned (t':=s.toks) (λc o h e=>(hs.2 c h).trans e) f.1 f.2.1 f.2.2.2.1 f.2.2.2.2.1 f.2.2.2.2.2
def Zh(L:List KIt):List Cb:=L.map λq=>Cd q.2.1
def Yf{α:Type}{f:α->β}{l:List α}{i:Nat}{d:β}(h:i<l.length):(l.map f).getD i d=f l[i]:=by
 rw[Gq,Gc,Jb h];rfl
theorem Ze2{L:List KIt}(I:Inv X pz σ H s)(hk:∀q∈L,SqT X.K H q.2.1 (q.2.2.map V.int)/\q.2.2≠[])(h2:0<L.length){Q:SortKind->Cc->Prop}(h:Q (tuples' true) s) :
  Ck (Cn X.prog X.w) A (keyKind' (Zh L).toArray) Q E s:=by
 let tk:∀L':List KIt,(∀q∈L',q∈L)->∃fs:List Cb,KatTups s.heap (Zh L') fs/\fs.length=L'.length/\∀v∈fs,∃n t,v=.int n t:=by
  intro L'
  induction L' with
  |nil=>intro _;exists [],.nil,rfl,λv y=>nomatch y
  |cons q r Z =>
   intro J;let⟨fs,a,b,c⟩:=Z λx hx=>J x (Jf _ hx);let⟨O,ne⟩:=hk q (J q Jh);let⟨its,G,⟨o,e,hc,n,hd⟩,_⟩:=I.tuple O
   match hq:q.2.2,ne with
   |z::zs,_ =>
    rw[hq]at G;cases G with
    |cons B Y =>
     let⟨t,et⟩:=B;exists .int z t::fs,KatTups.cons e hc hd ?_ a,by simp[b],λv y=>?_
     .rw[et];simp
     .rcases J9.mp y with e|y
      .exists z,t,e
      .exact c v y
 let⟨fs,a,b,c⟩:=tk L λ_ h=>h;exact kat_kind (T:=.type "int") a () (λv y=>by let⟨n,t,e⟩:=c v y;subst e;exact .now) nofun h
def Zjf{L:List KIt}(I:Inv X pz σ H s)(Z:∀q∈L,SqT X.K H q.2.1 (q.2.2.map V.int)/\q.2.2≠[])(nd:(L.map (·.2.2)).Nodup) :
  CmpR (Xw (L.map (·.2.2))) L.length (kas_ask X.prog X.w A (tuples' true) (Zh L)) s:=by
 intro i j C hi y h;rw[Ud nd (by simpa using hi) (by simpa using y),Yf hi,Yf y]at h;unfold kas_ask;rw[show(Zh L).getD i Cb.none=Cd L[i].2.1 from Yf hi,show(Zh L).getD j Cb.none=Cd L[j].2.1 from Yf y];let⟨its,rv,⟨o,e,hc,n,hd⟩,_⟩:=I.tuple (Z _ (Js hi)).1;let⟨J,B,⟨o2,e2,a0,n2,G⟩,_⟩:=I.tuple (Z _ (Js y)).1;let ia:∀{ns:List Int}{vs:List Cb},Vals (ns.map V.int) vs->E4 vs ns:=by
  intro ns
  induction ns with
  |nil=>intro vs h;cases h;exact .nil
  |cons a r ih =>
   intro vs h;cases h with
   |cons h1 h2=>obtain⟨t,e⟩:=h1;subst e;exact .cons a t (ih h2)
 refine kat_lt e hd e2 G ?_;let Y:=ia rv;let O:=ia B;exact Zey Y O (by rw[<-Y.length,<-O.length];simp) h
end
section
abbrev PD(D:Addr)(e1:Nat):Addr×Obj:=(D,Eh "list" #[] e1)
abbrev PKs(h:Addr)(e:Nat)(L:List KIt):Addr×Obj:=(h,Eh "list" (Zh L).toArray e)
theorem Vals.perm_get{L:List KIt}(h:Vals (L.map (·.1)) its){p:List Nat}(y:∀i∈p,i<L.length):Vals (p.map λi=>(L.getD i (.non,0,[])).1) (p.map λi=>its.getD i Cb.none):=by
 let e:=h.length;simp only[Ja]at e
 induction p with
 |nil=>exact .nil
 |cons i r G =>
  let hi:=y i Jh;let hi2:i<its.length:=by lia
  let⟨u,J,B⟩:=Vals.get h (i:=i) (x:=L[i].1) (by rw[Gc,Jb hi];rfl);refine .cons ?_ (G λj O=>y j (Jf _ O));show RelV (L.getD i (.non,0,[])).1 (its.getD i Cb.none);rw[Gq,Gq,J,Jb hi];exact B
theorem Za1{D y:Addr}{e e1:Nat}{L L':List KIt}{st:Cm}{out:List Cb}{P:Lr->Cc->Prop}(I:Inv X ((pz++[PD D e1])++[PKs y e L]) σ H s)(a0:L.length<64)(Z:FpOk X pz H D)(fK:FpOk X (pz++[PD D e1]) H y)(B:(Ct st).map (·.2)=out.toArray)(hf:Ew st=none)(Y:Vals (L'.map (·.1)) out)(hl:L'.length=L.length)(h:∀s',Inv X pz σ (upd H D (.lst (L'.map (·.1)))) s'->P (.done (.ret .none)) s'):Ck (Cn X.prog X.w) A (ksk_tail D false e1 (.ref y) st) P E s:=by
 let pk:=I.pin (PKs y e L) (Jp _ (Jp _ (Je.mpr rfl)));let s1:=Ef s.heap y (Cr λ_=>(#[]:Array Cb));let I1:=(I.unpinned (pl:=[PKs y e L])).turn1 fK s1;let G:=I1.pin (PD D e1) (Jp _ (Jp _ (Je.mpr rfl)));let s2:=Ef (s.heap.update y (Cr λ_=>(#[]:Array Cb))) D (Cr λ_=>out.toArray);obtain⟨O,J⟩:∃O,((s.heap.update y (Cr λ_=>(#[]:Array Cb))).update D (Cr λ_=>out.toArray)).get? D=some (Eh "list" out.toArray O):={_,Kt G.1 λ_=>out.toArray};let lo:out.length=L.length:=by have:=Y.length;simp only[Ja]at this;lia
 let hz:L'.length<=Ca:=by rw[C0];lia
 unfold ksk_tail
 try dsimp only
 rw[B];refine D0 (Ku pk.1 rfl ?_ (by simp only[Jq,Zh,Ja,C0];lia) (Ge _));refine D0 (wpAny_letGo ?_);refine D0 (seqEpoch_at G.1 rfl ?_);refine D0 (Ku G.1 rfl ?_ (Ge _) (by simp only[Jq,C0,Gf,if_false];lia));rw[hf];simp only[bne_self_eq_false,Gf,if_false];refine D1 (h _ ?_);let I2:=(I1.unpinned (pl:=[PD D e1])).turn1 Z s2;exact I2.track (its:=out) (n:=O) J Z Y (by rw[Ja];exact hz)
theorem Xt:∀{ns:List Int}{vs:List Cb},Vals (ns.map V.int) vs->E4 vs ns
 |[],_,h=>by cases h;exact .nil
 |a::r,_,h=>by
  cases h with
  |cons h1 h2=>obtain⟨t,e⟩:=h1;subst e;exact .cons a t (Xt h2)
theorem Qm:∀{vs:List Cb}{ns ms:List Int},E4 vs ns->E4 vs ms->ns=ms:=by
 intro _ _ _ B y;cases B with
 |nil=>
  cases y with
  |nil=>
   exact rfl
 |cons a t h=>
  cases y with
  |cons _ _ k=>
   exact by rw[Qm h k]
def Nl{L:List KIt}{p:Array Nat}(nd:(L.map (·.2.2)).Nodup)(g:GoodP L.length p)(hs:SrtR (Xw (L.map (·.2.2))) p L.length):(p.toList.map λi=>L.getD i (.non,0,[])).Perm L/\(p.toList.map λi=>L.getD i (.non,0,[])).Pairwise λa b=>HT.lexLt a.2.2 b.2.2=true:=by
 constructor
 .let Z:p.toList.Perm (Cv L.length):=by have:=G3.mp g.perm;simpa using this
  let rangeL:(Cv L.length).map (λi=>L.getD i (.non,0,[]))=L:=by
   apply List.ext_getElem
   .simp
   .intro i h1 h2;simp[Gq,h2]
  let:=Z.map λi=>L.getD i (.non,0,[]);rwa [rangeL]at this
 .rw[Gx];intro i j hi h B;simp only[Ja,Jm,g.size]at hi h;let Y:=g.lt i hi;let O:=g.lt j h;let y:=hs i j (Fi B) h;let a0:=g.ne hi h (Gn B);unfold Rk at y;let a1:Xw (L.map (·.2.2)) (p.getD i 0)<Xw (L.map (·.2.2)) (p.getD j 0):=by
   rcases Int.lt_or_eq_of_le y with z|z
   .exact z
   .exact Dx (Nk nd (by simpa using Y) (by simpa using O) z) a0
  let hd:=Ud nd (i:=p.getD i 0) (j:=p.getD j 0) (by simpa using Y) (by simpa using O);rw[D8 a1,Yf Y,Yf O]at hd;let ei:p.getD i 0=p[i]'(by rw[g.size];exact hi):=by simp[Mi,g.size,hi]
  let ej:p.getD j 0=p[j]'(by rw[g.size];exact h):=by simp[Mi,g.size,h]
  simp only[Bv,Array.getElem_toList,Gq];let J:=Y;let G:=O;rw[ei]at J;rw[ej]at G;rw[Jb J,Jb G];simp only[ei,ej]at hd;exact hd.symm
theorem Zlm{D y:Addr}{e e1:Nat}{L:List KIt}{P:Lr->Cc->Prop}(I:Inv X ((pz++[PD D e1])++[PKs y e L]) σ H s)(G:L.length<64)(fD:FpOk X pz H D)(fK:FpOk X (pz++[PD D e1]) H y)(J:∀q∈L,SqT X.K H q.2.1 (q.2.2.map V.int)/\q.2.2≠[])(nd:(L.map (·.2.2)).Nodup)(Y:Vals (L.map (·.1)) its)(h:∀(s':Cc)(L':List KIt),L'.Perm L->L'.Pairwise (λa b=>HT.lexLt a.2.2 b.2.2=true)->Inv X pz σ (upd H D (.lst (L'.map (·.1)))) s'->P (.done (.ret .none)) s') :
  Ck (Cn X.prog X.w) A (ksk_end D false its.toArray e1 (.ref y) (Zh L).toArray) P E s:=by
 let O:its.length=L.length:=by have:=Y.length;simp only[Ja]at this;lia
 let ek:(Zh L).length=its.length:=by rw[O];simp[Zh]
 unfold ksk_end
 try dsimp only
 simp only[Gf,if_false]
 by_cases h2:its.toArray.size<2
 .rw[D7 h2];refine D0 (D1 ?_);rw[D7 h2];let a0:its.length<2:=by simpa using h2
  refine D0 (m:=(pure ⟨⟩:StateT Cm Sem Unit).run _) (D1 ?_);refine Za1 (L':=L) (out:=its) I G fD fK ?_ rfl Y rfl λs'=>h s' L (List.Perm.refl _) ?_
  .show(((Zh L).toArray.zip its.toArray).map (·.2))=its.toArray
   apply Array.toList_inj.mp
   rw[Array.toList_map,ksk_zip];simp only[Mz (by lia:its.length<=(Zh L).length)]
  .match L,O with
   |[],_=>exact .nil
   |[q],_=>exact Ba _ _
   |_::_::_,O=>simp only[Jy]at O;lia
 .rw[D6 h2,D6 h2];let a0:2<=its.length:=by simpa using h2
  refine D0 (Ze2 (I.unpinned (pl:=[PKs y e L])) J () ?_);let nk:(Zh L).Nodup:=Jr.mpr ((Jr.mp nd).imp_of_mem λ{a b}ha hb h z=>h (by
   let⟨i1,v1,⟨o1,g1,_,n1,d1⟩,_⟩:=I.tuple (J a ha).1;let⟨i2,v2,⟨o2,g2,_,n2,d2⟩,_⟩:=I.tuple (J b hb).1;rw[Cd.inj z,g2]at g1;cases g1;rw[d1]at d2;injection d2 with e1 e2
   let e:i1=i2:=by simpa using e1
   subst e;exact Qm (Xt v1) (Xt v2)))
  refine D0 (Jac (Ze3 (vs:=its) (ks:=Zh L) (rk:=Xw (L.map (·.2.2))) (n:=L.length) ek (by simp[Zh]) nk (Zjf (I.unpinned (pl:=[PKs y e L])) J nd) λi j hi hj z=>Nk nd (by simpa using hi) (by simpa using hj) z) ?_ λ_ _ x=>x);rintro⟨⟨⟩,a1⟩ s' ⟨p,rfl,g,hs,Z,hf⟩;let hp:∀i∈p.toList,i<L.length:=λi hi=>by
   let:=(G3.mp g.perm).mem_iff.mp hi;simpa using this
  let B:∀(F:KIt->V),(p.toList.map λi=>F (L.getD i (.non,0,[])))=(p.toList.map λi=>L.getD i (.non,0,[])).map F:=λF=>by rw[Ju];rfl
  refine Za1 (L':=p.toList.map λi=>L.getD i (.non,0,[])) (out:=p.toList.map λi=>its.getD i Cb.none) I G fD fK (kat_snds ek Z) hf (by rw[<-B (·.1)];exact Vals.perm_get Y hp) (by rw[Ja,Jm,g.size]) λs'=>h s' _ (Nl nd g hs).1 (Nl nd g hs).2
end
section
theorem Zhd{D y:Addr}{e1:Nat}{L:List KIt}{P:Lr->Cc->Prop}(I:Inv X ((pz++[PD D e1])++[PKs y 0 []]) σ H s)(a1:L.length<64)(fD:FpOk X pz H D)(fK:FpOk X (pz++[PD D e1]) H y)(hk:∀q∈L,SqT X.K H q.2.1 (q.2.2.map V.int)/\q.2.2≠[])(nd:(L.map (·.2.2)).Nodup)(Y:Vals (L.map (·.1)) its)(hcall:∀(pins':List (Addr×Obj))(s':Cc)(q:KIt)(u:Cb),(∀p∈pz,p∈pins')->Inv X pins' σ H s'->q∈L->RelV q.1 u->Ck (Cn X.prog X.w) A (call (.ref f) [u]) (EP X pins' σ λv H'=>v=.ref q.2.1/\H'=H) (λ_ _=>False) s')(h:∀(s':Cc)(L':List KIt),L'.Perm L->L'.Pairwise (λa b=>HT.lexLt a.2.2 b.2.2=true)->Inv X pz σ (upd H D (.lst (L'.map (·.1)))) s'->P (.done (.ret .none)) s') :
  Ck (Cn X.prog X.w) A (ksk_rest D (.ref f) false its.toArray e1 (.ref y)) P E s:=by
 let el:its.length=L.length:=by have:=Y.length;simp only[Ja]at this;lia
 unfold ksk_rest;refine D0 (Et ?_)
 first
  |rw[List.forIn_toArray]
  |(rw[<-Dd];simp only[Jdu])
  |rw[<-Dd]
 refine D0 (ksk_fold (λn s'=>∃e,Inv X ((pz++[PD D e1])++[PKs y e (L.take n)]) σ H s') its 0 s ⟨0,by simpa using I⟩ (λj x s' hx⟨e,J⟩=>?_) λs'⟨e,J⟩=>?_)
 .simp only[Bu]at J⊢;let hj:j<its.length:=(Jg.mp hx).1;let B:j<L.length:=by lia
  let⟨u,hu,r1⟩:=Vals.get Y (i:=j) (x:=L[j].1) (by rw[Gc,Jb B];rfl);rw[hx]at hu;cases hu;refine D0 (Mt (Jac (hcall _ s' L[j] x (λp hp=>Gs _ (Gs _ hp)) J (Js B) r1) (λk G Z=>?_) λ_ _ hF=>hF.elim));let⟨v,H',J',rk,ev,eH⟩:=Z;subst ev;subst eH;obtain rfl:k=Cd L[j].2.1:=rk;let O:=J'.pin (PKs y e (L.take j)) (Jp _ (Jp _ (Je.mpr rfl)));let s1:=Ef G.heap y (Cr (·.push (Cd L[j].2.1)));let ea:(Zh (L.take j)).toArray.push (Cd L[j].2.1)=(Zh (L.take (j+1))).toArray:=by
   let e2:Zh (L.take (j+1))=Zh (L.take j)++[Cd L[j].2.1]:=by
    unfold Zh;rw[Jd B,Jj];rfl
   rw[e2,Jem]
  obtain⟨c2,a0⟩:∃c2,(G.heap.update y (Cr (·.push (Cd L[j].2.1)))).get? y=some (Eh "list" (Zh (L.take (j+1))).toArray c2):={_,by rw[<-ea];exact Kt O.1 (·.push (Cd L[j].2.1))};let hsz:(Zh (L.take j)).toArray.size<64:=by simp only[Jq,Zh,Ja,Jz];lia
  try dsimp only
  refine D0 (Ku O.1 rfl ?_ (by rw[C0];show(Zh (L.take j)).toArray.size<=_;lia) (Jx (Bz (Array.size_push ..)) (by rw[C0];show(Zh (L.take j)).toArray.size+1<=_;lia)));refine D1 {rfl,c2,?_};let J1:=(J'.unpinned (pl:=[PKs y e (L.take j)])).turn1 fK s1;exact J1.pin1 fK a0 (by intro v;simp)
 .simp only[Bu]at J;rw[el,Gb]at J;let O:=J.pin (PKs y e L) (Jp _ (Jp _ (Je.mpr rfl)))
  try dsimp only
  refine D0 (listItems_at O.1 rfl ?_);exact Zlm J a1 fD fK hk nd Y h
theorem Zpw{L:List KIt}(I:Inv X pz σ H s)(hl:SqL X.K H l (L.map (·.1)))(Y:L.length<64)(hk:∀q∈L,SqT X.K H q.2.1 (q.2.2.map V.int)/\q.2.2≠[])(nd:(L.map (·.2.2)).Nodup)(hcall:∀(pins':List (Addr×Obj))(s':Cc)(q:KIt)(u:Cb),(∀p∈pz,p∈pins')->Inv X pins' σ H s'->q∈L->RelV q.1 u->Ck (Cn X.prog X.w) X.A.in1.in1 (call (.ref f) [u]) (EP X pins' σ λv H'=>v=.ref q.2.1/\H'=H) (λ_ _=>False) s')(h:∀(D:Addr)(L':List KIt),H D=none->L'.Perm L->L'.Pairwise (λa b=>HT.lexLt a.2.2 b.2.2=true)->Q (.ref D) (upd H D (.lst (L'.map (·.1))))) :
  Ck (Cn X.prog X.w) X.A (call (.builtin "sorted") [.ref l] [(C8 "key",.ref f)]) (EP X pz σ Q) E s:=by
 let⟨its,rv,pl,_⟩:=I.list hl;let el:its.length=L.length:=by have:=rv.length;simp only[Ja]at this;lia
 refine call_function_entry_kw kind_sorted plain_sorted entry_sorted (ksk_s1 _ _) ?_;unfold Builtin.«sorted»;refine D0 (m:=checkCount "sorted" 1 1 _) (D1 ?_);refine D0 (collect_list pl.isList ?_ (by rw[C0];lia));refine D0 (Lh ?_ (by rw[C0];lia));let hsz:((s.heap.push (Eh "list" #[] 0)).update s.heap.objs.size (Cr (·++its.toArray))).objs.size=s.heap.objs.size+1:=by
  rw[Heap.size_update,Jc2]
 let y:(((s.heap.push (Eh "list" #[] 0)).update s.heap.objs.size (Cr (·++its.toArray))).push (Eh "list" its.toArray 0)).get? (s.heap.objs.size+1)=some (Eh "list" its.toArray 0):=by
  rw[<-hsz];exact D3 _ rfl
 let keep:∀b o,s.heap.get? b=some o->(((s.heap.push (Eh "list" #[] 0)).update s.heap.objs.size (Cr (·++its.toArray))).push (Eh "list" its.toArray 0)).get? b=some o:=λb o q=>by
  let B:b<s.heap.objs.size:=D4 q;rw[Ka _ _ _ (by rw[hsz];exact Gn (B6 B)),Heap.get?_update_ne _ _ _ _ (Gn B),Ka _ _ _ (Gn B)];exact q
 let O:FpOk X pz H (s.heap.objs.size+1):=I.fpOk (Fu _) (I.hok.fresh (Fu _));let I1:Inv X pz σ H {s with heap:=((s.heap.push (Eh "list" #[] 0)).update s.heap.objs.size (Cr (·++its.toArray))).push (Eh "list" its.toArray 0)}:=I.kept (t':=s.toks) keep;show Ck _ _ _ _ _ {s with heap:=((s.heap.push (Eh "list" #[] 0)).update s.heap.objs.size (Cr (·++its.toArray))).push (Eh "list" its.toArray 0)};rw[hsz];generalize hD:s.heap.objs.size+1=D at *
 generalize hh:((s.heap.push (Eh "list" #[] 0)).update s.heap.objs.size (Cr (·++its.toArray))).push (Eh "list" its.toArray 0)=hp at *
 refine D0 (Ec (wpAny_call_entry_kw slot_list_sort {_,y,rfl} Jfd ?body (ksk_l1 _ _)))
 case body =>
  show Ck (Cn X.prog X.w) X.A.in1.in1 (Builtin.«list.sort» {[.ref D],[(C8 "key",.ref f)]}) _ _ _;rw[ksk_t1];let s1:=Ef hp D (Cr λ_=>(#[]:Array Cb));obtain⟨e1,G⟩:∃e1,(hp.update D (Cr λ_=>(#[]:Array Cb))).get? D=some (Eh "list" #[] e1):={_,Kt y λ_=>#[]};let Z:=(I1.turn1 O s1).pin1 O G (by intro v;simp);let I3:Inv X (pz++[PD D e1]) σ H {s with heap:=((hp.update D (Cr λ_=>(#[]:Array Cb))).push (Eh "tuple" its.toArray 0)).push (Eh "list" #[] 0)} :=
   Z.kept (t':=s.toks) λb o e=>D2 _ (D2 _ e)
  let J:(hp.update D (Cr λ_=>(#[]:Array Cb))).objs.size<=((hp.update D (Cr λ_=>(#[]:Array Cb))).push (Eh "tuple" its.toArray 0)).objs.size:=by rw[Jc2];exact Fu _
  let fK:FpOk X (pz++[PD D e1]) H ((hp.update D (Cr λ_=>(#[]:Array Cb))).push (Eh "tuple" its.toArray 0)).objs.size:=Z.fpOk J (Z.hok.fresh J);unfold ksk_tree;refine D0 (listItems_at y rfl ?_);refine D0 (Ku y rfl ?_ (by rw[Jq,C0];lia) (Ge _));refine D0 (seqEpoch_at G rfl ?_);refine D0 (wpAny_newTuple ?_ (by show its.length<=_;rw[C0];lia));refine D0 (Lh ?_ (Ge _));refine Ec ?_;refine Zhd (L:=L) (I3.pin1 fK (D3 _ rfl) (by intro v;simp)) Y O fK hk nd rv hcall λs' L' p w I'=>?_;exists ·,D1 {_,rfl,.ref D,_,I',rfl,h D L' O.1 p w}
end
def codeφ(c:Addr)(q:Str):HO:=.ext λh=>h.CodeRec (.ref c) q
def V3(P:Addr)(pos:Pos)(q:Str)(H:Hp):Prop :=
 ∃ps,H P=some (.tbl ps)/\TriplesOk ps.toList/\(Jfe pos ps.toList=none\/∃c,Jfe pos ps.toList=some (.ref c)/\H c=some (codeφ c q))
def Q3(P:Addr)(H H':Hp):Prop:=∀b o,b≠P->H b=some o->H' b=some o
def Q3.refl(P:Addr)(H:Hp):Q3 P H H:=λ_ _ _ h=>h
def V3.same{P:Addr}{q:Str}(t:V3 P pos q H)(s:Same H H'):V3 P pos q H':=by
 let⟨ps,a,b,c⟩:=t;exists ps,s _ _ a,b,?_;rcases c with c|⟨c',d,e⟩
 .exact .inl c
 .exact .inr ⟨c',d,s _ _ e⟩
def Bm(mg:Str->Option Cb)(h:Heap):Prop:=∃B y,mg "__builtins__"=some (.ref B)/\B≠Jc0/\h.get? B=some y/\y.cls=.type "module"/\y.dict=some Jc0/\y.data=.plain
abbrev T1(q:Str)(params:Arguments)(body:Expr)(scope:Scope)(pm y h:Cb):Obj :=
 {cls:=.type "function",data:=.func (kla_fn "<lambda>" q params body scope [] pm y h)}
section
def Zmy{q:Str}(x:h.CodeRec (.ref c) q) :Y0 P w H h c (codeφ c q) :=
 {x,let⟨B,o,_,_,e,y,_⟩:=x;{o,by cases e;exact y},λ_ _ a b=>a.at λo e=>b o e}
def Zmk{params:Arguments}{body:Expr}{scope:Scope}{P:Addr}{R:Cb->Cc->Prop}(I:Inv X pz σ H s)(hcode:X.env.code=.ref c)(C:CodeHd X.base c P)(B:Bm X.mg X.base)(T:V3 P pos (X.env.qual++"<lambda>") H)(a3:Jgf scope X.env=pure [])(a2:defaultsOf params X.env=([],[]))(h:∀(f y:Addr)(pm G:Cb)(H2:Hp)(s2:Cc),Q3 P H H2->V3 P pos (X.env.qual++"<lambda>") H2->H2 y=some (codeφ y (X.env.qual++"<lambda>")) ->
   Inv X (pz++[(f,T1 (X.env.qual++"<lambda>") params body scope pm (.ref y) G)]) σ H2 s2->R (.ref f) s2) :
  Ck (Cn X.prog X.w) X.A (eval (.Lambda params body scope pos) X.env) R E s:=by
 let⟨ps,O,ht,Z⟩:=T;let oP:s.heap.get? P=some (tabObj ps):=I.hok P _ O;let⟨bm,ob,b1,b2,b3,b4,b5,b6⟩:=B;let gl:s.heap.Ns Cw X.mg:=I.mod.glob.keeps I.bk;let a6:Cw≠P:=λz=>by
  let⟨o,es,ep,e,hd,_⟩:=gl;rw[z,oP]at e;cases e;cases hd
 let a7:bm≠P:=λz=>by
  let e:=I.bk _ _ b3;rw[z,oP]at e;cases e;cases b4
 let a8:bm≠Cw:=λz=>by
  let⟨o,es,ep,e,hd,_⟩:=gl;let e3:=I.bk _ _ b3;rw[z,e]at e3;cases e3;rw[hd]at b6;cases b6
 let BA:s.heap.BuiltinsAt X.mg P:={bm,ob,b1,b2,a8,a7,I.bk _ _ b3,b4,b5,b6};refine kla_eval a2 ?_;rcases Z with Z|⟨y,Z,hx⟩
 .refine kla_makeFunction (mg:=X.mg) a3 I.ok.glob gl hcode (C.keeps I.bk) oP ht Z a6 BA λy G h' tk hx Y a1 a0 a4=>?_;let hn:H y=none:=I.hok.fresh Y;let cP:y≠P:=λz=>by rw[z,O]at hn;cases hn
  let cR:(h'.push (T1 (X.env.qual++"<lambda>") params body scope ((X.mg "__name__").getD .none) (.ref y) G)).CodeRec (.ref y) (X.env.qual++"<lambda>"):=a0.at λo e=>D2 _ e;let keep:∀b o,b≠P->s.heap.get? b=some o->(h'.push (T1 (X.env.qual++"<lambda>") params body scope ((X.mg "__name__").getD .none) (.ref y) G)).get? b=some o:=λb o n e=>D2 _ (hx b o n e);let tb:=D2 (T1 (X.env.qual++"<lambda>") params body scope ((X.mg "__name__").getD .none) (.ref y) G) a4;let J:∀b o,b≠P->H b=some o->upd (upd H P (.tbl (ps++#[Ke pos.line,Ke pos.col,.ref y]))) y (codeφ y (X.env.qual++"<lambda>")) b=some o:=λb o n e=>by
   rw[Zo (Zx e hn),Zo n];exact e
  let a5:HOk X.prog X.w (upd (upd H P (.tbl (ps++#[Ke pos.line,Ke pos.col,.ref y]))) y (codeφ y (X.env.qual++"<lambda>"))) (h'.push (T1 (X.env.qual++"<lambda>") params body scope ((X.mg "__name__").getD .none) (.ref y) G)):=λb u e=>by
   by_cases hb:b=y
   .subst hb;rw[Ze]at e;cases e;exact Zmy cR
   .rw[Zo hb]at e
    by_cases hb2:b=P
    .subst hb2;rw[Ze]at e;cases e;exact tb
    .rw[Zo hb2]at e;refine(I.hok b u e).stay (λd v hd q=>keep d v ?_ q) (λd q=>J d _ (λz=>by rw[z,O]at q;cases q) q) λd xs q=>J d _ (λz=>by rw[z,O]at q;cases q) q;rcases hd with z|z
     .rw[z];exact hb2
     .intro w;rw[w,O]at z;cases z
  let un:Un X.fs [] H (upd (upd H P (.tbl (ps++#[Ke pos.line,Ke pos.col,.ref y]))) y (codeφ y (X.env.qual++"<lambda>"))) s.heap (h'.push (T1 (X.env.qual++"<lambda>") params body scope ((X.mg "__name__").getD .none) (.ref y) G)):=by
   let nP:∀b,H b=none->b≠P:=λb n z=>by rw[z,O]at n;cases n
   exists λb o e n _ _=>keep b o (nP b n) e,λb o e n _ _=>{o.slots,keep b o (nP b n) e},λb o e n _=>?_,λb o e _=>?_,λb xs q=>J b _ (λz=>by rw[z,O]at q;cases q) q,λb o u q=>J b _ (λz=>by rw[z,O]at q;cases q) q,λb qs q=>?_
   .let:b≠y:=Gn (Gm (D4 e) Y);rw[Zo this,Zo (nP b n)];exact n
   .by_cases hb:b=P
    .exists _,hb ▸ tb
    .exists o,keep b o hb e
   .by_cases hb:b=P
    .subst hb;rw[O]at q;cases q;exact{#[Ke pos.line,Ke pos.col,.ref y],by rw[Zo cP.symm,Ze]}
    .exact{#[],by rw[J b _ hb q];simp}
  let I2:=I.un (t':=tk) un a5;let fz:s.heap.objs.size<=h'.objs.size:=Jx Y (Fi a1);let fn:upd (upd H P (.tbl (ps++#[Ke pos.line,Ke pos.col,.ref y]))) y (codeφ y (X.env.qual++"<lambda>")) h'.objs.size=none:=by
   rw[Zo (Nat.ne_of_gt a1),Zo (λz=>Dx (D4 oP) (by rw[<-z];exact Nat.not_lt.mpr fz))];exact I.hok.fresh fz
  let fF:=I.fpOk (H':=upd (upd H P (.tbl (ps++#[Ke pos.line,Ke pos.col,.ref y]))) y (codeφ y (X.env.qual++"<lambda>"))) fz fn;refine h h'.objs.size y _ G _ _ J {_,by rw[Zo cP.symm,Ze],?_,.inr {y,?_,Ze}} Ze (I2.pin1 fF (D3 _ rfl) (by intro v;simp))
  .rw[Gr];exact TriplesOk_snoc _ _ _ _ ht
  .rw[Gr];exact codeAmong_snoc _ ht Z
 .refine kla_makeFunctionHit (mg:=X.mg) a3 I.ok.glob gl hcode (C.keeps I.bk) oP ht Z BA λG h' tk hk hsz=>?_;let I2:Inv X pz σ H {s with heap:=h'.push (T1 (X.env.qual++"<lambda>") params body scope ((X.mg "__name__").getD .none) (.ref y) G),toks:=tk}:=I.kept (t':=tk) λb o e=>D2 _ (hk b o e);let fF:=I.fpOk (H':=H) hsz (I.hok.fresh hsz);exact h h'.objs.size y _ G H _ (.refl _ _) {ps,O,ht,.inr ⟨y,Z,hx⟩} hx (I2.pin1 fF (D3 _ rfl) (by intro v;simp))
def Zq4{O:Ha}{K:Frag}{base:Heap}{outer:List Env}{G:Addr}{q x:Str}{params:Arguments}{body:Expr}{scope:Scope}{B:Cb}{u:Cb}{v:V}{t:TE}(h:Env0 O w K mg base A outer s H)(hr:Room 1 A)(ho:s.heap.get? f=some (T1 q params body scope pm (.ref G) B))(a0:s.heap.CodeRec (.ref G) q)(S:FnScope [x] [x] scope)(hbind:Jdz (kla_fn "<lambda>" q params body scope [] pm (.ref G) B) {[u],[]}=pure [(x,u)])(rv:RelV v u)(hb:PE (cxOf CX0 O w K mg base [x] q scope f (.ref G) A outer s H E0) body t)(ht:t [some v] H Q) :
  Lp (Cn O w) A (.call (.ref f) {[u],[]}) (CR CX0 outer O w H s Q E0) s:=by
 let KX:K.In s.heap:=h.mod.kin.keeps λb o e=>(h.bs b o e).1;let Z:s.heap.NoLimit:=h.mod.nolimit.keeps λb o e=>(h.bs b o e).1;refine kla_callFunE hr.depth ho rfl S.co S.gen rfl a0 ?_;rw[hbind];refine D1 ?_;refine Lx S.kind (λy hy=>?_) λenv he s1 x1=>?_
 .let ey:y=(x,u):=Je.mp hy;subst ey;rcases S.par x (Je.mpr rfl)with z|z
  .exact .inl z
  .exact .inr {z,PySem.W.cellsFrom_some _ _ _ (.inl z)}
 .subst he;exists Z.keeps x1.toInCall.keep,kla_codeExpr ?_;let I:Inv (cxOf CX0 O w K mg base [x] q scope f (.ref G) A outer s H E0) [] (Tj [x] [v]) H s1:=Zbl (us:=[u]) S hr.hd h rfl (.cons rv .nil) x1;refine Jac (hb [] s1 (Tj [x] [v]) H Q I ht) (λr s' hs=>?_) λe s' hs=>hs;let⟨v',H',J,Y,q'⟩:=hs;exists v',H',J.os,J.bare,J.base,J.hok,Y,q'
end
def Q3.sqL{K:Frag}{P:Addr}{ps:Array Cb}(e:Q3 P H H')(y:H P=some (.tbl ps)){a:Addr}(h:SqL K H a xs):SqL K H' a xs:=by
 rcases h with(h|⟨o,h⟩)|h
 .exact .inl (.inl (e _ _ (λz=>by rw[z,y]at h;cases h) h))
 .exact .inl (.inr {o,e _ _ (λz=>by rw[z,y]at h;cases h) h})
 .exact .inr h
def Q3.sqT{K:Frag}{P:Addr}{ps:Array Cb}(e:Q3 P H H')(y:H P=some (.tbl ps)){a:Addr}(h:SqT K H a xs):SqT K H' a xs:=by
 rcases h with(h|⟨o,h⟩)|h
 .exact .inl (.inl (e _ _ (λz=>by rw[z,y]at h;cases h) h))
 .exact .inl (.inr {o,e _ _ (λz=>by rw[z,y]at h;cases h) h})
 .exact .inr h
def Zs0(K:Frag)(P:Addr)(h:Pos)(qual:Str)(tb:TE)(ta:TA):TE:=λσ H Q=>ta σ H λvs H1=>∃(l:Addr)(L:List KIt),vs=[.ref l]/\SqL K H1 l (L.map (·.1))/\L.length<64 /\
 (∀q∈L,SqT K H1 q.2.1 (q.2.2.map V.int)/\q.2.2≠[])/\(L.map (·.2.2)).Nodup/\V3 P h qual H1/\(∀y q,Q3 P H1 y->q∈L->tb [some q.1] y λv H'=>v=.ref q.2.1/\H'=y) /\
 ∀(y:Hp)(D:Addr)(L':List KIt),Q3 P H1 y->V3 P h qual y->y D=none->L'.Perm L->L'.Pairwise (λa b=>HT.lexLt a.2.2 b.2.2=true)->Q (.ref D) (upd y D (.lst (L'.map (·.1))))
section
theorem Zl7{e:Expr}{ta:TA}{P:Addr}{x:Str}{params:Arguments}{body:Expr}{scope:Scope}{p y kpos:Pos}(hr:Room 3 X.A)(hg:Gl X "sorted")(hm:X.mg "sorted"=none)(ha:PA X [e] ta)(hcode:X.env.code=.ref c)(C:CodeHd X.base c P)(B:Bm X.mg X.base)(a1:Jgf scope X.env=pure [])(a0:defaultsOf params X.env=([],[]))(S:FnScope [x] [x] scope)(hbind:∀(pm cv O u:Cb),Jdz (kla_fn "<lambda>" (X.env.qual++"<lambda>") params body scope [] pm cv O) {[u],[]}=pure [(x,u)])(hb:∀(f Y:Addr)(A:Kw)(outer:List Env)(s:Cc)(H:Hp),PE (cxOf CX0 X.prog X.w X.K X.mg X.base [x] (X.env.qual++"<lambda>") scope f (.ref Y) A outer s H E0) body tb)(he:Cs [e] X.env=[(false,eval e X.env)]:=by rfl) :
  PE X (.Call (.Name "sorted" p) [e] [{some "key",.Lambda params body scope y,kpos}] pos) (Zs0 X.K P y (X.env.qual++"<lambda>") tb ta):=by
 intro pz s σ H Q I h;refine E9 (Pn I hg hm C2 ?_);refine callWith_kw (thn (ha pos pz s σ H _ I h) λus s1 hz=>?_) (by rw[he];rfl) (by rw[he];rfl);let⟨vs,H1,I1,r1,l,L,ev,hl,a3,hk,nd,T,a2,q1⟩:=hz;subst ev;let⟨u,rfl,ru⟩:=Vals.one r1;obtain rfl:u=Cd l:=ru;let⟨ps,hP,_,_⟩:=id T;show Ck _ _ (evalAll [do let v <-eval (.Lambda params body scope y) X.env;Jdp pos;pure v]) _ _ s1;refine wpAny_evalAll_cons (D0 (Zmk I1 hcode C B T a1 a0 λf Y pm O H2 s2 sT T2 hx I2=>D0 (Lf (D1 (wpAny_evalAll_nil ?_)))));show Ck _ _ (call (.builtin "sorted") [.ref l] [(C8 "key",.ref f)]) _ _ s2
 refine Jac (Zpw (Q:=Q) (E:=X.xe) I2 (sT.sqL hP hl) a3 (λq hq=>{sT.sqT hP (hk q hq).1,(hk q hq).2}) nd (λpins' s' q u hp I' hq rv=>?_) λD L' n p w=>q1 H2 D L' sT T2 n p w) (λv s'⟨v',H',J,rv,qq⟩=>{v',H',J.unpinned,rv,qq}) λ_ _ z=>z;let Z:=I'.pin (f,T1 (X.env.qual++"<lambda>") params body scope pm (.ref Y) O) (Jp _ (hp _ (Jp _ (Je.mpr rfl))));refine Jga (L5 (Zq4 (I'.env0.in1.in1) hr.in1.in1 Z.1 (I'.hok Y _ hx).1 S (hbind pm (.ref Y) O u) rv (hb f Y _ _ _ _) (a2 H2 q sT hq)) λr a4 G=>?_);cases r with
 |error e=>exact C3 G
 |ok fl =>
  cases fl with
  |ret u=>exact I'.after G
  |next=>exact C3 G
  |brk=>exact C3 G
  |cont=>exact C3 G
end
end L2
namespace L2
open PySem PySem.Spec PyProof.Rows
def Zkw(P:Addr)(H:Hp):Prop:=H P=some (.tbl #[])/\∀b,b≠P->H b=none\/∃o xs,H b=some (.frz o (.lst xs))
def Zkw.tab{P:Addr}(o:Zkw P H)(pos:Pos)(q:Str):V3 P pos q H:={#[],o.1,trivial,.inl rfl}
theorem Zjb{mb:Str->Option Cb}{k:Nat}{fa a:Addr}{x:Str}{sp:Sp}{y:Cc}{vs:List Cb}(KX:K.In y.heap)(a4:y.heap.Ns Cw mg)(B:y.heap.Ns Jc0 mb)(c0:∀x:Str,x≠"__name__"->mb x=K5 x)(a5:y.heap.NoLimit)(b9:Bm mg y.heap)(hg:y.gens=#[])(Z:y.heap.get? a=some {cls:=.type "list",data:=.seq vs.toArray})(hi:E4 vs ns)(hl:ns.length<=Ca)(hr:Room k Jek)(hP:y.heap.get? Pt=some (Jhl #[]))(a7:K.lookup Pt=none)(hC:W.CodeHd y.heap c Pt)(F:∀base:Heap,K.In base->base.Ns Cw mg->Bm mg base->FnOk P w K mg base CX k fa fd [x] sp)(hbind:∀(s:Cc)(u:Cb),Jef s fd {[u],[]} [(x,u)])(b8:∀H:Hp,Zkw Pt H->SqL K H a (ns.map V.int)->sp [.ref a] H (λv _=>v=.bl true) λ_ _ _=>False)(c1:∀H e s',CX [] H y (λ_ _ _=>False) e s'->False) :
  Lp (Cn P w) Jek (.call (.ref fa) {[.ref a],[]}) (λr s'=>r=.ok (.ret (.bool true))/\OldK y.heap s'.heap/\s'.os=y.os/\Ja5 s'.gens) y:=by
 let rv:=Zav hi;let a2:=hi.length;let aP:a≠Pt:=λz=>by rw[z,hP]at Z;cases Z
 let Y:∀H:Hp,Zkw Pt H->SqL K H a (ns.map V.int)->HOk P w H y.heap->(∀b,H b≠none->b=a\/b=Pt)->(∀b,H b≠none->K.lookup b=none) ->
   Lp (Cn P w) Jek (.call (.ref fa) {[.ref a],[]}) (λr s'=>r=.ok (.ret (.bool true))/\OldK y.heap s'.heap/\s'.os=y.os/\Ja5 s'.gens) y:=by
  intro H hO hS a3 hA hK;let base_of:∀{b:Addr}{o:Obj},y.heap.get? b=some o->H b=none->(hidT y.heap H).get? b=some o:=λe n=>Zmp e n;let a1:∀{b:Addr}{o:Obj},y.heap.get? b=some o->(∀its n,o.data≠.seq its n)->(∀ps,o.data≠.fields ps)->H b=none:=λ{b o}e d d2=>by
   cases q:H b with
   |none=>rfl
   |some u =>
    rcases hA b (by rw[q];simp)with e'|e'
    .subst e';rw[Z]at e;cases e;exact Dx rfl (d _ _)
    .subst e';rw[hP]at e;cases e;exact Dx rfl (d2 _)
  let J:∀{b:Addr}{m:Str->Option Cb},y.heap.Ns b m->(hidT y.heap H).Ns b m:=λ{b m}⟨o,es,ep,e,d,r⟩=>{o,es,ep,base_of e (a1 e (by rw[d];intro _ _ z;cases z) (by rw[d];intro _ z;cases z)),d,r};let a8:K.In (hidT y.heap H):=λb o e=>base_of (KX b o e) (by
   cases q:H b with
   |none=>rfl
   |some u=>rw[hK b (by rw[q];simp)]at e;cases e)
  let c2:Bm mg (hidT y.heap H):=by
   let⟨bm,ob,b1,b2,b3,b4,b5,b6⟩:=b9;exists bm,ob,b1,b2,base_of b3 (a1 b3 (by rw[b6];intro _ _ z;cases z) (by rw[b6];intro _ z;cases z)),b4,b5,b6
  let hM:Mod K mg (hidT y.heap H):={a8,J a4,⟨mb,J B,c0⟩,let⟨mc,h1,h2⟩:=a5;⟨mc,J h1,h2⟩};let e0:Env0 P w K mg (hidT y.heap H) Jek [] y H:={rfl,hM,λb o e=>Zqt e,Bz (Zjr _ _),trivial,λb B=>Dx (show b∈([]:List Addr)from B) (by simp),a3,.of_eq hg};refine L5 ((F _ a8 (J a4) c2).run Jek [] y H {[.ref a],[]} [.ref a] [.ref a] _ _ hr e0 (hbind y (.ref a)) (.cons rfl .nil) (b8 H hO hS)) λr s' h=>?_;cases r with
  |error e=>exact(c1 H e s' h).elim
  |ok fl =>
   cases fl with
   |next=>exact C3 h
   |brk=>exact C3 h
   |cont=>exact C3 h
   |ret u =>
    let⟨v,H',os,b7,un,O,r',q⟩:=h;let q':v=.bl true:=q;subst q';obtain rfl:u=Kj true:=r';let kp:∀b o,b≠Pt->y.heap.get? b=some o->s'.heap.get? b=some o:=λb o nP e=>by
     cases q:H b with
     |none=>exact un.keep b o e q (by intro z;exact Dx (show b∈([]:List Addr)from z) (by simp)) (by simp)
     |some u =>
      rcases hO.2 b nP with z|⟨ob,xs,z⟩
      .rw[q]at z;cases z
      .let z2:=un.frzs b ob _ z;let⟨e1,_⟩:=a3 b _ z;let⟨e2,_⟩:=O b _ z2;rw[e]at e1;cases e1;exact e2
    let⟨more,hm⟩:=un.tbls Pt #[] hO.1;let a6:s'.heap.get? Pt=some {cls:=.none,data:=.fields (#[]++more)}:=O Pt _ hm;exists rfl,{λb o e=>?_,λb o e=>?_},os,b7
    .by_cases hbP:b=Pt
     .subst hbP;rw[hP]at e;cases e;exact .inr (.inl {(hC.tab hP).isCodeTable,rfl,#[],more,rfl,a6})
     .exact .inl (kp b o hbP e)
    .by_cases hbP:b=Pt
     .subst hbP;exists _,a6
     .exists o,kp b o hbP e
 let a0:∀(H:Hp),Y0 P w H y.heap Pt (.tbl #[]):=λH=>hP;cases hk:K.lookup a with
 |some o =>
  let e:=KX a o hk;rw[Z]at e;cases e;refine Y (λb=>if b=Pt then some (.tbl #[])else none) {D7 rfl,λb B=>.inl (D6 B)} (.inr {_,vs.toArray,_,hk,rfl,rfl,rfl,by rw[Jq,a2];exact hl,by simpa using rv}) (λb u z=>?_) (λb z=>?_) λb z=>?_
  .by_cases B:b=Pt
   .let G:=(D7 B).symm.trans z;cases G;rw[B];exact a0 _
   .let G:=(D6 B).symm.trans z;cases G
  .by_cases B:b=Pt
   .exact .inr B
   .exact Dx (D6 B) z
  .by_cases B:b=Pt
   .rw[B];exact a7
   .exact Dx (D6 B) z
 |none =>
  refine Y (λb=>if b=Pt then some (.tbl #[])else if b=a then some (.frz {cls:=.type "list",data:=.seq vs.toArray} (.lst (ns.map V.int)))else none) {D7 rfl,λb B=>?_}
   (.inl (.inr {{cls:=.type "list",data:=.seq vs.toArray},(D6 aP).trans (D7 rfl)})) (λb u z=>?_) (λb z=>?_) λb z=>?_
  .by_cases hba:b=a
   .exact .inr {_,_,(D6 B).trans (D7 hba)}
   .exact .inl ((D6 B).trans (D6 hba))
  .by_cases B:b=Pt
   .let G:=(D7 B).symm.trans z;cases G;rw[B];exact a0 _
   .let z1:=(D6 B).symm.trans z
    by_cases hba:b=a
    .let G:=(D7 hba).symm.trans z1;cases G;subst hba;exists Z,by rw[Ja];exact hl,vs,_,rv,Z
    .let G:=(D6 hba).symm.trans z1;cases G
  .by_cases B:b=Pt
   .exact .inr B
   .by_cases hba:b=a
    .exact .inl hba
    .exact Dx ((D6 B).trans (D6 hba)) z
  .by_cases B:b=Pt
   .rw[B];exact a7
   .by_cases hba:b=a
    .rw[hba];exact hk
    .exact Dx ((D6 B).trans (D6 hba)) z
def Zk3{l:Jg4}{n k:Nat}{q:Ha}{loose:List Str}{XP:(Str->Option Cb)->Heap->Prop}{YP:Hz->Heap->Prop}{d:DefRec}{K:Params->Cq}{CX:Hz->CXT}{sp:Hz->Sp}{x:Str}(hn:l.most=some n)(a0:n<=Ca)(a2:d.params.defaults=[])(hr:Room k Jek)(hY:∀(w:Hz)(h:Heap),YP w h->(K w.params).In h)(a3:∀(w:Hz)(h:Heap),YP w h->h.get? Pt=some (Jhl #[]))(a4:∀w:Hz,(K w.params).lookup Pt=none)(F:∀(w:Hz)(mg:Str->Option Cb)(O:Addr)(h:Heap),(K w.params).In h->h.Ns Cw mg->mg d.name=some (.ref O) ->
   ∃fd:L4,(∃c,Jen (K w.params) c Pt=true)/\(∀(s:Cc)(u:Cb),Jef s fd {[u],[]} [(x,u)]) /\
    ∀base:Heap,(K w.params).In base->base.Ns Cw mg->Bm mg base->FnOk l.prog w (K w.params) mg base (CX w) k O fd [x] (sp w))(Z:∀(w:Hz)(H:Hp)(a:Addr)(ns:List Int),ns.length<=n->Zkw Pt H->SqL (K w.params) H a (ns.map V.int)->sp w [.ref a] H (λv _=>v=.bl true) λ_ _ _=>False)(a5:∀(w:Hz)(H:Hp)(s:Cc)(e:Cb)(s':Cc),CX w [] H s (λ_ _ _=>False) e s'->False) :
  W.WalkO q loose XP YP l.row.toRowW d [] (λf vs=>Jge f vs):=by
 refine Att.attach_call hn a2 λw s₀ B mg mb O o pm cd a7 a vs ns G Y ho hd a6 a1 J hints y hg=>?_;let KX:=hY w _ Y;let⟨fd,⟨c,hC⟩,hb,hF⟩:=F w mg O _ KX G.T.g a1;exact Zjb KX G.T.g G.T.b G.T.builtins G.T.nolimit G.T.bmain hg J hints (Jx y a0) hr (a3 w _ Y) (a4 w) (Jgr KX hC) hF hb (λH hO hS=>Z w H a ns y hO hS) λH e s'=>a5 w H B e s'
section
variable{a:Addr}{o:Obj}{xs:Array Cb}{k:Nat}
def Q9{Q:Option Cb->Cc->Prop}(hx:s.heap.get? a=some o)(Y:o.cls=.type "list")(y:o.data=.seq xs k)(hd:o.dict=none)(hA:A.handled=none)(h:∀h' tk e,Jgs s.heap h' e "AttributeError"->Q none {s with heap:=h',toks:=tk}):Ck (Cn prog w) A (Jgt (.ref a) "keys") Q E s:=by
 let⟨c,a0,a1,sl⟩:=o;simp only at Y y hd;subst Y y hd;let⟨hp,g,d,tk,os⟩:=s;let Z:∀G,(⟨hp,g,d,G,os⟩:Cc).TypeIs (.ref a) "list":=λ_=>{_,hx,rfl};let f1:=Jd7;let f3:=F.slot_list_getattribute.lookup;let f4:=F.slot_list_getattribute.bind (.ref a);let f5:=am_list_getattr_none;let hmiss:Jeh (.type "list") "keys"=pure none:=by rw[Jb5,K7];kernel_rfl
 unfold Jgt getAttrBy? getAttrBy
 repeat (any_goals (first|assumption|exact Z _|((with_reducible show Ck _ _ (call (Mu "list.__getattribute__") _ _) _ _ _);refine Kp F.slot_list_getattribute (Z _) am_entry_list_getattribute (F.args_list_getattribute_2 _ _) (meets_getattribute_miss_list a xs k sl "keys" _ hmiss (by decide +kernel)) {hx,hA,λh' G e J=>?_})|wp_step))
 let⟨t',u',he⟩:=J.there;let O:∀B,(⟨h',g,d,B,os⟩:Cc).TypeIs (.ref e) "AttributeError":=λ_=>{_,he,rfl};show Ck _ _ (Kv _ _ _ _ _ _ _) _ _ _;unfold Kv
 repeat (any_goals (first|assumption|exact O _|wp_step))
 all_goals exact h _ _ _ J.of
def Qh{Q:Option Cb->Cc->Prop}(hx:s.heap.get? a=some o)(Y:o.cls=.type "tuple")(y:o.data=.seq xs k)(hd:o.dict=none)(hA:A.handled=none)(h:∀h' tk e,Jgs s.heap h' e "AttributeError"->Q none {s with heap:=h',toks:=tk}):Ck (Cn prog w) A (Jgt (.ref a) "keys") Q E s:=by
 let⟨c,a0,a1,sl⟩:=o;simp only at Y y hd;subst Y y hd;let⟨hp,g,d,tk,os⟩:=s;let Z:∀G,(⟨hp,g,d,G,os⟩:Cc).TypeIs (.ref a) "tuple":=λ_=>{_,hx,rfl};let f1:=Jd7;let f3:=F.slot_tuple_getattribute.lookup;let f4:=F.slot_tuple_getattribute.bind (.ref a);let f5:=am_tuple_getattr_none;let hmiss:Jeh (.type "tuple") "keys"=pure none:=by rw[Jb5,K7];kernel_rfl
 unfold Jgt getAttrBy? getAttrBy
 repeat (any_goals (first|assumption|exact Z _|((with_reducible show Ck _ _ (call (Mu "tuple.__getattribute__") _ _) _ _ _);refine Kp F.slot_tuple_getattribute (Z _) am_entry_tuple_getattribute (F.args_tuple_getattribute_2 _ _) (meets_getattribute_miss_tuple a xs k sl "keys" _ hmiss (by decide +kernel)) {hx,hA,λh' G e J=>?_})|wp_step))
 let⟨t',u',he⟩:=J.there;let O:∀B,(⟨h',g,d,B,os⟩:Cc).TypeIs (.ref e) "AttributeError":=λ_=>{_,he,rfl};show Ck _ _ (Kv _ _ _ _ _ _ _) _ _ _;unfold Kv
 repeat (any_goals (first|assumption|exact O _|wp_step))
 all_goals exact h _ _ _ J.of
end
end L2
namespace L2
open PySem PySem.Spec PyProof.Rows PySem.W
def Zbu:entryFor table "dict.update.loop"=some Builtin.«dict.update.loop»:=entryFor_of_tree (by kernel_rfl)
def Zba:plainId "dict.update.loop"=true:=by decide +kernel
inductive DFill(H:Hp)(D:Addr):HO->List (V×V)->HO->Prop
 |nil {o:HO}:DFill H D o [] o
 |cons {o o' o'':HO} {k v:V} {r:List (V×V)} (h:DPut (upd H D o) D k v (upd H D o')) (t:DFill H D o' r o''):DFill H D o ((k,v)::r) o''
def Zdu(K:Cq)(H:Hp)(ys:List V)(zs:List (V×V)):Prop:=Paired (λy z=>∃t,y=.ref t/\SqT K H t [z.1,z.2]) ys zs
def SqT.upd'{a D:Addr}{o:HO}(h:SqT K H a xs)(n:H D=none):SqT K (upd H D o) a xs:=by
 rcases h with(h|⟨o,h⟩)|h
 .exact .inl (.inl (by rw[Zo (Zx h n)];exact h))
 .exact .inl (.inr {o,by rw[Zo (Zx h n)];exact h})
 .exact .inr h
section
def Zca(K:Cq)(H:Hp)(h:Heap)(p it:Addr)(ys:List V)(i:Nat):Prop:=(SqL K H p ys/\h.IsListIter it p i)\/(SqT K H p ys/\h.IsTupleIter it p i)
def Zca.at{p:Addr}{i:Nat}(x:Zca K H h p it ys i)(k:∀o,h.get? it=some o->h'.get? it=some o)(hl:SqL K H p ys->SqL K H' p ys)(y:SqT K H p ys->SqT K H' p ys):Zca K H' h' p it ys i:=by
 rcases x with⟨a,b⟩|⟨a,b⟩
 .exact .inl {hl a,b.at k}
 .exact .inr {y a,b.at k}
def Zll{p:Addr}{i:Nat}{x:V}{Q:Option Cb->Cc->Prop}(I:Inv X pz σ H s)(f:FpOk X pz H it)(src:Zca X.K H s.heap p it ys i)(hx:ys[i]?=some x)(h:∀u s',RelV x u->Inv X pz σ H s'->Zca X.K H s'.heap p it ys (i+1)->Q (some u) s'):Ck (Cn X.prog X.w) A (Jc5 (.ref it)) Q E s:=by
 let⟨f0,f1,f2,f3,f4,f5⟩:=f;rcases src with⟨B,st⟩|⟨B,st⟩
 .let⟨its,G,O,hz⟩:=I.list B;let⟨u,Y,J⟩:=G.get hx;exact M8 st O.isList (x:=u) (by simpa using Y) λh' y sb=>h u _ J (I.turned (t':=s.toks) (λb o Z e=>(sb.2 b Z).trans e) f0 f1 f3 f4 f5) (.inl ⟨B,y⟩)
 .let⟨its,G,O,hz⟩:=I.tuple B;let⟨u,Y,J⟩:=G.get hx;exact Mo st (show s.heap.IsTuple p its.toArray from O) (x:=u) (by simpa using Y) λh' y sb=>h u _ J (I.turned (t':=s.toks) (λb o Z e=>(sb.2 b Z).trans e) f0 f1 f3 f4 f5) (.inr ⟨B,y⟩)
theorem Zpu{p:Addr}{i:Nat}{Q:Option Cb->Cc->Prop}(I:Inv X pz σ H s)(f:FpOk X pz H it)(Y:A.handled=none)(src:Zca X.K H s.heap p it ys i)(hx:ys.length<=i)(h:∀s',Inv X pz σ H s'->Q none s'):Ck (Cn X.prog X.w) A (Jc5 (.ref it)) Q E s:=by
 let⟨f0,f1,f2,f3,f4,Z⟩:=f;rcases src with⟨G,st⟩|⟨G,st⟩
 .let⟨its,y,B,hz⟩:=I.list G;let hl:=y.length;exact Ja8 Y st B.isList (by simp;lia) λh' O=>h _ (I.turned (t':=s.toks) (λb o J e=>O b o J e) f0 f1 f3 f4 Z)
 .let⟨its,y,B,hz⟩:=I.tuple G;let hl:=y.length;exact M9 Y st (show s.heap.IsTuple p its.toArray from B) (by simp;lia) λh' O=>h _ (I.turned (t':=s.toks) (λb o J e=>O b o J e) f0 f1 f3 f4 Z)
theorem Zka{a:Addr}{v:V}{u r:Cb}{Q:Unit->Cc->Prop}(hu:A.units<Er)(I:Inv X pz σ H s)(g:DPut H a y v H')(ry:RelV y u)(rv:RelV v r)(h:∀s',Inv X pz σ H' s'->Hu a s.heap s'.heap->Q ⟨⟩ s') :
  Ck (Cn X.prog X.w) A (dictSet a u r) Q E s:=by
 rcases g with⟨kvs,k,e,O,l,Y⟩|⟨kvs,k,b,e,O,eb,l,Y⟩
 .subst O Y;let⟨z,hd,vs,B,Z⟩:=Zrl I.hok e;let hz:vs.length<=Ca:=by rw[<-B.length];exact z
  let hl:(putK kvs k v).length<=Ca:=by have:=Y3 kvs k v;lia
  refine wpAny_dictSet_pairs (hsz:=hz) (Zc5 ry) Z λh' G hs=>h _ ?_ hs;let he:∃q,h'.get? a=some q:=let⟨q,_,_,J,_⟩:=G;⟨q,J⟩
  exact Sr I (by rw[e];exact El) hs he (Zok hl hd (B.put k rv) G)
 .subst O Y;cases(show u=Cd b from ry);let⟨z,hd,xs,B,Z⟩:=Zvb I.hok e;let hz:xs.length<=Ca:=by rw[<-Paired.length B];exact z
  let hl:(putK kvs k v).length<=Ca:=by have:=Y3 kvs k v;lia
  refine wpAny_dictSet_heap (hsz:=hz) (show(Lj (Z9 X.prog X.w)).room A from hu) (Qi I.hok eb) Z λh' G hs=>h _ ?_ hs;let⟨q,es,ep,J,h2,h3,h4,_,h5⟩:=G;refine Sr I (by rw[e];exact El) hs ⟨q,J⟩ {hl,hd,_,(B.put k eb rv).keeps λc ys ec=>?_,q,es,ep,J,h2,h3,h4,h5};rw[Zo (X5 ec e (λz=>nomatch z))];exact ec
theorem Zbv{p D:Addr}{R:Jhk->Cc->Prop}(hu:A.units+8<Er)(hA:A.handled=none)(hn:H D=none)(hit:it≠D)(y:FpOk X pz H it) :
  ∀(zs:List (V×V))(i:Nat)(o o':HO)(s:Cc)(t:Tok),Inv X pz σ (upd H D o) s->Zca X.K (upd H D o) s.heap p it ys i->Zdu X.K H (ys.drop i) zs->DFill H D o zs o' ->
   (∀s',Inv X pz σ (upd H D o') s'->R (.ok (.ret .none)) s')->Lp (Cn X.prog X.w) A (.builtin "dict.update.loop" {[.ref D,.ref it,.int i t,.none],[]}) R s
 |[],i,o,o',s,t,I,src,pa,df,h=>by
  cases df;let hl:ys.length<=i:=by
   let e:=Paired.length pa;simp only[Ga,Bf]at e;lia
  refine Lu Zbu ?_;rw[Kd Zba _];show Ck _ A.in1 (Jc5 (.ref it) >>= _) _ _ s;refine D0 (Zpu I (show FpOk X pz (upd H D o) it from{by rw[Zo hit];exact y.1,y.2}) hA src hl λs' I'=>?_);show Ck _ A.in1 (Jgg D [] >>= _) _ _ s';exact D0 (D1 (D1 (h s' I')))
 |z::zs,i,o,o'',s,t,I,src,pa,df,h=>by
  let J:i<ys.length:=by
   let e:=Paired.length pa;simp only[Ga,Jy]at e;lia
  rw[Bd J]at pa;cases pa with
  |cons p1 p2 =>
   let⟨Y,ep,sq⟩:=p1;cases df with
   | @cons _ o1 _ k v _ d1 d2 =>
    refine Lu Zbu ?_;rw[Kd Zba _];show Ck _ A.in1 (Jc5 (.ref it) >>= _) _ _ s;let O:∀o,FpOk X pz (upd H D o) it:=λo=>{by rw[Zo hit];exact y.1,y.2};refine D0 (Zll I (O o) src (Jb J) λu Z ru I1 B=>?_);rw[ep]at ru;obtain rfl:u=Cd Y:=ru;let⟨its,G,⟨ob,eo,hc,n,hd⟩,_⟩:=I1.tuple (sq.upd' (o:=o) hn);cases G with
    |cons r1 G =>
     cases G with
     |cons r2 G =>
      cases G with
      |nil =>
       rename_i uk uv
       show Ck _ A.in1 (L9 [Cd Y] _ >>= _) _ _ Z;refine D0 (Ec ?_);refine D0 (wpAny_tryCatch ?_);unfold Jgw;refine D0 (Looks.here (show Looks (Cn X.prog X.w) Z.heap (typeOf (.ref Y)) ob.cls from(Looks.ld eo).andThen .now) ?_);rw[hc,D7 nofun];unfold seqItems?;refine D0 (D0 (wpAny_load eo ?_));rw[hd];refine D1 (D1 ?_);show Ck _ A.in1 (L9 [uk,uv] (dictSet D uk uv)) _ _ Z;refine Ec (Zka (by show A.units+1<Er;lia) I1 d1 r1 r2 λs2 I2 sb=>?_);refine D1 {Jd8 _ (by decide +kernel),?_};refine Zbv hu hA hn hit y zs (i+1) o1 o'' s2 _ I2 (B.at (λa0 e=>(sb.2 it hit).trans e) (λq=>?_) λq=>?_) p2 d2 h
       .rcases q with(q|⟨oo,q⟩)|q
        .by_cases hpD:p=D
         .subst hpD;exact Dx d1 (λz=>by
           rw[Ze]at q;cases q;rcases z with⟨_,_,e,_⟩|⟨_,_,_,e,_⟩<;>rw[Ze]at e<;>cases e)
         .rw[Zo hpD]at q;exact .inl (.inl (by rw[Zo hpD];exact q))
        .by_cases hpD:p=D
         .subst hpD;exact Dx d1 (λz=>by
           rw[Ze]at q;cases q;rcases z with⟨_,_,e,_⟩|⟨_,_,_,e,_⟩<;>rw[Ze]at e<;>cases e)
         .rw[Zo hpD]at q;exact .inl (.inr {oo,by rw[Zo hpD];exact q})
        .exact .inr q
       .rcases q with(q|⟨oo,q⟩)|q
        .by_cases hpD:p=D
         .subst hpD;exact Dx d1 (λz=>by
           rw[Ze]at q;cases q;rcases z with⟨_,_,e,_⟩|⟨_,_,_,e,_⟩<;>rw[Ze]at e<;>cases e)
         .rw[Zo hpD]at q;exact .inl (.inl (by rw[Zo hpD];exact q))
        .by_cases hpD:p=D
         .subst hpD;exact Dx d1 (λz=>by
           rw[Ze]at q;cases q;rcases z with⟨_,_,e,_⟩|⟨_,_,_,e,_⟩<;>rw[Ze]at e<;>cases e)
         .rw[Zo hpD]at q;exact .inl (.inr {oo,by rw[Zo hpD];exact q})
        .exact .inr q
end
section
def Zcr(K:Cq):List V->Hp->VK->Prop:=λxs H Q=>∃(p:Addr)(ys:List V)(zs:List (V×V))(o:HO),xs=[.ref p]/\(H p=some (.lst ys)\/H p=some (.tup ys))/\Zdu K H ys zs/\(o=.dK []\/o=.dT []) /\
 ∀D,H D=none->∃o',DFill H D o zs o'/\Q (.ref D) (upd H D o')
theorem Wm(hr:Room 3 X.A)(hc:X.calm=true):Wi X (.type "dict") (Zcr X.K):=by
 intro pz s σ H xs us Q I r h;let⟨p,ys,zs,o,rfl,B,pa,ho,q⟩:=h;let⟨u,rfl,rx⟩:=Rb r;cases rx;let hA:X.A.handled=none:=I.ok.hd hc;let hD:H s.heap.objs.size=none:=I.hok.fresh (Ji _);let⟨o',df,q'⟩:=q _ hD;let pD:p≠s.heap.objs.size:=λz=>by
  rcases B with e|e<;>rw[z,hD]at e<;>cases e
 refine callType_codes (Q₁:=λobj y=>obj=.ref s.heap.objs.size/\y={s with heap:=s.heap.push {cls:=.type "dict",data:=.dict #[]} }) PySem.F.kt_called_dict (PySem.F.kt_typeCall_dict_1 _) PySem.F.entry_dict_init (kt_code_dict_new _ ⟨rfl,rfl⟩) ?_;rintro obj y ⟨rfl,rfl⟩;let I1:Inv X pz σ (upd H s.heap.objs.size o) {s with heap:=s.heap.push {cls:=.type "dict",data:=.dict #[]} }:=by
  rcases ho with e|e
  .subst e;exact I.laid (a:=s.heap.objs.size) (o:=.dK []) (t':=s.toks) (λ_ _ q=>D2 _ q) (Ji _) (Zmu s.heap I.big)
  .subst e;exact I.laid (a:=s.heap.objs.size) (o:=.dT []) (t':=s.toks) (λ_ _ q=>D2 _ q) (Ji _) (Zfb s.heap I.big)
 let hT:({s.heap.push {cls:=.type "dict",data:=.dict #[]},s.gens,s.drawn,s.toks,s.os}:Cc).TypeIs (.ref s.heap.objs.size) "dict":={_,D3 _ rfl,rfl};refine{hT,PySem.F.args_dict_init_2 _ _,?_};unfold Builtin.«dict.__init__»;refine D0 ?_;unfold Jgh;refine D0 (wpAny_notOrdered_dict hT ?_);show Ck _ _ (pure (s.heap.objs.size,[Cd p])) _ _ _;refine D1 ?_;show Ck _ _ (Mv "dict.__init__" s.heap.objs.size (.ref p) [] .none) _ _ _;unfold Mv;let a1:X.A.in1.in1.handled=none:=hA;let fin:∀(s2:Cc)(it:Addr),it≠s.heap.objs.size->FpOk X pz H it->Inv X pz σ (upd H s.heap.objs.size o) s2->Zca X.K (upd H s.heap.objs.size o) s2.heap p it ys 0 ->
   Lp (Cn X.prog X.w) X.A.in1 (.builtin "dict.update.loop" {[.ref s.heap.objs.size,.ref it,Ke 0,.none],[]}) (wants (λr Z=>r=.none/\EP X pz σ Q (.ref s.heap.objs.size) Z) X.xe) s2:=λs2 it a2 a4 Y src =>
  Zbv (A:=X.A.in1) (by have:=hr.units;show X.A.units+1+8<Er;lia) (show X.A.in1.handled=none from hA) hD a2 a4 zs 0 o o' s2 _ Y src (by simpa using pa) df λs' I'=>{rfl,.ref s.heap.objs.size,_,I',rfl,q'}
 let nq:∀it:Addr,Code.quiet (.builtin "dict.update.loop" {[.ref s.heap.objs.size,.ref it,Ke 0,.none],[]})=true:=λit=>Jd8 _ (by decide +kernel);rcases B with B|B
 .let⟨hz,its,n,rv,O⟩:=I1.hok p _ (show upd H s.heap.objs.size o p=some (.lst ys)by rw[Zo pD];exact B);refine D0 (K6 (show Jgu _ (.ref p) "list" from{_,O,rfl}) ?_);rw[D7 nofun];refine D0 (Q9 O rfl rfl rfl a1 λh' tk e ne=>?_);let Y:Inv X pz σ (upd H s.heap.objs.size o) {s with heap:=h',toks:=tk}:=I1.kept ne.keeps;simp only[Jd9,if_true];refine D0 (Et (D0 (Ky (s:={s with heap:=h',toks:=tk}) {_,ne.keeps _ _ O,rfl,n,rfl} (D1 {nq _,?_}))));let hsz:s.heap.objs.size<h'.objs.size:=D4 (ne.keeps _ _ (D3 (o:={cls:=.type "dict",data:=.dict #[]}) s.heap rfl))
  let G:({s with heap:=h',toks:=tk}:Cc).heap.objs.size<=h'.objs.size:=Ji _;let fI:=Y.fpOk (H':=H) G (I.hok.fresh (Fi hsz));refine fin _ _ (Nat.ne_of_gt hsz) fI (Y.kept (t':=tk) λb o e=>D2 _ e) (.inl {.inl (.inl (by rw[Zo pD];exact B)),{_,D3 _ rfl,rfl,rfl}})
 .let⟨hz,its,rv,ob,O,J,n,a0,a3⟩:=I1.hok p _ (show upd H s.heap.objs.size o p=some (.tup ys)by rw[Zo pD];exact B);refine D0 (K6 (show Jgu _ (.ref p) "tuple" from{_,O,J}) ?_);rw[D7 nofun];refine D0 (Qh O J a0 a3 a1 λh' tk e ne=>?_);let Y:Inv X pz σ (upd H s.heap.objs.size o) {s with heap:=h',toks:=tk}:=I1.kept ne.keeps;simp only[Jd9,if_true];refine D0 (Et (D0 (Jdw (s:={s with heap:=h',toks:=tk}) (show Heap.IsTuple h' p its.toArray from{_,ne.keeps _ _ O,J,n,a0}) (D1 {nq _,?_}))));let hsz:s.heap.objs.size<h'.objs.size:=D4 (ne.keeps _ _ (D3 (o:={cls:=.type "dict",data:=.dict #[]}) s.heap rfl))
  let G:({s with heap:=h',toks:=tk}:Cc).heap.objs.size<=h'.objs.size:=Ji _;let fI:=Y.fpOk (H':=H) G (I.hok.fresh (Fi hsz));refine fin _ _ (Nat.ne_of_gt hsz) fI (Y.kept (t':=tk) λb o e=>D2 _ e) (.inr {.inl (.inl (by rw[Zo pD];exact B)),{_,D3 _ rfl,rfl,rfl}})
end
end L2
namespace L2
open PySem PySem.Spec PyProof.Rows
section
variable{e:Expr}{st:Option Expr}{ts:TO}{p2:Pos}
def tRev(K:Cq)(te:TE)(ts:TO):TE:=λσ H Q=>te σ H λx H1=>ts σ H1 λk h=>k=some (-1)/\∃a xs,x=.ref a/\SqL K h a xs/\∀p,h p=none->Q (.ref p) (upd h p (.lst xs.reverse))
theorem Zn8(he:PE X e te)(hs:PO X st ts)(B:∀o i,∃ops,Mr (.Slice none none st p2) false o i=Jhe ops (Lc o i)):PE X (.Subscript e (.Slice none none st p2) pos) (tRev X.K te ts):=by
 intro pz s σ H Q I h;refine Jei (thn (he pz s σ H _ I h) λv s1 hz=>?_);let⟨x,H1,I1,r1,q1⟩:=hz;refine wpAny_Slice ?_;rw[Jd3];refine D1 ?_;refine D1 ?_;refine thn (hs pz s1 σ H1 _ I1 q1) λO y hz=>?_;let⟨k,H3,I3,pk,ek,a,xs,ex,hx,q⟩:=hz;subst ek;subst ex;cases r1;let J:Inv X pz σ H3 {y with heap:=y.heap.push {cls:=.type "slice",data:=.fields #[.none,.none,O]} }:=I3.kept (t':=y.toks) λb ob q=>D2 _ q;let⟨its,r,Y,hz⟩:=J.list hx;let Z:=r.length;show Ck (Cn X.prog X.w) X.A (Mq e (.Slice none none st p2) (.ref a) (.ref y.heap.objs.size)) (EP X pz σ Q) X.xe {y with heap:=y.heap.push {cls:=.type "slice",data:=.fields #[.none,.none,O]} }
 let⟨ops,G⟩:=B (.ref a) (.ref y.heap.objs.size);refine tail_any (ops:=ops) Y.isList.typeIs slot_list_getitem.lookup ?_ G;refine Me Y.isList (Jd4 ..) .none .none pk nofun ?_ (by rw[Jq]<;>lia);rw[W.krv_pick];refine{.ref _,_,J.laid (t':=y.toks) (o:=.lst xs.reverse) (λb ob q=>D2 _ q) (Ji _) ?_,rfl,q _ (J.hok.fresh (Ji _))};refine{by rw[List.length_reverse];exact hz,its.reverse,0,?_,?_}
 .let rev:∀{a:List V}{b:List Cb},Vals a b->Vals a.reverse b.reverse:=by
   intro a b h
   induction h with
   |nil=>exact .nil
   |cons h1 h2 ih=>rw[Fg,Fg];exact ih.append (.cons h1 .nil)
  exact rev r
 .exact D3 _ rfl
end
section
def U6{t sl:Addr}{y:Array Cb}{vl Z:Cb}{Q:Cb->Cc->Prop}(B:IsTup s.heap t y)(hs:s.heap.IsSliceOf sl vl Z .none)(pl:Jd1 vl lo)(pu:Jd1 Z hi)(hw:HT.sIx y.size 0 lo=0/\HT.sIx y.size y.size hi=y.size)(h:Q (.ref t) s):Ck (Cn prog w) A (Lc (.ref t) (.ref sl)) Q E s:=by
 let⟨os,J,O,a0⟩:=id hs;let Y:s.TypeIs (.ref sl) "slice":=⟨os,J,O⟩;unfold Lc
 try with_reducible refine Ec ?_
 first|refine D0 (D1 ?_)|skip
 refine D0 (Jeg B.typeIs nofun ?_);refine D0 (Hm (name:=C8 "__getitem__") B.typeIs C1
  (Eb C1 B.typeIs Jdr ?_ (Jd2 _ _)))
 show Ck _ _ (Kb (.ref t) >>= _) _ _ s;refine D0 (tupleItemsOf_ B ?_);refine D0 (K6 Y ?_);rw[D7 nofun];refine D0 (HT.sliceApplied_gen hs pl pu ?_);show Ck _ _ (if(((HT.sIx y.size 0 lo:Nat):Int)==0&&(1:Int)==1&&(HT.sIx y.size y.size hi-HT.sIx y.size 0 lo)==y.size)=true then _ else _) _ _ s;let G:((((HT.sIx y.size 0 lo:Nat):Int)==0&&(1:Int)==1&&(HT.sIx y.size y.size hi-HT.sIx y.size 0 lo)==y.size)=true):=by
  rw[hw.1,hw.2];simp
 rw[D7 G];unfold Jfg;refine D0 ?_
 first
  |exact D0 (K6 B.typeIs (D1 (by rw[D7 nofun];exact D0 (Et (D1 {_,rfl,D1 h})))))
  |exact D0 (K6 B.typeIs (D1 (by simp;exact D0 (Et (D1 {_,rfl,D1 h})))))
end
section
def rSlW(K:Cq):V->Option Int->Option Int->Hp->VK->Prop:=λx lo hi H Q=>∃a xs,x=.ref a/\SqT K H a xs /\
 ((cutV xs lo hi=xs->Q (.ref a) H)/\∀p,H p=none->Q (.ref p) (upd H p (.tup (cutV xs lo hi))))
def Zcm:SlR X (rSlW X.K):=by
 intro pz s σ H x v Z Y lo hi sl Q I J hs pl G h;let⟨a,xs,rfl,hx,O,q⟩:=h;cases J;let⟨its,r,B,hz⟩:=I.tuple hx;let y:its.toArray.size=xs.length:=by rw[Jq];exact r.length.symm
 exists "tuple",_,C1.lookup,B.typeIs,?_
 by_cases hw:HT.sIx xs.length 0 lo=0/\HT.sIx xs.length xs.length hi=xs.length
 .refine U6 B hs pl G (by rw[y];exact hw) {.ref a,H,I,rfl,O ?_};unfold cutV;rw[hw.1,hw.2];simp
 .refine HT.getItem_tuple_cut B hs pl G (by rw[y];exact hw) ?_ (by rw[y];exact hz);rw[y];exists .ref s.heap.objs.size,_,I.laid (t':=s.toks) (o:=.tup (cutV xs lo hi)) (λb ob q=>D2 _ q) (Ji _) ?_,rfl,q _ (I.hok.fresh (Ji _));exists Jx (U8 xs lo hi) hz,_,(r.drop (HT.sIx xs.length 0 lo)).take (HT.sIx xs.length xs.length hi-HT.sIx xs.length 0 lo),V4.new _ _
end
def Met(P:Ha)(w:Hz)(K:Cq)(mg:Str->Option Cb)(base:Heap)(C:Addr)(m:Str)(k:Nat)(ps:List Str)(sp:Sp):Prop :=
 ∃f fd,Cls K C/\Meth K C m f/\FnOk P w K mg base CX0 k f fd ps sp/\Sx K fd ps []
def Mkr(P:Ha)(w:Hz)(K:Cq)(mg:Str->Option Cb)(base:Heap)(x:Str)(C:Addr)(k:Nat)(ps:List Str)(sp:Sp):Prop :=
 ∃f fd,Mk K C f/\FnOk P w K mg base CX0 k f fd ps sp/\mg x=some (.ref C)/\Sx K fd ps []
section
variable{C:Addr}{k:Nat}{sp:Sp}{x m:Str}{p:Pos}{e o:Expr}{t:TA}
def Zl8{pl:Sem Bool}(Y:PE X o ta)(M:Met X.prog X.w X.K X.mg X.base C m k ps sp)(J:Room k X.A)(ha:PA X (e::es) t)(h:Cs (e::es) X.env=(false,eval e X.env)::Cs es X.env:=by rfl)(y:(Kl pos (Cs es X.env)).any (·.1)=false:=by rfl)(G:eval (.Call (.Attribute o m apos) (e::es) [] pos) X.env=(do
   let B <-eval o X.env
   Jdp apos.atName
   let(f,first) <-L9 [B] (Ja9 B m pl)
   Jgq pos f first (Kl pos (Cs (e::es) X.env)) (L6 pos (Hv [] X.env))):=by rfl) :
  PE X (.Call (.Attribute o m apos) (e::es) [] pos) (Zg2 C m sp [] E0 ta t):=by
 let⟨f,fd,c,O,F,Z⟩:=M;exact Zql Y c O F J Z .nil Zmb ha h y G
def Zua{pl:Sem Bool}(J:PE X o ta)(M:Met X.prog X.w X.K X.mg X.base C m k ps sp)(B:Room k X.A)(y:eval (.Call (.Attribute o m apos) [] [] pos) X.env=(do
   let h <-eval o X.env
   Jdp apos.atName
   let(f,first) <-L9 [h] (Ja9 h m pl)
   Jgq pos f first (Kl pos (Cs [] X.env)) (L6 pos (Hv [] X.env))):=by rfl) :
  PE X (.Call (.Attribute o m apos) [] [] pos) (Zg2 C m sp [] E0 ta tNil):=by
 let⟨f,fd,c,G,F,O⟩:=M;exact Zl9 J c G F B O .nil Zmb y
def Zub(M:Mkr X.prog X.w X.K X.mg X.base x C k ps sp)(B:Room (k+1) X.A)(J:Gl X x)(Z:PA X (e::es) t)(y:(x==("__debug__":Str))=false:=by decide)(O:Cs (e::es) X.env=(false,eval e X.env)::Cs es X.env:=by rfl)(h:(Kl pos (Cs es X.env)).any (·.1)=false:=by rfl):PE X (.Call (.Name x p) (e::es) [] pos) (Zli C sp [] E0 t):=by
 let⟨f,fd,G,F,g,Y⟩:=M;exact Zqm G F B J g Y .nil Zmb Z y O h
end
def Fun.okC{base:Heap}{x:Str}{Z:Cb}{od Y:Option Addr}{G:Array (Option Cb)}{kV B y ct:Cb}{k:Nat}{sp:Sp}(lk:K.lookup f=some {Z,od,.func (Jc7 x qual (Wf st) (Xm st) (Zm st) .none kV B pm Y y ct),G})(O:Jd0 K y qual=true)(S:FnScope N ps (Zm st))(len:∀vs H Q E,sp vs H Q E->vs.length=ps.length)(hbody:∀(A:Kw)(outer:List Env)(s:Cc)(H:Hp)(vs:List V)(Q:VK)(E:XK),Room k (A.deeper (Lw qual (Zm st) s.heap.objs.size f y))->sp vs H Q E ->
   ∃t,PSs (cxOf CX0 P w K mg base N qual (Zm st) f y A outer s H E).nox (Xm st) t/\t {nx:=λ_ H'=>Q .non H',rt:=Q} (Tj N vs) H) :
  FnOk P w K mg base CX0 (k+1) f (Jc7 x qual (Wf st) (Xm st) (Zm st) .none kV B pm Y y ct) ps sp :=
 Zu6 lk O S len λA outer s H vs Q E hr J=>by
  let⟨t,h,q⟩:=hbody A outer s H vs Q E hr J;exists t,h.nox,q
abbrev Pr:=Int×List Int
variable{S L S1:List L2.Pr}
def TupK(H H':Hp):Prop:=∀b xs,H b=some (.tup xs)->H' b=some (.tup xs)
def Same.tk(s:Same H H'):TupK H H':=λb xs h=>s b _ h
def Grow.tk{p:Addr}(g:Grow p H H')(e:H p=some (.lst xs)):TupK H H':=λb ys h=>g b _ h (X5 h e λz=>by cases z)
def Q3.tk{P:Addr}(s:Q3 P H H'){ps:Array Cb}(e:H P=some (.tbl ps)):TupK H H':=λb xs h=>s b _ (X5 h e λz=>by cases z) h
def Zgj(H:Hp)(v:V)(w:List Int):Prop:=∃t,v=.ref t/\H t=some (.tup (w.map V.int))
def Pf(H:Hp)(v:V)(p:Pr):Prop:=∃t h,v=.ref t/\H t=some (.tup [.int p.1,.ref h])/\H h=some (.tup (p.2.map V.int))
def Zgj.tk{v:V}{w:List Int}(h:Zgj H v w)(s:TupK H H'):Zgj H' v w:=by
 let⟨t,e,a⟩:=h;exists t,e,s _ _ a
def Pf.tk{v:V}{p:Pr}(h:Pf H v p)(s:TupK H H'):Pf H' v p:=by
 let⟨t,y,e,a,b⟩:=h;exists t,y,e,s _ _ a,s _ _ b
abbrev Pe(H:Hp):List V->List (List Int)->Prop:=Paired (Zgj H)
abbrev Prs(H:Hp):List V->List Pr->Prop:=Paired (Pf H)
def Pe.tk(h:Pe H vs ws)(s:TupK H H'):Pe H' vs ws:=Paired.mapP h λ_ _ z=>z.tk s
def Prs.tk(h:Prs H vs L)(s:TupK H H'):Prs H' vs L:=Paired.mapP h λ_ _ z=>z.tk s
theorem Paired.at{α:Type}{F:α->β->Prop}:∀{l:List α}{m:List β},Paired F l m->∀{i:Nat}(h1:i<l.length)(h2:i<m.length),F l[i] m[i]
 |_,_,.nil,_,h,_=>Dx h (Bg _)
 |_,_,.cons a r,0,_,_=>a
 |_,_,.cons a r,i+1,h1,h2=>Paired.at r (i:=i) (by simpa using h1) (by simpa using h2)
theorem Paired.snoc{α:Type}{F:α->β->Prop}{x:α}{y:β}(h:F x y):∀{l:List α}{m:List β},Paired F l m->Paired F (l++[x]) (m++[y]):=by
 intro _ _ B;cases B with
 |nil=>
  exact .cons h .nil
 |cons a r=>
  exact .cons a (Paired.snoc h r)
theorem Paired.rev{α:Type}{F:α->β->Prop}:∀{l:List α}{m:List β},Paired F l m->Paired F l.reverse m.reverse:=by
 intro _ _ h;cases h with
 |nil=>
  exact .nil
 |cons a r=>
  exact by rw[Fg,Fg];exact Paired.snoc a (Paired.rev r)
def Zk0(a b:Pr):Prop:=a.1≠b.1/\¬ a.2<+:b.2/\¬ b.2<+:a.2
def Free(L:List Pr):Prop:=L.Pairwise Zk0
def Free.get(h:Free L){i:Nat}(hi:i<L.length)(B:j<L.length)(y:i<j):Zk0 L[i] L[j]:=Gx.mp h i j hi B y
def Zit(p q:Pr):V:=if p.1=q.1 then .str (C8 "twice")else if p.2.take (min p.2.length q.2.length)=q.2.take (min p.2.length q.2.length)then .str (C8 "begins")else .non
def Zf0{p q:Pr}(h:Zk0 p q):Zit p q=.non:=by
 unfold Zit;rw[D6 h.1,D6];intro e;rcases Nat.le_total p.2.length q.2.length with l|l
 .rw[Fq l,Gb]at e;exact h.2.1 (e ▸ F3 _ _)
 .rw[Je3 l,Gb]at e;exact h.2.2 (e ▸ F3 _ _)
theorem Zfa:∀(a b:List Int),C7 (a.map K1) (b.map K1)=decide (a=b)
 |[],[]=>by simp[C7]
 |[],_::_=>by simp[C7]
 |_::_,[]=>by simp[C7]
 |x::a,y::b=>by
  simp only[Jl,C7,Eo,Zfa a b]
  by_cases h:x=y
  .subst h;simp
  .simp[h]
def Zjz(a b:List Int):Eo (.tuple (a.map K1)) (.tuple (b.map K1))=decide (a=b):=by
 simp only[Eo,Zfa]
def To(ns:List Int):Shp 1 (.tuple (ns.map K1)):=Rt λd hd=>by
 let⟨i,_,rfl⟩:=Jk.mp hd;exact Ng i
def Zdj(w:List Int){j:Int}(h0:0<=j)(h1:j<=w.length):cutV (w.map V.int) none (some j)=(w.take j.toNat).map V.int:=by
 rw[Zkd h0 (by rw[Ja];exact h1),Di]
def Zns:Sp:=λvs H Q _=>∃y h p q,vs=[y,h]/\Pf H y p/\Pf H h q/\p.2.length<=1000/\q.2.length<=1000/\∀H',Same H H'->Q (Zit p q) H'
def Ve(H:Hp)(a:Addr)(L:List Pr):Prop:=∃vs,H a=some (.lst vs)/\Prs H vs L
def Ve.same{a:Addr}(h:Ve H a L)(s:Same H H'):Ve H' a L:=by
 let⟨vs,e,p⟩:=h;exists vs,s _ _ e,p.tk s.tk
def Fits(L:List Pr):Prop:=L.length<64/\∀p∈L,p.2≠[]/\p.2.length<=4
def Tl:Sp:=λvs H Q _=>∃a L,vs=[.ref a]/\Ve H a L/\Free L/\Fits L/\∀H',Same H H'->Q .non H'
abbrev wk(w:List Int):List Key:=w.map Cz
def Zk2(w:List Int):(wk w).map kV=w.map V.int:=by rw[Ju];rfl
def Zd0(kvs:List (List Key×V))(ws:List (List Int)):Prop:=∀u:List Int,(valV kvs (wk u)).isSome=decide (∃w∈ws,u<+:w/\u.length<w.length)
def Zhc:Sp:=λvs H Q _=>∃a h ws,vs=[.ref a]/\H a=some (.lst h)/\Pe H h ws/\ws.length<64/\(∀w∈ws,w.length<=4) /\
 ∀(d:Addr)(kvs:List (List Key×V))(H':Hp),Same H H'->H d=none->H' d=some (.dT kvs)->Zd0 kvs ws->Q (.ref d) H'
def Zia{a:Addr}{w:List Int}{j:Int}(e:H a=some (.tup (w.map V.int)))(h0:0<=j)(h1:j<=w.length)(h:∀t H',Same H H'->H' t=some (.tup ((w.take j.toNat).map V.int))->Q (.ref t) H'):rSlW K (.ref a) none (some j) H Q:=by
 exists a,·,SqT.of e,λhw=>h a H (.refl _) ?_,λp y=>h p _ (Zc y) ?_
 .rw[Zdj w h0 h1]at hw;rw[hw];exact e
 .rw[Ze,Zdj w h0 h1]
theorem Zqz(a b:Nat):(if(b:Int)<(a:Int)then(b:Int)else(a:Int))=((min a b:Nat):Int):=by split<;>lia
def Zf6[DecidableEq κ](kvs:List (κ×V))(k y:κ)(v:V):(valV (putK kvs k v) y).isSome=(decide (y=k) ||(valV kvs y).isSome):=by
 rw[P3]
 by_cases h:y=k
 .rw[D7 h,D8 h];rfl
 .rw[D6 h,D9 h,Jd5]
theorem Zau:∀{u v:List Int},wk u=wk v->u=v
 |[],[],_=>rfl
 |[],_::_,h=>nomatch h
 |_::_,[],h=>nomatch h
 |x::u,y::v,h=>by
  let h':(Cz x:Key)::wk u=Cz y::wk v:=h;injection h' with a b
  rw[Kh a,Zau b]
def Zaq{α:Type}{xs:List α}{v:α}(h:xs[j]?=some v):atI xs (0+(j:Int))=some v:=by rw[L8];exact Zdq h
def Sy(kvs:List (List Key×V))(ws:List (List Int))(w:List Int)(n:Nat):Prop :=
 ∀u:List Int,(valV kvs (wk u)).isSome=decide ((∃x∈ws,u<+:x/\u.length<x.length)\/(u<+:w/\u.length<n))
theorem Sy.put{w:List Int}{n:Nat}(h:Sy kvs ws w n)(hn:n<=w.length){v:V}:Sy (putK kvs (wk (w.take n)) v) ws w (n+1):=by
 intro u;rw[Zf6,h u];let e:(wk u=wk (w.take n))↔(u=w.take n):={Zau,λz=>by rw[z]};rw[decide_eq_decide.mpr e,<-Bool.decide_or];refine decide_eq_decide.mpr {λz=>?_,λz=>?_}
 .rcases z with z|z|⟨z1,z2⟩
  .subst z;exact .inr {F3 _ _,by rw[Jz];lia}
  .exact .inl z
  .exact .inr {z1,()}
 .rcases z with z|⟨z1,z2⟩
  .exact .inr (.inl z)
  .by_cases l:u.length<n
   .exact .inr (.inr ⟨z1,l⟩)
   .refine .inl ?_;let:u.length=n:=by lia
    rw[<-this];exact List.prefix_iff_eq_take.mp z1
def Sy.next{w:List Int}(h:Sy kvs ws w w.length)(y:List Int):Sy kvs (ws++[w]) y 0:=by
 intro u;rw[h u];refine decide_eq_decide.mpr {λz=>?_,λz=>?_}
 .rcases z with⟨x,hx,z⟩|z
  .exact .inl ⟨x,Gs _ hx,z⟩
  .exact .inl {w,Jp _ (Je.mpr rfl),z}
 .rcases z with⟨x,hx,z⟩|⟨_,z⟩
  .rcases Jv.mp hx with hx|hx
   .exact .inl ⟨x,hx,z⟩
   .rw[Je.mp hx]at z;exact .inr z
  .exact Dx z (Bg _)
def Sy.nil(w:List Int):Sy [] [] w 0:=by
 intro u;rw[Zk4];refine(D9 ?_).symm;rintro(⟨x,hx,_⟩|⟨_,z⟩)
 .exact nomatch hx
 .exact Dx z (Bg _)
def Sy.done{w:List Int}(h:Sy kvs ws w 0):Zd0 kvs ws:=by
 intro u;rw[h u];refine decide_eq_decide.mpr {λz=>?_,λz=>.inl z};rcases z with z|⟨_,z⟩
 .exact z
 .exact Dx z (Bg _)
theorem Zij{α:Type}{f:α->β}{m n:List β}(h:m.Perm n):∀{l:List α},l.map f=n->∃B:List α,B.Perm l/\B.map f=m:=by
 induction h with
 |nil=>intro l e;exists l,.refl _,e
 |cons x _ ih =>
  intro l e;cases l with
  |nil=>cases e
  |cons a l =>
   rw[Jl]at e;injection e with e1 e2
   let⟨B,p,q⟩:=ih e2;exact{a::B,p.cons a,by rw[Jl,e1,q]}
 |swap x y l0 =>
  intro l e
  match l,e with
  |a::b::r,e =>
   rw[Jl,Jl]at e;injection e with e1 e2
   injection e2 with e2 e3
   exact{b::a::r,.swap _ _ _,by rw[Jl,Jl,e1,e2,e3]}
 |trans _ _ J G =>
  intro l e;let⟨l2,p2,O⟩:=G e;let⟨l1,Z,Y⟩:=J O;exists l1,Z.trans p2,Y
structure PK3 where
 v:V
 tw:Addr
 p:Pr
def PK3.At(H:Hp)(e:PK3):Prop:=∃t,e.v=.ref t/\H t=some (.tup [.int e.p.1,.ref e.tw])/\H e.tw=some (.tup (e.p.2.map V.int))
def PK3.At.tk{e:PK3}(h:e.At H)(s:TupK H H'):e.At H':=by
 let⟨t,a,b,c⟩:=h;exists t,a,s _ _ b,s _ _ c
theorem Zn5 :∀{vs:List V}{L:List Pr},Prs H vs L->∃M:List PK3,M.map (·.v)=vs/\M.map (·.p)=L/\∀e∈M,e.At H
 |_,_,.nil=>{[],rfl,rfl,λ_ h=>nomatch h}
 |_,_,.cons ⟨t,tw,a,b,c⟩ r=>by
  let⟨M,e1,e2,e3⟩:=Zn5 r;exists{_,tw,_}::M,by rw[Jl,e1],by rw[Jl,e2],λe y=>?_;rcases J9.mp y with z|z
  .rw[z];exists t,a,b,c
  .exact e3 e z
theorem Zn7 :∀{M:List PK3},(∀e∈M,e.At H)->Prs H (M.map (·.v)) (M.map (·.p))
 |[],_=>.nil
 |e::M,h=>by
  let⟨t,a,b,c⟩:=h e Jh;exact .cons {t,e.tw,a,b,c} (Zn7 λx hx=>h x (Jf _ hx))
def PK3.k(e:PK3):KIt:=(e.v,e.tw,e.p.2)
def Xf[DecidableEq κ](kvs:List (κ×V))(zs:List (κ×V)):List (κ×V):=zs.foldl (λa z=>putK a z.1 z.2) kvs
theorem Ze9[DecidableEq κ]:∀(zs kvs:List (κ×V)),(Xf kvs zs).length<=kvs.length+zs.length
 |[],kvs=>by simp[Xf]
 |z::r,kvs=>by
  let:=Ze9 r (putK kvs z.1 z.2);let l:=Y3 kvs z.1 z.2;show(Xf (putK kvs z.1 z.2) r).length<=_;rw[Jy];lia
theorem T6[DecidableEq κ]{k:κ}:∀(zs kvs:List (κ×V)),(∀z∈zs,z.1≠k)->valV (Xf kvs zs) k=valV kvs k
 |[],kvs,_=>rfl
 |z::r,kvs,h=>by
  show valV (Xf (putK kvs z.1 z.2) r) k=_;rw[T6 r _ λy B=>h y (Jf _ B),P3,D6 (λe=>h z Jh e.symm)]
theorem Qv[DecidableEq κ]{k:κ}{v:V}:∀(zs kvs:List (κ×V)),(zs.map (·.1)).Nodup->(k,v)∈zs->valV (Xf kvs zs) k=some v
 |[],kvs,_,h=>nomatch h
 |z::r,kvs,nd,h=>by
  show valV (Xf (putK kvs z.1 z.2) r) k=_;rw[Jl,Fh]at nd;rcases J9.mp h with e|h
  .subst e;rw[T6 r _ λy G e=>nd.1 (by
    let B:y.1∈r.map (·.1):=Jk.mpr ⟨y,G,rfl⟩;rw[e]at B;exact B),P3,D7 rfl]
  .exact Qv r _ nd.2 h
theorem Zap{D:Addr}:∀(zs kvs:List (Key×V)),kvs.length+zs.length<Ca->DFill H D (.dK kvs) (zs.map λz=>(kV z.1,z.2)) (.dK (Xf kvs zs))
 |[],kvs,_=>.nil
 |z::r,kvs,h=>by
  rw[Jy]at h;let l:=Y3 kvs z.1 z.2;let d:=DPut.k (H:=upd H D (.dK kvs)) (a:=D) (k:=z.1) (v:=z.2) Ze ();rw[Zgu]at d;exact .cons d (Zap r (putK kvs z.1 z.2) ())
theorem Zj1{D:Addr}(B:H D=none):∀(zs:List (Addr×List Key×V))(kvs:List (List Key×V)),kvs.length+zs.length<Ca->(∀z∈zs,H z.1=some (.tup (z.2.1.map kV))) ->
  DFill H D (.dT kvs) (zs.map λz=>(.ref z.1,z.2.2)) (.dT (Xf kvs (zs.map λz=>(z.2.1,z.2.2))))
 |[],kvs,_,_=>.nil
 |z::r,kvs,h,ht=>by
  rw[Jy]at h;let l:=Y3 kvs z.2.1 z.2.2;let e:=ht z Jh;let d:=DPut.t (H:=upd H D (.dT kvs)) (a:=D) (b:=z.1) (k:=z.2.1) (v:=z.2.2) Ze (by rw[Zo (Zx e B)];exact e) ();rw[Zgu]at d;exact .cons d (Zj1 B r (putK kvs z.2.1 z.2.2) () λy G=>ht y (Jf _ G))
def Zgs(H:Hp)(h:List (Key×V))(S:List Pr):Prop:=(∀p∈S,∃t,valV h (Cz p.1)=some (.ref t)/\H t=some (.tup (p.2.map V.int)))/\∀s:Int,(∀p∈S,p.1≠s)->valV h (Cz s)=none
def Zhg(h:List (List Key×V))(S:List Pr):Prop:=(∀p∈S,valV h (wk p.2)=some (.int p.1))/\∀u:List Int,(∀p∈S,p.2≠u)->valV h (wk u)=none
def Zfl(ns:List Int)(S:List Pr):Prop:=ns.Pairwise (· < ·)/\∀n:Int,n∈ns↔∃p∈S,(p.2.length:Int)=n
structure CodeIn(H:Hp)(tp d1 d2 d3 d4:Addr)(S:List Pr):Prop where
 pr:∃vs,H tp=some (.tup vs)/\Prs H vs S
 wb:∃k1,H d1=some (.dK k1)/\Zgs H k1 S
 sb:∃k2,H d2=some (.dT k2)/\Zhg k2 S
 bg:∃k3,H d3=some (.dT k3)/\Zd0 k3 (S.map (·.2))
 sz:∃ns:List Int,H d4=some (.tup (ns.map V.int))/\Zfl ns S
def Uu(C:Addr)(H:Hp)(x:Addr)(S:List Pr):Prop:=∃dx h J G B y,H x=some (.ins C dx [("pairs",.ref h),("words_by_sign",.ref J),("signs_by_word",.ref G),("begun",.ref B),("word_sizes",.ref y)])/\CodeIn H h J G B y S
def Zdt(S:List Pr):Prop:=S.Pairwise λa b=>HT.lexLt a.2 b.2=true
def V3.grow{x:Addr}{q:Str}(t:V3 Pt pos q H){C:Addr}{fs:List (Str×V)}(e:H x=some (.ins C dx fs))(g:Grow x H H'):V3 Pt pos q H':=by
 let⟨ps,a,b,c⟩:=t;exists ps,g _ _ a (X5 a e λz=>by cases z),b,?_;rcases c with c|⟨c',d,f⟩
 .exact .inl c
 .exact .inr {c',d,g _ _ f (X5 f e λz=>by cases z)}
def Grow.tkI{x:Addr}(g:Grow x H H'){C:Addr}{fs:List (Str×V)}(e:H x=some (.ins C dx fs)):TupK H H':=λb ys h=>g b _ h (X5 h e λz=>by cases z)
section
def rLen(K:Cq):List V->Hp->VK->Prop:=λxs H Q=>∃x n,xs=[x]/\LenV K x H n/\Q (.int n) H
def Yy(h:X.K=K):Wi X (.builtin "len") (rLen K):=by subst h;exact Xa
def Zon(h:X.K=K):IxR X (rIxL K):=by subst h;exact Xb
def Zvu(h:X.K=K):IxR X (rIxT K):=by subst h;exact T5
end
end L2
variable{S L S1:List L2.Pr}
namespace L2
open PySem PySem.W PyProof.Rows HT
theorem Zac:∀{us:List Cb}{ns:List Int},E4 us ns->Vals (ns.map V.int) us:=by
 intro _ _ y;cases y with
 |nil=>
  exact .nil
 |cons n t h=>
  exact .cons ⟨t,rfl⟩ (Zac h)
theorem Zjo:∀{us:List Cb}{ns:List Int},us.length=ns.length->(∀(j:Nat)(v:Cb),us[j]?=some v->∃n t,ns[j]?=some n/\v=Li n t)->E4 us ns
 |[],[],_,_=>.nil
 |u::us,n::ns,hl,h=>by
  let⟨m,t,e,rfl⟩:=h 0 u rfl;cases e;exact .cons _ t (Zjo (by simpa using hl) λj v e=>h (j+1) v e)
section
def Zt0:List V->Hp->VK->Prop:=λxs H Q=>∃(d:Addr)(kvs:List (Key×V))(ns:List Int),xs=[.ref d]/\H d=some (.dK kvs)/\kvs.map (·.1)=ns.map Cz/\kvs.length<64 /\
 ∀(D:Addr)(h:List Int),H D=none->h.Perm ns->h.Pairwise (·<=·)->Q (.ref D) (upd H D (.lst (h.map V.int)))
theorem Zgg(hc:X.calm=true):Wi X (.builtin "sorted") Zt0:=by
 intro pz s σ H xs us Q I r h;let⟨d,kvs,ns,rfl,ed,ek,hl,q⟩:=h;let⟨u,rfl,rx⟩:=Rb r;cases rx;let⟨hz,lo,vs,J,a0⟩:=Zrl I.hok ed;let⟨ep,da⟩:=a0.dictAt;let hv:=Paired.length J;refine Calls.call_function_entry kind_sorted plain_sorted entry_sorted (args_sorted1 _) ?_;unfold Builtin.«sorted»;refine D0 (m:=checkCount "sorted" 1 1 _) (D1 ?_);refine D0 (kdu_collect (A:=X.A.in1) (kdl_dict (knd:=Z9 X.prog X.w) (kvs:=vs) (ep:=ep) lo) (I.ok.hd hc) da (by rw[C0];lia) λh' tk acc hk B=>?_);let Z:acc.toList.length=vs.length:=by rw[Jm];exact B.1
 let a4:kvs.length=ns.length:=by have:=congrArg Eu ek;simpa using this
 refine D0 (Lh ?_ (by rw[Z,C0];lia));let hI:E4 acc.toList ns:=Zjo () λj v e=>by
  let⟨k,x,e1,e2⟩:=B.2 j v (by rw[<-Jt];exact e);let hj:j<vs.length:=(Jg.mp e1).1;let hr:=L2.Paired.at J (by lia:j<kvs.length) hj;let e3:=congrArg (·[j]?) ek;simp only[Gc,Jb (by lia:j<kvs.length),Jb (by lia:j<ns.length),B9,Mj]at e3;rw[Jb hj]at e1;let e4:=Jaa e1;rw[hr.1,e4]at e3;subst e3;rcases Z7 (show Qk (Cz ns[j]) v=true from e2)with⟨i,t,e5,rfl⟩|⟨y,t,e5,rfl⟩
  .cases e5;exists _,t,Jb (by lia:j<ns.length),rfl
  .cases e5
 let G:(h'.push (Eh "list" acc.toList.toArray 0)).get? h'.objs.size=some (Eh "list" acc.toList.toArray 0):=D3 _ rfl;refine D0 (Ec (Eb (s:={s with heap:=h'.push (Eh "list" acc.toList.toArray 0),toks:=tk}) slot_list_sort {_,G,rfl} Jfd (list_sort_tree G hI () λout O a1 a2 a3=>{_,rfl,?_}) (args_list_sort _)));let⟨e,he⟩:=sortedHeap_at (vs:=acc.toList) (out:=out) G;let I1:Inv X pz σ H {s with heap:=h',toks:=tk}:=I.kept hk;refine D1 {_,rfl,.ref h'.objs.size,_,I1.laid (t':=tk) (λb o eb=>?_) (Ji _) (show Y0 X.prog X.w _ _ _ (.lst (O.map V.int))from{?_,out.toList,e,Zac a1,he}),rfl,q _ O (I1.hok.fresh (Ji _)) a2 a3}
 .let hb:h'.get? b=some o:=eb;let Y:=D4 hb;rw[sortedHeap_old (Gn Y) (by rw[Jc2];exact B6 Y)];exact D2 _ hb
 .rw[Ja,a2.length_eq,C0];lia
end
end L2
namespace L2
open PySem PySem.Spec PyProof.Rows
def Zml[DecidableEq κ](kvs:List (κ×V))(k:κ)(v:V):(putK kvs k v).map (·.1)=if k∈kvs.map (·.1)then kvs.map (·.1)else kvs.map (·.1)++[k]:=by
 unfold putK;let y:(kvs.any λB=>decide (B.1=k))=true↔k∈kvs.map (·.1):=by
  rw[Fm,Jk]
  constructor
  .rintro⟨x,h1,h2⟩;exists x,h1,Dw h2
  .rintro⟨x,h1,h2⟩;exists x,h1,D8 h2
 by_cases h:k∈kvs.map (·.1)
 .rw[D7 h,D7 (y.mpr h),Ju];refine Gw λB _=>?_;show(if B.1=k then(B.1,v)else B).1=B.1
  split<;>rfl
 .rw[D6 h,D6 (λz=>h (y.mp z)),Jj];rfl
theorem Qw:∀(zs:List Int)(kvs:List (Key×V))(ns:List Int),kvs.map (·.1)=ns.map Cz->ns.Nodup ->
  ∃B:List Int,(Xf kvs (zs.map λz=>((Cz z:Key),V.bl true))).map (·.1)=B.map Cz/\B.Nodup/\∀n,n∈B↔n∈ns\/n∈zs
 |[],kvs,ns,e,nd=>{ns,e,nd,λn=>by simp}
 |z::r,kvs,ns,e,nd=>by
  let J:(Cz z:Key)∈kvs.map (·.1)↔z∈ns:=by
   rw[e,Jk]
   constructor
   .rintro⟨x,h,h2⟩;cases h2;exact h
   .exact λh=>⟨z,h,rfl⟩
  let G:=Zml kvs (Cz z) (V.bl true);show ∃B:List Int,(Xf (putK kvs (Cz z) (V.bl true)) (r.map _)).map (·.1)=_/\_
  by_cases h:z∈ns
  .rw[D7 (J.mpr h),e]at G;let⟨B,a,b,c⟩:=Qw r _ ns G nd;exists B,a,b,λn=>?_;rw[c,J9]
   constructor
   .rintro(q|q)
    .exact .inl q
    .exact .inr (.inr q)
   .rintro(q|rfl|q)
    .exact .inl q
    .exact .inl h
    .exact .inr q
  .rw[D6 (λq=>h (J.mp q)),e]at G;let⟨B,a,b,c⟩:=Qw r _ (ns++[z]) (by rw[G,Jj];rfl) (Bc.mpr {nd,by simp,λx hx y O=>by
    rw[Je.mp O];exact λq=>h (q ▸ hx)})
   exists B,a,b,λn=>?_;rw[c,J9,Jv,Je]
   constructor
   .rintro((q|q)|q)
    .exact .inl q
    .exact .inr (.inl q)
    .exact .inr (.inr q)
   .rintro(q|q|q)
    .exact .inl (.inl q)
    .exact .inl (.inr q)
    .exact .inr q
theorem Zhf{y:List Int}(nd:ns.Nodup)(h:∀n,n∈ns↔n∈S.map λp=>(p.2.length:Int))(p:y.Perm ns)(G:y.Pairwise (·<=·)):Zfl y S:=by
 exists ?_,λn=>?_
 .let B:y.Nodup:=p.nodup_iff.mpr nd;exact(List.pairwise_and_iff.mpr ⟨G,B⟩).imp λ{a b}z=>by
   let:=z.1;let:=z.2;lia
 .rw[p.mem_iff,h,Jk]
def Zhb:Sp:=λvs H Q _=>∃(p a:Addr)(m:Int),vs=[.ref p,.int m]/\HandAt H p a/\2<=m/\m<=4 /\
 ∀(l:Addr)(bs:List Int)(H':Hp),H l=none->l≠p->H' l=some (.lst (bs.map V.int))->bs.Nodup->2<=bs.length->(bs.length:Int)<=m->(∀b∈bs,0<=b/\b<256)->HandAt H' p a->Grow p H H'->Q (.ref l) H'
theorem Zcj{b s:Int}(hs:1<=s){n:Nat}(hn:s*n<=255+s):((Cv n).map λk:Nat=>(b+s*(k:Int)) % 256).Nodup:=by
 refine Jr.mpr ?_;refine Gx.mpr λi j hi h y=>?_;simp only[Bo]at hi h;simp only[List.getElem_range];intro e;let h2:s*((j:Int)-(i:Int))=s*(j:Int)-s*(i:Int):=Jhh _ _ _;let h3:0<s*((j:Int)-(i:Int)):=Int.mul_pos () ();let h4:s*((j:Int)-(i:Int))<=s*((n:Int)-1):=Ld () ();let h5:s*((n:Int)-1)<=255:=by rw[Jhh,Jha];lia
 rw[h2]at h3 h4;generalize s*(j:Int)=X at *
 generalize s*(i:Int)=Y at *
 lia
def PF(ws:List (List Int)):Prop:=ws.Pairwise λa b=>¬ a<+:b/\¬ b<+:a
def WOk(ws:List (List Int)):Prop:=PF ws/\∀w∈ws,w≠[]/\w.length<=4
def PF.sub{a b:List (List Int)}(h:PF b)(s:a.Sublist b):PF a:=Jb6 s h
def WOk.sub{a b:List (List Int)}(h:WOk b)(s:a.Sublist b):WOk a:={h.1.sub s,λw hw=>h.2 w (s.subset hw)}
def Uc{w:List Int}{a b:Int}(h:a≠b):¬ (w++[a])<+:(w++[b]):=λe=>by
 let:=Jfh e (by simp);simp at this;exact h this
def Zqs{bs:List Int}(nd:bs.Nodup):WOk (bs.map λb=>[b]):=by
 exists Jr.mpr (nd.imp λz=>{Uc (w:=[]) z,Uc (w:=[]) z.symm}),λw hw=>?_;let⟨b,_,rfl⟩:=Jk.mp hw;exact⟨by simp,by simp⟩
theorem Zl5{a c:List (List Int)}{w:List Int}{bs:List Int}(nd:bs.Nodup)(h:WOk (a++w::c))(hw:w.length<4):WOk (a++(bs.map λb=>w++[b])++c):=by
 let⟨h1,h2⟩:=h;let O:∀x,(¬ x<+:w/\¬ w<+:x)->∀b,¬ x<+:w++[b]/\¬ (w++[b])<+:x:=λx hx b=>by
  exists λz=>?_,λz=>hx.2 ((Go _ _).trans z);rcases List.prefix_concat_iff.mp z with e|e
  .exact hx.2 (e ▸ Go _ _)
  .exact hx.1 e
 unfold PF at h1;rw[Dm]at h1;let⟨Z,G,J⟩:=h1;rw[Fb]at G;let⟨pw,Y⟩:=G;exists ?_,λx hx=>?_
 .unfold PF;rw[Jn,Dm];exists Z,?_,λx hx y B=>?_
  .rw[Dm];exists Jr.mpr (nd.imp λz=>{Uc z,Uc z.symm}),Y,λx hx y B=>?_;let⟨b,_,rfl⟩:=Jk.mp hx;let:=O y {(pw y B).2,(pw y B).1} b;exists this.2,this.1
  .rcases Jv.mp B with B|B
   .let⟨b,_,rfl⟩:=Jk.mp B;exact O x (J x hx w Jh) b
   .exact J x hx y (Jf _ B)
 .rcases Jv.mp hx with hx|hx
  .rcases Jv.mp hx with hx|hx
   .exact h2 x (Gs _ hx)
   .let⟨b,_,rfl⟩:=Jk.mp hx;exact{by simp,by rw[Jc,G4];lia}
  .exact h2 x (Jp _ (Jf _ hx))
theorem Zgl:∀(h:List Int)(ws:List (List Int)),((h.zip ws).map (·.1)).Sublist h
 |[],_=>by simp
 |_::_,[]=>by simp
 |a::r,b::t=>by rw[Dc,Jl];exact(Zgl r t).cons₂ a
theorem Zgk:∀(h:List Int)(ws:List (List Int)),((h.zip ws).map (·.2)).Sublist ws
 |[],_=>by simp
 |_::_,[]=>by simp
 |a::r,b::t=>by rw[Dc,Jl];exact(Zgk r t).cons₂ b
def WOk.free(h:WOk ws){y:List Int}(nd:y.Nodup):Free (y.zip ws):=by
 let h1:((y.zip ws).map (·.1)).Nodup:=nd.sublist (Zgl y ws);let h2:PF ((y.zip ws).map (·.2)):=h.1.sub (Zgk y ws);exact(Jr.mp h1).and (Jr.mp h2) |>.imp λz=>{z.1,z.2.1,z.2.2}
def Zku(H:Hp)(a:Addr)(ws:List (List Int)):Prop:=∃vs,H a=some (.lst vs)/\Pe H vs ws
def Zal{p a:Addr}(h:HandAt H p a):∃xs,H p=some (.lst xs):=let⟨_,_,_,e,_⟩:=h.ex;{_,e}
def Pe.take1(h:Pe H vs ws){i:Nat}(hi:i<vs.length):∃(y:i<ws.length)(t:Addr),vs[i]=.ref t/\H t=some (.tup (ws[i].map V.int)):=by
 let y:i<ws.length:=by rw[<-Paired.length h];exact hi
 let⟨t,e,z⟩:=L2.Paired.at h hi y;exists y,t,e,z
def Zg9:Sp:=λvs H Q _=>∃(p a y sa:Addr)(ws:List (List Int))(h:List Int),vs=[.ref p,.ref y,.ref sa]/\HandAt H p a/\Zku H y ws/\y≠p/\WOk ws/\ws.length<=28/\H sa=some (.lst (h.map V.int))/\sa≠p/\h.Nodup/\ws.length<=h.length/\h.length<=100 /\
 ∀(l:Addr)(L:List Pr)(H':Hp),H l=none->l≠p->Ve H' l L->Free L->Fits L->(L.map (·.2)).Perm ws->HandAt H' p a->Grow p H H'->Q (.ref l) H'
def Free.rev(h:Free L):Free L.reverse:=List.pairwise_reverse.mpr (h.imp λz=>{z.1.symm,z.2.2,z.2.1})
def Zft{y:List Int}(h:y.Nodup)(n:Nat):(y.drop n++y.take n).Nodup:=by
 let:(y.take n++y.drop n).Nodup:=by rw[J0];exact h
 exact(G7.nodup_iff).mp this
def Uu.same{C x:Addr}(h:Uu C H x S)(s:Same H H'):Uu C H' x S:=by
 let⟨dx,B,d1,d2,d3,d4,ex,⟨⟨vs,a1,a2⟩,⟨Y,b1,y⟩,⟨O,c1,c2⟩,⟨J,f1,f2⟩,⟨G,g1,g2⟩⟩⟩:=h;exists dx,B,d1,d2,d3,d4,s _ _ ex,{vs,s _ _ a1,Prs.tk a2 s.tk},{Y,s _ _ b1,λp Z=>?_,y.2},⟨O,s _ _ c1,c2⟩,⟨J,s _ _ f1,f2⟩,⟨G,s _ _ g1,g2⟩;let⟨t,u,v⟩:=y.1 p Z;exists t,u,s _ _ v
def Znq(C:Addr):Sp:=λvs H Q _=>∃(x t:Addr)(S:List Pr)(u:List Int),vs=[.ref x,.ref t]/\Uu C H x S/\H t=some (.tup (u.map V.int))/\(∀p∈S,p.2=u->Q (.int p.1) H)/\((∀p∈S,p.2≠u)->Q .non H)
def Zri(h:Free S){p q:Pr}(O:p∈S)(J:q∈S){l:List Int}(G:p.2<+:l)(B:q.2<+:l):p=q:=by
 let⟨i,hi,rfl⟩:=Gh O;let⟨j,y,rfl⟩:=Gh J;let z:=K4 G B;rcases Nat.lt_trichotomy i j with l|l|l
 .let a:=h.get hi y l;rcases z with z|z
  .exact Dx z a.2.1
  .exact Dx z a.2.2
 .subst l;rfl
 .let a:=h.get y hi l;rcases z with z|z
  .exact Dx z a.2.2
  .exact Dx z a.2.1
def Free.perm(h:Free L)(p:S.Perm L):Free S:=(p.pairwise_iff (λ{a b}z=>{z.1.symm,z.2.2,z.2.1})).mpr h
def Fits.perm(h:Fits L)(p:S.Perm L):Fits S:={by rw[p.length_eq];exact h.1,λx hx=>h.2 x (p.mem_iff.mp hx)}
def Zp(T:List Pr):List Int:=(T.map λq:Pr=>q.2).flatten
def Zs(T:List Pr):List Int:=T.map λq:Pr=>q.1
def row_cons(p:Pr)(T:List Pr):Zp (p::T)=p.2++Zp T:=rfl
def row_app(A B:List Pr):Zp (A++B)=Zp A++Zp B:=by unfold Zp;rw[Jj,List.flatten_append]
theorem Zh0(h:Fits S):∀{T:List Pr},(∀p∈T,p∈S)->(Zp T).length<=4*T.length
 |[],_=>by simp[Zp]
 |p::T,m=>by
  let a:=Zh0 h (T:=T) λq y=>m q (Jf _ y);let b:=(h.2 p (m p Jh)).2;rw[row_cons,Jc,Jy];lia
def Zej{T:List Pr}{i:Nat}(hi:i<T.length):Zp (T.take (i+1))=Zp (T.take i)++T[i].2:=by
 rw[Jd hi,row_app,row_cons];simp[Zp]
theorem Zn1(T:List Pr)(i:Nat):(Zp (T.take i)).length<=(Zp T).length:=by
 let:Zp T=Zp (T.take i)++Zp (T.drop i):=by rw[<-row_app,J0]
 rw[this,Jc];lia
theorem Zro(w:List Int){k m:Nat}(h:k<=w.length):cutV (w.map V.int) (some (k:Int)) (some ((k:Int)+(m:Int)))=((w.drop k).take m).map V.int:=by
 unfold cutV;rw[<-Fs,HT.sIx_nat,HT.sIx_nat,Ja,Fq h,Di,Dp];refine List.take_eq_take_iff.mpr ?_;rw[Ga,Ja];lia
section
def Zib(K:Cq):List V->Hp->VK->Prop:=λxs H Q=>∃p ys,xs=[.ref p]/\(SqL K H p ys\/SqT K H p ys)/\∀l,H l=none->Q (.ref l) (upd H l (.lst ys))
def Zdm(h:X.K=K):Wi X (.type "list") (Zib K):=by subst h;exact Zb1
def rIsi(K:Cq):List V->Hp->VK->Prop:=λxs H Q=>∃x T t b,xs=[x,.ty T]/\TyOf K H x t/\Jgp K t (.type T)=some b/\Q (.bl b) H
def Zfg(h:X.K=K):Wi X (.builtin "isinstance") (rIsi K):=by subst h;exact Zm0
end
abbrev En:=Nat×Option Int
variable{R:List L2.En}
inductive Went(S:List Pr)(ns:List Int):List En->Nat->Prop where
 |nil:Went S ns [] 0
 |lost {R:List En} {pl:Nat}:Went S ns R pl->pl<ns.length->(∀p∈S,¬ p.2<+:ns.drop pl)->Went S ns (R++[(pl,none)]) (pl+1)
 |word {R:List En} {pl:Nat} {p:Pr}:Went S ns R pl->p∈S->p.2<+:ns.drop pl->p.2≠[]->Went S ns (R++[(pl,some p.1)]) (pl+p.2.length)
theorem Zn6{w:List Int}(h:w<+:ns.drop pl)(hw:w≠[]):pl<ns.length/\pl+w.length<=ns.length:=by
 let a:=h.length_le;let b:=Gj.mpr hw;rw[Ga]at a;lia
theorem Went.le(h:Went S ns R pl):pl<=ns.length:=by
 cases h with
 |nil=>exact Ge _
 |lost _ h _=>exact h
 |word _ _ h1 h2=>exact(Zn6 h1 h2).2
theorem Went.len(h:Went S ns R pl):R.length<=pl:=by
 induction h with
 |nil=>exact Ji _
 |lost _ _ _ y=>rw[Jc,G4];lia
 |word _ _ _ h2 y =>
  let:=Gj.mpr h2;rw[Jc,G4];lia
theorem Went.perm(h:Went S ns R pl)(p:S.Perm L):Went L ns R pl:=by
 induction h with
 |nil=>exact .nil
 |lost _ h1 h2 y=>exact .lost y h1 λq B=>h2 q (p.mem_iff.mpr B)
 |word _ h1 h2 h3 y=>exact .word y (p.mem_iff.mp h1) h2 h3
theorem Went.one(fr:Free S){A:List En}{pa:Nat}(h:Went S ns A pa):∀{B:List En}{J:Nat},Went S ns B J->A.length=B.length->A=B/\pa=J:=by
 induction h with
 |nil =>
  intro B J Y e;cases Y with
  |nil=>exact⟨rfl,rfl⟩
  |lost=>simp at e
  |word=>simp at e
 |lost _ h1 h2 O =>
  intro B J Y e;cases Y with
  |nil=>simp at e
  |lost y Z G =>
   let⟨rfl,rfl⟩:=O y (by simpa using e);exists rfl,rfl
  |word y Z G b4 =>
   let⟨rfl,rfl⟩:=O y (by simpa using e);exact Dx G (h2 _ Z)
 |word _ h1 h2 h3 O =>
  intro B J Y e;cases Y with
  |nil=>simp at e
  |lost y Z G =>
   let⟨rfl,rfl⟩:=O y (by simpa using e);exact Dx h2 (G _ h1)
  |word y Z G b4 =>
   let⟨rfl,rfl⟩:=O y (by simpa using e);obtain rfl:=Zri fr h1 Z h2 G;exists rfl,rfl
theorem Went.cut{B:List En}{G:Nat}(h:Went S ns B G):∀n,n<B.length->∃y,Went S ns (B.take n) y/\y<ns.length:=by
 induction h with
 |nil=>intro n hn;exact Dx hn (Bg _)
 | @lost R pl g h1 h2 ih =>
  intro n hn;rw[Jc,G4]at hn
  by_cases z:n<R.length
  .let⟨y,a,b⟩:=ih n z;exists y,by rw[Ff ()];exact a,b
  .let:n=R.length:=by lia
   subst this;exists pl,by rw[B8];exact g,h1
 | @word R pl p g h1 h2 h3 ih =>
  intro n hn;rw[Jc,G4]at hn
  by_cases z:n<R.length
  .let⟨y,a,b⟩:=ih n z;exists y,by rw[Ff ()];exact a,b
  .let:n=R.length:=by lia
   subst this;exists pl,by rw[B8];exact g,(Zn6 h2 h3).1
theorem Went.uniq(G:Free S){A B:List En}{O J:Nat}(y:Went S ns A O)(ea:ns.length<=O)(h:Went S ns B J)(Z:ns.length<=J):A=B:=by
 rcases Nat.lt_trichotomy A.length B.length with l|l|l
 .let⟨Y,a,b⟩:=h.cut _ l;let⟨_,e⟩:=y.one G a (by rw[Jz];lia);lia
 .exact(y.one G h l).1
 .let⟨Y,a,b⟩:=y.cut _ l;let⟨_,e⟩:=h.one G a (by rw[Jz];lia);lia
def Told(S:List Pr)(ns:List Int)(R:List En):Prop:=∃pl,Went S ns R pl/\ns.length<=pl
def Told.uniq(h:Free S){A B:List En}(a:Told S ns A)(b:Told S ns B):A=B:=by
 let⟨Z,O,J⟩:=a;let⟨Y,G,y⟩:=b;exact O.uniq h J G y
def Told.perm(h:Told S ns R)(p:S.Perm L):Told L ns R:=by
 let⟨pl,a,b⟩:=h;exists pl,a.perm p,b
theorem Told.len(h:Told S ns R):R.length<=ns.length:=by
 let⟨pl,a,b⟩:=h;let:=a.le;let:=a.len;lia
def Znu:Sp:=λvs H Q _=>∃(ta h:Addr)(L:List Pr)(ns:List Int)(pl:Nat),vs=[.ref ta,.ref h,.int pl]/\Ve H ta L/\L.length<64/\H h=some (.lst (ns.map V.int))/\pl<=ns.length /\
 (∀p∈L,p.2<+:ns.drop pl->∀(t:Addr)(H':Hp),Same H H'->H' t=some (.tup [.int p.1,.int ((pl+p.2.length:Nat):Int)])->Q (.ref t) H')/\((∀p∈L,¬ p.2<+:ns.drop pl)->∀H',Same H H'->Q .non H')
def Zoo(h:X.K=K)(y:X.calm=true):Wi X (.builtin "any") (λxs H Q=>∃(p:Addr)(bs:List Bool),xs=[.ref p]/\SqL K H p (bs.map V.bl)/\Q (.bl (bs.any id)) H):=by subst h;exact Zm1 y
def excP(B C:Addr)(d:Option Addr)(h:Heap):Prop:=∃y vs,h.get? B=some y/\y.cls=.ref C/\y.dict=d/\y.data=.fields vs/\vs.size=6
end L2
variable{R:List L2.En}
namespace L2
open PySem PySem.Spec PyProof.Rows PySem.W
def xdP(d:Addr)(fs:List (Str×V))(h:Heap):Prop:=∃mA,h.Ns1 d mA/\(∀f,RelO (fs.lookup f) (mA f))/\Ja4 mA (fs.map (·.1))
end L2
namespace L2
open PySem PySem.Spec PyProof.Rows PySem.W PySem.Builtin PySem.Builtin.ObjectAttr
section
def XD(H:Hp):Option Addr->List (Str×V)->Prop
 |some d,fs=>H d=some (.ext (xdP d fs))
 |none,fs=>fs=[]
theorem XD.mono(s:Same H H'):∀{o:Option Addr}{fs:List (Str×V)},XD H o fs->XD H' o fs
 |some _,_,h=>s _ _ h
 |none,_,h=>h
end
end L2
namespace L2
open PySem PySem.Spec PyProof.Rows
def Zbg(l:Addr)(y:Array Cb)(n:Nat)(b:Addr)(items2:Array Cb)(O:Nat)(sl:Array (Option Cb))(Y:¬(!y.isEmpty&&Eg (y.size+items2.size))=true)(J:y.size<=Ca)(G:y.size+items2.size<=Ca+1) :
  Meets (Builtin.«list.extend» {[.ref l,.ref b],[]}) (λ_ R s=>s.heap.get? l=some {cls:=.type "list",dict:=none,data:=.seq y n,slots:=#[]}/\s.heap.get? b=some {cls:=.type "tuple",dict:=none,data:=.seq items2 O,slots:=sl}/\R (.ok (.ret Cb.none)) {s with heap:=s.heap.update l (Cr λx=>x++items2),toks:=s.toks}) :=
 .of_wp λprog w A R s h=>by
  let⟨hp,g,d,tk,os⟩:=s;let⟨hl,Z,h⟩:=h;let f1:=AutoSeq1.idx_int;let f2:=AutoSeq1.sub_tuple_tuple;let f3:=Ja2;let f4:=AutoSeq1.sub_tuple_list;let f5:=AutoSeq1.sub_list_tuple;
  let B:(y++items2).size<=Ca+1:=by rw[Array.size_append];exact G
  wp_walk using(wpAny_updateSeq hl rfl (hz:=J) (_hz':=B)),Ml hl,Ml Z;exists ·,h
def Zem:V->List V->Hp->VK->Prop:=λx vs H Q=>∃l b xs zs,x=.ref l/\vs=[.ref b]/\H l=some (.lst xs)/\H b=some (.tup zs)/\xs.length+zs.length<=Ca/\Q .non (upd H l (.lst (xs++zs)))
theorem Zf2 :MtM X "list.extend" Zem:=by
 intro pz s σ H x vs v us Q I rx rv h;let⟨l,b,xs,zs,rfl,rfl,hH,hB,hz,q⟩:=h;cases rx;let⟨u,rfl,ru⟩:=rv.one;cases ru;let⟨z,its,n,r,hl,e⟩:=I.lstM hH;let⟨z2,y,Y,⟨⟨c,G,dt,sl⟩,e2,O,Z,J,B⟩⟩:=I.hok b _ hB
 replace O:c=.type "tuple":=O
 replace J:dt=.seq y.toArray Z:=J
 replace B:G=none:=B
 subst O J B;let a0:=Y.length;let hsz:its.toArray.size+y.toArray.size<=Ca:=by rw[Jq,Jq];lia
 let hlong:¬ (!its.toArray.isEmpty&&Eg (its.toArray.size+y.toArray.size))=true:=by
  rw[Nz hsz,Jfv];exact Gd
 refine Kp Hw {_,e,rfl} Jds (Jc4 _ _)
  (Zbg l its.toArray n b y.toArray Z sl hlong (by rw[Jq];lia) ()) {e,e2,?_}
 exists .non,_,I.lset (its':=its++y) hH e (by simp) (r.append Y) ?_,rfl,q;rw[Jc];lia
end L2
namespace L2
open PySem PySem.Spec PyProof.Rows PySem.W
def Znp(C:Addr):Sp:=λvs H Q _=>∃(x:Addr)(S:List Pr)(s:Int),vs=[.ref x,.int s]/\Uu C H x S/\(∀p∈S,p.1=s->∀t,H t=some (.tup (p.2.map V.int))->Q (.ref t) H)/\((∀p∈S,p.1≠s)->Q .non H)
end L2
namespace L2
open PySem PySem.Spec PyProof.Rows
inductive NI where
 |k (z:Int)|t (x:List Int)|b (t:Bool)
 deriving DecidableEq
def NI.sh:NI->Nat
 |.k _=>0
 |.t _=>1
 |.b _=>2
def niH:NI->Int
 |.k z=>hashInt z
 |.t x=>reduceHash (C5 (x.map hashInt))
 |.b t=>hashInt (if t then 1 else 0)
def nh(ks:List NI):Int:=reduceHash (C5 (ks.map niH))
abbrev Nkv:=List NI×Addr×V
def dnP(d:Addr)(kvs:List Nkv)(h:Heap):Prop:=kvs.length<=Ca/\(d==Es)=false/\∃xs:List (List NI×Addr×Cb),Paired (λ(p:Nkv)(q:List NI×Addr×Cb)=>p.1=q.1/\p.2.1=q.2.1/\RelV p.2.2 q.2.2) kvs xs /\
 ∃o es ep,h.get? d=some o/\o.ExactDict/\o.data=.dict es ep/\es.toList=xs.map (λx=>{nh x.1,.ref x.2.1,x.2.2})/\(xs.map (·.1)).Nodup
def dnP.ok{d:Addr}{kvs:List Nkv}(x:dnP d kvs h):Y0 P w H h d (.ext (dnP d kvs)):=by
 let⟨a,b,xs,r,o,es,ep,e,q⟩:=id x;exists x,⟨o,e⟩,λh1 h2⟨a1,Z,y,J,Y,B,G,e1,O⟩k=>⟨a1,Z,y,J,Y,B,G,k _ e1,O⟩
def NkV(K:Cq)(H:Hp):NI->V->Prop
 |.k z,v=>v=.int z
 |.t x,v=>∃a,v=.ref a/\SqT K H a (x.map V.int)
 |.b t,v=>v=.bl t
def NkAt(K:Cq)(H:Hp)(ks:List NI)(a:Addr):Prop:=∃vs,SqT K H a vs/\Paired (NkV K H) ks vs
def Zg7(tk:∀b u,Rd H b (.tup u)->Rd H' b (.tup u)){a:Addr}(h:SqT K H a xs):SqT K H' a xs:=by
 rcases h with h|h
 .exact .inl (tk _ _ h)
 .exact .inr h
theorem NkV.tk(tk:∀b u,Rd H b (.tup u)->Rd H' b (.tup u)){k:NI}{v:V}(h:NkV K H k v):NkV K H' k v:=by
 cases k with
 |k z=>exact h
 |t x=>obtain⟨a,e,q⟩:=h;exists a,e,Zg7 tk q
 |b t=>exact h
theorem NkAt.tk(tk:∀b u,Rd H b (.tup u)->Rd H' b (.tup u)){ks:List NI}{a:Addr}(h:NkAt K H ks a):NkAt K H' ks a:=by
 let⟨vs,e,r⟩:=h;exists vs,Zg7 tk e,Paired.mapP r λ_ _ z=>z.tk tk
def NkAt.same(s:Same H H'){ks:List NI}{a:Addr}(h:NkAt K H ks a):NkAt K H' ks a:=h.tk λb u r=>by
 rcases r with r|⟨o,r⟩
 .exact .inl (s _ _ r)
 .exact .inr ⟨o,s _ _ r⟩
def Rh(s:Same H H'){a:Addr}(h:SqT K H a xs):SqT K H' a xs:=Zg7 (λb u r=>by
 rcases r with r|⟨o,r⟩
 .exact .inl (s _ _ r)
 .exact .inr ⟨o,s _ _ r⟩) h
def dnP.ne{a:Addr}{kvs:List Nkv}{B:Heap->Prop}(o:Obj){vs:Array Cb}(hd:o.data=.fields vs)(y:∀h:Heap,h.get? a=some o->B h)(e:dnP a kvs=B):False:=by
 let g:(Heap.get? {Array.replicate (a+1) o,{}} a)=some o:=by
  let⟨c,J,Z,sl⟩:=o;cases hd;unfold Heap.get?;let z:(Array.replicate (a+1) ({c,J,.fields vs,sl}:Obj))[a]?=some {c,J,.fields vs,sl}:=by simp
  simp only[z]
 let x:=y _ g;rw[<-e]at x;let⟨_,_,xs,_,Y,es,ep,G,_,O,_⟩:=x;rw[g]at G;cases G;rw[hd]at O;cases O
theorem Za9 :∀k,k<=ns.length->preSum (λi=>(ns[i]?).getD 0) k=(ns.take k).sum
 |0,_=>rfl
 |k+1,h=>by
  let y:k<ns.length:=by lia
  rw[preSum,Za9 k (),Jd y,Dg,Jb y];simp
section
theorem Vals.int_get :∀{us:List Cb}{i:Nat}{v:Cb},Vals (ns.map V.int) us->us[i]?=some v->∃t,v=.int ((ns[i]?).getD 0) t:=by
 induction ns with
 |nil=>intro us i v r e;cases r;simp at e
 |cons n r G =>
  intro us i v h e;rw[Jl]at h;cases h with
  |cons B y =>
   cases i with
   |zero =>
    let⟨t,rfl⟩:=B;simp at e;exact{t,by rw[<-e];rfl}
   |succ i=>simpa using G y (by simpa using e)
def Zmz(hc:X.calm=true):Wi X (.builtin "sum") (λxs H Q=>∃(p:Addr)(ns:List Int),xs=[.ref p]/\SqL X.K H p (ns.map V.int)/\Q (.int ns.sum) H):=by
 intro pz s σ H xs us Q I r h;let⟨p,ns,rfl,Y,q⟩:=h;let⟨u,rfl,O⟩:=Rb r;cases O;let⟨its,J,pl,hz⟩:=I.list Y;let y:=J.length;rw[Ja]at y;let B:p<s.heap.objs.size:=by let⟨_,e,_⟩:=pl.isList;exact D4 e
 refine call_sum_walkAnyS (Ky pl.isList ?_);refine{s.heap.objs.size,[s.heap.objs.size,p],[s.heap.objs.size],_,its.toArray.size,_,_,λi=>(ns[i]?).getD 0,rfl,(Walks.list (A:=X.A.in1) (I.ok.hd hc) _ p (Gn B) its.toArray).toS,
  {{_,D3 _ rfl,rfl,rfl},pl.isList.push _},λb G=>?_,λi v hP=>?_,λs' t' Z=>?_}
 .rcases J9.mp G with e|G
  .rw[e];show _<(s.heap.push _).objs.size;simp[Heap.push]
  .rw[Je.mp G];show _<(s.heap.push _).objs.size;simp only[Heap.push,Array.size_push];exact B6 B
 .exact Vals.int_get J (by simpa using hP)
 .rw[Jq,<-y,Za9 _ (Ji _),Gb];let⟨h1,h2,h3,h4,h5⟩:=Z;let e:s'={s with heap:=s'.heap,toks:=s'.toks}:=by
   let⟨a1,a2,a3,a4,a5⟩:=s';simp only at h2 h3 h4;subst h2 h3 h4;rfl
  rw[e];exists .int _,H,I.kept (t':=s'.toks) (Lz h1),⟨t',rfl⟩,q
end
section
variable{d:Addr}{i:Nat}{od:Obj}{tab:Array DictEntry}{Q:Option Cb->Cc->Prop}
theorem Zev(h:s.heap.IsKeyIter it d i tab.size ep)(gd:s.heap.get? d=some od)(O:od.data=.dict tab ep)(lt:i<tab.size)(fin:∀h',h'.IsKeyIter it d (i+1) tab.size ep->Hu it s.heap h'->Q (some tab[i].key) {s with heap:=h'}):Ck (Cn prog w) A (Jc5 (.ref it)) Q E s:=by
 let⟨oi,J,ci,G⟩:=id h;let y:Builtin.Dict_items.ownsTuple "dict_keyiterator"=false:=by decide
 let Z:¬ ((i:Int)<0):=by lia
 unfold Jc5;refine D0 (Mt (Hm (name:=C8 "__next__") h.typeIs F.slot_dict_keyiterator_next (Eb F.slot_dict_keyiterator_next h.typeIs F.entry_dict_keyiterator_next ?_ (F.args_dict_keyiterator_next_1 _))));refine D0 (D1 (D0 (D0 ?_)))
 first|refine D0 (wpAny_typeNameOfWhole_keyiter h.typeIs (D1 ?_))|refine D0 (wpAny_typeNameOf_keyiter h.typeIs (D1 ?_))
 refine D0 (wpAny_fieldsOf J G ?_);simp only[y,Gf,if_false];let Y:¬ ((Cd d==Cb.none)=true):=Gd;refine Eq.mpr (congrArg (λz=>Ck (Cn prog w) _ z _ _ s) (D6 Y)) ?_;refine D0 (D1 (D0 (wpAny_dictEntries gd O ?_)));rw[D6 (by simp)];refine D0 (D1 (D0 (wpAny_dictEpoch gd O ?_)));rw[D6 (by simp)];refine D1 ?_;simp only[Z,if_false,G2,Gy lt];refine D0 ?_
 first|refine D0 (wpAny_typeNameOfWhole_keyiter h.typeIs (D1 ?_))|refine D0 (wpAny_typeNameOf_keyiter h.typeIs (D1 ?_))
 refine D0 (wpAny_isOneOf_keyiter h.typeIs ?_);refine D0 (m:=setField (.ref it) 1 (Ke ((i:Int)+1))) (wpAny_setField J G (by simp) ?_);let B:(s.heap.update it (Jgv (·.setIfInBounds 1 (Ke ((i:Int)+1))))).IsKeyIter it d (i+1) tab.size ep :=
  {_,Jb1 _ J (Obj.isFreed_of_fields (Jea G _)),(Obj.cls_mapFields ..).trans ci,by rw[Jea G];simp[Ke]}
 refine D0 (Ec (D0 (wpAny_isOneOf_keyiter (s:={s with heap:=s.heap.update it (Jgv (·.setIfInBounds 1 (Ke ((i:Int)+1))))}) B.typeIs ?_)));show Ck _ _ (pure tab[i].key) _ _ _;exact D1 (D1 {_,rfl,D1 (fin _ B (Ef ..))})
theorem Zix(calm:A.handled=none)(h:s.heap.IsKeyIter it d i tab.size ep)(gd:s.heap.get? d=some od)(J:od.data=.dict tab ep)(Z:tab.size<=i)(fin:∀h',Heap.ExtBut it s.heap h'->Q none {s with heap:=h'}):Ck (Cn prog w) A (Jc5 (.ref it)) Q E s:=by
 let⟨oi,B,ci,G⟩:=id h;let y:Builtin.Dict_items.ownsTuple "dict_keyiterator"=false:=by decide
 let Y:¬ ((i:Int)<0):=by lia
 let O:¬ ((Cd d==Cb.none)=true):=Gd;unfold Jc5;refine D0 (Mt (Hm (name:=C8 "__next__") h.typeIs F.slot_dict_keyiterator_next (Eb F.slot_dict_keyiterator_next h.typeIs F.entry_dict_keyiterator_next ?_ (F.args_dict_keyiterator_next_1 _))));refine D0 (D1 (D0 (D0 ?_)))
 first|refine D0 (wpAny_typeNameOfWhole_keyiter h.typeIs (D1 ?_))|refine D0 (wpAny_typeNameOf_keyiter h.typeIs (D1 ?_))
 refine D0 (wpAny_fieldsOf B G ?_);simp only[y,Gf,if_false];refine Eq.mpr (congrArg (λz=>Ck (Cn prog w) _ z _ _ s) (D6 O)) ?_;refine D0 (D1 (D0 (wpAny_dictEntries gd J ?_)));rw[D6 (by simp)];refine D0 (D1 (D0 (wpAny_dictEpoch gd J ?_)));rw[D6 (by simp)];refine D1 ?_;simp only[Y,if_false,G2,Array.getElem?_eq_none Z];refine D0 ?_
 first|refine D0 (wpAny_typeNameOfWhole_keyiter h.typeIs (D1 ?_))|refine D0 (wpAny_typeNameOf_keyiter h.typeIs (D1 ?_))
 refine D0 (m:=setField (.ref it) 0 .none) (wpAny_setField B G (by simp) ?_);refine D0 (m:=newExc (.type "StopIteration") []) ?_;simp only[newExc,newTuple];refine D0 (Em (D0 (m:=firstArgMember _ _) (wpAny_of_eq (a:=Cb.none) (by first|rfl|(simp only[firstArgMember];rfl)) (Em ?_ (by size_fits)))) (by size_fits));simp only[raiseNew];refine D0 (wpAny_handled ?_);rw[show A.in1.handled=none from calm];refine D0 (m:=_) (D1 (wpAny_throw ?_));refine D0 (m:=_) (wpAny_isInstance (T:="StopIteration") (b:=true) {_,D3 _ rfl,rfl} isSubtype_stop ?_);exact D1 (fin _ (((Ef ..).extBut.push _).push _))
end
def Zjl{d:Addr}{od:Obj}{tab:Array DictEntry}{Q:Cb->Cc->Prop}(hd:(d==Es)=false)(gd:s.heap.get? d=some od)(ex:od.ExactDict)(h:od.data=.dict tab ep)(fin:Q (.ref s.heap.objs.size) {s with heap:=s.heap.push {cls:=.type "dict_keyiterator",data:=.fields #[.ref d,.int 0 0,.int tab.size 0,.int ep 0]} }):Ck (Cn prog w) A (pyIter (.ref d)) Q E s:=by
 let ty:s.TypeIs (.ref d) "dict":={od,gd,ex.1};refine wpAny_pyIter_slot ty F.slot_dict_iter (Eb F.slot_dict_iter ty F.entry_dict_iter ?_ (F.args_dict_iter_1 _));unfold Builtin.«dict.__iter__»;refine D0 (m:=Builtin.Dict.dictSlotNone _ _) ?_;unfold Builtin.Dict.dictSlotNone;refine D0 (wpAny_notOrdered_dict ty (D1 (a:=Cd d) ?_));refine D0 (m:=Builtin.Dict.showsAll d) ?_;unfold Builtin.Dict.showsAll;rw[D6 (by rw[hd];exact Gd)];refine D1 (D0 (wpAny_dictEntries gd h ?_));refine D0 (wpAny_dictEpoch gd h ?_);refine D0 (Em (D1 {_,rfl,"dict_keyiterator",_,{_,D3 _ rfl,rfl},F.slot_dict_keyiterator_next.lookup,?_}))
 simpa[Ke]using fin
def Zji{d:Addr}{od:Obj}{tab:Array DictEntry}(lo:(d==Es)=false)(ex:od.ExactDict)(J:od.data=.dict tab ep) :
  W.KdlSrc prog w "dict" d d tab.size (λi v=>∃h:i<tab.size,v=tab[i].key) (λh=>h.get? d=some od) where
 type:=λ_ ok=>{od,ok,ex.1}
 there:=λ_ ok=>⟨D4 ok,D4 ok⟩
 keep:=λ_ _ ok Y=>Y d (.inl rfl) od ok
 notList:=by decide
 notTuple:=by decide
 hint:=λ_ _ _ _ ok y=>W.kdl_hint_dict {od,ok,ex.1} y
 iter:=λA s Z ok=>{{cls:=.type "dict_keyiterator",data:=.fields #[.ref d,.int 0 0,.int tab.size 0,.int ep 0]},λi h=>h.IsKeyIter s.heap.objs.size d i tab.size ep/\h.get? d=some od,
  λ_ _ y=>Zjl lo ok ex J y,
  {
   sub:=λb B=>by rw[Je.mp B];exact Jh
   frame:=λi h h' st k=>{by let⟨⟨o,e,r⟩,_⟩:=st;exact⟨o,k _ Jh o e,r⟩,k d (Jf _ Jh) od st.2}
   item:=λi s' Q E hi st G=>Zev st.1 st.2 J hi λh' O sb=>by
    let:=G tab[i].key h' s'.toks ⟨hi,rfl⟩ {O,(sb.2 d (Gn (D4 ok))).trans st.2} λb o B e=>(sb.2 b (λz=>B (by rw[z];exact Je.mpr rfl))).trans e;exact this
   done:=λs' Q E st G=>Zix Z st.1 st.2 J (Ji _) λh' eb=>G h' s'.toks λb o B e=>eb b o (λz=>B (by rw[z];exact Je.mpr rfl)) e
   self:=λi s' Q E st y=>wpAny_pyIter_keyiter st.1 y},
  {{_,D3 _ rfl,rfl,rfl},D2 _ ok}}
end L2
namespace L2
open PySem PySem.W PyProof.Rows HT PySem.Calls
section
theorem Zh7:∀{L:List KIt}{us:List Cb},Vals (L.map λq=>V.ref q.2.1) us->us=Zh L
 |[],_,h=>by cases h;rfl
 |q::L,_,h=>by
  cases h with
  |cons a b=>rw[Zh7 b,show _=Cd q.2.1 from a];rfl
end
section
def Zci{xs ys:List Cb}{a b:Addr}{oa ob:Obj}{P:Lr->Cc->Prop}(ha:s.heap.get? a=some oa)(da:oa.data=.seq xs.toArray na)(hb:s.heap.get? b=some ob)(cb:ob.cls=.type "tuple")(db:ob.data=.seq ys.toArray nb)(ia:E4 xs ns)(ib:E4 ys ms)(h:P (.done (.ret (.bool (lexLt ns ms)))) s):Ck (Cn prog w) A (Builtin.«tuple.__lt__» {[.ref a,.ref b],[]}) P E s:=by
 show Ck _ _ (Jeo (.ref b) (.type "tuple") >>= _) _ _ s;refine D0 (wpAny_isInstance ⟨ob,hb,cb⟩ isSubtype_tuple_tuple ?_);simp only[By,Gf,if_false];refine D0 (Ht ha da ?_);refine D0 (Ht hb db ?_);refine D0 ?_;simp only[Jdu];refine wpAny_forIn_list _
  (λrest r s'=>r.1=none/\s'=s/\∃O Y G B,rest=List.zip G B/\E4 G O/\E4 B Y/\lexLt O Y=lexLt ns ms/\decide (G.length<B.length)=decide (xs.length<ys.length))
  _ ?_ ?_ _ _ ⟨rfl,rfl,ns,ms,xs,ys,rfl,ia,ib,rfl,rfl⟩
 .rintro⟨u,v⟩ rest r s' ⟨hr,rfl,O,Y,G,B,hz,a0,Z,y,J⟩;cases a0 with
  |nil=>simp at hz
  | @cons k1 t1 x'' xs'' hx'' =>
   cases Z with
   |nil=>simp at hz
   | @cons k2 t2 y'' ys'' hy'' =>
    simp only[Dc,List.cons.injEq,Prod.mk.injEq]at hz;let⟨⟨rfl,rfl⟩,rfl⟩:=hz;refine D0 (K9 ?_)
    by_cases hk:k1=k2
    .subst hk;rw[beq_self_eq_true];simp only[By,Gf,if_false];refine D1 {rfl,rfl,_,_,_,_,rfl,hx'',hy'',?_,by simpa using J};rw[<-y,lexLt_cons,D7 rfl]
    .rw[show(k1==k2)=false from beq_eq_false_iff_ne.mpr hk];simp only[Bool.not_false,if_true];refine D0 (Et ?_);refine D0 (show Ck _ _ (Ep .Lt (.int k1 t1) (.int k2 t2)) _ _ _ from wpAny_lt_int ?_);rw[<-y,lexLt_cons,D6 hk]at h;exact D0 (D1 (D1 (D1 h)))
 .rintro⟨r1,r2⟩ s' ⟨hr,rfl,O,Y,G,B,hz,a0,Z,y,J⟩;simp only at hr;subst hr;refine D1 ?_;let a1:Jep Jgk.Lt xs.toArray.size ys.toArray.size=.bool (lexLt ns ms):=by
   show Kj (decide (xs.toArray.size<ys.toArray.size))=_;rw[Jq,Jq,<-J,<-y];cases a0 with
   |nil =>
    cases Z with
    |nil=>rfl
    |cons _ _ _=>simp[HT.lexLt]
   |cons _ _ _ =>
    cases Z with
    |nil=>simp[HT.lexLt]
    |cons _ _ _=>simp at hz
  rw[a1];exact h
def Zsx{xs ys:List Cb}{a b:Addr}{y B:Obj}{Q:Cb->Cc->Prop}(Z:A.units<Er)(G:s.heap.get? a=some y)(Y:y.cls=.type "tuple")(da:y.data=.seq xs.toArray na)(J:s.heap.get? b=some B)(O:B.cls=.type "tuple")(db:B.data=.seq ys.toArray nb)(ia:E4 xs ns)(ib:E4 ys ms)(h:Q (.bool (lexLt ns ms)) s):Ck (Cn prog w) A (Ep .Lt (.ref a) (.ref b)) Q E s :=
 wpAny_richCompare_same_room (op:=.Lt) ⟨y,G,Y⟩ ⟨B,J,O⟩ Jff (Eb Jff ⟨y,G,Y⟩ F.entry_tuple_lt (Zci G da J O db ia ib {_,rfl,(λe=>nomatch e),h}) (F.args_tuple_lt_2 _ _)) Z
end
section
theorem items_int :∀{ns:List Int}{vs:List Cb},E4 vs ns->ItemsAre (intKind prog w) ns vs.toArray.toList:=by
 intro _ _ y;cases y with
 |nil=>
  exact .nil
 |cons n t h=>
  exact .cons (by show Jc8 n (Li n t)=true;simp[Jc8]) (items_int h)
end
end L2
namespace L2
open PySem PySem.W PySem.Spec PyProof.Rows
section
def Zt2(K:Cq):R2:=λx y H Q=>∃a b ys,x=.ref a/\y=.ref b/\SqT K H a []/\SqT K H b ys/\Q (.ref b) H
def Zqr:OpR X (Hk .Add) (Zt2 X.K):=by
 intro pz s σ H x y v u Q I rx ry h;let⟨a,b,ys,rfl,rfl,ha,hb,q⟩:=h;cases rx;cases ry;let⟨its,r1,p1,_⟩:=I.tuple ha;let⟨B,r2,p2,_⟩:=I.tuple hb;cases r1;let⟨⟨cls,dd,data,sl⟩,ho,hc,n,hd⟩:=id p1;let⟨⟨a0,Z,data2,Y⟩,G,O,n2,J⟩:=id p2;simp only at hc hd O J;subst hc hd O J;exact concat_meets {_,ho,rfl} {_,G,rfl} Mw seq_tuple_add Kx Ks (Ko _ _)
  (tuple_addW0 a b _ B.toArray n n2 dd Z sl Y rfl) {ho,G,{.ref b,H,I,rfl,q}}
end
end L2
namespace L2
open PySem PySem.W PyProof.Rows HT PySem.Calls
section
def Ztz(K:PySem.W.Frag):List V->Hp->VK->Prop:=λxs H Q=>∃(l:Addr)(ns:List Int),xs=[.ref l]/\SqL K H l (ns.map V.int)/\ns.length<64 /\
 ∀(D:Addr)(h:List Int),H D=none->h.Perm ns->h.Pairwise (·<=·)->Q (.ref D) (upd H D (.lst (h.map V.int)))
theorem Zgf{K:PySem.W.Frag}(hK:X.K=K):Wi X (.builtin "sorted") (Ztz K):=by
 intro pz s σ H xs us Q I r h;let⟨l,ns,rfl,hl,a0,q⟩:=h;let⟨u,rfl,Z⟩:=Rb r;cases Z;subst hK;let⟨its,rv,pl,_⟩:=I.list hl;let O:=Xt rv;let el:=O.length;refine sorted_ints pl.isList O () λout B a1 Y a3=>?_;let hsz:((s.heap.push (Eh "list" #[] 0)).update s.heap.objs.size (Cr (·++its.toArray))).objs.size=s.heap.objs.size+1:=by
  rw[Heap.size_update,Jc2]
 let G:(((s.heap.push (Eh "list" #[] 0)).update s.heap.objs.size (Cr (·++its.toArray))).push (Eh "list" its.toArray 0)).get? (s.heap.objs.size+1)=some (Eh "list" its.toArray 0):=by
  rw[<-hsz];exact D3 _ rfl
 let keep:∀b o,s.heap.get? b=some o->(((s.heap.push (Eh "list" #[] 0)).update s.heap.objs.size (Cr (·++its.toArray))).push (Eh "list" its.toArray 0)).get? b=some o:=λb o q=>by
  let y:b<s.heap.objs.size:=D4 q;rw[Ka _ _ _ (by rw[hsz];exact Gn (B6 y)),Heap.get?_update_ne _ _ _ _ (Gn y),Ka _ _ _ (Gn y)];exact q
 let⟨e,he⟩:=sortedHeap_at (vs:=its) (out:=out) G;exists .ref (s.heap.objs.size+1),_,I.laid (a:=s.heap.objs.size+1) (t':=s.toks) (λb o eb=>?_) (Fu _) (show Y0 X.prog X.w _ _ _ (.lst (B.map V.int))from{?_,out.toList,e,Zac a1,he}),rfl,q _ B (I.hok.fresh (Fu _)) Y a3
 .let J:s.heap.get? b=some o:=eb;let y:b<s.heap.objs.size:=D4 J;show(sortedHeap _ _ _ _).get? b=_;rw[sortedHeap_old (Gn (B6 y)) (by rw[Jc2,hsz];exact B6 (B6 y))];exact keep b o J
 .rw[Ja,Y.length_eq,C0];lia
end
def LtAt(A:Kw)(s:Cc)(u v:Cb)(b:Bool):Prop:=∀(prog:Ha)(w:Hz)(E:Cb->Cc->Prop)(Q:Cb->Cc->Prop),Q (.bool b) s->Ck (Cn prog w) A (Ep .Lt u v) Q E s
def lexN:(Nat->Bool×Bool)->Nat->Nat->Bool
 |_,0,n=>decide (0<n)
 |_,_+1,0=>false
 |z,m+1,n+1=>if(z 0).1 then lexN (λj=>z (j+1)) m n else(z 0).2
section
def LtAt.int(i j:Int)(t u:Tok):LtAt A s (.int i t) (.int j u) (decide (i<j)):=λprog w E Q h=>wpAny_lt_int h
end
end L2
namespace PySem.SeqAt
open AutoSeq1 (wpAny_loadPart')
open MeetsSeq MeetsSeq2 MeetsSeq3 SeqRoads2
theorem Zi4(l b:Addr)(y items2:Array Cb)(n n2:Nat)(dd Z:Option Addr)(sl J:Array (Option Cb))(k:Nat) :
  ∀(i:Nat)(z:Nat->Bool×Bool),y.size-i=k->i<=y.size->i<=items2.size->Meets (Builtin.«list.__eq__.loop» {[.ref l,.ref b,Ke i,Ke 0],[]})
   (λA R s=>s.heap.get? l=some {cls:=.type "list",dict:=dd,data:=.seq y n,slots:=sl}/\s.heap.get? b=some {cls:=.type "list",dict:=Z,data:=.seq items2 n2,slots:=J} /\
    (∀j(h1:i+j<y.size)(h2:i+j<items2.size),EqAt A.in1 s y[i+j] items2[i+j] (z j).1/\L2.LtAt A.in1 s y[i+j] items2[i+j] (z j).2) /\
    R (.ok (.ret (.bool (L2.lexN z (y.size-i) (items2.size-i))))) s):=by
 induction k with
 |zero =>
  intro i z hk hi O prog w A R s h;let⟨hp,g,d,tk,os⟩:=s;let⟨hl,B,Y,h⟩:=h
  wp_walk using C4 hl,C4 B
  let hi1:y[((i:Nat):Int).toNat]?=none:=by simp;lia
  rw[hi1]
  wp_walk using C4 hl,C4 B
  show R (.ok (.ret (.bool (decide (y.size<items2.size))))) _;rw[show y.size-i=0 by lia,L2.lexN]at h;rw[show decide (y.size<items2.size)=decide (0<items2.size-i)from decide_eq_decide.mpr ()];exact h
 |succ k ih =>
  intro i z hk hi O prog w A R s h;let⟨hp,g,d,tk,os⟩:=s;let⟨hl,B,Y,h⟩:=h
  wp_walk using C4 hl,C4 B
  let G:i<y.size:=by lia
  let hi1:y[((i:Nat):Int).toNat]?=some y[i]:=by simp[G]
  let hc:((i:Int)+1)=((i+1:Nat):Int):=by push_cast;rfl
  by_cases hlt2:i<items2.size
  .let hi2:items2[((i:Nat):Int).toNat]?=some items2[i]:=by simp[hlt2]
   rw[show y.size-i=(y.size-(i+1))+1 by lia,show items2.size-i=(items2.size-(i+1))+1 by lia,L2.lexN]at h;let⟨h1,h2⟩:=Y 0 G hlt2;rw[hi1,hi2];refine D0 (h1 prog w _ _ ?_);cases hb':(z 0).1 with
   |true =>
    rw[hb',D7 rfl]at h
    wp_walk
    rw[hc];exact{plainId_quiet plain_eq_loop _,Lu entry_eq_loop (by
     rw[Kd plain_eq_loop _];exact ih (i+1) (λj=>z (j+1)) () () () prog w A R _ {hl,B,λj g1 g2=>by
      let:=Y (j+1) () ();simpa only[L7 1 j,<-Br,Nat.add_right_comm i 1 j]using this,h})}
   |false =>
    rw[hb',D6 nofun]at h
    wp_walk using C4 hl,C4 B
    rw[hi1,hi2];refine D0 (h2 prog w _ _ ?_)
    wp_walk
    exact h
  .let hi2:items2[((i:Nat):Int).toNat]?=none:=by simp;lia
   rw[hi1,hi2]
   wp_walk using C4 hl,C4 B
   show R (.ok (.ret (.bool (decide (y.size<items2.size))))) _;rw[show y.size-i=(y.size-(i+1))+1 by lia,show items2.size-i=0 by lia,L2.lexN]at h;rw[D9 (show ¬ y.size<items2.size by lia)];exact h
theorem list_ltAt(l b:Addr)(y items2:Array Cb)(n J:Nat)(Y G:Option Addr)(sl B:Array (Option Cb))(z:Nat->Bool×Bool) :
  Meets (Builtin.«list.__lt__» {[.ref l,.ref b],[]})
   (λA R s=>s.heap.get? l=some {cls:=.type "list",dict:=Y,data:=.seq y n,slots:=sl}/\s.heap.get? b=some {cls:=.type "list",dict:=G,data:=.seq items2 J,slots:=B} /\
    (∀j(h1:j<y.size)(h2:j<items2.size),EqAt A.in1 s y[j] items2[j] (z j).1/\L2.LtAt A.in1 s y[j] items2[j] (z j).2) /\
    R (.ok (.ret (.bool (L2.lexN z y.size items2.size)))) s):=by
 intro prog w A R s h;let⟨hp,g,d,tk,os⟩:=s;let⟨hl,O,Z,h⟩:=h;let f3:=Ja2
 wp_walk using C4 hl,C4 O
 exact{plainId_quiet plain_eq_loop _,Lu entry_eq_loop (by
  rw[Kd plain_eq_loop _];refine Zi4 l b y items2 n J Y G sl B _ 0 z rfl (Ge _) (Ge _) prog w A R _ {hl,O,λj h1 h2=>?_,h};let:=Z j () ();simpa only[Bu]using this)}
end PySem.SeqAt
namespace L2
open PySem PySem.W PyProof.Rows HT PySem.Calls
section
theorem Wy{k:Nat}(h:Room k A):A.units+200<Er:=by have:=h.un;lia
theorem Zbh:∀(ns ms:List Int),lexN (λj=>(ns[j]? == ms[j]?,decide ((ns[j]?).getD 0<(ms[j]?).getD 0))) ns.length ms.length=HT.lexLt ns ms
 |[],[]=>rfl
 |[],_::_=>rfl
 |_::_,[]=>rfl
 |n::ns,m::ms=>by
  let h:=Zbh ns ms;rw[Jy,Jy,lexN,HT.lexLt_cons];simp only[List.getElem?_cons_zero,List.getElem?_cons_succ,Mx];rw[h]
  by_cases e:n=m
  .rw[D7 e,D7 (by rw[e];exact beq_self_eq_true _)]
  .rw[D6 e,D6 (by simp[e])]
theorem ints_at(h:E4 us ns):us.length=ns.length/\∀(j:Nat)(y:j<us.length),∃t,us[j]=.int ((ns[j]?).getD 0) t:=by
 induction h with
 |nil=>exact{rfl,λj y=>Dx y (Bg _)}
 |cons n t h B =>
  exists by rw[Jy,Jy,B.1],λj y=>?_;cases j with
  |zero=>exact⟨t,rfl⟩
  |succ j=>exact B.2 j (Nat.lt_of_succ_lt_succ y)
theorem Zra{vs:List Cb}(h1:E4 us ns)(h2:E4 vs ms)(j:Nat)(y:j<us.length)(h:j<vs.length):Jgi A s us[j] vs[j] (ns[j]? == ms[j]?)/\LtAt A s us[j] vs[j] (decide ((ns[j]?).getD 0<(ms[j]?).getD 0)):=by
 let⟨O,G⟩:=ints_at h1;let⟨J,B⟩:=ints_at h2;let⟨t,e1⟩:=G j y;let⟨u,e2⟩:=B j h;rw[e1,e2];exists ?_,.int _ _ _ _;let:=Jgi.int_int (A:=A) (s:=s) ((ns[j]?).getD 0) t ((ms[j]?).getD 0) u;rw[Jb (),Jb ()]at this⊢;exact this
end
section
theorem Zi8{L:List KIt}(I:Inv X pz σ H s)(O:∀q∈L,SqL X.K H q.2.1 (q.2.2.map V.int))(h2:0<L.length){Q:SortKind->Cc->Prop}(h:Q oneType' s) :
  Ck (Cn X.prog X.w) A (keyKind' (Zh L).toArray) Q E s:=by
 let ty:∀v∈Zh L,Looks (Cn X.prog X.w) s.heap (typeOf v) (.type "list"):=λv y=>by
  let⟨q,B,rfl⟩:=Jk.mp y;let⟨its,Z,pl,_⟩:=I.list (O q B);let⟨o,J,Y,n,hd⟩:=pl.isList;let:=(show Looks (Cn X.prog X.w) s.heap (typeOf (.ref q.2.1)) o.cls from(Looks.ld J).andThen .now);rwa [Y]at this
 let firsts:∀(vs:List Cb),(∀v∈vs,Looks (Cn X.prog X.w) s.heap (typeOf v) (.type "list"))->∀{Q:List (Option Cb)->Cc->Prop},Q (vs.map λ_=>none) s->Ck (Cn X.prog X.w) A (vs.mapM firstOfTuple') Q E s:=by
  intro vs
  induction vs with
  |nil=>intro _ Q h;rw[List.mapM_nil];exact D1 h
  |cons v vs G =>
   intro y Q h;rw[List.mapM_cons];refine D0 ?_;rw[kas_first_eq];refine D0 (Looks.here (y v Jh) ?_);rw[D7 nofun];refine D1 ?_;exact D0 (G (λx hx=>y x (Jf _ hx)) (Q:=λbs s'=>Ck (Cn X.prog X.w) A (pure (none::bs)) Q E s') (D1 h))
 let hl:(Zh L).length=L.length:=by simp[Zh]
 generalize Zh L=vs at ty hl
 match vs,ty,hl with
 |[],_,hl=>simp at hl;lia
 |v::vs,ty,_ =>
  rw[kat_kind_eq,List.mapM_toArray,map_eq_pure_bind];refine D0 (D0 (firsts _ ty (D1 ?_)));rw[D6 (by simp),D6 (by simp)];rw[oneTypeOnly'_eq,List.mapM_toArray,map_eq_pure_bind];refine D0 (D0 (D0 (kas_mapM (r:=.type "list") _ (λv y Q' B=>(ty v y).here B) (D1 ?_))));let hall2:((List.map (λ_=>Mb "list") (v::vs)).toArray.all λx=>x==Mb "list")=true:=by
   simp only[List.all_toArray,List.all_map,List.all_eq_true];intro _ _;rfl
  let h0:(List.map (λ_=>Mb "list") (v::vs)).toArray[0]?=some (Mb "list"):=by simp
  rw[h0];simp only[hall2,if_true];exact D1 (D1 h)
theorem Zq0{a b:Addr}{Q:Bool->Cc->Prop}(I:Inv X pz σ H s)(hu:A.units+120<Er)(h1:SqL X.K H a (ns.map V.int))(h2:SqL X.K H b (ms.map V.int))(h:Q (HT.lexLt ns ms) s):Ck (Cn X.prog X.w) A (oneLt' true (.ref a) (.ref b)) Q E s:=by
 let⟨its,rv,pl,_⟩:=I.list h1;let⟨y,O,Y,_⟩:=I.list h2;let i1:=Xt rv;let i2:=Xt O;rw[oneLt'_eq];simp only[if_true];refine D0 (wpAny_cRoomFor () ?_);let⟨⟨cls,dd,data,sl⟩,ho,hc,n,hd⟩:=id pl.isList;let⟨⟨a1,a0,data2,J⟩,Z,G,n2,B⟩:=id Y.isList;simp only at hc hd G B;subst hc hd G B;refine D0 (wpAny_callSpecialIfBound?_slot {_,ho,rfl} F.slot_list_lt (Kp F.slot_list_lt {_,ho,rfl} F.entry_list_lt (F.args_list_lt_2 _ _) (SeqAt.list_ltAt a b its.toArray y.toArray n n2 dd a0 sl J (λj=>(ns[j]? == ms[j]?,decide ((ns[j]?).getD 0<(ms[j]?).getD 0)))) {ho,Z,λj g1 g2=>?_,?_}))
 .simp only[List.getElem_toArray];exact Zra i1 i2 j (by simpa using g1) (by simpa using g2)
 .rw[Jq,Jq,(ints_at i1).1,(ints_at i2).1,Zbh];exact Ek h
end
end L2
namespace L2
open PySem PySem.SetTable PyProof.Rows PySem.W
section
theorem W2{α:Type}{f:β->α}{l m:List α}(p:l.Perm m):∀{h:List β},m=h.map f->∃B:List β,B.Perm h/\l=B.map f:=by
 induction p with
 |nil=>exact λ{h}e=>{h,.refl _,e}
 |cons x _ ih =>
  intro h e;cases h with
  |nil=>cases e
  |cons b r =>
   rw[Jl]at e;injection e with e1 e2
   let⟨Y,G,p2⟩:=ih e2;exact{b::Y,G.cons _,by rw[Jl,e1,p2]}
 |swap x y t =>
  intro h e
  match h,e with
  |[],e=>cases e
  |[b],e=>cases e
  |b::c::r,e =>
   rw[Jl,Jl]at e;injection e with e1 e2
   injection e2 with e2 e3
   exact{c::b::r,.swap _ _ _,by rw[Jl,Jl,e1,e2,e3]}
 |trans _ _ O J =>
  intro h e;let⟨q2,p2,e2⟩:=J e;let⟨Z,G,e1⟩:=O e2;exists Z,G.trans p2,e1
end
end L2
namespace L2
open PySem PySem.W PyProof.Rows HT PySem.Calls
section
def rvB:Bool->List τ->List τ
 |true,l=>l.reverse
 |false,l=>l
theorem Ts(b:Bool)(l:List τ):(rvB b l).Perm l:=by
 cases b with
 |true=>exact Mm _
 |false=>exact .refl _
theorem Zcp(f:τ->υ)(b:Bool)(l:List τ):(rvB b l).map f=rvB b (l.map f):=by
 cases b with
 |true=>exact M7 ..
 |false=>rfl
theorem Zhy(b:Bool)(l:List τ):(if b then l.toArray.reverse else l.toArray)=(rvB b l).toArray:=by
 cases b with
 |true=>exact List.reverse_toArray
 |false=>rfl
def Nd(D:Addr):Builtin.«list.sort» {[.ref D],[]}=Builtin.«list.sort» {[.ref D],[(C8 "reverse",.bool false)]}:=by kernel_rfl
theorem Zcl{b:Bool}{κ:SortKind}{L:List KIt}(a6:argsOk "sorted" {[.ref l],kw})(a5:∀D,argsOk "list.sort" {[.ref D],kw})(a4:∀D,Builtin.«list.sort» {[.ref D],kw}=Builtin.«list.sort» {[.ref D],[(C8 "reverse",.bool b)]})(I:Inv X pz σ H s)(a2:∀{A:Kw}{R:List Cb->Cc->Prop}{E:Cb->Cc->Prop},A.handled=X.A.handled->(∀(h':Heap)(tk:Nat),(∀b o,s.heap.get? b=some o->h'.get? b=some o)->R (Zh L) {s with heap:=h',toks:=tk})->Ck (Cn X.prog X.w) A (collect (.ref l)) R E s)(b2:L.length<65536)(na:(L.map (·.2.1)).Nodup)(nd:(L.map (·.2.2)).Nodup)(hkind:∀(pins':List (Addr×Obj))(s':Cc),Inv X pins' σ H s'->1<L.length->∀{E:Cb->Cc->Prop}{A:Kw}{Q:SortKind->Cc->Prop},Q κ s'->Ck (Cn X.prog X.w) A (keyKind' (Zh L).toArray) Q E s')(a3:∀(pins':List (Addr×Obj))(s':Cc),1<L.length->Inv X pins' σ H s'->CmpR (Xw ((rvB b L).map (·.2.2))) (rvB b L).length (kas_ask X.prog X.w X.A.in1.in1 κ (Zh (rvB b L))) s')(h:∀(D:Addr)(L':List KIt),H D=none->L'.Perm L->L'.Pairwise (λa b=>HT.lexLt a.2.2 b.2.2=true)->Q (.ref D) (upd H D (.lst ((rvB b L').map λq=>V.ref q.2.1)))) :
  Ck (Cn X.prog X.w) X.A (call (.builtin "sorted") [.ref l] kw) (EP X pz σ Q) E s:=by
 let el:(Zh L).length=L.length:=by simp[Zh]
 refine call_function_entry_kw kind_sorted plain_sorted entry_sorted a6 ?_;unfold Builtin.«sorted»;refine D0 (m:=checkCount "sorted" 1 1 _) (D1 ?_);refine D0 (a2 rfl λh1 B keep1=>?_);refine D0 (Lh ?_ (by rw[C0];lia));let J:Inv X pz σ H {s with heap:=h1,toks:=B}:=I.kept (t':=B) keep1;let O:(h1.push (Eh "list" (Zh L).toArray 0)).get? h1.objs.size=some (Eh "list" (Zh L).toArray 0):=D3 _ rfl;let fD:FpOk X pz H h1.objs.size:=J.fpOk (Ji _) (J.hok.fresh (Ji _));let I1:Inv X pz σ H {s with heap:=h1.push (Eh "list" (Zh L).toArray 0),toks:=B}:=J.kept (t':=B) λb o e=>D2 _ e
 generalize hD:h1.objs.size=D at *
 generalize hh:h1.push (Eh "list" (Zh L).toArray 0)=hp at *
 refine D0 (Ec (wpAny_call_entry_kw PyProof.Rows.slot_list_sort {_,O,rfl} PyProof.Rows.entry_list_sort ?body (a5 _)))
 case body =>
  show Ck (Cn X.prog X.w) X.A.in1.in1 (Builtin.«list.sort» {[.ref D],kw}) _ _ _;let s1:=Ef hp D (Cr λ_=>(#[]:Array Cb));obtain⟨e1,a1⟩:∃e1,(hp.update D (Cr λ_=>(#[]:Array Cb))).get? D=some (Eh "list" #[] e1):={_,Kt O λ_=>#[]};let I2:=(I1.turn1 fD s1).pin1 fD a1 (by intro v;simp);let I3:Inv X (pz++[PD D e1]) σ H {s with toks:=B,heap:=((hp.update D (Cr λ_=>(#[]:Array Cb))).push (Eh "tuple" (Zh L).toArray 0)).push (Eh "list" #[] 0)} :=
   I2.kept (t':=B) λb o e=>D2 _ (D2 _ e)
  let pd:=I3.pin (PD D e1) (Jp _ (Jp _ (Je.mpr rfl)));let fin:∀(L':List KIt)(G:Array Cb),L'.Perm L->L'.Pairwise (λa b=>HT.lexLt a.2.2 b.2.2=true)->G=(Zh L').toArray->∀{R:Lr->Cc->Prop}{A:Kw}{E:Cb->Cc->Prop},(∀s',EP X pz σ Q (.ref D) s'->R (.done (.ret .none)) s') ->
    Ck (Cn X.prog X.w) A (Builtin.List.listUpdate (.ref D) (λ_=>if b then G.reverse else G) >>= λ_=>(pure (.done (.ret .none)):Sem Lr)) R E {s with toks:=B,heap:=((hp.update D (Cr λ_=>(#[]:Array Cb))).push (Eh "tuple" (Zh L).toArray 0)).push (Eh "list" #[] 0)}:=λL' G pm pw ea R A E hR=>by
   let er:(if b then G.reverse else G)=(Zh (rvB b L')).toArray:=by
    rw[ea,Zhy];unfold Zh;rw[Zcp]
   rw[er];let lr:(Zh (rvB b L')).length=L.length:=by unfold Zh;rw[Ja,(Ts b L').length_eq,pm.length_eq]
   refine D0 (Ku pd.1 rfl (D1 (hR _ {.ref D,_,?_,rfl,h D L' fD.1 pm pw})) (Ge _) (by show(Zh (rvB b L')).toArray.size<=_;rw[Jq,lr,C0];lia));let go:∀M:List KIt,Vals (M.map λq=>V.ref q.2.1) (Zh M):=λM=>by
    induction M with
    |nil=>exact .nil
    |cons y r ih=>exact .cons rfl ih
   exact((I3.unpinned (pl:=[PD D e1])).turn1 fD (Ef _ D (Cr λ_=>(Zh (rvB b L')).toArray))).track (its:=Zh (rvB b L')) (Kt pd.1 λ_=>(Zh (rvB b L')).toArray) fD (go _) (by rw[Ja,(Ts b L').length_eq,pm.length_eq,C0];lia)
  rw[a4,list_sort_rev];refine D0 (listItems_at O rfl ?_);refine D0 (Ku O rfl ?_ (by rw[Jq,C0];lia) (Ge _));refine D0 (seqEpoch_at a1 rfl ?_);refine D0 (wpAny_newTuple ?_ (by show(Zh L).length<=_;rw[C0];lia));refine D0 (Lh ?_ (Ge _));refine Ec ?_;show Ck (Cn X.prog X.w) _ _ _ _ {s with toks:=B,heap:=((hp.update D (Cr λ_=>(#[]:Array Cb))).push (Eh "tuple" (Zh L).toArray 0)).push (Eh "list" #[] 0)};dsimp only;let ez:(if b then((Zh L).toArray.zip (Zh L).toArray).reverse else(Zh L).toArray.zip (Zh L).toArray)=(Zh (rvB b L)).toArray.zip (Zh (rvB b L)).toArray:=by
   let go:∀xs:List Cb,xs.toArray.zip xs.toArray=(xs.map λv=>(v,v)).toArray:=λxs=>by
    apply Array.toList_inj.mp
    rw[ksk_zip]
    induction xs with
    |nil=>rfl
    |cons x r ih=>exact congrArg _ ih
   rw[go,go,Zhy];unfold Zh;rw[Zcp,Zcp]
  let hq:∀{A:Kw}{E:Cb->Cc->Prop}{s:Cc}{Q:Lr->Cc->Prop}{m:Sem Lr},Ck (Cn X.prog X.w) A m Q E s->Ck (Cn X.prog X.w) A (if b=true then rule "list.sort.reverse" >>= λ_=>m else m) Q E s:=λhm=>by
   cases b with
   |true=>exact D0 (Et hm)
   |false=>exact hm
  refine hq ?_;rw[ez];let em:∀M:List KIt,(((Zh M).toArray.zip (Zh M).toArray).map (·.2))=(Zh M).toArray:=λM=>by
   apply Array.toList_inj.mp
   rw[Array.toList_map,ksk_zip];simp only[Mz (Ji _)]
  by_cases h2:(Zh L).toArray.size<2
  .rw[D7 h2,D7 h2];refine D0 (D1 ?_);refine D0 (m:=(pure ⟨⟩:StateT Cm Sem Unit).run _) (D1 ?_);let Y:L.length<2:=by simpa[Zh]using h2
   let Z:rvB b L=L/\L.Pairwise λa b=>HT.lexLt a.2.2 b.2.2=true:=by
    match L,Y with
    |[],_=>exact{by cases b<;>rfl,.nil}
    |[q],_=>exact{by cases b<;>rfl,Ba _ _}
    |_::_::_,Y=>simp only[Jy]at Y;lia
   refine D0 (seqEpoch_at pd.1 rfl ?_);dsimp only;simp only[bne_self_eq_false,Gf,if_false];exact fin L _ (.refl _) Z.2 (by rw[Z.1];exact em L) λs' z=>{_,rfl,D1 {_,rfl,z}}
  .rw[D6 h2,D6 h2];let Y:2<=(Zh L).length:=by simpa using h2
   refine D0 (hkind _ _ I3 () ?_);let a7:=a3 _ _ () I3;let pr:=Ts b L;let a0:((rvB b L).map (·.2.2)).Nodup:=(pr.map _).nodup_iff.mpr nd;let nk:(Zh (rvB b L)).Nodup:=by
    let e:Zh (rvB b L)=((rvB b L).map (·.2.1)).map Cd:=by simp[Zh]
    rw[e];exact List.Pairwise.map _ (λa b h z=>h (Cd.inj z)) ((pr.map _).nodup_iff.mpr na)
   generalize rvB b L=R at *
   refine D0 (Jac (Ze3 (vs:=Zh R) (ks:=Zh R) (rk:=Xw (R.map (·.2.2))) (n:=R.length) rfl (by simp[Zh]) nk a7 λi j hi hj z=>Nk a0 (by simpa using hi) (by simpa using hj) z) ?_ λ_ _ x=>x);rintro⟨⟨⟩,b1⟩ s' ⟨p,rfl,g,hs,a8,hf⟩;let⟨pm,pw⟩:=Nl a0 g hs;refine D0 (seqEpoch_at pd.1 rfl ?_);dsimp only;rw[hf];simp only[bne_self_eq_false,Gf,if_false];refine fin _ _ (pm.trans pr) pw ?_ λs' z=>{_,rfl,D1 {_,rfl,z}};rw[kat_snds rfl a8]
   congr 1
   show _=((p.toList.map λi=>R.getD i (.non,0,[])).map λq=>Cd q.2.1);rw[Ju];refine Gw λi hi=>?_;let hi:i<R.length:=by have:=(G3.mp g.perm).mem_iff.mp hi;simpa using this
   show(Zh R).getD i Cb.none=Cd (R.getD i (.non,0,[])).2.1;rw[show(Zh R).getD i Cb.none=Cd R[i].2.1 from Yf hi,Gq,Jb hi];rfl
end
section
def Zcq(K:PySem.W.Frag):List V->Hp->VK->Prop:=λxs H Q=>∃(l:Addr)(L:List KIt),xs=[.ref l]/\SqL K H l (L.map λq=>V.ref q.2.1)/\L.length<65536/\(∀q∈L,SqL K H q.2.1 (q.2.2.map V.int))/\(L.map (·.2.2)).Nodup /\
 ∀(D:Addr)(L':List KIt),H D=none->L'.Perm L->L'.Pairwise (λa b=>HT.lexLt a.2.2 b.2.2=true)->Q (.ref D) (upd H D (.lst (L'.map λq=>V.ref q.2.1)))
theorem Zdl{K:PySem.W.Frag}(hK:X.K=K)(hu:X.A.units+200<Er):Wi X (.builtin "sorted") (Zcq K):=by
 intro pz s σ H xs us Q I r h;let⟨l,L,rfl,hl,O,B,nd,q⟩:=h;let⟨u,rfl,rx⟩:=Rb r;cases rx;subst hK;let na:(L.map (·.2.1)).Nodup:=by
  refine Jr.mpr ((Jr.mp nd).imp_of_mem λ{a b}ha hb h z=>h ?_);let⟨i1,v1,p1,_⟩:=I.list (B a ha);let⟨i2,v2,p2,_⟩:=I.list (B b hb);let⟨o1,Y,_,n1,d1⟩:=id p1.isList;let⟨o2,g2,_,n2,Z⟩:=id p2.isList;rw[z,g2]at Y;cases Y;rw[d1]at Z;injection Z with e1 e2
  let e:i1=i2:=by simpa using e1
  subst e;exact Qm (Xt v1) (Xt v2)
 let⟨its,rv,pl,_⟩:=I.list hl;let eI:its=Zh L:=Zh7 rv;subst eI;refine Zcl (b:=false) (κ:=oneType') (args_sorted1 _) (λ_=>args_list_sort _) Nd I (λ{A R E}_ hR=>?_) O na nd (λ_ _ J h0{_ _ _}q=>Zi8 J B () q) (λ_ _ _ J=>?_) q
 .refine collect_list pl.isList ?_ (by simp[Zh];rw[C0];lia);refine hR _ s.toks λb o e=>?_;let y:b<s.heap.objs.size:=D4 e;rw[Heap.get?_update_ne _ _ _ _ (Gn y),Ka _ _ _ (Gn y)];exact e
 .show CmpR (Xw (L.map (·.2.2))) L.length (kas_ask _ _ _ _ (Zh L)) _;intro i j C hi G h;rw[Ud nd (by simpa using hi) (by simpa using G),Yf hi,Yf G]at h;unfold kas_ask;rw[show(Zh L).getD i Cb.none=Cd L[i].2.1 from Yf hi,show(Zh L).getD j Cb.none=Cd L[j].2.1 from Yf G,keyLt'_oneType];exact Zq0 J (by show X.A.units+1+1+120<Er;lia) (B _ (Js hi)) (B _ (Js G)) h
end
end L2
namespace L2
open PySem PySem.Spec PyProof.Rows
theorem Zc6:∀{x y:List Int},x.map (Cz:Int->Key)=y.map Cz->x=y
 |[],[],_=>rfl
 |[],_::_,h=>nomatch h
 |_::_,[],h=>nomatch h
 |a::x,b::y,h=>by
  rw[Jl,Jl]at h;injection h with h1 h2
  rw[Kh h1,Zc6 h2]
section
variable(P:Ha)(w:Hz)
def niIs(h:Heap):NI->Cb->Prop
 |.k z,v=>Qk (.inl z) v=true
 |.t x,v=>∃a,v=.ref a/\IsTupleKey (Z9 P w) h (x.map Cz) a
 |.b t,v=>v=.bool t
def niD:NI->Nat
 |.k _=>1
 |.t x=>x.length+1
 |.b _=>1
inductive Nits(h:Heap):List NI->List Cb->Prop where
 |nil:Nits h [] []
 |cons {k:NI} {v:Cb} {ks:List NI} {vs:List Cb}:niIs P w h k v->Nits h ks vs->Nits h (k::ks) (v::vs)
def X2(h:Heap)(ks:List NI)(a:Addr):Prop:=∃o y n,h.get? a=some o/\o.cls=.type "tuple"/\o.data=.seq y n/\Nits P w h ks y.toList
end
section
theorem niIs.inj{x y:NI}{v:Cb}(hx:niIs P w h x v)(B:niIs P w h y v):x=y:=by
 cases x with
 |k z =>
  let hx:Qk (.inl z) v=true:=hx;cases y with
  |k G=>rw[Kh ((Z9 P w).inj v _ _ hx B)]
  |t J =>
   let⟨a,rfl,_⟩:=B;rcases Z7 hx with⟨i,t,_,e⟩|⟨i,t,_,e⟩<;>cases e
  |b t' =>
   obtain rfl:v=.bool t':=B;rcases Z7 hx with⟨i,t,_,e⟩|⟨i,t,_,e⟩<;>cases e
 |t x =>
  let⟨a,rfl,ka⟩:=hx;cases y with
  |k G =>
   let B:Qk (.inl G) (.ref a)=true:=B;rcases Z7 B with⟨i,t,_,e⟩|⟨i,t,_,e⟩<;>cases e
  |t J =>
   let⟨Y,e,O⟩:=B;cases e;rw[Zc6 (ka.inj O)]
  |b t'=>cases(show Cd a=.bool t' from B)
 |b t =>
  obtain rfl:v=.bool t:=hx;cases y with
  |k G =>
   let B:Qk (.inl G) (.bool t)=true:=B;rcases Z7 B with⟨i,t,_,e⟩|⟨i,t,_,e⟩<;>cases e
  |t J=>obtain⟨Y,e,_⟩:=B;cases e
  |b t' =>
   let B:Kj t=.bool t':=B;injection B with e
   rw[e]
theorem Nits.inj:∀{x y:List NI}{vs:List Cb},Nits P w h x vs->Nits P w h y vs->x=y:=by
 intro _ _ _ B G;cases B with
 |nil=>
  exact by cases G;rfl
 |cons h1 O=>
  exact by
    cases G with
    |cons h2 J=>rw[h1.inj h2,Nits.inj O J]
def X2.typeIs{ks:List NI}{a:Addr}(x:X2 P w s.heap ks a):s.TypeIs (.ref a) "tuple":=let⟨o,_,_,h,y,_⟩:=x;⟨o,h,y⟩
def X2.inj{a:Addr}{x y:List NI}(hx:X2 P w h x a)(Y:X2 P w h y a):x=y:=by
 let⟨o,J,n,Z,_,hd,hi⟩:=hx;let⟨o',items',n',B,_,G,O⟩:=Y;rw[Z]at B;cases B;rw[hd]at G;injection G with h1 _
 subst h1;exact hi.inj O
theorem Nits.mapH(f:∀x a,IsTupleKey (Z9 P w) h x a->IsTupleKey (Z9 P w) h' x a):∀{x:List NI}{vs:List Cb},Nits P w h x vs->Nits P w h' x vs
 |_,_,.nil=>.nil
 |k::_,_,.cons h1 t=>by
  refine .cons ?_ (Nits.mapH f t);cases k with
  |k z=>exact h1
  |t x=>obtain⟨a,e,q⟩:=h1;exists a,e,f _ _ q
  |b t=>exact h1
def X2.keeps{ks:List NI}{a d:Addr}{o:Obj}{es ep}(x:X2 P w h ks a)(J:h.get? d=some o)(hd:o.data=.dict es ep)(hs:Hu d h h'):X2 P w h' ks a:=by
 let⟨o',y,n,G,Y,B,hi⟩:=x;let O:a≠d:=by
  rintro rfl;rw[G]at J;cases J;rw[hd]at B;exact nomatch B
 exists o',y,n,(hs.2 a O).trans G,Y,B,hi.mapH λx b q=>q.keeps J hd hs
theorem Zkm{t:Bool}{Q:Int->Cc->Prop}(h:Q (hashInt (if t then 1 else 0)) {s with toks:=s.toks+1}):Ck (Cn P w) A (pyHash (.bool t)) Q E s:=by
 let sl:Slot "bool" "__hash__" "int.__hash__":=.of (owner:="int") (n:="__hash__") (by rw[Jb5,K7];kernel_rfl) (by decide +kernel) (by decide +kernel) (by decide +kernel)
  (by first|exact .inl (by decide +kernel)|exact .inr (by decide +kernel)) (by rw[isSubtype_type];kernel_rfl)
 let y:s.TypeIs (.bool t) "bool":=rfl;unfold pyHash;let G:[Kj t].any Cb.onHeap=false:=rfl;refine D0 ?_;rw[cRoomFor,D6 (by rw[G];exact Gd)];refine D1 ?_;refine D0 (wpAny_specialOf y sl.lookup ?_);show Ck _ _ (if(some (Mu "int.__hash__")==some Cb.none)=true then _ else _) Q E s;rw[D6 (by rw[beq_builtin_none];exact Gd)];refine D0 (wpAny_specialOf y sl.lookup ?_);show Ck _ _ (callSpecialIfBoundUnlessNone? (.bool t) "__hash__" _ >>= _) Q E s;cases t with
 |true =>
  refine D0 (wpAny_callSpecialIfBoundUnlessNone?_slot y sl (Eb sl y entry_int_hash
   (show Ck _ _ (do ret (<-mkInt (rawHash 1))) _ _ s from wpAny_ret_mkInt ?_) (args_int_hash _)))
  let B:=rawHash_range 1;show Ck _ _ (if(decide (-(2:Int) ^ 63<=rawHash 1)&&decide (rawHash 1<2 ^ 63))=true then _ else _) Q E _;rw[D7 (by rw[D8 B.1,D8 B.2];rfl)];exact D1 h
 |false =>
  refine D0 (wpAny_callSpecialIfBoundUnlessNone?_slot y sl (Eb sl y entry_int_hash
   (show Ck _ _ (do ret (<-mkInt (rawHash 0))) _ _ s from wpAny_ret_mkInt ?_) (args_int_hash _)))
  let B:=rawHash_range 0;show Ck _ _ (if(decide (-(2:Int) ^ 63<=rawHash 0)&&decide (rawHash 0<2 ^ 63))=true then _ else _) Q E _;rw[D7 (by rw[D8 B.1,D8 B.2];rfl)];exact D1 h
theorem Zqv{k:NI}{v:Cb}{Q:Int->Cc->Prop}(B:A.units<Er)(y:niIs P w s.heap k v)(h:Q (niH k) {s with toks:=s.toks+niD k}):Ck (Cn P w) A (pyHash v) Q E s:=by
 cases k with
 |k z=>exact(Z9 P w).pyHash (k:=.inl z) y h
 |t x =>
  let⟨a,rfl,q⟩:=y;refine wpAny_pyHash_tuple B q ?_;let e:tupleKeyHash (Z9 P w) (x.map Cz)=niH (.t x):=by
   unfold tupleKeyHash niH;rw[Ju];rfl
  rw[e,Ja];exact h
 |b t=>obtain rfl:v=.bool t:=y;exact Zkm h
theorem Zxg{x y:NI}{u v:Cb}{Q:Bool->Cc->Prop}(Y:A.units<Er)(hs:x.sh=y.sh)(hx:niIs P w s.heap x u)(J:niIs P w s.heap y v)(h:Q (decide (x=y)) s):Ck (Cn P w) A (eqBool u v) Q E s:=by
 cases x with
 |k z =>
  cases y with
  |k B =>
   refine(Z9 P w).eqBool (a:=.inl z) (b:=.inl B) hx J ?_;rw[show decide ((Cz z:Key)=Cz B)=decide (NI.k z=NI.k B)by simp];exact h
  |t G=>cases hs
  |b t'=>cases hs
 |t x =>
  cases y with
  |k B=>cases hs
  |t G =>
   let⟨a,rfl,ka⟩:=hx;let⟨b,rfl,O⟩:=J;refine wpAny_eqBool_tuple Y ka O ?_;rw[show decide (x.map (Cz:Int->Key)=G.map Cz)=decide (NI.t x=NI.t G)from decide_eq_decide.mpr {λe=>by rw[Zc6 e],λe=>by injection e with e;rw[e]}];exact h
  |b t'=>cases hs
 |b t =>
  cases y with
  |k B=>cases hs
  |t G=>cases hs
  |b t' =>
   obtain rfl:u=.bool t:=hx;obtain rfl:v=.bool t':=J;refine Jgi.bool_bool t t' P w E Q ?_;rw[show(t==t')=decide (NI.b t=NI.b t')by cases t<;>cases t'<;>rfl];exact h
theorem Zme{k:NI}{v:Cb}{Q:Bool->Cc->Prop}(n:Nat)(O:niIs P w s.heap k v)(h:Q true s):Ck (Cn P w) A (eqIsQuiet (n+1) v) Q E s:=by
 cases k with
 |k z=>rw[eqIsQuiet_byValue _ ((Z9 P w).byValue (.inl z) v O)];exact D1 h
 |b t=>obtain rfl:v=.bool t:=O;rw[eqIsQuiet_byValue _ rfl];exact D1 h
 |t x =>
  let⟨a,rfl,q⟩:=O;let y:=q.typeIs;let⟨ob,its,m,Z,_,Y,G⟩:=q;unfold eqIsQuiet;refine D0 (wpAny_specialOf y F.slot_tuple_eq.lookup ?_);show Ck _ _ (Jeo (.ref a) (.type "tuple") >>= _) _ _ s;refine D0 (wpAny_isInstance y isSubtype_tuple_tuple ?_);simp only[By,Gf,if_false];refine D0 (wpAny_seqItems Z Y ?_);refine D0 ?_;show Ck _ _ (forIn its _ _) _ _ s;rw[<-Dd];refine wpAny_forIn_list _ (λrest r s'=>r.1=none/\s'=s/\∀v∈rest,carriedByValue v=true) _ ?_ ?_ _ _ {rfl,rfl,G.byValue}
  .rintro v rest r s' ⟨ac,rfl,B⟩;rw[eqIsQuiet_byValue _ (B v Jh)];refine D0 (D1 ?_);simp only[By,Gf,if_false];exact D1 {rfl,rfl,λu J=>B u (Jf _ J)}
  .rintro⟨r1,r2⟩ s' ⟨ac,rfl,_⟩;simp only at ac;subst ac;exact D1 h
theorem Ziz{ks:List NI}{a:Addr}{Q:Int->Cc->Prop}(Y:A.units+1<Er)(O:X2 P w s.heap ks a)(fin:Q (nh ks) {s with toks:=s.toks+((ks.map niD).sum+1)}) :
  Ck (Cn P w) A (pyHash (.ref a)) Q E s:=by
 let y:=O.typeIs;let⟨ob,its,m,Z,_,J,G⟩:=O;unfold pyHash
 first|unfold pyHashByItsType|skip
 first|refine D0 (wpAny_cRoomFor_or (.inr ()) ?_)|skip
 refine D0 (wpAny_specialOf y F.slot_tuple_hash.lookup ?_);show Ck (Cn P w) A (if(some (Mu "tuple.__hash__")==some Cb.none)=true then _ else _) Q E s;rw[D6 (by rw[beq_builtin_none];exact Gd)];refine D0 (wpAny_specialOf y F.slot_tuple_hash.lookup ?_);show Ck (Cn P w) A (callSpecialIfBoundUnlessNone? (.ref a) "__hash__" _ >>= _) Q E s;refine D0 (wpAny_callSpecialIfBoundUnlessNone?_slot y F.slot_tuple_hash (Eb F.slot_tuple_hash y F.entry_tuple_hash ?_ (F.args_tuple_hash_1 _)));show Ck (Cn P w) _ (Kb (.ref a) >>= _) _ _ s
 refine D0 (Ht Z J ?_);refine D0 ?_;rw[<-Dd];refine wpAny_forIn_list _
  (λrest(b:Array Int)s'=>∃h post,ks=h++post/\Nits P w s.heap post rest/\b.toList=h.map (niH)/\s'={s with toks:=s.toks+(h.map niD).sum})
  _ ?_ ?_ _ _ {[],ks,rfl,G,rfl,rfl}
 .rintro x rest b s' ⟨h,post,rfl,hl,B,rfl⟩;cases hl with
  | @cons k _ ks' _ h1 hl' =>
   refine D0 (Zqv (s:={s with toks:=s.toks+(h.map niD).sum}) (by show A.units+1<Er;exact Y) h1 ?_)
   first
    |exact D1 {h++[k],ks',by simp,hl',by simp[B],by simp[Br]}
    |exact D0 (D1 (D1 {h++[k],ks',by simp,hl',by simp[B],by simp[Br]}))
 .rintro b s' ⟨h,post,rfl,hl,B,rfl⟩;cases hl;rw[Gg]at fin;show Ck (Cn P w) _ (retInt (C5 b.toList)) _ _ _;rw[B];refine wpAny_ret_mkInt ?_;show Ck (Cn P w) _ (if(decide (-(2:Int) ^ 63<=C5 (h.map (niH)))&&decide (C5 (h.map (niH))<2 ^ 63))=true then _ else _) Q E _;unfold nh reduceHash at fin
  by_cases rg:(decide (-(2:Int) ^ 63<=C5 (h.map (niH)))&&decide (C5 (h.map (niH))<2 ^ 63))=true
  .rw[D7 rg];rw[D7 rg]at fin;exact D1 (by simpa[Br]using fin)
  .rw[D6 rg];rw[D6 rg]at fin;exact D0 (Et (D1 (by simpa[Br]using fin)))
def Zqx{x y:List NI}{a b:Addr}{Q:Fin->Cc->Prop}(hu:A.units<Er)(hs:x.map NI.sh=y.map NI.sh)(ka:X2 P w s.heap x a)(kb:X2 P w s.heap y b)(fin:Q (.done (.ret (.bool (decide (x=y))))) s) :
  Ck (Cn P w) A (Builtin.«tuple.__eq__» {[.ref a,.ref b],[]}) Q E s:=by
 let a1:=kb.typeIs;let⟨oa,xs,na,ga,_,da,ia⟩:=ka;let⟨ob,ys,nb,gb,_,db,ib⟩:=kb;show Ck (Cn P w) A (Jeo (.ref b) (.type "tuple") >>= _) _ _ s;refine D0 (wpAny_isInstance a1 isSubtype_tuple_tuple ?_);simp only[By,Gf,if_false];refine D0 (Ht ga da ?_);refine D0 (Ht gb db ?_);refine D0 ?_;refine wpAny_forIn_list _
  (λrest r s'=>r.1=none/\s'=s/\∃x' y' G B,rest=List.zip G B/\Nits P w s.heap x' G/\Nits P w s.heap y' B/\x'.map NI.sh=y'.map NI.sh/\decide (x'=y')=decide (x=y)/\(G.length==B.length)=(xs.size==ys.size))
  _ ?_ ?_ _ _ {rfl,rfl,x,y,xs.toList,ys.toList,rfl,ia,ib,hs,rfl,by simp}
 .rintro⟨u,v⟩ rest r s' ⟨ac,rfl,x',y',G,B,hz,Y,O,Z,h,J⟩;cases Y with
  |nil=>simp at hz
  | @cons k1 u' x'' xs'' h1 hx'' =>
   cases O with
   |nil=>simp at hz
   | @cons k2 v' y'' ys'' h2 hy'' =>
    simp only[Dc,List.cons.injEq,Prod.mk.injEq]at hz;let⟨⟨rfl,rfl⟩,rfl⟩:=hz;rw[Jl,Jl]at Z;injection Z with e1 e2
    refine D0 (Zxg hu e1 h1 h2 ?_)
    by_cases hk:k1=k2
    .subst hk;rw[D8 rfl];simp only[By,Gf,if_false];refine D1 {rfl,rfl,x'',y'',xs'',ys'',rfl,hx'',hy'',e2,?_,by simpa using J};rw[<-h]
     by_cases hxy:x''=y''
     .simp[hxy]
     .simp[hxy]
    .rw[D9 hk];simp only[Bool.not_false,if_true];let hf:decide (x=y)=false:=by rw[<-h];simp[hk]
     rw[hf]at fin;exact D0 (D1 (D1 (D1 fin)))
 .rintro⟨r1,r2⟩ s' ⟨ac,rfl,x',y',G,B,hz,Y,O,Z,h,J⟩;simp only at ac;subst ac;refine D1 ?_;let a0:(xs.size==ys.size)=decide (x=y):=by
   rw[<-h,<-J];cases Y with
   |nil =>
    cases O with
    |nil=>simp
    |cons _ _=>simp
   |cons _ _ =>
    cases O with
    |nil=>simp
    |cons _ _=>simp at hz
  show Q (.done (.ret (.bool (xs.size==ys.size)))) s';rw[a0];exact fin
theorem Zcx{x y:List NI}{a b:Addr}{Q:Bool->Cc->Prop}(B:A.units+1<Er)(hs:x.map NI.sh=y.map NI.sh)(ka:X2 P w s.heap x a)(h:X2 P w s.heap y b)(fin:Q (decide (x=y)) s) :
  Ck (Cn P w) A (eqBool (.ref a) (.ref b)) Q E s:=by
 unfold eqBool
 try with_reducible refine Ec ?_
 show Ck (Cn P w) A (if(Cd a==Cd b)=true then _ else _) Q E s
 by_cases hab:(Cd a==Cd b)=true
 .rw[D7 hab];let e:a=b:=by have:=eq_of_beq hab;injection this
  subst e;obtain rfl:=ka.inj h;exact D0 (Et (D1 (by simpa using fin)))
 .rw[D6 hab];exact D0 (wpAny_richCompare_same_room (op:=.Eq) ka.typeIs h.typeIs F.slot_tuple_eq
   (Eb F.slot_tuple_eq ka.typeIs F.entry_tuple_eq (Zqx (by show A.units+1<Er;exact B) hs ka h {_,rfl,(λe=>nomatch e),Ek fin}) (F.args_tuple_eq_2 _ _)) ())
def Zf1{ks:List NI}{a:Addr}{Q:Bool->Cc->Prop}(G:X2 P w s.heap ks a)(fin:Q true s):Ck (Cn P w) A (eqIsQuiet 8 (.ref a)) Q E s:=by
 let h:=G.typeIs;let⟨Z,its,m,J,_,B,y⟩:=G;unfold eqIsQuiet;refine D0 (wpAny_specialOf h F.slot_tuple_eq.lookup ?_);show Ck (Cn P w) A (Jeo (.ref a) (.type "tuple") >>= _) _ _ s;refine D0 (wpAny_isInstance h isSubtype_tuple_tuple ?_);simp only[By,Gf,if_false];refine D0 (wpAny_seqItems J B ?_);refine D0 ?_;show Ck (Cn P w) A (forIn its _ _) _ _ s;rw[<-Dd];refine wpAny_forIn_list _ (λrest r s'=>r.1=none/\s'=s/\∃post,Nits P w s.heap post rest) _ ?_ ?_ _ _ ⟨rfl,rfl,ks,y⟩
 .rintro v rest r s' ⟨ac,rfl,post,hl⟩;cases hl with
  |cons h1 hl =>
   refine D0 (Zme 6 h1 ?_);simp only[By,Gf,if_false];exact D1 {rfl,rfl,_,hl}
 .rintro⟨Y,O⟩ s' ⟨ac,rfl,_⟩;simp only at ac;subst ac;exact D1 fin
end
def W8(P:Ha)(w:Hz)(sh:List Nat):HeapKind P w (List NI) where
 is:=λh ks a=>X2 P w h ks a/\ks.map NI.sh=sh
 hash:=λks=>nh ks
 draws:=λks=>(ks.map niD).sum+1
 room:=λA=>A.units+1<Er
 inj:=λhx y=>hx.1.inj y.1
 keeps:=λx J hd hs=>{x.1.keeps J hd hs,x.2}
 pyHash:=λB G h=>Ziz B G.1 h
 eqBool:=λB hx y h=>Zcx B (by rw[hx.2,y.2]) hx.1 y.1 h
 quiet:=λG h=>Zf1 G.1 h
section
theorem Zug(I:Inv X pz σ H s){k:NI}{v:V}{u:Cb}(h:NkV X.K H k v)(r:RelV v u):niIs X.prog X.w s.heap k u:=by
 cases k with
 |k z =>
  cases(show v=.int z from h);let⟨t,rfl⟩:=r;exact Zbk z t
 |t x =>
  let⟨a,rfl,q⟩:=h;cases(show u=Cd a from r);let⟨its,B,⟨o,e,c,n,d⟩,_⟩:=I.tuple q;refine{a,rfl,o,its.toArray,n,e,c,d,?_};let y:Vals ((x.map (Cz:Int->Key)).map kV) its:=by
   rw[Ju];exact B
  simpa using Ql y
 |b t =>
  cases(show v=.bl t from h);exact r
def Zbc(I:Inv X pz σ H s){ks:List NI}{a:Addr}(h:NkAt X.K H ks a):X2 X.prog X.w s.heap ks a:=by
 let⟨vs,e,r⟩:=h;let⟨its,y,⟨o,Y,c,n,d⟩,_⟩:=I.tuple e;refine{o,its.toArray,n,Y,c,d,?_};let O:∀{ks:List NI}{vs:List V}{us:List Cb},Paired (NkV X.K H) ks vs->Vals vs us->Nits X.prog X.w s.heap ks us:=by
  intro ks vs us p
  induction p generalizing us with
  |nil=>intro q;cases q;exact .nil
  |cons a b J=>intro q;cases q with|cons G B=>exact .cons (Zug I a G) (J B)
 simpa using O r y
structure DnAt(K:Cq)(H:Hp)(d:Addr)(sh:List Nat)(kvs:List Nkv):Prop where
 ht:Rd H d (.ext (dnP d kvs))
 ks:∀x∈kvs,NkAt K H x.1 x.2.1/\x.1.map NI.sh=sh
def valN(kvs:List Nkv)(k:List NI):Option V:=(kvs.find? λx=>decide (x.1=k)).map (·.2.2)
def putN(kvs:List Nkv)(k:List NI)(b:Addr)(v:V):List Nkv:=if(kvs.any λx=>decide (x.1=k))then kvs.map (λx=>if x.1=k then(x.1,x.2.1,v)else x)else kvs++[(k,b,v)]
abbrev NRel:List Nkv->List (List NI×Addr×Cb)->Prop:=Paired λp q=>p.1=q.1/\p.2.1=q.2.1/\RelV p.2.2 q.2.2
theorem NRel.val:∀{kvs:List Nkv}{xs:List (List NI×Addr×Cb)},NRel kvs xs->∀k,RelO (valN kvs k) ((Jd6 xs k).map (·.2))
 |_,_,.nil,k=>El
 |p::ps,q::qs,.cons h r,k=>by
  let y:=NRel.val r k;unfold valN Jd6 at y⊢;rw[Gz,Gz,<-h.1]
  by_cases e:p.1=k
  .rw[D8 e];exact h.2.2
  .rw[D9 e];exact y
theorem NRel.any:∀{kvs:List Nkv}{xs:List (List NI×Addr×Cb)},NRel kvs xs->∀k,(kvs.any λx=>decide (x.1=k))=(Jd6 xs k).isSome
 |_,_,.nil,k=>rfl
 |p::ps,q::qs,.cons h r,k=>by
  let y:=NRel.any r k;unfold Jd6 at y⊢;rw[B3,Gz,<-h.1]
  by_cases e:p.1=k
  .rw[D8 e];rfl
  .rw[D9 e,Jd5];exact y
def NRel.put{kvs:List Nkv}{xs:List (List NI×Addr×Cb)}(r:NRel kvs xs)(k:List NI)(b:Addr){v:V}{u:Cb}(y:RelV v u):NRel (putN kvs k b v) (storedH xs k b u):=by
 unfold putN storedH;rw[r.any k]
 by_cases q:(Jd6 xs k).isSome=true
 .rw[D7 q,D7 q];let B:∀{kvs:List Nkv}{xs:List (List NI×Addr×Cb)},NRel kvs xs->NRel (kvs.map λx=>if x.1=k then(x.1,x.2.1,v)else x) (xs.map (putAt k u)):=by
   intro kvs xs r
   induction r with
   |nil=>exact .nil
   | @cons p q ps qs h t ih =>
    refine .cons ?_ ih;unfold putAt;rw[<-h.1];dsimp only
    by_cases e:p.1=k
    .rw[D7 e,D7 e];exists rfl,h.2.1,y
    .rw[D6 e,D6 e];exact h
  exact B r
 .rw[D6 q,D6 q];exact Paired.snoc ⟨rfl,rfl,y⟩ r
def Zde(I:Inv X pz σ H s){d:Addr}{sh:List Nat}{kvs:List Nkv}(e:DnAt X.K H d sh kvs):kvs.length<=Ca/\(d==Es)=false/\∃xs,NRel kvs xs/\s.heap.DictOfH (W8 X.prog X.w sh) d xs:=by
 let⟨⟨z,y,xs,r,o,es,ep,h1,h2,h3,h4,h5⟩,_,_⟩:=e.ht.ok I.hok;refine{z,y,xs,r,o,es,ep,h1,h2,h3,h4,?_,h5};let all:∀{l:List Nkv}{m:List (List NI×Addr×Cb)},NRel l m->(∀x∈l,NkAt X.K H x.1 x.2.1/\x.1.map NI.sh=sh)->∀x∈m,(W8 X.prog X.w sh).is s.heap x.1 x.2.1:=by
  intro l m q
  induction q with
  |nil=>intro _ x hx;exact nomatch hx
  | @cons p q ps qs hq t ih =>
   intro hl x hx;rcases J9.mp hx with e|hx
   .subst e;let⟨B,h⟩:=hl p Jh;rw[hq.1,hq.2.1]at B;rw[hq.1]at h;exists Zbc I B,h
   .exact ih (λy G=>hl y (Jf _ G)) x hx
 exact all r e.ks
theorem Zl1(kvs:List Nkv)(k:List NI)(b:Addr)(v:V):(putN kvs k b v).length<=kvs.length+1:=by
 unfold putN
 split
 .rw[Ja];lia
 .rw[Jc];exact Ji _
variable{d b:Addr}{sh:List Nat}{kvs:List Nkv}{k:List NI}{v:V} 
theorem Zi2{Q:Cb->Cc->Prop}(hu:A.units+2<Er)(I:Inv X pz σ H s)(g:DnAt X.K H d sh kvs)(Y:NkAt X.K H k b)(hs:k.map NI.sh=sh)(l:valN kvs k=some v)(h:∀y s',Inv X pz σ H s'->RelV v y->Q y s') :
  Ck (Cn X.prog X.w) A (Lc (.ref d) (.ref b)) Q E s:=by
 let⟨z,hd,xs,G,Z⟩:=Zde I g;let⟨y,hw,B⟩:=RelO.some_of (v:=v) (o:=(Jd6 xs k).map (·.2)) (by rw[<-l];exact G.val k);let⟨p,O,J⟩:=G5.mp hw;refine wpAny_getItem_heap (knd:=W8 X.prog X.w sh) (show A.units+1+1<Er by lia) ⟨Zbc I Y,hs⟩ Z O ?_;rw[J];exact h y _ (I.tok _) B
theorem Zqy{Q:Cb->Cc->Prop}(J:A.units+2<Er)(I:Inv X pz σ H s)(g:DnAt X.K H d sh kvs)(B:NkAt X.K H k b)(hs:k.map NI.sh=sh)(h:∀s',Inv X pz σ H s'->Q (.bool (!(valN kvs k).isSome)) s') :
  Ck (Cn X.prog X.w) A (Ep .NotIn (.ref b) (.ref d)) Q E s:=by
 let⟨z,hd,xs,y,G⟩:=Zde I g;refine wpAny_notIn_heap (knd:=W8 X.prog X.w sh) (show A.units+1+1<Er by lia) ⟨Zbc I B,hs⟩ hd G ?_;let q:=(y.val k).isSome_eq;rw[Mf]at q;rw[<-q];exact h _ (I.tok _)
theorem Zui{z:V}{r:Cb}{Q:Cb->Cc->Prop}(Y:A.units+2<Er)(I:Inv X pz σ H s)(g:DnAt X.K H d sh kvs)(O:NkAt X.K H k b)(hs:k.map NI.sh=sh)(J:RelV z r)(h:∀B s',Inv X pz σ H s'->RelV ((valN kvs k).getD z) B->Q B s') :
  Ck (Cn X.prog X.w) A (call (.builtin "dict.get") [.ref d,.ref b,r]) Q E s:=by
 let⟨_,hd,xs,y,G⟩:=Zde I g;exact call_meetsIn C9 G.typeIs E7 (PySem.F.args_dict_get_3 _ _ _) (meetsH_dict_get_default (W8 X.prog X.w sh) d b hd r) {(show A.units+1+1<Er by lia),k,xs,⟨Zbc I O,hs⟩,G,h _ _ (I.tok _) ((y.val k).getD J)}
theorem Zi1{u:Cb}{Q:Unit->Cc->Prop}(hu:A.units+2<Er)(I:Inv X pz σ H s)(g:DnAt X.K H d sh kvs)(Z:H d=some (.ext (dnP d kvs)))(hl:kvs.length<Ca)(hk:NkAt X.K H k b)(hs:k.map NI.sh=sh)(Y:RelV v u)(h:∀s',Inv X pz σ (upd H d (.ext (dnP d (putN kvs k b v)))) s'->Q ⟨⟩ s') :
  Ck (Cn X.prog X.w) A (Jgl (.ref d) (.ref b) u) Q E s:=by
 let⟨z,hd,xs,y,dd⟩:=Zde I g;let hz:xs.length<=Ca:=by rw[<-Paired.length y];exact z
 let G:(putN kvs k b v).length<=Ca:=by have:=Zl1 kvs k b v;lia
 refine wpAny_setItem_heap (knd:=W8 X.prog X.w sh) (hsz:=hz) (show A.units+1+1<Er by lia) ⟨Zbc I hk,hs⟩ dd λh' J B=>h _ ?_;let⟨q,es,ep,O,h2,h3,h4,_,h5⟩:=J;exact Sr I (by rw[Z];exact El) B ⟨q,O⟩ (dnP.ok {G,hd,_,y.put k b Y,q,es,ep,O,h2,h3,h4,h5})
end
def Znl:TE:=λ_ H Q=>∀p,H p=none->Q (.ref p) (upd H p (.ext (dnP p [])))
def NGet(K:Cq)(H:Hp)(a:Addr)(y:V)(o:Option V):Prop:=∃b sh kvs k,y=.ref b/\DnAt K H a sh kvs/\NkAt K H k b/\k.map NI.sh=sh/\o=valN kvs k
def IsN(K:Cq)(H:Hp)(a:Addr):Prop:=∃sh kvs,DnAt K H a sh kvs
def Zs6(K:Cq)(td ty:TE):TE:=λσ H Q=>td σ H λx H1=>ty σ H1 λy h=>∃a v,x=.ref a/\NGet K h a y (some v)/\Q v h
def Zg1(K:Cq)(ty td:TE):TE:=λσ H Q=>ty σ H λy H1=>td σ H1 λx h=>∃a o,x=.ref a/\NGet K h a y o/\Q (.bl (!o.isSome)) h
def Ztv(K:Cq)(td ty tv:TE):TS:=λD σ H=>tv σ H λv H1=>td σ H1 λx B=>ty σ B λy h=>∃a b sh kvs k,x=.ref a/\y=.ref b/\DnAt K h a sh kvs/\h a=some (.ext (dnP a kvs))/\kvs.length<Ca/\NkAt K h k b/\k.map NI.sh=sh/\D.nx σ (upd h a (.ext (dnP a (putN kvs k b v))))
def Zni(K:Cq)(td ty tx:TE):TE:=λσ H Q=>td σ H λx H1=>∃a,x=.ref a/\IsN K H1 a/\ty σ H1 λy B=>tx σ B λz h=>∃o,NGet K h a y o/\Q (o.getD z) h
section
variable{o i e f:Expr}{cpos:Pos}{td ty tx:TE}
def Rj:PE X (.Dict [] [] pos) Znl:=λpz s σ H Q I h =>
 Je2 {.ref s.heap.objs.size,_,I.laid (a:=s.heap.objs.size) (o:=.ext (dnP s.heap.objs.size [])) (t':=s.toks) (λ_ _ q=>D2 _ q) (Ji _)
  (dnP.ok {Ge _,beq_eq_false_iff_ne.mpr (Hd (Gn I.big)),[],.nil,_,#[],0,D3 _ rfl,⟨rfl,rfl,rfl⟩,rfl,rfl,Fe}),rfl,h _ (I.hok.fresh (Ji _))}
theorem W7(hK:X.K=K)(hu:X.A.units+200<Er)(ho:PE X o td)(hi:PE X i ty)(hs:NoSl i):PE X (.Subscript o i pos) (Zs6 K td ty):=by
 subst hK;intro pz s σ H Q I h;refine Zg5 PySem.F.slot_dict_getitem.lookup hs (thn (ho pz s σ H _ I h) λu J⟨x,H1,I1,Y,q1⟩=>thn (hi pz J σ H1 _ I1 q1) λiv s2 hz=>?_);let⟨y,H2,G,O,a,v,ex,⟨b,sh,kvs,k,ey,g,nk,es,l⟩,Z⟩:=hz;subst ex ey;obtain rfl:u=Cd a:=Y;obtain rfl:iv=Cd b:=O;let⟨_,_,xs,_,dd⟩:=Zde G g;exists dd.typeIs,Zi2 () G g nk es l.symm λw' s3 I3 B=>⟨v,H2,I3,B,Z⟩
theorem Zin(hK:X.K=K)(hu:X.A.units+200<Er)(hi:PE X i ty)(ho:PE X o td):PC X .NotIn i o (Zg1 K ty td):=by
 subst hK;intro pz s σ H Q I h;refine thn (hi pz s σ H _ I h) λiv B⟨y,H1,I1,G,Y⟩=>thn (ho pz B σ H1 _ I1 Y) λu s2 hz=>?_;let⟨x,H2,I2,J,a,ov,ex,⟨b,sh,kvs,k,ey,g,Z,es,l⟩,O⟩:=hz;subst ex ey;obtain rfl:u=Cd a:=J;obtain rfl:iv=Cd b:=G;exact Zqy () I2 g Z es λs3 I3=>{.bl (!(valN kvs k).isSome),H2,I3,rfl,by rw[<-l];exact O}
theorem Nn(hK:X.K=K)(hu:X.A.units+200<Er)(ho:PE X o td)(hi:PE X i ty)(hv:PE X value tv)(hs:Ja7 value (some (.Subscript o i pos')) pos.line X.env=pure false) :
  PS X (.Assign [.Subscript o i pos'] value pos) (Ztv K td ty tv):=by
 subst hK;intro pz s σ H D I h;refine wpAny_Assign_Subscript (thn (hv pz s σ H _ I h) λr G⟨v,H1,I1,Y,q1⟩=>thn (ho pz G σ H1 _ I1 q1) λu B⟨x,H2,I2,O,q2⟩=>thn (hi pz B σ H2 _ I2 q2) λiv s3 hz=>?_) hs;let⟨y,H3,I3,J,a,b,sh,kvs,k,ex,ey,g,hm,hl,nk,es,Z⟩:=hz;subst ex ey;obtain rfl:u=Cd a:=O;obtain rfl:iv=Cd b:=J;exact Zi1 () I3 g hm hl nk es Y λs4 I4=>{σ,_,I4,Z}
theorem Zeq(hK:X.K=K)(hu:X.A.units+200<Er)(ho:PE X o td)(he:PE X e ty)(hf:PE X f tx)(m:M2 X o "get" apos e f cpos):PE X (.Call (.Attribute o "get" apos) [e,f] [] cpos) (Zni K td ty tx):=by
 subst hK;intro pz s σ H Q I h;refine wpAny_Call_method m.base m.few m.line PySem.F.plainAttrs_dict C9 PySem.F.type_dict_get (thn (ho pz s σ H _ I h) λu s1 hz=>?_);let⟨x,H1,O,rx,a,ex,⟨Y,G,d⟩,q1⟩:=hz;subst ex;obtain rfl:u=Cd a:=rx;let⟨_,_,xs,_,J⟩:=Zde O d;exists J.typeIs,λb q=>?_,?_
 .cases q;let⟨ob,_,_,h1,h2,_⟩:=J;exists ob,h1,h2.2.1
 rw[m.trees];refine E6 rfl (Kc (E8 (thn (he pz s1 σ H1 _ O q1) λiv Z ⟨y,H2,I2,ry,q2⟩ =>
  E8 (thn (hf pz Z σ H2 _ I2 q2) λfv s3⟨z,H3,I3,rz,ov,⟨b,sh,kvs,k,ey,g,nk,es,l⟩,q3⟩=>Kz ?_))))
 subst ey;obtain rfl:iv=Cd b:=ry;exact Zui () I3 g nk es rz λw' s4 I4 B=>{_,H3,I4,by rw[l];exact B,q3}
end
def ItdN(K:Cq)(d:Addr)(o:Obj)(vs:List Nkv):It:={λi H=>H d=some (.frz o (.ext (dnP d vs)))/\i<vs.length,λi H x H'=>H'=H/\∃h,vs[i]?=some h/\x=.ref h.2.1,λi H=>H d=some (.frz o (.ext (dnP d vs)))/\vs.length<=i}
theorem Qs{d:Addr}{o:Obj}{kvs:List Nkv}{y:Array DictEntry}(ok:HOk P w H h)(e:H d=some (.frz o (.ext (dnP d kvs))))(B:o.data=.dict y ep) :
  h.get? d=some o/\y.size=kvs.length/\∀(i:Nat)(h1:i<y.size)(h2:i<kvs.length),y[i].key=.ref kvs[i].2.1:=by
 let⟨e1,⟨z,hd,xs,r,J,es,Y,e2,c,G,el,nd⟩,_⟩:=(show Y0 P w H h d (.frz o (.ext (dnP d kvs)))from ok d _ e);let Z:J=o:=Jaa (e2.symm.trans e1);subst Z;rw[B]at G;injection G with d1 d2
 subst d1 d2;let lr:=Paired.length r;let O:y.size=kvs.length:=by
  let:=congrArg Eu el;rw[Ja,Jm]at this;lia
 exists e1,O,λi h1 h2=>?_;let hx:i<xs.length:=by lia
 let⟨a1,a2,a3⟩:=L2.Paired.at r h2 hx;let e3:y.toList[i]'(by rw[Jm];exact h1)={nh xs[i].1,.ref xs[i].2.1,xs[i].2.2}:=by
  let:(xs.map (λx=>({nh x.1,.ref x.2.1,x.2.2}:DictEntry)))[i]'(by rw[Ja];exact hx)={nh xs[i].1,.ref xs[i].2.1,xs[i].2.2}:=Bv ..;rw[<-this]
  congr 1
 rw[Array.getElem_toList]at e3;rw[e3,a2]
theorem Zfr(d:Addr)(o:Obj)(kvs:List Nkv){J:Array DictEntry}(y:o.data=.dict J ep)(it:Addr):Turn P w K tg (ItdN K d o kvs) [it] it (λi h=>h.IsKeyIter it d i kvs.length ep) where
 mem:=by simp
 obj:=λi h st b G=>by
  obtain rfl:b=it:=by simpa using G
  let⟨o,e,c,d⟩:=st;exact{o,e,λv z=>by rw[d]at z;cases z}
 keep:=λi h h' st k=>let⟨o,e,r⟩:=st;{o,k it (by simp) o e,r}
 item:=by
  intro X hP hw hK hc i pz s σ H E I Y st Z;subst hP hw hK;let⟨f0,f1,f2,f3,f4,f5⟩:=Y it (by simp);let⟨hd,hi⟩:=Z;let⟨g1,O,ky⟩:=Qs I.hok hd y;rw[<-O]at st;let ka:=ky i () hi;refine Zev st g1 y () λh' B sb=>?_;let I1:Inv X pz σ H {s with heap:=h',toks:=s.toks}:=I.turned (λb o G e=>(sb.2 b G).trans e) f0 f1 f3 f4 f5;rw[O]at B;let⟨o',e',c',d'⟩:=id B;exists J[i].key,rfl,Zms (s:={s with heap:=h',toks:=s.toks}) e' c' d' nofun {.ref kvs[i].2.1,H,I1,ka,{rfl,kvs[i],Jb hi,rfl},B,λb G=>(Y b G).1}
 done:=by
  intro X hP hw hK hc i pz s σ H E I Y st Z;subst hP hw hK;let⟨f0,f1,f2,f3,f4,f5⟩:=Y it (by simp);let⟨hd,hi⟩:=Z;let⟨g1,O,ky⟩:=Qs I.hok hd y;rw[<-O]at st;exact Zix (I.ok.hd hc) st g1 y () λh' eb=>{rfl,I.turned (t':=s.toks) (λb o G e=>eb b o G e) f0 f1 f3 f4 f5}
 self:=λ_ _ _ _ _ st h=>wpAny_pyIter_keyiter st h
section
def Zxo(K:Cq)(R:It->Hp->Prop)(d:Addr)(kvs:List Nkv)(H1:Hp):Prop:=(H1 d=some (.ext (dnP d kvs))/\∀o,R (ItdN K d o kvs) (upd H1 d (.frz o (.ext (dnP d kvs)))))\/∃o,H1 d=some (.frz o (.ext (dnP d kvs)))/\R (ItdN K d o kvs) H1
def Zoh(K:Cq)(tl:TE):TI:=λσ H R=>tl σ H λx H1=>∃d kvs,x=.ref d/\Zxo K R d kvs H1
def Zeo(hK:X.K=K){l:Expr}{tl:TE}(hl:PE X l tl):PI X tg l (Zoh K tl):=by
 subst hK;intro pz s σ H R I h;refine thn (hl pz s σ H _ I h) λv y hz=>?_;let⟨x,H1,Y,r1,q1⟩:=hz;let⟨d,kvs,e,q⟩:=q1;subst e;cases r1;let Z:∀(o:Obj)(J:Hp),Inv X pz σ J y->J d=some (.frz o (.ext (dnP d kvs)))->R (ItdN X.K d o kvs) J->Ck (Cn X.prog X.w) X.A (pyIter (.ref d)) (PIE X pz σ tg R) X.xe y:=λo J G e2 q2=>by
  let⟨e1,⟨z,hd,xs,r,B,es,ep,e3,c,O,el,nd⟩,_⟩:=(show Y0 X.prog X.w J y.heap d (.frz o (.ext (dnP d kvs)))from G.hok d _ e2);let eo:B=o:=Jaa (e3.symm.trans e1);subst eo;let⟨_,ls,_⟩:=Qs G.hok e2 O;refine Zjl hd e3 c O ?_;exists y.heap.objs.size,[y.heap.objs.size],_,_,J,rfl,G.kept (t':=y.toks) λb o e=>D2 _ e,Zfr d B kvs O _,?_,λb hb=>?_,q2
  .rw[<-ls];exists _,D3 _ rfl,rfl,rfl
  .let e:b=y.heap.objs.size:=by simpa using hb
   subst e;exact G.fpOk (Ji _) (G.hok.fresh (Ji _))
 rcases q with⟨e1,q⟩|⟨o,e1,q⟩
 .let⟨⟨z,hd,xs,r,B,es,ep,e3,c,O,el,nd⟩,_,_⟩:=Y.hok d _ e1;let G:Inv X pz σ (upd H1 d (.frz B (.ext (dnP d kvs)))) {y with heap:=y.heap,toks:=y.toks}:=Y.write (x:=d) (e:=d) (by rw[e1];exact trivial) (.inl rfl) (λb u _ h=>h) {_,e3} {e3,dnP.ok ⟨z,hd,xs,r,B,es,ep,e3,c,O,el,nd⟩};exact Z B _ G Ze (q B)
 .exact Z o H1 Y e1 q
end
end L2
namespace L2
open PySem PySem.W PyProof.Rows HT PySem.Calls
section
def KpAt(K:PySem.W.Frag)(H:Hp)(q:KIt):Prop:=∃(t:Addr)(z:Int)(w:List Int),SqT K H q.2.1 [.int z,.ref t]/\SqT K H t (w.map V.int)/\q.2.2=z::w
theorem Zq6{L:List KIt}(I:Inv X pz σ H s)(hk:∀q∈L,KpAt X.K H q)(h2:0<L.length){Q:SortKind->Cc->Prop}(h:Q (tuples' true) s) :
  Ck (Cn X.prog X.w) A (keyKind' (Zh L).toArray) Q E s:=by
 let tk:∀L':List KIt,(∀q∈L',q∈L)->∃fs:List Cb,KatTups s.heap (Zh L') fs/\fs.length=L'.length/\∀v∈fs,∃n t,v=.int n t:=by
  intro L'
  induction L' with
  |nil=>intro _;exists [],.nil,rfl,λv y=>nomatch y
  |cons q r ih =>
   intro G;let⟨fs,a,b,c⟩:=ih λx hx=>G x (Jf _ hx);let⟨t,J,w0,O,_⟩:=hk q (G q Jh);let⟨its,Z,⟨o,e,hc,n,hd⟩,_⟩:=I.tuple O;cases Z with
   |cons B Y =>
    let⟨tk,et⟩:=B;exists .int J tk::fs,KatTups.cons e hc hd ?_ a,by simp[b],λv y=>?_
    .rw[et];simp
    .rcases J9.mp y with e|y
     .exists _,tk,e
     .exact c v y
 let⟨fs,a,b,c⟩:=tk L λ_ h=>h;exact kat_kind (T:=.type "int") a () (λv y=>by let⟨n,t,e⟩:=c v y;subst e;exact .now) nofun h
theorem Zus{L:List KIt}(I:Inv X pz σ H s)(hu:A.units<Er)(hk:∀q∈L,KpAt X.K H q)(nd:(L.map (·.2.2)).Nodup) :
  CmpR (Xw (L.map (·.2.2))) L.length (kas_ask X.prog X.w A (tuples' true) (Zh L)) s:=by
 intro i j C hi Y h;rw[Ud nd (by simpa using hi) (by simpa using Y),Yf hi,Yf Y]at h;unfold kas_ask;rw[show(Zh L).getD i Cb.none=Cd L[i].2.1 from Yf hi,show(Zh L).getD j Cb.none=Cd L[j].2.1 from Yf Y];let⟨t1,z1,w1,a6,a4,e1⟩:=hk _ (Js hi);let⟨t2,Z,w2,a5,a0,b5⟩:=hk _ (Js Y);let⟨its,rv,⟨o,e,hc,n,hd⟩,_⟩:=I.tuple a6;let⟨b6,a7,⟨o2,e2,b7,n2,b4⟩,_⟩:=I.tuple a5;let⟨us,ru,⟨p,ep,J,m,G⟩,_⟩:=I.tuple a4;let⟨us2,a8,⟨p2,O,B,m2,y⟩,_⟩:=I.tuple a0;refine kat_lt e hd e2 b4 ?_;cases rv with
 | @cons _ a1 _ _ a2 a3 =>
  cases a3 with
  | @cons _ b1 _ _ b2 b3 =>
   cases b3;cases a7 with
   | @cons _ c1 _ _ c2 c3 =>
    cases c3 with
    | @cons _ d1 _ _ d2 d3 =>
     cases d3;let⟨k1,rfl⟩:=a2;let⟨k2,rfl⟩:=c2;obtain rfl:b1=.ref t1:=b2;obtain rfl:d1=.ref t2:=d2;let ia:=Xt ru;let ib:=Xt a8;rw[e1,b5,HT.lexLt_cons]at h;refine kat_cons (K9 ?_)
     by_cases hz:z1=Z
     .rw[D7 hz]at h;rw[show(z1==Z)=true from beq_iff_eq.mpr hz];refine kat_yes (kat_cons (wpAny_eqBool_tuple (knd:=intKind X.prog X.w) () {p,_,m,ep,J,G,items_int ia} {p2,_,m2,O,B,y,items_int ib} ?_))
      by_cases hw:w1=w2
      .rw[D8 hw];rw[hw,U5]at h;exact kat_yes (kat_nil h)
      .rw[D9 hw];refine kat_no (kat_one _ _ ?_);exact Zsx () ep J G O B y ia ib h
     .rw[D6 hz]at h;rw[show(z1==Z)=false from beq_eq_false_iff_ne.mpr hz];exact kat_no (oneLt_int h)
def encP:List NI->List Int
 |[.k z,.t w]=>z::w
 |_=>[]
theorem Zan{ks:List NI}(h:ks.map NI.sh=[0,1]):∃z w,ks=[.k z,.t w]:=by
 match ks,h with
 |[.k z,.t w],_=>exact⟨z,w,rfl⟩
theorem Zxj{K:PySem.W.Frag}{ks:List NI}{a:Addr}(h:NkAt K H ks a)(hs:ks.map NI.sh=[0,1]):KpAt K H (.non,a,encP ks):=by
 let⟨z,w,rfl⟩:=Zan hs;let⟨vs,e,r⟩:=h;cases r with
 |cons G y =>
  cases y with
  |cons y B =>
   cases B;let⟨b,rfl,sb⟩:=y;cases(show _=V.int z from G);exists b,z,w,e,sb,rfl
def kitN(kvs:List Nkv):List KIt:=kvs.map λq=>(.non,q.2.1,encP q.1)
theorem Zmx{d:Addr}{sh:List Nat}{kvs:List Nkv}(hc:X.calm=true)(I:Inv X pz σ H s)(g:DnAt X.K H d sh kvs) :
  (kvs.map (·.1)).Nodup/\(kvs.map λq=>q.2.1).Nodup/\∀{A:Kw}{R:List Cb->Cc->Prop}{E:Cb->Cc->Prop},A.handled=X.A.handled->(∀(h':Heap)(tk:Nat),(∀b o,s.heap.get? b=some o->h'.get? b=some o)->R (kvs.map λq=>Cd q.2.1) {s with heap:=h',toks:=tk})->Ck (Cn X.prog X.w) A (collect (.ref d)) R E s:=by
 let⟨⟨z,lo,xs,B,o,es,ep,h1,h2,h3,h4,h5⟩,_,hq⟩:=g.ht.ok I.hok;clear hq;let Y:=Paired.length B;let G:es.size=xs.length:=by
  let:=congrArg Eu h4;rw[Ja,Jm]at this;exact this
 let e1:kvs.map (·.1)=xs.map (·.1):=by
  clear g h4 G Y h5 z
  induction B with
  |nil=>rfl
  |cons a b Z=>rw[Jl,Jl,a.1,Z]
 let e2:(kvs.map λq=>q.2.1)=xs.map λq=>q.2.1:=by
  clear g h4 G Y h5 z e1
  induction B with
  |nil=>rfl
  |cons a b Z=>rw[Jl,Jl,a.2.1,Z]
 exists by rw[e1];exact h5,?_,λ{A R E}hA hR=>?_
 .let nd:(kvs.map (·.1)).Nodup:=by rw[e1];exact h5
  exact Jr.mpr ((Jr.mp nd).imp_of_mem λ{a b}ha hb h z=>h ((Zbc I (g.ks a ha).1).inj (by rw[z];exact Zbc I (g.ks b hb).1)))
 .refine kdu_collect (A:=A) (Zji lo h2 h3) (hA.trans (I.ok.hd hc)) h1 (by rw[G,<-Y];exact z) λh' tk acc a0 y=>?_;let a2:acc.toList=kvs.map λq=>Cd q.2.1:=by
   let e3:(kvs.map λq=>Cd q.2.1)=(xs.map λq=>q.2.1).map Cd:=by rw[<-e2,Ju];rfl
   rw[e3]
   apply K2
   intro j;rw[Ju]
   by_cases hj:j<xs.length
   .let J:j<acc.size:=by rw[y.1,G];exact hj
    let⟨a1,ev⟩:=y.2 j acc[j] (by rw[Gy J]);let O:es.toList[j]?=some {nh xs[j].1,.ref xs[j].2.1,xs[j].2.2}:=by rw[h4,Gc,Jb hj];rfl
    rw[Jt,Gy a1]at O;let O:=Jaa O;rw[Jt,Gy J,ev,O,Gc,Jb hj];rfl
   .rw[Jt,Array.getElem?_eq_none (by rw[y.1,G];lia),Bk (by rw[Ja];lia)]
  rw[a2];exact hR h' tk a0
def Zq7{kvs:List Nkv}(nd:(kvs.map (·.1)).Nodup)(hs:∀x∈kvs,x.1.map NI.sh=[0,1]):((kitN kvs).map (·.2.2)).Nodup:=by
 unfold kitN;rw[Ju];refine Jr.mpr ((Jr.mp nd).imp_of_mem λ{a b}B y h z=>h ?_);let⟨J,Y,e1⟩:=Zan (hs a B);let⟨G,O,e2⟩:=Zan (hs b y);let z:encP a.1=encP b.1:=z;rw[e1,e2]at z⊢;injection z with q1 q2
 rw[q1,q2]
def Rx(K:PySem.W.Frag)(h:Bool):List V->Hp->VK->Prop:=λxs H Q=>∃(d:Addr)(kvs:List Nkv),xs=[.ref d]/\DnAt K H d [0,1] kvs/\kvs.length<65536 /\
 ∀(D:Addr)(L':List KIt),H D=none->L'.Perm (kitN kvs)->L'.Pairwise (λa b=>HT.lexLt a.2.2 b.2.2=true)->Q (.ref D) (upd H D (.lst ((rvB h L').map λq=>V.ref q.2.1)))
theorem Zhe{b:Bool}{d:Addr}(O:argsOk "sorted" {[.ref d],kw})(G:∀D,argsOk "list.sort" {[.ref D],kw})(B:∀D,Builtin.«list.sort» {[.ref D],kw}=Builtin.«list.sort» {[.ref D],[(C8 "reverse",.bool b)]})(hc:X.calm=true)(hu:X.A.units+200<Er)(I:Inv X pz σ H s)(h:Rx X.K b [.ref d] H Q):Ck (Cn X.prog X.w) X.A (call (.builtin "sorted") [.ref d] kw) (EP X pz σ Q) E s:=by
 let⟨_,kvs,e,g,Y,q⟩:=h;cases e;let⟨nd,na,Z⟩:=Zmx hc I g;let hk:∀q∈kitN kvs,KpAt X.K H q:=λq y=>by
  let⟨x,hx,rfl⟩:=Jk.mp y;exact Zxj (g.ks x hx).1 (g.ks x hx).2
 let ev:Zh (kitN kvs)=kvs.map λq=>Cd q.2.1:=by unfold Zh kitN;rw[Ju];rfl
 let n2:=Zq7 nd λx hx=>(g.ks x hx).2;let pr:=Ts b (kitN kvs);exact Zcl O G B I (λ{A R E}hA hR=>Z hA (by rw[<-ev];exact hR)) (by unfold kitN;rw[Ja];exact Y) (by unfold kitN;rw[Ju];exact na) n2 (λ_ _ J h0{_ _ _}q=>Zq6 J hk () q) (λ_ _ _ J=>Zus J (by show X.A.units+1+1<Er;lia) (λq y=>hk q (pr.mem_iff.mp y)) ((pr.map _).nodup_iff.mpr n2)) q
def Zdk{K:PySem.W.Frag}(G:X.calm=true)(J:X.K=K)(B:X.A.units+200<Er):Wi X (.builtin "sorted") (Rx K false):=by
 intro pz s σ H xs us Q I r h;subst J;let⟨d,_,rfl,_⟩:=id h;let⟨u,rfl,y⟩:=Rb r;cases y;exact Zhe (args_sorted1 _) (λ_=>args_list_sort _) Nd G B I h
variable{e v:Expr}{ta:TA}{p kpos:Pos}
def Zng(K:PySem.W.Frag)(ta:TA):TE:=λσ H Q=>ta σ H λvs H1=>Rx K true vs H1 Q
def Zl6{K:PySem.W.Frag}(hc:X.calm=true)(hK:X.K=K)(hu:X.A.units+200<Er)(hg:Gl X "sorted")(hm:X.mg "sorted"=none)(ha:PA X [e] ta)(hk:PK X [{some "reverse",v,kpos}] (Zlj (tC (.bl true)) tNil))(y:Cs [e] X.env=[(false,eval e X.env)]:=by rfl) :
  PE X (.Call (.Name "sorted" p) [e] [{some "reverse",v,kpos}] pos) (Zng K ta):=by
 subst hK;intro pz s σ H Q I h;refine E9 (Pn I hg hm C2 ?_);refine callWith_kw (thn (ha pos pz s σ H _ I h) λus G hz=>?_) (by rw[y];rfl) (by rw[y];rfl);let⟨vs,H1,I1,Y,Z⟩:=hz;refine thn (hk pos pz G σ H1 (λzs B=>zs=[.bl true]/\Rx X.K true vs B Q) I1 ⟨rfl,Z⟩) λws s2 hz=>?_;let⟨zs,B,I2,J,ez,q⟩:=hz;subst ez;let⟨dv,rfl,rd⟩:=Vals.one J;cases(show dv=Kj true from rd);let⟨d,_,rfl,_⟩:=id q;let⟨u,rfl,O⟩:=Vals.one Y;obtain rfl:u=Cd d:=O;exact Zhe (args_sorted_rev _ _) (λ_=>args_list_sort_rev _ _) (λ_=>rfl) hc hu I2 q
end
section
def Zh9:List V->Hp->VK->Prop:=λxs H Q=>∃(d:Addr)(kvs:List (List Key×V))(ws:List (List Int)),xs=[.ref d]/\Rd H d (.dT kvs)/\kvs.map (·.1)=ws.map wk/\ws.length<65536/\(∀w∈ws,w≠[])/\ws.Nodup /\
 ∀(D:Addr)(L':List KIt),H D=none->(L'.map (·.2.2)).Perm ws->L'.Pairwise (λa b=>HT.lexLt a.2.2 b.2.2=true)->(∀q∈L',H q.2.1=some (.tup (q.2.2.map V.int)))->Q (.ref D) (upd H D (.lst (L'.map λq=>V.ref q.2.1)))
theorem Qy(hc:X.calm=true):Wi X (.builtin "sorted") Zh9:=by
 intro pz s σ H xs us Q I r h;let⟨d,kvs,ws,rfl,rd,ek,a4,Y,nd,q⟩:=h;let⟨u,rfl,rx⟩:=Rb r;cases rx;let⟨z,lo,xs,O,o,es,ep,h1,h2,h3,h4,h5⟩:=(show Y0 X.prog X.w H s.heap d (.dT kvs)from Zqa I.hok rd);let lr:=Paired.length O;let ls:es.size=xs.length:=size_of_entries h4;let lk:kvs.length=ws.length:=by have:=congrArg Eu ek;simpa using this
 let a0:∃L:List KIt,(L.map λq=>Cd q.2.1)=(xs.map λq=>q.2.1).map Cd/\L.map (·.2.2)=ws/\∀q∈L,H q.2.1=some (.tup (q.2.2.map V.int)):=by
  clear h4 ls q rd z lr h5 a4 nd lk
  induction O generalizing ws with
  |nil =>
   cases ws with
   |nil=>exact{[],rfl,rfl,λ_ h=>nomatch h}
   |cons _ _=>cases ek
  | @cons kv x _ _ a b ih =>
   cases ws with
   |nil=>cases ek
   |cons w ws =>
    rw[Jl,Jl]at ek;injection ek with ek1 ek2
    let⟨L,e1,e2,e3⟩:=ih ws ek2 λw hw=>Y w (Jf _ hw);exists(.non,x.2.1,w)::L,by rw[Jl,Jl,Jl,e1],by rw[Jl,e2],λq G=>?_;rcases J9.mp G with y|y
    .rw[y];let:=a.2.1;rw[ek1]at this;let ew:(wk w).map kV=w.map V.int:=by rw[Ju];rfl
     rw[ew]at this;exact this
    .exact e3 q y
 let⟨L,e1,e2,e3⟩:=a0;let ll:L.length=ws.length:=by have:=congrArg Eu e2;simpa using this
 let hk:∀q∈L,SqT X.K H q.2.1 (q.2.2.map V.int)/\q.2.2≠[]:=λq G=>{.inl (.inl (e3 q G)),Y _ (by rw[<-e2];exact Jk.mpr ⟨q,G,rfl⟩)};let na:(L.map (·.2.1)).Nodup:=by
  refine Jr.mpr ((Jr.mp (by rw[e2];exact nd:(L.map (·.2.2)).Nodup)).imp_of_mem λ{a b}ha hb h z=>h ?_);let e4:=e3 a ha;rw[z,e3 b hb]at e4;injection Jaa e4 with e5
  let inj:∀{x y:List Int},x.map V.int=y.map V.int->x=y:=λ{x y}e=>by
   let:=congrArg (List.map λv:V=>match v with|.int i=>i|_=>0) e;simpa[Ju,Function.comp_def]using this
  exact inj e5.symm
 rw[<-e2]at nd;refine Zcl (b:=false) (args_sorted1 _) (λ_=>args_list_sort _) Nd I (λ{A R E}hA hR=>?_) () na nd (λ_ _ J h0{_ _ _}q=>Ze2 J hk () q) (λ_ _ _ J=>Zjf J hk nd) λD L' hD pm pw=>q D L' hD (by rw[<-e2];exact pm.map _) pw λq G=>e3 q (pm.mem_iff.mp G);refine kdu_collect (A:=A) (Zji lo h2 h3) (hA.trans (I.ok.hd hc)) h1 (by rw[ls,<-lr];exact z) λh' tk acc a1 B=>?_;let a3:acc.toList=Zh L:=by
  show _=(L.map λq=>Cd q.2.1);rw[e1]
  apply K2
  intro j;rw[Ju]
  by_cases hj:j<xs.length
  .let Z:j<acc.size:=by rw[B.1,ls];exact hj
   let⟨a2,ev⟩:=B.2 j acc[j] (by rw[Gy Z]);let:=entry_at h4 j;rw[Gy a2,Jb hj]at this;let:=Jaa this;rw[Jt,Gy Z,ev,this,Gc,Jb hj];rfl
  .rw[Jt,Array.getElem?_eq_none (by rw[B.1,ls];lia),Bk (by rw[Ja];lia)]
 rw[a3];exact hR h' tk a1
end
section
variable{K:PySem.W.Frag}{ek ev:Expr}{tk:TE}
def Znj(K:PySem.W.Frag)(tk tv:TE):TE:=λσ H Q=>∀p,H p=none->tk σ (upd H p (.ext (dnP p []))) λx H1=>tv σ H1 λv h=>h p=some (.ext (dnP p []))/\∃b k,x=.ref b/\NkAt K h k b/\Q (.ref p) (upd h p (.ext (dnP p [(k,b,v)])))
theorem Zma(hK:X.K=K)(hu:X.A.units+200<Er)(hk:PE X ek tk)(hv:PE X ev tv):PE X (.Dict [some ek] [ev] pos) (Znj K tk tv):=by
 subst hK;intro pz s σ H Q I q;let hn:=I.hok.fresh (Ji s.heap.objs.size);let I1:=I.laid (a:=s.heap.objs.size) (o:=.ext (dnP s.heap.objs.size [])) (h':=s.heap.push {cls:=.type "dict",data:=.dict #[]}) (t':=s.toks) (λ_ _ q=>D2 _ q) (Ji _)
  (dnP.ok {Ge _,beq_eq_false_iff_ne.mpr (Hd (Gn I.big)),[],.nil,_,#[],0,D3 _ rfl,⟨rfl,rfl,rfl⟩,rfl,rfl,Fe})
 refine wpAny_Dict_any rfl rfl (λz=>nomatch z) (show 1<=15 by decide) (thn (Zl3 (pos:=pos) hk hv Zqj pz _ σ _ (λps B=>match ps with
  |[(x,v)]=>B s.heap.objs.size=some (.ext (dnP s.heap.objs.size []))/\∃b k,x=.ref b/\NkAt X.K B k b/\Q (.ref s.heap.objs.size) (upd B s.heap.objs.size (.ext (dnP s.heap.objs.size [(k,b,v)])))
  |_=>False) I1 (q _ hn)) λws s2⟨ps,B,Y,y,J⟩=>?_)
 match ps,y,J with
 |[(x,v)],y,⟨e2,b,k,ex,nk,J⟩ =>
  subst ex;cases y with
  | @cons _ w _ _ r1 r2 =>
   cases r2;let⟨u,w⟩:=w;let⟨ru,G⟩:=r1;obtain rfl:u=Cd b:=ru;let g:DnAt X.K B s.heap.objs.size (k.map NI.sh) []:={.inl e2,λ_ h=>nomatch h};let⟨z,hd,xs,y,dd⟩:=Zde Y g;cases y;unfold storeAll;rw[Jb2];refine D0 (D0 (wpAny_dictSet_heap (knd:=W8 X.prog X.w (k.map NI.sh)) (hsz:=Ge _) (show X.A.units+1<Er by lia) ⟨Zbc Y nk,rfl⟩ dd λh' O hs=>D1 ?_));dsimp only;rw[List.forIn_nil];refine D1 {.ref s.heap.objs.size,_,?_,rfl,J};let⟨Z,es,ep,hq,h2,h3,h4,_,h5⟩:=O;exact Sr Y (by rw[e2];exact El) hs ⟨Z,hq⟩ (dnP.ok {(by decide:1<=Ca),hd,_,.cons ⟨rfl,rfl,G⟩ .nil,Z,es,ep,hq,h2,h3,h4,h5})
end
end L2
namespace L3
open PySem L2
structure Cf where
 c:Addr
 k:Cq
variable{C:L3.Cf}
inductive D where
 |non|bl (b:Bool)|int (i:Int)|str (x:Str)|ty (n:String)|at(a:Addr)
 |tup (xs:List D)|lst (xs:List D)|frz (xs:List D)|dct (kvs:List (Key×D))|dcT (kvs:List (List Key×D))
 |code (S:List Pr)|cell (k:Nat)|exc (C:Addr) (fs:List (Str×D))|nst (ks:List NI)|itp (x:List Int)
variable{ds:List L3.D}
inductive MO where
 |lst (xs:List D)|dct (kvs:List (Key×D))|dcT (kvs:List (List Key×D))|drK (kvs:List (Key×D))|drT (kvs:List (List Key×D))|dfT (o:Obj) (vs:List (List Key×V)) (kvs:List (List Key×D))|dfK (o:Obj) (vs:List (Key×V)) (kvs:List (Key×D))|ins (C:Addr) (fs:List (Str×D))|hand|tab (P:Addr) (pos:Pos) (q:Str)|dcN (sh:List Nat) (z:Option (Obj×List Nkv)) (kvs:List (List NI×D))
variable{m:L3.MO}
abbrev Mem:=List MO
mutual
inductive Rep(C:Cf)(I:Hp)(α:List Addr):V->D->Prop where
 |non:Rep C I α .non .non
 |bl (b:Bool):Rep C I α (.bl b) (.bl b)
 |int (i:Int):Rep C I α (.int i) (.int i)
 |str (x:Str):Rep C I α (.str x) (.str x)
 |ty (n:String):Rep C I α (.ty n) (.ty n)
 |at(a:Addr):Rep C I α (.ref a) (.at a)
 |tup {a:Addr} {vs:List V} {ds:List D}:I a=some (.tup vs)->Reps C I α vs ds->Rep C I α (.ref a) (.tup ds)
 |lst {a:Addr} {vs:List V} {ds:List D}:I a=some (.lst vs)->Reps C I α vs ds->Rep C I α (.ref a) (.lst ds)
 |frz {a:Addr} {vs:List V} {ds:List D}:SqL C.k I a vs->Reps C I α vs ds->Rep C I α (.ref a) (.frz ds)
 |dct {a:Addr} {vs:List (Key×V)} {ds:List (Key×D)}:I a=some (.dK vs)->RepK C I α vs ds->Rep C I α (.ref a) (.dct ds)
 |dcT {a:Addr} {vs:List (List Key×V)} {ds:List (List Key×D)}:I a=some (.dT vs)->RepT C I α vs ds->Rep C I α (.ref a) (.dcT ds)
 |code {x:Addr} {S:List Pr}:Uu C.c I x S->Rep C I α (.ref x) (.code S)
 |cell {a:Addr} {k:Nat}:α[k]?=some a->Rep C I α (.ref a) (.cell k)
 |exc {ea Ce:Addr} {d:Option Addr} {vs:List (Str×V)} {fs:List (Str×D)}:I ea=some (.ext (excP ea Ce d))->XD I d vs->RepF C I α vs fs->Rep C I α (.ref ea) (.exc Ce fs)
 |nst {a:Addr} {ks:List NI}:NkAt C.k I ks a->Rep C I α (.ref a) (.nst ks)
 |itp {a:Addr} {x:List Int}:SqT C.k I a (x.map V.int)->Rep C I α (.ref a) (.itp x)
inductive Reps(C:Cf)(I:Hp)(α:List Addr):List V->List D->Prop where
 |nil:Reps C I α [] []
 |cons {v:V} {d:D} {vs:List V} {ds:List D}:Rep C I α v d->Reps C I α vs ds->Reps C I α (v::vs) (d::ds)
inductive RepK(C:Cf)(I:Hp)(α:List Addr):List (Key×V)->List (Key×D)->Prop where
 |nil:RepK C I α [] []
 |cons {k:Key} {v:V} {d:D} {vs:List (Key×V)} {ds:List (Key×D)}:Rep C I α v d->RepK C I α vs ds->RepK C I α ((k,v)::vs) ((k,d)::ds)
inductive RepF(C:Cf)(I:Hp)(α:List Addr):List (Str×V)->List (Str×D)->Prop where
 |nil:RepF C I α [] []
 |cons {k:Str} {v:V} {d:D} {vs:List (Str×V)} {ds:List (Str×D)}:Rep C I α v d->RepF C I α vs ds->RepF C I α ((k,v)::vs) ((k,d)::ds)
inductive RepT(C:Cf)(I:Hp)(α:List Addr):List (List Key×V)->List (List Key×D)->Prop where
 |nil:RepT C I α [] []
 |cons {k:List Key} {v:V} {d:D} {vs:List (List Key×V)} {ds:List (List Key×D)}:Rep C I α v d->RepT C I α vs ds->RepT C I α ((k,v)::vs) ((k,d)::ds)
end
section
def Zcu{k:Nat}{a:Addr}(p:α<+:α')(h:α[k]?=some a):α'[k]?=some a:=by
 let⟨t,rfl⟩:=p;let⟨y,_⟩:=Jg.mp h;rw[Jw y];exact h
mutual
theorem Rep.mono(s:Same I I')(p:α<+:α'):∀{v:V}{d:D},Rep C I α v d->Rep C I' α' v d:=by
 intro _ _ h;cases h with
 |non=>exact .non
 |bl b=>exact .bl b
 |int i=>exact .int i
 |str x=>exact .str x
 |ty n=>exact .ty n
 |«at» a=>exact .at a
 |tup e r=>exact .tup (s _ _ e) (Reps.mono s p r)
 |lst e r=>exact .lst (s _ _ e) (Reps.mono s p r)
 |frz e r=>exact .frz (s.seq e) (Reps.mono s p r)
 |dct e r=>exact .dct (s _ _ e) (RepK.mono s p r)
 |dcT e r=>exact .dcT (s _ _ e) (RepT.mono s p r)
 |code h=>exact .code (h.same s)
 |cell e=>exact .cell (Zcu p e)
 |exc e f r=>exact .exc (s _ _ e) (f.mono s) (RepF.mono s p r)
 |nst e=>exact .nst (e.same s)
 |itp e=>exact .itp (Rh s e)
theorem Reps.mono(s:Same I I')(p:α<+:α'):∀{vs:List V}{ds:List D},Reps C I α vs ds->Reps C I' α' vs ds:=by
 intro _ _ h;cases h with
 |nil=>exact .nil
 |cons h r=>exact .cons (Rep.mono s p h) (Reps.mono s p r)
theorem RepK.mono(s:Same I I')(p:α<+:α'):∀{vs:List (Key×V)}{ds:List (Key×D)},RepK C I α vs ds->RepK C I' α' vs ds:=by
 intro _ _ h;cases h with
 |nil=>exact .nil
 |cons h r=>exact .cons (Rep.mono s p h) (RepK.mono s p r)
theorem RepF.mono(s:Same I I')(p:α<+:α'):∀{vs:List (Str×V)}{ds:List (Str×D)},RepF C I α vs ds->RepF C I' α' vs ds:=by
 intro _ _ h;cases h with
 |nil=>exact .nil
 |cons h r=>exact .cons (Rep.mono s p h) (RepF.mono s p r)
theorem RepT.mono(s:Same I I')(p:α<+:α'):∀{vs:List (List Key×V)}{ds:List (List Key×D)},RepT C I α vs ds->RepT C I' α' vs ds:=by
 intro _ _ h;cases h with
 |nil=>exact .nil
 |cons h r=>exact .cons (Rep.mono s p h) (RepT.mono s p r)
end
theorem Reps.length:∀{vs:List V}{ds:List D},Reps C I α vs ds->vs.length=ds.length:=by
 intro _ _ h;cases h with
 |nil=>
  exact rfl
 |cons _ r=>
  exact by rw[Jy,Jy,Reps.length r]
theorem Reps.get:∀{vs:List V}{ds:List D}{i:Nat}{d:D},Reps C I α vs ds->ds[i]?=some d->∃v,vs[i]?=some v/\Rep C I α v d
 |_,_,_,_,.nil,e=>by simp at e
 |_,_,0,_,.cons r _,e=>by simp at e;subst e;exists ·,r
 |_,_,i+1,d,.cons _ t,e=>by
  let⟨u,h1,h2⟩:=Reps.get (i:=i) (d:=d) t (by simpa using e);exists u,by simpa using h1,h2
theorem Reps.at:∀{vs:List V}{ds:List D}{i:Nat},Reps C I α vs ds->(h1:i<vs.length)->(h2:i<ds.length)->Rep C I α vs[i] ds[i]:=λ{vs ds i}r h1 h2=>by
 let⟨v,e,z⟩:=r.get (Jb h2);rw[Jb h1]at e;cases e;exact z
theorem Reps.app:∀{vs ws:List V}{ds es:List D},Reps C I α vs ds->Reps C I α ws es->Reps C I α (vs++ws) (ds++es):=by
 intro _ _ _ _ h s;cases h with
 |nil=>
  exact s
 |cons r t=>
  exact .cons r (Reps.app t s)
def Reps.one{v:V}{d:D}(h:Rep C I α v d):Reps C I α [v] [d]:=.cons h .nil
def InvR(C:Cf)(I:Hp)(α:List Addr)(v:V):D->Prop
 |.non=>v=.non
 |.bl b=>v=.bl b
 |.int i=>v=.int i
 |.str x=>v=.str x
 |.ty n=>v=.ty n
 |.at a=>v=.ref a
 |.tup ds=>∃a vs,v=.ref a/\I a=some (.tup vs)/\Reps C I α vs ds
 |.lst ds=>∃a vs,v=.ref a/\I a=some (.lst vs)/\Reps C I α vs ds
 |.frz ds=>∃a vs,v=.ref a/\SqL C.k I a vs/\Reps C I α vs ds
 |.dct ds=>∃a vs,v=.ref a/\I a=some (.dK vs)/\RepK C I α vs ds
 |.dcT ds=>∃a vs,v=.ref a/\I a=some (.dT vs)/\RepT C I α vs ds
 |.code S=>∃x,v=.ref x/\Uu C.c I x S
 |.cell k=>∃a,v=.ref a/\α[k]?=some a
 |.exc y fs=>∃h d vs,v=.ref h/\I h=some (.ext (excP h y d))/\XD I d vs/\RepF C I α vs fs
 |.nst ks=>∃a,v=.ref a/\NkAt C.k I ks a
 |.itp x=>∃a,v=.ref a/\SqT C.k I a (x.map V.int)
theorem Rep.inv{v:V}{d:D}(r:Rep C I α v d):InvR C I α v d:=by
 cases r with
 |non=>rfl
 |bl b=>rfl
 |int i=>rfl
 |str x=>rfl
 |ty n=>rfl
 |«at» a=>rfl
 |tup e r=>exact{_,_,rfl,e,r}
 |lst e r=>exact{_,_,rfl,e,r}
 |frz e r=>exact{_,_,rfl,e,r}
 |dct e r=>exact{_,_,rfl,e,r}
 |dcT e r=>exact{_,_,rfl,e,r}
 |code h=>exact{_,rfl,h}
 |cell e=>exact{_,rfl,e}
 |exc e f r=>exact{_,_,_,rfl,e,f,r}
 |nst e=>exact{_,rfl,e}
 |itp e=>exact{_,rfl,e}
def Rep.cellI{a:Addr}{k:Nat}(r:Rep C I α (.ref a) (.cell k)):α[k]?=some a:=by
 let⟨_,e,h⟩:=r.inv;cases e;exact h
def Zxp(C:Cf)(I:Hp)(α:List Addr)(vs:List V):List D->Prop
 |[]=>vs=[]
 |d::ds=>∃v us,vs=v::us/\Rep C I α v d/\Reps C I α us ds
theorem Reps.inv(r:Reps C I α vs ds):Zxp C I α vs ds:=by
 cases r with
 |nil=>rfl
 |cons h r=>exact{_,_,rfl,h,r}
def Reps.nilI(r:Reps C I α [] ds):ds=[]:=by
 cases r;rfl
@[elab_as_elim] theorem Reps.e1 {vs:List V} {d:D} {P:List V->Prop} (r:Reps C I α vs [d]) (h:∀v,Rep C I α v d->P [v]):P vs:=by
 let⟨_,_,rfl,a,r⟩:=r.inv;cases r.inv;exact h _ a
@[elab_as_elim] theorem Reps.e2 {vs:List V} {d e:D} {P:List V->Prop} (r:Reps C I α vs [d,e]) (h:∀v w,Rep C I α v d->Rep C I α w e->P [v,w]):P vs:=by
 let⟨_,_,rfl,a,r⟩:=r.inv;exact Reps.e1 (P:=λl=>P (_::l)) r λ_ b=>h _ _ a b
@[elab_as_elim] theorem Reps.e3 {vs:List V} {d e f:D} {P:List V->Prop} (r:Reps C I α vs [d,e,f]) (h:∀v w x,Rep C I α v d->Rep C I α w e->Rep C I α x f->P [v,w,x]):P vs:=by
 let⟨_,_,rfl,a,r⟩:=r.inv;exact Reps.e2 (P:=λl=>P (_::l)) r λ_ _ b c=>h _ _ _ a b c
theorem Reps.take:∀{vs:List V}{ds:List D}(n:Nat),Reps C I α vs ds->Reps C I α (vs.take n) (ds.take n)
 |_,_,0,_=>.nil
 |_,_,_+1,.nil=>.nil
 |_,_,n+1,.cons r t=>.cons r (Reps.take n t)
theorem Reps.drop:∀{vs:List V}{ds:List D}(n:Nat),Reps C I α vs ds->Reps C I α (vs.drop n) (ds.drop n)
 |_,_,0,r=>r
 |_,_,_+1,.nil=>.nil
 |_,_,n+1,.cons _ t=>Reps.drop n t
theorem Reps.set{v:V}{d:D}(r:Rep C I α v d):∀{vs:List V}{ds:List D}(i:Nat),Reps C I α vs ds->Reps C I α (vs.set i v) (ds.set i d)
 |_,_,_,.nil=>.nil
 |_,_,0,.cons _ t=>.cons r t
 |_,_,i+1,.cons q t=>.cons q (Reps.set r i t)
def Reps.rev(h:Reps C I α vs ds):Reps C I α vs.reverse ds.reverse:=by
 let B:∀{vs ws:List V}{ds es:List D},Reps C I α vs ds->Reps C I α ws es->Reps C I α (vs.reverse++ws) (ds.reverse++es):=by
  intro vs
  induction vs with
  |nil=>intro ws ds es h1 h2;cases h1;exact h2
  |cons v vs y =>
   intro ws ds es h1 h2;cases h1 with
   |cons a b =>
    rw[Fg,Jn,Fg,Jn];exact y b (.cons a h2)
 let:=B h .nil;rwa [Gg,Gg]at this
theorem Reps.ints:∀(ns:List Int),Reps C I α (ns.map V.int) (ns.map D.int)
 |[]=>.nil
 |n::r=>.cons (.int n) (Reps.ints r)
theorem Reps.of_ints:∀{vs:List V}(ns:List Int),Reps C I α vs (ns.map D.int)->vs=ns.map V.int
 |_,[],h=>h.inv
 |_,n::r,h=>by
  let⟨_,_,rfl,a,b⟩:=h.inv;rw[Reps.of_ints r b,a.inv];rfl
end
variable{M:L3.Mem}
def RepN(C:Cf)(I:Hp)(α:List Addr):List Nkv->List (List NI×D)->Prop:=Paired λp q=>p.1=q.1/\Rep C I α p.2.2 q.2
def Q5(C:Cf)(I:Hp)(sh:List Nat)(vs:List Nkv):Prop:=∀x∈vs,NkAt C.k I x.1 x.2.1/\x.1.map NI.sh=sh
def RepN.mono{vs:List Nkv}{ds:List (List NI×D)}(h:RepN C I α vs ds)(s:Same I I')(p:α<+:α'):RepN C I' α' vs ds:=Paired.mapP h λ_ _ z=>{z.1,z.2.mono s p}
def Q5.mono{sh:List Nat}{vs:List Nkv}(h:Q5 C I sh vs)(s:Same I I'):Q5 C I' sh vs:=λx hx=>{(h x hx).1.same s,(h x hx).2}
def MoAt(C:Cf)(I:Hp)(α:List Addr)(H:Hp)(a:Addr):MO->Prop
 |.lst ds=>∃vs,H a=some (.lst vs)/\Reps C I α vs ds
 |.dct ds=>∃vs,H a=some (.dK vs)/\RepK C I α vs ds
 |.dcT ds=>∃vs,H a=some (.dT vs)/\RepT C I α vs ds
 |.drK ds=>∃vs,Rd H a (.dK vs)/\RepK C I α vs ds
 |.drT ds=>∃vs,Rd H a (.dT vs)/\RepT C I α vs ds
 |.dfT o vs ds=>H a=some (.frz o (.dT vs))/\RepT C I α vs ds
 |.dfK o vs ds=>H a=some (.frz o (.dK vs))/\RepK C I α vs ds
 |.ins Cl fs=>∃dx vs,H a=some (.ins Cl dx vs)/\Paired (λ(p:Str×V)(q:Str×D)=>p.1=q.1/\Rep C I α p.2 q.2) vs fs
 |.hand=>∃(d k:Int)(c:Addr)(cs:List Int),H a=some (.lst [.int d,.int k,.ref c])/\I c=some (.lst (cs.map V.int))/\cs≠[]/\cs.length<=63/\0<=d/\0<=k/\∀c∈cs,0<=c
 |.dcN sh none ds=>∃vs,H a=some (.ext (dnP a vs))/\Q5 C I sh vs/\RepN C I α vs ds
 |.dcN sh (some z) ds=>H a=some (.frz z.1 (.ext (dnP a z.2)))/\Q5 C I sh z.2/\RepN C I α z.2 ds
 |.tab P pos q=>a=P/\∃ps,H a=some (.tbl ps)/\TriplesOk ps.toList/\(Jfe pos ps.toList=none\/∃c,Jfe pos ps.toList=some (.ref c)/\I c=some (codeφ c q))
theorem MoAt.some{a:Addr}(h:MoAt C I α H a m):∃o,H a=some o:=by
 cases m with
 |lst ds=>obtain⟨vs,e,_⟩:=h;exists _,e
 |dct ds=>obtain⟨vs,e,_⟩:=h;exists _,e
 |dcT ds=>obtain⟨vs,e,_⟩:=h;exists _,e
 |drK ds=>obtain⟨vs,e,_⟩:=h;rcases e with e|⟨o,e⟩<;>exact{_,e}
 |drT ds=>obtain⟨vs,e,_⟩:=h;rcases e with e|⟨o,e⟩<;>exact{_,e}
 |dfT o vs ds=>exact{_,h.1}
 |dfK o vs ds=>exact{_,h.1}
 |ins Cl fs=>obtain⟨dx,vs,e,_⟩:=h;exists _,e
 |hand=>obtain⟨d,k,c,cs,e,_⟩:=h;exists _,e
 |tab P pos q=>obtain⟨_,ps,e,_⟩:=h;exists _,e
 |dcN sh z ds=>cases z with|none=>obtain⟨vs,e,_⟩:=h;exact{_,e}|some z=>exact{_,h.1}
theorem MoAt.mono{a:Addr}(h:MoAt C I α H a m)(s:Same I I')(p:α<+:α')(e:H' a=H a):MoAt C I' α' H' a m:=by
 cases m with
 |lst ds=>obtain⟨vs,e1,r⟩:=h;exists vs,e.trans e1,r.mono s p
 |dct ds=>obtain⟨vs,e1,r⟩:=h;exists vs,e.trans e1,r.mono s p
 |dcT ds=>obtain⟨vs,e1,r⟩:=h;exists vs,e.trans e1,r.mono s p
 |drK ds=>obtain⟨vs,e1,r⟩:=h;exists vs,e1.imp (λz=>e.trans z) (λ⟨o,z⟩=>{o,e.trans z}),r.mono s p
 |drT ds=>obtain⟨vs,e1,r⟩:=h;exists vs,e1.imp (λz=>e.trans z) (λ⟨o,z⟩=>{o,e.trans z}),r.mono s p
 |dfT o vs ds=>exact{e.trans h.1,h.2.mono s p}
 |dfK o vs ds=>exact{e.trans h.1,h.2.mono s p}
 |ins Cl fs=>obtain⟨dx,vs,e1,r⟩:=h;exists dx,vs,e.trans e1,Paired.mapP r λ_ _ z=>{z.1,z.2.mono s p}
 |hand=>obtain⟨d,k,c,cs,e1,e2,r⟩:=h;exists d,k,c,cs,e.trans e1,s _ _ e2,r
 |tab P pos q =>
  let⟨y,ps,e1,t,r⟩:=h;exists y,ps,e.trans e1,t,?_;rcases r with r|⟨c,r1,r2⟩
  .exact .inl r
  .exact .inr ⟨c,r1,s _ _ r2⟩
 |dcN sh z ds=>cases z with
  |none=>obtain⟨vs,e1,k,r⟩:=h;exists vs,e.trans e1,k.mono s,r.mono s p
  |some z=>obtain⟨e1,k,r⟩:=h;exists e.trans e1,k.mono s,r.mono s p
abbrev X3:=Addr->List (Str×D)->Mem->Prop
structure Anc where
 i:Hp
 a:List Addr
 xe:XK
 kx:X3
variable{Z:L3.Anc}
structure Rel(C:Cf)(Z:Anc)(I:Hp)(α:List Addr)(H:Hp)(M:Mem):Prop where
 ai:Same Z.i I
 aa:Z.a<+:α
 sub:Same I H
 len:α.length=M.length
 nd:α.Nodup
 cel:∀(k:Nat)(a:Addr)(m:MO),α[k]?=some a->M[k]?=some m->MoAt C I α H a m/\I a=none
section
def Rel.get(R:Rel C Z I α H M){k:Nat}(h:M[k]?=some m):∃a,α[k]?=some a/\MoAt C I α H a m/\I a=none:=by
 let⟨B,_⟩:=Jg.mp h;let y:k < α.length:=by rw[R.len];exact B
 exists α[k],Jb y,R.cel k _ m (Jb y) h
def Rel.cellNe(R:Rel C Z I α H M){k:Nat}{a p:Addr}(h:α[k]?=some a)(B:H p=none):a≠p:=by
 let⟨G,_⟩:=Jg.mp h;let y:k<M.length:=by rw[<-R.len];exact G
 let⟨o,e⟩:=(R.cel k a _ h (Jb y)).1.some;exact Zx e B
def Rel.new(R:Rel C Z I α H M){p:Addr}{o:HO}(y:H p=none):Rel C Z (upd I p o) α (upd H p o) M/\Same I (upd I p o)/\(upd I p o) p=some o:=by
 let B:I p=none:=R.sub.free y;let s:Same I (upd I p o):=Zc B;exists{R.ai.trans s,R.aa,λb u h=>?_,R.len,R.nd,λk a m h1 h2=>?_},s,Ze
 .by_cases e:b=p
  .subst e;rw[Ze]at h⊢;exact h
  .rw[Zo e]at h⊢;exact R.sub b u h
 .let⟨J,G⟩:=R.cel k a m h1 h2;let ne:=R.cellNe h1 y;exact{J.mono s (Jo _) (Zo ne),by rw[Zo ne];exact G}
theorem Rel.cell(R:Rel C Z I α H M){p:Addr}{o:HO}{m:MO}(B:H p=none)(O:∀H',H' p=some o->MoAt C I α H' p m):Rel C Z I (α++[p]) (upd H p o) (M++[m])/\α<+:(α++[p])/\(α++[p])[M.length]?=some p:=by
 let J:I p=none:=R.sub.free B;refine{{R.ai,R.aa.trans (Go _ _),λb u h=>?_,by rw[Jc,Jc,R.len];rfl,?_,λk a x h1 h2=>?_},Go _ _,by rw[<-R.len];simp}
 .let ne:b≠p:=λe=>by rw[e,J]at h;cases h
  rw[Zo ne];exact R.sub b u h
 .rw[Bc];exists R.nd,by simp,λa ha b Y=>?_;let⟨k,y,rfl⟩:=Gh ha;rw[Je.mp Y];exact R.cellNe (Jb y) B
 .by_cases y:k < α.length
  .rw[Jw y]at h1;rw[Jw (by rw[<-R.len];exact y)]at h2;let⟨a1,a2⟩:=R.cel k a x h1 h2;exists a1.mono (.refl _) (Go _ _) (Zo (R.cellNe h1 B)),a2
  .let⟨G,_⟩:=Jg.mp h1;rw[Jc,G4]at G;let e:k=α.length:=by lia
   subst e;let e1:(α++[p])[α.length]?=some p:=by simp
   let e2:(M++[m])[α.length]?=some m:=by rw[R.len];simp
   rw[e1]at h1;rw[e2]at h2;cases h1;cases h2;exists(O _ Ze).mono (.refl _) (Go _ _) rfl,J
def Rel.put(R:Rel C Z I α H M){k:Nat}{a:Addr}{o:HO}(B:α[k]?=some a)(G:∀H',H' a=some o->MoAt C I α H' a m):Rel C Z I α (upd H a o) (M.set k m):=by
 let⟨J,Y⟩:=Jg.mp B;let y:k<M.length:=by rw[<-R.len];exact J
 let ia:I a=none:=(R.cel k a _ B (Jb y)).2;exists R.ai,R.aa,λb u h=>?_,by rw[B1];exact R.len,R.nd,λj b x h1 h2=>?_
 .let ne:b≠a:=λe=>by rw[e,ia]at h;cases h
  rw[Zo ne];exact R.sub b u h
 .by_cases e:k=j
  .subst e;rw[B]at h1;cases h1;rw[B4 y]at h2;cases h2;exists G _ Ze,ia
  .rw[Ft e]at h2;let⟨a1,a2⟩:=R.cel j b x h1 h2;let⟨hj,O⟩:=Jg.mp h1;let ne:b≠a:=λz=>e (by
    rw[<-Y,<-O]at z;exact((Bh R.nd).mp z).symm)
   exists a1.mono (.refl _) (Jo _) (Zo ne),a2
end
abbrev Ev:=List (Option D)
variable{ρ:L3.Ev}
abbrev K3:=D->Mem->Prop
abbrev TE3:=Ev->Mem->K3->Prop
variable{ua ub:L3.TE3}
abbrev TT3:=Ev->Mem->(Bool->Mem->Prop)->Prop
abbrev TA3:=Ev->Mem->(List D->Mem->Prop)->Prop
abbrev TO3:=Ev->Mem->(Option Int->Mem->Prop)->Prop
abbrev R3:=D->D->Mem->K3->Prop
structure Ends3 where
 nx:Ev->Mem->Prop
 rt:K3
 bk:Ev->Mem->Prop:=λ_ _=>False
 ct:Ev->Mem->Prop:=λ_ _=>False
abbrev TS3:=Ends3->Ev->Mem->Prop
abbrev TG3:=D->Ev->Mem->(Ev->Mem->Prop)->Prop
abbrev TGs3:=List D->Ev->Mem->(Ev->Mem->Prop)->Prop
def RepE(C:Cf)(I:Hp)(α:List Addr)(σ:St)(ρ:Ev):Prop:=σ.length=ρ.length/\∀(i:Nat)(d:D),ρ[i]?=some (some d)->∃v,σ[i]?=some (some v)/\Rep C I α v d
def RepE.mono(h:RepE C I α σ ρ)(s:Same I I')(p:α<+:α'):RepE C I' α' σ ρ :=
 {h.1,λi d e=>let⟨v,a,b⟩:=h.2 i d e;{v,a,b.mono s p}}
theorem RepE.set(h:RepE C I α σ ρ){v:V}{d:D}(r:Rep C I α v d)(i:Nat):RepE C I α (σ.set i (some v)) (ρ.set i (some d)):=by
 exists by rw[B1,B1];exact h.1,λj e q=>?_
 by_cases z:i=j
 .subst z
  by_cases hl:i < ρ.length
  .rw[B4 hl]at q;cases q;exists v,B4 (by rw[h.1];exact hl),r
  .rw[Bk (by rw[B1];lia)]at q;cases q
 .rw[Ft z]at q⊢;exact h.2 j e q
def Fin(C:Cf)(Z:Anc)(I:Hp)(α:List Addr)(K:K3)(Q:VK):Prop:=∀v d I' α' H' h,Same I I'->α<+:α'->Rel C Z I' α' H' h->Rep C I' α' v d->K d h->Q v H'
def Fin.on{K:K3}{v:V}{d:D}(k:Fin C Z I α K Q)(s:Same I I')(R:Rel C Z I' α H M)(r:Rep C I' α v d)(h:K d M):Q v H:=k v d I' α H M s (Jo _) R r h
def Fin.now{K:K3}{v:V}{d:D}(k:Fin C Z I α K Q)(R:Rel C Z I α H M)(r:Rep C I α v d)(h:K d M):Q v H:=k.on (.refl _) R r h
def Fin.mono{K:K3}(h:Fin C Z I α K Q)(s:Same I I')(p:α<+:α'):Fin C Z I' α' K Q:=λv d G y J M2 B p2=>h v d G y J M2 (s.trans B) (p.trans p2)
def SimE(C:Cf)(Z:Anc)(t:TE)(u:TE3):Prop:=∀I α σ H ρ M(K:K3)(Q:VK),Rel C Z I α H M->RepE C I α σ ρ->u ρ M K->Fin C Z I α K Q->t σ H Q
def SimT(C:Cf)(Z:Anc)(t:TT)(u:TT3):Prop:=∀I α σ H ρ M(K:Bool->Mem->Prop)(Q:Bool->Hp->Prop),Rel C Z I α H M->RepE C I α σ ρ->u ρ M K ->
 (∀b I' α' H' h,Same I I'->α<+:α'->Rel C Z I' α' H' h->K b h->Q b H')->t σ H Q
def SimA(C:Cf)(Z:Anc)(t:TA)(u:TA3):Prop:=∀I α σ H ρ M(K:List D->Mem->Prop)(Q:List V->Hp->Prop),Rel C Z I α H M->RepE C I α σ ρ->u ρ M K ->
 (∀vs ds I' α' H' h,Same I I'->α<+:α'->Rel C Z I' α' H' h->Reps C I' α' vs ds->K ds h->Q vs H')->t σ H Q
def SimO(C:Cf)(Z:Anc)(t:TO)(u:TO3):Prop:=∀I α σ H ρ M(K:Option Int->Mem->Prop)(Q:Option Int->Hp->Prop),Rel C Z I α H M->RepE C I α σ ρ->u ρ M K ->
 (∀b I' α' H' h,Same I I'->α<+:α'->Rel C Z I' α' H' h->K b h->Q b H')->t σ H Q
def SimR(C:Cf)(Z:Anc)(r:R2)(u:R3):Prop:=∀I α H M x y d e(K:K3)(Q:VK),Rel C Z I α H M->Rep C I α x d->Rep C I α y e->u d e M K->Fin C Z I α K Q->r x y H Q
def SimU(C:Cf)(Z:Anc)(r:V->Hp->VK->Prop)(u:D->Mem->K3->Prop):Prop:=∀I α H M x d(K:K3)(Q:VK),Rel C Z I α H M->Rep C I α x d->u d M K->Fin C Z I α K Q->r x H Q
def SimC(C:Cf)(Z:Anc)(r:List V->Hp->VK->Prop)(u:List D->Mem->K3->Prop):Prop:=∀I α H M xs ds(K:K3)(Q:VK),Rel C Z I α H M->Reps C I α xs ds->u ds M K->Fin C Z I α K Q->r xs H Q
def SimL(C:Cf)(Z:Anc)(r:V->Option Int->Option Int->Hp->VK->Prop)(u:D->Option Int->Option Int->Mem->K3->Prop):Prop:=∀I α H M x d lo hi(K:K3)(Q:VK),Rel C Z I α H M->Rep C I α x d->u d lo hi M K->Fin C Z I α K Q->r x lo hi H Q
def FinS(C:Cf)(Z:Anc)(I:Hp)(α:List Addr)(K:Ev->Mem->Prop)(Q:St->Hp->Prop):Prop:=∀I' α' h H' y B,Same I I'->α<+:α'->Rel C Z I' α' H' B->RepE C I' α' h y->K y B->Q h H'
def FinS.mono{K:Ev->Mem->Prop}{Q:St->Hp->Prop}(h:FinS C Z I α K Q)(s:Same I I')(p:α<+:α'):FinS C Z I' α' K Q:=λO G y Y B M2 J p2=>h O G y Y B M2 (s.trans J) (p.trans p2)
structure FinD(C:Cf)(Z:Anc)(I:Hp)(α:List Addr)(E:Ends3)(D':Ends):Prop where
 nx:FinS C Z I α E.nx D'.nx
 rt:Fin C Z I α E.rt D'.rt
 bk:FinS C Z I α E.bk D'.bk
 ct:FinS C Z I α E.ct D'.ct
def FinD.mono{E:Ends3}{y:Ends}(h:FinD C Z I α E y)(s:Same I I')(p:α<+:α'):FinD C Z I' α' E y:={h.nx.mono s p,h.rt.mono s p,h.bk.mono s p,h.ct.mono s p}
def SimS(C:Cf)(Z:Anc)(t:TS)(u:TS3):Prop:=∀I α σ H ρ M(E:Ends3)(h:Ends),Rel C Z I α H M->RepE C I α σ ρ->u E ρ M->FinD C Z I α E h->t h σ H
def SimG(C:Cf)(Z:Anc)(t:TG)(u:TG3):Prop:=∀I α σ H ρ M v d(K:Ev->Mem->Prop)(Q:St->Hp->Prop),Rel C Z I α H M->RepE C I α σ ρ->Rep C I α v d->u d ρ M K->FinS C Z I α K Q->t v σ H Q
def Zkv(C:Cf)(Z:Anc)(t:TGs)(u:TGs3):Prop:=∀I α σ H ρ M vs ds(K:Ev->Mem->Prop)(Q:St->Hp->Prop),Rel C Z I α H M->RepE C I α σ ρ->Reps C I α vs ds->u ds ρ M K->FinS C Z I α K Q->t vs σ H Q
section
variable{tA tB':TT}{uA uB:TT3}{t:TA}{u:TA3}
inductive uVar(i:Nat)(ρ:Ev)(M:Mem)(K:K3):Prop
 |mk:∀d,ρ[i]?=some (some d)->K d M->uVar i ρ M K
def Zr(i:Nat):SimE C Z (tVar i) (uVar i):=λI α σ H ρ M K Q R E h k=>by
 let⟨d,e,h⟩:=h;let⟨v,e2,r⟩:=E.2 i d e;exists v,e2,k v d I α H M (.refl _) (Jo _) R r h
abbrev uC(d:D):TE3:=λ_ M K=>K d M
def Jav{v:V}{d:D}(r:∀I α,Rep C I α v d):SimE C Z (tC v) (uC d):=λI α σ H ρ M K Q R E h k=>k v d I α H M (.refl _) (Jo _) R (r I α) h
def Vk{i:Int}:SimE C Z (tC (.int i)) (uC (.int i)):=Jav λ_ _=>.int i
def s_bl{i:Bool}:SimE C Z (tC (.bl i)) (uC (.bl i)):=Jav λ_ _=>.bl i
def Zp3:SimE C Z (tC .non) (uC .non):=Jav λ_ _=>.non
def s_ty{i:String}:SimE C Z (tC (.ty i)) (uC (.ty i)):=Jav λ_ _=>.ty i
abbrev Zwh(u:R3)(K:K3)(d:D):D->Mem->Prop:=λe M2=>u d e M2 K
abbrev Zwi(u:R3)(ub:TE3)(ρ:Ev)(K:K3):D->Mem->Prop:=λd M1=>ub ρ M1 (Zwh u K d)
def uOp(u:R3)(ua ub:TE3):TE3:=λρ M K=>ua ρ M (Zwi u ub ρ K)
def s_op{r:R2}{u:R3}(hr:SimR C Z r u)(ha:SimE C Z ta ua)(hb:SimE C Z tb ub):SimE C Z (tOp r ta tb) (uOp u ua ub):=λI α σ H ρ M K Q R E h k =>
 ha I α σ H ρ M _ _ R E h λv d I1 B H1 M1 J O R1 r1 h1 =>
  hb I1 B σ H1 ρ M1 _ _ R1 (E.mono J O) h1 λw e I2 y H2 M2 G p2 R2 Y h2 =>
   hr I2 y H2 M2 v w d e K Q R2 (r1.mono G p2) Y h2 (k.mono (J.trans G) (O.trans p2))
abbrev Zv9(u:D->Mem->K3->Prop)(K:K3):D->Mem->Prop:=λd M1=>u d M1 K
def uUn(u:D->Mem->K3->Prop)(ua:TE3):TE3:=λρ M K=>ua ρ M (Zv9 u K)
def s_un{r:V->Hp->VK->Prop}{u:D->Mem->K3->Prop}(O:SimU C Z r u)(Y:SimE C Z ta ua):SimE C Z (tUn r ta) (uUn u ua):=λI α σ H ρ M K Q R E h k =>
 Y I α σ H ρ M _ _ R E h λv d I1 y H1 M1 B J R1 G h1=>O I1 y H1 M1 v d K Q R1 G h1 (k.mono B J)
def D.isN:D->Bool|.non=>true|_=>false
def Zjn{v:V}{d:D}(h:Rep C I α v d):decide (v=.non)=d.isN:=by cases h<;>simp[D.isN]
abbrev Zsg(K:K3):D->Mem->Prop:=λd M1=>K (.bl d.isN) M1
def uIsN(ua:TE3):TE3:=λρ M K=>ua ρ M (Zsg K)
abbrev Zo4(K:K3):D->Mem->Prop:=λd M1=>K (.bl (!d.isN)) M1
def Zwk(ua:TE3):TE3:=λρ M K=>ua ρ M (Zo4 K)
def Zw7(O:SimE C Z ta ua):SimE C Z (tIsN ta) (uIsN ua):=λI α σ H ρ M K Q R E h k =>
 O I α σ H ρ M _ _ R E h λv d I1 y H1 M1 B J Y G h1=>by
  rw[Zjn G];exact k _ _ I1 y H1 M1 B J Y (.bl _) h1
def Zny(O:SimE C Z ta ua):SimE C Z (Zs3 ta) (Zwk ua):=λI α σ H ρ M K Q R E h k =>
 O I α σ H ρ M _ _ R E h λv d I1 y H1 M1 B J Y G h1=>by
  rw[Zjn G];exact k _ _ I1 y H1 M1 B J Y (.bl _) h1
inductive uB3_1(K:Bool->Mem->Prop)(d:D)(M1:Mem):Prop
 |mk:∀c,d=.bl c->K c M1->uB3_1 K d M1
def uB3(ua:TE3):TT3:=λρ M K=>ua ρ M (uB3_1 K)
def s_b(O:SimE C Z ta ua):SimT C Z (tB ta) (uB3 ua):=λI α σ H ρ M K Q R E h k =>
 O I α σ H ρ M _ _ R E h λv d I1 y H1 M1 B J Y G h1=>by
  let⟨c,e,h1⟩:=h1;subst e;cases G.inv;exists c,rfl,k c I1 y H1 M1 B J Y h1
def Zef(h:SimE C Z ta ua):SimT C Z (Zsz ta) (uB3 ua):=s_b h
abbrev Zsv(uB:TT3)(ρ:Ev)(K:Bool->Mem->Prop):Bool->Mem->Prop:=λc M1=>if c=true then uB ρ M1 K else K false M1
def uAnd(uA uB:TT3):TT3:=λρ M K=>uA ρ M (Zsv uB ρ K)
abbrev Zwg(uB:TT3)(ρ:Ev)(K:Bool->Mem->Prop):Bool->Mem->Prop:=λc M1=>if c=true then K true M1 else uB ρ M1 K
def uOr(uA uB:TT3):TT3:=λρ M K=>uA ρ M (Zwg uB ρ K)
abbrev Zr9(K:Bool->Mem->Prop):Bool->Mem->Prop:=λc M1=>K (!c) M1
def uNot(uA:TT3):TT3:=λρ M K=>uA ρ M (Zr9 K)
def Zxb(ha:SimT C Z tA uA)(hb:SimT C Z tB' uB):SimT C Z (tAnd tA tB') (uAnd uA uB):=λI α σ H ρ M K Q R E h k =>
 ha I α σ H ρ M _ _ R E h λc Y y H1 M1 G J O h1=>by
  cases c with
  |true =>
   exact hb Y y σ H1 ρ M1 _ _ O (E.mono G J) h1 λb I2 B H2 M2 s2 p2 R2 h2=>k b I2 B H2 M2 (G.trans s2) (J.trans p2) R2 h2
  |false =>
   exact k false Y y H1 M1 G J O h1
def s_or(ha:SimT C Z tA uA)(hb:SimT C Z tB' uB):SimT C Z (tOr tA tB') (uOr uA uB):=λI α σ H ρ M K Q R E h k =>
 ha I α σ H ρ M _ _ R E h λc Y y H1 M1 G J O h1=>by
  cases c with
  |false =>
   exact hb Y y σ H1 ρ M1 _ _ O (E.mono G J) h1 λb I2 B H2 M2 s2 p2 R2 h2=>k b I2 B H2 M2 (G.trans s2) (J.trans p2) R2 h2
  |true =>
   exact k true Y y H1 M1 G J O h1
def Zp2(J:SimT C Z tA uA):SimT C Z (tNot tA) (uNot uA):=λI α σ H ρ M K Q R E h k =>
 J I α σ H ρ M _ _ R E h λc Y y H1 M1 B G O h1=>k _ Y y H1 M1 B G O h1
inductive uOrV_1(ub:TE3)(ρ:Ev)(K:K3)(d:D)(M1:Mem):Prop
 |mk:∀c,d=.bl c->(if c=true then K (.bl true) M1 else ub ρ M1 K)->uOrV_1 ub ρ K d M1
def uOrV(ua ub:TE3):TE3:=λρ M K=>ua ρ M (uOrV_1 ub ρ K)
inductive uNotV_1(K:K3)(d:D)(M1:Mem):Prop
 |mk:∀c,d=.bl c->K (.bl (!c)) M1->uNotV_1 K d M1
def Zwj(ua:TE3):TE3:=λρ M K=>ua ρ M (uNotV_1 K)
def Zth(ha:SimE C Z ta ua)(hb:SimE C Z tb ub):SimE C Z (tOrV ta tb) (uOrV ua ub):=λI α σ H ρ M K Q R E h k =>
 ha I α σ H ρ M _ _ R E h λv d O y H1 M1 B G J Y h1=>by
  let⟨c,e,h1⟩:=h1;subst e;cases Y.inv;exists c,rfl,?_;cases c with
  |false =>
   exact hb O y σ H1 ρ M1 _ _ J (E.mono B G) h1 (k.mono B G)
  |true =>
   exact k _ _ O y H1 M1 B G J (.bl _) h1
def Znx(O:SimE C Z ta ua):SimE C Z (Zs2 ta) (Zwj ua):=λI α σ H ρ M K Q R E h k =>
 O I α σ H ρ M _ _ R E h λv d I1 y H1 M1 B J Y G h1=>by
  let⟨c,e,h1⟩:=h1;subst e;cases G.inv;exists c,rfl,k _ _ I1 y H1 M1 B J Y (.bl _) h1
abbrev Zwn(ua:TE3)(ub:TE3)(ρ:Ev)(K:K3):Bool->Mem->Prop:=λc M1=>if c=true then ua ρ M1 K else ub ρ M1 K
def uIf(uA:TT3)(ua ub:TE3):TE3:=λρ M K=>uA ρ M (Zwn ua ub ρ K)
def s_if(Y:SimT C Z tA uA)(ha:SimE C Z ta ua)(hb:SimE C Z tb ub):SimE C Z (tIf tA ta tb) (uIf uA ua ub):=λI α σ H ρ M K Q R E h k =>
 Y I α σ H ρ M _ _ R E h λc O y H1 M1 B G J h1=>by
  cases c with
  |true =>
   exact ha O y σ H1 ρ M1 _ _ J (E.mono B G) h1 (k.mono B G)
  |false =>
   exact hb O y σ H1 ρ M1 _ _ J (E.mono B G) h1 (k.mono B G)
abbrev uNil:TA3:=λ_ M K=>K [] M
abbrev Zpi(K:List D->Mem->Prop)(d:D):List D->Mem->Prop:=λds M2=>K (d::ds) M2
abbrev Zgw(u:TA3)(ρ:Ev)(K:List D->Mem->Prop):D->Mem->Prop:=λd M1=>u ρ M1 (Zpi K d)
def P5(ua:TE3)(u:TA3):TA3:=λρ M K=>ua ρ M (Zgw u ρ K)
def X4:SimA C Z tNil uNil:=λI α σ H ρ M K Q R E h k=>k [] [] I α H M (.refl _) (Jo _) R .nil h
def Ye(ha:SimE C Z ta ua)(hr:SimA C Z t u):SimA C Z (Zlj ta t) (P5 ua u):=λI α σ H ρ M K Q R E h k =>
 ha I α σ H ρ M _ _ R E h λv d I1 B H1 M1 J O R1 r1 h1 =>
  hr I1 B σ H1 ρ M1 _ _ R1 (E.mono J O) h1 λvs ds I2 y H2 M2 G p2 R2 Y h2 =>
   k (v::vs) (d::ds) I2 y H2 M2 (J.trans G) (O.trans p2) R2 (.cons (r1.mono G p2) Y) h2
abbrev Zr6(K:K3):List D->Mem->Prop:=λds M1=>ds.length<=Ca/\K (.tup ds) M1
def uTup(u:TA3):TE3:=λρ M K=>u ρ M (Zr6 K)
def Zfv(ha:SimA C Z t u):SimE C Z (tTup t) (uTup u):=λI α σ H ρ M K Q R E h k =>
 ha I α σ H ρ M _ _ R E h λvs ds I1 y H1 M1 J O R1 G h1=>by
  exists by rw[G.length];exact h1.1,λp Y=>?_;let⟨R2,B,e2⟩:=R1.new (o:=.tup vs) Y;exact k _ _ _ y _ M1 (J.trans B) O R2 (.tup e2 (G.mono B (Jo _))) h1.2
abbrev Zsf(K:K3):List D->Mem->Prop:=λds M1=>ds.length<=Ca/\K (.lst ds) M1
def uLst(u:TA3):TE3:=λρ M K=>u ρ M (Zsf K)
def Ztm(ha:SimA C Z t u):SimE C Z (tLst t) (uLst u):=λI α σ H ρ M K Q R E h k =>
 ha I α σ H ρ M _ _ R E h λvs ds I1 y H1 M1 J O R1 G h1=>by
  exists by rw[G.length];exact h1.1,λp Y=>?_;let⟨R2,B,e2⟩:=R1.new (o:=.lst vs) Y;exact k _ _ _ y _ M1 (J.trans B) O R2 (.lst e2 (G.mono B (Jo _))) h1.2
abbrev Zpc(K:K3):List D->Mem->Prop:=λds M1=>ds.length<=Ca/\K (.cell M1.length) (M1++[.lst ds])
def Zwm(u:TA3):TE3:=λρ M K=>u ρ M (Zpc K)
def Za4(Y:SimA C Z t u):SimE C Z (tLst t) (Zwm u):=λI α σ H ρ M K Q R E h k =>
 Y I α σ H ρ M _ _ R E h λvs ds I1 B H1 M1 G J R1 y h1=>by
  exists by rw[y.length];exact h1.1,λp O=>?_;let⟨R2,p2,e2⟩:=R1.cell (o:=.lst vs) (m:=.lst ds) O λH' e=>⟨vs,e,y⟩;exact k _ _ I1 _ _ _ G (J.trans p2) R2 (.cell e2) h1.2
abbrev Zsr(r:List D->Mem->K3->Prop)(K:K3):List D->Mem->Prop:=λds M1=>r ds M1 K
def uCB(r:List D->Mem->K3->Prop)(u:TA3):TE3:=λρ M K=>u ρ M (Zsr r K)
def s_cb{r:List V->Hp->VK->Prop}{B:List D->Mem->K3->Prop}(Y:SimC C Z r B)(ha:SimA C Z t u):SimE C Z (tCB r t) (uCB B u):=λI α σ H ρ M K Q R E h k =>
 ha I α σ H ρ M _ _ R E h λvs ds I1 y H1 M1 G O R1 J h1=>Y I1 y H1 M1 vs ds K Q R1 J h1 (k.mono G O)
abbrev Zo5:TO3:=λ_ M K=>K none M
inductive uPart_1(K:Option Int->Mem->Prop)(d:D)(M1:Mem):Prop
 |mk:∀i,d=.int i->K (some i) M1->uPart_1 K d M1
def Zwf(ua:TE3):TO3:=λρ M K=>ua ρ M (uPart_1 K)
def Zlp:SimO C Z Zg0 Zo5:=λI α σ H ρ M K Q R E h k=>k none I α H M (.refl _) (Jo _) R h
def Ztg(O:SimE C Z ta ua):SimO C Z (Zs1 ta) (Zwf ua):=λI α σ H ρ M K Q R E h k =>
 O I α σ H ρ M _ _ R E h λv d I1 y H1 M1 B J Y G h1=>by
  let⟨i,e,h1⟩:=h1;subst e;cases G.inv;exists i,rfl,k (some i) I1 y H1 M1 B J Y h1
abbrev Zwc(r:D->Option Int->Option Int->Mem->K3->Prop)(K:K3)(d:D)(l:Option Int):Option Int->Mem->Prop:=λg h=>r d l g h K
abbrev Zwd(r:D->Option Int->Option Int->Mem->K3->Prop)(h:TO3)(ρ:Ev)(K:K3)(d:D):Option Int->Mem->Prop:=λl M2=>h ρ M2 (Zwc r K d l)
abbrev Zwe(r:D->Option Int->Option Int->Mem->K3->Prop)(h:TO3)(y:TO3)(ρ:Ev)(K:K3):D->Mem->Prop:=λd M1=>h ρ M1 (Zwd r y ρ K d)
def uSl(r:D->Option Int->Option Int->Mem->K3->Prop)(ua:TE3)(h y:TO3):TE3:=λρ M K=>ua ρ M (Zwe r h y ρ K)
def s_sl{r:V->Option Int->Option Int->Hp->VK->Prop}{r3:D->Option Int->Option Int->Mem->K3->Prop}{tl th:TO}{ul uh:TO3}(hr:SimL C Z r r3)(ha:SimE C Z ta ua)(hl:SimO C Z tl ul)(hh:SimO C Z th uh):SimE C Z (tSl r ta tl th) (uSl r3 ua ul uh):=λI α σ H ρ M K Q R E h k =>
 ha I α σ H ρ M _ _ R E h λv d I1 G H1 M1 O Y R1 r1 h1 =>
  hl I1 G σ H1 ρ M1 _ _ R1 (E.mono O Y) h1 λlo I2 B H2 M2 J p2 R2 h2 =>
   hh I2 B σ H2 ρ M2 _ _ R2 (E.mono (O.trans J) (Y.trans p2)) h2 λhi I3 y H3 M3 s3 p3 R3 h3 =>
    hr I3 y H3 M3 v d lo hi K Q R3 (r1.mono (J.trans s3) (p2.trans p3)) h3 (k.mono (O.trans (J.trans s3)) (Y.trans (p2.trans p3)))
abbrev Zst(r:D->List D->Mem->K3->Prop)(K:K3):D->Mem->Prop:=λd M1=>r d [] M1 K
def uBM0(r:D->List D->Mem->K3->Prop)(ua:TE3):TE3:=λρ M K=>ua ρ M (Zst r K)
abbrev Zws(r:D->List D->Mem->K3->Prop)(K:K3)(d:D):List D->Mem->Prop:=λds M2=>r d ds M2 K
end
def Xx(M:Mem):D->Option (List D)
 |.lst ds=>some ds
 |.frz ds=>some ds
 |.cell k=>match M[k]? with|some (.lst ds)=>some ds|_=>none
 |_=>none
def lsOf(M:Mem):D->Option (List D)
 |.lst ds=>some ds
 |.cell k=>match M[k]? with|some (.lst ds)=>some ds|_=>none
 |_=>none
def Zpm:D->Option (List D)
 |.tup ds=>some ds
 |_=>none
def Za3(M:Mem):D->Option (List D)
 |.tup ds=>some ds
 |d=>Xx M d
section
variable{v:V}{d:D} 
def Ui(R:Rel C Z I α H M){k:Nat}{a:Addr}(e:α[k]?=some a)(h:M[k]?=some (.lst ds)):∃vs,H a=some (.lst vs)/\Reps C I α vs ds:=(R.cel k a _ e h).1
def nos{b:τ}{P:Prop}(h:none=some b):P:=nomatch h
theorem Zrq{k:Nat}(h:lsOf M (.cell k)=some ds):M[k]?=some (.lst ds):=by
 revert h
 show(match M[k]? with|some (.lst ds)=>some ds|_=>none)=some ds->_;cases M[k]? with
 |none=>exact nos
 |some m=>cases m<;>first|exact nos|exact λh=>by cases h;rfl
def Qa(R:Rel C Z I α H M)(r:Rep C I α v d)(h:lsOf M d=some ds):∃a vs,v=.ref a/\H a=some (.lst vs)/\Reps C I α vs ds:=by
 cases d<;>first|exact nos h|skip
 .let⟨a,vs,e,f,r⟩:=r.inv;cases h;exists a,vs,e,R.sub _ _ f,r
 .let⟨a,e,f⟩:=r.inv;let⟨vs,e1,r⟩:=Ui R f (Zrq h);exists a,vs,e,e1,r
def Uo(R:Rel C Z I α H M)(r:Rep C I α v d)(h:Xx M d=some ds):∃a vs,v=.ref a/\SqL C.k H a vs/\Reps C I α vs ds:=by
 let y:lsOf M d=some ds->∃a vs,v=.ref a/\SqL C.k H a vs/\Reps C I α vs ds:=λh=>by
  let⟨a,vs,e,f,r⟩:=Qa R r h;exists a,vs,e,SqL.of f,r
 cases d<;>first|exact nos h|exact y h|skip;let⟨a,vs,e,f,r⟩:=r.inv;cases h;exact{a,vs,e,R.sub.seq f,r}
def Ul(R:Rel C Z I α H M)(r:Rep C I α v d)(h:Zpm d=some ds):∃a vs,v=.ref a/\H a=some (.tup vs)/\I a=some (.tup vs)/\Reps C I α vs ds:=by
 cases d<;>first|exact nos h|skip;let⟨a,vs,e,f,r⟩:=r.inv;cases h;exact{a,vs,e,R.sub _ _ f,f,r}
def Zhh(R:Rel C Z I α H M)(r:Rep C I α v d)(h:Za3 M d=some ds):∃a vs,v=.ref a/\(SqL C.k H a vs\/SqT C.k H a vs)/\Reps C I α vs ds:=by
 let y:Xx M d=some ds->∃a vs,v=.ref a/\(SqL C.k H a vs\/SqT C.k H a vs)/\Reps C I α vs ds:=λh=>by
  let⟨a,vs,e,f,r⟩:=Uo R r h;exists a,vs,e,.inl f,r
 cases d<;>first|exact y h|skip;let⟨a,vs,e,f,_,r⟩:=Ul R r h;exact{a,vs,e,.inr (SqT.of f),r}
end
def cut(xs:List τ)(lo hi:Option Int):List τ:=(xs.drop (HT.sIx xs.length 0 lo)).take (HT.sIx xs.length xs.length hi-HT.sIx xs.length 0 lo)
theorem Reps.cut(r:Reps C I α vs ds)(lo hi:Option Int):Reps C I α (cutV vs lo hi) (cut ds lo hi):=by
 unfold cutV L3.cut;rw[r.length];exact(r.drop _).take _
def U7(f:τ->υ)(xs:List τ)(lo hi:Option Int):cut (xs.map f) lo hi=(cut xs lo hi).map f:=by
 unfold cut;rw[Ja,Di,Dp]
theorem Reps.atI{i:Int}{d:D}(r:Reps C I α vs ds)(h:atI ds i=some d):∃v,L2.atI vs i=some v/\Rep C I α v d:=by
 unfold L2.atI at h⊢;rw[r.length];cases e:ixN ds.length i with
 |none=>rw[e]at h;cases h
 |some j =>
  rw[e]at h;exact r.get (i:=j) h
section
def OpR.or{f:Cb->Cb->Sem Cb}{r J:R2}(h:OpR X f r)(h':OpR X f J):OpR X f (λx y H Q=>r x y H Q\/J x y H Q):=by
 intro pz s σ H x y v u Q I G B q;rcases q with q|q
 .exact h pz s σ H x y v u Q I G B q
 .exact h' pz s σ H x y v u Q I G B q
def SlR.or{r J:V->Option Int->Option Int->Hp->VK->Prop}(h:SlR X r)(h':SlR X J):SlR X (λx l u H Q=>r x l u H Q\/J x l u H Q):=by
 intro pz s σ H x v B y lo hi sl Q I G hs pl O q;rcases q with q|q
 .exact h pz s σ H x v B y lo hi sl Q I G hs pl O q
 .exact h' pz s σ H x v B y lo hi sl Q I G hs pl O q
def Zqb:R2:=λx y H Q=>∃i j,x=.str i/\y=.str j/\i.length+j.length<=Ca/\Q (.str (i++j)) H
def Zqe(K:Cq):R2:=λx y H Q=>rI0 (λi j=>.int (i+j)) x y H Q\/Zqb x y H Q\/rCat x y H Q\/Zqd K x y H Q
def Yp(h:X.K=K'):OpR X (Hk .Add) (Zqe K'):=by
 subst h;exact OpR.or Vt (OpR.or Zfz (OpR.or Zir Ziq))
def add3:R3:=λd e M K=>match d,e with
 |.int i,.int j=>K (.int (i+j)) M
 |.str a,.str b=>a.length+b.length<=Ca/\K (.str (a++b)) M
 |.tup xs,.tup ys=>(xs≠[]/\xs.length+ys.length<=Ca)/\K (.tup (xs++ys)) M
 |d,e=>∃xs ys,lsOf M d=some xs/\lsOf M e=some ys/\xs.length+ys.length<=Ca/\K (.lst (xs++ys)) M
def Zrv{x:V}{d e:D}{K:K3}(R:Rel C Z I α H M)(O:Rep C I α x d)(J:Rep C I α y e)(h:∃xs ys,lsOf M d=some xs/\lsOf M e=some ys/\xs.length+ys.length<=Ca/\K (.lst (xs++ys)) M)(k:Fin C Z I α K Q):Zqe C.k x y H Q:=by
 let⟨xs,ys,e1,e2,hl,h⟩:=h;let⟨a,vs,rfl,ea,G⟩:=Qa R O e1;let⟨b,ws,rfl,eb,rb⟩:=Qa R J e2;refine .inr (.inr (.inl {a,b,vs,ws,rfl,rfl,ea,eb,by rw[G.length,rb.length];exact hl,λp Y=>?_}));let⟨R2,B,e2⟩:=R.new (o:=.lst (vs++ws)) Y;exact k.on B R2 (.lst e2 ((G.app rb).mono B (Jo _))) h
theorem Zhx:SimR C Z (Zqe C.k) add3:=λI α H M x y d e K Q R B G h k=>by
 let J:=λh=>Zrv R B G h k;cases d with
 |int i =>
  cases e with
  |int j=>cases B.inv;cases G.inv;exact .inl {i,j,rfl,rfl,k.now R (.int _) h}
  |_=>exact J h
 |str a =>
  cases e with
  |str b=>cases B.inv;cases G.inv;exact .inr (.inl {a,b,rfl,rfl,h.1,k.now R (.str _) h.2})
  |_=>exact J h
 |tup xs =>
  cases e with
  |tup ys =>
   let⟨⟨h1,h2⟩,h⟩:=h;let⟨a,vs,rfl,ea,ia,O⟩:=Ul R B rfl;let⟨b,ws,rfl,eb,ib,rb⟩:=Ul R G rfl;refine .inr (.inr (.inr {a,b,vs,ws,rfl,rfl,SqT.of ea,SqT.of eb,λz=>?_,by rw[O.length,rb.length];exact h2,λz=>?_,λ_ p hp=>?_}))
   .subst z;exact h1 O.nilI
   .subst z;cases rb.nilI;rw[Gg]at h;exact k.now R B h
   .let⟨R2,Y,e2⟩:=R.new (o:=.tup (vs++ws)) hp;exact k.on Y R2 (.tup e2 ((O.app rb).mono Y (Jo _))) h
  |_=>exact J h
 |_=>exact J h
inductive int3(c:Int->Int->Prop)(g:Int->Int->D)(d:D)(e:D)(M:Mem)(K:K3):Prop
 |mk:∀i j,d=.int i->e=.int j->c i j->K (g i j) M->int3 c g d e M K
inductive int30(g:Int->Int->D)(d:D)(e:D)(M:Mem)(K:K3):Prop
 |mk:∀i j,d=.int i->e=.int j->K (g i j) M->int30 g d e M K
def Jaf{c:Int->Int->Prop}{g:Int->Int->V}{B:Int->Int->D}(O:∀I α i j,Rep C I α (g i j) (B i j)):SimR C Z (rI c g) (int3 c B):=λI α H M x y d e K Q R J G h k=>by
 let⟨i,j,rfl,rfl,Y,h⟩:=h;cases J.inv;cases G.inv;exists i,j,rfl,rfl,Y,k.now R (O _ _ _ _) h
def Zlo{g:Int->Int->V}{B:Int->Int->D}(O:∀I α i j,Rep C I α (g i j) (B i j)):SimR C Z (rI0 g) (int30 B):=λI α H M x y d e K Q R J G h k=>by
 let⟨i,j,rfl,rfl,h⟩:=h;cases J.inv;cases G.inv;exists i,j,rfl,rfl,k.now R (O _ _ _ _) h
def Zwy:SimR C Z (rI0 λi j=>.int (i-j)) (int30 λi j=>.int (i-j)):=Zlo λ_ _ _ _=>.int _
def Zw4:SimR C Z (rI (λ_ j=>0<j) λi j=>.int (i % j)) (int3 (λ_ j=>0<j) λi j=>.int (i % j)):=Jaf λ_ _ _ _=>.int _
def Zw1:SimR C Z (rI CPow λi j=>.int (i ^ j.toNat)) (int3 CPow λi j=>.int (i ^ j.toNat)):=Jaf λ_ _ _ _=>.int _
def s_lt:SimR C Z (rI0 λi j=>.bl (decide (i<j))) (int30 λi j=>.bl (decide (i<j))):=Zlo λ_ _ _ _=>.bl _
def s_le:SimR C Z (rI0 λi j=>.bl (decide (i<=j))) (int30 λi j=>.bl (decide (i<=j))):=Zlo λ_ _ _ _=>.bl _
def s_gt:SimR C Z (rI0 λi j=>.bl (decide (j<i))) (int30 λi j=>.bl (decide (j<i))):=Zlo λ_ _ _ _=>.bl _
inductive neg3(d:D)(M:Mem)(K:K3):Prop
 |mk:∀i,d=.int i->K (.int (-i)) M->neg3 d M K
def Zw3:SimU C Z (rU λi=>.int (-i)) neg3:=λI α H M x d K Q R r h k=>by
 let⟨i,rfl,h⟩:=h;cases r.inv;exists i,rfl,k.now R (.int _) h
def Zqc:R2:=λx y H Q=>rI CMul (λi j=>.int (i*j)) x y H Q\/rRep x y H Q
def Zd5:OpR X (Hk .Mult) Zqc:=OpR.or Ra Zue
def mul3:R3:=λd e M K=>match d,e with
 |.int i,.int j=>CMul i j/\K (.int (i*j)) M
 |d,e=>∃xs k,lsOf M d=some xs/\e=.int k/\(-(2 ^ 63)<=k/\k<2 ^ 63/\xs.length*k.toNat<=Ca)/\K (.lst (Cp k.toNat xs).flatten) M
theorem Reps.rep(r:Reps C I α vs ds):∀n,Reps C I α (Cp n vs).flatten (Cp n ds).flatten
 |0=>.nil
 |n+1=>by
  rw[Bj,Bj,Bn,Bn];exact r.app (Reps.rep r n)
theorem Ztj:SimR C Z Zqc mul3:=λI α H M x y d e K Q R O J h k=>by
 let Y:(∃xs k,lsOf M d=some xs/\e=.int k/\(-(2 ^ 63)<=k/\k<2 ^ 63/\xs.length*k.toNat<=Ca)/\K (.lst (Cp k.toNat xs).flatten) M)->Zqc x y H Q:=λh=>by
  let⟨xs,j,e1,rfl,⟨h1,h2,h3⟩,h⟩:=h;cases J.inv;let⟨a,vs,rfl,ea,G⟩:=Qa R O e1;refine .inr {a,j,vs,rfl,rfl,ea,h1,h2,by rw[G.length];exact h3,λp hp=>?_};let⟨R2,B,e2⟩:=R.new (o:=.lst (Cp j.toNat vs).flatten) hp;exact k.on B R2 (.lst e2 ((G.rep _).mono B (Jo _))) h
 cases d with
 |int i =>
  cases e with
  |int j=>cases O.inv;cases J.inv;exact .inl {i,j,rfl,rfl,h.1,k.now R (.int _) h.2}
  |_=>exact Y h
 |_=>exact Y h
def Yl(h:X.K=K'):IxR X (rIx K'):=by subst h;exact Zuz
def ix3:R3:=λd e M K=>match d with
 |.str z=>∃i c,e=.int i/\z.length<=Ca/\L2.atI z.cps.toList i=some c/\K (.str {#[c]}) M
 |d=>∃xs i v,Za3 M d=some xs/\e=.int i/\L2.atI xs i=some v/\K v M
def s_ix:SimR C Z (rIx C.k) ix3:=λI α H M x y d e K Q R J G h k=>by
 let go:(∃xs i v,Za3 M d=some xs/\e=.int i/\L2.atI xs i=some v/\K v M)->rIx C.k x y H Q:=λh=>by
  let⟨xs,i,w,e1,rfl,e3,hk⟩:=h;let⟨a,vs,e,B,ra⟩:=Zhh R J e1;let⟨v,O,Y⟩:=ra.atI e3;let q:=k.now R Y hk;exact B.elim (λB=>.inl {a,vs,i,v,e,G.inv,B,O,q}) λB=>.inr (.inl {a,vs,i,v,e,G.inv,B,O,q})
 cases d<;>first|exact go h|skip;let⟨i,c,rfl,h1,h2,h⟩:=h;exact .inr (.inr {_,i,c,J.inv,G.inv,h1,h2,k.now R (.str _) h})
def rSlU(K:Cq):V->Option Int->Option Int->Hp->VK->Prop:=λx l u H Q=>rSlL K x l u H Q\/rSlW K x l u H Q\/rSlS x l u H Q
def P4(h:X.K=K'):SlR X (rSlU K'):=by subst h;exact SlR.or Uv (SlR.or Zcm Ztb)
def sl3:D->Option Int->Option Int->Mem->K3->Prop:=λd lo hi M K=>match d with
 |.str z=>z.length<=Ca/\K (.str (Txt.slice z lo hi)) M
 |.tup xs=>K (.tup (cut xs lo hi)) M
 |d=>∃xs,Xx M d=some xs/\K (.lst (cut xs lo hi)) M
theorem Reps.inj_cut(r:Reps C I α vs ds)(h:cutV vs lo hi=vs):L3.cut ds lo hi=ds:=by
 let hl:(cutV vs lo hi).length=vs.length:=by rw[h]
 unfold cutV at hl;rw[Jz,Ga]at hl;unfold L3.cut;rw[r.length]at hl;generalize HT.sIx ds.length 0 lo=a at *
 generalize HT.sIx ds.length ds.length hi=b at *
 by_cases hd:ds.length=0
 .rw[G9.mp hd];simp
 .let:a=0:=by lia
  subst this;rw[Dl,Gk];lia
theorem Zwz:SimL C Z (rSlU C.k) sl3:=λI α H M x d lo hi K Q R G h k=>by
 let Y:(∃xs,Xx M d=some xs/\K (.lst (cut xs lo hi)) M)->rSlU C.k x lo hi H Q:=λh=>by
  let⟨xs,e1,h⟩:=h;let⟨a,vs,rfl,O,B⟩:=Uo R G e1;refine .inl {a,vs,rfl,O,λp J=>?_};let⟨R2,y,e2⟩:=R.new (o:=.lst (cutV vs lo hi)) J;exact k.on y R2 (.lst e2 ((B.cut lo hi).mono y (Jo _))) h
 cases d with
 |str z=>cases G.inv;exact .inr (.inr {z,rfl,h.1,k.now R (.str _) h.2})
 |tup xs =>
  let⟨a,vs,rfl,O,ia,B⟩:=Ul R G rfl;refine .inr (.inl {a,vs,rfl,SqT.of O,λz=>?_,λp J=>?_})
  .let h2:K (.tup (cut xs lo hi)) M:=h;rw[B.inj_cut z]at h2;exact k.now R G h2
  .let⟨R2,y,e2⟩:=R.new (o:=.tup (cutV vs lo hi)) J;exact k.on y R2 (.tup e2 ((B.cut lo hi).mono y (Jo _))) h
 |_=>exact Y h
end
mutual
inductive PyR(M:Mem):D->PyData->Prop where
 |non:PyR M .non .none
 |bl (b:Bool):PyR M (.bl b) (.bool b)
 |int (i:Int):PyR M (.int i) (.int i)
 |str (x:Str):PyR M (.str x) (.str x)
 |seq {d:D} {ds:List D} {ps:List PyData}:Xx M d=some ds->PyRs M ds ps->PyR M d (.list ps)
 |tup {ds:List D} {ps:List PyData}:PyRs M ds ps->PyR M (.tup ds) (.tuple ps)
inductive PyRs(M:Mem):List D->List PyData->Prop where
 |nil:PyRs M [] []
 |cons {d:D} {p:PyData} {ds:List D} {ps:List PyData}:PyR M d p->PyRs M ds ps->PyRs M (d::ds) (p::ps)
end
section
mutual
theorem Zid(R:Rel C Z I α H M):∀{v:V}{d:D}{p:PyData},PyR M d p->Rep C I α v d->DV C.k H v p:=by
 intro _ _ _ y r;cases y with
 |non=>
  exact by cases r.inv;exact .non
 |bl b=>
  exact by cases r.inv;exact .bl b
 |int b=>
  exact by cases r.inv;exact .int b
 |str b=>
  exact by cases r.inv;exact .str b
 |seq e q=>
  exact by
    let⟨a,vs,rfl,B,h⟩:=Uo R r e;exact .lst B (pys_dv R q h)
 |tup q=>
  exact by
    let⟨a,vs,rfl,B,_,h⟩:=Ul R r rfl;exact .tup (SqT.of B) (pys_dv R q h)
theorem pys_dv(R:Rel C Z I α H M):∀{vs:List V}{ds:List D}{ps:List PyData},PyRs M ds ps->Reps C I α vs ds->DVs C.k H vs ps:=by
 intro _ _ _ h r;cases h with
 |nil=>
  exact by cases r.inv;exact .nil
 |cons a b=>
  exact by
    cases r with
    |cons B y=>exact .cons (Zid R a B) (pys_dv R b y)
end
end
def eqS:D->D->Option Bool
 |.non,.non=>some true|.non,.int _=>some false|.int _,.non=>some false|.non,.bl _=>some false|.bl _,.non=>some false|.non,.str _=>some false|.str _,.non=>some false
 |.int i,.int j=>some (decide (i=j))|.bl i,.bl j=>some (decide (i=j))|.str i,.str j=>some (decide (i=j))
 |.int _,.str _=>some false|.str _,.int _=>some false|.bl _,.str _=>some false|.str _,.bl _=>some false
 |_,_=>none
def eqV(d e:D)(M:Mem)(K:Bool->Prop):Prop:=(∃b,eqS d e=some b/\K b)\/∃p q,PyR M d p/\PyR M e q/\Hy p=true/\Hy q=true/\K (Eo p q)
def eq3:R3:=λd e M K=>eqV d e M λb=>K (.bl b) M
def ne3:R3:=λd e M K=>eqV d e M λb=>K (.bl (!b)) M
section
def rEqU(K:Cq):R2:=λx y H Q=>rEq x y H Q\/rEqD K x y H Q
def rNeU(K:Cq):R2:=λx y H Q=>rNe x y H Q\/rNeD K x y H Q
def Zay(h:X.K=K')(y:X.A.units+64<Er):OpR X (Ep .Eq) (rEqU K'):=by subst h;exact OpR.or Zmc (Zeu y)
def Zfo(h:X.K=K')(y:X.A.units+64<Er):OpR X (Ep .NotEq) (rNeU K'):=by subst h;exact OpR.or Zxe (Zuf y)
def scl:D->Option V
 |.non=>some .non|.bl b=>some (.bl b)|.int i=>some (.int i)|.str x=>some (.str x)
 |_=>none
def Zhk{v x:V}{d:D}(r:Rep C I α v d)(h:scl d=some x):v=x:=by
 cases d<;>first|exact nos h|exact(show v=_ from r.inv).trans (Jaa h)
def SclE(d e:D)(b:Bool):Prop:=∃x y,scl d=some x/\scl e=some y/\scal x y=true/\decide (x=y)=b
def Zu9{d e:D}{x:V}{b:Bool}(h1:scl d=some x)(h2:scl e=some y)(h3:scal x y=true)(hn:x≠y)(h:some false=some b):SclE d e b:={x,y,h1,h2,h3,by rw[D9 hn];exact Jaa h}
def Zrk{d e:D}{b:Bool}(h:eqS d e=some b):SclE d e b:=by
 cases d<;>first|exact nos h|(cases e<;>first|exact nos h|exact Zu9 rfl rfl rfl nofun h|exact{_,_,rfl,rfl,rfl,Eq.trans (by simp) (Jaa h)})
def Zj0{x:V}{d e:D}{b:Bool}(G:Rep C I α x d)(B:Rep C I α y e)(h:eqS d e=some b):scal x y=true/\decide (x=y)=b:=by
 let⟨u,v,e1,e2,h⟩:=Zrk h;rw[Zhk G e1,Zhk B e2];exact h
def s_eq:SimR C Z (rEqU C.k) eq3:=λI α H M x y d e K Q R G B h k=>by
 rcases h with⟨b,Y,h⟩|⟨p,q,h1,h2,h3,h4,h⟩
 .let⟨O,J⟩:=Zj0 G B Y;exact .inl {O,by rw[J];exact k.now R (.bl _) h}
 .exact .inr {p,q,Zid R h1 G,Zid R h2 B,h3,h4,k.now R (.bl _) h}
def s_ne:SimR C Z (rNeU C.k) ne3:=λI α H M x y d e K Q R G B h k=>by
 rcases h with⟨b,Y,h⟩|⟨p,q,h1,h2,h3,h4,h⟩
 .let⟨O,J⟩:=Zj0 G B Y;exact .inl {O,by rw[J];exact k.now R (.bl _) h}
 .exact .inr {p,q,Zid R h1 G,Zid R h2 B,h3,h4,k.now R (.bl _) h}
end
structure Enc(τ:Type)[DecidableEq τ] where
 e:τ->D
 py:τ->PyData
 n:Nat
 ok:∀M a,PyR M (e a) (py a)
 shp:∀a,Shp n (py a)
 eq:∀a b,Eo (py a) (py b)=decide (a=b)
 hn:n<=60
theorem Zdc[DecidableEq τ]{f:τ->PyData}(h:∀a b,Eo (f a) (f b)=decide (a=b)):∀(a b:List τ),C7 (a.map f) (b.map f)=decide (a=b)
 |[],[]=>by simp[C7]
 |[],_::_=>by simp[C7]
 |_::_,[]=>by simp[C7]
 |a::r,b::t=>by
  rw[Jl,Jl,C7,h,Zdc h r t];simp
theorem Ry{e:τ->D}{y:τ->PyData}(h:∀a,PyR M (e a) (y a)):∀as:List τ,PyRs M (as.map e) (as.map y)
 |[]=>.nil
 |a::r=>.cons (h a) (Ry h r)
def W3:Enc Int:={.int,.int,0,λ_=>.int,Ng,λa b=>by rw[Eo,Jb7],nofun}
def Px[DecidableEq τ](E:Enc τ)(h:E.n<=50:=by decide):Enc (List τ) where
 e as:=.lst (as.map E.e)
 py as:=.list (as.map E.py)
 n:=E.n+1
 ok:=λM as=>.seq rfl (Ry (E.ok M) as)
 shp:=λas=>Zed λd hd=>by
  let⟨a,_,rfl⟩:=Jk.mp hd;exact E.shp a
 eq:=λa b=>by rw[Eo,Zdc E.eq]
 hn:=by lia
def Zoj[DecidableEq τ](E:Enc τ)(h:E.n<=50:=by decide):Enc (List τ) where
 e as:=.tup (as.map E.e)
 py as:=.tuple (as.map E.py)
 n:=E.n+1
 ok:=λM as=>.tup (Ry (E.ok M) as)
 shp:=λas=>Rt λd hd=>by
  let⟨a,_,rfl⟩:=Jk.mp hd;exact E.shp a
 eq:=λa b=>by rw[Eo,Zdc E.eq]
 hn:=by lia
def Znv{n m:Nat}{d:PyData}(h:Shp n d)(l:n<=m):Shp m d:={h.1,Jx h.2 l}
def Zva[DecidableEq τ][DecidableEq υ](E:Enc τ)(F:Enc υ)(h:E.n<=50:=by decide)(h':F.n<=50:=by decide):Enc (τ×υ) where
 e p:=.tup [E.e p.1,F.e p.2]
 py p:=.tuple [E.py p.1,F.py p.2]
 n:=max E.n F.n+1
 ok:=λM p=>.tup (.cons (E.ok M _) (.cons (F.ok M _) .nil))
 shp:=λp=>Rt λd hd=>by
  rcases J9.mp hd with z|hd
  .rw[z];exact Znv (E.shp _) (Nat.le_max_left _ _)
  .rw[Je.mp hd];exact Znv (F.shp _) (Nat.le_max_right _ _)
 eq:=λa b=>by
  let⟨J,G⟩:=a;let⟨B,y⟩:=b;rw[Eo,C7,C7,C7,E.eq,F.eq];simp
 hn:=by lia
theorem Vc[DecidableEq τ](E:Enc τ){a b:τ}{K:Bool->Prop}(h:K (decide (a=b))):eqV (E.e a) (E.e b) M K :=
 .inr {_,_,E.ok M a,E.ok M b,(E.shp a).shaped (by have:=E.hn;lia),(E.shp b).shaped (by have:=E.hn;lia),by rw[E.eq];exact h}
theorem Zam[DecidableEq τ](E:Enc τ){d d':D}{a b:List τ}{K:Bool->Prop}(h1:Xx M d=some (a.map E.e))(h2:Xx M d'=some (b.map E.e))(h:K (decide (a=b)))(hn:E.n<=50:=by decide):eqV d d' M K :=
 .inr {_,_,.seq h1 (Ry (E.ok M) a),.seq h2 (Ry (E.ok M) b),((Px E hn).shp a).shaped (by have:=(Px E hn).hn;lia),((Px E hn).shp b).shaped (by have:=(Px E hn).hn;lia),by
  let:=(Px E hn).eq a b;rw[show Eo (Jhi (a.map E.py)) (Jhi (b.map E.py))=decide (a=b)from this];exact h}
inductive Ty3 where
 |non|bool|int|str|list|tuple|dict
 deriving DecidableEq
def tyN:Ty3->String
 |.non=>"NoneType" |.bool=>"bool" |.int=>"int" |.str=>"str" |.list=>"list" |.tuple=>"tuple" |.dict=>"dict"
def tyOf(M:Mem):D->Option Ty3
 |.non=>some .non|.bl _=>some .bool|.int _=>some .int|.str _=>some .str|.lst _=>some .list|.tup _=>some .tuple|.dct _=>some .dict|.dcT _=>some .dict
 |.cell k=>match M[k]? with|some (.lst _)=>some .list|some (.dct _)=>some .dict|some (.dcT _)=>some .dict|_=>none
 |_=>none
def isS:Ty3->Ty3->Bool
 |.bool,.int=>true
 |a,b=>decide (a=b)
section
theorem Zq8(s t:Ty3)(h:t≠.non):Jgp C.k (.type (tyN s)) (.type (tyN t))=some (isS s t):=by
 cases t with
 |non=>exact Dx rfl h
 |_=>cases s<;>rfl
theorem Zsw{v:V}{d:D}{s:Ty3}(R:Rel C Z I α H M)(r:Rep C I α v d)(h:tyOf M d=some s):TyOf C.k H v (.type (tyN s)):=by
 let i:=r.inv;cases d<;>first|exact nos h|skip
 all_goals first|(cases h;let⟨_,_,rfl,e,_⟩:=i;let e:=R.sub _ _ e;first|exact .lst e|exact .tup e|exact .dK e|exact .dT e)|(cases h;cases i;first|exact .non|exact .bl _|exact .int _|exact .str _)|skip
 rename_i k
 let⟨a,rfl,e⟩:=i;let y:∀m,M[k]?=some m->MoAt C I α H a m:=λm B=>(R.cel k a _ e B).1
 revert h y
 show(match M[k]? with|some (.lst _)=>some Ty3.list|some (.dct _)=>some .dict|some (.dcT _)=>some .dict|_=>none)=some s->_;cases M[k]? with
 |none=>exact nos
 |some m =>
  intro h y;let g:=y m rfl;cases m<;>first|exact nos h|(cases h;let⟨vs,e,_⟩:=g;first|exact .lst e|exact .dK e|exact .dT e)
inductive isi3(T:Ty3)(ds:List D)(M:Mem)(K:K3):Prop
 |mk:∀d s,ds=[d,.ty (tyN T)]->tyOf M d=some s->K (.bl (isS s T)) M->isi3 T ds M K
def Zls{T:Ty3}(G:T≠.non:=by decide):SimC C Z (rIsi C.k) (isi3 T):=λI α H M xs ds K Q R r h k=>by
 let⟨d,s,rfl,e,h⟩:=h;refine Reps.e2 r λ_ _ B y=>?_;cases y.inv;exists _,_,_,·,Zsw R B e,Zq8 s T G,k.now R (.bl _) h
def len3:List D->Mem->K3->Prop:=λds M K=>match ds with
 |[.str z]=>z.length<=Ca/\K (.int z.length) M
 |[d]=>∃xs,Za3 M d=some xs/\K (.int xs.length) M
 |_=>False
theorem Zp4:SimC C Z (rLen C.k) len3:=λI α H M xs ds K Q R r h k=>by
 let G:∀d v,Rep C I α v d->(∃xs,Za3 M d=some xs/\K (.int xs.length) M)->rLen C.k [v] H Q:=λd v r h=>by
  let⟨ys,e1,h⟩:=h;let⟨a,vs,e,J,B⟩:=Zhh R r e1;rw[<-B.length]at h;exists _,·,e ▸ J.elim (λz=>.inl {_,z,rfl}) λz=>.inr {_,z,rfl},k.now R (.int _) h
 match ds,h with
 |[],h=>exact h.elim
 |[d],h =>
  refine Reps.e1 r λv y=>?_;cases d<;>first|exact G _ _ y h|skip;exact{_,_,rfl,y.inv ▸ {h.1,rfl},k.now R (.int _) h.2}
 |d::_::_,h=>cases d<;>exact h.elim
inductive list3(ds:List D)(M:Mem)(K:K3):Prop
 |mk:∀d xs,ds=[d]->Za3 M d=some xs->K (.lst xs) M->list3 ds M K
def Znz:SimC C Z (Zib C.k) list3:=λI α H M xs ds K Q R r h k=>by
 let⟨d,ys,rfl,e,h⟩:=h;refine Reps.e1 r λ_ G=>?_;let⟨a,vs,rfl,O,B⟩:=Zhh R G e;exists a,vs,rfl,O,λp J=>?_;let⟨R2,y,e2⟩:=R.new (o:=.lst vs) J;exact k.on y R2 (.lst e2 (B.mono y (Jo _))) h
inductive two3(f:Int->Int->D)(ds:List D)(M:Mem)(K:K3):Prop
 |mk:∀i j,ds=[.int i,.int j]->K (f i j) M->two3 f ds M K
def Ztl:SimC C Z (λxs H Q=>∃i j,xs=[.int i,.int j]/\Q (.int (if j > i then j else i)) H) (two3 λi j=>.int (if j > i then j else i)):=λI α H M xs ds K Q R r h k=>by
 let⟨i,j,rfl,h⟩:=h;refine Reps.e2 r λ_ _ B y=>?_;cases B.inv;cases y.inv;exists i,j,rfl,k.now R (.int _) h
def Ztk:SimC C Z (λxs H Q=>∃i j,xs=[.int i,.int j]/\Q (.int (if j<i then j else i)) H) (two3 λi j=>.int (if j<i then j else i)):=λI α H M xs ds K Q R r h k=>by
 let⟨i,j,rfl,h⟩:=h;refine Reps.e2 r λ_ _ B y=>?_;cases B.inv;cases y.inv;exists i,j,rfl,k.now R (.int _) h
theorem Reps.of_bls :∀{vs:List V}(bs:List Bool),Reps C I α vs (bs.map D.bl)->vs=bs.map V.bl
 |_,[],h=>h.inv
 |_,n::r,h=>by
  let⟨_,_,rfl,a,b⟩:=h.inv;rw[Reps.of_bls r b,a.inv];rfl
inductive any3(ds:List D)(M:Mem)(K:K3):Prop
 |mk:∀(d:D)(bs:List Bool),ds=[d]->Xx M d=some (bs.map D.bl)->K (.bl (bs.any id)) M->any3 ds M K
def Ztr:SimC C Z (λxs H Q=>∃(p:Addr)(bs:List Bool),xs=[.ref p]/\SqL C.k H p (bs.map V.bl)/\Q (.bl (bs.any id)) H) any3:=λI α H M xs ds K Q R r h k=>by
 let⟨d,bs,rfl,e,h⟩:=h;refine Reps.e1 r λ_ G=>?_;let⟨a,vs,rfl,y,B⟩:=Uo R G e;rw[B.of_bls bs]at y;exists a,bs,rfl,y,k.now R (.bl _) h
def Rel.putL(R:Rel C Z I α H M){k:Nat}{a:Addr}(h:α[k]?=some a)(r:Reps C I α vs ds):Rel C Z I α (upd H a (.lst vs)) (M.set k (.lst ds)) :=
 R.put (m:=.lst ds) h λH' e=>⟨vs,e,r⟩
def P6{a:Addr}(e:H a=some (.lst vs)):tyV C.k "list" (.ref a) H:=.inl {rfl,vs,SqL.of e}
inductive app3(d:D)(ds:List D)(M:Mem)(K:K3):Prop
 |mk:∀k xs y,d=.cell k->ds=[y]->M[k]?=some (.lst xs)->xs.length<Ca->K .non (M.set k (.lst (xs++[y])))->app3 d ds M K
inductive ext3(d:D)(ds:List D)(M:Mem)(K:K3):Prop
 |mk:∀k e xs ys,d=.cell k->ds=[e]->M[k]?=some (.lst xs)->lsOf M e=some ys->xs.length+ys.length<=Ca->K .non (M.set k (.lst (xs++ys)))->ext3 d ds M K
inductive extT3(d:D)(ds:List D)(M:Mem)(K:K3):Prop
 |mk:∀k ys xs,d=.cell k->ds=[.tup ys]->M[k]?=some (.lst xs)->xs.length+ys.length<=Ca->K .non (M.set k (.lst (xs++ys)))->extT3 d ds M K
inductive pop3(d:D)(ds:List D)(M:Mem)(K:K3):Prop
 |mk:∀k xs y,d=.cell k->ds=[]->M[k]?=some (.lst xs)->xs[xs.length-1]?=some y->K y (M.set k (.lst xs.dropLast))->pop3 d ds M K
def Reps.dropLast(r:Reps C I α vs ds):Reps C I α vs.dropLast ds.dropLast:=by
 rw[List.dropLast_eq_take,List.dropLast_eq_take,r.length];exact r.take _
variable{uo:TE3}{t:TA}{u:TA3}
abbrev Zss(r:D->List D->Mem->K3->Prop)(u:TA3)(ρ:Ev)(K:K3):D->Mem->Prop:=λd M1=>lsOf M1 d≠none/\u ρ M1 (Zws r K d)
def uBML(r:D->List D->Mem->K3->Prop)(uo:TE3)(u:TA3):TE3:=λρ M K=>uo ρ M (Zss r u ρ K)
def Zlv(ho:SimE C Z to uo)(ha:SimA C Z t u):SimE C Z (tBM C.k "list" Zcs to t) (uBML app3 uo u):=λI α σ H ρ M K Q R E h k =>
 ho I α σ H ρ M _ _ R E h λv d I1 G H1 M1 O p1 R1 r1 h1=>by
  let⟨hn,h1⟩:=h1;cases hl:lsOf M1 d with
  |none=>exact Dx hl hn
  |some zs =>
   let⟨a,vs,rfl,ea,ra⟩:=Qa R1 r1 hl;exists P6 ea,ha I1 G σ H1 ρ M1 _ _ R1 (E.mono O p1) h1 λws ds I2 B H2 M2 J p2 R2 r2 h2=>?_;let⟨j,xs,y,rfl,rfl,e1,hz,h2⟩:=h2;refine Reps.e1 r2 λ_ ry=>?_;let ec:=(r1.mono J p2).cellI;let⟨us,eu,Y⟩:=Ui R2 ec e1;exists a,us,·,rfl,eu,by rw[Y.length];exact hz,?_;exact k _ _ I2 B _ _ (O.trans J) (p1.trans p2) (R2.putL ec (Y.app (.one ry))) .non h2
def Zlu(ho:SimE C Z to uo)(ha:SimA C Z t u):SimE C Z (tBM C.k "list" Zic to t) (uBML ext3 uo u):=λI α σ H ρ M K Q R E h k =>
 ho I α σ H ρ M _ _ R E h λv d I1 B H1 M1 J p1 R1 Y h1=>by
  let⟨hn,h1⟩:=h1;cases hl:lsOf M1 d with
  |none=>exact Dx hl hn
  |some zs =>
   let⟨a,vs,rfl,ea,ra⟩:=Qa R1 Y hl;exists P6 ea,ha I1 B σ H1 ρ M1 _ _ R1 (E.mono J p1) h1 λws ds I2 y H2 M2 G p2 R2 r2 h2=>?_;let⟨j,e,xs,ys,rfl,rfl,e1,e2,hz,h2⟩:=h2;refine Reps.e1 r2 λ_ ry=>?_;let⟨b,bs,rfl,eb,rb⟩:=Qa R2 ry e2;let ec:=(Y.mono G p2).cellI;let⟨us,eu,O⟩:=Ui R2 ec e1;exists a,b,us,bs,rfl,rfl,eu,eb,by rw[O.length,rb.length];exact hz,?_;exact k _ _ I2 y _ _ (J.trans G) (p1.trans p2) (R2.putL ec (O.app rb)) .non h2
def Zhq(ho:SimE C Z to uo)(ha:SimA C Z t u):SimE C Z (tBM C.k "list" Zem to t) (uBML extT3 uo u):=λI α σ H ρ M K Q R E h k =>
 ho I α σ H ρ M _ _ R E h λv d I1 B H1 M1 J p1 R1 Y h1=>by
  let⟨hn,h1⟩:=h1;cases hl:lsOf M1 d with
  |none=>exact Dx hl hn
  |some zs =>
   let⟨a,vs,rfl,ea,ra⟩:=Qa R1 Y hl;exists P6 ea,ha I1 B σ H1 ρ M1 _ _ R1 (E.mono J p1) h1 λws ds I2 y H2 M2 G p2 R2 r2 h2=>?_;let⟨j,ys,xs,rfl,rfl,e1,hz,h2⟩:=h2;refine Reps.e1 r2 λ_ ry=>?_;let⟨b,bs,rfl,eb,_,rb⟩:=Ul R2 ry rfl;let ec:=(Y.mono G p2).cellI;let⟨us,eu,O⟩:=Ui R2 ec e1;exists a,b,us,bs,rfl,rfl,eu,eb,by rw[O.length,rb.length];exact hz,?_;exact k _ _ I2 y _ _ (J.trans G) (p1.trans p2) (R2.putL ec (O.app rb)) .non h2
def Zw2(ho:SimE C Z to uo):SimE C Z (tBM0 C.k "list" rPop to) (uBM0 pop3 uo):=λI α σ H ρ M K Q R E h k =>
 ho I α σ H ρ M _ _ R E h λv d I1 B H1 M1 s1 p1 R1 r1 h1=>by
  let⟨j,xs,y,rfl,_,e1,e2,h1⟩:=h1;let⟨a,rfl,Y⟩:=r1.inv;let⟨us,O,J⟩:=Ui R1 Y e1;let⟨w,ew,G⟩:=J.get e2;exists P6 O,a,us,w,rfl,rfl,O,by rw[J.length];exact ew,k _ _ I1 B _ _ s1 p1 (R1.putL Y (J.dropLast)) G h1
end
def Yb(n:Nat)(d:D):Prop:=∀C I α v,Rep C I α v d->Rep C I (α.take n) v d
def Y8(n:Nat)(m:MO):Prop:=∀C I α H a,MoAt C I α H a m->MoAt C I (α.take n) H a m
inductive BelowE(n:Nat):Ev->Ev->Prop where
 |nil:BelowE n [] []
 |skip {o:Option D} {r r':Ev}:BelowE n r r'->BelowE n (o::r) (none::r')
 |keep {d:D} {r r':Ev}:Yb n d->BelowE n r r'->BelowE n (some d::r) (some d::r')
inductive BelS(n:Nat):Ev->Ev->Ev->Prop where
 |nil:BelS n [] [] []
 |skip {o0 o:Option D} {r0 r r':Ev}:BelS n r0 r r'->BelS n (o0::r0) (o::r) (none::r')
 |same {d:D} {r0 r r':Ev}:BelS n r0 r r'->BelS n (some d::r0) (some d::r) (some d::r')
 |keep {o0:Option D} {d:D} {r0 r r':Ev}:Yb n d->BelS n r0 r r'->BelS n (o0::r0) (some d::r) (some d::r')
def Dr(B:Ev)(y:Mem)(P:Ev->Mem->Prop)(ρ:Ev)(M:Mem):Prop:=P ρ M\/(∃h,(∃X,M=y++X)/\BelS y.length B ρ h/\P h y)\/∃n h,y.length<=n/\BelowE n ρ h/\(∀m∈M.take n,Y8 n m)/\P h (M.take n)
def Dk(h:Nat)(K:K3):K3:=λd M=>K d M\/∃n,h<=n/\Yb n d/\(∀m∈M.take n,Y8 n m)/\K d (M.take n)
section
theorem BelowE.rep{n:Nat}{y:Ev}(b:BelowE n ρ y):∀{σ:St},RepE C I α σ ρ->RepE C I (α.take n) σ y:=by
 induction b with
 |nil=>exact λh=>{h.1,λi d e=>by simp at e}
 | @skip o r r' b ih =>
  intro σ h;cases σ with
  |nil=>cases h.1
  |cons s σ =>
   let h':RepE C I α σ r:={by simpa using h.1,λi d e=>by
    let⟨v,a,b⟩:=h.2 (i+1) d (by simpa using e);exact⟨v,by simpa using a,b⟩}
   let⟨l,g⟩:=ih h';exists by rw[Jy,Jy,l],λi d e=>?_;cases i with
   |zero=>simp at e
   |succ i =>
    let⟨v,a,b⟩:=g i d (by simpa using e);exists v,by simpa using a,b
 | @keep d0 r r' hb b ih =>
  intro σ h;cases σ with
  |nil=>cases h.1
  |cons s σ =>
   let h':RepE C I α σ r:={by simpa using h.1,λi d e=>by
    let⟨v,a,b⟩:=h.2 (i+1) d (by simpa using e);exact⟨v,by simpa using a,b⟩}
   let⟨l,g⟩:=ih h';exists by rw[Jy,Jy,l],λi d e=>?_;cases i with
   |zero =>
    let⟨v,a,b⟩:=h.2 0 d e;simp at e;subst e;exists v,a,hb _ _ _ _ b
   |succ i =>
    let⟨v,a,b⟩:=g i d (by simpa using e);exists v,by simpa using a,b
def Tw{y:List Addr}(p:y<+:α){n:Nat}(h:y.length<=n):y<+:α.take n:=by
 let⟨t,rfl⟩:=p;rw[List.take_append,Gk h];exact Go _ _
def Rel.take(R:Rel C Z I α H M)(n:Nat)(hz:Z.a.length<=n)(B:∀m∈M.take n,Y8 n m):Rel C Z I (α.take n) H (M.take n):=by
 refine{R.ai,Tw R.aa hz,R.sub,by rw[Jz,Jz,R.len],R.nd.sublist (B5 _ _),λk a m h1 h2=>?_};let y:α[k]?=some a:=by
  rw[Dq]at h1
  split at h1
  .exact h1
  .cases h1
 let h:M[k]?=some m:=by
  rw[Dq]at h2
  split at h2
  .exact h2
  .cases h2
 let⟨J,G⟩:=R.cel k a m y h;exists B m (G1 h2) _ _ _ _ _ J,G
theorem Fin.dk{K:K3}(k:Fin C Z I α K Q){y:Nat}(hn:α.length=y)(G:Z.a<+:α):Fin C Z I α (Dk y K) Q:=λv d I' α' H' B s p R r h=>by
 rcases h with h|⟨n,hl,hb,hm,h⟩
 .exact k v d I' α' H' B s p R r h
 .exact k v d I' (α'.take n) H' (B.take n) s (Tw p ()) (R.take n (by have:=G.length_le;lia) hm) (hb _ _ _ _ r) h
end
def Xo{n:Nat}{i:Int}:Yb n (.int i):=λ_ _ _ _ r=>by cases r.inv;exact .int _
def Zm5{n:Nat}{i:Bool}:Yb n (.bl i):=λ_ _ _ _ r=>by cases r.inv;exact .bl _
def Zko{n:Nat}{i:Str}:Yb n (.str i):=λ_ _ _ _ r=>by cases r.inv;exact .str _
def Q1{n:Nat}:Yb n .non:=λ_ _ _ _ r=>by cases r.inv;exact .non
def Zgh{n:Nat} :Yb n (.code S):=λ_ _ _ _ r=>by cases r with|code h=>exact .code h
def P1{n k:Nat}(h:k<n):Yb n (.cell k):=λ_ _ α _ r=>by
 let⟨_,rfl,e⟩:=r.inv;exact .cell (by rw[Dq,D7 h];exact e)
theorem Sd{n:Nat}(h:∀d∈ds,Yb n d) :∀{vs:List V},Reps C I α vs ds->Reps C I (α.take n) vs ds:=by
 induction ds with
 |nil=>intro vs r;cases r.inv;exact .nil
 |cons d ds y =>
  intro vs r;cases r with
  |cons a b=>exact .cons (h d Jh _ _ _ _ a) (y (λx hx=>h x (Jf _ hx)) b)
def V2{n:Nat}(h:∀d∈ds,Yb n d):Yb n (.lst ds):=λ_ _ _ _ r=>by cases r with|lst e r=>exact .lst e (Sd h r)
def Zkq{n:Nat}(h:∀d∈ds,Yb n d):Yb n (.frz ds):=λ_ _ _ _ r=>by cases r with|frz e r=>exact .frz e (Sd h r)
def Q0{n:Nat}(h:∀d∈ds,Yb n d):Yb n (.tup ds):=λ_ _ _ _ r=>by cases r with|tup e r=>exact .tup e (Sd h r)
def Zb8{n:Nat}{ks:List NI}:Yb n (.nst ks):=λ_ _ _ _ r=>by cases r with|nst e=>exact .nst e
def Zkp{n:Nat}{x:List Int}:Yb n (.itp x):=λ_ _ _ _ r=>by cases r with|itp e=>exact .itp e
def X1{n:Nat}{f:τ->D}(h:∀a,Yb n (f a))(as:List τ):∀d∈as.map f,Yb n d:=λd hd=>by
 let⟨a,_,rfl⟩:=Jk.mp hd;exact h a
def Q2{n:Nat}:∀d∈([]:List D),Yb n d:=λ_ h=>nomatch h
def X7{n:Nat}{d:D}(h:Yb n d)(r:∀d∈ds,Yb n d):∀x∈d::ds,Yb n x:=λx hx=>by
 rcases J9.mp hx with z|z
 .rw[z];exact h
 .exact r x z
def Zrs{n:Nat}:Y8 n .hand:=λ_ _ _ _ _ h=>h
def Zvl{n:Nat}{P:Addr}{p:Pos}{q:Str}:Y8 n (.tab P p q):=λ_ _ _ _ _ h=>h
def Zb3{n:Nat}(h:∀d∈ds,Yb n d):Y8 n (.lst ds):=λ_ _ _ _ _ x=>by
 let⟨vs,e,r⟩:=x;exists vs,e,Sd h r
def WfM(M:Mem):Prop:=∀m∈M,Y8 M.length m
theorem T9{n:Nat}{kvs:List (Key×D)}(h:∀kv∈kvs,Yb n kv.2) :∀{vs:List (Key×V)},RepK C I α vs kvs->RepK C I (α.take n) vs kvs:=by
 induction kvs with
 |nil=>intro vs r;cases r;exact .nil
 |cons d ds y =>
  intro vs r;cases r with
  |cons a b=>exact .cons (h _ Jh _ _ _ _ a) (y (λx hx=>h x (Jf _ hx)) b)
theorem Sc{n:Nat}{kvs:List (List Key×D)}(h:∀kv∈kvs,Yb n kv.2) :∀{vs:List (List Key×V)},RepT C I α vs kvs->RepT C I (α.take n) vs kvs:=by
 induction kvs with
 |nil=>intro vs r;cases r;exact .nil
 |cons d ds y =>
  intro vs r;cases r with
  |cons a b=>exact .cons (h _ Jh _ _ _ _ a) (y (λx hx=>h x (Jf _ hx)) b)
theorem Zkr{n:Nat}{kvs:List (Str×D)}(h:∀kv∈kvs,Yb n kv.2) :∀{vs:List (Str×V)},RepF C I α vs kvs->RepF C I (α.take n) vs kvs:=by
 induction kvs with
 |nil=>intro vs r;cases r;exact .nil
 |cons d ds y =>
  intro vs r;cases r with
  |cons a b=>exact .cons (h _ Jh _ _ _ _ a) (y (λx hx=>h x (Jf _ hx)) b)
mutual
theorem Rep.bel{C:Cf}{I:Hp}{α:List Addr}:∀{v:V}{d:D},Rep C I α v d->Yb α.length d:=by
 intro _ _ h;cases h with
 |non=>exact Q1
 |bl b=>exact Zm5
 |int i=>exact Xo
 |str x=>exact Zko
 |ty n=>exact λ_ _ _ _ r=>by cases r.inv;exact .ty _
 |«at» a=>exact λ_ _ _ _ r=>by cases r.inv;exact .at _
 |tup e r=>exact Q0 (Reps.bel r)
 |lst e r=>exact V2 (Reps.bel r)
 |frz e r=>exact Zkq (Reps.bel r)
 |dct e r=>exact λ_ _ _ _ q=>by cases q with|dct e q=>exact .dct e (T9 (RepK.bel r) q)
 |dcT e r=>exact λ_ _ _ _ q=>by cases q with|dcT e q=>exact .dcT e (Sc (RepT.bel r) q)
 |code h=>exact Zgh
 |cell e=>exact P1 (Jg.mp e).1
 |exc e f r=>exact λ_ _ _ _ q=>by cases q with|exc e f q=>exact .exc e f (Zkr (RepF.bel r) q)
 |nst e=>exact Zb8
 |itp e=>exact Zkp
theorem Reps.bel{C:Cf}{I:Hp}{α:List Addr}:∀{vs:List V}{ds:List D},Reps C I α vs ds->∀d∈ds,Yb α.length d:=by
 intro _ _ h;cases h with
 |nil=>exact Q2
 |cons h r=>exact X7 (Rep.bel h) (Reps.bel r)
theorem RepK.bel{C:Cf}{I:Hp}{α:List Addr}:∀{vs:List (Key×V)}{ds:List (Key×D)},RepK C I α vs ds->∀y∈ds,Yb α.length y.2:=by
 intro _ _ h;cases h with
 |nil=>exact λ_ h=>nomatch h
 |cons h r =>
  exact λy B=>by
   rcases J9.mp B with z|z
   .rw[z];exact Rep.bel h
   .exact RepK.bel r y z
theorem RepF.bel{C:Cf}{I:Hp}{α:List Addr}:∀{vs:List (Str×V)}{ds:List (Str×D)},RepF C I α vs ds->∀y∈ds,Yb α.length y.2:=by
 intro _ _ h;cases h with
 |nil=>exact λ_ h=>nomatch h
 |cons h r =>
  exact λy B=>by
   rcases J9.mp B with z|z
   .rw[z];exact Rep.bel h
   .exact RepF.bel r y z
theorem RepT.bel{C:Cf}{I:Hp}{α:List Addr}:∀{vs:List (List Key×V)}{ds:List (List Key×D)},RepT C I α vs ds->∀y∈ds,Yb α.length y.2:=by
 intro _ _ h;cases h with
 |nil=>exact λ_ h=>nomatch h
 |cons h r =>
  exact λy B=>by
   rcases J9.mp B with z|z
   .rw[z];exact Rep.bel h
   .exact RepT.bel r y z
end
def Zvr{n:Nat}{ds:List (Key×D)}(h:∀d∈ds,Yb n d.2):Y8 n (.dct ds):=λ_ _ _ _ _ x=>by
 let⟨vs,e,r⟩:=x;exists vs,e,T9 h r
def Zvs{n:Nat}{ds:List (List Key×D)}(h:∀d∈ds,Yb n d.2):Y8 n (.dcT ds):=λ_ _ _ _ _ x=>by
 let⟨vs,e,r⟩:=x;exists vs,e,Sc h r
def Zvo{n:Nat}{ds:List (Key×D)}(h:∀d∈ds,Yb n d.2):Y8 n (.drK ds):=λ_ _ _ _ _ x=>by
 let⟨vs,e,r⟩:=x;exists vs,e,T9 h r
def Zvn{n:Nat}{ds:List (List Key×D)}(h:∀d∈ds,Yb n d.2):Y8 n (.drT ds):=λ_ _ _ _ _ x=>by
 let⟨vs,e,r⟩:=x;exists vs,e,Sc h r
def Zvp{n:Nat}{o:Obj}{vs:List (List Key×V)}{ds:List (List Key×D)}(h:∀d∈ds,Yb n d.2):Y8 n (.dfT o vs ds):=λ_ _ _ _ _ x=>{x.1,Sc h x.2}
def Zvq{n:Nat}{o:Obj}{vs:List (Key×V)}{ds:List (Key×D)}(h:∀d∈ds,Yb n d.2):Y8 n (.dfK o vs ds):=λ_ _ _ _ _ x=>{x.1,T9 h x.2}
theorem RepN.bel{vs:List Nkv}{ds:List (List NI×D)}(r:RepN C I α vs ds):∀y∈ds,Yb α.length y.2:=by
 induction r with
 |nil=>exact λ_ h=>nomatch h
 |cons h r B=>exact λy G=>(J9.mp G).elim (λz=>by rw[z];exact h.2.bel) (B y)
theorem Zb9{n:Nat}{kvs:List (List NI×D)}(h:∀kv∈kvs,Yb n kv.2){vs:List Nkv}(r:RepN C I α vs kvs):RepN C I (α.take n) vs kvs:=by
 induction r with
 |nil=>exact .nil
 |cons a b y=>exact .cons {a.1,h _ Jh _ _ _ _ a.2} (y λx hx=>h x (Jf _ hx))
theorem Zkn{n:Nat}{sh:List Nat}{z:Option (Obj×List Nkv)}{ds:List (List NI×D)}(h:∀d∈ds,Yb n d.2):Y8 n (.dcN sh z ds):=λ_ _ _ _ _ x=>by
 cases z with
 |none=>obtain⟨vs,e,k,r⟩:=x;exists vs,e,k,Zb9 h r
 |some z=>exact{x.1,x.2.1,Zb9 h x.2.2}
theorem Zvm{n:Nat}{Cl:Addr}{fs:List (Str×D)}(h:∀d∈fs,Yb n d.2):Y8 n (.ins Cl fs):=λC I α H a x=>by
 let⟨dx,vs,e,r⟩:=x;exists dx,vs,e,?_;clear e
 induction fs generalizing vs with
 |nil=>cases r;exact .nil
 |cons d ds y =>
  cases r with
  |cons a b=>exact .cons {a.1,h _ Jh _ _ _ _ a.2} (y (λx hx=>h x (Jf _ hx)) _ b)
def Y8.up{n m:Nat}{x:MO}(h:Y8 n x)(l:n<=m):Y8 m x:=λC I α H a r=>(h C I α H a r).mono (.refl _) (by rw[<-Fq l,<-List.take_take];exact F3 _ _) rfl
theorem MoAt.bel{a:Addr}(h:MoAt C I α H a m):Y8 α.length m:=by
 cases m with
 |lst ds=>obtain⟨vs,e,r⟩:=h;exact Zb3 r.bel
 |dct ds=>obtain⟨vs,e,r⟩:=h;exact Zvr r.bel
 |dcT ds=>obtain⟨vs,e,r⟩:=h;exact Zvs r.bel
 |drK ds=>obtain⟨vs,e,r⟩:=h;exact Zvo r.bel
 |drT ds=>obtain⟨vs,e,r⟩:=h;exact Zvn r.bel
 |dfT o vs ds=>exact Zvp h.2.bel
 |dfK o vs ds=>exact Zvq h.2.bel
 |ins Cl fs =>
  let⟨dx,vs,e,r⟩:=h;refine Zvm λG y=>?_;clear e
  induction r with
  |nil=>cases y
  |cons a b B =>
   rcases J9.mp y with z|z
   .rw[z];exact a.2.bel
   .exact B z
 |hand=>exact Zrs
 |tab P pos q=>exact Zvl
 |dcN sh z ds=>cases z with|none=>obtain⟨vs,e,k,r⟩:=h;exact Zkn r.bel|some z=>exact Zkn h.2.2.bel
def Rel.wf(R:Rel C Z I α H M):WfM M:=λm B=>by
 let⟨k,y,rfl⟩:=Gh B;let h:k < α.length:=by rw[R.len];exact y
 let:=(R.cel k _ _ (Jb h) (Jb y)).1.bel;rwa [R.len]at this
theorem BelS.belowE{n:Nat}{y B:Ev}(b:BelS n y ρ B):(∀(i:Nat)(d:D),y[i]?=some (some d)->Yb n d)->BelowE n ρ B:=by
 induction b with
 |nil=>exact λ_=>.nil
 |skip _ G=>exact λh=>.skip (G λi d e=>h (i+1) d (by simpa using e))
 |same _ G=>exact λh=>.keep (h 0 _ rfl) (G λi d e=>h (i+1) d (by simpa using e))
 |keep J _ G=>exact λh=>.keep J (G λi d e=>h (i+1) d (by simpa using e))
theorem Dr.out{I0:Hp}{B:List Addr}{H0:Hp}{G:Mem}{P:Ev->Mem->Prop}{O:St}{J:Ev}(h:Dr J G P ρ M)(R0:Rel C Z I0 B H0 G)(E0:RepE C I0 B O J)(p:B<+:α)(R:Rel C Z I α H M)(E:RepE C I α σ ρ) :
  ∃α' y M',B<+:α'/\Rel C Z I α' H M'/\RepE C I α' σ y/\P y M':=by
 rcases h with h|⟨y,⟨X,rfl⟩,hb,h⟩|⟨n,y,hl,hb,hm,h⟩
 .exists α,ρ,M,p,R,E,h
 .let Y:=hb.belowE λi d e=>by
   let⟨v,_,r⟩:=E0.2 i d e;let:=r.bel;rwa [R0.len]at this
  let et:(G++X).take G.length=G:=B8 ..;let R1:=R.take G.length (by rw[<-R0.len];exact R0.aa.length_le) (by rw[et];exact R0.wf);rw[et]at R1;exists α.take G.length,y,G,Tw p (by rw[R0.len];exact Ji _),R1,Y.rep E,h
 .exists α.take n,y,M.take n,Tw p (by rw[R0.len];lia),R.take n (by have:=R0.aa.length_le;let:=R0.len;lia) hm,hb.rep E,h
section
variable{t t':TS}{u u':TS3}{ue:TE3}{tc:TT}{uc:TT3}{g:TG}{ug:TG3}{gs:TGs}{ugs:TGs3}
def uSeq(u u':TS3):TS3:=λE ρ M=>u {E with nx:=u' E} ρ M
def Zw(h1:SimS C Z t u)(h2:SimS C Z t' u'):SimS C Z (tSeq t t') (uSeq u u'):=λI α σ H ρ M E O R Y h F =>
 h1 I α σ H ρ M {E with nx:=u' E} {O with nx:=t' O} R Y h {λI1 G y H1 B M1 s p R1 J h1=>h2 I1 G y H1 B M1 E O R1 J h1 (F.mono s p),F.rt,F.bk,F.ct}
abbrev Zwl:TS3:=λE ρ M=>E.nx ρ M
def W0:SimS C Z Zs4 Zwl:=λI α σ H ρ M E B R y h F=>F.nx I α σ H ρ M (.refl _) (Jo _) R y h
abbrev Zpe(E:Ends3)(ρ:Ev):D->Mem->Prop:=λ_x0 M1=>E.nx ρ M1
def Zwp(ue:TE3):TS3:=λE ρ M=>ue ρ M (Zpe E ρ)
def Zhr(G:SimE C Z te ue):SimS C Z (Zs7 te) (Zwp ue):=λI α σ H ρ M E Y R B h F =>
 G I α σ H ρ M _ _ R B h λv d O y H1 M1 s p J r h1=>F.nx O y σ H1 ρ M1 s p J (B.mono s p) h1
def uRet(ue:TE3):TS3:=λE ρ M=>ue ρ M E.rt
def Wn(y:SimE C Z te ue):SimS C Z (tRet te) (uRet ue):=λI α σ H ρ M E G R B h F=>y I α σ H ρ M _ _ R B h F.rt
abbrev Zsh(u:TS3)(u':TS3)(E:Ends3)(ρ:Ev):Bool->Mem->Prop:=λb M1=>if b=true then u E ρ M1 else u' E ρ M1
def uIfS(c:TT3)(u u':TS3):TS3:=λE ρ M=>c ρ M (Zsh u u' E ρ)
def Uw(Y:SimT C Z tc uc)(h1:SimS C Z t u)(h2:SimS C Z t' u'):SimS C Z (tIfS tc t t') (uIfS uc u u'):=λI α σ H ρ M E O R B h F =>
 Y I α σ H ρ M _ _ R B h λb J y H1 M1 s p G h3=>by
  cases b with
  |true =>
   exact h1 J y σ H1 ρ M1 E O G (B.mono s p) h3 (F.mono s p)
  |false =>
   exact h2 J y σ H1 ρ M1 E O G (B.mono s p) h3 (F.mono s p)
abbrev Zsu(ug:TG3)(E:Ends3)(ρ:Ev):D->Mem->Prop:=λd M1=>ug d ρ M1 E.nx
def uAsg(ue:TE3)(ug:TG3):TS3:=λE ρ M=>ue ρ M (Zsu ug E ρ)
def Y7(J:SimE C Z te ue)(G:SimG C Z g ug):SimS C Z (tAsg te g) (uAsg ue ug):=λI α σ H ρ M E D' R B h F =>
 J I α σ H ρ M _ _ R B h λv d Y y H1 M1 s p O r h1=>G Y y σ H1 ρ M1 v d _ _ O (B.mono s p) r h1 (F.nx.mono s p)
abbrev uG(i:Nat):TG3:=λd ρ M K=>K (ρ.set i (some d)) M
def s_g(i:Nat):SimG C Z (Zdb i) (uG i):=λI α σ H ρ M v d K Q R y r h k=>k I α _ H _ M (.refl _) (Jo _) R (y.set r i) h
abbrev Zsj:TGs3:=λds ρ M K=>ds=[]/\K ρ M
abbrev Zlc(ugs:TGs3)(r:List D)(K:Ev->Mem->Prop):Ev->Mem->Prop:=λh y=>ugs r h y K
inductive uGCons(ug:TG3)(ugs:TGs3)(ds:List D)(ρ:Ev)(M:Mem)(K:Ev->Mem->Prop):Prop
 |mk:∀d r,ds=d::r->ug d ρ M (Zlc ugs r K)->uGCons ug ugs ds ρ M K
def Ztp:Zkv C Z gNil Zsj:=λI α σ H ρ M vs ds K Q R y r h k=>by
 let⟨rfl,h⟩:=h;cases r.inv;exists rfl,k I α σ H ρ M (.refl _) (Jo _) R y h
theorem Zp7(h1:SimG C Z g ug)(h2:Zkv C Z gs ugs):Zkv C Z (Zrg g gs) (uGCons ug ugs):=λI α σ H ρ M vs ds K Q R O r h k=>by
 let⟨d,r',rfl,h⟩:=h;cases r with
 |cons a b=>exact{_,_,rfl,h1 I α σ H ρ M _ d _ _ R O a h λI1 G y H1 B M1 s p Y J h3=>h2 I1 G y H1 B M1 _ _ _ _ Y J (b.mono s p) h3 (k.mono s p)}
inductive uGTup(n:Nat)(ugs:TGs3)(d:D)(ρ:Ev)(M:Mem)(K:Ev->Mem->Prop):Prop
 |mk:∀ds,Zpm d=some ds->ds.length=n->ugs ds ρ M K->uGTup n ugs d ρ M K
def Zto{n:Nat}(h:Zkv C Z gs ugs):SimG C Z (gTup C.k n gs) (uGTup n ugs):=λI α σ H ρ M v d K Q R J r y k=>by
 let⟨ds,e,hl,y⟩:=y;let⟨a,vs,rfl,G,_,B⟩:=Ul R r e;exists a,vs,rfl,SqT.of G,by rw[B.length];exact hl,h I α σ H ρ M vs ds K Q R J B y k
inductive uGSub_2(d:D)(ρ:Ev)(K:Ev->Mem->Prop)(o:D)(i:D)(M2:Mem):Prop
 |mk:∀k xs z j,o=.cell k->i=.int z->M2[k]?=some (.lst xs)->ixN xs.length z=some j->K ρ (M2.set k (.lst (xs.set j d)))->uGSub_2 d ρ K o i M2
abbrev Zpd(ui:TE3)(d:D)(ρ:Ev)(K:Ev->Mem->Prop):D->Mem->Prop:=λo M1=>ui ρ M1 (uGSub_2 d ρ K o)
def Zsi(uo ui:TE3):TG3:=λd ρ M K=>uo ρ M (Zpd ui d ρ K)
def Zhp{Y:TE}{uo ui:TE3}(ho:SimE C Z to uo)(hi:SimE C Z Y ui):SimG C Z (gSub to Y Zt1) (Zsi uo ui):=λI α σ H ρ M v d K Q R O r hh k =>
 ho I α σ H ρ M _ _ R O hh λov o I1 J H1 M1 y B R1 r1 h1=>hi I1 J σ H1 ρ M1 _ _ R1 (O.mono y B) h1 λiv i I2 G H2 M2 h p2 R2 r2 h2=>by
  let⟨kk,xs,z,j,rfl,rfl,e1,e2,h2⟩:=h2;cases r2.inv;let⟨_,rfl,ec⟩:=(r1.mono h p2).inv;let⟨us,eu,ru⟩:=Ui R2 ec e1;exists _,us,z,j,rfl,rfl,eu,by rw[ru.length];exact e2,?_;exact k I2 G σ _ ρ _ (y.trans h) (B.trans p2) (R2.putL ec (ru.set (r.mono (y.trans h) (B.trans p2)) j)) (O.mono (y.trans h) (B.trans p2)) h2
inductive uAug_1(i:Nat)(f:Int->Int->Int)(E:Ends3)(ρ:Ev)(x:Int)(d:D)(M1:Mem):Prop
 |mk:∀y,d=.int y->E.nx (ρ.set i (some (.int (f x y)))) M1->uAug_1 i f E ρ x d M1
inductive uAug(i:Nat)(ue:TE3)(f:Int->Int->Int)(E:Ends3)(ρ:Ev)(M:Mem):Prop
 |mk:∀x,ρ[i]?=some (some (.int x))->ue ρ M (uAug_1 i f E ρ x)->uAug i ue f E ρ M
def Zhv{i:Nat}{f:Int->Int->Int}(J:SimE C Z te ue):SimS C Z (tAug i te (ipI f)) (uAug i ue f):=λI α σ H ρ M E D' R G h F=>by
 let⟨x,e,h⟩:=h;let⟨v,e2,r⟩:=G.2 i _ e;cases r.inv;exists _,e2,J I α σ H ρ M _ _ R G h λv d Y B H1 M1 s p O r h1=>?_;let⟨y,rfl,h1⟩:=h1;cases r.inv;exists x,y,rfl,rfl,F.nx Y B _ H1 _ M1 s p O ((G.mono s p).set (.int _) i) h1
abbrev Zd6(P:Nat->Ev->Mem->Prop)(ρ:Ev)(M:Mem)(m:Nat):Ev->Mem->Prop:=λh B=>∃y,y<m/\Dr ρ M (P y) h B
abbrev Zk5(E:Ends3)(P:Nat->Ev->Mem->Prop)(ρ:Ev)(M:Mem)(m:Nat):Ends3:={E with nx:=Zd6 P ρ M m,ct:=Zd6 P ρ M m,bk:=E.nx}
abbrev Zk6(u:TS3)(E:Ends3)(ρ:Ev)(M:Mem)(P:Nat->Ev->Mem->Prop)(m:Nat)(h:Ev):Bool->Mem->Prop:=λb M2=>if b=true then u (Zk5 E P ρ M m) h M2 else E.nx h M2
inductive uWhile(uc:TT3)(u:TS3)(E:Ends3)(ρ:Ev)(M:Mem):Prop
 |mk:∀P:Nat->Ev->Mem->Prop,(∃m,P m ρ M)->(∀m ρ1 M1,P m ρ1 M1->uc ρ1 M1 (Zk6 u E ρ M P m ρ1))->uWhile uc u E ρ M
theorem Zhl(hc:SimT C Z tc uc)(hb:SimS C Z t u):SimS C Z (Znf tc t) (uWhile uc u):=λI α σ H ρ M E D' R RE h F=>by
 let⟨P,⟨m0,h0⟩,hs⟩:=h;let a7:=R.len;exists λm J H1=>∃G B y M1,Same I G/\α<+:B/\Rel C Z G B H1 M1/\RepE C G B J y/\P m y M1,{m0,I,α,ρ,M,.refl _,Jo _,R,RE,h0},?_;rintro m J H1 ⟨G,B,y,M1,s1,p1,R1,a1,h1⟩;refine hc G B J H1 y M1 _ _ R1 a1 (hs m y M1 h1) λb I2 a0 H2 M2 s2 p2 R2 h2=>?_;cases b with
 |false =>
  exact F.nx I2 a0 J H2 y M2 (s1.trans s2) (p1.trans p2) R2 (a1.mono s2 p2) h2
 |true =>
  refine{λY H'=>∃O,O<m/\∃G B y M1,Same I G/\α<+:B/\Rel C Z G B H' M1/\RepE C G B Y y/\P O y M1,λY H' h=>h,?_};let nx:FinS C Z I2 a0 (λa3 M'=>∃O,O<m/\Dr ρ M (P O) a3 M') (λY H'=>∃O,O<m/\∃G B y M1,Same I G/\α<+:B/\Rel C Z G B H' M1/\RepE C G B Y y/\P O y M1):=λI3 b2 a8 H3 b1 M3 s3 p3 R3 a6 h3=>by
   let⟨O,hm,h3⟩:=h3;let⟨a4,a2,M4,p4,R4,a5,h4⟩:=h3.out R RE (p1.trans (p2.trans p3)) R3 a6;exists O,hm,I3,a4,a2,M4,s1.trans (s2.trans s3),p4,R4,a5,h4
  exact hb I2 a0 J H2 y M2 _ _ R2 (a1.mono s2 p2) h2 {nx,F.rt.mono (s1.trans s2) (p1.trans p2),F.nx.mono (s1.trans s2) (p1.trans p2),nx}
structure It3 where
 n:Nat
 item:Nat->D->Prop
 ok:Mem->Prop
abbrev TI3:=Ev->Mem->(It3->Mem->Prop)->Prop
def ItR(C:Cf)(Z:Anc)(I:Hp)(α:List Addr)(J:It)(j:It3):Prop:=∀I' α' H' h,Same I I'->α<+:α'->Rel C Z I' α' H' h->j.ok h ->
 (∀i,i<j.n->J.go i H'/\∀x B,J.yld i H' x B->∃y d,Same I' y/\Rel C Z y α' B h/\Rep C y α' x d/\j.item i d)/\J.stop j.n H'
def SimI(C:Cf)(Z:Anc)(w:TI)(u:TI3):Prop:=∀I α σ H ρ M(K:It3->Mem->Prop)(h:It->Hp->Prop),Rel C Z I α H M->RepE C I α σ ρ->u ρ M K ->
 (∀J j I' α' H' y,Same I I'->α<+:α'->Rel C Z I' α' H' y->ItR C Z I' α' J j->K j y->h J H')->w σ H h
inductive uIL_1(K:It3->Mem->Prop)(d:D)(M1:Mem):Prop
 |mk:∀ds,Xx M1 d=some ds->K {ds.length,λi x=>ds[i]?=some x,λM=>Xx M d=some ds} M1->uIL_1 K d M1
def uIL(ue:TE3):TI3:=λρ M K=>ue ρ M (uIL_1 K)
def s_il(he:SimE C Z te ue):SimI C Z (Zrb C.k te) (uIL ue):=λI α σ H ρ M K R' R RE h k =>
 he I α σ H ρ M _ _ R RE h λv d I1 G H1 M1 s1 p1 O J h1=>by
  let⟨ds,e,h1⟩:=h1;let⟨a,vs,rfl,ea,ra⟩:=Uo O J e;exists a,rfl,⟨vs,ea⟩,k _ _ I1 G H1 M1 s1 p1 O (λI2 Y H2 M2 s2 p2 R2 ok=>?_) h1;let⟨b,ws,eb,eq,B⟩:=Uo R2 (J.mono s2 p2) ok;cases eb;exists λi hi=>?_,{ws,eq,by rw[B.length];exact Ji _};let hi2:i<ws.length:=by rw[B.length];exact hi
  exists{ws,ws[i],eq,Jb hi2},λx H3 y=>?_;let⟨rfl,y⟩:=y;let:=y ws eq;rw[Jb hi2]at this;cases this;exists I2,ds[i],.refl _,R2,B.at hi2 hi,Jb hi
inductive uIT_1(K:It3->Mem->Prop)(d:D)(M1:Mem):Prop
 |mk:∀ds,Zpm d=some ds->K {ds.length,λi x=>ds[i]?=some x,λ_=>True} M1->uIT_1 K d M1
def uIT(ue:TE3):TI3:=λρ M K=>ue ρ M (uIT_1 K)
def s_it(he:SimE C Z te ue):SimI C Z (iTup C.k te) (uIT ue):=λI α σ H ρ M K R' R RE h k =>
 he I α σ H ρ M _ _ R RE h λv d I1 G H1 M1 s1 p1 O r1 h1=>by
  let⟨ds,e,h1⟩:=h1;let⟨a,vs,rfl,ea,ia,ra⟩:=Ul O r1 e;exists a,rfl,{vs,SqT.of ea},k _ _ I1 G H1 M1 s1 p1 O (λI2 Y H2 M2 J p2 R2 ok=>?_) h1;let eq:SqT C.k H2 a vs:=SqT.of (R2.sub _ _ (J _ _ ia));let B:=ra.mono J p2;exists λi hi=>?_,{vs,eq,by rw[B.length];exact Ji _};let hi2:i<vs.length:=by rw[B.length];exact hi
  exists{vs,vs[i],eq,Jb hi2},λx H3 y=>?_;let⟨rfl,y⟩:=y;let:=y vs eq;rw[Jb hi2]at this;cases this;exists I2,ds[i],.refl _,R2,B.at hi2 hi,Jb hi
def Zly(lo:Int)(n:Nat):It3:={n,λi x=>x=.int (lo+i),λ_=>True}
def Zxk{lo:Int}{n:Nat}:ItR C Z I α (Itr lo n) (Zly lo n):=λI' α' H' h s p R _=>{λi hi=>{hi,λx B y=>by
 let⟨rfl,rfl⟩:=y;exact{I',_,.refl _,R,.int _,rfl}},Ji _}
variable{ta:TA}{ua:TA3}
inductive uIR1_1(K:It3->Mem->Prop)(ds:List D)(M1:Mem):Prop
 |mk:∀j:Int,ds=[.int j]->(-(2 ^ 62)<=j/\j<2 ^ 62)->K (Zly 0 j.toNat) M1->uIR1_1 K ds M1
def uIR1(ua:TA3):TI3:=λρ M K=>ua ρ M (uIR1_1 K)
def Zw8(O:SimA C Z ta ua):SimI C Z (Zu3 ta) (uIR1 ua):=λI α σ H ρ M K R' R Y h k =>
 O I α σ H ρ M _ _ R Y h λvs ds I1 y H1 M1 B J R1 G h1=>by
  let⟨j,rfl,⟨h2,h3⟩,h1⟩:=h1;refine Reps.e1 G λ_ a=>?_;cases a;exists j,rfl,h2,h3,k _ _ I1 y H1 M1 B J R1 Zxk h1
abbrev Zsk(E:Ends3)(ρ:Ev)(M:Mem)(P:Nat->Ev->Mem->Prop)(i:Nat):Ends3:={E with nx:=Dr ρ M (P (i+1)),ct:=Dr ρ M (P (i+1)),bk:=E.nx}
inductive uFor_1(ug:TG3)(ub:TS3)(E:Ends3)(ρ:Ev)(j:It3)(M1:Mem):Prop
 |mk:∀P:Nat->Ev->Mem->Prop,(∀i ρ M,i<=j.n->P i ρ M->j.ok M)->P 0 ρ M1 ->
  (∀i x ρ1 M',i<j.n->j.item i x->P i ρ1 M'->ug x ρ1 M' (ub (Zsk E ρ M1 P i)))->(∀ρ M,P j.n ρ M->E.nx ρ M)->uFor_1 ug ub E ρ j M1
def uFor(ui:TI3)(ug:TG3)(ub:TS3):TS3:=λE ρ M=>ui ρ M (uFor_1 ug ub E ρ)
theorem Uj{ui:TI3}(hi:SimI C Z wi ui)(hg:SimG C Z g ug)(hb:SimS C Z t u):SimS C Z (tFor wi g t) (uFor ui ug u):=λI α σ H ρ M E D' R RE h F =>
 hi I α σ H ρ M _ _ R RE h λJ j I1 a2 H1 M1 s1 p1 R1 IR h1=>by
  let⟨P,b2,h0,hs,he⟩:=h1;let b6:=R1.len;exists λi m a1 H'=>m=j.n-i/\i<=j.n/\∃I2 O B M2,Same I1 I2/\a2<+:O/\Rel C Z I2 O H' M2/\RepE C I2 O a1 B/\P i B M2,{j.n,rfl,Ge _,I1,a2,ρ,M1,.refl _,Jo _,R1,RE.mono s1 p1,h0},?_;rintro i m a1 H' ⟨rfl,hi,I2,O,B,M2,s2,p2,R2,a5,h2⟩;let⟨go,a4⟩:=IR I2 O H' M2 s2 p2 R2 (b2 i B M2 hi h2)
  by_cases hlt:i<j.n
  .let⟨g1,g2⟩:=go i hlt;refine .inr {g1,λa0 H3=>∃I3 G Y M3,Same I1 I3/\a2<+:G/\Rel C Z I3 G H3 M3/\RepE C I3 G a0 Y/\P (i+1) Y M3,λa0 H3 h3=>{j.n-(i+1),(),rfl,hlt,h3},λx H3 y=>?_};let⟨I3,d,s3,R3,r3,it⟩:=g2 x H3 y;refine hg I3 O a1 H3 B M2 x d _ _ R3 (a5.mono s3 (Jo _)) r3 (hs i d B M2 hlt it h2) λI4 a3 a6 H4 a8 M4 s4 p4 R4 b5 h4=>?_;let nx:FinS C Z I4 a3 (Dr ρ M1 (P (i+1))) (λa0 H3=>∃I3 G Y M3,Same I1 I3/\a2<+:G/\Rel C Z I3 G H3 M3/\RepE C I3 G a0 Y/\P (i+1) Y M3):=λI5 b9 b7 H5 b8 M5 s5 p5 R5 b4 h5=>by
    let⟨b1,a7,M6,p6,R6,b3,h6⟩:=h5.out R1 (RE.mono s1 p1) (p2.trans (p4.trans p5)) R5 b4;exists I5,b1,a7,M6,s2.trans (s3.trans (s4.trans s5)),p6,R6,b3,h6
   let F4:=F.mono (s1.trans (s2.trans (s3.trans s4))) (p1.trans (p2.trans p4));exact hb I4 a3 a6 H4 a8 M4 _ _ R4 b5 h4 {nx,F4.rt,F4.nx,nx}
  .let e:i=j.n:=by lia
   subst e;exact .inl {a4,F.nx I2 O a1 H' B M2 (s1.trans s2) (p1.trans p2) R2 a5 (he B M2 h2)}
def sg3(ρ:Ev)(T:List Str)(cs:List Nat):Ev:=T.map (λ_=>none)++cs.map λi=>ρ.getD i none
def RepE.sg(h:RepE C I α σ ρ)(T:List Str)(cs:List Nat):RepE C I α (sgOf σ T cs) (sg3 ρ T cs):=by
 exists by unfold sgOf sg3;simp,λi d e=>?_;unfold sg3 at e;unfold sgOf
 by_cases hi:i<T.length
 .rw[Jw (by simpa using hi),Gc,Jb hi]at e;simp at e
 .rw[J8 (by simpa using hi),Gc]at e;rw[J8 (by simpa using hi),Gc];simp only[Ja]at e⊢;cases hc:cs[i-T.length]? with
  |none=>rw[hc]at e;cases e
  |some c =>
   rw[hc]at e;simp only[B9,Mj]at e⊢;rw[Gq]at e⊢;cases hr:ρ[c]? with
   |none=>rw[hr]at e;cases e
   |some o =>
    rw[hr]at e;cases e;let⟨v,e2,r⟩:=h.2 c d hr;exists v,by rw[e2];rfl,r
variable{tt:TT}{ut:TT3} 
abbrev Zvf(P:Nat->List D->Mem->Prop)(i:Nat)(ys:List D):D->Mem->Prop:=λy h=>P (i+1) (ys++[y]) h
abbrev Zvg(ue:TE3)(P:Nat->List D->Mem->Prop)(i:Nat)(ys:List D)(h:Ev):Bool->Mem->Prop:=λb y=>if b=true then ue h y (Zvf P i ys)else P (i+1) ys y
abbrev Zvh(ut:TT3)(ue:TE3)(P:Nat->List D->Mem->Prop)(i:Nat)(ys:List D):Ev->Mem->Prop:=λh M2=>ut h M2 (Zvg ue P i ys h)
inductive cmp3_0(ug:TG3)(ut:TT3)(ue:TE3)(T:List Str)(cs:List Nat)(ρ:Ev)(F:List D->Mem->Prop)(j:It3)(M1:Mem):Prop
 |mk:j.n<=Ca->∀P:Nat->List D->Mem->Prop,(∀i ys M,i<=j.n->P i ys M->j.ok M)->P 0 [] M1 ->
  (∀i x ys M,i<j.n->j.item i x->P i ys M->ug x (sg3 ρ T cs) M (Zvh ut ue P i ys))->(∀ys M,P j.n ys M->F ys M)->cmp3_0 ug ut ue T cs ρ F j M1
def cmp3(ui:TI3)(ug:TG3)(ut:TT3)(ue:TE3)(T:List Str)(cs:List Nat)(ρ:Ev)(M:Mem)(F:List D->Mem->Prop):Prop:=ui ρ M (cmp3_0 ug ut ue T cs ρ F)
abbrev Zpj(K:K3):List D->Mem->Prop:=λys M1=>K (.lst ys) M1
abbrev Zd7(K:K3):List D->Mem->Prop:=λys M1=>K (.cell M1.length) (M1++[.lst ys])
def Zsq(ui:TI3)(ug:TG3)(ut:TT3)(ue:TE3)(T:List Str)(cs:List Nat):TE3:=λρ M K=>cmp3 ui ug ut ue T cs ρ M (Zpj K)
def Zsp(ui:TI3)(ug:TG3)(ut:TT3)(ue:TE3)(T:List Str)(cs:List Nat):TE3:=λρ M K=>cmp3 ui ug ut ue T cs ρ M (Zd7 K)
theorem Zfe{ui:TI3}(hi:SimI C Z wi ui)(hg:SimG C Z g ug)(ht:SimT C Z tt ut)(he:SimE C Z te ue){F:List D->Mem->Prop}(R:Rel C Z I α H M)(RE:RepE C I α σ ρ)(h:cmp3 ui ug ut ue T cs ρ M F)(k:∀ys vs I' α' H' M',Same I I'->α<+:α'->Rel C Z I' α' H' M'->Reps C I' α' vs ys->F ys M'->∀p,H' p=none->Q (.ref p) (upd H' p (.lst vs))):Zg3 wi g tt te T cs σ H Q :=
 hi I α σ H ρ M _ _ R RE h λJ j I1 O H1 M1 s1 p1 R1 IR h1=>by
  let⟨hz,P,a8,h0,hs,hd⟩:=h1;exists λi m vs H'=>m=j.n-i/\i<=j.n/\∃I2 B ys M2,Same I1 I2/\O<+:B/\Rel C Z I2 B H' M2/\Reps C I2 B vs ys/\ys.length<=i/\P i ys M2,{j.n,rfl,Ge _,I1,O,[],M1,.refl _,Jo _,R1,.nil,Ji _,h0},?_;rintro i m vs H' ⟨rfl,hi,I2,B,ys,M2,s2,p2,R2,r2,hl,h2⟩;let⟨go,a4⟩:=IR I2 B H' M2 s2 p2 R2 (a8 i ys M2 hi h2);let b2:=r2.length
  by_cases hlt:i<j.n
  .let⟨g1,g2⟩:=go i hlt;refine .inr {g1,(),λa3 H3=>∃I3 G Y M3,Same I1 I3/\O<+:G/\Rel C Z I3 G H3 M3/\Reps C I3 G a3 Y/\Y.length<=i+1/\P (i+1) Y M3,λa3 H3 h3=>{j.n-(i+1),(),rfl,hlt,h3},λx H3 y=>?_};let⟨I3,d,s3,R3,r3,it⟩:=g2 x H3 y;let b1:RepE C I3 B σ ρ:=RE.mono (s1.trans (s2.trans s3)) (p1.trans p2);refine hg I3 B _ H3 _ M2 x d _ _ R3 (b1.sg T cs) r3 (hs i d ys M2 hlt it h2) λI4 a7 a0 H4 a1 M4 s4 p4 R4 a5 h4=>?_;refine ht I4 a7 a0 H4 a1 M4 _ _ R4 a5 h4 λb I5 a2 H5 M5 s5 p5 R5 h5=>?_;cases b with
   |true =>
    refine he I5 a2 a0 H5 a1 M5 _ _ R5 (a5.mono s5 p5) h5 λv e I6 a6 H6 M6 s6 p6 R6 r6 h6=>?_;exists I6,a6,ys++[e],M6,s2.trans (s3.trans (s4.trans (s5.trans s6))),p2.trans (p4.trans (p5.trans p6)),R6,(r2.mono (s3.trans (s4.trans (s5.trans s6))) (p4.trans (p5.trans p6))).app (.one r6),?_,h6;rw[Jc,G4];lia
   |false =>
    exists I5,a2,ys,M5,s2.trans (s3.trans (s4.trans s5)),p2.trans (p4.trans p5),R5,r2.mono (s3.trans (s4.trans s5)) (p4.trans p5),(),h5
  .let e:i=j.n:=by lia
   subst e;exact .inl {a4,(),k ys vs I2 B H' M2 (s1.trans s2) (p1.trans p2) R2 r2 (hd ys M2 h2)}
def Vm{ui:TI3}(hi:SimI C Z wi ui)(J:SimG C Z g ug)(B:SimT C Z tt ut)(O:SimE C Z te ue):SimE C Z (Zg3 wi g tt te T cs) (Zsq ui ug ut ue T cs):=λI α σ H ρ M K Q R RE h k =>
 Zfe hi J B O R RE h λys vs I' α' H' M' s p R' r Y q G=>by
  let⟨R2,y,e2⟩:=R'.new (o:=.lst vs) G;exact k _ _ _ α' _ M' (s.trans y) p R2 (.lst e2 (r.mono y (Jo _))) Y
def Zhu{ui:TI3}(hi:SimI C Z wi ui)(G:SimG C Z g ug)(y:SimT C Z tt ut)(J:SimE C Z te ue):SimE C Z (Zg3 wi g tt te T cs) (Zsp ui ug ut ue T cs):=λI α σ H ρ M K Q R Y h k =>
 Zfe hi G y J R Y h λys vs I' α' H' M' s p R' r O q B=>by
  let⟨R2,p2,e2⟩:=R'.cell (o:=.lst vs) (m:=.lst ys) B λH' e=>⟨vs,e,r⟩;exact k _ _ I' _ _ _ s (p.trans p2) R2 (.cell e2) O
abbrev Zwb:TT3:=λ_ M K=>K true M
def Um:SimT C Z Zsy Zwb:=λI α σ H ρ M K Q R E h k=>k true I α H M (.refl _) (Jo _) R h
abbrev Sp3:=List D->Mem->K3->Prop
def spOf(C:Cf)(sp:Sp3):Sp:=λvs H Q _=>∃Z I α M ds K,Rel C Z I α H M/\Reps C I α vs ds/\sp ds M K/\Fin C Z I α K Q
abbrev Zpk(sp:Sp3)(K:K3):List D->Mem->Prop:=λds M1=>sp ds M1 K
def Zpl(sp:Sp3)(ua:TA3):TE3:=λρ M K=>ua ρ M (Zpk sp K)
def Za6{sp:Sp3}{B:XK}(Y:SimA C Z ta ua):SimE C Z (Zpo (spOf C sp) [] B ta) (Zpl sp ua):=λI α σ H ρ M K Q R RE h k =>
 Y I α σ H ρ M _ _ R RE h λvs ds I1 y H1 M1 G O R1 J h1=>by
  rw[Gg];exists Z,I1,y,M1,ds,K,R1,J,h1,k.mono G O
def Cal.imp{base:Heap}{x:Str}{k:Nat}{sp y:Sp}(c:Cal P w K mg base x k ps sp)(h:∀vs H Q E,y vs H Q E->sp vs H Q E):Cal P w K mg base x k ps y :=
 let⟨f,fd,a,b⟩:=c
 {f,fd,a.imp h,b}
def Zea(N:List Str)(ds:List D):Ev:=ds.map some++Cp (N.length-ds.length) none
def Zh6(r:Reps C I α vs ds)(N:List Str):RepE C I α (L2.Tj N vs) (Zea N ds):=by
 let hl:=r.length;exists by unfold L2.Tj Zea;simp[hl],λi d e=>?_;unfold Zea at e;unfold L2.Tj
 by_cases hi:i<ds.length
 .rw[Jw (by simpa using hi),Gc,Jb hi]at e;let h:ds[i]=d:=by simpa using e
  rw[Jw (by simpa[hl]using hi),Gc,Jb (by rw[hl];exact hi)];exists ·,h ▸ r.at (by rw[hl];exact hi) hi
 .rw[J8 (by simpa using hi),Mp]at e
  split at e<;>cases e
def Fun.ok3{base:Heap}{x:Str}{k:Nat}{sp:Sp3}(F:Fun K x qual st f fd)(S:FnScope N ps (Zm st))(len:∀ds M K,sp ds M K->ds.length=ps.length)(hbody:∀(y:Cb)(A:Kw)(outer:List Env)(s:Cc)(H:Hp)(E:XK),Room k (A.deeper (Lw qual (Zm st) s.heap.objs.size f y)) ->
   ∃t u,PSs (cxOf CX0 P w K mg base N qual (Zm st) f y A outer s H E).nox (Xm st) t/\(∀Z,SimS C Z t u)/\∀ds M K,WfM M->(∀d∈ds,Yb M.length d)->sp ds M K->u {nx:=λ_ M'=>Dk M.length K .non M',rt:=Dk M.length K} (Zea N ds) M):FnOk P w K mg base CX0 (k+1) f fd ps (spOf C sp):=by
 refine F.ok S (λvs H Q E h=>?_) (λy A outer s H vs Q E hr h=>?_)
 .let⟨Z,I,α,M,ds,K,R,r,h,_⟩:=h;rw[r.length];exact len ds M K h
 .let⟨t,u,h1,h2,h3⟩:=hbody y A outer s H E hr;let⟨Z,I,α,M,ds,K,R,r,h,k⟩:=h;let G:=k.dk R.len R.aa;exists t,h1,h2 Z I α _ H _ M _ _ R (Zh6 r N) (h3 ds M K R.wf (by rw[<-R.len];exact r.bel) h) {λI1 B J H1 O M1 Y p1 R1 _ h1=>G _ _ I1 B H1 M1 Y p1 R1 .non h1,G,λ_ _ _ _ _ _ _ _ _ _ h=>h.elim,λ_ _ _ _ _ _ _ _ _ _ h=>h.elim}
end
section
def Zw9{ue:TE3}(y:SimE C Z te ue)(h:K'=C.k):SimI C Z (Zrb K' te) (uIL ue):=h ▸ s_il y
def Zw6{ue:TE3}(y:SimE C Z te ue)(h:K'=C.k):SimI C Z (iTup K' te) (uIT ue):=h ▸ s_it y
def Zp6{n:Nat}{gs:TGs}{ugs:TGs3}(y:Zkv C Z gs ugs)(h:K'=C.k):SimG C Z (gTup K' n gs) (uGTup n ugs):=h ▸ Zto y
def Zhw{uo:TE3}{t:TA}{u:TA3}(y:SimE C Z to uo)(B:SimA C Z t u)(h:K'=C.k):SimE C Z (tBM K' "list" Zcs to t) (uBML app3 uo u):=h ▸ Zlv y B
end
section
def Rel.full(R:Rel C Z I α H M):∃I',Same I I'/\Rel C Z I' α H M/\∀b o,H b=some o->b∉α->I' b=some o:=by
 let s:Same I (λb=>if b∈α then none else H b):=λb o e=>by
  let h:b∉α:=λh=>by
   let⟨k,G,rfl⟩:=Gh h;let y:k<M.length:=by rw[<-R.len];exact G
   rw[(R.cel k _ _ (Jb G) (Jb y)).2]at e;cases e
  show(if b∈α then none else H b)=some o;rw[D6 h];exact R.sub b o e
 exists _,s,{R.ai.trans s,R.aa,λb o e=>?_,R.len,R.nd,λk a m h1 h2=>?_},λb o e h=>?_
 .let B:(if b∈α then none else H b)=some o:=e
  split at B
  .cases B
  .exact B
 .exists(R.cel k a m h1 h2).1.mono s (Jo _) rfl,?_;show(if a∈α then none else H a)=none;rw[D7 (G1 h1)]
 .show(if b∈α then none else H b)=some o;rw[D6 h];exact e
def Rel.out(R:Rel C Z I α H M)(h:H l=none):l∉α:=λhl=>by
 let⟨k,y,e⟩:=Gh hl;exact R.cellNe (Jb y) h e
theorem Rel.tupOut(R:Rel C Z I α H M)(h:H l=some (.tup vs)):l∉α:=λhl=>by
 let⟨k,B,rfl⟩:=Gh hl;let y:k<M.length:=by rw[<-R.len];exact B
 let:=(R.cel k _ _ (Jb B) (Jb y)).1;cases hm:M[k]with
 |lst ds=>rw[hm]at this;let⟨vs,e,_⟩:=this;rw[h]at e;cases e
 |dct ds=>rw[hm]at this;let⟨vs,e,_⟩:=this;rw[h]at e;cases e
 |dcT ds=>rw[hm]at this;let⟨vs,e,_⟩:=this;rw[h]at e;cases e
 |drK ds=>rw[hm]at this;let⟨vs,e,_⟩:=this;rcases e with e|⟨o,e⟩<;>(rw[h]at e;cases e)
 |drT ds=>rw[hm]at this;let⟨vs,e,_⟩:=this;rcases e with e|⟨o,e⟩<;>(rw[h]at e;cases e)
 |dfT o vs ds=>rw[hm]at this;let e:=this.1;rw[h]at e;cases e
 |dfK o vs ds=>rw[hm]at this;let e:=this.1;rw[h]at e;cases e
 |ins Cl fs=>rw[hm]at this;let⟨dx,vs,e,_⟩:=this;rw[h]at e;cases e
 |hand=>rw[hm]at this;let⟨d,k,c,cs,e,_⟩:=this;rw[h]at e;cases e
 |tab P pos q=>rw[hm]at this;let⟨_,ps,e,_⟩:=this;rw[h]at e;cases e
 |dcN sh z ds=>rw[hm]at this;cases z with|none=>obtain⟨vs,e,_⟩:=this;rw[h]at e;cases e|some z=>have e:=this.1;rw[h]at e;cases e
def Rel.same(R:Rel C Z I α H M)(s:Same H H'):Rel C Z I α H' M:=by
 exists R.ai,R.aa,R.sub.trans s,R.len,R.nd,λk a m h1 h2=>?_;let⟨h,y⟩:=R.cel k a m h1 h2;let⟨o,e⟩:=h.some;exists h.mono (.refl _) (Jo _) ((s _ _ e).trans e.symm),y
def Rel.grow(R:Rel C Z I α H M){k:Nat}{p:Addr}{cs:List Int}(y:α[k]?=some p)(G:M[k]?=some .hand)(hh:HandAt H' p c)(ic:I c=some (.lst (cs.map V.int)))(h:cs≠[]/\cs.length<=63/\∀c∈cs,0<=c)(g:Grow p H H'):Rel C Z I α H' M:=by
 let B:I p=none:=(R.cel k p _ y G).2;exists R.ai,R.aa,λb o e=>g b o (R.sub b o e) (λz=>by rw[z,B]at e;cases e),R.len,R.nd,λj a m h1 h2=>?_;let⟨O,a2⟩:=R.cel j a m h1 h2
 by_cases e:k=j
 .subst e;rw[y]at h1;cases h1;rw[G]at h2;cases h2;let⟨d0,i0,a0,x1,x2,x3,x4,x5,Y,x7⟩:=hh.ex;exists{d0,i0,c,cs,x1,ic,h.1,h.2.1,x5,Y,h.2.2},B
 .let⟨o,J⟩:=O.some;let ne:a≠p:=λz=>by
   let⟨hj,ej⟩:=Jg.mp h1;let⟨hk,ek⟩:=Jg.mp y;rw[<-ej,<-ek]at z;exact e ((Bh R.nd).mp z).symm
  exists O.mono (.refl _) (Jo _) ((g _ _ J ne).trans J.symm),a2
def Rel.hand(R:Rel C Z I α H M){k:Nat}{p:Addr}(B:α[k]?=some p)(y:M[k]?=some .hand):∃c cs,HandAt H p c/\I c=some (.lst (cs.map V.int))/\cs≠[]/\cs.length<=63/\∀c∈cs,0<=c:=by
 let⟨d,i,c,cs,e,h,h1,h2,h3,h4,h5⟩:=(R.cel k p _ B y).1;exists c,cs,{d,i,cs,e,R.sub _ _ h,h1,h2,h3,h4,h5},h,h1,h2,h5
theorem Rel.cellAt(R:Rel C Z I α H M)(y:I l=none)(hl:l∉α)(B:MoAt C I α H l m):Rel C Z I (α++[l]) H (M++[m])/\α<+:(α++[l])/\(α++[l])[M.length]?=some l:=by
 refine{{R.ai,R.aa.trans (Go _ _),R.sub,by rw[Jc,Jc,R.len];rfl,?_,λk a x h1 h2=>?_},Go _ _,by rw[<-R.len];simp}
 .rw[Bc];exists R.nd,by simp,λa J b G e=>hl (by rw[<-Je.mp G,<-e];exact J)
 .by_cases hk:k < α.length
  .rw[Jw hk]at h1;rw[Jw (by rw[<-R.len];exact hk)]at h2;let⟨Y,O⟩:=R.cel k a x h1 h2;exists Y.mono (.refl _) (Go _ _) rfl,O
  .let⟨h,_⟩:=Jg.mp h1;rw[Jc,G4]at h;let e:k=α.length:=by lia
   subst e;let e1:(α++[l])[α.length]?=some l:=by simp
   let e2:(M++[m])[α.length]?=some m:=by rw[R.len];simp
   rw[e1]at h1;rw[e2]at h2;cases h1;cases h2;exists B.mono (.refl _) (Go _ _) rfl,y
end
variable{ui:L3.TI3}
def wD(w:List Int):D:=.tup (w.map .int)
def pD(p:Pr):D:=.tup [.int p.1,wD p.2]
def oD:Option Int->D
 |some z=>.int z
 |none=>.non
section
def Zxc(s:∀b xs,H b=some (.tup xs)->I b=some (.tup xs)){v:V}{p:Pr}(h:Pf H v p):Rep C I α v (pD p):=by
 let⟨t,y,rfl,e,e2⟩:=h;exact .tup (s _ _ e) (.cons (.int _) (.one (.tup (s _ _ e2) (.ints p.2))))
theorem Zek{F:V->τ->Prop}{f:τ->D}(h:∀v a,F v a->Rep C I α v (f a)):∀{vs:List V}{as:List τ},Paired F vs as->Reps C I α vs (as.map f):=by
 intro _ _ y;cases y with
 |nil=>
  exact .nil
 |cons a b=>
  exact .cons (h _ _ a) (Zek h b)
theorem Ny{F:V->τ->Prop}{f:τ->D}(h:∀v a,Rep C I α v (f a)->F v a):∀{vs:List V}{as:List τ},Reps C I α vs (as.map f)->Paired F vs as
 |_,[],r=>by cases r.inv;exact .nil
 |_,a::as,r=>by
  cases r with
  |cons x y=>exact .cons (h _ _ x) (Ny h y)
def Zr4(s:Same I H){v:V}{w:List Int}(h:Rep C I α v (wD w)):Zgj H v w:=by
 let⟨_,_,rfl,e,r⟩:=h.inv;rw[r.of_ints w]at e;exists ·,s _ _ e
theorem Zud(s:Same I H){v:V}{p:Pr}(h:Rep C I α v (pD p)):Pf H v p:=by
 cases h with
 |tup e r =>
  cases r with
  |cons a b =>
   cases b with
   |cons b c =>
    cases c;cases a;let⟨t,rfl,e2⟩:=Zr4 s b;exists _,t,rfl,s _ _ e,e2
end
section
inductive dDraw(ds:List D)(M:Mem)(K:K3):Prop
 |mk:∀k n,ds=[.cell k,.int n]->(M[k]?=some .hand/\(0<n/\n<1073741824)/\∀r,0<=r->r<n->K (.int r) M)->dDraw ds M K
def Zv1{E:XK}(h:spOf C dDraw vs H Q E):Zeb vs H Q E:=by
 let⟨Z,I,α,M,ds,K,R,r,⟨k,n,rfl,B,⟨n0,n1⟩,h⟩,kk⟩:=h;refine Reps.e2 r λ_ _ r1 Y=>?_;cases Y.inv;let⟨p,rfl,G⟩:=r1.inv;let⟨c,cs,hh,ic,hc⟩:=R.hand G B;exists p,c,n,rfl,hh,n0,n1,λz H' O J y g _=>kk _ _ I α H' M (.refl _) (Jo _) (R.grow G B y ic hc g) (.int z) (h z O J)
inductive dOpen(ds:List D)(M:Mem)(K:K3):Prop
 |mk:∀(ns:List Int)(i:Int),ds=[.frz (ns.map .int),.int i]->((ns.length<=63/\0<=i/\i<2 ^ 60)/\K (.cell M.length) (M++[.hand]))->dOpen ds M K
def Zu4{v:V}(R:Rel C Z I α H M)(r:Rep C I α v (.frz (ns.map .int))):∃a,v=.ref a/\SqL C.k H a (ns.map V.int):=by
 let⟨_,_,rfl,e,r⟩:=r.inv;rw[r.of_ints ns]at e;exists ·,R.sub.seq e
def Zvz{E:XK}(h:spOf C dOpen vs H Q E):Znr C.k vs H Q E:=by
 let⟨Z,I,α,M,ds,K,R,r,⟨ns,i,rfl,⟨hl,i0,i1⟩,h⟩,kk⟩:=h;refine Reps.e2 r λ_ _ r1 r2=>?_;cases r2.inv;let⟨a,rfl,hS⟩:=Zu4 R r1;refine{a,ns,i,rfl,hS,hl,i0,i1,λp c H' O Y hh s=>?_};let B:=R.same s;let pc:p≠c:=hh.ne;let⟨d0,J,cs,x1,x2,x3,x4,x5,x6,x7⟩:=hh.ex;let G:I p=none:=R.sub.free O;let y:I c=none:=R.sub.free Y;let R2:Rel C Z (upd I c (.lst (cs.map V.int))) α H' M:=by
  exists B.ai.trans (Zc y),B.aa,λb o e=>?_,B.len,B.nd,λk a m h1 h2=>?_
  .by_cases z:b=c
   .subst z;rw[Ze]at e;cases e;exact x2
   .rw[Zo z]at e;exact B.sub b o e
  .let⟨a1,a2⟩:=B.cel k a m h1 h2;let ne:a≠c:=R.cellNe h1 Y;exact{a1.mono (Zc y) (Jo _) rfl,by rw[Zo ne];exact a2}
 let⟨R3,p3,e3⟩:=R2.cellAt (l:=p) (m:=.hand) (by rw[Zo pc];exact G) (R.out O) ⟨d0,J,c,cs,x1,Ze,x3,x4,x5,x6,x7⟩;exact kk _ _ _ _ H' _ (Zc y) p3 R3 (.cell e3) h
def Zjt{k:Nat}{p:Addr}{cs bs:List Int}{K:K3}(R:Rel C Z I α H M)(ha:α[k]?=some p)(J:M[k]?=some .hand)(O:HandAt H' p c)(G:I c=some (.lst (cs.map V.int)))(Y:cs≠[]/\cs.length<=63/\∀c∈cs,0<=c)(g:Grow p H H')(y:H l=none)(el:H' l=some (.lst (bs.map V.int)))(B:Fin C Z I α K Q)(h:K (.lst (bs.map .int)) M):Q (.ref l) H':=by
 let⟨I',s,R',f⟩:=(R.grow ha J O G Y g).full;exact B _ _ I' α H' M s (Jo _) R' (.lst (f _ _ el (R.out y)) (.ints bs)) h
inductive dBytes(ds:List D)(M:Mem)(K:K3):Prop
 |mk:∀k m,ds=[.cell k,.int m]->(M[k]?=some .hand/\(2<=m/\m<=4)/\∀bs:List Int,bs.Nodup->2<=bs.length->(bs.length:Int)<=m->(∀b∈bs,0<=b/\b<256)->K (.lst (bs.map .int)) M)->dBytes ds M K
def Zrz{E:XK}(h:spOf C dBytes vs H Q E):Zhb vs H Q E:=by
 let⟨Z,I,α,M,ds,K,R,r,⟨k,m,rfl,B,⟨m0,m1⟩,h⟩,kk⟩:=h;refine Reps.e2 r λ_ _ O J=>?_;cases J.inv;let⟨p,rfl,G⟩:=O.inv;let⟨c,cs,hh,ic,hc⟩:=R.hand G B;exists p,c,m,rfl,hh,m0,m1,λl bs H' Y _ el nd b2 bm bb y g=>Zjt R G B y ic hc g Y el kk (h bs nd b2 bm bb)
inductive dSigns(ds:List D)(M:Mem)(K:K3):Prop
 |mk:∀k m,ds=[.cell k,.int m]->(M[k]?=some .hand/\(0<=m/\m<=100)/\∀ss:List Int,ss.Nodup->(ss.length:Int)=m->K (.lst (ss.map .int)) M)->dSigns ds M K
def ints_at{v:V}(R:Rel C Z I α H M)(r:Rep C I α v (.lst (ns.map .int))):∃a,v=.ref a/\H a=some (.lst (ns.map V.int))/\I a=some (.lst (ns.map V.int)):=by
 let⟨_,_,rfl,e,r⟩:=r.inv;rw[r.of_ints ns]at e;exists ·,R.sub _ _ e,e
def Zi0{k:Nat}{p a:Addr}{o:HO}(R:Rel C Z I α H M)(y:α[k]?=some p)(h:M[k]?=some .hand)(e:I a=some o):a≠p:=λz=>by
 rw[z,(R.cel k p _ y h).2]at e;cases e
def Zof{v:V}(R:Rel C Z I α H M)(r:Rep C I α v (.lst ds)):∃a vs,v=.ref a/\H a=some (.lst vs)/\I a=some (.lst vs)/\Reps C I α vs ds:=by
 let⟨_,_,rfl,e,r⟩:=r.inv;exists _,·,R.sub _ _ e,e,r
def Zk1{v:V}(R:Rel C Z I α H M)(r:Rep C I α v (.lst (ws.map wD))):∃a vs,v=.ref a/\I a=some (.lst vs)/\Zku H a ws:=by
 let⟨a,vs,rfl,e,i,h⟩:=Zof R r;exists a,vs,rfl,i,vs,e,Ny (F:=Zgj H) (f:=wD) (λv a z=>Zr4 R.sub z) h
def Zlh{v:V}(R:Rel C Z I α H M)(r:Rep C I α v (.lst (L.map pD))):∃a vs,v=.ref a/\I a=some (.lst vs)/\Ve H a L:=by
 let⟨a,vs,rfl,e,i,h⟩:=Zof R r;exists a,vs,rfl,i,vs,e,Ny (F:=Pf H) (f:=pD) (λv a z=>Zud R.sub z) h
inductive dTable(ds:List D)(M:Mem)(K:K3):Prop
 |mk:∀(k:Nat)(ws:List (List Int))(ss:List Int),ds=[.cell k,.lst (ws.map wD),.lst (ss.map .int)]->(M[k]?=some .hand/\(WOk ws/\ws.length<=28/\ss.Nodup/\ws.length<=ss.length/\ss.length<=100)/\∀L:List Pr,Free L->Fits L->(L.map (·.2)).Perm ws->K (.lst (L.map pD)) M)->dTable ds M K
def Zrw{E:XK}(h:spOf C dTable vs H Q E):Zg9 vs H Q E:=by
 let⟨Z,I,α,M,ds,K,R,r,⟨k,ws,Y,rfl,y,⟨h1,h2,h3,h4,h5⟩,h⟩,kk⟩:=h;refine Reps.e3 r λ_ _ _ r1 r2 r3=>?_;let⟨p,rfl,B⟩:=r1.inv;let⟨c,cs,hh,ic,hc⟩:=R.hand B y;let⟨O,_,rfl,iw,hw⟩:=Zk1 R r2;let⟨sa,rfl,es,is⟩:=ints_at R r3;exists p,c,O,sa,ws,Y,rfl,hh,hw,Zi0 R B y iw,h1,h2,es,Zi0 R B y is,h3,h4,h5,λl L H' nl _ ta fr fi pm G g=>?_;let J:=R.grow B y G ic hc g;let⟨I',s,R',f⟩:=J.full;let⟨us,eu,pu⟩:=ta;exact kk _ _ I' α H' M s (Jo _) R' (.lst (f _ _ eu (R.out nl)) (Zek (λv a z=>Zxc (λb xs e=>f _ _ e (J.tupOut e)) z) pu)) (h L fr fi pm)
end
section
variable{tc:TE}{uc:TE3}{t:TA}{u:TA3}
inductive uRev_3(K:K3)(d:D)(M2:Mem):Prop
 |mk:∀xs,Xx M2 d=some xs->K (.lst xs.reverse) M2->uRev_3 K d M2
abbrev Zr7(K:K3)(d:D):Option Int->Mem->Prop:=λk M2=>k=some (-1)/\uRev_3 K d M2
abbrev Zr8(us:TO3)(ρ:Ev)(K:K3):D->Mem->Prop:=λd M1=>us ρ M1 (Zr7 K d)
def uRev(ua:TE3)(us:TO3):TE3:=λρ M K=>ua ρ M (Zr8 us ρ K)
def Zw0{ts:TO}{us:TO3}(ha:SimE C Z ta ua)(hs:SimO C Z ts us):SimE C Z (tRev C.k ta ts) (uRev ua us):=λI α σ H ρ M K Q R E h k =>
 ha I α σ H ρ M _ _ R E h λv d I1 B H1 M1 O Y R1 r1 h1 =>
  hs I1 B σ H1 ρ M1 _ _ R1 (E.mono O Y) h1 λo I2 y H2 M2 J p2 R2 h2=>by
   let⟨ho,xs,e,h2⟩:=h2;let⟨a,vs,rfl,ea,ra⟩:=Uo R2 (r1.mono J p2) e;exists ho,a,vs,rfl,ea,λp hp=>?_;let⟨R3,G,e3⟩:=R2.new (o:=.lst vs.reverse) hp;exact k _ _ _ y _ M2 (O.trans (J.trans G)) (Y.trans p2) R3 (.lst e3 (ra.rev.mono G (Jo _))) h2
def valD[DecidableEq κ](kvs:List (κ×D))(k:κ):Option D:=(kvs.find? λh=>decide (h.1=k)).map (·.2)
def putD[DecidableEq κ](kvs:List (κ×D))(k:κ)(v:D):List (κ×D) :=
 if(kvs.any λh=>decide (h.1=k))=true then kvs.map (λh=>if h.1=k then(h.1,v)else h)else kvs++[(k,v)]
def Zjg:D->Option Key
 |.int i=>some (.inl i)
 |.str s=>some (.inr s)
 |_=>none
def Zbj:List D->Option (List Key)
 |[]=>some []
 |d::r=>match Zjg d,Zbj r with|some k,some ks=>some (k::ks)|_,_=>none
def tkOf:D->Option (List Key)
 |.tup ds=>Zbj ds
 |_=>none
section
theorem Qj{v:V}{d:D}{k:Key}(r:Rep C I α v d)(h:Zjg d=some k):v=kV k:=by
 cases r with
 |int i=>cases h;rfl
 |str i=>cases h;rfl
 |_=>cases h
theorem Sl:∀{vs:List V}{ds:List D}{ks:List Key},Reps C I α vs ds->Zbj ds=some ks->vs=ks.map kV
 |_,_,_,.nil,h=>by cases h;rfl
 |_,_,ks,.cons (d:=d) (ds:=ds) a b,h=>by
  unfold Zbj at h;cases h1:Zjg d with
  |none=>simp only[h1]at h;cases h
  |some k =>
   cases h2:Zbj ds with
   |none=>simp only[h1,h2]at h;cases h
   |some r =>
    simp only[h1,h2]at h;cases h;rw[Qj a h1,Sl b h2];rfl
theorem RepK.len:∀{vs:List (Key×V)}{ds:List (Key×D)},RepK C I α vs ds->vs.length=ds.length:=by
 intro _ _ h;cases h with
 |nil=>
  exact rfl
 |cons _ b=>
  exact by rw[Jy,Jy,RepK.len b]
theorem RepT.len:∀{vs:List (List Key×V)}{ds:List (List Key×D)},RepT C I α vs ds->vs.length=ds.length:=by
 intro _ _ h;cases h with
 |nil=>
  exact rfl
 |cons _ b=>
  exact by rw[Jy,Jy,RepT.len b]
def Xj[DecidableEq κ]{k y:κ}{d:D}{r:List (κ×D)}:valD ((y,d)::r) k=if y=k then some d else valD r k:=by
 unfold valD;rw[Gz]
 by_cases h:y=k
 .simp[h]
 .simp[h]
def Zax[DecidableEq κ]{k y:κ}{d:V}{r:List (κ×V)}:valV ((y,d)::r) k=if y=k then some d else valV r k:=by
 unfold valV;rw[Gz]
 by_cases h:y=k
 .simp[h]
 .simp[h]
theorem RepK.val{k:Key}:∀{vs:List (Key×V)}{ds:List (Key×D)},RepK C I α vs ds->(valD ds k=none/\valV vs k=none)\/∃d v,valD ds k=some d/\valV vs k=some v/\Rep C I α v d
 |_,_,.nil=>.inl ⟨rfl,rfl⟩
 |_,_,.cons (k:=k') (v:=v) (d:=d) a b=>by
  rw[Xj,Zax]
  by_cases h:k'=k
  .rw[D7 h,D7 h];exact .inr ⟨d,v,rfl,rfl,a⟩
  .rw[D6 h,D6 h];exact RepK.val b
theorem RepT.val{k:List Key}:∀{vs:List (List Key×V)}{ds:List (List Key×D)},RepT C I α vs ds->(valD ds k=none/\valV vs k=none)\/∃d v,valD ds k=some d/\valV vs k=some v/\Rep C I α v d
 |_,_,.nil=>.inl ⟨rfl,rfl⟩
 |_,_,.cons (k:=k') (v:=v) (d:=d) a b=>by
  rw[Xj,Zax]
  by_cases h:k'=k
  .rw[D7 h,D7 h];exact .inr ⟨d,v,rfl,rfl,a⟩
  .rw[D6 h,D6 h];exact RepT.val b
theorem RepK.any{k:Key}:∀{vs:List (Key×V)}{ds:List (Key×D)},RepK C I α vs ds->(vs.any λh=>decide (h.1=k))=(ds.any λh=>decide (h.1=k)):=by
 intro _ _ y;cases y with
 |nil=>
  exact rfl
 |cons a b=>
  exact by rw[B3,B3,RepK.any b]
theorem RepT.any{k:List Key}:∀{vs:List (List Key×V)}{ds:List (List Key×D)},RepT C I α vs ds->(vs.any λh=>decide (h.1=k))=(ds.any λh=>decide (h.1=k)):=by
 intro _ _ y;cases y with
 |nil=>
  exact rfl
 |cons a b=>
  exact by rw[B3,B3,RepT.any b]
theorem RepK.app:∀{vs ws:List (Key×V)}{ds es:List (Key×D)},RepK C I α vs ds->RepK C I α ws es->RepK C I α (vs++ws) (ds++es):=by
 intro _ _ _ _ h s;cases h with
 |nil=>
  exact s
 |cons r t=>
  exact .cons r (RepK.app t s)
theorem RepT.app:∀{vs ws:List (List Key×V)}{ds es:List (List Key×D)},RepT C I α vs ds->RepT C I α ws es->RepT C I α (vs++ws) (ds++es):=by
 intro _ _ _ _ h s;cases h with
 |nil=>
  exact s
 |cons r t=>
  exact .cons r (RepT.app t s)
theorem RepK.mapPut{k:Key}{v:V}{d:D}(r:Rep C I α v d):∀{vs:List ((Key)×V)}{ds:List ((Key)×D)},RepK C I α vs ds->RepK C I α (vs.map λh=>if h.1=k then(h.1,v)else h) (ds.map λh=>if h.1=k then(h.1,d)else h)
 |_,_,.nil=>.nil
 |_,_,.cons (k:=k') a b=>by
  rw[Jl,Jl]
  by_cases e:k'=k
  .simp only[e,if_true];exact .cons r (RepK.mapPut r b)
  .simp only[e,if_false];exact .cons a (RepK.mapPut r b)
def RepK.put{k:Key}{v:V}{d:D}{vs:List ((Key)×V)}{ds:List ((Key)×D)}(h:RepK C I α vs ds)(r:Rep C I α v d):RepK C I α (putK vs k v) (putD ds k d):=by
 unfold putK putD;rw[h.any]
 split
 .exact RepK.mapPut r h
 .exact h.app (.cons r .nil)
theorem RepT.mapPut{k:List Key}{v:V}{d:D}(r:Rep C I α v d):∀{vs:List ((List Key)×V)}{ds:List ((List Key)×D)},RepT C I α vs ds->RepT C I α (vs.map λh=>if h.1=k then(h.1,v)else h) (ds.map λh=>if h.1=k then(h.1,d)else h)
 |_,_,.nil=>.nil
 |_,_,.cons (k:=k') a b=>by
  rw[Jl,Jl]
  by_cases e:k'=k
  .simp only[e,if_true];exact .cons r (RepT.mapPut r b)
  .simp only[e,if_false];exact .cons a (RepT.mapPut r b)
def RepT.put{k:List Key}{v:V}{d:D}{vs:List ((List Key)×V)}{ds:List ((List Key)×D)}(h:RepT C I α vs ds)(r:Rep C I α v d):RepT C I α (putK vs k v) (putD ds k d):=by
 unfold putK putD;rw[h.any]
 split
 .exact RepT.mapPut r h
 .exact h.app (.cons r .nil)
def Zj5(M:Mem):D->Option (List (Key×D))
 |.dct kvs=>some kvs
 |.cell k=>match M[k]? with|some (.dct kvs)=>some kvs|some (.drK kvs)=>some kvs|some (.dfK _ _ kvs)=>some kvs|_=>none
 |_=>none
def Re(M:Mem):D->Option (List (List Key×D))
 |.dcT kvs=>some kvs
 |.cell k=>match M[k]? with|some (.dcT kvs)=>some kvs|some (.drT kvs)=>some kvs|_=>none
 |_=>none
theorem Zom{v:V}{d:D}{kvs:List (Key×D)}(R:Rel C Z I α H M)(r:Rep C I α v d)(h:Zj5 M d=some kvs):∃a vs,v=.ref a/\Rd H a (.dK vs)/\RepK C I α vs kvs:=by
 cases r with
 |dct e r=>cases h;exists _,·,.inl (R.sub _ _ e),r
 | @cell a k e =>
  unfold Zj5 at h;cases hm:M[k]? with
  |none=>simp only[hm]at h;cases h
  |some m =>
   cases m with
   |dct es=>simp only[hm]at h;cases h;let⟨vs,e1,r⟩:=(R.cel k a _ e hm).1;exists _,·,.inl e1,r
   |drK es=>simp only[hm]at h;cases h;let⟨vs,e1,r⟩:=(R.cel k a _ e hm).1;exists _,·,e1,r
   |dfK o vs es=>simp only[hm]at h;cases h;let⟨e1,r⟩:=(R.cel k a _ e hm).1;exists _,·,.inr ⟨o,e1⟩,r
   |_=>simp only[hm]at h;cases h
 |_=>cases h
theorem Zj6{v:V}{d:D}{kvs:List (List Key×D)}(R:Rel C Z I α H M)(r:Rep C I α v d)(h:Re M d=some kvs):∃a vs,v=.ref a/\Rd H a (.dT vs)/\RepT C I α vs kvs:=by
 cases r with
 |dcT e r=>cases h;exists _,·,.inl (R.sub _ _ e),r
 | @cell a k e =>
  unfold Re at h;cases hm:M[k]? with
  |none=>simp only[hm]at h;cases h
  |some m =>
   cases m with
   |dcT es=>simp only[hm]at h;cases h;let⟨vs,e1,r⟩:=(R.cel k a _ e hm).1;exists _,·,.inl e1,r
   |drT es=>simp only[hm]at h;cases h;let⟨vs,e1,r⟩:=(R.cel k a _ e hm).1;exists _,·,e1,r
   |_=>simp only[hm]at h;cases h
 |_=>cases h
def dGet(M:Mem)(d e:D)(o:Option D):Prop:=(∃kvs k,Zj5 M d=some kvs/\Zjg e=some k/\o=valD kvs k)\/∃kvs k,Re M d=some kvs/\tkOf e=some k/\o=valD kvs k
def Zdh{v w:V}{d e:D}{o:Option D}(R:Rel C Z I α H M)(O:Rep C I α v d)(J:Rep C I α w e)(h:dGet M d e o):∃a o',v=.ref a/\IsD H a/\DGet H a w o'/\((o=none/\o'=none)\/∃x y,o=some x/\o'=some y/\Rep C I α y x):=by
 rcases h with⟨kvs,k,e1,e2,rfl⟩|⟨kvs,k,e1,e2,rfl⟩
 .let⟨a,vs,rfl,B,G⟩:=Zom R O e1;exists a,valV vs k,rfl,.inl ⟨vs,B⟩,by rw[Qj J e2];exact .inl ⟨vs,k,B,rfl,rfl⟩,?_;rcases G.val (k:=k)with⟨h1,h2⟩|⟨x,y,h1,h2,h3⟩
  .exact .inl ⟨h1,h2⟩
  .exact .inr ⟨x,y,h1,h2,h3⟩
 .let⟨a,vs,rfl,B,G⟩:=Zj6 R O e1;cases J with
  | @tup b bs ds eb rb =>
   let Y:H b=some (.tup (k.map kV)):=by rw[<-Sl rb e2];exact R.sub _ _ eb
   exists a,valV vs k,rfl,.inr ⟨vs,B⟩,.inr ⟨vs,k,b,B,rfl,Y,rfl⟩,?_;rcases G.val (k:=k)with⟨h1,h2⟩|⟨x,y,h1,h2,h3⟩
   .exact .inl ⟨h1,h2⟩
   .exact .inr ⟨x,y,h1,h2,h3⟩
  |_=>cases e2
end
inductive uDGet_2(K:K3)(d:D)(e:D)(M2:Mem):Prop
 |mk:∀v,dGet M2 d e (some v)->K v M2->uDGet_2 K d e M2
abbrev Zph(ub:TE3)(ρ:Ev)(K:K3):D->Mem->Prop:=λd M1=>ub ρ M1 (uDGet_2 K d)
def Zwr(ua ub:TE3):TE3:=λρ M K=>ua ρ M (Zph ub ρ K)
def Za5(ha:SimE C Z ta ua)(hb:SimE C Z tb ub):SimE C Z (Zs9 ta tb) (Zwr ua ub):=λI α σ H ρ M K Q R E h k =>
 ha I α σ H ρ M _ _ R E h λv d I1 G H1 M1 O Y R1 r1 h1 =>
  hb I1 G σ H1 ρ M1 _ _ R1 (E.mono O Y) h1 λw e I2 B H2 M2 J p2 R2 r2 h2=>by
   let⟨x,g,h2⟩:=h2;let⟨a,o',rfl,_,g2,z⟩:=Zdh R2 (r1.mono J p2) r2 g;rcases z with⟨z,_⟩|⟨x',y,z1,z2,z3⟩
   .cases z
   .cases z1;subst z2;exists a,y,rfl,g2,k _ _ I2 B H2 M2 (O.trans J) (Y.trans p2) R2 z3 h2
inductive uDIn_2(K:K3)(e:D)(d:D)(M2:Mem):Prop
 |mk:∀o,dGet M2 d e o->K (.bl o.isSome) M2->uDIn_2 K e d M2
abbrev Zsn(ua:TE3)(ρ:Ev)(K:K3):D->Mem->Prop:=λe M1=>ua ρ M1 (uDIn_2 K e)
def uDIn(ub ua:TE3):TE3:=λρ M K=>ub ρ M (Zsn ua ρ K)
def Zxa(hb:SimE C Z tb ub)(ha:SimE C Z ta ua):SimE C Z (tDIn tb ta) (uDIn ub ua):=λI α σ H ρ M K Q R E h k =>
 hb I α σ H ρ M _ _ R E h λw e I1 G H1 M1 O Y R1 r1 h1 =>
  ha I1 G σ H1 ρ M1 _ _ R1 (E.mono O Y) h1 λv d I2 B H2 M2 J p2 R2 r2 h2=>by
   let⟨o,g,h2⟩:=h2;let⟨a,o',rfl,_,g2,z⟩:=Zdh R2 r2 (r1.mono J p2) g;let eo:o'.isSome=o.isSome:=by
    rcases z with⟨rfl,rfl⟩|⟨x',y,rfl,rfl,_⟩<;>rfl
   exact{a,o',rfl,g2,by rw[eo];exact k _ _ I2 B H2 M2 (O.trans J) (Y.trans p2) R2 (.bl _) h2}
def isD(M:Mem)(d:D):Prop:=Zj5 M d≠none\/Re M d≠none
def isD_at{v:V}{d:D}(R:Rel C Z I α H M)(r:Rep C I α v d)(h:isD M d):∃a,v=.ref a/\IsD H a:=by
 rcases h with h|h
 .cases e:Zj5 M d with
  |none=>exact Dx e h
  |some kvs=>obtain⟨a,vs,rfl,y,_⟩:=Zom R r e;exists a,rfl,.inl ⟨vs,y⟩
 .cases e:Re M d with
  |none=>exact Dx e h
  |some kvs=>obtain⟨a,vs,rfl,y,_⟩:=Zj6 R r e;exists a,rfl,.inr ⟨vs,y⟩
inductive uDGet2_3(K:K3)(d:D)(e:D)(x:D)(M3:Mem):Prop
 |mk:∀o,dGet M3 d e o->K (o.getD x) M3->uDGet2_3 K d e x M3
abbrev Zlf(uc:TE3)(ρ:Ev)(K:K3)(d:D):D->Mem->Prop:=λe M2=>uc ρ M2 (uDGet2_3 K d e)
abbrev Zlg(ub:TE3)(uc:TE3)(ρ:Ev)(K:K3):D->Mem->Prop:=λd M1=>isD M1 d/\ub ρ M1 (Zlf uc ρ K d)
def Zso(ua ub uc:TE3):TE3:=λρ M K=>ua ρ M (Zlg ub uc ρ K)
def Zht(ha:SimE C Z ta ua)(hb:SimE C Z tb ub)(hc:SimE C Z tc uc):SimE C Z (Znm ta tb tc) (Zso ua ub uc):=λI α σ H ρ M K Q R E h k =>
 ha I α σ H ρ M _ _ R E h λv d I1 a1 H1 M1 O p1 R1 r1 h1=>by
  let⟨a,rfl,hd⟩:=isD_at R1 r1 h1.1;exists a,rfl,hd,hb I1 a1 σ H1 ρ M1 _ _ R1 (E.mono O p1) h1.2 λw e I2 a0 H2 M2 J p2 R2 r2 h2=>?_;refine hc I2 a0 σ H2 ρ M2 _ _ R2 (E.mono (O.trans J) (p1.trans p2)) h2 λx' x I3 B H3 M3 G Y R3 r3 h3=>?_;let⟨o,g,h3⟩:=h3;let⟨b,o',eb,_,g2,z⟩:=Zdh R3 (r1.mono (J.trans G) (p2.trans Y)) (r2.mono G Y) g;cases eb;exists o',g2,?_;rcases z with⟨rfl,rfl⟩|⟨x',y,rfl,rfl,z3⟩
  .exact k _ _ I3 B H3 M3 (O.trans (J.trans G)) (p1.trans (p2.trans Y)) R3 r3 h3
  .exact k _ _ I3 B H3 M3 (O.trans (J.trans G)) (p1.trans (p2.trans Y)) R3 z3 h3
def Zsm:TE3:=λ_ M K=>K (.cell M.length) (M++[.dcT []])
def Zhs:SimE C Z Znk Zsm:=λI α σ H ρ M K Q R E h k p y=>by
 let⟨R2,p2,e2⟩:=R.cell (o:=.dT []) (m:=.dcT []) y λH' e=>{[],e,.nil};exact k _ _ I _ _ _ (.refl _) p2 R2 (.cell e2) h
def dPut(M:Mem)(d e v:D)(h:Mem):Prop:=(∃j kvs k,d=.cell j/\M[j]?=some (.dct kvs)/\Zjg e=some k/\kvs.length<Ca/\h=M.set j (.dct (putD kvs k v))) \/
 ∃j kvs k,d=.cell j/\M[j]?=some (.dcT kvs)/\tkOf e=some k/\kvs.length<Ca/\h=M.set j (.dcT (putD kvs k v))
inductive uDPut_3(E:Ends3)(ρ:Ev)(v:D)(d:D)(e:D)(M3:Mem):Prop
 |mk:∀M4,dPut M3 d e v M4->E.nx ρ M4->uDPut_3 E ρ v d e M3
abbrev Zpf(ub:TE3)(E:Ends3)(ρ:Ev)(v:D):D->Mem->Prop:=λd M2=>ub ρ M2 (uDPut_3 E ρ v d)
abbrev Zpg(ua:TE3)(ub:TE3)(E:Ends3)(ρ:Ev):D->Mem->Prop:=λv M1=>ua ρ M1 (Zpf ub E ρ v)
def Zwq(ua ub uc:TE3):TS3:=λE ρ M=>uc ρ M (Zpg ua ub E ρ)
def Zn0(ha:SimE C Z ta ua)(hb:SimE C Z tb ub)(hc:SimE C Z tc uc):SimS C Z (Ztx ta tb tc) (Zwq ua ub uc):=λI α σ H ρ M E D' R RE h F =>
 hc I α σ H ρ M _ _ R RE h λv d0 I1 a2 H1 M1 Y p1 R1 r1 h1=>ha I1 a2 σ H1 ρ M1 _ _ R1 (RE.mono Y p1) h1 λx d I2 a1 H2 M2 O p2 R2 r2 h2 =>
  hb I2 a1 σ H2 ρ M2 _ _ R2 (RE.mono (Y.trans O) (p1.trans p2)) h2 λy e I3 J H3 M3 B G R3 r3 h3=>by
   let⟨M4,g,h3⟩:=h3;let rv:=r1.mono (O.trans B) (p2.trans G);let a0:=RE.mono (Y.trans (O.trans B)) (p1.trans (p2.trans G));rcases g with⟨j,kvs,kk,rfl,e1,e2,hl,rfl⟩|⟨j,kvs,kk,rfl,e1,e2,hl,rfl⟩
   .let⟨a,rfl,ec⟩:=(r2.mono B G).inv;let⟨vs,ea,ra⟩:=(R3.cel j a _ ec e1).1;exists a,·,by rw[Qj r3 e2];exact DPut.k ea (by rw[ra.len];exact hl),?_;exact F.nx I3 J σ _ ρ _ (Y.trans (O.trans B)) (p1.trans (p2.trans G)) (R3.put (m:=.dct (putD kvs kk d0)) ec λH' e=>{_,e,ra.put rv}) a0 h3
   .let⟨a,rfl,ec⟩:=(r2.mono B G).inv;let⟨vs,ea,ra⟩:=(R3.cel j a _ ec e1).1;cases r3 with
    | @tup b bs ds eb rb =>
     let hb:H3 b=some (.tup (kk.map kV)):=by rw[<-Sl rb e2];exact R3.sub _ _ eb
     exists a,·,DPut.t ea hb (by rw[ra.len];exact hl),?_;exact F.nx I3 J σ _ ρ _ (Y.trans (O.trans B)) (p1.trans (p2.trans G)) (R3.put (m:=.dcT (putD kvs kk d0)) ec λH' e=>{_,e,ra.put rv}) a0 h3
    |_=>cases e2
abbrev noF(m:Str):Prop:=∀a b c d e:V,Ki m [("pairs",a),("words_by_sign",b),("signs_by_word",c),("begun",d),("word_sizes",e)]=none
abbrev Zla(sp:Sp3)(K:K3)(d:D):List D->Mem->Prop:=λds M2=>sp (d::ds) M2 K
abbrev Zlb(sp:Sp3)(u:TA3)(ρ:Ev)(K:K3):D->Mem->Prop:=λd M1=>(∃S,d=.code S)/\u ρ M1 (Zla sp K d)
def Zse(sp:Sp3)(ua:TE3)(u:TA3):TE3:=λρ M K=>ua ρ M (Zlb sp u ρ K)
def Rv{m:Str}{sp:Sp3}(hm:noF m)(ha:SimE C Z ta ua)(hr:SimA C Z t u):SimE C Z (Zg2 C.c m (spOf C sp) [] E0 ta t) (Zse sp ua u):=λI α σ H ρ M K Q R E h k =>
 ha I α σ H ρ M _ _ R E h λv d I1 B H1 M1 J O Y r1 h1=>by
  let⟨⟨S,rfl⟩,h1⟩:=h1;cases r1 with
  | @code x _ hc =>
   let⟨dx,tp,d1,d2,d3,d4,ex,ci⟩:=hc;exists x,dx,·,Y.sub _ _ ex,hm _ _ _ _ _,?_;refine hr I1 B σ H1 ρ M1 _ _ Y (E.mono J O) h1 λvs ds I2 y H2 M2 G p2 R2 r2 h2=>?_;rw[Gg];exists Z,I2,y,M2,_,K,R2,.cons (.code (Uu.same ⟨dx,tp,d1,d2,d3,d4,ex,ci⟩ G)) r2,h2,k.mono (J.trans G) (O.trans p2)
def Met.imp{base:Heap}{C:Addr}{m:Str}{k:Nat}{sp y:Sp}(c:Met P w K mg base C m k ps sp)(h:∀vs H Q E,y vs H Q E->sp vs H Q E):Met P w K mg base C m k ps y :=
 let⟨f,fd,a,b,e,d⟩:=c
 {f,fd,a,b,e.imp h,d}
def Rel.made{Y:Nat}{x:Addr}{q:Str}(R:Rel C Z I α H M)(G:M[Y]?=some (.tab Pt pos q))(nx:H x=none)(tb:V3 Pt pos q H')(g:∀b o,b≠x->b≠Pt->H b=some o->H' b=some o) :
  ∃I',Same I I'/\Rel C Z I' α H' M/\∀b o,H' b=some o->b∉α->I' b=some o:=by
 let⟨P',eP,⟨rfl,a3,e0,_⟩,iP⟩:=R.get G;let a0:∀b,b∈α->b≠x:=λb O=>by
  let⟨k,G,rfl⟩:=Gh O;exact R.cellNe (Jb G) nx
 let hI:∀b o,I b=some o->b∉α:=λb o e O=>by
  let⟨k,G,rfl⟩:=Gh O;let a1:k<M.length:=by rw[<-R.len];exact G
  rw[(R.cel k _ _ (Jb G) (Jb a1)).2]at e;cases e
 let hS:∀b o,I b=some o->H' b=some o:=λb o e=>g b o (λz=>by rw[z,R.sub.free nx]at e;cases e) (λz=>by rw[z,iP]at e;cases e) (R.sub b o e);let s:Same I (λb=>if b∈α then none else H' b):=λb o e=>by
  show(if b∈α then none else H' b)=some o;rw[D6 (hI b o e)];exact hS b o e
 let hc:∀(k:Nat)(a:Addr)(m:MO),k≠Y->α[k]?=some a->M[k]?=some m->H' a=H a:=λk a m ne h1 h2=>by
  let⟨o,eo⟩:=(R.cel k a m h1 h2).1.some;let n2:a≠P':=λz=>by
   let⟨hj,ej⟩:=Jg.mp h1;let⟨G,ek⟩:=Jg.mp eP;rw[<-ej,<-ek]at z;exact ne ((Bh R.nd).mp z)
  exact(g a o (a0 a (G1 h1)) n2 eo).trans eo.symm
 exists _,s,{R.ai.trans s,R.aa,λb o e=>?_,R.len,R.nd,λk a m h1 h2=>?_},λb o e O=>?_
 .let e':(if b∈α then none else H' b)=some o:=e
  split at e'
  .cases e'
  .exact e'
 .refine{?_,by show(if a∈α then none else H' a)=none;rw[D7 (G1 h1)]}
  by_cases ne:k=Y
  .subst ne;rw[eP]at h1;cases h1;rw[G]at h2;cases h2;let⟨ps,e1,t1,z⟩:=tb;exists rfl,ps,e1,t1,?_;rcases z with z|⟨c,z1,z2⟩
   .exact .inl z
   .refine .inr {c,z1,?_};show(if c∈α then none else H' c)=_;rw[D6,z2];intro J;let⟨j,hj,ec⟩:=Gh J;let a2:j<M.length:=by rw[<-R.len];exact hj
    let h1:=Jb hj;let h2:=Jb a2;rw[ec]at h1
    by_cases nj:j=k
    .subst nj;rw[eP]at h1;cases h1;rw[e1]at z2;cases z2
    .let y:=hc j c _ nj h1 h2;let B:=(R.cel j c _ h1 h2).1;rw[z2]at y;cases hm:M[j]with
     |lst ds=>rw[hm]at B;let⟨vs,e,_⟩:=B;rw[e]at y;cases y
     |dct ds=>rw[hm]at B;let⟨vs,e,_⟩:=B;rw[e]at y;cases y
     |dcT ds=>rw[hm]at B;let⟨vs,e,_⟩:=B;rw[e]at y;cases y
     |drK ds=>rw[hm]at B;let⟨vs,e,_⟩:=B;rcases e with e|⟨o,e⟩<;>(rw[e]at y;cases y)
     |drT ds=>rw[hm]at B;let⟨vs,e,_⟩:=B;rcases e with e|⟨o,e⟩<;>(rw[e]at y;cases y)
     |dfT o vs ds=>rw[hm]at B;rw[B.1]at y;cases y
     |dfK o vs ds=>rw[hm]at B;rw[B.1]at y;cases y
     |ins Cl fs=>rw[hm]at B;let⟨dx,vs,e,_⟩:=B;rw[e]at y;cases y
     |hand=>rw[hm]at B;let⟨d,k,c,cs,e,_⟩:=B;rw[e]at y;cases y
     |tab P pos q=>rw[hm]at B;let⟨_,ps,e,_⟩:=B;rw[e]at y;cases y
     |dcN sh z ds =>
      rw[hm]at B;cases z with
      |none =>
       let⟨vs,e,_⟩:=B;rw[e]at y;exact dnP.ne {.none,none,.fields #[.none,.str q default],#[]} rfl (λh g=>{c,_,_,_,rfl,g,rfl,rfl}) (HO.ext.inj (Jaa y)).symm
      |some z=>rw[B.1]at y;cases y
  .exact(R.cel k a m h1 h2).1.mono s (Jo _) (hc k a m ne h1 h2)
 .show(if b∈α then none else H' b)=some o;rw[D6 O];exact e
def Zck(C Pt:Addr)(pos:Pos)(q:Str):Sp:=λvs H Q _=>∃x a dx L,vs=[.ref x,.ref a]/\H x=some (.ins C dx [])/\Ve H a L/\Free L/\Fits L/\V3 Pt pos q H /\
 ∀(H':Hp)(S:List Pr),S.Perm L->Zdt S->(∃dx G B y h J,H' x=some (.ins C dx [("pairs",.ref G),("words_by_sign",.ref B),("signs_by_word",.ref y),("begun",.ref h),("word_sizes",.ref J)])/\CodeIn H' G B y h J S/\H B=none/\H y=none/\H h=none)->V3 Pt pos q H' ->
  (∀b o,b≠x->b≠Pt->H b=some o->H' b=some o)->Q .non H'
def Zpb(Pt:Addr)(pos:Pos)(q:Str)(u:TA3):TE3:=λρ M K=>u ρ M λds M1=>∃(h:Nat)(d:D)(L:List Pr),M1[h]?=some (.tab Pt pos q)/\ds=[d]/\lsOf M1 d=some (L.map pD)/\(Free L/\Fits L)/\∀S:List Pr,S.Perm L->Zdt S->K (.code S) M1
def Zlr{q:Str}(hr:SimA C Z t u):SimE C Z (Zli C.c (Zck C.c Pt pos q) [] E0 t) (Zpb Pt pos q u):=λI α σ H ρ M K Q R E h k =>
 hr I α σ H ρ M _ _ R E h λvs ds I1 G H1 M1 s1 p1 B r1 h1=>by
  let⟨k0,d,L,hk,rfl,e1,⟨fr,fi⟩,h1⟩:=h1;intro x dx nx a5 ne;refine Reps.e1 r1 λ_ r1=>?_;let⟨a,vs,rfl,ea,ra⟩:=Qa B r1 e1;let⟨P',eP,⟨a6,ps,ep,tp,cp⟩,iP⟩:=B.get hk;subst a6;let J:Same H1 (upd (upd H1 dx (.own x)) x (.ins C.c dx [])):=(Zc a5).trans (Zc (by rw[Zo (Hd ne)];exact nx));let a4:Ve H1 a L:={vs,ea,Ny (F:=Pf H1) (f:=pD) (λv a z=>Zud B.sub z) ra};let a3:V3 P' pos q H1:={ps,ep,tp,by
   rcases cp with z|⟨c,z1,z2⟩
   .exact .inl z
   .exact .inr {c,z1,B.sub _ _ z2}}
  exists x,a,dx,L,rfl,Ze,a4.same J,fr,fi,a3.same J,λH' S pm ri ca tb g=>{rfl,?_};let⟨I',s',R',f⟩:=B.made hk nx tb λb o n1 n2 e=>g b o n1 n2 (J b o e);let O:x∉G:=B.out nx;let⟨a7,a0,d1,d2,d3,d4,ex,⟨⟨Y,a1,a2⟩,⟨k1,b1,b2⟩,⟨k2,c1,c2⟩,⟨k3,f1,f2⟩,⟨k4,g1,g2⟩⟩,n1,n2,n3⟩:=ca;let y:∀b xs,H' b=some (.tup xs)->I' b=some (.tup xs):=λb xs e=>f b _ e (R'.tupOut e);let no:∀b o,H' b=some o->(upd (upd H1 dx (.own x)) x (.ins C.c dx [])) b=none->I' b=some o:=λb o e n=>f b o e (B.out (J.free n));refine k _ _ I' G H' M1 (s1.trans s') p1 R' (.code {a7,a0,d1,d2,d3,d4,f _ _ ex O,{Y,y _ _ a1,Paired.mapP a2 λv p z=>?_},{k1,no _ _ b1 n1,λp hp=>?_,b2.2},⟨k2,no _ _ c1 n2,c2⟩,⟨k3,no _ _ f1 n3,f2⟩,⟨k4,y _ _ g1,g2⟩}) (h1 S pm ri)
  .let⟨t,tw,e1,e2,e3⟩:=z;exists t,tw,e1,y _ _ e2,y _ _ e3
  .let⟨t,u1,u2⟩:=b2.1 p hp;exists t,u1,y _ _ u2
end
def Zu5:MO->Option D
 |.lst xs=>some (.lst xs)
 |.dct kvs=>some (.dct kvs)
 |.dcT kvs=>some (.dcT kvs)
 |_=>none
def frzK(h:Nat)(K:K3):K3:=λd y=>∃m d',d=.cell h/\y.length=h+1/\y[h]?=some m/\Zu5 m=some d'/\(∀m∈y,Y8 h m)/\K d' (y.take h)
theorem Zrh{a:Addr}{d:D}(h:MoAt C I α H a m)(e:Zu5 m=some d)(ia:I a=none):∃o,H a=some o/\Rep C (upd I a o) α (.ref a) d:=by
 let y:=Jo α;cases m with
 |lst ds=>cases e;let⟨vs,e,r⟩:=h;exists _,e,.lst Ze (r.mono (Zc ia) y)
 |dct ds=>cases e;let⟨vs,e,r⟩:=h;exists _,e,.dct Ze (r.mono (Zc ia) y)
 |dcT ds=>cases e;let⟨vs,e,r⟩:=h;exists _,e,.dcT Ze (r.mono (Zc ia) y)
 |_=>cases e
theorem Fin.frz{C:Cf}{Z:Anc}{I:Hp}{α:List Addr}{K:K3}{Q:VK}(k:Fin C Z I α K Q){y:Nat}(hn:α.length=y)(Y:Z.a<+:α):Fin C Z I α (frzK y K) Q:=λv d I' α' H' M' s p R r h=>by
 let⟨m,d',rfl,hl,e,ed,hm,h⟩:=h;let⟨a,rfl,ec⟩:=r.inv;let⟨mo,ia⟩:=R.cel y a _ ec e;let O:=hm m (G1 e) _ _ _ _ _ mo;let⟨o,ea,ra⟩:=Zrh O ed ia;let B:=R.take y (by have:=Y.length_le;lia) λx hx=>hm x (Gv hx);let an:a∉α'.take y:=λY=>by
  let⟨j,hj,ej⟩:=Gh Y;rw[Jz]at hj;rw[Bx]at ej;let⟨a0,en⟩:=Jg.mp ec;rw[<-en]at ej;let:=(Bh R.nd).mp ej;lia
 let J:Same I' (upd I' a o):=Zc ia;let R2:Rel C Z (upd I' a o) (α'.take y) H' (M'.take y):=by
  exists B.ai.trans J,B.aa,λb u G=>?_,B.len,B.nd,λk b m h1 h2=>?_
  .by_cases z:b=a
   .subst z;rw[Ze]at G;cases G;exact ea
   .rw[Zo z]at G;exact B.sub b u G
  .let⟨a1,a2⟩:=B.cel k b m h1 h2;let ne:b≠a:=λz=>an (z ▸ G1 h1);exact{a1.mono J (Jo _) rfl,by rw[Zo ne];exact a2}
 exact k _ _ _ (α'.take y) H' _ (s.trans J) (Tw p ()) R2 ra h
def uFrz(u:TE3):TE3:=λρ M K=>u ρ M (frzK M.length K)
def Zlt{t:TE}{u:TE3}(h:SimE C Z t u):SimE C Z t (uFrz u):=λI α σ H ρ M K Q R E y k=>h I α σ H ρ M _ _ R E y (k.frz R.len R.aa)
def Yj :(M++[m])[M.length]?=some m:=by simp
def Y5{h:MO}:(M++[m]).set M.length h=M++[h]:=by simp
section
def Zup{v:V}{d:D}(R:Rel C Z I α H M)(r:Rep C I α v d)(h:lsOf M d=some (ns.map .int)):∃a,v=.ref a/\H a=some (.lst (ns.map V.int)):=by
 let⟨a,vs,rfl,y,B⟩:=Qa R r h;rw[B.of_ints ns]at y;exists a,rfl,y
end
def Znt(K:Cq)(Pt:Addr)(pos:Pos)(q:Str):Sp:=λvs H Q _=>∃(a:Addr)(ns:List Int),vs=[.ref a]/\SqL K H a (ns.map V.int)/\ns.length<=63/\V3 Pt pos q H/\∀H',Q (.bl true) H'
inductive dLawT(Pt:Addr)(pos:Pos)(q:Str)(ds:List D)(M:Mem)(K:K3):Prop
 |mk:∀ns:List Int,ds=[.frz (ns.map .int)]->(M=[.tab Pt pos q]/\ns.length<=63/\∀M',K (.bl true) M')->dLawT Pt pos q ds M K
def Zq3{q:Str}{E:XK}(h:Znt C.k Pt pos q vs H Q E):spOf C (dLawT Pt pos q) vs H Q E:=by
 let⟨a,ns,rfl,y,hl,⟨ps,B,J,Z⟩,k⟩:=h;let O:Same (λb=>if b=Pt then none else H b) H:=λb o e=>by
  let G:(if b=Pt then none else H b)=some o:=e
  split at G
  .cases G
  .exact G
 exists{λ_=>none,[],λ_ _ _=>False,λ_ _ _=>False},λb=>if b=Pt then none else H b,[Pt],[.tab Pt pos q],[.frz (ns.map .int)],λd _=>d=.bl true,{(λ_ _ h=>nomatch h),List.nil_prefix,O,rfl,by simp,λY a' m h1 h2=>?_},?_,{ns,rfl,rfl,hl,λ_=>rfl},λv d I' α' H' M' s p R r h=>?_
 .cases Y with
  |succ n=>simp at h1
  |zero =>
   simp at h1 h2;subst h1;subst h2;exists{rfl,ps,B,J,?_},D7 rfl;rcases Z with z|⟨c,z1,z2⟩
   .exact .inl z
   .exact .inr {c,z1,by
     show(if c=Pt then none else H c)=_;rw[D6 (X5 z2 B λz=>by cases z)];exact z2}
 .refine .one (.frz ?_ (.ints ns));rcases y with(y|⟨o,y⟩)|y
  .exact .inl (.inl (by
    show(if a=Pt then none else H a)=_;rw[D6 (X5 y B λz=>by cases z)];exact y))
  .exact .inl (.inr {o,by
    show(if a=Pt then none else H a)=_;rw[D6 (X5 y B λz=>by cases z)];exact y})
  .exact .inr y
 .subst h;cases r.inv;exact k H'
def Zab{i:Nat}{x:D}(h:(ns.map D.int)[i]?=some x):∃hi:i<ns.length,x=.int ns[i]:=by
 let⟨hi,e⟩:=Jg.mp h;rw[Ja]at hi;exists hi,?_;rw[<-e,Bv]
def Z4{f:τ->D}{as:List τ}{i:Nat}{x:D}(h:(as.map f)[i]?=some x):∃hi:i<as.length,x=f as[i]:=by
 let⟨hi,e⟩:=Jg.mp h;rw[Ja]at hi;exact{hi,by rw[<-e,Bv]}
def Yu{f:τ->D}{as:List τ}{i:Int}(h:i=j)(y:j<as.length):L2.atI (as.map f) i=some (f as[j]):=by
 subst h;exact Zdq (by rw[Gc,Jb y];rfl)
def Vw{xs:List D}:lsOf (M++[.lst xs]) (.cell M.length)=some xs:=by simp[lsOf]
def Rn{xs:List D}:Xx (M++[.lst xs]) (.cell M.length)=some xs:=by simp[Xx]
def W9{d:D}{xs:List D}(h:lsOf M d=some xs):lsOf M d≠none:=by rw[h];exact λz=>nomatch z
def Zao{y:Mem}{d:D}{K:K3}(p:M<+:y)(G:WfM M)(B:Yb M.length d)(h:K d M):Dk M.length K d y:=by
 let⟨t,rfl⟩:=p;exact .inr {M.length,Ji _,B,by rw[B8];exact G,by rw[B8];exact h}
def P0{n:Nat} :Yb n (.lst (ns.map .int)):=V2 (X1 (λ_=>Xo) ns)
end L3
variable{C:L3.Cf}{M:L3.Mem}{Z:L3.Anc}{ds:List L3.D}{m:L3.MO}{ρ:L3.Ev}{ua ub:L3.TE3}{ui:L3.TI3}
namespace L3
def Zte{E:TE3}{ug:TG3}{u':TS3}{En:Ends3}(S:D->Mem->Prop)(h1:∀K:K3,(∀d h,S d h->K d h)->E ρ M K)(h2:∀d h,S d h->ug d ρ h (u' En)):uSeq (uAsg E ug) u' En ρ M:=h1 _ h2
def g_nx{i:Nat}{d:D}{K:Ev->Mem->Prop}(h:K (ρ.set i (some d)) M):uG i d ρ M K:=h
end L3
namespace L3
open PySem L2
def kD:Key->D
 |.inl i=>.int i
 |.inr s=>.str s
def Qx[DecidableEq κ](kvs zs:List (κ×D)):List (κ×D):=zs.foldl (λa z=>putD a z.1 z.2) kvs
def Zd4[DecidableEq κ]{k B:κ}{v:D}:∀{kvs:List (κ×D)},valD (putD kvs k v) B=if B=k then some v else valD kvs B:=by
 let mapped:∀kvs:List (κ×D),(kvs.any λy=>decide (y.1=k))=true->valD (kvs.map λy=>if y.1=k then(y.1,v)else y) B=if B=k then some v else valD kvs B:=by
  intro kvs
  induction kvs with
  |nil=>intro h;cases h
  |cons p r G =>
   intro h;let⟨a,b⟩:=p;rw[Jl]
   by_cases e:a=k
   .subst e;simp only[if_true];rw[Xj,Xj]
    by_cases z:a=B
    .rw[D7 z,D7 z.symm]
    .rw[D6 z,D6 (Hd z),D6 z]
     by_cases J:(r.any λy=>decide (y.1=a))=true
     .rw[G J,D6 (Hd z)]
     .let:r.map (λy=>if y.1=a then(y.1,v)else y)=r:=by
       refine(Gw λy O=>?_).trans (List.map_id r);let:¬ y.1=a:=λz=>J (Fm.mpr ⟨y,O,by simpa using z⟩);rw[D6 this];rfl
      rw[this]
   .simp only[e,if_false];rw[Xj,Xj];let J:(r.any λy=>decide (y.1=k))=true:=by simpa[e]using h
    rw[G J]
    by_cases z:a=B
    .rw[D7 z,D6 (λq=>e (z.trans q)),D7 z]
    .rw[D6 z,D6 z]
 let none_:∀kvs:List (κ×D),¬ (kvs.any λy=>decide (y.1=k))=true->valD (kvs++[(k,v)]) B=if B=k then some v else valD kvs B:=by
  intro kvs
  induction kvs with
  |nil =>
   intro _;rw[List.nil_append,Xj]
   by_cases z:k=B
   .rw[D7 z,D7 z.symm]
   .rw[D6 z,D6 (Hd z)]
  |cons p r G =>
   intro h;let⟨a,b⟩:=p;rw[B3,Bool.or_eq_true]at h;let h1:¬ a=k:=λz=>h (.inl (by simpa using z));rw[Je1,Xj,Xj,G λz=>h (.inr z)]
   by_cases z:a=B
   .rw[D7 z,D6 (λq=>h1 (z.trans q)),D7 z]
   .rw[D6 z,D6 z]
 intro kvs;unfold putD
 split
 .exact mapped kvs (by assumption)
 .exact none_ kvs (by assumption)
theorem So[DecidableEq κ]{k:κ}:∀(zs kvs:List (κ×D)),(∀z∈zs,z.1≠k)->valD (Qx kvs zs) k=valD kvs k
 |[],kvs,_=>rfl
 |z::r,kvs,h=>by
  show valD (Qx (putD kvs z.1 z.2) r) k=_;rw[So r _ λy B=>h y (Jf _ B),Zd4,D6 (λe=>h z Jh e.symm)]
theorem Pu[DecidableEq κ]{k:κ}{v:D}:∀(zs kvs:List (κ×D)),(zs.map (·.1)).Nodup->(k,v)∈zs->valD (Qx kvs zs) k=some v
 |[],kvs,_,h=>nomatch h
 |z::r,kvs,nd,h=>by
  show valD (Qx (putD kvs z.1 z.2) r) k=_;rw[Jl,Fh]at nd;rcases J9.mp h with e|h
  .subst e;rw[So r _ λy G e=>nd.1 (by
    let B:y.1∈r.map (·.1):=Jk.mpr ⟨y,G,rfl⟩;rw[e]at B;exact B),Zd4,D7 rfl]
  .exact Pu r _ nd.2 h
def Zr3(h:List (Key×D))(S:List Pr):Prop:=(∀p∈S,valD h (.inl p.1)=some (wD p.2))/\∀s:Int,(∀p∈S,p.1≠s)->valD h (.inl s)=none
def prK(p:Pr):Key×D:=(.inl p.1,wD p.2)
def Sf(y:Free L):Zr3 (Qx [] (L.map prK)) L:=by
 let nd:((L.map prK).map (·.1)).Nodup:=by
  rw[Ju];exact Jr.mpr (y.imp λ{a b}z e=>z.1 (Kh e))
 exists λp h=>Pu _ _ nd (Jk.mpr ⟨p,h,rfl⟩),λs hs=>?_;rw[So _ _ λz hz e=>?_]
 .rfl
 .let⟨p,h,rfl⟩:=Jk.mp hz;exact hs p h (Kh e)
section
theorem Ze8 :∀{ws:List (Key×V)}{zs:List (Key×D)}{vs:List (Key×V)}{ds:List (Key×D)},RepK C I α ws zs->RepK C I α vs ds->RepK C I α (Xf vs ws) (Qx ds zs)
 |_,_,_,_,.nil,h=>h
 |_,_,vs,ds,.cons (k:=k) (v:=v) (d:=d) (vs:=ws) (ds:=zs) a b,h=>by
  show RepK C I α (Xf (putK vs k v) ws) (Qx (putD ds k d) zs);exact Ze8 b (h.put a)
theorem Zux{v:V}{k:Key}(r:Rep C I α v (kD k)):v=kV k:=by
 cases k with
 |inl i=>cases r.inv;rfl
 |inr s=>cases r.inv;rfl
theorem Pk(R:Rel C Z I α H M):∀{vs:List V}(zs:List (Key×D)),Reps C I α vs (zs.map λz=>.tup [kD z.1,z.2])->∃ws:List (Key×V),Zdu C.k H vs (ws.map λz=>(kV z.1,z.2))/\RepK C I α ws zs
 |_,[],r=>by cases r;exists [],.nil,.nil
 |_,z::zs,r=>by
  cases r with
  |cons a b =>
   let⟨ws,p,q⟩:=Pk R zs b;cases a with
   |tup e y =>
    cases y with
    |cons y h =>
     cases h with
     |cons h G =>
      cases G
      rename_i J B
      exists(z.1,B)::ws,.cons {_,rfl,SqT.of ?_} p,?_
      .show H _=some (.tup [kV z.1,B]);rw[<-Zux y];exact R.sub _ _ e
      .exact .cons h q
inductive dictP3(ds:List D)(M:Mem)(K:K3):Prop
 |mk:∀(d:D)(zs:List (Key×D)),ds=[d]->lsOf M d=some (zs.map λz=>.tup [kD z.1,z.2])->zs.length<1000->K (.dct (Qx [] zs)) M->dictP3 ds M K
theorem Nj:SimC C Z (Zcr C.k) dictP3:=λI α H M xs ds K Q R r h k=>by
 let⟨d,zs,rfl,e,hl,h⟩:=h;refine Reps.e1 r λ_ J=>?_;let⟨a,vs,rfl,Y,G⟩:=Qa R J e;let⟨ws,pw,y⟩:=Pk R zs G;exists a,vs,_,.dK [],rfl,.inl Y,pw,.inl rfl,λD O=>{_,Zap _ [] ?_,?_}
 .rw[Bf,y.len];exact Gu (by lia:0+zs.length<=1000) nofun
 .let⟨R2,B,e2⟩:=R.new (o:=.dK (Xf [] ws)) O;exact k.on B R2 (.dct e2 ((Ze8 y .nil).mono B (Jo _))) h
def osOf(R:List En):List (Option Int):=R.map λe=>e.2
inductive dFrom(ds:List D)(M:Mem)(K:K3):Prop
 |mk:∀(L:List Pr)(d:D)(ns:List Int)(pl:Nat),ds=[.lst (L.map pD),d,.int pl]->(lsOf M d=some (ns.map .int)/\(L.length<64/\pl<=ns.length)/\(∀p∈L,p.2<+:ns.drop pl->K (.tup [.int p.1,.int ((pl+p.2.length:Nat):Int)]) M)/\((∀p∈L,¬ p.2<+:ns.drop pl)->K .non M))->dFrom ds M K
def Zv0{E:XK}(h:spOf C dFrom vs H Q E):Znu vs H Q E:=by
 let⟨Z,I,α,M,ds,K,R,r,⟨L,d,ns,pl,rfl,e1,⟨h1,h3⟩,ha,hb⟩,y⟩:=h;refine Reps.e3 r λ_ _ _ Y O J=>?_;cases J.inv;let⟨ta,_,rfl,_,ht⟩:=Zlh R Y;let⟨G,rfl,ex⟩:=Zup R O e1;exists ta,G,L,ns,pl,rfl,ht,h1,ex,h3,λp hp hw t H' s B=>?_,λhn H' s=>y _ _ I α H' M (.refl _) (Jo _) (R.same s) .non (hb hn);let⟨I',s',R',fl⟩:=(R.same s).full;exact y _ _ I' α H' M s' (Jo _) R' (.tup (fl _ _ B ((R.same s).tupOut B)) (.cons (.int _) (.one (.int _)))) (ha p hp hw)
end
def Zdn(h:X.K=K)(y:Room 3 X.A)(B:X.calm=true):Wi X (.type "dict") (Zcr K):=by subst h;exact Wm y B
def Zg6{u u':TS3}{En:Ends3}(S:Ev->Mem->Prop)(h1:∀B:Ev->Mem->Prop,(∀h y,S h y->B h y)->u {En with nx:=B} ρ M)(h2:∀h y,S h y->u' En h y):uSeq u u' En ρ M:=h1 _ h2
theorem Zi5{d:D}{xs:List D}(h:lsOf M d=some xs):lsOf (M++[m]) d=some xs:=by
 cases d with
 |lst ys=>exact h
 |cell k =>
  simp only[lsOf]at h⊢
  by_cases hk:k<M.length
  .rw[Jw hk];exact h
  .rw[Bk (Fl hk)]at h;exact nomatch h
 |_=>exact nomatch h
section
inductive sum3(ds:List D)(M:Mem)(K:K3):Prop
 |mk:∀(d:D)(ns:List Int),ds=[d]->Xx M d=some (ns.map .int)->K (.int ns.sum) M->sum3 ds M K
def rSum(K:Cq):List V->Hp->VK->Prop:=λxs H Q=>∃(p:Addr)(ns:List Int),xs=[.ref p]/\SqL K H p (ns.map V.int)/\Q (.int ns.sum) H
def Zvt(h:X.K=K')(y:X.calm=true):Wi X (.builtin "sum") (rSum K'):=by subst h;exact Zmz y
def Zwx:SimC C Z (rSum C.k) sum3:=λI α H M xs ds K Q R r h k=>by
 let⟨d,bs,rfl,e,h⟩:=h;refine Reps.e1 r λ_ G=>?_;let⟨a,vs,rfl,y,B⟩:=Uo R G e;rw[B.of_ints bs]at y;exists a,bs,rfl,y,k.now R (.int _) h
end
def Q8(f:Str)(v:D):List (Str×D)->List (Str×D)
 |[]=>[(f,v)]
 |(g,x)::r=>if g=f then(g,v)::r else(g,x)::Q8 f v r
section
abbrev FldR(C:Cf)(I:Hp)(α:List Addr):Str×V->Str×D->Prop:=λp q=>p.1=q.1/\Rep C I α p.2 q.2
theorem Zbs{f:Str}{d:D}:∀{vs:List (Str×V)}{fs:List (Str×D)},Paired (FldR C I α) vs fs->fs.lookup f=some d->∃v,vs.lookup f=some v/\Rep C I α v d
 |_,_,.nil,h=>nomatch h
 |_,_,.cons (a:=(g,v)) (b:=(g',d')) a r,h=>by
  let⟨e,y⟩:=a;let e:g=g':=e;subst e;rw[Bt]at h⊢;cases z:f==g with
  |true=>rw[z]at h;cases h;exists v,rfl,y
  |false=>rw[z]at h;exact Zbs r h
theorem Ze7{f:Str}{v:V}{d:D}(y:Rep C I α v d):∀{vs:List (Str×V)}{fs:List (Str×D)},Paired (FldR C I α) vs fs->Paired (FldR C I α) (putF f v vs) (Q8 f d fs)
 |_,_,.nil=>.cons ⟨rfl,y⟩ .nil
 |_,_,.cons (a:=(g,v')) (b:=(g',d')) a r=>by
  let⟨e,h⟩:=a;let e:g=g':=e;subst e;unfold putF Q8
  by_cases z:g=f
  .rw[D7 z,D7 z];exact .cons ⟨rfl,y⟩ r
  .rw[D6 z,D6 z];exact .cons ⟨rfl,h⟩ (Ze7 y r)
end
section
variable{t:TA}{u:TA3} 
inductive uFldI_1(K:Cq)(f:Str)(Kk:K3)(d:D)(M1:Mem):Prop
 |mk:∀(k:Nat)(Cl:Addr)(fs:List (Str×D))(v:D),d=.cell k->M1[k]?=some (.ins Cl fs)->Cls K Cl->Y4 K Cl f->fs.lookup f=some v->Kk v M1->uFldI_1 K f Kk d M1
def Zld(K:Cq)(f:Str)(ua:TE3):TE3:=λρ M h=>ua ρ M (uFldI_1 K f h)
def Rw{f:Str}(ha:SimE C Z ta ua):SimE C Z (tFld K ta f) (Zld K f ua):=λI α σ H ρ M Kk Q R E h k =>
 ha I α σ H ρ M _ _ R E h λv d I1 y H1 M1 G p1 B Y h1=>by
  let⟨j,Cl,fs,w,rfl,e1,cl,na,el,h1⟩:=h1;let⟨a,rfl,ec⟩:=Y.inv;let⟨dx,vs,ea,O⟩:=(B.cel j a _ ec e1).1;let⟨v,ev,J⟩:=Zbs O el;exists a,Cl,dx,vs,v,rfl,ea,cl,na,ev,k _ _ I1 y H1 M1 G p1 B J h1
inductive uSetI_2(K:Cq)(f:Str)(E:Ends3)(ρ:Ev)(dv:D)(d:D)(M2:Mem):Prop
 |mk:∀(k:Nat)(Cl:Addr)(fs:List (Str×D)),d=.cell k->M2[k]?=some (.ins Cl fs)->Cls K Cl->Y4 K Cl f->fs.length<1000->E.nx ρ (M2.set k (.ins Cl (Q8 f dv fs)))->uSetI_2 K f E ρ dv d M2
abbrev Zo3(K:Cq)(f:Str)(ua:TE3)(E:Ends3)(ρ:Ev):D->Mem->Prop:=λh M1=>ua ρ M1 (uSetI_2 K f E ρ h)
def Zk7(K:Cq)(f:Str)(ua ub:TE3):TS3:=λE ρ M=>ub ρ M (Zo3 K f ua E ρ)
def Zhm{f:Str}(ha:SimE C Z ta ua)(hb:SimE C Z tb ub):SimS C Z (sFld K ta tb f) (Zk7 K f ua ub):=λI α σ H ρ M E3 D' R RE h F =>
 hb I α σ H ρ M _ _ R RE h λy dv I1 G H1 M1 O Y R1 r1 h1=>ha I1 G σ H1 ρ M1 _ _ R1 (RE.mono O Y) h1 λv d I2 B H2 M2 J p2 R2 r2 h2=>by
  let⟨j,Cl,fs,rfl,e1,cl,na,hl,h2⟩:=h2;let⟨a,rfl,ec⟩:=r2.inv;let⟨dx,vs,ea,ra⟩:=(R2.cel j a _ ec e1).1;exists a,Cl,dx,vs,rfl,ea,cl,na,by rw[Paired.length ra];exact hl,?_;exact F.nx I2 B σ _ ρ _ (O.trans J) (Y.trans p2) (R2.put (m:=.ins Cl (Q8 f dv fs)) ec λH' e=>{dx,_,e,Ze7 (r1.mono J p2) ra}) (RE.mono (O.trans J) (Y.trans p2)) h2
abbrev Zsc(h:K3)(M1:Mem):D->Mem->Prop:=λd M2=>d=.non/\h (.cell M1.length) M2
abbrev Zsd(Cl:Addr)(sp:Sp3)(h:K3):List D->Mem->Prop:=λds M1=>sp (.cell M1.length::ds) (M1++[.ins Cl []]) (Zsc h M1)
def uMkI(Cl:Addr)(sp:Sp3)(u:TA3):TE3:=λρ M h=>u ρ M (Zsd Cl sp h)
def Zw5{Cl:Addr}{sp:Sp3}(ha:SimA C Z t u):SimE C Z (Zli Cl (spOf C sp) [] E0 t) (uMkI Cl sp u):=λI α σ H ρ M Kk Q R E h k =>
 ha I α σ H ρ M _ _ R E h λvs ds I1 y H1 M1 J Y R1 O h1=>by
  intro x dx nx B ne;let R2:=R1.same (Zc (o:=.own x) B);let⟨R3,G,e3⟩:=R2.cell (p:=x) (o:=.ins Cl dx []) (m:=.ins Cl []) (by rw[Zo (Hd ne)];exact nx) λH' e=>{dx,[],e,.nil};rw[Gg];exists Z,I1,y++[x],_,_,_,R3,.cons (.cell e3) (O.mono (.refl _) G),h1,λv d I' α' H' M' s p R' r h'=>?_;let⟨rfl,h'⟩:=h';cases r.inv;exists rfl,k _ _ I' α' H' M' (J.trans s) ((Y.trans G).trans p) R' (.cell ?_) h';let⟨tl,rfl⟩:=p;rw[Jw (by have:=(Jg.mp e3).1;exact this)];exact e3
end
section
def Rel.reset(R:Rel C Z I α H M){k:Nat}{a:Addr}(y:α[k]?=some a)(h:MoAt C I α H a m):Rel C Z I α H (M.set k m):=by
 let⟨o,e⟩:=h.some;let u:upd H a o=H:=by
  funext b
  by_cases z:b=a
  .subst z;rw[Ze,e]
  .rw[Zo z]
 let:=R.put (m:=m) (o:=o) y λH' B=>h.mono (.refl _) (Jo _) (B.trans e.symm);rwa [u]at this
end
section
abbrev Live(S:List Pr)(ns:List Int):Prop:=∃w∈S.map (λq:Pr=>q.2),ns<+:w/\ns.length<w.length
inductive dWord(ds:List D)(M:Mem)(K:K3):Prop
 |mk:∀(S:List Pr)(s:Int),ds=[.code S,.int s]->((∀p∈S,p.1=s->K (wD p.2) M)/\((∀p∈S,p.1≠s)->K .non M))->dWord ds M K
def Zvy{E:XK}(h:spOf C dWord vs H Q E):Znp C.c vs H Q E:=by
 let⟨Z,I,α,M,ds,K,R,r,⟨S,s,rfl,h1,h2⟩,y⟩:=h;refine Reps.e2 r λ_ _ O J=>?_;cases J.inv;let⟨_,rfl,hc⟩:=O.inv;exists _,S,s,rfl,hc.same R.sub,λp Y e t B=>?_,λhn=>y _ _ I α H M (.refl _) (Jo _) R .non (h2 hn);let⟨I2,G,R2,f⟩:=R.full;exact y _ _ I2 α H M G (Jo _) R2 (.tup (f _ _ B (R.tupOut B)) (.ints _)) (h1 p Y e)
end
theorem Vv{d:D}{xs:List D}(h:lsOf M d=some xs):tyOf M d=some .list/\Xx M d=some xs/\Za3 M d=some xs:=by
 cases d with
 |lst ys=>cases h;exists rfl,rfl,rfl
 |cell k =>
  simp only[lsOf]at h;cases hm:M[k]? with
  |none=>rw[hm]at h;cases h
  |some m =>
   rw[hm]at h;cases m with
   |lst es=>cases h;exact{by simp only[tyOf,hm],by simp only[Xx,hm],by simp only[Za3,Xx,hm]}
   |_=>cases h
 |_=>cases h
def Zl2[DecidableEq κ]{k:κ}{v:D}{kvs:List (κ×D)}(h:∀y∈kvs,y.1≠k):putD kvs k v=kvs++[(k,v)]:=by
 unfold putD;rw[D6];intro z;let⟨y,B,e⟩:=Fm.mp z;exact h y B (Dw e)
theorem Zdo{n:Nat}{o:Option Int}:Yb n (oD o):=by
 cases o with
 |none=>exact Q1
 |some z=>exact Xo
def Zke{ns:List τ}(h:pl<=ns.length):cut ns (some (pl:Int)) none=ns.drop pl:=by
 unfold cut;rw[HT.sIx_nat,Fq h];show(ns.drop pl).take (ns.length-pl)=_;rw[Gk];rw[Ga];exact Ji _
theorem Ztc{d:D}{xs:List D}{K:K3}(h:lsOf M d=some xs)(y:K (.lst (cut xs lo hi)) M):sl3 d lo hi M K:=by
 cases d with
 |lst ys=>cases h;exists ·,y
 |cell k=>exact{_,(Vv h).2.1,y}
 |_=>cases h
theorem Zop{d e:D}{xs ys:List D}{K:K3}(h1:lsOf M d=some xs)(h2:lsOf M e=some ys)(hl:xs.length+ys.length<=Ca)(h:K (.lst (xs++ys)) M):add3 d e M K:=by
 cases d with
 |lst zs=>exact{_,_,h1,h2,hl,h}
 |cell k=>exact{_,_,h1,h2,hl,h}
 |_=>cases h1
theorem Zq2{d:D}{xs:List D}{K:K3}(h:lsOf M d=some xs)(y:K (.int xs.length) M):len3 [d] M K:=by
 cases d with
 |lst zs=>exact{_,(Vv h).2.2,y}
 |cell k=>exact{_,(Vv h).2.2,y}
 |_=>cases h
def Zog{d:D}{xs:List D}{K:K3}(h:lsOf M d=some xs)(y:K (.int xs.length) M):Zgw uNil ρ (Zsr len3 K) d M:=Zq2 h y
theorem Zdi{ns:List τ} :cut ns none (some (pl:Int))=ns.take pl:=by
 unfold cut;rw[HT.sIx_nat];show(ns.drop 0).take (min pl ns.length-0)=_;rw[Jg2,Dl,List.take_eq_take_iff];lia
theorem T8{ns:List τ} :cut ns (some (pl:Int)) none=ns.drop pl:=by
 by_cases h:pl<=ns.length
 .exact Zke h
 .unfold cut;rw[HT.sIx_nat,Je3 (),List.drop_length,F7 (),List.take_nil]
def encO:Enc (Option Int) where
 e:=oD
 py o:=match o with|some z=>.int z|none=>.none
 n:=0
 ok:=λM o=>by cases o with|none=>exact .non|some z=>exact .int z
 shp:=λo=>by
  cases o with
  |none=>exact{by simp only[Ma],by simp only[Jb4];exact Ji _}
  |some z=>exact Ng z
 eq:=λa b=>by cases a<;>cases b<;>simp[Eo,Jb7]
 hn:=by decide
def Zbf{N:Mem}{xs:List D}{t:Nat}(h:N[t]?=some (.lst xs)):lsOf N (.cell t)=some xs:=by simp only[lsOf,h]
def Zxn:Enc Pr:=Zva W3 (Zoj W3)
section
def Zt3(K:Cq):R2:=λx y H Q=>Zt2 K x y H Q\/Zqd K x y H Q
def Zo1(h:X.K=K'):OpR X (Hk .Add) (Zt3 K'):=by
 subst h;exact OpR.or Zqr Ziq
end
section
def Zec(C:Addr):Sp:=λvs H Q _=>∃(x:Addr)(S:List Pr),vs=[.ref x]/\Uu C H x S/\S.length<64/\∀(D:Addr)(H':Hp)(ns:List Int),H D=none->Same H H'->H' D=some (.lst (ns.map V.int))->ns.Perm (S.map (·.1))->ns.Pairwise (·<=·)->Q (.ref D) H'
inductive dCSigns(ds:List D)(M:Mem)(K:K3):Prop
 |mk:∀(S:List Pr),ds=[.code S]->(S.length<64/\∀ns:List Int,ns.Perm (S.map (·.1))->ns.Pairwise (·<=·)->K (.cell M.length) (M++[.lst (ns.map .int)]))->dCSigns ds M K
def Zm9{E:XK}(h:spOf C dCSigns vs H Q E):Zec C.c vs H Q E:=by
 let⟨Z,I,α,M,ds,K,R,r,⟨S,rfl,y,h⟩,J⟩:=h;refine Reps.e1 r λ_ G=>?_;let⟨_,rfl,O⟩:=G.inv;exists _,S,rfl,O.same R.sub,y,λD H' ns B s Y pm pw=>?_;let⟨R2,p2,e2⟩:=(R.same s).cellAt (l:=D) (m:=.lst (ns.map .int)) (R.sub.free B) (R.out B) {_,Y,.ints _};exact J _ _ I _ H' _ (.refl _) p2 R2 (.cell e2) (h ns pm pw)
inductive dCSign(ds:List D)(M:Mem)(K:K3):Prop
 |mk:∀(S:List Pr)(u:List Int),ds=[.code S,wD u]->((∀p∈S,p.2=u->K (.int p.1) M)/\((∀p∈S,p.2≠u)->K .non M))->dCSign ds M K
theorem Zry{E:XK}(h:spOf C dCSign vs H Q E):Znq C.c vs H Q E:=by
 let⟨Z,I,α,M,ds,K,R,r,⟨S,u,rfl,h1,h2⟩,y⟩:=h;refine Reps.e2 r λ_ _ G B=>?_;let⟨_,rfl,O⟩:=G.inv;cases B with
 | @tup t vt _ et rt =>
  rw[Reps.of_ints u rt]at et;exists _,t,S,u,rfl,O.same R.sub,R.sub _ _ et,λp J e=>y _ _ I α H M (.refl _) (Jo _) R (.int _) (h1 p J e),λhn=>y _ _ I α H M (.refl _) (Jo _) R .non (h2 hn)
end
theorem Zvw{G B:TT3}{y J:Bool}(h1:∀K:Bool->Mem->Prop,K y M->G ρ M K)(h2:y=true->∀K:Bool->Mem->Prop,K J M->B ρ M K):∀K:Bool->Mem->Prop,K (y&&J) M->uAnd G B ρ M K:=λK h=>by
 refine h1 _ ?_;cases y with
 |false=>exact h
 |true=>exact h2 rfl _ h
def Zxm{t:TT3}{a b:TS3}{E:Ends3}{c:Bool}(h:∀K:Bool->Mem->Prop,K c M->t ρ M K)(k:if c=true then a E ρ M else b E ρ M):uIfS t a b E ρ M:=h _ k
section
theorem Za7 :∀{kvs:List (List Key×V)}(zs:List (List Int×D)),RepT C I α kvs (zs.map λz=>(wk z.1,z.2))->kvs.map (·.1)=(zs.map (·.1)).map wk
 |_,[],r=>by cases r;rfl
 |_,z::zs,r=>by
  cases r with
  |cons y h=>rw[Jl,Za7 zs h];rfl
end
theorem Zoe{d:D}{xs:List D}{X:Mem}(h:Xx M d=some xs):Xx (M++X) d=some xs:=by
 cases d with
 |lst ys=>exact h
 |frz ys=>exact h
 |cell k =>
  simp only[Xx]at h⊢
  by_cases hk:k<M.length
  .rw[Jw hk];exact h
  .rw[Bk (Fl hk)]at h;exact nomatch h
 |_=>exact nomatch h
section
variable{x y z:MO}
def two0:(M++[x,y])[M.length]?=some x:=by simp
theorem two1:(M++[x,y])[M.length+1]?=some y:=by rw[J8 ()];simp
def Ztd:(M++[x,y]).set M.length z=M++[z,y]:=by rw[Fa _ _ (Ji _),Fj];rfl
theorem Zpz:(M++[x,y]).set (M.length+1) z=M++[x,z]:=by rw[Fa _ _ (),B2];rfl
end
theorem Ue[BEq τ][LawfulBEq τ]:∀{zs us:List τ},zs.Nodup->(∀z∈zs,z∈us)->zs.length<=us.length
 |[],_,_,_=>Ge _
 |z::zs,us,nd,h=>by
  let⟨h1,h2⟩:=Fh.mp nd;let hz:=h z Jh;let:=Ue (us:=us.erase z) h2 λy B=>(List.mem_erase_of_ne (λ(e:y=z)=>h1 (by rw[<-e];exact B))).mpr (h y (Jf _ B));rw[List.length_erase_of_mem hz]at this;let:=List.length_pos_of_mem hz;rw[Jy];lia
theorem Zez:∀{a b:List (List Int)},a.Pairwise (λx y=>HT.lexLt x y=true)->b.Pairwise (λx y=>HT.lexLt x y=true)->(∀t,t∈a↔t∈b)->a=b
 |[],[],_,_,_=>rfl
 |[],y::b,_,_,h=>Dx ((h y).mpr Jh) (λz=>nomatch z)
 |x::a,[],_,_,h=>Dx ((h x).mp Jh) (λz=>nomatch z)
 |x::a,y::b,ha,hb,h=>by
  let G:∀{u v:List Int},HT.lexLt u v=true->HT.lexLt v u=true->False:=λp q=>by have:=Qc p q;rw[U5]at this;cases this
  let⟨O,Z⟩:=Fb.mp ha;let⟨J,Y⟩:=Fb.mp hb;let e:x=y:=by
   rcases J9.mp ((h x).mp Jh)with z|z
   .exact z
   .rcases J9.mp ((h y).mpr Jh)with w|w
    .exact w.symm
    .exact(G (J x z) (O y w)).elim
  subst e;let:a=b:=Zez Z Y λt=>by
   constructor
   .intro B;rcases J9.mp ((h t).mp (Jf _ B))with z|z
    .rw[z]at B;let:=O x B;rw[U5]at this;cases this
    .exact z
   .intro B;rcases J9.mp ((h t).mpr (Jf _ B))with z|z
    .rw[z]at B;let:=J x B;rw[U5]at this;cases this
    .exact z
  rw[this]
def Tt(bs:List Int):Nat->List (List Int)
 |0=>[[]]
 |n+1=>(Tt bs n).flatMap λr=>bs.map λb=>r++[b]
theorem Rm{bs:List Int}:∀(n:Nat)(r:List Int),r∈Tt bs n↔r.length=n/\∀b∈r,b∈bs
 |0,r=>by
  rw[Tt,Je]
  constructor
  .rintro rfl;exists rfl,λ_ z=>nomatch z
  .exact λh=>List.eq_nil_of_length_eq_zero h.1
 |n+1,r=>by
  rw[Tt,Gp]
  constructor
  .rintro⟨q,B,y⟩;let⟨b,G,rfl⟩:=Jk.mp y;let⟨h1,h2⟩:=(Rm n q).mp B;exists by rw[Jc,h1];rfl,λx hx=>?_;rcases Jv.mp hx with z|z
   .exact h2 x z
   .rw[Je.mp z];exact G
  .rintro⟨h1,h2⟩;let ne:r≠[]:=λz=>by rw[z]at h1;cases h1
   exists r.dropLast,(Rm n _).mpr {by rw[List.length_dropLast,h1];rfl,λx hx=>h2 x (List.dropLast_subset r hx)},Jk.mpr {r.getLast ne,h2 _ (List.getLast_mem ne),List.dropLast_concat_getLast ne}
def Zwo(u:TE3):TE3:=λρ M K=>u ρ M λd h=>frzK M.length K d h\/K d h
def Ztq{t:TE}{u:TE3}(h:SimE C Z t u):SimE C Z t (Zwo u):=λI α σ H ρ M K Q R E J k=>h I α σ H ρ M _ _ R E J λv d I' α' H' G s p B r y=>by
 rcases y with y|y
 .exact k.frz R.len R.aa v d I' α' H' G s p B r y
 .exact k v d I' α' H' G s p B r y
structure TbK(L:List Pr)(bs:List Int):Prop where
 fr:Free L
 fi:Fits L
 by_:∀p∈L,∀b∈p.2,b∈bs
 ln:L.length<=28
inductive dWordsC(ds:List D)(M:Mem)(K:K3):Prop
 |mk:∀(k:Nat)(bs:List Int)(m lg:Int),ds=[.cell k,.lst (bs.map .int),.int m,.int lg]->(M[k]?=some .hand/\(bs.Nodup/\bs≠[]/\bs.length<=24/\0<=m/\m<=6/\1<=lg/\lg<=4)/\∀ws:List (List Int),WOk ws->(∀w∈ws,∀b∈w,b∈bs)->(ws.length:Int)<=bs.length+m*(bs.length-1)->K (.lst (ws.map wD)) M)->dWordsC ds M K
end L3
namespace L2
open PySem PySem.W
def AllL :Nat->(List τ->Prop)->Prop
 |0,Q=>Q []
 |n+1,Q=>∀a,AllL n λl=>Q (a::l)
theorem allL :∀{n:Nat}{Q:List τ->Prop},AllL n Q->∀{us:List τ},us.length=n->Q us
 |0,_,h,[],_=>h
 |n+1,_,h,a::l,e=>allL (h a) (Nat.succ.inj e)
def us2{Q:List τ->Prop}(h:∀a b,Q [a,b])(us:List τ)(hl:us.length=2):Q us:=match us,hl with |[a,b],_=>h a b
structure FnG(K:Frag)(x:Str)(st:Stmt)(f:Addr)(fd:L4):Prop where
 g:nsIn K Cw x=some (some (.ref f))
 F:Fun K x x st f fd
structure MtG(K:Frag)(C:Addr)(m q:Str)(st:Stmt)(f:Addr)(fd:L4):Prop where
 a:Ez K (.ref C) m=some (some (.ref f))
 n:isFn K (.ref f)=true
 F:Fun K m q st f fd
def Zod(K:Frag)(xs:List Str):Bool:=xs.all λx=>match nsIn K Cw x with|some none=>true|_=>false
theorem Wl{K:Frag}{xs:List Str}(X:K.In h)(G:h.Ns Cw mg)(z:Zod K xs=true)(i:Nat){x:Str}(e:xs[i]?=some x):mg x=none:=by
 let:=List.all_eq_true.mp z x (G1 e);cases q:nsIn K Cw x with
 |none=>rw[q]at this;cases this
 |some o =>
  cases o with
  |none=>exact mg_none_of X G q
  |some v=>rw[q]at this;cases this
structure MkG(K:Frag)(C:Addr):Prop where
 m:makesIn K C=true
 k:keepIn K (.ref C)=true
structure Tk(P:Ha)(w:Hz)(K:Frag)(mg:Str->Option Cb)(base:Heap):Prop where
 m:∀{x:Str}{v:Cb},nsIn K Cw x=some (some v)->mg x=some v
section
variable{K:Frag}{base:Heap}{x m q:Str}{C:Addr}{k:Nat}{sp:Sp}
abbrev Bnd(x q:Str)(st:Stmt)(ps:List Str):Prop:=∀(kV h pm:Cb)(B:Option Addr)(y ct:Cb)(us:List Cb),us.length=ps.length->Jdz (fnOf x q (Wf st) (Xm st) (Zm st) .none kV h pm B y ct) {us,[]}=pure (ps.zip us)
def bn(h:∀(kV y pm:Cb)(G:Option Addr)(B ct:Cb),AllL ps.length λus=>Jdz (fnOf x q (Wf st) (Xm st) (Zm st) .none kV y pm G B ct) {us,[]}=pure (ps.zip us)):Bnd x q st ps:=λkV y pm G B ct _ e=>allL (h kV y pm G B ct) e
def Xn(Y:Tk P w K mg base)(g:FnG K x st f fd)(ok:FnOk P w K mg base CX0 k f fd ps sp)(b:Bnd x x st ps:=by apply bn;(repeat intro _);exact rfl) :
  Cal P w K mg base x k ps sp:=Zvi g.F ok (Y.m g.g) (g.F.binds b)
def Zmh(Y:Tk P w K mg base)(cl:Cls K C)(g:MtG K C m q st f fd)(ok:FnOk P w K mg base CX0 k f fd ps sp)(b:Bnd m q st ps:=by apply bn;(repeat intro _);exact rfl) :
  Met P w K mg base C m k ps sp:={f,fd,cl,{g.a,g.n,g.F.kp},ok,g.F.binds b}
def Zxi(Y:Tk P w K mg base)(mk:MkG K C)(g:MtG K C "__init__" q st f fd)(ok:FnOk P w K mg base CX0 k f fd ps sp)(h:nsIn K Cw x=some (some (.ref C)))(b:Bnd "__init__" q st ps:=by apply bn;(repeat intro _);exact rfl) :
  Mkr P w K mg base x C k ps sp:={f,fd,{mk.m,g.a,g.n,mk.k},ok,Y.m h,g.F.binds b}
end
end L2
namespace L3
open PySem L2
def Ur{X:Mem}{k:Nat}(h:M[k]?=some m):(M++X)[k]?=some m:=by rw[Jw (Jg.mp h).1];exact h
section
theorem Zja(R:Rel C Z I α H M):∀{vs:List V}(zs:List (D×List Int)),Reps C I α vs (zs.map (·.1))->(∀z∈zs,Xx M z.1=some (z.2.map .int))->∃P:List (KIt×D×List Int),(P.map λq=>V.ref q.1.2.1)=vs/\P.map (·.2)=zs/\∀q∈P,SqL C.k H q.1.2.1 (q.1.2.2.map V.int)/\q.1.2.2=q.2.2/\Rep C I α (.ref q.1.2.1) q.2.1
 |_,[],r,_=>by cases r.inv;exists [],rfl,rfl,λ_ h=>nomatch h
 |_,z::zs,r,hz=>by
  cases r with
  |cons a b =>
   let⟨P,e1,e2,e3⟩:=Zja R zs b λz h=>hz z (Jf _ h);let⟨c,vs,rfl,B,G⟩:=Uo R a (hz z Jh);rw[Reps.of_ints _ G]at B;exists((.non,c,z.2),z)::P,by rw[Jl,e1],by rw[Jl,e2],λq J=>?_;rcases J9.mp J with y|y
   .rw[y];exists B,rfl,a
   .exact e3 q y
theorem Zel :∀(P:List (KIt×D×List Int)),(∀q∈P,Rep C I α (.ref q.1.2.1) q.2.1)->Reps C I α (P.map λq=>V.ref q.1.2.1) (P.map λq=>q.2.1)
 |[],_=>.nil
 |q::P,h=>.cons (h q Jh) (Zel P λx hx=>h x (Jf _ hx))
inductive sortM3(ds:List D)(M:Mem)(K:K3):Prop
 |mk:∀(d:D)(zs:List (D×List Int)),ds=[d]->Xx M d=some (zs.map (·.1))->(zs.length<65536/\(∀z∈zs,Xx M z.1=some (z.2.map .int))/\(zs.map (·.2)).Nodup)->(∀ys:List (D×List Int),ys.Perm zs->ys.Pairwise (λa b=>HT.lexLt a.2 b.2=true)->K (.lst (ys.map (·.1))) M)->sortM3 ds M K
theorem Zln{d:D}{zs:List (D×List Int)}(R:Rel C Z I α H M)(r:Reps C I α xs [d])(e:Xx M d=some (zs.map (·.1)))(a0:zs.length<65536)(hz:∀z∈zs,Xx M z.1=some (z.2.map .int))(nd:(zs.map (·.2)).Nodup)(h:∀(G:Addr)(y:List (KIt×D×List Int)),H G=none->(y.map (·.2)).Perm zs->(y.map (·.2)).Pairwise (λa b=>HT.lexLt a.2 b.2=true)->Reps C I α (y.map λq=>V.ref q.1.2.1) (y.map λq=>q.2.1)->Q (.ref G) (upd H G (.lst (y.map λq=>V.ref q.1.2.1)))):Zcq C.k xs H Q:=by
 refine Reps.e1 r λ_ r1=>?_;let⟨a,vs,rfl,O,Y⟩:=Uo R r1 e;let⟨P,e1,e2,e3⟩:=Zja R zs Y hz;let ll:P.length=zs.length:=by have:=congrArg Eu e2;simpa using this
 let e4:(P.map (·.1)).map (·.2.2)=zs.map (·.2):=by
  rw[<-e2,Ju,Ju];exact Gw λq B=>(e3 q B).2.1
 exists a,P.map (·.1),rfl,by rw[Ju];rw[<-e1]at O;exact O,by rw[Ja];lia,λq B=>?_,by rw[e4];exact nd,λG L' hD pm pw=>?_
 .let⟨p,hp,rfl⟩:=Jk.mp B;exact(e3 p hp).1
 .let⟨y,J,rfl⟩:=W2 pm rfl;rw[Ju];refine h G y hD (by rw[<-e2];exact J.map _) ?_ (Zel y λq B=>(e3 q (J.mem_iff.mp B)).2.2);rw[Jr]at pw⊢;refine pw.imp_of_mem λ{a b}ha hb hl=>?_;rw[<-(e3 a (J.mem_iff.mp ha)).2.1,<-(e3 b (J.mem_iff.mp hb)).2.1];exact hl
def Zp1:SimC C Z (Zcq C.k) sortM3:=λI α H M xs ds K Q R r h k=>by
 let⟨d,zs,rfl,e,⟨y,hz,nd⟩,h⟩:=h;refine Zln R r e y hz nd λDa P' J pm pw G=>?_;let⟨Y,B,O⟩:=R.new (o:=.lst (P'.map λq=>V.ref q.1.2.1)) J;refine k _ _ _ α _ M B (Jo _) Y (.lst O ?_) (h _ pm pw);rw[Ju];exact G.mono B (Jo _)
end
end L3
namespace L2
open PySem
def Zg8(K:Cq)(a:Addr):Bool:=match K.lookup a with
 |some o=>(match o.cls,o.data with
  |.type t,.seq its _=>t == "tuple" && (match its.toList with
   |[.int z _,.ref e]=>z==0&&(match K.lookup e with
    |some h=>(match h.cls,h.data with|.type u,.seq its2 _=>u == "tuple" && its2.toList.isEmpty|_,_=>false)
    |none=>false)
   |_=>false)
  |_,_=>false)
 |none=>false
theorem Zpv{a:Addr}(h:Zg8 K a=true):NkAt K (λ_=>none) [.k 0,.t []] a:=by
 unfold Zg8 at h;cases e1:K.lookup a with
 |none=>rw[e1]at h;cases h
 |some o =>
  rw[e1]at h;dsimp only at h
  split at h
  .rename_i t its n hc hd
   rw[Bi]at h;let⟨ht,h⟩:=h
   split at h
   .rename_i z tk e hi
    rw[Bi]at h;let⟨hz,h⟩:=h;cases e2:K.lookup e with
    |none=>rw[e2]at h;cases h
    |some Y =>
     rw[e2]at h;dsimp only at h
     split at h
     .rename_i u y Z J G
      rw[Bi]at h;let⟨hu,B⟩:=h;let l1:its.size<=Ca:=by rw[<-Jm,hi];exact(by decide:2<=Ca)
      let O:y.toList=[]:=List.isEmpty_iff.mp B;let l3:y.size<=Ca:=by rw[<-Jm,O];exact Ge _
      let hz:z=0:=beq_iff_eq.mp hz;exists [.int 0,.ref e],.inr {o,its,n,e1,by rw[hc,beq_iff_eq.mp ht],hd,l1,?_},.cons rfl (.cons {e,rfl,.inr {Y,y,Z,e2,by rw[J,beq_iff_eq.mp hu],G,l3,?_}} .nil)
      .rw[hi,hz];exact .cons ⟨tk,rfl⟩ (.cons rfl .nil)
      .rw[O];exact .nil
     .cases h
   .cases h
  .cases h
end L2
namespace L3
open PySem L2
section
def itOf:D->Option (List Int)
 |.itp x=>some x
 |.tup ds=>intsOf ds
 |_=>none
where intsOf:List D->Option (List Int)
 |[]=>some []
 |.int i::r=>(intsOf r).map (i::·)
 |_=>none
theorem Zbm:∀{ds:List D}{x:List Int},itOf.intsOf ds=some x->ds=x.map D.int
 |[],x,h=>by cases h;rfl
 |.int i::r,x,h=>by
  unfold itOf.intsOf at h;let⟨y,B,rfl⟩:=G5.mp h;rw[Zbm B];rfl
 |.non::_,_,h|.bl _::_,_,h|.str _::_,_,h|.ty _::_,_,h|.at _::_,_,h|.tup _::_,_,h|.lst _::_,_,h|.frz _::_,_,h|.dct _::_,_,h|.dcT _::_,_,h|.code _::_,_,h|.cell _::_,_,h|.exc _ _::_,_,h|.nst _::_,_,h|.itp _::_,_,h=>nomatch h
theorem Pq:∀x:List Int,itOf.intsOf (x.map D.int)=some x
 |[]=>rfl
 |i::r=>by show(itOf.intsOf (r.map D.int)).map (i::·)=_;rw[Pq r];rfl
def Zmm(x:List Int):itOf (.tup (x.map D.int))=some x:=Pq x
theorem Zu2{v:V}{d:D}{x:List Int}(r:Rep C I α v d)(h:itOf d=some x):∃a,v=.ref a/\SqT C.k I a (x.map V.int):=by
 cases r with
 |itp e=>cases h;exists ·,e
 |tup e r=>obtain rfl:=Zbm h;rw[Reps.of_ints x r]at e;exists ·,SqT.of e
 |_=>cases h
def niOf:D->Option NI
 |.int z=>some (.k z)
 |.bl t=>some (.b t)
 |d=>(itOf d).map .t
def Zcw:List D->Option (List NI)
 |[]=>some []
 |d::r=>match niOf d,Zcw r with|some k,some ks=>some (k::ks)|_,_=>none
theorem Zuh{v:V}{d:D}{k:NI}(r:Rep C I α v d)(h:niOf d=some k):NkV C.k I k v:=by
 let y:∀{x:List Int},itOf d=some x->NkV C.k I (.t x) v:=λhx=>by
  let⟨a,rfl,e⟩:=Zu2 r hx;exists a,rfl,e
 cases r with
 |int i=>cases h;exact rfl
 |bl b=>cases h;exact rfl
 |itp e=>cases h;exact y rfl
 | @tup a vs ds e r =>
  let h:(itOf (.tup ds)).map NI.t=some k:=h;let⟨x,hx,rfl⟩:=G5.mp h;exact y hx
 |_=>cases h
theorem Ziy:∀{vs:List V}{ds:List D}{ks:List NI},Reps C I α vs ds->Zcw ds=some ks->Paired (NkV C.k I) ks vs
 |_,_,_,.nil,h=>by cases h;exact .nil
 |_,_,_,.cons (d:=d) (ds:=ds) r t,h=>by
  unfold Zcw at h;cases h1:niOf d with
  |none=>rw[h1]at h;cases h
  |some k =>
   cases h2:Zcw ds with
   |none=>rw[h1,h2]at h;cases h
   |some ks=>rw[h1,h2]at h;cases h;exact .cons (Zuh r h1) (Ziy t h2)
inductive uTupN_2(K:K3)(ds:List D)(M1:Mem):Prop
 |mk:∀ks,Zcw ds=some ks->K (.nst ks) M1->uTupN_2 K ds M1
abbrev Zo2(K:K3):List D->Mem->Prop:=λds M1=>ds.length<=Ca/\uTupN_2 K ds M1
def Zwa(u:TA3):TE3:=λρ M K=>u ρ M (Zo2 K)
def Ztf{t:TA}{u:TA3}(ha:SimA C Z t u):SimE C Z (tTup t) (Zwa u):=λI α σ H ρ M K Q R E h k =>
 ha I α σ H ρ M _ _ R E h λvs ds I1 y H1 M1 J O R1 G h1=>by
  let⟨hl,ks,hk,h1⟩:=h1;exists by rw[G.length];exact hl,λp Y=>?_;let⟨R2,B,e2⟩:=R1.new (o:=.tup vs) Y;exact k _ _ _ y _ M1 (J.trans B) O R2 (.nst {vs,SqT.of e2,Ziy (G.mono B (Jo _)) hk}) h1
def Zti{a:Addr}{ks:List NI}(h:NkAt C.k (λ_=>none) ks a):SimE C Z (tC (.ref a)) (uC (.nst ks)):=Jav λI α=>.nst (h.same λ_ _ e=>by cases e)
def niD3:NI->D
 |.k z=>.int z
 |.t x=>.itp x
 |.b t=>.bl t
theorem Zmf{v:V}{k:NI}(h:NkV C.k I k v):Rep C I α v (niD3 k):=by
 cases k with
 |k z=>cases(show v=.int z from h);exact .int z
 |t x=>obtain⟨a,rfl,e⟩:=h;exact .itp e
 |b t=>cases(show v=.bl t from h);exact .bl t
theorem Zmd{ks:List NI}(r:Paired (NkV C.k I) ks vs):Reps C I α vs (ks.map niD3):=by
 induction r with
 |nil=>exact .nil
 |cons a b h=>exact .cons (Zmf a) h
inductive ixN3(d:D)(e:D)(M:Mem)(K:K3):Prop
 |mk:∀ks i k,d=.nst ks->e=.int i->L2.atI ks i=some k->K (niD3 k) M->ixN3 d e M K
theorem Zm6(f:τ->υ){xs:List τ}{i:Int}{x:τ}(h:L2.atI xs i=some x):L2.atI (xs.map f) i=some (f x):=by
 unfold L2.atI at h⊢;rw[Ja];cases e:ixN xs.length i with
 |none=>rw[e]at h;cases h
 |some j =>
  rw[e]at h;let h:xs[j]?=some x:=h;show(xs.map f)[j]?=_;rw[Gc,h];rfl
def Zho:SimR C Z (rIx C.k) ixN3:=λI α H M x y d e K Q R J G h k=>by
 let⟨ks,i,Y,rfl,rfl,e3,h⟩:=h;cases G.inv;let⟨_,rfl,n⟩:=J.inv;let⟨vs,e,r⟩:=n;let⟨v,O,B⟩:=(Zmd (α:=α) r).atI (Zm6 niD3 e3);exact .inr (.inl {_,vs,i,v,rfl,rfl,Rh R.sub e,O,k.now R B h})
inductive addI3(d:D)(e:D)(M:Mem)(K:K3):Prop
 |mk:∀x y,itOf d=some x->e=.tup (y.map D.int)->x.length+y.length<=Ca->y≠[]->K (.tup ((x++y).map D.int)) M->addI3 d e M K
def Zts:SimR C Z (Zt3 C.k) addI3:=λI α H M x y d e K Q R Y G h k=>by
 let⟨xs,ys,hx,rfl,hl,hy,h⟩:=h;let⟨a,rfl,ia⟩:=Zu2 Y hx;let⟨b,ws,rfl,J,ib,rb⟩:=Ul R G rfl
 by_cases hx:xs=[]
 .subst hx;exact .inl {a,b,ws,rfl,rfl,Rh R.sub ia,SqT.of J,k.now R G h}
 .let B:=Reps.of_ints ys rb;refine .inr {a,b,_,ws,rfl,rfl,Rh R.sub ia,SqT.of J,λz=>hx (by simpa using z),by rw[rb.length,Ja,Ja];exact hl,λz=>?_,λ_ p hp=>?_}
  .rw[z]at B;exact Dx (List.map_eq_nil_iff.mp B.symm) hy
  .let⟨R2,O,e2⟩:=R.new (o:=.tup (xs.map V.int++ws)) hp;refine k.on O R2 (.tup e2 ?_) h;rw[Jj,B];exact(Reps.ints xs).app (Reps.ints ys)
def Q7(kvs:List (List NI×D))(k:List NI):Option D:=(kvs.find? λx=>decide (x.1=k)).map (·.2)
def Rz(kvs:List (List NI×D))(k:List NI)(v:D):List (List NI×D):=if(kvs.any λx=>decide (x.1=k))then kvs.map (λx=>if x.1=k then(x.1,v)else x)else kvs++[(k,v)]
def X0(M:Mem):D->Option (List Nat×List (List NI×D))
 |.cell k=>match M[k]? with|some (.dcN sh _ kvs)=>some (sh,kvs)|_=>none
 |_=>none
theorem Zj7{v:V}{d:D}{sh:List Nat}{kvs:List (List NI×D)}(R:Rel C Z I α H M)(r:Rep C I α v d)(h:X0 M d=some (sh,kvs)):∃a vs,v=.ref a/\Rd H a (.ext (dnP a vs))/\Q5 C I sh vs/\RepN C I α vs kvs:=by
 cases r with
 | @cell a k e =>
  unfold X0 at h;cases hm:M[k]? with
  |none=>simp only[hm]at h;cases h
  |some m =>
   cases m with
   |dcN s z es =>
    simp only[hm]at h;cases h;let q:=(R.cel k a _ e hm).1;cases z with
    |none=>obtain⟨vs,e1,n,r⟩:=q;exists _,·,.inl e1,n,r
    |some z=>exact{_,z.2,rfl,.inr {_,q.1},q.2.1,q.2.2}
   |_=>simp only[hm]at h;cases h
 |_=>cases h
def Q5.dn{sh:List Nat}{vs:List Nkv}{a:Addr}(h:Q5 C I sh vs)(s:Same I H)(e:Rd H a (.ext (dnP a vs))):DnAt C.k H a sh vs:={e,λx hx=>{(h x hx).1.same s,(h x hx).2}}
theorem RepN.val{vs:List Nkv}{kvs:List (List NI×D)}(r:RepN C I α vs kvs)(k:List NI):(Q7 kvs k=none/\valN vs k=none)\/∃x y,Q7 kvs k=some x/\valN vs k=some y/\Rep C I α y x:=by
 unfold Q7 valN
 induction r with
 |nil=>exact .inl ⟨rfl,rfl⟩
 | @cons p q ps qs h t ih =>
  rw[Gz,Gz,h.1]
  by_cases e:q.1=k
  .rw[D8 e];exact .inr {_,_,rfl,rfl,h.2}
  .rw[D9 e];exact ih
def RepN.put{vs:List Nkv}{kvs:List (List NI×D)}{v:V}{d:D}(r:RepN C I α vs kvs)(k:List NI)(b:Addr)(B:Rep C I α v d):RepN C I α (putN vs k b v) (Rz kvs k d):=by
 let G:(vs.any λx=>decide (x.1=k))=kvs.any λx=>decide (x.1=k):=by
  induction r with
  |nil=>rfl
  |cons h t y=>rw[B3,B3,h.1,y]
 unfold putN Rz;rw[G]
 split
 .rename_i J
  clear G J
  induction r with
  |nil=>exact .nil
  | @cons p q ps qs h t y =>
   refine .cons ?_ y;dsimp only;rw[h.1]
   by_cases e:q.1=k
   .rw[D7 e,D7 e];exists rfl,B
   .rw[D6 e,D6 e];exact h
 .exact Paired.snoc ⟨rfl,B⟩ r
def Q5.put{sh:List Nat}{vs:List Nkv}{k:List NI}{b:Addr}{v:V}(h:Q5 C I sh vs)(G:NkAt C.k I k b)(hs:k.map NI.sh=sh):Q5 C I sh (putN vs k b v):=λx hx=>by
 unfold putN at hx
 split at hx
 .let⟨y,B,rfl⟩:=Jk.mp hx
  split
  .exact h y B
  .exact h y B
 .rcases Jv.mp hx with z|z
  .exact h x z
  .rw[Je.mp z];exists G,hs
def RepN.len{vs:List Nkv}{kvs:List (List NI×D)}(r:RepN C I α vs kvs):vs.length=kvs.length:=Paired.length r
def nGet(M:Mem)(d e:D)(o:Option D):Prop:=∃sh kvs ks,X0 M d=some (sh,kvs)/\e=.nst ks/\ks.map NI.sh=sh/\o=Q7 kvs ks
def Zcy{v w:V}{d e:D}{o:Option D}(R:Rel C Z I α H M)(J:Rep C I α v d)(G:Rep C I α w e)(h:nGet M d e o):∃a o',v=.ref a/\NGet C.k H a w o'/\((o=none/\o'=none)\/∃x y,o=some x/\o'=some y/\Rep C I α y x):=by
 let⟨sh,kvs,ks,e1,rfl,es,rfl⟩:=h;let⟨a,vs,rfl,Y,O,B⟩:=Zj7 R J e1;let⟨_,rfl,n⟩:=G.inv;exists a,valN vs ks,rfl,{_,sh,vs,ks,rfl,O.dn R.sub Y,n.same R.sub,es,rfl},?_;rcases B.val ks with⟨h1,h2⟩|⟨x,y,h1,h2,h3⟩
 .exact .inl ⟨h1,h2⟩
 .exact .inr ⟨x,y,h1,h2,h3⟩
end
section
variable{tc:TE}{uc:TE3}
def Znc(sh:List Nat):TE3:=λ_ M K=>K (.cell M.length) (M++[.dcN sh none []])
def Ni{sh:List Nat}:SimE C Z Znl (Znc sh):=λI α σ H ρ M K Q R E h k p y=>by
 let⟨R2,p2,e2⟩:=R.cell (o:=.ext (dnP p [])) (m:=.dcN sh none []) y λH' e=>{[],e,(λ_ h=>nomatch h),Paired.nil};exact k _ _ I _ _ _ (.refl _) p2 R2 (.cell e2) h
inductive uNGet_2(K:K3)(d:D)(e:D)(M2:Mem):Prop
 |mk:∀v,nGet M2 d e (some v)->K v M2->uNGet_2 K d e M2
abbrev Zo9(ub:TE3)(ρ:Ev)(K:K3):D->Mem->Prop:=λd M1=>ub ρ M1 (uNGet_2 K d)
def Zpa(ua ub:TE3):TE3:=λρ M K=>ua ρ M (Zo9 ub ρ K)
def Tr(ha:SimE C Z ta ua)(hb:SimE C Z tb ub):SimE C Z (Zs6 C.k ta tb) (Zpa ua ub):=λI α σ H ρ M K Q R E h k =>
 ha I α σ H ρ M _ _ R E h λv d I1 G H1 M1 O Y R1 r1 h1 =>
  hb I1 G σ H1 ρ M1 _ _ R1 (E.mono O Y) h1 λw e I2 B H2 M2 J p2 R2 r2 h2=>by
   let⟨x,g,h2⟩:=h2;let⟨a,o',rfl,g2,z⟩:=Zcy R2 (r1.mono J p2) r2 g;rcases z with⟨z,_⟩|⟨x',y,z1,z2,z3⟩
   .cases z
   .cases z1;subst z2;exists a,y,rfl,g2,k _ _ I2 B H2 M2 (O.trans J) (Y.trans p2) R2 z3 h2
inductive uNNotIn_2(K:K3)(e:D)(d:D)(M2:Mem):Prop
 |mk:∀o,nGet M2 d e o->K (.bl (!o.isSome)) M2->uNNotIn_2 K e d M2
abbrev Zgv(ua:TE3)(ρ:Ev)(K:K3):D->Mem->Prop:=λe M1=>ua ρ M1 (uNNotIn_2 K e)
def Zo8(ub ua:TE3):TE3:=λρ M K=>ub ρ M (Zgv ua ρ K)
def Zlq(hb:SimE C Z tb ub)(ha:SimE C Z ta ua):SimE C Z (Zg1 C.k tb ta) (Zo8 ub ua):=λI α σ H ρ M K Q R E h k =>
 hb I α σ H ρ M _ _ R E h λw e I1 G H1 M1 O Y R1 r1 h1 =>
  ha I1 G σ H1 ρ M1 _ _ R1 (E.mono O Y) h1 λv d I2 B H2 M2 J p2 R2 r2 h2=>by
   let⟨o,g,h2⟩:=h2;let⟨a,o',rfl,g2,z⟩:=Zcy R2 r2 (r1.mono J p2) g;let eo:o'.isSome=o.isSome:=by
    rcases z with⟨rfl,rfl⟩|⟨x',y,rfl,rfl,_⟩<;>rfl
   exact{a,o',rfl,g2,by rw[eo];exact k _ _ I2 B H2 M2 (O.trans J) (Y.trans p2) R2 (.bl _) h2}
inductive uNGet2_3(K:K3)(d:D)(e:D)(x:D)(M3:Mem):Prop
 |mk:∀o,nGet M3 d e o->K (o.getD x) M3->uNGet2_3 K d e x M3
abbrev Zk8(uc:TE3)(ρ:Ev)(K:K3)(d:D):D->Mem->Prop:=λe M2=>uc ρ M2 (uNGet2_3 K d e)
abbrev Zk9(ub:TE3)(uc:TE3)(ρ:Ev)(K:K3):D->Mem->Prop:=λd M1=>X0 M1 d≠none/\ub ρ M1 (Zk8 uc ρ K d)
def Zsb(ua ub uc:TE3):TE3:=λρ M K=>ua ρ M (Zk9 ub uc ρ K)
def Zhn(ha:SimE C Z ta ua)(hb:SimE C Z tb ub)(hc:SimE C Z tc uc):SimE C Z (Zni C.k ta tb tc) (Zsb ua ub uc):=λI α σ H ρ M K Q R E h k =>
 ha I α σ H ρ M _ _ R E h λv d I1 a1 H1 M1 O p1 R1 r1 h1=>by
  cases hd:X0 M1 d with
  |none=>exact Dx hd h1.1
  |some q =>
   let⟨a,vs,rfl,ea,nk,ra⟩:=Zj7 R1 r1 hd;exists a,rfl,{_,_,nk.dn R1.sub ea},hb I1 a1 σ H1 ρ M1 _ _ R1 (E.mono O p1) h1.2 λw e I2 a0 H2 M2 J p2 R2 r2 h2=>?_;refine hc I2 a0 σ H2 ρ M2 _ _ R2 (E.mono (O.trans J) (p1.trans p2)) h2 λx' x I3 B H3 M3 G Y R3 r3 h3=>?_;let⟨o,g,h3⟩:=h3;let⟨b,o',eb,g2,z⟩:=Zcy R3 (r1.mono (J.trans G) (p2.trans Y)) (r2.mono G Y) g;cases eb;exists o',g2,?_;rcases z with⟨rfl,rfl⟩|⟨x',y,rfl,rfl,z3⟩
   .exact k _ _ I3 B H3 M3 (O.trans (J.trans G)) (p1.trans (p2.trans Y)) R3 r3 h3
   .exact k _ _ I3 B H3 M3 (O.trans (J.trans G)) (p1.trans (p2.trans Y)) R3 z3 h3
inductive uNPut_3(E:Ends3)(ρ:Ev)(v:D)(d:D)(e:D)(M3:Mem):Prop
 |mk:∀j sh kvs ks,d=.cell j->M3[j]?=some (.dcN sh none kvs)->e=.nst ks->ks.map NI.sh=sh->kvs.length<Ca->E.nx ρ (M3.set j (.dcN sh none (Rz kvs ks v)))->uNPut_3 E ρ v d e M3
abbrev Zo6(ub:TE3)(E:Ends3)(ρ:Ev)(v:D):D->Mem->Prop:=λd M2=>ub ρ M2 (uNPut_3 E ρ v d)
abbrev Zo7(ua:TE3)(ub:TE3)(E:Ends3)(ρ:Ev):D->Mem->Prop:=λv M1=>ua ρ M1 (Zo6 ub E ρ v)
def Zsa(ua ub uc:TE3):TS3:=λE ρ M=>uc ρ M (Zo7 ua ub E ρ)
def Zei(ha:SimE C Z ta ua)(hb:SimE C Z tb ub)(hc:SimE C Z tc uc):SimS C Z (Ztv C.k ta tb tc) (Zsa ua ub uc):=λI α σ H ρ M E D' R RE h F =>
 hc I α σ H ρ M _ _ R RE h λv d0 I1 a2 H1 M1 J Y R1 r1 h1=>ha I1 a2 σ H1 ρ M1 _ _ R1 (RE.mono J Y) h1 λx d I2 a1 H2 M2 G p2 R2 r2 h2 =>
  hb I2 a1 σ H2 ρ M2 _ _ R2 (RE.mono (J.trans G) (Y.trans p2)) h2 λy e I3 a0 H3 M3 B O R3 r3 h3=>by
   let⟨j,sh,kvs,ks,rfl,e1,rfl,es,hl,h3⟩:=h3;let rv:=r1.mono (G.trans B) (p2.trans O);let⟨a,rfl,ec⟩:=(r2.mono B O).inv;let⟨vs,ea,nk,ra⟩:=(R3.cel j a _ ec e1).1;cases r3 with
   | @nst b _ n =>
    exists a,b,sh,vs,ks,rfl,rfl,nk.dn R3.sub (.inl ea),ea,by rw[ra.len];exact hl,n.same R3.sub,es,?_;exact F.nx I3 a0 σ _ ρ _ (J.trans (G.trans B)) (Y.trans (p2.trans O)) (R3.put (m:=.dcN sh none (Rz kvs ks d0)) ec λH' e=>{_,e,nk.put n es,ra.put ks b rv}) (RE.mono (J.trans (G.trans B)) (Y.trans (p2.trans O))) h3
def nIt(k:Nat)(sh:List Nat)(z:Obj×List Nkv)(kvs:List (List NI×D)):It3:={kvs.length,λi x=>∃h,kvs[i]?=some h/\x=.nst h.1,λM=>M[k]?=some (.dcN sh (some z) kvs)}
inductive uIDN_1(K:It3->Mem->Prop)(d:D)(M1:Mem):Prop
 |mk:∀k sh y kvs,d=.cell k->M1[k]?=some (.dcN sh y kvs)->(∀z,K (nIt k sh z kvs) (M1.set k (.dcN sh (some z) kvs)))->uIDN_1 K d M1
def uIDN(ue:TE3):TI3:=λρ M K=>ue ρ M (uIDN_1 K)
def Zuj{k:Nat}{a:Addr}{sh:List Nat}{z:Obj×List Nkv}{kvs:List (List NI×D)}(O:α[k]?=some a):ItR C Z I α (ItdN C.k a z.1 z.2) (nIt k sh z kvs):=λI' α' H' Y s p R ok=>by
 let m:=(R.cel k a _ (Zcu p O) ok).1;let h:=m.2.2.len;exists λi hi=>{{m.1,by rw[h];exact hi},λx H2 y=>?_},{m.1,by rw[h];exact Ji _};let⟨rfl,B,e1,rfl⟩:=y;let⟨G,J⟩:=Jg.mp e1;let⟨g,_⟩:=L2.Paired.at m.2.2 G hi;rw[J]at g;exact{I',.nst B.1,.refl _,R,.nst (m.2.1 B (G1 e1)).1,kvs[i],Jb hi,by rw[g]}
def Ztn(he:SimE C Z ta ua):SimI C Z (Zoh C.k ta) (uIDN ua):=λI α σ H ρ M K R' R RE h kk =>
 he I α σ H ρ M _ _ R RE h λv d I1 B H1 M1 O Y J r1 h1=>by
  let⟨k,sh,y,kvs,rfl,e,h1⟩:=h1;let⟨a,rfl,G⟩:=r1.inv;let q:=(J.cel k a _ G e).1;cases y with
  |none =>
   let⟨vs,e1,n,r⟩:=q;exists a,vs,rfl,.inl {e1,λo=>kk _ _ I1 B _ _ O Y (J.put (m:=.dcN sh (some (o,vs)) kvs) G λH' e'=>⟨e',n,r⟩) (Zuj (z:=(o,vs)) G) (h1 (o,vs))}
  |some z =>
   exists a,z.2,rfl,.inr {z.1,q.1,kk _ _ I1 B _ _ O Y ?_ (Zuj G) (h1 z)};exact J.reset (m:=.dcN sh (some z) kvs) G q
def decP:List Int->List NI
 |z::w=>[.k z,.t w]
 |[]=>[]
inductive sortSp3(rv:Bool)(ds:List D)(M:Mem)(K:K3):Prop
 |mk:∀d kvs,ds=[d]->X0 M d=some ([0,1],kvs)->kvs.length<65536->(∀ws:List (List Int),ws.Perm (kvs.map λq=>encP q.1)->ws.Pairwise (λa b=>if rv then HT.lexLt b a=true else HT.lexLt a b=true)->K (.lst (ws.map λw=>.nst (decP w))) M)->sortSp3 rv ds M K
def Zeg{y:Bool}:SimC C Z (Rx C.k y) (sortSp3 y):=λI α H M xs ds K Q R r h k=>by
 let⟨d,kvs,rfl,e,J,h⟩:=h;refine Reps.e1 r λ_ r1=>?_;let⟨a,vs,rfl,ea,O,ra⟩:=Zj7 R r1 e;refine{a,vs,rfl,O.dn R.sub ea,by rw[ra.len];exact J,λDa L0 hD G B=>?_};let pm:=(Ts y L0).trans G;let pw:(rvB y L0).Pairwise λa b=>if y then HT.lexLt b.2.2 a.2.2=true else HT.lexLt a.2.2 b.2.2=true:=by
  cases y with
  |true=>exact List.pairwise_reverse.mpr (B.imp λz=>by simpa using z)
  |false=>exact B.imp λz=>by simpa using z
 generalize rvB y L0=L' at *
 let⟨R4,s4,e4⟩:=R.new (o:=.lst (L'.map λq=>V.ref q.2.1)) hD;let ek:kvs.map (λq=>encP q.1)=(kitN vs).map (·.2.2):=by
  unfold kitN;rw[Ju];clear e J h pm G O ea
  induction ra with
  |nil=>rfl
  |cons a b Y=>rw[Jl,Jl,Y,<-a.1];rfl
 refine k _ (.lst ((L'.map (·.2.2)).map λw=>.nst (decP w))) _ α _ M s4 (Jo _) R4 (.lst e4 ?_) (h _ (by rw[ek];exact pm.map _) (Jr.mpr pw));let all:∀q∈L',Rep C I α (.ref q.2.1) (.nst (decP q.2.2)):=λq hq=>by
  let⟨x,hx,rfl⟩:=Jk.mp (pm.mem_iff.mp hq);let⟨n,es⟩:=O x hx;let⟨z,w,e⟩:=Zan es;show Rep C I α (.ref x.2.1) (.nst (decP (encP x.1)));rw[e]at n⊢;exact .nst n
 let go:∀L:List KIt,(∀q∈L,Rep C I α (.ref q.2.1) (.nst (decP q.2.2)))->Reps C I α (L.map λq=>V.ref q.2.1) ((L.map (·.2.2)).map λw=>D.nst (decP w)):=λL=>by
  induction L with
  |nil=>exact λ_=>.nil
  |cons q L Y=>exact λall=>.cons (all q Jh) (Y λx hx=>all x (Jf _ hx))
 exact(go L' all).mono s4 (Jo _)
def Zp0{t:TA}{u:TA3}(h:SimA C Z t u):SimE C Z (Zng C.k t) (uCB (sortSp3 true) u):=s_cb Zeg h
end
abbrev Spot:=Nat×List Int
variable{ks ka:List L3.Spot}
abbrev IsWd(S:List Pr)(u:List Int):Prop:=∃p∈S,p.2=u
def Xv(kn:List (Option Int))(a:Nat)(h:List Int):List (List Int):=((Cv h.length).filter λk=>decide (kn[a+k]?=some none)).map h.drop
def bt(kn:List (Option Int))(S:List Pr)(p:Nat)(sw:List Int)(b:Int):Option (List Int) :=
 match kn[p]? with
 |none=>none
 |some o=>if(o.isSome=true/\o≠some b)\/(Xv kn (p+1-(sw++[b]).length) (sw++[b])).any (λu=>decide (IsWd S u))=true then none
  else some (((Xv kn (p+1-(sw++[b]).length) (sw++[b])).find? λu=>decide (Live S u)).getD [])
def wt(kn:List (Option Int))(S:List Pr):Spot->List Int->Option Spot
 |sp,[]=>some sp
 |sp,b::w=>(bt kn S sp.1 sp.2 b).bind λsw=>wt kn S (sp.1+1,sw) w
section
def Xp(kn:List (Option Int))(S:List Pr)(sp:Spot):Prop:=sp.2.length<=sp.1/\sp.1<=kn.length/\(sp.2=[]\/Live S sp.2)
theorem Zvk{p:Nat}{y:List Int}{b:Int}(h:bt kn S p sw b=some y):p<kn.length:=by
 unfold bt at h;cases e:kn[p]? with
 |none=>rw[e]at h;cases h
 |some o=>exact(Jg.mp e).1
theorem Zrr{p:Nat}{y:List Int}{b:Int}(h:bt kn S p sw b=some y)(l:sw.length<=p):Xp kn S (p+1,y):=by
 let G:=Zvk h;unfold bt at h;cases e:kn[p]? with
 |none=>rw[e]at h;cases h
 |some o =>
  rw[e]at h;dsimp only at h
  split at h
  .cases h
  .cases h;exists ?_,G,?_
   .cases f:(Xv kn (p+1-(sw++[b]).length) (sw++[b])).find? (λu=>decide (Live S u))with
    |none=>exact Ge _
    |some u =>
     let B:=List.mem_of_find?_eq_some f;unfold Xv at B;let⟨k,_,rfl⟩:=Jk.mp B;show((sw++[b]).drop k).length<=p+1;rw[Ga,Jc];show sw.length+1-k<=p+1;lia
   .cases f:(Xv kn (p+1-(sw++[b]).length) (sw++[b])).find? (λu=>decide (Live S u))with
    |none=>exact .inl rfl
    |some u =>
     let:=List.find?_some f;exact .inr (Dw this)
theorem Tg:∀(u v:List Int)(sp:Spot),wt kn S sp (u++v)=(wt kn S sp u).bind λh=>wt kn S h v
 |[],_,_=>rfl
 |b::u,v,sp=>by
  show(bt kn S sp.1 sp.2 b).bind _=((bt kn S sp.1 sp.2 b).bind _).bind _;cases bt kn S sp.1 sp.2 b with
  |none=>rfl
  |some sw=>exact Tg u v _
theorem Xg:∀{w:List Int}{sp y:Spot},wt kn S sp w=some y->Xp kn S sp->Xp kn S y/\y.1=sp.1+w.length
 |[],sp,y,h,g=>by cases h;exists g,rfl
 |b::w,sp,y,h,g=>by
  let h:(bt kn S sp.1 sp.2 b).bind (λsw=>wt kn S (sp.1+1,sw) w)=some y:=h;cases e:bt kn S sp.1 sp.2 b with
  |none=>rw[e]at h;cases h
  |some sw =>
   rw[e]at h;let⟨a,c⟩:=Xg (w:=w) h (Zrr e g.1);exact{a,by rw[c,Jy];show sp.1+1+_=_;lia}
def Zf8:Xp kn S (0,[]):={Ji _,Ge _,.inl rfl}
structure RowOk(kn:List (Option Int))(S:List Pr)(r:List Int):Prop where
 len:r.length<=kn.length
 mt:∀(i:Nat)(b:Int),kn[i]?=some (some b)->i<r.length->r[i]?=some b
 no:∀i j,kn[i]?=some none->i<j->j<=r.length->¬ IsWd S ((r.take j).drop i)
def SwOf(kn:List (Option Int))(S:List Pr)(r sw:List Int):Prop :=
 (∃i,i<r.length/\kn[i]?=some none/\sw=r.drop i/\Live S sw/\∀k,k<i->kn[k]?=some none->¬ Live S (r.drop k))\/(sw=[]/\∀k,k<r.length->kn[k]?=some none->¬ Live S (r.drop k))
theorem Zi7{u:List Int}{b:Int}(h:Live S (u++[b])):Live S u:=by
 let⟨w,hw,y,l⟩:=h;rw[Jc]at l;exact{w,hw,(Go u [b]).trans y,by have:[b].length=1:=rfl;lia}
def Zoy{u:List Int}{b:Int}(h:IsWd S (u++[b])):Live S u:=by
 let⟨p,y,e⟩:=h;exists p.2,Bw y,by rw[e];exact Go _ _,?_;rw[e,Jc];exact F1 _
def Zpp(h:SwOf kn S r sw):∃i,i<=r.length/\sw=r.drop i/\∀k,k<i->kn[k]?=some none->¬ Live S (r.drop k):=by
 rcases h with⟨i,hi,_,e,_,n⟩|⟨e,n⟩
 .exists i,Fi hi,e,n
 .exists r.length,Ji _,by rw[e,List.drop_length],n
theorem Zlz{i:Nat}(hi:i<=r.length)(u:List Int):u∈Xv kn i (r.drop i)↔∃k,i<=k/\k<r.length/\kn[k]?=some none/\u=r.drop k:=by
 unfold Xv;rw[Jk]
 constructor
 .rintro⟨k,h,rfl⟩;let⟨h1,h2⟩:=Gi.mp h;let h1:=G0.mp h1;rw[Ga]at h1;exact{i+k,(),(),Dw h2,by rw[F2]}
 .rintro⟨k,h1,h2,h3,rfl⟩;refine{k-i,Gi.mpr {G0.mpr (by rw[Ga];lia),D8 (by rw[show i+(k-i)=k by lia];exact h3)},by rw[F2,show i+(k-i)=k by lia]}
theorem Zgb{xs:List Nat}(f:Nat->τ)(q:τ->Bool)(hs:xs.Pairwise (· < ·)){y:τ}(h:(xs.map f).find? q=some y):∃k∈xs,f k=y/\q y=true/\∀j∈xs,j<k->q (f j)=false:=by
 induction xs with
 |nil=>cases h
 |cons x xs G =>
  rw[Jl,Gz]at h;cases e:q (f x)with
  |true =>
   rw[e]at h;cases h;exists x,Jh,rfl,e,λj B l=>?_;rcases J9.mp B with z|z
   .lia
   .let:=(Fb.mp hs).1 j z;lia
  |false =>
   rw[e]at h;let⟨k,J,e1,e2,e3⟩:=G (Fb.mp hs).2 h;exists k,Jf _ J,e1,e2,λj B l=>?_;rcases J9.mp B with z|z
   .rw[z];exact e
   .exact e3 j z l
theorem Zvj{b:Int}(ok:RowOk kn S r)(h:SwOf kn S r sw)(hl:r.length<kn.length) :
  (∀B,bt kn S r.length sw b=some B->RowOk kn S (r++[b])/\SwOf kn S (r++[b]) B)/\(bt kn S r.length sw b=none->¬ RowOk kn S (r++[b])):=by
 let⟨i,hi,rfl,hn⟩:=Zpp h;let er:r.drop i++[b]=(r++[b]).drop i:=by rw[List.drop_append_of_le_length hi]
 let lr:(r++[b]).length=r.length+1:=by rw[Jc];rfl
 let ea:r.length+1-(r.drop i++[b]).length=i:=by rw[Jc,Ga];show r.length+1-(r.length-i+1)=i;lia
 let G:∀k,k<i->kn[k]?=some none->¬ Live S ((r++[b]).drop k)/\¬ IsWd S ((r++[b]).drop k):=λk J e=>by
  rw[List.drop_append_of_le_length ()];exists λz=>hn k J e (Zi7 z),λz=>hn k J e (Zoy z)
 obtain⟨o,eo⟩:∃o,kn[r.length]?=some o:={_,Jb hl};unfold bt;rw[eo,ea,er];dsimp only;let mem:=Zlz (kn:=kn) (r:=r++[b]) (i:=i) ();let Z:(Xv kn i ((r++[b]).drop i)).any (λu=>decide (IsWd S u))=true↔∃k,k<r.length+1/\kn[k]?=some none/\IsWd S ((r++[b]).drop k):=by
  rw[Fm]
  constructor
  .rintro⟨u,hu,z⟩;let⟨k,h1,h2,h3,rfl⟩:=(mem u).mp hu;exists k,(),h3,Dw z
  .rintro⟨k,h1,h2,h3⟩;exists _,(mem _).mpr {k,?_,(),h2,rfl},D8 h3;exact Fl λz=>(G k z h2).2 h3
 constructor
 .intro B Y
  split at Y
  .cases Y
  .rename_i O
   let a2:¬ (o.isSome=true/\o≠some b):=λz=>O (.inl z);let a1:¬ _:=λz=>O (.inr (Z.mpr z));cases Y;exists{(),λk c e J=>?_,λk j e h1 h2=>?_},?_
   .by_cases z:k<r.length
    .rw[Jw z];exact ok.mt k c e z
    .let:k=r.length:=by lia
     subst this;rw[eo]at e;cases e;rw[J8 (Ji _),Fj]
     by_cases hcb:c=b
     .rw[hcb];rfl
     .exact Dx {rfl,λz=>hcb (Jaa z)} a2
   .by_cases z:j<=r.length
    .rw[Ff z];exact ok.no k j e h1 z
    .let:j=r.length+1:=by lia
     subst this;rw[<-lr,Gb];exact λy=>a1 {k,(),e,y}
   .cases f:(Xv kn i ((r++[b]).drop i)).find? (λu=>decide (Live S u))with
    |none =>
     refine .inr {rfl,λk J e z=>?_}
     by_cases hki:k<i
     .exact(G k hki e).1 z
     .exact Ds.mp f _ ((mem _).mpr {k,(),J,e,rfl}) (D8 z)
    |some u =>
     unfold Xv at f;let⟨k,J,rfl,e2,e3⟩:=Zgb _ _ ((List.pairwise_lt_range (n:=_)).filter _) f;let⟨h1,h2⟩:=Gi.mp J;let h1:=G0.mp h1;rw[Ga]at h1;refine .inl {i+k,(),Dw h2,by rw[F2];rfl,Dw e2,λj hj e z=>?_}
     by_cases hji:j<i
     .exact(G j hji e).1 z
     .let:=e3 (j-i) (Gi.mpr {G0.mpr (by rw[Ga];lia),D8 (by rw[show i+(j-i)=j by lia];exact e)}) ();rw[F2,show i+(j-i)=j by lia]at this;exact Dy this z
 .intro Y a0
  split at Y
  .rename_i O
   rcases O with⟨h1,h2⟩|O
   .cases o with
    |none=>cases h1
    |some c =>
     let:=a0.mt r.length c eo ();rw[J8 (Ji _),Fj]at this;exact h2 this.symm
   .let⟨k,h1,h2,h3⟩:=Z.mp O;let:=a0.no k (r.length+1) h2 h1 ();rw[<-lr,Gb]at this;exact this h3
  .cases Y
theorem RowOk.less{b:Int}(h:RowOk kn S (r++[b])):RowOk kn S r:=by
 let y:(r++[b]).length=r.length+1:=by rw[Jc];rfl
 exists by have:=h.len;lia,λi c e hi=>?_,λi j e h1 h2=>?_
 .let:=h.mt i c e ();rwa [Jw hi]at this
 .let:=h.no i j e h1 ();rwa [Ff h2]at this
def Zh4{Q:List τ->Prop}(h0:Q [])(h1:∀r b,Q r->Q (r++[b]))(r:List τ):Q r:=by
 let y:∀r:List τ,Q r.reverse:=λr=>by
  induction r with
  |nil=>exact h0
  |cons b r h=>rw[Fg];exact h1 _ b h
 let:=y r.reverse;rwa [List.reverse_reverse]at this
theorem Zna(r:List Int):(∀sp,wt kn S (0,[]) r=some sp->sp.1=r.length/\RowOk kn S r/\SwOf kn S r sp.2)/\(wt kn S (0,[]) r=none->¬ RowOk kn S r):=by
 refine Zh4 (Q:=λr=>(∀sp,wt kn S (0,[]) r=some sp->sp.1=r.length/\RowOk kn S r/\SwOf kn S r sp.2)/\(wt kn S (0,[]) r=none->¬ RowOk kn S r)) ?_ (λr b B=>?_) r
 .refine{λsp h=>?_,λh=>by cases h};cases h;exists rfl,{Ge _,(λ_ _ _ h=>nomatch h),λi j _ h1 h2=>by have:j=0:=Nat.le_zero.mp h2;lia},.inr {rfl,λk h=>nomatch h}
 .rw[Tg];cases e:wt kn S (0,[]) r with
  |none=>exact{λsp h=>(by cases h),λ_ ok=>B.2 e ok.less}
  |some sp =>
   let⟨h1,h2,h3⟩:=B.1 sp e;let G:(r++[b]).length=r.length+1:=by rw[Jc];rfl
   show(∀y,(bt kn S sp.1 sp.2 b).bind (λsw=>some (sp.1+1,sw))=some y->_)/\((bt kn S sp.1 sp.2 b).bind (λsw=>some (sp.1+1,sw))=none->_);rw[h1]
   by_cases hl:r.length<kn.length
   .let⟨a,c⟩:=Zvj (b:=b) h2 h3 hl;cases eb:bt kn S r.length sp.2 b with
    |none=>exact{λy h=>(by cases h),λ_=>c eb}
    |some sw =>
     let⟨O,J⟩:=a sw eb;refine{λy h=>?_,λh=>by cases h};cases h;exists by rw[G],O,J
   .let:bt kn S r.length sp.2 b=none:=by
     cases eb:bt kn S r.length sp.2 b with
     |none=>rfl
     |some sw=>exact Dx (Zvk eb) hl
    rw[this];exact{λy h=>(by cases h),λ_ ok=>by have:=ok.len;lia}
def kn1(S:List Pr):Option Int->Option (List (Option Int))
 |none=>some [none]
 |some s=>(S.find? λp=>decide (p.1=s)).map λp=>p.2.map some
def knF(S:List Pr):List (Option Int)->Option (List (Option Int))
 |[]=>some []
 |e::E=>match kn1 S e,knF S E with|some a,some b=>some (a++b)|_,_=>none
theorem Sk:∀(E F:List (Option Int)),knF S (E++F)=match knF S E,knF S F with|some a,some b=>some (a++b)|_,_=>none
 |[],F=>by
  show knF S F=match some [],knF S F with|some a,some b=>some (a++b)|_,_=>none
  cases knF S F<;>rfl
 |e::E,F=>by
  show(match kn1 S e,knF S (E++F)with|some a,some b=>some (a++b)|_,_=>none)=match(match kn1 S e,knF S E with|some a,some b=>some (a++b)|_,_=>none),knF S F with|some a,some b=>some (a++b)|_,_=>none
  rw[Sk E F];cases kn1 S e with
  |none=>rfl
  |some a =>
   cases knF S E with
   |none=>rfl
   |some b =>
    cases knF S F with
    |none=>rfl
    |some c=>show some (a++(b++c))=some (a++b++c);rw[Jn]
theorem V0(B:Free S){p:Pr}(h:p∈S):S.find? (λq=>decide (q.1=p.1))=some p:=by
 induction S with
 |nil=>cases h
 |cons q S y =>
  let⟨h1,h2⟩:=Fb.mp B;rw[Gz];rcases J9.mp h with z|z
  .subst z;rw[D8 rfl]
  .rw[D9 (h1 p z).1];exact y h2 z
def N9(y:Free S){p:Pr}(h:p∈S):kn1 S (some p.1)=some (p.2.map some):=by
 show(S.find? λq=>decide (q.1=p.1)).map (λp=>p.2.map some)=_;rw[V0 y h];rfl
theorem N8(e:Option Int):knF S [e]=kn1 S e:=by
 show(match kn1 S e,some []with|some a,some b=>some (a++b)|_,_=>none)=_;cases kn1 S e with
 |none=>rfl
 |some a=>show some (a++[])=_;rw[Gg]
def Nv(R:List En)(e:En):osOf (R++[e])=osOf R++[e.2]:=by unfold osOf;rw[Jj];rfl
theorem Zgt(J:Free S)(h:Went S r R pl):∃kn,knF S (osOf R)=some kn/\kn.length=pl/\(∀(i:Nat)(b:Int),kn[i]?=some (some b)->r[i]?=some b)/\∀i,kn[i]?=some none->∀p∈S,¬ p.2<+:r.drop i:=by
 induction h with
 |nil=>exact{[],rfl,rfl,(λ_ _ h=>nomatch h),(λ_ h=>nomatch h)}
 | @lost R pl w hl hn ih =>
  let⟨kn,e1,e2,e3,y⟩:=ih;exists kn++[none],?_,by rw[Jc,e2];rfl,λi b e=>?_,λi e=>?_
  .rw[Nv,Sk,e1,N8];rfl
  .by_cases z:i<kn.length
   .rw[Jw z]at e;exact e3 i b e
   .rw[J8 (Fl z)]at e;cases hk:i-kn.length with
    |zero=>rw[hk]at e;cases e
    |succ k=>rw[hk]at e;cases e
  .by_cases z:i<kn.length
   .rw[Jw z]at e;exact y i e
   .let⟨hi,_⟩:=Jg.mp e;rw[Jc]at hi;let:i=pl:=by have:[none (α:=Int)].length=1:=rfl;lia
    rw[this];exact hn
 | @word R pl p w hp pre ne ih =>
  let⟨kn,e1,e2,e3,y⟩:=ih;exists kn++p.2.map some,?_,by rw[Jc,e2,Ja],λi b e=>?_,λi e=>?_
  .rw[Nv,Sk,e1,N8,N9 J hp]
  .by_cases z:i<kn.length
   .rw[Jw z]at e;exact e3 i b e
   .rw[J8 (Fl z),Gc]at e;let⟨c,B,e⟩:=G5.mp e;cases e;let⟨t,G⟩:=pre;let:(r.drop pl)[i-pl]?=some b:=by
     rw[<-G,Jw (by rw[<-e2];exact(Jg.mp B).1),<-e2];exact B
    rw[List.getElem?_drop,show pl+(i-pl)=i by lia]at this;exact this
  .by_cases z:i<kn.length
   .rw[Jw z]at e;exact y i e
   .rw[J8 (Fl z),Gc]at e;let⟨c,_,e⟩:=G5.mp e;cases e
theorem Zc4(fr:Free S)(ne:∀p∈S,p.2≠[]) :∀{F E:List (Option Int)}{kn kn0:List (Option Int)}{R:List En},knF S F=some kn->kn0++kn=E->RowOk E S r->r.length=E.length->Went S r R kn0.length->∃B,osOf B=osOf R++F/\Told S r B
 |[],E,kn,kn0,R,h,e,ok,hl,w=>by
  cases h;rw[Gg]at e;exact{R,by rw[Gg],_,w,by rw[e,hl];exact Ji _}
 |none::F,E,kn,kn0,R,h,e,ok,hl,w=>by
  let h:(match some [none],knF S F with|some a,some b=>some (a++b)|_,_=>none)=some kn:=h;cases hF:knF S F with
  |none=>rw[hF]at h;cases h
  |some Y =>
   rw[hF]at h;cases h;let J:(kn0++[none])++Y=E:=by rw[Jn];exact e
   let at0:E[kn0.length]?=some none:=by rw[<-e,J8 (Ji _),Fj];rfl
   let lt:=(Jg.mp at0).1;let O:Went S r (R++[(kn0.length,none)]) (kn0.length+1):=.lost w () λp G y=>by
    let⟨t,ht⟩:=y;let pl:=Gj.mpr (ne p G);let Z:kn0.length+p.2.length<=r.length:=by have:=congrArg Eu ht;rw[Jc,Ga]at this;lia
    refine ok.no kn0.length (kn0.length+p.2.length) at0 () Z {p,G,?_};rw[Dv,<-ht,show kn0.length+p.2.length-kn0.length=p.2.length by lia,B8]
   let⟨B,a,b⟩:=Zc4 fr ne (F:=F) (kn0:=kn0++[none]) hF J ok hl (by rw[Jc];exact O);exists B,by rw[a,Nv,Jn];rfl,b
 |some s::F,E,kn,kn0,R,h,e,ok,hl,w=>by
  let h:(match(S.find? λp=>decide (p.1=s)).map (λp=>p.2.map some),knF S F with|some a,some b=>some (a++b)|_,_=>none)=some kn:=h;cases h1:S.find? (λp=>decide (p.1=s))with
  |none=>rw[h1]at h;cases h
  |some p =>
   let G:=List.mem_of_find?_eq_some h1;let es:=List.find?_some h1;let es:p.1=s:=Dw es;cases hF:knF S F with
   |none=>rw[h1,hF]at h;cases h
   |some Y =>
    rw[h1,hF]at h;cases h;let J:(kn0++p.2.map some)++Y=E:=by rw[Jn];exact e
    let Z:kn0.length+p.2.length<=r.length:=by rw[hl,<-J,Jc,Jc,Ja];lia
    let y:p.2<+:r.drop kn0.length:=by
     exists(r.drop kn0.length).drop p.2.length,?_
     conv=>rhs;rw[<-J0 p.2.length (r.drop kn0.length)]
     congr 1
     apply K2
     intro i
     by_cases hi:i<p.2.length
     .rw[Km hi,List.getElem?_drop,Jb hi];refine(ok.mt (kn0.length+i) p.2[i] ?_ ()).symm;rw[<-J,Jw (by rw[Jc,Ja];lia),J8 (),Gc,show kn0.length+i-kn0.length=i by lia,Jb hi];rfl
     .rw[Bk (),Bk (by rw[Jz];lia)]
    let O:Went S r (R++[(kn0.length,some p.1)]) (kn0.length+p.2.length):=.word w G y (ne p G);let⟨B,a,b⟩:=Zc4 fr ne (F:=F) (kn0:=kn0++p.2.map some) hF J ok hl (by rw[Jc,Ja];exact O);exists B,by rw[a,Nv,es,Jn];rfl,b
theorem Nu(y:Free S)(ne:∀p∈S,p.2≠[]){E:List (Option Int)}(h:knF S E=some kn) :(∃R,Told S r R/\osOf R=E)↔r.length=kn.length/\(wt kn S (0,[]) r).isSome=true:=by
 constructor
 .rintro⟨R,⟨pl,w,l⟩,e⟩;let⟨Z,B,a2,O,J⟩:=Zgt y w;rw[e,h]at B;cases B;let hl:r.length=kn.length:=by have:=w.le;lia
  exists hl,?_;cases q:wt kn S (0,[]) r with
  |some _=>rfl
  |none =>
   refine Dx {(),λi b e _=>O i b e,λi j e h1 h2⟨p,G,z⟩=>J i e p G ?_} ((Zna r).2 q);rw[z,Dv];exact F3 _ _
 .rintro⟨hl,q⟩;let⟨sp,q⟩:=Fz.mp q;let⟨_,ok,_⟩:=(Zna r).1 sp q;let⟨Y,a,b⟩:=Zc4 y ne (kn0:=[]) (R:=[]) h rfl ok hl .nil;exists Y,b,a
def Nt(B:Free S){E:List (Option Int)}(y:knF S E=none) :¬ ∃R,Told S r R/\osOf R=E:=λ⟨R,⟨pl,w,l⟩,e⟩=>by
 let⟨G,h,_⟩:=Zgt B w;rw[e,y]at h;cases h
end
def tx'(P:List Pr):Nat->List (List Pr)
 |0=>[[]]
 |n+1=>P.flatMap λp=>if h:p.2≠[]/\p.2.length<=n+1 then(tx' P (n+1-p.2.length)).map (p::·)else []
termination_by n=>n
decreasing_by have:=Gj.mpr h.1;lia
def NeW(P:List Pr):Prop:=∀p∈P,p.2≠[]
def row_cons(p:Pr)(U:List Pr):Zp (p::U)=p.2++Zp U:=rfl
theorem R9{P:List Pr}(ne:NeW P):∀(U:List Pr)(n:Nat),U∈tx' P n↔(∀p∈U,p∈P)/\(Zp U).length=n
 |[],0=>by rw[tx'];exists λ_=>{(λ_ h=>nomatch h),rfl},λ_=>Je.mpr rfl
 |p::U,0=>by
  rw[tx',Je];exists λh=>(nomatch h),λhz=>?_;let⟨h1,h2⟩:=hz;let:=Gj.mpr (ne p (h1 p Jh));rw[row_cons,Jc]at h2;lia
 |[],n+1=>by
  rw[tx',Gp];exists λhz=>?_,λ⟨_,h⟩=>nomatch h;let⟨p,_,h⟩:=hz
  split at h
  .let⟨V,_,e⟩:=Jk.mp h;cases e
  .cases h
 |p::U,n+1=>by
  rw[tx',Gp]
  constructor
  .rintro⟨q,B,h⟩
   split at h
   .rename_i J
    let⟨V,G,e⟩:=Jk.mp h;cases e;let⟨h1,h2⟩:=(R9 ne U _).mp G;exists λx hx=>(J9.mp hx).elim (λz=>by rw[z];exact B) (h1 x),?_;rw[row_cons,Jc,h2];lia
   .cases h
  .rintro⟨h1,h2⟩;rw[row_cons,Jc]at h2;let y:=h1 p Jh;exists p,y,?_;rw[dif_pos {ne p y,()}];exact Bw ((R9 ne U _).mpr {λx hx=>h1 x (Jf _ hx),()})
theorem P7{P:List Pr}(nd:P.Nodup):∀n,(tx' P n).Nodup:=λn=>by
 induction n using Nat.strongRecOn with
 |ind n J =>
  cases n with
  |zero=>rw[tx'];exact Ba _ _
  |succ n =>
   rw[tx'];unfold List.Nodup;rw[Bl];exists λp Y=>?_,nd.imp λ{a b}G x hx y B e=>?_
   .split
    .rename_i O
     let:=Gj.mpr O.1;exact Jr.mpr ((J _ ()).imp λh z=>h (List.cons.inj z).2)
    .exact .nil
   .split at hx
    .split at B
     .let⟨V,_,rfl⟩:=Jk.mp hx;let⟨W,_,rfl⟩:=Jk.mp B;exact G (List.cons.inj e).1
     .cases B
    .cases hx
def Free.nd{P:List Pr}(h:Free P):P.Nodup:=h.imp λa e=>a.1 (by rw[e])
theorem P8(y:Free L)(ne:NeW L):∀{U V:List Pr},(∀p∈U,p∈L)->(∀p∈V,p∈L)->Zp U=Zp V->U=V
 |[],[],_,_,_=>rfl
 |[],q::V,_,hV,e=>by
  let:=congrArg Eu e;rw[row_cons,Jc]at this;let:=Gj.mpr (ne q (hV q Jh));let:(Zp ([]:List Pr)).length=0:=rfl;lia
 |p::U,[],hU,_,e=>by
  let:=congrArg Eu e;rw[row_cons,Jc]at this;let:=Gj.mpr (ne p (hU p Jh));let:(Zp ([]:List Pr)).length=0:=rfl;lia
 |p::U,q::V,hU,hV,e=>by
  rw[row_cons,row_cons]at e;let Y:=hU p Jh;let O:=hV q Jh;let B:p=q:=by
   by_cases z:p=q
   .exact z
   .let J:Zk0 p q\/Zk0 q p:=by
     let⟨i,hi,rfl⟩:=Gh Y;let⟨j,G,rfl⟩:=Gh O;rcases Nat.lt_trichotomy i j with h|h|h
     .exact .inl (y.get hi G h)
     .subst h;exact Dx rfl z
     .exact .inr (y.get G hi h)
    rcases K4 (show p.2<+:p.2++Zp U from Go _ _) (by rw[e];exact Go _ _:q.2<+:p.2++Zp U)with h|h
    .rcases J with a|a
     .exact Dx h a.2.1
     .exact Dx h a.2.2
    .rcases J with a|a
     .exact Dx h a.2.2
     .exact Dx h a.2.1
  subst B;rw[P8 y ne (λx hx=>hU x (Jf _ hx)) (λx hx=>hV x (Jf _ hx)) (List.append_cancel_left e)]
def stF(kn:List (Option Int))(S P:List Pr)(sp:Spot):List (Int×Spot):=P.filterMap λp=>(wt kn S sp p.2).map λq=>(p.1,q)
def cnt(kn:List (Option Int))(S P:List Pr)(sp:Spot):Nat:=((tx' P (kn.length-sp.1)).filter λU=>(wt kn S sp (Zp U)).isSome).length
section
variable{P:List Pr}
def Zrp{sp:Spot}(h:sp.1=kn.length):cnt kn S P sp=1:=by
 unfold cnt;rw[h,Fj,tx'];rfl
def Znn{sp q:Spot}{s:Int}(h:(s,q)∈stF kn S P sp):∃p∈P,p.1=s/\wt kn S sp p.2=some q:=by
 let⟨p,y,e⟩:=F5.mp h;let⟨B,e1,e2⟩:=G5.mp e;cases e2;exists p,y,rfl,e1
theorem Zlk(ne:NeW P){sp:Spot}{x:Int×Spot}(g:Xp kn S sp)(h:x∈stF kn S P sp):Xp kn S x.2/\sp.1<x.2.1:=by
 let⟨p,y,_,e⟩:=Znn (s:=x.1) (q:=x.2) h;let⟨a,b⟩:=Xg e g;let:=Gj.mpr (ne p y);exact{a,()}
theorem Zkg(ne:NeW P){sp:Spot}(g:Xp kn S sp)(h:sp.1<kn.length):cnt kn S P sp=((stF kn S P sp).map λx=>cnt kn S P x.2).sum:=by
 let e1:((stF kn S P sp).map λx=>cnt kn S P x.2).sum=(P.map λp=>match wt kn S sp p.2 with|some q=>cnt kn S P q|none=>0).sum:=by
  unfold stF;generalize cnt kn S P=f
  induction P with
  |nil=>rfl
  |cons p P G =>
   rw[Jl,Bs,F0,<-G λq y=>ne q (Jf _ y)];cases wt kn S sp p.2 with
   |none=>show _=0+_;rw[Bu];rfl
   |some q=>rw[Option.map_some];dsimp only;rw[List.map_cons,List.sum_cons]
 rw[e1];show((tx' P (kn.length-sp.1)).filter λU=>(wt kn S sp (Zp U)).isSome).length=_;obtain⟨m,O⟩:∃m,kn.length-sp.1=m+1:={kn.length-sp.1-1,()};rw[O,tx',List.filter_flatMap,G8]
 congr 1
 refine Gw λp J=>?_
 split
 .rename_i B
  rw[List.filter_map,Ja];let Y:((λU=>(wt kn S sp (Zp U)).isSome) ∘ λx=>p::x)=λU=>((wt kn S sp p.2).bind λq=>wt kn S q (Zp U)).isSome:=by
   funext U
   show(wt kn S sp (p.2++Zp U)).isSome=_;rw[Tg]
  rw[Y];cases e:wt kn S sp p.2 with
  |none=>show(List.filter (λ_=>false) _).length=0;rw[List.filter_eq_nil_iff.mpr λ_ _ z=>Bool.noConfusion z];rfl
  |some q =>
   let y:=(Xg e g).2;show _=((tx' P (kn.length-q.1)).filter _).length;rw[y,show kn.length-(sp.1+p.2.length)=m+1-p.2.length by lia];rfl
 .rename_i B
  cases e:wt kn S sp p.2 with
  |none=>rfl
  |some q =>
   let⟨a,b⟩:=Xg e g;exact Dx {ne p J,by have:=a.2.1;lia} B
def befs(S:List Pr):List (List Int):=S.flatMap λp=>(Cv p.2.length).map p.2.take
def Zm7(kn:List (Option Int))(S:List Pr):List Spot:=(Cv (kn.length+1)).flatMap λp=>([]::befs S).map λu=>(p,u)
theorem Zmr{sp:Spot}(g:Xp kn S sp):sp∈Zm7 kn S:=by
 unfold Zm7;rw[Gp];exists sp.1,G0.mpr (by have:=g.2.1;lia),Jk.mpr {sp.2,?_,rfl};rcases g.2.2 with z|⟨w,hw,pre,l⟩
 .rw[z];exact Jh
 .refine Jf _ (Gp.mpr ?_);let⟨p,h,rfl⟩:=Jk.mp hw;exists p,h,Jk.mpr {sp.2.length,G0.mpr l,(List.prefix_iff_eq_take.mp pre).symm}
theorem Wz{f:τ->Nat}{n:Nat}:∀{xs:List τ},(∀x∈xs,f x<=n)->(xs.map f).sum<=xs.length*n
 |[],_=>Ge _
 |x::xs,h=>by
  rw[Jl,Bs,Jy,Du];let:=Wz (λy B=>h y (Jf _ B):∀y∈xs,f y<=n);let:=h x Jh;lia
theorem Zru(y:Fits S)(B:kn.length<=200):(Zm7 kn S).length<=51000:=by
 let h1:(befs S).length<=63*4:=by
  unfold befs;rw[G8];refine Jx (Wz (n:=4) λp h=>?_) (Le 4 (by have:=y.1;lia));rw[Ja,Bo];exact(y.2 p h).2
 unfold Zm7;rw[G8];refine Jx (Wz (n:=253) λp h=>?_) ?_
 .rw[Ja,Jy];lia
 .rw[Bo];exact Jx (Le 253 (show kn.length+1<=201 by lia)) nofun
structure KeysOk(kn:List (Option Int))(S P:List Pr)(ks:List Spot):Prop where
 nd:ks.Nodup
 gd:∀sp∈ks,Xp kn S sp
 st:(0,[])∈ks
 cl:∀sp∈ks,∀x∈stF kn S P sp,x.2∈ks
 rc:∀sp∈ks,∃U:List Pr,(∀p∈U,p∈P)/\wt kn S (0,[]) (Zp U)=some sp
def Zaa(y:Fits S)(h:kn.length<=200)(nd:ks.Nodup)(gd:∀sp∈ks,Xp kn S sp):ks.length<=51000:=Jx (Ue nd λx hx=>Zmr (gd x hx)) (Zru y h)
end
def Yk(S:List Pr):List Pr:=S.mergeSort λa b=>decide (a.1<=b.1)
def Yo(S:List Pr):(Yk S).Perm S:=List.mergeSort_perm _ _
def Zkl(S:List Pr):(Yk S).Pairwise λa b=>a.1<=b.1:=(List.pairwise_mergeSort (le:=λa b:Pr=>decide (a.1<=b.1)) (λa b c h1 h2=>D8 (Jg5 (Dw h1) (Dw h2))) (λa b=>by rcases Int.le_total a.1 b.1 with z|z<;>simp[z]) S).imp Dw
def Zb2(pm:ns.Perm (S.map (·.1)))(pw:ns.Pairwise (·<=·)):ns=(Yk S).map (·.1) :=
 List.Perm.eq_of_pairwise (λa b _ _ h1 h2=>Int.le_antisymm h1 h2) pw (Jr.mpr (Zkl S)) (pm.trans ((Yo S).map _).symm)
def spN(sp:Spot):List NI:=[.k sp.1,.t sp.2]
def Nc{a b:Spot}(h:spN a=spN b):a=b:=by
 unfold spN at h;injection h with h1 h2
 injection h2 with h2 _
 injection h1 with h1
 injection h2 with h2
 exact Prod.ext (Int.ofNat.inj h1) h2
def stpD(x:Int×Spot):D:=.tup [.int x.1,.nst (spN x.2)]
def kvN(f:Spot->D)(ks:List Spot):List (List NI×D):=ks.map λsp=>(spN sp,f sp)
theorem Xr{f:Spot->D}{sp:Spot}:∀{ks:List Spot},sp∈ks->Q7 (kvN f ks) (spN sp)=some (f sp)
 |k::ks,h=>by
  unfold Q7 kvN;rw[Jl,Gz]
  by_cases e:k=sp
  .rw[e,D8 rfl];rfl
  .rw[D9 λz=>e (Nc z)];exact Xr ((J9.mp h).resolve_left λz=>e z.symm)
theorem Ze1{f:Spot->D}{sp:Spot}:∀{ks:List Spot},sp∉ks->Q7 (kvN f ks) (spN sp)=none
 |[],_=>rfl
 |k::ks,h=>by
  unfold Q7 kvN;rw[Jl,Gz,D9 λz=>h (by rw[Nc z];exact Jh)];exact Ze1 λz=>h (Jf _ z)
def Qe{f:Spot->D}{sp:Spot}(h:sp∉ks):Rz (kvN f ks) (spN sp) (f sp)=kvN f (ks++[sp]):=by
 let e:((kvN f ks).any λx=>decide (x.1=spN sp))=false:=by
  rw[List.any_eq_false];intro x hx;let⟨k,y,rfl⟩:=Jk.mp hx;rw[Dz];exact λz=>h (by rw[<-Nc z];exact y)
 unfold Rz;rw[e,D6 Gd];unfold kvN;rw[Jj];rfl
def Wt(f:Spot->D)(ks:List Spot):(kvN f ks).length=ks.length:=Ja _
def stD3(kn:List (Option Int))(S P:List Pr)(sp:Spot):D:=.lst ((stF kn S P sp).map stpD)
def Zha(C:Addr):Sp:=λvs H Q _=>∃(x r:Addr)(S:List Pr)(ns:List Int),vs=[.ref x,.ref r]/\Uu C H x S/\H r=some (.tup (ns.map V.int))/\Q (.bl (decide (Live S ns))) H
section
inductive dLiveT(ds:List D)(M:Mem)(K:K3):Prop
 |mk:∀(S:List Pr)(ns:List Int),ds=[.code S,.tup (ns.map .int)]->K (.bl (decide (Live S ns))) M->dLiveT ds M K
def Zrx{E:XK}(h:spOf C dLiveT vs H Q E):Zha C.c vs H Q E:=by
 let⟨Z,I,α,M,ds,K,R,r,⟨S,ns,rfl,h⟩,O⟩:=h;refine Reps.e2 r λ_ _ J G=>?_;let⟨_,rfl,Y⟩:=J.inv;let⟨a,va,rfl,y,_,B⟩:=Ul R G rfl;rw[B.of_ints ns]at y;exists _,a,S,ns,rfl,Y.same R.sub,y,O _ _ I α H M (.refl _) (Jo _) R (.bl _) h
end
def Zjy(q:τ->Bool){xs:List τ}{i:Nat}(hi:i<xs.length)(c:Bool)(h:q xs[i]=c):(xs.take (i+1)).filter q=(xs.take i).filter q++(if c=true then [xs[i]]else []):=by
 rw[Jd hi,De,Fc,h];cases c<;>rfl
def Xz(q:τ->Bool)(f:τ->υ){xs:List τ}{i:Nat}(hi:i<xs.length)(c:Bool)(h:q xs[i]=c):((xs.take (i+1)).filter q).map f=((xs.take i).filter q).map f++(if c=true then [f xs[i]]else []):=by
 rw[Jd hi,De,Jj,Fc,h];cases c<;>rfl
theorem Zqw{d:D}{x:List Int}(h:itOf d=some x):niOf d=some (.t x):=by
 cases d with
 |itp y=>cases h;rfl
 |tup ds=>show(itOf (.tup ds)).map NI.t=_;rw[h];rfl
 |_=>cases h
def Zfi{n:Nat}{xs:List (Int×Spot)}:Yb n (.lst (xs.map stpD)):=V2 (X1 (λ_=>Q0 (X7 Xo (X7 Zb8 Q2))) xs)
def Zor{sp y:Spot}{w:List Int}{i:Nat}(hi:i<w.length)(h:wt kn S sp (w.take i)=some y):wt kn S sp (w.take (i+1))=(bt kn S y.1 y.2 w[i]).map (λsw=>(y.1+1,sw))/\(bt kn S y.1 y.2 w[i]=none->wt kn S sp w=none):=by
 let e1:wt kn S sp (w.take (i+1))=(bt kn S y.1 y.2 w[i]).map (λsw=>(y.1+1,sw)):=by
  rw[Jd hi,Tg,h];show(bt kn S y.1 y.2 w[i]).bind (λsw=>some (y.1+1,sw))=_;cases bt kn S y.1 y.2 w[i]<;>rfl
 exists e1,λe=>?_;rw[<-J0 (i+1) w,Tg,e1,e];rfl
inductive dKnown(ds:List D)(M:Mem)(K:K3):Prop
 |mk:∀(S:List Pr)(d:D)(E:List (Option Int)),ds=[.code S,d]->(lsOf M d=some (E.map oD)/\(Free S/\Fits S/\E.length<=50)/\(knF S E=none->K .non M)/\∀kn,knF S E=some kn->K (.cell M.length) (M++[.lst (kn.map oD)]))->dKnown ds M K
inductive dByteT(ds:List D)(M:Mem)(K:K3):Prop
 |mk:∀(S:List Pr)(d:D)(kn:List (Option Int))(p:Nat)(sw:List Int)(b:Int),ds=[.code S,.lst (kn.map oD),.int p,d,.int b]->(itOf d=some sw/\(p<kn.length/\sw.length<=p/\kn.length<=200)/\(bt kn S p sw b=none->K .non M)/\∀sw',bt kn S p sw b=some sw'->K (.tup (sw'.map .int)) M)->dByteT ds M K
inductive dWordT(ds:List D)(M:Mem)(K:K3):Prop
 |mk:∀(S:List Pr)(kn:List (Option Int))(sp:Spot)(w:List Int),ds=[.code S,.lst (kn.map oD),.nst (spN sp),wD w]->((Xp kn S sp/\w.length<=4/\kn.length<=200)/\(wt kn S sp w=none->K .non M)/\∀q,wt kn S sp w=some q->K (.nst (spN q)) M)->dWordT ds M K
inductive dStepsAt(ds:List D)(M:Mem)(K:K3):Prop
 |mk:∀(S1 S:List Pr)(kn:List (Option Int))(sp:Spot),ds=[.code S1,.code S,.lst (kn.map oD),.nst (spN sp)]->((Xp kn S sp/\Free S1/\Fits S1/\kn.length<=200)/\K (stD3 kn S (Yk S1) sp) M)->dStepsAt ds M K
inductive dAllSt(ds:List D)(M:Mem)(K:K3):Prop
 |mk:∀(S1 S:List Pr)(kn:List (Option Int)),ds=[.code S1,.code S,.lst (kn.map oD)]->((Free S1/\Fits S1/\Fits S/\kn.length<=200)/\∀ks,KeysOk kn S (Yk S1) ks->K (.cell M.length) (M++[.dcN [0,1] none (kvN (stD3 kn S (Yk S1)) ks)]))->dAllSt ds M K
def cntD(kn:List (Option Int))(S P:List Pr)(sp:Spot):D:=.int (cnt kn S P sp)
inductive dCountsB(ds:List D)(M:Mem)(K:K3):Prop
 |mk:∀(c:Nat)(y:Option (Obj×List Nkv))(S P:List Pr)(kn:List (Option Int))(ks:List Spot)(n:Int),ds=[.cell c,.int n]->(M[c]?=some (.dcN [0,1] y (kvN (stD3 kn S P) ks))/\(ks.Nodup/\(∀sp∈ks,Xp kn S sp)/\(∀sp∈ks,∀x∈stF kn S P sp,x.2∈ks)/\NeW P/\P.length<64/\ks.length<=51000/\(ks≠[]->n=kn.length))/\∀kb,kb.Perm ks->K (.cell M.length) (M++[.dcN [0,1] none (kvN (cntD kn S P) kb)]))->dCountsB ds M K
def stL3(kn:List (Option Int))(S P:List Pr)(sp:Spot):D:=.lst (((stF kn S P sp).filter λx=>decide (0<cnt kn S P x.2)).map stpD)
def LvAt(XL:Addr)(M:Mem)(x:Nat)(S1 S:List Pr)(E:List (Option Int)):Prop:=∃(b s:Nat)(n:Int)(kn:List (Option Int))(ks y:List Spot),M[x]?=some (.ins XL [("size",.int n),("behind",.cell b),("steps",.cell s)])/\M[b]?=some (.dcN [0,1] none (kvN (cntD kn S (Yk S1)) y))/\M[s]?=some (.dcN [0,1] none (kvN (stL3 kn S (Yk S1)) ks))/\y.Perm ks /\
 (match knF S E with|none=>n=0/\ks=[]|some h=>kn=h/\n=kn.length/\KeysOk kn S (Yk S1) ks)
def LvIn(S1 S:List Pr)(E:List (Option Int)):Prop:=Free S1/\Fits S1/\Free S/\Fits S/\E.length<=50
inductive dLeav(XL:Addr)(ds:List D)(M:Mem)(K:K3):Prop
 |mk:∀(x:Nat)(S1 S:List Pr)(d:D)(E:List (Option Int)),ds=[.cell x,.code S1,.code S,d]->(M[x]?=some (.ins XL [])/\lsOf M d=some (E.map oD)/\LvIn S1 S E/\∀M',(∃o J,M'=M.set x o++J)->LvAt XL M' x S1 S E->K .non M')->dLeav XL ds M K
theorem Ri(bs:List Int):∀n,(Tt bs n).length=bs.length ^ n
 |0=>rfl
 |n+1=>by
  rw[Tt,G8,Nat.pow_succ,<-Ri bs n];generalize Tt bs n=xs
  induction xs with
  |nil=>rw[F6,List.sum_nil,Bf,Nat.zero_mul]
  |cons x xs h=>rw[Jl,Bs,h,Ja,Jy,Du,L7]
def FewB(bs:List Int)(n:Nat):Prop:=(bs.length<=2/\n<=6)\/(bs.length<=3/\n<=4)
theorem Zaz{bs:List Int}(tb:TbK L bs){n:Nat}(B:FewB bs n){G:List (List Pr)}(nd:G.Nodup)(h:∀U∈G,(∀p∈U,p∈L)/\(Zp U).length<=n):G.length<=448:=by
 let ne:NeW L:=λp J=>(tb.fi.2 p J).1;let Y:(G.map Zp).Nodup:=Jr.mpr (nd.imp_of_mem λ{U V}O hV hn e=>hn (P8 tb.fr ne (h U O).1 (h V hV).1 e));let y:∀r∈G.map Zp,r∈(Cv (n+1)).flatMap (Tt bs):=λr Z=>by
  let⟨U,O,rfl⟩:=Jk.mp Z;let⟨h1,h2⟩:=h U O;refine Gp.mpr {(Zp U).length,G0.mpr (),(Rm _ _).mpr {rfl,λb B=>?_}};let⟨w,hw,B⟩:=List.mem_flatten.mp B;let⟨p,J,rfl⟩:=Jk.mp hw;exact tb.by_ p (h1 p J) b B
 let:=Ue Y y;rw[Ja,G8]at this;refine Jx this ?_;rcases B with⟨b2,n6⟩|⟨b3,n4⟩
 .refine Jx (Wz (n:=64) λm y=>?_) (by rw[Bo];lia);rw[Ri];let:=G0.mp y;exact Jx (Nat.pow_le_pow_left b2 m) (Jx (Nat.pow_le_pow_right nofun (show m<=6 by lia)) nofun)
 .refine Jx (Wz (n:=81) λm y=>?_) (by rw[Bo];lia);rw[Ri];let:=G0.mp y;exact Jx (Nat.pow_le_pow_left b3 m) (Jx (Nat.pow_le_pow_right nofun (show m<=4 by lia)) nofun)
structure Lvl(L:List Pr)(n k:Nat)(F G:List (List Pr)):Prop where
 fn:F.Nodup
 gn:G.Nodup
 fm:∀U,U∈F↔(∀p∈U,p∈L)/\U.length<k/\(Zp U).length=n
 gm:∀U,U∈G↔(∀p∈U,p∈L)/\U.length=k/\(Zp U).length<=n
def lg1(L:List Pr)(n:Nat)(U:List Pr):List (List Pr):=if(Zp U).length=n then []else L.map λp=>U++[p]
section
variable{n k:Nat}{F G:List (List Pr)}
def Tu(U:List Pr)(p:Pr):Zp (U++[p])=Zp U++p.2:=by unfold Zp;rw[Jj,List.flatten_append];show _++(p.2++[])=_;rw[List.append_nil]
theorem Zh1(ne:NeW L):∀{U:List Pr},(∀p∈U,p∈L)->U.length<=(Zp U).length
 |[],_=>Ji _
 |p::U,h=>by
  let:=Zh1 ne (U:=U) λq y=>h q (Jf _ y);let:=Gj.mpr (ne p (h p Jh));rw[row_cons,Jc,Jy];lia
def Lvl.zero:Lvl L n 0 [] [[]]:=by
 exists Fe,Ba _ _,λU=>{(λh=>nomatch h),λh=>Dx h.2.1 (Bg _)},λU=>{λh=>?_,λh=>?_}
 .rw[Je.mp h];exists(λ_ h=>nomatch h),rfl,Ge _
 .rw[G9.mp h.2.1];exact Je.mpr rfl
theorem Lvl.next(ne:NeW L)(nd:L.Nodup)(h:Lvl L n k F G):Lvl L n (k+1) (F++G.filter λU=>decide ((Zp U).length=n)) ((G.flatMap (lg1 L n)).filter λU=>decide ((Zp U).length<=n)):=by
 exists ?_,?_,λU=>?_,λU=>?_
 .rw[Bc];exists h.fn,h.gn.filter _,λa ha b Z e=>?_;subst e;let h1:=((h.fm a).mp ha).2.1;let h2:=((h.gm a).mp (Gi.mp Z).1).2.1;lia
 .refine List.Pairwise.filter _ ?_;rw[Bl];exists λU hU=>?_,h.gn.imp λ{U V}hn x hx y B e=>?_
  .unfold lg1
   split
   .exact .nil
   .exact Jr.mpr (nd.imp λhn e=>hn (List.cons.inj (List.append_cancel_left e)).1)
  .unfold lg1 at hx B
   split at hx
   .cases hx
   .split at B
    .cases B
    .let⟨p,_,rfl⟩:=Jk.mp hx;let⟨q,_,e2⟩:=Jk.mp B;rw[<-e]at e2;exact hn (List.append_inj_left' e2.symm rfl)
 .rw[Jv,h.fm,Gi,h.gm,Dz]
  constructor
  .rintro(⟨a,b,c⟩|⟨⟨a,b,c⟩,d⟩)
   .exists a,(),c
   .exists a,(),d
  .rintro⟨a,b,c⟩
   by_cases z:U.length<k
   .exact .inl ⟨a,z,c⟩
   .exact .inr {{a,(),()},c}
 .rw[Gi,Gp,Dz]
  constructor
  .rintro⟨⟨V,hV,O⟩,hl⟩;let⟨a,b,c⟩:=(h.gm V).mp hV;unfold lg1 at O
   split at O
   .cases O
   .let⟨p,J,rfl⟩:=Jk.mp O;exists λq Y=>(Jv.mp Y).elim (a q) λz=>by rw[Je.mp z];exact J,by rw[Jc,b];rfl,hl
  .rintro⟨a,b,c⟩;rcases List.eq_nil_or_concat U with rfl|⟨V,p,e⟩
   .cases b
   .rw[List.concat_eq_append]at e;subst e;let J:p∈L:=a p (Jp _ Jh);let:=Gj.mpr (ne p J);let c':=c;rw[Tu,Jc]at c';rw[Jc]at b;let:[p].length=1:=rfl;exists{V,(h.gm V).mpr {λq Y=>a q (Gs _ Y),(),()},?_},c;unfold lg1;rw[D6 ()];exact Bw J
theorem Lvl.k_le(ne:NeW L)(h:Lvl L n k F G)(y:G≠[]):k<=n:=by
 let⟨U,B⟩:=List.exists_mem_of_ne_nil G y;let⟨a,b,c⟩:=(h.gm U).mp B;let:=Zh1 ne a;lia
theorem Lvl.done(h:Lvl L n k F [])(U:List Pr):U∈F↔(∀p∈U,p∈L)/\(Zp U).length=n:=by
 rw[h.fm];exists λ⟨a,_,c⟩=>⟨a,c⟩,λ⟨a,c⟩=>{a,?_,c}
 apply Nat.lt_of_not_le
 intro z;let:=(h.gm (U.take k)).mpr {λp y=>a p (Gv y),by rw[Jz];lia,?_}
 .cases this
 .rw[<-c]
  conv=>rhs;rw[<-J0 k U]
  rw[show Zp (U.take k++U.drop k)=Zp (U.take k)++Zp (U.drop k)from by unfold Zp;rw[Jj,List.flatten_append],List.length_append];lia
end
def Orig(L1 L2:List Pr)(E:List (Option Int))(t:List Int):Prop:=∃(U:List Pr)(R:List En),Zs U=t/\(∀p∈U,p∈L1)/\Told L2 (Zp U) R/\osOf R=E
def Orig.perm{L1 L2 y:List Pr}{E:List (Option Int)}{t:List Int}(h:Orig L1 L2 E t)(B:L1.Perm S1)(p2:L2.Perm y):Orig S1 y E t:=by
 let⟨U,R,a,b,c,d⟩:=h;exists U,R,a,λp G=>B.mem_iff.mp (b p G),c.perm p2,d
theorem Tm(h:Free L):∀{U V:List Pr},(∀p∈U,p∈L)->(∀p∈V,p∈L)->Zs U=Zs V->U=V
 |[],[],_,_,_=>rfl
 |[],_::_,_,_,e=>nomatch e
 |_::_,[],_,_,e=>nomatch e
 |p::U,q::V,hU,hV,e=>by
  let e:p.1::Zs U=q.1::Zs V:=e;injection e with e1 e2
  let h1:=V0 h (hU p Jh);let h2:=V0 h (hV q Jh);rw[e1,h2]at h1;rw[Tm h (λx hx=>hU x (Jf _ hx)) (λx hx=>hV x (Jf _ hx)) e2,Jaa h1]
def Nw{L1 L2:List Pr}(y:Free L2)(h:NeW L2){E:List (Option Int)}(B:knF L2 E=some kn)(t:List Int):Orig L1 L2 E t↔∃U,Zs U=t/\(∀p∈U,p∈L1)/\(Zp U).length=kn.length/\(wt kn L2 (0,[]) (Zp U)).isSome=true:=by
 constructor
 .rintro⟨U,R,a,b,c,d⟩;let⟨h1,h2⟩:=(Nu y h B).mp ⟨R,c,d⟩;exists U,a,b,h1,h2
 .rintro⟨U,a,b,h1,h2⟩;let⟨R,c,d⟩:=(Nu y h B).mpr ⟨h1,h2⟩;exists U,R,a,b,c,d
def Zi9{zs:List (List Int)}(h:zs.Pairwise λa b=>HT.lexLt a b=true):zs.Nodup:=h.imp λz e=>by rw[e,U5]at z;cases z
abbrev tbl(L:List Pr):D:=.lst (L.map pD)
abbrev tLs(t:List Int):D:=.lst (t.map .int)
def szD:Option (List (Option Int))->D
 |none=>.non
 |some kn=>.int kn.length
def smB(o:Option (List (Option Int)))(m:Int):Bool:=match o with|none=>true|some kn=>decide ((kn.length:Int)<=m)
inductive dCarr(ds:List D)(M:Mem)(K:K3):Prop
 |mk:∀(L1 L2:List Pr)(d:D)(U:List Pr),ds=[tbl L1,tbl L2,d]->(lsOf M d=some ((Zs U).map .int)/\(Free L1/\Fits L1/\Fits L2/\(∀p∈U,p∈L1)/\U.length<=200)/\∀R,Told L2 (Zp U) R->K (.cell M.length) (M++[.lst ((osOf R).map oD)]))->dCarr ds M K
inductive dSizeL(ds:List D)(M:Mem)(K:K3):Prop
 |mk:∀(L:List Pr)(d:D)(E:List (Option Int)),ds=[tbl L,d]->(lsOf M d=some (E.map oD)/\(Free L/\Fits L/\E.length<=50)/\K (szD (knF L E)) M)->dSizeL ds M K
inductive dSmall(ds:List D)(M:Mem)(K:K3):Prop
 |mk:∀(L:List Pr)(d:D)(E:List (Option Int))(m:Int),ds=[tbl L,d,.int m]->(lsOf M d=some (E.map oD)/\(Free L/\Fits L/\E.length<=50)/\K (.bl (smB (knF L E) m)) M)->dSmall ds M K
inductive dAllL(ds:List D)(M:Mem)(K:K3):Prop
 |mk:∀(L1 L2:List Pr)(d:D)(E:List (Option Int))(bs:List Int),ds=[tbl L1,tbl L2,d]->(lsOf M d=some (E.map oD)/\(TbK L1 bs/\Free L2/\Fits L2/\E.length<=50/\∀kn,knF L2 E=some kn->FewB bs kn.length)/\∀zs:List (List Int),zs.Pairwise (λa b=>HT.lexLt a b=true)->(∀t,t∈zs↔Orig L1 L2 E t)->K (.lst (zs.map tLs)) M)->dAllL ds M K
def Zkb:Sp3:=λds M K=>∃(k:Nat)(L:List Pr)(m:Int),ds=[.cell k,tbl L,.int m]/\M[k]?=some .hand/\(Fits L/\m<=100)/\∀U:List Pr,(∀p∈U,p∈L)->((Zp U).length:Int)<=m\/U=[]->U.length<=6->K (.cell M.length) (M++[.lst ((Zs U).map .int)])
def T3Ok(bs:List Int)(h:List (List Pr)):Prop:=h.length=3/\∀L∈h,TbK L bs
def Vu(bs:List Int):Int:=if bs.length=2 then 6 else 4
inductive dTabs71(ds:List D)(M:Mem)(K:K3):Prop
 |mk:∀(k:Nat),ds=[.cell k]->(M[k]?=some .hand/\∀(bs ss:List Int)(Ls:List (List Pr)),(bs.length=2\/bs.length=3)->T3Ok bs Ls->ss.length=14->K (.tup [.cell M.length,.int (Vu bs),.lst (ss.map .int)]) (M++[.lst (Ls.map tbl)]))->dTabs71 ds M K
inductive dEnts(ds:List D)(M:Mem)(K:K3):Prop
 |mk:∀(k c:Nat)(bs ss:List Int)(Ls:List (List Pr)),ds=[.cell k,.cell c,.int (Vu bs),.lst (ss.map .int)]->(M[k]?=some .hand/\M[c]?=some (.lst (Ls.map tbl))/\(T3Ok bs Ls/\ss.length=14)/\∀E:List (Option Int),E.length<=8->K (.lst (E.map oD)) M)->dEnts ds M K
section
inductive uDispN_2(sh:List Nat)(M:Mem)(K:K3)(x:D)(v:D)(M2:Mem):Prop
 |mk:∀ks,x=.nst ks->ks.map NI.sh=sh->M2[M.length]?=some (.dcN sh none [])->K (.cell M.length) (M2.set M.length (.dcN sh none [(ks,v)]))->uDispN_2 sh M K x v M2
abbrev Zle(sh:List Nat)(ub:TE3)(ρ:Ev)(M:Mem)(K:K3):D->Mem->Prop:=λx M1=>ub ρ M1 (uDispN_2 sh M K x)
def Zsl(sh:List Nat)(ua ub:TE3):TE3:=λρ M K=>ua ρ (M++[.dcN sh none []]) (Zle sh ub ρ M K)
theorem Zp8{sh:List Nat}(ha:SimE C Z ta ua)(hb:SimE C Z tb ub):SimE C Z (Znj C.k ta tb) (Zsl sh ua ub):=λI α σ H ρ M K Q R E h k p hp=>by
 let⟨R2,p2,e2⟩:=R.cell (o:=.ext (dnP p [])) (m:=.dcN sh none []) hp λH' e=>{[],e,(λ_ h=>nomatch h),Paired.nil};refine ha I _ σ _ ρ _ _ _ R2 (E.mono (.refl _) p2) h λx d I3 B H3 M3 s3 J R3 r3 h3=>?_;refine hb I3 B σ H3 ρ M3 _ _ R3 (E.mono s3 (p2.trans J)) h3 λv e I4 y H4 M4 s4 G Y r4 h4=>?_;let⟨ks,rfl,hs,hm,h4⟩:=h4;let O:=Zcu (J.trans G) e2;let⟨vs,ev,_,rn⟩:=(Y.cel M.length p _ O hm).1;cases rn;cases(r3.mono s4 G)with
 | @nst b _ n =>
  exists ev,b,ks,rfl,n.same Y.sub,?_;exact k _ _ I4 y _ _ (s3.trans s4) (p2.trans (J.trans G)) (Y.put (m:=.dcN sh none [(ks,e)]) O λH' e'=>{_,e',λx hx=>by rw[Je.mp hx];exact⟨n,hs⟩,.cons ⟨rfl,r4⟩ .nil}) (.cell O) h4
inductive sortDM3(ds:List D)(M:Mem)(K:K3):Prop
 |mk:∀(d:D)(zs:List (List Int×D)),ds=[d]->Re M d=some (zs.map λz=>(wk z.1,z.2))->(zs.length<65536/\(∀z∈zs,z.1≠[])/\(zs.map (·.1)).Nodup)->(∀ws:List (List Int),ws.Perm (zs.map (·.1))->ws.Pairwise (λa b=>HT.lexLt a b=true)->K (.lst (ws.map wD)) M)->sortDM3 ds M K
def Zeh:SimC C Z Zh9 sortDM3:=λI α H M xs ds K Q R r h k=>by
 let⟨d,zs,rfl,e,⟨y,ne,nd⟩,h⟩:=h;refine Reps.e1 r λ_ O=>?_;let⟨b,kvs,rfl,rd,rt⟩:=Zj6 R O e;let⟨I2,J,R2,f⟩:=R.full;exists b,kvs,zs.map (·.1),rfl,rd,Za7 zs rt,by rw[Ja];exact y,λw hw=>?_,nd,λD L' hD pm pw hk=>?_
 .let⟨z,hz,rfl⟩:=Jk.mp hw;exact ne z hz
 .let⟨R4,B,e4⟩:=R2.new (o:=.lst (L'.map λq=>V.ref q.2.1)) hD;refine k _ _ _ α _ M (J.trans B) (Jo _) R4 (.lst e4 ?_) (h (L'.map (·.2.2)) pm (by rw[Jr];exact pw));let go:∀N:List KIt,(∀q∈N,q∈L')->Reps C (upd I2 D (.lst (L'.map λq=>V.ref q.2.1))) α (N.map λq=>V.ref q.2.1) ((N.map (·.2.2)).map wD):=λN=>by
   induction N with
   |nil=>intro _;exact .nil
   |cons q r Y =>
    intro G;let eq:=hk q (G q Jh);exact .cons (.tup (B _ _ (f _ _ eq (R.tupOut eq))) (Reps.ints _)) (Y λx hx=>G x (Jf _ hx))
  exact go L' λq hq=>hq
end
def ahL(kn:List (Option Int))(S P:List Pr)(sp:Spot):List (List Pr):=(tx' P sp.1).filter λU=>decide (wt kn S (0,[]) (Zp U)=some sp)
def ah(kn:List (Option Int))(S P:List Pr)(sp:Spot):Nat:=(ahL kn S P sp).length
def cnL(kn:List (Option Int))(S P:List Pr)(q:Spot):List (List Pr):=(tx' P (kn.length-q.1)).filter λU=>(wt kn S q (Zp U)).isSome
def ml(kn:List (Option Int))(S P:List Pr)(sp q:Spot):Nat:=(stF kn S P sp).countP λx=>decide (x.2=q)
def Zlx(U V:List Pr):Zp (U++V)=Zp U++Zp V:=by unfold Zp;rw[Jj,List.flatten_append]
section
variable{P:List Pr} 
def Wr(ne:NeW P){U:List Pr}{sp:Spot}:U∈ahL kn S P sp↔(∀p∈U,p∈P)/\wt kn S (0,[]) (Zp U)=some sp:=by
 unfold ahL;rw[Gi,R9 ne,Dz];exists λh=>{h.1.1,h.2},λh=>{{h.1,?_},h.2};let:=(Xg h.2 Zf8).2;show _=sp.1;rw[this];exact(Bu _).symm
theorem N3(ne:NeW P){U:List Pr}{q:Spot}(g:Xp kn S q):U∈cnL kn S P q↔(∀p∈U,p∈P)/\∃e,wt kn S q (Zp U)=some e/\e.1=kn.length:=by
 unfold cnL;rw[Gi,R9 ne,Fz]
 constructor
 .rintro⟨⟨h1,h2⟩,e,h⟩;let h3:=(Xg h g).2;let:=g.2.1;exact{h1,e,h,()}
 .rintro⟨h1,e,h,h2⟩;let h3:=(Xg h g).2;exists{h1,()},e,h
def Zkt(nd:P.Nodup)(sp:Spot):(ahL kn S P sp).Nodup:=(P7 nd _).filter _
def Zki(nd:P.Nodup)(q:Spot):(cnL kn S P q).Nodup:=(P7 nd _).filter _
def Tf{U V:List Pr}{sp e:Spot}:wt kn S sp (Zp (U++V))=some e↔∃q,wt kn S sp (Zp U)=some q/\wt kn S q (Zp V)=some e:=by
 rw[Zlx,Tg];exact Option.bind_eq_some_iff
def Zn3(y:KeysOk kn S P ks)(U:List Pr):(∀p∈U,p∈P)->∀sp,wt kn S (0,[]) (Zp U)=some sp->sp∈ks:=by
 refine Zh4 (Q:=λU=>(∀p∈U,p∈P)->∀sp,wt kn S (0,[]) (Zp U)=some sp->sp∈ks) (λ_ sp h=>by cases h;exact y.st) (λU p G B sp h=>?_) U;let⟨q,h1,h2⟩:=Tf.mp h;let J:=G (λx hx=>B x (Gs _ hx)) q h1;refine y.cl q J (p.1,sp) (F5.mpr {p,B p (Jp _ Jh),?_});rw[show wt kn S q p.2=some sp from by rw[<-h2];show _=wt kn S q (p.2++[]);rw[Gg]];rfl
theorem Zxh(sp q:Spot):ml kn S P sp q=(P.filter λp=>decide (wt kn S sp p.2=some q)).length:=by
 unfold ml stF
 induction P with
 |nil=>rfl
 |cons p P y =>
  rw[F0,Fc];cases h:wt kn S sp p.2 with
  |none =>
   rw[Option.map_none,D6 (by simp)];exact y
  |some r =>
   rw[B9];dsimp only;rw[My,y]
   by_cases e:r=q
   .rw[e,D7 (by simp),D7 (by simp),Jy]
   .rw[D6 (by simpa using e),D6 (by simpa using e),F8]
def Na(f:τ->List υ)(g:τ->Nat)(h:∀x,(f x).length=g x)(xs:List τ):(xs.flatMap f).length=(xs.map g).sum:=by
 rw[G8]
 congr 1
 exact Gw λx _=>h x
def Zvx(ne:NeW P)(nd:P.Nodup)(ko:KeysOk kn S P ks)(q:Spot):ah kn S P q=(if q=(0,[])then 1 else 0)+(ks.map λsp=>ah kn S P sp*ml kn S P sp q).sum:=by
 let pm:(ahL kn S P q).Perm ((if q=(0,[])then [[]]else [])++ks.flatMap λsp=>(P.filter λp=>decide (wt kn S sp p.2=some q)).flatMap λp=>(ahL kn S P sp).map (·++[p])):=by
  refine(Fo (Zkt nd q) ?_).mpr λU=>?_
  .rw[Bc];refine{by split<;>simp,?_,λa ha b J e=>?_}
   .unfold List.Nodup;rw[Bl];exists λsp hs=>?_,ko.nd.imp λ{a b}a1 x hx y G e=>?_
    .rw[Bl];exists λp hp=>Jr.mpr ((Zkt nd sp).imp λh e=>h (List.append_cancel_right e)),(nd.filter _).imp λ{p p'}Y x hx y G e=>?_;let⟨U,_,rfl⟩:=Jk.mp hx;let⟨V,_,rfl⟩:=Jk.mp G;exact Y (List.cons.inj (List.append_inj_right' e rfl)).1
    .subst e;let⟨p,_,hx⟩:=Gp.mp hx;let⟨p',_,G⟩:=Gp.mp G;let⟨U,O,rfl⟩:=Jk.mp hx;let⟨V,B,e⟩:=Jk.mp G;let:=List.append_inj_left' e rfl;subst this;exact a1 (Jaa (((Wr ne).mp O).2.symm.trans ((Wr ne).mp B).2))
   .subst e;let⟨sp,_,J⟩:=Gp.mp J;let⟨p,_,J⟩:=Gp.mp J;let⟨V,_,rfl⟩:=Jk.mp J
    split at ha
    .exact Dx (Je.mp ha) (by simp)
    .cases ha
  .rw[Wr ne,Jv]
   constructor
   .rintro⟨O,h⟩;rcases List.eq_nil_or_concat U with rfl|⟨V,p,rfl⟩
    .left
     let:q=(0,[]):=(Jaa h).symm;rw[D7 this];exact Je.mpr rfl
    .right
     rw[List.concat_eq_append]at O h⊢;let⟨sp,h1,h2⟩:=Tf.mp h;let B:∀x∈V,x∈P:=λx hx=>O x (Gs _ hx);let e2:wt kn S sp p.2=some q:=by rw[<-h2];show _=wt kn S sp (p.2++[]);rw[Gg]
     exact Gp.mpr {sp,Zn3 ko V B sp h1,Gp.mpr {p,Gi.mpr {O p (Jp _ Jh),D8 e2},Jk.mpr {V,(Wr ne).mpr ⟨B,h1⟩,rfl}}}
   .rintro(h|h)
    .split at h
     .rename_i hq
      rw[Je.mp h,hq];exists(λ_ h=>nomatch h),rfl
     .cases h
    .let⟨sp,_,h⟩:=Gp.mp h;let⟨p,hp,h⟩:=Gp.mp h;let⟨V,B,rfl⟩:=Jk.mp h;let⟨a0,Z⟩:=Gi.mp hp;let⟨a3,a2⟩:=(Wr ne).mp B;exists λx hx=>(Jv.mp hx).elim (a3 x) λz=>by rw[Je.mp z];exact a0,Tf.mpr {sp,a2,?_};show wt kn S sp (p.2++[])=_;rw[Gg];exact Dw Z
 show(ahL kn S P q).length=_;rw[pm.length_eq,Jc]
 congr 1
 .split<;>rfl
 .refine Na _ _ (λsp=>?_) ks;rw[Zxh,Jg1];show _=_*(ahL kn S P sp).length;generalize (P.filter λp=>decide (wt kn S sp p.2=some q))=Q;rw[G8]
  induction Q with
  |nil=>rw[F6,List.sum_nil,Bf,Nat.zero_mul]
  |cons x Q ih=>rw[Jl,Bs,ih,Ja,Jy,Du,L7]
end
def occ:Nat->List Pr->List (Nat×Int)
 |_,[]=>[]
 |a,p::U=>(a,p.1)::occ (a+p.2.length) U
def splU:List Pr->List Pr->List (List Pr×Pr×List Pr)
 |_,[]=>[]
 |acc,p::U=>(acc,p,U)::splU (acc++[p]) U
theorem Ziu:∀(U acc:List Pr),occ (Zp acc).length U=(splU acc U).map λt=>((Zp t.1).length,t.2.1.1)
 |[],_=>rfl
 |p::U,acc=>by
  let:=Ziu U (acc++[p]);rw[Tu,Jc]at this;show((Zp acc).length,p.1)::occ _ U=_::_;rw[this]
theorem Sj:∀{U acc:List Pr}{t:List Pr×Pr×List Pr},t∈splU acc U↔∃V,t.1=acc++V/\U=V++t.2.1::t.2.2
 |[],acc,t=>{(λh=>nomatch h),λ⟨V,_,e⟩=>by cases V<;>cases e}
 |p::U,acc,t=>by
  show t∈(acc,p,U)::splU (acc++[p]) U↔_;rw[J9,Sj (U:=U)]
  constructor
  .rintro(rfl|⟨V,e1,e2⟩)
   .exists [],(Gg _).symm,rfl
   .exact{p::V,by rw[e1,Jn];rfl,by rw[e2];rfl}
  .rintro⟨V,e1,e2⟩;cases V with
   |nil =>
    left
    let⟨G,B,y⟩:=t;rw[Gg]at e1;injection e2 with e3 e4
    rw[show G=acc from e1,show B=p from e3.symm,show y=U from e4.symm]
   |cons v V =>
    right
    injection e2 with e3 e4
    exists V,by rw[e1,e3,Jn];rfl,e4
theorem Zno:∀(U acc:List Pr),(splU acc U).Nodup
 |[],_=>Fe
 |p::U,acc=>by
  refine Fh.mpr {λh=>?_,Zno U _};let⟨V,e,_⟩:=Sj.mp h;let:=congrArg Eu e;rw[Jc,Jc]at this;let:[p].length=1:=rfl;let:(acc,p,U).1.length=acc.length:=rfl;lia
section
variable{P:List Pr} 
def dbt(kn:List (Option Int))(S P:List Pr)(pl:Nat)(s:Int):Nat:=((cnL kn S P (0,[])).map λU=>(occ 0 U).count (pl,s)).sum
def wAt(kn:List (Option Int))(S P:List Pr)(s:Int)(sp:Spot):Nat:=(((stF kn S P sp).filter λx=>decide (x.1=s)).map λx=>ah kn S P sp*cnt kn S P x.2).sum
def Zrm(ne:NeW P)(nd:P.Nodup)(ko:KeysOk kn S P ks)(pl:Nat)(s:Int):dbt kn S P pl s=((ks.filter λsp=>decide (sp.1=pl)).map (wAt kn S P s)).sum:=by
 let' cond:List Pr×Pr×List Pr->Bool:=λt=>decide ((Zp t.1).length=pl)&&decide (t.2.1.1=s)
 let' R:Spot->Pr->List (List Pr×Pr×List Pr):=λsp p=>match wt kn S sp p.2 with|none=>[]|some q=>(ahL kn S P sp).flatMap λO=>(cnL kn S P q).map λY=>(O,p,Y)
 let B:∀{sp p t},t∈R sp p↔∃q,wt kn S sp p.2=some q/\t.1∈ahL kn S P sp/\t.2.1=p/\t.2.2∈cnL kn S P q:=by
  intro sp p t;show t∈(match wt kn S sp p.2 with|none=>[]|some q=>(ahL kn S P sp).flatMap λO=>(cnL kn S P q).map λY=>(O,p,Y))↔_;cases wt kn S sp p.2 with
  |none=>exact{(λh=>nomatch h),λ⟨q,e,_⟩=>nomatch e}
  |some q =>
   dsimp only;rw[Gp]
   constructor
   .rintro⟨O,h1,h2⟩;let⟨Y,h3,rfl⟩:=Jk.mp h2;exists q,rfl,h1,rfl,h3
   .rintro⟨q',e,h1,h2,h3⟩;cases e;let⟨t1,t2,t3⟩:=t;exists t1,h1,Jk.mpr {t3,h3,by rw[show t2=p from h2]}
 let pm:((cnL kn S P (0,[])).flatMap λU=>(splU [] U).filter cond).Perm ((ks.filter λsp=>decide (sp.1=pl)).flatMap λsp=>(P.filter λp=>decide (p.1=s)).flatMap (R sp)):=by
  refine(Fo ?_ ?_).mpr λt=>?_
  .unfold List.Nodup;rw[Bl];exists λU _=>(Zno U []).filter _,(Zki nd _).imp λ{U V}hn x hx y G e=>hn ?_;subst e;let⟨W,e1,e2⟩:=Sj.mp (Gi.mp hx).1;let⟨W',e3,e4⟩:=Sj.mp (Gi.mp G).1;rw[e2,e4,<-(show x.1=W from e1),<-(show x.1=W' from e3)]
  .unfold List.Nodup;rw[Bl];exists λsp _=>?_,(ko.nd.filter _).imp λ{a b}hn x hx y G e=>hn ?_
   .rw[Bl];exists λp _=>?_,(nd.filter _).imp λ{a b}hn x hx y G e=>hn ?_
    .show List.Pairwise _ (match wt kn S sp p.2 with|none=>[]|some q=>(ahL kn S P sp).flatMap λO=>(cnL kn S P q).map λY=>(O,p,Y))
     split
     .exact .nil
     .rw[Bl];exists λO _=>Jr.mpr ((Zki nd _).imp λh e=>h (Prod.mk.inj (Prod.mk.inj e).2).2),(Zkt nd sp).imp λ{a b}hn x hx y G e=>hn ?_;let⟨_,_,rfl⟩:=Jk.mp hx;let⟨_,_,rfl⟩:=Jk.mp G;exact(Prod.mk.inj e).1
    .subst e;let⟨_,_,_,e1,_⟩:=B.mp hx;let⟨_,_,_,e2,_⟩:=B.mp G;exact e1.symm.trans e2
   .subst e;let⟨_,_,hx⟩:=Gp.mp hx;let⟨_,_,G⟩:=Gp.mp G;let⟨_,_,h1,_⟩:=B.mp hx;let⟨_,_,h2,_⟩:=B.mp G;exact Jaa (((Wr ne).mp h1).2.symm.trans ((Wr ne).mp h2).2)
  .rw[Gp,Gp]
   constructor
   .rintro⟨U,hU,Z⟩;let⟨h1,h2⟩:=Gi.mp Z;let⟨V,e1,e2⟩:=Sj.mp h1;let e1:t.1=V:=e1;subst e1;let h2:(decide ((Zp t.1).length=pl)&&decide (t.2.1.1=s))=true:=h2;rw[Bi,Dz,Dz]at h2;let⟨hP,e,he,hk⟩:=(N3 ne Zf8).mp hU;rw[e2]at he hP;let⟨sp,h3,h4⟩:=Tf.mp he;let hV:∀x∈t.1,x∈P:=λx hx=>hP x (Gs _ hx);let g:=(Xg h3 Zf8);let h4:wt kn S sp (t.2.1.2++Zp t.2.2)=some e:=h4;rw[Tg]at h4;let⟨q,h5,h6⟩:=Option.bind_eq_some_iff.mp h4;exists sp,Gi.mpr {Zn3 ko t.1 hV sp h3,D8 ?_},Gp.mpr {t.2.1,Gi.mpr {hP _ (Jp _ Jh),D8 h2.2},B.mpr {q,h5,(Wr ne).mpr ⟨hV,h3⟩,rfl,(N3 ne (Xg h5 g.1).1).mpr {λx hx=>hP x (Jp _ (Jf _ hx)),e,h6,hk}}}
    rw[g.2,Bu];exact h2.1
   .rintro⟨sp,hs,Z⟩;let⟨a4,J⟩:=Gi.mp hs;let⟨p,hp,Z⟩:=Gp.mp Z;let⟨a3,a0⟩:=Gi.mp hp;let⟨q,h5,h1,h2,h3⟩:=B.mp Z;let⟨a1,a2⟩:=(Wr ne).mp h1;let g:=Xg a2 Zf8;let⟨b1,e,b2,b3⟩:=(N3 ne (Xg h5 g.1).1).mp h3;exists t.1++t.2.1::t.2.2,(N3 ne Zf8).mpr {λx hx=>?_,e,Tf.mpr {sp,a2,?_},b3},Gi.mpr {Sj.mpr {t.1,rfl,rfl},?_}
    .rcases Jv.mp hx with z|z
     .exact a1 x z
     .rcases J9.mp z with z|z
      .rw[z,h2];exact a3
      .exact b1 x z
    .show wt kn S sp (t.2.1.2++Zp t.2.2)=_;rw[Tg,h2,h5];exact b2
    .show(decide ((Zp t.1).length=pl)&&decide (t.2.1.1=s))=true;let J:=Dw J;rw[g.2,Bu]at J;rw[Bi,Dz,Dz,h2];exists J,Dw a0
 let l1:((cnL kn S P (0,[])).flatMap λU=>(splU [] U).filter cond).length=dbt kn S P pl s:=by
  refine Na _ _ (λU=>?_) _;let:=Ziu U [];rw[show occ 0 U=_ from this,List.count,List.countP_map,List.countP_eq_length_filter]
  congr 1
 rw[<-l1,pm.length_eq];refine Na _ _ (λsp=>?_) _;unfold wAt stF;rw[G8];clear pm l1;let lR:∀p,(R sp p).length=match wt kn S sp p.2 with|none=>0|some q=>ah kn S P sp*cnt kn S P q:=λp=>by
  show(match wt kn S sp p.2 with|none=>[]|some q=>(ahL kn S P sp).flatMap λO=>(cnL kn S P q).map λY=>(O,p,Y)).length=_;cases wt kn S sp p.2 with
  |none=>rfl
  |some q =>
   dsimp only;rw[G8];show _=(ahL kn S P sp).length*(cnL kn S P q).length;generalize ahL kn S P sp=A
   induction A with
   |nil=>rw[F6,List.sum_nil,Bf,Nat.zero_mul]
   |cons x A ih=>rw[Jl,Bs,ih,Ja,Jy,Du,L7]
 let go:∀Q:List Pr,((Q.filter λp=>decide (p.1=s)).map λp=>(R sp p).length).sum=(((Q.filterMap λp=>(wt kn S sp p.2).map λq=>(p.1,q)).filter λx=>decide (x.1=s)).map λx=>ah kn S P sp*cnt kn S P x.2).sum:=λQ=>by
  induction Q with
  |nil=>rfl
  |cons p Q ih =>
   rw[F0,Fc]
   by_cases e:p.1=s
   .rw[D7 (D8 e),Jl,Bs,ih,lR];cases wt kn S sp p.2 with
    |none=>rw[Option.map_none,Bu]
    |some q =>
     rw[B9];dsimp only;rw[Fc,D7 (D8 e),Jl,Bs]
   .rw[D6 (λz=>e (Dw z)),ih];cases wt kn S sp p.2 with
    |none=>rw[Option.map_none]
    |some q =>
     rw[B9];dsimp only;rw[Fc,D6 (λz=>e (Dw z))]
 exact go P
end
def cD(c:Spot->Nat)(q:Spot):D:=.int (c q)
def Qf{f g:Spot->D}(h:∀q∈ks,f q=g q):kvN f ks=kvN g ks:=Gw λq y=>by rw[h q y]
def Zq5{f:Spot->D}{sp:Spot}{v:D}(h:sp∈ks):Rz (kvN f ks) (spN sp) v=kvN (λq=>if q=sp then v else f q) ks:=by
 let e:((kvN f ks).any λx=>decide (x.1=spN sp))=true:=Fm.mpr {(spN sp,f sp),Jk.mpr ⟨sp,h,rfl⟩,D8 rfl};unfold Rz;rw[e,D7 rfl];unfold kvN;rw[Ju];refine Gw λq _=>?_;show(if spN q=spN sp then(spN q,v)else(spN q,f q))=(spN q,if q=sp then v else f q)
 by_cases z:q=sp
 .rw[z,D7 rfl,D7 rfl]
 .rw[D6 λy=>z (Nc y),D6 z]
structure CtOk(c:Spot->Nat)(ka:List Spot):Prop where
 nd:ka.Nodup
 mm:∀q,q∈ka↔0<c q
def addC(c:Spot->Nat)(sp:Spot)(v:Nat)(q:Spot):Nat:=if q=sp then c q+v else c q
theorem CtOk.add{c:Spot->Nat}(h:CtOk c ka)(sp:Spot){v:Nat}(Y:0<v):∃B,CtOk (addC c sp v) B/\Rz (kvN (cD c) ka) (spN sp) (.int (((c sp+v:Nat)):Int))=kvN (cD (addC c sp v)) B/\B.length<=ka.length+1:=by
 by_cases hs:sp∈ka
 .exists ka,{h.nd,λq=>?_},?_,Fu _
  .rw[h.mm];unfold addC
   split
   .rename_i e
    rw[e];let:=(h.mm sp).mp hs;lia
   .exact Iff.rfl
  .rw[Zq5 hs];refine Qf λq _=>?_;unfold cD addC
   by_cases z:q=sp
   .rw[D7 z,D7 z,z]
   .rw[D6 z,D6 z]
 .let Z:c sp=0:=Fk λz=>hs ((h.mm sp).mpr z);refine{ka++[sp],{?_,λq=>?_},?_,by rw[Jc];exact Ji _}
  .rw[Bc];exists h.nd,Ba _ _,λa O b J e=>hs (by rw[<-Je.mp J,<-e];exact O)
  .rw[Jv,h.mm,Je];unfold addC
   by_cases z:q=sp
   .rw[D7 z];exists λ_=>by lia,λ_=>.inr z
   .rw[D6 z];exists λy=>y.elim id λy=>Dx y z,.inl
  .let e1:(D.int (((c sp+v:Nat)):Int))=cD (addC c sp v) sp:=by unfold cD addC;rw[if_pos rfl]
   let e2:kvN (cD c) ka=kvN (cD (addC c sp v)) ka:=Qf λq G=>by
    unfold cD addC;rw[D6 λz=>hs (by rw[<-z];exact G)]
   rw[e1,e2,Qe hs]
def CtOk.get{c:Spot->Nat}(h:CtOk c ka)(sp:Spot):(Q7 (kvN (cD c) ka) (spN sp)).getD (.int 0)=.int ((c sp:Nat):Int):=by
 by_cases hs:sp∈ka
 .rw[Xr hs];rfl
 .rw[Ze1 hs,Fk λz=>hs ((h.mm sp).mpr z)];rfl
def stL(kn:List (Option Int))(S P:List Pr)(sp:Spot):List (Int×Spot):=(stF kn S P sp).filter λx=>decide (0<cnt kn S P x.2)
def mlL(kn:List (Option Int))(S P:List Pr)(sp q:Spot):Nat:=(stL kn S P sp).countP λx=>decide (x.2=q)
def aC(kn:List (Option Int))(S P:List Pr)(ds:List Spot)(q:Spot):Nat:=(if q=(0,[])then 1 else 0)+(ds.map λsp=>ah kn S P sp*mlL kn S P sp q).sum
section
variable{P:List Pr} 
def Zum{sp q:Spot}(h:0<cnt kn S P q):mlL kn S P sp q=ml kn S P sp q:=by
 unfold mlL stL ml;rw[List.countP_filter];refine List.countP_congr λx _=>?_;rw[Bi,Dz,Dz];exists λz=>z.1,λz=>{z,by rw[z];exact h}
theorem Zmg{sp q:Spot}(h:cnt kn S P q=0):mlL kn S P sp q=0:=by
 unfold mlL stL;rw[List.countP_eq_zero];intro x hx z;let h1:=Dw (Gi.mp hx).2;let h2:=Dw z;rw[h2]at h1;lia
theorem Zul(ne:NeW P){sp q:Spot}(g:Xp kn S sp)(h:q.1<=sp.1):ml kn S P sp q=0:=by
 unfold ml;rw[List.countP_eq_zero];intro x hx z;let h1:=(Zlk ne g hx).2;let h2:=Dw z;rw[h2]at h1;lia
def Zfk:ah kn S P (0,[])=1:=by
 unfold ah ahL;rw[show(0,([]:List Int)).1=0 from rfl,tx'];rfl
theorem Rg{f:τ->Nat}:∀{xs:List τ},(∀x∈xs,f x=0)->(xs.map f).sum=0
 |[],_=>rfl
 |x::xs,h=>by rw[Jl,Bs,h x Jh,Rg λy B=>h y (Jf _ B)]
theorem Zkh(ne:NeW P){sp:Spot}(g:Xp kn S sp){x:Int×Spot}(hx:x∈stL kn S P sp):0<cnt kn S P sp:=by
 let⟨h1,h2⟩:=Gi.mp hx;let h2:=Dw h2;let⟨B,up⟩:=Zlk ne g h1;let:=B.2.1;rw[Zkg ne g ()];refine Gm h2 ?_;generalize stF kn S P sp=xs at h1;clear hx
 induction xs with
 |nil=>cases h1
 |cons y xs h =>
  rw[Jl,Bs];rcases J9.mp h1 with z|z
  .rw[z];lia
  .let:=h z;lia
def Zds(ne:NeW P)(nd:P.Nodup)(h:KeysOk kn S P ks){ds:List Spot}{sp:Spot}(G:0<cnt kn S P sp){rest:List Spot}(pm:(ds++rest).Perm ks)(B:∀q∈rest,sp.1<=q.1):aC kn S P ds sp=ah kn S P sp:=by
 rw[Zvx ne nd h sp];unfold aC
 congr 1
 let e1:(ks.map λq=>ah kn S P q*ml kn S P q sp).sum=((ds++rest).map λq=>ah kn S P q*ml kn S P q sp).sum:=((pm.map _).sum_nat).symm;rw[e1,Jj,Dg,Rg (xs:=rest) λq y=>by rw[Zul ne (h.gd q (pm.mem_iff.mp (Jp _ y))) (B q y),Nat.mul_zero],F8]
 congr 1
 exact Gw λq _=>by rw[Zum G]
theorem Zv2(ne:NeW P)(nd:P.Nodup)(y:KeysOk kn S P ks){ds:List Spot}(pm:ds.Perm ks){q:Spot}(h:0<aC kn S P ds q):aC kn S P ds q=ah kn S P q:=by
 by_cases hc:0<cnt kn S P q
 .exact Zds ne nd y hc (rest:=[]) (by rw[Gg];exact pm) λ_ h=>nomatch h
 .let hz:(ds.map λsp=>ah kn S P sp*mlL kn S P sp q).sum=0:=Rg λsp _=>by rw[Zmg (),Nat.mul_zero]
  unfold aC at h⊢;rw[hz]at h⊢
  by_cases e:q=(0,[])
  .rw[D7 e,e,Zfk]
  .rw[D6 e]at h;lia
def Zks(ne:NeW P)(y:KeysOk kn S P ks){sp:Spot}(h:sp∈ks):0<ah kn S P sp:=by
 let⟨U,B,e⟩:=y.rc sp h;exact List.length_pos_of_mem ((Wr ne).mpr ⟨B,e⟩)
end
structure LvC(kn:List (Option Int))(S P:List Pr)(ks:List Spot):Prop where
 ne:NeW P
 nd:P.Nodup
 len:P.length<64
 few:ks.length<=51000
 or_:ks=[]\/KeysOk kn S P ks
 lk:ks=[]\/kn.length<=200
def Zd1(kn:List (Option Int))(S P:List Pr)(ks ka:List Spot):Prop:=ka.Nodup/\ka.length<=51001/\(∀q∈ka,q=(0,[])\/q∈ks)/\(0,[])∈ka/\∀q∈ks,0<cnt kn S P q->q∈ka
inductive dAhead(XL:Addr)(ds:List D)(M:Mem)(K:K3):Prop
 |mk:∀(x b s:Nat)(n:Int)(y:Option (Obj×List Nkv))(kn:List (Option Int))(S P:List Pr)(ks:List Spot),ds=[.cell x]->(M[x]?=some (.ins XL [("size",.int n),("behind",.cell b),("steps",.cell s)])/\M[s]?=some (.dcN [0,1] y (kvN (stL3 kn S P) ks))/\LvC kn S P ks/\∀ka,Zd1 kn S P ks ka->K (.cell M.length) (M++[.dcN [0,1] none (kvN (cD (ah kn S P)) ka)]))->dAhead XL ds M K
def pkK(p:Nat×Int):List Key:=wk [(p.1:Int),p.2]
def U4{p q:Nat×Int}(h:pkK p=pkK q):p=q:=by
 let h:=Zau h;injection h with h1 h2
 injection h2 with h2 _
 exact Prod.ext (Int.ofNat.inj h1) h2
def kvP(g:Nat×Int->Nat)(kp:List (Nat×Int)):List (List Key×D):=kp.map λp=>(pkK p,.int (g p))
def Zjc{f g:Nat×Int->Nat}(h:∀q∈kp,f q=g q):kvP f kp=kvP g kp:=Gw λq y=>by rw[h q y]
structure DcOk(g:Nat×Int->Nat)(kp:List (Nat×Int)):Prop where
 nd:kp.Nodup
 mm:∀p,p∈kp↔0<g p
def addP(g:Nat×Int->Nat)(p:Nat×Int)(v:Nat)(q:Nat×Int):Nat:=if q=p then g q+v else g q
theorem DcOk.add{g:Nat×Int->Nat}(h:DcOk g kp)(p:Nat×Int){v:Nat}(hv:0<v):∃B,DcOk (addP g p v) B/\putD (kvP g kp) (pkK p) (.int (((g p+v:Nat)):Int))=kvP (addP g p v) B/\∀q∈B,q=p\/q∈kp:=by
 by_cases hs:p∈kp
 .exists kp,{h.nd,λq=>?_},?_,λq G=>.inr G
  .rw[h.mm];unfold addP
   split
   .rename_i e
    rw[e];let:=(h.mm p).mp hs;lia
   .exact Iff.rfl
  .let e:((kvP g kp).any λx=>decide (x.1=pkK p))=true:=Fm.mpr {_,Jk.mpr ⟨p,hs,rfl⟩,D8 rfl};unfold putD;rw[D7 e];unfold kvP;rw[Ju];refine Gw λq _=>?_;show(if pkK q=pkK p then(pkK q,D.int _)else(pkK q,.int (g q)))=(pkK q,D.int (addP g p v q));unfold addP
   by_cases z:q=p
   .rw[z,D7 rfl,D7 rfl]
   .rw[D6 λy=>z (U4 y),D6 z]
 .let c0:g p=0:=Fk λz=>hs ((h.mm p).mpr z);exists kp++[p],{?_,λq=>?_},?_,λq G=>(Jv.mp G).elim .inr λz=>.inl (Je.mp z)
  .rw[Bc];exists h.nd,Ba _ _,λa Y b O e=>hs (by rw[<-Je.mp O,<-e];exact Y)
  .rw[Jv,h.mm,Je];unfold addP
   by_cases z:q=p
   .rw[D7 z];exists λ_=>by lia,λ_=>.inr z
   .rw[D6 z];exists λy=>y.elim id λy=>Dx y z,.inl
  .rw[Zl2 λZ J e=>by let⟨z,hz,rfl⟩:=Jk.mp J;exact hs (U4 e ▸ hz)];rw[Zjc (f:=g) (g:=addP g p v) λq G=>by unfold addP;rw[if_neg λz=>hs (by rw[<-z];exact G)]];unfold kvP;rw[Jj,Dt];unfold addP;rw[D7 rfl]
def Zur{g:Nat×Int->Nat}{p:Nat×Int}(h:p∉kp):valD (kvP g kp) (pkK p)=none:=by
 unfold valD;rw[Ds.mpr]
 .rfl
 .intro x hx z;let⟨q,y,rfl⟩:=Jk.mp hx;exact h (U4 (Dw z) ▸ y)
theorem N6{g:Nat×Int->Nat}{p:Nat×Int}:∀{kp:List (Nat×Int)},p∈kp->valD (kvP g kp) (pkK p)=some (.int (g p))
 |[],h=>nomatch h
 |q::kp,h=>by
  unfold valD kvP;rw[Jl,Gz]
  by_cases z:q=p
  .rw[z,show decide ((pkK p,D.int (g p)).1=pkK p)=true from D8 rfl];rfl
  .rw[show decide ((pkK q,D.int (g q)).1=pkK p)=false from D9 λy=>z (U4 y)];let:=N6 (g:=g) (kp:=kp) ((J9.mp h).elim (λy=>Dx y.symm z) id);unfold valD kvP at this;exact this
def DcOk.get{g:Nat×Int->Nat}(h:DcOk g kp)(p:Nat×Int):(valD (kvP g kp) (pkK p)).getD (.int 0)=.int ((g p:Nat):Int):=by
 by_cases hs:p∈kp
 .rw[N6 hs];rfl
 .rw[Zur hs,Fk λz=>hs ((h.mm p).mpr z)];rfl
theorem P9{f:τ->Nat}{q:τ->Bool}:∀{xs:List τ},(∀x∈xs,q x=false->f x=0)->(xs.map f).sum=((xs.filter q).map f).sum
 |[],_=>rfl
 |x::xs,h=>by
  let B:=P9 (xs:=xs) λy G=>h y (Jf _ G);rw[Jl,Bs,B,Fc];cases e:q x with
  |true=>rw[D7 rfl,Jl,Bs]
  |false=>rw[D6 nofun,h x Jh e,Bu]
def Zpq[DecidableEq τ]{f:τ->Nat}{xs ys:List τ}(G:xs.Nodup)(B:ys.Nodup)(sb:∀y∈ys,y∈xs)(h:∀x∈xs,x∉ys->f x=0):(xs.map f).sum=(ys.map f).sum:=by
 rw[P9 (q:=λx=>decide (x∈ys)) λx hx z=>h x hx (Dy z)];refine List.Perm.sum_nat (List.Perm.map _ ((Fo (G.filter _) B).mpr λx=>?_));rw[Gi,Dz];exists λz=>z.2,λz=>⟨sb x z,z⟩
def wJ(kn:List (Option Int))(S P:List Pr)(xs:List (Int×Spot))(sp:Spot)(p:Nat×Int):Nat:=if sp.1=p.1 then((xs.filter λx=>decide (x.1=p.2)).map λx=>ah kn S P sp*cnt kn S P x.2).sum else 0
def sC(kn:List (Option Int))(S P:List Pr)(ds:List Spot)(p:Nat×Int):Nat:=(ds.map λsp=>wJ kn S P (stL kn S P sp) sp p).sum
section
variable{P:List Pr} 
def Zoz(xs:List (Int×Spot))(x:Int×Spot)(sp:Spot)(p:Nat×Int):wJ kn S P (xs++[x]) sp p=if p=(sp.1,x.1)then wJ kn S P xs sp p+ah kn S P sp*cnt kn S P x.2 else wJ kn S P xs sp p:=by
 let⟨h,p2⟩:=p;unfold wJ
 by_cases h1:sp.1=h
 .rw[D7 h1,D7 h1,De,Jj,Dg]
  by_cases h2:x.1=p2
  .rw[D7 (by rw[h1,h2]),List.filter_cons_of_pos (p:=λy:Int×Spot=>decide (y.1=(h,p2).2)) (D8 h2)];rfl
  .rw[D6 λz=>h2 (congrArg Prod.snd z).symm,List.filter_cons_of_neg (by simpa using h2)];rfl
 .rw[D6 h1,D6 h1,D6 λz=>h1 (congrArg Prod.fst z).symm]
def Zv6{sp:Spot}{p:Nat×Int}(h:sp.1=p.1):wJ kn S P (stL kn S P sp) sp p=wAt kn S P p.2 sp:=by
 unfold wJ wAt stL;rw[D7 h,List.filter_filter];let:=P9 (f:=λx=>ah kn S P sp*cnt kn S P x.2) (q:=λx=>decide (0<cnt kn S P x.2)) (xs:=(stF kn S P sp).filter λx=>decide (x.1=p.2)) λx _ z=>by
  rw[Fk (Dy z),Nat.mul_zero]
 rw[this,List.filter_filter]
 congr 3
 funext x
 exact Bool.and_comm _ _
def Zty(ne:NeW P)(nd:P.Nodup)(B:KeysOk kn S P ks)(h:Zd1 kn S P ks ka)(p:Nat×Int):sC kn S P ka p=dbt kn S P p.1 p.2:=by
 rw[Zrm ne nd B];unfold sC;rw[<-Zpq (xs:=ks) B.nd h.1 (λy G=>(h.2.2.1 y G).elim (λe=>by rw[e];exact B.st) id) λx hx nx=>?_]
 .rw[P9 (q:=λsp:Spot=>decide (sp.1=p.1)) λx _ z=>by unfold wJ;rw[if_neg (of_decide_eq_false z)]]
  congr 1
  exact Gw λsp J=>Zv6 (Dw (Gi.mp J).2)
 .let e:stL kn S P x=[]:=List.eq_nil_iff_forall_not_mem.mpr λy G=>nx (h.2.2.2.2 x hx (Zkh ne (B.gd x hx) G));unfold wJ;rw[e]
  split<;>rfl
end
def stO(kn:List (Option Int))(S P:List Pr)(ks:List Spot)(q:Spot):List (Int×Spot):=if q∈ks then stL kn S P q else []
def sO(kn:List (Option Int))(S P:List Pr)(ks ds:List Spot)(p:Nat×Int):Nat:=(ds.map λsp=>wJ kn S P (stO kn S P ks sp) sp p).sum
section
variable{P:List Pr} 
def Zps(q:Spot):(Q7 (kvN (stL3 kn S P) ks) (spN q)).getD (.lst [])=.lst ((stO kn S P ks q).map stpD):=by
 unfold stO
 by_cases h:q∈ks
 .rw[D7 h,Xr h];rfl
 .rw[D6 h,Ze1 h];rfl
def Zp9{i:Nat}(hi:i<ka.length)(p:Nat×Int):sO kn S P ks (ka.take (i+1)) p=sO kn S P ks (ka.take i) p+wJ kn S P (stO kn S P ks ka[i]) ka[i] p:=by
 unfold sO;rw[Jd hi,Jj,Dg,Dt,List.sum_singleton]
def Ztt(e:ks=[])(ds:List Spot)(p:Nat×Int):sO kn S P ks ds p=0:=Rg λq _=>by
 unfold wJ stO;rw[e,D6 List.not_mem_nil]
 split<;>rfl
def Ztu(ne:NeW P)(nd:P.Nodup)(y:KeysOk kn S P ks)(h:Zd1 kn S P ks ka)(p:Nat×Int):sO kn S P ks ka p=dbt kn S P p.1 p.2:=by
 rw[<-Zty ne nd y h];unfold sO sC
 congr 1
 refine Gw λq B=>?_;unfold stO;rw[D7 ((h.2.2.1 q B).elim (λe=>by rw[e];exact y.st) id)]
end
def grid(P:List Pr):List (Nat×Int):=(Cv 201).flatMap λa=>P.map λs=>(a,s.1)
theorem Ze5(P:List Pr):(grid P).length=201*P.length:=by
 unfold grid;generalize 201=n
 induction n with
 |zero=>rw[Nat.zero_mul];rfl
 |succ n h=>rw[Dh,List.flatMap_append,Jc,h,List.flatMap_cons,List.flatMap_nil,Gg,Ja,Du]
theorem Ze4{P:List Pr}{p:Nat×Int}(h1:p.1<=200)(h2:p.2∈P.map (·.1)):p∈grid P:=by
 let⟨s,hs,e⟩:=Jk.mp h2;exact Gp.mpr {p.1,G0.mpr (),Jk.mpr {s,hs,by rw[show s.1=p.2 from e]}}
inductive dSignC(XL:Addr)(ds:List D)(M:Mem)(K:K3):Prop
 |mk:∀(x b s:Nat)(n:Int)(kn:List (Option Int))(S P:List Pr)(ks kb:List Spot),ds=[.cell x]->(M[x]?=some (.ins XL [("size",.int n),("behind",.cell b),("steps",.cell s)])/\M[b]?=some (.dcN [0,1] none (kvN (cntD kn S P) kb))/\M[s]?=some (.dcN [0,1] none (kvN (stL3 kn S P) ks))/\kb.Perm ks/\LvC kn S P ks/\(∀q∈ks,cnt kn S P q<2 ^ 64)/\∀(m:MO)(g:Nat×Int->Nat)(kp:List (Nat×Int)),DcOk g kp->kp.length<=12864->(ks=[]->kp=[])->(KeysOk kn S P ks->∀p,g p=dbt kn S P p.1 p.2)->K (.cell (M.length+1)) (M++[m,.dcT (kvP g kp)]))->dSignC XL ds M K
def dbO(S1 S:List Pr)(E:List (Option Int))(p:Nat×Int):Nat:=match knF S E with|none=>0|some kn=>dbt kn S (Yk S1) p.1 p.2
def trD(g:Nat×Int->Nat)(p:Nat×Int):D:=.tup [.int p.1,.int p.2,.int (g p)]
def Wk(p:Nat×Int):List Int:=[(p.1:Int),p.2]
def DbS(g:Nat×Int->Nat)(kp:List (Nat×Int)):Prop:=(kp.Pairwise λa b=>HT.lexLt (Wk a) (Wk b)=true)/\∀p,p∈kp↔0<g p
def SmlC(S1 S:List Pr)(E:List (Option Int)):Prop:=∀kn,knF S E=some kn->∀q,Xp kn S q->cnt kn S (Yk S1) q<2 ^ 64
inductive dDoubts(ds:List D)(M:Mem)(K:K3):Prop
 |mk:∀(S1 S:List Pr)(d:D)(E:List (Option Int)),ds=[.code S1,.code S,d]->(lsOf M d=some (E.map oD)/\LvIn S1 S E/\SmlC S1 S E/\∀(M':Mem)(k:Nat)(kp:List (Nat×Int)),M<+:M'->M.length<=k->M'[k]?=some (.lst (kp.map (trD (dbO S1 S E))))->DbS (dbO S1 S E) kp->kp.length<=12864->K (.cell k) M')->dDoubts ds M K
def occZ(h:List (List Pr))(p:Nat×Int):Nat:=(h.map λU=>(occ 0 U).count p).sum
theorem Ziv:∀(U:List Pr)(a:Nat)(p:Pr),occ a (U++[p])=occ a U++[(a+(Zp U).length,p.1)]
 |[],a,p=>by show [(a,p.1)]=[(a+0,p.1)];rw[F8]
 |u::U,a,p=>by
  show(a,u.1)::occ (a+u.2.length) (U++[p])=(a,u.1)::(occ (a+u.2.length) U++[(a+(Zp (u::U)).length,p.1)]);rw[Ziv U,show Zp (u::U)=u.2++Zp U from rfl,Jc,Br]
def Ziw(h:List (List Pr))(U:List Pr)(p:Nat×Int):occZ (h++[U]) p=occZ h p+(occ 0 U).count p:=by
 unfold occZ;rw[Jj,Dg,Dt,List.sum_singleton]
def Zge(U:List Pr){k:Nat}(y:k<U.length)(p:Nat×Int):(occ 0 (U.take (k+1))).count p=if p=((Zp (U.take k)).length,U[k].1)then(occ 0 (U.take k)).count p+1 else(occ 0 (U.take k)).count p:=by
 rw[Jd y,Ziv,List.count_append,Bu,List.count_singleton]
 by_cases h:p=((Zp (U.take k)).length,U[k].1)
 .rw[D7 h,D7 (by rw[h];exact beq_self_eq_true _)]
 .rw[D6 h,D6 λz=>h (eq_of_beq z).symm,F8]
inductive dDue73(ds:List D)(M:Mem)(K:K3):Prop
 |mk:∀(L1:List Pr)(Us:List (List Pr)),ds=[tbl L1,.lst ((Us.map Zs).map tLs)]->((Free L1/\Fits L1/\∀U∈Us,(∀p∈U,p∈L1)/\(Zp U).length<=200)/\∀kp,DbS (occZ Us) kp->kp.length<=12864->K (.lst (kp.map (trD (occZ Us)))) M)->dDue73 ds M K
inductive dSame73(ds:List D)(M:Mem)(K:K3):Prop
 |mk:∀(k:Nat)(kp:List (Nat×Int))(g:Nat×Int->Nat),ds=[.cell k,.lst (kp.map (trD g))]->(M[k]?=some (.lst (kp.map (trD g)))/\kp.length<=12864/\K (.bl true) M)->dSame73 ds M K
theorem Zve{L1:List Pr}{bs:List Int}{q:Spot}(pm:S1.Perm L1)(tb:TbK L1 bs)(B:bs.length<=3)(hk:kn.length<=32):cnt kn S (Yk S1) q<2 ^ 64:=by
 let J:=(Yo S1).trans pm;let ne:NeW L1:=λp y=>(tb.fi.2 p y).1;let O:NeW (Yk S1):=λp y=>ne p (J.mem_iff.mp y);let nd:(tx' (Yk S1) (kn.length-q.1)).Nodup:=P7 (J.nodup_iff.mpr (Free.nd tb.fr)) _;let G:∀U∈tx' (Yk S1) (kn.length-q.1),(∀p∈U,p∈L1)/\(Zp U).length=kn.length-q.1:=λU h=>by
  let⟨a,b⟩:=(R9 O U _).mp h;exists λp y=>J.mem_iff.mp (a p y),b
 let Y:((tx' (Yk S1) (kn.length-q.1)).map Zp).Nodup:=Jr.mpr (nd.imp_of_mem λ{U V}h1 h2 hn e=>hn (P8 tb.fr ne (G U h1).1 (G V h2).1 e));let:=Ue Y (us:=Tt bs (kn.length-q.1)) λr Z=>by
  let⟨U,h,rfl⟩:=Jk.mp Z;refine(Rm _ _).mpr {(G U h).2,λb B=>?_};let⟨w,hw,B⟩:=List.mem_flatten.mp B;let⟨p,y,rfl⟩:=Jk.mp hw;exact tb.by_ p ((G U h).1 p y) b B
 rw[Ja,Ri]at this;refine Gu (Fp _ _) (Gu (Jx this ?_) (show 3 ^ 32<2 ^ 64 by decide));exact Jx (Nat.pow_le_pow_left B _) (Nat.pow_le_pow_right nofun ())
theorem Zt5{Q:List Pr->Prop}:∀{zs:List (List Int)},(∀t∈zs,∃U,Zs U=t/\Q U)->∃y:List (List Pr),y.map Zs=zs/\∀U∈y,Q U
 |[],_=>{[],rfl,λ_ h=>nomatch h}
 |t::zs,h=>by
  let⟨U,e,q⟩:=h t Jh;let⟨y,es,B⟩:=Zt5 λx hx=>h x (Jf _ hx);exists U::y,by rw[Jl,e,es],λV G=>?_;rcases J9.mp G with z|z
  .rw[z];exact q
  .exact B V z
theorem Zfy{E:List (Option Int)}(fr1:Free S1)(a0:Fits S1)(fr:Free S)(fi:Fits S){zs:List (List Int)}(hz:zs.Nodup)(hm:∀t,t∈zs↔Orig S1 S E t){B:List (List Pr)}(Y:B.map Zs=zs)(hU:∀U∈B,∀p∈U,p∈S1) :
  match knF S E with|none=>B=[]|some kn=>B.Perm (cnL kn S (Yk S1) (0,[])):=by
 let ne:NeW S:=λp y=>(fi.2 p y).1;let Z:NeW S1:=λp y=>(a0.2 p y).1;cases hk:knF S E with
 |none =>
  cases B with
  |nil=>rfl
  |cons U B =>
   let⟨U,R,_,_,c,d⟩:=(hm (Zs U)).mp (by rw[<-Y];exact Jh);exact Dx ⟨R,c,d⟩ (Nt fr hk)
 |some kn =>
  let J:=Yo S1;let G:NeW (Yk S1):=λp y=>Z p (J.mem_iff.mp y);refine(Fo ((Jr.mp (Y ▸ hz)).imp λh e=>h (congrArg Zs e)) (Zki (J.nodup_iff.mpr (Free.nd fr1)) _)).mpr λU=>?_
  constructor
  .intro h;let O:Zs U∈zs:=by rw[<-Y];exact Bw h
   let⟨V,a,b,h1,h2⟩:=(Nw fr ne hk _).mp ((hm _).mp O);let:=Tm fr1 b (hU U h) a;subst this;exact Gi.mpr {(R9 G V _).mpr {λp y=>J.mem_iff.mpr (b p y),h1},h2}
  .intro h;let⟨h1,h2⟩:=Gi.mp h;let⟨h3,h4⟩:=(R9 G U _).mp h1;let h3:∀p∈U,p∈S1:=λp y=>J.mem_iff.mp (h3 p y);let O:=(hm (Zs U)).mpr ((Nw fr ne hk _).mpr ⟨U,rfl,h3,h4,h2⟩);rw[<-Y]at O;let⟨V,hV,e⟩:=Jk.mp O;rw[<-Tm fr1 (hU V hV) h3 e];exact hV
theorem Zqu{E:List (Option Int)}{y:List (List Pr)}(h:match knF S E with|none=>y=[]|some kn=>y.Perm (cnL kn S (Yk S1) (0,[]))):occZ y=dbO S1 S E:=by
 funext p
 unfold occZ dbO;cases hk:knF S E with
 |none=>rw[hk]at h;cases h;rfl
 |some kn=>rw[hk]at h;exact(h.map _).sum_nat
def Zmv{g:Nat×Int->Nat}{B:List (Nat×Int)}(h1:DbS g kp)(h2:DbS g B):kp=B:=by
 let inj:∀{a b:Nat×Int},Wk a=Wk b->a=b:=λh=>U4 (by unfold pkK;exact congrArg wk h);let e:=Zez (Jr.mpr h1.1) (Jr.mpr h2.1) λt=>by
  rw[Jk,Jk];exists λ⟨p,y,e⟩=>{p,(h2.2 p).mpr ((h1.2 p).mp y),e},λ⟨p,y,e⟩=>{p,(h1.2 p).mpr ((h2.2 p).mp y),e}
 exact List.map_inj_right (λa b z=>inj z) |>.mp e
end L3
variable{ks ka:List L3.Spot}
namespace K73
open PySem L2
abbrev q00:List Str:=["_law_hand","_law_many"]
abbrev q01:List Str:=["_law_table_here","_law_entries_here","_law_most"]
abbrev q02:List Str:=["_law_hand","_law_tables_here","_law_most","_law_signs_here"]
abbrev q03:List Str:=["_law_first","_law_second","_law_text"]
abbrev q04:List Str:=["_law_hand","_law_some","_law_most","_law_longest"]
abbrev q05:List Str:=["_law_table_here","_law_entries_here"]
abbrev q06:List Str:=["_law_hand","_law_words_here","_law_signs_here"]
abbrev q07:List Str:=["_law_first","_law_second","_law_entries_here"]
abbrev q08:List Str:=["_law_hand","_law_table_here","_law_most"]
abbrev q09:List Str:=["other","known","place","swaying","byte"]
abbrev q10:List Str:=["_law_table_here","_law_row","_law_at"]
abbrev q11:List Str:=["self","table"]
abbrev q12:List Str:=["self","one","other","entries"]
abbrev q13:List Str:=["other","known","spot","word"]
abbrev q14:List Str:=["one","other","known","spot"]
abbrev q15:List Str:=["_law_found","_law_due_here"]
abbrev q16:List Str:=["sign","behind"]
abbrev q17:List Str:=["_law_script","_law_place"]
abbrev q18:List Str:=["_law_first","_law_texts"]
abbrev q19:List Str:=["_law_hand","_law_most"]
abbrev q20:List Str:=["self","sign"]
abbrev q21:List Str:=["one","other","entries"]
abbrev q22:List Str:=["one","other","known"]
abbrev q23:List Str:=["leaving"]
abbrev q24:List Str:=["self","word"]
abbrev q25:List Str:=["_law_script"]
abbrev q26:List Str:=["sign","word"]
abbrev q27:List Str:=["other","entries"]
abbrev q28:List Str:=["self","row"]
def top(i:Nat):Stmt:=PySem.Challenge.pw_skewread_k73_doubts_counted.main.body.getD i (.Pass ⟨0,0,0,0⟩)
abbrev Jcd:Stmt:=top 26
def Jbj:FnScope ["_law_hand","_law_many","_law_got","_law_cell","_law_number"] q00 (Zm Jcd):=(by rfl')
abbrev Jag:Stmt:=top 25
def Jak:FnScope ["_law_script","_law_place","_law_cells","_law_at","_law_digits"] q17 (Zm Jag):=(by rfl')
abbrev Jam:Stmt:=top 27
def Jba:FnScope ["_law_hand","_law_most","_law_begin","_law_step"] q19 (Zm Jam):=(by rfl')
abbrev Jdj:Stmt:=top 28
def Jaq:FnScope ["_law_hand","_law_some","_law_most","_law_longest","_law_words_here","_law_k","_law_at"] q04 (Zm Jdj):=(by rfl')
abbrev Jdc:Stmt:=top 30
def Jbn:FnScope ["_law_hand","_law_words_here","_law_signs_here","_law_at","_law_spun","_law_pairs"] q06 (Zm Jdc):=(by rfl')
abbrev Wp:Stmt:=top 20
def Jad:FnScope ["one","other","shared"] ["one","other"] (Zm Wp):=(by rfl')
abbrev Zco:Stmt:=top 19
def Jbb:FnScope ["table","second","first","odds"] ["table"] (Zm Zco):=(by rfl')
abbrev Wo:Stmt:=top 21
def Jat:FnScope ["table","found"] ["table"] (Zm Wo):=(by rfl')
abbrev Vo:Stmt:=top 22
def Jar:FnScope ["words","found","word","size"] ["words"] (Zm Vo):=(by rfl')
abbrev Zz:Stmt:=Sm (top 23) 0
def Jcm:FnScope q11 q11 (Zm Zz):=(by rfl')
abbrev Uy:Stmt:=Sm (top 23) 3
def Jbc:FnScope q20 q20 (Zm Uy):=(by rfl')
abbrev Uz:Stmt:=Sm (top 23) 4
def Jbx:FnScope q24 q24 (Zm Uz):=(by rfl')
abbrev U0:Stmt:=Sm (top 23) 7
def Jaj:FnScope q28 q28 (Zm U0):=(by rfl')
abbrev Vp:Stmt:=Sm (top 23) 2
def Jcb:FnScope ["self"] ["self"] (Zm Vp):=(by rfl')
abbrev Jaz:Stmt:=top 32
def Jbr:FnScope ["_law_table_here","_law_row","_law_at","_law_one","_law_some"] q10 (Zm Jaz):=(by rfl')
abbrev Jcv:Stmt:=top 29
def Jcq:FnScope ["_law_hand","_law_many","_law_begin","_law_step","_law_signs_here","_law_at"] q00 (Zm Jcv):=(by rfl')
abbrev W5:Stmt:=top 7
def Jcw:FnScope ["other","entries","known","entry","word"] q27 (Zm W5):=(by rfl')
abbrev Vn:Stmt:=top 8
def Jan:FnScope ["other","known","place","swaying","byte","row","rests","swayed"] q09 (Zm Vn):=(by rfl')
abbrev Vl:Stmt:=top 9
def Jcu:FnScope ["other","known","spot","word","place","swaying","byte"] q13 (Zm Vl):=(by rfl')
abbrev Sg:Stmt:=top 10
def Jdi:FnScope ["one","other","known","spot","steps"] q14 (Zm Sg):=(by rfl')
abbrev Ux:Stmt:=top 11
def Jbe:FnScope ["one","other","known","steps","waiting","spot"] q22 (Zm Ux):=(by rfl')
abbrev X8:Stmt:=top 12
def Jch:FnScope ["steps","size","counts","spot"] ["steps","size"] (Zm X8):=(by rfl')
abbrev Xl:Stmt:=Sm (top 13) 0
def Jcp:FnScope ["self","one","other","entries","known","steps","spot"] q12 (Zm Xl):=(by rfl')
abbrev Wq:Stmt:=top 15
def Jdb:FnScope ["leaving","counts","spot","sign","behind"] q23 (Zm Wq):=(by rfl')
abbrev W4:Stmt:=top 16
def Jbw:FnScope ["leaving","ahead","counts","spot","sign","behind","counted"] q23 (Zm W4):=(by rfl')
abbrev Nh:Stmt:=top 17
def Jax:FnScope ["one","other","entries","counts"] q21 (Zm Nh):=(by rfl')
abbrev Jbh:Stmt:=top 31
def Jct:FnScope ["_law_hand","_law_some","_law_signs_here","_law_tables_here","_law_way"] ["_law_hand"] (Zm Jbh):=(by rfl')
abbrev Jbs:Stmt:=top 33
def Jbg:FnScope ["_law_first","_law_second","_law_text","_law_words_here","_law_row","_law_one","_law_entries_here","_law_at","_law_found"] q03 (Zm Jbs):=(by rfl')
abbrev Jao:Stmt:=top 34
def Jbv:FnScope ["_law_table_here","_law_entries_here","_law_words_here","_law_size_here","_law_entry"] q05 (Zm Jao):=(by rfl')
abbrev Jcn:Stmt:=top 35
def Jbo:FnScope ["_law_table_here","_law_entries_here","_law_most","_law_size_here"] q01 (Zm Jcn):=(by rfl')
abbrev Jaw:Stmt:=top 36
def Jbk:FnScope ["_law_first","_law_second","_law_entries_here","_law_size_here","_law_found","_law_growing","_law_longer","_law_text","_law_many"] q07 (Zm Jaw):=(by rfl')
abbrev Jce:Stmt:=top 37
def Jde:FnScope ["_law_hand","_law_table_here","_law_most","_law_text","_law_size_here","_law_k","_law_one","_law_some"] q08 (Zm Jce):=(by rfl')
abbrev Jas:Stmt:=top 38
def Jae:FnScope ["_law_hand","_law_tables_here","_law_most","_law_signs_here","_law_entries_here","_law_way","_law_at","_law_spoilt","_law_other"] q02 (Zm Jas):=(by rfl')
abbrev Jcz:Stmt:=top 39
def Jbl:FnScope ["_law_first","_law_texts","_law_words_here","_law_counts","_law_text","_law_place","_law_one"] q18 (Zm Jcz):=(by rfl')
abbrev Jci:Stmt:=top 40
def Jdh:FnScope ["_law_found","_law_due_here","_law_k"] q15 (Zm Jci):=(by rfl')
abbrev Zp5:Stmt:=top 41
def Jby:FnScope ["_law_script","_law_place","_law_hand","_law_tables_here","_law_most","_law_signs_here","_law_codes","_law_entries_here","_law_handed","_law_i","_law_j","_law_found","_law_due_here"] q25 (Zm Zp5):=(by rfl')
structure Txt(mg:Str->Option Cb):Prop where
 b_len:mg "len"=none
 b_abs:mg "abs"=none
 b_max:mg "max"=none
 b_min:mg "min"=none
 b_isinstance:mg "isinstance"=none
 b_any:mg "any"=none
 b_range:mg "range"=none
 b_int:mg "int"=none
 b_bool:mg "bool"=none
 b_tuple:mg "tuple"=none
 b_list:mg "list"=none
 b_dict:mg "dict"=none
 b_sum:mg "sum"=none
 b_sorted:mg "sorted"=none
section
variable{base:Heap}
local macro_rules | `(tactic|symm)=>`(tactic|repeat' first|with_reducible (first|apply L3.Zr|apply L3.s_g|apply L3.X4|apply L3.Vk|apply L3.Ye|apply L3.s_op|apply L3.Zw|apply L3.Y7|apply L3.s_cb|apply L3.Za6|apply L3.Wn|apply L3.Uw|apply L3.Zef|apply L3.s_b|apply L3.Zw9|apply L3.Zfv|apply L3.Zp7|apply L3.Ztg|apply L3.Uj|apply L3.Vm|apply L3.Ztm|apply L3.s_sl|apply L3.Zp6|apply L3.Zp2|apply L3.Zxb|apply L3.s_or|apply L3.Zw6|apply L3.Zw8|apply L3.s_ir2|apply L3.Zhl|apply L3.Zhr|apply L3.Zw7|apply L3.Zny|apply L3.s_un|apply L3.s_if|apply L3.Zhw|apply L3.s_extendK|apply L3.s_andV|apply L3.Zth|apply L3.Znx|apply L3.s_bl|apply L3.Zp3|apply L3.s_str|apply L3.s_ty|apply L3.s_ix|apply L3.Zhx|apply L3.Zwy|apply L3.Zw4|apply L3.Ztj|apply L3.s_fdiv|apply L3.Zw1|apply L3.s_lt|apply L3.s_le|apply L3.s_gt|apply L3.s_ge|apply L3.s_eq|apply L3.s_ne|apply L3.Zp4|apply L3.Znz|apply L3.s_tuple|apply L3.s_retN|apply L3.W0|apply L3.s_never|apply L3.Ztp|apply L3.Zlp|apply L3.Zwz|apply L3.Um|apply L3.Zw3|apply L3.Ztl|apply L3.Ztk|apply L3.s_abs)|rfl)
theorem Jal(T:Txt mg)(F:Fun K "_law_draw" "_law_draw" Jcd f fd):FnOk P w K mg base CX0 1 f fd q00 Zeb:=by
 refine F.ok Jbj (λvs H Q E h=>?_) (λa4 A outer s H vs Q E hr h=>?_)
 .let⟨p,a,n,rfl,_⟩:=h;rfl
 .let⟨p,a,n,rfl,hh,B,a0,k⟩:=h;let⟨d,i,cs,e1,e2,J,Y,hd,hi,hc⟩:=hh.ex;let O:p≠a:=hh.ne;let SC:=Jbj;let fin:∀(r d' i':Int),0<=r->r<n->0<=d'->0<=i'->Q (.int r) (upd H p (.lst [.int d',.int i',.ref a])):=λr d' i' h1 h2 h3 h4 =>
   k r _ h1 h2 {d',i',cs,Ze,by rw[Zo O.symm];exact e2,J,Y,h3,h4,hc} (λb o e nb=>by rw[Zo nb];exact e) λb nb=>by rw[Zo nb]
  refine{_,(Zb (Yz (Z1 Nx (Z3 Xb (pv 0) Zf (λ_ _=>rfl)) Zf (Ya _))
 (Zb (Zq (i:=2) SC.nd rfl (Ci rfl) (Z0 Wb (Z3 Xb (pv 0) Zf (λ_ _=>rfl)) (pv 1)))
 (Zb (Pj (Z0 Zip (Z3 Xb (pv 0) Zf (λ_ _=>rfl)) (pv 1)) (Zep (pv 0) Zf Tp))
 (Zg (Zy (pv 2)))))
 Z2)
 (Zb (Zqh (pv 0) Zf Zii Zf Pp Tp)
 (Zb (Zq (i:=3) SC.nd rfl (Ci rfl) (Z0 Wb (Z3 Xb (Z3 Xb (pv 0) Zf (λ_ _=>rfl)) (Z0 Wb (Z3 Xb (pv 0) Zf (λ_ _=>rfl)) (Zn Xa (by rfl) T.b_len Jab (Za (Z3 Xb (pv 0) Zf (λ_ _=>rfl)) Zd))) (λ_ _=>rfl)) Zf))
 (Zb (Zq (i:=4) SC.nd rfl (Ci rfl) (Z0 Wb (Z0 Vt (Z0 Vt (Z0 Ra (pv 3) Zf) (Z0 Ra (Z3 Xb (pv 0) Zf (λ_ _=>rfl)) Zf)) Zf) Zf))
 (Zb (Zq (i:=4) SC.nd rfl (Ci rfl) (Z0 Wb (Z0 Vt (Z0 Ra (pv 4) (pv 4)) (Z3 Xb (pv 0) Zf (λ_ _=>rfl))) Zf))
 (Zb (Zq (i:=4) SC.nd rfl (Ci rfl) (Z0 Wb (Z0 Vt (Z0 Ra (pv 4) Zf) Zf) Zf))
 (Zg (Zy (Z0 Wb (Z0 Zip (Z0 Wb (Z0 Ra (pv 4) (pv 4)) Zf) Zf) (pv 1)))))))))),?_}
  exists ·,p,_,_,·,rfl,SqL.of e1,rfl,_,·,rfl,·,?_;refine ite2 (λh0=>?_) (λh0=>?_)
  .exists ·,p,_,_,·,rfl,SqL.of e1,rfl,·,_,·,rfl,B,?_;exists ·,p,_,_,·,rfl,SqL.of e1,rfl,·,_,·,rfl,⟨B,a0⟩,·,p,_,_,0,rfl,rfl,e1,rfl,?_;exists ·,?_;exact fin _ _ _ (Bq _ ()) (Be _ B) (Int.ediv_nonneg hd ()) hi
  .let G:(upd H p (.lst [.int d,.int (i+1),.ref a])) p=some (.lst [.int d,.int (i+1),.ref a]):=Ze;let Z:(upd H p (.lst [.int d,.int (i+1),.ref a])) a=some (.lst (cs.map V.int)):=by rw[Zo O.symm];exact e2
   let⟨c,a3,a2⟩:=Zdp J (i+1);let a1:(0:Int)<(((cs.map V.int).length:Nat):Int):=by
    rw[Ja];let:=Gj.mpr J;lia
   refine{_,rfl,p,_,1,_,rfl,rfl,SqL.of e1,rfl,_,_,rfl,rfl,p,_,_,1,rfl,rfl,e1,rfl,?_};refine{_,rfl,p,_,_,_,rfl,rfl,SqL.of G,rfl,_,rfl,p,_,_,_,rfl,rfl,SqL.of G,rfl,_,rfl,p,_,_,_,rfl,rfl,SqL.of G,rfl,_,_,rfl,.inl {_,SqL.of Z,rfl},_,_,rfl,rfl,a1,
    a,_,_,_,rfl,rfl,SqL.of Z,a2,_,_,rfl,rfl,(by show(0:Int)<_;decide),?_}
   exists ·,_,·,rfl,.inr ⟨nofun,nofun⟩,·,p,_,_,·,rfl,SqL.of G,rfl,_,·,rfl,.inr ⟨nofun,nofun⟩,_,·,rfl,_,·,rfl,_,·,rfl,(by show(0:Int)<_;decide),?_;generalize hx:(c % 2147483647*48271+(i+1)*7368787+11) % 998244353=x;let x0:0<=x:=by rw[<-hx];exact Bq _ nofun
   let x1:x<998244353:=by rw[<-hx];exact Be _ nofun
   exists ·,·,_,·,rfl,.inl {(),()},·,p,_,_,·,rfl,SqL.of G,rfl,_,·,rfl,_,·,rfl,(by show(0:Int)<_;decide),?_;generalize hy:(x*x+(i+1)) % 998244353=y;exists ·,_,·,rfl,.inr ⟨nofun,nofun⟩,_,·,rfl,_,·,rfl,(by show(0:Int)<_;decide),?_;generalize hz:(y*40503203+12345) % 2147483647=z;let z0:0<=z:=by rw[<-hz];exact Bq _ nofun
   let z1:z<2147483647:=by rw[<-hz];exact Be _ nofun
   exists ·,·,_,·,rfl,.inl {(),()},_,·,rfl,(by show(0:Int)<_;decide),_,·,rfl,⟨nofun,nofun⟩,·,_,·,rfl,B,?_;exact fin _ _ _ (Bq _ ()) (Be _ B) hd (by show 0<=i+1;lia)
theorem Jap(T:Txt mg)(F:Fun K "_law_open" "_law_open" Jag f fd):FnOk P w K mg base CX0 1 f fd q17 (Znr K):=by
 refine F.ok Jak (λvs H Q E h=>?_) (λb7 A outer s H vs Q E hr h=>?_)
 .let⟨s,ns,i,rfl,_⟩:=h;rfl
 .let⟨s0,ns,i,rfl,hS,b4,b6,hi1,k⟩:=h;let SC:=Jak;let hu:=hr.units;refine{_,(Zb (Vr (i:=2) SC.nd rfl rfl (T:=["_law_cell"]) (cs:=[]) rfl (CScope.ok (by kernel_rfl)) (Z5 (Yg Uv (pv 0) Y2 (Yn Zf))) (λ_ _ _ _=>(Zl (i:=0) (Ys (by kernel_rfl)) rfl (Ci rfl) (Cy rfl))) (λ_ _ _ _=>Ym) (λ_ _ _ _=>(Zn Zm2 (by rfl) T.b_abs Jg6 (Za (pv 0) Zd))) (Yt nofun))
 (Zb (Yz (Z1 (Zeu hu) (pv 2) (Y6 Zd) (Ya _))
 (Zg (Zq (i:=2) SC.nd rfl (Ci rfl) (Y6 (Za Zf Zd))))
 Z2)
 (Zb (Zq (i:=3) SC.nd rfl (Ci rfl) (Z0 Wb (pv 1) (Zn Xa (by rfl) T.b_len Jab (Za (pv 2) Zd))))
 (Zb (Zq (i:=4) SC.nd rfl (Ci rfl) Zf)
 (Zb (Yz (PW.pt (Zn4 (Z1 Zxf (Z3 Xb (pv 2) (pv 3) (λ_ _=>rfl)) (Z0 Zio Zf Zf) (Ya _)) (Zif (Z1 Zqp (pv 1) (Zn Xa (by rfl) T.b_len Jab (Za (pv 2) Zd)) (Ya _)))))
 (Zg (Zq (i:=4) SC.nd rfl (Ci rfl) (Z3 Xb (pv 2) (pv 3) (λ_ _=>rfl))))
 Z2)
 (Zg (Zy (Y6 (Za (pv 4) (Za (Z0 Vt Zf (Z0 Ra Zf (pv 1))) (Za (Z0 Zir (Yg Uv (pv 2) (Yn (pv 3)) Y2) (Yg Uv (pv 2) Y2 (Yn (pv 3)))) Zd))))))))))),?_}
  let⟨ms,a7,b5,_⟩:=Zmw ns none (some 63);refine{_,rfl,_,rfl,s0,_,rfl,hS,λq hq=>{q,rfl,{_,SqL.of Ze},U9 (n:=ms.length) (λj ys H'=>∃as:List Int,ys=as.map V.int/\as.length=j/\(∀c∈as,0<=c)/\H'=upd H q (.lst (cutV (ns.map V.int) none (some 63))))
   {[],rfl,rfl,λ_ h=>(nomatch h),rfl} ?_ (Zi ()) ?_ ?_ ?_ ?_}}
  .rintro j ys H' ⟨as,rfl,rfl,_⟩;rw[Ja];exact Ji _
  .rintro j ys H' hj ⟨as,rfl,rfl,_,rfl⟩;exists _,.int (ms[as.length]'hj),SqL.of Ze,?_;rw[a7,Gc,Jb hj];rfl
  .rintro ys H' ⟨as,rfl,hl,_,rfl⟩;exact{_,SqL.of Ze,by rw[a7,Ja];exact Ji _}
  .rintro j ys H' hj ⟨as,rfl,rfl,Y,rfl⟩ x H2 ⟨rfl,y⟩;let hx:=y _ (SqL.of Ze);rw[a7,Gc,Jb hj]at hx;cases hx;exists ·,·,as++[_],by rw[Jj];rfl,by rw[Jc];rfl,λc hc=>?_,rfl;rcases Jv.mp hc with z|z
   .exact Y c z
   .rw[Je.mp z]
    split<;>lia
  .rintro ys H' ⟨as,rfl,hl,Y,rfl⟩ c0 a6;let s1:Same H (upd H q (.lst (cutV (ns.map V.int) none (some 63)))):=Zc hq;generalize upd H q (.lst (cutV (ns.map V.int) none (some 63)))=H1 at a6 s1;let s2:Same H (upd H1 c0 (.lst (as.map V.int))):=s1.trans (Zc a6);let n0:H c0=none:=s1.free a6;let e0:(upd H1 c0 (.lst (as.map V.int))) c0=some (.lst (as.map V.int)):=Ze;generalize upd H1 c0 (.lst (as.map V.int))=H2 at s2 e0;let b2:as.length<=63:=by lia
   exists ·,Ge _,λl hl=>{_,_,DV.lst (SqL.of ((Zc hl) _ _ e0)) (Ug as),DV.lst (SqL.of Ze) .nil,(Zee as).shaped nofun,(Zee []).shaped nofun,_,rfl,?_};rw[Zrj];let s3:Same H (upd H2 l (.lst [])):=s2.trans (Zc hl);let e1:(upd H2 l (.lst [])) c0=some (.lst (as.map V.int)):=(Zc hl) _ _ e0;generalize upd H2 l (.lst [])=H3 at s3 e1;refine ite2 (λh0=>?_) (λh0=>?_)
   .exists by show 1<=Ca;decide,λc1 a0=>?_;let W:HC H (upd H3 c1 (.lst [.int 0])) c1:={[0],s3.trans (Zc a0),s3.free a0,Ze,by simp,nofun,by simp}
    revert W
    generalize upd H3 c1 (.lst [.int 0])=H4;intro W;let⟨a8,s4,n4,e4,a3,b3,O⟩:=W;let⟨c,a0,a4⟩:=Zdp a3 i;let⟨cs,Z,a1,b1,a2⟩:=spun a3 i;let a5:(0:Int)<(((a8.map V.int).length:Nat):Int):=by
     rw[Ja];let:=Gj.mpr a3;lia
    exists ·,·,_,·,.inl {_,SqL.of e4,rfl},_,·,rfl,a5,?_;exists ·,·,_,_,_,·,rfl,SqL.of e4,a4,_,·,rfl,⟨nofun,nofun,nofun⟩,_,·,rfl,·,?_;refine ite2 (λ_=>?_) (λ_=>?_)
    .exists ·,·,_,·,.inl {_,SqL.of e4,rfl},_,·,rfl,·,?_;refine ite2 (λ_=>?_) (λ_=>?_)
     .refine{_,rfl,_,rfl,_,_,_,_,rfl,rfl,SqL.of e4,a4,?_};exact{_,rfl,_,rfl,_,_,rfl,rfl,.inl ⟨nofun,nofun⟩,_,_,rfl,rfl,_,rfl,_,rfl,_,rfl,_,_,rfl,SqL.of e4,λl1 G=>{_,rfl,_,rfl,_,rfl,_,_,rfl,SqL.of ((Zc G) _ _ e4),λl2 B =>
       {l1,l2,_,_,rfl,rfl,(Zc B) _ _ Ze,Ze,by rw[<-Jc,Z,Ja];exact Zi (),λl3 J=>{by show 3<=Ca;decide,λp Y =>
        k p l3 _ (s4.free ((Zc G).free ((Zc B).free ((Zc J).free Y)))) (s4.free ((Zc G).free ((Zc B).free J)))
         {_,_,cs,Ze,by rw[<-Z];exact(Zc Y) _ _ Ze,a1,(),by first|exact O _ a0|decide,(),λx hx=>O x (a2 x hx)}
         (((s4.trans (Zc G)).trans (Zc B)).trans ((Zc J).trans (Zc Y)))}}}}
     .exact{_,rfl,_,rfl,_,_,rfl,rfl,.inl ⟨nofun,nofun⟩,_,_,rfl,rfl,_,rfl,_,rfl,_,rfl,_,_,rfl,SqL.of e4,λl1 G=>{_,rfl,_,rfl,_,rfl,_,_,rfl,SqL.of ((Zc G) _ _ e4),λl2 B =>
       {l1,l2,_,_,rfl,rfl,(Zc B) _ _ Ze,Ze,by rw[<-Jc,Z,Ja];exact Zi (),λl3 J=>{by show 3<=Ca;decide,λp Y =>
        k p l3 _ (s4.free ((Zc G).free ((Zc B).free ((Zc J).free Y)))) (s4.free ((Zc G).free ((Zc B).free J)))
         {_,_,cs,Ze,by rw[<-Z];exact(Zc Y) _ _ Ze,a1,(),by first|exact O _ a0|decide,(),λx hx=>O x (a2 x hx)}
         (((s4.trans (Zc G)).trans (Zc B)).trans ((Zc J).trans (Zc Y)))}}}}
    .refine iteF ?_;exact{_,rfl,_,rfl,_,_,rfl,rfl,.inl ⟨nofun,nofun⟩,_,_,rfl,rfl,_,rfl,_,rfl,_,rfl,_,_,rfl,SqL.of e4,λl1 G=>{_,rfl,_,rfl,_,rfl,_,_,rfl,SqL.of ((Zc G) _ _ e4),λl2 B =>
       {l1,l2,_,_,rfl,rfl,(Zc B) _ _ Ze,Ze,by rw[<-Jc,Z,Ja];exact Zi (),λl3 J=>{by show 3<=Ca;decide,λp Y =>
        k p l3 _ (s4.free ((Zc G).free ((Zc B).free ((Zc J).free Y)))) (s4.free ((Zc G).free ((Zc B).free J)))
         {_,_,cs,Ze,by rw[<-Z];exact(Zc Y) _ _ Ze,a1,(),by first|exact O _ a0|decide,(),λx hx=>O x (a2 x hx)}
         (((s4.trans (Zc G)).trans (Zc B)).trans ((Zc J).trans (Zc Y)))}}}}
   .let W:HC H H3 c0:=⟨as,s3,n0,e1,by simpa using h0,b2,Y⟩;let⟨a8,s4,n4,e4,a3,b3,O⟩:=W;let⟨c,a0,a4⟩:=Zdp a3 i;let⟨cs,Z,a1,b1,a2⟩:=spun a3 i;let a5:(0:Int)<(((a8.map V.int).length:Nat):Int):=by
     rw[Ja];let:=Gj.mpr a3;lia
    exists ·,·,_,·,.inl {_,SqL.of e4,rfl},_,·,rfl,a5,?_;exists ·,·,_,_,_,·,rfl,SqL.of e4,a4,_,·,rfl,⟨nofun,nofun,nofun⟩,_,·,rfl,·,?_;refine ite2 (λ_=>?_) (λ_=>?_)
    .exists ·,·,_,·,.inl {_,SqL.of e4,rfl},_,·,rfl,·,?_;refine ite2 (λ_=>?_) (λ_=>?_)
     .refine{_,rfl,_,rfl,_,_,_,_,rfl,rfl,SqL.of e4,a4,?_};exact{_,rfl,_,rfl,_,_,rfl,rfl,.inl ⟨nofun,nofun⟩,_,_,rfl,rfl,_,rfl,_,rfl,_,rfl,_,_,rfl,SqL.of e4,λl1 G=>{_,rfl,_,rfl,_,rfl,_,_,rfl,SqL.of ((Zc G) _ _ e4),λl2 B =>
       {l1,l2,_,_,rfl,rfl,(Zc B) _ _ Ze,Ze,by rw[<-Jc,Z,Ja];exact Zi (),λl3 J=>{by show 3<=Ca;decide,λp Y =>
        k p l3 _ (s4.free ((Zc G).free ((Zc B).free ((Zc J).free Y)))) (s4.free ((Zc G).free ((Zc B).free J)))
         {_,_,cs,Ze,by rw[<-Z];exact(Zc Y) _ _ Ze,a1,(),by first|exact O _ a0|decide,(),λx hx=>O x (a2 x hx)}
         (((s4.trans (Zc G)).trans (Zc B)).trans ((Zc J).trans (Zc Y)))}}}}
     .exact{_,rfl,_,rfl,_,_,rfl,rfl,.inl ⟨nofun,nofun⟩,_,_,rfl,rfl,_,rfl,_,rfl,_,rfl,_,_,rfl,SqL.of e4,λl1 G=>{_,rfl,_,rfl,_,rfl,_,_,rfl,SqL.of ((Zc G) _ _ e4),λl2 B =>
       {l1,l2,_,_,rfl,rfl,(Zc B) _ _ Ze,Ze,by rw[<-Jc,Z,Ja];exact Zi (),λl3 J=>{by show 3<=Ca;decide,λp Y =>
        k p l3 _ (s4.free ((Zc G).free ((Zc B).free ((Zc J).free Y)))) (s4.free ((Zc G).free ((Zc B).free J)))
         {_,_,cs,Ze,by rw[<-Z];exact(Zc Y) _ _ Ze,a1,(),by first|exact O _ a0|decide,(),λx hx=>O x (a2 x hx)}
         (((s4.trans (Zc G)).trans (Zc B)).trans ((Zc J).trans (Zc Y)))}}}}
    .refine iteF ?_;exact{_,rfl,_,rfl,_,_,rfl,rfl,.inl ⟨nofun,nofun⟩,_,_,rfl,rfl,_,rfl,_,rfl,_,rfl,_,_,rfl,SqL.of e4,λl1 G=>{_,rfl,_,rfl,_,rfl,_,_,rfl,SqL.of ((Zc G) _ _ e4),λl2 B =>
       {l1,l2,_,_,rfl,rfl,(Zc B) _ _ Ze,Ze,by rw[<-Jc,Z,Ja];exact Zi (),λl3 J=>{by show 3<=Ca;decide,λp Y =>
        k p l3 _ (s4.free ((Zc G).free ((Zc B).free ((Zc J).free Y)))) (s4.free ((Zc G).free ((Zc B).free J)))
         {_,_,cs,Ze,by rw[<-Z];exact(Zc Y) _ _ Ze,a1,(),by first|exact O _ a0|decide,(),λx hx=>O x (a2 x hx)}
         (((s4.trans (Zc G)).trans (Zc B)).trans ((Zc J).trans (Zc Y)))}}}}
theorem Jdo(T:Txt mg)(G:Cal P w K mg base "_law_draw" 1 q00 Zeb)(F:Fun K "_law_bytes" "_law_bytes" Jam f fd):FnOk P w K mg base CX0 2 f fd q19 Zhb:=by
 refine F.ok Jba (λvs H Q E h=>?_) (λa6 A outer s H vs Q E hr h=>?_)
 .let⟨p,a,m,rfl,_⟩:=h;rfl
 .let⟨p,a,m,rfl,hh,a5,a4,k⟩:=h;let Z:=Jba;let J:Room 1 _:=hr.mono nofun;refine{_,(Zb (Zq (i:=2) Z.nd rfl (Cy rfl) (Zv G J rfl (Za (pv 0) (Za Zf Zd))))
 (Zb (Zq (i:=3) Z.nd rfl (Cy rfl) (Z0 Vt Zf (Zv G J rfl (Za (pv 0) (Za Zf Zd)))))
 (Zg (Zy (Yi (T:=["_law_k"]) (cs:=[2,3]) rfl (CScope.ok (by kernel_rfl)) (Yq rfl T.b_range (Za (Z0 Vt Zf (Zv G J rfl (Za (pv 0) (Za (Z0 Zet (pv 1) Zf) Zd)))) Zd)) (λ_ _ _ _=>(Zl (i:=0) (Ys (by kernel_rfl)) rfl (Ci rfl) (Cy rfl))) (λ_ _ _ _=>Ym) (λ_ _ _ _=>(Z0 Wb (Z0 Vt (pv 1) (Z0 Ra (pv 2) (pv 0))) Zf)) (Yt nofun)))))),?_}
  refine{_,rfl,p,a,_,rfl,hh,nofun,nofun,λb0 H1 a8 a7 h1 g1 u1=>?_};refine{_,rfl,p,a,_,rfl,h1,nofun,nofun,λB H2 a1 a0 h2 g2 u2=>{_,_,rfl,rfl,?_}};refine{_,rfl,_,rfl,_,_,rfl,rfl,p,a,_,rfl,h2,(),(),λy H3 a3 a2 h3 g3 u3=>{_,_,rfl,rfl,(2+y),rfl,(),(),U9 (n:=(2+y).toNat)
   (λj ys H'=>H'=H3/\ys=((Cv j).map λk:Nat=>(b0+(1+B)*(k:Int)) % 256).map V.int) ⟨rfl,rfl⟩ ?_ (Zi ()) ?_ ?_ ?_ ?_}}
  .rintro j ys H' ⟨rfl,rfl⟩;rw[Ja,Ja,Bo];exact Ji _
  .rintro j ys H' Y _;exact Y
  .rintro ys H' _;exact Ji _
  .rintro j ys H' Y ⟨rfl,rfl⟩ x H4 ⟨rfl,rfl⟩;exists ·,·,·,_,·,rfl,.inl {(),()},_,·,rfl,_,·,rfl,(by show(0:Int)<_;decide),rfl,?_;rw[Dh,Jj,Jj,L8];rfl
  .rintro ys H' ⟨rfl,rfl⟩ l hl;let⟨_,_,_,ep,_⟩:=h3.ex;let O:l≠p:=Hd (Zx ep hl);let g:=(g1.trans g2).trans g3;refine k l _ _ (g.free hl O) O Ze (Zcj () ?_) ?_ ?_ (λb hb=>?_) (h3.same (Zc hl)) (g.trans (Grow.same (Zc hl)))
   .let:((2+y).toNat:Int)=2+y:=by lia
    rw[this];let h4:(1+B)*(2+y)<=(1+B)*4:=Ld () ();lia
   .rw[Ja,Bo];lia
   .rw[Ja,Bo];lia
   .let⟨i,_,rfl⟩:=Jk.mp hb;exists Bq _ nofun,Be _ nofun
open L3
def Zm4{bs:List Int}{n:Nat}(h:∀w∈ws,∀b∈w,b∈bs)(hn:n<ws.length):∀w∈ws.take n++(bs.map λb=>ws[n]++[b])++ws.drop (n+1),∀b∈w,b∈bs:=λw hw b B=>by
 rcases Jv.mp hw with z|z
 .rcases Jv.mp z with z|z
  .exact h w (Gv z) b B
  .let⟨c,G,rfl⟩:=Jk.mp z;rcases Jv.mp B with y|y
   .exact h _ (Js hn) b y
   .rw[Je.mp y];exact G
 .exact h w (G6 z) b B
theorem Jbt(T:Txt mg){C:Addr}(Zk:Cal P w K mg base "_law_draw" 1 q00 (spOf ⟨C,K⟩ dDraw))(F:Fun K "_law_words" "_law_words" Jdj f fd):FnOk P w K mg base CX0 2 f fd q04 (spOf ⟨C,K⟩ dWordsC):=by
 refine L3.Fun.ok3 F Jaq (λds M K3 h=>?_) (λa8 A outer s H E hr=>?_)
 .let⟨Y,bs,m,lg,rfl,_⟩:=h;rfl
 .let SC:=Jaq;let hu:=hr.units;let a6:=Xy hr;let Zj:Room 1 _:=hr.mono nofun;refine{_,_,(Zb (Zq (i:=4) SC.nd rfl (Cy rfl) (Yi (T:=["_law_one"]) (cs:=[]) rfl (CScope.ok (by kernel_rfl)) (Z5 (pv 1)) (λ_ _ _ _=>(Zl (i:=0) (Ys (by kernel_rfl)) rfl (Ci rfl) (Cy rfl))) (λ_ _ _ _=>Ym) (λ_ _ _ _=>(Yc (Za (pv 0) Zd))) (Yt nofun)))
 (Zb (Y1 Co rfl (Yq rfl T.b_range (Za (Zv Zk Zj rfl (Za (pv 0) (Za (Z0 (Yp (K':=K) rfl) (pv 2) Zf) Zd))) Zd)) (Zl (i:=5) SC.nd rfl (Ci rfl))
 (Zb (Zq (i:=6) SC.nd rfl (Cy rfl) (Z0 Wb (Zv Zk Zj rfl (Za (pv 0) (Za Zf Zd))) (Zn (Yy (K:=K) rfl) (by rfl) T.b_len Jab (Za (pv 4) Zd))))
 (Zg (Yz (Z1 Zqp (Zn (Yy (K:=K) rfl) (by rfl) T.b_len Jab (Za (Z3 (Yl (K':=K) rfl) (pv 4) (pv 6) (λ_ _=>rfl)) Zd)) (pv 3) (Ya _))
 (Zg (Zq (i:=4) SC.nd rfl (Cy rfl) (Z0 (Yp (K':=K) rfl) (Z0 (Yp (K':=K) rfl) (Yg (P4 (K':=K) rfl) (pv 4) Y2 (Yn (pv 6))) (Yi (T:=["_law_one"]) (cs:=[4,6]) rfl (CScope.ok (by kernel_rfl)) (Z5 (pv 1)) (λ_ _ _ _=>(Zl (i:=0) (Ys (by kernel_rfl)) rfl (Ci rfl) (Cy rfl))) (λ_ _ _ _=>Ym) (λ_ _ _ _=>(Z0 (Yp (K':=K) rfl) (Z3 (Yl (K':=K) rfl) (pv 1) (pv 2) (λ_ _=>rfl)) (Yc (Za (pv 0) Zd)))) (Yt nofun))) (Yg (P4 (K':=K) rfl) (pv 4) (Yn (Z0 (Yp (K':=K) rfl) (pv 6) Zf)) Y2))))
 Z2))))
 (Zg (Zy (Yi (T:=["_law_word"]) (cs:=[0]) rfl (CScope.ok (by kernel_rfl)) (Z5 (pv 4)) (λ_ _ _ _=>(Zl (i:=0) (Ys (by kernel_rfl)) rfl (Ci rfl) (Cy rfl))) (λ_ _ _ _=>(W6 (Z1 Nx (Zv Zk Zj rfl (Za (pv 1) (Za Zf Zd))) Zf (Ya _)))) (λ_ _ _ _=>(pv 0)) (Yt nofun)))))),λ_=>(by symm),λds M Kk hM hD h=>?_}
  let⟨Y,bs,m,lg,rfl,h⟩:=h;let⟨hh,⟨nd,ne,lb,m0,m1,g0,g1⟩,k⟩:=h;let a7:0<bs.length:=Gj.mpr ne;let lm:(bs.map D.int).length=bs.length:=Ja _;exists ·,·,?_,λj ys J=>M=J/\ys=(bs.take j).map λb=>wD [b],λ_ _ _ _ h=>(by rw[<-h.1];rfl),⟨rfl,rfl⟩,?_,?_
  .show(bs.map D.int).length<=Ca;rw[lm];exact Zi ()
  .rintro j x ys _ hj hx ⟨rfl,rfl⟩;let⟨y,rfl⟩:=Z4 hx;exists ·,(show 1<=Ca by decide),rfl,?_;rw[Jd y,Jj];rfl
  rintro ys _ ⟨rfl,rfl⟩;let e0:(bs.take (bs.map D.int).length).map (λb=>wD [b])=(bs.map λb=>[b]).map wD:=by rw[lm,Gb,Ju];rfl
  rw[show List.map (λb=>wD [b]) (Ee _ bs)=(bs.map λb=>[b]).map wD from e0];exists ·,·,Y,m+1,rfl,hh,{(),()},λO a5 a4=>?_;exists O,rfl,{(),()},λi ρ J=>M=J/\∃(ws:List (List Int))(v5 v6:Option D),ρ=[some (.cell Y),some (.lst (bs.map .int)),some (.int m),some (.int lg),some (.lst (ws.map wD)),v5,v6]/\WOk ws/\(∀w∈ws,∀b∈w,b∈bs)/\ws≠[]/\ws.length<=bs.length+i*(bs.length-1),λ_ _ _ _ _=>trivial,{rfl,bs.map (λb=>[b]),_,_,rfl,Zqs nd,?_,?_,?_},?_,?_
  .intro w hw b hb;let⟨c,hc,rfl⟩:=Jk.mp hw;rw[Je.mp hb];exact hc
  .simpa using ne
  .rw[Ja];lia
  .rintro i x ρ J hi rfl ⟨rfl,ws,v5,v6,rfl,ok,bn,nw,lw⟩;let hi:i<O.toNat:=hi;let lp:0<ws.length:=Gj.mpr nw;let a1:ws.length<=200:=by
    let:i*(bs.length-1)<=6*24:=Nat.mul_le_mul () ();lia
   let B:(ws.map wD).length=ws.length:=Ja _;exists ·,Y,60,rfl,hh,⟨nofun,nofun⟩,λr r0 r1=>?_;exists ·,?_;refine Zog (xs:=ws.map wD) rfl ?_;exists _,·,rfl,(),?_
   try dsimp only
   rw[B];let⟨a,ea⟩:=Bp (Bq r (b:=((ws.length:Nat):Int)) ());let Z:a<ws.length:=by have:=Be r (b:=((ws.length:Nat):Int)) ();lia
   rw[ea];let cA:cut (ws.map wD) none (some (a:Int))=(ws.take a).map wD:=by rw[Zdi,Di]
   let cB:cut (ws.map wD) (some ((a:Int)+1)) none=(ws.drop (a+1)).map wD:=by rw[show(a:Int)+1=((a+1:Nat):Int)by lia,T8,Dp]
   let a2:ws[a]∈ws:=Js Z;let h4:=ok.2 ws[a] a2;exists ·,·,_,_,·,rfl,Yu (f:=wD) (as:=ws) (j:=a) rfl Z,?_;exists ·,·,_,·,rfl,·,ite2 (λG=>?_) (λG=>?_)
   .let G:((ws[a].map D.int).length:Int)<lg:=Dw G;rw[Ja]at G;exists ·,·,·,?_;refine Ztc (d:=.lst (ws.map wD)) rfl ?_;rw[cA];exists ·,·,?_,λj ys J=>M=J/\ys=(bs.take j).map λb=>wD (ws[a]++[b]),λ_ _ _ _ h=>(by rw[<-h.1];rfl),⟨rfl,rfl⟩,?_,?_
    .show(bs.map D.int).length<=Ca;rw[lm];exact Zi ()
    .rintro j x ys _ hj hx ⟨rfl,rfl⟩;let⟨y,rfl⟩:=Z4 hx;exists ·,·,_,_,·,rfl,Yu (f:=wD) (as:=ws) (j:=a) rfl Z,·,(show 1<=Ca by decide),{(λz=>h4.1 (List.map_eq_nil_iff.mp z)),(by rw[Ja];exact Zi (by show ws[a].length+1<=_;lia))},rfl,?_;rw[Jd y,Jj];unfold wD;rw[Jl,Jj];rfl
    .rintro ys _ ⟨rfl,rfl⟩;let e1:(bs.take (bs.map D.int).length).map (λb=>wD (ws[a]++[b]))=(bs.map λb=>ws[a]++[b]).map wD:=by rw[lm,Gb,Ju];rfl
     rw[show List.map (λb=>wD (ws[a]++[b])) (Ee _ bs)=(bs.map λb=>ws[a]++[b]).map wD from e1];refine Zop (xs:=(ws.take a).map wD) (ys:=(bs.map λb=>ws[a]++[b]).map wD) rfl rfl (by rw[Ja,Ja,Ja,Jz];exact Zi ()) ?_;refine{_,rfl,_,rfl,_,rfl,?_};refine Ztc (d:=.lst (ws.map wD)) rfl ?_;rw[cB,<-Jj];refine Zop (xs:=(ws.take a++(bs.map λb=>ws[a]++[b])).map wD) (ys:=(ws.drop (a+1)).map wD) rfl rfl (by rw[Ja,Ja,Jc,Jz,Ja,Ga];exact Zi ()) ?_;rw[<-Jj];let a3:ws=ws.take a++ws[a]::ws.drop (a+1):=by
      rw[<-Bd Z,J0]
     let a0:WOk (ws.take a++(bs.map λb=>ws[a]++[b])++ws.drop (a+1)):=Zl5 nd (a3 ▸ ok) ();refine .inl {rfl,_,_,_,rfl,a0,Zm4 bn Z,?_,?_}
     .intro z;let:=congrArg Eu z;simp only[Jc,Ja,Bf]at this;lia
     .rw[Jc,Jc,Jz,Ga,Ja,Jhj,Nat.one_mul];lia
   .refine .inl {rfl,ws,_,_,rfl,ok,bn,nw,?_};rw[Jhj];lia
  .rintro ρ J ⟨rfl,ws,v5,v6,rfl,ok,bn,nw,lw⟩;let lw:ws.length<=bs.length+O.toNat*(bs.length-1):=lw;let a1:ws.length<=200:=by
    let:O.toNat*(bs.length-1)<=6*24:=Nat.mul_le_mul () ();lia
   let B:(ws.map wD).length=ws.length:=Ja _;exists ·,·,?_,λj ys J=>M=J/\∃us:List (List Int),ys=us.map wD/\us.Sublist (ws.take j),λ_ _ _ _ h=>(by rw[<-h.1];rfl),{rfl,[],rfl,List.nil_sublist _},?_,?_
   .show(ws.map wD).length<=Ca;rw[B];exact Zi ()
   .rintro j x ys _ hj hx ⟨rfl,us,rfl,sb⟩;let⟨y,rfl⟩:=Z4 hx;let tk:(ws.take (j+1))=ws.take j++[ws[j]]:=Jd y;exists ·,Y,5,rfl,hh,⟨nofun,nofun⟩,λr r0 r1=>{_,_,rfl,rfl,_,rfl,ite2 (λ_=>?_) (λ_=>?_)}
    .exact{_,rfl,rfl,us++[ws[j]],by rw[Jj];rfl,by rw[tk];exact sb.append (Jeq _)}
    .exact{rfl,us,rfl,by rw[tk];exact sb.trans (List.sublist_append_left _ _)}
   .rintro ys _ ⟨rfl,us,rfl,sb⟩;let sb:us.Sublist ws:=by
     let:us.Sublist (ws.take (ws.map wD).length):=sb;rwa [B,Gb]at this
    refine .inl (k us (ok.sub sb) (λw hw=>bn w (sb.subset hw)) ?_);let l1:=sb.length_le;let l2:O.toNat*(bs.length-1)<=m.toNat*(bs.length-1):=Nat.mul_le_mul () (Ji _);let l3:((m.toNat*(bs.length-1):Nat):Int)=m*(bs.length-1):=by
     rw[Int.natCast_mul];let e1:(m.toNat:Int)=m:=by lia
     let e2:((bs.length-1:Nat):Int)=bs.length-1:=by lia
     rw[e1,e2]
    lia
theorem Jau(T:Txt mg)(Zk:Cal P w K mg base "_law_draw" 1 q00 Zeb)(F:Fun K "_law_table" "_law_table" Jdc f fd):FnOk P w K mg base CX0 2 f fd q06 Zg9:=by
 refine F.ok Jbn (λvs H Q E h=>?_) (λc7 A outer s H vs Q E hr h=>?_)
 .let⟨p,a,wa,sa,ws,B,rfl,_⟩:=h;rfl
 .let⟨p,a,wa,sa,ws,B,rfl,hh,⟨vs,ew,pw⟩,b1,ok,lw,es,a0,nd,c5,c0,k⟩:=h;let SC:=Jbn;let Zj:Room 1 _:=hr.mono nofun;let lv:=Paired.length pw;refine{_,(Zb (Zq (i:=3) SC.nd rfl (Ci rfl) (Z0 Wb (Zv Zk Zj rfl (Za (pv 0) (Za Zf Zd))) (Zn (Qz rfl) (by rfl) T.b_max K8 (Za Zf (Za (Zn Xa (by rfl) T.b_len Jab (Za (pv 2) Zd)) Zd)))))
 (Zb (Zq (i:=4) SC.nd rfl (Cy rfl) (Z0 Zir (Yg Uv (pv 2) (Yn (pv 3)) Y2) (Yg Uv (pv 2) Y2 (Yn (pv 3)))))
 (Zb (Vr (i:=5) SC.nd rfl rfl (T:=["_law_k"]) (cs:=[4,1]) rfl (CScope.ok (by kernel_rfl)) (Yq rfl T.b_range (Za (Zn Xa (by rfl) T.b_len Jab (Za (pv 1) Zd)) Zd)) (λ_ _ _ _=>(Zl (i:=0) (Ys (by kernel_rfl)) rfl (Ci rfl) (Cy rfl))) (λ_ _ _ _=>Ym) (λ_ _ _ _=>(Yc (Za (Z3 (Zon (K:=K) rfl) (pv 1) (pv 0) (λ_ _=>rfl)) (Za (Z3 (Zon (K:=K) rfl) (pv 2) (pv 0) (λ_ _=>rfl)) Zd)))) (Yt nofun))
 (Zb (Yz (Z1 Zmc (Zv Zk Zj rfl (Za (pv 0) (Za Zf Zd))) Zf (Ya _))
 (Zg (Zy (Zn8 (pv 5) (Yn (Zt7 Znb Zf)) (λ_ _=>{_,rfl}))))
 Z2)
 (Zg (Zy (pv 5))))))),?_}
  exists ·,p,a,·,hh,nofun,nofun,λY H9 c4 c3 h9 g9 u9=>{_,rfl,_,_,rfl,.inl {_,SqL.of (show H9 sa=some (.lst (B.map V.int))by rw[u9 sa a0];exact es),rfl},_,_,rfl,_,_,rfl,rfl,?_,?_}
  .show(0:Int)<if(((B.map V.int).length:Nat):Int) > 1 then(((B.map V.int).length:Nat):Int)else 1
   split<;>lia
  rw[Ja];let e9:H9 sa=some (.lst (B.map V.int)):=by rw[u9 sa a0];exact es
  let w9:H9 wa=some (.lst vs):=by rw[u9 wa b1];exact ew
  let⟨_,ep⟩:=Zal hh;let a8:=Pe.tk pw (g9.tk ep);let z0:0<=Y % (if((B.length:Nat):Int) > 1 then((B.length:Nat):Int)else 1):=Bq _ (by split<;>lia);let z1:Y % (if((B.length:Nat):Int) > 1 then((B.length:Nat):Int)else 1)<=B.length:=by
   let:=Be Y (show(0:Int)<if((B.length:Nat):Int) > 1 then((B.length:Nat):Int)else 1 by split<;>lia)
   by_cases hm:((B.length:Nat):Int) > 1
   .rw[D7 hm]at this⊢;lia
   .rw[D6 hm]at this⊢;lia
  let⟨n,en⟩:=Bp z0;let a7:cutV (B.map V.int) (some (Y % (if((B.length:Nat):Int) > 1 then((B.length:Nat):Int)else 1))) none=(B.drop n).map V.int:=by rw[en,Zfd () (by rw[Ja];lia),Dp];rfl
  let a6:cutV (B.map V.int) none (some (Y % (if((B.length:Nat):Int) > 1 then((B.length:Nat):Int)else 1)))=(B.take n).map V.int:=by rw[en,Zkd () (by rw[Ja];lia),Di];rfl
  exists ·,·,·,sa,·,SqL.of e9,λq1 b5=>?_;rw[a7];let sA:=Zc (o:=.lst ((B.drop n).map V.int)) b5;let eA:(upd H9 q1 (.lst ((B.drop n).map V.int))) q1=_:=Ze;generalize upd H9 q1 (.lst ((B.drop n).map V.int))=HA at sA eA;exists ·,·,·,sa,·,SqL.of (sA _ _ e9),λq2 a3=>?_;rw[a6];let sB:=sA.trans (Zc (o:=.lst ((B.take n).map V.int)) a3);let eB:(upd HA q2 (.lst ((B.take n).map V.int))) q2=_:=Ze;let a5:=Zc (o:=.lst ((B.take n).map V.int)) a3 _ _ eA;generalize upd HA q2 (.lst ((B.take n).map V.int))=HB at sB eB a5;exists q1,q2,_,·,rfl,a5,eB,?_,λq3 b4=>?_
  .rw[Ja,Ja,Ga,Jz];exact Zi ()
  rw[<-Jj];let a2:=Zft nd n;let b3:(B.drop n++B.take n).length=B.length:=by rw[Jc,Ga,Jz];lia
  generalize B.drop n++B.take n=tt at a2 b3;let sC:=sB.trans (Zc (o:=.lst (tt.map V.int)) b4);let eC:(upd HB q3 (.lst (tt.map V.int))) q3=_:=Ze;let hC:=h9.same sC;let gC:=g9.trans (Grow.same sC);let wC:=sC _ _ w9;let Z:=Pe.tk a8 sC.tk;generalize upd HB q3 (.lst (tt.map V.int))=HC at sC eC hC gC wC Z;exists ·,_,·,.inl {_,SqL.of wC,rfl},(vs.length:Int),rfl,(),(),U9 (n:=((vs.length:Nat):Int).toNat) (λj ys H'=>ys.length=j/\Same HC H'/\Prs H' ys ((tt.zip ws).take j)) {rfl,.refl _,by rw[B7];exact .nil} ?_ (Zi ()) ?_ ?_ ?_ ?_
  .rintro j ys H' ⟨e,_⟩;exact Bz e
  .rintro j ys H' hj _;exact hj
  .rintro ys H' _;exact Ji _
  .rintro j ys H' hj ⟨e,G,w1⟩ y c8 ⟨rfl,rfl⟩;let a4:j<vs.length:=by lia
   let⟨c6,t,ev,et⟩:=Pe.take1 Z a4;let b6:j<tt.length:=by lia
   let hz:j<(tt.zip ws).length:=by rw[List.length_zip];lia
   exists ·,·,q3,_,_,·,rfl,SqL.of (G _ _ eC),Zaq (v:=V.int tt[j]) (by rw[Gc,Jb b6];rfl),·,·,wa,_,_,·,rfl,SqL.of (G _ _ wC),Zaq (v:=.ref t) (by rw[Jb a4,ev]),by show 2<=Ca;decide,λq J=>?_;exists by rw[Jc,e];rfl,G.trans (Zc J),?_;rw[Jd hz];refine L2.Paired.snoc {q,t,rfl,?_,?_} (Prs.tk w1 (Zc J).tk)
   .rw[Ze,List.getElem_zip]
   .rw[List.getElem_zip];exact Zc J _ _ (G _ _ et)
  .rintro ys H1 ⟨e,G,w1⟩ q J;let ez:(tt.zip ws).take ((vs.length:Nat):Int).toNat=tt.zip ws:=Gk (by rw[List.length_zip];lia);rw[ez]at w1;let sD:=G.trans (Zc (o:=.lst ys) J);let eD:(upd H1 q (.lst ys)) q=_:=Ze;let wD:=Prs.tk w1 (Zc (o:=.lst ys) J).tk;let⟨_,b9⟩:=Zal hC;let nq:q≠p:=Hd (Zx (G _ _ b9) J);let b2:H q=none:=gC.free (G.free J) nq;let hD:=hC.same sD;let gD:=gC.trans (Grow.same sD);generalize upd H1 q (.lst ys)=HD at sD eD wD hD gD;let fr:Free (tt.zip ws):=ok.free a2;let sn:(tt.zip ws).map (·.2)=ws:=by
    let:=Mz (l₁:=tt) (l₂:=ws) ();exact this
   let fi:Fits (tt.zip ws):={by rw[List.length_zip];lia,λp hp=>ok.2 _ (by rw[<-sn];exact Jk.mpr ⟨p,hp,rfl⟩)};exists ·,p,a,·,hD,nofun,nofun,λrd HE c2 c1 hE gE uE=>{rfl,_,rfl,?_};let eE:HE q=some (.lst ys):=by rw[uE q nq];exact eD
   let⟨_,b8⟩:=Zal hD;let wE:=Prs.tk wD (gE.tk b8);refine ite2 (λ_=>?_) (λ_=>?_)
   .exists ·,·,·,rfl,q,·,SqL.of eE,λq4 O=>?_;let sF:=Zc (o:=.lst ys.reverse) O;let⟨_,b7⟩:=Zal hE;let a1:q4≠p:=Hd (Zx b7 O);refine k q4 (tt.zip ws).reverse _ ((gD.trans gE).free O a1) a1 {_,Ze,Prs.tk (L2.Paired.rev wE) sF.tk} fr.rev {by rw[List.length_reverse];exact fi.1,λp hp=>fi.2 p (List.mem_reverse.mp hp)} ?_ (hE.same sF) ((gD.trans gE).trans (Grow.same sF));rw[M7,sn];exact Mm _
   .exists ·,k q (tt.zip ws) HE b2 nq {_,eE,wE} fr fi (by rw[sn]) hE (gD.trans gE)
theorem Jcj(T:Txt mg)(F:Fun K "odds_between" "odds_between" Wp f fd):FnOk P w K mg base CX0 1 f fd ["one","other"] Zns:=by
 refine F.ok Jad (λvs H Q E h=>?_) (λa0 A outer s H vs Q E hr h=>?_)
 .let⟨v1,v2,p,q,rfl,_⟩:=h;rfl
 .let⟨v1,v2,p,q,rfl,⟨G,w1,rfl,Y,b1⟩,⟨B,w2,rfl,O,b2⟩,l1,l2,k⟩:=h;let SC:=Jad;let hu:=hr.units;refine{_,(Zb (Yz (Z1 Zmc (Z3 T5 (pv 0) Zf (λ_ _=>rfl)) (Z3 T5 (pv 1) Zf (λ_ _=>rfl)) (Ya _))
 (Zg (Zy Zik))
 Z2)
 (Zb (Zq (i:=2) SC.nd rfl (Ci rfl) (Zn (Zb0 rfl) (by rfl) T.b_min Jb8 (Za (Zn Xa (by rfl) T.b_len Jab (Za (Z3 T5 (pv 0) Zf (λ_ _=>rfl)) Zd)) (Za (Zn Xa (by rfl) T.b_len Jab (Za (Z3 T5 (pv 1) Zf (λ_ _=>rfl)) Zd)) Zd))))
 (Zb (Yz (Z1 (Zeu hu) (Yg Zcm (Z3 T5 (pv 0) Zf (λ_ _=>rfl)) Y2 (Yn (pv 2))) (Yg Zcm (Z3 T5 (pv 1) Zf (λ_ _=>rfl)) Y2 (Yn (pv 2))) (Ya _))
 (Zg (Zy Zik))
 Z2)
 (Zg (Zy W1))))),?_}
  exists ·,G,_,_,·,rfl,SqT.of Y,rfl,·,B,_,_,·,rfl,SqT.of O,rfl,rfl,·,?_;refine ite2 (λh=>?_) (λh=>?_)
  .let e:p.1=q.1:=by simpa using h
   let o:Zit p q=.str (C8 "twice"):=D7 e;let y:=k H (.refl _);rw[o]at y;exact y
  .let e:¬ p.1=q.1:=by simpa using h
   refine{_,rfl,G,_,_,_,rfl,rfl,SqT.of Y,rfl,_,_,rfl,.inr {_,SqT.of b1,rfl},_,rfl,B,_,_,_,rfl,rfl,SqT.of O,rfl,_,_,rfl,.inr {_,SqT.of b2,rfl},_,_,rfl,?_};rw[Ja,Ja,Zqz];refine{_,rfl,G,_,_,_,rfl,rfl,SqT.of Y,rfl,_,rfl,_,rfl,Zia b1 (Jeb _) () λu1 H1 J e1=>{_,rfl,B,_,_,_,rfl,rfl,SqT.of (J _ _ O),rfl,_,rfl,_,rfl,Zia (J _ _ b2) (Jeb _) () λu2 H2 Z e2 =>
    {_,_,DV.tup (SqT.of (Z _ _ e1)) (Ug _),DV.tup (SqT.of e2) (Ug _),(To _).shaped nofun,(To _).shaped nofun,_,rfl,?_}}}
   rw[Zjz,G2];let y:=k H2 (J.trans Z);unfold Zit at y;rw[D6 e]at y;refine ite2 (λh=>?_) (λh=>?_)
   .rw[D7 (Dw h)]at y;exact y
   .rw[D6 (λz=>h (D8 z))]at y;exact y
theorem Jda(T:Txt mg)(Wv:Cal P w K mg base "odds_between" 1 ["one","other"] Zns)(F:Fun K "fault" "fault" Zco f fd):FnOk P w K mg base CX0 2 f fd ["table"] Tl:=by
 refine F.ok Jbb (λvs H Q E h=>?_) (λa0 A outer s H vs Q E hr h=>?_)
 .let⟨a,L,rfl,_⟩:=h;rfl
 .let⟨a,L,rfl,⟨vs,ea,Y⟩,fr,⟨hl,hw⟩,k⟩:=h;let SC:=Jbb;let Qp:Room 1 _:=hr.mono nofun;let lv:=Paired.length Y;refine{_,(Zb (Y1 Co rfl (Yq rfl T.b_range (Za (Zn Xa (by rfl) T.b_len Jab (Za (pv 0) Zd)) Zd)) (Zl (i:=1) SC.nd rfl (Ci rfl))
 (Zg (Y1 Co rfl (Yq rfl T.b_range (Za (pv 1) Zd)) (Zl (i:=2) SC.nd rfl (Ci rfl))
 (Zb (Zq (i:=3) SC.nd rfl (Ci rfl) (Zv Wv Qp rfl (Za (Z3 Xb (pv 0) (pv 2) (λ_ _=>rfl)) (Za (Z3 Xb (pv 0) (pv 1) (λ_ _=>rfl)) Zd))))
 (Zg (Yz (X9 (Nr (pv 3)))
 (Zg (Zy (Yc (Za (pv 3) (Za (pv 2) (Za (pv 1) Zd))))))
 Z2))))))
 (Zg (Zy W1))),?_}
  exists ·,_,·,.inl {_,SqL.of ea,rfl},(vs.length:Int),rfl,(),(),Qt (n:=vs.length) (λj σ H'=>∃J B y,σ=[some (.ref a),J,B,y]/\Same H H') {_,_,_,rfl,.refl _} ?_ ?_
  .rintro j σ H1 hj ⟨J,B,y,rfl,O⟩;exists ·,(0+(j:Int)),rfl,(),(),Qt (n:=(0+(j:Int)).toNat) (λi σ H'=>∃B y,σ=[some (.ref a),some (.int (0+(j:Int))),B,y]/\Same H H') {_,_,rfl,O} ?_ ?_
   .rintro i σ H2 hi ⟨B,y,rfl,G⟩;let Z:i<j:=by lia
    let h1:=Paired.at Y (i:=i) () ();let h2:=Paired.at Y (i:=j) hj ();exists ·,·,a,_,_,·,rfl,SqL.of (G _ _ ea),(Zaq (Jb (by lia:i<vs.length))),·,·,a,_,_,·,rfl,SqL.of (G _ _ ea),(Zaq (Jb hj)),_,_,_,·,h1.tk G.tk,h2.tk G.tk,?_,?_,λH3 s3=>?_
    .exact Jx (hw _ (Js _)).2 nofun
    .exact Jx (hw _ (Js _)).2 nofun
    .rw[Zf0 (fr.get () () Z)];exists ·,·,Zxl rfl ?_;exists _,·,G.trans s3
   .rintro σ H2 ⟨B,y,rfl,G⟩;exists _,_,·,G
  .rintro σ H1 ⟨J,B,y,rfl,O⟩;exact k H1 O
def Jbf(T:Txt mg)(B:Cal P w K mg base "fault" 2 ["table"] Tl)(F:Fun K "refuse_fault" "refuse_fault" Wo f fd):FnOk P w K mg base CX0 3 f fd ["table"] Tl:=by
 refine F.ok Jat (λvs H Q E h=>?_) (λZ A outer s H vs Q E J h=>?_)
 .let⟨a,L,rfl,_⟩:=h;rfl
 .let⟨a,L,rfl,ta,O,Y,k⟩:=h;let SC:=Jat;let y:Room 2 _:=J.mono nofun;refine{_,(Zb (Zq (i:=1) SC.nd rfl (Ci rfl) (Zv B y rfl (Za (pv 0) Zd)))
 (Zb (Yz (X9 (Vs (pv 1)))
 (Zg Zqg)
 Z2)
 (Zb (Yz (Z1 Zmc (Z3 T5 (pv 1) Zf (λ_ _=>rfl)) Zik (Ya _))
 (Zg Zen)
 Z2)
 (Zg Zen)))),?_}
  exists ·,a,L,rfl,ta,O,Y,λH1 G=>?_;exists ·,·,iteT (k H1 G)
theorem Jcf(T:Txt mg)(F:Fun K "beginnings" "beginnings" Vo f fd):FnOk P w K mg base CX0 1 f fd ["words"] Zhc:=by
 refine F.ok Jar (λvs H Q E h=>?_) (λa7 A outer s H vs Q E hr h=>?_)
 .let⟨a,B,ws,rfl,_⟩:=h;rfl
 .let⟨a,B,ws,rfl,ea,pa,hl,hw,k⟩:=h;let SC:=Jar;let a3:=Xy hr;let lv:=Paired.length pa;refine{_,(Zb (Zq (i:=1) SC.nd rfl (Ci rfl) No)
 (Zb (Y1 Co rfl (Z5 (pv 0)) (Zl (i:=2) SC.nd rfl (Ci rfl))
 (Zg (Y1 Co rfl (Yq rfl T.b_range (Za (Zn Xa (by rfl) T.b_len Jab (Za (pv 2) Zd)) Zd)) (Zl (i:=3) SC.nd rfl (Ci rfl))
 (Zg (Zct a3 (pv 1) (Yg Zta (pv 2) Y2 (Yn (pv 3))) Nq rfl)))))
 (Zg (Zy (pv 1))))),?_}
  refine λd hd=>?_;let a2:a≠d:=Zx ea hd;let a5:(upd H d (.dT [])) a=some (.lst B):=by rw[Zo a2];exact ea
  refine{_,rfl,a,rfl,{_,SqL.of a5},Ze6 (xs:=B) (λi σ H'=>∃v2 O kvs,σ=[some (.ref a),some (.ref d),v2,O]/\(∀b o,H b=some o->H' b=some o)/\H' d=some (.dT kvs)/\kvs.length<=8*i/\Sy kvs (ws.take i) [] 0)
   {_,_,[],rfl,Zc hd,Ze,Ji _,by rw[B7];exact Sy.nil _} ?_ ?_ ?_}
  .rintro i σ H1 hi ⟨v2,O,kvs,rfl,Z,ed,hk,hb⟩;exact SqL.of (Z _ _ ea)
  .rintro i x σ H1 hx ⟨v2,O,kvs,rfl,Z,ed,hk,hb⟩;let hi:i<B.length:=(Jg.mp hx).1;let hi2:i<ws.length:=by lia
   let⟨tw,ex,ew⟩:=Paired.at pa hi hi2;let a4:x=V.ref tw:=by rw[<-ex];exact(Jg.mp hx).2.symm
   subst a4;let a6:ws[i].length<=4:=hw _ (Js hi2);let en:(((ws[i].map V.int).length:Nat):Int).toNat=ws[i].length:=by rw[Ja];exact G2 _
   refine{_,rfl,_,_,rfl,.inr {_,SqT.of (Z _ _ ew),rfl},(((ws[i].map V.int).length:Nat):Int),rfl,by rw[Ja];lia,by rw[Ja];lia,
    Qt (n:=(((ws[i].map V.int).length:Nat):Int).toNat) (λn σ H'=>∃O kvs,σ=[some (.ref a),some (.ref d),some (.ref tw),O]/\(∀b o,H b=some o->H' b=some o)/\H' d=some (.dT kvs)/\kvs.length<=8*i+n/\Sy kvs (ws.take i) ws[i] n) {_,kvs,rfl,Z,ed,hk,?_} ?_ ?_}
   .intro u;rw[hb u];refine decide_eq_decide.mpr {λz=>?_,λz=>?_}
    .rcases z with z|⟨_,z⟩
     .exact .inl z
     .exact Dx z (Bg _)
    .rcases z with z|⟨_,z⟩
     .exact .inl z
     .exact Dx z (Bg _)
   .rintro n σ H2 hn ⟨O,y,rfl,s2,J,Y,G⟩;rw[en]at hn;let a0:cutV (ws[i].map V.int) none (some (0+(n:Int)))=(wk (ws[i].take n)).map kV:=by
     rw[Zdj _ () (),Zk2]
     congr 2
     lia
    exists ·,·,·,·,tw,·,SqT.of (s2 _ _ ew),?_,λp hp=>?_
    .rintro⟨_,z⟩;rw[show(some (0+(n:Int)))=some ((n:Nat):Int)by congr 1;lia,HT.sIx_nat,Ja]at z;lia
    .rw[a0];let a1:d≠p:=Zx J hp;let hz:y.length<Ca:=Gu (Jx Y ()) (show 1000<Ca by decide);exists d,·,DPut.t (k:=wk (ws[i].take n)) (by rw[Zo a1];exact J) Ze hz,?_;exists _,·,λb o e=>?_,Ze,?_,G.put (Fi hn)
     .let nb:b≠d:=Zx e hd;rw[Zo nb];exact Zc hp b o (s2 b o e)
     .let:=Y3 y (wk (ws[i].take n)) (V.bl true);lia
   .rintro σ H2 ⟨O,y,rfl,s2,J,Y,G⟩;rw[en]at Y G;exists _,_,y,rfl,s2,J,(),?_;rw[Jd hi2];exact G.next _
  .rintro σ H1 ⟨v2,O,kvs,rfl,Z,ed,hk,hb⟩;exists ·,k d kvs H1 Z hd ed ?_;rw[lv,Gb]at hb;exact hb.done
abbrev lamQ:Str:=C8 "Code.__init__"++".<locals>."++"<lambda>"
abbrev lamP:Pos:=⟨127,45,127,65⟩
structure CodeT(K:Cq)(C:Addr):Prop where
 cl:Cls K C
 n_pairs:Y4 K C "pairs"
 n_words_by_sign:Y4 K C "words_by_sign"
 n_signs_by_word:Y4 K C "signs_by_word"
 n_begun:Y4 K C "begun"
 n_word_sizes:Y4 K C "word_sizes"
structure St5(C Pt:Addr)(H Hc:Hp)(x dx tp:Addr)(fs:List (Str×V))(M:List PK3):Prop where
 g:∀b o,b≠x->b≠Pt->H b=some o->Hc b=some o
 tb:V3 Pt lamP lamQ Hc
 ex:Hc x=some (.ins C dx fs)
 etp:Hc tp=some (.tup (M.map (·.v)))
 at_:∀e∈M,e.At Hc
def St5.same{C:Addr}{G B:Hp}{x y:Addr}{fs:List (Str×V)}{M:List PK3}(h:St5 C Pt H G x dx y fs M)(s:Same G B):St5 C Pt H B x dx y fs M :=
 {λb o O J e=>s _ _ (h.g b o O J e),h.tb.same s,s _ _ h.ex,s _ _ h.etp,λe Y=>(h.at_ e Y).tk s.tk}
def St5.fld{C:Addr}{B:Hp}{x G:Addr}{fs fs':List (Str×V)}{M:List PK3}(h:St5 C Pt H B x dx G fs M):St5 C Pt H (upd B x (.ins C dx fs')) x dx G fs' M:=by
 let y:Grow x B (upd B x (.ins C dx fs')):=λb o e n=>by rw[Zo n];exact e
 exists λb o J O e=>y _ _ (h.g b o J O e) J,h.tb.grow h.ex y,Ze,y _ _ h.etp (X5 h.etp h.ex λz=>by cases z),λe Y=>(h.at_ e Y).tk (y.tkI h.ex)
theorem St5.new{C:Addr}{y:Hp}{x B:Addr}{fs:List (Str×V)}{M:List PK3}(h:St5 C Pt H y x dx B fs M){d:Addr}(hd:y d=none):H d=none:=by
 cases e:H d with
 |none=>rfl
 |some o =>
  let⟨ps,G,_⟩:=h.tb;rw[h.g d o (λz=>by rw[z,h.ex]at hd;cases hd) (λz=>by rw[z,G]at hd;cases hd) e]at hd;cases hd
theorem Si{α y:Type}{F:α->β->Prop}{f:y->α}{g:y->β}:∀{M:List y},(∀e∈M,F (f e) (g e))->Paired F (M.map f) (M.map g)
 |[],_=>.nil
 |e::r,h=>.cons (h e Jh) (Si λx hx=>h x (Jf _ hx))
theorem Sh{α y J:Type}{F:α->y->Prop}{G:β->J->Prop}{f:α->β}{g:y->J}(h:∀a c,F a c->G (f a) (g c)):∀{l:List α}{m:List y},Paired F l m->Paired G (l.map f) (m.map g):=by
 intro _ _ B;cases B with
 |nil=>
  exact .nil
 |cons a r=>
  exact .cons (h _ _ a) (Sh h r)
theorem Jbm(T:Txt mg){C:Addr}(CT:CodeT K C)(j2:W.CodeHd base c Pt)(j3:Bm mg base)(Wu:Cal P w K mg base "refuse_fault" 3 ["table"] Tl)(V7:Cal P w K mg base "beginnings" 1 ["words"] Zhc){f:Addr}{oc:Cb}{od an:Option Addr}{g7:Array (Option Cb)}{kW g2 pm ct:Cb}(lk:K.lookup f=some {oc,od,.func (Jc7 "__init__" "Code.__init__" (Wf Zz) (Xm Zz) (Zm Zz) .none kW g2 pm an (.ref c) ct),g7})(i9:Jd0 K (.ref c) "Code.__init__"=true) :
  FnOk P w K mg base CX0 4 f (Jc7 "__init__" "Code.__init__" (Wf Zz) (Xm Zz) (Zm Zz) .none kW g2 pm an (.ref c) ct) q11 (Zck C Pt lamP lamQ):=by
 refine Fun.okC lk i9 Jcm (λvs H Q E h=>?_) (λA outer s H vs Q E hr h=>?_)
 .let⟨x,a,dx,L,rfl,_⟩:=h;rfl
 .let⟨x,a,dx,L,rfl,ex,⟨vs,ea,pa⟩,fr,⟨hl,hw⟩,tb,k⟩:=h;let SC:=Jcm;let Qo:Room 3 _:=hr.mono nofun;let j8:Room 1 _:=hr.mono nofun;let j7:Room 3 _:=hr.mono nofun;let Va:Room 3 _:=hr.mono nofun;let hcode:(cxOf CX0 P w K mg base q11 "Code.__init__" (Zm Zz) f (.ref c) A outer s H E).nox.env.code=.ref c:=rfl;refine{_,(Zb (U3 (Zv Wu Qo rfl (Za (pv 1) Zd)))
 (Zb (S0 (pv 0) (Yr X6 (by rfl) T.b_tuple Ex (Za (Zl7 j7 rfl T.b_sorted (Za (pv 1) Zd) hcode j2 j3 rfl rfl (by rfl') (λ_ _ _ _=>rfl) (λ_ _ _ _ _ _=>(Z3 (Zvu (K:=K) rfl) (pv 0) Zf (λ_ _=>rfl)))) Zd)) rfl)
 (Zb (S0 (pv 0) (Yr (Wm Va rfl) (by rfl) T.b_dict Ej (Za (Wa (pv 0) rfl) Zd)) rfl)
 (Zb (S0 (pv 0) (Yr (Wm Va rfl) (by rfl) T.b_dict Ej (Za (Yi (T:=q26) (cs:=[]) rfl (CScope.ok (by kernel_rfl)) (R7 (Wa (pv 0) rfl)) (λ_ _ _ _=>(Xq (n:=2) rfl (Zu (Zl (i:=0) (Ys (by kernel_rfl)) rfl (Ci rfl) (Cy rfl)) (Zu (Zl (i:=1) (Ys (by kernel_rfl)) rfl (Ci rfl) (Cy rfl)) Yw)) (by rfl))) (λ_ _ _ _=>Ym) (λ_ _ _ _=>(Yc (Za (pv 1) (Za (pv 0) Zd)))) (Vz (Z8 nofun (Z8 nofun Wd)))) Zd)) rfl)
 (Zb (S0 (pv 0) (Zv V7 j8 rfl (Za (Yi (T:=q26) (cs:=[]) rfl (CScope.ok (by kernel_rfl)) (R7 (Wa (pv 0) rfl)) (λ_ _ _ _=>(Xq (n:=2) rfl (Zu (Zl (i:=0) (Ys (by kernel_rfl)) rfl (Ci rfl) (Cy rfl)) (Zu (Zl (i:=1) (Ys (by kernel_rfl)) rfl (Ci rfl) (Cy rfl)) Yw)) (by rfl))) (λ_ _ _ _=>Ym) (λ_ _ _ _=>(pv 1)) (Vz (Z8 nofun (Z8 nofun Wd)))) Zd)) rfl)
 (Zg (S0 (pv 0) (Yr X6 (by rfl) T.b_tuple Ex (Za (Zn (Zgg rfl) (by rfl) T.b_sorted C2 (Za (Yr (Wm Va rfl) (by rfl) T.b_dict Ej (Za (Yi (T:=q26) (cs:=[]) rfl (CScope.ok (by kernel_rfl)) (R7 (Wa (pv 0) rfl)) (λ_ _ _ _=>(Xq (n:=2) rfl (Zu (Zl (i:=0) (Ys (by kernel_rfl)) rfl (Ci rfl) (Cy rfl)) (Zu (Zl (i:=1) (Ys (by kernel_rfl)) rfl (Ci rfl) (Cy rfl)) Yw)) (by rfl))) (λ_ _ _ _=>Ym) (λ_ _ _ _=>(Yc (Za (Zn (Yy (K:=K) rfl) (by rfl) T.b_len Jab (Za (pv 1) Zd)) (Za Nq Zd)))) (Vz (Z8 nofun (Z8 nofun Wd)))) Zd)) Zd)) Zd)) rfl))))))),?_}
  exists ·,a,L,rfl,⟨vs,ea,pa⟩,fr,⟨hl,hw⟩,λH1 s1=>?_;let⟨M,m1,m2,m3⟩:=Zn5 (pa.tk s1.tk);let⟨ps,hP,_,_⟩:=id tb;let f2:=s1 _ _ hP;let lM:M.length=L.length:=by rw[<-m2,Ja]
  exists ·,a,M.map PK3.k,rfl,?_,?_,?_,?_,tb.same s1,?_,λH2 D L' sT T2 hD pm pw=>?_
  .let e1:(M.map PK3.k).map (·.1)=vs:=by rw[Ju,<-m1];rfl
   rw[e1];exact SqL.of (s1 _ _ ea)
  .rw[Ja];lia
  .intro q hq;let⟨e,Y,rfl⟩:=Jk.mp hq;let⟨t,_,_,cw⟩:=m3 e Y;exists SqT.of cw,(hw e.p (by rw[<-m2];exact Jk.mpr ⟨e,Y,rfl⟩)).1
  .let e1:(M.map PK3.k).map (·.2.2)=L.map (·.2):=by rw[Ju,<-m2,Ju];rfl
   rw[e1];exact Jr.mpr (fr.imp λ{a b}z e=>z.2.1 (by rw[e];exact Jo _))
  .intro H2 q sT hq;let⟨e,Y,rfl⟩:=Jk.mp hq;let⟨t,ev,b,_⟩:=m3 e Y;exists e.v,rfl,t,_,1,_,ev,rfl,SqT.of (sT _ _ (X5 b f2 λz=>by cases z) b),rfl,rfl,rfl
  .let⟨B,pM,rfl⟩:=Zij pm rfl;let xP:x≠Pt:=X5 ex hP λz=>by cases z
   let j4:H2 x=some (.ins C dx []):=sT _ _ xP (s1 _ _ ex);let j6:∀e∈B,e.At H2:=λe Y=>(m3 e (pM.mem_iff.mp Y)).tk (sT.tk f2);let vv:(B.map PK3.k).map (·.1)=B.map (·.v):=by rw[Ju];rfl
   let hS:(B.map (·.p)).Perm L:=by have:=pM.map (·.p);rw[m2]at this;exact this
   let i3:B.length<64:=by have:=hS.length_eq;rw[Ja]at this;lia
   let i7:∀e∈B,e.p∈L:=λe Y=>hS.mem_iff.mp (Jk.mpr ⟨e,Y,rfl⟩);let i5:Zdt (B.map (·.p)):=Jr.mpr ((Jr.mp pw).imp λz=>z);refine{_,_,rfl,.inl {SqL.of Ze,λG e9=>?_}};rw[vv];rw[vv]at e9;let sA:Same H2 (upd (upd H2 D (.lst (B.map (·.v)))) G (.tup (B.map (·.v)))):=(Zc hD).trans (Zc e9);let S3:St5 C Pt H (upd (upd H2 D (.lst (B.map (·.v)))) G (.tup (B.map (·.v)))) x dx G [] B :=
    {λb o n1 n2 e=>sA _ _ (sT _ _ n2 (s1 _ _ e)),T2.same sA,sA _ _ j4,Ze,λe Y=>(j6 e Y).tk sA.tk}
   generalize upd (upd H2 D (.lst (B.map (·.v)))) G (.tup (B.map (·.v)))=H3 at S3;exists ·,x,C,dx,[],rfl,S3.ex,CT.cl,CT.n_pairs,nofun,?_;let S4:=S3.fld (fs':=[("pairs",.ref G)]);show tSeq _ _ _ _ (upd H3 x (.ins C dx [("pairs",.ref G)]));generalize upd H3 x (.ins C dx [("pairs",.ref G)])=H4 at S4;exists ·,x,C,dx,_,·,S4.ex,CT.cl,CT.n_pairs,rfl,G,_,(B.map λe=>((Cz e.p.1:Key),V.ref e.tw)).map (λz=>(kV z.1,z.2)),.dK [],rfl,.inr S4.etp,?_,.inl rfl,λJ f1=>{_,Zap _ [] ?_,?_}
   .rw[Ju];exact Si λe Y=>by
     let⟨t,ev,b,_⟩:=S4.at_ e Y;exists t,ev,SqT.of b
   .rw[Bf,Ja];exact Gm (by lia:0+B.length<64) (show 64<=Ca by decide)
   let i1:=S4.new f1;let g9:(B.map λe=>((Cz e.p.1:Key))).Nodup:=by
    let h1:(L.map (·.1)).Nodup:=Jr.mpr (fr.imp λ{a b}z=>z.1);let h2:((B.map (·.p)).map (·.1)).Nodup:=(hS.map (·.1)).nodup_iff.mpr h1;rw[Ju]at h2;exact Jr.mpr ((Jr.mp h2).imp λz e=>z (Kh e))
   let wb:∀Hx:Hp,(∀e∈B,e.At Hx)->Zgs Hx (Xf [] (B.map λe=>((Cz e.p.1:Key),V.ref e.tw))) (B.map (·.p)):=λHx ax=>by
    exists λp hp=>?_,λsg i4=>?_
    .let⟨e,Y,rfl⟩:=Jk.mp hp;let⟨t,_,_,cw⟩:=ax e Y;exists e.tw,Qv _ _ (by rw[Ju];exact g9) (Jk.mpr ⟨e,Y,rfl⟩),cw
    .rw[T6 _ _ λz hz=>?_]
     .rfl
     .let⟨e,Y,rfl⟩:=Jk.mp hz;exact λq=>i4 e.p (Jk.mpr ⟨e,Y,rfl⟩) (Kh q)
   let S5:=S4.same (Zc (o:=.dK (Xf [] (B.map λe=>((Cz e.p.1:Key),V.ref e.tw)))) f1);let e7:(upd H4 J (.dK (Xf [] (B.map λe=>((Cz e.p.1:Key),V.ref e.tw))))) J=_:=Ze;generalize upd H4 J (.dK (Xf [] (B.map λe=>((Cz e.p.1:Key),V.ref e.tw))))=H5 at S5 e7;exists ·,x,C,dx,·,S5.ex,CT.cl,CT.n_words_by_sign,(by show 1<1000;decide),?_;let S6:=S5.fld (fs':=[("pairs",.ref G),("words_by_sign",.ref J)]);let c8:(upd H5 x (.ins C dx [("pairs",.ref G),("words_by_sign",.ref J)])) J=_:=(Zo (X5 e7 S5.ex λz=>by cases z)).trans e7;show tSeq _ _ _ _ (upd H5 x (.ins C dx [("pairs",.ref G),("words_by_sign",.ref J)]))
   generalize upd H5 x (.ins C dx [("pairs",.ref G),("words_by_sign",.ref J)])=H6 at S6 c8;let e0:∀(Hx:Hp)(i:Nat),Hx G=some (.tup (B.map (·.v)))->i<B.length->(Itt K G).go i Hx:=λHx i e hi=>{_,_,SqT.of e,Jb (by rw[Ja];exact hi)};let stop6:∀Hx:Hp,Hx G=some (.tup (B.map (·.v)))->(Itt K G).stop B.length Hx:=λHx e=>{_,SqT.of e,by rw[Ja];exact Ji _};let a4:∀(Hx:Hp)(i:Nat)(y:V)(H':Hp)(hi:i<B.length),Hx G=some (.tup (B.map (·.v)))->(Itt K G).yld i Hx y H'->H'=Hx/\y=B[i].v:=λHx i y H' hi e z=>by
    exists z.1,?_;let:=z.2 _ (SqT.of e);rw[Gc,Jb hi]at this;exact(Jaa this).symm
   refine{_,rfl,x,C,dx,_,_,rfl,S6.ex,CT.cl,CT.n_pairs,rfl,G,rfl,{_,SqT.of S6.etp},U9 (n:=B.length)
    (λj ys O=>∃ts:List Addr,ys=ts.map V.ref/\ts.length=j/\Same H6 O/\Paired (λt(e:PK3)=>O t=some (.tup [.ref e.tw,.int e.p.1])) ts (B.take j)) {[],rfl,rfl,.refl _,by rw[B7];exact .nil} ?_ (Zi ()) ?_ ?_ ?_ ?_}
   .rintro j ys O ⟨ts,rfl,rfl,_⟩;rw[Ja];exact Ji _
   .rintro j ys O hj ⟨ts,rfl,rfl,sn,_⟩;exact e0 _ _ (sn _ _ S6.etp) hj
   .rintro ys O ⟨ts,rfl,_,sn,_⟩;exact stop6 _ (sn _ _ S6.etp)
   .rintro j ys O hj ⟨ts,rfl,rfl,sn,pn⟩ y H' hy;let⟨rfl,rfl⟩:=a4 _ _ _ _ hj (sn _ _ S6.etp) hy;let⟨t,ev,b,cw⟩:=(S6.at_ _ (Js hj)).tk sn.tk;exists t,_,ev,SqT.of b,rfl,_,·,_,·,rfl,?_;exists ·,·,by show 2<=Ca;decide,λq hq=>?_;exists ts++[q],by rw[Jj];rfl,by rw[Jc];rfl,sn.trans (Zc hq),?_;rw[Jd hj];refine L2.Paired.snoc ?_ ?_
    .exact Ze
    .exact L2.Paired.mapP pn λ_ _ z=>Zc hq _ _ z
   .rintro ys O ⟨ts,rfl,lt,sn,pn⟩ q hq;rw[Gb]at pn;let sq:=sn.trans (Zc (o:=.lst (ts.map V.ref)) hq);let a5:=Paired.mapP pn λ_ _ z=>Zc (o:=.lst (ts.map V.ref)) hq _ _ z;let eq:(upd O q (.lst (ts.map V.ref))) q=_:=Ze;let S7:=S6.same sq;let f8:=sq _ _ c8;generalize upd O q (.lst (ts.map V.ref))=H7 at S7 f8 a5 eq;exists q,_,(B.map λe=>(e.tw,wk e.p.2,V.int e.p.1)).map (λz=>(.ref z.1,z.2.2)),.dT [],rfl,.inl eq,?_,.inr rfl,λZ b5=>{_,Zj1 b5 _ [] ?_ ?_,?_}
    .rw[Ju];exact Sh (λt e z=>{t,rfl,SqT.of z}) a5
    .rw[Bf,Ja];exact Gm (by lia:0+B.length<64) (show 64<=Ca by decide)
    .intro z hz;let⟨e,Y,rfl⟩:=Jk.mp hz;let⟨t,_,_,cw⟩:=S7.at_ e Y;show H7 e.tw=some (.tup ((wk e.p.2).map kV));rw[Zk2];exact cw
    rw[Ju];let g8:(B.map λe=>wk e.p.2).Nodup:=by
     let h1:(L.map (·.2)).Nodup:=Jr.mpr (fr.imp λ{a b}z e=>z.2.1 (by rw[e];exact Jo _));let h2:((B.map (·.p)).map (·.2)).Nodup:=(hS.map (·.2)).nodup_iff.mpr h1;rw[Ju]at h2;exact Jr.mpr ((Jr.mp h2).imp λz e=>z (Zau e))
    let sb:Zhg (Xf [] (B.map λe=>(wk e.p.2,V.int e.p.1))) (B.map (·.p)):=by
     exists λp hp=>?_,λu hu=>?_
     .let⟨e,Y,rfl⟩:=Jk.mp hp;exact Qv _ _ (by rw[Ju];exact g8) (Jk.mpr ⟨e,Y,rfl⟩)
     .rw[T6 _ _ λz hz=>?_]
      .rfl
      .let⟨e,Y,rfl⟩:=Jk.mp hz;exact λq=>hu e.p (Jk.mpr ⟨e,Y,rfl⟩) (Zau q)
    let i0:=S7.new b5;let S8:=S7.same (Zc (o:=.dT (Xf [] (B.map λe=>(wk e.p.2,V.int e.p.1)))) b5);let e6:=Zc (o:=.dT (Xf [] (B.map λe=>(wk e.p.2,V.int e.p.1)))) b5 _ _ f8;let e4:(upd H7 Z (.dT (Xf [] (B.map λe=>(wk e.p.2,V.int e.p.1))))) Z=_:=Ze;show tVar 0 _ (upd H7 Z (.dT (Xf [] (B.map λe=>(wk e.p.2,V.int e.p.1))))) _;generalize upd H7 Z (.dT (Xf [] (B.map λe=>(wk e.p.2,V.int e.p.1))))=H8 at S8 e6 e4;exists ·,x,C,dx,·,S8.ex,CT.cl,CT.n_signs_by_word,(by show 2<1000;decide),?_;let S9:=S8.fld (fs':=[("pairs",.ref G),("words_by_sign",.ref J),("signs_by_word",.ref Z)])
    let f7:(upd H8 x (.ins C dx [("pairs",.ref G),("words_by_sign",.ref J),("signs_by_word",.ref Z)])) J=_:=(Zo (X5 e6 S8.ex λz=>by cases z)).trans e6;let f4:(upd H8 x (.ins C dx [("pairs",.ref G),("words_by_sign",.ref J),("signs_by_word",.ref Z)])) Z=_:=(Zo (X5 e4 S8.ex λz=>by cases z)).trans e4;show tSeq _ _ _ _ (upd H8 x (.ins C dx [("pairs",.ref G),("words_by_sign",.ref J),("signs_by_word",.ref Z)]));generalize upd H8 x (.ins C dx [("pairs",.ref G),("words_by_sign",.ref J),("signs_by_word",.ref Z)])=H9 at S9 f7 f4;refine{_,rfl,x,C,dx,_,_,rfl,S9.ex,CT.cl,CT.n_pairs,rfl,G,rfl,{_,SqT.of S9.etp},U9 (n:=B.length)
     (λj ys O=>ys=(B.take j).map (λe=>V.ref e.tw)/\O=H9) {by rw[B7];rfl,rfl} ?_ (Zi ()) ?_ ?_ ?_ ?_}
    .rintro j ys O ⟨rfl,rfl⟩;rw[Ja,Jz];exact Nat.min_le_left _ _
    .rintro j ys O hj ⟨rfl,rfl⟩;exact e0 _ _ S9.etp hj
    .rintro ys O ⟨rfl,rfl⟩;exact stop6 _ S9.etp
    .rintro j ys O hj ⟨rfl,rfl⟩ y H' hy;let⟨rfl,rfl⟩:=a4 _ _ _ _ hj S9.etp hy;let⟨t,ev,b,cw⟩:=S9.at_ _ (Js hj);exists t,_,ev,SqT.of b,rfl,_,·,_,·,rfl,?_;exists ·,?_,rfl;rw[Jd hj,Jj];rfl
    .rintro ys O ⟨rfl,rfl⟩ q2 i6;rw[Gb];let d8:=Zc (o:=.lst (B.map λe=>V.ref e.tw)) i6;let f6:(upd O q2 (.lst (B.map λe=>V.ref e.tw))) q2=_:=Ze;let b6:=S9.same d8;let c7:=d8 _ _ f7;let c2:=d8 _ _ f4;generalize upd O q2 (.lst (B.map λe=>V.ref e.tw))=H10 at b6 c7 c2 f6;exists q2,_,B.map (·.p.2),rfl,f6,Si λe Y=>?_,by rw[Ja];exact i3,?_,λd3 k3 b7 d9 h9 f9 j0=>?_
     .let⟨t,_,_,cw⟩:=b6.at_ e Y;exists ·,cw
     .intro u hu;let⟨e,Y,rfl⟩:=Jk.mp hu;exact(hw _ (i7 e Y)).2
     let e8:=b6.new h9;let b2:=b6.same d9;let c6:=d9 _ _ c7;let c1:=d9 _ _ c2;exists ·,x,C,dx,·,b2.ex,CT.cl,CT.n_begun,(by show 3<1000;decide),?_;let a0:=b2.fld (fs':=[("pairs",.ref G),("words_by_sign",.ref J),("signs_by_word",.ref Z),("begun",.ref d3)]);let c5:(upd b7 x (.ins C dx [("pairs",.ref G),("words_by_sign",.ref J),("signs_by_word",.ref Z),("begun",.ref d3)])) J=_:=(Zo (X5 c6 b2.ex λz=>by cases z)).trans c6;let c0:(upd b7 x (.ins C dx [("pairs",.ref G),("words_by_sign",.ref J),("signs_by_word",.ref Z),("begun",.ref d3)])) Z=_:=(Zo (X5 c1 b2.ex λz=>by cases z)).trans c1
     let d7:(upd b7 x (.ins C dx [("pairs",.ref G),("words_by_sign",.ref J),("signs_by_word",.ref Z),("begun",.ref d3)])) d3=_:=(Zo (X5 f9 b2.ex λz=>by cases z)).trans f9;let pf:putF (C8 "begun") (V.ref d3) [("pairs",.ref G),("words_by_sign",.ref J),("signs_by_word",.ref Z)]=([("pairs",.ref G),("words_by_sign",.ref J),("signs_by_word",.ref Z),("begun",.ref d3)]:List (Str×V)):=by rfl
     rw[pf];generalize upd b7 x (.ins C dx [("pairs",.ref G),("words_by_sign",.ref J),("signs_by_word",.ref Z),("begun",.ref d3)])=H12 at a0 c5 c0 d7;refine{_,rfl,x,C,dx,_,_,rfl,a0.ex,CT.cl,CT.n_pairs,rfl,G,rfl,{_,SqT.of a0.etp},U9 (n:=B.length)
      (λj ys O=>∃ts:List Addr,ys=ts.map V.ref/\ts.length=j/\Same H12 O/\Paired (λt(e:PK3)=>O t=some (.tup [.int (e.p.2.length:Int),.bl true])) ts (B.take j)) {[],rfl,rfl,.refl _,by rw[B7];exact .nil} ?_ (Zi ()) ?_ ?_ ?_ ?_}
     .rintro j ys O ⟨ts,rfl,rfl,_⟩;rw[Ja];exact Ji _
     .rintro j ys O hj ⟨ts,rfl,rfl,sn,_⟩;exact e0 _ _ (sn _ _ a0.etp) hj
     .rintro ys O ⟨ts,rfl,_,sn,_⟩;exact stop6 _ (sn _ _ a0.etp)
     .rintro j ys O hj ⟨ts,rfl,rfl,sn,pn⟩ y H' hy;let⟨rfl,rfl⟩:=a4 _ _ _ _ hj (sn _ _ a0.etp) hy;let⟨t,ev,b,cw⟩:=(a0.at_ _ (Js hj)).tk sn.tk;exists t,_,ev,SqT.of b,rfl,_,·,_,·,rfl,?_;exists ·,_,·,.inr {_,SqT.of cw,rfl},by show 2<=Ca;decide,λq hq=>?_;exists ts++[q],by rw[Jj];rfl,by rw[Jc];rfl,sn.trans (Zc hq),?_;rw[Jd hj];refine L2.Paired.snoc ?_ ?_
      .rw[Ja];exact Ze
      .exact L2.Paired.mapP pn λ_ _ z=>Zc hq _ _ z
     .rintro ys O ⟨ts,rfl,lt,sn,pn⟩ q3 f0;rw[Gb]at pn;let b3:=sn.trans (Zc (o:=.lst (ts.map V.ref)) f0);let a5:=Paired.mapP pn λ_ _ z=>Zc (o:=.lst (ts.map V.ref)) f0 _ _ z;let eq3:(upd O q3 (.lst (ts.map V.ref))) q3=_:=Ze;let g4:=a0.same b3;let c4:=b3 _ _ c5;let b9:=b3 _ _ c0;let d6:=b3 _ _ d7;generalize upd O q3 (.lst (ts.map V.ref))=H13 at g4 c4 b9 d6 a5 eq3;exists q3,_,((B.map λe=>(e.p.2.length:Int)).map λz=>((Cz z:Key),V.bl true)).map (λz=>(kV z.1,z.2)),.dK [],rfl,.inl eq3,?_,.inl rfl,λd5 b4=>{_,Zap _ [] ?_,?_}
      .rw[Ju,Ju];exact Sh (λt e z=>{t,rfl,SqT.of z}) a5
      .rw[Bf,Ja,Ja];exact Gm (by lia:0+B.length<64) (show 64<=Ca by decide)
      let⟨ns,j5,nd,mem⟩:=Qw (B.map λe=>(e.p.2.length:Int)) [] [] rfl .nil;let i2:=Ze9 ((B.map λe=>(e.p.2.length:Int)).map λz=>((Cz z:Key),V.bl true)) [];let g3:=g4.same (Zc (o:=.dK (Xf [] ((B.map λe=>(e.p.2.length:Int)).map λz=>((Cz z:Key),V.bl true)))) b4);let c3:=Zc (o:=.dK (Xf [] ((B.map λe=>(e.p.2.length:Int)).map λz=>((Cz z:Key),V.bl true)))) b4 _ _ c4;let b8:=Zc (o:=.dK (Xf [] ((B.map λe=>(e.p.2.length:Int)).map λz=>((Cz z:Key),V.bl true)))) b4 _ _ b9;let d0:=Zc (o:=.dK (Xf [] ((B.map λe=>(e.p.2.length:Int)).map λz=>((Cz z:Key),V.bl true)))) b4 _ _ d6
      let e5:(upd H13 d5 (.dK (Xf [] ((B.map λe=>(e.p.2.length:Int)).map λz=>((Cz z:Key),V.bl true))))) d5=_:=Ze;generalize upd H13 d5 (.dK (Xf [] ((B.map λe=>(e.p.2.length:Int)).map λz=>((Cz z:Key),V.bl true))))=H14 at g3 c3 b8 d0 e5;exists d5,_,ns,rfl,e5,j5,by rw[Ja,Ja,Bf]at i2;lia,λD5 a1 j1 pN g5=>?_;exists D5,·,.inl {SqL.of Ze,λd4 i8=>?_};let sz:=(Zc (o:=.lst (a1.map V.int)) j1).trans (Zc (o:=.tup (a1.map V.int)) i8);let a2:=g3.same sz;let a8:=sz _ _ c3;let a7:=sz _ _ b8;let b1:=sz _ _ d0;let a6:(upd (upd H14 D5 (.lst (a1.map V.int))) d4 (.tup (a1.map V.int))) d4=_:=Ze
      generalize upd (upd H14 D5 (.lst (a1.map V.int))) d4 (.tup (a1.map V.int))=H15 at a2 a8 a7 b1 a6;exists ·,x,C,dx,·,a2.ex,CT.cl,CT.n_word_sizes,(by show 4<1000;decide),?_;let a3:=a2.fld (fs':=[("pairs",.ref G),("words_by_sign",.ref J),("signs_by_word",.ref Z),("begun",.ref d3),("word_sizes",.ref d4)]);let g6:putF (C8 "word_sizes") (V.ref d4) [("pairs",.ref G),("words_by_sign",.ref J),("signs_by_word",.ref Z),("begun",.ref d3)]=([("pairs",.ref G),("words_by_sign",.ref J),("signs_by_word",.ref Z),("begun",.ref d3),("word_sizes",.ref d4)]:List (Str×V)):=by rfl
      rw[g6];let g0:=(Zo (a:=x) (o:=HO.ins C dx [("pairs",.ref G),("words_by_sign",.ref J),("signs_by_word",.ref Z),("begun",.ref d3),("word_sizes",.ref d4)]) (X5 a8 a2.ex λz=>by cases z)).trans a8;let f5:=(Zo (a:=x) (o:=HO.ins C dx [("pairs",.ref G),("words_by_sign",.ref J),("signs_by_word",.ref Z),("begun",.ref d3),("word_sizes",.ref d4)]) (X5 a7 a2.ex λz=>by cases z)).trans a7;let g1:=(Zo (a:=x) (o:=HO.ins C dx [("pairs",.ref G),("words_by_sign",.ref J),("signs_by_word",.ref Z),("begun",.ref d3),("word_sizes",.ref d4)]) (X5 b1 a2.ex λz=>by cases z)).trans b1
      let f3:=(Zo (a:=x) (o:=HO.ins C dx [("pairs",.ref G),("words_by_sign",.ref J),("signs_by_word",.ref Z),("begun",.ref d3),("word_sizes",.ref d4)]) (X5 a6 a2.ex λz=>by cases z)).trans a6;refine k _ (B.map (·.p)) hS i5 {dx,G,J,Z,d3,d4,a3.ex,{{_,a3.etp,Zn7 a3.at_},{_,g0,wb _ a3.at_},{_,f5,sb},{k3,g1,?_},{a1,f3,Zhf nd (λn=>by rw[mem,Ju];simp only[List.not_mem_nil,false_or];rfl) pN g5}},i1,i0,e8} a3.tb a3.g;rw[Ju];exact j0
def Jca(T:Txt mg){C:Addr}(Y:CodeT K C)(F:Fun K "word" "Code.word" Uy f fd):FnOk P w K mg base CX0 1 f fd q20 (Znp C):=by
 refine F.ok Jbc (λvs H Q E h=>?_) (λa0 A outer s H vs Q E hr h=>?_)
 .let⟨x,S,z,rfl,_⟩:=h;rfl
 .let⟨x,S,z,rfl,⟨dx,tp,d1,d2,d3,d4,ex,ci⟩,k1,Z⟩:=h;let⟨k3,e3,O,J⟩:=ci.wb;let SC:=Jbc;let B:=Xy hr;exists _,(Zg (Zy (Zes B (Wa (pv 0) rfl) (pv 1) ⟨rfl,rfl,rfl,rfl⟩))),?_;exists ·,x,C,dx,_,·,ex,Y.cl,Y.n_words_by_sign,rfl,d1,rfl,.inl {_,.inl e3},·,_,DGet.k (k:=Cz z) e3,?_
  by_cases y:∃p∈S,p.1=z
  .let⟨p,y,e⟩:=y;let⟨t,h1,h2⟩:=O p y;rw[e]at h1;rw[h1];exact k1 p y e t h2
  .rw[J z λp G e=>y ⟨p,G,e⟩];exact Z λp G e=>y ⟨p,G,e⟩
def Jbz(T:Txt mg){C:Addr}(Z:CodeT K C)(F:Fun K "sign" "Code.sign" Uz f fd):FnOk P w K mg base CX0 1 f fd q24 (Znq C):=by
 refine F.ok Jbx (λvs H Q E h=>?_) (λa0 A outer s H vs Q E hr h=>?_)
 .let⟨x,t,S,u,rfl,_⟩:=h;rfl
 .let⟨x,t,S,u,rfl,⟨dx,tp,d1,d2,d3,d4,ex,ci⟩,et,k1,k2⟩:=h;let⟨k3,e3,O,J⟩:=ci.sb;let SC:=Jbx;let B:=Xy hr;let Y:H t=some (.tup ((wk u).map kV)):=by rw[Zk2];exact et
  exists _,(Zg (Zy (Zes B (Wa (pv 0) rfl) (pv 1) ⟨rfl,rfl,rfl,rfl⟩))),?_;exists ·,x,C,dx,_,·,ex,Z.cl,Z.n_signs_by_word,rfl,d2,rfl,.inr {_,.inl e3},·,_,DGet.t e3 Y,?_
  by_cases y:∃p∈S,p.2=u
  .let⟨p,y,e⟩:=y;let:=O p y;rw[e]at this;rw[this];exact k1 p y e
  .rw[J u λp G e=>y ⟨p,G,e⟩];exact k2 λp G e=>y ⟨p,G,e⟩
def Jbi(T:Txt mg){C:Addr}(G:CodeT K C)(F:Fun K "live" "Code.live" U0 f fd):FnOk P w K mg base CX0 1 f fd q28 (Zha C):=by
 refine F.ok Jaj (λvs H Q E h=>?_) (λa0 A outer s H vs Q E J h=>?_)
 .let⟨x,r,S,ns,rfl,_⟩:=h;rfl
 .let⟨x,r,S,ns,rfl,⟨dx,tp,d1,d2,Z,d4,ex,ci⟩,B,k⟩:=h;let⟨k3,e3,O⟩:=ci.bg;let SC:=Jaj;let y:=Xy J;exists _,(Zg (Zy (Zim (Zoc y (Yr X6 (by rfl) T.b_tuple Ex (Za (pv 1) Zd)) (Wa (pv 0) rfl))))),?_;let Y:H r=some (.tup ((wk ns).map kV)):=by rw[Zk2];exact B
  exists ·,_,·,.inr {SqT.of B,?_};exists ·,x,C,dx,_,·,ex,G.cl,G.n_begun,rfl,Z,·,DGet.t e3 Y,?_;rw[O ns];exact k
theorem Jai(T:Txt mg){C:Addr}(CT:CodeT K C)(F:Fun K "signs" "Code.signs" Vp f fd):FnOk P w K mg base CX0 1 f fd ["self"] (Zec C):=by
 refine F.ok Jcb (λvs H Q E h=>?_) (λa1 A outer s H vs Q E hr h=>?_)
 .let⟨x,S,rfl,_⟩:=h;rfl
 .let⟨x,S,rfl,⟨dx,tp,d1,d2,d3,d4,ex,ci⟩,a0,k⟩:=h;let⟨us,e1,ps⟩:=ci.pr;let SC:=Jcb;let hu:=hr.units;let lu:us.length=S.length:=Paired.length ps;exists _,(Zg (Zy (Zn (Zgf (K:=K) rfl) (by rfl) T.b_sorted C2 (Za (Yi (T:=q26) (cs:=[]) rfl (CScope.ok (by kernel_rfl)) (R7 (Wa (pv 0) rfl)) (λ_ _ _ _=>(Xq (n:=2) rfl (Zu (Zl (i:=0) (Ys (by kernel_rfl)) rfl (Ci rfl) (Cy rfl)) (Zu (Zl (i:=1) (Ys (by kernel_rfl)) rfl (Ci rfl) (Cy rfl)) Yw)) (by rfl))) (λ_ _ _ _=>Ym) (λ_ _ _ _=>(pv 0)) (Vz (Z8 nofun (Z8 nofun Wd)))) Zd)))),?_
  refine{_,rfl,x,C,dx,_,_,rfl,ex,CT.cl,CT.n_pairs,rfl,tp,rfl,{_,SqT.of e1},U9 (n:=S.length)
   (λj ys B=>ys=((S.take j).map (·.1)).map V.int/\B=H) {by rw[B7];rfl,rfl} ?_ (Zi ()) ?_ ?_ ?_ ?_}
  .rintro j ys B ⟨rfl,rfl⟩;rw[Ja,Ja,Jz];exact Nat.min_le_left _ _
  .rintro j ys B Y ⟨rfl,rfl⟩;exists _,_,SqT.of e1,Jb ()
  .rintro ys B ⟨rfl,rfl⟩;exact{_,SqT.of e1,()}
  .rintro j ys B Y ⟨rfl,rfl⟩ y H' hy;let⟨rfl,J⟩:=hy;let J:=J _ (SqT.of e1);let G:j<us.length:=by lia
   rw[Jb G]at J;let⟨t,tw,ev,b,cw⟩:=Paired.at ps G Y;let ey:y=.ref t:=by rw[<-Jaa J];exact ev
   exists t,_,ey,SqT.of b,rfl,_,·,_,·,rfl,?_;exists ·,?_,rfl;rw[Jd Y,Jj,Jj];rfl
  .rintro ys B ⟨rfl,rfl⟩ q hq;rw[Gb];refine{q,S.map (·.1),rfl,SqL.of Ze,by rw[Ja];exact a0,λD ns Z pm pw=>?_};let O:B D=none:=by
    by_cases z:D=q
    .rw[z];exact hq
    .rw[Zo z]at Z;exact Z
   exact k D _ ns O ((Zc hq).trans (Zc Z)) Ze pm pw
theorem Jdn(T:Txt mg)(F:Fun K "_law_from" "_law_from" Jaz f fd):FnOk P w K mg base CX0 1 f fd q10 Znu:=by
 refine F.ok Jbr (λvs H Q E h=>?_) (λa4 A outer s H vs Q E hr h=>?_)
 .let⟨ta,ra,L,ns,pl,rfl,_⟩:=h;rfl
 .let⟨ta,ra,L,ns,pl,rfl,⟨vs,et,pt⟩,lL,er,a1,k1,k2⟩:=h;let SC:=Jbr;let hu:=hr.units;let lv:=Paired.length pt;refine{_,(Zb (Y1 Co rfl (Z5 (pv 0)) (Xq (n:=2) rfl (Zu (Zl (i:=3) SC.nd rfl (Ci rfl)) (Zu (Zl (i:=4) SC.nd rfl (Ci rfl)) Yw)) (by rfl))
 (Zg (Yz (Z1 (Zeu hu) (Yr X6 (by rfl) T.b_tuple Ex (Za (Yg Uv (pv 1) (Yn (pv 2)) (Yn (Z0 Vt (pv 2) (Zn Xa (by rfl) T.b_len Jab (Za (pv 4) Zd))))) Zd)) (pv 4) (Ya _))
 (Zg (Zy (Yc (Za (pv 3) (Za (Z0 Vt (pv 2) (Zn Xa (by rfl) T.b_len Jab (Za (pv 4) Zd))) Zd)))))
 Z2)))
 (Zg (Zy W1))),?_}
  exists ·,ta,rfl,{_,SqL.of et},Ze6 (xs:=vs) (λi σ H'=>∃v3 v4,σ=[some (.ref ta),some (.ref ra),some (.int pl),v3,v4]/\Same H H'/\∀j(hj:j<L.length),j<i->¬ L[j].2<+:ns.drop pl) {_,_,rfl,.refl _,λj _ z=>Dx z (Bg _)} ?_ ?_ ?_
  .rintro i σ H1 hi ⟨v3,v4,rfl,B,_⟩;exact SqL.of (B _ _ et)
  .rintro i v σ H1 hv ⟨v3,v4,rfl,B,no⟩;let hi:i<vs.length:=(Jg.mp hv).1;let hi2:i<L.length:=by lia
   let⟨t,tw,ev,e1,e2⟩:=L2.Paired.at pt hi hi2;let a2:v=.ref t:=by rw[<-ev];exact(Jg.mp hv).2.symm
   subst a2;let O:(L[i].2.map V.int).length=L[i].2.length:=Ja _;refine{t,_,rfl,SqT.of (B _ _ e1),rfl,_,_,rfl,_,_,rfl,rfl,?_};refine{_,rfl,_,rfl,_,rfl,_,rfl,_,rfl,_,_,rfl,.inr {_,SqT.of (B _ _ e2),rfl},_,_,rfl,rfl,_,rfl,ra,_,rfl,SqL.of (B _ _ er),λq hq=>?_};let ec:cutV (ns.map V.int) (some (pl:Int)) (some ((pl:Int)+(((L[i].2.map V.int).length:Nat):Int)))=((ns.drop pl).take L[i].2.length).map V.int:=by
    rw[O];exact Zro ns a1
   rw[ec];exists q,·,.inl {SqL.of Ze,λt2 Y=>?_};let y:(ns.drop pl).take L[i].2.length=L[i].2↔L[i].2<+:ns.drop pl:={λe=>e ▸ F3 _ _,λz=>(List.prefix_iff_eq_take.mp z).symm};generalize (ns.drop pl).take L[i].2.length=u at y Y;let J:=(B.trans (Zc hq)).trans (Zc (o:=.tup (u.map V.int)) Y);let Z:(upd (upd H1 q (.lst (u.map V.int))) t2 (.tup (u.map V.int))) t2=_:=Ze;generalize upd (upd H1 q (.lst (u.map V.int))) t2 (.tup (u.map V.int))=H2 at J Z;exists ·,_,_,DV.tup (SqT.of Z) (Ug _),DV.tup (SqT.of (J _ _ e2)) (Ug _),(To _).shaped nofun,(To _).shaped nofun,·,?_
   rw[Zjz];refine ite2 (λhz=>?_) (λhz=>?_)
   .let G:=y.mp (Dw hz);exists ·,·,·,_,·,.inr {_,SqT.of (J _ _ e2),rfl},_,·,rfl,by show 2<=Ca;decide,λt3 a0=>?_;refine k1 _ (Js hi2) G t3 _ (J.trans (Zc a0)) ?_;rw[Ze,O,Fs]
   .exists _,·,J,λj hj a3 G=>?_
    by_cases hj2:j<i
    .exact no j hj hj2 G
    .let:j=i:=by lia
     subst this;exact Dy (Fn _ ▸ hz) (y.mpr G)
  .rintro σ H1 ⟨v3,v4,rfl,B,no⟩;refine k2 (λp G hq=>?_) H1 B;let⟨j,hj,rfl⟩:=Gh G;exact no j hj () hq
open L3
theorem Zrn(xs:List τ)(a:Int)(h0:0<=a)(h1:a<=xs.length):cut xs (some a) none++cut xs none (some a)=xs.drop a.toNat++xs.take a.toNat:=by
 obtain⟨j,rfl⟩:∃j:Nat,a=j:={a.toNat,()};rw[T8,Zdi,G2]
theorem Zpr(b c:Int)(y:0<=c)(n:Nat):((Cv n).map λj:Nat=>b+(1+c)*(j:Int)).Nodup:=by
 refine Jr.mpr ((List.pairwise_lt_range (n:=n)).imp λ{i j}h e=>?_);let h1:(1+c)*(i:Int)<(1+c)*(j:Int):=Int.mul_lt_mul_of_pos_left () ();lia
theorem Jbu(T:Txt mg){C:Addr}(G:Cal P w K mg base "_law_draw" 1 q00 (spOf ⟨C,K⟩ dDraw))(F:Fun K "_law_signs" "_law_signs" Jcv f fd):FnOk P w K mg base CX0 2 f fd q00 (spOf ⟨C,K⟩ dSigns):=by
 refine L3.Fun.ok3 F Jcq (λds M K3 h=>?_) (λc0 A outer s H E hr=>?_)
 .let⟨k,m,rfl,_⟩:=h;rfl
 .let SC:=Jcq;let hu:=hr.units;let b9:=Xy hr;let J:Room 1 _:=hr.mono nofun;refine{_,_,(Zb (Zq (i:=2) SC.nd rfl (Cy rfl) (Z0 (Yp (K':=K) rfl) (Z0 Zd5 (Zv G J rfl (Za (pv 0) (Za Zf Zd))) (Z0 Zio Zf Zf)) (Zv G J rfl (Za (pv 0) (Za Zf Zd)))))
 (Zb (Zq (i:=3) SC.nd rfl (Cy rfl) (Z0 (Yp (K':=K) rfl) Zf (Z3 (Yl (K':=K) rfl) (Y6 (Za Zf (Za (Zv G J rfl (Za (pv 0) (Za Zf Zd))) (Za (Zv G J rfl (Za (pv 0) (Za (Z0 Zio Zf Zf) Zd))) Zd)))) (Zv G J rfl (Za (pv 0) (Za Zf Zd))) (λ_ _=>rfl))))
 (Zb (Vr (i:=4) SC.nd rfl rfl (T:=["_law_k"]) (cs:=[2,3]) rfl (CScope.ok (by kernel_rfl)) (Yq rfl T.b_range (Za (pv 1) Zd)) (λ_ _ _ _=>(Zl (i:=0) (Ys (by kernel_rfl)) rfl (Ci rfl) (Cy rfl))) (λ_ _ _ _=>Ym) (λ_ _ _ _=>(Z0 (Yp (K':=K) rfl) (pv 1) (Z0 Zd5 (pv 2) (pv 0)))) (Yt nofun))
 (Zb (Zq (i:=5) SC.nd rfl (Ci rfl) (Z0 Wb (Zv G J rfl (Za (pv 0) (Za Zf Zd))) (Zn (Qz rfl) (by rfl) T.b_max K8 (Za Zf (Za (pv 1) Zd)))))
 (Zb (Zq (i:=4) SC.nd rfl (Ci rfl) (Z0 (Yp (K':=K) rfl) (Yg (P4 (K':=K) rfl) (pv 4) (Yn (pv 5)) Y2) (Yg (P4 (K':=K) rfl) (pv 4) Y2 (Yn (pv 5)))))
 (Zb (Yz (Z1 (Zay (K':=K) rfl hu) (Zv G J rfl (Za (pv 0) (Za Zf Zd))) Zf (Ya _))
 (Zg (Zy (Zn8 (pv 4) (Yn (Zt7 Znb Zf)) (λ_ _=>{_,rfl}))))
 Z2)
 (Zg (Zy (pv 4))))))))),λ_=>(Zw (by symm) (Zw (by symm) (Zw (by symm) (Zw (by symm) (Zw (by symm) (Zw (Uw (by symm) (Wn (Zw0 (Zr 4) (by symm))) W0) (Wn (Zr 4)))))))),λds M Kk hM hD h=>?_}
  let⟨k,m,rfl,h⟩:=h;let⟨B,⟨m0,m1⟩,kk⟩:=h;exists ·,k,500,rfl,B,⟨nofun,nofun⟩,λr1 b8 b7=>?_;exists _,·,rfl,⟨nofun,nofun,nofun⟩,.inl {(),()},?_;exists ·,k,1000000,rfl,B,⟨nofun,nofun⟩,λr2 b6 b5=>?_;exists ·,k,40,rfl,B,⟨nofun,nofun⟩,λr3 b4 b3=>?_;exists ·,_,·,rfl,⟨nofun,nofun,nofun⟩,k,·,B,⟨nofun,nofun⟩,λO b2 a0=>?_;exists(show 3<=Ca by decide),·,k,3,rfl,B,⟨nofun,nofun⟩,λZ b1 a8=>?_;let h5:Z.toNat < [0,r3,O].length:=by show _<3;lia
  refine{_,_,_,rfl,rfl,Yu (f:=D.int) (as:=[0,r3,O]) (j:=Z.toNat) () h5,?_};let a3:O<10000000:=a0;obtain⟨hc,a2⟩:0<=[0,r3,O][Z.toNat]/\[0,r3,O][Z.toNat]<10000000:=by
   let hv:=Js h5;simp only[J9,List.mem_nil_iff,or_false]at hv;rcases hv with z|z|z<;>rw[z]<;>constructor<;>lia
  generalize [0,r3,O][Z.toNat]=c at hc a2;let lm:∀ns:List Int,(ns.map D.int).length=ns.length:=λns=>Ja _;exists ·,m,rfl,{(),()},?_,λj ys M'=>M=M'/\ys=((Cv j).map λj:Nat=>(r1*10 ^ Int.toNat 6+r2)+(1+c)*(j:Int)).map .int,λ_ _ _ _ _=>trivial,⟨rfl,rfl⟩,?_,?_
  .show m.toNat<=Ca;exact Zi ()
  .rintro j x ys _ hj rfl ⟨rfl,rfl⟩;let hj:j<m.toNat:=hj;exists ·,·,·,.inl {(),()},rfl,?_;rw[Dh,Jj,Jj,L8];rfl
  rintro ys _ ⟨rfl,rfl⟩;generalize r1*10 ^ Int.toNat 6+r2=b;let nd:=Zpr b c hc m.toNat;let ln:((Cv m.toNat).map λj:Nat=>b+(1+c)*(j:Int)).length=m.toNat:=by rw[Ja,Bo]
  rw[show(Zly 0 m.toNat).n=m.toNat from rfl];generalize (Cv m.toNat).map (λj:Nat=>b+(1+c)*(j:Int))=ss at nd ln;refine{_,rfl,k,60,rfl,B,⟨nofun,nofun⟩,λY a7 a6=>?_};refine{_,rfl,_,_,rfl,_,_,rfl,rfl,by split<;>lia,?_};show uG 5 (D.int (Y % (if m > 1 then m else 1))) _ _ _;let ha:0<=Y % (if m > 1 then m else 1)/\Y % (if m > 1 then m else 1)<=ss.length:=by
   split
   .exact{Bq _ (),by have:=Be Y (show 0<m by lia);lia}
   .constructor<;>lia
  generalize Y % (if m > 1 then m else 1)=a at ha;let y:(ss.drop a.toNat++ss.take a.toNat).Nodup:=(G7.trans (by rw[J0])).nodup_iff.mpr nd;let a1:(ss.drop a.toNat++ss.take a.toNat).length=m.toNat:=by rw[Jc,Ga,Jz];lia
  exists ·,·,·,·,·,·,·,·,_,·,rfl,?_,?_
  .let h1:(cut (ss.map D.int) (some a) none).length<=(ss.map D.int).length:=by unfold cut;rw[List.length_take,List.length_drop];lia
   let h2:(cut (ss.map D.int) none (some a)).length<=(ss.map D.int).length:=by unfold cut;rw[List.length_take,List.length_drop];lia
   rw[lm]at h1 h2;exact Zi ()
  rw[U7,U7,<-Jj,Zrn ss a ha.1 ha.2];generalize ss.drop a.toNat++ss.take a.toNat=zs at y a1;exists ·,k,2,rfl,B,⟨nofun,nofun⟩,λr7 a5 a4=>Vc W3 (a:=r7) (b:=0) {_,rfl,ite2 (λ_=>?_) (λ_=>{_,rfl,.inl (kk zs y ())})};exists ·,·,·,rfl,·,.inl ?_;rw[<-M7];exact kk _ ((Mm zs).nodup_iff.mpr y) (by rw[List.length_reverse];lia)
open L3
def N7{E:List (Option Int)}{i:Nat}(hi:i<E.length){a b:List (Option Int)}(h:knF S (E.take i)=some a)(h1:kn1 S E[i]=some b):knF S (E.take (i+1))=some (a++b):=by
 rw[Jd hi,Sk,h,N8,h1]
def Zje{E:List (Option Int)}{i:Nat}(hi:i<E.length)(h1:kn1 S E[i]=none):knF S E=none:=by
 let e:E=E.take (i+1)++E.drop (i+1):=(J0 _ _).symm;rw[e,Sk,Jd hi,Sk,N8,h1];cases knF S (E.take i)<;>rfl
theorem Po(y:Fits S):∀{E kn:List (Option Int)},knF S E=some kn->kn.length<=4*E.length
 |[],kn,h=>by cases h;exact Ji _
 |e::E,kn,h=>by
  let h:(match kn1 S e,knF S E with|some a,some b=>some (a++b)|_,_=>none)=some kn:=h;cases h1:kn1 S e with
  |none=>rw[h1]at h;cases h
  |some a =>
   cases h2:knF S E with
   |none=>rw[h1,h2]at h;cases h
   |some b =>
    rw[h1,h2]at h;cases h;let:=Po y h2;let la:a.length<=4:=by
     cases e with
     |none=>cases h1;decide
     |some s =>
      let h1:(S.find? λp=>decide (p.1=s)).map (λp=>p.2.map some)=some a:=h1;let⟨p,B,rfl⟩:=G5.mp h1;rw[Ja];exact(y.2 p (List.mem_of_find?_eq_some B)).2
    rw[Jc,Jy];lia
theorem Jay(T:Txt mg){C:Addr}(a0:Met P w K mg base C "word" 1 q20 (spOf ⟨C,K⟩ dWord))(F:Fun K "known_bytes" "known_bytes" W5 f fd):FnOk P w K mg base CX0 2 f fd q27 (spOf ⟨C,K⟩ dKnown):=by
 refine L3.Fun.ok3 F Jcw (λds M K3 h=>?_) (λa3 A outer s H E Z=>?_)
 .let⟨S,d,E,rfl,_⟩:=h;rfl
 .let SC:=Jcw;let hu:=Z.units;let a2:=Xy Z;let a1:Room 1 _:=Z.mono nofun;refine{_,_,(Zb (Zq (i:=2) SC.nd rfl (Ci rfl) (Y6 Zd))
 (Zb (Y1 Co rfl (Z5 (pv 1)) (Zl (i:=3) SC.nd rfl (Ci rfl))
 (Zb (Zq (i:=4) SC.nd rfl (Ci rfl) (Tx (X9 (Vs (pv 3))) (Yc (Za W1 Zd)) (Zl8 (pv 0) a0 a1 (Za (pv 3) Zd))))
 (Zb (Yz (X9 (Vs (pv 4)))
 (Zg (Zy W1))
 Z2)
 (Zg (U3 (Zfx Ed Hw Mn Zf2 (pv 2) (Za (pv 4) Zd)))))))
 (Zg (Zy (pv 2))))),λ_=>(Zw (Y7 (Za4 X4) (s_g 2)) (Zw (Uj (s_il (Zr 1)) (s_g 3) (Zw (Y7 (s_if (by symm) (by symm) (Rv (λ_ _ _ _ _=>rfl) (Zr 0) (by symm))) (s_g 4)) (Zw (by symm) (Zhr (Zhq (Zr 2) (by symm)))))) (Wn (Zr 2)))),λds M Kk hM hD h=>?_}
  let⟨S,d,E,rfl,h⟩:=h;let⟨e1,⟨fr,fi,hE⟩,kN,kS⟩:=h;exists Ge _,·,_,Zoe (Vv e1).2.1,λi ρ J=>∃Y O kn,ρ=[some (.code S),some d,some (.cell M.length),Y,O]/\J=M++[.lst (kn.map oD)]/\knF S (E.take i)=some kn,λi ρ J _⟨_,_,kn,_,z,_⟩=>by rw[z];exact Zoe (Vv e1).2.1,{_,_,[],rfl,rfl,rfl},?_,?_
  .rintro i x ρ J hi hx ⟨Y,O,kn,rfl,rfl,B⟩;let⟨y,rfl⟩:=Z4 hx;let hl:kn.length<=4*50:=Jx (Po fi B) (Nat.mul_le_mul_left 4 (Jx (List.length_take_le _ _) ()));exists ·,?_;cases he:E[i]with
   |none =>
    exists ·,iteT {(show 1<=Ca by decide),?_};exists ·,·,iteF ?_;exists ·,W9 (Zbf Yj),·,M.length,[.non],·,rfl,Yj,Zi (by rw[Ja];show kn.length+1<=_;lia),.inl {_,_,kn++[none],rfl,?_,N7 y B (by rw[he];rfl)};rw[Y5,Jj];rfl
   |some s =>
    exists ·,iteF {_,rfl,⟨S,rfl⟩,_,rfl,S,s,rfl,λp G e=>?_,λhn=>?_}
    .let lp:=(fi.2 p G).2;exists ·,·,iteF ?_;exists ·,W9 (Zbf Yj),·,M.length,p.2.map .int,·,rfl,Yj,Zi (by rw[Ja,Ja];lia),.inl {_,_,kn++p.2.map some,rfl,?_,N7 y B (by rw[he,<-e];exact N9 fr G)};rw[Y5,Jj,Ju];rfl
    .exists ·,·,iteT ?_;refine Zao (Go _ _) hM Q1 (kN (Zje y ?_));rw[he];show(S.find? λp=>decide (p.1=s)).map _=none;rw[Ds.mpr λp G z=>hn p G (Dw z)];rfl
  .rintro ρ J ⟨Y,O,kn,rfl,rfl,B⟩;rw[show Ee _ E=E from by rw[show(List.map oD E).length=E.length from Ja _];exact Gb]at B;exists ·,.inl (kS kn B)
open L3
def Zm3{p:Nat}{b:Int}{o:Option Int}(B:kn[p]?=some o) :
  ((o.isSome=true/\o≠some b)->bt kn S p sw b=none)/\(¬ (o.isSome=true/\o≠some b)->(((Xv kn (p+1-(sw++[b]).length) (sw++[b])).any (λu=>decide (IsWd S u))=true->bt kn S p sw b=none) /\
   ((Xv kn (p+1-(sw++[b]).length) (sw++[b])).any (λu=>decide (IsWd S u))=false->bt kn S p sw b=some (((Xv kn (p+1-(sw++[b]).length) (sw++[b])).find? λu=>decide (Live S u)).getD [])))):=by
 unfold bt;rw[B]
 try dsimp only
 exists λh=>D7 (.inl h),λh=>{λz=>D7 (.inr z),λz=>D6 λy=>?_};rcases y with y|y
 .exact h y
 .rw[z]at y;cases y
theorem Qu(q:τ->Bool):∀xs:List τ,xs.find? q=(xs.filter q)[0]?
 |[]=>rfl
 |x::xs=>by
  rw[Gz,Fc];cases q x with
  |true=>rfl
  |false=>exact Qu q xs
theorem Jbp(T:Txt mg){C:Addr}(a4:Met P w K mg base C "sign" 1 q24 (spOf ⟨C,K⟩ dCSign))(a3:Met P w K mg base C "live" 1 q28 (spOf ⟨C,K⟩ dLiveT))(F:Fun K "byte_taken" "byte_taken" Vn f fd):FnOk P w K mg base CX0 2 f fd q09 (spOf ⟨C,K⟩ dByteT):=by
 refine L3.Fun.ok3 F Jan (λds M K3 h=>?_) (λa8 A outer s H E Z=>?_)
 .let⟨S,d,kn,p,sw,b,rfl,_⟩:=h;rfl
 .let SC:=Jan;let hu:=Z.units;let a6:=Xy Z;let a2:Room 1 _:=Z.mono nofun;let a1:Room 1 _:=Z.mono nofun;refine{_,_,(Zb (Yz (PW.pt (Zn4 (X9 (Nr (Z3 (Yl (K':=K) rfl) (pv 1) (pv 2) (λ_ _=>rfl)))) (Zif (Z1 (Zfo (K':=K) rfl hu) (Z3 (Yl (K':=K) rfl) (pv 1) (pv 2) (λ_ _=>rfl)) (pv 4) (Ya _)))))
 (Zg (Zy W1))
 Z2)
 (Zb (Zq (i:=5) SC.nd rfl (Cy rfl) (Z0 (Zo1 (K':=K) rfl) (pv 3) (Yc (Za (pv 4) Zd))))
 (Zb (Vr (i:=6) SC.nd rfl rfl (T:=["skip"]) (cs:=[5,1,2]) rfl (CScope.ok (by kernel_rfl)) (Yq rfl T.b_range (Za (Zn (Yy (K:=K) rfl) (by rfl) T.b_len Jab (Za (pv 5) Zd)) Zd)) (λ_ _ _ _=>(Zl (i:=0) (Ys (by kernel_rfl)) rfl (Ci rfl) (Cy rfl))) (λ_ _ _ _=>(W6 (X9 (Vs (Z3 (Yl (K':=K) rfl) (pv 2) (Z0 (Yp (K':=K) rfl) (Z0 Zet (Z0 (Yp (K':=K) rfl) (pv 3) Zf) (Zn (Yy (K:=K) rfl) (by rfl) T.b_len Jab (Za (pv 1) Zd))) (pv 0)) (λ_ _=>rfl)))))) (λ_ _ _ _=>(Yg (P4 (K':=K) rfl) (pv 1) (Yn (pv 0)) Y2)) (Yt nofun))
 (Zb (Yz (Sz (Zn (Zoo (K:=K) rfl rfl) (by rfl) T.b_any PyProof.Rows.boot_any (Za (Yi (T:=["rest"]) (cs:=[0]) rfl (CScope.ok (by kernel_rfl)) (Z5 (pv 6)) (λ_ _ _ _=>(Zl (i:=0) (Ys (by kernel_rfl)) rfl (Ci rfl) (Cy rfl))) (λ_ _ _ _=>Ym) (λ_ _ _ _=>(Zim (Nr (Zl8 (pv 1) a4 a2 (Za (pv 0) Zd))))) (Yt nofun)) Zd)))
 (Zg (Zy W1))
 Z2)
 (Zb (Vr (i:=7) SC.nd rfl rfl (T:=["rest"]) (cs:=[0]) rfl (CScope.ok (by kernel_rfl)) (Z5 (pv 6)) (λ_ _ _ _=>(Zl (i:=0) (Ys (by kernel_rfl)) rfl (Ci rfl) (Cy rfl))) (λ_ _ _ _=>(W6 (Sz (Zl8 (pv 1) a3 a1 (Za (pv 0) Zd))))) (λ_ _ _ _=>(pv 0)) (Yt nofun))
 (Zg (Zy (Tx (Z1 Nx (Zn (Yy (K:=K) rfl) (by rfl) T.b_len Jab (Za (pv 7) Zd)) Zf (Ya _)) (Z3 (Yl (K':=K) rfl) (pv 7) Zf (λ_ _=>rfl)) (Yc Zd))))))))),λ_=>(Zw (by symm) (Zw (Y7 (s_op Zts (Zr 3) (by symm)) (s_g 5)) (Zw (by symm) (Zw (Uw (s_b (s_cb Ztr (Ye (Vm (s_il (Zr 6)) (s_g 0) Um (Zny (Rv (λ_ _ _ _ _=>rfl) (Zr 1) (by symm)))) X4))) (Wn Zp3) W0) (Zw (Y7 (Vm (s_il (Zr 6)) (s_g 0) (s_b (Rv (λ_ _ _ _ _=>rfl) (Zr 1) (by symm))) (Zr 0)) (s_g 7)) (by symm)))))),λds M Kk hM hD h=>?_}
  let⟨S,d,kn,p,sw,b,rfl,h⟩:=h;let⟨e2,⟨hp,hs,hn⟩,kN,kS⟩:=h;let eo:kn[p]?=some kn[p]:=Jb hp;let⟨c1,c2⟩:=Zm3 (S:=S) (sw:=sw) (b:=b) eo;generalize ho:kn[p]=o at eo c1 c2;let Y:L2.atI (kn.map oD) (p:Int)=some (oD o):=by rw[<-ho];exact Yu (j:=p) rfl hp
  refine Zxm (c:=o.isSome&&decide (o≠some b)) (Zvw (λK z=>{_,rfl,_,rfl,_,_,_,rfl,rfl,Y,_,rfl,?_}) λht K z=>{_,rfl,_,rfl,_,_,_,rfl,rfl,Y,_,rfl,?_}) ?_
  .cases o<;>exact z
  .cases o with
   |none=>cases ht
   |some c =>
    refine Vc W3 (a:=c) (b:=b) {_,rfl,?_};let:(!decide (c=b))=decide (some c≠some b):=by
     by_cases e:c=b
     .rw[e];simp
     .simp[e]
    rw[this];exact z
  refine ite2 (λhz=>?_) (λhz=>?_)
  .rw[Bi]at hz;exact .inl (kN (c1 {hz.1,Dw hz.2}))
  let a0:¬ (o.isSome=true/\o≠some b):=λy=>hz (by rw[Bi];exact{y.1,D8 y.2});let⟨c3,c4⟩:=c2 a0;let lr:(sw++[b]).length=sw.length+1:=by rw[Jc];rfl
  exists ·,·,(show 1<=Ca by decide),sw,[b],e2,rfl,Zi (by show sw.length+1<=_;lia),(λz=>nomatch z),?_;let O:((sw++[b]).map D.int).length=(sw++[b]).length:=Ja _;generalize a5:sw++[b]=row at *
  exists ·,·,(row.length:Int),by rw[O],{(),()},?_;generalize hF:(λk=>decide (kn[p+1-row.length+k]?=some none))=F;let eR:Xv kn (p+1-row.length) row=((Cv row.length).filter F).map row.drop:=by unfold Xv;rw[hF]
  exists ?_,λj ys J=>M=J/\ys=(((Cv j).filter F).map row.drop).map λu=>D.tup (u.map .int),λ_ _ _ _ _=>trivial,⟨rfl,rfl⟩,?_,?_
  .show((row.length:Int)).toNat<=Ca;rw[G2];exact Zi ()
  .rintro j x ys J hj rfl ⟨rfl,rfl⟩;let hj:j<row.length:=by
    let:j<((row.length:Int)).toNat:=hj;rwa [G2]at this
   let hi:p+1-row.length+j<kn.length:=by lia
   refine{_,rfl,_,rfl,_,rfl,_,rfl,_,_,rfl,rfl,_,rfl,_,_,_,rfl,rfl,Yu (f:=oD) (as:=kn) (j:=p+1-row.length+j) (by rw[O];lia) hi,_,rfl,?_};let eF:F j=decide (kn[p+1-row.length+j]=none):=by
    rw[<-hF];simp only[Jb hi,Mj]
   by_cases z:kn[p+1-row.length+j]=none
   .rw[show(oD kn[p+1-row.length+j]).isN=true from by rw[z];rfl];refine iteT {_,rfl,_,rfl,_,rfl,rfl,?_};rw[Dh,De,Jj,Jj,List.filter_cons_of_pos (by rw[eF];exact D8 z),U7,L8,T8];rfl
   .let:(oD kn[p+1-row.length+j]).isN=false:=by
     cases h:kn[p+1-row.length+j]with
     |none=>exact Dx h z
     |some c=>rfl
    rw[this];refine iteF {rfl,?_};rw[Dh,De,Jj,Jj,List.filter_cons_of_neg (by rw[eF];exact λy=>z (Dw y)),Jb9,F6,F6,Gg]
  rintro ys _ ⟨rfl,rfl⟩;let e0:(Zly 0 ((row.length:Int)).toNat).n=row.length:=by show((row.length:Int)).toNat=_;rw[G2]
  rw[e0,<-eR];let lR:(Xv kn (p+1-row.length) row).length<=201:=by
   rw[eR,Ja];exact Jx (Fp _ _) (by rw[Bo];lia)
  generalize a7:Xv kn (p+1-row.length) row=rs at *
  clear hF eR e0 c2 c1;let G:(rs.map λu=>D.tup (u.map .int)).length=rs.length:=Ja _;let eT:rs.take (rs.map λu=>D.tup (u.map .int)).length=rs:=by rw[G,Gb]
  exists ·,·,?_,λi ys J=>M=J/\ys=((rs.take i).map λu=>decide (IsWd S u)).map .bl,λ_ _ _ _ _=>rfl,⟨rfl,rfl⟩,?_,?_
  .show(rs.map λu=>D.tup (u.map .int)).length<=Ca;rw[G];exact Zi ()
  .rintro i x ys _ hi hx ⟨rfl,rfl⟩;let⟨B,rfl⟩:=Z4 hx;let eb:∀c,decide (IsWd S rs[i])=c->((rs.take i).map λu=>decide (IsWd S u)).map D.bl++[.bl c]=((rs.take (i+1)).map λu=>decide (IsWd S u)).map D.bl:=λc e=>by
    rw[Jd B,Jj,Jj,<-e];rfl
   exists ·,⟨S,rfl⟩,·,S,rs[i],rfl,λq hq e=>{rfl,eb _ (D8 ⟨q,hq,e⟩)},λhn=>{rfl,eb _ (D9 λ⟨q,hq,e⟩=>hn q hq e)}
  rintro ys _ ⟨rfl,rfl⟩;rw[show Ee _ rs=rs from eT];exists _,rs.map λu=>decide (IsWd S u),rfl,rfl,·,?_;rw[List.any_map,show(id ∘ λu=>decide (IsWd S u))=λu=>decide (IsWd S u)from rfl];refine ite2 (λhw=>.inl (kN (c3 hw))) (λhw=>?_);let hb:=c4 (Fn _ ▸ hw);exists ·,·,?_,λi ys J=>M=J/\ys=((rs.take i).filter λu=>decide (Live S u)).map λu=>D.tup (u.map .int),λ_ _ _ _ _=>rfl,⟨rfl,rfl⟩,?_,?_
  .show(rs.map λu=>D.tup (u.map .int)).length<=Ca;rw[G];exact Zi ()
  .rintro i x ys _ hi hx ⟨rfl,rfl⟩;let⟨B,rfl⟩:=Z4 hx;exists ·,⟨S,rfl⟩,·,S,rs[i],rfl,·,?_;refine ite2 (λhl=>{_,rfl,rfl,?_}) (λhl=>{rfl,?_})
   .exact(Xz (λu=>decide (Live S u)) _ B true hl).symm
   .exact((Xz (λu=>decide (Live S u)) _ B false (Fn _ ▸ hl)).trans (Gg _)).symm
  rintro ys _ ⟨rfl,rfl⟩;rw[show Ee _ rs=rs from eT];rw[Qu]at hb;generalize (rs.filter λu=>decide (Live S u))=fs at hb;exists ·,·,_,·,rfl,·,?_;cases fs with
  |nil=>exact iteF {Ge _,.inl (kS _ hb)}
  |cons u fs =>
   rw[D8 (by rw[Jl,Jy];lia)];exact iteT {_,rfl,_,_,_,rfl,rfl,Yu (f:=λu:List Int=>D.tup (u.map .int)) (as:=u::fs) (j:=0) rfl (Nat.zero_lt_succ _),.inl (kS _ hb)}
open L3
theorem Jck(T:Txt mg){C:Addr}(V6:Cal P w K mg base "byte_taken" 2 q09 (spOf ⟨C,K⟩ dByteT))(F:Fun K "word_taken" "word_taken" Vl f fd):FnOk P w K mg base CX0 3 f fd q13 (spOf ⟨C,K⟩ dWordT):=by
 refine L3.Fun.ok3 F Jcu (λds M K3 h=>?_) (λa2 A outer s H E Y=>?_)
 .let⟨S,kn,sp,w,rfl,_⟩:=h;rfl
 .let J:=Jcu;let hu:=Y.units;let a1:=Xy Y;let a0:Room 2 _:=Y.mono nofun;refine{_,_,(Zb (Zq (i:=4) J.nd rfl (Ci rfl) (Z3 (Yl (K':=K) rfl) (pv 2) Zf (λ_ _=>rfl)))
 (Zb (Zq (i:=5) J.nd rfl (Ci rfl) (Z3 (Yl (K':=K) rfl) (pv 2) Zf (λ_ _=>rfl)))
 (Zb (Yz (Z1 Nx (Z0 (Yp (K':=K) rfl) (pv 4) (Zn (Yy (K:=K) rfl) (by rfl) T.b_len Jab (Za (pv 3) Zd))) (Zn (Yy (K:=K) rfl) (by rfl) T.b_len Jab (Za (pv 1) Zd)) (Ya _))
 (Zg (Zy W1))
 Z2)
 (Zb (Y1 Co rfl (R7 (pv 3)) (Zl (i:=6) J.nd rfl (Ci rfl))
 (Zb (Zq (i:=5) J.nd rfl (Ci rfl) (Zv V6 a0 rfl (Za (pv 0) (Za (pv 1) (Za (pv 4) (Za (pv 5) (Za (pv 6) Zd)))))))
 (Zb (Yz (X9 (Vs (pv 5)))
 (Zg (Zy W1))
 Z2)
 (Zg (Za8 (i:=4) J.nd rfl (Ci rfl) Zf Pp)))))
 (Zg (Zy (Yc (Za (pv 4) (Za (pv 5) Zd))))))))),λ_=>(Zw (Y7 (s_op Zho (Zr 2) Vk) (s_g 4)) (Zw (Y7 (s_op Zho (Zr 2) Vk) (s_g 5)) (Zw (by symm) (Zw (Uj (s_it (Zr 3)) (s_g 6) (Zw (by symm) (Zw (by symm) (Zhv Vk)))) (Wn (Ztf (by symm))))))),λds M Kk hM hD h=>?_}
  let⟨S,kn,sp,w,rfl,h⟩:=h;let⟨⟨g,lw,hn⟩,kN,kS⟩:=h;let lk:(kn.map oD).length=kn.length:=Ja _;let G:(w.map D.int).length=w.length:=Ja _;exists ·,_,_,·,rfl,rfl,·,_,_,·,rfl,rfl,?_;exists ·,·,·,·,·,_,·,rfl,·,?_;rw[lk,G];refine ite2 (λhz=>.inl (kN ?_)) (λhz=>?_)
  .let hz:=Dw hz;cases e:wt kn S sp w with
   |none=>rfl
   |some q =>
    let⟨a,b⟩:=Xg e g;let:=a.2.1;lia
  let hz:sp.1+w.length<=kn.length:=by have:=Dy (Fn _ ▸ hz);lia
  exists ·,·,λi ρ M'=>∃d O y,ρ=[some (.code S),some (.lst (kn.map oD)),some (.nst (spN sp)),some (wD w),some (.int ((y.1:Nat):Int)),some d,O]/\M=M'/\itOf d=some y.2/\wt kn S sp (w.take i)=some y,λ_ _ _ _ _=>trivial,{_,_,sp,rfl,rfl,rfl,rfl},?_,?_
  .rintro i x ρ _ hi hx ⟨d,O,y,rfl,rfl,ed,hw⟩;let⟨Z,rfl⟩:=Zab hx;let⟨g',hp⟩:=Xg hw g;rw[Jz]at hp;let⟨w1,w2⟩:=Zor Z hw;exists ·,·,·,·,·,S,d,kn,y.1,y.2,w[i],rfl,ed,{(),g'.1,hn},λe=>?_,λB e=>?_
   .exists ·,·,iteT (.inl (kN (w2 e)))
   .exists ·,·,iteF {_,rfl,_,rfl,.inl {_,_,(y.1+1,B),rfl,rfl,Zmm B,?_}};rw[w1,e];rfl
  .rintro ρ _ ⟨d,O,y,rfl,rfl,ed,hw⟩;rw[show Ee _ w=w from by rw[show(List.map D.int w).length=w.length from G];exact Gb]at hw;refine{_,rfl,_,rfl,(show 2<=Ca by decide),spN y,?_,.inl (kS y hw)};show(match niOf (.int _),Zcw [d]with|some k,some ks=>some (k::ks)|_,_=>none)=_;let:Zcw [d]=some [.t y.2]:=by
    show(match niOf d,some []with|some k,some ks=>some (k::ks)|_,_=>none)=_;rw[Zqw ed]
   rw[this];rfl
theorem Jco(T:Txt mg){C:Addr}(V5:Cal P w K mg base "word_taken" 3 q13 (spOf ⟨C,K⟩ dWordT))(a2:Met P w K mg base C "word" 1 q20 (spOf ⟨C,K⟩ dWord))(a1:Met P w K mg base C "signs" 1 ["self"] (spOf ⟨C,K⟩ dCSigns))(F:Fun K "steps_at" "steps_at" Sg f fd):FnOk P w K mg base CX0 5 f fd q14 (spOf ⟨C,K⟩ dStepsAt):=by
 refine L3.Fun.ok3 F Jdi (λds M K3 h=>?_) (λa6 A outer s H E G=>?_)
 .let⟨S1,S,kn,sp,rfl,_⟩:=h;rfl
 .let SC:=Jdi;let hu:=G.units;let a5:=Xy G;let a4:Room 3 _:=G.mono nofun;let a3:Room 1 _:=G.mono nofun;let a0:Room 1 _:=G.mono nofun;refine{_,_,(Zb (Vr (i:=4) SC.nd rfl rfl (T:=["sign"]) (cs:=[1,2,3,0]) rfl (CScope.ok (by kernel_rfl)) (Z5 (Zua (pv 0) a1 a0)) (λ_ _ _ _=>(Zl (i:=0) (Ys (by kernel_rfl)) rfl (Ci rfl) (Cy rfl))) (λ_ _ _ _=>Ym) (λ_ _ _ _=>(Yc (Za (pv 0) (Za (Zv V5 a4 rfl (Za (pv 1) (Za (pv 2) (Za (pv 3) (Za (Zl8 (pv 4) a2 a3 (Za (pv 0) Zd)) Zd))))) Zd)))) (Yt nofun))
 (Zg (Zy (Yi (T:=q16) (cs:=[]) rfl (CScope.ok (by kernel_rfl)) (Z5 (pv 4)) (λ_ _ _ _=>(Xq (n:=2) rfl (Zu (Zl (i:=0) (Ys (by kernel_rfl)) rfl (Ci rfl) (Cy rfl)) (Zu (Zl (i:=1) (Ys (by kernel_rfl)) rfl (Ci rfl) (Cy rfl)) Yw)) (by rfl))) (λ_ _ _ _=>(W6 (X9 (Nr (pv 1))))) (λ_ _ _ _=>(Yc (Za (pv 0) (Za (pv 1) Zd)))) (Vz (Z8 nofun (Z8 nofun Wd))))))),λ_=>(Zw (Y7 (Vm (s_il (Rv (λ_ _ _ _ _=>rfl) (Zr 0) X4)) (s_g 0) Um (Zfv (Ye (Zr 0) (Ye (Za6 (Ye (Zr 1) (Ye (Zr 2) (Ye (Zr 3) (Ye (Rv (λ_ _ _ _ _=>rfl) (Zr 4) (by symm)) X4))))) X4)))) (s_g 4)) (by symm)),λds M Kk hM hD h=>?_}
  let⟨S1,S,kn,sp,rfl,h⟩:=h;let⟨⟨g,fr,Z,hn⟩,k⟩:=h;exists ·,⟨S1,rfl⟩,S1,rfl,Z.1,λns pm pw=>?_;let pn:=Yo S1;obtain rfl:=Zb2 pm pw;generalize hP:Yk S1=P at *
  let lP:P.length<64:=by rw[pn.length_eq];exact Z.1
  let' B:Pr->D:=λp=>match wt kn S sp p.2 with|none=>.non|some q=>.nst (spN q)
  let lm:((P.map (·.1)).map D.int).length=P.length:=by rw[Ja,Ja]
  exists _,Rn,?_,λi ys M'=>M'=M++[.lst ((P.map (·.1)).map .int)]/\ys=(P.take i).map λp=>D.tup [.int p.1,B p],λ_ _ _ _ z=>by rw[z.1];exact Rn,⟨rfl,rfl⟩,?_,?_
  .show((P.map (·.1)).map D.int).length<=Ca;rw[lm];exact Zi ()
  .rintro i x ys _ hi hx ⟨rfl,rfl⟩;let⟨y,rfl⟩:=Zab hx;let hi2:i<P.length:=by rwa [Ja]at y
   let Y:P[i]∈S1:=pn.mem_iff.mp (Js hi2);rw[Bv];let fin:∀d,d=B P[i]->(M++[MO.lst ((P.map (·.1)).map .int)]=M++[MO.lst ((P.map (·.1)).map .int)])/\(P.take i).map (λp=>D.tup [.int p.1,B p])++[D.tup [.int P[i].1,d]]=(P.take (i+1)).map λp=>D.tup [.int p.1,B p]:=λd e=>by
    subst e;rw[Jd hi2,Jj];exists rfl,rfl
   refine{_,rfl,_,rfl,_,rfl,_,rfl,_,rfl,⟨S1,rfl⟩,_,rfl,S1,P[i].1,rfl,λp hp e=>?_,λO=>Dx rfl (O _ Y)};let ep:p=P[i]:=by
    let:=V0 fr hp;rw[e,V0 fr Y]at this;exact(Jaa this).symm
   subst ep;exists S,kn,sp,P[i].2,rfl,{g,(Z.2 _ Y).2,hn},λe=>{(show 2<=Ca by decide),fin _ (by show _=(match wt kn S sp P[i].2 with|none=>D.non|some q=>.nst (spN q));rw[e])},λq e=>{(show 2<=Ca by decide),fin _ (by show _=(match wt kn S sp P[i].2 with|none=>D.non|some q=>.nst (spN q));rw[e])}
  rintro ys _ ⟨rfl,rfl⟩;rw[show Ee _ P=P from by rw[show((P.map (·.1)).map D.int).length=P.length from lm];exact Gb];exists ·,·,?_,λi ys M'=>M'=M++[.lst ((P.map (·.1)).map .int)]/\ys=(stF kn S (P.take i) sp).map stpD,λ_ _ _ _ _=>rfl,⟨rfl,rfl⟩,?_,?_
  .show(P.map _).length<=Ca;rw[Ja];exact Zi ()
  .rintro i x ys _ hi hx ⟨rfl,rfl⟩;let⟨y,rfl⟩:=Z4 hx;refine{_,rfl,rfl,_,_,rfl,_,_,rfl,rfl,_,rfl,_,rfl,?_};let J:stF kn S (P.take (i+1)) sp=stF kn S (P.take i) sp++((wt kn S sp P[i].2).map λq=>(P[i].1,q)).toList:=by
    unfold stF;rw[Jd y,List.filterMap_append,F0,List.filterMap_nil];cases wt kn S sp P[i].2<;>rfl
   show if(!(B P[i]).isN)=true then _ else _;cases e:wt kn S sp P[i].2 with
   |none =>
    rw[show(!(B P[i]).isN)=false from by show(!(match wt kn S sp P[i].2 with|none=>D.non|some q=>.nst (spN q)).isN)=_;rw[e];rfl];refine iteF {rfl,?_};rw[J,e];exact congrArg _ (Gg _).symm
   |some q =>
    rw[show(!(B P[i]).isN)=true from by show(!(match wt kn S sp P[i].2 with|none=>D.non|some q=>.nst (spN q)).isN)=_;rw[e];rfl];refine iteT {_,rfl,_,rfl,(show 2<=Ca by decide),rfl,?_};rw[J,e,Jj];show _++[D.tup [.int P[i].1,(match wt kn S sp P[i].2 with|none=>D.non|some q=>.nst (spN q))]]=_;rw[e];rfl
  rintro ys _ ⟨rfl,rfl⟩;rw[show Ee _ P=P from by rw[Ja];exact Gb];exact Zao (Go _ _) hM Zfi k
open L3
def RcS(kn:List (Option Int))(S P:List Pr)(sp:Spot):Prop:=∃U:List Pr,(∀p∈U,p∈P)/\wt kn S (0,[]) (Zp U)=some sp
def RcS.good{P:List Pr}{sp:Spot}(h:RcS kn S P sp):Xp kn S sp:=let⟨_,_,e⟩:=h;(Xg e Zf8).1
def row_app(U V:List Pr):Zp (U++V)=Zp U++Zp V:=by unfold Zp;rw[Jj,List.flatten_append]
def RcS.step{P:List Pr}{sp:Spot}(h:RcS kn S P sp){x:Int×Spot}(hx:x∈stF kn S P sp):RcS kn S P x.2:=by
 let⟨U,G,e⟩:=h;let⟨p,B,_,e2⟩:=Znn (s:=x.1) (q:=x.2) hx;exists U++[p],λq y=>(Jv.mp y).elim (G q) λz=>by rw[Je.mp z];exact B,?_;rw[row_app,Tg,e];show wt kn S sp (p.2++[])=_;rw[Gg];exact e2
structure AllSt(kn:List (Option Int))(S P:List Pr)(ks ws:List Spot):Prop where
 nd:ks.Nodup
 st:(0,[])∈ks\/(0,[])∈ws
 cl:∀sp∈ks,∀x∈stF kn S P sp,x.2∈ks\/x.2∈ws
 rk:∀sp∈ks,RcS kn S P sp
 rw:∀sp∈ws,RcS kn S P sp
 len:ws.length<=64*ks.length+1
section
variable{P:List Pr}{ws:List Spot}{sp:Spot}
theorem AllSt.old(h:AllSt kn S P ks (ws++[sp]))(hs:sp∈ks):AllSt kn S P ks ws:=by
 let out:∀x,x∈ks\/x∈ws++[sp]->x∈ks\/x∈ws:=λx hx=>hx.elim .inl λz=>(Jv.mp z).elim .inr λz=>.inl (by rw[Je.mp z];exact hs);exists h.nd,out _ h.st,λq y x hx=>out _ (h.cl q y x hx),h.rk,λq y=>h.rw q (Gs _ y),?_;let:=h.len;rw[Jc]at this;lia
theorem AllSt.new(h:AllSt kn S P ks (ws++[sp]))(hs:sp∉ks)(O:P.length<64):AllSt kn S P (ks++[sp]) (ws++(stF kn S P sp).map (·.2)):=by
 let B:=h.rw sp (Jp _ Jh);let out:∀x,x∈ks\/x∈ws++[sp]->x∈ks++[sp]\/x∈ws++(stF kn S P sp).map (·.2):=λx hx=>hx.elim (λz=>.inl (Gs _ z)) λz=>(Jv.mp z).elim (λz=>.inr (Gs _ z)) λz=>.inl (Jp _ z);exists ?_,out _ h.st,λq y x hx=>?_,λq y=>?_,λq y=>?_,?_
 .rw[Bc];exists h.nd,Ba _ _,λa J b G e=>hs (by rw[<-Je.mp G,<-e];exact J)
 .rcases Jv.mp y with z|z
  .exact out _ (h.cl q z x hx)
  .rw[Je.mp z]at hx;exact .inr (Jp _ (Bw hx))
 .rcases Jv.mp y with z|z
  .exact h.rk q z
  .rw[Je.mp z];exact B
 .rcases Jv.mp y with z|z
  .exact h.rw q (Gs _ z)
  .let⟨x,hx,rfl⟩:=Jk.mp z;exact B.step hx
 .let h1:=h.len;let h2:(stF kn S P sp).length<=P.length:=Fd _ _;rw[Jc]at h1;rw[Jc,Jc,Ja];let:[sp].length=1:=rfl;lia
end
theorem Jcr(T:Txt mg){C:Addr}{Z:Addr}(Xd:mg "FIRST_SPOT"=some (.ref Z))(N_FIRST_SPOT:NkAt K (λ_=>none) [.k 0,.t []] Z)(Su:Cal P w K mg base "steps_at" 5 q14 (spOf ⟨C,K⟩ dStepsAt))(F:Fun K "all_steps" "all_steps" Ux f fd):FnOk P w K mg base CX0 6 f fd q22 (spOf ⟨C,K⟩ dAllSt):=by
 refine L3.Fun.ok3 F Jbe (λds M K3 h=>?_) (λa1 A outer s H E G=>?_)
 .let⟨S1,S,kn,rfl,_⟩:=h;rfl
 .let SC:=Jbe;let hu:=G.units;let a0:=Xy G;let Y:Room 5 _:=G.mono nofun;refine{_,_,(Zb (Zq (i:=3) SC.nd rfl (Ci rfl) Rj)
 (Zb (Zq (i:=4) SC.nd rfl (Ci rfl) (Y6 (Za (Zil (v:=.ref Z) rfl Xd rfl) Zd)))
 (Zb (Nm Co (Z1 Nx (Zn (Yy (K:=K) rfl) (by rfl) T.b_len Jab (Za (pv 4) Zd)) Zf (Ya _))
 (Zb (Zq (i:=5) SC.nd rfl (Ci rfl) (Zuc Ed PySem.F.slot_list_pop PySem.F.type_list_pop Zuk (pv 4)))
 (Zg (Yz (X9 (Zin (K:=K) rfl (Wy G) (pv 5) (pv 3)))
 (Zb (Nn (K:=K) rfl (Wy G) (pv 3) (pv 5) (Zv Su Y rfl (Za (pv 0) (Za (pv 1) (Za (pv 2) (Za (pv 5) Zd))))) rfl)
 (Zg (U3 (Zfx Ed Hw Mn Zi3 (pv 4) (Za (Yi (T:=q16) (cs:=[]) rfl (CScope.ok (by kernel_rfl)) (Z5 (W7 (K:=K) rfl (Wy G) (pv 3) (pv 5) (λ_ _=>rfl))) (λ_ _ _ _=>(Xq (n:=2) rfl (Zu (Zl (i:=0) (Ys (by kernel_rfl)) rfl (Ci rfl) (Cy rfl)) (Zu (Zl (i:=1) (Ys (by kernel_rfl)) rfl (Ci rfl) (Cy rfl)) Yw)) (by rfl))) (λ_ _ _ _=>Ym) (λ_ _ _ _=>(pv 1)) (Vz (Z8 nofun (Z8 nofun Wd)))) Zd)))))
 Z2))))
 (Zg (Zy (pv 3)))))),λ_=>(Zw (Y7 (Ni (sh:=[0,1])) (s_g 3)) (Zw (Y7 (Za4 (Ye (Zti N_FIRST_SPOT) X4)) (s_g 4)) (Zw (Zhl (by symm) (Zw (Y7 (Zw2 (Zr 4)) (s_g 5)) (Uw (s_b (Zlq (Zr 5) (Zr 3))) (Zw (Zei (Zr 3) (Zr 5) (by symm)) (Zhr (Zlu (Zr 4) (Ye (Vm (s_il (Tr (Zr 3) (Zr 5))) (by symm) Um (Zr 1)) X4)))) W0))) (Wn (Zr 3))))),λds M Kk hM hD h=>?_}
  let⟨S1,S,kn,rfl,h⟩:=h;let⟨⟨fr1,J,fi,hn⟩,k⟩:=h;exists(show 1<=Ca by decide),?_;let el:(M++[MO.dcN [0,1] none []]).length=M.length+1:=by rw[Jc];rfl
  rw[el,Jn];generalize hP:Yk S1=P at k;let lP:P.length<64:=by rw[<-hP,(Yo S1).length_eq];exact J.1
  let B:∀{ks ws:List Spot},AllSt kn S P ks ws->ks.length<=51000:=λh=>Zaa fi hn h.nd λsp hs=>(h.rk sp hs).good;refine{λm ρ M'=>∃ks ws v5,ρ=[some (.code S1),some (.code S),some (.lst (kn.map oD)),some (.cell M.length),some (.cell (M.length+1)),v5]/\M'=M++[.dcN [0,1] none (kvN (stD3 kn S P) ks),.lst (ws.map λsp=>.nst (spN sp))]/\AllSt kn S P ks ws/\m=(51000-ks.length)*64+ws.length,
   {_,[],[(0,[])],_,rfl,rfl,{Fe,.inr Jh,(λ_ h=>nomatch h),(λ_ h=>nomatch h),λsp hs=>by rw[Je.mp hs];exact{[],(λ_ h=>nomatch h),rfl},nofun},rfl},?_}
  rintro m ρ _ ⟨ks,ws,v5,rfl,rfl,as,rfl⟩;exists ·,_,(Vv (Zbf two1)).2.2,_,·,rfl,·,?_;rcases List.eq_nil_or_concat ws with rfl|⟨ws,sp,rfl⟩
  .refine iteF {_,rfl,.inr {M.length+1,Fu _,P1 (F1 _),?_,?_}}
   .rw[show(M++[MO.dcN [0,1] none (kvN (stD3 kn S P) ks),MO.lst ([].map λsp=>D.nst (spN sp))]).take (M.length+1)=M++[MO.dcN [0,1] none (kvN (stD3 kn S P) ks)]from by rw[List.take_append,Gk ()];simp];intro m hm;rcases Jv.mp hm with z|z
    .exact(hM m z).up (Fu _)
    .rw[Je.mp z];refine Zkn λd hd=>?_;let⟨sp,_,rfl⟩:=Jk.mp hd;exact Zfi
   .rw[show(M++[MO.dcN [0,1] none (kvN (stD3 kn S P) ks),MO.lst ([].map λsp=>D.nst (spN sp))]).take (M.length+1)=M++[MO.dcN [0,1] none (kvN (stD3 kn S P) ks)]from by rw[List.take_append,Gk ()];simp];exact k ks {as.nd,λsp hs=>(as.rk sp hs).good,as.st.resolve_right (λz=>nomatch z),λsp hs x hx=>(as.cl sp hs x hx).resolve_right (λz=>nomatch z),as.rk}
  rw[List.concat_eq_append]at as⊢;let lw:((ws++[sp]).map λsp=>D.nst (spN sp)).length=ws.length+1:=by rw[Ja,Jc];rfl
  rw[D8 (by rw[lw];lia)];refine iteT {_,rfl,M.length+1,_,_,rfl,rfl,two1,by rw[lw,Jj,Nat.add_sub_cancel,J8 (by rw[Ja];exact Ji _),Ja,Fj];rfl,?_};rw[Zpz,show((ws++[sp]).map λsp=>D.nst (spN sp)).dropLast=ws.map λsp=>D.nst (spN sp)from by rw[Jj];exact List.dropLast_concat];let dc:∀(ks:List Spot)(m:MO),X0 (M++[.dcN [0,1] none (kvN (stD3 kn S P) ks),m]) (.cell M.length)=some ([0,1],kvN (stD3 kn S P) ks):=λks m=>by simp only[X0,two0]
  exists ·,·,_,{_,_,_,dc _ _,rfl,rfl,rfl},·,?_;let y:(ws++[sp]).length=ws.length+1:=by rw[Jc];rfl
  by_cases hs:sp∈ks
  .rw[Xr hs];exact iteF {_,by rw[y];exact F1 _,.inl {ks,ws,_,rfl,rfl,as.old hs,rfl}}
  rw[Ze1 hs];let rs:=as.rw sp (Jp _ Jh);refine iteT {_,rfl,_,rfl,_,rfl,_,rfl,S1,S,kn,sp,rfl,{rs.good,fr1,J,hn},_,rfl,_,rfl,M.length,_,_,_,rfl,two0,rfl,rfl,?_,?_}
  .rw[Wt];exact Gu (B as) nofun
  let an:=as.new hs lP;let ln:=B an;rw[Ztd,hP,Qe hs];exists ·,W9 (Zbf two1),?_;exists ·,·,stD3 kn S P sp,{_,_,_,dc _ _,rfl,rfl,(Xr (Jp _ Jh)).symm},?_;let l2:(stF kn S P sp).length<=P.length:=Fd _ _;let lm:((stF kn S P sp).map stpD).length=(stF kn S P sp).length:=Ja _;exists ·,?_,λi ys M'=>M'=M++[.dcN [0,1] none (kvN (stD3 kn S P) (ks++[sp])),.lst (ws.map λsp=>.nst (spN sp))]/\ys=((stF kn S P sp).take i).map λx=>D.nst (spN x.2),λ_ _ _ _ _=>rfl,⟨rfl,rfl⟩,?_,?_
  .show((stF kn S P sp).map stpD).length<=Ca;rw[lm];exact Zi ()
  .rintro i x ys _ hi hx ⟨rfl,rfl⟩;let⟨O,rfl⟩:=Z4 hx;exists ·,rfl,_,·,_,·,rfl,·,rfl,?_;rw[Jd O,Jj];rfl
  rintro ys _ ⟨rfl,rfl⟩;rw[show Ee _ (stF kn S P sp)=stF kn S P sp from by rw[show((stF kn S P sp).map stpD).length=(stF kn S P sp).length from lm];exact Gb];let l3:=as.len;exists M.length+1,_,_,·,rfl,two1,rfl,?_,?_
  .rw[Ja,Ja];refine Jx (show _<=64*51000+100 from ?_) nofun;let:=B as;rw[y]at l3;lia
  .rw[Zpz];exists(51000-(ks++[sp]).length)*64+(ws++(stF kn S P sp).map (·.2)).length,?_,.inl {ks++[sp],ws++(stF kn S P sp).map (·.2),_,rfl,?_,an,rfl}
   .let:(ks++[sp]).length=ks.length+1:=by rw[Jc];rfl
    rw[this]at ln⊢;rw[y,Jc,Ja];lia
   .rw[Jj,Ju];rfl
open L3
def Sq(sp:Spot):List Int:=(sp.1:Int)::sp.2
def Zjd(f:Spot->D)(ks:List Spot):(kvN f ks).map (λq=>encP q.1)=ks.map Sq:=by
 unfold kvN;rw[Ju];rfl
theorem Zd9(f:τ->Nat):∀xs:List τ,((xs.map f).sum:Int)=(xs.map λx=>((f x:Nat):Int)).sum
 |[]=>rfl
 |x::xs=>by
  rw[Jl,Bs,Jl,Bs,Fs,Zd9 f xs]
theorem Zm8{y:List Spot}(pw:y.Pairwise λa b=>HT.lexLt (Sq b) (Sq a)=true){i:Nat}(hi:i<y.length){q:Spot}(B:q∈y)(l:y[i].1<q.1):q∈y.take i:=by
 let⟨j,G,rfl⟩:=Gh B
 by_cases z:j<i
 .exact List.mem_take_iff_getElem.mpr {j,(),rfl}
 .let:i≠j:=λe=>by subst e;lia
  let h:=Gx.mp pw i j hi G ();unfold Sq at h;rw[HT.lexLt_cons,D6 ()]at h;let:=Dw h;lia
theorem Jcy(T:Txt mg){C:Addr}(F:Fun K "counts_behind" "counts_behind" X8 f fd):FnOk P w K mg base CX0 1 f fd ["steps","size"] (spOf ⟨C,K⟩ dCountsB):=by
 refine L3.Fun.ok3 F Jch (λds M K3 h=>?_) (λa3 A outer s H E J=>?_)
 .let⟨c,y,S,P,kn,ks,n,rfl,_⟩:=h;rfl
 .let SC:=Jch;let hu:=J.units;let a1:=Xy J;refine{_,_,(Zb (Zq (i:=2) SC.nd rfl (Cy rfl) Rj)
 (Zb (Y1 Co rfl (Z5 (Zl6 (K:=K) rfl rfl (Wy J) rfl T.b_sorted (Za (pv 0) Zd) (Zqk Nq Zt4))) (Zl (i:=3) SC.nd rfl (Ci rfl))
 (Zg (Nn (K:=K) rfl (Wy J) (pv 2) (pv 3) (Tx (Z1 (Zay (K':=K) rfl hu) (Z3 (Yl (K':=K) rfl) (pv 3) Zf (λ_ _=>rfl)) (pv 1) (Ya _)) Zf (Zn (Zvt (K':=K) rfl rfl) (by rfl) T.b_sum PyProof.Rows.boot_sum (Za (Yi (T:=q16) (cs:=[2]) rfl (CScope.ok (by kernel_rfl)) (Z5 (W7 (K:=K) rfl (Wy J) (pv 0) (pv 3) (λ_ _=>rfl))) (λ_ _ _ _=>(Xq (n:=2) rfl (Zu (Zl (i:=0) (Ys (by kernel_rfl)) rfl (Ci rfl) (Cy rfl)) (Zu (Zl (i:=1) (Ys (by kernel_rfl)) rfl (Ci rfl) (Cy rfl)) Yw)) (by rfl))) (λ_ _ _ _=>Ym) (λ_ _ _ _=>(W7 (K:=K) rfl (Wy J) (pv 2) (pv 1) (λ_ _=>rfl))) (Vz (Z8 nofun (Z8 nofun Wd)))) Zd))) rfl)))
 (Zg (Zy (pv 2))))),λ_=>(Zw (Y7 (Ni (sh:=[0,1])) (s_g 2)) (Zw (Uj (s_il (Zp0 (by symm))) (s_g 3) (Zei (Zr 2) (Zr 3) (s_if (Zef (s_op s_eq (s_op Zho (Zr 3) Vk) (Zr 1))) Vk (s_cb Zwx (Ye (Vm (s_il (Tr (Zr 0) (Zr 3))) (by symm) Um (Tr (Zr 2) (Zr 1))) X4))))) (Wn (Zr 2)))),λds M Kk hM hD h=>?_}
  let⟨c,y,S,P,kn,ks,n,rfl,h⟩:=h;let⟨hc,⟨nd,gd,cl,ne,lP,lk,hn⟩,k⟩:=h;let dc:∀m:MO,X0 (M++[m]) (.cell c)=some ([0,1],kvN (stD3 kn S P) ks):=λm=>by simp only[X0,Ur hc]
  let dn:∀B:List Spot,X0 (M++[.dcN [0,1] none (kvN (cntD kn S P) B)]) (.cell M.length)=some ([0,1],kvN (cntD kn S P) B):=λB=>by simp only[X0,Yj]
  exists ·,_,·,dc _,by rw[Wt];lia,λws pm pw=>?_;rw[Zjd]at pm;let⟨B,O,rfl⟩:=L2.W2 pm rfl;let pw:B.Pairwise λa b=>HT.lexLt (Sq b) (Sq a)=true:=(Jr.mp pw).imp λh=>by simpa using h
  let lb:B.length=ks.length:=O.length_eq;rw[show(B.map Sq).map (λw=>D.nst (decP w))=B.map λsp=>D.nst (spN sp)from by rw[Ju];rfl];let lm:(B.map λsp=>D.nst (spN sp)).length=B.length:=Ja _;exists ·,λi ρ M'=>∃v3,ρ=[some (.cell c),some (.int n),some (.cell M.length),v3]/\M'=M++[.dcN [0,1] none (kvN (cntD kn S P) (B.take i))],λ_ _ _ _ _=>rfl,{_,rfl,rfl},?_,?_
  .rintro i x ρ _ hi hx ⟨v3,rfl,rfl⟩;let⟨G,rfl⟩:=Z4 hx;let hs:B[i]∈ks:=O.mem_iff.mp (Js G);let a2:=hn (λz=>by rw[z]at hs;cases hs);let g:=gd _ hs;let Y:B[i]∉B.take i:=λz=>by
    let⟨j,hj,e⟩:=List.mem_take_iff_getElem.mp z;let:=(Bh (O.nodup_iff.mpr nd)).mp e;lia
   let lt:(kvN (cntD kn S P) (B.take i)).length<Ca:=by
    rw[Wt];exact Gu (Jx (List.length_take_le _ _) (by lia:_<=51000)) nofun
   exists ·,_,_,·,rfl,rfl,·,Vc W3 (a:=(B[i].1:Int)) (b:=n) {_,rfl,?_}
   by_cases he:(B[i].1:Int)=n
   .rw[D8 he];refine iteT {_,rfl,_,rfl,M.length,_,_,_,rfl,Yj,rfl,rfl,lt,.inl {_,rfl,?_}};rw[Y5,show D.int 1=cntD kn S P B[i]from by unfold cntD;rw[Zrp ()];rfl,Qe Y,List.take_succ_eq_append_getElem G]
   rw[D9 he];let l2:(stF kn S P B[i]).length<=P.length:=Fd _ _;let Z:((stF kn S P B[i]).map stpD).length=(stF kn S P B[i]).length:=Ja _;refine iteF {_,rfl,_,rfl,stD3 kn S P B[i],{_,_,_,dc _,rfl,rfl,(Xr hs).symm},_,rfl,?_,λj ys M'=>M'=M++[.dcN [0,1] none (kvN (cntD kn S P) (B.take i))]/\ys=(((stF kn S P B[i]).take j).map λx=>((cnt kn S P x.2:Nat):Int)).map .int,λ_ _ _ _ _=>rfl,⟨rfl,rfl⟩,?_,?_}
   .show((stF kn S P B[i]).map stpD).length<=Ca;rw[Z];exact Zi ()
   .rintro j x ys _ hj hx ⟨rfl,rfl⟩;let⟨a0,rfl⟩:=Z4 hx;let hm:=Js a0;let up:=(Zlk ne g hm).2;let ha:=Zm8 pw G (O.mem_iff.mpr (cl _ hs _ hm)) up;exists ·,rfl,_,·,_,·,rfl,·,·,_,{_,_,_,dn _,rfl,rfl,(Xr ha).symm},rfl,?_;rw[Jd a0,Jj,Jj];rfl
   rintro ys _ ⟨rfl,rfl⟩;rw[show Ee _ (stF kn S P B[i])=stF kn S P B[i]from by rw[show((stF kn S P B[i]).map stpD).length=(stF kn S P B[i]).length from Z];exact Gb];exists _,·,rfl,?_;exists ·,·,M.length,_,_,·,Yj,rfl,rfl,lt,.inl {_,rfl,?_};rw[<-Zd9,<-Zkg ne g (by have:=g.2.1;lia),Y5];show M++[MO.dcN [0,1] none (Rz _ (spN B[i]) (cntD kn S P B[i]))]=_;rw[Qe Y,Jd G]
  .rintro ρ _ ⟨v3,rfl,rfl⟩;rw[show Ee _ B=B from by rw[show(B.map λsp=>D.nst (spN sp)).length=B.length from lm];exact Gb];exists ·,.inl (k B O)
open L3
section
variable{N:Mem}{a b c:MO}{n:Nat}
def tri0(h:N.length=n):(N++[a,b,c])[n]?=some a:=by rw[<-h,J8 (Ji _),Fj];rfl
theorem tri1(h:N.length=n):(N++[a,b,c])[n+1]?=some b:=by rw[<-h,J8 (),show N.length+1-N.length=1 by lia];rfl
theorem tri2(h:N.length=n):(N++[a,b,c])[n+2]?=some c:=by rw[<-h,J8 (),show N.length+2-N.length=2 by lia];rfl
def Zww(h:N.length=n):(N++[a,b,c]).set n m=N++[m,b,c]:=by rw[<-h,Fa _ _ (Ji _),Fj];rfl
theorem Zwv(h:N.length=n):(N++[a,b,c]).set (n+2) m=N++[a,b,m]:=by rw[<-h,Fa _ _ (),show N.length+2-N.length=2 by lia];rfl
end
theorem Zbi{XL:Addr}(cl:Cls K XL)(n1:Y4 K XL "size")(n2:Y4 K XL "behind")(n3:Y4 K XL "steps"){x:Nat}{P:List Pr}{d dk:D}{E:List (Option Int)}{n:Int}{Kk:K3}{v6:Option D}{n0:Nat}(hx:M[x]?=some (.ins XL []))(a3:Fits S1)(fi:Fits S)(hP:Yk S1=P)(hc:(dk=.non/\n=0/\ks=[]/\knF S E=none)\/(dk=.lst (kn.map oD)/\n=kn.length/\knF S E=some kn/\KeysOk kn S P ks/\kn.length<=200))(k:∀B,(∃o J,B=M.set x o++J)->LvAt XL B x S1 S E->Kk D.non B) :
  uSeq (Zk7 K "size" (uVar 0) (uIf (uB3 (uIsN (uVar 4))) (uC (D.int 0)) (uCB len3 (P5 (uVar 4) uNil))))
   (uSeq (Zk7 K "behind" (uVar 0) (Zpl dCountsB (P5 (uVar 5) (P5 (Zld K "size" (uVar 0)) uNil))))
    (uSeq (Zk7 K "steps" (uVar 0) (Znc [0,1]))
     (uFor (uIDN (uVar 5)) (uG 6) (Zsa (Zld K "steps" (uVar 0)) (uVar 6) (Zsq (uIL (Zpa (uVar 5) (uVar 6))) (uGTup 2 (uGCons (uG 0) (uGCons (uG 1) Zsj)))
      (uB3 (uOp (int30 λi j=>D.bl (decide (j<i))) (Zpa (Zld K "behind" (uVar 2)) (uVar 1)) (uC (D.int 0)))) (uTup (P5 (uVar 0) (P5 (uVar 1) uNil))) q16 [0])))))
   {nx:=λ_ B=>Dk n0 Kk D.non B,rt:=Dk n0 Kk} [some (.cell x),some (.code S1),some (.code S),some d,some dk,some (.cell M.length),v6] (M++[.dcN [0,1] none (kvN (stD3 kn S P) ks)]):=by
 let hl:=(Jg.mp hx).1;let b1:M.length≠x:=by lia
 let lP:P.length<64:=by rw[<-hP,(Yo S1).length_eq];exact a3.1
 let a1:NeW P:=λp hp=>(a3.2 p (by rw[<-hP]at hp;exact(Yo S1).mem_iff.mp hp)).1;let O:ks.Nodup/\(∀sp∈ks,Xp kn S sp)/\(∀sp∈ks,∀y∈stF kn S P sp,y.2∈ks)/\NeW P/\P.length<64/\ks.length<=51000/\(ks≠[]->n=kn.length):=by
  rcases hc with⟨_,_,rfl,_⟩|⟨_,e,_,ko,lk⟩
  .exists Fe,(λ_ h=>nomatch h),(λ_ h=>nomatch h),a1,lP,Ge _,λh=>Dx rfl h
  .exists ko.nd,ko.gd,ko.cl,a1,lP,Zaa fi lk ko.nd ko.gd,λ_=>e
 let Y:∀{o:MO}{J:Mem},(M.set x o++J)[x]?=some o:=by intro o J;rw[Jw (by rw[B1];exact hl),B4 hl]
 let a5:∀{o:MO}{J J':Mem},(M.set x o++J++J')[x]?=some o:=by intro o J J';rw[Jn];exact Y
 let sx:∀{o o':MO}{J:Mem},(M.set x o++J).set x o'=M.set x o'++J:=by intro o o' J;rw[List.set_append_left _ _ (by rw[B1];exact hl),List.set_set]
 let ln:∀{o:MO},(M.set x o).length=M.length:=by intro o;exact B1
 generalize hA:MO.dcN [0,1] none (kvN (stD3 kn S P) ks)=A0;let e0:M++[A0]=M.set x (.ins XL [])++[A0]:=by let⟨h1,h2⟩:=Jg.mp hx;rw[<-h2,List.set_getElem_self]
 rw[e0];let sz:∀{K':K3},K' (.int n) (M.set x (.ins XL [])++[A0])->uIf (uB3 (uIsN (uVar 4))) (uC (D.int 0)) (uCB len3 (P5 (uVar 4) uNil)) [some (.cell x),some (.code S1),some (.code S),some d,some dk,some (.cell M.length),v6] (M.set x (.ins XL [])++[A0]) K':=by
  intro K' hk;rcases hc with⟨rfl,rfl,_,_⟩|⟨rfl,rfl,_,_,_⟩
  .exists ·,·,iteT hk
  .exists ·,·,iteF {_,rfl,_,rfl,?_};rw[Ja];exact hk
 refine sz {_,rfl,x,XL,[],rfl,Y,cl,n1,(show 0<1000 by decide),?_};rw[sx];exists ·,·,x,XL,_,·,Y,cl,n1,rfl,M.length,none,S,P,kn,ks,n,rfl,?_,O,λkb pk=>?_
 .rw[<-hA];let:=Yj (M:=M.set x (.ins XL (Q8 "size" (.int n) []))) (m:=MO.dcN [0,1] none (kvN (stD3 kn S P) ks));rwa [ln]at this
 generalize hB:MO.dcN [0,1] none (kvN (cntD kn S P) kb)=B0;rw[Jn];exists ·,x,XL,·,Y,cl,n2,(show 1<1000 by decide),?_;rw[sx];exists ·,x,XL,·,a5,cl,n3,(show 2<1000 by decide),?_;rw[Jn,sx];let l1:(M.set x (.ins XL (Q8 "size" (.int n) []))++[A0]).length=M.length+1:=by rw[Jc,ln];rfl
 let l2:∀fs,(M.set x (.ins XL fs)++([A0]++[B0])).length=M.length+2:=λfs=>by rw[Jc,ln];rfl
 rw[l2,l1];generalize hN:M.set x (.ins XL (Q8 "steps" (D.cell (M.length+2)) (Q8 "behind" (D.cell (M.length+1)) (Q8 "size" (D.int n) []))))=N0;let Y:∀{J:Mem},(N0++J)[x]?=some (.ins XL [("size",.int n),("behind",.cell (M.length+1)),("steps",.cell (M.length+2))]):=by intro J;rw[<-hN];exact Y
 let G:N0.length=M.length:=by rw[<-hN];exact ln
 rw[show [A0]++[B0]++[MO.dcN [0,1] none []]=[A0,B0,MO.dcN [0,1] none []]from rfl];exists ·,M.length,[0,1],none,·,by rw[<-hA];exact tri0 G,λz=>?_;rw[Zww G];let a7:∀{b c:MO},X0 (N0++[MO.dcN [0,1] (some z) (kvN (stD3 kn S P) ks),b,c]) (.cell M.length)=some ([0,1],kvN (stD3 kn S P) ks):=by intro b c;simp only[X0,tri0 G]
 let a6:∀{a c:MO},X0 (N0++[a,B0,c]) (.cell (M.length+1))=some ([0,1],kvN (cntD kn S P) kb):=by intro a c;simp only[X0,tri1 G,<-hB]
 exists λi ρ B=>∃v6,ρ=[some (.cell x),some (.code S1),some (.code S),some d,some dk,some (.cell M.length),v6]/\B=N0++[.dcN [0,1] (some z) (kvN (stD3 kn S P) ks),B0,.dcN [0,1] none (kvN (stL3 kn S P) (ks.take i))],λi ρ B _⟨_,_,e⟩=>by rw[e];exact tri0 G,{_,rfl,rfl},?_,?_
 .rintro i y ρ _ hi hy ⟨v6,rfl,rfl⟩;let⟨kv,e,rfl⟩:=hy;let a0:i<ks.length:=by
   let:i<(kvN (stD3 kn S P) ks).length:=hi;rwa [Wt]at this
  unfold kvN at e;rw[Gc,Jb a0]at e;cases e;let hs:=Js a0;let a8:(stF kn S P ks[i]).length<=P.length:=Fd _ _;let a2:((stF kn S P ks[i]).map stpD).length=(stF kn S P ks[i]).length:=Ja _;let a4:ks[i]∉ks.take i:=λz=>by
   let⟨j,hj,e⟩:=List.mem_take_iff_getElem.mp z;let:=(Bh O.1).mp e;lia
  exists ·,·,stD3 kn S P ks[i],{_,_,_,a7,rfl,rfl,(Xr hs).symm},·,?_,λj ys B=>B=N0++[.dcN [0,1] (some z) (kvN (stD3 kn S P) ks),B0,.dcN [0,1] none (kvN (stL3 kn S P) (ks.take i))]/\ys=(((stF kn S P ks[i]).take j).filter λy=>decide (0<cnt kn S P y.2)).map stpD,λ_ _ _ _ _=>rfl,⟨rfl,rfl⟩,?_,?_
  .show((stF kn S P ks[i]).map stpD).length<=Ca;rw[a2];exact Zi ()
  .rintro j y ys _ hj hy ⟨rfl,rfl⟩;let⟨Z,rfl⟩:=Z4 hy;let hm:=Js Z;let ha:(stF kn S P ks[i])[j].2∈kb:=pk.mem_iff.mpr (O.2.2.1 _ hs _ hm);exists ·,rfl,_,·,_,·,rfl,?_;exists ·,x,XL,_,·,Y,cl,n2,rfl,·,cntD kn S P (stF kn S P ks[i])[j].2,{_,_,_,a6,rfl,rfl,(Xr ha).symm},_,·,rfl,·,?_;rw[show decide ((0:Int)<((cnt kn S P (stF kn S P ks[i])[j].2:Nat):Int))=decide (0<cnt kn S P (stF kn S P ks[i])[j].2)from decide_eq_decide.mpr ()];refine ite2 (λhl=>{_,rfl,_,rfl,(show 2<=Ca by decide),rfl,?_}) (λhl=>{rfl,?_})
   .exact(Xz (λy:Int×Spot=>decide (0<cnt kn S P y.2)) stpD Z true hl).symm
   .exact((Xz (λy:Int×Spot=>decide (0<cnt kn S P y.2)) stpD Z false (Fn _ ▸ hl)).trans (Gg _)).symm
  rintro ys _ ⟨rfl,rfl⟩;rw[show Ee _ (stF kn S P ks[i])=stF kn S P ks[i]from by rw[show((stF kn S P ks[i]).map stpD).length=(stF kn S P ks[i]).length from a2];exact Gb];exists ·,x,XL,_,·,Y,cl,n3,rfl,·,M.length+2,_,_,·,tri2 G,rfl,rfl,?_,.inl {_,rfl,?_}
  .rw[Wt];exact Gu (Jx (List.length_take_le _ _) (by have:=O.2.2.2.2.2.1;lia:_<=51000)) nofun
  .rw[Zwv G];show N0++[_,_,MO.dcN [0,1] none (Rz _ (spN ks[i]) (stL3 kn S P ks[i]))]=_;rw[Qe a4,Jd a0]
 .rintro ρ _ ⟨v6,rfl,rfl⟩;rw[show Ee _ ks=ks from by rw[show(nIt M.length [0,1] z (kvN (stD3 kn S P) ks)).n=ks.length from Wt _ _];exact Gb];refine .inl (k _ {_,_,by rw[hN]} {M.length+1,M.length+2,n,kn,ks,kb,Y,by rw[hP,hB];exact tri1 G,by rw[hP];exact tri2 G,pk,?_});rcases hc with⟨_,e1,e2,e3⟩|⟨_,e1,e2,e3,_⟩
  .rw[e3];exists e1,e2
  .rw[e2];exact{rfl,e1,by rw[hP];exact e3}
def Jcl(T:Txt mg){C:Addr}(cl:Cls K Zt)(n1:Y4 K Zt "size")(n2:Y4 K Zt "behind")(Z:Y4 K Zt "steps")(Vg:Cal P w K mg base "known_bytes" 2 q27 (spOf ⟨C,K⟩ dKnown))(Tb:Cal P w K mg base "all_steps" 6 q22 (spOf ⟨C,K⟩ dAllSt))(Wj:Cal P w K mg base "counts_behind" 1 ["steps","size"] (spOf ⟨C,K⟩ dCountsB))(F:Fun K "__init__" "Leaving.__init__" Xl f fd):FnOk P w K mg base CX0 7 f fd q12 (spOf ⟨C,K⟩ (dLeav Zt)):=by
 refine L3.Fun.ok3 F Jcp (λds M K3 h=>?_) (λa1 A outer s H E y=>?_)
 .let⟨x,S1,S,d,E,rfl,_⟩:=h;rfl
 .let Y:=Jcp;let hu:=y.units;let a0:=Xy y;let Pb:Room 2 _:=y.mono nofun;let O:Room 6 _:=y.mono nofun;let Rc:Room 1 _:=y.mono nofun;refine{_,_,(Zb (Zq (i:=4) Y.nd rfl (Ci rfl) (Zv Vg Pb rfl (Za (pv 2) (Za (pv 3) Zd))))
 (Zb (Zq (i:=5) Y.nd rfl (Ci rfl) (Tx (X9 (Vs (pv 4))) Rj (Zv Tb O rfl (Za (pv 1) (Za (pv 2) (Za (pv 4) Zd))))))
 (Zb (S0 (pv 0) (Tx (X9 (Vs (pv 4))) Zf (Zn (Yy (K:=K) rfl) (by rfl) T.b_len Jab (Za (pv 4) Zd))) rfl)
 (Zb (S0 (pv 0) (Zv Wj Rc rfl (Za (pv 5) (Za (Wa (pv 0) rfl) Zd))) rfl)
 (Zb (S0 (pv 0) Rj rfl)
 (Zg (Y1 Co rfl (Zeo (K:=K) rfl (pv 5)) (Zl (i:=6) Y.nd rfl (Ci rfl))
 (Zg (Nn (K:=K) rfl (Wy y) (Wa (pv 0) rfl) (pv 6) (Yi (T:=q16) (cs:=[0]) rfl (CScope.ok (by kernel_rfl)) (Z5 (W7 (K:=K) rfl (Wy y) (pv 5) (pv 6) (λ_ _=>rfl))) (λ_ _ _ _=>(Xq (n:=2) rfl (Zu (Zl (i:=0) (Ys (by kernel_rfl)) rfl (Ci rfl) (Cy rfl)) (Zu (Zl (i:=1) (Ys (by kernel_rfl)) rfl (Ci rfl) (Cy rfl)) Yw)) (by rfl))) (λ_ _ _ _=>(W6 (Z1 Nx (W7 (K:=K) rfl (Wy y) (Wa (pv 2) rfl) (pv 1) (λ_ _=>rfl)) Zf (Ya _)))) (λ_ _ _ _=>(Yc (Za (pv 0) (Za (pv 1) Zd)))) (Vz (Z8 nofun (Z8 nofun Wd)))) rfl))))))))),λ_=>(Zw (Y7 (Ztq (by symm)) (s_g 4)) (Zw (Y7 (s_if (by symm) (Ni (sh:=[0,1])) (by symm)) (s_g 5)) (Zw (Zhm (Zr 0) (by symm)) (Zw (Zhm (Zr 0) (Za6 (Ye (Zr 5) (Ye (Rw (Zr 0)) X4)))) (Zw (Zhm (Zr 0) (Ni (sh:=[0,1]))) (Uj (Ztn (Zr 5)) (s_g 6) (Zei (Rw (Zr 0)) (Zr 6) (Vm (s_il (Tr (Zr 5) (Zr 6))) (by symm) (Zef (s_op s_gt (Tr (Rw (Zr 2)) (Zr 1)) Vk)) (by symm))))))))),λds M Kk hM hD h=>?_}
  let⟨x,S1,S,d,E,rfl,h⟩:=h;let⟨hx,hd,⟨fr1,B,fr,G,hE⟩,k⟩:=h;exists ·,·,S,d,E,rfl,hd,⟨fr,G,hE⟩,λJ=>.inr ?_,λkn J=>.inl {_,_,rfl,by rw[Jc];rfl,Yj,rfl,?_,?_}
  .exists ·,·,iteT ?_;exact Zbi (kn:=[]) (ks:=[]) (n:=0) cl n1 n2 Z hx B G rfl (.inl ⟨rfl,rfl,rfl,J⟩) k
  .intro m hm;rcases Jv.mp hm with z|z
   .exact hM m z
   .rw[Je.mp z];exact Zb3 (X1 (λ_=>Zdo) kn)
  .let lk:kn.length<=200:=Jx (Po G J) (Nat.mul_le_mul_left 4 hE);rw[B8];exists ·,·,iteF {_,rfl,_,rfl,_,rfl,S1,S,kn,rfl,⟨fr1,B,G,lk⟩,λks ko=>?_};exact Zbi cl n1 n2 Z hx B G rfl (.inr ⟨rfl,rfl,J,ko,lk⟩) k
open L3
theorem Zuq{y:List Spot}(pw:y.Pairwise λa b=>HT.lexLt (Sq a) (Sq b)=true){i:Nat}(hi:i<y.length):∀q∈y.drop i,y[i].1<=q.1:=by
 intro q B;let⟨j,G,rfl⟩:=List.mem_drop_iff_getElem.mp B
 by_cases z:j=0
 .subst z;exact Ji _
 .let h:=Gx.mp pw i (i+j) hi () ();unfold Sq at h;rw[HT.lexLt_cons]at h
  split at h
  .lia
  .let:=Dw h;lia
def Zr0(kn:List (Option Int))(S P:List Pr){h:List Spot}{i:Nat}(hi:i<h.length)(q:Spot):aC kn S P (h.take (i+1)) q=aC kn S P (h.take i) q+ah kn S P h[i]*mlL kn S P h[i] q:=by
 unfold aC;rw[Jd hi,Jj,Dg,Dt,List.sum_singleton,Br]
theorem Jdl(T:Txt mg){C:Addr}{Yd:Addr}(Xd:mg "FIRST_SPOT"=some (.ref Yd))(N_FIRST_SPOT:NkAt K (λ_=>none) [.k 0,.t []] Yd)(cl:Cls K Zt)(n2:Y4 K Zt "behind")(n3:Y4 K Zt "steps")(F:Fun K "counts_ahead" "counts_ahead" Wq f fd):FnOk P w K mg base CX0 1 f fd q23 (spOf ⟨C,K⟩ (dAhead Zt)):=by
 refine L3.Fun.ok3 F Jdb (λds M K3 h=>?_) (λb1 A outer s H E Y=>?_)
 .let⟨x,b,s,n,y,kn,S,P,ks,rfl,_⟩:=h;rfl
 .let SC:=Jdb;let hu:=Y.units;let a7:=Xy Y;refine{_,_,(Zb (Zq (i:=1) SC.nd rfl (Ci rfl) (Zma (K:=K) rfl (Wy Y) (Zil (v:=.ref Yd) rfl Xd rfl) Zf))
 (Zb (Y1 Co rfl (Z5 (Zn (Zdk (K:=K) rfl rfl (Wy Y)) (by rfl) T.b_sorted C2 (Za (Wa (pv 0) rfl) Zd))) (Zl (i:=2) SC.nd rfl (Ci rfl))
 (Zg (Y1 Co rfl (Z5 (W7 (K:=K) rfl (Wy Y) (Wa (pv 0) rfl) (pv 2) (λ_ _=>rfl))) (Xq (n:=2) rfl (Zu (Zl (i:=3) SC.nd rfl (Ci rfl)) (Zu (Zl (i:=4) SC.nd rfl (Ci rfl)) Yw)) (by rfl))
 (Zg (Nn (K:=K) rfl (Wy Y) (pv 1) (pv 4) (Z0 (Yp (K':=K) rfl) (Zeq (K:=K) rfl (Wy Y) (pv 1) (pv 4) Zf ⟨rfl,rfl,rfl,rfl⟩) (W7 (K:=K) rfl (Wy Y) (pv 1) (pv 2) (λ_ _=>rfl))) rfl)))))
 (Zg (Zy (pv 1))))),λ_=>(Zw (Y7 (Zp8 (sh:=[0,1]) (Zti N_FIRST_SPOT) Vk) (s_g 1)) (Zw (Uj (s_il (s_cb Zeg (Ye (Rw (Zr 0)) X4))) (s_g 2) (Uj (s_il (Tr (Rw (Zr 0)) (Zr 2))) (by symm) (Zei (Zr 1) (Zr 4) (s_op Zhx (Zhn (Zr 1) (Zr 4) Vk) (Tr (Zr 1) (Zr 2)))))) (Wn (Zr 1)))),λds M Kk hM hD h=>?_}
  let⟨x,b,s,n,y,kn,S,P,ks,rfl,h⟩:=h;let⟨hx,hs,G,k⟩:=h;let dc:∀m:MO,X0 (M++[m]) (.cell s)=some ([0,1],kvN (stL3 kn S P) ks):=λm=>by simp only[X0,Ur hs]
  let dn:∀c ka,X0 (M++[.dcN [0,1] none (kvN (cD c) ka)]) (.cell M.length)=some ([0,1],kvN (cD c) ka):=λc ka=>by simp only[X0,Yj]
  exists ·,rfl,Yj,?_;rw[Y5];let a8:=G.few;exists ·,x,Zt,_,·,Ur hx,cl,n3,rfl,_,·,dc _,by rw[Wt];lia,λws pm pw=>?_;rw[Zjd]at pm;let⟨B,pk,rfl⟩:=L2.W2 pm rfl;let pw:B.Pairwise λa b=>HT.lexLt (Sq a) (Sq b)=true:=(Jr.mp pw).imp λh=>by simpa using h
  let lb:B.length=ks.length:=pk.length_eq;rw[show(B.map Sq).map (λw=>D.nst (decP w))=B.map λsp=>D.nst (spN sp)from by rw[Ju];rfl];let lm:(B.map λsp=>D.nst (spN sp)).length=B.length:=Ja _;let a2:∀{ka:List Spot},ka.Nodup->(∀q∈ka,q=(0,[])\/q∈ks)->ka.length<=51001:=λnd J=>by
   let:=List.Nodup.length_le_of_subset nd (l₂:=(0,[])::ks) λq h=>(J q h).elim (λe=>by rw[e];exact Jh) (Jf _);rw[Jy]at this;lia
  exists ·,λi ρ M'=>∃v2 v3 Z ka,ρ=[some (.cell x),some (.cell M.length),v2,v3,Z]/\M'=M++[.dcN [0,1] none (kvN (cD (aC kn S P (B.take i))) ka)]/\CtOk (aC kn S P (B.take i)) ka/\∀q∈ka,q=(0,[])\/q∈ks,λ_ _ _ _ _=>rfl,{_,_,_,[(0,[])],rfl,rfl,{Ba _ _,λq=>?_},λq h=>.inl (Je.mp h)},?_,?_
  .show q∈[((0:Nat),([]:List Int))]↔0<(if q=(0,[])then 1 else 0)+0;rw[Je]
   split
   .rename_i e;exists λ_=>by decide,λ_=>e
   .rename_i e;exists λz=>Dx z e,λz=>Dx z nofun
  .rintro i x' ρ _ hi a0 ⟨v2,v3,Z,ka,rfl,rfl,ct,sb⟩;let⟨a1,rfl⟩:=Z4 a0;let hm:B[i]∈ks:=pk.mem_iff.mp (Js a1);rcases G.or_ with z|ko
   .rw[z]at hm;cases hm
   let g:=ko.gd _ hm;let a5:((stL kn S P B[i]).map stpD).length=(stL kn S P B[i]).length:=Ja _;let l2:(stL kn S P B[i]).length<=P.length:=Jx (Fp _ _) (Fd _ _);let lp:=G.len;exists ·,x,Zt,_,·,Ur hx,cl,n3,rfl,·,stL3 kn S P B[i],{_,_,_,dc _,rfl,rfl,(Xr hm).symm},·,λj ρ M'=>∃v3 Z c ka,ρ=[some (.cell x),some (.cell M.length),some (.nst (spN B[i])),v3,Z]/\M'=M++[.dcN [0,1] none (kvN (cD c) ka)]/\(∀q,c q=aC kn S P (B.take i) q+ah kn S P B[i]*((stL kn S P B[i]).take j).countP λx=>decide (x.2=q))/\CtOk c ka/\∀q∈ka,q=(0,[])\/q∈ks,λ_ _ _ _ _=>rfl,{_,_,_,ka,rfl,rfl,λq=>by rw[B7,List.countP_nil];rfl,ct,sb},?_,?_
   .rintro j x' ρ _ hj a0 ⟨v3,Z,c,ka,rfl,rfl,hc,ct,sb⟩;let⟨O,rfl⟩:=Z4 a0;let O:j<(stL kn S P B[i]).length:=O;let a3:(stL kn S P B[i])[j]∈stL kn S P B[i]:=Js O;let up:∀y∈stL kn S P B[i],B[i].1<y.2.1:=λy hy=>(Zlk G.ne g (Gi.mp hy).1).2;let c0:c B[i]=ah kn S P B[i]:=by
     rw[hc,Zds G.ne G.nd ko (Zkh G.ne g a3) (rest:=B.drop i) (by rw[J0];exact pk) (Zuq pw a1)];rw[List.countP_eq_zero.mpr,Nat.mul_zero,F8];intro y hy z;let h1:=up y (Gv hy);rw[Dw z]at h1;lia
    let ap:=Zks G.ne ko hm;let mk:B[i]∈ka:=(ct.mm _).mpr (by rw[c0];exact ap);let lt:(kvN (cD c) ka).length<Ca:=by
     rw[Wt];exact Gu (a2 ct.nd sb) nofun
    let⟨a6,a4,e',_⟩:=ct.add (stL kn S P B[i])[j].2 ap;exists ·,rfl,_,·,_,·,rfl,?_;exists ·,by rw[dn];exact(λz=>nomatch z),·,_,{_,_,_,dn _ _,rfl,rfl,rfl},?_;exists ·,·,_,{_,_,_,dn _ _,rfl,rfl,(Xr mk).symm},?_;rw[ct.get];exists ·,·,M.length,_,_,·,Yj,rfl,rfl,lt,.inl {_,_,addC c (stL kn S P B[i])[j].2 (ah kn S P B[i]),a6,rfl,?_,λq=>?_,a4,λq J=>?_}
    .rw[Y5,<-e',<-c0];rfl
    .unfold addC;rw[hc,Jd O,List.countP_append,List.countP_singleton]
     by_cases z:q=(stL kn S P B[i])[j].2
     .rw[D7 z,D7 (D8 z.symm),Nat.mul_add,Nat.mul_one,Br]
     .rw[D6 z,D6 (λy=>z (Dw y).symm),F8]
    .let h1:=(a4.mm q).mp J;unfold addC at h1
     by_cases z:q=(stL kn S P B[i])[j].2
     .exact .inr (by rw[z];exact ko.cl _ hm _ (Gi.mp a3).1)
     .rw[D6 z]at h1;exact sb q ((ct.mm q).mpr h1)
   .rintro ρ _ ⟨v3,Z,c,ka,rfl,rfl,hc,ct,sb⟩;let e:c=aC kn S P (B.take (i+1)):=funext λq=>by
     rw[hc,Zr0 kn S P a1,Gk (l:=stL kn S P B[i])]
     .rfl
     .exact Bz a5.symm
    subst e;exact .inl {_,_,_,ka,rfl,rfl,ct,sb}
  .rintro ρ _ ⟨v2,v3,Z,ka,rfl,rfl,ct,sb⟩;rw[show Ee _ B=B from by rw[show(B.map λsp=>D.nst (spN sp)).length=B.length from lm];exact Gb]at ct⊢;let e:∀q∈ka,aC kn S P B q=ah kn S P q:=λq J=>by
    let h:=(ct.mm q).mp J;rcases G.or_ with z|ko
    .let:B=[]:=G9.mp (by rw[lb,z];rfl);subst this;unfold aC at h⊢
     by_cases y:q=(0,[])
     .rw[D7 y,y,Zfk];rfl
     .rw[D6 y]at h;exact Dx h (Bb 0)
    .exact Zv2 G.ne G.nd ko pk h
   rw[Qf (g:=cD (ah kn S P)) λq J=>by unfold cD;rw[e q J]];exists ·,.inl (k ka {ct.nd,a2 ct.nd sb,sb,(ct.mm _).mpr ?_,λq J hc=>(ct.mm q).mpr ?_})
   .unfold aC;rw[if_pos rfl];lia
   .rcases G.or_ with z|ko
    .rw[z]at J;cases J
    .rw[Zds G.ne G.nd ko hc (rest:=[]) (by rw[Gg];exact pk) (λ_ h=>nomatch h)];exact Zks G.ne ko J
open L3
def Zpt{P:List Pr}{q:Spot}{x:Int×Spot}(h:x∈stO kn S P ks q):q∈ks/\x∈stL kn S P q:=by
 unfold stO at h
 by_cases z:q∈ks
 .rw[D7 z]at h;exists z,h
 .rw[D6 z]at h;cases h
theorem Jcx(T:Txt mg){C:Addr}(cl:Cls K Zt)(n2:Y4 K Zt "behind")(n3:Y4 K Zt "steps")(Ww:Cal P w K mg base "counts_ahead" 1 q23 (spOf ⟨C,K⟩ (dAhead Zt)))(F:Fun K "sign_counts" "sign_counts" W4 f fd):FnOk P w K mg base CX0 2 f fd q23 (spOf ⟨C,K⟩ (dSignC Zt)):=by
 refine L3.Fun.ok3 F Jbw (λds M K3 h=>?_) (λb8 A outer s H E hr=>?_)
 .let⟨x,b,s,n,kn,S,P,ks,kb,rfl,_⟩:=h;rfl
 .let SC:=Jbw;let hu:=hr.units;let a3:=Xy hr;let Qq:Room 1 _:=hr.mono nofun;refine{_,_,(Zb (Zq (i:=1) SC.nd rfl (Ci rfl) (Zv Ww Qq rfl (Za (pv 0) Zd)))
 (Zb (Zq (i:=2) SC.nd rfl (Ci rfl) No)
 (Zb (Y1 Co rfl (Zeo (K:=K) rfl (pv 1)) (Zl (i:=3) SC.nd rfl (Ci rfl))
 (Zg (Y1 Co rfl (Z5 (Zeq (K:=K) rfl (Wy hr) (Wa (pv 0) rfl) (pv 3) (Y6 Zd) ⟨rfl,rfl,rfl,rfl⟩)) (Xq (n:=2) rfl (Zu (Zl (i:=4) SC.nd rfl (Ci rfl)) (Zu (Zl (i:=5) SC.nd rfl (Ci rfl)) Yw)) (by rfl))
 (Zb (Zq (i:=6) SC.nd rfl (Ci rfl) (Z0 Zd5 (W7 (K:=K) rfl (Wy hr) (pv 1) (pv 3) (λ_ _=>rfl)) (W7 (K:=K) rfl (Wy hr) (Wa (pv 0) rfl) (pv 5) (λ_ _=>rfl))))
 (Zg (Zct a3 (pv 2) (Yc (Za (Z3 (Yl (K':=K) rfl) (pv 3) Zf (λ_ _=>rfl)) (Za (pv 4) Zd))) (Z0 (Yp (K':=K) rfl) (Zer a3 (pv 2) (Yc (Za (Z3 (Yl (K':=K) rfl) (pv 3) Zf (λ_ _=>rfl)) (Za (pv 4) Zd))) Zf ⟨rfl,rfl,rfl,rfl⟩) (pv 6)) rfl))))))
 (Zg (Zy (pv 2)))))),λ_=>(Zw (by symm) (Zw (Y7 Zhs (s_g 2)) (Zw (Uj (Ztn (Zr 1)) (s_g 3) (Uj (s_il (Zhn (Rw (Zr 0)) (Zr 3) (Ztm X4))) (by symm) (Zw (Y7 (s_op Ztj (Tr (Zr 1) (Zr 3)) (Tr (Rw (Zr 0)) (Zr 5))) (s_g 6)) (Zn0 (Zr 2) (Zfv (Ye (s_op Zho (Zr 3) Vk) (by symm))) (s_op Zhx (Zht (Zr 2) (Zfv (Ye (s_op Zho (Zr 3) Vk) (by symm))) Vk) (Zr 6)))))) (Wn (Zr 2))))),λds M Kk hM hD h=>?_}
  let⟨x,b,s,n,kn,S,P,ks,kb,rfl,h⟩:=h;let⟨hx,hb,hs,pk,Z,sm,k⟩:=h;exists ·,x,b,s,n,none,kn,S,P,ks,rfl,hx,hs,Z,λka hA=>?_;let e1:(M++[MO.dcN [0,1] none (kvN (cD (ah kn S P)) ka)]).length=M.length+1:=by rw[Jc];rfl
  let e2:∀a c:MO,M++[a]++[c]=M++[a,c]:=λa c=>by rw[Jn];rfl
  exists ·,M.length,[0,1],none,·,by rw[e2];exact two0,λz=>?_;rw[e1,e2,Ztd];generalize a4:MO.dcN [0,1] (some z) (kvN (cD (ah kn S P)) ka)=Az;let b6:∀c:MO,X0 (M++[Az,c]) (.cell M.length)=some ([0,1],kvN (cD (ah kn S P)) ka):=λc=>by simp only[X0,two0,<-a4]
  let b5:∀c:MO,X0 (M++[Az,c]) (.cell b)=some ([0,1],kvN (cntD kn S P) kb):=λc=>by simp only[X0,Ur hb]
  let a6:∀c:MO,X0 (M++[Az,c]) (.cell s)=some ([0,1],kvN (stL3 kn S P) ks):=λc=>by simp only[X0,Ur hs]
  let a5:∀kvs,Re (M++[Az,.dcT kvs]) (.cell (M.length+1))=some kvs:=λkvs=>by simp only[Re,two1]
  let lP:=Z.len;let a1:∀{kp:List (Nat×Int)},kp.Nodup->(∀p∈kp,p∈grid P)->kp.length<=12864:=λnd hq=>by
   let:=Ue nd hq;rw[Ze5]at this;lia
  exists λi ρ M'=>∃v3 Y O J kp,ρ=[some (.cell x),some (.cell M.length),some (.cell (M.length+1)),v3,Y,O,J]/\M'=M++[Az,.dcT (kvP (sO kn S P ks (ka.take i)) kp)]/\DcOk (sO kn S P ks (ka.take i)) kp/\∀p∈kp,p∈grid P,λi ρ M' _⟨_,_,_,_,_,_,e,_⟩=>by rw[e,<-a4];exact two0,{_,_,_,_,[],rfl,rfl,{Fe,λp=>{(λz=>nomatch z),λz=>Dx z (Bb 0)}},(λ_ z=>nomatch z)},?_,?_
  .rintro i y ρ _ hi hy ⟨v3,Y,O,J,kp,rfl,rfl,ct,sb⟩;let⟨kv,e,rfl⟩:=hy;let a0:i<ka.length:=by
    let:i<(kvN (cD (ah kn S P)) ka).length:=hi;rwa [Wt]at this
   unfold kvN at e;rw[Gc,Jb a0]at e;cases e;let hm:=Js a0;let a8:((stO kn S P ks ka[i]).map stpD).length=(stO kn S P ks ka[i]).length:=Ja _;exists ·,x,Zt,_,·,Ur hx,cl,n3,rfl,by rw[a6];exact(λz=>nomatch z),·,(show 0<=Ca by decide),_,{_,_,_,a6 _,rfl,rfl,rfl},?_;rw[Zps];exists ·,λj ρ M'=>∃Y O J g kp,ρ=[some (.cell x),some (.cell M.length),some (.cell (M.length+1)),some (.nst (spN ka[i])),Y,O,J]/\M'=M++[Az,.dcT (kvP g kp)]/\(∀p,g p=sO kn S P ks (ka.take i) p+wJ kn S P ((stO kn S P ks ka[i]).take j) ka[i] p)/\DcOk g kp/\∀p∈kp,p∈grid P,λ_ _ _ _ _=>rfl,{_,_,_,_,kp,rfl,rfl,λp=>?_,ct,sb},?_,?_
   .rw[B7];unfold wJ;rw[Jb9,F6,List.sum_nil,ite_self,F8]
   .rintro j y ρ _ hj hy ⟨Y,O,J,g,kp,rfl,rfl,hg,ct,sb⟩;let⟨B,rfl⟩:=Z4 hy;let B:j<(stO kn S P ks ka[i]).length:=B;let b3:(stO kn S P ks ka[i])[j]∈stO kn S P ks ka[i]:=Js B;let⟨hk,b2⟩:=Zpt b3;rcases Z.or_ with z|ko
    .rw[z]at hk;cases hk
    let a2:kn.length<=200:=Z.lk.resolve_left λz=>by rw[z]at hk;cases hk
    let hF:=Gi.mp b2;let G:(stO kn S P ks ka[i])[j].2∈ks:=ko.cl _ hk _ hF.1;let cp:0<cnt kn S P (stO kn S P ks ka[i])[j].2:=Dw hF.2;let ap:=Zks Z.ne ko hk;generalize hw:(stO kn S P ks ka[i])[j]=w at *
    let vp:0<ah kn S P ka[i]*cnt kn S P w.2:=Nat.mul_pos ap cp;let⟨b1,b7,e',a7⟩:=ct.add (ka[i].1,w.1) vp;let b4:(ka[i].1,w.1)∈grid P:=by
     let⟨p,hp,e⟩:=F5.mp hF.1;let⟨q,_,e⟩:=G5.mp e;exact Ze4 (Jx (ko.gd _ hk).2.1 a2) (Jk.mpr {p,hp,by rw[<-e]})
    let lt:(kvP g kp).length<Ca:=by
     unfold kvP;rw[Ja];exact Gu (a1 ct.nd sb) nofun
    exists ·,rfl,_,·,_,·,rfl,?_;exists ·,·,_,{_,_,_,b6 _,rfl,rfl,(Xr hm).symm},·,x,Zt,_,·,Ur hx,cl,n2,rfl,·,_,{_,_,_,b5 _,rfl,rfl,(Xr (pk.mem_iff.mpr G)).symm},.inr ?_,?_
    .let:=sm _ G;show -(2 ^ 64)<((cnt kn S P w.2:Nat):Int)/\((cnt kn S P w.2:Nat):Int)<2 ^ 64;exact{(),()}
    exists ·,.inr (by rw[a5];exact(λz=>nomatch z)),?_;exists ·,_,_,·,rfl,rfl,·,(show 2<=Ca by decide),_,.inr {_,pkK (ka[i].1,w.1),a5 _,rfl,rfl},?_;rw[ct.get];exists ·,·,·,_,_,·,rfl,rfl,·,(show 2<=Ca by decide),_,.inr {M.length+1,_,pkK (ka[i].1,w.1),rfl,two1,rfl,lt,rfl},.inl {_,_,_,addP g (ka[i].1,w.1) (ah kn S P ka[i]*cnt kn S P w.2),b1,rfl,?_,λp=>?_,b7,λp hp=>?_}
    .rw[Zpz,<-e'];rfl
    .rw[Jd B,hw,Zoz];unfold addP;rw[hg]
     split
     .rw[Br]
     .rfl
    .rcases a7 p hp with z|z
     .rw[z];exact b4
     .exact sb p z
   .rintro ρ _ ⟨Y,O,J,g,kp,rfl,rfl,hg,ct,sb⟩;let e:g=sO kn S P ks (ka.take (i+1)):=funext λp=>by
     rw[hg,Zp9 a0,Gk (l:=stO kn S P ks ka[i])];exact Bz a8.symm
    subst e;exact .inl {_,_,_,_,kp,rfl,rfl,ct,sb}
  .rintro ρ _ ⟨v3,Y,O,J,kp,rfl,rfl,ct,sb⟩;rw[show Ee _ ka=ka from by rw[show(nIt M.length [0,1] z (kvN (cD (ah kn S P)) ka)).n=ka.length from Wt _ _];exact Gb]at ct⊢;exists ·,.inl (k _ _ kp ct (a1 ct.nd sb) (λe=>List.eq_nil_iff_forall_not_mem.mpr λp hp=>?_) λko p=>Ztu Z.ne Z.nd ko hA p);let h:=(ct.mm p).mp hp;rw[Ztt e]at h;exact Dx h (Bb 0)
open L3
theorem Zun{E:List (Option Int)}{n:Int}(hI:LvIn S1 S E)(y:match knF S E with|none=>n=0/\ks=[]|some J=>kn=J/\n=kn.length/\KeysOk kn S (Yk S1) ks):LvC kn S (Yk S1) ks:=by
 let⟨fr1,O,fr,fi,hE⟩:=hI;let Z:(Yk S1).length<64:=by rw[(Yo S1).length_eq];exact O.1
 let B:NeW (Yk S1):=λp hp=>(O.2 p ((Yo S1).mem_iff.mp hp)).1;let G:(Yk S1).Nodup:=(Yo S1).nodup_iff.mpr (L3.Free.nd fr1);cases e:knF S E with
 |none =>
  rw[e]at y;exists B,G,Z,by rw[y.2];exact Ge _,.inl y.2,.inl y.2
 |some J =>
  rw[e]at y;let⟨rfl,_,Y⟩:=y;let h:kn.length<=200:=Jx (Po fi e) ();exists B,G,Z,Zaa fi h Y.nd Y.gd,.inr Y,.inr h
theorem Jdm(T:Txt mg){C:Addr}(Q6:Mkr P w K mg base "Leaving" Zt 7 q12 (spOf ⟨C,K⟩ (dLeav Zt)))(Vf:Cal P w K mg base "sign_counts" 2 q23 (spOf ⟨C,K⟩ (dSignC Zt)))(F:Fun K "doubts" "doubts" Nh f fd):FnOk P w K mg base CX0 9 f fd q21 (spOf ⟨C,K⟩ dDoubts):=by
 refine L3.Fun.ok3 F Jax (λds M K3 h=>?_) (λa4 A outer s H E Y=>?_)
 .let⟨S1,S,d,E,rfl,_⟩:=h;rfl
 .let SC:=Jax;let hu:=Y.units;let a1:=Xy Y;let a2:Room 8 _:=Y.mono nofun;let Pa:Room 2 _:=Y.mono nofun;refine{_,_,(Zb (Zq (i:=3) SC.nd rfl (Cy rfl) (Zv Vf Pa rfl (Za (Zub Q6 a2 rfl (Za (pv 0) (Za (pv 1) (Za (pv 2) Zd)))) Zd)))
 (Zg (Zy (Yi (T:=["place","sign"]) (cs:=[3]) rfl (CScope.ok (by kernel_rfl)) (Z5 (Zn (Qy rfl) (by rfl) T.b_sorted C2 (Za (pv 3) Zd))) (λ_ _ _ _=>(Xq (n:=2) rfl (Zu (Zl (i:=0) (Ys (by kernel_rfl)) rfl (Ci rfl) (Cy rfl)) (Zu (Zl (i:=1) (Ys (by kernel_rfl)) rfl (Ci rfl) (Cy rfl)) Yw)) (by rfl))) (λ_ _ _ _=>Ym) (λ_ _ _ _=>(Yc (Za (pv 0) (Za (pv 1) (Za (R8 a1 (pv 2) (Yc (Za (pv 0) (Za (pv 1) Zd))) (λ_ _=>rfl)) Zd))))) (Vz (Z8 nofun (Z8 nofun Wd))))))),λ_=>(Zw (Y7 (Za6 (Ye (Zw5 (by symm)) X4)) (s_g 3)) (Wn (Zhu (s_il (s_cb Zeh (by symm))) (by symm) Um (Zfv (Ye (Zr 0) (Ye (Zr 1) (Ye (Za5 (Zr 2) (by symm)) X4))))))),λds M Kk hM hD h=>?_}
  let⟨S1,S,d,E,rfl,h⟩:=h;let⟨hd,hI,hS,k⟩:=h;exists ·,·,·,M.length,S1,S,d,E,rfl,Yj,Zi5 hd,hI,λM1⟨o,J,e⟩hL=>{rfl,?_};let p:M<+:M1:=by rw[e,Y5,Jn];exact Go _ _
  let⟨b,s,n,kn,ks,kb,hx,hb,hs,pk,B⟩:=hL;let sm:∀q∈ks,cnt kn S (Yk S1) q<2 ^ 64:=λq hq=>by
   cases e:knF S E with
   |none =>
    rw[e]at B;rw[B.2]at hq;cases hq
   |some a0 =>
    rw[e]at B;let⟨rfl,_,ko⟩:=B;exact hS _ e q (ko.gd q hq)
  refine{M.length,b,s,n,kn,S,Yk S1,ks,kb,rfl,hx,hb,hs,pk,Zun hI B,sm,λm g kp dc a3 e0 ed=>?_};let eg:g=dbO S1 S E\/kp=[]/\∀p,dbO S1 S E p=0:=by
   unfold dbO;cases e:knF S E with
   |none =>
    rw[e]at B;exact .inr {e0 B.2,λ_=>rfl}
   |some a0 =>
    rw[e]at B;let⟨rfl,_,ko⟩:=B;exact .inl (funext λp=>ed ko p)
  let O:Re (M1++[m,.dcT (kvP g kp)]) (.cell (M1.length+1))=some (kvP g kp):=by simp only[Re,two1]
  let lz:(kp.map λp=>(Wk p,D.int (g p))).length=kp.length:=Ja _;let inj:∀{a b:Nat×Int},Wk a=Wk b->a=b:=λh=>U4 (by unfold pkK;exact congrArg wk h);exists ·,.cell (M1.length+1),kp.map λp=>(Wk p,D.int (g p)),rfl,by rw[O,Ju];rfl,{by rw[lz];lia,λz hz=>?_,?_},λws pm pw=>?_
  .let⟨p,_,rfl⟩:=Jk.mp hz;exact(λz=>nomatch z)
  .rw[Ju];exact List.Pairwise.map _ (λa b h z=>h (inj z)) dc.nd
  rw[Ju]at pm;let⟨y,Z,rfl⟩:=L2.W2 pm rfl;let pw:y.Pairwise λa b=>HT.lexLt (Wk a) (Wk b)=true:=Jr.mp pw;let lq:y.length=kp.length:=Z.length_eq;rw[Ju];let lm:(y.map (wD ∘ Wk)).length=y.length:=Ja _;exists ·,?_,λj ys M'=>M'=M1++[m,.dcT (kvP g kp)]/\ys=(y.take j).map (trD g),λ_ _ _ _ _=>rfl,⟨rfl,rfl⟩,?_,?_
  .show(y.map (wD ∘ Wk)).length<=Ca;rw[lm];exact Jx (by lia:_<=12864) nofun
  .rintro j x ys _ hj hx ⟨rfl,rfl⟩;let⟨G,rfl⟩:=Z4 hx;let hm:y[j]∈kp:=Z.mem_iff.mp (Js G);exists ·,rfl,_,·,_,·,rfl,?_;exists ·,·,·,·,·,(show 2<=Ca by decide),_,.inr {_,pkK y[j],O,rfl,(N6 hm).symm},(show 3<=Ca by decide),rfl,?_;rw[Jd G,Jj];rfl
  .rintro ys _ ⟨rfl,rfl⟩;rw[Gk (l:=y)]
   .unfold Zd7;rw[Jc,Jn];let l1:M.length<=M1.length:=p.length_le;refine .inl (k _ _ y (p.trans (Go _ _)) () ?_ {pw,λq=>?_} ())
    .rw[J8 (Nat.le_add_right _ _),B2];rcases eg with rfl|⟨e,_⟩
     .rfl
     .rw[show y=[]from G9.mp (by rw[lq,e];rfl)];rfl
    .rw[Z.mem_iff];rcases eg with rfl|⟨e,e2⟩
     .exact dc.mm q
     .rw[e,e2];exists(λz=>nomatch z),λz=>Dx z (Bb 0)
   .exact Bz lm.symm
open L3
def Zpn{L':List Pr}{bs:List Int}(h:TbK L bs)(s:L'.Sublist L):TbK L' bs:={Jb6 s h.fr,{Gu s.length_le h.fi.1,λp y=>h.fi.2 p (s.subset y)},λp y=>h.by_ p (s.subset y),Jx s.length_le h.ln}
theorem Zqi{xs:List τ}(y:j<xs.length):L2.atI xs ((j:Int)-1)=xs[(j+xs.length-1) % xs.length]?:=by
 unfold L2.atI ixN
 by_cases h:j=0
 .subst h;rw[D6 (),D7 (),show(0+xs.length-1) % xs.length=xs.length-1 from by rw[Bu];exact Do ()];show xs[_]?=_
  congr 1
  lia
 .rw[D7 (),D7 (),show(j+xs.length-1) % xs.length=j-1 from by rw[show j+xs.length-1=(j-1)+xs.length by lia,Nat.add_mod_right];exact Do ()];show xs[_]?=_
  congr 1
  lia
def turned(L:List Pr):List Pr:=(Cv L.length).map λj=>(((L[(j+L.length-1) % L.length]?).getD (0,[])).1,((L[j]?).getD (0,[])).2)
def Xc(L:List Pr):(turned L).length=L.length:=by unfold turned;rw[Ja,List.length_range]
def Ti(y:j<(turned L).length):(turned L)[j]=(((L[(j+L.length-1) % L.length]?).getD (0,[])).1,((L[j]?).getD (0,[])).2):=by
 refine(List.getElem_eq_iff y).mpr ?_;let h:j<L.length:=by rwa [Xc]at y
 unfold turned;rw[Gc,List.getElem?_range h];rfl
theorem Zfs{bs:List Int}(h:TbK L bs):TbK (turned L) bs:=by
 let wm:∀p∈turned L,∃q∈L,p.2=q.2:=λp B=>by
  let⟨j,G,rfl⟩:=Gh B;let y:j<L.length:=by rwa [Xc]at G
  rw[Ti G];exact{L[j],Js y,by rw[Jb y];rfl}
 refine{?_,{by rw[Xc];exact h.fi.1,λp B=>?_},λp B=>?_,by rw[Xc];exact h.ln}
 .unfold Free;rw[Gx];intro i j hi G a0;let J:i<L.length:=by rwa [Xc]at hi
  let y:j<L.length:=by rwa [Xc]at G
  let Y:=Nat.mod_lt (i+L.length-1) (show 0<L.length by lia);let O:=Nat.mod_lt (j+L.length-1) (show 0<L.length by lia);rw[Ti hi,Ti G,Jb J,Jb y,Jb Y,Jb O];let ap:=h.fr.get J y a0;refine{?_,ap.2};let ne:(i+L.length-1) % L.length≠(j+L.length-1) % L.length:=λe=>by
   let e2:(j+L.length-1) % L.length=j-1:=by rw[show j+L.length-1=(j-1)+L.length by lia,Nat.add_mod_right];exact Do ()
   by_cases z:i=0
   .subst z;rw[e2,show(0+L.length-1) % L.length=L.length-1 from by rw[Bu];exact Do ()]at e;lia
   .rw[e2,show(i+L.length-1) % L.length=i-1 from by rw[show i+L.length-1=(i-1)+L.length by lia,Nat.add_mod_right];exact Do ()]at e;lia
  show(L[(i+L.length-1) % L.length]).1≠(L[(j+L.length-1) % L.length]).1;rcases Nat.lt_or_gt_of_ne ne with z|z
  .exact(h.fr.get Y O z).1
  .exact λe=>(h.fr.get O Y z).1 e.symm
 .let⟨q,Z,e⟩:=wm p B;rw[e];exact h.fi.2 q Z
 .let⟨q,Z,e⟩:=wm p B;rw[e];exact h.by_ q Z
def Zg4{bs:List Int}{y:List (List Pr)}(h:T3Ok bs y)(i:Nat)(G:TbK L bs):T3Ok bs (y.set i L):={by rw[B1];exact h.1,λX B=>(List.mem_or_eq_of_mem_set B).elim (h.2 X) λe=>by rw[e];exact G}
theorem Jcg(T:Txt mg){C:Addr}(Zk:Cal P w K mg base "_law_draw" 1 q00 (spOf ⟨C,K⟩ dDraw))(Ub:Cal P w K mg base "_law_bytes" 2 q19 (spOf ⟨C,K⟩ dBytes))(V8:Cal P w K mg base "_law_words" 2 q04 (spOf ⟨C,K⟩ dWordsC))(Ua:Cal P w K mg base "_law_signs" 2 q00 (spOf ⟨C,K⟩ dSigns))(V9:Cal P w K mg base "_law_table" 2 q06 (spOf ⟨C,K⟩ dTable))(F:Fun K "_law_tables" "_law_tables" Jbh f fd):FnOk P w K mg base CX0 4 f fd ["_law_hand"] (spOf ⟨C,K⟩ dTabs71):=by
 refine L3.Fun.ok3 F Jct (λds M K3 h=>?_) (λb5 A outer s H E Z=>?_)
 .let⟨k,rfl,_⟩:=h;rfl
 .let SC:=Jct;let hu:=Z.units;let b4:=Xy Z;let Zj:Room 1 _:=Z.mono nofun;let a6:Room 2 _:=Z.mono nofun;let b1:Room 2 _:=Z.mono nofun;let a7:Room 2 _:=Z.mono nofun;let a8:Room 2 _:=Z.mono nofun;refine{_,_,(Zb (Zq (i:=1) SC.nd rfl (Cy rfl) (Zv Ub a6 rfl (Za (pv 0) (Za Zf Zd))))
 (Zb (Zq (i:=2) SC.nd rfl (Cy rfl) (Zv Ua a7 rfl (Za (pv 0) (Za Zf Zd))))
 (Zb (Zq (i:=3) SC.nd rfl (Cy rfl) (Yi (T:=["_law_k"]) (cs:=[0,1,2]) rfl (CScope.ok (by kernel_rfl)) (Yq rfl T.b_range (Za Zf Zd)) (λ_ _ _ _=>(Zl (i:=0) (Ys (by kernel_rfl)) rfl (Ci rfl) (Cy rfl))) (λ_ _ _ _=>Ym) (λ_ _ _ _=>(Zv V9 a8 rfl (Za (pv 1) (Za (Zv V8 b1 rfl (Za (pv 1) (Za (pv 2) (Za Zf (Za Zf Zd))))) (Za (pv 3) Zd))))) (Yt nofun)))
 (Zb (Yz (Z1 (Zay (K':=K) rfl hu) (Zv Zk Zj rfl (Za (pv 0) (Za Zf Zd))) Zf (Ya _))
 (Zg (Pj (Yi (T:=["_law_pair"]) (cs:=[0]) rfl (CScope.ok (by kernel_rfl)) (Z5 (Z3 (Yl (K':=K) rfl) (pv 3) Zf (λ_ _=>rfl))) (λ_ _ _ _=>(Zl (i:=0) (Ys (by kernel_rfl)) rfl (Ci rfl) (Cy rfl))) (λ_ _ _ _=>(W6 (Z1 Nx (Zv Zk Zj rfl (Za (pv 1) (Za Zf Zd))) Zf (Ya _)))) (λ_ _ _ _=>(pv 0)) (Yt nofun)) (Zep (pv 3) Zf Tp)))
 Z2)
 (Zb (Zq (i:=4) SC.nd rfl (Ci rfl) (Zv Zk Zj rfl (Za (pv 0) (Za Zf Zd))))
 (Zb (Yz (Z1 Nx (pv 4) Zf (Ya _))
 (Zg (Pj (Yi (T:=["_law_k"]) (cs:=[3]) rfl (CScope.ok (by kernel_rfl)) (Yq rfl T.b_range (Za (Zn (Yy (K:=K) rfl) (by rfl) T.b_len Jab (Za (Z3 (Yl (K':=K) rfl) (pv 3) Zf (λ_ _=>rfl)) Zd)) Zd)) (λ_ _ _ _=>(Zl (i:=0) (Ys (by kernel_rfl)) rfl (Ci rfl) (Cy rfl))) (λ_ _ _ _=>Ym) (λ_ _ _ _=>(Yc (Za (Z3 (Yl (K':=K) rfl) (Z3 (Yl (K':=K) rfl) (Z3 (Yl (K':=K) rfl) (pv 1) Zf (λ_ _=>rfl)) (Z0 Zet (pv 0) Zf) (λ_ _=>rfl)) Zf (λ_ _=>rfl)) (Za (Z3 (Yl (K':=K) rfl) (Z3 (Yl (K':=K) rfl) (Z3 (Yl (K':=K) rfl) (pv 1) Zf (λ_ _=>rfl)) (pv 0) (λ_ _=>rfl)) Zf (λ_ _=>rfl)) Zd)))) (Yt nofun)) (Zep (pv 3) Zf Tp)))
 Z2)
 (Zb (Yz (Z1 (Zay (K':=K) rfl hu) (pv 4) Zf (Ya _))
 (Zg (Pj (Yi (T:=["_law_pair"]) (cs:=[0]) rfl (CScope.ok (by kernel_rfl)) (Z5 (Z3 (Yl (K':=K) rfl) (pv 3) Zf (λ_ _=>rfl))) (λ_ _ _ _=>(Zl (i:=0) (Ys (by kernel_rfl)) rfl (Ci rfl) (Cy rfl))) (λ_ _ _ _=>(W6 (Z1 Nx (Zv Zk Zj rfl (Za (pv 1) (Za Zf Zd))) Zf (Ya _)))) (λ_ _ _ _=>(pv 0)) (Yt nofun)) (Zep (pv 3) Zf Tp)))
 Z2)
 (Zg (Zy (Yc (Za (pv 3) (Za (Z3 (Yl (K':=K) rfl) (Y6 (Za Zf (Za Zf Zd))) (Z0 Zet (Zn (Yy (K:=K) rfl) (by rfl) T.b_len Jab (Za (pv 1) Zd)) Zf) (λ_ _=>rfl)) (Za (pv 2) Zd))))))))))))),λ_=>(Zw (by symm) (Zw (by symm) (Zw (Y7 (Zhu (by symm) (s_g 0) Um (by symm)) (s_g 3)) (Zw (Uw (by symm) (Y7 (by symm) (Zhp (Zr 3) Vk)) W0) (Zw (by symm) (Zw (Uw (by symm) (Y7 (by symm) (Zhp (Zr 3) Vk)) W0) (Zw (Uw (by symm) (Y7 (by symm) (Zhp (Zr 3) Vk)) W0) (by symm)))))))),λds M Kk hM hD h=>?_}
  let⟨k,rfl,h⟩:=h;let⟨hk,kk⟩:=h;let a0:∀{X:Mem},(M++X)[k]?=some .hand:=Ur hk;exists ·,k,3,rfl,hk,⟨nofun,nofun⟩,λbs nd b2 b3 _=>?_;let hb:bs.length=2\/bs.length=3:=by lia
  exists ·,k,14,rfl,hk,⟨nofun,nofun⟩,λss a4 ls=>?_;exists 3,rfl,⟨nofun,nofun⟩,(show 3<=Ca by decide),λj ys O=>M=O/\∃y:List (List Pr),ys=y.map tbl/\y.length=j/\∀L∈y,TbK L bs,λ_ _ _ _ _=>trivial,{rfl,[],rfl,rfl,λ_ h=>nomatch h},?_,?_
  .rintro j x ys _ hj rfl ⟨rfl,y,rfl,rfl,G⟩;exists ·,·,·,k,bs,2,3,rfl,hk,{nd,(λe=>by rw[e]at b2;simp at b2),(),nofun,nofun,nofun,nofun},λws wo hw wl=>?_;exists ·,k,ws,ss,rfl,hk,{wo,(),a4,(),()},λL fr fi pm=>{rfl,y++[L],by rw[Jj];rfl,by rw[Jc];rfl,λX hX=>?_};rcases Jv.mp hX with hX|hX
   .exact G X hX
   .rw[Je.mp hX];exists fr,fi,λp hp=>hw p.2 (pm.mem_iff.mp (Bw hp)),?_;let:=pm.length_eq;rw[Ja]at this;lia
  rintro ys _ ⟨rfl,y,rfl,a1,G⟩;let B:T3Ok bs y:=⟨a1,G⟩;clear a1 G
  let' St:Ev->Mem->Prop:=λY O=>∃(y:List (List Pr))(v4:Option D),Y=[some (.cell k),some (.lst (bs.map .int)),some (.lst (ss.map .int)),some (.cell M.length),v4]/\O=M++[.lst (y.map tbl)]/\T3Ok bs y
  let part:∀{y:List (List Pr)}{F:List D->Mem->Prop}{ρ:Ev}{sc:List Str}{cs:List Nat},T3Ok bs y->(∀x,(sg3 ρ sc cs).set 0 x=[x,some (.cell k)])->ρ[3]?=some (some (.cell M.length))->(∀L:List Pr,TbK L bs->F (L.map pD) (M++[.lst (y.map tbl)]))->cmp3 (uIL (uOp ix3 (uVar 3) (uC (D.int 1)))) (uG 0) (uB3 (uOp (int30 λi j=>D.bl (decide (j<i))) (Zpl dDraw (P5 (uVar 1) (P5 (uC (D.int 3)) uNil))) (uC (D.int 0)))) (uVar 0) sc cs ρ (M++[.lst (y.map tbl)]) F:=by
   intro y F ρ sc cs B hs h3 hF;let h1:1<y.length:=by rw[B.1];decide
   exists _,h3,_,_,_,(Vv Vw).2.2,rfl,Yu (f:=tbl) (as:=y) (j:=1) rfl h1,·,?_,λi ys O=>O=M++[.lst (y.map tbl)]/\∃L',ys=L'.map pD/\L'.Sublist (y[1].take i),λ_ _ _ _ _=>rfl,{rfl,[],rfl,List.nil_sublist _},?_,?_
   .show(y[1].map pD).length<=Ca;rw[Ja];let:=(B.2 _ (Js h1)).ln;exact Zi ()
   .rintro i x ys _ hi hx ⟨rfl,L',rfl,sl⟩;let⟨a2,rfl⟩:=Z4 hx;show uB3 _ ((sg3 ρ sc cs).set 0 (some (pD y[1][i]))) _ _;rw[hs];exists ·,k,3,rfl,a0,⟨nofun,nofun⟩,λr r0 r1=>{_,_,rfl,rfl,_,rfl,ite2 (λ_=>?_) (λ_=>?_)}
    .exact{_,rfl,rfl,L'++[y[1][i]],by rw[Jj];rfl,by rw[Jd a2];exact sl.append (Jeq _)}
    .exact{rfl,L',rfl,by rw[Jd a2];exact sl.trans (List.sublist_append_left _ _)}
   .rintro ys _ ⟨rfl,L',rfl,sl⟩;exact hF L' (Zpn (B.2 _ (Js h1)) (sl.trans (B5 _ _)))
  let put:∀{y:List (List Pr)}{L:List Pr}{i:Nat}{K':Ev->Mem->Prop}{ρ:Ev},T3Ok bs y->i<3->ρ[3]?=some (some (.cell M.length))->K' ρ (M++[.lst ((y.set i L).map tbl)])->Zsi (uVar 3) (uC (D.int (i:Int))) (.lst (L.map pD)) ρ (M++[.lst (y.map tbl)]) K':=by
   intro y L i K' ρ B hi h3 hk;exists _,h3,M.length,_,_,i,rfl,rfl,Yj,?_,?_
   .rw[Ja,B.1];exact(Zu0 () ()).trans (by rw[G2])
   .rw[Y5,<-List.map_set];exact hk
  refine g_nx ?_
  try dsimp only
  refine Zg6 St (λKn hn=>?_) ?_
  .exists ·,k,2,rfl,a0,⟨nofun,nofun⟩,λr r0 r1=>Vc W3 (a:=r) (b:=0) {_,rfl,ite2 (λ_=>?_) (λ_=>hn _ _ {y,_,rfl,rfl,B})};exact part B (λ_=>rfl) rfl λL tb=>put (i:=1) B nofun rfl (hn _ _ {_,_,rfl,rfl,Zg4 B 1 tb})
  rintro _ _ ⟨y,v4,rfl,rfl,B⟩;exists ·,k,3,rfl,a0,⟨nofun,nofun⟩,λr r0 r1=>g_nx ?_
  try dsimp only
  let' a3:Ev->Mem->Prop:=λY O=>∃(y:List (List Pr)),Y=[some (.cell k),some (.lst (bs.map .int)),some (.lst (ss.map .int)),some (.cell M.length),some (.int r)]/\O=M++[.lst (y.map tbl)]/\T3Ok bs y
  refine Zg6 a3 (λKn hn=>?_) ?_
  .exists ·,_,·,rfl,·,ite2 (λ_=>?_) (λ_=>hn _ _ ⟨y,rfl,rfl,B⟩);let h1:1<y.length:=by rw[B.1];decide
   let J:=Yu (f:=tbl) (as:=y) (i:=1) (j:=1) rfl h1;let tb:=B.2 _ (Js h1);generalize hL:y[1]=L at J tb;let lm:(L.map pD).length=L.length:=Ja _;exists ·,_,_,_,(Vv Vw).2.2,rfl,J,·,(L.length:Int),by rw[lm],{(),by have:=tb.ln;lia},?_,λj ys O=>O=M++[.lst (y.map tbl)]/\ys=((turned L).take j).map pD,λ_ _ _ _ _=>trivial,⟨rfl,rfl⟩,?_,?_
   .show((L.length:Int)).toNat<=Ca;rw[G2];let:=tb.ln;exact Zi ()
   .rintro j x ys _ hj rfl ⟨rfl,rfl⟩;let hj:j<L.length:=by
     let:j<((L.length:Int)).toNat:=hj;rwa [G2]at this
    let mj:=Nat.mod_lt (j+L.length-1) (show 0<L.length by lia);let pv:L2.atI (L.map pD) ((0+(j:Int))-1)=some (pD L[(j+L.length-1) % L.length]):=by
     rw[L8];let:=Zqi (xs:=L.map pD) (j:=j) (by rw[lm];exact hj);rw[lm,Gc,Jb mj]at this;exact this
    exists ·,_,_,_,(Vv Vw).2.2,rfl,J,·,_,·,rfl,_,_,·,rfl,pv,_,_,·,rfl,rfl,?_;exists ·,_,_,_,(Vv Vw).2.2,rfl,J,·,_,_,·,rfl,Yu (f:=pD) (as:=L) (j:=j) () hj,_,_,·,rfl,rfl,(show 2<=Ca by decide),rfl,?_;rw[Jd (by rw[Xc];exact hj),Jj,Ti,Jb hj,Jb mj];rfl
   rintro ys _ ⟨rfl,rfl⟩;rw[show Ee _ (turned L)=turned L from Gk (by rw[Xc];show _<=((L.length:Int)).toNat;rw[G2];exact Ji _)];exact put (i:=2) B nofun rfl (hn _ _ {_,rfl,rfl,Zg4 B 2 (Zfs tb)})
  rintro _ _ ⟨y,rfl,rfl,B⟩;refine Zg6 a3 (λKn hn=>?_) ?_
  .exists ·,Vc W3 (a:=r) (b:=2) {_,rfl,ite2 (λ_=>?_) (λ_=>hn _ _ ⟨y,rfl,rfl,B⟩)};exact part B (λ_=>rfl) rfl λL tb=>put (i:=2) B nofun rfl (hn _ _ {_,rfl,rfl,Zg4 B 2 tb})
  rintro _ _ ⟨y,rfl,rfl,B⟩;let a5:(bs.map D.int).length=bs.length:=Ja _;refine{_,rfl,(show 2<=Ca by decide),_,rfl,_,rfl,_,_,rfl,rfl,_,_,.int (Vu bs),rfl,rfl,?_,_,rfl,(show 3<=Ca by decide),.inl (kk bs ss y hb B ())};rw[a5];unfold Vu;rcases hb with z|z<;>rw[z]<;>rfl
open L3
theorem Jbq(T:Txt mg){C:Addr}(Te:Cal P w K mg base "_law_from" 1 q10 (spOf ⟨C,K⟩ dFrom))(F:Fun K "_law_carried" "_law_carried" Jbs f fd):FnOk P w K mg base CX0 4 f fd q03 (spOf ⟨C,K⟩ dCarr):=by
 refine L3.Fun.ok3 F Jbg (λds M K3 h=>?_) (λb4 A outer s H E hr=>?_)
 .let⟨L1,L2,d,U,rfl,_⟩:=h;rfl
 .let y:=Jbg;let hu:=hr.units;let a4:=Xy hr;let a8:Room 1 _:=hr.mono nofun;let Va:Room 3 _:=hr.mono nofun;refine{_,_,(Zb (Zq (i:=3) y.nd rfl (Ci rfl) (Yr (Zdn (K:=K) rfl Va rfl) (by rfl) T.b_dict Ej (Za (pv 0) Zd)))
 (Zb (Zq (i:=4) y.nd rfl (Ci rfl) (Y6 Zd))
 (Zb (Y1 Co rfl (Z5 (pv 2)) (Zl (i:=5) y.nd rfl (Ci rfl))
 (Zg (Zq (i:=4) y.nd rfl (Ci rfl) (Z0 (Yp (K':=K) rfl) (pv 4) (Yr (Zdm (K:=K) rfl) (by rfl) T.b_list Hq (Za (R8 a4 (pv 3) (pv 5) (λ_ _=>rfl)) Zd))))))
 (Zb (Zq (i:=6) y.nd rfl (Ci rfl) (Y6 Zd))
 (Zb (Zq (i:=7) y.nd rfl (Ci rfl) Zf)
 (Zb (Nm Co (Z1 Zqp (pv 7) (Zn (Yy (K:=K) rfl) (by rfl) T.b_len Jab (Za (pv 4) Zd)) (Ya _))
 (Zb (Zq (i:=8) y.nd rfl (Ci rfl) (Zv Te a8 rfl (Za (pv 1) (Za (pv 4) (Za (pv 7) Zd)))))
 (Zb (Yz (X9 (Vs (pv 8)))
 (Zg (Zq (i:=8) y.nd rfl (Ci rfl) (Yc (Za W1 (Za (Z0 (Yp (K':=K) rfl) (pv 7) Zf) Zd)))))
 Z2)
 (Zb (U3 (Zfx Ed Hg Hh Tz (pv 6) (Za (Z3 (Yl (K':=K) rfl) (pv 8) Zf (λ_ _=>rfl)) Zd)))
 (Zg (Zq (i:=7) y.nd rfl (Ci rfl) (Z3 (Yl (K':=K) rfl) (pv 8) Zf (λ_ _=>rfl))))))))
 (Zg (Zy (pv 6))))))))),λ_=>(Zw (Y7 (s_cb Nj (by symm)) (s_g 3)) (Zw (by symm) (Zw (Uj (s_il (Zr 2)) (s_g 5) (Y7 (s_op Zhx (Zr 4) (s_cb Znz (Ye (Za5 (Zr 3) (Zr 5)) X4))) (s_g 4))) (Zw (Y7 (Za4 X4) (s_g 6)) (by symm))))),λds M Kk hM hD h=>?_}
  let⟨L1,L2,d,U,rfl,h⟩:=h;let⟨hd,⟨fr,fi,O,hU,lU⟩,k⟩:=h;let wb:=Sf fr;exists ·,_,L1.map prK,rfl,by rw[Ju];rfl,by rw[Ja];let:=fi.1;lia,?_;generalize Qx [] (L1.map prK)=kd at wb;let b1:(Zs U).length=U.length:=Ja _;let rl:=Zh0 fi hU;exists Ge _,·,_,(Vv hd).2.1,λi ρ M'=>∃v5 v6 v7 B,ρ=[some (tbl L1),some (tbl L2),some d,some (.dct kd),some (.lst ((Zp (U.take i)).map .int)),v5,v6,v7,B]/\M=M',λi ρ M' _⟨_,_,_,_,_,z⟩=>by rw[<-z];exact(Vv hd).2.1,{_,_,_,_,rfl,rfl},?_,?_
  .rintro i x ρ _ hi hx ⟨v5,v6,v7,B,rfl,rfl⟩;let⟨b3,rfl⟩:=Zab hx;let a2:i<U.length:=by lia
   let eU:(Zs U)[i]=U[i].1:=Bv _;let hv:=wb.1 _ (hU _ (Js a2));let a0:=Zej a2;let a5:=Zn1 U (i+1);rw[a0,Jc]at a5;let a1:(Zp (U.take (i+1))).map D.int=(Zp (U.take i)).map D.int++U[i].2.map D.int:=by rw[a0,Jj]
   rw[eU];exists ·,·,·,_,.inl {_,_,rfl,rfl,hv.symm},_,·,rfl,_,·,rfl,?_,.inl {_,v6,v7,B,by rw[a1];rfl,rfl};rw[Ja,Ja];exact Fi (Gu (by lia:_<=1000) nofun)
  rintro ρ _ ⟨v5,v6,v7,B,rfl,rfl⟩;let eU:U.take ((Zs U).map D.int).length=U:=Gk (by rw[Ja];lia);rw[show Zp (U.take _)=Zp U from by rw[eU]];generalize b2:Zp U=ns at *
  let ln:ns.length<=1000:=by lia
  let Z:(ns.map D.int).length=ns.length:=Ja _;exists Ge _,?_;exists λm ρ M'=>∃B R pl,ρ=[some (tbl L1),some (tbl L2),some d,some (.dct kd),some (.lst (ns.map .int)),v5,some (.cell M.length),some (.int ((pl:Nat):Int)),B]/\M'=M++[.lst ((osOf R).map oD)]/\Went L2 ns R pl/\m=ns.length-pl,{_,_,[],0,rfl,rfl,.nil,rfl},?_;rintro m ρ _ ⟨B,R,pl,rfl,rfl,wt,rfl⟩;let a6:=wt.le;let lR:=wt.len;exists ·,·,·,_,·,rfl,·,ite2 (λG=>?_) (λJ=>?_)
  .let G:pl<ns.length:=by
    let:=Dw G;rw[Z]at this;lia
   exists ·,·,·,L2,_,ns,pl,rfl,rfl,{O.1,a6},λp hp a3=>?_,λa7=>?_
   .let Y:=Went.word wt hp a3 (O.2 p hp).1;let hq:=Y.le;let h0:0<p.2.length:=Gj.mpr (O.2 p hp).1;exists ·,·,iteF ?_;exists ·,W9 Vw,·,_,_,·,rfl,rfl,M.length,_,·,rfl,Yj,?_,?_
    .rw[Ja];unfold osOf;rw[Ja];exact Gu (by lia:_<=1000) nofun
    rw[Y5];exists ·,_,_,·,rfl,rfl,ns.length-(pl+p.2.length),(),.inl {_,_,_,rfl,by unfold osOf;rw[Jj,Jj];rfl,Y,rfl}
   .let Y:=Went.lost wt G a7;let hq:=Y.le;exists ·,·,iteT ?_;exists ·,(show 2<=Ca by decide),?_;exists ·,W9 Vw,·,_,_,·,rfl,rfl,M.length,_,·,rfl,Yj,?_,?_
    .rw[Ja];unfold osOf;rw[Ja];exact Gu (by lia:_<=1000) nofun
    rw[Y5];exists ·,_,_,·,rfl,rfl,ns.length-(pl+1),(),.inl {_,_,_,rfl,by unfold osOf;rw[Jj,Jj];rfl,Y,rfl}
  .let J:ns.length<=pl:=by
    let:¬ ((pl:Int)<((ns.map D.int).length:Int)):=λz=>J (D8 z);rw[Z]at this;lia
   exists ·,.inl (k R ⟨pl,wt,J⟩)
open L3
theorem Jdg(T:Txt mg){C:Addr}(F:Fun K "_law_size" "_law_size" Jao f fd):FnOk P w K mg base CX0 4 f fd q05 (spOf ⟨C,K⟩ dSizeL):=by
 refine L3.Fun.ok3 F Jbv (λds M K3 h=>?_) (λa0 A outer s H E hr=>?_)
 .let⟨L,d,E,rfl,_⟩:=h;rfl
 .let Y:=Jbv;let hu:=hr.units;let G:=Xy hr;let Va:Room 3 _:=hr.mono nofun;refine{_,_,(Zb (Zq (i:=2) Y.nd rfl (Ci rfl) (Yr (Zdn (K:=K) rfl Va rfl) (by rfl) T.b_dict Ej (Za (pv 0) Zd)))
 (Zb (Zq (i:=3) Y.nd rfl (Ci rfl) Zf)
 (Zb (Y1 Co rfl (Z5 (pv 1)) (Zl (i:=4) Y.nd rfl (Ci rfl))
 (Zg (Yz (X9 (Vs (pv 4)))
 (Zg (Za8 (i:=3) Y.nd rfl (Ci rfl) Zf Pp))
 (Zg (Yz (X9 (Zoc G (pv 4) (pv 2)))
 (Zg (Za8 (i:=3) Y.nd rfl (Ci rfl) (Zn (Yy (K:=K) rfl) (by rfl) T.b_len Jab (Za (R8 G (pv 2) (pv 4) (λ_ _=>rfl)) Zd)) Pp))
 (Zg (Zy W1)))))))
 (Zg (Zy (pv 3)))))),λ_=>(Zw (Y7 (s_cb Nj (by symm)) (s_g 2)) (Zw (by symm) (Zw (Uj (s_il (Zr 1)) (s_g 4) (Uw (by symm) (Zhv Vk) (Uw (s_b (Zxa (Zr 4) (Zr 2))) (Zhv (s_cb Zp4 (Ye (Za5 (Zr 2) (Zr 4)) X4))) (Wn Zp3)))) (Wn (Zr 3))))),λds M Kk hM hD h=>?_}
  let⟨L,d,E,rfl,h⟩:=h;let⟨hd,⟨fr,fi,hE⟩,k⟩:=h;let Z:=Sf fr;exists ·,_,L.map prK,rfl,by rw[Ju];rfl,by rw[Ja];let:=fi.1;lia,?_;generalize Qx [] (L.map prK)=kd at Z;exists ·,_,(Vv hd).2.1,λi ρ M'=>∃v4 kn,ρ=[some (tbl L),some d,some (.dct kd),some (.int ((kn.length:Nat):Int)),v4]/\M=M'/\knF L (E.take i)=some kn,λi ρ M' _⟨_,kn,_,z,_⟩=>by rw[<-z];exact(Vv hd).2.1,{_,[],rfl,rfl,rfl},?_,?_
  .rintro i x ρ _ hi hx ⟨v4,kn,rfl,rfl,O⟩;let⟨B,rfl⟩:=Z4 hx;exists ·,?_;cases he:E[i]with
   |none =>
    exists ·,iteT {_,rfl,_,rfl,.inl {_,kn++[none],by rw[Jc];rfl,rfl,N7 B O (by rw[he];rfl)}}
   |some s =>
    exists ·,iteF {_,rfl,_,rfl,_,.inl {_,_,rfl,rfl,rfl},_,rfl,?_}
    by_cases y:∃p∈L,p.1=s
    .let⟨p,y,e⟩:=y;let hv:=Z.1 p y;rw[e]at hv;rw[hv];refine iteT {_,rfl,_,rfl,_,rfl,_,.inl {_,_,rfl,rfl,hv.symm},_,rfl,_,rfl,.inl {some (.int s),kn++p.2.map some,?_,rfl,N7 B O (by rw[he,<-e];exact N9 fr y)}};rw[Jc,Ja,Ja];rfl
    .let J:∀p∈L,p.1≠s:=λp hq e=>y ⟨p,hq,e⟩;rw[Z.2 _ J];refine iteF (.inl ?_);rw[Zje B ?_]at k
     .exact k
     .rw[he];show(L.find? λp=>decide (p.1=s)).map _=none;rw[Ds.mpr λp y z=>J p y (Dw z)];rfl
  .rintro ρ _ ⟨v4,kn,rfl,rfl,O⟩;rw[show Ee _ E=E from by rw[show(List.map oD E).length=E.length from Ja _];exact Gb]at O;rw[O]at k;exists ·,.inl k
def Jah(T:Txt mg){C:Addr}(Z:Cal P w K mg base "_law_size" 4 q05 (spOf ⟨C,K⟩ dSizeL))(F:Fun K "_law_small" "_law_small" Jcn f fd):FnOk P w K mg base CX0 5 f fd q01 (spOf ⟨C,K⟩ dSmall):=by
 refine L3.Fun.ok3 F Jbo (λds M K3 h=>?_) (λY A outer s H E y=>?_)
 .let⟨L,d,E,m,rfl,_⟩:=h;rfl
 .let SC:=Jbo;let hu:=y.units;let B:=Xy y;let Vy:Room 4 _:=y.mono nofun;refine{_,_,(Zb (Zq (i:=3) SC.nd rfl (Ci rfl) (Zv Z Vy rfl (Za (pv 0) (Za (pv 1) Zd))))
 (Zg (Zy (Zt8 (Zim (Vs (pv 3))) (Zn9 (Zqn Zqq (pv 3) (pv 2) (Ya _))))))),λ_=>(by symm),λds M Kk hM hD h=>?_}
  let⟨L,d,E,m,rfl,h⟩:=h;let⟨hd,⟨J,O,G⟩,k⟩:=h;exists ·,·,L,d,E,rfl,hd,⟨J,O,G⟩,?_;cases hk:knF L E with
  |none =>
   rw[hk]at k;exists ·,·,iteT (.inl k)
  |some kn =>
   rw[hk]at k;exists ·,·,iteF {_,rfl,_,rfl,_,_,rfl,rfl,.inl k}
open L3
def gD(U:List Pr):D:=.tup [.lst ((Zs U).map .int),.int (((Zp U).length:Nat):Int)]
def uD(U:List Pr):D:=.lst ((Zs U).map .int)
def Zpx(U:List Pr)(p:Pr):Zs (U++[p])=Zs U++[p.1]:=by unfold Zs;rw[Jj];rfl
def Zbt{n:Nat}{G:List (List Pr)}{i:Nat}(hi:i<G.length):(G.take (i+1)).flatMap (lg1 L n)=(G.take i).flatMap (lg1 L n)++lg1 L n G[i]:=by
 rw[Jd hi,List.flatMap_append];simp
theorem Jdf(T:Txt mg){C:Addr}(Xs:Cal P w K mg base "_law_size" 4 q05 (spOf ⟨C,K⟩ dSizeL))(Yv:Cal P w K mg base "_law_carried" 4 q03 (spOf ⟨C,K⟩ dCarr))(F:Fun K "_law_all" "_law_all" Jaw f fd):FnOk P w K mg base CX0 6 f fd q07 (spOf ⟨C,K⟩ dAllL):=by
 refine L3.Fun.ok3 F Jbk (λds M K3 h=>?_) (λb4 A outer s H E hr=>?_)
 .let⟨L1,L2,d,E,bs,rfl,_⟩:=h;rfl
 .let SC:=Jbk;let hu:=hr.units;let b3:=Xy hr;let Vy:Room 4 _:=hr.mono nofun;let Wc:Room 4 _:=hr.mono nofun;refine{_,_,(Zb (Zq (i:=3) SC.nd rfl (Cy rfl) (Zv Xs Vy rfl (Za (pv 1) (Za (pv 2) Zd))))
 (Zb (Yz (X9 (Vs (pv 3)))
 (Zg (Zy (Y6 Zd)))
 Z2)
 (Zb (Zq (i:=4) SC.nd rfl (Ci rfl) (Y6 Zd))
 (Zb (Zq (i:=5) SC.nd rfl (Ci rfl) (Y6 (Za (Yc (Za (Y6 Zd) (Za Zf Zd))) Zd)))
 (Zb (Nm Co (Z1 (Zfo (K':=K) rfl hu) (pv 5) (Y6 Zd) (Ya _))
 (Zb (Zq (i:=6) SC.nd rfl (Ci rfl) (Y6 Zd))
 (Zb (Y1 Co rfl (Z5 (pv 5)) (Xq (n:=2) rfl (Zu (Zl (i:=7) SC.nd rfl (Cy rfl)) (Zu (Zl (i:=8) SC.nd rfl (Cy rfl)) Yw)) (by rfl))
 (Zg (Yz (Z1 (Zay (K':=K) rfl hu) (pv 8) (pv 3) (Ya _))
 (Zg (U3 (Zfx Ed Hg Hh Tz (pv 4) (Za (pv 7) Zd))))
 (Zg (Zq (i:=6) SC.nd rfl (Ci rfl) (Z0 (Yp (K':=K) rfl) (pv 6) (Yi (T:=["_law_one","_law_some"]) (cs:=[7,8]) rfl (CScope.ok (by kernel_rfl)) (Z5 (pv 0)) (λ_ _ _ _=>(Xq (n:=2) rfl (Zu (Zl (i:=0) (Ys (by kernel_rfl)) rfl (Ci rfl) (Cy rfl)) (Zu (Zl (i:=1) (Ys (by kernel_rfl)) rfl (Ci rfl) (Cy rfl)) Yw)) (by rfl))) (λ_ _ _ _=>Ym) (λ_ _ _ _=>(Yc (Za (Z0 (Yp (K':=K) rfl) (pv 2) (Y6 (Za (pv 0) Zd))) (Za (Z0 (Yp (K':=K) rfl) (pv 3) (Zn (Yy (K:=K) rfl) (by rfl) T.b_len Jab (Za (pv 1) Zd))) Zd)))) (Vz (Z8 nofun (Z8 nofun Wd))))))))))
 (Zg (Vr (i:=5) SC.nd rfl rfl (T:=["_law_pair"]) (cs:=[3]) rfl (CScope.ok (by kernel_rfl)) (Z5 (pv 6)) (λ_ _ _ _=>(Zl (i:=0) (Ys (by kernel_rfl)) rfl (Ci rfl) (Cy rfl))) (λ_ _ _ _=>(W6 (Z1 Zqq (Z3 (Yl (K':=K) rfl) (pv 0) Zf (λ_ _=>rfl)) (pv 1) (Ya _)))) (λ_ _ _ _=>(pv 0)) (Yt nofun))))))
 (Zg (Zy (Zn (Zdl (K:=K) rfl (Wy hr)) (by rfl) T.b_sorted C2 (Za (Yi (T:=["_law_text"]) (cs:=[0,1,2]) rfl (CScope.ok (by kernel_rfl)) (Z5 (pv 4)) (λ_ _ _ _=>(Zl (i:=0) (Ys (by kernel_rfl)) rfl (Ci rfl) (Cy rfl))) (λ_ _ _ _=>(W6 (Z1 (Zay (K':=K) rfl hu) (Zv Yv Wc rfl (Za (pv 1) (Za (pv 2) (Za (pv 0) Zd)))) (pv 3) (Ya _)))) (λ_ _ _ _=>(pv 0)) (Yt nofun)) Zd))))))))),λ_=>(Zw (by symm) (Zw (by symm) (Zw (Y7 (Za4 X4) (s_g 4)) (Zw (by symm) (Zw (by symm) (Wn (s_cb Zp1 (Ye (Vm (s_il (Zr 4)) (s_g 0) (Zef (s_op s_eq (Zlt (by symm)) (Zr 3))) (Zr 0)) X4)))))))),λds M Kk hM hD h=>?_}
  let⟨L1,L2,d,E,bs,rfl,h⟩:=h;let⟨hd,⟨tb,B,a1,hE,hb⟩,k⟩:=h;let a0:NeW L1:=λp hp=>(tb.fi.2 p hp).1;let a3:NeW L2:=λp hp=>(a1.2 p hp).1;exists ·,·,L2,d,E,rfl,hd,⟨B,a1,hE⟩,?_;cases hk:knF L2 E with
  |none =>
   exists ·,·,iteT {Ge _,.inl (k [] .nil λt=>{(λh=>nomatch h),λ⟨U,R,_,_,c,e⟩=>Dx ⟨R,c,e⟩ (Nt B hk)})}
  |some kn =>
  let a2:=hb kn hk;let oi:=Nw (L1:=L1) B a3 hk;let oo:=λr=>Nu B a3 hk (r:=r);let kb:kn.length<=6:=by rcases a2 with z|z<;>lia
  generalize hn:kn.length=n at *
  exists ·,·,iteF ?_;exists Ge _,Ge _,(show 2<=Ca by decide),(show 1<=Ca by decide),?_;exists λm ρ Z=>∃kk F G v6 v7 v8,ρ=[some (tbl L1),some (tbl L2),some d,some (.int ((n:Nat):Int)),some (.cell M.length),some (.lst (G.map gD)),v6,v7,v8]/\Z=M++[.lst (F.map uD)]/\Lvl L1 n kk F G/\m=n+2-kk,{_,0,[],[[]],_,_,_,by rw[<-hn];rfl,rfl,.zero,rfl},?_;rintro m ρ _ ⟨kk,F,G,v6,v7,v8,rfl,rfl,O,rfl⟩;let lF:F.length<=448:=Zaz tb a2 O.fn λU J=>by let⟨a,_,c⟩:=(O.fm U).mp J;exact{a,()}
  let lG:G.length<=448:=Zaz tb a2 O.gn λU J=>by let⟨a,_,c⟩:=(O.gm U).mp J;exists a,c
  let b1:(G.map gD).length=G.length:=Ja _;exists ·,Ge _,Zam (Zva (Px W3) W3) (a:=G.map λU=>(Zs U,(((Zp U).length:Nat):Int))) (b:=[]) (by rw[Ju];rfl) rfl {_,rfl,?_}
  by_cases hG:G=[]
  .subst hG;refine iteF ?_;let fm:=O.done;let a7:(F.map uD).length=F.length:=Ja _;let wf:∀m∈M++[MO.lst (F.map uD)],Y8 (M++[MO.lst (F.map uD)]).length m:=λm hm=>by
    rw[Jc];rcases Jv.mp hm with z|z
    .exact(hM m z).up (Nat.le_add_right _ _)
    .rw[Je.mp z];exact Zb3 (X1 (λ_=>P0) F)
   exists ·,_,Rn,?_,λi ys Z=>Z=M++[.lst (F.map uD)]/\ys=((F.take i).filter λU=>(wt kn L2 (0,[]) (Zp U)).isSome).map uD,λ_ _ _ _ z=>by rw[z.1];exact Rn,⟨rfl,rfl⟩,?_,?_
   .show(F.map uD).length<=Ca;rw[a7];exact Zi ()
   .rintro i x ys _ hi hx ⟨rfl,rfl⟩;let⟨y,rfl⟩:=Z4 hx;let⟨J,hr⟩:=(fm _).mp (Js y);let lU:=Zh1 a0 J;exists ·,·,·,L1,L2,_,F[i],rfl,rfl,{tb.fr,tb.fi,a1,J,()},λR tl=>{_,_,rfl,by rw[Jc];rfl,Yj,rfl,?_,?_}
    .intro m hm;rcases Jv.mp hm with z|z
     .exact wf m z
     .rw[Je.mp z];exact Zb3 (X1 (λ_=>Zdo) _)
    rw[B8];refine{_,rfl,Zam encO (a:=osOf R) (b:=E) rfl (Vv (Zi5 hd)).2.1 {_,rfl,?_}};let eq:decide (osOf R=E)=(wt kn L2 (0,[]) (Zp F[i])).isSome:=by
     rw[Df,Dz];exists λe=>((oo _).mp ⟨R,tl,e⟩).2,λz=>?_;let⟨R',t',e'⟩:=(oo _).mpr ⟨hr,z⟩;rw[Told.uniq B tl t'];exact e'
    rw[eq];refine ite2 (λhl=>{_,rfl,rfl,?_}) (λhl=>{rfl,?_})
    .exact(Xz (λU=>(wt kn L2 (0,[]) (Zp U)).isSome) uD y true hl).symm
    .exact((Xz (λU=>(wt kn L2 (0,[]) (Zp U)).isSome) uD y false (Fn _ ▸ hl)).trans (Gg _)).symm
   rintro ys _ ⟨rfl,rfl⟩;rw[show Ee _ F=F from by rw[show(F.map uD).length=F.length from a7];exact Gb];generalize hQ:(F.filter λU=>(wt kn L2 (0,[]) (Zp U)).isSome)=Q;let Y:∀U,U∈Q↔((∀p∈U,p∈L1)/\(Zp U).length=n)/\(wt kn L2 (0,[]) (Zp U)).isSome=true:=λU=>by rw[<-hQ,Gi,fm]
   let nQ:Q.Nodup:=by rw[<-hQ];exact O.fn.filter _
   let lQ:Q.length<=448:=by rw[<-hQ];exact Jx (Fp _ _) lF
   exists _,Q.map λU=>(uD U,Zs U),rfl,by rw[Ju];rfl,{by rw[Ja];lia,λz hz=>?_,?_},λys pm pw=>?_
   .let⟨U,_,rfl⟩:=Jk.mp hz;rfl
   .rw[Ju];exact Jr.mpr (nQ.imp_of_mem λ{U V}J hV hn e=>hn (Tm tb.fr ((Y U).mp J).1.1 ((Y V).mp hV).1.1 e))
   .let⟨Us,pU,rfl⟩:=_root_.L2.W2 pm rfl;rw[Ju,show(Prod.fst ∘ λU=>(uD U,Zs U))=tLs ∘ Zs from rfl,<-Ju];refine Zao (Go _ _) hM (V2 (X1 (λ_=>P0) _)) (k (Us.map Zs) (Jr.mpr (Jr.mp pw)) λt=>?_);rw[oi,Jk]
    constructor
    .rintro⟨U,J,e⟩;let⟨⟨a,b⟩,c⟩:=(Y U).mp (pU.mem_iff.mp J);exists U,e,a,b,c
    .rintro⟨U,e,a,b,c⟩;exists U,pU.mem_iff.mpr ((Y U).mpr {⟨a,b⟩,c}),e
  rw[D9 (by rw[List.map_eq_nil_iff];exact hG)];let kn_le:=O.k_le a0 hG;let a4:=O.next a0 (Free.nd tb.fr);let a6:(L1.map pD).length=L1.length:=Ja _;let lL:=tb.ln;refine iteT {Ge _,?_};let a8:∀i,((G.take i).flatMap (lg1 L1 n)).length<=448*28:=λi=>by
   rw[G8];refine Jx (Wz (n:=28) λU _=>?_) (Le 28 (Jx (List.length_take_le' _ _) lG));unfold lg1
   split
   .exact Ge _
   .rw[Ja];exact lL
  exists ·,·,λi ρ Z=>∃v7 v8,ρ=[some (tbl L1),some (tbl L2),some d,some (.int ((n:Nat):Int)),some (.cell M.length),some (.lst (G.map gD)),some (.lst (((G.take i).flatMap (lg1 L1 n)).map gD)),v7,v8]/\Z=M++[.lst ((F++(G.take i).filter λU=>decide ((Zp U).length=n)).map uD)],λ_ _ _ _ _=>rfl,{_,_,rfl,by rw[B7,Jb9,Gg]},?_,?_
  .rintro i x ρ _ hi hx ⟨v7,v8,rfl,rfl⟩;let⟨y,rfl⟩:=Z4 hx;exists ·,rfl,_,·,_,·,rfl,?_;exists ·,·,Vc W3 (a:=(((Zp G[i]).length:Nat):Int)) (b:=((n:Nat):Int)) {_,rfl,?_}
   by_cases he:(Zp G[i]).length=n
   .rw[show decide ((((Zp G[i]).length:Nat):Int)=((n:Nat):Int))=true from D8 ()];refine iteT {_,rfl,W9 Vw,_,rfl,M.length,_,_,rfl,rfl,Yj,?_,.inl {some (.lst ((Zs G[i]).map .int)),some (.int (((Zp G[i]).length:Nat):Int)),?_,?_}}
    .rw[Ja,Jc];let:((G.take i).filter λU=>decide ((Zp U).length=n)).length<=G.length:=Jx (Fp _ _) (List.length_take_le' _ _);exact Gu (by lia:_<=1000) nofun
    .rw[Zbt y,show lg1 L1 n G[i]=[]from D7 he,Gg];rfl
    .rw[Y5,Zjy (λU:List Pr=>decide ((Zp U).length=n)) y true (D8 he),D7 rfl,<-Jn,Jj (l₂:=[G[i]])];rfl
   .rw[show decide ((((Zp G[i]).length:Nat):Int)=((n:Nat):Int))=false from D9 ()];refine iteF {_,rfl,_,rfl,_,rfl,?_,λj ys Z=>Z=M++[.lst ((F++(G.take i).filter λU=>decide ((Zp U).length=n)).map uD)]/\ys=((L1.take j).map λp=>G[i]++[p]).map gD,λ_ _ _ _ _=>rfl,⟨rfl,rfl⟩,?_,?_}
    .show(L1.map pD).length<=Ca;rw[a6];exact Zi ()
    .rintro j x ys _ hj hx ⟨rfl,rfl⟩;let⟨b2,rfl⟩:=Z4 hx;let lU:(Zs G[i]).length<=6:=by
      let⟨a,b,c⟩:=(O.gm _).mp (Js y);rw[show(Zs G[i]).length=G[i].length from Ja _];lia
     exists ·,rfl,_,·,_,·,rfl,?_;exists ·,·,(show 1<=Ca by decide),_,·,rfl,Zi (by rw[Ja];show _+1<=_;lia),·,·,·,(show 2<=Ca by decide),rfl,?_;rw[Jd b2,Jj,Jj];show _=_++[gD (G[i]++[L1[j]])];unfold gD;rw[Zpx,Tu,Jc,Fs,Jj,Ja];rfl
    rintro ys _ ⟨rfl,rfl⟩;rw[show Ee _ L1=L1 from by rw[show(L1.map pD).length=L1.length from a6];exact Gb];exists _,·,rfl,?_,.inl {some (.lst ((Zs G[i]).map .int)),some (.int (((Zp G[i]).length:Nat):Int)),?_,?_}
    .rw[Ja,Ja,Ja];let:=a8 i;exact Jx (by lia:_<=448*28+28) nofun
    .rw[Zbt y,show lg1 L1 n G[i]=L1.map λp=>G[i]++[p]from D6 he,Jj];rfl
    .rw[Zjy (λU:List Pr=>decide ((Zp U).length=n)) y false (D9 he),D6 Gd,Gg]
  rintro ρ _ ⟨v7,v8,rfl,rfl⟩;rw[show Ee _ G=G from by rw[show(G.map gD).length=G.length from b1];exact Gb];let l3:=a8 G.length;rw[Gb]at l3;generalize hW:G.flatMap (lg1 L1 n)=W at a4 l3;let a5:(W.map gD).length=W.length:=Ja _;exists ·,·,?_,λi ys Z=>Z=M++[.lst ((F++G.filter λU=>decide ((Zp U).length=n)).map uD)]/\ys=((W.take i).filter λU=>decide ((Zp U).length<=n)).map gD,λ_ _ _ _ _=>rfl,⟨rfl,rfl⟩,?_,?_
  .show(W.map gD).length<=Ca;rw[a5];exact Jx l3 nofun
  .rintro i x ys _ hi hx ⟨rfl,rfl⟩;let⟨y,rfl⟩:=Z4 hx;exists ·,_,_,·,rfl,rfl,·,_,·,rfl,·,?_;rw[show decide ((((Zp W[i]).length:Nat):Int)<=((n:Nat):Int))=decide ((Zp W[i]).length<=n)from decide_eq_decide.mpr ()];refine ite2 (λhl=>{_,rfl,rfl,?_}) (λhl=>{rfl,?_})
   .exact(Xz (λU=>decide ((Zp U).length<=n)) gD y true hl).symm
   .exact((Xz (λU=>decide ((Zp U).length<=n)) gD y false (Fn _ ▸ hl)).trans (Gg _)).symm
  rintro ys _ ⟨rfl,rfl⟩;rw[show Ee _ W=W from by rw[show(W.map gD).length=W.length from a5];exact Gb];exists n+2-(kk+1),(),.inl {kk+1,_,_,_,_,_,rfl,rfl,a4,rfl}
open L3
theorem Jcs(T:Txt mg){C:Addr}(Zk:Cal P w K mg base "_law_draw" 1 q00 (spOf ⟨C,K⟩ dDraw))(F:Fun K "_law_text_of" "_law_text_of" Jce f fd):FnOk P w K mg base CX0 2 f fd q08 (spOf ⟨C,K⟩ Zkb):=by
 refine L3.Fun.ok3 F Jde (λds M K3 h=>?_) (λa2 A outer s H E B=>?_)
 .let⟨k,L,m,rfl,_⟩:=h;rfl
 .let G:=Jde;let hu:=B.units;let a0:=Xy B;let Zj:Room 1 _:=B.mono nofun;refine{_,_,(Zb (Zq (i:=3) G.nd rfl (Ci rfl) (Y6 Zd))
 (Zb (Zq (i:=4) G.nd rfl (Ci rfl) Zf)
 (Zb (Y1 Co rfl (Yq rfl T.b_range (Za (Zv Zk Zj rfl (Za (pv 0) (Za Zf Zd))) Zd)) (Zl (i:=5) G.nd rfl (Ci rfl))
 (Zg (Yz (Z1 (Zfo (K':=K) rfl hu) (pv 1) (Y6 Zd) (Ya _))
 (Zb (Pj (Z3 (Yl (K':=K) rfl) (pv 1) (Z0 Wb (Zv Zk Zj rfl (Za (pv 0) (Za Zf Zd))) (Zn (Yy (K:=K) rfl) (by rfl) T.b_len Jab (Za (pv 1) Zd))) (λ_ _=>rfl)) (Xq (n:=2) rfl (Zu (Zl (i:=6) G.nd rfl (Ci rfl)) (Zu (Zl (i:=7) G.nd rfl (Ci rfl)) Yw)) (by rfl)))
 (Zg (Yz (Z1 Zqq (Z0 (Yp (K':=K) rfl) (pv 4) (Zn (Yy (K:=K) rfl) (by rfl) T.b_len Jab (Za (pv 7) Zd))) (pv 2) (Ya _))
 (Zb (U3 (Zfx Ed Hg Hh Tz (pv 3) (Za (pv 6) Zd)))
 (Zg (Za8 (i:=4) G.nd rfl (Ci rfl) (Zn (Yy (K:=K) rfl) (by rfl) T.b_len Jab (Za (pv 7) Zd)) Pp)))
 Z2)))
 Z2)))
 (Zg (Zy (pv 3)))))),λ_=>(Zw (Y7 (Za4 X4) (s_g 3)) (Zw (by symm) (Zw (Uj (by symm) (s_g 5) (Uw (by symm) (Zw (by symm) (Uw (by symm) (Zw (by symm) (Zhv (by symm))) W0)) W0)) (Wn (Zr 3))))),λds M Kk hM hD h=>?_}
  let⟨k,L,m,rfl,h⟩:=h;let⟨hk,⟨fi,hm⟩,kk⟩:=h;let J:∀{X:Mem},(M++X)[k]?=some .hand:=Ur hk;let lm:(L.map pD).length=L.length:=Ja _;exists Ge _,?_;exists ·,k,7,rfl,J,⟨nofun,nofun⟩,λr r0 r1=>{r,rfl,{(),()},?_};exists λi ρ M'=>∃v5 Z Y U,ρ=[some (.cell k),some (tbl L),some (.int m),some (.cell M.length),some (.int (((Zp U).length:Nat):Int)),v5,Z,Y]/\M'=M++[.lst ((Zs U).map .int)]/\(∀p∈U,p∈L)/\(((Zp U).length:Int)<=m\/U=[])/\U.length<=i,λ_ _ _ _ _=>trivial,{_,_,_,[],rfl,rfl,(λ_ h=>nomatch h),.inr rfl,Ji _},?_,?_
  .rintro i x ρ _ hi hx ⟨v5,Z,Y,U,rfl,rfl,O,B,lU⟩;let a1:i<7:=by
    let:i<r.toNat:=hi;lia
   exists ·,Ge _,Zam Zxn (a:=L) (b:=[]) rfl rfl {_,rfl,?_}
   by_cases hL:L=[]
   .rw[D8 hL];exact iteF (.inl {_,_,_,U,rfl,rfl,O,B,()})
   rw[D9 hL];let h0:=Gj.mpr hL;refine iteT {_,rfl,_,rfl,k,60,rfl,J,⟨nofun,nofun⟩,λq q0 q1=>?_};let hq:q % (L.length:Int)=((q.toNat % L.length:Nat):Int):=by
    rw[Int.natCast_emod,Int.toNat_of_nonneg q0]
   let hj:q.toNat % L.length<L.length:=Nat.mod_lt _ h0;exists ·,·,_,·,rfl,by rw[lm];lia,_,_,·,rfl,Yu (f:=pD) (as:=L) (j:=q.toNat % L.length) (by rw[lm];exact hq) hj,?_;let hp:=Js hj;generalize L[q.toNat % L.length]=p at hp;exists ·,rfl,_,·,_,·,rfl,?_;let lp:(p.2.map D.int).length=p.2.length:=Ja _;exists ·,·,·,·,_,·,rfl,·,?_;refine ite2 (λhz=>?_) (λhz=>.inl {_,_,_,U,rfl,rfl,O,B,()});let hz:=Dw hz;rw[lp]at hz;exists ·,W9 Vw,·,M.length,_,·,rfl,Yj,?_,?_
   .rw[Ja];unfold Zs;rw[Ja];exact Gu (by lia:_<=1000) nofun
   rw[Y5];exists ·,·,·,·,.inl {some x,some (.int p.1),some (wD p.2),U++[p],?_,?_,λz hz=>(Jv.mp hz).elim (O z) λy=>by rw[Je.mp y];exact hp,.inl ?_,?_}
   .rw[Tu,Jc,lp,Fs];rfl
   .unfold Zs;rw[Jj,Jj];rfl
   .rw[Tu,Jc,Fs];exact hz
   .rw[Jc];show U.length+1<=_;lia
  .rintro ρ _ ⟨v5,Z,Y,U,rfl,rfl,O,B,lU⟩;exists ·,.inl (kk U O B ?_);let:U.length<=r.toNat:=lU;lia
open L3
theorem Zbw(xs:List τ)(lo hi:Option Int):(cut xs lo hi).length<=xs.length:=by
 unfold cut;rw[Jz,Ga];lia
theorem Zkc(xs:List τ){a b:Int}(h:0<=a)(y:a<=b):(cut xs none (some a)).length+(cut xs (some b) none).length<=xs.length:=by
 let⟨m,rfl⟩:=Bp h;let⟨n,rfl⟩:=Bp (Jg5 h y);rw[Zdi,T8,Jz,Ga];lia
theorem Jbd(T:Txt mg){C:Addr}(Zk:Cal P w K mg base "_law_draw" 1 q00 (spOf ⟨C,K⟩ dDraw))(Yv:Cal P w K mg base "_law_carried" 4 q03 (spOf ⟨C,K⟩ dCarr))(Xu:Cal P w K mg base "_law_text_of" 2 q08 (spOf ⟨C,K⟩ Zkb))(Xe:Cal P w K mg base "_law_small" 5 q01 (spOf ⟨C,K⟩ dSmall))(F:Fun K "_law_entries" "_law_entries" Jas f fd):FnOk P w K mg base CX0 6 f fd q02 (spOf ⟨C,K⟩ dEnts):=by
 refine L3.Fun.ok3 F Jae (λds M K3 h=>?_) (λb2 A outer s H E hr=>?_)
 .let⟨k,c,bs,ss,Y,rfl,_⟩:=h;rfl
 .let G:=Jae;let hu:=hr.units;let b1:=Xy hr;let Zj:Room 1 _:=hr.mono nofun;let Wc:Room 4 _:=hr.mono nofun;let Vx:Room 2 _:=hr.mono nofun;let Vb:Room 5 _:=hr.mono nofun;refine{_,_,(Zb (Zq (i:=4) G.nd rfl (Ci rfl) (Zv Yv Wc rfl (Za (Z3 (Yl (K':=K) rfl) (pv 1) Zf (λ_ _=>rfl)) (Za (Z3 (Yl (K':=K) rfl) (pv 1) Zf (λ_ _=>rfl)) (Za (Zv Xu Vx rfl (Za (pv 0) (Za (Z3 (Yl (K':=K) rfl) (pv 1) Zf (λ_ _=>rfl)) (Za (pv 2) Zd)))) Zd)))))
 (Zb (Zq (i:=5) G.nd rfl (Ci rfl) (Zv Zk Zj rfl (Za (pv 0) (Za Zf Zd))))
 (Zb (Zq (i:=6) G.nd rfl (Ci rfl) (Z0 Wb (Zv Zk Zj rfl (Za (pv 0) (Za Zf Zd))) (Z0 (Yp (K':=K) rfl) (Zn (Yy (K:=K) rfl) (by rfl) T.b_len Jab (Za (pv 4) Zd)) Zf)))
 (Zb (Zq (i:=7) G.nd rfl (Ci rfl) (pv 4))
 (Zb (Yz (Z1 (Zay (K':=K) rfl hu) (pv 5) Zf (Ya _))
 (Zb (Zq (i:=8) G.nd rfl (Ci rfl) (Z3 (Yl (K':=K) rfl) (Y6 (Za W1 (Za (Z3 (Yl (K':=K) rfl) (pv 3) (Zv Zk Zj rfl (Za (pv 0) (Za Zf Zd))) (λ_ _=>rfl)) Zd))) (Zv Zk Zj rfl (Za (pv 0) (Za Zf Zd))) (λ_ _=>rfl)))
 (Zg (Zq (i:=7) G.nd rfl (Ci rfl) (Z0 (Yp (K':=K) rfl) (Z0 (Yp (K':=K) rfl) (Yg (P4 (K':=K) rfl) (pv 4) Y2 (Yn (pv 6))) (Y6 (Za (pv 8) Zd))) (Yg (P4 (K':=K) rfl) (pv 4) (Yn (Z0 (Yp (K':=K) rfl) (pv 6) (Zv Zk Zj rfl (Za (pv 0) (Za Zf Zd))))) Y2)))))
 Z2)
 (Zb (Yz (Z1 (Zay (K':=K) rfl hu) (pv 5) Zf (Ya _))
 (Zb (Zq (i:=7) G.nd rfl (Ci rfl) (Zv Xu Vx rfl (Za (pv 0) (Za (Z3 (Yl (K':=K) rfl) (pv 1) Zf (λ_ _=>rfl)) (Za (pv 2) Zd)))))
 (Zg (Zq (i:=7) G.nd rfl (Ci rfl) (Z0 (Yp (K':=K) rfl) (Z0 (Yp (K':=K) rfl) (Yg (P4 (K':=K) rfl) (pv 7) Y2 (Yn (pv 6))) (Z0 Zd5 (Y6 (Za W1 Zd)) (Zv Zk Zj rfl (Za (pv 0) (Za Zf Zd))))) (Yg (P4 (K':=K) rfl) (pv 7) (Yn (pv 6)) Y2)))))
 Z2)
 (Zb (Yz (Sz (Zv Xe Vb rfl (Za (Z3 (Yl (K':=K) rfl) (pv 1) Zf (λ_ _=>rfl)) (Za (pv 7) (Za (pv 2) Zd)))))
 (Zg (Zy (pv 7)))
 Z2)
 (Zg (Zy (pv 4)))))))))),λ_=>(Zw (Y7 (Zlt (Za6 (Ye (by symm) (Ye (by symm) (Ye (Zlt (by symm)) X4))))) (s_g 4)) (Zw (by symm) (Zw (by symm) (Zw (by symm) (Zw (by symm) (Zw (Uw (by symm) (Zw (Y7 (Zlt (by symm)) (s_g 7)) (by symm)) W0) (by symm))))))),λds M Kk hM hD h=>?_}
  let⟨k,c,bs,ss,Y,rfl,h⟩:=h;let⟨B,hc,⟨ht,hs⟩,kk⟩:=h;let sq:=(Vv (Zbf hc)).2.2;let l3:=ht.1;let at0:=Yu (f:=tbl) (as:=Y) (i:=0) (j:=0) rfl ();let y:=Yu (f:=tbl) (as:=Y) (i:=1) (j:=1) rfl ();let t0:=ht.2 _ (Js (show 0<Y.length by lia));let t1:=ht.2 _ (Js (show 1<Y.length by lia));generalize Y[0]=L0 at at0 t0;generalize Y[1]=L1 at y t1;let a5:Vu bs<=6:=by unfold Vu;split<;>decide
  let mb:Vu bs<=100:=by lia
  let frz:∀{τ:Type}{f:τ->D}(as:List τ){K':K3},(∀a,Yb M.length (f a))->K' (.lst (as.map f)) M->frzK M.length K' (.cell M.length) (M++[.lst (as.map f)]):=by
   intro τ f as K' hb hK;refine{_,_,rfl,by rw[Jc];rfl,Yj,rfl,λm hm=>?_,by rw[B8];exact hK};rcases Jv.mp hm with z|z
   .exact hM m z
   .rw[Je.mp z];exact Zb3 (X1 hb as)
  refine{_,rfl,_,_,_,sq,rfl,at0,_,rfl,_,_,_,sq,rfl,y,_,rfl,_,rfl,_,_,_,sq,rfl,at0,_,rfl,k,L0,_,rfl,B,{t0.fi,mb},λU hU hm lU=>frz _ (λ_=>Xo) ?_};refine{L0,L1,_,U,rfl,rfl,{t0.fr,t0.fi,t1.fi,hU,()},λR tl=>frz _ (λ_=>Zdo) ?_};let lR:(osOf R).length<=6:=by
   let h1:=tl.len;rw[show(osOf R).length=R.length from Ja _];rcases hm with z|z
   .lia
   .let:(Zp U).length=0:=by rw[z];rfl
    lia
  generalize osOf R=E0 at lR;let a8:(E0.map oD).length=E0.length:=Ja _;exists ·,k,5,rfl,B,⟨nofun,nofun⟩,λw w0 w1=>?_;exists ·,k,60,rfl,B,⟨nofun,nofun⟩,λa a0 a1=>?_;exists ·,·,_,·,rfl,(),?_;show uG 6 (D.int (a % (((E0.map oD).length:Int)+1))) _ _ _;let O:0<=a % (((E0.map oD).length:Int)+1):=Bq _ ();generalize a % (((E0.map oD).length:Int)+1)=at_ at O;exists ·,g_nx ?_
  try dsimp only
  let' St:Ev->Mem->Prop:=λa2 M'=>∃(Z:List (Option Int))(v8:Option D),a2=[some (.cell k),some (.cell c),some (.int (Vu bs)),some (.lst (ss.map .int)),some (.lst (E0.map oD)),some (.int w),some (.int at_),some (.lst (Z.map oD)),v8]/\M=M'/\Z.length<=8
  refine Zg6 St (λKn hn=>?_) ?_
  .exists ·,Vc W3 (a:=w) (b:=0) {_,rfl,ite2 (λ_=>?_) (λ_=>hn _ _ {E0,_,rfl,rfl,()})};refine Zte (λd M'=>∃o:Option Int,d=oD o/\M=M') (λKq hq=>?_) ?_
   .exists ·,·,k,14,rfl,B,⟨nofun,nofun⟩,λr r0 r1=>?_;exists _,_,·,rfl,Yu (f:=D.int) (as:=ss) (j:=r.toNat) () (),(show 2<=Ca by decide),?_;exists ·,k,2,rfl,B,⟨nofun,nofun⟩,λq q0 q1=>?_;exists _,_,·,rfl,Yu (f:=oD) (as:=[none,some ss[r.toNat]]) (j:=q.toNat) () (by show q.toNat<2;lia),hq _ _ {_,rfl,rfl}
   rintro _ _ ⟨o,rfl,rfl⟩;exists ·,·,·,·,·,(show 1<=Ca by decide),_,·,rfl,?_,?_
   .let:=Zbw (E0.map oD) none (some at_);exact Zi (by show _+1<=_;lia)
   exists ·,·,·,k,2,rfl,B,⟨nofun,nofun⟩,λq q0 q1=>{_,rfl,_,rfl,_,_,rfl,rfl,?_,?_}
   .let:=Zbw (E0.map oD) none (some at_);let:=Zbw (E0.map oD) (some (at_+q)) none;rw[Jc];exact Zi (by show _+1+_<=_;lia)
   refine hn _ _ {cut E0 none (some at_)++[o]++cut E0 (some (at_+q)) none,some (oD o),?_,rfl,?_}
   .rw[Jj,Jj,U7,U7];rfl
   .let:=Zkc E0 O (show at_<=at_+q by lia);rw[Jc,Jc];show _+1+_<=_;lia
  rintro _ _ ⟨Z,v8,rfl,rfl,J⟩;refine Zg6 St (λKn hn=>?_) ?_
  .exists ·,Vc W3 (a:=w) (b:=1) {_,rfl,ite2 (λ_=>?_) (λ_=>hn _ _ {Z,_,rfl,rfl,J})};exists ·,·,_,_,_,sq,rfl,y,·,k,L1,·,B,{t1.fi,mb},λU hU _ lU=>frz _ (λ_=>Xo) ?_;let a3:(Zs U).length<=6:=by rw[show(Zs U).length=U.length from Ja _];exact lU
   rw[show(Zs U).map D.int=((Zs U).map some).map oD from by rw[Ju];rfl];let a4:((Zs U).map some).length<=6:=by rw[Ja];exact a3
   generalize (Zs U).map some=E2 at a4;let a7:(E2.map oD).length=E2.length:=Ja _;let c1:=Zbw (E2.map oD) none (some at_);let c2:=Zbw (E2.map oD) (some at_) none;refine{_,rfl,_,rfl,_,rfl,_,rfl,(show 1<=Ca by decide),_,rfl,k,2,rfl,B,⟨nofun,nofun⟩,λq q0 q1=>?_};let eN:(Cp q.toNat [D.non]).flatten=(Cp q.toNat (none:Option Int)).map oD:=by
    generalize q.toNat=n
    induction n with
    |zero=>rfl
    |succ n ih=>rw[Bj,Bn,ih,Bj];rfl
   let lN:(Cp q.toNat (none:Option Int)).length<=1:=by rw[List.length_replicate];lia
   exists _,·,rfl,{(),(),Zi (by show 1*_<=_;lia)},?_;rw[eN];generalize Cp q.toNat (none:Option Int)=Ns at lN;let a6:(Ns.map oD).length=Ns.length:=Ja _;exists _,·,rfl,Zi (),·,·,·,·,_,·,rfl,?_,?_
   .rw[Jc];exact Zi ()
   refine hn _ _ {cut E2 none (some at_)++Ns++cut E2 (some at_) none,v8,?_,rfl,?_}
   .rw[Jj,Jj,U7,U7];rfl
   .let:=Zkc E2 O (Jdt at_);rw[Jc,Jc];lia
  rintro _ _ ⟨Z,v8,rfl,rfl,J⟩;exists ·,_,_,_,sq,rfl,y,·,·,L1,_,Z,·,rfl,{t1.fr,t1.fi,()},·,ite2 (λ_=>{_,rfl,.inl (kk Z J)}) (λ_=>{_,rfl,.inl (kk E0 ())})
open L3
theorem Jdd(T:Txt mg){C:Addr}(F:Fun K "_law_due" "_law_due" Jcz f fd):FnOk P w K mg base CX0 4 f fd q18 (spOf ⟨C,K⟩ dDue73):=by
 refine L3.Fun.ok3 F Jbl (λds M K3 h=>?_) (λb2 A outer s H E hr=>?_)
 .let⟨L1,y,rfl,_⟩:=h;rfl
 .let SC:=Jbl;let hu:=hr.units;let G:=Xy hr;let Va:Room 3 _:=hr.mono nofun;refine{_,_,(Zb (Zq (i:=2) SC.nd rfl (Ci rfl) (Yr (Zdn (K:=K) rfl Va rfl) (by rfl) T.b_dict Ej (Za (pv 0) Zd)))
 (Zb (Zq (i:=3) SC.nd rfl (Cy rfl) No)
 (Zb (Y1 Co rfl (Z5 (pv 1)) (Zl (i:=4) SC.nd rfl (Ci rfl))
 (Zb (Zq (i:=5) SC.nd rfl (Ci rfl) Zf)
 (Zg (Y1 Co rfl (Z5 (pv 4)) (Zl (i:=6) SC.nd rfl (Ci rfl))
 (Zb (Zct G (pv 3) (Yc (Za (pv 5) (Za (pv 6) Zd))) (Z0 (Yp (K':=K) rfl) (Zer G (pv 3) (Yc (Za (pv 5) (Za (pv 6) Zd))) Zf ⟨rfl,rfl,rfl,rfl⟩) Zf) rfl)
 (Zg (Za8 (i:=5) SC.nd rfl (Ci rfl) (Zn (Yy (K:=K) rfl) (by rfl) T.b_len Jab (Za (R8 G (pv 2) (pv 6) (λ_ _=>rfl)) Zd)) Pp)))))))
 (Zg (Zy (Yi (T:=["_law_place","_law_one"]) (cs:=[3]) rfl (CScope.ok (by kernel_rfl)) (Z5 (Zn (Qy rfl) (by rfl) T.b_sorted C2 (Za (pv 3) Zd))) (λ_ _ _ _=>(Xq (n:=2) rfl (Zu (Zl (i:=0) (Ys (by kernel_rfl)) rfl (Ci rfl) (Cy rfl)) (Zu (Zl (i:=1) (Ys (by kernel_rfl)) rfl (Ci rfl) (Cy rfl)) Yw)) (by rfl))) (λ_ _ _ _=>Ym) (λ_ _ _ _=>(Yc (Za (pv 0) (Za (pv 1) (Za (R8 G (pv 2) (Yc (Za (pv 0) (Za (pv 1) Zd))) (λ_ _=>rfl)) Zd))))) (Vz (Z8 nofun (Z8 nofun Wd))))))))),λ_=>(Zw (Y7 (s_cb Nj (by symm)) (s_g 2)) (Zw (Y7 Zhs (s_g 3)) (Zw (Uj (s_il (Zr 1)) (s_g 4) (Zw (by symm) (Uj (s_il (Zr 4)) (s_g 6) (Zw (Zn0 (Zr 3) (by symm) (s_op Zhx (Zht (Zr 3) (by symm) Vk) Vk)) (Zhv (s_cb Zp4 (Ye (Za5 (Zr 2) (Zr 6)) X4))))))) (Wn (Vm (s_il (s_cb Zeh (by symm))) (by symm) Um (Zfv (Ye (Zr 0) (Ye (Zr 1) (Ye (Za5 (Zr 2) (by symm)) X4))))))))),λds M Kk hM hD h=>?_}
  let⟨L1,y,rfl,h⟩:=h;let⟨⟨fr,fi,hU⟩,k⟩:=h;let wb:=Sf fr;refine{_,rfl,_,L1.map prK,rfl,by rw[Ju];rfl,by rw[Ja];let:=fi.1;lia,?_};generalize Qx [] (L1.map prK)=kd at wb;let lP:=fi.1;let a0:∀{kp:List (Nat×Int)},kp.Nodup->(∀p∈kp,p∈grid L1)->kp.length<=12864:=λnd hq=>by
   let:=Ue nd hq;rw[Ze5]at this;lia
  let J:∀kvs,Re (M++[.dcT kvs]) (.cell M.length)=some kvs:=λkvs=>by simp only[Re,Yj]
  let lm:((y.map Zs).map tLs).length=y.length:=by rw[Ja,Ja]
  exists ·,·,λi ρ M'=>∃v4 v5 O kp,ρ=[some (tbl L1),some (.lst ((y.map Zs).map tLs)),some (.dct kd),some (.cell M.length),v4,v5,O]/\M'=M++[.dcT (kvP (occZ (y.take i)) kp)]/\DcOk (occZ (y.take i)) kp/\∀p∈kp,p∈grid L1,λ_ _ _ _ _=>rfl,{_,_,_,[],rfl,rfl,{Fe,λp=>{(λz=>nomatch z),λz=>Dx z (Bb 0)}},(λ_ z=>nomatch z)},?_,?_
  .rintro i x ρ _ hi hx ⟨v4,v5,O,kp,rfl,rfl,ct,sb⟩;let⟨a5,rfl⟩:=Z4 hx;let hi2:i<y.length:=by rwa [Ja]at a5
   rw[show(y.map Zs)[i]=Zs y[i]from Bv _];let⟨a7,a1⟩:=hU _ (Js hi2);generalize hu:y[i]=U at *
   let ls:(Zs U).length=U.length:=Ja _;exists ·,·,λj ρ M'=>∃O g kp,ρ=[some (tbl L1),some (.lst ((y.map Zs).map tLs)),some (.dct kd),some (.cell M.length),some (tLs (Zs U)),some (.int (((Zp (U.take j)).length:Nat):Int)),O]/\M'=M++[.dcT (kvP g kp)]/\(∀p,g p=occZ (y.take i) p+(occ 0 (U.take j)).count p)/\DcOk g kp/\∀p∈kp,p∈grid L1,λ_ _ _ _ _=>rfl,{_,_,kp,rfl,rfl,λp=>rfl,ct,sb},?_,?_
   .rintro j x ρ _ hj hx ⟨O,g,kp,rfl,rfl,hg,ct,sb⟩;let⟨Z,rfl⟩:=Z4 hx;let Y:j<U.length:=by lia
    rw[show(Zs U)[j]=U[j].1 from Bv _];let a2:=a7 _ (Js Y);let hv:=wb.1 _ a2;let⟨a4,a8,e',a3⟩:=ct.add ((Zp (U.take j)).length,U[j].1) (v:=1) nofun;let a6:((Zp (U.take j)).length,U[j].1)∈grid L1:=Ze4 (Jx (Zn1 U j) a1) (Jk.mpr {_,a2,rfl});let lt:(kvP g kp).length<Ca:=by
     unfold kvP;rw[Ja];exact Gu (a0 ct.nd sb) nofun
    exists ·,.inr (by rw[J];exact(λz=>nomatch z)),?_;exists ·,·,(show 2<=Ca by decide),_,.inr {_,pkK ((Zp (U.take j)).length,U[j].1),J _,rfl,rfl},?_;rw[ct.get];exists ·,·,·,(show 2<=Ca by decide),_,.inr {M.length,_,pkK ((Zp (U.take j)).length,U[j].1),rfl,Yj,rfl,lt,rfl},?_;rw[Y5,show((g ((Zp (U.take j)).length,U[j].1):Nat):Int)+1=((g ((Zp (U.take j)).length,U[j].1)+1:Nat):Int)from rfl,e'];exists ·,·,·,_,.inl {_,_,rfl,rfl,hv.symm},?_;exists ·,·,.inl {some (.int U[j].1),_,a4,?_,rfl,λp=>?_,a8,λp hp=>?_}
    .rw[Zej Y,Jc,Fs,<-Ja (f:=D.int) (as:=U[j].2)];rfl
    .rw[Zge U Y];unfold addP;rw[hg]
     split
     .rw[Br]
     .rfl
    .rcases a3 p hp with z|z
     .rw[z];exact a6
     .exact sb p z
   .rintro ρ _ ⟨O,g,kp,rfl,rfl,hg,ct,sb⟩;let e:g=occZ (y.take (i+1)):=funext λp=>by
     rw[hg,Jd hi2,hu,Ziw,Gk (l:=U)];exact Bz (by rw[<-ls];exact(Ja _).symm)
    subst e;exact .inl {_,_,_,kp,rfl,rfl,ct,sb}
  .rintro ρ _ ⟨v4,v5,O,kp,rfl,rfl,ct,sb⟩;rw[show Ee _ y=y from Gk (Bz lm.symm)]at ct⊢;let b1:=a0 ct.nd sb;generalize occZ y=g at *
   let lz:(kp.map λp=>(Wk p,D.int (g p))).length=kp.length:=Ja _;let inj:∀{a b:Nat×Int},Wk a=Wk b->a=b:=λh=>U4 (by unfold pkK;exact congrArg wk h);exists ·,.cell M.length,kp.map λp=>(Wk p,D.int (g p)),rfl,by rw[J,Ju];rfl,{by rw[lz];lia,λz hz=>?_,?_},λws pm pw=>?_
   .let⟨p,_,rfl⟩:=Jk.mp hz;exact(λz=>nomatch z)
   .rw[Ju];exact List.Pairwise.map _ (λa b h z=>h (inj z)) ct.nd
   rw[Ju]at pm;let⟨B,pq,rfl⟩:=L2.W2 pm rfl;let pw:B.Pairwise λa b=>HT.lexLt (Wk a) (Wk b)=true:=Jr.mp pw;let lq:B.length=kp.length:=pq.length_eq;rw[show List.map wD (List.map ((λx=>x.1) ∘ λp=>(Wk p,D.int (g p:Int))) B)=B.map (wD ∘ Wk)from by rw[Ju];rfl];let lm:(B.map (wD ∘ Wk)).length=B.length:=Ja _;exists ·,?_,λj ys M'=>M'=M++[.dcT (kvP g kp)]/\ys=(B.take j).map (trD g),λ_ _ _ _ _=>rfl,⟨rfl,rfl⟩,?_,?_
   .show(B.map (wD ∘ Wk)).length<=Ca;rw[lm];exact Jx (by lia:_<=12864) nofun
   .rintro j x ys _ hj hx ⟨rfl,rfl⟩;let⟨Z,rfl⟩:=Z4 hx;let hm:B[j]∈kp:=pq.mem_iff.mp (Js Z);exists ·,rfl,_,·,_,·,rfl,?_;exists ·,·,·,·,·,(show 2<=Ca by decide),_,.inr {_,pkK B[j],J _,rfl,(N6 hm).symm},(show 3<=Ca by decide),rfl,?_;rw[Jd Z,Jj];rfl
   .rintro ys _ ⟨rfl,rfl⟩;rw[Gk (l:=B)]
    .let below:Yb M.length (.lst (B.map (trD g))):=V2 (X1 (λ_=>Q0 (X7 Xo (X7 Xo (X7 Xo Q2)))) B);exact Zao (Go _ _) hM below (k B {pw,λq=>by rw[pq.mem_iff];exact ct.mm q} ())
    .exact Bz lm.symm
open L3
theorem Jdk(T:Txt mg){C:Addr}(F:Fun K "_law_same" "_law_same" Jci f fd):FnOk P w K mg base CX0 4 f fd q15 (spOf ⟨C,K⟩ dSame73):=by
 refine L3.Fun.ok3 F Jdh (λds M K3 h=>?_) (λa1 A outer s H E hr=>?_)
 .let⟨k,kp,g,rfl,_⟩:=h;rfl
 .let SC:=Jdh;let Z:=hr.units;let a0:=Xy hr;refine{_,_,(Zb (Yz (PW.pt (Zqf (Zig (Sz (Zn (Zfg (K:=K) rfl) (by rfl) T.b_isinstance Ey (Za (pv 0) (Za (Np (v:=.ty "list") rfl T.b_list Hq rfl) Zd))))) (Zie (Z1 (Zfo (K':=K) rfl Z) (Zn (Yy (K:=K) rfl) (by rfl) T.b_len Jab (Za (pv 0) Zd)) (Zn (Yy (K:=K) rfl) (by rfl) T.b_len Jab (Za (pv 1) Zd)) (Ya _)))))
 (Zg (Zy Nq))
 Z2)
 (Zb (Y1 Co rfl (Yq rfl T.b_range (Za (Zn (Yy (K:=K) rfl) (by rfl) T.b_len Jab (Za (pv 1) Zd)) Zd)) (Zl (i:=2) SC.nd rfl (Ci rfl))
 (Zb (Yz (PW.pt (Zqf (Zig (Sz (Zn (Zfg (K:=K) rfl) (by rfl) T.b_isinstance Ey (Za (Z3 (Yl (K':=K) rfl) (pv 0) (pv 2) (λ_ _=>rfl)) (Za (Np (v:=.ty "tuple") rfl T.b_tuple Ex rfl) Zd))))) (Zie (Z1 (Zfo (K':=K) rfl Z) (Z3 (Yl (K':=K) rfl) (pv 0) (pv 2) (λ_ _=>rfl)) (Z3 (Yl (K':=K) rfl) (pv 1) (pv 2) (λ_ _=>rfl)) (Ya _)))))
 (Zg (Zy Nq))
 Z2)
 (Zg (Yz (Sz (Zn (Zoo (K:=K) rfl rfl) (by rfl) T.b_any PyProof.Rows.boot_any (Za (Yi (T:=["_law_one"]) (cs:=[]) rfl (CScope.ok (by kernel_rfl)) (R7 (Z3 (Yl (K':=K) rfl) (pv 0) (pv 2) (λ_ _=>rfl))) (λ_ _ _ _=>(Zl (i:=0) (Ys (by kernel_rfl)) rfl (Ci rfl) (Cy rfl))) (λ_ _ _ _=>Ym) (λ_ _ _ _=>(Zt8 (Zn (Zfg (K:=K) rfl) (by rfl) T.b_isinstance Ey (Za (pv 0) (Za (Np (v:=.ty "bool") rfl T.b_bool Jgx rfl) Zd))) (Zn9 (Zt9 (Zn (Zfg (K:=K) rfl) (by rfl) T.b_isinstance Ey (Za (pv 0) (Za (Np (v:=.ty "int") rfl T.b_int Jg7 rfl) Zd))))))) (Yt nofun)) Zd)))
 (Zg (Zy Nq))
 Z2))))
 (Zg (Zy Nq)))),λ_=>(Zw (Uw (s_or (Zp2 (s_b (s_cb (Zls (T:=.list)) (by symm)))) (by symm)) (Wn s_bl) W0) (Zw (Uj (by symm) (s_g 2) (Zw (Uw (s_or (Zp2 (s_b (s_cb (Zls (T:=.tuple)) (by symm)))) (by symm)) (Wn s_bl) W0) (Uw (s_b (s_cb Ztr (Ye (Vm (by symm) (s_g 0) Um (Zth (s_cb (Zls (T:=.bool)) (by symm)) (Znx (s_cb (Zls (T:=.int)) (by symm))))) X4))) (Wn s_bl) W0))) (Wn s_bl))),λds M Kk hM hD h=>?_}
  let⟨k,kp,g,rfl,h⟩:=h;let⟨hk,hl,kk⟩:=h;let hd:lsOf M (.cell k)=some (kp.map (trD g)):=by simp only[lsOf,hk]
  let⟨t1,l1,J⟩:=Vv hd;let lm:(kp.map (trD g)).length=kp.length:=Ja _;exists ·,_,·,t1,·,iteF ?_;exists ·,?_;refine Zog hd ?_;exists ·,·,?_;refine .inl {_,rfl,_,rfl,?_};rw[D8 rfl];refine iteF ?_;exists ·,·,?_;exists((kp.map (trD g)).length:Int),rfl,{(),()},λi ρ Y=>∃G:Option D,ρ=[some (.cell k),some (.lst (kp.map (trD g))),G]/\M=Y,λ_ _ _ _ _=>trivial,{_,rfl,rfl},?_,?_
  .rintro j x ρ _ O rfl ⟨G,rfl,rfl⟩;let O:j<kp.length:=by
    let:j<(((kp.map (trD g)).length:Int)).toNat:=O;lia
   let y:L2.atI (kp.map (trD g)) (0+(j:Int))=some (trD g kp[j]):=Yu (j:=j) () O;exists ·,·,_,_,_,J,rfl,y,_,·,rfl,·,iteF ?_;exists ·,·,_,_,_,J,rfl,y,·,·,_,_,·,rfl,y,Vc (Zoj W3) (a:=[(kp[j].1:Int),kp[j].2,(g kp[j]:Int)]) (b:=[(kp[j].1:Int),kp[j].2,(g kp[j]:Int)]) {_,rfl,?_};rw[D8 rfl];refine iteF ?_;exists ·,·,_,_,_,J,rfl,y,·,(show 3<=Ca by decide),λi ys Y=>M=Y/\ys=((Cv i).map λ_=>false).map .bl,λ_ _ _ _ _=>trivial,⟨rfl,rfl⟩,?_,?_
   .rintro i x ys _ hi hx ⟨rfl,rfl⟩;let ex:∃n:Int,x=.int n:=by
     let B:=G1 hx;rcases J9.mp B with z|B
     .exists _,z
     rcases J9.mp B with z|B
     .exists _,z
     exists _,Je.mp B
    let⟨n,rfl⟩:=ex;exists ·,_,·,rfl,·,iteF ?_;exists ·,_,·,rfl,·,rfl,?_;rw[Dh,Jj,Jj];rfl
   rintro ys _ ⟨rfl,rfl⟩;exists _,·,rfl,·,?_;exact iteF (.inl {_,rfl,rfl})
  .rintro ρ _ ⟨G,rfl,rfl⟩;exact .inl kk
open L3
abbrev spLaw(K:Cq)(Pt:Addr):Sp:=Znt K Pt lamP lamQ
theorem Jcc(T:Txt mg){C:Addr}(c5:Mkr P w K mg base "Code" C 4 q11 (Zck C Pt lamP lamQ))(Td:Cal P w K mg base "_law_open" 1 q17 (spOf ⟨C,K⟩ dOpen))(Vh:Cal P w K mg base "_law_tables" 4 ["_law_hand"] (spOf ⟨C,K⟩ dTabs71))(Wx:Cal P w K mg base "_law_entries" 6 q02 (spOf ⟨C,K⟩ dEnts))(d3:Cal P w K mg base "doubts" 9 q21 (spOf ⟨C,K⟩ dDoubts))(Xe:Cal P w K mg base "_law_small" 5 q01 (spOf ⟨C,K⟩ dSmall))(Sw:Cal P w K mg base "_law_all" 6 q07 (spOf ⟨C,K⟩ dAllL))(Sv:Cal P w K mg base "_law_due" 4 q18 (spOf ⟨C,K⟩ dDue73))(Tc:Cal P w K mg base "_law_same" 4 q15 (spOf ⟨C,K⟩ dSame73))(F:Fun K "law" "law" Zp5 f fd):FnOk P w K mg base CX0 10 f fd q25 (spOf ⟨C,K⟩ (dLawT Pt lamP lamQ)):=by
 refine L3.Fun.ok3 F Jby (λds M K3 h=>?_) (λd7 A outer s H E hr=>?_)
 .let⟨ns,rfl,_⟩:=h;rfl
 .let SC:=Jby
  let hu:=hr.units;let d4:=Xy hr;let c4:Room 5 _:=hr.mono nofun;let d0:Room 1 _:=hr.mono nofun;let Pc:Room 4 _:=hr.mono nofun;let Qr:Room 6 _:=hr.mono nofun;let c6:Room 9 _:=hr.mono nofun;let Vb:Room 5 _:=hr.mono nofun;let c7:Room 6 _:=hr.mono nofun;let c8:Room 4 _:=hr.mono nofun;let d1:Room 4 _:=hr.mono nofun;refine{_,_,(Zb (Y1 Co rfl (Yq rfl T.b_range (Za (Zn (Qz rfl) (by rfl) T.b_max K8 (Za Zf (Za (Zn (Zb0 rfl) (by rfl) T.b_min Jb8 (Za (Zn (Yy (K:=K) rfl) (by rfl) T.b_len Jab (Za (pv 0) Zd)) (Za Zf Zd))) Zd))) Zd)) (Zl (i:=1) SC.nd rfl (Ci rfl))
 (Zb (Zq (i:=2) SC.nd rfl (Ci rfl) (Zv Td d0 rfl (Za (pv 0) (Za (pv 1) Zd))))
 (Zb (Pj (Zv Vh Pc rfl (Za (pv 2) Zd)) (Xq (n:=3) rfl (Zu (Zl (i:=3) SC.nd rfl (Ci rfl)) (Zu (Zl (i:=4) SC.nd rfl (Ci rfl)) (Zu (Zl (i:=5) SC.nd rfl (Ci rfl)) Yw))) (by rfl)))
 (Zb (Vr (i:=6) SC.nd rfl rfl (T:=["_law_table_here"]) (cs:=[]) rfl (CScope.ok (by kernel_rfl)) (Z5 (pv 3)) (λ_ _ _ _=>(Zl (i:=0) (Ys (by kernel_rfl)) rfl (Ci rfl) (Cy rfl))) (λ_ _ _ _=>Ym) (λ_ _ _ _=>(Zub c5 c4 rfl (Za (Yr (Zdm (K:=K) rfl) (by rfl) T.b_list Hq (Za (pv 0) Zd)) Zd))) (Yt nofun))
 (Zb (Zq (i:=7) SC.nd rfl (Ci rfl) (Zv Wx Qr rfl (Za (pv 2) (Za (pv 3) (Za (pv 4) (Za (pv 5) Zd))))))
 (Zb (Zq (i:=8) SC.nd rfl (Ci rfl) (Yr (Zdm (K:=K) rfl) (by rfl) T.b_list Hq (Za (pv 7) Zd)))
 (Zg (Y1 Co rfl (R7 (Yc (Za (Yc (Za Zf (Za Zf Zd))) (Za (Yc (Za Zf (Za Zf Zd))) (Za (Yc (Za Zf (Za Zf Zd))) (Za (Yc (Za Zf (Za Zf Zd))) Zd)))))) (Xq (n:=2) rfl (Zu (Zl (i:=9) SC.nd rfl (Ci rfl)) (Zu (Zl (i:=10) SC.nd rfl (Ci rfl)) Yw)) (by rfl))
 (Zb (Zq (i:=11) SC.nd rfl (Ci rfl) (Zv d3 c6 rfl (Za (Z3 (Yl (K':=K) rfl) (pv 6) (pv 9) (λ_ _=>rfl)) (Za (Z3 (Yl (K':=K) rfl) (pv 6) (pv 10) (λ_ _=>rfl)) (Za (pv 8) Zd)))))
 (Zb (Yz (Sz (Zv Xe Vb rfl (Za (Z3 (Yl (K':=K) rfl) (pv 3) (pv 10) (λ_ _=>rfl)) (Za (pv 7) (Za (pv 4) Zd)))))
 (Zb (Zq (i:=12) SC.nd rfl (Ci rfl) (Zv Sv c8 rfl (Za (Z3 (Yl (K':=K) rfl) (pv 3) (pv 9) (λ_ _=>rfl)) (Za (Zv Sw c7 rfl (Za (Z3 (Yl (K':=K) rfl) (pv 3) (pv 9) (λ_ _=>rfl)) (Za (Z3 (Yl (K':=K) rfl) (pv 3) (pv 10) (λ_ _=>rfl)) (Za (pv 7) Zd)))) Zd))))
 (Zg (Yz (PW.pt (Zqf (Zig (Sz (Zv Tc d1 rfl (Za (pv 11) (Za (pv 12) Zd))))) (Zie (Z1 (Zfo (K':=K) rfl hu) (pv 8) (pv 7) (Ya _)))))
 (Zg (Zy Nq))
 Z2)))
 Z2)
 (Zg (U3 (Zfx Ed Hg Hh Tz (pv 11) (Za (Yc (Za Zf (Za Zf (Za Zf Zd)))) Zd))))))))))))))
 (Zg (Zy Nq))),λ_=>(Zw (Uj (by symm) (s_g 1) (Zw (by symm) (Zw (by symm) (Zw (Y7 (Vm (s_il (Zr 3)) (s_g 0) Um (Zlr (by symm))) (s_g 6)) (by symm))))) (Wn s_bl)),λds M Kk hM hD h=>?_}
  let⟨ns,rfl,h⟩:=h;let⟨rfl,b5,k⟩:=h;let lm:∀ns:List Int,(ns.map D.int).length=ns.length:=λns=>Ja _;exists ·,·,_,·,_,·,·,?_,λi ρ M'=>∃v1 v2 v3 v4 v5 v6 v7 v8 v9 Y O J,ρ=[some (.frz (ns.map .int)),v1,v2,v3,v4,v5,v6,v7,v8,v9,Y,O,J]/\[.tab Pt lamP lamQ]=M',λ_ _ _ _ _=>trivial,{_,_,_,_,_,_,_,_,_,_,_,_,rfl,rfl},?_,?_
  .rw[lm]
   constructor<;>(split<;>(try split)<;>lia)
  .rintro i x ρ M' hi rfl ⟨v1,v2,v3,v4,v5,v6,v7,v8,v9,Y,O,J,rfl,rfl⟩;let hb:i<63:=by
    let h1:i<Int.toNat _:=hi;rw[lm]at h1
    revert h1
    split<;>(try split)<;>lia
   exists ·,·,ns,·,{b5,(),()},?_;exists ·,1,rfl,rfl,λbs ss B hb t3 c0=>?_;exists ·,rfl,_,·,_,·,_,·,rfl,?_;let lL:=t3.1;let hL:∀i(hi:i<B.length),TbK B[i] bs:=λi hi=>t3.2 _ (Js hi);let zL:(B.map tbl).length<=Ca:=by rw[Ja,lL];decide
   exists ·,·,zL,λj ys M'=>[.tab Pt lamP lamQ,.hand,.lst (B.map tbl)]=M'/\∃y:List (List Pr),ys=y.map D.code/\y.length=j/\∀i(h1:i<y.length)(h2:i<B.length),y[i].Perm B[i],λ_ _ _ _ z=>by rw[<-z.1];rfl,{rfl,[],rfl,rfl,λi h=>Dx h (Bg _)},?_,?_
   .rintro j x ys _ hj hx ⟨rfl,y,rfl,rfl,Z⟩;let⟨b7,rfl⟩:=Z4 (f:=tbl) hx;exists ·,_,·,rfl,0,_,·,rfl,rfl,{(hL _ b7).fr,(hL _ b7).fi},λS pm ri=>{rfl,y++[S],by rw[Jj];rfl,by rw[Jc];rfl,λi h1 h2=>?_}
    by_cases hi:i<y.length
    .rw[List.getElem_append_left hi];exact Z i hi h2
    .let:i=y.length:=by rw[Jc,G4]at h1;lia
     subst this;rw[List.getElem_append_right (Ji _)];simpa using pm
   rintro ys _ ⟨rfl,y,rfl,b4,Z⟩;let b4:y.length=3:=by rw[b4];show(B.map tbl).length=_;rw[Ja,lL]
   let hS:∀i(h1:i<y.length)(h2:i<B.length),Free y[i]/\Fits y[i]:=λi h1 h2=>{(hL i h2).fr.perm (Z i h1 h2),(hL i h2).fi.perm (Z i h1 h2)};exists ·,·,·,·,1,2,bs,ss,B,rfl,rfl,rfl,⟨t3,c0⟩,λE d6=>?_;let hE:E.length<=50:=by lia
   exists ·,_,·,rfl,?_;let d2:2<=Ca:=by decide
   exists d2,d2,d2,d2,(show 4<=Ca by decide),·,λ_ ρ M'=>∃v9 Y O J,ρ=[some (.frz (ns.map .int)),some (.int (0+(i:Int))),some (.cell 1),some (.cell 2),some (.int (Vu bs)),some (.lst (ss.map .int)),some (.lst (y.map D.code)),some (.lst (E.map oD)),some (.lst (E.map oD)),v9,Y,O,J]/\[.tab Pt lamP lamQ,.hand,.lst (B.map tbl)]=M',λ_ _ _ _ _=>trivial,{_,_,_,_,rfl,rfl},?_,?_
   .rintro j x ρ _ hj hx ⟨v9,Y,O,J,rfl,rfl⟩;obtain⟨a,b,rfl,ha,d5⟩:∃a b:Nat,x=.tup [.int a,.int b]/\a<3/\b<3:=by
     let c1:[D.tup [.int 0,.int 1],.tup [.int 0,.int 2],.tup [.int 2,.int 1],.tup [.int 0,.int 1]][j]?=some x:=hx
     match j,c1 with
     |0,e=>exact{0,1,(Jaa e).symm,nofun,nofun}
     |1,e=>exact{0,2,(Jaa e).symm,nofun,nofun}
     |2,e=>exact{2,1,(Jaa e).symm,nofun,nofun}
     |3,e=>exact{0,1,(Jaa e).symm,nofun,nofun}
    let haL:a<B.length:=by lia
    let a0:b<B.length:=by lia
    let a5:a<y.length:=by lia
    let a4:b<y.length:=by lia
    let⟨a7,a8⟩:=hS a a5 haL;let⟨a6,a2⟩:=hS b a4 a0;let pa:=Z a a5 haL;let pb:=Z b a4 a0;let ta:=hL a haL;let tb:=hL b a0;let b2:=Yu (f:=tbl) (as:=B) (i:=(a:Int)) (j:=a) rfl haL;let b1:=Yu (f:=tbl) (as:=B) (i:=(b:Int)) (j:=b) rfl a0;let b9:=Yu (f:=D.code) (as:=y) (i:=(a:Int)) (j:=a) rfl a5;let b8:=Yu (f:=D.code) (as:=y) (i:=(b:Int)) (j:=b) rfl a4;generalize B[a]=La at pa ta b2;generalize B[b]=Lb at pb tb b1;generalize y[a]=Sa at pa a7 a8 b9;generalize y[b]=Sb at pb a6 a2 b8;let sm:SmlC Sa Sb E:=λkn hk q _=>Zve pa ta () (Jx (Po a2 hk) ())
    exists ·,rfl,_,·,_,·,rfl,?_;exists ·,·,_,_,·,rfl,b9,·,·,_,_,·,rfl,b8,·,Sa,Sb,_,E,rfl,rfl,⟨a7,a8,a6,a2,hE⟩,sm,?_;rintro _ kc kp ⟨X,rfl⟩ c2 a1 c3 b6;let b3:(kp.map (trD (dbO Sa Sb E))).length<Ca:=by rw[Ja];exact Gu b6 nofun
    let hcell:lsOf ([.tab Pt lamP lamQ,.hand,.lst (B.map tbl)]++X) (.cell kc)=some (kp.map (trD (dbO Sa Sb E))):=by simp only[lsOf,a1]
    let a3:∀o,([.tab Pt lamP lamQ,.hand,.lst (B.map tbl)]++X:Mem).set kc o=[.tab Pt lamP lamQ,.hand,.lst (B.map tbl)]++X.set (kc-3) o:=λo=>Fa _ _ c2;exists ·,·,_,_,·,rfl,b1,·,·,Lb,_,E,·,rfl,{tb.fr,tb.fi,hE},·,ite2 (λG=>?_) (λ_=>{_,rfl,W9 hcell,(show 3<=Ca by decide),kc,_,_,rfl,rfl,a1,b3,.inr (.inl {_,{_,a3 _},.same <|.same <|.same <|.same <|.same <|.same <|.same <|.same <|.same <|.skip <|.skip <|.skip <|.skip .nil,_,_,_,_,rfl,rfl})});exists ·,·,_,_,·,rfl,b2,·,·,_,_,·,rfl,b2,·,·,_,_,·,rfl,b1,·,La,Lb,_,E,bs,rfl,rfl,{ta,tb.fr,tb.fi,hE,λkn hk=>?_},λzs hz hm=>?_
    .rw[hk]at G;let G:decide ((kn.length:Int)<=Vu bs)=true:=G;let G:=Dw G;unfold Vu at G;rcases hb with z|z
     .rw[D7 z]at G;exact .inl {(),()}
     .rw[D6 ()]at G;exact .inr {(),()}
    .let⟨Us,rfl,hU⟩:=Zt5 (Q:=λU=>(∀p∈U,p∈La)/\(Zp U).length<=200) (zs:=zs) λt ht=>by
      let⟨U,R,a,b,c,d⟩:=(hm t).mp ht;exists U,a,b,?_;cases hk:knF Lb E with
      |none=>exact Dx ⟨R,c,d⟩ (Nt tb.fr hk)
      |some kn =>
       let h1:=((Nu tb.fr (λp hp=>(tb.fi.2 p hp).1) hk).mp ⟨R,c,d⟩).1;let h2:=Po tb.fi hk;lia
     exists La,Us,rfl,{ta.fr,ta.fi,hU},λkq hq lq=>?_;let eo:occZ Us=dbO Sa Sb E:=Zqu (Zfy a7 a8 a6 a2 (Zi9 hz) (λt=>(hm t).trans {λh=>h.perm pa.symm pb.symm,λh=>h.perm pa pb}) rfl λU h p hp=>pa.mem_iff.mpr ((hU U h).1 p hp));rw[eo]at hq⊢;cases Zmv hq c3;exists ·,·,kc,kp,·,a1,b6,·,iteF ?_;exists ·,·,Zam encO (a:=E) (b:=E) rfl rfl {_,rfl,?_};rw[D8 rfl];exact iteF {_,rfl,W9 hcell,(show 3<=Ca by decide),kc,_,_,rfl,rfl,a1,b3,.inr (.inl {_,{_,a3 _},.same <|.same <|.same <|.same <|.same <|.same <|.same <|.same <|.same <|.skip <|.skip <|.skip <|.skip .nil,_,_,_,_,rfl,rfl})}
   .rintro ρ _ ⟨v9,Y,O,J,rfl,rfl⟩;exact .inr (.inl {_,{[.hand,.lst (B.map tbl)],rfl},.same <|.skip <|.skip <|.skip <|.skip <|.skip <|.skip <|.skip <|.skip <|.skip <|.skip <|.skip <|.skip .nil,_,_,_,_,_,_,_,_,_,_,_,_,rfl,rfl})
  .rintro ρ M' ⟨v1,v2,v3,v4,v5,v6,v7,v8,v9,Y,O,J,rfl,rfl⟩;exact .inl (k _)
end
def all_mk{l:Jg4}{fa:Addr}(X:K.In h)(G:h.Ns Cw mg)(O:mg "law"=some (.ref fa)){C:Addr}(aC:W.nsIn K Cw "Code"=some (some (.ref C)))(gx_FIRST_SPOT:W.nsIn K Cw "FIRST_SPOT"=some (some (.ref Yd)))(gx_Leaving:W.nsIn K Cw "Leaving"=some (some (.ref Zt)))(h0:FnG K "_law_draw" Jcd f0 d0)(h1:FnG K "_law_open" Jag f1 d1)(h2:FnG K "_law_bytes" Jam f2 d2)(h3:FnG K "_law_words" Jdj f3 d3)(h4:FnG K "_law_table" Jdc f4 d4)(h5:FnG K "odds_between" Wp f5 d5)(h6:FnG K "fault" Zco f6 d6)(h7:FnG K "refuse_fault" Wo f7 d7)(h8:FnG K "beginnings" Vo f8 d8)(a9:Ez K (.ref C) "__init__"=some (some (.ref f9)))(l9:K.lookup f9=some {oc9,od9,.func (Jc7 "__init__" "Code.__init__" (Wf Zz) (Xm Zz) (Zm Zz) .none kV9 dc9 pm9 an9 (.ref c) ct9),sl9})(c9:Jd0 K (.ref c) "Code.__init__"=true)(k9:Jc1 K (.ref f9)=true)(n9:W.isFn K (.ref f9)=true)(h10:MtG K C "word" "Code.word" Uy f10 d10)(h11:MtG K C "sign" "Code.sign" Uz f11 d11)(h12:MtG K C "live" "Code.live" U0 f12 d12)(h13:MtG K C "signs" "Code.signs" Vp f13 d13)(h14:FnG K "_law_from" Jaz f14 d14)(h15:FnG K "_law_signs" Jcv f15 d15)(h16:FnG K "known_bytes" W5 f16 d16)(h17:FnG K "byte_taken" Vn f17 d17)(h18:FnG K "word_taken" Vl f18 d18)(h19:FnG K "steps_at" Sg f19 d19)(h20:FnG K "all_steps" Ux f20 d20)(h21:FnG K "counts_behind" X8 f21 d21)(h22:MtG K Zt "__init__" "Leaving.__init__" Xl f22 d22)(h23:FnG K "counts_ahead" Wq f23 d23)(h24:FnG K "sign_counts" W4 f24 d24)(h25:FnG K "doubts" Nh f25 d25)(h26:FnG K "_law_tables" Jbh f26 d26)(h27:FnG K "_law_carried" Jbs f27 d27)(h28:FnG K "_law_size" Jao f28 d28)(h29:FnG K "_law_small" Jcn f29 d29)(h30:FnG K "_law_all" Jaw f30 d30)(h31:FnG K "_law_text_of" Jce f31 d31)(h32:FnG K "_law_entries" Jas f32 d32)(h33:FnG K "_law_due" Jcz f33 d33)(h34:FnG K "_law_same" Jci f34 d34)(h35:FnG K "law" Zp5 f35 d35)(nk_FIRST_SPOT:L2.Zg8 K Yd=true)(cl_Leaving:Cls K Zt)(mk_Leaving:MkG K Zt)(na_size_Leaving:Ez K (.ref Zt) "size"=some none)(na_behind_Leaving:Ez K (.ref Zt) "behind"=some none)(na_steps_Leaving:Ez K (.ref Zt) "steps"=some none)(hd:Jen K c Pt=true)(cl:Cls K C)(mk:MkG K C)(y_pairs:Ez K (.ref C) "pairs"=some none)(y_words_by_sign:Ez K (.ref C) "words_by_sign"=some none)(y_signs_by_word:Ez K (.ref C) "signs_by_word"=some none)(y_begun:Ez K (.ref C) "begun"=some none)(y_word_sizes:Ez K (.ref C) "word_sizes"=some none)(z:Zod K ["len","abs","max","min","isinstance","any","range","int","bool","tuple","list","dict","sum","sorted"]=true)
   :∃fd:L4,(∃c,Jen K c Pt=true)/\(∀(s:Cc)(v:Cb),Jef s fd {[v],[]} [("_law_script",v)])/\∀base:Heap,K.In base->base.Ns Cw mg->Bm mg base->FnOk l.prog w K mg base CX0 10 fa fd q25 (spLaw K Pt):=by
  let e:=O.symm.trans (W.mg_of X G h35.g);cases e;let T:Txt mg:=⟨Wl X G z 0 rfl,Wl X G z 1 rfl,Wl X G z 2 rfl,Wl X G z 3 rfl,Wl X G z 4 rfl,Wl X G z 5 rfl,Wl X G z 6 rfl,Wl X G z 7 rfl,Wl X G z 8 rfl,Wl X G z 9 rfl,Wl X G z 10 rfl,Wl X G z 11 rfl,Wl X G z 12 rfl,Wl X G z 13 rfl⟩;let J:CodeT K C:=⟨cl,y_pairs,y_words_by_sign,y_signs_by_word,y_begun,y_word_sizes⟩;let F9:=Zjx (st:=Zz) l9 c9 k9;let b9:=F9.binds (ps:=q11) λ_ _ _ _ _ _=>us2 λ_ _=>rfl;let bl:∀(s:Cc)(v:Cb),Jef s d35 {[v],[]} [("_law_script",v)]:=by
    let⟨_,_,_,_,_,_,_,_,_,rfl,_,_⟩:=h35.F.ex;exact λs v=>.of_eq rfl
  exists d35,⟨c,hd⟩,bl,λbase kb _ a0=>?_;let Y:Tk l.prog w K mg base:={λe=>W.mg_of X G e};let Z:=Jgr kb hd;let Xd:=Y.m gx_FIRST_SPOT;let b7:=Y.m gx_Leaving;let N_FIRST_SPOT:=L2.Zpv nk_FIRST_SPOT;let Zk:=Xn Y h0 (Jal T  h0.F);let B:=L3.Cal.imp Zk λ_ _ _ _ h=>L3.Zv1 (C:=⟨C,K⟩) h;let Td:=Xn Y h1 (Jap T  h1.F);let b1:=L3.Cal.imp Td λ_ _ _ _ h=>L3.Zvz (C:=⟨C,K⟩) h;let Ub:=Xn Y h2 (Jdo T Zk h2.F);let b3:=L3.Cal.imp Ub λ_ _ _ _ h=>L3.Zrz (C:=⟨C,K⟩) h;let V8:=Xn Y h3 (Jbt (C:=C) T B h3.F);let V9:=Xn Y h4 (Jau T Zk h4.F);let b4:=L3.Cal.imp V9 λ_ _ _ _ h=>L3.Zrw (C:=⟨C,K⟩) h
  let Wv:=Xn Y h5 (Jcj T  h5.F);let a7:=Xn Y h6 (Jda T Wv h6.F);let Wu:=Xn Y h7 (Jbf T a7 h7.F);let V7:=Xn Y h8 (Jcf T  h8.F);let a4:Mkr l.prog w K mg base "Code" C 4 _ _:={f9,_,{mk.m,a9,n9,mk.k},Jbm T J Z a0 Wu V7 l9 c9,Y.m aC,b9};let b5:=Zmh Y cl h10 (Jca T J  h10.F);let y:=L3.Met.imp b5 λ_ _ _ _ h=>L3.Zvy (C:=⟨C,K⟩) h;let a6:=Zmh Y cl h11 (Jbz T J  h11.F);let a2:=L3.Met.imp a6 λ_ _ _ _ h=>L3.Zry (C:=⟨C,K⟩) h;let a5:=Zmh Y cl h12 (Jbi T J  h12.F);let a1:=L3.Met.imp a5 λ_ _ _ _ h=>L3.Zrx (C:=⟨C,K⟩) h;let b2:=Zmh Y cl h13 (Jai T J  h13.F);let a3:=L3.Met.imp b2 λ_ _ _ _ h=>L3.Zm9 (C:=⟨C,K⟩) h
  let Te:=Xn Y h14 (Jdn T  h14.F);let a8:=L3.Cal.imp Te λ_ _ _ _ h=>L3.Zv0 (C:=⟨C,K⟩) h;let Ua:=Xn Y h15 (Jbu (C:=C) T B h15.F);let Vg:=Xn Y h16 (Jay (C:=C) T y h16.F);let V6:=Xn Y h17 (Jbp (C:=C) T a2 a1 h17.F);let V5:=Xn Y h18 (Jck (C:=C) T V6 h18.F);let Su:=Xn Y h19 (Jco (C:=C) T V5 y a3 h19.F);let Tb:=Xn Y h20 (Jcr (C:=C) T Xd N_FIRST_SPOT Su h20.F);let Wj:=Xn Y h21 (Jcy (C:=C) T  h21.F);let Q6:=Zxi Y mk_Leaving h22 (Jcl T (C:=C) cl_Leaving na_size_Leaving na_behind_Leaving na_steps_Leaving Vg Tb Wj h22.F) gx_Leaving;let Ww:=Xn Y h23 (Jdl (C:=C) T Xd N_FIRST_SPOT cl_Leaving na_behind_Leaving na_steps_Leaving h23.F)
  let Vf:=Xn Y h24 (Jcx (C:=C) T cl_Leaving na_behind_Leaving na_steps_Leaving Ww h24.F);let b6:=Xn Y h25 (Jdm (C:=C) T Q6 Vf h25.F);let Vh:=Xn Y h26 (Jcg (C:=C) T B b3 V8 Ua b4 h26.F);let Yv:=Xn Y h27 (Jbq (C:=C) T a8 h27.F);let Xs:=Xn Y h28 (Jdg (C:=C) T  h28.F);let Xe:=Xn Y h29 (Jah (C:=C) T Xs h29.F);let Sw:=Xn Y h30 (Jdf (C:=C) T Xs Yv h30.F);let Xu:=Xn Y h31 (Jcs (C:=C) T B h31.F);let Wx:=Xn Y h32 (Jbd (C:=C) T B Yv Xu Xe h32.F);let Sv:=Xn Y h33 (Jdd (C:=C) T  h33.F);let Tc:=Xn Y h34 (Jdk (C:=C) T  h34.F);exact(Jcc T a4 b1 Vh Wx b6 Xe Sw Sv Tc h35.F).imp λ_ _ _ _ h=>L3.Zq3 (C:=⟨C,K⟩) h
def walk{l:Jg4}{q:Ha}{loose:List Str}{XP:(Str->Option Cb)->Heap->Prop}{J:Hz->Heap->Prop}{d:DefRec}{K:Params->Cq}(hn:l.most=some 63)(y:d.params.defaults=[])(Y:∀(w:Hz)(h:Heap),J w h->(K w.params).In h)(B:∀(w:Hz)(h:Heap),J w h->h.get? Pt=some (Jhl #[]))(G:∀w:Hz,(K w.params).lookup Pt=none)(F:∀(w:Hz)(mg:Str->Option Cb)(O:Addr)(h:Heap),(K w.params).In h->h.Ns Cw mg->mg d.name=some (.ref O) ->
   ∃fd:L4,(∃c,Jen (K w.params) c Pt=true)/\(∀(s:Cc)(u:Cb),Jef s fd {[u],[]} [("_law_script",u)])/\∀base:Heap,(K w.params).In base->base.Ns Cw mg->Bm mg base->FnOk l.prog w (K w.params) mg base CX0 10 O fd q25 (spLaw (K w.params) Pt)) :
  W.WalkO q loose XP J l.row.toRowW d [] (λf vs=>Jge f vs) :=
 L2.Zk3 (n:=63) (k:=10) (x:="_law_script") (CX:=λ_=>CX0) (sp:=λw=>spLaw (K w.params) Pt) hn nofun y ⟨rfl,nofun,nofun⟩ Y B G F (λ_ _ a ns hl hO Z=>{a,ns,rfl,Z,hl,hO.tab _ _,λ_=>rfl}) λ_ _ _ _ _ z=>z
end K73
namespace PySem.W.Fast
def tw17100157243445766760:=0
def tw9704840548678462838:=0
def tw6828644401814646804:=0
def tw17661493629439859775:=0
def tw801116892073242679:=0
def tw13795751985192701741:=0
def tw2277917422403508727:=0
def tw6222296853495396457:=0
def tw9623913660454209403:=0
def tw1155992595262416378:=0
def tw10119452841295990292:=0
def tw457499888721387127:=0
def tw9777078867600183810:=0
def tw9660372571662901943:=0
def tw18289189552199005891:=0
def tw14505525343862035031:=0
def tw10990373085929711520:=0
def tw14817166439716214437:=0
def tw16466630382373709433:=0
def tw8615587131991822643:=0
def tw14765559869708094150:=0
def tw7854572819001424015:=0
def tw5537708229029501298:=0
def tw3931084797720365742:=0
def tw4808981387476822775:=0
def tw10318596768874663427:=0
def tw14605207561635312266:=0
def tw9943226001719534981:=0
def tw12240931015159236047:=0
def tw16063616489772345037:=0
def tw18075357979826232052:=0
def tw3756863650736018818:=0
def tw16214883633325891970:=0
def tw782642868838574326:=0
def tw17959765778197895458:=0
def tw16910048148107798087:=0
def tw16674828334452800419:=0
def tw7740981570401732151:=0
def tw10566134654206599210:=0
def tw9589851426966525832:=0
def tw2062072617089439973:=0
def tw13311756592634464622:=0
def tw16622665785260293171:=0
def tw9830654837985083113:=0
def tw5499086292803109313:=0
def tw5405362151162995268:=0
def tw9674861788113874543:=0
def tw818939150482264875:=0
def tw9456859907169633361:=0
def tw1053133669093155143:=0
def tw15072755975781803356:=0
def tw4967208792342763132:=0
def tw15170416622339391887:=0
def tw17815818176107318254:=0
def tw13917528387249264102:=0
def tw17985868093372075497:=0
def tw5875091934372752642:=0
def tw10172435113342664389:=0
def tw4302908589102500140:=0
def tw13119996712753562294:=0
def tw9814670496852529790:=0
def tw13123851635566133603:=0
def tw2399551224557678051:=0
def tw6836467807854587424:=0
def tw2130176661465207831:=0
def tw1101792445024266409:=0
def tw2411112341283212219:=0
def tw6727825446584046036:=0
def tw277278509110514934:=0
def tw5450217033592476005:=0
def tw9021333285811240127:=0
def tw9180462760147648776:=0
def tw6447285120159759940:=0
def tw1192888908425587688:=0
def tw11406021449404566566:=0
def tw3527773047465212296:=0
def tw5119588677193074100:=0
def tw13771178678641148622:=0
def tw3110207318199981455:=0
def tw17590044140447191538:=0
def tw12555908034559287086:=0
def tw8734485385701813879:=0
def tw5637251033666510695:=0
def tw17466461301645553868:=0
def tw1555153228818094555:=0
def tw6377952171103250991:=0
def tw3949598386541193596:=0
def tw1626458710783100205:=0
def tw5140056233196877440:=0
def tw11846872915719843639:=0
def tw3226839970036464330:=0
def tw3980389099644179853:=0
def tw1881929247386723734:=0
def tw11134504490273949236:=0
def tw13947755038340926902:=0
def tw16758764439618387646:=0
def tw14078592054663119986:=0
def tw11382469251735629689:=0
def tw698776053303924579:=0
def tw14295058640300843715:=0
def tw4421447235690323845:=0
def tw8924510524572394174:=0
def tw3399889713619041109:=0
def tw1912632016913139407:=0
def tw15511368598075820056:=0
def tw14073337450697240392:=0
def tw11077132683128849630:=0
def tw10339411709554831763:=0
def tw13775564549726939556:=0
def tw4101181967093204488:=0
def tw17692128378104636792:=0
def tw17018791624191738247:=0
def tw12385117967301496530:=0
def tw5861630258345265200:=0
def tw16655939897182279124:=0
def tw16782033892511877619:=0
def tw7232341331972653901:=0
def tw4162512954562116823:=0
def tw13387923100214224096:=0
def tw2584183923564103297:=0
def tw2569904268843919221:=0
def tw7715334268490727732:=0
def tw11174042337674829887:=0
def tw9543750920038018464:=0
def tw11629319336861122010:=0
def tw13912218160015248381:=0
def tw7545804163060224671:=0
def tw15052195346516541472:=0
def tw2990851690330669631:=0
def tw3339213961134466097:=0
def tw11104961248393921755:=0
def tw16989221760971744925:=0
def tw3086651188783396039:=0
def tw2124231077546003071:=0
def tw453171749267234776:=0
def tw5656281527299226556:=0
def tw3369684436013227345:=0
def tw17557320865584467080:=0
def tw14665672339749221145:=0
def tw14778242565010662497:=0
def tw7487225031220545710:=0
def tw10663696433293393260:=0
def tw17088622025432710317:=0
def tw8458858544267160023:=0
def tw14454563191991547015:=0
def tw17442220426478071431:=0
def tw9698356321186120507:=0
def tw7873484505075998973:=0
def tw18336518875398995226:=0
def tw6520167321850781920:=0
def tw13373722105165915615:=0
def tw9740074848608002139:=0
def tw9546888446163511828:=0
def tw909467689223302283:=0
def tw10599687697203161771:=0
def tw7433780127619858160:=0
def tw1321165146959814245:=0
def tw10801969463215235064:=0
def tw5376388527850353500:=0
def tw6320154341976764812:=0
def tw998730805546038761:=0
def tw15626574946892495085:=0
def tw858230080264836638:=0
def tw4513819764036886777:=0
def tw8359482644867779732:=0
def tw17746664241098150763:=0
def tw851950329264398602:=0
def tw2383238474479207489:=0
def tw11630417609056703044:=0
def tw445503001541610006:=0
def tw13957251322904227810:=0
def tw3278937169665018174:=0
def tw7934846459121023164:=0
def tw9846500716126790965:=0
def tw370921475454629731:=0
def tw16315722907571430577:=0
def tw16814558585431102797:=0
def tw14776523679217914592:=0
def tw15877699646304879213:=0
def tw12397385242156813771:=0
def tw9740640275764130302:=0
def tw10752205401037789088:=0
def tw13977560470852397749:=0
def tw5323806150528625857:=0
def tw12783030315636041071:=0
def tw14544647803436424508:=0
def tw12276511132095287560:=0
def tw12782082621459592070:=0
def tw5720618499822019959:=0
def tw5877338466905924522:=0
def tw5295498600348274478:=0
def tw9862180801583040834:=0
def tw16755403201142509848:=0
def tw730213113540995498:=0
def tw8529372473138379742:=0
def tw9458337103839992415:=0
def tw17030752987447051935:=0
def tw4994675703997295222:=0
def tw2156715285001766892:=0
def tw15573099513265288136:=0
def tw850114299832420040:=0
def tw2864641815395477296:=0
def tw15624234359488687256:=0
def tw12749625905215539214:=0
def tw2992152951933312315:=0
def tw8711440231709951526:=0
def tw3394044903661929703:=0
def tw5505612809277586370:=0
def tw7182243705350864029:=0
def tw17281724830133957751:=0
def tw1272967459459438129:=0
def tw12489602928340366614:=0
def tw11000057642731088304:=0
def tw6878791331582923702:=0
def tw14054376612005341110:=0
def tw9789467418163474966:=0
def tw16882387832047461729:=0
def tw8603267395452373942:=0
def tw6268669724801272978:=0
def tw9177457695629378294:=0
def tw8071078550044829505:=0
def tw13173184085109921595:=0
def tw11876990850236023062:=0
def tw12316609277203248458:=0
def tw2146273847443676015:=0
def tw3796563804938760429:=0
def tw4295365472805008247:=0
def tw6479857787461261563:=0
def tw8156196439780158558:=0
def tw11887711166924790673:=0
def tw6774065785094555528:=0
def tw10096272361762779704:=0
def tw448041069103101240:=0
def tw2165318880113358767:=0
def tw2298991534384572229:=0
def tw14950367743459313702:=0
def tw10480008419099517830:=0
def tw3198560062317114390:=0
def tw16664846352346129842:=0
def tw13979764998426937447:=0
def tw17645455319495158109:=0
def tw2509326036273765718:=0
def tw2300014036326359410:=0
def tw8015792289478202629:=0
def tw6733907239696295795:=0
def tw10742958878305324551:=0
def tw2449214713091979892:=0
def tw15320956444962973386:=0
def tw13578983481195792657:=0
def tw7789634503720677695:=0
def tw5946667859702453656:=0
def tw4962901401103429855:=0
def tw17718545432105322643:=0
def tw249381639245709247:=0
def tw3160669012774380942:=0
def tw15621179004388875490:=0
def tw18403273194383508232:=0
def tw3939205589367920196:=0
def tw8836845841213511004:=0
def tw12525830915155016931:=0
def tw8968428578981645867:=0
def tw8485700551367819437:=0
def tw15121477438452900951:=0
def tw11056999457408367955:=0
def tw5489829030577081034:=0
def tw2031096598835019554:=0
def tw15549872377147428650:=0
def tw4815277512324992107:=0
def tw4972465135119380203:=0
def tw2449725959411501212:=0
def tw2377683201070861581:=0
def tw3193401103366239131:=0
def tw6188358013758136446:=0
def tw4491527045684163921:=0
def tw4245571705696340422:=0
def tw215162009995220864:=0
def tw9735062891489113391:=0
def tw9860137909506800191:=0
def tw4821269464358218192:=0
def tw17879430183919711796:=0
def tw3154033855540780735:=0
def tw14933792416469027466:=0
def tw5324388203257797803:=0
def tw10200987385493400322:=0
def tw1236122586810426184:=0
def tw6580727726323991823:=0
def tw3464604627390368625:=0
def tw437299639100942139:=0
def tw16909161627971588168:=0
def tw15336815341315915022:=0
def tw6069300079014041029:=0
def tw2855962970236029301:=0
def tw7291237778039743985:=0
def tw514331192596189876:=0
def tw16674405342223889608:=0
def tw8916225684319821513:=0
def tw7845348752380765161:=0
def tw12224802865302370688:=0
def tw2164829244892575644:=0
def tw1351056976349552845:=0
def tw5010415137938409325:=0
def tw4399172981882323684:=0
def tw16613296803463561889:=0
def tw5858305996465281725:=0
def tw17865273560244329197:=0
def tw11938103994801621310:=0
def tw9437638564845446669:=0
def tw16546650829617605864:=0
def tw6145083414160933826:=0
def tw7231499886724742265:=0
def tw15403072067738824346:=0
def tw14136364075336638127:=0
def tw3896300988597050764:=0
def tw4271175021779982403:=0
def tw4610867924049298713:=0
def tw12241739541704412726:=0
def tw8527291242285529924:=0
def tw15623333609721999045:=0
def tw18068954290638226955:=0
def tw17999595749245340520:=0
def tw16196131470559939584:=0
end PySem.W.Fast
open PySem PySem.W PyProof.Rows
set_option maxRecDepth 100000 in
set_option maxHeartbeats 0 in
theorem PySem.Challenge.cw_skewread_k73_doubts_counted_holds : PySem.Challenge.rw_skewread_k73_doubts_counted.Holds := by
  w_on; o_law; k_head; (case hw=>w_witness2)
  k_fill
  refine K73.walk (l:=PySem.Challenge.rw_skewread_k73_doubts_counted) rfl rfl (fun w h Y=>PySem.W.km_in_of Y) (fun w h Y=>PySem.W.km_tabs_of Y _ (by k_mem)) ?hpk ?F
  case hpk=>exact fun w=>by kernel_rfl
  case F =>
    intro w mg fa h KX G hmg
    refine' K73.all_mk KX G hmg ?aC ?gx_FIRST_SPOT ?gx_Leaving ?h0 ?h1 ?h2 ?h3 ?h4 ?h5 ?h6 ?h7 ?h8 ?a9 ?l9 ?c9 ?k9 ?n9 ?h10 ?h11 ?h12 ?h13 ?h14 ?h15 ?h16 ?h17 ?h18 ?h19 ?h20 ?h21 ?h22 ?h23 ?h24 ?h25 ?h26 ?h27 ?h28 ?h29 ?h30 ?h31 ?h32 ?h33 ?h34 ?h35 ?nk_FIRST_SPOT ?cl_Leaving ?mk_Leaving ?na_size_Leaving ?na_behind_Leaving ?na_steps_Leaving ?hd ?cl ?mk ?y_pairs ?y_words_by_sign ?y_signs_by_word ?y_begun ?y_word_sizes ?z
    any_goals first | (refine' {?g,L2.Zjx ?l ?c ?k}; (case g=>k_is); (case l=>k_is); (case c=>k_is); case k=>k_is) | (refine' {?g,?n,L2.Zjx ?l ?c ?k}; (case g=>k_is); (case n=>k_is); (case l=>k_is); (case c=>k_is); case k=>k_is) | k_is | kernel_rfl | (first | apply L2.Cls.mk | apply L2.MkG.mk) <;> first | k_is | kernel_rfl
#print axioms PySem.Challenge.cw_skewread_k73_doubts_counted_holds