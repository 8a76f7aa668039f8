import PyProof.Rows.All
import Wide.All
import OpenK.AllK
import Wide.FinOn
import Lean
import PyProof.EqAt
import PyProof.EqKinds
import PyProof.TupleCall
import PyProof.DictItems
import KE.KPairComp
import KE.KDictList
import PyProof.ListRange
import KE.KUnpack
import KE.KEqDict
import PyProof.DictFindH
import KE.KDictSum
import PyProof.AutoListH
import PyProof.SumAny
import PyProof.Rows.Range3
import KE.KStateDown
import KE.KSortTup
import KE.KLam
import KE.KNestM
import KE.KDictOf
import PyProof.AttrMissHeap
import KE.KRevSl
import PyProof.RaisesMany
import PyProof.ExcInit
import PyProof.ExcClass2
import PyProof.RulesTry
import PyProof.PassesOwn
import OpenK.KOwn
import PyProof.RulesDel
import KE.KIsAll
import PyProof.EnumMake
import PyProof.LayNew
import PyProof.ZipIter
import PyProof.Rows.ZipGen
import KE.KIntText
import KE.KMinKey
import PyProof.SetKind
import PyProof.TupleKey
import PyProof.IsRules
import PyProof.Rows.SetFrom
import PyProof.SetRoads
import PyProof.FactsAll.set
import PySem.Challenge.RW_skewread_k71_counted_by_all_texts
set_option Elab.async false
set_option linter.all false
set_option maxRecDepth 100000
def qp:Nat->Lean.TSyntax `term->Lean.MacroM (Lean.TSyntax `rcasesPat)
 |0,_=>Lean.Macro.throwUnsupported
 |n+1,t=>match t with
  |`(_)=>`(rcasesPat|_)
  |`(⟨$ts,*⟩)=>do
   let ps<-ts.getElems.mapM fun t=>do
    let p<-qp n t
    `(Lean.Parser.Tactic.rcasesPatLo|$p:rcasesPat)
   `(rcasesPat|⟨$ps,*⟩)
  |`($i:ident)=>`(rcasesPat|$i:ident)
  |_=>Lean.Macro.throwUnsupported
theorem rd{α:Sort u}{a p:α->Prop}{w:α}(h:a w)(k:p w):∃x,a x/\p x:=⟨w,h,k⟩
theorem rd2{α:Sort u}{β:Sort v}{a:α->Prop}{b p:α->β->Prop}{w:α}{y:β}(h:a w)(i:b w y)(k:p w y):∃x,a x/\∃z,b x z/\p x z:=⟨w,h,y,i,k⟩
theorem rd3{α:Sort u}{β:Sort v}{γ:Sort t}{a:α->Prop}{b:α->β->Prop}{c p:α->β->γ->Prop}{w:α}{y:β}{v:γ}(h:a w)(i:b w y)(j:c w y v)(k:p w y v):∃x,a x/\∃z,b x z/\∃q,c x z q/\p x z q:=⟨w,h,y,i,v,j,k⟩
def rdw(t:Lean.TSyntax `term):Nat->Lean.MacroM (Lean.TSyntax `term)
 |0=>pure t
 |1=>`(rd rfl $t)
 |2=>`(rd2 rfl rfl $t)
 |n+3=>do
  let r<-rdw t n
  `(rd3 rfl rfl rfl $r)
def rdb(r:Array (Lean.TSyntax `term)):Lean.MacroM (Lean.TSyntax `term):=if h:r.size=1 then pure r[0] else `(⟨$r,*⟩)
local macro_rules | `(def $n:declId $s:optDeclSig $v:declVal)=>`(noncomputable def $n:declId $s:optDeclSig $v:declVal)
local macro_rules | `(abbrev $n:declId $s:optDeclSig $v:declVal)=>`(noncomputable abbrev $n:declId $s:optDeclSig $v:declVal)
open List renaming length_map->Ja,getElem?_eq_getElem->Jb,length_append->Jc,getElem?_eq_some_iff->Je,mem_singleton->Jf,mem_cons_of_mem->Jg,take_succ_eq_append_getElem->Jh,mem_cons_self->Ji,map_append->Jk,size_toArray->Jl,mem_append_right->Jm,append_assoc->Jn,prefix_refl->Jo,map_cons->Jp,mem_map->Jq,getElem?_append_left->Js,getElem_mem->Ju,length_take->Jv,mem_append->Jw,take_append_drop->Jx,pairwise_map->Jz,length_cons->J0,getElem?_append_right->J8,length_drop->Ga,map_map->Gb,take_length->Gd,getElem?_map->Ge,getD_eq_getElem?_getD->Gf,getElem_of_mem->Gg,length_pos_iff->Gh,mem_cons->Gi,append_nil->Gm,prefix_append->Gn,pairwise_iff_getElem->Gp,take_of_length_le->Gr,mem_of_mem_take->Gs,mem_append_left->Gu,find?_cons->Gv,mem_range->Gw,mem_of_getElem?->Gx,length_singleton->G0,mem_filter->G2,mem_of_mem_drop->G3,perm_append_comm->G4,drop_eq_getElem_cons->G6,getElem_inj->G9,lookup_cons->Ba,replicate_succ->Bb,flatten_cons->Bc,length_range->Bd,getElem_map->Be,map_congr_left->Bf,getElem_take->Bg,getElem?_eq_none->Bh,length_set->Bk,length_nil->Bl,pairwise_singleton->Bo,length_eq_zero_iff->Bq,getElem?_set_self->Bs,take_sublist->Bt,nodup_append->Bv,take_left->Bw,mem_map_of_mem->Bx,take_append_of_le_length->Bz,reverse_cons->B2,length_flatMap->B4,any_cons->B6,mem_flatMap->B8,zip_cons_cons->Fa,take_zero->Fb,set_append_right->Fc,nodup_cons->Fd,getElem?_set_ne->Ff,drop_sublist->Fi,getElem_drop->Fk,reverse_perm->Fl,length_filterMap_le->Fn,take_prefix->Fq,drop_drop->Fs,map_reverse->Ft,pairwise_cons->Fw,drop_of_length_le->Fx,flatten_singleton->Fy,map_take->F2,drop_zero->F5,pairwise_append->F7,length_reverse->Dd,map_drop->De,getElem?_take->Df,filter_append->Dg,nodup_nil->Di,drop_take->Dj,sum_cons->Dl,replicate->Ci,range->Co,take->C5,filterMap_cons->Es,length->Ex,lookup->Hq,getElem?_take_of_lt->Ht,prefix_or_prefix_of_prefix->Ko,length_filter_le->Kv,map_snd_zip->Ky,range_succ->Lh,map_nil->Lr,ext_getElem?->Mc,getElem?_replicate->Mf,ext_getElem->Mp,filter_cons->Mq,of_mem_zip->Ja0,pairwise_flatMap->Ja8,toList_toArray->Jcz,push_toArray->Jdr,cons_append->Jd9,countP_cons->Jeb,forIn_cons->Jel,filter_nil->Jeq,foldl->Jfo
open Nat renaming le_refl->Jd,le_trans->J9,zero_le->Gc,ne_of_lt->Gj,lt_of_lt_of_le->Gk,lt_of_le_of_lt->Gz,not_lt_zero->G5,lt_irrefl->Bi,le_of_lt->Br,lt_succ_of_lt->Bu,add_sub_cancel_left->B3,sub_self->B5,le_of_not_lt->B7,min_eq_left->Fe,zero_add->Fg,lt_or_ge->Fh,add_assoc->Fm,lt_succ_self->Fo,le_succ->Fu,le_of_eq->F8,mod_eq_of_lt->Dc,mul_le_mul_right->K1,succ_mul->Jd3,add_comm->Jd4,min_eq_right->Jec,sub_zero->Jgd,add_mul->Jgt
open Array renaming length_toList->Jj,getElem?_toList->Jr,toList_append->Go,perm_iff_toList_perm->Gq,getElem?_eq_getElem->G1,toList_reverse->Bp,toList_extract->Fj,toList_inj->Fp,forIn_toList->Fv,toList_push->F3,getElem_toList->F6,toList_map->Db,getD->He,getD_eq_getD_getElem?->Lf,toList->Jdw
open Bool renaming false_ne_true->Jt,false_eq_true->Jy,not_true->Bj,and_eq_true->By,not_eq_true->B9,eq_iff_iff->Fz,beq_eq_decide_eq->Ja7,false_or->Jda,false_and->Jeu,and_false->Je6
open Int renaming toNat_natCast->Gy,emod_lt_of_pos->G8,emod_nonneg->Bn,eq_ofNat_of_zero_le->B1,natCast_add->F1,le_refl->Dh,mul_le_mul_of_nonneg_left->Kz,zero_add->Lu,le_of_lt->Ja4,natCast_nonneg->Jdg,le_trans->Jd5,mul_one->Jgj,mul_sub->Jgr
open Option renaming map_eq_some_iff->G7,map_some->F0,isSome_map->L7,getD_some->Mo,isNone_none->Jde,getD_none->Jd8
open PySem renaming wpAny_bind->Dm,wpAny_pure->Dn,boot_len->Dx,wpAny_mono->Dy,Shared->Ca,wpAny->Cc,model->Cg,sizeLine_eq->Cj,starEach->Cn,wpAny_holding->Cs,wpAny_call_entry->Cu,wpAny_loadPart'->Cw,wpAny_newObj_type->C6,compareOp->C8,sysModules->C9,wpAny_rule->Eb,wpAny_truthy_bool->Ee,NameKind->Eh,wpAny_Call_Name_kw->Ej,Program->El,wpAny_passesOwn->Eo,behindInMarks->Eu,binaryOp->Ew,mem_of_lookup->Ey,wpAny_callSpecial?_slot->Ez,wpAny_getItem_str_slice->E4,wpAny_tupleItemsOf->E7,keywordEach->E9,World->Hd,wpAny_newList->Hf,rawInt->Hk,backTo->Hs,call_meets->Hv,attributeBase->Hz,tupleKind_room_in1->Kc,getattributeRaised->Ke,Around->Kf,wpAny_pyIter_list->Kj,sliceBounds->Kl,bootBuiltins->Kr,wpAny_typeOf->Ks,builtinLookup_eq_fast->Kt,wpAny_eqBool_int->Kw,getItem->Kx,wpAny_standAt->K2,wpAny_execs_nil->K8,letOwnedTupleGo->K9,codeAny->Ld,post_val_or_str->Le,codeAny_builtin->Lg,wpAny_newFunctionEnv_cells->Lk,FuncData->Ln,codeAny_mono->Lp,backToKw->Lq,holding->Lv,tupleKind->Ly,assignEach->Lz,foldedSetIterable->L4,wpAny_getItem_list_slice->L6,wpAny_comprehension_free->L8,wpAny_pyNext_tuple_item->Me,subscripted->Mh,wpAny_attempt->Mj,noFill_tuple_add->Mn,wpAny_pyNext_list_item->Mr,wpAny_pyNext_tuple_end->Ms,Within->Mx,wpAny_isTrue_Compare1->Mz,swapsWith->M7,wpAny_pyNext_list_end->M8,getMethod->M9,typeLookup_type->Ja5,builtinsNs->Jb0,wpAny_loadName_local->Jb3,pyNext->Jb5,Value->Jb8,wpAny_loadName_cell->Jcu,standAt->Jcv,Keyword->Jcw,wpAny_pyIter_tuple->Jc1,bindArgs->Jc4,IsPart->Jc6,evalPart_none->Jc8,atKey->Jdb,sub_AttributeError->Jdc,wpAny_assign_Name->Jdi,BindsTo->Jdk,wpAny_sequenceKey->Jdl,typeLookup->Jdm,valueAt->Jdo,callerA->Jdp,isInstance->Jdt,assign->Jdx,seqIndex_neg->Jd2,wpAny_execs_cons->Jd6,wpAny_Dict_empty->Jea,wpAny_field->Jei,seqIndex_of->Jej,Fin->Jem,codeAmong->Jeo,Model->Jet,Addr->Je7,wpAny_Name->Je8,wpAny_call->Jfl,typeIs_str->Jfm,typeIs_int->Jfn,call->Jfp,closureFor->Jfq,CmpOp->Jfv,setItem->Jfw,Operator->Jfx,callWith->Jf1,getAttr?->Jf4,Str->Jf9,storeName->Jga,cellsFrom->Jgc,bindL->Jgl,bindC->Jgm,operate->Jgn,relabel->Jgo,Result->Jgu,Expr->Jgw
open PySem.Heap renaming get?_push_of_some->Do,get?_push_size->Dp,lt_size->Dq,SameBut->E8,get?_push_ne->Hg,get?_update_other->Mu,get?_update_self->Ja1,size_push->Jb6,NewExcOf->Jf3
open Option.some renaming inj->Dw,injEq->Ma
open PySem.Value renaming ref->Cb,bool->Hr,int->K6,type->Lx,builtin->Ml,str->Mw,isInt->Jb9,float->Jee,isStrOf->Jfu,bytes->Jgh
open Or renaming inl->Cd,inr->Cy
open PySem.Obj renaming mapSeq->Ch,data_mapFields->Jdf,mapFields->Jf6
open PySem.W renaming Frag->Ck,findIn->Ef,kia_one->Hl,instObj->K7,keepIn->Jb1,fnOf->Jb7,plainGet_of->Jc2,codeIn->Jc5,plainGet->Jdj,codeHdIn->Jds,callWith_K->Jd0,cellsFrom_some->Jd7,methodObj->Jef,hasDictIn->Jeg,methodCall_KW->Jeh,lookIn->Jfz,kitOne->Jf0,codeHd_of_K->Jf2,takerIn->Jgb,OpenLaw->Jge,kas_rev->Jgp,tabObj->Jgv
open PySem.PassesOwn renaming never->Cm
open Sum renaming inl->Cp,inr->Jdh
open PyProof.Rows renaming slot_tuple_getitem->Cq,seqObj->Cv,boot_sorted->Ec,listUpdate_at->Ed,IntsAre->Eg,boot_dict->Ei,get?_update_seq->Er,boot_tuple->E5,boot_list->Ki,boot_max->Ku,boot_isinstance->K5,callWith_type1->Lc,envOfC->Lj,subscriptTail->Mg,subscriptTail_builtinR->Mt,AllBare->My,boot_min->Ja9,size_push'->Jb2,entry_tuple_getitem->Jcx,Constant_none->Jc0,args_tuple_getitem->Jc7,Subscript_->Jdn,callWith_builtin1->Jd1,entry_list_sort->Jen,boot_bool->Jf8,boot_abs->Jgf,boot_int->Jgg,lt_int->Jgq
open False renaming elim->Cr
open PySem.Heap.SameBut renaming update->Ct
open PySem.NameKind renaming free->Cz,cell->K4
open PySem.PyData renaming eqvAll->C0,eqv->C7,int->Km,canLay0->Lw,canLayAll0->L9,depthAll->Ja2,depth->Ja3,list->Jgs
open PySem.Str renaming ofString->C1,empty->Jc3
open PySem.Builtin.List renaming listTooLong->C2
open ForInStep renaming yield->C3
open PySem.F renaming plainAttrs_list->C4,slot_dict_get->Ek,slot_list_extend->Ha,args_tuple_add_2->Hu,slot_list_append->Hw,type_list_append->Hy,entry_tuple_add->Kb,slot_tuple_add->Kg,entry_dict_get->Kh,type_list_extend->Md,args_dict_get_2->Mi,args_list_extend_2->Jb4,entry_list_extend->Jcy,slot_int_rmul->Jek,slot_tuple_lt->Jep
open True renaming intro->Ea
open PySem.Builtin.Slice renaming slicePlaces->Em,sliceAdjust->Hm,sliceApplied->Ll,slicePartIndex->Jed,sliceFields->Je5
open PySem.Builtin.Tuple renaming tupleExact->Ep,tupleItemsOf->Hh,tupleCompareSizes->Jdu,tupleIsExact->Jer
open Ne renaming symm->Et
open PySem.Calls renaming callWith_builtin->E6,spliced_cons->Ka,evalArgs_plain->K0,Name_function_global->Li,spliced_nil->L5
open PySem.SeqAt renaming shaped->Hb,EqAt->Jft
open PySem.Around renaming under_plainId->Hj,under->Jdy
open Sum.inl renaming inj->Ho
open PySem.W.KasT renaming kasWp_bind->Kd
open List.Perm renaming refl->Kp
open PyProof.Rows.LSm renaming kept_iter->Lm
open PySem.AutoSeq1 renaming wpAny_loadPart'->Mb,sub_list_list->Mv
open PySem.Builtin.Dict renaming updateFrom->Mm,addKeywords->Jfr,selfAndRest->Jfs,pairItems->Jf7
open List.Pairwise renaming sublist->Ja6,nil->Jdq
open PySem.Heap.IsSliceOf renaming new->Jc9
open PySem.Code renaming quiet_builtin->Jdd,isFrame->Jdz,frames->Jgk
open List.Sublist renaming refl->Jdv
open List.IsPrefix renaming eq_of_length->Jes
open PySem.EqNone renaming eq_none_none->Jev,eq_none_bool->Jew,eq_bool_none->Jex,ne_none_none->Je0,ne_none_bool->Je1,ne_bool_none->Je2,eq_none_int->Je9,eq_none_str->Jfa,eq_int_none->Jfb,eq_str_none->Jfd,ne_none_int->Jff,ne_none_str->Jfg,ne_int_none->Jfh,ne_str_none->Jfj
open PySem.EqMixed renaming eq_bool_str->Jey,eq_str_bool->Jez,ne_bool_str->Je3,ne_str_bool->Je4,eq_int_str->Jfc,eq_str_int->Jfe,ne_int_str->Jfi,ne_str_int->Jfk
open PySem.Builtin.Range renaming rangeSize->Jfy
open PySem.Shared renaming TypeIs->Jf5
open PySem.CmpOp renaming NotIn->Jgi
open PySem.Within renaming cons->Jgx
open PySem.W.WShape renaming has->Jgy
open PySem.Heap.DictOf renaming new->Jgz
open PySem.W.WData renaming int->Jg0
theorem Ds:type_of% @if_neg:=@if_neg
theorem Dt:type_of% @if_pos:=@if_pos
theorem Du:type_of% @decide_eq_true:=@decide_eq_true
theorem Dv:type_of% @decide_eq_false:=@decide_eq_false
local macro_rules | `(tactic| rfl')=>`(tactic| refine ⟨rfl,rfl,rfl,?_,rfl,?_,?_⟩<;>decide +kernel)
local macro_rules | `(nofun)=>`(term| by decide)
local macro_rules | `(tactic| exists $es,*)=>do
 let mut a:Array (Lean.TSyntax `term):=#[]
 for e in es.getElems do
  if e.raw.isOfKind ``Lean.Parser.Term.cdot then a:=a++#[<-`(_),<-`(rfl)] else a:=a.push e
 let mut r:Array (Lean.TSyntax `term):=#[]
 let mut c:=0
 for e in es.getElems.reverse do
  if e.raw.isOfKind ``Lean.Parser.Term.cdot then
   if r.isEmpty then r:=#[<-`(_),<-`(rfl)] else c:=c+1
  else if c=0 then r:=#[e]++r
  else
   r:=#[e,<-rdw (<-rdb r) c]
   c:=0
 let t<-rdw (<-rdb r) c
 `(tactic| first | refine $t | refine ⟨$a,*⟩)
local macro_rules |`(tactic|let $d:letDecl)=>match d with
 |`(Lean.Parser.Term.letDecl|$p:term:=$e:term)=>do
  let q<-qp 9 p
  `(tactic|obtain $q:rcasesPat:=$e:term)
 |_=>`(tactic|have $d:letDecl)
local macro_rules |`(())=>`(by lia)
variable{s:Ca}{α α' fp:List Je7}{A:PySem.Around}{w:PySem.World}{K K':PySem.W.Frag}{E:Jb8->Ca->Prop}{fd:PySem.FuncData}{pos pos' apos:PySem.Pos}{pq:List (Je7×PySem.Obj)}{τ κ β υ:Type}{P prog:PySem.Program}{ns r sw ms:List Int}{h h':PySem.Heap}{j na nb base ia ib ac bc t' pl ep hint:Nat}{mg:Jf9->Option Jb8}{us its:List Jb8}{ps N T:List Jf9}{Pt dx l c it:Je7}{kn:List (Option Int)}{tg value:Jgw}{st:PySem.Stmt}{es:List Jgw}{ws:List (List Int)}{qual:Jf9}{left:Bool}{lo hi:Option Int}{pm:Jb8}{B:Prop}{cs:List Nat}{rk:Nat->Int}
namespace L2
open PySem PySem.Spec PyProof.Rows
abbrev Key:=Sum Int Str
def Rt:Key->Value->Bool
 |.inl k,v=>Jb9 k v
 |.inr x,v=>Jfu x v
def keyH(w:Hd):Key->Int
 |.inl k=>hashInt k
 |.inr x=>hashStr w x
theorem Yb:∀{k:Key}{v:Value},Rt k v=true->(∃i t,k=Cp i/\v=K6 i t)\/(∃x t,k=Jdh x/\v=Mw x t)
 |.inl i,v,h=>by
  let⟨t,e⟩:=Value.isInt_shape (k:=i) (v:=v) h;exact .inl ⟨i,t,rfl,e⟩
 |.inr x,v,h=>by
  let⟨t,e⟩:=Value.isStrOf_shape (x:=x) (v:=v) h;exact .inr ⟨x,t,rfl,e⟩
def Zaq(i:Int)(t:Tok):Rt (.inl i) (.int i t)=true:=by simp[Rt,Jb9]
def Zh3(x:Str)(t:Tok):Rt (.inr x) (.str x t)=true:=by simp[Rt,Jfu]
def Zr1(a b:Int):decide ((Cp a:Key)=Cp b)=(a==b):=by
 by_cases e:a=b
 .subst e;simp
 .let h:¬ (Cp a:Key)=Cp b:=λq=>e (Ho q);rw[Dv h];exact(beq_eq_false_iff_ne.mpr e).symm
def Zry(a b:Str):decide ((Jdh a:Key)=Jdh b)=decide (a=b):=by
 by_cases e:a=b
 .subst e;simp
 .let h:¬ (Jdh a:Key)=Jdh b:=λq=>e (Sum.inr.inj q);rw[Dv h,Dv e]
def Zr0(a:Int)(b:Str):decide ((Cp a:Key)=Jdh b)=false:=Dv (λq=>nomatch q)
def Zrz(a:Str)(b:Int):decide ((Jdh a:Key)=Cp b)=false:=Dv (λq=>nomatch q)
def Yd(prog:El)(w:Hd):PySem.KeyKind prog w Key where
 is:=Rt
 hash:=keyH w
 inj:=λv a b ha hb=>by
  rcases Yb ha with⟨i,t,rfl,rfl⟩|⟨x,t,rfl,rfl⟩
  .rcases Yb hb with⟨j,u,rfl,e⟩|⟨y,u,rfl,e⟩
   .injection e with e1 _;rw[e1]
   .exact nomatch e
  .rcases Yb hb with⟨j,u,rfl,e⟩|⟨y,u,rfl,e⟩
   .exact nomatch e
   .injection e with e1 _;rw[e1]
 byValue:=λk v h=>by
  rcases Yb h with⟨i,t,rfl,rfl⟩|⟨x,t,rfl,rfl⟩<;>rfl
 pyHash:=λhv h=>by
  rcases Yb hv with⟨i,t,rfl,rfl⟩|⟨x,t,rfl,rfl⟩
  .exact wpAny_pyHash_int h
  .exact wpAny_pyHash_str h
 eqBool:=λhu hv h=>by
  rcases Yb hu with⟨i,t,rfl,rfl⟩|⟨x,t,rfl,rfl⟩
  .rcases Yb hv with⟨j,u,rfl,rfl⟩|⟨y,u,rfl,rfl⟩
   .rw[Zr1]at h;exact Kw h
   .rw[Zr0]at h;exact SeqAt.EqAt.int_str i t y u _ _ _ _ h
  .rcases Yb hv with⟨j,u,rfl,rfl⟩|⟨y,u,rfl,rfl⟩
   .rw[Zrz]at h;exact SeqAt.EqAt.str_int x t j u _ _ _ _ h
   .rw[Zry]at h;exact wpAny_eqBool_str h
 «strs»:=λk x t v h=>by
  rcases Yb h with⟨i,u,rfl,e⟩|⟨y,u,rfl,e⟩
  .exact nomatch e
  .injection e with e1 _
   subst e1;cases v<;>rfl
def Zcf(prog:El)(w:Hd)(i:Int)(t:Tok):(Yd prog w).is (.inl i) (.int i t)=true:=Zaq i t
def Zce(prog:El)(w:Hd)(x:Str)(t:Tok):(Yd prog w).is (.inr x) (.str x t)=true:=Zh3 x t
inductive V where
 |non|bl (b:Bool)|int (i:Int)|str (x:Str)|byt (b:Array UInt8)|flt (b:UInt64)|ref (a:Addr)|ty (n:String)
 deriving DecidableEq
variable{vs xs ys:List L2.V}{y:L2.V}{kvs:List (List L2.Key×L2.V)}
def RelV:V->Value->Prop
 |.non,u=>u=Value.none
 |.bl b,u=>u=Hr b
 |.int i,u=>∃t,u=K6 i t
 |.str x,u=>∃t,u=Mw x t
 |.byt b,u=>∃t,u=Jgh b t
 |.flt b,u=>∃t,u=Jee b t
 |.ref a,u=>u=Cb a
 |.ty n,u=>u=Lx n
abbrev Vals:List V->List Value->Prop:=Paired RelV
def Vals.length(r:Vals xs us):xs.length=us.length:=Paired.length r
theorem Vals.get:∀{xs:List V}{us:List Value}{i:Nat}{x:V},Vals xs us->xs[i]?=some x->∃u,us[i]?=some u/\RelV x u
 |_,_,_,_,.nil,e=>by simp at e
 |_,_,0,_,.cons r _,e=>by simp at e;subst e;exists ·,r
 |_,_,i+1,x,.cons _ t,e=>by
  let⟨u,h1,h2⟩:=Vals.get (i:=i) (x:=x) t (by simpa using e);exists u,by simpa using h1,h2
theorem Vals.set{x:V}{u:Value}(r:RelV x u):∀{xs:List V}{us:List Value}(i:Nat),Vals xs us->Vals (xs.set i x) (us.set i u)
 |_,_,_,.nil=>.nil
 |_,_,0,.cons _ t=>.cons r t
 |_,_,i+1,.cons q t=>.cons q (Vals.set r i t)
theorem Vals.append:∀{xs ys:List V}{us ws:List Value},Vals xs us->Vals ys ws->Vals (xs++ys) (us++ws):=by
 intro _ _ _ _ hz9 s;cases hz9 with
 |nil=>
  exact s
 |cons r t=>
  exact .cons r (Vals.append t s)
theorem Vals.take:∀{xs:List V}{us:List Value}(n:Nat),Vals xs us->Vals (xs.take n) (us.take n)
 |_,_,0,_=>.nil
 |_,_,_+1,.nil=>.nil
 |_,_,n+1,.cons r t=>.cons r (Vals.take n t)
theorem Vals.drop:∀{xs:List V}{us:List Value}(n:Nat),Vals xs us->Vals (xs.drop n) (us.drop n)
 |_,_,0,r=>r
 |_,_,_+1,.nil=>.nil
 |_,_,n+1,.cons _ t=>Vals.drop n t
def RelO:Option V->Option Value->Prop
 |some v,some u=>RelV v u
 |none,none=>True
 |_,_=>False
def KV :List (κ×V)->List (κ×Value)->Prop:=Paired λ(p:κ×V)(q:κ×Value)=>p.1=q.1/\RelV p.2 q.2
def kV:Key->V
 |.inl i=>.int i
 |.inr x=>.str x
def V1(h:Heap)(a:Addr)(items:Array Value):Prop:=∃o,h.get? a=some o/\o.cls=.type "tuple"/\∃n,o.data=.seq items n/\o.dict=none
def V1.tup{h:Heap}{a:Addr}{items:Array Value}(x:V1 h a items):IsTup h a items:=let⟨o,e,c,n,d,_⟩:=x;⟨o,e,c,n,d⟩
def V1.new(h:Heap)(items:Array Value):V1 (h.push {cls:=.type "tuple",data:=.seq items}) h.objs.size items:=⟨_,Dp _ rfl,rfl,_,rfl,rfl⟩
def V1.lt{a:Addr}{items:Array Value}(x:V1 h a items):a<h.objs.size:=let⟨_,e,_⟩:=x;Dq e
inductive HO where
 |lst (xs:List V)
 |tup (xs:List V)
 |dK (kvs:List (Key×V))|dT (kvs:List (List Key×V))
 |set (S:Int->Bool) (n:Nat)
 |ins (C dx:Addr) (fs:List (Str×V))
 |own (x:Addr)
 |xd (fs:List (Str×V))
 |met (f x:Addr)
 |rng (lo hi:Int)
 |frz (o:Obj) (u:HO)
 |tbl (ps:Array Value)
 |ext (φ:Heap->Prop)
abbrev Hp:=Addr->Option HO
variable{H I H' I' H1:L2.Hp}
def upd(H:Hp)(a:Addr)(o:HO):Hp:=λb=>if b=a then some o else H b
def Zh{a:Addr}{o:HO}:upd H a o a=some o:=by unfold upd;rw[if_pos rfl]
def Zp{a b:Addr}{o:HO}(h:b≠a):upd H a o b=H b:=by unfold upd;rw[if_neg h]
def Zfu{a:Addr}{o u:HO}:upd (upd H a o) a u=upd H a u:=by
 funext b;unfold upd;split<;>rfl
def Wa{a b:Addr}{o u:HO}(h:H a=some o)(h':H b=some u)(d:o≠u):a≠b:=by
 intro e;subst e;rw[h]at h';exact d (Dw h')
def Zy{a b:Addr}{o:HO}(h:H a=some o)(h':H b=none):a≠b:=by
 intro e;subst e;rw[h]at h';cases h'
section
variable(P:El)(w:Hd)
def Y6(H:Hp)(h:Heap)(a:Addr):HO->Prop
 |.lst xs=>xs.length<=sizeLine/\∃(its:List Value)(n:Nat),Vals xs its/\h.get? a=some {cls:=.type "list",data:=.seq its.toArray n}
 |.tup xs=>xs.length<=sizeLine/\∃its:List Value,Vals xs its/\V1 h a its.toArray
 |.dK kvs=>kvs.length<=sizeLine/\(a==C9)=false/\∃vs,KV kvs vs/\h.DictOf (Yd P w) a vs
 |.dT kvs=>kvs.length<=sizeLine/\(a==C9)=false/\∃xs:List (List Key×Addr×Value),
   Paired (λ(p:List Key×V)(q:List Key×Addr×Value)=>p.1=q.1/\H q.2.1=some (.tup (p.1.map kV))/\RelV p.2 q.2.2) kvs xs /\
   ∃o es ep,h.get? a=some o/\o.ExactDict/\o.data=.dict es ep/\es.toList=xs.map (entryOfKey (Ly (Yd P w)))/\(xs.map (·.1)).Nodup
 |.set S n=>h.SetOf (intKind P w) a S n
 |.ins C dx fs=>H dx=some (.own a)/\fs.length<=1000/\dx≠a/\h.get? a=some (K7 C dx) /\
   ∃mA,h.Ns1 dx mA/\(∀f,RelO (fs.lookup f) (mA f))/\Mx mA (fs.map (·.1))
 |.own _=>∃o,h.get? a=some o
 |.xd fs=>∃mA,h.Ns1 a mA/\∀f,RelO (fs.lookup f) (mA f)
 |.rng lo hi=>∃t u v,h.get? a=some {cls:=.type "range",data:=.fields #[.int lo t,.int hi u,.int 1 v]}
 |.frz o u=>h.get? a=some o/\Y6 H h a u
 |.tbl ps=>h.get? a=some {cls:=.none,data:=.fields ps}
 |.met f x=>h.get? a=some (Jef (.ref f) (.ref x))
 |.ext φ=>φ h/\(∃o,h.get? a=some o)/\∀h1 h2:Heap,φ h1->(∀o,h1.get? a=some o->h2.get? a=some o)->φ h2
def HOk(H:Hp)(h:Heap):Prop:=∀a o,H a=some o->Y6 P w H h a o
end
section
variable{a:Addr}{o:HO}
theorem Y6.lt(x:Y6 P w H h a o):a<h.objs.size:=by
 cases o with
 |lst xs=>obtain⟨_,_,_,_,e⟩:=x;exact Dq e
 |tup xs=>obtain⟨_,_,_,p⟩:=x;exact p.lt
 |dK kvs=>obtain⟨_,_,_,_,o,_,_,e,_⟩:=x;exact Dq e
 |dT kvs=>obtain⟨_,_,_,_,o,_,_,e,_⟩:=x;exact Dq e
 |set S n=>obtain⟨o,_,_,_,e,_⟩:=x;exact Dq e
 |ins C dx fs=>obtain⟨_,_,_,e,_⟩:=x;exact Dq e
 |own y=>obtain⟨_,e⟩:=x;exact Dq e
 |xd fs=>obtain⟨_,⟨_,_,_,e,_⟩,_⟩:=x;exact Dq e
 |rng lo hi=>obtain⟨_,_,_,e⟩:=x;exact Dq e
 |frz ob u=>obtain⟨e,_⟩:=x;exact Dq e
 |tbl ps=>exact Dq (show h.get? a=some _ from x)
 |met f y=>exact Dq (show h.get? a=some _ from x)
 |ext φ=>obtain⟨_,⟨_,e⟩,_⟩:=x;exact Dq e
theorem Paired.mapP{α:Type}{F G:α->β->Prop}:∀{l₁:List α}{l₂:List β},Paired F l₁ l₂->(∀a b,F a b->G a b)->Paired G l₁ l₂
 |_,_,.nil,_=>.nil
 |_,_,.cons r t,f=>.cons (f _ _ r) (Paired.mapP t f)
theorem Y6.stay(x:Y6 P w H h a o)(k:∀b u,(b=a\/H b=some (.own a))->h.get? b=some u->h'.get? b=some u)(ho:∀b,H b=some (.own a)->H' b=some (.own a))(ht:∀b xs,H b=some (.tup xs)->H' b=some (.tup xs)):Y6 P w H' h' a o:=by
 induction o with
 |lst xs=>obtain⟨z,its,n,r,e⟩:=x;exists z,its,n,r,k _ _ (.inl rfl) e
 |tup xs=>obtain⟨z,its,r,ob,e,c⟩:=x;exists z,its,r,ob,k _ _ (.inl rfl) e,c
 |dK kvs=>obtain⟨z,y,vs,r,ob,es,ep,e,c⟩:=x;exists z,y,vs,r,ob,es,ep,k _ _ (.inl rfl) e,c
 |dT kvs =>
  let⟨z,y,xs,r,ob,es,ep,e,c⟩:=x;exists z,y,xs,Paired.mapP r λp q z=>⟨z.1,ht _ _ z.2.1,z.2.2⟩,ob,es,ep,k _ _ (.inl rfl) e,c
 |set S n=>obtain⟨ob,es,ep,t,e,c⟩:=x;exists ob,es,ep,t,k _ _ (.inl rfl) e,c
 |ins C dx fs =>
  let⟨d,z,ne,e,mA,⟨od,es,ep,e2,c⟩,r⟩:=x;exists ho _ d,z,ne,k _ _ (.inl rfl) e,mA,⟨od,es,ep,k _ _ (.inr d) e2,c⟩,r
 |own y=>obtain⟨ob,e⟩:=x;exists ob,k _ _ (.inl rfl) e
 |xd fs=>obtain⟨mA,⟨od,es,ep,e,c⟩,r⟩:=x;exists mA,⟨od,es,ep,k _ _ (.inl rfl) e,c⟩,r
 |rng lo hi=>obtain⟨t,u,v,e⟩:=x;exists t,u,v,k _ _ (.inl rfl) e
 |frz ob u ih=>obtain⟨e,q⟩:=x;exists k _ _ (.inl rfl) e,ih q
 |tbl ps =>
  let e:h.get? a=some {cls:=.none,data:=.fields ps}:=x;show h'.get? a=some {cls:=.none,data:=.fields ps};exact k a _ (.inl rfl) e
 |met f y =>
  let e:h.get? a=some (Jef (.ref f) (.ref y)):=x;show h'.get? a=some (Jef (.ref f) (.ref y));exact k a _ (.inl rfl) e
 |ext φ=>obtain⟨p,⟨o,e⟩,st⟩:=x;exists st _ _ p λo q=>k _ _ (.inl rfl) q,⟨o,k _ _ (.inl rfl) e⟩,st
def HOk.lt(x:HOk P w H h)(e:H a=some o):a<h.objs.size:=(x a o e).lt
theorem HOk.fresh(x:HOk P w H h)(e:h.objs.size<=a):H a=none:=by
 cases q:H a with
 |none=>rfl
 |some u=>exact absurd (Gk (x.lt q) e) (Bi _)
def HOk.kept(x:HOk P w H h)(k:∀b u,h.get? b=some u->h'.get? b=some u):HOk P w H h':=λa o e =>
 (x a o e).stay (λb u _ q=>k b u q) (λ_ q=>q) λ_ _ q=>q
def HOk.laid(x:HOk P w H h)(k:∀b u,h.get? b=some u->h'.get? b=some u)(hp:h.objs.size<=a)(new:Y6 P w (upd H a o) h' a o):HOk P w (upd H a o) h':=λb u e=>by
 let hn:=x.fresh hp
 by_cases hb:b=a
 .subst hb;rw[Zh]at e;cases e;exact new
 .rw[Zp hb]at e;exact(x b u e).stay (λc v _ q=>k c v q) (λc q=>by rw[Zp (Zy q hn)];exact q) λc xs q=>by rw[Zp (Zy q hn)];exact q
end
def Rd(H:Hp)(a:Addr)(u:HO):Prop:=H a=some u\/∃o,H a=some (.frz o u)
def Rd.ok{a:Addr}{u:HO}(r:Rd H a u)(x:HOk P w H h):Y6 P w H h a u:=by
 rcases r with r|⟨o,r⟩
 .exact x a u r
 .let⟨_,q⟩:=x a _ r;exact q
def Mut:Option HO->Prop
 |some (.lst _)=>True
 |some (.dK _)=>True
 |some (.dT _)=>True
 |some (.set _ _)=>True
 |some (.ins _ _ _)=>True
 |some (.ext _)=>True
 |_=>False
section
variable{x e:Addr}{o':HO}
def HOk.write(ok:HOk P w H h)(mu:Mut (H x))(he:e=x\/H e=some (.own x))(k:∀b u,b≠e->h.get? b=some u->h'.get? b=some u)(heo:∃u,h'.get? e=some u)(new:Y6 P w (upd H x o') h' x o'):HOk P w (upd H x o') h':=λb u q=>by
 let nown:∀c y,H c=some (.own y)->c≠x:=λc y r z=>by subst z;rw[r]at mu;exact mu
 let ntup:∀c xs,H c=some (.tup xs)->c≠x:=λc xs r z=>by subst z;rw[r]at mu;exact mu
 by_cases hb:b=x
 .subst hb;rw[Zh]at q;cases q;exact new
 .rw[Zp hb]at q
  by_cases hbe:b=e
  .let q':H b=some (.own x):=by
    rcases he with z|z
    .exact absurd (hbe.trans z) hb
    .rw[hbe];exact z
   rw[q]at q';cases q';let⟨v,hv⟩:=heo;exact⟨v,by rw[hbe];exact hv⟩
  .refine(ok b u q).stay (λc v hc r=>k c v ?_ r) (λc r=>by rw[Zp (nown c b r)];exact r) λc xs r=>by rw[Zp (ntup c xs r)];exact r
   rcases hc with rfl|hc
   .exact hbe
   .rintro rfl;rcases he with z|z
    .exact nown c b hc z
    .rw[hc]at z;cases z;exact hb rfl
end
structure Un(fs ex:List Addr)(H H':Hp)(h h':Heap):Prop where
 keep:∀b o,h.get? b=some o->H b=none->b∉fs->b∉ex->h'.get? b=some o
 slot:∀b o,h.get? b=some o->H b=none->b∈fs->b∉ex->∃sl,h'.get? b=some {o with slots:=sl}
 free:∀b o,h.get? b=some o->H b=none->b∉ex->H' b=none
 there:∀b o,h.get? b=some o->b∉ex->∃o',h'.get? b=some o'
 tups:∀b xs,H b=some (.tup xs)->H' b=some (.tup xs)
 frzs:∀b o u,H b=some (.frz o u)->H' b=some (.frz o u)
 tbls:∀b ps,H b=some (.tbl ps)->∃more,H' b=some (.tbl (ps++more))
section
variable{fs ex:List Addr}{h1:Heap}{a x e:Addr}{o:HO}
def Un.any(u:Un fs ex H H1 h h1){b:Addr}{ob:Obj}(q:h.get? b=some ob)(n:H b=none)(hx:b∉ex):∃sl,h1.get? b=some {ob with slots:=sl}:=by
 by_cases hb:b∈fs
 .exact u.slot b ob q n hb hx
 .exists ob.slots,u.keep b ob q n hb hx
def Un.kept(k:∀b u,h.get? b=some u->h'.get? b=some u):Un fs ex H H h h' :=
 ⟨λb ob q _ _ _=>k b ob q,λb ob q _ _ _=>⟨ob.slots,k b ob q⟩,λ_ _ _ n _=>n,λb ob q _=>⟨ob,k b ob q⟩,λ_ _ q=>q,λ_ _ _ q=>q,λ_ ps q=>⟨#[],by rw[q];simp⟩⟩
def Un.refl:Un fs ex H H h h:=Un.kept λ_ _ q=>q
def Un.laid(k:∀b u,h.get? b=some u->h'.get? b=some u)(hp:h.objs.size<=a)(hn:H a=none):Un fs ex H (upd H a o) h h' where
 keep:=λb u q _ _ _=>k b u q
 slot:=λb u q _ _ _=>⟨u.slots,k b u q⟩
 free:=λb u q n _=>by rw[Zp (Gj (Gk (Dq q) hp))];exact n
 there:=λb u q _=>⟨u,k b u q⟩
 tups:=λb xs q=>by rw[Zp (Zy q hn)];exact q
 frzs:=λb u xs q=>by rw[Zp (Zy q hn)];exact q
 tbls:=λb ps q=>⟨#[],by rw[Zp (Zy q hn),q];simp⟩
def Un.write(mu:Mut (H x))(he:e=x\/H e=some (.own x))(k:∀b u,b≠e->h.get? b=some u->h'.get? b=some u)(heo:∃u,h'.get? e=some u):Un fs ex H (upd H x o) h h':=by
 let hx:∀b,H b=none->b≠x:=λb n z=>by subst z;rw[n]at mu;exact mu
 let hb:∀b,H b=none->b≠e:=λb n z=>by
  subst z;rcases he with r|r
  .exact hx b n r
  .rw[n]at r;cases r
 let hm:∀b u,H b=some u->¬ Mut (some u)->b≠x:=λb u q nm z=>by subst z;rw[q]at mu;exact nm mu
 refine⟨λb u q n _ _=>k b u (hb b n) q,λb u q n _ _=>⟨u.slots,k b u (hb b n) q⟩,λb u q n _=>by rw[Zp (hx b n)];exact n,λb u q _=>?_,
  λb xs q=>by rw[Zp (hm b _ q λz=>z)];exact q,λb u xs q=>by rw[Zp (hm b _ q λz=>z)];exact q,λb ps q=>⟨#[],by rw[Zp (hm b _ q λz=>z),q];simp⟩⟩
 by_cases hbe:b=e
 .subst hbe;exact heo
 .exists u,k b u hbe q
end
def trk(h:Heap)(H:Hp):List Addr:=(Co h.objs.size).filter λa=>(H a).isSome
def hidT(h:Heap)(H:Hp):Heap:=W.hideAll h (trk h H)
def Zib(h:Heap)(H:Hp):(hidT h H).objs.size=h.objs.size:=W.hideAll_size _ _
def Zk1{b:Addr}{o:Obj}(e:h.get? b=some o)(n:H b=none):(hidT h H).get? b=some o :=
 W.hideAll_get _ e λhm=>by
  let q:(H b).isSome=true:=(G2.mp hm).2;rw[n]at q;simp at q
theorem Zol{b:Addr}{o:Obj}(e:(hidT h H).get? b=some o):h.get? b=some o/\H b=none:=by
 let e':h.get? b=some o:=W.of_hideAll (trk h H) e;exists e',?_;cases q:H b with
 |none=>rfl
 |some x =>
  let hm:b∈trk h H:=G2.mpr ⟨Gw.mpr (Dq e'),by simp[q]⟩;let z:(hidT h H).get? b=none:=W.hideAll_none (trk h H) hm;rw[z]at e;cases e
structure Mod(K:Ck)(mg:Str->Option Value)(base:Heap):Prop where
 kin:K.In base
 glob:base.Ns mainGlobals mg
 blt:∃mb,base.Ns Jb0 mb/\∀x:Str,x≠"__name__"->mb x=Kr x
 nolimit:base.NoLimit
structure Cx where
 prog:El
 w:Hd
 K:Ck
 mg:Str->Option Value
 base:Heap
 A:Kf
 N:List Str
 s₀:Ca
 H₀:Hp
 env:Env
 outer:List Env
 stack:List Env
 ex:List Addr
 fn:Str->Bool
 calm:Bool
 pn:List (Addr×Obj)
 xe:Value->Ca->Prop
variable{X:L2.Cx}
def frs(l:List Env):List Addr:=l.filterMap (·.frame)
abbrev Cx.fs(X:Cx):List Addr:=frs X.outer
def Vis(sc:Scope)(x:Str):Prop:=sc.names.lookup x=some .local\/sc.names.lookup x=some .cell\/sc.names.lookup x=some .free
def Loc(sc:Scope)(x:Str):Prop:=sc.names.lookup x=some .local\/sc.names.lookup x=some .cell
def Look(env:Env)(h:Heap)(m:Str->Option Value)(x:Str)(u:Value):Prop :=
 (env.kindOf x=some .local/\m x=some u)\/((env.kindOf x=some .cell\/env.kindOf x=some .free)/\∃c,env.cells.lookup x=some c/\h.IsCell c (some u))
structure Cx.Ok(X:Cx):Prop where
 mod:Mod X.K X.mg X.base
 kind:X.env.scope.kind=.function
 glob:X.env.globals=mainGlobals
 blt:X.env.builtins=Jb0
 above:X.s₀.heap.objs.size<=X.env.locals
 inj:∀x y c,X.env.cells.lookup x=some c->X.env.cells.lookup y=some c->x=y
 has:∀x,(X.env.kindOf x=some .cell\/X.env.kindOf x=some .free)->∃c,X.env.cells.lookup x=some c
 cab:∀x c,X.fn x=true->X.env.cells.lookup x=some c->X.s₀.heap.objs.size<=c
 hd:X.calm=true->X.A.handled=none
 frames:X.A.frames=some X.stack
 stk:X.stack=X.outer\/(X.stack=X.env::X.outer/\X.env.frame=some X.env.locals)
 exf:∀b∈X.ex,b≠X.env.locals/\∀x c,X.env.cells.lookup x=some c->c≠b
 bs:∀b o,X.base.get? b=some o->X.s₀.heap.get? b=some o/\X.H₀ b=none
 bsz:X.base.objs.size<=X.s₀.heap.objs.size
 noex:∀b o,X.base.get? b=some o->b∉X.ex
 exfs:∀b∈X.ex,b∉X.fs
 funs:X.s₀.heap.FunFrames X.base X.outer
 frf:∀b∈X.fs,X.H₀ b=none
structure Inv(X:Cx)(pq:List (Addr×Obj))(σ:List (Option V))(H:Hp)(s:Ca):Prop where
 ok:X.Ok
 os:s.os=X.s₀.os
 bare:My s.gens
 base:Un X.fs X.ex X.H₀ H X.s₀.heap s.heap
 loc:∃m,s.heap.Ns X.env.locals m/\∀(i:Nat)(x:Str)(v:V),X.N[i]?=some x->σ[i]?=some (some v)->Vis X.env.scope x->∃u,RelV v u/\Look X.env s.heap m x u
 cell:∀x c,X.env.cells.lookup x=some c->∃v,s.heap.IsCell c v
 free:H X.env.locals=none
 freeC:∀x c,X.env.cells.lookup x=some c->H c=none
 pin:∀p∈X.pn++pq,s.heap.get? p.1=some p.2/\H p.1=none/\p.1≠X.env.locals/\p.1∉X.fs/\∀v,p.2.data≠.cell v
 hok:HOk X.prog X.w H s.heap
 len:σ.length=X.N.length
section
variable{σ:List (Option V)} 
def Cx.Ok.nofr(ok:X.Ok){b:Addr}{o:Obj}(e:X.base.get? b=some o):b∉X.fs:=λhb=>by
 let:=(ok.funs.mem hb).1;rw[e]at this;cases this
def Inv.bs(I:Inv X pq σ H s):∀b o,X.base.get? b=some o->s.heap.get? b=some o/\H b=none:=λb o e =>
 ⟨I.base.keep b o (I.ok.bs b o e).1 (I.ok.bs b o e).2 (I.ok.nofr e) (I.ok.noex b o e),I.base.free b o (I.ok.bs b o e).1 (I.ok.bs b o e).2 (I.ok.noex b o e)⟩
def Inv.bk(I:Inv X pq σ H s):∀b o,X.base.get? b=some o->s.heap.get? b=some o:=λb o e=>(I.bs b o e).1
def Inv.mod(I:Inv X pq σ H s):Mod X.K X.mg X.base:=I.ok.mod
def Inv.kIn(I:Inv X pq σ H s):X.K.In s.heap:=I.ok.mod.kin.keeps I.bk
def Inv.lt(I:Inv X pq σ H s):X.env.locals<s.heap.objs.size:=let⟨_,hn,_⟩:=I.loc;hn.lt
def Inv.sz(I:Inv X pq σ H s):X.s₀.heap.objs.size<=s.heap.objs.size:=J9 I.ok.above (Br I.lt)
def Inv.nofs(I:Inv X pq σ H s){a:Addr}(h:s.heap.objs.size<=a):a∉X.fs:=λhb=>by
 let⟨_,o,ho,_⟩:=I.ok.funs.mem hb;exact absurd (Gk (Dq ho) (J9 I.sz h)) (Bi _)
def Inv.cne(I:Inv X pq σ H s):∀x c,X.env.cells.lookup x=some c->c≠X.env.locals:=λx c e z=>by
 let⟨v,o,ho,hd⟩:=I.cell x c e;let⟨m,⟨o',es,ep,ho',hd',_⟩,_⟩:=I.loc;rw[z,ho']at ho;cases ho;rw[hd']at hd;cases hd
def Inv.funs(I:Inv X pq σ H s):s.heap.FunFrames X.base X.outer:=by
 let all:∀(l:List Env),(∀b∈frs l,b∈X.fs)->X.s₀.heap.FunFrames X.base l->s.heap.FunFrames X.base l:=by
  intro l
  induction l with
  |nil=>intro _ _;trivial
  |cons env r ih =>
   intro hs hl;let⟨hk,⟨L,o,hf,hn,ho,hd⟩,hr⟩:=hl;let hL:L∈X.fs:=hs L (by unfold frs;rw[Es,hf];exact List.mem_cons_self);let⟨sl,e⟩:=I.base.slot L o ho (I.ok.frf L hL) hL λz=>I.ok.exfs L z hL;exists hk,⟨L,_,hf,hn,e,hd⟩,ih (λb hb=>hs b (by unfold frs;rw[Es,hf];exact List.mem_cons_of_mem _ hb)) hr
 exact all X.outer (λ_ hb=>hb) I.ok.funs
def Inv.stack(I:Inv X pq σ H s):s.heap.FunFrames X.base X.stack:=by
 rcases I.ok.stk with e|⟨e,hf⟩
 .rw[e];exact I.funs
 .rw[e];let⟨m,hn,_⟩:=I.loc;refine .cons (by rw[I.ok.kind];decide) hf hn ?_ I.funs;exact Heap.get?_none_of_le (J9 I.ok.bsz I.ok.above)
def Inv.stkSub(I:Inv X pq σ H s):∀b∈frs X.stack,b∈X.env.locals::X.fs:=λb hb=>by
 rcases I.ok.stk with e|⟨e,hf⟩
 .rw[e]at hb;exact Jg _ hb
 .rw[e]at hb;unfold frs at hb;rw[Es,hf]at hb;exact hb
def Inv.stkFree(I:Inv X pq σ H s):∀b∈frs X.stack,H b=none:=λb hb=>by
 rcases Gi.mp (I.stkSub b hb)with e|hb
 .rw[e];exact I.free
 .let⟨_,o,ho,_⟩:=I.ok.funs.mem hb;exact I.base.free b o ho (I.ok.frf b hb) λz=>I.ok.exfs b z hb
def Inv.step{g':Array GenState}{d':Drawn}{ch:List Addr}(I:Inv X pq σ H s)(hch:∀b∈ch,(b∈X.ex\/X.s₀.heap.objs.size<=b)/\b≠X.env.locals/\(∀x c,X.env.cells.lookup x=some c->c≠b)/\∀p∈X.pn++pq,p.1≠b)(keep:∀b o,b≠X.env.locals->b∉X.fs->b∉ch->s.heap.get? b=some o->H b=none->h'.get? b=some o)(slot:∀b o,b≠X.env.locals->b∈X.fs->b∉ch->s.heap.get? b=some o->H b=none->∃sl,h'.get? b=some {o with slots:=sl})(free:∀b o,b∉ch->s.heap.get? b=some o->H b=none->H' b=none)(there:∀b o,b∉ch->s.heap.get? b=some o->∃o',h'.get? b=some o')(tups:∀b xs,H b=some (.tup xs)->H' b=some (.tup xs))(frzs:∀b o u,H b=some (.frz o u)->H' b=some (.frz o u))(tbls:∀b ps,H b=some (.tbl ps)->∃more,H' b=some (.tbl (ps++more)))(ns:∀m,s.heap.Ns X.env.locals m->h'.Ns X.env.locals m)(hok:HOk X.prog X.w H' h')(hg:My g') :
  Inv X pq σ H' {s with heap:=h',gens:=g',drawn:=d',toks:=t'}:=by
 let neL:∀b o,X.s₀.heap.get? b=some o->b≠X.env.locals:=λb o e=>Gj (Gk (Dq e) I.ok.above);let neC:∀b o,X.s₀.heap.get? b=some o->b∉X.ex->b∉ch:=λb o e hx hb=>by
  rcases(hch b hb).1 with z|z
  .exact hx z
  .exact absurd (Gk (Dq e) z) (Bi _)
 let cellK:∀x c,X.env.cells.lookup x=some c->∀v,s.heap.IsCell c v->h'.IsCell c v:=λx c e v⟨o,ho,hd⟩=>by
  let nch:c∉ch:=λz=>(hch c z).2.2.1 x c e rfl
  by_cases hc:c∈X.fs
  .let⟨sl,q⟩:=slot c o (I.cne x c e) hc nch ho (I.freeC x c e);exists _,q,hd
  .exists o,keep c o (I.cne x c e) hc nch ho (I.freeC x c e),hd
 exists I.ok,I.os,hg,⟨λb o e n hb hx=>?_,λb o e n hb hx=>?_,λb o e n hx=>?_,λb o e hx=>?_,λb xs e=>tups b xs (I.base.tups b xs e),λb o xs e=>frzs b o xs (I.base.frzs b o xs e),λb ps e=>?_⟩,?_,λx c e=>?_,?_,λx c e=>?_,λp hp=>?_,hok,I.len
 .exact keep b o (neL b o e) hb (neC b o e hx) (I.base.keep b o e n hb hx) (I.base.free b o e n hx)
 .let⟨sl,e1⟩:=I.base.slot b o e n hb hx;let⟨sl',e2⟩:=slot b _ (neL b o e) hb (neC b o e hx) e1 (I.base.free b o e n hx);exists sl',e2
 .let⟨o',e1⟩:=I.base.there b o e hx;exact free b o' (neC b o e hx) e1 (I.base.free b o e n hx)
 .let⟨o',e1⟩:=I.base.there b o e hx;exact there b o' (neC b o e hx) e1
 .let⟨m1,e1⟩:=I.base.tbls b ps e;let⟨m2,e2⟩:=tbls b _ e1;exact⟨m1++m2,by rw[e2,Array.append_assoc]⟩
 .let⟨m,hn,hl⟩:=I.loc;exists m,ns m hn,λi x v e1 e2 e3=>?_;let⟨u,r,l⟩:=hl i x v e1 e2 e3;exists u,r,?_;rcases l with l|⟨k,c,e,z⟩
  .exact .inl l
  .exact .inr ⟨k,c,e,cellK x c e _ z⟩
 .let⟨v,z⟩:=I.cell x c e;exists v,cellK x c e v z
 .let⟨m,⟨o,_,_,ho,_⟩,_⟩:=I.loc;exact free _ o (λz=>(hch _ z).2.1 rfl) ho I.free
 .let⟨v,o,ho,hd⟩:=I.cell x c e;exact free c o (λz=>(hch c z).2.2.1 x c e rfl) ho (I.freeC x c e)
 .let⟨e,n,ne,nf,d⟩:=I.pin p hp;let nch:p.1∉ch:=λz=>(hch p.1 z).2.2.2 p hp rfl;exists keep p.1 p.2 ne nf nch e n,free p.1 p.2 nch e n,ne,nf,d
def Inv.un(I:Inv X pq σ H s)(u:Un X.fs [] H H' s.heap h')(hok:HOk X.prog X.w H' h'):Inv X pq σ H' {s with heap:=h',toks:=t'}:=by
 let⟨m,⟨o,es,ep,ho,r⟩,_⟩:=id I.loc;let⟨sl,hL⟩:=u.any ho I.free (by simp);exact I.step (g':=s.gens) (d':=s.drawn) (ch:=[]) (λ_ z=>nomatch z) (λb o _ hb _ e n=>u.keep b o e n hb (by simp)) (λb o _ hb _ e n=>u.slot b o e n hb (by simp)) (λb o _ e n=>u.free b o e n (by simp)) (λb o _ e=>u.there b o e (by simp)) u.tups u.frzs u.tbls (λm' hm=>by
  let⟨o',es',ep',ho',r'⟩:=hm;rw[ho]at ho';cases ho';exact⟨_,es',ep',hL,r'⟩) hok I.bare
def Inv.call{g':Array GenState}{d':Drawn}{ch:List Addr}(I:Inv X pq σ H s)(u:Un (frs X.stack) ch H H' s.heap h')(hok:HOk X.prog X.w H' h')(hg:My g')(hch:∀b∈ch,(b∈X.ex\/X.s₀.heap.objs.size<=b)/\b≠X.env.locals/\(∀x c,X.env.cells.lookup x=some c->c≠b)/\∀p∈X.pn++pq,p.1≠b) :
  Inv X pq σ H' {s with heap:=h',gens:=g',drawn:=d',toks:=t'}:=by
 let⟨m,⟨o,es,ep,ho,r⟩,_⟩:=id I.loc;let⟨sl,hL⟩:=u.any ho I.free λz=>(hch _ z).2.1 rfl;exact I.step (ch:=ch) hch (λb o hL hb hc e n=>u.keep b o e n (λz=>(Gi.mp (I.stkSub b z)).elim hL hb) hc) (λb o _ _ hc e n=>u.any e n hc) (λb o hc e n=>u.free b o e n hc) (λb o hc e=>u.there b o e hc) u.tups u.frzs u.tbls (λm' hm=>by
  let⟨o',es',ep',ho',r'⟩:=hm;rw[ho]at ho';cases ho';exact⟨_,es',ep',hL,r'⟩) hok hg
def Inv.turned(I:Inv X pq σ H s)(k:∀b o,b≠it->s.heap.get? b=some o->h'.get? b=some o)(hn:H it=none)(hL:it≠X.env.locals)(h1:it∈X.ex\/X.s₀.heap.objs.size<=it)(h2:∀x c,X.env.cells.lookup x=some c->c≠it)(h3:∀p∈X.pn++pq,p.1≠it):Inv X pq σ H {s with heap:=h',toks:=t'}:=by
 let nit:∀b u,H b=some u->b≠it:=λb u e z=>by rw[z,hn]at e;cases e
 refine I.step (g':=s.gens) (d':=s.drawn) (ch:=[it]) (λb hb=>?_) (λb o _ _ hc e _=>k b o (λz=>hc (by simp[z])) e) (λb o _ _ hc e _=>⟨o.slots,k b o (λz=>hc (by simp[z])) e⟩) (λ_ _ _ _ n=>n)
  (λb o hc e=>⟨o,k b o (λz=>hc (by simp[z])) e⟩) (λ_ _ e=>e) (λ_ _ _ e=>e) (λb ps e=>⟨#[],by rw[e];simp⟩) (λm hm=>?_) (λb u e=>?_) I.bare
 .let e:b=it:=by simpa using hb
  subst e;exists h1,hL,h2,h3
 .let⟨o,es,ep,ho,r⟩:=hm;exists o,es,ep,k _ o (Et hL) ho,r
 .refine(I.hok b u e).stay (λc v hc q=>k c v ?_ q) (λ_ q=>q) λ_ _ q=>q;rcases hc with z|z
  .rw[z];exact nit b u e
  .exact nit c _ z
def Inv.tok(I:Inv X pq σ H s)(t:Nat):Inv X pq σ H {s with toks:=t}:=I.un (h':=s.heap) (t':=t) Un.refl I.hok
def Inv.kept(I:Inv X pq σ H s)(k:∀b u,s.heap.get? b=some u->h'.get? b=some u):Inv X pq σ H {s with heap:=h',toks:=t'}:=I.un (Un.kept k) (I.hok.kept k)
def Inv.laid{a:Addr}{o:HO}(I:Inv X pq σ H s)(k:∀b u,s.heap.get? b=some u->h'.get? b=some u)(hp:s.heap.objs.size<=a)(new:Y6 X.prog X.w (upd H a o) h' a o) :
  Inv X pq σ (upd H a o) {s with heap:=h',toks:=t'}:=I.un (Un.laid k hp (I.hok.fresh hp)) (I.hok.laid k hp new)
def Inv.write{x e:Addr}{o:HO}(I:Inv X pq σ H s)(mu:Mut (H x))(he:e=x\/H e=some (.own x))(k:∀b u,b≠e->s.heap.get? b=some u->h'.get? b=some u)(heo:∃u,h'.get? e=some u)(new:Y6 X.prog X.w (upd H x o) h' x o):Inv X pq σ (upd H x o) {s with heap:=h',toks:=t'}:=I.un (Un.write mu he k heo) (I.hok.write mu he k heo new)
def Inv.weak{σ':List (Option V)}(I:Inv X pq σ H s)(hl:σ'.length=σ.length)(w:∀(i:Nat)v,σ'[i]?=some (some v)->σ[i]?=some (some v)):Inv X pq σ' H s :=
 ⟨I.ok,I.os,I.bare,I.base,let⟨m,hn,hl'⟩:=I.loc;⟨m,hn,λi x v e1 e2 e3=>hl' i x v e1 (w i v e2) e3⟩,I.cell,I.free,I.freeC,I.pin,I.hok,hl.trans I.len⟩
def Inv.pins_of{pins':List (Addr×Obj)}(I:Inv X pq σ H s)(h:∀p∈pins',s.heap.get? p.1=some p.2/\H p.1=none/\p.1≠X.env.locals/\p.1∉X.fs/\∀v,p.2.data≠.cell v):Inv X pins' σ H s :=
 ⟨I.ok,I.os,I.bare,I.base,I.loc,I.cell,I.free,I.freeC,λp hp=>(Jw.mp hp).elim (λz=>I.pin p (Gu _ z)) (h p),I.hok,I.len⟩
def Zdz(hN:N.Nodup){i:Nat}{x:Str}(a:N[i]?=some x)(b:N[j]?=some x):i=j:=by
 let⟨h1,e1⟩:=Je.mp a;let⟨h2,e2⟩:=Je.mp b;exact(G9 hN).mp (e1.trans e2.symm)
def N6{M:Jet}{i:Nat}{x:Str}{v:V}{u:Value}{Q:Unit->Ca->Prop}(I:Inv X pq σ H s)(hN:X.N.Nodup)(hi:X.N[i]?=some x)(hx:Loc X.env.scope x)(r:RelV v u)(h:∀s',Inv X pq (σ.set i (some v)) H s'->(∃a,E8 a s.heap s'.heap/\(a=X.env.locals\/X.env.cells.lookup x=some a))->Q ⟨⟩ s')(hf:X.fn x=true\/X.env.scope.names.lookup x=some .local:=by first|left;rfl|right;rfl|assumption):Cc M A (Jga X.env x u) Q E s:=by
 let⟨m,hn,hl⟩:=id I.loc;let hcls:(X.env.scope.kind == .class ||(X.env.scope.kind == .module&&X.env.locals != X.env.globals))=false:=by rw[I.ok.kind];rfl
 let hiσ:i < σ.length:=by rw[I.len];exact(Je.mp hi).1
 let cne:=I.cne;let tracked:∀{a:Addr}{h':Heap},(∃o,s.heap.get? a=some o/\H a=none)->E8 a s.heap h'->HOk X.prog X.w H h':=λ{a h'}ha hs b ob e=>by
  let⟨_,_,hfree⟩:=ha;refine(I.hok b ob e).stay (λc w' hc q=>(hs.2 c ?_).trans q) (λ_ q=>q) λ_ _ q=>q;rintro rfl;rcases hc with rfl|hc
  .rw[hfree]at e;cases e
  .rw[hfree]at hc;cases hc
 rcases hx with hk|hk
 .refine wpAny_storeName_local hk hn (λh' hn' hs=>?_) hcls;let⟨oL,_,_,hoL,_⟩:=id hn;refine h _ ⟨I.ok,I.os,I.bare,⟨λb o e n hb hx=>?_,λb o e n hb hx=>?_,I.base.free,λb o e hx=>?_,I.base.tups,I.base.frzs,I.base.tbls⟩,⟨_,hn',λj y v' e1 e2 e3=>?_⟩,λy c e=>?_,I.free,I.freeC,λp hp=>?_,tracked ⟨oL,hoL,I.free⟩ hs,by simpa using I.len⟩ ⟨_,hs,.inl rfl⟩
  .exact(hs.2 b (Gj (Gk (Dq e) I.ok.above))).trans (I.base.keep b o e n hb hx)
  .let⟨sl,e1⟩:=I.base.slot b o e n hb hx;exists sl,(hs.2 b (Gj (Gk (Dq e) I.ok.above))).trans e1
  .let⟨o',e1⟩:=I.base.there b o e hx;exists o',(hs.2 b (Gj (Gk (Dq e) I.ok.above))).trans e1
  .by_cases hj:j=i
   .subst hj;rw[hi]at e1;cases e1;rw[Bs hiσ]at e2;cases e2;exists u,r,.inl ⟨hk,by simp⟩
   .rw[Ff (Et hj)]at e2;let⟨u',r',q⟩:=hl j y v' e1 e2 e3;exists u',r',?_;rcases q with⟨k,e⟩|⟨k,c,e,z⟩
    .refine .inl ⟨k,?_⟩;let:y≠x:=λe=>hj (Zdz hN e1 (e ▸ hi));simp[this,e]
    .exact .inr ⟨k,c,e,z.sameBut hs (cne y c e)⟩
  .let⟨w',z⟩:=I.cell y c e;exists w',z.sameBut hs (cne y c e)
  .let⟨e,n,ne,nf,d⟩:=I.pin p hp;exists(hs.2 p.1 ne).trans e,n,ne,nf,d
 .let hfn:X.fn x=true:=by
   rcases hf with z|z
   .exact z
   .rw[z]at hk;cases hk
  let⟨c,hc⟩:=I.ok.has x (.inl hk);let⟨w',z⟩:=I.cell x c hc;refine wpAny_storeName_cell I.ok.kind hk hc z (λh' hc' hs=>?_);let⟨oc,hoc,hocd⟩:=id z;refine h {s with heap:=h'} ⟨I.ok,I.os,I.bare,⟨λb o e n hb hx=>?_,λb o e n hb hx=>?_,I.base.free,λb o e hx=>?_,I.base.tups,I.base.frzs,I.base.tbls⟩,⟨m,hn.sameBut hs (Et (cne x c hc)),λj y v' e1 e2 e3=>?_⟩,λy c' e=>?_,I.free,I.freeC,λp hp=>?_,tracked ⟨oc,hoc,I.freeC x c hc⟩ hs,by simpa using I.len⟩ ⟨c,hs,.inr hc⟩
  .exact(hs.2 b (Gj (Gk (Dq e) (I.ok.cab x c hfn hc)))).trans (I.base.keep b o e n hb hx)
  .let⟨sl,e1⟩:=I.base.slot b o e n hb hx;exists sl,(hs.2 b (Gj (Gk (Dq e) (I.ok.cab x c hfn hc)))).trans e1
  .let⟨o',e1⟩:=I.base.there b o e hx;exists o',(hs.2 b (Gj (Gk (Dq e) (I.ok.cab x c hfn hc)))).trans e1
  .by_cases hj:j=i
   .subst hj;rw[hi]at e1;cases e1;rw[Bs hiσ]at e2;cases e2;exists u,r,.inr ⟨.inl hk,c,hc,hc'⟩
   .rw[Ff (Et hj)]at e2;let⟨u',r',q⟩:=hl j y v' e1 e2 e3;exists u',r',?_;rcases q with q|⟨k,c',e,z'⟩
    .exact .inl q
    .refine .inr ⟨k,c',e,z'.sameBut hs ?_⟩;rintro rfl;exact hj (Zdz hN e1 (I.ok.inj _ _ _ e hc ▸ hi))
  .by_cases hcc:c'=c
   .subst hcc;exists _,hc'
   .let⟨w2,z2⟩:=I.cell y c' e;exists w2,z2.sameBut hs hcc
  .let⟨e,n,ne,nf,d⟩:=I.pin p hp;exists(hs.2 p.1 ?_).trans e,n,ne,nf,d;intro q;rw[q,hoc]at e;let q':oc=p.2:=Dw e;exact d w' (by rw[<-q'];exact hocd)
def Po{M:Jet}{i:Nat}{x:Str}{v:V}{u:Value}{Q:Unit->Ca->Prop}(I:Inv X pq σ H s)(hN:X.N.Nodup)(hi:X.N[i]?=some x)(hx:Loc X.env.scope x)(r:RelV v u)(h:∀s',Inv X pq (σ.set i (some v)) H s'->Q ⟨⟩ s')(hf:X.fn x=true\/X.env.scope.names.lookup x=some .local:=by first|left;rfl|right;rfl|assumption):Cc M A (Jga X.env x u) Q E s :=
 N6 I hN hi hx r (λs' I' _=>h s' I') hf
def Inv.call'{s':Ca}{ch:List Addr}(I:Inv X pq σ H s)(ho:s'.os=s.os)(u:Un (frs X.stack) ch H H' s.heap s'.heap)(hok:HOk X.prog X.w H' s'.heap)(hg:My s'.gens)(hch:∀b∈ch,(b∈X.ex\/X.s₀.heap.objs.size<=b)/\b≠X.env.locals/\(∀x c,X.env.cells.lookup x=some c->c≠b)/\∀p∈X.pn++pq,p.1≠b):Inv X pq σ H' s':=by
 let⟨h',g',d',t',o'⟩:=s';let e:o'=s.os:=ho;subst e;exact I.call (g':=g') (t':=t') (d':=d') u hok hg hch
end
abbrev XK:=Value->Option Addr->Hp->Prop
abbrev St:=List (Option V)
variable{σ:L2.St}
abbrev VK:=V->Hp->Prop
variable{Q:L2.VK}
abbrev TE:=St->Hp->VK->Prop
variable{te ta tb to:L2.TE}
abbrev TT:=St->Hp->(Bool->Hp->Prop)->Prop
abbrev TA:=St->Hp->(List V->Hp->Prop)->Prop
structure Ends where
 nx:St->Hp->Prop
 rt:VK
 bk:St->Hp->Prop:=λ_ _=>False
 ct:St->Hp->Prop:=λ_ _=>False
abbrev TS:=Ends->St->Hp->Prop
def EP(X:Cx)(pq:List (Addr×Obj))(σ:St)(Q:VK)(u:Value)(s':Ca):Prop:=∃v H',Inv X pq σ H' s'/\RelV v u/\Q v H'
def TP(X:Cx)(pq:List (Addr×Obj))(σ:St)(Q:Bool->Hp->Prop)(b:Bool)(s':Ca):Prop:=∃H',Inv X pq σ H' s'/\Q b H'
def AP(X:Cx)(pq:List (Addr×Obj))(σ:St)(Q:List V->Hp->Prop)(us:List Value)(s':Ca):Prop:=∃vs H',Inv X pq σ H' s'/\Vals vs us/\Q vs H'
def SP(X:Cx)(pq:List (Addr×Obj))(D:Ends)(f:Flow)(s':Ca):Prop :=
 match f with
 |.next=>∃σ' H',Inv X pq σ' H' s'/\D.nx σ' H'
 |.brk=>∃σ' H',Inv X pq σ' H' s'/\D.bk σ' H'
 |.cont=>∃σ' H',Inv X pq σ' H' s'/\D.ct σ' H'
 |.ret u=>∃v σ' H',Inv X pq σ' H' s'/\RelV v u/\D.rt v H'
def PE(X:Cx)(e:Expr)(t:TE):Prop :=
 ∀(pq:List (Addr×Obj))(s:Ca)(σ:St)(H:Hp)(Q:VK),Inv X pq σ H s->t σ H Q->Cc (Cg X.prog X.w) X.A (eval e X.env) (EP X pq σ Q) X.xe s
def PT(X:Cx)(e:Expr)(t:TT):Prop :=
 ∀(pq:List (Addr×Obj))(s:Ca)(σ:St)(H:Hp)(Q:Bool->Hp->Prop),Inv X pq σ H s->t σ H Q->Cc (Cg X.prog X.w) X.A (isTrue e X.env (eval e X.env)) (TP X pq σ Q) X.xe s
def PW(X:Cx)(e:Expr)(t:TT):Prop :=
 ∀(whole:Sem Value)(pq:List (Addr×Obj))(s:Ca)(σ:St)(H:Hp)(Q:Bool->Hp->Prop),Inv X pq σ H s->t σ H Q->Cc (Cg X.prog X.w) X.A (isTrue e X.env whole) (TP X pq σ Q) X.xe s
def PW.pt{e:Expr}{t:TT}(h:PW X e t):PT X e t:=h _
def PA(X:Cx)(es:List Expr)(t:TA):Prop :=
 ∀(pos:Pos)(pq:List (Addr×Obj))(s:Ca)(σ:St)(H:Hp)(Q:List V->Hp->Prop),Inv X pq σ H s->t σ H Q->Cc (Cg X.prog X.w) X.A (spliced (Hs pos (Cn es X.env))) (AP X pq σ Q) X.xe s
def PS(X:Cx)(st:Stmt)(t:TS):Prop :=
 ∀(pq:List (Addr×Obj))(s:Ca)(σ:St)(H:Hp)(D:Ends),Inv X pq σ H s->t D σ H->Cc (Cg X.prog X.w) X.A (exec st X.env) (SP X pq D) X.xe s
def PSs(X:Cx)(st:List Stmt)(t:TS):Prop :=
 ∀(pq:List (Addr×Obj))(s:Ca)(σ:St)(H:Hp)(D:Ends),Inv X pq σ H s->t D σ H->Cc (Cg X.prog X.w) X.A (execs st X.env) (SP X pq D) X.xe s
def thn{α:Type}{t:Sem α}{Q Q':α->Ca->Prop}{M:Jet}(h:Cc M A t Q E s)(hQ:∀a s,Q a s->Q' a s):Cc M A t Q' E s:=Dy h hQ λ_ _ x=>x
section
def tVar(i:Nat):TE:=λσ H Q=>∃v,σ[i]?=some (some v)/\Q v H
def tC(v:V):TE:=λ_ H Q=>Q v H
def Zrg{i:Nat}{x:Str}(hN:X.N[i]?=some x)(hv:Vis X.env.scope x)(hd:(x==("__debug__":Str))=false:=by decide)(hcd:(x==("__classdict__":Str))=false:=by decide):PE X (.Name x pos) (tVar i):=by
 intro pq s σ H Q I h;let⟨v,e,h⟩:=h;let⟨m,hn,hl⟩:=I.loc;let⟨u,r,l⟩:=hl i x v hN e hv;let fin:EP X pq σ Q u s:=⟨v,H,I,r,h⟩;rcases l with⟨hk,hm⟩|⟨hk,c,hc,hcell⟩
 .exact Je8 (Jb3 I.ok.kind hk hn hm fin) hd
 .rcases hk with hk|hk
  .exact Je8 (Jcu I.ok.kind hk hc hcell fin) hd
  .exact Je8 (wpAny_loadName_free I.ok.kind hk hc hcell fin hcd) hd
def Zi{i j pos}:PE X (.Constant (.int i) j pos) (tC (.int i)):=λ_ _ _ H _ I h=>wpAny_Constant_int ⟨.int i,H,I.tok _,⟨_,rfl⟩,h⟩
def Zb7{b j pos}:PE X (.Constant (.bool b) j pos) (tC (.bl b)):=λ_ _ _ H _ I h=>Constant_bool ⟨.bl b,H,I,rfl,h⟩
def W5{j pos}:PE X (.Constant .none j pos) (tC .non):=λ_ _ _ H _ I h=>Jc0 ⟨.non,H,I,rfl,h⟩
def Zg8{x j pos}:PE X (.Constant (.str x) j pos) (tC (.str x)):=λ_ _ _ H _ I h=>Calls.Constant_str ⟨.str x,H,I.tok _,⟨_,rfl⟩,h⟩
def Gl(X:Cx)(x:Str):Prop:=X.env.kindOf x=some .globalImplicit
def Zci{x:Str}{u:Value}{Q:Value->Ca->Prop}(I:Inv X pq σ H s)(hg:Gl X x)(hm:X.mg x=some u)(h:Q u s)(hd:(x==("__debug__":Str))=false:=by decide):Cc (Cg X.prog X.w) X.A (eval (.Name x pos) X.env) Q E s :=
 Li I.ok.kind hg (Calls.loadGlobal_global (by rw[I.ok.glob];exact I.mod.glob.keeps I.bk) hm h) hd
def Q4{x:Str}{u:Value}{Q:Value->Ca->Prop}(I:Inv X pq σ H s)(hg:Gl X x)(hm:X.mg x=none)(hv:Kr x=some u)(h:Q u s)(hn:x≠"__name__":=by decide)(hd:(x==("__debug__":Str))=false:=by decide):Cc (Cg X.prog X.w) X.A (eval (.Name x pos) X.env) Q E s:=by
 let⟨mb,h1,h2⟩:=I.mod.blt;exact Li I.ok.kind hg (Calls.loadGlobal_builtin (by rw[I.ok.glob];exact I.mod.glob.keeps I.bk) hm (by rw[I.ok.blt];exact h1.keeps I.bk) ((h2 x hn).trans hv) h) hd
def Zg9{x:Str}{v:V}{u:Value}(hg:Gl X x)(hm:X.mg x=some u)(r:RelV v u)(hd:(x==("__debug__":Str))=false:=by decide):PE X (.Name x pos) (tC v) :=
 λ_ _ _ H _ I h=>Zci I hg hm ⟨v,H,I,r,h⟩ hd
def Zhd{x:Str}{v:V}{u:Value}(hg:Gl X x)(hm:X.mg x=none)(hv:Kr x=some u)(r:RelV v u)(hn:x≠"__name__":=by decide)(hd:(x==("__debug__":Str))=false:=by decide):PE X (.Name x pos) (tC v) :=
 λ_ _ _ H _ I h=>Q4 I hg hm hv ⟨v,H,I,r,h⟩ hn hd
variable{a b:Expr} 
def PC(X:Cx)(op:Jfv)(a b:Expr)(t:TE):Prop :=
 ∀(pq:List (Addr×Obj))(s:Ca)(σ:St)(H:Hp)(Q:VK),Inv X pq σ H s->t σ H Q ->
  Cc (Cg X.prog X.w) X.A (eval a X.env) (λv s₁=>Cc (Cg X.prog X.w) X.A (eval b X.env) (λu s₂=>Cc (Cg X.prog X.w) X.A (C8 op v u) (EP X pq σ Q) X.xe s₂) X.xe s₁) X.xe s
def Zd0(b:Expr){op:Jfv}(h:op≠.In)(h2:op≠.NotIn):Eu op b=false:=by
 let e1:(op==Jfv.In)=false:=by cases op<;>first|rfl|exact absurd rfl h
 let e2:(op==Jgi)=false:=by cases op<;>first|rfl|exact absurd rfl h2
 cases b<;>simp[Eu,e1,e2]
def tIsN(ta:TE):TE:=λσ H Q=>ta σ H λx H1=>Q (.bl (decide (x=.non))) H1
def Zqh(ta:TE):TE:=λσ H Q=>ta σ H λx H1=>Q (.bl (!decide (x=.non))) H1
theorem RelV.none_iff{x:V}{v:Value}(r:RelV x v):(v==Value.none)=decide (x=.non):=by
 cases x with
 |non=>cases r;rfl
 |bl _=>cases r;rfl
 |int _=>obtain⟨t,rfl⟩:=r;rfl
 |str _=>obtain⟨t,rfl⟩:=r;rfl
 |byt _=>obtain⟨t,rfl⟩:=r;rfl
 |flt _=>obtain⟨t,rfl⟩:=r;rfl
 |ref _=>cases r;rfl
 |ty _=>cases r;rfl
def Vs{j pos'}(ha:PE X a ta):PC X .Is a (.Constant .none j pos') (tIsN ta):=by
 intro pq s σ H Q I h;refine thn (ha pq s σ H _ I h) λv s1 hz=>?_;let⟨x,H1,I1,r1,q1⟩:=hz;exact Jc0 (is_none_gen ⟨.bl _,H1,I1,by rw[r1.none_iff];rfl,q1⟩)
def Pz{j pos'}(ha:PE X a ta):PC X .IsNot a (.Constant .none j pos') (Zqh ta):=by
 intro pq s σ H Q I h;refine thn (ha pq s σ H _ I h) λv s1 hz=>?_;let⟨x,H1,I1,r1,q1⟩:=hz;exact Jc0 (isnot_none_gen ⟨.bl _,H1,I1,by rw[r1.none_iff];rfl,q1⟩)
def tB(t:TE):TT:=λσ H Q=>t σ H λx H1=>∃c,x=.bl c/\Q c H1
def Zhb{op:Jfv}{t:TE}(h:PC X op a b t)(h1:Eu op b=false:=by first|exact Zd0 _ nofun nofun|rfl):PE X (.Compare a [op] [b] pos) t:=λpq s σ H Q I hw=>wpAny_Compare1 (h pq s σ H Q I hw) h1
def Wd{op:Jfv}{t:TE}(h:PC X op a b t)(h1:Eu op b=false:=by first|exact Zd0 _ nofun nofun|rfl):PT X (.Compare a [op] [b] pos) (tB t):=by
 intro pq s σ H Q I hw;refine Mz (thn (h pq s σ H _ I hw) λv s1 h1=>thn h1 λu s2 h2=>thn h2 λc s3 hz=>?_) h1;let⟨x,H1,I1,r1,q1⟩:=hz;let⟨d,rfl,q⟩:=q1;cases r1;exact Ee ⟨H1,I1,q⟩
def Qx{e:Expr}{t:TE}(h:PE X e t)(he:∀whole,isTrue e X.env whole=(do let v <-whole;Jcv e.pos;Lv [v] (truthy v)):=by intro _;rfl):PT X e (tB t):=by
 intro pq s σ H Q I hw;refine isTrue_plain (thn (h pq s σ H _ I hw) λv s1 hz=>?_) (he _);let⟨x,H1,I1,r1,q1⟩:=hz;let⟨d,rfl,q⟩:=q1;cases r1;exact Ee ⟨H1,I1,q⟩
variable{tA tB':TT}{rest:List Expr}
def tAnd(t u:TT):TT:=λσ H Q=>t σ H λc H1=>if c=true then u σ H1 Q else Q false H1
def tOr(t u:TT):TT:=λσ H Q=>t σ H λc H1=>if c=true then Q true H1 else u σ H1 Q
def tNot(t:TT):TT:=λσ H Q=>t σ H λc H1=>Q (!c) H1
theorem Zg3(ha:PT X a tA):PW X (.BoolOp .And [a] pos) tA:=by
 intro wh pq s σ H Q I h;refine isTrue_and (thn (ha pq s σ H Q I h) λc s1 e=>?_);cases c with
 |true=>exact isTrue_and_nil e
 |false=>exact e
theorem Zrc(ha:PT X a tA):PW X (.BoolOp .Or [a] pos) tA:=by
 intro wh pq s σ H Q I h;refine isTrue_or (thn (ha pq s σ H Q I h) λc s1 e=>?_);cases c with
 |false=>exact isTrue_or_nil e
 |true=>exact e
theorem Zl7(ha:PT X a tA)(hb:PW X (.BoolOp .And (b::rest) pos) tB'):PW X (.BoolOp .And (a::b::rest) pos) (tAnd tA tB'):=by
 intro wh pq s σ H Q I h;refine isTrue_and (thn (ha pq s σ H _ I h) λc s1 hz=>?_);let⟨H1,I1,q1⟩:=hz;cases c with
 |true=>exact hb wh pq s1 σ H1 Q I1 q1
 |false=>exact⟨H1,I1,q1⟩
theorem Zrd(ha:PT X a tA)(hb:PW X (.BoolOp .Or (b::rest) pos) tB'):PW X (.BoolOp .Or (a::b::rest) pos) (tOr tA tB'):=by
 intro wh pq s σ H Q I h;refine isTrue_or (thn (ha pq s σ H _ I h) λc s1 hz=>?_);let⟨H1,I1,q1⟩:=hz;cases c with
 |true=>exact⟨H1,I1,q1⟩
 |false=>exact hb wh pq s1 σ H1 Q I1 q1
def Zre(ha:PT X a tA):PT X (.UnaryOp .Not a pos) (tNot tA):=by
 intro pq s σ H Q I h;exact isTrue_not (ha pq s σ H (λc H1=>Q (!c) H1) I h)
def tOrV(ta tb:TE):TE:=λσ H Q=>ta σ H λx H1=>∃c,x=.bl c/\if c=true then Q (.bl true) H1 else tb σ H1 Q
def Zri{op}{t:TE}(h:PE X a t):PE X (.BoolOp op [a] pos) t:=λpq s σ H Q I hw=>BoolOp_one (h pq s σ H Q I hw)
theorem Zue(ha:PE X a ta)(hb:PE X (.BoolOp .Or (b::rest) pos) tb):PE X (.BoolOp .Or (a::b::rest) pos) (tOrV ta tb):=by
 intro pq s σ H Q I h;refine BoolOp_or (thn (ha pq s σ H _ I h) λv s1 hz=>?_);let⟨x,H1,I1,r1,q1⟩:=hz;let⟨c,rfl,q1⟩:=q1;cases r1;refine Ee ?_;cases c with
 |false=>exact hb pq s1 σ H1 Q I1 q1
 |true=>exact⟨.bl true,H1,I1,rfl,q1⟩
def tIf(t:TT)(ta tb:TE):TE:=λσ H Q=>t σ H λc H1=>if c=true then ta σ H1 Q else tb σ H1 Q
theorem Tm{c:Expr}(hc:PT X c tA)(ha:PE X a ta)(hb:PE X b tb):PE X (.IfExp c a b pos) (tIf tA ta tb):=by
 intro pq s σ H Q I h;refine wpAny_IfExp (thn (hc pq s σ H _ I h) λd s1 hz=>?_);let⟨H1,I1,q1⟩:=hz;cases d with
 |true=>exact ha pq s1 σ H1 Q I1 q1
 |false=>exact hb pq s1 σ H1 Q I1 q1
end
def SqL(K:Ck)(H:Hp)(a:Addr)(xs:List V):Prop :=
 Rd H a (.lst xs) \/
  ∃(o:Obj)(its:Array Value)(n:Nat),K.lookup a=some o/\o.cls=.type "list"/\o.dict=none/\o.data=.seq its n/\its.size<=sizeLine/\Vals xs its.toList
def SqT(K:Ck)(H:Hp)(a:Addr)(xs:List V):Prop :=
 Rd H a (.tup xs) \/
  ∃(o:Obj)(its:Array Value)(n:Nat),K.lookup a=some o/\o.cls=.type "tuple"/\o.data=.seq its n/\its.size<=sizeLine/\Vals xs its.toList
def absV:Value->Option V
 |.none=>some .non
 |.bool b=>some (.bl b)
 |.int i _=>some (.int i)
 |.str x _=>some (.str x)
 |.bytes b _=>some (.byt b)
 |.float b _=>some (.flt b)
 |.ref a=>some (.ref a)
 |.type n=>some (.ty n)
 |_=>none
theorem RelV.abs{x:V}{u:Value}(r:RelV x u):absV u=some x:=by
 cases x with
 |non=>cases r;rfl
 |bl _=>cases r;rfl
 |int _=>obtain⟨t,rfl⟩:=r;rfl
 |str _=>obtain⟨t,rfl⟩:=r;rfl
 |byt _=>obtain⟨t,rfl⟩:=r;rfl
 |flt _=>obtain⟨t,rfl⟩:=r;rfl
 |ref _=>cases r;rfl
 |ty _=>cases r;rfl
def RelV.inj{x:V}{u:Value}(r:RelV x u)(q:RelV y u):x=y:=Dw (r.abs.symm.trans q.abs)
theorem Vals.inj:∀{xs ys:List V}{us:List Value},Vals xs us->Vals ys us->xs=ys:=by
 intro _ _ _ hz9 hz8;cases hz9 with
 |nil=>
  cases hz8 with
  |nil=>
   exact rfl
 |cons r t=>
  cases hz8 with
  |cons r' t'=>
   exact by rw[r.inj r',Vals.inj t t']
section
variable{a:Addr} 
def SqL.of(h:H a=some (.lst xs)):SqL K H a xs:=.inl (.inl h)
def SqT.of(h:H a=some (.tup xs)):SqT K H a xs:=.inl (.inl h)
theorem Inv.list(I:Inv X pq σ H s)(h:SqL X.K H a xs):∃its:List Value,Vals xs its/\PlainL s.heap a its.toArray/\xs.length<=sizeLine:=by
 rcases h with h|⟨o,its,n,hk,hc,hd,hs,hz,r⟩
 .let⟨z,its,n,r,e⟩:=h.ok I.hok;exists its,r,⟨_,n,e,rfl,rfl,rfl⟩,z
 .exists its.toList,r,⟨o,n,I.kIn a o hk,hc,hd,by simpa using hs⟩,?_;let e:=r.length;simp only[Jj]at e;lia
theorem Inv.tuple(I:Inv X pq σ H s)(h:SqT X.K H a xs):∃its:List Value,Vals xs its/\IsTup s.heap a its.toArray/\xs.length<=sizeLine:=by
 rcases h with h|⟨o,its,n,hk,hc,hs,hz,r⟩
 .let⟨z,its,r,p⟩:=h.ok I.hok;exists its,r,p.tup,z
 .exists its.toList,r,⟨o,I.kIn a o hk,hc,n,by simpa using hs⟩,?_;let e:=r.length;simp only[Jj]at e;lia
def Inv.list_inj(I:Inv X pq σ H s)(h:SqL X.K H a xs)(h':SqL X.K H a ys):xs=ys:=by
 let⟨its,r,⟨o,n,e,_,_,d⟩,_⟩:=I.list h;let⟨its',r',⟨o',n',e',_,_,d'⟩,_⟩:=I.list h';rw[e]at e';cases e';rw[d]at d';injection d' with d1 _
 let:its=its':=by simpa using congrArg Jdw d1
 subst this;exact r.inj r'
def Inv.tuple_inj(I:Inv X pq σ H s)(h:SqT X.K H a xs)(h':SqT X.K H a ys):xs=ys:=by
 let⟨its,r,⟨o,e,_,n,d⟩,_⟩:=I.tuple h;let⟨its',r',⟨o',e',_,n',d'⟩,_⟩:=I.tuple h';rw[e]at e';cases e';rw[d]at d';injection d' with d1 _
 let:its=its':=by simpa using congrArg Jdw d1
 subst this;exact r.inj r'
end
abbrev Cx.wish(X:Cx)(E:Value->Ca->Prop):Cx:={X with xe:=E}
abbrev Cx.nox(X:Cx):Cx:=X.wish λ_ _=>False
def Cx.Ok.wish(ok:X.Ok)(E:Value->Ca->Prop):(X.wish E).Ok :=
 ⟨ok.mod,ok.kind,ok.glob,ok.blt,ok.above,ok.inj,ok.has,ok.cab,ok.hd,ok.frames,ok.stk,ok.exf,ok.bs,ok.bsz,ok.noex,ok.exfs,ok.funs,ok.frf⟩
def Cx.Ok.unwish(ok:(X.wish E).Ok):X.Ok :=
 ⟨ok.mod,ok.kind,ok.glob,ok.blt,ok.above,ok.inj,ok.has,ok.cab,ok.hd,ok.frames,ok.stk,ok.exf,ok.bs,ok.bsz,ok.noex,ok.exfs,ok.funs,ok.frf⟩
section
def Inv.wish(I:Inv X pq σ H s)(E:Value->Ca->Prop):Inv (X.wish E) pq σ H s:=⟨I.ok.wish E,I.os,I.bare,I.base,I.loc,I.cell,I.free,I.freeC,I.pin,I.hok,I.len⟩
def Inv.unwish(I:Inv (X.wish E) pq σ H s):Inv X pq σ H s:=⟨I.ok.unwish,I.os,I.bare,I.base,I.loc,I.cell,I.free,I.freeC,I.pin,I.hok,I.len⟩
theorem SP.unwish{D:Ends}{f:Flow}{s':Ca}(h:SP (X.wish E) pq D f s'):SP X pq D f s':=by
 cases f with
 |next=>obtain⟨σ',H',I,q⟩:=h;exists σ',H',I.unwish,q
 |brk=>obtain⟨σ',H',I,q⟩:=h;exists σ',H',I.unwish,q
 |cont=>obtain⟨σ',H',I,q⟩:=h;exists σ',H',I.unwish,q
 |ret u=>obtain⟨v,σ',H',I,r,q⟩:=h;exists v,σ',H',I.unwish,r,q
def PSs.nox{st:List Stmt}{t:TS}(h:PSs X.nox st t):PSs X st t:=λpq s σ H D I hw =>
 Dy (h pq s σ H D (I.wish _) hw) (λ_ _ q=>q.unwish) λ_ _ z=>Cr z
end
section
variable{rest:List Stmt}{t u:TS}{e:Expr} 
def Zqi:TS:=λD σ H=>D.nx σ H
def tSeq(t u:TS):TS:=λD σ H=>t {D with nx:=u D} σ H
def Z6:PSs X [] Zqi:=λ_ _ σ H _ I h=>K8 ⟨σ,H,I,h⟩
theorem Zd(h1:PS X st t)(h2:PSs X rest u):PSs X (st::rest) (tSeq t u):=by
 intro pq s σ H D I h;refine Jd6 (thn (h1 pq s σ H {D with nx:=u D} I h) λf s1 q=>?_);cases f with
 |next =>
  let⟨σ',H',I',q⟩:=q;exact h2 pq s1 σ' H' D I' q
 |ret v=>exact q
 |brk=>exact q
 |cont=>exact q
theorem Zj(h1:PS X st t):PSs X [st] t:=by
 intro pq s σ H D I h;refine Jd6 (thn (h1 pq s σ H D I h) λf s1 q=>?_);cases f with
 |next=>exact K8 q
 |ret v=>exact q
 |brk=>exact q
 |cont=>exact q
def Inv.quiet(I:Inv X pq σ H s):interactive X.env=false:=by simp[interactive,I.ok.kind]
def Zql(te:TE):TS:=λD σ H=>te σ H λ_ H1=>D.nx σ H1
def T5(he:PE X e te)(hs:M7 e none pos.line X.env=pure false:=by rfl):PS X (.Expr e pos) (Zql te):=by
 intro pq s σ H D I h;exact wpAny_Expr_any (thn (he pq s σ H _ I h) λv s1⟨x,H1,I1,r1,q1⟩=>⟨σ,H1,I1,q1⟩) I.quiet hs
def tRet(te:TE):TS:=λD σ H=>te σ H D.rt
def Z1(he:PE X e te):PS X (.Return (some e) pos) (tRet te):=by
 intro pq s σ H D I h;exact wpAny_Return_some (thn (he pq s σ H _ I h) λv s1⟨x,H1,I1,r1,q1⟩=>⟨x,σ,H1,I1,r1,q1⟩)
def Ztu:TS:=λD _ H=>D.rt .non H
def Zn8:PS X (.Return none pos) Ztu:=λ_ _ σ H _ I h=>wpAny_Return_none ⟨.non,σ,H,I,rfl,h⟩
def tIfS(c:TT)(t u:TS):TS:=λD σ H=>c σ H λb H1=>if b=true then t D σ H1 else u D σ H1
theorem Y2{c:Expr}{a b:List Stmt}{tc:TT}(hc:PT X c tc)(ha:PSs X a t)(hb:PSs X b u):PS X (.If c a b pos) (tIfS tc t u):=by
 intro pq s σ H D I h;refine wpAny_If (thn (hc pq s σ H _ I h) λd s1 hz=>?_);let⟨H1,I1,q1⟩:=hz;cases d with
 |true=>exact ha pq s1 σ H1 D I1 q1
 |false=>exact hb pq s1 σ H1 D I1 q1
def Zqj:TS:=λ_ _ _=>False
def Zdq:PS X st Zqj:=λ_ _ _ _ _ _ h=>h.elim
end
abbrev TG:=V->St->Hp->(St->Hp->Prop)->Prop
abbrev TGs:=List V->St->Hp->(St->Hp->Prop)->Prop
def PG(X:Cx)(target:Expr)(t:TG):Prop :=
 ∀(pq:List (Addr×Obj))(s:Ca)(σ:St)(H:Hp)(v:V)(u:Value)(Q:St->Hp->Prop),Inv X pq σ H s->RelV v u->t v σ H Q ->
  Cc (Cg X.prog X.w) X.A (Jdx target X.env u) (λ_ s'=>∃σ' H',Inv X pq σ' H' s'/\Q σ' H') X.xe s
def PGs(X:Cx)(ts:List Expr)(t:TGs):Prop :=
 ∀(pq:List (Addr×Obj))(s:Ca)(σ:St)(H:Hp)(vs:List V)(us:List Value)(Q:St->Hp->Prop),Inv X pq σ H s->Vals vs us->t vs σ H Q ->
  Cc (Cg X.prog X.w) X.A (assignInOrder ((Lz ts X.env).map (·.2)) us) (λ_ s'=>∃σ' H',Inv X pq σ' H' s'/\Q σ' H') X.xe s
abbrev TSet:=V->V->V->Hp->(Hp->Prop)->Prop
def PSet(X:Cx)(t:TSet):Prop :=
 ∀(pq:List (Addr×Obj))(s:Ca)(σ:St)(H:Hp)(o i v:V)(ov iv u:Value)(Q:Hp->Prop),Inv X pq σ H s->RelV o ov->RelV i iv->RelV v u->t o i v H Q ->
  Cc (Cg X.prog X.w) X.A (Jfw ov iv u) (λ_ s'=>∃H',Inv X pq σ H' s'/\Q H') X.xe s
abbrev TIp:=V->V->Hp->VK->Prop
def PIp(X:Cx)(op:Jfx)(t:TIp):Prop :=
 ∀(pq:List (Addr×Obj))(s:Ca)(σ:St)(H:Hp)(x y:V)(v u:Value)(Q:VK),Inv X pq σ H s->RelV x v->RelV y u->t x y H Q ->
  Cc (Cg X.prog X.w) X.A (inplaceOp op v u) (EP X pq σ Q) X.xe s
section
def Zcp(i:Nat):TG:=λv σ H Q=>Q (σ.set i (some v)) H
def Zq{i:Nat}{x:Str}(hN:X.N.Nodup)(hi:X.N[i]?=some x)(hx:Loc X.env.scope x)(hf:X.fn x=true\/X.env.scope.names.lookup x=some .local:=by first|left;rfl|right;rfl|assumption):PG X (.Name x pos) (Zcp i):=by
 intro pq s σ H v u Q I r h;exact Jdi (Po I hN hi hx r (λs' I'=>⟨_,H,I',h⟩) hf)
def gNil:TGs:=λvs σ H Q=>vs=[]/\Q σ H
def Zo7(t:TG)(u:TGs):TGs:=λvs σ H Q=>∃v r,vs=v::r/\t v σ H λσ' H'=>u r σ' H' Q
def Xr:PGs X [] gNil:=by
 intro pq s σ H vs us Q I r h;let⟨e,h⟩:=h;subst e;cases r;exact assignInOrder_nil ⟨σ,H,I,h⟩
theorem Z0{e:Expr}{t:TG}{u:TGs}(h1:PG X e t)(h2:PGs X es u)(hs:(Lz (e::es) X.env).map (·.2)=Jdx e X.env::(Lz es X.env).map (·.2):=by rfl):PGs X (e::es) (Zo7 t u):=by
 intro pq s σ H vs us Q I r h;let⟨v,vr,e1,h⟩:=h;subst e1;cases r with
 |cons r rr =>
  rw[hs];refine assignInOrder_cons (thn (h1 pq s σ H _ _ _ I r h) λ_ s1 hz=>?_);let⟨σ1,H1,I1,q1⟩:=hz;exact h2 pq s1 σ1 H1 _ _ Q I1 rr q1
def gTup(K:Ck)(n:Nat)(t:TGs):TG:=λv σ H Q=>∃a xs,v=.ref a/\SqT K H a xs/\xs.length=n/\t xs σ H Q
def Wr{k:Nat}{t:TGs}{n:Nat}(hc:X.calm=true)(h:PGs X es t)(hn:(Lz es X.env).length=n:=by rfl)(hst:(Lz es X.env).findIdx? (·.1)=none:=by rfl):PG X (.Tuple es k pos) (gTup X.K n t):=by
 intro pq s σ H v u Q I r hw;let⟨a,xs,e1,hq,hl,hw⟩:=hw;subst e1;cases r;let⟨its,rv,ht,hz⟩:=I.tuple hq;refine assign_Tuple_tuple (I.ok.hd hc) ht (by simp[hn,<-hl,rv.length]) hst λh' hx=>?_;let I1:Inv X pq σ H {s with heap:=h'}:=I.kept (t':=s.toks) λb o e=>hx b o (Gj (Dq e)) e;exact h pq _ σ H xs _ Q I1 (by simpa using rv) hw
def gSub(to ti:TE)(t:TSet):TG:=λv σ H Q=>to σ H λo H1=>ti σ H1 λi H2=>t o i v H2 λH3=>Q σ H3
def Zds{o i:Expr}{ti:TE}{t:TSet}(ho:PE X o to)(hi:PE X i ti)(hs:PSet X t)(ha:∀v,Jdx (.Subscript o i pos) X.env v=(do
   let ov <-Lv [v] (eval o X.env)
   let iv <-Lv [v,ov] (eval i X.env)
   Jcv pos
   Lv [v,ov,iv] (Jfw ov iv v)
   release [v,ov,iv] []):=by intro _;rfl):PG X (.Subscript o i pos) (gSub to ti t):=by
 intro pq s σ H v u Q I r h;rw[ha];refine Dm (Cs (thn (ho pq s σ H _ I h) λov s1 hz=>?_));let⟨x,H1,I1,r1,q1⟩:=hz;refine Dm (Cs (thn (hi pq s1 σ H1 _ I1 q1) λiv s2 hz=>?_));let⟨y,H2,I2,r2,q2⟩:=hz;refine Dm (K2 (Dm (Cs (thn (hs pq s2 σ H2 x y v ov iv u _ I2 r1 r2 r q2) λ_ s3 hz=>?_))));let⟨H3,I3,q3⟩:=hz;exact wpAny_release ⟨σ,H3,I3,q3⟩
def tAsg(te:TE)(g:TG):TS:=λD σ H=>te σ H λx H1=>g x σ H1 D.nx
def Qy{e:Expr}{g:TG}(he:PE X e te)(hg:PG X tg g)(hs:swapsWithSole [tg] e pos.line X.env=pure false:=by rfl)(hw:swappedStores [tg] e X.env=pure none:=by rfl)(h1:(Lz [tg] X.env).map (·.2)=[Jdx tg X.env]:=by rfl):PS X (.Assign [tg] e pos) (tAsg te g):=by
 intro pq s σ H D I h;refine wpAny_Assign_stores (thn (he pq s σ H _ I h) λv s1 hz=>?_) hs hw;let⟨x,H1,I1,r1,q1⟩:=hz;rw[h1];exact thn (hg pq s1 σ H1 x v _ I1 r1 q1) λ_ s2 q=>q
def Zs{i:Nat}{x:Str}{e:Expr}(hN:X.N.Nodup)(hi:X.N[i]?=some x)(hx:Loc X.env.scope x)(he:PE X e te)(hs:M7 e (some (.Name x pos')) pos.line X.env=pure false:=by rfl)(hf:X.fn x=true\/X.env.scope.names.lookup x=some .local:=by first|left;rfl|right;rfl|assumption) :
  PS X (.Assign [.Name x pos'] e pos) (tAsg te (Zcp i)):=by
 intro pq s σ H D I h;refine wpAny_Assign_Name (thn (he pq s σ H _ I h) λv s1 hz=>?_) hs;let⟨y,H1,I1,r1,q1⟩:=hz;exact Po I1 hN hi hx r1 (λs2 I2=>⟨_,H1,I2,q1⟩) hf
def tAug(i:Nat)(te:TE)(ti:TIp):TS:=λD σ H=>∃x,σ[i]?=some (some x)/\te σ H λy H1=>ti x y H1 λz H2=>D.nx (σ.set i (some z)) H2
def Zdr{i:Nat}{x:Str}{e:Expr}{op:Jfx}{ti:TIp}(hN:X.N.Nodup)(hi:X.N[i]?=some x)(hx:Loc X.env.scope x)(he:PE X e te)(ho:PIp X op ti)(hf:X.fn x=true\/X.env.scope.names.lookup x=some .local:=by first|left;rfl|right;rfl|assumption) :
  PS X (.AugAssign (.Name x pos') op e pos) (tAug i te ti):=by
 intro pq s σ H D I h;let⟨v,e1,h⟩:=h;let⟨m,hn,hl⟩:=I.loc;let vis:Vis X.env.scope x:=by rcases hx with k|k;exact .inl k;exact .inr (.inl k)
 let⟨u,r,l⟩:=hl i x v hi e1 vis;refine wpAny_AugAssign_Name ?_;let go:Cc (Cg X.prog X.w) X.A (eval e X.env) (λw s₂=>Cc (Cg X.prog X.w) X.A (inplaceOp op u w) (λr s₃=>Cc (Cg X.prog X.w) X.A (Jga X.env x r) (λ_=>SP X pq D .next) X.xe s₃) X.xe s₂) X.xe s:=by
  refine thn (he pq s σ H _ I h) λw s1 hz=>?_;let⟨y,H1,I1,r1,q1⟩:=hz;refine thn (ho pq s1 σ H1 v y u w _ I1 r r1 q1) λz s2 hz=>?_;let⟨zv,H2,I2,r2,q2⟩:=hz;exact Po I2 hN hi hx r2 (λs3 I3=>⟨_,H2,I3,q2⟩) hf
 rcases l with⟨hk,hm⟩|⟨hk,c,hc,hcell⟩
 .exact Jb3 I.ok.kind hk hn hm go
 .rcases hk with hk|hk
  .exact Jcu I.ok.kind hk hc hcell go
  .rcases hx with k|k
   .let:X.env.scope.names.lookup x=some .free:=hk;rw[k]at this;cases this
   .let:X.env.scope.names.lookup x=some .free:=hk;rw[k]at this;cases this
def Ztv(to ti te:TE)(tget:V->V->Hp->VK->Prop)(tip:TIp)(tset:TSet):TS:=λD σ H=>to σ H λo H1=>ti σ H1 λi H2=>tget o i H2 λx H3=>te σ H3 λy H4=>tip x y H4 λz H5=>tset o i z H5 λH6=>D.nx σ H6
def PGet(X:Cx)(t:V->V->Hp->VK->Prop):Prop :=
 ∀(pq:List (Addr×Obj))(s:Ca)(σ:St)(H:Hp)(o i:V)(ov iv:Value)(Q:VK),Inv X pq σ H s->RelV o ov->RelV i iv->t o i H Q ->
  Cc (Cg X.prog X.w) X.A (Kx ov iv) (EP X pq σ Q) X.xe s
def Zoa{o i e:Expr}{ti:TE}{tget:V->V->Hp->VK->Prop}{tip:TIp}{tset:TSet}{op:Jfx}{tpos:Pos}(ho:PE X o to)(hi:PE X i ti)(hg:PGet X tget)(he:PE X e te)(hp:PIp X op tip)(hs:PSet X tset)(ha:∀ov iv new,augStore i ov iv new=(do Lv [new,ov,iv] (Jfw ov iv new);release [new,ov,iv] [];pure .next):=by intros;rfl):PS X (.AugAssign (.Subscript o i tpos) op e pos) (Ztv to ti te tget tip tset):=by
 intro pq s σ H D I h;refine wpAny_AugAssign_SubscriptAny (thn (ho pq s σ H _ I h) λov s1 hz=>?_) ha;let⟨x1,H1,I1,r1,q1⟩:=hz;refine thn (hi pq s1 σ H1 _ I1 q1) λiv s2 hz=>?_;let⟨x2,H2,I2,r2,q2⟩:=hz;refine thn (hg pq s2 σ H2 x1 x2 ov iv _ I2 r1 r2 q2) λold s3 hz=>?_;let⟨x3,H3,I3,r3,q3⟩:=hz;refine thn (he pq s3 σ H3 _ I3 q3) λv s4 hz=>?_;let⟨x4,H4,I4,r4,q4⟩:=hz;refine thn (hp pq s4 σ H4 x3 x4 old v _ I4 r3 r4 q4) λnew s5 hz=>?_;let⟨x5,H5,I5,r5,q5⟩:=hz;exact thn (hs pq s5 σ H5 x1 x2 x5 ov iv new _ I5 r1 r2 r5 q5) λ_ s6⟨H6,I6,q6⟩=>⟨σ,H6,I6,q6⟩
def ipI(f:Int->Int->Int):TIp:=λx y H Q=>∃i j,x=.int i/\y=.int j/\Q (.int (f i j)) H
def Zar:PIp X .Add (ipI λi j=>i+j):=by
 intro pq s σ H x y v u Q I r1 r2 h;let⟨i,j,e1,e2,q⟩:=h;subst e1;subst e2;let⟨t,rfl⟩:=r1;let⟨t',rfl⟩:=r2;exact iadd_int ⟨.int _,H,I.tok _,⟨_,rfl⟩,q⟩
end
section
def Zlr(c:TT)(tb:TS):TS:=λD σ H=>∃W:Nat->St->Hp->Prop,(∃m,W m σ H)/\∀m σ H,W m σ H ->
 c σ H λb H1=>if b=true then ∃N:St->Hp->Prop,(∀σ' H',N σ' H'->∃m',m'<m/\W m' σ' H')/\tb {D with nx:=N,ct:=N,bk:=D.nx} σ H1 else D.nx σ H1
theorem Py{c:Expr}{body:List Stmt}{tc:TT}{tb:TS}(hp:PassesOwn (Cg X.prog X.w) X.A X.env X.xe)(hc:PT X c tc)(hb:PSs X body tb):PS X (.While c body [] pos) (Zlr tc tb):=by
 intro pq s σ H D I h;let⟨W,⟨m0,w0⟩,turn⟩:=h;refine wpAny_While (codeAny_whileLoop (λn s'=>∃σ' H',Inv X pq σ' H' s'/\W n σ' H') ?_ m0 ⟨σ,H,I,w0⟩);rintro n s1 ⟨σ1,H1,I1,w1⟩;refine Eo hp (thn (hc pq s1 σ1 H1 _ I1 (turn n σ1 H1 w1)) λb s2 hz=>?_);let⟨H2,I2,q2⟩:=hz;cases b with
 |true =>
  let⟨N,hN,q2⟩:=q2;rw[Dt rfl];refine Eo hp (thn (hb pq s2 σ1 H2 _ I2 q2) λf s3 q3=>?_);cases f with
  |next =>
   let⟨σ3,H3,I3,n3⟩:=q3;let⟨m',hm,w3⟩:=hN σ3 H3 n3;exists m',hm,σ3,H3,I3,w3
  |cont =>
   let⟨σ3,H3,I3,n3⟩:=q3;let⟨m',hm,w3⟩:=hN σ3 H3 n3;exists m',hm,σ3,H3,I3,w3
  |brk=>exact q3
  |ret v=>exact q3
 |false =>
  rw[Ds Jt];exact K8 ⟨σ1,H2,I2,q2⟩
end
structure It where
 go:Nat->Hp->Prop
 yld:Nat->Hp->V->Hp->Prop
 stop:Nat->Hp->Prop
def FpOk(X:Cx)(pq:List (Addr×Obj))(H:Hp)(b:Addr):Prop :=
 H b=none/\b≠X.env.locals/\b∉X.fs/\(b∈X.ex\/X.s₀.heap.objs.size<=b)/\(∀x c,X.env.cells.lookup x=some c->c≠b)/\∀p∈X.pn++pq,p.1≠b
def Inv.fpOk{b:Addr}(I:Inv X pq σ H s)(hb:s.heap.objs.size<=b)(hn:H' b=none):FpOk X pq H' b:=by
 exists hn,Nat.ne_of_gt (Gk I.lt hb),I.nofs hb,.inr (J9 I.sz hb),λx c e z=>?_,λp hp z=>?_
 .let⟨v,q⟩:=I.cell x c e;exact absurd (Gk q.lt (by rw[z];exact hb)) (Bi _)
 .exact absurd (Gk (Dq (I.pin p hp).1) (by rw[z];exact hb)) (Bi _)
structure Turn(P:El)(w:Hd)(K:Ck)(tg:Expr)(J:It)(fp:List Addr)(it:Addr)(tn:Nat->Heap->Prop):Prop where
 mem:it∈fp
 obj:∀i h,tn i h->∀b∈fp,∃o,h.get? b=some o/\∀v,o.data≠.cell v
 keep:∀i h h',tn i h->(∀b∈fp,∀o,h.get? b=some o->h'.get? b=some o)->tn i h'
 item:∀(X:Cx),X.prog=P->X.w=w->X.K=K->X.calm=true->∀(i:Nat)(pq:List (Addr×Obj))(s:Ca)(σ:St)(H:Hp)(E:Value->Ca->Prop),Inv X pq σ H s->(∀b∈fp,FpOk X pq H b)->tn i s.heap->J.go i H ->
  Cc (Cg P w) X.A (Jb5 (.ref it)) (λr s1=>∃u,r=some u /\
   Cc (Cg P w) X.A (K9 tg (.ref it) u) (λ_ s2=>∃x H',Inv X pq σ H' s2/\RelV x u/\J.yld i H x H'/\tn (i+1) s2.heap/\∀b∈fp,H' b=none) E s1) E s
 done:∀(X:Cx),X.prog=P->X.w=w->X.K=K->X.calm=true->∀(i:Nat)(pq:List (Addr×Obj))(s:Ca)(σ:St)(H:Hp)(E:Value->Ca->Prop),Inv X pq σ H s->(∀b∈fp,FpOk X pq H b)->tn i s.heap->J.stop i H ->
  Cc (Cg P w) X.A (Jb5 (.ref it)) (λr s1=>r=none/\Inv X pq σ H s1) E s
 self:∀(A:Kf)(i:Nat)(s:Ca)(Q:Value->Ca->Prop)(E:Value->Ca->Prop),tn i s.heap->Q (.ref it) s->Cc (Cg P w) A (pyIter (.ref it)) Q E s
abbrev TI:=St->Hp->(It->Hp->Prop)->Prop
variable{wi:L2.TI}
def PIE(X:Cx)(pq:List (Addr×Obj))(σ:St)(tg:Expr)(R:It->Hp->Prop)(itv:Value)(s2:Ca):Prop :=
 ∃(it:Addr)(fp:List Addr)(tn:Nat->Heap->Prop)(J:It)(H':Hp),itv=.ref it/\Inv X pq σ H' s2/\Turn X.prog X.w X.K tg J fp it tn/\tn 0 s2.heap/\(∀b∈fp,FpOk X pq H' b)/\R J H'
def PI(X:Cx)(tg iter:Expr)(wi:TI):Prop :=
 ∀(pq:List (Addr×Obj))(s:Ca)(σ:St)(H:Hp)(R:It->Hp->Prop),Inv X pq σ H s->wi σ H R ->
  Cc (Cg X.prog X.w) X.A (eval iter X.env) (λv s1=>Cc (Cg X.prog X.w) X.A (pyIter v) (PIE X pq σ tg R) X.xe s1) X.xe s
def Zk4{M:Jet}{u:Value}{o:Obj}{n:String}{vs:Array Value}{Q:Unit->Ca->Prop}(ho:s.heap.get? it=some o)(hc:o.cls=.type n)(hd:o.data=.fields vs)(hn:["enumerate","zip","dict_itemiterator","dict_reverseitemiterator","odict_iterator","itertools.zip_longest","itertools.pairwise"].contains n=false)(hQ:Q ⟨⟩ s):Cc M A (K9 tg (.ref it) u) Q E s:=by
  unfold K9;cases tg<;>first
    |exact Dn hQ
    | (cases u <;> first
        |exact Dn hQ
        | (refine Dm (wpAny_load ho ?_)
           rw[hc,hd];show Cc M A (if(["enumerate","zip","dict_itemiterator","dict_reverseitemiterator","odict_iterator","itertools.zip_longest","itertools.pairwise"].contains n&&vs[0]? == some (Hk _))=true then _ else _) Q E s;rw[Ds (by intro h;rw[hn,Jeu]at h;cases h)];exact Dn hQ))
def Itl(K:Ck)(a:Addr):It :=
 ⟨λi H=>∃xs x,SqL K H a xs/\xs[i]?=some x,λi H x H'=>H'=H/\∀xs,SqL K H a xs->xs[i]?=some x,λi H=>∃xs,SqL K H a xs/\xs.length<=i⟩
def Itt(K:Ck)(a:Addr):It :=
 ⟨λi H=>∃xs x,SqT K H a xs/\xs[i]?=some x,λi H x H'=>H'=H/\∀xs,SqT K H a xs->xs[i]?=some x,λi H=>∃xs,SqT K H a xs/\xs.length<=i⟩
def Itr(lo:Int)(n:Nat):It:=⟨λi _=>i<n,λi H x H'=>H'=H/\x=.int (lo+i),λi _=>n<=i⟩
theorem Zfx(a it:Addr):Turn P w K tg (Itl K a) [it] it (λi h=>h.IsListIter it a i) where
 mem:=by simp
 obj:=λi h st b hb=>by
  let e:b=it:=by simpa using hb
  subst e;let⟨o,e,c,d⟩:=st;exact⟨o,e,λv z=>by rw[d]at z;cases z⟩
 keep:=λi h h' st k=>st.at λo e=>k it (by simp) o e
 item:=by
  intro X hP hw hK hc i pq s σ H E I hf st hg;subst hP hw hK;let⟨xs,x,hq,hx⟩:=hg;let⟨its,rv,p,hz⟩:=I.list hq;let⟨u,hu,ru⟩:=rv.get hx;let⟨f0,f1,f2,f3,f4,f5⟩:=hf it (by simp);refine Mr st p.isList (x:=u) (by simpa using hu) λh' st' sb=>?_;let I1:Inv X pq σ H {s with heap:=h'}:=I.turned (t':=s.toks) (λb o hb e=>(sb.2 b hb).trans e) f0 f1 f3 f4 f5;let⟨o,e,c,d⟩:=id st';exists u,rfl,Zk4 (s:={s with heap:=h'}) e c d nofun ⟨x,H,I1,ru,⟨rfl,λys hy=>by rw[I.list_inj hy hq];exact hx⟩,st',λb hb=>(hf b hb).1⟩
 done:=by
  intro X hP hw hK hc i pq s σ H E I hf st hg;subst hP hw hK;let⟨xs,hq,hx⟩:=hg;let⟨its,rv,p,hz⟩:=I.list hq;let⟨f0,f1,f2,f3,f4,f5⟩:=hf it (by simp);let hl:=rv.length;exact M8 (I.ok.hd hc) st p.isList (by simp;lia) λh' eb=>⟨rfl,I.turned (t':=s.toks) (λb o hb e=>eb b o hb e) f0 f1 f3 f4 f5⟩
 self:=λ_ _ _ _ _ st h=>wpAny_pyIter_listiter st h
theorem Zen(a it:Addr):Turn P w K tg (Itt K a) [it] it (λi h=>h.IsTupleIter it a i) where
 mem:=by simp
 obj:=λi h st b hb=>by
  let e:b=it:=by simpa using hb
  subst e;let⟨o,e,c,d⟩:=st;exact⟨o,e,λv z=>by rw[d]at z;cases z⟩
 keep:=λi h h' st k=>st.at λo e=>k it (by simp) o e
 item:=by
  intro X hP hw hK hc i pq s σ H E I hf st hg;subst hP hw hK;let⟨xs,x,hq,hx⟩:=hg;let⟨its,rv,p,hz⟩:=I.tuple hq;let⟨u,hu,ru⟩:=rv.get hx;let⟨f0,f1,f2,f3,f4,f5⟩:=hf it (by simp);refine Me st (show s.heap.IsTuple a its.toArray from p) (x:=u) (by simpa using hu) λh' st' sb=>?_;let I1:Inv X pq σ H {s with heap:=h'}:=I.turned (t':=s.toks) (λb o hb e=>(sb.2 b hb).trans e) f0 f1 f3 f4 f5;let⟨o,e,c,d⟩:=id st';exists u,rfl,Zk4 (s:={s with heap:=h'}) e c d nofun ⟨x,H,I1,ru,⟨rfl,λys hy=>by rw[I.tuple_inj hy hq];exact hx⟩,st',λb hb=>(hf b hb).1⟩
 done:=by
  intro X hP hw hK hc i pq s σ H E I hf st hg;subst hP hw hK;let⟨xs,hq,hx⟩:=hg;let⟨its,rv,p,hz⟩:=I.tuple hq;let⟨f0,f1,f2,f3,f4,f5⟩:=hf it (by simp);let hl:=rv.length;exact Ms (I.ok.hd hc) st (show s.heap.IsTuple a its.toArray from p) (by simp;lia) λh' eb=>⟨rfl,I.turned (t':=s.toks) (λb o hb e=>eb b o hb e) f0 f1 f3 f4 f5⟩
 self:=λ_ _ _ _ _ st h=>wpAny_pyIter_tupleiter st h
theorem Zeo(it:Addr)(lo:Int)(n:Nat):Turn P w K tg (Itr lo n) [it] it (λi h=>IsRangeIter h it (lo+(i:Nat)*1) ((n:Int)-(i:Nat)) 1) where
 mem:=by simp
 obj:=λi h st b hb=>by
  let e:b=it:=by simpa using hb
  subst e;exact⟨_,st,λv z=>by
   let z':Data.fields _=Data.cell v:=z;cases z'⟩
 keep:=λi h h' st k=>k it (by simp) _ st
 item:=by
  intro X hP hw hK hc i pq s σ H E I hf st hg;subst hP hw hK;let⟨f0,f1,f2,f3,f4,f5⟩:=hf it (by simp);let W:=Walks.range (prog:=X.prog) (w:=X.w) (I.ok.hd hc) it lo 1 n;refine W.item i s _ _ hg st λv h' tk hv st' kk=>?_;let⟨t,rfl⟩:=hv;let I1:Inv X pq σ H {s with heap:=h',toks:=tk}:=I.turned (λb o hb e=>kk b o (by simpa using hb) e) f0 f1 f3 f4 f5;exists ·,Zk4 (s:={s with heap:=h',toks:=tk}) (n:="range_iterator") st' rfl rfl nofun ⟨.int (lo+i),H,I1,⟨t,?_⟩,⟨rfl,rfl⟩,st',λb hb=>(hf b hb).1⟩;rw[Jgj]
 done:=by
  intro X hP hw hK hc i pq s σ H E I hf st hg;subst hP hw hK;let⟨f0,f1,f2,f3,f4,f5⟩:=hf it (by simp);exact wpAny_pyNext_range_end (I.ok.hd hc) st (by have:n<=i:=hg;lia) λh' eb=>⟨rfl,I.turned (t':=s.toks) (λb o hb e=>eb b o hb e) f0 f1 f3 f4 f5⟩
 self:=λ_ _ _ _ _ st h=>wpAny_pyIter_rangeiter st h
section
def Zsb(K:Ck)(tl:TE):TI:=λσ H R=>tl σ H λx H1=>∃a,x=.ref a/\(∃xs,SqL K H1 a xs)/\R (Itl K a) H1
def iTup(K:Ck)(tl:TE):TI:=λσ H R=>tl σ H λx H1=>∃a,x=.ref a/\(∃xs,SqT K H1 a xs)/\R (Itt K a) H1
def Yf{l:Expr}{tl:TE}(hl:PE X l tl):PI X tg l (Zsb X.K tl):=by
 intro pq s σ H R I h;refine thn (hl pq s σ H _ I h) λv s1 hz=>?_;let⟨x,H1,I1,r1,q1⟩:=hz;let⟨a,e,⟨xs,hq⟩,q⟩:=q1;subst e;cases r1;let⟨its,rv,p,hz⟩:=I1.list hq;refine Kj p.isList ?_;exists s1.heap.objs.size,[s1.heap.objs.size],_,_,H1,rfl,I1.kept (t':=s1.toks) λb o e=>Do _ e,Zfx a _,⟨_,Dp _ rfl,rfl,rfl⟩,λb hb=>?_,q;let e:b=s1.heap.objs.size:=by simpa using hb
 subst e;exact I1.fpOk (Jd _) (I1.hok.fresh (Jd _))
def Qz{l:Expr}{tl:TE}(hl:PE X l tl):PI X tg l (iTup X.K tl):=by
 intro pq s σ H R I h;refine thn (hl pq s σ H _ I h) λv s1 hz=>?_;let⟨x,H1,I1,r1,q1⟩:=hz;let⟨a,e,⟨xs,hq⟩,q⟩:=q1;subst e;cases r1;let⟨its,rv,p,hz⟩:=I1.tuple hq;refine Jc1 (show s1.heap.IsTuple a its.toArray from p) ?_;exists s1.heap.objs.size,[s1.heap.objs.size],_,_,H1,rfl,I1.kept (t':=s1.toks) λb o e=>Do _ e,Zen a _,⟨_,Dp _ rfl,rfl,rfl⟩,λb hb=>?_,q;let e:b=s1.heap.objs.size:=by simpa using hb
 subst e;exact I1.fpOk (Jd _) (I1.hok.fresh (Jd _))
theorem Zkc{R:It->Hp->Prop}{lo hi:Int}{t u v:Tok}{tk:Nat}(I:Inv X pq σ H s)(h1:-(2 ^ 62)<=lo)(h2:lo<2 ^ 62)(h3:-(2 ^ 62)<=hi)(h4:hi<2 ^ 62)(q:R (Itr lo (hi-lo).toNat) H):Cc (Cg X.prog X.w) X.A (pyIter (.ref s.heap.objs.size)) (PIE X pq σ tg R) E {s with heap:=s.heap.push {cls:=.type "range",data:=.fields #[.int lo t,.int hi u,.int 1 v]},toks:=tk}:=by
 refine wpAny_pyIter_range (IsRange.new ..) (small_one h1 h2 h3 h4) ?_;let I1:Inv X pq σ H {s with heap:=s.heap.push {cls:=.type "range",data:=.fields #[.int lo t,.int hi u,.int 1 v]},toks:=tk}:=I.kept λb o e=>Do _ e;refine⟨(s.heap.push {cls:=.type "range",data:=.fields #[.int lo t,.int hi u,.int 1 v]}).objs.size,[(s.heap.push {cls:=.type "range",data:=.fields #[.int lo t,.int hi u,.int 1 v]}).objs.size],_,_,H,rfl,
  I1.kept (t':=tk) λb o e=>Do _ e,Zeo _ lo (hi-lo).toNat,?_,λb hb=>?_,q⟩
 .let e1:lo+((0:Nat):Int)*1=lo:=by simp
  let e2:(((hi-lo).toNat:Nat):Int)-((0:Nat):Int)=Jfy lo hi 1:=by rw[rangeSize_one];split<;>lia
  show IsRangeIter _ _ (lo+((0:Nat):Int)*1) ((((hi-lo).toNat:Nat):Int)-((0:Nat):Int)) 1;rw[e1,e2];exact Dp _ rfl
 .let e:b=(s.heap.push {cls:=.type "range",data:=.fields #[.int lo t,.int hi u,.int 1 v]}).objs.size:=by simpa using hb
  subst e;exact I1.fpOk (Jd _) (I1.hok.fresh (Jd _))
def Zsa(ta:TA):TI:=λσ H R=>ta σ H λvs H1=>∃j:Int,vs=[.int j]/\-(2 ^ 62)<=j/\j<2 ^ 62/\R (Itr 0 j.toNat) H1
theorem Ys{a:Expr}{ta:TA}{p:Pos}(hg:Gl X "range")(hm:X.mg "range"=none)(ha:PA X [a] ta)(hs:Cn [a] X.env=[(false,eval a X.env)]:=by rfl):PI X tg (.Call (.Name "range" p) [a] [] pos) (Zsa ta):=by
 intro pq s σ H R I h;refine Call_ (Q4 I hg hm boot_range (Lc (thn (ha pos pq s σ H _ I h) λus s1 hz=>?_) hs rfl));let⟨vs,H1,I1,r1,q1⟩:=hz;let⟨j,e,q1,q2,q⟩:=q1;subst e;cases r1 with
 |cons r rr =>
  cases rr;let⟨t,rfl⟩:=r;exact call_range_1 (Zkc I1 () () q1 q2 (by simpa using q))
def tFor(wi:TI)(g:TG)(tb:TS):TS:=λD σ H=>wi σ H λJ H1=>∃W:Nat->Nat->St->Hp->Prop,(∃m,W 0 m σ H1)/\∀i m σ H,W i m σ H ->
 (J.stop i H/\D.nx σ H)\/(J.go i H/\∃N:St->Hp->Prop,(∀σ' H',N σ' H'->∃m',m'<m/\W (i+1) m' σ' H')/\∀x H',J.yld i H x H'->g x σ H' λσ2 H2=>tb {D with nx:=N,ct:=N,bk:=D.nx} σ2 H2)
def Zag(fp:List Addr)(h:Heap):List (Addr×Obj):=fp.filterMap λb=>(h.get? b).map λo=>(b,o)
def Uc{b:Addr}{o:Obj}(hb:b∈fp)(e:h.get? b=some o):(b,o)∈Zag fp h:=List.mem_filterMap.mpr ⟨b,hb,by rw[e];rfl⟩
theorem Zhj{p:Addr×Obj}(hp:p∈Zag fp h):p.1∈fp/\h.get? p.1=some p.2:=by
 let⟨b,hb,e⟩:=List.mem_filterMap.mp hp;cases q:h.get? b with
 |none=>rw[q]at e;cases e
 |some o =>
  rw[q]at e;let e':(b,o)=p:=Dw e;subst e';exists hb,q
def Inv.pinned(I:Inv X pq σ H s)(hf:∀b∈fp,FpOk X pq H b)(ho:∀b∈fp,∃o,s.heap.get? b=some o/\∀v,o.data≠.cell v):Inv X (pq++Zag fp s.heap) σ H s :=
 I.pins_of λp hp=>(Jw.mp hp).elim (λz=>I.pin p (Jm _ z)) λz=>by
  let⟨hb,e⟩:=Zhj z;let⟨f0,f1,f2,_⟩:=hf p.1 hb;let⟨o,e',d⟩:=ho p.1 hb;rw[e]at e';cases e';exists e,f0,f1,f2,d
def Inv.unpinned{pl:List (Addr×Obj)}(I:Inv X (pq++pl) σ H s):Inv X pq σ H s:=I.pins_of λp hp=>I.pin p (Jm _ (Gu _ hp))
def X6{iter:Expr}{body:List Stmt}{g:TG}{tb:TS}(hp:PassesOwn (Cg X.prog X.w) X.A X.env X.xe)(hc:X.calm=true)(hi:PI X tg iter wi)(hg:PG X tg g)(hb:PSs X body tb)(hs:∀x,L4 iter X.env x=pure x:=by intro _;rfl):PS X (.For tg iter body [] pos) (tFor wi g tb):=by
 intro pq s σ H D I h;refine wpAny_For (thn (hi pq s σ H _ I h) λv s1 h1=>thn h1 λitv s2 h2=>?_) hs;let⟨it,fp,tn,J,H2,e,I2,T,st2,f2,W,⟨m0,w0⟩,turn⟩:=h2;subst e;let stat:∀{H':Hp},(∀b∈fp,H' b=none)->∀b∈fp,FpOk X pq H' b:=λhn b hb=>⟨hn b hb,(f2 b hb).2⟩;refine codeAny_forLoop_any (λn s'=>∃i σ' H',Inv X pq σ' H' s'/\tn i s'.heap/\(∀b∈fp,H' b=none)/\W i n σ' H') ?_ m0 ⟨0,σ,H2,I2,st2,λb hb=>(f2 b hb).1,w0⟩;rintro n s3 ⟨i,σ3,H3,I3,st3,fr3,w3⟩;rcases turn i n σ3 H3 w3 with⟨stop,qn⟩|⟨go,N,hN,step⟩
 .refine Eo hp (thn (T.done X rfl rfl rfl hc i pq s3 σ3 H3 X.xe I3 (stat fr3) st3 stop) λr s4 hz=>?_);let⟨hr,I4⟩:=hz;subst hr;exact K8 ⟨σ3,H3,I4,qn⟩
 .refine Eo hp (thn (T.item X rfl rfl rfl hc i pq s3 σ3 H3 X.xe I3 (stat fr3) st3 go) λr s4 hz=>?_);let⟨u,hr,h4⟩:=hz;subst hr;refine Eo hp (thn h4 λ_ s5 hz=>?_);let⟨x,H5,I5,r5,y5,st5,fr5⟩:=hz;let I5':=I5.pinned (stat fr5) (T.obj _ _ st5);refine Eo hp (thn (hg _ s5 σ3 H5 x u _ I5' r5 (step x H5 y5)) λ_ s6 hz=>?_);let⟨σ6,H6,I6,q6⟩:=hz;refine Eo hp (thn (hb _ s6 σ6 H6 _ I6 q6) λf s7 q7=>?_);let again:∀{σ7:St}{H7:Hp},Inv X (pq++Zag fp s5.heap) σ7 H7 s7->N σ7 H7->∃m,m<n/\∃i σ' H',Inv X pq σ' H' s7/\tn i s7.heap/\(∀b∈fp,H' b=none)/\W i m σ' H':=λ{σ7 H7}I7 n7=>by
   let⟨m',hm,w7⟩:=hN σ7 H7 n7;exists m',hm,i+1,σ7,H7,I7.unpinned,T.keep _ _ _ st5 λb hb o e=>(I7.pin (b,o) (Jm _ (Jm _ (Uc hb e)))).1,λb hb=>?_,w7;let⟨o,e,d⟩:=T.obj _ _ st5 b hb;exact(I7.pin (b,o) (Jm _ (Jm _ (Uc hb e)))).2.1
  cases f with
  |next=>obtain⟨σ7,H7,I7,n7⟩:=q7;exact again I7 n7
  |cont=>obtain⟨σ7,H7,I7,n7⟩:=q7;exact again I7 n7
  |brk=>obtain⟨σ7,H7,I7,q7⟩:=q7;exists σ7,H7,I7.unpinned,q7
  |ret v=>obtain⟨x7,σ7,H7,I7,r7,q7⟩:=q7;exists x7,σ7,H7,I7.unpinned,r7,q7
end
theorem Zd5{a:Addr}{g:TG}{tb:TS}{D:Ends}(Pv:Nat->St->Hp->Prop)(h0:Pv 0 σ H)(hl:∀i σ H,i<=xs.length->Pv i σ H->SqL K H a xs)(hs:∀i x σ H,xs[i]?=some x->Pv i σ H->g x σ H λσ2 H2=>tb {D with nx:=Pv (i+1),ct:=Pv (i+1),bk:=D.nx} σ2 H2)(hd:∀σ H,Pv xs.length σ H->D.nx σ H) :
  ∃W:Nat->Nat->St->Hp->Prop,(∃m,W 0 m σ H)/\∀i m σ H,W i m σ H ->
   ((Itl K a).stop i H/\D.nx σ H)\/((Itl K a).go i H/\∃N:St->Hp->Prop,(∀σ' H',N σ' H'->∃m',m'<m/\W (i+1) m' σ' H')/\∀x H',(Itl K a).yld i H x H'->g x σ H' λσ2 H2=>tb {D with nx:=N,ct:=N,bk:=D.nx} σ2 H2):=by
 exists λi m σ H=>m=xs.length-i/\i<=xs.length/\Pv i σ H,⟨xs.length,by simp,Gc _,h0⟩,?_;rintro i m σ H ⟨rfl,hi,p⟩;let q:=hl i σ H hi p
 by_cases hlt:i<xs.length
 .refine .inr ⟨⟨xs,xs[i],q,by simp[hlt]⟩,Pv (i+1),λσ' H' p'=>⟨xs.length-(i+1),(),rfl,hlt,p'⟩,λx H' y=>?_⟩;let⟨e,y⟩:=y;subst e;exact hs i x σ _ (y xs q) p
 .let e:i=xs.length:=by lia
  subst e;exact .inl ⟨⟨xs,q,Jd _⟩,hd σ H p⟩
theorem R7{lo:Int}{n:Nat}{g:TG}{tb:TS}{D:Ends}(Pv:Nat->St->Hp->Prop)(h0:Pv 0 σ H)(hs:∀i σ H,i<n->Pv i σ H->g (.int (lo+i)) σ H λσ2 H2=>tb {D with nx:=Pv (i+1),ct:=Pv (i+1),bk:=D.nx} σ2 H2)(hd:∀σ H,Pv n σ H->D.nx σ H) :
  ∃W:Nat->Nat->St->Hp->Prop,(∃m,W 0 m σ H)/\∀i m σ H,W i m σ H ->
   ((Itr lo n).stop i H/\D.nx σ H)\/((Itr lo n).go i H/\∃N:St->Hp->Prop,(∀σ' H',N σ' H'->∃m',m'<m/\W (i+1) m' σ' H')/\∀x H',(Itr lo n).yld i H x H'->g x σ H' λσ2 H2=>tb {D with nx:=N,ct:=N,bk:=D.nx} σ2 H2):=by
 exists λi m σ H=>m=n-i/\i<=n/\Pv i σ H,⟨n,by simp,Gc _,h0⟩,?_;rintro i m σ H ⟨rfl,hi,p⟩
 by_cases hlt:i<n
 .refine .inr ⟨hlt,Pv (i+1),λσ' H' p'=>⟨n-(i+1),(),rfl,hlt,p'⟩,λx H' y=>?_⟩;let⟨e,y⟩:=y;subst e y;exact hs i σ _ hlt p
 .let e:i=n:=by lia
  subst e;exact .inl ⟨Jd _,hd σ H p⟩
abbrev R2:=V->V->Hp->VK->Prop
def OpR(X:Cx)(f:Value->Value->Sem Value)(r:R2):Prop :=
 ∀(pq:List (Addr×Obj))(s:Ca)(σ:St)(H:Hp)(x y:V)(v u:Value)(Q:VK),Inv X pq σ H s->RelV x v->RelV y u->r x y H Q ->
  Cc (Cg X.prog X.w) X.A (f v u) (EP X pq σ Q) X.xe s
def UnR(X:Cx)(f:Value->Sem Value)(r:V->Hp->VK->Prop):Prop :=
 ∀(pq:List (Addr×Obj))(s:Ca)(σ:St)(H:Hp)(x:V)(v:Value)(Q:VK),Inv X pq σ H s->RelV x v->r x H Q ->
  Cc (Cg X.prog X.w) X.A (f v) (EP X pq σ Q) X.xe s
def Wz(X:Cx)(f:Value)(r:List V->Hp->VK->Prop):Prop :=
 ∀(pq:List (Addr×Obj))(s:Ca)(σ:St)(H:Hp)(xs:List V)(us:List Value)(Q:VK),Inv X pq σ H s->Vals xs us->r xs H Q ->
  Cc (Cg X.prog X.w) X.A (call f us) (EP X pq σ Q) X.xe s
def tOp(r:R2)(ta tb:TE):TE:=λσ H Q=>ta σ H λx H1=>tb σ H1 λy H2=>r x y H2 Q
def tUn(r:V->Hp->VK->Prop)(ta:TE):TE:=λσ H Q=>ta σ H λx H1=>r x H1 Q
def rI(C:Int->Int->Prop)(g:Int->Int->V):R2:=λx y H Q=>∃i j,x=.int i/\y=.int j/\C i j/\Q (g i j) H
def rI0(g:Int->Int->V):R2:=λx y H Q=>∃i j,x=.int i/\y=.int j/\Q (g i j) H
def rU(g:Int->V):V->Hp->VK->Prop:=λx H Q=>∃i,x=.int i/\Q (g i) H
section
variable{a b:Expr} 
def binT(ha:PE X a ta)(hb:PE X b tb){R:V->V->Hp->Prop}(I:Inv X pq σ H s)(h:ta σ H λx H1=>tb σ H1 λy H2=>R x y H2){Q:Value->Ca->Prop}{f:Value->Value->Sem Value}(hf:∀v u s2 x y H2,Inv X pq σ H2 s2->RelV x v->RelV y u->R x y H2->Cc (Cg X.prog X.w) X.A (f v u) Q X.xe s2) :
  Cc (Cg X.prog X.w) X.A (eval a X.env) (λv s₁=>Cc (Cg X.prog X.w) X.A (eval b X.env) (λu s₂=>Cc (Cg X.prog X.w) X.A (f v u) Q X.xe s₂) X.xe s₁) X.xe s:=by
 refine thn (ha pq s σ H _ I h) λv s1 hz=>?_;let⟨x,H1,I1,r1,q1⟩:=hz;refine thn (hb pq s1 σ H1 _ I1 q1) λu s2 hz=>?_;let⟨y,H2,I2,r2,q2⟩:=hz;exact hf v u s2 x y H2 I2 r1 r2 q2
def Z5{op:Jfx}{r:R2}(ho:OpR X (Ew op) r)(ha:PE X a ta)(hb:PE X b tb):PE X (.BinOp a op b pos) (tOp r ta tb):=by
 intro pq s σ H Q I h;exact wpAny_BinOp (binT ha hb I h λv u s2 x y H2 I2 rx ry q=>ho pq s2 σ H2 x y v u Q I2 rx ry q)
def Zrh{op:UnaryOp}{r:V->Hp->VK->Prop}(ho:UnR X (unaryOp op) r)(ha:PE X a ta):PE X (.UnaryOp op a pos) (tUn r ta):=by
 intro pq s σ H Q I h;exact UnaryOp_ (thn (ha pq s σ H _ I h) λv s1⟨x,H1,I1,r1,q1⟩=>ho pq s1 σ H1 x v Q I1 r1 q1)
def opI{f:Value->Value->Sem Value}{C:Int->Int->Prop}{g:Int->Int->Int}(rule:∀(i j:Int)(t u:Tok)(s:Ca)(Q:Value->Ca->Prop)(E:Value->Ca->Prop),C i j->Q (.int (g i j) s.toks) {s with toks:=s.toks+1}->Cc (Cg X.prog X.w) X.A (f (.int i t) (.int j u)) Q E s) :
  OpR X f (rI C λi j=>.int (g i j)):=by
 intro pq s σ H x y v u Q I rx ry h;let⟨i,j,rfl,rfl,hc,q⟩:=h;let⟨t,rfl⟩:=rx;let⟨t',rfl⟩:=ry;exact rule i j t t' s _ _ hc ⟨.int (g i j),H,I.tok _,⟨_,rfl⟩,q⟩
def opI0{f:Value->Value->Sem Value}{g:Int->Int->Int}(rule:∀(i j:Int)(t u:Tok)(s:Ca)(Q:Value->Ca->Prop)(E:Value->Ca->Prop),Q (.int (g i j) s.toks) {s with toks:=s.toks+1}->Cc (Cg X.prog X.w) X.A (f (.int i t) (.int j u)) Q E s) :
  OpR X f (rI0 λi j=>.int (g i j)):=by
 intro pq s σ H x y v u Q I rx ry h;let⟨i,j,rfl,rfl,q⟩:=h;let⟨t,rfl⟩:=rx;let⟨t',rfl⟩:=ry;exact rule i j t t' s _ _ ⟨.int (g i j),H,I.tok _,⟨_,rfl⟩,q⟩
def opB0{f:Value->Value->Sem Value}{g:Int->Int->Bool}(rule:∀(i j:Int)(t u:Tok)(s:Ca)(Q:Value->Ca->Prop)(E:Value->Ca->Prop),Q (.bool (g i j)) s->Cc (Cg X.prog X.w) X.A (f (.int i t) (.int j u)) Q E s) :
  OpR X f (rI0 λi j=>.bl (g i j)):=by
 intro pq s σ H x y v u Q I rx ry h;let⟨i,j,rfl,rfl,q⟩:=h;let⟨t,rfl⟩:=rx;let⟨t',rfl⟩:=ry;exact rule i j t t' s _ _ ⟨.bl (g i j),H,I,rfl,q⟩
def CDiv(i j:Int):Prop:=0<j/\j<1073741824
def CPow(i j:Int):Prop:=0<=j/\j<=1000000/\i.natAbs<2 ^ 64
def CMul(i j:Int):Prop:=(-(2 ^ 64)<i/\i<2 ^ 64)\/(-(2 ^ 64)<j/\j<2 ^ 64)
def CMul.ok{i j:Int}(h:CMul i j):IntMulOk i j:=by
 rcases h with⟨h1,h2⟩|⟨h1,h2⟩
 .exact .of_left (intBits_le_64 h1 h2)
 .exact .of_right (intBits_le_64 h1 h2)
def Vt:OpR X (Ew .Add) (rI0 λi j=>.int (i+j)):=opI0 λ_ _ _ _ _ _ _ q=>add_int q
def Zdw:OpR X (Ew .Sub) (rI0 λi j=>.int (i-j)):=opI0 λ_ _ _ _ _ _ _ q=>sub_int q
def Sn:OpR X (Ew .Mult) (rI CMul λi j=>.int (i*j)):=opI λ_ _ _ _ _ _ _ hc q=>mul_int q hc.ok
theorem Zhg:OpR X (Ew .FloorDiv) (rI CDiv λi j=>.int (i / j)):=opI λi j _ _ _ _ _ hc q=>by
 let h1:(0:Int)<j:=hc.1;let h2:j<1073741824:=hc.2;exact floordiv_int () (by rw[Int.fdiv_eq_ediv_of_nonneg i ()];exact q) (.inl (PyProof.noPylong_small ()))
theorem We:OpR X (Ew .Mod) (rI (λ_ j=>0<j) λi j=>.int (i % j)):=opI λi j _ _ _ _ _ hc q=>by
 let h1:(0:Int)<j:=hc;exact mod_int' () (by rw[Int.fmod_eq_emod_of_nonneg i ()];exact q)
def Zhf:OpR X (Ew .Pow) (rI CPow λi j=>.int (i ^ j.toNat)):=opI λ_ _ _ _ _ _ _ hc q=>pow_int_small hc.1 hc.2.1 hc.2.2 q
def unI{f:Value->Sem Value}{g:Int->Int}(rule:∀(i:Int)(t:Tok)(s:Ca)(Q:Value->Ca->Prop)(E:Value->Ca->Prop),Q (.int (g i) s.toks) {s with toks:=s.toks+1}->Cc (Cg X.prog X.w) X.A (f (.int i t)) Q E s) :
  UnR X f (rU λi=>.int (g i)):=by
 intro pq s σ H x v Q I rx h;let⟨i,rfl,q⟩:=h;let⟨t,rfl⟩:=rx;exact rule i t s _ _ ⟨.int (g i),H,I.tok _,⟨_,rfl⟩,q⟩
def Zln:UnR X (unaryOp .USub) (rU λi=>.int (-i)):=unI λ_ _ _ _ _ q=>neg_int q
end
def scal:V->V->Bool
 |.non,.non=>true|.non,.int _=>true|.int _,.non=>true|.non,.bl _=>true|.bl _,.non=>true|.non,.str _=>true|.str _,.non=>true
 |.int _,.int _=>true|.bl _,.bl _=>true|.str _,.str _=>true|.byt _,.byt _=>true
 |.int _,.str _=>true|.str _,.int _=>true|.bl _,.str _=>true|.str _,.bl _=>true
 |_,_=>false
def rEq:R2:=λx y H Q=>scal x y=true/\Q (.bl (decide (x=y))) H
def rNe:R2:=λx y H Q=>scal x y=true/\Q (.bl (!decide (x=y))) H
def Zio{i j:Int}:decide (V.int i=V.int j)=(i==j):=by
 rw[Fz];simp
def Zmo{i j:Bool}:decide (V.bl i=V.bl j)=(i==j):=by
 rw[Fz];simp
def Zin{i j:Str}:decide (V.str i=V.str j)=(i==j):=by
 rw[Fz];simp
def Zip{i j:Array UInt8}:decide (V.byt i=V.byt j)=(i.toList==j.toList):=by
 rw[Fz];cases i;cases j;simp
section
variable{a b c:Expr} 
def Yk{k k':Bool}(I:Inv X pq σ H s)(q:Q (.bl k) H)(e:k=k'):EP X pq σ Q (.bool k') s:=by
 subst e;exists .bl k,H,I,rfl,q
theorem Zko:OpR X (C8 .Eq) rEq:=by
 intro pq s σ H x y v u Q I rx ry h;let⟨hs,q⟩:=h;cases x with
 |non =>
  cases rx;cases y with
  |non=>cases ry;exact Jev (Yk I q (by simp))
  |bl j=>cases ry;exact Jew (Yk I q (by simp))
  |int j=>obtain⟨t',rfl⟩:=ry;exact Je9 (Yk I q (by simp))
  |str j=>obtain⟨t',rfl⟩:=ry;exact Jfa (Yk I q (by simp))
  |_=>exact absurd (show false=true from hs) Jt
 |bl i =>
  cases rx;cases y with
  |non=>cases ry;exact Jex (Yk I q (by simp))
  |bl j=>cases ry;exact eq_bool (Yk I q Zmo)
  |str j=>obtain⟨t',rfl⟩:=ry;exact Jey (Yk I q (by simp))
  |_=>exact absurd (show false=true from hs) Jt
 |int i =>
  let⟨t,rfl⟩:=rx;cases y with
  |non=>cases ry;exact Jfb (Yk I q (by simp))
  |int j=>obtain⟨t',rfl⟩:=ry;exact eq_int (Yk I q Zio)
  |str j=>obtain⟨t',rfl⟩:=ry;exact Jfc (Yk I q (by simp))
  |_=>exact absurd (show false=true from hs) Jt
 |str i =>
  let⟨t,rfl⟩:=rx;cases y with
  |non=>cases ry;exact Jfd (Yk I q (by simp))
  |bl j=>cases ry;exact Jez (Yk I q (by simp))
  |int j=>obtain⟨t',rfl⟩:=ry;exact Jfe (Yk I q (by simp))
  |str j=>obtain⟨t',rfl⟩:=ry;exact eq_str (Yk I q Zin)
  |_=>exact absurd (show false=true from hs) Jt
 |byt i =>
  let⟨t,rfl⟩:=rx;cases y with
  |byt j=>obtain⟨t',rfl⟩:=ry;exact W.eq_bytes (Yk I q Zip)
  |_=>exact absurd (show false=true from hs) Jt
 |_=>cases y<;>exact absurd (show false=true from hs) Jt
theorem Zuf:OpR X (C8 .NotEq) rNe:=by
 intro pq s σ H x y v u Q I rx ry h;let⟨hs,q⟩:=h;cases x with
 |non =>
  cases rx;cases y with
  |non=>cases ry;exact Je0 (Yk I q (by simp))
  |bl j=>cases ry;exact Je1 (Yk I q (by simp))
  |int j=>obtain⟨t',rfl⟩:=ry;exact Jff (Yk I q (by simp))
  |str j=>obtain⟨t',rfl⟩:=ry;exact Jfg (Yk I q (by simp))
  |_=>exact absurd (show false=true from hs) Jt
 |bl i =>
  cases rx;cases y with
  |non=>cases ry;exact Je2 (Yk I q (by simp))
  |bl j=>cases ry;exact ne_bool (Yk I q (congrArg not Zmo))
  |str j=>obtain⟨t',rfl⟩:=ry;exact Je3 (Yk I q (by simp))
  |_=>exact absurd (show false=true from hs) Jt
 |int i =>
  let⟨t,rfl⟩:=rx;cases y with
  |non=>cases ry;exact Jfh (Yk I q (by simp))
  |int j=>obtain⟨t',rfl⟩:=ry;exact ne_int (Yk I q (congrArg not Zio))
  |str j=>obtain⟨t',rfl⟩:=ry;exact Jfi (Yk I q (by simp))
  |_=>exact absurd (show false=true from hs) Jt
 |str i =>
  let⟨t,rfl⟩:=rx;cases y with
  |non=>cases ry;exact Jfj (Yk I q (by simp))
  |bl j=>cases ry;exact Je4 (Yk I q (by simp))
  |int j=>obtain⟨t',rfl⟩:=ry;exact Jfk (Yk I q (by simp))
  |str j=>obtain⟨t',rfl⟩:=ry;exact ne_str (Yk I q (congrArg not Zin))
  |_=>exact absurd (show false=true from hs) Jt
 |byt i =>
  let⟨t,rfl⟩:=rx;cases y with
  |byt j=>obtain⟨t',rfl⟩:=ry;exact W.ne_bytes (Yk I q (congrArg not Zip))
  |_=>exact absurd (show false=true from hs) Jt
 |_=>cases y<;>exact absurd (show false=true from hs) Jt
def Zoh:OpR X (C8 .Lt) (rI0 λi j=>.bl (decide (i<j))):=opB0 λ_ _ _ _ _ _ _ q=>lt_int q
def Zoi:OpR X (C8 .LtE) (rI0 λi j=>.bl (decide (i<=j))):=opB0 λ_ _ _ _ _ _ _ q=>le_int q
def P1:OpR X (C8 .Gt) (rI0 λi j=>.bl (decide (j<i))):=opB0 λ_ _ _ _ _ _ _ q=>gt_int q
def Zug:OpR X (C8 .GtE) (rI0 λi j=>.bl (decide (j<=i))):=opB0 λ_ _ _ _ _ _ _ q=>ge_int q
def Yc(b:Expr){op:Jfv}(h:op≠.In:=by decide)(h2:op≠.NotIn:=by decide):Eu op b=false:=by
 let e1:(op==Jfv.In)=false:=by cases op<;>first|rfl|exact absurd rfl h
 let e2:(op==Jgi)=false:=by cases op<;>first|rfl|exact absurd rfl h2
 cases b<;>simp[Eu,e1,e2]
def Zof{op:Jfv}{r:R2}(ho:OpR X (C8 op) r)(ha:PE X a ta)(hb:PE X b tb)(hm:Eu op b=false):PE X (.Compare a [op] [b] pos) (tOp r ta tb):=by
 intro pq s σ H Q I h;exact wpAny_Compare1 (binT ha hb I h λv u s2 x y H2 I2 rx ry q=>ho pq s2 σ H2 x y v u Q I2 rx ry q) hm
def Zqe(t:TE):TT:=λσ H Q=>t σ H λx H'=>∃k,x=.bl k/\Q k H'
def Z4{op:Jfv}{r:R2}(ho:OpR X (C8 op) r)(ha:PE X a ta)(hb:PE X b tb)(hm:Eu op b=false):PT X (.Compare a [op] [b] pos) (Zqe (tOp r ta tb)):=by
 intro pq s σ H Q I h;refine Mz (thn (ha pq s σ H _ I h) λv s1⟨x,H1,I1,r1,q1⟩=>thn (hb pq s1 σ H1 _ I1 q1) λu s2 ⟨y,H2,I2,r2,q2⟩ =>
  thn (ho pq s2 σ H2 x y v u _ I2 r1 r2 q2) λc s3⟨z,H3,I3,r3,k,e,q3⟩=>?_) hm
 subst e;cases r3;exact Ee ⟨H3,I3,q3⟩
def Q3:(sizeLine:Nat)<2 ^ 63:=by rw[Cj];decide
def Zew:OpR X (Ew .Add) (λx y H Q=>∃i j,x=.str i/\y=.str j/\i.length+j.length<=sizeLine/\Q (.str (i++j)) H):=by
 intro pq s σ H x y v u Q I rx ry h;let⟨i,j,rfl,rfl,hz,q⟩:=h;let⟨t,rfl⟩:=rx;let⟨t',rfl⟩:=ry;exact add_str (λt' tk=>⟨.str (i++j),H,I.tok _,⟨_,rfl⟩,q⟩) hz
theorem Qj{x:V}(r:Vals [x] us):∃u,us=[u]/\RelV x u:=by
 cases r with
 |cons r1 r2=>cases r2;exists ·,r1
theorem Znd{x:V}(r:Vals [x,y] us):∃u w',us=[u,w']/\RelV x u/\RelV y w':=by
 cases r with
 |cons r1 r2 =>
  cases r2 with
  |cons r3 r4=>cases r4;exists _,·,r1,r3
def Zld:Wz X (.builtin "abs") (λxs H Q=>∃i,xs=[.int i]/\Q (.int (if i<0 then -i else i)) H):=by
 intro pq s σ H xs us Q I r h;let⟨i,rfl,q⟩:=h;let⟨u,rfl,t,rfl⟩:=Qj r;exact call_abs_int λu tk=>⟨.int (if i<0 then -i else i),H,I.tok _,⟨_,rfl⟩,q⟩
def Qd(hc:X.calm=true):Wz X (.builtin "max") (λxs H Q=>∃i j,xs=[.int i,.int j]/\Q (.int (if j > i then j else i)) H):=by
 intro pq s σ H xs us Q I r h;let⟨i,j,rfl,q⟩:=h;let⟨u,w',rfl,⟨t,rfl⟩,⟨t',rfl⟩⟩:=Znd r;refine max_two_ints (I.ok.hd hc) λh' tk k=>⟨_,H,I.kept k,?_,q⟩
 by_cases hj:j > i
 .rw[Dt hj,Dt hj];exists ·
 .rw[Ds hj,Ds hj];exists ·
def Za7(hc:X.calm=true):Wz X (.builtin "min") (λxs H Q=>∃i j,xs=[.int i,.int j]/\Q (.int (if j<i then j else i)) H):=by
 intro pq s σ H xs us Q I r h;let⟨i,j,rfl,q⟩:=h;let⟨u,w',rfl,⟨t,rfl⟩,⟨t',rfl⟩⟩:=Znd r;refine min_two_ints (I.ok.hd hc) λh' tk k=>⟨_,H,I.kept k,?_,q⟩
 by_cases hj:j<i
 .rw[Dt hj,Dt hj];exists ·
 .rw[Ds hj,Ds hj];exists ·
def LenV(K:Ck)(x:V)(H:Hp)(n:Nat):Prop :=
 match x with
 |.str y=>y.length<=sizeLine/\n=y.length
 |.byt y=>y.size<=sizeLine/\n=y.size
 |.ref p=>(∃xs,SqL K H p xs/\n=xs.length)\/∃xs,SqT K H p xs/\n=xs.length
 |_=>False
theorem Xd:Wz X (.builtin "len") (λxs H Q=>∃x n,xs=[x]/\LenV X.K x H n/\Q (.int n) H):=by
 intro pq s σ H xs us Q I r h;let⟨x,n,rfl,e,q⟩:=h;let⟨u,rfl,rx⟩:=Qj r;let hl:=Q3;let hs:sizeLine=16777216:=Cj;cases x with
 |str y =>
  let⟨t,rfl⟩:=rx;obtain⟨hy,e'⟩:y.length<=sizeLine/\n=y.length:=e;subst e';exact len_str () ⟨.int _,H,I.tok _,⟨_,rfl⟩,q⟩
 |byt y =>
  let⟨t,rfl⟩:=rx;obtain⟨hy,e'⟩:y.size<=sizeLine/\n=y.size:=e;subst e';exact W.len_bytes () ⟨.int _,H,I.tok _,⟨_,rfl⟩,q⟩
 |ref p =>
  cases rx;let e':(∃xs,SqL X.K H p xs/\n=xs.length)\/∃xs,SqT X.K H p xs/\n=xs.length:=e;rcases e' with⟨xs,hx,e'⟩|⟨xs,hx,e'⟩
  .subst e';let⟨its,r',pl,hz⟩:=I.list hx;let hlen:=r'.length;exact Calls.call_len_list pl.isList (by simp only[Jl];lia) ⟨.int xs.length,H,I.tok _,⟨_,by simp only[Jl];rw[hlen]⟩,q⟩
  .subst e';let⟨its,r',pl,hz⟩:=I.tuple hx;let hlen:=r'.length;exact len_tuple pl (by simp only[Jl];lia) ⟨.int xs.length,H,I.tok _,⟨_,by simp only[Jl];rw[hlen]⟩,q⟩
 |_=>exact(show False from e).elim
end
structure ObjM(h:Heap)(x dx C:Addr)(mA:Str->Option Value):Prop where
 obj:h.get? x=some (K7 C dx)
 ns:h.Ns1 dx mA
 ne:dx≠x
def Zhv{mA:Str->Option Value}(n:h.Ns1 dx mA):∃od,h.get? dx=some od/\∀name,Jfz name od=some (mA name):=by
 let⟨o,es,ep,ho,hd,hk,_,hm⟩:=n;exists o,ho,λname=>?_;let e:=hm name;unfold nsFind findBy at e;rw[<-Array.find?_toList]at e;unfold Jfz;rw[hd];dsimp only
 split
 .rename_i y q
  rw[q]at e;exact congrArg some e
 .rename_i q
  rw[q]at e;let a:es.toList.any (·.refKey)=false:=by
   rw[List.any_eq_false];intro y hy;let⟨z,t,hkey⟩:=hk y (Array.mem_toList_iff.mp hy);simp[DictEntry.refKey,hkey]
  let a':¬ es.toList.any (·.refKey)=true:=by rw[a];exact Jt
  rw[Ds a'];exact congrArg some e
def ObjM.look{x C:Addr}{mA:Str->Option Value}(I:ObjM h x dx C mA):∃od,W.InstAt h x (K7 C dx) C (some od)/\∀name,Jfz name od=some (mA name) :=
 let⟨od,ho,hl⟩:=Zhv I.ns
 ⟨od,⟨I.obj,rfl,rfl,ho⟩,hl⟩
section
variable{x C f:Addr}{mA:Str->Option Value}{name:Str}{v:Value}
def Zo6{expr:Bool}{Q:Value->Ca->Prop}(X:K.In s.heap)(I:ObjM s.heap x dx C mA)(hg:Jdj K C name=true)(hh:Jeg K C=true)(ha:Ef K (.ref C) name=some none)(hv:mA name=some v)(hv':W.handedIn v=true)(h:Q v {s with toks:=s.toks+1}) :
  Cc (Cg prog w) A (getAttr (.ref x) name expr) Q E s:=by
 let⟨od,J,hl⟩:=I.look;exact W.get_value X J (Jc2 hg).1 (W.findObj_own hh ha rfl (by rw[hl,hv])) hv' h
def Zk5{pl:Sem Bool}{Q:Value×List Value->Ca->Prop}(X:K.In s.heap)(I:ObjM s.heap x dx C mA)(hg:Jdj K C name=true)(hf:Ef K (.ref C) name=some (some (.ref f)))(ht:W.isFn K (.ref f)=true)(hv:mA name=none)(h:Q (.ref f,[.ref x]) s) :
  Cc (Cg prog w) A (M9 (.ref x) name pl) Q E s:=by
 let⟨od,J,hl⟩:=I.look;exact W.method_fn X J (Jc2 hg).1 (Jc2 hg).2 hf (beq_iff_eq.mp ht) (by show(Jfz name od).map (·.isSome)=some false;rw[hl,hv];rfl) h
theorem Znt{ns:List Str}{Q:Unit->Ca->Prop}(X:K.In s.heap)(I:ObjM s.heap x dx C mA)(hs:Ef K (.ref C) "__setattr__"=some (some (.builtin "object.__setattr__")))(hp:W.plainOver K C=true)(ht:Jgb K C name=some none)(hh:Jeg K C=true)(hw:Mx mA ns)(hsz:ns.length<=sizeLine)(h:∀h',ObjM h' x dx C (λy=>if y=name then some v else mA y)->E8 dx s.heap h'->Q ⟨⟩ {s with heap:=h',toks:=s.toks+2}) :
  Cc (Cg prog w) A (setAttr (.ref x) name v) Q E s:=by
 let⟨od,J,hl⟩:=I.look;refine W.set_plain X J hs (W.osa_open (s:={s with toks:=s.toks+1}) (r:=none) X J hp ht λb=>?_);let⟨cd,hc,hd'⟩:=W.any_some hh;let hx:s.heap.get? x=some ⟨.ref C,some dx,.plain,#[]⟩:=I.obj;refine Dm (Dn (Dm (Dm (wpAny_loadPart hx (Dm (W.Looks.here (s:={s with toks:=s.toks+1}) (W.looks_clsIn X hc) ?_))))));rw[hd'];refine Dn (a:=some dx) (Dm (Dn (Dm ?_)));refine wpAny_nsSet1 (s:={s with toks:=s.toks+1}) I.ns λh' hn2 hs2=>?_;let⟨oD,esD,epD,hoD,hdD,hcD⟩:=hn2.count (Jgx name v hw);refine Dm (wpAny_lookBehind hoD (by rw[hdD];exact pastItsLine_dict (J9 hcD (by rw[J0];lia))) ?_)
 exact Dn (h _ ⟨(hs2.2 _ (Et I.ne)).trans I.obj,hn2,I.ne⟩ hs2)
def Zks{R:Jgu->Ca->Prop}{vs:List Value}{kw:List (Str×Value)}(X:K.In s.heap)(hm:W.makesIn K C=true)(hi:Ef K (.ref C) "__init__"=some (some (.ref f)))(hf:W.typeIn K (.ref f)=some (.type "function"))(h:Ld (Cg prog w) (A.under (.builtin "type.__call__" ⟨.ref C::vs,kw⟩)) (.call (.ref f) ⟨.ref (s.heap.objs.size+1)::vs,kw⟩) (W.InitBack (s.heap.objs.size+1) R)
   {s with heap:=(s.heap.push W.emptyDict).push (K7 C s.heap.objs.size)}) :
  Ld (Cg prog w) A (.call (.ref C) ⟨vs,kw⟩) R s:=by
 let⟨hh,g,d,t,os⟩:=s;exact W.make_core (W.makes_of X hm) (W.looks_findIn X hi) (λself=>W.bind_fn X self hf) (.inl rfl) h
end
def putF(f:Str)(v:V):List (Str×V)->List (Str×V)
 |[]=>[(f,v)]
 |(g,x)::r=>if g=f then(g,v)::r else(g,x)::putF f v r
theorem Ro(f g:Str)(v:V):∀fs:List (Str×V),(putF f v fs).lookup g=if g=f then some v else fs.lookup g
 |[]=>by
  show Hq g [(f,v)]=_
  by_cases h:g=f
  .let hb:(g==f)=true:=beq_iff_eq.mpr h;simp only[Hq,hb,Dt h]
  .let hb:(g==f)=false:=beq_eq_false_iff_ne.mpr h;simp only[Hq,hb,Ds h]
 |(k,x)::r=>by
  let ih:=Ro f g v r;rw[show putF f v ((k,x)::r)=(if k=f then(k,v)::r else(k,x)::putF f v r)from rfl]
  by_cases hk:k=f
  .rw[Dt hk]
   by_cases h:g=k
   .let hb:(g==k)=true:=beq_iff_eq.mpr h;simp only[Hq,hb,Dt (h.trans hk)]
   .let hb:(g==k)=false:=beq_eq_false_iff_ne.mpr h;simp only[Hq,hb,Ds (λe:g=f=>h (e.trans hk.symm))]
  .rw[Ds hk]
   by_cases h:g=k
   .let hb:(g==k)=true:=beq_iff_eq.mpr h;simp only[Hq,hb,Ds (λe:g=f=>hk (h.symm.trans e))]
   .let hb:(g==k)=false:=beq_eq_false_iff_ne.mpr h;simp only[Hq,hb];exact ih
theorem Rr(f:Str)(v:V):∀fs:List (Str×V),f∈(putF f v fs).map (·.1)/\∀g,g∈fs.map (·.1)->g∈(putF f v fs).map (·.1)
 |[]=>⟨by simp[putF],λg h=>by simp at h⟩
 |(k,x)::r=>by
  let⟨i1,i2⟩:=Rr f v r;rw[show putF f v ((k,x)::r)=(if k=f then(k,v)::r else(k,x)::putF f v r)from rfl]
  by_cases hk:k=f
  .rw[Dt hk];subst hk;exact⟨by simp,λg h=>by simpa using h⟩
  .rw[Ds hk];exists ?_,λg h=>?_
   .rw[Jp];exact Jg _ i1
   .rw[Jp]at h⊢;rcases Gi.mp h with e|e
    .exact Gi.mpr (.inl e)
    .exact Jg _ (i2 g e)
theorem Rq(f:Str)(v:V):∀fs:List (Str×V),(putF f v fs).length<=fs.length+1
 |[]=>by simp[putF]
 |(k,x)::r=>by
  let ih:=Rq f v r;rw[show putF f v ((k,x)::r)=(if k=f then(k,v)::r else(k,x)::putF f v r)from rfl]
  by_cases hk:k=f
  .rw[Dt hk,J0,J0];lia
  .rw[Ds hk,J0,J0];lia
theorem RelO.some_of{v:V}{o:Option Value}(r:RelO (some v) o):∃u,o=some u/\RelV v u:=by
 cases o with
 |none=>exact(show False from r).elim
 |some u=>exact⟨u,rfl,r⟩
theorem RelO.none_of{o:Option Value}(r:RelO none o):o=none:=by
 cases o with
 |none=>rfl
 |some u=>exact(show False from r).elim
theorem Zic{v:V}{u:Value}(r:RelV v u):W.handedIn u=true:=by
 cases v with
 |non=>cases(show u=Value.none from r);rfl
 |bl b=>cases(show u=Hr b from r);rfl
 |int i=>obtain⟨t,e⟩:=(show ∃t,u=K6 i t from r);cases e;rfl
 |str x=>obtain⟨t,e⟩:=(show ∃t,u=Mw x t from r);cases e;rfl
 |byt b=>obtain⟨t,e⟩:=(show ∃t,u=Jgh b t from r);cases e;rfl
 |flt b=>obtain⟨t,e⟩:=(show ∃t,u=Jee b t from r);cases e;rfl
 |ref a=>cases(show u=Cb a from r);rfl
 |ty n=>cases(show u=Lx n from r);rfl
section
variable{a C:Addr}{fs:List (Str×V)}
def Ni(hok:HOk P w H h)(e:H a=some (.ins C dx fs)):∃mA,ObjM h a dx C mA/\(∀f,RelO (fs.lookup f) (mA f))/\Mx mA (fs.map (·.1))/\fs.length<=1000/\H dx=some (.own a):=by
 let⟨d,z,ne,ob,mA,n,r,q⟩:=(show Y6 P w H h a (.ins C dx fs)from hok a _ e);exists mA,⟨ob,n,ne⟩,r,q,z,d
end
structure Cls(K:Ck)(C:Addr):Prop where
 pg:Jdj K C Jc3=true
 hd:Jeg K C=true
 po:W.plainOver K C=true
 sa:Ef K (.ref C) "__setattr__"=some (some (.builtin "object.__setattr__"))
def Cls.get{C:Addr}(c:Cls K C)(f:Str):Jdj K C f=true:=c.pg
def Y9(K:Ck)(C:Addr)(f:Str):Prop:=Ef K (.ref C) f=some none
def Y9.taker{C:Addr}{f:Str}(n:Y9 K C f):Jgb K C f=some none:=by
 unfold Jgb;rw[show Ef K (.ref C) f=some none from n];rfl
structure Meth(K:Ck)(C:Addr)(m:Str)(f:Addr):Prop where
 at_:Ef K (.ref C) m=some (some (.ref f))
 fn:W.isFn K (.ref f)=true
 kp:Jb1 K (.ref f)=true
section
variable{a C:Addr}{fs:List (Str×V)}{f:Str}{v:V} 
def Ze6{b:Bool}{Q:Value->Ca->Prop}(I:Inv X pq σ H s)(e:H a=some (.ins C dx fs))(c:Cls X.K C)(n:Y9 X.K C f)(l:fs.lookup f=some v)(h:∀u s',Inv X pq σ H s'->RelV v u->Q u s'):Cc (Cg X.prog X.w) A (getAttr (.ref a) f b) Q E s:=by
 let⟨mA,O,r,_,_,_⟩:=Ni I.hok e;let⟨u,hu,ru⟩:=RelO.some_of (v:=v) (o:=mA f) (by rw[<-l];exact r f);exact Zo6 I.kIn O (c.get f) c.hd n hu (Zic ru) (h u _ (I.tok _) ru)
def Q8{m:Str}{g:Addr}{pl:Sem Bool}{Q:Value×List Value->Ca->Prop}(I:Inv X pq σ H s)(e:H a=some (.ins C dx fs))(c:Cls X.K C)(k:Meth X.K C m g)(l:fs.lookup m=none)(h:Q (.ref g,[.ref a]) s):Cc (Cg X.prog X.w) A (M9 (.ref a) m pl) Q E s:=by
 let⟨mA,O,r,_,_,_⟩:=Ni I.hok e;let hn:mA m=none:=RelO.none_of (by rw[<-l];exact r m);exact Zk5 I.kIn O (c.get m) k.at_ k.fn hn h
theorem Zet{u:Value}{Q:Unit->Ca->Prop}(I:Inv X pq σ H s)(e:H a=some (.ins C dx fs))(c:Cls X.K C)(n:Y9 X.K C f)(hl:fs.length<1000)(ry:RelV y u)(h:∀s',Inv X pq σ (upd H a (.ins C dx (putF f y fs))) s'->Q ⟨⟩ s'):Cc (Cg X.prog X.w) A (setAttr (.ref a) f u) Q E s:=by
 let⟨mA,O,r,wi,_,ho⟩:=Ni I.hok e;let hz:(fs.map (·.1)).length<=sizeLine:=by rw[Ja,Cj];lia
 refine Znt I.kIn O c.sa c.po n.taker c.hd wi hz λh' O' sb=>h _ ?_;let hd:∃o,h'.get? dx=some o:=let⟨o,_,_,e',_⟩:=O'.ns;⟨o,e'⟩
 refine I.write (x:=a) (e:=dx) (by rw[e];exact Ea) (.inr ho) (λb q hb z=>(sb.2 b hb).trans z) hd ?_;exists by rw[Zp O.ne];exact ho,?_,O.ne,O'.obj,_,O'.ns,λg=>?_,λg hg=>?_
 .let:=Rq f y fs;lia
 .show RelO ((putF f y fs).lookup g) (if g=f then some u else mA g);rw[Ro]
  by_cases q:g=f
  .rw[Dt q,Dt q];exact ry
  .rw[Ds q,Ds q];exact r g
 .by_cases q:g=f
  .rw[q];exact(Rr f y fs).1
  .refine(Rr f y fs).2 g (wi g λz=>hg ?_);show(if g=f then some u else mA g)=none;rw[Ds q];exact z
def Inv.made(I:Inv X pq σ H s):Inv X pq σ (upd (upd H s.heap.objs.size (.own (s.heap.objs.size+1))) (s.heap.objs.size+1) (.ins C s.heap.objs.size []))
  {s with heap:=(s.heap.push W.emptyDict).push (K7 C s.heap.objs.size)}:=by
 let e1:(s.heap.push W.emptyDict).get? s.heap.objs.size=some W.emptyDict:=Dp s.heap rfl;let e2:((s.heap.push W.emptyDict).push (K7 C s.heap.objs.size)).get? (s.heap.objs.size+1)=some (K7 C s.heap.objs.size):=by
  let:=Dp (s.heap.push W.emptyDict) (o:=K7 C s.heap.objs.size) rfl;rwa [Jb6]at this
 let e3:(s.heap.push W.emptyDict).Ns s.heap.objs.size (λ_=>none):=⟨W.emptyDict,#[],_,e1,rfl,(λe he=>absurd he (by simp)),λ_=>rfl⟩;let I1:=I.laid (a:=s.heap.objs.size) (o:=.own (s.heap.objs.size+1)) (h':=s.heap.push W.emptyDict) (t':=s.toks) (λb u q=>Do _ q) (Jd _) ⟨_,e1⟩;refine I1.laid (a:=s.heap.objs.size+1) (o:=.ins C s.heap.objs.size []) (t':=s.toks) (λb u q=>Do _ q) (F8 (Jb6 _ _)) ?_;let ne:s.heap.objs.size≠s.heap.objs.size+1:=Gj (Fo _);exists by rw[Zp ne,Zh],Gc _,ne,e2,λ_=>none,(Heap.Ns1.of_empty e3).at λo q=>Do _ q,λ_=>Ea,λy hy=>absurd rfl hy
def Zpo{env:Env}{e:Expr}{f:Str}{Q:Value->Ca->Prop}(hb:Hz e f env (eval e env)=eval e env)(h:Cc (Cg prog w) A (eval e env) (λo s₁=>Cc (Cg prog w) A (getAttr o f true) Q E s₁) E s):Cc (Cg prog w) A (eval (.Attribute e f pos) env) Q E s :=
 Attribute_any_ h (by rw[arm_eval_Attribute,hb])
end
def tFld(K:Ck)(ta:TE)(f:Str):TE:=λσ H Q=>ta σ H λx H1=>∃a C dx fs v,x=.ref a/\H1 a=some (.ins C dx fs)/\Cls K C/\Y9 K C f/\fs.lookup f=some v/\Q v H1
def sFld(K:Ck)(ta tv:TE)(f:Str):TS:=λD σ H=>tv σ H λy H1=>ta σ H1 λx H2=>∃a C dx fs,x=.ref a/\H2 a=some (.ins C dx fs)/\Cls K C/\Y9 K C f/\fs.length<1000 /\
 D.nx σ (upd H2 a (.ins C dx (putF f y fs)))
section
variable{o e:Expr}{f:Str}{tv:TE}
def Vg(he:PE X e ta)(hb:Hz e f X.env (eval e X.env)=eval e X.env):PE X (.Attribute e f pos) (tFld X.K ta f):=by
 intro pq s σ H Q I h;refine Zpo hb (thn (he pq s σ H _ I h) λu s1 hz=>?_);let⟨x,H1,I1,rx,a,C,dx,fs,v,ex,ea,c,n,l,q⟩:=hz;subst ex;obtain rfl:u=Cb a:=rx;exact Ze6 I1 ea c n l λu' s2 I2 ru=>⟨v,H1,I2,ru,q⟩
def Sm(ha:PE X o ta)(hv:PE X value tv)(hs:M7 value (some (.Attribute o f pos')) pos.line X.env=pure false):PS X (.Assign [.Attribute o f pos'] value pos) (sFld X.K ta tv f):=by
 intro pq s σ H D I h;refine plainObj_wpAny_Assign_Attribute (thn (hv pq s σ H _ I h) λu s1⟨y,H1,I1,ry,q⟩=>thn (ha pq s1 σ H1 _ I1 q) λov s2 hz=>?_) hs;let⟨x,H2,I2,rx,a,C,dx,fs,ex,ea,c,n,l,q2⟩:=hz;subst ex;obtain rfl:ov=Cb a:=rx;exact Zet I2 ea c n l ry λs3 I3=>⟨σ,_,I3,q2⟩
end
section
variable{Q:Value->Ca->Prop}{c:Value}{b:Bool}
inductive TyOf(K:Ck)(H:Hp):V->Value->Prop where
 |non:TyOf K H .non (.type "NoneType")
 |bl (x:Bool):TyOf K H (.bl x) (.type "bool")
 |int (i:Int):TyOf K H (.int i) (.type "int")
 |str (x:Str):TyOf K H (.str x) (.type "str")
 |flt (x:UInt64):TyOf K H (.flt x) (.type "float")
 |lst {a:Addr} {xs:List V} (e:H a=some (.lst xs)):TyOf K H (.ref a) (.type "list")
 |frz {a:Addr} {o:Obj} {xs:List V} (e:H a=some (.frz o (.lst xs))):TyOf K H (.ref a) (.type "list")
 |tup {a:Addr} {xs:List V} (e:H a=some (.tup xs)):TyOf K H (.ref a) (.type "tuple")
 |dK {a:Addr} {kvs:List (Key×V)} (e:H a=some (.dK kvs)):TyOf K H (.ref a) (.type "dict")
 |dT {a:Addr} {kvs:List (List Key×V)} (e:H a=some (.dT kvs)):TyOf K H (.ref a) (.type "dict")
 |ins {a C dx:Addr} {fs:List (Str×V)} (e:H a=some (.ins C dx fs)) (cl:Cls K C) (ha:Ef K (.ref C) "__class__"=some (some (.builtin "object.__class__")))
   (hn:W.specialIn K (.builtin "object.__class__") "__get__"=some (some (.builtin "getset_descriptor.__get__"))) (htk:W.takesIn K (.builtin "object.__class__")=some true)
   (hm:W.mroIn K C (.type "object")=some true):TyOf K H (.ref a) (.ref C)
theorem Zh7{x:V}{u t:Value}(I:Inv X pq σ H s)(rx:RelV x u)(ty:TyOf X.K H x t)(e:Jf0 X.K t c=some b)(h:∀tk,Q (.bool b) {s with toks:=tk}) :
  Cc (Cg X.prog X.w) A (call (.builtin "isinstance") [u,c]) Q E s:=by
 cases ty with
 |non=>cases(show u=Value.none from rx);exact Hl W.kitx_none I.kIn Ea e (λz=>nomatch z) h
 |bl y=>cases(show u=Hr y from rx);exact Hl W.kitx_bool I.kIn Ea e (λz=>nomatch z) h
 |int i=>obtain⟨t,q⟩:=(show ∃t,u=K6 i t from rx);cases q;exact Hl W.kitx_int I.kIn Ea e (λz=>nomatch z) h
 |str y=>obtain⟨t,q⟩:=(show ∃t,u=Mw y t from rx);cases q;exact Hl W.kitx_str I.kIn Ea e (λz=>nomatch z) h
 |flt y=>obtain⟨t,q⟩:=(show ∃t,u=Jee y t from rx);cases q;exact Hl W.kitx_float I.kIn Ea e (λz=>nomatch z) h
 | @lst a xs ea =>
  cases(show u=Cb a from rx);let⟨_,_,n,_,h1⟩:=(show Y6 X.prog X.w H s.heap a (.lst xs)from I.hok a _ ea);exact Hl W.kitx_list I.kIn ⟨_,h1,rfl⟩ e (λz=>nomatch z) h
 | @frz a ob xs ea =>
  cases(show u=Cb a from rx);let⟨_,_,_,n,_,h1⟩:=(show Y6 X.prog X.w H s.heap a (.frz ob (.lst xs))from I.hok a _ ea);exact Hl W.kitx_list I.kIn ⟨_,h1,rfl⟩ e (λz=>nomatch z) h
 | @tup a xs ea =>
  cases(show u=Cb a from rx);let⟨_,_,_,p⟩:=(show Y6 X.prog X.w H s.heap a (.tup xs)from I.hok a _ ea);let⟨o,h1,h2,_⟩:=p;exact Hl W.kitx_tuple I.kIn ⟨o,h1,h2⟩ e (λz=>nomatch z) h
 | @dK a kvs ea =>
  cases(show u=Cb a from rx);let⟨_,_,vs,_,p⟩:=(show Y6 X.prog X.w H s.heap a (.dK kvs)from I.hok a _ ea);let⟨o,es,ep,h1,h2,_⟩:=p;exact Hl W.kitx_dict I.kIn ⟨o,h1,h2.1⟩ e (λz=>nomatch z) h
 | @dT a kvs ea =>
  cases(show u=Cb a from rx);let⟨_,_,xs,_,o,es,ep,h1,h2,_⟩:=(show Y6 X.prog X.w H s.heap a (.dT kvs)from I.hok a _ ea);exact Hl W.kitx_dict I.kIn ⟨o,h1,h2.1⟩ e (λz=>nomatch z) h
 | @ins a C dx fs ea cl ha hn htk hm =>
  cases(show u=Cb a from rx);let⟨mA,O,_⟩:=Ni I.hok ea;let⟨od,J,_⟩:=O.look;exact Hl (W.kitx_own (cl.get _) cl.hd ha hn htk hm) I.kIn J e (λz=>nomatch z) h
end
structure Room(k:Nat)(A:Kf):Prop where
 hd:A.handled=none
 dp:A.depth+3*k+5<recursionLimit
 un:A.units+16*k+200<cLine
theorem Room.mono{k:Nat}(r:Room k A)(h:j<=k):Room j A:=⟨r.hd,by have:=r.dp;lia,by have:=r.un;lia⟩
theorem Room.deeper{k:Nat}(r:Room (k+1) A)(env:Env):Room k (A.deeper env) :=
 ⟨r.hd,by have:=r.dp;show A.depth+1+3*k+5<_;lia,by have:=r.un;show A.units+3+16*k+200<_;lia⟩
theorem Room.in1{k:Nat}(r:Room (k+1) A):Room k A.in1 :=
 ⟨r.hd,by have:=r.dp;show A.depth+3*k+5<_;lia,by have:=r.un;show A.units+1+16*k+200<_;lia⟩
def Ze2{C:Addr}{kw:List (Str×Value)}:(A.under (.builtin "type.__call__" ⟨.ref C::us,kw⟩)).depth=A.depth+1:=by
 first|rfl|simp[Jdy,Code.weight,Code.isCreation,Code.isGuard,Code.isCaller,Jgk,Jdz,guardIds]
def Ze1{C:Addr}{kw:List (Str×Value)}:(A.under (.builtin "type.__call__" ⟨.ref C::us,kw⟩)).units=A.units+1:=by
 first|rfl|simp[Jdy,Code.cUnits,Jgk,Jdz]
theorem Room.make{k:Nat}(r:Room (k+1) A)(C:Addr)(us:List Value)(kw:List (Str×Value)):Room k (A.under (.builtin "type.__call__" ⟨.ref C::us,kw⟩)) :=
 ⟨r.hd,by have:=r.dp;rw[Ze2];lia,by have:=r.un;rw[Ze1];lia⟩
theorem Room.depth{k:Nat}(r:Room k A):A.depth<recursionLimit:=by have:=r.dp;lia
theorem Room.units{k:Nat}(r:Room k A):A.units+64<cLine:=by have:=r.un;lia
def tNil:TA:=λ_ H Q=>Q [] H
def Zjv(ta:TE)(tr:TA):TA:=λσ H Q=>ta σ H λx H1=>tr σ H1 λxs H2=>Q (x::xs) H2
section
variable{e:Expr}{t:TA} 
def Zf:PA X [] tNil:=λ_ _ _ _ H Q I h=>L5 ⟨[],H,I,.nil,h⟩
def Za(ha:PE X e te)(hr:PA X es t)(hs:Cn (e::es) X.env=(false,eval e X.env)::Cn es X.env:=by rfl):PA X (e::es) (Zjv te t):=by
 intro pos pq s σ H Q I h;rw[hs];show Cc _ _ (spliced ((false,eval e X.env)::Hs pos (Cn es X.env))) _ _ s;refine Ka (thn (ha pq s σ H _ I h) λu s1 hz=>?_);let⟨x,H1,I1,r1,q1⟩:=hz;exact thn (hr pos pq s1 σ H1 _ I1 q1) λus s2⟨xs,H2,I2,r2,q2⟩=>⟨x::xs,H2,I2,.cons r1 r2,q2⟩
def tTup(t:TA):TE:=λσ H Q=>t σ H λxs H1=>xs.length<=sizeLine/\∀p,H1 p=none->Q (.ref p) (upd H1 p (.tup xs))
def tLst(t:TA):TE:=λσ H Q=>t σ H λxs H1=>xs.length<=sizeLine/\∀p,H1 p=none->Q (.ref p) (upd H1 p (.lst xs))
def Yz{x1}(h:PA X es t):PE X (.Tuple es x1 pos) (tTup t):=by
 intro pq s σ H Q I hq;refine wpAny_Tuple_spliced (thn (h pos pq s σ H _ I hq) λus s1⟨xs,H1,I1,r,z,q⟩=>⟨by rw[<-r.length];exact z,?_⟩);let hf:H1 s1.heap.objs.size=none:=I1.hok.fresh (Jd _);exists .ref s1.heap.objs.size,upd H1 s1.heap.objs.size (.tup xs),I1.laid (t':=s1.toks) (λb u e=>Do _ e) (Jd _) ?_,rfl,q _ hf;exists z,us,r,⟨_,Dp _ rfl,rfl,_,rfl,rfl⟩
def Y8(h:PA X es t):PE X (.List es pos) (tLst t):=by
 intro pq s σ H Q I hq;refine wpAny_List_spliced (thn (h pos pq s σ H _ I hq) λus s1⟨xs,H1,I1,r,z,q⟩=>⟨by rw[<-r.length];exact z,?_⟩);let hf:H1 s1.heap.objs.size=none:=I1.hok.fresh (Jd _);exists .ref s1.heap.objs.size,upd H1 s1.heap.objs.size (.lst xs),I1.laid (t':=s1.toks) (λb u e=>Do _ e) (Jd _) ?_,rfl,q _ hf;exists z,us,0,r,Dp _ rfl
end
abbrev Sp:=List V->Hp->VK->XK->Prop
abbrev CXT:=List Env->Hp->Ca->XK->Value->Ca->Prop
variable{CX:L2.CXT}
structure Env0(P:El)(w:Hd)(K:Ck)(mg:Str->Option Value)(base:Heap)(A:Kf)(outer:List Env)(s:Ca)(H:Hp):Prop where
 frames:A.frames=some outer
 mod:Mod K mg base
 bs:∀b o,base.get? b=some o->s.heap.get? b=some o/\H b=none
 bsz:base.objs.size<=s.heap.objs.size
 funs:s.heap.FunFrames base outer
 frf:∀b∈frs outer,H b=none
 hok:HOk P w H s.heap
 bare:My s.gens
def CE(outer:List Env)(P:El)(w:Hd)(H:Hp)(s:Ca)(Q:VK)(u:Value)(s':Ca):Prop :=
 ∃v H',s'.os=s.os/\My s'.gens/\Un (frs outer) [] H H' s.heap s'.heap/\HOk P w H' s'.heap/\RelV v u/\Q v H'
def CR(CX:CXT)(outer:List Env)(P:El)(w:Hd)(H:Hp)(s:Ca)(Q:VK)(E:XK)(r:Jgu)(s':Ca):Prop :=
 match r with
 |.ok (.ret u)=>CE outer P w H s Q u s'
 |.ok _=>False
 |.error e=>CX outer H s E e s'
structure FnOk(P:El)(w:Hd)(K:Ck)(mg:Str->Option Value)(base:Heap)(CX:CXT)(k:Nat)(f:Addr)(fd:Ln)(ps:List Str)(sp:Sp):Prop where
 len:∀vs H Q E,sp vs H Q E->vs.length=ps.length
 run:∀(A:Kf)(outer:List Env)(s:Ca)(H:Hp)(args:Args)(us:List Value)(vs:List V)(Q:VK)(E:XK),Room k A->Env0 P w K mg base A outer s H->Jdk s fd args (ps.zip us)->Vals vs us->sp vs H Q E ->
  Ld (Cg P w) A (.call (.ref f) args) (CR CX outer P w H s Q E) s
def FnOk.imp{base:Heap}{k:Nat}{f:Addr}{sp sp':Sp}(F:FnOk P w K mg base CX k f fd ps sp)(h:∀vs H Q E,sp' vs H Q E->sp vs H Q E):FnOk P w K mg base CX k f fd ps sp' :=
 ⟨λvs H Q E q=>F.len vs H Q E (h _ _ _ _ q),λA outer s H args us vs Q E hr he hb hv hs=>F.run A outer s H args us vs Q E hr he hb hv (h _ _ _ _ hs)⟩
def Env0.make{base:Heap}{outer:List Env}(e:Env0 P w K mg base A outer s H)(C:Addr)(us:List Value)(kw:List (Str×Value)) :
  Env0 P w K mg base (A.under (.builtin "type.__call__" ⟨.ref C::us,kw⟩)) outer s H:=⟨by first|exact e.frames|(simpa[Jdy,Code.envs,Jdz,pushEnvs]using e.frames),e.mod,e.bs,e.bsz,e.funs,e.frf,e.hok,e.bare⟩
def Env0.in1{base:Heap}{outer:List Env}(e:Env0 P w K mg base A outer s H) :
  Env0 P w K mg base A.in1 outer s H:=⟨e.frames,e.mod,e.bs,e.bsz,e.funs,e.frf,e.hok,e.bare⟩
section
variable{s':Ca}
def Inv.env0(I:Inv X pq σ H s):Env0 X.prog X.w X.K X.mg X.base X.A X.stack s H :=
 ⟨I.ok.frames,I.ok.mod,I.bs,J9 I.ok.bsz I.sz,I.stack,I.stkFree,I.hok,I.bare⟩
def Inv.after{u:Value}(I:Inv X pq σ H s)(h:CE X.stack X.prog X.w H s Q u s'):EP X pq σ Q u s':=by
 let⟨v,H',os,bare,un,hok,r,q⟩:=h;let⟨hh,g,d,t,os'⟩:=s';obtain rfl:os'=s.os:=os;exists v,H',I.call (h':=hh) (g':=g) (d':=d) (t':=t) (ch:=[]) un hok bare (λb z=>absurd z (by simp)),r,q
end
def Znl(sp:Sp)(dvs:List V)(E:XK)(t:TA):TE:=λσ H Q=>t σ H λvs H1=>sp (vs++dvs) H1 Q E
def Zer(C:Addr)(m:Str)(sp:Sp)(dvs:List V)(E:XK)(ta:TE)(t:TA):TE:=λσ H Q=>ta σ H λx H1=>∃a dx fs,x=.ref a/\H1 a=some (.ins C dx fs)/\fs.lookup m=none /\
 t σ H1 λvs H2=>sp (x::(vs++dvs)) H2 Q E
def Zju(C:Addr)(sp:Sp)(dvs:List V)(E:XK)(t:TA):TE:=λσ H Q=>t σ H λvs H1=>∀x dx,H1 x=none->H1 dx=none->dx≠x ->
 sp (.ref x::(vs++dvs)) (upd (upd H1 dx (.own x)) x (.ins C dx [])) (λv H2=>v=.non/\Q (.ref x) H2) E
def Si(K:Ck)(fd:Ln)(ps:List Str)(ds:List Value):Prop :=
 ∀(s:Ca)(us:List Value),K.In s.heap->(us++ds).length=ps.length->Jdk s fd ⟨us,[]⟩ (ps.zip (us++ds))
def Si.all(h:∀us:List Value,us.length=ps.length->Jc4 fd ⟨us,[]⟩=pure (ps.zip us)):Si K fd ps []:=λs us _ hl=>by
 rw[Gm]at hl⊢;exact .of_eq (h us hl)
def Qg(CX:CXT)(X:Cx)(E:XK):Prop:=∀(pq:List (Addr×Obj))(σ:St)(H:Hp)(s:Ca)(e:Value)(s':Ca),Inv X pq σ H s->CX X.stack H s E e s'->X.xe e s'
section
variable{k:Nat}{f C:Addr}{sp:Sp}{dvs:List V}{ds:List Value}{E:XK}{x m:Str}{p:Pos}{e o:Expr}{t:TA}
theorem Zgq(F:FnOk X.prog X.w X.K X.mg X.base CX k f fd ps sp)(hr:Room k X.A)(hb:Si X.K fd ps ds)(hd:Vals dvs ds)(hx:Qg CX X E)(I:Inv X pq σ H s)(r:Vals vs us)(h:sp (vs++dvs) H Q E):Cc (Cg X.prog X.w) X.A (call (.ref f) us) (EP X pq σ Q) X.xe s:=by
 let r2:Vals (vs++dvs) (us++ds):=r.append hd;let hl:(us++ds).length=ps.length:=by rw[<-r2.length];exact F.len _ _ _ _ h
 refine Jfl (Lp (F.run X.A X.stack s H ⟨us,[]⟩ (us++ds) (vs++dvs) Q E hr I.env0 (hb s us I.kIn hl) r2 h) λr s' hq=>?_);cases r with
 |error e=>exact hx pq σ H s e s' I hq
 |ok fl =>
  cases fl with
  |ret u=>exact I.after hq
  |next=>exact Cr hq
  |brk=>exact Cr hq
  |cont=>exact Cr hq
def Zog(F:FnOk X.prog X.w X.K X.mg X.base CX k f fd ps sp)(hr:Room k X.A)(hg:Gl X x)(hm:X.mg x=some (.ref f))(hk:Jb1 X.K (.ref f)=true)(hb:Si X.K fd ps ds)(hd:Vals dvs ds)(hx:Qg CX X E)(ha:PA X (e::es) t)(hdb:(x==("__debug__":Str))=false:=by decide)(he:Cn (e::es) X.env=(false,eval e X.env)::Cn es X.env:=by rfl)(hpl:(Hs pos (Cn es X.env)).any (·.1)=false:=by rfl) :
  PE X (.Call (.Name x p) (e::es) [] pos) (Znl sp dvs E t):=by
 intro pq s σ H Q I h;refine Ej (Zci I hg hm ?_ hdb);refine Jd0 (h₀:=X.base) I.ok.mod.kin hk (thn (ha pos pq s σ H _ I h) λus s1⟨vs,H1,I1,r,q⟩=>⟨I1.kIn,?_⟩) he hpl;exact Zgq F hr hb hd hx I1 r q
def Zod{pl:Sem Bool}(he:PE X o ta)(c:Cls X.K C)(hm:Meth X.K C m f)(F:FnOk X.prog X.w X.K X.mg X.base CX k f fd ps sp)(hr:Room k X.A)(hb:Si X.K fd ps ds)(hd:Vals dvs ds)(hx:Qg CX X E)(ha:PA X (e::es) t)(hst:Cn (e::es) X.env=(false,eval e X.env)::Cn es X.env:=by rfl)(hpl:(Hs pos (Cn es X.env)).any (·.1)=false:=by rfl)(ht:eval (.Call (.Attribute o m apos) (e::es) [] pos) X.env=(do
   let ov <-eval o X.env
   Jcv apos.atName
   let(f,first) <-Lv [ov] (M9 ov m pl)
   Jf1 pos f first (Hs pos (Cn (e::es) X.env)) (Lq pos (E9 [] X.env))):=by rfl) :
  PE X (.Call (.Attribute o m apos) (e::es) [] pos) (Zer C m sp dvs E ta t):=by
 intro pq s σ H Q I h;refine Jeh (pl:=pl) (thn (he pq s σ H _ I h) λu s1 hz=>?_) ht;let⟨x,H1,I1,rx,a,dx,fs,ex,ea,l,q⟩:=hz;subst ex;obtain rfl:u=Cb a:=rx;refine Q8 I1 ea c hm l ?_;refine Jd0 (first:=[.ref a]) (h₀:=X.base) I.ok.mod.kin hm.kp (thn (ha pos pq s1 σ H1 _ I1 q) λus s2⟨vs,H2,I2,r,q2⟩=>⟨I2.kIn,?_⟩) hst hpl;exact Zgq (us:=.ref a::us) (vs:=.ref a::vs) F hr hb hd hx I2 (.cons rfl r) q2
def Zkl{pl:Sem Bool}(he:PE X o ta)(c:Cls X.K C)(hm:Meth X.K C m f)(F:FnOk X.prog X.w X.K X.mg X.base CX k f fd ps sp)(hr:Room k X.A)(hb:Si X.K fd ps ds)(hd:Vals dvs ds)(hx:Qg CX X E)(ht:eval (.Call (.Attribute o m apos) [] [] pos) X.env=(do
   let ov <-eval o X.env
   Jcv apos.atName
   let(f,first) <-Lv [ov] (M9 ov m pl)
   Jf1 pos f first (Hs pos (Cn [] X.env)) (Lq pos (E9 [] X.env))):=by rfl) :
  PE X (.Call (.Attribute o m apos) [] [] pos) (Zer C m sp dvs E ta tNil):=by
 intro pq s σ H Q I h;refine Jeh (pl:=pl) (thn (he pq s σ H _ I h) λu s1 hz=>?_) ht;let⟨x,H1,I1,rx,a,dx,fs,ex,ea,l,q⟩:=hz;subst ex;obtain rfl:u=Cb a:=rx;refine Q8 I1 ea c hm l ?_;exact W.callWith_K0 (first:=[.ref a]) I1.kIn hm.kp (Zgq (us:=[.ref a]) (vs:=[.ref a]) F hr hb hd hx I1 (.cons rfl .nil) q)
structure Mk(K:Ck)(C f:Addr):Prop where
 makes:W.makesIn K C=true
 init:Ef K (.ref C) "__init__"=some (some (.ref f))
 fn:W.isFn K (.ref f)=true
 kp:Jb1 K (.ref C)=true
theorem Zj8(M:Mk X.K C f)(F:FnOk X.prog X.w X.K X.mg X.base CX k f fd ps sp)(hr:Room (k+1) X.A)(hb:Si X.K fd ps ds)(hd:Vals dvs ds)(hx:Qg CX X E)(I:Inv X pq σ H s)(r:Vals vs us)(h:∀x dx,H x=none->H dx=none->dx≠x->sp (.ref x::(vs++dvs)) (upd (upd H dx (.own x)) x (.ins C dx [])) (λv H2=>v=.non/\Q (.ref x) H2) E) :
  Cc (Cg X.prog X.w) X.A (call (.ref C) us) (EP X pq σ Q) X.xe s:=by
 let hq:=h (s.heap.objs.size+1) s.heap.objs.size (I.hok.fresh (Fu _)) (I.hok.fresh (Jd _)) (Gj (Fo _));let I2:=Inv.made (C:=C) I;let r2:Vals (V.ref (s.heap.objs.size+1)::(vs++dvs)) (Cb (s.heap.objs.size+1)::(us++ds)):=.cons rfl (r.append hd);let hl:(Cb (s.heap.objs.size+1)::us++ds).length=ps.length:=by
  let e:=r2.length;rw[F.len _ _ _ _ hq]at e;exact e.symm
 refine Jfl (Zks (f:=f) I.kIn M.makes M.init (beq_iff_eq.mp M.fn) (Lp (F.run _ X.stack _ _ ⟨Cb (s.heap.objs.size+1)::us,[]⟩ (Cb (s.heap.objs.size+1)::(us++ds)) _ _ E (hr.make C us [])
  (I2.env0.make C us []) (hb _ (Cb (s.heap.objs.size+1)::us) I2.kIn hl) r2 hq) λr s' hq'=>?_))
 cases r with
 |error e=>exact hx pq σ _ _ e s' I2 hq'
 |ok fl =>
  cases fl with
  |ret u =>
   let⟨v,H',I3,rv,ev,q3⟩:=I2.after hq';subst ev;exists rv,⟨V.ref (s.heap.objs.size+1),H',I3,rfl,q3⟩
  |next=>exact Cr hq'
  |brk=>exact Cr hq'
  |cont=>exact Cr hq'
def Zoe(M:Mk X.K C f)(F:FnOk X.prog X.w X.K X.mg X.base CX k f fd ps sp)(hr:Room (k+1) X.A)(hg:Gl X x)(hm:X.mg x=some (.ref C))(hb:Si X.K fd ps ds)(hd:Vals dvs ds)(hx:Qg CX X E)(ha:PA X (e::es) t)(hdb:(x==("__debug__":Str))=false:=by decide)(he:Cn (e::es) X.env=(false,eval e X.env)::Cn es X.env:=by rfl)(hpl:(Hs pos (Cn es X.env)).any (·.1)=false:=by rfl) :
  PE X (.Call (.Name x p) (e::es) [] pos) (Zju C sp dvs E t):=by
 intro pq s σ H Q I h;refine Ej (Zci I hg hm ?_ hdb);refine Jd0 (h₀:=X.base) I.ok.mod.kin M.kp (thn (ha pos pq s σ H _ I h) λus s1⟨vs,H1,I1,r,q⟩=>⟨I1.kIn,?_⟩) he hpl;exact Zj8 M F hr hb hd hx I1 r q
end
def PK(X:Cx)(kws:List Jcw)(t:TA):Prop :=
 ∀(pos:Pos)(pq:List (Addr×Obj))(s:Ca)(σ:St)(H:Hp)(Q:List V->Hp->Prop),Inv X pq σ H s->t σ H Q->Cc (Cg X.prog X.w) X.A (evalAll ((Lq pos (E9 kws X.env)).map (·.2))) (AP X pq σ Q) X.xe s
section
variable{x:Str}{kpos:Pos}{e:Expr}{kws:List Jcw}{t:TA}{nm:Option Str}
def Zrf:PK X [] tNil:=λ_ _ _ _ H Q I h=>wpAny_evalAll_nil ⟨[],H,I,.nil,h⟩
def Zoc(ha:PE X e te)(hr:PK X kws t):PK X (⟨nm,e,kpos⟩::kws) (Zjv te t):=by
 intro pos pq s σ H Q I h;show Cc _ _ (evalAll ((do let v <-eval e X.env;Jcv pos;pure v)::(Lq pos (E9 kws X.env)).map (·.2))) _ _ s;refine wpAny_evalAll_cons (Dm (thn (ha pq s σ H _ I h) λu s1⟨x,H1,I1,r1,q1⟩=>Dm (K2 (Dn ?_))));exact thn (hr pos pq s1 σ H1 _ I1 q1) λus s2⟨xs,H2,I2,r2,q2⟩=>⟨x::xs,H2,I2,.cons r1 r2,q2⟩
end
structure FnScope(N P:List Str)(sc:Scope):Prop where
 kind:sc.kind=.function
 co:sc.isCoroutine=false
 gen:sc.isGenerator=false
 nd:N.Nodup
 pre:N.take P.length=P
 par:∀x∈P,sc.names.lookup x=some .local\/sc.names.lookup x=some .cell
 nofree:∀y∈sc.names,y.2≠.free
theorem Zbb{kindOf:Str->Option Eh}{x:Str}:∀{binds:List (Str×Value)}{m:Str->Option Value},(∀v,(x,v)∉binds)->Jgl kindOf binds m x=m x
 |[],_,_=>rfl
 |(n,v)::r,m,h=>by
  unfold Jgl;rw[Zbb λw hw=>h w (Jg _ hw)]
  split
  .let:x≠n:=by rintro rfl;exact h v Ji
   simp[this]
  .rfl
theorem Zbd{kindOf:Str->Option Eh}{x:Str}:∀{binds:List (Str×Value)}{m:Str->Option Value},(∀v,(x,v)∉binds)->Jgm kindOf binds m x=m x
 |[],_,_=>rfl
 |(n,v)::r,m,h=>by
  unfold Jgm;rw[Zbd λw hw=>h w (Jg _ hw)]
  split
  .rfl
  .let:x≠n:=by rintro rfl;exact h v Ji
   simp[this]
theorem Zbc{kindOf:Str->Option Eh}{x:Str}{v:Value}:∀{P:List Str}{vs:List Value}{i:Nat}{m:Str->Option Value},P.Nodup->P[i]?=some x->vs[i]?=some v->kindOf x=some .local ->
  Jgl kindOf (P.zip vs) m x=some v
 |[],_,_,_,_,h,_,_=>by simp at h
 |_::_,[],_,_,_,_,h,_=>by simp at h
 |p::P,w::vs,0,m,nd,h1,h2,hk=>by
  simp at h1 h2;subst h1;subst h2;show Jgl kindOf ((p,w)::P.zip vs) m p=_;unfold Jgl;rw[Zbb λv hv=>(Fd.mp nd).1 (Ja0 hv).1,Dt hk];simp
 |p::P,w::vs,i+1,m,nd,h1,h2,hk=>by
  show Jgl kindOf ((p,w)::P.zip vs) m x=_;unfold Jgl;exact Zbc (i:=i) (Fd.mp nd).2 (by simpa using h1) (by simpa using h2) hk
theorem Zbe{kindOf:Str->Option Eh}{x:Str}{v:Value}:∀{P:List Str}{vs:List Value}{i:Nat}{m:Str->Option Value},P.Nodup->P[i]?=some x->vs[i]?=some v->kindOf x≠some .local ->
  Jgm kindOf (P.zip vs) m x=some v
 |[],_,_,_,_,h,_,_=>by simp at h
 |_::_,[],_,_,_,_,h,_=>by simp at h
 |p::P,w::vs,0,m,nd,h1,h2,hk=>by
  simp at h1 h2;subst h1;subst h2;show Jgm kindOf ((p,w)::P.zip vs) m p=_;unfold Jgm;rw[Zbd λv hv=>(Fd.mp nd).1 (Ja0 hv).1,Ds hk];simp
 |p::P,w::vs,i+1,m,nd,h1,h2,hk=>by
  show Jgm kindOf ((p,w)::P.zip vs) m x=_;unfold Jgm;exact Zbe (i:=i) (Fd.mp nd).2 (by simpa using h1) (by simpa using h2) hk
def Tb(N:List Str)(vs:List V):St:=vs.map some++Ci (N.length-vs.length) none
def cxOf(CX:CXT)(P:El)(w:Hd)(K:Ck)(mg:Str->Option Value)(base:Heap)(N:List Str)(qual:Str)(scope:Scope)(f:Addr)(cd:Value)(A:Kf)(outer:List Env)(s:Ca)(H:Hp)(E:XK):Cx where
 prog:=P
 w:=w
 K:=K
 mg:=mg
 base:=base
 A:=A.deeper (Lj qual scope s.heap.objs.size f cd)
 N:=N
 s₀:=s
 H₀:=H
 env:=Lj qual scope s.heap.objs.size f cd
 outer:=outer
 stack:=Lj qual scope s.heap.objs.size f cd::outer
 ex:=[]
 calm:=true
 fn:=λ_=>true
 pn:=[]
 xe:=λe s'=>Cc (Cg P w) (A.deeper (Lj qual scope s.heap.objs.size f cd)) (leaving (Lj qual scope s.heap.objs.size f cd) e) (λ_ s''=>CX outer H s E e s'') (λe' s''=>CX outer H s E e' s'') s'
def Zef{sc:Scope}{n:Nat}{x:Str}(h:sc.names.lookup x=some .cell):∃c,(Jgc n sc.names []).lookup x=some c:=by
 let q:=Jd7 sc.names n [] (.inl h);exact Option.isSome_iff_exists.mp q
theorem Zas{base:Heap}{scope:Scope}{f:Addr}{cd:Value}{outer:List Env}{s1:Ca}{E:XK}(S:FnScope N ps scope)(hd:A.handled=none)(e0:Env0 P w K mg base A outer s H)(hl:vs.length=ps.length)(r:Vals vs us)(x:InCallC s s.heap.objs.size (Jgl (Lj qual scope s.heap.objs.size f cd).kindOf (ps.zip us) λ_=>none) (Jgc (s.heap.objs.size+1) scope.names []) (Jgm (Lj qual scope s.heap.objs.size f cd).kindOf (ps.zip us) λ_=>none) s1) :
  Inv (cxOf CX P w K mg base N qual scope f cd A outer s H E) [] (Tb N vs) H s1:=by
 let hpl:ps.length<=N.length:=by have:=congrArg Ex S.pre;rw[Jv]at this;lia
 let⟨h1,tk,rfl,hk⟩:=x.done;let noA:∀b:Addr,b∉(cxOf CX P w K mg base N qual scope f cd A outer s H E).ex:=λb z=>absurd (show b∈([]:List Addr)from z) (by simp);refine⟨⟨e0.mod,S.kind,rfl,rfl,Jd _,λy z c h1 h2=>?_,λy hy=>?_,λy c _ h=>?_,λ_=>hd,Kf.frames_deeper e0.frames,.inr ⟨rfl,rfl⟩,λb z=>absurd z (noA b),e0.bs,e0.bsz,λb _ _=>noA b,λb z=>absurd z (noA b),e0.funs,e0.frf⟩,
  rfl,e0.bare,Un.kept hk,⟨_,x.toInCall.ns,λi y v h1 h2 h3=>?_⟩,λy c h=>⟨_,x.cell y c h⟩,e0.hok.fresh (Jd _),λy c h=>?_,λp hp=>absurd (show p∈([]:List (Addr×Obj))from hp) (by simp),e0.hok.kept hk,?_⟩
 .exact name_of_addr x.apart (Ey h1) (Ey h2)
 .let hy:scope.names.lookup y=some .cell\/scope.names.lookup y=some .free:=hy;rcases hy with hy|hy
  .exact Zef hy
  .exact absurd rfl (S.nofree _ (Ey hy))
 .exact Br (x.above y c (Ey h))
 .let hi:i<vs.length:=by
   unfold Tb at h2
   by_cases hi:i<vs.length
   .exact hi
   .rw[J8 (by simpa using hi)]at h2;rw[Mf]at h2
    split at h2<;>cases h2
  let ha:vs[i]?=some v:=by
   unfold Tb at h2;rw[Js (by simpa using hi),Ge]at h2;cases e:vs[i]? with
   |none=>rw[e]at h2;cases h2
   |some a=>rw[e]at h2;cases h2;rfl
  let⟨u,hu,rv⟩:=r.get ha;let hp:ps[i]?=some y:=by
   rw[<-S.pre,Ht ()];exact h1
  let ndP:ps.Nodup:=by rw[<-S.pre];exact S.nd.sublist (Bt _ _)
  exists u,rv,?_;rcases S.par y (Gx hp)with k|k
  .exact .inl ⟨k,Zbc ndP hp hu k⟩
  .let⟨c,e⟩:=Zef (n:=s.heap.objs.size+1) k;refine .inr ⟨.inl k,c,e,?_⟩;let q:=x.cell y c e;rw[Zbe ndP hp hu (by show scope.names.lookup y≠_;rw[k];decide)]at q;exact q
 .exact e0.hok.fresh (Br (x.above y c (Ey h)))
 .unfold Tb;show _=N.length;rw[Jc,Ja,List.length_replicate];lia
theorem Zse{base:Heap}{k:Nat}{f:Addr}{name:Str}{params:Arguments}{body:List Stmt}{scope:Scope}{dV kV doc cdv ct oc:Value}{an od:Option Addr}{osl:Array (Option Value)}{N ps:List Str}{sp:Sp}(lk:K.lookup f=some ⟨oc,od,.func (Jb7 name qual params body scope dV kV doc pm an cdv ct),osl⟩)(hcd:Jc5 K cdv qual=true)(S:FnScope N ps scope)(len:∀vs H Q E,sp vs H Q E->vs.length=ps.length)(hbody:∀(A:Kf)(outer:List Env)(s:Ca)(H:Hp)(vs:List V)(Q:VK)(E:XK),Room k (A.deeper (Lj qual scope s.heap.objs.size f cdv))->sp vs H Q E ->
   ∃t,PSs (cxOf CX P w K mg base N qual scope f cdv A outer s H E) body t/\t {nx:=λ_ H'=>Q .non H',rt:=Q} (Tb N vs) H) :
  FnOk P w K mg base CX (k+1) f (Jb7 name qual params body scope dV kV doc pm an cdv ct) ps sp:=by
 refine⟨len,λA outer s H args us vs Q E hr e0 hb r hsp=>?_⟩;let hl:=len _ _ _ _ hsp;let KX:K.In s.heap:=e0.mod.kin.keeps λb o e=>(e0.bs b o e).1;let lim:s.heap.NoLimit:=e0.mod.nolimit.keeps λb o e=>(e0.bs b o e).1;let hkind:∀y∈ps.zip us,scope.names.lookup y.1=some .local\/(scope.names.lookup y.1=some .cell/\((Jgc (s.heap.objs.size+1) scope.names []).lookup y.1).isSome=true):=λ⟨n,v⟩hy=>by
  rcases S.par n (Ja0 hy).1 with q|q
  .exact .inl q
  .exact .inr ⟨q,Jd7 _ _ _ (.inl q)⟩
 refine codeAny_call_function hr.depth (KX _ _ lk) rfl S.co S.gen rfl (W.codeRec_of KX hcd) (hb _ _ _ _ ?_);refine Lk S.kind hkind λenv he s1 x=>?_;subst he;refine⟨lim.keeps x.toInCall.keep,codeAny_func ?_⟩;let⟨t,ht,hq⟩:=hbody A outer s H vs Q E (hr.deeper _) hsp;let I:Inv (cxOf CX P w K mg base N qual scope f cdv A outer s H E) [] (Tb N vs) H s1:=Zas S hr.hd e0 hl r x;refine Dy (ht [] s1 (Tb N vs) H _ I hq) (λfl s' hs=>?_) λe s' hs=>hs;let fin:∀{σ':St}{H':Hp}{v:V}{u:Value},Inv (cxOf CX P w K mg base N qual scope f cdv A outer s H E) [] σ' H' s'->RelV v u->Q v H'->CE outer P w H s Q u s' :=
  λ{σ' H' v u}J rv q=>⟨v,H',J.os,J.bare,J.base,J.hok,rv,q⟩
 cases fl with
 |ret u =>
  let⟨v,σ',H',J,rv,q⟩:=hs;exact fin J rv q
 |next =>
  let⟨σ',H',J,q⟩:=hs;exact fin (v:=V.non) (u:=Value.none) J rfl q
 |brk =>
  let⟨_,_,_,q⟩:=hs;exact Cr q
 |cont =>
  let⟨_,_,_,q⟩:=hs;exact Cr q
section
variable{x:Str}{p:Pos}{e:Expr}{t:TA}{id T:String}{r:List V->Hp->VK->Prop}
def tCB(r:List V->Hp->VK->Prop)(t:TA):TE:=λσ H Q=>t σ H λvs H1=>r vs H1 Q
def Zr(hc:Wz X (.builtin id) r)(hg:Gl X x)(hm:X.mg x=none)(hv:Kr x=some (.builtin id))(ha:PA X (e::es) t)(hn:x≠"__name__":=by decide)(hdb:(x==("__debug__":Str))=false:=by decide)(he:Cn (e::es) X.env=(false,eval e X.env)::Cn es X.env:=by rfl)(hpl:(Hs pos (Cn es X.env)).any (·.1)=false:=by rfl):PE X (.Call (.Name x p) (e::es) [] pos) (tCB r t):=by
 intro pq s σ H Q I h;refine Ej (Q4 I hg hm hv ?_ hn hdb);exact Jd1 (thn (ha pos pq s σ H _ I h) λus s1⟨vs,H1,I1,r1,q1⟩=>hc pq s1 σ H1 vs us Q I1 r1 q1) he hpl
def Yt(hc:Wz X (.type T) r)(hg:Gl X x)(hm:X.mg x=none)(hv:Kr x=some (.type T))(ha:PA X (e::es) t)(hn:x≠"__name__":=by decide)(hdb:(x==("__debug__":Str))=false:=by decide)(he:Cn (e::es) X.env=(false,eval e X.env)::Cn es X.env:=by rfl)(hpl:(Hs pos (Cn es X.env)).any (·.1)=false:=by rfl):PE X (.Call (.Name x p) (e::es) [] pos) (tCB r t):=by
 intro pq s σ H Q I h;refine Ej (Q4 I hg hm hv ?_ hn hdb);exact Lc (thn (ha pos pq s σ H _ I h) λus s1⟨vs,H1,I1,r1,q1⟩=>hc pq s1 σ H1 vs us Q I1 r1 q1) he hpl
end
end L2
variable{H I H' I' H1:L2.Hp}{X:L2.Cx}{σ:L2.St}{vs xs ys:List L2.V}{Q:L2.VK}{y:L2.V}{te ta tb to:L2.TE}{kvs:List (List L2.Key×L2.V)}{wi:L2.TI}{CX:L2.CXT}
namespace HT
open PySem PyProof.Rows
def lexLt:List Int->List Int->Bool
 |[],[]=>false
 |[],_::_=>true
 |_::_,[]=>false
 |x::xs,y::ys=>if x=y then lexLt xs ys else decide (x<y)
def lexLt_cons(x y:Int)(xs ys:List Int):lexLt (x::xs) (y::ys)=if x=y then lexLt xs ys else decide (x<y):=rfl
def Na:lexLt [] []=false:=rfl
def Um(y:Int)(ys:List Int):lexLt [] (y::ys)=true:=rfl
def Wx(x:Int)(xs:List Int):lexLt (x::xs) []=false:=rfl
section
def cat_tup{t b:Addr}{vs ws:List Value}{Q:Value->Ca->Prop}(ht:IsTup s.heap t vs.toArray)(hb:IsTup s.heap b ws.toArray)(hv:vs≠[])(h1:ws=[]->Q (.ref t) s)(h2:ws≠[]->Q (.ref s.heap.objs.size) {s with heap:=s.heap.push {cls:=.type "tuple",data:=.seq (vs++ws).toArray} })(hsz:vs.length+ws.length<=sizeLine):Cc (Cg prog w) A (Ew .Add (.ref t) (.ref b)) Q E s:=by
 let⟨⟨cls,dd,data,sl⟩,ho,hc,n,hd⟩:=id ht;let⟨⟨cls2,dd2,data2,sl2⟩,ho2,hc2,n2,hd2⟩:=id hb;simp only at hc hd hc2 hd2;subst hc hd hc2 hd2;let e:vs.toArray++ws.toArray=(vs++ws).toArray:=by simp
 by_cases hw:ws=[]
 .exact concat_meets ⟨_,ho,rfl⟩ ⟨_,ho2,rfl⟩ Mn seq_tuple_add Kg Kb (Hu _ _)
   (tuple_addW1 t b vs.toArray ws.toArray n n2 dd dd2 sl sl2 (by simpa using hv) (by simp[hw])) ⟨ho,ho2,h1 hw⟩
 .refine concat_meets ⟨_,ho,rfl⟩ ⟨_,ho2,rfl⟩ Mn seq_tuple_add Kg Kb (Hu _ _)
   (tuple_addW2 t b vs.toArray ws.toArray n n2 dd dd2 sl sl2 (by simpa using hv) (by simpa using hw) (by rw[Jl,Jl];exact hsz)) ⟨ho,ho2,?_⟩
  rw[e];exact h2 hw
def sIx(n d:Nat):Option Int->Nat
 |none=>d
 |some v=>if v<0 then(v+(n:Int)).toNat else min v.toNat n
def sIx_none(n d:Nat):sIx n d none=d:=rfl
theorem sIx_nat(n d k:Nat):sIx n d (some (k:Int))=min k n:=by
 show(if(k:Int)<0 then((k:Int)+(n:Int)).toNat else min (k:Int).toNat n)=min k n;rw[Ds (),Gy]
theorem Zq4(n d:Nat)(hd:d<=n)(o:Option Int):sIx n d o<=n:=by
 cases o with
 |none=>exact hd
 |some v =>
  show(if v<0 then(v+(n:Int)).toNat else min v.toNat n)<=n
  by_cases hv:v<0
  .rw[Dt hv];lia
  .rw[Ds hv];exact Nat.min_le_right _ _
theorem Zi7(v:Int)(n d:Nat):(if v<0 then max (v+(n:Int)) 0 else min v (n:Int))=((sIx n d (some v):Nat):Int):=by
 show(if v<0 then max (v+(n:Int)) 0 else min v (n:Int))=(((if v<0 then(v+(n:Int)).toNat else min v.toNat n):Nat):Int)
 by_cases hv:v<0
 .simp only[Dt hv];lia
 .simp only[Ds hv];lia
theorem Zfh(lo hi:Option Int)(n:Nat):Hm lo hi 1 (n:Int)=(((sIx n 0 lo:Nat):Int),((sIx n n hi:Nat):Int)):=by
 let h1:¬ ((1:Int)<0):=by lia
 unfold Hm;simp only[h1,if_false];refine Prod.ext ?_ ?_
 .cases lo with
  |none=>rfl
  |some v=>exact Zi7 v n 0
 .cases hi with
  |none=>rfl
  |some v=>exact Zi7 v n n
theorem Zeu(i j:Nat):Em (i:Int) (j:Int) 1=j-i:=by
 unfold Em;let h1:(1:Int) > 0:=by lia
 simp only[h1,if_true,Int.ediv_one]
 split<;>lia
theorem Qw{v:Value}{o:Option Int}{Q:Option Int->Ca->Prop}(p:Jc6 v o)(h:Q o s):Cc (Cg prog w) A (Jed v) Q E s:=by
 cases p with
 |none=>exact slicePart_none h
 |int i t=>exact slicePart_int h
def sliceApplied_gen{sl:Addr}{vl vu:Value}{n:Nat}{Q:Int×Int×Nat->Ca->Prop}(hs:s.heap.IsSliceOf sl vl vu .none)(pl:Jc6 vl lo)(pu:Jc6 vu hi)(h:Q (((sIx n 0 lo:Nat):Int),1,sIx n n hi-sIx n 0 lo) s):Cc (Cg prog w) A (Ll (.ref sl) (pure (n:Int))) Q E s:=by
 let⟨os,hos,hcs,hds⟩:=id hs;unfold Ll Je5;refine Dm (Dm (Jei hos hds (x:=vl) rfl (Dm (Jei hos hds (x:=vu) rfl (Dm (Jei hos hds (x:=.none) rfl (Dn ?_)))))));refine Dm (slicePart_none ?_);show Cc _ _ (if((1:Int)==0)=true then _ else _) _ _ s;rw[Ds nofun];refine Dm (Qw pl (Dm (Qw pu (Dm (Dn ?_)))));show Cc _ _ (match Hm lo hi 1 (n:Int)with|(lo,hi)=>pure (lo,(1:Int),Em lo hi 1)) _ _ s;rw[Zfh lo hi n];show Cc _ _ (pure (((sIx n 0 lo:Nat):Int),(1:Int),Em ((sIx n 0 lo:Nat):Int) ((sIx n n hi:Nat):Int) 1)) _ _ s
 rw[Zeu];exact Dn h
theorem Zke(xs:Array Value)(i k:Nat):((Co k).filterMap λ(m:Nat)=>xs[((i:Int)+(m:Int)*1).toNat]?).toArray=((xs.toList.drop i).take k).toArray:=by
 let e:(λ(m:Nat)=>xs[((i:Int)+(m:Int)*1).toNat]?)=λm=>xs[i+m]?:=by
  funext m
  let:((i:Int)+(m:Int)*1).toNat=i+m:=by lia
  rw[this]
 rw[e];let:=pick_run xs i k;rw[List.filterMap_map]at this;let e2:((λx=>xs[x]?) ∘ λx=>i+x)=λm=>xs[i+m]?:=rfl;rw[e2]at this;rw[this]
theorem getItem_tuple_cut{t sl:Addr}{items:Array Value}{vl vu:Value}{Q:Value->Ca->Prop}(ht:IsTup s.heap t items)(hs:s.heap.IsSliceOf sl vl vu .none)(pl:Jc6 vl lo)(pu:Jc6 vu hi)(hw:¬ (sIx items.size 0 lo=0/\sIx items.size items.size hi=items.size))(h:Q (.ref s.heap.objs.size) {s with heap:=s.heap.push {cls:=.type "tuple",data:=.seq ((items.toList.drop (sIx items.size 0 lo)).take (sIx items.size items.size hi-sIx items.size 0 lo)).toArray} })(hsz:items.size<=sizeLine):Cc (Cg prog w) A (Kx (.ref t) (.ref sl)) Q E s:=by
 let htake:sizeOk (.seq ((items.toList.drop (sIx items.size 0 lo)).take (sIx items.size items.size hi-sIx items.size 0 lo)).toArray):=by
  show((items.toList.drop (sIx items.size 0 lo)).take (sIx items.size items.size hi-sIx items.size 0 lo)).toArray.size<=sizeLine;rw[Jl,Jv,Ga,Jj];lia
 let hj:sIx items.size items.size hi<=items.size:=Zq4 _ _ (Jd _) hi;let⟨os,hos,hcs,hds⟩:=id hs;let hTs:s.TypeIs (.ref sl) "slice":=⟨os,hos,hcs⟩;unfold Kx
 try with_reducible refine Cs ?_
 first|refine Dm (Dn ?_)|skip
 refine Dm (Jdl ht.typeIs nofun ?_);refine Dm (Ez (name:=C1 "__getitem__") ht.typeIs Cq
  (Cu Cq ht.typeIs Jcx ?_ (Jc7 _ _)))
 show Cc _ _ (Hh (.ref t) >>= _) _ _ s;refine Dm (tupleItemsOf_ ht ?_);refine Dm (Ks hTs ?_);rw[Dt nofun];refine Dm (sliceApplied_gen hs pl pu ?_);let hno:¬ ((((sIx items.size 0 lo:Nat):Int)==0&&(1:Int)==1&&(sIx items.size items.size hi-sIx items.size 0 lo)==items.size)=true):=by
  intro q;rw[By,By]at q;let q1:((sIx items.size 0 lo:Nat):Int)=0:=eq_of_beq q.1.1;let q2:sIx items.size items.size hi-sIx items.size 0 lo=items.size:=eq_of_beq q.2;exact hw ⟨(),()⟩
 show Cc _ _ (if(((sIx items.size 0 lo:Nat):Int)==0&&(1:Int)==1&&(sIx items.size items.size hi-sIx items.size 0 lo)==items.size)=true then _ else _) _ _ s;rw[Ds hno,Zke]
 first
  |exact Dm (m:=Ep _) (C6 (Dn ⟨_,rfl,Dn h⟩) htake)
  |exact Dm (m:=Ep _) (C6 (Dm (Dn (Dn ⟨_,rfl,Dn h⟩))) htake)
  |exact Dm (Dm (m:=Ep _) (C6 (Dn (Dn ⟨_,rfl,Dn h⟩)) htake))
  |exact Dm (Dm (m:=Ep _) (C6 (Dn ⟨_,rfl,Dn h⟩) htake))
end
end HT
namespace L2
open PySem PySem.Spec PyProof.Rows
abbrev TO:=St->Hp->(Option Int->Hp->Prop)->Prop
def PO(X:Cx)(e:Option Expr)(t:TO):Prop :=
 ∀(pq:List (Addr×Obj))(s:Ca)(σ:St)(H:Hp)(Q:Option Int->Hp->Prop),Inv X pq σ H s->t σ H Q ->
  Cc (Cg X.prog X.w) X.A (evalPart e X.env) (λu s'=>∃o H',Inv X pq σ H' s'/\Jc6 u o/\Q o H') X.xe s
def Zf0:TO:=λ_ H Q=>Q none H
def Zqg(t:TE):TO:=λσ H Q=>t σ H λx H1=>∃i,x=.int i/\Q (some i) H1
section
variable{e:Expr}{lo hi:Option Expr}{tl th:TO}{p2:Pos}
def Y3:PO X none Zf0:=by
 intro pq s σ H Q I h;rw[Jc8];exact Dn ⟨none,H,I,.none,h⟩
def Yl(h:PE X e te):PO X (some e) (Zqg te):=by
 intro pq s σ H Q I hw;rw[evalPart_some];refine thn (h pq s σ H _ I hw) λu s1 hz=>?_;let⟨x,H1,I1,r1,q1⟩:=hz;let⟨i,rfl,q⟩:=q1;let⟨t,rfl⟩:=r1;exists some i,H1,I1,.int i t,q
def SlR(X:Cx)(r:V->Option Int->Option Int->Hp->VK->Prop):Prop :=
 ∀(pq:List (Addr×Obj))(s:Ca)(σ:St)(H:Hp)(x:V)(v vl vu:Value)(lo hi:Option Int)(sl:Addr)(Q:VK),Inv X pq σ H s->RelV x v->s.heap.IsSliceOf sl vl vu .none->Jc6 vl lo->Jc6 vu hi->r x lo hi H Q ->
  ∃T id,Jdm (.type T) "__getitem__"=pure (some (.builtin id))/\s.TypeIs v T/\Cc (Cg X.prog X.w) X.A (Kx v (.ref sl)) (EP X pq σ Q) X.xe s
def tSl(r:V->Option Int->Option Int->Hp->VK->Prop)(te:TE)(tl th:TO):TE:=λσ H Q=>te σ H λx H1=>tl σ H1 λl H2=>th σ H2 λu H3=>r x l u H3 Q
def Yh{r:V->Option Int->Option Int->Hp->VK->Prop}(hr:SlR X r)(he:PE X e te)(hl:PO X lo tl)(hu:PO X hi th):PE X (.Subscript e (.Slice lo hi none p2) pos) (tSl r te tl th):=by
 intro pq s σ H Q I h;refine Jdn (thn (he pq s σ H _ I h) λv s1 hz=>?_);let⟨x,H1,I1,r1,q1⟩:=hz;refine wpAny_Slice (thn (hl pq s1 σ H1 _ I1 q1) λvl s2⟨l,H2,I2,pl,q2⟩=>thn (hu pq s2 σ H2 _ I2 q2) λvu s3 hz=>?_);let⟨u,H3,I3,pu,q3⟩:=hz;rw[Jc8];refine Dn ?_;let I4:Inv X pq σ H3 {s3 with heap:=s3.heap.push {cls:=.type "slice",data:=.fields #[vl,vu,.none]} }:=I3.kept (t':=s3.toks) λb ob q=>Do _ q;let⟨T,id,hT,ht,hg⟩:=hr pq {s3 with heap:=s3.heap.push {cls:=.type "slice",data:=.fields #[vl,vu,.none]} } σ H3 x v vl vu l u s3.heap.objs.size Q I4 r1 (Jc9 ..) pl pu q3
 show Cc (Cg X.prog X.w) X.A (Mg e (.Slice lo hi none p2) v (.ref s3.heap.objs.size)) (EP X pq σ Q) X.xe {s3 with heap:=s3.heap.push {cls:=.type "slice",data:=.fields #[vl,vu,.none]} };exact tail_any (ops:=[.ref s3.heap.objs.size,v]) ht hT hg (by with_unfolding_all rfl)
def cutV(xs:List V)(lo hi:Option Int):List V:=(xs.drop (HT.sIx xs.length 0 lo)).take (HT.sIx xs.length xs.length hi-HT.sIx xs.length 0 lo)
theorem U3(xs:List V)(lo hi:Option Int):(cutV xs lo hi).length<=xs.length:=by
 unfold cutV;rw[Jv,Ga];lia
def rSlT(K:Ck):V->Option Int->Option Int->Hp->VK->Prop:=λx lo hi H Q=>∃a xs,x=.ref a/\SqT K H a xs /\
 ¬ (HT.sIx xs.length 0 lo=0/\HT.sIx xs.length xs.length hi=xs.length)/\∀p,H p=none->Q (.ref p) (upd H p (.tup (cutV xs lo hi)))
def Zqr:SlR X (rSlT X.K):=by
 intro pq s σ H x v vl vu lo hi sl Q I rx hs pl pu h;let⟨a,xs,rfl,hx,hw,q⟩:=h;cases rx;let⟨its,r,ht,hz⟩:=I.tuple hx;let hlen:its.toArray.size=xs.length:=by rw[Jl];exact r.length.symm
 exists "tuple",_,Cq.lookup,ht.typeIs,?_;refine HT.getItem_tuple_cut ht hs pl pu (by rw[hlen];exact hw) ?_ (by rw[hlen];exact hz);rw[hlen];exists .ref s.heap.objs.size,_,I.laid (t':=s.toks) (o:=.tup (cutV xs lo hi)) (λb ob q=>Do _ q) (Jd _) ?_,rfl,q _ (I.hok.fresh (Jd _));exists J9 (U3 xs lo hi) hz,_,(r.drop (HT.sIx xs.length 0 lo)).take (HT.sIx xs.length xs.length hi-HT.sIx xs.length 0 lo),V1.new _ _
def Zn6(K:Ck):R2:=λx y H Q=>∃a b xs ys,x=.ref a/\y=.ref b/\SqT K H a xs/\SqT K H b ys/\xs≠[]/\xs.length+ys.length<=sizeLine /\
 (ys=[]->Q (.ref a) H)/\(ys≠[]->∀p,H p=none->Q (.ref p) (upd H p (.tup (xs++ys))))
theorem Vals.nil_iff(r:Vals xs us):us=[]↔xs=[]:=by
 cases r with
 |nil=>simp
 |cons _ _=>simp
def Zhh:OpR X (Ew .Add) (Zn6 X.K):=by
 intro pq s σ H x y v u Q I rx ry h;let⟨a,b,xs,ys,rfl,rfl,ha,hb,hx,hz,q1,q2⟩:=h;cases rx;cases ry;let⟨its,r1,p1,_⟩:=I.tuple ha;let⟨its2,r2,p2,_⟩:=I.tuple hb;refine HT.cat_tup p1 p2 (λz=>hx (r1.nil_iff.mp z)) (λz=>⟨.ref a,H,I,rfl,q1 (r2.nil_iff.mp z)⟩) (λz=>?_) (by rw[<-r1.length,<-r2.length];exact hz);exists .ref s.heap.objs.size,_,I.laid (t':=s.toks) (o:=.tup (xs++ys)) (λb ob q=>Do _ q) (Jd _) ?_,rfl,q2 (λw=>z (r2.nil_iff.mpr w)) _ (I.hok.fresh (Jd _));exists by rw[Jc];exact hz,_,r1.append r2,V1.new _ _
end
def ixN(n:Nat)(i:Int):Option Nat:=if 0<=i then(if i<n then some i.toNat else none)else if -(n:Int)<=i then some (i+n).toNat else none
def atI{α:Type}(xs:List α)(i:Int):Option α:=(ixN xs.length i).bind λj=>xs[j]?
theorem Zh4{n:Nat}{i:Int}(h:ixN n i=some j):seqIndex? i n=some j/\j<n/\-(n:Int)<=i/\i<n:=by
 unfold ixN at h
 by_cases h0:0<=i
 .rw[Dt h0]at h
  by_cases h1:i<n
  .rw[Dt h1]at h;let e:i.toNat=j:=Dw h;exists by rw[Jej h0 h1,e],(),(),h1
  .rw[Ds h1]at h;cases h
 .rw[Ds h0]at h
  by_cases h1:-(n:Int)<=i
  .rw[Dt h1]at h;let e:(i+n).toNat=j:=Dw h;exact⟨by rw[Jd2 () h1,e],(),h1,()⟩
  .rw[Ds h1]at h;cases h
theorem Zc0{α:Type}{xs:List α}{i:Int}{v:α}(h:atI xs i=some v):∃j,seqIndex? i xs.length=some j/\xs[j]?=some v/\j<xs.length/\-(xs.length:Int)<=i/\i<xs.length:=by
 unfold atI at h;cases e:ixN xs.length i with
 |none=>rw[e]at h;cases h
 |some j =>
  rw[e]at h;let⟨h1,h2,h3,h4⟩:=Zh4 e;exists j,h1,h,h2,h3,h4
theorem Zcz{α:Type}{xs:List α}{v:α}(h:xs[j]?=some v):atI xs (j:Int)=some v:=by
 let hj:j<xs.length:=(Je.mp h).1;let e:ixN xs.length (j:Int)=some j:=by
  unfold ixN;rw[Dt (),Dt ()];simp
 unfold atI;rw[e];exact h
def Zpw(b:Expr):Prop:=∀o i,Mh b false o i=Jgn [o,i] (Kx o i)
def IxR(X:Cx)(r:R2):Prop :=
 ∀(value slice:Expr)(pq:List (Addr×Obj))(s:Ca)(σ:St)(H:Hp)(x y:V)(v u:Value)(Q:VK),Inv X pq σ H s->RelV x v->RelV y u->r x y H Q ->
  Mh slice false v u=Jgn [v,u] (Kx v u)->Cc (Cg X.prog X.w) X.A (Mg value slice v u) (EP X pq σ Q) X.xe s
def MtR(X:Cx)(id:String)(r:V->List V->Hp->VK->Prop):Prop :=
 ∀(pq:List (Addr×Obj))(s:Ca)(σ:St)(H:Hp)(x:V)(xs:List V)(v:Value)(us:List Value)(Q:VK),Inv X pq σ H s->RelV x v->Vals xs us->r x xs H Q ->
  Cc (Cg X.prog X.w) X.A (call (.builtin id) (v::us)) (EP X pq σ Q) X.xe s
section
variable{a b:Expr} 
def IxR.or{r r':R2}(h:IxR X r)(h':IxR X r'):IxR X (λx y H Q=>r x y H Q\/r' x y H Q):=by
 intro value slice pq s σ H x y v u Q I rx ry q hs;rcases q with q|q
 .exact h value slice pq s σ H x y v u Q I rx ry q hs
 .exact h' value slice pq s σ H x y v u Q I rx ry q hs
def Z9{r:R2}(hr:IxR X r)(ha:PE X a ta)(hb:PE X b tb)(hs:Zpw b):PE X (.Subscript a b pos) (tOp r ta tb):=by
 intro pq s σ H Q I h;exact Jdn (binT ha hb I h λv u s2 x y H2 I2 rx ry q=>hr a b pq s2 σ H2 x y v u Q I2 rx ry q (hs _ _))
def rIxL(K:Ck):R2:=λx y H Q=>∃p xs i v,x=.ref p/\y=.int i/\SqL K H p xs/\atI xs i=some v/\Q v H
def rIxT(K:Ck):R2:=λx y H Q=>∃p xs i v,x=.ref p/\y=.int i/\SqT K H p xs/\atI xs i=some v/\Q v H
def rIxS:R2:=λx y H Q=>∃z i c,x=.str z/\y=.int i/\z.length<=sizeLine/\atI z.cps.toList i=some c/\Q (.str ⟨#[c]⟩) H
theorem Xf:IxR X (rIxL X.K):=by
 intro value slice pq s σ H x y v u Q I rx ry h hs;let⟨p,xs,i,z,rfl,rfl,hq,he,q⟩:=h;cases rx;let⟨t,rfl⟩:=ry;let⟨its,r,pl,hz⟩:=I.list hq;let⟨j,h1,h2,h3,h4,h5⟩:=Zc0 he;let⟨w,ew,rw'⟩:=r.get h2;let hl:=r.length;let hn:=Q3;let fin:EP X pq σ Q w s:=⟨z,H,I,rw',q⟩
 by_cases h0:0<=i
 .let hj:i.toNat=j:=by
   rw[Jej h0 h5]at h1;exact Dw h1
  exact item_listR pl.isList h0 () (by rw[hj];simpa using ew) fin hs
 .let hj:(i+(its.toArray.size:Int)).toNat=j:=by
   rw[Jd2 () h4]at h1;rw[Jl,<-hl];exact Dw h1
  exact Mt (x:=w) pl.isList.typeIs slot_list_getitem.lookup
   (wpAny_getItem_list_neg (Q:=λr s'=>r=w/\EP X pq σ Q r s') pl.isList () (by rw[Jl]<;>lia) () (by rw[hj];simpa using ew) ⟨rfl,fin⟩) hs
theorem Tq:IxR X (rIxT X.K):=by
 intro value slice pq s σ H x y v u Q I rx ry h hs;let⟨p,xs,i,z,rfl,rfl,hq,he,q⟩:=h;cases rx;let⟨t,rfl⟩:=ry;let⟨its,r,pl,hz⟩:=I.tuple hq;let⟨j,h1,h2,h3,h4,h5⟩:=Zc0 he;let⟨w,ew,rw'⟩:=r.get h2;let hl:=r.length;let hn:=Q3;let fin:EP X pq σ Q w s:=⟨z,H,I,rw',q⟩;exact Mt (x:=w) pl.typeIs slot_tuple_getitem.lookup
  (getItem_tuple (j:=j) (Q:=λr s'=>r=w/\EP X pq σ Q r s') pl () () (by rw[Jl,<-hl];exact h1) (by simpa using ew) ⟨rfl,fin⟩) hs
theorem Zr3:IxR X rIxS:=by
 intro value slice pq s σ H x y v u Q I rx ry h hs;let⟨z,i,c,rfl,rfl,hz,he,q⟩:=h;let⟨t,rfl⟩:=rx;let⟨t',rfl⟩:=ry;let⟨j,h1,h2,h3,h4,h5⟩:=Zc0 he;let hl:z.cps.toList.length=z.length:=by simp[Str.length]
 rw[hl]at h1 h4 h5;let hn:=Q3;exact tail_any (Jfm s z t) slot_str_getitem.lookup (getItem_str (c:=c) (by
  let e1:decide (i < -(2 ^ 63:Int))=false:=Dv ();let e2:decide (i≥2 ^ 63)=false:=Dv ();rw[e1,e2,Bool.or_false]) (by rw[h1];simpa using h2) ⟨.str ⟨#[c]⟩,H,I.tok _,⟨_,rfl⟩,q⟩) hs
def rIx(K:Ck):R2:=λx y H Q=>rIxL K x y H Q\/rIxT K x y H Q\/rIxS x y H Q
def Zr4:IxR X (rIx X.K):=Xf.or (Tq.or Zr3)
def Ze0(its:List Value)(n j:Nat)(u:Value):Ch (·.setIfInBounds j u) {cls:=.type "list",data:=.seq its.toArray n}={cls:=.type "list",data:=.seq (its.set j u).toArray n}:=by
 simp[Ch]
def Inv.lst{pq:List (Addr×Obj)}{σ:St}{H:Hp}{s:Ca}{p:Addr}{xs:List V}(I:Inv X pq σ H s)(h:H p=some (.lst xs)) :
  ∃(its:List Value)(n:Nat),Vals xs its/\s.heap.get? p=some {cls:=.type "list",data:=.seq its.toArray n}/\xs.length<=sizeLine:=by
 let⟨z,its,n,r,e⟩:=I.hok p _ h;exists its,n,r,e,z
def Inv.lstUpd{p:Addr}{its':List Value}{n n':Nat}{f:Obj->Obj}(I:Inv X pq σ H s)(h:H p=some (.lst xs))(ho:s.heap.get? p=some {cls:=.type "list",data:=.seq its.toArray n})(hf:f {cls:=.type "list",data:=.seq its.toArray n}={cls:=.type "list",data:=.seq its'.toArray n'})(r:Vals ys its')(hz:ys.length<=sizeLine)(t:Nat) :
  Inv X pq σ (upd H p (.lst ys)) {s with heap:=s.heap.update p f,toks:=t}:=by
 let e:(s.heap.update p f).get? p=some {cls:=.type "list",data:=.seq its'.toArray n'}:=by
  rw[Ja1 f ho (by rw[hf]<;>rfl),hf]
 refine I.write (x:=p) (e:=p) (by rw[h];trivial) (.inl rfl) (λb u hb q=>(Mu _ _ (Et hb)).trans q) ⟨_,e⟩ ?_;exists hz,its',n',r,e
def Zq9:V->V->V->Hp->(Hp->Prop)->Prop:=λo i v H Q=>∃p xs k j,o=.ref p/\i=.int k/\H p=some (.lst xs)/\ixN xs.length k=some j/\Q (upd H p (.lst (xs.set j v)))
theorem Te:PSet X Zq9:=by
 intro pq s σ H o i v ov iv u Q I ro ri rv h;let⟨p,xs,k,j,rfl,rfl,hp,hj,q⟩:=h;cases ro;let⟨t,rfl⟩:=ri;let⟨its,n,r,ho,hz⟩:=I.lst hp;let⟨h1,h2,h3,h4⟩:=Zh4 hj;let hl:=r.length;let hn:=Q3;let I':Inv X pq σ (upd H p (.lst (xs.set j v))) {s with heap:=s.heap.update p (Ch (·.setIfInBounds j u))} :=
  I.lstUpd hp ho (Ze0 its n j u) (r.set rv j) (by rw[Bk];exact hz) s.toks
 by_cases h0:0<=k
 .let hk:k.toNat=j:=by
   rw[Jej h0 h4]at h1;exact Dw h1
  exact W.ki_setAt ho h0 () (by rw[Jl,<-hl];exact h4) (by rw[hk];exact⟨_,I',q⟩)
 .let hk:(k+(its.toArray.size:Int)).toNat=j:=by
   rw[Jd2 () h3]at h1;rw[Jl,<-hl];exact Dw h1
  exact W.ki_setBack ho () (by rw[Jl,<-hl];exact h3) () (by rw[hk];exact⟨_,I',q⟩)
theorem N8(lo hi:Option Int)(n:Nat):(Kl lo hi none n).1=((HT.sIx n 0 lo:Nat):Int)/\(Kl lo hi none n).2.1=((HT.sIx n n hi:Nat):Int)/\(Kl lo hi none n).2.2=1:=by
 exists ?_,?_,rfl
 .cases lo with
  |none=>simp[Kl,HT.sIx]
  |some i =>
   simp only[Kl,HT.sIx,Jd8,show(1:Int) > 0 by decide,if_true]
   by_cases h:i<0
   .simp only[h,if_true]<;>lia
   .simp only[h,if_false]<;>lia
 .cases hi with
  |none=>simp[Kl,HT.sIx]
  |some i =>
   simp only[Kl,HT.sIx,Jd8,show(1:Int) > 0 by decide,if_true]
   by_cases h:i<0
   .simp only[h,if_true]<;>lia
   .simp only[h,if_false]<;>lia
def Pp(its:List Value)(lo hi:Option Int):slicePick its.toArray lo hi none=((its.drop (HT.sIx its.length 0 lo)).take (HT.sIx its.length its.length hi-HT.sIx its.length 0 lo)).toArray:=by
 let⟨h1,h2,h3⟩:=N8 lo hi its.toArray.size;unfold slicePick;rw[h1,h2,h3];simp only[sliceRange_one,pick_run,Jl]<;>rfl
def rSlL(K:Ck):V->Option Int->Option Int->Hp->VK->Prop:=λx lo hi H Q=>∃a xs,x=.ref a/\SqL K H a xs/\∀p,H p=none->Q (.ref p) (upd H p (.lst (cutV xs lo hi)))
theorem Ut:SlR X (rSlL X.K):=by
 intro pq s σ H x v vl vu lo hi sl Q I rx hs pl pu h;let⟨a,xs,rfl,hx,q⟩:=h;cases rx;let⟨its,r,ht,hz⟩:=I.list hx;let hlen:=r.length;refine⟨"list",_,slot_list_getitem.lookup,ht.isList.typeIs,?_⟩;refine L6 ht.isList hs pl pu .none (by simp) ?_ (by rw[Jl]<;>lia);rw[Pp,<-hlen];refine⟨.ref s.heap.objs.size,_,I.laid (t':=s.toks) (o:=.lst (cutV xs lo hi)) (λb ob q=>Do _ q) (Jd _) ?_,rfl,q _ (I.hok.fresh (Jd _))⟩;exact⟨J9 (U3 xs lo hi) hz,_,0,(r.drop (HT.sIx xs.length 0 lo)).take (HT.sIx xs.length xs.length hi-HT.sIx xs.length 0 lo),Dp _ rfl⟩
theorem Za8:Wz X (.type "list") (λxs H Q=>∃p ys,xs=[.ref p]/\(SqL X.K H p ys\/SqT X.K H p ys)/\∀l,H l=none->Q (.ref l) (upd H l (.lst ys))):=by
 intro pq s σ H xs us Q I r h;let⟨p,ys,rfl,hq,q⟩:=h;let⟨u,rfl,rx⟩:=Qj r;cases rx;let fin:∀(its:List Value),Vals ys its->ys.length<=sizeLine->∀(h':Heap)(c':Nat),(∀b o',s.heap.get? b=some o'->h'.get? b=some o') ->
   h'.get? s.heap.objs.size=some {cls:=.type "list",dict:=none,data:=.seq its.toArray c',slots:=#[]}->EP X pq σ Q (.ref s.heap.objs.size) {s with heap:=h'}:=λits r' hz h' c' kp e =>
  ⟨.ref s.heap.objs.size,_,I.laid (t':=s.toks) kp (Jd _) (show Y6 X.prog X.w _ h' _ (.lst ys)from⟨hz,its,c',r',e⟩),rfl,q _ (I.hok.fresh (Jd _))⟩
 rcases hq with hq|hq
 .let⟨its,r',pl,hz⟩:=I.list hq;let hlen:=r'.length;let⟨o,ho,hc,n,hd⟩:=pl.isList;exact call_list_seq p (.inl rfl) ho hc hd (λh' c' kp e=>fin its r' hz h' c' kp e) (by simp only[Jl]<;>lia)
 .let⟨its,r',pl,hz⟩:=I.tuple hq;let hlen:=r'.length;let⟨o,ho,hc,n,hd⟩:=pl;exact call_list_seq p (.inr rfl) ho hc hd (λh' c' kp e=>fin its r' hz h' c' kp e) (by simp only[Jl]<;>lia)
theorem Wb:Wz X (.type "tuple") (λxs H Q=>∃p ys,xs=[.ref p]/\((SqL X.K H p ys/\∀l,H l=none->Q (.ref l) (upd H l (.tup ys)))\/(SqT X.K H p ys/\Q (.ref p) H))):=by
 intro pq s σ H xs us Q I r h;let⟨p,ys,rfl,h⟩:=h;let⟨u,rfl,rx⟩:=Qj r;cases rx;rcases h with⟨hq,q⟩|⟨hq,q⟩
 .let⟨its,r',pl,hz⟩:=I.list hq;let hlen:=r'.length;refine call_tuple_list pl.isList (λh' kp=>?_) (by simp only[Jl]<;>lia);let I1:Inv X pq σ H {s with heap:=h'}:=I.kept (t':=s.toks) kp;let I2:Inv X pq σ (upd H h'.objs.size (.tup ys)) {s with heap:=h'.push {cls:=.type "tuple",data:=.seq its.toArray} } :=
   I1.laid (t':=s.toks) (λb o e=>Do _ e) (Jd _) (show Y6 X.prog X.w _ _ _ (.tup ys)from⟨hz,its,r',V1.new _ _⟩)
  exists .ref h'.objs.size,_,I2,rfl,q _ (I1.hok.fresh (Jd _))
 .let⟨its,r',pl,hz⟩:=I.tuple hq;exact call_tuple_same pl ⟨.ref p,H,I,rfl,q⟩
def tyV(K:Ck)(T:String)(x:V)(H:Hp):Prop:=match x with
 |.str _=>T="str"
 |.int _=>T="int"
 |.ref p=>(T="list"/\∃xs,SqL K H p xs)\/(T="tuple"/\∃o,K.lookup p=some o/\o.cls=.type "tuple"/\o.dict=none) \/
   (T="dict"/\((∃kvs,H p=some (.dK kvs))\/∃kvs,H p=some (.dT kvs)))\/(T="set"/\∃S n,H p=some (.set S n))
 |_=>False
theorem Zlp{T:String}{x:V}{v:Value}(I:Inv X pq σ H s)(r:RelV x v)(ty:tyV X.K T x H) :
  s.TypeIs v T/\∀a,v=.ref a->∃ob,s.heap.get? a=some ob/\ob.dict=none:=by
 cases x with
 |str z =>
  let⟨t,rfl⟩:=r;cases(show T="str" from ty);exists Jfm s z t,λ_ e=>nomatch e
 |int i =>
  let⟨t,rfl⟩:=r;cases(show T="int" from ty);exists Jfn s i t,λ_ e=>nomatch e
 |ref p =>
  cases r;rcases ty with⟨rfl,xs,hq⟩|⟨rfl,o,hk,hc,hd⟩|⟨rfl,hk⟩|⟨rfl,S,n,hk⟩
  .let⟨its,_,pl,_⟩:=I.list hq;exists pl.isList.typeIs,λa e=>?_;cases e;let⟨o,n,e,c,hd,_⟩:=pl;exists o,e,hd
  .exists⟨o,I.kIn p o hk,hc⟩,λa e=>?_;cases e;exists o,I.kIn _ o hk,hd
  .let z:∃o,s.heap.get? p=some o/\o.ExactDict:=by
    rcases hk with⟨kvs,hk⟩|⟨kvs,hk⟩
    .let⟨_,_,_,_,o,_,_,e,ex,_⟩:=I.hok p _ hk;exists o,e,ex
    .let⟨_,_,_,_,o,_,_,e,ex,_⟩:=I.hok p _ hk;exists o,e,ex
   let⟨o,e,ex⟩:=z;exists⟨o,e,ex.1⟩,λa e2=>?_;cases e2;exists o,e,ex.2.1
  .let⟨o,_,_,_,e,ex,_⟩:=I.hok p _ hk;exists⟨o,e,ex.1⟩,λa e2=>?_;cases e2;exists o,e,ex.2.1
 |_=>exact Cr ty
def tBM0(K:Ck)(T:String)(r:V->List V->Hp->VK->Prop)(to:TE):TE:=λσ H Q=>to σ H λx H1=>tyV K T x H1/\r x [] H1 Q
def tBM(K:Ck)(T:String)(r:V->List V->Hp->VK->Prop)(to:TE)(t:TA):TE:=λσ H Q=>to σ H λx H1=>tyV K T x H1/\t σ H1 λxs H2=>r x xs H2 Q
variable{o e:Expr}{t:TA}{name:Str}{cpos:Pos}{T id:String}{r:V->List V->Hp->VK->Prop}
def Zrk(pa:PlainAttrs T)(slot:Slot T name id)(hty:typeOf (.builtin id)=pure (.type "method_descriptor"))(hm:MtR X id r)(ho:PE X o to)(hbase:Hz o name X.env (eval o X.env)=eval o X.env:=by rfl)(hline:(apos.endLine==cpos.line)=true:=by rfl):PE X (.Call (.Attribute o name apos) [] [] cpos) (tBM0 X.K T r to):=by
 intro pq s σ H Q I h;refine wpAny_Call_method0_late hbase hline (thn (ho pq s σ H _ I h) λv s1 hz=>?_);let⟨x,H1,I1,r1,ty,q1⟩:=hz;let⟨h1,h2⟩:=Zlp I1 r1 ty;exists T,id,pa,slot,hty,h1,h2,E6 rfl (PySem.evalArgs_none (hm pq s1 σ H1 x [] v [] Q I1 r1 .nil q1))
def Zhc(pa:PlainAttrs T)(slot:Slot T name id)(hty:typeOf (.builtin id)=pure (.type "method_descriptor"))(hm:MtR X id r)(ho:PE X o to)(ha:PA X (e::es) t)(hbase:Hz o name X.env (eval o X.env)=eval o X.env:=by rfl)(hfew:((Hs cpos (Cn (e::es) X.env)).all (λx=>!x.1)&&(Lq cpos (E9 [] X.env)).all (λx=>x.1.isSome)
   && decide ((e::es).length+([]:List Jcw).length+(if([]:List Jcw).isEmpty then 0 else 1)<30))=true:=by rfl)(hline:(apos.endLine==cpos.line)=true:=by rfl)(hs:Cn (e::es) X.env=(false,eval e X.env)::Cn es X.env:=by rfl)(hplain:(Hs cpos (Cn es X.env)).any (·.1)=false:=by rfl) :
  PE X (.Call (.Attribute o name apos) (e::es) [] cpos) (tBM X.K T r to t):=by
 intro pq s σ H Q I h;refine wpAny_Call_method_late hbase hfew hline rfl (thn (ho pq s σ H _ I h) λv s1 hz=>?_);let⟨x,H1,I1,r1,ty,q1⟩:=hz;let⟨h1,h2⟩:=Zlp I1 r1 ty;refine⟨T,id,pa,slot,hty,h1,h2,?_⟩;let hA:=ha cpos pq s1 σ H1 _ I1 q1;rw[hs]at hA⊢;refine E6 (by show(false ||(Hs cpos (Cn es X.env)).any (·.1))=false;rw[hplain]<;>rfl) (K0 ?_);exact thn hA λus s2⟨vs,H2,I2,r2,q2⟩=>hm pq s2 σ H2 x vs v us Q I2 r1 r2 q2
end
def MtM(X:Cx)(id:String)(r:V->List V->Hp->VK->Prop):Prop :=
 ∀(pq:List (Addr×Obj))(s:Ca)(σ:St)(H:Hp)(x:V)(xs:List V)(v:Value)(us:List Value)(Q:VK),Inv X pq σ H s->RelV x v->Vals xs us->r x xs H Q ->
  Cc (Cg X.prog X.w) X.A (call (.builtin id) (v::us)) (EP X pq σ Q) X.xe s
theorem Vals.one:∀{x:V}{us:List Value},Vals [x] us->∃u,us=[u]/\RelV x u
 |_,_,.cons r .nil=>⟨_,rfl,r⟩
theorem Vals.zero:∀{us:List Value},Vals [] us->us=[]:=by
 intro _ hz9;cases hz9 with
 |nil=>
  exact rfl
theorem Vals.dropLast(h:Vals xs us):Vals xs.dropLast us.dropLast:=by
 induction h with
 |nil=>exact .nil
 |cons r t ih =>
  cases t with
  |nil=>exact .nil
  |cons q t'=>exact .cons r ih
theorem Vals.rep(h:Vals xs us):∀k:Nat,Vals (Ci k xs).flatten (Ci k us).flatten
 |0=>.nil
 |k+1=>by
  rw[Bb,Bb,Bc,Bc];exact Vals.append h (Vals.rep h k)
theorem Zfa{α:Type}(l:List α):l.eraseIdx (l.length-1)=l.dropLast:=by
 induction l with
 |nil=>rfl
 |cons a r ih =>
  cases r with
  |nil=>rfl
  |cons b r =>
   let e:(a::b::r).length-1=((b::r).length-1)+1:=by
    let h1:(a::b::r).length=r.length+2:=rfl;let h2:(b::r).length=r.length+1:=rfl;lia
   rw[e,List.eraseIdx_cons_succ,ih]
   all_goals rfl
theorem Zay(its:List Value):∀(k:Nat)(acc:List Value),
  Jfo (λx1 x2=>x1++x2) acc.toArray (Ci k its.toArray)=(acc++(Ci k its).flatten).toArray
 |0,acc=>by simp
 |k+1,acc=>by
  let e:acc.toArray++its.toArray=(acc++its).toArray:=by simp
  let e2:(acc++its)++(Ci k its).flatten=acc++(Ci (k+1) its).flatten:=by
   rw[Bb,Bc,Jn]
  rw[<-e2,<-Zay its k (acc++its),<-e,Bb,List.foldl_cons]
section
def Inv.lset{its':List Value}{n:Nat}{f:Array Value->Array Value}(I:Inv X pq σ H s)(hH:H l=some (.lst xs))(e:s.heap.get? l=some {cls:=.type "list",data:=.seq its.toArray n})(hf:f its.toArray=its'.toArray)(hv:Vals ys its')(hz:ys.length<=sizeLine) :
  Inv X pq σ (upd H l (.lst ys)) {s with heap:=s.heap.update l (Ch f),toks:=t'}:=by
 let q:=PySem.IsL.update e f;rw[hf]at q;refine I.write (x:=l) (e:=l) (by rw[hH];exact trivial) (.inl rfl) (λb' u hb hu=>(Mu s.heap (Ch f) (Et hb)).trans hu) ⟨_,q⟩ ?_;exists hz,its',_,hv,q
def Inv.lnew(I:Inv X pq σ H s)(hv:Vals ys its)(hz:ys.length<=sizeLine) :
  Inv X pq σ (upd H s.heap.objs.size (.lst ys)) {s with heap:=s.heap.push {cls:=.type "list",data:=.seq its.toArray},toks:=t'} :=
 I.laid (λ_ _ q=>Do _ q) (Jd _) ⟨hz,its,0,hv,Dp _ rfl⟩
def Inv.fresh(I:Inv X pq σ H s):H s.heap.objs.size=none:=I.hok.fresh (Jd _)
def Inv.lstM(I:Inv X pq σ H s)(hH:H l=some (.lst xs)):xs.length<=sizeLine/\∃(its:List Value)(n:Nat),Vals xs its/\xs.length=its.length/\s.heap.get? l=some {cls:=.type "list",data:=.seq its.toArray n}:=by
 let⟨z,its,n,r,e⟩:=I.hok l _ hH;exists z,its,n,r,r.length,e
theorem P3{n:Nat}(h:n<=sizeLine):C2 n=false:=by
 unfold C2;exact Dv ()
end
section
def Zg1:V->List V->Hp->VK->Prop:=λx vs H Q=>∃l xs y,x=.ref l/\vs=[y]/\H l=some (.lst xs)/\xs.length<sizeLine/\Q .non (upd H l (.lst (xs++[y])))
theorem Rm:MtM X "list.append" Zg1:=by
 intro pq s σ H x vs v us Q I rx rv h;let⟨l,xs,y,rfl,rfl,hH,hz,q⟩:=h;cases rx;let⟨u,rfl,ru⟩:=rv.one;let⟨z,its,n,r,hl,e⟩:=I.lstM hH;refine Hv F.slot_list_append ⟨_,e,rfl⟩ F.entry_list_append (F.args_list_append_2 _ _) (PySem.list_append l its.toArray n u (by rw[Jl];lia)) ⟨e,?_⟩;exists .non,_,I.lset (its':=its++[u]) hH e (by simp) (r.append (.cons ru .nil)) ?_,rfl,q;rw[Jc,G0];lia
def Zg0:V->List V->Hp->VK->Prop:=λx vs H Q=>∃l b xs zs,x=.ref l/\vs=[.ref b]/\H l=some (.lst xs)/\H b=some (.lst zs)/\xs.length+zs.length<=sizeLine/\Q .non (upd H l (.lst (xs++zs)))
theorem Zhr:MtM X "list.extend" Zg0:=by
 intro pq s σ H x vs v us Q I rx rv h;let⟨l,b,xs,zs,rfl,rfl,hH,hB,hz,q⟩:=h;cases rx;let⟨u,rfl,ru⟩:=rv.one;cases ru;let⟨z,its,n,r,hl,e⟩:=I.lstM hH;let⟨z2,its2,n2,r2,hl2,e2⟩:=I.lstM hB;let hsz:its.toArray.size+its2.toArray.size<=sizeLine:=by rw[Jl,Jl];lia
 let hlong:¬ (!its.toArray.isEmpty&&C2 (its.toArray.size+its2.toArray.size))=true:=by
  rw[P3 hsz,Je6];exact Jt
 refine Hv Ha ⟨_,e,rfl⟩ Jcy (Jb4 _ _)
  (AutoSeq1.list_extend_list_list_0 l its.toArray n b its2.toArray n2 hlong (by rw[Jl];lia) ()) ⟨e,e2,?_⟩
 exists .non,_,I.lset (its':=its++its2) hH e (by simp) (r.append r2) ?_,rfl,q;rw[Jc];lia
def rPop:V->List V->Hp->VK->Prop:=λx vs H Q=>∃l xs y,x=.ref l/\vs=[]/\H l=some (.lst xs)/\xs[xs.length-1]?=some y/\Q y (upd H l (.lst xs.dropLast))
theorem Zrt:MtM X "list.pop" rPop:=by
 intro pq s σ H x vs v us Q I rx rv h;let⟨l,xs,y,rfl,rfl,hH,hy,q⟩:=h;cases rx;let hus:=rv.zero;subst hus;let⟨z,its,n,r,hl,e⟩:=I.lstM hH;let⟨u,hu,ru⟩:=r.get hy;let hy':its.toArray[its.toArray.size-1]?=some u:=by
  show its.toArray[its.length-1]?=some u;rw[<-Jr,<-hl];exact hu
 refine Hv F.slot_list_pop ⟨_,e,rfl⟩ F.entry_list_pop (F.args_list_pop_1 _) (MeetsSeq.list_pop_last l its.toArray n u hy' (by rw[Jl];lia)) ⟨e,?_⟩;exists y,_,I.lset (its':=its.dropLast) hH e ?_ r.dropLast ?_,ru,q
 .show its.toArray.eraseIdxIfInBounds (its.toArray.size-1)=its.dropLast.toArray;rw[Jl,List.eraseIdxIfInBounds_toArray,Zfa]
 .rw[List.length_dropLast];lia
def rCat:R2:=λx y H Q=>∃l b xs zs,x=.ref l/\y=.ref b/\H l=some (.lst xs)/\H b=some (.lst zs)/\xs.length+zs.length<=sizeLine/\∀p,H p=none->Q (.ref p) (upd H p (.lst (xs++zs)))
theorem Zhi:OpR X (Ew .Add) rCat:=by
 intro pq s σ H x y v u Q I rx ry h;let⟨l,b,xs,zs,rfl,rfl,hH,hB,hz,q⟩:=h;cases rx;cases ry;let⟨z,its,n,r,hl,e⟩:=I.lstM hH;let⟨z2,its2,n2,r2,hl2,e2⟩:=I.lstM hB;refine PySem.P.add_list e e2 ?_ (by rw[Jl,Jl];lia);let ea:its.toArray++its2.toArray=(its++its2).toArray:=by simp
 rw[ea];exists .ref _,_,I.lnew (t':=s.toks) (r.append r2) (by rw[Jc];lia),rfl,q _ I.fresh
def rRep:R2:=λx y H Q=>∃l k xs,x=.ref l/\y=.int k/\H l=some (.lst xs)/\-(2 ^ 63)<=k/\k<2 ^ 63/\xs.length*k.toNat<=sizeLine /\
 ∀p,H p=none->Q (.ref p) (upd H p (.lst (Ci k.toNat xs).flatten))
theorem Zos{α:Type}(xs:List α)(k:Nat):(Ci k xs).flatten.length=k*xs.length:=by
 induction k with
 |zero=>simp
 |succ k ih=>rw[Bb,Bc,Jc,ih,Jd3,Jd4]
theorem Zrn:OpR X (Ew .Mult) rRep:=by
 intro pq s σ H x y v u Q I rx ry h;let⟨l,k,xs,rfl,rfl,hH,h1,h2,hz,q⟩:=h;cases rx;let⟨t,rfl⟩:=ry;let⟨z,its,n,r,hl,e⟩:=I.lstM hH;let hlen:its.toArray.size*k.toNat<=sizeLine:=by rw[Jl,<-hl];exact hz
 let hcap:¬ its.toArray.size*k.toNat > (2 ^ 63-1) / 8:=by
  let:(sizeLine:Nat)<=(2 ^ 63-1) / 8:=by decide
  lia
 let hfit:¬ (!Builtin.List.listFitsIndex k)=true:=by
  rw[fitsIndex_both h1 h2];exact Jt
 let hlong:¬ C2 (its.toArray.size*k.toNat)=true:=by
  rw[P3 hlen];exact Jt
 let hnew:Jfo (λx1 x2=>x1++x2) #[] (Ci (if its.toArray.isEmpty=true then 0 else k.toNat) its.toArray)=(Ci k.toNat its).flatten.toArray:=by
  let f0:∀m:Nat,Jfo (λx1 x2=>x1++x2) #[] (Ci m its.toArray)=(Ci m its).flatten.toArray:=λm=>by
   let:=Zay its m [];rw[List.nil_append]at this;exact this
  rw[f0];cases its with
  |nil=>simp
  |cons a r'=>rw[Ds (by simp)]
 refine wpAny_binaryOp_repeat_ref (T:="list") (U:="int") nofun ⟨_,e,rfl⟩ (λs'=>Jfn s' k t) noFill_list_mul F.fills_int_mul Jek repeat_list F.slot_int_index.lookup
  (Hv Jek (Jfn s k t) F.entry_int_rmul (F.args_int_rmul_2 _ _) (int___rmul___int_list k t l its.toArray n)
   ⟨e,rfl,⟨_,e,rfl⟩,Hv F.slot_list_mul ⟨_,e,rfl⟩ F.entry_list_mul (F.args_list_mul_2 _ _) (AutoListH.list___mul___list_int_3 l its.toArray n k t hfit hcap hlong) ⟨e,?_⟩⟩)
 rw[hnew];exists .ref _,_,I.lnew (t':=s.toks) (r.rep k.toNat) (by rw[Zos,Nat.mul_comm];exact hz),rfl,q _ I.fresh
end
section
variable[DecidableEq κ]
def valV(kvs:List (κ×V))(k:κ):Option V:=(kvs.find? λkv=>decide (kv.1=k)).map (·.2)
def putK(kvs:List (κ×V))(k:κ)(v:V):List (κ×V) :=
 if(kvs.any λkv=>decide (kv.1=k))=true then kvs.map (λkv=>if kv.1=k then(kv.1,v)else kv)else kvs++[(k,v)]
def Zjp{k:κ}:valV ([]:List (κ×V)) k=none:=rfl
def Xl{p:κ×V}{r:List (κ×V)}{k:κ}(e:p.1=k):valV (p::r) k=some p.2:=by simp[valV,Gv,e]
def Xm{p:κ×V}{r:List (κ×V)}{k:κ}(e:¬ p.1=k):valV (p::r) k=valV r k:=by simp[valV,Gv,e]
theorem Sr(k:κ):∀kvs:List (κ×V),(kvs.any λkv=>decide (kv.1=k))=(valV kvs k).isSome
 |[]=>rfl
 |p::r=>by
  rw[B6]
  by_cases e:p.1=k
  .simp only[Xl e,Du e,Bool.true_or,Option.isSome_some]
  .rw[Xm e,Dv e,Jda];exact Sr k r
theorem Zdb(k j:κ)(y:V):∀kvs:List (κ×V),valV (kvs.map λkv=>if kv.1=k then(kv.1,y)else kv) j=(valV kvs j).map λx=>if j=k then y else x
 |[]=>rfl
 |p::r=>by
  let ih:=Zdb k j y r;rw[Jp]
  by_cases h:p.1=k
  .rw[Dt h]
   by_cases e:p.1=j
   .rw[Xl (p:=(p.1,y)) e,Xl e,F0,Dt (e.symm.trans h)]
   .rw[Xm (p:=(p.1,y)) e,Xm e,ih]
  .rw[Ds h]
   by_cases e:p.1=j
   .rw[Xl (p:=p) e,Xl e,F0,Ds (λz=>h (e.trans z))]
   .rw[Xm (p:=p) e,Xm e,ih]
theorem N2(k j:κ)(y:V):∀kvs:List (κ×V),valV kvs k=none->valV (kvs++[(k,y)]) j=if j=k then some y else valV kvs j
 |[],_=>by
  by_cases e:k=j
  .rw[Dt e.symm];exact Xl (p:=(k,y)) e
  .rw[Ds (λz=>e z.symm)];exact Xm (p:=(k,y)) e
 |p::r,hn=>by
  rw[Jd9];let hk:¬ p.1=k:=λz=>by rw[Xl z]at hn;cases hn
  rw[Xm hk]at hn;let ih:=N2 k j y r hn
  by_cases e:p.1=j
  .rw[Xl e,Xl e,Ds (λz=>hk (e.trans z))]
  .rw[Xm e,Xm e,ih]
def Pj(kvs:List (κ×V))(k j:κ)(y:V):valV (putK kvs k y) j=if j=k then some y else valV kvs j:=by
 unfold putK
 by_cases a:(kvs.any λkv=>decide (kv.1=k))=true
 .rw[Dt a,Zdb];rw[Sr]at a
  by_cases e:j=k
  .let⟨x,hx⟩:=Option.isSome_iff_exists.mp a;rw[Dt e,e,hx,F0,Dt rfl]
  .rw[Ds e];cases valV kvs j with
   |none=>rfl
   |some x=>rw[F0,Ds e]
 .rw[Ds a];refine N2 k j y kvs ?_;rw[Sr]at a;cases q:valV kvs k with
  |none=>rfl
  |some x=>rw[q]at a;exact(a rfl).elim
theorem Y4(kvs:List (κ×V))(k:κ)(v:V):(putK kvs k v).length<=kvs.length+1:=by
 unfold putK
 split
 .rw[Ja];lia
 .rw[Jc,J0,Bl];lia
theorem RelO.isSome_eq{o:Option V}{u:Option Value}(r:RelO o u):o.isSome=u.isSome:=by
 cases o with
 |none=>cases u with
  |none=>rfl
  |some _=>exact(show False from r).elim
 |some _=>cases u with
  |none=>exact(show False from r).elim
  |some _=>rfl
theorem RelO.getD{o:Option V}{u:Option Value}{d:V}{d':Value}(r:RelO o u)(rd:RelV d d'):RelV (o.getD d) (u.getD d'):=by
 cases o with
 |none=>cases u with
  |none=>exact rd
  |some _=>exact(show False from r).elim
 |some _=>cases u with
  |none=>exact(show False from r).elim
  |some _=>exact r
theorem KV.val{kvs:List (κ×V)}{vs:List (κ×Value)}(r:KV kvs vs)(k:κ):RelO (valV kvs k) (Jdo vs k):=by
 unfold KV at r
 induction r with
 |nil=>exact Ea
 | @cons p q ps qs h t ih =>
  let⟨h1,h2⟩:=h
  by_cases e:p.1=k
  .let e':q.1=k:=h1.symm.trans e;let b:Jdo (q::qs) k=some q.2:=by simp[Jdo,Gv,e']
   rw[Xl e,b];exact h2
  .let e':¬ q.1=k:=λz=>e (h1.trans z);let b:Jdo (q::qs) k=Jdo qs k:=by simp[Jdo,Gv,e']
   rw[Xm e,b];exact ih
theorem KV.any{kvs:List (κ×V)}{vs:List (κ×Value)}(r:KV kvs vs)(k:κ):(kvs.any λkv=>decide (kv.1=k))=vs.any λkv=>decide (kv.1=k):=by
 unfold KV at r
 induction r with
 |nil=>rfl
 |cons h t ih=>rw[B6,B6,ih,h.1]
theorem KV.repl{kvs:List (κ×V)}{vs:List (κ×Value)}(r:KV kvs vs)(k:κ){u:Value}(ry:RelV y u) :
  KV (kvs.map λkv=>if kv.1=k then(kv.1,y)else kv) (vs.map λkv=>if kv.1=k then(kv.1,u)else kv):=by
 unfold KV at r⊢
 induction r with
 |nil=>exact .nil
 | @cons p q ps qs h t ih =>
  rw[Jp,Jp];refine .cons ?_ ih;let⟨h1,h2⟩:=h
  by_cases e:p.1=k
  .rw[Dt e,Dt (h1.symm.trans e)];exists h1,ry
  .rw[Ds e,Ds (λz=>e (h1.trans z))];exists h1,h2
def KV.put{kvs:List (κ×V)}{vs:List (κ×Value)}(r:KV kvs vs)(k:κ){u:Value}(ry:RelV y u):KV (putK kvs k y) (stored vs k u):=by
 unfold putK stored;rw[r.any k]
 by_cases e:(vs.any λkv=>decide (kv.1=k))=true
 .rw[Dt e,Dt e];exact r.repl k ry
 .rw[Ds e,Ds e];exact Paired.snoc r ⟨rfl,ry⟩
def KV.length{kvs:List (κ×V)}{vs:List (κ×Value)}(r:KV kvs vs):kvs.length=vs.length:=Paired.length r
end
theorem Ze3{k:Key}{u:Value}(r:RelV (kV k) u):(Yd P w).is k u=true:=by
 cases k with
 |inl i=>obtain⟨t,e⟩:=(show ∃t,u=K6 i t from r);subst e;exact Zcf P w i t
 |inr x=>obtain⟨t,e⟩:=(show ∃t,u=Mw x t from r);subst e;exact Zce P w x t
theorem Ru :∀{ks:List Key}{us:List Value},Vals (ks.map kV) us->ItemsAre (Yd P w) ks us
 |[],_,r=>by rw[Lr]at r;cases r;exact .nil
 |k::ks,_,r=>by
  rw[Jp]at r;cases r with
  |cons h t=>exact .cons (Ze3 h) (Ru t)
abbrev KT(H:Hp):List (List Key×V)->List (List Key×Addr×Value)->Prop:=Paired λp q=>p.1=q.1/\H q.2.1=some (.tup (p.1.map kV))/\RelV p.2 q.2.2
theorem KT.val{xs:List (List Key×Addr×Value)}(r:KT H kvs xs)(k:List Key):RelO (valV kvs k) ((Jdb xs k).map (·.2)):=by
 induction r with
 |nil=>exact Ea
 | @cons p q ps qs h t ih =>
  let⟨h1,_,h2⟩:=h
  by_cases e:p.1=k
  .let e':q.1=k:=h1.symm.trans e;let b:Jdb (q::qs) k=some q.2:=by simp[Jdb,Gv,e']
   rw[Xl e,b];exact h2
  .let e':¬ q.1=k:=λz=>e (h1.trans z);let b:Jdb (q::qs) k=Jdb qs k:=by simp[Jdb,Gv,e']
   rw[Xm e,b];exact ih
theorem KT.repl{xs:List (List Key×Addr×Value)}(r:KT H kvs xs)(k:List Key){u:Value}(ry:RelV y u) :
  KT H (kvs.map λkv=>if kv.1=k then(kv.1,y)else kv) (xs.map (putAt k u)):=by
 induction r with
 |nil=>exact .nil
 | @cons p q ps qs h t ih =>
  rw[Jp,Jp];refine .cons ?_ ih;let⟨h1,h2,h3⟩:=h;unfold putAt
  by_cases e:p.1=k
  .rw[Dt e,Dt (h1.symm.trans e)];exists h1,h2,ry
  .rw[Ds e,Ds (λz=>e (h1.trans z))];exists h1,h2,h3
def KT.put{xs:List (List Key×Addr×Value)}(r:KT H kvs xs)(k:List Key){b:Addr}{u:Value}(hb:H b=some (.tup (k.map kV)))(ry:RelV y u) :
  KT H (putK kvs k y) (storedH xs k b u):=by
 let e:(kvs.any λkv=>decide (kv.1=k))=(Jdb xs k).isSome:=by
  rw[Sr,(r.val k).isSome_eq,L7]
 unfold putK storedH;rw[e]
 by_cases q:(Jdb xs k).isSome=true
 .rw[Dt q,Dt q];exact r.repl k ry
 .rw[Ds q,Ds q];exact Paired.snoc r ⟨rfl,hb,ry⟩
def KT.keeps{xs:List (List Key×Addr×Value)}(r:KT H kvs xs)(ht:∀b ys,H b=some (.tup ys)->H' b=some (.tup ys)):KT H' kvs xs :=
 Paired.mapP r λ_ _ z=>⟨z.1,ht _ _ z.2.1,z.2.2⟩
section
variable{a:Addr}
def Zq6{u:HO}(ok:HOk P w H h)(e:Rd H a u):Y6 P w H h a u:=e.ok ok
def Zfd{kvs:List (Key×V)}(ok:HOk P w H h)(e:Rd H a (.dK kvs)):kvs.length<=sizeLine/\(a==C9)=false/\∃vs,KV kvs vs/\h.DictOf (Yd P w) a vs :=
 show Y6 P w H h a (.dK kvs)from Zq6 ok e
def Zpc{kvs:List (Key×V)}(ok:HOk P w H h)(e:H a=some (.dK kvs)):kvs.length<=sizeLine/\(a==C9)=false/\∃vs,KV kvs vs/\h.DictOf (Yd P w) a vs:=Zfd ok (.inl e)
def Q6{ks:List Key}(ok:HOk P w H h)(e:H a=some (.tup (ks.map kV))):(Ly (Yd P w)).is h ks a:=by
 let⟨_,its,r,o,h1,h2,n,h3,_⟩:=(show Y6 P w H h a (.tup (ks.map kV))from ok a _ e);exact⟨o,its.toArray,n,h1,h2,h3,by simpa using Ru r⟩
def Zfb(ok:HOk P w H h)(e:Rd H a (.dT kvs)):kvs.length<=sizeLine/\(a==C9)=false /\
  ∃xs,KT H kvs xs/\h.DictOfH (Ly (Yd P w)) a xs:=by
 let⟨z,y,xs,r,o,es,ep,h1,h2,h3,h4,h5⟩:=(show Y6 P w H h a (.dT kvs)from Zq6 ok e);refine⟨z,y,xs,r,o,es,ep,h1,h2,h3,h4,λx hx=>?_,h5⟩;let all:∀{l:List (List Key×V)}{m:List (List Key×Addr×Value)},KT H l m->∀x∈m,(Ly (Yd P w)).is h x.1 x.2.1:=by
  intro l m q
  induction q with
  |nil=>intro x hx;exact nomatch hx
  | @cons p q ps qs hq t ih =>
   intro x hx;rcases Gi.mp hx with e|hx
   .subst e;exact Q6 ok (by rw[<-hq.1];exact hq.2.1)
   .exact ih x hx
 exact all r x hx
def Zsk(ok:HOk P w H h)(e:H a=some (.dT kvs)):kvs.length<=sizeLine/\(a==C9)=false /\
  ∃xs,KT H kvs xs/\h.DictOfH (Ly (Yd P w)) a xs:=Zfb ok (.inl e)
end
def DGet(H:Hp)(a:Addr)(y:V)(r:Option V):Prop :=
 (∃kvs k,Rd H a (.dK kvs)/\y=kV k/\r=valV kvs k)\/∃kvs k b,Rd H a (.dT kvs)/\y=.ref b/\H b=some (.tup (k.map kV))/\r=valV kvs k
def DPut(H:Hp)(a:Addr)(y v:V)(H':Hp):Prop :=
 (∃kvs k,H a=some (.dK kvs)/\y=kV k/\kvs.length<sizeLine/\H'=upd H a (.dK (putK kvs k v))) \/
 ∃kvs k b,H a=some (.dT kvs)/\y=.ref b/\H b=some (.tup (k.map kV))/\kvs.length<sizeLine/\H'=upd H a (.dT (putK kvs k v))
theorem DGet.k{a:Addr}{kvs:List (Key×V)}{k:Key}(e:H a=some (.dK kvs)):DGet H a (kV k) (valV kvs k):=.inl ⟨kvs,k,.inl e,rfl,rfl⟩
def DGet.t{a b:Addr}{k:List Key}(e:H a=some (.dT kvs))(eb:H b=some (.tup (k.map kV))):DGet H a (.ref b) (valV kvs k):=.inr ⟨kvs,k,b,.inl e,rfl,eb,rfl⟩
theorem DPut.k{a:Addr}{kvs:List (Key×V)}{k:Key}{v:V}(e:H a=some (.dK kvs))(hl:kvs.length<sizeLine):DPut H a (kV k) v (upd H a (.dK (putK kvs k v))):=.inl ⟨kvs,k,e,rfl,hl,rfl⟩
def DPut.t{a b:Addr}{k:List Key}{v:V}(e:H a=some (.dT kvs))(eb:H b=some (.tup (k.map kV)))(hl:kvs.length<sizeLine) :
  DPut H a (.ref b) v (upd H a (.dT (putK kvs k v))):=.inr ⟨kvs,k,b,e,rfl,eb,hl,rfl⟩
section
variable{a:Addr}{v:V}{u r:Value}{o:Option V} 
def Inv.big(I:Inv X pq σ H s):C9<s.heap.objs.size:=by
 let h:mainGlobals<s.heap.objs.size:=(I.mod.glob.keeps I.bk).lt;exact Nat.lt_trans nofun h
def Zis{Q:Value->Ca->Prop}(hu:A.units+1<cLine)(I:Inv X pq σ H s)(g:DGet H a y (some v))(ry:RelV y u)(h:∀w' s',Inv X pq σ H s'->RelV v w'->Q w' s') :
  Cc (Cg X.prog X.w) A (Kx (.ref a) u) Q E s:=by
 rcases g with⟨kvs,k,e,ey,l⟩|⟨kvs,k,b,e,ey,eb,l⟩
 .subst ey;let⟨z,hd,vs,rel,dd⟩:=Zfd I.hok e;let⟨w',hw,rw'⟩:=RelO.some_of (v:=v) (o:=Jdo vs k) (by rw[l];exact rel.val k);exact wpAny_getItem_of (Ze3 ry) dd.mapOf hw (h w' _ (I.tok _) rw')
 .subst ey;cases(show u=Cb b from ry);let⟨z,hd,xs,rel,dd⟩:=Zfb I.hok e;let⟨w',hw,rw'⟩:=RelO.some_of (v:=v) (o:=(Jdb xs k).map (·.2)) (by rw[l];exact rel.val k);let⟨p,hp,hp2⟩:=G7.mp hw;refine wpAny_getItem_heap (Kc hu) (Q6 I.hok eb) dd hp ?_;rw[hp2];exact h w' _ (I.tok _) rw'
def d_in{Q:Value->Ca->Prop}(hu:A.units+1<cLine)(I:Inv X pq σ H s)(g:DGet H a y o)(ry:RelV y u)(h:∀s',Inv X pq σ H s'->Q (.bool o.isSome) s') :
  Cc (Cg X.prog X.w) A (C8 .In u (.ref a)) Q E s:=by
 rcases g with⟨kvs,k,e,ey,l⟩|⟨kvs,k,b,e,ey,eb,l⟩
 .subst ey;let⟨z,hd,vs,rel,dd⟩:=Zfd I.hok e;refine wpAny_in_of (Ze3 ry) hd dd.mapOf ?_;rw[<-(rel.val k).isSome_eq,<-l];exact h _ (I.tok _)
 .subst ey;cases(show u=Cb b from ry);let⟨z,hd,xs,rel,dd⟩:=Zfb I.hok e;refine wpAny_in_heap (Kc hu) (Q6 I.hok eb) hd dd ?_;let q:=(rel.val k).isSome_eq;rw[L7]at q;rw[<-q,<-l];exact h _ (I.tok _)
def Qb{ob:HO}(I:Inv X pq σ H s)(mu:Mut (H a))(hs:E8 a s.heap h')(he:∃q,h'.get? a=some q)(new:Y6 X.prog X.w (upd H a ob) h' a ob) :
  Inv X pq σ (upd H a ob) {s with heap:=h',toks:=t'} :=
 I.write (x:=a) (e:=a) mu (.inl rfl) (λb q hb z=>(hs.2 b hb).trans z) he new
def Zmm{kvs:List (Key×V)}{vs:List (Key×Value)}(z:kvs.length<=sizeLine)(hd:(a==C9)=false)(rel:KV kvs vs)(dd:h'.DictOf (Yd P w) a vs) :
  Y6 P w H' h' a (.dK kvs):=⟨z,hd,vs,rel,dd⟩
theorem Zir{Q:Unit->Ca->Prop}(hu:A.units+1<cLine)(I:Inv X pq σ H s)(g:DPut H a y v H')(ry:RelV y u)(rv:RelV v r)(h:∀s',Inv X pq σ H' s'->Q ⟨⟩ s') :
  Cc (Cg X.prog X.w) A (Jfw (.ref a) u r) Q E s:=by
 rcases g with⟨kvs,k,e,ey,l,eH⟩|⟨kvs,k,b,e,ey,eb,l,eH⟩
 .subst ey eH;let⟨z,hd,vs,rel,dd⟩:=Zpc I.hok e;let hz:vs.length<=sizeLine:=by rw[<-rel.length];exact z
  let hl:(putK kvs k v).length<=sizeLine:=by have:=Y4 kvs k v;lia
  refine wpAny_setItem_pairs (hsz:=hz) (Ze3 ry) dd λh' dd' hs=>h _ ?_;let he:∃q,h'.get? a=some q:=let⟨q,_,_,hq,_⟩:=dd';⟨q,hq⟩
  exact Qb I (by rw[e];exact Ea) hs he (Zmm hl hd (rel.put k rv) dd')
 .subst ey eH;cases(show u=Cb b from ry);let⟨z,hd,xs,rel,dd⟩:=Zsk I.hok e;let hz:xs.length<=sizeLine:=by rw[<-Paired.length rel];exact z
  let hl:(putK kvs k v).length<=sizeLine:=by have:=Y4 kvs k v;lia
  refine wpAny_setItem_heap (hsz:=hz) (Kc hu) (Q6 I.hok eb) dd λh' dd' hs=>h _ ?_;let⟨q,es,ep,hq,h2,h3,h4,_,h5⟩:=dd';refine Qb I (by rw[e];exact Ea) hs ⟨q,hq⟩ ⟨hl,hd,_,(rel.put k eb rv).keeps λc ys ec=>?_,q,es,ep,hq,h2,h3,h4,h5⟩;rw[Zp (Wa ec e (λz=>nomatch z))];exact ec
end
def NoSl(i:Expr):Prop:=∀ov iv,Mh i false ov iv=Jgn [ov,iv] (Kx ov iv)
def Zf4{env:Env}{slice:Expr}{T id:String}{Q:Value->Ca->Prop}(hl:Jdm (.type T) "__getitem__"=pure (some (.builtin id)))(hs:NoSl slice)(h:Cc (Cg prog w) A (eval value env) (λo s₁=>Cc (Cg prog w) A (eval slice env) (λi s₂=>s₂.TypeIs o T/\Cc (Cg prog w) A (Kx o i) Q E s₂) E s₁) E s) :
  Cc (Cg prog w) A (eval (.Subscript value slice pos) env) Q E s:=by
 refine Jdn (Dy h (λo s₁ h₁=>Dy h₁ (λi s₂ h₂=>?_) λ_ _ x=>x) λ_ _ x=>x);let⟨hT,h₂⟩:=h₂;unfold Mg;refine Dm ?_;rw[getitemInPython_of_ne hT.not_modules];refine Dm (wpAny_specialOf hT hl ?_);let fin:Cc (Cg prog w) A (Mh slice false o i) (λr s₃=>Cc (Cg prog w) A (letTemporaryGo value o r >>= λ_=>pure r) Q E s₃) E s₂:=by
  rw[hs o i];exact wpAny_operating (Dy h₂ (λr s₃ h₃=>Dm (wpAny_letTemporaryGo (Dn h₃))) λ_ _ x=>x)
 first
  |exact Dn (Dm fin)
  |exact Dm (Dn (Dm fin))
  |exact Dm fin
def Zcs{a:Addr}{o:Option V}(I:Inv X pq σ H s)(g:DGet H a y o):s.TypeIs (.ref a) "dict":=by
 rcases g with⟨kvs,k,e,_,_⟩|⟨kvs,k,b,e,_,_,_⟩
 .let⟨_,_,vs,_,dd⟩:=Zfd I.hok e;exact dd.typeIs
 .let⟨_,_,xs,_,dd⟩:=Zfb I.hok e;exact dd.typeIs
def Zqo(td ty:TE):TE:=λσ H Q=>td σ H λx H1=>ty σ H1 λy H2=>∃a v,x=.ref a/\DGet H2 a y (some v)/\Q v H2
def tDIn(ty td:TE):TE:=λσ H Q=>ty σ H λy H1=>td σ H1 λx H2=>∃a o,x=.ref a/\DGet H2 a y o/\Q (.bl o.isSome) H2
def Zub(td ty tv:TE):TS:=λD σ H=>tv σ H λv H1=>td σ H1 λx H2=>ty σ H2 λy H3=>∃a H4,x=.ref a/\DPut H3 a y v H4/\D.nx σ H4
section
variable{o i:Expr}{td ty tv:TE}
def Zha(hu:X.A.units+1<cLine)(ho:PE X o td)(hi:PE X i ty)(hs:NoSl i):PE X (.Subscript o i pos) (Zqo td ty):=by
 intro pq s σ H Q I h;refine Zf4 PySem.F.slot_dict_getitem.lookup hs (thn (ho pq s σ H _ I h) λu s1⟨x,H1,I1,rx,q1⟩=>thn (hi pq s1 σ H1 _ I1 q1) λiv s2 hz=>?_);let⟨y,H2,I2,ry,a,v,ex,g,q2⟩:=hz;subst ex;obtain rfl:u=Cb a:=rx;exists Zcs I2 g,Zis hu I2 g ry λw' s3 I3 rw'=>⟨v,H2,I3,rw',q2⟩
def Zmf(hu:X.A.units+1<cLine)(hi:PE X i ty)(ho:PE X o td):PC X .In i o (tDIn ty td):=by
 intro pq s σ H Q I h;refine thn (hi pq s σ H _ I h) λiv s1⟨y,H1,I1,ry,q1⟩=>thn (ho pq s1 σ H1 _ I1 q1) λu s2 hz=>?_;let⟨x,H2,I2,rx,a,ov,ex,g,q2⟩:=hz;subst ex;obtain rfl:u=Cb a:=rx;exact d_in hu I2 g ry λs3 I3=>⟨.bl ov.isSome,H2,I3,rfl,q2⟩
def Zn9(hu:X.A.units+1<cLine)(ho:PE X o td)(hi:PE X i ty)(hv:PE X value tv)(hs:M7 value (some (.Subscript o i pos')) pos.line X.env=pure false) :
  PS X (.Assign [.Subscript o i pos'] value pos) (Zub td ty tv):=by
 intro pq s σ H D I h;refine wpAny_Assign_Subscript (thn (hv pq s σ H _ I h) λr s1⟨v,H1,I1,rv,q1⟩=>thn (ho pq s1 σ H1 _ I1 q1) λu s2⟨x,H2,I2,rx,q2⟩=>thn (hi pq s2 σ H2 _ I2 q2) λiv s3 hz=>?_) hs;let⟨y,H3,I3,ry,a,H4,ex,g,q3⟩:=hz;subst ex;obtain rfl:u=Cb a:=rx;exact Zir hu I3 g ry rv λs4 I4=>⟨σ,H4,I4,q3⟩
end
def Zk6(h:Heap)(hb:C9<h.objs.size):Y6 P w H (h.push {cls:=.type "dict",data:=.dict #[]}) h.objs.size (.dK []) :=
 ⟨Gc _,beq_eq_false_iff_ne.mpr (Et (Gj hb)),[],.nil,Jgz h⟩
def Zea(h:Heap)(hb:C9<h.objs.size):Y6 P w H (h.push {cls:=.type "dict",data:=.dict #[]}) h.objs.size (.dT []) :=
 ⟨Gc _,beq_eq_false_iff_ne.mpr (Et (Gj hb)),[],.nil,_,#[],0,Dp _ rfl,⟨rfl,rfl,rfl⟩,rfl,rfl,Di⟩
def Zqm:TE:=λ_ H Q=>∀p,H p=none->Q (.ref p) (upd H p (.dT []))
section
def Zkm:PE X (.Dict [] [] pos) Zqm:=λpq s σ H Q I h =>
 Jea ⟨.ref s.heap.objs.size,_,I.laid (a:=s.heap.objs.size) (o:=.dT []) (t':=s.toks) (λ_ _ q=>Do _ q) (Jd _) (Zea s.heap I.big),rfl,h _ (I.hok.fresh (Jd _))⟩
end
structure M1(X:Cx)(o:Expr)(m:Str)(apos:Pos)(e:Expr)(cpos:Pos):Prop where
 base:Hz o m X.env (eval o X.env)=eval o X.env
 few:((Hs cpos (Cn [e] X.env)).all (λx=>!x.1)&&(Lq cpos (E9 [] X.env)).all (λx=>x.1.isSome)
  && decide (([e]:List Expr).length+([]:List Jcw).length+(if([]:List Jcw).isEmpty then 0 else 1)<30))=true
 line:(apos.endLine==cpos.line)=true
 trees:Hs cpos (Cn [e] X.env)=[(false,eval e X.env)]
structure M2(X:Cx)(o:Expr)(m:Str)(apos:Pos)(e f:Expr)(cpos:Pos):Prop where
 base:Hz o m X.env (eval o X.env)=eval o X.env
 few:((Hs cpos (Cn [e,f] X.env)).all (λx=>!x.1)&&(Lq cpos (E9 [] X.env)).all (λx=>x.1.isSome)
  && decide (([e,f]:List Expr).length+([]:List Jcw).length+(if([]:List Jcw).isEmpty then 0 else 1)<30))=true
 line:(apos.endLine==cpos.line)=true
 trees:Hs cpos (Cn [e,f] X.env)=[(false,eval e X.env),(false,eval f X.env)]
def IsD(H:Hp)(a:Addr):Prop:=(∃kvs,Rd H a (.dK kvs))\/∃kvs,Rd H a (.dT kvs)
def Zr8{a:Addr}(I:Inv X pq σ H s)(d:IsD H a) :
  s.TypeIs (.ref a) "dict"/\(∀b,Cb a=.ref b->∃ob,s.heap.get? b=some ob/\ob.dict=none)/\(a==C9)=false:=by
 rcases d with⟨kvs,e⟩|⟨kvs,e⟩
 .let⟨_,hd,vs,_,dd⟩:=Zfd I.hok e;exists dd.typeIs,λb q=>?_,hd;cases q;let⟨ob,_,_,h1,h2,_⟩:=dd;exists ob,h1,h2.2.1
 .let⟨_,hd,xs,_,dd⟩:=Zfb I.hok e;exists dd.typeIs,λb q=>?_,hd;cases q;let⟨ob,_,_,h1,h2,_⟩:=dd;exists ob,h1,h2.2.1
section
variable{a:Addr}{u:Value}{o:Option V} 
def Zso{Q:Value->Ca->Prop}(hu:A.units+1<cLine)(I:Inv X pq σ H s)(g:DGet H a y o)(ry:RelV y u)(h:∀w' s',Inv X pq σ H s'->RelV (o.getD .non) w'->Q w' s') :
  Cc (Cg X.prog X.w) A (call (.builtin "dict.get") [.ref a,u]) Q E s:=by
 rcases g with⟨kvs,k,e,ey,l⟩|⟨kvs,k,b,e,ey,eb,l⟩
 .subst ey;let⟨z,hd,vs,rel,dd⟩:=Zfd I.hok e;refine call_meetsIn Ek dd.typeIs Kh (Mi _ _) (meets_dict_get (Yd X.prog X.w) a (Ze3 ry) hd) ⟨_,dd.mapOf,h _ _ (I.tok _) ?_⟩;rw[l];exact(rel.val k).getD rfl
 .subst ey;cases(show u=Cb b from ry);let⟨z,hd,xs,rel,dd⟩:=Zfb I.hok e;refine call_meetsIn Ek dd.typeIs Kh (Mi _ _) (meetsH_dict_get (Ly (Yd X.prog X.w)) a b hd) ⟨Kc hu,k,xs,Q6 I.hok eb,dd,h _ _ (I.tok _) ?_⟩;rw[l];exact(rel.val k).getD rfl
end
def Zqn(td ty:TE):TE:=λσ H Q=>td σ H λx H1=>∃a,x=.ref a/\IsD H1 a/\ty σ H1 λy H2=>∃o,DGet H2 a y o/\Q (o.getD .non) H2
section
variable{o e:Expr}{cpos:Pos}{td ty:TE}
def Zdt(hu:X.A.units+1<cLine)(ho:PE X o td)(he:PE X e ty)(m:M1 X o "get" apos e cpos):PE X (.Call (.Attribute o "get" apos) [e] [] cpos) (Zqn td ty):=by
 intro pq s σ H Q I h;refine wpAny_Call_method m.base m.few m.line PySem.F.plainAttrs_dict Ek PySem.F.type_dict_get (thn (ho pq s σ H _ I h) λu s1 hz=>?_);let⟨x,H1,I1,rx,a,ex,d,q1⟩:=hz;subst ex;obtain rfl:u=Cb a:=rx;let⟨t1,t2,_⟩:=Zr8 I1 d;exists t1,t2,?_;rw[m.trees];refine E6 rfl (K0 (Ka (thn (he pq s1 σ H1 _ I1 q1) λiv s2⟨y,H2,I2,ry,ov,g,q2⟩=>L5 ?_)));exact Zso hu I2 g ry λw' s3 I3 rw'=>⟨_,H2,I3,rw',q2⟩
end
end L2
namespace Att
open PySem PySem.W PySem.Calls PyProof.Rows
theorem Rv{P:Params} :∀(ns:List Int)(vs:List Value),WellAll P h vs (ns.map Jg0)->Eg vs ns:=by
 intro ns
 induction ns with
 |nil =>
  intro vs w;rw[Lr]at w;cases w;exact .nil
 |cons n ns ih =>
  intro vs w;rw[Jp]at w;cases w with
  |cons a b =>
   cases a;exact .cons _ _ (ih _ b)
theorem Zgi{l:OpenLaw}{n:Nat}(hn:l.most=some n){P:Params}{args:List WData}{vals:List Value}(hpre:l.row.toRowW.claim.pre args=true)(hwl:WellAll P h vals args) :
  ∃a vs ns,vals=[Cb a]/\args=[WData.list (ns.map Jg0)]/\h.get? a=some {cls:=.type "list",data:=.seq vs.toArray}/\Eg vs ns/\ns.length<=n:=by
 let hsh:WShape.hasAll [] args [.list .int]=true:=(pre_splitW hpre).1;let hc:l.pre.holds [] {args:=args}=true:=(pre_splitW hpre).2;let⟨d,r,rfl,h1,h2⟩:=hasAllW_cons hsh;obtain rfl:=hasAllW_nil h2;let⟨xs,rfl,h3⟩:=hasW_list h1;let⟨ns,rfl⟩:=items_int h3;let hlen:ns.length<=n:=by
  unfold OpenLaw.pre at hc;let h4:(WTm.not (.lt (.lit (.int (n:Int))) (.len (.arg 0)))).holds [] {args:=[.list (ns.map .int)]}=true:=by
   let h4:=(holds_andW hc).1;rw[hn]at h4;exact h4
  let h5:=condW_of h4 (w_not (w_lt w_lit (w_len_list (w_arg rfl))));rw[Ja]at h5;refine B7 λq=>?_;let q':(n:Int)<((ns.length:Nat):Int):=by lia
  first
   |(rw[Du q']at h5;exact absurd h5 nofun)
   |(simp at h5;lia)
 cases hwl with
 |cons w1 w2 =>
  cases w2;cases w1 with
  |list ho hall=>exact⟨_,_,ns,rfl,rfl,ho,Rv ns _ hall,hlen⟩
def Zg5(l:OpenLaw)(args:List WData):l.row.toRowW.claim.post args (.bool true) args=true :=
 postW_of (r:=l.row.toRowW) (X:=(true==true))
  (show Jgy [] (.bool true) .bool=true by first|rfl|decide|simp[Jgy,WShape.arms,WShape.armsAll])
  (show(WTm.eq .res (.lit (.bool true))).value [] {args:=args,res:=some (.bool true),after:=args}=some (.bool (true==true))from w_eq_bool (w_res rfl) w_lit) rfl
def attach_call{l:OpenLaw}{n:Nat}{q:El}{loose:List Str}{XP:(Str->Option Value)->Heap->Prop}{YP:Hd->Heap->Prop}{d:DefRec}(hn:l.most=some n)(hdf:d.params.defaults=[])(call:∀(w:Hd)(s₀ s₁:Ca)(mg mb:Str->Option Value)(fa:Addr)(o:Obj)(pm cd doc:Value)(a:Addr)(vs:List Value)(ns:List Int),
   Ground q loose [] XP w s₀ mg mb s₁.heap->YP w s₁.heap ->
   s₁.heap.get? fa=some o->o.data=.func (docDef d.name d.params d.body d.scope pm cd doc)->s₁.heap.CodeRec cd d.name->mg d.name=some (.ref fa) ->
   s₁.heap.get? a=some {cls:=.type "list",data:=.seq vs.toArray}->Eg vs ns->ns.length<=n->s₁.gens=#[] ->
   Ld (Cg l.prog w) Jdp (.call (.ref fa) ⟨[.ref a],[]⟩) (λr s'=>r=.ok (.ret (.bool true))/\OldK s₁.heap s'.heap/\s'.os=s₁.os/\My s'.gens) s₁) :
  WalkO q loose XP YP l.row.toRowW d [] (λf vs=>Jfp f vs):=by
 intro w s₀ s₁ mg mb G Y fa o pm cd doc dV kV ho hd hcd hD hmg hg args vals as hpre hlay hrd hwl hlo;obtain rfl:dV=.none:=Dflts.none hD hdf;obtain rfl:kV=.none:=Dflts.noKw hD;let⟨a,vs,ns,rfl,rfl,hobj,hints,hlen⟩:=Zgi hn hpre hwl;refine enter_call (Lp (call w s₀ s₁ mg mb fa o pm cd doc a vs ns G Y ho (fd_plain hd) hcd hmg hobj hints hlen hg) λr s' hq=>?_);let⟨rfl,h2,h3,h4⟩:=hq;exists .inl ⟨.bool true,.bool true,[],rfl,λ_=>rfl,.bool true,Zg5 l _,λ_=>⟨Jdq,λ_ hm=>(nomatch hm)⟩⟩,h2,h3,h4
end Att
namespace L2
open PySem PySem.Spec PyProof.Rows
theorem N1:∀{vs:List Value}{ns:List Int},Eg vs ns->Vals (ns.map V.int) vs:=by
 intro _ _ hz9;cases hz9 with
 |nil=>
  exact .nil
 |cons n t h=>
  exact .cons ⟨t,rfl⟩ (N1 h)
def Uz(s:Stmt)(j:Nat):Stmt:=match s with
 |.ClassDef _ _ _ body _ _ _ _ _ _ _=>body.getD j (.Pass ⟨0,0,0,0⟩)
 |_=>.Pass ⟨0,0,0,0⟩
def Wi(s:Stmt):Arguments:=match s with
 |.FunctionDef _ a _ _ _ _ _ _ _ _=>a
 |_=>{posonlyargs:=[],args:=[],vararg:=none,kwonlyargs:=[],kw_defaults:=[],kwarg:=none,defaults:=[]}
def Xs(s:Stmt):List Stmt:=match s with
 |.FunctionDef _ _ b _ _ _ _ _ _ _=>b
 |_=>[]
def Zo(s:Stmt):Scope:=match s with
 |.FunctionDef _ _ _ _ _ _ sc _ _ _=>sc
 |_=>{kind:=.function,names:=[],isGenerator:=false,isCoroutine:=false}
abbrev CX0:CXT:=λ_ _ _ _ _ _=>False
abbrev E0:XK:=λ_ _ _=>False
def Zkn :Qg CX0 X E0:=λ_ _ _ _ _ _ _ h=>h.elim
structure Fun(K:Ck)(x qual:Str)(st:Stmt)(f:Addr)(fd:Ln):Prop where
 ex:∃(oc:Value)(od:Option Addr)(kV doc pm:Value)(an:Option Addr)(cdv ct:Value)(osl:Array (Option Value)),
  fd=Jb7 x qual (Wi st) (Xs st) (Zo st) .none kV doc pm an cdv ct/\K.lookup f=some ⟨oc,od,.func fd,osl⟩/\Jc5 K cdv qual=true
 kp:Jb1 K (.ref f)=true
section
variable{base:Heap}
def Fun.ok{x:Str}{f:Addr}{k:Nat}{sp:Sp}(F:Fun K x qual st f fd)(S:FnScope N ps (Zo st))(len:∀vs H Q E,sp vs H Q E->vs.length=ps.length)(hbody:∀(cdv:Value)(A:Kf)(outer:List Env)(s:Ca)(H:Hp)(vs:List V)(Q:VK)(E:XK),Room k (A.deeper (Lj qual (Zo st) s.heap.objs.size f cdv))->sp vs H Q E ->
   ∃t,PSs (cxOf CX0 P w K mg base N qual (Zo st) f cdv A outer s H E).nox (Xs st) t/\t {nx:=λ_ H'=>Q .non H',rt:=Q} (Tb N vs) H):FnOk P w K mg base CX0 (k+1) f fd ps sp:=by
 let⟨oc,od,kV,doc,pm,an,cdv,ct,osl,rfl,lk,hcd⟩:=F.ex;refine Zse lk hcd S len λA outer s H vs Q E hr hsp=>?_;let⟨t,h,q⟩:=hbody cdv A outer s H vs Q E hr hsp;exists t,h.nox,q
def Fun.binds{x:Str}{f:Addr}(F:Fun K x qual st f fd)(h:∀(kV doc pm:Value)(an:Option Addr)(cdv ct:Value)(us:List Value),us.length=ps.length->Jc4 (Jb7 x qual (Wi st) (Xs st) (Zo st) .none kV doc pm an cdv ct) ⟨us,[]⟩=pure (ps.zip us)):Si K fd ps []:=by
 let⟨oc,od,kV,doc,pm,an,cdv,ct,osl,rfl,lk,hcd⟩:=F.ex;exact .all (h kV doc pm an cdv ct)
def Zii{x:Str}{f:Addr}{oc:Value}{od an:Option Addr}{osl:Array (Option Value)}{kV doc cdv ct:Value}(l:K.lookup f=some ⟨oc,od,.func (Jb7 x qual (Wi st) (Xs st) (Zo st) .none kV doc pm an cdv ct),osl⟩)(c:Jc5 K cdv qual=true)(k:Jb1 K (.ref f)=true):Fun K x qual st f (Jb7 x qual (Wi st) (Xs st) (Zo st) .none kV doc pm an cdv ct):=⟨⟨oc,od,kV,doc,pm,an,cdv,ct,osl,rfl,l,c⟩,k⟩
end
def Wf{k:Nat}(hr:Room k A):A.units+1<cLine:=Gz (Nat.add_le_add_left (by decide:1<=64) _) hr.units
section
def pv(i:Nat){x:Str}(hN:X.N[i]?=some x:=by rfl)(hv:Vis X.env.scope x:=by first|left;rfl|right;left;rfl|right;right;rfl)(hd:(x==("__debug__":Str))=false:=by decide)(hcd:(x==("__classdict__":Str))=false:=by decide):PE X (.Name x pos) (tVar i):=Zrg hN hv hd hcd
end
def iteF{A:Prop}(h:B):if false=true then A else B:=by
 rw[Ds Jt];exact h
def iteT{A:Prop}(h:A):if true=true then A else B:=by
 rw[Dt rfl];exact h
def ite2{c A:Prop}[Decidable c](h1:c->A)(h2:¬ c->B):if c then A else B:=by
 by_cases h:c
 .rw[Dt h];exact h1 h
 .rw[Ds h];exact h2 h
def Zum{c A:Prop}[Decidable c](hc:c)(h:B):if(!decide c)=true then A else B:=by
 rw[Du hc];exact iteF h
def Same(H H':Hp):Prop:=∀b o,H b=some o->H' b=some o
def Same.refl(H:Hp):Same H H:=λ_ _ h=>h
def Same.trans{H2:Hp}(a:Same H H1)(b:Same H1 H2):Same H H2:=λc o h=>b c o (a c o h)
theorem Same.free(e:Same H H')(h:H' l=Option.none):H l=Option.none:=by
 cases q:H l with
 |none=>rfl
 |some o =>
  rw[e l o q]at h;cases h
def Same.seq{a:Addr}(e:Same H H')(h:SqL K H a xs):SqL K H' a xs:=by
 rcases h with(h|⟨o,h⟩)|h
 .exact .inl (.inl (e _ _ h))
 .exact .inl (.inr ⟨o,e _ _ h⟩)
 .exact .inr h
end L2
namespace L2
open PySem
def Wj(cells:List (Str×Addr)):List (Str×Eh)->List (Str×Addr)->List (Str×Addr)
 |[],acc=>acc
 |(n,k)::r,acc=>if k == .free then Wj cells r ((n,(cells.lookup n).getD 0)::acc)else Wj cells r acc
def Zi6(env:Env)(l:List (Str×Eh))(acc:List (Str×Addr)):Sem (List (Str×Addr)):=do
 let mut cs:=acc
 for (name,kind) in l do
  if kind == .free then cs:=(name,<-cellOf env name)::cs
 return cs
theorem Pe{env:Env}:∀(l:List (Str×Eh))(acc:List (Str×Addr)),(∀y∈l,y.2=.free->∃c,env.cells.lookup y.1=some c) ->
  Zi6 env l acc=pure (Wj env.cells l acc)
 |[],acc,_=>rfl
 |(n,k)::r,acc,h=>by
  let ih:=λacc=>Pe r acc λy hy=>h y (Jg _ hy);unfold Zi6 at ih⊢;rw[Wj];cases hk:(k==Cz)with
  |false =>
   simp only[Jel,hk,Jy,if_false,pure_bind]at ih⊢;exact ih acc
  |true =>
   let⟨c,hc⟩:=h (n,k) Ji (by simpa using hk);let hc':env.cells.lookup n=some c:=hc;simp only[Jel,hk,if_true,cellOf,hc',pure_bind,Mo]at ih⊢;exact ih _
def Pc{scope:Scope}{env:Env}(h:∀y∈scope.names,y.2=.free->∃c,env.cells.lookup y.1=some c):Jfq scope env=pure (Wj env.cells scope.names []) :=
 Pe scope.names [] h
theorem U5{cells:List (Str×Addr)}{x:Str} :∀{l:List (Str×Eh)}{acc:List (Str×Addr)},(∀y∈l,y.2=.free->∃c,cells.lookup y.1=some c) ->
  (Wj cells l acc).lookup x=some c->acc.lookup x=some c\/cells.lookup x=some c
 |[],acc,_,h=>.inl h
 |(n,k)::r,acc,hl,h=>by
  rw[Wj]at h
  by_cases hk:(k==Cz)=true
  .rw[Dt hk]at h;let⟨c',hc⟩:=hl (n,k) Ji (by simpa using hk);let hc':cells.lookup n=some c':=hc;rcases U5 (λy hy=>hl y (Jg _ hy)) h with z|z
   .rw[Ba,hc']at z;cases hx:(x==n)with
    |true =>
     rw[hx]at z;let e:x=n:=by simpa using hx
     subst e;let z':c'=c:=by simpa using z
     subst z';exact .inr hc'
    |false=>rw[hx]at z;exact .inl z
   .exact .inr z
  .rw[Ds hk]at h;exact U5 (λy hy=>hl y (Jg _ hy)) h
theorem Vz{cells:List (Str×Addr)}{x:Str}:∀{l:List (Str×Eh)}{acc:List (Str×Addr)},(∃c,acc.lookup x=some c)->∃c,(Wj cells l acc).lookup x=some c
 |[],acc,h=>h
 |(n,k)::r,acc,h=>by
  rw[Wj]
  by_cases hk:(k==Cz)=true
  .rw[Dt hk];refine Vz ?_;rw[Ba];cases hx:(x==n)with
   |true=>exact⟨_,rfl⟩
   |false=>exact h
  .rw[Ds hk];exact Vz h
theorem Ue{cells:List (Str×Addr)}{x:Str}:∀{l:List (Str×Eh)}{acc:List (Str×Addr)},(x,Cz)∈l->∃c,(Wj cells l acc).lookup x=some c
 |[],acc,h=>nomatch h
 |(n,k)::r,acc,h=>by
  rw[Wj];rcases Gi.mp h with e|h
  .cases e;rw[Dt (by rfl)];refine Vz ?_;rw[Ba,beq_self_eq_true];exists ·
  .by_cases hk:(k==Cz)=true
   .rw[Dt hk];exact Ue h
   .rw[Ds hk];exact Ue h
def Vq{scope:Scope}{env:Env}(nc:∀y∈scope.names,y.2≠.cell){x:Str}(h:(Jgo scope env).names.lookup x=some .cell\/(Jgo scope env).names.lookup x=some .free):(x,Cz)∈scope.names:=by
  let go:∀(l:List (Str×Eh)),(∀y∈l,y.2≠.cell) ->
      ((l.map λ(n,k)=>if(k==Cz&&env.scope.kind == .function&&env.kindOf n==some .cell)then(n,K4)else(n,k)).lookup x=some .cell \/
       (l.map λ(n,k)=>if(k==Cz&&env.scope.kind == .function&&env.kindOf n==some .cell)then(n,K4)else(n,k)).lookup x=some .free)->(x,Cz)∈l:=by
    intro l
    induction l with
    |nil=>intro _ h;rcases h with h|h<;>cases h
    |cons a r ih =>
      let⟨n,k⟩:=a;intro nc h;let nck:k≠.cell:=nc (n,k) Ji;simp only[Jp]at h
      by_cases hx:(x==n)=true
      · let e:x=n:=by simpa using hx
        subst e
        by_cases hk:k=.free
        · subst hk;exact Ji
        · let hb:(k==Cz)=false:=by simpa using hk
          simp only[hb,Jeu,Jy,if_false,Ba,beq_self_eq_true]at h;rcases h with h|h
          · exact absurd (Dw h) nck
          · exact absurd (Dw h) hk
      · let hx':(x==n)=false:=by simpa using hx
        refine Jg _ (ih (λy hy=>nc y (Jg _ hy)) ?_);let el:∀(p:Str×Eh)(t:List (Str×Eh)),p.1=n->(p::t).lookup x=t.lookup x:=by
          intro p t e;let⟨a,b⟩:=p;let e':a=n:=e;subst e';rw[Ba,hx']
        rw[el _ _ (by split<;>rfl)]at h;exact h
  exact go scope.names nc h
def Tj{scope:Scope}{env:Env}{x:Str}(h:(Jgo scope env).names.lookup x=some .local):scope.names.lookup x=some .local:=by
 let go:∀(l:List (Str×Eh)),
   (l.map λ(n,k)=>if(k==Cz&&env.scope.kind == .function&&env.kindOf n==some .cell)then(n,K4)else(n,k)).lookup x=some .local->l.lookup x=some .local:=by
  intro l
  induction l with
  |nil=>intro h;cases h
  |cons a r ih =>
   let⟨n,k⟩:=a;intro h;simp only[Jp]at h
   by_cases hx:(x==n)=true
   .let e:x=n:=by simpa using hx
    subst e
    by_cases hc:(k==Cz&&env.scope.kind == .function&&env.kindOf x==some .cell)=true
    .rw[Dt hc,Ba,beq_self_eq_true]at h;cases h
    .rw[Ds hc,Ba,beq_self_eq_true]at h;rw[Ba,beq_self_eq_true];exact h
   .let hx':(x==n)=false:=by simpa using hx
    let el:∀(p:Str×Eh)(t:List (Str×Eh)),p.1=n->(p::t).lookup x=t.lookup x:=by
     intro p t e;let⟨a,b⟩:=p;let e':a=n:=e;subst e';rw[Ba,hx']
    rw[el _ _ (by split<;>rfl)]at h;rw[el _ _ rfl];exact ih h
 exact go scope.names h
end L2
namespace L2
open PySem PySem.Spec PyProof.Rows
def nbOf(N T:List Str)(cs:List Nat):List Str:=T++cs.map λi=>N.getD i Jc3
def sgOf(σ:St)(T:List Str)(cs:List Nat):St:=T.map (λ_=>none)++cs.map λi=>σ.getD i none
structure CScope(outer scope:Scope)(N T:List Str)(cs:List Nat):Prop where
 kind:scope.kind=.function
 nocell:∀y∈scope.names,y.2≠.cell
 names:∀y∈scope.names,y.2=.local->scope.names.lookup y.1=some .local
 free:∀y∈scope.names,y.2=.free->outer.names.lookup y.1=some .cell\/outer.names.lookup y.1=some .free
 cap:∀i∈cs,scope.names.lookup (N.getD i Jc3)≠some .local
def Zi4(outer scope:Scope)(N:List Str)(cs:List Nat):Bool :=
 decide (scope.kind=.function)&&(scope.names.all (λy=>!decide (y.2=K4))&&(scope.names.all (λy=>!decide (y.2=Eh.local) ||decide (scope.names.lookup y.1=some Eh.local)) &&
  (scope.names.all (λy=>!decide (y.2=Cz) ||(decide (outer.names.lookup y.1=some K4) ||decide (outer.names.lookup y.1=some Cz)))&&cs.all (λi=>!decide (scope.names.lookup (N.getD i Jc3)=some Eh.local)))))
def CScope.ok{outer scope:Scope}(h:Zi4 outer scope N cs=true):CScope outer scope N T cs:=by
 unfold Zi4 at h;simp only[By,List.all_eq_true,Bool.or_eq_true,decide_eq_true_eq,Bool.not_eq_true',decide_eq_false_iff_not]at h;let⟨h1,h2,h3,h4,h5⟩:=h;exists h1,h2,λy hy e=>(h3 y hy).resolve_left (λq=>q e),λy hy e=>(h4 y hy).resolve_left (λq=>q e),h5
def Y0{l:List Str}(h:decide l.Nodup=true):l.Nodup:=of_decide_eq_true h
def blk(X:Cx)(T:List Str)(cs:List Nat)(scope:Scope)(C:Addr)(s₀:Ca)(H₀:Hp)(ex:List Addr):Cx where
 prog:=X.prog
 w:=X.w
 K:=X.K
 mg:=X.mg
 base:=X.base
 A:=X.A
 N:=nbOf X.N T cs
 s₀:=s₀
 H₀:=H₀
 env:=compEnvC scope (Wj X.env.cells scope.names []) C X.env
 outer:=X.stack
 stack:=X.stack
 ex:=ex
 fn:=λ_=>false
 calm:=X.calm
 pn:=[]
 xe:=λ_ _=>False
section
variable{scope:Scope} 
def Inv.hl(I:Inv X pq σ H s)(S:CScope X.env.scope scope X.N T cs):∀y∈scope.names,y.2=.free->∃c,X.env.cells.lookup y.1=some c :=
 λy hy e=>I.ok.has y.1 (S.free y hy e)
def Inv.clo(I:Inv X pq σ H s)(S:CScope X.env.scope scope X.N T cs){x:Str}(h:(Wj X.env.cells scope.names []).lookup x=some c):X.env.cells.lookup x=some c :=
 (U5 (I.hl S) h).resolve_left (by simp)
theorem Zo1(I:Inv X pq σ H s)(S:CScope X.env.scope scope X.N T cs)(hf:∀b∈fp,FpOk X pq H b)(hfe:∀b∈fp,∃o,s.heap.get? b=some o){C:Addr}{h1:Heap}{m:Str->Option Value}{tk:Nat}(hC:s.heap.objs.size<=C)(ns:h1.Ns C m)(k:∀b o,s.heap.get? b=some o->h1.get? b=some o) :
  Inv (blk X T cs scope C s H fp) [] (sgOf σ T cs) H {s with heap:=h1,toks:=tk}:=by
 let fr:H C=none:=I.hok.fresh hC;let cellS:∀{c:Addr}{v:Option Value},s.heap.IsCell c v->h1.IsCell c v:=λ⟨o,e,d⟩=>⟨o,k _ o e,d⟩;refine⟨⟨I.ok.mod,S.kind,I.ok.glob,I.ok.blt,hC,λx y c e1 e2=>I.ok.inj x y c (I.clo S e1) (I.clo S e2),λx hx=>Ue (Vq S.nocell hx),λx c h _=>absurd (show false=true from h) Jt,
  I.ok.hd,I.ok.frames,.inl rfl,λb hb=>⟨?_,λx c e=>(hf b hb).2.2.2.2.1 x c (I.clo S e)⟩,I.bs,J9 I.ok.bsz I.sz,λb o e hb=>?_,λb hb z=>?_,I.stack,I.stkFree⟩,
  rfl,I.bare,Un.kept k,⟨m,ns,λi x v h1' h2' h3'=>?_⟩,λx c e=>?_,fr,λx c e=>I.freeC x c (I.clo S e),λp hp=>absurd (show p∈([]:List (Addr×Obj))from hp) (by simp),I.hok.kept k,?_⟩
 .let⟨o,e⟩:=hfe b hb;exact Gj (Gk (Dq e) hC)
 .rcases(hf b hb).2.2.2.1 with z|z
  .exact I.ok.noex b o e z
  .exact absurd (Gk (Gk (Dq e) I.ok.bsz) z) (Bi _)
 .rcases Gi.mp (I.stkSub b z)with e|e
  .exact(hf b hb).2.1 e
  .exact(hf b hb).2.2.1 e
 .let h2:(sgOf σ T cs)[i]?=some (some v):=h2';let h1'':(nbOf X.N T cs)[i]?=some x:=h1';unfold sgOf at h2;unfold nbOf at h1''
  by_cases hi:i<T.length
  .rw[Js (by simpa using hi),Ge]at h2;cases e:T[i]? with
   |none=>rw[e]at h2;cases h2
   |some a=>rw[e]at h2;cases h2
  .rw[J8 (by simpa using hi),Ge,Ja]at h2;rw[J8 (),Ge]at h1'';cases e:cs[i-T.length]? with
   |none=>rw[e]at h2;cases h2
   |some c0 =>
    rw[e]at h2 h1'';let ex:X.N.getD c0 Jc3=x:=Dw h1'';let ev:σ.getD c0 none=some v:=Dw h2;let eσ:σ[c0]?=some (some v):=by
     rw[Gf]at ev;cases q:σ[c0]? with
     |none=>rw[q]at ev;cases ev
     |some z=>rw[q]at ev;exact congrArg some ev
    let hlt:c0<X.N.length:=by
     let:=(Je.mp eσ).1;rw[I.len]at this;exact this
    let eN:X.N[c0]?=some x:=by
     rw[Gf,Jb hlt]at ex;rw[Jb hlt];exact congrArg some ex
    let hfree:(x,Cz)∈scope.names:=by
     rcases h3' with z|z|z
     .exact absurd (Tj z) (by rw[<-ex];exact S.cap c0 (Gx e))
     .exact Vq S.nocell (.inl z)
     .exact Vq S.nocell (.inr z)
    let ok:=S.free _ hfree rfl;let⟨m',hn',hl'⟩:=I.loc;let⟨u,r,l⟩:=hl' c0 x v eN eσ (.inr ok);exists u,r,?_;rcases l with⟨kd,_⟩|⟨_,c,ec,z⟩
    .let kd':X.env.scope.names.lookup x=some .local:=kd;rcases ok with q|q<;>(rw[show X.env.scope.names.lookup x=_ from q]at kd';cases kd')
    .let⟨c',ec'⟩:=Ue (cells:=X.env.cells) (acc:=[]) hfree;let:c'=c:=by
      let q:=I.clo S ec';rw[ec]at q;exact(Dw q).symm
     subst this;refine .inr ⟨?_,c',ec',cellS z⟩;rcases h3' with q|q|q
     .exact absurd (Tj q) (by rw[<-ex];exact S.cap c0 (Gx e))
     .exact .inl q
     .exact .inr q
 .let⟨v,z⟩:=I.cell x c (I.clo S e);exists v,cellS z
 .show(sgOf σ T cs).length=(nbOf X.N T cs).length;simp[sgOf,nbOf]
def Inv.track{D:Addr}{n:Nat}(I:Inv X pq σ H s)(hD:s.heap.get? D=some {cls:=.type "list",data:=.seq its.toArray n})(f:FpOk X pq H D)(rv:Vals ys its)(hz:ys.length<=sizeLine) :
  Inv X pq σ (upd H D (.lst ys)) s:=by
 let⟨f0,f1,f2,f3,f4,f5⟩:=f;let hok:HOk X.prog X.w (upd H D (.lst ys)) s.heap:=λb u e=>by
  by_cases hb:b=D
  .subst hb;rw[Zh]at e;cases e;exists hz,its,n,rv,hD
  .rw[Zp hb]at e;exact(I.hok b u e).stay (λ_ _ _ q=>q) (λc q=>by rw[Zp (Zy q f0)];exact q) λc xs q=>by rw[Zp (Zy q f0)];exact q
 let st:=I.step (H':=upd H D (.lst ys)) (h':=s.heap) (g':=s.gens) (t':=s.toks) (d':=s.drawn) (ch:=[D])
  (λb hb=>by
   let e:b=D:=by simpa using hb
   subst e;exact⟨f3,f1,f4,f5⟩)
  (λb o _ _ _ e _=>e) (λb o _ _ _ e _=>⟨o.slots,e⟩) (λb o hc e n=>by rw[Zp (λz=>hc (by simp[z]))];exact n) (λb o _ e=>⟨o,e⟩)
  (λb xs e=>by rw[Zp (Zy e f0)];exact e) (λb o u e=>by rw[Zp (Zy e f0)];exact e) (λb ps e=>⟨#[],by rw[Zp (Zy e f0),e];simp⟩) (λm h=>h) hok I.bare
 exact st
end
section
variable{R:Jgu->Ca->Prop} 
abbrev Zfy(ifs:List Expr)(env:Env):Sem Bool:=forIn ifs true λc r=>if r=true then do let ok <-isTrue c env (eval c env);pure (C3 ok)else pure (C3 r)
theorem Za6{elt target iter:Expr}{ifs:List Expr}{scope:Scope}{it acc:Value}{env:Env}(I:Nat->Ca->Prop)(turn:∀n s,I n s->Cc (Cg prog w) A (Jb5 it) (λr s₁=>match r with
   |none=>R (.ok .next) s₁
   |some v=>Cc (Cg prog w) A (K9 target it v) (λ_ s₂=>Cc (Cg prog w) A (Jdx target env v) (λ_ s₃ =>
     Cc (Cg prog w) A (Zfy ifs env) (λok s₄ =>
      if ok=true then Cc (Cg prog w) A (eval elt env) (λx s₅ =>
       Cc (Cg prog w) A (call (.builtin "list.append") [acc,x]) (λ_ s₆=>∃m,m<n/\I m s₆) (λ_ _=>False) s₅) (λ_ _=>False) s₄
      else ∃m,m<n/\I m s₄) (λ_ _=>False) s₃) (λ_ _=>False) s₂) (λ_ _=>False) s₁) (λ_ _=>False) s)(n:Nat)(h:I n s) :
  Ld (Cg prog w) A (.compLoop (.ListComp elt [⟨target,iter,ifs,0⟩] scope pos) 0 it acc env) R s:=by
 refine codeAny_loop rfl I (λn s hI=>?_) n h;show Cc _ A ((compTurn (.ListComp elt [⟨target,iter,ifs,0⟩] scope pos) 0 it acc env).onRaise (λx=>do noteFrame x env;theTreesLotGoes x)) _ _ s;refine wpAny_noted ?_;rw[compTurn_list];refine Dm (K2 (Dm (Dy (turn n s hI) (λr s₁ h₁=>?_) λ_ _ h'=>Cr h')));cases r with
 |none=>exact Dn h₁
 |some v =>
  refine Dm (Dy h₁ (λ_ s₂ h₂=>?_) λ_ _ h'=>Cr h');refine Dm (Dy h₂ (λ_ s₃ h₃=>Dm (Dy h₃ (λok s₄ h₄=>?_) λ_ _ h'=>Cr h')) λ_ _ h'=>Cr h');cases ok with
  |false=>exact Dn ⟨rfl,h₄⟩
  |true =>
   exact Dm (Dm (Dy h₄ (λx s₅ h₅=>Dm (Dy h₅ (λ_ s₆ h₆=>Dn (Dn ⟨rfl,h₆⟩)) λ_ _ h'=>Cr h')) λ_ _ h'=>Cr h'))
end
def PTs(X:Cx)(ifs:List Expr)(t:TT):Prop :=
 ∀(pq:List (Addr×Obj))(s:Ca)(σ:St)(H:Hp)(Q:Bool->Hp->Prop),Inv X pq σ H s->t σ H Q->Cc (Cg X.prog X.w) X.A (Zfy ifs X.env) (TP X pq σ Q) X.xe s
def Zqd:TT:=λ_ H Q=>Q true H
def Yv :PTs X [] Zqd:=λpq s σ H Q I h=>wpAny_tests_nil ⟨H,I,h⟩
def W9{c:Expr}{t:TT}(hc:PT X c t):PTs X [c] t:=λpq s σ H Q I h=>wpAny_tests_one (hc pq s σ H Q I h)
def Ag(n:Nat)(σ σ0:St):Prop:=σ.length=σ0.length/\∀i,n<=i->σ[i]?=σ0[i]?
def Zbm(g:TG)(n:Nat):Prop:=∀σ0 x σ H R,Ag n σ σ0->g x σ H R->g x σ H λσ2 H2=>R σ2 H2/\Ag n σ2 σ0
def Ny(g:TGs)(n:Nat):Prop:=∀σ0 xs σ H R,Ag n σ σ0->g xs σ H R->g xs σ H λσ2 H2=>R σ2 H2/\Ag n σ2 σ0
theorem Ag.set{n i:Nat}{σ0:St}(a:Ag n σ σ0)(h:i<n)(v:Option V):Ag n (σ.set i v) σ0 :=
 ⟨by rw[Bk];exact a.1,λj hj=>(Ff ()).trans (a.2 j hj)⟩
def Yw{i n:Nat}(h:i<n):Zbm (Zcp i) n:=λσ0 x σ H R a q=>⟨q,a.set h _⟩
def Vb{n:Nat}:Ny gNil n:=λσ0 xs σ H R a q=>⟨q.1,q.2,a⟩
def Yj{i n:Nat}{u:TGs}(h:i<n)(h2:Ny u n):Ny (Zo7 (Zcp i) u) n:=λσ0 xs σ H R a q=>by
 let⟨v,r,e,q⟩:=q;exists v,r,e,h2 σ0 r _ _ _ (a.set h _) q
def Tr{m n:Nat}{t:TGs}(h:Ny t n):Zbm (gTup K m t) n:=λσ0 x σ H R ag q=>by
 let⟨a,xs,e,hq,hl,q⟩:=q;exists a,xs,e,hq,hl,h σ0 xs σ H R ag q
section
variable{scope:Scope}{elt iter:Expr}{ifs:List Expr}{g:TG}{tt:TT} 
theorem Za5{RR:Value->Addr->Jgu->Ca->Prop}{Fin:List V->Hp->Prop}{J:It}{tn:Nat->Heap->Prop}(I:Inv X pq σ H s)(hc:X.calm=true)(S:CScope X.env.scope scope X.N T cs)(Tn:Turn X.prog X.w X.K tg J fp it tn)(st:tn 0 s.heap)(hf:∀b∈fp,FpOk X pq H b)(hg:∀C s₀ H₀ ex,PG (blk X T cs scope C s₀ H₀ ex) tg g)(ht:∀C s₀ H₀ ex,PTs (blk X T cs scope C s₀ H₀ ex) ifs tt)(he:∀C s₀ H₀ ex,PE (blk X T cs scope C s₀ H₀ ex) elt te)(hk:Zbm g T.length)(W:Nat->Nat->List V->Hp->Prop)(w0:∃m,W 0 m [] H)(turn:∀i m ys H,W i m ys H->(J.stop i H/\ys.length<=sizeLine/\Fin ys H)\/(J.go i H/\ys.length<sizeLine/\∃N:List V->Hp->Prop,(∀ys' H',N ys' H'->∃m',m'<m/\W (i+1) m' ys' H') /\
   ∀x H',J.yld i H x H'->g x (sgOf σ T cs) H' λσ2 H2=>tt σ2 H2 λb H3=>if b=true then te σ2 H3 λy H4=>N (ys++[y]) H4 else N ys H3))(fin:∀(D C:Addr)(s':Ca)(m:Str->Option Value)(ys:List V)(H':Hp),Fin ys H'->H' D=none->s'.heap.Ns C m->FpOk X pq H' C->C≠D->Inv X pq σ (upd H' D (.lst ys)) s'->RR (.ref D) C (.ok .next) s') :
  Cc (Cg X.prog X.w) X.A (newList []) (λacc s₃=>Cc (Cg X.prog X.w) X.A (newFunctionEnv scope X.env.globals (Wj X.env.cells scope.names []) [] X.env.qual none .none (some X.env)) (λcenv s₄ =>
   Ld (Cg X.prog X.w) X.A (.compStart (.ListComp elt [⟨tg,iter,ifs,0⟩] scope pos) 0 (.ref it) acc {cenv with scope:=Jgo scope X.env}) (RR acc cenv.locals) s₄) E s₃) E s:=by
 refine C6 (wpAny_newFunctionEnv S.nocell (by intro y hy;simp at hy) (λh₁ hns₁ hsb₁=>?_) S.kind);dsimp only at hns₁ hsb₁⊢;generalize hH2:s.heap.push {cls:=.type "list",dict:=none,data:=.seq ([]:List Value).toArray}=H2 at hns₁ hsb₁⊢;let hCe:H2.objs.size=s.heap.objs.size+1:=by rw[<-hH2,Jb6]
 let hDC:s.heap.objs.size≠H2.objs.size:=by rw[hCe];exact Gj (Fo _)
 let hCle:s.heap.objs.size<=H2.objs.size:=by rw[hCe];exact Fu _
 let old:∀b o,s.heap.get? b=some o->h₁.get? b=some o:=λb o e =>
  hsb₁.extBut b o (by rw[hCe];exact Gj (Bu (Dq e))) (Do _ (hH2 ▸ Do _ e))
 let hacc:h₁.get? s.heap.objs.size=some {cls:=.type "list",data:=.seq ([]:List Value).toArray 0}:=hsb₁.extBut _ _ hDC (Do _ (hH2 ▸ Dp _ rfl));let hfe:∀b∈fp,∃o,s.heap.get? b=some o:=λb hb=>let⟨o,e,_⟩:=Tn.obj _ _ st b hb;⟨o,e⟩
 let hlt:∀b∈fp,b<s.heap.objs.size:=λb hb=>let⟨o,e⟩:=hfe b hb;Dq e
 let st₁:tn 0 h₁:=Tn.keep _ _ _ st λb _ o e=>old b o e;generalize hDD:s.heap.objs.size=D at *
 generalize hCC:H2.objs.size=C at *
 let hnD:H D=none:=I.hok.fresh (F8 hDD);let stat:∀{H':Hp}{its:List Value}{n:Nat},(∀b∈fp,H' b=none)->∀b∈fp,FpOk (blk X T cs scope C s H fp) [(D,({cls:=.type "list",data:=.seq its.toArray n}:Obj))] H' b:=λhn b hb=>by
  let⟨f0,f1,f2,f3,f4,f5⟩:=hf b hb;exists hn b hb,Gj (Gk (hlt b hb) hCle),λz=>?_,.inl hb,λx c e=>f4 x c (I.clo S e),λp hp z=>?_
  .rcases Gi.mp (I.stkSub b z)with e|e
   .exact f1 e
   .exact f2 e
  .let e:p.1=D:=by
    rcases Jw.mp hp with q|q
    .exact absurd (show p∈([]:List (Addr×Obj))from q) (by simp)
    .rw[Jf.mp q]
   exact absurd (hlt b hb) (by rw[<-z,e];exact Bi _)
 let loop:∀tk:Nat,Ld (Cg X.prog X.w) X.A (.compLoop (.ListComp elt [⟨tg,iter,ifs,0⟩] scope pos) 0 (.ref it) (.ref D) (compEnvC scope (Wj X.env.cells scope.names []) C X.env)) (RR (.ref D) C) {s with heap:=h₁,toks:=tk}:=by
  intro tk;let I1:Inv (blk X T cs scope C s H fp) [] (sgOf σ T cs) H {s with heap:=h₁,toks:=tk}:=Zo1 I S hf hfe (by rw[hDD];exact hCle) hns₁ old;let⟨m0,w0⟩:=w0;let pinD:∀{σ':St}{H':Hp}{s':Ca}{its:List Value}{n:Nat}{pl:List (Addr×Obj)},Inv (blk X T cs scope C s H fp) pl σ' H' s'->s'.heap.get? D=some {cls:=.type "list",data:=.seq its.toArray n}->H' D=none ->
    Inv (blk X T cs scope C s H fp) [(D,({cls:=.type "list",data:=.seq its.toArray n}:Obj))] σ' H' s':=λ{σ' H' s' its n pl}J e hn=>J.pins_of λp hp=>by
   obtain rfl:=Jf.mp hp;refine⟨e,hn,hDC,λz=>?_,λv q=>by cases q⟩;let z':D∈frs X.stack:=z;let⟨_,o,ho,_⟩:=I.stack.mem z';exact absurd (Dq ho) (by rw[hDD];exact Bi _)
  refine Za6 (λn s'=>∃(i:Nat)(ys:List V)(its:List Value)(k:Nat)(H':Hp),Inv (blk X T cs scope C s H fp) [(D,({cls:=.type "list",data:=.seq its.toArray k}:Obj))] (sgOf σ T cs) H' s'/\Vals ys its/\tn i s'.heap/\(∀b∈fp,H' b=none)/\W i n ys H') ?_ m0
   ⟨0,[],[],0,H,pinD I1 hacc hnD,.nil,st₁,λb hb=>(hf b hb).1,w0⟩
  rintro n s1 ⟨i,ys,its,k,H1,J1,rv,st1,fr1,w1⟩;rcases turn i n ys H1 w1 with⟨stop,hz,fq⟩|⟨go,hz,N,hN,step⟩
  .refine Dy (Tn.done (blk X T cs scope C s H fp) rfl rfl rfl hc i _ s1 _ H1 (λ_ _=>False) J1 (stat fr1) st1 stop) (λr s2 hz=>?_) λ_ _ z=>z;let⟨hr,J2⟩:=hz;subst hr;let⟨eD,nD,_⟩:=J2.pin (D,({cls:=.type "list",data:=.seq its.toArray k}:Obj)) (Jm _ (Jf.mpr rfl));let J3:Inv X pq σ H1 s2:=I.call' (ch:=fp) J2.os J2.base J2.hok J2.bare λb hb=>by
    let⟨f0,f1,f2,f3,f4,f5⟩:=hf b hb;exists f3,f1,f4,f5
   let⟨mC,hnC,_⟩:=J2.loc;let fC:FpOk X pq H1 C:=I.fpOk (by rw[hDD];exact hCle) J2.free;let fD:FpOk X pq H1 D:=I.fpOk (F8 hDD) nD;exact fin D C s2 mC ys H1 fq nD hnC fC (Et hDC) (J3.track eD fD rv hz)
  .refine Dy (Tn.item (blk X T cs scope C s H fp) rfl rfl rfl hc i _ s1 _ H1 (λ_ _=>False) J1 (stat fr1) st1 go) (λr s2 hz=>?_) λ_ _ z=>z;let⟨u,hr,h2⟩:=hz;subst hr;refine Dy h2 (λ_ s3 hz=>?_) λ_ _ z=>z;let⟨x,H3,J3,r3,y3,st3,fr3⟩:=hz;let J3':=J3.pinned (stat fr3) (Tn.obj _ _ st3);refine Dy (hg C s H fp _ s3 _ H3 x u _ J3' r3 (hk (sgOf σ T cs) x _ H3 _ ⟨rfl,λ_ _=>rfl⟩ (step x H3 y3))) (λ_ s4 hz=>?_) λ_ _ z=>z;let⟨σ4,H4,J4,q4,l4,k4⟩:=hz;refine Dy (ht C s H fp _ s4 σ4 H4 _ J4 q4) (λb s5 hz=>?_) λ_ _ z=>z;let⟨H5,J5,q5⟩:=hz;let wk:∀{pl:List (Addr×Obj)}{H':Hp}{s':Ca},Inv (blk X T cs scope C s H fp) pl σ4 H' s'->Inv (blk X T cs scope C s H fp) pl (sgOf σ T cs) H' s':=λJ=>J.weak l4.symm λj v e=>by
    by_cases hj:T.length<=j
    .rw[k4 j hj];exact e
    .exfalso
     unfold sgOf at e;rw[Js (by simp;lia),Ge]at e;cases q:T[j]? with
     |none=>rw[q]at e;cases e
     |some a=>rw[q]at e;cases e
   let tnk:∀{H':Hp}{s':Ca}{σ':St},Inv (blk X T cs scope C s H fp) ([(D,({cls:=.type "list",data:=.seq its.toArray k}:Obj))]++Zag fp s3.heap) σ' H' s'->tn (i+1) s'.heap/\∀b∈fp,H' b=none:=λ{H' s' σ'}J=>by
    exists Tn.keep _ _ _ st3 λb hb o e=>(J.pin (b,o) (Jm _ (Jm _ (Uc hb e)))).1,λb hb=>?_;let⟨o,e,d⟩:=Tn.obj _ _ st3 b hb;exact(J.pin (b,o) (Jm _ (Jm _ (Uc hb e)))).2.1
   cases b with
   |false =>
    rw[Ds Jt]at q5⊢;let⟨m',hm,w5⟩:=hN _ _ q5;let⟨t5,f5⟩:=tnk J5;exists m',hm,i+1,ys,its,k,H5,wk J5.unpinned,rv,t5,f5,w5
   |true =>
    rw[Dt rfl]at q5⊢;refine Dy (he C s H fp _ s5 σ4 H5 _ J5 q5) (λuy s6 hz=>?_) λ_ _ z=>z;let⟨y,H6,J6,ry,n6⟩:=hz;let⟨m',hm,w6⟩:=hN _ _ n6;let⟨t6,f6⟩:=tnk J6;let⟨eD,nD,_⟩:=J6.pin (D,({cls:=.type "list",data:=.seq its.toArray k}:Obj)) (Jm _ (Gu _ (Jf.mpr rfl)));let hsz:its.toArray.size<=sizeLine:=by rw[Jl,<-rv.length];lia
    refine append_at (hsz:=hsz) eD λh7 sb hD7=>?_;let J6':Inv (blk X T cs scope C s H fp) [] σ4 H6 s6:=J6.pins_of λp hp=>absurd hp (by simp);let J7:Inv (blk X T cs scope C s H fp) [] σ4 H6 {s6 with heap:=h7}:=J6'.turned (t':=s6.toks) (it:=D) (λb o hb e=>(sb.2 b hb).trans e) nD hDC (.inr (F8 hDD))
     (λx c e z=>by
      let⟨v,q⟩:=I.cell x c (I.clo S e);exact absurd q.lt (by rw[z,hDD];exact Bi _))
     (λp hp=>absurd hp (by simp[blk]))
    let hD7':h7.get? D=some {cls:=.type "list",data:=.seq (its++[uy]).toArray (k+1)}:=by
     rw[hD7,Jdr]
    exists m',hm,i+1,ys++[y],its++[uy],k+1,H6,wk (pinD J7 hD7' nD),rv.append (.cons ry .nil),Tn.keep _ _ _ t6 λb hb o e=>(sb.2 b (Gj (hlt b hb))).trans e,f6,w6
 exact codeAny_compStart_list (loop _) (Tn.self _ 0 _ _ _ st₁ (loop _))
def Zf2(wi:TI)(g:TG)(tt:TT)(te:TE)(T:List Str)(cs:List Nat):TE:=λσ H Q=>wi σ H λJ H1=>∃W:Nat->Nat->List V->Hp->Prop,(∃m,W 0 m [] H1) /\
 ∀i m ys H,W i m ys H->(J.stop i H/\ys.length<=sizeLine/\∀p,H p=none->Q (.ref p) (upd H p (.lst ys)))\/(J.go i H/\ys.length<sizeLine/\∃N:List V->Hp->Prop,(∀ys' H',N ys' H'->∃m',m'<m/\W (i+1) m' ys' H') /\
  ∀x H',J.yld i H x H'->g x (sgOf σ T cs) H' λσ2 H2=>tt σ2 H2 λb H3=>if b=true then te σ2 H3 λy H4=>N (ys++[y]) H4 else N ys H3)
def Yq(hc:X.calm=true)(S:CScope X.env.scope scope X.N T cs)(hi:PI X tg iter wi)(hg:∀C s₀ H₀ ex,PG (blk X T cs scope C s₀ H₀ ex) tg g)(ht:∀C s₀ H₀ ex,PTs (blk X T cs scope C s₀ H₀ ex) ifs tt)(he:∀C s₀ H₀ ex,PE (blk X T cs scope C s₀ H₀ ex) elt te)(hk:Zbm g T.length)(hs:∀x,L4 iter X.env x=pure x:=by intro _;rfl):PE X (.ListComp elt [⟨tg,iter,ifs,0⟩] scope pos) (Zf2 wi g tt te T cs):=by
 intro pq s σ H Q I h;rw[eval_ListComp];refine L8 (use:=none) rfl hs (Pc (I.hl S)) S.kind S.names (thn (hi pq s σ H _ I h) λv s1 h1=>thn h1 λitv s2 h2=>?_);let⟨it,fp,tn,J,H2,e,I2,Tn,st,hf,W,w0,turn⟩:=h2;subst e;refine Za5 (RR:=λacc C=>compPost (Cg X.prog X.w) X.A X.xe none (EP X pq σ Q) acc C) (Fin:=λys H=>∀p,H p=none->Q (.ref p) (upd H p (.lst ys))) I2 hc S Tn st hf hg ht he hk W w0 turn ?_;intro D C s' m ys H' q nD hn fC hCD I';exists m,hn,λh' sb=>⟨.ref D,_,I'.turned (t':=s'.toks) (it:=C) (λb o hb e=>(sb.2 b hb).trans e) ?_ fC.2.1 fC.2.2.2.1 fC.2.2.2.2.1 fC.2.2.2.2.2,rfl,q D nD⟩
 rw[Zp hCD];exact fC.1
def Vr{i:Nat}{y:Str}{py spos:Pos}(hN:X.N.Nodup)(hy:X.N[i]?=some y)(hl:X.env.scope.names.lookup y=some .local)(hc:X.calm=true)(S:CScope X.env.scope scope X.N T cs)(hi:PI X tg iter wi)(hg:∀C s₀ H₀ ex,PG (blk X T cs scope C s₀ H₀ ex) tg g)(ht:∀C s₀ H₀ ex,PTs (blk X T cs scope C s₀ H₀ ex) ifs tt)(he:∀C s₀ H₀ ex,PE (blk X T cs scope C s₀ H₀ ex) elt te)(hk:Zbm g T.length)(hs:∀x,L4 iter X.env x=pure x:=by intro _;rfl)(hsw:M7 (.ListComp elt [⟨tg,iter,ifs,0⟩] scope pos) (some (.Name y py)) spos.line X.env=pure true:=by rfl):PS X (.Assign [.Name y py] (.ListComp elt [⟨tg,iter,ifs,0⟩] scope pos) spos) (tAsg (Zf2 wi g tt te T cs) (Zcp i)):=by
 intro pq s σ H D I h;rw[exec_Assign_Name_used _ _ _ _ hsw];refine Dm (K2 (Dm ?_));show Cc _ X.A (do let _ <-comprehension (.ListComp elt [⟨tg,iter,ifs,0⟩] scope pos) scope X.env _ (newList []) false (eval iter X.env) (some (Jdx (.Name y py) X.env))) _ _ s;refine Dm (Dy (L8 (use:=some (Jdx (.Name y py) X.env)) (Q:=λ_ s'=>SP X pq D .next s') rfl hs (Pc (I.hl S)) S.kind S.names
  (thn (hi pq s σ H _ I h) λv s1 h1=>thn h1 λitv s2 h2=>?_)) (λ_ s' hq=>Dn (Dn hq)) λ_ _ e=>e)
 let⟨it,fp,tn,J,H2,e,I2,Tn,st,hf,W,w0,turn⟩:=h2;subst e;refine Za5 (RR:=λacc C=>compPost (Cg X.prog X.w) X.A X.xe (some (Jdx (.Name y py) X.env)) (λ_ s'=>SP X pq D .next s') acc C) (Fin:=λys H=>∀p,H p=none->Zcp i (.ref p) σ (upd H p (.lst ys)) D.nx) I2 hc S Tn st hf hg ht he hk W w0 turn ?_;intro B C s' m ys H' q nB hn fC hCB I';show Cc _ X.A (Jdx (.Name y py) X.env (.ref B)) _ _ s';refine Jdi (N6 (v:=.ref B) I' hN hy (.inl hl) rfl (λs'' I'' hz=>?_) (.inr hl));let⟨a,sb,ha⟩:=hz;let nC:C≠a:=by
  rcases ha with z|z
  .rw[z];exact fC.2.1
  .exact Et (fC.2.2.2.2.1 y a z)
 exists m,hn.sameBut sb nC,λh' sb'=>⟨_,_,I''.turned (t':=s''.toks) (it:=C) (λb o hb e=>(sb'.2 b hb).trans e) ?_ fC.2.1 fC.2.2.2.1 fC.2.2.2.2.1 fC.2.2.2.2.2,q B nB⟩;rw[Zp hCB];exact fC.1
end
theorem U4{J:It}{n:Nat}{g:TG}{tt:TT}{σB:St}{F:List V->Hp->Prop}(Pv:Nat->List V->Hp->Prop)(h0:Pv 0 [] H1)(hn:∀i ys H,Pv i ys H->ys.length<=i)(hz:n<=sizeLine)(hgo:∀i ys H,i<n->Pv i ys H->J.go i H)(hstop:∀ys H,Pv n ys H->J.stop n H)(hs:∀i ys H,i<n->Pv i ys H->∀x H',J.yld i H x H'->g x σB H' λσ2 H2=>tt σ2 H2 λb H3=>if b=true then te σ2 H3 λy H4=>Pv (i+1) (ys++[y]) H4 else Pv (i+1) ys H3)(hd:∀ys H,Pv n ys H->F ys H) :
  ∃W:Nat->Nat->List V->Hp->Prop,(∃m,W 0 m [] H1)/\∀i m ys H,W i m ys H->(J.stop i H/\ys.length<=sizeLine/\F ys H)\/(J.go i H/\ys.length<sizeLine/\∃N:List V->Hp->Prop,(∀ys' H',N ys' H'->∃m',m'<m/\W (i+1) m' ys' H') /\
   ∀x H',J.yld i H x H'->g x σB H' λσ2 H2=>tt σ2 H2 λb H3=>if b=true then te σ2 H3 λy H4=>N (ys++[y]) H4 else N ys H3):=by
 exists λi m ys H=>m=n-i/\i<=n/\Pv i ys H,⟨n,rfl,Gc _,h0⟩,?_;rintro i m ys H ⟨rfl,hi,p⟩;let hl:=hn i ys H p
 by_cases hlt:i<n
 .exact .inr ⟨hgo i ys H hlt p,(),Pv (i+1),λys' H' q=>⟨n-(i+1),(),rfl,hlt,q⟩,hs i ys H hlt p⟩
 .let e:i=n:=by lia
  subst e;exact .inl ⟨hstop ys H p,(),hd ys H p⟩
section
def Zud(K:Ck):V->V->Hp->VK->Prop:=λo i H Q=>∃p xs k v,o=.ref p/\i=.int ((k:Nat):Int)/\SqL K H p xs/\xs[k]?=some v/\Q v H
theorem Zg6:PGet X (Zud X.K):=by
 intro pq s σ H o i ov iv Q I ro ri h;let⟨p,xs,k,v,rfl,rfl,hq,hx,q⟩:=h;cases ro;let⟨t,rfl⟩:=ri;let⟨its,rv,pl,hz⟩:=I.list hq;let⟨u,hu,ru⟩:=rv.get hx;let hk:k<xs.length:=(Je.mp hx).1;let hn:=Q3;exact wpAny_getItem_list pl.isList () () (by simpa using hu) ⟨v,H,I,ru,q⟩
theorem Vals.bl_get{bs:List Bool}(r:Vals (bs.map V.bl) us){i:Nat}{v:Value}(e:us[i]?=some v):∃b,bs[i]?=some b/\v=.bool b:=by
 let hi:i<us.length:=(Je.mp e).1;let hl:=r.length;rw[Ja]at hl;let hb:i<bs.length:=by lia
 let eb:(bs.map V.bl)[i]?=some (V.bl bs[i]):=by rw[Ge,Jb hb];rfl
 let⟨u,hu,ru⟩:=r.get eb;rw[e]at hu;cases hu;exists bs[i],Jb hb,ru
def Zta(bs:List Bool):((Co bs.length).any λi=>(bs[i]?).getD false)=bs.any id:=by
 rw[Fz];simp only[List.any_eq_true,Gw,id]
 constructor
 .rintro⟨i,hi,e⟩;rw[Jb hi]at e;exists _,Ju hi,e
 .rintro⟨b,hb,e⟩;let⟨i,hi,e'⟩:=List.mem_iff_getElem.mp hb;exists i,hi,?_;rw[Jb hi,e'];exact e
def Zlc(hc:X.calm=true):Wz X (.builtin "any") (λxs H Q=>∃(p:Addr)(bs:List Bool),xs=[.ref p]/\SqL X.K H p (bs.map V.bl)/\Q (.bl (bs.any id)) H):=by
 intro pq s σ H xs us Q I r h;let⟨p,bs,rfl,hq,q⟩:=h;let⟨u,rfl,ru⟩:=Qj r;cases ru;let⟨its,rv,pl,hz⟩:=I.list hq;let hlen:=rv.length;rw[Ja]at hlen;let hlt:p<s.heap.objs.size:=by let⟨_,e,_⟩:=pl.isList;exact Dq e
 refine call_any_walk (Kj pl.isList ?_);refine⟨s.heap.objs.size,[s.heap.objs.size,p],[s.heap.objs.size],its.toArray.size,_,_,λi=>(bs[i]?).getD false,rfl,Walks.list (A:=X.A.in1) (I.ok.hd hc) _ p (Gj hlt) its.toArray,
  ⟨⟨_,Dp _ rfl,rfl,rfl⟩,pl.isList.push _⟩,λi v s' Q' E' hP hQ=>?_,λh' tk hk=>?_⟩
 .let⟨b,e,rfl⟩:=rv.bl_get (by simpa using hP);simp only[e,Mo]at hQ;exact Ee hQ
 .rw[Jl,<-hlen,Zta];exists .bl (bs.any id),H,I.kept (t':=tk) (Lm hk),rfl,q
def Zlb:Wz X (.builtin "isinstance") (λxs H Q=>∃x T t b,xs=[x,.ty T]/\TyOf X.K H x t/\Jf0 X.K t (.type T)=some b/\Q (.bl b) H):=by
 intro pq s σ H xs us Q I r h;let⟨x,T,t,b,rfl,ty,e,q⟩:=h;let⟨u,w',rfl,ru,rw'⟩:=Znd r;cases rw';exact Zh7 I ru ty e λtk=>⟨.bl b,H,I.tok tk,rfl,q⟩
def rSlS:V->Option Int->Option Int->Hp->VK->Prop:=λx lo hi H Q=>∃z,x=.str z/\z.length<=sizeLine/\Q (.str (Txt.slice z lo hi)) H
theorem Zqs:SlR X rSlS:=by
 intro pq s σ H x v vl vu lo hi sl Q I rx hs pl pu h;let⟨z,rfl,hz,q⟩:=h;let⟨t,rfl⟩:=rx;exists "str",_,F.slot_str_getitem.lookup,Jfm _ _ _,?_;cases pl with
 |none =>
  cases pu with
  |none=>exact E4 (l:=none) (u:=none) (st:=none) hs rfl (Le ⟨J9 (Txt.slice_le z _ _) hz,λt' k=>⟨.str _,H,I.tok _,⟨_,rfl⟩,q⟩⟩)
  |int j tj=>exact E4 (l:=none) (u:=some (j,tj)) (st:=none) hs rfl (Le ⟨J9 (Txt.slice_le z _ _) hz,λt' k=>⟨.str _,H,I.tok _,⟨_,rfl⟩,q⟩⟩)
 |int i ti =>
  cases pu with
  |none=>exact E4 (l:=some (i,ti)) (u:=none) (st:=none) hs rfl (Le ⟨J9 (Txt.slice_le z _ _) hz,λt' k=>⟨.str _,H,I.tok _,⟨_,rfl⟩,q⟩⟩)
  |int j tj=>exact E4 (l:=some (i,ti)) (u:=some (j,tj)) (st:=none) hs rfl (Le ⟨J9 (Txt.slice_le z _ _) hz,λt' k=>⟨.str _,H,I.tok _,⟨_,rfl⟩,q⟩⟩)
end
mutual
inductive DV(K:Ck)(H:Hp):V->PyData->Prop
 |non:DV K H .non .none
 |bl (b:Bool):DV K H (.bl b) (.bool b)
 |int (i:Int):DV K H (.int i) (.int i)
 |str (x:Str):DV K H (.str x) (.str x)
 |lst {a:Addr} {xs:List V} {ds:List PyData} (h:SqL K H a xs) (r:DVs K H xs ds):DV K H (.ref a) (.list ds)
 |tup {a:Addr} {xs:List V} {ds:List PyData} (h:SqT K H a xs) (r:DVs K H xs ds):DV K H (.ref a) (.tuple ds)
inductive DVs(K:Ck)(H:Hp):List V->List PyData->Prop
 |nil:DVs K H [] []
 |cons {x:V} {d:PyData} {xs:List V} {ds:List PyData} (h:DV K H x d) (r:DVs K H xs ds):DVs K H (x::xs) (d::ds)
end
section
mutual
theorem Tt(I:Inv X pq σ H s):∀{x:V}{d:PyData}{u:Value},DV X.K H x d->RelV x u->∃as,Reads s.heap u d as
 |_,_,u,.non,r=>by obtain rfl:u=Value.none:=r;exists _,Reads.none
 |_,_,u,.bl b,r=>by obtain rfl:u=Hr b:=r;exists _,Reads.bool b
 |_,_,u,.int i,r=>by let⟨t,rfl⟩:=(show ∃t,u=K6 i t from r);exists _,Reads.int i t
 |_,_,u,.str x,r=>by let⟨t,rfl⟩:=(show ∃t,u=Mw x t from r);exists _,Reads.str x t
 |_,_,u,.lst (a:=a) h q,r=>by
  obtain rfl:u=Cb a:=r;let⟨its,rv,⟨o,n,e,c,d,dt⟩,_⟩:=I.list h;let⟨as,ra⟩:=dvs_reads I q rv;exists _,reads_list_at e c dt (by simpa using ra)
 |_,_,u,.tup (a:=a) h q,r=>by
  obtain rfl:u=Cb a:=r;let⟨its,rv,⟨o,e,c,n,dt⟩,_⟩:=I.tuple h;let⟨as,ra⟩:=dvs_reads I q rv;exists _,reads_tuple_at e c dt (by simpa using ra)
theorem dvs_reads(I:Inv X pq σ H s):∀{xs:List V}{ds:List PyData}{us:List Value},DVs X.K H xs ds->Vals xs us->∃as,ReadsAll s.heap us ds as:=by
 intro _ _ _ hz9 hz8;cases hz9 with
 |nil=>
  cases hz8 with
  |nil=>
   exists _,ReadsAll.nil
 |cons h q=>
  cases hz8 with
  |cons r rr=>
   exact by
     let⟨as,ra⟩:=Tt I h r;let⟨bs,rb⟩:=dvs_reads I q rr;exists _,ReadsAll.cons ra rb
end
def rEqD(K:Ck):R2:=λx y H Q=>∃dx dy,DV K H x dx/\DV K H y dy/\Hb dx=true/\Hb dy=true/\Q (.bl (C7 dx dy)) H
def rNeD(K:Ck):R2:=λx y H Q=>∃dx dy,DV K H x dx/\DV K H y dy/\Hb dx=true/\Hb dy=true/\Q (.bl (!PyData.eqv dx dy)) H
def Zdx(hu:X.A.units+64<cLine):OpR X (C8 .Eq) (rEqD X.K):=by
 intro pq s σ H x y v u Q I rx ry h;let⟨dx,dy,hx,hy,sx,sy,q⟩:=h;let⟨as,ra⟩:=Tt I hx rx;let⟨bs,rb⟩:=Tt I hy ry;exact eq_dataH ra rb sx sy hu ⟨.bl _,H,I,rfl,q⟩
def Zro(hu:X.A.units+64<cLine):OpR X (C8 .NotEq) (rNeD X.K):=by
 intro pq s σ H x y v u Q I rx ry h;let⟨dx,dy,hx,hy,sx,sy,q⟩:=h;let⟨as,ra⟩:=Tt I hx rx;let⟨bs,rb⟩:=Tt I hy ry;exact ne_dataH ra rb sx sy hu ⟨.bl _,H,I,rfl,q⟩
end
theorem Ud :∀ns:List Int,DVs K H (ns.map V.int) (ns.map Km)
 |[]=>.nil
 |n::r=>.cons (.int n) (Ud r)
def Cal(P:El)(w:Hd)(K:Ck)(mg:Str->Option Value)(base:Heap)(x:Str)(k:Nat)(ps:List Str)(sp:Sp):Prop :=
 ∃(f:Addr)(fd:Ln),FnOk P w K mg base CX0 k f fd ps sp/\mg x=some (.ref f)/\Jb1 K (.ref f)=true/\Si K fd ps []
section
variable{x:Str}{k:Nat}{sp:Sp}{e:Expr}{t:TA}{p:Pos}
def Zw(C:Cal X.prog X.w X.K X.mg X.base x k ps sp)(hr:Room k X.A)(hg:Gl X x)(ha:PA X (e::es) t)(hdb:(x==("__debug__":Str))=false:=by decide)(he:Cn (e::es) X.env=(false,eval e X.env)::Cn es X.env:=by rfl)(hpl:(Hs pos (Cn es X.env)).any (·.1)=false:=by rfl):PE X (.Call (.Name x p) (e::es) [] pos) (Znl sp [] E0 t):=by
 let⟨f,fd,F,hm,hk,hb⟩:=C;exact Zog F hr hg hm hk hb .nil Zkn ha hdb he hpl
end
def Grow(p:Addr)(H H':Hp):Prop:=∀b o,H b=some o->b≠p->H' b=some o
def Grow.trans{p:Addr}{H2:Hp}(a:Grow p H H1)(b:Grow p H1 H2):Grow p H H2:=λc o e n=>b c o (a c o e n) n
def Grow.same{p:Addr}(s:Same H H'):Grow p H H':=λb o e _=>s b o e
theorem Grow.free{p:Addr}(g:Grow p H H')(h:H' l=none)(n:l≠p):H l=none:=by
 cases q:H l with
 |none=>rfl
 |some o=>rw[g l o q n]at h;cases h
def Zc{p:Addr}{o:HO}(h:H p=none):Same H (upd H p o):=λb u e=>by rw[Zp (Zy e h)];exact e
structure HandAt(H:Hp)(p a:Addr):Prop where
 ex:∃(d k:Int)(cs:List Int),H p=some (.lst [.int d,.int k,.ref a])/\H a=some (.lst (cs.map V.int))/\cs≠[]/\cs.length<=63/\0<=d/\0<=k/\∀c∈cs,0<=c
theorem HandAt.ne{p a:Addr}(h:HandAt H p a):p≠a:=by
 let⟨d,k,cs,e1,e2,_⟩:=h.ex;refine Wa e1 e2 λz=>?_;injection z with z
 cases cs with
 |nil=>cases z
 |cons c r =>
  rw[Jp]at z;injection z with _ z
  cases r with
  |nil=>cases z
  |cons c2 r =>
   rw[Jp]at z;injection z with _ z
   cases r with
   |nil=>cases z
   |cons c3 r=>rw[Jp]at z;injection z with z _;cases z
def HandAt.same{p a:Addr}(h:HandAt H p a)(g:Same H H'):HandAt H' p a:=by
 let⟨d,k,cs,e1,e2,r⟩:=h.ex;exists d,k,cs,g _ _ e1,g _ _ e2,r
def Zdh:Sp:=λvs H Q _=>∃(p a:Addr)(n:Int),vs=[.ref p,.int n]/\HandAt H p a/\0<n/\n<1073741824 /\
 ∀(r:Int)(H':Hp),0<=r->r<n->HandAt H' p a->Grow p H H'->(∀b,b≠p->H' b=H b)->Q (.int r) H'
def Zly(K:Ck):Sp:=λvs H Q _=>∃(s:Addr)(ns:List Int)(i:Int),vs=[.ref s,.int i]/\SqL K H s (ns.map V.int)/\ns.length<=63/\0<=i/\i<2 ^ 60 /\
 ∀(p a:Addr)(H':Hp),H p=none->H a=none->HandAt H' p a->Same H H'->Q (.ref p) H'
theorem Zcy{cs:List Int}(h:cs≠[])(z:Int):∃c,c∈cs/\atI (cs.map V.int) (z % ((cs.map V.int).length:Nat))=some (.int c):=by
 let hl:0<cs.length:=Gh.mpr h;let h0:0<=z % ((cs.map V.int).length:Nat):=Bn _ (by rw[Ja];lia);let h1:z % ((cs.map V.int).length:Nat)<((cs.map V.int).length:Nat):=G8 _ (by rw[Ja];lia);generalize z % ((cs.map V.int).length:Nat)=m at h0 h1;rw[Ja]at h1;let hm:m.toNat<cs.length:=by lia
 let⟨k,rfl⟩:=B1 h0;let hm:k<cs.length:=hm;exists cs[k],Ju hm,Zcz ?_;rw[Ge,Jb hm];rfl
def Shp(n:Nat)(d:PyData):Prop:=d.canLay0=true/\d.depth<=n
def Shp.shaped{n:Nat}{d:PyData}(h:Shp n d)(hn:n<=64):Hb d=true:=by
 unfold Hb;rw[h.1,Bool.true_and];exact Du (J9 h.2 hn)
theorem Zbx{n:Nat}:∀{ds:List PyData},(∀d∈ds,Shp n d)->L9 ds=true/\Ja2 ds<=n
 |[],_=>⟨by simp only[L9],by simp only[Ja2];exact Gc _⟩
 |d::r,h=>by
  let⟨h1,h2⟩:=h d Ji;let⟨h3,h4⟩:=Zbx (n:=n) λx hx=>h x (Jg _ hx);exists by simp only[L9,h1,h3,Bool.and_self],?_;simp only[Ja2];lia
theorem Zdj{n:Nat}{ds:List PyData}(h:∀d∈ds,Shp n d):Shp (n+1) (.list ds):=by
 let⟨h1,h2⟩:=Zbx h;exact⟨by simp only[Lw,h1],by simp only[Ja3];lia⟩
theorem Rf{n:Nat}{ds:List PyData}(h:∀d∈ds,Shp n d):Shp (n+1) (.tuple ds):=by
 let⟨h1,h2⟩:=Zbx h;exact⟨by simp only[Lw,h1],by simp only[Ja3];lia⟩
def Pq(i:Int):Shp 0 (.int i):=⟨by simp only[Lw],by simp only[Ja3];exact Jd _⟩
def Zdk(ns:List Int):Shp 1 (.list (ns.map Km)):=Zdj λd hd=>by
 let⟨i,_,rfl⟩:=Jq.mp hd;exact Pq i
theorem Zpa(ns:List Int):C7 (.list (ns.map Km)) (.list [])=decide (ns=[]):=by
 cases ns with
 |nil=>simp[C7,C0]
 |cons n r=>simp[C7,C0]
theorem Zk7(ns:List Int)(lo hi:Option Int):∃ms:List Int,cutV (ns.map V.int) lo hi=ms.map V.int/\ms.length<=ns.length/\∀c∈ms,c∈ns:=by
 exists(ns.drop (HT.sIx (ns.map V.int).length 0 lo)).take (HT.sIx (ns.map V.int).length (ns.map V.int).length hi-HT.sIx (ns.map V.int).length 0 lo),?_,?_,?_
 .unfold cutV;rw[F2,De]
 .rw[Jv,Ga];lia
 .intro c hc;exact G3 (Gs hc)
def Zk{n:Nat}(h:n<=100000):n<=sizeLine:=J9 h nofun
theorem Zed{as:List V}{j:Int}(h0:0<=j)(h1:j<=as.length):cutV as (some j) none=as.drop j.toNat:=by
 let⟨m,rfl⟩:=B1 h0;unfold cutV;rw[HT.sIx_nat,HT.sIx_none,Fe (),Gr (by rw[Ga];exact Jd _)];rfl
theorem Zi2{as:List V}{j:Int}(h0:0<=j)(h1:j<=as.length):cutV as none (some j)=as.take j.toNat:=by
 let⟨m,rfl⟩:=B1 h0;unfold cutV;rw[HT.sIx_nat,HT.sIx_none,Fe (),F5,Jgd];rfl
def HC(H H4:Hp)(cl:Addr):Prop:=∃as:List Int,Same H H4/\H cl=none/\H4 cl=some (.lst (as.map V.int))/\as≠[]/\as.length<=63/\∀c∈as,0<=c
theorem spun{as:List Int}(hne:as≠[])(i:Int):∃cs:List Int,cutV (as.map V.int) (some (i % ((as.map V.int).length:Nat))) none++cutV (as.map V.int) none (some (i % ((as.map V.int).length:Nat)))=cs.map V.int/\cs≠[]/\cs.length=as.length/\∀c∈cs,c∈as:=by
 let hl:0<as.length:=Gh.mpr hne;let h0:0<=i % ((as.map V.int).length:Nat):=Bn _ (by rw[Ja];lia);let h1:i % ((as.map V.int).length:Nat)<((as.map V.int).length:Nat):=G8 _ (by rw[Ja];lia);generalize i % ((as.map V.int).length:Nat)=j at h0 h1;rw[Zed h0 (),Zi2 h0 ()];rw[Ja]at h1;exists as.drop j.toNat++as.take j.toNat,by rw[Jk,De,F2],?_,?_,?_
 .intro e;let:=congrArg Ex e;rw[Jc,Ga,Jv]at this;simp at this;lia
 .rw[Jc,Ga,Jv];lia
 .intro c hc;rcases Jw.mp hc with z|z
  .exact G3 z
  .exact Gs z
def Zsv{base:Heap}{x:Str}{f:Addr}{k:Nat}{sp:Sp}(F:Fun K x x st f fd)(G:FnOk P w K mg base CX0 k f fd ps sp)(m:mg x=some (.ref f))(b:Si K fd ps []) :
  Cal P w K mg base x k ps sp:=⟨f,fd,G,m,F.kp,b⟩
end L2
namespace L2
open PySem
def Zr5{n:Nat}{k:Int}(h0:0<=k)(h1:k<n):ixN n k=some k.toNat:=by
 unfold ixN;rw[Dt h0,Dt h1]
end L2
set_option maxHeartbeats 4000000
namespace L2
open PySem PySem.W PyProof.Rows
def Rk(rk:Nat->Int)(p:Array Nat)(i:Nat):Int:=rk (p.getD i 0)
def SrtR(rk:Nat->Int)(p:Array Nat)(k:Nat):Prop:=∀i j,i<=j->j<k->Rk rk p i<=Rk rk p j
structure GoodP(n:Nat)(p:Array Nat):Prop where
 perm:p.Perm (Co n).toArray
def GoodP.size{n:Nat}{p:Array Nat}(g:GoodP n p):p.size=n:=by have:=g.perm.size_eq;simpa using this
def GoodP.lt{n:Nat}{p:Array Nat}(g:GoodP n p)(i:Nat)(hi:i<n):p.getD i 0<n:=by
 let hi':i<p.size:=by rw[g.size];exact hi
 let e:p.getD i 0=p[i]:=by simp[He,hi']
 rw[e];let hm:p[i]∈p.toList:=by simp
 let:=(Gq.mp g.perm).mem_iff.mp hm;simpa using this
def GoodP.ne{n:Nat}{p:Array Nat}(g:GoodP n p){i:Nat}(hi:i<n)(hj:j<n)(h:i≠j):p.getD i 0≠p.getD j 0:=by
 let nd:p.toList.Nodup:=(Gq.mp g.perm).nodup_iff.mpr (by simpa using List.nodup_range);let hi':i<p.size:=by rw[g.size];exact hi
 let hj':j<p.size:=by rw[g.size];exact hj
 let e:p.getD i 0=p[i]:=by simp[He,hi']
 let e2:p.getD j 0=p[j]:=by simp[He,hj']
 rw[e,e2];intro z;let:=(G9 (h₀:=by simpa using hi') (h₁:=by simpa using hj') nd).mp (by simpa using z);exact h this
def W7{p q:Array Nat}{i:Nat}(h:p[i]?=q[j]?):p.getD i 0=q.getD j 0:=by
 rw[Lf,Lf,h]
def Zbk{xs:Array Nat}{src d:Nat}(hs:src<xs.size)(hd:d<=src)(k:Nat) :
  Rk rk (bubble xs src d) k=if k=src-d then Rk rk xs src else if src-d<k/\k<=src then Rk rk xs (k-1)else Rk rk xs k:=by
 let e:=getElem?_bubble hs d hd k;unfold Rk
 by_cases h1:k=src-d
 .rw[Dt h1]at e⊢;rw[W7 e]
 .rw[Ds h1]at e⊢
  by_cases h2:src-d<k/\k<=src
  .rw[Dt h2]at e⊢;rw[W7 e]
  .rw[Ds h2]at e⊢;rw[W7 e]
def Zm3{xs:Array Nat}(hj:j<=xs.size)(k:Nat) :
  Rk rk (Jgp xs 0 j) k=if k<j then Rk rk xs (j-1-k)else Rk rk xs k:=by
 let e:=getElem?_mirror_all (xs:=xs) (i:=0) hj k;unfold Rk Jgp
 by_cases h1:k<j
 .rw[Dt ⟨Gc _,h1⟩]at e;rw[Dt h1,W7 e,Fg]
 .rw[Ds (λz=>h1 z.2)]at e;rw[Ds h1,W7 e]
section
variable{n:Nat}{cmp:Nat->Nat->(Bool->Ca->Prop)->Ca->Prop} 
def CmpR(rk:Nat->Int)(n:Nat)(cmp:Nat->Nat->(Bool->Ca->Prop)->Ca->Prop)(s:Ca):Prop :=
 ∀i j(C:Bool->Ca->Prop),i<n->j<n->C (decide (rk i<rk j)) s->cmp i j C s
theorem Zpp(hc:CmpR rk n cmp s){p:Array Nat}(g:GoodP n p){G:Nat->Ca->Prop}:∀(f m:Nat),1<=m->m+f<=n->SrtR rk p m ->
  (∀m',m<=m'->m'<=m+f->SrtR rk p m'->(m'=m+f\/(m'<n/\Rk rk p m'<Rk rk p (m'-1)))->G m' s)->(kas_asc p f m).kasWp cmp G s
 |0,m,_,_,hs,h=>h m (Jd _) (Jd _) hs (.inl rfl)
 |f+1,m,h1,h2,hs,h=>by
  show cmp (p.getD m 0) (p.getD (m-1) 0) _ s;refine hc _ _ _ (g.lt _ ()) (g.lt _ ()) ?_
  by_cases q:rk (p.getD m 0)<rk (p.getD (m-1) 0)
  .simp only[q,decide_true,if_true];exact h m (Jd _) () hs (.inr ⟨(),q⟩)
  .simp only[q,decide_false,Jy,if_false];refine Zpp hc g f (m+1) () () (λi j hij hj=>?_) λm' a b c d=>h m' () () c (by
    rcases d with d|d
    .exact .inl ()
    .exact .inr d)
   by_cases hjm:j=m
   .subst hjm
    by_cases him:i=j
    .subst him;exact Dh _
    .exact Jd5 (hs i (j-1) () ()) (Int.not_lt.mp q)
   .exact hs i j hij ()
theorem Zmn(hc:CmpR rk n cmp s)(inj:∀i j,i<n->j<n->rk i=rk j->i=j){p:Array Nat}(g:GoodP n p){G:Array Nat×Nat×Nat->Ca->Prop}:∀(f m:Nat),1<=m->m+f<=n ->
  (∀i j,i<j->j<m->Rk rk p j<Rk rk p i) ->
  (∀m',m<=m'->m'<=m+f->(∀i j,i<j->j<m'->Rk rk p j<Rk rk p i)->G (p,m',0) s)->(kas_desc f p m 0).kasWp cmp G s
 |0,m,_,_,hs,h=>h m (Jd _) (Jd _) hs
 |f+1,m,h1,h2,hs,h=>by
  show cmp (p.getD m 0) (p.getD (m-1) 0) _ s;refine hc _ _ _ (g.lt _ ()) (g.lt _ ()) ?_
  by_cases q:rk (p.getD m 0)<rk (p.getD (m-1) 0)
  .simp only[q,decide_true,if_true,Bi,if_false,gt_iff_lt];refine Zmn hc inj g f (m+1) () () (λi j hij hj=>?_) λm' a b c=>h m' () () c
   by_cases hjm:j=m
   .subst hjm
    by_cases him:i=j-1
    .subst him;exact q
    .exact Int.lt_trans q (hs i (j-1) () ())
   .exact hs i j hij ()
  .simp only[q,decide_false,Jy,if_false];show cmp (p.getD (m-1) 0) (p.getD m 0) _ s;refine hc _ _ _ (g.lt _ ()) (g.lt _ ()) ?_;let lt2:rk (p.getD (m-1) 0)<rk (p.getD m 0):=by
    let ne:rk (p.getD (m-1) 0)≠rk (p.getD m 0):=λz=>g.ne () () (by lia:m-1≠m) (inj _ _ (g.lt _ ()) (g.lt _ ()) z);lia
   simp only[lt2,decide_true,if_true];exact h m (Jd _) () hs
def GoodP.rev{p:Array Nat}(g:GoodP n p)(i j:Nat):GoodP n (Jgp p i j):=⟨(mirror_perm _ _ _ _).trans g.perm⟩
theorem Zpj(hc:CmpR rk n cmp s)(inj:∀i j,i<n->j<n->rk i=rk j->i=j)(h2:2<=n){p:Array Nat}(g:GoodP n p){G:Nat×Array Nat->Ca->Prop}(h:∀m p',1<=m->m<=n->GoodP n p'->SrtR rk p' m->G (m,p') s):(kas_count n p).kasWp cmp G s:=by
 unfold kas_count;rw[Kd];refine Zpp hc g (n-1) 1 (Jd _) () (λi j hij hj=>by rw[show i=j by lia];exact Dh _) λm a b c d=>?_
 by_cases e:m=n
 .subst e;simp only[beq_self_eq_true,if_true];exact h m p () (Jd _) g c
 .let hb:(m==n)=false:=by simpa using e
  simp only[hb,Jy,if_false];let hd:m<n/\Rk rk p m<Rk rk p (m-1):=by
   rcases d with d|d
   .lia
   .exact d
  by_cases hm:m > 1
  .rw[Dt hm];show cmp (p.getD 0 0) (p.getD (m-1) 0) _ s;refine hc _ _ _ (g.lt _ ()) (g.lt _ ()) ?_;let lt2:rk (p.getD 0 0)<rk (p.getD (m-1) 0):=by
    let ne:rk (p.getD 0 0)≠rk (p.getD (m-1) 0):=λz=>g.ne () () (by lia:0≠m-1) (inj _ _ (g.lt _ ()) (g.lt _ ()) z);let le:=c 0 (m-1) () ();unfold Rk at le;lia
   simp only[lt2,decide_true,if_true];exact h m p () () g c
  .rw[Ds hm];let hm1:m=1:=by lia
   subst hm1;unfold kas_descPart;rw[Kd];refine Zmn hc inj g (n-2) 2 () () (λi j hij hj=>?_) λm' a' b' c'=>?_
   .let:j=1:=by lia
    let:i=0:=by lia
    subst i;subst j;exact hd.2
   .simp only[gt_iff_lt,Bi,if_false];unfold kas_tail3;rw[Kd];let hm':m'<=n:=by lia
    refine Zpp hc (g.rev 0 m') (n-m') m' () () (λi j hij hj=>?_) λk a2 b2 c2 _=>?_
    .rw[Zm3 (by rw[g.size];exact hm'),Zm3 (by rw[g.size];exact hm'),Dt (),Dt hj]
     by_cases hij2:i=j
     .subst hij2;exact Dh _
     .exact Ja4 (c' _ _ () ())
    .show G (k,Jgp p 0 m') s;exact h k _ () () (g.rev 0 m') c2
theorem Zb6(hc:CmpR rk n cmp s){p:Array Nat}(g:GoodP n p){k:Nat}(hk:k<n)(hs:SrtR rk p k){G:Nat->Ca->Prop}(h:∀l,l<=k->(∀i,i<l->Rk rk p i<=Rk rk p k)->(∀i,l<=i->i<k->Rk rk p k<Rk rk p i)->G l s):∀(f l r:Nat),l<=r->r<=k->r-l<=f ->
  (∀i,i<l->Rk rk p i<=Rk rk p k)->(∀i,r<=i->i<k->Rk rk p k<Rk rk p i)->(kas_place p k f l r).kasWp cmp G s
 |0,l,r,h1,h2,h3,lo,hi=>by
  let:l=r:=by lia
  subst this;exact h l h2 lo hi
 |f+1,l,r,h1,h2,h3,lo,hi=>by
  unfold kas_place
  by_cases hge:l≥r
  .rw[Dt hge];let:l=r:=by lia
   subst this;exact h l h2 lo hi
  .rw[Ds hge];show cmp (p.getD k 0) (p.getD ((l+r) / 2) 0) _ s;refine hc _ _ _ (g.lt _ hk) (g.lt _ ()) ?_
   by_cases q:rk (p.getD k 0)<rk (p.getD ((l+r) / 2) 0)
   .simp only[q,decide_true,if_true];exact Zb6 hc g hk hs h f l ((l+r) / 2) () () () lo λi a b=>Int.lt_of_lt_of_le q (hs _ _ a b)
   .simp only[q,decide_false,Jy,if_false];exact Zb6 hc g hk hs h f ((l+r) / 2+1) r () () () (λi a=>Jd5 (hs i ((l+r) / 2) () ()) (Int.not_lt.mp q)) hi
theorem Zs9(hc:CmpR rk n cmp s){G:Array Nat->Ca->Prop}(h:∀p,GoodP n p->SrtR rk p n->G p s):∀(f:Nat)(p:Array Nat)(k:Nat),k+f=n->GoodP n p->SrtR rk p k->(kas_bin f p k).kasWp cmp G s
 |0,p,k,e,g,hs=>h p g (by rw[<-e];exact hs)
 |f+1,p,k,e,g,hs=>by
  unfold kas_bin;rw[Kd];refine Zb6 hc g () hs (λl hl lo hi=>?_) k 0 k (Gc _) (Jd _) () (λi z=>absurd z (G5 _)) (λi a b=>by lia);refine Zs9 hc h f _ (k+1) () ⟨(bubble_perm _ _ _).trans g.perm⟩ λi j hij hj=>?_;let hks:k<p.size:=by rw[g.size];lia
  rw[Zbk hks (),Zbk hks (),show k-(k-l)=l by lia]
  repeat' split
  all_goals first
   |(exfalso;lia)
   |exact Dh _
   |exact lo _ ()
   |exact Ja4 (hi _ () ())
   |exact hs _ _ () ()
theorem Zqp(hc:CmpR rk n cmp s)(inj:∀i j,i<n->j<n->rk i=rk j->i=j)(h2:2<=n){G:Array Nat->Ca->Prop}(h:∀p,GoodP n p->SrtR rk p n->G p s):(kas_sort n).kasWp cmp G s:=by
 unfold kas_sort;rw[Kd];refine Zpj hc inj h2 ⟨Array.Perm.refl _⟩ λm p' a b g hs=>?_
 by_cases hm:m<n
 .rw[Dt hm];let e:max m 1=m:=by lia
  rw[e];exact Zs9 hc h (n-m) p' m () g hs
 .rw[Ds hm];let:m=n:=by lia
  subst this;exact h p' g hs
end
end L2
namespace L2
open PySem PySem.W PyProof.Rows HT
theorem P9:∀a:List Int,lexLt a a=false
 |[]=>rfl
 |x::r=>by rw[lexLt_cons,Dt rfl];exact P9 r
theorem Zal:∀{a b c:List Int},lexLt a b=true->lexLt b c=true->lexLt a c=true
 |[],[],_,h,_=>by rw[Na]at h;cases h
 |[],_::_,[],_,h=>by rw[Wx]at h;cases h
 |[],_::_,_::_,_,_=>rfl
 |_::_,[],_,h,_=>by rw[Wx]at h;cases h
 |_::_,_::_,[],_,h=>by rw[Wx]at h;cases h
 |x::a,y::b,z::c,h1,h2=>by
  rw[lexLt_cons]at h1 h2⊢
  by_cases e1:x=y
  .subst e1;rw[Dt rfl]at h1
   by_cases e2:x=z
   .rw[Dt e2]at h2⊢;exact Zal h1 h2
   .rw[Ds e2]at h2⊢;exact h2
  .rw[Ds e1]at h1;let l1:x<y:=of_decide_eq_true h1
   by_cases e2:y=z
   .subst e2;rw[Ds e1];exact h1
   .rw[Ds e2]at h2;let l2:y<z:=of_decide_eq_true h2;rw[Ds ()];exact Du ()
theorem Zch:∀{a b:List Int},lexLt a b=false->lexLt b a=false->a=b
 |[],[],_,_=>rfl
 |[],_::_,h,_=>by rw[Um]at h;cases h
 |_::_,[],_,h=>by rw[Um]at h;cases h
 |x::a,y::b,h1,h2=>by
  rw[lexLt_cons]at h1 h2
  by_cases e:x=y
  .subst e;rw[Dt rfl]at h1 h2;rw[Zch h1 h2]
  .rw[Ds e]at h1;rw[Ds (λz=>e z.symm)]at h2;let:=of_decide_eq_false h1;let:=of_decide_eq_false h2;lia
theorem Za4{α:Type}{p q:α->Bool}:∀{l:List α},(∀x∈l,p x=true->q x=true)->(∃x∈l,q x=true/\p x=false)->l.countP p<l.countP q
 |[],_,⟨_,h,_⟩=>nomatch h
 |a::l,h1,⟨x,hx,hq,hp⟩=>by
  let le:l.countP p<=l.countP q:=List.countP_mono_left λy hy=>h1 y (Jg _ hy);rw[Jeb,Jeb];rcases Gi.mp hx with e|hx
  .subst e;rw[hq,hp];simp;lia
  .let lt:=Za4 (λy hy=>h1 y (Jg _ hy)) ⟨x,hx,hq,hp⟩;let:=h1 a Ji;cases ha:p a<;>cases hb:q a<;>simp_all<;>lia
def Y1(ks:List (List Int))(i:Nat):Int:=((Co ks.length).countP λj=>lexLt (ks.getD j []) (ks.getD i []):Nat)
theorem Zgx{ks:List (List Int)}{i:Nat}(hi:i<ks.length)(h:lexLt (ks.getD i []) (ks.getD j [])=true):Y1 ks i<Y1 ks j:=by
 unfold Y1;let:=Za4 (l:=Co ks.length) (p:=λx=>lexLt (ks.getD x []) (ks.getD i [])) (q:=λx=>lexLt (ks.getD x []) (ks.getD j [])) (λx _ hx=>Zal hx h) ⟨i,Gw.mpr hi,h,P9 _⟩;lia
theorem Wq{ks:List (List Int)}(nd:ks.Nodup){i:Nat}(hi:i<ks.length)(hj:j<ks.length):decide (Y1 ks i<Y1 ks j)=lexLt (ks.getD i []) (ks.getD j []):=by
 cases e:lexLt (ks.getD i []) (ks.getD j [])with
 |true=>exact Du (Zgx hi e)
 |false =>
  refine Dv λz=>?_;cases e2:lexLt (ks.getD j []) (ks.getD i [])with
  |true=>have:=Zgx hj e2;lia
  |false =>
   let e3:=Zch e e2;unfold Y1 at z;rw[e3]at z;exact absurd z (Int.lt_irrefl _)
theorem Ua{ks:List (List Int)}(nd:ks.Nodup){i:Nat}(hi:i<ks.length)(hj:j<ks.length)(h:Y1 ks i=Y1 ks j):i=j:=by
 let e1:lexLt (ks.getD i []) (ks.getD j [])=false:=by rw[<-Wq nd hi hj];exact Dv ()
 let e2:lexLt (ks.getD j []) (ks.getD i [])=false:=by rw[<-Wq nd hj hi];exact Dv ()
 let e3:=Zch e1 e2;rw[Gf,Gf,Jb hi,Jb hj]at e3;exact(G9 (h₀:=hi) (h₁:=hj) nd).mp (by simpa using e3)
section
theorem Zd1{Q:Bool->Ca->Prop}:∀{vs ws:List Value}{ns ms:List Int}{fin:Bool}{i:Nat},Eg vs ns->Eg ws ms->(fin=decide (ns.length<ms.length))->Q (lexLt ns ms) s->KatLex prog w A true fin Q (vs.zip ws) i s
 |_,_,_,_,fin,i,.nil,.nil,e,h=>by
  subst e;exact kat_nil h
 |_,_,_,_,fin,i,.nil,.cons _ _ r,e,h=>by
  subst e;exact kat_nil (by simpa[HT.lexLt]using h)
 |_,_,_,_,fin,i,.cons _ _ r,.nil,e,h=>by
  subst e;exact kat_nil (by simpa[HT.lexLt]using h)
 |_,_,_,_,fin,i,.cons a t r,.cons c u r2,e,h=>by
  rw[Fa];refine kat_cons (Kw ?_);rw[lexLt_cons]at h
  by_cases z:a=c
  .subst z;rw[Dt rfl]at h;rw[beq_self_eq_true];exact kat_yes (Zd1 r r2 (by rw[e];simp) h)
  .rw[Ds z]at h;let hb:(a==c)=false:=by simpa using z
   rw[hb];refine kat_no ?_;cases hi:(true&&i==0)with
   |true=>exact oneLt_int h
   |false=>exact kat_one _ _ (Jgq (show PySem.W.BoolBack Q (.bool (decide (a<c))) s from h))
end
abbrev KIt:=V×Addr×List Int
section
def Inv.pin1{b:Addr}{o:Obj}(I:Inv X pq σ H s)(f:FpOk X pq H b)(e:s.heap.get? b=some o)(hd:∀v,o.data≠.cell v):Inv X (pq++[(b,o)]) σ H s :=
 I.pins_of λp hp=>(Jw.mp hp).elim (λz=>I.pin p (Jm _ z)) λz=>by
  rw[Jf.mp z];exists e,f.1,f.2.1,f.2.2.1,hd
def Inv.turn1{b:Addr}(I:Inv X pq σ H s)(f:FpOk X pq H b)(hs:E8 b s.heap h'):Inv X pq σ H {s with heap:=h'} :=
 I.turned (t':=s.toks) (λc o hc e=>(hs.2 c hc).trans e) f.1 f.2.1 f.2.2.2.1 f.2.2.2.2.1 f.2.2.2.2.2
def Zg(L:List KIt):List Value:=L.map λq=>Cb q.2.1
def Z8{α:Type}{f:α->β}{l:List α}{i:Nat}{d:β}(h:i<l.length):(l.map f).getD i d=f l[i]:=by
 rw[Gf,Ge,Jb h];rfl
theorem Zkw{L:List KIt}(I:Inv X pq σ H s)(hk:∀q∈L,SqT X.K H q.2.1 (q.2.2.map V.int)/\q.2.2≠[])(h2:0<L.length){Q:SortKind->Ca->Prop}(h:Q (tuples' true) s) :
  Cc (Cg X.prog X.w) A (keyKind' (Zg L).toArray) Q E s:=by
 let tk:∀L':List KIt,(∀q∈L',q∈L)->∃fs:List Value,KatTups s.heap (Zg L') fs/\fs.length=L'.length/\∀v∈fs,∃n t,v=.int n t:=by
  intro L'
  induction L' with
  |nil=>intro _;exists [],.nil,rfl,λv hv=>nomatch hv
  |cons q r ih =>
   intro hm;let⟨fs,a,b,c⟩:=ih λx hx=>hm x (Jg _ hx);let⟨sq,ne⟩:=hk q (hm q Ji);let⟨its,rv,⟨o,e,hc,n,hd⟩,_⟩:=I.tuple sq
   match hq:q.2.2,ne with
   |z::zs,_ =>
    rw[hq]at rv;cases rv with
    |cons rv1 rv2 =>
     let⟨t,et⟩:=rv1;exists .int z t::fs,KatTups.cons e hc hd ?_ a,by simp[b],λv hv=>?_
     .rw[et];simp
     .rcases Gi.mp hv with e|hv
      .exists z,t,e
      .exact c v hv
 let⟨fs,a,b,c⟩:=tk L λ_ h=>h;exact kat_kind (T:=.type "int") a () (λv hv=>by let⟨n,t,e⟩:=c v hv;subst e;exact .now) nofun h
def Zoy{L:List KIt}(I:Inv X pq σ H s)(hk:∀q∈L,SqT X.K H q.2.1 (q.2.2.map V.int)/\q.2.2≠[])(nd:(L.map (·.2.2)).Nodup) :
  CmpR (Y1 (L.map (·.2.2))) L.length (kas_ask X.prog X.w A (tuples' true) (Zg L)) s:=by
 intro i j C hi hj h;rw[Wq nd (by simpa using hi) (by simpa using hj),Z8 hi,Z8 hj]at h;unfold kas_ask;rw[show(Zg L).getD i Value.none=Cb L[i].2.1 from Z8 hi,show(Zg L).getD j Value.none=Cb L[j].2.1 from Z8 hj];let⟨its,rv,⟨o,e,hc,n,hd⟩,_⟩:=I.tuple (hk _ (Ju hi)).1;let⟨its2,rv2,⟨o2,e2,hc2,n2,hd2⟩,_⟩:=I.tuple (hk _ (Ju hj)).1;let ia:∀{ns:List Int}{vs:List Value},Vals (ns.map V.int) vs->Eg vs ns:=by
  intro ns
  induction ns with
  |nil=>intro vs h;cases h;exact .nil
  |cons a r ih =>
   intro vs h;cases h with
   |cons h1 h2=>obtain⟨t,e⟩:=h1;subst e;exact .cons a t (ih h2)
 refine kat_lt e hd e2 hd2 ?_;let i1:=ia rv;let i2:=ia rv2;exact Zd1 i1 i2 (by rw[<-i1.length,<-i2.length];simp) h
end
section
abbrev PD(D:Addr)(e1:Nat):Addr×Obj:=(D,Cv "list" #[] e1)
abbrev PKs(kS:Addr)(e:Nat)(L:List KIt):Addr×Obj:=(kS,Cv "list" (Zg L).toArray e)
theorem Vals.perm_get{L:List KIt}(rv:Vals (L.map (·.1)) its){p:List Nat}(hp:∀i∈p,i<L.length):Vals (p.map λi=>(L.getD i (.non,0,[])).1) (p.map λi=>its.getD i Value.none):=by
 let e:=rv.length;simp only[Ja]at e
 induction p with
 |nil=>exact .nil
 |cons i r ih =>
  let hi:=hp i Ji;let hi2:i<its.length:=by lia
  let⟨u,hu,r1⟩:=Vals.get rv (i:=i) (x:=L[i].1) (by rw[Ge,Jb hi];rfl);refine .cons ?_ (ih λj hj=>hp j (Jg _ hj));show RelV (L.getD i (.non,0,[])).1 (its.getD i Value.none);rw[Gf,Gf,hu,Jb hi];exact r1
theorem N7{D kS:Addr}{e e1:Nat}{L L':List KIt}{st:SortSt}{out:List Value}{P:Jem->Ca->Prop}(I:Inv X ((pq++[PD D e1])++[PKs kS e L]) σ H s)(h64:L.length<64)(fD:FpOk X pq H D)(fK:FpOk X (pq++[PD D e1]) H kS)(hout:(arrOf st).map (·.2)=out.toArray)(hf:failedOf st=none)(rv:Vals (L'.map (·.1)) out)(hl:L'.length=L.length)(h:∀s',Inv X pq σ (upd H D (.lst (L'.map (·.1)))) s'->P (.done (.ret .none)) s'):Cc (Cg X.prog X.w) A (ksk_tail D false e1 (.ref kS) st) P E s:=by
 let pk:=I.pin (PKs kS e L) (Jm _ (Jm _ (Jf.mpr rfl)));let s1:=Ct s.heap kS (Ch λ_=>(#[]:Array Value));let I1:=(I.unpinned (pl:=[PKs kS e L])).turn1 fK s1;let pd:=I1.pin (PD D e1) (Jm _ (Jm _ (Jf.mpr rfl)));let s2:=Ct (s.heap.update kS (Ch λ_=>(#[]:Array Value))) D (Ch λ_=>out.toArray);obtain⟨c2,hc2⟩:∃c2,((s.heap.update kS (Ch λ_=>(#[]:Array Value))).update D (Ch λ_=>out.toArray)).get? D=some (Cv "list" out.toArray c2):=⟨_,Er pd.1 λ_=>out.toArray⟩;let lo:out.length=L.length:=by have:=rv.length;simp only[Ja]at this;lia
 let hz:L'.length<=sizeLine:=by rw[Cj];lia
 unfold ksk_tail
 try dsimp only
 rw[hout];refine Dm (Ed pk.1 rfl ?_ (by simp only[Jl,Zg,Ja,Cj];lia) (Gc _));refine Dm (wpAny_letGo ?_);refine Dm (seqEpoch_at pd.1 rfl ?_);refine Dm (Ed pd.1 rfl ?_ (Gc _) (by simp only[Jl,Cj,Jy,if_false];lia));rw[hf];simp only[bne_self_eq_false,Jy,if_false];refine Dn (h _ ?_);let I2:=(I1.unpinned (pl:=[PD D e1])).turn1 fD s2;exact I2.track (its:=out) (n:=c2) hc2 fD rv (by rw[Ja];exact hz)
theorem Zjy{D kS:Addr}{e e1:Nat}{L:List KIt}{P:Jem->Ca->Prop}(I:Inv X ((pq++[PD D e1])++[PKs kS e L]) σ H s)(h64:L.length<64)(fD:FpOk X pq H D)(fK:FpOk X (pq++[PD D e1]) H kS)(hk:∀q∈L,SqT X.K H q.2.1 (q.2.2.map V.int)/\q.2.2≠[])(nd:(L.map (·.2.2)).Nodup)(rv:Vals (L.map (·.1)) its)(h:∀(s':Ca)(L':List KIt),L'.Perm L->L'.Pairwise (λa b=>HT.lexLt a.2.2 b.2.2=true)->Inv X pq σ (upd H D (.lst (L'.map (·.1)))) s'->P (.done (.ret .none)) s') :
  Cc (Cg X.prog X.w) A (ksk_end D false its.toArray e1 (.ref kS) (Zg L).toArray) P E s:=by
 let el:its.length=L.length:=by have:=rv.length;simp only[Ja]at this;lia
 let ek:(Zg L).length=its.length:=by rw[el];simp[Zg]
 unfold ksk_end
 try dsimp only
 simp only[Jy,if_false]
 by_cases h2:its.toArray.size<2
 .rw[Dt h2];refine Dm (Dn ?_);rw[Dt h2];let h2':its.length<2:=by simpa using h2
  refine Dm (m:=(pure ⟨⟩:StateT SortSt Sem Unit).run _) (Dn ?_);refine N7 (L':=L) (out:=its) I h64 fD fK ?_ rfl rv rfl λs'=>h s' L (Kp _) ?_
  .show(((Zg L).toArray.zip its.toArray).map (·.2))=its.toArray
   apply Fp.mp
   rw[Db,ksk_zip];simp only[Ky (by lia:its.length<=(Zg L).length)]
  .match L,el with
   |[],_=>exact .nil
   |[q],_=>exact Bo _ _
   |_::_::_,el=>simp only[J0]at el;lia
 .rw[Ds h2,Ds h2];let h2':2<=its.length:=by simpa using h2
  refine Dm (Zkw (I.unpinned (pl:=[PKs kS e L])) hk () ?_);refine Dm (Dy (kat_run (vs:=its) (ks:=Zg L) (G:=λp s'=>s'=s/\GoodP L.length p/\SrtR (Y1 (L.map (·.2.2))) p L.length) (Q:=λst' s'=>∃p:Array Nat,s'=s/\GoodP L.length p/\SrtR (Y1 (L.map (·.2.2))) p L.length/\arrOf st'=p.map (kas_item ((Zg L).toArray.zip its.toArray))/\failedOf st'=none) ek h2' ()
   (λp st' s' a1 a2 a3 a4=>⟨p,a4.1,a4.2.1,a4.2.2,a2,a3⟩)
   (by
    rw[el];exact Zqp (Zoy (I.unpinned (pl:=[PKs kS e L])) hk nd) (λi j hi hj z=>Ua nd (by simpa using hi) (by simpa using hj) z) () (G:=λp s'=>s'=s/\GoodP L.length p/\SrtR (Y1 (L.map (·.2.2))) p L.length) λp g hs=>⟨rfl,g,hs⟩)) ?_ λ_ _ x=>x)
  rintro⟨⟨⟩,st'⟩ s' ⟨p,rfl,g,hs,har,hf⟩;let hp:∀i∈p.toList,i<L.length:=λi hi=>by
   let:=(Gq.mp g.perm).mem_iff.mp hi;simpa using this
  let pl:p.toList.Perm (Co L.length):=by have:=Gq.mp g.perm;simpa using this
  let hmap:∀(F:KIt->V),(p.toList.map λi=>F (L.getD i (.non,0,[])))=(p.toList.map λi=>L.getD i (.non,0,[])).map F:=λF=>by rw[Gb];rfl
  let rangeL:(Co L.length).map (λi=>L.getD i (.non,0,[]))=L:=by
   apply Mp
   .simp
   .intro i h1 h2;simp[Gf,h2]
  refine N7 (L':=p.toList.map λi=>L.getD i (.non,0,[])) (out:=p.toList.map λi=>its.getD i Value.none) I h64 fD fK (kat_snds ek har) hf (by rw[<-hmap (·.1)];exact Vals.perm_get rv hp) (by rw[Ja,Jj,g.size]) λs'=>h s' _ ?_ ?_
  .let:=pl.map λi=>L.getD i (.non,0,[]);rwa [rangeL]at this
  .rw[Gp];intro i j hi hj hij;simp only[Ja,Jj,g.size]at hi hj;let gi:=g.lt i hi;let gj:=g.lt j hj;let hle:=hs i j (Br hij) hj;let hne:=g.ne hi hj (Gj hij);unfold Rk at hle;let hlt:Y1 (L.map (·.2.2)) (p.getD i 0)<Y1 (L.map (·.2.2)) (p.getD j 0):=by
    rcases Int.lt_or_eq_of_le hle with z|z
    .exact z
    .exact absurd (Ua nd (by simpa using gi) (by simpa using gj) z) hne
   let hd:=Wq nd (i:=p.getD i 0) (j:=p.getD j 0) (by simpa using gi) (by simpa using gj);rw[Du hlt,Z8 gi,Z8 gj]at hd;let ei:p.getD i 0=p[i]'(by rw[g.size];exact hi):=by simp[He,g.size,hi]
   let ej:p.getD j 0=p[j]'(by rw[g.size];exact hj):=by simp[He,g.size,hj]
   simp only[Be,F6,Gf];let gi':=gi;let gj':=gj;rw[ei]at gi';rw[ej]at gj';rw[Jb gi',Jb gj'];simp only[ei,ej]at hd;exact hd.symm
end
section
theorem Zgc{D kS f:Addr}{e1:Nat}{L:List KIt}{P:Jem->Ca->Prop}(I:Inv X ((pq++[PD D e1])++[PKs kS 0 []]) σ H s)(h64:L.length<64)(fD:FpOk X pq H D)(fK:FpOk X (pq++[PD D e1]) H kS)(hk:∀q∈L,SqT X.K H q.2.1 (q.2.2.map V.int)/\q.2.2≠[])(nd:(L.map (·.2.2)).Nodup)(rv:Vals (L.map (·.1)) its)(hcall:∀(pins':List (Addr×Obj))(s':Ca)(q:KIt)(u:Value),(∀p∈pq,p∈pins')->Inv X pins' σ H s'->q∈L->RelV q.1 u->Cc (Cg X.prog X.w) A (call (.ref f) [u]) (EP X pins' σ λv H'=>v=.ref q.2.1/\H'=H) (λ_ _=>False) s')(h:∀(s':Ca)(L':List KIt),L'.Perm L->L'.Pairwise (λa b=>HT.lexLt a.2.2 b.2.2=true)->Inv X pq σ (upd H D (.lst (L'.map (·.1)))) s'->P (.done (.ret .none)) s') :
  Cc (Cg X.prog X.w) A (ksk_rest D (.ref f) false its.toArray e1 (.ref kS)) P E s:=by
 let el:its.length=L.length:=by have:=rv.length;simp only[Ja]at this;lia
 unfold ksk_rest;refine Dm (Eb ?_)
 first
  |rw[List.forIn_toArray]
  |(rw[<-Fv];simp only[Jcz])
  |rw[<-Fv]
 refine Dm (ksk_fold (λn s'=>∃e,Inv X ((pq++[PD D e1])++[PKs kS e (L.take n)]) σ H s') its 0 s ⟨0,by simpa using I⟩ (λj x s' hx⟨e,J⟩=>?_) λs'⟨e,J⟩=>?_)
 .simp only[Fg]at J⊢;let hj:j<its.length:=(Je.mp hx).1;let hj':j<L.length:=by lia
  let⟨u,hu,r1⟩:=Vals.get rv (i:=j) (x:=L[j].1) (by rw[Ge,Jb hj'];rfl);rw[hx]at hu;cases hu;refine Dm (Mj (Dy (hcall _ s' L[j] x (λp hp=>Gu _ (Gu _ hp)) J (Ju hj') r1) (λk s'' hkk=>?_) λ_ _ hF=>hF.elim));let⟨v,H',J',rk,ev,eH⟩:=hkk;subst ev;subst eH;obtain rfl:k=Cb L[j].2.1:=rk;let pk:=J'.pin (PKs kS e (L.take j)) (Jm _ (Jm _ (Jf.mpr rfl)));let s1:=Ct s''.heap kS (Ch (·.push (Cb L[j].2.1)));let ea:(Zg (L.take j)).toArray.push (Cb L[j].2.1)=(Zg (L.take (j+1))).toArray:=by
   let e2:Zg (L.take (j+1))=Zg (L.take j)++[Cb L[j].2.1]:=by
    unfold Zg;rw[Jh hj',Jk];rfl
   rw[e2,Jdr]
  obtain⟨c2,hc2⟩:∃c2,(s''.heap.update kS (Ch (·.push (Cb L[j].2.1)))).get? kS=some (Cv "list" (Zg (L.take (j+1))).toArray c2):=⟨_,by rw[<-ea];exact Er pk.1 (·.push (Cb L[j].2.1))⟩;let hsz:(Zg (L.take j)).toArray.size<64:=by simp only[Jl,Zg,Ja,Jv];lia
  try dsimp only
  refine Dm (Ed pk.1 rfl ?_ (by rw[Cj];show(Zg (L.take j)).toArray.size<=_;lia) (J9 (F8 (Array.size_push ..)) (by rw[Cj];show(Zg (L.take j)).toArray.size+1<=_;lia)));refine Dn ⟨rfl,c2,?_⟩;let J1:=(J'.unpinned (pl:=[PKs kS e (L.take j)])).turn1 fK s1;exact J1.pin1 fK hc2 (by intro v;simp)
 .simp only[Fg]at J;rw[el,Gd]at J;let pk:=J.pin (PKs kS e L) (Jm _ (Jm _ (Jf.mpr rfl)))
  try dsimp only
  refine Dm (listItems_at pk.1 rfl ?_);exact Zjy J h64 fD fK hk nd rv h
theorem Znr{f:Addr}{L:List KIt}(I:Inv X pq σ H s)(hl:SqL X.K H l (L.map (·.1)))(h64:L.length<64)(hk:∀q∈L,SqT X.K H q.2.1 (q.2.2.map V.int)/\q.2.2≠[])(nd:(L.map (·.2.2)).Nodup)(hcall:∀(pins':List (Addr×Obj))(s':Ca)(q:KIt)(u:Value),(∀p∈pq,p∈pins')->Inv X pins' σ H s'->q∈L->RelV q.1 u->Cc (Cg X.prog X.w) X.A.in1.in1 (call (.ref f) [u]) (EP X pins' σ λv H'=>v=.ref q.2.1/\H'=H) (λ_ _=>False) s')(h:∀(D:Addr)(L':List KIt),H D=none->L'.Perm L->L'.Pairwise (λa b=>HT.lexLt a.2.2 b.2.2=true)->Q (.ref D) (upd H D (.lst (L'.map (·.1))))) :
  Cc (Cg X.prog X.w) X.A (call (.builtin "sorted") [.ref l] [(C1 "key",.ref f)]) (EP X pq σ Q) E s:=by
 let⟨its,rv,pl,_⟩:=I.list hl;let el:its.length=L.length:=by have:=rv.length;simp only[Ja]at this;lia
 refine call_function_entry_kw kind_sorted plain_sorted entry_sorted (ksk_s1 _ _) ?_;unfold Builtin.«sorted»;refine Dm (m:=checkCount "sorted" 1 1 _) (Dn ?_);refine Dm (collect_list pl.isList ?_ (by rw[Cj];lia));refine Dm (Hf ?_ (by rw[Cj];lia));let hsz:((s.heap.push (Cv "list" #[] 0)).update s.heap.objs.size (Ch (·++its.toArray))).objs.size=s.heap.objs.size+1:=by
  rw[Heap.size_update,Jb2]
 let hoL:(((s.heap.push (Cv "list" #[] 0)).update s.heap.objs.size (Ch (·++its.toArray))).push (Cv "list" its.toArray 0)).get? (s.heap.objs.size+1)=some (Cv "list" its.toArray 0):=by
  rw[<-hsz];exact Dp _ rfl
 let keep:∀b o,s.heap.get? b=some o->(((s.heap.push (Cv "list" #[] 0)).update s.heap.objs.size (Ch (·++its.toArray))).push (Cv "list" its.toArray 0)).get? b=some o:=λb o q=>by
  let hlt:b<s.heap.objs.size:=Dq q;rw[Hg _ _ _ (by rw[hsz];exact Gj (Bu hlt)),Heap.get?_update_ne _ _ _ _ (Gj hlt),Hg _ _ _ (Gj hlt)];exact q
 let fD:FpOk X pq H (s.heap.objs.size+1):=I.fpOk (Fu _) (I.hok.fresh (Fu _));let I1:Inv X pq σ H {s with heap:=((s.heap.push (Cv "list" #[] 0)).update s.heap.objs.size (Ch (·++its.toArray))).push (Cv "list" its.toArray 0)}:=I.kept (t':=s.toks) keep;show Cc _ _ _ _ _ {s with heap:=((s.heap.push (Cv "list" #[] 0)).update s.heap.objs.size (Ch (·++its.toArray))).push (Cv "list" its.toArray 0)};rw[hsz];generalize hD:s.heap.objs.size+1=D at *
 generalize hh:((s.heap.push (Cv "list" #[] 0)).update s.heap.objs.size (Ch (·++its.toArray))).push (Cv "list" its.toArray 0)=hp at *
 refine Dm (Cs (wpAny_call_entry_kw slot_list_sort ⟨_,hoL,rfl⟩ Jen ?body (ksk_l1 _ _)))
 case body =>
  show Cc (Cg X.prog X.w) X.A.in1.in1 (Builtin.«list.sort» ⟨[.ref D],[(C1 "key",.ref f)]⟩) _ _ _;rw[ksk_t1];let s1:=Ct hp D (Ch λ_=>(#[]:Array Value));obtain⟨e1,ho1⟩:∃e1,(hp.update D (Ch λ_=>(#[]:Array Value))).get? D=some (Cv "list" #[] e1):=⟨_,Er hoL λ_=>#[]⟩;let I2:=(I1.turn1 fD s1).pin1 fD ho1 (by intro v;simp);let I3:Inv X (pq++[PD D e1]) σ H {s with heap:=((hp.update D (Ch λ_=>(#[]:Array Value))).push (Cv "tuple" its.toArray 0)).push (Cv "list" #[] 0)} :=
   I2.kept (t':=s.toks) λb o e=>Do _ (Do _ e)
  let hKz:(hp.update D (Ch λ_=>(#[]:Array Value))).objs.size<=((hp.update D (Ch λ_=>(#[]:Array Value))).push (Cv "tuple" its.toArray 0)).objs.size:=by rw[Jb2];exact Fu _
  let fK:FpOk X (pq++[PD D e1]) H ((hp.update D (Ch λ_=>(#[]:Array Value))).push (Cv "tuple" its.toArray 0)).objs.size:=I2.fpOk hKz (I2.hok.fresh hKz);unfold ksk_tree;refine Dm (listItems_at hoL rfl ?_);refine Dm (Ed hoL rfl ?_ (by rw[Jl,Cj];lia) (Gc _));refine Dm (seqEpoch_at ho1 rfl ?_);refine Dm (wpAny_newTuple ?_ (by show its.length<=_;rw[Cj];lia));refine Dm (Hf ?_ (Gc _));refine Cs ?_;refine Zgc (L:=L) (I3.pin1 fK (Dp _ rfl) (by intro v;simp)) h64 fD fK hk nd rv hcall λs' L' p w I'=>?_;exists ·,Dn ⟨_,rfl,.ref D,_,I',rfl,h D L' fD.1 p w⟩
end
def codeφ(c:Addr)(q:Str):HO:=.ext λh=>h.CodeRec (.ref c) q
def V0(P:Addr)(pos:Pos)(q:Str)(H:Hp):Prop :=
 ∃ps,H P=some (.tbl ps)/\TriplesOk ps.toList/\(Jeo pos ps.toList=none\/∃c,Jeo pos ps.toList=some (.ref c)/\H c=some (codeφ c q))
def Qf(P:Addr)(H H':Hp):Prop:=∀b o,b≠P->H b=some o->H' b=some o
def Qf.refl(P:Addr)(H:Hp):Qf P H H:=λ_ _ _ h=>h
def V0.same{P:Addr}{q:Str}(t:V0 P pos q H)(s:Same H H'):V0 P pos q H':=by
 let⟨ps,a,b,c⟩:=t;exists ps,s _ _ a,b,?_;rcases c with c|⟨c',d,e⟩
 .exact .inl c
 .exact .inr ⟨c',d,s _ _ e⟩
def Bm(mg:Str->Option Value)(h:Heap):Prop:=∃bm ob,mg "__builtins__"=some (.ref bm)/\bm≠Jb0/\h.get? bm=some ob/\ob.cls=.type "module"/\ob.dict=some Jb0/\ob.data=.plain
abbrev Tp(q:Str)(params:Arguments)(body:Expr)(scope:Scope)(pm cv ctv:Value):Obj :=
 {cls:=.type "function",data:=.func (kla_fn "<lambda>" q params body scope [] pm cv ctv)}
section
def Zk9{q:Str}(x:h.CodeRec (.ref c) q) :Y6 P w H h c (codeφ c q) :=
 ⟨x,let⟨c',o,_,_,e,ho,_⟩:=x;⟨o,by cases e;exact ho⟩,λ_ _ a b=>a.at λo e=>b o e⟩
def Zku{params:Arguments}{body:Expr}{scope:Scope}{P:Addr}{R:Value->Ca->Prop}(I:Inv X pq σ H s)(hcode:X.env.code=.ref c)(C:CodeHd X.base c P)(B:Bm X.mg X.base)(T:V0 P pos (X.env.qual++"<lambda>") H)(hcl:Jfq scope X.env=pure [])(hdef:defaultsOf params X.env=([],[]))(h:∀(f c':Addr)(pm ctv:Value)(H2:Hp)(s2:Ca),Qf P H H2->V0 P pos (X.env.qual++"<lambda>") H2->H2 c'=some (codeφ c' (X.env.qual++"<lambda>")) ->
   Inv X (pq++[(f,Tp (X.env.qual++"<lambda>") params body scope pm (.ref c') ctv)]) σ H2 s2->R (.ref f) s2) :
  Cc (Cg X.prog X.w) X.A (eval (.Lambda params body scope pos) X.env) R E s:=by
 let⟨ps,hP,ht,hc⟩:=T;let oP:s.heap.get? P=some (tabObj ps):=I.hok P _ hP;let⟨bm,ob,b1,b2,b3,b4,b5,b6⟩:=B;let gl:s.heap.Ns mainGlobals X.mg:=I.mod.glob.keeps I.bk;let hgP:mainGlobals≠P:=λz=>by
  let⟨o,es,ep,e,hd,_⟩:=gl;rw[z,oP]at e;cases e;cases hd
 let hbP:bm≠P:=λz=>by
  let e:=I.bk _ _ b3;rw[z,oP]at e;cases e;cases b4
 let hbG:bm≠mainGlobals:=λz=>by
  let⟨o,es,ep,e,hd,_⟩:=gl;let e3:=I.bk _ _ b3;rw[z,e]at e3;cases e3;rw[hd]at b6;cases b6
 let BA:s.heap.BuiltinsAt X.mg P:=⟨bm,ob,b1,b2,hbG,hbP,I.bk _ _ b3,b4,b5,b6⟩;refine kla_eval hdef ?_;rcases hc with hc|⟨c',hc,hx⟩
 .refine kla_makeFunction (mg:=X.mg) hcl I.ok.glob gl hcode (C.keeps I.bk) oP ht hc hgP BA λc' ctv h' tk hx hge hlt hrec htb=>?_;let hn:H c'=none:=I.hok.fresh hge;let cP:c'≠P:=λz=>by rw[z,hP]at hn;cases hn
  let cR:(h'.push (Tp (X.env.qual++"<lambda>") params body scope ((X.mg "__name__").getD .none) (.ref c') ctv)).CodeRec (.ref c') (X.env.qual++"<lambda>"):=hrec.at λo e=>Do _ e;let keep:∀b o,b≠P->s.heap.get? b=some o->(h'.push (Tp (X.env.qual++"<lambda>") params body scope ((X.mg "__name__").getD .none) (.ref c') ctv)).get? b=some o:=λb o n e=>Do _ (hx b o n e);let tb:=Do (Tp (X.env.qual++"<lambda>") params body scope ((X.mg "__name__").getD .none) (.ref c') ctv) htb;let H2e:∀b o,b≠P->H b=some o->upd (upd H P (.tbl (ps++#[Hk pos.line,Hk pos.col,.ref c']))) c' (codeφ c' (X.env.qual++"<lambda>")) b=some o:=λb o n e=>by
   rw[Zp (Zy e hn),Zp n];exact e
  let hok:HOk X.prog X.w (upd (upd H P (.tbl (ps++#[Hk pos.line,Hk pos.col,.ref c']))) c' (codeφ c' (X.env.qual++"<lambda>"))) (h'.push (Tp (X.env.qual++"<lambda>") params body scope ((X.mg "__name__").getD .none) (.ref c') ctv)):=λb u e=>by
   by_cases hb:b=c'
   .subst hb;rw[Zh]at e;cases e;exact Zk9 cR
   .rw[Zp hb]at e
    by_cases hb2:b=P
    .subst hb2;rw[Zh]at e;cases e;exact tb
    .rw[Zp hb2]at e;refine(I.hok b u e).stay (λd v hd q=>keep d v ?_ q) (λd q=>H2e d _ (λz=>by rw[z,hP]at q;cases q) q) λd xs q=>H2e d _ (λz=>by rw[z,hP]at q;cases q) q;rcases hd with z|z
     .rw[z];exact hb2
     .intro w;rw[w,hP]at z;cases z
  let un:Un X.fs [] H (upd (upd H P (.tbl (ps++#[Hk pos.line,Hk pos.col,.ref c']))) c' (codeφ c' (X.env.qual++"<lambda>"))) s.heap (h'.push (Tp (X.env.qual++"<lambda>") params body scope ((X.mg "__name__").getD .none) (.ref c') ctv)):=by
   let nP:∀b,H b=none->b≠P:=λb n z=>by rw[z,hP]at n;cases n
   exists λb o e n _ _=>keep b o (nP b n) e,λb o e n _ _=>⟨o.slots,keep b o (nP b n) e⟩,λb o e n _=>?_,λb o e _=>?_,λb xs q=>H2e b _ (λz=>by rw[z,hP]at q;cases q) q,λb o u q=>H2e b _ (λz=>by rw[z,hP]at q;cases q) q,λb qs q=>?_
   .let:b≠c':=Gj (Gk (Dq e) hge);rw[Zp this,Zp (nP b n)];exact n
   .by_cases hb:b=P
    .exists _,hb ▸ tb
    .exists o,keep b o hb e
   .by_cases hb:b=P
    .subst hb;rw[hP]at q;cases q;exact⟨#[Hk pos.line,Hk pos.col,.ref c'],by rw[Zp cP.symm,Zh]⟩
    .exact⟨#[],by rw[H2e b _ hb q];simp⟩
  let I2:=I.un (t':=tk) un hok;let fz:s.heap.objs.size<=h'.objs.size:=J9 hge (Br hlt);let fn:upd (upd H P (.tbl (ps++#[Hk pos.line,Hk pos.col,.ref c']))) c' (codeφ c' (X.env.qual++"<lambda>")) h'.objs.size=none:=by
   rw[Zp (Nat.ne_of_gt hlt),Zp (λz=>absurd (Dq oP) (by rw[<-z];exact Nat.not_lt.mpr fz))];exact I.hok.fresh fz
  let fF:=I.fpOk (H':=upd (upd H P (.tbl (ps++#[Hk pos.line,Hk pos.col,.ref c']))) c' (codeφ c' (X.env.qual++"<lambda>"))) fz fn;refine h h'.objs.size c' _ ctv _ _ H2e ⟨_,by rw[Zp cP.symm,Zh],?_,.inr ⟨c',?_,Zh⟩⟩ Zh (I2.pin1 fF (Dp _ rfl) (by intro v;simp))
  .rw[Go];exact TriplesOk_snoc _ _ _ _ ht
  .rw[Go];exact codeAmong_snoc _ ht hc
 .refine kla_makeFunctionHit (mg:=X.mg) hcl I.ok.glob gl hcode (C.keeps I.bk) oP ht hc BA λctv h' tk hk hsz=>?_;let I2:Inv X pq σ H {s with heap:=h'.push (Tp (X.env.qual++"<lambda>") params body scope ((X.mg "__name__").getD .none) (.ref c') ctv),toks:=tk}:=I.kept (t':=tk) λb o e=>Do _ (hk b o e);let fF:=I.fpOk (H':=H) hsz (I.hok.fresh hsz);exact h h'.objs.size c' _ ctv H _ (.refl _ _) ⟨ps,hP,ht,.inr ⟨c',hc,hx⟩⟩ hx (I2.pin1 fF (Dp _ rfl) (by intro v;simp))
def Zou{Pg:El}{K:Frag}{base:Heap}{outer:List Env}{f c':Addr}{q x:Str}{params:Arguments}{body:Expr}{scope:Scope}{ctv:Value}{u:Value}{v:V}{t:TE}(e0:Env0 Pg w K mg base A outer s H)(hr:Room 1 A)(ho:s.heap.get? f=some (Tp q params body scope pm (.ref c') ctv))(hcd:s.heap.CodeRec (.ref c') q)(S:FnScope [x] [x] scope)(hbind:Jc4 (kla_fn "<lambda>" q params body scope [] pm (.ref c') ctv) ⟨[u],[]⟩=pure [(x,u)])(rv:RelV v u)(hb:PE (cxOf CX0 Pg w K mg base [x] q scope f (.ref c') A outer s H E0) body t)(ht:t [some v] H Q) :
  Ld (Cg Pg w) A (.call (.ref f) ⟨[u],[]⟩) (CR CX0 outer Pg w H s Q E0) s:=by
 let KX:K.In s.heap:=e0.mod.kin.keeps λb o e=>(e0.bs b o e).1;let lim:s.heap.NoLimit:=e0.mod.nolimit.keeps λb o e=>(e0.bs b o e).1;refine kla_callFunE hr.depth ho rfl S.co S.gen rfl hcd ?_;rw[hbind];refine Dn ?_;refine Lk S.kind (λy hy=>?_) λenv he s1 x1=>?_
 .let ey:y=(x,u):=Jf.mp hy;subst ey;rcases S.par x (Jf.mpr rfl)with z|z
  .exact .inl z
  .exact .inr ⟨z,PySem.W.cellsFrom_some _ _ _ (.inl z)⟩
 .subst he;exists lim.keeps x1.toInCall.keep,kla_codeExpr ?_;let I:Inv (cxOf CX0 Pg w K mg base [x] q scope f (.ref c') A outer s H E0) [] (Tb [x] [v]) H s1:=Zas (us:=[u]) S hr.hd e0 rfl (.cons rv .nil) x1;refine Dy (hb [] s1 (Tb [x] [v]) H Q I ht) (λr s' hs=>?_) λe s' hs=>hs;let⟨v',H',J,rv',q'⟩:=hs;exists v',H',J.os,J.bare,J.base,J.hok,rv',q'
end
def Qf.sqL{K:Frag}{P:Addr}{ps:Array Value}(e:Qf P H H')(hP:H P=some (.tbl ps)){a:Addr}(h:SqL K H a xs):SqL K H' a xs:=by
 rcases h with(h|⟨o,h⟩)|h
 .exact .inl (.inl (e _ _ (λz=>by rw[z,hP]at h;cases h) h))
 .exact .inl (.inr ⟨o,e _ _ (λz=>by rw[z,hP]at h;cases h) h⟩)
 .exact .inr h
def Qf.sqT{K:Frag}{P:Addr}{ps:Array Value}(e:Qf P H H')(hP:H P=some (.tbl ps)){a:Addr}(h:SqT K H a xs):SqT K H' a xs:=by
 rcases h with(h|⟨o,h⟩)|h
 .exact .inl (.inl (e _ _ (λz=>by rw[z,hP]at h;cases h) h))
 .exact .inl (.inr ⟨o,e _ _ (λz=>by rw[z,hP]at h;cases h) h⟩)
 .exact .inr h
def Zqf(K:Frag)(P:Addr)(lpos:Pos)(qual:Str)(tb:TE)(ta:TA):TE:=λσ H Q=>ta σ H λvs H1=>∃(l:Addr)(L:List KIt),vs=[.ref l]/\SqL K H1 l (L.map (·.1))/\L.length<64 /\
 (∀q∈L,SqT K H1 q.2.1 (q.2.2.map V.int)/\q.2.2≠[])/\(L.map (·.2.2)).Nodup/\V0 P lpos qual H1/\(∀H2 q,Qf P H1 H2->q∈L->tb [some q.1] H2 λv H'=>v=.ref q.2.1/\H'=H2) /\
 ∀(H2:Hp)(D:Addr)(L':List KIt),Qf P H1 H2->V0 P lpos qual H2->H2 D=none->L'.Perm L->L'.Pairwise (λa b=>HT.lexLt a.2.2 b.2.2=true)->Q (.ref D) (upd H2 D (.lst (L'.map (·.1))))
section
theorem Zki{e:Expr}{ta:TA}{P:Addr}{x:Str}{params:Arguments}{body:Expr}{scope:Scope}{p lpos kpos:Pos}(hr:Room 3 X.A)(hg:Gl X "sorted")(hm:X.mg "sorted"=none)(ha:PA X [e] ta)(hcode:X.env.code=.ref c)(C:CodeHd X.base c P)(B:Bm X.mg X.base)(hcl:Jfq scope X.env=pure [])(hdef:defaultsOf params X.env=([],[]))(S:FnScope [x] [x] scope)(hbind:∀(pm cv ctv u:Value),Jc4 (kla_fn "<lambda>" (X.env.qual++"<lambda>") params body scope [] pm cv ctv) ⟨[u],[]⟩=pure [(x,u)])(hb:∀(f c':Addr)(A:Kf)(outer:List Env)(s:Ca)(H:Hp),PE (cxOf CX0 X.prog X.w X.K X.mg X.base [x] (X.env.qual++"<lambda>") scope f (.ref c') A outer s H E0) body tb)(he:Cn [e] X.env=[(false,eval e X.env)]:=by rfl) :
  PE X (.Call (.Name "sorted" p) [e] [⟨some "key",.Lambda params body scope lpos,kpos⟩] pos) (Zqf X.K P lpos (X.env.qual++"<lambda>") tb ta):=by
 intro pq s σ H Q I h;refine Ej (Q4 I hg hm Ec ?_);refine callWith_kw (thn (ha pos pq s σ H _ I h) λus s1 hz=>?_) (by rw[he];rfl) (by rw[he];rfl);let⟨vs,H1,I1,r1,l,L,ev,hl,h64,hk,nd,T,hbo,q1⟩:=hz;subst ev;let⟨u,rfl,ru⟩:=Vals.one r1;obtain rfl:u=Cb l:=ru;let⟨ps,hP,_,_⟩:=id T;show Cc _ _ (evalAll [do let v <-eval (.Lambda params body scope lpos) X.env;Jcv pos;pure v]) _ _ s1;refine wpAny_evalAll_cons (Dm (Zku I1 hcode C B T hcl hdef λf c' pm ctv H2 s2 sT T2 hx I2=>Dm (K2 (Dn (wpAny_evalAll_nil ?_)))));show Cc _ _ (call (.builtin "sorted") [.ref l] [(C1 "key",.ref f)]) _ _ s2
 refine Dy (Znr (Q:=Q) (E:=X.xe) I2 (sT.sqL hP hl) h64 (λq hq=>⟨sT.sqT hP (hk q hq).1,(hk q hq).2⟩) nd (λpins' s' q u hp I' hq rv=>?_) λD L' n p w=>q1 H2 D L' sT T2 n p w) (λv s'⟨v',H',J,rv,qq⟩=>⟨v',H',J.unpinned,rv,qq⟩) λ_ _ z=>z;let hpin:=I'.pin (f,Tp (X.env.qual++"<lambda>") params body scope pm (.ref c') ctv) (Jm _ (hp _ (Jm _ (Jf.mpr rfl))));refine Jfl (Lp (Zou (I'.env0.in1.in1) hr.in1.in1 hpin.1 (I'.hok c' _ hx).1 S (hbind pm (.ref c') ctv u) rv (hb f c' _ _ _ _) (hbo H2 q sT hq)) λr s'' hq'=>?_);cases r with
 |error e=>exact Cr hq'
 |ok fl =>
  cases fl with
  |ret u=>exact I'.after hq'
  |next=>exact Cr hq'
  |brk=>exact Cr hq'
  |cont=>exact Cr hq'
end
end L2
namespace L2
open PySem PySem.Spec PyProof.Rows
def Zjh(P:Addr)(H:Hp):Prop:=H P=some (.tbl #[])/\∀b,b≠P->H b=none\/∃o xs,H b=some (.frz o (.lst xs))
def Zjh.tab{P:Addr}(o:Zjh P H)(pos:Pos)(q:Str):V0 P pos q H:=⟨#[],o.1,trivial,.inl rfl⟩
theorem Zh0{mb:Str->Option Value}{k:Nat}{fa a:Addr}{x:Str}{sp:Sp}{s₁:Ca}{vs:List Value}(KX:K.In s₁.heap)(hns:s₁.heap.Ns mainGlobals mg)(hb:s₁.heap.Ns Jb0 mb)(hbb:∀x:Str,x≠"__name__"->mb x=Kr x)(hlim:s₁.heap.NoLimit)(hbm:Bm mg s₁.heap)(hg:s₁.gens=#[])(ha:s₁.heap.get? a=some {cls:=.type "list",data:=.seq vs.toArray})(hi:Eg vs ns)(hl:ns.length<=sizeLine)(hr:Room k Jdp)(hP:s₁.heap.get? Pt=some (Jgv #[]))(hPK:K.lookup Pt=none)(hC:W.CodeHd s₁.heap c Pt)(F:∀base:Heap,K.In base->base.Ns mainGlobals mg->Bm mg base->FnOk P w K mg base CX k fa fd [x] sp)(hbind:∀(s:Ca)(u:Value),Jdk s fd ⟨[u],[]⟩ [(x,u)])(hsp:∀H:Hp,Zjh Pt H->SqL K H a (ns.map V.int)->sp [.ref a] H (λv _=>v=.bl true) λ_ _ _=>False)(hCX:∀H e s',CX [] H s₁ (λ_ _ _=>False) e s'->False) :
  Ld (Cg P w) Jdp (.call (.ref fa) ⟨[.ref a],[]⟩) (λr s'=>r=.ok (.ret (.bool true))/\OldK s₁.heap s'.heap/\s'.os=s₁.os/\My s'.gens) s₁:=by
 let rv:=N1 hi;let lenV:=hi.length;let aP:a≠Pt:=λz=>by rw[z,hP]at ha;cases ha
 let core:∀H:Hp,Zjh Pt H->SqL K H a (ns.map V.int)->HOk P w H s₁.heap->(∀b,H b≠none->b=a\/b=Pt)->(∀b,H b≠none->K.lookup b=none) ->
   Ld (Cg P w) Jdp (.call (.ref fa) ⟨[.ref a],[]⟩) (λr s'=>r=.ok (.ret (.bool true))/\OldK s₁.heap s'.heap/\s'.os=s₁.os/\My s'.gens) s₁:=by
  intro H hO hS hok hA hK;let base_of:∀{b:Addr}{o:Obj},s₁.heap.get? b=some o->H b=none->(hidT s₁.heap H).get? b=some o:=λe n=>Zk1 e n;let noA:∀{b:Addr}{o:Obj},s₁.heap.get? b=some o->(∀its n,o.data≠.seq its n)->(∀ps,o.data≠.fields ps)->H b=none:=λ{b o}e d d2=>by
   cases q:H b with
   |none=>rfl
   |some u =>
    rcases hA b (by rw[q];simp)with e'|e'
    .subst e';rw[ha]at e;cases e;exact absurd rfl (d _ _)
    .subst e';rw[hP]at e;cases e;exact absurd rfl (d2 _)
  let nsK:∀{b:Addr}{m:Str->Option Value},s₁.heap.Ns b m->(hidT s₁.heap H).Ns b m:=λ{b m}⟨o,es,ep,e,d,r⟩=>⟨o,es,ep,base_of e (noA e (by rw[d];intro _ _ z;cases z) (by rw[d];intro _ z;cases z)),d,r⟩;let hKb:K.In (hidT s₁.heap H):=λb o e=>base_of (KX b o e) (by
   cases q:H b with
   |none=>rfl
   |some u=>rw[hK b (by rw[q];simp)]at e;cases e)
  let hBm:Bm mg (hidT s₁.heap H):=by
   let⟨bm,ob,b1,b2,b3,b4,b5,b6⟩:=hbm;exists bm,ob,b1,b2,base_of b3 (noA b3 (by rw[b6];intro _ _ z;cases z) (by rw[b6];intro _ z;cases z)),b4,b5,b6
  let hM:Mod K mg (hidT s₁.heap H):=⟨hKb,nsK hns,⟨mb,nsK hb,hbb⟩,let⟨mc,h1,h2⟩:=hlim;⟨mc,nsK h1,h2⟩⟩;let e0:Env0 P w K mg (hidT s₁.heap H) Jdp [] s₁ H:=⟨rfl,hM,λb o e=>Zol e,F8 (Zib _ _),trivial,λb hb=>absurd (show b∈([]:List Addr)from hb) (by simp),hok,.of_eq hg⟩;refine Lp ((F _ hKb (nsK hns) hBm).run Jdp [] s₁ H ⟨[.ref a],[]⟩ [.ref a] [.ref a] _ _ hr e0 (hbind s₁ (.ref a)) (.cons rfl .nil) (hsp H hO hS)) λr s' h=>?_;cases r with
  |error e=>exact(hCX H e s' h).elim
  |ok fl =>
   cases fl with
   |next=>exact Cr h
   |brk=>exact Cr h
   |cont=>exact Cr h
   |ret u =>
    let⟨v,H',os,bare,un,hok',r',q⟩:=h;let q':v=.bl true:=q;subst q';obtain rfl:u=Hr true:=r';let kp:∀b o,b≠Pt->s₁.heap.get? b=some o->s'.heap.get? b=some o:=λb o nP e=>by
     cases q:H b with
     |none=>exact un.keep b o e q (by intro z;exact absurd (show b∈([]:List Addr)from z) (by simp)) (by simp)
     |some u =>
      rcases hO.2 b nP with z|⟨ob,xs,z⟩
      .rw[q]at z;cases z
      .let z2:=un.frzs b ob _ z;let⟨e1,_⟩:=hok b _ z;let⟨e2,_⟩:=hok' b _ z2;rw[e]at e1;cases e1;exact e2
    let⟨more,hm⟩:=un.tbls Pt #[] hO.1;let hPt:s'.heap.get? Pt=some {cls:=.none,data:=.fields (#[]++more)}:=hok' Pt _ hm;exists rfl,⟨λb o e=>?_,λb o e=>?_⟩,os,bare
    .by_cases hbP:b=Pt
     .subst hbP;rw[hP]at e;cases e;exact .inr (.inl ⟨(hC.tab hP).isCodeTable,rfl,#[],more,rfl,hPt⟩)
     .exact .inl (kp b o hbP e)
    .by_cases hbP:b=Pt
     .subst hbP;exists _,hPt
     .exists o,kp b o hbP e
 let okP:∀(H:Hp),Y6 P w H s₁.heap Pt (.tbl #[]):=λH=>hP;cases hk:K.lookup a with
 |some o =>
  let e:=KX a o hk;rw[ha]at e;cases e;refine core (λb=>if b=Pt then some (.tbl #[])else none) ⟨Dt rfl,λb hb=>.inl (Ds hb)⟩ (.inr ⟨_,vs.toArray,_,hk,rfl,rfl,rfl,by rw[Jl,lenV];exact hl,by simpa using rv⟩) (λb u z=>?_) (λb z=>?_) λb z=>?_
  .by_cases hb:b=Pt
   .let z':=(Dt hb).symm.trans z;cases z';rw[hb];exact okP _
   .let z':=(Ds hb).symm.trans z;cases z'
  .by_cases hb:b=Pt
   .exact .inr hb
   .exact absurd (Ds hb) z
  .by_cases hb:b=Pt
   .rw[hb];exact hPK
   .exact absurd (Ds hb) z
 |none =>
  refine core (λb=>if b=Pt then some (.tbl #[])else if b=a then some (.frz {cls:=.type "list",data:=.seq vs.toArray} (.lst (ns.map V.int)))else none) ⟨Dt rfl,λb hb=>?_⟩
   (.inl (.inr ⟨{cls:=.type "list",data:=.seq vs.toArray},(Ds aP).trans (Dt rfl)⟩)) (λb u z=>?_) (λb z=>?_) λb z=>?_
  .by_cases hba:b=a
   .exact .inr ⟨_,_,(Ds hb).trans (Dt hba)⟩
   .exact .inl ((Ds hb).trans (Ds hba))
  .by_cases hb:b=Pt
   .let z':=(Dt hb).symm.trans z;cases z';rw[hb];exact okP _
   .let z1:=(Ds hb).symm.trans z
    by_cases hba:b=a
    .let z':=(Dt hba).symm.trans z1;cases z';subst hba;exists ha,by rw[Ja];exact hl,vs,_,rv,ha
    .let z':=(Ds hba).symm.trans z1;cases z'
  .by_cases hb:b=Pt
   .exact .inr hb
   .by_cases hba:b=a
    .exact .inl hba
    .exact absurd ((Ds hb).trans (Ds hba)) z
  .by_cases hb:b=Pt
   .rw[hb];exact hPK
   .by_cases hba:b=a
    .rw[hba];exact hk
    .exact absurd ((Ds hb).trans (Ds hba)) z
def Zjo{l:Jge}{n k:Nat}{q:El}{loose:List Str}{XP:(Str->Option Value)->Heap->Prop}{YP:Hd->Heap->Prop}{d:DefRec}{K:Params->Ck}{CX:Hd->CXT}{sp:Hd->Sp}{x:Str}(hn:l.most=some n)(hn2:n<=sizeLine)(hdf:d.params.defaults=[])(hr:Room k Jdp)(hY:∀(w:Hd)(h:Heap),YP w h->(K w.params).In h)(hYt:∀(w:Hd)(h:Heap),YP w h->h.get? Pt=some (Jgv #[]))(hPK:∀w:Hd,(K w.params).lookup Pt=none)(F:∀(w:Hd)(mg:Str->Option Value)(fa:Addr)(h:Heap),(K w.params).In h->h.Ns mainGlobals mg->mg d.name=some (.ref fa) ->
   ∃fd:Ln,(∃c,Jds (K w.params) c Pt=true)/\(∀(s:Ca)(u:Value),Jdk s fd ⟨[u],[]⟩ [(x,u)]) /\
    ∀base:Heap,(K w.params).In base->base.Ns mainGlobals mg->Bm mg base->FnOk l.prog w (K w.params) mg base (CX w) k fa fd [x] (sp w))(hsp:∀(w:Hd)(H:Hp)(a:Addr)(ns:List Int),ns.length<=n->Zjh Pt H->SqL (K w.params) H a (ns.map V.int)->sp w [.ref a] H (λv _=>v=.bl true) λ_ _ _=>False)(hCX:∀(w:Hd)(H:Hp)(s:Ca)(e:Value)(s':Ca),CX w [] H s (λ_ _ _=>False) e s'->False) :
  W.WalkO q loose XP YP l.row.toRowW d [] (λf vs=>Jfp f vs):=by
 refine Att.attach_call hn hdf λw s₀ s₁ mg mb fa o pm cd doc a vs ns G Y ho hd hcd hmg hobj hints hlen hg=>?_;let KX:=hY w _ Y;let⟨fd,⟨c,hC⟩,hb,hF⟩:=F w mg fa _ KX G.T.g hmg;exact Zh0 KX G.T.g G.T.b G.T.builtins G.T.nolimit G.T.bmain hg hobj hints (J9 hlen hn2) hr (hYt w _ Y) (hPK w) (Jf2 KX hC) hF hb (λH hO hS=>hsp w H a ns hlen hO hS) λH e s'=>hCX w H s₁ e s'
section
variable{a:Addr}{o:Obj}{xs:Array Value}{k:Nat}
def Qn{Q:Option Value->Ca->Prop}(hx:s.heap.get? a=some o)(hc:o.cls=.type "list")(hdat:o.data=.seq xs k)(hd:o.dict=none)(hA:A.handled=none)(h:∀h' tk e,Jf3 s.heap h' e "AttributeError"->Q none {s with heap:=h',toks:=tk}):Cc (Cg prog w) A (Jf4 (.ref a) "keys") Q E s:=by
 let⟨c,dct,dat,sl⟩:=o;simp only at hc hdat hd;subst hc hdat hd;let⟨hp,g,d,tk,os⟩:=s;let hT:∀tk',(⟨hp,g,d,tk',os⟩:Ca).TypeIs (.ref a) "list":=λ_=>⟨_,hx,rfl⟩;let f1:=Jdc;let f3:=F.slot_list_getattribute.lookup;let f4:=F.slot_list_getattribute.bind (.ref a);let f5:=am_list_getattr_none;let hmiss:Jdm (.type "list") "keys"=pure none:=by rw[Ja5,Kt];kernel_rfl
 unfold Jf4 getAttrBy? getAttrBy
 repeat (any_goals (first|assumption|exact hT _|((with_reducible show Cc _ _ (call (Ml "list.__getattribute__") _ _) _ _ _);refine Hv F.slot_list_getattribute (hT _) am_entry_list_getattribute (F.args_list_getattribute_2 _ _) (meets_getattribute_miss_list a xs k sl "keys" _ hmiss (by decide +kernel)) ⟨hx,hA,λh' tk' e hx'=>?_⟩)|wp_step))
 let⟨t',u',he⟩:=hx'.there;let hTe:∀tk'',(⟨h',g,d,tk'',os⟩:Ca).TypeIs (.ref e) "AttributeError":=λ_=>⟨_,he,rfl⟩;show Cc _ _ (Ke _ _ _ _ _ _ _) _ _ _;unfold Ke
 repeat (any_goals (first|assumption|exact hTe _|wp_step))
 all_goals exact h _ _ _ hx'.of
def Rs{Q:Option Value->Ca->Prop}(hx:s.heap.get? a=some o)(hc:o.cls=.type "tuple")(hdat:o.data=.seq xs k)(hd:o.dict=none)(hA:A.handled=none)(h:∀h' tk e,Jf3 s.heap h' e "AttributeError"->Q none {s with heap:=h',toks:=tk}):Cc (Cg prog w) A (Jf4 (.ref a) "keys") Q E s:=by
 let⟨c,dct,dat,sl⟩:=o;simp only at hc hdat hd;subst hc hdat hd;let⟨hp,g,d,tk,os⟩:=s;let hT:∀tk',(⟨hp,g,d,tk',os⟩:Ca).TypeIs (.ref a) "tuple":=λ_=>⟨_,hx,rfl⟩;let f1:=Jdc;let f3:=F.slot_tuple_getattribute.lookup;let f4:=F.slot_tuple_getattribute.bind (.ref a);let f5:=am_tuple_getattr_none;let hmiss:Jdm (.type "tuple") "keys"=pure none:=by rw[Ja5,Kt];kernel_rfl
 unfold Jf4 getAttrBy? getAttrBy
 repeat (any_goals (first|assumption|exact hT _|((with_reducible show Cc _ _ (call (Ml "tuple.__getattribute__") _ _) _ _ _);refine Hv F.slot_tuple_getattribute (hT _) am_entry_tuple_getattribute (F.args_tuple_getattribute_2 _ _) (meets_getattribute_miss_tuple a xs k sl "keys" _ hmiss (by decide +kernel)) ⟨hx,hA,λh' tk' e hx'=>?_⟩)|wp_step))
 let⟨t',u',he⟩:=hx'.there;let hTe:∀tk'',(⟨h',g,d,tk'',os⟩:Ca).TypeIs (.ref e) "AttributeError":=λ_=>⟨_,he,rfl⟩;show Cc _ _ (Ke _ _ _ _ _ _ _) _ _ _;unfold Ke
 repeat (any_goals (first|assumption|exact hTe _|wp_step))
 all_goals exact h _ _ _ hx'.of
end
end L2
namespace L2
open PySem PySem.Spec PyProof.Rows PySem.W
def Za2:entryFor table "dict.update.loop"=some Builtin.«dict.update.loop»:=entryFor_of_tree (by kernel_rfl)
def Zaf:plainId "dict.update.loop"=true:=by decide +kernel
inductive DFill(H:Hp)(D:Addr):HO->List (V×V)->HO->Prop
 |nil {o:HO}:DFill H D o [] o
 |cons {o o' o'':HO} {k v:V} {r:List (V×V)} (h:DPut (upd H D o) D k v (upd H D o')) (t:DFill H D o' r o''):DFill H D o ((k,v)::r) o''
def Zc2(K:Ck)(H:Hp)(ys:List V)(zs:List (V×V)):Prop:=Paired (λy z=>∃t,y=.ref t/\SqT K H t [z.1,z.2]) ys zs
def SqT.upd'{a D:Addr}{o:HO}(h:SqT K H a xs)(n:H D=none):SqT K (upd H D o) a xs:=by
 rcases h with(h|⟨o,h⟩)|h
 .exact .inl (.inl (by rw[Zp (Zy h n)];exact h))
 .exact .inl (.inr ⟨o,by rw[Zp (Zy h n)];exact h⟩)
 .exact .inr h
section
def Zbj(K:Ck)(H:Hp)(h:Heap)(p it:Addr)(ys:List V)(i:Nat):Prop:=(SqL K H p ys/\h.IsListIter it p i)\/(SqT K H p ys/\h.IsTupleIter it p i)
def Zbj.at{p:Addr}{i:Nat}(x:Zbj K H h p it ys i)(k:∀o,h.get? it=some o->h'.get? it=some o)(hl:SqL K H p ys->SqL K H' p ys)(ht:SqT K H p ys->SqT K H' p ys):Zbj K H' h' p it ys i:=by
 rcases x with⟨a,b⟩|⟨a,b⟩
 .exact .inl ⟨hl a,b.at k⟩
 .exact .inr ⟨ht a,b.at k⟩
def Zjw{p:Addr}{i:Nat}{x:V}{Q:Option Value->Ca->Prop}(I:Inv X pq σ H s)(f:FpOk X pq H it)(src:Zbj X.K H s.heap p it ys i)(hx:ys[i]?=some x)(h:∀u s',RelV x u->Inv X pq σ H s'->Zbj X.K H s'.heap p it ys (i+1)->Q (some u) s'):Cc (Cg X.prog X.w) A (Jb5 (.ref it)) Q E s:=by
 let⟨f0,f1,f2,f3,f4,f5⟩:=f;rcases src with⟨hq,st⟩|⟨hq,st⟩
 .let⟨its,rv,p',hz⟩:=I.list hq;let⟨u,hu,ru⟩:=rv.get hx;exact Mr st p'.isList (x:=u) (by simpa using hu) λh' st' sb=>h u _ ru (I.turned (t':=s.toks) (λb o hb e=>(sb.2 b hb).trans e) f0 f1 f3 f4 f5) (.inl ⟨hq,st'⟩)
 .let⟨its,rv,p',hz⟩:=I.tuple hq;let⟨u,hu,ru⟩:=rv.get hx;exact Me st (show s.heap.IsTuple p its.toArray from p') (x:=u) (by simpa using hu) λh' st' sb=>h u _ ru (I.turned (t':=s.toks) (λb o hb e=>(sb.2 b hb).trans e) f0 f1 f3 f4 f5) (.inr ⟨hq,st'⟩)
theorem Zno{p:Addr}{i:Nat}{Q:Option Value->Ca->Prop}(I:Inv X pq σ H s)(f:FpOk X pq H it)(hA:A.handled=none)(src:Zbj X.K H s.heap p it ys i)(hx:ys.length<=i)(h:∀s',Inv X pq σ H s'->Q none s'):Cc (Cg X.prog X.w) A (Jb5 (.ref it)) Q E s:=by
 let⟨f0,f1,f2,f3,f4,f5⟩:=f;rcases src with⟨hq,st⟩|⟨hq,st⟩
 .let⟨its,rv,p',hz⟩:=I.list hq;let hl:=rv.length;exact M8 hA st p'.isList (by simp;lia) λh' eb=>h _ (I.turned (t':=s.toks) (λb o hb e=>eb b o hb e) f0 f1 f3 f4 f5)
 .let⟨its,rv,p',hz⟩:=I.tuple hq;let hl:=rv.length;exact Ms hA st (show s.heap.IsTuple p its.toArray from p') (by simp;lia) λh' eb=>h _ (I.turned (t':=s.toks) (λb o hb e=>eb b o hb e) f0 f1 f3 f4 f5)
theorem Zit{a:Addr}{v:V}{u r:Value}{Q:Unit->Ca->Prop}(hu:A.units<cLine)(I:Inv X pq σ H s)(g:DPut H a y v H')(ry:RelV y u)(rv:RelV v r)(h:∀s',Inv X pq σ H' s'->E8 a s.heap s'.heap->Q ⟨⟩ s') :
  Cc (Cg X.prog X.w) A (dictSet a u r) Q E s:=by
 rcases g with⟨kvs,k,e,ey,l,eH⟩|⟨kvs,k,b,e,ey,eb,l,eH⟩
 .subst ey eH;let⟨z,hd,vs,rel,dd⟩:=Zpc I.hok e;let hz:vs.length<=sizeLine:=by rw[<-rel.length];exact z
  let hl:(putK kvs k v).length<=sizeLine:=by have:=Y4 kvs k v;lia
  refine wpAny_dictSet_pairs (hsz:=hz) (Ze3 ry) dd λh' dd' hs=>h _ ?_ hs;let he:∃q,h'.get? a=some q:=let⟨q,_,_,hq,_⟩:=dd';⟨q,hq⟩
  exact Qb I (by rw[e];exact Ea) hs he (Zmm hl hd (rel.put k rv) dd')
 .subst ey eH;cases(show u=Cb b from ry);let⟨z,hd,xs,rel,dd⟩:=Zsk I.hok e;let hz:xs.length<=sizeLine:=by rw[<-Paired.length rel];exact z
  let hl:(putK kvs k v).length<=sizeLine:=by have:=Y4 kvs k v;lia
  refine wpAny_dictSet_heap (hsz:=hz) (show(Ly (Yd X.prog X.w)).room A from hu) (Q6 I.hok eb) dd λh' dd' hs=>h _ ?_ hs;let⟨q,es,ep,hq,h2,h3,h4,_,h5⟩:=dd';refine Qb I (by rw[e];exact Ea) hs ⟨q,hq⟩ ⟨hl,hd,_,(rel.put k eb rv).keeps λc ys ec=>?_,q,es,ep,hq,h2,h3,h4,h5⟩;rw[Zp (Wa ec e (λz=>nomatch z))];exact ec
theorem Za3{p D:Addr}{R:Jgu->Ca->Prop}(hu:A.units+8<cLine)(hA:A.handled=none)(hn:H D=none)(hit:it≠D)(fit:FpOk X pq H it) :
  ∀(zs:List (V×V))(i:Nat)(o o':HO)(s:Ca)(t:Tok),Inv X pq σ (upd H D o) s->Zbj X.K (upd H D o) s.heap p it ys i->Zc2 X.K H (ys.drop i) zs->DFill H D o zs o' ->
   (∀s',Inv X pq σ (upd H D o') s'->R (.ok (.ret .none)) s')->Ld (Cg X.prog X.w) A (.builtin "dict.update.loop" ⟨[.ref D,.ref it,.int i t,.none],[]⟩) R s
 |[],i,o,o',s,t,I,src,pa,df,h=>by
  cases df;let hl:ys.length<=i:=by
   let e:=Paired.length pa;simp only[Ga,Bl]at e;lia
  refine Lg Za2 ?_;rw[Hj Zaf _];show Cc _ A.in1 (Jb5 (.ref it) >>= _) _ _ s;refine Dm (Zno I (show FpOk X pq (upd H D o) it from⟨by rw[Zp hit];exact fit.1,fit.2⟩) hA src hl λs' I'=>?_);show Cc _ A.in1 (Jfr D [] >>= _) _ _ s';exact Dm (Dn (Dn (h s' I')))
 |z::zs,i,o,o'',s,t,I,src,pa,df,h=>by
  let hil:i<ys.length:=by
   let e:=Paired.length pa;simp only[Ga,J0]at e;lia
  rw[G6 hil]at pa;cases pa with
  |cons p1 p2 =>
   let⟨tp,ep,sq⟩:=p1;cases df with
   | @cons _ o1 _ k v _ d1 d2 =>
    refine Lg Za2 ?_;rw[Hj Zaf _];show Cc _ A.in1 (Jb5 (.ref it) >>= _) _ _ s;let fit':∀o,FpOk X pq (upd H D o) it:=λo=>⟨by rw[Zp hit];exact fit.1,fit.2⟩;refine Dm (Zjw I (fit' o) src (Jb hil) λu s1 ru I1 src1=>?_);rw[ep]at ru;obtain rfl:u=Cb tp:=ru;let⟨its,rv,⟨ob,eo,hc,n,hd⟩,_⟩:=I1.tuple (sq.upd' (o:=o) hn);cases rv with
    |cons r1 rv =>
     cases rv with
     |cons r2 rv =>
      cases rv with
      |nil =>
       rename_i uk uv
       show Cc _ A.in1 (Lv [Cb tp] _ >>= _) _ _ s1;refine Dm (Cs ?_);refine Dm (wpAny_tryCatch ?_);unfold Jf7;refine Dm (Looks.here (show Looks (Cg X.prog X.w) s1.heap (typeOf (.ref tp)) ob.cls from(Looks.ld eo).andThen .now) ?_);rw[hc,Dt nofun];unfold seqItems?;refine Dm (Dm (wpAny_load eo ?_));rw[hd];refine Dn (Dn ?_);show Cc _ A.in1 (Lv [uk,uv] (dictSet D uk uv)) _ _ s1;refine Cs (Zit (by show A.units+1<cLine;lia) I1 d1 r1 r2 λs2 I2 sb=>?_);refine Dn ⟨Jdd _ (by decide +kernel),?_⟩;refine Za3 hu hA hn hit fit zs (i+1) o1 o'' s2 _ I2 (src1.at (λob' e=>(sb.2 it hit).trans e) (λq=>?_) λq=>?_) p2 d2 h
       .rcases q with(q|⟨oo,q⟩)|q
        .by_cases hpD:p=D
         .subst hpD;exact absurd d1 (λz=>by
           rw[Zh]at q;cases q;rcases z with⟨_,_,e,_⟩|⟨_,_,_,e,_⟩<;>rw[Zh]at e<;>cases e)
         .rw[Zp hpD]at q;exact .inl (.inl (by rw[Zp hpD];exact q))
        .by_cases hpD:p=D
         .subst hpD;exact absurd d1 (λz=>by
           rw[Zh]at q;cases q;rcases z with⟨_,_,e,_⟩|⟨_,_,_,e,_⟩<;>rw[Zh]at e<;>cases e)
         .rw[Zp hpD]at q;exact .inl (.inr ⟨oo,by rw[Zp hpD];exact q⟩)
        .exact .inr q
       .rcases q with(q|⟨oo,q⟩)|q
        .by_cases hpD:p=D
         .subst hpD;exact absurd d1 (λz=>by
           rw[Zh]at q;cases q;rcases z with⟨_,_,e,_⟩|⟨_,_,_,e,_⟩<;>rw[Zh]at e<;>cases e)
         .rw[Zp hpD]at q;exact .inl (.inl (by rw[Zp hpD];exact q))
        .by_cases hpD:p=D
         .subst hpD;exact absurd d1 (λz=>by
           rw[Zh]at q;cases q;rcases z with⟨_,_,e,_⟩|⟨_,_,_,e,_⟩<;>rw[Zh]at e<;>cases e)
         .rw[Zp hpD]at q;exact .inl (.inr ⟨oo,by rw[Zp hpD];exact q⟩)
        .exact .inr q
end
section
def Zb4(K:Ck):List V->Hp->VK->Prop:=λxs H Q=>∃(p:Addr)(ys:List V)(zs:List (V×V))(o:HO),xs=[.ref p]/\(H p=some (.lst ys)\/H p=some (.tup ys))/\Zc2 K H ys zs/\(o=.dK []\/o=.dT []) /\
 ∀D,H D=none->∃o',DFill H D o zs o'/\Q (.ref D) (upd H D o')
theorem Wu(hr:Room 3 X.A)(hc:X.calm=true):Wz X (.type "dict") (Zb4 X.K):=by
 intro pq s σ H xs us Q I r h;let⟨p,ys,zs,o,rfl,hp,pa,ho,q⟩:=h;let⟨u,rfl,rx⟩:=Qj r;cases rx;let hA:X.A.handled=none:=I.ok.hd hc;let hD:H s.heap.objs.size=none:=I.hok.fresh (Jd _);let⟨o',df,q'⟩:=q _ hD;let pD:p≠s.heap.objs.size:=λz=>by
  rcases hp with e|e<;>rw[z,hD]at e<;>cases e
 refine callType_codes (Q₁:=λobj s₁=>obj=.ref s.heap.objs.size/\s₁={s with heap:=s.heap.push {cls:=.type "dict",data:=.dict #[]} }) PySem.F.kt_called_dict (PySem.F.kt_typeCall_dict_1 _) PySem.F.entry_dict_init (kt_code_dict_new _ ⟨rfl,rfl⟩) ?_;rintro obj s₁ ⟨rfl,rfl⟩;let I1:Inv X pq σ (upd H s.heap.objs.size o) {s with heap:=s.heap.push {cls:=.type "dict",data:=.dict #[]} }:=by
  rcases ho with e|e
  .subst e;exact I.laid (a:=s.heap.objs.size) (o:=.dK []) (t':=s.toks) (λ_ _ q=>Do _ q) (Jd _) (Zk6 s.heap I.big)
  .subst e;exact I.laid (a:=s.heap.objs.size) (o:=.dT []) (t':=s.toks) (λ_ _ q=>Do _ q) (Jd _) (Zea s.heap I.big)
 let hT:(⟨s.heap.push {cls:=.type "dict",data:=.dict #[]},s.gens,s.drawn,s.toks,s.os⟩:Ca).TypeIs (.ref s.heap.objs.size) "dict":=⟨_,Dp _ rfl,rfl⟩;refine⟨hT,PySem.F.args_dict_init_2 _ _,?_⟩;unfold Builtin.«dict.__init__»;refine Dm ?_;unfold Jfs;refine Dm (wpAny_notOrdered_dict hT ?_);show Cc _ _ (pure (s.heap.objs.size,[Cb p])) _ _ _;refine Dn ?_;show Cc _ _ (Mm "dict.__init__" s.heap.objs.size (.ref p) [] .none) _ _ _;unfold Mm;let hA2:X.A.in1.in1.handled=none:=hA;let fin:∀(s2:Ca)(it:Addr),it≠s.heap.objs.size->FpOk X pq H it->Inv X pq σ (upd H s.heap.objs.size o) s2->Zbj X.K (upd H s.heap.objs.size o) s2.heap p it ys 0 ->
   Ld (Cg X.prog X.w) X.A.in1 (.builtin "dict.update.loop" ⟨[.ref s.heap.objs.size,.ref it,Hk 0,.none],[]⟩) (wants (λr s₂=>r=.none/\EP X pq σ Q (.ref s.heap.objs.size) s₂) X.xe) s2:=λs2 it nit fit I2 src =>
  Za3 (A:=X.A.in1) (by have:=hr.units;show X.A.units+1+8<cLine;lia) (show X.A.in1.handled=none from hA) hD nit fit zs 0 o o' s2 _ I2 src (by simpa using pa) df λs' I'=>⟨rfl,.ref s.heap.objs.size,_,I',rfl,q'⟩
 let nq:∀it:Addr,Code.quiet (.builtin "dict.update.loop" ⟨[.ref s.heap.objs.size,.ref it,Hk 0,.none],[]⟩)=true:=λit=>Jdd _ (by decide +kernel);rcases hp with hp|hp
 .let⟨hz,its,n,rv,eo⟩:=I1.hok p _ (show upd H s.heap.objs.size o p=some (.lst ys)by rw[Zp pD];exact hp);refine Dm (Ks (show Jf5 _ (.ref p) "list" from⟨_,eo,rfl⟩) ?_);rw[Dt nofun];refine Dm (Qn eo rfl rfl rfl hA2 λh' tk e ne=>?_);let I2:Inv X pq σ (upd H s.heap.objs.size o) {s with heap:=h',toks:=tk}:=I1.kept ne.keeps;simp only[Jde,if_true];refine Dm (Eb (Dm (Kj (s:={s with heap:=h',toks:=tk}) ⟨_,ne.keeps _ _ eo,rfl,n,rfl⟩ (Dn ⟨nq _,?_⟩))));let hsz:s.heap.objs.size<h'.objs.size:=Dq (ne.keeps _ _ (Dp (o:={cls:=.type "dict",data:=.dict #[]}) s.heap rfl))
  let hle:({s with heap:=h',toks:=tk}:Ca).heap.objs.size<=h'.objs.size:=Jd _;let fI:=I2.fpOk (H':=H) hle (I.hok.fresh (Br hsz));refine fin _ _ (Nat.ne_of_gt hsz) fI (I2.kept (t':=tk) λb o e=>Do _ e) (.inl ⟨.inl (.inl (by rw[Zp pD];exact hp)),⟨_,Dp _ rfl,rfl,rfl⟩⟩)
 .let⟨hz,its,rv,ob,eo,hcl,n,hda,hdi⟩:=I1.hok p _ (show upd H s.heap.objs.size o p=some (.tup ys)by rw[Zp pD];exact hp);refine Dm (Ks (show Jf5 _ (.ref p) "tuple" from⟨_,eo,hcl⟩) ?_);rw[Dt nofun];refine Dm (Rs eo hcl hda hdi hA2 λh' tk e ne=>?_);let I2:Inv X pq σ (upd H s.heap.objs.size o) {s with heap:=h',toks:=tk}:=I1.kept ne.keeps;simp only[Jde,if_true];refine Dm (Eb (Dm (Jc1 (s:={s with heap:=h',toks:=tk}) (show Heap.IsTuple h' p its.toArray from⟨_,ne.keeps _ _ eo,hcl,n,hda⟩) (Dn ⟨nq _,?_⟩))));let hsz:s.heap.objs.size<h'.objs.size:=Dq (ne.keeps _ _ (Dp (o:={cls:=.type "dict",data:=.dict #[]}) s.heap rfl))
  let hle:({s with heap:=h',toks:=tk}:Ca).heap.objs.size<=h'.objs.size:=Jd _;let fI:=I2.fpOk (H':=H) hle (I.hok.fresh (Br hsz));refine fin _ _ (Nat.ne_of_gt hsz) fI (I2.kept (t':=tk) λb o e=>Do _ e) (.inr ⟨.inl (.inl (by rw[Zp pD];exact hp)),⟨_,Dp _ rfl,rfl,rfl⟩⟩)
end
end L2
namespace L2
open PySem PySem.Spec PyProof.Rows
section
variable{e:Expr}{st:Option Expr}{ts:TO}{p2:Pos}
def tRev(K:Ck)(te:TE)(ts:TO):TE:=λσ H Q=>te σ H λx H1=>ts σ H1 λk H2=>k=some (-1)/\∃a xs,x=.ref a/\SqL K H2 a xs/\∀p,H2 p=none->Q (.ref p) (upd H2 p (.lst xs.reverse))
theorem Zmb(he:PE X e te)(hs:PO X st ts)(hsub:∀o i,∃ops,Mh (.Slice none none st p2) false o i=Jgn ops (Kx o i)):PE X (.Subscript e (.Slice none none st p2) pos) (tRev X.K te ts):=by
 intro pq s σ H Q I h;refine Jdn (thn (he pq s σ H _ I h) λv s1 hz=>?_);let⟨x,H1,I1,r1,q1⟩:=hz;refine wpAny_Slice ?_;rw[Jc8];refine Dn ?_;refine Dn ?_;refine thn (hs pq s1 σ H1 _ I1 q1) λvk s3 hz=>?_;let⟨k,H3,I3,pk,ek,a,xs,ex,hx,q⟩:=hz;subst ek;subst ex;cases r1;let I4:Inv X pq σ H3 {s3 with heap:=s3.heap.push {cls:=.type "slice",data:=.fields #[.none,.none,vk]} }:=I3.kept (t':=s3.toks) λb ob q=>Do _ q;let⟨its,r,ht,hz⟩:=I4.list hx;let hlen:=r.length;show Cc (Cg X.prog X.w) X.A (Mg e (.Slice none none st p2) (.ref a) (.ref s3.heap.objs.size)) (EP X pq σ Q) X.xe {s3 with heap:=s3.heap.push {cls:=.type "slice",data:=.fields #[.none,.none,vk]} }
 let⟨ops,hop⟩:=hsub (.ref a) (.ref s3.heap.objs.size);refine tail_any (ops:=ops) ht.isList.typeIs slot_list_getitem.lookup ?_ hop;refine L6 ht.isList (Jc9 ..) .none .none pk nofun ?_ (by rw[Jl]<;>lia);rw[W.krv_pick];refine⟨.ref _,_,I4.laid (t':=s3.toks) (o:=.lst xs.reverse) (λb ob q=>Do _ q) (Jd _) ?_,rfl,q _ (I4.hok.fresh (Jd _))⟩;refine⟨by rw[Dd];exact hz,its.reverse,0,?_,?_⟩
 .let rev:∀{a:List V}{b:List Value},Vals a b->Vals a.reverse b.reverse:=by
   intro a b h
   induction h with
   |nil=>exact .nil
   |cons h1 h2 ih=>rw[B2,B2];exact ih.append (.cons h1 .nil)
  exact rev r
 .exact Dp _ rfl
end
section
def U1{t sl:Addr}{items:Array Value}{vl vu:Value}{Q:Value->Ca->Prop}(ht:IsTup s.heap t items)(hs:s.heap.IsSliceOf sl vl vu .none)(pl:Jc6 vl lo)(pu:Jc6 vu hi)(hw:HT.sIx items.size 0 lo=0/\HT.sIx items.size items.size hi=items.size)(h:Q (.ref t) s):Cc (Cg prog w) A (Kx (.ref t) (.ref sl)) Q E s:=by
 let⟨os,hos,hcs,hds⟩:=id hs;let hTs:s.TypeIs (.ref sl) "slice":=⟨os,hos,hcs⟩;unfold Kx
 try with_reducible refine Cs ?_
 first|refine Dm (Dn ?_)|skip
 refine Dm (Jdl ht.typeIs nofun ?_);refine Dm (Ez (name:=C1 "__getitem__") ht.typeIs Cq
  (Cu Cq ht.typeIs Jcx ?_ (Jc7 _ _)))
 show Cc _ _ (Hh (.ref t) >>= _) _ _ s;refine Dm (tupleItemsOf_ ht ?_);refine Dm (Ks hTs ?_);rw[Dt nofun];refine Dm (HT.sliceApplied_gen hs pl pu ?_);show Cc _ _ (if(((HT.sIx items.size 0 lo:Nat):Int)==0&&(1:Int)==1&&(HT.sIx items.size items.size hi-HT.sIx items.size 0 lo)==items.size)=true then _ else _) _ _ s;let hyes:((((HT.sIx items.size 0 lo:Nat):Int)==0&&(1:Int)==1&&(HT.sIx items.size items.size hi-HT.sIx items.size 0 lo)==items.size)=true):=by
  rw[hw.1,hw.2];simp
 rw[Dt hyes];unfold Jer;refine Dm ?_
 first
  |exact Dm (Ks ht.typeIs (Dn (by rw[Dt nofun];exact Dm (Eb (Dn ⟨_,rfl,Dn h⟩)))))
  |exact Dm (Ks ht.typeIs (Dn (by simp;exact Dm (Eb (Dn ⟨_,rfl,Dn h⟩)))))
end
section
def rSlW(K:Ck):V->Option Int->Option Int->Hp->VK->Prop:=λx lo hi H Q=>∃a xs,x=.ref a/\SqT K H a xs /\
 ((cutV xs lo hi=xs->Q (.ref a) H)/\∀p,H p=none->Q (.ref p) (upd H p (.tup (cutV xs lo hi))))
def Zbw:SlR X (rSlW X.K):=by
 intro pq s σ H x v vl vu lo hi sl Q I rx hs pl pu h;let⟨a,xs,rfl,hx,q0,q⟩:=h;cases rx;let⟨its,r,ht,hz⟩:=I.tuple hx;let hlen:its.toArray.size=xs.length:=by rw[Jl];exact r.length.symm
 exists "tuple",_,Cq.lookup,ht.typeIs,?_
 by_cases hw:HT.sIx xs.length 0 lo=0/\HT.sIx xs.length xs.length hi=xs.length
 .refine U1 ht hs pl pu (by rw[hlen];exact hw) ⟨.ref a,H,I,rfl,q0 ?_⟩;unfold cutV;rw[hw.1,hw.2];simp
 .refine HT.getItem_tuple_cut ht hs pl pu (by rw[hlen];exact hw) ?_ (by rw[hlen];exact hz);rw[hlen];exists .ref s.heap.objs.size,_,I.laid (t':=s.toks) (o:=.tup (cutV xs lo hi)) (λb ob q=>Do _ q) (Jd _) ?_,rfl,q _ (I.hok.fresh (Jd _));exists J9 (U3 xs lo hi) hz,_,(r.drop (HT.sIx xs.length 0 lo)).take (HT.sIx xs.length xs.length hi-HT.sIx xs.length 0 lo),V1.new _ _
end
def Met(P:El)(w:Hd)(K:Ck)(mg:Str->Option Value)(base:Heap)(C:Addr)(m:Str)(k:Nat)(ps:List Str)(sp:Sp):Prop :=
 ∃f fd,Cls K C/\Meth K C m f/\FnOk P w K mg base CX0 k f fd ps sp/\Si K fd ps []
def Mkr(P:El)(w:Hd)(K:Ck)(mg:Str->Option Value)(base:Heap)(x:Str)(C:Addr)(k:Nat)(ps:List Str)(sp:Sp):Prop :=
 ∃f fd,Mk K C f/\FnOk P w K mg base CX0 k f fd ps sp/\mg x=some (.ref C)/\Si K fd ps []
section
variable{C:Addr}{k:Nat}{sp:Sp}{x m:Str}{p:Pos}{e o:Expr}{t:TA}
def Zkk{pl:Sem Bool}(he:PE X o ta)(M:Met X.prog X.w X.K X.mg X.base C m k ps sp)(hr:Room k X.A)(ha:PA X (e::es) t)(hst:Cn (e::es) X.env=(false,eval e X.env)::Cn es X.env:=by rfl)(hpl:(Hs pos (Cn es X.env)).any (·.1)=false:=by rfl)(ht:eval (.Call (.Attribute o m apos) (e::es) [] pos) X.env=(do
   let ov <-eval o X.env
   Jcv apos.atName
   let(f,first) <-Lv [ov] (M9 ov m pl)
   Jf1 pos f first (Hs pos (Cn (e::es) X.env)) (Lq pos (E9 [] X.env))):=by rfl) :
  PE X (.Call (.Attribute o m apos) (e::es) [] pos) (Zer C m sp [] E0 ta t):=by
 let⟨f,fd,c,hm,F,hb⟩:=M;exact Zod he c hm F hr hb .nil Zkn ha hst hpl ht
def Zmc{pl:Sem Bool}(he:PE X o ta)(M:Met X.prog X.w X.K X.mg X.base C m k ps sp)(hr:Room k X.A)(ht:eval (.Call (.Attribute o m apos) [] [] pos) X.env=(do
   let ov <-eval o X.env
   Jcv apos.atName
   let(f,first) <-Lv [ov] (M9 ov m pl)
   Jf1 pos f first (Hs pos (Cn [] X.env)) (Lq pos (E9 [] X.env))):=by rfl) :
  PE X (.Call (.Attribute o m apos) [] [] pos) (Zer C m sp [] E0 ta tNil):=by
 let⟨f,fd,c,hm,F,hb⟩:=M;exact Zkl he c hm F hr hb .nil Zkn ht
def Zrj(M:Mkr X.prog X.w X.K X.mg X.base x C k ps sp)(hr:Room (k+1) X.A)(hg:Gl X x)(ha:PA X (e::es) t)(hdb:(x==("__debug__":Str))=false:=by decide)(he:Cn (e::es) X.env=(false,eval e X.env)::Cn es X.env:=by rfl)(hpl:(Hs pos (Cn es X.env)).any (·.1)=false:=by rfl):PE X (.Call (.Name x p) (e::es) [] pos) (Zju C sp [] E0 t):=by
 let⟨f,fd,hm,F,g,hb⟩:=M;exact Zoe hm F hr hg g hb .nil Zkn ha hdb he hpl
end
def Fun.okC{base:Heap}{x:Str}{f:Addr}{oc:Value}{od an:Option Addr}{osl:Array (Option Value)}{kV doc cdv ct:Value}{k:Nat}{sp:Sp}(lk:K.lookup f=some ⟨oc,od,.func (Jb7 x qual (Wi st) (Xs st) (Zo st) .none kV doc pm an cdv ct),osl⟩)(hcd:Jc5 K cdv qual=true)(S:FnScope N ps (Zo st))(len:∀vs H Q E,sp vs H Q E->vs.length=ps.length)(hbody:∀(A:Kf)(outer:List Env)(s:Ca)(H:Hp)(vs:List V)(Q:VK)(E:XK),Room k (A.deeper (Lj qual (Zo st) s.heap.objs.size f cdv))->sp vs H Q E ->
   ∃t,PSs (cxOf CX0 P w K mg base N qual (Zo st) f cdv A outer s H E).nox (Xs st) t/\t {nx:=λ_ H'=>Q .non H',rt:=Q} (Tb N vs) H) :
  FnOk P w K mg base CX0 (k+1) f (Jb7 x qual (Wi st) (Xs st) (Zo st) .none kV doc pm an cdv ct) ps sp :=
 Zse lk hcd S len λA outer s H vs Q E hr hsp=>by
  let⟨t,h,q⟩:=hbody A outer s H vs Q E hr hsp;exists t,h.nox,q
abbrev Pr:=Int×List Int
variable{S L:List L2.Pr}
def TupK(H H':Hp):Prop:=∀b xs,H b=some (.tup xs)->H' b=some (.tup xs)
def Same.tk(s:Same H H'):TupK H H':=λb xs h=>s b _ h
def Grow.tk{p:Addr}(g:Grow p H H')(e:H p=some (.lst xs)):TupK H H':=λb ys h=>g b _ h (Wa h e λz=>by cases z)
def Qf.tk{P:Addr}(s:Qf P H H'){ps:Array Value}(e:H P=some (.tbl ps)):TupK H H':=λb xs h=>s b _ (Wa h e λz=>by cases z) h
def Zfi(H:Hp)(v:V)(w:List Int):Prop:=∃t,v=.ref t/\H t=some (.tup (w.map V.int))
def Qs(H:Hp)(v:V)(p:Pr):Prop:=∃t tw,v=.ref t/\H t=some (.tup [.int p.1,.ref tw])/\H tw=some (.tup (p.2.map V.int))
def Zfi.tk{v:V}{w:List Int}(h:Zfi H v w)(s:TupK H H'):Zfi H' v w:=by
 let⟨t,e,a⟩:=h;exists t,e,s _ _ a
def Qs.tk{v:V}{p:Pr}(h:Qs H v p)(s:TupK H H'):Qs H' v p:=by
 let⟨t,tw,e,a,b⟩:=h;exists t,tw,e,s _ _ a,s _ _ b
abbrev Qr(H:Hp):List V->List (List Int)->Prop:=Paired (Zfi H)
abbrev Prs(H:Hp):List V->List Pr->Prop:=Paired (Qs H)
def Qr.tk(h:Qr H vs ws)(s:TupK H H'):Qr H' vs ws:=Paired.mapP h λ_ _ z=>z.tk s
def Prs.tk(h:Prs H vs L)(s:TupK H H'):Prs H' vs L:=Paired.mapP h λ_ _ z=>z.tk s
theorem Paired.at{α:Type}{F:α->β->Prop}:∀{l:List α}{m:List β},Paired F l m->∀{i:Nat}(h1:i<l.length)(h2:i<m.length),F l[i] m[i]
 |_,_,.nil,_,h,_=>absurd h (G5 _)
 |_,_,.cons a r,0,_,_=>a
 |_,_,.cons a r,i+1,h1,h2=>Paired.at r (i:=i) (by simpa using h1) (by simpa using h2)
theorem Paired.snoc{α:Type}{F:α->β->Prop}{x:α}{y:β}(h:F x y):∀{l:List α}{m:List β},Paired F l m->Paired F (l++[x]) (m++[y]):=by
 intro _ _ hz9;cases hz9 with
 |nil=>
  exact .cons h .nil
 |cons a r=>
  exact .cons a (Paired.snoc h r)
theorem Paired.rev{α:Type}{F:α->β->Prop}:∀{l:List α}{m:List β},Paired F l m->Paired F l.reverse m.reverse:=by
 intro _ _ hz9;cases hz9 with
 |nil=>
  exact .nil
 |cons a r=>
  exact by rw[B2,B2];exact Paired.snoc a (Paired.rev r)
def Zjl(a b:Pr):Prop:=a.1≠b.1/\¬ a.2<+:b.2/\¬ b.2<+:a.2
def Free(L:List Pr):Prop:=L.Pairwise Zjl
def Free.get(h:Free L){i:Nat}(hi:i<L.length)(hj:j<L.length)(hij:i<j):Zjl L[i] L[j]:=Gp.mp h i j hi hj hij
def Zhk(p q:Pr):V:=if p.1=q.1 then .str (C1 "twice")else if p.2.take (min p.2.length q.2.length)=q.2.take (min p.2.length q.2.length)then .str (C1 "begins")else .non
def Zex{p q:Pr}(h:Zjl p q):Zhk p q=.non:=by
 unfold Zhk;rw[Ds h.1,Ds];intro e;rcases Nat.le_total p.2.length q.2.length with l|l
 .rw[Fe l,Gd]at e;exact h.2.1 (e ▸ Fq _ _)
 .rw[Jec l,Gd]at e;exact h.2.2 (e ▸ Fq _ _)
theorem Zd9:∀(a b:List Int),C0 (a.map Km) (b.map Km)=decide (a=b)
 |[],[]=>by simp[C0]
 |[],_::_=>by simp[C0]
 |_::_,[]=>by simp[C0]
 |x::a,y::b=>by
  simp only[Jp,C0,C7,Zd9 a b]
  by_cases h:x=y
  .subst h;simp
  .simp[h]
def Zik(a b:List Int):C7 (.tuple (a.map Km)) (.tuple (b.map Km))=decide (a=b):=by
 simp only[C7,Zd9]
def Td(ns:List Int):Shp 1 (.tuple (ns.map Km)):=Rf λd hd=>by
 let⟨i,_,rfl⟩:=Jq.mp hd;exact Pq i
def Zcu(w:List Int){j:Int}(h0:0<=j)(h1:j<=w.length):cutV (w.map V.int) none (some j)=(w.take j.toNat).map V.int:=by
 rw[Zi2 h0 (by rw[Ja];exact h1),F2]
def Zlz:Sp:=λvs H Q _=>∃v1 v2 p q,vs=[v1,v2]/\Qs H v1 p/\Qs H v2 q/\p.2.length<=1000/\q.2.length<=1000/\∀H',Same H H'->Q (Zhk p q) H'
def Vd(H:Hp)(a:Addr)(L:List Pr):Prop:=∃vs,H a=some (.lst vs)/\Prs H vs L
def Vd.same{a:Addr}(h:Vd H a L)(s:Same H H'):Vd H' a L:=by
 let⟨vs,e,p⟩:=h;exists vs,s _ _ e,p.tk s.tk
def Fits(L:List Pr):Prop:=L.length<64/\∀p∈L,p.2≠[]/\p.2.length<=4
def Tc:Sp:=λvs H Q _=>∃a L,vs=[.ref a]/\Vd H a L/\Free L/\Fits L/\∀H',Same H H'->Q .non H'
abbrev wk(w:List Int):List Key:=w.map Cp
def Zjn(w:List Int):(wk w).map kV=w.map V.int:=by rw[Gb];rfl
def Zc8(kvs:List (List Key×V))(ws:List (List Int)):Prop:=∀u:List Int,(valV kvs (wk u)).isSome=decide (∃w∈ws,u<+:w/\u.length<w.length)
def Zgb:Sp:=λvs H Q _=>∃a vws ws,vs=[.ref a]/\H a=some (.lst vws)/\Qr H vws ws/\ws.length<64/\(∀w∈ws,w.length<=4) /\
 ∀(d:Addr)(kvs:List (List Key×V))(H':Hp),Same H H'->H d=none->H' d=some (.dT kvs)->Zc8 kvs ws->Q (.ref d) H'
def Zgy{a:Addr}{w:List Int}{j:Int}(e:H a=some (.tup (w.map V.int)))(h0:0<=j)(h1:j<=w.length)(h:∀t H',Same H H'->H' t=some (.tup ((w.take j.toNat).map V.int))->Q (.ref t) H'):rSlW K (.ref a) none (some j) H Q:=by
 exists a,·,SqT.of e,λhw=>h a H (.refl _) ?_,λp hp=>h p _ (Zc hp) ?_
 .rw[Zcu w h0 h1]at hw;rw[hw];exact e
 .rw[Zh,Zcu w h0 h1]
theorem Zoq(a b:Nat):(if(b:Int)<(a:Int)then(b:Int)else(a:Int))=((min a b:Nat):Int):=by split<;>lia
def Ze4[DecidableEq κ](kvs:List (κ×V))(k k':κ)(v:V):(valV (putK kvs k v) k').isSome=(decide (k'=k) ||(valV kvs k').isSome):=by
 rw[Pj]
 by_cases h:k'=k
 .rw[Dt h,Du h];rfl
 .rw[Ds h,Dv h,Jda]
theorem Zda:∀{u v:List Int},wk u=wk v->u=v
 |[],[],_=>rfl
 |[],_::_,h=>nomatch h
 |_::_,[],h=>nomatch h
 |x::u,y::v,h=>by
  let h':(Cp x:Key)::wk u=Cp y::wk v:=h;injection h' with a b
  rw[Ho a,Zda b]
def Nx{α:Type}{xs:List α}{v:α}(h:xs[j]?=some v):atI xs (0+(j:Int))=some v:=by rw[Lu];exact Zcz h
def Sj(kvs:List (List Key×V))(ws:List (List Int))(w:List Int)(n:Nat):Prop :=
 ∀u:List Int,(valV kvs (wk u)).isSome=decide ((∃x∈ws,u<+:x/\u.length<x.length)\/(u<+:w/\u.length<n))
theorem Sj.put{w:List Int}{n:Nat}(h:Sj kvs ws w n)(hn:n<=w.length){v:V}:Sj (putK kvs (wk (w.take n)) v) ws w (n+1):=by
 intro u;rw[Ze4,h u];let e:(wk u=wk (w.take n))↔(u=w.take n):=⟨Zda,λz=>by rw[z]⟩;rw[decide_eq_decide.mpr e,<-Bool.decide_or];refine decide_eq_decide.mpr ⟨λz=>?_,λz=>?_⟩
 .rcases z with z|z|⟨z1,z2⟩
  .subst z;exact .inr ⟨Fq _ _,by rw[Jv];lia⟩
  .exact .inl z
  .exact .inr ⟨z1,()⟩
 .rcases z with z|⟨z1,z2⟩
  .exact .inr (.inl z)
  .by_cases l:u.length<n
   .exact .inr (.inr ⟨z1,l⟩)
   .refine .inl ?_;let:u.length=n:=by lia
    rw[<-this];exact List.prefix_iff_eq_take.mp z1
def Sj.next{w:List Int}(h:Sj kvs ws w w.length)(w':List Int):Sj kvs (ws++[w]) w' 0:=by
 intro u;rw[h u];refine decide_eq_decide.mpr ⟨λz=>?_,λz=>?_⟩
 .rcases z with⟨x,hx,z⟩|z
  .exact .inl ⟨x,Gu _ hx,z⟩
  .exact .inl ⟨w,Jm _ (Jf.mpr rfl),z⟩
 .rcases z with⟨x,hx,z⟩|⟨_,z⟩
  .rcases Jw.mp hx with hx|hx
   .exact .inl ⟨x,hx,z⟩
   .rw[Jf.mp hx]at z;exact .inr z
  .exact absurd z (G5 _)
def Sj.nil(w:List Int):Sj [] [] w 0:=by
 intro u;rw[Zjp];refine(Dv ?_).symm;rintro(⟨x,hx,_⟩|⟨_,z⟩)
 .exact nomatch hx
 .exact absurd z (G5 _)
def Sj.done{w:List Int}(h:Sj kvs ws w 0):Zc8 kvs ws:=by
 intro u;rw[h u];refine decide_eq_decide.mpr ⟨λz=>?_,λz=>.inl z⟩;rcases z with z|⟨_,z⟩
 .exact z
 .exact absurd z (G5 _)
theorem Zg7{α:Type}{f:α->β}{m n:List β}(h:m.Perm n):∀{l:List α},l.map f=n->∃l':List α,l'.Perm l/\l'.map f=m:=by
 induction h with
 |nil=>intro l e;exists l,.refl _,e
 |cons x _ ih =>
  intro l e;cases l with
  |nil=>cases e
  |cons a l =>
   rw[Jp]at e;injection e with e1 e2
   let⟨l',p,q⟩:=ih e2;exact⟨a::l',p.cons a,by rw[Jp,e1,q]⟩
 |swap x y l0 =>
  intro l e
  match l,e with
  |a::b::r,e =>
   rw[Jp,Jp]at e;injection e with e1 e2
   injection e2 with e2 e3
   exact⟨b::a::r,.swap _ _ _,by rw[Jp,Jp,e1,e2,e3]⟩
 |trans _ _ ih1 ih2 =>
  intro l e;let⟨l2,p2,q2⟩:=ih2 e;let⟨l1,p1,q1⟩:=ih1 q2;exists l1,p1.trans p2,q1
structure PK3 where
 v:V
 tw:Addr
 p:Pr
def PK3.At(H:Hp)(e:PK3):Prop:=∃t,e.v=.ref t/\H t=some (.tup [.int e.p.1,.ref e.tw])/\H e.tw=some (.tup (e.p.2.map V.int))
def PK3.At.tk{e:PK3}(h:e.At H)(s:TupK H H'):e.At H':=by
 let⟨t,a,b,c⟩:=h;exists t,a,s _ _ b,s _ _ c
theorem Zl8 :∀{vs:List V}{L:List Pr},Prs H vs L->∃M:List PK3,M.map (·.v)=vs/\M.map (·.p)=L/\∀e∈M,e.At H
 |_,_,.nil=>⟨[],rfl,rfl,λ_ h=>nomatch h⟩
 |_,_,.cons ⟨t,tw,a,b,c⟩ r=>by
  let⟨M,e1,e2,e3⟩:=Zl8 r;exists⟨_,tw,_⟩::M,by rw[Jp,e1],by rw[Jp,e2],λe he=>?_;rcases Gi.mp he with z|z
  .rw[z];exists t,a,b,c
  .exact e3 e z
theorem Zma :∀{M:List PK3},(∀e∈M,e.At H)->Prs H (M.map (·.v)) (M.map (·.p))
 |[],_=>.nil
 |e::M,h=>by
  let⟨t,a,b,c⟩:=h e Ji;exact .cons ⟨t,e.tw,a,b,c⟩ (Zma λx hx=>h x (Jg _ hx))
def PK3.k(e:PK3):KIt:=(e.v,e.tw,e.p.2)
def Xk[DecidableEq κ](kvs:List (κ×V))(zs:List (κ×V)):List (κ×V):=zs.foldl (λa z=>putK a z.1 z.2) kvs
theorem Zd8[DecidableEq κ]:∀(zs kvs:List (κ×V)),(Xk kvs zs).length<=kvs.length+zs.length
 |[],kvs=>by simp[Xk]
 |z::r,kvs=>by
  let:=Zd8 r (putK kvs z.1 z.2);let l:=Y4 kvs z.1 z.2;show(Xk (putK kvs z.1 z.2) r).length<=_;rw[J0];lia
theorem Ts[DecidableEq κ]{k:κ}:∀(zs kvs:List (κ×V)),(∀z∈zs,z.1≠k)->valV (Xk kvs zs) k=valV kvs k
 |[],kvs,_=>rfl
 |z::r,kvs,h=>by
  show valV (Xk (putK kvs z.1 z.2) r) k=_;rw[Ts r _ λy hy=>h y (Jg _ hy),Pj,Ds (λe=>h z Ji e.symm)]
theorem R9[DecidableEq κ]{k:κ}{v:V}:∀(zs kvs:List (κ×V)),(zs.map (·.1)).Nodup->(k,v)∈zs->valV (Xk kvs zs) k=some v
 |[],kvs,_,h=>nomatch h
 |z::r,kvs,nd,h=>by
  show valV (Xk (putK kvs z.1 z.2) r) k=_;rw[Jp,Fd]at nd;rcases Gi.mp h with e|h
  .subst e;rw[Ts r _ λy hy e=>nd.1 (by
    let hm:y.1∈r.map (·.1):=Jq.mpr ⟨y,hy,rfl⟩;rw[e]at hm;exact hm),Pj,Dt rfl]
  .exact R9 r _ nd.2 h
theorem Nv{D:Addr}:∀(zs kvs:List (Key×V)),kvs.length+zs.length<sizeLine->DFill H D (.dK kvs) (zs.map λz=>(kV z.1,z.2)) (.dK (Xk kvs zs))
 |[],kvs,_=>.nil
 |z::r,kvs,h=>by
  rw[J0]at h;let l:=Y4 kvs z.1 z.2;let d:=DPut.k (H:=upd H D (.dK kvs)) (a:=D) (k:=z.1) (v:=z.2) Zh ();rw[Zfu]at d;exact .cons d (Nv r (putK kvs z.1 z.2) ())
theorem Zim{D:Addr}(hD:H D=none):∀(zs:List (Addr×List Key×V))(kvs:List (List Key×V)),kvs.length+zs.length<sizeLine->(∀z∈zs,H z.1=some (.tup (z.2.1.map kV))) ->
  DFill H D (.dT kvs) (zs.map λz=>(.ref z.1,z.2.2)) (.dT (Xk kvs (zs.map λz=>(z.2.1,z.2.2))))
 |[],kvs,_,_=>.nil
 |z::r,kvs,h,ht=>by
  rw[J0]at h;let l:=Y4 kvs z.2.1 z.2.2;let e:=ht z Ji;let d:=DPut.t (H:=upd H D (.dT kvs)) (a:=D) (b:=z.1) (k:=z.2.1) (v:=z.2.2) Zh (by rw[Zp (Zy e hD)];exact e) ();rw[Zfu]at d;exact .cons d (Zim hD r (putK kvs z.2.1 z.2.2) () λy hy=>ht y (Jg _ hy))
def Zfr(H:Hp)(k1:List (Key×V))(S:List Pr):Prop:=(∀p∈S,∃t,valV k1 (Cp p.1)=some (.ref t)/\H t=some (.tup (p.2.map V.int)))/\∀s:Int,(∀p∈S,p.1≠s)->valV k1 (Cp s)=none
def Zgf(k2:List (List Key×V))(S:List Pr):Prop:=(∀p∈S,valV k2 (wk p.2)=some (.int p.1))/\∀u:List Int,(∀p∈S,p.2≠u)->valV k2 (wk u)=none
def Zej(ns:List Int)(S:List Pr):Prop:=ns.Pairwise (· < ·)/\∀n:Int,n∈ns↔∃p∈S,(p.2.length:Int)=n
structure CodeIn(H:Hp)(tp d1 d2 d3 d4:Addr)(S:List Pr):Prop where
 pr:∃vs,H tp=some (.tup vs)/\Prs H vs S
 wb:∃k1,H d1=some (.dK k1)/\Zfr H k1 S
 sb:∃k2,H d2=some (.dT k2)/\Zgf k2 S
 bg:∃k3,H d3=some (.dT k3)/\Zc8 k3 (S.map (·.2))
 sz:∃ns:List Int,H d4=some (.tup (ns.map V.int))/\Zej ns S
def Uq(C:Addr)(H:Hp)(x:Addr)(S:List Pr):Prop:=∃dx tp d1 d2 d3 d4,H x=some (.ins C dx [("pairs",.ref tp),("words_by_sign",.ref d1),("signs_by_word",.ref d2),("begun",.ref d3),("word_sizes",.ref d4)])/\CodeIn H tp d1 d2 d3 d4 S
def Zc1(S:List Pr):Prop:=S.Pairwise λa b=>HT.lexLt a.2 b.2=true
def V0.grow{x:Addr}{q:Str}(t:V0 Pt pos q H){C:Addr}{fs:List (Str×V)}(e:H x=some (.ins C dx fs))(g:Grow x H H'):V0 Pt pos q H':=by
 let⟨ps,a,b,c⟩:=t;exists ps,g _ _ a (Wa a e λz=>by cases z),b,?_;rcases c with c|⟨c',d,f⟩
 .exact .inl c
 .exact .inr ⟨c',d,g _ _ f (Wa f e λz=>by cases z)⟩
def Grow.tkI{x:Addr}(g:Grow x H H'){C:Addr}{fs:List (Str×V)}(e:H x=some (.ins C dx fs)):TupK H H':=λb ys h=>g b _ h (Wa h e λz=>by cases z)
section
def rLen(K:Ck):List V->Hp->VK->Prop:=λxs H Q=>∃x n,xs=[x]/\LenV K x H n/\Q (.int n) H
def Xa(h:X.K=K):Wz X (.builtin "len") (rLen K):=by subst h;exact Xd
def Zm0(h:X.K=K):IxR X (rIxL K):=by subst h;exact Xf
def Zs7(h:X.K=K):IxR X (rIxT K):=by subst h;exact Tq
end
end L2
variable{S L:List L2.Pr}
namespace L2
open PySem PySem.W PyProof.Rows HT
theorem Nh:∀{us:List Value}{ns:List Int},Eg us ns->Vals (ns.map V.int) us:=by
 intro _ _ hz9;cases hz9 with
 |nil=>
  exact .nil
 |cons n t h=>
  exact .cons ⟨t,rfl⟩ (Nh h)
theorem Zh9:∀{us:List Value}{ns:List Int},us.length=ns.length->(∀(j:Nat)(v:Value),us[j]?=some v->∃n t,ns[j]?=some n/\v=K6 n t)->Eg us ns
 |[],[],_,_=>.nil
 |u::us,n::ns,hl,h=>by
  let⟨m,t,e,rfl⟩:=h 0 u rfl;cases e;exact .cons _ t (Zh9 (by simpa using hl) λj v e=>h (j+1) v e)
section
def Zq8:List V->Hp->VK->Prop:=λxs H Q=>∃(d:Addr)(kvs:List (Key×V))(ns:List Int),xs=[.ref d]/\H d=some (.dK kvs)/\kvs.map (·.1)=ns.map Cp/\kvs.length<64 /\
 ∀(D:Addr)(ns':List Int),H D=none->ns'.Perm ns->ns'.Pairwise (·<=·)->Q (.ref D) (upd H D (.lst (ns'.map V.int)))
theorem Zff(hc:X.calm=true):Wz X (.builtin "sorted") Zq8:=by
 intro pq s σ H xs us Q I r h;let⟨d,kvs,ns,rfl,ed,ek,hl,q⟩:=h;let⟨u,rfl,rx⟩:=Qj r;cases rx;let⟨hz,lo,vs,rel,dof⟩:=Zpc I.hok ed;let⟨ep,da⟩:=dof.dictAt;let hv:=Paired.length rel;refine Calls.call_function_entry kind_sorted plain_sorted entry_sorted (args_sorted1 _) ?_;unfold Builtin.«sorted»;refine Dm (m:=checkCount "sorted" 1 1 _) (Dn ?_);refine Dm (kdu_collect (A:=X.A.in1) (kdl_dict (knd:=Yd X.prog X.w) (kvs:=vs) (ep:=ep) lo) (I.ok.hd hc) da (by rw[Cj];lia) λh' tk acc hk hacc=>?_);let hal:acc.toList.length=vs.length:=by rw[Jj];exact hacc.1
 let hkl:kvs.length=ns.length:=by have:=congrArg Ex ek;simpa using this
 refine Dm (Hf ?_ (by rw[hal,Cj];lia));let hI:Eg acc.toList ns:=Zh9 () λj v e=>by
  let⟨k,x,e1,e2⟩:=hacc.2 j v (by rw[<-Jr];exact e);let hj:j<vs.length:=(Je.mp e1).1;let hr:=L2.Paired.at rel (by lia:j<kvs.length) hj;let e3:=congrArg (·[j]?) ek;simp only[Ge,Jb (by lia:j<kvs.length),Jb (by lia:j<ns.length),F0,Ma]at e3;rw[Jb hj]at e1;let e4:=Dw e1;rw[hr.1,e4]at e3;subst e3;rcases Yb (show Rt (Cp ns[j]) v=true from e2)with⟨i,t,e5,rfl⟩|⟨y,t,e5,rfl⟩
  .cases e5;exists _,t,Jb (by lia:j<ns.length),rfl
  .cases e5
 let hoL:(h'.push (Cv "list" acc.toList.toArray 0)).get? h'.objs.size=some (Cv "list" acc.toList.toArray 0):=Dp _ rfl;refine Dm (Cs (Cu (s:={s with heap:=h'.push (Cv "list" acc.toList.toArray 0),toks:=tk}) slot_list_sort ⟨_,hoL,rfl⟩ Jen (list_sort_tree hoL hI () λout ns' a1 a2 a3=>⟨_,rfl,?_⟩) (args_list_sort _)));let⟨e,he⟩:=sortedHeap_at (vs:=acc.toList) (out:=out) hoL;let I1:Inv X pq σ H {s with heap:=h',toks:=tk}:=I.kept hk;refine Dn ⟨_,rfl,.ref h'.objs.size,_,I1.laid (t':=tk) (λb o eb=>?_) (Jd _) (show Y6 X.prog X.w _ _ _ (.lst (ns'.map V.int))from⟨?_,out.toList,e,Nh a1,he⟩),rfl,q _ ns' (I1.hok.fresh (Jd _)) a2 a3⟩
 .let hb:h'.get? b=some o:=eb;let hlt:=Dq hb;rw[sortedHeap_old (Gj hlt) (by rw[Jb2];exact Bu hlt)];exact Do _ hb
 .rw[Ja,a2.length_eq,Cj];lia
end
end L2
namespace L2
open PySem PySem.Spec PyProof.Rows
def Zkv[DecidableEq κ](kvs:List (κ×V))(k:κ)(v:V):(putK kvs k v).map (·.1)=if k∈kvs.map (·.1)then kvs.map (·.1)else kvs.map (·.1)++[k]:=by
 unfold putK;let hiff:(kvs.any λkv=>decide (kv.1=k))=true↔k∈kvs.map (·.1):=by
  rw[List.any_eq_true,Jq]
  constructor
  .rintro⟨x,h1,h2⟩;exists x,h1,of_decide_eq_true h2
  .rintro⟨x,h1,h2⟩;exists x,h1,Du h2
 by_cases h:k∈kvs.map (·.1)
 .rw[Dt h,Dt (hiff.mpr h),Gb];refine Bf λkv _=>?_;show(if kv.1=k then(kv.1,v)else kv).1=kv.1
  split<;>rfl
 .rw[Ds h,Ds (λz=>h (hiff.mp z)),Jk];rfl
theorem Qa:∀(zs:List Int)(kvs:List (Key×V))(ns:List Int),kvs.map (·.1)=ns.map Cp->ns.Nodup ->
  ∃ns':List Int,(Xk kvs (zs.map λz=>((Cp z:Key),V.bl true))).map (·.1)=ns'.map Cp/\ns'.Nodup/\∀n,n∈ns'↔n∈ns\/n∈zs
 |[],kvs,ns,e,nd=>⟨ns,e,nd,λn=>by simp⟩
 |z::r,kvs,ns,e,nd=>by
  let hm:(Cp z:Key)∈kvs.map (·.1)↔z∈ns:=by
   rw[e,Jq]
   constructor
   .rintro⟨x,h,h2⟩;cases h2;exact h
   .exact λh=>⟨z,h,rfl⟩
  let hp:=Zkv kvs (Cp z) (V.bl true);show ∃ns':List Int,(Xk (putK kvs (Cp z) (V.bl true)) (r.map _)).map (·.1)=_/\_
  by_cases h:z∈ns
  .rw[Dt (hm.mpr h),e]at hp;let⟨ns',a,b,c⟩:=Qa r _ ns hp nd;exists ns',a,b,λn=>?_;rw[c,Gi]
   constructor
   .rintro(q|q)
    .exact .inl q
    .exact .inr (.inr q)
   .rintro(q|rfl|q)
    .exact .inl q
    .exact .inl h
    .exact .inr q
  .rw[Ds (λq=>h (hm.mp q)),e]at hp;let⟨ns',a,b,c⟩:=Qa r _ (ns++[z]) (by rw[hp,Jk];rfl) (Bv.mpr ⟨nd,by simp,λx hx y hy=>by
    rw[Jf.mp hy];exact λq=>h (q ▸ hx)⟩)
   exists ns',a,b,λn=>?_;rw[c,Gi,Jw,Jf]
   constructor
   .rintro((q|q)|q)
    .exact .inl q
    .exact .inr (.inl q)
    .exact .inr (.inr q)
   .rintro(q|q|q)
    .exact .inl (.inl q)
    .exact .inl (.inr q)
    .exact .inr q
theorem Zge{ns':List Int}(nd:ns.Nodup)(h:∀n,n∈ns↔n∈S.map λp=>(p.2.length:Int))(p:ns'.Perm ns)(ri:ns'.Pairwise (·<=·)):Zej ns' S:=by
 exists ?_,λn=>?_
 .let nd':ns'.Nodup:=p.nodup_iff.mpr nd;exact(List.pairwise_and_iff.mpr ⟨ri,nd'⟩).imp λ{a b}z=>by
   let:=z.1;let:=z.2;lia
 .rw[p.mem_iff,h,Jq]
def Zga:Sp:=λvs H Q _=>∃(p a:Addr)(m:Int),vs=[.ref p,.int m]/\HandAt H p a/\2<=m/\m<=4 /\
 ∀(l:Addr)(bs:List Int)(H':Hp),H l=none->l≠p->H' l=some (.lst (bs.map V.int))->bs.Nodup->2<=bs.length->(bs.length:Int)<=m->(∀b∈bs,0<=b/\b<256)->HandAt H' p a->Grow p H H'->Q (.ref l) H'
theorem Zbt{b s:Int}(hs:1<=s){n:Nat}(hn:s*n<=255+s):((Co n).map λk:Nat=>(b+s*(k:Int)) % 256).Nodup:=by
 refine Jz.mpr ?_;refine Gp.mpr λi j hi hj hij=>?_;simp only[Bd]at hi hj;simp only[List.getElem_range];intro e;let h2:s*((j:Int)-(i:Int))=s*(j:Int)-s*(i:Int):=Jgr _ _ _;let h3:0<s*((j:Int)-(i:Int)):=Int.mul_pos () ();let h4:s*((j:Int)-(i:Int))<=s*((n:Int)-1):=Kz () ();let h5:s*((n:Int)-1)<=255:=by rw[Jgr,Jgj];lia
 rw[h2]at h3 h4;generalize s*(j:Int)=X at *
 generalize s*(i:Int)=Y at *
 lia
def PF(ws:List (List Int)):Prop:=ws.Pairwise λa b=>¬ a<+:b/\¬ b<+:a
def WOk(ws:List (List Int)):Prop:=PF ws/\∀w∈ws,w≠[]/\w.length<=4
def PF.sub{a b:List (List Int)}(h:PF b)(s:a.Sublist b):PF a:=Ja6 s h
def WOk.sub{a b:List (List Int)}(h:WOk b)(s:a.Sublist b):WOk a:=⟨h.1.sub s,λw hw=>h.2 w (s.subset hw)⟩
def V9{w:List Int}{a b:Int}(h:a≠b):¬ (w++[a])<+:(w++[b]):=λe=>by
 let:=Jes e (by simp);simp at this;exact h this
def Zok{bs:List Int}(nd:bs.Nodup):WOk (bs.map λb=>[b]):=by
 exists Jz.mpr (nd.imp λz=>⟨V9 (w:=[]) z,V9 (w:=[]) z.symm⟩),λw hw=>?_;let⟨b,_,rfl⟩:=Jq.mp hw;exact⟨by simp,by simp⟩
theorem Zkg{a c:List (List Int)}{w:List Int}{bs:List Int}(nd:bs.Nodup)(h:WOk (a++w::c))(hw:w.length<4):WOk (a++(bs.map λb=>w++[b])++c):=by
 let⟨h1,h2⟩:=h;let hk:∀x,(¬ x<+:w/\¬ w<+:x)->∀b,¬ x<+:w++[b]/\¬ (w++[b])<+:x:=λx hx b=>by
  exists λz=>?_,λz=>hx.2 ((Gn _ _).trans z);rcases List.prefix_concat_iff.mp z with e|e
  .exact hx.2 (e ▸ Gn _ _)
  .exact hx.1 e
 unfold PF at h1;rw[F7]at h1;let⟨pa,pwc,pac⟩:=h1;rw[Fw]at pwc;let⟨pw,pc⟩:=pwc;exists ?_,λx hx=>?_
 .unfold PF;rw[Jn,F7];exists pa,?_,λx hx y hy=>?_
  .rw[F7];exists Jz.mpr (nd.imp λz=>⟨V9 z,V9 z.symm⟩),pc,λx hx y hy=>?_;let⟨b,_,rfl⟩:=Jq.mp hx;let:=hk y ⟨(pw y hy).2,(pw y hy).1⟩ b;exists this.2,this.1
  .rcases Jw.mp hy with hy|hy
   .let⟨b,_,rfl⟩:=Jq.mp hy;exact hk x (pac x hx w Ji) b
   .exact pac x hx y (Jg _ hy)
 .rcases Jw.mp hx with hx|hx
  .rcases Jw.mp hx with hx|hx
   .exact h2 x (Gu _ hx)
   .let⟨b,_,rfl⟩:=Jq.mp hx;exact⟨by simp,by rw[Jc,G0];lia⟩
  .exact h2 x (Jm _ (Jg _ hx))
theorem Zfk:∀(ss:List Int)(ws:List (List Int)),((ss.zip ws).map (·.1)).Sublist ss
 |[],_=>by simp
 |_::_,[]=>by simp
 |a::r,b::t=>by rw[Fa,Jp];exact(Zfk r t).cons₂ a
theorem Zfj:∀(ss:List Int)(ws:List (List Int)),((ss.zip ws).map (·.2)).Sublist ws
 |[],_=>by simp
 |_::_,[]=>by simp
 |a::r,b::t=>by rw[Fa,Jp];exact(Zfj r t).cons₂ b
def WOk.free(h:WOk ws){ss:List Int}(nd:ss.Nodup):Free (ss.zip ws):=by
 let h1:((ss.zip ws).map (·.1)).Nodup:=nd.sublist (Zfk ss ws);let h2:PF ((ss.zip ws).map (·.2)):=h.1.sub (Zfj ss ws);exact(Jz.mp h1).and (Jz.mp h2) |>.imp λz=>⟨z.1,z.2.1,z.2.2⟩
def Zjg(H:Hp)(a:Addr)(ws:List (List Int)):Prop:=∃vs,H a=some (.lst vs)/\Qr H vs ws
def Nq{p a:Addr}(h:HandAt H p a):∃xs,H p=some (.lst xs):=let⟨_,_,_,e,_⟩:=h.ex;⟨_,e⟩
def Qr.take1(h:Qr H vs ws){i:Nat}(hi:i<vs.length):∃(hj:i<ws.length)(t:Addr),vs[i]=.ref t/\H t=some (.tup (ws[i].map V.int)):=by
 let hj:i<ws.length:=by rw[<-Paired.length h];exact hi
 let⟨t,e,z⟩:=L2.Paired.at h hi hj;exists hj,t,e,z
def Zf8:Sp:=λvs H Q _=>∃(p a wa sa:Addr)(ws:List (List Int))(ss:List Int),vs=[.ref p,.ref wa,.ref sa]/\HandAt H p a/\Zjg H wa ws/\wa≠p/\WOk ws/\ws.length<=28/\H sa=some (.lst (ss.map V.int))/\sa≠p/\ss.Nodup/\ws.length<=ss.length/\ss.length<=100 /\
 ∀(l:Addr)(L:List Pr)(H':Hp),H l=none->l≠p->Vd H' l L->Free L->Fits L->(L.map (·.2)).Perm ws->HandAt H' p a->Grow p H H'->Q (.ref l) H'
def Free.rev(h:Free L):Free L.reverse:=List.pairwise_reverse.mpr (h.imp λz=>⟨z.1.symm,z.2.2,z.2.1⟩)
def Zes{ss:List Int}(h:ss.Nodup)(n:Nat):(ss.drop n++ss.take n).Nodup:=by
 let:(ss.take n++ss.drop n).Nodup:=by rw[Jx];exact h
 exact(G4.nodup_iff).mp this
def Uq.same{C x:Addr}(h:Uq C H x S)(s:Same H H'):Uq C H' x S:=by
 let⟨dx,tp,d1,d2,d3,d4,ex,⟨⟨vs,a1,a2⟩,⟨k1,b1,b2⟩,⟨k2,c1,c2⟩,⟨k3,f1,f2⟩,⟨k4,g1,g2⟩⟩⟩:=h;exists dx,tp,d1,d2,d3,d4,s _ _ ex,⟨vs,s _ _ a1,Prs.tk a2 s.tk⟩,⟨k1,s _ _ b1,λp hp=>?_,b2.2⟩,⟨k2,s _ _ c1,c2⟩,⟨k3,s _ _ f1,f2⟩,⟨k4,s _ _ g1,g2⟩;let⟨t,u,v⟩:=b2.1 p hp;exists t,u,s _ _ v
def Zlx(C:Addr):Sp:=λvs H Q _=>∃(x t:Addr)(S:List Pr)(u:List Int),vs=[.ref x,.ref t]/\Uq C H x S/\H t=some (.tup (u.map V.int))/\(∀p∈S,p.2=u->Q (.int p.1) H)/\((∀p∈S,p.2≠u)->Q .non H)
def Zo9(h:Free S){p q:Pr}(hp:p∈S)(hq:q∈S){l:List Int}(p1:p.2<+:l)(q1:q.2<+:l):p=q:=by
 let⟨i,hi,rfl⟩:=Gg hp;let⟨j,hj,rfl⟩:=Gg hq;let z:=Ko p1 q1;rcases Nat.lt_trichotomy i j with l|l|l
 .let a:=h.get hi hj l;rcases z with z|z
  .exact absurd z a.2.1
  .exact absurd z a.2.2
 .subst l;rfl
 .let a:=h.get hj hi l;rcases z with z|z
  .exact absurd z a.2.2
  .exact absurd z a.2.1
def Free.perm(h:Free L)(p:S.Perm L):Free S:=(p.pairwise_iff (λ{a b}z=>⟨z.1.symm,z.2.2,z.2.1⟩)).mpr h
def Fits.perm(h:Fits L)(p:S.Perm L):Fits S:=⟨by rw[p.length_eq];exact h.1,λx hx=>h.2 x (p.mem_iff.mp hx)⟩
def Zu(T:List Pr):List Int:=(T.map λq:Pr=>q.2).flatten
def Z2(T:List Pr):List Int:=T.map λq:Pr=>q.1
def row_cons(p:Pr)(T:List Pr):Zu (p::T)=p.2++Zu T:=rfl
def row_app(A B:List Pr):Zu (A++B)=Zu A++Zu B:=by unfold Zu;rw[Jk,List.flatten_append]
theorem Zb1(h:Fits S):∀{T:List Pr},(∀p∈T,p∈S)->(Zu T).length<=4*T.length
 |[],_=>by simp[Zu]
 |p::T,m=>by
  let a:=Zb1 h (T:=T) λq hq=>m q (Jg _ hq);let b:=(h.2 p (m p Ji)).2;rw[row_cons,Jc,J0];lia
def Zj9{T:List Pr}{i:Nat}(hi:i<T.length):Zu (T.take (i+1))=Zu (T.take i)++T[i].2:=by
 rw[Jh hi,row_app,row_cons];simp[Zu]
theorem Zq5(T:List Pr)(i:Nat):(Zu (T.take i)).length<=(Zu T).length:=by
 let:Zu T=Zu (T.take i)++Zu (T.drop i):=by rw[<-row_app,Jx]
 rw[this,Jc];lia
theorem Zpi(w:List Int){k m:Nat}(h:k<=w.length):cutV (w.map V.int) (some (k:Int)) (some ((k:Int)+(m:Int)))=((w.drop k).take m).map V.int:=by
 unfold cutV;rw[<-F1,HT.sIx_nat,HT.sIx_nat,Ja,Fe h,F2,De];refine List.take_eq_take_iff.mpr ?_;rw[Ga,Ja];lia
section
def Zgz(K:Ck):List V->Hp->VK->Prop:=λxs H Q=>∃p ys,xs=[.ref p]/\(SqL K H p ys\/SqT K H p ys)/\∀l,H l=none->Q (.ref l) (upd H l (.lst ys))
def Zcw(h:X.K=K):Wz X (.type "list") (Zgz K):=by subst h;exact Za8
def rIsi(K:Ck):List V->Hp->VK->Prop:=λxs H Q=>∃x T t b,xs=[x,.ty T]/\TyOf K H x t/\Jf0 K t (.type T)=some b/\Q (.bl b) H
def Zm1(h:X.K=K):Wz X (.builtin "isinstance") (rIsi K):=by subst h;exact Zlb
end
abbrev En:=Nat×Option Int
variable{R:List L2.En}
inductive Went(S:List Pr)(ns:List Int):List En->Nat->Prop where
 |nil:Went S ns [] 0
 |lost {R:List En} {pl:Nat}:Went S ns R pl->pl<ns.length->(∀p∈S,¬ p.2<+:ns.drop pl)->Went S ns (R++[(pl,none)]) (pl+1)
 |word {R:List En} {pl:Nat} {p:Pr}:Went S ns R pl->p∈S->p.2<+:ns.drop pl->p.2≠[]->Went S ns (R++[(pl,some p.1)]) (pl+p.2.length)
theorem Zl9{w:List Int}(h:w<+:ns.drop pl)(hw:w≠[]):pl<ns.length/\pl+w.length<=ns.length:=by
 let a:=h.length_le;let b:=Gh.mpr hw;rw[Ga]at a;lia
theorem Went.le(h:Went S ns R pl):pl<=ns.length:=by
 cases h with
 |nil=>exact Gc _
 |lost _ h _=>exact h
 |word _ _ h1 h2=>exact(Zl9 h1 h2).2
theorem Went.len(h:Went S ns R pl):R.length<=pl:=by
 induction h with
 |nil=>exact Jd _
 |lost _ _ _ ih=>rw[Jc,G0];lia
 |word _ _ _ h2 ih =>
  let:=Gh.mpr h2;rw[Jc,G0];lia
theorem Went.perm(h:Went S ns R pl)(p:S.Perm L):Went L ns R pl:=by
 induction h with
 |nil=>exact .nil
 |lost _ h1 h2 ih=>exact .lost ih h1 λq hq=>h2 q (p.mem_iff.mpr hq)
 |word _ h1 h2 h3 ih=>exact .word ih (p.mem_iff.mp h1) h2 h3
theorem Went.one(fr:Free S){A:List En}{pa:Nat}(h:Went S ns A pa):∀{B:List En}{pb:Nat},Went S ns B pb->A.length=B.length->A=B/\pa=pb:=by
 induction h with
 |nil =>
  intro B pb hb e;cases hb with
  |nil=>exact⟨rfl,rfl⟩
  |lost=>simp at e
  |word=>simp at e
 |lost _ h1 h2 ih =>
  intro B pb hb e;cases hb with
  |nil=>simp at e
  |lost b1 b2 b3 =>
   let⟨rfl,rfl⟩:=ih b1 (by simpa using e);exists rfl,rfl
  |word b1 b2 b3 b4 =>
   let⟨rfl,rfl⟩:=ih b1 (by simpa using e);exact absurd b3 (h2 _ b2)
 |word _ h1 h2 h3 ih =>
  intro B pb hb e;cases hb with
  |nil=>simp at e
  |lost b1 b2 b3 =>
   let⟨rfl,rfl⟩:=ih b1 (by simpa using e);exact absurd h2 (b3 _ h1)
  |word b1 b2 b3 b4 =>
   let⟨rfl,rfl⟩:=ih b1 (by simpa using e);obtain rfl:=Zo9 fr h1 b2 h2 b3;exists rfl,rfl
theorem Went.cut{B:List En}{pb:Nat}(h:Went S ns B pb):∀n,n<B.length->∃p',Went S ns (B.take n) p'/\p'<ns.length:=by
 induction h with
 |nil=>intro n hn;exact absurd hn (G5 _)
 | @lost R pl g h1 h2 ih =>
  intro n hn;rw[Jc,G0]at hn
  by_cases z:n<R.length
  .let⟨p',a,b⟩:=ih n z;exists p',by rw[Bz ()];exact a,b
  .let:n=R.length:=by lia
   subst this;exists pl,by rw[Bw];exact g,h1
 | @word R pl p g h1 h2 h3 ih =>
  intro n hn;rw[Jc,G0]at hn
  by_cases z:n<R.length
  .let⟨p',a,b⟩:=ih n z;exists p',by rw[Bz ()];exact a,b
  .let:n=R.length:=by lia
   subst this;exists pl,by rw[Bw];exact g,(Zl9 h2 h3).1
theorem Went.uniq(fr:Free S){A B:List En}{pa pb:Nat}(ha:Went S ns A pa)(ea:ns.length<=pa)(hb:Went S ns B pb)(eb:ns.length<=pb):A=B:=by
 rcases Nat.lt_trichotomy A.length B.length with l|l|l
 .let⟨p',a,b⟩:=hb.cut _ l;let⟨_,e⟩:=ha.one fr a (by rw[Jv];lia);lia
 .exact(ha.one fr hb l).1
 .let⟨p',a,b⟩:=ha.cut _ l;let⟨_,e⟩:=hb.one fr a (by rw[Jv];lia);lia
def Told(S:List Pr)(ns:List Int)(R:List En):Prop:=∃pl,Went S ns R pl/\ns.length<=pl
def Told.uniq(fr:Free S){A B:List En}(a:Told S ns A)(b:Told S ns B):A=B:=by
 let⟨pa,a1,a2⟩:=a;let⟨pb,b1,b2⟩:=b;exact a1.uniq fr a2 b1 b2
def Told.perm(h:Told S ns R)(p:S.Perm L):Told L ns R:=by
 let⟨pl,a,b⟩:=h;exists pl,a.perm p,b
theorem Told.len(h:Told S ns R):R.length<=ns.length:=by
 let⟨pl,a,b⟩:=h;let:=a.le;let:=a.len;lia
def Zl1:Sp:=λvs H Q _=>∃(ta ra:Addr)(L:List Pr)(ns:List Int)(pl:Nat),vs=[.ref ta,.ref ra,.int pl]/\Vd H ta L/\L.length<64/\H ra=some (.lst (ns.map V.int))/\pl<=ns.length /\
 (∀p∈L,p.2<+:ns.drop pl->∀(t:Addr)(H':Hp),Same H H'->H' t=some (.tup [.int p.1,.int ((pl+p.2.length:Nat):Int)])->Q (.ref t) H')/\((∀p∈L,¬ p.2<+:ns.drop pl)->∀H',Same H H'->Q .non H')
def Zs8(h:X.K=K)(hc:X.calm=true):Wz X (.builtin "any") (λxs H Q=>∃(p:Addr)(bs:List Bool),xs=[.ref p]/\SqL K H p (bs.map V.bl)/\Q (.bl (bs.any id)) H):=by subst h;exact Zlc hc
def excP(ea C:Addr)(d:Option Addr)(h:Heap):Prop:=∃oe vs,h.get? ea=some oe/\oe.cls=.ref C/\oe.dict=d/\oe.data=.fields vs/\vs.size=6
end L2
variable{R:List L2.En}
namespace L2
open PySem PySem.Spec PyProof.Rows PySem.W
def xdP(d:Addr)(fs:List (Str×V))(h:Heap):Prop:=∃mA,h.Ns1 d mA/\(∀f,RelO (fs.lookup f) (mA f))/\Mx mA (fs.map (·.1))
end L2
namespace L2
open PySem PySem.Spec PyProof.Rows PySem.W PySem.Builtin PySem.Builtin.ObjectAttr
section
def XD(H:Hp):Option Addr->List (Str×V)->Prop
 |some d,fs=>H d=some (.ext (xdP d fs))
 |none,fs=>fs=[]
theorem XD.mono(s:Same H H'):∀{o:Option Addr}{fs:List (Str×V)},XD H o fs->XD H' o fs
 |some _,_,h=>s _ _ h
 |none,_,h=>h
end
end L2
namespace L2
open PySem PySem.Spec PyProof.Rows
def Zak(l:Addr)(items:Array Value)(n:Nat)(b:Addr)(items2:Array Value)(n2:Nat)(sl:Array (Option Value))(hs0:¬(!items.isEmpty&&C2 (items.size+items2.size))=true)(hs1:items.size<=sizeLine)(hs2:items.size+items2.size<=sizeLine+1) :
  Meets (Builtin.«list.extend» ⟨[.ref l,.ref b],[]⟩) (λ_ R s=>s.heap.get? l=some {cls:=.type "list",dict:=none,data:=.seq items n,slots:=#[]}/\s.heap.get? b=some {cls:=.type "tuple",dict:=none,data:=.seq items2 n2,slots:=sl}/\R (.ok (.ret Value.none)) {s with heap:=s.heap.update l (Ch λx=>x++items2),toks:=s.toks}) :=
 .of_wp λprog w A R s h=>by
  let⟨hp,g,d,tk,os⟩:=s;let⟨hl,hb,h⟩:=h;let f1:=AutoSeq1.idx_int;let f2:=AutoSeq1.sub_tuple_tuple;let f3:=Mv;let f4:=AutoSeq1.sub_tuple_list;let f5:=AutoSeq1.sub_list_tuple;
  let hz':(items++items2).size<=sizeLine+1:=by rw[Array.size_append];exact hs2
  wp_walk using(wpAny_updateSeq hl rfl (hz:=hs1) (_hz':=hz')),Mb hl,Mb hb;exists ·,h
def Zdp:V->List V->Hp->VK->Prop:=λx vs H Q=>∃l b xs zs,x=.ref l/\vs=[.ref b]/\H l=some (.lst xs)/\H b=some (.tup zs)/\xs.length+zs.length<=sizeLine/\Q .non (upd H l (.lst (xs++zs)))
theorem Zez :MtM X "list.extend" Zdp:=by
 intro pq s σ H x vs v us Q I rx rv h;let⟨l,b,xs,zs,rfl,rfl,hH,hB,hz,q⟩:=h;cases rx;let⟨u,rfl,ru⟩:=rv.one;cases ru;let⟨z,its,n,r,hl,e⟩:=I.lstM hH;let⟨z2,its2,r2,⟨⟨c,dct,dt,sl⟩,e2,c2,n2,d2,dd2⟩⟩:=I.hok b _ hB
 replace c2:c=.type "tuple":=c2
 replace d2:dt=.seq its2.toArray n2:=d2
 replace dd2:dct=none:=dd2
 subst c2 d2 dd2;let hl2:=r2.length;let hsz:its.toArray.size+its2.toArray.size<=sizeLine:=by rw[Jl,Jl];lia
 let hlong:¬ (!its.toArray.isEmpty&&C2 (its.toArray.size+its2.toArray.size))=true:=by
  rw[P3 hsz,Je6];exact Jt
 refine Hv Ha ⟨_,e,rfl⟩ Jcy (Jb4 _ _)
  (Zak l its.toArray n b its2.toArray n2 sl hlong (by rw[Jl];lia) ()) ⟨e,e2,?_⟩
 exists .non,_,I.lset (its':=its++its2) hH e (by simp) (r.append r2) ?_,rfl,q;rw[Jc];lia
end L2
namespace L2
open PySem PySem.Spec PyProof.Rows PySem.W
def Zlw(C:Addr):Sp:=λvs H Q _=>∃(x:Addr)(S:List Pr)(s:Int),vs=[.ref x,.int s]/\Uq C H x S/\(∀p∈S,p.1=s->∀t,H t=some (.tup (p.2.map V.int))->Q (.ref t) H)/\((∀p∈S,p.1≠s)->Q .non H)
end L2
namespace L2
open PySem PySem.Spec PyProof.Rows
inductive NI where
 |k (z:Int)|t (x:List Int)|b (t:Bool)
 deriving DecidableEq
variable{ks:List L2.NI}
def NI.sh:NI->Nat
 |.k _=>0
 |.t _=>1
 |.b _=>2
def niH:NI->Int
 |.k z=>hashInt z
 |.t x=>reduceHash (Builtin.Tuple.tupleHashOf (x.map hashInt))
 |.b t=>hashInt (if t then 1 else 0)
def nh(ks:List NI):Int:=reduceHash (Builtin.Tuple.tupleHashOf (ks.map niH))
abbrev Nkv:=List NI×Addr×V
def dnP(d:Addr)(kvs:List Nkv)(h:Heap):Prop:=kvs.length<=sizeLine/\(d==C9)=false/\∃xs:List (List NI×Addr×Value),Paired (λ(p:Nkv)(q:List NI×Addr×Value)=>p.1=q.1/\p.2.1=q.2.1/\RelV p.2.2 q.2.2) kvs xs /\
 ∃o es ep,h.get? d=some o/\o.ExactDict/\o.data=.dict es ep/\es.toList=xs.map (λx=>⟨nh x.1,.ref x.2.1,x.2.2⟩)/\(xs.map (·.1)).Nodup
def dnP.ok{d:Addr}{kvs:List Nkv}(x:dnP d kvs h):Y6 P w H h d (.ext (dnP d kvs)):=by
 let⟨a,b,xs,r,o,es,ep,e,q⟩:=id x;exists x,⟨o,e⟩,λh1 h2⟨a1,b1,xs1,r1,o1,es1,ep1,e1,q1⟩k=>⟨a1,b1,xs1,r1,o1,es1,ep1,k _ e1,q1⟩
def NkV(K:Ck)(H:Hp):NI->V->Prop
 |.k z,v=>v=.int z
 |.t x,v=>∃a,v=.ref a/\SqT K H a (x.map V.int)
 |.b t,v=>v=.bl t
def NkAt(K:Ck)(H:Hp)(ks:List NI)(a:Addr):Prop:=∃vs,SqT K H a vs/\Paired (NkV K H) ks vs
def Zf6(tk:∀b u,Rd H b (.tup u)->Rd H' b (.tup u)){a:Addr}(h:SqT K H a xs):SqT K H' a xs:=by
 rcases h with h|h
 .exact .inl (tk _ _ h)
 .exact .inr h
theorem NkV.tk(tk:∀b u,Rd H b (.tup u)->Rd H' b (.tup u)){k:NI}{v:V}(h:NkV K H k v):NkV K H' k v:=by
 cases k with
 |k z=>exact h
 |t x=>obtain⟨a,e,q⟩:=h;exists a,e,Zf6 tk q
 |b t=>exact h
theorem NkAt.tk(tk:∀b u,Rd H b (.tup u)->Rd H' b (.tup u)){a:Addr}(h:NkAt K H ks a):NkAt K H' ks a:=by
 let⟨vs,e,r⟩:=h;exists vs,Zf6 tk e,Paired.mapP r λ_ _ z=>z.tk tk
def NkAt.same(s:Same H H'){a:Addr}(h:NkAt K H ks a):NkAt K H' ks a:=h.tk λb u r=>by
 rcases r with r|⟨o,r⟩
 .exact .inl (s _ _ r)
 .exact .inr ⟨o,s _ _ r⟩
def Su(s:Same H H'){a:Addr}(h:SqT K H a xs):SqT K H' a xs:=Zf6 (λb u r=>by
 rcases r with r|⟨o,r⟩
 .exact .inl (s _ _ r)
 .exact .inr ⟨o,s _ _ r⟩) h
def dnP.ne{a:Addr}{kvs:List Nkv}{φ:Heap->Prop}(o:Obj){vs:Array Value}(hd:o.data=.fields vs)(hφ:∀h:Heap,h.get? a=some o->φ h)(e:dnP a kvs=φ):False:=by
 let g:(Heap.get? ⟨Array.replicate (a+1) o,{}⟩ a)=some o:=by
  let⟨c,di,da,sl⟩:=o;cases hd;unfold Heap.get?;let z:(Array.replicate (a+1) (⟨c,di,.fields vs,sl⟩:Obj))[a]?=some ⟨c,di,.fields vs,sl⟩:=by simp
  simp only[z]
 let x:=hφ _ g;rw[<-e]at x;let⟨_,_,xs,_,ob,es,ep,g2,_,dd,_⟩:=x;rw[g]at g2;cases g2;rw[hd]at dd;cases dd
theorem Zae :∀k,k<=ns.length->preSum (λi=>(ns[i]?).getD 0) k=(ns.take k).sum
 |0,_=>rfl
 |k+1,h=>by
  let hk:k<ns.length:=by lia
  rw[preSum,Zae k (),Jh hk,List.sum_append,Jb hk];simp
section
theorem Vals.int_get :∀{us:List Value}{i:Nat}{v:Value},Vals (ns.map V.int) us->us[i]?=some v->∃t,v=.int ((ns[i]?).getD 0) t:=by
 induction ns with
 |nil=>intro us i v r e;cases r;simp at e
 |cons n r ih =>
  intro us i v rv e;rw[Jp]at rv;cases rv with
  |cons r1 r2 =>
   cases i with
   |zero =>
    let⟨t,rfl⟩:=r1;simp at e;exact⟨t,by rw[<-e];rfl⟩
   |succ i=>simpa using ih r2 (by simpa using e)
def Zla(hc:X.calm=true):Wz X (.builtin "sum") (λxs H Q=>∃(p:Addr)(ns:List Int),xs=[.ref p]/\SqL X.K H p (ns.map V.int)/\Q (.int ns.sum) H):=by
 intro pq s σ H xs us Q I r h;let⟨p,ns,rfl,hq,q⟩:=h;let⟨u,rfl,ru⟩:=Qj r;cases ru;let⟨its,rv,pl,hz⟩:=I.list hq;let hlen:=rv.length;rw[Ja]at hlen;let hlt:p<s.heap.objs.size:=by let⟨_,e,_⟩:=pl.isList;exact Dq e
 refine call_sum_walkAnyS (Kj pl.isList ?_);refine⟨s.heap.objs.size,[s.heap.objs.size,p],[s.heap.objs.size],_,its.toArray.size,_,_,λi=>(ns[i]?).getD 0,rfl,(Walks.list (A:=X.A.in1) (I.ok.hd hc) _ p (Gj hlt) its.toArray).toS,
  ⟨⟨_,Dp _ rfl,rfl,rfl⟩,pl.isList.push _⟩,λb hb=>?_,λi v hP=>?_,λs' t' hm=>?_⟩
 .rcases Gi.mp hb with e|hb
  .rw[e];show _<(s.heap.push _).objs.size;simp[Heap.push]
  .rw[Jf.mp hb];show _<(s.heap.push _).objs.size;simp only[Heap.push,Array.size_push];exact Bu hlt
 .exact Vals.int_get rv (by simpa using hP)
 .rw[Jl,<-hlen,Zae _ (Jd _),Gd];let⟨h1,h2,h3,h4,h5⟩:=hm;let e:s'={s with heap:=s'.heap,toks:=s'.toks}:=by
   let⟨a1,a2,a3,a4,a5⟩:=s';simp only at h2 h3 h4;subst h2 h3 h4;rfl
  rw[e];exists .int _,H,I.kept (t':=s'.toks) (Lm h1),⟨t',rfl⟩,q
end
section
variable{d:Addr}{i:Nat}{od:Obj}{tab:Array DictEntry}{Q:Option Value->Ca->Prop}
theorem Zdy(ki:s.heap.IsKeyIter it d i tab.size ep)(gd:s.heap.get? d=some od)(dd:od.data=.dict tab ep)(lt:i<tab.size)(fin:∀h',h'.IsKeyIter it d (i+1) tab.size ep->E8 it s.heap h'->Q (some tab[i].key) {s with heap:=h'}):Cc (Cg prog w) A (Jb5 (.ref it)) Q E s:=by
 let⟨oi,gi,ci,di⟩:=id ki;let own0:Builtin.Dict_items.ownsTuple "dict_keyiterator"=false:=by decide
 let ng:¬ ((i:Int)<0):=by lia
 unfold Jb5;refine Dm (Mj (Ez (name:=C1 "__next__") ki.typeIs F.slot_dict_keyiterator_next (Cu F.slot_dict_keyiterator_next ki.typeIs F.entry_dict_keyiterator_next ?_ (F.args_dict_keyiterator_next_1 _))));refine Dm (Dn (Dm (Dm ?_)))
 first|refine Dm (wpAny_typeNameOfWhole_keyiter ki.typeIs (Dn ?_))|refine Dm (wpAny_typeNameOf_keyiter ki.typeIs (Dn ?_))
 refine Dm (wpAny_fieldsOf gi di ?_);simp only[own0,Jy,if_false];let nn:¬ ((Cb d==Value.none)=true):=Jt;refine Eq.mpr (congrArg (λz=>Cc (Cg prog w) _ z _ _ s) (Ds nn)) ?_;refine Dm (Dn (Dm (wpAny_dictEntries gd dd ?_)));rw[Ds (by simp)];refine Dm (Dn (Dm (wpAny_dictEpoch gd dd ?_)));rw[Ds (by simp)];refine Dn ?_;simp only[ng,if_false,Gy,G1 lt];refine Dm ?_
 first|refine Dm (wpAny_typeNameOfWhole_keyiter ki.typeIs (Dn ?_))|refine Dm (wpAny_typeNameOf_keyiter ki.typeIs (Dn ?_))
 refine Dm (wpAny_isOneOf_keyiter ki.typeIs ?_);refine Dm (m:=setField (.ref it) 1 (Hk ((i:Int)+1))) (wpAny_setField gi di (by simp) ?_);let ki2:(s.heap.update it (Jf6 (·.setIfInBounds 1 (Hk ((i:Int)+1))))).IsKeyIter it d (i+1) tab.size ep :=
  ⟨_,Ja1 _ gi (Obj.isFreed_of_fields (Jdf di _)),(Obj.cls_mapFields ..).trans ci,by rw[Jdf di];simp[Hk]⟩
 refine Dm (Cs (Dm (wpAny_isOneOf_keyiter (s:={s with heap:=s.heap.update it (Jf6 (·.setIfInBounds 1 (Hk ((i:Int)+1))))}) ki2.typeIs ?_)));show Cc _ _ (pure tab[i].key) _ _ _;exact Dn (Dn ⟨_,rfl,Dn (fin _ ki2 (Ct ..))⟩)
theorem Zhl(calm:A.handled=none)(ki:s.heap.IsKeyIter it d i tab.size ep)(gd:s.heap.get? d=some od)(dd:od.data=.dict tab ep)(ge:tab.size<=i)(fin:∀h',Heap.ExtBut it s.heap h'->Q none {s with heap:=h'}):Cc (Cg prog w) A (Jb5 (.ref it)) Q E s:=by
 let⟨oi,gi,ci,di⟩:=id ki;let own0:Builtin.Dict_items.ownsTuple "dict_keyiterator"=false:=by decide
 let ng:¬ ((i:Int)<0):=by lia
 let nn:¬ ((Cb d==Value.none)=true):=Jt;unfold Jb5;refine Dm (Mj (Ez (name:=C1 "__next__") ki.typeIs F.slot_dict_keyiterator_next (Cu F.slot_dict_keyiterator_next ki.typeIs F.entry_dict_keyiterator_next ?_ (F.args_dict_keyiterator_next_1 _))));refine Dm (Dn (Dm (Dm ?_)))
 first|refine Dm (wpAny_typeNameOfWhole_keyiter ki.typeIs (Dn ?_))|refine Dm (wpAny_typeNameOf_keyiter ki.typeIs (Dn ?_))
 refine Dm (wpAny_fieldsOf gi di ?_);simp only[own0,Jy,if_false];refine Eq.mpr (congrArg (λz=>Cc (Cg prog w) _ z _ _ s) (Ds nn)) ?_;refine Dm (Dn (Dm (wpAny_dictEntries gd dd ?_)));rw[Ds (by simp)];refine Dm (Dn (Dm (wpAny_dictEpoch gd dd ?_)));rw[Ds (by simp)];refine Dn ?_;simp only[ng,if_false,Gy,Array.getElem?_eq_none ge];refine Dm ?_
 first|refine Dm (wpAny_typeNameOfWhole_keyiter ki.typeIs (Dn ?_))|refine Dm (wpAny_typeNameOf_keyiter ki.typeIs (Dn ?_))
 refine Dm (m:=setField (.ref it) 0 .none) (wpAny_setField gi di (by simp) ?_);refine Dm (m:=newExc (.type "StopIteration") []) ?_;simp only[newExc,newTuple];refine Dm (C6 (Dm (m:=firstArgMember _ _) (wpAny_of_eq (a:=Value.none) (by first|rfl|(simp only[firstArgMember];rfl)) (C6 ?_ (by size_fits)))) (by size_fits));simp only[raiseNew];refine Dm (wpAny_handled ?_);rw[show A.in1.handled=none from calm];refine Dm (m:=_) (Dn (wpAny_throw ?_));refine Dm (m:=_) (wpAny_isInstance (T:="StopIteration") (b:=true) ⟨_,Dp _ rfl,rfl⟩ isSubtype_stop ?_);exact Dn (fin _ (((Ct ..).extBut.push _).push _))
end
def Zh6{d:Addr}{od:Obj}{tab:Array DictEntry}{Q:Value->Ca->Prop}(hd:(d==C9)=false)(gd:s.heap.get? d=some od)(ex:od.ExactDict)(dd:od.data=.dict tab ep)(fin:Q (.ref s.heap.objs.size) {s with heap:=s.heap.push {cls:=.type "dict_keyiterator",data:=.fields #[.ref d,.int 0 0,.int tab.size 0,.int ep 0]} }):Cc (Cg prog w) A (pyIter (.ref d)) Q E s:=by
 let ty:s.TypeIs (.ref d) "dict":=⟨od,gd,ex.1⟩;refine wpAny_pyIter_slot ty F.slot_dict_iter (Cu F.slot_dict_iter ty F.entry_dict_iter ?_ (F.args_dict_iter_1 _));unfold Builtin.«dict.__iter__»;refine Dm (m:=Builtin.Dict.dictSlotNone _ _) ?_;unfold Builtin.Dict.dictSlotNone;refine Dm (wpAny_notOrdered_dict ty (Dn (a:=Cb d) ?_));refine Dm (m:=Builtin.Dict.showsAll d) ?_;unfold Builtin.Dict.showsAll;rw[Ds (by rw[hd];exact Jt)];refine Dn (Dm (wpAny_dictEntries gd dd ?_));refine Dm (wpAny_dictEpoch gd dd ?_);refine Dm (C6 (Dn ⟨_,rfl,"dict_keyiterator",_,⟨_,Dp _ rfl,rfl⟩,F.slot_dict_keyiterator_next.lookup,?_⟩))
 simpa[Hk]using fin
def Zoz{d:Addr}{od:Obj}{tab:Array DictEntry}(lo:(d==C9)=false)(ex:od.ExactDict)(dd:od.data=.dict tab ep) :
  W.KdlSrc prog w "dict" d d tab.size (λi v=>∃h:i<tab.size,v=tab[i].key) (λh=>h.get? d=some od) where
 type:=λ_ ok=>⟨od,ok,ex.1⟩
 there:=λ_ ok=>⟨Dq ok,Dq ok⟩
 keep:=λ_ _ ok hk=>hk d (.inl rfl) od ok
 notList:=by decide
 notTuple:=by decide
 hint:=λ_ _ _ _ ok hq=>W.kdl_hint_dict ⟨od,ok,ex.1⟩ hq
 iter:=λA s hh ok=>⟨{cls:=.type "dict_keyiterator",data:=.fields #[.ref d,.int 0 0,.int tab.size 0,.int ep 0]},λi h=>h.IsKeyIter s.heap.objs.size d i tab.size ep/\h.get? d=some od,
  λ_ _ hq=>Zh6 lo ok ex dd hq,
  {
   sub:=λb hb=>by rw[Jf.mp hb];exact Ji
   frame:=λi h h' st k=>⟨by let⟨⟨o,e,r⟩,_⟩:=st;exact⟨o,k _ Ji o e,r⟩,k d (Jg _ Ji) od st.2⟩
   item:=λi s' Q E hi st hQ=>Zdy st.1 st.2 dd hi λh' ki sb=>by
    let:=hQ tab[i].key h' s'.toks ⟨hi,rfl⟩ ⟨ki,(sb.2 d (Gj (Dq ok))).trans st.2⟩ λb o hb e=>(sb.2 b (λz=>hb (by rw[z];exact Jf.mpr rfl))).trans e;exact this
   done:=λs' Q E st hQ=>Zhl hh st.1 st.2 dd (Jd _) λh' eb=>hQ h' s'.toks λb o hb e=>eb b o (λz=>hb (by rw[z];exact Jf.mpr rfl)) e
   self:=λi s' Q E st hq=>wpAny_pyIter_keyiter st.1 hq},
  ⟨⟨_,Dp _ rfl,rfl,rfl⟩,Do _ ok⟩⟩
end L2
variable{ks:List L2.NI}
namespace L2
open PySem PySem.W PyProof.Rows HT PySem.Calls
section
theorem Zgw:∀{L:List KIt}{us:List Value},Vals (L.map λq=>V.ref q.2.1) us->us=Zg L
 |[],_,h=>by cases h;rfl
 |q::L,_,h=>by
  cases h with
  |cons a b=>rw[Zgw b,show _=Cb q.2.1 from a];rfl
end
section
def Zbs{xs ys:List Value}{a b:Addr}{oa ob:Obj}{P:Jem->Ca->Prop}(ha:s.heap.get? a=some oa)(da:oa.data=.seq xs.toArray na)(hb:s.heap.get? b=some ob)(cb:ob.cls=.type "tuple")(db:ob.data=.seq ys.toArray nb)(ia:Eg xs ns)(ib:Eg ys ms)(h:P (.done (.ret (.bool (lexLt ns ms)))) s):Cc (Cg prog w) A (Builtin.«tuple.__lt__» ⟨[.ref a,.ref b],[]⟩) P E s:=by
 show Cc _ _ (Jdt (.ref b) (.type "tuple") >>= _) _ _ s;refine Dm (wpAny_isInstance ⟨ob,hb,cb⟩ isSubtype_tuple_tuple ?_);simp only[Bj,Jy,if_false];refine Dm (E7 ha da ?_);refine Dm (E7 hb db ?_);refine Dm ?_;simp only[Jcz];refine wpAny_forIn_list _
  (λrest r s'=>r.1=none/\s'=s/\∃ns' ms' xs' ys',rest=List.zip xs' ys'/\Eg xs' ns'/\Eg ys' ms'/\lexLt ns' ms'=lexLt ns ms/\decide (xs'.length<ys'.length)=decide (xs.length<ys.length))
  _ ?_ ?_ _ _ ⟨rfl,rfl,ns,ms,xs,ys,rfl,ia,ib,rfl,rfl⟩
 .rintro⟨u,v⟩ rest r s' ⟨hr,rfl,ns',ms',xs',ys',hz,hx',hy',hdec,hlen⟩;cases hx' with
  |nil=>simp at hz
  | @cons k1 t1 x'' xs'' hx'' =>
   cases hy' with
   |nil=>simp at hz
   | @cons k2 t2 y'' ys'' hy'' =>
    simp only[Fa,List.cons.injEq,Prod.mk.injEq]at hz;let⟨⟨rfl,rfl⟩,rfl⟩:=hz;refine Dm (Kw ?_)
    by_cases hk:k1=k2
    .subst hk;rw[beq_self_eq_true];simp only[Bj,Jy,if_false];refine Dn ⟨rfl,rfl,_,_,_,_,rfl,hx'',hy'',?_,by simpa using hlen⟩;rw[<-hdec,lexLt_cons,Dt rfl]
    .rw[show(k1==k2)=false from beq_eq_false_iff_ne.mpr hk];simp only[Bool.not_false,if_true];refine Dm (Eb ?_);refine Dm (show Cc _ _ (C8 .Lt (.int k1 t1) (.int k2 t2)) _ _ _ from wpAny_lt_int ?_);rw[<-hdec,lexLt_cons,Ds hk]at h;exact Dm (Dn (Dn (Dn h)))
 .rintro⟨r1,r2⟩ s' ⟨hr,rfl,ns',ms',xs',ys',hz,hx',hy',hdec,hlen⟩;simp only at hr;subst hr;refine Dn ?_;let hfin:Jdu Jfv.Lt xs.toArray.size ys.toArray.size=.bool (lexLt ns ms):=by
   show Hr (decide (xs.toArray.size<ys.toArray.size))=_;rw[Jl,Jl,<-hlen,<-hdec];cases hx' with
   |nil =>
    cases hy' with
    |nil=>rfl
    |cons _ _ _=>simp[HT.lexLt]
   |cons _ _ _ =>
    cases hy' with
    |nil=>simp[HT.lexLt]
    |cons _ _ _=>simp at hz
  rw[hfin];exact h
def Zqc{xs ys:List Value}{a b:Addr}{oa ob:Obj}{Q:Value->Ca->Prop}(hu:A.units<cLine)(ha:s.heap.get? a=some oa)(ca:oa.cls=.type "tuple")(da:oa.data=.seq xs.toArray na)(hb:s.heap.get? b=some ob)(cb:ob.cls=.type "tuple")(db:ob.data=.seq ys.toArray nb)(ia:Eg xs ns)(ib:Eg ys ms)(h:Q (.bool (lexLt ns ms)) s):Cc (Cg prog w) A (C8 .Lt (.ref a) (.ref b)) Q E s :=
 wpAny_richCompare_same_room (op:=.Lt) ⟨oa,ha,ca⟩ ⟨ob,hb,cb⟩ Jep (Cu Jep ⟨oa,ha,ca⟩ F.entry_tuple_lt (Zbs ha da hb cb db ia ib ⟨_,rfl,(λe=>nomatch e),h⟩) (F.args_tuple_lt_2 _ _)) hu
end
section
theorem Ws:∀{ns:List Int}{vs:List Value},Vals (ns.map V.int) vs->Eg vs ns
 |[],_,h=>by cases h;exact .nil
 |a::r,_,h=>by
  cases h with
  |cons h1 h2=>obtain⟨t,e⟩:=h1;subst e;exact .cons a t (Ws h2)
theorem items_int :∀{ns:List Int}{vs:List Value},Eg vs ns->ItemsAre (intKind prog w) ns vs.toArray.toList:=by
 intro _ _ hz9;cases hz9 with
 |nil=>
  exact .nil
 |cons n t h=>
  exact .cons (by show Jb9 n (K6 n t)=true;simp[Jb9]) (items_int h)
end
end L2
namespace L2
open PySem PySem.W PySem.Spec PyProof.Rows
section
def Zra(K:Ck):R2:=λx y H Q=>∃a b ys,x=.ref a/\y=.ref b/\SqT K H a []/\SqT K H b ys/\Q (.ref b) H
def Zoj:OpR X (Ew .Add) (Zra X.K):=by
 intro pq s σ H x y v u Q I rx ry h;let⟨a,b,ys,rfl,rfl,ha,hb,q⟩:=h;cases rx;cases ry;let⟨its,r1,p1,_⟩:=I.tuple ha;let⟨its2,r2,p2,_⟩:=I.tuple hb;cases r1;let⟨⟨cls,dd,data,sl⟩,ho,hc,n,hd⟩:=id p1;let⟨⟨cls2,dd2,data2,sl2⟩,ho2,hc2,n2,hd2⟩:=id p2;simp only at hc hd hc2 hd2;subst hc hd hc2 hd2;exact concat_meets ⟨_,ho,rfl⟩ ⟨_,ho2,rfl⟩ Mn seq_tuple_add Kg Kb (Hu _ _)
  (tuple_addW0 a b _ its2.toArray n n2 dd dd2 sl sl2 rfl) ⟨ho,ho2,⟨.ref b,H,I,rfl,q⟩⟩
end
end L2
namespace L2
open PySem PySem.W PyProof.Rows HT PySem.Calls
section
def Zq7(K:PySem.W.Frag):List V->Hp->VK->Prop:=λxs H Q=>∃(l:Addr)(ns:List Int),xs=[.ref l]/\SqL K H l (ns.map V.int)/\ns.length<64 /\
 ∀(D:Addr)(ns':List Int),H D=none->ns'.Perm ns->ns'.Pairwise (·<=·)->Q (.ref D) (upd H D (.lst (ns'.map V.int)))
theorem Zfe{K:PySem.W.Frag}(hK:X.K=K):Wz X (.builtin "sorted") (Zq7 K):=by
 intro pq s σ H xs us Q I r h;let⟨l,ns,rfl,hl,h64,q⟩:=h;let⟨u,rfl,rx⟩:=Qj r;cases rx;subst hK;let⟨its,rv,pl,_⟩:=I.list hl;let hI:=Ws rv;let el:=hI.length;refine sorted_ints pl.isList hI () λout ns' a1 a2 a3=>?_;let hsz:((s.heap.push (Cv "list" #[] 0)).update s.heap.objs.size (Ch (·++its.toArray))).objs.size=s.heap.objs.size+1:=by
  rw[Heap.size_update,Jb2]
 let hoL:(((s.heap.push (Cv "list" #[] 0)).update s.heap.objs.size (Ch (·++its.toArray))).push (Cv "list" its.toArray 0)).get? (s.heap.objs.size+1)=some (Cv "list" its.toArray 0):=by
  rw[<-hsz];exact Dp _ rfl
 let keep:∀b o,s.heap.get? b=some o->(((s.heap.push (Cv "list" #[] 0)).update s.heap.objs.size (Ch (·++its.toArray))).push (Cv "list" its.toArray 0)).get? b=some o:=λb o q=>by
  let hlt:b<s.heap.objs.size:=Dq q;rw[Hg _ _ _ (by rw[hsz];exact Gj (Bu hlt)),Heap.get?_update_ne _ _ _ _ (Gj hlt),Hg _ _ _ (Gj hlt)];exact q
 let⟨e,he⟩:=sortedHeap_at (vs:=its) (out:=out) hoL;exists .ref (s.heap.objs.size+1),_,I.laid (a:=s.heap.objs.size+1) (t':=s.toks) (λb o eb=>?_) (Fu _) (show Y6 X.prog X.w _ _ _ (.lst (ns'.map V.int))from⟨?_,out.toList,e,Nh a1,he⟩),rfl,q _ ns' (I.hok.fresh (Fu _)) a2 a3
 .let hb:s.heap.get? b=some o:=eb;let hlt:b<s.heap.objs.size:=Dq hb;show(sortedHeap _ _ _ _).get? b=_;rw[sortedHeap_old (Gj (Bu hlt)) (by rw[Jb2,hsz];exact Bu (Bu hlt))];exact keep b o hb
 .rw[Ja,a2.length_eq,Cj];lia
end
def LtAt(A:Kf)(s:Ca)(u v:Value)(b:Bool):Prop:=∀(prog:El)(w:Hd)(E:Value->Ca->Prop)(Q:Value->Ca->Prop),Q (.bool b) s->Cc (Cg prog w) A (C8 .Lt u v) Q E s
def lexN:(Nat->Bool×Bool)->Nat->Nat->Bool
 |_,0,n=>decide (0<n)
 |_,_+1,0=>false
 |z,m+1,n+1=>if(z 0).1 then lexN (λj=>z (j+1)) m n else(z 0).2
section
def LtAt.int(i j:Int)(t u:Tok):LtAt A s (.int i t) (.int j u) (decide (i<j)):=λprog w E Q h=>wpAny_lt_int h
end
end L2
namespace PySem.SeqAt
open AutoSeq1 (wpAny_loadPart')
open MeetsSeq MeetsSeq2 MeetsSeq3 SeqRoads2
theorem Zht(l b:Addr)(items items2:Array Value)(n n2:Nat)(dd dd2:Option Addr)(sl sl2:Array (Option Value))(k:Nat) :
  ∀(i:Nat)(z:Nat->Bool×Bool),items.size-i=k->i<=items.size->i<=items2.size->Meets (Builtin.«list.__eq__.loop» ⟨[.ref l,.ref b,Hk i,Hk 0],[]⟩)
   (λA R s=>s.heap.get? l=some {cls:=.type "list",dict:=dd,data:=.seq items n,slots:=sl}/\s.heap.get? b=some {cls:=.type "list",dict:=dd2,data:=.seq items2 n2,slots:=sl2} /\
    (∀j(h1:i+j<items.size)(h2:i+j<items2.size),EqAt A.in1 s items[i+j] items2[i+j] (z j).1/\L2.LtAt A.in1 s items[i+j] items2[i+j] (z j).2) /\
    R (.ok (.ret (.bool (L2.lexN z (items.size-i) (items2.size-i))))) s):=by
 induction k with
 |zero =>
  intro i z hk hi hi' prog w A R s h;let⟨hp,g,d,tk,os⟩:=s;let⟨hl,hb,he,h⟩:=h
  wp_walk using Cw hl,Cw hb
  let hi1:items[((i:Nat):Int).toNat]?=none:=by simp;lia
  rw[hi1]
  wp_walk using Cw hl,Cw hb
  show R (.ok (.ret (.bool (decide (items.size<items2.size))))) _;rw[show items.size-i=0 by lia,L2.lexN]at h;rw[show decide (items.size<items2.size)=decide (0<items2.size-i)from decide_eq_decide.mpr ()];exact h
 |succ k ih =>
  intro i z hk hi hi' prog w A R s h;let⟨hp,g,d,tk,os⟩:=s;let⟨hl,hb,he,h⟩:=h
  wp_walk using Cw hl,Cw hb
  let hlt:i<items.size:=by lia
  let hi1:items[((i:Nat):Int).toNat]?=some items[i]:=by simp[hlt]
  let hc:((i:Int)+1)=((i+1:Nat):Int):=by push_cast;rfl
  by_cases hlt2:i<items2.size
  .let hi2:items2[((i:Nat):Int).toNat]?=some items2[i]:=by simp[hlt2]
   rw[show items.size-i=(items.size-(i+1))+1 by lia,show items2.size-i=(items2.size-(i+1))+1 by lia,L2.lexN]at h;let⟨h1,h2⟩:=he 0 hlt hlt2;rw[hi1,hi2];refine Dm (h1 prog w _ _ ?_);cases hb':(z 0).1 with
   |true =>
    rw[hb',Dt rfl]at h
    wp_walk
    rw[hc];exact⟨plainId_quiet plain_eq_loop _,Lg entry_eq_loop (by
     rw[Hj plain_eq_loop _];exact ih (i+1) (λj=>z (j+1)) () () () prog w A R _ ⟨hl,hb,λj g1 g2=>by
      let:=he (j+1) () ();simpa only[Jd4 1 j,<-Fm,Nat.add_right_comm i 1 j]using this,h⟩)⟩
   |false =>
    rw[hb',Ds nofun]at h
    wp_walk using Cw hl,Cw hb
    rw[hi1,hi2];refine Dm (h2 prog w _ _ ?_)
    wp_walk
    exact h
  .let hi2:items2[((i:Nat):Int).toNat]?=none:=by simp;lia
   rw[hi1,hi2]
   wp_walk using Cw hl,Cw hb
   show R (.ok (.ret (.bool (decide (items.size<items2.size))))) _;rw[show items.size-i=(items.size-(i+1))+1 by lia,show items2.size-i=0 by lia,L2.lexN]at h;rw[Dv (show ¬ items.size<items2.size by lia)];exact h
theorem list_ltAt(l b:Addr)(items items2:Array Value)(n n2:Nat)(dd dd2:Option Addr)(sl sl2:Array (Option Value))(z:Nat->Bool×Bool) :
  Meets (Builtin.«list.__lt__» ⟨[.ref l,.ref b],[]⟩)
   (λA R s=>s.heap.get? l=some {cls:=.type "list",dict:=dd,data:=.seq items n,slots:=sl}/\s.heap.get? b=some {cls:=.type "list",dict:=dd2,data:=.seq items2 n2,slots:=sl2} /\
    (∀j(h1:j<items.size)(h2:j<items2.size),EqAt A.in1 s items[j] items2[j] (z j).1/\L2.LtAt A.in1 s items[j] items2[j] (z j).2) /\
    R (.ok (.ret (.bool (L2.lexN z items.size items2.size)))) s):=by
 intro prog w A R s h;let⟨hp,g,d,tk,os⟩:=s;let⟨hl,hb,he,h⟩:=h;let f3:=Mv
 wp_walk using Cw hl,Cw hb
 exact⟨plainId_quiet plain_eq_loop _,Lg entry_eq_loop (by
  rw[Hj plain_eq_loop _];refine Zht l b items items2 n n2 dd dd2 sl sl2 _ 0 z rfl (Gc _) (Gc _) prog w A R _ ⟨hl,hb,λj h1 h2=>?_,h⟩;let:=he j () ();simpa only[Fg]using this)⟩
end PySem.SeqAt
namespace L2
open PySem PySem.W PyProof.Rows HT PySem.Calls
section
theorem So{k:Nat}(hr:Room k A):A.units+200<cLine:=by have:=hr.un;lia
theorem Zam:∀(ns ms:List Int),lexN (λj=>(ns[j]? == ms[j]?,decide ((ns[j]?).getD 0<(ms[j]?).getD 0))) ns.length ms.length=HT.lexLt ns ms
 |[],[]=>rfl
 |[],_::_=>rfl
 |_::_,[]=>rfl
 |n::ns,m::ms=>by
  let ih:=Zam ns ms;rw[J0,J0,lexN,HT.lexLt_cons];simp only[List.getElem?_cons_zero,List.getElem?_cons_succ,Mo];rw[ih]
  by_cases e:n=m
  .rw[Dt e,Dt (by rw[e];exact beq_self_eq_true _)]
  .rw[Ds e,Ds (by simp[e])]
theorem ints_at(h:Eg us ns):us.length=ns.length/\∀(j:Nat)(hj:j<us.length),∃t,us[j]=.int ((ns[j]?).getD 0) t:=by
 induction h with
 |nil=>exact⟨rfl,λj hj=>absurd hj (G5 _)⟩
 |cons n t h ih =>
  exists by rw[J0,J0,ih.1],λj hj=>?_;cases j with
  |zero=>exact⟨t,rfl⟩
  |succ j=>exact ih.2 j (Nat.lt_of_succ_lt_succ hj)
theorem Zo2{vs:List Value}(h1:Eg us ns)(h2:Eg vs ms)(j:Nat)(g1:j<us.length)(g2:j<vs.length):Jft A s us[j] vs[j] (ns[j]? == ms[j]?)/\LtAt A s us[j] vs[j] (decide ((ns[j]?).getD 0<(ms[j]?).getD 0)):=by
 let⟨l1,a1⟩:=ints_at h1;let⟨l2,a2⟩:=ints_at h2;let⟨t,e1⟩:=a1 j g1;let⟨u,e2⟩:=a2 j g2;rw[e1,e2];exists ?_,.int _ _ _ _;let:=Jft.int_int (A:=A) (s:=s) ((ns[j]?).getD 0) t ((ms[j]?).getD 0) u;rw[Jb (),Jb ()]at this⊢;exact this
end
section
theorem Zhx{L:List KIt}(I:Inv X pq σ H s)(hk:∀q∈L,SqL X.K H q.2.1 (q.2.2.map V.int))(h2:0<L.length){Q:SortKind->Ca->Prop}(h:Q oneType' s) :
  Cc (Cg X.prog X.w) A (keyKind' (Zg L).toArray) Q E s:=by
 let ty:∀v∈Zg L,Looks (Cg X.prog X.w) s.heap (typeOf v) (.type "list"):=λv hv=>by
  let⟨q,hq,rfl⟩:=Jq.mp hv;let⟨its,rv,pl,_⟩:=I.list (hk q hq);let⟨o,ho,hc,n,hd⟩:=pl.isList;let:=(show Looks (Cg X.prog X.w) s.heap (typeOf (.ref q.2.1)) o.cls from(Looks.ld ho).andThen .now);rwa [hc]at this
 let firsts:∀(vs:List Value),(∀v∈vs,Looks (Cg X.prog X.w) s.heap (typeOf v) (.type "list"))->∀{Q:List (Option Value)->Ca->Prop},Q (vs.map λ_=>none) s->Cc (Cg X.prog X.w) A (vs.mapM firstOfTuple') Q E s:=by
  intro vs
  induction vs with
  |nil=>intro _ Q h;rw[List.mapM_nil];exact Dn h
  |cons v vs ih =>
   intro hv Q h;rw[List.mapM_cons];refine Dm ?_;rw[kas_first_eq];refine Dm (Looks.here (hv v Ji) ?_);rw[Dt nofun];refine Dn ?_;exact Dm (ih (λx hx=>hv x (Jg _ hx)) (Q:=λbs s'=>Cc (Cg X.prog X.w) A (pure (none::bs)) Q E s') (Dn h))
 let hl:(Zg L).length=L.length:=by simp[Zg]
 generalize Zg L=vs at ty hl
 match vs,ty,hl with
 |[],_,hl=>simp at hl;lia
 |v::vs,ty,_ =>
  rw[kat_kind_eq,List.mapM_toArray,map_eq_pure_bind];refine Dm (Dm (firsts _ ty (Dn ?_)));rw[Ds (by simp),Ds (by simp)];rw[oneTypeOnly'_eq,List.mapM_toArray,map_eq_pure_bind];refine Dm (Dm (Dm (kas_mapM (r:=.type "list") _ (λv hv Q' hq=>(ty v hv).here hq) (Dn ?_))));let hall2:((List.map (λ_=>Lx "list") (v::vs)).toArray.all λx=>x==Lx "list")=true:=by
   simp only[List.all_toArray,List.all_map,List.all_eq_true];intro _ _;rfl
  let h0:(List.map (λ_=>Lx "list") (v::vs)).toArray[0]?=some (Lx "list"):=by simp
  rw[h0];simp only[hall2,if_true];exact Dn (Dn h)
theorem Zor{a b:Addr}{Q:Bool->Ca->Prop}(I:Inv X pq σ H s)(hu:A.units+120<cLine)(h1:SqL X.K H a (ns.map V.int))(h2:SqL X.K H b (ms.map V.int))(h:Q (HT.lexLt ns ms) s):Cc (Cg X.prog X.w) A (oneLt' true (.ref a) (.ref b)) Q E s:=by
 let⟨its,rv,pl,_⟩:=I.list h1;let⟨its2,rv2,pl2,_⟩:=I.list h2;let i1:=Ws rv;let i2:=Ws rv2;rw[oneLt'_eq];simp only[if_true];refine Dm (wpAny_cRoomFor () ?_);let⟨⟨cls,dd,data,sl⟩,ho,hc,n,hd⟩:=id pl.isList;let⟨⟨cls2,dd2,data2,sl2⟩,ho2,hc2,n2,hd2⟩:=id pl2.isList;simp only at hc hd hc2 hd2;subst hc hd hc2 hd2;refine Dm (wpAny_callSpecialIfBound?_slot ⟨_,ho,rfl⟩ F.slot_list_lt (Hv F.slot_list_lt ⟨_,ho,rfl⟩ F.entry_list_lt (F.args_list_lt_2 _ _) (SeqAt.list_ltAt a b its.toArray its2.toArray n n2 dd dd2 sl sl2 (λj=>(ns[j]? == ms[j]?,decide ((ns[j]?).getD 0<(ms[j]?).getD 0)))) ⟨ho,ho2,λj g1 g2=>?_,?_⟩))
 .simp only[List.getElem_toArray];exact Zo2 i1 i2 j (by simpa using g1) (by simpa using g2)
 .rw[Jl,Jl,(ints_at i1).1,(ints_at i2).1,Zam];exact Ee h
end
end L2
namespace L2
open PySem PySem.SetTable PyProof.Rows PySem.W
section
theorem Rp{α:Type}{f:β->α}{l m:List α}(p:l.Perm m):∀{qs:List β},m=qs.map f->∃qs':List β,qs'.Perm qs/\l=qs'.map f:=by
 induction p with
 |nil=>exact λ{qs}e=>⟨qs,.refl _,e⟩
 |cons x _ ih =>
  intro qs e;cases qs with
  |nil=>cases e
  |cons b r =>
   rw[Jp]at e;injection e with e1 e2
   let⟨r',p1,p2⟩:=ih e2;exact⟨b::r',p1.cons _,by rw[Jp,e1,p2]⟩
 |swap x y t =>
  intro qs e
  match qs,e with
  |[],e=>cases e
  |[b],e=>cases e
  |b::c::r,e =>
   rw[Jp,Jp]at e;injection e with e1 e2
   injection e2 with e2 e3
   exact⟨c::b::r,.swap _ _ _,by rw[Jp,Jp,e1,e2,e3]⟩
 |trans _ _ ih1 ih2 =>
  intro qs e;let⟨q2,p2,e2⟩:=ih2 e;let⟨q1,p1,e1⟩:=ih1 e2;exists q1,p1.trans p2,e1
end
end L2
namespace L2
open PySem PyProof.Rows
def Wh:Bool->Keyed->Array Keyed->Nat->Nat->Nat->StateT SortSt Sem (Option Nat):=sortPriv% PySem.Builtin.gallop
def Vc(left:Bool)(key:Keyed)(arr:Array Keyed)(base i:Nat):StateT SortSt Sem (Option Bool):=do
 let x <-elem' arr (base+i)
 if left then lt' x key else return(<-lt' key x).map (!·)
def Ze7(left:Bool)(key:Keyed)(arr:Array Keyed)(base n hint:Nat):Wh left key arr base n hint=(do
 let mut lastofs:=0
 let mut ofs:=1
 let mut lo:=0
 let mut hi:=0
 let some right <-Vc left key arr base hint|return none
 if right then
  let maxofs:=n-hint
  for _ in [0:n] do
   if ofs≥maxofs then break
   let some more <-Vc left key arr base (hint+ofs)|return none
   if !more then break
   lastofs:=ofs
   ofs:=2*ofs+1
  lo:=hint+lastofs+1
  hi:=hint+min ofs maxofs
 else
  let maxofs:=hint+1
  for _ in [0:n] do
   if ofs≥maxofs then break
   let some found <-Vc left key arr base (hint-ofs)|return none
   if found then break
   lastofs:=ofs
   ofs:=2*ofs+1
  lo:=hint+1-min ofs maxofs
  hi:=hint-lastofs
 for _ in [0:n] do
  if lo≥hi then break
  let m:=lo+(hi-lo) / 2
  let some more <-Vc left key arr base m|return none
  if more then lo:=m+1 else hi:=m
 return some hi):=rfl
section
variable{M:Jet}{κ:SortKind}{S:Keyed->Prop}{R:Keyed->Int}
def LtS(M:Jet)(A:Kf)(E:Value->Ca->Prop)(s:Ca)(κ:SortKind)(S:Keyed->Prop)(R:Keyed->Int):Prop:=∀(x y:Keyed)(st:SortSt)(Q:Option Bool->SortSt->Prop),S x->S y->kindOf st=κ->Q (some (decide (R x<R y))) st->wpS M A E s (lt' x y) Q st
def Ya{arr:Array Keyed}{i:Nat}{p:Keyed}{Q:Keyed->SortSt->Prop}{st:SortSt}(h:arr[i]?=some p)(hq:Q p st):wpS M A E s (elem' arr i) Q st:=by
 rw[elem'_eq,h];exact wpS_pure hq
theorem Zel(HL:LtS M A E s κ S R){key:Keyed}{arr:Array Keyed}{i:Nat}{st:SortSt}{Q:Option Bool->SortSt->Prop}{x:Keyed}(hk:S key)(hst:kindOf st=κ)(hx:arr[base+i]?=some x)(sx:S x)(ne:R x≠R key)(h:Q (some (decide (R x<R key))) st):wpS M A E s (Vc left key arr base i) Q st:=by
 unfold Vc;refine wpS_bind (Ya hx ?_);cases left with
 |true=>exact HL _ _ _ _ sx hk hst h
 |false =>
  refine wpS_bind (HL _ _ _ _ hk sx hst (wpS_pure ?_));show Q (some (!decide (R key<R x))) st;rw[show(!decide (R key<R x))=decide (R x<R key)from ?_]
  .exact h
  .by_cases z:R x<R key
   .rw[Du z,Dv ()];rfl
   .rw[Dv z,Du ()];rfl
theorem Zeg{key:Keyed}{arr:Array Keyed}{n:Nat}{st:SortSt}{Q:Option Nat->SortSt->Prop}{B:Nat->Bool}(mono:∀i j,i<=j->j<n->B j=true->B i=true)(ask:∀{i:Nat}{Q:Option Bool->SortSt->Prop},i<n->Q (some (B i)) st->wpS M A E s (Vc left key arr base i) Q st)(fin:∀k,k<=n->(∀i,i<k->B i=true)->(∀i,k<=i->i<n->B i=false)->Q (some k) st){lo hi:Nat}(h1:lo<=hi)(h2:hi<=n)(h3:∀i,i<lo->B i=true)(h4:∀i,hi<=i->i<n->B i=false):wpS M A E s (do
   let mut lo:=lo
   let mut hi:=hi
   for _ in [0:n] do
    if lo≥hi then break
    let m:=lo+(hi-lo) / 2
    let some more <-Vc left key arr base m|return none
    if more then lo:=m+1 else hi:=m
   return some hi) Q st:=by
 refine wpS_bind (wpS_mono (wpS_forRange (I:=λx c st'=>st'=st/\∃l r,c=(none,l,r)/\l<=r/\r<=n/\r-l<=n-x/\(∀i,i<l->B i=true)/\∀i,r<=i->i<n->B i=false) (Q:=λc st'=>st'=st/\∃r,c=(none,r,r)/\r<=n/\(∀i,i<r->B i=true)/\∀i,r<=i->i<n->B i=false) ?step ?fin ?init) ?post)
 case init=>exact⟨rfl,lo,hi,rfl,h1,h2,(),h3,h4⟩
 case fin =>
  rintro c st' ⟨rfl,l,r,rfl,a1,a2,a3,a4,a5⟩;let:l=r:=by lia
  subst this;exists rfl,l,rfl,a2,a4,a5
 case step =>
  rintro x c st' _ hx ⟨rfl,l,r,rfl,a1,a2,a3,a4,a5⟩;dsimp only
  by_cases hge:l≥r
  .rw[Dt hge];let:l=r:=by lia
   subst this;exact wpS_pure ⟨rfl,l,rfl,a2,a4,a5⟩
  .rw[Ds hge];refine wpS_bind (ask () ?_);cases hb:B (l+(r-l) / 2)with
   |true =>
    simp only[if_true];exact wpS_pure ⟨rfl,_,_,rfl,(),a2,(),λi hi=>mono i _ () () hb,a5⟩
   |false =>
    simp only[Jy,if_false];refine wpS_pure ⟨rfl,_,_,rfl,(),(),(),a4,λi hi hi2=>?_⟩;cases hq:B i with
    |false=>rfl
    |true=>rw[mono _ i hi hi2 hq]at hb;cases hb
 case post =>
  rintro c st' ⟨rfl,r,rfl,a2,a4,a5⟩;exact wpS_pure (fin r a2 a4 a5)
theorem Tz(HL:LtS M A E s κ S R){key:Keyed}{arr:Array Keyed}{n:Nat}{st:SortSt}{Q:Option Nat->SortSt->Prop}(hk:S key)(hst:kindOf st=κ)(hn:hint<n)(he:∀i,i<n->∃x,arr[base+i]?=some x/\S x/\R x≠R key)(hs:∀i j x y,i<j->j<n->arr[base+i]?=some x->arr[base+j]?=some y->R x<R y)(h:∀k,k<=n->(∀i x,i<k->arr[base+i]?=some x->R x<R key)->(∀i x,k<=i->i<n->arr[base+i]?=some x->R key<R x)->Q (some k) st):wpS M A E s (Wh left key arr base n hint) Q st:=by
 let' B:Nat->Bool:=λi=>match arr[base+i]? with|some x=>decide (R x<R key)|none=>false
 let mono:∀i j,i<=j->j<n->B j=true->B i=true:=λi j hij hj hb=>by
  rcases Fh i j with z|z
  .let⟨x,ex,_,_⟩:=he i ();let⟨y,ey,_,_⟩:=he j hj;let:=hs i j x y z hj ex ey;simp only[B,ey,ex,decide_eq_true_eq]at hb⊢;lia
  .let:i=j:=by lia
   rw[this];exact hb
 let ask:∀{i:Nat}{Q:Option Bool->SortSt->Prop},i<n->Q (some (B i)) st->wpS M A E s (Vc left key arr base i) Q st:=λ{i Q}hi hq=>by
  let⟨x,ex,sx,nx⟩:=he i hi;refine Zel HL hk hst ex sx nx ?_;simpa only[B,ex]using hq
 let fin:∀k,k<=n->(∀i,i<k->B i=true)->(∀i,k<=i->i<n->B i=false)->Q (some k) st:=λk hkn h1 h2=>h k hkn (λi x hi ex=>by
  let:=h1 i hi;simpa only[B,ex,decide_eq_true_eq]using this) λi x hi hi2 ex=>by
  let:=h2 i hi hi2;let⟨y,ey,_,ny⟩:=he i hi2;rw[ex]at ey;cases ey;simp only[B,ex,decide_eq_false_iff_not]at this;lia
 clear_value B;rw[Ze7];refine wpS_bind (ask hn ?_);dsimp only;cases hB:B hint with
 |true =>
  simp only[if_true];refine wpS_bind (wpS_mono (wpS_forRange (I:=λx c st'=>st'=st/\∃l o,c=(none,l,o)/\l<o/\x+1<=o/\hint+l<n/\B (hint+l)=true) (Q:=λc st'=>st'=st/\∃l o,c=(none,l,o)/\l<o/\hint+l<n/\B (hint+l)=true/\(n-hint<=o\/(hint+o<n/\B (hint+o)=false))) ?step ?fin ?init) ?post)
  case init=>exact⟨rfl,0,1,rfl,nofun,nofun,hn,hB⟩
  case fin =>
   rintro c st' ⟨rfl,l,o,rfl,a1,a2,a3,a4⟩;exists rfl,l,o,rfl,a1,a3,a4,.inl ()
  case step =>
   rintro x c st' _ hx ⟨rfl,l,o,rfl,a1,a2,a3,a4⟩;dsimp only
   by_cases hge:o≥n-hint
   .rw[Dt hge];exact wpS_pure ⟨rfl,l,o,rfl,a1,a3,a4,.inl hge⟩
   .rw[Ds hge];refine wpS_bind (ask () ?_);cases hb:B (hint+o)with
    |true =>
     simp only[Bj,Jy,if_false];exact wpS_pure ⟨rfl,_,_,rfl,(),(),(),hb⟩
    |false =>
     simp only[Bool.not_false,if_true];exact wpS_pure ⟨rfl,l,o,rfl,a1,a3,a4,.inr ⟨(),hb⟩⟩
  case post =>
   rintro c st' ⟨rfl,l,o,rfl,a1,a3,a4,a5⟩;refine Zeg mono ask fin ?_ ?_ (λi hi=>mono i (hint+l) (by have hi:i<hint+l+1:=hi;lia) a3 a4) λi hi hi2=>?_
   .show hint+l+1<=hint+min o (n-hint);lia
   .show hint+min o (n-hint)<=n;lia
   .let hi:hint+min o (n-hint)<=i:=hi;rcases a5 with z|⟨z1,z2⟩
    .lia
    .cases hq:B i with
     |false=>rfl
     |true=>rw[mono (hint+o) i () hi2 hq]at z2;cases z2
 |false =>
  simp only[Jy,if_false];refine wpS_bind (wpS_mono (wpS_forRange (I:=λx c st'=>st'=st/\∃l o,c=(none,l,o)/\l<o/\x+1<=o/\l<=hint/\B (hint-l)=false) (Q:=λc st'=>st'=st/\∃l o,c=(none,l,o)/\l<o/\l<=hint/\B (hint-l)=false/\(hint+1<=o\/(o<=hint/\B (hint-o)=true))) ?step2 ?fin2 ?init2) ?post2)
  case init2=>exact⟨rfl,0,1,rfl,nofun,nofun,Gc _,hB⟩
  case fin2 =>
   rintro c st' ⟨rfl,l,o,rfl,a1,a2,a3,a4⟩;exists rfl,l,o,rfl,a1,a3,a4,.inl ()
  case step2 =>
   rintro x c st' _ hx ⟨rfl,l,o,rfl,a1,a2,a3,a4⟩;dsimp only
   by_cases hge:o≥hint+1
   .rw[Dt hge];exact wpS_pure ⟨rfl,l,o,rfl,a1,a3,a4,.inl hge⟩
   .rw[Ds hge];refine wpS_bind (ask () ?_);cases hb:B (hint-o)with
    |true =>
     simp only[if_true];exact wpS_pure ⟨rfl,l,o,rfl,a1,a3,a4,.inr ⟨(),hb⟩⟩
    |false =>
     simp only[Jy,if_false];exact wpS_pure ⟨rfl,_,_,rfl,(),(),(),hb⟩
  case post2 =>
   rintro c st' ⟨rfl,l,o,rfl,a1,a3,a4,a5⟩;refine Zeg mono ask fin ?_ ?_ (λi hi=>?_) λi hi hi2=>?_
   .show hint+1-min o (hint+1)<=hint-l;lia
   .show hint-l<=n;lia
   .let hi:i<hint+1-min o (hint+1):=hi;rcases a5 with z|⟨z1,z2⟩
    .lia
    .exact mono i (hint-o) () () z2
   .let hi:hint-l<=i:=hi;cases hq:B i with
    |false=>rfl
    |true=>rw[mono (hint-l) i hi hi2 hq]at a4;cases a4
end
def Xo:Nat->StateT SortSt Sem Unit:=sortPriv% PySem.Builtin.setMinGallop
abbrev Tf(st:SortSt)(g:Nat):SortSt:=SortSt.mk' (kindOf st) (arrOf st) (pendingOf st) g (failedOf st)
def Xc(g:Nat):Xo g=modify λst=>Tf st g:=rfl
def P5:Array Keyed->Array Keyed->StateT SortSt Sem (Array Keyed):=sortPriv% PySem.Builtin.mergeLo
abbrev LoSt:=Option (Array Keyed)×Array Keyed×Nat×Nat×Nat×Nat×Nat
abbrev Vh(a b out:Array Keyed)(ia ib:Nat):Array Keyed:=out++a.extract ia a.size++b.extract ib b.size
abbrev Q2(a b out:Array Keyed)(ia ib:Nat):Array Keyed:=out++b.extract ib b.size++a.extract ia a.size
def lo4(a b:Array Keyed)(mg ac bc:Nat)(out:Array Keyed)(ia ib:Nat):StateT SortSt Sem (ForInStep LoSt):=do
 let y <-elem' a ia
 if ia+1+1==a.size then pure (.done (some (Q2 a b (out.push y) (ia+1) ib),out.push y,ia+1,ib,mg,ac,bc))
 else if decide (ac<7)&&decide (bc<7)then pure (.done (none,out.push y,ia+1,ib,mg,ac,bc))else pure (.yield (none,out.push y,ia+1,ib,mg,ac,bc))
def lo3(a b:Array Keyed)(mg ac bc0:Nat)(out:Array Keyed)(ia ib:Nat):StateT SortSt Sem (ForInStep LoSt):=do
 let y <-elem' a ia
 let x <-Wh true y b ib (b.size-ib) 0
 match x with
 |some k =>
  if k > 0 then
   if ib+k==b.size then pure (.done (some (Vh a b (out++b.extract ib (ib+k)) ia (ib+k)),out++b.extract ib (ib+k),ia,ib+k,mg,ac,k))
   else lo4 a b mg ac k (out++b.extract ib (ib+k)) ia (ib+k)
  else lo4 a b mg ac k out ia ib
 |_=>pure (.done (some (Vh a b out ia ib),out,ia,ib,mg,ac,bc0))
def lo2(a b:Array Keyed)(mg ac bc0:Nat)(out:Array Keyed)(ia ib:Nat):StateT SortSt Sem (ForInStep LoSt):=do
 let y <-elem' b ib
 if ib+1==b.size then pure (.done (some (Vh a b (out.push y) ia (ib+1)),out.push y,ia,ib+1,mg,ac,bc0))
 else lo3 a b mg ac bc0 (out.push y) ia (ib+1)
def lo1(a b:Array Keyed)(mg ac0 bc0:Nat)(out:Array Keyed)(ia ib:Nat):StateT SortSt Sem (ForInStep LoSt):=do
 Xo mg
 let y <-elem' b ib
 let x <-Wh false y a ia (a.size-ia) 0
 match x with
 |some k =>
  if k > 0 then
   if ia+k+1==a.size then pure (.done (some (Q2 a b (out++a.extract ia (ia+k)) (ia+k) ib),out++a.extract ia (ia+k),ia+k,ib,mg,k,bc0))
   else if ia+k==a.size then pure (.done (some (Vh a b (out++a.extract ia (ia+k)) (ia+k) ib),out++a.extract ia (ia+k),ia+k,ib,mg,k,bc0))
   else lo2 a b mg k bc0 (out++a.extract ia (ia+k)) (ia+k) ib
  else lo2 a b mg k bc0 out ia ib
 |_=>pure (.done (some (Vh a b out ia ib),out,ia,ib,mg,ac0,bc0))
def loF(a b:Array Keyed):Nat->LoSt->StateT SortSt Sem (ForInStep LoSt):=λ_ c=>if c.2.2.2.2.1 > 1 then lo1 a b (c.2.2.2.2.1-1) c.2.2.2.2.2.1 c.2.2.2.2.2.2 c.2.1 c.2.2.1 c.2.2.2.1 else lo1 a b c.2.2.2.2.1 c.2.2.2.2.2.1 c.2.2.2.2.2.2 c.2.1 c.2.2.1 c.2.2.2.1
abbrev LoS1:=Option (Array Keyed)×Array Keyed×Nat×Nat×Nat×Nat
def loG(a b:Array Keyed)(mg:Nat):Nat->LoS1->StateT SortSt Sem (ForInStep LoS1):=λ_ c=>do
 let x <-elem' b c.2.2.2.1
 let y <-elem' a c.2.2.1
 let z <-lt' x y
 match z with
 |some bWins =>
  if bWins=true then do
   let x <-elem' b c.2.2.2.1
   if c.2.2.2.1+1==b.size then pure (.done (some (Vh a b (c.2.1.push x) c.2.2.1 (c.2.2.2.1+1)),c.2.1.push x,c.2.2.1,c.2.2.2.1+1,0,c.2.2.2.2.2+1))
   else if c.2.2.2.2.2+1≥mg then pure (.done (none,c.2.1.push x,c.2.2.1,c.2.2.2.1+1,0,c.2.2.2.2.2+1))else pure (.yield (none,c.2.1.push x,c.2.2.1,c.2.2.2.1+1,0,c.2.2.2.2.2+1))
  else do
   let y <-elem' a c.2.2.1
   if c.2.2.1+1+1==a.size then pure (.done (some (Q2 a b (c.2.1.push y) (c.2.2.1+1) c.2.2.2.1),c.2.1.push y,c.2.2.1+1,c.2.2.2.1,c.2.2.2.2.1+1,0))
   else if c.2.2.2.2.1+1≥mg then pure (.done (none,c.2.1.push y,c.2.2.1+1,c.2.2.2.1,c.2.2.2.2.1+1,0))else pure (.yield (none,c.2.1.push y,c.2.2.1+1,c.2.2.2.1,c.2.2.2.2.1+1,0))
 |_=>pure (.done (some (Vh a b c.2.1 c.2.2.1 c.2.2.2.1),c.2.1,c.2.2.1,c.2.2.2.1,c.2.2.2.2.1,c.2.2.2.2.2))
abbrev LoS0:=Option (Array Keyed)×Array Keyed×Nat×Nat×Nat
def loH(a b:Array Keyed):Nat->LoS0->StateT SortSt Sem (ForInStep LoS0):=λ_ c=>do
 let d <-forIn [0:a.size+b.size] ((none,c.2.1,c.2.2.1,c.2.2.2.1,0,0):LoS1) (loG a b c.2.2.2.2)
 match d.1 with
 |some r=>pure (.done (some r,d.2.1,d.2.2.1,d.2.2.2.1,c.2.2.2.2))
 |none=>do
  liftM (rule "list.sort.gallop")
  let e <-forIn [0:a.size+b.size] ((none,d.2.1,d.2.2.1,d.2.2.2.1,c.2.2.2.2+1,d.2.2.2.2.1,d.2.2.2.2.2):LoSt) (loF a b)
  match e.1 with
  |some r=>pure (.done (some r,e.2.1,e.2.2.1,e.2.2.2.1,e.2.2.2.2.1))
  |none=>do
   Xo (e.2.2.2.2.1+1)
   pure (.yield (none,e.2.1,e.2.2.1,e.2.2.2.1,e.2.2.2.2.1+1))
def Zah(a b:Array Keyed):P5 a b=(do
 liftM (rule "list.sort.merge-lo")
 let x <-elem' b 0
 if 1==b.size then pure (Vh a b #[x] 0 1)
 else if 0+1==a.size then pure (Q2 a b #[x] 0 1)
 else do
  let st <-get
  let c <-forIn [0:a.size+b.size] ((none,#[x],0,1,gallopOf st):LoS0) (loH a b)
  match c.1 with
  |some r=>pure r
  |none=>liftM (unsupported "internal:list.sort.merge-bound")):=by
 kernel_rfl
section
variable{R:Keyed->Int}{la lb:List Keyed}
abbrev Up(R:Keyed->Int)(l:List Keyed):Prop:=l.Pairwise λx y=>R x<R y
structure MI(R:Keyed->Int)(la lb:List Keyed)(ia ib:Nat)(out:List Keyed):Prop where
 al:ia<=la.length
 bl:ib<=lb.length
 pm:out.Perm (la.take ia++lb.take ib)
 pa:Up R (out++la.drop ia)
 pb:Up R (out++lb.drop ib)
def MRes(R:Keyed->Int)(la lb r:List Keyed):Prop:=r.Perm (la++lb)/\Up R r
def Yy{l m:List Keyed}:Up R (l++m)↔Up R l/\Up R m/\∀x∈l,∀y∈m,R x<R y:=F7
def MI.a{k:Nat}{out:List Keyed}(h:MI R la lb ia ib out)(hk:ia+k<=la.length)(hx:∀x∈(la.drop ia).take k,∀y∈lb.drop ib,R x<R y):MI R la lb (ia+k) ib (out++(la.drop ia).take k):=by
 let e:(la.drop ia).take k++la.drop (ia+k)=la.drop ia:=by rw[<-Fs,Jx]
 let⟨p1,p2,p3⟩:=Yy.mp h.pa;let⟨q1,q2,q3⟩:=Yy.mp h.pb;exists hk,h.bl,?_,by rw[Jn,e];exact h.pa,?_
 .rw[List.take_add];refine(h.pm.append_right _).trans ?_;rw[Jn,Jn];exact List.Perm.append_left _ G4
 .refine Yy.mpr ⟨Yy.mpr ⟨p1,p2.sublist (Bt _ _),λx hx y hy=>p3 x hx y (Gs hy)⟩,q2,λx hx' y hy=>?_⟩;rcases Jw.mp hx' with z|z
  .exact q3 x z y hy
  .exact hx x z y hy
def MI.b{k:Nat}{out:List Keyed}(h:MI R la lb ia ib out)(hk:ib+k<=lb.length)(hx:∀y∈(lb.drop ib).take k,∀x∈la.drop ia,R y<R x):MI R la lb ia (ib+k) (out++(lb.drop ib).take k):=by
 let e:(lb.drop ib).take k++lb.drop (ib+k)=lb.drop ib:=by rw[<-Fs,Jx]
 let⟨p1,p2,p3⟩:=Yy.mp h.pa;let⟨q1,q2,q3⟩:=Yy.mp h.pb;refine⟨h.al,hk,?_,?_,by rw[Jn,e];exact h.pb⟩
 .rw[List.take_add];refine(h.pm.append_right _).trans ?_;rw[Jn]
 .refine Yy.mpr ⟨Yy.mpr ⟨p1,q2.sublist (Bt _ _),λx hx y hy=>q3 x hx y (Gs hy)⟩,p2,λx hx' y hy=>?_⟩;rcases Jw.mp hx' with z|z
  .exact p3 x z y hy
  .exact hx x z y hy
def MI.doneB{out:List Keyed}(h:MI R la lb ia ib out)(e:ib=lb.length):MRes R la lb (out++la.drop ia++lb.drop ib):=by
 subst e;rw[List.drop_length,Gm];exists(h.pm.append_right _).trans ?_,h.pa;rw[Gd,Jn];refine(List.Perm.append_left _ G4).trans ?_;rw[<-Jn,Jx]
def MI.doneA{out:List Keyed}(h:MI R la lb ia ib out)(e:ia=la.length):MRes R la lb (out++la.drop ia++lb.drop ib):=by
 subst e;rw[List.drop_length,Gm];exists(h.pm.append_right _).trans ?_,h.pb;rw[Gd,Jn,Jx]
def MI.last{out:List Keyed}(h:MI R la lb ia ib out)(hl:∀x∈la.drop ia,∀y∈lb.drop ib,R y<R x):MRes R la lb (out++lb.drop ib++la.drop ia):=by
 let⟨p1,p2,p3⟩:=Yy.mp h.pa;exists ?_,Yy.mpr ⟨h.pb,p2,λx hx y hy=>?_⟩
 .refine((h.pm.append_right _).append_right _).trans ?_;rw[Jn (la.take ia),Jx,Jn];refine(List.Perm.append_left _ G4).trans ?_;rw[<-Jn,Jx]
 .rcases Jw.mp hx with z|z
  .exact p3 x z y hy
  .exact hl y hy x z
def To{l:List Keyed}{i:Nat}{x:Keyed}(h:l[i]?=some x):(l.drop i).take 1=[x]:=by
 let⟨hi,e⟩:=Je.mp h;rw[G6 hi,e];rfl
def Rc{l:List Keyed}{i:Nat}{x:Keyed}(u:Up R l)(h:l[i]?=some x):∀y∈l.drop i,R x<=R y:=λy hy=>by
 let⟨hi,e⟩:=Je.mp h;let u2:=u.sublist (Fi i l);rw[G6 hi]at u2 hy;rcases Gi.mp hy with z|z
 .rw[z,e];exact Dh _
 .rw[e]at u2;exact Ja4 ((Fw.mp u2).1 y z)
end
section
variable{S:Keyed->Prop}{R:Keyed->Int}{a b:Array Keyed}
def Keep(st st':SortSt):Prop:=kindOf st'=kindOf st/\arrOf st'=arrOf st/\pendingOf st'=pendingOf st/\failedOf st'=failedOf st
def Keep.refl(st:SortSt):Keep st st:=⟨rfl,rfl,rfl,rfl⟩
def Keep.trans{x y z:SortSt}(h:Keep x y)(k:Keep y z):Keep x z:=⟨k.1.trans h.1,k.2.1.trans h.2.1,k.2.2.1.trans h.2.2.1,k.2.2.2.trans h.2.2.2⟩
def Keep.gal(st:SortSt)(g:Nat):Keep st (Tf st g):=⟨rfl,rfl,rfl,rfl⟩
structure Lo(S:Keyed->Prop)(R:Keyed->Int)(a b:Array Keyed):Prop where
 sa:∀x∈a.toList,S x
 sb:∀x∈b.toList,S x
 ua:Up R a.toList
 ub:Up R b.toList
 dj:∀x∈a.toList,∀y∈b.toList,R x≠R y
 ends:∀x,a.toList[a.size-1]?=some x->∀y∈b.toList,R y<R x
def Qt(R:Keyed->Int)(a b:Array Keyed)(base:Nat)(r:Option (Array Keyed))(out:Array Keyed)(ia ib:Nat):Prop:=(∃z,r=some z/\MRes R a.toList b.toList z.toList)\/(r=none/\MI R a.toList b.toList ia ib out.toList/\ia+1<a.size/\ib<b.size/\base<=ia+ib)
def Pa(xs:Array Keyed)(i:Nat):(xs.extract i xs.size).toList=xs.toList.drop i:=by
 rw[Fj];show((xs.toList.drop i).take (xs.size-i))=_;exact Gr (by rw[Ga,Jj];exact Jd _)
def Zsg(xs:Array Keyed)(i k:Nat):(xs.extract i (i+k)).toList=(xs.toList.drop i).take k:=by
 rw[Fj];show((xs.toList.drop i).take (i+k-i))=_;rw[B3]
theorem P8{out:Array Keyed}(L:Lo S R a b)(h:MI R a.toList b.toList ia ib out.toList)(e:ia+1=a.size):MRes R a.toList b.toList (Q2 a b out ia ib).toList:=by
 unfold Q2;rw[Go,Go,Pa,Pa];refine h.last λx hx y hy=>?_;let hl:ia<a.toList.length:=by rw[Jj];lia
 rw[G6 hl,Fx (by rw[Jj];lia)]at hx;rw[Jf.mp hx];refine L.ends _ ?_ y (G3 hy);rw[show a.size-1=ia by lia];exact Jb hl
def Sz{out:Array Keyed}(h:MI R a.toList b.toList ia ib out.toList)(e:ib=b.size):MRes R a.toList b.toList (Vh a b out ia ib).toList:=by
 unfold Vh;rw[Go,Go,Pa,Pa];exact h.doneB (by rw[Jj];exact e)
def Zkt{out:Array Keyed}(h:MI R a.toList b.toList ia ib out.toList)(e:ia=a.size):MRes R a.toList b.toList (Vh a b out ia ib).toList:=by
 unfold Vh;rw[Go,Go,Pa,Pa];exact h.doneA (by rw[Jj];exact e)
theorem MI.pushA{out:Array Keyed}{x:Keyed}(h:MI R a.toList b.toList ia ib out.toList)(hx:a[ia]?=some x)(hl:∀y∈b.toList.drop ib,R x<R y):MI R a.toList b.toList (ia+1) ib (out.push x).toList:=by
 let hx':a.toList[ia]?=some x:=by rw[Jr];exact hx
 let:=h.a (k:=1) (by have:=(Je.mp hx').1;lia) (by rw[To hx'];intro z hz;rw[Jf.mp hz];exact hl);rw[To hx']at this;rw[F3];exact this
theorem MI.pushB{out:Array Keyed}{x:Keyed}(h:MI R a.toList b.toList ia ib out.toList)(hx:b[ib]?=some x)(hl:∀y∈a.toList.drop ia,R x<R y):MI R a.toList b.toList ia (ib+1) (out.push x).toList:=by
 let hx':b.toList[ib]?=some x:=by rw[Jr];exact hx
 let:=h.b (k:=1) (by have:=(Je.mp hx').1;lia) (by rw[To hx'];intro z hz;rw[Jf.mp hz];exact hl);rw[To hx']at this;rw[F3];exact this
end
section
variable{M:Jet}{κ:SortKind}{S:Keyed->Prop}{R:Keyed->Int}{a b:Array Keyed}
def Zp0{xs:Array Keyed}(u:Up R xs.toList){i:Nat}{x y:Keyed}(hij:i<j)(hx:xs[i]?=some x)(hy:xs[j]?=some y):R x<R y:=by
 rw[<-Jr]at hx hy;let⟨h1,e1⟩:=Je.mp hx;let⟨h2,e2⟩:=Je.mp hy;let:=(Gp.mp u) i j h1 h2 hij;rwa [e1,e2]at this
theorem Zih(HL:LtS M A E s κ S R){key:Keyed}{xs:Array Keyed}{st:SortSt}{Q:Option Nat->SortSt->Prop}(hk:S key)(hst:kindOf st=κ)(sS:∀x∈xs.toList,S x)(u:Up R xs.toList)(dj:∀x∈xs.toList,R x≠R key)(hh:hint<xs.size-base)(h:∀k,base+k<=xs.size->(∀x∈(xs.toList.drop base).take k,R x<R key)->(∀x∈xs.toList.drop (base+k),R key<R x)->Q (some k) st):wpS M A E s (Wh left key xs base (xs.size-base) hint) Q st:=by
 refine Tz HL hk hst hh (λi hi=>?_) (λi j x y hij hj hx hy=>Zp0 u () hx hy) λk hkn h1 h2=>h k () (λx hx=>?_) λx hx=>?_
 .let hl:base+i<xs.size:=by lia
  refine⟨xs[base+i],G1 hl,sS _ ?_,dj _ ?_⟩<;>simp
 .let⟨i,hi,e⟩:=Gg hx;rw[Jv,Ga,Jj]at hi;refine h1 i x () ?_;rw[Bg,Fk]at e;rw[<-Jr,Jb (by rw[Jj];lia),e]
 .let⟨i,hi,e⟩:=Gg hx;rw[Ga,Jj]at hi;rw[Fk]at e;refine h2 (k+i) x () () ?_;rw[<-Jr,Jb (by rw[Jj];lia)];rw[<-e]
  congr 2
  lia
def Uo{xs:Array Keyed}{i:Nat}(h:i<xs.size):∃x,xs[i]?=some x/\x∈xs.toList:=⟨xs[i],G1 h,by simp⟩
theorem Zfl(L:Lo S R a b){mg:Nat}{out:Array Keyed}{st:SortSt}{Q:ForInStep LoSt->SortSt->Prop}{y:Keyed}(h:MI R a.toList b.toList ia ib out.toList)(ha:ia+1<a.size)(hb:ib<b.size)(hbase:base<=ia+ib)(hy:a[ia]?=some y)(lt:∀x∈b.toList.drop ib,R y<R x)(q:∀r o i j mg' ac' bc',Qt R a b base r o i j->Q (.done (r,o,i,j,mg',ac',bc')) st/\(r=none->Q (.yield (r,o,i,j,mg',ac',bc')) st)):wpS M A E s (lo4 a b mg ac bc out ia ib) Q st:=by
 unfold lo4;refine wpS_bind (Ya hy ?_);let h2:=h.pushA hy lt
 by_cases e:(ia+1+1==a.size)=true
 .rw[Dt e];exact wpS_pure (q _ _ _ _ _ _ _ (.inl ⟨_,rfl,P8 L h2 (by simpa using e)⟩)).1
 .rw[Ds e];let g:Qt R a b base none (out.push y) (ia+1) ib:=.inr ⟨rfl,h2,by have:¬ ia+1+1=a.size:=(by simpa using e);lia,hb,()⟩
  split
  .exact wpS_pure (q _ _ _ _ _ _ _ g).1
  .exact wpS_pure ((q _ _ _ _ _ _ _ g).2 rfl)
theorem Zm8(HL:LtS M A E s κ S R)(L:Lo S R a b){mg:Nat}{out:Array Keyed}{st:SortSt}{Q:ForInStep LoSt->SortSt->Prop}(hst:kindOf st=κ)(h:MI R a.toList b.toList ia ib out.toList)(ha:ia+1<a.size)(hb:ib<b.size)(hbase:base<=ia+ib)(q:∀r o i j mg' ac' bc',Qt R a b base r o i j->Q (.done (r,o,i,j,mg',ac',bc')) st/\(r=none->Q (.yield (r,o,i,j,mg',ac',bc')) st)):wpS M A E s (lo3 a b mg ac bc out ia ib) Q st:=by
 unfold lo3;let⟨y,hy,my⟩:=Uo (xs:=a) (i:=ia) ();refine wpS_bind (Ya hy (wpS_bind (Zih HL (L.sa _ my) hst L.sb L.ub (λx hx e=>L.dj y my x hx e.symm) () λk hk h1 h2=>?_)));dsimp only
 by_cases k0:k > 0
 .rw[Dt k0];let h3:=h.b (k:=k) (by rw[Jj];exact hk) λx hx z hz=>by
   let l1:=h1 x hx;let l2:=Rc L.ua (by rw[Jr];exact hy) z hz;lia
  rw[<-Zsg,<-Go]at h3
  by_cases e:(ib+k==b.size)=true
  .rw[Dt e];exact wpS_pure (q _ _ _ _ _ _ _ (.inl ⟨_,rfl,Sz h3 (by simpa using e)⟩)).1
  .rw[Ds e];exact Zfl L h3 ha (by have:¬ ib+k=b.size:=(by simpa using e);lia) () hy h2 q
 .rw[Ds k0];let:k=0:=by lia
  subst this;exact Zfl L h ha hb hbase hy h2 q
theorem Zfm(HL:LtS M A E s κ S R)(L:Lo S R a b){mg:Nat}{out:Array Keyed}{st:SortSt}{Q:ForInStep LoSt->SortSt->Prop}{y:Keyed}(hst:kindOf st=κ)(h:MI R a.toList b.toList ia ib out.toList)(ha:ia+1<a.size)(hb:ib<b.size)(hbase:base<=ia+ib)(hy:b[ib]?=some y)(lt:∀x∈a.toList.drop ia,R y<R x)(q:∀r o i j mg' ac' bc',Qt R a b base r o i j->Q (.done (r,o,i,j,mg',ac',bc')) st/\(r=none->Q (.yield (r,o,i,j,mg',ac',bc')) st)):wpS M A E s (lo2 a b mg ac bc out ia ib) Q st:=by
 unfold lo2;refine wpS_bind (Ya hy ?_);let h2:=h.pushB hy lt
 by_cases e:(ib+1==b.size)=true
 .rw[Dt e];exact wpS_pure (q _ _ _ _ _ _ _ (.inl ⟨_,rfl,Sz h2 (by simpa using e)⟩)).1
 .rw[Ds e];exact Zm8 HL L hst h2 ha (by have:¬ ib+1=b.size:=(by simpa using e);lia) () q
theorem Zfn(HL:LtS M A E s κ S R)(L:Lo S R a b){mg:Nat}{out:Array Keyed}{st:SortSt}{Q:ForInStep LoSt->SortSt->Prop}(hst:kindOf st=κ)(h:MI R a.toList b.toList ia ib out.toList)(ha:ia+1<a.size)(hb:ib<b.size)(hbase:base<=ia+ib)(q:∀r o i j mg' ac' bc' st',Keep st st'->Qt R a b base r o i j->Q (.done (r,o,i,j,mg',ac',bc')) st'/\(r=none->Q (.yield (r,o,i,j,mg',ac',bc')) st')):wpS M A E s (lo1 a b mg ac bc out ia ib) Q st:=by
 unfold lo1;rw[Xc];refine wpS_bind (wpS_modify ?_);let q':=λr o i j mg' ac' bc'=>q r o i j mg' ac' bc' (Tf st mg) (Keep.gal st mg);let⟨y,hy,my⟩:=Uo (xs:=b) (i:=ib) hb;refine wpS_bind (Ya hy (wpS_bind (Zih HL (L.sb _ my) hst L.sa L.ua (λx hx=>L.dj x hx y my) () λk hk h1 h2=>?_)));dsimp only
 by_cases k0:k > 0
 .rw[Dt k0];let h3:=h.a (k:=k) (by rw[Jj];exact hk) λx hx z hz=>by
   let l1:=h1 x hx;let l2:=Rc L.ub (by rw[Jr];exact hy) z hz;lia
  rw[<-Zsg,<-Go]at h3
  by_cases e:(ia+k+1==a.size)=true
  .rw[Dt e];exact wpS_pure (q' _ _ _ _ _ _ _ (.inl ⟨_,rfl,P8 L h3 (by simpa using e)⟩)).1
  .rw[Ds e]
   by_cases e2:(ia+k==a.size)=true
   .rw[Dt e2];exact wpS_pure (q' _ _ _ _ _ _ _ (.inl ⟨_,rfl,Zkt h3 (by simpa using e2)⟩)).1
   .rw[Ds e2];refine Zfm HL L hst h3 ?_ hb () hy h2 q';let:¬ ia+k+1=a.size:=by simpa using e
    let:¬ ia+k=a.size:=by simpa using e2
    lia
 .rw[Ds k0];let:k=0:=by lia
  subst this;exact Zfm HL L hst h ha hb hbase hy h2 q'
def Zm7(HL:LtS M A E s κ S R)(L:Lo S R a b){mg:Nat}{out:Array Keyed}{st:SortSt}{Q:LoSt->SortSt->Prop}(hst:kindOf st=κ)(h:MI R a.toList b.toList ia ib out.toList)(ha:ia+1<a.size)(hb:ib<b.size)(hbase:base<=ia+ib)(q:∀r o i j mg' ac' bc' st',Keep st st'->Qt R a b base r o i j->Q (r,o,i,j,mg',ac',bc') st'):wpS M A E s (forIn [0:a.size+b.size] ((none,out,ia,ib,mg,ac,bc):LoSt) (loF a b)) Q st:=by
 refine wpS_forRange (I:=λ_ c st'=>Keep st st'/\c.1=none/\Qt R a b base c.1 c.2.1 c.2.2.1 c.2.2.2.1) ?_ ?_ ⟨.refl _,rfl,.inr ⟨rfl,h,ha,hb,hbase⟩⟩
 .rintro i ⟨r,o,i',j',mg',ac',bc'⟩ st' _ _ ⟨kp,er,g⟩;let er:r=none:=er;subst er;rcases g with⟨z,ez,_⟩|⟨_,g1,g2,g3,g4⟩
  .cases ez
  .unfold loF;dsimp only
   split
   .exact Zfn HL L (kp.1.trans hst) g1 g2 g3 g4 λr o i j mg' ac' bc' st'' k2 gg=>⟨q _ _ _ _ _ _ _ _ (kp.trans k2) gg,λe=>⟨kp.trans k2,e,gg⟩⟩
   .exact Zfn HL L (kp.1.trans hst) g1 g2 g3 g4 λr o i j mg' ac' bc' st'' k2 gg=>⟨q _ _ _ _ _ _ _ _ (kp.trans k2) gg,λe=>⟨kp.trans k2,e,gg⟩⟩
 .rintro⟨r,o,i',j',mg',ac',bc'⟩ st' ⟨kp,er,g⟩;exact q _ _ _ _ _ _ _ _ kp g
theorem Zm6(HL:LtS M A E s κ S R)(L:Lo S R a b){mg:Nat}{out:Array Keyed}{st:SortSt}{Q:LoS1->SortSt->Prop}(hst:kindOf st=κ)(h:MI R a.toList b.toList ia ib out.toList)(ha:ia+1<a.size)(hb:ib<b.size)(hbase:base<=ia+ib)(q:∀r o i j ac' bc',Qt R a b (base+1) r o i j->Q (r,o,i,j,ac',bc') st):wpS M A E s (forIn [0:a.size+b.size] ((none,out,ia,ib,ac,bc):LoS1) (loG a b mg)) Q st:=by
 refine wpS_forRange (I:=λx c st'=>st'=st/\c.1=none/\Qt R a b (base+min x 1) c.1 c.2.1 c.2.2.1 c.2.2.2.1) ?_ ?_ ⟨rfl,rfl,.inr ⟨rfl,h,ha,hb,hbase⟩⟩
 .rintro x ⟨r,o,i,j,ac',bc'⟩ st' _ _ ⟨rfl,er,g⟩;let er:r=none:=er;subst er;rcases g with⟨z,ez,_⟩|⟨_,g1,g2,g3,g4⟩
  .cases ez
  .let g4:base+min x 1<=i+j:=g4;let g1:MI R a.toList b.toList i j o.toList:=g1;let g2:i+1<a.size:=g2;let g3:j<b.size:=g3;let⟨p,hp,mp⟩:=Uo (xs:=b) (i:=j) g3;let⟨y,hy,my⟩:=Uo (xs:=a) (i:=i) ();let pa:=Rc L.ua (i:=i) (by rw[Jr];exact hy);let pb:=Rc L.ub (i:=j) (by rw[Jr];exact hp);let nd:=L.dj y my p mp;unfold loG;refine wpS_bind (Ya hp (wpS_bind (Ya hy (wpS_bind (HL _ _ _ _ (L.sb _ mp) (L.sa _ my) hst ?_)))));dsimp only
   by_cases lt:R p<R y
   .rw[Du lt,Dt rfl];refine wpS_bind (Ya hp ?_);let h2:=g1.pushB hp λz hz=>by have:=pa z hz;lia
    by_cases e:(j+1==b.size)=true
    .rw[Dt e];exact wpS_pure (q _ _ _ _ _ _ (.inl ⟨_,rfl,Sz h2 (by simpa using e)⟩))
    .rw[Ds e];let:¬ j+1=b.size:=by simpa using e
     split
     .exact wpS_pure (q _ _ _ _ _ _ (.inr ⟨rfl,h2,g2,(),()⟩))
     .exact wpS_pure ⟨rfl,rfl,.inr ⟨rfl,h2,g2,by show j+1<b.size;lia,by show base+min (x+1) 1<=i+(j+1);lia⟩⟩
   .rw[Dv lt,Ds nofun];refine wpS_bind (Ya hy ?_);let h2:=g1.pushA hy λz hz=>by have:=pb z hz;lia
    by_cases e:(i+1+1==a.size)=true
    .rw[Dt e];exact wpS_pure (q _ _ _ _ _ _ (.inl ⟨_,rfl,P8 L h2 (by simpa using e)⟩))
    .rw[Ds e];let:¬ i+1+1=a.size:=by simpa using e
     split
     .exact wpS_pure (q _ _ _ _ _ _ (.inr ⟨rfl,h2,(),g3,()⟩))
     .exact wpS_pure ⟨rfl,rfl,.inr ⟨rfl,h2,by show i+1+1<a.size;lia,g3,by show base+min (x+1) 1<=i+1+j;lia⟩⟩
 .rintro⟨r,o,i,j,ac',bc'⟩ st' ⟨rfl,er,g⟩;refine q _ _ _ _ _ _ ?_;rcases g with g|⟨g0,g1,g2,g3,g4⟩
  .exact .inl g
  .exact .inr ⟨g0,g1,g2,g3,by
    let g4:base+min (max 0 (a.size+b.size)) 1<=i+j:=g4;lia⟩
theorem Zbp(HL:LtS M A E s κ S R)(L:Lo S R a b){st:SortSt}{Q:Array Keyed->SortSt->Prop}(hst:kindOf st=κ)(hb:0<b.size)(ha:0<a.size)(h0:∀p,b[0]?=some p->∀x∈a.toList,R p<R x)(q:∀r st',Keep st st'->MRes R a.toList b.toList r.toList->Q r st'):wpS M A E s (P5 a b) Q st:=by
 rw[Zah];refine wpS_bind (wpS_lift (Eb ⟨rfl,?_⟩));let⟨p,hp,mp⟩:=Uo (xs:=b) (i:=0) hb;refine wpS_bind (Ya hp ?_);let h1:MI R a.toList b.toList 0 1 #[p].toList:=by
  let hp':b.toList[0]?=some p:=by rw[Jr];exact hp
  let base:MI R a.toList b.toList 0 0 (#[]:Array Keyed).toList:=⟨Gc _,Gc _,.refl _,by simpa using L.ua,by simpa using L.ub⟩;exact base.pushB hp (h0 p hp)
 by_cases e:(1==b.size)=true
 .rw[Dt e];exact wpS_pure (q _ _ (.refl _) (Sz h1 (by simpa using e)))
 rw[Ds e]
 by_cases e2:(0+1==a.size)=true
 .rw[Dt e2];exact wpS_pure (q _ _ (.refl _) (P8 L h1 (by simpa using e2)))
 rw[Ds e2];let n1:¬ 1=b.size:=by simpa using e
 let n2:¬ 0+1=a.size:=by simpa using e2
 refine wpS_bind (wpS_get ?_);refine wpS_bind (wpS_mono (wpS_forRange (I:=λx c st'=>Keep st st'/\c.1=none/\Qt R a b (x+1) c.1 c.2.1 c.2.2.1 c.2.2.2.1) (Q:=λc st'=>Keep st st'/\∃r,c.1=some r/\MRes R a.toList b.toList r.toList) ?_ ?_ ⟨.refl _,rfl,.inr ⟨rfl,h1,by show 0+1<a.size;lia,by show 1<b.size;lia,Jd _⟩⟩) ?_)
 .rintro x ⟨r,o,i,j,mg⟩ st' _ _ ⟨kp,er,g⟩;let er:r=none:=er;subst er;rcases g with⟨z,ez,_⟩|⟨_,g1,g2,g3,g4⟩
  .cases ez
  .unfold loH;refine wpS_bind (Zm6 HL L (kp.1.trans hst) g1 g2 g3 g4 λr o i j ac bc gg=>?_);rcases gg with⟨z,rfl,hz⟩|⟨rfl,f1,f2,f3,f4⟩
   .exact wpS_pure ⟨kp,z,rfl,hz⟩
   .refine wpS_bind (wpS_lift (Eb ⟨rfl,?_⟩));refine wpS_bind (Zm7 HL L (kp.1.trans hst) f1 f2 f3 f4 λr o i j mg' ac bc st'' k2 gg=>?_);rcases gg with⟨z,rfl,hz⟩|⟨rfl,d1,d2,d3,d4⟩
    .exact wpS_pure ⟨kp.trans k2,z,rfl,hz⟩
    .dsimp only;rw[Xc];exact wpS_bind (wpS_modify (wpS_pure ⟨(kp.trans k2).trans (Keep.gal _ _),rfl,.inr ⟨rfl,d1,d2,d3,d4⟩⟩))
 .rintro⟨r,o,i,j,mg⟩ st' ⟨kp,er,g⟩;rcases g with⟨z,ez,hz⟩|⟨_,g1,g2,g3,g4⟩
  .exists kp,z,ez,hz
  .let g2:i+1<a.size:=g2;let g3:j<b.size:=g3;let g4:max 0 (a.size+b.size)+1<=i+j:=g4;lia
 .rintro⟨r,o,i,j,mg⟩ st' ⟨kp,z,ez,hz⟩;let ez:r=some z:=ez;subst ez;exact wpS_pure (q _ _ kp hz)
end
def P6:Array Keyed->Array Keyed->StateT SortSt Sem (Array Keyed):=sortPriv% PySem.Builtin.mergeHi
abbrev Vi(a b out:Array Keyed)(na nb:Nat):Array Keyed:=a.extract 0 na++b.extract 0 nb++out.reverse
abbrev Sd(a b out:Array Keyed)(na nb:Nat):Array Keyed:=b.extract 0 nb++a.extract 0 na++out.reverse
abbrev HiSt:=Option (Array Keyed)×Nat×Nat×Array Keyed×Nat×Nat×Nat
def hi4(a b:Array Keyed)(mg ac bc:Nat)(out:Array Keyed)(na nb:Nat):StateT SortSt Sem (ForInStep HiSt):=do
 let y <-elem' a (na-1)
 if na-1==0 then pure (.done (some (Vi a b (out.push y) (na-1) nb),na-1,nb,out.push y,mg,ac,bc))
 else if decide (ac<7)&&decide (bc<7)then pure (.done (none,na-1,nb,out.push y,mg,ac,bc))else pure (.yield (none,na-1,nb,out.push y,mg,ac,bc))
def hi3(a b:Array Keyed)(mg ac bc0:Nat)(out:Array Keyed)(na nb:Nat):StateT SortSt Sem (ForInStep HiSt):=do
 let y <-elem' a (na-1)
 let x <-Wh true y b 0 nb (nb-1)
 match x with
 |some k =>
  if nb-k > 0 then
   if k==1 then pure (.done (some (Sd a b (out++(b.extract k nb).reverse) na k),na,k,out++(b.extract k nb).reverse,mg,ac,nb-k))
   else if k==0 then pure (.done (some (Vi a b (out++(b.extract k nb).reverse) na k),na,k,out++(b.extract k nb).reverse,mg,ac,nb-k))
   else hi4 a b mg ac (nb-k) (out++(b.extract k nb).reverse) na k
  else hi4 a b mg ac (nb-k) out na nb
 |_=>pure (.done (some (Vi a b out na nb),na,nb,out,mg,ac,bc0))
def hi2(a b:Array Keyed)(mg ac bc0:Nat)(out:Array Keyed)(na nb:Nat):StateT SortSt Sem (ForInStep HiSt):=do
 let y <-elem' b (nb-1)
 if nb-1==1 then pure (.done (some (Sd a b (out.push y) na (nb-1)),na,nb-1,out.push y,mg,ac,bc0))
 else hi3 a b mg ac bc0 (out.push y) na (nb-1)
def hi1(a b:Array Keyed)(mg ac0 bc0:Nat)(out:Array Keyed)(na nb:Nat):StateT SortSt Sem (ForInStep HiSt):=do
 Xo mg
 let y <-elem' b (nb-1)
 let x <-Wh false y a 0 na (na-1)
 match x with
 |some k =>
  if na-k > 0 then
   if k==0 then pure (.done (some (Vi a b (out++(a.extract k na).reverse) k nb),k,nb,out++(a.extract k na).reverse,mg,na-k,bc0))
   else hi2 a b mg (na-k) bc0 (out++(a.extract k na).reverse) k nb
  else hi2 a b mg (na-k) bc0 out na nb
 |_=>pure (.done (some (Vi a b out na nb),na,nb,out,mg,ac0,bc0))
def hiF(a b:Array Keyed):Nat->HiSt->StateT SortSt Sem (ForInStep HiSt):=λ_ c=>if c.2.2.2.2.1 > 1 then hi1 a b (c.2.2.2.2.1-1) c.2.2.2.2.2.1 c.2.2.2.2.2.2 c.2.2.2.1 c.2.1 c.2.2.1 else hi1 a b c.2.2.2.2.1 c.2.2.2.2.2.1 c.2.2.2.2.2.2 c.2.2.2.1 c.2.1 c.2.2.1
abbrev HiS1:=Option (Array Keyed)×Nat×Nat×Array Keyed×Nat×Nat
def hiG(a b:Array Keyed)(mg:Nat):Nat->HiS1->StateT SortSt Sem (ForInStep HiS1):=λ_ c=>do
 let x <-elem' b (c.2.2.1-1)
 let y <-elem' a (c.2.1-1)
 let z <-lt' x y
 match z with
 |some aWins =>
  if aWins=true then do
   let x <-elem' a (c.2.1-1)
   if c.2.1-1==0 then pure (.done (some (Vi a b (c.2.2.2.1.push x) (c.2.1-1) c.2.2.1),c.2.1-1,c.2.2.1,c.2.2.2.1.push x,c.2.2.2.2.1+1,0))
   else if c.2.2.2.2.1+1≥mg then pure (.done (none,c.2.1-1,c.2.2.1,c.2.2.2.1.push x,c.2.2.2.2.1+1,0))else pure (.yield (none,c.2.1-1,c.2.2.1,c.2.2.2.1.push x,c.2.2.2.2.1+1,0))
  else do
   let y <-elem' b (c.2.2.1-1)
   if c.2.2.1-1==1 then pure (.done (some (Sd a b (c.2.2.2.1.push y) c.2.1 (c.2.2.1-1)),c.2.1,c.2.2.1-1,c.2.2.2.1.push y,0,c.2.2.2.2.2+1))
   else if c.2.2.2.2.2+1≥mg then pure (.done (none,c.2.1,c.2.2.1-1,c.2.2.2.1.push y,0,c.2.2.2.2.2+1))else pure (.yield (none,c.2.1,c.2.2.1-1,c.2.2.2.1.push y,0,c.2.2.2.2.2+1))
 |_=>pure (.done (some (Vi a b c.2.2.2.1 c.2.1 c.2.2.1),c.2.1,c.2.2.1,c.2.2.2.1,c.2.2.2.2.1,c.2.2.2.2.2))
abbrev HiS0:=Option (Array Keyed)×Nat×Nat×Array Keyed×Nat
def hiH(a b:Array Keyed):Nat->HiS0->StateT SortSt Sem (ForInStep HiS0):=λ_ c=>do
 let d <-forIn [0:a.size+b.size] ((none,c.2.1,c.2.2.1,c.2.2.2.1,0,0):HiS1) (hiG a b c.2.2.2.2)
 match d.1 with
 |some r=>pure (.done (some r,d.2.1,d.2.2.1,d.2.2.2.1,c.2.2.2.2))
 |none=>do
  liftM (rule "list.sort.gallop")
  let e <-forIn [0:a.size+b.size] ((none,d.2.1,d.2.2.1,d.2.2.2.1,c.2.2.2.2+1,d.2.2.2.2.1,d.2.2.2.2.2):HiSt) (hiF a b)
  match e.1 with
  |some r=>pure (.done (some r,e.2.1,e.2.2.1,e.2.2.2.1,e.2.2.2.2.1))
  |none=>do
   Xo (e.2.2.2.2.1+1)
   pure (.yield (none,e.2.1,e.2.2.1,e.2.2.2.1,e.2.2.2.2.1+1))
def Zai(a b:Array Keyed):P6 a b=(do
 liftM (rule "list.sort.merge-hi")
 let x <-elem' a (a.size-1)
 if a.size-1==0 then pure (Vi a b #[x] (a.size-1) b.size)
 else if b.size==1 then pure (Sd a b #[x] (a.size-1) b.size)
 else do
  let st <-get
  let c <-forIn [0:a.size+b.size] ((none,a.size-1,b.size,#[x],gallopOf st):HiS0) (hiH a b)
  match c.1 with
  |some r=>pure r
  |none=>liftM (unsupported "internal:list.sort.merge-bound")):=by
 kernel_rfl
section
variable{R:Keyed->Int}{la lb:List Keyed}
structure MH(R:Keyed->Int)(la lb:List Keyed)(na nb:Nat)(o:List Keyed):Prop where
 al:na<=la.length
 bl:nb<=lb.length
 pm:o.Perm (la.drop na++lb.drop nb)
 pa:Up R (la.take na++o)
 pb:Up R (lb.take nb++o)
def Zde{l:List Keyed}{i n:Nat}(h:i<=n):l.take i++(l.take n).drop i=l.take n:=by
 let:=Jx i (l.take n);rw[List.take_take,Fe h]at this;exact this
theorem Zeb{l:List Keyed}{i n:Nat}(h:i<=n):(l.take n).drop i++l.drop n=l.drop i:=by
 rw[Dj];let:=Jx (n-i) (l.drop i);rw[Fs,show i+(n-i)=n by lia]at this;exact this
def MH.a{i:Nat}{o:List Keyed}(h:MH R la lb na nb o)(hi:i<=na)(hx:∀x∈(la.take na).drop i,∀y∈lb.take nb,R y<R x):MH R la lb i nb ((la.take na).drop i++o):=by
 let⟨p1,p2,p3⟩:=Yy.mp h.pa;let⟨q1,q2,q3⟩:=Yy.mp h.pb;exists J9 hi h.al,h.bl,?_,by rw[<-Jn,Zde hi];exact h.pa,?_
 .refine(h.pm.append_left _).trans ?_;rw[<-Jn,Zeb hi]
 .refine Yy.mpr ⟨q1,Yy.mpr ⟨p1.sublist (Fi _ _),p2,λx hx y hy=>p3 x (G3 hx) y hy⟩,λy hy x hx'=>?_⟩;rcases Jw.mp hx' with z|z
  .exact hx x z y hy
  .exact q3 y hy x z
def MH.b{i:Nat}{o:List Keyed}(h:MH R la lb na nb o)(hi:i<=nb)(hx:∀y∈(lb.take nb).drop i,∀x∈la.take na,R x<R y):MH R la lb na i ((lb.take nb).drop i++o):=by
 let⟨p1,p2,p3⟩:=Yy.mp h.pa;let⟨q1,q2,q3⟩:=Yy.mp h.pb;refine⟨h.al,J9 hi h.bl,?_,?_,by rw[<-Jn,Zde hi];exact h.pb⟩
 .refine(h.pm.append_left _).trans ?_;rw[<-Jn];refine(G4.append_right _).trans ?_;rw[Jn,Zeb hi]
 .refine Yy.mpr ⟨p1,Yy.mpr ⟨q1.sublist (Fi _ _),p2,λx hx y hy=>q3 x (G3 hx) y hy⟩,λy hy x hx'=>?_⟩;rcases Jw.mp hx' with z|z
  .exact hx x z y hy
  .exact p3 y hy x z
def MH.doneA{o:List Keyed}(h:MH R la lb na nb o)(e:na=0):MRes R la lb (la.take na++lb.take nb++o):=by
 subst e;exists ?_,h.pb;show(lb.take nb++o).Perm _;refine(h.pm.append_left _).trans ?_;rw[F5,<-Jn];refine(G4.append_right _).trans ?_;rw[Jn,Jx]
def MH.doneB{o:List Keyed}(h:MH R la lb na nb o)(e:nb=0):MRes R la lb (la.take na++lb.take nb++o):=by
 subst e;rw[Fb,Gm];exists ?_,h.pa;refine(h.pm.append_left _).trans ?_;rw[F5,<-Jn,Jx]
def MH.first{o:List Keyed}(h:MH R la lb na nb o)(hl:∀y∈lb.take nb,∀x∈la.take na,R y<R x):MRes R la lb (lb.take nb++la.take na++o):=by
 let⟨q1,q2,q3⟩:=Yy.mp h.pb;exists ?_,?_
 .refine(h.pm.append_left _).trans ?_;rw[Jn];refine G4.trans ?_;rw[Jn,Jn];rw[<-Jn (la.take na),Jx];refine List.Perm.append_left _ ?_;refine G4.trans ?_;rw[Jx]
 .rw[Jn];refine Yy.mpr ⟨q1,h.pa,λy hy x hx=>?_⟩;rcases Jw.mp hx with z|z
  .exact hl y hy x z
  .exact q3 y hy x z
theorem U9{l:List Keyed}{n:Nat}{x:Keyed}(u:Up R l)(hn:0<n)(h:l[n-1]?=some x):∀y∈l.take n,R y<=R x:=λy hy=>by
 let⟨hi,e⟩:=Je.mp h;let⟨i,hi2,e2⟩:=Gg hy;rw[Jv]at hi2;rw[Bg]at e2;rcases Fh i (n-1)with z|z
 .let:=(Gp.mp u) i (n-1) () hi z;rw[e,e2]at this;lia
 .let:i=n-1:=by lia
  subst this;rw[<-e2,e];exact Dh _
theorem Sx{l:List Keyed}{n:Nat}{x:Keyed}(hn:0<n)(h:l[n-1]?=some x):(l.take n).drop (n-1)=[x]:=by
 rw[Dj,show n-(n-1)=1 by lia];exact To h
end
section
variable{M:Jet}{κ:SortKind}{S:Keyed->Prop}{R:Keyed->Int}{a b:Array Keyed}
structure Hi(S:Keyed->Prop)(R:Keyed->Int)(a b:Array Keyed):Prop where
 sa:∀x∈a.toList,S x
 sb:∀x∈b.toList,S x
 ua:Up R a.toList
 ub:Up R b.toList
 dj:∀x∈a.toList,∀y∈b.toList,R x≠R y
 begs:∀y,b.toList[0]?=some y->∀x∈a.toList,R y<R x
theorem Zig(HL:LtS M A E s κ S R){key:Keyed}{xs:Array Keyed}{n:Nat}{st:SortSt}{Q:Option Nat->SortSt->Prop}(hk:S key)(hst:kindOf st=κ)(sS:∀x∈xs.toList,S x)(u:Up R xs.toList)(dj:∀x∈xs.toList,R x≠R key)(hn:n<=xs.size)(hh:hint<n)(h:∀k,k<=n->(∀x∈xs.toList.take k,R x<R key)->(∀x∈(xs.toList.take n).drop k,R key<R x)->Q (some k) st):wpS M A E s (Wh left key xs 0 n hint) Q st:=by
 refine Tz HL hk hst hh (λi hi=>?_) (λi j x y hij hj hx hy=>Zp0 u () hx hy) λk hkn h1 h2=>h k hkn (λx hx=>?_) λx hx=>?_
 .let hl:0+i<xs.size:=by lia
  refine⟨xs[0+i],G1 hl,sS _ ?_,dj _ ?_⟩<;>simp
 .let⟨i,hi,e⟩:=Gg hx;rw[Jv,Jj]at hi;refine h1 i x () ?_;rw[Bg]at e;rw[Fg,<-Jr,Jb (by rw[Jj];lia),e]
 .let⟨i,hi,e⟩:=Gg hx;rw[Ga,Jv,Jj]at hi;rw[Fk,Bg]at e;refine h2 (k+i) x () () ?_;rw[Fg,<-Jr,Jb (by rw[Jj];lia),e]
def Zc4(R:Keyed->Int)(a b:Array Keyed)(base:Nat)(r:Option (Array Keyed))(out:Array Keyed)(na nb:Nat):Prop:=(∃z,r=some z/\MRes R a.toList b.toList z.toList)\/(r=none/\MH R a.toList b.toList na nb out.toList.reverse/\0<na/\1<nb/\na+nb+base<=a.size+b.size)
def Ze9(xs:Array Keyed)(n:Nat):(xs.extract 0 n).toList=xs.toList.take n:=by
 rw[Fj];show((xs.toList.drop 0).take (n-0))=_;rfl
def Zsf(xs:Array Keyed)(i n:Nat):(xs.extract i n).toList=(xs.toList.take n).drop i:=by
 rw[Fj,Dj]
theorem S0{out:Array Keyed}(L:Hi S R a b)(h:MH R a.toList b.toList na nb out.toList.reverse)(e:nb=1):MRes R a.toList b.toList (Sd a b out na nb).toList:=by
 unfold Sd;rw[Go,Go,Ze9,Ze9,Bp];refine h.first λy hy x hx=>?_;subst e;let⟨i,hi,ey⟩:=Gg hy;rw[Jv]at hi;let:i=0:=by lia
 subst this;rw[Bg]at ey;exact L.begs y (by rw[Jb (),ey]) x (Gs hx)
def Ra{out:Array Keyed}(h:MH R a.toList b.toList na nb out.toList.reverse)(e:na=0):MRes R a.toList b.toList (Vi a b out na nb).toList:=by
 unfold Vi;rw[Go,Go,Ze9,Ze9,Bp];exact h.doneA e
def Zk2{out:Array Keyed}(h:MH R a.toList b.toList na nb out.toList.reverse)(e:nb=0):MRes R a.toList b.toList (Vi a b out na nb).toList:=by
 unfold Vi;rw[Go,Go,Ze9,Ze9,Bp];exact h.doneB e
theorem MH.pushA{out:Array Keyed}{x:Keyed}(h:MH R a.toList b.toList na nb out.toList.reverse)(hn:0<na)(hx:a[na-1]?=some x)(hl:∀y∈b.toList.take nb,R y<R x):MH R a.toList b.toList (na-1) nb (out.push x).toList.reverse:=by
 let hx':a.toList[na-1]?=some x:=by rw[Jr];exact hx
 let:=h.a (i:=na-1) () (by rw[Sx hn hx'];intro z hz;rw[Jf.mp hz];exact hl);rw[Sx hn hx']at this;rw[F3,List.reverse_append];exact this
theorem MH.pushB{out:Array Keyed}{x:Keyed}(h:MH R a.toList b.toList na nb out.toList.reverse)(hn:0<nb)(hx:b[nb-1]?=some x)(hl:∀y∈a.toList.take na,R y<R x):MH R a.toList b.toList na (nb-1) (out.push x).toList.reverse:=by
 let hx':b.toList[nb-1]?=some x:=by rw[Jr];exact hx
 let:=h.b (i:=nb-1) () (by rw[Sx hn hx'];intro z hz;rw[Jf.mp hz];exact hl);rw[Sx hn hx']at this;rw[F3,List.reverse_append];exact this
def Zgu(out xs:Array Keyed):(out++xs.reverse).toList.reverse=xs.toList++out.toList.reverse:=by
 rw[Go,Bp,List.reverse_append,List.reverse_reverse]
abbrev QH(R:Keyed->Int)(a b:Array Keyed)(base:Nat)(st:SortSt)(Q:ForInStep HiSt->SortSt->Prop):Prop:=∀r o i j mg' ac' bc',Zc4 R a b base r o i j->Q (.done (r,i,j,o,mg',ac',bc')) st/\(r=none->Q (.yield (r,i,j,o,mg',ac',bc')) st)
theorem Zfo(L:Hi S R a b){mg:Nat}{out:Array Keyed}{st:SortSt}{Q:ForInStep HiSt->SortSt->Prop}{y:Keyed}(h:MH R a.toList b.toList na nb out.toList.reverse)(ha:0<na)(hb:1<nb)(hbase:na+nb+base<=a.size+b.size)(hy:a[na-1]?=some y)(lt:∀x∈b.toList.take nb,R x<R y)(q:QH R a b base st Q):wpS M A E s (hi4 a b mg ac bc out na nb) Q st:=by
 unfold hi4;refine wpS_bind (Ya hy ?_);let h2:=h.pushA ha hy lt
 by_cases e:(na-1==0)=true
 .rw[Dt e];exact wpS_pure (q _ _ _ _ _ _ _ (.inl ⟨_,rfl,Ra h2 (by simpa using e)⟩)).1
 .rw[Ds e];let g:Zc4 R a b base none (out.push y) (na-1) nb:=.inr ⟨rfl,h2,by have:¬ na-1=0:=(by simpa using e);lia,hb,()⟩
  split
  .exact wpS_pure (q _ _ _ _ _ _ _ g).1
  .exact wpS_pure ((q _ _ _ _ _ _ _ g).2 rfl)
theorem Znb(HL:LtS M A E s κ S R)(L:Hi S R a b){mg:Nat}{out:Array Keyed}{st:SortSt}{Q:ForInStep HiSt->SortSt->Prop}(hst:kindOf st=κ)(h:MH R a.toList b.toList na nb out.toList.reverse)(ha:0<na)(hb:1<nb)(hbase:na+nb+base<=a.size+b.size)(q:QH R a b base st Q):wpS M A E s (hi3 a b mg ac bc out na nb) Q st:=by
 unfold hi3;let al:na<=a.size:=by have:=h.al;rwa [Jj]at this
 let bl:nb<=b.size:=by have:=h.bl;rwa [Jj]at this
 let⟨y,hy,my⟩:=Uo (xs:=a) (i:=na-1) ();let pa:=U9 L.ua ha (by rw[Jr];exact hy);refine wpS_bind (Ya hy (wpS_bind (Zig HL (L.sa _ my) hst L.sb L.ub (λx hx e=>L.dj y my x hx e.symm) bl () λk hk h1 h2=>?_)));dsimp only
 by_cases k0:nb-k > 0
 .rw[Dt k0];let h3:=h.b (i:=k) () λx hx z hz=>by
   let l1:=h2 x hx;let l2:=pa z hz;lia
  rw[<-Zsf,<-Zgu]at h3
  by_cases e:(k==1)=true
  .rw[Dt e];exact wpS_pure (q _ _ _ _ _ _ _ (.inl ⟨_,rfl,S0 L h3 (by simpa using e)⟩)).1
  .rw[Ds e]
   by_cases e2:(k==0)=true
   .rw[Dt e2];exact wpS_pure (q _ _ _ _ _ _ _ (.inl ⟨_,rfl,Zk2 h3 (by simpa using e2)⟩)).1
   .rw[Ds e2];let:¬ k=1:=by simpa using e
    let:¬ k=0:=by simpa using e2
    exact Zfo L h3 ha () () hy h1 q
 .rw[Ds k0];let:k=nb:=by lia
  subst this;exact Zfo L h ha hb hbase hy h1 q
theorem Zfp(HL:LtS M A E s κ S R)(L:Hi S R a b){mg:Nat}{out:Array Keyed}{st:SortSt}{Q:ForInStep HiSt->SortSt->Prop}{y:Keyed}(hst:kindOf st=κ)(h:MH R a.toList b.toList na nb out.toList.reverse)(ha:0<na)(hb:1<nb)(hbase:na+nb+base<=a.size+b.size)(hy:b[nb-1]?=some y)(lt:∀x∈a.toList.take na,R x<R y)(q:QH R a b base st Q):wpS M A E s (hi2 a b mg ac bc out na nb) Q st:=by
 unfold hi2;refine wpS_bind (Ya hy ?_);let h2:=h.pushB () hy lt
 by_cases e:(nb-1==1)=true
 .rw[Dt e];exact wpS_pure (q _ _ _ _ _ _ _ (.inl ⟨_,rfl,S0 L h2 (by simpa using e)⟩)).1
 .rw[Ds e];let:¬ nb-1=1:=by simpa using e
  exact Znb HL L hst h2 ha () () q
theorem Zfq(HL:LtS M A E s κ S R)(L:Hi S R a b){mg:Nat}{out:Array Keyed}{st:SortSt}{Q:ForInStep HiSt->SortSt->Prop}(hst:kindOf st=κ)(h:MH R a.toList b.toList na nb out.toList.reverse)(ha:0<na)(hb:1<nb)(hbase:na+nb+base<=a.size+b.size)(q:∀st',Keep st st'->QH R a b base st' Q):wpS M A E s (hi1 a b mg ac bc out na nb) Q st:=by
 unfold hi1;rw[Xc];refine wpS_bind (wpS_modify ?_);let q':=q (Tf st mg) (Keep.gal st mg);let al:na<=a.size:=by have:=h.al;rwa [Jj]at this
 let bl:nb<=b.size:=by have:=h.bl;rwa [Jj]at this
 let⟨y,hy,my⟩:=Uo (xs:=b) (i:=nb-1) ();let pb:=U9 L.ub (n:=nb) () (by rw[Jr];exact hy);refine wpS_bind (Ya hy (wpS_bind (Zig HL (L.sb _ my) hst L.sa L.ua (λx hx=>L.dj x hx y my) al () λk hk h1 h2=>?_)));dsimp only
 by_cases k0:na-k > 0
 .rw[Dt k0];let h3:=h.a (i:=k) () λx hx z hz=>by
   let l1:=h2 x hx;let l2:=pb z hz;lia
  rw[<-Zsf,<-Zgu]at h3
  by_cases e:(k==0)=true
  .rw[Dt e];exact wpS_pure (q' _ _ _ _ _ _ _ (.inl ⟨_,rfl,Ra h3 (by simpa using e)⟩)).1
  .rw[Ds e];let:¬ k=0:=by simpa using e
   exact Zfp HL L hst h3 () hb () hy h1 q'
 .rw[Ds k0];let:k=na:=by lia
  subst this;exact Zfp HL L hst h ha hb hbase hy h1 q'
def Zna(HL:LtS M A E s κ S R)(L:Hi S R a b){mg:Nat}{out:Array Keyed}{st:SortSt}{Q:HiSt->SortSt->Prop}(hst:kindOf st=κ)(h:MH R a.toList b.toList na nb out.toList.reverse)(ha:0<na)(hb:1<nb)(hbase:na+nb+base<=a.size+b.size)(q:∀r o i j mg' ac' bc' st',Keep st st'->Zc4 R a b base r o i j->Q (r,i,j,o,mg',ac',bc') st'):wpS M A E s (forIn [0:a.size+b.size] ((none,na,nb,out,mg,ac,bc):HiSt) (hiF a b)) Q st:=by
 refine wpS_forRange (I:=λ_ c st'=>Keep st st'/\c.1=none/\Zc4 R a b base c.1 c.2.2.2.1 c.2.1 c.2.2.1) ?_ ?_ ⟨.refl _,rfl,.inr ⟨rfl,h,ha,hb,hbase⟩⟩
 .rintro i ⟨r,i',j',o,mg',ac',bc'⟩ st' _ _ ⟨kp,er,g⟩;let er:r=none:=er;subst er;rcases g with⟨z,ez,_⟩|⟨_,g1,g2,g3,g4⟩
  .cases ez
  .unfold hiF;dsimp only
   split
   .exact Zfq HL L (kp.1.trans hst) g1 g2 g3 g4 λst'' k2 r o i j mg' ac' bc' gg=>⟨q _ _ _ _ _ _ _ _ (kp.trans k2) gg,λe=>⟨kp.trans k2,e,gg⟩⟩
   .exact Zfq HL L (kp.1.trans hst) g1 g2 g3 g4 λst'' k2 r o i j mg' ac' bc' gg=>⟨q _ _ _ _ _ _ _ _ (kp.trans k2) gg,λe=>⟨kp.trans k2,e,gg⟩⟩
 .rintro⟨r,i',j',o,mg',ac',bc'⟩ st' ⟨kp,er,g⟩;exact q _ _ _ _ _ _ _ _ kp g
theorem Zm9(HL:LtS M A E s κ S R)(L:Hi S R a b){mg:Nat}{out:Array Keyed}{st:SortSt}{Q:HiS1->SortSt->Prop}(hst:kindOf st=κ)(h:MH R a.toList b.toList na nb out.toList.reverse)(ha:0<na)(hb:1<nb)(hbase:na+nb+base<=a.size+b.size)(q:∀r o i j ac' bc',Zc4 R a b (base+1) r o i j->Q (r,i,j,o,ac',bc') st):wpS M A E s (forIn [0:a.size+b.size] ((none,na,nb,out,ac,bc):HiS1) (hiG a b mg)) Q st:=by
 let al:na<=a.size:=by have:=h.al;rwa [Jj]at this
 refine wpS_forRange (I:=λx c st'=>st'=st/\c.1=none/\Zc4 R a b (base+min x 1) c.1 c.2.2.2.1 c.2.1 c.2.2.1) ?_ ?_ ⟨rfl,rfl,.inr ⟨rfl,h,ha,hb,hbase⟩⟩
 .rintro x ⟨r,i,j,o,ac',bc'⟩ st' _ _ ⟨rfl,er,g⟩;let er:r=none:=er;subst er;rcases g with⟨z,ez,_⟩|⟨_,g1,g2,g3,g4⟩
  .cases ez
  .let g4:i+j+(base+min x 1)<=a.size+b.size:=g4;let g1:MH R a.toList b.toList i j o.toList.reverse:=g1;let g2:0<i:=g2;let g3:1<j:=g3;let al:i<=a.size:=by have:=g1.al;rwa [Jj]at this
   let bl:j<=b.size:=by have:=g1.bl;rwa [Jj]at this
   let⟨p,hp,mp⟩:=Uo (xs:=b) (i:=j-1) ();let⟨y,hy,my⟩:=Uo (xs:=a) (i:=i-1) ();let pa:=U9 L.ua (n:=i) g2 (by rw[Jr];exact hy);let pb:=U9 L.ub (n:=j) () (by rw[Jr];exact hp);let nd:=L.dj y my p mp;unfold hiG;refine wpS_bind (Ya hp (wpS_bind (Ya hy (wpS_bind (HL _ _ _ _ (L.sb _ mp) (L.sa _ my) hst ?_)))));dsimp only
   by_cases lt:R p<R y
   .rw[Du lt,Dt rfl];refine wpS_bind (Ya hy ?_);let h2:=g1.pushA g2 hy λz hz=>by have:=pb z hz;lia
    by_cases e:(i-1==0)=true
    .rw[Dt e];exact wpS_pure (q _ _ _ _ _ _ (.inl ⟨_,rfl,Ra h2 (by simpa using e)⟩))
    .rw[Ds e];let:¬ i-1=0:=by simpa using e
     split
     .exact wpS_pure (q _ _ _ _ _ _ (.inr ⟨rfl,h2,(),g3,()⟩))
     .exact wpS_pure ⟨rfl,rfl,.inr ⟨rfl,h2,by show 0<i-1;lia,g3,by show i-1+j+(base+min (x+1) 1)<=_;lia⟩⟩
   .rw[Dv lt,Ds nofun];refine wpS_bind (Ya hp ?_);let h2:=g1.pushB () hp λz hz=>by have:=pa z hz;lia
    by_cases e:(j-1==1)=true
    .rw[Dt e];exact wpS_pure (q _ _ _ _ _ _ (.inl ⟨_,rfl,S0 L h2 (by simpa using e)⟩))
    .rw[Ds e];let:¬ j-1=1:=by simpa using e
     split
     .exact wpS_pure (q _ _ _ _ _ _ (.inr ⟨rfl,h2,g2,(),()⟩))
     .exact wpS_pure ⟨rfl,rfl,.inr ⟨rfl,h2,g2,by show 1<j-1;lia,by show i+(j-1)+(base+min (x+1) 1)<=_;lia⟩⟩
 .rintro⟨r,i,j,o,ac',bc'⟩ st' ⟨rfl,er,g⟩;refine q _ _ _ _ _ _ ?_;rcases g with g|⟨g0,g1,g2,g3,g4⟩
  .exact .inl g
  .exact .inr ⟨g0,g1,g2,g3,by
    let g4:i+j+(base+min (max 0 (a.size+b.size)) 1)<=a.size+b.size:=g4;lia⟩
theorem Zbq(HL:LtS M A E s κ S R)(L:Hi S R a b){st:SortSt}{Q:Array Keyed->SortSt->Prop}(hst:kindOf st=κ)(hb:0<b.size)(ha:0<a.size)(h0:∀p,a[a.size-1]?=some p->∀x∈b.toList,R x<R p)(q:∀r st',Keep st st'->MRes R a.toList b.toList r.toList->Q r st'):wpS M A E s (P6 a b) Q st:=by
 rw[Zai];refine wpS_bind (wpS_lift (Eb ⟨rfl,?_⟩));let⟨p,hp,mp⟩:=Uo (xs:=a) (i:=a.size-1) ();refine wpS_bind (Ya hp ?_);let h1:MH R a.toList b.toList (a.size-1) b.size #[p].toList.reverse:=by
  let base:MH R a.toList b.toList a.size b.size (#[]:Array Keyed).toList.reverse:=by
   let e1:a.toList.take a.size=a.toList:=Gr (by rw[Jj];exact Jd _);let e2:b.toList.take b.size=b.toList:=Gr (by rw[Jj];exact Jd _);let e3:a.toList.drop a.size=[]:=Fx (by rw[Jj];exact Jd _);let e4:b.toList.drop b.size=[]:=Fx (by rw[Jj];exact Jd _);refine⟨by rw[Jj];exact Jd _,by rw[Jj];exact Jd _,by rw[e3,e4];exact .refl _,by rw[e1];simpa using L.ua,by rw[e2];simpa using L.ub⟩
  exact base.pushA ha hp λy hy=>h0 p hp y (Gs hy)
 by_cases e:(a.size-1==0)=true
 .rw[Dt e];exact wpS_pure (q _ _ (.refl _) (Ra h1 (by simpa using e)))
 rw[Ds e]
 by_cases e2:(b.size==1)=true
 .rw[Dt e2];exact wpS_pure (q _ _ (.refl _) (S0 L h1 (by simpa using e2)))
 rw[Ds e2];let n1:¬ a.size-1=0:=by simpa using e
 let n2:¬ b.size=1:=by simpa using e2
 refine wpS_bind (wpS_get ?_);refine wpS_bind (wpS_mono (wpS_forRange (I:=λx c st'=>Keep st st'/\c.1=none/\Zc4 R a b (x+1) c.1 c.2.2.2.1 c.2.1 c.2.2.1) (Q:=λc st'=>Keep st st'/\∃r,c.1=some r/\MRes R a.toList b.toList r.toList) ?_ ?_ ⟨.refl _,rfl,.inr ⟨rfl,h1,by show 0<a.size-1;lia,by show 1<b.size;lia,by show a.size-1+b.size+(0+1)<=_;lia⟩⟩) ?_)
 .rintro x ⟨r,i,j,o,mg⟩ st' _ _ ⟨kp,er,g⟩;let er:r=none:=er;subst er;rcases g with⟨z,ez,_⟩|⟨_,g1,g2,g3,g4⟩
  .cases ez
  .unfold hiH;refine wpS_bind (Zm9 HL L (kp.1.trans hst) g1 g2 g3 g4 λr o i j ac bc gg=>?_);rcases gg with⟨z,rfl,hz⟩|⟨rfl,f1,f2,f3,f4⟩
   .exact wpS_pure ⟨kp,z,rfl,hz⟩
   .refine wpS_bind (wpS_lift (Eb ⟨rfl,?_⟩));refine wpS_bind (Zna HL L (kp.1.trans hst) f1 f2 f3 f4 λr o i j mg' ac bc st'' k2 gg=>?_);rcases gg with⟨z,rfl,hz⟩|⟨rfl,d1,d2,d3,d4⟩
    .exact wpS_pure ⟨kp.trans k2,z,rfl,hz⟩
    .dsimp only;rw[Xc];exact wpS_bind (wpS_modify (wpS_pure ⟨(kp.trans k2).trans (Keep.gal _ _),rfl,.inr ⟨rfl,d1,d2,d3,d4⟩⟩))
 .rintro⟨r,i,j,o,mg⟩ st' ⟨kp,er,g⟩;rcases g with⟨z,ez,hz⟩|⟨_,g1,g2,g3,g4⟩
  .exists kp,z,ez,hz
  .let g2:0<i:=g2;let g3:1<j:=g3;let g4:i+j+(max 0 (a.size+b.size)+1)<=a.size+b.size:=g4;lia
 .rintro⟨r,i,j,o,mg⟩ st' ⟨kp,z,ez,hz⟩;let ez:r=some z:=ez;subst ez;exact wpS_pure (q _ _ kp hz)
end
def Zcg(i:Nat):mergeAt' i=(do
 let s <-get
 let(some (sa,na,power),some (sb,nb,_)):=((pendingOf s)[i]?,(pendingOf s)[i+1]?)|unsupported "internal:list.sort.pending"
 set (setPending s (((pendingOf s).setIfInBounds i (sa,na+nb,power)).eraseIdxIfInBounds (i+1)))
 let some k <-Wh false (<-elem' (arrOf s) sb) (arrOf s) sa na 0|return false
 let(sa,na):=(sa+k,na-k)
 if na==0 then return true
 let some nb <-Wh true (<-elem' (arrOf s) (sa+na-1)) (arrOf s) sb nb (nb-1)|return false
 if nb==0 then return true
 let x:=(arrOf s).extract sa sb
 let y:=(arrOf s).extract sb (sb+nb)
 let merged <-if na<=nb then P5 x y else P6 x y
 modify λs=>setArr s (merged.toList.zipIdx.foldl (λa(p,j)=>a.setIfInBounds (sa+j) p) (arrOf s))
 return(failedOf (<-get)).isNone):=rfl
theorem Zd2:∀(l:List Keyed)(n o:Nat)(arr:Array Keyed)(P W T:List Keyed),arr.toList=P++W++T->P.length=o+n->W.length=l.length->((l.zipIdx n).foldl (λa(x:Keyed×Nat)=>a.setIfInBounds (o+x.2) x.1) arr).toList=P++l++T
 |[],n,o,arr,P,W,T,e,hP,hW=>by
  let:W=[]:=Bq.mp hW;subst this;exact e
 |x::l,n,o,arr,P,[],T,e,hP,hW=>by cases hW
 |x::l,n,o,arr,P,w::W,T,e,hP,hW=>by
  rw[List.zipIdx_cons,List.foldl_cons];let e1:(arr.setIfInBounds (o+n) x).toList=(P++[x])++W++T:=by
   rw[Array.toList_setIfInBounds,e,<-hP,Jn,Fc _ _ (Jd _),B5];simp
  let:=Zd2 l (n+1) o _ (P++[x]) W T e1 (by rw[Jc,hP];rfl) (Nat.succ.inj hW);rw[this];simp
section
variable{M:Jet}{κ:SortKind}{S:Keyed->Prop}{R:Keyed->Int}
theorem Rg{arr:Array Keyed}{P X T:List Keyed}(e:arr.toList=P++X++T){i:Nat}(hi:i<X.length):arr[P.length+i]?=some X[i]:=by
 rw[<-Jr,e,Jn,J8 (),B3,Js hi,Jb hi]
def Zgh{arr:Array Keyed}{P X T:List Keyed}(e:arr.toList=P++X++T){o n:Nat}(ho:P.length=o)(hn:o+X.length=n):(arr.extract o n).toList=X:=by
 rw[Fj,e];show((P++X++T).drop o).take (n-o)=X;rw[<-ho,Jn,List.drop_left,<-hn,ho,B3,Bw]
theorem Zif(HL:LtS M A E s κ S R){key:Keyed}{arr:Array Keyed}{P X T:List Keyed}{o n:Nat}{st:SortSt}{Q:Option Nat->SortSt->Prop}(e:arr.toList=P++X++T)(ho:P.length=o)(hn:X.length=n)(hk:S key)(hst:kindOf st=κ)(sS:∀x∈X,S x)(u:Up R X)(dj:∀x∈X,R x≠R key)(hh:hint<n)(h:∀k,k<=n->(∀x∈X.take k,R x<R key)->(∀x∈X.drop k,R key<R x)->Q (some k) st):wpS M A E s (Wh left key arr o n hint) Q st:=by
 subst ho;subst hn;refine Tz HL hk hst hh (λi hi=>⟨X[i],Rg e hi,sS _ (Ju hi),dj _ (Ju hi)⟩) (λi j x y hij hj hx hy=>?_) λk hkn h1 h2=>h k hkn (λx hx=>?_) λx hx=>?_
 .rw[Rg e ()]at hx;rw[Rg e hj]at hy;cases hx;cases hy;exact(Gp.mp u) i j () hj hij
 .let⟨i,hi,ex⟩:=Gg hx;rw[Jv]at hi;rw[Bg]at ex;exact h1 i x () (by rw[Rg e (),ex])
 .let⟨i,hi,ex⟩:=Gg hx;rw[Ga]at hi;rw[Fk]at ex;exact h2 (k+i) x () () (by rw[Rg e (),ex])
def Ztk{X:List Keyed}(u:Up R X)(h:0<X.length):∀x∈X,R X[0]<=R x:=λx hx=>by
 let:=Rc u (i:=0) (Jb h) x (by rw[F5];exact hx);exact this
theorem Ztj{X:List Keyed}(u:Up R X)(h:0<X.length):∀x∈X,R x<=R (X[X.length-1]'()):=λx hx=>U9 u h (Jb ()) x (by rw[Gd];exact hx)
theorem Zbr(HL:LtS M A E s κ S R){st:SortSt}{i sa pw sb pw2:Nat}{P X Y T:List Keyed}{Q:Bool->SortSt->Prop}(hp1:(pendingOf st)[i]?=some (sa,na,pw))(hp2:(pendingOf st)[i+1]?=some (sb,nb,pw2))(e:(arrOf st).toList=P++X++Y++T)(lP:P.length=sa)(lX:X.length=na)(lY:Y.length=nb)(hb:sb=sa+na)(hna:0<na)(hnb:0<nb)(uX:Up R X)(uY:Up R Y)(sX:∀x∈X,S x)(sY:∀x∈Y,S x)(dj:∀x∈X,∀y∈Y,R x≠R y)(hst:kindOf st=κ)(hf:failedOf st=none)(q:∀st' Z,kindOf st'=κ->failedOf st'=none->pendingOf st'=((pendingOf st).setIfInBounds i (sa,na+nb,pw)).eraseIdxIfInBounds (i+1)->(arrOf st').toList=P++Z++T->Z.Perm (X++Y)->Up R Z->Q true st'):wpS M A E s (mergeAt' i) Q st:=by
 rw[Zcg];refine wpS_bind (wpS_get ?_);rw[hp1,hp2];dsimp only;generalize eP:((pendingOf st).setIfInBounds i (sa,na+nb,pw)).eraseIdxIfInBounds (i+1)=pn at q;let hx0:0<X.length:=by lia
 let hy0:0<Y.length:=by lia
 let eX:(arrOf st).toList=P++X++(Y++T):=by rw[e];simp
 let eY:(arrOf st).toList=(P++X)++Y++T:=e;let lPX:(P++X).length=sb:=by rw[Jc,lP,lX,hb]
 let aY:(arrOf st)[sb]?=some Y[0]:=by
  let:=Rg eY hy0;rw[lPX,Nat.add_zero]at this;exact this
 let aX:(arrOf st)[sb-1]?=some (X[X.length-1]'()):=by
  let:=Rg eX (i:=X.length-1) ();rw[<-this]
  congr 1
  lia
 refine wpS_bind ?_;show wpS M A E s (set _) _ st;let wset:∀{st1:SortSt}{Q:PUnit->SortSt->Prop},Q ⟨⟩ st1->wpS M A E s (set st1:StateT SortSt Sem PUnit) Q st:=λ{st1 Q}h=>by
  unfold wpS;rw[StateT.run_set];exact Dn ⟨rfl,h⟩
 refine wset ?_;let whole:Up R (X++Y)->Q true (setPending st pn):=λu=>q (setPending st pn) (X++Y) hst hf rfl (by rw[show(arrOf (setPending st pn)).toList=(arrOf st).toList from rfl,e];simp) (.refl _) u;refine wpS_bind (Ya aY (wpS_bind (Zif HL eX lP lX (sY _ (Ju hy0)) hst sX uX (λx hx=>dj x hx _ (Ju hy0)) hna λk hk h1 h2=>?_)));dsimp only;let hd:=Ztk uY hy0;let ls:=Ztj uX hx0
 by_cases e0:(na-k==0)=true
 .rw[Dt e0];let ek:na-k=0:=by simpa using e0
  refine wpS_pure (whole (Yy.mpr ⟨uX,uY,λx hx y hy=>?_⟩));let:=h1 x (by rw[Gr ()];exact hx);let:=hd y hy;lia
 rw[Ds e0];let nk:¬ na-k=0:=by simpa using e0
 rw[show sa+k+(na-k)-1=sb-1 by lia];refine wpS_bind (Ya aX (wpS_bind (Zif HL eY lPX lY (sX _ (Ju _)) hst sY uY (λy hy z=>dj _ (Ju _) y hy z.symm) () λm hm g1 g2=>?_)));dsimp only
 by_cases e1:(m==0)=true
 .rw[Dt e1];let em:m=0:=by simpa using e1
  subst em;refine wpS_pure (whole (Yy.mpr ⟨uX,uY,λx hx y hy=>?_⟩));let:=g2 y hy;let:=ls x hx;lia
 rw[Ds e1];let nm:¬ m=0:=by simpa using e1
 let eXs:X=X.take k++X.drop k:=(Jx _ _).symm;let eYs:Y=Y.take m++Y.drop m:=(Jx _ _).symm;let e5:(arrOf st).toList=(P++X.take k)++X.drop k++(Y++T):=by rw[eX];simp
 let eYT:Y++T=Y.take m++(Y.drop m++T):=by rw[<-Jn,Jx]
 let e6:(arrOf st).toList=(P++X)++Y.take m++(Y.drop m++T):=by rw[eX,eYT];simp only[Jn]
 let lPk:(P++X.take k).length=sa+k:=by rw[Jc,Jv];lia
 let ex:((arrOf st).extract (sa+k) sb).toList=X.drop k:=Zgh e5 lPk (by rw[Ga];lia);let ey:((arrOf st).extract sb (sb+m)).toList=Y.take m:=Zgh e6 lPX (by rw[Jv];lia);let sx:((arrOf st).extract (sa+k) sb).size=X.length-k:=by rw[<-Jj,ex,Ga]
 let sy:((arrOf st).extract sb (sb+m)).size=m:=by rw[<-Jj,ey,Jv];lia
 let lastX:(X.drop k)[X.length-k-1]?=some (X[X.length-1]'()):=by
  rw[List.getElem?_drop,Jb ()]
  congr 2
  lia
 let firstY:(Y.take m)[0]?=some Y[0]:=by
  rw[Ht (),Jb hy0]
 let fin:∀(r:Array Keyed)(st':SortSt),Keep (setPending st pn) st'->MRes R (X.drop k) (Y.take m) r.toList->wpS M A E s (do
   modify λs=>setArr s (r.toList.zipIdx.foldl (λa(p,j)=>a.setIfInBounds (sa+k+j) p) (arrOf s))
   return(failedOf (<-get)).isNone) Q st':=λr st' kp⟨rp,ru⟩=>by
  refine wpS_bind (wpS_modify (wpS_bind (wpS_get (wpS_pure ?_))));rw[show failedOf (setArr st' _)=failedOf st' from rfl,kp.2.2.2,show failedOf (setPending st pn)=failedOf st from rfl,hf];let ea:(arrOf st').toList=(P++X.take k)++(X.drop k++Y.take m)++(Y.drop m++T):=by
   rw[kp.2.1,show arrOf (setPending st pn)=arrOf st from rfl,e5,eYT];simp only[Jn]
  let lb:=Zd2 r.toList 0 (sa+k) (arrOf st') (P++X.take k) (X.drop k++Y.take m) (Y.drop m++T) ea lPk rp.length_eq.symm;refine q _ (X.take k++r.toList++Y.drop m) (kp.1.trans hst) (by rw[show failedOf (setArr st' _)=failedOf st' from rfl,kp.2.2.2];exact hf) (by rw[show pendingOf (setArr st' _)=pendingOf st' from rfl,kp.2.2.1]) ?_ ?_ ?_
  .refine Eq.trans lb ?_;simp
  .refine((rp.append_left _).append_right _).trans ?_;rw[<-Jn,Jx,Jn,Jx]
  .let mem:∀z∈r.toList,z∈X.drop k\/z∈Y.take m:=λz hz=>Jw.mp (rp.mem_iff.mp hz);refine Yy.mpr ⟨Yy.mpr ⟨uX.sublist (Bt _ _),ru,λx hx z hz=>?_⟩,uY.sublist (Fi _ _),λx hx y hy=>?_⟩
   .let l1:=h1 x hx;rcases mem z hz with q'|q'
    .let:=h2 z q';lia
    .let:=hd z (Gs q');lia
   .let l2:=g2 y hy;rcases Jw.mp hx with q'|q'
    .let:=ls x (Gs q');lia
    .rcases mem x q' with q'|q'
     .let:=ls x (G3 q');lia
     .let:=g1 x q';lia
 let dj2:∀x∈X.drop k,∀y∈Y.take m,R x≠R y:=λx hx y hy=>dj x (G3 hx) y (Gs hy)
 split
 .refine wpS_bind (Zbp HL ⟨λx hx=>sX x (G3 (by rwa [ex]at hx)),λx hx=>sY x (Gs (by rwa [ey]at hx)),by rw[ex];exact uX.sublist (Fi _ _),by rw[ey];exact uY.sublist (Bt _ _),by rw[ex,ey];exact dj2,λx hx y hy=>?_⟩ hst () () (λp hp x hx=>?_) λr st' kp hr=>fin r st' kp (by rw[ex,ey]at hr;exact hr))
  .rw[ex,sx,lastX]at hx;cases hx;rw[ey]at hy;exact g1 y hy
  .rw[<-Jr,ey,firstY]at hp;cases hp;rw[ex]at hx;exact h2 x hx
 .refine wpS_bind (Zbq HL ⟨λx hx=>sX x (G3 (by rwa [ex]at hx)),λx hx=>sY x (Gs (by rwa [ey]at hx)),by rw[ex];exact uX.sublist (Fi _ _),by rw[ey];exact uY.sublist (Bt _ _),by rw[ex,ey];exact dj2,λy hy x hx=>?_⟩ hst () () (λp hp x hx=>?_) λr st' kp hr=>fin r st' kp (by rw[ex,ey]at hr;exact hr))
  .rw[ey,firstY]at hy;cases hy;rw[ex]at hx;exact h2 x hx
  .rw[<-Jr,ex,sx,lastX]at hp;cases hp;rw[ey]at hx;exact g1 x hx
end
section
variable{M:Jet}{κ:SortKind}{S:Keyed->Prop}{R:Keyed->Int}{N:Nat}
def rkA(R:Keyed->Int)(xs:Array Keyed)(i:Nat):Int:=match xs[i]? with|some x=>R x|none=>0
structure B0(κ:SortKind)(S:Keyed->Prop)(R:Keyed->Int)(N:Nat)(st:SortSt):Prop where
 kind:kindOf st=κ
 fail:failedOf st=none
 size:(arrOf st).size=N
 s:∀x∈(arrOf st).toList,S x
 nd:((arrOf st).toList.map R).Nodup
def B0.at{st:SortSt}(B:B0 κ S R N st){i:Nat}(hi:i<N):∃x,(arrOf st)[i]?=some x/\S x/\R x=rkA R (arrOf st) i:=by
 let hi':i<(arrOf st).size:=by rw[B.size];exact hi
 let e:(arrOf st)[i]?=some (arrOf st)[i]:=G1 hi';exists(arrOf st)[i],e,B.s _ (by simp),?_;unfold rkA;rw[e]
theorem B0.ne{st:SortSt}(B:B0 κ S R N st){i:Nat}(hi:i<N)(hj:j<N)(h:i≠j):rkA R (arrOf st) i≠rkA R (arrOf st) j:=λz=>by
 let⟨x,ex,_,rx⟩:=B.at hi;let⟨y,ey,_,ry⟩:=B.at hj;rw[<-rx,<-ry]at z;let sz:=B.size;let li:i<((arrOf st).toList.map R).length:=by simp;lia
 let lj:j<((arrOf st).toList.map R).length:=by simp;lia
 rw[<-Jr]at ex ey;let⟨_,e1⟩:=Je.mp ex;let⟨_,e2⟩:=Je.mp ey;exact h ((G9 (h₀:=li) (h₁:=lj) B.nd).mp (by rw[Be,Be,e1,e2,z]))
def B0.perm{st:SortSt}(B:B0 κ S R N st){xs:Array Keyed}(p:xs.Perm (arrOf st)):B0 κ S R N (setArr st xs):=by
 let pl:=Gq.mp p;exists B.kind,B.fail,by show xs.size=N;rw[<-B.size];exact p.size_eq,λx hx=>B.s x (pl.mem_iff.mp hx),(pl.map R).nodup_iff.mpr B.nd
def Rb(HL:LtS M A E s κ S R){st:SortSt}{i:Nat}{Q:Option Bool->SortSt->Prop}(B:B0 κ S R N st)(hi:i<N)(hj:j<N)(h:Q (some (decide (rkA R (arrOf st) i<rkA R (arrOf st) j))) st):wpS M A E s (ltAt' i j) Q st:=by
 let⟨x,ex,sx,rx⟩:=B.at hi;let⟨y,ey,sy,ry⟩:=B.at hj;rw[ltAt'_eq];refine wpS_bind (wpS_get (wpS_bind (Ya ex (wpS_bind (Ya ey (HL _ _ _ _ sx sy B.kind ?_))))));rw[rx,ry];exact h
def Uh(R:Keyed->Int)(xs:Array Keyed)(lo n:Nat):Prop:=∀i j,lo<=i->i<j->j<lo+n->rkA R xs i<rkA R xs j
theorem Uh.more{xs:Array Keyed}{lo n:Nat}(h:Uh R xs lo n)(h1:1<=n)(l:rkA R xs (lo+n-1)<rkA R xs (lo+n)):Uh R xs lo (n+1):=λi j hi hij hj=>by
 rcases Fh j (lo+n)with z|z
 .exact h i j hi hij z
 .let:j=lo+n:=by lia
  subst this;rcases Fh i (lo+n-1)with y|y
  .exact Int.lt_trans (h i (lo+n-1) hi y ()) l
  .let:i=lo+n-1:=by lia
   subst this;exact l
theorem Zei(HL:LtS M A E s κ S R){st:SortSt}{lo nrem a:Nat}{Q:Option (Option Nat)×Nat->SortSt->Prop}(B:B0 κ S R N st)(hN:lo+nrem=N)(h1:1<=a)(ha:a<=nrem)(su:Uh R (arrOf st) lo a)(q:∀n,a<=n->n<=nrem->Uh R (arrOf st) lo n->(n=nrem\/(n<nrem/\rkA R (arrOf st) (lo+n)<rkA R (arrOf st) (lo+n-1)))->Q (none,n) st) :
  wpS M A E s (forIn [a:nrem] ((none,a):Option (Option Nat)×Nat) λ_ __s=>do
   let __x <-ltAt' (lo+__s.snd) (lo+__s.snd-1)
   match __x with
   |some smaller=>if smaller=true then pure (ForInStep.done (none,__s.snd))else pure (C3 (none,__s.snd+1))
   |_=>pure (ForInStep.done (some none,__s.snd))) Q st:=by
 refine wpS_forRange (I:=λx c st'=>st'=st/\∃n,c=(none,n)/\n=x/\Uh R (arrOf st) lo n) ?_ ?_ ⟨rfl,a,rfl,rfl,su⟩
 .rintro x c st' hx hx2 ⟨rfl,n,rfl,rfl,su⟩;dsimp only;refine wpS_bind (Rb HL B () () ?_)
  by_cases l:rkA R (arrOf st') (lo+n)<rkA R (arrOf st') (lo+n-1)
  .simp only[l,decide_true,if_true];exact wpS_pure (q n hx () su (.inr ⟨hx2,l⟩))
  .simp only[l,decide_false,Jy,if_false];let ne:=B.ne (i:=lo+n) (j:=lo+n-1) () () ();exact wpS_pure ⟨rfl,_,rfl,rfl,su.more () ()⟩
 .rintro c st' ⟨rfl,n,rfl,e,su⟩;exact q n () () su (.inl ())
def Zgs{xs:Array Keyed}{i:Nat}(hj:j<=xs.size)(k:Nat):rkA R (mirror xs i j ((j-i) / 2)) k=if i<=k/\k<j then rkA R xs (i+j-1-k)else rkA R xs k:=by
 unfold rkA;rw[getElem?_mirror_all hj]
 by_cases h:i<=k/\k<j
 .rw[Dt h,Dt h]
 .rw[Ds h,Ds h]
theorem Nz(HL:LtS M A E s κ S R){st:SortSt}{lo nrem:Nat}{Q:Option Nat->SortSt->Prop}(B:B0 κ S R N st)(hN:lo+nrem=N)(h1:1<=nrem)(q:∀xs n,1<=n->n<=nrem->xs.Perm (arrOf st)->(∀k,k<lo->xs[k]?=(arrOf st)[k]?)->Uh R xs lo n->Q (some n) (setArr st xs)):wpS M A E s (countRun' lo nrem) Q st:=by
 rw[countRun'_eq];dsimp only;let q0:∀n,1<=n->n<=nrem->Uh R (arrOf st) lo n->Q (some n) st:=λn a1 a2 a3=>q (arrOf st) n a1 a2 (Array.Perm.refl _) (λ_ _=>rfl) a3;refine wpS_bind (wpS_mono (Zei HL B hN (Jd 1) h1 (λi j hi hij hj=>absurd hj ()) (Q:=λc st'=>st'=st/\∃n,c=(none,n)/\1<=n/\n<=nrem/\Uh R (arrOf st) lo n/\(n=nrem\/(n<nrem/\rkA R (arrOf st) (lo+n)<rkA R (arrOf st) (lo+n-1)))) λn a1 a2 a3 a4=>⟨rfl,n,rfl,a1,a2,a3,a4⟩) ?_);rintro c st' ⟨rfl,n,rfl,a1,a2,a3,a4⟩;dsimp only
 by_cases e:(n==nrem)=true
 .rw[Dt e];exact wpS_pure (q0 n a1 a2 a3)
 rw[Ds e];let ne:¬ n=nrem:=by simpa using e
 let lt4:=(a4.resolve_left ne).2
 by_cases n1:n > 1
 .rw[Dt n1];refine wpS_bind (Rb HL B () () ?_);rw[Du (a3 lo (lo+n-1) (Jd _) () ())];exact wpS_pure (q0 n a1 a2 a3)
 rw[Ds n1];let e1:n=1:=by lia
 subst e1;refine wpS_bind (wpS_lift (Eb ⟨rfl,?_⟩));refine wpS_bind (wpS_mono (wpS_forRange (I:=λx c st''=>st''=st'/\c=(none,x,0)/\∀i j,lo<=i->i<j->j<lo+x->rkA R (arrOf st') j<rkA R (arrOf st') i) (Q:=λc st''=>st''=st'/\∃n,c=(none,n,0)/\2<=n/\n<=nrem/\∀i j,lo<=i->i<j->j<lo+n->rkA R (arrOf st') j<rkA R (arrOf st') i) ?step ?fin ?init) ?post)
 case init =>
  exists rfl,rfl,λi j hi hij hj=>?_;let:i=lo:=by lia
  let:j=lo+1:=by lia
  subst i;subst j;exact lt4
 case fin =>
  rintro c st'' ⟨rfl,rfl,hd⟩;exists rfl,·,(),(),hd
 case step =>
  rintro x c st'' hx hx2 ⟨rfl,rfl,hd⟩;dsimp only;refine wpS_bind (Rb HL B () () ?_)
  by_cases l:rkA R (arrOf st'') (lo+x)<rkA R (arrOf st'') (lo+x-1)
  .simp only[l,decide_true,if_true,Bi,gt_iff_lt,if_false];refine wpS_pure ⟨rfl,rfl,λi j hi hij hj=>?_⟩;rcases Fh j (lo+x)with z|z
   .exact hd i j hi hij z
   .let:j=lo+x:=by lia
    subst this;rcases Fh i (lo+x-1)with y|y
    .exact Int.lt_trans l (hd i (lo+x-1) hi y ())
    .let:i=lo+x-1:=by lia
     subst this;exact l
  .simp only[l,decide_false,Jy,if_false];let ne:=B.ne (i:=lo+x) (j:=lo+x-1) () () ();refine wpS_bind (Rb HL B () () ?_);rw[Du (show rkA R (arrOf st'') (lo+x-1)<rkA R (arrOf st'') (lo+x)by lia)];exact wpS_pure ⟨rfl,x,rfl,(),(),hd⟩
 case post =>
  rintro c st'' ⟨rfl,n,rfl,b1,b2,hd⟩;dsimp only;rw[Ds nofun,reverseSlice'_eq];refine wpS_bind (wpS_modify ?_);let sz:=B.size;let Bm:=B.perm (mirror_perm (arrOf st'') lo (lo+n) ((lo+n-lo) / 2));let rm:=λk=>Zgs (R:=R) (xs:=arrOf st'') (i:=lo) (j:=lo+n) () k;let low:∀k,k<lo->(mirror (arrOf st'') lo (lo+n) ((lo+n-lo) / 2))[k]?=(arrOf st'')[k]?:=λk hk=>by
   rw[getElem?_mirror_all (),Ds ()]
  let pm:=mirror_perm (arrOf st'') lo (lo+n) ((lo+n-lo) / 2);generalize mirror (arrOf st'') lo (lo+n) ((lo+n-lo) / 2)=xs at Bm rm low pm;let su:Uh R xs lo n:=λi j hi hij hj=>by
   rw[rm,rm,Dt (),Dt ()];exact hd _ _ () () ()
  refine wpS_bind (wpS_mono (Zei HL Bm hN () b2 su (Q:=λc st3=>st3=setArr st'' xs/\∃n,c=(none,n)/\1<=n/\n<=nrem/\Uh R xs lo n) λn a1 a2 a3 a4=>⟨rfl,n,rfl,(),a2,a3⟩) ?_);rintro c st3 ⟨rfl,n',rfl,c1,c2,c3⟩;exact wpS_pure (q xs n' c1 c2 pm low c3)
def Zgt{xs:Array Keyed}{src d:Nat}(hs:src<xs.size)(hd:d<=src)(k:Nat):rkA R (bubble xs src d) k=if k=src-d then rkA R xs src else if src-d<k/\k<=src then rkA R xs (k-1)else rkA R xs k:=by
 unfold rkA;rw[getElem?_bubble hs d hd]
 by_cases h:k=src-d
 .rw[Dt h,Dt h]
 .rw[Ds h,Ds h]
  by_cases h2:src-d<k/\k<=src
  .rw[Dt h2,Dt h2]
  .rw[Ds h2,Ds h2]
theorem Zek(HL:LtS M A E s κ S R){st:SortSt}{lo n ok:Nat}{Q:Bool->SortSt->Prop}(B:B0 κ S R N st)(hN:lo+n<=N)(h1:1<=n)(hok:ok<=n)(su:Uh R (arrOf st) lo ok)(q:∀xs,xs.Perm (arrOf st)->(∀k,k<lo->xs[k]?=(arrOf st)[k]?)->Uh R xs lo n->Q true (setArr st xs)):wpS M A E s (binarySort' lo n ok) Q st:=by
 rw[binarySort'_eq];refine wpS_bind (wpS_mono (wpS_forRange (I:=λk c st'=>c=(none,PUnit.unit)/\∃xs,st'=setArr st xs/\xs.Perm (arrOf st)/\(∀k,k<lo->xs[k]?=(arrOf st)[k]?)/\Uh R xs lo (min k n)) (Q:=λc st'=>c=(none,PUnit.unit)/\∃xs,st'=setArr st xs/\xs.Perm (arrOf st)/\(∀k,k<lo->xs[k]?=(arrOf st)[k]?)/\Uh R xs lo n) ?step ?fin ?init) ?post)
 case init =>
  exists rfl,arrOf st,rfl,Array.Perm.refl _,λ_ _=>rfl,λi j hi hij hj=>?_
  by_cases z:ok=0
  .lia
  .exact su i j hi hij ()
 case fin =>
  rintro c st' ⟨rfl,xs,rfl,p,lw,su⟩;rw[show min (max (max ok 1) n) n=n by lia]at su;exists rfl,xs,rfl,p,lw,su
 case post =>
  rintro c st' ⟨rfl,xs,rfl,p,lw,su⟩;exact wpS_pure (q xs p lw su)
 case step =>
  rintro k c st' hk hkn ⟨rfl,xs,rfl,p,lw,su⟩;rw[show min k n=k by lia]at su;let B':=B.perm p;let sz:xs.size=N:=B'.size;refine wpS_bind (wpS_mono (wpS_forRange (I:=λx c st''=>st''=setArr st xs/\∃l r,c=(none,l,r)/\l<=r/\r<=k/\r-l<=k-x/\(∀i,i<l->rkA R xs (lo+i)<rkA R xs (lo+k))/\∀i,r<=i->i<k->rkA R xs (lo+k)<rkA R xs (lo+i)) (Q:=λc st''=>st''=setArr st xs/\∃l,c=(none,l,l)/\l<=k/\(∀i,i<l->rkA R xs (lo+i)<rkA R xs (lo+k))/\∀i,l<=i->i<k->rkA R xs (lo+k)<rkA R xs (lo+i)) ?istep ?ifin ?iinit) ?ipost)
  case iinit=>exact⟨rfl,0,k,rfl,Gc _,Jd _,Jd _,λi hi=>absurd hi (G5 _),λi a b=>by lia⟩
  case ifin =>
   rintro c st'' ⟨rfl,l,r,rfl,a1,a2,a3,a4,a5⟩;let:l=r:=by lia
   subst this;exists rfl,l,rfl,a2,a4,a5
  case istep =>
   rintro x c st'' _ hx ⟨rfl,l,r,rfl,a1,a2,a3,a4,a5⟩;dsimp only
   by_cases hge:l≥r
   .rw[Dt hge];let:l=r:=by lia
    subst this;exact wpS_pure ⟨rfl,l,rfl,a2,a4,a5⟩
   .rw[Ds hge];refine wpS_bind (Rb HL B' () () ?_)
    by_cases l2:rkA R xs (lo+k)<rkA R xs (lo+(l+r) / 2)
    .simp only[l2,decide_true,if_true];refine wpS_pure ⟨rfl,l,(l+r) / 2,rfl,(),(),(),a4,λi b1 b2=>?_⟩;rcases Fh ((l+r) / 2) i with z|z
     .exact Int.lt_trans l2 (su _ _ () () ())
     .let:i=(l+r) / 2:=by lia
      subst this;exact l2
    .simp only[l2,decide_false,Jy,if_false];let ne:=B'.ne (i:=lo+k) (j:=lo+(l+r) / 2) () () ();let l3:rkA R xs (lo+(l+r) / 2)<rkA R xs (lo+k):=by
      let ne:rkA R xs (lo+k)≠rkA R xs (lo+(l+r) / 2):=ne;lia
     refine wpS_pure ⟨rfl,(l+r) / 2+1,r,rfl,(),(),(),λi b1=>?_,a5⟩;rcases Fh i ((l+r) / 2)with z|z
     .exact Int.lt_trans (su _ _ () () ()) l3
     .let:i=(l+r) / 2:=by lia
      subst this;exact l3
  case ipost =>
   rintro c st'' ⟨rfl,l,rfl,a2,a4,a5⟩;show wpS _ _ _ _ (do moveDown' (lo+k) (lo+l);pure (C3 (none,PUnit.unit))) _ _;rw[moveDown'_eq];let rb:=λi=>Zgt (R:=R) (xs:=xs) (src:=lo+k) (d:=lo+k-(lo+l)) () () i;refine wpS_bind (wpS_modify (wpS_pure ⟨rfl,bubble xs (lo+k) (lo+k-(lo+l)),rfl,(bubble_perm _ _ _).trans p,λi hi=>?_,?_⟩))
   .rw[getElem?_bubble () _ (),Ds (),Ds ()];exact lw i hi
   .rw[show min (k+1) n=k+1 by lia];intro i j hi hij hj;rw[rb,rb,show lo+k-(lo+k-(lo+l))=lo+l by lia];let s1:∀i,lo<=i->i<lo+l->rkA R xs i<rkA R xs (lo+k):=λi h1 h2=>by have:=a4 (i-lo) ();rwa [show lo+(i-lo)=i by lia]at this
    let s2:∀i,lo+l<=i->i<lo+k->rkA R xs (lo+k)<rkA R xs i:=λi h1 h2=>by have:=a5 (i-lo) () ();rwa [show lo+(i-lo)=i by lia]at this
    repeat' split
    all_goals first
     |(exfalso;lia)
     |exact s1 _ () ()
     |exact s2 _ () ()
     |exact su _ _ () () ()
end
section
variable{M:Jet}{κ:SortKind}{S:Keyed->Prop}{R:Keyed->Int}{N:Nat}{a₀:Array Keyed}
def Pd:Nat->List (List Keyed)->List (Nat×Nat×Nat)->Prop
 |_,[],[]=>True
 |o,g::gs,p::ps=>p.1=o/\p.2.1=g.length/\Pd (o+g.length) gs ps
 |_,_,_=>False
theorem Pd.len:∀{o:Nat}{gs:List (List Keyed)}{ps:List (Nat×Nat×Nat)},Pd o gs ps->ps.length=gs.length
 |_,[],[],_=>rfl
 |_,_::_,_::_,h=>congrArg (· + 1) (Pd.len h.2.2)
 |_,[],_::_,h=>h.elim
 |_,_::_,[],h=>h.elim
theorem Zme:∀{o:Nat}{gs hs:List (List Keyed)}{ps:List (Nat×Nat×Nat)},Pd o (gs++hs) ps->∃p1 p2,ps=p1++p2/\Pd o gs p1/\Pd (o+gs.flatten.length) hs p2
 |_,[],_,ps,h=>⟨[],ps,rfl,trivial,by simpa using h⟩
 |_,_::_,_,[],h=>h.elim
 |o,g::gs,hs,p::ps,h=>by
  let⟨p1,p2,e,h1,h2⟩:=Zme (gs:=gs) (hs:=hs) h.2.2;exists p::p1,p2,by rw[e];rfl,⟨h.1,h.2.1,h1⟩,?_;rw[Bc,Jc,<-Fm];exact h2
theorem Zb8:∀{o:Nat}{gs hs:List (List Keyed)}{p1 p2:List (Nat×Nat×Nat)},Pd o gs p1->Pd (o+gs.flatten.length) hs p2->Pd o (gs++hs) (p1++p2)
 |_,[],_,[],_,_,h=>by simpa using h
 |_,[],_,_::_,_,h,_=>h.elim
 |_,_::_,_,[],_,h,_=>h.elim
 |o,g::gs,hs,p::p1,p2,h1,h2=>by
  rw[Bc,Jc,<-Fm]at h2;exists h1.1,h1.2.1,Zb8 h1.2.2 h2
theorem Zmd{pw:Nat}:∀{o i:Nat}{gs:List (List Keyed)}{ps:List (Nat×Nat×Nat)},Pd o gs ps->Pd o gs (ps.modify i λx=>(x.1,x.2.1,pw))
 |_,_,[],[],h=>by simpa using h
 |_,0,g::gs,p::ps,h=>by
  rw[List.modify_zero_cons];exact h
 |_,i+1,g::gs,p::ps,h=>by
  rw[List.modify_succ_cons];exists h.1,h.2.1,Zmd h.2.2
 |_,_,[],_::_,h=>h.elim
 |_,_,_::_,[],h=>h.elim
structure TmS(κ:SortKind)(R:Keyed->Int)(a₀:Array Keyed)(st:SortSt)(gs:List (List Keyed))(rest:List Keyed):Prop where
 kind:kindOf st=κ
 fail:failedOf st=none
 perm:(arrOf st).toList.Perm a₀.toList
 arr:(arrOf st).toList=gs.flatten++rest
 up:∀g∈gs,g≠[]/\Up R g
 pend:Pd 0 gs (pendingOf st).toList
variable{gs:List (List Keyed)}{rest:List Keyed}
def TmS.size{st:SortSt}(T:TmS κ R a₀ st gs rest):(arrOf st).size=a₀.size:=by
 let:=T.perm.length_eq;simpa using this
def TmS.len{st:SortSt}(T:TmS κ R a₀ st gs rest):gs.flatten.length+rest.length=a₀.size:=by
 rw[<-Jc,<-T.arr,Jj,T.size]
def TmS.b0{st:SortSt}(T:TmS κ R a₀ st gs rest)(hS:∀x∈a₀.toList,S x)(nd:(a₀.toList.map R).Nodup):B0 κ S R a₀.size st :=
 ⟨T.kind,T.fail,T.size,λx hx=>hS x (T.perm.mem_iff.mp hx),(T.perm.map R).nodup_iff.mpr nd⟩
theorem Zml:∀{gs:List (List Keyed)},(∀g∈gs,g≠[]/\Up R g)->gs.length<=gs.flatten.length
 |[],_=>Jd _
 |g::gs,h=>by
  let:=Zml λg hg=>h g (Jg _ hg);let:=Gh.mpr (h g Ji).1;rw[Bc,Jc,J0];lia
theorem TmS.merge(HL:LtS M A E s κ S R)(hS:∀x∈a₀.toList,S x)(nd:(a₀.toList.map R).Nodup){st:SortSt}{i:Nat}{Q:Bool->SortSt->Prop}(T:TmS κ R a₀ st gs rest)(hi:i+1<gs.length)(q:∀st' hs,TmS κ R a₀ st' hs rest->hs.length+1=gs.length->hs.flatten.length=gs.flatten.length->Q true st'):wpS M A E s (mergeAt' i) Q st:=by
 let eg:gs=gs.take i++gs[i]::gs[i+1]::gs.drop (i+2):=by
  rw[<-G6,<-G6,Jx]
 let lG:(gs.take i).length=i:=by rw[Jv];lia
 generalize gs.take i=G at eg lG;generalize gs[i]=X at eg;generalize gs[i+1]=Y at eg;generalize gs.drop (i+2)=H at eg;subst eg;let⟨p1,p2,ep,h1,h2⟩:=Zme T.pend
 match p2,h2 with
 |[],h2=>exact h2.elim
 |[_],h2=>exact h2.2.2.elim
 |(sa,na,pw)::(sb,nb,pw2)::pH,⟨ea,en,eb,em,h3⟩ =>
 let ea:sa=0+G.flatten.length:=ea;let en:na=X.length:=en;let eb:sb=0+G.flatten.length+X.length:=eb;let em:nb=Y.length:=em;let l1:p1.length=i:=h1.len.trans lG;let hX:=T.up X (by simp);let hY:=T.up Y (by simp);let arr:(arrOf st).toList=G.flatten++X++Y++(H.flatten++rest):=by
  rw[T.arr];simp
 let mem:∀x∈X,x∈(arrOf st).toList:=λx hx=>by rw[arr];simp[hx]
 let memY:∀x∈Y,x∈(arrOf st).toList:=λx hx=>by rw[arr];simp[hx]
 let nd2:((arrOf st).toList.map R).Nodup:=(T.perm.map R).nodup_iff.mpr nd;let dj:∀x∈X,∀y∈Y,R x≠R y:=λx hx y hy z=>by
  rw[arr,show G.flatten++X++Y++(H.flatten++rest)=G.flatten++((X++Y)++(H.flatten++rest))by simp,Jk,Jk,Jk]at nd2;let n3:=(Bv.mp (Bv.mp nd2).2.1).1;exact(Bv.mp n3).2.2 _ (Bx hx) _ (Bx hy) z
 refine Zbr HL (sa:=sa) (na:=na) (pw:=pw) (sb:=sb) (nb:=nb) (pw2:=pw2) ?_ ?_ arr () en.symm em.symm () (by rw[en];exact Gh.mpr hX.1) (by rw[em];exact Gh.mpr hY.1) hX.2 hY.2 (λx hx=>hS x (T.perm.mem_iff.mp (mem x hx))) (λx hx=>hS x (T.perm.mem_iff.mp (memY x hx))) dj T.kind T.fail ?_
 .rw[<-Jr,ep,J8 (),l1,B5];rfl
 .rw[<-Jr,ep,J8 (),l1,B3];rfl
 .intro st' Z k1 k2 k3 k4 k5 k6;let zl:Z.length=X.length+Y.length:=by rw[k5.length_eq,Jc]
  refine q st' (G++Z::H) ⟨k1,k2,?_,?_,?_,?_⟩ (by simp;lia) (by simp;lia)
  .refine List.Perm.trans ?_ T.perm;rw[k4,arr];refine List.Perm.append_right _ ?_;rw[Jn];exact List.Perm.append_left _ k5
  .rw[k4];simp
  .intro g hg;rcases Jw.mp hg with z|z
   .exact T.up g (Gu _ z)
   .rcases Gi.mp z with rfl|z
    .exists λe0=>hX.1 (Bq.mp (by rw[e0]at zl;simp at zl;lia)),k6
    .exact T.up g (by simp[z])
  .rw[k3];let:(((pendingOf st).setIfInBounds i (sa,na+nb,pw)).eraseIdxIfInBounds (i+1)).toList=p1++(sa,na+nb,pw)::pH:=by
    rw[Array.toList_eraseIdxIfInBounds,Array.toList_setIfInBounds,ep,<-l1];simp[List.eraseIdx_append];intro h;lia
   rw[this];refine Zb8 h1 ⟨ea,?_,?_⟩
   .show na+nb=Z.length;lia
   .rw[zl,<-Fm];exact h3
def Zl6{xs:Array Keyed}{i:Nat}(h:i<xs.toList.length):rkA R xs i=R xs.toList[i]:=by
 unfold rkA;rw[<-Jr,Jb h]
theorem Zl3{xs:Array Keyed}{lo n:Nat}(h:Uh R xs lo n):Up R ((xs.toList.drop lo).take n):=by
 refine Gp.mpr λi j hi hj hij=>?_;let hi':=hi;let hj':=hj;rw[Jv,Ga]at hi' hj';let:=h (lo+i) (lo+j) () () ();rw[Zl6 (),Zl6 ()]at this;rw[Bg,Bg,Fk,Fk];exact this
theorem TmS.move{st:SortSt}{xs:Array Keyed}(T:TmS κ R a₀ st gs rest)(p:xs.Perm (arrOf st))(lw:∀k,k<gs.flatten.length->xs[k]?=(arrOf st)[k]?):TmS κ R a₀ (setArr st xs) gs (xs.toList.drop gs.flatten.length):=by
 exists T.kind,T.fail,(Gq.mp p).trans T.perm,?_,T.up,T.pend;show xs.toList=_;refine(Jx gs.flatten.length xs.toList).symm.trans (congrArg (·++_) ?_);refine Mc λk=>?_;rw[Df]
 by_cases hk:k<gs.flatten.length
 .rw[Dt hk,Jr,lw k hk,<-Jr,T.arr,Js hk]
 .rw[Ds hk,Bh ()]
def Zlq(N lo n:Nat):StateT SortSt Sem (ForInStep (Option Unit×Nat)):=do
 match(pendingOf (<-get)).back? with
 |some (s1,n1,_)=>do
  let __s <-forIn [:N] ((none,PUnit.unit):Option Unit×Unit) λ_ _=>do
   let p:=pendingOf (<-get)
   match(if p.size > 1 then p[p.size-2]? else none)with
   |some (_,_,older) =>
    if older<=power' N (2*s1+n1) (2*s1+n1+n1+n) N then pure (ForInStep.done (none,PUnit.unit))
    else do
     let b <-mergeAt' (p.size-2)
     if(!b)=true then pure (ForInStep.done (some ⟨⟩,⟨⟩))else pure (C3 (none,PUnit.unit))
   |_=>pure (ForInStep.done (none,PUnit.unit))
  match __s.1 with
  |some r=>pure (ForInStep.done (some r,lo))
  |none=>do
   modify λs=>setPending s ((pendingOf s).modify ((pendingOf s).size-1) λx=>(x.1,x.2.1,power' N (2*s1+n1) (2*s1+n1+n1+n) N))
   modify λs=>setPending s ((pendingOf s).push (lo,n,0))
   pure (C3 (none,lo+n))
 |_=>do
  modify λs=>setPending s ((pendingOf s).push (lo,n,0))
  pure (C3 (none,lo+n))
theorem TmS.push{st:SortSt}{n:Nat}(T:TmS κ R a₀ st gs rest)(h1:1<=n)(hn:n<=rest.length)(u:Up R (rest.take n)):TmS κ R a₀ (setPending st ((pendingOf st).push (gs.flatten.length,n,0))) (gs++[rest.take n]) (rest.drop n):=by
 let ln:(rest.take n).length=n:=by rw[Jv];lia
 exists T.kind,T.fail,T.perm,?_,λg hg=>?_,?_
 .refine T.arr.trans ?_;rw[List.flatten_append,Fy,Jn,Jx]
 .rcases Jw.mp hg with z|z
  .exact T.up g z
  .rw[Jf]at z;subst z;exists λe=>by rw[e]at ln;simp at ln;lia,u
 .show Pd 0 _ ((pendingOf st).push _).toList;rw[F3];exact Zb8 T.pend ⟨by simp,ln.symm,trivial⟩
theorem Zfz(HL:LtS M A E s κ S R)(hS:∀x∈a₀.toList,S x)(nd:(a₀.toList.map R).Nodup){st:SortSt}{n:Nat}(T:TmS κ R a₀ st gs rest)(h1:1<=n)(hn:n<=rest.length)(u:Up R (rest.take n)) :
  wpS M A E s (Zlq a₀.size gs.flatten.length n) (λr st'=>∃hs rest',r=C3 (none,hs.flatten.length)/\TmS κ R a₀ st' hs rest'/\gs.flatten.length+1<=hs.flatten.length) st:=by
 let ln:(rest.take n).length=n:=by rw[Jv];lia
 let fin:∀{st':SortSt}{hs:List (List Keyed)},TmS κ R a₀ st' hs rest->hs.flatten.length=gs.flatten.length->wpS M A E s (do
   modify λs=>setPending s ((pendingOf s).push (gs.flatten.length,n,0))
   pure (C3 ((none,gs.flatten.length+n):Option Unit×Nat))) (λr st'=>∃hs rest',r=C3 (none,hs.flatten.length)/\TmS κ R a₀ st' hs rest'/\gs.flatten.length+1<=hs.flatten.length) st':=λ{st' hs}T' e=>by
  rw[<-e];refine wpS_bind (wpS_modify (wpS_pure ⟨hs++[rest.take n],rest.drop n,?_,T'.push h1 hn u,?_⟩))
  .rw[List.flatten_append,Fy,Jc,ln]
  .rw[List.flatten_append,Fy,Jc,ln];lia
 unfold Zlq;refine wpS_bind (wpS_get ?_);cases(pendingOf st).back? with
 |none=>exact fin T rfl
 |some p =>
  let⟨s1,n1,p1⟩:=p;dsimp only;refine wpS_bind (wpS_mono (wpS_forRange (I:=λ_ c st'=>c=(none,PUnit.unit)/\∃hs,TmS κ R a₀ st' hs rest/\hs.flatten.length=gs.flatten.length) (Q:=λc st'=>c=(none,PUnit.unit)/\∃hs,TmS κ R a₀ st' hs rest/\hs.flatten.length=gs.flatten.length) ?_ (λ_ _ h=>h) ⟨rfl,gs,T,rfl⟩) ?_)
  .rintro x c st' _ _ ⟨rfl,hs,T',e⟩;refine wpS_bind (wpS_get ?_);let pl:(pendingOf st').size=hs.length:=by rw[<-Jj];exact T'.pend.len
   by_cases h2:(pendingOf st').size > 1
   .rw[Dt h2];cases(pendingOf st')[(pendingOf st').size-2]? with
    |none=>exact wpS_pure ⟨rfl,hs,T',e⟩
    |some p =>
     let⟨a,b,older⟩:=p;dsimp only
     split
     .exact wpS_pure ⟨rfl,hs,T',e⟩
     .refine wpS_bind (T'.merge HL hS nd () λst3 hs3 T3 l3 l4=>?_);simp only[Bj,Jy,if_false];exact wpS_pure ⟨rfl,hs3,T3,l4.trans e⟩
   .rw[Ds h2];exact wpS_pure ⟨rfl,hs,T',e⟩
  .rintro c st' ⟨rfl,hs,T',e⟩;dsimp only;refine wpS_bind (wpS_modify (fin (hs:=hs) ⟨T'.kind,T'.fail,T'.perm,T'.arr,T'.up,?_⟩ e));show Pd 0 hs ((pendingOf st').modify _ _).toList;rw[Array.toList_modify];exact Zmd T'.pend
def Zc9{α:Type}{f g:StateT SortSt Sem α}{Q:α->SortSt->Prop}{st:SortSt}(e:f=g)(h:wpS M A E s g Q st):wpS M A E s f Q st:=e ▸ h
theorem Pi(HL:LtS M A E s κ S R)(hS:∀x∈a₀.toList,S x)(nd:(a₀.toList.map R).Nodup){st:SortSt}{Q:Unit->SortSt->Prop}(e0:arrOf st=a₀)(hp:pendingOf st=#[])(hk:kindOf st=κ)(hf:failedOf st=none)(q:∀st',(arrOf st').toList.Perm a₀.toList->kindOf st'=κ->failedOf st'=none->Up R (arrOf st').toList->Q ⟨⟩ st'):wpS M A E s sortRuns' Q st:=by
 rw[sortRuns'_eq];refine wpS_bind (wpS_get ?_);dsimp only;rw[e0];generalize minRun' a₀.size a₀.size 0=mr;let T0:TmS κ R a₀ st [] a₀.toList:=⟨hk,hf,by rw[e0],by rw[e0];rfl,λg hg=>absurd hg List.not_mem_nil,by rw[hp];exact trivial⟩;refine wpS_bind (wpS_mono (wpS_forRange
  (I:=λx c st'=>∃gs rest,c=(none,gs.flatten.length)/\TmS κ R a₀ st' gs rest/\x<=gs.flatten.length)
  (Q:=λc st'=>∃gs,c=(none,a₀.size)/\TmS κ R a₀ st' gs []) ?step ?fin ⟨[],_,rfl,T0,Jd _⟩) ?post)
 case fin =>
  rintro c st' ⟨gs,rest,rfl,T,hx⟩;let l:=T.len;rw[show max 0 a₀.size=a₀.size by lia]at hx;let:rest=[]:=Bq.mp ();subst this;exists gs,by rw[show gs.flatten.length=a₀.size by simpa using l],T
 case step =>
  rintro x c st' _ hx ⟨gs,rest,rfl,T,hx2⟩;let l:=T.len;dsimp only
  by_cases hlo:gs.flatten.length≥a₀.size
  .rw[Dt hlo];let:rest=[]:=Bq.mp ();subst this;exact wpS_pure ⟨gs,by rw[show gs.flatten.length=a₀.size by simpa using l],T⟩
  rw[Ds hlo];let B:=T.b0 hS nd;refine wpS_bind (Nz HL B () () λxs n n1 n2 p lw su=>?_);dsimp only;let T2:=T.move p lw;let xl:xs.toList.length=a₀.size:=by rw[Jj,p.size_eq,T.size]
  by_cases hm:n<mr
  .rw[Dt hm];refine wpS_bind (wpS_lift (Eb ⟨rfl,?_⟩));refine wpS_bind (Zek HL (B.perm p) () () () su λys p2 lw2 su2=>?_);let T3:=T2.move p2 lw2;let yl:ys.toList.length=a₀.size:=by rw[Jj,p2.size_eq];rw[<-xl];rfl
   simp only[Bj,Jy,if_false];refine wpS_mono (Zc9 ?same (Zfz HL hS nd (n:=min (a₀.size-gs.flatten.length) mr) T3 () (by rw[Ga];lia) (Zl3 su2))) ?_
   case same=>kernel_rfl
   rintro r st4 ⟨hs,rest',rfl,T4,l4⟩;exact⟨hs,rest',rfl,T4,()⟩
  .rw[Ds hm];refine wpS_mono (Zc9 ?same (Zfz HL hS nd (n:=n) T2 () (by rw[Ga];lia) (Zl3 su))) ?_
   case same=>kernel_rfl
   rintro r st4 ⟨hs,rest',rfl,T4,l4⟩;exact⟨hs,rest',rfl,T4,()⟩
 case post =>
  rintro c st' ⟨gs,rfl,T⟩;dsimp only;refine wpS_bind (wpS_mono (wpS_forRange (I:=λx c st''=>c=(none,PUnit.unit)/\∃hs,TmS κ R a₀ st'' hs []/\hs.length+x<=a₀.size) (Q:=λc st''=>c=(none,PUnit.unit)/\∃hs,TmS κ R a₀ st'' hs []/\hs.length<=1) ?fstep ?ffin ?finit) ?fpost)
  case finit =>
   let:=Zml T.up;let l:=T.len;exact⟨rfl,gs,T,by rw[Bl]at l;lia⟩
  case ffin =>
   rintro c st'' ⟨rfl,hs,T,h⟩;exact⟨rfl,hs,T,()⟩
  case fstep =>
   rintro x c st'' _ hx ⟨rfl,hs,T,h⟩;refine wpS_bind (wpS_get ?_);let pl:(pendingOf st'').size=hs.length:=by rw[<-Jj];exact T.pend.len
   rw[pl]
   by_cases h1:hs.length<=1
   .rw[Dt h1];exact wpS_pure ⟨rfl,hs,T,h1⟩
   rw[Ds h1];refine wpS_bind (T.merge HL hS nd (by split<;>split<;>lia) λst3 hs3 T3 l3 _=>?_);simp only[Bj,Jy,if_false];exact wpS_pure ⟨rfl,hs3,T3,()⟩
  case fpost =>
   rintro c st'' ⟨rfl,hs,T,h⟩;refine wpS_pure (q st'' T.perm T.kind T.fail ?_);rw[T.arr,Gm]
   match hs,h with
   |[],_=>exact Jdq
   |[g],_ =>
    rw[Fy];exact(T.up g (by simp)).2
end
end L2
namespace L2
open PySem PySem.W PyProof.Rows HT PySem.Calls
section
variable{κ:SortKind}{vs ks:List Value}{n:Nat}
open Classical in
noncomputable def ixK(ks:List Value)(x:Keyed):Nat:=if h:∃i,i<ks.length/\ks.getD i Value.none=x.1 then h.choose else 0
def Zr6{x:Keyed}{i:Nat}(hi:i<ks.length)(e:ks.getD i Value.none=x.1):ixK ks x<ks.length/\ks.getD (ixK ks x) Value.none=x.1:=by
 unfold ixK;let h:∃i,i<ks.length/\ks.getD i Value.none=x.1:=⟨i,hi,e⟩;rw[dif_pos h];exact h.choose_spec
def Zh5(nk:ks.Nodup){x:Keyed}{i:Nat}(hi:i<ks.length)(e:ks.getD i Value.none=x.1):ixK ks x=i:=by
 let⟨h1,h2⟩:=Zr6 hi e;rw[<-e,Gf,Gf,Jb h1,Jb hi]at h2;exact(G9 (h₀:=h1) (h₁:=hi) nk).mp h2
def Zru(hc:CmpR rk n (kas_ask prog w A κ ks) s)(hn:ks.length=n)(nk:ks.Nodup):LtS (Cg prog w) A E s κ (λx=>∃i,i<n/\ks.getD i Value.none=x.1) (λx=>rk (ixK ks x)):=by
 subst hn;rintro x y st Q ⟨i,hi,ei⟩ ⟨j,hj,ej⟩ hk h;rw[lt'_eq];refine wpS_bind (wpS_get ?_);rw[hk];let h:Q (some (decide (rk (ixK ks x)<rk (ixK ks y)))) st:=h;rw[Zh5 nk hi ei,Zh5 nk hj ej]at h;let c:=hc i j (λb s'=>s'=s/\b=decide (rk i<rk j)) hi hj ⟨rfl,rfl⟩;unfold kas_ask at c;rw[ei,ej]at c;refine wpS_bind (wpS_lift (Mj (Dy c ?_ λ_ _ f=>f.elim)));rintro b s' ⟨rfl,rfl⟩;exists rfl,wpS_pure h
theorem Zd4(hl:ks.length=vs.length)(hn:ks.length=n)(nk:ks.Nodup)(hc:CmpR rk n (kas_ask prog w A κ ks) s)(inj:∀i j,i<n->j<n->rk i=rk j->i=j) :
  Cc (Cg prog w) A ((sortRuns').run (SortSt.mk' κ (ks.toArray.zip vs.toArray) #[] 7 none)) (λr s'=>∃p:Array Nat,s'=s/\GoodP n p/\SrtR rk p n/\arrOf r.2=p.map (kas_item (ks.toArray.zip vs.toArray))/\failedOf r.2=none) E s:=by
 let er:=kas_range (ks.toArray.zip vs.toArray);let hz:(ks.toArray.zip vs.toArray).size=n:=by simp[hl];lia
 rw[hz]at er;let el:(ks.toArray.zip vs.toArray).toList=(Co n).map (kas_item (ks.toArray.zip vs.toArray)):=by
  let:=congrArg Jdw er;rw[Db]at this;exact this.symm
 let it:=λi=>kat_item hl i;let ei:∀i,i<n->ixK ks (kas_item (ks.toArray.zip vs.toArray) i)=i:=λi hi=>Zh5 nk () (by rw[it]);let hS:∀x∈(ks.toArray.zip vs.toArray).toList,∃i,i<n/\ks.getD i Value.none=x.1:=λx hx=>by
  rw[el]at hx;let⟨i,hi,rfl⟩:=Jq.mp hx;exact⟨i,Gw.mp hi,by rw[it]⟩
 let em:(ks.toArray.zip vs.toArray).toList.map (ixK ks)=Co n:=by
  rw[el,Gb];refine(Bf λi hi=>?_).trans (List.map_id _);exact ei i (Gw.mp hi)
 let nd:((ks.toArray.zip vs.toArray).toList.map λx=>rk (ixK ks x)).Nodup:=by
  let e:((ks.toArray.zip vs.toArray).toList.map λx=>rk (ixK ks x))=(Co n).map rk:=by
   rw[<-em,Gb];rfl
  rw[e];refine Jz.mpr ?_;refine List.Pairwise.imp_of_mem (λ{a b}ha hb h z=>h (inj a b (Gw.mp ha) (Gw.mp hb) z)) List.nodup_range
 let run:=Pi (E:=E) (Zru (E:=E) hc hn nk) hS nd (st:=SortSt.mk' κ (ks.toArray.zip vs.toArray) #[] 7 none) (Q:=λ_ st'=>(arrOf st').toList.Perm (ks.toArray.zip vs.toArray).toList/\failedOf st'=none/\Up (λx=>rk (ixK ks x)) (arrOf st').toList) rfl rfl rfl rfl λst' a1 a2 a3 a4=>⟨a1,a3,a4⟩;unfold wpS at run;refine Dy run ?_ λ_ _ x=>x;rintro⟨⟨⟩,st'⟩ s' ⟨rfl,pm,hf,up⟩;dsimp only at pm hf up⊢;let mem:∀x∈(arrOf st').toList,∃i,i<n/\x=kas_item (ks.toArray.zip vs.toArray) i:=λx hx=>by
  let:=pm.mem_iff.mp hx;rw[el]at this;let⟨i,hi,e⟩:=Jq.mp this;exists i,Gw.mp hi,e.symm
 let lp:(arrOf st').toList.length=n:=by rw[pm.length_eq,Jj,hz]
 exists((arrOf st').toList.map (ixK ks)).toArray,rfl,⟨?_⟩,?_,?_,hf
 .refine Gq.mpr ?_;show((arrOf st').toList.map (ixK ks)).Perm (Co n);rw[<-em];exact pm.map _
 .intro i j hij hj;let gd:∀k,(h:k<n)->(((arrOf st').toList.map (ixK ks)).toArray).getD k 0=ixK ks ((arrOf st').toList[k]'()):=λk h=>by
   let:k<(((arrOf st').toList.map (ixK ks)).toArray).size:=by simp;simpa using(by lia:k<(arrOf st').toList.length)
   rw[He,dif_pos this];simp
  unfold Rk;rw[gd i (),gd j hj];rcases Fh i j with z|z
  .exact Ja4 (Gp.mp up i j () () z)
  .let:i=j:=by lia
   subst this;exact Dh _
 .apply Fp.mp
  rw[Db,Gb];refine((List.map_id _).symm.trans (Bf λx hx=>?_));let⟨i,hi,rfl⟩:=mem x hx;show _=kas_item _ (ixK ks _);rw[ei i hi];rfl
end
section
theorem Znq{κ:SortKind}{L:List KIt}(I:Inv X pq σ H s)(hcol:∀{A:Kf}{R:List Value->Ca->Prop}{E:Value->Ca->Prop},A.handled=X.A.handled->(∀(h':Heap)(tk:Nat),(∀b o,s.heap.get? b=some o->h'.get? b=some o)->R (Zg L) {s with heap:=h',toks:=tk})->Cc (Cg X.prog X.w) A (collect (.ref l)) R E s)(h64:L.length<65536)(na:(L.map (·.2.1)).Nodup)(nd:(L.map (·.2.2)).Nodup)(hkind:∀(pins':List (Addr×Obj))(s':Ca),Inv X pins' σ H s'->1<L.length->∀{E:Value->Ca->Prop}{A:Kf}{Q:SortKind->Ca->Prop},Q κ s'->Cc (Cg X.prog X.w) A (keyKind' (Zg L).toArray) Q E s')(hcmp:∀(pins':List (Addr×Obj))(s':Ca),1<L.length->Inv X pins' σ H s'->CmpR (Y1 (L.map (·.2.2))) L.length (kas_ask X.prog X.w X.A.in1.in1 κ (Zg L)) s')(h:∀(D:Addr)(L':List KIt),H D=none->L'.Perm L->L'.Pairwise (λa b=>HT.lexLt a.2.2 b.2.2=true)->Q (.ref D) (upd H D (.lst (L'.map λq=>V.ref q.2.1)))) :
  Cc (Cg X.prog X.w) X.A (call (.builtin "sorted") [.ref l]) (EP X pq σ Q) E s:=by
 let el:(Zg L).length=L.length:=by simp[Zg]
 refine call_function_entry kind_sorted plain_sorted entry_sorted (args_sorted1 _) ?_;unfold Builtin.«sorted»;refine Dm (m:=checkCount "sorted" 1 1 _) (Dn ?_);refine Dm (hcol rfl λh1 tk1 keep1=>?_);refine Dm (Hf ?_ (by rw[Cj];lia));let sz:=I.fpOk (H':=H) (Jd _) (I.hok.fresh (Jd _));let J:Inv X pq σ H {s with heap:=h1,toks:=tk1}:=I.kept (t':=tk1) keep1;let hoL:(h1.push (Cv "list" (Zg L).toArray 0)).get? h1.objs.size=some (Cv "list" (Zg L).toArray 0):=Dp _ rfl;let fD:FpOk X pq H h1.objs.size:=J.fpOk (Jd _) (J.hok.fresh (Jd _));let I1:Inv X pq σ H {s with heap:=h1.push (Cv "list" (Zg L).toArray 0),toks:=tk1}:=J.kept (t':=tk1) λb o e=>Do _ e
 generalize hD:h1.objs.size=D at *
 generalize hh:h1.push (Cv "list" (Zg L).toArray 0)=hp at *
 refine Dm (Cs (Cu PyProof.Rows.slot_list_sort ⟨_,hoL,rfl⟩ PyProof.Rows.entry_list_sort ?body (args_list_sort _)))
 case body =>
  show Cc (Cg X.prog X.w) X.A.in1.in1 (Builtin.«list.sort» ⟨[.ref D],[]⟩) _ _ _;let s1:=Ct hp D (Ch λ_=>(#[]:Array Value));obtain⟨e1,ho1⟩:∃e1,(hp.update D (Ch λ_=>(#[]:Array Value))).get? D=some (Cv "list" #[] e1):=⟨_,Er hoL λ_=>#[]⟩;let I2:=(I1.turn1 fD s1).pin1 fD ho1 (by intro v;simp);let I3:Inv X (pq++[PD D e1]) σ H {s with toks:=tk1,heap:=((hp.update D (Ch λ_=>(#[]:Array Value))).push (Cv "tuple" (Zg L).toArray 0)).push (Cv "list" #[] 0)} :=
   I2.kept (t':=tk1) λb o e=>Do _ (Do _ e)
  let fin:∀(s':Ca)(L':List KIt)(st:SortSt),Inv X (pq++[PD D e1]) σ H s'->L'.Perm L->∃c2,(s'.heap.update D (Ch λ_=>(Zg L').toArray)).get? D=some (Cv "list" (Zg L').toArray c2)/\Inv X pq σ (upd H D (.lst (L'.map λq=>V.ref q.2.1))) {s' with heap:=s'.heap.update D (Ch λ_=>(Zg L').toArray)}:=λs' L' st J pm=>by
   let pd:=J.pin (PD D e1) (Jm _ (Jm _ (Jf.mpr rfl)));let s2:=Ct s'.heap D (Ch λ_=>(Zg L').toArray);obtain⟨c2,hc2⟩:∃c2,(s'.heap.update D (Ch λ_=>(Zg L').toArray)).get? D=some (Cv "list" (Zg L').toArray c2):=⟨_,Er pd.1 λ_=>(Zg L').toArray⟩;let J2:=(J.unpinned (pl:=[PD D e1])).turn1 fD s2;let go:∀M:List KIt,Vals (M.map λq=>V.ref q.2.1) (Zg M):=λM=>by
    induction M with
    |nil=>exact .nil
    |cons y r ih=>exact .cons rfl ih
   exists c2,hc2,J2.track (its:=Zg L') (n:=c2) hc2 fD (go L') (by rw[Ja,pm.length_eq,Cj];lia)
  rw[list_sort_plain];refine Dm (listItems_at hoL rfl ?_);refine Dm (Ed hoL rfl ?_ (by rw[Jl,Cj];lia) (Gc _));refine Dm (seqEpoch_at ho1 rfl ?_);refine Dm (wpAny_newTuple ?_ (by show(Zg L).length<=_;rw[Cj];lia));refine Dm (Hf ?_ (Gc _));refine Cs ?_;show Cc (Cg X.prog X.w) _ _ _ _ {s with toks:=tk1,heap:=((hp.update D (Ch λ_=>(#[]:Array Value))).push (Cv "tuple" (Zg L).toArray 0)).push (Cv "list" #[] 0)};dsimp only;let pd:=I3.pin (PD D e1) (Jm _ (Jm _ (Jf.mpr rfl)))
  by_cases h2:(Zg L).toArray.size<2
  .rw[Dt h2];refine Dm (Dn ?_);rw[Dt h2];refine Dm (m:=(pure ⟨⟩:StateT SortSt Sem Unit).run _) (Dn ?_);let h2':L.length<2:=by simpa[Zg]using h2
   let ea:(((Zg L).toArray.zip (Zg L).toArray).map (·.2))=(Zg L).toArray:=by
    apply Fp.mp
    rw[Db,ksk_zip];simp only[Ky (Jd _)]
   let⟨c2,hc2,I4⟩:=fin _ L (SortSt.mk' general' #[] #[] 7 none) I3 (Kp _);refine Dm (seqEpoch_at pd.1 rfl ?_);refine Dm (Ed pd.1 rfl ?_ (Gc _) (by show(((Zg L).toArray.zip (Zg L).toArray).map (·.2)).size<=_;rw[ea,Jl,Cj];lia));show Cc (Cg X.prog X.w) _ (if(e1 != e1)=true then _ else ret Value.none) _ _ _;simp only[bne_self_eq_false,Jy,if_false];refine Dn ⟨_,rfl,Dn ⟨_,rfl,.ref D,_,?_,rfl,h D L fD.1 (Kp _) ?_⟩⟩
   .let e2:Array.map (λx=>x.snd) (arrOf (SortSt.mk' general' ((Zg L).toArray.zip (Zg L).toArray) #[] 7 none))=(Zg L).toArray:=ea;rw[e2];exact I4
   .match L,h2' with
    |[],_=>exact .nil
    |[q],_=>exact Bo _ _
    |_::_::_,h2'=>simp only[J0]at h2';lia
  .rw[Ds h2,Ds h2];let h2':2<=(Zg L).length:=by simpa using h2
   refine Dm (hkind _ _ I3 () ?_);let nk:(Zg L).Nodup:=by
    let e:Zg L=(L.map (·.2.1)).map Cb:=by simp[Zg]
    rw[e];exact List.Pairwise.map _ (λa b h z=>h (Cb.inj z)) na
   refine Dm (Dy (Zd4 (vs:=Zg L) (ks:=Zg L) (rk:=Y1 (L.map (·.2.2))) (n:=L.length) rfl el nk (hcmp _ _ () I3) λi j hi hj z=>Ua nd (by simpa using hi) (by simpa using hj) z) ?_ λ_ _ x=>x);rintro⟨⟨⟩,st'⟩ s' ⟨p,rfl,g,hs,har,hf⟩;let hp2:∀i∈p.toList,i<L.length:=λi hi=>by
    let:=(Gq.mp g.perm).mem_iff.mp hi;simpa using this
   let pl2:p.toList.Perm (Co L.length):=by have:=Gq.mp g.perm;simpa using this
   let rangeL:(Co L.length).map (λi=>L.getD i (.non,0,[]))=L:=by
    apply Mp
    .simp
    .intro i h1 h2;simp[Gf,h2]
   let pm:(p.toList.map λi=>L.getD i (.non,0,[])).Perm L:=by
    let:=pl2.map λi=>L.getD i (.non,0,[]);rwa [rangeL]at this
   let ea:(arrOf st').map (·.2)=(Zg (p.toList.map λi=>L.getD i (.non,0,[]))).toArray:=by
    rw[kat_snds rfl har]
    congr 1
    show _=((p.toList.map λi=>L.getD i (.non,0,[])).map λq=>Cb q.2.1);rw[Gb];refine Bf λi hi=>?_;let hi:=hp2 i hi;show(Zg L).getD i Value.none=Cb (L.getD i (.non,0,[])).2.1;rw[show(Zg L).getD i Value.none=Cb L[i].2.1 from Z8 hi,Gf,Jb hi];rfl
   let⟨c2,hc2,I4⟩:=fin _ _ st' I3 pm;refine Dm (seqEpoch_at pd.1 rfl ?_);refine Dm (Ed pd.1 rfl ?_ (Gc _) (by show((arrOf st').map (·.2)).size<=_;rw[ea,Jl,Cj,show(Zg (p.toList.map λi=>L.getD i (.non,0,[]))).length=L.length by simp[Zg,g.size]];lia));dsimp only;rw[hf];simp only[bne_self_eq_false,Jy,if_false];refine Dn ⟨_,rfl,Dn ⟨_,rfl,.ref D,_,?_,rfl,h D _ fD.1 pm ?_⟩⟩
   .rw[ea];exact I4
   .rw[Gp];intro i j hi hj hij;simp only[Ja,Jj,g.size]at hi hj;let gi:=g.lt i hi;let gj:=g.lt j hj;let hle:=hs i j (Br hij) hj;let hne:=g.ne hi hj (Gj hij);unfold Rk at hle;let hlt:Y1 (L.map (·.2.2)) (p.getD i 0)<Y1 (L.map (·.2.2)) (p.getD j 0):=by
     rcases Int.lt_or_eq_of_le hle with z|z
     .exact z
     .exact absurd (Ua nd (by simpa using gi) (by simpa using gj) z) hne
    let hd:=Wq nd (i:=p.getD i 0) (j:=p.getD j 0) (by simpa using gi) (by simpa using gj);rw[Du hlt,Z8 gi,Z8 gj]at hd;let ei:p.getD i 0=p[i]'(by rw[g.size];exact hi):=by simp[He,g.size,hi]
    let ej:p.getD j 0=p[j]'(by rw[g.size];exact hj):=by simp[He,g.size,hj]
    simp only[Be,F6,Gf];let gi':=gi;let gj':=gj;rw[ei]at gi';rw[ej]at gj';rw[Jb gi',Jb gj'];simp only[ei,ej]at hd;exact hd.symm
end
section
theorem Zat:∀{vs:List Value}{ns ms:List Int},Eg vs ns->Eg vs ms->ns=ms:=by
 intro _ _ _ hz9 hz8;cases hz9 with
 |nil=>
  cases hz8 with
  |nil=>
   exact rfl
 |cons a t h=>
  cases hz8 with
  |cons _ _ k=>
   exact by rw[Zat h k]
def Zb3(K:PySem.W.Frag):List V->Hp->VK->Prop:=λxs H Q=>∃(l:Addr)(L:List KIt),xs=[.ref l]/\SqL K H l (L.map λq=>V.ref q.2.1)/\L.length<65536/\(∀q∈L,SqL K H q.2.1 (q.2.2.map V.int))/\(L.map (·.2.2)).Nodup /\
 ∀(D:Addr)(L':List KIt),H D=none->L'.Perm L->L'.Pairwise (λa b=>HT.lexLt a.2.2 b.2.2=true)->Q (.ref D) (upd H D (.lst (L'.map λq=>V.ref q.2.1)))
theorem Zcv{K:PySem.W.Frag}(hK:X.K=K)(hu:X.A.units+200<cLine):Wz X (.builtin "sorted") (Zb3 K):=by
 intro pq s σ H xs us Q I r h;let⟨l,L,rfl,hl,h64,hk,nd,q⟩:=h;let⟨u,rfl,rx⟩:=Qj r;cases rx;subst hK;let na:(L.map (·.2.1)).Nodup:=by
  refine Jz.mpr ((Jz.mp nd).imp_of_mem λ{a b}ha hb h z=>h ?_);let⟨i1,v1,p1,_⟩:=I.list (hk a ha);let⟨i2,v2,p2,_⟩:=I.list (hk b hb);let⟨o1,g1,_,n1,d1⟩:=id p1.isList;let⟨o2,g2,_,n2,d2⟩:=id p2.isList;rw[z,g2]at g1;cases g1;rw[d1]at d2;injection d2 with e1 e2
  let e:i1=i2:=by simpa using e1
  subst e;exact Zat (Ws v1) (Ws v2)
 let⟨its,rv,pl,_⟩:=I.list hl;let eI:its=Zg L:=Zgw rv;subst eI;refine Znq (κ:=oneType') I (λ{A R E}_ hR=>?_) h64 na nd (λ_ _ J h0{_ _ _}q=>Zhx J hk () q) (λ_ _ _ J=>?_) q
 .refine collect_list pl.isList ?_ (by simp[Zg];rw[Cj];lia);refine hR _ s.toks λb o e=>?_;let hlt:b<s.heap.objs.size:=Dq e;rw[Heap.get?_update_ne _ _ _ _ (Gj hlt),Hg _ _ _ (Gj hlt)];exact e
 .intro i j C hi hj h;rw[Wq nd (by simpa using hi) (by simpa using hj),Z8 hi,Z8 hj]at h;unfold kas_ask;rw[show(Zg L).getD i Value.none=Cb L[i].2.1 from Z8 hi,show(Zg L).getD j Value.none=Cb L[j].2.1 from Z8 hj,keyLt'_oneType];exact Zor J (by show X.A.units+1+1+120<cLine;lia) (hk _ (Ju hi)) (hk _ (Ju hj)) h
end
end L2
namespace L2
open PySem PySem.Spec PyProof.Rows
theorem Zcl:∀{x y:List Int},x.map (Cp:Int->Key)=y.map Cp->x=y
 |[],[],_=>rfl
 |[],_::_,h=>nomatch h
 |_::_,[],h=>nomatch h
 |a::x,b::y,h=>by
  rw[Jp,Jp]at h;injection h with h1 h2
  rw[Ho h1,Zcl h2]
section
variable(P:El)(w:Hd)
def niIs(h:Heap):NI->Value->Prop
 |.k z,v=>Rt (.inl z) v=true
 |.t x,v=>∃a,v=.ref a/\IsTupleKey (Yd P w) h (x.map Cp) a
 |.b t,v=>v=.bool t
def niD:NI->Nat
 |.k _=>1
 |.t x=>x.length+1
 |.b _=>1
inductive Nits(h:Heap):List NI->List Value->Prop where
 |nil:Nits h [] []
 |cons {k:NI} {v:Value} {ks:List NI} {vs:List Value}:niIs P w h k v->Nits h ks vs->Nits h (k::ks) (v::vs)
def X7(h:Heap)(ks:List NI)(a:Addr):Prop:=∃o items n,h.get? a=some o/\o.cls=.type "tuple"/\o.data=.seq items n/\Nits P w h ks items.toList
end
section
theorem niIs.inj{x y:NI}{v:Value}(hx:niIs P w h x v)(hy:niIs P w h y v):x=y:=by
 cases x with
 |k z =>
  let hx:Rt (.inl z) v=true:=hx;cases y with
  |k z'=>rw[Ho ((Yd P w).inj v _ _ hx hy)]
  |t x' =>
   let⟨a,rfl,_⟩:=hy;rcases Yb hx with⟨i,t,_,e⟩|⟨i,t,_,e⟩<;>cases e
  |b t' =>
   obtain rfl:v=.bool t':=hy;rcases Yb hx with⟨i,t,_,e⟩|⟨i,t,_,e⟩<;>cases e
 |t x =>
  let⟨a,rfl,ka⟩:=hx;cases y with
  |k z' =>
   let hy:Rt (.inl z') (.ref a)=true:=hy;rcases Yb hy with⟨i,t,_,e⟩|⟨i,t,_,e⟩<;>cases e
  |t x' =>
   let⟨a',e,kb⟩:=hy;cases e;rw[Zcl (ka.inj kb)]
  |b t'=>cases(show Cb a=.bool t' from hy)
 |b t =>
  obtain rfl:v=.bool t:=hx;cases y with
  |k z' =>
   let hy:Rt (.inl z') (.bool t)=true:=hy;rcases Yb hy with⟨i,t,_,e⟩|⟨i,t,_,e⟩<;>cases e
  |t x'=>obtain⟨a',e,_⟩:=hy;cases e
  |b t' =>
   let hy:Hr t=.bool t':=hy;injection hy with e
   rw[e]
theorem Nits.inj:∀{x y:List NI}{vs:List Value},Nits P w h x vs->Nits P w h y vs->x=y:=by
 intro _ _ _ hz9 hy;cases hz9 with
 |nil=>
  exact by cases hy;rfl
 |cons h1 t1=>
  exact by
    cases hy with
    |cons h2 t2=>rw[h1.inj h2,Nits.inj t1 t2]
def X7.typeIs{a:Addr}(x:X7 P w s.heap ks a):s.TypeIs (.ref a) "tuple":=let⟨o,_,_,ho,hc,_⟩:=x;⟨o,ho,hc⟩
def X7.inj{a:Addr}{x y:List NI}(hx:X7 P w h x a)(hy:X7 P w h y a):x=y:=by
 let⟨o,items,n,ho,_,hd,hi⟩:=hx;let⟨o',items',n',ho',_,hd',hi'⟩:=hy;rw[ho]at ho';cases ho';rw[hd]at hd';injection hd' with h1 _
 subst h1;exact hi.inj hi'
theorem Nits.mapH(f:∀x a,IsTupleKey (Yd P w) h x a->IsTupleKey (Yd P w) h' x a):∀{x:List NI}{vs:List Value},Nits P w h x vs->Nits P w h' x vs
 |_,_,.nil=>.nil
 |k::_,_,.cons h1 t=>by
  refine .cons ?_ (Nits.mapH f t);cases k with
  |k z=>exact h1
  |t x=>obtain⟨a,e,q⟩:=h1;exists a,e,f _ _ q
  |b t=>exact h1
def X7.keeps{a d:Addr}{o:Obj}{es ep}(x:X7 P w h ks a)(ho:h.get? d=some o)(hd:o.data=.dict es ep)(hs:E8 d h h'):X7 P w h' ks a:=by
 let⟨o',items,n,ho',hc,hd',hi⟩:=x;let hne:a≠d:=by
  rintro rfl;rw[ho']at ho;cases ho;rw[hd]at hd';exact nomatch hd'
 exists o',items,n,(hs.2 a hne).trans ho',hc,hd',hi.mapH λx b q=>q.keeps ho hd hs
theorem Zi9{t:Bool}{Q:Int->Ca->Prop}(h:Q (hashInt (if t then 1 else 0)) {s with toks:=s.toks+1}):Cc (Cg P w) A (pyHash (.bool t)) Q E s:=by
 let sl:Slot "bool" "__hash__" "int.__hash__":=.of (owner:="int") (n:="__hash__") (by rw[Ja5,Kt];kernel_rfl) (by decide +kernel) (by decide +kernel) (by decide +kernel)
  (by first|exact .inl (by decide +kernel)|exact .inr (by decide +kernel)) (by rw[isSubtype_type];kernel_rfl)
 let tyB:s.TypeIs (.bool t) "bool":=rfl;unfold pyHash;let nob:[Hr t].any Value.onHeap=false:=rfl;refine Dm ?_;rw[cRoomFor,Ds (by rw[nob];exact Jt)];refine Dn ?_;refine Dm (wpAny_specialOf tyB sl.lookup ?_);show Cc _ _ (if(some (Ml "int.__hash__")==some Value.none)=true then _ else _) Q E s;rw[Ds (by rw[beq_builtin_none];exact Jt)];refine Dm (wpAny_specialOf tyB sl.lookup ?_);show Cc _ _ (callSpecialIfBoundUnlessNone? (.bool t) "__hash__" _ >>= _) Q E s;cases t with
 |true =>
  refine Dm (wpAny_callSpecialIfBoundUnlessNone?_slot tyB sl (Cu sl tyB entry_int_hash
   (show Cc _ _ (do ret (<-mkInt (rawHash 1))) _ _ s from wpAny_ret_mkInt ?_) (args_int_hash _)))
  let rg:=rawHash_range 1;show Cc _ _ (if(decide (-(2:Int) ^ 63<=rawHash 1)&&decide (rawHash 1<2 ^ 63))=true then _ else _) Q E _;rw[Dt (by rw[Du rg.1,Du rg.2];rfl)];exact Dn h
 |false =>
  refine Dm (wpAny_callSpecialIfBoundUnlessNone?_slot tyB sl (Cu sl tyB entry_int_hash
   (show Cc _ _ (do ret (<-mkInt (rawHash 0))) _ _ s from wpAny_ret_mkInt ?_) (args_int_hash _)))
  let rg:=rawHash_range 0;show Cc _ _ (if(decide (-(2:Int) ^ 63<=rawHash 0)&&decide (rawHash 0<2 ^ 63))=true then _ else _) Q E _;rw[Dt (by rw[Du rg.1,Du rg.2];rfl)];exact Dn h
theorem Zom{k:NI}{v:Value}{Q:Int->Ca->Prop}(hu:A.units<cLine)(hk:niIs P w s.heap k v)(h:Q (niH k) {s with toks:=s.toks+niD k}):Cc (Cg P w) A (pyHash v) Q E s:=by
 cases k with
 |k z=>exact(Yd P w).pyHash (k:=.inl z) hk h
 |t x =>
  let⟨a,rfl,q⟩:=hk;refine wpAny_pyHash_tuple hu q ?_;let e:tupleKeyHash (Yd P w) (x.map Cp)=niH (.t x):=by
   unfold tupleKeyHash niH;rw[Gb];rfl
  rw[e,Ja];exact h
 |b t=>obtain rfl:v=.bool t:=hk;exact Zi9 h
theorem Zuh{x y:NI}{u v:Value}{Q:Bool->Ca->Prop}(hu:A.units<cLine)(hs:x.sh=y.sh)(hx:niIs P w s.heap x u)(hy:niIs P w s.heap y v)(h:Q (decide (x=y)) s):Cc (Cg P w) A (eqBool u v) Q E s:=by
 cases x with
 |k z =>
  cases y with
  |k z' =>
   refine(Yd P w).eqBool (a:=.inl z) (b:=.inl z') hx hy ?_;rw[show decide ((Cp z:Key)=Cp z')=decide (NI.k z=NI.k z')by simp];exact h
  |t x'=>cases hs
  |b t'=>cases hs
 |t x =>
  cases y with
  |k z'=>cases hs
  |t x' =>
   let⟨a,rfl,ka⟩:=hx;let⟨b,rfl,kb⟩:=hy;refine wpAny_eqBool_tuple hu ka kb ?_;rw[show decide (x.map (Cp:Int->Key)=x'.map Cp)=decide (NI.t x=NI.t x')from decide_eq_decide.mpr ⟨λe=>by rw[Zcl e],λe=>by injection e with e;rw[e]⟩];exact h
  |b t'=>cases hs
 |b t =>
  cases y with
  |k z'=>cases hs
  |t x'=>cases hs
  |b t' =>
   obtain rfl:u=.bool t:=hx;obtain rfl:v=.bool t':=hy;refine Jft.bool_bool t t' P w E Q ?_;rw[show(t==t')=decide (NI.b t=NI.b t')by cases t<;>cases t'<;>rfl];exact h
theorem Zkq{k:NI}{v:Value}{Q:Bool->Ca->Prop}(n:Nat)(hk:niIs P w s.heap k v)(h:Q true s):Cc (Cg P w) A (eqIsQuiet (n+1) v) Q E s:=by
 cases k with
 |k z=>rw[eqIsQuiet_byValue _ ((Yd P w).byValue (.inl z) v hk)];exact Dn h
 |b t=>obtain rfl:v=.bool t:=hk;rw[eqIsQuiet_byValue _ rfl];exact Dn h
 |t x =>
  let⟨a,rfl,q⟩:=hk;let tyA:=q.typeIs;let⟨ob,its,m,gt,_,dat,itm⟩:=q;unfold eqIsQuiet;refine Dm (wpAny_specialOf tyA F.slot_tuple_eq.lookup ?_);show Cc _ _ (Jdt (.ref a) (.type "tuple") >>= _) _ _ s;refine Dm (wpAny_isInstance tyA isSubtype_tuple_tuple ?_);simp only[Bj,Jy,if_false];refine Dm (wpAny_seqItems gt dat ?_);refine Dm ?_;show Cc _ _ (forIn its _ _) _ _ s;rw[<-Fv];refine wpAny_forIn_list _ (λrest r s'=>r.1=none/\s'=s/\∀v∈rest,carriedByValue v=true) _ ?_ ?_ _ _ ⟨rfl,rfl,itm.byValue⟩
  .rintro v rest r s' ⟨ac,rfl,evy⟩;rw[eqIsQuiet_byValue _ (evy v Ji)];refine Dm (Dn ?_);simp only[Bj,Jy,if_false];exact Dn ⟨rfl,rfl,λu hu'=>evy u (Jg _ hu')⟩
  .rintro⟨r1,r2⟩ s' ⟨ac,rfl,_⟩;simp only at ac;subst ac;exact Dn h
theorem Zhn{a:Addr}{Q:Int->Ca->Prop}(hu:A.units+1<cLine)(nk:X7 P w s.heap ks a)(fin:Q (nh ks) {s with toks:=s.toks+((ks.map niD).sum+1)}) :
  Cc (Cg P w) A (pyHash (.ref a)) Q E s:=by
 let tyA:=nk.typeIs;let⟨ob,its,m,gt,_,dat,itm⟩:=nk;unfold pyHash
 first|unfold pyHashByItsType|skip
 first|refine Dm (wpAny_cRoomFor_or (.inr ()) ?_)|skip
 refine Dm (wpAny_specialOf tyA F.slot_tuple_hash.lookup ?_);show Cc (Cg P w) A (if(some (Ml "tuple.__hash__")==some Value.none)=true then _ else _) Q E s;rw[Ds (by rw[beq_builtin_none];exact Jt)];refine Dm (wpAny_specialOf tyA F.slot_tuple_hash.lookup ?_);show Cc (Cg P w) A (callSpecialIfBoundUnlessNone? (.ref a) "__hash__" _ >>= _) Q E s;refine Dm (wpAny_callSpecialIfBoundUnlessNone?_slot tyA F.slot_tuple_hash (Cu F.slot_tuple_hash tyA F.entry_tuple_hash ?_ (F.args_tuple_hash_1 _)));show Cc (Cg P w) _ (Hh (.ref a) >>= _) _ _ s
 refine Dm (E7 gt dat ?_);refine Dm ?_;rw[<-Fv];refine wpAny_forIn_list _
  (λrest(b:Array Int)s'=>∃pre post,ks=pre++post/\Nits P w s.heap post rest/\b.toList=pre.map (niH)/\s'={s with toks:=s.toks+(pre.map niD).sum})
  _ ?_ ?_ _ _ ⟨[],ks,rfl,itm,rfl,rfl⟩
 .rintro x rest b s' ⟨pre,post,rfl,hl,hb,rfl⟩;cases hl with
  | @cons k _ ks' _ h1 hl' =>
   refine Dm (Zom (s:={s with toks:=s.toks+(pre.map niD).sum}) (by show A.units+1<cLine;exact hu) h1 ?_)
   first
    |exact Dn ⟨pre++[k],ks',by simp,hl',by simp[hb],by simp[Fm]⟩
    |exact Dm (Dn (Dn ⟨pre++[k],ks',by simp,hl',by simp[hb],by simp[Fm]⟩))
 .rintro b s' ⟨pre,post,rfl,hl,hb,rfl⟩;cases hl;rw[Gm]at fin;show Cc (Cg P w) _ (retInt (Builtin.Tuple.tupleHashOf b.toList)) _ _ _;rw[hb];refine wpAny_ret_mkInt ?_;show Cc (Cg P w) _ (if(decide (-(2:Int) ^ 63<=Builtin.Tuple.tupleHashOf (pre.map (niH)))&&decide (Builtin.Tuple.tupleHashOf (pre.map (niH))<2 ^ 63))=true then _ else _) Q E _;unfold nh reduceHash at fin
  by_cases rg:(decide (-(2:Int) ^ 63<=Builtin.Tuple.tupleHashOf (pre.map (niH)))&&decide (Builtin.Tuple.tupleHashOf (pre.map (niH))<2 ^ 63))=true
  .rw[Dt rg];rw[Dt rg]at fin;exact Dn (by simpa[Fm]using fin)
  .rw[Ds rg];rw[Ds rg]at fin;exact Dm (Eb (Dn (by simpa[Fm]using fin)))
def Zoo{x y:List NI}{a b:Addr}{Q:Fin->Ca->Prop}(hu:A.units<cLine)(hs:x.map NI.sh=y.map NI.sh)(ka:X7 P w s.heap x a)(kb:X7 P w s.heap y b)(fin:Q (.done (.ret (.bool (decide (x=y))))) s) :
  Cc (Cg P w) A (Builtin.«tuple.__eq__» ⟨[.ref a,.ref b],[]⟩) Q E s:=by
 let tyB:=kb.typeIs;let⟨oa,xs,na,ga,_,da,ia⟩:=ka;let⟨ob,ys,nb,gb,_,db,ib⟩:=kb;show Cc (Cg P w) A (Jdt (.ref b) (.type "tuple") >>= _) _ _ s;refine Dm (wpAny_isInstance tyB isSubtype_tuple_tuple ?_);simp only[Bj,Jy,if_false];refine Dm (E7 ga da ?_);refine Dm (E7 gb db ?_);refine Dm ?_;refine wpAny_forIn_list _
  (λrest r s'=>r.1=none/\s'=s/\∃x' y' xs' ys',rest=List.zip xs' ys'/\Nits P w s.heap x' xs'/\Nits P w s.heap y' ys'/\x'.map NI.sh=y'.map NI.sh/\decide (x'=y')=decide (x=y)/\(xs'.length==ys'.length)=(xs.size==ys.size))
  _ ?_ ?_ _ _ ⟨rfl,rfl,x,y,xs.toList,ys.toList,rfl,ia,ib,hs,rfl,by simp⟩
 .rintro⟨u,v⟩ rest r s' ⟨ac,rfl,x',y',xs',ys',hz,hx',hy',hs',hdec,hlen⟩;cases hx' with
  |nil=>simp at hz
  | @cons k1 u' x'' xs'' h1 hx'' =>
   cases hy' with
   |nil=>simp at hz
   | @cons k2 v' y'' ys'' h2 hy'' =>
    simp only[Fa,List.cons.injEq,Prod.mk.injEq]at hz;let⟨⟨rfl,rfl⟩,rfl⟩:=hz;rw[Jp,Jp]at hs';injection hs' with e1 e2
    refine Dm (Zuh hu e1 h1 h2 ?_)
    by_cases hk:k1=k2
    .subst hk;rw[Du rfl];simp only[Bj,Jy,if_false];refine Dn ⟨rfl,rfl,x'',y'',xs'',ys'',rfl,hx'',hy'',e2,?_,by simpa using hlen⟩;rw[<-hdec]
     by_cases hxy:x''=y''
     .simp[hxy]
     .simp[hxy]
    .rw[Dv hk];simp only[Bool.not_false,if_true];let hf:decide (x=y)=false:=by rw[<-hdec];simp[hk]
     rw[hf]at fin;exact Dm (Dn (Dn (Dn fin)))
 .rintro⟨r1,r2⟩ s' ⟨ac,rfl,x',y',xs',ys',hz,hx',hy',hs',hdec,hlen⟩;simp only at ac;subst ac;refine Dn ?_;let hfin:(xs.size==ys.size)=decide (x=y):=by
   rw[<-hdec,<-hlen];cases hx' with
   |nil =>
    cases hy' with
    |nil=>simp
    |cons _ _=>simp
   |cons _ _ =>
    cases hy' with
    |nil=>simp
    |cons _ _=>simp at hz
  show Q (.done (.ret (.bool (xs.size==ys.size)))) s';rw[hfin];exact fin
theorem Zcc{x y:List NI}{a b:Addr}{Q:Bool->Ca->Prop}(hu:A.units+1<cLine)(hs:x.map NI.sh=y.map NI.sh)(ka:X7 P w s.heap x a)(kb:X7 P w s.heap y b)(fin:Q (decide (x=y)) s) :
  Cc (Cg P w) A (eqBool (.ref a) (.ref b)) Q E s:=by
 unfold eqBool
 try with_reducible refine Cs ?_
 show Cc (Cg P w) A (if(Cb a==Cb b)=true then _ else _) Q E s
 by_cases hab:(Cb a==Cb b)=true
 .rw[Dt hab];let e:a=b:=by have:=eq_of_beq hab;injection this
  subst e;obtain rfl:=ka.inj kb;exact Dm (Eb (Dn (by simpa using fin)))
 .rw[Ds hab];exact Dm (wpAny_richCompare_same_room (op:=.Eq) ka.typeIs kb.typeIs F.slot_tuple_eq
   (Cu F.slot_tuple_eq ka.typeIs F.entry_tuple_eq (Zoo (by show A.units+1<cLine;exact hu) hs ka kb ⟨_,rfl,(λe=>nomatch e),Ee fin⟩) (F.args_tuple_eq_2 _ _)) ())
def Zey{a:Addr}{Q:Bool->Ca->Prop}(nk:X7 P w s.heap ks a)(fin:Q true s):Cc (Cg P w) A (eqIsQuiet 8 (.ref a)) Q E s:=by
 let tyA:=nk.typeIs;let⟨ob,its,m,gt,_,dat,itm⟩:=nk;unfold eqIsQuiet;refine Dm (wpAny_specialOf tyA F.slot_tuple_eq.lookup ?_);show Cc (Cg P w) A (Jdt (.ref a) (.type "tuple") >>= _) _ _ s;refine Dm (wpAny_isInstance tyA isSubtype_tuple_tuple ?_);simp only[Bj,Jy,if_false];refine Dm (wpAny_seqItems gt dat ?_);refine Dm ?_;show Cc (Cg P w) A (forIn its _ _) _ _ s;rw[<-Fv];refine wpAny_forIn_list _ (λrest r s'=>r.1=none/\s'=s/\∃post,Nits P w s.heap post rest) _ ?_ ?_ _ _ ⟨rfl,rfl,ks,itm⟩
 .rintro v rest r s' ⟨ac,rfl,post,hl⟩;cases hl with
  |cons h1 hl =>
   refine Dm (Zkq 6 h1 ?_);simp only[Bj,Jy,if_false];exact Dn ⟨rfl,rfl,_,hl⟩
 .rintro⟨r1,r2⟩ s' ⟨ac,rfl,_⟩;simp only at ac;subst ac;exact Dn fin
end
def Ub(P:El)(w:Hd)(sh:List Nat):HeapKind P w (List NI) where
 is:=λh ks a=>X7 P w h ks a/\ks.map NI.sh=sh
 hash:=λks=>nh ks
 draws:=λks=>(ks.map niD).sum+1
 room:=λA=>A.units+1<cLine
 inj:=λhx hy=>hx.1.inj hy.1
 keeps:=λx ho hd hs=>⟨x.1.keeps ho hd hs,x.2⟩
 pyHash:=λhu hk h=>Zhn hu hk.1 h
 eqBool:=λhu hx hy h=>Zcc hu (by rw[hx.2,hy.2]) hx.1 hy.1 h
 quiet:=λhk h=>Zey hk.1 h
section
theorem Zrp(I:Inv X pq σ H s){k:NI}{v:V}{u:Value}(h:NkV X.K H k v)(r:RelV v u):niIs X.prog X.w s.heap k u:=by
 cases k with
 |k z =>
  cases(show v=.int z from h);let⟨t,rfl⟩:=r;exact Zaq z t
 |t x =>
  let⟨a,rfl,q⟩:=h;cases(show u=Cb a from r);let⟨its,rv,⟨o,e,c,n,d⟩,_⟩:=I.tuple q;refine⟨a,rfl,o,its.toArray,n,e,c,d,?_⟩;let rv':Vals ((x.map (Cp:Int->Key)).map kV) its:=by
   rw[Gb];exact rv
  simpa using Ru rv'
 |b t =>
  cases(show v=.bl t from h);exact r
def Zca(I:Inv X pq σ H s){a:Addr}(h:NkAt X.K H ks a):X7 X.prog X.w s.heap ks a:=by
 let⟨vs,e,r⟩:=h;let⟨its,rv,⟨o,eo,c,n,d⟩,_⟩:=I.tuple e;refine⟨o,its.toArray,n,eo,c,d,?_⟩;let go:∀{ks:List NI}{vs:List V}{us:List Value},Paired (NkV X.K H) ks vs->Vals vs us->Nits X.prog X.w s.heap ks us:=by
  intro ks vs us p
  induction p generalizing us with
  |nil=>intro q;cases q;exact .nil
  |cons a b ih=>intro q;cases q with|cons q1 q2=>exact .cons (Zrp I a q1) (ih q2)
 simpa using go r rv
structure DnAt(K:Ck)(H:Hp)(d:Addr)(sh:List Nat)(kvs:List Nkv):Prop where
 ht:Rd H d (.ext (dnP d kvs))
 ks:∀x∈kvs,NkAt K H x.1 x.2.1/\x.1.map NI.sh=sh
def valN(kvs:List Nkv)(k:List NI):Option V:=(kvs.find? λx=>decide (x.1=k)).map (·.2.2)
def putN(kvs:List Nkv)(k:List NI)(b:Addr)(v:V):List Nkv:=if(kvs.any λx=>decide (x.1=k))then kvs.map (λx=>if x.1=k then(x.1,x.2.1,v)else x)else kvs++[(k,b,v)]
abbrev NRel:List Nkv->List (List NI×Addr×Value)->Prop:=Paired λp q=>p.1=q.1/\p.2.1=q.2.1/\RelV p.2.2 q.2.2
theorem NRel.val:∀{kvs:List Nkv}{xs:List (List NI×Addr×Value)},NRel kvs xs->∀k,RelO (valN kvs k) ((Jdb xs k).map (·.2))
 |_,_,.nil,k=>Ea
 |p::ps,q::qs,.cons h r,k=>by
  let ih:=NRel.val r k;unfold valN Jdb at ih⊢;rw[Gv,Gv,<-h.1]
  by_cases e:p.1=k
  .rw[Du e];exact h.2.2
  .rw[Dv e];exact ih
theorem NRel.any:∀{kvs:List Nkv}{xs:List (List NI×Addr×Value)},NRel kvs xs->∀k,(kvs.any λx=>decide (x.1=k))=(Jdb xs k).isSome
 |_,_,.nil,k=>rfl
 |p::ps,q::qs,.cons h r,k=>by
  let ih:=NRel.any r k;unfold Jdb at ih⊢;rw[B6,Gv,<-h.1]
  by_cases e:p.1=k
  .rw[Du e];rfl
  .rw[Dv e,Jda];exact ih
def NRel.put{kvs:List Nkv}{xs:List (List NI×Addr×Value)}(r:NRel kvs xs)(k:List NI)(b:Addr){v:V}{u:Value}(rv:RelV v u):NRel (putN kvs k b v) (storedH xs k b u):=by
 unfold putN storedH;rw[r.any k]
 by_cases q:(Jdb xs k).isSome=true
 .rw[Dt q,Dt q];let go:∀{kvs:List Nkv}{xs:List (List NI×Addr×Value)},NRel kvs xs->NRel (kvs.map λx=>if x.1=k then(x.1,x.2.1,v)else x) (xs.map (putAt k u)):=by
   intro kvs xs r
   induction r with
   |nil=>exact .nil
   | @cons p q ps qs h t ih =>
    refine .cons ?_ ih;unfold putAt;rw[<-h.1];dsimp only
    by_cases e:p.1=k
    .rw[Dt e,Dt e];exists rfl,h.2.1,rv
    .rw[Ds e,Ds e];exact h
  exact go r
 .rw[Ds q,Ds q];exact Paired.snoc ⟨rfl,rfl,rv⟩ r
def Zfc(I:Inv X pq σ H s){d:Addr}{sh:List Nat}{kvs:List Nkv}(e:DnAt X.K H d sh kvs):kvs.length<=sizeLine/\(d==C9)=false/\∃xs,NRel kvs xs/\s.heap.DictOfH (Ub X.prog X.w sh) d xs:=by
 let⟨⟨z,y,xs,r,o,es,ep,h1,h2,h3,h4,h5⟩,_,_⟩:=e.ht.ok I.hok;refine⟨z,y,xs,r,o,es,ep,h1,h2,h3,h4,?_,h5⟩;let all:∀{l:List Nkv}{m:List (List NI×Addr×Value)},NRel l m->(∀x∈l,NkAt X.K H x.1 x.2.1/\x.1.map NI.sh=sh)->∀x∈m,(Ub X.prog X.w sh).is s.heap x.1 x.2.1:=by
  intro l m q
  induction q with
  |nil=>intro _ x hx;exact nomatch hx
  | @cons p q ps qs hq t ih =>
   intro hl x hx;rcases Gi.mp hx with e|hx
   .subst e;let⟨a1,a2⟩:=hl p Ji;rw[hq.1,hq.2.1]at a1;rw[hq.1]at a2;exists Zca I a1,a2
   .exact ih (λy hy=>hl y (Jg _ hy)) x hx
 exact all r e.ks
theorem Zkd(kvs:List Nkv)(k:List NI)(b:Addr)(v:V):(putN kvs k b v).length<=kvs.length+1:=by
 unfold putN
 split
 .rw[Ja];lia
 .rw[Jc];exact Jd _
variable{d b:Addr}{sh:List Nat}{kvs:List Nkv}{k:List NI}{v:V} 
theorem Zhq{Q:Value->Ca->Prop}(hu:A.units+2<cLine)(I:Inv X pq σ H s)(g:DnAt X.K H d sh kvs)(hk:NkAt X.K H k b)(hs:k.map NI.sh=sh)(l:valN kvs k=some v)(h:∀w' s',Inv X pq σ H s'->RelV v w'->Q w' s') :
  Cc (Cg X.prog X.w) A (Kx (.ref d) (.ref b)) Q E s:=by
 let⟨z,hd,xs,rel,dd⟩:=Zfc I g;let⟨w',hw,rw'⟩:=RelO.some_of (v:=v) (o:=(Jdb xs k).map (·.2)) (by rw[<-l];exact rel.val k);let⟨p,hp,hp2⟩:=G7.mp hw;refine wpAny_getItem_heap (knd:=Ub X.prog X.w sh) (show A.units+1+1<cLine by lia) ⟨Zca I hk,hs⟩ dd hp ?_;rw[hp2];exact h w' _ (I.tok _) rw'
theorem Zop{Q:Value->Ca->Prop}(hu:A.units+2<cLine)(I:Inv X pq σ H s)(g:DnAt X.K H d sh kvs)(hk:NkAt X.K H k b)(hs:k.map NI.sh=sh)(h:∀s',Inv X pq σ H s'->Q (.bool (!(valN kvs k).isSome)) s') :
  Cc (Cg X.prog X.w) A (C8 .NotIn (.ref b) (.ref d)) Q E s:=by
 let⟨z,hd,xs,rel,dd⟩:=Zfc I g;refine wpAny_notIn_heap (knd:=Ub X.prog X.w sh) (show A.units+1+1<cLine by lia) ⟨Zca I hk,hs⟩ hd dd ?_;let q:=(rel.val k).isSome_eq;rw[L7]at q;rw[<-q];exact h _ (I.tok _)
theorem Zrr{z:V}{r:Value}{Q:Value->Ca->Prop}(hu:A.units+2<cLine)(I:Inv X pq σ H s)(g:DnAt X.K H d sh kvs)(hk:NkAt X.K H k b)(hs:k.map NI.sh=sh)(rz:RelV z r)(h:∀w' s',Inv X pq σ H s'->RelV ((valN kvs k).getD z) w'->Q w' s') :
  Cc (Cg X.prog X.w) A (call (.builtin "dict.get") [.ref d,.ref b,r]) Q E s:=by
 let⟨_,hd,xs,rel,dd⟩:=Zfc I g;exact call_meetsIn Ek dd.typeIs Kh (PySem.F.args_dict_get_3 _ _ _) (meetsH_dict_get_default (Ub X.prog X.w sh) d b hd r) ⟨(show A.units+1+1<cLine by lia),k,xs,⟨Zca I hk,hs⟩,dd,h _ _ (I.tok _) ((rel.val k).getD rz)⟩
theorem Zhp{u:Value}{Q:Unit->Ca->Prop}(hu:A.units+2<cLine)(I:Inv X pq σ H s)(g:DnAt X.K H d sh kvs)(hm:H d=some (.ext (dnP d kvs)))(hl:kvs.length<sizeLine)(hk:NkAt X.K H k b)(hs:k.map NI.sh=sh)(rv:RelV v u)(h:∀s',Inv X pq σ (upd H d (.ext (dnP d (putN kvs k b v)))) s'->Q ⟨⟩ s') :
  Cc (Cg X.prog X.w) A (Jfw (.ref d) (.ref b) u) Q E s:=by
 let⟨z,hd,xs,rel,dd⟩:=Zfc I g;let hz:xs.length<=sizeLine:=by rw[<-Paired.length rel];exact z
 let hl':(putN kvs k b v).length<=sizeLine:=by have:=Zkd kvs k b v;lia
 refine wpAny_setItem_heap (knd:=Ub X.prog X.w sh) (hsz:=hz) (show A.units+1+1<cLine by lia) ⟨Zca I hk,hs⟩ dd λh' dd' hs'=>h _ ?_;let⟨q,es,ep,hq,h2,h3,h4,_,h5⟩:=dd';exact Qb I (by rw[hm];exact Ea) hs' ⟨q,hq⟩ (dnP.ok ⟨hl',hd,_,rel.put k b rv,q,es,ep,hq,h2,h3,h4,h5⟩)
end
def Zlu:TE:=λ_ H Q=>∀p,H p=none->Q (.ref p) (upd H p (.ext (dnP p [])))
def NGet(K:Ck)(H:Hp)(a:Addr)(y:V)(o:Option V):Prop:=∃b sh kvs k,y=.ref b/\DnAt K H a sh kvs/\NkAt K H k b/\k.map NI.sh=sh/\o=valN kvs k
def IsN(K:Ck)(H:Hp)(a:Addr):Prop:=∃sh kvs,DnAt K H a sh kvs
def Zqk(K:Ck)(td ty:TE):TE:=λσ H Q=>td σ H λx H1=>ty σ H1 λy H2=>∃a v,x=.ref a/\NGet K H2 a y (some v)/\Q v H2
def Zf1(K:Ck)(ty td:TE):TE:=λσ H Q=>ty σ H λy H1=>td σ H1 λx H2=>∃a o,x=.ref a/\NGet K H2 a y o/\Q (.bl (!o.isSome)) H2
def Zq3(K:Ck)(td ty tv:TE):TS:=λD σ H=>tv σ H λv H1=>td σ H1 λx H2=>ty σ H2 λy H3=>∃a b sh kvs k,x=.ref a/\y=.ref b/\DnAt K H3 a sh kvs/\H3 a=some (.ext (dnP a kvs))/\kvs.length<sizeLine/\NkAt K H3 k b/\k.map NI.sh=sh/\D.nx σ (upd H3 a (.ext (dnP a (putN kvs k b v))))
def Zlt(K:Ck)(td ty tx:TE):TE:=λσ H Q=>td σ H λx H1=>∃a,x=.ref a/\IsN K H1 a/\ty σ H1 λy H2=>tx σ H2 λz H3=>∃o,NGet K H3 a y o/\Q (o.getD z) H3
section
variable{o i e f:Expr}{cpos:Pos}{td ty tv tx:TE}
def Sw:PE X (.Dict [] [] pos) Zlu:=λpq s σ H Q I h =>
 Jea ⟨.ref s.heap.objs.size,_,I.laid (a:=s.heap.objs.size) (o:=.ext (dnP s.heap.objs.size [])) (t':=s.toks) (λ_ _ q=>Do _ q) (Jd _)
  (dnP.ok ⟨Gc _,beq_eq_false_iff_ne.mpr (Et (Gj I.big)),[],.nil,_,#[],0,Dp _ rfl,⟨rfl,rfl,rfl⟩,rfl,rfl,Di⟩),rfl,h _ (I.hok.fresh (Jd _))⟩
theorem Rl(hK:X.K=K)(hu:X.A.units+200<cLine)(ho:PE X o td)(hi:PE X i ty)(hs:NoSl i):PE X (.Subscript o i pos) (Zqk K td ty):=by
 subst hK;intro pq s σ H Q I h;refine Zf4 PySem.F.slot_dict_getitem.lookup hs (thn (ho pq s σ H _ I h) λu s1⟨x,H1,I1,rx,q1⟩=>thn (hi pq s1 σ H1 _ I1 q1) λiv s2 hz=>?_);let⟨y,H2,I2,ry,a,v,ex,⟨b,sh,kvs,k,ey,g,nk,es,l⟩,q2⟩:=hz;subst ex ey;obtain rfl:u=Cb a:=rx;obtain rfl:iv=Cb b:=ry;let⟨_,_,xs,_,dd⟩:=Zfc I2 g;exists dd.typeIs,Zhq () I2 g nk es l.symm λw' s3 I3 rw'=>⟨v,H2,I3,rw',q2⟩
theorem Zhe(hK:X.K=K)(hu:X.A.units+200<cLine)(hi:PE X i ty)(ho:PE X o td):PC X .NotIn i o (Zf1 K ty td):=by
 subst hK;intro pq s σ H Q I h;refine thn (hi pq s σ H _ I h) λiv s1⟨y,H1,I1,ry,q1⟩=>thn (ho pq s1 σ H1 _ I1 q1) λu s2 hz=>?_;let⟨x,H2,I2,rx,a,ov,ex,⟨b,sh,kvs,k,ey,g,nk,es,l⟩,q2⟩:=hz;subst ex ey;obtain rfl:u=Cb a:=rx;obtain rfl:iv=Cb b:=ry;exact Zop () I2 g nk es λs3 I3=>⟨.bl (!(valN kvs k).isSome),H2,I3,rfl,by rw[<-l];exact q2⟩
theorem Zb5(hK:X.K=K)(hu:X.A.units+200<cLine)(ho:PE X o td)(hi:PE X i ty)(hv:PE X value tv)(hs:M7 value (some (.Subscript o i pos')) pos.line X.env=pure false) :
  PS X (.Assign [.Subscript o i pos'] value pos) (Zq3 K td ty tv):=by
 subst hK;intro pq s σ H D I h;refine wpAny_Assign_Subscript (thn (hv pq s σ H _ I h) λr s1⟨v,H1,I1,rv,q1⟩=>thn (ho pq s1 σ H1 _ I1 q1) λu s2⟨x,H2,I2,rx,q2⟩=>thn (hi pq s2 σ H2 _ I2 q2) λiv s3 hz=>?_) hs;let⟨y,H3,I3,ry,a,b,sh,kvs,k,ex,ey,g,hm,hl,nk,es,q3⟩:=hz;subst ex ey;obtain rfl:u=Cb a:=rx;obtain rfl:iv=Cb b:=ry;exact Zhp () I3 g hm hl nk es rv λs4 I4=>⟨σ,_,I4,q3⟩
theorem Zkj(hK:X.K=K)(hu:X.A.units+200<cLine)(ho:PE X o td)(he:PE X e ty)(hf:PE X f tx)(m:M2 X o "get" apos e f cpos):PE X (.Call (.Attribute o "get" apos) [e,f] [] cpos) (Zlt K td ty tx):=by
 subst hK;intro pq s σ H Q I h;refine wpAny_Call_method m.base m.few m.line PySem.F.plainAttrs_dict Ek PySem.F.type_dict_get (thn (ho pq s σ H _ I h) λu s1 hz=>?_);let⟨x,H1,I1,rx,a,ex,⟨sh0,kvs0,d⟩,q1⟩:=hz;subst ex;obtain rfl:u=Cb a:=rx;let⟨_,_,xs,_,dd⟩:=Zfc I1 d;exists dd.typeIs,λb q=>?_,?_
 .cases q;let⟨ob,_,_,h1,h2,_⟩:=dd;exists ob,h1,h2.2.1
 rw[m.trees];refine E6 rfl (K0 (Ka (thn (he pq s1 σ H1 _ I1 q1) λiv s2 ⟨y,H2,I2,ry,q2⟩ =>
  Ka (thn (hf pq s2 σ H2 _ I2 q2) λfv s3⟨z,H3,I3,rz,ov,⟨b,sh,kvs,k,ey,g,nk,es,l⟩,q3⟩=>L5 ?_))))
 subst ey;obtain rfl:iv=Cb b:=ry;exact Zrr () I3 g nk es rz λw' s4 I4 rw'=>⟨_,H3,I4,by rw[l];exact rw',q3⟩
end
def ItdN(K:Ck)(d:Addr)(o:Obj)(vs:List Nkv):It:=⟨λi H=>H d=some (.frz o (.ext (dnP d vs)))/\i<vs.length,λi H x H'=>H'=H/\∃kv,vs[i]?=some kv/\x=.ref kv.2.1,λi H=>H d=some (.frz o (.ext (dnP d vs)))/\vs.length<=i⟩
theorem Rz{d:Addr}{o:Obj}{kvs:List Nkv}{es0:Array DictEntry}(ok:HOk P w H h)(e:H d=some (.frz o (.ext (dnP d kvs))))(hep:o.data=.dict es0 ep) :
  h.get? d=some o/\es0.size=kvs.length/\∀(i:Nat)(h1:i<es0.size)(h2:i<kvs.length),es0[i].key=.ref kvs[i].2.1:=by
 let⟨e1,⟨z,hd,xs,r,ob,es,ep',e2,c,dd,el,nd⟩,_⟩:=(show Y6 P w H h d (.frz o (.ext (dnP d kvs)))from ok d _ e);let eo:ob=o:=Dw (e2.symm.trans e1);subst eo;rw[hep]at dd;injection dd with d1 d2
 subst d1 d2;let lr:=Paired.length r;let ls:es0.size=kvs.length:=by
  let:=congrArg Ex el;rw[Ja,Jj]at this;lia
 exists e1,ls,λi h1 h2=>?_;let hx:i<xs.length:=by lia
 let⟨a1,a2,a3⟩:=L2.Paired.at r h2 hx;let e3:es0.toList[i]'(by rw[Jj];exact h1)=⟨nh xs[i].1,.ref xs[i].2.1,xs[i].2.2⟩:=by
  let:(xs.map (λx=>(⟨nh x.1,.ref x.2.1,x.2.2⟩:DictEntry)))[i]'(by rw[Ja];exact hx)=⟨nh xs[i].1,.ref xs[i].2.1,xs[i].2.2⟩:=Be ..;rw[<-this]
  congr 1
 rw[F6]at e3;rw[e3,a2]
theorem Zep(d:Addr)(o:Obj)(kvs:List Nkv){es0:Array DictEntry}(hep:o.data=.dict es0 ep)(it:Addr):Turn P w K tg (ItdN K d o kvs) [it] it (λi h=>h.IsKeyIter it d i kvs.length ep) where
 mem:=by simp
 obj:=λi h st b hb=>by
  obtain rfl:b=it:=by simpa using hb
  let⟨o,e,c,d⟩:=st;exact⟨o,e,λv z=>by rw[d]at z;cases z⟩
 keep:=λi h h' st k=>let⟨o,e,r⟩:=st;⟨o,k it (by simp) o e,r⟩
 item:=by
  intro X hP hw hK hc i pq s σ H E I hf st hg;subst hP hw hK;let⟨f0,f1,f2,f3,f4,f5⟩:=hf it (by simp);let⟨hd,hi⟩:=hg;let⟨g1,ls,ky⟩:=Rz I.hok hd hep;rw[<-ls]at st;let ka:=ky i () hi;refine Zdy st g1 hep () λh' st' sb=>?_;let I1:Inv X pq σ H {s with heap:=h',toks:=s.toks}:=I.turned (λb o hb e=>(sb.2 b hb).trans e) f0 f1 f3 f4 f5;rw[ls]at st';let⟨o',e',c',d'⟩:=id st';exists es0[i].key,rfl,Zk4 (s:={s with heap:=h',toks:=s.toks}) e' c' d' nofun ⟨.ref kvs[i].2.1,H,I1,ka,⟨rfl,kvs[i],Jb hi,rfl⟩,st',λb hb=>(hf b hb).1⟩
 done:=by
  intro X hP hw hK hc i pq s σ H E I hf st hg;subst hP hw hK;let⟨f0,f1,f2,f3,f4,f5⟩:=hf it (by simp);let⟨hd,hi⟩:=hg;let⟨g1,ls,ky⟩:=Rz I.hok hd hep;rw[<-ls]at st;exact Zhl (I.ok.hd hc) st g1 hep () λh' eb=>⟨rfl,I.turned (t':=s.toks) (λb o hb e=>eb b o hb e) f0 f1 f3 f4 f5⟩
 self:=λ_ _ _ _ _ st h=>wpAny_pyIter_keyiter st h
section
def Zuq(K:Ck)(R:It->Hp->Prop)(d:Addr)(kvs:List Nkv)(H1:Hp):Prop:=(H1 d=some (.ext (dnP d kvs))/\∀o,R (ItdN K d o kvs) (upd H1 d (.frz o (.ext (dnP d kvs)))))\/∃o,H1 d=some (.frz o (.ext (dnP d kvs)))/\R (ItdN K d o kvs) H1
def Zmk(K:Ck)(tl:TE):TI:=λσ H R=>tl σ H λx H1=>∃d kvs,x=.ref d/\Zuq K R d kvs H1
def Zkf(hK:X.K=K){l:Expr}{tl:TE}(hl:PE X l tl):PI X tg l (Zmk K tl):=by
 subst hK;intro pq s σ H R I h;refine thn (hl pq s σ H _ I h) λv s1 hz=>?_;let⟨x,H1,I1,r1,q1⟩:=hz;let⟨d,kvs,e,q⟩:=q1;subst e;cases r1;let go:∀(o:Obj)(H2:Hp),Inv X pq σ H2 s1->H2 d=some (.frz o (.ext (dnP d kvs)))->R (ItdN X.K d o kvs) H2->Cc (Cg X.prog X.w) X.A (pyIter (.ref d)) (PIE X pq σ tg R) X.xe s1:=λo H2 I2 e2 q2=>by
  let⟨e1,⟨z,hd,xs,r,ob,es,ep,e3,c,dd,el,nd⟩,_⟩:=(show Y6 X.prog X.w H2 s1.heap d (.frz o (.ext (dnP d kvs)))from I2.hok d _ e2);let eo:ob=o:=Dw (e3.symm.trans e1);subst eo;let⟨_,ls,_⟩:=Rz I2.hok e2 dd;refine Zh6 hd e3 c dd ?_;exists s1.heap.objs.size,[s1.heap.objs.size],_,_,H2,rfl,I2.kept (t':=s1.toks) λb o e=>Do _ e,Zep d ob kvs dd _,?_,λb hb=>?_,q2
  .rw[<-ls];exists _,Dp _ rfl,rfl,rfl
  .let e:b=s1.heap.objs.size:=by simpa using hb
   subst e;exact I2.fpOk (Jd _) (I2.hok.fresh (Jd _))
 rcases q with⟨e1,q⟩|⟨o,e1,q⟩
 .let⟨⟨z,hd,xs,r,ob,es,ep,e3,c,dd,el,nd⟩,_,_⟩:=I1.hok d _ e1;let I2:Inv X pq σ (upd H1 d (.frz ob (.ext (dnP d kvs)))) {s1 with heap:=s1.heap,toks:=s1.toks}:=I1.write (x:=d) (e:=d) (by rw[e1];exact trivial) (.inl rfl) (λb u _ h=>h) ⟨_,e3⟩ ⟨e3,dnP.ok ⟨z,hd,xs,r,ob,es,ep,e3,c,dd,el,nd⟩⟩;exact go ob _ I2 Zh (q ob)
 .exact go o H1 I1 e1 q
end
end L2
namespace L2
open PySem PySem.W PyProof.Rows HT PySem.Calls
section
theorem Zjx{κ:SortKind}{L:List KIt}(I:Inv X pq σ H s)(hcol:∀{A:Kf}{R:List Value->Ca->Prop}{E:Value->Ca->Prop},A.handled=X.A.handled->(∀(h':Heap)(tk:Nat),(∀b o,s.heap.get? b=some o->h'.get? b=some o)->R (Zg L) {s with heap:=h',toks:=tk})->Cc (Cg X.prog X.w) A (collect (.ref l)) R E s)(h64:L.length<65536)(na:(L.map (·.2.1)).Nodup)(nd:(L.map (·.2.2)).Nodup)(hkind:∀(pins':List (Addr×Obj))(s':Ca),Inv X pins' σ H s'->1<L.length->∀{E:Value->Ca->Prop}{A:Kf}{Q:SortKind->Ca->Prop},Q κ s'->Cc (Cg X.prog X.w) A (keyKind' (Zg L).toArray) Q E s')(hcmp:∀(pins':List (Addr×Obj))(s':Ca),1<L.length->Inv X pins' σ H s'->CmpR (Y1 (L.reverse.map (·.2.2))) L.reverse.length (kas_ask X.prog X.w X.A.in1.in1 κ (Zg L.reverse)) s')(h:∀(D:Addr)(L':List KIt),H D=none->L'.Perm L->L'.Pairwise (λa b=>HT.lexLt b.2.2 a.2.2=true)->Q (.ref D) (upd H D (.lst (L'.map λq=>V.ref q.2.1)))) :
  Cc (Cg X.prog X.w) X.A (call (.builtin "sorted") [.ref l] [(C1 "reverse",.bool true)]) (EP X pq σ Q) E s:=by
 let el:(Zg L).length=L.length:=by simp[Zg]
 refine call_function_entry_kw kind_sorted plain_sorted entry_sorted (args_sorted_rev _ _) ?_;unfold Builtin.«sorted»;refine Dm (m:=checkCount "sorted" 1 1 _) (Dn ?_);refine Dm (hcol rfl λh1 tk1 keep1=>?_);refine Dm (Hf ?_ (by rw[Cj];lia));let sz:=I.fpOk (H':=H) (Jd _) (I.hok.fresh (Jd _));let J:Inv X pq σ H {s with heap:=h1,toks:=tk1}:=I.kept (t':=tk1) keep1;let hoL:(h1.push (Cv "list" (Zg L).toArray 0)).get? h1.objs.size=some (Cv "list" (Zg L).toArray 0):=Dp _ rfl;let fD:FpOk X pq H h1.objs.size:=J.fpOk (Jd _) (J.hok.fresh (Jd _));let I1:Inv X pq σ H {s with heap:=h1.push (Cv "list" (Zg L).toArray 0),toks:=tk1}:=J.kept (t':=tk1) λb o e=>Do _ e
 generalize hD:h1.objs.size=D at *
 generalize hh:h1.push (Cv "list" (Zg L).toArray 0)=hp at *
 refine Dm (Cs (wpAny_call_entry_kw PyProof.Rows.slot_list_sort ⟨_,hoL,rfl⟩ PyProof.Rows.entry_list_sort ?body (args_list_sort_rev _ _)))
 case body =>
  show Cc (Cg X.prog X.w) X.A.in1.in1 (Builtin.«list.sort» ⟨[.ref D],[(C1 "reverse",.bool true)]⟩) _ _ _;let s1:=Ct hp D (Ch λ_=>(#[]:Array Value));obtain⟨e1,ho1⟩:∃e1,(hp.update D (Ch λ_=>(#[]:Array Value))).get? D=some (Cv "list" #[] e1):=⟨_,Er hoL λ_=>#[]⟩;let I2:=(I1.turn1 fD s1).pin1 fD ho1 (by intro v;simp);let I3:Inv X (pq++[PD D e1]) σ H {s with toks:=tk1,heap:=((hp.update D (Ch λ_=>(#[]:Array Value))).push (Cv "tuple" (Zg L).toArray 0)).push (Cv "list" #[] 0)} :=
   I2.kept (t':=tk1) λb o e=>Do _ (Do _ e)
  let fin:∀(s':Ca)(L':List KIt)(st:SortSt),Inv X (pq++[PD D e1]) σ H s'->L'.Perm L->∃c2,(s'.heap.update D (Ch λ_=>(Zg L').toArray)).get? D=some (Cv "list" (Zg L').toArray c2)/\Inv X pq σ (upd H D (.lst (L'.map λq=>V.ref q.2.1))) {s' with heap:=s'.heap.update D (Ch λ_=>(Zg L').toArray)}:=λs' L' st J pm=>by
   let pd:=J.pin (PD D e1) (Jm _ (Jm _ (Jf.mpr rfl)));let s2:=Ct s'.heap D (Ch λ_=>(Zg L').toArray);obtain⟨c2,hc2⟩:∃c2,(s'.heap.update D (Ch λ_=>(Zg L').toArray)).get? D=some (Cv "list" (Zg L').toArray c2):=⟨_,Er pd.1 λ_=>(Zg L').toArray⟩;let J2:=(J.unpinned (pl:=[PD D e1])).turn1 fD s2;let go:∀M:List KIt,Vals (M.map λq=>V.ref q.2.1) (Zg M):=λM=>by
    induction M with
    |nil=>exact .nil
    |cons y r ih=>exact .cons rfl ih
   exists c2,hc2,J2.track (its:=Zg L') (n:=c2) hc2 fD (go L') (by rw[Ja,pm.length_eq,Cj];lia)
  rw[list_sort_rev];refine Dm (listItems_at hoL rfl ?_);refine Dm (Ed hoL rfl ?_ (by rw[Jl,Cj];lia) (Gc _));refine Dm (seqEpoch_at ho1 rfl ?_);refine Dm (wpAny_newTuple ?_ (by show(Zg L).length<=_;rw[Cj];lia));refine Dm (Hf ?_ (Gc _));refine Cs ?_;show Cc (Cg X.prog X.w) _ _ _ _ {s with toks:=tk1,heap:=((hp.update D (Ch λ_=>(#[]:Array Value))).push (Cv "tuple" (Zg L).toArray 0)).push (Cv "list" #[] 0)};dsimp only;let pd:=I3.pin (PD D e1) (Jm _ (Jm _ (Jf.mpr rfl)));refine Dm (Eb ?_);let ez:((Zg L).toArray.zip (Zg L).toArray).reverse=(Zg L.reverse).toArray.zip (Zg L.reverse).toArray:=by
   let er:Zg L.reverse=(Zg L).reverse:=by unfold Zg;rw[Ft]
   rw[er]
   apply Fp.mp
   rw[Bp,ksk_zip,ksk_zip];let go:∀xs:List Value,xs.zip xs=xs.map λv=>(v,v):=λxs=>by
    induction xs with
    |nil=>rfl
    |cons x r ih=>rw[Fa,ih];rfl
   rw[go,go,Ft]
  simp only[if_true,ez]
  by_cases h2:(Zg L).toArray.size<2
  .rw[Dt h2,Dt h2];refine Dm (Dn ?_);refine Dm (m:=(pure ⟨⟩:StateT SortSt Sem Unit).run _) (Dn ?_);let h2':L.length<2:=by simpa[Zg]using h2
   let rl:L.reverse=L:=by
    match L,h2' with
    |[],_=>rfl
    |[q],_=>rfl
    |_::_::_,h2'=>simp only[J0]at h2';lia
   let ea:(((Zg L.reverse).toArray.zip (Zg L.reverse).toArray).map (·.2)).reverse=(Zg L).toArray:=by
    rw[rl]
    apply Fp.mp
    rw[Bp,Db,ksk_zip];simp only[Ky (Jd _)];show(L.map λq=>Cb q.2.1).reverse=_;rw[<-Ft,rl];rfl
   let⟨c2,hc2,I4⟩:=fin _ L (SortSt.mk' general' #[] #[] 7 none) I3 (Kp _);refine Dm (seqEpoch_at pd.1 rfl ?_);refine Dm (Ed pd.1 rfl ?_ (Gc _) (by show(((Zg L.reverse).toArray.zip (Zg L.reverse).toArray).map (·.2)).reverse.size<=_;rw[ea,Jl,Cj];lia));show Cc (Cg X.prog X.w) _ (if(e1 != e1)=true then _ else ret Value.none) _ _ _;simp only[bne_self_eq_false,Jy,if_false];refine Dn ⟨_,rfl,Dn ⟨_,rfl,.ref D,_,?_,rfl,h D L fD.1 (Kp _) ?_⟩⟩
   .let e2:(Array.map (λx=>x.snd) (arrOf (SortSt.mk' general' ((Zg L.reverse).toArray.zip (Zg L.reverse).toArray) #[] 7 none))).reverse=(Zg L).toArray:=ea;rw[e2];exact I4
   .match L,h2' with
    |[],_=>exact .nil
    |[q],_=>exact Bo _ _
    |_::_::_,h2'=>simp only[J0]at h2';lia
  .rw[Ds h2,Ds h2];let h2':2<=(Zg L).length:=by simpa using h2
   refine Dm (hkind _ _ I3 () ?_);let hcm:=hcmp _ _ () I3;let pr:L.reverse.Perm L:=Fl _;let nd':(L.reverse.map (·.2.2)).Nodup:=by rw[Ft];exact(Fl _).nodup_iff.mpr nd
   let nk:(Zg L.reverse).Nodup:=by
    let e:Zg L.reverse=((L.map (·.2.1)).map Cb).reverse:=by simp[Zg]
    rw[e];exact(Fl _).nodup_iff.mpr (List.Pairwise.map _ (λa b h z=>h (Cb.inj z)) na)
   let el:(Zg L.reverse).length=L.reverse.length:=by simp[Zg]
   let lr:L.reverse.length=L.length:=Dd;generalize hR:L.reverse=R at *
   refine Dm (Dy (Zd4 (vs:=Zg R) (ks:=Zg R) (rk:=Y1 (R.map (·.2.2))) (n:=R.length) rfl el nk hcm λi j hi hj z=>Ua nd' (by simpa using hi) (by simpa using hj) z) ?_ λ_ _ x=>x);rintro⟨⟨⟩,st'⟩ s' ⟨p,rfl,g,hs,har,hf⟩;let hp2:∀i∈p.toList,i<R.length:=λi hi=>by
    let:=(Gq.mp g.perm).mem_iff.mp hi;simpa using this
   let pl2:p.toList.Perm (Co R.length):=by have:=Gq.mp g.perm;simpa using this
   let rangeL:(Co R.length).map (λi=>R.getD i (.non,0,[]))=R:=by
    apply Mp
    .simp
    .intro i h1 h2;simp[Gf,h2]
   let pm0:(p.toList.map λi=>R.getD i (.non,0,[])).Perm R:=by
    let:=pl2.map λi=>R.getD i (.non,0,[]);rwa [rangeL]at this
   let pm:(p.toList.map λi=>R.getD i (.non,0,[])).reverse.Perm L:=((Fl _).trans pm0).trans pr;let ea:((arrOf st').map (·.2)).reverse=(Zg (p.toList.map λi=>R.getD i (.non,0,[])).reverse).toArray:=by
    rw[kat_snds rfl har]
    apply Fp.mp
    rw[Bp];show _=((p.toList.map λi=>R.getD i (.non,0,[])).reverse.map λq=>Cb q.2.1);rw[Ft,Gb]
    congr 1
    refine Bf λi hi=>?_;let hi:=hp2 i hi;show(Zg R).getD i Value.none=Cb (R.getD i (.non,0,[])).2.1;rw[show(Zg R).getD i Value.none=Cb R[i].2.1 from Z8 hi,Gf,Jb hi];rfl
   let⟨c2,hc2,I4⟩:=fin _ _ st' I3 pm;refine Dm (seqEpoch_at pd.1 rfl ?_);refine Dm (Ed pd.1 rfl ?_ (Gc _) (by show((arrOf st').map (·.2)).reverse.size<=_;rw[ea,Jl,Cj,show(Zg (p.toList.map λi=>R.getD i (.non,0,[])).reverse).length=R.length by simp[Zg,g.size]];lia));dsimp only;rw[hf];simp only[bne_self_eq_false,Jy,if_false];refine Dn ⟨_,rfl,Dn ⟨_,rfl,.ref D,_,?_,rfl,h D _ fD.1 pm ?_⟩⟩
   .rw[ea];exact I4
   .rw[List.pairwise_reverse,Gp];intro i j hi hj hij;simp only[Ja,Jj,g.size]at hi hj;let gi:=g.lt i hi;let gj:=g.lt j hj;let hle:=hs i j (Br hij) hj;let hne:=g.ne hi hj (Gj hij);unfold Rk at hle;let hlt:Y1 (R.map (·.2.2)) (p.getD i 0)<Y1 (R.map (·.2.2)) (p.getD j 0):=by
     rcases Int.lt_or_eq_of_le hle with z|z
     .exact z
     .exact absurd (Ua nd' (by simpa using gi) (by simpa using gj) z) hne
    let hd:=Wq nd' (i:=p.getD i 0) (j:=p.getD j 0) (by simpa using gi) (by simpa using gj);rw[Du hlt,Z8 gi,Z8 gj]at hd;let ei:p.getD i 0=p[i]'(by rw[g.size];exact hi):=by simp[He,g.size,hi]
    let ej:p.getD j 0=p[j]'(by rw[g.size];exact hj):=by simp[He,g.size,hj]
    simp only[Be,F6,Gf];let gi':=gi;let gj':=gj;rw[ei]at gi';rw[ej]at gj';rw[Jb gi',Jb gj'];simp only[ei,ej]at hd;exact hd.symm
end
section
def KpAt(K:PySem.W.Frag)(H:Hp)(q:KIt):Prop:=∃(t:Addr)(z:Int)(w:List Int),SqT K H q.2.1 [.int z,.ref t]/\SqT K H t (w.map V.int)/\q.2.2=z::w
theorem Zow{L:List KIt}(I:Inv X pq σ H s)(hk:∀q∈L,KpAt X.K H q)(h2:0<L.length){Q:SortKind->Ca->Prop}(h:Q (tuples' true) s) :
  Cc (Cg X.prog X.w) A (keyKind' (Zg L).toArray) Q E s:=by
 let tk:∀L':List KIt,(∀q∈L',q∈L)->∃fs:List Value,KatTups s.heap (Zg L') fs/\fs.length=L'.length/\∀v∈fs,∃n t,v=.int n t:=by
  intro L'
  induction L' with
  |nil=>intro _;exists [],.nil,rfl,λv hv=>nomatch hv
  |cons q r ih =>
   intro hm;let⟨fs,a,b,c⟩:=ih λx hx=>hm x (Jg _ hx);let⟨t,z0,w0,sq,_⟩:=hk q (hm q Ji);let⟨its,rv,⟨o,e,hc,n,hd⟩,_⟩:=I.tuple sq;cases rv with
   |cons rv1 rv2 =>
    let⟨tk,et⟩:=rv1;exists .int z0 tk::fs,KatTups.cons e hc hd ?_ a,by simp[b],λv hv=>?_
    .rw[et];simp
    .rcases Gi.mp hv with e|hv
     .exists _,tk,e
     .exact c v hv
 let⟨fs,a,b,c⟩:=tk L λ_ h=>h;exact kat_kind (T:=.type "int") a () (λv hv=>by let⟨n,t,e⟩:=c v hv;subst e;exact .now) nofun h
theorem Zrx{L:List KIt}(I:Inv X pq σ H s)(hu:A.units<cLine)(hk:∀q∈L,KpAt X.K H q)(nd:(L.map (·.2.2)).Nodup) :
  CmpR (Y1 (L.map (·.2.2))) L.length (kas_ask X.prog X.w A (tuples' true) (Zg L)) s:=by
 intro i j C hi hj h;rw[Wq nd (by simpa using hi) (by simpa using hj),Z8 hi,Z8 hj]at h;unfold kas_ask;rw[show(Zg L).getD i Value.none=Cb L[i].2.1 from Z8 hi,show(Zg L).getD j Value.none=Cb L[j].2.1 from Z8 hj];let⟨t1,z1,w1,sq1,st1,e1⟩:=hk _ (Ju hi);let⟨t2,z2,w2,sq2,st2,e2'⟩:=hk _ (Ju hj);let⟨its,rv,⟨o,e,hc,n,hd⟩,_⟩:=I.tuple sq1;let⟨its2,rv2,⟨o2,e2,hc2,n2,hd2⟩,_⟩:=I.tuple sq2;let⟨us,ru,⟨p,ep,hcp,m,hdp⟩,_⟩:=I.tuple st1;let⟨us2,ru2,⟨p2,ep2,hcp2,m2,hdp2⟩,_⟩:=I.tuple st2;refine kat_lt e hd e2 hd2 ?_;cases rv with
 | @cons _ a1 _ _ a2 a3 =>
  cases a3 with
  | @cons _ b1 _ _ b2 b3 =>
   cases b3;cases rv2 with
   | @cons _ c1 _ _ c2 c3 =>
    cases c3 with
    | @cons _ d1 _ _ d2 d3 =>
     cases d3;let⟨k1,rfl⟩:=a2;let⟨k2,rfl⟩:=c2;obtain rfl:b1=.ref t1:=b2;obtain rfl:d1=.ref t2:=d2;let ia:=Ws ru;let ib:=Ws ru2;rw[e1,e2',HT.lexLt_cons]at h;refine kat_cons (Kw ?_)
     by_cases hz:z1=z2
     .rw[Dt hz]at h;rw[show(z1==z2)=true from beq_iff_eq.mpr hz];refine kat_yes (kat_cons (wpAny_eqBool_tuple (knd:=intKind X.prog X.w) () ⟨p,_,m,ep,hcp,hdp,items_int ia⟩ ⟨p2,_,m2,ep2,hcp2,hdp2,items_int ib⟩ ?_))
      by_cases hw:w1=w2
      .rw[Du hw];rw[hw,P9]at h;exact kat_yes (kat_nil h)
      .rw[Dv hw];refine kat_no (kat_one _ _ ?_);exact Zqc () ep hcp hdp ep2 hcp2 hdp2 ia ib h
     .rw[Ds hz]at h;rw[show(z1==z2)=false from beq_eq_false_iff_ne.mpr hz];exact kat_no (oneLt_int h)
def encP:List NI->List Int
 |[.k z,.t w]=>z::w
 |_=>[]
theorem Nt(h:ks.map NI.sh=[0,1]):∃z w,ks=[.k z,.t w]:=by
 match ks,h with
 |[.k z,.t w],_=>exact⟨z,w,rfl⟩
theorem Zuk{K:PySem.W.Frag}{a:Addr}(h:NkAt K H ks a)(hs:ks.map NI.sh=[0,1]):KpAt K H (.non,a,encP ks):=by
 let⟨z,w,rfl⟩:=Nt hs;let⟨vs,e,r⟩:=h;cases r with
 |cons r1 r2 =>
  cases r2 with
  |cons r2 r3 =>
   cases r3;let⟨b,rfl,sb⟩:=r2;cases(show _=V.int z from r1);exists b,z,w,e,sb,rfl
def kitN(kvs:List Nkv):List KIt:=kvs.map λq=>(.non,q.2.1,encP q.1)
theorem Zk8{d:Addr}{sh:List Nat}{kvs:List Nkv}(hc:X.calm=true)(I:Inv X pq σ H s)(g:DnAt X.K H d sh kvs) :
  (kvs.map (·.1)).Nodup/\(kvs.map λq=>q.2.1).Nodup/\∀{A:Kf}{R:List Value->Ca->Prop}{E:Value->Ca->Prop},A.handled=X.A.handled->(∀(h':Heap)(tk:Nat),(∀b o,s.heap.get? b=some o->h'.get? b=some o)->R (kvs.map λq=>Cb q.2.1) {s with heap:=h',toks:=tk})->Cc (Cg X.prog X.w) A (collect (.ref d)) R E s:=by
 let⟨⟨z,lo,xs,rel,o,es,ep,h1,h2,h3,h4,h5⟩,_,hq⟩:=g.ht.ok I.hok;clear hq;let lr:=Paired.length rel;let ls:es.size=xs.length:=by
  let:=congrArg Ex h4;rw[Ja,Jj]at this;exact this
 let e1:kvs.map (·.1)=xs.map (·.1):=by
  clear g h4 ls lr h5 z
  induction rel with
  |nil=>rfl
  |cons a b ih=>rw[Jp,Jp,a.1,ih]
 let e2:(kvs.map λq=>q.2.1)=xs.map λq=>q.2.1:=by
  clear g h4 ls lr h5 z e1
  induction rel with
  |nil=>rfl
  |cons a b ih=>rw[Jp,Jp,a.2.1,ih]
 exists by rw[e1];exact h5,?_,λ{A R E}hA hR=>?_
 .let nd:(kvs.map (·.1)).Nodup:=by rw[e1];exact h5
  exact Jz.mpr ((Jz.mp nd).imp_of_mem λ{a b}ha hb h z=>h ((Zca I (g.ks a ha).1).inj (by rw[z];exact Zca I (g.ks b hb).1)))
 .refine kdu_collect (A:=A) (Zoz lo h2 h3) (hA.trans (I.ok.hd hc)) h1 (by rw[ls,<-lr];exact z) λh' tk acc hk' hacc=>?_;let hal:acc.toList=kvs.map λq=>Cb q.2.1:=by
   let e3:(kvs.map λq=>Cb q.2.1)=(xs.map λq=>q.2.1).map Cb:=by rw[<-e2,Gb];rfl
   rw[e3]
   apply Mc
   intro j;rw[Gb]
   by_cases hj:j<xs.length
   .let hj2:j<acc.size:=by rw[hacc.1,ls];exact hj
    let⟨hj3,ev⟩:=hacc.2 j acc[j] (by rw[G1 hj2]);let e4:es.toList[j]?=some ⟨nh xs[j].1,.ref xs[j].2.1,xs[j].2.2⟩:=by rw[h4,Ge,Jb hj];rfl
    rw[Jr,G1 hj3]at e4;let e4:=Dw e4;rw[Jr,G1 hj2,ev,e4,Ge,Jb hj];rfl
   .rw[Jr,Array.getElem?_eq_none (by rw[hacc.1,ls];lia),Bh (by rw[Ja];lia)]
  rw[hal];exact hR h' tk hk'
def Zox{kvs:List Nkv}(nd:(kvs.map (·.1)).Nodup)(hs:∀x∈kvs,x.1.map NI.sh=[0,1]):((kitN kvs).map (·.2.2)).Nodup:=by
 unfold kitN;rw[Gb];refine Jz.mpr ((Jz.mp nd).imp_of_mem λ{a b}ha hb h z=>h ?_);let⟨z1,w1,e1⟩:=Nt (hs a ha);let⟨z2,w2,e2⟩:=Nt (hs b hb);let z:encP a.1=encP b.1:=z;rw[e1,e2]at z⊢;injection z with q1 q2
 rw[q1,q2]
def Zb2(K:PySem.W.Frag)(rv:Bool):List V->Hp->VK->Prop:=λxs H Q=>∃(d:Addr)(kvs:List Nkv),xs=[.ref d]/\DnAt K H d [0,1] kvs/\kvs.length<65536 /\
 ∀(D:Addr)(L':List KIt),H D=none->L'.Perm (kitN kvs)->L'.Pairwise (λa b=>if rv then HT.lexLt b.2.2 a.2.2=true else HT.lexLt a.2.2 b.2.2=true)->Q (.ref D) (upd H D (.lst (L'.map λq=>V.ref q.2.1)))
variable{e v:Expr}{ta:TA}{p kpos:Pos}
def Zls(K:PySem.W.Frag)(ta:TA):TE:=λσ H Q=>ta σ H λvs H1=>Zb2 K true vs H1 Q
theorem Zkh{K:PySem.W.Frag}(hc:X.calm=true)(hK:X.K=K)(hu:X.A.units+200<cLine)(hg:Gl X "sorted")(hm:X.mg "sorted"=none)(ha:PA X [e] ta)(hk:PK X [⟨some "reverse",v,kpos⟩] (Zjv (tC (.bl true)) tNil))(he:Cn [e] X.env=[(false,eval e X.env)]:=by rfl) :
  PE X (.Call (.Name "sorted" p) [e] [⟨some "reverse",v,kpos⟩] pos) (Zls K ta):=by
 subst hK;intro pq s σ H Q I h;refine Ej (Q4 I hg hm Ec ?_);refine callWith_kw (thn (ha pos pq s σ H _ I h) λus s1 hz=>?_) (by rw[he];rfl) (by rw[he];rfl);let⟨vs,H1,I1,r1,q1⟩:=hz;refine thn (hk pos pq s1 σ H1 (λzs H2=>zs=[.bl true]/\Zb2 X.K true vs H2 Q) I1 ⟨rfl,q1⟩) λws s2 hz=>?_;let⟨zs,H2,I2,rz,ez,q⟩:=hz;subst ez;let⟨dv,rfl,rd⟩:=Vals.one rz;cases(show dv=Hr true from rd);let⟨d,kvs,rfl,g,h64,q⟩:=q;let⟨u,rfl,ru⟩:=Vals.one r1;obtain rfl:u=Cb d:=ru;let⟨nd,na,col⟩:=Zk8 hc I2 g;let hk:∀q∈kitN kvs,KpAt X.K H2 q:=λq hq=>by
  let⟨x,hx,rfl⟩:=Jq.mp hq;exact Zuk (g.ks x hx).1 (g.ks x hx).2
 let ev:Zg (kitN kvs)=kvs.map λq=>Cb q.2.1:=by unfold Zg kitN;rw[Gb];rfl
 let n2:=Zox nd λx hx=>(g.ks x hx).2;show Cc _ _ (call (.builtin "sorted") [.ref d] [(C1 "reverse",.bool true)]) _ _ s2;refine Zjx I2 (λ{A R E}hA hR=>col hA (by rw[<-ev];exact hR)) (by unfold kitN;rw[Ja];exact h64) (by unfold kitN;rw[Gb];exact na) n2 (λ_ _ J h0{_ _ _}q=>Zow J hk () q) (λ_ _ _ J=>Zrx J (by show X.A.units+1+1<cLine;lia) (λq hq=>hk q (List.mem_reverse.mp hq)) (by rw[Ft];exact(Fl _).nodup_iff.mpr n2)) λD L' hD pm pw=>q D L' hD pm (pw.imp λz=>by simpa using z)
end
end L2
namespace L3
open PySem L2
structure Cf where
 c:Addr
 k:Ck
variable{C:L3.Cf}
inductive D where
 |non|bl (b:Bool)|int (i:Int)|str (x:Str)|ty (n:String)|at(a:Addr)
 |tup (xs:List D)|lst (xs:List D)|frz (xs:List D)|dct (kvs:List (Key×D))|dcT (kvs:List (List Key×D))
 |code (S:List Pr)|cell (k:Nat)|exc (C:Addr) (fs:List (Str×D))|nst (ks:List NI)|itp (x:List Int)
variable{ds:List L3.D}
inductive MO where
 |lst (xs:List D)|dct (kvs:List (Key×D))|dcT (kvs:List (List Key×D))|drK (kvs:List (Key×D))|drT (kvs:List (List Key×D))|dfT (o:Obj) (vs:List (List Key×V)) (kvs:List (List Key×D))|dfK (o:Obj) (vs:List (Key×V)) (kvs:List (Key×D))|ins (C:Addr) (fs:List (Str×D))|hand|tab (P:Addr) (pos:Pos) (q:Str)|dcN (sh:List Nat) (z:Option (Obj×List Nkv)) (kvs:List (List NI×D))
variable{m:L3.MO}
abbrev Mem:=List MO
mutual
inductive Rep(C:Cf)(I:Hp)(α:List Addr):V->D->Prop where
 |non:Rep C I α .non .non
 |bl (b:Bool):Rep C I α (.bl b) (.bl b)
 |int (i:Int):Rep C I α (.int i) (.int i)
 |str (x:Str):Rep C I α (.str x) (.str x)
 |ty (n:String):Rep C I α (.ty n) (.ty n)
 |at(a:Addr):Rep C I α (.ref a) (.at a)
 |tup {a:Addr} {vs:List V} {ds:List D}:I a=some (.tup vs)->Reps C I α vs ds->Rep C I α (.ref a) (.tup ds)
 |lst {a:Addr} {vs:List V} {ds:List D}:I a=some (.lst vs)->Reps C I α vs ds->Rep C I α (.ref a) (.lst ds)
 |frz {a:Addr} {vs:List V} {ds:List D}:SqL C.k I a vs->Reps C I α vs ds->Rep C I α (.ref a) (.frz ds)
 |dct {a:Addr} {vs:List (Key×V)} {ds:List (Key×D)}:I a=some (.dK vs)->RepK C I α vs ds->Rep C I α (.ref a) (.dct ds)
 |dcT {a:Addr} {vs:List (List Key×V)} {ds:List (List Key×D)}:I a=some (.dT vs)->RepT C I α vs ds->Rep C I α (.ref a) (.dcT ds)
 |code {x:Addr} {S:List Pr}:Uq C.c I x S->Rep C I α (.ref x) (.code S)
 |cell {a:Addr} {k:Nat}:α[k]?=some a->Rep C I α (.ref a) (.cell k)
 |exc {ea Ce:Addr} {d:Option Addr} {vs:List (Str×V)} {fs:List (Str×D)}:I ea=some (.ext (excP ea Ce d))->XD I d vs->RepF C I α vs fs->Rep C I α (.ref ea) (.exc Ce fs)
 |nst {a:Addr} {ks:List NI}:NkAt C.k I ks a->Rep C I α (.ref a) (.nst ks)
 |itp {a:Addr} {x:List Int}:SqT C.k I a (x.map V.int)->Rep C I α (.ref a) (.itp x)
inductive Reps(C:Cf)(I:Hp)(α:List Addr):List V->List D->Prop where
 |nil:Reps C I α [] []
 |cons {v:V} {d:D} {vs:List V} {ds:List D}:Rep C I α v d->Reps C I α vs ds->Reps C I α (v::vs) (d::ds)
inductive RepK(C:Cf)(I:Hp)(α:List Addr):List (Key×V)->List (Key×D)->Prop where
 |nil:RepK C I α [] []
 |cons {k:Key} {v:V} {d:D} {vs:List (Key×V)} {ds:List (Key×D)}:Rep C I α v d->RepK C I α vs ds->RepK C I α ((k,v)::vs) ((k,d)::ds)
inductive RepF(C:Cf)(I:Hp)(α:List Addr):List (Str×V)->List (Str×D)->Prop where
 |nil:RepF C I α [] []
 |cons {k:Str} {v:V} {d:D} {vs:List (Str×V)} {ds:List (Str×D)}:Rep C I α v d->RepF C I α vs ds->RepF C I α ((k,v)::vs) ((k,d)::ds)
inductive RepT(C:Cf)(I:Hp)(α:List Addr):List (List Key×V)->List (List Key×D)->Prop where
 |nil:RepT C I α [] []
 |cons {k:List Key} {v:V} {d:D} {vs:List (List Key×V)} {ds:List (List Key×D)}:Rep C I α v d->RepT C I α vs ds->RepT C I α ((k,v)::vs) ((k,d)::ds)
end
section
def Zg4{k:Nat}{a:Addr}(p:α<+:α')(h:α[k]?=some a):α'[k]?=some a:=by
 let⟨t,rfl⟩:=p;let⟨hk,_⟩:=Je.mp h;rw[Js hk];exact h
mutual
theorem Rep.mono(s:Same I I')(p:α<+:α'):∀{v:V}{d:D},Rep C I α v d->Rep C I' α' v d:=by
 intro _ _ h;cases h with
 |non=>exact .non
 |bl b=>exact .bl b
 |int i=>exact .int i
 |str x=>exact .str x
 |ty n=>exact .ty n
 |«at» a=>exact .at a
 |tup e r=>exact .tup (s _ _ e) (Reps.mono s p r)
 |lst e r=>exact .lst (s _ _ e) (Reps.mono s p r)
 |frz e r=>exact .frz (s.seq e) (Reps.mono s p r)
 |dct e r=>exact .dct (s _ _ e) (RepK.mono s p r)
 |dcT e r=>exact .dcT (s _ _ e) (RepT.mono s p r)
 |code h=>exact .code (h.same s)
 |cell e=>exact .cell (Zg4 p e)
 |exc e f r=>exact .exc (s _ _ e) (f.mono s) (RepF.mono s p r)
 |nst e=>exact .nst (e.same s)
 |itp e=>exact .itp (Su s e)
theorem Reps.mono(s:Same I I')(p:α<+:α'):∀{vs:List V}{ds:List D},Reps C I α vs ds->Reps C I' α' vs ds:=by
 intro _ _ h;cases h with
 |nil=>exact .nil
 |cons h r=>exact .cons (Rep.mono s p h) (Reps.mono s p r)
theorem RepK.mono(s:Same I I')(p:α<+:α'):∀{vs:List (Key×V)}{ds:List (Key×D)},RepK C I α vs ds->RepK C I' α' vs ds:=by
 intro _ _ h;cases h with
 |nil=>exact .nil
 |cons h r=>exact .cons (Rep.mono s p h) (RepK.mono s p r)
theorem RepF.mono(s:Same I I')(p:α<+:α'):∀{vs:List (Str×V)}{ds:List (Str×D)},RepF C I α vs ds->RepF C I' α' vs ds:=by
 intro _ _ h;cases h with
 |nil=>exact .nil
 |cons h r=>exact .cons (Rep.mono s p h) (RepF.mono s p r)
theorem RepT.mono(s:Same I I')(p:α<+:α'):∀{vs:List (List Key×V)}{ds:List (List Key×D)},RepT C I α vs ds->RepT C I' α' vs ds:=by
 intro _ _ h;cases h with
 |nil=>exact .nil
 |cons h r=>exact .cons (Rep.mono s p h) (RepT.mono s p r)
end
theorem Reps.length:∀{vs:List V}{ds:List D},Reps C I α vs ds->vs.length=ds.length:=by
 intro _ _ hz9;cases hz9 with
 |nil=>
  exact rfl
 |cons _ r=>
  exact by rw[J0,J0,Reps.length r]
theorem Reps.get:∀{vs:List V}{ds:List D}{i:Nat}{d:D},Reps C I α vs ds->ds[i]?=some d->∃v,vs[i]?=some v/\Rep C I α v d
 |_,_,_,_,.nil,e=>by simp at e
 |_,_,0,_,.cons r _,e=>by simp at e;subst e;exists ·,r
 |_,_,i+1,d,.cons _ t,e=>by
  let⟨u,h1,h2⟩:=Reps.get (i:=i) (d:=d) t (by simpa using e);exists u,by simpa using h1,h2
theorem Reps.at:∀{vs:List V}{ds:List D}{i:Nat},Reps C I α vs ds->(h1:i<vs.length)->(h2:i<ds.length)->Rep C I α vs[i] ds[i]:=λ{vs ds i}r h1 h2=>by
 let⟨v,e,z⟩:=r.get (Jb h2);rw[Jb h1]at e;cases e;exact z
theorem Reps.app:∀{vs ws:List V}{ds es:List D},Reps C I α vs ds->Reps C I α ws es->Reps C I α (vs++ws) (ds++es):=by
 intro _ _ _ _ hz9 s;cases hz9 with
 |nil=>
  exact s
 |cons r t=>
  exact .cons r (Reps.app t s)
def Reps.one{v:V}{d:D}(h:Rep C I α v d):Reps C I α [v] [d]:=.cons h .nil
def InvR(C:Cf)(I:Hp)(α:List Addr)(v:V):D->Prop
 |.non=>v=.non
 |.bl b=>v=.bl b
 |.int i=>v=.int i
 |.str x=>v=.str x
 |.ty n=>v=.ty n
 |.at a=>v=.ref a
 |.tup ds=>∃a vs,v=.ref a/\I a=some (.tup vs)/\Reps C I α vs ds
 |.lst ds=>∃a vs,v=.ref a/\I a=some (.lst vs)/\Reps C I α vs ds
 |.frz ds=>∃a vs,v=.ref a/\SqL C.k I a vs/\Reps C I α vs ds
 |.dct ds=>∃a vs,v=.ref a/\I a=some (.dK vs)/\RepK C I α vs ds
 |.dcT ds=>∃a vs,v=.ref a/\I a=some (.dT vs)/\RepT C I α vs ds
 |.code S=>∃x,v=.ref x/\Uq C.c I x S
 |.cell k=>∃a,v=.ref a/\α[k]?=some a
 |.exc Ce fs=>∃ea d vs,v=.ref ea/\I ea=some (.ext (excP ea Ce d))/\XD I d vs/\RepF C I α vs fs
 |.nst ks=>∃a,v=.ref a/\NkAt C.k I ks a
 |.itp x=>∃a,v=.ref a/\SqT C.k I a (x.map V.int)
theorem Rep.inv{v:V}{d:D}(r:Rep C I α v d):InvR C I α v d:=by
 cases r with
 |non=>rfl
 |bl b=>rfl
 |int i=>rfl
 |str x=>rfl
 |ty n=>rfl
 |«at» a=>rfl
 |tup e r=>exact⟨_,_,rfl,e,r⟩
 |lst e r=>exact⟨_,_,rfl,e,r⟩
 |frz e r=>exact⟨_,_,rfl,e,r⟩
 |dct e r=>exact⟨_,_,rfl,e,r⟩
 |dcT e r=>exact⟨_,_,rfl,e,r⟩
 |code h=>exact⟨_,rfl,h⟩
 |cell e=>exact⟨_,rfl,e⟩
 |exc e f r=>exact⟨_,_,_,rfl,e,f,r⟩
 |nst e=>exact⟨_,rfl,e⟩
 |itp e=>exact⟨_,rfl,e⟩
def Rep.cellI{a:Addr}{k:Nat}(r:Rep C I α (.ref a) (.cell k)):α[k]?=some a:=by
 let⟨_,e,h⟩:=r.inv;cases e;exact h
def Zus(C:Cf)(I:Hp)(α:List Addr)(vs:List V):List D->Prop
 |[]=>vs=[]
 |d::ds=>∃v us,vs=v::us/\Rep C I α v d/\Reps C I α us ds
theorem Reps.inv(r:Reps C I α vs ds):Zus C I α vs ds:=by
 cases r with
 |nil=>rfl
 |cons h r=>exact⟨_,_,rfl,h,r⟩
def Reps.nilI(r:Reps C I α [] ds):ds=[]:=by
 cases r;rfl
@[elab_as_elim] theorem Reps.e1 {vs:List V} {d:D} {P:List V->Prop} (r:Reps C I α vs [d]) (h:∀v,Rep C I α v d->P [v]):P vs:=by
 let⟨_,_,rfl,a,r⟩:=r.inv;cases r.inv;exact h _ a
@[elab_as_elim] theorem Reps.e2 {vs:List V} {d e:D} {P:List V->Prop} (r:Reps C I α vs [d,e]) (h:∀v w,Rep C I α v d->Rep C I α w e->P [v,w]):P vs:=by
 let⟨_,_,rfl,a,r⟩:=r.inv;exact Reps.e1 (P:=λl=>P (_::l)) r λ_ b=>h _ _ a b
@[elab_as_elim] theorem Reps.e3 {vs:List V} {d e f:D} {P:List V->Prop} (r:Reps C I α vs [d,e,f]) (h:∀v w x,Rep C I α v d->Rep C I α w e->Rep C I α x f->P [v,w,x]):P vs:=by
 let⟨_,_,rfl,a,r⟩:=r.inv;exact Reps.e2 (P:=λl=>P (_::l)) r λ_ _ b c=>h _ _ _ a b c
theorem Reps.take:∀{vs:List V}{ds:List D}(n:Nat),Reps C I α vs ds->Reps C I α (vs.take n) (ds.take n)
 |_,_,0,_=>.nil
 |_,_,_+1,.nil=>.nil
 |_,_,n+1,.cons r t=>.cons r (Reps.take n t)
theorem Reps.drop:∀{vs:List V}{ds:List D}(n:Nat),Reps C I α vs ds->Reps C I α (vs.drop n) (ds.drop n)
 |_,_,0,r=>r
 |_,_,_+1,.nil=>.nil
 |_,_,n+1,.cons _ t=>Reps.drop n t
theorem Reps.set{v:V}{d:D}(r:Rep C I α v d):∀{vs:List V}{ds:List D}(i:Nat),Reps C I α vs ds->Reps C I α (vs.set i v) (ds.set i d)
 |_,_,_,.nil=>.nil
 |_,_,0,.cons _ t=>.cons r t
 |_,_,i+1,.cons q t=>.cons q (Reps.set r i t)
def Reps.rev(h:Reps C I α vs ds):Reps C I α vs.reverse ds.reverse:=by
 let go:∀{vs ws:List V}{ds es:List D},Reps C I α vs ds->Reps C I α ws es->Reps C I α (vs.reverse++ws) (ds.reverse++es):=by
  intro vs
  induction vs with
  |nil=>intro ws ds es h1 h2;cases h1;exact h2
  |cons v vs ih =>
   intro ws ds es h1 h2;cases h1 with
   |cons a b =>
    rw[B2,Jn,B2,Jn];exact ih b (.cons a h2)
 let:=go h .nil;rwa [Gm,Gm]at this
theorem Reps.ints:∀(ns:List Int),Reps C I α (ns.map V.int) (ns.map D.int)
 |[]=>.nil
 |n::r=>.cons (.int n) (Reps.ints r)
theorem Reps.of_ints:∀{vs:List V}(ns:List Int),Reps C I α vs (ns.map D.int)->vs=ns.map V.int
 |_,[],h=>h.inv
 |_,n::r,h=>by
  let⟨_,_,rfl,a,b⟩:=h.inv;rw[Reps.of_ints r b,a.inv];rfl
end
variable{M:L3.Mem}
def RepN(C:Cf)(I:Hp)(α:List Addr):List Nkv->List (List NI×D)->Prop:=Paired λp q=>p.1=q.1/\Rep C I α p.2.2 q.2
def Qh(C:Cf)(I:Hp)(sh:List Nat)(vs:List Nkv):Prop:=∀x∈vs,NkAt C.k I x.1 x.2.1/\x.1.map NI.sh=sh
def RepN.mono{vs:List Nkv}{ds:List (List NI×D)}(h:RepN C I α vs ds)(s:Same I I')(p:α<+:α'):RepN C I' α' vs ds:=Paired.mapP h λ_ _ z=>⟨z.1,z.2.mono s p⟩
def Qh.mono{sh:List Nat}{vs:List Nkv}(h:Qh C I sh vs)(s:Same I I'):Qh C I' sh vs:=λx hx=>⟨(h x hx).1.same s,(h x hx).2⟩
def MoAt(C:Cf)(I:Hp)(α:List Addr)(H:Hp)(a:Addr):MO->Prop
 |.lst ds=>∃vs,H a=some (.lst vs)/\Reps C I α vs ds
 |.dct ds=>∃vs,H a=some (.dK vs)/\RepK C I α vs ds
 |.dcT ds=>∃vs,H a=some (.dT vs)/\RepT C I α vs ds
 |.drK ds=>∃vs,Rd H a (.dK vs)/\RepK C I α vs ds
 |.drT ds=>∃vs,Rd H a (.dT vs)/\RepT C I α vs ds
 |.dfT o vs ds=>H a=some (.frz o (.dT vs))/\RepT C I α vs ds
 |.dfK o vs ds=>H a=some (.frz o (.dK vs))/\RepK C I α vs ds
 |.ins Cl fs=>∃dx vs,H a=some (.ins Cl dx vs)/\Paired (λ(p:Str×V)(q:Str×D)=>p.1=q.1/\Rep C I α p.2 q.2) vs fs
 |.hand=>∃(d k:Int)(c:Addr)(cs:List Int),H a=some (.lst [.int d,.int k,.ref c])/\I c=some (.lst (cs.map V.int))/\cs≠[]/\cs.length<=63/\0<=d/\0<=k/\∀c∈cs,0<=c
 |.dcN sh none ds=>∃vs,H a=some (.ext (dnP a vs))/\Qh C I sh vs/\RepN C I α vs ds
 |.dcN sh (some z) ds=>H a=some (.frz z.1 (.ext (dnP a z.2)))/\Qh C I sh z.2/\RepN C I α z.2 ds
 |.tab P pos q=>a=P/\∃ps,H a=some (.tbl ps)/\TriplesOk ps.toList/\(Jeo pos ps.toList=none\/∃c,Jeo pos ps.toList=some (.ref c)/\I c=some (codeφ c q))
theorem MoAt.some{a:Addr}(h:MoAt C I α H a m):∃o,H a=some o:=by
 cases m with
 |lst ds=>obtain⟨vs,e,_⟩:=h;exists _,e
 |dct ds=>obtain⟨vs,e,_⟩:=h;exists _,e
 |dcT ds=>obtain⟨vs,e,_⟩:=h;exists _,e
 |drK ds=>obtain⟨vs,e,_⟩:=h;rcases e with e|⟨o,e⟩<;>exact⟨_,e⟩
 |drT ds=>obtain⟨vs,e,_⟩:=h;rcases e with e|⟨o,e⟩<;>exact⟨_,e⟩
 |dfT o vs ds=>exact⟨_,h.1⟩
 |dfK o vs ds=>exact⟨_,h.1⟩
 |ins Cl fs=>obtain⟨dx,vs,e,_⟩:=h;exists _,e
 |hand=>obtain⟨d,k,c,cs,e,_⟩:=h;exists _,e
 |tab P pos q=>obtain⟨_,ps,e,_⟩:=h;exists _,e
 |dcN sh z ds=>cases z with|none=>obtain⟨vs,e,_⟩:=h;exact⟨_,e⟩|some z=>exact⟨_,h.1⟩
theorem MoAt.mono{a:Addr}(h:MoAt C I α H a m)(s:Same I I')(p:α<+:α')(e:H' a=H a):MoAt C I' α' H' a m:=by
 cases m with
 |lst ds=>obtain⟨vs,e1,r⟩:=h;exists vs,e.trans e1,r.mono s p
 |dct ds=>obtain⟨vs,e1,r⟩:=h;exists vs,e.trans e1,r.mono s p
 |dcT ds=>obtain⟨vs,e1,r⟩:=h;exists vs,e.trans e1,r.mono s p
 |drK ds=>obtain⟨vs,e1,r⟩:=h;exists vs,e1.imp (λz=>e.trans z) (λ⟨o,z⟩=>⟨o,e.trans z⟩),r.mono s p
 |drT ds=>obtain⟨vs,e1,r⟩:=h;exists vs,e1.imp (λz=>e.trans z) (λ⟨o,z⟩=>⟨o,e.trans z⟩),r.mono s p
 |dfT o vs ds=>exact⟨e.trans h.1,h.2.mono s p⟩
 |dfK o vs ds=>exact⟨e.trans h.1,h.2.mono s p⟩
 |ins Cl fs=>obtain⟨dx,vs,e1,r⟩:=h;exists dx,vs,e.trans e1,Paired.mapP r λ_ _ z=>⟨z.1,z.2.mono s p⟩
 |hand=>obtain⟨d,k,c,cs,e1,e2,r⟩:=h;exists d,k,c,cs,e.trans e1,s _ _ e2,r
 |tab P pos q =>
  let⟨eP,ps,e1,t,r⟩:=h;exists eP,ps,e.trans e1,t,?_;rcases r with r|⟨c,r1,r2⟩
  .exact .inl r
  .exact .inr ⟨c,r1,s _ _ r2⟩
 |dcN sh z ds=>cases z with
  |none=>obtain⟨vs,e1,k,r⟩:=h;exists vs,e.trans e1,k.mono s,r.mono s p
  |some z=>obtain⟨e1,k,r⟩:=h;exists e.trans e1,k.mono s,r.mono s p
abbrev X3:=Addr->List (Str×D)->Mem->Prop
structure Anc where
 i:Hp
 a:List Addr
 xe:XK
 kx:X3
variable{Z:L3.Anc}
structure Rel(C:Cf)(Z:Anc)(I:Hp)(α:List Addr)(H:Hp)(M:Mem):Prop where
 ai:Same Z.i I
 aa:Z.a<+:α
 sub:Same I H
 len:α.length=M.length
 nd:α.Nodup
 cel:∀(k:Nat)(a:Addr)(m:MO),α[k]?=some a->M[k]?=some m->MoAt C I α H a m/\I a=none
section
def Rel.get(R:Rel C Z I α H M){k:Nat}(h:M[k]?=some m):∃a,α[k]?=some a/\MoAt C I α H a m/\I a=none:=by
 let⟨hk,_⟩:=Je.mp h;let hk':k < α.length:=by rw[R.len];exact hk
 exists α[k],Jb hk',R.cel k _ m (Jb hk') h
def Rel.cellNe(R:Rel C Z I α H M){k:Nat}{a p:Addr}(h:α[k]?=some a)(hp:H p=none):a≠p:=by
 let⟨hk,_⟩:=Je.mp h;let hk':k<M.length:=by rw[<-R.len];exact hk
 let⟨o,e⟩:=(R.cel k a _ h (Jb hk')).1.some;exact Zy e hp
def Rel.new(R:Rel C Z I α H M){p:Addr}{o:HO}(hp:H p=none):Rel C Z (upd I p o) α (upd H p o) M/\Same I (upd I p o)/\(upd I p o) p=some o:=by
 let ip:I p=none:=R.sub.free hp;let s:Same I (upd I p o):=Zc ip;exists⟨R.ai.trans s,R.aa,λb u h=>?_,R.len,R.nd,λk a m h1 h2=>?_⟩,s,Zh
 .by_cases e:b=p
  .subst e;rw[Zh]at h⊢;exact h
  .rw[Zp e]at h⊢;exact R.sub b u h
 .let⟨a1,a2⟩:=R.cel k a m h1 h2;let ne:=R.cellNe h1 hp;exact⟨a1.mono s (Jo _) (Zp ne),by rw[Zp ne];exact a2⟩
theorem Rel.cell(R:Rel C Z I α H M){p:Addr}{o:HO}{m:MO}(hp:H p=none)(hm:∀H',H' p=some o->MoAt C I α H' p m):Rel C Z I (α++[p]) (upd H p o) (M++[m])/\α<+:(α++[p])/\(α++[p])[M.length]?=some p:=by
 let ip:I p=none:=R.sub.free hp;refine⟨⟨R.ai,R.aa.trans (Gn _ _),λb u h=>?_,by rw[Jc,Jc,R.len];rfl,?_,λk a x h1 h2=>?_⟩,Gn _ _,by rw[<-R.len];simp⟩
 .let ne:b≠p:=λe=>by rw[e,ip]at h;cases h
  rw[Zp ne];exact R.sub b u h
 .rw[Bv];exists R.nd,by simp,λa ha b hb=>?_;let⟨k,hk,rfl⟩:=Gg ha;rw[Jf.mp hb];exact R.cellNe (Jb hk) hp
 .by_cases hk:k < α.length
  .rw[Js hk]at h1;rw[Js (by rw[<-R.len];exact hk)]at h2;let⟨a1,a2⟩:=R.cel k a x h1 h2;exists a1.mono (.refl _) (Gn _ _) (Zp (R.cellNe h1 hp)),a2
  .let⟨hk2,_⟩:=Je.mp h1;rw[Jc,G0]at hk2;let e:k=α.length:=by lia
   subst e;let e1:(α++[p])[α.length]?=some p:=by simp
   let e2:(M++[m])[α.length]?=some m:=by rw[R.len];simp
   rw[e1]at h1;rw[e2]at h2;cases h1;cases h2;exists(hm _ Zh).mono (.refl _) (Gn _ _) rfl,ip
def Rel.put(R:Rel C Z I α H M){k:Nat}{a:Addr}{o:HO}(ha:α[k]?=some a)(hm:∀H',H' a=some o->MoAt C I α H' a m):Rel C Z I α (upd H a o) (M.set k m):=by
 let⟨hk,ea⟩:=Je.mp ha;let hkM:k<M.length:=by rw[<-R.len];exact hk
 let ia:I a=none:=(R.cel k a _ ha (Jb hkM)).2;exists R.ai,R.aa,λb u h=>?_,by rw[Bk];exact R.len,R.nd,λj b x h1 h2=>?_
 .let ne:b≠a:=λe=>by rw[e,ia]at h;cases h
  rw[Zp ne];exact R.sub b u h
 .by_cases e:k=j
  .subst e;rw[ha]at h1;cases h1;rw[Bs hkM]at h2;cases h2;exists hm _ Zh,ia
  .rw[Ff e]at h2;let⟨a1,a2⟩:=R.cel j b x h1 h2;let⟨hj,eb⟩:=Je.mp h1;let ne:b≠a:=λz=>e (by
    rw[<-ea,<-eb]at z;exact((G9 R.nd).mp z).symm)
   exists a1.mono (.refl _) (Jo _) (Zp ne),a2
end
abbrev Ev:=List (Option D)
variable{ρ:L3.Ev}
abbrev K3:=D->Mem->Prop
abbrev TE3:=Ev->Mem->K3->Prop
variable{ua ub:L3.TE3}
abbrev TT3:=Ev->Mem->(Bool->Mem->Prop)->Prop
abbrev TA3:=Ev->Mem->(List D->Mem->Prop)->Prop
abbrev TO3:=Ev->Mem->(Option Int->Mem->Prop)->Prop
abbrev R3:=D->D->Mem->K3->Prop
structure Ends3 where
 nx:Ev->Mem->Prop
 rt:K3
 bk:Ev->Mem->Prop:=λ_ _=>False
 ct:Ev->Mem->Prop:=λ_ _=>False
abbrev TS3:=Ends3->Ev->Mem->Prop
abbrev TG3:=D->Ev->Mem->(Ev->Mem->Prop)->Prop
abbrev TGs3:=List D->Ev->Mem->(Ev->Mem->Prop)->Prop
def RepE(C:Cf)(I:Hp)(α:List Addr)(σ:St)(ρ:Ev):Prop:=σ.length=ρ.length/\∀(i:Nat)(d:D),ρ[i]?=some (some d)->∃v,σ[i]?=some (some v)/\Rep C I α v d
def RepE.mono(h:RepE C I α σ ρ)(s:Same I I')(p:α<+:α'):RepE C I' α' σ ρ :=
 ⟨h.1,λi d e=>let⟨v,a,b⟩:=h.2 i d e;⟨v,a,b.mono s p⟩⟩
theorem RepE.set(h:RepE C I α σ ρ){v:V}{d:D}(r:Rep C I α v d)(i:Nat):RepE C I α (σ.set i (some v)) (ρ.set i (some d)):=by
 exists by rw[Bk,Bk];exact h.1,λj e q=>?_
 by_cases z:i=j
 .subst z
  by_cases hl:i < ρ.length
  .rw[Bs hl]at q;cases q;exists v,Bs (by rw[h.1];exact hl),r
  .rw[Bh (by rw[Bk];lia)]at q;cases q
 .rw[Ff z]at q⊢;exact h.2 j e q
def Fin(C:Cf)(Z:Anc)(I:Hp)(α:List Addr)(K:K3)(Q:VK):Prop:=∀v d I' α' H' M',Same I I'->α<+:α'->Rel C Z I' α' H' M'->Rep C I' α' v d->K d M'->Q v H'
def Fin.on{K:K3}{v:V}{d:D}(k:Fin C Z I α K Q)(s:Same I I')(R:Rel C Z I' α H M)(r:Rep C I' α v d)(h:K d M):Q v H:=k v d I' α H M s (Jo _) R r h
def Fin.now{K:K3}{v:V}{d:D}(k:Fin C Z I α K Q)(R:Rel C Z I α H M)(r:Rep C I α v d)(h:K d M):Q v H:=k.on (.refl _) R r h
def Fin.mono{K:K3}(h:Fin C Z I α K Q)(s:Same I I')(p:α<+:α'):Fin C Z I' α' K Q:=λv d I2 α2 H2 M2 s2 p2=>h v d I2 α2 H2 M2 (s.trans s2) (p.trans p2)
def SimE(C:Cf)(Z:Anc)(t:TE)(u:TE3):Prop:=∀I α σ H ρ M(K:K3)(Q:VK),Rel C Z I α H M->RepE C I α σ ρ->u ρ M K->Fin C Z I α K Q->t σ H Q
def SimT(C:Cf)(Z:Anc)(t:TT)(u:TT3):Prop:=∀I α σ H ρ M(K:Bool->Mem->Prop)(Q:Bool->Hp->Prop),Rel C Z I α H M->RepE C I α σ ρ->u ρ M K ->
 (∀b I' α' H' M',Same I I'->α<+:α'->Rel C Z I' α' H' M'->K b M'->Q b H')->t σ H Q
def SimA(C:Cf)(Z:Anc)(t:TA)(u:TA3):Prop:=∀I α σ H ρ M(K:List D->Mem->Prop)(Q:List V->Hp->Prop),Rel C Z I α H M->RepE C I α σ ρ->u ρ M K ->
 (∀vs ds I' α' H' M',Same I I'->α<+:α'->Rel C Z I' α' H' M'->Reps C I' α' vs ds->K ds M'->Q vs H')->t σ H Q
def SimO(C:Cf)(Z:Anc)(t:TO)(u:TO3):Prop:=∀I α σ H ρ M(K:Option Int->Mem->Prop)(Q:Option Int->Hp->Prop),Rel C Z I α H M->RepE C I α σ ρ->u ρ M K ->
 (∀b I' α' H' M',Same I I'->α<+:α'->Rel C Z I' α' H' M'->K b M'->Q b H')->t σ H Q
def SimR(C:Cf)(Z:Anc)(r:R2)(u:R3):Prop:=∀I α H M x y d e(K:K3)(Q:VK),Rel C Z I α H M->Rep C I α x d->Rep C I α y e->u d e M K->Fin C Z I α K Q->r x y H Q
def SimU(C:Cf)(Z:Anc)(r:V->Hp->VK->Prop)(u:D->Mem->K3->Prop):Prop:=∀I α H M x d(K:K3)(Q:VK),Rel C Z I α H M->Rep C I α x d->u d M K->Fin C Z I α K Q->r x H Q
def SimC(C:Cf)(Z:Anc)(r:List V->Hp->VK->Prop)(u:List D->Mem->K3->Prop):Prop:=∀I α H M xs ds(K:K3)(Q:VK),Rel C Z I α H M->Reps C I α xs ds->u ds M K->Fin C Z I α K Q->r xs H Q
def SimL(C:Cf)(Z:Anc)(r:V->Option Int->Option Int->Hp->VK->Prop)(u:D->Option Int->Option Int->Mem->K3->Prop):Prop:=∀I α H M x d lo hi(K:K3)(Q:VK),Rel C Z I α H M->Rep C I α x d->u d lo hi M K->Fin C Z I α K Q->r x lo hi H Q
def FinS(C:Cf)(Z:Anc)(I:Hp)(α:List Addr)(K:Ev->Mem->Prop)(Q:St->Hp->Prop):Prop:=∀I' α' σ' H' ρ' M',Same I I'->α<+:α'->Rel C Z I' α' H' M'->RepE C I' α' σ' ρ'->K ρ' M'->Q σ' H'
def FinS.mono{K:Ev->Mem->Prop}{Q:St->Hp->Prop}(h:FinS C Z I α K Q)(s:Same I I')(p:α<+:α'):FinS C Z I' α' K Q:=λI2 α2 σ2 H2 ρ2 M2 s2 p2=>h I2 α2 σ2 H2 ρ2 M2 (s.trans s2) (p.trans p2)
structure FinD(C:Cf)(Z:Anc)(I:Hp)(α:List Addr)(E:Ends3)(D':Ends):Prop where
 nx:FinS C Z I α E.nx D'.nx
 rt:Fin C Z I α E.rt D'.rt
 bk:FinS C Z I α E.bk D'.bk
 ct:FinS C Z I α E.ct D'.ct
def FinD.mono{E:Ends3}{D':Ends}(h:FinD C Z I α E D')(s:Same I I')(p:α<+:α'):FinD C Z I' α' E D':=⟨h.nx.mono s p,h.rt.mono s p,h.bk.mono s p,h.ct.mono s p⟩
def SimS(C:Cf)(Z:Anc)(t:TS)(u:TS3):Prop:=∀I α σ H ρ M(E:Ends3)(D':Ends),Rel C Z I α H M->RepE C I α σ ρ->u E ρ M->FinD C Z I α E D'->t D' σ H
def SimG(C:Cf)(Z:Anc)(t:TG)(u:TG3):Prop:=∀I α σ H ρ M v d(K:Ev->Mem->Prop)(Q:St->Hp->Prop),Rel C Z I α H M->RepE C I α σ ρ->Rep C I α v d->u d ρ M K->FinS C Z I α K Q->t v σ H Q
def Zll(C:Cf)(Z:Anc)(t:TGs)(u:TGs3):Prop:=∀I α σ H ρ M vs ds(K:Ev->Mem->Prop)(Q:St->Hp->Prop),Rel C Z I α H M->RepE C I α σ ρ->Reps C I α vs ds->u ds ρ M K->FinS C Z I α K Q->t vs σ H Q
section
variable{tA tB':TT}{uA uB:TT3}{t:TA}{u:TA3}
def uVar(i:Nat):TE3:=λρ M K=>∃d,ρ[i]?=some (some d)/\K d M
def Ze(i:Nat):SimE C Z (tVar i) (uVar i):=λI α σ H ρ M K Q R E h k=>by
 let⟨d,e,h⟩:=h;let⟨v,e2,r⟩:=E.2 i d e;exists v,e2,k v d I α H M (.refl _) (Jo _) R r h
def uC(d:D):TE3:=λ_ M K=>K d M
def Jcl{v:V}{d:D}(r:∀I α,Rep C I α v d):SimE C Z (tC v) (uC d):=λI α σ H ρ M K Q R E h k=>k v d I α H M (.refl _) (Jo _) R (r I α) h
def Zt{i:Int}:SimE C Z (tC (.int i)) (uC (.int i)):=Jcl λ_ _=>.int i
def s_bl{i:Bool}:SimE C Z (tC (.bl i)) (uC (.bl i)):=Jcl λ_ _=>.bl i
def Qk:SimE C Z (tC .non) (uC .non):=Jcl λ_ _=>.non
def s_ty{i:String}:SimE C Z (tC (.ty i)) (uC (.ty i)):=Jcl λ_ _=>.ty i
def uOp(u:R3)(ua ub:TE3):TE3:=λρ M K=>ua ρ M λd M1=>ub ρ M1 λe M2=>u d e M2 K
def s_op{r:R2}{u:R3}(hr:SimR C Z r u)(ha:SimE C Z ta ua)(hb:SimE C Z tb ub):SimE C Z (tOp r ta tb) (uOp u ua ub):=λI α σ H ρ M K Q R E h k =>
 ha I α σ H ρ M _ _ R E h λv d I1 α1 H1 M1 s1 p1 R1 r1 h1 =>
  hb I1 α1 σ H1 ρ M1 _ _ R1 (E.mono s1 p1) h1 λw e I2 α2 H2 M2 s2 p2 R2 r2 h2 =>
   hr I2 α2 H2 M2 v w d e K Q R2 (r1.mono s2 p2) r2 h2 (k.mono (s1.trans s2) (p1.trans p2))
def uUn(u:D->Mem->K3->Prop)(ua:TE3):TE3:=λρ M K=>ua ρ M λd M1=>u d M1 K
def s_un{r:V->Hp->VK->Prop}{u:D->Mem->K3->Prop}(hr:SimU C Z r u)(ha:SimE C Z ta ua):SimE C Z (tUn r ta) (uUn u ua):=λI α σ H ρ M K Q R E h k =>
 ha I α σ H ρ M _ _ R E h λv d I1 α1 H1 M1 s1 p1 R1 r1 h1=>hr I1 α1 H1 M1 v d K Q R1 r1 h1 (k.mono s1 p1)
def D.isN:D->Bool|.non=>true|_=>false
def Zh8{v:V}{d:D}(h:Rep C I α v d):decide (v=.non)=d.isN:=by cases h<;>simp[D.isN]
def uIsN(ua:TE3):TE3:=λρ M K=>ua ρ M λd M1=>K (.bl d.isN) M1
def Zto(ua:TE3):TE3:=λρ M K=>ua ρ M λd M1=>K (.bl (!d.isN)) M1
def Ql(ha:SimE C Z ta ua):SimE C Z (tIsN ta) (uIsN ua):=λI α σ H ρ M K Q R E h k =>
 ha I α σ H ρ M _ _ R E h λv d I1 α1 H1 M1 s1 p1 R1 r1 h1=>by
  rw[Zh8 r1];exact k _ _ I1 α1 H1 M1 s1 p1 R1 (.bl _) h1
def Zgm(ha:SimE C Z ta ua):SimE C Z (Zqh ta) (Zto ua):=λI α σ H ρ M K Q R E h k =>
 ha I α σ H ρ M _ _ R E h λv d I1 α1 H1 M1 s1 p1 R1 r1 h1=>by
  rw[Zh8 r1];exact k _ _ I1 α1 H1 M1 s1 p1 R1 (.bl _) h1
def uB3(ua:TE3):TT3:=λρ M K=>ua ρ M λd M1=>∃c,d=.bl c/\K c M1
def s_b(ha:SimE C Z ta ua):SimT C Z (tB ta) (uB3 ua):=λI α σ H ρ M K Q R E h k =>
 ha I α σ H ρ M _ _ R E h λv d I1 α1 H1 M1 s1 p1 R1 r1 h1=>by
  let⟨c,e,h1⟩:=h1;subst e;cases r1.inv;exists c,rfl,k c I1 α1 H1 M1 s1 p1 R1 h1
def Yo(ha:SimE C Z ta ua):SimT C Z (Zqe ta) (uB3 ua):=s_b ha
def uAnd(uA uB:TT3):TT3:=λρ M K=>uA ρ M λc M1=>if c=true then uB ρ M1 K else K false M1
def uOr(uA uB:TT3):TT3:=λρ M K=>uA ρ M λc M1=>if c=true then K true M1 else uB ρ M1 K
def uNot(uA:TT3):TT3:=λρ M K=>uA ρ M λc M1=>K (!c) M1
def Zua(ha:SimT C Z tA uA)(hb:SimT C Z tB' uB):SimT C Z (tAnd tA tB') (uAnd uA uB):=λI α σ H ρ M K Q R E h k =>
 ha I α σ H ρ M _ _ R E h λc I1 α1 H1 M1 s1 p1 R1 h1=>by
  cases c with
  |true =>
   rw[Dt rfl]at h1⊢;exact hb I1 α1 σ H1 ρ M1 _ _ R1 (E.mono s1 p1) h1 λb I2 α2 H2 M2 s2 p2 R2 h2=>k b I2 α2 H2 M2 (s1.trans s2) (p1.trans p2) R2 h2
  |false =>
   rw[Ds Jt]at h1⊢;exact k false I1 α1 H1 M1 s1 p1 R1 h1
def s_or(ha:SimT C Z tA uA)(hb:SimT C Z tB' uB):SimT C Z (tOr tA tB') (uOr uA uB):=λI α σ H ρ M K Q R E h k =>
 ha I α σ H ρ M _ _ R E h λc I1 α1 H1 M1 s1 p1 R1 h1=>by
  cases c with
  |false =>
   rw[Ds Jt]at h1⊢;exact hb I1 α1 σ H1 ρ M1 _ _ R1 (E.mono s1 p1) h1 λb I2 α2 H2 M2 s2 p2 R2 h2=>k b I2 α2 H2 M2 (s1.trans s2) (p1.trans p2) R2 h2
  |true =>
   rw[Dt rfl]at h1⊢;exact k true I1 α1 H1 M1 s1 p1 R1 h1
def Zt4(ha:SimT C Z tA uA):SimT C Z (tNot tA) (uNot uA):=λI α σ H ρ M K Q R E h k =>
 ha I α σ H ρ M _ _ R E h λc I1 α1 H1 M1 s1 p1 R1 h1=>k _ I1 α1 H1 M1 s1 p1 R1 h1
def uOrV(ua ub:TE3):TE3:=λρ M K=>ua ρ M λd M1=>∃c,d=.bl c/\if c=true then K (.bl true) M1 else ub ρ M1 K
def Zt3(ha:SimE C Z ta ua)(hb:SimE C Z tb ub):SimE C Z (tOrV ta tb) (uOrV ua ub):=λI α σ H ρ M K Q R E h k =>
 ha I α σ H ρ M _ _ R E h λv d I1 α1 H1 M1 s1 p1 R1 r1 h1=>by
  let⟨c,e,h1⟩:=h1;subst e;cases r1.inv;exists c,rfl,?_;cases c with
  |false =>
   rw[Ds Jt]at h1⊢;exact hb I1 α1 σ H1 ρ M1 _ _ R1 (E.mono s1 p1) h1 (k.mono s1 p1)
  |true =>
   rw[Dt rfl]at h1⊢;exact k _ _ I1 α1 H1 M1 s1 p1 R1 (.bl _) h1
def uIf(uA:TT3)(ua ub:TE3):TE3:=λρ M K=>uA ρ M λc M1=>if c=true then ua ρ M1 K else ub ρ M1 K
def s_if(hc:SimT C Z tA uA)(ha:SimE C Z ta ua)(hb:SimE C Z tb ub):SimE C Z (tIf tA ta tb) (uIf uA ua ub):=λI α σ H ρ M K Q R E h k =>
 hc I α σ H ρ M _ _ R E h λc I1 α1 H1 M1 s1 p1 R1 h1=>by
  cases c with
  |true =>
   rw[Dt rfl]at h1⊢;exact ha I1 α1 σ H1 ρ M1 _ _ R1 (E.mono s1 p1) h1 (k.mono s1 p1)
  |false =>
   rw[Ds Jt]at h1⊢;exact hb I1 α1 σ H1 ρ M1 _ _ R1 (E.mono s1 p1) h1 (k.mono s1 p1)
def uNil:TA3:=λ_ M K=>K [] M
def Pm(ua:TE3)(u:TA3):TA3:=λρ M K=>ua ρ M λd M1=>u ρ M1 λds M2=>K (d::ds) M2
def Zn:SimA C Z tNil uNil:=λI α σ H ρ M K Q R E h k=>k [] [] I α H M (.refl _) (Jo _) R .nil h
def Zb(ha:SimE C Z ta ua)(hr:SimA C Z t u):SimA C Z (Zjv ta t) (Pm ua u):=λI α σ H ρ M K Q R E h k =>
 ha I α σ H ρ M _ _ R E h λv d I1 α1 H1 M1 s1 p1 R1 r1 h1 =>
  hr I1 α1 σ H1 ρ M1 _ _ R1 (E.mono s1 p1) h1 λvs ds I2 α2 H2 M2 s2 p2 R2 r2 h2 =>
   k (v::vs) (d::ds) I2 α2 H2 M2 (s1.trans s2) (p1.trans p2) R2 (.cons (r1.mono s2 p2) r2) h2
def uTup(u:TA3):TE3:=λρ M K=>u ρ M λds M1=>ds.length<=sizeLine/\K (.tup ds) M1
def Vj(ha:SimA C Z t u):SimE C Z (tTup t) (uTup u):=λI α σ H ρ M K Q R E h k =>
 ha I α σ H ρ M _ _ R E h λvs ds I1 α1 H1 M1 s1 p1 R1 r1 h1=>by
  exists by rw[r1.length];exact h1.1,λp hp=>?_;let⟨R2,s2,e2⟩:=R1.new (o:=.tup vs) hp;exact k _ _ _ α1 _ M1 (s1.trans s2) p1 R2 (.tup e2 (r1.mono s2 (Jo _))) h1.2
def uLst(u:TA3):TE3:=λρ M K=>u ρ M λds M1=>ds.length<=sizeLine/\K (.lst ds) M1
def Tg(ha:SimA C Z t u):SimE C Z (tLst t) (uLst u):=λI α σ H ρ M K Q R E h k =>
 ha I α σ H ρ M _ _ R E h λvs ds I1 α1 H1 M1 s1 p1 R1 r1 h1=>by
  exists by rw[r1.length];exact h1.1,λp hp=>?_;let⟨R2,s2,e2⟩:=R1.new (o:=.lst vs) hp;exact k _ _ _ α1 _ M1 (s1.trans s2) p1 R2 (.lst e2 (r1.mono s2 (Jo _))) h1.2
def Ztq(u:TA3):TE3:=λρ M K=>u ρ M λds M1=>ds.length<=sizeLine/\K (.cell M1.length) (M1++[.lst ds])
def Zab(ha:SimA C Z t u):SimE C Z (tLst t) (Ztq u):=λI α σ H ρ M K Q R E h k =>
 ha I α σ H ρ M _ _ R E h λvs ds I1 α1 H1 M1 s1 p1 R1 r1 h1=>by
  exists by rw[r1.length];exact h1.1,λp hp=>?_;let⟨R2,p2,e2⟩:=R1.cell (o:=.lst vs) (m:=.lst ds) hp λH' e=>⟨vs,e,r1⟩;exact k _ _ I1 _ _ _ s1 (p1.trans p2) R2 (.cell e2) h1.2
def uCB(r:List D->Mem->K3->Prop)(u:TA3):TE3:=λρ M K=>u ρ M λds M1=>r ds M1 K
def s_cb{r:List V->Hp->VK->Prop}{r3:List D->Mem->K3->Prop}(hr:SimC C Z r r3)(ha:SimA C Z t u):SimE C Z (tCB r t) (uCB r3 u):=λI α σ H ρ M K Q R E h k =>
 ha I α σ H ρ M _ _ R E h λvs ds I1 α1 H1 M1 s1 p1 R1 r1 h1=>hr I1 α1 H1 M1 vs ds K Q R1 r1 h1 (k.mono s1 p1)
def Zfv:TO3:=λ_ M K=>K none M
def Ztn(ua:TE3):TO3:=λρ M K=>ua ρ M λd M1=>∃i,d=.int i/\K (some i) M1
def X8:SimO C Z Zf0 Zfv:=λI α σ H ρ M K Q R E h k=>k none I α H M (.refl _) (Jo _) R h
def Uj(ha:SimE C Z ta ua):SimO C Z (Zqg ta) (Ztn ua):=λI α σ H ρ M K Q R E h k =>
 ha I α σ H ρ M _ _ R E h λv d I1 α1 H1 M1 s1 p1 R1 r1 h1=>by
  let⟨i,e,h1⟩:=h1;subst e;cases r1.inv;exists i,rfl,k (some i) I1 α1 H1 M1 s1 p1 R1 h1
def uSl(r:D->Option Int->Option Int->Mem->K3->Prop)(ua:TE3)(ul uh:TO3):TE3:=λρ M K=>ua ρ M λd M1=>ul ρ M1 λl M2=>uh ρ M2 λg M3=>r d l g M3 K
def s_sl{r:V->Option Int->Option Int->Hp->VK->Prop}{r3:D->Option Int->Option Int->Mem->K3->Prop}{tl th:TO}{ul uh:TO3}(hr:SimL C Z r r3)(ha:SimE C Z ta ua)(hl:SimO C Z tl ul)(hh:SimO C Z th uh):SimE C Z (tSl r ta tl th) (uSl r3 ua ul uh):=λI α σ H ρ M K Q R E h k =>
 ha I α σ H ρ M _ _ R E h λv d I1 α1 H1 M1 s1 p1 R1 r1 h1 =>
  hl I1 α1 σ H1 ρ M1 _ _ R1 (E.mono s1 p1) h1 λlo I2 α2 H2 M2 s2 p2 R2 h2 =>
   hh I2 α2 σ H2 ρ M2 _ _ R2 (E.mono (s1.trans s2) (p1.trans p2)) h2 λhi I3 α3 H3 M3 s3 p3 R3 h3 =>
    hr I3 α3 H3 M3 v d lo hi K Q R3 (r1.mono (s2.trans s3) (p2.trans p3)) h3 (k.mono (s1.trans (s2.trans s3)) (p1.trans (p2.trans p3)))
end
def Xz(M:Mem):D->Option (List D)
 |.lst ds=>some ds
 |.frz ds=>some ds
 |.cell k=>match M[k]? with|some (.lst ds)=>some ds|_=>none
 |_=>none
def lsOf(M:Mem):D->Option (List D)
 |.lst ds=>some ds
 |.cell k=>match M[k]? with|some (.lst ds)=>some ds|_=>none
 |_=>none
def Znj:D->Option (List D)
 |.tup ds=>some ds
 |_=>none
def N9(M:Mem):D->Option (List D)
 |.tup ds=>some ds
 |d=>Xz M d
section
variable{v:V}{d:D} 
def Uf(R:Rel C Z I α H M){k:Nat}{a:Addr}(e:α[k]?=some a)(h:M[k]?=some (.lst ds)):∃vs,H a=some (.lst vs)/\Reps C I α vs ds:=(R.cel k a _ e h).1
def nos{b:τ}{P:Prop}(h:none=some b):P:=nomatch h
theorem Zpl{k:Nat}(h:lsOf M (.cell k)=some ds):M[k]?=some (.lst ds):=by
 revert h
 show(match M[k]? with|some (.lst ds)=>some ds|_=>none)=some ds->_;cases M[k]? with
 |none=>exact nos
 |some m=>cases m<;>first|exact nos|exact λh=>by cases h;rfl
def Rn(R:Rel C Z I α H M)(r:Rep C I α v d)(h:lsOf M d=some ds):∃a vs,v=.ref a/\H a=some (.lst vs)/\Reps C I α vs ds:=by
 cases d<;>first|exact nos h|skip
 .let⟨a,vs,e,f,r⟩:=r.inv;cases h;exists a,vs,e,R.sub _ _ f,r
 .let⟨a,e,f⟩:=r.inv;let⟨vs,e1,r⟩:=Uf R f (Zpl h);exists a,vs,e,e1,r
def Ul(R:Rel C Z I α H M)(r:Rep C I α v d)(h:Xz M d=some ds):∃a vs,v=.ref a/\SqL C.k H a vs/\Reps C I α vs ds:=by
 let go:lsOf M d=some ds->∃a vs,v=.ref a/\SqL C.k H a vs/\Reps C I α vs ds:=λh=>by
  let⟨a,vs,e,f,r⟩:=Rn R r h;exists a,vs,e,SqL.of f,r
 cases d<;>first|exact nos h|exact go h|skip;let⟨a,vs,e,f,r⟩:=r.inv;cases h;exact⟨a,vs,e,R.sub.seq f,r⟩
def Ui(R:Rel C Z I α H M)(r:Rep C I α v d)(h:Znj d=some ds):∃a vs,v=.ref a/\H a=some (.tup vs)/\I a=some (.tup vs)/\Reps C I α vs ds:=by
 cases d<;>first|exact nos h|skip;let⟨a,vs,e,f,r⟩:=r.inv;cases h;exact⟨a,vs,e,R.sub _ _ f,f,r⟩
def Zgg(R:Rel C Z I α H M)(r:Rep C I α v d)(h:N9 M d=some ds):∃a vs,v=.ref a/\(SqL C.k H a vs\/SqT C.k H a vs)/\Reps C I α vs ds:=by
 let go:Xz M d=some ds->∃a vs,v=.ref a/\(SqL C.k H a vs\/SqT C.k H a vs)/\Reps C I α vs ds:=λh=>by
  let⟨a,vs,e,f,r⟩:=Ul R r h;exists a,vs,e,.inl f,r
 cases d<;>first|exact go h|skip;let⟨a,vs,e,f,_,r⟩:=Ui R r h;exact⟨a,vs,e,.inr (SqT.of f),r⟩
end
def cut(xs:List τ)(lo hi:Option Int):List τ:=(xs.drop (HT.sIx xs.length 0 lo)).take (HT.sIx xs.length xs.length hi-HT.sIx xs.length 0 lo)
theorem Reps.cut(r:Reps C I α vs ds)(lo hi:Option Int):Reps C I α (cutV vs lo hi) (cut ds lo hi):=by
 unfold cutV L3.cut;rw[r.length];exact(r.drop _).take _
def U2(f:τ->υ)(xs:List τ)(lo hi:Option Int):cut (xs.map f) lo hi=(cut xs lo hi).map f:=by
 unfold cut;rw[Ja,F2,De]
theorem Reps.atI{i:Int}{d:D}(r:Reps C I α vs ds)(h:atI ds i=some d):∃v,L2.atI vs i=some v/\Rep C I α v d:=by
 unfold L2.atI at h⊢;rw[r.length];cases e:ixN ds.length i with
 |none=>rw[e]at h;cases h
 |some j =>
  rw[e]at h;exact r.get (i:=j) h
section
def OpR.or{f:Value->Value->Sem Value}{r r':R2}(h:OpR X f r)(h':OpR X f r'):OpR X f (λx y H Q=>r x y H Q\/r' x y H Q):=by
 intro pq s σ H x y v u Q I rx ry q;rcases q with q|q
 .exact h pq s σ H x y v u Q I rx ry q
 .exact h' pq s σ H x y v u Q I rx ry q
def SlR.or{r r':V->Option Int->Option Int->Hp->VK->Prop}(h:SlR X r)(h':SlR X r'):SlR X (λx l u H Q=>r x l u H Q\/r' x l u H Q):=by
 intro pq s σ H x v vl vu lo hi sl Q I rx hs pl pu q;rcases q with q|q
 .exact h pq s σ H x v vl vu lo hi sl Q I rx hs pl pu q
 .exact h' pq s σ H x v vl vu lo hi sl Q I rx hs pl pu q
def Zn4:R2:=λx y H Q=>∃i j,x=.str i/\y=.str j/\i.length+j.length<=sizeLine/\Q (.str (i++j)) H
def Zn7(K:Ck):R2:=λx y H Q=>rI0 (λi j=>.int (i+j)) x y H Q\/Zn4 x y H Q\/rCat x y H Q\/Zn6 K x y H Q
def Yx(h:X.K=K'):OpR X (Ew .Add) (Zn7 K'):=by
 subst h;exact OpR.or Vt (OpR.or Zew (OpR.or Zhi Zhh))
def add3:R3:=λd e M K=>match d,e with
 |.int i,.int j=>K (.int (i+j)) M
 |.str a,.str b=>a.length+b.length<=sizeLine/\K (.str (a++b)) M
 |.tup xs,.tup ys=>(xs≠[]/\xs.length+ys.length<=sizeLine)/\K (.tup (xs++ys)) M
 |d,e=>∃xs ys,lsOf M d=some xs/\lsOf M e=some ys/\xs.length+ys.length<=sizeLine/\K (.lst (xs++ys)) M
def Zpr{x:V}{d e:D}{K:K3}(R:Rel C Z I α H M)(r1:Rep C I α x d)(r2:Rep C I α y e)(h:∃xs ys,lsOf M d=some xs/\lsOf M e=some ys/\xs.length+ys.length<=sizeLine/\K (.lst (xs++ys)) M)(k:Fin C Z I α K Q):Zn7 C.k x y H Q:=by
 let⟨xs,ys,e1,e2,hl,h⟩:=h;let⟨a,vs,rfl,ea,ra⟩:=Rn R r1 e1;let⟨b,ws,rfl,eb,rb⟩:=Rn R r2 e2;refine .inr (.inr (.inl ⟨a,b,vs,ws,rfl,rfl,ea,eb,by rw[ra.length,rb.length];exact hl,λp hp=>?_⟩));let⟨R2,s2,e2⟩:=R.new (o:=.lst (vs++ws)) hp;exact k.on s2 R2 (.lst e2 ((ra.app rb).mono s2 (Jo _))) h
theorem X9:SimR C Z (Zn7 C.k) add3:=λI α H M x y d e K Q R r1 r2 h k=>by
 let go:=λh=>Zpr R r1 r2 h k;cases d with
 |int i =>
  cases e with
  |int j=>cases r1.inv;cases r2.inv;exact .inl ⟨i,j,rfl,rfl,k.now R (.int _) h⟩
  |_=>exact go h
 |str a =>
  cases e with
  |str b=>cases r1.inv;cases r2.inv;exact .inr (.inl ⟨a,b,rfl,rfl,h.1,k.now R (.str _) h.2⟩)
  |_=>exact go h
 |tup xs =>
  cases e with
  |tup ys =>
   let⟨⟨h1,h2⟩,h⟩:=h;let⟨a,vs,rfl,ea,ia,ra⟩:=Ui R r1 rfl;let⟨b,ws,rfl,eb,ib,rb⟩:=Ui R r2 rfl;refine .inr (.inr (.inr ⟨a,b,vs,ws,rfl,rfl,SqT.of ea,SqT.of eb,λz=>?_,by rw[ra.length,rb.length];exact h2,λz=>?_,λ_ p hp=>?_⟩))
   .subst z;exact h1 ra.nilI
   .subst z;cases rb.nilI;rw[Gm]at h;exact k.now R r1 h
   .let⟨R2,s2,e2⟩:=R.new (o:=.tup (vs++ws)) hp;exact k.on s2 R2 (.tup e2 ((ra.app rb).mono s2 (Jo _))) h
  |_=>exact go h
 |_=>exact go h
def int3(c:Int->Int->Prop)(g:Int->Int->D):R3:=λd e M K=>∃i j,d=.int i/\e=.int j/\c i j/\K (g i j) M
def Zck(g:Int->Int->D):R3:=λd e M K=>∃i j,d=.int i/\e=.int j/\K (g i j) M
def Jbu{c:Int->Int->Prop}{g:Int->Int->V}{g3:Int->Int->D}(hg:∀I α i j,Rep C I α (g i j) (g3 i j)):SimR C Z (rI c g) (int3 c g3):=λI α H M x y d e K Q R r1 r2 h k=>by
 let⟨i,j,rfl,rfl,hc,h⟩:=h;cases r1.inv;cases r2.inv;exists i,j,rfl,rfl,hc,k.now R (hg _ _ _ _) h
def Zj1{g:Int->Int->V}{g3:Int->Int->D}(hg:∀I α i j,Rep C I α (g i j) (g3 i j)):SimR C Z (rI0 g) (Zck g3):=λI α H M x y d e K Q R r1 r2 h k=>by
 let⟨i,j,rfl,rfl,h⟩:=h;cases r1.inv;cases r2.inv;exists i,j,rfl,rfl,k.now R (hg _ _ _ _) h
def Znu:SimR C Z (rI0 λi j=>.int (i-j)) (Zck λi j=>.int (i-j)):=Zj1 λ_ _ _ _=>.int _
def Zj3:SimR C Z (rI (λ_ j=>0<j) λi j=>.int (i % j)) (int3 (λ_ j=>0<j) λi j=>.int (i % j)):=Jbu λ_ _ _ _=>.int _
def Zqx:SimR C Z (rI CPow λi j=>.int (i ^ j.toNat)) (int3 CPow λi j=>.int (i ^ j.toNat)):=Jbu λ_ _ _ _=>.int _
def s_lt:SimR C Z (rI0 λi j=>.bl (decide (i<j))) (Zck λi j=>.bl (decide (i<j))):=Zj1 λ_ _ _ _=>.bl _
def s_le:SimR C Z (rI0 λi j=>.bl (decide (i<=j))) (Zck λi j=>.bl (decide (i<=j))):=Zj1 λ_ _ _ _=>.bl _
def s_gt:SimR C Z (rI0 λi j=>.bl (decide (j<i))) (Zck λi j=>.bl (decide (j<i))):=Zj1 λ_ _ _ _=>.bl _
def neg3:D->Mem->K3->Prop:=λd M K=>∃i,d=.int i/\K (.int (-i)) M
def Zt5:SimU C Z (rU λi=>.int (-i)) neg3:=λI α H M x d K Q R r h k=>by
 let⟨i,rfl,h⟩:=h;cases r.inv;exists i,rfl,k.now R (.int _) h
def Zn5:R2:=λx y H Q=>rI CMul (λi j=>.int (i*j)) x y H Q\/rRep x y H Q
def Zft:OpR X (Ew .Mult) Zn5:=OpR.or Sn Zrn
def mul3:R3:=λd e M K=>match d,e with
 |.int i,.int j=>CMul i j/\K (.int (i*j)) M
 |d,e=>∃xs k,lsOf M d=some xs/\e=.int k/\(-(2 ^ 63)<=k/\k<2 ^ 63/\xs.length*k.toNat<=sizeLine)/\K (.lst (Ci k.toNat xs).flatten) M
theorem Reps.rep(r:Reps C I α vs ds):∀n,Reps C I α (Ci n vs).flatten (Ci n ds).flatten
 |0=>.nil
 |n+1=>by
  rw[Bb,Bb,Bc,Bc];exact r.app (Reps.rep r n)
theorem Zny:SimR C Z Zn5 mul3:=λI α H M x y d e K Q R r1 r2 h k=>by
 let go:(∃xs k,lsOf M d=some xs/\e=.int k/\(-(2 ^ 63)<=k/\k<2 ^ 63/\xs.length*k.toNat<=sizeLine)/\K (.lst (Ci k.toNat xs).flatten) M)->Zn5 x y H Q:=λh=>by
  let⟨xs,j,e1,rfl,⟨h1,h2,h3⟩,h⟩:=h;cases r2.inv;let⟨a,vs,rfl,ea,ra⟩:=Rn R r1 e1;refine .inr ⟨a,j,vs,rfl,rfl,ea,h1,h2,by rw[ra.length];exact h3,λp hp=>?_⟩;let⟨R2,s2,e2⟩:=R.new (o:=.lst (Ci j.toNat vs).flatten) hp;exact k.on s2 R2 (.lst e2 ((ra.rep _).mono s2 (Jo _))) h
 cases d with
 |int i =>
  cases e with
  |int j=>cases r1.inv;cases r2.inv;exact .inl ⟨i,j,rfl,rfl,h.1,k.now R (.int _) h.2⟩
  |_=>exact go h
 |_=>exact go h
def Yr(h:X.K=K'):IxR X (rIx K'):=by subst h;exact Zr4
def ix3:R3:=λd e M K=>match d with
 |.str z=>∃i c,e=.int i/\z.length<=sizeLine/\L2.atI z.cps.toList i=some c/\K (.str ⟨#[c]⟩) M
 |d=>∃xs i v,N9 M d=some xs/\e=.int i/\L2.atI xs i=some v/\K v M
def s_ix:SimR C Z (rIx C.k) ix3:=λI α H M x y d e K Q R r1 r2 h k=>by
 let go:(∃xs i v,N9 M d=some xs/\e=.int i/\L2.atI xs i=some v/\K v M)->rIx C.k x y H Q:=λh=>by
  let⟨xs,i,w,e1,rfl,e3,hk⟩:=h;let⟨a,vs,e,ea,ra⟩:=Zgg R r1 e1;let⟨v,e4,rv⟩:=ra.atI e3;let q:=k.now R rv hk;exact ea.elim (λea=>.inl ⟨a,vs,i,v,e,r2.inv,ea,e4,q⟩) λea=>.inr (.inl ⟨a,vs,i,v,e,r2.inv,ea,e4,q⟩)
 cases d<;>first|exact go h|skip;let⟨i,c,rfl,h1,h2,h⟩:=h;exact .inr (.inr ⟨_,i,c,r1.inv,r2.inv,h1,h2,k.now R (.str _) h⟩)
def rSlU(K:Ck):V->Option Int->Option Int->Hp->VK->Prop:=λx l u H Q=>rSlL K x l u H Q\/rSlW K x l u H Q\/rSlS x l u H Q
def Pl(h:X.K=K'):SlR X (rSlU K'):=by subst h;exact SlR.or Ut (SlR.or Zbw Zqs)
def sl3:D->Option Int->Option Int->Mem->K3->Prop:=λd lo hi M K=>match d with
 |.str z=>z.length<=sizeLine/\K (.str (Txt.slice z lo hi)) M
 |.tup xs=>K (.tup (cut xs lo hi)) M
 |d=>∃xs,Xz M d=some xs/\K (.lst (cut xs lo hi)) M
theorem Reps.inj_cut(r:Reps C I α vs ds)(h:cutV vs lo hi=vs):L3.cut ds lo hi=ds:=by
 let hl:(cutV vs lo hi).length=vs.length:=by rw[h]
 unfold cutV at hl;rw[Jv,Ga]at hl;unfold L3.cut;rw[r.length]at hl;generalize HT.sIx ds.length 0 lo=a at *
 generalize HT.sIx ds.length ds.length hi=b at *
 by_cases hd:ds.length=0
 .rw[Bq.mp hd];simp
 .let:a=0:=by lia
  subst this;rw[F5,Gr];lia
theorem Ps:SimL C Z (rSlU C.k) sl3:=λI α H M x d lo hi K Q R r1 h k=>by
 let go:(∃xs,Xz M d=some xs/\K (.lst (cut xs lo hi)) M)->rSlU C.k x lo hi H Q:=λh=>by
  let⟨xs,e1,h⟩:=h;let⟨a,vs,rfl,ea,ra⟩:=Ul R r1 e1;refine .inl ⟨a,vs,rfl,ea,λp hp=>?_⟩;let⟨R2,s2,e2⟩:=R.new (o:=.lst (cutV vs lo hi)) hp;exact k.on s2 R2 (.lst e2 ((ra.cut lo hi).mono s2 (Jo _))) h
 cases d with
 |str z=>cases r1.inv;exact .inr (.inr ⟨z,rfl,h.1,k.now R (.str _) h.2⟩)
 |tup xs =>
  let⟨a,vs,rfl,ea,ia,ra⟩:=Ui R r1 rfl;refine .inr (.inl ⟨a,vs,rfl,SqT.of ea,λz=>?_,λp hp=>?_⟩)
  .let h2:K (.tup (cut xs lo hi)) M:=h;rw[ra.inj_cut z]at h2;exact k.now R r1 h2
  .let⟨R2,s2,e2⟩:=R.new (o:=.tup (cutV vs lo hi)) hp;exact k.on s2 R2 (.tup e2 ((ra.cut lo hi).mono s2 (Jo _))) h
 |_=>exact go h
end
mutual
inductive PyR(M:Mem):D->PyData->Prop where
 |non:PyR M .non .none
 |bl (b:Bool):PyR M (.bl b) (.bool b)
 |int (i:Int):PyR M (.int i) (.int i)
 |str (x:Str):PyR M (.str x) (.str x)
 |seq {d:D} {ds:List D} {ps:List PyData}:Xz M d=some ds->PyRs M ds ps->PyR M d (.list ps)
 |tup {ds:List D} {ps:List PyData}:PyRs M ds ps->PyR M (.tup ds) (.tuple ps)
inductive PyRs(M:Mem):List D->List PyData->Prop where
 |nil:PyRs M [] []
 |cons {d:D} {p:PyData} {ds:List D} {ps:List PyData}:PyR M d p->PyRs M ds ps->PyRs M (d::ds) (p::ps)
end
section
mutual
theorem Zg2(R:Rel C Z I α H M):∀{v:V}{d:D}{p:PyData},PyR M d p->Rep C I α v d->DV C.k H v p:=by
 intro _ _ _ hz9 r;cases hz9 with
 |non=>
  exact by cases r.inv;exact .non
 |bl b=>
  exact by cases r.inv;exact .bl b
 |int b=>
  exact by cases r.inv;exact .int b
 |str b=>
  exact by cases r.inv;exact .str b
 |seq e q=>
  exact by
    let⟨a,vs,rfl,ea,ra⟩:=Ul R r e;exact .lst ea (pys_dv R q ra)
 |tup q=>
  exact by
    let⟨a,vs,rfl,ea,_,ra⟩:=Ui R r rfl;exact .tup (SqT.of ea) (pys_dv R q ra)
theorem pys_dv(R:Rel C Z I α H M):∀{vs:List V}{ds:List D}{ps:List PyData},PyRs M ds ps->Reps C I α vs ds->DVs C.k H vs ps:=by
 intro _ _ _ hz9 r;cases hz9 with
 |nil=>
  exact by cases r.inv;exact .nil
 |cons a b=>
  exact by
    cases r with
    |cons r1 r2=>exact .cons (Zg2 R a r1) (pys_dv R b r2)
end
end
def eqS:D->D->Option Bool
 |.non,.non=>some true|.non,.int _=>some false|.int _,.non=>some false|.non,.bl _=>some false|.bl _,.non=>some false|.non,.str _=>some false|.str _,.non=>some false
 |.int i,.int j=>some (decide (i=j))|.bl i,.bl j=>some (decide (i=j))|.str i,.str j=>some (decide (i=j))
 |.int _,.str _=>some false|.str _,.int _=>some false|.bl _,.str _=>some false|.str _,.bl _=>some false
 |_,_=>none
def eqV(d e:D)(M:Mem)(K:Bool->Prop):Prop:=(∃b,eqS d e=some b/\K b)\/∃p q,PyR M d p/\PyR M e q/\Hb p=true/\Hb q=true/\K (C7 p q)
def eq3:R3:=λd e M K=>eqV d e M λb=>K (.bl b) M
def ne3:R3:=λd e M K=>eqV d e M λb=>K (.bl (!b)) M
section
def rEqU(K:Ck):R2:=λx y H Q=>rEq x y H Q\/rEqD K x y H Q
def rNeU(K:Ck):R2:=λx y H Q=>rNe x y H Q\/rNeD K x y H Q
def N4(h:X.K=K')(hu:X.A.units+64<cLine):OpR X (C8 .Eq) (rEqU K'):=by subst h;exact OpR.or Zko (Zdx hu)
def Zem(h:X.K=K')(hu:X.A.units+64<cLine):OpR X (C8 .NotEq) (rNeU K'):=by subst h;exact OpR.or Zuf (Zro hu)
def scl:D->Option V
 |.non=>some .non|.bl b=>some (.bl b)|.int i=>some (.int i)|.str x=>some (.str x)
 |_=>none
def Zgj{v x:V}{d:D}(r:Rep C I α v d)(h:scl d=some x):v=x:=by
 cases d<;>first|exact nos h|exact(show v=_ from r.inv).trans (Dw h)
def SclE(d e:D)(b:Bool):Prop:=∃x y,scl d=some x/\scl e=some y/\scal x y=true/\decide (x=y)=b
def Zsh{d e:D}{x:V}{b:Bool}(h1:scl d=some x)(h2:scl e=some y)(h3:scal x y=true)(hn:x≠y)(h:some false=some b):SclE d e b:=⟨x,y,h1,h2,h3,by rw[Dv hn];exact Dw h⟩
def Zpb{d e:D}{b:Bool}(h:eqS d e=some b):SclE d e b:=by
 cases d<;>first|exact nos h|(cases e<;>first|exact nos h|exact Zsh rfl rfl rfl nofun h|exact⟨_,_,rfl,rfl,rfl,Eq.trans (by simp) (Dw h)⟩)
def Zil{x:V}{d e:D}{b:Bool}(r1:Rep C I α x d)(r2:Rep C I α y e)(h:eqS d e=some b):scal x y=true/\decide (x=y)=b:=by
 let⟨u,v,e1,e2,h⟩:=Zpb h;rw[Zgj r1 e1,Zgj r2 e2];exact h
def s_eq:SimR C Z (rEqU C.k) eq3:=λI α H M x y d e K Q R r1 r2 h k=>by
 rcases h with⟨b,eb,h⟩|⟨p,q,h1,h2,h3,h4,h⟩
 .let⟨z1,z2⟩:=Zil r1 r2 eb;exact .inl ⟨z1,by rw[z2];exact k.now R (.bl _) h⟩
 .exact .inr ⟨p,q,Zg2 R h1 r1,Zg2 R h2 r2,h3,h4,k.now R (.bl _) h⟩
def s_ne:SimR C Z (rNeU C.k) ne3:=λI α H M x y d e K Q R r1 r2 h k=>by
 rcases h with⟨b,eb,h⟩|⟨p,q,h1,h2,h3,h4,h⟩
 .let⟨z1,z2⟩:=Zil r1 r2 eb;exact .inl ⟨z1,by rw[z2];exact k.now R (.bl _) h⟩
 .exact .inr ⟨p,q,Zg2 R h1 r1,Zg2 R h2 r2,h3,h4,k.now R (.bl _) h⟩
end
structure Enc(τ:Type)[DecidableEq τ] where
 e:τ->D
 py:τ->PyData
 n:Nat
 ok:∀M a,PyR M (e a) (py a)
 shp:∀a,Shp n (py a)
 eq:∀a b,C7 (py a) (py b)=decide (a=b)
 hn:n<=60
theorem Zcq[DecidableEq τ]{f:τ->PyData}(h:∀a b,C7 (f a) (f b)=decide (a=b)):∀(a b:List τ),C0 (a.map f) (b.map f)=decide (a=b)
 |[],[]=>by simp[C0]
 |[],_::_=>by simp[C0]
 |_::_,[]=>by simp[C0]
 |a::r,b::t=>by
  rw[Jp,Jp,C0,h,Zcq h r t];simp
theorem Rj{e:τ->D}{py:τ->PyData}(h:∀a,PyR M (e a) (py a)):∀as:List τ,PyRs M (as.map e) (as.map py)
 |[]=>.nil
 |a::r=>.cons (h a) (Rj h r)
def Wt:Enc Int:=⟨.int,.int,0,λ_=>.int,Pq,λa b=>by rw[C7,Ja7],nofun⟩
def Pb[DecidableEq τ](E:Enc τ)(h:E.n<=50:=by decide):Enc (List τ) where
 e as:=.lst (as.map E.e)
 py as:=.list (as.map E.py)
 n:=E.n+1
 ok:=λM as=>.seq rfl (Rj (E.ok M) as)
 shp:=λas=>Zdj λd hd=>by
  let⟨a,_,rfl⟩:=Jq.mp hd;exact E.shp a
 eq:=λa b=>by rw[C7,Zcq E.eq]
 hn:=by lia
def Zsi[DecidableEq τ](E:Enc τ)(h:E.n<=50:=by decide):Enc (List τ) where
 e as:=.tup (as.map E.e)
 py as:=.tuple (as.map E.py)
 n:=E.n+1
 ok:=λM as=>.tup (Rj (E.ok M) as)
 shp:=λas=>Rf λd hd=>by
  let⟨a,_,rfl⟩:=Jq.mp hd;exact E.shp a
 eq:=λa b=>by rw[C7,Zcq E.eq]
 hn:=by lia
def Zl2{n m:Nat}{d:PyData}(h:Shp n d)(l:n<=m):Shp m d:=⟨h.1,J9 h.2 l⟩
def Zsj[DecidableEq τ][DecidableEq υ](E:Enc τ)(F:Enc υ)(h:E.n<=50:=by decide)(h':F.n<=50:=by decide):Enc (τ×υ) where
 e p:=.tup [E.e p.1,F.e p.2]
 py p:=.tuple [E.py p.1,F.py p.2]
 n:=max E.n F.n+1
 ok:=λM p=>.tup (.cons (E.ok M _) (.cons (F.ok M _) .nil))
 shp:=λp=>Rf λd hd=>by
  rcases Gi.mp hd with z|hd
  .rw[z];exact Zl2 (E.shp _) (Nat.le_max_left _ _)
  .rw[Jf.mp hd];exact Zl2 (F.shp _) (Nat.le_max_right _ _)
 eq:=λa b=>by
  let⟨a1,a2⟩:=a;let⟨b1,b2⟩:=b;rw[C7,C0,C0,C0,E.eq,F.eq];simp
 hn:=by lia
theorem Wy[DecidableEq τ](E:Enc τ){a b:τ}{K:Bool->Prop}(h:K (decide (a=b))):eqV (E.e a) (E.e b) M K :=
 .inr ⟨_,_,E.ok M a,E.ok M b,(E.shp a).shaped (by have:=E.hn;lia),(E.shp b).shaped (by have:=E.hn;lia),by rw[E.eq];exact h⟩
theorem Nr[DecidableEq τ](E:Enc τ){d d':D}{a b:List τ}{K:Bool->Prop}(h1:Xz M d=some (a.map E.e))(h2:Xz M d'=some (b.map E.e))(h:K (decide (a=b)))(hn:E.n<=50:=by decide):eqV d d' M K :=
 .inr ⟨_,_,.seq h1 (Rj (E.ok M) a),.seq h2 (Rj (E.ok M) b),((Pb E hn).shp a).shaped (by have:=(Pb E hn).hn;lia),((Pb E hn).shp b).shaped (by have:=(Pb E hn).hn;lia),by
  let:=(Pb E hn).eq a b;rw[show C7 (Jgs (a.map E.py)) (Jgs (b.map E.py))=decide (a=b)from this];exact h⟩
inductive Ty3 where
 |non|bool|int|str|list|tuple|dict
 deriving DecidableEq
def tyN:Ty3->String
 |.non=>"NoneType" |.bool=>"bool" |.int=>"int" |.str=>"str" |.list=>"list" |.tuple=>"tuple" |.dict=>"dict"
def tyOf(M:Mem):D->Option Ty3
 |.non=>some .non|.bl _=>some .bool|.int _=>some .int|.str _=>some .str|.lst _=>some .list|.tup _=>some .tuple|.dct _=>some .dict|.dcT _=>some .dict
 |.cell k=>match M[k]? with|some (.lst _)=>some .list|some (.dct _)=>some .dict|some (.dcT _)=>some .dict|_=>none
 |_=>none
def isS:Ty3->Ty3->Bool
 |.bool,.int=>true
 |a,b=>decide (a=b)
section
theorem Zo0(s t:Ty3)(ht:t≠.non):Jf0 C.k (.type (tyN s)) (.type (tyN t))=some (isS s t):=by
 cases t with
 |non=>exact absurd rfl ht
 |_=>cases s<;>rfl
theorem Zqb{v:V}{d:D}{s:Ty3}(R:Rel C Z I α H M)(r:Rep C I α v d)(h:tyOf M d=some s):TyOf C.k H v (.type (tyN s)):=by
 let i:=r.inv;cases d<;>first|exact nos h|skip
 all_goals first|(cases h;let⟨_,_,rfl,e,_⟩:=i;let e:=R.sub _ _ e;first|exact .lst e|exact .tup e|exact .dK e|exact .dT e)|(cases h;cases i;first|exact .non|exact .bl _|exact .int _|exact .str _)|skip
 rename_i k
 let⟨a,rfl,e⟩:=i;let go:∀m,M[k]?=some m->MoAt C I α H a m:=λm hm=>(R.cel k a _ e hm).1
 revert h go
 show(match M[k]? with|some (.lst _)=>some Ty3.list|some (.dct _)=>some .dict|some (.dcT _)=>some .dict|_=>none)=some s->_;cases M[k]? with
 |none=>exact nos
 |some m =>
  intro h go;let g:=go m rfl;cases m<;>first|exact nos h|(cases h;let⟨vs,e,_⟩:=g;first|exact .lst e|exact .dK e|exact .dT e)
def isi3(T:Ty3):List D->Mem->K3->Prop:=λds M K=>∃d s,ds=[d,.ty (tyN T)]/\tyOf M d=some s/\K (.bl (isS s T)) M
def Zq0{T:Ty3}(hT:T≠.non:=by decide):SimC C Z (rIsi C.k) (isi3 T):=λI α H M xs ds K Q R r h k=>by
 let⟨d,s,rfl,e,h⟩:=h;refine Reps.e2 r λ_ _ r1 r2=>?_;cases r2.inv;exists _,_,_,·,Zqb R r1 e,Zo0 s T hT,k.now R (.bl _) h
def len3:List D->Mem->K3->Prop:=λds M K=>match ds with
 |[.str z]=>z.length<=sizeLine/\K (.int z.length) M
 |[d]=>∃xs,N9 M d=some xs/\K (.int xs.length) M
 |_=>False
theorem W4:SimC C Z (rLen C.k) len3:=λI α H M xs ds K Q R r h k=>by
 let go:∀d v,Rep C I α v d->(∃xs,N9 M d=some xs/\K (.int xs.length) M)->rLen C.k [v] H Q:=λd v r h=>by
  let⟨ys,e1,h⟩:=h;let⟨a,vs,e,ea,ra⟩:=Zgg R r e1;rw[<-ra.length]at h;exists _,·,e ▸ ea.elim (λz=>.inl ⟨_,z,rfl⟩) λz=>.inr ⟨_,z,rfl⟩,k.now R (.int _) h
 match ds,h with
 |[],h=>exact h.elim
 |[d],h =>
  refine Reps.e1 r λv r1=>?_;cases d<;>first|exact go _ _ r1 h|skip;exact⟨_,_,rfl,r1.inv ▸ ⟨h.1,rfl⟩,k.now R (.int _) h.2⟩
 |d::_::_,h=>cases d<;>exact h.elim
def Zuj:List D->Mem->K3->Prop:=λds M K=>∃d xs,ds=[d]/\N9 M d=some xs/\K (.lst xs) M
def Zgn:SimC C Z (Zgz C.k) Zuj:=λI α H M xs ds K Q R r h k=>by
 let⟨d,ys,rfl,e,h⟩:=h;refine Reps.e1 r λ_ r1=>?_;let⟨a,vs,rfl,ea,ra⟩:=Zgg R r1 e;exists a,vs,rfl,ea,λp hp=>?_;let⟨R2,s2,e2⟩:=R.new (o:=.lst vs) hp;exact k.on s2 R2 (.lst e2 (ra.mono s2 (Jo _))) h
def two3(f:Int->Int->D):List D->Mem->K3->Prop:=λds M K=>∃i j,ds=[.int i,.int j]/\K (f i j) M
def Zl4:SimC C Z (λxs H Q=>∃i j,xs=[.int i,.int j]/\Q (.int (if j > i then j else i)) H) (two3 λi j=>.int (if j > i then j else i)):=λI α H M xs ds K Q R r h k=>by
 let⟨i,j,rfl,h⟩:=h;refine Reps.e2 r λ_ _ r1 r2=>?_;cases r1.inv;cases r2.inv;exists i,j,rfl,k.now R (.int _) h
def Zqz:SimC C Z (λxs H Q=>∃i j,xs=[.int i,.int j]/\Q (.int (if j<i then j else i)) H) (two3 λi j=>.int (if j<i then j else i)):=λI α H M xs ds K Q R r h k=>by
 let⟨i,j,rfl,h⟩:=h;refine Reps.e2 r λ_ _ r1 r2=>?_;cases r1.inv;cases r2.inv;exists i,j,rfl,k.now R (.int _) h
theorem Reps.of_bls :∀{vs:List V}(bs:List Bool),Reps C I α vs (bs.map D.bl)->vs=bs.map V.bl
 |_,[],h=>h.inv
 |_,n::r,h=>by
  let⟨_,_,rfl,a,b⟩:=h.inv;rw[Reps.of_bls r b,a.inv];rfl
def any3:List D->Mem->K3->Prop:=λds M K=>∃(d:D)(bs:List Bool),ds=[d]/\Xz M d=some (bs.map D.bl)/\K (.bl (bs.any id)) M
def Zt9:SimC C Z (λxs H Q=>∃(p:Addr)(bs:List Bool),xs=[.ref p]/\SqL C.k H p (bs.map V.bl)/\Q (.bl (bs.any id)) H) any3:=λI α H M xs ds K Q R r h k=>by
 let⟨d,bs,rfl,e,h⟩:=h;refine Reps.e1 r λ_ r1=>?_;let⟨a,vs,rfl,ea,ra⟩:=Ul R r1 e;rw[ra.of_bls bs]at ea;exists a,bs,rfl,ea,k.now R (.bl _) h
def Rel.putL(R:Rel C Z I α H M){k:Nat}{a:Addr}(ha:α[k]?=some a)(r:Reps C I α vs ds):Rel C Z I α (upd H a (.lst vs)) (M.set k (.lst ds)) :=
 R.put (m:=.lst ds) ha λH' e=>⟨vs,e,r⟩
def Pn{a:Addr}(e:H a=some (.lst vs)):tyV C.k "list" (.ref a) H:=.inl ⟨rfl,vs,SqL.of e⟩
def app3:D->List D->Mem->K3->Prop:=λd ds M K=>∃k xs y,d=.cell k/\ds=[y]/\M[k]?=some (.lst xs)/\xs.length<sizeLine/\K .non (M.set k (.lst (xs++[y])))
def ext3:D->List D->Mem->K3->Prop:=λd ds M K=>∃k e xs ys,d=.cell k/\ds=[e]/\M[k]?=some (.lst xs)/\lsOf M e=some ys/\xs.length+ys.length<=sizeLine/\K .non (M.set k (.lst (xs++ys)))
def Zuo:D->List D->Mem->K3->Prop:=λd ds M K=>∃k ys xs,d=.cell k/\ds=[.tup ys]/\M[k]?=some (.lst xs)/\xs.length+ys.length<=sizeLine/\K .non (M.set k (.lst (xs++ys)))
def pop3:D->List D->Mem->K3->Prop:=λd ds M K=>∃k xs y,d=.cell k/\ds=[]/\M[k]?=some (.lst xs)/\xs[xs.length-1]?=some y/\K y (M.set k (.lst xs.dropLast))
def Reps.dropLast(r:Reps C I α vs ds):Reps C I α vs.dropLast ds.dropLast:=by
 rw[List.dropLast_eq_take,List.dropLast_eq_take,r.length];exact r.take _
variable{uo:TE3}{t:TA}{u:TA3}
def Pw(ho:SimE C Z to uo)(ha:SimA C Z t u):SimE C Z (tBM C.k "list" Zg1 to t) (λρ M K=>uo ρ M λd M1=>lsOf M1 d≠none/\u ρ M1 λds M2=>app3 d ds M2 K):=λI α σ H ρ M K Q R E h k =>
 ho I α σ H ρ M _ _ R E h λv d I1 α1 H1 M1 s1 p1 R1 r1 h1=>by
  let⟨hn,h1⟩:=h1;cases hl:lsOf M1 d with
  |none=>exact absurd hl hn
  |some zs =>
   let⟨a,vs,rfl,ea,ra⟩:=Rn R1 r1 hl;exists Pn ea,ha I1 α1 σ H1 ρ M1 _ _ R1 (E.mono s1 p1) h1 λws ds I2 α2 H2 M2 s2 p2 R2 r2 h2=>?_;let⟨j,xs,y,rfl,rfl,e1,hz,h2⟩:=h2;refine Reps.e1 r2 λ_ ry=>?_;let ec:=(r1.mono s2 p2).cellI;let⟨us,eu,ru⟩:=Uf R2 ec e1;exists a,us,·,rfl,eu,by rw[ru.length];exact hz,?_;exact k _ _ I2 α2 _ _ (s1.trans s2) (p1.trans p2) (R2.putL ec (ru.app (.one ry))) .non h2
def Zj6(ho:SimE C Z to uo)(ha:SimA C Z t u):SimE C Z (tBM C.k "list" Zg0 to t) (λρ M K=>uo ρ M λd M1=>lsOf M1 d≠none/\u ρ M1 λds M2=>ext3 d ds M2 K):=λI α σ H ρ M K Q R E h k =>
 ho I α σ H ρ M _ _ R E h λv d I1 α1 H1 M1 s1 p1 R1 r1 h1=>by
  let⟨hn,h1⟩:=h1;cases hl:lsOf M1 d with
  |none=>exact absurd hl hn
  |some zs =>
   let⟨a,vs,rfl,ea,ra⟩:=Rn R1 r1 hl;exists Pn ea,ha I1 α1 σ H1 ρ M1 _ _ R1 (E.mono s1 p1) h1 λws ds I2 α2 H2 M2 s2 p2 R2 r2 h2=>?_;let⟨j,e,xs,ys,rfl,rfl,e1,e2,hz,h2⟩:=h2;refine Reps.e1 r2 λ_ ry=>?_;let⟨b,bs,rfl,eb,rb⟩:=Rn R2 ry e2;let ec:=(r1.mono s2 p2).cellI;let⟨us,eu,ru⟩:=Uf R2 ec e1;exists a,b,us,bs,rfl,rfl,eu,eb,by rw[ru.length,rb.length];exact hz,?_;exact k _ _ I2 α2 _ _ (s1.trans s2) (p1.trans p2) (R2.putL ec (ru.app rb)) .non h2
def Zgp(ho:SimE C Z to uo)(ha:SimA C Z t u):SimE C Z (tBM C.k "list" Zdp to t) (λρ M K=>uo ρ M λd M1=>lsOf M1 d≠none/\u ρ M1 λds M2=>Zuo d ds M2 K):=λI α σ H ρ M K Q R E h k =>
 ho I α σ H ρ M _ _ R E h λv d I1 α1 H1 M1 s1 p1 R1 r1 h1=>by
  let⟨hn,h1⟩:=h1;cases hl:lsOf M1 d with
  |none=>exact absurd hl hn
  |some zs =>
   let⟨a,vs,rfl,ea,ra⟩:=Rn R1 r1 hl;exists Pn ea,ha I1 α1 σ H1 ρ M1 _ _ R1 (E.mono s1 p1) h1 λws ds I2 α2 H2 M2 s2 p2 R2 r2 h2=>?_;let⟨j,ys,xs,rfl,rfl,e1,hz,h2⟩:=h2;refine Reps.e1 r2 λ_ ry=>?_;let⟨b,bs,rfl,eb,_,rb⟩:=Ui R2 ry rfl;let ec:=(r1.mono s2 p2).cellI;let⟨us,eu,ru⟩:=Uf R2 ec e1;exists a,b,us,bs,rfl,rfl,eu,eb,by rw[ru.length,rb.length];exact hz,?_;exact k _ _ I2 α2 _ _ (s1.trans s2) (p1.trans p2) (R2.putL ec (ru.app rb)) .non h2
def Zt2(ho:SimE C Z to uo):SimE C Z (tBM0 C.k "list" rPop to) (λρ M K=>uo ρ M λd M1=>pop3 d [] M1 K):=λI α σ H ρ M K Q R E h k =>
 ho I α σ H ρ M _ _ R E h λv d I1 α1 H1 M1 s1 p1 R1 r1 h1=>by
  let⟨j,xs,y,rfl,_,e1,e2,h1⟩:=h1;let⟨a,rfl,ec⟩:=r1.inv;let⟨us,eu,ru⟩:=Uf R1 ec e1;let⟨w,ew,rw'⟩:=ru.get e2;exists Pn eu,a,us,w,rfl,rfl,eu,by rw[ru.length];exact ew,k _ _ I1 α1 _ _ s1 p1 (R1.putL ec (ru.dropLast)) rw' h1
end
def Ye(n:Nat)(d:D):Prop:=∀C I α v,Rep C I α v d->Rep C I (α.take n) v d
def Xb(n:Nat)(m:MO):Prop:=∀C I α H a,MoAt C I α H a m->MoAt C I (α.take n) H a m
inductive BelowE(n:Nat):Ev->Ev->Prop where
 |nil:BelowE n [] []
 |skip {o:Option D} {r r':Ev}:BelowE n r r'->BelowE n (o::r) (none::r')
 |keep {d:D} {r r':Ev}:Ye n d->BelowE n r r'->BelowE n (some d::r) (some d::r')
inductive BelS(n:Nat):Ev->Ev->Ev->Prop where
 |nil:BelS n [] [] []
 |skip {o0 o:Option D} {r0 r r':Ev}:BelS n r0 r r'->BelS n (o0::r0) (o::r) (none::r')
 |same {d:D} {r0 r r':Ev}:BelS n r0 r r'->BelS n (some d::r0) (some d::r) (some d::r')
 |keep {o0:Option D} {d:D} {r0 r r':Ev}:Ye n d->BelS n r0 r r'->BelS n (o0::r0) (some d::r) (some d::r')
def Dr(ρ0:Ev)(M0:Mem)(P:Ev->Mem->Prop)(ρ:Ev)(M:Mem):Prop:=P ρ M\/(∃ρ',(∃X,M=M0++X)/\BelS M0.length ρ0 ρ ρ'/\P ρ' M0)\/∃n ρ',M0.length<=n/\BelowE n ρ ρ'/\(∀m∈M.take n,Xb n m)/\P ρ' (M.take n)
def Dk(n0:Nat)(K:K3):K3:=λd M=>K d M\/∃n,n0<=n/\Ye n d/\(∀m∈M.take n,Xb n m)/\K d (M.take n)
section
theorem BelowE.rep{n:Nat}{ρ':Ev}(b:BelowE n ρ ρ'):∀{σ:St},RepE C I α σ ρ->RepE C I (α.take n) σ ρ':=by
 induction b with
 |nil=>exact λh=>⟨h.1,λi d e=>by simp at e⟩
 | @skip o r r' b ih =>
  intro σ h;cases σ with
  |nil=>cases h.1
  |cons s σ =>
   let h':RepE C I α σ r:=⟨by simpa using h.1,λi d e=>by
    let⟨v,a,b⟩:=h.2 (i+1) d (by simpa using e);exact⟨v,by simpa using a,b⟩⟩
   let⟨l,g⟩:=ih h';exists by rw[J0,J0,l],λi d e=>?_;cases i with
   |zero=>simp at e
   |succ i =>
    let⟨v,a,b⟩:=g i d (by simpa using e);exists v,by simpa using a,b
 | @keep d0 r r' hb b ih =>
  intro σ h;cases σ with
  |nil=>cases h.1
  |cons s σ =>
   let h':RepE C I α σ r:=⟨by simpa using h.1,λi d e=>by
    let⟨v,a,b⟩:=h.2 (i+1) d (by simpa using e);exact⟨v,by simpa using a,b⟩⟩
   let⟨l,g⟩:=ih h';exists by rw[J0,J0,l],λi d e=>?_;cases i with
   |zero =>
    let⟨v,a,b⟩:=h.2 0 d e;simp at e;subst e;exists v,a,hb _ _ _ _ b
   |succ i =>
    let⟨v,a,b⟩:=g i d (by simpa using e);exists v,by simpa using a,b
def Tl{α0:List Addr}(p:α0<+:α){n:Nat}(h:α0.length<=n):α0<+:α.take n:=by
 let⟨t,rfl⟩:=p;rw[List.take_append,Gr h];exact Gn _ _
def Rel.take(R:Rel C Z I α H M)(n:Nat)(hz:Z.a.length<=n)(hb:∀m∈M.take n,Xb n m):Rel C Z I (α.take n) H (M.take n):=by
 refine⟨R.ai,Tl R.aa hz,R.sub,by rw[Jv,Jv,R.len],R.nd.sublist (Bt _ _),λk a m h1 h2=>?_⟩;let h1':α[k]?=some a:=by
  rw[Df]at h1
  split at h1
  .exact h1
  .cases h1
 let h2':M[k]?=some m:=by
  rw[Df]at h2
  split at h2
  .exact h2
  .cases h2
 let⟨a1,a2⟩:=R.cel k a m h1' h2';exists hb m (Gx h2) _ _ _ _ _ a1,a2
theorem Fin.dk{K:K3}(k:Fin C Z I α K Q){n0:Nat}(hn:α.length=n0)(ha:Z.a<+:α):Fin C Z I α (Dk n0 K) Q:=λv d I' α' H' M' s p R r h=>by
 rcases h with h|⟨n,hl,hb,hm,h⟩
 .exact k v d I' α' H' M' s p R r h
 .exact k v d I' (α'.take n) H' (M'.take n) s (Tl p ()) (R.take n (by have:=ha.length_le;lia) hm) (hb _ _ _ _ r) h
end
def Wl{n:Nat}{i:Int}:Ye n (.int i):=λ_ _ _ _ r=>by cases r.inv;exact .int _
def Zlg{n:Nat}{i:Bool}:Ye n (.bl i):=λ_ _ _ _ r=>by cases r.inv;exact .bl _
def Zjc{n:Nat}{i:Str}:Ye n (.str i):=λ_ _ _ _ r=>by cases r.inv;exact .str _
def Qe{n:Nat}:Ye n .non:=λ_ _ _ _ r=>by cases r.inv;exact .non
def Zfg{n:Nat} :Ye n (.code S):=λ_ _ _ _ r=>by cases r with|code h=>exact .code h
def Ph{n k:Nat}(h:k<n):Ye n (.cell k):=λ_ _ α _ r=>by
 let⟨_,rfl,e⟩:=r.inv;exact .cell (by rw[Df,Dt h];exact e)
theorem Ty{n:Nat}(h:∀d∈ds,Ye n d) :∀{vs:List V},Reps C I α vs ds->Reps C I (α.take n) vs ds:=by
 induction ds with
 |nil=>intro vs r;cases r.inv;exact .nil
 |cons d ds ih =>
  intro vs r;cases r with
  |cons a b=>exact .cons (h d Ji _ _ _ _ a) (ih (λx hx=>h x (Jg _ hx)) b)
def Tv{n:Nat}(h:∀d∈ds,Ye n d):Ye n (.lst ds):=λ_ _ _ _ r=>by cases r with|lst e r=>exact .lst e (Ty h r)
def Zje{n:Nat}(h:∀d∈ds,Ye n d):Ye n (.frz ds):=λ_ _ _ _ r=>by cases r with|frz e r=>exact .frz e (Ty h r)
def Zbf{n:Nat}(h:∀d∈ds,Ye n d):Ye n (.tup ds):=λ_ _ _ _ r=>by cases r with|tup e r=>exact .tup e (Ty h r)
def Zbg{n:Nat} :Ye n (.nst ks):=λ_ _ _ _ r=>by cases r with|nst e=>exact .nst e
def Zjd{n:Nat}{x:List Int}:Ye n (.itp x):=λ_ _ _ _ r=>by cases r with|itp e=>exact .itp e
def Wk{n:Nat}{f:τ->D}(h:∀a,Ye n (f a))(as:List τ):∀d∈as.map f,Ye n d:=λd hd=>by
 let⟨a,_,rfl⟩:=Jq.mp hd;exact h a
def Zbh{n:Nat}:∀d∈([]:List D),Ye n d:=λ_ h=>nomatch h
def Sf{n:Nat}{d:D}(h:Ye n d)(r:∀d∈ds,Ye n d):∀x∈d::ds,Ye n x:=λx hx=>by
 rcases Gi.mp hx with z|z
 .rw[z];exact h
 .exact r x z
def Zpn{n:Nat}:Xb n .hand:=λ_ _ _ _ _ h=>h
def Zsy{n:Nat}{P:Addr}{p:Pos}{q:Str}:Xb n (.tab P p q):=λ_ _ _ _ _ h=>h
def Zba{n:Nat}(h:∀d∈ds,Ye n d):Xb n (.lst ds):=λ_ _ _ _ _ x=>by
 let⟨vs,e,r⟩:=x;exists vs,e,Ty h r
def WfM(M:Mem):Prop:=∀m∈M,Xb M.length m
theorem Tw{n:Nat}{kvs:List (Key×D)}(h:∀kv∈kvs,Ye n kv.2) :∀{vs:List (Key×V)},RepK C I α vs kvs->RepK C I (α.take n) vs kvs:=by
 induction kvs with
 |nil=>intro vs r;cases r;exact .nil
 |cons d ds ih =>
  intro vs r;cases r with
  |cons a b=>exact .cons (h _ Ji _ _ _ _ a) (ih (λx hx=>h x (Jg _ hx)) b)
theorem Tx{n:Nat}{kvs:List (List Key×D)}(h:∀kv∈kvs,Ye n kv.2) :∀{vs:List (List Key×V)},RepT C I α vs kvs->RepT C I (α.take n) vs kvs:=by
 induction kvs with
 |nil=>intro vs r;cases r;exact .nil
 |cons d ds ih =>
  intro vs r;cases r with
  |cons a b=>exact .cons (h _ Ji _ _ _ _ a) (ih (λx hx=>h x (Jg _ hx)) b)
theorem Zjf{n:Nat}{kvs:List (Str×D)}(h:∀kv∈kvs,Ye n kv.2) :∀{vs:List (Str×V)},RepF C I α vs kvs->RepF C I (α.take n) vs kvs:=by
 induction kvs with
 |nil=>intro vs r;cases r;exact .nil
 |cons d ds ih =>
  intro vs r;cases r with
  |cons a b=>exact .cons (h _ Ji _ _ _ _ a) (ih (λx hx=>h x (Jg _ hx)) b)
mutual
theorem Rep.bel{C:Cf}{I:Hp}{α:List Addr}:∀{v:V}{d:D},Rep C I α v d->Ye α.length d:=by
 intro _ _ h;cases h with
 |non=>exact Qe
 |bl b=>exact Zlg
 |int i=>exact Wl
 |str x=>exact Zjc
 |ty n=>exact λ_ _ _ _ r=>by cases r.inv;exact .ty _
 |«at» a=>exact λ_ _ _ _ r=>by cases r.inv;exact .at _
 |tup e r=>exact Zbf (Reps.bel r)
 |lst e r=>exact Tv (Reps.bel r)
 |frz e r=>exact Zje (Reps.bel r)
 |dct e r=>exact λ_ _ _ _ q=>by cases q with|dct e q=>exact .dct e (Tw (RepK.bel r) q)
 |dcT e r=>exact λ_ _ _ _ q=>by cases q with|dcT e q=>exact .dcT e (Tx (RepT.bel r) q)
 |code h=>exact Zfg
 |cell e=>exact Ph (Je.mp e).1
 |exc e f r=>exact λ_ _ _ _ q=>by cases q with|exc e f q=>exact .exc e f (Zjf (RepF.bel r) q)
 |nst e=>exact Zbg
 |itp e=>exact Zjd
theorem Reps.bel{C:Cf}{I:Hp}{α:List Addr}:∀{vs:List V}{ds:List D},Reps C I α vs ds->∀d∈ds,Ye α.length d:=by
 intro _ _ h;cases h with
 |nil=>exact Zbh
 |cons h r=>exact Sf (Rep.bel h) (Reps.bel r)
theorem RepK.bel{C:Cf}{I:Hp}{α:List Addr}:∀{vs:List (Key×V)}{ds:List (Key×D)},RepK C I α vs ds->∀kv∈ds,Ye α.length kv.2:=by
 intro _ _ h;cases h with
 |nil=>exact λ_ h=>nomatch h
 |cons h r =>
  exact λkv hk=>by
   rcases Gi.mp hk with z|z
   .rw[z];exact Rep.bel h
   .exact RepK.bel r kv z
theorem RepF.bel{C:Cf}{I:Hp}{α:List Addr}:∀{vs:List (Str×V)}{ds:List (Str×D)},RepF C I α vs ds->∀kv∈ds,Ye α.length kv.2:=by
 intro _ _ h;cases h with
 |nil=>exact λ_ h=>nomatch h
 |cons h r =>
  exact λkv hk=>by
   rcases Gi.mp hk with z|z
   .rw[z];exact Rep.bel h
   .exact RepF.bel r kv z
theorem RepT.bel{C:Cf}{I:Hp}{α:List Addr}:∀{vs:List (List Key×V)}{ds:List (List Key×D)},RepT C I α vs ds->∀kv∈ds,Ye α.length kv.2:=by
 intro _ _ h;cases h with
 |nil=>exact λ_ h=>nomatch h
 |cons h r =>
  exact λkv hk=>by
   rcases Gi.mp hk with z|z
   .rw[z];exact Rep.bel h
   .exact RepT.bel r kv z
end
def Zs4{n:Nat}{ds:List (Key×D)}(h:∀d∈ds,Ye n d.2):Xb n (.dct ds):=λ_ _ _ _ _ x=>by
 let⟨vs,e,r⟩:=x;exists vs,e,Tw h r
def Zs5{n:Nat}{ds:List (List Key×D)}(h:∀d∈ds,Ye n d.2):Xb n (.dcT ds):=λ_ _ _ _ _ x=>by
 let⟨vs,e,r⟩:=x;exists vs,e,Tx h r
def Zs1{n:Nat}{ds:List (Key×D)}(h:∀d∈ds,Ye n d.2):Xb n (.drK ds):=λ_ _ _ _ _ x=>by
 let⟨vs,e,r⟩:=x;exists vs,e,Tw h r
def Zs0{n:Nat}{ds:List (List Key×D)}(h:∀d∈ds,Ye n d.2):Xb n (.drT ds):=λ_ _ _ _ _ x=>by
 let⟨vs,e,r⟩:=x;exists vs,e,Tx h r
def Zs2{n:Nat}{o:Obj}{vs:List (List Key×V)}{ds:List (List Key×D)}(h:∀d∈ds,Ye n d.2):Xb n (.dfT o vs ds):=λ_ _ _ _ _ x=>⟨x.1,Tx h x.2⟩
def Zs3{n:Nat}{o:Obj}{vs:List (Key×V)}{ds:List (Key×D)}(h:∀d∈ds,Ye n d.2):Xb n (.dfK o vs ds):=λ_ _ _ _ _ x=>⟨x.1,Tw h x.2⟩
theorem RepN.bel{vs:List Nkv}{ds:List (List NI×D)}(r:RepN C I α vs ds):∀kv∈ds,Ye α.length kv.2:=by
 induction r with
 |nil=>exact λ_ h=>nomatch h
 |cons h r ih=>exact λkv hk=>(Gi.mp hk).elim (λz=>by rw[z];exact h.2.bel) (ih kv)
theorem Zbi{n:Nat}{kvs:List (List NI×D)}(h:∀kv∈kvs,Ye n kv.2){vs:List Nkv}(r:RepN C I α vs kvs):RepN C I (α.take n) vs kvs:=by
 induction r with
 |nil=>exact .nil
 |cons a b ih=>exact .cons ⟨a.1,h _ Ji _ _ _ _ a.2⟩ (ih λx hx=>h x (Jg _ hx))
theorem Zja{n:Nat}{sh:List Nat}{z:Option (Obj×List Nkv)}{ds:List (List NI×D)}(h:∀d∈ds,Ye n d.2):Xb n (.dcN sh z ds):=λ_ _ _ _ _ x=>by
 cases z with
 |none=>obtain⟨vs,e,k,r⟩:=x;exists vs,e,k,Zbi h r
 |some z=>exact⟨x.1,x.2.1,Zbi h x.2.2⟩
theorem Zsz{n:Nat}{Cl:Addr}{fs:List (Str×D)}(h:∀d∈fs,Ye n d.2):Xb n (.ins Cl fs):=λC I α H a x=>by
 let⟨dx,vs,e,r⟩:=x;exists dx,vs,e,?_;clear e
 induction fs generalizing vs with
 |nil=>cases r;exact .nil
 |cons d ds ih =>
  cases r with
  |cons a b=>exact .cons ⟨a.1,h _ Ji _ _ _ _ a.2⟩ (ih (λx hx=>h x (Jg _ hx)) _ b)
def Xb.up{n m:Nat}{x:MO}(h:Xb n x)(l:n<=m):Xb m x:=λC I α H a r=>(h C I α H a r).mono (.refl _) (by rw[<-Fe l,<-List.take_take];exact Fq _ _) rfl
theorem MoAt.bel{a:Addr}(h:MoAt C I α H a m):Xb α.length m:=by
 cases m with
 |lst ds=>obtain⟨vs,e,r⟩:=h;exact Zba r.bel
 |dct ds=>obtain⟨vs,e,r⟩:=h;exact Zs4 r.bel
 |dcT ds=>obtain⟨vs,e,r⟩:=h;exact Zs5 r.bel
 |drK ds=>obtain⟨vs,e,r⟩:=h;exact Zs1 r.bel
 |drT ds=>obtain⟨vs,e,r⟩:=h;exact Zs0 r.bel
 |dfT o vs ds=>exact Zs2 h.2.bel
 |dfK o vs ds=>exact Zs3 h.2.bel
 |ins Cl fs =>
  let⟨dx,vs,e,r⟩:=h;refine Zsz λkv hk=>?_;clear e
  induction r with
  |nil=>cases hk
  |cons a b ih =>
   rcases Gi.mp hk with z|z
   .rw[z];exact a.2.bel
   .exact ih z
 |hand=>exact Zpn
 |tab P pos q=>exact Zsy
 |dcN sh z ds=>cases z with|none=>obtain⟨vs,e,k,r⟩:=h;exact Zja r.bel|some z=>exact Zja h.2.2.bel
def Rel.wf(R:Rel C Z I α H M):WfM M:=λm hm=>by
 let⟨k,hk,rfl⟩:=Gg hm;let hk':k < α.length:=by rw[R.len];exact hk
 let:=(R.cel k _ _ (Jb hk') (Jb hk)).1.bel;rwa [R.len]at this
theorem BelS.belowE{n:Nat}{ρ0 ρ':Ev}(b:BelS n ρ0 ρ ρ'):(∀(i:Nat)(d:D),ρ0[i]?=some (some d)->Ye n d)->BelowE n ρ ρ':=by
 induction b with
 |nil=>exact λ_=>.nil
 |skip _ ih=>exact λh=>.skip (ih λi d e=>h (i+1) d (by simpa using e))
 |same _ ih=>exact λh=>.keep (h 0 _ rfl) (ih λi d e=>h (i+1) d (by simpa using e))
 |keep hb _ ih=>exact λh=>.keep hb (ih λi d e=>h (i+1) d (by simpa using e))
theorem Dr.out{I0:Hp}{α0:List Addr}{H0:Hp}{M0:Mem}{P:Ev->Mem->Prop}{σ0:St}{ρ0:Ev}(h:Dr ρ0 M0 P ρ M)(R0:Rel C Z I0 α0 H0 M0)(E0:RepE C I0 α0 σ0 ρ0)(p:α0<+:α)(R:Rel C Z I α H M)(E:RepE C I α σ ρ) :
  ∃α' ρ' M',α0<+:α'/\Rel C Z I α' H M'/\RepE C I α' σ ρ'/\P ρ' M':=by
 rcases h with h|⟨ρ',⟨X,rfl⟩,hb,h⟩|⟨n,ρ',hl,hb,hm,h⟩
 .exists α,ρ,M,p,R,E,h
 .let hb':=hb.belowE λi d e=>by
   let⟨v,_,r⟩:=E0.2 i d e;let:=r.bel;rwa [R0.len]at this
  let et:(M0++X).take M0.length=M0:=Bw ..;let R1:=R.take M0.length (by rw[<-R0.len];exact R0.aa.length_le) (by rw[et];exact R0.wf);rw[et]at R1;exists α.take M0.length,ρ',M0,Tl p (by rw[R0.len];exact Jd _),R1,hb'.rep E,h
 .exists α.take n,ρ',M.take n,Tl p (by rw[R0.len];lia),R.take n (by have:=R0.aa.length_le;let:=R0.len;lia) hm,hb.rep E,h
section
variable{t t':TS}{u u':TS3}{ue:TE3}{tc:TT}{uc:TT3}{g:TG}{ug:TG3}{gs:TGs}{ugs:TGs3}
def uSeq(u u':TS3):TS3:=λE ρ M=>u {E with nx:=u' E} ρ M
def Zv(h1:SimS C Z t u)(h2:SimS C Z t' u'):SimS C Z (tSeq t t') (uSeq u u'):=λI α σ H ρ M E D' R RE h F =>
 h1 I α σ H ρ M {E with nx:=u' E} {D' with nx:=t' D'} R RE h ⟨λI1 α1 σ1 H1 ρ1 M1 s p R1 RE1 h1=>h2 I1 α1 σ1 H1 ρ1 M1 E D' R1 RE1 h1 (F.mono s p),F.rt,F.bk,F.ct⟩
def Ztp:TS3:=λE ρ M=>E.nx ρ M
def Y7:SimS C Z Zqi Ztp:=λI α σ H ρ M E D' R RE h F=>F.nx I α σ H ρ M (.refl _) (Jo _) R RE h
def Zts(ue:TE3):TS3:=λE ρ M=>ue ρ M λ_ M1=>E.nx ρ M1
def Zac(he:SimE C Z te ue):SimS C Z (Zql te) (Zts ue):=λI α σ H ρ M E D' R RE h F =>
 he I α σ H ρ M _ _ R RE h λv d I1 α1 H1 M1 s p R1 r h1=>F.nx I1 α1 σ H1 ρ M1 s p R1 (RE.mono s p) h1
def uRet(ue:TE3):TS3:=λE ρ M=>ue ρ M E.rt
def Xj(he:SimE C Z te ue):SimS C Z (tRet te) (uRet ue):=λI α σ H ρ M E D' R RE h F=>he I α σ H ρ M _ _ R RE h F.rt
def uIfS(c:TT3)(u u':TS3):TS3:=λE ρ M=>c ρ M λb M1=>if b=true then u E ρ M1 else u' E ρ M1
def X2(hc:SimT C Z tc uc)(h1:SimS C Z t u)(h2:SimS C Z t' u'):SimS C Z (tIfS tc t t') (uIfS uc u u'):=λI α σ H ρ M E D' R RE h F =>
 hc I α σ H ρ M _ _ R RE h λb I1 α1 H1 M1 s p R1 h3=>by
  cases b with
  |true =>
   rw[Dt rfl]at h3⊢;exact h1 I1 α1 σ H1 ρ M1 E D' R1 (RE.mono s p) h3 (F.mono s p)
  |false =>
   rw[Ds Jt]at h3⊢;exact h2 I1 α1 σ H1 ρ M1 E D' R1 (RE.mono s p) h3 (F.mono s p)
def uAsg(ue:TE3)(ug:TG3):TS3:=λE ρ M=>ue ρ M λd M1=>ug d ρ M1 E.nx
def Z7(he:SimE C Z te ue)(hg:SimG C Z g ug):SimS C Z (tAsg te g) (uAsg ue ug):=λI α σ H ρ M E D' R RE h F =>
 he I α σ H ρ M _ _ R RE h λv d I1 α1 H1 M1 s p R1 r h1=>hg I1 α1 σ H1 ρ M1 v d _ _ R1 (RE.mono s p) r h1 (F.nx.mono s p)
def uG(i:Nat):TG3:=λd ρ M K=>K (ρ.set i (some d)) M
def s_g(i:Nat):SimG C Z (Zcp i) (uG i):=λI α σ H ρ M v d K Q R RE r h k=>k I α _ H _ M (.refl _) (Jo _) R (RE.set r i) h
def Zp8:TGs3:=λds ρ M K=>ds=[]/\K ρ M
def Zfw(ug:TG3)(ugs:TGs3):TGs3:=λds ρ M K=>∃d r,ds=d::r/\ug d ρ M λρ' M'=>ugs r ρ' M' K
def Ti:Zll C Z gNil Zp8:=λI α σ H ρ M vs ds K Q R RE r h k=>by
 let⟨rfl,h⟩:=h;cases r.inv;exists rfl,k I α σ H ρ M (.refl _) (Jo _) R RE h
theorem Yp(h1:SimG C Z g ug)(h2:Zll C Z gs ugs):Zll C Z (Zo7 g gs) (Zfw ug ugs):=λI α σ H ρ M vs ds K Q R RE r h k=>by
 let⟨d,r',rfl,h⟩:=h;cases r with
 |cons a b=>exact⟨_,_,rfl,h1 I α σ H ρ M _ d _ _ R RE a h λI1 α1 σ1 H1 ρ1 M1 s p R1 RE1 h3=>h2 I1 α1 σ1 H1 ρ1 M1 _ _ _ _ R1 RE1 (b.mono s p) h3 (k.mono s p)⟩
def Zp6(n:Nat)(ugs:TGs3):TG3:=λd ρ M K=>∃ds,Znj d=some ds/\ds.length=n/\ugs ds ρ M K
def Th{n:Nat}(h:Zll C Z gs ugs):SimG C Z (gTup C.k n gs) (Zp6 n ugs):=λI α σ H ρ M v d K Q R RE r hh k=>by
 let⟨ds,e,hl,hh⟩:=hh;let⟨a,vs,rfl,ea,_,ra⟩:=Ui R r e;exists a,vs,rfl,SqT.of ea,by rw[ra.length];exact hl,h I α σ H ρ M vs ds K Q R RE ra hh k
def Zp7(uo ui:TE3):TG3:=λd ρ M K=>uo ρ M λo M1=>ui ρ M1 λi M2=>∃k xs z j,o=.cell k/\i=.int z/\M2[k]?=some (.lst xs)/\ixN xs.length z=some j/\K ρ (M2.set k (.lst (xs.set j d)))
def Zgo{ti:TE}{uo ui:TE3}(ho:SimE C Z to uo)(hi:SimE C Z ti ui):SimG C Z (gSub to ti Zq9) (Zp7 uo ui):=λI α σ H ρ M v d K Q R RE r hh k =>
 ho I α σ H ρ M _ _ R RE hh λov o I1 α1 H1 M1 s1 p1 R1 r1 h1=>hi I1 α1 σ H1 ρ M1 _ _ R1 (RE.mono s1 p1) h1 λiv i I2 α2 H2 M2 s2 p2 R2 r2 h2=>by
  let⟨kk,xs,z,j,rfl,rfl,e1,e2,h2⟩:=h2;cases r2.inv;let⟨_,rfl,ec⟩:=(r1.mono s2 p2).inv;let⟨us,eu,ru⟩:=Uf R2 ec e1;exists _,us,z,j,rfl,rfl,eu,by rw[ru.length];exact e2,?_;exact k I2 α2 σ _ ρ _ (s1.trans s2) (p1.trans p2) (R2.putL ec (ru.set (r.mono (s1.trans s2) (p1.trans p2)) j)) (RE.mono (s1.trans s2) (p1.trans p2)) h2
def uAug(i:Nat)(ue:TE3)(f:Int->Int->Int):TS3:=λE ρ M=>∃x,ρ[i]?=some (some (.int x))/\ue ρ M λd M1=>∃y,d=.int y/\E.nx (ρ.set i (some (.int (f x y)))) M1
def Zj7{i:Nat}{f:Int->Int->Int}(he:SimE C Z te ue):SimS C Z (tAug i te (ipI f)) (uAug i ue f):=λI α σ H ρ M E D' R RE h F=>by
 let⟨x,e,h⟩:=h;let⟨v,e2,r⟩:=RE.2 i _ e;cases r.inv;exists _,e2,he I α σ H ρ M _ _ R RE h λv d I1 α1 H1 M1 s p R1 r h1=>?_;let⟨y,rfl,h1⟩:=h1;cases r.inv;exists x,y,rfl,rfl,F.nx I1 α1 _ H1 _ M1 s p R1 ((RE.mono s p).set (.int _) i) h1
def Zp1(uc:TT3)(u:TS3):TS3:=λE ρ M=>∃P:Nat->Ev->Mem->Prop,(∃m,P m ρ M)/\∀m ρ1 M1,P m ρ1 M1->uc ρ1 M1 λb M2=>if b=true then u {E with nx:=λρ' M'=>∃m',m'<m/\Dr ρ M (P m') ρ' M',ct:=λρ' M'=>∃m',m'<m/\Dr ρ M (P m') ρ' M',bk:=E.nx} ρ1 M2 else E.nx ρ1 M2
theorem Zby(hc:SimT C Z tc uc)(hb:SimS C Z t u):SimS C Z (Zlr tc t) (Zp1 uc u):=λI α σ H ρ M E D' R RE h F=>by
 let⟨P,⟨m0,h0⟩,hs⟩:=h;let hlen:=R.len;exists λm σ1 H1=>∃I1 α1 ρ1 M1,Same I I1/\α<+:α1/\Rel C Z I1 α1 H1 M1/\RepE C I1 α1 σ1 ρ1/\P m ρ1 M1,⟨m0,I,α,ρ,M,.refl _,Jo _,R,RE,h0⟩,?_;rintro m σ1 H1 ⟨I1,α1,ρ1,M1,s1,p1,R1,RE1,h1⟩;refine hc I1 α1 σ1 H1 ρ1 M1 _ _ R1 RE1 (hs m ρ1 M1 h1) λb I2 α2 H2 M2 s2 p2 R2 h2=>?_;cases b with
 |false =>
  rw[Ds Jt]at h2⊢;exact F.nx I2 α2 σ1 H2 ρ1 M2 (s1.trans s2) (p1.trans p2) R2 (RE1.mono s2 p2) h2
 |true =>
  rw[Dt rfl]at h2⊢;refine⟨λσ' H'=>∃m',m'<m/\∃I1 α1 ρ1 M1,Same I I1/\α<+:α1/\Rel C Z I1 α1 H' M1/\RepE C I1 α1 σ' ρ1/\P m' ρ1 M1,λσ' H' h=>h,?_⟩;let nx:FinS C Z I2 α2 (λρ' M'=>∃m',m'<m/\Dr ρ M (P m') ρ' M') (λσ' H'=>∃m',m'<m/\∃I1 α1 ρ1 M1,Same I I1/\α<+:α1/\Rel C Z I1 α1 H' M1/\RepE C I1 α1 σ' ρ1/\P m' ρ1 M1):=λI3 α3 σ3 H3 ρ3 M3 s3 p3 R3 RE3 h3=>by
   let⟨m',hm,h3⟩:=h3;let⟨α4,ρ4,M4,p4,R4,RE4,h4⟩:=h3.out R RE (p1.trans (p2.trans p3)) R3 RE3;exists m',hm,I3,α4,ρ4,M4,s1.trans (s2.trans s3),p4,R4,RE4,h4
  exact hb I2 α2 σ1 H2 ρ1 M2 _ _ R2 (RE1.mono s2 p2) h2 ⟨nx,F.rt.mono (s1.trans s2) (p1.trans p2),F.nx.mono (s1.trans s2) (p1.trans p2),nx⟩
structure It3 where
 n:Nat
 item:Nat->D->Prop
 ok:Mem->Prop
abbrev TI3:=Ev->Mem->(It3->Mem->Prop)->Prop
def ItR(C:Cf)(Z:Anc)(I:Hp)(α:List Addr)(J:It)(j:It3):Prop:=∀I' α' H' M',Same I I'->α<+:α'->Rel C Z I' α' H' M'->j.ok M' ->
 (∀i,i<j.n->J.go i H'/\∀x H2,J.yld i H' x H2->∃I2 d,Same I' I2/\Rel C Z I2 α' H2 M'/\Rep C I2 α' x d/\j.item i d)/\J.stop j.n H'
def SimI(C:Cf)(Z:Anc)(w:TI)(u:TI3):Prop:=∀I α σ H ρ M(K:It3->Mem->Prop)(R':It->Hp->Prop),Rel C Z I α H M->RepE C I α σ ρ->u ρ M K ->
 (∀J j I' α' H' M',Same I I'->α<+:α'->Rel C Z I' α' H' M'->ItR C Z I' α' J j->K j M'->R' J H')->w σ H R'
def uIL(ue:TE3):TI3:=λρ M K=>ue ρ M λd M1=>∃ds,Xz M1 d=some ds/\K ⟨ds.length,λi x=>ds[i]?=some x,λM=>Xz M d=some ds⟩ M1
def s_il(he:SimE C Z te ue):SimI C Z (Zsb C.k te) (uIL ue):=λI α σ H ρ M K R' R RE h k =>
 he I α σ H ρ M _ _ R RE h λv d I1 α1 H1 M1 s1 p1 R1 r1 h1=>by
  let⟨ds,e,h1⟩:=h1;let⟨a,vs,rfl,ea,ra⟩:=Ul R1 r1 e;exists a,rfl,⟨vs,ea⟩,k _ _ I1 α1 H1 M1 s1 p1 R1 (λI2 α2 H2 M2 s2 p2 R2 ok=>?_) h1;let⟨b,ws,eb,eq,rw'⟩:=Ul R2 (r1.mono s2 p2) ok;cases eb;exists λi hi=>?_,⟨ws,eq,by rw[rw'.length];exact Jd _⟩;let hi2:i<ws.length:=by rw[rw'.length];exact hi
  exists⟨ws,ws[i],eq,Jb hi2⟩,λx H3 y=>?_;let⟨rfl,y⟩:=y;let:=y ws eq;rw[Jb hi2]at this;cases this;exists I2,ds[i],.refl _,R2,rw'.at hi2 hi,Jb hi
def uIT(ue:TE3):TI3:=λρ M K=>ue ρ M λd M1=>∃ds,Znj d=some ds/\K ⟨ds.length,λi x=>ds[i]?=some x,λ_=>True⟩ M1
def s_it(he:SimE C Z te ue):SimI C Z (iTup C.k te) (uIT ue):=λI α σ H ρ M K R' R RE h k =>
 he I α σ H ρ M _ _ R RE h λv d I1 α1 H1 M1 s1 p1 R1 r1 h1=>by
  let⟨ds,e,h1⟩:=h1;let⟨a,vs,rfl,ea,ia,ra⟩:=Ui R1 r1 e;exists a,rfl,⟨vs,SqT.of ea⟩,k _ _ I1 α1 H1 M1 s1 p1 R1 (λI2 α2 H2 M2 s2 p2 R2 ok=>?_) h1;let eq:SqT C.k H2 a vs:=SqT.of (R2.sub _ _ (s2 _ _ ia));let rw':=ra.mono s2 p2;exists λi hi=>?_,⟨vs,eq,by rw[rw'.length];exact Jd _⟩;let hi2:i<vs.length:=by rw[rw'.length];exact hi
  exists⟨vs,vs[i],eq,Jb hi2⟩,λx H3 y=>?_;let⟨rfl,y⟩:=y;let:=y vs eq;rw[Jb hi2]at this;cases this;exists I2,ds[i],.refl _,R2,rw'.at hi2 hi,Jb hi
def Zka(lo:Int)(n:Nat):It3:=⟨n,λi x=>x=.int (lo+i),λ_=>True⟩
def Zul{lo:Int}{n:Nat}:ItR C Z I α (Itr lo n) (Zka lo n):=λI' α' H' M' s p R _=>⟨λi hi=>⟨hi,λx H2 y=>by
 let⟨rfl,rfl⟩:=y;exact⟨I',_,.refl _,R,.int _,rfl⟩⟩,Jd _⟩
variable{ta:TA}{ua:TA3}
def uIR1(ua:TA3):TI3:=λρ M K=>ua ρ M λds M1=>∃j:Int,ds=[.int j]/\(-(2 ^ 62)<=j/\j<2 ^ 62)/\K (Zka 0 j.toNat) M1
def Zbz(ha:SimA C Z ta ua):SimI C Z (Zsa ta) (uIR1 ua):=λI α σ H ρ M K R' R RE h k =>
 ha I α σ H ρ M _ _ R RE h λvs ds I1 α1 H1 M1 s1 p1 R1 r1 h1=>by
  let⟨j,rfl,⟨h2,h3⟩,h1⟩:=h1;refine Reps.e1 r1 λ_ a=>?_;cases a;exists j,rfl,h2,h3,k _ _ I1 α1 H1 M1 s1 p1 R1 Zul h1
def uFor(ui:TI3)(ug:TG3)(ub:TS3):TS3:=λE ρ M=>ui ρ M λj M1=>∃P:Nat->Ev->Mem->Prop,(∀i ρ M,i<=j.n->P i ρ M->j.ok M)/\P 0 ρ M1 /\
 (∀i x ρ1 M',i<j.n->j.item i x->P i ρ1 M'->ug x ρ1 M' λρ2 M2=>ub {E with nx:=Dr ρ M1 (P (i+1)),ct:=Dr ρ M1 (P (i+1)),bk:=E.nx} ρ2 M2)/\∀ρ M,P j.n ρ M->E.nx ρ M
theorem Ri{ui:TI3}(hi:SimI C Z wi ui)(hg:SimG C Z g ug)(hb:SimS C Z t u):SimS C Z (tFor wi g t) (uFor ui ug u):=λI α σ H ρ M E D' R RE h F =>
 hi I α σ H ρ M _ _ R RE h λJ j I1 α1 H1 M1 s1 p1 R1 IR h1=>by
  let⟨P,hok,h0,hs,he⟩:=h1;let hlen:=R1.len;exists λi m σ' H'=>m=j.n-i/\i<=j.n/\∃I2 α2 ρ2 M2,Same I1 I2/\α1<+:α2/\Rel C Z I2 α2 H' M2/\RepE C I2 α2 σ' ρ2/\P i ρ2 M2,⟨j.n,rfl,Gc _,I1,α1,ρ,M1,.refl _,Jo _,R1,RE.mono s1 p1,h0⟩,?_;rintro i m σ' H' ⟨rfl,hi,I2,α2,ρ2,M2,s2,p2,R2,RE2,h2⟩;let⟨go,stop⟩:=IR I2 α2 H' M2 s2 p2 R2 (hok i ρ2 M2 hi h2)
  by_cases hlt:i<j.n
  .let⟨g1,g2⟩:=go i hlt;refine .inr ⟨g1,λσ3 H3=>∃I3 α3 ρ3 M3,Same I1 I3/\α1<+:α3/\Rel C Z I3 α3 H3 M3/\RepE C I3 α3 σ3 ρ3/\P (i+1) ρ3 M3,λσ3 H3 h3=>⟨j.n-(i+1),(),rfl,hlt,h3⟩,λx H3 y=>?_⟩;let⟨I3,d,s3,R3,r3,it⟩:=g2 x H3 y;refine hg I3 α2 σ' H3 ρ2 M2 x d _ _ R3 (RE2.mono s3 (Jo _)) r3 (hs i d ρ2 M2 hlt it h2) λI4 α4 σ4 H4 ρ4 M4 s4 p4 R4 RE4 h4=>?_;let nx:FinS C Z I4 α4 (Dr ρ M1 (P (i+1))) (λσ3 H3=>∃I3 α3 ρ3 M3,Same I1 I3/\α1<+:α3/\Rel C Z I3 α3 H3 M3/\RepE C I3 α3 σ3 ρ3/\P (i+1) ρ3 M3):=λI5 α5 σ5 H5 ρ5 M5 s5 p5 R5 RE5 h5=>by
    let⟨α6,ρ6,M6,p6,R6,RE6,h6⟩:=h5.out R1 (RE.mono s1 p1) (p2.trans (p4.trans p5)) R5 RE5;exists I5,α6,ρ6,M6,s2.trans (s3.trans (s4.trans s5)),p6,R6,RE6,h6
   let F4:=F.mono (s1.trans (s2.trans (s3.trans s4))) (p1.trans (p2.trans p4));exact hb I4 α4 σ4 H4 ρ4 M4 _ _ R4 RE4 h4 ⟨nx,F4.rt,F4.nx,nx⟩
  .let e:i=j.n:=by lia
   subst e;exact .inl ⟨stop,F.nx I2 α2 σ' H' ρ2 M2 (s1.trans s2) (p1.trans p2) R2 RE2 (he ρ2 M2 h2)⟩
def sg3(ρ:Ev)(T:List Str)(cs:List Nat):Ev:=T.map (λ_=>none)++cs.map λi=>ρ.getD i none
def RepE.sg(h:RepE C I α σ ρ)(T:List Str)(cs:List Nat):RepE C I α (sgOf σ T cs) (sg3 ρ T cs):=by
 exists by unfold sgOf sg3;simp,λi d e=>?_;unfold sg3 at e;unfold sgOf
 by_cases hi:i<T.length
 .rw[Js (by simpa using hi),Ge,Jb hi]at e;simp at e
 .rw[J8 (by simpa using hi),Ge]at e;rw[J8 (by simpa using hi),Ge];simp only[Ja]at e⊢;cases hc:cs[i-T.length]? with
  |none=>rw[hc]at e;cases e
  |some c =>
   rw[hc]at e;simp only[F0,Ma]at e⊢;rw[Gf]at e⊢;cases hr:ρ[c]? with
   |none=>rw[hr]at e;cases e
   |some o =>
    rw[hr]at e;cases e;let⟨v,e2,r⟩:=h.2 c d hr;exists v,by rw[e2];rfl,r
variable{tt:TT}{ut:TT3} 
def cmp3(ui:TI3)(ug:TG3)(ut:TT3)(ue:TE3)(T:List Str)(cs:List Nat)(ρ:Ev)(M:Mem)(F:List D->Mem->Prop):Prop:=ui ρ M λj M1=>j.n<=sizeLine/\∃P:Nat->List D->Mem->Prop,(∀i ys M,i<=j.n->P i ys M->j.ok M)/\P 0 [] M1 /\
 (∀i x ys M,i<j.n->j.item i x->P i ys M->ug x (sg3 ρ T cs) M λρ2 M2=>ut ρ2 M2 λb M3=>if b=true then ue ρ2 M3 λy M4=>P (i+1) (ys++[y]) M4 else P (i+1) ys M3)/\∀ys M,P j.n ys M->F ys M
def Zqa(ui:TI3)(ug:TG3)(ut:TT3)(ue:TE3)(T:List Str)(cs:List Nat):TE3:=λρ M K=>cmp3 ui ug ut ue T cs ρ M λys M1=>K (.lst ys) M1
def Zp9(ui:TI3)(ug:TG3)(ut:TT3)(ue:TE3)(T:List Str)(cs:List Nat):TE3:=λρ M K=>cmp3 ui ug ut ue T cs ρ M λys M1=>K (.cell M1.length) (M1++[.lst ys])
theorem Zee{ui:TI3}(hi:SimI C Z wi ui)(hg:SimG C Z g ug)(ht:SimT C Z tt ut)(he:SimE C Z te ue){F:List D->Mem->Prop}(R:Rel C Z I α H M)(RE:RepE C I α σ ρ)(h:cmp3 ui ug ut ue T cs ρ M F)(k:∀ys vs I' α' H' M',Same I I'->α<+:α'->Rel C Z I' α' H' M'->Reps C I' α' vs ys->F ys M'->∀p,H' p=none->Q (.ref p) (upd H' p (.lst vs))):Zf2 wi g tt te T cs σ H Q :=
 hi I α σ H ρ M _ _ R RE h λJ j I1 α1 H1 M1 s1 p1 R1 IR h1=>by
  let⟨hz,P,hok,h0,hs,hd⟩:=h1;exists λi m vs H'=>m=j.n-i/\i<=j.n/\∃I2 α2 ys M2,Same I1 I2/\α1<+:α2/\Rel C Z I2 α2 H' M2/\Reps C I2 α2 vs ys/\ys.length<=i/\P i ys M2,⟨j.n,rfl,Gc _,I1,α1,[],M1,.refl _,Jo _,R1,.nil,Jd _,h0⟩,?_;rintro i m vs H' ⟨rfl,hi,I2,α2,ys,M2,s2,p2,R2,r2,hl,h2⟩;let⟨go,stop⟩:=IR I2 α2 H' M2 s2 p2 R2 (hok i ys M2 hi h2);let hvl:=r2.length
  by_cases hlt:i<j.n
  .let⟨g1,g2⟩:=go i hlt;refine .inr ⟨g1,(),λvs3 H3=>∃I3 α3 ys3 M3,Same I1 I3/\α1<+:α3/\Rel C Z I3 α3 H3 M3/\Reps C I3 α3 vs3 ys3/\ys3.length<=i+1/\P (i+1) ys3 M3,λvs3 H3 h3=>⟨j.n-(i+1),(),rfl,hlt,h3⟩,λx H3 y=>?_⟩;let⟨I3,d,s3,R3,r3,it⟩:=g2 x H3 y;let RE3:RepE C I3 α2 σ ρ:=RE.mono (s1.trans (s2.trans s3)) (p1.trans p2);refine hg I3 α2 _ H3 _ M2 x d _ _ R3 (RE3.sg T cs) r3 (hs i d ys M2 hlt it h2) λI4 α4 σ4 H4 ρ4 M4 s4 p4 R4 RE4 h4=>?_;refine ht I4 α4 σ4 H4 ρ4 M4 _ _ R4 RE4 h4 λb I5 α5 H5 M5 s5 p5 R5 h5=>?_;cases b with
   |true =>
    rw[Dt rfl]at h5⊢;refine he I5 α5 σ4 H5 ρ4 M5 _ _ R5 (RE4.mono s5 p5) h5 λv e I6 α6 H6 M6 s6 p6 R6 r6 h6=>?_;exists I6,α6,ys++[e],M6,s2.trans (s3.trans (s4.trans (s5.trans s6))),p2.trans (p4.trans (p5.trans p6)),R6,(r2.mono (s3.trans (s4.trans (s5.trans s6))) (p4.trans (p5.trans p6))).app (.one r6),?_,h6;rw[Jc,G0];lia
   |false =>
    rw[Ds Jt]at h5⊢;exists I5,α5,ys,M5,s2.trans (s3.trans (s4.trans s5)),p2.trans (p4.trans p5),R5,r2.mono (s3.trans (s4.trans s5)) (p4.trans p5),(),h5
  .let e:i=j.n:=by lia
   subst e;exact .inl ⟨stop,(),k ys vs I2 α2 H' M2 (s1.trans s2) (p1.trans p2) R2 r2 (hd ys M2 h2)⟩
def Xp{ui:TI3}(hi:SimI C Z wi ui)(hg:SimG C Z g ug)(ht:SimT C Z tt ut)(he:SimE C Z te ue):SimE C Z (Zf2 wi g tt te T cs) (Zqa ui ug ut ue T cs):=λI α σ H ρ M K Q R RE h k =>
 Zee hi hg ht he R RE h λys vs I' α' H' M' s p R' r hF q hq=>by
  let⟨R2,s2,e2⟩:=R'.new (o:=.lst vs) hq;exact k _ _ _ α' _ M' (s.trans s2) p R2 (.lst e2 (r.mono s2 (Jo _))) hF
def Zn2{ui:TI3}(hi:SimI C Z wi ui)(hg:SimG C Z g ug)(ht:SimT C Z tt ut)(he:SimE C Z te ue):SimE C Z (Zf2 wi g tt te T cs) (Zp9 ui ug ut ue T cs):=λI α σ H ρ M K Q R RE h k =>
 Zee hi hg ht he R RE h λys vs I' α' H' M' s p R' r hF q hq=>by
  let⟨R2,p2,e2⟩:=R'.cell (o:=.lst vs) (m:=.lst ys) hq λH' e=>⟨vs,e,r⟩;exact k _ _ I' _ _ _ s (p.trans p2) R2 (.cell e2) hF
def Ztm:TT3:=λ_ M K=>K true M
def Vm:SimT C Z Zqd Ztm:=λI α σ H ρ M K Q R E h k=>k true I α H M (.refl _) (Jo _) R h
abbrev Sp3:=List D->Mem->K3->Prop
def spOf(C:Cf)(sp:Sp3):Sp:=λvs H Q _=>∃Z I α M ds K,Rel C Z I α H M/\Reps C I α vs ds/\sp ds M K/\Fin C Z I α K Q
def Zni(sp:Sp3)(ua:TA3):TE3:=λρ M K=>ua ρ M λds M1=>sp ds M1 K
def Z3{sp:Sp3}{E0':XK}(ha:SimA C Z ta ua):SimE C Z (Znl (spOf C sp) [] E0' ta) (Zni sp ua):=λI α σ H ρ M K Q R RE h k =>
 ha I α σ H ρ M _ _ R RE h λvs ds I1 α1 H1 M1 s1 p1 R1 r1 h1=>by
  rw[Gm];exists Z,I1,α1,M1,ds,K,R1,r1,h1,k.mono s1 p1
def Cal.imp{base:Heap}{x:Str}{k:Nat}{sp sp':Sp}(c:Cal P w K mg base x k ps sp)(h:∀vs H Q E,sp' vs H Q E->sp vs H Q E):Cal P w K mg base x k ps sp' :=
 let⟨f,fd,a,b⟩:=c
 ⟨f,fd,a.imp h,b⟩
def Zdg(N:List Str)(ds:List D):Ev:=ds.map some++Ci (N.length-ds.length) none
def Zgv(r:Reps C I α vs ds)(N:List Str):RepE C I α (L2.Tb N vs) (Zdg N ds):=by
 let hl:=r.length;exists by unfold L2.Tb Zdg;simp[hl],λi d e=>?_;unfold Zdg at e;unfold L2.Tb
 by_cases hi:i<ds.length
 .rw[Js (by simpa using hi),Ge,Jb hi]at e;let e':ds[i]=d:=by simpa using e
  rw[Js (by simpa[hl]using hi),Ge,Jb (by rw[hl];exact hi)];exists ·,e' ▸ r.at (by rw[hl];exact hi) hi
 .rw[J8 (by simpa using hi),Mf]at e
  split at e<;>cases e
def Fun.ok3{base:Heap}{x:Str}{f:Addr}{k:Nat}{sp:Sp3}(F:Fun K x qual st f fd)(S:FnScope N ps (Zo st))(len:∀ds M K,sp ds M K->ds.length=ps.length)(hbody:∀(cdv:Value)(A:Kf)(outer:List Env)(s:Ca)(H:Hp)(E:XK),Room k (A.deeper (Lj qual (Zo st) s.heap.objs.size f cdv)) ->
   ∃t u,PSs (cxOf CX0 P w K mg base N qual (Zo st) f cdv A outer s H E).nox (Xs st) t/\(∀Z,SimS C Z t u)/\∀ds M K,WfM M->(∀d∈ds,Ye M.length d)->sp ds M K->u {nx:=λ_ M'=>Dk M.length K .non M',rt:=Dk M.length K} (Zdg N ds) M):FnOk P w K mg base CX0 (k+1) f fd ps (spOf C sp):=by
 refine F.ok S (λvs H Q E h=>?_) (λcdv A outer s H vs Q E hr h=>?_)
 .let⟨Z,I,α,M,ds,K,R,r,h,_⟩:=h;rw[r.length];exact len ds M K h
 .let⟨t,u,h1,h2,h3⟩:=hbody cdv A outer s H E hr;let⟨Z,I,α,M,ds,K,R,r,h,k⟩:=h;let kd:=k.dk R.len R.aa;exists t,h1,h2 Z I α _ H _ M _ _ R (Zgv r N) (h3 ds M K R.wf (by rw[<-R.len];exact r.bel) h) ⟨λI1 α1 σ1 H1 ρ1 M1 s1 p1 R1 _ h1=>kd _ _ I1 α1 H1 M1 s1 p1 R1 .non h1,kd,λ_ _ _ _ _ _ _ _ _ _ h=>h.elim,λ_ _ _ _ _ _ _ _ _ _ h=>h.elim⟩
end
section
def Rel.full(R:Rel C Z I α H M):∃I',Same I I'/\Rel C Z I' α H M/\∀b o,H b=some o->b∉α->I' b=some o:=by
 let s:Same I (λb=>if b∈α then none else H b):=λb o e=>by
  let hb:b∉α:=λhb=>by
   let⟨k,hk,rfl⟩:=Gg hb;let hk':k<M.length:=by rw[<-R.len];exact hk
   rw[(R.cel k _ _ (Jb hk) (Jb hk')).2]at e;cases e
  show(if b∈α then none else H b)=some o;rw[Ds hb];exact R.sub b o e
 exists _,s,⟨R.ai.trans s,R.aa,λb o e=>?_,R.len,R.nd,λk a m h1 h2=>?_⟩,λb o e hb=>?_
 .let e':(if b∈α then none else H b)=some o:=e
  split at e'
  .cases e'
  .exact e'
 .exists(R.cel k a m h1 h2).1.mono s (Jo _) rfl,?_;show(if a∈α then none else H a)=none;rw[Dt (Gx h1)]
 .show(if b∈α then none else H b)=some o;rw[Ds hb];exact e
def Rel.out(R:Rel C Z I α H M)(h:H l=none):l∉α:=λhl=>by
 let⟨k,hk,e⟩:=Gg hl;exact R.cellNe (Jb hk) h e
theorem Rel.tupOut(R:Rel C Z I α H M)(h:H l=some (.tup vs)):l∉α:=λhl=>by
 let⟨k,hk,rfl⟩:=Gg hl;let hk':k<M.length:=by rw[<-R.len];exact hk
 let:=(R.cel k _ _ (Jb hk) (Jb hk')).1;cases hm:M[k]with
 |lst ds=>rw[hm]at this;let⟨vs,e,_⟩:=this;rw[h]at e;cases e
 |dct ds=>rw[hm]at this;let⟨vs,e,_⟩:=this;rw[h]at e;cases e
 |dcT ds=>rw[hm]at this;let⟨vs,e,_⟩:=this;rw[h]at e;cases e
 |drK ds=>rw[hm]at this;let⟨vs,e,_⟩:=this;rcases e with e|⟨o,e⟩<;>(rw[h]at e;cases e)
 |drT ds=>rw[hm]at this;let⟨vs,e,_⟩:=this;rcases e with e|⟨o,e⟩<;>(rw[h]at e;cases e)
 |dfT o vs ds=>rw[hm]at this;let e:=this.1;rw[h]at e;cases e
 |dfK o vs ds=>rw[hm]at this;let e:=this.1;rw[h]at e;cases e
 |ins Cl fs=>rw[hm]at this;let⟨dx,vs,e,_⟩:=this;rw[h]at e;cases e
 |hand=>rw[hm]at this;let⟨d,k,c,cs,e,_⟩:=this;rw[h]at e;cases e
 |tab P pos q=>rw[hm]at this;let⟨_,ps,e,_⟩:=this;rw[h]at e;cases e
 |dcN sh z ds=>rw[hm]at this;cases z with|none=>obtain⟨vs,e,_⟩:=this;rw[h]at e;cases e|some z=>have e:=this.1;rw[h]at e;cases e
def Rel.same(R:Rel C Z I α H M)(s:Same H H'):Rel C Z I α H' M:=by
 exists R.ai,R.aa,R.sub.trans s,R.len,R.nd,λk a m h1 h2=>?_;let⟨a1,a2⟩:=R.cel k a m h1 h2;let⟨o,e⟩:=a1.some;exists a1.mono (.refl _) (Jo _) ((s _ _ e).trans e.symm),a2
def Rel.grow(R:Rel C Z I α H M){k:Nat}{p:Addr}{cs:List Int}(ha:α[k]?=some p)(hm:M[k]?=some .hand)(hh:HandAt H' p c)(ic:I c=some (.lst (cs.map V.int)))(hc:cs≠[]/\cs.length<=63/\∀c∈cs,0<=c)(g:Grow p H H'):Rel C Z I α H' M:=by
 let ip:I p=none:=(R.cel k p _ ha hm).2;exists R.ai,R.aa,λb o e=>g b o (R.sub b o e) (λz=>by rw[z,ip]at e;cases e),R.len,R.nd,λj a m h1 h2=>?_;let⟨a1,a2⟩:=R.cel j a m h1 h2
 by_cases e:k=j
 .subst e;rw[ha]at h1;cases h1;rw[hm]at h2;cases h2;let⟨d0,i0,cs',x1,x2,x3,x4,x5,x6,x7⟩:=hh.ex;exists⟨d0,i0,c,cs,x1,ic,hc.1,hc.2.1,x5,x6,hc.2.2⟩,ip
 .let⟨o,eo⟩:=a1.some;let ne:a≠p:=λz=>by
   let⟨hj,ej⟩:=Je.mp h1;let⟨hk,ek⟩:=Je.mp ha;rw[<-ej,<-ek]at z;exact e ((G9 R.nd).mp z).symm
  exists a1.mono (.refl _) (Jo _) ((g _ _ eo ne).trans eo.symm),a2
def Rel.hand(R:Rel C Z I α H M){k:Nat}{p:Addr}(ha:α[k]?=some p)(hm:M[k]?=some .hand):∃c cs,HandAt H p c/\I c=some (.lst (cs.map V.int))/\cs≠[]/\cs.length<=63/\∀c∈cs,0<=c:=by
 let⟨d,i,c,cs,e,ic,h1,h2,h3,h4,h5⟩:=(R.cel k p _ ha hm).1;exists c,cs,⟨d,i,cs,e,R.sub _ _ ic,h1,h2,h3,h4,h5⟩,ic,h1,h2,h5
theorem Rel.cellAt(R:Rel C Z I α H M)(il:I l=none)(hl:l∉α)(hm:MoAt C I α H l m):Rel C Z I (α++[l]) H (M++[m])/\α<+:(α++[l])/\(α++[l])[M.length]?=some l:=by
 refine⟨⟨R.ai,R.aa.trans (Gn _ _),R.sub,by rw[Jc,Jc,R.len];rfl,?_,λk a x h1 h2=>?_⟩,Gn _ _,by rw[<-R.len];simp⟩
 .rw[Bv];exists R.nd,by simp,λa ha b hb e=>hl (by rw[<-Jf.mp hb,<-e];exact ha)
 .by_cases hk:k < α.length
  .rw[Js hk]at h1;rw[Js (by rw[<-R.len];exact hk)]at h2;let⟨a1,a2⟩:=R.cel k a x h1 h2;exists a1.mono (.refl _) (Gn _ _) rfl,a2
  .let⟨hk2,_⟩:=Je.mp h1;rw[Jc,G0]at hk2;let e:k=α.length:=by lia
   subst e;let e1:(α++[l])[α.length]?=some l:=by simp
   let e2:(M++[m])[α.length]?=some m:=by rw[R.len];simp
   rw[e1]at h1;rw[e2]at h2;cases h1;cases h2;exists hm.mono (.refl _) (Gn _ _) rfl,il
end
variable{ui:L3.TI3}
def wD(w:List Int):D:=.tup (w.map .int)
def pD(p:Pr):D:=.tup [.int p.1,wD p.2]
def oD:Option Int->D
 |some z=>.int z
 |none=>.non
section
def Zuc(s:∀b xs,H b=some (.tup xs)->I b=some (.tup xs)){v:V}{p:Pr}(h:Qs H v p):Rep C I α v (pD p):=by
 let⟨t,tw,rfl,e,e2⟩:=h;exact .tup (s _ _ e) (.cons (.int _) (.one (.tup (s _ _ e2) (.ints p.2))))
theorem Zdn{F:V->τ->Prop}{f:τ->D}(h:∀v a,F v a->Rep C I α v (f a)):∀{vs:List V}{as:List τ},Paired F vs as->Reps C I α vs (as.map f):=by
 intro _ _ hz9;cases hz9 with
 |nil=>
  exact .nil
 |cons a b=>
  exact .cons (h _ _ a) (Zdn h b)
theorem P2{F:V->τ->Prop}{f:τ->D}(h:∀v a,Rep C I α v (f a)->F v a):∀{vs:List V}{as:List τ},Reps C I α vs (as.map f)->Paired F vs as
 |_,[],r=>by cases r.inv;exact .nil
 |_,a::as,r=>by
  cases r with
  |cons x y=>exact .cons (h _ _ x) (P2 h y)
def Zpz(s:Same I H){v:V}{w:List Int}(h:Rep C I α v (wD w)):Zfi H v w:=by
 let⟨_,_,rfl,e,r⟩:=h.inv;rw[r.of_ints w]at e;exists ·,s _ _ e
theorem Zrl(s:Same I H){v:V}{p:Pr}(h:Rep C I α v (pD p)):Qs H v p:=by
 cases h with
 |tup e r =>
  cases r with
  |cons a b =>
   cases b with
   |cons b c =>
    cases c;cases a;let⟨t,rfl,e2⟩:=Zpz s b;exists _,t,rfl,s _ _ e,e2
end
section
def Zct:Sp3:=λds M K=>∃k n,ds=[.cell k,.int n]/\M[k]?=some .hand/\(0<n/\n<1073741824)/\∀r,0<=r->r<n->K (.int r) M
def Ztf{E:XK}(h:spOf C Zct vs H Q E):Zdh vs H Q E:=by
 let⟨Z,I,α,M,ds,K,R,r,⟨k,n,rfl,hm,⟨n0,n1⟩,h⟩,kk⟩:=h;refine Reps.e2 r λ_ _ r1 r2=>?_;cases r2.inv;let⟨p,rfl,ha⟩:=r1.inv;let⟨c,cs,hh,ic,hc⟩:=R.hand ha hm;exists p,c,n,rfl,hh,n0,n1,λz H' z0 z1 hh' g _=>kk _ _ I α H' M (.refl _) (Jo _) (R.grow ha hm hh' ic hc g) (.int z) (h z z0 z1)
def Zsp:Sp3:=λds M K=>∃(ns:List Int)(i:Int),ds=[.frz (ns.map .int),.int i]/\(ns.length<=63/\0<=i/\i<2 ^ 60)/\K (.cell M.length) (M++[.hand])
def Zsc{v:V}(R:Rel C Z I α H M)(r:Rep C I α v (.frz (ns.map .int))):∃a,v=.ref a/\SqL C.k H a (ns.map V.int):=by
 let⟨_,_,rfl,e,r⟩:=r.inv;rw[r.of_ints ns]at e;exists ·,R.sub.seq e
def Ztd{E:XK}(h:spOf C Zsp vs H Q E):Zly C.k vs H Q E:=by
 let⟨Z,I,α,M,ds,K,R,r,⟨ns,i,rfl,⟨hl,i0,i1⟩,h⟩,kk⟩:=h;refine Reps.e2 r λ_ _ r1 r2=>?_;cases r2.inv;let⟨a,rfl,hS⟩:=Zsc R r1;refine⟨a,ns,i,rfl,hS,hl,i0,i1,λp c H' np nc hh s=>?_⟩;let R1:=R.same s;let pc:p≠c:=hh.ne;let⟨d0,i0',cs,x1,x2,x3,x4,x5,x6,x7⟩:=hh.ex;let ipn:I p=none:=R.sub.free np;let icn:I c=none:=R.sub.free nc;let R2:Rel C Z (upd I c (.lst (cs.map V.int))) α H' M:=by
  exists R1.ai.trans (Zc icn),R1.aa,λb o e=>?_,R1.len,R1.nd,λk a m h1 h2=>?_
  .by_cases z:b=c
   .subst z;rw[Zh]at e;cases e;exact x2
   .rw[Zp z]at e;exact R1.sub b o e
  .let⟨a1,a2⟩:=R1.cel k a m h1 h2;let ne:a≠c:=R.cellNe h1 nc;exact⟨a1.mono (Zc icn) (Jo _) rfl,by rw[Zp ne];exact a2⟩
 let⟨R3,p3,e3⟩:=R2.cellAt (l:=p) (m:=.hand) (by rw[Zp pc];exact ipn) (R.out np) ⟨d0,i0',c,cs,x1,Zh,x3,x4,x5,x6,x7⟩;exact kk _ _ _ _ H' _ (Zc icn) p3 R3 (.cell e3) h
def Zid{k:Nat}{p:Addr}{cs bs:List Int}{K:K3}(R:Rel C Z I α H M)(ha:α[k]?=some p)(hm:M[k]?=some .hand)(hh:HandAt H' p c)(ic:I c=some (.lst (cs.map V.int)))(hc:cs≠[]/\cs.length<=63/\∀c∈cs,0<=c)(g:Grow p H H')(nl:H l=none)(el:H' l=some (.lst (bs.map V.int)))(kk:Fin C Z I α K Q)(h:K (.lst (bs.map .int)) M):Q (.ref l) H':=by
 let⟨I',s,R',f⟩:=(R.grow ha hm hh ic hc g).full;exact kk _ _ I' α H' M s (Jo _) R' (.lst (f _ _ el (R.out nl)) (.ints bs)) h
def Zmx:Sp3:=λds M K=>∃k m,ds=[.cell k,.int m]/\M[k]?=some .hand/\(2<=m/\m<=4)/\∀bs:List Int,bs.Nodup->2<=bs.length->(bs.length:Int)<=m->(∀b∈bs,0<=b/\b<256)->K (.lst (bs.map .int)) M
def Zpv{E:XK}(h:spOf C Zmx vs H Q E):Zga vs H Q E:=by
 let⟨Z,I,α,M,ds,K,R,r,⟨k,m,rfl,hm,⟨m0,m1⟩,h⟩,kk⟩:=h;refine Reps.e2 r λ_ _ r1 r2=>?_;cases r2.inv;let⟨p,rfl,ha⟩:=r1.inv;let⟨c,cs,hh,ic,hc⟩:=R.hand ha hm;exists p,c,m,rfl,hh,m0,m1,λl bs H' nl _ el nd b2 bm bb hh' g=>Zid R ha hm hh' ic hc g nl el kk (h bs nd b2 bm bb)
def Zms:Sp3:=λds M K=>∃k m,ds=[.cell k,.int m]/\M[k]?=some .hand/\(0<=m/\m<=100)/\∀ss:List Int,ss.Nodup->(ss.length:Int)=m->K (.lst (ss.map .int)) M
def ints_at{v:V}(R:Rel C Z I α H M)(r:Rep C I α v (.lst (ns.map .int))):∃a,v=.ref a/\H a=some (.lst (ns.map V.int))/\I a=some (.lst (ns.map V.int)):=by
 let⟨_,_,rfl,e,r⟩:=r.inv;rw[r.of_ints ns]at e;exists ·,R.sub _ _ e,e
def Zho{k:Nat}{p a:Addr}{o:HO}(R:Rel C Z I α H M)(ha:α[k]?=some p)(hm:M[k]?=some .hand)(e:I a=some o):a≠p:=λz=>by
 rw[z,(R.cel k p _ ha hm).2]at e;cases e
def Zmi{v:V}(R:Rel C Z I α H M)(r:Rep C I α v (.lst ds)):∃a vs,v=.ref a/\H a=some (.lst vs)/\I a=some (.lst vs)/\Reps C I α vs ds:=by
 let⟨_,_,rfl,e,r⟩:=r.inv;exists _,·,R.sub _ _ e,e,r
def Zjm{v:V}(R:Rel C Z I α H M)(r:Rep C I α v (.lst (ws.map wD))):∃a vs,v=.ref a/\I a=some (.lst vs)/\Zjg H a ws:=by
 let⟨a,vs,rfl,e,i,rr⟩:=Zmi R r;exists a,vs,rfl,i,vs,e,P2 (F:=Zfi H) (f:=wD) (λv a z=>Zpz R.sub z) rr
def Zjt{v:V}(R:Rel C Z I α H M)(r:Rep C I α v (.lst (L.map pD))):∃a vs,v=.ref a/\I a=some (.lst vs)/\Vd H a L:=by
 let⟨a,vs,rfl,e,i,rr⟩:=Zmi R r;exists a,vs,rfl,i,vs,e,P2 (F:=Qs H) (f:=pD) (λv a z=>Zrl R.sub z) rr
def Zmr:Sp3:=λds M K=>∃(k:Nat)(ws:List (List Int))(ss:List Int),ds=[.cell k,.lst (ws.map wD),.lst (ss.map .int)]/\M[k]?=some .hand/\(WOk ws/\ws.length<=28/\ss.Nodup/\ws.length<=ss.length/\ss.length<=100)/\∀L:List Pr,Free L->Fits L->(L.map (·.2)).Perm ws->K (.lst (L.map pD)) M
def Zps{E:XK}(h:spOf C Zmr vs H Q E):Zf8 vs H Q E:=by
 let⟨Z,I,α,M,ds,K,R,r,⟨k,ws,ss,rfl,hm,⟨h1,h2,h3,h4,h5⟩,h⟩,kk⟩:=h;refine Reps.e3 r λ_ _ _ r1 r2 r3=>?_;let⟨p,rfl,ha⟩:=r1.inv;let⟨c,cs,hh,ic,hc⟩:=R.hand ha hm;let⟨wa,_,rfl,iw,hw⟩:=Zjm R r2;let⟨sa,rfl,es,is⟩:=ints_at R r3;exists p,c,wa,sa,ws,ss,rfl,hh,hw,Zho R ha hm iw,h1,h2,es,Zho R ha hm is,h3,h4,h5,λl L H' nl _ ta fr fi pm hh' g=>?_;let R1:=R.grow ha hm hh' ic hc g;let⟨I',s,R',f⟩:=R1.full;let⟨us,eu,pu⟩:=ta;exact kk _ _ I' α H' M s (Jo _) R' (.lst (f _ _ eu (R.out nl)) (Zdn (λv a z=>Zuc (λb xs e=>f _ _ e (R1.tupOut e)) z) pu)) (h L fr fi pm)
end
section
variable{t:TA}{u:TA3}
def uRev(ua:TE3)(us:TO3):TE3:=λρ M K=>ua ρ M λd M1=>us ρ M1 λk M2=>k=some (-1)/\∃xs,Xz M2 d=some xs/\K (.lst xs.reverse) M2
def Zt1{ts:TO}{us:TO3}(ha:SimE C Z ta ua)(hs:SimO C Z ts us):SimE C Z (tRev C.k ta ts) (uRev ua us):=λI α σ H ρ M K Q R E h k =>
 ha I α σ H ρ M _ _ R E h λv d I1 α1 H1 M1 s1 p1 R1 r1 h1 =>
  hs I1 α1 σ H1 ρ M1 _ _ R1 (E.mono s1 p1) h1 λo I2 α2 H2 M2 s2 p2 R2 h2=>by
   let⟨ho,xs,e,h2⟩:=h2;let⟨a,vs,rfl,ea,ra⟩:=Ul R2 (r1.mono s2 p2) e;exists ho,a,vs,rfl,ea,λp hp=>?_;let⟨R3,s3,e3⟩:=R2.new (o:=.lst vs.reverse) hp;exact k _ _ _ α2 _ M2 (s1.trans (s2.trans s3)) (p1.trans p2) R3 (.lst e3 (ra.rev.mono s3 (Jo _))) h2
def valD[DecidableEq κ](kvs:List (κ×D))(k:κ):Option D:=(kvs.find? λkv=>decide (kv.1=k)).map (·.2)
def putD[DecidableEq κ](kvs:List (κ×D))(k:κ)(v:D):List (κ×D) :=
 if(kvs.any λkv=>decide (kv.1=k))=true then kvs.map (λkv=>if kv.1=k then(kv.1,v)else kv)else kvs++[(k,v)]
def Zkx:D->Option Key
 |.int i=>some (.inl i)
 |.str s=>some (.inr s)
 |_=>none
def Zao:List D->Option (List Key)
 |[]=>some []
 |d::r=>match Zkx d,Zao r with|some k,some ks=>some (k::ks)|_,_=>none
def tkOf:D->Option (List Key)
 |.tup ds=>Zao ds
 |_=>none
section
theorem Zap{v:V}{d:D}{k:Key}(r:Rep C I α v d)(h:Zkx d=some k):v=kV k:=by
 cases r with
 |int i=>cases h;rfl
 |str i=>cases h;rfl
 |_=>cases h
theorem Q5:∀{vs:List V}{ds:List D}{ks:List Key},Reps C I α vs ds->Zao ds=some ks->vs=ks.map kV
 |_,_,_,.nil,h=>by cases h;rfl
 |_,_,ks,.cons (d:=d) (ds:=ds) a b,h=>by
  unfold Zao at h;cases h1:Zkx d with
  |none=>simp only[h1]at h;cases h
  |some k =>
   cases h2:Zao ds with
   |none=>simp only[h1,h2]at h;cases h
   |some r =>
    simp only[h1,h2]at h;cases h;rw[Zap a h1,Q5 b h2];rfl
theorem RepK.len:∀{vs:List (Key×V)}{ds:List (Key×D)},RepK C I α vs ds->vs.length=ds.length:=by
 intro _ _ hz9;cases hz9 with
 |nil=>
  exact rfl
 |cons _ b=>
  exact by rw[J0,J0,RepK.len b]
def Xn[DecidableEq κ]{k k':κ}{d:D}{r:List (κ×D)}:valD ((k',d)::r) k=if k'=k then some d else valD r k:=by
 unfold valD;rw[Gv]
 by_cases h:k'=k
 .simp[h]
 .simp[h]
def N3[DecidableEq κ]{k k':κ}{d:V}{r:List (κ×V)}:valV ((k',d)::r) k=if k'=k then some d else valV r k:=by
 unfold valV;rw[Gv]
 by_cases h:k'=k
 .simp[h]
 .simp[h]
theorem RepK.val{k:Key}:∀{vs:List (Key×V)}{ds:List (Key×D)},RepK C I α vs ds->(valD ds k=none/\valV vs k=none)\/∃d v,valD ds k=some d/\valV vs k=some v/\Rep C I α v d
 |_,_,.nil=>.inl ⟨rfl,rfl⟩
 |_,_,.cons (k:=k') (v:=v) (d:=d) a b=>by
  rw[Xn,N3]
  by_cases h:k'=k
  .rw[Dt h,Dt h];exact .inr ⟨d,v,rfl,rfl,a⟩
  .rw[Ds h,Ds h];exact RepK.val b
theorem RepT.val{k:List Key}:∀{vs:List (List Key×V)}{ds:List (List Key×D)},RepT C I α vs ds->(valD ds k=none/\valV vs k=none)\/∃d v,valD ds k=some d/\valV vs k=some v/\Rep C I α v d
 |_,_,.nil=>.inl ⟨rfl,rfl⟩
 |_,_,.cons (k:=k') (v:=v) (d:=d) a b=>by
  rw[Xn,N3]
  by_cases h:k'=k
  .rw[Dt h,Dt h];exact .inr ⟨d,v,rfl,rfl,a⟩
  .rw[Ds h,Ds h];exact RepT.val b
theorem RepK.any{k:Key}:∀{vs:List (Key×V)}{ds:List (Key×D)},RepK C I α vs ds->(vs.any λkv=>decide (kv.1=k))=(ds.any λkv=>decide (kv.1=k)):=by
 intro _ _ hz9;cases hz9 with
 |nil=>
  exact rfl
 |cons a b=>
  exact by rw[B6,B6,RepK.any b]
theorem RepK.app:∀{vs ws:List (Key×V)}{ds es:List (Key×D)},RepK C I α vs ds->RepK C I α ws es->RepK C I α (vs++ws) (ds++es):=by
 intro _ _ _ _ hz9 s;cases hz9 with
 |nil=>
  exact s
 |cons r t=>
  exact .cons r (RepK.app t s)
theorem RepK.mapPut{k:Key}{v:V}{d:D}(r:Rep C I α v d):∀{vs:List ((Key)×V)}{ds:List ((Key)×D)},RepK C I α vs ds->RepK C I α (vs.map λkv=>if kv.1=k then(kv.1,v)else kv) (ds.map λkv=>if kv.1=k then(kv.1,d)else kv)
 |_,_,.nil=>.nil
 |_,_,.cons (k:=k') a b=>by
  rw[Jp,Jp]
  by_cases e:k'=k
  .simp only[e,if_true];exact .cons r (RepK.mapPut r b)
  .simp only[e,if_false];exact .cons a (RepK.mapPut r b)
def RepK.put{k:Key}{v:V}{d:D}{vs:List ((Key)×V)}{ds:List ((Key)×D)}(h:RepK C I α vs ds)(r:Rep C I α v d):RepK C I α (putK vs k v) (putD ds k d):=by
 unfold putK putD;rw[h.any]
 split
 .exact RepK.mapPut r h
 .exact h.app (.cons r .nil)
def Zpd(M:Mem):D->Option (List (Key×D))
 |.dct kvs=>some kvs
 |.cell k=>match M[k]? with|some (.dct kvs)=>some kvs|some (.drK kvs)=>some kvs|some (.dfK _ _ kvs)=>some kvs|_=>none
 |_=>none
def Zpe(M:Mem):D->Option (List (List Key×D))
 |.dcT kvs=>some kvs
 |.cell k=>match M[k]? with|some (.dcT kvs)=>some kvs|some (.drT kvs)=>some kvs|_=>none
 |_=>none
theorem Zsm{v:V}{d:D}{kvs:List (Key×D)}(R:Rel C Z I α H M)(r:Rep C I α v d)(h:Zpd M d=some kvs):∃a vs,v=.ref a/\Rd H a (.dK vs)/\RepK C I α vs kvs:=by
 cases r with
 |dct e r=>cases h;exists _,·,.inl (R.sub _ _ e),r
 | @cell a k e =>
  unfold Zpd at h;cases hm:M[k]? with
  |none=>simp only[hm]at h;cases h
  |some m =>
   cases m with
   |dct es=>simp only[hm]at h;cases h;let⟨vs,e1,r⟩:=(R.cel k a _ e hm).1;exists _,·,.inl e1,r
   |drK es=>simp only[hm]at h;cases h;let⟨vs,e1,r⟩:=(R.cel k a _ e hm).1;exists _,·,e1,r
   |dfK o vs es=>simp only[hm]at h;cases h;let⟨e1,r⟩:=(R.cel k a _ e hm).1;exists _,·,.inr ⟨o,e1⟩,r
   |_=>simp only[hm]at h;cases h
 |_=>cases h
theorem Zsn{v:V}{d:D}{kvs:List (List Key×D)}(R:Rel C Z I α H M)(r:Rep C I α v d)(h:Zpe M d=some kvs):∃a vs,v=.ref a/\Rd H a (.dT vs)/\RepT C I α vs kvs:=by
 cases r with
 |dcT e r=>cases h;exists _,·,.inl (R.sub _ _ e),r
 | @cell a k e =>
  unfold Zpe at h;cases hm:M[k]? with
  |none=>simp only[hm]at h;cases h
  |some m =>
   cases m with
   |dcT es=>simp only[hm]at h;cases h;let⟨vs,e1,r⟩:=(R.cel k a _ e hm).1;exists _,·,.inl e1,r
   |drT es=>simp only[hm]at h;cases h;let⟨vs,e1,r⟩:=(R.cel k a _ e hm).1;exists _,·,e1,r
   |_=>simp only[hm]at h;cases h
 |_=>cases h
def dGet(M:Mem)(d e:D)(o:Option D):Prop:=(∃kvs k,Zpd M d=some kvs/\Zkx e=some k/\o=valD kvs k)\/∃kvs k,Zpe M d=some kvs/\tkOf e=some k/\o=valD kvs k
def Ziz{v w:V}{d e:D}{o:Option D}(R:Rel C Z I α H M)(r1:Rep C I α v d)(r2:Rep C I α w e)(h:dGet M d e o):∃a o',v=.ref a/\IsD H a/\DGet H a w o'/\((o=none/\o'=none)\/∃x y,o=some x/\o'=some y/\Rep C I α y x):=by
 rcases h with⟨kvs,k,e1,e2,rfl⟩|⟨kvs,k,e1,e2,rfl⟩
 .let⟨a,vs,rfl,ea,ra⟩:=Zsm R r1 e1;exists a,valV vs k,rfl,.inl ⟨vs,ea⟩,by rw[Zap r2 e2];exact .inl ⟨vs,k,ea,rfl,rfl⟩,?_;rcases ra.val (k:=k)with⟨h1,h2⟩|⟨x,y,h1,h2,h3⟩
  .exact .inl ⟨h1,h2⟩
  .exact .inr ⟨x,y,h1,h2,h3⟩
 .let⟨a,vs,rfl,ea,ra⟩:=Zsn R r1 e1;cases r2 with
  | @tup b bs ds eb rb =>
   let hb:H b=some (.tup (k.map kV)):=by rw[<-Q5 rb e2];exact R.sub _ _ eb
   exists a,valV vs k,rfl,.inr ⟨vs,ea⟩,.inr ⟨vs,k,b,ea,rfl,hb,rfl⟩,?_;rcases ra.val (k:=k)with⟨h1,h2⟩|⟨x,y,h1,h2,h3⟩
   .exact .inl ⟨h1,h2⟩
   .exact .inr ⟨x,y,h1,h2,h3⟩
  |_=>cases e2
end
def Ztt(ua ub:TE3):TE3:=λρ M K=>ua ρ M λd M1=>ub ρ M1 λe M2=>∃v,dGet M2 d e (some v)/\K v M2
def Zl5(ha:SimE C Z ta ua)(hb:SimE C Z tb ub):SimE C Z (Zqo ta tb) (Ztt ua ub):=λI α σ H ρ M K Q R E h k =>
 ha I α σ H ρ M _ _ R E h λv d I1 α1 H1 M1 s1 p1 R1 r1 h1 =>
  hb I1 α1 σ H1 ρ M1 _ _ R1 (E.mono s1 p1) h1 λw e I2 α2 H2 M2 s2 p2 R2 r2 h2=>by
   let⟨x,g,h2⟩:=h2;let⟨a,o',rfl,_,g2,z⟩:=Ziz R2 (r1.mono s2 p2) r2 g;rcases z with⟨z,_⟩|⟨x',y,z1,z2,z3⟩
   .cases z
   .cases z1;subst z2;exists a,y,rfl,g2,k _ _ I2 α2 H2 M2 (s1.trans s2) (p1.trans p2) R2 z3 h2
def uDIn(ub ua:TE3):TE3:=λρ M K=>ub ρ M λe M1=>ua ρ M1 λd M2=>∃o,dGet M2 d e o/\K (.bl o.isSome) M2
def Zt8(hb:SimE C Z tb ub)(ha:SimE C Z ta ua):SimE C Z (tDIn tb ta) (uDIn ub ua):=λI α σ H ρ M K Q R E h k =>
 hb I α σ H ρ M _ _ R E h λw e I1 α1 H1 M1 s1 p1 R1 r1 h1 =>
  ha I1 α1 σ H1 ρ M1 _ _ R1 (E.mono s1 p1) h1 λv d I2 α2 H2 M2 s2 p2 R2 r2 h2=>by
   let⟨o,g,h2⟩:=h2;let⟨a,o',rfl,_,g2,z⟩:=Ziz R2 r2 (r1.mono s2 p2) g;let eo:o'.isSome=o.isSome:=by
    rcases z with⟨rfl,rfl⟩|⟨x',y,rfl,rfl,_⟩<;>rfl
   exact⟨a,o',rfl,g2,by rw[eo];exact k _ _ I2 α2 H2 M2 (s1.trans s2) (p1.trans p2) R2 (.bl _) h2⟩
abbrev noF(m:Str):Prop:=∀a b c d e:V,Hq m [("pairs",a),("words_by_sign",b),("signs_by_word",c),("begun",d),("word_sizes",e)]=none
def Zp5(sp:Sp3)(ua:TE3)(u:TA3):TE3:=λρ M K=>ua ρ M λd M1=>(∃S,d=.code S)/\u ρ M1 λds M2=>sp (d::ds) M2 K
def Rh{m:Str}{sp:Sp3}(hm:noF m)(ha:SimE C Z ta ua)(hr:SimA C Z t u):SimE C Z (Zer C.c m (spOf C sp) [] E0 ta t) (Zp5 sp ua u):=λI α σ H ρ M K Q R E h k =>
 ha I α σ H ρ M _ _ R E h λv d I1 α1 H1 M1 s1 p1 R1 r1 h1=>by
  let⟨⟨S,rfl⟩,h1⟩:=h1;cases r1 with
  | @code x _ hc =>
   let⟨dx,tp,d1,d2,d3,d4,ex,ci⟩:=hc;exists x,dx,·,R1.sub _ _ ex,hm _ _ _ _ _,?_;refine hr I1 α1 σ H1 ρ M1 _ _ R1 (E.mono s1 p1) h1 λvs ds I2 α2 H2 M2 s2 p2 R2 r2 h2=>?_;rw[Gm];exists Z,I2,α2,M2,_,K,R2,.cons (.code (Uq.same ⟨dx,tp,d1,d2,d3,d4,ex,ci⟩ s2)) r2,h2,k.mono (s1.trans s2) (p1.trans p2)
def Met.imp{base:Heap}{C:Addr}{m:Str}{k:Nat}{sp sp':Sp}(c:Met P w K mg base C m k ps sp)(h:∀vs H Q E,sp' vs H Q E->sp vs H Q E):Met P w K mg base C m k ps sp' :=
 let⟨f,fd,a,b,e,d⟩:=c
 ⟨f,fd,a,b,e.imp h,d⟩
def Rel.made{k0:Nat}{x:Addr}{q:Str}(R:Rel C Z I α H M)(hk:M[k0]?=some (.tab Pt pos q))(nx:H x=none)(tb:V0 Pt pos q H')(g:∀b o,b≠x->b≠Pt->H b=some o->H' b=some o) :
  ∃I',Same I I'/\Rel C Z I' α H' M/\∀b o,H' b=some o->b∉α->I' b=some o:=by
 let⟨P',eP,⟨rfl,ps0,e0,_⟩,iP⟩:=R.get hk;let hα:∀b,b∈α->b≠x:=λb hb=>by
  let⟨k,hk,rfl⟩:=Gg hb;exact R.cellNe (Jb hk) nx
 let hI:∀b o,I b=some o->b∉α:=λb o e hb=>by
  let⟨k,hk,rfl⟩:=Gg hb;let hk':k<M.length:=by rw[<-R.len];exact hk
  rw[(R.cel k _ _ (Jb hk) (Jb hk')).2]at e;cases e
 let hS:∀b o,I b=some o->H' b=some o:=λb o e=>g b o (λz=>by rw[z,R.sub.free nx]at e;cases e) (λz=>by rw[z,iP]at e;cases e) (R.sub b o e);let s:Same I (λb=>if b∈α then none else H' b):=λb o e=>by
  show(if b∈α then none else H' b)=some o;rw[Ds (hI b o e)];exact hS b o e
 let hc:∀(k:Nat)(a:Addr)(m:MO),k≠k0->α[k]?=some a->M[k]?=some m->H' a=H a:=λk a m ne h1 h2=>by
  let⟨o,eo⟩:=(R.cel k a m h1 h2).1.some;let n2:a≠P':=λz=>by
   let⟨hj,ej⟩:=Je.mp h1;let⟨hk,ek⟩:=Je.mp eP;rw[<-ej,<-ek]at z;exact ne ((G9 R.nd).mp z)
  exact(g a o (hα a (Gx h1)) n2 eo).trans eo.symm
 exists _,s,⟨R.ai.trans s,R.aa,λb o e=>?_,R.len,R.nd,λk a m h1 h2=>?_⟩,λb o e hb=>?_
 .let e':(if b∈α then none else H' b)=some o:=e
  split at e'
  .cases e'
  .exact e'
 .refine⟨?_,by show(if a∈α then none else H' a)=none;rw[Dt (Gx h1)]⟩
  by_cases ne:k=k0
  .subst ne;rw[eP]at h1;cases h1;rw[hk]at h2;cases h2;let⟨ps,e1,t1,z⟩:=tb;exists rfl,ps,e1,t1,?_;rcases z with z|⟨c,z1,z2⟩
   .exact .inl z
   .refine .inr ⟨c,z1,?_⟩;show(if c∈α then none else H' c)=_;rw[Ds,z2];intro hcα;let⟨j,hj,ec⟩:=Gg hcα;let hj':j<M.length:=by rw[<-R.len];exact hj
    let h1:=Jb hj;let h2:=Jb hj';rw[ec]at h1
    by_cases nj:j=k
    .subst nj;rw[eP]at h1;cases h1;rw[e1]at z2;cases z2
    .let hh:=hc j c _ nj h1 h2;let mo:=(R.cel j c _ h1 h2).1;rw[z2]at hh;cases hm:M[j]with
     |lst ds=>rw[hm]at mo;let⟨vs,e,_⟩:=mo;rw[e]at hh;cases hh
     |dct ds=>rw[hm]at mo;let⟨vs,e,_⟩:=mo;rw[e]at hh;cases hh
     |dcT ds=>rw[hm]at mo;let⟨vs,e,_⟩:=mo;rw[e]at hh;cases hh
     |drK ds=>rw[hm]at mo;let⟨vs,e,_⟩:=mo;rcases e with e|⟨o,e⟩<;>(rw[e]at hh;cases hh)
     |drT ds=>rw[hm]at mo;let⟨vs,e,_⟩:=mo;rcases e with e|⟨o,e⟩<;>(rw[e]at hh;cases hh)
     |dfT o vs ds=>rw[hm]at mo;rw[mo.1]at hh;cases hh
     |dfK o vs ds=>rw[hm]at mo;rw[mo.1]at hh;cases hh
     |ins Cl fs=>rw[hm]at mo;let⟨dx,vs,e,_⟩:=mo;rw[e]at hh;cases hh
     |hand=>rw[hm]at mo;let⟨d,k,c,cs,e,_⟩:=mo;rw[e]at hh;cases hh
     |tab P pos q=>rw[hm]at mo;let⟨_,ps,e,_⟩:=mo;rw[e]at hh;cases hh
     |dcN sh z ds =>
      rw[hm]at mo;cases z with
      |none =>
       let⟨vs,e,_⟩:=mo;rw[e]at hh;exact dnP.ne ⟨.none,none,.fields #[.none,.str q default],#[]⟩ rfl (λh g=>⟨c,_,_,_,rfl,g,rfl,rfl⟩) (HO.ext.inj (Dw hh)).symm
      |some z=>rw[mo.1]at hh;cases hh
  .exact(R.cel k a m h1 h2).1.mono s (Jo _) (hc k a m ne h1 h2)
 .show(if b∈α then none else H' b)=some o;rw[Ds hb];exact e
def Zbv(C Pt:Addr)(pos:Pos)(q:Str):Sp:=λvs H Q _=>∃x a dx L,vs=[.ref x,.ref a]/\H x=some (.ins C dx [])/\Vd H a L/\Free L/\Fits L/\V0 Pt pos q H /\
 ∀(H':Hp)(S:List Pr),S.Perm L->Zc1 S->(∃dx tp d1 d2 d3 d4,H' x=some (.ins C dx [("pairs",.ref tp),("words_by_sign",.ref d1),("signs_by_word",.ref d2),("begun",.ref d3),("word_sizes",.ref d4)])/\CodeIn H' tp d1 d2 d3 d4 S/\H d1=none/\H d2=none/\H d3=none)->V0 Pt pos q H' ->
  (∀b o,b≠x->b≠Pt->H b=some o->H' b=some o)->Q .non H'
def Znh(Pt:Addr)(pos:Pos)(q:Str)(u:TA3):TE3:=λρ M K=>u ρ M λds M1=>∃(k0:Nat)(d:D)(L:List Pr),M1[k0]?=some (.tab Pt pos q)/\ds=[d]/\lsOf M1 d=some (L.map pD)/\(Free L/\Fits L)/\∀S:List Pr,S.Perm L->Zc1 S->K (.code S) M1
def Zj4{q:Str}(hr:SimA C Z t u):SimE C Z (Zju C.c (Zbv C.c Pt pos q) [] E0 t) (Znh Pt pos q u):=λI α σ H ρ M K Q R E h k =>
 hr I α σ H ρ M _ _ R E h λvs ds I1 α1 H1 M1 s1 p1 R1 r1 h1=>by
  let⟨k0,d,L,hk,rfl,e1,⟨fr,fi⟩,h1⟩:=h1;intro x dx nx ndx ne;refine Reps.e1 r1 λ_ r1=>?_;let⟨a,vs,rfl,ea,ra⟩:=Rn R1 r1 e1;let⟨P',eP,⟨eqP,ps,ep,tp,cp⟩,iP⟩:=R1.get hk;subst eqP;let sH:Same H1 (upd (upd H1 dx (.own x)) x (.ins C.c dx [])):=(Zc ndx).trans (Zc (by rw[Zp (Et ne)];exact nx));let ta1:Vd H1 a L:=⟨vs,ea,P2 (F:=Qs H1) (f:=pD) (λv a z=>Zrl R1.sub z) ra⟩;let tb1:V0 P' pos q H1:=⟨ps,ep,tp,by
   rcases cp with z|⟨c,z1,z2⟩
   .exact .inl z
   .exact .inr ⟨c,z1,R1.sub _ _ z2⟩⟩
  exists x,a,dx,L,rfl,Zh,ta1.same sH,fr,fi,tb1.same sH,λH' S pm ri ca tb g=>⟨rfl,?_⟩;let⟨I',s',R',f⟩:=R1.made hk nx tb λb o n1 n2 e=>g b o n1 n2 (sH b o e);let xα:x∉α1:=R1.out nx;let⟨dx',tp',d1,d2,d3,d4,ex,⟨⟨vs',a1,a2⟩,⟨k1,b1,b2⟩,⟨k2,c1,c2⟩,⟨k3,f1,f2⟩,⟨k4,g1,g2⟩⟩,n1,n2,n3⟩:=ca;let tupI:∀b xs,H' b=some (.tup xs)->I' b=some (.tup xs):=λb xs e=>f b _ e (R'.tupOut e);let no:∀b o,H' b=some o->(upd (upd H1 dx (.own x)) x (.ins C.c dx [])) b=none->I' b=some o:=λb o e n=>f b o e (R1.out (sH.free n));refine k _ _ I' α1 H' M1 (s1.trans s') p1 R' (.code ⟨dx',tp',d1,d2,d3,d4,f _ _ ex xα,⟨vs',tupI _ _ a1,Paired.mapP a2 λv p z=>?_⟩,⟨k1,no _ _ b1 n1,λp hp=>?_,b2.2⟩,⟨k2,no _ _ c1 n2,c2⟩,⟨k3,no _ _ f1 n3,f2⟩,⟨k4,tupI _ _ g1,g2⟩⟩) (h1 S pm ri)
  .let⟨t,tw,e1,e2,e3⟩:=z;exists t,tw,e1,tupI _ _ e2,tupI _ _ e3
  .let⟨t,u1,u2⟩:=b2.1 p hp;exists t,u1,tupI _ _ u2
end
def Zsd:MO->Option D
 |.lst xs=>some (.lst xs)
 |.dct kvs=>some (.dct kvs)
 |.dcT kvs=>some (.dcT kvs)
 |_=>none
def frzK(n0:Nat)(K:K3):K3:=λd M'=>∃m d',d=.cell n0/\M'.length=n0+1/\M'[n0]?=some m/\Zsd m=some d'/\(∀m∈M',Xb n0 m)/\K d' (M'.take n0)
theorem Zo8{a:Addr}{d:D}(h:MoAt C I α H a m)(e:Zsd m=some d)(ia:I a=none):∃o,H a=some o/\Rep C (upd I a o) α (.ref a) d:=by
 let pr:=Jo α;cases m with
 |lst ds=>cases e;let⟨vs,e,r⟩:=h;exists _,e,.lst Zh (r.mono (Zc ia) pr)
 |dct ds=>cases e;let⟨vs,e,r⟩:=h;exists _,e,.dct Zh (r.mono (Zc ia) pr)
 |dcT ds=>cases e;let⟨vs,e,r⟩:=h;exists _,e,.dcT Zh (r.mono (Zc ia) pr)
 |_=>cases e
theorem Fin.frz{C:Cf}{Z:Anc}{I:Hp}{α:List Addr}{K:K3}{Q:VK}(k:Fin C Z I α K Q){n0:Nat}(hn:α.length=n0)(ha:Z.a<+:α):Fin C Z I α (frzK n0 K) Q:=λv d I' α' H' M' s p R r h=>by
 let⟨m,d',rfl,hl,e,ed,hm,h⟩:=h;let⟨a,rfl,ec⟩:=r.inv;let⟨mo,ia⟩:=R.cel n0 a _ ec e;let mo':=hm m (Gx e) _ _ _ _ _ mo;let⟨o,ea,ra⟩:=Zo8 mo' ed ia;let R1:=R.take n0 (by have:=ha.length_le;lia) λx hx=>hm x (Gs hx);let an:a∉α'.take n0:=λha=>by
  let⟨j,hj,ej⟩:=Gg ha;rw[Jv]at hj;rw[Bg]at ej;let⟨hn0,en⟩:=Je.mp ec;rw[<-en]at ej;let:=(G9 R.nd).mp ej;lia
 let s2:Same I' (upd I' a o):=Zc ia;let R2:Rel C Z (upd I' a o) (α'.take n0) H' (M'.take n0):=by
  exists R1.ai.trans s2,R1.aa,λb u eb=>?_,R1.len,R1.nd,λk b m h1 h2=>?_
  .by_cases z:b=a
   .subst z;rw[Zh]at eb;cases eb;exact ea
   .rw[Zp z]at eb;exact R1.sub b u eb
  .let⟨a1,a2⟩:=R1.cel k b m h1 h2;let ne:b≠a:=λz=>an (z ▸ Gx h1);exact⟨a1.mono s2 (Jo _) rfl,by rw[Zp ne];exact a2⟩
 exact k _ _ _ (α'.take n0) H' _ (s.trans s2) (Tl p ()) R2 ra h
def uFrz(u:TE3):TE3:=λρ M K=>u ρ M (frzK M.length K)
def Zj5{t:TE}{u:TE3}(h:SimE C Z t u):SimE C Z t (uFrz u):=λI α σ H ρ M K Q R E hh k=>h I α σ H ρ M _ _ R E hh (k.frz R.len R.aa)
def Y5 :(M++[m])[M.length]?=some m:=by simp
def Xw{m':MO}:(M++[m]).set M.length m'=M++[m']:=by simp
section
def Zrv{v:V}{d:D}(R:Rel C Z I α H M)(r:Rep C I α v d)(h:lsOf M d=some (ns.map .int)):∃a,v=.ref a/\H a=some (.lst (ns.map V.int)):=by
 let⟨a,vs,rfl,ea,ra⟩:=Rn R r h;rw[ra.of_ints ns]at ea;exists a,rfl,ea
end
def Zl0(K:Ck)(Pt:Addr)(pos:Pos)(q:Str):Sp:=λvs H Q _=>∃(a:Addr)(ns:List Int),vs=[.ref a]/\SqL K H a (ns.map V.int)/\ns.length<=63/\V0 Pt pos q H/\∀H',Q (.bl true) H'
def Zsr(Pt:Addr)(pos:Pos)(q:Str):Sp3:=λds M K=>∃ns:List Int,ds=[.frz (ns.map .int)]/\M=[.tab Pt pos q]/\ns.length<=63/\∀M',K (.bl true) M'
def Zot{q:Str}{E:XK}(h:Zl0 C.k Pt pos q vs H Q E):spOf C (Zsr Pt pos q) vs H Q E:=by
 let⟨a,ns,rfl,hS,hl,⟨ps,eP,tp,cp⟩,k⟩:=h;let sI:Same (λb=>if b=Pt then none else H b) H:=λb o e=>by
  let e':(if b=Pt then none else H b)=some o:=e
  split at e'
  .cases e'
  .exact e'
 exists⟨λ_=>none,[],λ_ _ _=>False,λ_ _ _=>False⟩,λb=>if b=Pt then none else H b,[Pt],[.tab Pt pos q],[.frz (ns.map .int)],λd _=>d=.bl true,⟨(λ_ _ h=>nomatch h),List.nil_prefix,sI,rfl,by simp,λk' a' m h1 h2=>?_⟩,?_,⟨ns,rfl,rfl,hl,λ_=>rfl⟩,λv d I' α' H' M' s p R r h=>?_
 .cases k' with
  |succ n=>simp at h1
  |zero =>
   simp at h1 h2;subst h1;subst h2;exists⟨rfl,ps,eP,tp,?_⟩,Dt rfl;rcases cp with z|⟨c,z1,z2⟩
   .exact .inl z
   .exact .inr ⟨c,z1,by
     show(if c=Pt then none else H c)=_;rw[Ds (Wa z2 eP λz=>by cases z)];exact z2⟩
 .refine .one (.frz ?_ (.ints ns));rcases hS with(hS|⟨o,hS⟩)|hS
  .exact .inl (.inl (by
    show(if a=Pt then none else H a)=_;rw[Ds (Wa hS eP λz=>by cases z)];exact hS))
  .exact .inl (.inr ⟨o,by
    show(if a=Pt then none else H a)=_;rw[Ds (Wa hS eP λz=>by cases z)];exact hS⟩)
  .exact .inr hS
 .subst h;cases r.inv;exact k H'
def Ng{i:Nat}{x:D}(h:(ns.map D.int)[i]?=some x):∃hi:i<ns.length,x=.int ns[i]:=by
 let⟨hi,e⟩:=Je.mp h;rw[Ja]at hi;exists hi,?_;rw[<-e,Be]
def Yi{f:τ->D}{as:List τ}{i:Nat}{x:D}(h:(as.map f)[i]?=some x):∃hi:i<as.length,x=f as[i]:=by
 let⟨hi,e⟩:=Je.mp h;rw[Ja]at hi;exact⟨hi,by rw[<-e,Be]⟩
def Yn{f:τ->D}{as:List τ}{i:Int}(h:i=j)(hj:j<as.length):L2.atI (as.map f) i=some (f as[j]):=by
 subst h;exact Zcz (by rw[Ge,Jb hj];rfl)
def Vu{xs:List D}:lsOf (M++[.lst xs]) (.cell M.length)=some xs:=by simp[lsOf]
def Sy{xs:List D}:Xz (M++[.lst xs]) (.cell M.length)=some xs:=by simp[Xz]
def Uy{d:D}{xs:List D}(h:lsOf M d=some xs):lsOf M d≠none:=by rw[h];exact λz=>nomatch z
def Nu{M':Mem}{d:D}{K:K3}(p:M<+:M')(hM:WfM M)(hb:Ye M.length d)(h:K d M):Dk M.length K d M':=by
 let⟨t,rfl⟩:=p;exact .inr ⟨M.length,Jd _,hb,by rw[Bw];exact hM,by rw[Bw];exact h⟩
def Pf{n:Nat} :Ye n (.lst (ns.map .int)):=Tv (Wk (λ_=>Wl) ns)
end L3
variable{C:L3.Cf}{M:L3.Mem}{Z:L3.Anc}{ds:List L3.D}{m:L3.MO}{ρ:L3.Ev}{ua ub:L3.TE3}{ui:L3.TI3}
namespace L3
def Zqv{E:TE3}{ug:TG3}{u':TS3}{En:Ends3}(S:D->Mem->Prop)(h1:∀K:K3,(∀d M',S d M'->K d M')->E ρ M K)(h2:∀d M',S d M'->ug d ρ M' (u' En)):uSeq (uAsg E ug) u' En ρ M:=h1 _ h2
def g_nx{i:Nat}{d:D}{K:Ev->Mem->Prop}(h:K (ρ.set i (some d)) M):uG i d ρ M K:=h
end L3
namespace L3
open PySem L2
def kD:Key->D
 |.inl i=>.int i
 |.inr s=>.str s
def Qq[DecidableEq κ](kvs zs:List (κ×D)):List (κ×D):=zs.foldl (λa z=>putD a z.1 z.2) kvs
def Zdc[DecidableEq κ]{k k':κ}{v:D}:∀{kvs:List (κ×D)},valD (putD kvs k v) k'=if k'=k then some v else valD kvs k':=by
 let mapped:∀kvs:List (κ×D),(kvs.any λkv=>decide (kv.1=k))=true->valD (kvs.map λkv=>if kv.1=k then(kv.1,v)else kv) k'=if k'=k then some v else valD kvs k':=by
  intro kvs
  induction kvs with
  |nil=>intro h;cases h
  |cons p r ih =>
   intro h;let⟨a,b⟩:=p;rw[Jp]
   by_cases e:a=k
   .subst e;simp only[if_true];rw[Xn,Xn]
    by_cases z:a=k'
    .rw[Dt z,Dt z.symm]
    .rw[Ds z,Ds (Et z),Ds z]
     by_cases hr:(r.any λkv=>decide (kv.1=a))=true
     .rw[ih hr,Ds (Et z)]
     .let:r.map (λkv=>if kv.1=a then(kv.1,v)else kv)=r:=by
       refine(Bf λkv hk=>?_).trans (List.map_id r);let:¬ kv.1=a:=λz=>hr (List.any_eq_true.mpr ⟨kv,hk,by simpa using z⟩);rw[Ds this];rfl
      rw[this]
   .simp only[e,if_false];rw[Xn,Xn];let hr:(r.any λkv=>decide (kv.1=k))=true:=by simpa[e]using h
    rw[ih hr]
    by_cases z:a=k'
    .rw[Dt z,Ds (λq=>e (z.trans q)),Dt z]
    .rw[Ds z,Ds z]
 let none_:∀kvs:List (κ×D),¬ (kvs.any λkv=>decide (kv.1=k))=true->valD (kvs++[(k,v)]) k'=if k'=k then some v else valD kvs k':=by
  intro kvs
  induction kvs with
  |nil =>
   intro _;rw[List.nil_append,Xn]
   by_cases z:k=k'
   .rw[Dt z,Dt z.symm]
   .rw[Ds z,Ds (Et z)]
  |cons p r ih =>
   intro h;let⟨a,b⟩:=p;rw[B6,Bool.or_eq_true]at h;let h1:¬ a=k:=λz=>h (.inl (by simpa using z));rw[Jd9,Xn,Xn,ih λz=>h (.inr z)]
   by_cases z:a=k'
   .rw[Dt z,Ds (λq=>h1 (z.trans q)),Dt z]
   .rw[Ds z,Ds z]
 intro kvs;unfold putD
 split
 .exact mapped kvs (by assumption)
 .exact none_ kvs (by assumption)
theorem Se[DecidableEq κ]{k:κ}:∀(zs kvs:List (κ×D)),(∀z∈zs,z.1≠k)->valD (Qq kvs zs) k=valD kvs k
 |[],kvs,_=>rfl
 |z::r,kvs,h=>by
  show valD (Qq (putD kvs z.1 z.2) r) k=_;rw[Se r _ λy hy=>h y (Jg _ hy),Zdc,Ds (λe=>h z Ji e.symm)]
theorem Q9[DecidableEq κ]{k:κ}{v:D}:∀(zs kvs:List (κ×D)),(zs.map (·.1)).Nodup->(k,v)∈zs->valD (Qq kvs zs) k=some v
 |[],kvs,_,h=>nomatch h
 |z::r,kvs,nd,h=>by
  show valD (Qq (putD kvs z.1 z.2) r) k=_;rw[Jp,Fd]at nd;rcases Gi.mp h with e|h
  .subst e;rw[Se r _ λy hy e=>nd.1 (by
    let hm:y.1∈r.map (·.1):=Jq.mpr ⟨y,hy,rfl⟩;rw[e]at hm;exact hm),Zdc,Dt rfl]
  .exact Q9 r _ nd.2 h
def Zpy(kd:List (Key×D))(S:List Pr):Prop:=(∀p∈S,valD kd (.inl p.1)=some (wD p.2))/\∀s:Int,(∀p∈S,p.1≠s)->valD kd (.inl s)=none
def prK(p:Pr):Key×D:=(.inl p.1,wD p.2)
def Qv(fr:Free L):Zpy (Qq [] (L.map prK)) L:=by
 let nd:((L.map prK).map (·.1)).Nodup:=by
  rw[Gb];exact Jz.mpr (fr.imp λ{a b}z e=>z.1 (Ho e))
 exists λp hp=>Q9 _ _ nd (Jq.mpr ⟨p,hp,rfl⟩),λs hs=>?_;rw[Se _ _ λz hz e=>?_]
 .rfl
 .let⟨p,hp,rfl⟩:=Jq.mp hz;exact hs p hp (Ho e)
section
theorem Zd7 :∀{ws:List (Key×V)}{zs:List (Key×D)}{vs:List (Key×V)}{ds:List (Key×D)},RepK C I α ws zs->RepK C I α vs ds->RepK C I α (Xk vs ws) (Qq ds zs)
 |_,_,_,_,.nil,h=>h
 |_,_,vs,ds,.cons (k:=k) (v:=v) (d:=d) (vs:=ws) (ds:=zs) a b,h=>by
  show RepK C I α (Xk (putK vs k v) ws) (Qq (putD ds k d) zs);exact Zd7 b (h.put a)
theorem Zr2{v:V}{k:Key}(r:Rep C I α v (kD k)):v=kV k:=by
 cases k with
 |inl i=>cases r.inv;rfl
 |inr s=>cases r.inv;rfl
theorem Q0(R:Rel C Z I α H M):∀{vs:List V}(zs:List (Key×D)),Reps C I α vs (zs.map λz=>.tup [kD z.1,z.2])->∃ws:List (Key×V),Zc2 C.k H vs (ws.map λz=>(kV z.1,z.2))/\RepK C I α ws zs
 |_,[],r=>by cases r;exists [],.nil,.nil
 |_,z::zs,r=>by
  cases r with
  |cons a b =>
   let⟨ws,p,q⟩:=Q0 R zs b;cases a with
   |tup e r2 =>
    cases r2 with
    |cons r2 r3 =>
     cases r3 with
     |cons r3 r4 =>
      cases r4
      rename_i v1 v2
      exists(z.1,v2)::ws,.cons ⟨_,rfl,SqT.of ?_⟩ p,?_
      .show H _=some (.tup [kV z.1,v2]);rw[<-Zr2 r2];exact R.sub _ _ e
      .exact .cons r3 q
def Zsl:List D->Mem->K3->Prop:=λds M K=>∃(d:D)(zs:List (Key×D)),ds=[d]/\lsOf M d=some (zs.map λz=>.tup [kD z.1,z.2])/\zs.length<1000/\K (.dct (Qq [] zs)) M
theorem Zdm:SimC C Z (Zb4 C.k) Zsl:=λI α H M xs ds K Q R r h k=>by
 let⟨d,zs,rfl,e,hl,h⟩:=h;refine Reps.e1 r λ_ r1=>?_;let⟨a,vs,rfl,ea,ra⟩:=Rn R r1 e;let⟨ws,pw,rw'⟩:=Q0 R zs ra;exists a,vs,_,.dK [],rfl,.inl ea,pw,.inl rfl,λD hD=>⟨_,Nv _ [] ?_,?_⟩
 .rw[Bl,rw'.len];exact Gz (by lia:0+zs.length<=1000) nofun
 .let⟨R2,s2,e2⟩:=R.new (o:=.dK (Xk [] ws)) hD;exact k.on s2 R2 (.dct e2 ((Zd7 rw' .nil).mono s2 (Jo _))) h
def osOf(R:List En):List (Option Int):=R.map λe=>e.2
def Zss:Sp3:=λds M K=>∃(L:List Pr)(d:D)(ns:List Int)(pl:Nat),ds=[.lst (L.map pD),d,.int pl]/\lsOf M d=some (ns.map .int)/\(L.length<64/\pl<=ns.length) /\
 (∀p∈L,p.2<+:ns.drop pl->K (.tup [.int p.1,.int ((pl+p.2.length:Nat):Int)]) M)/\((∀p∈L,¬ p.2<+:ns.drop pl)->K .non M)
def Zte{E:XK}(h:spOf C Zss vs H Q E):Zl1 vs H Q E:=by
 let⟨Z,I,α,M,ds,K,R,r,⟨L,d,ns,pl,rfl,e1,⟨h1,h3⟩,ha,hb⟩,kk⟩:=h;refine Reps.e3 r λ_ _ _ r1 r2 r3=>?_;cases r3.inv;let⟨ta,_,rfl,_,ht⟩:=Zjt R r1;let⟨xa,rfl,ex⟩:=Zrv R r2 e1;exists ta,xa,L,ns,pl,rfl,ht,h1,ex,h3,λp hp hw t H' s et=>?_,λhn H' s=>kk _ _ I α H' M (.refl _) (Jo _) (R.same s) .non (hb hn);let⟨I',s',R',fl⟩:=(R.same s).full;exact kk _ _ I' α H' M s' (Jo _) R' (.tup (fl _ _ et ((R.same s).tupOut et)) (.cons (.int _) (.one (.int _)))) (ha p hp hw)
end
def Zjb(h:X.K=K)(hr:Room 3 X.A)(hc:X.calm=true):Wz X (.type "dict") (Zb4 K):=by subst h;exact Wu hr hc
def Zf5{u u':TS3}{En:Ends3}(S:Ev->Mem->Prop)(h1:∀Kn:Ev->Mem->Prop,(∀ρ' M',S ρ' M'->Kn ρ' M')->u {En with nx:=Kn} ρ M)(h2:∀ρ' M',S ρ' M'->u' En ρ' M'):uSeq u u' En ρ M:=h1 _ h2
theorem Zhu{d:D}{xs:List D}(h:lsOf M d=some xs):lsOf (M++[m]) d=some xs:=by
 cases d with
 |lst ys=>exact h
 |cell k =>
  simp only[lsOf]at h⊢
  by_cases hk:k<M.length
  .rw[Js hk];exact h
  .rw[Bh (B7 hk)]at h;exact nomatch h
 |_=>exact nomatch h
section
def sum3:List D->Mem->K3->Prop:=λds M K=>∃(d:D)(ns:List Int),ds=[d]/\Xz M d=some (ns.map .int)/\K (.int ns.sum) M
def rSum(K:Ck):List V->Hp->VK->Prop:=λxs H Q=>∃(p:Addr)(ns:List Int),xs=[.ref p]/\SqL K H p (ns.map V.int)/\Q (.int ns.sum) H
def Zs6(h:X.K=K')(hc:X.calm=true):Wz X (.builtin "sum") (rSum K'):=by subst h;exact Zla hc
def Zt0:SimC C Z (rSum C.k) sum3:=λI α H M xs ds K Q R r h k=>by
 let⟨d,bs,rfl,e,h⟩:=h;refine Reps.e1 r λ_ r1=>?_;let⟨a,vs,rfl,ea,ra⟩:=Ul R r1 e;rw[ra.of_ints bs]at ea;exists a,bs,rfl,ea,k.now R (.int _) h
end
def Qm(f:Str)(v:D):List (Str×D)->List (Str×D)
 |[]=>[(f,v)]
 |(g,x)::r=>if g=f then(g,v)::r else(g,x)::Qm f v r
section
abbrev FldR(C:Cf)(I:Hp)(α:List Addr):Str×V->Str×D->Prop:=λp q=>p.1=q.1/\Rep C I α p.2 q.2
theorem Zaz{f:Str}{d:D}:∀{vs:List (Str×V)}{fs:List (Str×D)},Paired (FldR C I α) vs fs->fs.lookup f=some d->∃v,vs.lookup f=some v/\Rep C I α v d
 |_,_,.nil,h=>nomatch h
 |_,_,.cons (a:=(g,v)) (b:=(g',d')) a r,h=>by
  let⟨e,rv⟩:=a;let e:g=g':=e;subst e;rw[Ba]at h⊢;cases z:f==g with
  |true=>rw[z]at h;cases h;exists v,rfl,rv
  |false=>rw[z]at h;exact Zaz r h
theorem Za0{f:Str}:∀{vs:List (Str×V)}{fs:List (Str×D)},Paired (FldR C I α) vs fs->fs.lookup f=none->vs.lookup f=none
 |_,_,.nil,h=>rfl
 |_,_,.cons (a:=(g,v)) (b:=(g',d')) a r,h=>by
  let⟨e,rv⟩:=a;let e:g=g':=e;subst e;rw[Ba]at h⊢;cases z:f==g with
  |true=>rw[z]at h;cases h
  |false=>rw[z]at h;exact Za0 r h
theorem Zd6{f:Str}{v:V}{d:D}(rv:Rep C I α v d):∀{vs:List (Str×V)}{fs:List (Str×D)},Paired (FldR C I α) vs fs->Paired (FldR C I α) (putF f v vs) (Qm f d fs)
 |_,_,.nil=>.cons ⟨rfl,rv⟩ .nil
 |_,_,.cons (a:=(g,v')) (b:=(g',d')) a r=>by
  let⟨e,rv'⟩:=a;let e:g=g':=e;subst e;unfold putF Qm
  by_cases z:g=f
  .rw[Dt z,Dt z];exact .cons ⟨rfl,rv⟩ r
  .rw[Ds z,Ds z];exact .cons ⟨rfl,rv'⟩ (Zd6 rv r)
end
section
variable{t:TA}{u:TA3} 
def Zjr(K:Ck)(f:Str)(ua:TE3):TE3:=λρ M Kk=>ua ρ M λd M1=>∃(k:Nat)(Cl:Addr)(fs:List (Str×D))(v:D),d=.cell k/\M1[k]?=some (.ins Cl fs)/\Cls K Cl/\Y9 K Cl f/\fs.lookup f=some v/\Kk v M1
def Zdl{f:Str}(ha:SimE C Z ta ua):SimE C Z (tFld K ta f) (Zjr K f ua):=λI α σ H ρ M Kk Q R E h k =>
 ha I α σ H ρ M _ _ R E h λv d I1 α1 H1 M1 s1 p1 R1 r1 h1=>by
  let⟨j,Cl,fs,w,rfl,e1,cl,na,el,h1⟩:=h1;let⟨a,rfl,ec⟩:=r1.inv;let⟨dx,vs,ea,ra⟩:=(R1.cel j a _ ec e1).1;let⟨v,ev,rv⟩:=Zaz ra el;exists a,Cl,dx,vs,v,rfl,ea,cl,na,ev,k _ _ I1 α1 H1 M1 s1 p1 R1 rv h1
def Zjq(K:Ck)(f:Str)(ua ub:TE3):TS3:=λE ρ M=>ub ρ M λdv M1=>ua ρ M1 λd M2=>∃(k:Nat)(Cl:Addr)(fs:List (Str×D)),d=.cell k/\M2[k]?=some (.ins Cl fs)/\Cls K Cl/\Y9 K Cl f/\fs.length<1000/\E.nx ρ (M2.set k (.ins Cl (Qm f dv fs)))
def Zgk{f:Str}(ha:SimE C Z ta ua)(hb:SimE C Z tb ub):SimS C Z (sFld K ta tb f) (Zjq K f ua ub):=λI α σ H ρ M E3 D' R RE h F =>
 hb I α σ H ρ M _ _ R RE h λy dv I1 α1 H1 M1 s1 p1 R1 r1 h1=>ha I1 α1 σ H1 ρ M1 _ _ R1 (RE.mono s1 p1) h1 λv d I2 α2 H2 M2 s2 p2 R2 r2 h2=>by
  let⟨j,Cl,fs,rfl,e1,cl,na,hl,h2⟩:=h2;let⟨a,rfl,ec⟩:=r2.inv;let⟨dx,vs,ea,ra⟩:=(R2.cel j a _ ec e1).1;exists a,Cl,dx,vs,rfl,ea,cl,na,by rw[Paired.length ra];exact hl,?_;exact F.nx I2 α2 σ _ ρ _ (s1.trans s2) (p1.trans p2) (R2.put (m:=.ins Cl (Qm f dv fs)) ec λH' e=>⟨dx,_,e,Zd6 (r1.mono s2 p2) ra⟩) (RE.mono (s1.trans s2) (p1.trans p2)) h2
def uMkI(Cl:Addr)(sp:Sp3)(u:TA3):TE3:=λρ M Kk=>u ρ M λds M1=>sp (.cell M1.length::ds) (M1++[.ins Cl []]) λd M2=>d=.non/\Kk (.cell M1.length) M2
def Zt6{Cl:Addr}{sp:Sp3}(ha:SimA C Z t u):SimE C Z (Zju Cl (spOf C sp) [] E0 t) (uMkI Cl sp u):=λI α σ H ρ M Kk Q R E h k =>
 ha I α σ H ρ M _ _ R E h λvs ds I1 α1 H1 M1 s1 p1 R1 r1 h1=>by
  intro x dx nx ndx ne;let R2:=R1.same (Zc (o:=.own x) ndx);let⟨R3,p3,e3⟩:=R2.cell (p:=x) (o:=.ins Cl dx []) (m:=.ins Cl []) (by rw[Zp (Et ne)];exact nx) λH' e=>⟨dx,[],e,.nil⟩;rw[Gm];exists Z,I1,α1++[x],_,_,_,R3,.cons (.cell e3) (r1.mono (.refl _) p3),h1,λv d I' α' H' M' s p R' r h'=>?_;let⟨rfl,h'⟩:=h';cases r.inv;exists rfl,k _ _ I' α' H' M' (s1.trans s) ((p1.trans p3).trans p) R' (.cell ?_) h';let⟨tl,rfl⟩:=p;rw[Js (by have:=(Je.mp e3).1;exact this)];exact e3
def Zp4(Cl:Addr)(m:Str)(sp:Sp3)(ua:TE3)(u:TA3):TE3:=λρ M Kk=>ua ρ M λd M1=>(∃(k:Nat)(fs:List (Str×D)),d=.cell k/\M1[k]?=some (.ins Cl fs)/\fs.lookup m=none)/\u ρ M1 λds M2=>sp (d::ds) M2 Kk
def Znz{Cl:Addr}{m:Str}{sp:Sp3}(ha:SimE C Z ta ua)(hr:SimA C Z t u):SimE C Z (Zer Cl m (spOf C sp) [] E0 ta t) (Zp4 Cl m sp ua u):=λI α σ H ρ M Kk Q R E h k =>
 ha I α σ H ρ M _ _ R E h λv d I1 α1 H1 M1 s1 p1 R1 r1 h1=>by
  let⟨⟨j,fs,rfl,e1,el⟩,h1⟩:=h1;let⟨a,rfl,ec⟩:=r1.inv;let⟨dx,vs,ea,ra⟩:=(R1.cel j a _ ec e1).1;exists a,dx,vs,rfl,ea,Za0 ra el,?_;refine hr I1 α1 σ H1 ρ M1 _ _ R1 (E.mono s1 p1) h1 λvs ds I2 α2 H2 M2 s2 p2 R2 r2 h2=>?_;rw[Gm];exists Z,I2,α2,M2,_,Kk,R2,.cons ((Rep.cell ec).mono s2 p2) r2,h2,k.mono (s1.trans s2) (p1.trans p2)
end
section
def Rel.reset(R:Rel C Z I α H M){k:Nat}{a:Addr}(ha:α[k]?=some a)(hm:MoAt C I α H a m):Rel C Z I α H (M.set k m):=by
 let⟨o,e⟩:=hm.some;let u:upd H a o=H:=by
  funext b
  by_cases z:b=a
  .subst z;rw[Zh,e]
  .rw[Zp z]
 let:=R.put (m:=m) (o:=o) ha λH' e'=>hm.mono (.refl _) (Jo _) (e'.trans e.symm);rwa [u]at this
end
section
abbrev Live(S:List Pr)(ns:List Int):Prop:=∃w∈S.map (λq:Pr=>q.2),ns<+:w/\ns.length<w.length
def Zpf:Sp3:=λds M K=>∃(S:List Pr)(s:Int),ds=[.code S,.int s]/\(∀p∈S,p.1=s->K (wD p.2) M)/\((∀p∈S,p.1≠s)->K .non M)
def Ztc{E:XK}(h:spOf C Zpf vs H Q E):Zlw C.c vs H Q E:=by
 let⟨Z,I,α,M,ds,K,R,r,⟨S,s,rfl,h1,h2⟩,kk⟩:=h;refine Reps.e2 r λ_ _ r1 r2=>?_;cases r2.inv;let⟨_,rfl,hc⟩:=r1.inv;exists _,S,s,rfl,hc.same R.sub,λp hp e t et=>?_,λhn=>kk _ _ I α H M (.refl _) (Jo _) R .non (h2 hn);let⟨I2,s2,R2,f⟩:=R.full;exact kk _ _ I2 α H M s2 (Jo _) R2 (.tup (f _ _ et (R.tupOut et)) (.ints _)) (h1 p hp e)
end
theorem Ug{d:D}{xs:List D}(h:lsOf M d=some xs):tyOf M d=some .list/\Xz M d=some xs/\N9 M d=some xs:=by
 cases d with
 |lst ys=>cases h;exists rfl,rfl,rfl
 |cell k =>
  simp only[lsOf]at h;cases hm:M[k]? with
  |none=>rw[hm]at h;cases h
  |some m =>
   rw[hm]at h;cases m with
   |lst es=>cases h;exact⟨by simp only[tyOf,hm],by simp only[Xz,hm],by simp only[N9,Xz,hm]⟩
   |_=>cases h
 |_=>cases h
theorem Zcx{n:Nat}{o:Option Int}:Ye n (oD o):=by
 cases o with
 |none=>exact Qe
 |some z=>exact Wl
def Zi3{ns:List τ}(h:pl<=ns.length):cut ns (some (pl:Int)) none=ns.drop pl:=by
 unfold cut;rw[HT.sIx_nat,Fe h];show(ns.drop pl).take (ns.length-pl)=_;rw[Gr];rw[Ga];exact Jd _
theorem Zqt{d:D}{xs:List D}{K:K3}(h:lsOf M d=some xs)(hk:K (.lst (cut xs lo hi)) M):sl3 d lo hi M K:=by
 cases d with
 |lst ys=>cases h;exists ·,hk
 |cell k=>exact⟨_,(Ug h).2.1,hk⟩
 |_=>cases h
theorem Zm2{d e:D}{xs ys:List D}{K:K3}(h1:lsOf M d=some xs)(h2:lsOf M e=some ys)(hl:xs.length+ys.length<=sizeLine)(hk:K (.lst (xs++ys)) M):add3 d e M K:=by
 cases d with
 |lst zs=>exact⟨_,_,h1,h2,hl,hk⟩
 |cell k=>exact⟨_,_,h1,h2,hl,hk⟩
 |_=>cases h1
theorem Zrw{d:D}{xs:List D}{K:K3}(h:lsOf M d=some xs)(hk:K (.int xs.length) M):len3 [d] M K:=by
 cases d with
 |lst zs=>exact⟨_,(Ug h).2.2,hk⟩
 |cell k=>exact⟨_,(Ug h).2.2,hk⟩
 |_=>cases h
theorem Zi1{ns:List τ} :cut ns none (some (pl:Int))=ns.take pl:=by
 unfold cut;rw[HT.sIx_nat];show(ns.drop 0).take (min pl ns.length-0)=_;rw[Jgd,F5,List.take_eq_take_iff];lia
theorem Qc{ns:List τ} :cut ns (some (pl:Int)) none=ns.drop pl:=by
 by_cases h:pl<=ns.length
 .exact Zi3 h
 .unfold cut;rw[HT.sIx_nat,Jec (),List.drop_length,Fx (),List.take_nil]
def encO:Enc (Option Int) where
 e:=oD
 py o:=match o with|some z=>.int z|none=>.none
 n:=0
 ok:=λM o=>by cases o with|none=>exact .non|some z=>exact .int z
 shp:=λo=>by
  cases o with
  |none=>exact⟨by simp only[Lw],by simp only[Ja3];exact Jd _⟩
  |some z=>exact Pq z
 eq:=λa b=>by cases a<;>cases b<;>simp[C7,Ja7]
 hn:=by decide
def Zaj{N:Mem}{xs:List D}{t:Nat}(h:N[t]?=some (.lst xs)):lsOf N (.cell t)=some xs:=by simp only[lsOf,h]
def Zup:Enc Pr:=Zsj Wt (Zsi Wt)
section
def Zrb(K:Ck):R2:=λx y H Q=>Zra K x y H Q\/Zn6 K x y H Q
def Zne(h:X.K=K'):OpR X (Ew .Add) (Zrb K'):=by
 subst h;exact OpR.or Zoj Zhh
end
section
def Zdi(C:Addr):Sp:=λvs H Q _=>∃(x:Addr)(S:List Pr),vs=[.ref x]/\Uq C H x S/\S.length<64/\∀(D:Addr)(H':Hp)(ns:List Int),H D=none->Same H H'->H' D=some (.lst (ns.map V.int))->ns.Perm (S.map (·.1))->ns.Pairwise (·<=·)->Q (.ref D) H'
def Zi0:Sp3:=λds M K=>∃(S:List Pr),ds=[.code S]/\S.length<64/\∀ns:List Int,ns.Perm (S.map (·.1))->ns.Pairwise (·<=·)->K (.cell M.length) (M++[.lst (ns.map .int)])
def Zlk{E:XK}(h:spOf C Zi0 vs H Q E):Zdi C.c vs H Q E:=by
 let⟨Z,I,α,M,ds,K,R,r,⟨S,rfl,h64,h⟩,kk⟩:=h;refine Reps.e1 r λ_ r1=>?_;let⟨_,rfl,hc⟩:=r1.inv;exists _,S,rfl,hc.same R.sub,h64,λD H' ns hD s el pm pw=>?_;let⟨R2,p2,e2⟩:=(R.same s).cellAt (l:=D) (m:=.lst (ns.map .int)) (R.sub.free hD) (R.out hD) ⟨_,el,.ints _⟩;exact kk _ _ I _ H' _ (.refl _) p2 R2 (.cell e2) (h ns pm pw)
def Zmw:Sp3:=λds M K=>∃(S:List Pr)(u:List Int),ds=[.code S,wD u]/\(∀p∈S,p.2=u->K (.int p.1) M)/\((∀p∈S,p.2≠u)->K .non M)
theorem Zpu{E:XK}(h:spOf C Zmw vs H Q E):Zlx C.c vs H Q E:=by
 let⟨Z,I,α,M,ds,K,R,r,⟨S,u,rfl,h1,h2⟩,kk⟩:=h;refine Reps.e2 r λ_ _ r1 r2=>?_;let⟨_,rfl,hc⟩:=r1.inv;cases r2 with
 | @tup t vt _ et rt =>
  rw[Reps.of_ints u rt]at et;exists _,t,S,u,rfl,hc.same R.sub,R.sub _ _ et,λp hp e=>kk _ _ I α H M (.refl _) (Jo _) R (.int _) (h1 p hp e),λhn=>kk _ _ I α H M (.refl _) (Jo _) R .non (h2 hn)
end
theorem Zrm{t1 t2:TT3}{c1 c2:Bool}(h1:∀K:Bool->Mem->Prop,K c1 M->t1 ρ M K)(h2:c1=false->∀K:Bool->Mem->Prop,K c2 M->t2 ρ M K):∀K:Bool->Mem->Prop,K (c1 ||c2) M->uOr t1 t2 ρ M K:=λK h=>by
 refine h1 _ ?_;cases c1 with
 |false=>exact h2 rfl _ h
 |true=>exact h
theorem Ztb{t1 t2:TT3}{c1 c2:Bool}(h1:∀K:Bool->Mem->Prop,K c1 M->t1 ρ M K)(h2:c1=true->∀K:Bool->Mem->Prop,K c2 M->t2 ρ M K):∀K:Bool->Mem->Prop,K (c1&&c2) M->uAnd t1 t2 ρ M K:=λK h=>by
 refine h1 _ ?_;cases c1 with
 |false=>exact h
 |true=>exact h2 rfl _ h
def Zr9{t:TT3}{a b:TS3}{E:Ends3}{c:Bool}(h:∀K:Bool->Mem->Prop,K c M->t ρ M K)(k:if c=true then a E ρ M else b E ρ M):uIfS t a b E ρ M:=h _ k
theorem Zmh{d:D}{xs:List D}{X:Mem}(h:Xz M d=some xs):Xz (M++X) d=some xs:=by
 cases d with
 |lst ys=>exact h
 |frz ys=>exact h
 |cell k =>
  simp only[Xz]at h⊢
  by_cases hk:k<M.length
  .rw[Js hk];exact h
  .rw[Bh (B7 hk)]at h;exact nomatch h
 |_=>exact nomatch h
section
variable{x y z:MO}
def two0:(M++[x,y])[M.length]?=some x:=by simp
theorem two1:(M++[x,y])[M.length+1]?=some y:=by rw[J8 ()];simp
def Ztz:(M++[x,y]).set M.length z=M++[z,y]:=by rw[Fc _ _ (Jd _),B5];rfl
theorem Zqu:(M++[x,y]).set (M.length+1) z=M++[x,z]:=by rw[Fc _ _ (),B3];rfl
end
theorem P4[BEq τ][LawfulBEq τ]:∀{zs us:List τ},zs.Nodup->(∀z∈zs,z∈us)->zs.length<=us.length
 |[],_,_,_=>Gc _
 |z::zs,us,nd,h=>by
  let⟨h1,h2⟩:=Fd.mp nd;let hz:=h z Ji;let:=P4 (us:=us.erase z) h2 λy hy=>(List.mem_erase_of_ne (λ(e:y=z)=>h1 (by rw[<-e];exact hy))).mpr (h y (Jg _ hy));rw[List.length_erase_of_mem hz]at this;let:=List.length_pos_of_mem hz;rw[J0];lia
def Sl(bs:List Int):Nat->List (List Int)
 |0=>[[]]
 |n+1=>(Sl bs n).flatMap λr=>bs.map λb=>r++[b]
theorem P7{bs:List Int}:∀(n:Nat)(r:List Int),r∈Sl bs n↔r.length=n/\∀b∈r,b∈bs
 |0,r=>by
  rw[Sl,Jf]
  constructor
  .rintro rfl;exists rfl,λ_ z=>nomatch z
  .exact λh=>List.eq_nil_of_length_eq_zero h.1
 |n+1,r=>by
  rw[Sl,B8]
  constructor
  .rintro⟨q,hq,hr⟩;let⟨b,hb,rfl⟩:=Jq.mp hr;let⟨h1,h2⟩:=(P7 n q).mp hq;exists by rw[Jc,h1];rfl,λx hx=>?_;rcases Jw.mp hx with z|z
   .exact h2 x z
   .rw[Jf.mp z];exact hb
  .rintro⟨h1,h2⟩;let ne:r≠[]:=λz=>by rw[z]at h1;cases h1
   exists r.dropLast,(P7 n _).mpr ⟨by rw[List.length_dropLast,h1];rfl,λx hx=>h2 x (List.dropLast_subset r hx)⟩,Jq.mpr ⟨r.getLast ne,h2 _ (List.getLast_mem ne),List.dropLast_concat_getLast ne⟩
def Ztr(u:TE3):TE3:=λρ M K=>u ρ M λd M'=>frzK M.length K d M'\/K d M'
def Zq1{t:TE}{u:TE3}(h:SimE C Z t u):SimE C Z t (Ztr u):=λI α σ H ρ M K Q R E hh k=>h I α σ H ρ M _ _ R E hh λv d I' α' H' M' s p R' r hk=>by
 rcases hk with hk|hk
 .exact k.frz R.len R.aa v d I' α' H' M' s p R' r hk
 .exact k v d I' α' H' M' s p R' r hk
structure TbK(L:List Pr)(bs:List Int):Prop where
 fr:Free L
 fi:Fits L
 by_:∀p∈L,∀b∈p.2,b∈bs
 ln:L.length<=28
def Ziu:Sp3:=λds M K=>∃(k:Nat)(bs:List Int)(m lg:Int),ds=[.cell k,.lst (bs.map .int),.int m,.int lg]/\M[k]?=some .hand/\(bs.Nodup/\bs≠[]/\bs.length<=24/\0<=m/\m<=6/\1<=lg/\lg<=4)/\∀ws:List (List Int),WOk ws->(∀w∈ws,∀b∈w,b∈bs)->(ws.length:Int)<=bs.length+m*(bs.length-1)->K (.lst (ws.map wD)) M
end L3
namespace L2
open PySem PySem.W
def AllL :Nat->(List τ->Prop)->Prop
 |0,Q=>Q []
 |n+1,Q=>∀a,AllL n λl=>Q (a::l)
theorem allL :∀{n:Nat}{Q:List τ->Prop},AllL n Q->∀{us:List τ},us.length=n->Q us
 |0,_,h,[],_=>h
 |n+1,_,h,a::l,e=>allL (h a) (Nat.succ.inj e)
def us2{Q:List τ->Prop}(h:∀a b,Q [a,b])(us:List τ)(hl:us.length=2):Q us:=match us,hl with |[a,b],_=>h a b
structure FnG(K:Frag)(x:Str)(st:Stmt)(f:Addr)(fd:Ln):Prop where
 g:nsIn K mainGlobals x=some (some (.ref f))
 F:Fun K x x st f fd
structure MtG(K:Frag)(C:Addr)(m q:Str)(st:Stmt)(f:Addr)(fd:Ln):Prop where
 a:Ef K (.ref C) m=some (some (.ref f))
 n:isFn K (.ref f)=true
 F:Fun K m q st f fd
def Zmg(K:Frag)(xs:List Str):Bool:=xs.all λx=>match nsIn K mainGlobals x with|some none=>true|_=>false
theorem Wp{K:Frag}{xs:List Str}(X:K.In h)(G:h.Ns mainGlobals mg)(z:Zmg K xs=true)(i:Nat){x:Str}(e:xs[i]?=some x):mg x=none:=by
 let:=List.all_eq_true.mp z x (Gx e);cases q:nsIn K mainGlobals x with
 |none=>rw[q]at this;cases this
 |some o =>
  cases o with
  |none=>exact mg_none_of X G q
  |some v=>rw[q]at this;cases this
structure MkG(K:Frag)(C:Addr):Prop where
 m:makesIn K C=true
 k:keepIn K (.ref C)=true
structure Tk(P:El)(w:Hd)(K:Frag)(mg:Str->Option Value)(base:Heap):Prop where
 m:∀{x:Str}{v:Value},nsIn K mainGlobals x=some (some v)->mg x=some v
section
variable{K:Frag}{base:Heap}{x m q:Str}{f C:Addr}{k:Nat}{sp:Sp}
abbrev Bnd(x q:Str)(st:Stmt)(ps:List Str):Prop:=∀(kV doc pm:Value)(an:Option Addr)(cdv ct:Value)(us:List Value),us.length=ps.length->Jc4 (fnOf x q (Wi st) (Xs st) (Zo st) .none kV doc pm an cdv ct) ⟨us,[]⟩=pure (ps.zip us)
def bn(h:∀(kV doc pm:Value)(an:Option Addr)(cdv ct:Value),AllL ps.length λus=>Jc4 (fnOf x q (Wi st) (Xs st) (Zo st) .none kV doc pm an cdv ct) ⟨us,[]⟩=pure (ps.zip us)):Bnd x q st ps:=λkV doc pm an cdv ct _ e=>allL (h kV doc pm an cdv ct) e
def X4(Y:Tk P w K mg base)(g:FnG K x st f fd)(ok:FnOk P w K mg base CX0 k f fd ps sp)(b:Bnd x x st ps:=by apply bn;(repeat intro _);exact rfl) :
  Cal P w K mg base x k ps sp:=Zsv g.F ok (Y.m g.g) (g.F.binds b)
def Zhs(Y:Tk P w K mg base)(cl:Cls K C)(g:MtG K C m q st f fd)(ok:FnOk P w K mg base CX0 k f fd ps sp)(b:Bnd m q st ps:=by apply bn;(repeat intro _);exact rfl) :
  Met P w K mg base C m k ps sp:=⟨f,fd,cl,⟨g.a,g.n,g.F.kp⟩,ok,g.F.binds b⟩
def Zui(Y:Tk P w K mg base)(mk:MkG K C)(g:MtG K C "__init__" q st f fd)(ok:FnOk P w K mg base CX0 k f fd ps sp)(hm:nsIn K mainGlobals x=some (some (.ref C)))(b:Bnd "__init__" q st ps:=by apply bn;(repeat intro _);exact rfl) :
  Mkr P w K mg base x C k ps sp:=⟨f,fd,⟨mk.m,g.a,g.n,mk.k⟩,ok,Y.m hm,g.F.binds b⟩
end
end L2
namespace L3
open PySem L2
def Zie{X:Mem}{k:Nat}(h:M[k]?=some m):(M++X)[k]?=some m:=by rw[Js (Je.mp h).1];exact h
section
theorem Zhz(R:Rel C Z I α H M):∀{vs:List V}(zs:List (D×List Int)),Reps C I α vs (zs.map (·.1))->(∀z∈zs,Xz M z.1=some (z.2.map .int))->∃P:List (KIt×D×List Int),(P.map λq=>V.ref q.1.2.1)=vs/\P.map (·.2)=zs/\∀q∈P,SqL C.k H q.1.2.1 (q.1.2.2.map V.int)/\q.1.2.2=q.2.2/\Rep C I α (.ref q.1.2.1) q.2.1
 |_,[],r,_=>by cases r.inv;exists [],rfl,rfl,λ_ h=>nomatch h
 |_,z::zs,r,hz=>by
  cases r with
  |cons a b =>
   let⟨P,e1,e2,e3⟩:=Zhz R zs b λz h=>hz z (Jg _ h);let⟨c,vs,rfl,ec,rc⟩:=Ul R a (hz z Ji);rw[Reps.of_ints _ rc]at ec;exists((.non,c,z.2),z)::P,by rw[Jp,e1],by rw[Jp,e2],λq hq=>?_;rcases Gi.mp hq with y|y
   .rw[y];exists ec,rfl,a
   .exact e3 q y
theorem Zdo :∀(P:List (KIt×D×List Int)),(∀q∈P,Rep C I α (.ref q.1.2.1) q.2.1)->Reps C I α (P.map λq=>V.ref q.1.2.1) (P.map λq=>q.2.1)
 |[],_=>.nil
 |q::P,h=>.cons (h q Ji) (Zdo P λx hx=>h x (Jg _ hx))
def Zqq:List D->Mem->K3->Prop:=λds M K=>∃(d:D)(zs:List (D×List Int)),ds=[d]/\Xz M d=some (zs.map (·.1))/\(zs.length<65536/\(∀z∈zs,Xz M z.1=some (z.2.map .int))/\(zs.map (·.2)).Nodup)/\∀ys:List (D×List Int),ys.Perm zs->ys.Pairwise (λa b=>HT.lexLt a.2 b.2=true)->K (.lst (ys.map (·.1))) M
theorem Zjz{d:D}{zs:List (D×List Int)}(R:Rel C Z I α H M)(r:Reps C I α xs [d])(e:Xz M d=some (zs.map (·.1)))(h64:zs.length<65536)(hz:∀z∈zs,Xz M z.1=some (z.2.map .int))(nd:(zs.map (·.2)).Nodup)(h:∀(Da:Addr)(P':List (KIt×D×List Int)),H Da=none->(P'.map (·.2)).Perm zs->(P'.map (·.2)).Pairwise (λa b=>HT.lexLt a.2 b.2=true)->Reps C I α (P'.map λq=>V.ref q.1.2.1) (P'.map λq=>q.2.1)->Q (.ref Da) (upd H Da (.lst (P'.map λq=>V.ref q.1.2.1)))):Zb3 C.k xs H Q:=by
 refine Reps.e1 r λ_ r1=>?_;let⟨a,vs,rfl,ea,ra⟩:=Ul R r1 e;let⟨P,e1,e2,e3⟩:=Zhz R zs ra hz;let ll:P.length=zs.length:=by have:=congrArg Ex e2;simpa using this
 let e4:(P.map (·.1)).map (·.2.2)=zs.map (·.2):=by
  rw[<-e2,Gb,Gb];exact Bf λq hq=>(e3 q hq).2.1
 exists a,P.map (·.1),rfl,by rw[Gb];rw[<-e1]at ea;exact ea,by rw[Ja];lia,λq hq=>?_,by rw[e4];exact nd,λDa L' hD pm pw=>?_
 .let⟨p,hp,rfl⟩:=Jq.mp hq;exact(e3 p hp).1
 .let⟨P',pP,rfl⟩:=Rp pm rfl;rw[Gb];refine h Da P' hD (by rw[<-e2];exact pP.map _) ?_ (Zdo P' λq hq=>(e3 q (pP.mem_iff.mp hq)).2.2);rw[Jz]at pw⊢;refine pw.imp_of_mem λ{a b}ha hb hl=>?_;rw[<-(e3 a (pP.mem_iff.mp ha)).2.1,<-(e3 b (pP.mem_iff.mp hb)).2.1];exact hl
def Znw:SimC C Z (Zb3 C.k) Zqq:=λI α H M xs ds K Q R r h k=>by
 let⟨d,zs,rfl,e,⟨h64,hz,nd⟩,h⟩:=h;refine Zjz R r e h64 hz nd λDa P' hD pm pw rp=>?_;let⟨R4,s4,e4⟩:=R.new (o:=.lst (P'.map λq=>V.ref q.1.2.1)) hD;refine k _ _ _ α _ M s4 (Jo _) R4 (.lst e4 ?_) (h _ pm pw);rw[Gb];exact rp.mono s4 (Jo _)
end
end L3
namespace L2
open PySem
def Zf7(K:Ck)(a:Addr):Bool:=match K.lookup a with
 |some o=>(match o.cls,o.data with
  |.type t,.seq its _=>t == "tuple" && (match its.toList with
   |[.int z _,.ref e]=>z==0&&(match K.lookup e with
    |some o2=>(match o2.cls,o2.data with|.type u,.seq its2 _=>u == "tuple" && its2.toList.isEmpty|_,_=>false)
    |none=>false)
   |_=>false)
  |_,_=>false)
 |none=>false
theorem Znp{a:Addr}(h:Zf7 K a=true):NkAt K (λ_=>none) [.k 0,.t []] a:=by
 unfold Zf7 at h;cases e1:K.lookup a with
 |none=>rw[e1]at h;cases h
 |some o =>
  rw[e1]at h;dsimp only at h
  split at h
  .rename_i t its n hc hd
   rw[By]at h;let⟨ht,h⟩:=h
   split at h
   .rename_i z tk e hi
    rw[By]at h;let⟨hz,h⟩:=h;cases e2:K.lookup e with
    |none=>rw[e2]at h;cases h
    |some o2 =>
     rw[e2]at h;dsimp only at h
     split at h
     .rename_i u its2 n2 hc2 hd2
      rw[By]at h;let⟨hu,hem⟩:=h;let l1:its.size<=sizeLine:=by rw[<-Jj,hi];exact(by decide:2<=sizeLine)
      let l2:its2.toList=[]:=List.isEmpty_iff.mp hem;let l3:its2.size<=sizeLine:=by rw[<-Jj,l2];exact Gc _
      let hz:z=0:=beq_iff_eq.mp hz;exists [.int 0,.ref e],.inr ⟨o,its,n,e1,by rw[hc,beq_iff_eq.mp ht],hd,l1,?_⟩,.cons rfl (.cons ⟨e,rfl,.inr ⟨o2,its2,n2,e2,by rw[hc2,beq_iff_eq.mp hu],hd2,l3,?_⟩⟩ .nil)
      .rw[hi,hz];exact .cons ⟨tk,rfl⟩ (.cons rfl .nil)
      .rw[l2];exact .nil
     .cases h
   .cases h
  .cases h
end L2
namespace L3
open PySem L2
section
def itOf:D->Option (List Int)
 |.itp x=>some x
 |.tup ds=>intsOf ds
 |_=>none
where intsOf:List D->Option (List Int)
 |[]=>some []
 |.int i::r=>(intsOf r).map (i::·)
 |_=>none
theorem Zau:∀{ds:List D}{x:List Int},itOf.intsOf ds=some x->ds=x.map D.int
 |[],x,h=>by cases h;rfl
 |.int i::r,x,h=>by
  unfold itOf.intsOf at h;let⟨y,hy,rfl⟩:=G7.mp h;rw[Zau hy];rfl
 |.non::_,_,h|.bl _::_,_,h|.str _::_,_,h|.ty _::_,_,h|.at _::_,_,h|.tup _::_,_,h|.lst _::_,_,h|.frz _::_,_,h|.dct _::_,_,h|.dcT _::_,_,h|.code _::_,_,h|.cell _::_,_,h|.exc _ _::_,_,h|.nst _::_,_,h|.itp _::_,_,h=>nomatch h
theorem Q7:∀x:List Int,itOf.intsOf (x.map D.int)=some x
 |[]=>rfl
 |i::r=>by show(itOf.intsOf (r.map D.int)).map (i::·)=_;rw[Q7 r];rfl
def Zky(x:List Int):itOf (.tup (x.map D.int))=some x:=Q7 x
theorem Zr7{v:V}{d:D}{x:List Int}(r:Rep C I α v d)(h:itOf d=some x):∃a,v=.ref a/\SqT C.k I a (x.map V.int):=by
 cases r with
 |itp e=>cases h;exists ·,e
 |tup e r=>obtain rfl:=Zau h;rw[Reps.of_ints x r]at e;exists ·,SqT.of e
 |_=>cases h
def niOf:D->Option NI
 |.int z=>some (.k z)
 |.bl t=>some (.b t)
 |d=>(itOf d).map .t
def Zcb:List D->Option (List NI)
 |[]=>some []
 |d::r=>match niOf d,Zcb r with|some k,some ks=>some (k::ks)|_,_=>none
theorem Zrq{v:V}{d:D}{k:NI}(r:Rep C I α v d)(h:niOf d=some k):NkV C.k I k v:=by
 let go:∀{x:List Int},itOf d=some x->NkV C.k I (.t x) v:=λhx=>by
  let⟨a,rfl,e⟩:=Zr7 r hx;exists a,rfl,e
 cases r with
 |int i=>cases h;exact rfl
 |bl b=>cases h;exact rfl
 |itp e=>cases h;exact go rfl
 | @tup a vs ds e r =>
  let h:(itOf (.tup ds)).map NI.t=some k:=h;let⟨x,hx,rfl⟩:=G7.mp h;exact go hx
 |_=>cases h
theorem Zhm:∀{vs:List V}{ds:List D}{ks:List NI},Reps C I α vs ds->Zcb ds=some ks->Paired (NkV C.k I) ks vs
 |_,_,_,.nil,h=>by cases h;exact .nil
 |_,_,_,.cons (d:=d) (ds:=ds) r t,h=>by
  unfold Zcb at h;cases h1:niOf d with
  |none=>rw[h1]at h;cases h
  |some k =>
   cases h2:Zcb ds with
   |none=>rw[h1,h2]at h;cases h
   |some ks=>rw[h1,h2]at h;cases h;exact .cons (Zrq r h1) (Zhm t h2)
def Ztl(u:TA3):TE3:=λρ M K=>u ρ M λds M1=>ds.length<=sizeLine/\∃ks,Zcb ds=some ks/\K (.nst ks) M1
def Zqw{t:TA}{u:TA3}(ha:SimA C Z t u):SimE C Z (tTup t) (Ztl u):=λI α σ H ρ M K Q R E h k =>
 ha I α σ H ρ M _ _ R E h λvs ds I1 α1 H1 M1 s1 p1 R1 r1 h1=>by
  let⟨hl,ks,hk,h1⟩:=h1;exists by rw[r1.length];exact hl,λp hp=>?_;let⟨R2,s2,e2⟩:=R1.new (o:=.tup vs) hp;exact k _ _ _ α1 _ M1 (s1.trans s2) p1 R2 (.nst ⟨vs,SqT.of e2,Zhm (r1.mono s2 (Jo _)) hk⟩) h1
def Zqy{a:Addr}(h:NkAt C.k (λ_=>none) ks a):SimE C Z (tC (.ref a)) (uC (.nst ks)):=Jcl λI α=>.nst (h.same λ_ _ e=>by cases e)
def niD3:NI->D
 |.k z=>.int z
 |.t x=>.itp x
 |.b t=>.bl t
theorem Zkr{v:V}{k:NI}(h:NkV C.k I k v):Rep C I α v (niD3 k):=by
 cases k with
 |k z=>cases(show v=.int z from h);exact .int z
 |t x=>obtain⟨a,rfl,e⟩:=h;exact .itp e
 |b t=>cases(show v=.bl t from h);exact .bl t
theorem Zkp(r:Paired (NkV C.k I) ks vs):Reps C I α vs (ks.map niD3):=by
 induction r with
 |nil=>exact .nil
 |cons a b ih=>exact .cons (Zkr a) ih
def ixN3:R3:=λd e M K=>∃ks i k,d=.nst ks/\e=.int i/\L2.atI ks i=some k/\K (niD3 k) M
theorem Zlh(f:τ->υ){xs:List τ}{i:Int}{x:τ}(h:L2.atI xs i=some x):L2.atI (xs.map f) i=some (f x):=by
 unfold L2.atI at h⊢;rw[Ja];cases e:ixN xs.length i with
 |none=>rw[e]at h;cases h
 |some j =>
  rw[e]at h;let h:xs[j]?=some x:=h;show(xs.map f)[j]?=_;rw[Ge,h];rfl
def Zn1:SimR C Z (rIx C.k) ixN3:=λI α H M x y d e K Q R r1 r2 h k=>by
 let⟨ks,i,kk,rfl,rfl,e3,h⟩:=h;cases r2.inv;let⟨_,rfl,n⟩:=r1.inv;let⟨vs,e,r⟩:=n;let⟨v,e4,rv⟩:=(Zkp (α:=α) r).atI (Zlh niD3 e3);exact .inr (.inl ⟨_,vs,i,v,rfl,rfl,Su R.sub e,e4,k.now R rv h⟩)
def Zur:R3:=λd e M K=>∃x y,itOf d=some x/\e=.tup (y.map D.int)/\x.length+y.length<=sizeLine/\y≠[]/\K (.tup ((x++y).map D.int)) M
def Zq2:SimR C Z (Zrb C.k) Zur:=λI α H M x y d e K Q R r1 r2 h k=>by
 let⟨xs,ys,hx,rfl,hl,hy,h⟩:=h;let⟨a,rfl,ia⟩:=Zr7 r1 hx;let⟨b,ws,rfl,eb,ib,rb⟩:=Ui R r2 rfl
 by_cases hx:xs=[]
 .subst hx;exact .inl ⟨a,b,ws,rfl,rfl,Su R.sub ia,SqT.of eb,k.now R r2 h⟩
 .let ew:=Reps.of_ints ys rb;refine .inr ⟨a,b,_,ws,rfl,rfl,Su R.sub ia,SqT.of eb,λz=>hx (by simpa using z),by rw[rb.length,Ja,Ja];exact hl,λz=>?_,λ_ p hp=>?_⟩
  .rw[z]at ew;exact absurd (List.map_eq_nil_iff.mp ew.symm) hy
  .let⟨R2,s2,e2⟩:=R.new (o:=.tup (xs.map V.int++ws)) hp;refine k.on s2 R2 (.tup e2 ?_) h;rw[Jk,ew];exact(Reps.ints xs).app (Reps.ints ys)
def Pk(kvs:List (List NI×D))(k:List NI):Option D:=(kvs.find? λx=>decide (x.1=k)).map (·.2)
def Zad(kvs:List (List NI×D))(k:List NI)(v:D):List (List NI×D):=if(kvs.any λx=>decide (x.1=k))then kvs.map (λx=>if x.1=k then(x.1,v)else x)else kvs++[(k,v)]
def Vk(M:Mem):D->Option (List Nat×List (List NI×D))
 |.cell k=>match M[k]? with|some (.dcN sh _ kvs)=>some (sh,kvs)|_=>none
 |_=>none
theorem Ziq{v:V}{d:D}{sh:List Nat}{kvs:List (List NI×D)}(R:Rel C Z I α H M)(r:Rep C I α v d)(h:Vk M d=some (sh,kvs)):∃a vs,v=.ref a/\Rd H a (.ext (dnP a vs))/\Qh C I sh vs/\RepN C I α vs kvs:=by
 cases r with
 | @cell a k e =>
  unfold Vk at h;cases hm:M[k]? with
  |none=>simp only[hm]at h;cases h
  |some m =>
   cases m with
   |dcN s z es =>
    simp only[hm]at h;cases h;let q:=(R.cel k a _ e hm).1;cases z with
    |none=>obtain⟨vs,e1,n,r⟩:=q;exists _,·,.inl e1,n,r
    |some z=>exact⟨_,z.2,rfl,.inr ⟨_,q.1⟩,q.2.1,q.2.2⟩
   |_=>simp only[hm]at h;cases h
 |_=>cases h
def Qh.dn{sh:List Nat}{vs:List Nkv}{a:Addr}(h:Qh C I sh vs)(s:Same I H)(e:Rd H a (.ext (dnP a vs))):DnAt C.k H a sh vs:=⟨e,λx hx=>⟨(h x hx).1.same s,(h x hx).2⟩⟩
theorem RepN.val{vs:List Nkv}{kvs:List (List NI×D)}(r:RepN C I α vs kvs)(k:List NI):(Pk kvs k=none/\valN vs k=none)\/∃x y,Pk kvs k=some x/\valN vs k=some y/\Rep C I α y x:=by
 unfold Pk valN
 induction r with
 |nil=>exact .inl ⟨rfl,rfl⟩
 | @cons p q ps qs h t ih =>
  rw[Gv,Gv,h.1]
  by_cases e:q.1=k
  .rw[Du e];exact .inr ⟨_,_,rfl,rfl,h.2⟩
  .rw[Dv e];exact ih
def RepN.put{vs:List Nkv}{kvs:List (List NI×D)}{v:V}{d:D}(r:RepN C I α vs kvs)(k:List NI)(b:Addr)(rv:Rep C I α v d):RepN C I α (putN vs k b v) (Zad kvs k d):=by
 let ea:(vs.any λx=>decide (x.1=k))=kvs.any λx=>decide (x.1=k):=by
  induction r with
  |nil=>rfl
  |cons h t ih=>rw[B6,B6,h.1,ih]
 unfold putN Zad;rw[ea]
 split
 .rename_i hh
  clear ea hh
  induction r with
  |nil=>exact .nil
  | @cons p q ps qs h t ih =>
   refine .cons ?_ ih;dsimp only;rw[h.1]
   by_cases e:q.1=k
   .rw[Dt e,Dt e];exists rfl,rv
   .rw[Ds e,Ds e];exact h
 .exact Paired.snoc ⟨rfl,rv⟩ r
def Qh.put{sh:List Nat}{vs:List Nkv}{k:List NI}{b:Addr}{v:V}(h:Qh C I sh vs)(hk:NkAt C.k I k b)(hs:k.map NI.sh=sh):Qh C I sh (putN vs k b v):=λx hx=>by
 unfold putN at hx
 split at hx
 .let⟨y,hy,rfl⟩:=Jq.mp hx
  split
  .exact h y hy
  .exact h y hy
 .rcases Jw.mp hx with z|z
  .exact h x z
  .rw[Jf.mp z];exists hk,hs
def RepN.len{vs:List Nkv}{kvs:List (List NI×D)}(r:RepN C I α vs kvs):vs.length=kvs.length:=Paired.length r
def nGet(M:Mem)(d e:D)(o:Option D):Prop:=∃sh kvs ks,Vk M d=some (sh,kvs)/\e=.nst ks/\ks.map NI.sh=sh/\o=Pk kvs ks
def Zcd{v w:V}{d e:D}{o:Option D}(R:Rel C Z I α H M)(r1:Rep C I α v d)(r2:Rep C I α w e)(h:nGet M d e o):∃a o',v=.ref a/\NGet C.k H a w o'/\((o=none/\o'=none)\/∃x y,o=some x/\o'=some y/\Rep C I α y x):=by
 let⟨sh,kvs,ks,e1,rfl,es,rfl⟩:=h;let⟨a,vs,rfl,ea,nk,ra⟩:=Ziq R r1 e1;let⟨_,rfl,n⟩:=r2.inv;exists a,valN vs ks,rfl,⟨_,sh,vs,ks,rfl,nk.dn R.sub ea,n.same R.sub,es,rfl⟩,?_;rcases ra.val ks with⟨h1,h2⟩|⟨x,y,h1,h2,h3⟩
 .exact .inl ⟨h1,h2⟩
 .exact .inr ⟨x,y,h1,h2,h3⟩
end
section
variable{tc:TE}{uc:TE3}
def Zlo(sh:List Nat):TE3:=λ_ M K=>K (.cell M.length) (M++[.dcN sh none []])
def Pu{sh:List Nat}:SimE C Z Zlu (Zlo sh):=λI α σ H ρ M K Q R E h k p hp=>by
 let⟨R2,p2,e2⟩:=R.cell (o:=.ext (dnP p [])) (m:=.dcN sh none []) hp λH' e=>⟨[],e,(λ_ h=>nomatch h),Paired.nil⟩;exact k _ _ I _ _ _ (.refl _) p2 R2 (.cell e2) h
def Zng(ua ub:TE3):TE3:=λρ M K=>ua ρ M λd M1=>ub ρ M1 λe M2=>∃v,nGet M2 d e (some v)/\K v M2
def Zaa(ha:SimE C Z ta ua)(hb:SimE C Z tb ub):SimE C Z (Zqk C.k ta tb) (Zng ua ub):=λI α σ H ρ M K Q R E h k =>
 ha I α σ H ρ M _ _ R E h λv d I1 α1 H1 M1 s1 p1 R1 r1 h1 =>
  hb I1 α1 σ H1 ρ M1 _ _ R1 (E.mono s1 p1) h1 λw e I2 α2 H2 M2 s2 p2 R2 r2 h2=>by
   let⟨x,g,h2⟩:=h2;let⟨a,o',rfl,g2,z⟩:=Zcd R2 (r1.mono s2 p2) r2 g;rcases z with⟨z,_⟩|⟨x',y,z1,z2,z3⟩
   .cases z
   .cases z1;subst z2;exists a,y,rfl,g2,k _ _ I2 α2 H2 M2 (s1.trans s2) (p1.trans p2) R2 z3 h2
def Znf(ub ua:TE3):TE3:=λρ M K=>ub ρ M λe M1=>ua ρ M1 λd M2=>∃o,nGet M2 d e o/\K (.bl (!o.isSome)) M2
def Zj2(hb:SimE C Z tb ub)(ha:SimE C Z ta ua):SimE C Z (Zf1 C.k tb ta) (Znf ub ua):=λI α σ H ρ M K Q R E h k =>
 hb I α σ H ρ M _ _ R E h λw e I1 α1 H1 M1 s1 p1 R1 r1 h1 =>
  ha I1 α1 σ H1 ρ M1 _ _ R1 (E.mono s1 p1) h1 λv d I2 α2 H2 M2 s2 p2 R2 r2 h2=>by
   let⟨o,g,h2⟩:=h2;let⟨a,o',rfl,g2,z⟩:=Zcd R2 r2 (r1.mono s2 p2) g;let eo:o'.isSome=o.isSome:=by
    rcases z with⟨rfl,rfl⟩|⟨x',y,rfl,rfl,_⟩<;>rfl
   exact⟨a,o',rfl,g2,by rw[eo];exact k _ _ I2 α2 H2 M2 (s1.trans s2) (p1.trans p2) R2 (.bl _) h2⟩
def Zp3(ua ub uc:TE3):TE3:=λρ M K=>ua ρ M λd M1=>Vk M1 d≠none/\ub ρ M1 λe M2=>uc ρ M2 λx M3=>∃o,nGet M3 d e o/\K (o.getD x) M3
def Znx(ha:SimE C Z ta ua)(hb:SimE C Z tb ub)(hc:SimE C Z tc uc):SimE C Z (Zlt C.k ta tb tc) (Zp3 ua ub uc):=λI α σ H ρ M K Q R E h k =>
 ha I α σ H ρ M _ _ R E h λv d I1 α1 H1 M1 s1 p1 R1 r1 h1=>by
  cases hd:Vk M1 d with
  |none=>exact absurd hd h1.1
  |some q =>
   let⟨a,vs,rfl,ea,nk,ra⟩:=Ziq R1 r1 hd;exists a,rfl,⟨_,_,nk.dn R1.sub ea⟩,hb I1 α1 σ H1 ρ M1 _ _ R1 (E.mono s1 p1) h1.2 λw e I2 α2 H2 M2 s2 p2 R2 r2 h2=>?_;refine hc I2 α2 σ H2 ρ M2 _ _ R2 (E.mono (s1.trans s2) (p1.trans p2)) h2 λx' x I3 α3 H3 M3 s3 p3 R3 r3 h3=>?_;let⟨o,g,h3⟩:=h3;let⟨b,o',eb,g2,z⟩:=Zcd R3 (r1.mono (s2.trans s3) (p2.trans p3)) (r2.mono s3 p3) g;cases eb;exists o',g2,?_;rcases z with⟨rfl,rfl⟩|⟨x',y,rfl,rfl,z3⟩
   .exact k _ _ I3 α3 H3 M3 (s1.trans (s2.trans s3)) (p1.trans (p2.trans p3)) R3 r3 h3
   .exact k _ _ I3 α3 H3 M3 (s1.trans (s2.trans s3)) (p1.trans (p2.trans p3)) R3 z3 h3
def Zp2(ua ub uc:TE3):TS3:=λE ρ M=>uc ρ M λv M1=>ua ρ M1 λd M2=>ub ρ M2 λe M3=>∃j sh kvs ks,d=.cell j/\M3[j]?=some (.dcN sh none kvs)/\e=.nst ks/\ks.map NI.sh=sh/\kvs.length<sizeLine/\E.nx ρ (M3.set j (.dcN sh none (Zad kvs ks v)))
def Zgl(ha:SimE C Z ta ua)(hb:SimE C Z tb ub)(hc:SimE C Z tc uc):SimS C Z (Zq3 C.k ta tb tc) (Zp2 ua ub uc):=λI α σ H ρ M E D' R RE h F =>
 hc I α σ H ρ M _ _ R RE h λv d0 I1 α1 H1 M1 s1 p1 R1 r1 h1=>ha I1 α1 σ H1 ρ M1 _ _ R1 (RE.mono s1 p1) h1 λx d I2 α2 H2 M2 s2 p2 R2 r2 h2 =>
  hb I2 α2 σ H2 ρ M2 _ _ R2 (RE.mono (s1.trans s2) (p1.trans p2)) h2 λy e I3 α3 H3 M3 s3 p3 R3 r3 h3=>by
   let⟨j,sh,kvs,ks,rfl,e1,rfl,es,hl,h3⟩:=h3;let rv:=r1.mono (s2.trans s3) (p2.trans p3);let⟨a,rfl,ec⟩:=(r2.mono s3 p3).inv;let⟨vs,ea,nk,ra⟩:=(R3.cel j a _ ec e1).1;cases r3 with
   | @nst b _ n =>
    exists a,b,sh,vs,ks,rfl,rfl,nk.dn R3.sub (.inl ea),ea,by rw[ra.len];exact hl,n.same R3.sub,es,?_;exact F.nx I3 α3 σ _ ρ _ (s1.trans (s2.trans s3)) (p1.trans (p2.trans p3)) (R3.put (m:=.dcN sh none (Zad kvs ks d0)) ec λH' e=>⟨_,e,nk.put n es,ra.put ks b rv⟩) (RE.mono (s1.trans (s2.trans s3)) (p1.trans (p2.trans p3))) h3
def nIt(k:Nat)(sh:List Nat)(z:Obj×List Nkv)(kvs:List (List NI×D)):It3:=⟨kvs.length,λi x=>∃kv,kvs[i]?=some kv/\x=.nst kv.1,λM=>M[k]?=some (.dcN sh (some z) kvs)⟩
def uIDN(ue:TE3):TI3:=λρ M K=>ue ρ M λd M1=>∃k sh y kvs,d=.cell k/\M1[k]?=some (.dcN sh y kvs)/\∀z,K (nIt k sh z kvs) (M1.set k (.dcN sh (some z) kvs))
def Zrs{k:Nat}{a:Addr}{sh:List Nat}{z:Obj×List Nkv}{kvs:List (List NI×D)}(ea:α[k]?=some a):ItR C Z I α (ItdN C.k a z.1 z.2) (nIt k sh z kvs):=λI' α' H' M' s p R ok=>by
 let m:=(R.cel k a _ (Zg4 p ea) ok).1;let ln:=m.2.2.len;exists λi hi=>⟨⟨m.1,by rw[ln];exact hi⟩,λx H2 y=>?_⟩,⟨m.1,by rw[ln];exact Jd _⟩;let⟨rfl,kv,e1,rfl⟩:=y;let⟨hj,ej⟩:=Je.mp e1;let⟨g,_⟩:=L2.Paired.at m.2.2 hj hi;rw[ej]at g;exact⟨I',.nst kv.1,.refl _,R,.nst (m.2.1 kv (Gx e1)).1,kvs[i],Jb hi,by rw[g]⟩
def Zt7(he:SimE C Z ta ua):SimI C Z (Zmk C.k ta) (uIDN ua):=λI α σ H ρ M K R' R RE h kk =>
 he I α σ H ρ M _ _ R RE h λv d I1 α1 H1 M1 s1 p1 R1 r1 h1=>by
  let⟨k,sh,y,kvs,rfl,e,h1⟩:=h1;let⟨a,rfl,ea⟩:=r1.inv;let q:=(R1.cel k a _ ea e).1;cases y with
  |none =>
   let⟨vs,e1,n,r⟩:=q;exists a,vs,rfl,.inl ⟨e1,λo=>kk _ _ I1 α1 _ _ s1 p1 (R1.put (m:=.dcN sh (some (o,vs)) kvs) ea λH' e'=>⟨e',n,r⟩) (Zrs (z:=(o,vs)) ea) (h1 (o,vs))⟩
  |some z =>
   exists a,z.2,rfl,.inr ⟨z.1,q.1,kk _ _ I1 α1 _ _ s1 p1 ?_ (Zrs ea) (h1 z)⟩;exact R1.reset (m:=.dcN sh (some z) kvs) ea q
def decP:List Int->List NI
 |z::w=>[.k z,.t w]
 |[]=>[]
def Zgd(rv:Bool):List D->Mem->K3->Prop:=λds M K=>∃d kvs,ds=[d]/\Vk M d=some ([0,1],kvs)/\kvs.length<65536 /\
 ∀ws:List (List Int),ws.Perm (kvs.map λq=>encP q.1)->ws.Pairwise (λa b=>if rv then HT.lexLt b a=true else HT.lexLt a b=true)->K (.lst (ws.map λw=>.nst (decP w))) M
def Zj0{rv:Bool}:SimC C Z (Zb2 C.k rv) (Zgd rv):=λI α H M xs ds K Q R r h k=>by
 let⟨d,kvs,rfl,e,h64,h⟩:=h;refine Reps.e1 r λ_ r1=>?_;let⟨a,vs,rfl,ea,nk,ra⟩:=Ziq R r1 e;refine⟨a,vs,rfl,nk.dn R.sub ea,by rw[ra.len];exact h64,λDa L' hD pm pw=>?_⟩;let⟨R4,s4,e4⟩:=R.new (o:=.lst (L'.map λq=>V.ref q.2.1)) hD;let ek:kvs.map (λq=>encP q.1)=(kitN vs).map (·.2.2):=by
  unfold kitN;rw[Gb];clear e h64 h pm nk ea
  induction ra with
  |nil=>rfl
  |cons a b ih=>rw[Jp,Jp,ih,<-a.1];rfl
 refine k _ (.lst ((L'.map (·.2.2)).map λw=>.nst (decP w))) _ α _ M s4 (Jo _) R4 (.lst e4 ?_) (h _ (by rw[ek];exact pm.map _) (Jz.mpr pw));let all:∀q∈L',Rep C I α (.ref q.2.1) (.nst (decP q.2.2)):=λq hq=>by
  let⟨x,hx,rfl⟩:=Jq.mp (pm.mem_iff.mp hq);let⟨n,es⟩:=nk x hx;let⟨z,w,e⟩:=Nt es;show Rep C I α (.ref x.2.1) (.nst (decP (encP x.1)));rw[e]at n⊢;exact .nst n
 let go:∀L:List KIt,(∀q∈L,Rep C I α (.ref q.2.1) (.nst (decP q.2.2)))->Reps C I α (L.map λq=>V.ref q.2.1) ((L.map (·.2.2)).map λw=>D.nst (decP w)):=λL=>by
  induction L with
  |nil=>exact λ_=>.nil
  |cons q L ih=>exact λall=>.cons (all q Ji) (ih λx hx=>all x (Jg _ hx))
 exact(go L' all).mono s4 (Jo _)
def Znv{t:TA}{u:TA3}(ha:SimA C Z t u):SimE C Z (Zls C.k t) (uCB (Zgd true) u):=s_cb Zj0 ha
end
abbrev Spot:=Nat×List Int
abbrev IsWd(S:List Pr)(u:List Int):Prop:=∃p∈S,p.2=u
def Xy(kn:List (Option Int))(a:Nat)(row:List Int):List (List Int):=((Co row.length).filter λk=>decide (kn[a+k]?=some none)).map row.drop
def bt(kn:List (Option Int))(S:List Pr)(p:Nat)(sw:List Int)(b:Int):Option (List Int) :=
 match kn[p]? with
 |none=>none
 |some o=>if(o.isSome=true/\o≠some b)\/(Xy kn (p+1-(sw++[b]).length) (sw++[b])).any (λu=>decide (IsWd S u))=true then none
  else some (((Xy kn (p+1-(sw++[b]).length) (sw++[b])).find? λu=>decide (Live S u)).getD [])
def wt(kn:List (Option Int))(S:List Pr):Spot->List Int->Option Spot
 |sp,[]=>some sp
 |sp,b::w=>(bt kn S sp.1 sp.2 b).bind λsw=>wt kn S (sp.1+1,sw) w
section
def Wm(kn:List (Option Int))(S:List Pr)(sp:Spot):Prop:=sp.2.length<=sp.1/\sp.1<=kn.length/\(sp.2=[]\/Live S sp.2)
theorem Zsx{p:Nat}{sw':List Int}{b:Int}(h:bt kn S p sw b=some sw'):p<kn.length:=by
 unfold bt at h;cases e:kn[p]? with
 |none=>rw[e]at h;cases h
 |some o=>exact(Je.mp e).1
theorem Zpm{p:Nat}{sw':List Int}{b:Int}(h:bt kn S p sw b=some sw')(l:sw.length<=p):Wm kn S (p+1,sw'):=by
 let hp:=Zsx h;unfold bt at h;cases e:kn[p]? with
 |none=>rw[e]at h;cases h
 |some o =>
  rw[e]at h;dsimp only at h
  split at h
  .cases h
  .cases h;exists ?_,hp,?_
   .cases f:(Xy kn (p+1-(sw++[b]).length) (sw++[b])).find? (λu=>decide (Live S u))with
    |none=>exact Gc _
    |some u =>
     let hm:=List.mem_of_find?_eq_some f;unfold Xy at hm;let⟨k,_,rfl⟩:=Jq.mp hm;show((sw++[b]).drop k).length<=p+1;rw[Ga,Jc];show sw.length+1-k<=p+1;lia
   .cases f:(Xy kn (p+1-(sw++[b]).length) (sw++[b])).find? (λu=>decide (Live S u))with
    |none=>exact .inl rfl
    |some u =>
     let:=List.find?_some f;exact .inr (of_decide_eq_true this)
theorem Qu:∀(u v:List Int)(sp:Spot),wt kn S sp (u++v)=(wt kn S sp u).bind λsp'=>wt kn S sp' v
 |[],_,_=>rfl
 |b::u,v,sp=>by
  show(bt kn S sp.1 sp.2 b).bind _=((bt kn S sp.1 sp.2 b).bind _).bind _;cases bt kn S sp.1 sp.2 b with
  |none=>rfl
  |some sw=>exact Qu u v _
theorem Ur:∀{w:List Int}{sp sp':Spot},wt kn S sp w=some sp'->Wm kn S sp->Wm kn S sp'/\sp'.1=sp.1+w.length
 |[],sp,sp',h,g=>by cases h;exists g,rfl
 |b::w,sp,sp',h,g=>by
  let h:(bt kn S sp.1 sp.2 b).bind (λsw=>wt kn S (sp.1+1,sw) w)=some sp':=h;cases e:bt kn S sp.1 sp.2 b with
  |none=>rw[e]at h;cases h
  |some sw =>
   rw[e]at h;let⟨a,c⟩:=Ur (w:=w) h (Zpm e g.1);exact⟨a,by rw[c,J0];show sp.1+1+_=_;lia⟩
def Zun:Wm kn S (0,[]):=⟨Jd _,Gc _,.inl rfl⟩
structure RowOk(kn:List (Option Int))(S:List Pr)(r:List Int):Prop where
 len:r.length<=kn.length
 mt:∀(i:Nat)(b:Int),kn[i]?=some (some b)->i<r.length->r[i]?=some b
 no:∀i j,kn[i]?=some none->i<j->j<=r.length->¬ IsWd S ((r.take j).drop i)
def SwOf(kn:List (Option Int))(S:List Pr)(r sw:List Int):Prop :=
 (∃i,i<r.length/\kn[i]?=some none/\sw=r.drop i/\Live S sw/\∀k,k<i->kn[k]?=some none->¬ Live S (r.drop k))\/(sw=[]/\∀k,k<r.length->kn[k]?=some none->¬ Live S (r.drop k))
theorem Zhw{u:List Int}{b:Int}(h:Live S (u++[b])):Live S u:=by
 let⟨w,hw,pre,l⟩:=h;rw[Jc]at l;exact⟨w,hw,(Gn u [b]).trans pre,by have:[b].length=1:=rfl;lia⟩
def Znc{u:List Int}{b:Int}(h:IsWd S (u++[b])):Live S u:=by
 let⟨p,hp,e⟩:=h;exists p.2,Bx hp,by rw[e];exact Gn _ _,?_;rw[e,Jc];exact Fo _
def Znm(h:SwOf kn S r sw):∃i,i<=r.length/\sw=r.drop i/\∀k,k<i->kn[k]?=some none->¬ Live S (r.drop k):=by
 rcases h with⟨i,hi,_,e,_,n⟩|⟨e,n⟩
 .exists i,Br hi,e,n
 .exists r.length,Jd _,by rw[e,List.drop_length],n
theorem Zkb{i:Nat}(hi:i<=r.length)(u:List Int):u∈Xy kn i (r.drop i)↔∃k,i<=k/\k<r.length/\kn[k]?=some none/\u=r.drop k:=by
 unfold Xy;rw[Jq]
 constructor
 .rintro⟨k,hk,rfl⟩;let⟨h1,h2⟩:=G2.mp hk;let h1:=Gw.mp h1;rw[Ga]at h1;exact⟨i+k,(),(),of_decide_eq_true h2,by rw[Fs]⟩
 .rintro⟨k,h1,h2,h3,rfl⟩;refine⟨k-i,G2.mpr ⟨Gw.mpr (by rw[Ga];lia),Du (by rw[show i+(k-i)=k by lia];exact h3)⟩,by rw[Fs,show i+(k-i)=k by lia]⟩
theorem Ze8{xs:List Nat}(f:Nat->τ)(q:τ->Bool)(hs:xs.Pairwise (· < ·)){y:τ}(h:(xs.map f).find? q=some y):∃k∈xs,f k=y/\q y=true/\∀j∈xs,j<k->q (f j)=false:=by
 induction xs with
 |nil=>cases h
 |cons x xs ih =>
  rw[Jp,Gv]at h;cases e:q (f x)with
  |true =>
   rw[e]at h;cases h;exists x,Ji,rfl,e,λj hj l=>?_;rcases Gi.mp hj with z|z
   .lia
   .let:=(Fw.mp hs).1 j z;lia
  |false =>
   rw[e]at h;let⟨k,hk,e1,e2,e3⟩:=ih (Fw.mp hs).2 h;exists k,Jg _ hk,e1,e2,λj hj l=>?_;rcases Gi.mp hj with z|z
   .rw[z];exact e
   .exact e3 j z l
theorem Zsw{b:Int}(ok:RowOk kn S r)(h:SwOf kn S r sw)(hl:r.length<kn.length) :
  (∀sw',bt kn S r.length sw b=some sw'->RowOk kn S (r++[b])/\SwOf kn S (r++[b]) sw')/\(bt kn S r.length sw b=none->¬ RowOk kn S (r++[b])):=by
 let⟨i,hi,rfl,hn⟩:=Znm h;let er:r.drop i++[b]=(r++[b]).drop i:=by rw[List.drop_append_of_le_length hi]
 let lr:(r++[b]).length=r.length+1:=by rw[Jc];rfl
 let ea:r.length+1-(r.drop i++[b]).length=i:=by rw[Jc,Ga];show r.length+1-(r.length-i+1)=i;lia
 let low:∀k,k<i->kn[k]?=some none->¬ Live S ((r++[b]).drop k)/\¬ IsWd S ((r++[b]).drop k):=λk hk e=>by
  rw[List.drop_append_of_le_length ()];exists λz=>hn k hk e (Zhw z),λz=>hn k hk e (Znc z)
 obtain⟨o,eo⟩:∃o,kn[r.length]?=some o:=⟨_,Jb hl⟩;unfold bt;rw[eo,ea,er];dsimp only;let mem:=Zkb (kn:=kn) (r:=r++[b]) (i:=i) ();let wds:(Xy kn i ((r++[b]).drop i)).any (λu=>decide (IsWd S u))=true↔∃k,k<r.length+1/\kn[k]?=some none/\IsWd S ((r++[b]).drop k):=by
  rw[List.any_eq_true]
  constructor
  .rintro⟨u,hu,z⟩;let⟨k,h1,h2,h3,rfl⟩:=(mem u).mp hu;exists k,(),h3,of_decide_eq_true z
  .rintro⟨k,h1,h2,h3⟩;exists _,(mem _).mpr ⟨k,?_,(),h2,rfl⟩,Du h3;exact B7 λz=>(low k z h2).2 h3
 constructor
 .intro sw' hb
  split at hb
  .cases hb
  .rename_i hc
   let hc1:¬ (o.isSome=true/\o≠some b):=λz=>hc (.inl z);let hc2:¬ _:=λz=>hc (.inr (wds.mpr z));cases hb;exists⟨(),λk c e hk=>?_,λk j e h1 h2=>?_⟩,?_
   .by_cases z:k<r.length
    .rw[Js z];exact ok.mt k c e z
    .let:k=r.length:=by lia
     subst this;rw[eo]at e;cases e;rw[J8 (Jd _),B5]
     by_cases hcb:c=b
     .rw[hcb];rfl
     .exact absurd ⟨rfl,λz=>hcb (Dw z)⟩ hc1
   .by_cases z:j<=r.length
    .rw[Bz z];exact ok.no k j e h1 z
    .let:j=r.length+1:=by lia
     subst this;rw[<-lr,Gd];exact λy=>hc2 ⟨k,(),e,y⟩
   .cases f:(Xy kn i ((r++[b]).drop i)).find? (λu=>decide (Live S u))with
    |none =>
     refine .inr ⟨rfl,λk hk e z=>?_⟩
     by_cases hki:k<i
     .exact(low k hki e).1 z
     .exact List.find?_eq_none.mp f _ ((mem _).mpr ⟨k,(),hk,e,rfl⟩) (Du z)
    |some u =>
     unfold Xy at f;let⟨k,hk,rfl,e2,e3⟩:=Ze8 _ _ ((List.pairwise_lt_range (n:=_)).filter _) f;let⟨h1,h2⟩:=G2.mp hk;let h1:=Gw.mp h1;rw[Ga]at h1;refine .inl ⟨i+k,(),of_decide_eq_true h2,by rw[Fs];rfl,of_decide_eq_true e2,λj hj e z=>?_⟩
     by_cases hji:j<i
     .exact(low j hji e).1 z
     .let:=e3 (j-i) (G2.mpr ⟨Gw.mpr (by rw[Ga];lia),Du (by rw[show i+(j-i)=j by lia];exact e)⟩) ();rw[Fs,show i+(j-i)=j by lia]at this;exact of_decide_eq_false this z
 .intro hb ok'
  split at hb
  .rename_i hc
   rcases hc with⟨h1,h2⟩|hc
   .cases o with
    |none=>cases h1
    |some c =>
     let:=ok'.mt r.length c eo ();rw[J8 (Jd _),B5]at this;exact h2 this.symm
   .let⟨k,h1,h2,h3⟩:=wds.mp hc;let:=ok'.no k (r.length+1) h2 h1 ();rw[<-lr,Gd]at this;exact this h3
  .cases hb
theorem RowOk.less{b:Int}(h:RowOk kn S (r++[b])):RowOk kn S r:=by
 let lr:(r++[b]).length=r.length+1:=by rw[Jc];rfl
 exists by have:=h.len;lia,λi c e hi=>?_,λi j e h1 h2=>?_
 .let:=h.mt i c e ();rwa [Js hi]at this
 .let:=h.no i j e h1 ();rwa [Bz h2]at this
def Zn3{Q:List τ->Prop}(h0:Q [])(h1:∀r b,Q r->Q (r++[b]))(r:List τ):Q r:=by
 let go:∀r:List τ,Q r.reverse:=λr=>by
  induction r with
  |nil=>exact h0
  |cons b r ih=>rw[B2];exact h1 _ b ih
 let:=go r.reverse;rwa [List.reverse_reverse]at this
theorem Zlm(r:List Int):(∀sp,wt kn S (0,[]) r=some sp->sp.1=r.length/\RowOk kn S r/\SwOf kn S r sp.2)/\(wt kn S (0,[]) r=none->¬ RowOk kn S r):=by
 refine Zn3 (Q:=λr=>(∀sp,wt kn S (0,[]) r=some sp->sp.1=r.length/\RowOk kn S r/\SwOf kn S r sp.2)/\(wt kn S (0,[]) r=none->¬ RowOk kn S r)) ?_ (λr b ih=>?_) r
 .refine⟨λsp h=>?_,λh=>by cases h⟩;cases h;exists rfl,⟨Gc _,(λ_ _ _ h=>nomatch h),λi j _ h1 h2=>by have:j=0:=Nat.le_zero.mp h2;lia⟩,.inr ⟨rfl,λk h=>nomatch h⟩
 .rw[Qu];cases e:wt kn S (0,[]) r with
  |none=>exact⟨λsp h=>(by cases h),λ_ ok=>ih.2 e ok.less⟩
  |some sp =>
   let⟨h1,h2,h3⟩:=ih.1 sp e;let lr:(r++[b]).length=r.length+1:=by rw[Jc];rfl
   show(∀sp',(bt kn S sp.1 sp.2 b).bind (λsw=>some (sp.1+1,sw))=some sp'->_)/\((bt kn S sp.1 sp.2 b).bind (λsw=>some (sp.1+1,sw))=none->_);rw[h1]
   by_cases hl:r.length<kn.length
   .let⟨a,c⟩:=Zsw (b:=b) h2 h3 hl;cases eb:bt kn S r.length sp.2 b with
    |none=>exact⟨λsp' h=>(by cases h),λ_=>c eb⟩
    |some sw =>
     let⟨a1,a2⟩:=a sw eb;refine⟨λsp' h=>?_,λh=>by cases h⟩;cases h;exists by rw[lr],a1,a2
   .let:bt kn S r.length sp.2 b=none:=by
     cases eb:bt kn S r.length sp.2 b with
     |none=>rfl
     |some sw=>exact absurd (Zsx eb) hl
    rw[this];exact⟨λsp' h=>(by cases h),λ_ ok=>by have:=ok.len;lia⟩
def kn1(S:List Pr):Option Int->Option (List (Option Int))
 |none=>some [none]
 |some s=>(S.find? λp=>decide (p.1=s)).map λp=>p.2.map some
def knF(S:List Pr):List (Option Int)->Option (List (Option Int))
 |[]=>some []
 |e::E=>match kn1 S e,knF S E with|some a,some b=>some (a++b)|_,_=>none
theorem T9:∀(E F:List (Option Int)),knF S (E++F)=match knF S E,knF S F with|some a,some b=>some (a++b)|_,_=>none
 |[],F=>by
  show knF S F=match some [],knF S F with|some a,some b=>some (a++b)|_,_=>none
  cases knF S F<;>rfl
 |e::E,F=>by
  show(match kn1 S e,knF S (E++F)with|some a,some b=>some (a++b)|_,_=>none)=match(match kn1 S e,knF S E with|some a,some b=>some (a++b)|_,_=>none),knF S F with|some a,some b=>some (a++b)|_,_=>none
  rw[T9 E F];cases kn1 S e with
  |none=>rfl
  |some a =>
   cases knF S E with
   |none=>rfl
   |some b =>
    cases knF S F with
    |none=>rfl
    |some c=>show some (a++(b++c))=some (a++b++c);rw[Jn]
theorem Vy(fr:Free S){p:Pr}(hp:p∈S):S.find? (λq=>decide (q.1=p.1))=some p:=by
 induction S with
 |nil=>cases hp
 |cons q S ih =>
  let⟨h1,h2⟩:=Fw.mp fr;rw[Gv];rcases Gi.mp hp with z|z
  .subst z;rw[Du rfl]
  .rw[Dv (h1 p z).1];exact ih h2 z
def Nf(fr:Free S){p:Pr}(hp:p∈S):kn1 S (some p.1)=some (p.2.map some):=by
 show(S.find? λq=>decide (q.1=p.1)).map (λp=>p.2.map some)=_;rw[Vy fr hp];rfl
theorem Nd(e:Option Int):knF S [e]=kn1 S e:=by
 show(match kn1 S e,some []with|some a,some b=>some (a++b)|_,_=>none)=_;cases kn1 S e with
 |none=>rfl
 |some a=>show some (a++[])=_;rw[Gm]
def P0(R:List En)(e:En):osOf (R++[e])=osOf R++[e.2]:=by unfold osOf;rw[Jk];rfl
theorem Zfs(fr:Free S)(h:Went S r R pl):∃kn,knF S (osOf R)=some kn/\kn.length=pl/\(∀(i:Nat)(b:Int),kn[i]?=some (some b)->r[i]?=some b)/\∀i,kn[i]?=some none->∀p∈S,¬ p.2<+:r.drop i:=by
 induction h with
 |nil=>exact⟨[],rfl,rfl,(λ_ _ h=>nomatch h),(λ_ h=>nomatch h)⟩
 | @lost R pl w hl hn ih =>
  let⟨kn,e1,e2,e3,e4⟩:=ih;exists kn++[none],?_,by rw[Jc,e2];rfl,λi b e=>?_,λi e=>?_
  .rw[P0,T9,e1,Nd];rfl
  .by_cases z:i<kn.length
   .rw[Js z]at e;exact e3 i b e
   .rw[J8 (B7 z)]at e;cases hk:i-kn.length with
    |zero=>rw[hk]at e;cases e
    |succ k=>rw[hk]at e;cases e
  .by_cases z:i<kn.length
   .rw[Js z]at e;exact e4 i e
   .let⟨hi,_⟩:=Je.mp e;rw[Jc]at hi;let:i=pl:=by have:[none (α:=Int)].length=1:=rfl;lia
    rw[this];exact hn
 | @word R pl p w hp pre ne ih =>
  let⟨kn,e1,e2,e3,e4⟩:=ih;exists kn++p.2.map some,?_,by rw[Jc,e2,Ja],λi b e=>?_,λi e=>?_
  .rw[P0,T9,e1,Nd,Nf fr hp]
  .by_cases z:i<kn.length
   .rw[Js z]at e;exact e3 i b e
   .rw[J8 (B7 z),Ge]at e;let⟨c,hc,e⟩:=G7.mp e;cases e;let⟨t,ht⟩:=pre;let:(r.drop pl)[i-pl]?=some b:=by
     rw[<-ht,Js (by rw[<-e2];exact(Je.mp hc).1),<-e2];exact hc
    rw[List.getElem?_drop,show pl+(i-pl)=i by lia]at this;exact this
  .by_cases z:i<kn.length
   .rw[Js z]at e;exact e4 i e
   .rw[J8 (B7 z),Ge]at e;let⟨c,_,e⟩:=G7.mp e;cases e
theorem Zcj(fr:Free S)(ne:∀p∈S,p.2≠[]) :∀{F E:List (Option Int)}{kn kn0:List (Option Int)}{R:List En},knF S F=some kn->kn0++kn=E->RowOk E S r->r.length=E.length->Went S r R kn0.length->∃R',osOf R'=osOf R++F/\Told S r R'
 |[],E,kn,kn0,R,h,e,ok,hl,w=>by
  cases h;rw[Gm]at e;exact⟨R,by rw[Gm],_,w,by rw[e,hl];exact Jd _⟩
 |none::F,E,kn,kn0,R,h,e,ok,hl,w=>by
  let h:(match some [none],knF S F with|some a,some b=>some (a++b)|_,_=>none)=some kn:=h;cases hF:knF S F with
  |none=>rw[hF]at h;cases h
  |some k2 =>
   rw[hF]at h;cases h;let e':(kn0++[none])++k2=E:=by rw[Jn];exact e
   let at0:E[kn0.length]?=some none:=by rw[<-e,J8 (Jd _),B5];rfl
   let lt:=(Je.mp at0).1;let w2:Went S r (R++[(kn0.length,none)]) (kn0.length+1):=.lost w () λp hp pre=>by
    let⟨t,ht⟩:=pre;let pl:=Gh.mpr (ne p hp);let lw:kn0.length+p.2.length<=r.length:=by have:=congrArg Ex ht;rw[Jc,Ga]at this;lia
    refine ok.no kn0.length (kn0.length+p.2.length) at0 () lw ⟨p,hp,?_⟩;rw[Dj,<-ht,show kn0.length+p.2.length-kn0.length=p.2.length by lia,Bw]
   let⟨R',a,b⟩:=Zcj fr ne (F:=F) (kn0:=kn0++[none]) hF e' ok hl (by rw[Jc];exact w2);exists R',by rw[a,P0,Jn];rfl,b
 |some s::F,E,kn,kn0,R,h,e,ok,hl,w=>by
  let h:(match(S.find? λp=>decide (p.1=s)).map (λp=>p.2.map some),knF S F with|some a,some b=>some (a++b)|_,_=>none)=some kn:=h;cases h1:S.find? (λp=>decide (p.1=s))with
  |none=>rw[h1]at h;cases h
  |some p =>
   let hp:=List.mem_of_find?_eq_some h1;let es:=List.find?_some h1;let es:p.1=s:=of_decide_eq_true es;cases hF:knF S F with
   |none=>rw[h1,hF]at h;cases h
   |some k2 =>
    rw[h1,hF]at h;cases h;let e':(kn0++p.2.map some)++k2=E:=by rw[Jn];exact e
    let lw:kn0.length+p.2.length<=r.length:=by rw[hl,<-e',Jc,Jc,Ja];lia
    let pre:p.2<+:r.drop kn0.length:=by
     exists(r.drop kn0.length).drop p.2.length,?_
     conv=>rhs;rw[<-Jx p.2.length (r.drop kn0.length)]
     congr 1
     apply Mc
     intro i
     by_cases hi:i<p.2.length
     .rw[Ht hi,List.getElem?_drop,Jb hi];refine(ok.mt (kn0.length+i) p.2[i] ?_ ()).symm;rw[<-e',Js (by rw[Jc,Ja];lia),J8 (),Ge,show kn0.length+i-kn0.length=i by lia,Jb hi];rfl
     .rw[Bh (),Bh (by rw[Jv];lia)]
    let w2:Went S r (R++[(kn0.length,some p.1)]) (kn0.length+p.2.length):=.word w hp pre (ne p hp);let⟨R',a,b⟩:=Zcj fr ne (F:=F) (kn0:=kn0++p.2.map some) hF e' ok hl (by rw[Jc,Ja];exact w2);exists R',by rw[a,P0,es,Jn];rfl,b
theorem Zb9(fr:Free S)(ne:∀p∈S,p.2≠[]){E:List (Option Int)}(hk:knF S E=some kn) :(∃R,Told S r R/\osOf R=E)↔r.length=kn.length/\(wt kn S (0,[]) r).isSome=true:=by
 constructor
 .rintro⟨R,⟨pl,w,l⟩,e⟩;let⟨k2,a1,a2,a3,a4⟩:=Zfs fr w;rw[e,hk]at a1;cases a1;let hl:r.length=kn.length:=by have:=w.le;lia
  exists hl,?_;cases q:wt kn S (0,[]) r with
  |some _=>rfl
  |none =>
   refine absurd ⟨(),λi b e _=>a3 i b e,λi j e h1 h2⟨p,hp,z⟩=>a4 i e p hp ?_⟩ ((Zlm r).2 q);rw[z,Dj];exact Fq _ _
 .rintro⟨hl,q⟩;let⟨sp,q⟩:=Option.isSome_iff_exists.mp q;let⟨_,ok,_⟩:=(Zlm r).1 sp q;let⟨R',a,b⟩:=Zcj fr ne (kn0:=[]) (R:=[]) hk rfl ok hl .nil;exists R',b,a
def Zdu(fr:Free S){E:List (Option Int)}(hk:knF S E=none) :¬ ∃R,Told S r R/\osOf R=E:=λ⟨R,⟨pl,w,l⟩,e⟩=>by
 let⟨k2,a1,_⟩:=Zfs fr w;rw[e,hk]at a1;cases a1
end
def tx'(P:List Pr):Nat->List (List Pr)
 |0=>[[]]
 |n+1=>P.flatMap λp=>if h:p.2≠[]/\p.2.length<=n+1 then(tx' P (n+1-p.2.length)).map (p::·)else []
termination_by n=>n
decreasing_by have:=Gh.mpr h.1;lia
def NeW(P:List Pr):Prop:=∀p∈P,p.2≠[]
def row_cons(p:Pr)(U:List Pr):Zu (p::U)=p.2++Zu U:=rfl
theorem Q1{P:List Pr}(ne:NeW P):∀(U:List Pr)(n:Nat),U∈tx' P n↔(∀p∈U,p∈P)/\(Zu U).length=n
 |[],0=>by rw[tx'];exists λ_=>⟨(λ_ h=>nomatch h),rfl⟩,λ_=>Jf.mpr rfl
 |p::U,0=>by
  rw[tx',Jf];exists λh=>(nomatch h),λhz=>?_;let⟨h1,h2⟩:=hz;let:=Gh.mpr (ne p (h1 p Ji));rw[row_cons,Jc]at h2;lia
 |[],n+1=>by
  rw[tx',B8];exists λhz=>?_,λ⟨_,h⟩=>nomatch h;let⟨p,_,h⟩:=hz
  split at h
  .let⟨V,_,e⟩:=Jq.mp h;cases e
  .cases h
 |p::U,n+1=>by
  rw[tx',B8]
  constructor
  .rintro⟨q,hq,h⟩
   split at h
   .rename_i hc
    let⟨V,hV,e⟩:=Jq.mp h;cases e;let⟨h1,h2⟩:=(Q1 ne U _).mp hV;exists λx hx=>(Gi.mp hx).elim (λz=>by rw[z];exact hq) (h1 x),?_;rw[row_cons,Jc,h2];lia
   .cases h
  .rintro⟨h1,h2⟩;rw[row_cons,Jc]at h2;let hp:=h1 p Ji;exists p,hp,?_;rw[dif_pos ⟨ne p hp,()⟩];exact Bx ((Q1 ne U _).mpr ⟨λx hx=>h1 x (Jg _ hx),()⟩)
theorem Zjs{P:List Pr}(nd:P.Nodup):∀n,(tx' P n).Nodup:=λn=>by
 induction n using Nat.strongRecOn with
 |ind n ih =>
  cases n with
  |zero=>rw[tx'];exact Bo _ _
  |succ n =>
   rw[tx'];unfold List.Nodup;rw[Ja8];exists λp hp=>?_,nd.imp λ{a b}hab x hx y hy e=>?_
   .split
    .rename_i hc
     let:=Gh.mpr hc.1;exact Jz.mpr ((ih _ ()).imp λh z=>h (List.cons.inj z).2)
    .exact .nil
   .split at hx
    .split at hy
     .let⟨V,_,rfl⟩:=Jq.mp hx;let⟨W,_,rfl⟩:=Jq.mp hy;exact hab (List.cons.inj e).1
     .cases hy
    .cases hx
def Free.nd{P:List Pr}(h:Free P):P.Nodup:=h.imp λa e=>a.1 (by rw[e])
theorem Zdd(fr:Free L)(ne:NeW L):∀{U V:List Pr},(∀p∈U,p∈L)->(∀p∈V,p∈L)->Zu U=Zu V->U=V
 |[],[],_,_,_=>rfl
 |[],q::V,_,hV,e=>by
  let:=congrArg Ex e;rw[row_cons,Jc]at this;let:=Gh.mpr (ne q (hV q Ji));let:(Zu ([]:List Pr)).length=0:=rfl;lia
 |p::U,[],hU,_,e=>by
  let:=congrArg Ex e;rw[row_cons,Jc]at this;let:=Gh.mpr (ne p (hU p Ji));let:(Zu ([]:List Pr)).length=0:=rfl;lia
 |p::U,q::V,hU,hV,e=>by
  rw[row_cons,row_cons]at e;let hp:=hU p Ji;let hq:=hV q Ji;let epq:p=q:=by
   by_cases z:p=q
   .exact z
   .let ap:Zjl p q\/Zjl q p:=by
     let⟨i,hi,rfl⟩:=Gg hp;let⟨j,hj,rfl⟩:=Gg hq;rcases Nat.lt_trichotomy i j with h|h|h
     .exact .inl (fr.get hi hj h)
     .subst h;exact absurd rfl z
     .exact .inr (fr.get hj hi h)
    rcases Ko (show p.2<+:p.2++Zu U from Gn _ _) (by rw[e];exact Gn _ _:q.2<+:p.2++Zu U)with h|h
    .rcases ap with a|a
     .exact absurd h a.2.1
     .exact absurd h a.2.2
    .rcases ap with a|a
     .exact absurd h a.2.2
     .exact absurd h a.2.1
  subst epq;rw[Zdd fr ne (λx hx=>hU x (Jg _ hx)) (λx hx=>hV x (Jg _ hx)) (List.append_cancel_left e)]
def stF(kn:List (Option Int))(S P:List Pr)(sp:Spot):List (Int×Spot):=P.filterMap λp=>(wt kn S sp p.2).map λq=>(p.1,q)
def cnt(kn:List (Option Int))(S P:List Pr)(sp:Spot):Nat:=((tx' P (kn.length-sp.1)).filter λU=>(wt kn S sp (Zu U)).isSome).length
section
variable{P:List Pr}
def Zi5{sp:Spot}(h:sp.1=kn.length):cnt kn S P sp=1:=by
 unfold cnt;rw[h,B5,tx'];rfl
def Zlv{sp q:Spot}{s:Int}(h:(s,q)∈stF kn S P sp):∃p∈P,p.1=s/\wt kn S sp p.2=some q:=by
 let⟨p,hp,e⟩:=List.mem_filterMap.mp h;let⟨q',e1,e2⟩:=G7.mp e;cases e2;exists p,hp,rfl,e1
theorem Zty(ne:NeW P){sp:Spot}{x:Int×Spot}(g:Wm kn S sp)(h:x∈stF kn S P sp):Wm kn S x.2/\sp.1<x.2.1:=by
 let⟨p,hp,_,e⟩:=Zlv (s:=x.1) (q:=x.2) h;let⟨a,b⟩:=Ur e g;let:=Gh.mpr (ne p hp);exact⟨a,()⟩
theorem Zpk(ne:NeW P){sp:Spot}(g:Wm kn S sp)(h:sp.1<kn.length):cnt kn S P sp=((stF kn S P sp).map λx=>cnt kn S P x.2).sum:=by
 let e1:((stF kn S P sp).map λx=>cnt kn S P x.2).sum=(P.map λp=>match wt kn S sp p.2 with|some q=>cnt kn S P q|none=>0).sum:=by
  unfold stF;generalize cnt kn S P=f
  induction P with
  |nil=>rfl
  |cons p P ih =>
   rw[Jp,Dl,Es,<-ih λq hq=>ne q (Jg _ hq)];cases wt kn S sp p.2 with
   |none=>show _=0+_;rw[Fg];rfl
   |some q=>rw[Option.map_some];dsimp only;rw[List.map_cons,List.sum_cons]
 rw[e1];show((tx' P (kn.length-sp.1)).filter λU=>(wt kn S sp (Zu U)).isSome).length=_;obtain⟨m,hm⟩:∃m,kn.length-sp.1=m+1:=⟨kn.length-sp.1-1,()⟩;rw[hm,tx',List.filter_flatMap,B4]
 congr 1
 refine Bf λp hp=>?_
 split
 .rename_i hc
  rw[List.filter_map,Ja];let ef:((λU=>(wt kn S sp (Zu U)).isSome) ∘ λx=>p::x)=λU=>((wt kn S sp p.2).bind λq=>wt kn S q (Zu U)).isSome:=by
   funext U
   show(wt kn S sp (p.2++Zu U)).isSome=_;rw[Qu]
  rw[ef];cases e:wt kn S sp p.2 with
  |none=>show(List.filter (λ_=>false) _).length=0;rw[List.filter_eq_nil_iff.mpr λ_ _ z=>Bool.noConfusion z];rfl
  |some q =>
   let hq:=(Ur e g).2;show _=((tx' P (kn.length-q.1)).filter _).length;rw[hq,show kn.length-(sp.1+p.2.length)=m+1-p.2.length by lia];rfl
 .rename_i hc
  cases e:wt kn S sp p.2 with
  |none=>rfl
  |some q =>
   let⟨a,b⟩:=Ur e g;exact absurd ⟨ne p hp,by have:=a.2.1;lia⟩ hc
def befs(S:List Pr):List (List Int):=S.flatMap λp=>(Co p.2.length).map p.2.take
def Zli(kn:List (Option Int))(S:List Pr):List Spot:=(Co (kn.length+1)).flatMap λp=>([]::befs S).map λu=>(p,u)
theorem Zk3{sp:Spot}(g:Wm kn S sp):sp∈Zli kn S:=by
 unfold Zli;rw[B8];exists sp.1,Gw.mpr (by have:=g.2.1;lia),Jq.mpr ⟨sp.2,?_,rfl⟩;rcases g.2.2 with z|⟨w,hw,pre,l⟩
 .rw[z];exact Ji
 .refine Jg _ (B8.mpr ?_);let⟨p,hp,rfl⟩:=Jq.mp hw;exists p,hp,Jq.mpr ⟨sp.2.length,Gw.mpr l,(List.prefix_iff_eq_take.mp pre).symm⟩
theorem W3{f:τ->Nat}{n:Nat}:∀{xs:List τ},(∀x∈xs,f x<=n)->(xs.map f).sum<=xs.length*n
 |[],_=>Gc _
 |x::xs,h=>by
  rw[Jp,Dl,J0,Jd3];let:=W3 (λy hy=>h y (Jg _ hy):∀y∈xs,f y<=n);let:=h x Ji;lia
theorem Zpq(fi:Fits S)(hk:kn.length<=200):(Zli kn S).length<=51000:=by
 let h1:(befs S).length<=63*4:=by
  unfold befs;rw[B4];refine J9 (W3 (n:=4) λp hp=>?_) (K1 4 (by have:=fi.1;lia));rw[Ja,Bd];exact(fi.2 p hp).2
 unfold Zli;rw[B4];refine J9 (W3 (n:=253) λp hp=>?_) ?_
 .rw[Ja,J0];lia
 .rw[Bd];exact J9 (K1 253 (show kn.length+1<=201 by lia)) nofun
structure KeysOk(kn:List (Option Int))(S P:List Pr)(ks:List Spot):Prop where
 nd:ks.Nodup
 gd:∀sp∈ks,Wm kn S sp
 st:(0,[])∈ks
 cl:∀sp∈ks,∀x∈stF kn S P sp,x.2∈ks
 rc:∀sp∈ks,∃U:List Pr,(∀p∈U,p∈P)/\wt kn S (0,[]) (Zu U)=some sp
def Zd3(fi:Fits S)(hk:kn.length<=200){ks:List Spot}(nd:ks.Nodup)(gd:∀sp∈ks,Wm kn S sp):ks.length<=51000:=J9 (P4 nd λx hx=>Zk3 (gd x hx)) (Zpq fi hk)
end
def Xt(S:List Pr):List Pr:=S.mergeSort λa b=>decide (a.1<=b.1)
def Xu(S:List Pr):(Xt S).Perm S:=List.mergeSort_perm _ _
def Zi8(S:List Pr):(Xt S).Pairwise λa b=>a.1<=b.1:=(List.pairwise_mergeSort (le:=λa b:Pr=>decide (a.1<=b.1)) (λa b c h1 h2=>Du (Jd5 (of_decide_eq_true h1) (of_decide_eq_true h2))) (λa b=>by rcases Int.le_total a.1 b.1 with z|z<;>simp[z]) S).imp of_decide_eq_true
def Za9(pm:ns.Perm (S.map (·.1)))(pw:ns.Pairwise (·<=·)):ns=(Xt S).map (·.1) :=
 List.Perm.eq_of_pairwise (λa b _ _ h1 h2=>Int.le_antisymm h1 h2) pw (Jz.mpr (Zi8 S)) (pm.trans ((Xu S).map _).symm)
def spN(sp:Spot):List NI:=[.k sp.1,.t sp.2]
def Zbu{a b:Spot}(h:spN a=spN b):a=b:=by
 unfold spN at h;injection h with h1 h2
 injection h2 with h2 _
 injection h1 with h1
 injection h2 with h2
 exact Prod.ext (Int.ofNat.inj h1) h2
def stpD(x:Int×Spot):D:=.tup [.int x.1,.nst (spN x.2)]
def kvN(f:Spot->D)(ks:List Spot):List (List NI×D):=ks.map λsp=>(spN sp,f sp)
theorem Vv{f:Spot->D}{sp:Spot}:∀{ks:List Spot},sp∈ks->Pk (kvN f ks) (spN sp)=some (f sp)
 |k::ks,h=>by
  unfold Pk kvN;rw[Jp,Gv]
  by_cases e:k=sp
  .rw[e,Du rfl];rfl
  .rw[Dv λz=>e (Zbu z)];exact Vv ((Gi.mp h).resolve_left λz=>e z.symm)
theorem Zmj{f:Spot->D}{sp:Spot}:∀{ks:List Spot},sp∉ks->Pk (kvN f ks) (spN sp)=none
 |[],_=>rfl
 |k::ks,h=>by
  unfold Pk kvN;rw[Jp,Gv,Dv λz=>h (by rw[Zbu z];exact Ji)];exact Zmj λz=>h (Jg _ z)
def Nb{f:Spot->D}{sp:Spot}{ks:List Spot}(h:sp∉ks):Zad (kvN f ks) (spN sp) (f sp)=kvN f (ks++[sp]):=by
 let e:((kvN f ks).any λx=>decide (x.1=spN sp))=false:=by
  rw[List.any_eq_false];intro x hx;let⟨k,hk,rfl⟩:=Jq.mp hx;rw[decide_eq_true_iff];exact λz=>h (by rw[<-Zbu z];exact hk)
 unfold Zad;rw[e,Ds Jt];unfold kvN;rw[Jk];rfl
def T8(f:Spot->D)(ks:List Spot):(kvN f ks).length=ks.length:=Ja _
def stD3(kn:List (Option Int))(S P:List Pr)(sp:Spot):D:=.lst ((stF kn S P sp).map stpD)
def Zf9(C:Addr):Sp:=λvs H Q _=>∃(x r:Addr)(S:List Pr)(ns:List Int),vs=[.ref x,.ref r]/\Uq C H x S/\H r=some (.tup (ns.map V.int))/\Q (.bl (decide (Live S ns))) H
section
def Zmu:Sp3:=λds M K=>∃(S:List Pr)(ns:List Int),ds=[.code S,.tup (ns.map .int)]/\K (.bl (decide (Live S ns))) M
def Zpt{E:XK}(h:spOf C Zmu vs H Q E):Zf9 C.c vs H Q E:=by
 let⟨Z,I,α,M,ds,K,R,r,⟨S,ns,rfl,h⟩,kk⟩:=h;refine Reps.e2 r λ_ _ r1 r2=>?_;let⟨_,rfl,hc⟩:=r1.inv;let⟨a,va,rfl,ea,_,ra⟩:=Ui R r2 rfl;rw[ra.of_ints ns]at ea;exists _,a,S,ns,rfl,hc.same R.sub,ea,kk _ _ I α H M (.refl _) (Jo _) R (.bl _) h
end
def Zij(q:τ->Bool){xs:List τ}{i:Nat}(hi:i<xs.length)(c:Bool)(h:q xs[i]=c):(xs.take (i+1)).filter q=(xs.take i).filter q++(if c=true then [xs[i]]else []):=by
 rw[Jh hi,Dg,Mq,h];cases c<;>rfl
def X0(q:τ->Bool)(f:τ->υ){xs:List τ}{i:Nat}(hi:i<xs.length)(c:Bool)(h:q xs[i]=c):((xs.take (i+1)).filter q).map f=((xs.take i).filter q).map f++(if c=true then [f xs[i]]else []):=by
 rw[Jh hi,Dg,Jk,Mq,h];cases c<;>rfl
theorem Zon{d:D}{x:List Int}(h:itOf d=some x):niOf d=some (.t x):=by
 cases d with
 |itp y=>cases h;rfl
 |tup ds=>show(itOf (.tup ds)).map NI.t=_;rw[h];rfl
 |_=>cases h
def Zeh{n:Nat}{xs:List (Int×Spot)}:Ye n (.lst (xs.map stpD)):=Tv (Wk (λ_=>Zbf (Sf Wl (Sf Zbg Zbh))) xs)
def Zm5{sp sp':Spot}{w:List Int}{i:Nat}(hi:i<w.length)(h:wt kn S sp (w.take i)=some sp'):wt kn S sp (w.take (i+1))=(bt kn S sp'.1 sp'.2 w[i]).map (λsw=>(sp'.1+1,sw))/\(bt kn S sp'.1 sp'.2 w[i]=none->wt kn S sp w=none):=by
 let e1:wt kn S sp (w.take (i+1))=(bt kn S sp'.1 sp'.2 w[i]).map (λsw=>(sp'.1+1,sw)):=by
  rw[Jh hi,Qu,h];show(bt kn S sp'.1 sp'.2 w[i]).bind (λsw=>some (sp'.1+1,sw))=_;cases bt kn S sp'.1 sp'.2 w[i]<;>rfl
 exists e1,λe=>?_;rw[<-Jx (i+1) w,Qu,e1,e];rfl
def Zmv:Sp3:=λds M K=>∃(S:List Pr)(d:D)(E:List (Option Int)),ds=[.code S,d]/\lsOf M d=some (E.map oD)/\(Free S/\Fits S/\E.length<=50)/\(knF S E=none->K .non M)/\∀kn,knF S E=some kn->K (.cell M.length) (M++[.lst (kn.map oD)])
def Zmy:Sp3:=λds M K=>∃(S:List Pr)(d:D)(kn:List (Option Int))(p:Nat)(sw:List Int)(b:Int),ds=[.code S,.lst (kn.map oD),.int p,d,.int b]/\itOf d=some sw/\(p<kn.length/\sw.length<=p/\kn.length<=200)/\(bt kn S p sw b=none->K .non M)/\∀sw',bt kn S p sw b=some sw'->K (.tup (sw'.map .int)) M
def Zmp:Sp3:=λds M K=>∃(S:List Pr)(kn:List (Option Int))(sp:Spot)(w:List Int),ds=[.code S,.lst (kn.map oD),.nst (spN sp),wD w]/\(Wm kn S sp/\w.length<=4/\kn.length<=200)/\(wt kn S sp w=none->K .non M)/\∀q,wt kn S sp w=some q->K (.nst (spN q)) M
def Zec:Sp3:=λds M K=>∃(S1 S:List Pr)(kn:List (Option Int))(sp:Spot),ds=[.code S1,.code S,.lst (kn.map oD),.nst (spN sp)]/\(Wm kn S sp/\Free S1/\Fits S1/\kn.length<=200)/\K (stD3 kn S (Xt S1) sp) M
def Zmz:Sp3:=λds M K=>∃(S1 S:List Pr)(kn:List (Option Int)),ds=[.code S1,.code S,.lst (kn.map oD)]/\(Free S1/\Fits S1/\Fits S/\kn.length<=200)/\∀ks,KeysOk kn S (Xt S1) ks->K (.cell M.length) (M++[.dcN [0,1] none (kvN (stD3 kn S (Xt S1)) ks)])
def cntD(kn:List (Option Int))(S P:List Pr)(sp:Spot):D:=.int (cnt kn S P sp)
def Nw:Sp3:=λds M K=>∃(c:Nat)(y:Option (Obj×List Nkv))(S P:List Pr)(kn:List (Option Int))(ks:List Spot)(n:Int),ds=[.cell c,.int n]/\M[c]?=some (.dcN [0,1] y (kvN (stD3 kn S P) ks))/\(ks.Nodup/\(∀sp∈ks,Wm kn S sp)/\(∀sp∈ks,∀x∈stF kn S P sp,x.2∈ks)/\NeW P/\P.length<64/\ks.length<=51000/\(ks≠[]->n=kn.length))/\∀kb,kb.Perm ks->K (.cell M.length) (M++[.dcN [0,1] none (kvN (cntD kn S P) kb)])
def stL3(kn:List (Option Int))(S P:List Pr)(sp:Spot):D:=.lst (((stF kn S P sp).filter λx=>decide (0<cnt kn S P x.2)).map stpD)
def LvAt(XL:Addr)(M:Mem)(x:Nat)(S1 S:List Pr)(E:List (Option Int)):Prop:=∃(b s:Nat)(n:Int)(kn:List (Option Int))(ks kb:List Spot),M[x]?=some (.ins XL [("size",.int n),("behind",.cell b),("steps",.cell s)])/\M[b]?=some (.dcN [0,1] none (kvN (cntD kn S (Xt S1)) kb))/\M[s]?=some (.dcN [0,1] none (kvN (stL3 kn S (Xt S1)) ks))/\kb.Perm ks /\
 (match knF S E with|none=>n=0/\ks=[]|some kn'=>kn=kn'/\n=kn.length/\KeysOk kn S (Xt S1) ks)
def Sk(S1 S:List Pr)(E:List (Option Int)):Nat:=match knF S E with|none=>0|some kn=>cnt kn S (Xt S1) (0,[])
def LvIn(S1 S:List Pr)(E:List (Option Int)):Prop:=Free S1/\Fits S1/\Free S/\Fits S/\E.length<=50
def Zsq(XL:Addr):Sp3:=λds M K=>∃(x:Nat)(S1 S:List Pr)(d:D)(E:List (Option Int)),ds=[.cell x,.code S1,.code S,d]/\M[x]?=some (.ins XL [])/\lsOf M d=some (E.map oD)/\LvIn S1 S E/\∀M',(∃o J,M'=M.set x o++J)->LvAt XL M' x S1 S E->K .non M'
def Zmq(XL:Addr):Sp3:=λds M K=>∃(x:Nat)(S1 S:List Pr)(E:List (Option Int)),ds=[.cell x]/\LvAt XL M x S1 S E/\K (.int (Sk S1 S E)) M
def Zmt:Sp3:=λds M K=>∃(S1 S:List Pr)(d:D)(E:List (Option Int)),ds=[.code S1,.code S,d]/\lsOf M d=some (E.map oD)/\LvIn S1 S E/\K (.int (Sk S1 S E)) M
theorem Px(bs:List Int):∀n,(Sl bs n).length=bs.length ^ n
 |0=>rfl
 |n+1=>by
  rw[Sl,B4,Nat.pow_succ,<-Px bs n];generalize Sl bs n=xs
  induction xs with
  |nil=>rw[Lr,List.sum_nil,Bl,Nat.zero_mul]
  |cons x xs ih=>rw[Jp,Dl,ih,Ja,J0,Jd3,Jd4]
def FewB(bs:List Int)(n:Nat):Prop:=(bs.length<=2/\n<=6)\/(bs.length<=3/\n<=4)
theorem N5{bs:List Int}(tb:TbK L bs){n:Nat}(hb:FewB bs n){G:List (List Pr)}(nd:G.Nodup)(h:∀U∈G,(∀p∈U,p∈L)/\(Zu U).length<=n):G.length<=448:=by
 let ne:NeW L:=λp hp=>(tb.fi.2 p hp).1;let n2:(G.map Zu).Nodup:=Jz.mpr (nd.imp_of_mem λ{U V}hU hV hn e=>hn (Zdd tb.fr ne (h U hU).1 (h V hV).1 e));let hm:∀r∈G.map Zu,r∈(Co (n+1)).flatMap (Sl bs):=λr hr=>by
  let⟨U,hU,rfl⟩:=Jq.mp hr;let⟨h1,h2⟩:=h U hU;refine B8.mpr ⟨(Zu U).length,Gw.mpr (),(P7 _ _).mpr ⟨rfl,λb hb=>?_⟩⟩;let⟨w,hw,hb⟩:=List.mem_flatten.mp hb;let⟨p,hp,rfl⟩:=Jq.mp hw;exact tb.by_ p (h1 p hp) b hb
 let:=P4 n2 hm;rw[Ja,B4]at this;refine J9 this ?_;rcases hb with⟨b2,n6⟩|⟨b3,n4⟩
 .refine J9 (W3 (n:=64) λm hm=>?_) (by rw[Bd];lia);rw[Px];let:=Gw.mp hm;exact J9 (Nat.pow_le_pow_left b2 m) (J9 (Nat.pow_le_pow_right nofun (show m<=6 by lia)) nofun)
 .refine J9 (W3 (n:=81) λm hm=>?_) (by rw[Bd];lia);rw[Px];let:=Gw.mp hm;exact J9 (Nat.pow_le_pow_left b3 m) (J9 (Nat.pow_le_pow_right nofun (show m<=4 by lia)) nofun)
structure Lvl(L:List Pr)(n k:Nat)(F G:List (List Pr)):Prop where
 fn:F.Nodup
 gn:G.Nodup
 fm:∀U,U∈F↔(∀p∈U,p∈L)/\U.length<k/\(Zu U).length=n
 gm:∀U,U∈G↔(∀p∈U,p∈L)/\U.length=k/\(Zu U).length<=n
def lg1(L:List Pr)(n:Nat)(U:List Pr):List (List Pr):=if(Zu U).length=n then []else L.map λp=>U++[p]
section
variable{n k:Nat}{F G:List (List Pr)}
def Sv(U:List Pr)(p:Pr):Zu (U++[p])=Zu U++p.2:=by unfold Zu;rw[Jk,List.flatten_append];show _++(p.2++[])=_;rw[List.append_nil]
theorem Zgr(ne:NeW L):∀{U:List Pr},(∀p∈U,p∈L)->U.length<=(Zu U).length
 |[],_=>Jd _
 |p::U,h=>by
  let:=Zgr ne (U:=U) λq hq=>h q (Jg _ hq);let:=Gh.mpr (ne p (h p Ji));rw[row_cons,Jc,J0];lia
def Lvl.zero:Lvl L n 0 [] [[]]:=by
 exists Di,Bo _ _,λU=>⟨(λh=>nomatch h),λh=>absurd h.2.1 (G5 _)⟩,λU=>⟨λh=>?_,λh=>?_⟩
 .rw[Jf.mp h];exists(λ_ h=>nomatch h),rfl,Gc _
 .rw[Bq.mp h.2.1];exact Jf.mpr rfl
theorem Lvl.next(ne:NeW L)(nd:L.Nodup)(h:Lvl L n k F G):Lvl L n (k+1) (F++G.filter λU=>decide ((Zu U).length=n)) ((G.flatMap (lg1 L n)).filter λU=>decide ((Zu U).length<=n)):=by
 exists ?_,?_,λU=>?_,λU=>?_
 .rw[Bv];exists h.fn,h.gn.filter _,λa ha b hb e=>?_;subst e;let h1:=((h.fm a).mp ha).2.1;let h2:=((h.gm a).mp (G2.mp hb).1).2.1;lia
 .refine List.Pairwise.filter _ ?_;rw[Ja8];exists λU hU=>?_,h.gn.imp λ{U V}hn x hx y hy e=>?_
  .unfold lg1
   split
   .exact .nil
   .exact Jz.mpr (nd.imp λhn e=>hn (List.cons.inj (List.append_cancel_left e)).1)
  .unfold lg1 at hx hy
   split at hx
   .cases hx
   .split at hy
    .cases hy
    .let⟨p,_,rfl⟩:=Jq.mp hx;let⟨q,_,e2⟩:=Jq.mp hy;rw[<-e]at e2;exact hn (List.append_inj_left' e2.symm rfl)
 .rw[Jw,h.fm,G2,h.gm,decide_eq_true_iff]
  constructor
  .rintro(⟨a,b,c⟩|⟨⟨a,b,c⟩,d⟩)
   .exists a,(),c
   .exists a,(),d
  .rintro⟨a,b,c⟩
   by_cases z:U.length<k
   .exact .inl ⟨a,z,c⟩
   .exact .inr ⟨⟨a,(),()⟩,c⟩
 .rw[G2,B8,decide_eq_true_iff]
  constructor
  .rintro⟨⟨V,hV,hm⟩,hl⟩;let⟨a,b,c⟩:=(h.gm V).mp hV;unfold lg1 at hm
   split at hm
   .cases hm
   .let⟨p,hp,rfl⟩:=Jq.mp hm;exists λq hq=>(Jw.mp hq).elim (a q) λz=>by rw[Jf.mp z];exact hp,by rw[Jc,b];rfl,hl
  .rintro⟨a,b,c⟩;rcases List.eq_nil_or_concat U with rfl|⟨V,p,e⟩
   .cases b
   .rw[List.concat_eq_append]at e;subst e;let hp:p∈L:=a p (Jm _ Ji);let:=Gh.mpr (ne p hp);let c':=c;rw[Sv,Jc]at c';rw[Jc]at b;let:[p].length=1:=rfl;exists⟨V,(h.gm V).mpr ⟨λq hq=>a q (Gu _ hq),(),()⟩,?_⟩,c;unfold lg1;rw[Ds ()];exact Bx hp
theorem Lvl.k_le(ne:NeW L)(h:Lvl L n k F G)(hg:G≠[]):k<=n:=by
 let⟨U,hU⟩:=List.exists_mem_of_ne_nil G hg;let⟨a,b,c⟩:=(h.gm U).mp hU;let:=Zgr ne a;lia
theorem Lvl.done(h:Lvl L n k F [])(U:List Pr):U∈F↔(∀p∈U,p∈L)/\(Zu U).length=n:=by
 rw[h.fm];exists λ⟨a,_,c⟩=>⟨a,c⟩,λ⟨a,c⟩=>⟨a,?_,c⟩
 apply Nat.lt_of_not_le
 intro z;let:=(h.gm (U.take k)).mpr ⟨λp hp=>a p (Gs hp),by rw[Jv];lia,?_⟩
 .cases this
 .rw[<-c]
  conv=>rhs;rw[<-Jx k U]
  rw[show Zu (U.take k++U.drop k)=Zu (U.take k)++Zu (U.drop k)from by unfold Zu;rw[Jk,List.flatten_append],List.length_append];lia
end
def Orig(L1 L2:List Pr)(E:List (Option Int))(t:List Int):Prop:=∃(U:List Pr)(R:List En),Z2 U=t/\(∀p∈U,p∈L1)/\Told L2 (Zu U) R/\osOf R=E
def Orig.perm{L1 L2 S1 S2:List Pr}{E:List (Option Int)}{t:List Int}(h:Orig L1 L2 E t)(p1:L1.Perm S1)(p2:L2.Perm S2):Orig S1 S2 E t:=by
 let⟨U,R,a,b,c,d⟩:=h;exists U,R,a,λp hp=>p1.mem_iff.mp (b p hp),c.perm p2,d
theorem Re(fr:Free L):∀{U V:List Pr},(∀p∈U,p∈L)->(∀p∈V,p∈L)->Z2 U=Z2 V->U=V
 |[],[],_,_,_=>rfl
 |[],_::_,_,_,e=>nomatch e
 |_::_,[],_,_,e=>nomatch e
 |p::U,q::V,hU,hV,e=>by
  let e:p.1::Z2 U=q.1::Z2 V:=e;injection e with e1 e2
  let h1:=Vy fr (hU p Ji);let h2:=Vy fr (hV q Ji);rw[e1,h2]at h1;rw[Re fr (λx hx=>hU x (Jg _ hx)) (λx hx=>hV x (Jg _ hx)) e2,Dw h1]
def Zdv{L1 L2:List Pr}(fr2:Free L2)(ne2:NeW L2){E:List (Option Int)}(hk:knF L2 E=some kn)(t:List Int):Orig L1 L2 E t↔∃U,Z2 U=t/\(∀p∈U,p∈L1)/\(Zu U).length=kn.length/\(wt kn L2 (0,[]) (Zu U)).isSome=true:=by
 constructor
 .rintro⟨U,R,a,b,c,d⟩;let⟨h1,h2⟩:=(Zb9 fr2 ne2 hk).mp ⟨R,c,d⟩;exists U,a,b,h1,h2
 .rintro⟨U,a,b,h1,h2⟩;let⟨R,c,d⟩:=(Zb9 fr2 ne2 hk).mpr ⟨h1,h2⟩;exists U,R,a,b,c,d
def Zhy{zs:List (List Int)}(h:zs.Pairwise λa b=>HT.lexLt a b=true):zs.Nodup:=h.imp λz e=>by rw[e,P9]at z;cases z
theorem Zev{S1:List Pr}{E:List (Option Int)}(fr1:Free S1)(fi1:Fits S1)(fr:Free S)(fi:Fits S){zs:List (List Int)}(hz:zs.Pairwise λa b=>HT.lexLt a b=true)(hm:∀t,t∈zs↔Orig S1 S E t):zs.length=Sk S1 S E:=by
 let ne:NeW S:=λp hp=>(fi.2 p hp).1;let ne1:NeW S1:=λp hp=>(fi1.2 p hp).1;unfold Sk;cases hk:knF S E with
 |none =>
  cases zs with
  |nil=>rfl
  |cons t zs =>
   let⟨U,R,_,_,c,d⟩:=(hm t).mp Ji;exact absurd ⟨R,c,d⟩ (Zdu fr hk)
 |some kn =>
  let pb:=Xu S1;let neb:NeW (Xt S1):=λp hp=>ne1 p (pb.mem_iff.mp hp);show _=((tx' (Xt S1) kn.length).filter λU=>(wt kn S (0,[]) (Zu U)).isSome).length;let nF:((tx' (Xt S1) kn.length).filter λU=>(wt kn S (0,[]) (Zu U)).isSome).Nodup:=(Zjs (pb.nodup_iff.mpr (Free.nd fr1)) _).filter _;rw[<-Ja (f:=Z2)];refine List.Perm.length_eq ((List.perm_ext_iff_of_nodup (Zhy hz) ?_).mpr λt=>?_)
  .refine Jz.mpr (nF.imp_of_mem λ{U V}hU hV hn e=>hn (Re fr1 (λp hp=>?_) (λp hp=>?_) e))
   .exact pb.mem_iff.mp (((Q1 neb U _).mp (G2.mp hU).1).1 p hp)
   .exact pb.mem_iff.mp (((Q1 neb V _).mp (G2.mp hV).1).1 p hp)
  .rw[hm,Zdv fr ne hk,Jq]
   constructor
   .rintro⟨U,a,b,h1,h2⟩;exists U,G2.mpr ⟨(Q1 neb U _).mpr ⟨λp hp=>pb.mem_iff.mpr (b p hp),h1⟩,h2⟩,a
   .rintro⟨U,hU,a⟩;let⟨h1,h2⟩:=G2.mp hU;let⟨h3,h4⟩:=(Q1 neb U _).mp h1;exists U,a,λp hp=>pb.mem_iff.mp (h3 p hp),h4,h2
abbrev tbl(L:List Pr):D:=.lst (L.map pD)
abbrev tLs(t:List Int):D:=.lst (t.map .int)
def szD:Option (List (Option Int))->D
 |none=>.non
 |some kn=>.int kn.length
def smB(o:Option (List (Option Int)))(m:Int):Bool:=match o with|none=>true|some kn=>decide ((kn.length:Int)<=m)
def Zpg:Sp3:=λds M K=>∃(L1 L2:List Pr)(d:D)(U:List Pr),ds=[tbl L1,tbl L2,d]/\lsOf M d=some ((Z2 U).map .int)/\(Free L1/\Fits L1/\Fits L2/\(∀p∈U,p∈L1)/\U.length<=200)/\∀R,Told L2 (Zu U) R->K (.cell M.length) (M++[.lst ((osOf R).map oD)])
def Ziy:Sp3:=λds M K=>∃(L:List Pr)(d:D)(E:List (Option Int)),ds=[tbl L,d]/\lsOf M d=some (E.map oD)/\(Free L/\Fits L/\E.length<=50)/\K (szD (knF L E)) M
def Zix:Sp3:=λds M K=>∃(L:List Pr)(d:D)(E:List (Option Int))(m:Int),ds=[tbl L,d,.int m]/\lsOf M d=some (E.map oD)/\(Free L/\Fits L/\E.length<=50)/\K (.bl (smB (knF L E) m)) M
def Zsu:Sp3:=λds M K=>∃(L1 L2:List Pr)(d:D)(E:List (Option Int))(bs:List Int),ds=[tbl L1,tbl L2,d]/\lsOf M d=some (E.map oD)/\(TbK L1 bs/\Free L2/\Fits L2/\E.length<=50/\∀kn,knF L2 E=some kn->FewB bs kn.length)/\∀zs:List (List Int),zs.Pairwise (λa b=>HT.lexLt a b=true)->(∀t,t∈zs↔Orig L1 L2 E t)->K (.lst (zs.map tLs)) M
def Ziv:Sp3:=λds M K=>∃(k:Nat)(L:List Pr)(m:Int),ds=[.cell k,tbl L,.int m]/\M[k]?=some .hand/\(Fits L/\m<=100)/\∀U:List Pr,(∀p∈U,p∈L)->((Zu U).length:Int)<=m\/U=[]->U.length<=6->K (.cell M.length) (M++[.lst ((Z2 U).map .int)])
def T3Ok(bs:List Int)(Ls:List (List Pr)):Prop:=Ls.length=3/\∀L∈Ls,TbK L bs
def Uk(bs:List Int):Int:=if bs.length=2 then 6 else 4
def Ziw:Sp3:=λds M K=>∃(k:Nat),ds=[.cell k]/\M[k]?=some .hand/\∀(bs ss:List Int)(Ls:List (List Pr)),(bs.length=2\/bs.length=3)->T3Ok bs Ls->ss.length=14->K (.tup [.cell M.length,.int (Uk bs),.lst (ss.map .int)]) (M++[.lst (Ls.map tbl)])
def Zst:Sp3:=λds M K=>∃(k c:Nat)(bs ss:List Int)(Ls:List (List Pr)),ds=[.cell k,.cell c,.int (Uk bs),.lst (ss.map .int)]/\M[k]?=some .hand/\M[c]?=some (.lst (Ls.map tbl))/\(T3Ok bs Ls/\ss.length=14)/\∀E:List (Option Int),E.length<=50->K (.lst (E.map oD)) M
end L3
namespace K71
open PySem L2
def top(i:Nat):Stmt:=PySem.Challenge.pw_skewread_k71_counted_by_all_texts.main.body.getD i (.Pass ⟨0,0,0,0⟩)
abbrev D6:Stmt:=top 23
def Jav:FnScope ["_law_hand","_law_many","_law_got","_law_cell","_law_number"] ["_law_hand","_law_many"] (Zo D6):=(by rfl')
abbrev Jbl:Stmt:=top 22
def Jaa:FnScope ["_law_script","_law_place","_law_cells","_law_at","_law_digits"] ["_law_script","_law_place"] (Zo Jbl):=(by rfl')
abbrev Jar:Stmt:=top 24
def Jay:FnScope ["_law_hand","_law_most","_law_begin","_law_step"] ["_law_hand","_law_most"] (Zo Jar):=(by rfl')
abbrev Jcp:Stmt:=top 25
def D4:FnScope ["_law_hand","_law_some","_law_most","_law_longest","_law_words_here","_law_k","_law_at"] ["_law_hand","_law_some","_law_most","_law_longest"] (Zo Jcp):=(by rfl')
abbrev Jbc:Stmt:=top 27
def Jag:FnScope ["_law_hand","_law_words_here","_law_signs_here","_law_at","_law_spun","_law_pairs"] ["_law_hand","_law_words_here","_law_signs_here"] (Zo Jbc):=(by rfl')
abbrev Ww:Stmt:=top 17
def Jbv:FnScope ["one","other","shared"] ["one","other"] (Zo Ww):=(by rfl')
abbrev Zb0:Stmt:=top 16
def Jbe:FnScope ["table","second","first","odds"] ["table"] (Zo Zb0):=(by rfl')
abbrev Wv:Stmt:=top 18
def Jbf:FnScope ["table","found"] ["table"] (Zo Wv):=(by rfl')
abbrev Vo:Stmt:=top 19
def Jci:FnScope ["words","found","word","size"] ["words"] (Zo Vo):=(by rfl')
abbrev Zz:Stmt:=Uz (top 20) 0
def Jbz:FnScope ["self","table"] ["self","table"] (Zo Zz):=(by rfl')
abbrev Uv:Stmt:=Uz (top 20) 3
def Jbw:FnScope ["self","sign"] ["self","sign"] (Zo Uv):=(by rfl')
abbrev Uw:Stmt:=Uz (top 20) 4
def Jbq:FnScope ["self","word"] ["self","word"] (Zo Uw):=(by rfl')
abbrev Ux:Stmt:=Uz (top 20) 7
def Jbg:FnScope ["self","row"] ["self","row"] (Zo Ux):=(by rfl')
abbrev Vp:Stmt:=Uz (top 20) 2
def Jab:FnScope ["self"] ["self"] (Zo Vp):=(by rfl')
abbrev Jan:Stmt:=top 29
def Jbr:FnScope ["_law_table_here","_law_row","_law_at","_law_one","_law_some"] ["_law_table_here","_law_row","_law_at"] (Zo Jan):=(by rfl')
abbrev Jbj:Stmt:=top 26
def Jcn:FnScope ["_law_hand","_law_many","_law_begin","_law_step","_law_signs_here","_law_at"] ["_law_hand","_law_many"] (Zo Jbj):=(by rfl')
abbrev W8:Stmt:=top 7
def Jch:FnScope ["other","entries","known","entry","word"] ["other","entries"] (Zo W8):=(by rfl')
abbrev Vn:Stmt:=top 8
def D9:FnScope ["other","known","place","swaying","byte","row","rests","swayed"] ["other","known","place","swaying","byte"] (Zo Vn):=(by rfl')
abbrev Vl:Stmt:=top 9
def Jau:FnScope ["other","known","spot","word","place","swaying","byte"] ["other","known","spot","word"] (Zo Vl):=(by rfl')
abbrev T1:Stmt:=top 10
def Jaq:FnScope ["one","other","known","spot","steps"] ["one","other","known","spot"] (Zo T1):=(by rfl')
abbrev Uu:Stmt:=top 11
def Jby:FnScope ["one","other","known","steps","waiting","spot"] ["one","other","known"] (Zo Uu):=(by rfl')
abbrev Wc:Stmt:=top 12
def Jbb:FnScope ["steps","size","counts","spot"] ["steps","size"] (Zo Wc):=(by rfl')
abbrev Xq:Stmt:=Uz (top 13) 0
def Jbm:FnScope ["self","one","other","entries","known","steps","spot"] ["self","one","other","entries"] (Zo Xq):=(by rfl')
abbrev Ym:Stmt:=Uz (top 13) 1
def Jbs:FnScope ["self"] ["self"] (Zo Ym):=(by rfl')
abbrev X1:Stmt:=top 14
def Jat:FnScope ["one","other","entries"] ["one","other","entries"] (Zo X1):=(by rfl')
abbrev D1:Stmt:=top 28
def Jbn:FnScope ["_law_hand","_law_some","_law_signs_here","_law_tables_here","_law_way"] ["_law_hand"] (Zo D1):=(by rfl')
abbrev Jai:Stmt:=top 30
def Jaj:FnScope ["_law_first","_law_second","_law_text","_law_words_here","_law_row","_law_one","_law_entries_here","_law_at","_law_found"] ["_law_first","_law_second","_law_text"] (Zo Jai):=(by rfl')
abbrev Jcs:Stmt:=top 31
def Jct:FnScope ["_law_table_here","_law_entries_here","_law_words_here","_law_size_here","_law_entry"] ["_law_table_here","_law_entries_here"] (Zo Jcs):=(by rfl')
abbrev Jak:Stmt:=top 32
def Jaf:FnScope ["_law_table_here","_law_entries_here","_law_most","_law_size_here"] ["_law_table_here","_law_entries_here","_law_most"] (Zo Jak):=(by rfl')
abbrev D8:Stmt:=top 33
def Jao:FnScope ["_law_first","_law_second","_law_entries_here","_law_size_here","_law_found","_law_growing","_law_longer","_law_text","_law_many"] ["_law_first","_law_second","_law_entries_here"] (Zo D8):=(by rfl')
abbrev Jca:Stmt:=top 34
def Jcb:FnScope ["_law_hand","_law_table_here","_law_most","_law_text","_law_size_here","_law_k","_law_one","_law_some"] ["_law_hand","_law_table_here","_law_most"] (Zo Jca):=(by rfl')
abbrev Jaz:Stmt:=top 35
def Jbo:FnScope ["_law_hand","_law_tables_here","_law_most","_law_signs_here","_law_entries_here","_law_way","_law_at","_law_spoilt","_law_other"] ["_law_hand","_law_tables_here","_law_most","_law_signs_here"] (Zo Jaz):=(by rfl')
abbrev Zn0:Stmt:=top 36
def Jal:FnScope ["_law_script","_law_place","_law_hand","_law_tables_here","_law_most","_law_signs_here","_law_codes","_law_entries_here","_law_handed","_law_i","_law_j","_law_found"] ["_law_script"] (Zo Zn0):=(by rfl')
structure Txt(mg:Str->Option Value):Prop where
 b_len:mg "len"=none
 b_abs:mg "abs"=none
 b_max:mg "max"=none
 b_min:mg "min"=none
 b_isinstance:mg "isinstance"=none
 b_any:mg "any"=none
 b_range:mg "range"=none
 b_int:mg "int"=none
 b_bool:mg "bool"=none
 b_tuple:mg "tuple"=none
 b_list:mg "list"=none
 b_dict:mg "dict"=none
 b_sum:mg "sum"=none
 b_sorted:mg "sorted"=none
section
variable{base:Heap}
theorem Dz(T:Txt mg){f:Addr}(F:Fun K "_law_draw" "_law_draw" D6 f fd):FnOk P w K mg base CX0 1 f fd ["_law_hand","_law_many"] Zdh:=by
 refine F.ok Jav (λvs H Q E h=>?_) (λcdv A outer s H vs Q E hr h=>?_)
 .let⟨p,a,n,rfl,_⟩:=h;rfl
 .let⟨p,a,n,rfl,hh,hn0,hn1,k⟩:=h;let⟨d,i,cs,e1,e2,hne,hlen,hd,hi,hc⟩:=hh.ex;let npa:p≠a:=hh.ne;let SC:=Jav;let fin:∀(r d' i':Int),0<=r->r<n->0<=d'->0<=i'->Q (.int r) (upd H p (.lst [.int d',.int i',.ref a])):=λr d' i' h1 h2 h3 h4 =>
   k r _ h1 h2 ⟨d',i',cs,Zh,by rw[Zp npa.symm];exact e2,hne,hlen,h3,h4,hc⟩ (λb o e nb=>by rw[Zp nb];exact e) λb nb=>by rw[Zp nb]
  refine⟨_,(Zd (Y2 (Z4 P1 (Z9 Xf (pv 0) Zi (λ_ _=>rfl)) Zi (Yc _))
 (Zd (Zs (i:=2) SC.nd rfl (Cd rfl) (Z5 We (Z9 Xf (pv 0) Zi (λ_ _=>rfl)) (pv 1)))
 (Zd (Qy (Z5 Zhg (Z9 Xf (pv 0) Zi (λ_ _=>rfl)) (pv 1)) (Zds (pv 0) Zi Te))
 (Zj (Z1 (pv 2)))))
 Z6)
 (Zd (Zoa (pv 0) Zi Zg6 Zi Zar Te)
 (Zd (Zs (i:=3) SC.nd rfl (Cd rfl) (Z5 We (Z9 Xf (Z9 Xf (pv 0) Zi (λ_ _=>rfl)) (Z5 We (Z9 Xf (pv 0) Zi (λ_ _=>rfl)) (Zr Xd (by rfl) T.b_len Dx (Za (Z9 Xf (pv 0) Zi (λ_ _=>rfl)) Zf))) (λ_ _=>rfl)) Zi))
 (Zd (Zs (i:=4) SC.nd rfl (Cd rfl) (Z5 We (Z5 Vt (Z5 Vt (Z5 Sn (pv 3) Zi) (Z5 Sn (Z9 Xf (pv 0) Zi (λ_ _=>rfl)) Zi)) Zi) Zi))
 (Zd (Zs (i:=4) SC.nd rfl (Cd rfl) (Z5 We (Z5 Vt (Z5 Sn (pv 4) (pv 4)) (Z9 Xf (pv 0) Zi (λ_ _=>rfl))) Zi))
 (Zd (Zs (i:=4) SC.nd rfl (Cd rfl) (Z5 We (Z5 Vt (Z5 Sn (pv 4) Zi) Zi) Zi))
 (Zj (Z1 (Z5 We (Z5 Zhg (Z5 We (Z5 Sn (pv 4) (pv 4)) Zi) Zi) (pv 1)))))))))),?_⟩
  exists ·,p,_,_,·,rfl,SqL.of e1,rfl,_,·,rfl,·,?_;refine ite2 (λh0=>?_) (λh0=>?_)
  .exists ·,p,_,_,·,rfl,SqL.of e1,rfl,·,_,·,rfl,hn0,?_;exists ·,p,_,_,·,rfl,SqL.of e1,rfl,·,_,·,rfl,⟨hn0,hn1⟩,·,p,_,_,0,rfl,rfl,e1,rfl,?_;exists ·,?_;exact fin _ _ _ (Bn _ ()) (G8 _ hn0) (Int.ediv_nonneg hd ()) hi
  .let e1':(upd H p (.lst [.int d,.int (i+1),.ref a])) p=some (.lst [.int d,.int (i+1),.ref a]):=Zh;let e2':(upd H p (.lst [.int d,.int (i+1),.ref a])) a=some (.lst (cs.map V.int)):=by rw[Zp npa.symm];exact e2
   let⟨c,hc1,hc2⟩:=Zcy hne (i+1);let hlp:(0:Int)<(((cs.map V.int).length:Nat):Int):=by
    rw[Ja];let:=Gh.mpr hne;lia
   refine⟨_,rfl,p,_,1,_,rfl,rfl,SqL.of e1,rfl,_,_,rfl,rfl,p,_,_,1,rfl,rfl,e1,rfl,?_⟩;refine⟨_,rfl,p,_,_,_,rfl,rfl,SqL.of e1',rfl,_,rfl,p,_,_,_,rfl,rfl,SqL.of e1',rfl,_,rfl,p,_,_,_,rfl,rfl,SqL.of e1',rfl,_,_,rfl,.inl ⟨_,SqL.of e2',rfl⟩,_,_,rfl,rfl,hlp,
    a,_,_,_,rfl,rfl,SqL.of e2',hc2,_,_,rfl,rfl,(by show(0:Int)<_;decide),?_⟩
   exists ·,_,·,rfl,.inr ⟨nofun,nofun⟩,·,p,_,_,·,rfl,SqL.of e1',rfl,_,·,rfl,.inr ⟨nofun,nofun⟩,_,·,rfl,_,·,rfl,_,·,rfl,(by show(0:Int)<_;decide),?_;generalize hx:(c % 2147483647*48271+(i+1)*7368787+11) % 998244353=x;let x0:0<=x:=by rw[<-hx];exact Bn _ nofun
   let x1:x<998244353:=by rw[<-hx];exact G8 _ nofun
   exists ·,·,_,·,rfl,.inl ⟨(),()⟩,·,p,_,_,·,rfl,SqL.of e1',rfl,_,·,rfl,_,·,rfl,(by show(0:Int)<_;decide),?_;generalize hy:(x*x+(i+1)) % 998244353=y;exists ·,_,·,rfl,.inr ⟨nofun,nofun⟩,_,·,rfl,_,·,rfl,(by show(0:Int)<_;decide),?_;generalize hz:(y*40503203+12345) % 2147483647=z;let z0:0<=z:=by rw[<-hz];exact Bn _ nofun
   let z1:z<2147483647:=by rw[<-hz];exact G8 _ nofun
   exists ·,·,_,·,rfl,.inl ⟨(),()⟩,_,·,rfl,(by show(0:Int)<_;decide),_,·,rfl,⟨nofun,nofun⟩,·,_,·,rfl,hn0,?_;exact fin _ _ _ (Bn _ ()) (G8 _ hn0) hd (by show 0<=i+1;lia)
theorem D3(T:Txt mg){f:Addr}(F:Fun K "_law_open" "_law_open" Jbl f fd):FnOk P w K mg base CX0 1 f fd ["_law_script","_law_place"] (Zly K):=by
 refine F.ok Jaa (λvs H Q E h=>?_) (λcdv A outer s H vs Q E hr h=>?_)
 .let⟨s,ns,i,rfl,_⟩:=h;rfl
 .let⟨s0,ns,i,rfl,hS,hlen,hi0,hi1,k⟩:=h;let SC:=Jaa;let hu:=hr.units;refine⟨_,(Zd (Vr (i:=2) SC.nd rfl rfl (T:=["_law_cell"]) (cs:=[]) rfl (CScope.ok (by kernel_rfl)) (Yf (Yh Ut (pv 0) Y3 (Yl Zi))) (λ_ _ _ _=>(Zq (i:=0) (Y0 (by kernel_rfl)) rfl (Cd rfl) (Cy rfl))) (λ_ _ _ _=>Yv) (λ_ _ _ _=>(Zr Zld (by rfl) T.b_abs Jgf (Za (pv 0) Zf))) (Yw nofun))
 (Zd (Y2 (Z4 (Zdx hu) (pv 2) (Y8 Zf) (Yc _))
 (Zj (Zs (i:=2) SC.nd rfl (Cd rfl) (Y8 (Za Zi Zf))))
 Z6)
 (Zd (Zs (i:=3) SC.nd rfl (Cd rfl) (Z5 We (pv 1) (Zr Xd (by rfl) T.b_len Dx (Za (pv 2) Zf))))
 (Zd (Zs (i:=4) SC.nd rfl (Cd rfl) Zi)
 (Zd (Y2 (PW.pt (Zl7 (Z4 Zug (Z9 Xf (pv 2) (pv 3) (λ_ _=>rfl)) (Z5 Zhf Zi Zi) (Yc _)) (Zg3 (Z4 Zoh (pv 1) (Zr Xd (by rfl) T.b_len Dx (Za (pv 2) Zf)) (Yc _)))))
 (Zj (Zs (i:=4) SC.nd rfl (Cd rfl) (Z9 Xf (pv 2) (pv 3) (λ_ _=>rfl))))
 Z6)
 (Zj (Z1 (Y8 (Za (pv 4) (Za (Z5 Vt Zi (Z5 Sn Zi (pv 1))) (Za (Z5 Zhi (Yh Ut (pv 2) (Yl (pv 3)) Y3) (Yh Ut (pv 2) Y3 (Yl (pv 3)))) Zf))))))))))),?_⟩
  let⟨ms,ems,lms,_⟩:=Zk7 ns none (some 63);refine⟨_,rfl,_,rfl,s0,_,rfl,hS,λq hq=>⟨q,rfl,⟨_,SqL.of Zh⟩,U4 (n:=ms.length) (λj ys H'=>∃as:List Int,ys=as.map V.int/\as.length=j/\(∀c∈as,0<=c)/\H'=upd H q (.lst (cutV (ns.map V.int) none (some 63))))
   ⟨[],rfl,rfl,λ_ h=>(nomatch h),rfl⟩ ?_ (Zk ()) ?_ ?_ ?_ ?_⟩⟩
  .rintro j ys H' ⟨as,rfl,rfl,_⟩;rw[Ja];exact Jd _
  .rintro j ys H' hj ⟨as,rfl,rfl,_,rfl⟩;exists _,.int (ms[as.length]'hj),SqL.of Zh,?_;rw[ems,Ge,Jb hj];rfl
  .rintro ys H' ⟨as,rfl,hl,_,rfl⟩;exact⟨_,SqL.of Zh,by rw[ems,Ja];exact Jd _⟩
  .rintro j ys H' hj ⟨as,rfl,rfl,hp,rfl⟩ x H2 ⟨rfl,y⟩;let hx:=y _ (SqL.of Zh);rw[ems,Ge,Jb hj]at hx;cases hx;exists ·,·,as++[_],by rw[Jk];rfl,by rw[Jc];rfl,λc hc=>?_,rfl;rcases Jw.mp hc with z|z
   .exact hp c z
   .rw[Jf.mp z]
    split<;>lia
  .rintro ys H' ⟨as,rfl,hl,hp,rfl⟩ c0 hc0;let s1:Same H (upd H q (.lst (cutV (ns.map V.int) none (some 63)))):=Zc hq;generalize upd H q (.lst (cutV (ns.map V.int) none (some 63)))=H1 at hc0 s1;let s2:Same H (upd H1 c0 (.lst (as.map V.int))):=s1.trans (Zc hc0);let n0:H c0=none:=s1.free hc0;let e0:(upd H1 c0 (.lst (as.map V.int))) c0=some (.lst (as.map V.int)):=Zh;generalize upd H1 c0 (.lst (as.map V.int))=H2 at s2 e0;let hla:as.length<=63:=by lia
   exists ·,Gc _,λl hl=>⟨_,_,DV.lst (SqL.of ((Zc hl) _ _ e0)) (Ud as),DV.lst (SqL.of Zh) .nil,(Zdk as).shaped nofun,(Zdk []).shaped nofun,_,rfl,?_⟩;rw[Zpa];let s3:Same H (upd H2 l (.lst [])):=s2.trans (Zc hl);let e1:(upd H2 l (.lst [])) c0=some (.lst (as.map V.int)):=(Zc hl) _ _ e0;generalize upd H2 l (.lst [])=H3 at s3 e1;refine ite2 (λh0=>?_) (λh0=>?_)
   .exists by show 1<=sizeLine;decide,λc1 hc1=>?_;let W:HC H (upd H3 c1 (.lst [.int 0])) c1:=⟨[0],s3.trans (Zc hc1),s3.free hc1,Zh,by simp,nofun,by simp⟩
    revert W
    generalize upd H3 c1 (.lst [.int 0])=H4;intro W;let⟨as4,s4,n4,e4,hne,hl4,hp4⟩:=W;let⟨c,hc1,hc2⟩:=Zcy hne i;let⟨cs,ecs,ncs,lcs,mcs⟩:=spun hne i;let hlp:(0:Int)<(((as4.map V.int).length:Nat):Int):=by
     rw[Ja];let:=Gh.mpr hne;lia
    exists ·,·,_,·,.inl ⟨_,SqL.of e4,rfl⟩,_,·,rfl,hlp,?_;exists ·,·,_,_,_,·,rfl,SqL.of e4,hc2,_,·,rfl,⟨nofun,nofun,nofun⟩,_,·,rfl,·,?_;refine ite2 (λ_=>?_) (λ_=>?_)
    .exists ·,·,_,·,.inl ⟨_,SqL.of e4,rfl⟩,_,·,rfl,·,?_;refine ite2 (λ_=>?_) (λ_=>?_)
     .refine⟨_,rfl,_,rfl,_,_,_,_,rfl,rfl,SqL.of e4,hc2,?_⟩;exact⟨_,rfl,_,rfl,_,_,rfl,rfl,.inl ⟨nofun,nofun⟩,_,_,rfl,rfl,_,rfl,_,rfl,_,rfl,_,_,rfl,SqL.of e4,λl1 hl1=>⟨_,rfl,_,rfl,_,rfl,_,_,rfl,SqL.of ((Zc hl1) _ _ e4),λl2 hl2 =>
       ⟨l1,l2,_,_,rfl,rfl,(Zc hl2) _ _ Zh,Zh,by rw[<-Jc,ecs,Ja];exact Zk (),λl3 hl3=>⟨by show 3<=sizeLine;decide,λp hp =>
        k p l3 _ (s4.free ((Zc hl1).free ((Zc hl2).free ((Zc hl3).free hp)))) (s4.free ((Zc hl1).free ((Zc hl2).free hl3)))
         ⟨_,_,cs,Zh,by rw[<-ecs];exact(Zc hp) _ _ Zh,ncs,(),by first|exact hp4 _ hc1|decide,(),λx hx=>hp4 x (mcs x hx)⟩
         (((s4.trans (Zc hl1)).trans (Zc hl2)).trans ((Zc hl3).trans (Zc hp)))⟩⟩⟩⟩
     .exact⟨_,rfl,_,rfl,_,_,rfl,rfl,.inl ⟨nofun,nofun⟩,_,_,rfl,rfl,_,rfl,_,rfl,_,rfl,_,_,rfl,SqL.of e4,λl1 hl1=>⟨_,rfl,_,rfl,_,rfl,_,_,rfl,SqL.of ((Zc hl1) _ _ e4),λl2 hl2 =>
       ⟨l1,l2,_,_,rfl,rfl,(Zc hl2) _ _ Zh,Zh,by rw[<-Jc,ecs,Ja];exact Zk (),λl3 hl3=>⟨by show 3<=sizeLine;decide,λp hp =>
        k p l3 _ (s4.free ((Zc hl1).free ((Zc hl2).free ((Zc hl3).free hp)))) (s4.free ((Zc hl1).free ((Zc hl2).free hl3)))
         ⟨_,_,cs,Zh,by rw[<-ecs];exact(Zc hp) _ _ Zh,ncs,(),by first|exact hp4 _ hc1|decide,(),λx hx=>hp4 x (mcs x hx)⟩
         (((s4.trans (Zc hl1)).trans (Zc hl2)).trans ((Zc hl3).trans (Zc hp)))⟩⟩⟩⟩
    .refine iteF ?_;exact⟨_,rfl,_,rfl,_,_,rfl,rfl,.inl ⟨nofun,nofun⟩,_,_,rfl,rfl,_,rfl,_,rfl,_,rfl,_,_,rfl,SqL.of e4,λl1 hl1=>⟨_,rfl,_,rfl,_,rfl,_,_,rfl,SqL.of ((Zc hl1) _ _ e4),λl2 hl2 =>
       ⟨l1,l2,_,_,rfl,rfl,(Zc hl2) _ _ Zh,Zh,by rw[<-Jc,ecs,Ja];exact Zk (),λl3 hl3=>⟨by show 3<=sizeLine;decide,λp hp =>
        k p l3 _ (s4.free ((Zc hl1).free ((Zc hl2).free ((Zc hl3).free hp)))) (s4.free ((Zc hl1).free ((Zc hl2).free hl3)))
         ⟨_,_,cs,Zh,by rw[<-ecs];exact(Zc hp) _ _ Zh,ncs,(),by first|exact hp4 _ hc1|decide,(),λx hx=>hp4 x (mcs x hx)⟩
         (((s4.trans (Zc hl1)).trans (Zc hl2)).trans ((Zc hl3).trans (Zc hp)))⟩⟩⟩⟩
   .let W:HC H H3 c0:=⟨as,s3,n0,e1,by simpa using h0,hla,hp⟩;let⟨as4,s4,n4,e4,hne,hl4,hp4⟩:=W;let⟨c,hc1,hc2⟩:=Zcy hne i;let⟨cs,ecs,ncs,lcs,mcs⟩:=spun hne i;let hlp:(0:Int)<(((as4.map V.int).length:Nat):Int):=by
     rw[Ja];let:=Gh.mpr hne;lia
    exists ·,·,_,·,.inl ⟨_,SqL.of e4,rfl⟩,_,·,rfl,hlp,?_;exists ·,·,_,_,_,·,rfl,SqL.of e4,hc2,_,·,rfl,⟨nofun,nofun,nofun⟩,_,·,rfl,·,?_;refine ite2 (λ_=>?_) (λ_=>?_)
    .exists ·,·,_,·,.inl ⟨_,SqL.of e4,rfl⟩,_,·,rfl,·,?_;refine ite2 (λ_=>?_) (λ_=>?_)
     .refine⟨_,rfl,_,rfl,_,_,_,_,rfl,rfl,SqL.of e4,hc2,?_⟩;exact⟨_,rfl,_,rfl,_,_,rfl,rfl,.inl ⟨nofun,nofun⟩,_,_,rfl,rfl,_,rfl,_,rfl,_,rfl,_,_,rfl,SqL.of e4,λl1 hl1=>⟨_,rfl,_,rfl,_,rfl,_,_,rfl,SqL.of ((Zc hl1) _ _ e4),λl2 hl2 =>
       ⟨l1,l2,_,_,rfl,rfl,(Zc hl2) _ _ Zh,Zh,by rw[<-Jc,ecs,Ja];exact Zk (),λl3 hl3=>⟨by show 3<=sizeLine;decide,λp hp =>
        k p l3 _ (s4.free ((Zc hl1).free ((Zc hl2).free ((Zc hl3).free hp)))) (s4.free ((Zc hl1).free ((Zc hl2).free hl3)))
         ⟨_,_,cs,Zh,by rw[<-ecs];exact(Zc hp) _ _ Zh,ncs,(),by first|exact hp4 _ hc1|decide,(),λx hx=>hp4 x (mcs x hx)⟩
         (((s4.trans (Zc hl1)).trans (Zc hl2)).trans ((Zc hl3).trans (Zc hp)))⟩⟩⟩⟩
     .exact⟨_,rfl,_,rfl,_,_,rfl,rfl,.inl ⟨nofun,nofun⟩,_,_,rfl,rfl,_,rfl,_,rfl,_,rfl,_,_,rfl,SqL.of e4,λl1 hl1=>⟨_,rfl,_,rfl,_,rfl,_,_,rfl,SqL.of ((Zc hl1) _ _ e4),λl2 hl2 =>
       ⟨l1,l2,_,_,rfl,rfl,(Zc hl2) _ _ Zh,Zh,by rw[<-Jc,ecs,Ja];exact Zk (),λl3 hl3=>⟨by show 3<=sizeLine;decide,λp hp =>
        k p l3 _ (s4.free ((Zc hl1).free ((Zc hl2).free ((Zc hl3).free hp)))) (s4.free ((Zc hl1).free ((Zc hl2).free hl3)))
         ⟨_,_,cs,Zh,by rw[<-ecs];exact(Zc hp) _ _ Zh,ncs,(),by first|exact hp4 _ hc1|decide,(),λx hx=>hp4 x (mcs x hx)⟩
         (((s4.trans (Zc hl1)).trans (Zc hl2)).trans ((Zc hl3).trans (Zc hp)))⟩⟩⟩⟩
    .refine iteF ?_;exact⟨_,rfl,_,rfl,_,_,rfl,rfl,.inl ⟨nofun,nofun⟩,_,_,rfl,rfl,_,rfl,_,rfl,_,rfl,_,_,rfl,SqL.of e4,λl1 hl1=>⟨_,rfl,_,rfl,_,rfl,_,_,rfl,SqL.of ((Zc hl1) _ _ e4),λl2 hl2 =>
       ⟨l1,l2,_,_,rfl,rfl,(Zc hl2) _ _ Zh,Zh,by rw[<-Jc,ecs,Ja];exact Zk (),λl3 hl3=>⟨by show 3<=sizeLine;decide,λp hp =>
        k p l3 _ (s4.free ((Zc hl1).free ((Zc hl2).free ((Zc hl3).free hp)))) (s4.free ((Zc hl1).free ((Zc hl2).free hl3)))
         ⟨_,_,cs,Zh,by rw[<-ecs];exact(Zc hp) _ _ Zh,ncs,(),by first|exact hp4 _ hc1|decide,(),λx hx=>hp4 x (mcs x hx)⟩
         (((s4.trans (Zc hl1)).trans (Zc hl2)).trans ((Zc hl3).trans (Zc hp)))⟩⟩⟩⟩
theorem Jcm(T:Txt mg)(Zm:Cal P w K mg base "_law_draw" 1 ["_law_hand","_law_many"] Zdh){f:Addr}(F:Fun K "_law_bytes" "_law_bytes" Jar f fd):FnOk P w K mg base CX0 2 f fd ["_law_hand","_law_most"] Zga:=by
 refine F.ok Jay (λvs H Q E h=>?_) (λcdv A outer s H vs Q E hr h=>?_)
 .let⟨p,a,m,rfl,_⟩:=h;rfl
 .let⟨p,a,m,rfl,hh,hm1,hm2,k⟩:=h;let SC:=Jay;let Zl:Room 1 _:=hr.mono nofun;refine⟨_,(Zd (Zs (i:=2) SC.nd rfl (Cy rfl) (Zw Zm Zl rfl (Za (pv 0) (Za Zi Zf))))
 (Zd (Zs (i:=3) SC.nd rfl (Cy rfl) (Z5 Vt Zi (Zw Zm Zl rfl (Za (pv 0) (Za Zi Zf)))))
 (Zj (Z1 (Yq (T:=["_law_k"]) (cs:=[2,3]) rfl (CScope.ok (by kernel_rfl)) (Ys rfl T.b_range (Za (Z5 Vt Zi (Zw Zm Zl rfl (Za (pv 0) (Za (Z5 Zdw (pv 1) Zi) Zf)))) Zf)) (λ_ _ _ _=>(Zq (i:=0) (Y0 (by kernel_rfl)) rfl (Cd rfl) (Cy rfl))) (λ_ _ _ _=>Yv) (λ_ _ _ _=>(Z5 We (Z5 Vt (pv 1) (Z5 Sn (pv 2) (pv 0))) Zi)) (Yw nofun)))))),?_⟩
  refine⟨_,rfl,p,a,_,rfl,hh,nofun,nofun,λb0 H1 b00 b01 h1 g1 u1=>?_⟩;refine⟨_,rfl,p,a,_,rfl,h1,nofun,nofun,λs0 H2 s00 s01 h2 g2 u2=>⟨_,_,rfl,rfl,?_⟩⟩;refine⟨_,rfl,_,rfl,_,_,rfl,rfl,p,a,_,rfl,h2,(),(),λn0 H3 n00 n01 h3 g3 u3=>⟨_,_,rfl,rfl,(2+n0),rfl,(),(),U4 (n:=(2+n0).toNat)
   (λj ys H'=>H'=H3/\ys=((Co j).map λk:Nat=>(b0+(1+s0)*(k:Int)) % 256).map V.int) ⟨rfl,rfl⟩ ?_ (Zk ()) ?_ ?_ ?_ ?_⟩⟩
  .rintro j ys H' ⟨rfl,rfl⟩;rw[Ja,Ja,Bd];exact Jd _
  .rintro j ys H' hj _;exact hj
  .rintro ys H' _;exact Jd _
  .rintro j ys H' hj ⟨rfl,rfl⟩ x H4 ⟨rfl,rfl⟩;exists ·,·,·,_,·,rfl,.inl ⟨(),()⟩,_,·,rfl,_,·,rfl,(by show(0:Int)<_;decide),rfl,?_;rw[Lh,Jk,Jk,Lu];rfl
  .rintro ys H' ⟨rfl,rfl⟩ l hl;let⟨_,_,_,ep,_⟩:=h3.ex;let nl:l≠p:=Et (Zy ep hl);let g:=(g1.trans g2).trans g3;refine k l _ _ (g.free hl nl) nl Zh (Zbt () ?_) ?_ ?_ (λb hb=>?_) (h3.same (Zc hl)) (g.trans (Grow.same (Zc hl)))
   .let:((2+n0).toNat:Int)=2+n0:=by lia
    rw[this];let h4:(1+s0)*(2+n0)<=(1+s0)*4:=Kz () ();lia
   .rw[Ja,Bd];lia
   .rw[Ja,Bd];lia
   .let⟨i,_,rfl⟩:=Jq.mp hb;exists Bn _ nofun,G8 _ nofun
open L3
def Zlf{bs:List Int}{n:Nat}(h:∀w∈ws,∀b∈w,b∈bs)(hn:n<ws.length):∀w∈ws.take n++(bs.map λb=>ws[n]++[b])++ws.drop (n+1),∀b∈w,b∈bs:=λw hw b hb=>by
 rcases Jw.mp hw with z|z
 .rcases Jw.mp z with z|z
  .exact h w (Gs z) b hb
  .let⟨c,hc,rfl⟩:=Jq.mp z;rcases Jw.mp hb with y|y
   .exact h _ (Ju hn) b y
   .rw[Jf.mp y];exact hc
 .exact h w (G3 z) b hb
theorem Jbk(T:Txt mg){C:Addr}(Zm:Cal P w K mg base "_law_draw" 1 ["_law_hand","_law_many"] (spOf ⟨C,K⟩ Zct)){f:Addr}(F:Fun K "_law_words" "_law_words" Jcp f fd):FnOk P w K mg base CX0 2 f fd ["_law_hand","_law_some","_law_most","_law_longest"] (spOf ⟨C,K⟩ Ziu):=by
 refine L3.Fun.ok3 F D4 (λds M K3 h=>?_) (λcdv A outer s H E hr=>?_)
 .let⟨k0,bs,m,lg,rfl,_⟩:=h;rfl
 .let SC:=D4;let hu:=hr.units;let hu1:=Wf hr;let Zl:Room 1 _:=hr.mono nofun;refine⟨_,_,(Zd (Zs (i:=4) SC.nd rfl (Cy rfl) (Yq (T:=["_law_one"]) (cs:=[]) rfl (CScope.ok (by kernel_rfl)) (Yf (pv 1)) (λ_ _ _ _=>(Zq (i:=0) (Y0 (by kernel_rfl)) rfl (Cd rfl) (Cy rfl))) (λ_ _ _ _=>Yv) (λ_ _ _ _=>(Yz (Za (pv 0) Zf))) (Yw nofun)))
 (Zd (X6 Cm rfl (Ys rfl T.b_range (Za (Zw Zm Zl rfl (Za (pv 0) (Za (Z5 (Yx (K':=K) rfl) (pv 2) Zi) Zf))) Zf)) (Zq (i:=5) SC.nd rfl (Cd rfl))
 (Zd (Zs (i:=6) SC.nd rfl (Cy rfl) (Z5 We (Zw Zm Zl rfl (Za (pv 0) (Za Zi Zf))) (Zr (Xa (K:=K) rfl) (by rfl) T.b_len Dx (Za (pv 4) Zf))))
 (Zj (Y2 (Z4 Zoh (Zr (Xa (K:=K) rfl) (by rfl) T.b_len Dx (Za (Z9 (Yr (K':=K) rfl) (pv 4) (pv 6) (λ_ _=>rfl)) Zf)) (pv 3) (Yc _))
 (Zj (Zs (i:=4) SC.nd rfl (Cy rfl) (Z5 (Yx (K':=K) rfl) (Z5 (Yx (K':=K) rfl) (Yh (Pl (K':=K) rfl) (pv 4) Y3 (Yl (pv 6))) (Yq (T:=["_law_one"]) (cs:=[4,6]) rfl (CScope.ok (by kernel_rfl)) (Yf (pv 1)) (λ_ _ _ _=>(Zq (i:=0) (Y0 (by kernel_rfl)) rfl (Cd rfl) (Cy rfl))) (λ_ _ _ _=>Yv) (λ_ _ _ _=>(Z5 (Yx (K':=K) rfl) (Z9 (Yr (K':=K) rfl) (pv 1) (pv 2) (λ_ _=>rfl)) (Yz (Za (pv 0) Zf)))) (Yw nofun))) (Yh (Pl (K':=K) rfl) (pv 4) (Yl (Z5 (Yx (K':=K) rfl) (pv 6) Zi)) Y3))))
 Z6))))
 (Zj (Z1 (Yq (T:=["_law_word"]) (cs:=[0]) rfl (CScope.ok (by kernel_rfl)) (Yf (pv 4)) (λ_ _ _ _=>(Zq (i:=0) (Y0 (by kernel_rfl)) rfl (Cd rfl) (Cy rfl))) (λ_ _ _ _=>(W9 (Z4 P1 (Zw Zm Zl rfl (Za (pv 1) (Za Zi Zf))) Zi (Yc _)))) (λ_ _ _ _=>(pv 0)) (Yw nofun)))))),λ_=>(Zv (Z7 (Xp (s_il (Ze 1)) (s_g 0) Vm (Vj (Zb (Ze 0) Zn))) (s_g 4))
 (Zv (Ri (Zbz (Zb (Z3 (Zb (Ze 0) (Zb (s_op X9 (Ze 2) Zt) Zn))) Zn)) (s_g 5)
 (Zv (Z7 (s_op Zj3 (Z3 (Zb (Ze 0) (Zb Zt Zn))) (s_cb W4 (Zb (Ze 4) Zn))) (s_g 6))
 (X2 (Yo (s_op s_lt (s_cb W4 (Zb (s_op s_ix (Ze 4) (Ze 6)) Zn)) (Ze 3)))
 (Z7 (s_op X9 (s_op X9 (s_sl Ps (Ze 4) X8 (Uj (Ze 6))) (Xp (s_il (Ze 1)) (s_g 0) Vm (s_op X9 (s_op s_ix (Ze 1) (Ze 2)) (Vj (Zb (Ze 0) Zn))))) (s_sl Ps (Ze 4) (Uj (s_op X9 (Ze 6) Zt)) X8)) (s_g 4))
 Y7)))
 (Xj (Xp (s_il (Ze 4)) (s_g 0) (Yo (s_op s_gt (Z3 (Zb (Ze 1) (Zb Zt Zn))) Zt)) (Ze 0))))),λds M Kk hM hD h=>?_⟩
  let⟨k0,bs,m,lg,rfl,h⟩:=h;let⟨hh,⟨nd,ne,lb,m0,m1,g0,g1⟩,k⟩:=h;let hlp:0<bs.length:=Gh.mpr ne;let lm:(bs.map D.int).length=bs.length:=Ja _;exists ·,·,?_,λj ys M'=>M=M'/\ys=(bs.take j).map λb=>wD [b],λ_ _ _ _ h=>(by rw[<-h.1];rfl),⟨rfl,rfl⟩,?_,?_
  .show(bs.map D.int).length<=sizeLine;rw[lm];exact Zk ()
  .rintro j x ys _ hj hx ⟨rfl,rfl⟩;let⟨hj',rfl⟩:=Yi hx;exists ·,(show 1<=sizeLine by decide),rfl,?_;rw[Jh hj',Jk];rfl
  rintro ys _ ⟨rfl,rfl⟩;let e0:(bs.take (bs.map D.int).length).map (λb=>wD [b])=(bs.map λb=>[b]).map wD:=by rw[lm,Gd,Gb];rfl
  rw[show List.map (λb=>wD [b]) (C5 _ bs)=(bs.map λb=>[b]).map wD from e0];exists ·,·,k0,m+1,rfl,hh,⟨(),()⟩,λn0 n00 n01=>?_;exists n0,rfl,⟨(),()⟩,λi ρ M'=>M=M'/\∃(ws:List (List Int))(v5 v6:Option D),ρ=[some (.cell k0),some (.lst (bs.map .int)),some (.int m),some (.int lg),some (.lst (ws.map wD)),v5,v6]/\WOk ws/\(∀w∈ws,∀b∈w,b∈bs)/\ws≠[]/\ws.length<=bs.length+i*(bs.length-1),λ_ _ _ _ _=>trivial,⟨rfl,bs.map (λb=>[b]),_,_,rfl,Zok nd,?_,?_,?_⟩,?_,?_
  .intro w hw b hb;let⟨c,hc,rfl⟩:=Jq.mp hw;rw[Jf.mp hb];exact hc
  .simpa using ne
  .rw[Ja];lia
  .rintro i x ρ M' hi rfl ⟨rfl,ws,v5,v6,rfl,ok,bn,nw,lw⟩;let hi:i<n0.toNat:=hi;let lp:0<ws.length:=Gh.mpr nw;let lw2:ws.length<=200:=by
    let:i*(bs.length-1)<=6*24:=Nat.mul_le_mul () ();lia
   let lmw:(ws.map wD).length=ws.length:=Ja _;exists ·,k0,60,rfl,hh,⟨nofun,nofun⟩,λr r0 r1=>?_;exists ·,?_;dsimp only[uNil];refine Zrw (xs:=ws.map wD) rfl ?_;exists _,·,rfl,(),?_;dsimp only;rw[lmw];let⟨a,ea⟩:=B1 (Bn r (b:=((ws.length:Nat):Int)) ());let ha:a<ws.length:=by have:=G8 r (b:=((ws.length:Nat):Int)) ();lia
   rw[ea];let cA:cut (ws.map wD) none (some (a:Int))=(ws.take a).map wD:=by rw[Zi1,F2]
   let cB:cut (ws.map wD) (some ((a:Int)+1)) none=(ws.drop (a+1)).map wD:=by rw[show(a:Int)+1=((a+1:Nat):Int)by lia,Qc,De]
   let hwa:ws[a]∈ws:=Ju ha;let h4:=ok.2 ws[a] hwa;exists ·,·,_,_,·,rfl,Yn (f:=wD) (as:=ws) (j:=a) rfl ha,?_;exists ·,·,_,·,rfl,·,ite2 (λhlt=>?_) (λhlt=>?_)
   .let hlt:((ws[a].map D.int).length:Int)<lg:=of_decide_eq_true hlt;rw[Ja]at hlt;exists ·,·,·,?_;refine Zqt (d:=.lst (ws.map wD)) rfl ?_;rw[cA];exists ·,·,?_,λj ys M'=>M=M'/\ys=(bs.take j).map λb=>wD (ws[a]++[b]),λ_ _ _ _ h=>(by rw[<-h.1];rfl),⟨rfl,rfl⟩,?_,?_
    .show(bs.map D.int).length<=sizeLine;rw[lm];exact Zk ()
    .rintro j x ys _ hj hx ⟨rfl,rfl⟩;let⟨hj',rfl⟩:=Yi hx;exists ·,·,_,_,·,rfl,Yn (f:=wD) (as:=ws) (j:=a) rfl ha,·,(show 1<=sizeLine by decide),⟨(λz=>h4.1 (List.map_eq_nil_iff.mp z)),(by rw[Ja];exact Zk (by show ws[a].length+1<=_;lia))⟩,rfl,?_;rw[Jh hj',Jk];unfold wD;rw[Jp,Jk];rfl
    .rintro ys _ ⟨rfl,rfl⟩;let e1:(bs.take (bs.map D.int).length).map (λb=>wD (ws[a]++[b]))=(bs.map λb=>ws[a]++[b]).map wD:=by rw[lm,Gd,Gb];rfl
     rw[show List.map (λb=>wD (ws[a]++[b])) (C5 _ bs)=(bs.map λb=>ws[a]++[b]).map wD from e1];refine Zm2 (xs:=(ws.take a).map wD) (ys:=(bs.map λb=>ws[a]++[b]).map wD) rfl rfl (by rw[Ja,Ja,Ja,Jv];exact Zk ()) ?_;refine⟨_,rfl,_,rfl,_,rfl,?_⟩;dsimp only[Zfv];refine Zqt (d:=.lst (ws.map wD)) rfl ?_;rw[cB,<-Jk];refine Zm2 (xs:=(ws.take a++(bs.map λb=>ws[a]++[b])).map wD) (ys:=(ws.drop (a+1)).map wD) rfl rfl (by rw[Ja,Ja,Jc,Jv,Ja,Ga];exact Zk ()) ?_;rw[<-Jk];let hsp:ws=ws.take a++ws[a]::ws.drop (a+1):=by
      rw[<-G6 ha,Jx]
     let ok2:WOk (ws.take a++(bs.map λb=>ws[a]++[b])++ws.drop (a+1)):=Zkg nd (hsp ▸ ok) ();refine .inl ⟨rfl,_,_,_,rfl,ok2,Zlf bn ha,?_,?_⟩
     .intro z;let:=congrArg Ex z;simp only[Jc,Ja,Bl]at this;lia
     .rw[Jc,Jc,Jv,Ga,Ja,Jgt,Nat.one_mul];lia
   .refine .inl ⟨rfl,ws,_,_,rfl,ok,bn,nw,?_⟩;rw[Jgt];lia
  .rintro ρ M' ⟨rfl,ws,v5,v6,rfl,ok,bn,nw,lw⟩;let lw:ws.length<=bs.length+n0.toNat*(bs.length-1):=lw;let lw2:ws.length<=200:=by
    let:n0.toNat*(bs.length-1)<=6*24:=Nat.mul_le_mul () ();lia
   let lmw:(ws.map wD).length=ws.length:=Ja _;exists ·,·,?_,λj ys M'=>M=M'/\∃us:List (List Int),ys=us.map wD/\us.Sublist (ws.take j),λ_ _ _ _ h=>(by rw[<-h.1];rfl),⟨rfl,[],rfl,List.nil_sublist _⟩,?_,?_
   .show(ws.map wD).length<=sizeLine;rw[lmw];exact Zk ()
   .rintro j x ys _ hj hx ⟨rfl,us,rfl,sb⟩;let⟨hj',rfl⟩:=Yi hx;let tk:(ws.take (j+1))=ws.take j++[ws[j]]:=Jh hj';exists ·,k0,5,rfl,hh,⟨nofun,nofun⟩,λr r0 r1=>⟨_,_,rfl,rfl,_,rfl,ite2 (λ_=>?_) (λ_=>?_)⟩
    .exact⟨_,rfl,rfl,us++[ws[j]],by rw[Jk];rfl,by rw[tk];exact sb.append (Jdv _)⟩
    .exact⟨rfl,us,rfl,by rw[tk];exact sb.trans (List.sublist_append_left _ _)⟩
   .rintro ys _ ⟨rfl,us,rfl,sb⟩;let sb:us.Sublist ws:=by
     let:us.Sublist (ws.take (ws.map wD).length):=sb;rwa [lmw,Gd]at this
    refine .inl (k us (ok.sub sb) (λw hw=>bn w (sb.subset hw)) ?_);let l1:=sb.length_le;let l2:n0.toNat*(bs.length-1)<=m.toNat*(bs.length-1):=Nat.mul_le_mul () (Jd _);let l3:((m.toNat*(bs.length-1):Nat):Int)=m*(bs.length-1):=by
     rw[Int.natCast_mul];let e1:(m.toNat:Int)=m:=by lia
     let e2:((bs.length-1:Nat):Int)=bs.length-1:=by lia
     rw[e1,e2]
    lia
theorem Jcq(T:Txt mg)(Zm:Cal P w K mg base "_law_draw" 1 ["_law_hand","_law_many"] Zdh){f:Addr}(F:Fun K "_law_table" "_law_table" Jbc f fd):FnOk P w K mg base CX0 2 f fd ["_law_hand","_law_words_here","_law_signs_here"] Zf8:=by
 refine F.ok Jag (λvs H Q E h=>?_) (λcdv A outer s H vs Q E hr h=>?_)
 .let⟨p,a,wa,sa,ws,ss,rfl,_⟩:=h;rfl
 .let⟨p,a,wa,sa,ws,ss,rfl,hh,⟨vs,ew,pw⟩,nwp,ok,lw,es,nsp,nd,lws,l100,k⟩:=h;let SC:=Jag;let Zl:Room 1 _:=hr.mono nofun;let lv:=Paired.length pw;refine⟨_,(Zd (Zs (i:=3) SC.nd rfl (Cd rfl) (Z5 We (Zw Zm Zl rfl (Za (pv 0) (Za Zi Zf))) (Zr (Qd rfl) (by rfl) T.b_max Ku (Za Zi (Za (Zr Xd (by rfl) T.b_len Dx (Za (pv 2) Zf)) Zf)))))
 (Zd (Zs (i:=4) SC.nd rfl (Cy rfl) (Z5 Zhi (Yh Ut (pv 2) (Yl (pv 3)) Y3) (Yh Ut (pv 2) Y3 (Yl (pv 3)))))
 (Zd (Vr (i:=5) SC.nd rfl rfl (T:=["_law_k"]) (cs:=[4,1]) rfl (CScope.ok (by kernel_rfl)) (Ys rfl T.b_range (Za (Zr Xd (by rfl) T.b_len Dx (Za (pv 1) Zf)) Zf)) (λ_ _ _ _=>(Zq (i:=0) (Y0 (by kernel_rfl)) rfl (Cd rfl) (Cy rfl))) (λ_ _ _ _=>Yv) (λ_ _ _ _=>(Yz (Za (Z9 (Zm0 (K:=K) rfl) (pv 1) (pv 0) (λ_ _=>rfl)) (Za (Z9 (Zm0 (K:=K) rfl) (pv 2) (pv 0) (λ_ _=>rfl)) Zf)))) (Yw nofun))
 (Zd (Y2 (Z4 Zko (Zw Zm Zl rfl (Za (pv 0) (Za Zi Zf))) Zi (Yc _))
 (Zj (Z1 (Zmb (pv 5) (Yl (Zrh Zln Zi)) (λ_ _=>⟨_,rfl⟩))))
 Z6)
 (Zj (Z1 (pv 5))))))),?_⟩
  exists ·,p,a,·,hh,nofun,nofun,λr9 H9 r90 r91 h9 g9 u9=>⟨_,rfl,_,_,rfl,.inl ⟨_,SqL.of (show H9 sa=some (.lst (ss.map V.int))by rw[u9 sa nsp];exact es),rfl⟩,_,_,rfl,_,_,rfl,rfl,?_,?_⟩
  .show(0:Int)<if(((ss.map V.int).length:Nat):Int) > 1 then(((ss.map V.int).length:Nat):Int)else 1
   split<;>lia
  rw[Ja];let e9:H9 sa=some (.lst (ss.map V.int)):=by rw[u9 sa nsp];exact es
  let w9:H9 wa=some (.lst vs):=by rw[u9 wa nwp];exact ew
  let⟨_,ep⟩:=Nq hh;let pw9:=Qr.tk pw (g9.tk ep);let z0:0<=r9 % (if((ss.length:Nat):Int) > 1 then((ss.length:Nat):Int)else 1):=Bn _ (by split<;>lia);let z1:r9 % (if((ss.length:Nat):Int) > 1 then((ss.length:Nat):Int)else 1)<=ss.length:=by
   let:=G8 r9 (show(0:Int)<if((ss.length:Nat):Int) > 1 then((ss.length:Nat):Int)else 1 by split<;>lia)
   by_cases hm:((ss.length:Nat):Int) > 1
   .rw[Dt hm]at this⊢;lia
   .rw[Ds hm]at this⊢;lia
  let⟨n,en⟩:=B1 z0;let cut1:cutV (ss.map V.int) (some (r9 % (if((ss.length:Nat):Int) > 1 then((ss.length:Nat):Int)else 1))) none=(ss.drop n).map V.int:=by rw[en,Zed () (by rw[Ja];lia),De];rfl
  let cut2:cutV (ss.map V.int) none (some (r9 % (if((ss.length:Nat):Int) > 1 then((ss.length:Nat):Int)else 1)))=(ss.take n).map V.int:=by rw[en,Zi2 () (by rw[Ja];lia),F2];rfl
  exists ·,·,·,sa,·,SqL.of e9,λq1 hq1=>?_;rw[cut1];let sA:=Zc (o:=.lst ((ss.drop n).map V.int)) hq1;let eA:(upd H9 q1 (.lst ((ss.drop n).map V.int))) q1=_:=Zh;generalize upd H9 q1 (.lst ((ss.drop n).map V.int))=HA at sA eA;exists ·,·,·,sa,·,SqL.of (sA _ _ e9),λq2 hq2=>?_;rw[cut2];let sB:=sA.trans (Zc (o:=.lst ((ss.take n).map V.int)) hq2);let eB:(upd HA q2 (.lst ((ss.take n).map V.int))) q2=_:=Zh;let eB1:=Zc (o:=.lst ((ss.take n).map V.int)) hq2 _ _ eA;generalize upd HA q2 (.lst ((ss.take n).map V.int))=HB at sB eB eB1;exists q1,q2,_,·,rfl,eB1,eB,?_,λq3 hq3=>?_
  .rw[Ja,Ja,Ga,Jv];exact Zk ()
  rw[<-Jk];let nd2:=Zes nd n;let ls2:(ss.drop n++ss.take n).length=ss.length:=by rw[Jc,Ga,Jv];lia
  generalize ss.drop n++ss.take n=tt at nd2 ls2;let sC:=sB.trans (Zc (o:=.lst (tt.map V.int)) hq3);let eC:(upd HB q3 (.lst (tt.map V.int))) q3=_:=Zh;let hC:=h9.same sC;let gC:=g9.trans (Grow.same sC);let wC:=sC _ _ w9;let pwC:=Qr.tk pw9 sC.tk;generalize upd HB q3 (.lst (tt.map V.int))=HC at sC eC hC gC wC pwC;exists ·,_,·,.inl ⟨_,SqL.of wC,rfl⟩,(vs.length:Int),rfl,(),(),U4 (n:=((vs.length:Nat):Int).toNat) (λj ys H'=>ys.length=j/\Same HC H'/\Prs H' ys ((tt.zip ws).take j)) ⟨rfl,.refl _,by rw[Fb];exact .nil⟩ ?_ (Zk ()) ?_ ?_ ?_ ?_
  .rintro j ys H' ⟨e,_⟩;exact F8 e
  .rintro j ys H' hj _;exact hj
  .rintro ys H' _;exact Jd _
  .rintro j ys H' hj ⟨e,s1,w1⟩ y H'' ⟨rfl,rfl⟩;let hj1:j<vs.length:=by lia
   let⟨hj2,t,ev,et⟩:=Qr.take1 pwC hj1;let hj3:j<tt.length:=by lia
   let hz:j<(tt.zip ws).length:=by rw[List.length_zip];lia
   exists ·,·,q3,_,_,·,rfl,SqL.of (s1 _ _ eC),Nx (v:=V.int tt[j]) (by rw[Ge,Jb hj3];rfl),·,·,wa,_,_,·,rfl,SqL.of (s1 _ _ wC),Nx (v:=.ref t) (by rw[Jb hj1,ev]),by show 2<=sizeLine;decide,λq hq=>?_;exists by rw[Jc,e];rfl,s1.trans (Zc hq),?_;rw[Jh hz];refine L2.Paired.snoc ⟨q,t,rfl,?_,?_⟩ (Prs.tk w1 (Zc hq).tk)
   .rw[Zh,List.getElem_zip]
   .rw[List.getElem_zip];exact Zc hq _ _ (s1 _ _ et)
  .rintro ys H1 ⟨e,s1,w1⟩ q hq;let ez:(tt.zip ws).take ((vs.length:Nat):Int).toNat=tt.zip ws:=Gr (by rw[List.length_zip];lia);rw[ez]at w1;let sD:=s1.trans (Zc (o:=.lst ys) hq);let eD:(upd H1 q (.lst ys)) q=_:=Zh;let wD:=Prs.tk w1 (Zc (o:=.lst ys) hq).tk;let⟨_,epC⟩:=Nq hC;let nq:q≠p:=Et (Zy (s1 _ _ epC) hq);let nq0:H q=none:=gC.free (s1.free hq) nq;let hD:=hC.same sD;let gD:=gC.trans (Grow.same sD);generalize upd H1 q (.lst ys)=HD at sD eD wD hD gD;let fr:Free (tt.zip ws):=ok.free nd2;let sn:(tt.zip ws).map (·.2)=ws:=by
    let:=Ky (l₁:=tt) (l₂:=ws) ();exact this
   let fi:Fits (tt.zip ws):=⟨by rw[List.length_zip];lia,λp hp=>ok.2 _ (by rw[<-sn];exact Jq.mpr ⟨p,hp,rfl⟩)⟩;exists ·,p,a,·,hD,nofun,nofun,λrd HE rd0 rd1 hE gE uE=>⟨rfl,_,rfl,?_⟩;let eE:HE q=some (.lst ys):=by rw[uE q nq];exact eD
   let⟨_,epD⟩:=Nq hD;let wE:=Prs.tk wD (gE.tk epD);refine ite2 (λ_=>?_) (λ_=>?_)
   .exists ·,·,·,rfl,q,·,SqL.of eE,λq4 hq4=>?_;let sF:=Zc (o:=.lst ys.reverse) hq4;let⟨_,epE⟩:=Nq hE;let nq4:q4≠p:=Et (Zy epE hq4);refine k q4 (tt.zip ws).reverse _ ((gD.trans gE).free hq4 nq4) nq4 ⟨_,Zh,Prs.tk (L2.Paired.rev wE) sF.tk⟩ fr.rev ⟨by rw[Dd];exact fi.1,λp hp=>fi.2 p (List.mem_reverse.mp hp)⟩ ?_ (hE.same sF) ((gD.trans gE).trans (Grow.same sF));rw[Ft,sn];exact Fl _
   .exists ·,k q (tt.zip ws) HE nq0 nq ⟨_,eE,wE⟩ fr fi (by rw[sn]) hE (gD.trans gE)
theorem D2(T:Txt mg){f:Addr}(F:Fun K "odds_between" "odds_between" Ww f fd):FnOk P w K mg base CX0 1 f fd ["one","other"] Zlz:=by
 refine F.ok Jbv (λvs H Q E h=>?_) (λcdv A outer s H vs Q E hr h=>?_)
 .let⟨v1,v2,p,q,rfl,_⟩:=h;rfl
 .let⟨v1,v2,p,q,rfl,⟨t1,w1,rfl,a1,b1⟩,⟨t2,w2,rfl,a2,b2⟩,l1,l2,k⟩:=h;let SC:=Jbv;let hu:=hr.units;refine⟨_,(Zd (Y2 (Z4 Zko (Z9 Tq (pv 0) Zi (λ_ _=>rfl)) (Z9 Tq (pv 1) Zi (λ_ _=>rfl)) (Yc _))
 (Zj (Z1 Zg8))
 Z6)
 (Zd (Zs (i:=2) SC.nd rfl (Cd rfl) (Zr (Za7 rfl) (by rfl) T.b_min Ja9 (Za (Zr Xd (by rfl) T.b_len Dx (Za (Z9 Tq (pv 0) Zi (λ_ _=>rfl)) Zf)) (Za (Zr Xd (by rfl) T.b_len Dx (Za (Z9 Tq (pv 1) Zi (λ_ _=>rfl)) Zf)) Zf))))
 (Zd (Y2 (Z4 (Zdx hu) (Yh Zbw (Z9 Tq (pv 0) Zi (λ_ _=>rfl)) Y3 (Yl (pv 2))) (Yh Zbw (Z9 Tq (pv 1) Zi (λ_ _=>rfl)) Y3 (Yl (pv 2))) (Yc _))
 (Zj (Z1 Zg8))
 Z6)
 (Zj (Z1 W5))))),?_⟩
  exists ·,t1,_,_,·,rfl,SqT.of a1,rfl,·,t2,_,_,·,rfl,SqT.of a2,rfl,rfl,·,?_;refine ite2 (λh=>?_) (λh=>?_)
  .let e:p.1=q.1:=by simpa using h
   let o:Zhk p q=.str (C1 "twice"):=Dt e;let kk:=k H (.refl _);rw[o]at kk;exact kk
  .let e:¬ p.1=q.1:=by simpa using h
   refine⟨_,rfl,t1,_,_,_,rfl,rfl,SqT.of a1,rfl,_,_,rfl,.inr ⟨_,SqT.of b1,rfl⟩,_,rfl,t2,_,_,_,rfl,rfl,SqT.of a2,rfl,_,_,rfl,.inr ⟨_,SqT.of b2,rfl⟩,_,_,rfl,?_⟩;rw[Ja,Ja,Zoq];refine⟨_,rfl,t1,_,_,_,rfl,rfl,SqT.of a1,rfl,_,rfl,_,rfl,Zgy b1 (Jdg _) () λu1 H1 s1 e1=>⟨_,rfl,t2,_,_,_,rfl,rfl,SqT.of (s1 _ _ a2),rfl,_,rfl,_,rfl,Zgy (s1 _ _ b2) (Jdg _) () λu2 H2 s2 e2 =>
    ⟨_,_,DV.tup (SqT.of (s2 _ _ e1)) (Ud _),DV.tup (SqT.of e2) (Ud _),(Td _).shaped nofun,(Td _).shaped nofun,_,rfl,?_⟩⟩⟩
   rw[Zik,Gy];let kk:=k H2 (s1.trans s2);unfold Zhk at kk;rw[Ds e]at kk;refine ite2 (λh=>?_) (λh=>?_)
   .rw[Dt (of_decide_eq_true h)]at kk;exact kk
   .rw[Ds (λz=>h (Du z))]at kk;exact kk
theorem Jcd(T:Txt mg)(W1:Cal P w K mg base "odds_between" 1 ["one","other"] Zlz){f:Addr}(F:Fun K "fault" "fault" Zb0 f fd):FnOk P w K mg base CX0 2 f fd ["table"] Tc:=by
 refine F.ok Jbe (λvs H Q E h=>?_) (λcdv A outer s H vs Q E hr h=>?_)
 .let⟨a,L,rfl,_⟩:=h;rfl
 .let⟨a,L,rfl,⟨vs,ea,pa⟩,fr,⟨hl,hw⟩,k⟩:=h;let SC:=Jbe;let Rx:Room 1 _:=hr.mono nofun;let lv:=Paired.length pa;refine⟨_,(Zd (X6 Cm rfl (Ys rfl T.b_range (Za (Zr Xd (by rfl) T.b_len Dx (Za (pv 0) Zf)) Zf)) (Zq (i:=1) SC.nd rfl (Cd rfl))
 (Zj (X6 Cm rfl (Ys rfl T.b_range (Za (pv 1) Zf)) (Zq (i:=2) SC.nd rfl (Cd rfl))
 (Zd (Zs (i:=3) SC.nd rfl (Cd rfl) (Zw W1 Rx rfl (Za (Z9 Xf (pv 0) (pv 2) (λ_ _=>rfl)) (Za (Z9 Xf (pv 0) (pv 1) (λ_ _=>rfl)) Zf))))
 (Zj (Y2 (Wd (Pz (pv 3)))
 (Zj (Z1 (Yz (Za (pv 3) (Za (pv 2) (Za (pv 1) Zf))))))
 Z6))))))
 (Zj (Z1 W5))),?_⟩
  exists ·,_,·,.inl ⟨_,SqL.of ea,rfl⟩,(vs.length:Int),rfl,(),(),R7 (n:=vs.length) (λj σ H'=>∃v1 v2 v3,σ=[some (.ref a),v1,v2,v3]/\Same H H') ⟨_,_,_,rfl,.refl _⟩ ?_ ?_
  .rintro j σ H1 hj ⟨v1,v2,v3,rfl,s1⟩;exists ·,(0+(j:Int)),rfl,(),(),R7 (n:=(0+(j:Int)).toNat) (λi σ H'=>∃v2 v3,σ=[some (.ref a),some (.int (0+(j:Int))),v2,v3]/\Same H H') ⟨_,_,rfl,s1⟩ ?_ ?_
   .rintro i σ H2 hi ⟨v2,v3,rfl,s2⟩;let hij:i<j:=by lia
    let h1:=Paired.at pa (i:=i) () ();let h2:=Paired.at pa (i:=j) hj ();exists ·,·,a,_,_,·,rfl,SqL.of (s2 _ _ ea),(Nx (Jb (by lia:i<vs.length))),·,·,a,_,_,·,rfl,SqL.of (s2 _ _ ea),(Nx (Jb hj)),_,_,_,·,h1.tk s2.tk,h2.tk s2.tk,?_,?_,λH3 s3=>?_
    .exact J9 (hw _ (Ju _)).2 nofun
    .exact J9 (hw _ (Ju _)).2 nofun
    .rw[Zex (fr.get () () hij)];exists ·,·,Zum rfl ?_;exists _,·,s2.trans s3
   .rintro σ H2 ⟨v2,v3,rfl,s2⟩;exists _,_,·,s2
  .rintro σ H1 ⟨v1,v2,v3,rfl,s1⟩;exact k H1 s1
def Jcg(T:Txt mg)(Zc7:Cal P w K mg base "fault" 2 ["table"] Tc){f:Addr}(F:Fun K "refuse_fault" "refuse_fault" Wv f fd):FnOk P w K mg base CX0 3 f fd ["table"] Tc:=by
 refine F.ok Jbf (λvs H Q E h=>?_) (λcdv A outer s H vs Q E hr h=>?_)
 .let⟨a,L,rfl,_⟩:=h;rfl
 .let⟨a,L,rfl,ta,fr,fi,k⟩:=h;let SC:=Jbf;let Zk0:Room 2 _:=hr.mono nofun;refine⟨_,(Zd (Zs (i:=1) SC.nd rfl (Cd rfl) (Zw Zc7 Zk0 rfl (Za (pv 0) Zf)))
 (Zd (Y2 (Wd (Vs (pv 1)))
 (Zj Zn8)
 Z6)
 (Zd (Y2 (Z4 Zko (Z9 Tq (pv 1) Zi (λ_ _=>rfl)) Zg8 (Yc _))
 (Zj Zdq)
 Z6)
 (Zj Zdq)))),?_⟩
  exists ·,a,L,rfl,ta,fr,fi,λH1 s1=>?_;exists ·,·,iteT (k H1 s1)
theorem Jbd(T:Txt mg){f:Addr}(F:Fun K "beginnings" "beginnings" Vo f fd):FnOk P w K mg base CX0 1 f fd ["words"] Zgb:=by
 refine F.ok Jci (λvs H Q E h=>?_) (λcdv A outer s H vs Q E hr h=>?_)
 .let⟨a,vws,ws,rfl,_⟩:=h;rfl
 .let⟨a,vws,ws,rfl,ea,pa,hl,hw,k⟩:=h;let SC:=Jci;let hu1:=Wf hr;let lv:=Paired.length pa;refine⟨_,(Zd (Zs (i:=1) SC.nd rfl (Cd rfl) Zkm)
 (Zd (X6 Cm rfl (Yf (pv 0)) (Zq (i:=2) SC.nd rfl (Cd rfl))
 (Zj (X6 Cm rfl (Ys rfl T.b_range (Za (Zr Xd (by rfl) T.b_len Dx (Za (pv 2) Zf)) Zf)) (Zq (i:=3) SC.nd rfl (Cd rfl))
 (Zj (Zn9 hu1 (pv 1) (Yh Zqr (pv 2) Y3 (Yl (pv 3))) Zb7 rfl)))))
 (Zj (Z1 (pv 1))))),?_⟩
  refine λd hd=>?_;let nad:a≠d:=Zy ea hd;let ea1:(upd H d (.dT [])) a=some (.lst vws):=by rw[Zp nad];exact ea
  refine⟨_,rfl,a,rfl,⟨_,SqL.of ea1⟩,Zd5 (xs:=vws) (λi σ H'=>∃v2 v3 kvs,σ=[some (.ref a),some (.ref d),v2,v3]/\(∀b o,H b=some o->H' b=some o)/\H' d=some (.dT kvs)/\kvs.length<=8*i/\Sj kvs (ws.take i) [] 0)
   ⟨_,_,[],rfl,Zc hd,Zh,Jd _,by rw[Fb];exact Sj.nil _⟩ ?_ ?_ ?_⟩
  .rintro i σ H1 hi ⟨v2,v3,kvs,rfl,s1,ed,hk,hb⟩;exact SqL.of (s1 _ _ ea)
  .rintro i x σ H1 hx ⟨v2,v3,kvs,rfl,s1,ed,hk,hb⟩;let hi:i<vws.length:=(Je.mp hx).1;let hi2:i<ws.length:=by lia
   let⟨tw,ex,ew⟩:=Paired.at pa hi hi2;let ex2:x=V.ref tw:=by rw[<-ex];exact(Je.mp hx).2.symm
   subst ex2;let hwl:ws[i].length<=4:=hw _ (Ju hi2);let en:(((ws[i].map V.int).length:Nat):Int).toNat=ws[i].length:=by rw[Ja];exact Gy _
   refine⟨_,rfl,_,_,rfl,.inr ⟨_,SqT.of (s1 _ _ ew),rfl⟩,(((ws[i].map V.int).length:Nat):Int),rfl,by rw[Ja];lia,by rw[Ja];lia,
    R7 (n:=(((ws[i].map V.int).length:Nat):Int).toNat) (λn σ H'=>∃v3 kvs,σ=[some (.ref a),some (.ref d),some (.ref tw),v3]/\(∀b o,H b=some o->H' b=some o)/\H' d=some (.dT kvs)/\kvs.length<=8*i+n/\Sj kvs (ws.take i) ws[i] n) ⟨_,kvs,rfl,s1,ed,hk,?_⟩ ?_ ?_⟩
   .intro u;rw[hb u];refine decide_eq_decide.mpr ⟨λz=>?_,λz=>?_⟩
    .rcases z with z|⟨_,z⟩
     .exact .inl z
     .exact absurd z (G5 _)
    .rcases z with z|⟨_,z⟩
     .exact .inl z
     .exact absurd z (G5 _)
   .rintro n σ H2 hn ⟨v3,kvs2,rfl,s2,ed2,hk2,hb2⟩;rw[en]at hn;let hcut:cutV (ws[i].map V.int) none (some (0+(n:Int)))=(wk (ws[i].take n)).map kV:=by
     rw[Zcu _ () (),Zjn]
     congr 2
     lia
    exists ·,·,·,·,tw,·,SqT.of (s2 _ _ ew),?_,λp hp=>?_
    .rintro⟨_,z⟩;rw[show(some (0+(n:Int)))=some ((n:Nat):Int)by congr 1;lia,HT.sIx_nat,Ja]at z;lia
    .rw[hcut];let npd:d≠p:=Zy ed2 hp;let hz:kvs2.length<sizeLine:=Gz (J9 hk2 ()) (show 1000<sizeLine by decide);exists d,·,DPut.t (k:=wk (ws[i].take n)) (by rw[Zp npd];exact ed2) Zh hz,?_;exists _,·,λb o e=>?_,Zh,?_,hb2.put (Br hn)
     .let nb:b≠d:=Zy e hd;rw[Zp nb];exact Zc hp b o (s2 b o e)
     .let:=Y4 kvs2 (wk (ws[i].take n)) (V.bl true);lia
   .rintro σ H2 ⟨v3,kvs2,rfl,s2,ed2,hk2,hb2⟩;rw[en]at hk2 hb2;exists _,_,kvs2,rfl,s2,ed2,(),?_;rw[Jh hi2];exact hb2.next _
  .rintro σ H1 ⟨v2,v3,kvs,rfl,s1,ed,hk,hb⟩;exists ·,k d kvs H1 s1 hd ed ?_;rw[lv,Gd]at hb;exact hb.done
abbrev lamQ:Str:=C1 "Code.__init__"++".<locals>."++"<lambda>"
abbrev lamP:Pos:=⟨111,45,111,65⟩
structure CodeT(K:Ck)(C:Addr):Prop where
 cl:Cls K C
 n_pairs:Y9 K C "pairs"
 n_words_by_sign:Y9 K C "words_by_sign"
 n_signs_by_word:Y9 K C "signs_by_word"
 n_begun:Y9 K C "begun"
 n_word_sizes:Y9 K C "word_sizes"
structure St5(C Pt:Addr)(H Hc:Hp)(x dx tp:Addr)(fs:List (Str×V))(M:List PK3):Prop where
 g:∀b o,b≠x->b≠Pt->H b=some o->Hc b=some o
 tb:V0 Pt lamP lamQ Hc
 ex:Hc x=some (.ins C dx fs)
 etp:Hc tp=some (.tup (M.map (·.v)))
 at_:∀e∈M,e.At Hc
def St5.same{C:Addr}{Hc Hn:Hp}{x tp:Addr}{fs:List (Str×V)}{M:List PK3}(h:St5 C Pt H Hc x dx tp fs M)(s:Same Hc Hn):St5 C Pt H Hn x dx tp fs M :=
 ⟨λb o n1 n2 e=>s _ _ (h.g b o n1 n2 e),h.tb.same s,s _ _ h.ex,s _ _ h.etp,λe he=>(h.at_ e he).tk s.tk⟩
def St5.fld{C:Addr}{Hc:Hp}{x tp:Addr}{fs fs':List (Str×V)}{M:List PK3}(h:St5 C Pt H Hc x dx tp fs M):St5 C Pt H (upd Hc x (.ins C dx fs')) x dx tp fs' M:=by
 let gr:Grow x Hc (upd Hc x (.ins C dx fs')):=λb o e n=>by rw[Zp n];exact e
 exists λb o n1 n2 e=>gr _ _ (h.g b o n1 n2 e) n1,h.tb.grow h.ex gr,Zh,gr _ _ h.etp (Wa h.etp h.ex λz=>by cases z),λe he=>(h.at_ e he).tk (gr.tkI h.ex)
theorem St5.new{C:Addr}{Hc:Hp}{x tp:Addr}{fs:List (Str×V)}{M:List PK3}(h:St5 C Pt H Hc x dx tp fs M){d:Addr}(hd:Hc d=none):H d=none:=by
 cases e:H d with
 |none=>rfl
 |some o =>
  let⟨ps,eP,_⟩:=h.tb;rw[h.g d o (λz=>by rw[z,h.ex]at hd;cases hd) (λz=>by rw[z,eP]at hd;cases hd) e]at hd;cases hd
theorem T7{α γ:Type}{F:α->β->Prop}{f:γ->α}{g:γ->β}:∀{M:List γ},(∀e∈M,F (f e) (g e))->Paired F (M.map f) (M.map g)
 |[],_=>.nil
 |e::r,h=>.cons (h e Ji) (T7 λx hx=>h x (Jg _ hx))
theorem T6{α γ δ:Type}{F:α->γ->Prop}{G:β->δ->Prop}{f:α->β}{g:γ->δ}(h:∀a c,F a c->G (f a) (g c)):∀{l:List α}{m:List γ},Paired F l m->Paired G (l.map f) (m.map g):=by
 intro _ _ hz9;cases hz9 with
 |nil=>
  exact .nil
 |cons a r=>
  exact .cons (h _ _ a) (T6 h r)
theorem Jbp(T:Txt mg){C:Addr}(CT:CodeT K C)(hCd:W.CodeHd base c Pt)(hBm:Bm mg base)(W0:Cal P w K mg base "refuse_fault" 3 ["table"] Tc)(V4:Cal P w K mg base "beginnings" 1 ["words"] Zgb){f:Addr}{oc:Value}{od an:Option Addr}{osl:Array (Option Value)}{kW doc pm ct:Value}(lk:K.lookup f=some ⟨oc,od,.func (Jb7 "__init__" "Code.__init__" (Wi Zz) (Xs Zz) (Zo Zz) .none kW doc pm an (.ref c) ct),osl⟩)(hcd:Jc5 K (.ref c) "Code.__init__"=true) :
  FnOk P w K mg base CX0 4 f (Jb7 "__init__" "Code.__init__" (Wi Zz) (Xs Zz) (Zo Zz) .none kW doc pm an (.ref c) ct) ["self","table"] (Zbv C Pt lamP lamQ):=by
 refine Fun.okC lk hcd Jbz (λvs H Q E h=>?_) (λA outer s H vs Q E hr h=>?_)
 .let⟨x,a,dx,L,rfl,_⟩:=h;rfl
 .let⟨x,a,dx,L,rfl,ex,⟨vs,ea,pa⟩,fr,⟨hl,hw⟩,tb,k⟩:=h;let SC:=Jbz;let Rw:Room 3 _:=hr.mono nofun;let Nl:Room 1 _:=hr.mono nofun;let Zia:Room 3 _:=hr.mono nofun;let U0:Room 3 _:=hr.mono nofun;let hcode:(cxOf CX0 P w K mg base ["self","table"] "Code.__init__" (Zo Zz) f (.ref c) A outer s H E).nox.env.code=.ref c:=rfl;refine⟨_,(Zd (T5 (Zw W0 Rw rfl (Za (pv 1) Zf)))
 (Zd (Sm (pv 0) (Yt Wb (by rfl) T.b_tuple E5 (Za (Zki Zia rfl T.b_sorted (Za (pv 1) Zf) hcode hCd hBm rfl rfl (by rfl') (λ_ _ _ _=>rfl) (λ_ _ _ _ _ _=>(Z9 (Zs7 (K:=K) rfl) (pv 0) Zi (λ_ _=>rfl)))) Zf)) rfl)
 (Zd (Sm (pv 0) (Yt (Wu U0 rfl) (by rfl) T.b_dict Ei (Za (Vg (pv 0) rfl) Zf)) rfl)
 (Zd (Sm (pv 0) (Yt (Wu U0 rfl) (by rfl) T.b_dict Ei (Za (Yq (T:=["sign","word"]) (cs:=[]) rfl (CScope.ok (by kernel_rfl)) (Qz (Vg (pv 0) rfl)) (λ_ _ _ _=>(Wr (n:=2) rfl (Z0 (Zq (i:=0) (Y0 (by kernel_rfl)) rfl (Cd rfl) (Cy rfl)) (Z0 (Zq (i:=1) (Y0 (by kernel_rfl)) rfl (Cd rfl) (Cy rfl)) Xr)) (by rfl))) (λ_ _ _ _=>Yv) (λ_ _ _ _=>(Yz (Za (pv 1) (Za (pv 0) Zf)))) (Tr (Yj nofun (Yj nofun Vb)))) Zf)) rfl)
 (Zd (Sm (pv 0) (Zw V4 Nl rfl (Za (Yq (T:=["sign","word"]) (cs:=[]) rfl (CScope.ok (by kernel_rfl)) (Qz (Vg (pv 0) rfl)) (λ_ _ _ _=>(Wr (n:=2) rfl (Z0 (Zq (i:=0) (Y0 (by kernel_rfl)) rfl (Cd rfl) (Cy rfl)) (Z0 (Zq (i:=1) (Y0 (by kernel_rfl)) rfl (Cd rfl) (Cy rfl)) Xr)) (by rfl))) (λ_ _ _ _=>Yv) (λ_ _ _ _=>(pv 1)) (Tr (Yj nofun (Yj nofun Vb)))) Zf)) rfl)
 (Zj (Sm (pv 0) (Yt Wb (by rfl) T.b_tuple E5 (Za (Zr (Zff rfl) (by rfl) T.b_sorted Ec (Za (Yt (Wu U0 rfl) (by rfl) T.b_dict Ei (Za (Yq (T:=["sign","word"]) (cs:=[]) rfl (CScope.ok (by kernel_rfl)) (Qz (Vg (pv 0) rfl)) (λ_ _ _ _=>(Wr (n:=2) rfl (Z0 (Zq (i:=0) (Y0 (by kernel_rfl)) rfl (Cd rfl) (Cy rfl)) (Z0 (Zq (i:=1) (Y0 (by kernel_rfl)) rfl (Cd rfl) (Cy rfl)) Xr)) (by rfl))) (λ_ _ _ _=>Yv) (λ_ _ _ _=>(Yz (Za (Zr (Xa (K:=K) rfl) (by rfl) T.b_len Dx (Za (pv 1) Zf)) (Za Zb7 Zf)))) (Tr (Yj nofun (Yj nofun Vb)))) Zf)) Zf)) Zf)) rfl))))))),?_⟩
  exists ·,a,L,rfl,⟨vs,ea,pa⟩,fr,⟨hl,hw⟩,λH1 s1=>?_;let⟨M,m1,m2,m3⟩:=Zl8 (pa.tk s1.tk);let⟨ps,hP,_,_⟩:=id tb;let hP1:=s1 _ _ hP;let lM:M.length=L.length:=by rw[<-m2,Ja]
  exists ·,a,M.map PK3.k,rfl,?_,?_,?_,?_,tb.same s1,?_,λH2 D L' sT T2 hD pm pw=>?_
  .let e1:(M.map PK3.k).map (·.1)=vs:=by rw[Gb,<-m1];rfl
   rw[e1];exact SqL.of (s1 _ _ ea)
  .rw[Ja];lia
  .intro q hq;let⟨e,he,rfl⟩:=Jq.mp hq;let⟨t,_,_,cw⟩:=m3 e he;exists SqT.of cw,(hw e.p (by rw[<-m2];exact Jq.mpr ⟨e,he,rfl⟩)).1
  .let e1:(M.map PK3.k).map (·.2.2)=L.map (·.2):=by rw[Gb,<-m2,Gb];rfl
   rw[e1];exact Jz.mpr (fr.imp λ{a b}z e=>z.2.1 (by rw[e];exact Jo _))
  .intro H2 q sT hq;let⟨e,he,rfl⟩:=Jq.mp hq;let⟨t,ev,b,_⟩:=m3 e he;exists e.v,rfl,t,_,1,_,ev,rfl,SqT.of (sT _ _ (Wa b hP1 λz=>by cases z) b),rfl,rfl,rfl
  .let⟨M',pM,rfl⟩:=Zg7 pm rfl;let xP:x≠Pt:=Wa ex hP λz=>by cases z
   let ex2:H2 x=some (.ins C dx []):=sT _ _ xP (s1 _ _ ex);let at2:∀e∈M',e.At H2:=λe he=>(m3 e (pM.mem_iff.mp he)).tk (sT.tk hP1);let vv:(M'.map PK3.k).map (·.1)=M'.map (·.v):=by rw[Gb];rfl
   let hS:(M'.map (·.p)).Perm L:=by have:=pM.map (·.p);rw[m2]at this;exact this
   let lM':M'.length<64:=by have:=hS.length_eq;rw[Ja]at this;lia
   let hpL:∀e∈M',e.p∈L:=λe he=>hS.mem_iff.mp (Jq.mpr ⟨e,he,rfl⟩);let hri:Zc1 (M'.map (·.p)):=Jz.mpr ((Jz.mp pw).imp λz=>z);refine⟨_,_,rfl,.inl ⟨SqL.of Zh,λtp htp=>?_⟩⟩;rw[vv];rw[vv]at htp;let sA:Same H2 (upd (upd H2 D (.lst (M'.map (·.v)))) tp (.tup (M'.map (·.v)))):=(Zc hD).trans (Zc htp);let S3:St5 C Pt H (upd (upd H2 D (.lst (M'.map (·.v)))) tp (.tup (M'.map (·.v)))) x dx tp [] M' :=
    ⟨λb o n1 n2 e=>sA _ _ (sT _ _ n2 (s1 _ _ e)),T2.same sA,sA _ _ ex2,Zh,λe he=>(at2 e he).tk sA.tk⟩
   generalize upd (upd H2 D (.lst (M'.map (·.v)))) tp (.tup (M'.map (·.v)))=H3 at S3;exists ·,x,C,dx,[],rfl,S3.ex,CT.cl,CT.n_pairs,nofun,?_;let S4:=S3.fld (fs':=[("pairs",.ref tp)]);show tSeq _ _ _ _ (upd H3 x (.ins C dx [("pairs",.ref tp)]));generalize upd H3 x (.ins C dx [("pairs",.ref tp)])=H4 at S4;exists ·,x,C,dx,_,·,S4.ex,CT.cl,CT.n_pairs,rfl,tp,_,(M'.map λe=>((Cp e.p.1:Key),V.ref e.tw)).map (λz=>(kV z.1,z.2)),.dK [],rfl,.inr S4.etp,?_,.inl rfl,λd1 hd1=>⟨_,Nv _ [] ?_,?_⟩
   .rw[Gb];exact T7 λe he=>by
     let⟨t,ev,b,_⟩:=S4.at_ e he;exists t,ev,SqT.of b
   .rw[Bl,Ja];exact Gk (by lia:0+M'.length<64) (show 64<=sizeLine by decide)
   let nd1:=S4.new hd1;let ndS:(M'.map λe=>((Cp e.p.1:Key))).Nodup:=by
    let h1:(L.map (·.1)).Nodup:=Jz.mpr (fr.imp λ{a b}z=>z.1);let h2:((M'.map (·.p)).map (·.1)).Nodup:=(hS.map (·.1)).nodup_iff.mpr h1;rw[Gb]at h2;exact Jz.mpr ((Jz.mp h2).imp λz e=>z (Ho e))
   let wb:∀Hx:Hp,(∀e∈M',e.At Hx)->Zfr Hx (Xk [] (M'.map λe=>((Cp e.p.1:Key),V.ref e.tw))) (M'.map (·.p)):=λHx ax=>by
    exists λp hp=>?_,λsg hsg=>?_
    .let⟨e,he,rfl⟩:=Jq.mp hp;let⟨t,_,_,cw⟩:=ax e he;exists e.tw,R9 _ _ (by rw[Gb];exact ndS) (Jq.mpr ⟨e,he,rfl⟩),cw
    .rw[Ts _ _ λz hz=>?_]
     .rfl
     .let⟨e,he,rfl⟩:=Jq.mp hz;exact λq=>hsg e.p (Jq.mpr ⟨e,he,rfl⟩) (Ho q)
   let S5:=S4.same (Zc (o:=.dK (Xk [] (M'.map λe=>((Cp e.p.1:Key),V.ref e.tw)))) hd1);let ed1:(upd H4 d1 (.dK (Xk [] (M'.map λe=>((Cp e.p.1:Key),V.ref e.tw))))) d1=_:=Zh;generalize upd H4 d1 (.dK (Xk [] (M'.map λe=>((Cp e.p.1:Key),V.ref e.tw))))=H5 at S5 ed1;exists ·,x,C,dx,·,S5.ex,CT.cl,CT.n_words_by_sign,(by show 1<1000;decide),?_;let S6:=S5.fld (fs':=[("pairs",.ref tp),("words_by_sign",.ref d1)]);let ed1':(upd H5 x (.ins C dx [("pairs",.ref tp),("words_by_sign",.ref d1)])) d1=_:=(Zp (Wa ed1 S5.ex λz=>by cases z)).trans ed1;show tSeq _ _ _ _ (upd H5 x (.ins C dx [("pairs",.ref tp),("words_by_sign",.ref d1)]))
   generalize upd H5 x (.ins C dx [("pairs",.ref tp),("words_by_sign",.ref d1)])=H6 at S6 ed1';let go6:∀(Hx:Hp)(i:Nat),Hx tp=some (.tup (M'.map (·.v)))->i<M'.length->(Itt K tp).go i Hx:=λHx i e hi=>⟨_,_,SqT.of e,Jb (by rw[Ja];exact hi)⟩;let stop6:∀Hx:Hp,Hx tp=some (.tup (M'.map (·.v)))->(Itt K tp).stop M'.length Hx:=λHx e=>⟨_,SqT.of e,by rw[Ja];exact Jd _⟩;let yld6:∀(Hx:Hp)(i:Nat)(y:V)(H':Hp)(hi:i<M'.length),Hx tp=some (.tup (M'.map (·.v)))->(Itt K tp).yld i Hx y H'->H'=Hx/\y=M'[i].v:=λHx i y H' hi e z=>by
    exists z.1,?_;let:=z.2 _ (SqT.of e);rw[Ge,Jb hi]at this;exact(Dw this).symm
   refine⟨_,rfl,x,C,dx,_,_,rfl,S6.ex,CT.cl,CT.n_pairs,rfl,tp,rfl,⟨_,SqT.of S6.etp⟩,U4 (n:=M'.length)
    (λj ys Hn=>∃ts:List Addr,ys=ts.map V.ref/\ts.length=j/\Same H6 Hn/\Paired (λt(e:PK3)=>Hn t=some (.tup [.ref e.tw,.int e.p.1])) ts (M'.take j)) ⟨[],rfl,rfl,.refl _,by rw[Fb];exact .nil⟩ ?_ (Zk ()) ?_ ?_ ?_ ?_⟩
   .rintro j ys Hn ⟨ts,rfl,rfl,_⟩;rw[Ja];exact Jd _
   .rintro j ys Hn hj ⟨ts,rfl,rfl,sn,_⟩;exact go6 _ _ (sn _ _ S6.etp) hj
   .rintro ys Hn ⟨ts,rfl,_,sn,_⟩;exact stop6 _ (sn _ _ S6.etp)
   .rintro j ys Hn hj ⟨ts,rfl,rfl,sn,pn⟩ y H' hy;let⟨rfl,rfl⟩:=yld6 _ _ _ _ hj (sn _ _ S6.etp) hy;let⟨t,ev,b,cw⟩:=(S6.at_ _ (Ju hj)).tk sn.tk;exists t,_,ev,SqT.of b,rfl,_,·,_,·,rfl,?_;exists ·,·,by show 2<=sizeLine;decide,λq hq=>?_;exists ts++[q],by rw[Jk];rfl,by rw[Jc];rfl,sn.trans (Zc hq),?_;rw[Jh hj];refine L2.Paired.snoc ?_ ?_
    .exact Zh
    .exact L2.Paired.mapP pn λ_ _ z=>Zc hq _ _ z
   .rintro ys Hn ⟨ts,rfl,lt,sn,pn⟩ q hq;rw[Gd]at pn;let sq:=sn.trans (Zc (o:=.lst (ts.map V.ref)) hq);let pn':=Paired.mapP pn λ_ _ z=>Zc (o:=.lst (ts.map V.ref)) hq _ _ z;let eq:(upd Hn q (.lst (ts.map V.ref))) q=_:=Zh;let S7:=S6.same sq;let ed7:=sq _ _ ed1';generalize upd Hn q (.lst (ts.map V.ref))=H7 at S7 ed7 pn' eq;exists q,_,(M'.map λe=>(e.tw,wk e.p.2,V.int e.p.1)).map (λz=>(.ref z.1,z.2.2)),.dT [],rfl,.inl eq,?_,.inr rfl,λd2 hd2=>⟨_,Zim hd2 _ [] ?_ ?_,?_⟩
    .rw[Gb];exact T6 (λt e z=>⟨t,rfl,SqT.of z⟩) pn'
    .rw[Bl,Ja];exact Gk (by lia:0+M'.length<64) (show 64<=sizeLine by decide)
    .intro z hz;let⟨e,he,rfl⟩:=Jq.mp hz;let⟨t,_,_,cw⟩:=S7.at_ e he;show H7 e.tw=some (.tup ((wk e.p.2).map kV));rw[Zjn];exact cw
    rw[Gb];let ndW:(M'.map λe=>wk e.p.2).Nodup:=by
     let h1:(L.map (·.2)).Nodup:=Jz.mpr (fr.imp λ{a b}z e=>z.2.1 (by rw[e];exact Jo _));let h2:((M'.map (·.p)).map (·.2)).Nodup:=(hS.map (·.2)).nodup_iff.mpr h1;rw[Gb]at h2;exact Jz.mpr ((Jz.mp h2).imp λz e=>z (Zda e))
    let sb:Zgf (Xk [] (M'.map λe=>(wk e.p.2,V.int e.p.1))) (M'.map (·.p)):=by
     exists λp hp=>?_,λu hu=>?_
     .let⟨e,he,rfl⟩:=Jq.mp hp;exact R9 _ _ (by rw[Gb];exact ndW) (Jq.mpr ⟨e,he,rfl⟩)
     .rw[Ts _ _ λz hz=>?_]
      .rfl
      .let⟨e,he,rfl⟩:=Jq.mp hz;exact λq=>hu e.p (Jq.mpr ⟨e,he,rfl⟩) (Zda q)
    let nd2:=S7.new hd2;let S8:=S7.same (Zc (o:=.dT (Xk [] (M'.map λe=>(wk e.p.2,V.int e.p.1)))) hd2);let ed8:=Zc (o:=.dT (Xk [] (M'.map λe=>(wk e.p.2,V.int e.p.1)))) hd2 _ _ ed7;let es8:(upd H7 d2 (.dT (Xk [] (M'.map λe=>(wk e.p.2,V.int e.p.1))))) d2=_:=Zh;show tVar 0 _ (upd H7 d2 (.dT (Xk [] (M'.map λe=>(wk e.p.2,V.int e.p.1))))) _;generalize upd H7 d2 (.dT (Xk [] (M'.map λe=>(wk e.p.2,V.int e.p.1))))=H8 at S8 ed8 es8;exists ·,x,C,dx,·,S8.ex,CT.cl,CT.n_signs_by_word,(by show 2<1000;decide),?_;let S9:=S8.fld (fs':=[("pairs",.ref tp),("words_by_sign",.ref d1),("signs_by_word",.ref d2)])
    let ed9:(upd H8 x (.ins C dx [("pairs",.ref tp),("words_by_sign",.ref d1),("signs_by_word",.ref d2)])) d1=_:=(Zp (Wa ed8 S8.ex λz=>by cases z)).trans ed8;let es9:(upd H8 x (.ins C dx [("pairs",.ref tp),("words_by_sign",.ref d1),("signs_by_word",.ref d2)])) d2=_:=(Zp (Wa es8 S8.ex λz=>by cases z)).trans es8;show tSeq _ _ _ _ (upd H8 x (.ins C dx [("pairs",.ref tp),("words_by_sign",.ref d1),("signs_by_word",.ref d2)]));generalize upd H8 x (.ins C dx [("pairs",.ref tp),("words_by_sign",.ref d1),("signs_by_word",.ref d2)])=H9 at S9 ed9 es9;refine⟨_,rfl,x,C,dx,_,_,rfl,S9.ex,CT.cl,CT.n_pairs,rfl,tp,rfl,⟨_,SqT.of S9.etp⟩,U4 (n:=M'.length)
     (λj ys Hn=>ys=(M'.take j).map (λe=>V.ref e.tw)/\Hn=H9) ⟨by rw[Fb];rfl,rfl⟩ ?_ (Zk ()) ?_ ?_ ?_ ?_⟩
    .rintro j ys Hn ⟨rfl,rfl⟩;rw[Ja,Jv];exact Nat.min_le_left _ _
    .rintro j ys Hn hj ⟨rfl,rfl⟩;exact go6 _ _ S9.etp hj
    .rintro ys Hn ⟨rfl,rfl⟩;exact stop6 _ S9.etp
    .rintro j ys Hn hj ⟨rfl,rfl⟩ y H' hy;let⟨rfl,rfl⟩:=yld6 _ _ _ _ hj S9.etp hy;let⟨t,ev,b,cw⟩:=S9.at_ _ (Ju hj);exists t,_,ev,SqT.of b,rfl,_,·,_,·,rfl,?_;exists ·,?_,rfl;rw[Jh hj,Jk];rfl
    .rintro ys Hn ⟨rfl,rfl⟩ q2 hq2;rw[Gd];let sq2:=Zc (o:=.lst (M'.map λe=>V.ref e.tw)) hq2;let eq2:(upd Hn q2 (.lst (M'.map λe=>V.ref e.tw))) q2=_:=Zh;let S10:=S9.same sq2;let ed10:=sq2 _ _ ed9;let es10:=sq2 _ _ es9;generalize upd Hn q2 (.lst (M'.map λe=>V.ref e.tw))=H10 at S10 ed10 es10 eq2;exists q2,_,M'.map (·.p.2),rfl,eq2,T7 λe he=>?_,by rw[Ja];exact lM',?_,λd3 k3 H11 s11 nd3 ed3 hb3=>?_
     .let⟨t,_,_,cw⟩:=S10.at_ e he;exists ·,cw
     .intro u hu;let⟨e,he,rfl⟩:=Jq.mp hu;exact(hw _ (hpL e he)).2
     let nd3':=S10.new nd3;let S11:=S10.same s11;let ed11:=s11 _ _ ed10;let es11:=s11 _ _ es10;exists ·,x,C,dx,·,S11.ex,CT.cl,CT.n_begun,(by show 3<1000;decide),?_;let S12:=S11.fld (fs':=[("pairs",.ref tp),("words_by_sign",.ref d1),("signs_by_word",.ref d2),("begun",.ref d3)]);let ed12:(upd H11 x (.ins C dx [("pairs",.ref tp),("words_by_sign",.ref d1),("signs_by_word",.ref d2),("begun",.ref d3)])) d1=_:=(Zp (Wa ed11 S11.ex λz=>by cases z)).trans ed11;let es12:(upd H11 x (.ins C dx [("pairs",.ref tp),("words_by_sign",.ref d1),("signs_by_word",.ref d2),("begun",.ref d3)])) d2=_:=(Zp (Wa es11 S11.ex λz=>by cases z)).trans es11
     let eb12:(upd H11 x (.ins C dx [("pairs",.ref tp),("words_by_sign",.ref d1),("signs_by_word",.ref d2),("begun",.ref d3)])) d3=_:=(Zp (Wa ed3 S11.ex λz=>by cases z)).trans ed3;let pf:putF (C1 "begun") (V.ref d3) [("pairs",.ref tp),("words_by_sign",.ref d1),("signs_by_word",.ref d2)]=([("pairs",.ref tp),("words_by_sign",.ref d1),("signs_by_word",.ref d2),("begun",.ref d3)]:List (Str×V)):=by rfl
     rw[pf];generalize upd H11 x (.ins C dx [("pairs",.ref tp),("words_by_sign",.ref d1),("signs_by_word",.ref d2),("begun",.ref d3)])=H12 at S12 ed12 es12 eb12;refine⟨_,rfl,x,C,dx,_,_,rfl,S12.ex,CT.cl,CT.n_pairs,rfl,tp,rfl,⟨_,SqT.of S12.etp⟩,U4 (n:=M'.length)
      (λj ys Hn=>∃ts:List Addr,ys=ts.map V.ref/\ts.length=j/\Same H12 Hn/\Paired (λt(e:PK3)=>Hn t=some (.tup [.int (e.p.2.length:Int),.bl true])) ts (M'.take j)) ⟨[],rfl,rfl,.refl _,by rw[Fb];exact .nil⟩ ?_ (Zk ()) ?_ ?_ ?_ ?_⟩
     .rintro j ys Hn ⟨ts,rfl,rfl,_⟩;rw[Ja];exact Jd _
     .rintro j ys Hn hj ⟨ts,rfl,rfl,sn,_⟩;exact go6 _ _ (sn _ _ S12.etp) hj
     .rintro ys Hn ⟨ts,rfl,_,sn,_⟩;exact stop6 _ (sn _ _ S12.etp)
     .rintro j ys Hn hj ⟨ts,rfl,rfl,sn,pn⟩ y H' hy;let⟨rfl,rfl⟩:=yld6 _ _ _ _ hj (sn _ _ S12.etp) hy;let⟨t,ev,b,cw⟩:=(S12.at_ _ (Ju hj)).tk sn.tk;exists t,_,ev,SqT.of b,rfl,_,·,_,·,rfl,?_;exists ·,_,·,.inr ⟨_,SqT.of cw,rfl⟩,by show 2<=sizeLine;decide,λq hq=>?_;exists ts++[q],by rw[Jk];rfl,by rw[Jc];rfl,sn.trans (Zc hq),?_;rw[Jh hj];refine L2.Paired.snoc ?_ ?_
      .rw[Ja];exact Zh
      .exact L2.Paired.mapP pn λ_ _ z=>Zc hq _ _ z
     .rintro ys Hn ⟨ts,rfl,lt,sn,pn⟩ q3 hq3;rw[Gd]at pn;let sq3:=sn.trans (Zc (o:=.lst (ts.map V.ref)) hq3);let pn':=Paired.mapP pn λ_ _ z=>Zc (o:=.lst (ts.map V.ref)) hq3 _ _ z;let eq3:(upd Hn q3 (.lst (ts.map V.ref))) q3=_:=Zh;let S13:=S12.same sq3;let ed13:=sq3 _ _ ed12;let es13:=sq3 _ _ es12;let eb13:=sq3 _ _ eb12;generalize upd Hn q3 (.lst (ts.map V.ref))=H13 at S13 ed13 es13 eb13 pn' eq3;exists q3,_,((M'.map λe=>(e.p.2.length:Int)).map λz=>((Cp z:Key),V.bl true)).map (λz=>(kV z.1,z.2)),.dK [],rfl,.inl eq3,?_,.inl rfl,λd5 hd5=>⟨_,Nv _ [] ?_,?_⟩
      .rw[Gb,Gb];exact T6 (λt e z=>⟨t,rfl,SqT.of z⟩) pn'
      .rw[Bl,Ja,Ja];exact Gk (by lia:0+M'.length<64) (show 64<=sizeLine by decide)
      let⟨ns,ens,nd,mem⟩:=Qa (M'.map λe=>(e.p.2.length:Int)) [] [] rfl .nil;let lk5:=Zd8 ((M'.map λe=>(e.p.2.length:Int)).map λz=>((Cp z:Key),V.bl true)) [];let S14:=S13.same (Zc (o:=.dK (Xk [] ((M'.map λe=>(e.p.2.length:Int)).map λz=>((Cp z:Key),V.bl true)))) hd5);let ed14:=Zc (o:=.dK (Xk [] ((M'.map λe=>(e.p.2.length:Int)).map λz=>((Cp z:Key),V.bl true)))) hd5 _ _ ed13;let es14:=Zc (o:=.dK (Xk [] ((M'.map λe=>(e.p.2.length:Int)).map λz=>((Cp z:Key),V.bl true)))) hd5 _ _ es13;let eb14:=Zc (o:=.dK (Xk [] ((M'.map λe=>(e.p.2.length:Int)).map λz=>((Cp z:Key),V.bl true)))) hd5 _ _ eb13
      let e5:(upd H13 d5 (.dK (Xk [] ((M'.map λe=>(e.p.2.length:Int)).map λz=>((Cp z:Key),V.bl true))))) d5=_:=Zh;generalize upd H13 d5 (.dK (Xk [] ((M'.map λe=>(e.p.2.length:Int)).map λz=>((Cp z:Key),V.bl true))))=H14 at S14 ed14 es14 eb14 e5;exists d5,_,ns,rfl,e5,ens,by rw[Ja,Ja,Bl]at lk5;lia,λD5 ns' hD5 pN riN=>?_;exists D5,·,.inl ⟨SqL.of Zh,λd4 hd4=>?_⟩;let sz:=(Zc (o:=.lst (ns'.map V.int)) hD5).trans (Zc (o:=.tup (ns'.map V.int)) hd4);let S15:=S14.same sz;let ed15:=sz _ _ ed14;let es15:=sz _ _ es14;let eb15:=sz _ _ eb14;let ez15:(upd (upd H14 D5 (.lst (ns'.map V.int))) d4 (.tup (ns'.map V.int))) d4=_:=Zh
      generalize upd (upd H14 D5 (.lst (ns'.map V.int))) d4 (.tup (ns'.map V.int))=H15 at S15 ed15 es15 eb15 ez15;exists ·,x,C,dx,·,S15.ex,CT.cl,CT.n_word_sizes,(by show 4<1000;decide),?_;let S16:=S15.fld (fs':=[("pairs",.ref tp),("words_by_sign",.ref d1),("signs_by_word",.ref d2),("begun",.ref d3),("word_sizes",.ref d4)]);let pf2:putF (C1 "word_sizes") (V.ref d4) [("pairs",.ref tp),("words_by_sign",.ref d1),("signs_by_word",.ref d2),("begun",.ref d3)]=([("pairs",.ref tp),("words_by_sign",.ref d1),("signs_by_word",.ref d2),("begun",.ref d3),("word_sizes",.ref d4)]:List (Str×V)):=by rfl
      rw[pf2];let ed16:=(Zp (a:=x) (o:=HO.ins C dx [("pairs",.ref tp),("words_by_sign",.ref d1),("signs_by_word",.ref d2),("begun",.ref d3),("word_sizes",.ref d4)]) (Wa ed15 S15.ex λz=>by cases z)).trans ed15;let es16:=(Zp (a:=x) (o:=HO.ins C dx [("pairs",.ref tp),("words_by_sign",.ref d1),("signs_by_word",.ref d2),("begun",.ref d3),("word_sizes",.ref d4)]) (Wa es15 S15.ex λz=>by cases z)).trans es15;let eb16:=(Zp (a:=x) (o:=HO.ins C dx [("pairs",.ref tp),("words_by_sign",.ref d1),("signs_by_word",.ref d2),("begun",.ref d3),("word_sizes",.ref d4)]) (Wa eb15 S15.ex λz=>by cases z)).trans eb15
      let ez16:=(Zp (a:=x) (o:=HO.ins C dx [("pairs",.ref tp),("words_by_sign",.ref d1),("signs_by_word",.ref d2),("begun",.ref d3),("word_sizes",.ref d4)]) (Wa ez15 S15.ex λz=>by cases z)).trans ez15;refine k _ (M'.map (·.p)) hS hri ⟨dx,tp,d1,d2,d3,d4,S16.ex,⟨⟨_,S16.etp,Zma S16.at_⟩,⟨_,ed16,wb _ S16.at_⟩,⟨_,es16,sb⟩,⟨k3,eb16,?_⟩,⟨ns',ez16,Zge nd (λn=>by rw[mem,Gb];simp only[List.not_mem_nil,false_or];rfl) pN riN⟩⟩,nd1,nd2,nd3'⟩ S16.tb S16.g;rw[Gb];exact hb3
def Jac(T:Txt mg){C:Addr}(CT:CodeT K C){f:Addr}(F:Fun K "word" "Code.word" Uv f fd):FnOk P w K mg base CX0 1 f fd ["self","sign"] (Zlw C):=by
 refine F.ok Jbw (λvs H Q E h=>?_) (λcdv A outer s H vs Q E hr h=>?_)
 .let⟨x,S,z,rfl,_⟩:=h;rfl
 .let⟨x,S,z,rfl,⟨dx,tp,d1,d2,d3,d4,ex,ci⟩,k1,k2⟩:=h;let⟨k3,e3,hb1,hb2⟩:=ci.wb;let SC:=Jbw;let hu1:=Wf hr;exists _,(Zj (Z1 (Zdt hu1 (Vg (pv 0) rfl) (pv 1) ⟨rfl,rfl,rfl,rfl⟩))),?_;exists ·,x,C,dx,_,·,ex,CT.cl,CT.n_words_by_sign,rfl,d1,rfl,.inl ⟨_,.inl e3⟩,·,_,DGet.k (k:=Cp z) e3,?_
  by_cases hp:∃p∈S,p.1=z
  .let⟨p,hp,e⟩:=hp;let⟨t,h1,h2⟩:=hb1 p hp;rw[e]at h1;rw[h1];exact k1 p hp e t h2
  .rw[hb2 z λp hq e=>hp ⟨p,hq,e⟩];exact k2 λp hq e=>hp ⟨p,hq,e⟩
def Jad(T:Txt mg){C:Addr}(CT:CodeT K C){f:Addr}(F:Fun K "sign" "Code.sign" Uw f fd):FnOk P w K mg base CX0 1 f fd ["self","word"] (Zlx C):=by
 refine F.ok Jbq (λvs H Q E h=>?_) (λcdv A outer s H vs Q E hr h=>?_)
 .let⟨x,t,S,u,rfl,_⟩:=h;rfl
 .let⟨x,t,S,u,rfl,⟨dx,tp,d1,d2,d3,d4,ex,ci⟩,et,k1,k2⟩:=h;let⟨k3,e3,hb1,hb2⟩:=ci.sb;let SC:=Jbq;let hu1:=Wf hr;let et':H t=some (.tup ((wk u).map kV)):=by rw[Zjn];exact et
  exists _,(Zj (Z1 (Zdt hu1 (Vg (pv 0) rfl) (pv 1) ⟨rfl,rfl,rfl,rfl⟩))),?_;exists ·,x,C,dx,_,·,ex,CT.cl,CT.n_signs_by_word,rfl,d2,rfl,.inr ⟨_,.inl e3⟩,·,_,DGet.t e3 et',?_
  by_cases hp:∃p∈S,p.2=u
  .let⟨p,hp,e⟩:=hp;let:=hb1 p hp;rw[e]at this;rw[this];exact k1 p hp e
  .rw[hb2 u λp hq e=>hp ⟨p,hq,e⟩];exact k2 λp hq e=>hp ⟨p,hq,e⟩
def Jcc(T:Txt mg){C:Addr}(CT:CodeT K C){f:Addr}(F:Fun K "live" "Code.live" Ux f fd):FnOk P w K mg base CX0 1 f fd ["self","row"] (Zf9 C):=by
 refine F.ok Jbg (λvs H Q E h=>?_) (λcdv A outer s H vs Q E hr h=>?_)
 .let⟨x,r,S,ns,rfl,_⟩:=h;rfl
 .let⟨x,r,S,ns,rfl,⟨dx,tp,d1,d2,d3,d4,ex,ci⟩,er,k⟩:=h;let⟨k3,e3,hb⟩:=ci.bg;let SC:=Jbg;let hu1:=Wf hr;exists _,(Zj (Z1 (Zhb (Zmf hu1 (Yt Wb (by rfl) T.b_tuple E5 (Za (pv 1) Zf)) (Vg (pv 0) rfl))))),?_;let et:H r=some (.tup ((wk ns).map kV)):=by rw[Zjn];exact er
  exists ·,_,·,.inr ⟨SqT.of er,?_⟩;exists ·,x,C,dx,_,·,ex,CT.cl,CT.n_begun,rfl,d3,·,DGet.t e3 et,?_;rw[hb ns];exact k
theorem Jcf(T:Txt mg){C:Addr}(CT:CodeT K C){f:Addr}(F:Fun K "signs" "Code.signs" Vp f fd):FnOk P w K mg base CX0 1 f fd ["self"] (Zdi C):=by
 refine F.ok Jab (λvs H Q E h=>?_) (λcdv A outer s H vs Q E hr h=>?_)
 .let⟨x,S,rfl,_⟩:=h;rfl
 .let⟨x,S,rfl,⟨dx,tp,d1,d2,d3,d4,ex,ci⟩,h64,k⟩:=h;let⟨us,e1,ps⟩:=ci.pr;let SC:=Jab;let hu:=hr.units;let lu:us.length=S.length:=Paired.length ps;exists _,(Zj (Z1 (Zr (Zfe (K:=K) rfl) (by rfl) T.b_sorted Ec (Za (Yq (T:=["sign","word"]) (cs:=[]) rfl (CScope.ok (by kernel_rfl)) (Qz (Vg (pv 0) rfl)) (λ_ _ _ _=>(Wr (n:=2) rfl (Z0 (Zq (i:=0) (Y0 (by kernel_rfl)) rfl (Cd rfl) (Cy rfl)) (Z0 (Zq (i:=1) (Y0 (by kernel_rfl)) rfl (Cd rfl) (Cy rfl)) Xr)) (by rfl))) (λ_ _ _ _=>Yv) (λ_ _ _ _=>(pv 0)) (Tr (Yj nofun (Yj nofun Vb)))) Zf)))),?_
  refine⟨_,rfl,x,C,dx,_,_,rfl,ex,CT.cl,CT.n_pairs,rfl,tp,rfl,⟨_,SqT.of e1⟩,U4 (n:=S.length)
   (λj ys Hn=>ys=((S.take j).map (·.1)).map V.int/\Hn=H) ⟨by rw[Fb];rfl,rfl⟩ ?_ (Zk ()) ?_ ?_ ?_ ?_⟩
  .rintro j ys Hn ⟨rfl,rfl⟩;rw[Ja,Ja,Jv];exact Nat.min_le_left _ _
  .rintro j ys Hn hj ⟨rfl,rfl⟩;exists _,_,SqT.of e1,Jb ()
  .rintro ys Hn ⟨rfl,rfl⟩;exact⟨_,SqT.of e1,()⟩
  .rintro j ys Hn hj ⟨rfl,rfl⟩ y H' hy;let⟨rfl,z2⟩:=hy;let z2:=z2 _ (SqT.of e1);let hju:j<us.length:=by lia
   rw[Jb hju]at z2;let⟨t,tw,ev,b,cw⟩:=Paired.at ps hju hj;let ey:y=.ref t:=by rw[<-Dw z2];exact ev
   exists t,_,ey,SqT.of b,rfl,_,·,_,·,rfl,?_;exists ·,?_,rfl;rw[Jh hj,Jk,Jk];rfl
  .rintro ys Hn ⟨rfl,rfl⟩ q hq;rw[Gd];refine⟨q,S.map (·.1),rfl,SqL.of Zh,by rw[Ja];exact h64,λD ns hD pm pw=>?_⟩;let hq':Hn D=none:=by
    by_cases z:D=q
    .rw[z];exact hq
    .rw[Zp z]at hD;exact hD
   exact k D _ ns hq' ((Zc hq).trans (Zc hD)) Zh pm pw
theorem Jaw(T:Txt mg){f:Addr}(F:Fun K "_law_from" "_law_from" Jan f fd):FnOk P w K mg base CX0 1 f fd ["_law_table_here","_law_row","_law_at"] Zl1:=by
 refine F.ok Jbr (λvs H Q E h=>?_) (λcdv A outer s H vs Q E hr h=>?_)
 .let⟨ta,ra,L,ns,pl,rfl,_⟩:=h;rfl
 .let⟨ta,ra,L,ns,pl,rfl,⟨vs,et,pt⟩,lL,er,hpl,k1,k2⟩:=h;let SC:=Jbr;let hu:=hr.units;let lv:=Paired.length pt;refine⟨_,(Zd (X6 Cm rfl (Yf (pv 0)) (Wr (n:=2) rfl (Z0 (Zq (i:=3) SC.nd rfl (Cd rfl)) (Z0 (Zq (i:=4) SC.nd rfl (Cd rfl)) Xr)) (by rfl))
 (Zj (Y2 (Z4 (Zdx hu) (Yt Wb (by rfl) T.b_tuple E5 (Za (Yh Ut (pv 1) (Yl (pv 2)) (Yl (Z5 Vt (pv 2) (Zr Xd (by rfl) T.b_len Dx (Za (pv 4) Zf))))) Zf)) (pv 4) (Yc _))
 (Zj (Z1 (Yz (Za (pv 3) (Za (Z5 Vt (pv 2) (Zr Xd (by rfl) T.b_len Dx (Za (pv 4) Zf))) Zf)))))
 Z6)))
 (Zj (Z1 W5))),?_⟩
  exists ·,ta,rfl,⟨_,SqL.of et⟩,Zd5 (xs:=vs) (λi σ H'=>∃v3 v4,σ=[some (.ref ta),some (.ref ra),some (.int pl),v3,v4]/\Same H H'/\∀j(hj:j<L.length),j<i->¬ L[j].2<+:ns.drop pl) ⟨_,_,rfl,.refl _,λj _ z=>absurd z (G5 _)⟩ ?_ ?_ ?_
  .rintro i σ H1 hi ⟨v3,v4,rfl,s1,_⟩;exact SqL.of (s1 _ _ et)
  .rintro i v σ H1 hv ⟨v3,v4,rfl,s1,no⟩;let hi:i<vs.length:=(Je.mp hv).1;let hi2:i<L.length:=by lia
   let⟨t,tw,ev,e1,e2⟩:=L2.Paired.at pt hi hi2;let ev':v=.ref t:=by rw[<-ev];exact(Je.mp hv).2.symm
   subst ev';let lwm:(L[i].2.map V.int).length=L[i].2.length:=Ja _;refine⟨t,_,rfl,SqT.of (s1 _ _ e1),rfl,_,_,rfl,_,_,rfl,rfl,?_⟩;refine⟨_,rfl,_,rfl,_,rfl,_,rfl,_,rfl,_,_,rfl,.inr ⟨_,SqT.of (s1 _ _ e2),rfl⟩,_,_,rfl,rfl,_,rfl,ra,_,rfl,SqL.of (s1 _ _ er),λq hq=>?_⟩;let ec:cutV (ns.map V.int) (some (pl:Int)) (some ((pl:Int)+(((L[i].2.map V.int).length:Nat):Int)))=((ns.drop pl).take L[i].2.length).map V.int:=by
    rw[lwm];exact Zpi ns hpl
   rw[ec];exists q,·,.inl ⟨SqL.of Zh,λt2 ht2=>?_⟩;let hpre:(ns.drop pl).take L[i].2.length=L[i].2↔L[i].2<+:ns.drop pl:=⟨λe=>e ▸ Fq _ _,λz=>(List.prefix_iff_eq_take.mp z).symm⟩;generalize (ns.drop pl).take L[i].2.length=u at hpre ht2;let s2:=(s1.trans (Zc hq)).trans (Zc (o:=.tup (u.map V.int)) ht2);let et2:(upd (upd H1 q (.lst (u.map V.int))) t2 (.tup (u.map V.int))) t2=_:=Zh;generalize upd (upd H1 q (.lst (u.map V.int))) t2 (.tup (u.map V.int))=H2 at s2 et2;exists ·,_,_,DV.tup (SqT.of et2) (Ud _),DV.tup (SqT.of (s2 _ _ e2)) (Ud _),(Td _).shaped nofun,(Td _).shaped nofun,·,?_
   rw[Zik];refine ite2 (λhz=>?_) (λhz=>?_)
   .let hp:=hpre.mp (of_decide_eq_true hz);exists ·,·,·,_,·,.inr ⟨_,SqT.of (s2 _ _ e2),rfl⟩,_,·,rfl,by show 2<=sizeLine;decide,λt3 ht3=>?_;refine k1 _ (Ju hi2) hp t3 _ (s2.trans (Zc ht3)) ?_;rw[Zh,lwm,F1]
   .exists _,·,s2,λj hj hji hp=>?_
    by_cases hj2:j<i
    .exact no j hj hj2 hp
    .let:j=i:=by lia
     subst this;exact of_decide_eq_false (B9 _ ▸ hz) (hpre.mpr hp)
  .rintro σ H1 ⟨v3,v4,rfl,s1,no⟩;refine k2 (λp hp hq=>?_) H1 s1;let⟨j,hj,rfl⟩:=Gg hp;exact no j hj () hq
open L3
theorem Zph(xs:List τ)(a:Int)(h0:0<=a)(h1:a<=xs.length):cut xs (some a) none++cut xs none (some a)=xs.drop a.toNat++xs.take a.toNat:=by
 obtain⟨j,rfl⟩:∃j:Nat,a=j:=⟨a.toNat,()⟩;rw[Qc,Zi1,Gy]
theorem Znn(b c:Int)(hc:0<=c)(n:Nat):((Co n).map λj:Nat=>b+(1+c)*(j:Int)).Nodup:=by
 refine Jz.mpr ((List.pairwise_lt_range (n:=n)).imp λ{i j}h e=>?_);let h1:(1+c)*(i:Int)<(1+c)*(j:Int):=Int.mul_lt_mul_of_pos_left () ();lia
theorem Jcj(T:Txt mg){C:Addr}(Zm:Cal P w K mg base "_law_draw" 1 ["_law_hand","_law_many"] (spOf ⟨C,K⟩ Zct)){f:Addr}(F:Fun K "_law_signs" "_law_signs" Jbj f fd):FnOk P w K mg base CX0 2 f fd ["_law_hand","_law_many"] (spOf ⟨C,K⟩ Zms):=by
 refine L3.Fun.ok3 F Jcn (λds M K3 h=>?_) (λcdv A outer s H E hr=>?_)
 .let⟨k,m,rfl,_⟩:=h;rfl
 .let SC:=Jcn;let hu:=hr.units;let hu1:=Wf hr;let Zl:Room 1 _:=hr.mono nofun;refine⟨_,_,(Zd (Zs (i:=2) SC.nd rfl (Cy rfl) (Z5 (Yx (K':=K) rfl) (Z5 Zft (Zw Zm Zl rfl (Za (pv 0) (Za Zi Zf))) (Z5 Zhf Zi Zi)) (Zw Zm Zl rfl (Za (pv 0) (Za Zi Zf)))))
 (Zd (Zs (i:=3) SC.nd rfl (Cy rfl) (Z5 (Yx (K':=K) rfl) Zi (Z9 (Yr (K':=K) rfl) (Y8 (Za Zi (Za (Zw Zm Zl rfl (Za (pv 0) (Za Zi Zf))) (Za (Zw Zm Zl rfl (Za (pv 0) (Za (Z5 Zhf Zi Zi) Zf))) Zf)))) (Zw Zm Zl rfl (Za (pv 0) (Za Zi Zf))) (λ_ _=>rfl))))
 (Zd (Vr (i:=4) SC.nd rfl rfl (T:=["_law_k"]) (cs:=[2,3]) rfl (CScope.ok (by kernel_rfl)) (Ys rfl T.b_range (Za (pv 1) Zf)) (λ_ _ _ _=>(Zq (i:=0) (Y0 (by kernel_rfl)) rfl (Cd rfl) (Cy rfl))) (λ_ _ _ _=>Yv) (λ_ _ _ _=>(Z5 (Yx (K':=K) rfl) (pv 1) (Z5 Zft (pv 2) (pv 0)))) (Yw nofun))
 (Zd (Zs (i:=5) SC.nd rfl (Cd rfl) (Z5 We (Zw Zm Zl rfl (Za (pv 0) (Za Zi Zf))) (Zr (Qd rfl) (by rfl) T.b_max Ku (Za Zi (Za (pv 1) Zf)))))
 (Zd (Zs (i:=4) SC.nd rfl (Cd rfl) (Z5 (Yx (K':=K) rfl) (Yh (Pl (K':=K) rfl) (pv 4) (Yl (pv 5)) Y3) (Yh (Pl (K':=K) rfl) (pv 4) Y3 (Yl (pv 5)))))
 (Zd (Y2 (Z4 (N4 (K':=K) rfl hu) (Zw Zm Zl rfl (Za (pv 0) (Za Zi Zf))) Zi (Yc _))
 (Zj (Z1 (Zmb (pv 4) (Yl (Zrh Zln Zi)) (λ_ _=>⟨_,rfl⟩))))
 Z6)
 (Zj (Z1 (pv 4))))))))),λ_=>(Zv (Z7 (s_op X9 (s_op Zny (Z3 (Zb (Ze 0) (Zb Zt Zn))) (s_op Zqx Zt Zt)) (Z3 (Zb (Ze 0) (Zb Zt Zn)))) (s_g 2))
 (Zv (Z7 (s_op X9 Zt (s_op s_ix (Tg (Zb Zt (Zb (Z3 (Zb (Ze 0) (Zb Zt Zn))) (Zb (Z3 (Zb (Ze 0) (Zb (s_op Zqx Zt Zt) Zn))) Zn)))) (Z3 (Zb (Ze 0) (Zb Zt Zn))))) (s_g 3))
 (Zv (Z7 (Xp (Zbz (Zb (Ze 1) Zn)) (s_g 0) Vm (s_op X9 (Ze 1) (s_op Zny (Ze 2) (Ze 0)))) (s_g 4))
 (Zv (Z7 (s_op Zj3 (Z3 (Zb (Ze 0) (Zb Zt Zn))) (s_cb Zl4 (Zb Zt (Zb (Ze 1) Zn)))) (s_g 5))
 (Zv (Z7 (s_op X9 (s_sl Ps (Ze 4) (Uj (Ze 5)) X8) (s_sl Ps (Ze 4) X8 (Uj (Ze 5)))) (s_g 4))
 (Zv (X2 (Yo (s_op s_eq (Z3 (Zb (Ze 0) (Zb Zt Zn))) Zt))
 (Xj (Zt1 (Ze 4) (Uj (s_un Zt5 Zt))))
 Y7)
 (Xj (Ze 4)))))))),λds M Kk hM hD h=>?_⟩
  let⟨k,m,rfl,h⟩:=h;let⟨hk,⟨m0,m1⟩,kk⟩:=h;exists ·,k,500,rfl,hk,⟨nofun,nofun⟩,λr1 r10 r11=>?_;exists _,·,rfl,⟨nofun,nofun,nofun⟩,.inl ⟨(),()⟩,?_;exists ·,k,1000000,rfl,hk,⟨nofun,nofun⟩,λr2 r20 r21=>?_;exists ·,k,40,rfl,hk,⟨nofun,nofun⟩,λr3 r30 r31=>?_;exists ·,_,·,rfl,⟨nofun,nofun,nofun⟩,k,·,hk,⟨nofun,nofun⟩,λr4 r40 r41=>?_;exists(show 3<=sizeLine by decide),·,k,3,rfl,hk,⟨nofun,nofun⟩,λr5 r50 r51=>?_;let h5:r5.toNat < [0,r3,r4].length:=by show _<3;lia
  refine⟨_,_,_,rfl,rfl,Yn (f:=D.int) (as:=[0,r3,r4]) (j:=r5.toNat) () h5,?_⟩;let r41':r4<10000000:=r41;obtain⟨hc,hc2⟩:0<=[0,r3,r4][r5.toNat]/\[0,r3,r4][r5.toNat]<10000000:=by
   let hv:=Ju h5;simp only[Gi,List.mem_nil_iff,or_false]at hv;rcases hv with z|z|z<;>rw[z]<;>constructor<;>lia
  generalize [0,r3,r4][r5.toNat]=c at hc hc2;let lm:∀ns:List Int,(ns.map D.int).length=ns.length:=λns=>Ja _;exists ·,m,rfl,⟨(),()⟩,?_,λj ys M'=>M=M'/\ys=((Co j).map λj:Nat=>(r1*10 ^ Int.toNat 6+r2)+(1+c)*(j:Int)).map .int,λ_ _ _ _ _=>trivial,⟨rfl,rfl⟩,?_,?_
  .show m.toNat<=sizeLine;exact Zk ()
  .rintro j x ys _ hj rfl ⟨rfl,rfl⟩;let hj:j<m.toNat:=hj;exists ·,·,·,.inl ⟨(),()⟩,rfl,?_;rw[Lh,Jk,Jk,Lu];rfl
  rintro ys _ ⟨rfl,rfl⟩;generalize r1*10 ^ Int.toNat 6+r2=b;let nd:=Znn b c hc m.toNat;let ln:((Co m.toNat).map λj:Nat=>b+(1+c)*(j:Int)).length=m.toNat:=by rw[Ja,Bd]
  rw[show(Zka 0 m.toNat).n=m.toNat from rfl];generalize (Co m.toNat).map (λj:Nat=>b+(1+c)*(j:Int))=ss at nd ln;refine⟨_,rfl,k,60,rfl,hk,⟨nofun,nofun⟩,λr6 r60 r61=>?_⟩;refine⟨_,rfl,_,_,rfl,_,_,rfl,rfl,by split<;>lia,?_⟩;show uG 5 (D.int (r6 % (if m > 1 then m else 1))) _ _ _;let ha:0<=r6 % (if m > 1 then m else 1)/\r6 % (if m > 1 then m else 1)<=ss.length:=by
   split
   .exact⟨Bn _ (),by have:=G8 r6 (show 0<m by lia);lia⟩
   .constructor<;>lia
  generalize r6 % (if m > 1 then m else 1)=a at ha;let nd2:(ss.drop a.toNat++ss.take a.toNat).Nodup:=(G4.trans (by rw[Jx])).nodup_iff.mpr nd;let ln2:(ss.drop a.toNat++ss.take a.toNat).length=m.toNat:=by rw[Jc,Ga,Jv];lia
  exists ·,·,·,·,·,·,·,·,_,·,rfl,?_,?_
  .let h1:(cut (ss.map D.int) (some a) none).length<=(ss.map D.int).length:=by unfold cut;rw[List.length_take,List.length_drop];lia
   let h2:(cut (ss.map D.int) none (some a)).length<=(ss.map D.int).length:=by unfold cut;rw[List.length_take,List.length_drop];lia
   rw[lm]at h1 h2;exact Zk ()
  rw[U2,U2,<-Jk,Zph ss a ha.1 ha.2];generalize ss.drop a.toNat++ss.take a.toNat=zs at nd2 ln2;exists ·,k,2,rfl,hk,⟨nofun,nofun⟩,λr7 r70 r71=>Wy Wt (a:=r7) (b:=0) ⟨_,rfl,ite2 (λ_=>?_) (λ_=>⟨_,rfl,.inl (kk zs nd2 ())⟩)⟩;exists ·,·,·,rfl,·,.inl ?_;rw[<-Ft];exact kk _ ((Fl zs).nodup_iff.mpr nd2) (by rw[Dd];lia)
open L3
def Nc{E:List (Option Int)}{i:Nat}(hi:i<E.length){a b:List (Option Int)}(h:knF S (E.take i)=some a)(h1:kn1 S E[i]=some b):knF S (E.take (i+1))=some (a++b):=by
 rw[Jh hi,T9,h,Nd,h1]
def Zh1{E:List (Option Int)}{i:Nat}(hi:i<E.length)(h1:kn1 S E[i]=none):knF S E=none:=by
 let e:E=E.take (i+1)++E.drop (i+1):=(Jx _ _).symm;rw[e,T9,Jh hi,T9,Nd,h1];cases knF S (E.take i)<;>rfl
theorem Zh2(fi:Fits S):∀{E kn:List (Option Int)},knF S E=some kn->kn.length<=4*E.length
 |[],kn,h=>by cases h;exact Jd _
 |e::E,kn,h=>by
  let h:(match kn1 S e,knF S E with|some a,some b=>some (a++b)|_,_=>none)=some kn:=h;cases h1:kn1 S e with
  |none=>rw[h1]at h;cases h
  |some a =>
   cases h2:knF S E with
   |none=>rw[h1,h2]at h;cases h
   |some b =>
    rw[h1,h2]at h;cases h;let:=Zh2 fi h2;let la:a.length<=4:=by
     cases e with
     |none=>cases h1;decide
     |some s =>
      let h1:(S.find? λp=>decide (p.1=s)).map (λp=>p.2.map some)=some a:=h1;let⟨p,hp,rfl⟩:=G7.mp h1;rw[Ja];exact(fi.2 p (List.mem_of_find?_eq_some hp)).2
    rw[Jc,J0];lia
theorem Jbx(T:Txt mg){C:Addr}(Zbl:Met P w K mg base C "word" 1 ["self","sign"] (spOf ⟨C,K⟩ Zpf)){f:Addr}(F:Fun K "known_bytes" "known_bytes" W8 f fd):FnOk P w K mg base CX0 2 f fd ["other","entries"] (spOf ⟨C,K⟩ Zmv):=by
 refine L3.Fun.ok3 F Jch (λds M K3 h=>?_) (λcdv A outer s H E hr=>?_)
 .let⟨S,d,E,rfl,_⟩:=h;rfl
 .let SC:=Jch;let hu:=hr.units;let hu1:=Wf hr;let Zcm:Room 1 _:=hr.mono nofun;refine⟨_,_,(Zd (Zs (i:=2) SC.nd rfl (Cd rfl) (Y8 Zf))
 (Zd (X6 Cm rfl (Yf (pv 1)) (Zq (i:=3) SC.nd rfl (Cd rfl))
 (Zd (Zs (i:=4) SC.nd rfl (Cd rfl) (Tm (Wd (Vs (pv 3))) (Yz (Za W5 Zf)) (Zkk (pv 0) Zbl Zcm (Za (pv 3) Zf))))
 (Zd (Y2 (Wd (Vs (pv 4)))
 (Zj (Z1 W5))
 Z6)
 (Zj (T5 (Zhc C4 Ha Md Zez (pv 2) (Za (pv 4) Zf)))))))
 (Zj (Z1 (pv 2))))),λ_=>(Zv (Z7 (Zab Zn) (s_g 2))
 (Zv (Ri (s_il (Ze 1)) (s_g 3)
 (Zv (Z7 (s_if (s_b (Ql (Ze 3))) (Vj (Zb Qk Zn)) (Rh (λ_ _ _ _ _=>rfl) (Ze 0) (Zb (Ze 3) Zn))) (s_g 4))
 (Zv (X2 (s_b (Ql (Ze 4)))
 (Xj Qk)
 Y7)
 (Zac (Zgp (Ze 2) (Zb (Ze 4) Zn))))))
 (Xj (Ze 2)))),λds M Kk hM hD h=>?_⟩
  let⟨S,d,E,rfl,h⟩:=h;let⟨e1,⟨fr,fi,hE⟩,kN,kS⟩:=h;exists Gc _,·,_,Zmh (Ug e1).2.1,λi ρ M'=>∃v3 v4 kn,ρ=[some (.code S),some d,some (.cell M.length),v3,v4]/\M'=M++[.lst (kn.map oD)]/\knF S (E.take i)=some kn,λi ρ M' _⟨_,_,kn,_,z,_⟩=>by rw[z];exact Zmh (Ug e1).2.1,⟨_,_,[],rfl,rfl,rfl⟩,?_,?_
  .rintro i x ρ M' hi hx ⟨v3,v4,kn,rfl,rfl,hk⟩;let⟨hi',rfl⟩:=Yi hx;let hl:kn.length<=4*50:=J9 (Zh2 fi hk) (Nat.mul_le_mul_left 4 (J9 (List.length_take_le _ _) ()));exists ·,?_;cases he:E[i]with
   |none =>
    exists ·,iteT ⟨(show 1<=sizeLine by decide),?_⟩;exists ·,·,iteF ?_;exists ·,Uy (Zaj Y5),·,M.length,[.non],·,rfl,Y5,Zk (by rw[Ja];show kn.length+1<=_;lia),.inl ⟨_,_,kn++[none],rfl,?_,Nc hi' hk (by rw[he];rfl)⟩;rw[Xw,Jk];rfl
   |some s =>
    exists ·,iteF ⟨_,rfl,⟨S,rfl⟩,_,rfl,S,s,rfl,λp hp e=>?_,λhn=>?_⟩
    .let lp:=(fi.2 p hp).2;exists ·,·,iteF ?_;exists ·,Uy (Zaj Y5),·,M.length,p.2.map .int,·,rfl,Y5,Zk (by rw[Ja,Ja];lia),.inl ⟨_,_,kn++p.2.map some,rfl,?_,Nc hi' hk (by rw[he,<-e];exact Nf fr hp)⟩;rw[Xw,Jk,Gb];rfl
    .exists ·,·,iteT ?_;refine Nu (Gn _ _) hM Qe (kN (Zh1 hi' ?_));rw[he];show(S.find? λp=>decide (p.1=s)).map _=none;rw[List.find?_eq_none.mpr λp hp z=>hn p hp (of_decide_eq_true z)];rfl
  .rintro ρ M' ⟨v3,v4,kn,rfl,rfl,hk⟩;rw[show C5 _ E=E from by rw[show(List.map oD E).length=E.length from Ja _];exact Gd]at hk;exists ·,.inl (kS kn hk)
open L3
def Zle{p:Nat}{b:Int}{o:Option Int}(eo:kn[p]?=some o) :
  ((o.isSome=true/\o≠some b)->bt kn S p sw b=none)/\(¬ (o.isSome=true/\o≠some b)->(((Xy kn (p+1-(sw++[b]).length) (sw++[b])).any (λu=>decide (IsWd S u))=true->bt kn S p sw b=none) /\
   ((Xy kn (p+1-(sw++[b]).length) (sw++[b])).any (λu=>decide (IsWd S u))=false->bt kn S p sw b=some (((Xy kn (p+1-(sw++[b]).length) (sw++[b])).find? λu=>decide (Live S u)).getD [])))):=by
 unfold bt;rw[eo];dsimp only;exists λh=>Dt (.inl h),λh=>⟨λz=>Dt (.inr z),λz=>Ds λy=>?_⟩;rcases y with y|y
 .exact h y
 .rw[z]at y;cases y
theorem R8(q:τ->Bool):∀xs:List τ,xs.find? q=(xs.filter q)[0]?
 |[]=>rfl
 |x::xs=>by
  rw[Gv,Mq];cases q x with
  |true=>rfl
  |false=>exact R8 q xs
theorem Jap(T:Txt mg){C:Addr}(Zji:Met P w K mg base C "sign" 1 ["self","word"] (spOf ⟨C,K⟩ Zmw))(Zjj:Met P w K mg base C "live" 1 ["self","row"] (spOf ⟨C,K⟩ Zmu)){f:Addr}(F:Fun K "byte_taken" "byte_taken" Vn f fd):FnOk P w K mg base CX0 2 f fd ["other","known","place","swaying","byte"] (spOf ⟨C,K⟩ Zmy):=by
 refine L3.Fun.ok3 F D9 (λds M K3 h=>?_) (λcdv A outer s H E hr=>?_)
 .let⟨S,d,kn,p,sw,b,rfl,_⟩:=h;rfl
 .let SC:=D9;let hu:=hr.units;let hu1:=Wf hr;let Zo3:Room 1 _:=hr.mono nofun;let Zo4:Room 1 _:=hr.mono nofun;refine⟨_,_,(Zd (Y2 (PW.pt (Zl7 (Wd (Pz (Z9 (Yr (K':=K) rfl) (pv 1) (pv 2) (λ_ _=>rfl)))) (Zg3 (Z4 (Zem (K':=K) rfl hu) (Z9 (Yr (K':=K) rfl) (pv 1) (pv 2) (λ_ _=>rfl)) (pv 4) (Yc _)))))
 (Zj (Z1 W5))
 Z6)
 (Zd (Zs (i:=5) SC.nd rfl (Cy rfl) (Z5 (Zne (K':=K) rfl) (pv 3) (Yz (Za (pv 4) Zf))))
 (Zd (Vr (i:=6) SC.nd rfl rfl (T:=["skip"]) (cs:=[5,1,2]) rfl (CScope.ok (by kernel_rfl)) (Ys rfl T.b_range (Za (Zr (Xa (K:=K) rfl) (by rfl) T.b_len Dx (Za (pv 5) Zf)) Zf)) (λ_ _ _ _=>(Zq (i:=0) (Y0 (by kernel_rfl)) rfl (Cd rfl) (Cy rfl))) (λ_ _ _ _=>(W9 (Wd (Vs (Z9 (Yr (K':=K) rfl) (pv 2) (Z5 (Yx (K':=K) rfl) (Z5 Zdw (Z5 (Yx (K':=K) rfl) (pv 3) Zi) (Zr (Xa (K:=K) rfl) (by rfl) T.b_len Dx (Za (pv 1) Zf))) (pv 0)) (λ_ _=>rfl)))))) (λ_ _ _ _=>(Yh (Pl (K':=K) rfl) (pv 1) (Yl (pv 0)) Y3)) (Yw nofun))
 (Zd (Y2 (Qx (Zr (Zs8 (K:=K) rfl rfl) (by rfl) T.b_any PyProof.Rows.boot_any (Za (Yq (T:=["rest"]) (cs:=[0]) rfl (CScope.ok (by kernel_rfl)) (Yf (pv 6)) (λ_ _ _ _=>(Zq (i:=0) (Y0 (by kernel_rfl)) rfl (Cd rfl) (Cy rfl))) (λ_ _ _ _=>Yv) (λ_ _ _ _=>(Zhb (Pz (Zkk (pv 1) Zji Zo3 (Za (pv 0) Zf))))) (Yw nofun)) Zf)))
 (Zj (Z1 W5))
 Z6)
 (Zd (Vr (i:=7) SC.nd rfl rfl (T:=["rest"]) (cs:=[0]) rfl (CScope.ok (by kernel_rfl)) (Yf (pv 6)) (λ_ _ _ _=>(Zq (i:=0) (Y0 (by kernel_rfl)) rfl (Cd rfl) (Cy rfl))) (λ_ _ _ _=>(W9 (Qx (Zkk (pv 1) Zjj Zo4 (Za (pv 0) Zf))))) (λ_ _ _ _=>(pv 0)) (Yw nofun))
 (Zj (Z1 (Tm (Z4 P1 (Zr (Xa (K:=K) rfl) (by rfl) T.b_len Dx (Za (pv 7) Zf)) Zi (Yc _)) (Z9 (Yr (K':=K) rfl) (pv 7) Zi (λ_ _=>rfl)) (Yz Zf))))))))),λ_=>(Zv (X2 (Zua (s_b (Zgm (s_op s_ix (Ze 1) (Ze 2)))) (Yo (s_op s_ne (s_op s_ix (Ze 1) (Ze 2)) (Ze 4))))
 (Xj Qk)
 Y7)
 (Zv (Z7 (s_op Zq2 (Ze 3) (Vj (Zb (Ze 4) Zn))) (s_g 5))
 (Zv (Z7 (Xp (Zbz (Zb (s_cb W4 (Zb (Ze 5) Zn)) Zn)) (s_g 0) (s_b (Ql (s_op s_ix (Ze 2) (s_op X9 (s_op Znu (s_op X9 (Ze 3) Zt) (s_cb W4 (Zb (Ze 1) Zn))) (Ze 0))))) (s_sl Ps (Ze 1) (Uj (Ze 0)) X8)) (s_g 6))
 (Zv (X2 (s_b (s_cb Zt9 (Zb (Xp (s_il (Ze 6)) (s_g 0) Vm (Zgm (Rh (λ_ _ _ _ _=>rfl) (Ze 1) (Zb (Ze 0) Zn)))) Zn)))
 (Xj Qk)
 Y7)
 (Zv (Z7 (Xp (s_il (Ze 6)) (s_g 0) (s_b (Rh (λ_ _ _ _ _=>rfl) (Ze 1) (Zb (Ze 0) Zn))) (Ze 0)) (s_g 7))
 (Xj (s_if (Yo (s_op s_gt (s_cb W4 (Zb (Ze 7) Zn)) Zt)) (s_op s_ix (Ze 7) Zt) (Vj Zn)))))))),λds M Kk hM hD h=>?_⟩
  let⟨S,d,kn,p,sw,b,rfl,h⟩:=h;let⟨e2,⟨hp,hs,hn⟩,kN,kS⟩:=h;let eo:kn[p]?=some kn[p]:=Jb hp;let⟨c1,c2⟩:=Zle (S:=S) (sw:=sw) (b:=b) eo;generalize ho:kn[p]=o at eo c1 c2;let at1:L2.atI (kn.map oD) (p:Int)=some (oD o):=by rw[<-ho];exact Yn (j:=p) rfl hp
  refine Zr9 (c:=o.isSome&&decide (o≠some b)) (Ztb (λK z=>⟨_,rfl,_,rfl,_,_,_,rfl,rfl,at1,_,rfl,?_⟩) λht K z=>⟨_,rfl,_,rfl,_,_,_,rfl,rfl,at1,_,rfl,?_⟩) ?_
  .cases o<;>exact z
  .cases o with
   |none=>cases ht
   |some c =>
    refine Wy Wt (a:=c) (b:=b) ⟨_,rfl,?_⟩;let:(!decide (c=b))=decide (some c≠some b):=by
     by_cases e:c=b
     .rw[e];simp
     .simp[e]
    rw[this];exact z
  refine ite2 (λhz=>?_) (λhz=>?_)
  .rw[By]at hz;exact .inl (kN (c1 ⟨hz.1,of_decide_eq_true hz.2⟩))
  let hz':¬ (o.isSome=true/\o≠some b):=λy=>hz (by rw[By];exact⟨y.1,Du y.2⟩);let⟨c3,c4⟩:=c2 hz';let lr:(sw++[b]).length=sw.length+1:=by rw[Jc];rfl
  exists ·,·,(show 1<=sizeLine by decide),sw,[b],e2,rfl,Zk (by show sw.length+1<=_;lia),(λz=>nomatch z),?_;let lmr:((sw++[b]).map D.int).length=(sw++[b]).length:=Ja _;generalize hrow:sw++[b]=row at *
  exists ·,·,(row.length:Int),by rw[lmr],⟨(),()⟩,?_;generalize hF:(λk=>decide (kn[p+1-row.length+k]?=some none))=F;let eR:Xy kn (p+1-row.length) row=((Co row.length).filter F).map row.drop:=by unfold Xy;rw[hF]
  exists ?_,λj ys M'=>M=M'/\ys=(((Co j).filter F).map row.drop).map λu=>D.tup (u.map .int),λ_ _ _ _ _=>trivial,⟨rfl,rfl⟩,?_,?_
  .show((row.length:Int)).toNat<=sizeLine;rw[Gy];exact Zk ()
  .rintro j x ys M' hj rfl ⟨rfl,rfl⟩;let hj:j<row.length:=by
    let:j<((row.length:Int)).toNat:=hj;rwa [Gy]at this
   let hi:p+1-row.length+j<kn.length:=by lia
   refine⟨_,rfl,_,rfl,_,rfl,_,rfl,_,_,rfl,rfl,_,rfl,_,_,_,rfl,rfl,Yn (f:=oD) (as:=kn) (j:=p+1-row.length+j) (by rw[lmr];lia) hi,_,rfl,?_⟩;let eF:F j=decide (kn[p+1-row.length+j]=none):=by
    rw[<-hF];simp only[Jb hi,Ma]
   by_cases z:kn[p+1-row.length+j]=none
   .rw[show(oD kn[p+1-row.length+j]).isN=true from by rw[z];rfl];refine iteT ⟨_,rfl,_,rfl,_,rfl,rfl,?_⟩;rw[Lh,Dg,Jk,Jk,List.filter_cons_of_pos (by rw[eF];exact Du z),U2,Lu,Qc];rfl
   .let:(oD kn[p+1-row.length+j]).isN=false:=by
     cases h:kn[p+1-row.length+j]with
     |none=>exact absurd h z
     |some c=>rfl
    rw[this];refine iteF ⟨rfl,?_⟩;rw[Lh,Dg,Jk,Jk,List.filter_cons_of_neg (by rw[eF];exact λy=>z (of_decide_eq_true y)),Jeq,Lr,Lr,Gm]
  rintro ys _ ⟨rfl,rfl⟩;let e0:(Zka 0 ((row.length:Int)).toNat).n=row.length:=by show((row.length:Int)).toNat=_;rw[Gy]
  rw[e0,<-eR];let lR:(Xy kn (p+1-row.length) row).length<=201:=by
   rw[eR,Ja];exact J9 (Kv _ _) (by rw[Bd];lia)
  generalize hRs:Xy kn (p+1-row.length) row=rs at *
  clear hF eR e0 c2 c1;let lrs:(rs.map λu=>D.tup (u.map .int)).length=rs.length:=Ja _;let eT:rs.take (rs.map λu=>D.tup (u.map .int)).length=rs:=by rw[lrs,Gd]
  exists ·,·,?_,λi ys M'=>M=M'/\ys=((rs.take i).map λu=>decide (IsWd S u)).map .bl,λ_ _ _ _ _=>rfl,⟨rfl,rfl⟩,?_,?_
  .show(rs.map λu=>D.tup (u.map .int)).length<=sizeLine;rw[lrs];exact Zk ()
  .rintro i x ys _ hi hx ⟨rfl,rfl⟩;let⟨hi',rfl⟩:=Yi hx;let eb:∀c,decide (IsWd S rs[i])=c->((rs.take i).map λu=>decide (IsWd S u)).map D.bl++[.bl c]=((rs.take (i+1)).map λu=>decide (IsWd S u)).map D.bl:=λc e=>by
    rw[Jh hi',Jk,Jk,<-e];rfl
   exists ·,⟨S,rfl⟩,·,S,rs[i],rfl,λq hq e=>⟨rfl,eb _ (Du ⟨q,hq,e⟩)⟩,λhn=>⟨rfl,eb _ (Dv λ⟨q,hq,e⟩=>hn q hq e)⟩
  rintro ys _ ⟨rfl,rfl⟩;rw[show C5 _ rs=rs from eT];exists _,rs.map λu=>decide (IsWd S u),rfl,rfl,·,?_;rw[List.any_map,show(id ∘ λu=>decide (IsWd S u))=λu=>decide (IsWd S u)from rfl];refine ite2 (λhw=>.inl (kN (c3 hw))) (λhw=>?_);let hb:=c4 (B9 _ ▸ hw);exists ·,·,?_,λi ys M'=>M=M'/\ys=((rs.take i).filter λu=>decide (Live S u)).map λu=>D.tup (u.map .int),λ_ _ _ _ _=>rfl,⟨rfl,rfl⟩,?_,?_
  .show(rs.map λu=>D.tup (u.map .int)).length<=sizeLine;rw[lrs];exact Zk ()
  .rintro i x ys _ hi hx ⟨rfl,rfl⟩;let⟨hi',rfl⟩:=Yi hx;exists ·,⟨S,rfl⟩,·,S,rs[i],rfl,·,?_;refine ite2 (λhl=>⟨_,rfl,rfl,?_⟩) (λhl=>⟨rfl,?_⟩)
   .exact(X0 (λu=>decide (Live S u)) _ hi' true hl).symm
   .exact((X0 (λu=>decide (Live S u)) _ hi' false (B9 _ ▸ hl)).trans (Gm _)).symm
  rintro ys _ ⟨rfl,rfl⟩;rw[show C5 _ rs=rs from eT];rw[R8]at hb;generalize (rs.filter λu=>decide (Live S u))=fs at hb;exists ·,·,_,·,rfl,·,?_;cases fs with
  |nil=>exact iteF ⟨Gc _,.inl (kS _ hb)⟩
  |cons u fs =>
   rw[Du (by rw[Jp,J0];lia)];exact iteT ⟨_,rfl,_,_,_,rfl,rfl,Yn (f:=λu:List Int=>D.tup (u.map .int)) (as:=u::fs) (j:=0) rfl (Nat.zero_lt_succ _),.inl (kS _ hb)⟩
open L3
theorem Jae(T:Txt mg){C:Addr}(V3:Cal P w K mg base "byte_taken" 2 ["other","known","place","swaying","byte"] (spOf ⟨C,K⟩ Zmy)){f:Addr}(F:Fun K "word_taken" "word_taken" Vl f fd):FnOk P w K mg base CX0 3 f fd ["other","known","spot","word"] (spOf ⟨C,K⟩ Zmp):=by
 refine L3.Fun.ok3 F Jau (λds M K3 h=>?_) (λcdv A outer s H E hr=>?_)
 .let⟨S,kn,sp,w,rfl,_⟩:=h;rfl
 .let SC:=Jau;let hu:=hr.units;let hu1:=Wf hr;let Nk:Room 2 _:=hr.mono nofun;refine⟨_,_,(Zd (Zs (i:=4) SC.nd rfl (Cd rfl) (Z9 (Yr (K':=K) rfl) (pv 2) Zi (λ_ _=>rfl)))
 (Zd (Zs (i:=5) SC.nd rfl (Cd rfl) (Z9 (Yr (K':=K) rfl) (pv 2) Zi (λ_ _=>rfl)))
 (Zd (Y2 (Z4 P1 (Z5 (Yx (K':=K) rfl) (pv 4) (Zr (Xa (K:=K) rfl) (by rfl) T.b_len Dx (Za (pv 3) Zf))) (Zr (Xa (K:=K) rfl) (by rfl) T.b_len Dx (Za (pv 1) Zf)) (Yc _))
 (Zj (Z1 W5))
 Z6)
 (Zd (X6 Cm rfl (Qz (pv 3)) (Zq (i:=6) SC.nd rfl (Cd rfl))
 (Zd (Zs (i:=5) SC.nd rfl (Cd rfl) (Zw V3 Nk rfl (Za (pv 0) (Za (pv 1) (Za (pv 4) (Za (pv 5) (Za (pv 6) Zf)))))))
 (Zd (Y2 (Wd (Vs (pv 5)))
 (Zj (Z1 W5))
 Z6)
 (Zj (Zdr (i:=4) SC.nd rfl (Cd rfl) Zi Zar)))))
 (Zj (Z1 (Yz (Za (pv 4) (Za (pv 5) Zf))))))))),λ_=>(Zv (Z7 (s_op Zn1 (Ze 2) Zt) (s_g 4))
 (Zv (Z7 (s_op Zn1 (Ze 2) Zt) (s_g 5))
 (Zv (X2 (Yo (s_op s_gt (s_op X9 (Ze 4) (s_cb W4 (Zb (Ze 3) Zn))) (s_cb W4 (Zb (Ze 1) Zn))))
 (Xj Qk)
 Y7)
 (Zv (Ri (s_it (Ze 3)) (s_g 6)
 (Zv (Z7 (Z3 (Zb (Ze 0) (Zb (Ze 1) (Zb (Ze 4) (Zb (Ze 5) (Zb (Ze 6) Zn)))))) (s_g 5))
 (Zv (X2 (s_b (Ql (Ze 5)))
 (Xj Qk)
 Y7)
 (Zj7 Zt))))
 (Xj (Zqw (Zb (Ze 4) (Zb (Ze 5) Zn)))))))),λds M Kk hM hD h=>?_⟩
  let⟨S,kn,sp,w,rfl,h⟩:=h;let⟨⟨g,lw,hn⟩,kN,kS⟩:=h;let lk:(kn.map oD).length=kn.length:=Ja _;let lww:(w.map D.int).length=w.length:=Ja _;exists ·,_,_,·,rfl,rfl,·,_,_,·,rfl,rfl,?_;exists ·,·,·,·,·,_,·,rfl,·,?_;rw[lk,lww];refine ite2 (λhz=>.inl (kN ?_)) (λhz=>?_)
  .let hz:=of_decide_eq_true hz;cases e:wt kn S sp w with
   |none=>rfl
   |some q =>
    let⟨a,b⟩:=Ur e g;let:=a.2.1;lia
  let hz:sp.1+w.length<=kn.length:=by have:=of_decide_eq_false (B9 _ ▸ hz);lia
  exists ·,·,λi ρ M'=>∃d v6 sp',ρ=[some (.code S),some (.lst (kn.map oD)),some (.nst (spN sp)),some (wD w),some (.int ((sp'.1:Nat):Int)),some d,v6]/\M=M'/\itOf d=some sp'.2/\wt kn S sp (w.take i)=some sp',λ_ _ _ _ _=>trivial,⟨_,_,sp,rfl,rfl,rfl,rfl⟩,?_,?_
  .rintro i x ρ _ hi hx ⟨d,v6,sp',rfl,rfl,ed,hw⟩;let⟨hi',rfl⟩:=Ng hx;let⟨g',hp⟩:=Ur hw g;rw[Jv]at hp;let⟨w1,w2⟩:=Zm5 hi' hw;exists ·,·,·,·,·,S,d,kn,sp'.1,sp'.2,w[i],rfl,ed,⟨(),g'.1,hn⟩,λe=>?_,λsw' e=>?_
   .exists ·,·,iteT (.inl (kN (w2 e)))
   .exists ·,·,iteF ⟨_,rfl,_,rfl,.inl ⟨_,_,(sp'.1+1,sw'),rfl,rfl,Zky sw',?_⟩⟩;rw[w1,e];rfl
  .rintro ρ _ ⟨d,v6,sp',rfl,rfl,ed,hw⟩;rw[show C5 _ w=w from by rw[show(List.map D.int w).length=w.length from lww];exact Gd]at hw;refine⟨_,rfl,_,rfl,(show 2<=sizeLine by decide),spN sp',?_,.inl (kS sp' hw)⟩;show(match niOf (.int _),Zcb [d]with|some k,some ks=>some (k::ks)|_,_=>none)=_;let:Zcb [d]=some [.t sp'.2]:=by
    show(match niOf d,some []with|some k,some ks=>some (k::ks)|_,_=>none)=_;rw[Zon ed]
   rw[this];rfl
theorem Jcr(T:Txt mg){C:Addr}(V2:Cal P w K mg base "word_taken" 3 ["other","known","spot","word"] (spOf ⟨C,K⟩ Zmp))(Zbl:Met P w K mg base C "word" 1 ["self","sign"] (spOf ⟨C,K⟩ Zpf))(Zc3:Met P w K mg base C "signs" 1 ["self"] (spOf ⟨C,K⟩ Zi0)){f:Addr}(F:Fun K "steps_at" "steps_at" T1 f fd):FnOk P w K mg base CX0 5 f fd ["one","other","known","spot"] (spOf ⟨C,K⟩ Zec):=by
 refine L3.Fun.ok3 F Jaq (λds M K3 h=>?_) (λcdv A outer s H E hr=>?_)
 .let⟨S1,S,kn,sp,rfl,_⟩:=h;rfl
 .let SC:=Jaq;let hu:=hr.units;let hu1:=Wf hr;let Nj:Room 3 _:=hr.mono nofun;let Zcm:Room 1 _:=hr.mono nofun;let Zkz:Room 1 _:=hr.mono nofun;refine⟨_,_,(Zd (Vr (i:=4) SC.nd rfl rfl (T:=["sign"]) (cs:=[1,2,3,0]) rfl (CScope.ok (by kernel_rfl)) (Yf (Zmc (pv 0) Zc3 Zkz)) (λ_ _ _ _=>(Zq (i:=0) (Y0 (by kernel_rfl)) rfl (Cd rfl) (Cy rfl))) (λ_ _ _ _=>Yv) (λ_ _ _ _=>(Yz (Za (pv 0) (Za (Zw V2 Nj rfl (Za (pv 1) (Za (pv 2) (Za (pv 3) (Za (Zkk (pv 4) Zbl Zcm (Za (pv 0) Zf)) Zf))))) Zf)))) (Yw nofun))
 (Zj (Z1 (Yq (T:=["sign","behind"]) (cs:=[]) rfl (CScope.ok (by kernel_rfl)) (Yf (pv 4)) (λ_ _ _ _=>(Wr (n:=2) rfl (Z0 (Zq (i:=0) (Y0 (by kernel_rfl)) rfl (Cd rfl) (Cy rfl)) (Z0 (Zq (i:=1) (Y0 (by kernel_rfl)) rfl (Cd rfl) (Cy rfl)) Xr)) (by rfl))) (λ_ _ _ _=>(W9 (Wd (Pz (pv 1))))) (λ_ _ _ _=>(Yz (Za (pv 0) (Za (pv 1) Zf)))) (Tr (Yj nofun (Yj nofun Vb))))))),λ_=>(Zv (Z7 (Xp (s_il (Rh (λ_ _ _ _ _=>rfl) (Ze 0) Zn)) (s_g 0) Vm (Vj (Zb (Ze 0) (Zb (Z3 (Zb (Ze 1) (Zb (Ze 2) (Zb (Ze 3) (Zb (Rh (λ_ _ _ _ _=>rfl) (Ze 4) (Zb (Ze 0) Zn)) Zn))))) Zn)))) (s_g 4))
 (Xj (Xp (s_il (Ze 4)) (Th (Yp (s_g 0) (Yp (s_g 1) Ti))) (s_b (Zgm (Ze 1))) (Vj (Zb (Ze 0) (Zb (Ze 1) Zn)))))),λds M Kk hM hD h=>?_⟩
  let⟨S1,S,kn,sp,rfl,h⟩:=h;let⟨⟨g,fr,fi,hn⟩,k⟩:=h;exists ·,⟨S1,rfl⟩,S1,rfl,fi.1,λns pm pw=>?_;let pn:=Xu S1;obtain rfl:=Za9 pm pw;generalize hP:Xt S1=P at *
  let lP:P.length<64:=by rw[pn.length_eq];exact fi.1
  let' bD:Pr->D:=λp=>match wt kn S sp p.2 with|none=>.non|some q=>.nst (spN q)
  let lm:((P.map (·.1)).map D.int).length=P.length:=by rw[Ja,Ja]
  exists _,Sy,?_,λi ys M'=>M'=M++[.lst ((P.map (·.1)).map .int)]/\ys=(P.take i).map λp=>D.tup [.int p.1,bD p],λ_ _ _ _ z=>by rw[z.1];exact Sy,⟨rfl,rfl⟩,?_,?_
  .show((P.map (·.1)).map D.int).length<=sizeLine;rw[lm];exact Zk ()
  .rintro i x ys _ hi hx ⟨rfl,rfl⟩;let⟨hi',rfl⟩:=Ng hx;let hi2:i<P.length:=by rwa [Ja]at hi'
   let hm:P[i]∈S1:=pn.mem_iff.mp (Ju hi2);rw[Be];let fin:∀d,d=bD P[i]->(M++[MO.lst ((P.map (·.1)).map .int)]=M++[MO.lst ((P.map (·.1)).map .int)])/\(P.take i).map (λp=>D.tup [.int p.1,bD p])++[D.tup [.int P[i].1,d]]=(P.take (i+1)).map λp=>D.tup [.int p.1,bD p]:=λd e=>by
    subst e;rw[Jh hi2,Jk];exists rfl,rfl
   refine⟨_,rfl,_,rfl,_,rfl,_,rfl,_,rfl,⟨S1,rfl⟩,_,rfl,S1,P[i].1,rfl,λp hp e=>?_,λhno=>absurd rfl (hno _ hm)⟩;let ep:p=P[i]:=by
    let:=Vy fr hp;rw[e,Vy fr hm]at this;exact(Dw this).symm
   subst ep;exists S,kn,sp,P[i].2,rfl,⟨g,(fi.2 _ hm).2,hn⟩,λe=>⟨(show 2<=sizeLine by decide),fin _ (by show _=(match wt kn S sp P[i].2 with|none=>D.non|some q=>.nst (spN q));rw[e])⟩,λq e=>⟨(show 2<=sizeLine by decide),fin _ (by show _=(match wt kn S sp P[i].2 with|none=>D.non|some q=>.nst (spN q));rw[e])⟩
  rintro ys _ ⟨rfl,rfl⟩;rw[show C5 _ P=P from by rw[show((P.map (·.1)).map D.int).length=P.length from lm];exact Gd];exists ·,·,?_,λi ys M'=>M'=M++[.lst ((P.map (·.1)).map .int)]/\ys=(stF kn S (P.take i) sp).map stpD,λ_ _ _ _ _=>rfl,⟨rfl,rfl⟩,?_,?_
  .show(P.map _).length<=sizeLine;rw[Ja];exact Zk ()
  .rintro i x ys _ hi hx ⟨rfl,rfl⟩;let⟨hi',rfl⟩:=Yi hx;refine⟨_,rfl,rfl,_,_,rfl,_,_,rfl,rfl,_,rfl,_,rfl,?_⟩;let est:stF kn S (P.take (i+1)) sp=stF kn S (P.take i) sp++((wt kn S sp P[i].2).map λq=>(P[i].1,q)).toList:=by
    unfold stF;rw[Jh hi',List.filterMap_append,Es,List.filterMap_nil];cases wt kn S sp P[i].2<;>rfl
   show if(!(bD P[i]).isN)=true then _ else _;cases e:wt kn S sp P[i].2 with
   |none =>
    rw[show(!(bD P[i]).isN)=false from by show(!(match wt kn S sp P[i].2 with|none=>D.non|some q=>.nst (spN q)).isN)=_;rw[e];rfl];refine iteF ⟨rfl,?_⟩;rw[est,e];exact congrArg _ (Gm _).symm
   |some q =>
    rw[show(!(bD P[i]).isN)=true from by show(!(match wt kn S sp P[i].2 with|none=>D.non|some q=>.nst (spN q)).isN)=_;rw[e];rfl];refine iteT ⟨_,rfl,_,rfl,(show 2<=sizeLine by decide),rfl,?_⟩;rw[est,e,Jk];show _++[D.tup [.int P[i].1,(match wt kn S sp P[i].2 with|none=>D.non|some q=>.nst (spN q))]]=_;rw[e];rfl
  rintro ys _ ⟨rfl,rfl⟩;rw[show C5 _ P=P from by rw[Ja];exact Gd];exact Nu (Gn _ _) hM Zeh k
open L3
def RcS(kn:List (Option Int))(S P:List Pr)(sp:Spot):Prop:=∃U:List Pr,(∀p∈U,p∈P)/\wt kn S (0,[]) (Zu U)=some sp
def RcS.good{P:List Pr}{sp:Spot}(h:RcS kn S P sp):Wm kn S sp:=let⟨_,_,e⟩:=h;(Ur e Zun).1
def row_app(U V:List Pr):Zu (U++V)=Zu U++Zu V:=by unfold Zu;rw[Jk,List.flatten_append]
def RcS.step{P:List Pr}{sp:Spot}(h:RcS kn S P sp){x:Int×Spot}(hx:x∈stF kn S P sp):RcS kn S P x.2:=by
 let⟨U,hU,e⟩:=h;let⟨p,hp,_,e2⟩:=Zlv (s:=x.1) (q:=x.2) hx;exists U++[p],λq hq=>(Jw.mp hq).elim (hU q) λz=>by rw[Jf.mp z];exact hp,?_;rw[row_app,Qu,e];show wt kn S sp (p.2++[])=_;rw[Gm];exact e2
structure AllSt(kn:List (Option Int))(S P:List Pr)(ks ws:List Spot):Prop where
 nd:ks.Nodup
 st:(0,[])∈ks\/(0,[])∈ws
 cl:∀sp∈ks,∀x∈stF kn S P sp,x.2∈ks\/x.2∈ws
 rk:∀sp∈ks,RcS kn S P sp
 rw:∀sp∈ws,RcS kn S P sp
 len:ws.length<=64*ks.length+1
section
variable{P:List Pr}{ks ws:List Spot}{sp:Spot}
theorem AllSt.old(h:AllSt kn S P ks (ws++[sp]))(hs:sp∈ks):AllSt kn S P ks ws:=by
 let out:∀x,x∈ks\/x∈ws++[sp]->x∈ks\/x∈ws:=λx hx=>hx.elim .inl λz=>(Jw.mp z).elim .inr λz=>.inl (by rw[Jf.mp z];exact hs);exists h.nd,out _ h.st,λq hq x hx=>out _ (h.cl q hq x hx),h.rk,λq hq=>h.rw q (Gu _ hq),?_;let:=h.len;rw[Jc]at this;lia
theorem AllSt.new(h:AllSt kn S P ks (ws++[sp]))(hs:sp∉ks)(hP:P.length<64):AllSt kn S P (ks++[sp]) (ws++(stF kn S P sp).map (·.2)):=by
 let rs:=h.rw sp (Jm _ Ji);let out:∀x,x∈ks\/x∈ws++[sp]->x∈ks++[sp]\/x∈ws++(stF kn S P sp).map (·.2):=λx hx=>hx.elim (λz=>.inl (Gu _ z)) λz=>(Jw.mp z).elim (λz=>.inr (Gu _ z)) λz=>.inl (Jm _ z);exists ?_,out _ h.st,λq hq x hx=>?_,λq hq=>?_,λq hq=>?_,?_
 .rw[Bv];exists h.nd,Bo _ _,λa ha b hb e=>hs (by rw[<-Jf.mp hb,<-e];exact ha)
 .rcases Jw.mp hq with z|z
  .exact out _ (h.cl q z x hx)
  .rw[Jf.mp z]at hx;exact .inr (Jm _ (Bx hx))
 .rcases Jw.mp hq with z|z
  .exact h.rk q z
  .rw[Jf.mp z];exact rs
 .rcases Jw.mp hq with z|z
  .exact h.rw q (Gu _ z)
  .let⟨x,hx,rfl⟩:=Jq.mp z;exact rs.step hx
 .let h1:=h.len;let h2:(stF kn S P sp).length<=P.length:=Fn _ _;rw[Jc]at h1;rw[Jc,Jc,Ja];let:[sp].length=1:=rfl;lia
end
theorem Jax(T:Txt mg){C:Addr}{Yg:Addr}(Xh:mg "FIRST_SPOT"=some (.ref Yg))(N_FIRST_SPOT:NkAt K (λ_=>none) [.k 0,.t []] Yg)(Sg:Cal P w K mg base "steps_at" 5 ["one","other","known","spot"] (spOf ⟨C,K⟩ Zec)){f:Addr}(F:Fun K "all_steps" "all_steps" Uu f fd):FnOk P w K mg base CX0 6 f fd ["one","other","known"] (spOf ⟨C,K⟩ Zmz):=by
 refine L3.Fun.ok3 F Jby (λds M K3 h=>?_) (λcdv A outer s H E hr=>?_)
 .let⟨S1,S,kn,rfl,_⟩:=h;rfl
 .let SC:=Jby
  let hu:=hr.units;let hu1:=Wf hr;let Zcn:Room 5 _:=hr.mono nofun;refine⟨_,_,(Zd (Zs (i:=3) SC.nd rfl (Cd rfl) Sw)
 (Zd (Zs (i:=4) SC.nd rfl (Cd rfl) (Y8 (Za (Zg9 (v:=.ref Yg) rfl Xh rfl) Zf)))
 (Zd (Py Cm (Z4 P1 (Zr (Xa (K:=K) rfl) (by rfl) T.b_len Dx (Za (pv 4) Zf)) Zi (Yc _))
 (Zd (Zs (i:=5) SC.nd rfl (Cd rfl) (Zrk C4 PySem.F.slot_list_pop PySem.F.type_list_pop Zrt (pv 4)))
 (Zj (Y2 (Wd (Zhe (K:=K) rfl (So hr) (pv 5) (pv 3)))
 (Zd (Zb5 (K:=K) rfl (So hr) (pv 3) (pv 5) (Zw Sg Zcn rfl (Za (pv 0) (Za (pv 1) (Za (pv 2) (Za (pv 5) Zf))))) rfl)
 (Zj (T5 (Zhc C4 Ha Md Zhr (pv 4) (Za (Yq (T:=["sign","behind"]) (cs:=[]) rfl (CScope.ok (by kernel_rfl)) (Yf (Rl (K:=K) rfl (So hr) (pv 3) (pv 5) (λ_ _=>rfl))) (λ_ _ _ _=>(Wr (n:=2) rfl (Z0 (Zq (i:=0) (Y0 (by kernel_rfl)) rfl (Cd rfl) (Cy rfl)) (Z0 (Zq (i:=1) (Y0 (by kernel_rfl)) rfl (Cd rfl) (Cy rfl)) Xr)) (by rfl))) (λ_ _ _ _=>Yv) (λ_ _ _ _=>(pv 1)) (Tr (Yj nofun (Yj nofun Vb)))) Zf)))))
 Z6))))
 (Zj (Z1 (pv 3)))))),λ_=>(Zv (Z7 (Pu (sh:=[0,1])) (s_g 3))
 (Zv (Z7 (Zab (Zb (Zqy N_FIRST_SPOT) Zn)) (s_g 4))
 (Zv (Zby (Yo (s_op s_gt (s_cb W4 (Zb (Ze 4) Zn)) Zt))
 (Zv (Z7 (Zt2 (Ze 4)) (s_g 5))
 (X2 (s_b (Zj2 (Ze 5) (Ze 3)))
 (Zv (Zgl (Ze 3) (Ze 5) (Z3 (Zb (Ze 0) (Zb (Ze 1) (Zb (Ze 2) (Zb (Ze 5) Zn))))))
 (Zac (Zj6 (Ze 4) (Zb (Xp (s_il (Zaa (Ze 3) (Ze 5))) (Th (Yp (s_g 0) (Yp (s_g 1) Ti))) Vm (Ze 1)) Zn))))
 Y7)))
 (Xj (Ze 3))))),λds M Kk hM hD h=>?_⟩
  let⟨S1,S,kn,rfl,h⟩:=h;let⟨⟨fr1,fi1,fi,hn⟩,k⟩:=h;exists(show 1<=sizeLine by decide),?_;let el:(M++[MO.dcN [0,1] none []]).length=M.length+1:=by rw[Jc];rfl
  rw[el,Jn];generalize hP:Xt S1=P at k;let lP:P.length<64:=by rw[<-hP,(Xu S1).length_eq];exact fi1.1
  let few:∀{ks ws:List Spot},AllSt kn S P ks ws->ks.length<=51000:=λh=>Zd3 fi hn h.nd λsp hs=>(h.rk sp hs).good;refine⟨λm ρ M'=>∃ks ws v5,ρ=[some (.code S1),some (.code S),some (.lst (kn.map oD)),some (.cell M.length),some (.cell (M.length+1)),v5]/\M'=M++[.dcN [0,1] none (kvN (stD3 kn S P) ks),.lst (ws.map λsp=>.nst (spN sp))]/\AllSt kn S P ks ws/\m=(51000-ks.length)*64+ws.length,
   ⟨_,[],[(0,[])],_,rfl,rfl,⟨Di,.inr Ji,(λ_ h=>nomatch h),(λ_ h=>nomatch h),λsp hs=>by rw[Jf.mp hs];exact⟨[],(λ_ h=>nomatch h),rfl⟩,nofun⟩,rfl⟩,?_⟩
  rintro m ρ _ ⟨ks,ws,v5,rfl,rfl,as,rfl⟩;exists ·,_,(Ug (Zaj two1)).2.2,_,·,rfl,·,?_;rcases List.eq_nil_or_concat ws with rfl|⟨ws,sp,rfl⟩
  .refine iteF ⟨_,rfl,.inr ⟨M.length+1,Fu _,Ph (Fo _),?_,?_⟩⟩
   .rw[show(M++[MO.dcN [0,1] none (kvN (stD3 kn S P) ks),MO.lst ([].map λsp=>D.nst (spN sp))]).take (M.length+1)=M++[MO.dcN [0,1] none (kvN (stD3 kn S P) ks)]from by rw[List.take_append,Gr ()];simp];intro m hm;rcases Jw.mp hm with z|z
    .exact(hM m z).up (Fu _)
    .rw[Jf.mp z];refine Zja λd hd=>?_;let⟨sp,_,rfl⟩:=Jq.mp hd;exact Zeh
   .rw[show(M++[MO.dcN [0,1] none (kvN (stD3 kn S P) ks),MO.lst ([].map λsp=>D.nst (spN sp))]).take (M.length+1)=M++[MO.dcN [0,1] none (kvN (stD3 kn S P) ks)]from by rw[List.take_append,Gr ()];simp];exact k ks ⟨as.nd,λsp hs=>(as.rk sp hs).good,as.st.resolve_right (λz=>nomatch z),λsp hs x hx=>(as.cl sp hs x hx).resolve_right (λz=>nomatch z),as.rk⟩
  rw[List.concat_eq_append]at as⊢;let lw:((ws++[sp]).map λsp=>D.nst (spN sp)).length=ws.length+1:=by rw[Ja,Jc];rfl
  rw[Du (by rw[lw];lia)];refine iteT ⟨_,rfl,M.length+1,_,_,rfl,rfl,two1,by rw[lw,Jk,Nat.add_sub_cancel,J8 (by rw[Ja];exact Jd _),Ja,B5];rfl,?_⟩;rw[Zqu,show((ws++[sp]).map λsp=>D.nst (spN sp)).dropLast=ws.map λsp=>D.nst (spN sp)from by rw[Jk];exact List.dropLast_concat];let dc:∀(ks:List Spot)(m:MO),Vk (M++[.dcN [0,1] none (kvN (stD3 kn S P) ks),m]) (.cell M.length)=some ([0,1],kvN (stD3 kn S P) ks):=λks m=>by simp only[Vk,two0]
  exists ·,·,_,⟨_,_,_,dc _ _,rfl,rfl,rfl⟩,·,?_;let lwa:(ws++[sp]).length=ws.length+1:=by rw[Jc];rfl
  by_cases hs:sp∈ks
  .rw[Vv hs];exact iteF ⟨_,by rw[lwa];exact Fo _,.inl ⟨ks,ws,_,rfl,rfl,as.old hs,rfl⟩⟩
  rw[Zmj hs];let rs:=as.rw sp (Jm _ Ji);refine iteT ⟨_,rfl,_,rfl,_,rfl,_,rfl,S1,S,kn,sp,rfl,⟨rs.good,fr1,fi1,hn⟩,_,rfl,_,rfl,M.length,_,_,_,rfl,two0,rfl,rfl,?_,?_⟩
  .rw[T8];exact Gz (few as) nofun
  let an:=as.new hs lP;let ln:=few an;rw[Ztz,hP,Nb hs];exists ·,Uy (Zaj two1),?_;exists ·,·,stD3 kn S P sp,⟨_,_,_,dc _ _,rfl,rfl,(Vv (Jm _ Ji)).symm⟩,?_;let l2:(stF kn S P sp).length<=P.length:=Fn _ _;let lm:((stF kn S P sp).map stpD).length=(stF kn S P sp).length:=Ja _;exists ·,?_,λi ys M'=>M'=M++[.dcN [0,1] none (kvN (stD3 kn S P) (ks++[sp])),.lst (ws.map λsp=>.nst (spN sp))]/\ys=((stF kn S P sp).take i).map λx=>D.nst (spN x.2),λ_ _ _ _ _=>rfl,⟨rfl,rfl⟩,?_,?_
  .show((stF kn S P sp).map stpD).length<=sizeLine;rw[lm];exact Zk ()
  .rintro i x ys _ hi hx ⟨rfl,rfl⟩;let⟨hi',rfl⟩:=Yi hx;exists ·,rfl,_,·,_,·,rfl,·,rfl,?_;rw[Jh hi',Jk];rfl
  rintro ys _ ⟨rfl,rfl⟩;rw[show C5 _ (stF kn S P sp)=stF kn S P sp from by rw[show((stF kn S P sp).map stpD).length=(stF kn S P sp).length from lm];exact Gd];let l3:=as.len;exists M.length+1,_,_,·,rfl,two1,rfl,?_,?_
  .rw[Ja,Ja];refine J9 (show _<=64*51000+100 from ?_) nofun;let:=few as;rw[lwa]at l3;lia
  .rw[Zqu];exists(51000-(ks++[sp]).length)*64+(ws++(stF kn S P sp).map (·.2)).length,?_,.inl ⟨ks++[sp],ws++(stF kn S P sp).map (·.2),_,rfl,?_,an,rfl⟩
   .let:(ks++[sp]).length=ks.length+1:=by rw[Jc];rfl
    rw[this]at ln⊢;rw[lwa,Jc,Ja];lia
   .rw[Jk,Gb];rfl
open L3
def Zcr(sp:Spot):List Int:=(sp.1:Int)::sp.2
def Zov(f:Spot->D)(ks:List Spot):(kvN f ks).map (λq=>encP q.1)=ks.map Zcr:=by
 unfold kvN;rw[Gb];rfl
theorem Zdf(f:τ->Nat):∀xs:List τ,((xs.map f).sum:Int)=(xs.map λx=>((f x:Nat):Int)).sum
 |[]=>rfl
 |x::xs=>by
  rw[Jp,Dl,Jp,Dl,F1,Zdf f xs]
theorem Zlj{kb:List Spot}(pw:kb.Pairwise λa b=>HT.lexLt (Zcr b) (Zcr a)=true){i:Nat}(hi:i<kb.length){q:Spot}(hq:q∈kb)(l:kb[i].1<q.1):q∈kb.take i:=by
 let⟨j,hj,rfl⟩:=Gg hq
 by_cases z:j<i
 .exact List.mem_take_iff_getElem.mpr ⟨j,(),rfl⟩
 .let:i≠j:=λe=>by subst e;lia
  let h:=Gp.mp pw i j hi hj ();unfold Zcr at h;rw[HT.lexLt_cons,Ds ()]at h;let:=of_decide_eq_true h;lia
theorem Jck(T:Txt mg){C:Addr}{f:Addr}(F:Fun K "counts_behind" "counts_behind" Wc f fd):FnOk P w K mg base CX0 1 f fd ["steps","size"] (spOf ⟨C,K⟩ Nw):=by
 refine L3.Fun.ok3 F Jbb (λds M K3 h=>?_) (λcdv A outer s H E hr=>?_)
 .let⟨c,y,S,P,kn,ks,n,rfl,_⟩:=h;rfl
 .let SC:=Jbb;let hu:=hr.units;let hu1:=Wf hr;refine⟨_,_,(Zd (Zs (i:=2) SC.nd rfl (Cy rfl) Sw)
 (Zd (X6 Cm rfl (Yf (Zkh (K:=K) rfl rfl (So hr) rfl T.b_sorted (Za (pv 0) Zf) (Zoc Zb7 Zrf))) (Zq (i:=3) SC.nd rfl (Cd rfl))
 (Zj (Zb5 (K:=K) rfl (So hr) (pv 2) (pv 3) (Tm (Z4 (N4 (K':=K) rfl hu) (Z9 (Yr (K':=K) rfl) (pv 3) Zi (λ_ _=>rfl)) (pv 1) (Yc _)) Zi (Zr (Zs6 (K':=K) rfl rfl) (by rfl) T.b_sum PyProof.Rows.boot_sum (Za (Yq (T:=["sign","behind"]) (cs:=[2]) rfl (CScope.ok (by kernel_rfl)) (Yf (Rl (K:=K) rfl (So hr) (pv 0) (pv 3) (λ_ _=>rfl))) (λ_ _ _ _=>(Wr (n:=2) rfl (Z0 (Zq (i:=0) (Y0 (by kernel_rfl)) rfl (Cd rfl) (Cy rfl)) (Z0 (Zq (i:=1) (Y0 (by kernel_rfl)) rfl (Cd rfl) (Cy rfl)) Xr)) (by rfl))) (λ_ _ _ _=>Yv) (λ_ _ _ _=>(Rl (K:=K) rfl (So hr) (pv 2) (pv 1) (λ_ _=>rfl))) (Tr (Yj nofun (Yj nofun Vb)))) Zf))) rfl)))
 (Zj (Z1 (pv 2))))),λ_=>(Zv (Z7 (Pu (sh:=[0,1])) (s_g 2))
 (Zv (Ri (s_il (Znv (Zb (Ze 0) Zn))) (s_g 3)
 (Zgl (Ze 2) (Ze 3) (s_if (Yo (s_op s_eq (s_op Zn1 (Ze 3) Zt) (Ze 1))) Zt (s_cb Zt0 (Zb (Xp (s_il (Zaa (Ze 0) (Ze 3))) (Th (Yp (s_g 0) (Yp (s_g 1) Ti))) Vm (Zaa (Ze 2) (Ze 1))) Zn)))))
 (Xj (Ze 2)))),λds M Kk hM hD h=>?_⟩
  let⟨c,y,S,P,kn,ks,n,rfl,h⟩:=h;let⟨hc,⟨nd,gd,cl,ne,lP,lk,hn⟩,k⟩:=h;let dc:∀m:MO,Vk (M++[m]) (.cell c)=some ([0,1],kvN (stD3 kn S P) ks):=λm=>by simp only[Vk,Zie hc]
  let dn:∀kb:List Spot,Vk (M++[.dcN [0,1] none (kvN (cntD kn S P) kb)]) (.cell M.length)=some ([0,1],kvN (cntD kn S P) kb):=λkb=>by simp only[Vk,Y5]
  exists ·,_,·,dc _,by rw[T8];lia,λws pm pw=>?_;rw[Zov]at pm;let⟨kb,pk,rfl⟩:=L2.Rp pm rfl;let pw:kb.Pairwise λa b=>HT.lexLt (Zcr b) (Zcr a)=true:=(Jz.mp pw).imp λh=>by simpa using h
  let lb:kb.length=ks.length:=pk.length_eq;rw[show(kb.map Zcr).map (λw=>D.nst (decP w))=kb.map λsp=>D.nst (spN sp)from by rw[Gb];rfl];let lm:(kb.map λsp=>D.nst (spN sp)).length=kb.length:=Ja _;exists ·,λi ρ M'=>∃v3,ρ=[some (.cell c),some (.int n),some (.cell M.length),v3]/\M'=M++[.dcN [0,1] none (kvN (cntD kn S P) (kb.take i))],λ_ _ _ _ _=>rfl,⟨_,rfl,rfl⟩,?_,?_
  .rintro i x ρ _ hi hx ⟨v3,rfl,rfl⟩;let⟨hi',rfl⟩:=Yi hx;let hs:kb[i]∈ks:=pk.mem_iff.mp (Ju hi');let hnk:=hn (λz=>by rw[z]at hs;cases hs);let g:=gd _ hs;let nin:kb[i]∉kb.take i:=λz=>by
    let⟨j,hj,e⟩:=List.mem_take_iff_getElem.mp z;let:=(G9 (pk.nodup_iff.mpr nd)).mp e;lia
   let lt:(kvN (cntD kn S P) (kb.take i)).length<sizeLine:=by
    rw[T8];exact Gz (J9 (List.length_take_le _ _) (by lia:_<=51000)) nofun
   exists ·,_,_,·,rfl,rfl,·,Wy Wt (a:=(kb[i].1:Int)) (b:=n) ⟨_,rfl,?_⟩
   by_cases he:(kb[i].1:Int)=n
   .rw[Du he];refine iteT ⟨_,rfl,_,rfl,M.length,_,_,_,rfl,Y5,rfl,rfl,lt,.inl ⟨_,rfl,?_⟩⟩;rw[Xw,show D.int 1=cntD kn S P kb[i]from by unfold cntD;rw[Zi5 ()];rfl,Nb nin,List.take_succ_eq_append_getElem hi']
   rw[Dv he];let l2:(stF kn S P kb[i]).length<=P.length:=Fn _ _;let lm2:((stF kn S P kb[i]).map stpD).length=(stF kn S P kb[i]).length:=Ja _;refine iteF ⟨_,rfl,_,rfl,stD3 kn S P kb[i],⟨_,_,_,dc _,rfl,rfl,(Vv hs).symm⟩,_,rfl,?_,λj ys M'=>M'=M++[.dcN [0,1] none (kvN (cntD kn S P) (kb.take i))]/\ys=(((stF kn S P kb[i]).take j).map λx=>((cnt kn S P x.2:Nat):Int)).map .int,λ_ _ _ _ _=>rfl,⟨rfl,rfl⟩,?_,?_⟩
   .show((stF kn S P kb[i]).map stpD).length<=sizeLine;rw[lm2];exact Zk ()
   .rintro j x ys _ hj hx ⟨rfl,rfl⟩;let⟨hj',rfl⟩:=Yi hx;let hm:=Ju hj';let up:=(Zty ne g hm).2;let ha:=Zlj pw hi' (pk.mem_iff.mpr (cl _ hs _ hm)) up;exists ·,rfl,_,·,_,·,rfl,·,·,_,⟨_,_,_,dn _,rfl,rfl,(Vv ha).symm⟩,rfl,?_;rw[Jh hj',Jk,Jk];rfl
   rintro ys _ ⟨rfl,rfl⟩;rw[show C5 _ (stF kn S P kb[i])=stF kn S P kb[i]from by rw[show((stF kn S P kb[i]).map stpD).length=(stF kn S P kb[i]).length from lm2];exact Gd];exists _,·,rfl,?_;exists ·,·,M.length,_,_,·,Y5,rfl,rfl,lt,.inl ⟨_,rfl,?_⟩;rw[<-Zdf,<-Zpk ne g (by have:=g.2.1;lia),Xw];show M++[MO.dcN [0,1] none (Zad _ (spN kb[i]) (cntD kn S P kb[i]))]=_;rw[Nb nin,Jh hi']
  .rintro ρ _ ⟨v3,rfl,rfl⟩;rw[show C5 _ kb=kb from by rw[show(kb.map λsp=>D.nst (spN sp)).length=kb.length from lm];exact Gd];exists ·,.inl (k kb pk)
open L3
section
variable{N:Mem}{a b c:MO}{n:Nat}
def tri0(h:N.length=n):(N++[a,b,c])[n]?=some a:=by rw[<-h,J8 (Jd _),B5];rfl
theorem tri1(h:N.length=n):(N++[a,b,c])[n+1]?=some b:=by rw[<-h,J8 (),show N.length+1-N.length=1 by lia];rfl
theorem tri2(h:N.length=n):(N++[a,b,c])[n+2]?=some c:=by rw[<-h,J8 (),show N.length+2-N.length=2 by lia];rfl
def Ztx(h:N.length=n):(N++[a,b,c]).set n m=N++[m,b,c]:=by rw[<-h,Fc _ _ (Jd _),B5];rfl
theorem Ztw(h:N.length=n):(N++[a,b,c]).set (n+2) m=N++[a,b,m]:=by rw[<-h,Fc _ _ (),show N.length+2-N.length=2 by lia];rfl
end
theorem Zan{XL:Addr}(cl:Cls K XL)(n1:Y9 K XL "size")(n2:Y9 K XL "behind")(n3:Y9 K XL "steps"){x:Nat}{S1 P:List Pr}{d dk:D}{E:List (Option Int)}{ks:List Spot}{n:Int}{Kk:K3}{v6:Option D}{n0:Nat}(hx:M[x]?=some (.ins XL []))(fi1:Fits S1)(fi:Fits S)(hP:Xt S1=P)(hc:(dk=.non/\n=0/\ks=[]/\knF S E=none)\/(dk=.lst (kn.map oD)/\n=kn.length/\knF S E=some kn/\KeysOk kn S P ks/\kn.length<=200))(k:∀M',(∃o J,M'=M.set x o++J)->LvAt XL M' x S1 S E->Kk D.non M') :
  uSeq (Zjq K "size" (uVar 0) (uIf (uB3 (uIsN (uVar 4))) (uC (D.int 0)) (uCB len3 (Pm (uVar 4) uNil))))
   (uSeq (Zjq K "behind" (uVar 0) (Zni Nw (Pm (uVar 5) (Pm (Zjr K "size" (uVar 0)) uNil))))
    (uSeq (Zjq K "steps" (uVar 0) (Zlo [0,1]))
     (uFor (uIDN (uVar 5)) (uG 6) (Zp2 (Zjr K "steps" (uVar 0)) (uVar 6) (Zqa (uIL (Zng (uVar 5) (uVar 6))) (Zp6 2 (Zfw (uG 0) (Zfw (uG 1) Zp8)))
      (uB3 (uOp (Zck λi j=>D.bl (decide (j<i))) (Zng (Zjr K "behind" (uVar 2)) (uVar 1)) (uC (D.int 0)))) (uTup (Pm (uVar 0) (Pm (uVar 1) uNil))) ["sign","behind"] [0])))))
   {nx:=λ_ M'=>Dk n0 Kk D.non M',rt:=Dk n0 Kk} [some (.cell x),some (.code S1),some (.code S),some d,some dk,some (.cell M.length),v6] (M++[.dcN [0,1] none (kvN (stD3 kn S P) ks)]):=by
 let hl:=(Je.mp hx).1;let hne:M.length≠x:=by lia
 let lP:P.length<64:=by rw[<-hP,(Xu S1).length_eq];exact fi1.1
 let neP:NeW P:=λp hp=>(fi1.2 p (by rw[<-hP]at hp;exact(Xu S1).mem_iff.mp hp)).1;let hks:ks.Nodup/\(∀sp∈ks,Wm kn S sp)/\(∀sp∈ks,∀y∈stF kn S P sp,y.2∈ks)/\NeW P/\P.length<64/\ks.length<=51000/\(ks≠[]->n=kn.length):=by
  rcases hc with⟨_,_,rfl,_⟩|⟨_,e,_,ko,lk⟩
  .exists Di,(λ_ h=>nomatch h),(λ_ h=>nomatch h),neP,lP,Gc _,λh=>absurd rfl h
  .exists ko.nd,ko.gd,ko.cl,neP,lP,Zd3 fi lk ko.nd ko.gd,λ_=>e
 let gx:∀{o:MO}{J:Mem},(M.set x o++J)[x]?=some o:=by intro o J;rw[Js (by rw[Bk];exact hl),Bs hl]
 let gx2:∀{o:MO}{J J':Mem},(M.set x o++J++J')[x]?=some o:=by intro o J J';rw[Jn];exact gx
 let sx:∀{o o':MO}{J:Mem},(M.set x o++J).set x o'=M.set x o'++J:=by intro o o' J;rw[List.set_append_left _ _ (by rw[Bk];exact hl),List.set_set]
 let ln:∀{o:MO},(M.set x o).length=M.length:=by intro o;exact Bk
 generalize hA:MO.dcN [0,1] none (kvN (stD3 kn S P) ks)=A0;let e0:M++[A0]=M.set x (.ins XL [])++[A0]:=by let⟨h1,h2⟩:=Je.mp hx;rw[<-h2,List.set_getElem_self]
 rw[e0];let sz:∀{K':K3},K' (.int n) (M.set x (.ins XL [])++[A0])->uIf (uB3 (uIsN (uVar 4))) (uC (D.int 0)) (uCB len3 (Pm (uVar 4) uNil)) [some (.cell x),some (.code S1),some (.code S),some d,some dk,some (.cell M.length),v6] (M.set x (.ins XL [])++[A0]) K':=by
  intro K' hk;rcases hc with⟨rfl,rfl,_,_⟩|⟨rfl,rfl,_,_,_⟩
  .exists ·,·,iteT hk
  .exists ·,·,iteF ⟨_,rfl,_,rfl,?_⟩;rw[Ja];exact hk
 refine sz ⟨_,rfl,x,XL,[],rfl,gx,cl,n1,(show 0<1000 by decide),?_⟩;rw[sx];exists ·,·,x,XL,_,·,gx,cl,n1,rfl,M.length,none,S,P,kn,ks,n,rfl,?_,hks,λkb pk=>?_
 .rw[<-hA];let:=Y5 (M:=M.set x (.ins XL (Qm "size" (.int n) []))) (m:=MO.dcN [0,1] none (kvN (stD3 kn S P) ks));rwa [ln]at this
 generalize hB:MO.dcN [0,1] none (kvN (cntD kn S P) kb)=B0;rw[Jn];exists ·,x,XL,·,gx,cl,n2,(show 1<1000 by decide),?_;rw[sx];exists ·,x,XL,·,gx2,cl,n3,(show 2<1000 by decide),?_;rw[Jn,sx];let l1:(M.set x (.ins XL (Qm "size" (.int n) []))++[A0]).length=M.length+1:=by rw[Jc,ln];rfl
 let l2:∀fs,(M.set x (.ins XL fs)++([A0]++[B0])).length=M.length+2:=λfs=>by rw[Jc,ln];rfl
 rw[l2,l1];generalize hN:M.set x (.ins XL (Qm "steps" (D.cell (M.length+2)) (Qm "behind" (D.cell (M.length+1)) (Qm "size" (D.int n) []))))=N0;let gx:∀{J:Mem},(N0++J)[x]?=some (.ins XL [("size",.int n),("behind",.cell (M.length+1)),("steps",.cell (M.length+2))]):=by intro J;rw[<-hN];exact gx
 let lN:N0.length=M.length:=by rw[<-hN];exact ln
 rw[show [A0]++[B0]++[MO.dcN [0,1] none []]=[A0,B0,MO.dcN [0,1] none []]from rfl];exists ·,M.length,[0,1],none,·,by rw[<-hA];exact tri0 lN,λz=>?_;rw[Ztx lN];let dcA:∀{b c:MO},Vk (N0++[MO.dcN [0,1] (some z) (kvN (stD3 kn S P) ks),b,c]) (.cell M.length)=some ([0,1],kvN (stD3 kn S P) ks):=by intro b c;simp only[Vk,tri0 lN]
 let dcB:∀{a c:MO},Vk (N0++[a,B0,c]) (.cell (M.length+1))=some ([0,1],kvN (cntD kn S P) kb):=by intro a c;simp only[Vk,tri1 lN,<-hB]
 exists λi ρ M'=>∃v6,ρ=[some (.cell x),some (.code S1),some (.code S),some d,some dk,some (.cell M.length),v6]/\M'=N0++[.dcN [0,1] (some z) (kvN (stD3 kn S P) ks),B0,.dcN [0,1] none (kvN (stL3 kn S P) (ks.take i))],λi ρ M' _⟨_,_,e⟩=>by rw[e];exact tri0 lN,⟨_,rfl,rfl⟩,?_,?_
 .rintro i y ρ _ hi hy ⟨v6,rfl,rfl⟩;let⟨kv,e,rfl⟩:=hy;let hi':i<ks.length:=by
   let:i<(kvN (stD3 kn S P) ks).length:=hi;rwa [T8]at this
  unfold kvN at e;rw[Ge,Jb hi']at e;cases e;let hs:=Ju hi';let lst2:(stF kn S P ks[i]).length<=P.length:=Fn _ _;let lm2:((stF kn S P ks[i]).map stpD).length=(stF kn S P ks[i]).length:=Ja _;let nin:ks[i]∉ks.take i:=λz=>by
   let⟨j,hj,e⟩:=List.mem_take_iff_getElem.mp z;let:=(G9 hks.1).mp e;lia
  exists ·,·,stD3 kn S P ks[i],⟨_,_,_,dcA,rfl,rfl,(Vv hs).symm⟩,·,?_,λj ys M'=>M'=N0++[.dcN [0,1] (some z) (kvN (stD3 kn S P) ks),B0,.dcN [0,1] none (kvN (stL3 kn S P) (ks.take i))]/\ys=(((stF kn S P ks[i]).take j).filter λy=>decide (0<cnt kn S P y.2)).map stpD,λ_ _ _ _ _=>rfl,⟨rfl,rfl⟩,?_,?_
  .show((stF kn S P ks[i]).map stpD).length<=sizeLine;rw[lm2];exact Zk ()
  .rintro j y ys _ hj hy ⟨rfl,rfl⟩;let⟨hj',rfl⟩:=Yi hy;let hm:=Ju hj';let ha:(stF kn S P ks[i])[j].2∈kb:=pk.mem_iff.mpr (hks.2.2.1 _ hs _ hm);exists ·,rfl,_,·,_,·,rfl,?_;exists ·,x,XL,_,·,gx,cl,n2,rfl,·,cntD kn S P (stF kn S P ks[i])[j].2,⟨_,_,_,dcB,rfl,rfl,(Vv ha).symm⟩,_,·,rfl,·,?_;rw[show decide ((0:Int)<((cnt kn S P (stF kn S P ks[i])[j].2:Nat):Int))=decide (0<cnt kn S P (stF kn S P ks[i])[j].2)from decide_eq_decide.mpr ()];refine ite2 (λhl=>⟨_,rfl,_,rfl,(show 2<=sizeLine by decide),rfl,?_⟩) (λhl=>⟨rfl,?_⟩)
   .exact(X0 (λy:Int×Spot=>decide (0<cnt kn S P y.2)) stpD hj' true hl).symm
   .exact((X0 (λy:Int×Spot=>decide (0<cnt kn S P y.2)) stpD hj' false (B9 _ ▸ hl)).trans (Gm _)).symm
  rintro ys _ ⟨rfl,rfl⟩;rw[show C5 _ (stF kn S P ks[i])=stF kn S P ks[i]from by rw[show((stF kn S P ks[i]).map stpD).length=(stF kn S P ks[i]).length from lm2];exact Gd];exists ·,x,XL,_,·,gx,cl,n3,rfl,·,M.length+2,_,_,·,tri2 lN,rfl,rfl,?_,.inl ⟨_,rfl,?_⟩
  .rw[T8];exact Gz (J9 (List.length_take_le _ _) (by have:=hks.2.2.2.2.2.1;lia:_<=51000)) nofun
  .rw[Ztw lN];show N0++[_,_,MO.dcN [0,1] none (Zad _ (spN ks[i]) (stL3 kn S P ks[i]))]=_;rw[Nb nin,Jh hi']
 .rintro ρ _ ⟨v6,rfl,rfl⟩;rw[show C5 _ ks=ks from by rw[show(nIt M.length [0,1] z (kvN (stD3 kn S P) ks)).n=ks.length from T8 _ _];exact Gd];refine .inl (k _ ⟨_,_,by rw[hN]⟩ ⟨M.length+1,M.length+2,n,kn,ks,kb,gx,by rw[hP,hB];exact tri1 lN,by rw[hP];exact tri2 lN,pk,?_⟩);rcases hc with⟨_,e1,e2,e3⟩|⟨_,e1,e2,e3,_⟩
  .rw[e3];exists e1,e2
  .rw[e2];exact⟨rfl,e1,by rw[hP];exact e3⟩
def Jah(T:Txt mg){C:Addr}{Zx:Addr}(cl:Cls K Zx)(n1:Y9 K Zx "size")(n2:Y9 K Zx "behind")(n3:Y9 K Zx "steps")(Ve:Cal P w K mg base "known_bytes" 2 ["other","entries"] (spOf ⟨C,K⟩ Zmv))(U6:Cal P w K mg base "all_steps" 6 ["one","other","known"] (spOf ⟨C,K⟩ Zmz))(Wo:Cal P w K mg base "counts_behind" 1 ["steps","size"] (spOf ⟨C,K⟩ Nw)){f:Addr}(F:Fun K "__init__" "Leaving.__init__" Xq f fd):FnOk P w K mg base CX0 7 f fd ["self","one","other","entries"] (spOf ⟨C,K⟩ (Zsq Zx)):=by
 refine L3.Fun.ok3 F Jbm (λds M K3 h=>?_) (λcdv A outer s H E hr=>?_)
 .let⟨x,S1,S,d,E,rfl,_⟩:=h;rfl
 .let SC:=Jbm;let hu:=hr.units;let hu1:=Wf hr;let Qo:Room 2 _:=hr.mono nofun;let Zav:Room 6 _:=hr.mono nofun;let Sq:Room 1 _:=hr.mono nofun;refine⟨_,_,(Zd (Zs (i:=4) SC.nd rfl (Cd rfl) (Zw Ve Qo rfl (Za (pv 2) (Za (pv 3) Zf))))
 (Zd (Zs (i:=5) SC.nd rfl (Cd rfl) (Tm (Wd (Vs (pv 4))) Sw (Zw U6 Zav rfl (Za (pv 1) (Za (pv 2) (Za (pv 4) Zf))))))
 (Zd (Sm (pv 0) (Tm (Wd (Vs (pv 4))) Zi (Zr (Xa (K:=K) rfl) (by rfl) T.b_len Dx (Za (pv 4) Zf))) rfl)
 (Zd (Sm (pv 0) (Zw Wo Sq rfl (Za (pv 5) (Za (Vg (pv 0) rfl) Zf))) rfl)
 (Zd (Sm (pv 0) Sw rfl)
 (Zj (X6 Cm rfl (Zkf (K:=K) rfl (pv 5)) (Zq (i:=6) SC.nd rfl (Cd rfl))
 (Zj (Zb5 (K:=K) rfl (So hr) (Vg (pv 0) rfl) (pv 6) (Yq (T:=["sign","behind"]) (cs:=[0]) rfl (CScope.ok (by kernel_rfl)) (Yf (Rl (K:=K) rfl (So hr) (pv 5) (pv 6) (λ_ _=>rfl))) (λ_ _ _ _=>(Wr (n:=2) rfl (Z0 (Zq (i:=0) (Y0 (by kernel_rfl)) rfl (Cd rfl) (Cy rfl)) (Z0 (Zq (i:=1) (Y0 (by kernel_rfl)) rfl (Cd rfl) (Cy rfl)) Xr)) (by rfl))) (λ_ _ _ _=>(W9 (Z4 P1 (Rl (K:=K) rfl (So hr) (Vg (pv 2) rfl) (pv 1) (λ_ _=>rfl)) Zi (Yc _)))) (λ_ _ _ _=>(Yz (Za (pv 0) (Za (pv 1) Zf)))) (Tr (Yj nofun (Yj nofun Vb)))) rfl))))))))),λ_=>(Zv (Z7 (Zq1 (Z3 (Zb (Ze 2) (Zb (Ze 3) Zn)))) (s_g 4))
 (Zv (Z7 (s_if (s_b (Ql (Ze 4))) (Pu (sh:=[0,1])) (Z3 (Zb (Ze 1) (Zb (Ze 2) (Zb (Ze 4) Zn))))) (s_g 5))
 (Zv (Zgk (Ze 0) (s_if (s_b (Ql (Ze 4))) Zt (s_cb W4 (Zb (Ze 4) Zn))))
 (Zv (Zgk (Ze 0) (Z3 (Zb (Ze 5) (Zb (Zdl (Ze 0)) Zn))))
 (Zv (Zgk (Ze 0) (Pu (sh:=[0,1])))
 (Ri (Zt7 (Ze 5)) (s_g 6)
 (Zgl (Zdl (Ze 0)) (Ze 6) (Xp (s_il (Zaa (Ze 5) (Ze 6))) (Th (Yp (s_g 0) (Yp (s_g 1) Ti))) (Yo (s_op s_gt (Zaa (Zdl (Ze 2)) (Ze 1)) Zt)) (Vj (Zb (Ze 0) (Zb (Ze 1) Zn))))))))))),λds M Kk hM hD h=>?_⟩
  let⟨x,S1,S,d,E,rfl,h⟩:=h;let⟨hx,hd,⟨fr1,fi1,fr,fi,hE⟩,k⟩:=h;exists ·,·,S,d,E,rfl,hd,⟨fr,fi,hE⟩,λhk=>.inr ?_,λkn hk=>.inl ⟨_,_,rfl,by rw[Jc];rfl,Y5,rfl,?_,?_⟩
  .exists ·,·,iteT ?_;exact Zan (kn:=[]) (ks:=[]) (n:=0) cl n1 n2 n3 hx fi1 fi rfl (.inl ⟨rfl,rfl,rfl,hk⟩) k
  .intro m hm;rcases Jw.mp hm with z|z
   .exact hM m z
   .rw[Jf.mp z];exact Zba (Wk (λ_=>Zcx) kn)
  .let lk:kn.length<=200:=J9 (Zh2 fi hk) (Nat.mul_le_mul_left 4 hE);rw[Bw];exists ·,·,iteF ⟨_,rfl,_,rfl,_,rfl,S1,S,kn,rfl,⟨fr1,fi1,fi,lk⟩,λks ko=>?_⟩;exact Zan cl n1 n2 n3 hx fi1 fi rfl (.inr ⟨rfl,rfl,hk,ko,lk⟩) k
open L3
def Jam(T:Txt mg){C:Addr}{Zx:Addr}(cl:Cls K Zx)(n1:Y9 K Zx "size")(n2:Y9 K Zx "behind")(n3:Y9 K Zx "steps"){Yg:Addr}(Xh:mg "FIRST_SPOT"=some (.ref Yg))(N_FIRST_SPOT:NkAt K (λ_=>none) [.k 0,.t []] Yg){f:Addr}(F:Fun K "original_total" "Leaving.original_total" Ym f fd):FnOk P w K mg base CX0 1 f fd ["self"] (spOf ⟨C,K⟩ (Zmq Zx)):=by
 refine L3.Fun.ok3 F Jbs (λds M K3 h=>?_) (λcdv A outer s H E hr=>?_)
 .let⟨x,S1,S,E,rfl,_⟩:=h;rfl
 .let SC:=Jbs;let hu:=hr.units;let hu1:=Wf hr;exists _,_,(Zj (Z1 (Zkj (K:=K) rfl (So hr) (Vg (pv 0) rfl) (Zg9 (v:=.ref Yg) rfl Xh rfl) Zi ⟨rfl,rfl,rfl,rfl⟩))),λ_=>(Xj (Znx (Zdl (Ze 0)) (Zqy N_FIRST_SPOT) Zt)),λds M Kk hM hD h=>?_;let⟨x,S1,S,E,rfl,h⟩:=h;let⟨⟨b,s,n,kn,ks,kb,hx,hb,hs,pk,hk⟩,k⟩:=h;let dcB:Vk M (.cell b)=some ([0,1],kvN (cntD kn S (Xt S1)) kb):=by simp only[Vk,hb]
  exists ·,x,Zx,_,·,hx,cl,n2,rfl,by rw[dcB];exact(λz=>nomatch z),_,⟨_,_,_,dcB,rfl,rfl,rfl⟩,.inl ?_;unfold Sk at k;cases e:knF S E with
  |none =>
   rw[e]at hk k;rw[hk.2]at pk;rw[List.perm_nil.mp pk];exact k
  |some kn' =>
   rw[e]at hk k;let⟨rfl,_,ko⟩:=hk;rw[show Pk (kvN (cntD kn S (Xt S1)) kb) [.k 0,.t []]=some (cntD kn S (Xt S1) (0,[]))from Vv (sp:=(0,[])) (pk.mem_iff.mpr ko.st)];exact k
def Jbt(T:Txt mg){C:Addr}{Zx:Addr}(Qi:Mkr P w K mg base "Leaving" Zx 7 ["self","one","other","entries"] (spOf ⟨C,K⟩ (Zsq Zx)))(X5:Met P w K mg base Zx "original_total" 1 ["self"] (spOf ⟨C,K⟩ (Zmq Zx))){f:Addr}(F:Fun K "original_count" "original_count" X1 f fd):FnOk P w K mg base CX0 9 f fd ["one","other","entries"] (spOf ⟨C,K⟩ Zmt):=by
 refine L3.Fun.ok3 F Jat (λds M K3 h=>?_) (λcdv A outer s H E hr=>?_)
 .let⟨S1,S,d,E,rfl,_⟩:=h;rfl
 .let SC:=Jat;let hu:=hr.units;let hu1:=Wf hr;let Ze5:Room 8 _:=hr.mono nofun;let Sc:Room 1 _:=hr.mono nofun;exists _,_,(Zj (Z1 (Zmc (Zrj Qi Ze5 rfl (Za (pv 0) (Za (pv 1) (Za (pv 2) Zf)))) X5 Sc))),λ_=>(Xj (Znz (Zt6 (Zb (Ze 0) (Zb (Ze 1) (Zb (Ze 2) Zn)))) Zn)),λds M Kk hM hD h=>?_;let⟨S1,S,d,E,rfl,h⟩:=h;let⟨hd,hI,k⟩:=h;exists ·,·,·,M.length,S1,S,d,E,rfl,Y5,Zhu hd,hI,λM'⟨o,J,e⟩hL=>⟨rfl,?_⟩;let p:M<+:M':=by rw[e,Xw,Jn];exact Gn _ _
  let hx:=hL;let⟨_,_,_,_,_,_,hx,_⟩:=hx;exists⟨M.length,_,rfl,hx,rfl⟩,M.length,S1,S,E,rfl,hL,Nu p hM Wl k
open L3
def Znk{L':List Pr}{bs:List Int}(h:TbK L bs)(s:L'.Sublist L):TbK L' bs:=⟨Ja6 s h.fr,⟨Gz s.length_le h.fi.1,λp hp=>h.fi.2 p (s.subset hp)⟩,λp hp=>h.by_ p (s.subset hp),J9 s.length_le h.ln⟩
theorem Zob{xs:List τ}(hj:j<xs.length):L2.atI xs ((j:Int)-1)=xs[(j+xs.length-1) % xs.length]?:=by
 unfold L2.atI ixN
 by_cases h:j=0
 .subst h;rw[Ds (),Dt (),show(0+xs.length-1) % xs.length=xs.length-1 from by rw[Fg];exact Dc ()];show xs[_]?=_
  congr 1
  lia
 .rw[Dt (),Dt (),show(j+xs.length-1) % xs.length=j-1 from by rw[show j+xs.length-1=(j-1)+xs.length by lia,Nat.add_mod_right];exact Dc ()];show xs[_]?=_
  congr 1
  lia
def turned(L:List Pr):List Pr:=(Co L.length).map λj=>(((L[(j+L.length-1) % L.length]?).getD (0,[])).1,((L[j]?).getD (0,[])).2)
def Xg(L:List Pr):(turned L).length=L.length:=by unfold turned;rw[Ja,List.length_range]
def Ta(hj:j<(turned L).length):(turned L)[j]=(((L[(j+L.length-1) % L.length]?).getD (0,[])).1,((L[j]?).getD (0,[])).2):=by
 refine(List.getElem_eq_iff hj).mpr ?_;let hj':j<L.length:=by rwa [Xg]at hj
 unfold turned;rw[Ge,List.getElem?_range hj'];rfl
theorem Zeq{bs:List Int}(h:TbK L bs):TbK (turned L) bs:=by
 let wm:∀p∈turned L,∃q∈L,p.2=q.2:=λp hp=>by
  let⟨j,hj,rfl⟩:=Gg hp;let hj':j<L.length:=by rwa [Xg]at hj
  rw[Ta hj];exact⟨L[j],Ju hj',by rw[Jb hj'];rfl⟩
 refine⟨?_,⟨by rw[Xg];exact h.fi.1,λp hp=>?_⟩,λp hp=>?_,by rw[Xg];exact h.ln⟩
 .unfold Free;rw[Gp];intro i j hi hj hij;let hi':i<L.length:=by rwa [Xg]at hi
  let hj':j<L.length:=by rwa [Xg]at hj
  let mi:=Nat.mod_lt (i+L.length-1) (show 0<L.length by lia);let mj:=Nat.mod_lt (j+L.length-1) (show 0<L.length by lia);rw[Ta hi,Ta hj,Jb hi',Jb hj',Jb mi,Jb mj];let ap:=h.fr.get hi' hj' hij;refine⟨?_,ap.2⟩;let ne:(i+L.length-1) % L.length≠(j+L.length-1) % L.length:=λe=>by
   let e2:(j+L.length-1) % L.length=j-1:=by rw[show j+L.length-1=(j-1)+L.length by lia,Nat.add_mod_right];exact Dc ()
   by_cases z:i=0
   .subst z;rw[e2,show(0+L.length-1) % L.length=L.length-1 from by rw[Fg];exact Dc ()]at e;lia
   .rw[e2,show(i+L.length-1) % L.length=i-1 from by rw[show i+L.length-1=(i-1)+L.length by lia,Nat.add_mod_right];exact Dc ()]at e;lia
  show(L[(i+L.length-1) % L.length]).1≠(L[(j+L.length-1) % L.length]).1;rcases Nat.lt_or_gt_of_ne ne with z|z
  .exact(h.fr.get mi mj z).1
  .exact λe=>(h.fr.get mj mi z).1 e.symm
 .let⟨q,hq,e⟩:=wm p hp;rw[e];exact h.fi.2 q hq
 .let⟨q,hq,e⟩:=wm p hp;rw[e];exact h.by_ q hq
def Zf3{bs:List Int}{Ls:List (List Pr)}(h:T3Ok bs Ls)(i:Nat)(hL:TbK L bs):T3Ok bs (Ls.set i L):=⟨by rw[Bk];exact h.1,λX hX=>(List.mem_or_eq_of_mem_set hX).elim (h.2 X) λe=>by rw[e];exact hL⟩
theorem D7(T:Txt mg){C:Addr}(Zm:Cal P w K mg base "_law_draw" 1 ["_law_hand","_law_many"] (spOf ⟨C,K⟩ Zct))(V8:Cal P w K mg base "_law_bytes" 2 ["_law_hand","_law_most"] (spOf ⟨C,K⟩ Zmx))(V5:Cal P w K mg base "_law_words" 2 ["_law_hand","_law_some","_law_most","_law_longest"] (spOf ⟨C,K⟩ Ziu))(V7:Cal P w K mg base "_law_signs" 2 ["_law_hand","_law_many"] (spOf ⟨C,K⟩ Zms))(V6:Cal P w K mg base "_law_table" 2 ["_law_hand","_law_words_here","_law_signs_here"] (spOf ⟨C,K⟩ Zmr)){f:Addr}(F:Fun K "_law_tables" "_law_tables" D1 f fd):FnOk P w K mg base CX0 4 f fd ["_law_hand"] (spOf ⟨C,K⟩ Ziw):=by
 refine L3.Fun.ok3 F Jbn (λds M K3 h=>?_) (λcdv A outer s H E hr=>?_)
 .let⟨k,rfl,_⟩:=h;rfl
 .let SC:=Jbn;let hu:=hr.units;let hu1:=Wf hr;let Zl:Room 1 _:=hr.mono nofun;let Np:Room 2 _:=hr.mono nofun;let Nm:Room 2 _:=hr.mono nofun;let No:Room 2 _:=hr.mono nofun;let Nn:Room 2 _:=hr.mono nofun;refine⟨_,_,(Zd (Zs (i:=1) SC.nd rfl (Cy rfl) (Zw V8 Np rfl (Za (pv 0) (Za Zi Zf))))
 (Zd (Zs (i:=2) SC.nd rfl (Cy rfl) (Zw V7 No rfl (Za (pv 0) (Za Zi Zf))))
 (Zd (Zs (i:=3) SC.nd rfl (Cy rfl) (Yq (T:=["_law_k"]) (cs:=[0,1,2]) rfl (CScope.ok (by kernel_rfl)) (Ys rfl T.b_range (Za Zi Zf)) (λ_ _ _ _=>(Zq (i:=0) (Y0 (by kernel_rfl)) rfl (Cd rfl) (Cy rfl))) (λ_ _ _ _=>Yv) (λ_ _ _ _=>(Zw V6 Nn rfl (Za (pv 1) (Za (Zw V5 Nm rfl (Za (pv 1) (Za (pv 2) (Za Zi (Za Zi Zf))))) (Za (pv 3) Zf))))) (Yw nofun)))
 (Zd (Y2 (Z4 (N4 (K':=K) rfl hu) (Zw Zm Zl rfl (Za (pv 0) (Za Zi Zf))) Zi (Yc _))
 (Zj (Qy (Yq (T:=["_law_pair"]) (cs:=[0]) rfl (CScope.ok (by kernel_rfl)) (Yf (Z9 (Yr (K':=K) rfl) (pv 3) Zi (λ_ _=>rfl))) (λ_ _ _ _=>(Zq (i:=0) (Y0 (by kernel_rfl)) rfl (Cd rfl) (Cy rfl))) (λ_ _ _ _=>(W9 (Z4 P1 (Zw Zm Zl rfl (Za (pv 1) (Za Zi Zf))) Zi (Yc _)))) (λ_ _ _ _=>(pv 0)) (Yw nofun)) (Zds (pv 3) Zi Te)))
 Z6)
 (Zd (Zs (i:=4) SC.nd rfl (Cd rfl) (Zw Zm Zl rfl (Za (pv 0) (Za Zi Zf))))
 (Zd (Y2 (Z4 P1 (pv 4) Zi (Yc _))
 (Zj (Qy (Yq (T:=["_law_k"]) (cs:=[3]) rfl (CScope.ok (by kernel_rfl)) (Ys rfl T.b_range (Za (Zr (Xa (K:=K) rfl) (by rfl) T.b_len Dx (Za (Z9 (Yr (K':=K) rfl) (pv 3) Zi (λ_ _=>rfl)) Zf)) Zf)) (λ_ _ _ _=>(Zq (i:=0) (Y0 (by kernel_rfl)) rfl (Cd rfl) (Cy rfl))) (λ_ _ _ _=>Yv) (λ_ _ _ _=>(Yz (Za (Z9 (Yr (K':=K) rfl) (Z9 (Yr (K':=K) rfl) (Z9 (Yr (K':=K) rfl) (pv 1) Zi (λ_ _=>rfl)) (Z5 Zdw (pv 0) Zi) (λ_ _=>rfl)) Zi (λ_ _=>rfl)) (Za (Z9 (Yr (K':=K) rfl) (Z9 (Yr (K':=K) rfl) (Z9 (Yr (K':=K) rfl) (pv 1) Zi (λ_ _=>rfl)) (pv 0) (λ_ _=>rfl)) Zi (λ_ _=>rfl)) Zf)))) (Yw nofun)) (Zds (pv 3) Zi Te)))
 Z6)
 (Zd (Y2 (Z4 (N4 (K':=K) rfl hu) (pv 4) Zi (Yc _))
 (Zj (Qy (Yq (T:=["_law_pair"]) (cs:=[0]) rfl (CScope.ok (by kernel_rfl)) (Yf (Z9 (Yr (K':=K) rfl) (pv 3) Zi (λ_ _=>rfl))) (λ_ _ _ _=>(Zq (i:=0) (Y0 (by kernel_rfl)) rfl (Cd rfl) (Cy rfl))) (λ_ _ _ _=>(W9 (Z4 P1 (Zw Zm Zl rfl (Za (pv 1) (Za Zi Zf))) Zi (Yc _)))) (λ_ _ _ _=>(pv 0)) (Yw nofun)) (Zds (pv 3) Zi Te)))
 Z6)
 (Zj (Z1 (Yz (Za (pv 3) (Za (Z9 (Yr (K':=K) rfl) (Y8 (Za Zi (Za Zi Zf))) (Z5 Zdw (Zr (Xa (K:=K) rfl) (by rfl) T.b_len Dx (Za (pv 1) Zf)) Zi) (λ_ _=>rfl)) (Za (pv 2) Zf))))))))))))),λ_=>(Zv (Z7 (Z3 (Zb (Ze 0) (Zb Zt Zn))) (s_g 1))
 (Zv (Z7 (Z3 (Zb (Ze 0) (Zb Zt Zn))) (s_g 2))
 (Zv (Z7 (Zn2 (Zbz (Zb Zt Zn)) (s_g 0) Vm (Z3 (Zb (Ze 1) (Zb (Z3 (Zb (Ze 1) (Zb (Ze 2) (Zb Zt (Zb Zt Zn))))) (Zb (Ze 3) Zn))))) (s_g 3))
 (Zv (X2 (Yo (s_op s_eq (Z3 (Zb (Ze 0) (Zb Zt Zn))) Zt))
 (Z7 (Xp (s_il (s_op s_ix (Ze 3) Zt)) (s_g 0) (Yo (s_op s_gt (Z3 (Zb (Ze 1) (Zb Zt Zn))) Zt)) (Ze 0)) (Zgo (Ze 3) Zt))
 Y7)
 (Zv (Z7 (Z3 (Zb (Ze 0) (Zb Zt Zn))) (s_g 4))
 (Zv (X2 (Yo (s_op s_gt (Ze 4) Zt))
 (Z7 (Xp (Zbz (Zb (s_cb W4 (Zb (s_op s_ix (Ze 3) Zt) Zn)) Zn)) (s_g 0) Vm (Vj (Zb (s_op s_ix (s_op s_ix (s_op s_ix (Ze 1) Zt) (s_op Znu (Ze 0) Zt)) Zt) (Zb (s_op s_ix (s_op s_ix (s_op s_ix (Ze 1) Zt) (Ze 0)) Zt) Zn)))) (Zgo (Ze 3) Zt))
 Y7)
 (Zv (X2 (Yo (s_op s_eq (Ze 4) Zt))
 (Z7 (Xp (s_il (s_op s_ix (Ze 3) Zt)) (s_g 0) (Yo (s_op s_gt (Z3 (Zb (Ze 1) (Zb Zt Zn))) Zt)) (Ze 0)) (Zgo (Ze 3) Zt))
 Y7)
 (Xj (Vj (Zb (Ze 3) (Zb (s_op s_ix (Tg (Zb Zt (Zb Zt Zn))) (s_op Znu (s_cb W4 (Zb (Ze 1) Zn)) Zt)) (Zb (Ze 2) Zn)))))))))))),λds M Kk hM hD h=>?_⟩
  let⟨k,rfl,h⟩:=h;let⟨hk,kk⟩:=h;let hkX:∀{X:Mem},(M++X)[k]?=some .hand:=Zie hk;exists ·,k,3,rfl,hk,⟨nofun,nofun⟩,λbs nd b2 b3 _=>?_;let hb:bs.length=2\/bs.length=3:=by lia
  exists ·,k,14,rfl,hk,⟨nofun,nofun⟩,λss nds ls=>?_;exists 3,rfl,⟨nofun,nofun⟩,(show 3<=sizeLine by decide),λj ys M'=>M=M'/\∃Ls:List (List Pr),ys=Ls.map tbl/\Ls.length=j/\∀L∈Ls,TbK L bs,λ_ _ _ _ _=>trivial,⟨rfl,[],rfl,rfl,λ_ h=>nomatch h⟩,?_,?_
  .rintro j x ys _ hj rfl ⟨rfl,Ls,rfl,rfl,hLs⟩;exists ·,·,·,k,bs,2,3,rfl,hk,⟨nd,(λe=>by rw[e]at b2;simp at b2),(),nofun,nofun,nofun,nofun⟩,λws wo hw wl=>?_;exists ·,k,ws,ss,rfl,hk,⟨wo,(),nds,(),()⟩,λL fr fi pm=>⟨rfl,Ls++[L],by rw[Jk];rfl,by rw[Jc];rfl,λX hX=>?_⟩;rcases Jw.mp hX with hX|hX
   .exact hLs X hX
   .rw[Jf.mp hX];exists fr,fi,λp hp=>hw p.2 (pm.mem_iff.mp (Bx hp)),?_;let:=pm.length_eq;rw[Ja]at this;lia
  rintro ys _ ⟨rfl,Ls,rfl,lLs,hLs⟩;let t3:T3Ok bs Ls:=⟨lLs,hLs⟩;clear lLs hLs
  let' St:Ev->Mem->Prop:=λρ' M'=>∃(Ls:List (List Pr))(v4:Option D),ρ'=[some (.cell k),some (.lst (bs.map .int)),some (.lst (ss.map .int)),some (.cell M.length),v4]/\M'=M++[.lst (Ls.map tbl)]/\T3Ok bs Ls
  let part:∀{Ls:List (List Pr)}{F:List D->Mem->Prop}{ρ:Ev}{sc:List Str}{cs:List Nat},T3Ok bs Ls->(∀x,(sg3 ρ sc cs).set 0 x=[x,some (.cell k)])->ρ[3]?=some (some (.cell M.length))->(∀L:List Pr,TbK L bs->F (L.map pD) (M++[.lst (Ls.map tbl)]))->cmp3 (uIL (uOp ix3 (uVar 3) (uC (D.int 1)))) (uG 0) (uB3 (uOp (Zck λi j=>D.bl (decide (j<i))) (Zni Zct (Pm (uVar 1) (Pm (uC (D.int 3)) uNil))) (uC (D.int 0)))) (uVar 0) sc cs ρ (M++[.lst (Ls.map tbl)]) F:=by
   intro Ls F ρ sc cs t3 hs h3 hF;let h1:1<Ls.length:=by rw[t3.1];decide
   exists _,h3,_,_,_,(Ug Vu).2.2,rfl,Yn (f:=tbl) (as:=Ls) (j:=1) rfl h1,·,?_,λi ys M'=>M'=M++[.lst (Ls.map tbl)]/\∃L',ys=L'.map pD/\L'.Sublist (Ls[1].take i),λ_ _ _ _ _=>rfl,⟨rfl,[],rfl,List.nil_sublist _⟩,?_,?_
   .show(Ls[1].map pD).length<=sizeLine;rw[Ja];let:=(t3.2 _ (Ju h1)).ln;exact Zk ()
   .rintro i x ys _ hi hx ⟨rfl,L',rfl,sl⟩;let⟨hi',rfl⟩:=Yi hx;show uB3 _ ((sg3 ρ sc cs).set 0 (some (pD Ls[1][i]))) _ _;rw[hs];exists ·,k,3,rfl,hkX,⟨nofun,nofun⟩,λr r0 r1=>⟨_,_,rfl,rfl,_,rfl,ite2 (λ_=>?_) (λ_=>?_)⟩
    .exact⟨_,rfl,rfl,L'++[Ls[1][i]],by rw[Jk];rfl,by rw[Jh hi'];exact sl.append (Jdv _)⟩
    .exact⟨rfl,L',rfl,by rw[Jh hi'];exact sl.trans (List.sublist_append_left _ _)⟩
   .rintro ys _ ⟨rfl,L',rfl,sl⟩;exact hF L' (Znk (t3.2 _ (Ju h1)) (sl.trans (Bt _ _)))
  let put:∀{Ls:List (List Pr)}{L:List Pr}{i:Nat}{K':Ev->Mem->Prop}{ρ:Ev},T3Ok bs Ls->i<3->ρ[3]?=some (some (.cell M.length))->K' ρ (M++[.lst ((Ls.set i L).map tbl)])->Zp7 (uVar 3) (uC (D.int (i:Int))) (.lst (L.map pD)) ρ (M++[.lst (Ls.map tbl)]) K':=by
   intro Ls L i K' ρ t3 hi h3 hk;exists _,h3,M.length,_,_,i,rfl,rfl,Y5,?_,?_
   .rw[Ja,t3.1];exact(Zr5 () ()).trans (by rw[Gy])
   .rw[Xw,<-List.map_set];exact hk
  refine g_nx ?_;dsimp only;refine Zf5 St (λKn hn=>?_) ?_
  .exists ·,k,2,rfl,hkX,⟨nofun,nofun⟩,λr r0 r1=>Wy Wt (a:=r) (b:=0) ⟨_,rfl,ite2 (λ_=>?_) (λ_=>hn _ _ ⟨Ls,_,rfl,rfl,t3⟩)⟩;exact part t3 (λ_=>rfl) rfl λL tb=>put (i:=1) t3 nofun rfl (hn _ _ ⟨_,_,rfl,rfl,Zf3 t3 1 tb⟩)
  rintro _ _ ⟨Ls,v4,rfl,rfl,t3⟩;exists ·,k,3,rfl,hkX,⟨nofun,nofun⟩,λr r0 r1=>g_nx ?_;dsimp only
  let' St2:Ev->Mem->Prop:=λρ' M'=>∃(Ls:List (List Pr)),ρ'=[some (.cell k),some (.lst (bs.map .int)),some (.lst (ss.map .int)),some (.cell M.length),some (.int r)]/\M'=M++[.lst (Ls.map tbl)]/\T3Ok bs Ls
  refine Zf5 St2 (λKn hn=>?_) ?_
  .exists ·,_,·,rfl,·,ite2 (λ_=>?_) (λ_=>hn _ _ ⟨Ls,rfl,rfl,t3⟩);let h1:1<Ls.length:=by rw[t3.1];decide
   let at1:=Yn (f:=tbl) (as:=Ls) (i:=1) (j:=1) rfl h1;let tb:=t3.2 _ (Ju h1);generalize hL:Ls[1]=L at at1 tb;let lm:(L.map pD).length=L.length:=Ja _;exists ·,_,_,_,(Ug Vu).2.2,rfl,at1,·,(L.length:Int),by rw[lm],⟨(),by have:=tb.ln;lia⟩,?_,λj ys M'=>M'=M++[.lst (Ls.map tbl)]/\ys=((turned L).take j).map pD,λ_ _ _ _ _=>trivial,⟨rfl,rfl⟩,?_,?_
   .show((L.length:Int)).toNat<=sizeLine;rw[Gy];let:=tb.ln;exact Zk ()
   .rintro j x ys _ hj rfl ⟨rfl,rfl⟩;let hj:j<L.length:=by
     let:j<((L.length:Int)).toNat:=hj;rwa [Gy]at this
    let mj:=Nat.mod_lt (j+L.length-1) (show 0<L.length by lia);let pv:L2.atI (L.map pD) ((0+(j:Int))-1)=some (pD L[(j+L.length-1) % L.length]):=by
     rw[Lu];let:=Zob (xs:=L.map pD) (j:=j) (by rw[lm];exact hj);rw[lm,Ge,Jb mj]at this;exact this
    exists ·,_,_,_,(Ug Vu).2.2,rfl,at1,·,_,·,rfl,_,_,·,rfl,pv,_,_,·,rfl,rfl,?_;exists ·,_,_,_,(Ug Vu).2.2,rfl,at1,·,_,_,·,rfl,Yn (f:=pD) (as:=L) (j:=j) () hj,_,_,·,rfl,rfl,(show 2<=sizeLine by decide),rfl,?_;rw[Jh (by rw[Xg];exact hj),Jk,Ta,Jb hj,Jb mj];rfl
   rintro ys _ ⟨rfl,rfl⟩;rw[show C5 _ (turned L)=turned L from Gr (by rw[Xg];show _<=((L.length:Int)).toNat;rw[Gy];exact Jd _)];exact put (i:=2) t3 nofun rfl (hn _ _ ⟨_,rfl,rfl,Zf3 t3 2 (Zeq tb)⟩)
  rintro _ _ ⟨Ls,rfl,rfl,t3⟩;refine Zf5 St2 (λKn hn=>?_) ?_
  .exists ·,Wy Wt (a:=r) (b:=2) ⟨_,rfl,ite2 (λ_=>?_) (λ_=>hn _ _ ⟨Ls,rfl,rfl,t3⟩)⟩;exact part t3 (λ_=>rfl) rfl λL tb=>put (i:=2) t3 nofun rfl (hn _ _ ⟨_,rfl,rfl,Zf3 t3 2 tb⟩)
  rintro _ _ ⟨Ls,rfl,rfl,t3⟩;let lbs:(bs.map D.int).length=bs.length:=Ja _;refine⟨_,rfl,(show 2<=sizeLine by decide),_,rfl,_,rfl,_,_,rfl,rfl,_,_,.int (Uk bs),rfl,rfl,?_,_,rfl,(show 3<=sizeLine by decide),.inl (kk bs ss Ls hb t3 ())⟩;rw[lbs];unfold Uk;rcases hb with z|z<;>rw[z]<;>rfl
open L3
theorem D0(T:Txt mg){C:Addr}(U8:Cal P w K mg base "_law_from" 1 ["_law_table_here","_law_row","_law_at"] (spOf ⟨C,K⟩ Zss)){f:Addr}(F:Fun K "_law_carried" "_law_carried" Jai f fd):FnOk P w K mg base CX0 4 f fd ["_law_first","_law_second","_law_text"] (spOf ⟨C,K⟩ Zpg):=by
 refine L3.Fun.ok3 F Jaj (λds M K3 h=>?_) (λcdv A outer s H E hr=>?_)
 .let⟨L1,L2,d,U,rfl,_⟩:=h;rfl
 .let SC:=Jaj;let hu:=hr.units;let hu1:=Wf hr;let Zax:Room 1 _:=hr.mono nofun;let U0:Room 3 _:=hr.mono nofun;refine⟨_,_,(Zd (Zs (i:=3) SC.nd rfl (Cd rfl) (Yt (Zjb (K:=K) rfl U0 rfl) (by rfl) T.b_dict Ei (Za (pv 0) Zf)))
 (Zd (Zs (i:=4) SC.nd rfl (Cd rfl) (Y8 Zf))
 (Zd (X6 Cm rfl (Yf (pv 2)) (Zq (i:=5) SC.nd rfl (Cd rfl))
 (Zj (Zs (i:=4) SC.nd rfl (Cd rfl) (Z5 (Yx (K':=K) rfl) (pv 4) (Yt (Zcw (K:=K) rfl) (by rfl) T.b_list Ki (Za (Zha hu1 (pv 3) (pv 5) (λ_ _=>rfl)) Zf))))))
 (Zd (Zs (i:=6) SC.nd rfl (Cd rfl) (Y8 Zf))
 (Zd (Zs (i:=7) SC.nd rfl (Cd rfl) Zi)
 (Zd (Py Cm (Z4 Zoh (pv 7) (Zr (Xa (K:=K) rfl) (by rfl) T.b_len Dx (Za (pv 4) Zf)) (Yc _))
 (Zd (Zs (i:=8) SC.nd rfl (Cd rfl) (Zw U8 Zax rfl (Za (pv 1) (Za (pv 4) (Za (pv 7) Zf)))))
 (Zd (Y2 (Wd (Vs (pv 8)))
 (Zj (Zs (i:=8) SC.nd rfl (Cd rfl) (Yz (Za W5 (Za (Z5 (Yx (K':=K) rfl) (pv 7) Zi) Zf)))))
 Z6)
 (Zd (T5 (Zhc C4 Hw Hy Rm (pv 6) (Za (Z9 (Yr (K':=K) rfl) (pv 8) Zi (λ_ _=>rfl)) Zf)))
 (Zj (Zs (i:=7) SC.nd rfl (Cd rfl) (Z9 (Yr (K':=K) rfl) (pv 8) Zi (λ_ _=>rfl))))))))
 (Zj (Z1 (pv 6))))))))),λ_=>(Zv (Z7 (s_cb Zdm (Zb (Ze 0) Zn)) (s_g 3))
 (Zv (Z7 (Tg Zn) (s_g 4))
 (Zv (Ri (s_il (Ze 2)) (s_g 5)
 (Z7 (s_op X9 (Ze 4) (s_cb Zgn (Zb (Zl5 (Ze 3) (Ze 5)) Zn))) (s_g 4)))
 (Zv (Z7 (Zab Zn) (s_g 6))
 (Zv (Z7 Zt (s_g 7))
 (Zv (Zby (Yo (s_op s_lt (Ze 7) (s_cb W4 (Zb (Ze 4) Zn))))
 (Zv (Z7 (Z3 (Zb (Ze 1) (Zb (Ze 4) (Zb (Ze 7) Zn)))) (s_g 8))
 (Zv (X2 (s_b (Ql (Ze 8)))
 (Z7 (Vj (Zb Qk (Zb (s_op X9 (Ze 7) Zt) Zn))) (s_g 8))
 Y7)
 (Zv (Zac (Pw (Ze 6) (Zb (s_op s_ix (Ze 8) Zt) Zn)))
 (Z7 (s_op s_ix (Ze 8) Zt) (s_g 7))))))
 (Xj (Ze 6)))))))),λds M Kk hM hD h=>?_⟩
  let⟨L1,L2,d,U,rfl,h⟩:=h;let⟨hd,⟨fr,fi,fi2,hU,lU⟩,k⟩:=h;let wb:=Qv fr;exists ·,_,L1.map prK,rfl,by rw[Gb];rfl,by rw[Ja];let:=fi.1;lia,?_;generalize Qq [] (L1.map prK)=kd at wb;let lsg:(Z2 U).length=U.length:=Ja _;let rl:=Zb1 fi hU;exists Gc _,·,_,(Ug hd).2.1,λi ρ M'=>∃v5 v6 v7 v8,ρ=[some (tbl L1),some (tbl L2),some d,some (.dct kd),some (.lst ((Zu (U.take i)).map .int)),v5,v6,v7,v8]/\M=M',λi ρ M' _⟨_,_,_,_,_,z⟩=>by rw[<-z];exact(Ug hd).2.1,⟨_,_,_,_,rfl,rfl⟩,?_,?_
  .rintro i x ρ _ hi hx ⟨v5,v6,v7,v8,rfl,rfl⟩;let⟨hi',rfl⟩:=Ng hx;let hiU:i<U.length:=by lia
   let eU:(Z2 U)[i]=U[i].1:=Be _;let hv:=wb.1 _ (hU _ (Ju hiU));let hrt:=Zj9 hiU;let hrl:=Zq5 U (i+1);rw[hrt,Jc]at hrl;let hrow:(Zu (U.take (i+1))).map D.int=(Zu (U.take i)).map D.int++U[i].2.map D.int:=by rw[hrt,Jk]
   rw[eU];exists ·,·,·,_,.inl ⟨_,_,rfl,rfl,hv.symm⟩,_,·,rfl,_,·,rfl,?_,.inl ⟨_,v6,v7,v8,by rw[hrow];rfl,rfl⟩;rw[Ja,Ja];exact Br (Gz (by lia:_<=1000) nofun)
  rintro ρ _ ⟨v5,v6,v7,v8,rfl,rfl⟩;let eU:U.take ((Z2 U).map D.int).length=U:=Gr (by rw[Ja];lia);rw[show Zu (U.take _)=Zu U from by rw[eU]];generalize hns:Zu U=ns at *
  let ln:ns.length<=1000:=by lia
  let lmn:(ns.map D.int).length=ns.length:=Ja _;exists Gc _,?_;exists λm ρ M'=>∃v8 R pl,ρ=[some (tbl L1),some (tbl L2),some d,some (.dct kd),some (.lst (ns.map .int)),v5,some (.cell M.length),some (.int ((pl:Nat):Int)),v8]/\M'=M++[.lst ((osOf R).map oD)]/\Went L2 ns R pl/\m=ns.length-pl,⟨_,_,[],0,rfl,rfl,.nil,rfl⟩,?_;rintro m ρ _ ⟨v8,R,pl,rfl,rfl,wt,rfl⟩;let hpl:=wt.le;let lR:=wt.len;exists ·,·,·,_,·,rfl,·,ite2 (λhlt=>?_) (λhge=>?_)
  .let hlt:pl<ns.length:=by
    let:=of_decide_eq_true hlt;rw[lmn]at this;lia
   exists ·,·,·,L2,_,ns,pl,rfl,rfl,⟨fi2.1,hpl⟩,λp hp pre=>?_,λhno=>?_
   .let w2:=Went.word wt hp pre (fi2.2 p hp).1;let hq:=w2.le;let h0:0<p.2.length:=Gh.mpr (fi2.2 p hp).1;exists ·,·,iteF ?_;exists ·,Uy Vu,·,_,_,·,rfl,rfl,M.length,_,·,rfl,Y5,?_,?_
    .rw[Ja];unfold osOf;rw[Ja];exact Gz (by lia:_<=1000) nofun
    rw[Xw];exists ·,_,_,·,rfl,rfl,ns.length-(pl+p.2.length),(),.inl ⟨_,_,_,rfl,by unfold osOf;rw[Jk,Jk];rfl,w2,rfl⟩
   .let w2:=Went.lost wt hlt hno;let hq:=w2.le;exists ·,·,iteT ?_;exists ·,(show 2<=sizeLine by decide),?_;exists ·,Uy Vu,·,_,_,·,rfl,rfl,M.length,_,·,rfl,Y5,?_,?_
    .rw[Ja];unfold osOf;rw[Ja];exact Gz (by lia:_<=1000) nofun
    rw[Xw];exists ·,_,_,·,rfl,rfl,ns.length-(pl+1),(),.inl ⟨_,_,_,rfl,by unfold osOf;rw[Jk,Jk];rfl,w2,rfl⟩
  .let hge:ns.length<=pl:=by
    let:¬ ((pl:Int)<((ns.map D.int).length:Int)):=λz=>hge (Du z);rw[lmn]at this;lia
   exists ·,.inl (k R ⟨pl,wt,hge⟩)
open L3
theorem Jbi(T:Txt mg){C:Addr}{f:Addr}(F:Fun K "_law_size" "_law_size" Jcs f fd):FnOk P w K mg base CX0 4 f fd ["_law_table_here","_law_entries_here"] (spOf ⟨C,K⟩ Ziy):=by
 refine L3.Fun.ok3 F Jct (λds M K3 h=>?_) (λcdv A outer s H E hr=>?_)
 .let⟨L,d,E,rfl,_⟩:=h;rfl
 .let SC:=Jct;let hu:=hr.units;let hu1:=Wf hr;let U0:Room 3 _:=hr.mono nofun;refine⟨_,_,(Zd (Zs (i:=2) SC.nd rfl (Cd rfl) (Yt (Zjb (K:=K) rfl U0 rfl) (by rfl) T.b_dict Ei (Za (pv 0) Zf)))
 (Zd (Zs (i:=3) SC.nd rfl (Cd rfl) Zi)
 (Zd (X6 Cm rfl (Yf (pv 1)) (Zq (i:=4) SC.nd rfl (Cd rfl))
 (Zj (Y2 (Wd (Vs (pv 4)))
 (Zj (Zdr (i:=3) SC.nd rfl (Cd rfl) Zi Zar))
 (Zj (Y2 (Wd (Zmf hu1 (pv 4) (pv 2)))
 (Zj (Zdr (i:=3) SC.nd rfl (Cd rfl) (Zr (Xa (K:=K) rfl) (by rfl) T.b_len Dx (Za (Zha hu1 (pv 2) (pv 4) (λ_ _=>rfl)) Zf)) Zar))
 (Zj (Z1 W5)))))))
 (Zj (Z1 (pv 3)))))),λ_=>(Zv (Z7 (s_cb Zdm (Zb (Ze 0) Zn)) (s_g 2))
 (Zv (Z7 Zt (s_g 3))
 (Zv (Ri (s_il (Ze 1)) (s_g 4)
 (X2 (s_b (Ql (Ze 4)))
 (Zj7 Zt)
 (X2 (s_b (Zt8 (Ze 4) (Ze 2)))
 (Zj7 (s_cb W4 (Zb (Zl5 (Ze 2) (Ze 4)) Zn)))
 (Xj Qk))))
 (Xj (Ze 3))))),λds M Kk hM hD h=>?_⟩
  let⟨L,d,E,rfl,h⟩:=h;let⟨hd,⟨fr,fi,hE⟩,k⟩:=h;let wb:=Qv fr;exists ·,_,L.map prK,rfl,by rw[Gb];rfl,by rw[Ja];let:=fi.1;lia,?_;generalize Qq [] (L.map prK)=kd at wb;exists ·,_,(Ug hd).2.1,λi ρ M'=>∃v4 kn,ρ=[some (tbl L),some d,some (.dct kd),some (.int ((kn.length:Nat):Int)),v4]/\M=M'/\knF L (E.take i)=some kn,λi ρ M' _⟨_,kn,_,z,_⟩=>by rw[<-z];exact(Ug hd).2.1,⟨_,[],rfl,rfl,rfl⟩,?_,?_
  .rintro i x ρ _ hi hx ⟨v4,kn,rfl,rfl,hk⟩;let⟨hi',rfl⟩:=Yi hx;exists ·,?_;cases he:E[i]with
   |none =>
    exists ·,iteT ⟨_,rfl,_,rfl,.inl ⟨_,kn++[none],by rw[Jc];rfl,rfl,Nc hi' hk (by rw[he];rfl)⟩⟩
   |some s =>
    exists ·,iteF ⟨_,rfl,_,rfl,_,.inl ⟨_,_,rfl,rfl,rfl⟩,_,rfl,?_⟩
    by_cases hp:∃p∈L,p.1=s
    .let⟨p,hp,e⟩:=hp;let hv:=wb.1 p hp;rw[e]at hv;rw[hv];refine iteT ⟨_,rfl,_,rfl,_,rfl,_,.inl ⟨_,_,rfl,rfl,hv.symm⟩,_,rfl,_,rfl,.inl ⟨some (.int s),kn++p.2.map some,?_,rfl,Nc hi' hk (by rw[he,<-e];exact Nf fr hp)⟩⟩;rw[Jc,Ja,Ja];rfl
    .let hno:∀p∈L,p.1≠s:=λp hq e=>hp ⟨p,hq,e⟩;rw[wb.2 _ hno];refine iteF (.inl ?_);rw[Zh1 hi' ?_]at k
     .exact k
     .rw[he];show(L.find? λp=>decide (p.1=s)).map _=none;rw[List.find?_eq_none.mpr λp hp z=>hno p hp (of_decide_eq_true z)];rfl
  .rintro ρ _ ⟨v4,kn,rfl,rfl,hk⟩;rw[show C5 _ E=E from by rw[show(List.map oD E).length=E.length from Ja _];exact Gd]at hk;rw[hk]at k;exists ·,.inl k
def Jce(T:Txt mg){C:Addr}(Xv:Cal P w K mg base "_law_size" 4 ["_law_table_here","_law_entries_here"] (spOf ⟨C,K⟩ Ziy)){f:Addr}(F:Fun K "_law_small" "_law_small" Jak f fd):FnOk P w K mg base CX0 5 f fd ["_law_table_here","_law_entries_here","_law_most"] (spOf ⟨C,K⟩ Zix):=by
 refine L3.Fun.ok3 F Jaf (λds M K3 h=>?_) (λcdv A outer s H E hr=>?_)
 .let⟨L,d,E,m,rfl,_⟩:=h;rfl
 .let SC:=Jaf;let hu:=hr.units;let hu1:=Wf hr;let Vx:Room 4 _:=hr.mono nofun;refine⟨_,_,(Zd (Zs (i:=3) SC.nd rfl (Cd rfl) (Zw Xv Vx rfl (Za (pv 0) (Za (pv 1) Zf))))
 (Zj (Z1 (Zue (Zhb (Vs (pv 3))) (Zri (Zof Zoi (pv 3) (pv 2) (Yc _))))))),λ_=>(Zv (Z7 (Z3 (Zb (Ze 0) (Zb (Ze 1) Zn))) (s_g 3))
 (Xj (Zt3 (Ql (Ze 3)) (s_op s_le (Ze 3) (Ze 2))))),λds M Kk hM hD h=>?_⟩
  let⟨L,d,E,m,rfl,h⟩:=h;let⟨hd,⟨fr,fi,hE⟩,k⟩:=h;exists ·,·,L,d,E,rfl,hd,⟨fr,fi,hE⟩,?_;cases hk:knF L E with
  |none =>
   rw[hk]at k;exists ·,·,iteT (.inl k)
  |some kn =>
   rw[hk]at k;exists ·,·,iteF ⟨_,rfl,_,rfl,_,_,rfl,rfl,.inl k⟩
open L3
def gD(U:List Pr):D:=.tup [.lst ((Z2 U).map .int),.int (((Zu U).length:Nat):Int)]
def uD(U:List Pr):D:=.lst ((Z2 U).map .int)
def Zns(U:List Pr)(p:Pr):Z2 (U++[p])=Z2 U++[p.1]:=by unfold Z2;rw[Jk];rfl
def Za1{n:Nat}{G:List (List Pr)}{i:Nat}(hi:i<G.length):(G.take (i+1)).flatMap (lg1 L n)=(G.take i).flatMap (lg1 L n)++lg1 L n G[i]:=by
 rw[Jh hi,List.flatMap_append];simp
theorem Jba(T:Txt mg){C:Addr}(Xv:Cal P w K mg base "_law_size" 4 ["_law_table_here","_law_entries_here"] (spOf ⟨C,K⟩ Ziy))(Yu:Cal P w K mg base "_law_carried" 4 ["_law_first","_law_second","_law_text"] (spOf ⟨C,K⟩ Zpg)){f:Addr}(F:Fun K "_law_all" "_law_all" D8 f fd):FnOk P w K mg base CX0 6 f fd ["_law_first","_law_second","_law_entries_here"] (spOf ⟨C,K⟩ Zsu):=by
 refine L3.Fun.ok3 F Jao (λds M K3 h=>?_) (λcdv A outer s H E hr=>?_)
 .let⟨L1,L2,d,E,bs,rfl,_⟩:=h;rfl
 .let SC:=Jao;let hu:=hr.units;let hu1:=Wf hr;let Vx:Room 4 _:=hr.mono nofun;let Wg:Room 4 _:=hr.mono nofun;refine⟨_,_,(Zd (Zs (i:=3) SC.nd rfl (Cy rfl) (Zw Xv Vx rfl (Za (pv 1) (Za (pv 2) Zf))))
 (Zd (Y2 (Wd (Vs (pv 3)))
 (Zj (Z1 (Y8 Zf)))
 Z6)
 (Zd (Zs (i:=4) SC.nd rfl (Cd rfl) (Y8 Zf))
 (Zd (Zs (i:=5) SC.nd rfl (Cd rfl) (Y8 (Za (Yz (Za (Y8 Zf) (Za Zi Zf))) Zf)))
 (Zd (Py Cm (Z4 (Zem (K':=K) rfl hu) (pv 5) (Y8 Zf) (Yc _))
 (Zd (Zs (i:=6) SC.nd rfl (Cd rfl) (Y8 Zf))
 (Zd (X6 Cm rfl (Yf (pv 5)) (Wr (n:=2) rfl (Z0 (Zq (i:=7) SC.nd rfl (Cy rfl)) (Z0 (Zq (i:=8) SC.nd rfl (Cy rfl)) Xr)) (by rfl))
 (Zj (Y2 (Z4 (N4 (K':=K) rfl hu) (pv 8) (pv 3) (Yc _))
 (Zj (T5 (Zhc C4 Hw Hy Rm (pv 4) (Za (pv 7) Zf))))
 (Zj (Zs (i:=6) SC.nd rfl (Cd rfl) (Z5 (Yx (K':=K) rfl) (pv 6) (Yq (T:=["_law_one","_law_some"]) (cs:=[7,8]) rfl (CScope.ok (by kernel_rfl)) (Yf (pv 0)) (λ_ _ _ _=>(Wr (n:=2) rfl (Z0 (Zq (i:=0) (Y0 (by kernel_rfl)) rfl (Cd rfl) (Cy rfl)) (Z0 (Zq (i:=1) (Y0 (by kernel_rfl)) rfl (Cd rfl) (Cy rfl)) Xr)) (by rfl))) (λ_ _ _ _=>Yv) (λ_ _ _ _=>(Yz (Za (Z5 (Yx (K':=K) rfl) (pv 2) (Y8 (Za (pv 0) Zf))) (Za (Z5 (Yx (K':=K) rfl) (pv 3) (Zr (Xa (K:=K) rfl) (by rfl) T.b_len Dx (Za (pv 1) Zf))) Zf)))) (Tr (Yj nofun (Yj nofun Vb))))))))))
 (Zj (Vr (i:=5) SC.nd rfl rfl (T:=["_law_pair"]) (cs:=[3]) rfl (CScope.ok (by kernel_rfl)) (Yf (pv 6)) (λ_ _ _ _=>(Zq (i:=0) (Y0 (by kernel_rfl)) rfl (Cd rfl) (Cy rfl))) (λ_ _ _ _=>(W9 (Z4 Zoi (Z9 (Yr (K':=K) rfl) (pv 0) Zi (λ_ _=>rfl)) (pv 1) (Yc _)))) (λ_ _ _ _=>(pv 0)) (Yw nofun))))))
 (Zj (Z1 (Zr (Zcv (K:=K) rfl (So hr)) (by rfl) T.b_sorted Ec (Za (Yq (T:=["_law_text"]) (cs:=[0,1,2]) rfl (CScope.ok (by kernel_rfl)) (Yf (pv 4)) (λ_ _ _ _=>(Zq (i:=0) (Y0 (by kernel_rfl)) rfl (Cd rfl) (Cy rfl))) (λ_ _ _ _=>(W9 (Z4 (N4 (K':=K) rfl hu) (Zw Yu Wg rfl (Za (pv 1) (Za (pv 2) (Za (pv 0) Zf)))) (pv 3) (Yc _)))) (λ_ _ _ _=>(pv 0)) (Yw nofun)) Zf))))))))),λ_=>(Zv (Z7 (Z3 (Zb (Ze 1) (Zb (Ze 2) Zn))) (s_g 3))
 (Zv (X2 (s_b (Ql (Ze 3)))
 (Xj (Tg Zn))
 Y7)
 (Zv (Z7 (Zab Zn) (s_g 4))
 (Zv (Z7 (Tg (Zb (Vj (Zb (Tg Zn) (Zb Zt Zn))) Zn)) (s_g 5))
 (Zv (Zby (Yo (s_op s_ne (Ze 5) (Tg Zn)))
 (Zv (Z7 (Tg Zn) (s_g 6))
 (Zv (Ri (s_il (Ze 5)) (Th (Yp (s_g 7) (Yp (s_g 8) Ti)))
 (X2 (Yo (s_op s_eq (Ze 8) (Ze 3)))
 (Zac (Pw (Ze 4) (Zb (Ze 7) Zn)))
 (Z7 (s_op X9 (Ze 6) (Xp (s_il (Ze 0)) (Th (Yp (s_g 0) (Yp (s_g 1) Ti))) Vm (Vj (Zb (s_op X9 (Ze 2) (Tg (Zb (Ze 0) Zn))) (Zb (s_op X9 (Ze 3) (s_cb W4 (Zb (Ze 1) Zn))) Zn))))) (s_g 6))))
 (Z7 (Xp (s_il (Ze 6)) (s_g 0) (Yo (s_op s_le (s_op s_ix (Ze 0) Zt) (Ze 1))) (Ze 0)) (s_g 5)))))
 (Xj (s_cb Znw (Zb (Xp (s_il (Ze 4)) (s_g 0) (Yo (s_op s_eq (Zj5 (Z3 (Zb (Ze 1) (Zb (Ze 2) (Zb (Ze 0) Zn))))) (Ze 3))) (Ze 0)) Zn)))))))),λds M Kk hM hD h=>?_⟩
  let⟨L1,L2,d,E,bs,rfl,h⟩:=h;let⟨hd,⟨tb,fr2,fi2,hE,hb⟩,k⟩:=h;let ne1:NeW L1:=λp hp=>(tb.fi.2 p hp).1;let ne2:NeW L2:=λp hp=>(fi2.2 p hp).1;exists ·,·,L2,d,E,rfl,hd,⟨fr2,fi2,hE⟩,?_;cases hk:knF L2 E with
  |none =>
   exists ·,·,iteT ⟨Gc _,.inl (k [] .nil λt=>⟨(λh=>nomatch h),λ⟨U,R,_,_,c,e⟩=>absurd ⟨R,c,e⟩ (Zdu fr2 hk)⟩)⟩
  |some kn =>
  let few:=hb kn hk;let oi:=Zdv (L1:=L1) fr2 ne2 hk;let oo:=λr=>Zb9 fr2 ne2 hk (r:=r);let kb:kn.length<=6:=by rcases few with z|z<;>lia
  generalize hn:kn.length=n at *
  exists ·,·,iteF ?_;exists Gc _,Gc _,(show 2<=sizeLine by decide),(show 1<=sizeLine by decide),?_;exists λm ρ M'=>∃kk F G v6 v7 v8,ρ=[some (tbl L1),some (tbl L2),some d,some (.int ((n:Nat):Int)),some (.cell M.length),some (.lst (G.map gD)),v6,v7,v8]/\M'=M++[.lst (F.map uD)]/\Lvl L1 n kk F G/\m=n+2-kk,⟨_,0,[],[[]],_,_,_,by rw[<-hn];rfl,rfl,.zero,rfl⟩,?_;rintro m ρ _ ⟨kk,F,G,v6,v7,v8,rfl,rfl,lv,rfl⟩;let lF:F.length<=448:=N5 tb few lv.fn λU hU=>by let⟨a,_,c⟩:=(lv.fm U).mp hU;exact⟨a,()⟩
  let lG:G.length<=448:=N5 tb few lv.gn λU hU=>by let⟨a,_,c⟩:=(lv.gm U).mp hU;exists a,c
  let lmG:(G.map gD).length=G.length:=Ja _;exists ·,Gc _,Nr (Zsj (Pb Wt) Wt) (a:=G.map λU=>(Z2 U,(((Zu U).length:Nat):Int))) (b:=[]) (by rw[Gb];rfl) rfl ⟨_,rfl,?_⟩
  by_cases hG:G=[]
  .subst hG;refine iteF ?_;let fm:=lv.done;let lmF:(F.map uD).length=F.length:=Ja _;let wf:∀m∈M++[MO.lst (F.map uD)],Xb (M++[MO.lst (F.map uD)]).length m:=λm hm=>by
    rw[Jc];rcases Jw.mp hm with z|z
    .exact(hM m z).up (Nat.le_add_right _ _)
    .rw[Jf.mp z];exact Zba (Wk (λ_=>Pf) F)
   exists ·,_,Sy,?_,λi ys M'=>M'=M++[.lst (F.map uD)]/\ys=((F.take i).filter λU=>(wt kn L2 (0,[]) (Zu U)).isSome).map uD,λ_ _ _ _ z=>by rw[z.1];exact Sy,⟨rfl,rfl⟩,?_,?_
   .show(F.map uD).length<=sizeLine;rw[lmF];exact Zk ()
   .rintro i x ys _ hi hx ⟨rfl,rfl⟩;let⟨hi',rfl⟩:=Yi hx;let⟨hU,hr⟩:=(fm _).mp (Ju hi');let lU:=Zgr ne1 hU;exists ·,·,·,L1,L2,_,F[i],rfl,rfl,⟨tb.fr,tb.fi,fi2,hU,()⟩,λR tl=>⟨_,_,rfl,by rw[Jc];rfl,Y5,rfl,?_,?_⟩
    .intro m hm;rcases Jw.mp hm with z|z
     .exact wf m z
     .rw[Jf.mp z];exact Zba (Wk (λ_=>Zcx) _)
    rw[Bw];refine⟨_,rfl,Nr encO (a:=osOf R) (b:=E) rfl (Ug (Zhu hd)).2.1 ⟨_,rfl,?_⟩⟩;let eq:decide (osOf R=E)=(wt kn L2 (0,[]) (Zu F[i])).isSome:=by
     rw[Fz,decide_eq_true_iff];exists λe=>((oo _).mp ⟨R,tl,e⟩).2,λz=>?_;let⟨R',t',e'⟩:=(oo _).mpr ⟨hr,z⟩;rw[Told.uniq fr2 tl t'];exact e'
    rw[eq];refine ite2 (λhl=>⟨_,rfl,rfl,?_⟩) (λhl=>⟨rfl,?_⟩)
    .exact(X0 (λU=>(wt kn L2 (0,[]) (Zu U)).isSome) uD hi' true hl).symm
    .exact((X0 (λU=>(wt kn L2 (0,[]) (Zu U)).isSome) uD hi' false (B9 _ ▸ hl)).trans (Gm _)).symm
   rintro ys _ ⟨rfl,rfl⟩;rw[show C5 _ F=F from by rw[show(F.map uD).length=F.length from lmF];exact Gd];generalize hQ:(F.filter λU=>(wt kn L2 (0,[]) (Zu U)).isSome)=Q;let hQm:∀U,U∈Q↔((∀p∈U,p∈L1)/\(Zu U).length=n)/\(wt kn L2 (0,[]) (Zu U)).isSome=true:=λU=>by rw[<-hQ,G2,fm]
   let nQ:Q.Nodup:=by rw[<-hQ];exact lv.fn.filter _
   let lQ:Q.length<=448:=by rw[<-hQ];exact J9 (Kv _ _) lF
   exists _,Q.map λU=>(uD U,Z2 U),rfl,by rw[Gb];rfl,⟨by rw[Ja];lia,λz hz=>?_,?_⟩,λys pm pw=>?_
   .let⟨U,_,rfl⟩:=Jq.mp hz;rfl
   .rw[Gb];exact Jz.mpr (nQ.imp_of_mem λ{U V}hU hV hn e=>hn (Re tb.fr ((hQm U).mp hU).1.1 ((hQm V).mp hV).1.1 e))
   .let⟨Us,pU,rfl⟩:=_root_.L2.Rp pm rfl;rw[Gb,show(Prod.fst ∘ λU=>(uD U,Z2 U))=tLs ∘ Z2 from rfl,<-Gb];refine Nu (Gn _ _) hM (Tv (Wk (λ_=>Pf) _)) (k (Us.map Z2) (Jz.mpr (Jz.mp pw)) λt=>?_);rw[oi,Jq]
    constructor
    .rintro⟨U,hU,e⟩;let⟨⟨a,b⟩,c⟩:=(hQm U).mp (pU.mem_iff.mp hU);exists U,e,a,b,c
    .rintro⟨U,e,a,b,c⟩;exists U,pU.mem_iff.mpr ((hQm U).mpr ⟨⟨a,b⟩,c⟩),e
  rw[Dv (by rw[List.map_eq_nil_iff];exact hG)];let kn_le:=lv.k_le ne1 hG;let lv2:=lv.next ne1 (Free.nd tb.fr);let lmL:(L1.map pD).length=L1.length:=Ja _;let lL:=tb.ln;refine iteT ⟨Gc _,?_⟩;let lfl:∀i,((G.take i).flatMap (lg1 L1 n)).length<=448*28:=λi=>by
   rw[B4];refine J9 (W3 (n:=28) λU _=>?_) (K1 28 (J9 (List.length_take_le' _ _) lG));unfold lg1
   split
   .exact Gc _
   .rw[Ja];exact lL
  exists ·,·,λi ρ M'=>∃v7 v8,ρ=[some (tbl L1),some (tbl L2),some d,some (.int ((n:Nat):Int)),some (.cell M.length),some (.lst (G.map gD)),some (.lst (((G.take i).flatMap (lg1 L1 n)).map gD)),v7,v8]/\M'=M++[.lst ((F++(G.take i).filter λU=>decide ((Zu U).length=n)).map uD)],λ_ _ _ _ _=>rfl,⟨_,_,rfl,by rw[Fb,Jeq,Gm]⟩,?_,?_
  .rintro i x ρ _ hi hx ⟨v7,v8,rfl,rfl⟩;let⟨hi',rfl⟩:=Yi hx;exists ·,rfl,_,·,_,·,rfl,?_;exists ·,·,Wy Wt (a:=(((Zu G[i]).length:Nat):Int)) (b:=((n:Nat):Int)) ⟨_,rfl,?_⟩
   by_cases he:(Zu G[i]).length=n
   .rw[show decide ((((Zu G[i]).length:Nat):Int)=((n:Nat):Int))=true from Du ()];refine iteT ⟨_,rfl,Uy Vu,_,rfl,M.length,_,_,rfl,rfl,Y5,?_,.inl ⟨some (.lst ((Z2 G[i]).map .int)),some (.int (((Zu G[i]).length:Nat):Int)),?_,?_⟩⟩
    .rw[Ja,Jc];let:((G.take i).filter λU=>decide ((Zu U).length=n)).length<=G.length:=J9 (Kv _ _) (List.length_take_le' _ _);exact Gz (by lia:_<=1000) nofun
    .rw[Za1 hi',show lg1 L1 n G[i]=[]from Dt he,Gm];rfl
    .rw[Xw,Zij (λU:List Pr=>decide ((Zu U).length=n)) hi' true (Du he),Dt rfl,<-Jn,Jk (l₂:=[G[i]])];rfl
   .rw[show decide ((((Zu G[i]).length:Nat):Int)=((n:Nat):Int))=false from Dv ()];refine iteF ⟨_,rfl,_,rfl,_,rfl,?_,λj ys M'=>M'=M++[.lst ((F++(G.take i).filter λU=>decide ((Zu U).length=n)).map uD)]/\ys=((L1.take j).map λp=>G[i]++[p]).map gD,λ_ _ _ _ _=>rfl,⟨rfl,rfl⟩,?_,?_⟩
    .show(L1.map pD).length<=sizeLine;rw[lmL];exact Zk ()
    .rintro j x ys _ hj hx ⟨rfl,rfl⟩;let⟨hj',rfl⟩:=Yi hx;let lU:(Z2 G[i]).length<=6:=by
      let⟨a,b,c⟩:=(lv.gm _).mp (Ju hi');rw[show(Z2 G[i]).length=G[i].length from Ja _];lia
     exists ·,rfl,_,·,_,·,rfl,?_;exists ·,·,(show 1<=sizeLine by decide),_,·,rfl,Zk (by rw[Ja];show _+1<=_;lia),·,·,·,(show 2<=sizeLine by decide),rfl,?_;rw[Jh hj',Jk,Jk];show _=_++[gD (G[i]++[L1[j]])];unfold gD;rw[Zns,Sv,Jc,F1,Jk,Ja];rfl
    rintro ys _ ⟨rfl,rfl⟩;rw[show C5 _ L1=L1 from by rw[show(L1.map pD).length=L1.length from lmL];exact Gd];exists _,·,rfl,?_,.inl ⟨some (.lst ((Z2 G[i]).map .int)),some (.int (((Zu G[i]).length:Nat):Int)),?_,?_⟩
    .rw[Ja,Ja,Ja];let:=lfl i;exact J9 (by lia:_<=448*28+28) nofun
    .rw[Za1 hi',show lg1 L1 n G[i]=L1.map λp=>G[i]++[p]from Ds he,Jk];rfl
    .rw[Zij (λU:List Pr=>decide ((Zu U).length=n)) hi' false (Dv he),Ds Jt,Gm]
  rintro ρ _ ⟨v7,v8,rfl,rfl⟩;rw[show C5 _ G=G from by rw[show(G.map gD).length=G.length from lmG];exact Gd];let l3:=lfl G.length;rw[Gd]at l3;generalize hW:G.flatMap (lg1 L1 n)=W at lv2 l3;let lmW:(W.map gD).length=W.length:=Ja _;exists ·,·,?_,λi ys M'=>M'=M++[.lst ((F++G.filter λU=>decide ((Zu U).length=n)).map uD)]/\ys=((W.take i).filter λU=>decide ((Zu U).length<=n)).map gD,λ_ _ _ _ _=>rfl,⟨rfl,rfl⟩,?_,?_
  .show(W.map gD).length<=sizeLine;rw[lmW];exact J9 l3 nofun
  .rintro i x ys _ hi hx ⟨rfl,rfl⟩;let⟨hi',rfl⟩:=Yi hx;exists ·,_,_,·,rfl,rfl,·,_,·,rfl,·,?_;rw[show decide ((((Zu W[i]).length:Nat):Int)<=((n:Nat):Int))=decide ((Zu W[i]).length<=n)from decide_eq_decide.mpr ()];refine ite2 (λhl=>⟨_,rfl,rfl,?_⟩) (λhl=>⟨rfl,?_⟩)
   .exact(X0 (λU=>decide ((Zu U).length<=n)) gD hi' true hl).symm
   .exact((X0 (λU=>decide ((Zu U).length<=n)) gD hi' false (B9 _ ▸ hl)).trans (Gm _)).symm
  rintro ys _ ⟨rfl,rfl⟩;rw[show C5 _ W=W from by rw[show(W.map gD).length=W.length from lmW];exact Gd];exists n+2-(kk+1),(),.inl ⟨kk+1,_,_,_,_,_,rfl,rfl,lv2,rfl⟩
open L3
theorem Jco(T:Txt mg){C:Addr}(Zm:Cal P w K mg base "_law_draw" 1 ["_law_hand","_law_many"] (spOf ⟨C,K⟩ Zct)){f:Addr}(F:Fun K "_law_text_of" "_law_text_of" Jca f fd):FnOk P w K mg base CX0 2 f fd ["_law_hand","_law_table_here","_law_most"] (spOf ⟨C,K⟩ Ziv):=by
 refine L3.Fun.ok3 F Jcb (λds M K3 h=>?_) (λcdv A outer s H E hr=>?_)
 .let⟨k,L,m,rfl,_⟩:=h;rfl
 .let SC:=Jcb;let hu:=hr.units;let hu1:=Wf hr;let Zl:Room 1 _:=hr.mono nofun;refine⟨_,_,(Zd (Zs (i:=3) SC.nd rfl (Cd rfl) (Y8 Zf))
 (Zd (Zs (i:=4) SC.nd rfl (Cd rfl) Zi)
 (Zd (X6 Cm rfl (Ys rfl T.b_range (Za (Zw Zm Zl rfl (Za (pv 0) (Za Zi Zf))) Zf)) (Zq (i:=5) SC.nd rfl (Cd rfl))
 (Zj (Y2 (Z4 (Zem (K':=K) rfl hu) (pv 1) (Y8 Zf) (Yc _))
 (Zd (Qy (Z9 (Yr (K':=K) rfl) (pv 1) (Z5 We (Zw Zm Zl rfl (Za (pv 0) (Za Zi Zf))) (Zr (Xa (K:=K) rfl) (by rfl) T.b_len Dx (Za (pv 1) Zf))) (λ_ _=>rfl)) (Wr (n:=2) rfl (Z0 (Zq (i:=6) SC.nd rfl (Cd rfl)) (Z0 (Zq (i:=7) SC.nd rfl (Cd rfl)) Xr)) (by rfl)))
 (Zj (Y2 (Z4 Zoi (Z5 (Yx (K':=K) rfl) (pv 4) (Zr (Xa (K:=K) rfl) (by rfl) T.b_len Dx (Za (pv 7) Zf))) (pv 2) (Yc _))
 (Zd (T5 (Zhc C4 Hw Hy Rm (pv 3) (Za (pv 6) Zf)))
 (Zj (Zdr (i:=4) SC.nd rfl (Cd rfl) (Zr (Xa (K:=K) rfl) (by rfl) T.b_len Dx (Za (pv 7) Zf)) Zar)))
 Z6)))
 Z6)))
 (Zj (Z1 (pv 3)))))),λ_=>(Zv (Z7 (Zab Zn) (s_g 3))
 (Zv (Z7 Zt (s_g 4))
 (Zv (Ri (Zbz (Zb (Z3 (Zb (Ze 0) (Zb Zt Zn))) Zn)) (s_g 5)
 (X2 (Yo (s_op s_ne (Ze 1) (Tg Zn)))
 (Zv (Z7 (s_op s_ix (Ze 1) (s_op Zj3 (Z3 (Zb (Ze 0) (Zb Zt Zn))) (s_cb W4 (Zb (Ze 1) Zn)))) (Th (Yp (s_g 6) (Yp (s_g 7) Ti))))
 (X2 (Yo (s_op s_le (s_op X9 (Ze 4) (s_cb W4 (Zb (Ze 7) Zn))) (Ze 2)))
 (Zv (Zac (Pw (Ze 3) (Zb (Ze 6) Zn)))
 (Zj7 (s_cb W4 (Zb (Ze 7) Zn))))
 Y7))
 Y7))
 (Xj (Ze 3))))),λds M Kk hM hD h=>?_⟩
  let⟨k,L,m,rfl,h⟩:=h;let⟨hk,⟨fi,hm⟩,kk⟩:=h;let hkX:∀{X:Mem},(M++X)[k]?=some .hand:=Zie hk;let lm:(L.map pD).length=L.length:=Ja _;exists Gc _,?_;exists ·,k,7,rfl,hkX,⟨nofun,nofun⟩,λr r0 r1=>⟨r,rfl,⟨(),()⟩,?_⟩;exists λi ρ M'=>∃v5 v6 v7 U,ρ=[some (.cell k),some (tbl L),some (.int m),some (.cell M.length),some (.int (((Zu U).length:Nat):Int)),v5,v6,v7]/\M'=M++[.lst ((Z2 U).map .int)]/\(∀p∈U,p∈L)/\(((Zu U).length:Int)<=m\/U=[])/\U.length<=i,λ_ _ _ _ _=>trivial,⟨_,_,_,[],rfl,rfl,(λ_ h=>nomatch h),.inr rfl,Jd _⟩,?_,?_
  .rintro i x ρ _ hi hx ⟨v5,v6,v7,U,rfl,rfl,hU,hr,lU⟩;let hi':i<7:=by
    let:i<r.toNat:=hi;lia
   exists ·,Gc _,Nr Zup (a:=L) (b:=[]) rfl rfl ⟨_,rfl,?_⟩
   by_cases hL:L=[]
   .rw[Du hL];exact iteF (.inl ⟨_,_,_,U,rfl,rfl,hU,hr,()⟩)
   rw[Dv hL];let h0:=Gh.mpr hL;refine iteT ⟨_,rfl,_,rfl,k,60,rfl,hkX,⟨nofun,nofun⟩,λq q0 q1=>?_⟩;let hq:q % (L.length:Int)=((q.toNat % L.length:Nat):Int):=by
    rw[Int.natCast_emod,Int.toNat_of_nonneg q0]
   let hj:q.toNat % L.length<L.length:=Nat.mod_lt _ h0;exists ·,·,_,·,rfl,by rw[lm];lia,_,_,·,rfl,Yn (f:=pD) (as:=L) (j:=q.toNat % L.length) (by rw[lm];exact hq) hj,?_;let hp:=Ju hj;generalize L[q.toNat % L.length]=p at hp;exists ·,rfl,_,·,_,·,rfl,?_;let lp:(p.2.map D.int).length=p.2.length:=Ja _;exists ·,·,·,·,_,·,rfl,·,?_;refine ite2 (λhz=>?_) (λhz=>.inl ⟨_,_,_,U,rfl,rfl,hU,hr,()⟩);let hz:=of_decide_eq_true hz;rw[lp]at hz;exists ·,Uy Vu,·,M.length,_,·,rfl,Y5,?_,?_
   .rw[Ja];unfold Z2;rw[Ja];exact Gz (by lia:_<=1000) nofun
   rw[Xw];exists ·,·,·,·,.inl ⟨some x,some (.int p.1),some (wD p.2),U++[p],?_,?_,λz hz=>(Jw.mp hz).elim (hU z) λy=>by rw[Jf.mp y];exact hp,.inl ?_,?_⟩
   .rw[Sv,Jc,lp,F1];rfl
   .unfold Z2;rw[Jk,Jk];rfl
   .rw[Sv,Jc,F1];exact hz
   .rw[Jc];show U.length+1<=_;lia
  .rintro ρ _ ⟨v5,v6,v7,U,rfl,rfl,hU,hr,lU⟩;exists ·,.inl (kk U hU hr ?_);let:U.length<=r.toNat:=lU;lia
open L3
theorem Tu(xs:List τ)(lo hi:Option Int):(cut xs lo hi).length<=xs.length:=by
 unfold cut;rw[Jv,Ga];lia
theorem Jas(T:Txt mg){C:Addr}(Zm:Cal P w K mg base "_law_draw" 1 ["_law_hand","_law_many"] (spOf ⟨C,K⟩ Zct))(Yu:Cal P w K mg base "_law_carried" 4 ["_law_first","_law_second","_law_text"] (spOf ⟨C,K⟩ Zpg))(Xx:Cal P w K mg base "_law_text_of" 2 ["_law_hand","_law_table_here","_law_most"] (spOf ⟨C,K⟩ Ziv))(Xi:Cal P w K mg base "_law_small" 5 ["_law_table_here","_law_entries_here","_law_most"] (spOf ⟨C,K⟩ Zix)){f:Addr}(F:Fun K "_law_entries" "_law_entries" Jaz f fd):FnOk P w K mg base CX0 6 f fd ["_law_hand","_law_tables_here","_law_most","_law_signs_here"] (spOf ⟨C,K⟩ Zst):=by
 refine L3.Fun.ok3 F Jbo (λds M K3 h=>?_) (λcdv A outer s H E hr=>?_)
 .let⟨k,c,bs,ss,Ls,rfl,_⟩:=h;rfl
 .let SC:=Jbo;let hu:=hr.units;let hu1:=Wf hr;let Zl:Room 1 _:=hr.mono nofun;let Wg:Room 4 _:=hr.mono nofun;let Vw:Room 2 _:=hr.mono nofun;let Va:Room 5 _:=hr.mono nofun;refine⟨_,_,(Zd (Zs (i:=4) SC.nd rfl (Cd rfl) (Zw Yu Wg rfl (Za (Z9 (Yr (K':=K) rfl) (pv 1) Zi (λ_ _=>rfl)) (Za (Z9 (Yr (K':=K) rfl) (pv 1) Zi (λ_ _=>rfl)) (Za (Zw Xx Vw rfl (Za (pv 0) (Za (Z9 (Yr (K':=K) rfl) (pv 1) Zi (λ_ _=>rfl)) (Za (pv 2) Zf)))) Zf)))))
 (Zd (Zs (i:=5) SC.nd rfl (Cd rfl) (Zw Zm Zl rfl (Za (pv 0) (Za Zi Zf))))
 (Zd (Zs (i:=6) SC.nd rfl (Cd rfl) (Z5 We (Zw Zm Zl rfl (Za (pv 0) (Za Zi Zf))) (Z5 (Yx (K':=K) rfl) (Zr (Xa (K:=K) rfl) (by rfl) T.b_len Dx (Za (pv 4) Zf)) Zi)))
 (Zd (Zs (i:=7) SC.nd rfl (Cd rfl) (pv 4))
 (Zd (Y2 (Z4 (N4 (K':=K) rfl hu) (pv 5) Zi (Yc _))
 (Zd (Zs (i:=8) SC.nd rfl (Cd rfl) (Z9 (Yr (K':=K) rfl) (Y8 (Za W5 (Za (Z9 (Yr (K':=K) rfl) (pv 3) (Zw Zm Zl rfl (Za (pv 0) (Za Zi Zf))) (λ_ _=>rfl)) Zf))) (Zw Zm Zl rfl (Za (pv 0) (Za Zi Zf))) (λ_ _=>rfl)))
 (Zj (Zs (i:=7) SC.nd rfl (Cd rfl) (Z5 (Yx (K':=K) rfl) (Z5 (Yx (K':=K) rfl) (Yh (Pl (K':=K) rfl) (pv 4) Y3 (Yl (pv 6))) (Y8 (Za (pv 8) Zf))) (Yh (Pl (K':=K) rfl) (pv 4) (Yl (Z5 (Yx (K':=K) rfl) (pv 6) (Zw Zm Zl rfl (Za (pv 0) (Za Zi Zf))))) Y3)))))
 Z6)
 (Zd (Y2 (Z4 (N4 (K':=K) rfl hu) (pv 5) Zi (Yc _))
 (Zd (Zs (i:=7) SC.nd rfl (Cd rfl) (Zw Xx Vw rfl (Za (pv 0) (Za (Z9 (Yr (K':=K) rfl) (pv 1) Zi (λ_ _=>rfl)) (Za (pv 2) Zf)))))
 (Zj (Zs (i:=7) SC.nd rfl (Cd rfl) (Z5 (Yx (K':=K) rfl) (Z5 (Yx (K':=K) rfl) (Yh (Pl (K':=K) rfl) (pv 7) Y3 (Yl (pv 6))) (Z5 Zft (Y8 (Za W5 Zf)) (Zw Zm Zl rfl (Za (pv 0) (Za Zi Zf))))) (Yh (Pl (K':=K) rfl) (pv 7) (Yl (pv 6)) Y3)))))
 Z6)
 (Zd (Y2 (Qx (Zw Xi Va rfl (Za (Z9 (Yr (K':=K) rfl) (pv 1) Zi (λ_ _=>rfl)) (Za (pv 7) (Za (pv 2) Zf)))))
 (Zj (Z1 (pv 7)))
 Z6)
 (Zj (Z1 (pv 4)))))))))),λ_=>(Zv (Z7 (Zj5 (Z3 (Zb (s_op s_ix (Ze 1) Zt) (Zb (s_op s_ix (Ze 1) Zt) (Zb (Zj5 (Z3 (Zb (Ze 0) (Zb (s_op s_ix (Ze 1) Zt) (Zb (Ze 2) Zn))))) Zn))))) (s_g 4))
 (Zv (Z7 (Z3 (Zb (Ze 0) (Zb Zt Zn))) (s_g 5))
 (Zv (Z7 (s_op Zj3 (Z3 (Zb (Ze 0) (Zb Zt Zn))) (s_op X9 (s_cb W4 (Zb (Ze 4) Zn)) Zt)) (s_g 6))
 (Zv (Z7 (Ze 4) (s_g 7))
 (Zv (X2 (Yo (s_op s_eq (Ze 5) Zt))
 (Zv (Z7 (s_op s_ix (Tg (Zb Qk (Zb (s_op s_ix (Ze 3) (Z3 (Zb (Ze 0) (Zb Zt Zn)))) Zn))) (Z3 (Zb (Ze 0) (Zb Zt Zn)))) (s_g 8))
 (Z7 (s_op X9 (s_op X9 (s_sl Ps (Ze 4) X8 (Uj (Ze 6))) (Tg (Zb (Ze 8) Zn))) (s_sl Ps (Ze 4) (Uj (s_op X9 (Ze 6) (Z3 (Zb (Ze 0) (Zb Zt Zn))))) X8)) (s_g 7)))
 Y7)
 (Zv (X2 (Yo (s_op s_eq (Ze 5) Zt))
 (Zv (Z7 (Zj5 (Z3 (Zb (Ze 0) (Zb (s_op s_ix (Ze 1) Zt) (Zb (Ze 2) Zn))))) (s_g 7))
 (Z7 (s_op X9 (s_op X9 (s_sl Ps (Ze 7) X8 (Uj (Ze 6))) (s_op Zny (Tg (Zb Qk Zn)) (Z3 (Zb (Ze 0) (Zb Zt Zn))))) (s_sl Ps (Ze 7) (Uj (Ze 6)) X8)) (s_g 7)))
 Y7)
 (Zv (X2 (s_b (Z3 (Zb (s_op s_ix (Ze 1) Zt) (Zb (Ze 7) (Zb (Ze 2) Zn)))))
 (Xj (Ze 7))
 Y7)
 (Xj (Ze 4))))))))),λds M Kk hM hD h=>?_⟩
  let⟨k,c,bs,ss,Ls,rfl,h⟩:=h;let⟨hk,hc,⟨ht,hs⟩,kk⟩:=h;let sq:=(Ug (Zaj hc)).2.2;let l3:=ht.1;let at0:=Yn (f:=tbl) (as:=Ls) (i:=0) (j:=0) rfl ();let at1:=Yn (f:=tbl) (as:=Ls) (i:=1) (j:=1) rfl ();let t0:=ht.2 _ (Ju (show 0<Ls.length by lia));let t1:=ht.2 _ (Ju (show 1<Ls.length by lia));generalize Ls[0]=L0 at at0 t0;generalize Ls[1]=L1 at at1 t1;let mb:Uk bs<=100:=by unfold Uk;split<;>decide
  let frz:∀{τ:Type}{f:τ->D}(as:List τ){K':K3},(∀a,Ye M.length (f a))->K' (.lst (as.map f)) M->frzK M.length K' (.cell M.length) (M++[.lst (as.map f)]):=by
   intro τ f as K' hb hK;refine⟨_,_,rfl,by rw[Jc];rfl,Y5,rfl,λm hm=>?_,by rw[Bw];exact hK⟩;rcases Jw.mp hm with z|z
   .exact hM m z
   .rw[Jf.mp z];exact Zba (Wk hb as)
  refine⟨_,rfl,_,_,_,sq,rfl,at0,_,rfl,_,_,_,sq,rfl,at1,_,rfl,_,rfl,_,_,_,sq,rfl,at0,_,rfl,k,L0,_,rfl,hk,⟨t0.fi,mb⟩,λU hU _ lU=>frz _ (λ_=>Wl) ?_⟩;refine⟨L0,L1,_,U,rfl,rfl,⟨t0.fr,t0.fi,t1.fi,hU,()⟩,λR tl=>frz _ (λ_=>Zcx) ?_⟩;let lR:(osOf R).length<=24:=by
   let h1:=tl.len;let h2:=Zb1 t0.fi hU;rw[show(osOf R).length=R.length from Ja _];lia
  generalize osOf R=E0 at lR;let lm0:(E0.map oD).length=E0.length:=Ja _;exists ·,k,5,rfl,hk,⟨nofun,nofun⟩,λw w0 w1=>?_;exists ·,k,60,rfl,hk,⟨nofun,nofun⟩,λa a0 a1=>?_;exists ·,·,_,·,rfl,(),?_;show uG 6 (D.int (a % (((E0.map oD).length:Int)+1))) _ _ _;generalize a % (((E0.map oD).length:Int)+1)=at_;exists ·,g_nx ?_;dsimp only
  let' St:Ev->Mem->Prop:=λρ' M'=>∃(E1:List (Option Int))(v8:Option D),ρ'=[some (.cell k),some (.cell c),some (.int (Uk bs)),some (.lst (ss.map .int)),some (.lst (E0.map oD)),some (.int w),some (.int at_),some (.lst (E1.map oD)),v8]/\M=M'/\E1.length<=50
  refine Zf5 St (λKn hn=>?_) ?_
  .exists ·,Wy Wt (a:=w) (b:=0) ⟨_,rfl,ite2 (λ_=>?_) (λ_=>hn _ _ ⟨E0,_,rfl,rfl,()⟩)⟩;refine Zqv (λd M'=>∃o:Option Int,d=oD o/\M=M') (λKq hq=>?_) ?_
   .exists ·,·,k,14,rfl,hk,⟨nofun,nofun⟩,λr r0 r1=>?_;exists _,_,·,rfl,Yn (f:=D.int) (as:=ss) (j:=r.toNat) () (),(show 2<=sizeLine by decide),?_;exists ·,k,2,rfl,hk,⟨nofun,nofun⟩,λq q0 q1=>?_;exists _,_,·,rfl,Yn (f:=oD) (as:=[none,some ss[r.toNat]]) (j:=q.toNat) () (by show q.toNat<2;lia),hq _ _ ⟨_,rfl,rfl⟩
   rintro _ _ ⟨o,rfl,rfl⟩;exists ·,·,·,·,·,(show 1<=sizeLine by decide),_,·,rfl,?_,?_
   .let:=Tu (E0.map oD) none (some at_);exact Zk (by show _+1<=_;lia)
   exists ·,·,·,k,2,rfl,hk,⟨nofun,nofun⟩,λq q0 q1=>⟨_,rfl,_,rfl,_,_,rfl,rfl,?_,?_⟩
   .let:=Tu (E0.map oD) none (some at_);let:=Tu (E0.map oD) (some (at_+q)) none;rw[Jc];exact Zk (by show _+1+_<=_;lia)
   refine hn _ _ ⟨cut E0 none (some at_)++[o]++cut E0 (some (at_+q)) none,some (oD o),?_,rfl,?_⟩
   .rw[Jk,Jk,U2,U2];rfl
   .let:=Tu E0 none (some at_);let:=Tu E0 (some (at_+q)) none;rw[Jc,Jc];show _+1+_<=_;lia
  rintro _ _ ⟨E1,v8,rfl,rfl,lE1⟩;refine Zf5 St (λKn hn=>?_) ?_
  .exists ·,Wy Wt (a:=w) (b:=1) ⟨_,rfl,ite2 (λ_=>?_) (λ_=>hn _ _ ⟨E1,_,rfl,rfl,lE1⟩)⟩;exists ·,·,_,_,_,sq,rfl,at1,·,k,L1,·,hk,⟨t1.fi,mb⟩,λU hU _ lU=>frz _ (λ_=>Wl) ?_;let lsu:(Z2 U).length<=6:=by rw[show(Z2 U).length=U.length from Ja _];exact lU
   rw[show(Z2 U).map D.int=((Z2 U).map some).map oD from by rw[Gb];rfl];let lE2:((Z2 U).map some).length<=6:=by rw[Ja];exact lsu
   generalize (Z2 U).map some=E2 at lE2;let lm2:(E2.map oD).length=E2.length:=Ja _;let c1:=Tu (E2.map oD) none (some at_);let c2:=Tu (E2.map oD) (some at_) none;refine⟨_,rfl,_,rfl,_,rfl,_,rfl,(show 1<=sizeLine by decide),_,rfl,k,2,rfl,hk,⟨nofun,nofun⟩,λq q0 q1=>?_⟩;let eN:(Ci q.toNat [D.non]).flatten=(Ci q.toNat (none:Option Int)).map oD:=by
    generalize q.toNat=n
    induction n with
    |zero=>rfl
    |succ n ih=>rw[Bb,Bc,ih,Bb];rfl
   let lN:(Ci q.toNat (none:Option Int)).length<=1:=by rw[List.length_replicate];lia
   exists _,·,rfl,⟨(),(),Zk (by show 1*_<=_;lia)⟩,?_;rw[eN];generalize Ci q.toNat (none:Option Int)=Ns at lN;let lmN:(Ns.map oD).length=Ns.length:=Ja _;exists _,·,rfl,Zk (),·,·,·,·,_,·,rfl,?_,?_
   .rw[Jc];exact Zk ()
   refine hn _ _ ⟨cut E2 none (some at_)++Ns++cut E2 (some at_) none,v8,?_,rfl,?_⟩
   .rw[Jk,Jk,U2,U2];rfl
   .let:=Tu E2 none (some at_);let:=Tu E2 (some at_) none;rw[Jc,Jc];lia
  rintro _ _ ⟨E1,v8,rfl,rfl,lE1⟩;exists ·,_,_,_,sq,rfl,at1,·,·,L1,_,E1,·,rfl,⟨t1.fr,t1.fi,lE1⟩,·,ite2 (λ_=>⟨_,rfl,.inl (kk E1 lE1)⟩) (λ_=>⟨_,rfl,.inl (kk E0 ())⟩)
open L3
abbrev spLaw(K:Ck)(Pt:Addr):Sp:=Zl0 K Pt lamP lamQ
theorem Jbh(T:Txt mg){C:Addr}(Zjk:Mkr P w K mg base "Code" C 4 ["self","table"] (Zbv C Pt lamP lamQ))(U7:Cal P w K mg base "_law_open" 1 ["_law_script","_law_place"] (spOf ⟨C,K⟩ Zsp))(Vf:Cal P w K mg base "_law_tables" 4 ["_law_hand"] (spOf ⟨C,K⟩ Ziw))(W2:Cal P w K mg base "_law_entries" 6 ["_law_hand","_law_tables_here","_law_most","_law_signs_here"] (spOf ⟨C,K⟩ Zst))(Xe:Cal P w K mg base "original_count" 9 ["one","other","entries"] (spOf ⟨C,K⟩ Zmt))(Xi:Cal P w K mg base "_law_small" 5 ["_law_table_here","_law_entries_here","_law_most"] (spOf ⟨C,K⟩ Zix))(Sh:Cal P w K mg base "_law_all" 6 ["_law_first","_law_second","_law_entries_here"] (spOf ⟨C,K⟩ Zsu)){f:Addr}(F:Fun K "law" "law" Zn0 f fd):FnOk P w K mg base CX0 10 f fd ["_law_script"] (spOf ⟨C,K⟩ (Zsr Pt lamP lamQ)):=by
 refine L3.Fun.ok3 F Jal (λds M K3 h=>?_) (λcdv A outer s H E hr=>?_)
 .let⟨ns,rfl,_⟩:=h;rfl
 .let SC:=Jal;let hu:=hr.units;let hu1:=Wf hr;let Zo5:Room 5 _:=hr.mono nofun;let Zaw:Room 1 _:=hr.mono nofun;let Qp:Room 4 _:=hr.mono nofun;let Ry:Room 6 _:=hr.mono nofun;let W6:Room 9 _:=hr.mono nofun;let Va:Room 5 _:=hr.mono nofun;let Zco:Room 6 _:=hr.mono nofun;refine⟨_,_,(Zd (X6 Cm rfl (Ys rfl T.b_range (Za (Zr (Qd rfl) (by rfl) T.b_max Ku (Za Zi (Za (Zr (Za7 rfl) (by rfl) T.b_min Ja9 (Za (Zr (Xa (K:=K) rfl) (by rfl) T.b_len Dx (Za (pv 0) Zf)) (Za Zi Zf))) Zf))) Zf)) (Zq (i:=1) SC.nd rfl (Cd rfl))
 (Zd (Zs (i:=2) SC.nd rfl (Cd rfl) (Zw U7 Zaw rfl (Za (pv 0) (Za (pv 1) Zf))))
 (Zd (Qy (Zw Vf Qp rfl (Za (pv 2) Zf)) (Wr (n:=3) rfl (Z0 (Zq (i:=3) SC.nd rfl (Cd rfl)) (Z0 (Zq (i:=4) SC.nd rfl (Cd rfl)) (Z0 (Zq (i:=5) SC.nd rfl (Cd rfl)) Xr))) (by rfl)))
 (Zd (Vr (i:=6) SC.nd rfl rfl (T:=["_law_table_here"]) (cs:=[]) rfl (CScope.ok (by kernel_rfl)) (Yf (pv 3)) (λ_ _ _ _=>(Zq (i:=0) (Y0 (by kernel_rfl)) rfl (Cd rfl) (Cy rfl))) (λ_ _ _ _=>Yv) (λ_ _ _ _=>(Zrj Zjk Zo5 rfl (Za (Yt (Zcw (K:=K) rfl) (by rfl) T.b_list Ki (Za (pv 0) Zf)) Zf))) (Yw nofun))
 (Zd (Zs (i:=7) SC.nd rfl (Cd rfl) (Zw W2 Ry rfl (Za (pv 2) (Za (pv 3) (Za (pv 4) (Za (pv 5) Zf))))))
 (Zd (Zs (i:=8) SC.nd rfl (Cd rfl) (Yt (Zcw (K:=K) rfl) (by rfl) T.b_list Ki (Za (pv 7) Zf)))
 (Zd (X6 Cm rfl (Qz (Yz (Za (Yz (Za Zi (Za Zi Zf))) (Za (Yz (Za Zi (Za Zi Zf))) (Za (Yz (Za Zi (Za Zi Zf))) (Za (Yz (Za Zi (Za Zi Zf))) Zf)))))) (Wr (n:=2) rfl (Z0 (Zq (i:=9) SC.nd rfl (Cd rfl)) (Z0 (Zq (i:=10) SC.nd rfl (Cd rfl)) Xr)) (by rfl))
 (Zd (Zs (i:=11) SC.nd rfl (Cd rfl) (Zw Xe W6 rfl (Za (Z9 (Yr (K':=K) rfl) (pv 6) (pv 9) (λ_ _=>rfl)) (Za (Z9 (Yr (K':=K) rfl) (pv 6) (pv 10) (λ_ _=>rfl)) (Za (pv 8) Zf)))))
 (Zd (Y2 (PW.pt (Zrd (Zre (Qx (Zr (Zm1 (K:=K) rfl) (by rfl) T.b_isinstance K5 (Za (pv 11) (Za (Zhd (v:=.ty "int") rfl T.b_int Jgg rfl) Zf))))) (Zrd (Qx (Zr (Zm1 (K:=K) rfl) (by rfl) T.b_isinstance K5 (Za (pv 11) (Za (Zhd (v:=.ty "bool") rfl T.b_bool Jf8 rfl) Zf)))) (Zrc (Z4 (Zem (K':=K) rfl hu) (pv 8) (pv 7) (Yc _))))))
 (Zj (Z1 Zb7))
 Z6)
 (Zj (Y2 (Qx (Zw Xi Va rfl (Za (Z9 (Yr (K':=K) rfl) (pv 3) (pv 10) (λ_ _=>rfl)) (Za (pv 7) (Za (pv 4) Zf)))))
 (Zj (Y2 (Z4 (Zem (K':=K) rfl hu) (pv 11) (Zr (Xa (K:=K) rfl) (by rfl) T.b_len Dx (Za (Zw Sh Zco rfl (Za (Z9 (Yr (K':=K) rfl) (pv 3) (pv 9) (λ_ _=>rfl)) (Za (Z9 (Yr (K':=K) rfl) (pv 3) (pv 10) (λ_ _=>rfl)) (Za (pv 7) Zf)))) Zf)) (Yc _))
 (Zj (Z1 Zb7))
 Z6))
 Z6)))))
 (Zj (Y2 (Z4 (Zem (K':=K) rfl hu) (Zw Xe W6 rfl (Za (Z9 (Yr (K':=K) rfl) (pv 6) Zi (λ_ _=>rfl)) (Za (Z9 (Yr (K':=K) rfl) (pv 6) Zi (λ_ _=>rfl)) (Za (Y8 Zf) Zf)))) Zi (Yc _))
 (Zj (Z1 Zb7))
 Z6)))))))))
 (Zj (Z1 Zb7))),λ_=>(Zv (Ri (Zbz (Zb (s_cb Zl4 (Zb Zt (Zb (s_cb Zqz (Zb (s_cb W4 (Zb (Ze 0) Zn)) (Zb Zt Zn))) Zn))) Zn)) (s_g 1)
 (Zv (Z7 (Z3 (Zb (Ze 0) (Zb (Ze 1) Zn))) (s_g 2))
 (Zv (Z7 (Z3 (Zb (Ze 2) Zn)) (Th (Yp (s_g 3) (Yp (s_g 4) (Yp (s_g 5) Ti)))))
 (Zv (Z7 (Xp (s_il (Ze 3)) (s_g 0) Vm (Zj4 (Zb (s_cb Zgn (Zb (Ze 0) Zn)) Zn))) (s_g 6))
 (Zv (Z7 (Z3 (Zb (Ze 2) (Zb (Ze 3) (Zb (Ze 4) (Zb (Ze 5) Zn))))) (s_g 7))
 (Zv (Z7 (s_cb Zgn (Zb (Ze 7) Zn)) (s_g 8))
 (Zv (Ri (s_it (Vj (Zb (Vj (Zb Zt (Zb Zt Zn))) (Zb (Vj (Zb Zt (Zb Zt Zn))) (Zb (Vj (Zb Zt (Zb Zt Zn))) (Zb (Vj (Zb Zt (Zb Zt Zn))) Zn)))))) (Th (Yp (s_g 9) (Yp (s_g 10) Ti)))
 (Zv (Z7 (Z3 (Zb (s_op s_ix (Ze 6) (Ze 9)) (Zb (s_op s_ix (Ze 6) (Ze 10)) (Zb (Ze 8) Zn)))) (s_g 11))
 (Zv (X2 (s_or (Zt4 (s_b (s_cb (Zq0 (T:=.int)) (Zb (Ze 11) (Zb s_ty Zn))))) (s_or (s_b (s_cb (Zq0 (T:=.bool)) (Zb (Ze 11) (Zb s_ty Zn)))) (Yo (s_op s_ne (Ze 8) (Ze 7)))))
 (Xj s_bl)
 Y7)
 (X2 (s_b (Z3 (Zb (s_op s_ix (Ze 3) (Ze 10)) (Zb (Ze 7) (Zb (Ze 4) Zn)))))
 (X2 (Yo (s_op s_ne (Ze 11) (s_cb W4 (Zb (Z3 (Zb (s_op s_ix (Ze 3) (Ze 9)) (Zb (s_op s_ix (Ze 3) (Ze 10)) (Zb (Ze 7) Zn)))) Zn))))
 (Xj s_bl)
 Y7)
 Y7))))
 (X2 (Yo (s_op s_ne (Z3 (Zb (s_op s_ix (Ze 6) Zt) (Zb (s_op s_ix (Ze 6) Zt) (Zb (Tg Zn) Zn)))) Zt))
 (Xj s_bl)
 Y7))))))))
 (Xj s_bl)),λds M Kk hM hD h=>?_⟩
  let⟨ns,rfl,h⟩:=h;let⟨rfl,hlen,k⟩:=h;let lm:∀ns:List Int,(ns.map D.int).length=ns.length:=λns=>Ja _;exists ·,·,_,·,_,·,·,?_,λi ρ M'=>∃v1 v2 v3 v4 v5 v6 v7 v8 v9 v10 v11,ρ=[some (.frz (ns.map .int)),v1,v2,v3,v4,v5,v6,v7,v8,v9,v10,v11]/\[.tab Pt lamP lamQ]=M',λ_ _ _ _ _=>trivial,⟨_,_,_,_,_,_,_,_,_,_,_,rfl,rfl⟩,?_,?_
  .rw[lm]
   constructor<;>(split<;>(try split)<;>lia)
  .rintro i x ρ M' hi rfl ⟨v1,v2,v3,v4,v5,v6,v7,v8,v9,v10,v11,rfl,rfl⟩;let hb:i<63:=by
    let h1:i<Int.toNat _:=hi;rw[lm]at h1
    revert h1
    split<;>(try split)<;>lia
   exists ·,·,ns,·,⟨hlen,(),()⟩,?_;exists ·,1,rfl,rfl,λbs ss Ls hb t3 lss=>?_;exists ·,rfl,_,·,_,·,_,·,rfl,?_;let lL:=t3.1;let hL:∀i(hi:i<Ls.length),TbK Ls[i] bs:=λi hi=>t3.2 _ (Ju hi);let zL:(Ls.map tbl).length<=sizeLine:=by rw[Ja,lL];decide
   exists ·,·,zL,λj ys M'=>[.tab Pt lamP lamQ,.hand,.lst (Ls.map tbl)]=M'/\∃Ss:List (List Pr),ys=Ss.map D.code/\Ss.length=j/\∀i(h1:i<Ss.length)(h2:i<Ls.length),Ss[i].Perm Ls[i],λ_ _ _ _ z=>by rw[<-z.1];rfl,⟨rfl,[],rfl,rfl,λi h=>absurd h (G5 _)⟩,?_,?_
   .rintro j x ys _ hj hx ⟨rfl,Ss,rfl,rfl,hSs⟩;let⟨hj',rfl⟩:=Yi (f:=tbl) hx;exists ·,_,·,rfl,0,_,·,rfl,rfl,⟨(hL _ hj').fr,(hL _ hj').fi⟩,λS pm ri=>⟨rfl,Ss++[S],by rw[Jk];rfl,by rw[Jc];rfl,λi h1 h2=>?_⟩
    by_cases hi:i<Ss.length
    .rw[List.getElem_append_left hi];exact hSs i hi h2
    .let:i=Ss.length:=by rw[Jc,G0]at h1;lia
     subst this;rw[List.getElem_append_right (Jd _)];simpa using pm
   rintro ys _ ⟨rfl,Ss,rfl,lSs,hSs⟩;let lSs:Ss.length=3:=by rw[lSs];show(Ls.map tbl).length=_;rw[Ja,lL]
   let hS:∀i(h1:i<Ss.length)(h2:i<Ls.length),Free Ss[i]/\Fits Ss[i]:=λi h1 h2=>⟨(hL i h2).fr.perm (hSs i h1 h2),(hL i h2).fi.perm (hSs i h1 h2)⟩;exists ·,·,·,·,1,2,bs,ss,Ls,rfl,rfl,rfl,⟨t3,lss⟩,λE hE=>?_;exists ·,_,·,rfl,?_;let d2:2<=sizeLine:=by decide
   exists d2,d2,d2,d2,(show 4<=sizeLine by decide),·,λ_ ρ M'=>∃v9 v10 v11,ρ=[some (.frz (ns.map .int)),some (.int (0+(i:Int))),some (.cell 1),some (.cell 2),some (.int (Uk bs)),some (.lst (ss.map .int)),some (.lst (Ss.map D.code)),some (.lst (E.map oD)),some (.lst (E.map oD)),v9,v10,v11]/\[.tab Pt lamP lamQ,.hand,.lst (Ls.map tbl)]=M',λ_ _ _ _ _=>trivial,⟨_,_,_,rfl,rfl⟩,?_,?_
   .rintro j x ρ _ hj hx ⟨v9,v10,v11,rfl,rfl⟩;obtain⟨a,b,rfl,ha,hb'⟩:∃a b:Nat,x=.tup [.int a,.int b]/\a<3/\b<3:=by
     let hx':[D.tup [.int 0,.int 1],.tup [.int 0,.int 2],.tup [.int 2,.int 1],.tup [.int 0,.int 1]][j]?=some x:=hx
     match j,hx' with
     |0,e=>exact⟨0,1,(Dw e).symm,nofun,nofun⟩
     |1,e=>exact⟨0,2,(Dw e).symm,nofun,nofun⟩
     |2,e=>exact⟨2,1,(Dw e).symm,nofun,nofun⟩
     |3,e=>exact⟨0,1,(Dw e).symm,nofun,nofun⟩
    let haL:a<Ls.length:=by lia
    let hbL:b<Ls.length:=by lia
    let haS:a<Ss.length:=by lia
    let hbS:b<Ss.length:=by lia
    let⟨fra,fia⟩:=hS a haS haL;let⟨frb,fib⟩:=hS b hbS hbL;let pa:=hSs a haS haL;let pb:=hSs b hbS hbL;let ta:=hL a haL;let tb:=hL b hbL;let ata:=Yn (f:=tbl) (as:=Ls) (i:=(a:Int)) (j:=a) rfl haL;let atb:=Yn (f:=tbl) (as:=Ls) (i:=(b:Int)) (j:=b) rfl hbL;let asa:=Yn (f:=D.code) (as:=Ss) (i:=(a:Int)) (j:=a) rfl haS;let asb:=Yn (f:=D.code) (as:=Ss) (i:=(b:Int)) (j:=b) rfl hbS;generalize Ls[a]=La at pa ta ata;generalize Ls[b]=Lb at pb tb atb;generalize Ss[a]=Sa at pa fra fia asa;generalize Ss[b]=Sb at pb frb fib asb;exists ·,rfl,_,·,_,·,rfl,?_;exists ·,·,_,_,·,rfl,asa,·,·,_,_,·,rfl,asb,·,Sa,Sb,_,E,rfl,rfl,⟨fra,fia,frb,fib,hE⟩,?_
    refine g_nx ?_;dsimp only;refine Zr9 (c:=false) (Zrm (c1:=false) (c2:=false) (λK z=>⟨_,rfl,_,_,rfl,rfl,_,rfl,z⟩) λ_=>Zrm (c1:=false) (c2:=false) (λK z=>⟨_,rfl,_,_,rfl,rfl,_,rfl,z⟩) λ_ K z=>⟨_,rfl,_,rfl,Nr encO (a:=E) (b:=E) rfl rfl ⟨_,rfl,by rw[Du rfl];exact z⟩⟩) (iteF ?_);exists ·,·,_,_,·,rfl,atb,·,·,Lb,_,E,·,rfl,⟨tb.fr,tb.fi,hE⟩,·,ite2 (λhsm=>?_) (λ_=>.inl ⟨_,_,_,rfl,rfl⟩);exists ·,·,·,_,_,·,rfl,ata,·,·,_,_,·,rfl,atb,·,La,Lb,_,E,bs,rfl,rfl,⟨ta,tb.fr,tb.fi,hE,λkn hk=>?_⟩,λzs hz hm=>?_
    .rw[hk]at hsm;let hsm:decide ((kn.length:Int)<=Uk bs)=true:=hsm;let hsm:=of_decide_eq_true hsm;unfold Uk at hsm;rcases hb with z|z
     .rw[Dt z]at hsm;exact .inl ⟨(),()⟩
     .rw[Ds ()]at hsm;exact .inr ⟨(),()⟩
    .let e:=Zev fra fia frb fib hz λt=>(hm t).trans ⟨λh=>h.perm pa.symm pb.symm,λh=>h.perm pa pb⟩;exists ·,Wy Wt (a:=((Sk Sa Sb E:Nat):Int)) (b:=(((zs.map tLs).length:Nat):Int)) ⟨_,rfl,?_⟩;rw[show decide (((Sk Sa Sb E:Nat):Int)=(((zs.map tLs).length:Nat):Int))=true from Du (by rw[Ja,e])];exact iteF (.inl ⟨_,_,_,rfl,rfl⟩)
   .rintro ρ _ ⟨v9,v10,v11,rfl,rfl⟩;let h0:0<Ss.length:=by lia
    let h1:1<Ss.length:=by lia
    let⟨fra,fia⟩:=hS 0 h0 ();let⟨frb,fib⟩:=hS 1 h1 ();exists ·,_,_,·,rfl,Yn (f:=D.code) (j:=0) rfl h0,·,_,_,·,rfl,Yn (f:=D.code) (j:=1) rfl h1,Gc _,Ss[0],Ss[1],_,[],rfl,rfl,⟨fra,fia,frb,fib,Gc _⟩,?_;rw[show Sk Ss[0] Ss[1] []=1 from Zi5 rfl];refine Wy Wt (a:=1) (b:=1) ⟨_,rfl,iteF (.inr (.inl ⟨_,⟨[.hand,.lst (Ls.map tbl)],rfl⟩,.same <|.skip <|.skip <|.skip <|.skip <|.skip <|.skip <|.skip <|.skip <|.skip <|.skip <|.skip .nil,_,_,_,_,_,_,_,_,_,_,_,rfl,rfl⟩))⟩
  .rintro ρ M' ⟨v1,v2,v3,v4,v5,v6,v7,v8,v9,v10,v11,rfl,rfl⟩;exact .inl (k _)
end
def all_mk{l:Jge}{fa:Addr}(X:K.In h)(G:h.Ns mainGlobals mg)(hfa:mg "law"=some (.ref fa)){C:Addr}(aC:W.nsIn K mainGlobals "Code"=some (some (.ref C)))(gx_FIRST_SPOT:W.nsIn K mainGlobals "FIRST_SPOT"=some (some (.ref Yg)))(gx_Leaving:W.nsIn K mainGlobals "Leaving"=some (some (.ref Zx)))(h0:FnG K "_law_draw" D6 f0 d0)(h1:FnG K "_law_open" Jbl f1 d1)(h2:FnG K "_law_bytes" Jar f2 d2)(h3:FnG K "_law_words" Jcp f3 d3)(h4:FnG K "_law_table" Jbc f4 d4)(h5:FnG K "odds_between" Ww f5 d5)(h6:FnG K "fault" Zb0 f6 d6)(h7:FnG K "refuse_fault" Wv f7 d7)(h8:FnG K "beginnings" Vo f8 d8)(a9:Ef K (.ref C) "__init__"=some (some (.ref f9)))(l9:K.lookup f9=some ⟨oc9,od9,.func (Jb7 "__init__" "Code.__init__" (Wi Zz) (Xs Zz) (Zo Zz) .none kV9 dc9 pm9 an9 (.ref c) ct9),sl9⟩)(c9:Jc5 K (.ref c) "Code.__init__"=true)(k9:Jb1 K (.ref f9)=true)(n9:W.isFn K (.ref f9)=true)(h10:MtG K C "word" "Code.word" Uv f10 d10)(h11:MtG K C "sign" "Code.sign" Uw f11 d11)(h12:MtG K C "live" "Code.live" Ux f12 d12)(h13:MtG K C "signs" "Code.signs" Vp f13 d13)(h14:FnG K "_law_from" Jan f14 d14)(h15:FnG K "_law_signs" Jbj f15 d15)(h16:FnG K "known_bytes" W8 f16 d16)(h17:FnG K "byte_taken" Vn f17 d17)(h18:FnG K "word_taken" Vl f18 d18)(h19:FnG K "steps_at" T1 f19 d19)(h20:FnG K "all_steps" Uu f20 d20)(h21:FnG K "counts_behind" Wc f21 d21)(h22:MtG K Zx "__init__" "Leaving.__init__" Xq f22 d22)(h23:MtG K Zx "original_total" "Leaving.original_total" Ym f23 d23)(h24:FnG K "original_count" X1 f24 d24)(h25:FnG K "_law_tables" D1 f25 d25)(h26:FnG K "_law_carried" Jai f26 d26)(h27:FnG K "_law_size" Jcs f27 d27)(h28:FnG K "_law_small" Jak f28 d28)(h29:FnG K "_law_all" D8 f29 d29)(h30:FnG K "_law_text_of" Jca f30 d30)(h31:FnG K "_law_entries" Jaz f31 d31)(h32:FnG K "law" Zn0 f32 d32)(nk_FIRST_SPOT:L2.Zf7 K Yg=true)(cl_Leaving:Cls K Zx)(mk_Leaving:MkG K Zx)(na_size_Leaving:Ef K (.ref Zx) "size"=some none)(na_behind_Leaving:Ef K (.ref Zx) "behind"=some none)(na_steps_Leaving:Ef K (.ref Zx) "steps"=some none)(hd:Jds K c Pt=true)(cl:Cls K C)(mk:MkG K C)(y_pairs:Ef K (.ref C) "pairs"=some none)(y_words_by_sign:Ef K (.ref C) "words_by_sign"=some none)(y_signs_by_word:Ef K (.ref C) "signs_by_word"=some none)(y_begun:Ef K (.ref C) "begun"=some none)(y_word_sizes:Ef K (.ref C) "word_sizes"=some none)(z:Zmg K ["len","abs","max","min","isinstance","any","range","int","bool","tuple","list","dict","sum","sorted"]=true)
   :∃fd:Ln,(∃c,Jds K c Pt=true)/\(∀(s:Ca)(v:Value),Jdk s fd ⟨[v],[]⟩ [("_law_script",v)])/\∀base:Heap,K.In base->base.Ns mainGlobals mg->Bm mg base->FnOk l.prog w K mg base CX0 10 fa fd ["_law_script"] (spLaw K Pt):=by
  let e:=hfa.symm.trans (W.mg_of X G h32.g);cases e;let T:Txt mg:=⟨Wp X G z 0 rfl,Wp X G z 1 rfl,Wp X G z 2 rfl,Wp X G z 3 rfl,Wp X G z 4 rfl,Wp X G z 5 rfl,Wp X G z 6 rfl,Wp X G z 7 rfl,Wp X G z 8 rfl,Wp X G z 9 rfl,Wp X G z 10 rfl,Wp X G z 11 rfl,Wp X G z 12 rfl,Wp X G z 13 rfl⟩;let CT:CodeT K C:=⟨cl,y_pairs,y_words_by_sign,y_signs_by_word,y_begun,y_word_sizes⟩;let F9:=Zii (st:=Zz) l9 c9 k9;let b9:=F9.binds (ps:=["self","table"]) λ_ _ _ _ _ _=>us2 λ_ _=>rfl;let bl:∀(s:Ca)(v:Value),Jdk s d32 ⟨[v],[]⟩ [("_law_script",v)]:=by
    let⟨_,_,_,_,_,_,_,_,_,rfl,_,_⟩:=h32.F.ex;exact λs v=>.of_eq rfl
  exists d32,⟨c,hd⟩,bl,λbase kb _ hBm=>?_;let Y:Tk l.prog w K mg base:=⟨λe=>W.mg_of X G e⟩;let hCd:=Jf2 kb hd;let Xh:=Y.m gx_FIRST_SPOT;let Ztg:=Y.m gx_Leaving;let N_FIRST_SPOT:=L2.Znp nk_FIRST_SPOT;let Zm:=X4 Y h0 (Dz T  h0.F);let Wn:=L3.Cal.imp Zm λ_ _ _ _ h=>L3.Ztf (C:=⟨C,K⟩) h;let U7:=X4 Y h1 (D3 T  h1.F);let Zc5:=L3.Cal.imp U7 λ_ _ _ _ h=>L3.Ztd (C:=⟨C,K⟩) h;let V8:=X4 Y h2 (Jcm T Zm h2.F);let Zbo:=L3.Cal.imp V8 λ_ _ _ _ h=>L3.Zpv (C:=⟨C,K⟩) h;let V5:=X4 Y h3 (Jbk (C:=C) T Wn h3.F);let V6:=X4 Y h4 (Jcq T Zm h4.F);let Zbn:=L3.Cal.imp V6 λ_ _ _ _ h=>L3.Zps (C:=⟨C,K⟩) h
  let W1:=X4 Y h5 (D2 T  h5.F);let Zc7:=X4 Y h6 (Jcd T W1 h6.F);let W0:=X4 Y h7 (Jcg T Zc7 h7.F);let V4:=X4 Y h8 (Jbd T  h8.F);let Zjk:Mkr l.prog w K mg base "Code" C 4 _ _:=⟨f9,_,⟨mk.m,a9,n9,mk.k⟩,Jbp T CT hCd hBm W0 V4 l9 c9,Y.m aC,b9⟩;let Zbl:=Zhs Y cl h10 (Jac T CT  h10.F);let Zm4:=L3.Met.imp Zbl λ_ _ _ _ h=>L3.Ztc (C:=⟨C,K⟩) h;let Zji:=Zhs Y cl h11 (Jad T CT  h11.F);let Zth:=L3.Met.imp Zji λ_ _ _ _ h=>L3.Zpu (C:=⟨C,K⟩) h;let Zjj:=Zhs Y cl h12 (Jcc T CT  h12.F);let Zti:=L3.Met.imp Zjj λ_ _ _ _ h=>L3.Zpt (C:=⟨C,K⟩) h;let Zc3:=Zhs Y cl h13 (Jcf T CT  h13.F);let Zpx:=L3.Met.imp Zc3 λ_ _ _ _ h=>L3.Zlk (C:=⟨C,K⟩) h
  let U8:=X4 Y h14 (Jaw T  h14.F);let Zc6:=L3.Cal.imp U8 λ_ _ _ _ h=>L3.Zte (C:=⟨C,K⟩) h;let V7:=X4 Y h15 (Jcj (C:=C) T Wn h15.F);let Ve:=X4 Y h16 (Jbx (C:=C) T Zm4 h16.F);let V3:=X4 Y h17 (Jap (C:=C) T Zth Zti h17.F);let V2:=X4 Y h18 (Jae (C:=C) T V3 h18.F);let Sg:=X4 Y h19 (Jcr (C:=C) T V2 Zm4 Zpx h19.F);let U6:=X4 Y h20 (Jax (C:=C) T Xh N_FIRST_SPOT Sg h20.F);let Wo:=X4 Y h21 (Jck (C:=C) T  h21.F);let Qi:=Zui Y mk_Leaving h22 (Jah T (C:=C) cl_Leaving na_size_Leaving na_behind_Leaving na_steps_Leaving Ve U6 Wo h22.F) gx_Leaving;let X5:=Zhs Y cl_Leaving h23 (Jam T (C:=C) cl_Leaving na_size_Leaving na_behind_Leaving na_steps_Leaving Xh N_FIRST_SPOT h23.F)
  let Xe:=X4 Y h24 (Jbt (C:=C) T Qi X5 h24.F);let Vf:=X4 Y h25 (D7 (C:=C) T Wn Zbo V5 V7 Zbn h25.F);let Yu:=X4 Y h26 (D0 (C:=C) T Zc6 h26.F);let Xv:=X4 Y h27 (Jbi (C:=C) T  h27.F);let Xi:=X4 Y h28 (Jce (C:=C) T Xv h28.F);let Sh:=X4 Y h29 (Jba (C:=C) T Xv Yu h29.F);let Xx:=X4 Y h30 (Jco (C:=C) T Wn h30.F);let W2:=X4 Y h31 (Jas (C:=C) T Wn Yu Xx Xi h31.F);exact(Jbh T Zjk Zc5 Vf W2 Xe Xi Sh h32.F).imp λ_ _ _ _ h=>L3.Zot (C:=⟨C,K⟩) h
def walk{l:Jge}{q:El}{loose:List Str}{XP:(Str->Option Value)->Heap->Prop}{YP:Hd->Heap->Prop}{d:DefRec}{K:Params->Ck}(hn:l.most=some 63)(hdf:d.params.defaults=[])(hY:∀(w:Hd)(h:Heap),YP w h->(K w.params).In h)(hYt:∀(w:Hd)(h:Heap),YP w h->h.get? Pt=some (Jgv #[]))(hPK:∀w:Hd,(K w.params).lookup Pt=none)(F:∀(w:Hd)(mg:Str->Option Value)(fa:Addr)(h:Heap),(K w.params).In h->h.Ns mainGlobals mg->mg d.name=some (.ref fa) ->
   ∃fd:Ln,(∃c,Jds (K w.params) c Pt=true)/\(∀(s:Ca)(u:Value),Jdk s fd ⟨[u],[]⟩ [("_law_script",u)])/\∀base:Heap,(K w.params).In base->base.Ns mainGlobals mg->Bm mg base->FnOk l.prog w (K w.params) mg base CX0 10 fa fd ["_law_script"] (spLaw (K w.params) Pt)) :
  W.WalkO q loose XP YP l.row.toRowW d [] (λf vs=>Jfp f vs) :=
 L2.Zjo (n:=63) (k:=10) (x:="_law_script") (CX:=λ_=>CX0) (sp:=λw=>spLaw (K w.params) Pt) hn nofun hdf ⟨rfl,nofun,nofun⟩ hY hYt hPK F (λ_ _ a ns hl hO hS=>⟨a,ns,rfl,hS,hl,hO.tab _ _,λ_=>rfl⟩) λ_ _ _ _ _ z=>z
end K71
namespace PySem.W.Fast
def tw15748721174191494071:=0
def tw14765401618127678013:=0
def tw6031346004652291087:=0
def tw11430377695200732094:=0
def tw11885440486607371452:=0
def tw13271918993257353899:=0
def tw1222060415809369310:=0
def tw16123642888469493080:=0
def tw6513914485676380123:=0
def tw13053665704756503144:=0
def tw14761344564010293095:=0
def tw3154451475099489093:=0
def tw16448097639297256820:=0
def tw6586749500205400386:=0
def tw1140428151819003433:=0
def tw10090871139105854878:=0
def tw3032664397966549926:=0
def tw9445138401713958118:=0
def tw16378594992166829862:=0
def tw13501760527613926722:=0
def tw11599571643740367713:=0
def tw11857033746357444744:=0
def tw4593337747043941426:=0
def tw4941722417751993898:=0
def tw6833327865639758078:=0
def tw8680225088469730655:=0
def tw3504931927287147010:=0
def tw956116201638977884:=0
def tw12391679839512623350:=0
def tw5148974327408077074:=0
def tw11492604249091788308:=0
def tw4743228852755318787:=0
def tw16432517994516544385:=0
def tw1946985179284750842:=0
def tw15043303562782697382:=0
def tw8758173473712422234:=0
def tw587999656456389620:=0
def tw3739706546388861416:=0
def tw6201952007779030079:=0
def tw5670236611742920041:=0
def tw5622632913816708156:=0
def tw11781361314293341285:=0
def tw15008218512324821872:=0
def tw5689486088812639386:=0
def tw1068410378719551431:=0
def tw16645763530351875405:=0
def tw13184085744042681519:=0
def tw16162790002779573491:=0
def tw4236297647739305171:=0
def tw14663265606183712234:=0
def tw13619543180666865271:=0
def tw10601006464670985606:=0
def tw649189828895368262:=0
def tw5951876794570733130:=0
def tw13326067624185231713:=0
def tw11182187645770896126:=0
def tw11671720972342158157:=0
def tw11413441694767283006:=0
def tw8484415648430311019:=0
def tw5493786755113188346:=0
def tw17428598688996426149:=0
def tw11861691974621790719:=0
def tw16640982822428621876:=0
def tw6014924866278192006:=0
def tw7118601801690754552:=0
def tw7854656574475474227:=0
def tw14689200548697600454:=0
def tw3265196608534650102:=0
def tw2539253921126048988:=0
def tw17452240537999552951:=0
def tw9621945451255335283:=0
def tw5840019752405345882:=0
def tw7723225563205053246:=0
def tw17971072805260906449:=0
def tw16497115731759753228:=0
def tw16193150726179715774:=0
def tw14470365400169663725:=0
def tw5606533501001229379:=0
def tw1689994161031328468:=0
def tw6988740038438942955:=0
def tw768744232821981664:=0
def tw15907671449529438151:=0
def tw8917734959414478317:=0
def tw5298752279890372905:=0
def tw6882718632964619992:=0
def tw16266111606561647854:=0
def tw10153471361197620589:=0
def tw5241495592356194239:=0
def tw5477336370749952969:=0
def tw10724881256006415190:=0
def tw3756786946702217397:=0
def tw7839713928758333238:=0
def tw14879601663986430451:=0
def tw15244114829106355984:=0
def tw18178112947749918233:=0
def tw7488496884041091519:=0
def tw12816029474067219841:=0
def tw10450903662553875308:=0
def tw1034465922438904573:=0
def tw748442609228142462:=0
def tw3812211529121501136:=0
def tw3067587723734616363:=0
def tw201314608410681914:=0
def tw11583919356192220799:=0
def tw1498348666479378122:=0
def tw2905546368676672160:=0
def tw15457766175888099220:=0
def tw5856443598284641598:=0
def tw18358242948207643419:=0
def tw5198652868231198615:=0
def tw6475309658394659971:=0
def tw11957169159396420031:=0
def tw5114339406990190841:=0
def tw7546789780920587238:=0
def tw10222717618496355820:=0
def tw15424519227933512900:=0
def tw8126519795660039535:=0
def tw7368944836682954247:=0
def tw5968028164820059094:=0
def tw3999578059162477273:=0
def tw7719498196307190087:=0
def tw12887286834902451993:=0
def tw13269881975290947508:=0
def tw18427055252951467906:=0
def tw17731630399449292459:=0
def tw1872821913064562503:=0
def tw16456887003645047290:=0
def tw4692795492579559656:=0
def tw10986728219382611738:=0
def tw12176402649847923525:=0
def tw10913763083776653535:=0
def tw9626789026849747711:=0
def tw5750427662448401677:=0
def tw5179256053118290725:=0
def tw1126890355836326007:=0
def tw442027440944427389:=0
def tw11952825865606096197:=0
def tw15987311059461558335:=0
def tw2856940535051156362:=0
def tw11676042833434414193:=0
def tw2333804847822430735:=0
def tw17421093657057342648:=0
def tw17739409952242274937:=0
def tw13403722016425331850:=0
def tw16558155738314192793:=0
def tw6744946996660516573:=0
def tw13329229636478341140:=0
def tw2095648477370990937:=0
def tw15374065553706308975:=0
def tw4854298542389407149:=0
def tw3787681504227899260:=0
def tw3720335012979091165:=0
def tw17900274940235641266:=0
def tw6287233046404816520:=0
def tw12281865324593409177:=0
def tw16126906954039717235:=0
def tw13687022987647545158:=0
def tw12301140258937085087:=0
def tw13600776731176781337:=0
def tw7139699099440435319:=0
def tw1030076461564543138:=0
def tw1183174312872618661:=0
def tw17771496081345321396:=0
def tw5322156331675024935:=0
def tw1004279830778775032:=0
def tw16453674708963531726:=0
def tw901130422093852517:=0
def tw16479312401207130247:=0
def tw14197799511998136054:=0
def tw1159043428205521660:=0
def tw628023114097741357:=0
def tw466814315094818292:=0
def tw15245237249800514736:=0
def tw7743329161524219563:=0
def tw10584812618401171630:=0
def tw1075944217026618764:=0
def tw11059425609457918318:=0
def tw4910304291126145144:=0
def tw15133742388139647214:=0
def tw11850942849316020499:=0
def tw2158355983023168722:=0
def tw14278129216231062532:=0
def tw11981057684488171044:=0
def tw10548513408288626187:=0
def tw4843372928869012849:=0
def tw1379661997596145113:=0
def tw9721231085104554963:=0
def tw1812678542576134109:=0
def tw4345595441009695570:=0
def tw7080820866275889150:=0
def tw857451059770198572:=0
def tw10191022943839819539:=0
def tw5455310081420836592:=0
def tw15698463823800359999:=0
def tw14668191539555729632:=0
def tw5259626652185757572:=0
def tw6071475675660065589:=0
def tw13102274241523866493:=0
def tw1110218613716936668:=0
def tw11554143102204059630:=0
def tw16775216383338777700:=0
def tw5048430982152615905:=0
def tw9477940946705196160:=0
def tw3145431035344551574:=0
def tw8697994883696799071:=0
def tw5795977044147881246:=0
def tw8898160334964473623:=0
def tw16901187859461227638:=0
def tw13653577071309965982:=0
def tw4211029227043445307:=0
def tw16582891143366298817:=0
def tw7558588016124789721:=0
def tw15095906163401858970:=0
def tw17766275462350181951:=0
def tw7045645317835522781:=0
def tw15286551996811051955:=0
def tw6782068957600858834:=0
def tw15739722152156091801:=0
def tw13935388301417723235:=0
def tw2639887117186585368:=0
def tw1630873829722813535:=0
def tw12286498673609526637:=0
def tw17340509275303818470:=0
def tw1041995763894865839:=0
def tw7475768139619726236:=0
def tw18055258291640159985:=0
def tw17665298828997599841:=0
def tw15425893924591342569:=0
def tw5888770958549781888:=0
def tw17998283839671451782:=0
def tw11217467747231455233:=0
def tw6544308880396446669:=0
def tw10392194789549493110:=0
def tw15192610364247951426:=0
def tw13794913811197438657:=0
def tw1484619760380099794:=0
def tw11134831486798447712:=0
def tw12272005652079355880:=0
def tw5922315677692914368:=0
def tw3450961318964820810:=0
def tw16635564848221118719:=0
def tw17585919265294752970:=0
def tw13762533164065523366:=0
def tw3296449492308242645:=0
def tw14201595503285494556:=0
def tw14855346810331105014:=0
def tw3797540571134488845:=0
def tw7967607246364807604:=0
def tw5379108427423616430:=0
def tw3790354483697105716:=0
def tw11592200894550587236:=0
def tw2266131841723579919:=0
def tw5454593164231004676:=0
def tw3441089159727686224:=0
def tw1957401935501282413:=0
def tw9192818675364136734:=0
def tw12287871697795302351:=0
def tw8683579435816353402:=0
def tw9420458810033757424:=0
def tw9818051815838634373:=0
def tw1371188252837661626:=0
def tw17525559064978256921:=0
def tw4000161855297720329:=0
def tw14371643061132659031:=0
def tw705206292781801067:=0
def tw15155033697863886943:=0
def tw14274393602592543964:=0
def tw4430225243039460366:=0
def tw17802871595073673628:=0
def tw3602515025296745495:=0
def tw922435274825195256:=0
def tw7374960525821967115:=0
def tw6229333989938097196:=0
def tw9096405384770723606:=0
def tw14279123324832335959:=0
def tw2648673723301500949:=0
def tw4252633492419932665:=0
def tw17052226771703791619:=0
def tw14321997553133613048:=0
def tw12460201984158286926:=0
def tw1012836294525312574:=0
def tw11509562754926443263:=0
def tw505116281094138753:=0
def tw1664820375335407188:=0
def tw1427966288845251665:=0
def tw14619035502552020474:=0
def tw15635738563560733368:=0
def tw9139522870803274329:=0
def tw3924788938479357968:=0
def tw17362685347240860937:=0
def tw12645803741782272771:=0
def tw6544741556345127415:=0
def tw7101863176925940016:=0
def tw3777829208293725678:=0
def tw6976634790250378286:=0
def tw7903407025369738431:=0
def tw15542103263783104926:=0
def tw15558896740092038853:=0
def tw461119842075949920:=0
def tw6558058225693572407:=0
def tw4741100649087452628:=0
def tw16592335172627439094:=0
def tw13182689763595163478:=0
end PySem.W.Fast
open PySem PySem.W PyProof.Rows
set_option maxRecDepth 100000 in
set_option maxHeartbeats 0 in
theorem PySem.Challenge.cw_skewread_k71_counted_by_all_texts_holds : PySem.Challenge.rw_skewread_k71_counted_by_all_texts.Holds := by
  w_on; o_law; k_head; (case hw=>w_witness2)
  k_fill
  refine K71.walk (l:=PySem.Challenge.rw_skewread_k71_counted_by_all_texts) rfl rfl (fun w h Y=>PySem.W.km_in_of Y) (fun w h Y=>PySem.W.km_tabs_of Y _ (by k_mem)) ?hpk ?F
  case hpk=>exact fun w=>by kernel_rfl
  case F =>
    intro w mg fa h KX G hmg
    refine' K71.all_mk KX G hmg ?aC ?gx_FIRST_SPOT ?gx_Leaving ?h0 ?h1 ?h2 ?h3 ?h4 ?h5 ?h6 ?h7 ?h8 ?a9 ?l9 ?c9 ?k9 ?n9 ?h10 ?h11 ?h12 ?h13 ?h14 ?h15 ?h16 ?h17 ?h18 ?h19 ?h20 ?h21 ?h22 ?h23 ?h24 ?h25 ?h26 ?h27 ?h28 ?h29 ?h30 ?h31 ?h32 ?nk_FIRST_SPOT ?cl_Leaving ?mk_Leaving ?na_size_Leaving ?na_behind_Leaving ?na_steps_Leaving ?hd ?cl ?mk ?y_pairs ?y_words_by_sign ?y_signs_by_word ?y_begun ?y_word_sizes ?z
    any_goals first | (refine' ⟨?g,L2.Zii ?l ?c ?k⟩; (case g=>k_is); (case l=>k_is); (case c=>k_is); case k=>k_is) | (refine' ⟨?g,?n,L2.Zii ?l ?c ?k⟩; (case g=>k_is); (case n=>k_is); (case l=>k_is); (case c=>k_is); case k=>k_is) | k_is | kernel_rfl | (first | apply L2.Cls.mk | apply L2.MkG.mk) <;> first | k_is | kernel_rfl
#print axioms PySem.Challenge.cw_skewread_k71_counted_by_all_texts_holds