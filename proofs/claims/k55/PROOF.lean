import PyProof.Rows.All
import Wide.All
import OpenK.AllK
import Wide.FinOn
import Lean
import PyProof.EqAt
import PyProof.EqKinds
import PyProof.TupleCall
import PyProof.DictItems
import KE.KPairComp
import KE.KDictList
import PyProof.ListRange
import KE.KUnpack
import KE.KEqDict
import PyProof.DictFindH
import KE.KDictSum
import PyProof.AutoListH
import PyProof.SumAny
import PyProof.Rows.Range3
import KE.KStateDown
import KE.KSortTup
import KE.KLam
import KE.KNestM
import KE.KDictOf
import PyProof.AttrMissHeap
import KE.KRevSl
import PyProof.RaisesMany
import PyProof.ExcInit
import PyProof.ExcClass2
import PyProof.RulesTry
import PyProof.PassesOwn
import OpenK.KOwn
import PyProof.RulesDel
import KE.KIsAll
import PyProof.EnumMake
import PyProof.LayNew
import PyProof.ZipIter
import PyProof.Rows.ZipGen
import KE.KIntText
import KE.KMinKey
import PyProof.SetKind
import PyProof.TupleKey
import PyProof.IsRules
import PyProof.Rows.SetFrom
import PyProof.SetRoads
import PyProof.FactsAll.set
import PySem.Challenge.RW_skewread_k55_whole_two_texts_or_the_pape
set_option Elab.async false
set_option linter.all false
set_option maxRecDepth 100000
local macro_rules | `(def $n:declId $s:optDeclSig $v:declVal)=>`(noncomputable def $n:declId $s:optDeclSig $v:declVal)
local macro_rules | `(abbrev $n:declId $s:optDeclSig $v:declVal)=>`(noncomputable abbrev $n:declId $s:optDeclSig $v:declVal)
theorem Ja:type_of% @List.length_map:=@List.length_map
theorem Jb:type_of% @List.getElem?_eq_getElem:=@List.getElem?_eq_getElem
theorem Jc:type_of% @List.length_append:=@List.length_append
theorem Jd:type_of% @List.prefix_refl:=@List.prefix_refl
theorem Je:type_of% @List.mem_singleton:=@List.mem_singleton
theorem Jf:type_of% @Nat.le_refl:=@Nat.le_refl
theorem Jg:type_of% @List.size_toArray:=@List.size_toArray
theorem Jh:type_of% @List.getElem?_eq_some_iff:=@List.getElem?_eq_some_iff
theorem Ji:type_of% @List.mem_append_right:=@List.mem_append_right
theorem Jj:type_of% @List.mem_cons_of_mem:=@List.mem_cons_of_mem
theorem Jk:type_of% @List.take_succ_eq_append_getElem:=@List.take_succ_eq_append_getElem
theorem Jl:type_of% @List.mem_cons_self:=@List.mem_cons_self
theorem Jm:type_of% @List.map_append:=@List.map_append
theorem Jn:type_of% @List.mem_append:=@List.mem_append
theorem Jo:type_of% @Bool.false_ne_true:=@Bool.false_ne_true
theorem Jp:type_of% @List.mem_map:=@List.mem_map
theorem Jq:type_of% @List.length_cons:=@List.length_cons
theorem Jr:type_of% @List.map_cons:=@List.map_cons
theorem Js:type_of% @List.getElem?_map:=@List.getElem?_map
theorem Jt:type_of% @List.append_assoc:=@List.append_assoc
theorem Ju:type_of% @List.mem_cons:=@List.mem_cons
theorem Jv:type_of% @Nat.zero_le:=@Nat.zero_le
theorem Jw:type_of% @List.mem_append_left:=@List.mem_append_left
theorem Jx:type_of% @List.getElem?_append_left:=@List.getElem?_append_left
theorem Jy:type_of% @Nat.le_trans:=@Nat.le_trans
theorem Jz:type_of% @List.length_take:=@List.length_take
theorem J8:type_of% @List.getD_eq_getElem?_getD:=@List.getD_eq_getElem?_getD
theorem J9:type_of% @List.take_length:=@List.take_length
theorem Ga:type_of% @List.append_nil:=@List.append_nil
theorem Gb:type_of% @List.mem_of_getElem?:=@List.mem_of_getElem?
theorem Gc:type_of% @List.length_pos_iff:=@List.length_pos_iff
theorem Gd:type_of% @List.getElem_of_mem:=@List.getElem_of_mem
theorem Ge:type_of% @List.getElem_mem:=@List.getElem_mem
theorem Gf:type_of% @Bool.false_eq_true:=@Bool.false_eq_true
theorem Gg:type_of% @Nat.lt_of_lt_of_le:=@Nat.lt_of_lt_of_le
theorem Gh:type_of% @List.length_drop:=@List.length_drop
theorem Gi:type_of% @Nat.ne_of_lt:=@Nat.ne_of_lt
theorem Gj:type_of% @List.mem_filter:=@List.mem_filter
theorem Gk:type_of% @List.getElem_map:=@List.getElem_map
theorem Gm:type_of% @Array.getElem?_eq_getElem:=@Array.getElem?_eq_getElem
theorem Gn:type_of% @List.map_map:=@List.map_map
theorem Go:type_of% @List.length_singleton:=@List.length_singleton
theorem Gp:type_of% @List.mem_filterMap:=@List.mem_filterMap
theorem Gq:type_of% @List.prefix_append:=@List.prefix_append
theorem Gr:type_of% @List.length_replicate:=@List.length_replicate
theorem Gs:type_of% @Int.toNat_natCast:=@Int.toNat_natCast
theorem Gu:type_of% @List.getElem?_append_right:=@List.getElem?_append_right
theorem Gv:type_of% @List.take_append_drop:=@List.take_append_drop
theorem Gw:type_of% @List.not_mem_nil:=@List.not_mem_nil
theorem Gx:type_of% @List.getElem?_set_ne:=@List.getElem?_set_ne
theorem Gy:type_of% @List.pairwise_map:=@List.pairwise_map
theorem Gz:type_of% @Array.getD_eq_getD_getElem?:=@Array.getD_eq_getD_getElem?
theorem G0:type_of% @Int.emod_lt_of_pos:=@Int.emod_lt_of_pos
theorem G1:type_of% @Int.emod_nonneg:=@Int.emod_nonneg
theorem G2:type_of% @Nat.not_lt_zero:=@Nat.not_lt_zero
theorem G3:type_of% @List.replicate_succ:=@List.replicate_succ
theorem G4:type_of% @List.mem_map_of_mem:=@List.mem_map_of_mem
theorem G5:type_of% @Int.eq_ofNat_of_zero_le:=@Int.eq_ofNat_of_zero_le
theorem G6:type_of% @List.nodup_nil:=@List.nodup_nil
theorem G7:type_of% @List.nodup_cons:=@List.nodup_cons
theorem G8:type_of% @List.take_of_length_le:=@List.take_of_length_le
theorem G9:type_of% @List.pairwise_iff_getElem:=@List.pairwise_iff_getElem
theorem Ba:type_of% @List.nodup_append:=@List.nodup_append
theorem Bb:type_of% @List.getElem?_toArray:=@List.getElem?_toArray
theorem Bc:type_of% @List.filterMap_append:=@List.filterMap_append
theorem Bd:type_of% @List.mem_range:=@List.mem_range
theorem Be:type_of% @List.length_filterMap_le:=@List.length_filterMap_le
theorem Bf:type_of% @Nat.add_sub_cancel:=@Nat.add_sub_cancel
theorem Bh:type_of% @List.getElem_inj:=@List.getElem_inj
theorem Bi:type_of% @List.lookup_cons:=@List.lookup_cons
theorem Bj:type_of% @List.all_eq_true:=@List.all_eq_true
theorem Bk:type_of% @List.mem_of_mem_take:=@List.mem_of_mem_take
theorem Bl:type_of% @List.append_cancel_left:=@List.append_cancel_left
theorem Bm:type_of% @Nat.lt_irrefl:=@Nat.lt_irrefl
theorem Bn:type_of% @List.getElem?_set_self:=@List.getElem?_set_self
theorem Bo:type_of% @List.length_range:=@List.length_range
theorem Bp:type_of% @Array.getElem?_eq_none:=@Array.getElem?_eq_none
theorem Bq:type_of% @List.append_eq_nil_iff:=@List.append_eq_nil_iff
theorem Br:type_of% @List.length_reverse:=@List.length_reverse
theorem Bs:type_of% @List.find?_cons:=@List.find?_cons
theorem Bt:type_of% @Nat.min_eq_left:=@Nat.min_eq_left
theorem Bu:type_of% @Int.le_refl:=@Int.le_refl
theorem Bv:type_of% @Array.getElem?_toList:=@Array.getElem?_toList
theorem Bw:type_of% @Option.getD_some:=@Option.getD_some
theorem Bx:type_of% @Nat.lt_succ_self:=@Nat.lt_succ_self
theorem By:type_of% @List.flatten_cons:=@List.flatten_cons
theorem Bz:type_of% @List.length_nil:=@List.length_nil
theorem B0:type_of% @List.filterMap_cons:=@List.filterMap_cons
theorem B1:type_of% @Array.length_toList:=@Array.length_toList
theorem B2:type_of% @List.getElem?_concat_length:=@List.getElem?_concat_length
theorem B3:type_of% @Bool.not_true:=@Bool.not_true
theorem B4:type_of% @List.filter_cons:=@List.filter_cons
theorem B5:type_of% @Array.perm_iff_toList_perm:=@Array.perm_iff_toList_perm
theorem B6:type_of% @List.set_append_right:=@List.set_append_right
theorem B7:type_of% @List.length_set:=@List.length_set
theorem B8:type_of% @List.reverse_cons:=@List.reverse_cons
theorem B9:type_of% @Bool.and_eq_true:=@Bool.and_eq_true
theorem Fa:type_of% @List.getElem?_cons_zero:=@List.getElem?_cons_zero
theorem Fb:type_of% @List.take_left:=@List.take_left
theorem Fc:type_of% @List.drop_length:=@List.drop_length
theorem Fd:type_of% @Nat.lt_of_le_of_lt:=@Nat.lt_of_le_of_lt
theorem Fe:type_of% @Nat.succ_pos:=@Nat.succ_pos
theorem Ff:type_of% @List.length_pos_of_mem:=@List.length_pos_of_mem
theorem Fg:type_of% @Bool.eq_iff_iff:=@Bool.eq_iff_iff
theorem Fh:type_of% @List.any_cons:=@List.any_cons
theorem Fi:type_of% @List.map_take:=@List.map_take
theorem Fj:type_of% @List.map_drop:=@List.map_drop
theorem Fk:type_of% @List.getElem?_eq_none:=@List.getElem?_eq_none
theorem Fl:type_of% @List.getElem_take:=@List.getElem_take
theorem Fm:type_of% @List.mem_of_mem_drop:=@List.mem_of_mem_drop
theorem Fn:type_of% @List.pairwise_append:=@List.pairwise_append
theorem Fo:type_of% @Nat.mul_le_mul:=@Nat.mul_le_mul
theorem Fp:type_of% @Nat.le_of_lt:=@Nat.le_of_lt
theorem Fq:type_of% @List.mem_flatMap:=@List.mem_flatMap
theorem Fs:type_of% @List.filter_sublist:=@List.filter_sublist
theorem Ft:type_of% @List.pairwise_cons:=@List.pairwise_cons
theorem Fu:type_of% @List.filter_append:=@List.filter_append
theorem Fv:type_of% @Nat.le_succ:=@Nat.le_succ
theorem Fw:type_of% @Nat.le_of_eq:=@Nat.le_of_eq
theorem Fx:type_of% @List.drop_zero:=@List.drop_zero
theorem Fy:type_of% @Nat.sub_zero:=@Nat.sub_zero
theorem Fz:type_of% @PySem.wpAny_bind:=@PySem.wpAny_bind
theorem Da:type_of% @PySem.wpAny_pure:=@PySem.wpAny_pure
theorem Db:type_of% @PySem.Heap.get?_push_of_some:=@PySem.Heap.get?_push_of_some
theorem Dc:type_of% @PySem.Heap.get?_push_size:=@PySem.Heap.get?_push_size
theorem Dd:type_of% @PySem.Heap.lt_size:=@PySem.Heap.lt_size
theorem De:type_of% @if_neg:=@if_neg
theorem Df:type_of% @if_pos:=@if_pos
theorem Dg:type_of% @decide_eq_true:=@decide_eq_true
theorem Dh:type_of% @decide_eq_false:=@decide_eq_false
theorem Di:type_of% @Option.some.inj:=@Option.some.inj
theorem Dl:type_of% @PySem.boot_len:=@PySem.boot_len
theorem Dm:type_of% @PySem.wpAny_mono:=@PySem.wpAny_mono
theorem Dn:type_of% @PySem.wpAny_letGo:=@PySem.wpAny_letGo
local macro_rules | `(tactic| rfl')=>`(tactic| refine ⟨rfl,rfl,rfl,?_,rfl,?_,?_⟩<;>decide +kernel)
local macro_rules | `(nofun)=>`(term| by decide)
local macro_rules | `(tactic| exists $es,*)=>do
 let mut a:Array (Lean.TSyntax `term):=#[]
 for e in es.getElems do
  if e.raw.isOfKind ``Lean.Parser.Term.cdot then a:=a++#[<-`(_),<-`(rfl)] else a:=a.push e
 `(tactic| refine ⟨$a,*⟩)
variable {s:PySem.Shared} {α α' fp ch:List PySem.Addr} {w:PySem.World} {A:PySem.Around} {fd:PySem.FuncData} {pq:List (PySem.Addr×PySem.Obj)} {ns r ms:List Int} {τ β κ:Type} {E:PySem.Value->PySem.Shared->Prop} {pos:PySem.Pos} {K K':PySem.W.Frag} {P prog:PySem.Program} {ws zs ks:List (List Int)} {o:PySem.Obj} {u:PySem.Value} {e tg:PySem.Expr} {h' base:PySem.Heap} {ep t' n0 mask x1 pl:Nat} {us its:List PySem.Value} {l it:PySem.Addr} {mg:PySem.Str->Option PySem.Value} {ps N T:List PySem.Str} {es elts:List PySem.Expr} {items:Array PySem.Value} {st:PySem.Stmt} {qual:PySem.Str} {lo:Int} {hi:Option Int} {cs:List Nat} {ha:Nat->Int}
namespace L2
open PySem PySem.Spec PyProof.Rows
abbrev Key:=Sum Int Str
def Zb3:Key->Value->Bool
 | .inl k,v=>Value.isInt k v
 | .inr x,v=>Value.isStrOf x v
def keyH (w:World):Key->Int
 | .inl k=>hashInt k
 | .inr x=>hashStr w x
theorem Y1:∀ {k:Key} {v:Value},Zb3 k v=true->(∃ i t,k=Sum.inl i/\v=Value.int i t)\/(∃ x t,k=Sum.inr x/\v=Value.str x t)
 | .inl i,v,h=>by
  obtain ⟨t,e⟩:=Value.isInt_shape (k:=i) (v:=v) h;exact .inl ⟨i,t,rfl,e⟩
 | .inr x,v,h=>by
  obtain ⟨t,e⟩:=Value.isStrOf_shape (x:=x) (v:=v) h;exact .inr ⟨x,t,rfl,e⟩
def Zep (i:Int) (t:Tok):Zb3 (.inl i) (.int i t)=true:=by simp [Zb3,Value.isInt]
def Zeo (x:Str) (t:Tok):Zb3 (.inr x) (.str x t)=true:=by simp [Zb3,Value.isStrOf]
def Zmo (a b:Int):decide ((Sum.inl a:Key)=Sum.inl b)=(a == b):=by
 by_cases e:a=b
 ·subst e; simp
 ·have h:¬ (Sum.inl a:Key)=Sum.inl b:=fun q=>e (Sum.inl.inj q);rw [Dh h];exact (beq_eq_false_iff_ne.mpr e).symm
def Zml (a b:Str):decide ((Sum.inr a:Key)=Sum.inr b)=decide (a=b):=by
 by_cases e:a=b
 ·subst e; simp
 ·have h:¬ (Sum.inr a:Key)=Sum.inr b:=fun q=>e (Sum.inr.inj q);rw [Dh h,Dh e]
def Zmn (a:Int) (b:Str):decide ((Sum.inl a:Key)=Sum.inr b)=false:=Dh (fun q=>nomatch q)
def Zmm (a:Str) (b:Int):decide ((Sum.inr a:Key)=Sum.inl b)=false:=Dh (fun q=>nomatch q)
def Xu (prog:Program) (w:World):PySem.KeyKind prog w Key where
 is:=Zb3
 hash:=keyH w
 inj:=fun v a b ha hb=>by
  rcases Y1 ha with ⟨i,t,rfl,rfl⟩ | ⟨x,t,rfl,rfl⟩
  ·rcases Y1 hb with ⟨j,u,rfl,e⟩ | ⟨y,u,rfl,e⟩
   ·injection e with e1 _; rw [e1]
   ·exact nomatch e
  ·rcases Y1 hb with ⟨j,u,rfl,e⟩ | ⟨y,u,rfl,e⟩
   ·exact nomatch e
   ·injection e with e1 _; rw [e1]
 byValue:=fun k v h=>by
  rcases Y1 h with ⟨i,t,rfl,rfl⟩ | ⟨x,t,rfl,rfl⟩ <;> rfl
 pyHash:=fun hv h=>by
  rcases Y1 hv with ⟨i,t,rfl,rfl⟩ | ⟨x,t,rfl,rfl⟩
  ·exact wpAny_pyHash_int h
  ·exact wpAny_pyHash_str h
 eqBool:=fun hu hv h=>by
  rcases Y1 hu with ⟨i,t,rfl,rfl⟩ | ⟨x,t,rfl,rfl⟩
  ·rcases Y1 hv with ⟨j,u,rfl,rfl⟩ | ⟨y,u,rfl,rfl⟩
   ·rw [Zmo] at h; exact wpAny_eqBool_int h
   ·rw [Zmn] at h; exact SeqAt.EqAt.int_str i t y u _ _ _ _ h
  ·rcases Y1 hv with ⟨j,u,rfl,rfl⟩ | ⟨y,u,rfl,rfl⟩
   ·rw [Zmm] at h; exact SeqAt.EqAt.str_int x t j u _ _ _ _ h
   ·rw [Zml] at h; exact wpAny_eqBool_str h
 «strs»:=fun k x t v h=>by
  rcases Y1 h with ⟨i,u,rfl,e⟩ | ⟨y,u,rfl,e⟩
  ·exact nomatch e
  ·injection e with e1 _
   subst e1;cases v <;> rfl
def Nx (prog:Program) (w:World) (i:Int) (t:Tok):(Xu prog w).is (.inl i) (.int i t)=true:=Zep i t
def Nw (prog:Program) (w:World) (x:Str) (t:Tok):(Xu prog w).is (.inr x) (.str x t)=true:=Zeo x t
inductive V where
 | non | bl (b:Bool) | int (i:Int) | str (x:Str) | byt (b:Array UInt8) | flt (b:UInt64) | ref (a:Addr) | ty (n:String)
 deriving DecidableEq
variable {v y:L2.V} {vs ys:List L2.V} {kvs:List (List L2.Key×L2.V)}
def RelV:V->Value->Prop
 | .non,u=>u=Value.none
 | .bl b,u=>u=Value.bool b
 | .int i,u=>∃ t,u=Value.int i t
 | .str x,u=>∃ t,u=Value.str x t
 | .byt b,u=>∃ t,u=Value.bytes b t
 | .flt b,u=>∃ t,u=Value.float b t
 | .ref a,u=>u=Value.ref a
 | .ty n,u=>u=Value.type n
abbrev Vals:List V->List Value->Prop:=Paired RelV
def Vals.length {xs:List V} (r:Vals xs us):xs.length=us.length:=Paired.length r
theorem Vals.get:∀ {xs:List V} {us:List Value} {i:Nat} {x:V},Vals xs us->xs[i]?=some x->∃ u,us[i]?=some u/\RelV x u
 | _,_,_,_,.nil,e=>by simp at e
 | _,_,0,_,.cons r _,e=>by simp at e; subst e;exists ·,r
 | _,_,i+1,x,.cons _ t,e=>by
  obtain ⟨u,h1,h2⟩:=Vals.get (i:=i) (x:=x) t (by simpa using e);exists u,by simpa using h1,h2
theorem Vals.set {x:V} (r:RelV x u):∀ {xs:List V} {us:List Value} (i:Nat),Vals xs us->Vals (xs.set i x) (us.set i u)
 | _,_,_,.nil=>.nil
 | _,_,0,.cons _ t=>.cons r t
 | _,_,i+1,.cons q t=>.cons q (Vals.set r i t)
theorem Vals.append:∀ {xs ys:List V} {us ws:List Value},Vals xs us->Vals ys ws->Vals (xs++ys) (us++ws):=by
 intro _ _ _ _ hz9 s;cases hz9 with
 | nil=>
  exact s
 | cons r t=>
  exact .cons r (Vals.append t s)
theorem Vals.take:∀ {xs:List V} {us:List Value} (n:Nat),Vals xs us->Vals (xs.take n) (us.take n)
 | _,_,0,_=>.nil
 | _,_,_+1,.nil=>.nil
 | _,_,n+1,.cons r t=>.cons r (Vals.take n t)
theorem Vals.drop:∀ {xs:List V} {us:List Value} (n:Nat),Vals xs us->Vals (xs.drop n) (us.drop n)
 | _,_,0,r=>r
 | _,_,_+1,.nil=>.nil
 | _,_,n+1,.cons _ t=>Vals.drop n t
def RelO:Option V->Option Value->Prop
 | some v,some u=>RelV v u
 | none,none=>True
 | _,_=>False
def KV :List (κ×V)->List (κ×Value)->Prop:=Paired fun (p:κ×V) (q:κ×Value)=>p.1=q.1/\RelV p.2 q.2
def kV:Key->V
 | .inl i=>.int i
 | .inr x=>.str x
def W1 (h:Heap) (a:Addr) (items:Array Value):Prop:=∃ o,h.get? a=some o/\o.cls=.type "tuple"/\∃ n,o.data=.seq items n/\o.dict=none
def W1.tup {h:Heap} {a:Addr} {items:Array Value} (x:W1 h a items):IsTup h a items:=let ⟨o,e,c,n,d,_⟩:=x; ⟨o,e,c,n,d⟩
def W1.new (h:Heap) (items:Array Value):W1 (h.push { cls:=.type "tuple",data:=.seq items }) h.objs.size items:=⟨_,Dc _ rfl,rfl,_,rfl,rfl⟩
def W1.lt {h:Heap} {a:Addr} (x:W1 h a items):a<h.objs.size:=let ⟨_,e,_⟩:=x; Dd e
inductive HO where
 | lst (xs:List V)
 | tup (xs:List V)
 | dK (kvs:List (Key×V)) | dT (kvs:List (List Key×V))
 | set (S:Int->Bool) (n:Nat)
 | ins (C dx:Addr) (fs:List (Str×V))
 | own (x:Addr)
 | xd (fs:List (Str×V))
 | met (f x:Addr)
 | rng (lo hi:Int)
 | frz (o:Obj) (u:HO)
 | tbl (ps:Array Value)
 | ext (φ:Heap->Prop)
abbrev Hp:=Addr->Option HO
variable {H I H' I' H1:L2.Hp}
def upd (H:Hp) (a:Addr) (o:HO):Hp:=fun b=>if b=a then some o else H b
def Zn {a:Addr} {o:HO}:upd H a o a=some o:=by unfold upd; rw [if_pos rfl]
def Z4 {a b:Addr} {o:HO} (h:b≠a):upd H a o b=H b:=by unfold upd; rw [if_neg h]
def Zjq {a b:Addr} {o u:HO} (h:H a=some o) (h':H b=some u) (d:o≠u):a≠b:=by
 intro e; subst e; rw [h] at h'; exact d (Di h')
def Zz {a b:Addr} {o:HO} (h:H a=some o) (h':H b=none):a≠b:=by
 intro e; subst e; rw [h] at h'; cases h'
section
variable (P:Program) (w:World)
def Xr (H:Hp) (h:Heap) (a:Addr):HO->Prop
 | .lst xs=>xs.length<=sizeLine/\∃ (its:List Value) (n:Nat),Vals xs its/\h.get? a=some { cls:=.type "list",data:=.seq its.toArray n }
 | .tup xs=>xs.length<=sizeLine/\∃ its:List Value,Vals xs its/\W1 h a its.toArray
 | .dK kvs=>kvs.length<=sizeLine/\(a == sysModules)=false/\∃ vs,KV kvs vs/\h.DictOf (Xu P w) a vs
 | .dT kvs=>kvs.length<=sizeLine/\(a == sysModules)=false/\∃ xs:List (List Key×Addr×Value),
   Paired (fun (p:List Key×V) (q:List Key×Addr×Value)=>p.1=q.1/\H q.2.1=some (.tup (p.1.map kV))/\RelV p.2 q.2.2) kvs xs /\
   ∃ o es ep,h.get? a=some o/\o.ExactDict/\o.data=.dict es ep/\es.toList=xs.map (entryOfKey (tupleKind (Xu P w)))/\(xs.map (·.1)).Nodup
 | .set S n=>h.SetOf (intKind P w) a S n
 | .ins C dx fs=>H dx=some (.own a)/\fs.length<=1000/\dx≠a/\h.get? a=some (W.instObj C dx) /\
   ∃ mA,h.Ns1 dx mA/\(∀ f,RelO (fs.lookup f) (mA f))/\PySem.Within mA (fs.map (·.1))
 | .own _=>∃ o,h.get? a=some o
 | .xd fs=>∃ mA,h.Ns1 a mA/\∀ f,RelO (fs.lookup f) (mA f)
 | .rng lo hi=>∃ t u v,h.get? a=some { cls:=.type "range",data:=.fields #[.int lo t,.int hi u,.int 1 v] }
 | .frz o u=>h.get? a=some o/\Xr H h a u
 | .tbl ps=>h.get? a=some { cls:=.none,data:=.fields ps }
 | .met f x=>h.get? a=some (W.methodObj (.ref f) (.ref x))
 | .ext φ=>φ h/\(∃ o,h.get? a=some o)/\∀ h1 h2:Heap,φ h1->(∀ o,h1.get? a=some o->h2.get? a=some o)->φ h2
def HOk (H:Hp) (h:Heap):Prop:=∀ a o,H a=some o->Xr P w H h a o
end
section
variable {h:Heap} {a:Addr} {o:HO}
theorem Xr.lt (x:Xr P w H h a o):a<h.objs.size:=by
 cases o with
 | lst xs=>obtain ⟨_,_,_,_,e⟩:=x; exact Dd e
 | tup xs=>obtain ⟨_,_,_,p⟩:=x; exact p.lt
 | dK kvs=>obtain ⟨_,_,_,_,o,_,_,e,_⟩:=x; exact Dd e
 | dT kvs=>obtain ⟨_,_,_,_,o,_,_,e,_⟩:=x; exact Dd e
 | set S n=>obtain ⟨o,_,_,_,e,_⟩:=x; exact Dd e
 | ins C dx fs=>obtain ⟨_,_,_,e,_⟩:=x; exact Dd e
 | own y=>obtain ⟨_,e⟩:=x; exact Dd e
 | xd fs=>obtain ⟨_,⟨_,_,_,e,_⟩,_⟩:=x; exact Dd e
 | rng lo hi=>obtain ⟨_,_,_,e⟩:=x; exact Dd e
 | frz ob u=>obtain ⟨e,_⟩:=x; exact Dd e
 | tbl ps=>exact Dd (show h.get? a=some _ from x)
 | met f y=>exact Dd (show h.get? a=some _ from x)
 | ext φ=>obtain ⟨_,⟨_,e⟩,_⟩:=x; exact Dd e
theorem Paired.mapP {α:Type} {F G:α->β->Prop}:∀ {l₁:List α} {l₂:List β},Paired F l₁ l₂->(∀ a b,F a b->G a b)->Paired G l₁ l₂
 | _,_,.nil,_=>.nil
 | _,_,.cons r t,f=>.cons (f _ _ r) (Paired.mapP t f)
theorem Xr.stay (x:Xr P w H h a o) (k:∀ b u,(b=a\/H b=some (.own a))->h.get? b=some u->h'.get? b=some u)
  (ho:∀ b,H b=some (.own a)->H' b=some (.own a)) (ht:∀ b xs,H b=some (.tup xs)->H' b=some (.tup xs)):Xr P w H' h' a o:=by
 induction o with
 | lst xs=>obtain ⟨z,its,n,r,e⟩:=x;exists z,its,n,r,k _ _ (.inl rfl) e
 | tup xs=>obtain ⟨z,its,r,ob,e,c⟩:=x;exists z,its,r,ob,k _ _ (.inl rfl) e,c
 | dK kvs=>obtain ⟨z,y,vs,r,ob,es,ep,e,c⟩:=x;exists z,y,vs,r,ob,es,ep,k _ _ (.inl rfl) e,c
 | dT kvs =>
  obtain ⟨z,y,xs,r,ob,es,ep,e,c⟩:=x;exists z,y,xs,Paired.mapP r fun p q z=>⟨z.1,ht _ _ z.2.1,z.2.2⟩,ob,es,ep,k _ _ (.inl rfl) e,c
 | set S n=>obtain ⟨ob,es,ep,t,e,c⟩:=x;exists ob,es,ep,t,k _ _ (.inl rfl) e,c
 | ins C dx fs =>
  obtain ⟨d,z,ne,e,mA,⟨od,es,ep,e2,c⟩,r⟩:=x;exists ho _ d,z,ne,k _ _ (.inl rfl) e,mA,⟨od,es,ep,k _ _ (.inr d) e2,c⟩,r
 | own y=>obtain ⟨ob,e⟩:=x;exists ob,k _ _ (.inl rfl) e
 | xd fs=>obtain ⟨mA,⟨od,es,ep,e,c⟩,r⟩:=x;exists mA,⟨od,es,ep,k _ _ (.inl rfl) e,c⟩,r
 | rng lo hi=>obtain ⟨t,u,v,e⟩:=x;exists t,u,v,k _ _ (.inl rfl) e
 | frz ob u ih=>obtain ⟨e,q⟩:=x;exists k _ _ (.inl rfl) e,ih q
 | tbl ps =>
  have e:h.get? a=some { cls:=.none,data:=.fields ps }:=x;show h'.get? a=some { cls:=.none,data:=.fields ps };exact k a _ (.inl rfl) e
 | met f y =>
  have e:h.get? a=some (W.methodObj (.ref f) (.ref y)):=x;show h'.get? a=some (W.methodObj (.ref f) (.ref y));exact k a _ (.inl rfl) e
 | ext φ=>obtain ⟨p,⟨o,e⟩,st⟩:=x;exists st _ _ p fun o q=>k _ _ (.inl rfl) q,⟨o,k _ _ (.inl rfl) e⟩,st
def HOk.lt (x:HOk P w H h) (e:H a=some o):a<h.objs.size:=(x a o e).lt
theorem HOk.fresh (x:HOk P w H h) (e:h.objs.size<=a):H a=none:=by
 cases q:H a with
 | none=>rfl
 | some u=>exact absurd (Gg (x.lt q) e) (Bm _)
def HOk.kept (x:HOk P w H h) (k:∀ b u,h.get? b=some u->h'.get? b=some u):HOk P w H h':=fun a o e =>
 (x a o e).stay (fun b u _ q=>k b u q) (fun _ q=>q) fun _ _ q=>q
def HOk.laid (x:HOk P w H h) (k:∀ b u,h.get? b=some u->h'.get? b=some u) (hp:h.objs.size<=a) (new:Xr P w (upd H a o) h' a o):HOk P w (upd H a o) h':=fun b u e=>by
 have hn:=x.fresh hp
 by_cases hb:b=a
 ·subst hb; rw [Zn] at e; cases e; exact new
 ·rw [Z4 hb] at e;exact (x b u e).stay (fun c v _ q=>k c v q) (fun c q=>by rw [Z4 (Zz q hn)]; exact q) fun c xs q=>by rw [Z4 (Zz q hn)]; exact q
end
def Rd (H:Hp) (a:Addr) (u:HO):Prop:=H a=some u\/∃ o,H a=some (.frz o u)
def Rd.ok {h:Heap} {a:Addr} {u:HO} (r:Rd H a u) (x:HOk P w H h):Xr P w H h a u:=by
 rcases r with r | ⟨o,r⟩
 ·exact x a u r
 ·obtain ⟨_,q⟩:=x a _ r;exact q
def Mut:Option HO->Prop
 | some (.lst _)=>True
 | some (.dK _)=>True
 | some (.dT _)=>True
 | some (.set _ _)=>True
 | some (.ins _ _ _)=>True
 | some (.ext _)=>True
 | _=>False
section
variable {h:Heap} {x e:Addr} {o':HO}
def HOk.write (ok:HOk P w H h) (mu:Mut (H x)) (he:e=x\/H e=some (.own x)) (k:∀ b u,b≠e->h.get? b=some u->h'.get? b=some u) (heo:∃ u,h'.get? e=some u)
  (new:Xr P w (upd H x o') h' x o'):HOk P w (upd H x o') h':=fun b u q=>by
 have nown:∀ c y,H c=some (.own y)->c≠x:=fun c y r z=>by subst z; rw [r] at mu; exact mu
 have ntup:∀ c xs,H c=some (.tup xs)->c≠x:=fun c xs r z=>by subst z; rw [r] at mu; exact mu
 by_cases hb:b=x
 ·subst hb; rw [Zn] at q; cases q; exact new
 ·rw [Z4 hb] at q
  by_cases hbe:b=e
  ·have q':H b=some (.own x):=by
    rcases he with z | z
    ·exact absurd (hbe.trans z) hb
    ·rw [hbe]; exact z
   rw [q] at q'; cases q';obtain ⟨v,hv⟩:=heo;exact ⟨v,by rw [hbe]; exact hv⟩
  ·refine (ok b u q).stay (fun c v hc r=>k c v ?_ r) (fun c r=>by rw [Z4 (nown c b r)]; exact r) fun c xs r=>by rw [Z4 (ntup c xs r)]; exact r
   rcases hc with rfl | hc
   ·exact hbe
   ·rintro rfl;rcases he with z | z
    ·exact nown c b hc z
    ·rw [hc] at z; cases z; exact hb rfl
end
structure Un (fs ex:List Addr) (H H':Hp) (h h':Heap):Prop where
 keep:∀ b o,h.get? b=some o->H b=none->b∉fs->b∉ex->h'.get? b=some o
 slot:∀ b o,h.get? b=some o->H b=none->b∈fs->b∉ex->∃ sl,h'.get? b=some { o with slots:=sl }
 free:∀ b o,h.get? b=some o->H b=none->b∉ex->H' b=none
 there:∀ b o,h.get? b=some o->b∉ex->∃ o',h'.get? b=some o'
 tups:∀ b xs,H b=some (.tup xs)->H' b=some (.tup xs)
 frzs:∀ b o u,H b=some (.frz o u)->H' b=some (.frz o u)
 tbls:∀ b ps,H b=some (.tbl ps)->∃ more,H' b=some (.tbl (ps++more))
section
variable {fs ex:List Addr} {h h1:Heap} {a x e:Addr} {o:HO}
def Un.any (u:Un fs ex H H1 h h1) {b:Addr} {ob:Obj} (q:h.get? b=some ob) (n:H b=none) (hx:b∉ex):∃ sl,h1.get? b=some { ob with slots:=sl }:=by
 by_cases hb:b∈fs
 ·exact u.slot b ob q n hb hx
 ·exists ob.slots,u.keep b ob q n hb hx
def Un.kept (k:∀ b u,h.get? b=some u->h'.get? b=some u):Un fs ex H H h h' :=
 ⟨fun b ob q _ _ _=>k b ob q,fun b ob q _ _ _=>⟨ob.slots,k b ob q⟩,fun _ _ _ n _=>n,fun b ob q _=>⟨ob,k b ob q⟩,fun _ _ q=>q,fun _ _ _ q=>q,fun _ ps q=>⟨#[],by rw [q]; simp⟩⟩
def Un.refl:Un fs ex H H h h:=Un.kept fun _ _ q=>q
def Un.laid (k:∀ b u,h.get? b=some u->h'.get? b=some u) (hp:h.objs.size<=a) (hn:H a=none):Un fs ex H (upd H a o) h h' where
 keep:=fun b u q _ _ _=>k b u q
 slot:=fun b u q _ _ _=>⟨u.slots,k b u q⟩
 free:=fun b u q n _=>by rw [Z4 (Gi (Gg (Dd q) hp))]; exact n
 there:=fun b u q _=>⟨u,k b u q⟩
 tups:=fun b xs q=>by rw [Z4 (Zz q hn)]; exact q
 frzs:=fun b u xs q=>by rw [Z4 (Zz q hn)]; exact q
 tbls:=fun b ps q=>⟨#[],by rw [Z4 (Zz q hn),q]; simp⟩
def Un.write (mu:Mut (H x)) (he:e=x\/H e=some (.own x)) (k:∀ b u,b≠e->h.get? b=some u->h'.get? b=some u) (heo:∃ u,h'.get? e=some u):Un fs ex H (upd H x o) h h':=by
 have hx:∀ b,H b=none->b≠x:=fun b n z=>by subst z; rw [n] at mu; exact mu
 have hb:∀ b,H b=none->b≠e:=fun b n z=>by
  subst z;rcases he with r | r
  ·exact hx b n r
  ·rw [n] at r; cases r
 have hm:∀ b u,H b=some u->¬ Mut (some u)->b≠x:=fun b u q nm z=>by subst z; rw [q] at mu; exact nm mu
 refine ⟨fun b u q n _ _=>k b u (hb b n) q,fun b u q n _ _=>⟨u.slots,k b u (hb b n) q⟩,fun b u q n _=>by rw [Z4 (hx b n)]; exact n,fun b u q _=>?_,
  fun b xs q=>by rw [Z4 (hm b _ q fun z=>z)]; exact q,fun b u xs q=>by rw [Z4 (hm b _ q fun z=>z)]; exact q,fun b ps q=>⟨#[],by rw [Z4 (hm b _ q fun z=>z),q]; simp⟩⟩
 by_cases hbe:b=e
 ·subst hbe; exact heo
 ·exists u,k b u hbe q
end
def trk (h:Heap) (H:Hp):List Addr:=(List.range h.objs.size).filter fun a=>(H a).isSome
def hidT (h:Heap) (H:Hp):Heap:=W.hideAll h (trk h H)
def Zew (h:Heap) (H:Hp):(hidT h H).objs.size=h.objs.size:=W.hideAll_size _ _
def Zg3 {h:Heap} {b:Addr} (e:h.get? b=some o) (n:H b=none):(hidT h H).get? b=some o :=
 W.hideAll_get _ e fun hm=>by
  have q:(H b).isSome=true:=(Gj.mp hm).2;rw [n] at q; simp at q
theorem Zjo {h:Heap} {b:Addr} (e:(hidT h H).get? b=some o):h.get? b=some o/\H b=none:=by
 have e':h.get? b=some o:=W.of_hideAll (trk h H) e;exists e',?_;cases q:H b with
 | none=>rfl
 | some x =>
  have hm:b∈trk h H:=Gj.mpr ⟨Bd.mpr (Dd e'),by simp [q]⟩;have z:(hidT h H).get? b=none:=W.hideAll_none (trk h H) hm;rw [z] at e; cases e
structure Mod (K:W.Frag) (mg:Str->Option Value) (base:Heap):Prop where
 kin:K.In base
 glob:base.Ns mainGlobals mg
 blt:∃ mb,base.Ns builtinsNs mb/\∀ x:Str,x≠"__name__"->mb x=bootBuiltins x
 nolimit:base.NoLimit
structure Cx where
 prog:Program
 w:World
 K:W.Frag
 mg:Str->Option Value
 base:Heap
 A:Around
 N:List Str
 s₀:Shared
 H₀:Hp
 env:Env
 outer:List Env
 stack:List Env
 ex:List Addr
 fn:Str->Bool
 calm:Bool
 pn:List (Addr×Obj)
 xe:Value->Shared->Prop
variable {X:L2.Cx}
def frs (l:List Env):List Addr:=l.filterMap (·.frame)
abbrev Cx.fs (X:Cx):List Addr:=frs X.outer
def Vis (sc:Scope) (x:Str):Prop:=sc.names.lookup x=some .local\/sc.names.lookup x=some .cell\/sc.names.lookup x=some .free
def Loc (sc:Scope) (x:Str):Prop:=sc.names.lookup x=some .local\/sc.names.lookup x=some .cell
def Look (env:Env) (h:Heap) (m:Str->Option Value) (x:Str) (u:Value):Prop :=
 (env.kindOf x=some .local/\m x=some u)\/((env.kindOf x=some .cell\/env.kindOf x=some .free)/\∃ c,env.cells.lookup x=some c/\h.IsCell c (some u))
structure Cx.Ok (X:Cx):Prop where
 mod:Mod X.K X.mg X.base
 kind:X.env.scope.kind=.function
 glob:X.env.globals=mainGlobals
 blt:X.env.builtins=builtinsNs
 above:X.s₀.heap.objs.size<=X.env.locals
 inj:∀ x y c,X.env.cells.lookup x=some c->X.env.cells.lookup y=some c->x=y
 has:∀ x,(X.env.kindOf x=some .cell\/X.env.kindOf x=some .free)->∃ c,X.env.cells.lookup x=some c
 cab:∀ x c,X.fn x=true->X.env.cells.lookup x=some c->X.s₀.heap.objs.size<=c
 hd:X.calm=true->X.A.handled=none
 frames:X.A.frames=some X.stack
 stk:X.stack=X.outer\/(X.stack=X.env::X.outer/\X.env.frame=some X.env.locals)
 exf:∀ b∈X.ex,b≠X.env.locals/\∀ x c,X.env.cells.lookup x=some c->c≠b
 bs:∀ b o,X.base.get? b=some o->X.s₀.heap.get? b=some o/\X.H₀ b=none
 bsz:X.base.objs.size<=X.s₀.heap.objs.size
 noex:∀ b o,X.base.get? b=some o->b∉X.ex
 exfs:∀ b∈X.ex,b∉X.fs
 funs:X.s₀.heap.FunFrames X.base X.outer
 frf:∀ b∈X.fs,X.H₀ b=none
structure Inv (X:Cx) (pq:List (Addr×Obj)) (σ:List (Option V)) (H:Hp) (s:Shared):Prop where
 ok:X.Ok
 os:s.os=X.s₀.os
 bare:AllBare s.gens
 base:Un X.fs X.ex X.H₀ H X.s₀.heap s.heap
 loc:∃ m,s.heap.Ns X.env.locals m/\∀ (i:Nat) (x:Str) (v:V),X.N[i]?=some x->σ[i]?=some (some v)->Vis X.env.scope x->∃ u,RelV v u/\Look X.env s.heap m x u
 cell:∀ x c,X.env.cells.lookup x=some c->∃ v,s.heap.IsCell c v
 free:H X.env.locals=none
 freeC:∀ x c,X.env.cells.lookup x=some c->H c=none
 pin:∀ p∈X.pn++pq,s.heap.get? p.1=some p.2/\H p.1=none/\p.1≠X.env.locals/\p.1∉X.fs/\∀ v,p.2.data≠.cell v
 hok:HOk X.prog X.w H s.heap
 len:σ.length=X.N.length
section
variable {σ:List (Option V)} 
def Cx.Ok.nofr (ok:X.Ok) {b:Addr} (e:X.base.get? b=some o):b∉X.fs:=fun hb=>by
 have:=(ok.funs.mem hb).1;rw [e] at this; cases this
def Inv.bs (I:Inv X pq σ H s):∀ b o,X.base.get? b=some o->s.heap.get? b=some o/\H b=none:=fun b o e =>
 ⟨I.base.keep b o (I.ok.bs b o e).1 (I.ok.bs b o e).2 (I.ok.nofr e) (I.ok.noex b o e),I.base.free b o (I.ok.bs b o e).1 (I.ok.bs b o e).2 (I.ok.noex b o e)⟩
def Inv.bk (I:Inv X pq σ H s):∀ b o,X.base.get? b=some o->s.heap.get? b=some o:=fun b o e=>(I.bs b o e).1
def Inv.mod (I:Inv X pq σ H s):Mod X.K X.mg X.base:=I.ok.mod
def Inv.kIn (I:Inv X pq σ H s):X.K.In s.heap:=I.ok.mod.kin.keeps I.bk
def Inv.lt (I:Inv X pq σ H s):X.env.locals<s.heap.objs.size:=let ⟨_,hn,_⟩:=I.loc; hn.lt
def Inv.sz (I:Inv X pq σ H s):X.s₀.heap.objs.size<=s.heap.objs.size:=Jy I.ok.above (Fp I.lt)
def Inv.nofs (I:Inv X pq σ H s) {a:Addr} (h:s.heap.objs.size<=a):a∉X.fs:=fun hb=>by
 obtain ⟨_,o,ho,_⟩:=I.ok.funs.mem hb;exact absurd (Gg (Dd ho) (Jy I.sz h)) (Bm _)
def Inv.cne (I:Inv X pq σ H s):∀ x c,X.env.cells.lookup x=some c->c≠X.env.locals:=fun x c e z=>by
 obtain ⟨v,o,ho,hd⟩:=I.cell x c e;obtain ⟨m,⟨o',es,ep,ho',hd',_⟩,_⟩:=I.loc;rw [z,ho'] at ho; cases ho; rw [hd'] at hd; cases hd
def Inv.funs (I:Inv X pq σ H s):s.heap.FunFrames X.base X.outer:=by
 have all:∀ (l:List Env),(∀ b∈frs l,b∈X.fs)->X.s₀.heap.FunFrames X.base l->s.heap.FunFrames X.base l:=by
  intro l
  induction l with
  | nil=>intro _ _; trivial
  | cons env r ih =>
   intro hs hl;obtain ⟨hk,⟨L,o,hf,hn,ho,hd⟩,hr⟩:=hl;have hL:L∈X.fs:=hs L (by unfold frs; rw [List.filterMap_cons,hf]; exact List.mem_cons_self);obtain ⟨sl,e⟩:=I.base.slot L o ho (I.ok.frf L hL) hL fun z=>I.ok.exfs L z hL;exists hk,⟨L,_,hf,hn,e,hd⟩,ih (fun b hb=>hs b (by unfold frs; rw [List.filterMap_cons,hf]; exact List.mem_cons_of_mem _ hb)) hr
 exact all X.outer (fun _ hb=>hb) I.ok.funs
def Inv.stack (I:Inv X pq σ H s):s.heap.FunFrames X.base X.stack:=by
 rcases I.ok.stk with e | ⟨e,hf⟩
 ·rw [e]; exact I.funs
 ·rw [e];obtain ⟨m,hn,_⟩:=I.loc;refine .cons (by rw [I.ok.kind]; decide) hf hn ?_ I.funs;exact Heap.get?_none_of_le (Jy I.ok.bsz I.ok.above)
def Inv.stkSub (I:Inv X pq σ H s):∀ b∈frs X.stack,b∈X.env.locals::X.fs:=fun b hb=>by
 rcases I.ok.stk with e | ⟨e,hf⟩
 ·rw [e] at hb; exact Jj _ hb
 ·rw [e] at hb;unfold frs at hb;rw [B0,hf] at hb;exact hb
def Inv.stkFree (I:Inv X pq σ H s):∀ b∈frs X.stack,H b=none:=fun b hb=>by
 rcases Ju.mp (I.stkSub b hb) with e | hb
 ·rw [e]; exact I.free
 ·obtain ⟨_,o,ho,_⟩:=I.ok.funs.mem hb;exact I.base.free b o ho (I.ok.frf b hb) fun z=>I.ok.exfs b z hb
def Inv.step {g':Array GenState} {d':Drawn} (I:Inv X pq σ H s)
  (hch:∀ b∈ch,(b∈X.ex\/X.s₀.heap.objs.size<=b)/\b≠X.env.locals/\(∀ x c,X.env.cells.lookup x=some c->c≠b)/\∀ p∈X.pn++pq,p.1≠b)
  (keep:∀ b o,b≠X.env.locals->b∉X.fs->b∉ch->s.heap.get? b=some o->H b=none->h'.get? b=some o)
  (slot:∀ b o,b≠X.env.locals->b∈X.fs->b∉ch->s.heap.get? b=some o->H b=none->∃ sl,h'.get? b=some { o with slots:=sl }) (free:∀ b o,b∉ch->s.heap.get? b=some o->H b=none->H' b=none)
  (there:∀ b o,b∉ch->s.heap.get? b=some o->∃ o',h'.get? b=some o')
  (tups:∀ b xs,H b=some (.tup xs)->H' b=some (.tup xs)) (frzs:∀ b o u,H b=some (.frz o u)->H' b=some (.frz o u)) (tbls:∀ b ps,H b=some (.tbl ps)->∃ more,H' b=some (.tbl (ps++more)))
  (ns:∀ m,s.heap.Ns X.env.locals m->h'.Ns X.env.locals m) (hok:HOk X.prog X.w H' h') (hg:AllBare g') :
  Inv X pq σ H' { s with heap:=h',gens:=g',drawn:=d',toks:=t' }:=by
 have neL:∀ b o,X.s₀.heap.get? b=some o->b≠X.env.locals:=fun b o e=>Gi (Gg (Dd e) I.ok.above);have neC:∀ b o,X.s₀.heap.get? b=some o->b∉X.ex->b∉ch:=fun b o e hx hb=>by
  rcases (hch b hb).1 with z | z
  ·exact hx z
  ·exact absurd (Gg (Dd e) z) (Bm _)
 have cellK:∀ x c,X.env.cells.lookup x=some c->∀ v,s.heap.IsCell c v->h'.IsCell c v:=fun x c e v ⟨o,ho,hd⟩=>by
  have nch:c∉ch:=fun z=>(hch c z).2.2.1 x c e rfl
  by_cases hc:c∈X.fs
  ·obtain ⟨sl,q⟩:=slot c o (I.cne x c e) hc nch ho (I.freeC x c e);exists _,q,hd
  ·exists o,keep c o (I.cne x c e) hc nch ho (I.freeC x c e),hd
 exists I.ok,I.os,hg,⟨fun b o e n hb hx=>?_,fun b o e n hb hx=>?_,fun b o e n hx=>?_,fun b o e hx=>?_,fun b xs e=>tups b xs (I.base.tups b xs e),fun b o xs e=>frzs b o xs (I.base.frzs b o xs e),fun b ps e=>?_⟩,?_,fun x c e=>?_,?_,fun x c e=>?_,fun p hp=>?_,hok,I.len
 ·exact keep b o (neL b o e) hb (neC b o e hx) (I.base.keep b o e n hb hx) (I.base.free b o e n hx)
 ·obtain ⟨sl,e1⟩:=I.base.slot b o e n hb hx;obtain ⟨sl',e2⟩:=slot b _ (neL b o e) hb (neC b o e hx) e1 (I.base.free b o e n hx);exists sl',e2
 ·obtain ⟨o',e1⟩:=I.base.there b o e hx;exact free b o' (neC b o e hx) e1 (I.base.free b o e n hx)
 ·obtain ⟨o',e1⟩:=I.base.there b o e hx;exact there b o' (neC b o e hx) e1
 ·obtain ⟨m1,e1⟩:=I.base.tbls b ps e;obtain ⟨m2,e2⟩:=tbls b _ e1;exact ⟨m1++m2,by rw [e2,Array.append_assoc]⟩
 ·obtain ⟨m,hn,hl⟩:=I.loc;exists m,ns m hn,fun i x v e1 e2 e3=>?_;obtain ⟨u,r,l⟩:=hl i x v e1 e2 e3;exists u,r,?_;rcases l with l | ⟨k,c,e,z⟩
  ·exact .inl l
  ·exact .inr ⟨k,c,e,cellK x c e _ z⟩
 ·obtain ⟨v,z⟩:=I.cell x c e;exists v,cellK x c e v z
 ·obtain ⟨m,⟨o,_,_,ho,_⟩,_⟩:=I.loc;exact free _ o (fun z=>(hch _ z).2.1 rfl) ho I.free
 ·obtain ⟨v,o,ho,hd⟩:=I.cell x c e;exact free c o (fun z=>(hch c z).2.2.1 x c e rfl) ho (I.freeC x c e)
 ·obtain ⟨e,n,ne,nf,d⟩:=I.pin p hp;have nch:p.1∉ch:=fun z=>(hch p.1 z).2.2.2 p hp rfl;exists keep p.1 p.2 ne nf nch e n,free p.1 p.2 nch e n,ne,nf,d
def Inv.un (I:Inv X pq σ H s) (u:Un X.fs [] H H' s.heap h') (hok:HOk X.prog X.w H' h'):Inv X pq σ H' { s with heap:=h',toks:=t' }:=by
 obtain ⟨m,⟨o,es,ep,ho,r⟩,_⟩:=id I.loc;obtain ⟨sl,hL⟩:=u.any ho I.free (by simp);exact I.step (g':=s.gens) (d':=s.drawn) (ch:=[]) (fun _ z=>nomatch z) (fun b o _ hb _ e n=>u.keep b o e n hb (by simp)) (fun b o _ hb _ e n=>u.slot b o e n hb (by simp)) (fun b o _ e n=>u.free b o e n (by simp)) (fun b o _ e=>u.there b o e (by simp)) u.tups u.frzs u.tbls (fun m' hm=>by
  obtain ⟨o',es',ep',ho',r'⟩:=hm;rw [ho] at ho'; cases ho';exact ⟨_,es',ep',hL,r'⟩) hok I.bare
def Inv.call {g':Array GenState} {d':Drawn} (I:Inv X pq σ H s) (u:Un (frs X.stack) ch H H' s.heap h') (hok:HOk X.prog X.w H' h') (hg:AllBare g')
  (hch:∀ b∈ch,(b∈X.ex\/X.s₀.heap.objs.size<=b)/\b≠X.env.locals/\(∀ x c,X.env.cells.lookup x=some c->c≠b)/\∀ p∈X.pn++pq,p.1≠b) :
  Inv X pq σ H' { s with heap:=h',gens:=g',drawn:=d',toks:=t' }:=by
 obtain ⟨m,⟨o,es,ep,ho,r⟩,_⟩:=id I.loc;obtain ⟨sl,hL⟩:=u.any ho I.free fun z=>(hch _ z).2.1 rfl;exact I.step (ch:=ch) hch (fun b o hL hb hc e n=>u.keep b o e n (fun z=>(Ju.mp (I.stkSub b z)).elim hL hb) hc) (fun b o _ _ hc e n=>u.any e n hc) (fun b o hc e n=>u.free b o e n hc) (fun b o hc e=>u.there b o e hc) u.tups u.frzs u.tbls (fun m' hm=>by
  obtain ⟨o',es',ep',ho',r'⟩:=hm;rw [ho] at ho'; cases ho';exact ⟨_,es',ep',hL,r'⟩) hok hg
def Inv.turned (I:Inv X pq σ H s) (k:∀ b o,b≠it->s.heap.get? b=some o->h'.get? b=some o) (hn:H it=none) (hL:it≠X.env.locals)
  (h1:it∈X.ex\/X.s₀.heap.objs.size<=it) (h2:∀ x c,X.env.cells.lookup x=some c->c≠it) (h3:∀ p∈X.pn++pq,p.1≠it):Inv X pq σ H { s with heap:=h',toks:=t' }:=by
 have nit:∀ b u,H b=some u->b≠it:=fun b u e z=>by rw [z,hn] at e; cases e
 refine I.step (g':=s.gens) (d':=s.drawn) (ch:=[it]) (fun b hb=>?_) (fun b o _ _ hc e _=>k b o (fun z=>hc (by simp [z])) e) (fun b o _ _ hc e _=>⟨o.slots,k b o (fun z=>hc (by simp [z])) e⟩) (fun _ _ _ _ n=>n)
  (fun b o hc e=>⟨o,k b o (fun z=>hc (by simp [z])) e⟩) (fun _ _ e=>e) (fun _ _ _ e=>e) (fun b ps e=>⟨#[],by rw [e]; simp⟩) (fun m hm=>?_) (fun b u e=>?_) I.bare
 ·have e:b=it:=by simpa using hb
  subst e;exists h1,hL,h2,h3
 ·obtain ⟨o,es,ep,ho,r⟩:=hm;exists o,es,ep,k _ o (Ne.symm hL) ho,r
 ·refine (I.hok b u e).stay (fun c v hc q=>k c v ?_ q) (fun _ q=>q) fun _ _ q=>q;rcases hc with z | z
  ·rw [z]; exact nit b u e
  ·exact nit c _ z
def Inv.tok (I:Inv X pq σ H s) (t:Nat):Inv X pq σ H { s with toks:=t }:=I.un (h':=s.heap) (t':=t) Un.refl I.hok
def Inv.kept (I:Inv X pq σ H s) (k:∀ b u,s.heap.get? b=some u->h'.get? b=some u):Inv X pq σ H { s with heap:=h',toks:=t' }:=I.un (Un.kept k) (I.hok.kept k)
def Inv.laid {a:Addr} {o:HO} (I:Inv X pq σ H s) (k:∀ b u,s.heap.get? b=some u->h'.get? b=some u) (hp:s.heap.objs.size<=a) (new:Xr X.prog X.w (upd H a o) h' a o) :
  Inv X pq σ (upd H a o) { s with heap:=h',toks:=t' }:=I.un (Un.laid k hp (I.hok.fresh hp)) (I.hok.laid k hp new)
def Inv.write {x e:Addr} {o:HO} (I:Inv X pq σ H s) (mu:Mut (H x)) (he:e=x\/H e=some (.own x)) (k:∀ b u,b≠e->s.heap.get? b=some u->h'.get? b=some u) (heo:∃ u,h'.get? e=some u)
  (new:Xr X.prog X.w (upd H x o) h' x o):Inv X pq σ (upd H x o) { s with heap:=h',toks:=t' }:=I.un (Un.write mu he k heo) (I.hok.write mu he k heo new)
def Inv.weak {σ':List (Option V)} (I:Inv X pq σ H s) (hl:σ'.length=σ.length) (w:∀ (i:Nat) v,σ'[i]?=some (some v)->σ[i]?=some (some v)):Inv X pq σ' H s :=
 ⟨I.ok,I.os,I.bare,I.base,let ⟨m,hn,hl'⟩:=I.loc; ⟨m,hn,fun i x v e1 e2 e3=>hl' i x v e1 (w i v e2) e3⟩,I.cell,I.free,I.freeC,I.pin,I.hok,hl.trans I.len⟩
def Inv.pins_of {pins':List (Addr×Obj)} (I:Inv X pq σ H s) (h:∀ p∈pins',s.heap.get? p.1=some p.2/\H p.1=none/\p.1≠X.env.locals/\p.1∉X.fs/\∀ v,p.2.data≠.cell v):Inv X pins' σ H s :=
 ⟨I.ok,I.os,I.bare,I.base,I.loc,I.cell,I.free,I.freeC,fun p hp=>(Jn.mp hp).elim (fun z=>I.pin p (Jw _ z)) (h p),I.hok,I.len⟩
def Za8 (hN:N.Nodup) {i j:Nat} {x:Str} (a:N[i]?=some x) (b:N[j]?=some x):i=j:=by
 obtain ⟨h1,e1⟩:=Jh.mp a;obtain ⟨h2,e2⟩:=Jh.mp b;exact (Bh hN).mp (e1.trans e2.symm)
def Qz {M:Model} {i:Nat} {x:Str} {Q:Unit->Shared->Prop} (I:Inv X pq σ H s) (hN:X.N.Nodup) (hi:X.N[i]?=some x) (hx:Loc X.env.scope x) (r:RelV v u)
  (h:∀ s',Inv X pq (σ.set i (some v)) H s'->(∃ a,Heap.SameBut a s.heap s'.heap/\(a=X.env.locals\/X.env.cells.lookup x=some a))->Q () s') (hf:X.fn x=true\/X.env.scope.names.lookup x=some .local:=by first | exact .inl rfl | exact .inr rfl | assumption):wpAny M A (storeName X.env x u) Q E s:=by
 obtain ⟨m,hn,hl⟩:=id I.loc;have hcls:(X.env.scope.kind == .class || (X.env.scope.kind == .module && X.env.locals != X.env.globals))=false:=by rw [I.ok.kind]; rfl
 have hiσ:i < σ.length:=by rw [I.len]; exact (Jh.mp hi).1
 have cne:=I.cne;have tracked:∀ {a:Addr} {h':Heap},(∃ o,s.heap.get? a=some o/\H a=none)->Heap.SameBut a s.heap h'->HOk X.prog X.w H h':=fun {a h'} ha hs b ob e=>by
  obtain ⟨_,_,hfree⟩:=ha;refine (I.hok b ob e).stay (fun c w' hc q=>(hs.2 c ?_).trans q) (fun _ q=>q) fun _ _ q=>q;rintro rfl;rcases hc with rfl | hc
  ·rw [hfree] at e; cases e
  ·rw [hfree] at hc; cases hc
 rcases hx with hk | hk
 ·refine wpAny_storeName_local hk hn (fun h' hn' hs=>?_) hcls;obtain ⟨oL,_,_,hoL,_⟩:=id hn;refine h _ ⟨I.ok,I.os,I.bare,⟨fun b o e n hb hx=>?_,fun b o e n hb hx=>?_,I.base.free,fun b o e hx=>?_,I.base.tups,I.base.frzs,I.base.tbls⟩,⟨_,hn',fun j y v' e1 e2 e3=>?_⟩,fun y c e=>?_,I.free,I.freeC,fun p hp=>?_,tracked ⟨oL,hoL,I.free⟩ hs,by simpa using I.len⟩ ⟨_,hs,.inl rfl⟩
  ·exact (hs.2 b (Gi (Gg (Dd e) I.ok.above))).trans (I.base.keep b o e n hb hx)
  ·obtain ⟨sl,e1⟩:=I.base.slot b o e n hb hx;exists sl,(hs.2 b (Gi (Gg (Dd e) I.ok.above))).trans e1
  ·obtain ⟨o',e1⟩:=I.base.there b o e hx;exists o',(hs.2 b (Gi (Gg (Dd e) I.ok.above))).trans e1
  ·by_cases hj:j=i
   ·subst hj;rw [hi] at e1; cases e1;rw [Bn hiσ] at e2;cases e2;exists u,r,.inl ⟨hk,by simp⟩
   ·rw [Gx (Ne.symm hj)] at e2;obtain ⟨u',r',q⟩:=hl j y v' e1 e2 e3;exists u',r',?_;rcases q with ⟨k,e⟩ | ⟨k,c,e,z⟩
    ·refine .inl ⟨k,?_⟩;have:y≠x:=fun e=>hj (Za8 hN e1 (e ▸ hi));simp [this,e]
    ·exact .inr ⟨k,c,e,z.sameBut hs (cne y c e)⟩
  ·obtain ⟨w',z⟩:=I.cell y c e;exists w',z.sameBut hs (cne y c e)
  ·obtain ⟨e,n,ne,nf,d⟩:=I.pin p hp;exists (hs.2 p.1 ne).trans e,n,ne,nf,d
 ·have hfn:X.fn x=true:=by
   rcases hf with z | z
   ·exact z
   ·rw [z] at hk; cases hk
  obtain ⟨c,hc⟩:=I.ok.has x (.inl hk);obtain ⟨w',z⟩:=I.cell x c hc;refine wpAny_storeName_cell I.ok.kind hk hc z (fun h' hc' hs=>?_);obtain ⟨oc,hoc,hocd⟩:=id z;refine h { s with heap:=h' } ⟨I.ok,I.os,I.bare,⟨fun b o e n hb hx=>?_,fun b o e n hb hx=>?_,I.base.free,fun b o e hx=>?_,I.base.tups,I.base.frzs,I.base.tbls⟩,⟨m,hn.sameBut hs (Ne.symm (cne x c hc)),fun j y v' e1 e2 e3=>?_⟩,fun y c' e=>?_,I.free,I.freeC,fun p hp=>?_,tracked ⟨oc,hoc,I.freeC x c hc⟩ hs,by simpa using I.len⟩ ⟨c,hs,.inr hc⟩
  ·exact (hs.2 b (Gi (Gg (Dd e) (I.ok.cab x c hfn hc)))).trans (I.base.keep b o e n hb hx)
  ·obtain ⟨sl,e1⟩:=I.base.slot b o e n hb hx;exists sl,(hs.2 b (Gi (Gg (Dd e) (I.ok.cab x c hfn hc)))).trans e1
  ·obtain ⟨o',e1⟩:=I.base.there b o e hx;exists o',(hs.2 b (Gi (Gg (Dd e) (I.ok.cab x c hfn hc)))).trans e1
  ·by_cases hj:j=i
   ·subst hj;rw [hi] at e1; cases e1;rw [Bn hiσ] at e2;cases e2;exists u,r,.inr ⟨.inl hk,c,hc,hc'⟩
   ·rw [Gx (Ne.symm hj)] at e2;obtain ⟨u',r',q⟩:=hl j y v' e1 e2 e3;exists u',r',?_;rcases q with q | ⟨k,c',e,z'⟩
    ·exact .inl q
    ·refine .inr ⟨k,c',e,z'.sameBut hs ?_⟩;rintro rfl;exact hj (Za8 hN e1 (I.ok.inj _ _ _ e hc ▸ hi))
  ·by_cases hcc:c'=c
   ·subst hcc;exists _,hc'
   ·obtain ⟨w2,z2⟩:=I.cell y c' e;exists w2,z2.sameBut hs hcc
  ·obtain ⟨e,n,ne,nf,d⟩:=I.pin p hp;exists (hs.2 p.1 ?_).trans e,n,ne,nf,d;intro q;rw [q,hoc] at e;have q':oc=p.2:=Di e;exact d w' (by rw [<- q']; exact hocd)
def Zam {M:Model} {i:Nat} {x:Str} {Q:Unit->Shared->Prop} (I:Inv X pq σ H s) (hN:X.N.Nodup) (hi:X.N[i]?=some x) (hx:Loc X.env.scope x) (r:RelV v u)
  (h:∀ s',Inv X pq (σ.set i (some v)) H s'->Q () s') (hf:X.fn x=true\/X.env.scope.names.lookup x=some .local:=by first | exact .inl rfl | exact .inr rfl | assumption):wpAny M A (storeName X.env x u) Q E s :=
 Qz I hN hi hx r (fun s' I' _=>h s' I') hf
def Inv.call' {s':Shared} (I:Inv X pq σ H s) (ho:s'.os=s.os) (u:Un (frs X.stack) ch H H' s.heap s'.heap) (hok:HOk X.prog X.w H' s'.heap) (hg:AllBare s'.gens)
  (hch:∀ b∈ch,(b∈X.ex\/X.s₀.heap.objs.size<=b)/\b≠X.env.locals/\(∀ x c,X.env.cells.lookup x=some c->c≠b)/\∀ p∈X.pn++pq,p.1≠b):Inv X pq σ H' s':=by
 obtain ⟨h',g',d',t',o'⟩:=s';have e:o'=s.os:=ho;subst e;exact I.call (g':=g') (t':=t') (d':=d') u hok hg hch
end
abbrev XK:=Value->Option Addr->Hp->Prop
abbrev St:=List (Option V)
variable {σ:L2.St}
abbrev VK:=V->Hp->Prop
variable {Q:L2.VK}
abbrev TE:=St->Hp->VK->Prop
variable {te ta tb ti:L2.TE}
abbrev TT:=St->Hp->(Bool->Hp->Prop)->Prop
abbrev TA:=St->Hp->(List V->Hp->Prop)->Prop
structure Ends where
 nx:St->Hp->Prop
 rt:VK
 bk:St->Hp->Prop:=fun _ _=>False
 ct:St->Hp->Prop:=fun _ _=>False
abbrev TS:=Ends->St->Hp->Prop
def EP (X:Cx) (pq:List (Addr×Obj)) (σ:St) (Q:VK) (u:Value) (s':Shared):Prop:=∃ v H',Inv X pq σ H' s'/\RelV v u/\Q v H'
def TP (X:Cx) (pq:List (Addr×Obj)) (σ:St) (Q:Bool->Hp->Prop) (b:Bool) (s':Shared):Prop:=∃ H',Inv X pq σ H' s'/\Q b H'
def AP (X:Cx) (pq:List (Addr×Obj)) (σ:St) (Q:List V->Hp->Prop) (us:List Value) (s':Shared):Prop:=∃ vs H',Inv X pq σ H' s'/\Vals vs us/\Q vs H'
def SP (X:Cx) (pq:List (Addr×Obj)) (D:Ends) (f:Flow) (s':Shared):Prop :=
 match f with
 | .next=>∃ σ' H',Inv X pq σ' H' s'/\D.nx σ' H'
 | .brk=>∃ σ' H',Inv X pq σ' H' s'/\D.bk σ' H'
 | .cont=>∃ σ' H',Inv X pq σ' H' s'/\D.ct σ' H'
 | .ret u=>∃ v σ' H',Inv X pq σ' H' s'/\RelV v u/\D.rt v H'
def PE (X:Cx) (e:Expr) (t:TE):Prop :=
 ∀ (pq:List (Addr×Obj)) (s:Shared) (σ:St) (H:Hp) (Q:VK),Inv X pq σ H s->t σ H Q->wpAny (model X.prog X.w) X.A (eval e X.env) (EP X pq σ Q) X.xe s
def PT (X:Cx) (e:Expr) (t:TT):Prop :=
 ∀ (pq:List (Addr×Obj)) (s:Shared) (σ:St) (H:Hp) (Q:Bool->Hp->Prop),Inv X pq σ H s->t σ H Q->wpAny (model X.prog X.w) X.A (isTrue e X.env (eval e X.env)) (TP X pq σ Q) X.xe s
def PW (X:Cx) (e:Expr) (t:TT):Prop :=
 ∀ (whole:Sem Value) (pq:List (Addr×Obj)) (s:Shared) (σ:St) (H:Hp) (Q:Bool->Hp->Prop),Inv X pq σ H s->t σ H Q->wpAny (model X.prog X.w) X.A (isTrue e X.env whole) (TP X pq σ Q) X.xe s
def PW.pt {t:TT} (h:PW X e t):PT X e t:=h _
def PA (X:Cx) (es:List Expr) (t:TA):Prop :=
 ∀ (pos:Pos) (pq:List (Addr×Obj)) (s:Shared) (σ:St) (H:Hp) (Q:List V->Hp->Prop),Inv X pq σ H s->t σ H Q->wpAny (model X.prog X.w) X.A (spliced (backTo pos (starEach es X.env))) (AP X pq σ Q) X.xe s
def PS (X:Cx) (st:Stmt) (t:TS):Prop :=
 ∀ (pq:List (Addr×Obj)) (s:Shared) (σ:St) (H:Hp) (D:Ends),Inv X pq σ H s->t D σ H->wpAny (model X.prog X.w) X.A (exec st X.env) (SP X pq D) X.xe s
def PSs (X:Cx) (st:List Stmt) (t:TS):Prop :=
 ∀ (pq:List (Addr×Obj)) (s:Shared) (σ:St) (H:Hp) (D:Ends),Inv X pq σ H s->t D σ H->wpAny (model X.prog X.w) X.A (execs st X.env) (SP X pq D) X.xe s
def thn {α:Type} {t:Sem α} {Q Q':α->Shared->Prop} {M:Model} (h:wpAny M A t Q E s) (hQ:∀ a s,Q a s->Q' a s):wpAny M A t Q' E s:=Dm h hQ fun _ _ x=>x
section
def tVar (i:Nat):TE:=fun σ H Q=>∃ v,σ[i]?=some (some v)/\Q v H
def tC (v:V):TE:=fun _ H Q=>Q v H
def Zl4 {i:Nat} {x:Str} (hN:X.N[i]?=some x) (hv:Vis X.env.scope x) (hd:(x == ("__debug__":Str))=false:=by decide) (hcd:(x == ("__classdict__":Str))=false:=by decide):PE X (.Name x pos) (tVar i):=by
 intro pq s σ H Q I h;obtain ⟨v,e,h⟩:=h;obtain ⟨m,hn,hl⟩:=I.loc;obtain ⟨u,r,l⟩:=hl i x v hN e hv;have fin:EP X pq σ Q u s:=⟨v,H,I,r,h⟩;rcases l with ⟨hk,hm⟩ | ⟨hk,c,hc,hcell⟩
 ·exact wpAny_Name (wpAny_loadName_local I.ok.kind hk hn hm fin) hd
 ·rcases hk with hk | hk
  ·exact wpAny_Name (wpAny_loadName_cell I.ok.kind hk hc hcell fin) hd
  ·exact wpAny_Name (wpAny_loadName_free I.ok.kind hk hc hcell fin hcd) hd
def Zg {i j pos}:PE X (.Constant (.int i) j pos) (tC (.int i)):=fun _ _ _ H _ I h=>wpAny_Constant_int ⟨.int i,H,I.tok _,⟨_,rfl⟩,h⟩
def W6 {b j pos}:PE X (.Constant (.bool b) j pos) (tC (.bl b)):=fun _ _ _ H _ I h=>Constant_bool ⟨.bl b,H,I,rfl,h⟩
def Zd4 {j pos}:PE X (.Constant .none j pos) (tC .non):=fun _ _ _ H _ I h=>Constant_none ⟨.non,H,I,rfl,h⟩
def Gl (X:Cx) (x:Str):Prop:=X.env.kindOf x=some .globalImplicit
def Zjv {x:Str} {Q:Value->Shared->Prop} (I:Inv X pq σ H s) (hg:Gl X x) (hm:X.mg x=some u) (h:Q u s)
  (hd:(x == ("__debug__":Str))=false:=by decide):wpAny (model X.prog X.w) X.A (eval (.Name x pos) X.env) Q E s :=
 Calls.Name_function_global I.ok.kind hg (Calls.loadGlobal_global (by rw [I.ok.glob]; exact I.mod.glob.keeps I.bk) hm h) hd
def Sq {x:Str} {Q:Value->Shared->Prop} (I:Inv X pq σ H s) (hg:Gl X x) (hm:X.mg x=none) (hv:bootBuiltins x=some u) (h:Q u s)
  (hn:x≠"__name__":=by decide) (hd:(x == ("__debug__":Str))=false:=by decide):wpAny (model X.prog X.w) X.A (eval (.Name x pos) X.env) Q E s:=by
 obtain ⟨mb,h1,h2⟩:=I.mod.blt;exact Calls.Name_function_global I.ok.kind hg (Calls.loadGlobal_builtin (by rw [I.ok.glob]; exact I.mod.glob.keeps I.bk) hm (by rw [I.ok.blt]; exact h1.keeps I.bk) ((h2 x hn).trans hv) h) hd
def Si {x:Str} (hg:Gl X x) (hm:X.mg x=none) (hv:bootBuiltins x=some u) (r:RelV v u) (hn:x≠"__name__":=by decide) (hd:(x == ("__debug__":Str))=false:=by decide):PE X (.Name x pos) (tC v) :=
 fun _ _ _ H _ I h=>Sq I hg hm hv ⟨v,H,I,r,h⟩ hn hd
variable {a b:Expr} 
def PC (X:Cx) (op:CmpOp) (a b:Expr) (t:TE):Prop :=
 ∀ (pq:List (Addr×Obj)) (s:Shared) (σ:St) (H:Hp) (Q:VK),Inv X pq σ H s->t σ H Q ->
  wpAny (model X.prog X.w) X.A (eval a X.env) (fun v s₁=>wpAny (model X.prog X.w) X.A (eval b X.env) (fun u s₂=>wpAny (model X.prog X.w) X.A (compareOp op v u) (EP X pq σ Q) X.xe s₂) X.xe s₁) X.xe s
def Zgs (b:Expr) {op:CmpOp} (h:op≠.In) (h2:op≠.NotIn):behindInMarks op b=false:=by
 have e1:(op == CmpOp.In)=false:=by cases op <;> first | rfl | exact absurd rfl h
 have e2:(op == CmpOp.NotIn)=false:=by cases op <;> first | rfl | exact absurd rfl h2
 cases b <;> simp [behindInMarks,e1,e2]
def tIsN (ta:TE):TE:=fun σ H Q=>ta σ H fun x H1=>Q (.bl (decide (x=.non))) H1
def Zk9 (ta:TE):TE:=fun σ H Q=>ta σ H fun x H1=>Q (.bl (!decide (x=.non))) H1
theorem RelV.none_iff {x:V} {v:Value} (r:RelV x v):(v == Value.none)=decide (x=.non):=by
 cases x with
 | non=>cases r; rfl
 | bl _=>cases r; rfl
 | int _=>obtain ⟨t,rfl⟩:=r; rfl
 | str _=>obtain ⟨t,rfl⟩:=r; rfl
 | byt _=>obtain ⟨t,rfl⟩:=r; rfl
 | flt _=>obtain ⟨t,rfl⟩:=r; rfl
 | ref _=>cases r; rfl
 | ty _=>cases r; rfl
def Zl6 {j pos'} (ha:PE X a ta):PC X .Is a (.Constant .none j pos') (tIsN ta):=by
 intro pq s σ H Q I h;refine thn (ha pq s σ H _ I h) fun v s1 hz=>?_;obtain ⟨x,H1,I1,r1,q1⟩:=hz;exact Constant_none (is_none_gen ⟨.bl _,H1,I1,by rw [r1.none_iff]; rfl,q1⟩)
def Rv {j pos'} (ha:PE X a ta):PC X .IsNot a (.Constant .none j pos') (Zk9 ta):=by
 intro pq s σ H Q I h;refine thn (ha pq s σ H _ I h) fun v s1 hz=>?_;obtain ⟨x,H1,I1,r1,q1⟩:=hz;exact Constant_none (isnot_none_gen ⟨.bl _,H1,I1,by rw [r1.none_iff]; rfl,q1⟩)
def tB (t:TE):TT:=fun σ H Q=>t σ H fun x H1=>∃ c,x=.bl c/\Q c H1
def Sh {op:CmpOp} {t:TE} (h:PC X op a b t) (h1:behindInMarks op b=false:=by first | exact Zgs _ nofun nofun | rfl):PT X (.Compare a [op] [b] pos) (tB t):=by
 intro pq s σ H Q I hw;refine wpAny_isTrue_Compare1 (thn (h pq s σ H _ I hw) fun v s1 h1=>thn h1 fun u s2 h2=>thn h2 fun c s3 hz=>?_) h1;obtain ⟨x,H1,I1,r1,q1⟩:=hz;obtain ⟨d,rfl,q⟩:=q1;cases r1;exact wpAny_truthy_bool ⟨H1,I1,q⟩
def Tt {t:TE} (h:PE X e t) (he:∀ whole,isTrue e X.env whole=(do let v <- whole; standAt e.pos; holding [v] (truthy v)):=by intro _; rfl):PT X e (tB t):=by
 intro pq s σ H Q I hw;refine isTrue_plain (thn (h pq s σ H _ I hw) fun v s1 hz=>?_) (he _);obtain ⟨x,H1,I1,r1,q1⟩:=hz;obtain ⟨d,rfl,q⟩:=q1;cases r1;exact wpAny_truthy_bool ⟨H1,I1,q⟩
variable {tA tB':TT} {rest:List Expr}
def tAnd (t u:TT):TT:=fun σ H Q=>t σ H fun c H1=>if c=true then u σ H1 Q else Q false H1
def tOr (t u:TT):TT:=fun σ H Q=>t σ H fun c H1=>if c=true then Q true H1 else u σ H1 Q
def tNot (t:TT):TT:=fun σ H Q=>t σ H fun c H1=>Q (!c) H1
theorem Zdu (ha:PT X a tA):PW X (.BoolOp .And [a] pos) tA:=by
 intro wh pq s σ H Q I h;refine isTrue_and (thn (ha pq s σ H Q I h) fun c s1 e=>?_);cases c with
 | true=>exact isTrue_and_nil e
 | false=>exact e
theorem Ra (ha:PT X a tA):PW X (.BoolOp .Or [a] pos) tA:=by
 intro wh pq s σ H Q I h;refine isTrue_or (thn (ha pq s σ H Q I h) fun c s1 e=>?_);cases c with
 | false=>exact isTrue_or_nil e
 | true=>exact e
theorem Zh0 (ha:PT X a tA) (hb:PW X (.BoolOp .And (b::rest) pos) tB'):PW X (.BoolOp .And (a::b::rest) pos) (tAnd tA tB'):=by
 intro wh pq s σ H Q I h;refine isTrue_and (thn (ha pq s σ H _ I h) fun c s1 hz=>?_);obtain ⟨H1,I1,q1⟩:=hz;cases c with
 | true=>exact hb wh pq s1 σ H1 Q I1 q1
 | false=>exact ⟨H1,I1,q1⟩
theorem Rt (ha:PT X a tA) (hb:PW X (.BoolOp .Or (b::rest) pos) tB'):PW X (.BoolOp .Or (a::b::rest) pos) (tOr tA tB'):=by
 intro wh pq s σ H Q I h;refine isTrue_or (thn (ha pq s σ H _ I h) fun c s1 hz=>?_);obtain ⟨H1,I1,q1⟩:=hz;cases c with
 | true=>exact ⟨H1,I1,q1⟩
 | false=>exact hb wh pq s1 σ H1 Q I1 q1
def Tu (ha:PT X a tA):PT X (.UnaryOp .Not a pos) (tNot tA):=by
 intro pq s σ H Q I h;exact isTrue_not (ha pq s σ H (fun c H1=>Q (!c) H1) I h)
def Zld (ta tb:TE):TE:=fun σ H Q=>ta σ H fun x H1=>∃ c,x=.bl c/\if c=true then tb σ H1 Q else Q (.bl false) H1
def Zk8 (ta:TE):TE:=fun σ H Q=>ta σ H fun x H1=>∃ c,x=.bl c/\Q (.bl (!c)) H1
def Zd3 {op} {t:TE} (h:PE X a t):PE X (.BoolOp op [a] pos) t:=fun pq s σ H Q I hw=>BoolOp_one (h pq s σ H Q I hw)
theorem Zd5 (ha:PE X a ta) (hb:PE X (.BoolOp .And (b::rest) pos) tb):PE X (.BoolOp .And (a::b::rest) pos) (Zld ta tb):=by
 intro pq s σ H Q I h;refine BoolOp_and (thn (ha pq s σ H _ I h) fun v s1 hz=>?_);obtain ⟨x,H1,I1,r1,q1⟩:=hz;obtain ⟨c,rfl,q1⟩:=q1;cases r1;refine wpAny_truthy_bool ?_;cases c with
 | true=>exact hb pq s1 σ H1 Q I1 q1
 | false=>exact ⟨.bl false,H1,I1,rfl,q1⟩
def Zl5 (ha:PE X a ta):PE X (.UnaryOp .Not a pos) (Zk8 ta):=by
 intro pq s σ H Q I h;refine UnaryOp_ (thn (ha pq s σ H _ I h) fun v s1 hz=>?_);obtain ⟨x,H1,I1,r1,q1⟩:=hz;obtain ⟨c,rfl,q1⟩:=q1;cases r1;exact not_of (wpAny_truthy_bool ⟨.bl (!c),H1,I1,rfl,q1⟩)
end
def SqL (K:W.Frag) (H:Hp) (a:Addr) (xs:List V):Prop :=
 Rd H a (.lst xs) \/
  ∃ (o:Obj) (its:Array Value) (n:Nat),K.lookup a=some o/\o.cls=.type "list"/\o.dict=none/\o.data=.seq its n/\its.size<=sizeLine/\Vals xs its.toList
def SqT (K:W.Frag) (H:Hp) (a:Addr) (xs:List V):Prop :=
 Rd H a (.tup xs) \/
  ∃ (o:Obj) (its:Array Value) (n:Nat),K.lookup a=some o/\o.cls=.type "tuple"/\o.data=.seq its n/\its.size<=sizeLine/\Vals xs its.toList
def absV:Value->Option V
 | .none=>some .non
 | .bool b=>some (.bl b)
 | .int i _=>some (.int i)
 | .str x _=>some (.str x)
 | .bytes b _=>some (.byt b)
 | .float b _=>some (.flt b)
 | .ref a=>some (.ref a)
 | .type n=>some (.ty n)
 | _=>none
theorem RelV.abs {x:V} (r:RelV x u):absV u=some x:=by
 cases x with
 | non=>cases r; rfl
 | bl _=>cases r; rfl
 | int _=>obtain ⟨t,rfl⟩:=r; rfl
 | str _=>obtain ⟨t,rfl⟩:=r; rfl
 | byt _=>obtain ⟨t,rfl⟩:=r; rfl
 | flt _=>obtain ⟨t,rfl⟩:=r; rfl
 | ref _=>cases r; rfl
 | ty _=>cases r; rfl
def RelV.inj {x:V} (r:RelV x u) (q:RelV y u):x=y:=Di (r.abs.symm.trans q.abs)
theorem Vals.inj:∀ {xs ys:List V} {us:List Value},Vals xs us->Vals ys us->xs=ys:=by
 intro _ _ _ hz9 hz8;cases hz9 with
 | nil=>
  cases hz8 with
  | nil=>
   exact rfl
 | cons r t=>
  cases hz8 with
  | cons r' t'=>
   exact by rw [r.inj r',Vals.inj t t']
section
variable {a:Addr} {xs:List V}
def SqL.of (h:H a=some (.lst xs)):SqL K H a xs:=.inl (.inl h)
def SqT.of (h:H a=some (.tup xs)):SqT K H a xs:=.inl (.inl h)
theorem Inv.list (I:Inv X pq σ H s) (h:SqL X.K H a xs):∃ its:List Value,Vals xs its/\PlainL s.heap a its.toArray/\xs.length<=sizeLine:=by
 rcases h with h | ⟨o,its,n,hk,hc,hd,hs,hz,r⟩
 ·obtain ⟨z,its,n,r,e⟩:=h.ok I.hok;exists its,r,⟨_,n,e,rfl,rfl,rfl⟩,z
 ·exists its.toList,r,⟨o,n,I.kIn a o hk,hc,hd,by simpa using hs⟩,?_;have e:=r.length;simp only [B1] at e;lia
theorem Inv.tuple (I:Inv X pq σ H s) (h:SqT X.K H a xs):∃ its:List Value,Vals xs its/\IsTup s.heap a its.toArray/\xs.length<=sizeLine:=by
 rcases h with h | ⟨o,its,n,hk,hc,hs,hz,r⟩
 ·obtain ⟨z,its,r,p⟩:=h.ok I.hok;exists its,r,p.tup,z
 ·exists its.toList,r,⟨o,I.kIn a o hk,hc,n,by simpa using hs⟩,?_;have e:=r.length;simp only [B1] at e;lia
def Inv.list_inj (I:Inv X pq σ H s) (h:SqL X.K H a xs) (h':SqL X.K H a ys):xs=ys:=by
 obtain ⟨its,r,⟨o,n,e,_,_,d⟩,_⟩:=I.list h;obtain ⟨its',r',⟨o',n',e',_,_,d'⟩,_⟩:=I.list h';rw [e] at e'; cases e';rw [d] at d';injection d' with d1 _
 have:its=its':=by simpa using congrArg Array.toList d1
 subst this;exact r.inj r'
def Inv.tuple_inj (I:Inv X pq σ H s) (h:SqT X.K H a xs) (h':SqT X.K H a ys):xs=ys:=by
 obtain ⟨its,r,⟨o,e,_,n,d⟩,_⟩:=I.tuple h;obtain ⟨its',r',⟨o',e',_,n',d'⟩,_⟩:=I.tuple h';rw [e] at e'; cases e';rw [d] at d';injection d' with d1 _
 have:its=its':=by simpa using congrArg Array.toList d1
 subst this;exact r.inj r'
end
abbrev Cx.wish (X:Cx) (E:Value->Shared->Prop):Cx:={ X with xe:=E }
abbrev Cx.nox (X:Cx):Cx:=X.wish fun _ _=>False
def Cx.Ok.wish (ok:X.Ok) (E:Value->Shared->Prop):(X.wish E).Ok :=
 ⟨ok.mod,ok.kind,ok.glob,ok.blt,ok.above,ok.inj,ok.has,ok.cab,ok.hd,ok.frames,ok.stk,ok.exf,ok.bs,ok.bsz,ok.noex,ok.exfs,ok.funs,ok.frf⟩
def Cx.Ok.unwish (ok:(X.wish E).Ok):X.Ok :=
 ⟨ok.mod,ok.kind,ok.glob,ok.blt,ok.above,ok.inj,ok.has,ok.cab,ok.hd,ok.frames,ok.stk,ok.exf,ok.bs,ok.bsz,ok.noex,ok.exfs,ok.funs,ok.frf⟩
section
def Inv.wish (I:Inv X pq σ H s) (E:Value->Shared->Prop):Inv (X.wish E) pq σ H s:=⟨I.ok.wish E,I.os,I.bare,I.base,I.loc,I.cell,I.free,I.freeC,I.pin,I.hok,I.len⟩
def Inv.unwish (I:Inv (X.wish E) pq σ H s):Inv X pq σ H s:=⟨I.ok.unwish,I.os,I.bare,I.base,I.loc,I.cell,I.free,I.freeC,I.pin,I.hok,I.len⟩
theorem SP.unwish {D:Ends} {f:Flow} {s':Shared} (h:SP (X.wish E) pq D f s'):SP X pq D f s':=by
 cases f with
 | next=>obtain ⟨σ',H',I,q⟩:=h;exists σ',H',I.unwish,q
 | brk=>obtain ⟨σ',H',I,q⟩:=h;exists σ',H',I.unwish,q
 | cont=>obtain ⟨σ',H',I,q⟩:=h;exists σ',H',I.unwish,q
 | ret u=>obtain ⟨v,σ',H',I,r,q⟩:=h;exists v,σ',H',I.unwish,r,q
def PSs.nox {st:List Stmt} {t:TS} (h:PSs X.nox st t):PSs X st t:=fun pq s σ H D I hw =>
 Dm (h pq s σ H D (I.wish _) hw) (fun _ _ q=>q.unwish) fun _ _ z=>False.elim z
end
section
variable {rest:List Stmt} {t u:TS} 
def Zla:TS:=fun D σ H=>D.nx σ H
def tSeq (t u:TS):TS:=fun D σ H=>t { D with nx:=u D } σ H
def Z0:PSs X [] Zla:=fun _ _ σ H _ I h=>wpAny_execs_nil ⟨σ,H,I,h⟩
theorem Zf (h1:PS X st t) (h2:PSs X rest u):PSs X (st::rest) (tSeq t u):=by
 intro pq s σ H D I h;refine wpAny_execs_cons (thn (h1 pq s σ H { D with nx:=u D } I h) fun f s1 q=>?_);cases f with
 | next =>
  obtain ⟨σ',H',I',q⟩:=q;exact h2 pq s1 σ' H' D I' q
 | ret v=>exact q
 | brk=>exact q
 | cont=>exact q
theorem Zi (h1:PS X st t):PSs X [st] t:=by
 intro pq s σ H D I h;refine wpAny_execs_cons (thn (h1 pq s σ H D I h) fun f s1 q=>?_);cases f with
 | next=>exact wpAny_execs_nil q
 | ret v=>exact q
 | brk=>exact q
 | cont=>exact q
def Inv.quiet (I:Inv X pq σ H s):interactive X.env=false:=by simp [interactive,I.ok.kind]
def Zlb (te:TE):TS:=fun D σ H=>te σ H fun _ H1=>D.nx σ H1
def Vk (he:PE X e te) (hs:swapsWith e none pos.line X.env=pure false:=by rfl):PS X (.Expr e pos) (Zlb te):=by
 intro pq s σ H D I h;exact wpAny_Expr_any (thn (he pq s σ H _ I h) fun v s1 ⟨x,H1,I1,r1,q1⟩=>⟨σ,H1,I1,q1⟩) I.quiet hs
def tRet (te:TE):TS:=fun D σ H=>te σ H D.rt
def Zy (he:PE X e te):PS X (.Return (some e) pos) (tRet te):=by
 intro pq s σ H D I h;exact wpAny_Return_some (thn (he pq s σ H _ I h) fun v s1 ⟨x,H1,I1,r1,q1⟩=>⟨x,σ,H1,I1,r1,q1⟩)
def tIfS (c:TT) (t u:TS):TS:=fun D σ H=>c σ H fun b H1=>if b=true then t D σ H1 else u D σ H1
theorem Y7 {c:Expr} {a b:List Stmt} {tc:TT} (hc:PT X c tc) (ha:PSs X a t) (hb:PSs X b u):PS X (.If c a b pos) (tIfS tc t u):=by
 intro pq s σ H D I h;refine wpAny_If (thn (hc pq s σ H _ I h) fun d s1 hz=>?_);obtain ⟨H1,I1,q1⟩:=hz;cases d with
 | true=>exact ha pq s1 σ H1 D I1 q1
 | false=>exact hb pq s1 σ H1 D I1 q1
end
abbrev TG:=V->St->Hp->(St->Hp->Prop)->Prop
abbrev TGs:=List V->St->Hp->(St->Hp->Prop)->Prop
def PG (X:Cx) (target:Expr) (t:TG):Prop :=
 ∀ (pq:List (Addr×Obj)) (s:Shared) (σ:St) (H:Hp) (v:V) (u:Value) (Q:St->Hp->Prop),Inv X pq σ H s->RelV v u->t v σ H Q ->
  wpAny (model X.prog X.w) X.A (assign target X.env u) (fun _ s'=>∃ σ' H',Inv X pq σ' H' s'/\Q σ' H') X.xe s
def PGs (X:Cx) (ts:List Expr) (t:TGs):Prop :=
 ∀ (pq:List (Addr×Obj)) (s:Shared) (σ:St) (H:Hp) (vs:List V) (us:List Value) (Q:St->Hp->Prop),Inv X pq σ H s->Vals vs us->t vs σ H Q ->
  wpAny (model X.prog X.w) X.A (assignInOrder ((assignEach ts X.env).map (·.2)) us) (fun _ s'=>∃ σ' H',Inv X pq σ' H' s'/\Q σ' H') X.xe s
abbrev TSet:=V->V->V->Hp->(Hp->Prop)->Prop
def PSet (X:Cx) (t:TSet):Prop :=
 ∀ (pq:List (Addr×Obj)) (s:Shared) (σ:St) (H:Hp) (o i v:V) (ov iv u:Value) (Q:Hp->Prop),Inv X pq σ H s->RelV o ov->RelV i iv->RelV v u->t o i v H Q ->
  wpAny (model X.prog X.w) X.A (setItem ov iv u) (fun _ s'=>∃ H',Inv X pq σ H' s'/\Q H') X.xe s
abbrev TIp:=V->V->Hp->VK->Prop
def PIp (X:Cx) (op:Operator) (t:TIp):Prop :=
 ∀ (pq:List (Addr×Obj)) (s:Shared) (σ:St) (H:Hp) (x y:V) (v u:Value) (Q:VK),Inv X pq σ H s->RelV x v->RelV y u->t x y H Q ->
  wpAny (model X.prog X.w) X.A (inplaceOp op v u) (EP X pq σ Q) X.xe s
section
def N3 (i:Nat):TG:=fun v σ H Q=>Q (σ.set i (some v)) H
def Zr {i:Nat} {x:Str} (hN:X.N.Nodup) (hi:X.N[i]?=some x) (hx:Loc X.env.scope x) (hf:X.fn x=true\/X.env.scope.names.lookup x=some .local:=by first | exact .inl rfl | exact .inr rfl | assumption):PG X (.Name x pos) (N3 i):=by
 intro pq s σ H v u Q I r h;exact wpAny_assign_Name (Zam I hN hi hx r (fun s' I'=>⟨_,H,I',h⟩) hf)
def gNil:TGs:=fun vs σ H Q=>vs=[]/\Q σ H
def Zj5 (t:TG) (u:TGs):TGs:=fun vs σ H Q=>∃ v r,vs=v::r/\t v σ H fun σ' H'=>u r σ' H' Q
def Wj:PGs X [] gNil:=by
 intro pq s σ H vs us Q I r h;obtain ⟨e,h⟩:=h;subst e;cases r;exact assignInOrder_nil ⟨σ,H,I,h⟩
theorem Ya {t:TG} {u:TGs} (h1:PG X e t) (h2:PGs X es u)
  (hs:(assignEach (e::es) X.env).map (·.2)=assign e X.env::(assignEach es X.env).map (·.2):=by rfl):PGs X (e::es) (Zj5 t u):=by
 intro pq s σ H vs us Q I r h;obtain ⟨v,vr,e1,h⟩:=h;subst e1;cases r with
 | cons r rr =>
  rw [hs];refine assignInOrder_cons (thn (h1 pq s σ H _ _ _ I r h) fun _ s1 hz=>?_);obtain ⟨σ1,H1,I1,q1⟩:=hz;exact h2 pq s1 σ1 H1 _ _ Q I1 rr q1
def gTup (K:W.Frag) (n:Nat) (t:TGs):TG:=fun v σ H Q=>∃ a xs,v=.ref a/\SqT K H a xs/\xs.length=n/\t xs σ H Q
def Vl {k:Nat} {t:TGs} {n:Nat} (hc:X.calm=true) (h:PGs X es t)
  (hn:(assignEach es X.env).length=n:=by rfl) (hst:(assignEach es X.env).findIdx? (·.1)=none:=by rfl):PG X (.Tuple es k pos) (gTup X.K n t):=by
 intro pq s σ H v u Q I r hw;obtain ⟨a,xs,e1,hq,hl,hw⟩:=hw;subst e1;cases r;obtain ⟨its,rv,ht,hz⟩:=I.tuple hq;refine assign_Tuple_tuple (I.ok.hd hc) ht (by simp [hn,<- hl,rv.length]) hst fun h' hx=>?_;have I1:Inv X pq σ H { s with heap:=h' }:=I.kept (t':=s.toks) fun b o e=>hx b o (Gi (Dd e)) e;exact h pq _ σ H xs _ Q I1 (by simpa using rv) hw
def gSub (to ti:TE) (t:TSet):TG:=fun v σ H Q=>to σ H fun o H1=>ti σ H1 fun i H2=>t o i v H2 fun H3=>Q σ H3
def Zd1 {o i:Expr} {to:TE} {t:TSet} (ho:PE X o to) (hi:PE X i ti) (hs:PSet X t)
  (ha:∀ v,assign (.Subscript o i pos) X.env v=(do
   let ov <- holding [v] (eval o X.env)
   let iv <- holding [v,ov] (eval i X.env)
   standAt pos
   holding [v,ov,iv] (setItem ov iv v)
   release [v,ov,iv] []):=by intro _; rfl):PG X (.Subscript o i pos) (gSub to ti t):=by
 intro pq s σ H v u Q I r h;rw [ha];refine Fz (wpAny_holding (thn (ho pq s σ H _ I h) fun ov s1 hz=>?_));obtain ⟨x,H1,I1,r1,q1⟩:=hz;refine Fz (wpAny_holding (thn (hi pq s1 σ H1 _ I1 q1) fun iv s2 hz=>?_));obtain ⟨y,H2,I2,r2,q2⟩:=hz;refine Fz (wpAny_standAt (Fz (wpAny_holding (thn (hs pq s2 σ H2 x y v ov iv u _ I2 r1 r2 r q2) fun _ s3 hz=>?_))));obtain ⟨H3,I3,q3⟩:=hz;exact wpAny_release ⟨σ,H3,I3,q3⟩
def tAsg (te:TE) (g:TG):TS:=fun D σ H=>te σ H fun x H1=>g x σ H1 D.nx
def Zdx {g:TG} (he:PE X e te) (hg:PG X tg g) (hs:swapsWithSole [tg] e pos.line X.env=pure false:=by rfl) (hw:swappedStores [tg] e X.env=pure none:=by rfl)
  (h1:(assignEach [tg] X.env).map (·.2)=[assign tg X.env]:=by rfl):PS X (.Assign [tg] e pos) (tAsg te g):=by
 intro pq s σ H D I h;refine wpAny_Assign_stores (thn (he pq s σ H _ I h) fun v s1 hz=>?_) hs hw;obtain ⟨x,H1,I1,r1,q1⟩:=hz;rw [h1];exact thn (hg pq s1 σ H1 x v _ I1 r1 q1) fun _ s2 q=>q
def Zs {i:Nat} {x:Str} {pos':Pos} (hN:X.N.Nodup) (hi:X.N[i]?=some x) (hx:Loc X.env.scope x) (he:PE X e te) (hs:swapsWith e (some (.Name x pos')) pos.line X.env=pure false:=by rfl) (hf:X.fn x=true\/X.env.scope.names.lookup x=some .local:=by first | exact .inl rfl | exact .inr rfl | assumption) :
  PS X (.Assign [.Name x pos'] e pos) (tAsg te (N3 i)):=by
 intro pq s σ H D I h;refine wpAny_Assign_Name (thn (he pq s σ H _ I h) fun v s1 hz=>?_) hs;obtain ⟨y,H1,I1,r1,q1⟩:=hz;exact Zam I1 hN hi hx r1 (fun s2 I2=>⟨_,H1,I2,q1⟩) hf
def Zlc (to ti te:TE) (tget:V->V->Hp->VK->Prop) (tip:TIp) (tset:TSet):TS:=fun D σ H=>to σ H fun o H1=>ti σ H1 fun i H2=>tget o i H2 fun x H3=>te σ H3 fun y H4=>tip x y H4 fun z H5=>tset o i z H5 fun H6=>D.nx σ H6
def PGet (X:Cx) (t:V->V->Hp->VK->Prop):Prop :=
 ∀ (pq:List (Addr×Obj)) (s:Shared) (σ:St) (H:Hp) (o i:V) (ov iv:Value) (Q:VK),Inv X pq σ H s->RelV o ov->RelV i iv->t o i H Q ->
  wpAny (model X.prog X.w) X.A (getItem ov iv) (EP X pq σ Q) X.xe s
def Zdw {o i:Expr} {to:TE} {tget:V->V->Hp->VK->Prop} {tip:TIp} {tset:TSet} {op:Operator} {tpos:Pos} (ho:PE X o to) (hi:PE X i ti) (hg:PGet X tget) (he:PE X e te) (hp:PIp X op tip) (hs:PSet X tset)
  (ha:∀ ov iv new,augStore i ov iv new=(do holding [new,ov,iv] (setItem ov iv new); release [new,ov,iv] []; pure .next):=by intros; rfl):PS X (.AugAssign (.Subscript o i tpos) op e pos) (Zlc to ti te tget tip tset):=by
 intro pq s σ H D I h;refine wpAny_AugAssign_SubscriptAny (thn (ho pq s σ H _ I h) fun ov s1 hz=>?_) ha;obtain ⟨x1,H1,I1,r1,q1⟩:=hz;refine thn (hi pq s1 σ H1 _ I1 q1) fun iv s2 hz=>?_;obtain ⟨x2,H2,I2,r2,q2⟩:=hz;refine thn (hg pq s2 σ H2 x1 x2 ov iv _ I2 r1 r2 q2) fun old s3 hz=>?_;obtain ⟨x3,H3,I3,r3,q3⟩:=hz;refine thn (he pq s3 σ H3 _ I3 q3) fun v s4 hz=>?_;obtain ⟨x4,H4,I4,r4,q4⟩:=hz;refine thn (hp pq s4 σ H4 x3 x4 old v _ I4 r3 r4 q4) fun new s5 hz=>?_;obtain ⟨x5,H5,I5,r5,q5⟩:=hz;exact thn (hs pq s5 σ H5 x1 x2 x5 ov iv new _ I5 r1 r2 r5 q5) fun _ s6 ⟨H6,I6,q6⟩=>⟨σ,H6,I6,q6⟩
def ipI (f:Int->Int->Int):TIp:=fun x y H Q=>∃ i j,x=.int i/\y=.int j/\Q (.int (f i j)) H
def Zh6:PIp X .Add (ipI fun i j=>i+j):=by
 intro pq s σ H x y v u Q I r1 r2 h;obtain ⟨i,j,e1,e2,q⟩:=h;subst e1; subst e2;obtain ⟨t,rfl⟩:=r1;obtain ⟨t',rfl⟩:=r2;exact iadd_int ⟨.int _,H,I.tok _,⟨_,rfl⟩,q⟩
end
section
def Zhn (c:TT) (tb:TS):TS:=fun D σ H=>∃ W:Nat->St->Hp->Prop,(∃ m,W m σ H)/\∀ m σ H,W m σ H ->
 c σ H fun b H1=>if b=true then ∃ N:St->Hp->Prop,(∀ σ' H',N σ' H'->∃ m',m'<m/\W m' σ' H')/\tb { D with nx:=N,ct:=N,bk:=D.nx } σ H1 else D.nx σ H1
theorem Ru {c:Expr} {body:List Stmt} {tc:TT} {tb:TS} (hp:PassesOwn (model X.prog X.w) X.A X.env X.xe) (hc:PT X c tc) (hb:PSs X body tb):PS X (.While c body [] pos) (Zhn tc tb):=by
 intro pq s σ H D I h;obtain ⟨W,⟨m0,w0⟩,turn⟩:=h;refine wpAny_While (codeAny_whileLoop (fun n s'=>∃ σ' H',Inv X pq σ' H' s'/\W n σ' H') ?_ m0 ⟨σ,H,I,w0⟩);rintro n s1 ⟨σ1,H1,I1,w1⟩;refine wpAny_passesOwn hp (thn (hc pq s1 σ1 H1 _ I1 (turn n σ1 H1 w1)) fun b s2 hz=>?_);obtain ⟨H2,I2,q2⟩:=hz;cases b with
 | true =>
  obtain ⟨N,hN,q2⟩:=q2;rw [Df rfl];refine wpAny_passesOwn hp (thn (hb pq s2 σ1 H2 _ I2 q2) fun f s3 q3=>?_);cases f with
  | next =>
   obtain ⟨σ3,H3,I3,n3⟩:=q3;obtain ⟨m',hm,w3⟩:=hN σ3 H3 n3;exists m',hm,σ3,H3,I3,w3
  | cont =>
   obtain ⟨σ3,H3,I3,n3⟩:=q3;obtain ⟨m',hm,w3⟩:=hN σ3 H3 n3;exists m',hm,σ3,H3,I3,w3
  | brk=>exact q3
  | ret v=>exact q3
 | false =>
  rw [De Jo];exact wpAny_execs_nil ⟨σ1,H2,I2,q2⟩
end
structure It where
 go:Nat->Hp->Prop
 yld:Nat->Hp->V->Hp->Prop
 stop:Nat->Hp->Prop
def FpOk (X:Cx) (pq:List (Addr×Obj)) (H:Hp) (b:Addr):Prop :=
 H b=none/\b≠X.env.locals/\b∉X.fs/\(b∈X.ex\/X.s₀.heap.objs.size<=b)/\(∀ x c,X.env.cells.lookup x=some c->c≠b)/\∀ p∈X.pn++pq,p.1≠b
def Inv.fpOk {b:Addr} (I:Inv X pq σ H s) (hb:s.heap.objs.size<=b) (hn:H' b=none):FpOk X pq H' b:=by
 exists hn,Nat.ne_of_gt (Gg I.lt hb),I.nofs hb,.inr (Jy I.sz hb),fun x c e z=>?_,fun p hp z=>?_
 ·obtain ⟨v,q⟩:=I.cell x c e;exact absurd (Gg q.lt (by rw [z]; exact hb)) (Bm _)
 ·exact absurd (Gg (Dd (I.pin p hp).1) (by rw [z]; exact hb)) (Bm _)
structure Turn (P:Program) (w:World) (K:W.Frag) (tg:Expr) (J:It) (fp:List Addr) (it:Addr) (tn:Nat->Heap->Prop):Prop where
 mem:it∈fp
 obj:∀ i h,tn i h->∀ b∈fp,∃ o,h.get? b=some o/\∀ v,o.data≠.cell v
 keep:∀ i h h',tn i h->(∀ b∈fp,∀ o,h.get? b=some o->h'.get? b=some o)->tn i h'
 item:∀ (X:Cx),X.prog=P->X.w=w->X.K=K->X.calm=true->∀ (i:Nat) (pq:List (Addr×Obj)) (s:Shared) (σ:St) (H:Hp) (E:Value->Shared->Prop),Inv X pq σ H s->(∀ b∈fp,FpOk X pq H b)->tn i s.heap->J.go i H ->
  wpAny (model P w) X.A (pyNext (.ref it)) (fun r s1=>∃ u,r=some u /\
   wpAny (model P w) X.A (letOwnedTupleGo tg (.ref it) u) (fun _ s2=>∃ x H',Inv X pq σ H' s2/\RelV x u/\J.yld i H x H'/\tn (i+1) s2.heap/\∀ b∈fp,H' b=none) E s1) E s
 done:∀ (X:Cx),X.prog=P->X.w=w->X.K=K->X.calm=true->∀ (i:Nat) (pq:List (Addr×Obj)) (s:Shared) (σ:St) (H:Hp) (E:Value->Shared->Prop),Inv X pq σ H s->(∀ b∈fp,FpOk X pq H b)->tn i s.heap->J.stop i H ->
  wpAny (model P w) X.A (pyNext (.ref it)) (fun r s1=>r=none/\Inv X pq σ H s1) E s
 self:∀ (A:Around) (i:Nat) (s:Shared) (Q:Value->Shared->Prop) (E:Value->Shared->Prop),tn i s.heap->Q (.ref it) s->wpAny (model P w) A (pyIter (.ref it)) Q E s
abbrev TI:=St->Hp->(It->Hp->Prop)->Prop
variable {wi:L2.TI}
def PIE (X:Cx) (pq:List (Addr×Obj)) (σ:St) (tg:Expr) (R:It->Hp->Prop) (itv:Value) (s2:Shared):Prop :=
 ∃ (it:Addr) (fp:List Addr) (tn:Nat->Heap->Prop) (J:It) (H':Hp),itv=.ref it/\Inv X pq σ H' s2/\Turn X.prog X.w X.K tg J fp it tn/\tn 0 s2.heap/\(∀ b∈fp,FpOk X pq H' b)/\R J H'
def PI (X:Cx) (tg iter:Expr) (wi:TI):Prop :=
 ∀ (pq:List (Addr×Obj)) (s:Shared) (σ:St) (H:Hp) (R:It->Hp->Prop),Inv X pq σ H s->wi σ H R ->
  wpAny (model X.prog X.w) X.A (eval iter X.env) (fun v s1=>wpAny (model X.prog X.w) X.A (pyIter v) (PIE X pq σ tg R) X.xe s1) X.xe s
def Zg4 {M:Model} {n:String} {vs:Array Value} {Q:Unit->Shared->Prop} (ho:s.heap.get? it=some o) (hc:o.cls=.type n) (hd:o.data=.fields vs)
    (hn:["enumerate", "zip", "dict_itemiterator", "dict_reverseitemiterator", "odict_iterator", "itertools.zip_longest", "itertools.pairwise"].contains n=false) (hQ:Q () s):wpAny M A (letOwnedTupleGo tg (.ref it) u) Q E s:=by
  unfold letOwnedTupleGo;cases tg <;> first
    | exact Da hQ
    | (cases u <;> first
        | exact Da hQ
        | (refine Fz (wpAny_load ho ?_)
           rw [hc,hd];show wpAny M A (if (["enumerate", "zip", "dict_itemiterator", "dict_reverseitemiterator", "odict_iterator", "itertools.zip_longest", "itertools.pairwise"].contains n && vs[0]? == some (rawInt _))=true then _ else _) Q E s;rw [De (by intro h; rw [hn,Bool.false_and] at h; cases h)];exact Da hQ))
def Itl (K:W.Frag) (a:Addr):It :=
 ⟨fun i H=>∃ xs x,SqL K H a xs/\xs[i]?=some x,fun i H x H'=>H'=H/\∀ xs,SqL K H a xs->xs[i]?=some x,fun i H=>∃ xs,SqL K H a xs/\xs.length<=i⟩
def Itt (K:W.Frag) (a:Addr):It :=
 ⟨fun i H=>∃ xs x,SqT K H a xs/\xs[i]?=some x,fun i H x H'=>H'=H/\∀ xs,SqT K H a xs->xs[i]?=some x,fun i H=>∃ xs,SqT K H a xs/\xs.length<=i⟩
def Itr (lo:Int) (n:Nat):It:=⟨fun i _=>i<n,fun i H x H'=>H'=H/\x=.int (lo+i),fun i _=>n<=i⟩
theorem Zcp (a it:Addr):Turn P w K tg (Itl K a) [it] it (fun i h=>h.IsListIter it a i) where
 mem:=by simp
 obj:=fun i h st b hb=>by
  have e:b=it:=by simpa using hb
  subst e;obtain ⟨o,e,c,d⟩:=st;exact ⟨o,e,fun v z=>by rw [d] at z; cases z⟩
 keep:=fun i h h' st k=>st.at fun o e=>k it (by simp) o e
 item:=by
  intro X hP hw hK hc i pq s σ H E I hf st hg;subst hP hw hK;obtain ⟨xs,x,hq,hx⟩:=hg;obtain ⟨its,rv,p,hz⟩:=I.list hq;obtain ⟨u,hu,ru⟩:=rv.get hx;obtain ⟨f0,f1,f2,f3,f4,f5⟩:=hf it (by simp);refine wpAny_pyNext_list_item st p.isList (x:=u) (by simpa using hu) fun h' st' sb=>?_;have I1:Inv X pq σ H { s with heap:=h' }:=I.turned (t':=s.toks) (fun b o hb e=>(sb.2 b hb).trans e) f0 f1 f3 f4 f5;obtain ⟨o,e,c,d⟩:=id st';exists u,rfl,Zg4 (s:={ s with heap:=h' }) e c d nofun ⟨x,H,I1,ru,⟨rfl,fun ys hy=>by rw [I.list_inj hy hq]; exact hx⟩,st',fun b hb=>(hf b hb).1⟩
 done:=by
  intro X hP hw hK hc i pq s σ H E I hf st hg;subst hP hw hK;obtain ⟨xs,hq,hx⟩:=hg;obtain ⟨its,rv,p,hz⟩:=I.list hq;obtain ⟨f0,f1,f2,f3,f4,f5⟩:=hf it (by simp);have hl:=rv.length;exact wpAny_pyNext_list_end (I.ok.hd hc) st p.isList (by simp; lia) fun h' eb=>⟨rfl,I.turned (t':=s.toks) (fun b o hb e=>eb b o hb e) f0 f1 f3 f4 f5⟩
 self:=fun _ _ _ _ _ st h=>wpAny_pyIter_listiter st h
theorem Zbu (a it:Addr):Turn P w K tg (Itt K a) [it] it (fun i h=>h.IsTupleIter it a i) where
 mem:=by simp
 obj:=fun i h st b hb=>by
  have e:b=it:=by simpa using hb
  subst e;obtain ⟨o,e,c,d⟩:=st;exact ⟨o,e,fun v z=>by rw [d] at z; cases z⟩
 keep:=fun i h h' st k=>st.at fun o e=>k it (by simp) o e
 item:=by
  intro X hP hw hK hc i pq s σ H E I hf st hg;subst hP hw hK;obtain ⟨xs,x,hq,hx⟩:=hg;obtain ⟨its,rv,p,hz⟩:=I.tuple hq;obtain ⟨u,hu,ru⟩:=rv.get hx;obtain ⟨f0,f1,f2,f3,f4,f5⟩:=hf it (by simp);refine wpAny_pyNext_tuple_item st (show s.heap.IsTuple a its.toArray from p) (x:=u) (by simpa using hu) fun h' st' sb=>?_;have I1:Inv X pq σ H { s with heap:=h' }:=I.turned (t':=s.toks) (fun b o hb e=>(sb.2 b hb).trans e) f0 f1 f3 f4 f5;obtain ⟨o,e,c,d⟩:=id st';exists u,rfl,Zg4 (s:={ s with heap:=h' }) e c d nofun ⟨x,H,I1,ru,⟨rfl,fun ys hy=>by rw [I.tuple_inj hy hq]; exact hx⟩,st',fun b hb=>(hf b hb).1⟩
 done:=by
  intro X hP hw hK hc i pq s σ H E I hf st hg;subst hP hw hK;obtain ⟨xs,hq,hx⟩:=hg;obtain ⟨its,rv,p,hz⟩:=I.tuple hq;obtain ⟨f0,f1,f2,f3,f4,f5⟩:=hf it (by simp);have hl:=rv.length;exact wpAny_pyNext_tuple_end (I.ok.hd hc) st (show s.heap.IsTuple a its.toArray from p) (by simp; lia) fun h' eb=>⟨rfl,I.turned (t':=s.toks) (fun b o hb e=>eb b o hb e) f0 f1 f3 f4 f5⟩
 self:=fun _ _ _ _ _ st h=>wpAny_pyIter_tupleiter st h
theorem Zbv (it:Addr) (lo:Int) (n:Nat):Turn P w K tg (Itr lo n) [it] it (fun i h=>IsRangeIter h it (lo+(i:Nat)*1) ((n:Int)-(i:Nat)) 1) where
 mem:=by simp
 obj:=fun i h st b hb=>by
  have e:b=it:=by simpa using hb
  subst e;exact ⟨_,st,fun v z=>by
   have z':Data.fields _=Data.cell v:=z;cases z'⟩
 keep:=fun i h h' st k=>k it (by simp) _ st
 item:=by
  intro X hP hw hK hc i pq s σ H E I hf st hg;subst hP hw hK;obtain ⟨f0,f1,f2,f3,f4,f5⟩:=hf it (by simp);have W:=Walks.range (prog:=X.prog) (w:=X.w) (I.ok.hd hc) it lo 1 n;refine W.item i s _ _ hg st fun v h' tk hv st' kk=>?_;obtain ⟨t,rfl⟩:=hv;have I1:Inv X pq σ H { s with heap:=h',toks:=tk }:=I.turned (fun b o hb e=>kk b o (by simpa using hb) e) f0 f1 f3 f4 f5;exists ·,Zg4 (s:={ s with heap:=h',toks:=tk }) (n:="range_iterator") st' rfl rfl nofun ⟨.int (lo+i),H,I1,⟨t,?_⟩,⟨rfl,rfl⟩,st',fun b hb=>(hf b hb).1⟩;rw [Int.mul_one]
 done:=by
  intro X hP hw hK hc i pq s σ H E I hf st hg;subst hP hw hK;obtain ⟨f0,f1,f2,f3,f4,f5⟩:=hf it (by simp);exact wpAny_pyNext_range_end (I.ok.hd hc) st (by have:n<=i:=hg; lia) fun h' eb=>⟨rfl,I.turned (t':=s.toks) (fun b o hb e=>eb b o hb e) f0 f1 f3 f4 f5⟩
 self:=fun _ _ _ _ _ st h=>wpAny_pyIter_rangeiter st h
section
def Zmw (K:W.Frag) (tl:TE):TI:=fun σ H R=>tl σ H fun x H1=>∃ a,x=.ref a/\(∃ xs,SqL K H1 a xs)/\R (Itl K a) H1
def iTup (K:W.Frag) (tl:TE):TI:=fun σ H R=>tl σ H fun x H1=>∃ a,x=.ref a/\(∃ xs,SqT K H1 a xs)/\R (Itt K a) H1
def Ye {l:Expr} {tl:TE} (hl:PE X l tl):PI X tg l (Zmw X.K tl):=by
 intro pq s σ H R I h;refine thn (hl pq s σ H _ I h) fun v s1 hz=>?_;obtain ⟨x,H1,I1,r1,q1⟩:=hz;obtain ⟨a,e,⟨xs,hq⟩,q⟩:=q1;subst e;cases r1;obtain ⟨its,rv,p,hz⟩:=I1.list hq;refine wpAny_pyIter_list p.isList ?_;exists s1.heap.objs.size,[s1.heap.objs.size],_,_,H1,rfl,I1.kept (t':=s1.toks) fun b o e=>Db _ e,Zcp a _,⟨_,Dc _ rfl,rfl,rfl⟩,fun b hb=>?_,q;have e:b=s1.heap.objs.size:=by simpa using hb
 subst e;exact I1.fpOk (Jf _) (I1.hok.fresh (Jf _))
def Zl3 {l:Expr} {tl:TE} (hl:PE X l tl):PI X tg l (iTup X.K tl):=by
 intro pq s σ H R I h;refine thn (hl pq s σ H _ I h) fun v s1 hz=>?_;obtain ⟨x,H1,I1,r1,q1⟩:=hz;obtain ⟨a,e,⟨xs,hq⟩,q⟩:=q1;subst e;cases r1;obtain ⟨its,rv,p,hz⟩:=I1.tuple hq;refine wpAny_pyIter_tuple (show s1.heap.IsTuple a its.toArray from p) ?_;exists s1.heap.objs.size,[s1.heap.objs.size],_,_,H1,rfl,I1.kept (t':=s1.toks) fun b o e=>Db _ e,Zbu a _,⟨_,Dc _ rfl,rfl,rfl⟩,fun b hb=>?_,q;have e:b=s1.heap.objs.size:=by simpa using hb
 subst e;exact I1.fpOk (Jf _) (I1.hok.fresh (Jf _))
theorem Zgh {R:It->Hp->Prop} {hi:Int} {t u v:Tok} {tk:Nat} (I:Inv X pq σ H s) (h1:-(2 ^ 62)<=lo) (h2:lo<2 ^ 62) (h3:-(2 ^ 62)<=hi) (h4:hi<2 ^ 62)
  (q:R (Itr lo (hi-lo).toNat) H):wpAny (model X.prog X.w) X.A (pyIter (.ref s.heap.objs.size)) (PIE X pq σ tg R) E { s with heap:=s.heap.push { cls:=.type "range",data:=.fields #[.int lo t,.int hi u,.int 1 v] },toks:=tk }:=by
 refine wpAny_pyIter_range (IsRange.new ..) (small_one h1 h2 h3 h4) ?_;have I1:Inv X pq σ H { s with heap:=s.heap.push { cls:=.type "range",data:=.fields #[.int lo t,.int hi u,.int 1 v] },toks:=tk }:=I.kept fun b o e=>Db _ e;refine ⟨(s.heap.push { cls:=.type "range",data:=.fields #[.int lo t,.int hi u,.int 1 v] }).objs.size,[(s.heap.push { cls:=.type "range",data:=.fields #[.int lo t,.int hi u,.int 1 v] }).objs.size],_,_,H,rfl,
  I1.kept (t':=tk) fun b o e=>Db _ e,Zbv _ lo (hi-lo).toNat,?_,fun b hb=>?_,q⟩
 ·have e1:lo+((0:Nat):Int)*1=lo:=by simp
  have e2:(((hi-lo).toNat:Nat):Int)-((0:Nat):Int)=Builtin.Range.rangeSize lo hi 1:=by rw [rangeSize_one]; split <;> lia
  show IsRangeIter _ _ (lo+((0:Nat):Int)*1) ((((hi-lo).toNat:Nat):Int)-((0:Nat):Int)) 1;rw [e1,e2];exact Dc _ rfl
 ·have e:b=(s.heap.push { cls:=.type "range",data:=.fields #[.int lo t,.int hi u,.int 1 v] }).objs.size:=by simpa using hb
  subst e;exact I1.fpOk (Jf _) (I1.hok.fresh (Jf _))
def Zmv (ta:TA):TI:=fun σ H R=>ta σ H fun vs H1=>∃ j:Int,vs=[.int j]/\-(2 ^ 62)<=j/\j<2 ^ 62/\R (Itr 0 j.toNat) H1
theorem Yn {a:Expr} {ta:TA} {p:Pos} (hg:Gl X "range") (hm:X.mg "range"=none) (ha:PA X [a] ta) (hs:starEach [a] X.env=[(false,eval a X.env)]:=by rfl):PI X tg (.Call (.Name "range" p) [a] [] pos) (Zmv ta):=by
 intro pq s σ H R I h;refine Call_ (Sq I hg hm boot_range (PyProof.Rows.callWith_type1 (thn (ha pos pq s σ H _ I h) fun us s1 hz=>?_) hs rfl));obtain ⟨vs,H1,I1,r1,q1⟩:=hz;obtain ⟨j,e,q1,q2,q⟩:=q1;subst e;cases r1 with
 | cons r rr =>
  cases rr;obtain ⟨t,rfl⟩:=r;exact call_range_1 (Zgh I1 (by lia) (by lia) q1 q2 (by simpa using q))
def tFor (wi:TI) (g:TG) (tb:TS):TS:=fun D σ H=>wi σ H fun J H1=>∃ W:Nat->Nat->St->Hp->Prop,(∃ m,W 0 m σ H1)/\∀ i m σ H,W i m σ H ->
 (J.stop i H/\D.nx σ H)\/(J.go i H/\∃ N:St->Hp->Prop,(∀ σ' H',N σ' H'->∃ m',m'<m/\W (i+1) m' σ' H')/\∀ x H',J.yld i H x H'->g x σ H' fun σ2 H2=>tb { D with nx:=N,ct:=N,bk:=D.nx } σ2 H2)
def Q8 (fp:List Addr) (h:Heap):List (Addr×Obj):=fp.filterMap fun b=>(h.get? b).map fun o=>(b,o)
def V3 {h:Heap} {b:Addr} (hb:b∈fp) (e:h.get? b=some o):(b,o)∈Q8 fp h:=Gp.mpr ⟨b,hb,by rw [e]; rfl⟩
theorem Zec {h:Heap} {p:Addr×Obj} (hp:p∈Q8 fp h):p.1∈fp/\h.get? p.1=some p.2:=by
 obtain ⟨b,hb,e⟩:=Gp.mp hp;cases q:h.get? b with
 | none=>rw [q] at e; cases e
 | some o =>
  rw [q] at e;have e':(b,o)=p:=Di e;subst e';exists hb,q
def Inv.pinned (I:Inv X pq σ H s) (hf:∀ b∈fp,FpOk X pq H b) (ho:∀ b∈fp,∃ o,s.heap.get? b=some o/\∀ v,o.data≠.cell v):Inv X (pq++Q8 fp s.heap) σ H s :=
 I.pins_of fun p hp=>(Jn.mp hp).elim (fun z=>I.pin p (Ji _ z)) fun z=>by
  obtain ⟨hb,e⟩:=Zec z;obtain ⟨f0,f1,f2,_⟩:=hf p.1 hb;obtain ⟨o,e',d⟩:=ho p.1 hb;rw [e] at e'; cases e';exists e,f0,f1,f2,d
def Inv.unpinned {pl:List (Addr×Obj)} (I:Inv X (pq++pl) σ H s):Inv X pq σ H s:=I.pins_of fun p hp=>I.pin p (Ji _ (Jw _ hp))
def Xl {iter:Expr} {body:List Stmt} {g:TG} {tb:TS} (hp:PassesOwn (model X.prog X.w) X.A X.env X.xe) (hc:X.calm=true) (hi:PI X tg iter wi) (hg:PG X tg g) (hb:PSs X body tb)
  (hs:∀ x,foldedSetIterable iter X.env x=pure x:=by intro _; rfl):PS X (.For tg iter body [] pos) (tFor wi g tb):=by
 intro pq s σ H D I h;refine wpAny_For (thn (hi pq s σ H _ I h) fun v s1 h1=>thn h1 fun itv s2 h2=>?_) hs;obtain ⟨it,fp,tn,J,H2,e,I2,T,st2,f2,W,⟨m0,w0⟩,turn⟩:=h2;subst e;have stat:∀ {H':Hp},(∀ b∈fp,H' b=none)->∀ b∈fp,FpOk X pq H' b:=fun hn b hb=>⟨hn b hb,(f2 b hb).2⟩;refine codeAny_forLoop_any (fun n s'=>∃ i σ' H',Inv X pq σ' H' s'/\tn i s'.heap/\(∀ b∈fp,H' b=none)/\W i n σ' H') ?_ m0 ⟨0,σ,H2,I2,st2,fun b hb=>(f2 b hb).1,w0⟩;rintro n s3 ⟨i,σ3,H3,I3,st3,fr3,w3⟩;rcases turn i n σ3 H3 w3 with ⟨stop,qn⟩ | ⟨go,N,hN,step⟩
 ·refine wpAny_passesOwn hp (thn (T.done X rfl rfl rfl hc i pq s3 σ3 H3 X.xe I3 (stat fr3) st3 stop) fun r s4 hz=>?_);obtain ⟨hr,I4⟩:=hz;subst hr;exact wpAny_execs_nil ⟨σ3,H3,I4,qn⟩
 ·refine wpAny_passesOwn hp (thn (T.item X rfl rfl rfl hc i pq s3 σ3 H3 X.xe I3 (stat fr3) st3 go) fun r s4 hz=>?_);obtain ⟨u,hr,h4⟩:=hz;subst hr;refine wpAny_passesOwn hp (thn h4 fun _ s5 hz=>?_);obtain ⟨x,H5,I5,r5,y5,st5,fr5⟩:=hz;have I5':=I5.pinned (stat fr5) (T.obj _ _ st5);refine wpAny_passesOwn hp (thn (hg _ s5 σ3 H5 x u _ I5' r5 (step x H5 y5)) fun _ s6 hz=>?_);obtain ⟨σ6,H6,I6,q6⟩:=hz;refine wpAny_passesOwn hp (thn (hb _ s6 σ6 H6 _ I6 q6) fun f s7 q7=>?_);have again:∀ {σ7:St} {H7:Hp},Inv X (pq++Q8 fp s5.heap) σ7 H7 s7->N σ7 H7->∃ m,m<n/\∃ i σ' H',Inv X pq σ' H' s7/\tn i s7.heap/\(∀ b∈fp,H' b=none)/\W i m σ' H':=fun {σ7 H7} I7 n7=>by
   obtain ⟨m',hm,w7⟩:=hN σ7 H7 n7;exists m',hm,i+1,σ7,H7,I7.unpinned,T.keep _ _ _ st5 fun b hb o e=>(I7.pin (b,o) (Ji _ (Ji _ (V3 hb e)))).1,fun b hb=>?_,w7;obtain ⟨o,e,d⟩:=T.obj _ _ st5 b hb;exact (I7.pin (b,o) (Ji _ (Ji _ (V3 hb e)))).2.1
  cases f with
  | next=>obtain ⟨σ7,H7,I7,n7⟩:=q7; exact again I7 n7
  | cont=>obtain ⟨σ7,H7,I7,n7⟩:=q7; exact again I7 n7
  | brk=>obtain ⟨σ7,H7,I7,q7⟩:=q7;exists σ7,H7,I7.unpinned,q7
  | ret v=>obtain ⟨x7,σ7,H7,I7,r7,q7⟩:=q7;exists x7,σ7,H7,I7.unpinned,r7,q7
end
theorem Ze1 {n:Nat} {g:TG} {tb:TS} {D:Ends} (Pv:Nat->St->Hp->Prop) (h0:Pv 0 σ H)
  (hs:∀ i σ H,i<n->Pv i σ H->g (.int (lo+i)) σ H fun σ2 H2=>tb { D with nx:=Pv (i+1),ct:=Pv (i+1),bk:=D.nx } σ2 H2) (hd:∀ σ H,Pv n σ H->D.nx σ H) :
  ∃ W:Nat->Nat->St->Hp->Prop,(∃ m,W 0 m σ H)/\∀ i m σ H,W i m σ H ->
   ((Itr lo n).stop i H/\D.nx σ H)\/((Itr lo n).go i H/\∃ N:St->Hp->Prop,(∀ σ' H',N σ' H'->∃ m',m'<m/\W (i+1) m' σ' H')/\∀ x H',(Itr lo n).yld i H x H'->g x σ H' fun σ2 H2=>tb { D with nx:=N,ct:=N,bk:=D.nx } σ2 H2):=by
 exists fun i m σ H=>m=n-i/\i<=n/\Pv i σ H,⟨n,by simp,Jv _,h0⟩,?_;rintro i m σ H ⟨rfl,hi,p⟩
 by_cases hlt:i<n
 ·refine .inr ⟨hlt,Pv (i+1),fun σ' H' p'=>⟨n-(i+1),by lia,rfl,hlt,p'⟩,fun x H' y=>?_⟩;obtain ⟨e,y⟩:=y;subst e y;exact hs i σ _ hlt p
 ·have e:i=n:=by lia
  subst e;exact .inl ⟨Jf _,hd σ H p⟩
abbrev R2:=V->V->Hp->VK->Prop
def OpR (X:Cx) (f:Value->Value->Sem Value) (r:R2):Prop :=
 ∀ (pq:List (Addr×Obj)) (s:Shared) (σ:St) (H:Hp) (x y:V) (v u:Value) (Q:VK),Inv X pq σ H s->RelV x v->RelV y u->r x y H Q ->
  wpAny (model X.prog X.w) X.A (f v u) (EP X pq σ Q) X.xe s
def UnR (X:Cx) (f:Value->Sem Value) (r:V->Hp->VK->Prop):Prop :=
 ∀ (pq:List (Addr×Obj)) (s:Shared) (σ:St) (H:Hp) (x:V) (v:Value) (Q:VK),Inv X pq σ H s->RelV x v->r x H Q ->
  wpAny (model X.prog X.w) X.A (f v) (EP X pq σ Q) X.xe s
def Xv (X:Cx) (f:Value) (r:List V->Hp->VK->Prop):Prop :=
 ∀ (pq:List (Addr×Obj)) (s:Shared) (σ:St) (H:Hp) (xs:List V) (us:List Value) (Q:VK),Inv X pq σ H s->Vals xs us->r xs H Q ->
  wpAny (model X.prog X.w) X.A (call f us) (EP X pq σ Q) X.xe s
def tOp (r:R2) (ta tb:TE):TE:=fun σ H Q=>ta σ H fun x H1=>tb σ H1 fun y H2=>r x y H2 Q
def tUn (r:V->Hp->VK->Prop) (ta:TE):TE:=fun σ H Q=>ta σ H fun x H1=>r x H1 Q
def rI (C:Int->Int->Prop) (g:Int->Int->V):R2:=fun x y H Q=>∃ i j,x=.int i/\y=.int j/\C i j/\Q (g i j) H
def rI0 (g:Int->Int->V):R2:=fun x y H Q=>∃ i j,x=.int i/\y=.int j/\Q (g i j) H
def rU (g:Int->V):V->Hp->VK->Prop:=fun x H Q=>∃ i,x=.int i/\Q (g i) H
section
variable {a b:Expr} 
def binT (ha:PE X a ta) (hb:PE X b tb) {R:V->V->Hp->Prop} (I:Inv X pq σ H s)
  (h:ta σ H fun x H1=>tb σ H1 fun y H2=>R x y H2) {Q:Value->Shared->Prop} {f:Value->Value->Sem Value}
  (hf:∀ v u s2 x y H2,Inv X pq σ H2 s2->RelV x v->RelV y u->R x y H2->wpAny (model X.prog X.w) X.A (f v u) Q X.xe s2) :
  wpAny (model X.prog X.w) X.A (eval a X.env) (fun v s₁=>wpAny (model X.prog X.w) X.A (eval b X.env) (fun u s₂=>wpAny (model X.prog X.w) X.A (f v u) Q X.xe s₂) X.xe s₁) X.xe s:=by
 refine thn (ha pq s σ H _ I h) fun v s1 hz=>?_;obtain ⟨x,H1,I1,r1,q1⟩:=hz;refine thn (hb pq s1 σ H1 _ I1 q1) fun u s2 hz=>?_;obtain ⟨y,H2,I2,r2,q2⟩:=hz;exact hf v u s2 x y H2 I2 r1 r2 q2
def Zx {op:Operator} {r:R2} (ho:OpR X (binaryOp op) r) (ha:PE X a ta) (hb:PE X b tb):PE X (.BinOp a op b pos) (tOp r ta tb):=by
 intro pq s σ H Q I h;exact wpAny_BinOp (binT ha hb I h fun v u s2 x y H2 I2 rx ry q=>ho pq s2 σ H2 x y v u Q I2 rx ry q)
def Pc {op:UnaryOp} {r:V->Hp->VK->Prop} (ho:UnR X (unaryOp op) r) (ha:PE X a ta):PE X (.UnaryOp op a pos) (tUn r ta):=by
 intro pq s σ H Q I h;exact UnaryOp_ (thn (ha pq s σ H _ I h) fun v s1 ⟨x,H1,I1,r1,q1⟩=>ho pq s1 σ H1 x v Q I1 r1 q1)
def opI {f:Value->Value->Sem Value} {C:Int->Int->Prop} {g:Int->Int->Int}
  (rule:∀ (i j:Int) (t u:Tok) (s:Shared) (Q:Value->Shared->Prop) (E:Value->Shared->Prop),C i j->Q (.int (g i j) s.toks) { s with toks:=s.toks+1 }->wpAny (model X.prog X.w) X.A (f (.int i t) (.int j u)) Q E s) :
  OpR X f (rI C fun i j=>.int (g i j)):=by
 intro pq s σ H x y v u Q I rx ry h;obtain ⟨i,j,rfl,rfl,hc,q⟩:=h;obtain ⟨t,rfl⟩:=rx;obtain ⟨t',rfl⟩:=ry;exact rule i j t t' s _ _ hc ⟨.int (g i j),H,I.tok _,⟨_,rfl⟩,q⟩
def opI0 {f:Value->Value->Sem Value} {g:Int->Int->Int}
  (rule:∀ (i j:Int) (t u:Tok) (s:Shared) (Q:Value->Shared->Prop) (E:Value->Shared->Prop),Q (.int (g i j) s.toks) { s with toks:=s.toks+1 }->wpAny (model X.prog X.w) X.A (f (.int i t) (.int j u)) Q E s) :
  OpR X f (rI0 fun i j=>.int (g i j)):=by
 intro pq s σ H x y v u Q I rx ry h;obtain ⟨i,j,rfl,rfl,q⟩:=h;obtain ⟨t,rfl⟩:=rx;obtain ⟨t',rfl⟩:=ry;exact rule i j t t' s _ _ ⟨.int (g i j),H,I.tok _,⟨_,rfl⟩,q⟩
def opB0 {f:Value->Value->Sem Value} {g:Int->Int->Bool}
  (rule:∀ (i j:Int) (t u:Tok) (s:Shared) (Q:Value->Shared->Prop) (E:Value->Shared->Prop),Q (.bool (g i j)) s->wpAny (model X.prog X.w) X.A (f (.int i t) (.int j u)) Q E s) :
  OpR X f (rI0 fun i j=>.bl (g i j)):=by
 intro pq s σ H x y v u Q I rx ry h;obtain ⟨i,j,rfl,rfl,q⟩:=h;obtain ⟨t,rfl⟩:=rx;obtain ⟨t',rfl⟩:=ry;exact rule i j t t' s _ _ ⟨.bl (g i j),H,I,rfl,q⟩
def CDiv (i j:Int):Prop:=0<j/\j<1073741824
def CPow (i j:Int):Prop:=0<=j/\j<=1000000/\i.natAbs<2 ^ 64
def CMul (i j:Int):Prop:=(-(2 ^ 64)<i/\i<2 ^ 64)\/(-(2 ^ 64)<j/\j<2 ^ 64)
def CMul.ok {i j:Int} (h:CMul i j):IntMulOk i j:=by
 rcases h with ⟨h1,h2⟩ | ⟨h1,h2⟩
 ·exact .of_left (intBits_le_64 h1 h2)
 ·exact .of_right (intBits_le_64 h1 h2)
def Wt:OpR X (binaryOp .Add) (rI0 fun i j=>.int (i+j)):=opI0 fun _ _ _ _ _ _ _ q=>add_int q
def Zd8:OpR X (binaryOp .Sub) (rI0 fun i j=>.int (i-j)):=opI0 fun _ _ _ _ _ _ _ q=>sub_int q
def Vm:OpR X (binaryOp .Mult) (rI CMul fun i j=>.int (i*j)):=opI fun _ _ _ _ _ _ _ hc q=>mul_int q hc.ok
theorem Zeb:OpR X (binaryOp .FloorDiv) (rI CDiv fun i j=>.int (i / j)):=opI fun i j _ _ _ _ _ hc q=>by
 have h1:(0:Int)<j:=hc.1;have h2:j<1073741824:=hc.2;exact floordiv_int (by lia) (by rw [Int.fdiv_eq_ediv_of_nonneg i (by lia)]; exact q) (.inl (PyProof.noPylong_small (by lia)))
theorem Xm:OpR X (binaryOp .Mod) (rI (fun _ j=>0<j) fun i j=>.int (i % j)):=opI fun i j _ _ _ _ _ hc q=>by
 have h1:(0:Int)<j:=hc;exact mod_int' (by lia) (by rw [Int.fmod_eq_emod_of_nonneg i (by lia)]; exact q)
def Zd9:OpR X (binaryOp .Pow) (rI CPow fun i j=>.int (i ^ j.toNat)):=opI fun _ _ _ _ _ _ _ hc q=>pow_int_small hc.1 hc.2.1 hc.2.2 q
def unI {f:Value->Sem Value} {g:Int->Int}
  (rule:∀ (i:Int) (t:Tok) (s:Shared) (Q:Value->Shared->Prop) (E:Value->Shared->Prop),Q (.int (g i) s.toks) { s with toks:=s.toks+1 }->wpAny (model X.prog X.w) X.A (f (.int i t)) Q E s) :
  UnR X f (rU fun i=>.int (g i)):=by
 intro pq s σ H x v Q I rx h;obtain ⟨i,rfl,q⟩:=h;obtain ⟨t,rfl⟩:=rx;exact rule i t s _ _ ⟨.int (g i),H,I.tok _,⟨_,rfl⟩,q⟩
def Tr:UnR X (unaryOp .USub) (rU fun i=>.int (-i)):=unI fun _ _ _ _ _ q=>neg_int q
end
def scal:V->V->Bool
 | .non,.non=>true | .non,.int _=>true | .int _,.non=>true | .non,.bl _=>true | .bl _,.non=>true | .non,.str _=>true | .str _,.non=>true
 | .int _,.int _=>true | .bl _,.bl _=>true | .str _,.str _=>true | .byt _,.byt _=>true
 | .int _,.str _=>true | .str _,.int _=>true | .bl _,.str _=>true | .str _,.bl _=>true
 | _,_=>false
def rEq:R2:=fun x y H Q=>scal x y=true/\Q (.bl (decide (x=y))) H
def rNe:R2:=fun x y H Q=>scal x y=true/\Q (.bl (!decide (x=y))) H
def Ze5 {i j:Int}:decide (V.int i=V.int j)=(i == j):=by
 rw [Fg];simp
def Zib {i j:Bool}:decide (V.bl i=V.bl j)=(i == j):=by
 rw [Fg];simp
def Ze4 {i j:Str}:decide (V.str i=V.str j)=(i == j):=by
 rw [Fg];simp
def Ze6 {i j:Array UInt8}:decide (V.byt i=V.byt j)=(i.toList == j.toList):=by
 rw [Fg];cases i;cases j;simp
section
variable {a b c:Expr} 
def Yj {k k':Bool} (I:Inv X pq σ H s) (q:Q (.bl k) H) (e:k=k'):EP X pq σ Q (.bool k') s:=by
 subst e;exists .bl k,H,I,rfl,q
theorem Zmd:OpR X (compareOp .Eq) rEq:=by
 intro pq s σ H x y v u Q I rx ry h;obtain ⟨hs,q⟩:=h;cases x with
 | non =>
  cases rx;cases y with
  | non=>cases ry; exact PySem.EqNone.eq_none_none (Yj I q (by simp))
  | bl j=>cases ry; exact PySem.EqNone.eq_none_bool (Yj I q (by simp))
  | int j=>obtain ⟨t',rfl⟩:=ry; exact PySem.EqNone.eq_none_int (Yj I q (by simp))
  | str j=>obtain ⟨t',rfl⟩:=ry; exact PySem.EqNone.eq_none_str (Yj I q (by simp))
  | _=>exact absurd (show false=true from hs) Jo
 | bl i =>
  cases rx;cases y with
  | non=>cases ry; exact PySem.EqNone.eq_bool_none (Yj I q (by simp))
  | bl j=>cases ry; exact eq_bool (Yj I q Zib)
  | str j=>obtain ⟨t',rfl⟩:=ry; exact PySem.EqMixed.eq_bool_str (Yj I q (by simp))
  | _=>exact absurd (show false=true from hs) Jo
 | int i =>
  obtain ⟨t,rfl⟩:=rx;cases y with
  | non=>cases ry; exact PySem.EqNone.eq_int_none (Yj I q (by simp))
  | int j=>obtain ⟨t',rfl⟩:=ry; exact eq_int (Yj I q Ze5)
  | str j=>obtain ⟨t',rfl⟩:=ry; exact PySem.EqMixed.eq_int_str (Yj I q (by simp))
  | _=>exact absurd (show false=true from hs) Jo
 | str i =>
  obtain ⟨t,rfl⟩:=rx;cases y with
  | non=>cases ry; exact PySem.EqNone.eq_str_none (Yj I q (by simp))
  | bl j=>cases ry; exact PySem.EqMixed.eq_str_bool (Yj I q (by simp))
  | int j=>obtain ⟨t',rfl⟩:=ry; exact PySem.EqMixed.eq_str_int (Yj I q (by simp))
  | str j=>obtain ⟨t',rfl⟩:=ry; exact eq_str (Yj I q Ze4)
  | _=>exact absurd (show false=true from hs) Jo
 | byt i =>
  obtain ⟨t,rfl⟩:=rx;cases y with
  | byt j=>obtain ⟨t',rfl⟩:=ry; exact W.eq_bytes (Yj I q Ze6)
  | _=>exact absurd (show false=true from hs) Jo
 | _=>cases y <;> exact absurd (show false=true from hs) Jo
theorem Zoq:OpR X (compareOp .NotEq) rNe:=by
 intro pq s σ H x y v u Q I rx ry h;obtain ⟨hs,q⟩:=h;cases x with
 | non =>
  cases rx;cases y with
  | non=>cases ry; exact PySem.EqNone.ne_none_none (Yj I q (by simp))
  | bl j=>cases ry; exact PySem.EqNone.ne_none_bool (Yj I q (by simp))
  | int j=>obtain ⟨t',rfl⟩:=ry; exact PySem.EqNone.ne_none_int (Yj I q (by simp))
  | str j=>obtain ⟨t',rfl⟩:=ry; exact PySem.EqNone.ne_none_str (Yj I q (by simp))
  | _=>exact absurd (show false=true from hs) Jo
 | bl i =>
  cases rx;cases y with
  | non=>cases ry; exact PySem.EqNone.ne_bool_none (Yj I q (by simp))
  | bl j=>cases ry; exact ne_bool (Yj I q (congrArg not Zib))
  | str j=>obtain ⟨t',rfl⟩:=ry; exact PySem.EqMixed.ne_bool_str (Yj I q (by simp))
  | _=>exact absurd (show false=true from hs) Jo
 | int i =>
  obtain ⟨t,rfl⟩:=rx;cases y with
  | non=>cases ry; exact PySem.EqNone.ne_int_none (Yj I q (by simp))
  | int j=>obtain ⟨t',rfl⟩:=ry; exact ne_int (Yj I q (congrArg not Ze5))
  | str j=>obtain ⟨t',rfl⟩:=ry; exact PySem.EqMixed.ne_int_str (Yj I q (by simp))
  | _=>exact absurd (show false=true from hs) Jo
 | str i =>
  obtain ⟨t,rfl⟩:=rx;cases y with
  | non=>cases ry; exact PySem.EqNone.ne_str_none (Yj I q (by simp))
  | bl j=>cases ry; exact PySem.EqMixed.ne_str_bool (Yj I q (by simp))
  | int j=>obtain ⟨t',rfl⟩:=ry; exact PySem.EqMixed.ne_str_int (Yj I q (by simp))
  | str j=>obtain ⟨t',rfl⟩:=ry; exact ne_str (Yj I q (congrArg not Ze4))
  | _=>exact absurd (show false=true from hs) Jo
 | byt i =>
  obtain ⟨t,rfl⟩:=rx;cases y with
  | byt j=>obtain ⟨t',rfl⟩:=ry; exact W.ne_bytes (Yj I q (congrArg not Ze6))
  | _=>exact absurd (show false=true from hs) Jo
 | _=>cases y <;> exact absurd (show false=true from hs) Jo
def Zma:OpR X (compareOp .Lt) (rI0 fun i j=>.bl (decide (i<j))):=opB0 fun _ _ _ _ _ _ _ q=>lt_int q
def S2:OpR X (compareOp .Gt) (rI0 fun i j=>.bl (decide (j<i))):=opB0 fun _ _ _ _ _ _ _ q=>gt_int q
def Zmc:OpR X (compareOp .GtE) (rI0 fun i j=>.bl (decide (j<=i))):=opB0 fun _ _ _ _ _ _ _ q=>ge_int q
def Z6 (b:Expr) {op:CmpOp} (h:op≠.In:=by decide) (h2:op≠.NotIn:=by decide):behindInMarks op b=false:=by
 have e1:(op == CmpOp.In)=false:=by cases op <;> first | rfl | exact absurd rfl h
 have e2:(op == CmpOp.NotIn)=false:=by cases op <;> first | rfl | exact absurd rfl h2
 cases b <;> simp [behindInMarks,e1,e2]
def Ti {op:CmpOp} {r:R2} (ho:OpR X (compareOp op) r) (ha:PE X a ta) (hb:PE X b tb) (hm:behindInMarks op b=false):PE X (.Compare a [op] [b] pos) (tOp r ta tb):=by
 intro pq s σ H Q I h;exact wpAny_Compare1 (binT ha hb I h fun v u s2 x y H2 I2 rx ry q=>ho pq s2 σ H2 x y v u Q I2 rx ry q) hm
def Zk5 (t:TE):TT:=fun σ H Q=>t σ H fun x H'=>∃ k,x=.bl k/\Q k H'
def Zw {op:CmpOp} {r:R2} (ho:OpR X (compareOp op) r) (ha:PE X a ta) (hb:PE X b tb) (hm:behindInMarks op b=false):PT X (.Compare a [op] [b] pos) (Zk5 (tOp r ta tb)):=by
 intro pq s σ H Q I h;refine wpAny_isTrue_Compare1 (thn (ha pq s σ H _ I h) fun v s1 ⟨x,H1,I1,r1,q1⟩=>thn (hb pq s1 σ H1 _ I1 q1) fun u s2 ⟨y,H2,I2,r2,q2⟩ =>
  thn (ho pq s2 σ H2 x y v u _ I2 r1 r2 q2) fun c s3 ⟨z,H3,I3,r3,k,e,q3⟩=>?_) hm
 subst e;cases r3;exact wpAny_truthy_bool ⟨H3,I3,q3⟩
def Rc:(sizeLine:Nat)<2 ^ 63:=by rw [sizeLine_eq]; decide
def Zb0:OpR X (binaryOp .Add) (fun x y H Q=>∃ i j,x=.str i/\y=.str j/\i.length+j.length<=sizeLine/\Q (.str (i++j)) H):=by
 intro pq s σ H x y v u Q I rx ry h;obtain ⟨i,j,rfl,rfl,hz,q⟩:=h;obtain ⟨t,rfl⟩:=rx;obtain ⟨t',rfl⟩:=ry;exact add_str (fun t' tk=>⟨.str (i++j),H,I.tok _,⟨_,rfl⟩,q⟩) hz
theorem T0 {x:V} (r:Vals [x] us):∃ u,us=[u]/\RelV x u:=by
 cases r with
 | cons r1 r2=>cases r2;exists ·,r1
theorem Zcl {x:V} (r:Vals [x,y] us):∃ u w',us=[u,w']/\RelV x u/\RelV y w':=by
 cases r with
 | cons r1 r2 =>
  cases r2 with
  | cons r3 r4=>cases r4;exists _,·,r1,r3
def Zhb:Xv X (.builtin "abs") (fun xs H Q=>∃ i,xs=[.int i]/\Q (.int (if i<0 then -i else i)) H):=by
 intro pq s σ H xs us Q I r h;obtain ⟨i,rfl,q⟩:=h;obtain ⟨u,rfl,t,rfl⟩:=T0 r;exact call_abs_int fun u tk=>⟨.int (if i<0 then -i else i),H,I.tok _,⟨_,rfl⟩,q⟩
def P4 (hc:X.calm=true):Xv X (.builtin "max") (fun xs H Q=>∃ i j,xs=[.int i,.int j]/\Q (.int (if j > i then j else i)) H):=by
 intro pq s σ H xs us Q I r h;obtain ⟨i,j,rfl,q⟩:=h;obtain ⟨u,w',rfl,⟨t,rfl⟩,⟨t',rfl⟩⟩:=Zcl r;refine max_two_ints (I.ok.hd hc) fun h' tk k=>⟨_,H,I.kept k,?_,q⟩
 by_cases hj:j > i
 ·rw [Df hj,Df hj];exists ·
 ·rw [De hj,De hj];exists ·
def P3 (hc:X.calm=true):Xv X (.builtin "min") (fun xs H Q=>∃ i j,xs=[.int i,.int j]/\Q (.int (if j<i then j else i)) H):=by
 intro pq s σ H xs us Q I r h;obtain ⟨i,j,rfl,q⟩:=h;obtain ⟨u,w',rfl,⟨t,rfl⟩,⟨t',rfl⟩⟩:=Zcl r;refine min_two_ints (I.ok.hd hc) fun h' tk k=>⟨_,H,I.kept k,?_,q⟩
 by_cases hj:j<i
 ·rw [Df hj,Df hj];exists ·
 ·rw [De hj,De hj];exists ·
def Zfw:Xv X (.type "int") (fun xs H Q=>(∃ i,xs=[.int i]/\Q (.int i) H)\/∃ k,xs=[.bl k]/\Q (.int (if k then 1 else 0)) H):=by
 intro pq s σ H xs us Q I r h;rcases h with ⟨i,rfl,q⟩ | ⟨k,rfl,q⟩
 ·obtain ⟨u,rfl,t,rfl⟩:=T0 r;exact call_int_int ⟨.int i,H,I,⟨_,rfl⟩,q⟩
 ·obtain ⟨u,rfl,r1⟩:=T0 r;cases r1;exact call_int_bool ⟨.int (if k then 1 else 0),H,I.tok _,⟨_,rfl⟩,q⟩
def LenV (K:W.Frag) (x:V) (H:Hp) (n:Nat):Prop :=
 match x with
 | .str y=>y.length<=sizeLine/\n=y.length
 | .byt y=>y.size<=sizeLine/\n=y.size
 | .ref p=>(∃ xs,SqL K H p xs/\n=xs.length)\/∃ xs,SqT K H p xs/\n=xs.length
 | _=>False
theorem V7:Xv X (.builtin "len") (fun xs H Q=>∃ x n,xs=[x]/\LenV X.K x H n/\Q (.int n) H):=by
 intro pq s σ H xs us Q I r h;obtain ⟨x,n,rfl,e,q⟩:=h;obtain ⟨u,rfl,rx⟩:=T0 r;have hl:=Rc;have hs:sizeLine=16777216:=sizeLine_eq;cases x with
 | str y =>
  obtain ⟨t,rfl⟩:=rx;obtain ⟨hy,e'⟩:y.length<=sizeLine/\n=y.length:=e;subst e';exact len_str (by lia) ⟨.int _,H,I.tok _,⟨_,rfl⟩,q⟩
 | byt y =>
  obtain ⟨t,rfl⟩:=rx;obtain ⟨hy,e'⟩:y.size<=sizeLine/\n=y.size:=e;subst e';exact W.len_bytes (by lia) ⟨.int _,H,I.tok _,⟨_,rfl⟩,q⟩
 | ref p =>
  cases rx;have e':(∃ xs,SqL X.K H p xs/\n=xs.length)\/∃ xs,SqT X.K H p xs/\n=xs.length:=e;rcases e' with ⟨xs,hx,e'⟩ | ⟨xs,hx,e'⟩
  ·subst e';obtain ⟨its,r',pl,hz⟩:=I.list hx;have hlen:=r'.length;exact Calls.call_len_list pl.isList (by simp only [Jg]; lia) ⟨.int xs.length,H,I.tok _,⟨_,by simp only [Jg]; rw [hlen]⟩,q⟩
  ·subst e';obtain ⟨its,r',pl,hz⟩:=I.tuple hx;have hlen:=r'.length;exact len_tuple pl (by simp only [Jg]; lia) ⟨.int xs.length,H,I.tok _,⟨_,by simp only [Jg]; rw [hlen]⟩,q⟩
 | _=>exact (show False from e).elim
end
structure ObjM (h:Heap) (x dx C:Addr) (mA:Str->Option Value):Prop where
 obj:h.get? x=some (W.instObj C dx)
 ns:h.Ns1 dx mA
 ne:dx≠x
def Zel {h:Heap} {dx:Addr} {mA:Str->Option Value} (n:h.Ns1 dx mA):∃ od,h.get? dx=some od/\∀ name,W.lookIn name od=some (mA name):=by
 obtain ⟨o,es,ep,ho,hd,hk,_,hm⟩:=n;exists o,ho,fun name=>?_;have e:=hm name;unfold nsFind findBy at e;rw [<- Array.find?_toList] at e;unfold W.lookIn;rw [hd];dsimp only
 split
 ·rename_i y q
  rw [q] at e;exact congrArg some e
 ·rename_i q
  rw [q] at e;have a:es.toList.any (·.refKey)=false:=by
   rw [List.any_eq_false];intro y hy;obtain ⟨z,t,hkey⟩:=hk y (Array.mem_toList_iff.mp hy);simp [DictEntry.refKey,hkey]
  have a':¬ es.toList.any (·.refKey)=true:=by rw [a]; exact Jo
  rw [De a'];exact congrArg some e
def ObjM.look {h:Heap} {x dx C:Addr} {mA:Str->Option Value} (I:ObjM h x dx C mA):∃ od,W.InstAt h x (W.instObj C dx) C (some od)/\∀ name,W.lookIn name od=some (mA name) :=
 let ⟨od,ho,hl⟩:=Zel I.ns
 ⟨od,⟨I.obj,rfl,rfl,ho⟩,hl⟩
section
variable {h:Heap} {a C dx:Addr} {fs:List (Str×V)}
def Zj4 (hok:HOk P w H h) (e:H a=some (.ins C dx fs)):∃ mA,ObjM h a dx C mA/\(∀ f,RelO (fs.lookup f) (mA f))/\PySem.Within mA (fs.map (·.1))/\fs.length<=1000/\H dx=some (.own a):=by
 obtain ⟨d,z,ne,ob,mA,n,r,q⟩:=(show Xr P w H h a (.ins C dx fs) from hok a _ e);exists mA,⟨ob,n,ne⟩,r,q,z,d
end
structure Cls (K:W.Frag) (C:Addr):Prop where
 pg:W.plainGet K C Str.empty=true
 hd:W.hasDictIn K C=true
 po:W.plainOver K C=true
 sa:W.findIn K (.ref C) "__setattr__"=some (some (.builtin "object.__setattr__"))
def Cls.get {C:Addr} (c:Cls K C) (f:Str):W.plainGet K C f=true:=c.pg
section
variable {Q:Value->Shared->Prop} {c:Value} {b:Bool}
inductive TyOf (K:W.Frag) (H:Hp):V->Value->Prop where
 | non:TyOf K H .non (.type "NoneType")
 | bl (x:Bool):TyOf K H (.bl x) (.type "bool")
 | int (i:Int):TyOf K H (.int i) (.type "int")
 | str (x:Str):TyOf K H (.str x) (.type "str")
 | flt (x:UInt64):TyOf K H (.flt x) (.type "float")
 | lst {a:Addr} {xs:List V} (e:H a=some (.lst xs)):TyOf K H (.ref a) (.type "list")
 | frz {a:Addr} {o:Obj} {xs:List V} (e:H a=some (.frz o (.lst xs))):TyOf K H (.ref a) (.type "list")
 | tup {a:Addr} {xs:List V} (e:H a=some (.tup xs)):TyOf K H (.ref a) (.type "tuple")
 | dK {a:Addr} {kvs:List (Key×V)} (e:H a=some (.dK kvs)):TyOf K H (.ref a) (.type "dict")
 | dT {a:Addr} {kvs:List (List Key×V)} (e:H a=some (.dT kvs)):TyOf K H (.ref a) (.type "dict")
 | ins {a C dx:Addr} {fs:List (Str×V)} (e:H a=some (.ins C dx fs)) (cl:Cls K C) (ha:W.findIn K (.ref C) "__class__"=some (some (.builtin "object.__class__")))
   (hn:W.specialIn K (.builtin "object.__class__") "__get__"=some (some (.builtin "getset_descriptor.__get__"))) (htk:W.takesIn K (.builtin "object.__class__")=some true)
   (hm:W.mroIn K C (.type "object")=some true):TyOf K H (.ref a) (.ref C)
theorem Zet {x:V} {t:Value} (I:Inv X pq σ H s) (rx:RelV x u) (ty:TyOf X.K H x t) (e:W.kitOne X.K t c=some b) (h:∀ tk,Q (.bool b) { s with toks:=tk }) :
  wpAny (model X.prog X.w) A (call (.builtin "isinstance") [u,c]) Q E s:=by
 cases ty with
 | non=>cases (show u=Value.none from rx); exact W.kia_one W.kitx_none I.kIn True.intro e (fun z=>nomatch z) h
 | bl y=>cases (show u=Value.bool y from rx); exact W.kia_one W.kitx_bool I.kIn True.intro e (fun z=>nomatch z) h
 | int i=>obtain ⟨t,q⟩:=(show ∃ t,u=Value.int i t from rx); cases q; exact W.kia_one W.kitx_int I.kIn True.intro e (fun z=>nomatch z) h
 | str y=>obtain ⟨t,q⟩:=(show ∃ t,u=Value.str y t from rx); cases q; exact W.kia_one W.kitx_str I.kIn True.intro e (fun z=>nomatch z) h
 | flt y=>obtain ⟨t,q⟩:=(show ∃ t,u=Value.float y t from rx); cases q; exact W.kia_one W.kitx_float I.kIn True.intro e (fun z=>nomatch z) h
 | @lst a xs ea =>
  cases (show u=Value.ref a from rx);obtain ⟨_,_,n,_,h1⟩:=(show Xr X.prog X.w H s.heap a (.lst xs) from I.hok a _ ea);exact W.kia_one W.kitx_list I.kIn ⟨_,h1,rfl⟩ e (fun z=>nomatch z) h
 | @frz a ob xs ea =>
  cases (show u=Value.ref a from rx);obtain ⟨_,_,_,n,_,h1⟩:=(show Xr X.prog X.w H s.heap a (.frz ob (.lst xs)) from I.hok a _ ea);exact W.kia_one W.kitx_list I.kIn ⟨_,h1,rfl⟩ e (fun z=>nomatch z) h
 | @tup a xs ea =>
  cases (show u=Value.ref a from rx);obtain ⟨_,_,_,p⟩:=(show Xr X.prog X.w H s.heap a (.tup xs) from I.hok a _ ea);obtain ⟨o,h1,h2,_⟩:=p;exact W.kia_one W.kitx_tuple I.kIn ⟨o,h1,h2⟩ e (fun z=>nomatch z) h
 | @dK a kvs ea =>
  cases (show u=Value.ref a from rx);obtain ⟨_,_,vs,_,p⟩:=(show Xr X.prog X.w H s.heap a (.dK kvs) from I.hok a _ ea);obtain ⟨o,es,ep,h1,h2,_⟩:=p;exact W.kia_one W.kitx_dict I.kIn ⟨o,h1,h2.1⟩ e (fun z=>nomatch z) h
 | @dT a kvs ea =>
  cases (show u=Value.ref a from rx);obtain ⟨_,_,xs,_,o,es,ep,h1,h2,_⟩:=(show Xr X.prog X.w H s.heap a (.dT kvs) from I.hok a _ ea);exact W.kia_one W.kitx_dict I.kIn ⟨o,h1,h2.1⟩ e (fun z=>nomatch z) h
 | @ins a C dx fs ea cl ha hn htk hm =>
  cases (show u=Value.ref a from rx);obtain ⟨mA,O,_⟩:=Zj4 I.hok ea;obtain ⟨od,J,_⟩:=O.look;exact W.kia_one (W.kitx_own (cl.get _) cl.hd ha hn htk hm) I.kIn J e (fun z=>nomatch z) h
end
structure Room (k:Nat) (A:Around):Prop where
 hd:A.handled=none
 dp:A.depth+3*k+5<recursionLimit
 un:A.units+16*k+200<cLine
theorem Room.mono {j k:Nat} (r:Room k A) (h:j<=k):Room j A:=⟨r.hd,by have:=r.dp; lia,by have:=r.un; lia⟩
theorem Room.deeper {k:Nat} (r:Room (k+1) A) (env:Env):Room k (A.deeper env) :=
 ⟨r.hd,by have:=r.dp; show A.depth+1+3*k+5<_; lia,by have:=r.un; show A.units+3+16*k+200<_; lia⟩
theorem Room.depth {k:Nat} (r:Room k A):A.depth<recursionLimit:=by have:=r.dp; lia
theorem Room.units {k:Nat} (r:Room k A):A.units+64<cLine:=by have:=r.un; lia
def tNil:TA:=fun _ H Q=>Q [] H
def Ziz (ta:TE) (tr:TA):TA:=fun σ H Q=>ta σ H fun x H1=>tr σ H1 fun xs H2=>Q (x::xs) H2
section
variable {t:TA} 
def Zc:PA X [] tNil:=fun _ _ _ _ H Q I h=>Calls.spliced_nil ⟨[],H,I,.nil,h⟩
def Za (ha:PE X e te) (hr:PA X es t) (hs:starEach (e::es) X.env=(false,eval e X.env)::starEach es X.env:=by rfl):PA X (e::es) (Ziz te t):=by
 intro pos pq s σ H Q I h;rw [hs];show wpAny _ _ (spliced ((false,eval e X.env)::backTo pos (starEach es X.env))) _ _ s;refine Calls.spliced_cons (thn (ha pq s σ H _ I h) fun u s1 hz=>?_);obtain ⟨x,H1,I1,r1,q1⟩:=hz;exact thn (hr pos pq s1 σ H1 _ I1 q1) fun us s2 ⟨xs,H2,I2,r2,q2⟩=>⟨x::xs,H2,I2,.cons r1 r2,q2⟩
def tTup (t:TA):TE:=fun σ H Q=>t σ H fun xs H1=>xs.length<=sizeLine/\∀ p,H1 p=none->Q (.ref p) (upd H1 p (.tup xs))
def tLst (t:TA):TE:=fun σ H Q=>t σ H fun xs H1=>xs.length<=sizeLine/\∀ p,H1 p=none->Q (.ref p) (upd H1 p (.lst xs))
def X2 {x1} (h:PA X es t):PE X (.Tuple es x1 pos) (tTup t):=by
 intro pq s σ H Q I hq;refine wpAny_Tuple_spliced (thn (h pos pq s σ H _ I hq) fun us s1 ⟨xs,H1,I1,r,z,q⟩=>⟨by rw [<- r.length]; exact z,?_⟩);have hf:H1 s1.heap.objs.size=none:=I1.hok.fresh (Jf _);exists .ref s1.heap.objs.size,upd H1 s1.heap.objs.size (.tup xs),I1.laid (t':=s1.toks) (fun b u e=>Db _ e) (Jf _) ?_,rfl,q _ hf;exists z,us,r,⟨_,Dc _ rfl,rfl,_,rfl,rfl⟩
def Y0 (h:PA X es t):PE X (.List es pos) (tLst t):=by
 intro pq s σ H Q I hq;refine wpAny_List_spliced (thn (h pos pq s σ H _ I hq) fun us s1 ⟨xs,H1,I1,r,z,q⟩=>⟨by rw [<- r.length]; exact z,?_⟩);have hf:H1 s1.heap.objs.size=none:=I1.hok.fresh (Jf _);exists .ref s1.heap.objs.size,upd H1 s1.heap.objs.size (.lst xs),I1.laid (t':=s1.toks) (fun b u e=>Db _ e) (Jf _) ?_,rfl,q _ hf;exists z,us,0,r,Dc _ rfl
end
abbrev Sp:=List V->Hp->VK->XK->Prop
variable {sp:L2.Sp}
abbrev CXT:=List Env->Hp->Shared->XK->Value->Shared->Prop
variable {CX:L2.CXT}
structure Env0 (P:Program) (w:World) (K:W.Frag) (mg:Str->Option Value) (base:Heap) (A:Around) (outer:List Env) (s:Shared) (H:Hp):Prop where
 frames:A.frames=some outer
 mod:Mod K mg base
 bs:∀ b o,base.get? b=some o->s.heap.get? b=some o/\H b=none
 bsz:base.objs.size<=s.heap.objs.size
 funs:s.heap.FunFrames base outer
 frf:∀ b∈frs outer,H b=none
 hok:HOk P w H s.heap
 bare:AllBare s.gens
def CE (outer:List Env) (P:Program) (w:World) (H:Hp) (s:Shared) (Q:VK) (u:Value) (s':Shared):Prop :=
 ∃ v H',s'.os=s.os/\AllBare s'.gens/\Un (frs outer) [] H H' s.heap s'.heap/\HOk P w H' s'.heap/\RelV v u/\Q v H'
def CR (CX:CXT) (outer:List Env) (P:Program) (w:World) (H:Hp) (s:Shared) (Q:VK) (E:XK) (r:Result) (s':Shared):Prop :=
 match r with
 | .ok (.ret u)=>CE outer P w H s Q u s'
 | .ok _=>False
 | .error e=>CX outer H s E e s'
structure FnOk (P:Program) (w:World) (K:W.Frag) (mg:Str->Option Value) (base:Heap) (CX:CXT) (k:Nat) (f:Addr) (fd:FuncData) (ps:List Str) (sp:Sp):Prop where
 len:∀ vs H Q E,sp vs H Q E->vs.length=ps.length
 run:∀ (A:Around) (outer:List Env) (s:Shared) (H:Hp) (args:Args) (us:List Value) (vs:List V) (Q:VK) (E:XK),Room k A->Env0 P w K mg base A outer s H->BindsTo s fd args (ps.zip us)->Vals vs us->sp vs H Q E ->
  codeAny (model P w) A (.call (.ref f) args) (CR CX outer P w H s Q E) s
def FnOk.imp {k:Nat} {f:Addr} {sp':Sp} (F:FnOk P w K mg base CX k f fd ps sp)
  (h:∀ vs H Q E,sp' vs H Q E->sp vs H Q E):FnOk P w K mg base CX k f fd ps sp' :=
 ⟨fun vs H Q E q=>F.len vs H Q E (h _ _ _ _ q),fun A outer s H args us vs Q E hr he hb hv hs=>F.run A outer s H args us vs Q E hr he hb hv (h _ _ _ _ hs)⟩
section
variable {s':Shared}
def Inv.env0 (I:Inv X pq σ H s):Env0 X.prog X.w X.K X.mg X.base X.A X.stack s H :=
 ⟨I.ok.frames,I.ok.mod,I.bs,Jy I.ok.bsz I.sz,I.stack,I.stkFree,I.hok,I.bare⟩
def Inv.after (I:Inv X pq σ H s) (h:CE X.stack X.prog X.w H s Q u s'):EP X pq σ Q u s':=by
 obtain ⟨v,H',os,bare,un,hok,r,q⟩:=h;obtain ⟨hh,g,d,t,os'⟩:=s';obtain rfl:os'=s.os:=os;exists v,H',I.call (h':=hh) (g':=g) (d':=d) (t':=t) (ch:=[]) un hok bare (fun b z=>absurd z (by simp)),r,q
end
def Zi0 (sp:Sp) (dvs:List V) (E:XK) (t:TA):TE:=fun σ H Q=>t σ H fun vs H1=>sp (vs++dvs) H1 Q E
def Zah (K:W.Frag) (fd:FuncData) (ps:List Str) (ds:List Value):Prop :=
 ∀ (s:Shared) (us:List Value),K.In s.heap->(us++ds).length=ps.length->BindsTo s fd ⟨us,[]⟩ (ps.zip (us++ds))
def Zah.all (h:∀ us:List Value,us.length=ps.length->bindArgs fd ⟨us,[]⟩=pure (ps.zip us)):Zah K fd ps []:=fun s us _ hl=>by
 rw [Ga] at hl ⊢;exact .of_eq (h us hl)
def Zf6 (CX:CXT) (X:Cx) (E:XK):Prop:=∀ (pq:List (Addr×Obj)) (σ:St) (H:Hp) (s:Shared) (e:Value) (s':Shared),Inv X pq σ H s->CX X.stack H s E e s'->X.xe e s'
section
variable {k:Nat} {f:Addr} {dvs:List V} {ds:List Value} {E:XK} {x:Str} {p:Pos} {t:TA}
theorem Zlw (F:FnOk X.prog X.w X.K X.mg X.base CX k f fd ps sp) (hr:Room k X.A) (hb:Zah X.K fd ps ds) (hd:Vals dvs ds) (hx:Zf6 CX X E)
  (I:Inv X pq σ H s) (r:Vals vs us) (h:sp (vs++dvs) H Q E):wpAny (model X.prog X.w) X.A (call (.ref f) us) (EP X pq σ Q) X.xe s:=by
 have r2:Vals (vs++dvs) (us++ds):=r.append hd;have hl:(us++ds).length=ps.length:=by rw [<- r2.length]; exact F.len _ _ _ _ h
 refine wpAny_call (codeAny_mono (F.run X.A X.stack s H ⟨us,[]⟩ (us++ds) (vs++dvs) Q E hr I.env0 (hb s us I.kIn hl) r2 h) fun r s' hq=>?_);cases r with
 | error e=>exact hx pq σ H s e s' I hq
 | ok fl =>
  cases fl with
  | ret u=>exact I.after hq
  | next=>exact False.elim hq
  | brk=>exact False.elim hq
  | cont=>exact False.elim hq
def Zjl (F:FnOk X.prog X.w X.K X.mg X.base CX k f fd ps sp) (hr:Room k X.A) (hg:Gl X x) (hm:X.mg x=some (.ref f)) (hk:W.keepIn X.K (.ref f)=true) (hb:Zah X.K fd ps ds) (hd:Vals dvs ds) (hx:Zf6 CX X E)
  (ha:PA X (e::es) t) (hdb:(x == ("__debug__":Str))=false:=by decide) (he:starEach (e::es) X.env=(false,eval e X.env)::starEach es X.env:=by rfl) (hpl:(backTo pos (starEach es X.env)).any (·.1)=false:=by rfl) :
  PE X (.Call (.Name x p) (e::es) [] pos) (Zi0 sp dvs E t):=by
 intro pq s σ H Q I h;refine wpAny_Call_Name_kw (Zjv I hg hm ?_ hdb);refine W.callWith_K (h₀:=X.base) I.ok.mod.kin hk (thn (ha pos pq s σ H _ I h) fun us s1 ⟨vs,H1,I1,r,q⟩=>⟨I1.kIn,?_⟩) he hpl;exact Zlw F hr hb hd hx I1 r q
end
structure FnScope (N P:List Str) (sc:Scope):Prop where
 kind:sc.kind=.function
 co:sc.isCoroutine=false
 gen:sc.isGenerator=false
 nd:N.Nodup
 pre:N.take P.length=P
 par:∀ x∈P,sc.names.lookup x=some .local\/sc.names.lookup x=some .cell
 nofree:∀ y∈sc.names,y.2≠.free
theorem P7 {kindOf:Str->Option NameKind} {x:Str}:∀ {binds:List (Str×Value)} {m:Str->Option Value},(∀ v,(x,v)∉binds)->bindL kindOf binds m x=m x
 | [],_,_=>rfl
 | (n,v)::r,m,h=>by
  unfold bindL;rw [P7 fun w hw=>h w (Jj _ hw)]
  split
  ·have:x≠n:=by rintro rfl; exact h v Jl
   simp [this]
  ·rfl
theorem P9 {kindOf:Str->Option NameKind} {x:Str}:∀ {binds:List (Str×Value)} {m:Str->Option Value},(∀ v,(x,v)∉binds)->bindC kindOf binds m x=m x
 | [],_,_=>rfl
 | (n,v)::r,m,h=>by
  unfold bindC;rw [P9 fun w hw=>h w (Jj _ hw)]
  split
  ·rfl
  ·have:x≠n:=by rintro rfl; exact h v Jl
   simp [this]
theorem P8 {kindOf:Str->Option NameKind} {x:Str} {v:Value}:∀ {P:List Str} {vs:List Value} {i:Nat} {m:Str->Option Value},P.Nodup->P[i]?=some x->vs[i]?=some v->kindOf x=some .local ->
  bindL kindOf (P.zip vs) m x=some v
 | [],_,_,_,_,h,_,_=>by simp at h
 | _::_,[],_,_,_,_,h,_=>by simp at h
 | p::P,w::vs,0,m,nd,h1,h2,hk=>by
  simp at h1 h2; subst h1; subst h2;show bindL kindOf ((p,w)::P.zip vs) m p=_;unfold bindL;rw [P7 fun v hv=>(G7.mp nd).1 (List.of_mem_zip hv).1,Df hk];simp
 | p::P,w::vs,i+1,m,nd,h1,h2,hk=>by
  show bindL kindOf ((p,w)::P.zip vs) m x=_;unfold bindL;exact P8 (i:=i) (G7.mp nd).2 (by simpa using h1) (by simpa using h2) hk
theorem Na {kindOf:Str->Option NameKind} {x:Str} {v:Value}:∀ {P:List Str} {vs:List Value} {i:Nat} {m:Str->Option Value},P.Nodup->P[i]?=some x->vs[i]?=some v->kindOf x≠some .local ->
  bindC kindOf (P.zip vs) m x=some v
 | [],_,_,_,_,h,_,_=>by simp at h
 | _::_,[],_,_,_,_,h,_=>by simp at h
 | p::P,w::vs,0,m,nd,h1,h2,hk=>by
  simp at h1 h2; subst h1; subst h2;show bindC kindOf ((p,w)::P.zip vs) m p=_;unfold bindC;rw [P9 fun v hv=>(G7.mp nd).1 (List.of_mem_zip hv).1,De hk];simp
 | p::P,w::vs,i+1,m,nd,h1,h2,hk=>by
  show bindC kindOf ((p,w)::P.zip vs) m x=_;unfold bindC;exact Na (i:=i) (G7.mp nd).2 (by simpa using h1) (by simpa using h2) hk
def start (N:List Str) (vs:List V):St:=vs.map some++List.replicate (N.length-vs.length) none
def cxOf (CX:CXT) (P:Program) (w:World) (K:W.Frag) (mg:Str->Option Value) (base:Heap) (N:List Str) (qual:Str) (scope:Scope) (f:Addr) (cd:Value) (A:Around) (outer:List Env) (s:Shared) (H:Hp) (E:XK):Cx where
 prog:=P
 w:=w
 K:=K
 mg:=mg
 base:=base
 A:=A.deeper (envOfC qual scope s.heap.objs.size f cd)
 N:=N
 s₀:=s
 H₀:=H
 env:=envOfC qual scope s.heap.objs.size f cd
 outer:=outer
 stack:=envOfC qual scope s.heap.objs.size f cd::outer
 ex:=[]
 calm:=true
 fn:=fun _=>true
 pn:=[]
 xe:=fun e s'=>wpAny (model P w) (A.deeper (envOfC qual scope s.heap.objs.size f cd)) (leaving (envOfC qual scope s.heap.objs.size f cd) e) (fun _ s''=>CX outer H s E e s'') (fun e' s''=>CX outer H s E e' s'') s'
def Zbq {sc:Scope} {n:Nat} {x:Str} (h:sc.names.lookup x=some .cell):∃ c,(cellsFrom n sc.names []).lookup x=some c:=by
 have q:=W.cellsFrom_some sc.names n [] (.inl h);exact Option.isSome_iff_exists.mp q
theorem Zev {scope:Scope} {f:Addr} {cd:Value} {outer:List Env} {s1:Shared} {E:XK} 
  (S:FnScope N ps scope) (hd:A.handled=none) (e0:Env0 P w K mg base A outer s H) (hl:vs.length=ps.length) (r:Vals vs us)
  (x:InCallC s s.heap.objs.size (bindL (envOfC qual scope s.heap.objs.size f cd).kindOf (ps.zip us) fun _=>none) (cellsFrom (s.heap.objs.size+1) scope.names []) (bindC (envOfC qual scope s.heap.objs.size f cd).kindOf (ps.zip us) fun _=>none) s1) :
  Inv (cxOf CX P w K mg base N qual scope f cd A outer s H E) [] (start N vs) H s1:=by
 have hpl:ps.length<=N.length:=by have:=congrArg List.length S.pre; rw [Jz] at this; lia
 obtain ⟨h1,tk,rfl,hk⟩:=x.done;have noA:∀ b:Addr,b∉(cxOf CX P w K mg base N qual scope f cd A outer s H E).ex:=fun b z=>absurd (show b∈([]:List Addr) from z) (by simp);refine ⟨⟨e0.mod,S.kind,rfl,rfl,Jf _,fun y z c h1 h2=>?_,fun y hy=>?_,fun y c _ h=>?_,fun _=>hd,Around.frames_deeper e0.frames,.inr ⟨rfl,rfl⟩,fun b z=>absurd z (noA b),e0.bs,e0.bsz,fun b _ _=>noA b,fun b z=>absurd z (noA b),e0.funs,e0.frf⟩,
  rfl,e0.bare,Un.kept hk,⟨_,x.toInCall.ns,fun i y v h1 h2 h3=>?_⟩,fun y c h=>⟨_,x.cell y c h⟩,e0.hok.fresh (Jf _),fun y c h=>?_,fun p hp=>absurd (show p∈([]:List (Addr×Obj)) from hp) (by simp),e0.hok.kept hk,?_⟩
 ·exact name_of_addr x.apart (PySem.mem_of_lookup h1) (PySem.mem_of_lookup h2)
 ·have hy:scope.names.lookup y=some .cell\/scope.names.lookup y=some .free:=hy;rcases hy with hy | hy
  ·exact Zbq hy
  ·exact absurd rfl (S.nofree _ (PySem.mem_of_lookup hy))
 ·exact Fp (x.above y c (PySem.mem_of_lookup h))
 ·have hi:i<vs.length:=by
   unfold start at h2
   by_cases hi:i<vs.length
   ·exact hi
   ·rw [Gu (by simpa using hi)] at h2;rw [List.getElem?_replicate] at h2
    split at h2 <;> cases h2
  have ha:vs[i]?=some v:=by
   unfold start at h2;rw [Jx (by simpa using hi),Js] at h2;cases e:vs[i]? with
   | none=>rw [e] at h2; cases h2
   | some a=>rw [e] at h2; cases h2; rfl
  obtain ⟨u,hu,rv⟩:=r.get ha;have hp:ps[i]?=some y:=by
   rw [<- S.pre,List.getElem?_take_of_lt (by lia)]; exact h1
  have ndP:ps.Nodup:=by rw [<- S.pre]; exact S.nd.sublist (List.take_sublist _ _)
  exists u,rv,?_;rcases S.par y (Gb hp) with k | k
  ·exact .inl ⟨k,P8 ndP hp hu k⟩
  ·obtain ⟨c,e⟩:=Zbq (n:=s.heap.objs.size+1) k;refine .inr ⟨.inl k,c,e,?_⟩;have q:=x.cell y c e;rw [Na ndP hp hu (by show scope.names.lookup y≠_; rw [k]; decide)] at q;exact q
 ·exact e0.hok.fresh (Fp (x.above y c (PySem.mem_of_lookup h)))
 ·unfold start;show _=N.length;rw [Jc,Ja,Gr];lia
theorem Zoy {k:Nat} {f:Addr} {name:Str} {params:Arguments} {body:List Stmt} {scope:Scope} {dV kV doc pm cdv ct oc:Value} {an od:Option Addr}
  {osl:Array (Option Value)} {N ps:List Str} {sp:Sp} (lk:K.lookup f=some ⟨oc,od,.func (W.fnOf name qual params body scope dV kV doc pm an cdv ct),osl⟩) (hcd:W.codeIn K cdv qual=true) (S:FnScope N ps scope)
  (len:∀ vs H Q E,sp vs H Q E->vs.length=ps.length)
  (hbody:∀ (A:Around) (outer:List Env) (s:Shared) (H:Hp) (vs:List V) (Q:VK) (E:XK),Room k (A.deeper (envOfC qual scope s.heap.objs.size f cdv))->sp vs H Q E ->
   ∃ t,PSs (cxOf CX P w K mg base N qual scope f cdv A outer s H E) body t/\t { nx:=fun _ H'=>Q .non H',rt:=Q } (start N vs) H) :
  FnOk P w K mg base CX (k+1) f (W.fnOf name qual params body scope dV kV doc pm an cdv ct) ps sp:=by
 refine ⟨len,fun A outer s H args us vs Q E hr e0 hb r hsp=>?_⟩;have hl:=len _ _ _ _ hsp;have KX:K.In s.heap:=e0.mod.kin.keeps fun b o e=>(e0.bs b o e).1;have lim:s.heap.NoLimit:=e0.mod.nolimit.keeps fun b o e=>(e0.bs b o e).1;have hkind:∀ y∈ps.zip us,scope.names.lookup y.1=some .local\/(scope.names.lookup y.1=some .cell/\((cellsFrom (s.heap.objs.size+1) scope.names []).lookup y.1).isSome=true):=fun ⟨n,v⟩ hy=>by
  rcases S.par n (List.of_mem_zip hy).1 with q | q
  ·exact .inl q
  ·exact .inr ⟨q,W.cellsFrom_some _ _ _ (.inl q)⟩
 refine codeAny_call_function hr.depth (KX _ _ lk) rfl S.co S.gen rfl (W.codeRec_of KX hcd) (hb _ _ _ _ ?_);refine wpAny_newFunctionEnv_cells S.kind hkind fun env he s1 x=>?_;subst he;refine ⟨lim.keeps x.toInCall.keep,codeAny_func ?_⟩;obtain ⟨t,ht,hq⟩:=hbody A outer s H vs Q E (hr.deeper _) hsp;have I:Inv (cxOf CX P w K mg base N qual scope f cdv A outer s H E) [] (start N vs) H s1:=Zev S hr.hd e0 hl r x;refine Dm (ht [] s1 (start N vs) H _ I hq) (fun fl s' hs=>?_) fun e s' hs=>hs;have fin:∀ {σ':St} {H':Hp} {v:V} {u:Value},Inv (cxOf CX P w K mg base N qual scope f cdv A outer s H E) [] σ' H' s'->RelV v u->Q v H'->CE outer P w H s Q u s' :=
  fun {σ' H' v u} J rv q=>⟨v,H',J.os,J.bare,J.base,J.hok,rv,q⟩
 cases fl with
 | ret u =>
  obtain ⟨v,σ',H',J,rv,q⟩:=hs;exact fin J rv q
 | next =>
  obtain ⟨σ',H',J,q⟩:=hs;exact fin (v:=V.non) (u:=Value.none) J rfl q
 | brk =>
  obtain ⟨_,_,_,q⟩:=hs;exact False.elim q
 | cont =>
  obtain ⟨_,_,_,q⟩:=hs;exact False.elim q
section
variable {x:Str} {p:Pos} {t:TA} {id T:String} {r:List V->Hp->VK->Prop}
def tCB (r:List V->Hp->VK->Prop) (t:TA):TE:=fun σ H Q=>t σ H fun vs H1=>r vs H1 Q
def Zo (hc:Xv X (.builtin id) r) (hg:Gl X x) (hm:X.mg x=none) (hv:bootBuiltins x=some (.builtin id)) (ha:PA X (e::es) t) (hn:x≠"__name__":=by decide) (hdb:(x == ("__debug__":Str))=false:=by decide)
  (he:starEach (e::es) X.env=(false,eval e X.env)::starEach es X.env:=by rfl) (hpl:(backTo pos (starEach es X.env)).any (·.1)=false:=by rfl):PE X (.Call (.Name x p) (e::es) [] pos) (tCB r t):=by
 intro pq s σ H Q I h;refine wpAny_Call_Name_kw (Sq I hg hm hv ?_ hn hdb);exact PyProof.Rows.callWith_builtin1 (thn (ha pos pq s σ H _ I h) fun us s1 ⟨vs,H1,I1,r1,q1⟩=>hc pq s1 σ H1 vs us Q I1 r1 q1) he hpl
def Xa (hc:Xv X (.type T) r) (hg:Gl X x) (hm:X.mg x=none) (hv:bootBuiltins x=some (.type T)) (ha:PA X (e::es) t) (hn:x≠"__name__":=by decide) (hdb:(x == ("__debug__":Str))=false:=by decide)
  (he:starEach (e::es) X.env=(false,eval e X.env)::starEach es X.env:=by rfl) (hpl:(backTo pos (starEach es X.env)).any (·.1)=false:=by rfl):PE X (.Call (.Name x p) (e::es) [] pos) (tCB r t):=by
 intro pq s σ H Q I h;refine wpAny_Call_Name_kw (Sq I hg hm hv ?_ hn hdb);exact PyProof.Rows.callWith_type1 (thn (ha pos pq s σ H _ I h) fun us s1 ⟨vs,H1,I1,r1,q1⟩=>hc pq s1 σ H1 vs us Q I1 r1 q1) he hpl
end
end L2
variable {H I H' I' H1:L2.Hp} {X:L2.Cx} {σ:L2.St} {v y:L2.V} {vs ys:List L2.V} {Q:L2.VK} {te ta tb ti:L2.TE} {wi:L2.TI} {sp:L2.Sp} {kvs:List (List L2.Key×L2.V)} {CX:L2.CXT}
namespace HT
open PySem PyProof.Rows
def lexLt:List Int->List Int->Bool
 | [],[]=>false
 | [],_::_=>true
 | _::_,[]=>false
 | x::xs,y::ys=>if x=y then lexLt xs ys else decide (x<y)
def lexLt_cons (x y:Int) (xs ys:List Int):lexLt (x::xs) (y::ys)=if x=y then lexLt xs ys else decide (x<y):=rfl
def R7:lexLt [] []=false:=rfl
def V9 (y:Int) (ys:List Int):lexLt [] (y::ys)=true:=rfl
def Wu (x:Int) (xs:List Int):lexLt (x::xs) []=false:=rfl
section
def cat_tup {t b:Addr} {vs ws:List Value} {Q:Value->Shared->Prop} (ht:IsTup s.heap t vs.toArray) (hb:IsTup s.heap b ws.toArray) (hv:vs≠[])
  (h1:ws=[]->Q (.ref t) s) (h2:ws≠[]->Q (.ref s.heap.objs.size) { s with heap:=s.heap.push { cls:=.type "tuple",data:=.seq (vs++ws).toArray } })
  (hsz:vs.length+ws.length<=sizeLine):wpAny (model prog w) A (binaryOp .Add (.ref t) (.ref b)) Q E s:=by
 obtain ⟨⟨cls,dd,data,sl⟩,ho,hc,n,hd⟩:=id ht;obtain ⟨⟨cls2,dd2,data2,sl2⟩,ho2,hc2,n2,hd2⟩:=id hb;simp only at hc hd hc2 hd2;subst hc hd hc2 hd2;have e:vs.toArray++ws.toArray=(vs++ws).toArray:=by simp
 by_cases hw:ws=[]
 ·exact concat_meets ⟨_,ho,rfl⟩ ⟨_,ho2,rfl⟩ noFill_tuple_add seq_tuple_add PySem.F.slot_tuple_add PySem.F.entry_tuple_add (PySem.F.args_tuple_add_2 _ _)
   (tuple_addW1 t b vs.toArray ws.toArray n n2 dd dd2 sl sl2 (by simpa using hv) (by simp [hw])) ⟨ho,ho2,h1 hw⟩
 ·refine concat_meets ⟨_,ho,rfl⟩ ⟨_,ho2,rfl⟩ noFill_tuple_add seq_tuple_add PySem.F.slot_tuple_add PySem.F.entry_tuple_add (PySem.F.args_tuple_add_2 _ _)
   (tuple_addW2 t b vs.toArray ws.toArray n n2 dd dd2 sl sl2 (by simpa using hv) (by simpa using hw) (by rw [Jg,Jg]; exact hsz)) ⟨ho,ho2,?_⟩
  rw [e];exact h2 hw
def sIx (n d:Nat):Option Int->Nat
 | none=>d
 | some v=>if v<0 then (v+(n:Int)).toNat else min v.toNat n
def sIx_none (n d:Nat):sIx n d none=d:=rfl
theorem sIx_nat (n d k:Nat):sIx n d (some (k:Int))=min k n:=by
 show (if (k:Int)<0 then ((k:Int)+(n:Int)).toNat else min (k:Int).toNat n)=min k n;rw [De (by lia),Gs]
theorem Zlu (n d:Nat) (hd:d<=n) (o:Option Int):sIx n d o<=n:=by
 cases o with
 | none=>exact hd
 | some v =>
  show (if v<0 then (v+(n:Int)).toNat else min v.toNat n)<=n
  by_cases hv:v<0
  ·rw [Df hv]; lia
  ·rw [De hv]; exact Nat.min_le_right _ _
theorem Zfr (v:Int) (n d:Nat):(if v<0 then max (v+(n:Int)) 0 else min v (n:Int))=((sIx n d (some v):Nat):Int):=by
 show (if v<0 then max (v+(n:Int)) 0 else min v (n:Int))=(((if v<0 then (v+(n:Int)).toNat else min v.toNat n):Nat):Int)
 by_cases hv:v<0
 ·simp only [Df hv]; lia
 ·simp only [De hv]; lia
theorem Zci (lo hi:Option Int) (n:Nat):Builtin.Slice.sliceAdjust lo hi 1 (n:Int)=(((sIx n 0 lo:Nat):Int),((sIx n n hi:Nat):Int)):=by
 have h1:¬ ((1:Int)<0):=by lia
 unfold Builtin.Slice.sliceAdjust;simp only [h1,if_false];refine Prod.ext ?_ ?_
 ·cases lo with
  | none=>rfl
  | some v=>exact Zfr v n 0
 ·cases hi with
  | none=>rfl
  | some v=>exact Zfr v n n
theorem Zbz (i j:Nat):Builtin.Slice.slicePlaces (i:Int) (j:Int) 1=j-i:=by
 unfold Builtin.Slice.slicePlaces;have h1:(1:Int) > 0:=by lia
 simp only [h1,if_true,Int.ediv_one]
 split <;> lia
theorem Ta {v:Value} {o:Option Int} {Q:Option Int->Shared->Prop} (p:IsPart v o) (h:Q o s):wpAny (model prog w) A (Builtin.Slice.slicePartIndex v) Q E s:=by
 cases p with
 | none=>exact slicePart_none h
 | int i t=>exact slicePart_int h
def sliceApplied_gen {sl:Addr} {vl vu:Value} {lo:Option Int} {n:Nat} {Q:Int×Int×Nat->Shared->Prop} (hs:s.heap.IsSliceOf sl vl vu .none) (pl:IsPart vl lo) (pu:IsPart vu hi)
  (h:Q (((sIx n 0 lo:Nat):Int),1,sIx n n hi-sIx n 0 lo) s):wpAny (model prog w) A (Builtin.Slice.sliceApplied (.ref sl) (pure (n:Int))) Q E s:=by
 obtain ⟨os,hos,hcs,hds⟩:=id hs;unfold Builtin.Slice.sliceApplied Builtin.Slice.sliceFields;refine Fz (Fz (wpAny_field hos hds (x:=vl) rfl (Fz (wpAny_field hos hds (x:=vu) rfl (Fz (wpAny_field hos hds (x:=.none) rfl (Da ?_)))))));refine Fz (slicePart_none ?_);show wpAny _ _ (if ((1:Int) == 0)=true then _ else _) _ _ s;rw [De nofun];refine Fz (Ta pl (Fz (Ta pu (Fz (Da ?_)))));show wpAny _ _ (match Builtin.Slice.sliceAdjust lo hi 1 (n:Int) with | (lo,hi)=>pure (lo,(1:Int),Builtin.Slice.slicePlaces lo hi 1)) _ _ s;rw [Zci lo hi n];show wpAny _ _ (pure (((sIx n 0 lo:Nat):Int),(1:Int),Builtin.Slice.slicePlaces ((sIx n 0 lo:Nat):Int) ((sIx n n hi:Nat):Int) 1)) _ _ s
 rw [Zbz];exact Da h
theorem Zgn (xs:Array Value) (i k:Nat):((List.range k).filterMap fun (m:Nat)=>xs[((i:Int)+(m:Int)*1).toNat]?).toArray=((xs.toList.drop i).take k).toArray:=by
 have e:(fun (m:Nat)=>xs[((i:Int)+(m:Int)*1).toNat]?)=fun m=>xs[i+m]?:=by
  funext m
  have:((i:Int)+(m:Int)*1).toNat=i+m:=by lia
  rw [this]
 rw [e];have:=pick_run xs i k;rw [List.filterMap_map] at this;have e2:((fun x=>xs[x]?) ∘ fun x=>i+x)=fun m=>xs[i+m]?:=rfl;rw [e2] at this;rw [this]
theorem getItem_tuple_cut {t sl:Addr} {vl vu:Value} {lo:Option Int} {Q:Value->Shared->Prop} (ht:IsTup s.heap t items) (hs:s.heap.IsSliceOf sl vl vu .none) (pl:IsPart vl lo) (pu:IsPart vu hi)
  (hw:¬ (sIx items.size 0 lo=0/\sIx items.size items.size hi=items.size))
  (h:Q (.ref s.heap.objs.size) { s with heap:=s.heap.push { cls:=.type "tuple",data:=.seq ((items.toList.drop (sIx items.size 0 lo)).take (sIx items.size items.size hi-sIx items.size 0 lo)).toArray } })
  (hsz:items.size<=sizeLine):wpAny (model prog w) A (getItem (.ref t) (.ref sl)) Q E s:=by
 have htake:sizeOk (.seq ((items.toList.drop (sIx items.size 0 lo)).take (sIx items.size items.size hi-sIx items.size 0 lo)).toArray):=by
  show ((items.toList.drop (sIx items.size 0 lo)).take (sIx items.size items.size hi-sIx items.size 0 lo)).toArray.size<=sizeLine;rw [Jg,Jz,Gh,B1];lia
 have hj:sIx items.size items.size hi<=items.size:=Zlu _ _ (Jf _) hi;obtain ⟨os,hos,hcs,hds⟩:=id hs;have hTs:s.TypeIs (.ref sl) "slice":=⟨os,hos,hcs⟩;unfold getItem
 try with_reducible refine wpAny_holding ?_
 first | refine Fz (Da ?_) | skip
 refine Fz (wpAny_sequenceKey ht.typeIs nofun ?_);refine Fz (wpAny_callSpecial?_slot (name:=Str.ofString "__getitem__") ht.typeIs PyProof.Rows.slot_tuple_getitem
  (wpAny_call_entry PyProof.Rows.slot_tuple_getitem ht.typeIs entry_tuple_getitem ?_ (args_tuple_getitem _ _)))
 show wpAny _ _ (Builtin.Tuple.tupleItemsOf (.ref t) >>= _) _ _ s;refine Fz (tupleItemsOf_ ht ?_);refine Fz (wpAny_typeOf hTs ?_);rw [Df nofun];refine Fz (sliceApplied_gen hs pl pu ?_);have hno:¬ ((((sIx items.size 0 lo:Nat):Int) == 0 && (1:Int) == 1 && (sIx items.size items.size hi-sIx items.size 0 lo) == items.size)=true):=by
  intro q;rw [B9,B9] at q;have q1:((sIx items.size 0 lo:Nat):Int)=0:=eq_of_beq q.1.1;have q2:sIx items.size items.size hi-sIx items.size 0 lo=items.size:=eq_of_beq q.2;exact hw ⟨by lia,by lia⟩
 show wpAny _ _ (if (((sIx items.size 0 lo:Nat):Int) == 0 && (1:Int) == 1 && (sIx items.size items.size hi-sIx items.size 0 lo) == items.size)=true then _ else _) _ _ s;rw [De hno,Zgn]
 first
  | exact Fz (m:=Builtin.Tuple.tupleExact _) (wpAny_newObj_type (Da ⟨_,rfl,Da h⟩) htake)
  | exact Fz (m:=Builtin.Tuple.tupleExact _) (wpAny_newObj_type (Fz (Da (Da ⟨_,rfl,Da h⟩))) htake)
  | exact Fz (Fz (m:=Builtin.Tuple.tupleExact _) (wpAny_newObj_type (Da (Da ⟨_,rfl,Da h⟩)) htake))
  | exact Fz (Fz (m:=Builtin.Tuple.tupleExact _) (wpAny_newObj_type (Da ⟨_,rfl,Da h⟩) htake))
end
end HT
namespace L2
open PySem PySem.Spec PyProof.Rows
abbrev TO:=St->Hp->(Option Int->Hp->Prop)->Prop
variable {ts:L2.TO}
def PO (X:Cx) (e:Option Expr) (t:TO):Prop :=
 ∀ (pq:List (Addr×Obj)) (s:Shared) (σ:St) (H:Hp) (Q:Option Int->Hp->Prop),Inv X pq σ H s->t σ H Q ->
  wpAny (model X.prog X.w) X.A (evalPart e X.env) (fun u s'=>∃ o H',Inv X pq σ H' s'/\IsPart u o/\Q o H') X.xe s
def Zcu:TO:=fun _ H Q=>Q none H
def Zk7 (t:TE):TO:=fun σ H Q=>t σ H fun x H1=>∃ i,x=.int i/\Q (some i) H1
section
variable {lo hi:Option Expr} {tl th:TO} {p2:Pos}
def Yg:PO X none Zcu:=by
 intro pq s σ H Q I h;rw [evalPart_none];exact Da ⟨none,H,I,.none,h⟩
def Z7 (h:PE X e te):PO X (some e) (Zk7 te):=by
 intro pq s σ H Q I hw;rw [evalPart_some];refine thn (h pq s σ H _ I hw) fun u s1 hz=>?_;obtain ⟨x,H1,I1,r1,q1⟩:=hz;obtain ⟨i,rfl,q⟩:=q1;obtain ⟨t,rfl⟩:=r1;exists some i,H1,I1,.int i t,q
def SlR (X:Cx) (r:V->Option Int->Option Int->Hp->VK->Prop):Prop :=
 ∀ (pq:List (Addr×Obj)) (s:Shared) (σ:St) (H:Hp) (x:V) (v vl vu:Value) (lo hi:Option Int) (sl:Addr) (Q:VK),Inv X pq σ H s->RelV x v->s.heap.IsSliceOf sl vl vu .none->IsPart vl lo->IsPart vu hi->r x lo hi H Q ->
  ∃ T id,typeLookup (.type T) "__getitem__"=pure (some (.builtin id))/\s.TypeIs v T/\wpAny (model X.prog X.w) X.A (getItem v (.ref sl)) (EP X pq σ Q) X.xe s
def tSl (r:V->Option Int->Option Int->Hp->VK->Prop) (te:TE) (tl th:TO):TE:=fun σ H Q=>te σ H fun x H1=>tl σ H1 fun l H2=>th σ H2 fun u H3=>r x l u H3 Q
def Z5 {r:V->Option Int->Option Int->Hp->VK->Prop} (hr:SlR X r) (he:PE X e te) (hl:PO X lo tl) (hu:PO X hi th):PE X (.Subscript e (.Slice lo hi none p2) pos) (tSl r te tl th):=by
 intro pq s σ H Q I h;refine Subscript_ (thn (he pq s σ H _ I h) fun v s1 hz=>?_);obtain ⟨x,H1,I1,r1,q1⟩:=hz;refine wpAny_Slice (thn (hl pq s1 σ H1 _ I1 q1) fun vl s2 ⟨l,H2,I2,pl,q2⟩=>thn (hu pq s2 σ H2 _ I2 q2) fun vu s3 hz=>?_);obtain ⟨u,H3,I3,pu,q3⟩:=hz;rw [evalPart_none];refine Da ?_;have I4:Inv X pq σ H3 { s3 with heap:=s3.heap.push { cls:=.type "slice",data:=.fields #[vl,vu,.none] } }:=I3.kept (t':=s3.toks) fun b ob q=>Db _ q;obtain ⟨T,id,hT,ht,hg⟩:=hr pq { s3 with heap:=s3.heap.push { cls:=.type "slice",data:=.fields #[vl,vu,.none] } } σ H3 x v vl vu l u s3.heap.objs.size Q I4 r1 (Heap.IsSliceOf.new ..) pl pu q3
 show wpAny (model X.prog X.w) X.A (subscriptTail e (.Slice lo hi none p2) v (.ref s3.heap.objs.size)) (EP X pq σ Q) X.xe { s3 with heap:=s3.heap.push { cls:=.type "slice",data:=.fields #[vl,vu,.none] } };exact tail_any (ops:=[.ref s3.heap.objs.size,v]) ht hT hg (by with_unfolding_all rfl)
def cutV (xs:List V) (lo hi:Option Int):List V:=(xs.drop (HT.sIx xs.length 0 lo)).take (HT.sIx xs.length xs.length hi-HT.sIx xs.length 0 lo)
theorem Sz (xs:List V) (lo hi:Option Int):(cutV xs lo hi).length<=xs.length:=by
 unfold cutV;rw [Jz,Gh];lia
def Zgj (K:W.Frag):R2:=fun x y H Q=>∃ a b xs ys,x=.ref a/\y=.ref b/\SqT K H a xs/\SqT K H b ys/\xs≠[]/\xs.length+ys.length<=sizeLine /\
 (ys=[]->Q (.ref a) H)/\(ys≠[]->∀ p,H p=none->Q (.ref p) (upd H p (.tup (xs++ys))))
theorem Vals.nil_iff {xs:List V} (r:Vals xs us):us=[]↔xs=[]:=by
 cases r with
 | nil=>simp
 | cons _ _=>simp
def Nv:OpR X (binaryOp .Add) (Zgj X.K):=by
 intro pq s σ H x y v u Q I rx ry h;obtain ⟨a,b,xs,ys,rfl,rfl,ha,hb,hx,hz,q1,q2⟩:=h;cases rx;cases ry;obtain ⟨its,r1,p1,_⟩:=I.tuple ha;obtain ⟨its2,r2,p2,_⟩:=I.tuple hb;refine HT.cat_tup p1 p2 (fun z=>hx (r1.nil_iff.mp z)) (fun z=>⟨.ref a,H,I,rfl,q1 (r2.nil_iff.mp z)⟩) (fun z=>?_) (by rw [<- r1.length,<- r2.length]; exact hz);exists .ref s.heap.objs.size,_,I.laid (t':=s.toks) (o:=.tup (xs++ys)) (fun b ob q=>Db _ q) (Jf _) ?_,rfl,q2 (fun w=>z (r2.nil_iff.mpr w)) _ (I.hok.fresh (Jf _));exists by rw [Jc]; exact hz,_,r1.append r2,W1.new _ _
end
def ixN (n:Nat) (i:Int):Option Nat:=if 0<=i then (if i<n then some i.toNat else none) else if -(n:Int)<=i then some (i+n).toNat else none
def atI {α:Type} (xs:List α) (i:Int):Option α:=(ixN xs.length i).bind fun j=>xs[j]?
theorem Zeq {n:Nat} {i:Int} {j:Nat} (h:ixN n i=some j):seqIndex? i n=some j/\j<n/\-(n:Int)<=i/\i<n:=by
 unfold ixN at h
 by_cases h0:0<=i
 ·rw [Df h0] at h
  by_cases h1:i<n
  ·rw [Df h1] at h;have e:i.toNat=j:=Di h;exists by rw [seqIndex_of h0 h1,e],by lia,by lia,h1
  ·rw [De h1] at h; cases h
 ·rw [De h0] at h
  by_cases h1:-(n:Int)<=i
  ·rw [Df h1] at h;have e:(i+n).toNat=j:=Di h;exact ⟨by rw [seqIndex_neg (by lia) h1,e],by lia,h1,by lia⟩
  ·rw [De h1] at h; cases h
theorem Zae {α:Type} {xs:List α} {i:Int} {v:α} (h:atI xs i=some v):∃ j,seqIndex? i xs.length=some j/\xs[j]?=some v/\j<xs.length/\-(xs.length:Int)<=i/\i<xs.length:=by
 unfold atI at h;cases e:ixN xs.length i with
 | none=>rw [e] at h; cases h
 | some j =>
  rw [e] at h;obtain ⟨h1,h2,h3,h4⟩:=Zeq e;exists j,h1,h,h2,h3,h4
theorem Vw {α:Type} {xs:List α} {j:Nat} {v:α} (h:xs[j]?=some v):atI xs (j:Int)=some v:=by
 have hj:j<xs.length:=(Jh.mp h).1;have e:ixN xs.length (j:Int)=some j:=by
  unfold ixN;rw [Df (by lia),Df (by lia)]; simp
 unfold atI; rw [e]; exact h
def Zkr (b:Expr):Prop:=∀ o i,subscripted b false o i=operate [o,i] (getItem o i)
def IxR (X:Cx) (r:R2):Prop :=
 ∀ (value slice:Expr) (pq:List (Addr×Obj)) (s:Shared) (σ:St) (H:Hp) (x y:V) (v u:Value) (Q:VK),Inv X pq σ H s->RelV x v->RelV y u->r x y H Q ->
  subscripted slice false v u=operate [v,u] (getItem v u)->wpAny (model X.prog X.w) X.A (subscriptTail value slice v u) (EP X pq σ Q) X.xe s
def MtR (X:Cx) (id:String) (r:V->List V->Hp->VK->Prop):Prop :=
 ∀ (pq:List (Addr×Obj)) (s:Shared) (σ:St) (H:Hp) (x:V) (xs:List V) (v:Value) (us:List Value) (Q:VK),Inv X pq σ H s->RelV x v->Vals xs us->r x xs H Q ->
  wpAny (model X.prog X.w) X.A (call (.builtin id) (v::us)) (EP X pq σ Q) X.xe s
section
variable {a b:Expr} 
def IxR.or {r r':R2} (h:IxR X r) (h':IxR X r'):IxR X (fun x y H Q=>r x y H Q\/r' x y H Q):=by
 intro value slice pq s σ H x y v u Q I rx ry q hs;rcases q with q | q
 ·exact h value slice pq s σ H x y v u Q I rx ry q hs
 ·exact h' value slice pq s σ H x y v u Q I rx ry q hs
def Z8 {r:R2} (hr:IxR X r) (ha:PE X a ta) (hb:PE X b tb) (hs:Zkr b):PE X (.Subscript a b pos) (tOp r ta tb):=by
 intro pq s σ H Q I h;exact Subscript_ (binT ha hb I h fun v u s2 x y H2 I2 rx ry q=>hr a b pq s2 σ H2 x y v u Q I2 rx ry q (hs _ _))
def rIxL (K:W.Frag):R2:=fun x y H Q=>∃ p xs i v,x=.ref p/\y=.int i/\SqL K H p xs/\atI xs i=some v/\Q v H
def rIxT (K:W.Frag):R2:=fun x y H Q=>∃ p xs i v,x=.ref p/\y=.int i/\SqT K H p xs/\atI xs i=some v/\Q v H
def rIxS:R2:=fun x y H Q=>∃ z i c,x=.str z/\y=.int i/\z.length<=sizeLine/\atI z.cps.toList i=some c/\Q (.str ⟨#[c]⟩) H
theorem Xk:IxR X (rIxL X.K):=by
 intro value slice pq s σ H x y v u Q I rx ry h hs;obtain ⟨p,xs,i,z,rfl,rfl,hq,he,q⟩:=h;cases rx;obtain ⟨t,rfl⟩:=ry;obtain ⟨its,r,pl,hz⟩:=I.list hq;obtain ⟨j,h1,h2,h3,h4,h5⟩:=Zae he;obtain ⟨w,ew,rw'⟩:=r.get h2;have hl:=r.length;have hn:=Rc;have fin:EP X pq σ Q w s:=⟨z,H,I,rw',q⟩
 by_cases h0:0<=i
 ·have hj:i.toNat=j:=by
   rw [seqIndex_of h0 h5] at h1;exact Di h1
  exact item_listR pl.isList h0 (by lia) (by rw [hj]; simpa using ew) fin hs
 ·have hj:(i+(its.toArray.size:Int)).toNat=j:=by
   rw [seqIndex_neg (by lia) h4] at h1;rw [Jg,<- hl];exact Di h1
  exact subscriptTail_builtinR (x:=w) pl.isList.typeIs slot_list_getitem.lookup
   (wpAny_getItem_list_neg (Q:=fun r s'=>r=w/\EP X pq σ Q r s') pl.isList (by lia) (by rw [Jg] <;> lia) (by lia) (by rw [hj]; simpa using ew) ⟨rfl,fin⟩) hs
theorem Zmp:IxR X (rIxT X.K):=by
 intro value slice pq s σ H x y v u Q I rx ry h hs;obtain ⟨p,xs,i,z,rfl,rfl,hq,he,q⟩:=h;cases rx;obtain ⟨t,rfl⟩:=ry;obtain ⟨its,r,pl,hz⟩:=I.tuple hq;obtain ⟨j,h1,h2,h3,h4,h5⟩:=Zae he;obtain ⟨w,ew,rw'⟩:=r.get h2;have hl:=r.length;have hn:=Rc;have fin:EP X pq σ Q w s:=⟨z,H,I,rw',q⟩;exact subscriptTail_builtinR (x:=w) pl.typeIs slot_tuple_getitem.lookup
  (getItem_tuple (j:=j) (Q:=fun r s'=>r=w/\EP X pq σ Q r s') pl (by lia) (by lia) (by rw [Jg,<- hl]; exact h1) (by simpa using ew) ⟨rfl,fin⟩) hs
theorem Zmq:IxR X rIxS:=by
 intro value slice pq s σ H x y v u Q I rx ry h hs;obtain ⟨z,i,c,rfl,rfl,hz,he,q⟩:=h;obtain ⟨t,rfl⟩:=rx;obtain ⟨t',rfl⟩:=ry;obtain ⟨j,h1,h2,h3,h4,h5⟩:=Zae he;have hl:z.cps.toList.length=z.length:=by simp [Str.length]
 rw [hl] at h1 h4 h5;have hn:=Rc;exact tail_any (typeIs_str s z t) slot_str_getitem.lookup (getItem_str (c:=c) (by
  have e1:decide (i < -(2 ^ 63:Int))=false:=Dh (by lia);have e2:decide (i≥2 ^ 63)=false:=Dh (by lia);rw [e1,e2,Bool.or_false]) (by rw [h1]; simpa using h2) ⟨.str ⟨#[c]⟩,H,I.tok _,⟨_,rfl⟩,q⟩) hs
def rIx (K:W.Frag):R2:=fun x y H Q=>rIxL K x y H Q\/rIxT K x y H Q\/rIxS x y H Q
def Zmr:IxR X (rIx X.K):=Xk.or (Zmp.or Zmq)
def Zb1 (its:List Value) (n j:Nat) (u:Value):Obj.mapSeq (·.setIfInBounds j u) { cls:=.type "list",data:=.seq its.toArray n }={ cls:=.type "list",data:=.seq (its.set j u).toArray n }:=by
 simp [Obj.mapSeq]
def Inv.lst {pq:List (Addr×Obj)} {σ:St} {H:Hp} {s:Shared} {p:Addr} {xs:List V} (I:Inv X pq σ H s) (h:H p=some (.lst xs)) :
  ∃ (its:List Value) (n:Nat),Vals xs its/\s.heap.get? p=some { cls:=.type "list",data:=.seq its.toArray n }/\xs.length<=sizeLine:=by
 obtain ⟨z,its,n,r,e⟩:=I.hok p _ h;exists its,n,r,e,z
def Inv.lstUpd {p:Addr} {xs:List V} {its':List Value} {n n':Nat} {f:Obj->Obj} (I:Inv X pq σ H s) (h:H p=some (.lst xs))
  (ho:s.heap.get? p=some { cls:=.type "list",data:=.seq its.toArray n }) (hf:f { cls:=.type "list",data:=.seq its.toArray n }={ cls:=.type "list",data:=.seq its'.toArray n' }) (r:Vals ys its') (hz:ys.length<=sizeLine) (t:Nat) :
  Inv X pq σ (upd H p (.lst ys)) { s with heap:=s.heap.update p f,toks:=t }:=by
 have e:(s.heap.update p f).get? p=some { cls:=.type "list",data:=.seq its'.toArray n' }:=by
  rw [Heap.get?_update_self f ho (by rw [hf] <;> rfl),hf]
 refine I.write (x:=p) (e:=p) (by rw [h]; trivial) (.inl rfl) (fun b u hb q=>(Heap.get?_update_other _ _ (Ne.symm hb)).trans q) ⟨_,e⟩ ?_;exists hz,its',n',r,e
def Zjj:V->V->V->Hp->(Hp->Prop)->Prop:=fun o i v H Q=>∃ p xs k j,o=.ref p/\i=.int k/\H p=some (.lst xs)/\ixN xs.length k=some j/\Q (upd H p (.lst (xs.set j v)))
theorem Ur:PSet X Zjj:=by
 intro pq s σ H o i v ov iv u Q I ro ri rv h;obtain ⟨p,xs,k,j,rfl,rfl,hp,hj,q⟩:=h;cases ro;obtain ⟨t,rfl⟩:=ri;obtain ⟨its,n,r,ho,hz⟩:=I.lst hp;obtain ⟨h1,h2,h3,h4⟩:=Zeq hj;have hl:=r.length;have hn:=Rc;have I':Inv X pq σ (upd H p (.lst (xs.set j v))) { s with heap:=s.heap.update p (Obj.mapSeq (·.setIfInBounds j u)) } :=
  I.lstUpd hp ho (Zb1 its n j u) (r.set rv j) (by rw [B7]; exact hz) s.toks
 by_cases h0:0<=k
 ·have hk:k.toNat=j:=by
   rw [seqIndex_of h0 h4] at h1;exact Di h1
  exact W.ki_setAt ho h0 (by lia) (by rw [Jg,<- hl]; exact h4) (by rw [hk]; exact ⟨_,I',q⟩)
 ·have hk:(k+(its.toArray.size:Int)).toNat=j:=by
   rw [seqIndex_neg (by lia) h3] at h1;rw [Jg,<- hl];exact Di h1
  exact W.ki_setBack ho (by lia) (by rw [Jg,<- hl]; exact h3) (by lia) (by rw [hk]; exact ⟨_,I',q⟩)
theorem Q2 (lo hi:Option Int) (n:Nat):(sliceBounds lo hi none n).1=((HT.sIx n 0 lo:Nat):Int)/\(sliceBounds lo hi none n).2.1=((HT.sIx n n hi:Nat):Int)/\(sliceBounds lo hi none n).2.2=1:=by
 exists ?_,?_,rfl
 ·cases lo with
  | none=>simp [sliceBounds,HT.sIx]
  | some i =>
   simp only [sliceBounds,HT.sIx,Option.getD_none,show (1:Int) > 0 by decide,if_true]
   by_cases h:i<0
   ·simp only [h,if_true] <;> lia
   ·simp only [h,if_false] <;> lia
 ·cases hi with
  | none=>simp [sliceBounds,HT.sIx]
  | some i =>
   simp only [sliceBounds,HT.sIx,Option.getD_none,show (1:Int) > 0 by decide,if_true]
   by_cases h:i<0
   ·simp only [h,if_true] <;> lia
   ·simp only [h,if_false] <;> lia
def Rm (its:List Value) (lo hi:Option Int):slicePick its.toArray lo hi none=((its.drop (HT.sIx its.length 0 lo)).take (HT.sIx its.length its.length hi-HT.sIx its.length 0 lo)).toArray:=by
 obtain ⟨h1,h2,h3⟩:=Q2 lo hi its.toArray.size;unfold slicePick;rw [h1,h2,h3];simp only [sliceRange_one,pick_run,Jg] <;> rfl
def rSlL (K:W.Frag):V->Option Int->Option Int->Hp->VK->Prop:=fun x lo hi H Q=>∃ a xs,x=.ref a/\SqL K H a xs/\∀ p,H p=none->Q (.ref p) (upd H p (.lst (cutV xs lo hi)))
theorem Vg:SlR X (rSlL X.K):=by
 intro pq s σ H x v vl vu lo hi sl Q I rx hs pl pu h;obtain ⟨a,xs,rfl,hx,q⟩:=h;cases rx;obtain ⟨its,r,ht,hz⟩:=I.list hx;have hlen:=r.length;refine ⟨"list",_,slot_list_getitem.lookup,ht.isList.typeIs,?_⟩;refine wpAny_getItem_list_slice ht.isList hs pl pu .none (by simp) ?_ (by rw [Jg] <;> lia);rw [Rm,<- hlen];refine ⟨.ref s.heap.objs.size,_,I.laid (t':=s.toks) (o:=.lst (cutV xs lo hi)) (fun b ob q=>Db _ q) (Jf _) ?_,rfl,q _ (I.hok.fresh (Jf _))⟩;exact ⟨Jy (Sz xs lo hi) hz,_,0,(r.drop (HT.sIx xs.length 0 lo)).take (HT.sIx xs.length xs.length hi-HT.sIx xs.length 0 lo),Dc _ rfl⟩
theorem P5:Xv X (.type "list") (fun xs H Q=>∃ p ys,xs=[.ref p]/\(SqL X.K H p ys\/SqT X.K H p ys)/\∀ l,H l=none->Q (.ref l) (upd H l (.lst ys))):=by
 intro pq s σ H xs us Q I r h;obtain ⟨p,ys,rfl,hq,q⟩:=h;obtain ⟨u,rfl,rx⟩:=T0 r;cases rx;have fin:∀ (its:List Value),Vals ys its->ys.length<=sizeLine->∀ (h':Heap) (c':Nat),(∀ b o',s.heap.get? b=some o'->h'.get? b=some o') ->
   h'.get? s.heap.objs.size=some { cls:=.type "list",dict:=none,data:=.seq its.toArray c',slots:=#[] }->EP X pq σ Q (.ref s.heap.objs.size) { s with heap:=h' }:=fun its r' hz h' c' kp e =>
  ⟨.ref s.heap.objs.size,_,I.laid (t':=s.toks) kp (Jf _) (show Xr X.prog X.w _ h' _ (.lst ys) from ⟨hz,its,c',r',e⟩),rfl,q _ (I.hok.fresh (Jf _))⟩
 rcases hq with hq | hq
 ·obtain ⟨its,r',pl,hz⟩:=I.list hq;have hlen:=r'.length;obtain ⟨o,ho,hc,n,hd⟩:=pl.isList;exact call_list_seq p (.inl rfl) ho hc hd (fun h' c' kp e=>fin its r' hz h' c' kp e) (by simp only [Jg] <;> lia)
 ·obtain ⟨its,r',pl,hz⟩:=I.tuple hq;have hlen:=r'.length;obtain ⟨o,ho,hc,n,hd⟩:=pl;exact call_list_seq p (.inr rfl) ho hc hd (fun h' c' kp e=>fin its r' hz h' c' kp e) (by simp only [Jg] <;> lia)
theorem Qn:Xv X (.type "tuple") (fun xs H Q=>∃ p ys,xs=[.ref p]/\((SqL X.K H p ys/\∀ l,H l=none->Q (.ref l) (upd H l (.tup ys)))\/(SqT X.K H p ys/\Q (.ref p) H))):=by
 intro pq s σ H xs us Q I r h;obtain ⟨p,ys,rfl,h⟩:=h;obtain ⟨u,rfl,rx⟩:=T0 r;cases rx;rcases h with ⟨hq,q⟩ | ⟨hq,q⟩
 ·obtain ⟨its,r',pl,hz⟩:=I.list hq;have hlen:=r'.length;refine call_tuple_list pl.isList (fun h' kp=>?_) (by simp only [Jg] <;> lia);have I1:Inv X pq σ H { s with heap:=h' }:=I.kept (t':=s.toks) kp;have I2:Inv X pq σ (upd H h'.objs.size (.tup ys)) { s with heap:=h'.push { cls:=.type "tuple",data:=.seq its.toArray } } :=
   I1.laid (t':=s.toks) (fun b o e=>Db _ e) (Jf _) (show Xr X.prog X.w _ _ _ (.tup ys) from ⟨hz,its,r',W1.new _ _⟩)
  exists .ref h'.objs.size,_,I2,rfl,q _ (I1.hok.fresh (Jf _))
 ·obtain ⟨its,r',pl,hz⟩:=I.tuple hq;exact call_tuple_same pl ⟨.ref p,H,I,rfl,q⟩
def tyV (K:W.Frag) (T:String) (x:V) (H:Hp):Prop:=match x with
 | .str _=>T="str"
 | .int _=>T="int"
 | .ref p=>(T="list"/\∃ xs,SqL K H p xs)\/(T="tuple"/\∃ o,K.lookup p=some o/\o.cls=.type "tuple"/\o.dict=none) \/
   (T="dict"/\((∃ kvs,H p=some (.dK kvs))\/∃ kvs,H p=some (.dT kvs)))\/(T="set"/\∃ S n,H p=some (.set S n))
 | _=>False
theorem Zhm {T:String} {x:V} {v:Value} (I:Inv X pq σ H s) (r:RelV x v) (ty:tyV X.K T x H) :
  s.TypeIs v T/\∀ a,v=.ref a->∃ ob,s.heap.get? a=some ob/\ob.dict=none:=by
 cases x with
 | str z =>
  obtain ⟨t,rfl⟩:=r;cases (show T="str" from ty);exists typeIs_str s z t,fun _ e=>nomatch e
 | int i =>
  obtain ⟨t,rfl⟩:=r;cases (show T="int" from ty);exists typeIs_int s i t,fun _ e=>nomatch e
 | ref p =>
  cases r;rcases ty with ⟨rfl,xs,hq⟩ | ⟨rfl,o,hk,hc,hd⟩ | ⟨rfl,hk⟩ | ⟨rfl,S,n,hk⟩
  ·obtain ⟨its,_,pl,_⟩:=I.list hq;exists pl.isList.typeIs,fun a e=>?_;cases e;obtain ⟨o,n,e,c,hd,_⟩:=pl;exists o,e,hd
  ·exists ⟨o,I.kIn p o hk,hc⟩,fun a e=>?_;cases e;exists o,I.kIn _ o hk,hd
  ·have z:∃ o,s.heap.get? p=some o/\o.ExactDict:=by
    rcases hk with ⟨kvs,hk⟩ | ⟨kvs,hk⟩
    ·obtain ⟨_,_,_,_,o,_,_,e,ex,_⟩:=I.hok p _ hk;exists o,e,ex
    ·obtain ⟨_,_,_,_,o,_,_,e,ex,_⟩:=I.hok p _ hk;exists o,e,ex
   obtain ⟨o,e,ex⟩:=z;exists ⟨o,e,ex.1⟩,fun a e2=>?_;cases e2;exists o,e,ex.2.1
  ·obtain ⟨o,_,_,_,e,ex,_⟩:=I.hok p _ hk;exists ⟨o,e,ex.1⟩,fun a e2=>?_;cases e2;exists o,e,ex.2.1
 | _=>exact False.elim ty
def tBM0 (K:W.Frag) (T:String) (r:V->List V->Hp->VK->Prop) (to:TE):TE:=fun σ H Q=>to σ H fun x H1=>tyV K T x H1/\r x [] H1 Q
def tBM (K:W.Frag) (T:String) (r:V->List V->Hp->VK->Prop) (to:TE) (t:TA):TE:=fun σ H Q=>to σ H fun x H1=>tyV K T x H1/\t σ H1 fun xs H2=>r x xs H2 Q
variable {o:Expr} {to:TE} {t:TA} {name:Str} {apos cpos:Pos} {T id:String} {r:V->List V->Hp->VK->Prop}
def Zh3 (pa:PlainAttrs T) (slot:Slot T name id) (hty:typeOf (.builtin id)=pure (.type "method_descriptor")) (hm:MtR X id r) (ho:PE X o to)
  (hbase:attributeBase o name X.env (eval o X.env)=eval o X.env:=by rfl) (hline:(apos.endLine == cpos.line)=true:=by rfl):PE X (.Call (.Attribute o name apos) [] [] cpos) (tBM0 X.K T r to):=by
 intro pq s σ H Q I h;refine wpAny_Call_method0_late hbase hline (thn (ho pq s σ H _ I h) fun v s1 hz=>?_);obtain ⟨x,H1,I1,r1,ty,q1⟩:=hz;obtain ⟨h1,h2⟩:=Zhm I1 r1 ty;exists T,id,pa,slot,hty,h1,h2,Calls.callWith_builtin rfl (PySem.evalArgs_none (hm pq s1 σ H1 x [] v [] Q I1 r1 .nil q1))
def Nu (pa:PlainAttrs T) (slot:Slot T name id) (hty:typeOf (.builtin id)=pure (.type "method_descriptor")) (hm:MtR X id r) (ho:PE X o to) (ha:PA X (e::es) t)
  (hbase:attributeBase o name X.env (eval o X.env)=eval o X.env:=by rfl)
  (hfew:((backTo cpos (starEach (e::es) X.env)).all (fun x=>!x.1) && (backToKw cpos (keywordEach [] X.env)).all (fun x=>x.1.isSome)
   && decide ((e::es).length+([]:List Keyword).length+(if ([]:List Keyword).isEmpty then 0 else 1)<30))=true:=by rfl)
  (hline:(apos.endLine == cpos.line)=true:=by rfl) (hs:starEach (e::es) X.env=(false,eval e X.env)::starEach es X.env:=by rfl) (hplain:(backTo cpos (starEach es X.env)).any (·.1)=false:=by rfl) :
  PE X (.Call (.Attribute o name apos) (e::es) [] cpos) (tBM X.K T r to t):=by
 intro pq s σ H Q I h;refine wpAny_Call_method_late hbase hfew hline rfl (thn (ho pq s σ H _ I h) fun v s1 hz=>?_);obtain ⟨x,H1,I1,r1,ty,q1⟩:=hz;obtain ⟨h1,h2⟩:=Zhm I1 r1 ty;refine ⟨T,id,pa,slot,hty,h1,h2,?_⟩;have hA:=ha cpos pq s1 σ H1 _ I1 q1;rw [hs] at hA ⊢;refine Calls.callWith_builtin (by show (false || (backTo cpos (starEach es X.env)).any (·.1))=false; rw [hplain] <;> rfl) (Calls.evalArgs_plain ?_);exact thn hA fun us s2 ⟨vs,H2,I2,r2,q2⟩=>hm pq s2 σ H2 x vs v us Q I2 r1 r2 q2
end
def MtM (X:Cx) (id:String) (r:V->List V->Hp->VK->Prop):Prop :=
 ∀ (pq:List (Addr×Obj)) (s:Shared) (σ:St) (H:Hp) (x:V) (xs:List V) (v:Value) (us:List Value) (Q:VK),Inv X pq σ H s->RelV x v->Vals xs us->r x xs H Q ->
  wpAny (model X.prog X.w) X.A (call (.builtin id) (v::us)) (EP X pq σ Q) X.xe s
theorem Vals.one:∀ {x:V} {us:List Value},Vals [x] us->∃ u,us=[u]/\RelV x u
 | _,_,.cons r .nil=>⟨_,rfl,r⟩
theorem Vals.zero:∀ {us:List Value},Vals [] us->us=[]:=by
 intro _ hz9;cases hz9 with
 | nil=>
  exact rfl
theorem Vals.dropLast {xs:List V} (h:Vals xs us):Vals xs.dropLast us.dropLast:=by
 induction h with
 | nil=>exact .nil
 | cons r t ih =>
  cases t with
  | nil=>exact .nil
  | cons q t'=>exact .cons r ih
theorem Vals.reverse {xs:List V} (h:Vals xs us):Vals xs.reverse us.reverse:=by
 induction h with
 | nil=>exact .nil
 | cons r t ih=>rw [B8,B8]; exact Vals.append ih (.cons r .nil)
theorem Vals.rep {xs:List V} (h:Vals xs us):∀ k:Nat,Vals (List.replicate k xs).flatten (List.replicate k us).flatten
 | 0=>.nil
 | k+1=>by
  rw [G3,G3,By,By];exact Vals.append h (Vals.rep h k)
theorem Zb5 {α:Type} (l:List α):l.eraseIdx (l.length-1)=l.dropLast:=by
 induction l with
 | nil=>rfl
 | cons a r ih =>
  cases r with
  | nil=>rfl
  | cons b r =>
   have e:(a::b::r).length-1=((b::r).length-1)+1:=by
    have h1:(a::b::r).length=r.length+2:=rfl;have h2:(b::r).length=r.length+1:=rfl;lia
   rw [e,List.eraseIdx_cons_succ,ih]
   all_goals rfl
theorem Px (its:List Value):∀ (k:Nat) (acc:List Value),
  List.foldl (fun x1 x2=>x1++x2) acc.toArray (List.replicate k its.toArray)=(acc++(List.replicate k its).flatten).toArray
 | 0,acc=>by simp
 | k+1,acc=>by
  have e:acc.toArray++its.toArray=(acc++its).toArray:=by simp
  have e2:(acc++its)++(List.replicate k its).flatten=acc++(List.replicate (k+1) its).flatten:=by
   rw [G3,By,Jt]
  rw [<- e2,<- Px its k (acc++its),<- e,G3,List.foldl_cons]
section
variable {xs:List V}
def Inv.lset {its':List Value} {n:Nat} {f:Array Value->Array Value} (I:Inv X pq σ H s) (hH:H l=some (.lst xs))
  (e:s.heap.get? l=some { cls:=.type "list",data:=.seq its.toArray n }) (hf:f its.toArray=its'.toArray) (hv:Vals ys its') (hz:ys.length<=sizeLine) :
  Inv X pq σ (upd H l (.lst ys)) { s with heap:=s.heap.update l (Obj.mapSeq f),toks:=t' }:=by
 have q:=PySem.IsL.update e f;rw [hf] at q;refine I.write (x:=l) (e:=l) (by rw [hH]; exact trivial) (.inl rfl) (fun b' u hb hu=>(Heap.get?_update_other s.heap (Obj.mapSeq f) (Ne.symm hb)).trans hu) ⟨_,q⟩ ?_;exists hz,its',_,hv,q
def Inv.lnew (I:Inv X pq σ H s) (hv:Vals ys its) (hz:ys.length<=sizeLine) :
  Inv X pq σ (upd H s.heap.objs.size (.lst ys)) { s with heap:=s.heap.push { cls:=.type "list",data:=.seq its.toArray },toks:=t' } :=
 I.laid (fun _ _ q=>Db _ q) (Jf _) ⟨hz,its,0,hv,Dc _ rfl⟩
def Inv.fresh (I:Inv X pq σ H s):H s.heap.objs.size=none:=I.hok.fresh (Jf _)
def Inv.lstM (I:Inv X pq σ H s) (hH:H l=some (.lst xs)):xs.length<=sizeLine/\∃ (its:List Value) (n:Nat),Vals xs its/\xs.length=its.length/\s.heap.get? l=some { cls:=.type "list",data:=.seq its.toArray n }:=by
 obtain ⟨z,its,n,r,e⟩:=I.hok l _ hH;exists z,its,n,r,r.length,e
theorem Za6 {n:Nat} (h:n<=sizeLine):Builtin.List.listTooLong n=false:=by
 unfold Builtin.List.listTooLong;exact Dh (by lia)
end
section
def Zdt:V->List V->Hp->VK->Prop:=fun x vs H Q=>∃ l xs y,x=.ref l/\vs=[y]/\H l=some (.lst xs)/\xs.length<sizeLine/\Q .non (upd H l (.lst (xs++[y])))
theorem Uy:MtM X "list.append" Zdt:=by
 intro pq s σ H x vs v us Q I rx rv h;obtain ⟨l,xs,y,rfl,rfl,hH,hz,q⟩:=h;cases rx;obtain ⟨u,rfl,ru⟩:=rv.one;obtain ⟨z,its,n,r,hl,e⟩:=I.lstM hH;refine call_meets F.slot_list_append ⟨_,e,rfl⟩ F.entry_list_append (F.args_list_append_2 _ _) (PySem.list_append l its.toArray n u (by rw [Jg]; lia)) ⟨e,?_⟩;exists .non,_,I.lset (its':=its++[u]) hH e (by simp) (r.append (.cons ru .nil)) ?_,rfl,q;rw [Jc,Go];lia
def Zds:V->List V->Hp->VK->Prop:=fun x vs H Q=>∃ l b xs zs,x=.ref l/\vs=[.ref b]/\H l=some (.lst xs)/\H b=some (.lst zs)/\xs.length+zs.length<=sizeLine/\Q .non (upd H l (.lst (xs++zs)))
theorem Sl:MtM X "list.extend" Zds:=by
 intro pq s σ H x vs v us Q I rx rv h;obtain ⟨l,b,xs,zs,rfl,rfl,hH,hB,hz,q⟩:=h;cases rx;obtain ⟨u,rfl,ru⟩:=rv.one;cases ru;obtain ⟨z,its,n,r,hl,e⟩:=I.lstM hH;obtain ⟨z2,its2,n2,r2,hl2,e2⟩:=I.lstM hB;have hsz:its.toArray.size+its2.toArray.size<=sizeLine:=by rw [Jg,Jg]; lia
 have hlong:¬ (!its.toArray.isEmpty && Builtin.List.listTooLong (its.toArray.size+its2.toArray.size))=true:=by
  rw [Za6 hsz,Bool.and_false];exact Jo
 refine call_meets F.slot_list_extend ⟨_,e,rfl⟩ F.entry_list_extend (F.args_list_extend_2 _ _)
  (AutoSeq1.list_extend_list_list_0 l its.toArray n b its2.toArray n2 hlong (by rw [Jg]; lia) (by lia)) ⟨e,e2,?_⟩
 exists .non,_,I.lset (its':=its++its2) hH e (by simp) (r.append r2) ?_,rfl,q;rw [Jc];lia
def rPop:V->List V->Hp->VK->Prop:=fun x vs H Q=>∃ l xs y,x=.ref l/\vs=[]/\H l=some (.lst xs)/\xs[xs.length-1]?=some y/\Q y (upd H l (.lst xs.dropLast))
theorem Zme:MtM X "list.pop" rPop:=by
 intro pq s σ H x vs v us Q I rx rv h;obtain ⟨l,xs,y,rfl,rfl,hH,hy,q⟩:=h;cases rx;have hus:=rv.zero;subst hus;obtain ⟨z,its,n,r,hl,e⟩:=I.lstM hH;obtain ⟨u,hu,ru⟩:=r.get hy;have hy':its.toArray[its.toArray.size-1]?=some u:=by
  show its.toArray[its.length-1]?=some u;rw [<- Bv,<- hl];exact hu
 refine call_meets F.slot_list_pop ⟨_,e,rfl⟩ F.entry_list_pop (F.args_list_pop_1 _) (MeetsSeq.list_pop_last l its.toArray n u hy' (by rw [Jg]; lia)) ⟨e,?_⟩;exists y,_,I.lset (its':=its.dropLast) hH e ?_ r.dropLast ?_,ru,q
 ·show its.toArray.eraseIdxIfInBounds (its.toArray.size-1)=its.dropLast.toArray;rw [Jg,List.eraseIdxIfInBounds_toArray,Zb5]
 ·rw [List.length_dropLast];lia
def Zhz:V->List V->Hp->VK->Prop:=fun x vs H Q=>∃ l xs,x=.ref l/\vs=[]/\H l=some (.lst xs)/\Q .non (upd H l (.lst []))
theorem Zgv:MtM X "list.clear" Zhz:=by
 intro pq s σ H x vs v us Q I rx rv h;obtain ⟨l,xs,rfl,rfl,hH,q⟩:=h;cases rx;have hus:=rv.zero;subst hus;obtain ⟨z,its,n,r,hl,e⟩:=I.lstM hH;refine call_meets F.slot_list_clear ⟨_,e,rfl⟩ F.entry_list_clear (F.args_list_clear_1 _) (AutoSeq1.list_clear_list_0 l its.toArray n (by rw [Jg]; lia)) ⟨e,?_⟩;exists .non,_,I.lset (its':=[]) (ys:=[]) hH e rfl .nil (Jv _),rfl,q
def rCat:R2:=fun x y H Q=>∃ l b xs zs,x=.ref l/\y=.ref b/\H l=some (.lst xs)/\H b=some (.lst zs)/\xs.length+zs.length<=sizeLine/\∀ p,H p=none->Q (.ref p) (upd H p (.lst (xs++zs)))
theorem Pe:OpR X (binaryOp .Add) rCat:=by
 intro pq s σ H x y v u Q I rx ry h;obtain ⟨l,b,xs,zs,rfl,rfl,hH,hB,hz,q⟩:=h;cases rx;cases ry;obtain ⟨z,its,n,r,hl,e⟩:=I.lstM hH;obtain ⟨z2,its2,n2,r2,hl2,e2⟩:=I.lstM hB;refine PySem.P.add_list e e2 ?_ (by rw [Jg,Jg]; lia);have ea:its.toArray++its2.toArray=(its++its2).toArray:=by simp
 rw [ea];exists .ref _,_,I.lnew (t':=s.toks) (r.append r2) (by rw [Jc]; lia),rfl,q _ I.fresh
def rRep:R2:=fun x y H Q=>∃ l k xs,x=.ref l/\y=.int k/\H l=some (.lst xs)/\-(2 ^ 63)<=k/\k<2 ^ 63/\xs.length*k.toNat<=sizeLine /\
 ∀ p,H p=none->Q (.ref p) (upd H p (.lst (List.replicate k.toNat xs).flatten))
theorem Zjt {α:Type} (xs:List α) (k:Nat):(List.replicate k xs).flatten.length=k*xs.length:=by
 induction k with
 | zero=>simp
 | succ k ih=>rw [G3,By,Jc,ih,Nat.succ_mul,Nat.add_comm]
theorem Zl7:OpR X (binaryOp .Mult) rRep:=by
 intro pq s σ H x y v u Q I rx ry h;obtain ⟨l,k,xs,rfl,rfl,hH,h1,h2,hz,q⟩:=h;cases rx;obtain ⟨t,rfl⟩:=ry;obtain ⟨z,its,n,r,hl,e⟩:=I.lstM hH;have hlen:its.toArray.size*k.toNat<=sizeLine:=by rw [Jg,<- hl]; exact hz
 have hcap:¬ its.toArray.size*k.toNat > (2 ^ 63-1) / 8:=by
  have:(sizeLine:Nat)<=(2 ^ 63-1) / 8:=by decide
  lia
 have hfit:¬ (!Builtin.List.listFitsIndex k)=true:=by
  rw [fitsIndex_both h1 h2];exact Jo
 have hlong:¬ Builtin.List.listTooLong (its.toArray.size*k.toNat)=true:=by
  rw [Za6 hlen];exact Jo
 have hnew:List.foldl (fun x1 x2=>x1++x2) #[] (List.replicate (if its.toArray.isEmpty=true then 0 else k.toNat) its.toArray)=(List.replicate k.toNat its).flatten.toArray:=by
  have f0:∀ m:Nat,List.foldl (fun x1 x2=>x1++x2) #[] (List.replicate m its.toArray)=(List.replicate m its).flatten.toArray:=fun m=>by
   have:=Px its m [];rw [List.nil_append] at this;exact this
  rw [f0];cases its with
  | nil=>simp
  | cons a r'=>rw [De (by simp)]
 refine wpAny_binaryOp_repeat_ref (T:="list") (U:="int") nofun ⟨_,e,rfl⟩ (fun s'=>typeIs_int s' k t) noFill_list_mul F.fills_int_mul F.slot_int_rmul repeat_list F.slot_int_index.lookup
  (call_meets F.slot_int_rmul (typeIs_int s k t) F.entry_int_rmul (F.args_int_rmul_2 _ _) (int___rmul___int_list k t l its.toArray n)
   ⟨e,rfl,⟨_,e,rfl⟩,call_meets F.slot_list_mul ⟨_,e,rfl⟩ F.entry_list_mul (F.args_list_mul_2 _ _) (AutoListH.list___mul___list_int_3 l its.toArray n k t hfit hcap hlong) ⟨e,?_⟩⟩)
 rw [hnew];exists .ref _,_,I.lnew (t':=s.toks) (r.rep k.toNat) (by rw [Zjt,Nat.mul_comm]; exact hz),rfl,q _ I.fresh
end
section
variable [DecidableEq κ]
def valV (kvs:List (κ×V)) (k:κ):Option V:=(kvs.find? fun kv=>decide (kv.1=k)).map (·.2)
def putK (kvs:List (κ×V)) (k:κ) (v:V):List (κ×V) :=
 if (kvs.any fun kv=>decide (kv.1=k))=true then kvs.map (fun kv=>if kv.1=k then (kv.1,v) else kv) else kvs++[(k,v)]
def Rg {p:κ×V} {r:List (κ×V)} {k:κ} (e:p.1=k):valV (p::r) k=some p.2:=by simp [valV,Bs,e]
def Rh {p:κ×V} {r:List (κ×V)} {k:κ} (e:¬ p.1=k):valV (p::r) k=valV r k:=by simp [valV,Bs,e]
theorem Zai (k:κ):∀ kvs:List (κ×V),(kvs.any fun kv=>decide (kv.1=k))=(valV kvs k).isSome
 | []=>rfl
 | p::r=>by
  rw [Fh]
  by_cases e:p.1=k
  ·simp only [Rg e,Dg e,Bool.true_or,Option.isSome_some]
  ·rw [Rh e,Dh e,Bool.false_or]; exact Zai k r
theorem So (kvs:List (κ×V)) (k:κ) (v:V):(putK kvs k v).length<=kvs.length+1:=by
 unfold putK
 split
 ·rw [Ja]; lia
 ·rw [Jc,Jq,Bz]; lia
theorem RelO.isSome_eq {o:Option V} {u:Option Value} (r:RelO o u):o.isSome=u.isSome:=by
 cases o with
 | none=>cases u with
  | none=>rfl
  | some _=>exact (show False from r).elim
 | some _=>cases u with
  | none=>exact (show False from r).elim
  | some _=>rfl
theorem KV.val {kvs:List (κ×V)} {vs:List (κ×Value)} (r:KV kvs vs) (k:κ):RelO (valV kvs k) (valueAt vs k):=by
 unfold KV at r
 induction r with
 | nil=>exact True.intro
 | @cons p q ps qs h t ih =>
  obtain ⟨h1,h2⟩:=h
  by_cases e:p.1=k
  ·have e':q.1=k:=h1.symm.trans e;have b:valueAt (q::qs) k=some q.2:=by simp [valueAt,Bs,e']
   rw [Rg e,b]; exact h2
  ·have e':¬ q.1=k:=fun z=>e (h1.trans z);have b:valueAt (q::qs) k=valueAt qs k:=by simp [valueAt,Bs,e']
   rw [Rh e,b]; exact ih
theorem KV.any {kvs:List (κ×V)} {vs:List (κ×Value)} (r:KV kvs vs) (k:κ):(kvs.any fun kv=>decide (kv.1=k))=vs.any fun kv=>decide (kv.1=k):=by
 unfold KV at r
 induction r with
 | nil=>rfl
 | cons h t ih=>rw [Fh,Fh,ih,h.1]
theorem KV.repl {kvs:List (κ×V)} {vs:List (κ×Value)} (r:KV kvs vs) (k:κ) (ry:RelV y u) :
  KV (kvs.map fun kv=>if kv.1=k then (kv.1,y) else kv) (vs.map fun kv=>if kv.1=k then (kv.1,u) else kv):=by
 unfold KV at r ⊢
 induction r with
 | nil=>exact .nil
 | @cons p q ps qs h t ih =>
  rw [Jr,Jr];refine .cons ?_ ih;obtain ⟨h1,h2⟩:=h
  by_cases e:p.1=k
  ·rw [Df e,Df (h1.symm.trans e)];exists h1,ry
  ·rw [De e,De (fun z=>e (h1.trans z))];exists h1,h2
def KV.put {kvs:List (κ×V)} {vs:List (κ×Value)} (r:KV kvs vs) (k:κ) (ry:RelV y u):KV (putK kvs k y) (stored vs k u):=by
 unfold putK stored;rw [r.any k]
 by_cases e:(vs.any fun kv=>decide (kv.1=k))=true
 ·rw [Df e,Df e]; exact r.repl k ry
 ·rw [De e,De e]; exact Paired.snoc r ⟨rfl,ry⟩
def KV.length {kvs:List (κ×V)} {vs:List (κ×Value)} (r:KV kvs vs):kvs.length=vs.length:=Paired.length r
end
theorem Zj0 {k:Key} (r:RelV (kV k) u):(Xu P w).is k u=true:=by
 cases k with
 | inl i=>obtain ⟨t,e⟩:=(show ∃ t,u=Value.int i t from r); subst e; exact Nx P w i t
 | inr x=>obtain ⟨t,e⟩:=(show ∃ t,u=Value.str x t from r); subst e; exact Nw P w x t
theorem Pj :∀ {ks:List Key} {us:List Value},Vals (ks.map kV) us->ItemsAre (Xu P w) ks us
 | [],_,r=>by rw [List.map_nil] at r; cases r; exact .nil
 | k::ks,_,r=>by
  rw [Jr] at r;cases r with
  | cons h t=>exact .cons (Zj0 h) (Pj t)
abbrev KT (H:Hp):List (List Key×V)->List (List Key×Addr×Value)->Prop:=Paired fun p q=>p.1=q.1/\H q.2.1=some (.tup (p.1.map kV))/\RelV p.2 q.2.2
theorem KT.val {xs:List (List Key×Addr×Value)} (r:KT H kvs xs) (k:List Key):RelO (valV kvs k) ((atKey xs k).map (·.2)):=by
 induction r with
 | nil=>exact True.intro
 | @cons p q ps qs h t ih =>
  obtain ⟨h1,_,h2⟩:=h
  by_cases e:p.1=k
  ·have e':q.1=k:=h1.symm.trans e;have b:atKey (q::qs) k=some q.2:=by simp [atKey,Bs,e']
   rw [Rg e,b]; exact h2
  ·have e':¬ q.1=k:=fun z=>e (h1.trans z);have b:atKey (q::qs) k=atKey qs k:=by simp [atKey,Bs,e']
   rw [Rh e,b]; exact ih
theorem KT.repl {xs:List (List Key×Addr×Value)} (r:KT H kvs xs) (k:List Key) (ry:RelV y u) :
  KT H (kvs.map fun kv=>if kv.1=k then (kv.1,y) else kv) (xs.map (putAt k u)):=by
 induction r with
 | nil=>exact .nil
 | @cons p q ps qs h t ih =>
  rw [Jr,Jr];refine .cons ?_ ih;obtain ⟨h1,h2,h3⟩:=h;unfold putAt
  by_cases e:p.1=k
  ·rw [Df e,Df (h1.symm.trans e)];exists h1,h2,ry
  ·rw [De e,De (fun z=>e (h1.trans z))];exists h1,h2,h3
def KT.put {xs:List (List Key×Addr×Value)} (r:KT H kvs xs) (k:List Key) {b:Addr} (hb:H b=some (.tup (k.map kV))) (ry:RelV y u) :
  KT H (putK kvs k y) (storedH xs k b u):=by
 have e:(kvs.any fun kv=>decide (kv.1=k))=(atKey xs k).isSome:=by
  rw [Zai,(r.val k).isSome_eq,Option.isSome_map]
 unfold putK storedH;rw [e]
 by_cases q:(atKey xs k).isSome=true
 ·rw [Df q,Df q]; exact r.repl k ry
 ·rw [De q,De q]; exact Paired.snoc r ⟨rfl,hb,ry⟩
def KT.keeps {xs:List (List Key×Addr×Value)} (r:KT H kvs xs) (ht:∀ b ys,H b=some (.tup ys)->H' b=some (.tup ys)):KT H' kvs xs :=
 Paired.mapP r fun _ _ z=>⟨z.1,ht _ _ z.2.1,z.2.2⟩
section
variable {h:Heap} {a:Addr}
def Zjh {u:HO} (ok:HOk P w H h) (e:Rd H a u):Xr P w H h a u:=e.ok ok
def Zm4 {kvs:List (Key×V)} (ok:HOk P w H h) (e:Rd H a (.dK kvs)):kvs.length<=sizeLine/\(a == sysModules)=false/\∃ vs,KV kvs vs/\h.DictOf (Xu P w) a vs :=
 show Xr P w H h a (.dK kvs) from Zjh ok e
def Zo1 {kvs:List (Key×V)} (ok:HOk P w H h) (e:H a=some (.dK kvs)):kvs.length<=sizeLine/\(a == sysModules)=false/\∃ vs,KV kvs vs/\h.DictOf (Xu P w) a vs:=Zm4 ok (.inl e)
def Zen {ks:List Key} (ok:HOk P w H h) (e:H a=some (.tup (ks.map kV))):(tupleKind (Xu P w)).is h ks a:=by
 obtain ⟨_,its,r,o,h1,h2,n,h3,_⟩:=(show Xr P w H h a (.tup (ks.map kV)) from ok a _ e);exact ⟨o,its.toArray,n,h1,h2,h3,by simpa using Pj r⟩
def Zm3 (ok:HOk P w H h) (e:Rd H a (.dT kvs)):kvs.length<=sizeLine/\(a == sysModules)=false /\
  ∃ xs,KT H kvs xs/\h.DictOfH (tupleKind (Xu P w)) a xs:=by
 obtain ⟨z,y,xs,r,o,es,ep,h1,h2,h3,h4,h5⟩:=(show Xr P w H h a (.dT kvs) from Zjh ok e);refine ⟨z,y,xs,r,o,es,ep,h1,h2,h3,h4,fun x hx=>?_,h5⟩;have all:∀ {l:List (List Key×V)} {m:List (List Key×Addr×Value)},KT H l m->∀ x∈m,(tupleKind (Xu P w)).is h x.1 x.2.1:=by
  intro l m q
  induction q with
  | nil=>intro x hx; exact nomatch hx
  | @cons p q ps qs hq t ih =>
   intro x hx;rcases Ju.mp hx with e | hx
   ·subst e;exact Zen ok (by rw [<- hq.1]; exact hq.2.1)
   ·exact ih x hx
 exact all r x hx
def Zo0 (ok:HOk P w H h) (e:H a=some (.dT kvs)):kvs.length<=sizeLine/\(a == sysModules)=false /\
  ∃ xs,KT H kvs xs/\h.DictOfH (tupleKind (Xu P w)) a xs:=Zm3 ok (.inl e)
end
def DGet (H:Hp) (a:Addr) (y:V) (r:Option V):Prop :=
 (∃ kvs k,Rd H a (.dK kvs)/\y=kV k/\r=valV kvs k)\/∃ kvs k b,Rd H a (.dT kvs)/\y=.ref b/\H b=some (.tup (k.map kV))/\r=valV kvs k
def DPut (H:Hp) (a:Addr) (y v:V) (H':Hp):Prop :=
 (∃ kvs k,H a=some (.dK kvs)/\y=kV k/\kvs.length<sizeLine/\H'=upd H a (.dK (putK kvs k v))) \/
 ∃ kvs k b,H a=some (.dT kvs)/\y=.ref b/\H b=some (.tup (k.map kV))/\kvs.length<sizeLine/\H'=upd H a (.dT (putK kvs k v))
theorem DPut.k {a:Addr} {kvs:List (Key×V)} {k:Key} (e:H a=some (.dK kvs)) (hl:kvs.length<sizeLine):DPut H a (kV k) v (upd H a (.dK (putK kvs k v))):=.inl ⟨kvs,k,e,rfl,hl,rfl⟩
def DPut.t {a b:Addr} {k:List Key} (e:H a=some (.dT kvs)) (eb:H b=some (.tup (k.map kV))) (hl:kvs.length<sizeLine) :
  DPut H a (.ref b) v (upd H a (.dT (putK kvs k v))):=.inr ⟨kvs,k,b,e,rfl,eb,hl,rfl⟩
section
variable {a:Addr} {r:Value} {o:Option V} 
def Inv.big (I:Inv X pq σ H s):sysModules<s.heap.objs.size:=by
 have h:mainGlobals<s.heap.objs.size:=(I.mod.glob.keeps I.bk).lt;exact Nat.lt_trans nofun h
def Zkf {Q:Value->Shared->Prop} (hu:A.units+1<cLine) (I:Inv X pq σ H s) (g:DGet H a y o) (ry:RelV y u) (h:∀ s',Inv X pq σ H s'->Q (.bool (!o.isSome)) s') :
  wpAny (model X.prog X.w) A (compareOp .NotIn u (.ref a)) Q E s:=by
 rcases g with ⟨kvs,k,e,ey,l⟩ | ⟨kvs,k,b,e,ey,eb,l⟩
 ·subst ey;obtain ⟨z,hd,vs,rel,dd⟩:=Zm4 I.hok e;refine wpAny_notIn_of (Zj0 ry) hd dd.mapOf ?_;rw [<- (rel.val k).isSome_eq,<- l];exact h _ (I.tok _)
 ·subst ey;cases (show u=Value.ref b from ry);obtain ⟨z,hd,xs,rel,dd⟩:=Zm3 I.hok e;refine wpAny_notIn_heap (tupleKind_room_in1 hu) (Zen I.hok eb) hd dd ?_;have q:=(rel.val k).isSome_eq;rw [Option.isSome_map] at q;rw [<- q,<- l];exact h _ (I.tok _)
def Ze7 {ob:HO} (I:Inv X pq σ H s) (mu:Mut (H a)) (hs:Heap.SameBut a s.heap h') (he:∃ q,h'.get? a=some q) (new:Xr X.prog X.w (upd H a ob) h' a ob) :
  Inv X pq σ (upd H a ob) { s with heap:=h',toks:=t' } :=
 I.write (x:=a) (e:=a) mu (.inl rfl) (fun b q hb z=>(hs.2 b hb).trans z) he new
def Zm5 {kvs:List (Key×V)} {vs:List (Key×Value)} (z:kvs.length<=sizeLine) (hd:(a == sysModules)=false) (rel:KV kvs vs) (dd:h'.DictOf (Xu P w) a vs) :
  Xr P w H' h' a (.dK kvs):=⟨z,hd,vs,rel,dd⟩
theorem Ze8 {Q:Unit->Shared->Prop} (hu:A.units+1<cLine) (I:Inv X pq σ H s) (g:DPut H a y v H') (ry:RelV y u) (rv:RelV v r) (h:∀ s',Inv X pq σ H' s'->Q () s') :
  wpAny (model X.prog X.w) A (setItem (.ref a) u r) Q E s:=by
 rcases g with ⟨kvs,k,e,ey,l,eH⟩ | ⟨kvs,k,b,e,ey,eb,l,eH⟩
 ·subst ey eH;obtain ⟨z,hd,vs,rel,dd⟩:=Zo1 I.hok e;have hz:vs.length<=sizeLine:=by rw [<- rel.length]; exact z
  have hl:(putK kvs k v).length<=sizeLine:=by have:=So kvs k v; lia
  refine wpAny_setItem_pairs (hsz:=hz) (Zj0 ry) dd fun h' dd' hs=>h _ ?_;have he:∃ q,h'.get? a=some q:=let ⟨q,_,_,hq,_⟩:=dd'; ⟨q,hq⟩
  exact Ze7 I (by rw [e]; exact True.intro) hs he (Zm5 hl hd (rel.put k rv) dd')
 ·subst ey eH;cases (show u=Value.ref b from ry);obtain ⟨z,hd,xs,rel,dd⟩:=Zo0 I.hok e;have hz:xs.length<=sizeLine:=by rw [<- Paired.length rel]; exact z
  have hl:(putK kvs k v).length<=sizeLine:=by have:=So kvs k v; lia
  refine wpAny_setItem_heap (hsz:=hz) (tupleKind_room_in1 hu) (Zen I.hok eb) dd fun h' dd' hs=>h _ ?_;obtain ⟨q,es,ep,hq,h2,h3,h4,_,h5⟩:=dd';refine Ze7 I (by rw [e]; exact True.intro) hs ⟨q,hq⟩ ⟨hl,hd,_,(rel.put k eb rv).keeps fun c ys ec=>?_,q,es,ep,hq,h2,h3,h4,h5⟩;rw [Z4 (Zjq ec e (fun z=>nomatch z))];exact ec
end
def Zcv (ty td:TE):TE:=fun σ H Q=>ty σ H fun y H1=>td σ H1 fun x H2=>∃ a o,x=.ref a/\DGet H2 a y o/\Q (.bl (!o.isSome)) H2
def Zlv (td ty tv:TE):TS:=fun D σ H=>tv σ H fun v H1=>td σ H1 fun x H2=>ty σ H2 fun y H3=>∃ a H4,x=.ref a/\DPut H3 a y v H4/\D.nx σ H4
section
variable {o i value:Expr} {pos':Pos} {td ty tv:TE}
def Pd (hu:X.A.units+1<cLine) (hi:PE X i ty) (ho:PE X o td):PC X .NotIn i o (Zcv ty td):=by
 intro pq s σ H Q I h;refine thn (hi pq s σ H _ I h) fun iv s1 ⟨y,H1,I1,ry,q1⟩=>thn (ho pq s1 σ H1 _ I1 q1) fun u s2 hz=>?_;obtain ⟨x,H2,I2,rx,a,ov,ex,g,q2⟩:=hz;subst ex;obtain rfl:u=Value.ref a:=rx;exact Zkf hu I2 g ry fun s3 I3=>⟨.bl (!ov.isSome),H2,I3,rfl,q2⟩
def Zdv (hu:X.A.units+1<cLine) (ho:PE X o td) (hi:PE X i ty) (hv:PE X value tv) (hs:swapsWith value (some (.Subscript o i pos')) pos.line X.env=pure false) :
  PS X (.Assign [.Subscript o i pos'] value pos) (Zlv td ty tv):=by
 intro pq s σ H D I h;refine wpAny_Assign_Subscript (thn (hv pq s σ H _ I h) fun r s1 ⟨v,H1,I1,rv,q1⟩=>thn (ho pq s1 σ H1 _ I1 q1) fun u s2 ⟨x,H2,I2,rx,q2⟩=>thn (hi pq s2 σ H2 _ I2 q2) fun iv s3 hz=>?_) hs;obtain ⟨y,H3,I3,ry,a,H4,ex,g,q3⟩:=hz;subst ex;obtain rfl:u=Value.ref a:=rx;exact Ze8 hu I3 g ry rv fun s4 I4=>⟨σ,H4,I4,q3⟩
end
def Zg5 (h:Heap) (hb:sysModules<h.objs.size):Xr P w H (h.push { cls:=.type "dict",data:=.dict #[] }) h.objs.size (.dT []) :=
 ⟨Jv _,beq_eq_false_iff_ne.mpr (Ne.symm (Gi hb)),[],.nil,_,#[],0,Dc _ rfl,⟨rfl,rfl,rfl⟩,rfl,rfl,G6⟩
def Zho:TE:=fun _ H Q=>∀ p,H p=none->Q (.ref p) (upd H p (.dT []))
section
def Za5:PE X (.Dict [] [] pos) Zho:=fun pq s σ H Q I h =>
 wpAny_Dict_empty ⟨.ref s.heap.objs.size,_,I.laid (a:=s.heap.objs.size) (o:=.dT []) (t':=s.toks) (fun _ _ q=>Db _ q) (Jf _) (Zg5 s.heap I.big),rfl,h _ (I.hok.fresh (Jf _))⟩
end
def IsD (H:Hp) (a:Addr):Prop:=(∃ kvs,Rd H a (.dK kvs))\/∃ kvs,Rd H a (.dT kvs)
end L2
variable {ts:L2.TO}
namespace Att
open PySem PySem.W PySem.Calls PyProof.Rows
theorem Sv {P:Params} {h:Heap}:∀ (ns:List Int) (vs:List Value),WellAll P h vs (ns.map WData.int)->IntsAre vs ns:=by
 intro ns
 induction ns with
 | nil =>
  intro vs w;rw [List.map_nil] at w;cases w;exact .nil
 | cons n ns ih =>
  intro vs w;rw [Jr] at w;cases w with
  | cons a b =>
   cases a;exact .cons _ _ (ih _ b)
theorem Zc8 {l:OpenLaw} {n:Nat} (hn:l.most=some n) {P:Params} {h:Heap} {args:List WData} {vals:List Value}
  (hpre:l.row.toRowW.claim.pre args=true) (hwl:WellAll P h vals args) :
  ∃ a vs ns,vals=[Value.ref a]/\args=[WData.list (ns.map WData.int)]/\h.get? a=some { cls:=.type "list",data:=.seq vs.toArray }/\IntsAre vs ns/\ns.length<=n:=by
 have hsh:WShape.hasAll [] args [.list .int]=true:=(pre_splitW hpre).1;have hc:l.pre.holds [] { args:=args }=true:=(pre_splitW hpre).2;obtain ⟨d,r,rfl,h1,h2⟩:=hasAllW_cons hsh;obtain rfl:=hasAllW_nil h2;obtain ⟨xs,rfl,h3⟩:=hasW_list h1;obtain ⟨ns,rfl⟩:=items_int h3;have hlen:ns.length<=n:=by
  unfold OpenLaw.pre at hc;have h4:(WTm.not (.lt (.lit (.int (n:Int))) (.len (.arg 0)))).holds [] { args:=[.list (ns.map .int)] }=true:=by
   have h4:=(holds_andW hc).1;rw [hn] at h4;exact h4
  have h5:=condW_of h4 (w_not (w_lt w_lit (w_len_list (w_arg rfl))));rw [Ja] at h5;refine Nat.le_of_not_lt fun q=>?_;have q':(n:Int)<((ns.length:Nat):Int):=by lia
  first
   | (rw [Dg q'] at h5; exact absurd h5 nofun)
   | (simp at h5; lia)
 cases hwl with
 | cons w1 w2 =>
  cases w2;cases w1 with
  | list ho hall=>exact ⟨_,_,ns,rfl,rfl,ho,Sv ns _ hall,hlen⟩
def Zdz (l:OpenLaw) (args:List WData):l.row.toRowW.claim.post args (.bool true) args=true :=
 postW_of (r:=l.row.toRowW) (X:=(true == true))
  (show WShape.has [] (.bool true) .bool=true by first | rfl | decide | simp [WShape.has,WShape.arms,WShape.armsAll])
  (show (WTm.eq .res (.lit (.bool true))).value [] { args:=args,res:=some (.bool true),after:=args }=some (.bool (true == true)) from w_eq_bool (w_res rfl) w_lit) rfl
def attach_call {l:OpenLaw} {n:Nat} {q:Program} {loose:List Str} {XP:(Str->Option Value)->Heap->Prop} {YP:World->Heap->Prop} {d:DefRec}
  (hn:l.most=some n) (hdf:d.params.defaults=[])
  (call:∀ (w:World) (s₀ s₁:Shared) (mg mb:Str->Option Value) (fa:Addr) (o:Obj) (pm cd doc:Value) (a:Addr) (vs:List Value) (ns:List Int),
   Ground q loose [] XP w s₀ mg mb s₁.heap->YP w s₁.heap ->
   s₁.heap.get? fa=some o->o.data=.func (docDef d.name d.params d.body d.scope pm cd doc)->s₁.heap.CodeRec cd d.name->mg d.name=some (.ref fa) ->
   s₁.heap.get? a=some { cls:=.type "list",data:=.seq vs.toArray }->IntsAre vs ns->ns.length<=n->s₁.gens=#[] ->
   codeAny (model l.prog w) callerA (.call (.ref fa) ⟨[.ref a],[]⟩) (fun r s'=>r=.ok (.ret (.bool true))/\OldK s₁.heap s'.heap/\s'.os=s₁.os/\AllBare s'.gens) s₁) :
  WalkO q loose XP YP l.row.toRowW d [] (fun f vs=>PySem.call f vs):=by
 intro w s₀ s₁ mg mb G Y fa o pm cd doc dV kV ho hd hcd hD hmg hg args vals as hpre hlay hrd hwl hlo;obtain rfl:dV=.none:=Dflts.none hD hdf;obtain rfl:kV=.none:=Dflts.noKw hD;obtain ⟨a,vs,ns,rfl,rfl,hobj,hints,hlen⟩:=Zc8 hn hpre hwl;refine enter_call (codeAny_mono (call w s₀ s₁ mg mb fa o pm cd doc a vs ns G Y ho (fd_plain hd) hcd hmg hobj hints hlen hg) fun r s' hq=>?_);obtain ⟨rfl,h2,h3,h4⟩:=hq;exists .inl ⟨.bool true,.bool true,[],rfl,fun _=>rfl,.bool true,Zdz l _,fun _=>⟨List.Pairwise.nil,fun _ hm=>(nomatch hm)⟩⟩,h2,h3,h4
end Att
namespace L2
open PySem PySem.Spec PyProof.Rows
theorem Qv:∀ {vs:List Value} {ns:List Int},IntsAre vs ns->Vals (ns.map V.int) vs:=by
 intro _ _ hz9;cases hz9 with
 | nil=>
  exact .nil
 | cons n t h=>
  exact .cons ⟨t,rfl⟩ (Qv h)
def Only (H:Hp):Prop:=∀ b,H b=none\/∃ o xs,H b=some (.frz o (.lst xs))
theorem Zgy {mb:Str->Option Value} {k:Nat} {fa a:Addr} {x:Str} {s₁:Shared} {vs:List Value} 
  (KX:K.In s₁.heap) (hns:s₁.heap.Ns mainGlobals mg) (hb:s₁.heap.Ns builtinsNs mb) (hbb:∀ x:Str,x≠"__name__"->mb x=bootBuiltins x) (hlim:s₁.heap.NoLimit) (hg:s₁.gens=#[])
  (ha:s₁.heap.get? a=some { cls:=.type "list",data:=.seq vs.toArray }) (hi:IntsAre vs ns) (hl:ns.length<=sizeLine) (hr:Room k callerA)
  (F:∀ base:Heap,K.In base->base.Ns mainGlobals mg->FnOk P w K mg base CX k fa fd [x] sp) (hbind:∀ (s:Shared) (u:Value),BindsTo s fd ⟨[u],[]⟩ [(x,u)])
  (hsp:∀ H:Hp,Only H->SqL K H a (ns.map V.int)->sp [.ref a] H (fun v _=>v=.bl true) fun _ _ _=>False)
  (hCX:∀ H e s',CX [] H s₁ (fun _ _ _=>False) e s'->False) :
  codeAny (model P w) callerA (.call (.ref fa) ⟨[.ref a],[]⟩) (fun r s'=>r=.ok (.ret (.bool true))/\OldK s₁.heap s'.heap/\s'.os=s₁.os/\AllBare s'.gens) s₁:=by
 have rv:=Qv hi;have lenV:=hi.length;have core:∀ H:Hp,Only H->SqL K H a (ns.map V.int)->HOk P w H s₁.heap->(∀ b,H b≠none->b=a)->(H a≠none->K.lookup a=none) ->
   codeAny (model P w) callerA (.call (.ref fa) ⟨[.ref a],[]⟩) (fun r s'=>r=.ok (.ret (.bool true))/\OldK s₁.heap s'.heap/\s'.os=s₁.os/\AllBare s'.gens) s₁:=by
  intro H hO hS hok hA hK;have base_of:∀ {b:Addr} {o:Obj},s₁.heap.get? b=some o->H b=none->(hidT s₁.heap H).get? b=some o:=fun e n=>Zg3 e n;have noA:∀ {b:Addr} {o:Obj} {es:Array DictEntry} {ep:Nat},s₁.heap.get? b=some o->o.data=.dict es ep->H b=none:=fun {b o es ep} e d=>by
   cases q:H b with
   | none=>rfl
   | some u =>
    have e':b=a:=hA b (by rw [q]; simp);subst e';rw [ha] at e; cases e;have d':Data.seq vs.toArray _=Data.dict es ep:=d;cases d'
  have nsK:∀ {b:Addr} {m:Str->Option Value},s₁.heap.Ns b m->(hidT s₁.heap H).Ns b m:=fun {b m} ⟨o,es,ep,e,d,r⟩=>⟨o,es,ep,base_of e (noA e d),d,r⟩;have hKb:K.In (hidT s₁.heap H):=fun b o e=>base_of (KX b o e) (by
   cases q:H b with
   | none=>rfl
   | some u =>
    have e':b=a:=hA b (by rw [q]; simp);subst e';rw [hK (by rw [q]; simp)] at e; cases e)
  have hM:Mod K mg (hidT s₁.heap H):=⟨hKb,nsK hns,⟨mb,nsK hb,hbb⟩,let ⟨mc,h1,h2⟩:=hlim; ⟨mc,nsK h1,h2⟩⟩;have e0:Env0 P w K mg (hidT s₁.heap H) callerA [] s₁ H:=⟨rfl,hM,fun b o e=>Zjo e,Fw (Zew _ _),trivial,fun b hb=>absurd (show b∈([]:List Addr) from hb) (by simp),hok,.of_eq hg⟩;refine codeAny_mono ((F _ hKb (nsK hns)).run callerA [] s₁ H ⟨[.ref a],[]⟩ [.ref a] [.ref a] _ _ hr e0 (hbind s₁ (.ref a)) (.cons rfl .nil) (hsp H hO hS)) fun r s' h=>?_;cases r with
  | error e=>exact (hCX H e s' h).elim
  | ok fl =>
   cases fl with
   | next=>exact False.elim h
   | brk=>exact False.elim h
   | cont=>exact False.elim h
   | ret u =>
    obtain ⟨v,H',os,bare,un,hok',r',q⟩:=h;have q':v=.bl true:=q;subst q';obtain rfl:u=Value.bool true:=r';exists rfl,OldK.of_keep fun b o e=>?_,os,bare;cases q:H b with
    | none=>exact un.keep b o e q (by intro z; exact absurd (show b∈([]:List Addr) from z) (by simp)) (by simp)
    | some u =>
     rcases hO b with z | ⟨ob,xs,z⟩
     ·rw [q] at z; cases z
     ·have z2:=un.frzs b ob _ z;obtain ⟨e1,_⟩:=hok b _ z;obtain ⟨e2,_⟩:=hok' b _ z2;rw [e] at e1; cases e1;exact e2
 cases hk:K.lookup a with
 | some o =>
  have e:=KX a o hk;rw [ha] at e;cases e;refine core (fun _=>none) (fun _=>.inl rfl) (.inr ⟨_,vs.toArray,_,hk,rfl,rfl,rfl,by rw [Jg,lenV]; exact hl,by simpa using rv⟩) (fun b u z=>by have z':(none:Option HO)=some u:=z; cases z') (fun b z=>absurd rfl z) fun z=>absurd rfl z
 | none =>
  refine core (fun b=>if b=a then some (.frz { cls:=.type "list",data:=.seq vs.toArray } (.lst (ns.map V.int))) else none) (fun b=>?_) (.inl (.inr ⟨{ cls:=.type "list",data:=.seq vs.toArray },Df rfl⟩)) (fun b u z=>?_) (fun b z=>?_) fun _=>hk
  ·by_cases hb:b=a
   ·exact .inr ⟨_,_,Df hb⟩
   ·exact .inl (De hb)
  ·by_cases hb:b=a
   ·have z':=(Df hb).symm.trans z;cases z';subst hb;exists ha,by rw [Ja]; exact hl,vs,_,rv,ha
   ·have z':=(De hb).symm.trans z;cases z'
  ·by_cases hb:b=a
   ·exact hb
   ·exact absurd (De hb) z
def Zis {l:W.OpenLaw} {n k:Nat} {q:Program} {loose:List Str} {XP:(Str->Option Value)->Heap->Prop} {YP:World->Heap->Prop} {d:DefRec} {K:Params->W.Frag} {CX:World->CXT} {sp:World->Sp} {x:Str}
  (hn:l.most=some n) (hn2:n<=sizeLine) (hdf:d.params.defaults=[]) (hr:Room k callerA)
  (hY:∀ (w:World) (h:Heap),YP w h->(K w.params).In h)
  (F:∀ (w:World) (mg:Str->Option Value) (fa:Addr) (h:Heap),(K w.params).In h->h.Ns mainGlobals mg->mg d.name=some (.ref fa) ->
   ∃ fd:FuncData,(∀ (s:Shared) (u:Value),BindsTo s fd ⟨[u],[]⟩ [(x,u)]) /\
    ∀ base:Heap,(K w.params).In base->base.Ns mainGlobals mg->FnOk l.prog w (K w.params) mg base (CX w) k fa fd [x] (sp w))
  (hsp:∀ (w:World) (H:Hp) (a:Addr) (ns:List Int),ns.length<=n->Only H->SqL (K w.params) H a (ns.map V.int)->sp w [.ref a] H (fun v _=>v=.bl true) fun _ _ _=>False)
  (hCX:∀ (w:World) (H:Hp) (s:Shared) (e:Value) (s':Shared),CX w [] H s (fun _ _ _=>False) e s'->False) :
  W.WalkO q loose XP YP l.row.toRowW d [] (fun f vs=>PySem.call f vs):=by
 refine Att.attach_call hn hdf fun w s₀ s₁ mg mb fa o pm cd doc a vs ns G Y ho hd hcd hmg hobj hints hlen hg=>?_;have KX:=hY w _ Y;obtain ⟨fd,hb,hF⟩:=F w mg fa _ KX G.T.g hmg;exact Zgy KX G.T.g G.T.b G.T.builtins G.T.nolimit hg hobj hints (Jy hlen hn2) hr hF hb (fun H hO hS=>hsp w H a ns hlen hO hS) fun H e s'=>hCX w H s₁ e s'
def Z2 (s:Stmt):Arguments:=match s with
 | .FunctionDef _ a _ _ _ _ _ _ _ _=>a
 | _=>{ posonlyargs:=[],args:=[],vararg:=none,kwonlyargs:=[],kw_defaults:=[],kwarg:=none,defaults:=[] }
def Z1 (s:Stmt):List Stmt:=match s with
 | .FunctionDef _ _ b _ _ _ _ _ _ _=>b
 | _=>[]
def Zk (s:Stmt):Scope:=match s with
 | .FunctionDef _ _ _ _ _ _ sc _ _ _=>sc
 | _=>{ kind:=.function,names:=[],isGenerator:=false,isCoroutine:=false }
abbrev CX0:CXT:=fun _ _ _ _ _ _=>False
abbrev E0:XK:=fun _ _ _=>False
def Zom :Zf6 CX0 X E0:=fun _ _ _ _ _ _ _ h=>h.elim
structure Fun (K:W.Frag) (x qual:Str) (st:Stmt) (f:Addr) (fd:FuncData):Prop where
 ex:∃ (oc:Value) (od:Option Addr) (kV doc pm:Value) (an:Option Addr) (cdv ct:Value) (osl:Array (Option Value)),
  fd=W.fnOf x qual (Z2 st) (Z1 st) (Zk st) .none kV doc pm an cdv ct/\K.lookup f=some ⟨oc,od,.func fd,osl⟩/\W.codeIn K cdv qual=true
 kp:W.keepIn K (.ref f)=true
section
def Fun.ok {x:Str} {f:Addr} {k:Nat} (F:Fun K x qual st f fd) (S:FnScope N ps (Zk st)) (len:∀ vs H Q E,sp vs H Q E->vs.length=ps.length)
  (hbody:∀ (cdv:Value) (A:Around) (outer:List Env) (s:Shared) (H:Hp) (vs:List V) (Q:VK) (E:XK),Room k (A.deeper (envOfC qual (Zk st) s.heap.objs.size f cdv))->sp vs H Q E ->
   ∃ t,PSs (cxOf CX0 P w K mg base N qual (Zk st) f cdv A outer s H E).nox (Z1 st) t/\t { nx:=fun _ H'=>Q .non H',rt:=Q } (start N vs) H):FnOk P w K mg base CX0 (k+1) f fd ps sp:=by
 obtain ⟨oc,od,kV,doc,pm,an,cdv,ct,osl,rfl,lk,hcd⟩:=F.ex;refine Zoy lk hcd S len fun A outer s H vs Q E hr hsp=>?_;obtain ⟨t,h,q⟩:=hbody cdv A outer s H vs Q E hr hsp;exists t,h.nox,q
def Fun.binds {x:Str} {f:Addr} (F:Fun K x qual st f fd)
  (h:∀ (kV doc pm:Value) (an:Option Addr) (cdv ct:Value) (us:List Value),us.length=ps.length->bindArgs (W.fnOf x qual (Z2 st) (Z1 st) (Zk st) .none kV doc pm an cdv ct) ⟨us,[]⟩=pure (ps.zip us)):Zah K fd ps []:=by
 obtain ⟨oc,od,kV,doc,pm,an,cdv,ct,osl,rfl,lk,hcd⟩:=F.ex;exact .all (h kV doc pm an cdv ct)
def Yi {x:Str} {f:Addr} {oc:Value} {od an:Option Addr} {osl:Array (Option Value)} {kV doc pm cdv ct:Value} (l:K.lookup f=some ⟨oc,od,.func (W.fnOf x qual (Z2 st) (Z1 st) (Zk st) .none kV doc pm an cdv ct),osl⟩)
  (c:W.codeIn K cdv qual=true) (k:W.keepIn K (.ref f)=true):Fun K x qual st f (W.fnOf x qual (Z2 st) (Z1 st) (Zk st) .none kV doc pm an cdv ct):=⟨⟨oc,od,kV,doc,pm,an,cdv,ct,osl,rfl,l,c⟩,k⟩
end
def X7 {k:Nat} (hr:Room k A):A.units+1<cLine:=Fd (Nat.add_le_add_left (by decide:1<=64) _) hr.units
section
def pv (i:Nat) {x:Str} (hN:X.N[i]?=some x:=by rfl) (hv:Vis X.env.scope x:=by first | exact Or.inl rfl | exact Or.inr (Or.inl rfl) | exact Or.inr (Or.inr rfl)) (hd:(x == ("__debug__":Str))=false:=by decide)
  (hcd:(x == ("__classdict__":Str))=false:=by decide):PE X (.Name x pos) (tVar i):=Zl4 hN hv hd hcd
end
def iteF {A B:Prop} (h:B):if false=true then A else B:=by
 rw [De Jo];exact h
def iteT {A B:Prop} (h:A):if true=true then A else B:=by
 rw [Df rfl];exact h
def ite2 {c A B:Prop} [Decidable c] (h1:c->A) (h2:¬ c->B):if c then A else B:=by
 by_cases h:c
 ·rw [Df h];exact h1 h
 ·rw [De h];exact h2 h
def Same (H H':Hp):Prop:=∀ b o,H b=some o->H' b=some o
def Same.refl (H:Hp):Same H H:=fun _ _ h=>h
def Same.trans {H2:Hp} (a:Same H H1) (b:Same H1 H2):Same H H2:=fun c o h=>b c o (a c o h)
theorem Same.free (e:Same H H') (h:H' l=Option.none):H l=Option.none:=by
 cases q:H l with
 | none=>rfl
 | some o =>
  rw [e l o q] at h;cases h
def Same.seq {a:Addr} {xs:List V} (e:Same H H') (h:SqL K H a xs):SqL K H' a xs:=by
 rcases h with (h | ⟨o,h⟩) | h
 ·exact .inl (.inl (e _ _ h))
 ·exact .inl (.inr ⟨o,e _ _ h⟩)
 ·exact .inr h
end L2
namespace L2
open PySem
def Wn (cells:List (Str×Addr)):List (Str×NameKind)->List (Str×Addr)->List (Str×Addr)
 | [],acc=>acc
 | (n,k)::r,acc=>if k == .free then Wn cells r ((n,(cells.lookup n).getD 0)::acc) else Wn cells r acc
def Zfq (env:Env) (l:List (Str×NameKind)) (acc:List (Str×Addr)):Sem (List (Str×Addr)):=do
 let mut cs:=acc
 for (name,kind) in l do
  if kind == .free then cs:=(name,<- cellOf env name)::cs
 return cs
theorem Rf {env:Env}:∀ (l:List (Str×NameKind)) (acc:List (Str×Addr)),(∀ y∈l,y.2=.free->∃ c,env.cells.lookup y.1=some c) ->
  Zfq env l acc=pure (Wn env.cells l acc)
 | [],acc,_=>rfl
 | (n,k)::r,acc,h=>by
  have ih:=fun acc=>Rf r acc fun y hy=>h y (Jj _ hy);unfold Zfq at ih ⊢;rw [Wn];cases hk:(k == NameKind.free) with
  | false =>
   simp only [List.forIn_cons,hk,Gf,if_false,pure_bind] at ih ⊢;exact ih acc
  | true =>
   obtain ⟨c,hc⟩:=h (n,k) Jl (by simpa using hk);have hc':env.cells.lookup n=some c:=hc;simp only [List.forIn_cons,hk,if_true,cellOf,hc',pure_bind,Bw] at ih ⊢;exact ih _
def Re {scope:Scope} {env:Env} (h:∀ y∈scope.names,y.2=.free->∃ c,env.cells.lookup y.1=some c):closureFor scope env=pure (Wn env.cells scope.names []) :=
 Rf scope.names [] h
theorem Uf {cells:List (Str×Addr)} {x:Str} {c:Addr}:∀ {l:List (Str×NameKind)} {acc:List (Str×Addr)},(∀ y∈l,y.2=.free->∃ c,cells.lookup y.1=some c) ->
  (Wn cells l acc).lookup x=some c->acc.lookup x=some c\/cells.lookup x=some c
 | [],acc,_,h=>.inl h
 | (n,k)::r,acc,hl,h=>by
  rw [Wn] at h
  by_cases hk:(k == NameKind.free)=true
  ·rw [Df hk] at h;obtain ⟨c',hc⟩:=hl (n,k) Jl (by simpa using hk);have hc':cells.lookup n=some c':=hc;rcases Uf (fun y hy=>hl y (Jj _ hy)) h with z | z
   ·rw [Bi,hc'] at z;cases hx:(x == n) with
    | true =>
     rw [hx] at z;have e:x=n:=by simpa using hx
     subst e;have z':c'=c:=by simpa using z
     subst z';exact .inr hc'
    | false=>rw [hx] at z; exact .inl z
   ·exact .inr z
  ·rw [De hk] at h;exact Uf (fun y hy=>hl y (Jj _ hy)) h
theorem Vu {cells:List (Str×Addr)} {x:Str}:∀ {l:List (Str×NameKind)} {acc:List (Str×Addr)},(∃ c,acc.lookup x=some c)->∃ c,(Wn cells l acc).lookup x=some c
 | [],acc,h=>h
 | (n,k)::r,acc,h=>by
  rw [Wn]
  by_cases hk:(k == NameKind.free)=true
  ·rw [Df hk];refine Vu ?_;rw [Bi];cases hx:(x == n) with
   | true=>exact ⟨_,rfl⟩
   | false=>exact h
  ·rw [De hk];exact Vu h
theorem V6 {cells:List (Str×Addr)} {x:Str}:∀ {l:List (Str×NameKind)} {acc:List (Str×Addr)},(x,NameKind.free)∈l->∃ c,(Wn cells l acc).lookup x=some c
 | [],acc,h=>nomatch h
 | (n,k)::r,acc,h=>by
  rw [Wn];rcases Ju.mp h with e | h
  ·cases e;rw [Df (by rfl)];refine Vu ?_;rw [Bi,beq_self_eq_true];exists ·
  ·by_cases hk:(k == NameKind.free)=true
   ·rw [Df hk]; exact V6 h
   ·rw [De hk]; exact V6 h
def Vj {scope:Scope} {env:Env} (nc:∀ y∈scope.names,y.2≠.cell) {x:Str} (h:(relabel scope env).names.lookup x=some .cell\/(relabel scope env).names.lookup x=some .free):(x,NameKind.free)∈scope.names:=by
  have go:∀ (l:List (Str×NameKind)),(∀ y∈l,y.2≠.cell) ->
      ((l.map fun (n,k)=>if (k == NameKind.free && env.scope.kind == .function && env.kindOf n == some .cell) then (n,NameKind.cell) else (n,k)).lookup x=some .cell \/
       (l.map fun (n,k)=>if (k == NameKind.free && env.scope.kind == .function && env.kindOf n == some .cell) then (n,NameKind.cell) else (n,k)).lookup x=some .free)->(x,NameKind.free)∈l:=by
    intro l
    induction l with
    | nil=>intro _ h; rcases h with h | h <;> cases h
    | cons a r ih =>
      obtain ⟨n,k⟩:=a;intro nc h;have nck:k≠.cell:=nc (n,k) Jl;simp only [Jr] at h
      by_cases hx:(x == n)=true
      · have e:x=n:=by simpa using hx
        subst e
        by_cases hk:k=.free
        · subst hk; exact Jl
        · have hb:(k == NameKind.free)=false:=by simpa using hk
          simp only [hb,Bool.false_and,Gf,if_false,Bi,beq_self_eq_true] at h;rcases h with h | h
          · exact absurd (Di h) nck
          · exact absurd (Di h) hk
      · have hx':(x == n)=false:=by simpa using hx
        refine Jj _ (ih (fun y hy=>nc y (Jj _ hy)) ?_);have el:∀ (p:Str×NameKind) (t:List (Str×NameKind)),p.1=n->(p::t).lookup x=t.lookup x:=by
          intro p t e;obtain ⟨a,b⟩:=p;have e':a=n:=e;subst e';rw [Bi,hx']
        rw [el _ _ (by split <;> rfl)] at h;exact h
  exact go scope.names nc h
def Us {scope:Scope} {env:Env} {x:Str} (h:(relabel scope env).names.lookup x=some .local):scope.names.lookup x=some .local:=by
 have go:∀ (l:List (Str×NameKind)),
   (l.map fun (n,k)=>if (k == NameKind.free && env.scope.kind == .function && env.kindOf n == some .cell) then (n,NameKind.cell) else (n,k)).lookup x=some .local->l.lookup x=some .local:=by
  intro l
  induction l with
  | nil=>intro h; cases h
  | cons a r ih =>
   obtain ⟨n,k⟩:=a;intro h;simp only [Jr] at h
   by_cases hx:(x == n)=true
   ·have e:x=n:=by simpa using hx
    subst e
    by_cases hc:(k == NameKind.free && env.scope.kind == .function && env.kindOf x == some .cell)=true
    ·rw [Df hc,Bi,beq_self_eq_true] at h;cases h
    ·rw [De hc,Bi,beq_self_eq_true] at h;rw [Bi,beq_self_eq_true];exact h
   ·have hx':(x == n)=false:=by simpa using hx
    have el:∀ (p:Str×NameKind) (t:List (Str×NameKind)),p.1=n->(p::t).lookup x=t.lookup x:=by
     intro p t e;obtain ⟨a,b⟩:=p;have e':a=n:=e;subst e';rw [Bi,hx']
    rw [el _ _ (by split <;> rfl)] at h;rw [el _ _ rfl];exact ih h
 exact go scope.names h
end L2
namespace L2
open PySem PySem.Spec PyProof.Rows
def nbOf (N T:List Str) (cs:List Nat):List Str:=T++cs.map fun i=>N.getD i Str.empty
def sgOf (σ:St) (T:List Str) (cs:List Nat):St:=T.map (fun _=>none)++cs.map fun i=>σ.getD i none
structure CScope (outer scope:Scope) (N T:List Str) (cs:List Nat):Prop where
 kind:scope.kind=.function
 nocell:∀ y∈scope.names,y.2≠.cell
 names:∀ y∈scope.names,y.2=.local->scope.names.lookup y.1=some .local
 free:∀ y∈scope.names,y.2=.free->outer.names.lookup y.1=some .cell\/outer.names.lookup y.1=some .free
 cap:∀ i∈cs,scope.names.lookup (N.getD i Str.empty)≠some .local
def Zfn (outer scope:Scope) (N:List Str) (cs:List Nat):Bool :=
 decide (scope.kind=.function) && (scope.names.all (fun y=>!decide (y.2=NameKind.cell)) && (scope.names.all (fun y=>!decide (y.2=NameKind.local) || decide (scope.names.lookup y.1=some NameKind.local)) &&
  (scope.names.all (fun y=>!decide (y.2=NameKind.free) || (decide (outer.names.lookup y.1=some NameKind.cell) || decide (outer.names.lookup y.1=some NameKind.free))) && cs.all (fun i=>!decide (scope.names.lookup (N.getD i Str.empty)=some NameKind.local)))))
def CScope.ok {outer scope:Scope} (h:Zfn outer scope N cs=true):CScope outer scope N T cs:=by
 unfold Zfn at h;simp only [B9,Bj,Bool.or_eq_true,decide_eq_true_eq,Bool.not_eq_true',decide_eq_false_iff_not] at h;obtain ⟨h1,h2,h3,h4,h5⟩:=h;exists h1,h2,fun y hy e=>(h3 y hy).resolve_left (fun q=>q e),fun y hy e=>(h4 y hy).resolve_left (fun q=>q e),h5
def Xn {l:List Str} (h:decide l.Nodup=true):l.Nodup:=of_decide_eq_true h
def blk (X:Cx) (T:List Str) (cs:List Nat) (scope:Scope) (C:Addr) (s₀:Shared) (H₀:Hp) (ex:List Addr):Cx where
 prog:=X.prog
 w:=X.w
 K:=X.K
 mg:=X.mg
 base:=X.base
 A:=X.A
 N:=nbOf X.N T cs
 s₀:=s₀
 H₀:=H₀
 env:=compEnvC scope (Wn X.env.cells scope.names []) C X.env
 outer:=X.stack
 stack:=X.stack
 ex:=ex
 fn:=fun _=>false
 calm:=X.calm
 pn:=[]
 xe:=fun _ _=>False
section
variable {scope:Scope} 
def Inv.hl (I:Inv X pq σ H s) (S:CScope X.env.scope scope X.N T cs):∀ y∈scope.names,y.2=.free->∃ c,X.env.cells.lookup y.1=some c :=
 fun y hy e=>I.ok.has y.1 (S.free y hy e)
def Inv.clo (I:Inv X pq σ H s) (S:CScope X.env.scope scope X.N T cs) {x:Str} {c:Addr} (h:(Wn X.env.cells scope.names []).lookup x=some c):X.env.cells.lookup x=some c :=
 (Uf (I.hl S) h).resolve_left (by simp)
theorem Zj3 (I:Inv X pq σ H s) (S:CScope X.env.scope scope X.N T cs) (hf:∀ b∈fp,FpOk X pq H b) (hfe:∀ b∈fp,∃ o,s.heap.get? b=some o) {C:Addr} {h1:Heap} {m:Str->Option Value} {tk:Nat}
  (hC:s.heap.objs.size<=C) (ns:h1.Ns C m) (k:∀ b o,s.heap.get? b=some o->h1.get? b=some o) :
  Inv (blk X T cs scope C s H fp) [] (sgOf σ T cs) H { s with heap:=h1,toks:=tk }:=by
 have fr:H C=none:=I.hok.fresh hC;have cellS:∀ {c:Addr} {v:Option Value},s.heap.IsCell c v->h1.IsCell c v:=fun ⟨o,e,d⟩=>⟨o,k _ o e,d⟩;refine ⟨⟨I.ok.mod,S.kind,I.ok.glob,I.ok.blt,hC,fun x y c e1 e2=>I.ok.inj x y c (I.clo S e1) (I.clo S e2),fun x hx=>V6 (Vj S.nocell hx),fun x c h _=>absurd (show false=true from h) Jo,
  I.ok.hd,I.ok.frames,.inl rfl,fun b hb=>⟨?_,fun x c e=>(hf b hb).2.2.2.2.1 x c (I.clo S e)⟩,I.bs,Jy I.ok.bsz I.sz,fun b o e hb=>?_,fun b hb z=>?_,I.stack,I.stkFree⟩,
  rfl,I.bare,Un.kept k,⟨m,ns,fun i x v h1' h2' h3'=>?_⟩,fun x c e=>?_,fr,fun x c e=>I.freeC x c (I.clo S e),fun p hp=>absurd (show p∈([]:List (Addr×Obj)) from hp) (by simp),I.hok.kept k,?_⟩
 ·obtain ⟨o,e⟩:=hfe b hb;exact Gi (Gg (Dd e) hC)
 ·rcases (hf b hb).2.2.2.1 with z | z
  ·exact I.ok.noex b o e z
  ·exact absurd (Gg (Gg (Dd e) I.ok.bsz) z) (Bm _)
 ·rcases Ju.mp (I.stkSub b z) with e | e
  ·exact (hf b hb).2.1 e
  ·exact (hf b hb).2.2.1 e
 ·have h2:(sgOf σ T cs)[i]?=some (some v):=h2';have h1'':(nbOf X.N T cs)[i]?=some x:=h1';unfold sgOf at h2;unfold nbOf at h1''
  by_cases hi:i<T.length
  ·rw [Jx (by simpa using hi),Js] at h2;cases e:T[i]? with
   | none=>rw [e] at h2; cases h2
   | some a=>rw [e] at h2; cases h2
  ·rw [Gu (by simpa using hi),Js,Ja] at h2;rw [Gu (by lia),Js] at h1'';cases e:cs[i-T.length]? with
   | none=>rw [e] at h2; cases h2
   | some c0 =>
    rw [e] at h2 h1'';have ex:X.N.getD c0 Str.empty=x:=Di h1'';have ev:σ.getD c0 none=some v:=Di h2;have eσ:σ[c0]?=some (some v):=by
     rw [J8] at ev;cases q:σ[c0]? with
     | none=>rw [q] at ev; cases ev
     | some z=>rw [q] at ev; exact congrArg some ev
    have hlt:c0<X.N.length:=by
     have:=(Jh.mp eσ).1;rw [I.len] at this;exact this
    have eN:X.N[c0]?=some x:=by
     rw [J8,Jb hlt] at ex;rw [Jb hlt];exact congrArg some ex
    have hfree:(x,NameKind.free)∈scope.names:=by
     rcases h3' with z | z | z
     ·exact absurd (Us z) (by rw [<- ex]; exact S.cap c0 (Gb e))
     ·exact Vj S.nocell (.inl z)
     ·exact Vj S.nocell (.inr z)
    have ok:=S.free _ hfree rfl;obtain ⟨m',hn',hl'⟩:=I.loc;obtain ⟨u,r,l⟩:=hl' c0 x v eN eσ (.inr ok);exists u,r,?_;rcases l with ⟨kd,_⟩ | ⟨_,c,ec,z⟩
    ·have kd':X.env.scope.names.lookup x=some .local:=kd;rcases ok with q | q <;> (rw [show X.env.scope.names.lookup x=_ from q] at kd'; cases kd')
    ·obtain ⟨c',ec'⟩:=V6 (cells:=X.env.cells) (acc:=[]) hfree;have:c'=c:=by
      have q:=I.clo S ec';rw [ec] at q;exact (Di q).symm
     subst this;refine .inr ⟨?_,c',ec',cellS z⟩;rcases h3' with q | q | q
     ·exact absurd (Us q) (by rw [<- ex]; exact S.cap c0 (Gb e))
     ·exact .inl q
     ·exact .inr q
 ·obtain ⟨v,z⟩:=I.cell x c (I.clo S e);exists v,cellS z
 ·show (sgOf σ T cs).length=(nbOf X.N T cs).length;simp [sgOf,nbOf]
def Inv.track {D:Addr} {n:Nat} (I:Inv X pq σ H s) (hD:s.heap.get? D=some { cls:=.type "list",data:=.seq its.toArray n }) (f:FpOk X pq H D) (rv:Vals ys its) (hz:ys.length<=sizeLine) :
  Inv X pq σ (upd H D (.lst ys)) s:=by
 obtain ⟨f0,f1,f2,f3,f4,f5⟩:=f;have hok:HOk X.prog X.w (upd H D (.lst ys)) s.heap:=fun b u e=>by
  by_cases hb:b=D
  ·subst hb;rw [Zn] at e;cases e;exists hz,its,n,rv,hD
  ·rw [Z4 hb] at e;exact (I.hok b u e).stay (fun _ _ _ q=>q) (fun c q=>by rw [Z4 (Zz q f0)]; exact q) fun c xs q=>by rw [Z4 (Zz q f0)]; exact q
 have st:=I.step (H':=upd H D (.lst ys)) (h':=s.heap) (g':=s.gens) (t':=s.toks) (d':=s.drawn) (ch:=[D])
  (fun b hb=>by
   have e:b=D:=by simpa using hb
   subst e;exact ⟨f3,f1,f4,f5⟩)
  (fun b o _ _ _ e _=>e) (fun b o _ _ _ e _=>⟨o.slots,e⟩) (fun b o hc e n=>by rw [Z4 (fun z=>hc (by simp [z]))]; exact n) (fun b o _ e=>⟨o,e⟩)
  (fun b xs e=>by rw [Z4 (Zz e f0)]; exact e) (fun b o u e=>by rw [Z4 (Zz e f0)]; exact e) (fun b ps e=>⟨#[],by rw [Z4 (Zz e f0),e]; simp⟩) (fun m h=>h) hok I.bare
 exact st
end
section
variable {R:Result->Shared->Prop} 
abbrev Zcs (ifs:List Expr) (env:Env):Sem Bool:=forIn ifs true fun c r=>if r=true then do let ok <- isTrue c env (eval c env); pure (ForInStep.yield ok) else pure (ForInStep.yield r)
theorem P2 {elt target iter:Expr} {ifs:List Expr} {scope:Scope} {it acc:Value} {env:Env} (I:Nat->Shared->Prop)
  (turn:∀ n s,I n s->wpAny (model prog w) A (pyNext it) (fun r s₁=>match r with
   | none=>R (.ok .next) s₁
   | some v=>wpAny (model prog w) A (letOwnedTupleGo target it v) (fun _ s₂=>wpAny (model prog w) A (assign target env v) (fun _ s₃ =>
     wpAny (model prog w) A (Zcs ifs env) (fun ok s₄ =>
      if ok=true then wpAny (model prog w) A (eval elt env) (fun x s₅ =>
       wpAny (model prog w) A (call (.builtin "list.append") [acc,x]) (fun _ s₆=>∃ m,m<n/\I m s₆) (fun _ _=>False) s₅) (fun _ _=>False) s₄
      else ∃ m,m<n/\I m s₄) (fun _ _=>False) s₃) (fun _ _=>False) s₂) (fun _ _=>False) s₁) (fun _ _=>False) s)
  (n:Nat) (h:I n s) :
  codeAny (model prog w) A (.compLoop (.ListComp elt [⟨target,iter,ifs,0⟩] scope pos) 0 it acc env) R s:=by
 refine codeAny_loop rfl I (fun n s hI=>?_) n h;show wpAny _ A ((compTurn (.ListComp elt [⟨target,iter,ifs,0⟩] scope pos) 0 it acc env).onRaise (fun x=>do noteFrame x env; theTreesLotGoes x)) _ _ s;refine wpAny_noted ?_;rw [compTurn_list];refine Fz (wpAny_standAt (Fz (Dm (turn n s hI) (fun r s₁ h₁=>?_) fun _ _ h'=>False.elim h')));cases r with
 | none=>exact Da h₁
 | some v =>
  refine Fz (Dm h₁ (fun _ s₂ h₂=>?_) fun _ _ h'=>False.elim h');refine Fz (Dm h₂ (fun _ s₃ h₃=>Fz (Dm h₃ (fun ok s₄ h₄=>?_) fun _ _ h'=>False.elim h')) fun _ _ h'=>False.elim h');cases ok with
  | false=>exact Da ⟨rfl,h₄⟩
  | true =>
   exact Fz (Fz (Dm h₄ (fun x s₅ h₅=>Fz (Dm h₅ (fun _ s₆ h₆=>Da (Da ⟨rfl,h₆⟩)) fun _ _ h'=>False.elim h')) fun _ _ h'=>False.elim h'))
end
def PTs (X:Cx) (ifs:List Expr) (t:TT):Prop :=
 ∀ (pq:List (Addr×Obj)) (s:Shared) (σ:St) (H:Hp) (Q:Bool->Hp->Prop),Inv X pq σ H s->t σ H Q->wpAny (model X.prog X.w) X.A (Zcs ifs X.env) (TP X pq σ Q) X.xe s
def Zk4:TT:=fun _ H Q=>Q true H
def Y6 :PTs X [] Zk4:=fun pq s σ H Q I h=>wpAny_tests_nil ⟨H,I,h⟩
def Tg {c:Expr} {t:TT} (hc:PT X c t):PTs X [c] t:=fun pq s σ H Q I h=>wpAny_tests_one (hc pq s σ H Q I h)
def Ag (n:Nat) (σ σ0:St):Prop:=σ.length=σ0.length/\∀ i,n<=i->σ[i]?=σ0[i]?
def Nf (g:TG) (n:Nat):Prop:=∀ σ0 x σ H R,Ag n σ σ0->g x σ H R->g x σ H fun σ2 H2=>R σ2 H2/\Ag n σ2 σ0
def Qt (g:TGs) (n:Nat):Prop:=∀ σ0 xs σ H R,Ag n σ σ0->g xs σ H R->g xs σ H fun σ2 H2=>R σ2 H2/\Ag n σ2 σ0
theorem Ag.set {n i:Nat} {σ0:St} (a:Ag n σ σ0) (h:i<n) (v:Option V):Ag n (σ.set i v) σ0 :=
 ⟨by rw [B7]; exact a.1,fun j hj=>(Gx (by lia)).trans (a.2 j hj)⟩
def Y2 {i n:Nat} (h:i<n):Nf (N3 i) n:=fun σ0 x σ H R a q=>⟨q,a.set h _⟩
def Sx {n:Nat}:Qt gNil n:=fun σ0 xs σ H R a q=>⟨q.1,q.2,a⟩
def Xy {i n:Nat} {u:TGs} (h:i<n) (h2:Qt u n):Qt (Zj5 (N3 i) u) n:=fun σ0 xs σ H R a q=>by
 obtain ⟨v,r,e,q⟩:=q;exists v,r,e,h2 σ0 r _ _ _ (a.set h _) q
def Pu {m n:Nat} {t:TGs} (h:Qt t n):Nf (gTup K m t) n:=fun σ0 x σ H R ag q=>by
 obtain ⟨a,xs,e,hq,hl,q⟩:=q;exists a,xs,e,hq,hl,h σ0 xs σ H R ag q
section
variable {scope:Scope} {elt iter:Expr} {ifs:List Expr} {g:TG} {tt:TT} 
theorem P1 {RR:Value->Addr->Result->Shared->Prop} {Fin:List V->Hp->Prop} {J:It} {tn:Nat->Heap->Prop}
  (I:Inv X pq σ H s) (hc:X.calm=true) (S:CScope X.env.scope scope X.N T cs) (Tn:Turn X.prog X.w X.K tg J fp it tn) (st:tn 0 s.heap) (hf:∀ b∈fp,FpOk X pq H b)
  (hg:∀ C s₀ H₀ ex,PG (blk X T cs scope C s₀ H₀ ex) tg g) (ht:∀ C s₀ H₀ ex,PTs (blk X T cs scope C s₀ H₀ ex) ifs tt) (he:∀ C s₀ H₀ ex,PE (blk X T cs scope C s₀ H₀ ex) elt te) (hk:Nf g T.length)
  (W:Nat->Nat->List V->Hp->Prop) (w0:∃ m,W 0 m [] H)
  (turn:∀ i m ys H,W i m ys H->(J.stop i H/\ys.length<=sizeLine/\Fin ys H)\/(J.go i H/\ys.length<sizeLine/\∃ N:List V->Hp->Prop,(∀ ys' H',N ys' H'->∃ m',m'<m/\W (i+1) m' ys' H') /\
   ∀ x H',J.yld i H x H'->g x (sgOf σ T cs) H' fun σ2 H2=>tt σ2 H2 fun b H3=>if b=true then te σ2 H3 fun y H4=>N (ys++[y]) H4 else N ys H3))
  (fin:∀ (D C:Addr) (s':Shared) (m:Str->Option Value) (ys:List V) (H':Hp),Fin ys H'->H' D=none->s'.heap.Ns C m->FpOk X pq H' C->C≠D->Inv X pq σ (upd H' D (.lst ys)) s'->RR (.ref D) C (.ok .next) s') :
  wpAny (model X.prog X.w) X.A (newList []) (fun acc s₃=>wpAny (model X.prog X.w) X.A (newFunctionEnv scope X.env.globals (Wn X.env.cells scope.names []) [] X.env.qual none .none (some X.env)) (fun cenv s₄ =>
   codeAny (model X.prog X.w) X.A (.compStart (.ListComp elt [⟨tg,iter,ifs,0⟩] scope pos) 0 (.ref it) acc { cenv with scope:=relabel scope X.env }) (RR acc cenv.locals) s₄) E s₃) E s:=by
 refine wpAny_newObj_type (wpAny_newFunctionEnv S.nocell (by intro y hy; simp at hy) (fun h₁ hns₁ hsb₁=>?_) S.kind);dsimp only at hns₁ hsb₁ ⊢;generalize hH2:s.heap.push { cls:=.type "list",dict:=none,data:=.seq ([]:List Value).toArray }=H2 at hns₁ hsb₁ ⊢;have hCe:H2.objs.size=s.heap.objs.size+1:=by rw [<- hH2,Heap.size_push]
 have hDC:s.heap.objs.size≠H2.objs.size:=by rw [hCe]; exact Gi (Bx _)
 have hCle:s.heap.objs.size<=H2.objs.size:=by rw [hCe]; exact Fv _
 have old:∀ b o,s.heap.get? b=some o->h₁.get? b=some o:=fun b o e =>
  hsb₁.extBut b o (by rw [hCe]; exact Gi (Nat.lt_succ_of_lt (Dd e))) (Db _ (hH2 ▸ Db _ e))
 have hacc:h₁.get? s.heap.objs.size=some { cls:=.type "list",data:=.seq ([]:List Value).toArray 0 }:=hsb₁.extBut _ _ hDC (Db _ (hH2 ▸ Dc _ rfl));have hfe:∀ b∈fp,∃ o,s.heap.get? b=some o:=fun b hb=>let ⟨o,e,_⟩:=Tn.obj _ _ st b hb; ⟨o,e⟩
 have hlt:∀ b∈fp,b<s.heap.objs.size:=fun b hb=>let ⟨o,e⟩:=hfe b hb; Dd e
 have st₁:tn 0 h₁:=Tn.keep _ _ _ st fun b _ o e=>old b o e;generalize hDD:s.heap.objs.size=D at *
 generalize hCC:H2.objs.size=C at *
 have hnD:H D=none:=I.hok.fresh (Fw hDD);have stat:∀ {H':Hp} {its:List Value} {n:Nat},(∀ b∈fp,H' b=none)->∀ b∈fp,FpOk (blk X T cs scope C s H fp) [(D,({ cls:=.type "list",data:=.seq its.toArray n }:Obj))] H' b:=fun hn b hb=>by
  obtain ⟨f0,f1,f2,f3,f4,f5⟩:=hf b hb;exists hn b hb,Gi (Gg (hlt b hb) hCle),fun z=>?_,.inl hb,fun x c e=>f4 x c (I.clo S e),fun p hp z=>?_
  ·rcases Ju.mp (I.stkSub b z) with e | e
   ·exact f1 e
   ·exact f2 e
  ·have e:p.1=D:=by
    rcases Jn.mp hp with q | q
    ·exact absurd (show p∈([]:List (Addr×Obj)) from q) (by simp)
    ·rw [Je.mp q]
   exact absurd (hlt b hb) (by rw [<- z,e]; exact Bm _)
 have loop:∀ tk:Nat,codeAny (model X.prog X.w) X.A (.compLoop (.ListComp elt [⟨tg,iter,ifs,0⟩] scope pos) 0 (.ref it) (.ref D) (compEnvC scope (Wn X.env.cells scope.names []) C X.env)) (RR (.ref D) C) { s with heap:=h₁,toks:=tk }:=by
  intro tk;have I1:Inv (blk X T cs scope C s H fp) [] (sgOf σ T cs) H { s with heap:=h₁,toks:=tk }:=Zj3 I S hf hfe (by rw [hDD]; exact hCle) hns₁ old;obtain ⟨m0,w0⟩:=w0;have pinD:∀ {σ':St} {H':Hp} {s':Shared} {its:List Value} {n:Nat} {pl:List (Addr×Obj)},Inv (blk X T cs scope C s H fp) pl σ' H' s'->s'.heap.get? D=some { cls:=.type "list",data:=.seq its.toArray n }->H' D=none ->
    Inv (blk X T cs scope C s H fp) [(D,({ cls:=.type "list",data:=.seq its.toArray n }:Obj))] σ' H' s':=fun {σ' H' s' its n pl} J e hn=>J.pins_of fun p hp=>by
   obtain rfl:=Je.mp hp;refine ⟨e,hn,hDC,fun z=>?_,fun v q=>by cases q⟩;have z':D∈frs X.stack:=z;obtain ⟨_,o,ho,_⟩:=I.stack.mem z';exact absurd (Dd ho) (by rw [hDD]; exact Bm _)
  refine P2 (fun n s'=>∃ (i:Nat) (ys:List V) (its:List Value) (k:Nat) (H':Hp),Inv (blk X T cs scope C s H fp) [(D,({ cls:=.type "list",data:=.seq its.toArray k }:Obj))] (sgOf σ T cs) H' s'/\Vals ys its/\tn i s'.heap/\(∀ b∈fp,H' b=none)/\W i n ys H') ?_ m0
   ⟨0,[],[],0,H,pinD I1 hacc hnD,.nil,st₁,fun b hb=>(hf b hb).1,w0⟩
  rintro n s1 ⟨i,ys,its,k,H1,J1,rv,st1,fr1,w1⟩;rcases turn i n ys H1 w1 with ⟨stop,hz,fq⟩ | ⟨go,hz,N,hN,step⟩
  ·refine Dm (Tn.done (blk X T cs scope C s H fp) rfl rfl rfl hc i _ s1 _ H1 (fun _ _=>False) J1 (stat fr1) st1 stop) (fun r s2 hz=>?_) fun _ _ z=>z;obtain ⟨hr,J2⟩:=hz;subst hr;obtain ⟨eD,nD,_⟩:=J2.pin (D,({ cls:=.type "list",data:=.seq its.toArray k }:Obj)) (Ji _ (Je.mpr rfl));have J3:Inv X pq σ H1 s2:=I.call' (ch:=fp) J2.os J2.base J2.hok J2.bare fun b hb=>by
    obtain ⟨f0,f1,f2,f3,f4,f5⟩:=hf b hb;exists f3,f1,f4,f5
   obtain ⟨mC,hnC,_⟩:=J2.loc;have fC:FpOk X pq H1 C:=I.fpOk (by rw [hDD]; exact hCle) J2.free;have fD:FpOk X pq H1 D:=I.fpOk (Fw hDD) nD;exact fin D C s2 mC ys H1 fq nD hnC fC (Ne.symm hDC) (J3.track eD fD rv hz)
  ·refine Dm (Tn.item (blk X T cs scope C s H fp) rfl rfl rfl hc i _ s1 _ H1 (fun _ _=>False) J1 (stat fr1) st1 go) (fun r s2 hz=>?_) fun _ _ z=>z;obtain ⟨u,hr,h2⟩:=hz;subst hr;refine Dm h2 (fun _ s3 hz=>?_) fun _ _ z=>z;obtain ⟨x,H3,J3,r3,y3,st3,fr3⟩:=hz;have J3':=J3.pinned (stat fr3) (Tn.obj _ _ st3);refine Dm (hg C s H fp _ s3 _ H3 x u _ J3' r3 (hk (sgOf σ T cs) x _ H3 _ ⟨rfl,fun _ _=>rfl⟩ (step x H3 y3))) (fun _ s4 hz=>?_) fun _ _ z=>z;obtain ⟨σ4,H4,J4,q4,l4,k4⟩:=hz;refine Dm (ht C s H fp _ s4 σ4 H4 _ J4 q4) (fun b s5 hz=>?_) fun _ _ z=>z;obtain ⟨H5,J5,q5⟩:=hz;have wk:∀ {pl:List (Addr×Obj)} {H':Hp} {s':Shared},Inv (blk X T cs scope C s H fp) pl σ4 H' s'->Inv (blk X T cs scope C s H fp) pl (sgOf σ T cs) H' s':=fun J=>J.weak l4.symm fun j v e=>by
    by_cases hj:T.length<=j
    ·rw [k4 j hj]; exact e
    ·exfalso
     unfold sgOf at e;rw [Jx (by simp; lia),Js] at e;cases q:T[j]? with
     | none=>rw [q] at e; cases e
     | some a=>rw [q] at e; cases e
   have tnk:∀ {H':Hp} {s':Shared} {σ':St},Inv (blk X T cs scope C s H fp) ([(D,({ cls:=.type "list",data:=.seq its.toArray k }:Obj))]++Q8 fp s3.heap) σ' H' s'->tn (i+1) s'.heap/\∀ b∈fp,H' b=none:=fun {H' s' σ'} J=>by
    exists Tn.keep _ _ _ st3 fun b hb o e=>(J.pin (b,o) (Ji _ (Ji _ (V3 hb e)))).1,fun b hb=>?_;obtain ⟨o,e,d⟩:=Tn.obj _ _ st3 b hb;exact (J.pin (b,o) (Ji _ (Ji _ (V3 hb e)))).2.1
   cases b with
   | false =>
    rw [De Jo] at q5 ⊢;obtain ⟨m',hm,w5⟩:=hN _ _ q5;obtain ⟨t5,f5⟩:=tnk J5;exists m',hm,i+1,ys,its,k,H5,wk J5.unpinned,rv,t5,f5,w5
   | true =>
    rw [Df rfl] at q5 ⊢;refine Dm (he C s H fp _ s5 σ4 H5 _ J5 q5) (fun uy s6 hz=>?_) fun _ _ z=>z;obtain ⟨y,H6,J6,ry,n6⟩:=hz;obtain ⟨m',hm,w6⟩:=hN _ _ n6;obtain ⟨t6,f6⟩:=tnk J6;obtain ⟨eD,nD,_⟩:=J6.pin (D,({ cls:=.type "list",data:=.seq its.toArray k }:Obj)) (Ji _ (Jw _ (Je.mpr rfl)));have hsz:its.toArray.size<=sizeLine:=by rw [Jg,<- rv.length]; lia
    refine append_at (hsz:=hsz) eD fun h7 sb hD7=>?_;have J6':Inv (blk X T cs scope C s H fp) [] σ4 H6 s6:=J6.pins_of fun p hp=>absurd hp (by simp);have J7:Inv (blk X T cs scope C s H fp) [] σ4 H6 { s6 with heap:=h7 }:=J6'.turned (t':=s6.toks) (it:=D) (fun b o hb e=>(sb.2 b hb).trans e) nD hDC (.inr (Fw hDD))
     (fun x c e z=>by
      obtain ⟨v,q⟩:=I.cell x c (I.clo S e);exact absurd q.lt (by rw [z,hDD]; exact Bm _))
     (fun p hp=>absurd hp (by simp [blk]))
    have hD7':h7.get? D=some { cls:=.type "list",data:=.seq (its++[uy]).toArray (k+1) }:=by
     rw [hD7,List.push_toArray]
    exists m',hm,i+1,ys++[y],its++[uy],k+1,H6,wk (pinD J7 hD7' nD),rv.append (.cons ry .nil),Tn.keep _ _ _ t6 fun b hb o e=>(sb.2 b (Gi (hlt b hb))).trans e,f6,w6
 exact codeAny_compStart_list (loop _) (Tn.self _ 0 _ _ _ st₁ (loop _))
def Zcw (wi:TI) (g:TG) (tt:TT) (te:TE) (T:List Str) (cs:List Nat):TE:=fun σ H Q=>wi σ H fun J H1=>∃ W:Nat->Nat->List V->Hp->Prop,(∃ m,W 0 m [] H1) /\
 ∀ i m ys H,W i m ys H->(J.stop i H/\ys.length<=sizeLine/\∀ p,H p=none->Q (.ref p) (upd H p (.lst ys)))\/(J.go i H/\ys.length<sizeLine/\∃ N:List V->Hp->Prop,(∀ ys' H',N ys' H'->∃ m',m'<m/\W (i+1) m' ys' H') /\
  ∀ x H',J.yld i H x H'->g x (sgOf σ T cs) H' fun σ2 H2=>tt σ2 H2 fun b H3=>if b=true then te σ2 H3 fun y H4=>N (ys++[y]) H4 else N ys H3)
def Y9 (hc:X.calm=true) (S:CScope X.env.scope scope X.N T cs) (hi:PI X tg iter wi) (hg:∀ C s₀ H₀ ex,PG (blk X T cs scope C s₀ H₀ ex) tg g) (ht:∀ C s₀ H₀ ex,PTs (blk X T cs scope C s₀ H₀ ex) ifs tt)
  (he:∀ C s₀ H₀ ex,PE (blk X T cs scope C s₀ H₀ ex) elt te) (hk:Nf g T.length) (hs:∀ x,foldedSetIterable iter X.env x=pure x:=by intro _; rfl):PE X (.ListComp elt [⟨tg,iter,ifs,0⟩] scope pos) (Zcw wi g tt te T cs):=by
 intro pq s σ H Q I h;rw [eval_ListComp];refine wpAny_comprehension_free (use:=none) rfl hs (Re (I.hl S)) S.kind S.names (thn (hi pq s σ H _ I h) fun v s1 h1=>thn h1 fun itv s2 h2=>?_);obtain ⟨it,fp,tn,J,H2,e,I2,Tn,st,hf,W,w0,turn⟩:=h2;subst e;refine P1 (RR:=fun acc C=>compPost (model X.prog X.w) X.A X.xe none (EP X pq σ Q) acc C) (Fin:=fun ys H=>∀ p,H p=none->Q (.ref p) (upd H p (.lst ys))) I2 hc S Tn st hf hg ht he hk W w0 turn ?_;intro D C s' m ys H' q nD hn fC hCD I';exists m,hn,fun h' sb=>⟨.ref D,_,I'.turned (t':=s'.toks) (it:=C) (fun b o hb e=>(sb.2 b hb).trans e) ?_ fC.2.1 fC.2.2.2.1 fC.2.2.2.2.1 fC.2.2.2.2.2,rfl,q D nD⟩
 rw [Z4 hCD];exact fC.1
def Ub {i:Nat} {y:Str} {py spos:Pos} (hN:X.N.Nodup) (hy:X.N[i]?=some y) (hl:X.env.scope.names.lookup y=some .local) (hc:X.calm=true) (S:CScope X.env.scope scope X.N T cs) (hi:PI X tg iter wi) (hg:∀ C s₀ H₀ ex,PG (blk X T cs scope C s₀ H₀ ex) tg g)
  (ht:∀ C s₀ H₀ ex,PTs (blk X T cs scope C s₀ H₀ ex) ifs tt) (he:∀ C s₀ H₀ ex,PE (blk X T cs scope C s₀ H₀ ex) elt te) (hk:Nf g T.length) (hs:∀ x,foldedSetIterable iter X.env x=pure x:=by intro _; rfl)
  (hsw:swapsWith (.ListComp elt [⟨tg,iter,ifs,0⟩] scope pos) (some (.Name y py)) spos.line X.env=pure true:=by rfl):PS X (.Assign [.Name y py] (.ListComp elt [⟨tg,iter,ifs,0⟩] scope pos) spos) (tAsg (Zcw wi g tt te T cs) (N3 i)):=by
 intro pq s σ H D I h;rw [exec_Assign_Name_used _ _ _ _ hsw];refine Fz (wpAny_standAt (Fz ?_));show wpAny _ X.A (do let _ <- comprehension (.ListComp elt [⟨tg,iter,ifs,0⟩] scope pos) scope X.env _ (newList []) false (eval iter X.env) (some (assign (.Name y py) X.env))) _ _ s;refine Fz (Dm (wpAny_comprehension_free (use:=some (assign (.Name y py) X.env)) (Q:=fun _ s'=>SP X pq D .next s') rfl hs (Re (I.hl S)) S.kind S.names
  (thn (hi pq s σ H _ I h) fun v s1 h1=>thn h1 fun itv s2 h2=>?_)) (fun _ s' hq=>Da (Da hq)) fun _ _ e=>e)
 obtain ⟨it,fp,tn,J,H2,e,I2,Tn,st,hf,W,w0,turn⟩:=h2;subst e;refine P1 (RR:=fun acc C=>compPost (model X.prog X.w) X.A X.xe (some (assign (.Name y py) X.env)) (fun _ s'=>SP X pq D .next s') acc C) (Fin:=fun ys H=>∀ p,H p=none->N3 i (.ref p) σ (upd H p (.lst ys)) D.nx) I2 hc S Tn st hf hg ht he hk W w0 turn ?_;intro B C s' m ys H' q nB hn fC hCB I';show wpAny _ X.A (assign (.Name y py) X.env (.ref B)) _ _ s';refine wpAny_assign_Name (Qz (v:=.ref B) I' hN hy (.inl hl) rfl (fun s'' I'' hz=>?_) (.inr hl));obtain ⟨a,sb,ha⟩:=hz;have nC:C≠a:=by
  rcases ha with z | z
  ·rw [z]; exact fC.2.1
  ·exact Ne.symm (fC.2.2.2.2.1 y a z)
 exists m,hn.sameBut sb nC,fun h' sb'=>⟨_,_,I''.turned (t':=s''.toks) (it:=C) (fun b o hb e=>(sb'.2 b hb).trans e) ?_ fC.2.1 fC.2.2.2.1 fC.2.2.2.2.1 fC.2.2.2.2.2,q B nB⟩;rw [Z4 hCB];exact fC.1
end
theorem Tm {J:It} {n:Nat} {g:TG} {tt:TT} {σB:St} {F:List V->Hp->Prop} (Pv:Nat->List V->Hp->Prop) (h0:Pv 0 [] H1) (hn:∀ i ys H,Pv i ys H->ys.length<=i) (hz:n<=sizeLine)
  (hgo:∀ i ys H,i<n->Pv i ys H->J.go i H) (hstop:∀ ys H,Pv n ys H->J.stop n H)
  (hs:∀ i ys H,i<n->Pv i ys H->∀ x H',J.yld i H x H'->g x σB H' fun σ2 H2=>tt σ2 H2 fun b H3=>if b=true then te σ2 H3 fun y H4=>Pv (i+1) (ys++[y]) H4 else Pv (i+1) ys H3)
  (hd:∀ ys H,Pv n ys H->F ys H) :
  ∃ W:Nat->Nat->List V->Hp->Prop,(∃ m,W 0 m [] H1)/\∀ i m ys H,W i m ys H->(J.stop i H/\ys.length<=sizeLine/\F ys H)\/(J.go i H/\ys.length<sizeLine/\∃ N:List V->Hp->Prop,(∀ ys' H',N ys' H'->∃ m',m'<m/\W (i+1) m' ys' H') /\
   ∀ x H',J.yld i H x H'->g x σB H' fun σ2 H2=>tt σ2 H2 fun b H3=>if b=true then te σ2 H3 fun y H4=>N (ys++[y]) H4 else N ys H3):=by
 exists fun i m ys H=>m=n-i/\i<=n/\Pv i ys H,⟨n,rfl,Jv _,h0⟩,?_;rintro i m ys H ⟨rfl,hi,p⟩;have hl:=hn i ys H p
 by_cases hlt:i<n
 ·exact .inr ⟨hgo i ys H hlt p,by lia,Pv (i+1),fun ys' H' q=>⟨n-(i+1),by lia,rfl,hlt,q⟩,hs i ys H hlt p⟩
 ·have e:i=n:=by lia
  subst e;exact .inl ⟨hstop ys H p,by lia,hd ys H p⟩
section
def Zlz (K:W.Frag):V->V->Hp->VK->Prop:=fun o i H Q=>∃ p xs k v,o=.ref p/\i=.int ((k:Nat):Int)/\SqL K H p xs/\xs[k]?=some v/\Q v H
theorem Pb:PGet X (Zlz X.K):=by
 intro pq s σ H o i ov iv Q I ro ri h;obtain ⟨p,xs,k,v,rfl,rfl,hq,hx,q⟩:=h;cases ro;obtain ⟨t,rfl⟩:=ri;obtain ⟨its,rv,pl,hz⟩:=I.list hq;obtain ⟨u,hu,ru⟩:=rv.get hx;have hk:k<xs.length:=(Jh.mp hx).1;have hn:=Rc;exact wpAny_getItem_list pl.isList (by lia) (by lia) (by simpa using hu) ⟨v,H,I,ru,q⟩
theorem Vals.bl_get {bs:List Bool} (r:Vals (bs.map V.bl) us) {i:Nat} {v:Value} (e:us[i]?=some v):∃ b,bs[i]?=some b/\v=.bool b:=by
 have hi:i<us.length:=(Jh.mp e).1;have hl:=r.length;rw [Ja] at hl;have hb:i<bs.length:=by lia
 have eb:(bs.map V.bl)[i]?=some (V.bl bs[i]):=by rw [Js,Jb hb]; rfl
 obtain ⟨u,hu,ru⟩:=r.get eb;rw [e] at hu;cases hu;exists bs[i],Jb hb,ru
def Zno (bs:List Bool):((List.range bs.length).all fun i=>(bs[i]?).getD true)=bs.all id:=by
 rw [Fg];simp only [Bj,Bd,id]
 constructor
 ·intro h b hb;obtain ⟨i,hi,e⟩:=List.mem_iff_getElem.mp hb;have:=h i hi;rw [Jb hi,e] at this;exact this
 ·intro h i hi;rw [Jb hi];exact h _ (Ge hi)
def Zha (hc:X.calm=true):Xv X (.builtin "all") (fun xs H Q=>∃ (p:Addr) (bs:List Bool),xs=[.ref p]/\SqL X.K H p (bs.map V.bl)/\Q (.bl (bs.all id)) H):=by
 intro pq s σ H xs us Q I r h;obtain ⟨p,bs,rfl,hq,q⟩:=h;obtain ⟨u,rfl,ru⟩:=T0 r;cases ru;obtain ⟨its,rv,pl,hz⟩:=I.list hq;have hlen:=rv.length;rw [Ja] at hlen;have hlt:p<s.heap.objs.size:=by obtain ⟨_,e,_⟩:=pl.isList; exact Dd e
 refine call_all_walk (wpAny_pyIter_list pl.isList ?_);refine ⟨s.heap.objs.size,[s.heap.objs.size,p],[s.heap.objs.size],its.toArray.size,_,_,fun i=>(bs[i]?).getD true,rfl,Walks.list (A:=X.A.in1) (I.ok.hd hc) _ p (Gi hlt) its.toArray,
  ⟨⟨_,Dc _ rfl,rfl,rfl⟩,pl.isList.push _⟩,fun i v s' Q' E' hP hQ=>?_,fun h' tk hk=>?_⟩
 ·obtain ⟨b,e,rfl⟩:=rv.bl_get (by simpa using hP);simp only [e,Bw] at hQ;exact wpAny_truthy_bool hQ
 ·rw [Jg,<- hlen,Zno];exists .bl (bs.all id),H,I.kept (t':=tk) (PyProof.Rows.LSm.kept_iter hk),rfl,q
def Zg9:Xv X (.builtin "isinstance") (fun xs H Q=>∃ x T t b,xs=[x,.ty T]/\TyOf X.K H x t/\W.kitOne X.K t (.type T)=some b/\Q (.bl b) H):=by
 intro pq s σ H xs us Q I r h;obtain ⟨x,T,t,b,rfl,ty,e,q⟩:=h;obtain ⟨u,w',rfl,ru,rw'⟩:=Zcl r;cases rw';exact Zet I ru ty e fun tk=>⟨.bl b,H,I.tok tk,rfl,q⟩
def rSlS:V->Option Int->Option Int->Hp->VK->Prop:=fun x lo hi H Q=>∃ z,x=.str z/\z.length<=sizeLine/\Q (.str (Txt.slice z lo hi)) H
theorem Zlg:SlR X rSlS:=by
 intro pq s σ H x v vl vu lo hi sl Q I rx hs pl pu h;obtain ⟨z,rfl,hz,q⟩:=h;obtain ⟨t,rfl⟩:=rx;exists "str",_,F.slot_str_getitem.lookup,typeIs_str _ _ _,?_;cases pl with
 | none =>
  cases pu with
  | none=>exact wpAny_getItem_str_slice (l:=none) (u:=none) (st:=none) hs rfl (post_val_or_str ⟨Jy (Txt.slice_le z _ _) hz,fun t' k=>⟨.str _,H,I.tok _,⟨_,rfl⟩,q⟩⟩)
  | int j tj=>exact wpAny_getItem_str_slice (l:=none) (u:=some (j,tj)) (st:=none) hs rfl (post_val_or_str ⟨Jy (Txt.slice_le z _ _) hz,fun t' k=>⟨.str _,H,I.tok _,⟨_,rfl⟩,q⟩⟩)
 | int i ti =>
  cases pu with
  | none=>exact wpAny_getItem_str_slice (l:=some (i,ti)) (u:=none) (st:=none) hs rfl (post_val_or_str ⟨Jy (Txt.slice_le z _ _) hz,fun t' k=>⟨.str _,H,I.tok _,⟨_,rfl⟩,q⟩⟩)
  | int j tj=>exact wpAny_getItem_str_slice (l:=some (i,ti)) (u:=some (j,tj)) (st:=none) hs rfl (post_val_or_str ⟨Jy (Txt.slice_le z _ _) hz,fun t' k=>⟨.str _,H,I.tok _,⟨_,rfl⟩,q⟩⟩)
end
mutual
inductive DV (K:W.Frag) (H:Hp):V->PyData->Prop
 | non:DV K H .non .none
 | bl (b:Bool):DV K H (.bl b) (.bool b)
 | int (i:Int):DV K H (.int i) (.int i)
 | str (x:Str):DV K H (.str x) (.str x)
 | lst {a:Addr} {xs:List V} {ds:List PyData} (h:SqL K H a xs) (r:DVs K H xs ds):DV K H (.ref a) (.list ds)
 | tup {a:Addr} {xs:List V} {ds:List PyData} (h:SqT K H a xs) (r:DVs K H xs ds):DV K H (.ref a) (.tuple ds)
inductive DVs (K:W.Frag) (H:Hp):List V->List PyData->Prop
 | nil:DVs K H [] []
 | cons {x:V} {d:PyData} {xs:List V} {ds:List PyData} (h:DV K H x d) (r:DVs K H xs ds):DVs K H (x::xs) (d::ds)
end
section
mutual
theorem Xp (I:Inv X pq σ H s):∀ {x:V} {d:PyData} {u:Value},DV X.K H x d->RelV x u->∃ as,Reads s.heap u d as
 | _,_,u,.non,r=>by obtain rfl:u=Value.none:=r;exists _,Reads.none
 | _,_,u,.bl b,r=>by obtain rfl:u=Value.bool b:=r;exists _,Reads.bool b
 | _,_,u,.int i,r=>by obtain ⟨t,rfl⟩:=(show ∃ t,u=Value.int i t from r);exists _,Reads.int i t
 | _,_,u,.str x,r=>by obtain ⟨t,rfl⟩:=(show ∃ t,u=Value.str x t from r);exists _,Reads.str x t
 | _,_,u,.lst (a:=a) h q,r=>by
  obtain rfl:u=Value.ref a:=r;obtain ⟨its,rv,⟨o,n,e,c,d,dt⟩,_⟩:=I.list h;obtain ⟨as,ra⟩:=dvs_reads I q rv;exists _,reads_list_at e c dt (by simpa using ra)
 | _,_,u,.tup (a:=a) h q,r=>by
  obtain rfl:u=Value.ref a:=r;obtain ⟨its,rv,⟨o,e,c,n,dt⟩,_⟩:=I.tuple h;obtain ⟨as,ra⟩:=dvs_reads I q rv;exists _,reads_tuple_at e c dt (by simpa using ra)
theorem dvs_reads (I:Inv X pq σ H s):∀ {xs:List V} {ds:List PyData} {us:List Value},DVs X.K H xs ds->Vals xs us->∃ as,ReadsAll s.heap us ds as:=by
 intro _ _ _ hz9 hz8;cases hz9 with
 | nil=>
  cases hz8 with
  | nil=>
   exists _,ReadsAll.nil
 | cons h q=>
  cases hz8 with
  | cons r rr=>
   exact by
     obtain ⟨as,ra⟩:=Xp I h r;obtain ⟨bs,rb⟩:=dvs_reads I q rr;exists _,ReadsAll.cons ra rb
end
def rEqD (K:W.Frag):R2:=fun x y H Q=>∃ dx dy,DV K H x dx/\DV K H y dy/\SeqAt.shaped dx=true/\SeqAt.shaped dy=true/\Q (.bl (PyData.eqv dx dy)) H
def rNeD (K:W.Frag):R2:=fun x y H Q=>∃ dx dy,DV K H x dx/\DV K H y dy/\SeqAt.shaped dx=true/\SeqAt.shaped dy=true/\Q (.bl (!PyData.eqv dx dy)) H
def Zh4 (hu:X.A.units+64<cLine):OpR X (compareOp .Eq) (rEqD X.K):=by
 intro pq s σ H x y v u Q I rx ry h;obtain ⟨dx,dy,hx,hy,sx,sy,q⟩:=h;obtain ⟨as,ra⟩:=Xp I hx rx;obtain ⟨bs,rb⟩:=Xp I hy ry;exact eq_dataH ra rb sx sy hu ⟨.bl _,H,I,rfl,q⟩
def Zl8 (hu:X.A.units+64<cLine):OpR X (compareOp .NotEq) (rNeD X.K):=by
 intro pq s σ H x y v u Q I rx ry h;obtain ⟨dx,dy,hx,hy,sx,sy,q⟩:=h;obtain ⟨as,ra⟩:=Xp I hx rx;obtain ⟨bs,rb⟩:=Xp I hy ry;exact ne_dataH ra rb sx sy hu ⟨.bl _,H,I,rfl,q⟩
end
theorem V5 :∀ ns:List Int,DVs K H (ns.map V.int) (ns.map PyData.int)
 | []=>.nil
 | n::r=>.cons (.int n) (V5 r)
def Cal (P:Program) (w:World) (K:W.Frag) (mg:Str->Option Value) (base:Heap) (x:Str) (k:Nat) (ps:List Str) (sp:Sp):Prop :=
 ∃ (f:Addr) (fd:FuncData),FnOk P w K mg base CX0 k f fd ps sp/\mg x=some (.ref f)/\W.keepIn K (.ref f)=true/\Zah K fd ps []
section
variable {x:Str} {k:Nat} {t:TA} {p:Pos}
def Zq (C:Cal X.prog X.w X.K X.mg X.base x k ps sp) (hr:Room k X.A) (hg:Gl X x) (ha:PA X (e::es) t) (hdb:(x == ("__debug__":Str))=false:=by decide)
  (he:starEach (e::es) X.env=(false,eval e X.env)::starEach es X.env:=by rfl) (hpl:(backTo pos (starEach es X.env)).any (·.1)=false:=by rfl):PE X (.Call (.Name x p) (e::es) [] pos) (Zi0 sp [] E0 t):=by
 obtain ⟨f,fd,F,hm,hk,hb⟩:=C;exact Zjl F hr hg hm hk hb .nil Zom ha hdb he hpl
end
def Grow (p:Addr) (H H':Hp):Prop:=∀ b o,H b=some o->b≠p->H' b=some o
def Grow.refl (p:Addr) (H:Hp):Grow p H H:=fun _ _ e _=>e
def Grow.trans {p:Addr} {H2:Hp} (a:Grow p H H1) (b:Grow p H1 H2):Grow p H H2:=fun c o e n=>b c o (a c o e n) n
def Grow.same {p:Addr} (s:Same H H'):Grow p H H':=fun b o e _=>s b o e
theorem Grow.free {p:Addr} (g:Grow p H H') (h:H' l=none) (n:l≠p):H l=none:=by
 cases q:H l with
 | none=>rfl
 | some o=>rw [g l o q n] at h; cases h
def Ze {p:Addr} {o:HO} (h:H p=none):Same H (upd H p o):=fun b u e=>by rw [Z4 (Zz e h)]; exact e
structure HandAt (H:Hp) (p a:Addr):Prop where
 ex:∃ (d k:Int) (cs:List Int),H p=some (.lst [.int d,.int k,.ref a])/\H a=some (.lst (cs.map V.int))/\cs≠[]/\cs.length<=63/\0<=d/\0<=k/\∀ c∈cs,0<=c
theorem HandAt.ne {p a:Addr} (h:HandAt H p a):p≠a:=by
 obtain ⟨d,k,cs,e1,e2,_⟩:=h.ex;refine Zjq e1 e2 fun z=>?_;injection z with z
 cases cs with
 | nil=>cases z
 | cons c r =>
  rw [Jr] at z;injection z with _ z
  cases r with
  | nil=>cases z
  | cons c2 r =>
   rw [Jr] at z;injection z with _ z
   cases r with
   | nil=>cases z
   | cons c3 r=>rw [Jr] at z; injection z with z _; cases z
def HandAt.same {p a:Addr} (h:HandAt H p a) (g:Same H H'):HandAt H' p a:=by
 obtain ⟨d,k,cs,e1,e2,r⟩:=h.ex;exists d,k,cs,g _ _ e1,g _ _ e2,r
def Q0:Sp:=fun vs H Q _=>∃ (p a:Addr) (n:Int),vs=[.ref p,.int n]/\HandAt H p a/\0<n/\n<1073741824 /\
 ∀ (r:Int) (H':Hp),0<=r->r<n->HandAt H' p a->Grow p H H'->(∀ b,b≠p->H' b=H b)->Q (.int r) H'
def Zhp (K:W.Frag):Sp:=fun vs H Q _=>∃ (s:Addr) (ns:List Int) (i:Int),vs=[.ref s,.int i]/\SqL K H s (ns.map V.int)/\ns.length<=63/\0<=i/\i<2 ^ 60 /\
 ∀ (p a:Addr) (H':Hp),H p=none->H a=none->HandAt H' p a->Same H H'->Q (.ref p) H'
theorem Zad {cs:List Int} (h:cs≠[]) (z:Int):∃ c,c∈cs/\atI (cs.map V.int) (z % ((cs.map V.int).length:Nat))=some (.int c):=by
 have hl:0<cs.length:=Gc.mpr h;have h0:0<=z % ((cs.map V.int).length:Nat):=G1 _ (by rw [Ja]; lia);have h1:z % ((cs.map V.int).length:Nat)<((cs.map V.int).length:Nat):=G0 _ (by rw [Ja]; lia);generalize z % ((cs.map V.int).length:Nat)=m at h0 h1;rw [Ja] at h1;have hm:m.toNat<cs.length:=by lia
 obtain ⟨k,rfl⟩:=G5 h0;have hm:k<cs.length:=hm;exists cs[k],Ge hm,Vw ?_;rw [Js,Jb hm];rfl
def Shp (n:Nat) (d:PyData):Prop:=d.canLay0=true/\d.depth<=n
def Shp.shaped {n:Nat} {d:PyData} (h:Shp n d) (hn:n<=64):SeqAt.shaped d=true:=by
 unfold SeqAt.shaped;rw [h.1,Bool.true_and];exact Dg (Jy h.2 hn)
theorem Rn {n:Nat}:∀ {ds:List PyData},(∀ d∈ds,Shp n d)->PyData.canLayAll0 ds=true/\PyData.depthAll ds<=n
 | [],_=>⟨by simp only [PyData.canLayAll0],by simp only [PyData.depthAll]; exact Jv _⟩
 | d::r,h=>by
  obtain ⟨h1,h2⟩:=h d Jl;obtain ⟨h3,h4⟩:=Rn (n:=n) fun x hx=>h x (Jj _ hx);exists by simp only [PyData.canLayAll0,h1,h3,Bool.and_self],?_;simp only [PyData.depthAll];lia
theorem Zat {n:Nat} {ds:List PyData} (h:∀ d∈ds,Shp n d):Shp (n+1) (.list ds):=by
 obtain ⟨h1,h2⟩:=Rn h;exact ⟨by simp only [PyData.canLay0,h1],by simp only [PyData.depth]; lia⟩
theorem Sa {n:Nat} {ds:List PyData} (h:∀ d∈ds,Shp n d):Shp (n+1) (.tuple ds):=by
 obtain ⟨h1,h2⟩:=Rn h;exact ⟨by simp only [PyData.canLay0,h1],by simp only [PyData.depth]; lia⟩
def Sb (i:Int):Shp 0 (.int i):=⟨by simp only [PyData.canLay0],by simp only [PyData.depth]; exact Jf _⟩
def Zau (ns:List Int):Shp 1 (.list (ns.map PyData.int)):=Zat fun d hd=>by
 obtain ⟨i,_,rfl⟩:=Jp.mp hd;exact Sb i
theorem Zkc (ns:List Int):PyData.eqv (.list (ns.map PyData.int)) (.list [])=decide (ns=[]):=by
 cases ns with
 | nil=>simp [PyData.eqv,PyData.eqvAll]
 | cons n r=>simp [PyData.eqv,PyData.eqvAll]
theorem Zg6 (ns:List Int) (lo hi:Option Int):∃ ms:List Int,cutV (ns.map V.int) lo hi=ms.map V.int/\ms.length<=ns.length/\∀ c∈ms,c∈ns:=by
 exists (ns.drop (HT.sIx (ns.map V.int).length 0 lo)).take (HT.sIx (ns.map V.int).length (ns.map V.int).length hi-HT.sIx (ns.map V.int).length 0 lo),?_,?_,?_
 ·unfold cutV;rw [Fi,Fj]
 ·rw [Jz,Gh];lia
 ·intro c hc;exact Fm (Bk hc)
def Zh {n:Nat} (h:n<=100000):n<=sizeLine:=Jy h nofun
theorem Qm {as:List V} {j:Int} (h0:0<=j) (h1:j<=as.length):cutV as (some j) none=as.drop j.toNat:=by
 obtain ⟨m,rfl⟩:=G5 h0;unfold cutV;rw [HT.sIx_nat,HT.sIx_none,Bt (by lia),G8 (by rw [Gh]; exact Jf _)];rfl
theorem Zfl {as:List V} {j:Int} (h0:0<=j) (h1:j<=as.length):cutV as none (some j)=as.take j.toNat:=by
 obtain ⟨m,rfl⟩:=G5 h0;unfold cutV;rw [HT.sIx_nat,HT.sIx_none,Bt (by lia),Fx,Fy];rfl
def HC (H H4:Hp) (cl:Addr):Prop:=∃ as:List Int,Same H H4/\H cl=none/\H4 cl=some (.lst (as.map V.int))/\as≠[]/\as.length<=63/\∀ c∈as,0<=c
theorem spun {as:List Int} (hne:as≠[]) (i:Int):∃ cs:List Int,cutV (as.map V.int) (some (i % ((as.map V.int).length:Nat))) none++cutV (as.map V.int) none (some (i % ((as.map V.int).length:Nat)))=cs.map V.int/\cs≠[]/\cs.length=as.length/\∀ c∈cs,c∈as:=by
 have hl:0<as.length:=Gc.mpr hne;have h0:0<=i % ((as.map V.int).length:Nat):=G1 _ (by rw [Ja]; lia);have h1:i % ((as.map V.int).length:Nat)<((as.map V.int).length:Nat):=G0 _ (by rw [Ja]; lia);generalize i % ((as.map V.int).length:Nat)=j at h0 h1;rw [Qm h0 (by lia),Zfl h0 (by lia)];rw [Ja] at h1;exists as.drop j.toNat++as.take j.toNat,by rw [Jm,Fj,Fi],?_,?_,?_
 ·intro e;have:=congrArg List.length e;rw [Jc,Gh,Jz] at this;simp at this;lia
 ·rw [Jc,Gh,Jz];lia
 ·intro c hc;rcases Jn.mp hc with z | z
  ·exact Fm z
  ·exact Bk z
theorem Zhf {α:Type} {xs:List α} {r:Int} (h0:0<=r) (h1:r<xs.length):∃ v,v∈xs/\atI xs r=some v:=by
 have hm:r.toNat<xs.length:=by lia
 obtain ⟨k,rfl⟩:=G5 h0;have hm:k<xs.length:=hm;exists xs[k],Ge hm,Vw (Jb hm)
def Yo {x:Str} {f:Addr} {k:Nat} (F:Fun K x x st f fd) (G:FnOk P w K mg base CX0 k f fd ps sp) (m:mg x=some (.ref f)) (b:Zah K fd ps []) :
  Cal P w K mg base x k ps sp:=⟨f,fd,G,m,F.kp,b⟩
end L2
namespace L2
open PySem
def Zer {n:Nat} {k:Int} (h0:0<=k) (h1:k<n):ixN n k=some k.toNat:=by
 unfold ixN;rw [Df h0,Df h1]
end L2
set_option maxHeartbeats 4000000
namespace L2
open PySem PySem.W PyProof.Rows
def Rk (rk:Nat->Int) (p:Array Nat) (i:Nat):Int:=rk (p.getD i 0)
def SrtR (rk:Nat->Int) (p:Array Nat) (k:Nat):Prop:=∀ i j,i<=j->j<k->Rk rk p i<=Rk rk p j
structure GoodP (n:Nat) (p:Array Nat):Prop where
 perm:p.Perm (List.range n).toArray
def GoodP.size {n:Nat} {p:Array Nat} (g:GoodP n p):p.size=n:=by have:=g.perm.size_eq; simpa using this
def GoodP.lt {n:Nat} {p:Array Nat} (g:GoodP n p) (i:Nat) (hi:i<n):p.getD i 0<n:=by
 have hi':i<p.size:=by rw [g.size]; exact hi
 have e:p.getD i 0=p[i]:=by simp [Array.getD,hi']
 rw [e];have hm:p[i]∈p.toList:=by simp
 have:=(B5.mp g.perm).mem_iff.mp hm;simpa using this
def GoodP.ne {n:Nat} {p:Array Nat} (g:GoodP n p) {i j:Nat} (hi:i<n) (hj:j<n) (h:i≠j):p.getD i 0≠p.getD j 0:=by
 have nd:p.toList.Nodup:=(B5.mp g.perm).nodup_iff.mpr (by simpa using List.nodup_range);have hi':i<p.size:=by rw [g.size]; exact hi
 have hj':j<p.size:=by rw [g.size]; exact hj
 have e:p.getD i 0=p[i]:=by simp [Array.getD,hi']
 have e2:p.getD j 0=p[j]:=by simp [Array.getD,hj']
 rw [e,e2];intro z;have:=(Bh (h₀:=by simpa using hi') (h₁:=by simpa using hj') nd).mp (by simpa using z);exact h this
def W0 {p q:Array Nat} {i j:Nat} (h:p[i]?=q[j]?):p.getD i 0=q.getD j 0:=by
 rw [Gz,Gz,h]
def Nd {rk:Nat->Int} {xs:Array Nat} {src d:Nat} (hs:src<xs.size) (hd:d<=src) (k:Nat) :
  Rk rk (bubble xs src d) k=if k=src-d then Rk rk xs src else if src-d<k/\k<=src then Rk rk xs (k-1) else Rk rk xs k:=by
 have e:=getElem?_bubble hs d hd k;unfold Rk
 by_cases h1:k=src-d
 ·rw [Df h1] at e ⊢; rw [W0 e]
 ·rw [De h1] at e ⊢
  by_cases h2:src-d<k/\k<=src
  ·rw [Df h2] at e ⊢; rw [W0 e]
  ·rw [De h2] at e ⊢; rw [W0 e]
def Ziq {rk:Nat->Int} {xs:Array Nat} {j:Nat} (hj:j<=xs.size) (k:Nat) :
  Rk rk (kas_rev xs 0 j) k=if k<j then Rk rk xs (j-1-k) else Rk rk xs k:=by
 have e:=getElem?_mirror_all (xs:=xs) (i:=0) hj k;unfold Rk kas_rev
 by_cases h1:k<j
 ·rw [Df ⟨Jv _,h1⟩] at e;rw [Df h1,W0 e,Nat.zero_add]
 ·rw [De (fun z=>h1 z.2)] at e;rw [De h1,W0 e]
section
variable {rk:Nat->Int} {n:Nat} {cmp:Nat->Nat->(Bool->Shared->Prop)->Shared->Prop} 
def CmpR (rk:Nat->Int) (n:Nat) (cmp:Nat->Nat->(Bool->Shared->Prop)->Shared->Prop) (s:Shared):Prop :=
 ∀ i j (C:Bool->Shared->Prop),i<n->j<n->C (decide (rk i<rk j)) s->cmp i j C s
theorem Zkn (hc:CmpR rk n cmp s) {p:Array Nat} (g:GoodP n p) {G:Nat->Shared->Prop}:∀ (f m:Nat),1<=m->m+f<=n->SrtR rk p m ->
  (∀ m',m<=m'->m'<=m+f->SrtR rk p m'->(m'=m+f\/(m'<n/\Rk rk p m'<Rk rk p (m'-1)))->G m' s)->(kas_asc p f m).kasWp cmp G s
 | 0,m,_,_,hs,h=>h m (Jf _) (Jf _) hs (.inl rfl)
 | f+1,m,h1,h2,hs,h=>by
  show cmp (p.getD m 0) (p.getD (m-1) 0) _ s;refine hc _ _ _ (g.lt _ (by lia)) (g.lt _ (by lia)) ?_
  by_cases q:rk (p.getD m 0)<rk (p.getD (m-1) 0)
  ·simp only [q,decide_true,if_true];exact h m (Jf _) (by lia) hs (.inr ⟨by lia,q⟩)
  ·simp only [q,decide_false,Gf,if_false];refine Zkn hc g f (m+1) (by lia) (by lia) (fun i j hij hj=>?_) fun m' a b c d=>h m' (by lia) (by lia) c (by
    rcases d with d | d
    ·exact .inl (by lia)
    ·exact .inr d)
   by_cases hjm:j=m
   ·subst hjm
    by_cases him:i=j
    ·subst him; exact Bu _
    ·exact Int.le_trans (hs i (j-1) (by lia) (by lia)) (Int.not_lt.mp q)
   ·exact hs i j hij (by lia)
theorem Zia (hc:CmpR rk n cmp s) (inj:∀ i j,i<n->j<n->rk i=rk j->i=j) {p:Array Nat} (g:GoodP n p) {G:Array Nat×Nat×Nat->Shared->Prop}:∀ (f m:Nat),1<=m->m+f<=n ->
  (∀ i j,i<j->j<m->Rk rk p j<Rk rk p i) ->
  (∀ m',m<=m'->m'<=m+f->(∀ i j,i<j->j<m'->Rk rk p j<Rk rk p i)->G (p,m',0) s)->(kas_desc f p m 0).kasWp cmp G s
 | 0,m,_,_,hs,h=>h m (Jf _) (Jf _) hs
 | f+1,m,h1,h2,hs,h=>by
  show cmp (p.getD m 0) (p.getD (m-1) 0) _ s;refine hc _ _ _ (g.lt _ (by lia)) (g.lt _ (by lia)) ?_
  by_cases q:rk (p.getD m 0)<rk (p.getD (m-1) 0)
  ·simp only [q,decide_true,if_true,Bm,if_false,gt_iff_lt];refine Zia hc inj g f (m+1) (by lia) (by lia) (fun i j hij hj=>?_) fun m' a b c=>h m' (by lia) (by lia) c
   by_cases hjm:j=m
   ·subst hjm
    by_cases him:i=j-1
    ·subst him; exact q
    ·exact Int.lt_trans q (hs i (j-1) (by lia) (by lia))
   ·exact hs i j hij (by lia)
  ·simp only [q,decide_false,Gf,if_false];show cmp (p.getD (m-1) 0) (p.getD m 0) _ s;refine hc _ _ _ (g.lt _ (by lia)) (g.lt _ (by lia)) ?_;have lt2:rk (p.getD (m-1) 0)<rk (p.getD m 0):=by
    have ne:rk (p.getD (m-1) 0)≠rk (p.getD m 0):=fun z=>g.ne (by lia) (by lia) (by lia:m-1≠m) (inj _ _ (g.lt _ (by lia)) (g.lt _ (by lia)) z);lia
   simp only [lt2,decide_true,if_true];exact h m (Jf _) (by lia) hs
def GoodP.rev {p:Array Nat} (g:GoodP n p) (i j:Nat):GoodP n (kas_rev p i j):=⟨(mirror_perm _ _ _ _).trans g.perm⟩
theorem Zkj (hc:CmpR rk n cmp s) (inj:∀ i j,i<n->j<n->rk i=rk j->i=j) (h2:2<=n) {p:Array Nat} (g:GoodP n p) {G:Nat×Array Nat->Shared->Prop}
  (h:∀ m p',1<=m->m<=n->GoodP n p'->SrtR rk p' m->G (m,p') s):(kas_count n p).kasWp cmp G s:=by
 unfold kas_count;rw [KasT.kasWp_bind];refine Zkn hc g (n-1) 1 (Jf _) (by lia) (fun i j hij hj=>by rw [show i=j by lia]; exact Bu _) fun m a b c d=>?_
 by_cases e:m=n
 ·subst e;simp only [beq_self_eq_true,if_true];exact h m p (by lia) (Jf _) g c
 ·have hb:(m == n)=false:=by simpa using e
  simp only [hb,Gf,if_false];have hd:m<n/\Rk rk p m<Rk rk p (m-1):=by
   rcases d with d | d
   ·lia
   ·exact d
  by_cases hm:m > 1
  ·rw [Df hm];show cmp (p.getD 0 0) (p.getD (m-1) 0) _ s;refine hc _ _ _ (g.lt _ (by lia)) (g.lt _ (by lia)) ?_;have lt2:rk (p.getD 0 0)<rk (p.getD (m-1) 0):=by
    have ne:rk (p.getD 0 0)≠rk (p.getD (m-1) 0):=fun z=>g.ne (by lia) (by lia) (by lia:0≠m-1) (inj _ _ (g.lt _ (by lia)) (g.lt _ (by lia)) z);have le:=c 0 (m-1) (by lia) (by lia);unfold Rk at le;lia
   simp only [lt2,decide_true,if_true];exact h m p (by lia) (by lia) g c
  ·rw [De hm];have hm1:m=1:=by lia
   subst hm1;unfold kas_descPart;rw [KasT.kasWp_bind];refine Zia hc inj g (n-2) 2 (by lia) (by lia) (fun i j hij hj=>?_) fun m' a' b' c'=>?_
   ·have:j=1:=by lia
    have:i=0:=by lia
    subst i; subst j;exact hd.2
   ·simp only [gt_iff_lt,Bm,if_false];unfold kas_tail3;rw [KasT.kasWp_bind];have hm':m'<=n:=by lia
    refine Zkn hc (g.rev 0 m') (n-m') m' (by lia) (by lia) (fun i j hij hj=>?_) fun k a2 b2 c2 _=>?_
    ·rw [Ziq (by rw [g.size]; exact hm'),Ziq (by rw [g.size]; exact hm'),Df (by lia),Df hj]
     by_cases hij2:i=j
     ·subst hij2; exact Bu _
     ·exact Int.le_of_lt (c' _ _ (by lia) (by lia))
    ·show G (k,kas_rev p 0 m') s;exact h k _ (by lia) (by lia) (g.rev 0 m') c2
theorem Nt (hc:CmpR rk n cmp s) {p:Array Nat} (g:GoodP n p) {k:Nat} (hk:k<n) (hs:SrtR rk p k) {G:Nat->Shared->Prop}
  (h:∀ l,l<=k->(∀ i,i<l->Rk rk p i<=Rk rk p k)->(∀ i,l<=i->i<k->Rk rk p k<Rk rk p i)->G l s):∀ (f l r:Nat),l<=r->r<=k->r-l<=f ->
  (∀ i,i<l->Rk rk p i<=Rk rk p k)->(∀ i,r<=i->i<k->Rk rk p k<Rk rk p i)->(kas_place p k f l r).kasWp cmp G s
 | 0,l,r,h1,h2,h3,lo,hi=>by
  have:l=r:=by lia
  subst this;exact h l h2 lo hi
 | f+1,l,r,h1,h2,h3,lo,hi=>by
  unfold kas_place
  by_cases hge:l≥r
  ·rw [Df hge];have:l=r:=by lia
   subst this;exact h l h2 lo hi
  ·rw [De hge];show cmp (p.getD k 0) (p.getD ((l+r) / 2) 0) _ s;refine hc _ _ _ (g.lt _ hk) (g.lt _ (by lia)) ?_
   by_cases q:rk (p.getD k 0)<rk (p.getD ((l+r) / 2) 0)
   ·simp only [q,decide_true,if_true];exact Nt hc g hk hs h f l ((l+r) / 2) (by lia) (by lia) (by lia) lo fun i a b=>Int.lt_of_lt_of_le q (hs _ _ a b)
   ·simp only [q,decide_false,Gf,if_false];exact Nt hc g hk hs h f ((l+r) / 2+1) r (by lia) (by lia) (by lia) (fun i a=>Int.le_trans (hs i ((l+r) / 2) (by lia) (by lia)) (Int.not_lt.mp q)) hi
theorem Znm (hc:CmpR rk n cmp s) {G:Array Nat->Shared->Prop} (h:∀ p,GoodP n p->SrtR rk p n->G p s):∀ (f:Nat) (p:Array Nat) (k:Nat),k+f=n->GoodP n p->SrtR rk p k->(kas_bin f p k).kasWp cmp G s
 | 0,p,k,e,g,hs=>h p g (by rw [<- e]; exact hs)
 | f+1,p,k,e,g,hs=>by
  unfold kas_bin;rw [KasT.kasWp_bind];refine Nt hc g (by lia) hs (fun l hl lo hi=>?_) k 0 k (Jv _) (Jf _) (by lia) (fun i z=>absurd z (G2 _)) (fun i a b=>by lia);refine Znm hc h f _ (k+1) (by lia) ⟨(bubble_perm _ _ _).trans g.perm⟩ fun i j hij hj=>?_;have hks:k<p.size:=by rw [g.size]; lia
  rw [Nd hks (by lia),Nd hks (by lia),show k-(k-l)=l by lia]
  repeat' split
  all_goals first
   | (exfalso; lia)
   | exact Bu _
   | exact lo _ (by lia)
   | exact Int.le_of_lt (hi _ (by lia) (by lia))
   | exact hs _ _ (by lia) (by lia)
theorem Zlf (hc:CmpR rk n cmp s) (inj:∀ i j,i<n->j<n->rk i=rk j->i=j) (h2:2<=n) {G:Array Nat->Shared->Prop} (h:∀ p,GoodP n p->SrtR rk p n->G p s):(kas_sort n).kasWp cmp G s:=by
 unfold kas_sort;rw [KasT.kasWp_bind];refine Zkj hc inj h2 ⟨Array.Perm.refl _⟩ fun m p' a b g hs=>?_
 by_cases hm:m<n
 ·rw [Df hm];have e:max m 1=m:=by lia
  rw [e];exact Znm hc h (n-m) p' m (by lia) g hs
 ·rw [De hm];have:m=n:=by lia
  subst this;exact h p' g hs
end
end L2
namespace L2
open PySem PySem.W PyProof.Rows HT
theorem Vo:∀ a:List Int,lexLt a a=false
 | []=>rfl
 | x::r=>by rw [lexLt_cons,Df rfl]; exact Vo r
theorem U0:∀ {a b c:List Int},lexLt a b=true->lexLt b c=true->lexLt a c=true
 | [],[],_,h,_=>by rw [R7] at h; cases h
 | [],_::_,[],_,h=>by rw [Wu] at h; cases h
 | [],_::_,_::_,_,_=>rfl
 | _::_,[],_,h,_=>by rw [Wu] at h; cases h
 | _::_,_::_,[],_,h=>by rw [Wu] at h; cases h
 | x::a,y::b,z::c,h1,h2=>by
  rw [lexLt_cons] at h1 h2 ⊢
  by_cases e1:x=y
  ·subst e1;rw [Df rfl] at h1
   by_cases e2:x=z
   ·rw [Df e2] at h2 ⊢; exact U0 h1 h2
   ·rw [De e2] at h2 ⊢; exact h2
  ·rw [De e1] at h1;have l1:x<y:=of_decide_eq_true h1
   by_cases e2:y=z
   ·subst e2; rw [De e1]; exact h1
   ·rw [De e2] at h2;have l2:y<z:=of_decide_eq_true h2;rw [De (by lia)];exact Dg (by lia)
theorem Rz:∀ {a b:List Int},lexLt a b=false->lexLt b a=false->a=b
 | [],[],_,_=>rfl
 | [],_::_,h,_=>by rw [V9] at h; cases h
 | _::_,[],_,h=>by rw [V9] at h; cases h
 | x::a,y::b,h1,h2=>by
  rw [lexLt_cons] at h1 h2
  by_cases e:x=y
  ·subst e;rw [Df rfl] at h1 h2;rw [Rz h1 h2]
  ·rw [De e] at h1;rw [De (fun z=>e z.symm)] at h2;have:=of_decide_eq_false h1;have:=of_decide_eq_false h2;lia
theorem P0 {α:Type} {p q:α->Bool}:∀ {l:List α},(∀ x∈l,p x=true->q x=true)->(∃ x∈l,q x=true/\p x=false)->l.countP p<l.countP q
 | [],_,⟨_,h,_⟩=>nomatch h
 | a::l,h1,⟨x,hx,hq,hp⟩=>by
  have le:l.countP p<=l.countP q:=List.countP_mono_left fun y hy=>h1 y (Jj _ hy);rw [List.countP_cons,List.countP_cons];rcases Ju.mp hx with e | hx
  ·subst e;rw [hq,hp];simp;lia
  ·have lt:=P0 (fun y hy=>h1 y (Jj _ hy)) ⟨x,hx,hq,hp⟩;have:=h1 a Jl;cases ha:p a <;> cases hb:q a <;> simp_all <;> lia
def X1 (ks:List (List Int)) (i:Nat):Int:=((List.range ks.length).countP fun j=>lexLt (ks.getD j []) (ks.getD i []):Nat)
theorem Zdn {i j:Nat} (hi:i<ks.length) (h:lexLt (ks.getD i []) (ks.getD j [])=true):X1 ks i<X1 ks j:=by
 unfold X1;have:=P0 (l:=List.range ks.length) (p:=fun x=>lexLt (ks.getD x []) (ks.getD i [])) (q:=fun x=>lexLt (ks.getD x []) (ks.getD j [])) (fun x _ hx=>U0 hx h) ⟨i,Bd.mpr hi,h,Vo _⟩;lia
theorem Ut (nd:ks.Nodup) {i j:Nat} (hi:i<ks.length) (hj:j<ks.length):decide (X1 ks i<X1 ks j)=lexLt (ks.getD i []) (ks.getD j []):=by
 cases e:lexLt (ks.getD i []) (ks.getD j []) with
 | true=>exact Dg (Zdn hi e)
 | false =>
  refine Dh fun z=>?_;cases e2:lexLt (ks.getD j []) (ks.getD i []) with
  | true=>have:=Zdn hj e2; lia
  | false =>
   have e3:=Rz e e2;unfold X1 at z;rw [e3] at z;exact absurd z (Int.lt_irrefl _)
theorem Za4 (nd:ks.Nodup) {i j:Nat} (hi:i<ks.length) (hj:j<ks.length) (h:X1 ks i=X1 ks j):i=j:=by
 have e1:lexLt (ks.getD i []) (ks.getD j [])=false:=by rw [<- Ut nd hi hj]; exact Dh (by lia)
 have e2:lexLt (ks.getD j []) (ks.getD i [])=false:=by rw [<- Ut nd hj hi]; exact Dh (by lia)
 have e3:=Rz e1 e2;rw [J8,J8,Jb hi,Jb hj] at e3;exact (Bh (h₀:=hi) (h₁:=hj) nd).mp (by simpa using e3)
section
theorem Zbb {Q:Bool->Shared->Prop}:∀ {vs ws:List Value} {ns ms:List Int} {fin:Bool} {i:Nat},IntsAre vs ns->IntsAre ws ms->(fin=decide (ns.length<ms.length))->Q (lexLt ns ms) s->KatLex prog w A true fin Q (vs.zip ws) i s
 | _,_,_,_,fin,i,.nil,.nil,e,h=>by
  subst e;exact kat_nil h
 | _,_,_,_,fin,i,.nil,.cons _ _ r,e,h=>by
  subst e;exact kat_nil (by simpa [HT.lexLt] using h)
 | _,_,_,_,fin,i,.cons _ _ r,.nil,e,h=>by
  subst e;exact kat_nil (by simpa [HT.lexLt] using h)
 | _,_,_,_,fin,i,.cons a t r,.cons c u r2,e,h=>by
  rw [List.zip_cons_cons];refine kat_cons (wpAny_eqBool_int ?_);rw [lexLt_cons] at h
  by_cases z:a=c
  ·subst z;rw [Df rfl] at h;rw [beq_self_eq_true];exact kat_yes (Zbb r r2 (by rw [e]; simp) h)
  ·rw [De z] at h;have hb:(a == c)=false:=by simpa using z
   rw [hb];refine kat_no ?_;cases hi:(true && i == 0) with
   | true=>exact oneLt_int h
   | false=>exact kat_one _ _ (PyProof.Rows.lt_int (show PySem.W.BoolBack Q (.bool (decide (a<c))) s from h))
end
abbrev KIt:=V×Addr×List Int
section
def Inv.pin1 {b:Addr} (I:Inv X pq σ H s) (f:FpOk X pq H b) (e:s.heap.get? b=some o) (hd:∀ v,o.data≠.cell v):Inv X (pq++[(b,o)]) σ H s :=
 I.pins_of fun p hp=>(Jn.mp hp).elim (fun z=>I.pin p (Ji _ z)) fun z=>by
  rw [Je.mp z];exists e,f.1,f.2.1,f.2.2.1,hd
def Inv.turn1 {b:Addr} (I:Inv X pq σ H s) (f:FpOk X pq H b) (hs:Heap.SameBut b s.heap h'):Inv X pq σ H { s with heap:=h' } :=
 I.turned (t':=s.toks) (fun c o hc e=>(hs.2 c hc).trans e) f.1 f.2.1 f.2.2.2.1 f.2.2.2.2.1 f.2.2.2.2.2
def FpOk.snoc {b c:Addr} (f:FpOk X pq H b) (h:c≠b):FpOk X (pq++[(c,o)]) H b :=
 ⟨f.1,f.2.1,f.2.2.1,f.2.2.2.1,f.2.2.2.2.1,fun p hp=>by
  rw [<- Jt] at hp;rcases Jn.mp hp with z | z
  ·exact f.2.2.2.2.2 p z
  ·rw [Je.mp z]; exact h⟩
def Zp (L:List KIt):List Value:=L.map fun q=>Value.ref q.2.1
def Xb {α:Type} {f:α->β} {l:List α} {i:Nat} {d:β} (h:i<l.length):(l.map f).getD i d=f l[i]:=by
 rw [J8,Js,Jb h]; rfl
theorem Zgz {L:List KIt} (I:Inv X pq σ H s) (hk:∀ q∈L,SqT X.K H q.2.1 (q.2.2.map V.int)/\q.2.2≠[]) (h2:0<L.length) {Q:SortKind->Shared->Prop} (h:Q (tuples' true) s) :
  wpAny (model X.prog X.w) A (keyKind' (Zp L).toArray) Q E s:=by
 have tk:∀ L':List KIt,(∀ q∈L',q∈L)->∃ fs:List Value,KatTups s.heap (Zp L') fs/\fs.length=L'.length/\∀ v∈fs,∃ n t,v=.int n t:=by
  intro L'
  induction L' with
  | nil=>intro _;exists [],.nil,rfl,fun v hv=>nomatch hv
  | cons q r ih =>
   intro hm;obtain ⟨fs,a,b,c⟩:=ih fun x hx=>hm x (Jj _ hx);obtain ⟨sq,ne⟩:=hk q (hm q Jl);obtain ⟨its,rv,⟨o,e,hc,n,hd⟩,_⟩:=I.tuple sq
   match hq:q.2.2,ne with
   | z::zs,_ =>
    rw [hq] at rv;cases rv with
    | cons rv1 rv2 =>
     obtain ⟨t,et⟩:=rv1;exists .int z t::fs,KatTups.cons e hc hd ?_ a,by simp [b],fun v hv=>?_
     ·rw [et]; simp
     ·rcases Ju.mp hv with e | hv
      ·exists z,t,e
      ·exact c v hv
 obtain ⟨fs,a,b,c⟩:=tk L fun _ h=>h;exact kat_kind (T:=.type "int") a (by lia) (fun v hv=>by obtain ⟨n,t,e⟩:=c v hv; subst e; exact .now) nofun h
def Zjy {L:List KIt} (I:Inv X pq σ H s) (hk:∀ q∈L,SqT X.K H q.2.1 (q.2.2.map V.int)/\q.2.2≠[]) (nd:(L.map (·.2.2)).Nodup) :
  CmpR (X1 (L.map (·.2.2))) L.length (kas_ask X.prog X.w A (tuples' true) (Zp L)) s:=by
 intro i j C hi hj h;rw [Ut nd (by simpa using hi) (by simpa using hj),Xb hi,Xb hj] at h;unfold kas_ask;rw [show (Zp L).getD i Value.none=Value.ref L[i].2.1 from Xb hi,show (Zp L).getD j Value.none=Value.ref L[j].2.1 from Xb hj];obtain ⟨its,rv,⟨o,e,hc,n,hd⟩,_⟩:=I.tuple (hk _ (Ge hi)).1;obtain ⟨its2,rv2,⟨o2,e2,hc2,n2,hd2⟩,_⟩:=I.tuple (hk _ (Ge hj)).1;have ia:∀ {ns:List Int} {vs:List Value},Vals (ns.map V.int) vs->IntsAre vs ns:=by
  intro ns
  induction ns with
  | nil=>intro vs h; cases h; exact .nil
  | cons a r ih =>
   intro vs h;cases h with
   | cons h1 h2=>obtain ⟨t,e⟩:=h1; subst e; exact .cons a t (ih h2)
 refine kat_lt e hd e2 hd2 ?_;have i1:=ia rv;have i2:=ia rv2;exact Zbb i1 i2 (by rw [<- i1.length,<- i2.length]; simp) h
end
section
abbrev PD (D:Addr) (e1:Nat):Addr×Obj:=(D,seqObj "list" #[] e1)
end
def codeφ (c:Addr) (q:Str):HO:=.ext fun h=>h.CodeRec (.ref c) q
end L2
namespace L2
open PySem PySem.Spec PyProof.Rows PySem.W
section
def S7 (K:W.Frag) (H:Hp) (h:Heap) (p it:Addr) (ys:List V) (i:Nat):Prop:=(SqL K H p ys/\h.IsListIter it p i)\/(SqT K H p ys/\h.IsTupleIter it p i)
def S7.at {h:Heap} {p:Addr} {i:Nat} (x:S7 K H h p it ys i) (k:∀ o,h.get? it=some o->h'.get? it=some o) (hl:SqL K H p ys->SqL K H' p ys) (ht:SqT K H p ys->SqT K H' p ys):S7 K H' h' p it ys i:=by
 rcases x with ⟨a,b⟩ | ⟨a,b⟩
 ·exact .inl ⟨hl a,b.at k⟩
 ·exact .inr ⟨ht a,b.at k⟩
def Zao {p:Addr} {i:Nat} {x:V} {Q:Option Value->Shared->Prop} (I:Inv X pq σ H s) (f:FpOk X pq H it) (src:S7 X.K H s.heap p it ys i) (hx:ys[i]?=some x)
  (h:∀ u s',RelV x u->Inv X pq σ H s'->S7 X.K H s'.heap p it ys (i+1)->Q (some u) s'):wpAny (model X.prog X.w) A (pyNext (.ref it)) Q E s:=by
 obtain ⟨f0,f1,f2,f3,f4,f5⟩:=f;rcases src with ⟨hq,st⟩ | ⟨hq,st⟩
 ·obtain ⟨its,rv,p',hz⟩:=I.list hq;obtain ⟨u,hu,ru⟩:=rv.get hx;exact wpAny_pyNext_list_item st p'.isList (x:=u) (by simpa using hu) fun h' st' sb=>h u _ ru (I.turned (t':=s.toks) (fun b o hb e=>(sb.2 b hb).trans e) f0 f1 f3 f4 f5) (.inl ⟨hq,st'⟩)
 ·obtain ⟨its,rv,p',hz⟩:=I.tuple hq;obtain ⟨u,hu,ru⟩:=rv.get hx;exact wpAny_pyNext_tuple_item st (show s.heap.IsTuple p its.toArray from p') (x:=u) (by simpa using hu) fun h' st' sb=>h u _ ru (I.turned (t':=s.toks) (fun b o hb e=>(sb.2 b hb).trans e) f0 f1 f3 f4 f5) (.inr ⟨hq,st'⟩)
theorem Zcy {p:Addr} {i:Nat} {Q:Option Value->Shared->Prop} (I:Inv X pq σ H s) (f:FpOk X pq H it) (hA:A.handled=none) (src:S7 X.K H s.heap p it ys i) (hx:ys.length<=i)
  (h:∀ s',Inv X pq σ H s'->Q none s'):wpAny (model X.prog X.w) A (pyNext (.ref it)) Q E s:=by
 obtain ⟨f0,f1,f2,f3,f4,f5⟩:=f;rcases src with ⟨hq,st⟩ | ⟨hq,st⟩
 ·obtain ⟨its,rv,p',hz⟩:=I.list hq;have hl:=rv.length;exact wpAny_pyNext_list_end hA st p'.isList (by simp; lia) fun h' eb=>h _ (I.turned (t':=s.toks) (fun b o hb e=>eb b o hb e) f0 f1 f3 f4 f5)
 ·obtain ⟨its,rv,p',hz⟩:=I.tuple hq;have hl:=rv.length;exact wpAny_pyNext_tuple_end hA st (show s.heap.IsTuple p its.toArray from p') (by simp; lia) fun h' eb=>h _ (I.turned (t':=s.toks) (fun b o hb e=>eb b o hb e) f0 f1 f3 f4 f5)
end
end L2
namespace L2
open PySem PySem.Spec PyProof.Rows
section
variable {st:Option Expr} {p2:Pos}
def tRev (K:W.Frag) (te:TE) (ts:TO):TE:=fun σ H Q=>te σ H fun x H1=>ts σ H1 fun k H2=>k=some (-1)/\∃ a xs,x=.ref a/\SqL K H2 a xs/\∀ p,H2 p=none->Q (.ref p) (upd H2 p (.lst xs.reverse))
theorem Zh2 (he:PE X e te) (hs:PO X st ts) (hsub:∀ o i,∃ ops,subscripted (.Slice none none st p2) false o i=operate ops (getItem o i)):PE X (.Subscript e (.Slice none none st p2) pos) (tRev X.K te ts):=by
 intro pq s σ H Q I h;refine Subscript_ (thn (he pq s σ H _ I h) fun v s1 hz=>?_);obtain ⟨x,H1,I1,r1,q1⟩:=hz;refine wpAny_Slice ?_;rw [evalPart_none];refine Da ?_;refine Da ?_;refine thn (hs pq s1 σ H1 _ I1 q1) fun vk s3 hz=>?_;obtain ⟨k,H3,I3,pk,ek,a,xs,ex,hx,q⟩:=hz;subst ek;subst ex;cases r1;have I4:Inv X pq σ H3 { s3 with heap:=s3.heap.push { cls:=.type "slice",data:=.fields #[.none,.none,vk] } }:=I3.kept (t':=s3.toks) fun b ob q=>Db _ q;obtain ⟨its,r,ht,hz⟩:=I4.list hx;have hlen:=r.length;show wpAny (model X.prog X.w) X.A (subscriptTail e (.Slice none none st p2) (.ref a) (.ref s3.heap.objs.size)) (EP X pq σ Q) X.xe { s3 with heap:=s3.heap.push { cls:=.type "slice",data:=.fields #[.none,.none,vk] } }
 obtain ⟨ops,hop⟩:=hsub (.ref a) (.ref s3.heap.objs.size);refine tail_any (ops:=ops) ht.isList.typeIs slot_list_getitem.lookup ?_ hop;refine wpAny_getItem_list_slice ht.isList (Heap.IsSliceOf.new ..) .none .none pk nofun ?_ (by rw [Jg] <;> lia);rw [W.krv_pick];refine ⟨.ref _,_,I4.laid (t':=s3.toks) (o:=.lst xs.reverse) (fun b ob q=>Db _ q) (Jf _) ?_,rfl,q _ (I4.hok.fresh (Jf _))⟩;refine ⟨by rw [Br]; exact hz,its.reverse,0,?_,?_⟩
 ·have rev:∀ {a:List V} {b:List Value},Vals a b->Vals a.reverse b.reverse:=by
   intro a b h
   induction h with
   | nil=>exact .nil
   | cons h1 h2 ih=>rw [B8,B8]; exact ih.append (.cons h1 .nil)
  exact rev r
 ·exact Dc _ rfl
end
def Wc:Option Value->Array Value
 | none=>#[]
 | some v=>#[v,v]
section
def To (c:Option Value):(Wc c).size<=sizeLine:=by rw [sizeLine_eq]; cases c <;> simp [Wc]
abbrev lst0 (vs:Array Value) (c:Nat):Obj:={ cls:=.type "list",data:=.seq vs c }
end
section
def Ud {t sl:Addr} {vl vu:Value} {lo:Option Int} {Q:Value->Shared->Prop} (ht:IsTup s.heap t items) (hs:s.heap.IsSliceOf sl vl vu .none) (pl:IsPart vl lo) (pu:IsPart vu hi)
  (hw:HT.sIx items.size 0 lo=0/\HT.sIx items.size items.size hi=items.size) (h:Q (.ref t) s):wpAny (model prog w) A (getItem (.ref t) (.ref sl)) Q E s:=by
 obtain ⟨os,hos,hcs,hds⟩:=id hs;have hTs:s.TypeIs (.ref sl) "slice":=⟨os,hos,hcs⟩;unfold getItem
 try with_reducible refine wpAny_holding ?_
 first | refine Fz (Da ?_) | skip
 refine Fz (wpAny_sequenceKey ht.typeIs nofun ?_);refine Fz (wpAny_callSpecial?_slot (name:=Str.ofString "__getitem__") ht.typeIs PyProof.Rows.slot_tuple_getitem
  (wpAny_call_entry PyProof.Rows.slot_tuple_getitem ht.typeIs entry_tuple_getitem ?_ (args_tuple_getitem _ _)))
 show wpAny _ _ (Builtin.Tuple.tupleItemsOf (.ref t) >>= _) _ _ s;refine Fz (tupleItemsOf_ ht ?_);refine Fz (wpAny_typeOf hTs ?_);rw [Df nofun];refine Fz (HT.sliceApplied_gen hs pl pu ?_);show wpAny _ _ (if (((HT.sIx items.size 0 lo:Nat):Int) == 0 && (1:Int) == 1 && (HT.sIx items.size items.size hi-HT.sIx items.size 0 lo) == items.size)=true then _ else _) _ _ s;have hyes:((((HT.sIx items.size 0 lo:Nat):Int) == 0 && (1:Int) == 1 && (HT.sIx items.size items.size hi-HT.sIx items.size 0 lo) == items.size)=true):=by
  rw [hw.1,hw.2]; simp
 rw [Df hyes];unfold Builtin.Tuple.tupleIsExact;refine Fz ?_
 first
  | exact Fz (wpAny_typeOf ht.typeIs (Da (by rw [Df nofun]; exact Fz (wpAny_rule (Da ⟨_,rfl,Da h⟩)))))
  | exact Fz (wpAny_typeOf ht.typeIs (Da (by simp; exact Fz (wpAny_rule (Da ⟨_,rfl,Da h⟩)))))
end
section
def rSlW (K:W.Frag):V->Option Int->Option Int->Hp->VK->Prop:=fun x lo hi H Q=>∃ a xs,x=.ref a/\SqT K H a xs /\
 ((cutV xs lo hi=xs->Q (.ref a) H)/\∀ p,H p=none->Q (.ref p) (upd H p (.tup (cutV xs lo hi))))
def Zi5:SlR X (rSlW X.K):=by
 intro pq s σ H x v vl vu lo hi sl Q I rx hs pl pu h;obtain ⟨a,xs,rfl,hx,q0,q⟩:=h;cases rx;obtain ⟨its,r,ht,hz⟩:=I.tuple hx;have hlen:its.toArray.size=xs.length:=by rw [Jg]; exact r.length.symm
 exists "tuple",_,PyProof.Rows.slot_tuple_getitem.lookup,ht.typeIs,?_
 by_cases hw:HT.sIx xs.length 0 lo=0/\HT.sIx xs.length xs.length hi=xs.length
 ·refine Ud ht hs pl pu (by rw [hlen]; exact hw) ⟨.ref a,H,I,rfl,q0 ?_⟩;unfold cutV;rw [hw.1,hw.2];simp
 ·refine HT.getItem_tuple_cut ht hs pl pu (by rw [hlen]; exact hw) ?_ (by rw [hlen]; exact hz);rw [hlen];exists .ref s.heap.objs.size,_,I.laid (t':=s.toks) (o:=.tup (cutV xs lo hi)) (fun b ob q=>Db _ q) (Jf _) ?_,rfl,q _ (I.hok.fresh (Jf _));exists Jy (Sz xs lo hi) hz,_,(r.drop (HT.sIx xs.length 0 lo)).take (HT.sIx xs.length xs.length hi-HT.sIx xs.length 0 lo),W1.new _ _
end
abbrev Pr:=Int×List Int
variable {L:List L2.Pr}
def TupK (H H':Hp):Prop:=∀ b xs,H b=some (.tup xs)->H' b=some (.tup xs)
def TupK.trans {H2:Hp} (a:TupK H H1) (b:TupK H1 H2):TupK H H2:=fun c xs h=>b c xs (a c xs h)
def Same.tk (s:Same H H'):TupK H H':=fun b xs h=>s b _ h
def Grow.tk {p:Addr} (g:Grow p H H') {xs:List V} (e:H p=some (.lst xs)):TupK H H':=fun b ys h=>g b _ h (Zjq h e fun z=>by cases z)
def Zf5 (H:Hp) (v:V) (w:List Int):Prop:=∃ t,v=.ref t/\H t=some (.tup (w.map V.int))
def Zhk (H:Hp) (v:V) (p:Pr):Prop:=∃ t tw,v=.ref t/\H t=some (.tup [.int p.1,.ref tw])/\H tw=some (.tup (p.2.map V.int))
def Zf5.tk {w:List Int} (h:Zf5 H v w) (s:TupK H H'):Zf5 H' v w:=by
 obtain ⟨t,e,a⟩:=h;exists t,e,s _ _ a
def Zhk.tk {p:Pr} (h:Zhk H v p) (s:TupK H H'):Zhk H' v p:=by
 obtain ⟨t,tw,e,a,b⟩:=h;exists t,tw,e,s _ _ a,s _ _ b
abbrev Wo (H:Hp):List V->List (List Int)->Prop:=Paired (Zf5 H)
abbrev Prs (H:Hp):List V->List Pr->Prop:=Paired (Zhk H)
def Wo.tk (h:Wo H vs ws) (s:TupK H H'):Wo H' vs ws:=Paired.mapP h fun _ _ z=>z.tk s
def Prs.tk (h:Prs H vs L) (s:TupK H H'):Prs H' vs L:=Paired.mapP h fun _ _ z=>z.tk s
theorem Paired.at {α:Type} {F:α->β->Prop}:∀ {l:List α} {m:List β},Paired F l m->∀ {i:Nat} (h1:i<l.length) (h2:i<m.length),F l[i] m[i]
 | _,_,.nil,_,h,_=>absurd h (G2 _)
 | _,_,.cons a r,0,_,_=>a
 | _,_,.cons a r,i+1,h1,h2=>Paired.at r (i:=i) (by simpa using h1) (by simpa using h2)
theorem Paired.snoc {α:Type} {F:α->β->Prop} {x:α} {y:β} (h:F x y):∀ {l:List α} {m:List β},Paired F l m->Paired F (l++[x]) (m++[y]):=by
 intro _ _ hz9;cases hz9 with
 | nil=>
  exact .cons h .nil
 | cons a r=>
  exact .cons a (Paired.snoc h r)
theorem Paired.app {α:Type} {F:α->β->Prop} {l':List α} {m':List β} (h:Paired F l' m'):∀ {l:List α} {m:List β},Paired F l m->Paired F (l++l') (m++m'):=by
 intro _ _ hz9;cases hz9 with
 | nil=>
  exact h
 | cons a r=>
  exact .cons a (Paired.app h r)
theorem Paired.tak {α:Type} {F:α->β->Prop}:∀ {l:List α} {m:List β} (n:Nat),Paired F l m->Paired F (l.take n) (m.take n)
 | _,_,0,_=>by rw [List.take_zero,List.take_zero]; exact .nil
 | _,_,n+1,.nil=>.nil
 | _,_,n+1,.cons a r=>.cons a (Paired.tak n r)
theorem Paired.drp {α:Type} {F:α->β->Prop}:∀ {l:List α} {m:List β} (n:Nat),Paired F l m->Paired F (l.drop n) (m.drop n)
 | _,_,0,h=>h
 | _,_,n+1,.nil=>.nil
 | _,_,n+1,.cons a r=>Paired.drp n r
abbrev wk (w:List Int):List Key:=w.map Sum.inl
def Zks (kvs:List (List Key×V)) (ws:List (List Int)):Prop:=∀ u:List Int,(valV kvs (wk u)).isSome=decide (∃ w∈ws,u<+:w/\u.length<w.length)
theorem Zck:∀ {u v:List Int},wk u=wk v->u=v
 | [],[],_=>rfl
 | [],_::_,h=>nomatch h
 | _::_,[],h=>nomatch h
 | x::u,y::v,h=>by
  have h':(Sum.inl x:Key)::wk u=Sum.inl y::wk v:=h;injection h' with a b
  rw [Sum.inl.inj a,Zck b]
def Zir (H:Hp) (k1:List (Key×V)) (S:List Pr):Prop:=(∀ p∈S,∃ t,valV k1 (Sum.inl p.1)=some (.ref t)/\H t=some (.tup (p.2.map V.int)))/\∀ s:Int,(∀ p∈S,p.1≠s)->valV k1 (Sum.inl s)=none
def Zi8 (k2:List (List Key×V)) (S:List Pr):Prop:=(∀ p∈S,valV k2 (wk p.2)=some (.int p.1))/\∀ u:List Int,(∀ p∈S,p.2≠u)->valV k2 (wk u)=none
def Zhi (ns:List Int) (S:List Pr):Prop:=ns.Pairwise (· < ·)/\∀ n:Int,n∈ns↔∃ p∈S,(p.2.length:Int)=n
structure CodeIn (H:Hp) (tp d1 d2 d3 d4:Addr) (S:List Pr):Prop where
 pr:∃ vs,H tp=some (.tup vs)/\Prs H vs S
 wb:∃ k1,H d1=some (.dK k1)/\Zir H k1 S
 sb:∃ k2,H d2=some (.dT k2)/\Zi8 k2 S
 bg:∃ k3,H d3=some (.dT k3)/\Zks k3 (S.map (·.2))
 sz:∃ ns:List Int,H d4=some (.tup (ns.map V.int))/\Zhi ns S
def Zbt (C:Addr) (H:Hp) (x:Addr) (S:List Pr):Prop:=∃ dx tp d1 d2 d3 d4,H x=some (.ins C dx [("pairs",.ref tp),("words_by_sign",.ref d1),("signs_by_word",.ref d2),("begun",.ref d3),("word_sizes",.ref d4)])/\CodeIn H tp d1 d2 d3 d4 S
section
def rLen (K:W.Frag):List V->Hp->VK->Prop:=fun xs H Q=>∃ x n,xs=[x]/\LenV K x H n/\Q (.int n) H
def Yd (h:X.K=K):Xv X (.builtin "len") (rLen K):=by subst h; exact V7
def Znl (h:X.K=K):IxR X (rIxL K):=by subst h; exact Xk
def Zkl (h:X.K=K):OpR X (binaryOp .Add) (Zgj K):=by subst h; exact Nv
end
def Zc0:Sp:=fun vs H Q _=>∃ (p a:Addr) (m:Int),vs=[.ref p,.int m]/\HandAt H p a/\2<=m/\m<=4 /\
 ∀ (l:Addr) (bs:List Int) (H':Hp),H l=none->l≠p->H' l=some (.lst (bs.map V.int))->bs.Nodup->2<=bs.length->(bs.length:Int)<=m->(∀ b∈bs,0<=b/\b<256)->HandAt H' p a->Grow p H H'->Q (.ref l) H'
theorem Nl {b s:Int} (hs:1<=s) {n:Nat} (hn:s*n<=255+s):((List.range n).map fun k:Nat=>(b+s*(k:Int)) % 256).Nodup:=by
 refine Gy.mpr ?_;refine G9.mpr fun i j hi hj hij=>?_;simp only [Bo] at hi hj;simp only [List.getElem_range];intro e;have h2:s*((j:Int)-(i:Int))=s*(j:Int)-s*(i:Int):=Int.mul_sub _ _ _;have h3:0<s*((j:Int)-(i:Int)):=Int.mul_pos (by lia) (by lia);have h4:s*((j:Int)-(i:Int))<=s*((n:Int)-1):=Int.mul_le_mul_of_nonneg_left (by lia) (by lia);have h5:s*((n:Int)-1)<=255:=by rw [Int.mul_sub,Int.mul_one]; lia
 rw [h2] at h3 h4;generalize s*(j:Int)=X at *
 generalize s*(i:Int)=Y at *
 lia
def PF (ws:List (List Int)):Prop:=ws.Pairwise fun a b=>¬ a<+:b/\¬ b<+:a
def WOk (ws:List (List Int)):Prop:=PF ws/\∀ w∈ws,w≠[]/\w.length<=4
def PF.sub {a b:List (List Int)} (h:PF b) (s:a.Sublist b):PF a:=List.Pairwise.sublist s h
def WOk.sub {a b:List (List Int)} (h:WOk b) (s:a.Sublist b):WOk a:=⟨h.1.sub s,fun w hw=>h.2 w (s.subset hw)⟩
def V2 {w:List Int} {a b:Int} (h:a≠b):¬ (w++[a])<+:(w++[b]):=fun e=>by
 have:=List.IsPrefix.eq_of_length e (by simp);simp at this;exact h this
def Zjn {bs:List Int} (nd:bs.Nodup):WOk (bs.map fun b=>[b]):=by
 exists Gy.mpr (nd.imp fun z=>⟨V2 (w:=[]) z,V2 (w:=[]) z.symm⟩),fun w hw=>?_;obtain ⟨b,_,rfl⟩:=Jp.mp hw;exact ⟨by simp,by simp⟩
theorem Zgo {a c:List (List Int)} {w:List Int} {bs:List Int} (nd:bs.Nodup) (h:WOk (a++w::c)) (hw:w.length<4):WOk (a++(bs.map fun b=>w++[b])++c):=by
 obtain ⟨h1,h2⟩:=h;have hk:∀ x,(¬ x<+:w/\¬ w<+:x)->∀ b,¬ x<+:w++[b]/\¬ (w++[b])<+:x:=fun x hx b=>by
  exists fun z=>?_,fun z=>hx.2 ((Gq _ _).trans z);rcases List.prefix_concat_iff.mp z with e | e
  ·exact hx.2 (e ▸ Gq _ _)
  ·exact hx.1 e
 unfold PF at h1;rw [Fn] at h1;obtain ⟨pa,pwc,pac⟩:=h1;rw [Ft] at pwc;obtain ⟨pw,pc⟩:=pwc;exists ?_,fun x hx=>?_
 ·unfold PF;rw [Jt,Fn];exists pa,?_,fun x hx y hy=>?_
  ·rw [Fn];exists Gy.mpr (nd.imp fun z=>⟨V2 z,V2 z.symm⟩),pc,fun x hx y hy=>?_;obtain ⟨b,_,rfl⟩:=Jp.mp hx;have:=hk y ⟨(pw y hy).2,(pw y hy).1⟩ b;exists this.2,this.1
  ·rcases Jn.mp hy with hy | hy
   ·obtain ⟨b,_,rfl⟩:=Jp.mp hy;exact hk x (pac x hx w Jl) b
   ·exact pac x hx y (Jj _ hy)
 ·rcases Jn.mp hx with hx | hx
  ·rcases Jn.mp hx with hx | hx
   ·exact h2 x (Jw _ hx)
   ·obtain ⟨b,_,rfl⟩:=Jp.mp hx;exact ⟨by simp,by rw [Jc,Go]; lia⟩
  ·exact h2 x (Ji _ (Jj _ hx))
def Zaf (H:Hp) (a:Addr) (ws:List (List Int)):Prop:=∃ vs,H a=some (.lst vs)/\Wo H vs ws
section
variable {a:Addr} {xs:List V} {i:Nat} 
def Zes (e:H a=some (.lst xs)) (hi:i<xs.length):(Itl K a).go i H:=⟨_,_,SqL.of e,Jb hi⟩
def R9 (e:H a=some (.lst xs)) (hi:xs.length<=i):(Itl K a).stop i H:=⟨_,SqL.of e,hi⟩
def Nz (e:H a=some (.lst xs)) (hi:i<xs.length) (z:(Itl K a).yld i H y H'):H'=H/\y=xs[i]:=by
 exists z.1,?_;have:=z.2 _ (SqL.of e);rw [Jb hi] at this;exact (Di this).symm
end
def Wm {p a:Addr} (h:HandAt H p a):∃ xs,H p=some (.lst xs):=let ⟨_,_,_,e,_⟩:=h.ex; ⟨_,e⟩
def Wo.take1 (h:Wo H vs ws) {i:Nat} (hi:i<vs.length):∃ (hj:i<ws.length) (t:Addr),vs[i]=.ref t/\H t=some (.tup (ws[i].map V.int)):=by
 have hj:i<ws.length:=by rw [<- Paired.length h]; exact hi
 obtain ⟨t,e,z⟩:=L2.Paired.at h hi hj;exists hj,t,e,z
def Zcz:Sp:=fun vs H Q _=>∃ (p a:Addr) (m:Int),vs=[.ref p,.int m]/\HandAt H p a/\0<=m/\m<=100 /\
 ∀ (l:Addr) (ss:List Int) (H':Hp),H l=none->l≠p->H' l=some (.lst (ss.map V.int))->ss.Nodup->(ss.length:Int)=m->HandAt H' p a->Grow p H H'->Q (.ref l) H'
theorem Zcx {b s:Int} (hs:1<=s) (n:Nat):((List.range n).map fun k:Nat=>b+s*(k:Int)).Nodup:=by
 refine Gy.mpr (G9.mpr fun i j hi hj hij=>?_);simp only [List.getElem_range];intro e;have h3:0<s*((j:Int)-(i:Int)):=Int.mul_pos (by lia) (by lia);rw [Int.mul_sub] at h3;lia
def Zbx {ss:List Int} (h:ss.Nodup) (n:Nat):(ss.drop n++ss.take n).Nodup:=by
 have:(ss.take n++ss.drop n).Nodup:=by rw [Gv]; exact h
 exact (List.perm_append_comm.nodup_iff).mp this
def Zbt.same {C x:Addr} {S:List Pr} (h:Zbt C H x S) (s:Same H H'):Zbt C H' x S:=by
 obtain ⟨dx,tp,d1,d2,d3,d4,ex,⟨⟨vs,a1,a2⟩,⟨k1,b1,b2⟩,⟨k2,c1,c2⟩,⟨k3,f1,f2⟩,⟨k4,g1,g2⟩⟩⟩:=h;exists dx,tp,d1,d2,d3,d4,s _ _ ex,⟨vs,s _ _ a1,Prs.tk a2 s.tk⟩,⟨k1,s _ _ b1,fun p hp=>?_,b2.2⟩,⟨k2,s _ _ c1,c2⟩,⟨k3,s _ _ f1,f2⟩,⟨k4,s _ _ g1,g2⟩;obtain ⟨t,u,v⟩:=b2.1 p hp;exists t,u,s _ _ v
section
def Zdr (K:W.Frag):List V->Hp->VK->Prop:=fun xs H Q=>∃ p ys,xs=[.ref p]/\(SqL K H p ys\/SqT K H p ys)/\∀ l,H l=none->Q (.ref l) (upd H l (.lst ys))
def Ug (h:X.K=K):Xv X (.type "list") (Zdr K):=by subst h; exact P5
def Zhx (K:W.Frag):List V->Hp->VK->Prop:=fun xs H Q=>∃ p ys,xs=[.ref p]/\((SqL K H p ys/\∀ l,H l=none->Q (.ref l) (upd H l (.tup ys)))\/(SqT K H p ys/\Q (.ref p) H))
def Zin (h:X.K=K):Xv X (.type "tuple") (Zhx K):=by subst h; exact Qn
def rIsi (K:W.Frag):List V->Hp->VK->Prop:=fun xs H Q=>∃ x T t b,xs=[x,.ty T]/\TyOf K H x t/\W.kitOne K t (.type T)=some b/\Q (.bl b) H
def P6 (h:X.K=K):Xv X (.builtin "isinstance") (rIsi K):=by subst h; exact Zg9
end
def excP (ea C:Addr) (d:Option Addr) (h:Heap):Prop:=∃ oe vs,h.get? ea=some oe/\oe.cls=.ref C/\oe.dict=d/\oe.data=.fields vs/\vs.size=6
end L2
variable {L:List L2.Pr}
namespace L2
open PySem PySem.Spec PyProof.Rows PySem.W
def xdP (d:Addr) (fs:List (Str×V)) (h:Heap):Prop:=∃ mA,h.Ns1 d mA/\(∀ f,RelO (fs.lookup f) (mA f))/\PySem.Within mA (fs.map (·.1))
end L2
namespace L2
open PySem PySem.Spec PyProof.Rows PySem.W PySem.Builtin PySem.Builtin.ObjectAttr
section
def XD (H:Hp):Option Addr->List (Str×V)->Prop
 | some d,fs=>H d=some (.ext (xdP d fs))
 | none,fs=>fs=[]
theorem XD.mono (s:Same H H'):∀ {o:Option Addr} {fs:List (Str×V)},XD H o fs->XD H' o fs
 | some _,_,h=>s _ _ h
 | none,_,h=>h
end
end L2
namespace L2
open PySem PySem.Spec PyProof.Rows
section
def Inv.turned2 {e:Addr} (I:Inv X pq σ H s) (k:∀ b o,b≠e->b≠it->s.heap.get? b=some o->h'.get? b=some o) (f:FpOk X pq H e) (g:FpOk X pq H it):Inv X pq σ H { s with heap:=h',toks:=t' }:=by
 obtain ⟨f0,f1,f2,f3,f4,f5⟩:=f;obtain ⟨g0,g1,g2,g3,g4,g5⟩:=g;have ne:∀ b u,H b=some u->b≠e:=fun b u q z=>by rw [z,f0] at q; cases q
 have nit:∀ b u,H b=some u->b≠it:=fun b u q z=>by rw [z,g0] at q; cases q
 refine I.step (g':=s.gens) (d':=s.drawn) (ch:=[e,it]) (fun b hb=>?_) (fun b o _ _ hc q _=>k b o (fun z=>hc (by simp [z])) (fun z=>hc (by simp [z])) q) (fun b o _ _ hc q _=>⟨o.slots,k b o (fun z=>hc (by simp [z])) (fun z=>hc (by simp [z])) q⟩) (fun _ _ _ _ n=>n)
  (fun b o hc q=>⟨o,k b o (fun z=>hc (by simp [z])) (fun z=>hc (by simp [z])) q⟩) (fun _ _ q=>q) (fun _ _ _ q=>q) (fun b ps q=>⟨#[],by rw [q]; simp⟩) (fun m hm=>?_) (fun b u q=>?_) I.bare
 ·rcases Ju.mp hb with z | hb
  ·subst z;exists f3,f1,f4,f5
  ·have z:b=it:=by simpa using hb
   subst z;exists g3,g1,g4,g5
 ·obtain ⟨o,es,ep,ho,r⟩:=hm;exists o,es,ep,k _ o (Ne.symm f1) (Ne.symm g1) ho,r
 ·refine (I.hok b u q).stay (fun c v hc q'=>k c v ?_ ?_ q') (fun _ q=>q) fun _ _ q=>q
  ·rcases hc with z | z
   ·rw [z]; exact ne b u q
   ·exact ne c _ z
  ·rcases hc with z | z
   ·rw [z]; exact nit b u q
   ·exact nit c _ z
end
def Ite (K:W.Frag) (a:Addr):It :=
 ⟨fun i H=>∃ xs x,SqL K H a xs/\xs[i]?=some x,fun i H x H'=>∃ (t:Addr) (y:V),x=.ref t/\H t=none/\H'=upd H t (.tup [.int i,y])/\∀ xs,SqL K H a xs->xs[i]?=some y,fun i H=>∃ xs,SqL K H a xs/\xs.length<=i⟩
theorem Zcq (a e it:Addr) (hne:e≠it):Turn P w K (.Tuple elts x1 pos) (Ite K a) [e,it] e (fun i h=>(∃ old,IsEnum h e it i old)/\h.IsListIter it a i) where
 mem:=by simp
 obj:=fun i h st b hb=>by
  obtain ⟨⟨old,st1⟩,o,e2,c2,d2⟩:=st;rcases Ju.mp hb with z | hb
  ·subst z;exact ⟨_,st1,fun v z=>by
    have z':Data.fields _=Data.cell v:=z;cases z'⟩
  ·have z:b=it:=by simpa using hb
   subst z;exact ⟨o,e2,fun v z=>by rw [d2] at z; cases z⟩
 keep:=fun i h h' st k=>by
  obtain ⟨⟨old,st1⟩,st2⟩:=st;exists ⟨old,k e (by simp) _ st1⟩,st2.at fun o q=>k it (by simp) o q
 item:=by
  intro X hP hw hK hc i pq s σ H E I hf st hg;subst hP hw hK;obtain ⟨⟨old,st1⟩,st2⟩:=st;obtain ⟨xs,x,hq,hx⟩:=hg;obtain ⟨its,rv,p,hz⟩:=I.list hq;obtain ⟨u,hu,ru⟩:=rv.get hx;refine wpAny_pyNext_enum_item st1 st2 p.isList (x:=u) (by simpa using hu) hne fun h1 eo st2' et hsz hk=>?_;have he:e<s.heap.objs.size:=Dd st1;have hi:it<s.heap.objs.size:=by obtain ⟨_,q,_⟩:=st2; exact Dd q
  exists ·,wpAny_letOwnedTupleGo_enum eo fun h2 en2 sb=>?_
  replace sb:Heap.SameBut e h1 h2:=sb
  have fr:H s.heap.objs.size=none:=I.fresh;have Il:Inv X pq σ (upd H s.heap.objs.size (.tup [.int i,x])) { s with heap:=s.heap.push { cls:=.type "tuple",data:=.seq #[.int i s.toks,u] },toks:=s.toks }:=I.laid (fun b o q=>Db _ q) (Jf _)
   ⟨by show 2<=sizeLine; decide,[.int i s.toks,u],.cons ⟨_,rfl⟩ (.cons ru .nil),⟨_,Dc _ rfl,rfl,_,rfl,rfl⟩⟩
  have up:∀ b,b∈[e,it]->FpOk X pq (upd H s.heap.objs.size (.tup [.int i,x])) b:=fun b hb=>by
   obtain ⟨f0,f⟩:=hf b hb;refine ⟨?_,f⟩;have hlt:b<s.heap.objs.size:=by
    rcases Ju.mp hb with z | hb
    ·rw [z]; exact he
    ·have z:b=it:=by simpa using hb
     rw [z]; exact hi
   rw [Z4 (Gi hlt)];exact f0
  have I2:Inv X pq σ (upd H s.heap.objs.size (.tup [.int i,x])) { s with heap:=h2,toks:=s.toks+1 }:=by
   refine Inv.turned2 (s:={ s with heap:=s.heap.push { cls:=.type "tuple",data:=.seq #[.int i s.toks,u] },toks:=s.toks }) (h':=h2) (t':=s.toks+1) (e:=e) (it:=it) Il (fun b o be bi q=>?_) (up e (by simp)) (up it (by simp));rcases Heap.get?_push_cases q with ⟨z1,z2⟩ | q
   ·subst z1 z2;exact (sb.2 _ (Nat.ne_of_gt he)).trans et
   ·exact (sb.2 _ be).trans (hk b o be bi q)
  exists .ref s.heap.objs.size,_,I2,rfl,⟨_,x,rfl,fr,rfl,fun ys hy=>by rw [I.list_inj hy hq]; exact hx⟩,⟨⟨u,?_⟩,st2'.at fun o q=>(sb.2 it hne.symm).trans q⟩,fun b hb=>(up b hb).1
  ·have z:((i+1:Nat):Int)=(i:Int)+1:=by push_cast; rfl
   rw [z];exact en2
 done:=by
  intro X hP hw hK hc i pq s σ H E I hf st hg;subst hP hw hK;obtain ⟨⟨old,st1⟩,st2⟩:=st;obtain ⟨xs,hq,hx⟩:=hg;obtain ⟨its,rv,p,hz⟩:=I.list hq;obtain ⟨f0,f1,f2,f3,f4,f5⟩:=hf it (by simp);have hl:=rv.length;exact wpAny_pyNext_enum_end (I.ok.hd hc) st1 st2 p.isList (by simp; lia) fun h' eb=>⟨rfl,I.turned (t':=s.toks) (fun b o hb e=>eb b o hb e) f0 f1 f3 f4 f5⟩
 self:=fun _ _ _ _ _ st h=>let ⟨⟨_,q⟩,_⟩:=st; wpAny_pyIter_enum q h
section
def Zmx (K:W.Frag) (tl:TA):TI:=fun σ H R=>tl σ H fun vs H1=>∃ a,vs=[.ref a]/\(∃ xs,SqL K H1 a xs)/\R (Ite K a) H1
theorem Zd0 {pt:Pos} {l:Expr} {tl:TA} {p:Pos} (hg:Gl X "enumerate") (hm:X.mg "enumerate"=none) (ha:PA X [l] tl) (hs:starEach [l] X.env=[(false,eval l X.env)]:=by rfl):PI X (.Tuple elts x1 pt) (.Call (.Name "enumerate" p) [l] [] pos) (Zmx X.K tl):=by
 intro pq s σ H R I h;refine Call_ (Sq I hg hm boot_enumerate (PyProof.Rows.callWith_type1 (thn (ha pos pq s σ H _ I h) fun us s1 hz=>?_) hs rfl));obtain ⟨vs,H1,I1,r1,q1⟩:=hz;obtain ⟨a,e,⟨xs,hq⟩,q⟩:=q1;subst e;cases r1 with
 | cons r rr =>
  cases rr;cases r;obtain ⟨its,rv,pl,hz⟩:=I1.list hq;refine call_enumerate_list pl.isList fun h' he hit hsz hk=>?_;have I2:Inv X pq σ H1 { s1 with heap:=h',toks:=s1.toks }:=I1.kept hk;refine wpAny_pyIter_enum he ?_;exists s1.heap.objs.size+1,[s1.heap.objs.size+1,s1.heap.objs.size],_,_,H1,rfl,I2,Zcq a _ _ (Nat.succ_ne_self _),⟨⟨_,he⟩,hit⟩,fun b hb=>?_,q;rcases Ju.mp hb with z | hb
  ·subst z;exact I1.fpOk (Fv _) (I1.hok.fresh (Fv _))
  ·have z:b=s1.heap.objs.size:=by simpa using hb
   subst z;exact I1.fpOk (Jf _) (I1.hok.fresh (Jf _))
end
def Itw (lo:Int) (n:Nat):It:=⟨fun i _=>i<n,fun i H x H'=>H'=H/\x=.int (lo-i),fun i _=>n<=i⟩
theorem Zcr (it:Addr) (lo:Int) (n:Nat):Turn P w K tg (Itw lo n) [it] it (fun i h=>IsRangeIter h it (lo+(i:Nat)*(-1)) ((n:Int)-(i:Nat)) (-1)) where
 mem:=by simp
 obj:=fun i h st b hb=>by
  have e:b=it:=by simpa using hb
  subst e;exact ⟨_,st,fun v z=>by
   have z':Data.fields _=Data.cell v:=z;cases z'⟩
 keep:=fun i h h' st k=>k it (by simp) _ st
 item:=by
  intro X hP hw hK hc i pq s σ H E I hf st hg;subst hP hw hK;obtain ⟨f0,f1,f2,f3,f4,f5⟩:=hf it (by simp);have W:=Walks.range (prog:=X.prog) (w:=X.w) (I.ok.hd hc) it lo (-1) n;refine W.item i s _ _ hg st fun v h' tk hv st' kk=>?_;obtain ⟨t,rfl⟩:=hv;have I1:Inv X pq σ H { s with heap:=h',toks:=tk }:=I.turned (fun b o hb e=>kk b o (by simpa using hb) e) f0 f1 f3 f4 f5;exists ·,Zg4 (s:={ s with heap:=h',toks:=tk }) (n:="range_iterator") st' rfl rfl nofun ⟨.int (lo-i),H,I1,⟨t,?_⟩,⟨rfl,rfl⟩,st',fun b hb=>(hf b hb).1⟩;rw [show lo-(i:Int)=lo+(i:Int)*(-1) by lia]
 done:=by
  intro X hP hw hK hc i pq s σ H E I hf st hg;subst hP hw hK;obtain ⟨f0,f1,f2,f3,f4,f5⟩:=hf it (by simp);exact wpAny_pyNext_range_end (I.ok.hd hc) st (by have:n<=i:=hg; lia) fun h' eb=>⟨rfl,I.turned (t':=s.toks) (fun b o hb e=>eb b o hb e) f0 f1 f3 f4 f5⟩
 self:=fun _ _ _ _ _ st h=>wpAny_pyIter_rangeiter st h
section
def Zdo {R:It->Hp->Prop} {hi:Int} {t u v:Tok} {tk:Nat} (I:Inv X pq σ H s) (h1:-(2 ^ 62)<=lo) (h2:lo<2 ^ 62) (h3:-(2 ^ 62)<=hi) (h4:hi<2 ^ 62)
  (q:R (Itw lo (lo-hi).toNat) H):wpAny (model X.prog X.w) X.A (pyIter (.ref s.heap.objs.size)) (PIE X pq σ tg R) E { s with heap:=s.heap.push { cls:=.type "range",data:=.fields #[.int lo t,.int hi u,.int (-1) v] },toks:=tk }:=by
 refine wpAny_pyIter_range (IsRange.new ..) (W.small_down h1 h2 h3 h4) ?_;have I1:Inv X pq σ H { s with heap:=s.heap.push { cls:=.type "range",data:=.fields #[.int lo t,.int hi u,.int (-1) v] },toks:=tk }:=I.kept fun b o e=>Db _ e;refine ⟨(s.heap.push { cls:=.type "range",data:=.fields #[.int lo t,.int hi u,.int (-1) v] }).objs.size,[(s.heap.push { cls:=.type "range",data:=.fields #[.int lo t,.int hi u,.int (-1) v] }).objs.size],_,_,H,rfl,
  I1.kept (t':=tk) fun b o e=>Db _ e,Zcr _ lo (lo-hi).toNat,?_,fun b hb=>?_,q⟩
 ·have e1:lo+((0:Nat):Int)*(-1)=lo:=by simp
  have e2:(((lo-hi).toNat:Nat):Int)-((0:Nat):Int)=Builtin.Range.rangeSize lo hi (-1):=by rw [W.rangeSize_downNat]; simp
  show IsRangeIter _ _ (lo+((0:Nat):Int)*(-1)) ((((lo-hi).toNat:Nat):Int)-((0:Nat):Int)) (-1);rw [e1,e2];exact Dc _ rfl
 ·have e:b=(s.heap.push { cls:=.type "range",data:=.fields #[.int lo t,.int hi u,.int (-1) v] }).objs.size:=by simpa using hb
  subst e;exact I1.fpOk (Jf _) (I1.hok.fresh (Jf _))
def Zmu (ta:TA):TI:=fun σ H R=>ta σ H fun vs H1=>∃ i j:Int,vs=[.int i,.int j,.int (-1)]/\(-(2 ^ 62)<=i/\i<2 ^ 62/\-(2 ^ 62)<=j/\j<2 ^ 62)/\R (Itw i (i-j).toNat) H1
theorem Pa {a b c:Expr} {ta:TA} {p:Pos} (hg:Gl X "range") (hm:X.mg "range"=none) (ha:PA X [a,b,c] ta) (hs:starEach [a,b,c] X.env=[(false,eval a X.env),(false,eval b X.env),(false,eval c X.env)]:=by rfl) (hs2:starEach [b,c] X.env=[(false,eval b X.env),(false,eval c X.env)]:=by rfl) :
  PI X tg (.Call (.Name "range" p) [a,b,c] [] pos) (Zmu ta):=by
 intro pq s σ H R I h;refine Call_ (Sq I hg hm boot_range (PyProof.Rows.callWith_type1 (thn (ha pos pq s σ H _ I h) fun us s1 hz=>?_) (by rw [hs,hs2]) (by rw [hs2]; rfl)));obtain ⟨vs,H1,I1,r1,q1⟩:=hz;obtain ⟨i,j,e,⟨q1,q2,q3,q4⟩,q⟩:=q1;subst e;cases r1 with
 | cons r rr =>
  cases rr with
  | cons r' rr =>
   cases rr with
   | cons r'' rr =>
    cases rr;obtain ⟨t,rfl⟩:=r;obtain ⟨t',rfl⟩:=r';obtain ⟨t'',rfl⟩:=r'';exact call_range_3 nofun (Zdo I1 q1 q2 q3 q4 q) (.inl (PyProof.noPylong_small (by lia)))
end
theorem Q7 :∀ k,k<=ns.length->preSum (fun i=>(ns[i]?).getD 0) k=(ns.take k).sum
 | 0,_=>rfl
 | k+1,h=>by
  have hk:k<ns.length:=by lia
  rw [preSum,Q7 k (by lia),Jk hk,List.sum_append,Jb hk];simp
section
theorem Vals.int_get :∀ {us:List Value} {i:Nat} {v:Value},Vals (ns.map V.int) us->us[i]?=some v->∃ t,v=.int ((ns[i]?).getD 0) t:=by
 induction ns with
 | nil=>intro us i v r e; cases r; simp at e
 | cons n r ih =>
  intro us i v rv e;rw [Jr] at rv;cases rv with
  | cons r1 r2 =>
   cases i with
   | zero =>
    obtain ⟨t,rfl⟩:=r1;simp at e;exact ⟨t,by rw [<- e]; rfl⟩
   | succ i=>simpa using ih r2 (by simpa using e)
def Zg8 (hc:X.calm=true):Xv X (.builtin "sum") (fun xs H Q=>∃ (p:Addr) (ns:List Int),xs=[.ref p]/\SqL X.K H p (ns.map V.int)/\Q (.int ns.sum) H):=by
 intro pq s σ H xs us Q I r h;obtain ⟨p,ns,rfl,hq,q⟩:=h;obtain ⟨u,rfl,ru⟩:=T0 r;cases ru;obtain ⟨its,rv,pl,hz⟩:=I.list hq;have hlen:=rv.length;rw [Ja] at hlen;have hlt:p<s.heap.objs.size:=by obtain ⟨_,e,_⟩:=pl.isList; exact Dd e
 refine call_sum_walkAnyS (wpAny_pyIter_list pl.isList ?_);refine ⟨s.heap.objs.size,[s.heap.objs.size,p],[s.heap.objs.size],_,its.toArray.size,_,_,fun i=>(ns[i]?).getD 0,rfl,(Walks.list (A:=X.A.in1) (I.ok.hd hc) _ p (Gi hlt) its.toArray).toS,
  ⟨⟨_,Dc _ rfl,rfl,rfl⟩,pl.isList.push _⟩,fun b hb=>?_,fun i v hP=>?_,fun s' t' hm=>?_⟩
 ·rcases Ju.mp hb with e | hb
  ·rw [e]; show _<(s.heap.push _).objs.size; simp [Heap.push]
  ·rw [Je.mp hb]; show _<(s.heap.push _).objs.size; simp only [Heap.push,Array.size_push]; exact Nat.lt_succ_of_lt hlt
 ·exact Vals.int_get rv (by simpa using hP)
 ·rw [Jg,<- hlen,Q7 _ (Jf _),J9];obtain ⟨h1,h2,h3,h4,h5⟩:=hm;have e:s'={ s with heap:=s'.heap,toks:=s'.toks }:=by
   obtain ⟨a1,a2,a3,a4,a5⟩:=s';simp only at h2 h3 h4;subst h2 h3 h4;rfl
  rw [e];exists .int _,H,I.kept (t':=s'.toks) (PyProof.Rows.LSm.kept_iter h1),⟨t',rfl⟩,q
end
end L2
namespace HT
open PySem PySem.Spec PyProof.Rows
section
def Zch (n:Nat):Builtin.Slice.sliceAdjust none none (-1) (n:Int)=((n:Int)-1,-1):=by
 unfold Builtin.Slice.sliceAdjust;simp
theorem Zby (n:Nat):Builtin.Slice.slicePlaces ((n:Int)-1) (-1) (-1)=n:=by
 unfold Builtin.Slice.slicePlaces;simp
 split <;> lia
theorem Zbg {α:Type} {f g:α->Option β}:∀ {l:List α},(∀ x∈l,f x=g x)->l.filterMap f=l.filterMap g
 | [],_=>rfl
 | a::r,h=>by
  rw [B0,B0,h a (Jl ..),Zbg fun x hx=>h x (Jj _ hx)]
def T2 {sl:Addr} {vk:Value} {n:Nat} {Q:Int×Int×Nat->Shared->Prop} (hs:s.heap.IsSliceOf sl .none .none vk) (pk:IsPart vk (some (-1)))
  (h:Q ((n:Int)-1,-1,n) s):wpAny (model prog w) A (Builtin.Slice.sliceApplied (.ref sl) (pure (n:Int))) Q E s:=by
 obtain ⟨os,hos,hcs,hds⟩:=id hs;unfold Builtin.Slice.sliceApplied Builtin.Slice.sliceFields;refine Fz (Fz (wpAny_field hos hds (x:=.none) rfl (Fz (wpAny_field hos hds (x:=.none) rfl (Fz (wpAny_field hos hds (x:=vk) rfl (Da ?_)))))));refine Fz (Ta pk ?_);show wpAny _ _ (if ((-1:Int) == 0)=true then _ else _) _ _ s;rw [De nofun];refine Fz (slicePart_none (Fz (slicePart_none (Fz (Da ?_)))));show wpAny _ _ (match Builtin.Slice.sliceAdjust none none (-1) (n:Int) with | (lo,hi)=>pure (lo,(-1:Int),Builtin.Slice.slicePlaces lo hi (-1))) _ _ s;rw [Zch n];show wpAny _ _ (pure ((n:Int)-1,(-1:Int),Builtin.Slice.slicePlaces ((n:Int)-1) (-1) (-1))) _ _ s
 rw [Zby];exact Da h
theorem Zgm (xs:Array Value):((List.range xs.size).filterMap fun (m:Nat)=>xs[(((xs.size:Int)-1)+(m:Int)*(-1)).toNat]?).toArray=xs.toList.reverse.toArray:=by
 have e:∀ m∈List.range xs.size,xs[(((xs.size:Int)-1)+(m:Int)*(-1)).toNat]?=xs.toList.reverse[m]?:=fun m hm=>by
  have hm:=Bd.mp hm;rw [List.getElem?_reverse (by simpa using hm)];have:(((xs.size:Int)-1)+(m:Int)*(-1)).toNat=xs.toList.length-1-m:=by rw [B1]; lia
  rw [this,Bv]
 congr 1
 rw [Zbg e];have:xs.size=xs.toList.reverse.length:=by simp
 rw [this];generalize xs.toList.reverse=l
 induction l with
 | nil=>rfl
 | cons a r ih=>rw [Jq,List.range_succ_eq_map,B0]; simp only [Fa,List.filterMap_map]; congr 1
def getItem_tuple_rev {t sl:Addr} {vk:Value} {Q:Value->Shared->Prop} (ht:IsTup s.heap t items) (hs:s.heap.IsSliceOf sl .none .none vk) (pk:IsPart vk (some (-1)))
  (h:Q (.ref s.heap.objs.size) { s with heap:=s.heap.push { cls:=.type "tuple",data:=.seq items.toList.reverse.toArray } })
  (hsz:items.size<=sizeLine):wpAny (model prog w) A (getItem (.ref t) (.ref sl)) Q E s:=by
 have htake:sizeOk (.seq items.toList.reverse.toArray):=by
  show items.toList.reverse.toArray.size<=sizeLine;rw [Jg,Br,B1];exact hsz
 obtain ⟨os,hos,hcs,hds⟩:=id hs;have hTs:s.TypeIs (.ref sl) "slice":=⟨os,hos,hcs⟩;unfold getItem
 try with_reducible refine wpAny_holding ?_
 first | refine Fz (Da ?_) | skip
 refine Fz (wpAny_sequenceKey ht.typeIs nofun ?_);refine Fz (wpAny_callSpecial?_slot (name:=Str.ofString "__getitem__") ht.typeIs PyProof.Rows.slot_tuple_getitem
  (wpAny_call_entry PyProof.Rows.slot_tuple_getitem ht.typeIs entry_tuple_getitem ?_ (args_tuple_getitem _ _)))
 show wpAny _ _ (Builtin.Tuple.tupleItemsOf (.ref t) >>= _) _ _ s;refine Fz (tupleItemsOf_ ht ?_);refine Fz (wpAny_typeOf hTs ?_);rw [Df nofun];refine Fz (T2 hs pk ?_);have hno:¬ ((((items.size:Int)-1) == 0 && (-1:Int) == 1 && items.size == items.size)=true):=by simp
 show wpAny _ _ (if (((items.size:Int)-1) == 0 && (-1:Int) == 1 && items.size == items.size)=true then _ else _) _ _ s;rw [De hno,Zgm]
 first
  | exact Fz (m:=Builtin.Tuple.tupleExact _) (wpAny_newObj_type (Da ⟨_,rfl,Da h⟩) htake)
  | exact Fz (m:=Builtin.Tuple.tupleExact _) (wpAny_newObj_type (Fz (Da (Da ⟨_,rfl,Da h⟩))) htake)
  | exact Fz (Fz (m:=Builtin.Tuple.tupleExact _) (wpAny_newObj_type (Da (Da ⟨_,rfl,Da h⟩)) htake))
  | exact Fz (Fz (m:=Builtin.Tuple.tupleExact _) (wpAny_newObj_type (Da ⟨_,rfl,Da h⟩) htake))
end
end HT
namespace L2
open PySem PySem.Spec PyProof.Rows
section
variable {st:Option Expr} {p2:Pos}
def Zk6 (K:W.Frag) (te:TE) (ts:TO):TE:=fun σ H Q=>te σ H fun x H1=>ts σ H1 fun k H2=>k=some (-1)/\∃ a xs,x=.ref a/\SqT K H2 a xs/\∀ p,H2 p=none->Q (.ref p) (upd H2 p (.tup xs.reverse))
theorem Zd2 (he:PE X e te) (hs:PO X st ts) (hsub:∀ o i,∃ ops,subscripted (.Slice none none st p2) false o i=operate ops (getItem o i)):PE X (.Subscript e (.Slice none none st p2) pos) (Zk6 X.K te ts):=by
 intro pq s σ H Q I h;refine Subscript_ (thn (he pq s σ H _ I h) fun v s1 hz=>?_);obtain ⟨x,H1,I1,r1,q1⟩:=hz;refine wpAny_Slice ?_;rw [evalPart_none];refine Da ?_;refine Da ?_;refine thn (hs pq s1 σ H1 _ I1 q1) fun vk s3 hz=>?_;obtain ⟨k,H3,I3,pk,ek,a,xs,ex,hx,q⟩:=hz;subst ek;subst ex;cases r1;have I4:Inv X pq σ H3 { s3 with heap:=s3.heap.push { cls:=.type "slice",data:=.fields #[.none,.none,vk] } }:=I3.kept (t':=s3.toks) fun b ob q=>Db _ q;obtain ⟨its,r,ht,hz⟩:=I4.tuple hx;have hlen:=r.length;show wpAny (model X.prog X.w) X.A (subscriptTail e (.Slice none none st p2) (.ref a) (.ref s3.heap.objs.size)) (EP X pq σ Q) X.xe { s3 with heap:=s3.heap.push { cls:=.type "slice",data:=.fields #[.none,.none,vk] } }
 obtain ⟨ops,hop⟩:=hsub (.ref a) (.ref s3.heap.objs.size);refine tail_any (ops:=ops) ht.typeIs PyProof.Rows.slot_tuple_getitem.lookup ?_ hop;refine HT.getItem_tuple_rev ht (Heap.IsSliceOf.new ..) pk ?_ (by rw [Jg] <;> lia);refine ⟨.ref _,_,I4.laid (t':=s3.toks) (o:=.tup xs.reverse) (fun b ob q=>Db _ q) (Jf _) ?_,rfl,q _ (I4.hok.fresh (Jf _))⟩;exact ⟨by rw [Br]; exact hz,its.reverse,r.reverse,W1.new _ _⟩
end
section
variable {d:Addr} {i:Nat} {od:Obj} {tab:Array DictEntry} {Q:Option Value->Shared->Prop}
theorem Zgr (ki:s.heap.IsKeyIter it d i tab.size ep) (gd:s.heap.get? d=some od) (dd:od.data=.dict tab ep) (lt:i<tab.size)
  (fin:∀ h',h'.IsKeyIter it d (i+1) tab.size ep->Heap.SameBut it s.heap h'->Q (some tab[i].key) { s with heap:=h' }):wpAny (model prog w) A (pyNext (.ref it)) Q E s:=by
 obtain ⟨oi,gi,ci,di⟩:=id ki;have own0:Builtin.Dict_items.ownsTuple "dict_keyiterator"=false:=by decide
 have ng:¬ ((i:Int)<0):=by lia
 unfold pyNext;refine Fz (wpAny_attempt (wpAny_callSpecial?_slot (name:=Str.ofString "__next__") ki.typeIs F.slot_dict_keyiterator_next (wpAny_call_entry F.slot_dict_keyiterator_next ki.typeIs F.entry_dict_keyiterator_next ?_ (F.args_dict_keyiterator_next_1 _))));refine Fz (Da (Fz (Fz ?_)))
 first | refine Fz (wpAny_typeNameOfWhole_keyiter ki.typeIs (Da ?_)) | refine Fz (wpAny_typeNameOf_keyiter ki.typeIs (Da ?_))
 refine Fz (wpAny_fieldsOf gi di ?_);simp only [own0,Gf,if_false];have nn:¬ ((Value.ref d == Value.none)=true):=Jo;refine Eq.mpr (congrArg (fun z=>wpAny (model prog w) _ z _ _ s) (De nn)) ?_;refine Fz (Da (Fz (wpAny_dictEntries gd dd ?_)));rw [De (by simp)];refine Fz (Da (Fz (wpAny_dictEpoch gd dd ?_)));rw [De (by simp)];refine Da ?_;simp only [ng,if_false,Gs,Gm lt];refine Fz ?_
 first | refine Fz (wpAny_typeNameOfWhole_keyiter ki.typeIs (Da ?_)) | refine Fz (wpAny_typeNameOf_keyiter ki.typeIs (Da ?_))
 refine Fz (wpAny_isOneOf_keyiter ki.typeIs ?_);refine Fz (m:=setField (.ref it) 1 (rawInt ((i:Int)+1))) (wpAny_setField gi di (by simp) ?_);have ki2:(s.heap.update it (Obj.mapFields (·.setIfInBounds 1 (rawInt ((i:Int)+1))))).IsKeyIter it d (i+1) tab.size ep :=
  ⟨_,Heap.get?_update_self _ gi (Obj.isFreed_of_fields (Obj.data_mapFields di _)),(Obj.cls_mapFields ..).trans ci,by rw [Obj.data_mapFields di]; simp [rawInt]⟩
 refine Fz (wpAny_holding (Fz (wpAny_isOneOf_keyiter (s:={ s with heap:=s.heap.update it (Obj.mapFields (·.setIfInBounds 1 (rawInt ((i:Int)+1)))) }) ki2.typeIs ?_)));show wpAny _ _ (pure tab[i].key) _ _ _;exact Da (Da ⟨_,rfl,Da (fin _ ki2 (Heap.SameBut.update ..))⟩)
theorem Zjp (calm:A.handled=none) (ki:s.heap.IsKeyIter it d i tab.size ep) (gd:s.heap.get? d=some od) (dd:od.data=.dict tab ep) (ge:tab.size<=i)
  (fin:∀ h',Heap.ExtBut it s.heap h'->Q none { s with heap:=h' }):wpAny (model prog w) A (pyNext (.ref it)) Q E s:=by
 obtain ⟨oi,gi,ci,di⟩:=id ki;have own0:Builtin.Dict_items.ownsTuple "dict_keyiterator"=false:=by decide
 have ng:¬ ((i:Int)<0):=by lia
 have nn:¬ ((Value.ref d == Value.none)=true):=Jo;unfold pyNext;refine Fz (wpAny_attempt (wpAny_callSpecial?_slot (name:=Str.ofString "__next__") ki.typeIs F.slot_dict_keyiterator_next (wpAny_call_entry F.slot_dict_keyiterator_next ki.typeIs F.entry_dict_keyiterator_next ?_ (F.args_dict_keyiterator_next_1 _))));refine Fz (Da (Fz (Fz ?_)))
 first | refine Fz (wpAny_typeNameOfWhole_keyiter ki.typeIs (Da ?_)) | refine Fz (wpAny_typeNameOf_keyiter ki.typeIs (Da ?_))
 refine Fz (wpAny_fieldsOf gi di ?_);simp only [own0,Gf,if_false];refine Eq.mpr (congrArg (fun z=>wpAny (model prog w) _ z _ _ s) (De nn)) ?_;refine Fz (Da (Fz (wpAny_dictEntries gd dd ?_)));rw [De (by simp)];refine Fz (Da (Fz (wpAny_dictEpoch gd dd ?_)));rw [De (by simp)];refine Da ?_;simp only [ng,if_false,Gs,Bp ge];refine Fz ?_
 first | refine Fz (wpAny_typeNameOfWhole_keyiter ki.typeIs (Da ?_)) | refine Fz (wpAny_typeNameOf_keyiter ki.typeIs (Da ?_))
 refine Fz (m:=setField (.ref it) 0 .none) (wpAny_setField gi di (by simp) ?_);refine Fz (m:=newExc (.type "StopIteration") []) ?_;simp only [newExc,newTuple];refine Fz (wpAny_newObj_type (Fz (m:=firstArgMember _ _) (wpAny_of_eq (a:=Value.none) (by first | rfl | (simp only [firstArgMember]; rfl)) (wpAny_newObj_type ?_ (by size_fits)))) (by size_fits));simp only [raiseNew];refine Fz (wpAny_handled ?_);rw [show A.in1.handled=none from calm];refine Fz (m:=_) (Da (wpAny_throw ?_));refine Fz (m:=_) (wpAny_isInstance (T:="StopIteration") (b:=true) ⟨_,Dc _ rfl,rfl⟩ isSubtype_stop ?_);exact Da (fin _ (((Heap.SameBut.update ..).extBut.push _).push _))
end
def Zj1 {d:Addr} {od:Obj} {tab:Array DictEntry} {Q:Value->Shared->Prop} (hd:(d == sysModules)=false) (gd:s.heap.get? d=some od) (ex:od.ExactDict) (dd:od.data=.dict tab ep)
  (fin:Q (.ref s.heap.objs.size) { s with heap:=s.heap.push { cls:=.type "dict_keyiterator",data:=.fields #[.ref d,.int 0 0,.int tab.size 0,.int ep 0] } }):wpAny (model prog w) A (pyIter (.ref d)) Q E s:=by
 have ty:s.TypeIs (.ref d) "dict":=⟨od,gd,ex.1⟩;refine wpAny_pyIter_slot ty F.slot_dict_iter (wpAny_call_entry F.slot_dict_iter ty F.entry_dict_iter ?_ (F.args_dict_iter_1 _));unfold Builtin.«dict.__iter__»;refine Fz (m:=Builtin.Dict.dictSlotNone _ _) ?_;unfold Builtin.Dict.dictSlotNone;refine Fz (wpAny_notOrdered_dict ty (Da (a:=Value.ref d) ?_));refine Fz (m:=Builtin.Dict.showsAll d) ?_;unfold Builtin.Dict.showsAll;rw [De (by rw [hd]; exact Jo)];refine Da (Fz (wpAny_dictEntries gd dd ?_));refine Fz (wpAny_dictEpoch gd dd ?_);refine Fz (wpAny_newObj_type (Da ⟨_,rfl, "dict_keyiterator",_,⟨_,Dc _ rfl,rfl⟩,F.slot_dict_keyiterator_next.lookup,?_⟩))
 simpa [rawInt] using fin
def Zjz {d:Addr} {od:Obj} {tab:Array DictEntry} (lo:(d == sysModules)=false) (ex:od.ExactDict) (dd:od.data=.dict tab ep) :
  W.KdlSrc prog w "dict" d d tab.size (fun i v=>∃ h:i<tab.size,v=tab[i].key) (fun h=>h.get? d=some od) where
 type:=fun _ ok=>⟨od,ok,ex.1⟩
 there:=fun _ ok=>⟨Dd ok,Dd ok⟩
 keep:=fun _ _ ok hk=>hk d (.inl rfl) od ok
 notList:=by decide
 notTuple:=by decide
 hint:=fun _ _ _ _ ok hq=>W.kdl_hint_dict ⟨od,ok,ex.1⟩ hq
 iter:=fun A s hh ok=>⟨{ cls:=.type "dict_keyiterator",data:=.fields #[.ref d,.int 0 0,.int tab.size 0,.int ep 0] },fun i h=>h.IsKeyIter s.heap.objs.size d i tab.size ep/\h.get? d=some od,
  fun _ _ hq=>Zj1 lo ok ex dd hq,
  {
   sub:=fun b hb=>by rw [Je.mp hb]; exact Jl
   frame:=fun i h h' st k=>⟨by obtain ⟨⟨o,e,r⟩,_⟩:=st; exact ⟨o,k _ Jl o e,r⟩,k d (Jj _ Jl) od st.2⟩
   item:=fun i s' Q E hi st hQ=>Zgr st.1 st.2 dd hi fun h' ki sb=>by
    have:=hQ tab[i].key h' s'.toks ⟨hi,rfl⟩ ⟨ki,(sb.2 d (Gi (Dd ok))).trans st.2⟩ fun b o hb e=>(sb.2 b (fun z=>hb (by rw [z]; exact Je.mpr rfl))).trans e;exact this
   done:=fun s' Q E st hQ=>Zjp hh st.1 st.2 dd (Jf _) fun h' eb=>hQ h' s'.toks fun b o hb e=>eb b o (fun z=>hb (by rw [z]; exact Je.mpr rfl)) e
   self:=fun i s' Q E st hq=>wpAny_pyIter_keyiter st.1 hq },
  ⟨⟨_,Dc _ rfl,rfl,rfl⟩,Db _ ok⟩⟩
end L2
namespace L2
open PySem PySem.W PyProof.Rows HT PySem.Calls
section
theorem We:∀ {ns:List Int} {vs:List Value},Vals (ns.map V.int) vs->IntsAre vs ns
 | [],_,h=>by cases h; exact .nil
 | a::r,_,h=>by
  cases h with
  | cons h1 h2=>obtain ⟨t,e⟩:=h1; subst e; exact .cons a t (We h2)
end
end L2
namespace L2
open PySem PySem.W PySem.Spec PyProof.Rows
section
def Zl0 (K:W.Frag):R2:=fun x y H Q=>∃ a b ys,x=.ref a/\y=.ref b/\SqT K H a []/\SqT K H b ys/\Q (.ref b) H
def Zjm:OpR X (binaryOp .Add) (Zl0 X.K):=by
 intro pq s σ H x y v u Q I rx ry h;obtain ⟨a,b,ys,rfl,rfl,ha,hb,q⟩:=h;cases rx;cases ry;obtain ⟨its,r1,p1,_⟩:=I.tuple ha;obtain ⟨its2,r2,p2,_⟩:=I.tuple hb;cases r1;obtain ⟨⟨cls,dd,data,sl⟩,ho,hc,n,hd⟩:=id p1;obtain ⟨⟨cls2,dd2,data2,sl2⟩,ho2,hc2,n2,hd2⟩:=id p2;simp only at hc hd hc2 hd2;subst hc hd hc2 hd2;exact concat_meets ⟨_,ho,rfl⟩ ⟨_,ho2,rfl⟩ noFill_tuple_add seq_tuple_add PySem.F.slot_tuple_add PySem.F.entry_tuple_add (PySem.F.args_tuple_add_2 _ _)
  (tuple_addW0 a b _ its2.toArray n n2 dd dd2 sl sl2 rfl) ⟨ho,ho2,⟨.ref b,H,I,rfl,q⟩⟩
end
end L2
namespace L2
open PySem PySem.Spec PyProof.Rows
section
def Inv.turnedL (I:Inv X pq σ H s) (k:∀ b o,b∉ch->s.heap.get? b=some o->h'.get? b=some o) (f:∀ b∈ch,FpOk X pq H b):Inv X pq σ H { s with heap:=h',toks:=t' }:=by
 have ne:∀ b u,H b=some u->b∉ch:=fun b u q z=>by rw [(f b z).1] at q; cases q
 refine I.step (g':=s.gens) (d':=s.drawn) (ch:=ch) (fun b hb=>?_) (fun b o _ _ hc q _=>k b o hc q) (fun b o _ _ hc q _=>⟨o.slots,k b o hc q⟩) (fun _ _ _ _ n=>n)
  (fun b o hc q=>⟨o,k b o hc q⟩) (fun _ _ q=>q) (fun _ _ _ q=>q) (fun b ps q=>⟨#[],by rw [q]; simp⟩) (fun m hm=>?_) (fun b u q=>?_) I.bare
 ·obtain ⟨f0,f1,f2,f3,f4,f5⟩:=f b hb;exists f3,f1,f4,f5
 ·obtain ⟨o,es,ep,ho,r⟩:=hm;exists o,es,ep,k _ o (fun z=>(f _ z).2.1 rfl) ho,r
 ·refine (I.hok b u q).stay (fun c v hc q'=>k c v ?_ q') (fun _ q=>q) fun _ _ q=>q;rcases hc with z | z
  ·rw [z]; exact ne b u q
  ·exact ne c _ z
end
def Itz (K:W.Frag) (a b:Addr):It :=
  ⟨fun i H=>∃ xs ys x y,SqL K H a xs/\SqL K H b ys/\xs[i]?=some x/\ys[i]?=some y,
   fun i H v H'=>∃ (t:Addr) (x y:V),v=.ref t/\H t=none/\H'=upd H t (.tup [x,y])/\(∀ xs,SqL K H a xs->xs[i]?=some x)/\∀ ys,SqL K H b ys->ys[i]?=some y,
   fun i H=>∃ xs ys,SqL K H a xs/\SqL K H b ys/\(xs.length<=i\/ys.length<=i)⟩
theorem Zf7 (a b z TI TO i1 i2:Addr) (D:ZipApart z TI TO i1 i2 a b):Turn P w K (.Tuple elts x1 pos) (Itz K a b) [z,TI,TO,i1,i2] z
  (fun i h=>IsZip h z TI TO .none/\IsPair h TI (.ref i1) (.ref i2)/\(∃ u v,IsPair h TO u v)/\h.IsListIter i1 a i/\h.IsListIter i2 b i) where
 mem:=by simp
 obj:=fun i h st c hc=>by
  obtain ⟨hz,hTI,⟨u,v,hTO⟩,⟨o1,e1,c1,d1⟩,⟨o2,e2,c2,d2⟩⟩:=st;simp only [Ju,Gw,or_false] at hc;rcases hc with rfl | rfl | rfl | rfl | rfl
  ·exact ⟨_,hz,fun v z=>by cases z⟩
  ·exact ⟨_,hTI,fun v z=>by cases z⟩
  ·exact ⟨_,hTO,fun v z=>by cases z⟩
  ·exact ⟨o1,e1,fun v z=>by rw [d1] at z; cases z⟩
  ·exact ⟨o2,e2,fun v z=>by rw [d2] at z; cases z⟩
 keep:=fun i h h' st k=>by
  obtain ⟨hz,hTI,⟨u,v,hTO⟩,h1,h2⟩:=st;exists k z (by simp) _ hz,k TI (by simp) _ hTI,⟨u,v,k TO (by simp) _ hTO⟩,h1.at fun o q=>k i1 (by simp) o q,h2.at fun o q=>k i2 (by simp) o q
 item:=by
  intro X hP hw hK hc i pq s σ H E I hf st hg;subst hP hw hK;obtain ⟨hz,hTI,⟨u,v,hTO⟩,h1,h2⟩:=st;obtain ⟨xs,ys,x,y,hq,hr,hx,hy⟩:=hg;obtain ⟨its,rv,p,_⟩:=I.list hq;obtain ⟨its2,rv2,p2,_⟩:=I.list hr;obtain ⟨ux,hu,ru⟩:=rv.get hx;obtain ⟨uy,hu2,ru2⟩:=rv2.get hy;refine wpAny_pyNext_zip_item D hz hTI hTO h1 h2 p.isList p2.isList (x:=ux) (y:=uy) (by simpa using hu) (by simpa using hu2) fun hp1 a1 a2 a3 a4 a5 a6 a7=>?_;exists ·,wpAny_letOwnedTupleGo_zip a1 fun hp2 b1 sb=>?_
  replace sb:Heap.SameBut z hp1 hp2:=sb
  have lt:∀ c∈[z,TI,TO,i1,i2],c<s.heap.objs.size:=fun c hc=>by
   simp only [Ju,Gw,or_false] at hc;rcases hc with rfl | rfl | rfl | rfl | rfl
   ·exact Dd hz
   ·exact Dd hTI
   ·exact Dd hTO
   ·obtain ⟨_,q,_⟩:=h1; exact Dd q
   ·obtain ⟨_,q,_⟩:=h2; exact Dd q
  have fr:H s.heap.objs.size=none:=I.fresh;have Il:Inv X pq σ (upd H s.heap.objs.size (.tup [x,y])) { s with heap:=s.heap.push { cls:=.type "tuple",data:=.seq #[ux,uy] },toks:=s.toks }:=I.laid (fun b o q=>Db _ q) (Jf _)
   ⟨by show 2<=sizeLine; decide,[ux,uy],.cons ru (.cons ru2 .nil),⟨_,Dc _ rfl,rfl,_,rfl,rfl⟩⟩
  have up:∀ c∈[z,TI,TO,i1,i2],FpOk X pq (upd H s.heap.objs.size (.tup [x,y])) c:=fun c hc=>by
   obtain ⟨f0,f⟩:=hf c hc;exists ?_,f;rw [Z4 (Gi (lt c hc))];exact f0
  have I2:Inv X pq σ (upd H s.heap.objs.size (.tup [x,y])) { s with heap:=hp2,toks:=s.toks }:=by
   refine Inv.turnedL (s:={ s with heap:=s.heap.push { cls:=.type "tuple",data:=.seq #[ux,uy] },toks:=s.toks }) (h':=hp2) (t':=s.toks) (ch:=[z,TI,TO,i1,i2]) Il (fun c o hc q=>?_) up;simp only [Ju,Gw,or_false,not_or] at hc;rcases Heap.get?_push_cases q with ⟨z1,z2⟩ | q
   ·subst z1 z2;exact (sb.2 _ hc.1).trans a5
   ·exact (sb.2 _ hc.1).trans (a7 c o hc.1 hc.2.2.1 hc.2.2.2.1 hc.2.2.2.2 q)
  refine ⟨.ref s.heap.objs.size,_,I2,rfl,⟨_,x,y,rfl,fr,rfl,fun zs hz'=>by rw [I.list_inj hz' hq]; exact hx,fun zs hz'=>by rw [I.list_inj hz' hr]; exact hy⟩,
   ⟨b1,(sb.2 TI D.TIz).trans (a7 _ _ D.TIz D.TITO D.TIi1 D.TIi2 hTI),⟨_,_,(sb.2 TO D.TOz).trans a2⟩,a3.at fun o q=>(sb.2 i1 D.i1z).trans q,a4.at fun o q=>(sb.2 i2 D.i2z).trans q⟩,fun c hc=>(up c hc).1⟩
 done:=by
  intro X hP hw hK hc i pq s σ H E I hf st hg;subst hP hw hK;obtain ⟨hz,hTI,⟨u,v,hTO⟩,h1,h2⟩:=st;obtain ⟨xs,ys,hq,hr,hx⟩:=hg;obtain ⟨its,rv,p,_⟩:=I.list hq;obtain ⟨its2,rv2,p2,_⟩:=I.list hr;have l1:=rv.length;have l2:=rv2.length;refine wpAny_pyNext_zip_end (I.ok.hd hc) D hz hTI hTO h1 h2 p.isList p2.isList (by simp; lia) fun hp1 kp=>⟨rfl,?_⟩;refine I.turnedL (t':=s.toks) (ch:=[z,TI,TO,i1,i2]) (fun c o hc q=>?_) hf;simp only [Ju,Gw,or_false,not_or] at hc;exact kp c o hc.1 hc.2.2.1 hc.2.2.2.1 hc.2.2.2.2 q
 self:=fun _ _ _ _ _ st h=>wpAny_pyIter_zip st.1 h
section
def iZip (K:W.Frag) (tl:TA):TI:=fun σ H R=>tl σ H fun vs H1=>∃ a b,vs=[.ref a,.ref b]/\(∃ xs,SqL K H1 a xs)/\(∃ ys,SqL K H1 b ys)/\R (Itz K a b) H1
theorem Zl2 {pt:Pos} {l r:Expr} {tl:TA} {p:Pos} (hg:Gl X "zip") (hm:X.mg "zip"=none) (ha:PA X [l,r] tl) (hs:starEach [l,r] X.env=[(false,eval l X.env),(false,eval r X.env)]:=by rfl) (hs2:starEach [r] X.env=[(false,eval r X.env)]:=by rfl):PI X (.Tuple elts x1 pt) (.Call (.Name "zip" p) [l,r] [] pos) (iZip X.K tl):=by
 intro pq s σ H R I h;refine Call_ (Sq I hg hm boot_zip (PyProof.Rows.callWith_type1 (thn (ha pos pq s σ H _ I h) fun us s1 hz=>?_) (by rw [hs,hs2]) (by rw [hs2]; rfl)));obtain ⟨vs,H1,I1,r1,q1⟩:=hz;obtain ⟨a,b,e,⟨xs,hq⟩,⟨ys,hr⟩,q⟩:=q1;subst e;cases r1 with
 | cons r rr =>
  cases rr with
  | cons r' rr =>
   cases rr;cases r;cases r';obtain ⟨its,rv,pl,_⟩:=I1.list hq;obtain ⟨its2,rv2,pl2,_⟩:=I1.list hr;refine call_zip_2 pl.isList pl2.isList fun hp1 c1 c2 c3 c4 c5 c6 c7=>?_;have I2:Inv X pq σ H1 { s1 with heap:=hp1,toks:=s1.toks }:=I1.kept c7;refine wpAny_pyIter_zip c1 ?_;have la:a<s1.heap.objs.size:=by obtain ⟨o,e,_⟩:=pl.isList; exact Dd e
   have lb:b<s1.heap.objs.size:=by obtain ⟨o,e,_⟩:=pl2.isList; exact Dd e
   refine ⟨s1.heap.objs.size+4,[s1.heap.objs.size+4,s1.heap.objs.size+2,s1.heap.objs.size+3,s1.heap.objs.size,s1.heap.objs.size+1],_,_,H1,rfl,I2,Zf7 a b _ _ _ _ _ (zipApart_new la lb),⟨c1,c2,⟨_,_,c3⟩,c4,c5⟩,fun c hc=>?_,q⟩;have hle:s1.heap.objs.size<=c:=by
    simp only [Ju,Gw,or_false] at hc;rcases hc with rfl | rfl | rfl | rfl | rfl <;> lia
   exact I1.fpOk hle (I1.hok.fresh hle)
end
section
def rInD (K:W.Frag):R2:=fun x y H Q=>∃ (p:Addr) (ys:List V) (ds:List PyData) (d:PyData),y=.ref p/\SqL K H p ys/\DVs K H ys ds/\DV K H x d/\PyData.canLayAll0 ds=true/\d.canLay0=true/\d.depth<=60/\Q (.bl (ds.any fun z=>PyData.eqv z d)) H
theorem Zmb (hu:X.A.units+64<cLine):OpR X (compareOp .In) (rInD X.K):=by
 intro pq s σ H x y v u Q I rx ry h;obtain ⟨p,ys,ds,d,rfl,hq,hd,hy,c1,c2,dd,q⟩:=h;cases ry;obtain ⟨its,rv,pl,_⟩:=I.list hq;obtain ⟨as,ra⟩:=dvs_reads I hd rv;obtain ⟨bs,rb⟩:=Xp I hy rx;refine SeqAt.in_listAt (fun y=>PyData.eqv (SeqAt.readOf s.heap y) d) pl.isList (SeqAt.items_eqAt (by simpa using ra) rb c1 c2 (by have:=Nat.min_le_right (PyData.depthAll ds) d.depth; lia)) ⟨.bl _,H,I,rfl,?_⟩;have em:=SeqAt.readsAll_map ds its as c1 ra;have ec:its.any (fun y=>PyData.eqv (SeqAt.readOf s.heap y) d)=ds.any fun z=>PyData.eqv z d:=by
  rw [<- em,List.any_map];rfl
 rw [show its.toArray.any (fun y=>PyData.eqv (SeqAt.readOf s.heap y) d)=its.any (fun y=>PyData.eqv (SeqAt.readOf s.heap y) d) by simp,ec];exact q
end
end L2
namespace L2
open PySem PySem.W PyProof.Rows HT PySem.Calls
def LtAt (A:Around) (s:Shared) (u v:Value) (b:Bool):Prop:=∀ (prog:Program) (w:World) (E:Value->Shared->Prop) (Q:Value->Shared->Prop),Q (.bool b) s->wpAny (model prog w) A (compareOp .Lt u v) Q E s
def lexN:(Nat->Bool×Bool)->Nat->Nat->Bool
 | _,0,n=>decide (0<n)
 | _,_+1,0=>false
 | z,m+1,n+1=>if (z 0).1 then lexN (fun j=>z (j+1)) m n else (z 0).2
section
def LtAt.int (i j:Int) (t u:Tok):LtAt A s (.int i t) (.int j u) (decide (i<j)):=fun prog w E Q h=>wpAny_lt_int h
def U9 {xs ys:List Value} {z:Nat->Bool×Bool} {a b:Addr} {oa ob:Obj} {na nb:Nat} {P:PySem.Fin->Shared->Prop} (ha:s.heap.get? a=some oa) (da:oa.data=.seq xs.toArray na) (hb:s.heap.get? b=some ob) (cb:ob.cls=.type "tuple") (db:ob.data=.seq ys.toArray nb)
  (hz:∀ (j:Nat) (h1:j<xs.length) (h2:j<ys.length),SeqAt.EqAt A s xs[j] ys[j] (z j).1/\LtAt A s xs[j] ys[j] (z j).2) (h:P (.done (.ret (.bool (lexN z xs.length ys.length)))) s):wpAny (model prog w) A (Builtin.«tuple.__lt__» ⟨[.ref a,.ref b],[]⟩) P E s:=by
 show wpAny _ _ (isInstance (.ref b) (.type "tuple") >>= _) _ _ s;refine Fz (wpAny_isInstance ⟨ob,hb,cb⟩ isSubtype_tuple_tuple ?_);simp only [B3,Gf,if_false];refine Fz (wpAny_tupleItemsOf ha da ?_);refine Fz (wpAny_tupleItemsOf hb db ?_);refine Fz ?_;simp only [List.toList_toArray];refine wpAny_forIn_list _
  (fun rest r s'=>r.1=none/\s'=s/\∃ (xs' ys':List Value) (z':Nat->Bool×Bool),rest=List.zip xs' ys'/\(∀ (j:Nat) (h1:j<xs'.length) (h2:j<ys'.length),SeqAt.EqAt A s xs'[j] ys'[j] (z' j).1/\LtAt A s xs'[j] ys'[j] (z' j).2)/\lexN z' xs'.length ys'.length=lexN z xs.length ys.length/\decide (xs'.length<ys'.length)=decide (xs.length<ys.length))
  _ ?_ ?_ _ _ ⟨rfl,rfl,xs,ys,z,rfl,hz,rfl,rfl⟩
 ·rintro ⟨u,v⟩ rest r s' ⟨hr,rfl,xs',ys',z',hq,hz',hdec,hlen⟩;cases xs' with
  | nil=>simp at hq
  | cons x xs'' =>
   cases ys' with
   | nil=>simp at hq
   | cons y ys'' =>
    simp only [List.zip_cons_cons,List.cons.injEq,Prod.mk.injEq] at hq;obtain ⟨⟨rfl,rfl⟩,rfl⟩:=hq;obtain ⟨h1,h2⟩:=hz' 0 (Fe _) (Fe _);refine Fz (h1 _ _ _ _ ?_);rw [Jq,Jq,lexN] at hdec;cases e:(z' 0).1 with
    | true =>
     rw [e,Df rfl] at hdec;simp only [B3,Gf,if_false];exact Da ⟨rfl,rfl,_,_,fun j=>z' (j+1),rfl,fun j g1 g2=>hz' (j+1) (Nat.succ_lt_succ g1) (Nat.succ_lt_succ g2),hdec,by simpa using hlen⟩
    | false =>
     rw [e,De nofun] at hdec;simp only [Bool.not_false,if_true];refine Fz (wpAny_rule ?_);refine Fz (h2 _ _ _ _ ?_);rw [<- hdec] at h;exact Fz (Da (Da (Da h)))
 ·rintro ⟨r1,r2⟩ s' ⟨hr,rfl,xs',ys',z',hq,hz',hdec,hlen⟩;simp only at hr;subst hr;refine Da ?_;have hfin:Builtin.Tuple.tupleCompareSizes CmpOp.Lt xs.toArray.size ys.toArray.size=.bool (lexN z xs.length ys.length):=by
   show Value.bool (decide (xs.toArray.size<ys.toArray.size))=_;rw [Jg,Jg,<- hlen,<- hdec];cases xs' with
   | nil=>rfl
   | cons _ _ =>
    cases ys' with
    | nil=>rw [Jq,Bz,lexN]; simp
    | cons _ _=>simp at hq
  rw [hfin];exact h
def LtAt.tup {xs ys:List Value} {z:Nat->Bool×Bool} {a b:Addr} {oa ob:Obj} {na nb:Nat} (hu:A.units<cLine) (ha:s.heap.get? a=some oa) (ca:oa.cls=.type "tuple") (da:oa.data=.seq xs.toArray na) (hb:s.heap.get? b=some ob) (cb:ob.cls=.type "tuple") (db:ob.data=.seq ys.toArray nb)
  (hz:∀ (j:Nat) (h1:j<xs.length) (h2:j<ys.length),SeqAt.EqAt A.in1 s xs[j] ys[j] (z j).1/\LtAt A.in1 s xs[j] ys[j] (z j).2):LtAt A s (.ref a) (.ref b) (lexN z xs.length ys.length):=fun prog w E Q h =>
 wpAny_richCompare_same_room (op:=.Lt) ⟨oa,ha,ca⟩ ⟨ob,hb,cb⟩ F.slot_tuple_lt (wpAny_call_entry F.slot_tuple_lt ⟨oa,ha,ca⟩ F.entry_tuple_lt (U9 ha da hb cb db hz ⟨_,rfl,(fun e=>nomatch e),h⟩) (F.args_tuple_lt_2 _ _)) hu
end
end L2
namespace PySem.SeqAt
open AutoSeq1 (wpAny_loadPart')
open MeetsSeq MeetsSeq2 MeetsSeq3 SeqRoads2
theorem Zej (l b:Addr) (items items2:Array Value) (n n2:Nat) (dd dd2:Option Addr) (sl sl2:Array (Option Value)) (k:Nat) :
  ∀ (i:Nat) (z:Nat->Bool×Bool),items.size-i=k->i<=items.size->i<=items2.size->Meets (Builtin.«list.__eq__.loop» ⟨[.ref l,.ref b,rawInt i,rawInt 0],[]⟩)
   (fun A R s=>s.heap.get? l=some { cls:=.type "list",dict:=dd,data:=.seq items n,slots:=sl }/\s.heap.get? b=some { cls:=.type "list",dict:=dd2,data:=.seq items2 n2,slots:=sl2 } /\
    (∀ j (h1:i+j<items.size) (h2:i+j<items2.size),EqAt A.in1 s items[i+j] items2[i+j] (z j).1/\L2.LtAt A.in1 s items[i+j] items2[i+j] (z j).2) /\
    R (.ok (.ret (.bool (L2.lexN z (items.size-i) (items2.size-i))))) s):=by
 induction k with
 | zero =>
  intro i z hk hi hi' prog w A R s h;obtain ⟨hp,g,d,tk,os⟩:=s; obtain ⟨hl,hb,he,h⟩:=h
  wp_walk using wpAny_loadPart' hl,wpAny_loadPart' hb
  have hi1:items[((i:Nat):Int).toNat]?=none:=by simp; lia
  rw [hi1]
  wp_walk using wpAny_loadPart' hl,wpAny_loadPart' hb
  show R (.ok (.ret (.bool (decide (items.size<items2.size))))) _;rw [show items.size-i=0 by lia,L2.lexN] at h;rw [show decide (items.size<items2.size)=decide (0<items2.size-i) from decide_eq_decide.mpr (by lia)];exact h
 | succ k ih =>
  intro i z hk hi hi' prog w A R s h;obtain ⟨hp,g,d,tk,os⟩:=s; obtain ⟨hl,hb,he,h⟩:=h
  wp_walk using wpAny_loadPart' hl,wpAny_loadPart' hb
  have hlt:i<items.size:=by lia
  have hi1:items[((i:Nat):Int).toNat]?=some items[i]:=by simp [hlt]
  have hc:((i:Int)+1)=((i+1:Nat):Int):=by push_cast; rfl
  by_cases hlt2:i<items2.size
  ·have hi2:items2[((i:Nat):Int).toNat]?=some items2[i]:=by simp [hlt2]
   rw [show items.size-i=(items.size-(i+1))+1 by lia,show items2.size-i=(items2.size-(i+1))+1 by lia,L2.lexN] at h;obtain ⟨h1,h2⟩:=he 0 hlt hlt2;rw [hi1,hi2];refine Fz (h1 prog w _ _ ?_);cases hb':(z 0).1 with
   | true =>
    rw [hb',Df rfl] at h
    wp_walk
    rw [hc];exact ⟨plainId_quiet plain_eq_loop _,codeAny_builtin entry_eq_loop (by
     rw [Around.under_plainId plain_eq_loop _];exact ih (i+1) (fun j=>z (j+1)) (by lia) (by lia) (by lia) prog w A R _ ⟨hl,hb,fun j g1 g2=>by
      have:=he (j+1) (by lia) (by lia);simpa only [Nat.add_comm 1 j,<- Nat.add_assoc,Nat.add_right_comm i 1 j] using this,h⟩)⟩
   | false =>
    rw [hb',De nofun] at h
    wp_walk using wpAny_loadPart' hl,wpAny_loadPart' hb
    rw [hi1,hi2];refine Fz (h2 prog w _ _ ?_)
    wp_walk
    exact h
  ·have hi2:items2[((i:Nat):Int).toNat]?=none:=by simp; lia
   rw [hi1,hi2]
   wp_walk using wpAny_loadPart' hl,wpAny_loadPart' hb
   show R (.ok (.ret (.bool (decide (items.size<items2.size))))) _;rw [show items.size-i=(items.size-(i+1))+1 by lia,show items2.size-i=0 by lia,L2.lexN] at h;rw [Dh (show ¬ items.size<items2.size by lia)];exact h
theorem list_ltAt (l b:Addr) (items items2:Array Value) (n n2:Nat) (dd dd2:Option Addr) (sl sl2:Array (Option Value)) (z:Nat->Bool×Bool) :
  Meets (Builtin.«list.__lt__» ⟨[.ref l,.ref b],[]⟩)
   (fun A R s=>s.heap.get? l=some { cls:=.type "list",dict:=dd,data:=.seq items n,slots:=sl }/\s.heap.get? b=some { cls:=.type "list",dict:=dd2,data:=.seq items2 n2,slots:=sl2 } /\
    (∀ j (h1:j<items.size) (h2:j<items2.size),EqAt A.in1 s items[j] items2[j] (z j).1/\L2.LtAt A.in1 s items[j] items2[j] (z j).2) /\
    R (.ok (.ret (.bool (L2.lexN z items.size items2.size)))) s):=by
 intro prog w A R s h;obtain ⟨hp,g,d,tk,os⟩:=s; obtain ⟨hl,hb,he,h⟩:=h;have f3:=AutoSeq1.sub_list_list
 wp_walk using wpAny_loadPart' hl,wpAny_loadPart' hb
 exact ⟨plainId_quiet plain_eq_loop _,codeAny_builtin entry_eq_loop (by
  rw [Around.under_plainId plain_eq_loop _];refine Zej l b items items2 n n2 dd dd2 sl sl2 _ 0 z rfl (Jv _) (Jv _) prog w A R _ ⟨hl,hb,fun j h1 h2=>?_,h⟩;have:=he j (by lia) (by lia);simpa only [Nat.zero_add] using this)⟩
end PySem.SeqAt
namespace L2
open PySem PySem.W PyProof.Rows HT PySem.Calls
section
def LtAt.lst {items items2:Array Value} {z:Nat->Bool×Bool} {l b:Addr} (hl:s.heap.IsList l items) (hb:s.heap.IsList b items2) (hu:A.units<cLine)
  (hz:∀ (j:Nat) (h1:j<items.size) (h2:j<items2.size),SeqAt.EqAt A.in1 s items[j] items2[j] (z j).1/\LtAt A.in1 s items[j] items2[j] (z j).2):LtAt A s (.ref l) (.ref b) (lexN z items.size items2.size):=fun prog w E Q h=>by
 obtain ⟨⟨cls,dd,data,sl⟩,ho,hc,n,hd⟩:=id hl;obtain ⟨⟨cls2,dd2,data2,sl2⟩,ho2,hc2,n2,hd2⟩:=id hb;simp only at hc hd hc2 hd2;subst hc hd hc2 hd2;exact richCompare_meets_room (op:=.Lt) ⟨_,ho,rfl⟩ ⟨_,ho2,rfl⟩ F.slot_list_lt F.entry_list_lt (F.args_list_lt_2 _ _) (SeqAt.list_ltAt l b items items2 n n2 dd dd2 sl sl2 z)
  ⟨ho,ho2,hz,show Value.bool (lexN z items.size items2.size)≠Value.notImplemented/\Q (.bool (lexN z items.size items2.size)) s from ⟨(fun x=>nomatch x),h⟩⟩ hu
end
def Xj (lt:Nat->Nat->Bool):Nat->Nat
 | 0=>0
 | n+1=>if lt (n+1) (Xj lt n) then n+1 else Xj lt n
theorem Za9 (lt:Nat->Nat->Bool):∀ n,Xj lt n<=n
 | 0=>Jf _
 | n+1=>by
  have:=Za9 lt n;rw [Xj]
  split <;> lia
section
def LtsV (X:Cx) (H:Hp) (x y:V) (b:Bool):Prop:=∀ (pq:List (Addr×Obj)) (σ:St) (s:Shared) (A:Around) (u v:Value),Inv X pq σ H s->A.units+190<cLine->RelV x u->RelV y v->LtAt A s u v b
theorem Vn {p B:Addr} {lt:Nat->Nat->Bool} {R:Result->Shared->Prop} (hA:A.handled=none) (hu:A.units+195<cLine) (hBi:it≠B) (fit:FpOk X pq H it) (fB:FpOk X pq H B)
  (hlt:∀ (i j:Nat) (h1:i<vs.length) (h2:j<vs.length),LtsV X H vs[i] vs[j] (lt i j)) :
  ∀ (k:Nat) (i:Nat) (cv:Option Value) (s:Shared) (c:Nat),vs.length=i+k->0<vs.length->Inv X pq σ H s->S7 X.K H s.heap p it vs i->s.heap.get? B=some (lst0 (Wc cv) c) ->
   (match cv with | none=>i=0 | some v=>0<i/\∃ h:Xj lt (i-1)<vs.length,RelV vs[Xj lt (i-1)] v) ->
   (∀ s' u,Inv X pq σ H s'->(∀ h:Xj lt (vs.length-1)<vs.length,RelV vs[Xj lt (vs.length-1)] u)->R (.ok (.ret u)) s') ->
   codeAny (model X.prog X.w) A (.builtin "min.loop" ⟨[.ref it,.none,.ref B],[]⟩) R s
 | 0,i,cv,s,c,hk,hn,I,src,hB,hc,h=>by
  have hname:(toString "min"++toString ".loop":String)="min.loop":=by decide
  refine codeAny_builtin PySem.F.entry_min_loop ?_;rw [Around.under_plainId PySem.F.plain_min_loop _];show wpAny _ A.in1 (seqItems? (.ref B) >>= _) _ _ s;refine Fz (wpAny_seqItems hB rfl ?_);show wpAny _ A.in1 (tryCatch (pyNext (.ref it)) _ >>= _) _ _ s;refine Fz (wpAny_tryCatch (Dm (Zcy (Q:=fun r s'=>r=none/\Inv X pq σ H s'/\s'.heap.get? B=some (lst0 (Wc cv) c)) (I.pin1 fB hB (by intro v; simp)) (fit.snoc hBi.symm) hA src (by lia) fun s' I'=>⟨rfl,I'.unpinned,(I'.pin (B,lst0 (Wc cv) c) (by simp)).1⟩) (fun r s' hz=>?_) fun _ _ z=>z));obtain ⟨er,I',hB'⟩:=hz;subst er;cases cv with
  | none=>exact absurd (show i=0 from hc) (by lia)
  | some v =>
   show wpAny _ A.in1 (updateSeq B (fun _=>#[]) >>= _) _ _ _;refine Fz (wpAny_updateSeq hB' rfl (Fz (Dn (Da ?_))) (To _));obtain ⟨h0,h1,h2⟩:=hc;refine h _ v (I'.turn1 fB (Heap.SameBut.update _ _ _)) fun hm=>?_;have e:i=vs.length:=by lia
   subst e;exact h2
 | k+1,i,cv,s,c,hk,hn,I,src,hB,hc,h=>by
  have hname:(toString "min"++toString ".loop":String)="min.loop":=by decide
  have hil:i<vs.length:=by lia
  refine codeAny_builtin PySem.F.entry_min_loop ?_;rw [Around.under_plainId PySem.F.plain_min_loop _];show wpAny _ A.in1 (seqItems? (.ref B) >>= _) _ _ s;refine Fz (wpAny_seqItems hB rfl ?_);show wpAny _ A.in1 (tryCatch (pyNext (.ref it)) _ >>= _) _ _ s;refine Fz (wpAny_tryCatch (Dm (Zao (x:=vs[i]) (Q:=fun r s'=>∃ u,r=some u/\RelV vs[i] u/\Inv X pq σ H s'/\s'.heap.get? B=some (lst0 (Wc cv) c)/\S7 X.K H s'.heap p it vs (i+1)) (I.pin1 fB hB (by intro v; simp)) (fit.snoc hBi.symm) src (Jb hil)
   fun u s' ru I' src'=>⟨u,rfl,ru,I'.unpinned,(I'.pin (B,lst0 (Wc cv) c) (by simp)).1,src'⟩) (fun r s' ⟨u,er,ru,I',hB',src'⟩=>?_) fun _ _ z=>z))
  subst er;have st:=fun (f:Obj->Obj)=>Heap.SameBut.update s'.heap B f;cases cv with
  | none =>
   have e0:i=0:=hc;subst e0;show wpAny _ A.in1 (updateSeq B (fun _=>#[u,u]) >>= _) _ _ _;refine Fz (wpAny_updateSeq hB' rfl ?_ (To _));rw [hname];exact Da ⟨plainId_quiet PySem.F.plain_min_loop _,Vn hA hu hBi fit fB hlt k 1 (some u) _ _ (by lia) hn (I'.turn1 fB (st _)) (src'.at (fun ob e=>((st _).2 it hBi).trans e) id id) (Heap.get?_update_self _ hB' rfl) ⟨Nat.one_pos,hil,ru⟩ h⟩
  | some v =>
   obtain ⟨h0,h1,rv⟩:=hc;obtain ⟨j,rfl⟩:∃ j,i=j+1:=⟨i-1,by lia⟩;have lts:=hlt (j+1) (Xj lt j) hil h1 pq σ s' A.in1 u v I' (by show A.units+1+190<cLine; lia) ru rv;have em:Xj lt (j+1)=if lt (j+1) (Xj lt j) then j+1 else Xj lt j:=rfl;show wpAny _ A.in1 (tryCatch (holding [u,u] (richCompare .Lt u v >>= _)) _ >>= _) _ _ _;refine Fz (wpAny_tryCatch (wpAny_holding (Fz (show wpAny (model X.prog X.w) A.in1 (compareOp .Lt u v) _ _ _ from lts _ _ _ _ ?_))));refine Fz (wpAny_holding (wpAny_truthy_bool ?_));refine Fz (Dn (Da ?_));cases hb:lt (j+1) (Xj lt j) with
   | true =>
    rw [hb,Df rfl] at em;simp only [if_true];refine Fz (wpAny_updateSeq hB' rfl (Fz (Dn ?_)) (To _));rw [hname];exact Da ⟨plainId_quiet PySem.F.plain_min_loop _,Vn hA hu hBi fit fB hlt k (j+1+1) (some u) _ _ (by lia) hn (I'.turn1 fB (st _)) (src'.at (fun ob e=>((st _).2 it hBi).trans e) id id) (Heap.get?_update_self _ hB' rfl) ⟨Fe _,by simp only [Bf,em]; exact hil,by simp only [Bf,em]; exact ru⟩ h⟩
   | false =>
    rw [hb,De nofun] at em;simp only [Gf,if_false];refine Fz (Dn ?_);rw [hname];exact Da ⟨plainId_quiet PySem.F.plain_min_loop _,Vn hA hu hBi fit fB hlt k (j+1+1) (some v) _ _ (by lia) hn I' src' hB' ⟨Fe _,by simp only [Bf,em]; exact h1,by simp only [Bf,em]; exact rv⟩ h⟩
end
section
theorem Ni {k:Nat} (hr:Room k A):A.units+200<cLine:=by have:=hr.un; lia
def Zoj (X:Cx):List V->Hp->VK->Prop:=fun xs H Q=>∃ (a:Addr) (vs:List V) (lt:Nat->Nat->Bool),xs=[.ref a]/\SqL X.K H a vs/\0<vs.length/\(∀ (i j:Nat) (h1:i<vs.length) (h2:j<vs.length),LtsV X H vs[i] vs[j] (lt i j)) /\
 ∀ h:Xj lt (vs.length-1)<vs.length,Q vs[Xj lt (vs.length-1)] H
theorem Zfu (hc:X.calm=true) (hu:X.A.units+200<cLine):Xv X (.builtin "min") (Zoj X):=by
 intro pq s2 σ H2 xs us Q I2 r h;obtain ⟨a,vs,lt,rfl,hl,hn,hlt,q⟩:=h;obtain ⟨u,rfl,ru⟩:=T0 r;cases ru;have hname:(toString "min"++toString ".loop":String)="min.loop":=by decide
 refine call_function_tree PySem.F.kind_min PySem.F.plain_min PySem.F.entry_min (PySem.F.args_min1 _) ?_;show wpAny _ X.A.in1 (Builtin.Builtins.bindParams "min" ["key", "default"] 0 ⟨[],[]⟩ >>= _) _ _ s2;refine Fz (wpAny_of_eq (show Builtin.Builtins.bindParams "min" ["key", "default"] 0 ⟨[],[]⟩=pure [none,none] from rfl) ?_);refine Fz (Da ?_);obtain ⟨its,rv,pl,hz⟩:=I2.list hl;refine Fz (wpAny_pyIter_list pl.isList ?_);refine Fz (wpAny_newList ?_ (Jv _));rw [hname];have I3:Inv X pq σ H2 { s2 with heap:=(s2.heap.push { cls:=.type "list_iterator",data:=.fields #[.ref a,.int 0 0] }).push (lst0 #[] 0) }:=I2.kept (t':=s2.toks) fun b o e=>Db _ (Db _ e)
 have hit:FpOk X pq H2 s2.heap.objs.size:=I2.fpOk (Jf _) (I2.hok.fresh (Jf _));have hle:s2.heap.objs.size<=(s2.heap.push { cls:=.type "list_iterator",data:=.fields #[.ref a,.int 0 0] }).objs.size:=by rw [Heap.size_push]; exact Fv _
 have hB:=I2.fpOk (H':=H2) hle (I2.hok.fresh hle);have nB:s2.heap.objs.size≠(s2.heap.push { cls:=.type "list_iterator",data:=.fields #[.ref a,.int 0 0] }).objs.size:=by rw [Heap.size_push]; exact Gi (Bx _)
 refine Da ⟨plainId_quiet PySem.F.plain_min_loop _,Vn (A:=X.A) (lt:=lt) (I2.ok.hd hc) (by lia) nB hit hB hlt vs.length 0 none _ 0 (by lia) hn I3 (.inl ⟨hl,⟨_,Db _ (Dc _ rfl),rfl,rfl⟩⟩) (Dc _ rfl) rfl fun s' u I' hu'=>?_⟩;have hm:Xj lt (vs.length-1)<vs.length:=by have:=Za9 lt (vs.length-1); lia
 exists _,H2,I',hu' hm,q hm
theorem U1:∀ (ns ms:List Int),lexN (fun j=>(ns[j]? == ms[j]?,decide ((ns[j]?).getD 0<(ms[j]?).getD 0))) ns.length ms.length=HT.lexLt ns ms
 | [],[]=>rfl
 | [],_::_=>rfl
 | _::_,[]=>rfl
 | n::ns,m::ms=>by
  have ih:=U1 ns ms;rw [Jq,Jq,lexN,HT.lexLt_cons];simp only [Fa,List.getElem?_cons_succ,Bw];rw [ih]
  by_cases e:n=m
  ·rw [Df e,Df (by rw [e]; exact beq_self_eq_true _)]
  ·rw [De e,De (by simp [e])]
theorem ints_at (h:IntsAre us ns):us.length=ns.length/\∀ (j:Nat) (hj:j<us.length),∃ t,us[j]=.int ((ns[j]?).getD 0) t:=by
 induction h with
 | nil=>exact ⟨rfl,fun j hj=>absurd hj (G2 _)⟩
 | cons n t h ih =>
  exists by rw [Jq,Jq,ih.1],fun j hj=>?_;cases j with
  | zero=>exact ⟨t,rfl⟩
  | succ j=>exact ih.2 j (Nat.lt_of_succ_lt_succ hj)
theorem Qb {vs:List Value} (h1:IntsAre us ns) (h2:IntsAre vs ms) (j:Nat) (g1:j<us.length) (g2:j<vs.length):SeqAt.EqAt A s us[j] vs[j] (ns[j]? == ms[j]?)/\LtAt A s us[j] vs[j] (decide ((ns[j]?).getD 0<(ms[j]?).getD 0)):=by
 obtain ⟨l1,a1⟩:=ints_at h1;obtain ⟨l2,a2⟩:=ints_at h2;obtain ⟨t,e1⟩:=a1 j g1;obtain ⟨u,e2⟩:=a2 j g2;rw [e1,e2];exists ?_,.int _ _ _ _;have:=SeqAt.EqAt.int_int (A:=A) (s:=s) ((ns[j]?).getD 0) t ((ms[j]?).getD 0) u;rw [Jb (by lia),Jb (by lia)] at this ⊢;exact this
abbrev St4:=Int×List Int×List Int×List Int
def ltS (x y:St4):Bool:=if x.1=y.1 then (if x.2.1=y.2.1 then (if x.2.2.1=y.2.2.1 then HT.lexLt x.2.2.2 y.2.2.2 else HT.lexLt x.2.2.1 y.2.2.1) else HT.lexLt x.2.1 y.2.1) else decide (x.1<y.1)
def StAt (K:PySem.W.Frag) (H:Hp) (v:V) (x:St4):Prop:=∃ (a b c d:Addr),v=.ref a/\SqT K H a [.int x.1,.ref b,.ref c,.ref d]/\SqT K H b (x.2.1.map V.int)/\SqL K H c (x.2.2.1.map V.int)/\SqL K H d (x.2.2.2.map V.int)
end
section
theorem Zc1 {κ:SortKind} {L:List KIt} (I:Inv X pq σ H s)
  (hcol:∀ {A:Around} {R:List Value->Shared->Prop} {E:Value->Shared->Prop},A.handled=X.A.handled->(∀ (h':Heap) (tk:Nat),(∀ b o,s.heap.get? b=some o->h'.get? b=some o)->R (Zp L) { s with heap:=h',toks:=tk })->wpAny (model X.prog X.w) A (collect (.ref l)) R E s) (h64:L.length<64) (nd:(L.map (·.2.2)).Nodup)
  (hkind:∀ (pins':List (Addr×Obj)) (s':Shared),Inv X pins' σ H s'->1<L.length->∀ {E:Value->Shared->Prop} {A:Around} {Q:SortKind->Shared->Prop},Q κ s'->wpAny (model X.prog X.w) A (keyKind' (Zp L).toArray) Q E s')
  (hcmp:∀ (pins':List (Addr×Obj)) (s':Shared),1<L.length->Inv X pins' σ H s'->CmpR (X1 (L.map (·.2.2))) L.length (kas_ask X.prog X.w X.A.in1.in1 κ (Zp L)) s')
  (h:∀ (D:Addr) (L':List KIt),H D=none->L'.Perm L->L'.Pairwise (fun a b=>HT.lexLt a.2.2 b.2.2=true)->Q (.ref D) (upd H D (.lst (L'.map fun q=>V.ref q.2.1)))) :
  wpAny (model X.prog X.w) X.A (call (.builtin "sorted") [.ref l]) (EP X pq σ Q) E s:=by
 have el:(Zp L).length=L.length:=by simp [Zp]
 refine call_function_entry kind_sorted plain_sorted entry_sorted (args_sorted1 _) ?_;unfold Builtin.«sorted»;refine Fz (m:=checkCount "sorted" 1 1 _) (Da ?_);refine Fz (hcol rfl fun h1 tk1 keep1=>?_);refine Fz (wpAny_newList ?_ (by rw [sizeLine_eq]; lia));have sz:=I.fpOk (H':=H) (Jf _) (I.hok.fresh (Jf _));have J:Inv X pq σ H { s with heap:=h1,toks:=tk1 }:=I.kept (t':=tk1) keep1;have hoL:(h1.push (seqObj "list" (Zp L).toArray 0)).get? h1.objs.size=some (seqObj "list" (Zp L).toArray 0):=Dc _ rfl;have fD:FpOk X pq H h1.objs.size:=J.fpOk (Jf _) (J.hok.fresh (Jf _));have I1:Inv X pq σ H { s with heap:=h1.push (seqObj "list" (Zp L).toArray 0),toks:=tk1 }:=J.kept (t':=tk1) fun b o e=>Db _ e
 generalize hD:h1.objs.size=D at *
 generalize hh:h1.push (seqObj "list" (Zp L).toArray 0)=hp at *
 refine Fz (wpAny_holding (wpAny_call_entry PyProof.Rows.slot_list_sort ⟨_,hoL,rfl⟩ PyProof.Rows.entry_list_sort ?body (args_list_sort _)))
 case body =>
  show wpAny (model X.prog X.w) X.A.in1.in1 (Builtin.«list.sort» ⟨[.ref D],[]⟩) _ _ _;have s1:=Heap.SameBut.update hp D (Obj.mapSeq fun _=>(#[]:Array Value));obtain ⟨e1,ho1⟩:∃ e1,(hp.update D (Obj.mapSeq fun _=>(#[]:Array Value))).get? D=some (seqObj "list" #[] e1):=⟨_,get?_update_seq hoL fun _=>#[]⟩;have I2:=(I1.turn1 fD s1).pin1 fD ho1 (by intro v; simp);have I3:Inv X (pq++[PD D e1]) σ H { s with toks:=tk1,heap:=((hp.update D (Obj.mapSeq fun _=>(#[]:Array Value))).push (seqObj "tuple" (Zp L).toArray 0)).push (seqObj "list" #[] 0) } :=
   I2.kept (t':=tk1) fun b o e=>Db _ (Db _ e)
  have fin:∀ (s':Shared) (L':List KIt) (st:SortSt),Inv X (pq++[PD D e1]) σ H s'->L'.Perm L->∃ c2,(s'.heap.update D (Obj.mapSeq fun _=>(Zp L').toArray)).get? D=some (seqObj "list" (Zp L').toArray c2)/\Inv X pq σ (upd H D (.lst (L'.map fun q=>V.ref q.2.1))) { s' with heap:=s'.heap.update D (Obj.mapSeq fun _=>(Zp L').toArray) }:=fun s' L' st J pm=>by
   have pd:=J.pin (PD D e1) (Ji _ (Ji _ (Je.mpr rfl)));have s2:=Heap.SameBut.update s'.heap D (Obj.mapSeq fun _=>(Zp L').toArray);obtain ⟨c2,hc2⟩:∃ c2,(s'.heap.update D (Obj.mapSeq fun _=>(Zp L').toArray)).get? D=some (seqObj "list" (Zp L').toArray c2):=⟨_,get?_update_seq pd.1 fun _=>(Zp L').toArray⟩;have J2:=(J.unpinned (pl:=[PD D e1])).turn1 fD s2;have go:∀ M:List KIt,Vals (M.map fun q=>V.ref q.2.1) (Zp M):=fun M=>by
    induction M with
    | nil=>exact .nil
    | cons y r ih=>exact .cons rfl ih
   exists c2,hc2,J2.track (its:=Zp L') (n:=c2) hc2 fD (go L') (by rw [Ja,pm.length_eq,sizeLine_eq]; lia)
  rw [list_sort_plain];refine Fz (listItems_at hoL rfl ?_);refine Fz (listUpdate_at hoL rfl ?_ (by rw [Jg,sizeLine_eq]; lia) (Jv _));refine Fz (seqEpoch_at ho1 rfl ?_);refine Fz (wpAny_newTuple ?_ (by show (Zp L).length<=_; rw [sizeLine_eq]; lia));refine Fz (wpAny_newList ?_ (Jv _));refine wpAny_holding ?_;show wpAny (model X.prog X.w) _ _ _ _ { s with toks:=tk1,heap:=((hp.update D (Obj.mapSeq fun _=>(#[]:Array Value))).push (seqObj "tuple" (Zp L).toArray 0)).push (seqObj "list" #[] 0) };dsimp only;have pd:=I3.pin (PD D e1) (Ji _ (Ji _ (Je.mpr rfl)))
  by_cases h2:(Zp L).toArray.size<2
  ·rw [Df h2];refine Fz (Da ?_);rw [Df h2];refine Fz (m:=(pure ():StateT SortSt Sem Unit).run _) (Da ?_);have h2':L.length<2:=by simpa [Zp] using h2
   have ea:(((Zp L).toArray.zip (Zp L).toArray).map (·.2))=(Zp L).toArray:=by
    apply Array.toList_inj.mp
    rw [Array.toList_map,ksk_zip];simp only [List.map_snd_zip (Jf _)]
   obtain ⟨c2,hc2,I4⟩:=fin _ L (SortSt.mk' general' #[] #[] 7 none) I3 (List.Perm.refl _);refine Fz (seqEpoch_at pd.1 rfl ?_);refine Fz (listUpdate_at pd.1 rfl ?_ (Jv _) (by show (((Zp L).toArray.zip (Zp L).toArray).map (·.2)).size<=_; rw [ea,Jg,sizeLine_eq]; lia));show wpAny (model X.prog X.w) _ (if (e1 != e1)=true then _ else ret Value.none) _ _ _;simp only [bne_self_eq_false,Gf,if_false];refine Da ⟨_,rfl,Da ⟨_,rfl,.ref D,_,?_,rfl,h D L fD.1 (List.Perm.refl _) ?_⟩⟩
   ·have e2:Array.map (fun x=>x.snd) (arrOf (SortSt.mk' general' ((Zp L).toArray.zip (Zp L).toArray) #[] 7 none))=(Zp L).toArray:=ea;rw [e2];exact I4
   ·match L,h2' with
    | [],_=>exact .nil
    | [q],_=>exact List.pairwise_singleton _ _
    | _::_::_,h2'=>simp only [Jq] at h2'; lia
  ·rw [De h2,De h2];have h2':2<=(Zp L).length:=by simpa using h2
   refine Fz (hkind _ _ I3 (by lia) ?_);refine Fz (Dm (kat_run (vs:=Zp L) (ks:=Zp L) (G:=fun p s'=>s'=_/\GoodP L.length p/\SrtR (X1 (L.map (·.2.2))) p L.length) (Q:=fun st' s'=>∃ p:Array Nat,s'=_/\GoodP L.length p/\SrtR (X1 (L.map (·.2.2))) p L.length/\arrOf st'=p.map (kas_item ((Zp L).toArray.zip (Zp L).toArray))/\failedOf st'=none) rfl h2' (by lia)
    (fun p st' s' a1 a2 a3 a4=>⟨p,a4.1,a4.2.1,a4.2.2,a2,a3⟩)
    (by
     rw [el];exact Zlf (hcmp _ _ (by lia) I3) (fun i j hi hj z=>Za4 nd (by simpa using hi) (by simpa using hj) z) (by lia) (G:=fun p s'=>s'=_/\GoodP L.length p/\SrtR (X1 (L.map (·.2.2))) p L.length) fun p g hs=>⟨rfl,g,hs⟩)) ?_ fun _ _ x=>x)
   rintro ⟨⟨⟩,st'⟩ s' ⟨p,rfl,g,hs,har,hf⟩;have hp2:∀ i∈p.toList,i<L.length:=fun i hi=>by
    have:=(B5.mp g.perm).mem_iff.mp hi;simpa using this
   have pl2:p.toList.Perm (List.range L.length):=by have:=B5.mp g.perm; simpa using this
   have rangeL:(List.range L.length).map (fun i=>L.getD i (.non,0,[]))=L:=by
    apply List.ext_getElem
    ·simp
    ·intro i h1 h2; simp [J8,h2]
   have pm:(p.toList.map fun i=>L.getD i (.non,0,[])).Perm L:=by
    have:=pl2.map fun i=>L.getD i (.non,0,[]);rwa [rangeL] at this
   have ea:(arrOf st').map (·.2)=(Zp (p.toList.map fun i=>L.getD i (.non,0,[]))).toArray:=by
    rw [kat_snds rfl har]
    congr 1
    show _=((p.toList.map fun i=>L.getD i (.non,0,[])).map fun q=>Value.ref q.2.1);rw [Gn];refine List.map_congr_left fun i hi=>?_;have hi:=hp2 i hi;show (Zp L).getD i Value.none=Value.ref (L.getD i (.non,0,[])).2.1;rw [show (Zp L).getD i Value.none=Value.ref L[i].2.1 from Xb hi,J8,Jb hi];rfl
   obtain ⟨c2,hc2,I4⟩:=fin _ _ st' I3 pm;refine Fz (seqEpoch_at pd.1 rfl ?_);refine Fz (listUpdate_at pd.1 rfl ?_ (Jv _) (by show ((arrOf st').map (·.2)).size<=_; rw [ea,Jg,sizeLine_eq,show (Zp (p.toList.map fun i=>L.getD i (.non,0,[]))).length=L.length by simp [Zp,g.size]]; lia));dsimp only;rw [hf];simp only [bne_self_eq_false,Gf,if_false];refine Da ⟨_,rfl,Da ⟨_,rfl,.ref D,_,?_,rfl,h D _ fD.1 pm ?_⟩⟩
   ·rw [ea];exact I4
   ·rw [G9];intro i j hi hj hij;simp only [Ja,B1,g.size] at hi hj;have gi:=g.lt i hi;have gj:=g.lt j hj;have hle:=hs i j (Fp hij) hj;have hne:=g.ne hi hj (Gi hij);unfold Rk at hle;have hlt:X1 (L.map (·.2.2)) (p.getD i 0)<X1 (L.map (·.2.2)) (p.getD j 0):=by
     rcases Int.lt_or_eq_of_le hle with z | z
     ·exact z
     ·exact absurd (Za4 nd (by simpa using gi) (by simpa using gj) z) hne
    have hd:=Ut nd (i:=p.getD i 0) (j:=p.getD j 0) (by simpa using gi) (by simpa using gj);rw [Dg hlt,Xb gi,Xb gj] at hd;have ei:p.getD i 0=p[i]'(by rw [g.size]; exact hi):=by simp [Array.getD,g.size,hi]
    have ej:p.getD j 0=p[j]'(by rw [g.size]; exact hj):=by simp [Array.getD,g.size,hj]
    simp only [Gk,Array.getElem_toList,J8];have gi':=gi;have gj':=gj;rw [ei] at gi';rw [ej] at gj';rw [Jb gi',Jb gj'];simp only [ei,ej] at hd;exact hd.symm
end
end L2
namespace L2
open PySem PySem.Spec PyProof.Rows
section
def Nq (K:W.Frag):R2:=fun x y H Q=>∃ (p:Addr) (ys:List V) (ds:List PyData) (d:PyData),y=.ref p/\SqL K H p ys/\DVs K H ys ds/\DV K H x d/\PyData.canLayAll0 ds=true/\d.canLay0=true/\d.depth<=60/\Q (.bl (!ds.any fun z=>PyData.eqv z d)) H
theorem Zea (hu:X.A.units+64<cLine):OpR X (compareOp .NotIn) (Nq X.K):=by
 intro pq s σ H x y v u Q I rx ry h;obtain ⟨p,ys,ds,d,rfl,hq,hd,hy,c1,c2,dd,q⟩:=h;cases ry;obtain ⟨its,rv,pl,_⟩:=I.list hq;obtain ⟨as,ra⟩:=dvs_reads I hd rv;obtain ⟨bs,rb⟩:=Xp I hy rx;refine SeqAt.notIn_listAt (fun y=>PyData.eqv (SeqAt.readOf s.heap y) d) pl.isList (SeqAt.items_eqAt (by simpa using ra) rb c1 c2 (by have:=Nat.min_le_right (PyData.depthAll ds) d.depth; lia)) ⟨.bl _,H,I,rfl,?_⟩;have em:=SeqAt.readsAll_map ds its as c1 ra;have ec:its.any (fun y=>PyData.eqv (SeqAt.readOf s.heap y) d)=ds.any fun z=>PyData.eqv z d:=by
  rw [<- em,List.any_map];rfl
 rw [show its.toArray.any (fun y=>PyData.eqv (SeqAt.readOf s.heap y) d)=its.any (fun y=>PyData.eqv (SeqAt.readOf s.heap y) d) by simp,ec];exact q
end
end L2
namespace L2
open PySem PySem.W PyProof.Rows HT PySem.Calls
def GtAt (A:Around) (s:Shared) (u v:Value) (b:Bool):Prop:=∀ (prog:Program) (w:World) (E:Value->Shared->Prop) (Q:Value->Shared->Prop),Q (.bool b) s->wpAny (model prog w) A (compareOp .Gt u v) Q E s
def lexG:(Nat->Bool×Bool)->Nat->Nat->Bool
 | _,0,_=>false
 | _,_+1,0=>true
 | z,m+1,n+1=>if (z 0).1 then lexG (fun j=>z (j+1)) m n else (z 0).2
def GtAt.int (i j:Int) (t u:Tok):GtAt A s (.int i t) (.int j u) (decide (i > j)):=fun prog w E Q h=>PyProof.Rows.gt_int h
end L2
namespace PySem.SeqAt
open AutoSeq1 (wpAny_loadPart')
open MeetsSeq MeetsSeq2 MeetsSeq3 SeqRoads2
theorem Zex (l b:Addr) (items items2:Array Value) (n n2:Nat) (dd dd2:Option Addr) (sl sl2:Array (Option Value)) (k:Nat) :
  ∀ (i:Nat) (z:Nat->Bool×Bool),items.size-i=k->i<=items.size->i<=items2.size->Meets (Builtin.«list.__eq__.loop» ⟨[.ref l,.ref b,rawInt i,rawInt 4],[]⟩)
   (fun A R s=>s.heap.get? l=some { cls:=.type "list",dict:=dd,data:=.seq items n,slots:=sl }/\s.heap.get? b=some { cls:=.type "list",dict:=dd2,data:=.seq items2 n2,slots:=sl2 } /\
    (∀ j (h1:i+j<items.size) (h2:i+j<items2.size),EqAt A.in1 s items[i+j] items2[i+j] (z j).1/\L2.GtAt A.in1 s items[i+j] items2[i+j] (z j).2) /\
    R (.ok (.ret (.bool (L2.lexG z (items.size-i) (items2.size-i))))) s):=by
 induction k with
 | zero =>
  intro i z hk hi hi' prog w A R s h;obtain ⟨hp,g,d,tk,os⟩:=s; obtain ⟨hl,hb,he,h⟩:=h
  wp_walk using wpAny_loadPart' hl,wpAny_loadPart' hb
  have hi1:items[((i:Nat):Int).toNat]?=none:=by simp; lia
  rw [hi1]
  wp_walk using wpAny_loadPart' hl,wpAny_loadPart' hb
  show R (.ok (.ret (.bool (decide (items.size > items2.size))))) _;rw [show items.size-i=0 by lia,L2.lexG] at h;rw [Dh (show ¬ items.size > items2.size by lia)];exact h
 | succ k ih =>
  intro i z hk hi hi' prog w A R s h;obtain ⟨hp,g,d,tk,os⟩:=s; obtain ⟨hl,hb,he,h⟩:=h
  wp_walk using wpAny_loadPart' hl,wpAny_loadPart' hb
  have hlt:i<items.size:=by lia
  have hi1:items[((i:Nat):Int).toNat]?=some items[i]:=by simp [hlt]
  have hc:((i:Int)+1)=((i+1:Nat):Int):=by push_cast; rfl
  by_cases hlt2:i<items2.size
  ·have hi2:items2[((i:Nat):Int).toNat]?=some items2[i]:=by simp [hlt2]
   rw [show items.size-i=(items.size-(i+1))+1 by lia,show items2.size-i=(items2.size-(i+1))+1 by lia,L2.lexG] at h;obtain ⟨h1,h2⟩:=he 0 hlt hlt2;rw [hi1,hi2];refine Fz (h1 prog w _ _ ?_);cases hb':(z 0).1 with
   | true =>
    rw [hb',Df rfl] at h
    wp_walk
    rw [hc];exact ⟨plainId_quiet plain_eq_loop _,codeAny_builtin entry_eq_loop (by
     rw [Around.under_plainId plain_eq_loop _];exact ih (i+1) (fun j=>z (j+1)) (by lia) (by lia) (by lia) prog w A R _ ⟨hl,hb,fun j g1 g2=>by
      have:=he (j+1) (by lia) (by lia);simpa only [Nat.add_comm 1 j,<- Nat.add_assoc,Nat.add_right_comm i 1 j] using this,h⟩)⟩
   | false =>
    rw [hb',De nofun] at h
    wp_walk using wpAny_loadPart' hl,wpAny_loadPart' hb
    rw [hi1,hi2];refine Fz (h2 prog w _ _ ?_)
    wp_walk
    exact h
  ·have hi2:items2[((i:Nat):Int).toNat]?=none:=by simp; lia
   rw [hi1,hi2]
   wp_walk using wpAny_loadPart' hl,wpAny_loadPart' hb
   show R (.ok (.ret (.bool (decide (items.size > items2.size))))) _;rw [show items.size-i=(items.size-(i+1))+1 by lia,show items2.size-i=0 by lia,L2.lexG] at h;rw [Dg (show items.size > items2.size by lia)];exact h
theorem list_gtAt (l b:Addr) (items items2:Array Value) (n n2:Nat) (dd dd2:Option Addr) (sl sl2:Array (Option Value)) (z:Nat->Bool×Bool) :
  Meets (Builtin.«list.__gt__» ⟨[.ref l,.ref b],[]⟩)
   (fun A R s=>s.heap.get? l=some { cls:=.type "list",dict:=dd,data:=.seq items n,slots:=sl }/\s.heap.get? b=some { cls:=.type "list",dict:=dd2,data:=.seq items2 n2,slots:=sl2 } /\
    (∀ j (h1:j<items.size) (h2:j<items2.size),EqAt A.in1 s items[j] items2[j] (z j).1/\L2.GtAt A.in1 s items[j] items2[j] (z j).2) /\
    R (.ok (.ret (.bool (L2.lexG z items.size items2.size)))) s):=by
 intro prog w A R s h;obtain ⟨hp,g,d,tk,os⟩:=s; obtain ⟨hl,hb,he,h⟩:=h;have f3:=AutoSeq1.sub_list_list
 wp_walk using wpAny_loadPart' hl,wpAny_loadPart' hb
 exact ⟨plainId_quiet plain_eq_loop _,codeAny_builtin entry_eq_loop (by
  rw [Around.under_plainId plain_eq_loop _];refine Zex l b items items2 n n2 dd dd2 sl sl2 _ 0 z rfl (Jv _) (Jv _) prog w A R _ ⟨hl,hb,fun j h1 h2=>?_,h⟩;have:=he j (by lia) (by lia);simpa only [Nat.zero_add] using this)⟩
end PySem.SeqAt
namespace L2
open PySem PySem.W PyProof.Rows HT PySem.Calls
section
def GtAt.lst {items items2:Array Value} {z:Nat->Bool×Bool} {l b:Addr} (hl:s.heap.IsList l items) (hb:s.heap.IsList b items2) (hu:A.units<cLine)
  (hz:∀ (j:Nat) (h1:j<items.size) (h2:j<items2.size),SeqAt.EqAt A.in1 s items[j] items2[j] (z j).1/\GtAt A.in1 s items[j] items2[j] (z j).2):GtAt A s (.ref l) (.ref b) (lexG z items.size items2.size):=fun prog w E Q h=>by
 obtain ⟨⟨cls,dd,data,sl⟩,ho,hc,n,hd⟩:=id hl;obtain ⟨⟨cls2,dd2,data2,sl2⟩,ho2,hc2,n2,hd2⟩:=id hb;simp only at hc hd hc2 hd2;subst hc hd hc2 hd2;exact richCompare_meets_room (op:=.Gt) ⟨_,ho,rfl⟩ ⟨_,ho2,rfl⟩ F.slot_list_gt F.entry_list_gt (F.args_list_gt_2 _ _) (SeqAt.list_gtAt l b items items2 n n2 dd dd2 sl sl2 z)
  ⟨ho,ho2,hz,show Value.bool (lexG z items.size items2.size)≠Value.notImplemented/\Q (.bool (lexG z items.size items2.size)) s from ⟨(fun x=>nomatch x),h⟩⟩ hu
end
section
def GtsV (X:Cx) (H:Hp) (x y:V) (b:Bool):Prop:=∀ (pq:List (Addr×Obj)) (σ:St) (s:Shared) (A:Around) (u v:Value),Inv X pq σ H s->A.units+190<cLine->RelV x u->RelV y v->GtAt A s u v b
theorem Uz {p B:Addr} {lt:Nat->Nat->Bool} {R:Result->Shared->Prop} (hA:A.handled=none) (hu:A.units+195<cLine) (hBi:it≠B) (fit:FpOk X pq H it) (fB:FpOk X pq H B)
  (hlt:∀ (i j:Nat) (h1:i<vs.length) (h2:j<vs.length),GtsV X H vs[i] vs[j] (lt i j)) :
  ∀ (k:Nat) (i:Nat) (cv:Option Value) (s:Shared) (c:Nat),vs.length=i+k->0<vs.length->Inv X pq σ H s->S7 X.K H s.heap p it vs i->s.heap.get? B=some (lst0 (Wc cv) c) ->
   (match cv with | none=>i=0 | some v=>0<i/\∃ h:Xj lt (i-1)<vs.length,RelV vs[Xj lt (i-1)] v) ->
   (∀ s' u,Inv X pq σ H s'->(∀ h:Xj lt (vs.length-1)<vs.length,RelV vs[Xj lt (vs.length-1)] u)->R (.ok (.ret u)) s') ->
   codeAny (model X.prog X.w) A (.builtin "max.loop" ⟨[.ref it,.none,.ref B],[]⟩) R s
 | 0,i,cv,s,c,hk,hn,I,src,hB,hc,h=>by
  have hname:(toString "max"++toString ".loop":String)="max.loop":=by decide
  refine codeAny_builtin PySem.F.entry_max_loop ?_;rw [Around.under_plainId PySem.F.plain_max_loop _];show wpAny _ A.in1 (seqItems? (.ref B) >>= _) _ _ s;refine Fz (wpAny_seqItems hB rfl ?_);show wpAny _ A.in1 (tryCatch (pyNext (.ref it)) _ >>= _) _ _ s;refine Fz (wpAny_tryCatch (Dm (Zcy (Q:=fun r s'=>r=none/\Inv X pq σ H s'/\s'.heap.get? B=some (lst0 (Wc cv) c)) (I.pin1 fB hB (by intro v; simp)) (fit.snoc hBi.symm) hA src (by lia) fun s' I'=>⟨rfl,I'.unpinned,(I'.pin (B,lst0 (Wc cv) c) (by simp)).1⟩) (fun r s' hz=>?_) fun _ _ z=>z));obtain ⟨er,I',hB'⟩:=hz;subst er;cases cv with
  | none=>exact absurd (show i=0 from hc) (by lia)
  | some v =>
   show wpAny _ A.in1 (updateSeq B (fun _=>#[]) >>= _) _ _ _;refine Fz (wpAny_updateSeq hB' rfl (Fz (Dn (Da ?_))) (To _));obtain ⟨h0,h1,h2⟩:=hc;refine h _ v (I'.turn1 fB (Heap.SameBut.update _ _ _)) fun hm=>?_;have e:i=vs.length:=by lia
   subst e;exact h2
 | k+1,i,cv,s,c,hk,hn,I,src,hB,hc,h=>by
  have hname:(toString "max"++toString ".loop":String)="max.loop":=by decide
  have hil:i<vs.length:=by lia
  refine codeAny_builtin PySem.F.entry_max_loop ?_;rw [Around.under_plainId PySem.F.plain_max_loop _];show wpAny _ A.in1 (seqItems? (.ref B) >>= _) _ _ s;refine Fz (wpAny_seqItems hB rfl ?_);show wpAny _ A.in1 (tryCatch (pyNext (.ref it)) _ >>= _) _ _ s;refine Fz (wpAny_tryCatch (Dm (Zao (x:=vs[i]) (Q:=fun r s'=>∃ u,r=some u/\RelV vs[i] u/\Inv X pq σ H s'/\s'.heap.get? B=some (lst0 (Wc cv) c)/\S7 X.K H s'.heap p it vs (i+1)) (I.pin1 fB hB (by intro v; simp)) (fit.snoc hBi.symm) src (Jb hil)
   fun u s' ru I' src'=>⟨u,rfl,ru,I'.unpinned,(I'.pin (B,lst0 (Wc cv) c) (by simp)).1,src'⟩) (fun r s' ⟨u,er,ru,I',hB',src'⟩=>?_) fun _ _ z=>z))
  subst er;have st:=fun (f:Obj->Obj)=>Heap.SameBut.update s'.heap B f;cases cv with
  | none =>
   have e0:i=0:=hc;subst e0;show wpAny _ A.in1 (updateSeq B (fun _=>#[u,u]) >>= _) _ _ _;refine Fz (wpAny_updateSeq hB' rfl ?_ (To _));rw [hname];exact Da ⟨plainId_quiet PySem.F.plain_max_loop _,Uz hA hu hBi fit fB hlt k 1 (some u) _ _ (by lia) hn (I'.turn1 fB (st _)) (src'.at (fun ob e=>((st _).2 it hBi).trans e) id id) (Heap.get?_update_self _ hB' rfl) ⟨Nat.one_pos,hil,ru⟩ h⟩
  | some v =>
   obtain ⟨h0,h1,rv⟩:=hc;obtain ⟨j,rfl⟩:∃ j,i=j+1:=⟨i-1,by lia⟩;have lts:=hlt (j+1) (Xj lt j) hil h1 pq σ s' A.in1 u v I' (by show A.units+1+190<cLine; lia) ru rv;have em:Xj lt (j+1)=if lt (j+1) (Xj lt j) then j+1 else Xj lt j:=rfl;show wpAny _ A.in1 (tryCatch (holding [u,u] (richCompare .Gt u v >>= _)) _ >>= _) _ _ _;refine Fz (wpAny_tryCatch (wpAny_holding (Fz (show wpAny (model X.prog X.w) A.in1 (compareOp .Gt u v) _ _ _ from lts _ _ _ _ ?_))));refine Fz (wpAny_holding (wpAny_truthy_bool ?_));refine Fz (Dn (Da ?_));cases hb:lt (j+1) (Xj lt j) with
   | true =>
    rw [hb,Df rfl] at em;simp only [if_true];refine Fz (wpAny_updateSeq hB' rfl (Fz (Dn ?_)) (To _));rw [hname];exact Da ⟨plainId_quiet PySem.F.plain_max_loop _,Uz hA hu hBi fit fB hlt k (j+1+1) (some u) _ _ (by lia) hn (I'.turn1 fB (st _)) (src'.at (fun ob e=>((st _).2 it hBi).trans e) id id) (Heap.get?_update_self _ hB' rfl) ⟨Fe _,by simp only [Bf,em]; exact hil,by simp only [Bf,em]; exact ru⟩ h⟩
   | false =>
    rw [hb,De nofun] at em;simp only [Gf,if_false];refine Fz (Dn ?_);rw [hname];exact Da ⟨plainId_quiet PySem.F.plain_max_loop _,Uz hA hu hBi fit fB hlt k (j+1+1) (some v) _ _ (by lia) hn I' src' hB' ⟨Fe _,by simp only [Bf,em]; exact h1,by simp only [Bf,em]; exact rv⟩ h⟩
end
section
def Zok (X:Cx):List V->Hp->VK->Prop:=fun xs H Q=>∃ (a b:Addr) (lt:Nat->Nat->Bool),xs=[.ref a,.ref b]/\(∀ p,H p=none->∀ (i j:Nat) (h1:i<2) (h2:j<2),LtsV X (upd H p (.tup [.ref a,.ref b])) ([V.ref a,V.ref b][i]) ([V.ref a,V.ref b][j]) (lt i j)) /\
 ∀ p,H p=none->Q (.ref (if lt 1 0 then b else a)) (upd H p (.tup [.ref a,.ref b]))
theorem Zb9 (hc:X.calm=true) (hu:X.A.units+200<cLine):Xv X (.builtin "min") (Zok X):=by
 intro pq s2 σ H2 xs us Q I2 r h;obtain ⟨a,b,lt,rfl,hlt,q⟩:=h;obtain ⟨u,v,rfl,ru,rv⟩:=Zcl r;cases ru;cases rv;have hname:(toString "min"++toString ".loop":String)="min.loop":=by decide
 refine call_function_tree PySem.F.kind_min PySem.F.plain_min PySem.F.entry_min (PySem.F.args_min2 _ _) ?_;show wpAny _ X.A.in1 (Builtin.Builtins.bindParams "min" ["key", "default"] 0 ⟨[],[]⟩ >>= _) _ _ s2;refine Fz (wpAny_of_eq (show Builtin.Builtins.bindParams "min" ["key", "default"] 0 ⟨[],[]⟩=pure [none,none] from rfl) ?_);show wpAny _ X.A.in1 (newTuple [.ref a,.ref b] >>= _) _ _ s2;refine Fz (wpAny_newObj_type ?_);have fr:=I2.hok.fresh (Jf s2.heap.objs.size);have I2':Inv X pq σ (upd H2 s2.heap.objs.size (.tup [.ref a,.ref b])) { s2 with heap:=s2.heap.push { cls:=.type "tuple",data:=.seq #[.ref a,.ref b] } } :=
  I2.laid (t':=s2.toks) (o:=.tup [.ref a,.ref b]) (fun b ob q=>Db _ q) (Jf _) ⟨(show 2<=sizeLine by decide),[.ref a,.ref b],.cons rfl (.cons rfl .nil),W1.new _ _⟩
 have hl:SqT X.K (upd H2 s2.heap.objs.size (.tup [.ref a,.ref b])) s2.heap.objs.size [.ref a,.ref b]:=SqT.of Zn;obtain ⟨its,rv,⟨o,eo,hcl,n,hda⟩,hz⟩:=I2'.tuple hl;refine Fz (wpAny_pyIter_tuple (show Heap.IsTuple _ _ its.toArray from ⟨_,eo,hcl,n,hda⟩) ?_);refine Fz (wpAny_newList ?_ (Jv _));rw [hname];have hlt':=hlt _ fr;have q':=q _ fr;generalize upd H2 s2.heap.objs.size (.tup [.ref a,.ref b])=H3 at I2' hl hlt' q';generalize hp:s2.heap.objs.size=p at hl;generalize s2.heap.push { cls:=.type "tuple",data:=.seq #[.ref a,.ref b] }=h3 at I2';have I3:Inv X pq σ H3 { s2 with heap:=(h3.push { cls:=.type "tuple_iterator",data:=.fields #[.ref p,.int 0 0] }).push (lst0 #[] 0) }:=I2'.kept (t':=s2.toks) fun b o e=>Db _ (Db _ e)
 have hit:FpOk X pq H3 h3.objs.size:=I2'.fpOk (Jf _) (I2'.hok.fresh (Jf _));have hle:h3.objs.size<=(h3.push { cls:=.type "tuple_iterator",data:=.fields #[.ref p,.int 0 0] }).objs.size:=by rw [Heap.size_push]; exact Fv _
 have hB:=I2'.fpOk (H':=H3) hle (I2'.hok.fresh hle);have nB:h3.objs.size≠(h3.push { cls:=.type "tuple_iterator",data:=.fields #[.ref p,.int 0 0] }).objs.size:=by rw [Heap.size_push]; exact Gi (Bx _)
 refine Da ⟨plainId_quiet PySem.F.plain_min_loop _,Vn (A:=X.A) (lt:=lt) (vs:=[.ref a,.ref b]) (p:=p) (I2.ok.hd hc) (by lia) nB hit hB hlt' 2 0 none _ 0 rfl (show 0<2 by decide) I3 (.inr ⟨hl,⟨_,Db _ (Dc _ rfl),rfl,rfl⟩⟩) (Dc _ rfl) rfl fun s' u I' hu'=>?_⟩;have e:Xj lt ([V.ref a,V.ref b].length-1)=if lt 1 0 then 1 else 0:=rfl;cases hb:lt 1 0 with
 | true =>
  rw [hb] at e q';have:=hu' (by rw [e]; exact (show 1<2 by decide));simp only [e] at this;exists _,H3,I',this,q'
 | false =>
  rw [hb] at e q';have:=hu' (by rw [e]; exact (show 0<2 by decide));simp only [e] at this;exists _,H3,I',this,q'
def Zol (X:Cx):List V->Hp->VK->Prop:=fun xs H Q=>∃ (a b:Addr) (lt:Nat->Nat->Bool),xs=[.ref a,.ref b]/\(∀ p,H p=none->∀ (i j:Nat) (h1:i<2) (h2:j<2),GtsV X (upd H p (.tup [.ref a,.ref b])) ([V.ref a,V.ref b][i]) ([V.ref a,V.ref b][j]) (lt i j)) /\
 ∀ p,H p=none->Q (.ref (if lt 1 0 then b else a)) (upd H p (.tup [.ref a,.ref b]))
theorem Zcb (hc:X.calm=true) (hu:X.A.units+200<cLine):Xv X (.builtin "max") (Zol X):=by
 intro pq s2 σ H2 xs us Q I2 r h;obtain ⟨a,b,lt,rfl,hlt,q⟩:=h;obtain ⟨u,v,rfl,ru,rv⟩:=Zcl r;cases ru;cases rv;have hname:(toString "max"++toString ".loop":String)="max.loop":=by decide
 refine call_function_tree PySem.F.kind_max PySem.F.plain_max PySem.F.entry_max (PySem.F.args_max2 _ _) ?_;show wpAny _ X.A.in1 (Builtin.Builtins.bindParams "max" ["key", "default"] 0 ⟨[],[]⟩ >>= _) _ _ s2;refine Fz (wpAny_of_eq (show Builtin.Builtins.bindParams "max" ["key", "default"] 0 ⟨[],[]⟩=pure [none,none] from rfl) ?_);show wpAny _ X.A.in1 (newTuple [.ref a,.ref b] >>= _) _ _ s2;refine Fz (wpAny_newObj_type ?_);have fr:=I2.hok.fresh (Jf s2.heap.objs.size);have I2':Inv X pq σ (upd H2 s2.heap.objs.size (.tup [.ref a,.ref b])) { s2 with heap:=s2.heap.push { cls:=.type "tuple",data:=.seq #[.ref a,.ref b] } } :=
  I2.laid (t':=s2.toks) (o:=.tup [.ref a,.ref b]) (fun b ob q=>Db _ q) (Jf _) ⟨(show 2<=sizeLine by decide),[.ref a,.ref b],.cons rfl (.cons rfl .nil),W1.new _ _⟩
 have hl:SqT X.K (upd H2 s2.heap.objs.size (.tup [.ref a,.ref b])) s2.heap.objs.size [.ref a,.ref b]:=SqT.of Zn;obtain ⟨its,rv,⟨o,eo,hcl,n,hda⟩,hz⟩:=I2'.tuple hl;refine Fz (wpAny_pyIter_tuple (show Heap.IsTuple _ _ its.toArray from ⟨_,eo,hcl,n,hda⟩) ?_);refine Fz (wpAny_newList ?_ (Jv _));rw [hname];have hlt':=hlt _ fr;have q':=q _ fr;generalize upd H2 s2.heap.objs.size (.tup [.ref a,.ref b])=H3 at I2' hl hlt' q';generalize hp:s2.heap.objs.size=p at hl;generalize s2.heap.push { cls:=.type "tuple",data:=.seq #[.ref a,.ref b] }=h3 at I2';have I3:Inv X pq σ H3 { s2 with heap:=(h3.push { cls:=.type "tuple_iterator",data:=.fields #[.ref p,.int 0 0] }).push (lst0 #[] 0) }:=I2'.kept (t':=s2.toks) fun b o e=>Db _ (Db _ e)
 have hit:FpOk X pq H3 h3.objs.size:=I2'.fpOk (Jf _) (I2'.hok.fresh (Jf _));have hle:h3.objs.size<=(h3.push { cls:=.type "tuple_iterator",data:=.fields #[.ref p,.int 0 0] }).objs.size:=by rw [Heap.size_push]; exact Fv _
 have hB:=I2'.fpOk (H':=H3) hle (I2'.hok.fresh hle);have nB:h3.objs.size≠(h3.push { cls:=.type "tuple_iterator",data:=.fields #[.ref p,.int 0 0] }).objs.size:=by rw [Heap.size_push]; exact Gi (Bx _)
 refine Da ⟨plainId_quiet PySem.F.plain_max_loop _,Uz (A:=X.A) (lt:=lt) (vs:=[.ref a,.ref b]) (p:=p) (I2.ok.hd hc) (by lia) nB hit hB hlt' 2 0 none _ 0 rfl (show 0<2 by decide) I3 (.inr ⟨hl,⟨_,Db _ (Dc _ rfl),rfl,rfl⟩⟩) (Dc _ rfl) rfl fun s' u I' hu'=>?_⟩;have e:Xj lt ([V.ref a,V.ref b].length-1)=if lt 1 0 then 1 else 0:=rfl;cases hb:lt 1 0 with
 | true =>
  rw [hb] at e q';have:=hu' (by rw [e]; exact (show 1<2 by decide));simp only [e] at this;exists _,H3,I',this,q'
 | false =>
  rw [hb] at e q';have:=hu' (by rw [e]; exact (show 0<2 by decide));simp only [e] at this;exists _,H3,I',this,q'
end
end L2
namespace L2
open PySem PySem.Spec PyProof.Rows PySem.W
mutual
inductive LtP:PyData->PyData->Bool->Prop where
 | int (i j:Int):LtP (.int i) (.int j) (decide (i<j))
 | tup {xs ys:List PyData} {b:Bool}:LxP xs ys b->LtP (.tuple xs) (.tuple ys) b
 | lst {xs ys:List PyData} {b:Bool}:LxP xs ys b->LtP (.list xs) (.list ys) b
inductive LxP:List PyData->List PyData->Bool->Prop where
 | nn:LxP [] [] false
 | nc (y:PyData) (ys:List PyData):LxP [] (y::ys) true
 | cn (x:PyData) (xs:List PyData):LxP (x::xs) [] false
 | cc {x y:PyData} {xs ys:List PyData} {b c:Bool}:LtP x y b->LxP xs ys c->LxP (x::xs) (y::ys) (if PyData.eqv x y then c else b)
end
section
mutual
theorem Zek (I:Inv X pq σ H s):∀ {d e:PyData} {b:Bool},LtP d e b->∀ (x y:V) (u v:Value) (A:Around) (n:Nat),DV X.K H x d->DV X.K H y e->RelV x u->RelV y v->d.canLay0=true->e.canLay0=true->d.depth<=n->e.depth<=n->A.units+2*n+10<cLine->LtAt A s u v b:=by
 intro _ _ _ hz9;cases hz9 with
 | int i j=>
  exact fun x y u v A n h1 h2 r1 r2 _ _ _ _ _=>by
    cases h1;cases h2;obtain ⟨t,rfl⟩:=r1;obtain ⟨t',rfl⟩:=r2;exact .int _ _ _ _
 | tup l=>
  exact fun x y u v A n h1 h2 r1 r2 c1 c2 n1 n2 hu=>by
    cases h1 with
    | @tup a vs _ q1 p1 =>
     cases h2 with
     | @tup a' ws _ q2 p2 =>
      cases r1;cases r2;obtain ⟨its,rv,⟨o,e,cl,m,dt⟩,_⟩:=I.tuple q1;obtain ⟨its2,rv2,⟨o2,e2,cl2,m2,dt2⟩,_⟩:=I.tuple q2;rw [PyData.depth] at n1 n2;obtain ⟨k,rfl⟩:∃ k,n=k+1:=⟨n-1,by lia⟩;obtain ⟨z,hz,ez⟩:=lx_data I l _ _ _ _ A.in1 k p1 p2 rv rv2 (by rwa [PyData.canLay0] at c1) (by rwa [PyData.canLay0] at c2) (by lia) (by lia) (by show A.units+1+2*k+10<cLine; lia);have:=LtAt.tup (A:=A) (z:=z) (by lia) e cl dt e2 cl2 dt2 hz;rwa [ez] at this
 | lst l=>
  exact fun x y u v A n h1 h2 r1 r2 c1 c2 n1 n2 hu=>by
    cases h1 with
    | @lst a vs _ q1 p1 =>
     cases h2 with
     | @lst a' ws _ q2 p2 =>
      cases r1;cases r2;obtain ⟨its,rv,g1,_⟩:=I.list q1;obtain ⟨its2,rv2,g2,_⟩:=I.list q2;rw [PyData.depth] at n1 n2;obtain ⟨k,rfl⟩:∃ k,n=k+1:=⟨n-1,by lia⟩;obtain ⟨z,hz,ez⟩:=lx_data I l _ _ _ _ A.in1 k p1 p2 rv rv2 (by rwa [PyData.canLay0] at c1) (by rwa [PyData.canLay0] at c2) (by lia) (by lia) (by show A.units+1+2*k+10<cLine; lia);obtain ⟨o,m,e,c,_,dt⟩:=g1;obtain ⟨o2,m2,e2,c',_,dt2⟩:=g2;have:=LtAt.lst (A:=A) (z:=z) (items:=its.toArray) (items2:=its2.toArray) ⟨o,e,c,m,dt⟩ ⟨o2,e2,c',m2,dt2⟩ (by lia) (fun j h1 h2=>by simpa using hz j (by simpa using h1) (by simpa using h2));rw [Jg,Jg,ez] at this
      exact this
theorem lx_data (I:Inv X pq σ H s):∀ {ds es:List PyData} {b:Bool},LxP ds es b->∀ (xs ys:List V) (us vs:List Value) (A:Around) (n:Nat),DVs X.K H xs ds->DVs X.K H ys es->Vals xs us->Vals ys vs->PyData.canLayAll0 ds=true->PyData.canLayAll0 es=true->PyData.depthAll ds<=n->PyData.depthAll es<=n->A.units+2*n+10<cLine ->
  ∃ z:Nat->Bool×Bool,(∀ (j:Nat) (h1:j<us.length) (h2:j<vs.length),SeqAt.EqAt A s us[j] vs[j] (z j).1/\LtAt A s us[j] vs[j] (z j).2)/\lexN z us.length vs.length=b
 | _,_,_,.nn=>fun xs ys us vs A n h1 h2 r1 r2 _ _ _ _ _=>by
  cases h1;cases h2;cases r1;cases r2;exists fun _=>(true,true),fun j h=>absurd h (G2 _),rfl
 | _,_,_,.nc y ys=>fun xs ys us vs A n h1 h2 r1 r2 _ _ _ _ _=>by
  cases h1;cases h2;cases r1;cases r2;exists fun _=>(true,true),fun j h=>absurd h (G2 _),rfl
 | _,_,_,.cn x xs=>fun xs ys us vs A n h1 h2 r1 r2 _ _ _ _ _=>by
  cases h1;cases h2;cases r1;cases r2;exists fun _=>(true,true),fun j _ h=>absurd h (G2 _),rfl
 | _,_,_,.cc (x:=x) (y:=y) (b:=b) l r=>fun xs ys us vs A n h1 h2 r1 r2 c1 c2 n1 n2 hu=>by
  cases h1 with | cons p q=>?_
  cases h2 with | cons p' q'=>?_
  cases r1 with | cons rp rq=>?_
  cases r2 with | cons rp' rq'=>?_
  rw [PyData.canLayAll0,B9] at c1 c2;rw [PyData.depthAll] at n1 n2;obtain ⟨z,hz,ez⟩:=lx_data I r _ _ _ _ A n q q' rq rq' c1.2 c2.2 (by lia) (by lia) hu;obtain ⟨as,ra⟩:=Xp I p rp;obtain ⟨bs,rb⟩:=Xp I p' rp';have e1:=SeqAt.eqAt_reads _ _ A s _ _ _ _ ra rb c1.1 c2.1 (by have:=Nat.min_le_right x.depth y.depth; lia);have e2:=Zek I l _ _ _ _ A n p p' rp rp' c1.1 c2.1 (by lia) (by lia) (by lia);exists fun j=>match j with | 0=>(PyData.eqv x y,b) | j+1=>z j,fun j h1 h2=>?_,?_
  ·cases j with
   | zero=>exact ⟨e1,e2⟩
   | succ j=>exact hz j (by simpa using h1) (by simpa using h2)
  ·rw [<- ez];rfl
end
def rLtD (K:Frag):R2:=fun x y H Q=>∃ (d e:PyData) (b:Bool),DV K H x d/\DV K H y e/\LtP d e b/\SeqAt.shaped d=true/\SeqAt.shaped e=true/\Q (.bl b) H
theorem Zl9 (hu:X.A.units+200<cLine):OpR X (compareOp .Lt) (rLtD X.K):=by
 intro pq s σ H x y v u Q I rx ry h;obtain ⟨d,e,b,h1,h2,l,s1,s2,q⟩:=h;unfold SeqAt.shaped at s1 s2;rw [B9,decide_eq_true_eq] at s1 s2;exact Zek I l _ _ _ _ _ 64 h1 h2 rx ry s1.1 s2.1 s1.2 s2.2 (by lia) _ _ _ _ ⟨.bl b,H,I,rfl,q⟩
end
end L2
namespace L2
open PySem PySem.SetTable
theorem Sf (mask i:Nat) (h:i<=mask):runEnd mask i<=mask/\i<=runEnd mask i/\runEnd mask i<=i+9:=by
 unfold runEnd
 split <;> lia
def run (mask:Nat) (b:Nat):Nat->Nat×Nat
 | 0=>(b % (mask+1),b)
 | m+1=>leap mask (run mask b m).1 (run mask b m).2
theorem Za2 (mask b:Nat):∀ m,(run mask b m).1<=mask
 | 0=>by show b % (mask+1)<=mask; have:=Nat.mod_lt b (show 0<mask+1 by lia); lia
 | m+1=>by
  show ((run mask b m).1*5+1+(run mask b m).2 / 32) % (mask+1)<=mask;have:=Nat.mod_lt ((run mask b m).1*5+1+(run mask b m).2 / 32) (show 0<mask+1 by lia);lia
theorem Za1 (mask b:Nat):∀ m,(run mask b m).2=b / 32 ^ m
 | 0=>by show b=b / 1; rw [Nat.div_one]
 | m+1=>by
  show (run mask b m).2 / 32=_;rw [Za1 mask b m,Nat.div_div_eq_div_mul,Nat.pow_succ]
def Zi4 (N i:Nat):Nat:=(i*5+1) % N
def itL (N:Nat):Nat->Nat->Nat
 | 0,i=>i
 | m+1,i=>Zi4 N (itL N m i)
theorem Qa (N:Nat):∀ m r i,itL N m (itL N r i)=itL N (r+m) i
 | 0,_,_=>rfl
 | m+1,r,i=>by show Zi4 N (itL N m (itL N r i))=Zi4 N (itL N (r+m) i); rw [Qa N m r i]
def full (N:Nat):Bool:=let l:=(List.range N).map fun r=>itL N r 0; itL N N 0 == 0 && (List.range N).all fun b=>l.contains b
def Zj7 {N:Nat} (h:full N=true):itL N N 0=0/\∀ b,b<N->∃ r,r<N/\itL N r 0=b:=by
 unfold full at h;rw [B9] at h;exists beq_iff_eq.mp h.1,fun b hb=>?_;have:=Bj.mp h.2 b (Bd.mpr hb);rw [List.contains_iff_mem] at this;obtain ⟨r,hr,e⟩:=Jp.mp this;exists r,Bd.mp hr,e
theorem Zj6 {N:Nat} (h:full N=true) {a b:Nat} (ha:a<N) (hb:b<N):∃ r,r<N/\itL N r a=b:=by
 obtain ⟨h0,hf⟩:=Zj7 h;obtain ⟨r1,l1,rfl⟩:=hf a ha;obtain ⟨r2,l2,rfl⟩:=hf b hb
 by_cases hr:r1<=r2
 ·exact ⟨r2-r1,by lia,by rw [Qa,show r1+(r2-r1)=r2 by lia]⟩
 ·exists N-r1+r2,by lia,?_;rw [Qa,show r1+(N-r1+r2)=N+r2 by lia,<- Qa,h0]
theorem Zdh {b:Nat} (hb:b<2 ^ 64):∀ m,(run mask b (13+m)).1=itL (mask+1) m (run mask b 13).1
 | 0=>rfl
 | m+1=>by
  show ((run mask b (13+m)).1*5+1+(run mask b (13+m)).2 / 32) % (mask+1)=((itL (mask+1) m (run mask b 13).1)*5+1) % (mask+1);have z:(run mask b (13+m)).2 / 32=0:=by
   rw [Za1,Nat.div_div_eq_div_mul,<- Nat.pow_succ];refine Nat.div_eq_of_lt (Gg hb ?_);have:(32:Nat) ^ 13<=32 ^ (13+m+1):=Nat.pow_le_pow_right nofun (by lia);exact Jy nofun this
  rw [z,Nat.add_zero,Zdh hb m]
theorem Zdi {b:Nat} (hf:full (mask+1)=true) (hb:b<2 ^ 64) {j:Nat} (hj:j<=mask):∃ m,m<=mask+13/\(run mask b m).1=j:=by
 obtain ⟨r,hr,e⟩:=Zj6 hf (a:=(run mask b 13).1) (b:=j) (by have:=Za2 mask b 13; lia) (by lia);exact ⟨13+r,by lia,by rw [Zdh hb]; exact e⟩
def adv (mask:Nat) (p:Probe):Probe :=
 if p.more > 0 then { p with j:=p.j+1,more:=p.more-1 } else
 let (i,perturb):=leap mask p.i p.perturb
 { p with j:=i,more:=runEnd mask i-i,i,perturb }
def Zip (t:SetTable) (p:Probe):t.advance p=adv t.mask p:=rfl
def at0 (mask:Nat) (x:Nat×Nat) (d:Nat):Probe:={ j:=x.1+d,more:=runEnd mask x.1-x.1-d,i:=x.1,perturb:=x.2,dummy:=none }
def seqP (mask b:Nat):Nat->Probe
 | 0=>at0 mask (run mask b 0) 0
 | k+1=>adv mask (seqP mask b k)
theorem Zaw {b k m:Nat} (h:seqP mask b k=at0 mask (run mask b m) 0):∀ d,d<=runEnd mask (run mask b m).1-(run mask b m).1->seqP mask b (k+d)=at0 mask (run mask b m) d
 | 0,_=>h
 | d+1,hd=>by
  show adv mask (seqP mask b (k+d))=_;rw [Zaw h d (by lia)];unfold adv at0;rw [if_pos (by show _ > 0; dsimp only; lia)];dsimp only
  congr 1
theorem Zc6 (mask b:Nat):∀ m,∃ k,k<=10*m/\seqP mask b k=at0 mask (run mask b m) 0
 | 0=>⟨0,by lia,rfl⟩
 | m+1=>by
  obtain ⟨k,hk,e⟩:=Zc6 mask b m;have hr:=Za2 mask b m;obtain ⟨h1,h2,h3⟩:=Sf mask _ hr;exists k+(runEnd mask (run mask b m).1-(run mask b m).1)+1,by lia,?_;show adv mask (seqP mask b (k+_))=_;rw [Zaw e _ (Jf _)];unfold adv at0;rw [if_neg (by dsimp only; lia)];rfl
theorem seq_at (mask b:Nat):∀ k,∃ m d,d<=runEnd mask (run mask b m).1-(run mask b m).1/\seqP mask b k=at0 mask (run mask b m) d
 | 0=>⟨0,0,Jv _,rfl⟩
 | k+1=>by
  obtain ⟨m,d,hd,e⟩:=seq_at mask b k
  by_cases h:d<runEnd mask (run mask b m).1-(run mask b m).1
  ·exists m,d+1,by lia,?_;show adv mask (seqP mask b k)=_;rw [e];unfold adv at0;rw [if_pos (by dsimp only; lia)];dsimp only
   congr 1
  ·exists m+1,0,Jv _,?_;show adv mask (seqP mask b k)=_;rw [e];unfold adv at0;rw [if_neg (by dsimp only; lia)];rfl
def sl (mask b k:Nat):Nat:=(seqP mask b k).j
theorem Zi6 (mask b k:Nat):sl mask b k<=mask:=by
 obtain ⟨m,d,hd,e⟩:=seq_at mask b k;obtain ⟨h1,h2,h3⟩:=Sf mask _ (Za2 mask b m);unfold sl;rw [e];show (run mask b m).1+d<=mask;lia
theorem Zhr {b:Nat} (hf:full (mask+1)=true) (hb:b<2 ^ 64) {j:Nat} (hj:j<=mask):∃ k,k<=10*(mask+13)/\sl mask b k=j:=by
 obtain ⟨m,hm,e⟩:=Zdi hf hb hj;obtain ⟨k,hk,e2⟩:=Zc6 mask b m;exists k,by lia,?_;unfold sl;rw [e2];show (run mask b m).1+0=j;rw [e,Nat.add_zero]
def Zc7 (mask b k:Nat):(seqP mask b k).dummy=none:=by
 obtain ⟨m,d,hd,e⟩:=seq_at mask b k;rw [e]; rfl
theorem Zab (h:Int):bits h<2 ^ 64:=by
 unfold bits;lia
theorem Qq (xs:Array Nat) (ri:xs.toList.Pairwise (· < ·)) (j:Nat):∀ (fuel lo hi:Nat),hi-lo<=fuel->lo<=hi->hi<=xs.size->(∀ m (h:m<xs.size),m<lo->xs[m]<j)->(∀ m (h:m<xs.size),hi<=m->j<=xs[m]) ->
  let i:=below.go xs j fuel lo hi
  i<=xs.size/\(∀ m (h:m<xs.size),m<i->xs[m]<j)/\∀ m (h:m<xs.size),i<=m->j<=xs[m]
 | 0,lo,hi,hf,hl,hh,h1,h2=>by
  have e:lo=hi:=by lia
  subst e;exists hh,h1,h2
 | fuel+1,lo,hi,hf,hl,hh,h1,h2=>by
  have rise:∀ a b (ha:a<xs.size) (hb:b<xs.size),a<b->xs[a]<xs[b]:=fun a b ha hb hab=>by
   have:=G9.mp ri a b (by simpa using ha) (by simpa using hb) hab;simpa using this
  dsimp only;rw [below.go]
  by_cases hlt:lo<hi
  ·rw [Df hlt];have hm:(lo+hi) / 2<xs.size:=by lia
   have eg:xs.getD ((lo+hi) / 2) j=xs[(lo+hi) / 2]:=by simp [Array.getD,hm]
   dsimp only;rw [eg]
   by_cases hc:xs[(lo+hi) / 2]<j
   ·rw [Df hc];refine Qq xs ri j fuel _ _ (by lia) (by lia) hh (fun m h hlt'=>?_) h2
    by_cases e:m=(lo+hi) / 2
    ·subst e; exact hc
    ·exact Nat.lt_trans (rise m _ h hm (by lia)) hc
   ·rw [De hc];refine Qq xs ri j fuel _ _ (by lia) (by lia) (by lia) h1 (fun m h hle=>?_)
    by_cases e:m=(lo+hi) / 2
    ·subst e; lia
    ·have:=rise _ m hm h (by lia); lia
  ·rw [De hlt];have e:lo=hi:=by lia
   subst e;exists hh,h1,h2
theorem T8 (xs:Array Nat) (ri:xs.toList.Pairwise (· < ·)) (j:Nat):below xs j<=xs.size/\(∀ m (h:m<xs.size),m<below xs j->xs[m]<j)/\∀ m (h:m<xs.size),below xs j<=m->j<=xs[m] :=
 Qq xs ri j xs.size 0 xs.size (by lia) (by lia) (Jf _) (fun m h hm=>absurd hm (by lia)) (fun m h hm=>absurd h (by lia))
theorem Zhe {xs:Array Nat} (ri:xs.toList.Pairwise (· < ·)) {i j:Nat} (h:xs[i]?=some j):below xs j=i:=by
 obtain ⟨hi,e⟩:=Array.getElem?_eq_some_iff.mp h;obtain ⟨b1,b2,b3⟩:=T8 xs ri j;have rise:∀ a b (ha:a<xs.size) (hb:b<xs.size),a<b->xs[a]<xs[b]:=fun a b ha hb hab=>by
  have:=G9.mp ri a b (by simpa using ha) (by simpa using hb) hab;simpa using this
 rcases Nat.lt_trichotomy (below xs j) i with z | z | z
 ·have h1:=b3 (below xs j) (by lia) (Jf _);have:=rise _ i (by lia) hi z;lia
 ·exact z
 ·have:=b2 i hi z;lia
theorem Zmj {P:Nat->Prop} (n:Nat) (h:P n):∃ m,m<=n/\P m/\∀ k,k<m->¬ P k:=by
 induction n using Nat.strongRecOn with
 | ind n ih =>
  by_cases q:∃ k,k<n/\P k
  ·obtain ⟨k,hk,p⟩:=q;obtain ⟨m,h1,h2,h3⟩:=ih k hk p;exists m,by lia,h2,h3
  ·exists n,Jf _,h,fun k hk p=>q ⟨k,hk,p⟩
theorem Zh5:∀ {A B:List Nat},A.Nodup->(∀ x∈A,x∈B)->A.length<=B.length
 | [],_,_,_=>Jv _
 | a::A,B,nd,h=>by
  obtain ⟨n1,n2⟩:=G7.mp nd;have hb:a∈B:=h a Jl;have:=Zh5 (B:=B.erase a) n2 fun x hx=>by
   have ne:x≠a:=fun e=>n1 (e ▸ hx);rw [List.mem_erase_of_ne ne];exact h x (Jj _ hx)
  rw [List.length_erase_of_mem hb] at this;have:=Ff hb;rw [Jq];lia
theorem hole {l:List Nat} {N:Nat} (h:l.length<N):∃ j,j<N/\j∉l:=by
 by_cases q:∃ j,j<N/\j∉l
 ·exact q
 ·have:=Zh5 (A:=List.range N) (B:=l) List.nodup_range fun x hx=>by
   by_cases z:x∈l
   ·exact z
   ·exact absurd ⟨x,Bd.mp hx,z⟩ q
  rw [Bo] at this;lia
abbrev TL:=List (Nat×(Int×Value))
structure TOk (t:SetTable) (L:TL):Prop where
 place:t.place=(L.map (·.1)).toArray
 dum:t.dummies=#[]
 rise:(L.map (·.1)).Pairwise (· < ·)
 top:∀ e∈L,e.1<=t.mask
 ful:full (t.mask+1)=true
 odd:t.mask % 2=1
 room:L.length<=t.mask
 reach:∀ e∈L,∃ k,k<=10*(t.mask+13)/\sl t.mask (bits e.2.1) k=e.1/\∀ m,m<k->sl t.mask (bits e.2.1) m∈L.map (·.1)
section
variable {t:SetTable} {L:TL}
def TOk.ri (T:TOk t L):t.place.toList.Pairwise (· < ·):=by rw [T.place]; exact T.rise
def TOk.live (T:TOk t L) {i:Nat} {e:Nat×(Int×Value)} (h:L[i]?=some e):t.slot e.1=.live i:=by
 have hp:t.place[i]?=some e.1:=by
  rw [T.place,Bb,Js,h];rfl
 unfold slot;dsimp only;rw [Zhe T.ri hp,hp,beq_self_eq_true,Df rfl]
def TOk.empty (T:TOk t L) {j:Nat} (h:j∉L.map (·.1)):t.slot j=.empty:=by
 unfold slot;dsimp only;rw [De,De]
 ·intro q;unfold has at q;rw [T.dum] at q;cases q
 ·intro q;have q:=eq_of_beq q;refine h ?_;rw [T.place,Bb] at q;exact Gb q
def TOk.at_of (T:TOk t L) {j:Nat} (h:j∈L.map (·.1)):∃ (i:Nat) (e:Nat×(Int×Value)),L[i]?=some e/\e.1=j:=by
 obtain ⟨e,he,rfl⟩:=Jp.mp h;obtain ⟨i,hi,rfl⟩:=Gd he;exists i,_,Jb hi,rfl
theorem TOk.free (T:TOk t L) (b:Nat) (hb:b<2 ^ 64):∃ k,k<=10*(t.mask+13)/\sl t.mask b k∉L.map (·.1)/\∀ m,m<k->sl t.mask b m∈L.map (·.1):=by
 obtain ⟨j,hj,hn⟩:=hole (l:=L.map (·.1)) (N:=t.mask+1) (by rw [Ja]; have:=T.room; lia);obtain ⟨k,hk,e⟩:=Zhr T.ful hb (j:=j) (by lia);obtain ⟨m,h1,h2,h3⟩:=Zmj (P:=fun k=>sl t.mask b k∉L.map (·.1)) k (by rw [e]; exact hn);exact ⟨m,by lia,h2,fun q hq=>by
  have:=h3 q hq
  by_cases z:sl t.mask b q∈L.map (·.1)
  ·exact z
  ·exact absurd z this⟩
def Zjb (mask b k:Nat):(seqP mask b k).j=sl mask b k:=rfl
theorem Th {h:Int} {b:Nat}:∀ (d k f:Nat),(∀ m,k<=m->m<k+d->∃ i,t.slot (sl t.mask b m)=.live i/\(ha i == h)=false)->d<=f->probe.go t ha h f (seqP t.mask b k)=probe.go t ha h (f-d) (seqP t.mask b (k+d))
 | 0,k,f,_,_=>rfl
 | d+1,k,0,_,hf=>absurd hf (by lia)
 | d+1,k,f+1,hh,hf=>by
  obtain ⟨i,e1,e2⟩:=hh k (Jf _) (by lia);rw [probe.go,Zjb,e1];dsimp only;rw [e2,De Jo,Zip];have:=Th d (k+1) f (fun m h1 h2=>hh m (by lia) (by lia)) (by lia);rw [show k+1+d=k+(d+1) by lia] at this;rw [show f+1-(d+1)=f-d by lia];exact this
def Nr {h:Int} {b k f:Nat} (e:t.slot (sl t.mask b k)=.empty):probe.go t ha h (f+1) (seqP t.mask b k)=some (.empty (sl t.mask b k) none):=by
 rw [probe.go,Zjb,e];dsimp only;rw [Zc7]
def Zdy {h:Int} {b k f i:Nat} (e:t.slot (sl t.mask b k)=.live i) (q:(ha i == h)=true):probe.go t ha h (f+1) (seqP t.mask b k)=some (.candidate (sl t.mask b k) i (seqP t.mask b (k+1))):=by
 rw [probe.go,Zjb,e];dsimp only;rw [q,Df rfl,Zip];rfl
theorem TOk.met (T:TOk t L) {h:Int} {b k k0:Nat} (hk:k<=k0) (h0:k0<=10*(t.mask+13)) (fr:sl t.mask b k0∉L.map (·.1)) (tk:∀ m,m<k0->sl t.mask b m∈L.map (·.1)) :
  (t.probe ha h (seqP t.mask b k)=some (.empty (sl t.mask b k0) none)/\∀ m,k<=m->m<k0->∃ i,t.slot (sl t.mask b m)=.live i/\(ha i == h)=false) \/
  ∃ m i e,k<=m/\m<k0/\L[i]?=some e/\e.1=sl t.mask b m/\(ha i == h)=true/\t.probe ha h (seqP t.mask b k)=some (.candidate (sl t.mask b m) i (seqP t.mask b (m+1)))/\∀ q,k<=q->q<m->∃ i,t.slot (sl t.mask b q)=.live i/\(ha i == h)=false:=by
 have lv:∀ m,m<k0->∃ i e,L[i]?=some e/\e.1=sl t.mask b m/\t.slot (sl t.mask b m)=.live i:=fun m hm=>by
  obtain ⟨i,e,h1,h2⟩:=T.at_of (tk m hm);exact ⟨i,e,h1,h2,by rw [<- h2]; exact T.live h1⟩
 by_cases q:∃ m,k<=m/\m<k0/\∃ i,t.slot (sl t.mask b m)=.live i/\(ha i == h)=true
 ·obtain ⟨m',h1,h2,h3⟩:=q;obtain ⟨m,g1,⟨g2,g3,i,g4,g5⟩,g6⟩:=Zmj (P:=fun m=>k<=m/\m<k0/\∃ i,t.slot (sl t.mask b m)=.live i/\(ha i == h)=true) m' ⟨h1,h2,h3⟩;have ov:∀ q,k<=q->q<m->∃ i,t.slot (sl t.mask b q)=.live i/\(ha i == h)=false:=fun q hq hm=>by
   obtain ⟨i',e',z1,z2,z3⟩:=lv q (by lia);exists i',z3,?_;cases z:ha i' == h with
   | false=>rfl
   | true=>exact absurd ⟨hq,by lia,i',z3,z⟩ (g6 q hm)
  obtain ⟨i',e',z1,z2,z3⟩:=lv m g3;have ei:i'=i:=by rw [g4] at z3; cases z3; rfl
  subst ei;refine .inr ⟨m,i',e',g2,g3,z1,z2,g5,?_,ov⟩;unfold probe;rw [Th (b:=b) (m-k) k _ (fun q h1 h2=>ov q h1 (by lia)) (by unfold turns; lia),show k+(m-k)=m by lia];obtain ⟨f,hf⟩:∃ f,10*turns t.mask-(m-k)=f+1:=⟨10*turns t.mask-(m-k)-1,by unfold turns; lia⟩;rw [hf];exact Zdy g4 g5
 ·have ov:∀ m,k<=m->m<k0->∃ i,t.slot (sl t.mask b m)=.live i/\(ha i == h)=false:=fun m h1 h2=>by
   obtain ⟨i',e',z1,z2,z3⟩:=lv m h2;exists i',z3,?_;cases z:ha i' == h with
   | false=>rfl
   | true=>exact absurd ⟨m,h1,h2,i',z3,z⟩ q
  refine .inl ⟨?_,ov⟩;unfold probe;rw [Th (b:=b) (k0-k) k _ (fun q h1 h2=>ov q h1 (by lia)) (by unfold turns; lia),show k+(k0-k)=k0 by lia];obtain ⟨f,hf⟩:∃ f,10*turns t.mask-(k0-k)=f+1:=⟨10*turns t.mask-(k0-k)-1,by unfold turns; lia⟩;rw [hf];exact Nr (T.empty fr)
end
section
variable {t:SetTable} {L:TL}
def Zmt {α:Type} (l:List α) {p:Nat} (hp:p<=l.length) (x:α):insertAt l.toArray p x=(l.take p++x::l.drop p).toArray:=by
 unfold insertAt
 apply Array.ext'
 simp;rw [G8 (by simp)]
def insL (L:TL) (p:Nat) (e:Nat×(Int×Value)):TL:=L.take p++e::L.drop p
def Qc {p:Nat} {e x:Nat×(Int×Value)}:x∈insL L p e↔x=e\/x∈L:=by
 unfold insL;rw [Jn,Ju]
 conv=>rhs; rw [<- Gv p L,Jn]
 constructor
 ·rintro (h | h | h)
  ·exact .inr (.inl h)
  ·exact .inl h
  ·exact .inr (.inr h)
 ·rintro (h | h | h)
  ·exact .inr (.inl h)
  ·exact .inl h
  ·exact .inr (.inr h)
def Pl {p:Nat} {e:Nat×(Int×Value)}:(insL L p e).Perm (e::L):=by
 unfold insL;refine List.perm_middle.trans ?_;rw [Gv]
theorem TOk.put (T:TOk t L) {h:Int} {x:Value} {k:Nat} (hk:k<=10*(t.mask+13)) (fr:sl t.mask (bits h) k∉L.map (·.1)) (tk:∀ m,m<k->sl t.mask (bits h) m∈L.map (·.1)) (ro:L.length+1<=t.mask) {t':SetTable} (em:t'.mask=t.mask) (ep:t'.place=(t.put (sl t.mask (bits h) k)).1.place) (ed:t'.dummies=(t.put (sl t.mask (bits h) k)).1.dummies) :
  ∃ p,(t.put (sl t.mask (bits h) k)).2=p/\insertAt (L.map (·.2)).toArray p (h,x)=((insL L p (sl t.mask (bits h) k,(h,x))).map (·.2)).toArray/\TOk t' (insL L p (sl t.mask (bits h) k,(h,x))):=by
 generalize ej:sl t.mask (bits h) k=j at *
 obtain ⟨b1,b2,b3⟩:=T8 t.place T.ri j;have lp:t.place.size=L.length:=by rw [T.place,Jg,Ja]
 rw [lp] at b1;have e1:∀ {α:Type} (f:Nat×(Int×Value)->α) (e:Nat×(Int×Value)),insertAt (L.map f).toArray (below t.place j) (f e)=((insL L (below t.place j) e).map f).toArray:=fun f e=>by
  rw [Zmt _ (by rw [Ja]; exact b1)];unfold insL;rw [Jm,Jr,Fi,Fj]
 have at_:∀ (m:Nat) (hm:m<L.length),∃ hm':m<t.place.size,t.place[m]=(L[m]).1:=fun m hm=>⟨by lia,by
  have:t.place[m]?=(L.map (·.1))[m]?:=by rw [T.place,Bb]
  rw [Gm (by lia),Js,Jb hm] at this;exact Di this⟩
 refine ⟨below t.place j,rfl,e1 (·.2) (j,(h,x)),?_⟩;have memF:∀ {i:Nat},i∈L.map (·.1)->i∈(insL L (below t.place j) (j,(h,x))).map (·.1):=fun {i} hi=>by
  obtain ⟨e,he,rfl⟩:=Jp.mp hi;exact Jp.mpr ⟨e,Qc.mpr (.inr he),rfl⟩
 exists ?_,?_,?_,?_,by rw [em]; exact T.ful,by rw [em]; exact T.odd,?_,?_
 ·rw [ep];show insertAt t.place (below t.place j) j=_;have:=e1 (·.1) (j,(h,x));rw [<- T.place] at this;exact this
 ·rw [ed];show (if has t.dummies j=true then _ else t.dummies)=#[];rw [De,T.dum];unfold has;rw [T.dum];exact fun q=>by cases q
 ·unfold insL;rw [Jm,Jr,Fi,Fj];refine Fn.mpr ⟨T.rise.sublist (List.take_sublist _ _),Ft.mpr ⟨fun i hi=>?_,T.rise.sublist (List.drop_sublist _ _)⟩,fun a ha c hc=>?_⟩
  ·obtain ⟨m,hm,rfl⟩:=Gd hi;rw [Gh,Ja] at hm;rw [List.getElem_drop,Gk];obtain ⟨hm',e⟩:=at_ (below t.place j+m) (by lia);have:=b3 (below t.place j+m) hm' (by lia);rw [e] at this;have ne:j≠(L[below t.place j+m]'(by lia)).1:=fun q=>fr (Jp.mpr ⟨_,Ge (by lia),q.symm⟩);show j<(L[below t.place j+m]'(by lia)).1;lia
  ·have ha':a<j:=by
    obtain ⟨m,hm,rfl⟩:=Gd ha;rw [Jz,Ja] at hm;rw [Fl,Gk];obtain ⟨hm',e⟩:=at_ m (by lia);have:=b2 m hm' (by lia);rw [e] at this;exact this
   rcases Ju.mp hc with rfl | hc
   ·exact ha'
   ·obtain ⟨m,hm,rfl⟩:=Gd hc;rw [Gh,Ja] at hm;rw [List.getElem_drop,Gk];obtain ⟨hm',e⟩:=at_ (below t.place j+m) (by lia);have:=b3 (below t.place j+m) hm' (by lia);rw [e] at this;show a<(L[below t.place j+m]'(by lia)).1;lia
 ·intro e he;rw [em];rcases Qc.mp he with rfl | he
  ·show j<=t.mask;rw [<- ej];exact Zi6 _ _ _
  ·exact T.top e he
 ·rw [Pl.length_eq,Jq,em];exact ro
 ·intro e he;rw [em];rcases Qc.mp he with rfl | he
  ·exists k,hk,ej,fun m hm=>memF (tk m hm)
  ·obtain ⟨q,h1,h2,h3⟩:=T.reach e he;exists q,h1,h2,fun m hm=>memF (h3 m hm)
end
def tkn (ow:Array (Option Nat)) (j:Nat):Bool:=!(ow.getD j (some 0)).isNone
theorem Ze0 {ow:Array (Option Nat)} {b:Nat} (hf:full (mask+1)=true) (hb:b<2 ^ 64) (ho:∃ j,j<=mask/\tkn ow j=false):∀ (f m k:Nat),m+f=mask+15->seqP mask b k=at0 mask (run mask b m) 0->(∀ q,q<k->tkn ow (sl mask b q)=true)->(∀ q,q<m->tkn ow (run mask b q).1=true) ->
  ∃ k',layClean.free mask ow f (run mask b m).1 (run mask b m).2=some (sl mask b k')/\tkn ow (sl mask b k')=false/\∀ q,q<k'->tkn ow (sl mask b q)=true
 | 0,m,k,hm,_,_,hr=>by
  obtain ⟨j,hj,hn⟩:=ho;obtain ⟨q,hq,e⟩:=Zdi hf hb hj;have:=hr q (by lia);rw [e,hn] at this;cases this
 | f+1,m,k,hm,hs,ht,hr=>by
  obtain ⟨g1,g2,g3⟩:=Sf mask _ (Za2 mask b m);have at_:∀ d,d<=runEnd mask (run mask b m).1-(run mask b m).1->sl mask b (k+d)=(run mask b m).1+d:=fun d hd=>by
   unfold sl;rw [Zaw hs d hd];rfl
  rw [layClean.free];cases e:(List.range (runEnd mask (run mask b m).1+1-(run mask b m).1)).find? (fun k=>(ow.getD ((run mask b m).1+k) (some 0)).isNone) with
  | some d =>
   obtain ⟨h1,h2,h3⟩:=List.find?_range_eq_some.mp e;have hd:=Bd.mp h2;exists k+d,by rw [at_ d (by lia)],?_,fun q hq=>?_
   ·rw [at_ d (by lia)];unfold tkn;rw [h1];rfl
   ·by_cases z:q<k
    ·exact ht q z
    ·have:=h3 (q-k) (by lia);rw [<- at_ (q-k) (by lia),show k+(q-k)=q by lia] at this;exact this
  | none =>
   have h1:=List.find?_range_eq_none.mp e;have all:∀ d,d<=runEnd mask (run mask b m).1-(run mask b m).1->tkn ow ((run mask b m).1+d)=true:=fun d hd=>h1 d (by lia);refine Ze0 hf hb ho f (m+1) (k+(runEnd mask (run mask b m).1-(run mask b m).1)+1) (by lia) ?_ (fun q hq=>?_) fun q hq=>?_
   ·show adv mask (seqP mask b (k+_))=_;rw [Zaw hs _ (Jf _)];unfold adv at0;rw [if_neg (by dsimp only; lia)];rfl
   ·by_cases z:q<k
    ·exact ht q z
    ·have:=all (q-k) (by lia);rw [<- at_ (q-k) (by lia),show k+(q-k)=q by lia] at this;exact this
   ·by_cases z:q<m
    ·exact hr q z
    ·have:=all 0 (Jv _);rw [Nat.add_zero] at this;rw [show q=m by lia];exact this
structure LayInv (mask:Nat) (hs:List Int) (ow:Array (Option Nat)) (js:List Nat):Prop where
 len:js.length=hs.length
 size:ow.size=mask+1
 nd:js.Nodup
 top:∀ j∈js,j<=mask
 own:∀ (j i:Nat),j<=mask->(ow.getD j none=some i↔js[i]?=some j)
 reach:∀ (i:Nat) (h:Int) (j:Nat),hs[i]?=some h->js[i]?=some j->∃ k,k<=10*(mask+13)/\sl mask (bits h) k=j/\∀ q,q<k->sl mask (bits h) q∈js
section
variable {hs:List Int} {ow:Array (Option Nat)} {js:List Nat}
theorem LayInv.tk (I:LayInv mask hs ow js) {j:Nat} (hj:j<=mask):tkn ow j=true↔j∈js:=by
 have hz:j<ow.size:=by rw [I.size]; lia
 have e1:ow.getD j (some 0)=ow[j]:=by rw [Gz,Gm hz]; rfl
 have e2:ow.getD j none=ow[j]:=by rw [Gz,Gm hz]; rfl
 unfold tkn;rw [e1]
 constructor
 ·intro h;cases q:ow[j] with
  | none=>rw [q] at h; cases h
  | some i=>exact Gb ((I.own j i hj).mp (by rw [e2,q]))
 ·intro h;obtain ⟨i,hi,e⟩:=Gd h;have:=(I.own j i hj).mpr (by rw [Jb hi,e]);rw [e2] at this;rw [this];rfl
theorem LayInv.more (I:LayInv mask hs ow js) (hf:full (mask+1)=true) (hl:hs.length+1<=mask) (h:Int):∃ j,layClean.free mask ow (turns mask) (bits h % (mask+1)) (bits h)=some j/\LayInv mask (hs++[h]) (ow.setIfInBounds j (some hs.length)) (js++[j]):=by
 obtain ⟨jh,hj1,hj2⟩:=hole (l:=js) (N:=mask+1) (by rw [I.len]; lia);have hn:tkn ow jh=false:=by
  cases z:tkn ow jh with
  | false=>rfl
  | true=>exact absurd ((I.tk (by lia)).mp z) hj2
 obtain ⟨k,e,fr,tk⟩:=Ze0 (b:=bits h) hf (Zab h) ⟨jh,by lia,hn⟩ (mask+15) 0 0 (by lia) rfl (fun q hq=>absurd hq (by lia)) fun q hq=>absurd hq (by lia);have hk:k<=10*(mask+13):=by
  obtain ⟨k1,h1,h2⟩:=Zhr hf (Zab h) (j:=jh) (by lia)
  by_cases z:k<=k1
  ·lia
  ·have:=tk k1 (by lia);rw [h2,hn] at this;cases this
 have hle:=Zi6 mask (bits h) k;have hnew:sl mask (bits h) k∉js:=fun z=>by
  rw [(I.tk hle).mpr z] at fr;cases fr
 exists sl mask (bits h) k,e,?_,?_,?_,?_,?_,?_
 ·rw [Jc,Jc,I.len]; rfl
 ·rw [Array.size_setIfInBounds]; exact I.size
 ·refine Ba.mpr ⟨I.nd,G7.mpr ⟨Gw,G6⟩,fun a ha b hb q=>?_⟩;rw [Je.mp hb] at q;exact hnew (q ▸ ha)
 ·intro j hj;rcases Jn.mp hj with z | z
  ·exact I.top j z
  ·rw [Je.mp z]; exact hle
 ·intro j i hj;have hz:j<ow.size:=by rw [I.size]; lia
  rw [Gz,Array.getElem?_setIfInBounds]
  by_cases q:sl mask (bits h) k=j
  ·rw [Df q,Df (by rw [q]; exact hz)];subst q;show some hs.length=some i↔_
   constructor
   ·intro z;cases z;rw [<- I.len,B2]
   ·intro z
    by_cases y:i<js.length
    ·rw [Jx y] at z;exact absurd (Gb z) hnew
    ·have:i<(js++[sl mask (bits h) k]).length:=(Jh.mp z).1;rw [Jc,Go] at this;rw [show i=hs.length by rw [<- I.len]; lia]
  ·rw [De q];have:=I.own j i hj;rw [Gz] at this;rw [this]
   by_cases y:i<js.length
   ·rw [Jx y]
   ·constructor
    ·intro z;have:=(Jh.mp z).1;lia
    ·intro z;have h1:i<(js++[sl mask (bits h) k]).length:=(Jh.mp z).1;rw [Jc,Go] at h1;rw [show i=js.length by lia,B2] at z;exact absurd (Di z) q
 ·intro i h' j h1 h2
  by_cases y:i<js.length
  ·rw [Jx y] at h2;rw [Jx (by rw [<- I.len]; exact y)] at h1;obtain ⟨k',z1,z2,z3⟩:=I.reach i h' j h1 h2;exists k',z1,z2,fun q hq=>Jw _ (z3 q hq)
  ·have hi:i<(js++[sl mask (bits h) k]).length:=(Jh.mp h2).1;rw [Jc,Go] at hi;rw [show i=js.length by lia,B2] at h2;rw [show i=hs.length by rw [<- I.len]; lia,B2] at h1;cases h1;cases h2;exists k,hk,rfl,fun q hq=>Jw _ ((I.tk (Zi6 _ _ _)).mp (tk q hq))
def Zf8 (mask:Nat) (acc:Option (Array (Option Nat)×Nat)) (h:Int):Option (Array (Option Nat)×Nat):=do
 let (owner,k) <- acc
 let j <- layClean.free mask owner (turns mask) (bits h % (mask+1)) (bits h)
 pure (owner.setIfInBounds j (some k),k+1)
theorem Zbe (hf:full (mask+1)=true):∀ (r hs:List Int) (ow:Array (Option Nat)) (js:List Nat),LayInv mask hs ow js->hs.length+r.length<=mask->∃ ow' js',r.foldl (Zf8 mask) (some (ow,hs.length))=some (ow',hs.length+r.length)/\LayInv mask (hs++r) ow' js'
 | [],hs,ow,js,I,_=>⟨ow,js,rfl,by rw [Ga]; exact I⟩
 | h::r,hs,ow,js,I,hl=>by
  rw [Jq] at hl;obtain ⟨j,e,I'⟩:=I.more hf (by lia) h;obtain ⟨ow',js',e',J⟩:=Zbe hf r (hs++[h]) _ _ I' (by rw [Jc,Go]; lia);refine ⟨ow',js',?_,by rw [Jt] at J; exact J⟩;rw [List.foldl_cons];rw [Jc,Go] at e';have:Zf8 mask (some (ow,hs.length)) h=some (ow.setIfInBounds j (some hs.length),hs.length+1):=by
   unfold Zf8;rw [Option.bind_eq_bind,Option.bind_some];dsimp only;rw [e];rfl
  rw [this,e',Jq]
  congr 2
  lia
theorem Zmk (hf:full (mask+1)=true) (hashes:Array Int) (hl:hashes.size<=mask):∃ ow js,layClean mask hashes=some ow/\LayInv mask hashes.toList ow js:=by
 have I0:LayInv mask [] (Array.replicate (mask+1) none) []:=by
  exists rfl,Array.size_replicate,G6,fun j hj=>(Gw hj).elim,fun j i hj=>?_,fun i h j h1=>?_
  ·rw [Gz,Array.getElem?_replicate,Df (by lia)];exists fun z=>(by cases z),fun z=>(by cases z)
  ·cases h1
 obtain ⟨ow,js,e,J⟩:=Zbe hf hashes.toList [] _ _ I0 (by simpa using hl);exists ow,js,?_,J;unfold layClean;rw [<- Array.foldl_toList];show Option.map _ (hashes.toList.foldl (Zf8 mask) (some (Array.replicate (mask+1) none,0)))=_;rw [show (0:Nat)=([]:List Int).length from rfl,e];rfl
end
theorem U3 {α:Type} {f:α->Option β} {g:α->β}:∀ {l:List α},(∀ x∈l,f x=some (g x))->l.filterMap f=l.map g
 | [],_=>rfl
 | x::l,h=>by
  rw [B0,h x Jl,Jr,U3 fun y hy=>h y (Jj _ hy)]
theorem Nk {g:Nat->Option Nat}:∀ {l:List Nat},(l.filterMap fun j=>(g j).map (j,·)).map (·.1)=l.filter fun j=>(g j).isSome
 | []=>rfl
 | j::l=>by
  rw [B0,B4];cases e:g j with
  | none=>exact Nk
  | some i =>
   rw [Option.map_some,Option.isSome_some,Df rfl];dsimp only;rw [Jr,Nk]
theorem Zjx {finger moves:Nat} {led plain:Bool} (hf:full (mask+1)=true) (od:mask % 2=1) {es:List (Int×Value)} (hl:es.length<=mask) :
  ∃ (t':SetTable) (order:Array Nat) (L':TL),laid mask finger moves led plain (es.toArray.map (·.1))=some (t',order)/\order.filterMap (es.toArray[·]?)=(L'.map (·.2)).toArray/\TOk t' L'/\(L'.map (·.2)).Perm es/\t'.mask=mask/\t'.led=led/\t'.plain=plain/\coversAll order es.length=true:=by
 obtain ⟨ow,js,e,I⟩:=Zmk hf (es.toArray.map (·.1)) (by simpa using hl);have eh:(es.toArray.map (·.1)).toList=es.map (·.1):=by simp
 rw [eh] at I
 let live:List (Nat×Nat):=(List.range (mask+1)).filterMap fun j=>(ow.getD j none).map (j,·)
 have hlive:live=(List.range (mask+1)).filterMap fun j=>(ow.getD j none).map (j,·):=rfl;have lm:∀ (j i:Nat),(j,i)∈live↔js[i]?=some j:=fun j i=>by
  rw [hlive,Gp]
  constructor
  ·rintro ⟨j',h1,h2⟩;cases q:ow.getD j' none with
   | none=>rw [q] at h2; cases h2
   | some i' =>
    rw [q] at h2;cases h2;exact (I.own j i (by have:=Bd.mp h1; lia)).mp q
  ·intro h;have hj:=I.top j (Gb h);exact ⟨j,Bd.mpr (by lia),by rw [(I.own j i hj).mpr h]; rfl⟩
 have nlen:js.length=es.length:=by rw [I.len,Ja]
 have ix:∀ p∈live,p.2<es.length:=fun p hp=>by
  have:=(Jh.mp ((lm p.1 p.2).mp hp)).1;lia
 have gt:∀ p∈live,es[p.2]?=some (es.getD p.2 (0,.none)):=fun p hp=>by
  rw [J8,Jb (ix p hp)];rfl
 let L':TL:=live.map fun p=>(p.1,es.getD p.2 (0,.none))
 have hL':L'=live.map fun p=>(p.1,es.getD p.2 (0,.none)):=rfl;have f1:L'.map (·.1)=live.map (·.1):=by rw [hL',Gn]; rfl
 have f2:L'.map (·.2)=(live.map (·.2)).map fun i=>es.getD i (0,.none):=by rw [hL',Gn,Gn]; rfl
 have ri:(live.map (·.1)).Pairwise (· < ·):=by
  rw [hlive,Nk];exact List.pairwise_lt_range.sublist Fs
 have nd2:(live.map (·.2)).Nodup:=by
  refine Gy.mpr ((Gy.mp ri).imp_of_mem fun {a b} ha hb hab q=>?_);have h1:=(lm a.1 a.2).mp ha;have h2:=(lm b.1 b.2).mp hb;rw [q,h2] at h1;have:=Di h1;lia
 have pm:(live.map (·.2)).Perm (List.range es.length):=(List.perm_ext_iff_of_nodup nd2 List.nodup_range).mpr fun i=>by
  rw [Jp,Bd]
  constructor
  ·rintro ⟨p,hp,rfl⟩;exact ix p hp
  ·intro hi;exists (js[i]'(by lia),i),(lm _ _).mpr (Jb (by lia)),rfl
 have er:(List.range es.length).map (fun i=>es.getD i (0,.none))=es:=by
  apply List.ext_getElem
  ·rw [Ja,Bo]
  ·intro i h1 h2;rw [Gk,List.getElem_range,J8,Jb h2];rfl
 have pe:(L'.map (·.2)).Perm es:=by
  rw [f2];have:=pm.map fun i=>es.getD i (0,.none);rw [er] at this;exact this
 have mj:∀ j,j∈L'.map (·.1)↔j∈js:=fun j=>by
  rw [f1,Jp]
  constructor
  ·rintro ⟨p,hp,rfl⟩;exact Gb ((lm p.1 p.2).mp hp)
  ·intro hj;obtain ⟨i,hi,q⟩:=Gd hj;exists (j,i),(lm j i).mpr (by rw [Jb hi,q]),rfl
 exists { mask,place:=(live.map (·.1)).toArray,dummies:=#[],finger,led,moves,plain },(live.map (·.2)).toArray,L',?_,?_,⟨?_,rfl,?_,?_,hf,od,?_,?_⟩,pe,rfl,rfl,rfl,List.isPerm_iff.mpr pm
 ·unfold laid;rw [e];rfl
 ·rw [f2,List.filterMap_toArray,U3 (g:=fun i=>es.getD i (0,.none))];intro i hi;obtain ⟨p,hp,rfl⟩:=Jp.mp hi;rw [Bb];exact gt p hp
 ·show (live.map (·.1)).toArray=_;rw [f1]
 ·rw [f1]; exact ri
 ·intro x hx;exact I.top _ ((mj _).mp (Jp.mpr ⟨x,hx,rfl⟩))
 ·show L'.length<=mask;rw [<- Ja (f:=(·.2)) (as:=L'),pe.length_eq];exact hl
 ·intro x hx;rw [hL'] at hx;obtain ⟨p,hp,rfl⟩:=Jp.mp hx;have h1:=(lm p.1 p.2).mp hp;obtain ⟨k,z1,z2,z3⟩:=I.reach p.2 (es.getD p.2 (0,.none)).1 p.1 (by rw [Js,gt p hp]; rfl) h1;exists k,z1,z2,fun m hm=>(mj _).mpr (z3 m hm)
def Zmy:full 8=true:=by decide +kernel
def Zmz:full 32=true:=by decide +kernel
def Zj8:full 128=true:=by decide +kernel
section
variable {K:Type} [DecidableEq K] {knd:KeyKind prog w K} 
theorem Sk (n:Nat) {v:Value} (h:carriedByValue v=true):ofAClassStatement n v=pure false:=by
 cases v with
 | ref a=>simp [carriedByValue] at h
 | _=>first | rfl | simp [ofAClassStatement] | (unfold ofAClassStatement; rfl)
def Uw {ks:List K} {a:Addr} {Q:Bool->Shared->Prop} (hk:IsTupleKey knd s.heap ks a) (h:Q false s):wpAny (model prog w) A (ofAClassStatement 8 (.ref a)) Q E s:=by
 have hT:=hk.typeIs;obtain ⟨o,items,n,ho,_,hd,hi⟩:=hk;unfold ofAClassStatement;refine Fz (wpAny_typeOf hT ?_);dsimp only;rw [Df nofun];refine Fz (Da ?_);simp only [B3,Gf,if_false];refine Fz (wpAny_seqItems ho hd ?_);dsimp only;refine Fz ?_;rw [<- Array.forIn_toList];refine wpAny_forIn_list _ (fun rest r s'=>r.1=none/\s'=s/\∀ v∈rest,carriedByValue v=true) _ ?_ ?_ _ _ ⟨rfl,rfl,hi.byValue⟩
 ·rintro v rest r s' ⟨hr,rfl,hall⟩;rw [Sk _ (hall v Jl)];refine Fz (Da ?_);simp only [Gf,if_false];exact Da ⟨rfl,rfl,fun u hu'=>hall u (Jj _ hu')⟩
 ·rintro ⟨r1,r2⟩ s' ⟨hr,rfl,_⟩;simp only at hr;subst hr;exact Da h
def Pq {ks:List K} {a:Addr} {Q:Bool->Shared->Prop} (hb:∀ (k:K) (v:Value) (n:Nat),knd.is k v=true->hashByValue n v=pure true) (hk:IsTupleKey knd s.heap ks a) (h:Q true s):wpAny (model prog w) A (hashByValue 8 (.ref a)) Q E s:=by
 have hT:=hk.typeIs;obtain ⟨o,items,n,ho,_,hd,hi⟩:=hk;unfold hashByValue;refine Fz (wpAny_specialOf hT F.slot_tuple_hash.lookup ?_);show wpAny _ _ (seqItems? (.ref a) >>= _) _ _ s;refine Fz (wpAny_seqItems ho hd ?_);refine Fz ?_;show wpAny _ _ (forIn items _ _) _ _ s;rw [<- Array.forIn_toList];refine wpAny_forIn_list _ (fun rest r s'=>r.1=none/\s'=s/\∃ left,ItemsAre knd left rest) _ ?_ ?_ _ _ ⟨rfl,rfl,ks,hi⟩
 ·rintro v rest r s' ⟨hr,rfl,left,hall⟩;cases hall with
  | cons h1 h2 =>
   rw [hb _ _ _ h1];refine Fz (Da ?_);simp only [B3,Gf,if_false];exact Da ⟨rfl,rfl,_,h2⟩
 ·rintro ⟨r1,r2⟩ s' ⟨hr,rfl,_⟩;simp only at hr;subst hr;exact Da h
def Zkv {kx:List K} {xb:Addr} {stored:List Value} {Q:Bool->Shared->Prop} (hx:IsTupleKey knd s.heap kx xb) (hs:∀ y∈stored,∃ ky yb,y=.ref yb/\IsTupleKey knd s.heap ky yb) (h:Q false s):wpAny (model prog w) A (searchCouldBeSeen (.ref xb) stored) Q E s:=by
 unfold searchCouldBeSeen;refine Fz ?_;refine wpAny_forIn_list _ (fun rest r s'=>r.1=none/\s'=s/\∀ y∈rest,∃ ky yb,y=.ref yb/\IsTupleKey knd s.heap ky yb) _ ?_ ?_ _ _ ⟨rfl,rfl,hs⟩
 ·rintro y rest r s' ⟨hr,rfl,hall⟩;obtain ⟨ky,yb,rfl,hy⟩:=hall y Jl;dsimp only
  split
  ·exact Da ⟨rfl,rfl,fun u hu=>hall u (Jj _ hu)⟩
  ·refine Fz (wpAny_eqIsQuiet_tuple hx ?_);simp only [B3,Gf,if_false];refine Fz (wpAny_eqIsQuiet_tuple hy ?_);simp only [B3,Gf,if_false];refine Fz (Uw hx ?_);simp only [Gf,if_false];refine Fz (Uw hy ?_);simp only [Gf,if_false];exact Da ⟨rfl,rfl,fun u hu=>hall u (Jj _ hu)⟩
 ·rintro ⟨r1,r2⟩ s' ⟨hr,rfl,_⟩;simp only at hr;subst hr;exact Da h
end
section
variable {K:Type} [DecidableEq K] {knd:KeyKind prog w K} {G:List K->Addr->Prop} 
def U8 (G:List K->Addr->Prop) (knd:KeyKind prog w K) (h:Heap) (ks:List K) (e:Int×Value):Prop:=∃ b,e.2=.ref b/\IsTupleKey knd h ks b/\e.1=tupleKeyHash knd ks/\G ks b
def U8.inj {h:Heap} {x y:List K} {e:Int×Value} (a:U8 G knd h x e) (b:U8 G knd h y e):x=y:=by
 obtain ⟨p,e1,h1,_⟩:=a;obtain ⟨q,e2,h2,_⟩:=b;rw [e1] at e2;cases e2;exact h1.inj h2
def TOk.fits {t:SetTable} {L:TL} (T:TOk t L):t.fits (L.map (·.2)).toArray.size=true:=by
 unfold SetTable.fits fill;rw [T.place,T.dum,Jg,Jg,Ja,Ja,beq_self_eq_true,Bool.true_and,decide_eq_true_eq];exact T.room
def haL (L:TL) (i:Nat):Int:=(((L.map (·.2)).toArray)[i]?.map (·.1)).getD 0
def Zh8 {L:TL} {i:Nat} {e:Nat×(Int×Value)} (h:L[i]?=some e):haL L i=e.2.1:=by
 unfold haL;rw [Bb,Js,h];rfl
theorem Q4 {a:Addr} {t:SetTable} {L:TL} {kx:List K} {xb:Addr} (ho:s.heap.get? a=some o) (hd:o.data=.set (L.map (·.2)).toArray ep t) (T:TOk t L) (el:∀ e∈L,∃ ks,U8 G knd s.heap ks e.2)
  (hx:IsTupleKey knd s.heap kx xb) (hu:A.units<cLine) {k0:Nat} (h0:k0<=10*(t.mask+13)) (fr:sl t.mask (bits (tupleKeyHash knd kx)) k0∉L.map (·.1)) (tk:∀ m,m<k0->sl t.mask (bits (tupleKeyHash knd kx)) m∈L.map (·.1)) {Q:SetFound->Shared->Prop}
  (hF:(∃ e∈L,U8 G knd s.heap kx e.2)->Q (.there none) s) (hN:(∀ e∈L,¬ U8 G knd s.heap kx e.2)->Q (.free (sl t.mask (bits (tupleKeyHash knd kx)) k0) false) s) :
  ∀ (f k:Nat) (stand:Option Probe),k<=k0->k0-k<f->stand.getD (t.probeStart (tupleKeyHash knd kx))=seqP t.mask (bits (tupleKeyHash knd kx)) k->(∀ (m:Nat) (e:Nat×(Int×Value)),m<k->e∈L->e.1=sl t.mask (bits (tupleKeyHash knd kx)) m->¬ U8 G knd s.heap kx e.2) ->
   wpAny (model prog w) A (setSearchFrom a (.ref xb) (tupleKeyHash knd kx) true f stand) Q E s
 | 0,k,stand,_,hf,_,_=>absurd hf (by lia)
 | f+1,k,stand,hk,hf,hs,hn=>by
  have gw:t.gaveWay=false:=by
   unfold SetTable.gaveWay;rw [T.odd];rfl
  unfold setSearchFrom;refine Fz (wpAny_setState_of ho hd T.fits ?_);dsimp only;rw [gw,De Jo];have hmet:=T.met (ha:=haL L) (h:=tupleKeyHash knd kx) hk h0 fr tk;generalize hp:t.probe _ (tupleKeyHash knd kx) (stand.getD (t.probeStart (tupleKeyHash knd kx)))=pr;have hp:t.probe (haL L) (tupleKeyHash knd kx) (stand.getD (t.probeStart (tupleKeyHash knd kx)))=pr:=hp;rw [hs] at hp;rcases hmet with ⟨e1,ov⟩ | ⟨m,i,e,h1,h2,h3,h4,h5,h6,ov⟩
  ·rw [hp] at e1;subst e1;dsimp only;refine Da (hN fun e he ke=>?_);have eh:e.2.1=tupleKeyHash knd kx:=let ⟨_,_,_,q,_⟩:=ke; q
   obtain ⟨k1,_,r2,r3⟩:=T.reach e he;rw [eh] at r2 r3;have l1:k1<k0:=by
    rcases Nat.lt_trichotomy k1 k0 with z | z | z
    ·exact z
    ·rw [<- z,r2] at fr;exact absurd (Jp.mpr ⟨e,he,rfl⟩) fr
    ·exact absurd (r3 k0 z) fr
   by_cases z:k1<k
   ·exact hn k1 e z he r2.symm ke
   ·obtain ⟨i,q1,q2⟩:=ov k1 (by lia) l1;rw [r2] at q1;obtain ⟨j,hj,q⟩:=Gd he;have hj':L[j]?=some e:=by rw [Jb hj,q]
    rw [T.live hj'] at q1;cases q1;rw [Zh8 hj',eh,beq_self_eq_true] at q2;cases q2
  ·rw [hp] at h6;subst h6;dsimp only;have pre:∀ {X:Sem SetFound},wpAny (model prog w) A X Q E s->wpAny (model prog w) A (if (!t.led)=true then (do
     let b <- searchCouldBeSeen (Value.ref xb) (List.map (fun x=>x.snd) (Array.filter (fun x=>x.fst == tupleKeyHash knd kx) (List.map (fun x=>x.snd) L).toArray).toList)
     if b=true then (do unsupported "set:the-search-would-show-the-table"; X) else X) else X) Q E s:=fun {X} hX=>by
    split
    ·refine Fz (Zkv hx (fun y hy=>?_) ?_)
     ·obtain ⟨z,hz,rfl⟩:=Jp.mp hy;have hz:=Array.mem_toList_iff.mp hz;have hz:=(Array.mem_filter.mp hz).1;rw [List.mem_toArray] at hz;obtain ⟨e',he',rfl⟩:=Jp.mp hz;obtain ⟨ks,b,q1,q2,_⟩:=el e' he';exists ks,b,q1,q2
     ·rw [De Jo];exact hX
    ·exact hX
   refine pre ?_;have he:e∈L:=Gb h3;obtain ⟨ky,yb,y1,y2,y3,y4⟩:=el e he;have ei:(L.map (·.2)).toArray[i]?=some (e.2.1,Value.ref yb):=by
    rw [Bb,Js,h3,<- y1];rfl
   rw [ei];dsimp only;refine Fz (wpAny_holding (wpAny_eqBool_tuple hu y2 hx ?_));refine Fz (wpAny_setState_of ho hd T.fits ?_);dsimp only
   by_cases eq:ky=kx
   ·rw [Dg eq,Df (show (true && true)=true from rfl)];exact Da (hF ⟨e,he,yb,y1,eq ▸ y2,eq ▸ y3,eq ▸ y4⟩)
   ·rw [Dh eq,De nofun];rw [show t.sameMemory t.moves t.mask=some true from by unfold sameMemory; rw [beq_self_eq_true,if_pos rfl]];dsimp only;rw [Df rfl,<- h4,T.live h3];dsimp only;rw [ei];dsimp only;refine Fz (wpAny_isSame_ref_self ?_);rw [Df rfl];refine Fz (Da ?_);dsimp only;rw [De Jo];refine Q4 ho hd T el hx hu h0 fr tk hF hN f (m+1) (some _) (by lia) (by lia) rfl fun m' e' hm' he' q ke=>?_;have eh:e'.2.1=tupleKeyHash knd kx:=let ⟨_,_,_,q,_⟩:=ke; q
    obtain ⟨j,hj,qj⟩:=Gd he';have hj':L[j]?=some e':=by rw [Jb hj,qj]
    by_cases z1:m'<k
    ·exact hn m' e' z1 he' q ke
    by_cases z2:m'<m
    ·obtain ⟨i',q1,q2⟩:=ov m' (by lia) z2;rw [<- q,T.live hj'] at q1;cases q1;rw [Zh8 hj',eh,beq_self_eq_true] at q2;cases q2
    ·have:m'=m:=by lia
     subst this;have:=T.live hj';rw [q,<- h4,T.live h3] at this;cases this;rw [h3] at hj';cases hj';exact eq (U8.inj ⟨yb,y1,y2,y3,y4⟩ ke)
end
section
variable {K:Type} [DecidableEq K] {knd:KeyKind prog w K} {G:List K->Addr->Prop} 
inductive KeysAre (G:List K->Addr->Prop) (knd:KeyKind prog w K) (h:Heap):List (Int×Value)->List (List K)->Prop
 | nil:KeysAre G knd h [] []
 | cons {e:Int×Value} {ks:List K} {es:List (Int×Value)} {kss:List (List K)}:U8 G knd h ks e->KeysAre G knd h es kss->KeysAre G knd h (e::es) (ks::kss)
theorem KeysAre.len {h:Heap} {es:List (Int×Value)} {kss:List (List K)} (x:KeysAre G knd h es kss):es.length=kss.length:=by
 induction x with
 | nil=>rfl
 | cons _ _ ih=>rw [Jq,Jq,ih]
theorem KeysAre.at_ {h:Heap} {es:List (Int×Value)} {kss:List (List K)} (x:KeysAre G knd h es kss):∀ e∈es,∃ ks∈kss,U8 G knd h ks e:=by
 induction x with
 | nil=>exact fun e he=>(Gw he).elim
 | cons a _ ih =>
  intro e he;rcases Ju.mp he with rfl | he
  ·exists _,Jl,a
  ·obtain ⟨ks,h1,h2⟩:=ih e he;exists ks,Jj _ h1,h2
theorem KeysAre.of {h:Heap} {es:List (Int×Value)} {kss:List (List K)} (x:KeysAre G knd h es kss):∀ ks∈kss,∃ e∈es,U8 G knd h ks e:=by
 induction x with
 | nil=>exact fun e he=>(Gw he).elim
 | cons a _ ih =>
  intro e he;rcases Ju.mp he with rfl | he
  ·exists _,Jl,a
  ·obtain ⟨ks,h1,h2⟩:=ih e he;exists ks,Jj _ h1,h2
theorem KeysAre.perm {h:Heap} {es es':List (Int×Value)} (p:es.Perm es'):∀ {kss:List (List K)},KeysAre G knd h es kss->∃ kss',KeysAre G knd h es' kss'/\kss'.Perm kss:=by
 induction p with
 | nil=>exact fun x=>⟨_,x,.refl _⟩
 | cons e _ ih =>
  intro kss x;cases x with
  | cons a b =>
   obtain ⟨k',h1,h2⟩:=ih b;exists _,.cons a h1,h2.cons _
 | swap e1 e2 l =>
  intro kss x;cases x with
  | cons a b =>
   cases b with
   | cons b c=>exact ⟨_,.cons b (.cons a c),.swap _ _ _⟩
 | trans _ _ ih1 ih2 =>
  intro kss x;obtain ⟨k1,h1,h2⟩:=ih1 x;obtain ⟨k2,h3,h4⟩:=ih2 h1;exists k2,h3,h4.trans h2
theorem KeysAre.to {h:Heap} (hk:∀ (ks:List K) (b:Addr),IsTupleKey knd h ks b->IsTupleKey knd h' ks b) {es:List (Int×Value)} {kss:List (List K)} (x:KeysAre G knd h es kss):KeysAre G knd h' es kss:=by
 induction x with
 | nil=>exact .nil
 | cons a _ ih=>exact .cons (let ⟨b,h1,h2,h3⟩:=a; ⟨b,h1,hk _ _ h2,h3⟩) ih
def S8 {h:Heap} {ks:List K} {a d:Addr} {es ep t} (x:IsTupleKey knd h ks a) (ho:h.get? d=some o) (hd:o.data=.set es ep t) (hs:Heap.SameBut d h h'):IsTupleKey knd h' ks a:=by
 obtain ⟨o',items,n,ho',hc,hd',hi⟩:=x;have hne:a≠d:=by
  rintro rfl;obtain rfl:o'=o:=Di (ho'.symm.trans ho);rw [hd] at hd'; exact nomatch hd'
 exists o',items,n,(hs.2 a hne).trans ho',hc,hd',hi
def Zeh (m:Nat):Prop:=m=7\/m=31\/m=127
def Xc (w:World):Bool:=w.params.followText "set-order"
def T4 (G:List K->Addr->Prop) (knd:KeyKind prog w K) (h:Heap) (a:Addr) (S:List (List K)):Prop :=
 ∃ (o:Obj) (ep:Nat) (t:SetTable) (L:TL) (kss:List (List K)),h.get? a=some o/\o.ExactSet/\o.data=.set (L.map (·.2)).toArray ep t/\TOk t L/\Zeh t.mask/\5*L.length<3*t.mask/\KeysAre G knd h (L.map (·.2)) kss/\kss.Perm S/\S.Nodup/\t.led = !(Xc w)/\t.plain=true
def Zc4 {es:Array (Int×Value)} {t:SetTable} (hd:o.data=.set es ep t) (es':Array (Int×Value)) (t':SetTable):Obj.putSet es' t' o={ o with data:=.set es' (ep+1) t' }:=by
 obtain ⟨c,d,dt,sl⟩:=o; cases dt <;> simp at hd; obtain ⟨rfl,rfl,rfl⟩:=hd; rfl
theorem Zgg {a:Addr} {t:SetTable} {L:TL} {n:Nat} {Q:Unit->Shared->Prop} (ho:s.heap.get? a=some o) (hd:o.data=.set (L.map (·.2)).toArray ep t) (T:TOk t L) (hm:sizeAbove n-1=mask) (hz:sizeAbove n<=sizeLine) (hf:full (mask+1)=true) (od:mask % 2=1) (hl:L.length<=mask)
  (h:∀ (t':SetTable) (L':TL),TOk t' L'->t'.mask=mask->t'.led=t.led->t'.plain=t.plain->(L'.map (·.2)).Perm (L.map (·.2))->Q () { s with heap:=s.heap.update a (Obj.putSet (L'.map (·.2)).toArray t') }) :
  wpAny (model prog w) A (setRelay a n) Q E s:=by
 unfold setRelay;refine Fz (wpAny_setState_of ho hd T.fits ?_);dsimp only;rw [De (Nat.not_lt.mpr hz)];obtain ⟨t',order,L',e1,e2,T',pm,em,el,ep',_⟩:=Zjx (finger:=t.finger) (moves:=t.movedTo mask) (led:=t.led) (plain:=t.plain) hf od (es:=L.map (·.2)) (by rw [Ja]; exact hl);have er:t.relaid ((L.map (·.2)).toArray.map (·.1)) n=some (t',order):=by
  unfold relaid;rw [hm];exact e1
 rw [er];show wpAny _ _ ((do
  if (order.filterMap ((L.map (·.2)).toArray[·]?)).size != (L.map (·.2)).toArray.size then unsupported "internal:set-table-lost-an-element"
  pure (order.filterMap ((L.map (·.2)).toArray[·]?),t'):Sem (Array (Int×Value)×SetTable)) >>= _) _ _ s
 rw [e2];have sz:((L'.map (·.2)).toArray.size != (L.map (·.2)).toArray.size)=false:=by
  rw [Jg,Jg,pm.length_eq,bne_self_eq_false]
 rw [sz,De Jo];refine Fz (Da ?_);dsimp only;refine wpAny_storeSet_of ho hd (h t' L' T' em el ep' pm) ?_;rw [Jg,pm.length_eq,Ja,sizeLine_eq];rw [sizeLine_eq] at hz;lia
end
section
variable {K:Type} [DecidableEq K] {knd:KeyKind prog w K} {G:List K->Addr->Prop} 
theorem KeysAre.app {h:Heap}:∀ {l l':List (Int×Value)} {k k':List (List K)},KeysAre G knd h l k->KeysAre G knd h l' k'->KeysAre G knd h (l++l') (k++k'):=by
 intro _ _ _ _ hz9 b;cases hz9 with
 | nil=>
  exact b
 | cons a c=>
  exact .cons a (KeysAre.app c b)
theorem KeysAre.split {h:Heap}:∀ (p:Nat) {l:List (Int×Value)} {k:List (List K)},KeysAre G knd h l k->KeysAre G knd h (l.take p) (k.take p)/\KeysAre G knd h (l.drop p) (k.drop p)
 | 0,_,_,x=>⟨.nil,x⟩
 | _+1,_,_,.nil=>⟨.nil,.nil⟩
 | p+1,_,_,.cons a c=>⟨.cons a (KeysAre.split p c).1,(KeysAre.split p c).2⟩
def KeysAre.ins {h:Heap} {L:TL} {kss:List (List K)} (x:KeysAre G knd h (L.map (·.2)) kss) {p j:Nat} {e:Int×Value} {ks:List K} (q:U8 G knd h ks e):∃ kss',KeysAre G knd h ((insL L p (j,e)).map (·.2)) kss'/\kss'.Perm (ks::kss):=by
 obtain ⟨h1,h2⟩:=x.split p;exists kss.take p++ks::kss.drop p,?_,?_
 ·unfold insL;rw [Jm,Jr,Fi,Fj];exact h1.app (.cons q h2)
 ·refine List.perm_middle.trans ?_;rw [Gv]
theorem Zba {m:Nat} (h:Zeh m):full (m+1)=true/\m % 2=1/\m<=127:=by
 rcases h with rfl | rfl | rfl
 ·exact ⟨Zmy,rfl,by lia⟩
 ·exact ⟨Zmz,rfl,by lia⟩
 ·exact ⟨Zj8,rfl,by lia⟩
def addS (S:List (List K)) (kx:List K):List (List K):=if kx∈S then S else S++[kx]
def Zf4 {S:List (List K)} {kx:List K} (nd:S.Nodup):(addS S kx).Nodup:=by
 unfold addS
 split
 ·exact nd
 ·exact Ba.mpr ⟨nd,G7.mpr ⟨Gw,G6⟩,fun a ha b hb q=>by
   rw [Je.mp hb] at q;exact absurd (q ▸ ha) ‹_›⟩
def Zcn {h:Heap} {a:Addr} {es:Array (Int×Value)} {t:SetTable} (ho:h.get? a=some o) (hd:o.data=.set es ep t) (es':Array (Int×Value)) (t':SetTable):(h.update a (Obj.putSet es' t')).get? a=some { o with data:=.set es' (ep+1) t' }:=by
 have:=Heap.get?_update_self (Obj.putSet es' t') ho (by rw [Zc4 hd es' t']; rfl);rw [Zc4 hd es' t'] at this;exact this
theorem Zf3 {a xb:Addr} {S:List (List K)} {kx:List K} {Q:Bool->Shared->Prop} (hbv:∀ (k:K) (v:Value) (n:Nat),knd.is k v=true->hashByValue n v=pure true) (hS:T4 G knd s.heap a S) (hx:IsTupleKey knd s.heap kx xb) (hg:G kx xb) (hu:A.units<cLine) (hl:S.length+1<77)
  (h:∀ h',Heap.SameBut a s.heap h'->T4 G knd h' a (addS S kx)->Q (decide (kx∉S)) { s with heap:=h' }) :
  wpAny (model prog w) A (setAddHashed a (.ref xb) (tupleKeyHash knd kx)) Q E s:=by
 obtain ⟨o,ep,t,L,kss,ho,hex,hd,T,mo,nf,ka,pm,nd,ld,pl⟩:=hS;have hlen:L.length=S.length:=by rw [<- pm.length_eq,<- ka.len,Ja]
 obtain ⟨mf,md,ml⟩:=Zba mo;obtain ⟨k0,h0,fr,tk⟩:=T.free (bits (tupleKeyHash knd kx)) (Zab _);have el:∀ e∈L,∃ ks,U8 G knd s.heap ks e.2:=fun e he=>by
  obtain ⟨ks,_,q⟩:=ka.at_ e.2 (Jp.mpr ⟨e,he,rfl⟩);exists ks,q
 have isin:(∃ e∈L,U8 G knd s.heap kx e.2)↔kx∈S:=by
  constructor
  ·rintro ⟨e,he,q⟩;obtain ⟨ks,h1,h2⟩:=ka.at_ e.2 (Jp.mpr ⟨e,he,rfl⟩);rw [q.inj h2];exact pm.mem_iff.mp h1
  ·intro hk;obtain ⟨e,he,q⟩:=ka.of kx (pm.mem_iff.mpr hk);obtain ⟨e',he',rfl⟩:=Jp.mp he;exists e',he',q
 unfold setAddHashed setAddHashedIn;refine wpAny_holding (Fz (wpAny_setState_of ho hd T.fits ?_));dsimp only;rw [show byScan (Value.ref xb) (L.map (·.2)).toArray=false from rfl,De Jo];unfold setSearch;refine Fz (Q4 ho hd T el hx hu h0 fr tk (fun fo=>?_) (fun nf'=>?_) 100000 0 none (Jv _) (by lia) rfl fun m e hm=>absurd hm (by lia))
 ·have hk:=isin.mp fo;dsimp only;refine Da ?_;have:=h s.heap (Heap.SameBut.refl a s.heap) ⟨o,ep,t,L,kss,ho,hex,hd,T,mo,nf,ka,by unfold addS; rw [if_pos hk]; exact pm,by unfold addS; rw [if_pos hk]; exact nd,ld,pl⟩;rw [Dh (fun z=>z hk)] at this;have e:s={ s with heap:=s.heap }:=by cases s; rfl
  rw [e];exact this
 ·have hk:kx∉S:=fun z=>by
   obtain ⟨e,he,q⟩:=isin.mpr z;exact nf' e he q
  dsimp only;refine Fz (wpAny_setState_of ho hd T.fits ?_);dsimp only;generalize ej:sl t.mask (bits (tupleKeyHash knd kx)) k0=j;subst ej;have rest:∀ t1:SetTable,t1.mask=t.mask->t1.place=(t.put (sl t.mask (bits (tupleKeyHash knd kx)) k0)).1.place->t1.dummies=(t.put (sl t.mask (bits (tupleKeyHash knd kx)) k0)).1.dummies->t1.led=t.led->t1.plain=t.plain ->
    wpAny (model prog w) A (do
     storeSet a (insertAt (L.map (·.2)).toArray (t.put (sl t.mask (bits (tupleKeyHash knd kx)) k0)).2 (tupleKeyHash knd kx,Value.ref xb)) t1
     if (!false && t1.tooFull)=true then do
       setRelay a (grown ((L.map (·.2)).toArray.size+1))
       pure true
      else pure true) Q E s:=fun t1 em ep' ed el1 pl1=>by
   have ro:L.length+1<=t.mask:=by rcases mo with z | z | z <;> lia
   obtain ⟨p,e1,e2,T1⟩:=T.put (x:=Value.ref xb) h0 fr tk ro em ep' ed;rw [e1,e2];generalize eL:insL L p (sl t.mask (bits (tupleKeyHash knd kx)) k0,(tupleKeyHash knd kx,Value.ref xb))=L1 at *
   have len1:L1.length=L.length+1:=by rw [<- eL,Pl.length_eq,Jq]
   have kp:∀ h',Heap.SameBut a s.heap h'->∀ (ks:List K) (b:Addr),IsTupleKey knd s.heap ks b->IsTupleKey knd h' ks b:=fun h' sb ks b x=>S8 x ho hd sb;obtain ⟨kss1,ka1,pm1⟩:=ka.ins (p:=p) (j:=sl t.mask (bits (tupleKeyHash knd kx)) k0) (e:=(tupleKeyHash knd kx,Value.ref xb)) (ks:=kx) ⟨xb,rfl,hx,rfl,hg⟩;rw [eL] at ka1;have pmS:kss1.Perm (addS S kx):=by
    unfold addS;rw [De hk];exact pm1.trans ((pm.cons _).trans (List.perm_append_singleton _ _).symm)
   refine Fz (wpAny_storeSet_of ho hd ?_ (by rw [Jg,Ja,len1,sizeLine_eq]; lia));have sb1:=Heap.SameBut.update s.heap a (Obj.putSet (L1.map (·.2)).toArray t1);have ho1:=Zcn ho hd (L1.map (·.2)).toArray t1;generalize s.heap.update a (Obj.putSet (L1.map (·.2)).toArray t1)=g1 at *
   have tf:t1.tooFull=decide ((L.length+1)*5≥t.mask*3):=by
    unfold tooFull fill;rw [T1.place,T1.dum,Jg,Ja,len1,em];rfl
   have qq:decide (kx∉S)=true:=Dg hk
   split
   ·rename_i hfull
    have hge:(L.length+1)*5≥t.mask*3:=by
     rw [tf] at hfull;simpa using hfull
    have two:(L.length+1=5/\t.mask=7)\/(L.length+1=19/\t.mask=31):=by
     rcases mo with z | z | z <;> lia
    have rel:∃ m,sizeAbove (grown (L.length+1))-1=m/\sizeAbove (grown (L.length+1))<=sizeLine/\Zeh m/\5*(L.length+1)<3*m:=by
     rcases two with ⟨z,_⟩ | ⟨z,_⟩
     ·rw [z];exact ⟨31,by decide +kernel,by decide +kernel,.inr (.inl rfl),by lia⟩
     ·rw [z];exact ⟨127,by decide +kernel,by decide +kernel,.inr (.inr rfl),by lia⟩
    obtain ⟨m,r1,r2,r3,r4⟩:=rel;obtain ⟨f1,f2,f3⟩:=Zba r3;rw [Jg,Ja];refine Fz (Zgg (s:={ s with heap:=g1 }) (o:={ o with data:=.set (L1.map (·.2)).toArray (ep+1) t1 }) ho1 rfl T1 r1 r2 f1 f2 (by lia) fun t' L' T' em' el' epl pm'=>Da ?_);have sb2:Heap.SameBut a g1 (g1.update a (Obj.putSet (L'.map (·.2)).toArray t')):=Heap.SameBut.update g1 a _;have ho2:=Zcn (o:={ o with data:=.set (L1.map (·.2)).toArray (ep+1) t1 }) ho1 rfl (L'.map (·.2)).toArray t';have sb:=sb1.trans sb2;obtain ⟨kss2,ka2,pm2⟩:=KeysAre.perm pm'.symm ka1;have:=h _ sb ⟨_,_,t',L',kss2,ho2,hex,rfl,T',by rw [em']; exact r3,by rw [<- Ja (f:=(·.2)) (as:=L'),pm'.length_eq,Ja,len1,em']; exact r4,ka2.to (kp _ sb),pm2.trans pmS,Zf4 nd,by rw [el',el1]; exact ld,by rw [epl,pl1]; exact pl⟩
    rw [qq] at this;exact this
   ·rename_i hfull
    refine Da ?_;have:=h _ sb1 ⟨_,_,t1,L1,kss1,ho1,hex,rfl,T1,by rw [em]; exact mo,by
     rw [tf] at hfull;rw [len1,em];have:¬ ((L.length+1)*5≥t.mask*3):=by simpa using hfull
     lia,ka1.to (kp _ sb1),pmS,Zf4 nd,by rw [el1]; exact ld,by rw [pl1]; exact pl⟩
    rw [qq] at this;exact this
  split
  ·exact Fz (Pq hbv hx (rest _ rfl rfl rfl rfl rfl))
  ·exact Fz (Da (rest _ rfl rfl rfl rfl rfl))
end
end L2
namespace L2
open PySem PySem.SetTable PyProof.Rows
section
variable {K:Type} [DecidableEq K] {knd:KeyKind prog w K} {G:List K->Addr->Prop} 
def U2 (val:Nat->List K):Nat->List (List K)
 | 0=>[]
 | i+1=>addS (U2 val i) (val i)
def Zhg (S:List (List K)) (k:List K):S.length<=(addS S k).length:=by
 unfold addS
 split
 ·exact Jf _
 ·rw [Jc]; exact Nat.le_add_right _ _
theorem Py (val:Nat->List K) (i:Nat):∀ d,(U2 val i).length<=(U2 val (i+d)).length
 | 0=>Jf _
 | d+1=>Jy (Py val i d) (Zhg _ _)
def T4.to {h:Heap} {a:Addr} {S:List (List K)} (x:T4 G knd h a S) (ha:∀ o,h.get? a=some o->h'.get? a=some o) (hk:∀ (ks:List K) (b:Addr),IsTupleKey knd h ks b->IsTupleKey knd h' ks b):T4 G knd h' a S:=by
 obtain ⟨o,ep,t,L,kss,ho,hex,hd,T,mo,nf,ka,pm,nd,lp⟩:=x;exists o,ep,t,L,kss,ha o ho,hex,hd,T,mo,nf,ka.to hk,pm,nd,lp
def Nj {h:Heap} {ks:List K} {b:Addr} (x:IsTupleKey knd h ks b) (hb:∀ o,h.get? b=some o->h'.get? b=some o):IsTupleKey knd h' ks b:=by
 obtain ⟨o,items,n,ho,q⟩:=x;exists o,items,n,hb o ho,q
def Zct {h:Heap} {ks:List K} {b I:Addr} {i:Nat} (x:IsTupleKey knd h ks b) (st:h.IsListIter I l i):b≠I:=by
 rintro rfl;obtain ⟨o,items,n,ho,hc,_⟩:=x;obtain ⟨o',ho',hc',_⟩:=st;rw [ho] at ho';cases ho';rw [hc] at hc';injection hc' with q
 exact absurd q nofun
theorem Zc5 (hbv:∀ (k:K) (v:Value) (n:Nat),knd.is k v=true->hashByValue n v=pure true) {I S:Addr} {val:Nat->List K} {R:Result->Shared->Prop} (hh:A.in1.handled=none) (hne:l≠I) (hSI:S≠I) (hSl:S≠l) (hu:A.in1.units<cLine) (hb:(U2 val items.size).length<76) :
  ∀ (k i:Nat) (s:Shared),items.size-i=k->i<=items.size->(s.heap.IsListIter I l i/\s.heap.IsList l items)->T4 G knd s.heap S (U2 val i)->(∀ (j:Nat) (v:Value),items[j]?=some v->∃ b,v=.ref b/\IsTupleKey knd s.heap (val j) b/\G (val j) b) ->
   (∀ s',Moved [S,I] (fun g g'=>g'=g) s s'->T4 G knd s'.heap S (U2 val items.size)->R (.ok (.ret .none)) s') ->
   codeAny (model prog w) A (.builtin "set.update.loop" ⟨[.ref S,.ref I],[]⟩) R s:=by
 have W:=(Walks.list (prog:=prog) (w:=w) hh I l hne items).toS;intro k
 induction k with
 | zero =>
  intro i s hk hi st hS hv hR;obtain rfl:i=items.size:=by lia
  refine codeAny_builtin F.entry_set_update_loop ?_;rw [Around.under_plainId F.plain_set_update_loop];refine Fz (m:=pyNext (.ref I)) (W.done s _ _ st fun s' hm=>?_);refine Da (hR s' ⟨fun b o hb e=>hm.heap b o (fun z=>hb (Jj _ z)) e,hm.gens,hm.drawn,hm.os,hm.toks⟩ (hS.to (fun o e=>hm.heap S o (fun z=>hSI (Je.mp z)) e) fun ks b x=>Nj x fun o e=>hm.heap b o (fun z=>Zct x st.1 (Je.mp z)) e))
 | succ k ih =>
  intro i s hk hi st hS hv hR;have hlt:i<items.size:=by lia
  refine codeAny_builtin F.entry_set_update_loop ?_;rw [Around.under_plainId F.plain_set_update_loop];refine Fz (m:=pyNext (.ref I)) (W.item i s _ _ hlt st fun v s' hP st' hm=>?_);obtain ⟨b,rfl,hx,hg⟩:=hv i v hP;have kp:∀ (ks:List K) (b:Addr),IsTupleKey knd s.heap ks b->IsTupleKey knd s'.heap ks b:=fun ks b x=>Nj x fun o e=>hm.heap b o (fun z=>Zct x st.1 (Je.mp z)) e;have hS':=hS.to (fun o e=>hm.heap S o (fun z=>hSI (Je.mp z)) e) kp;dsimp only;refine Fz (wpAny_holding ?_);unfold setAdd;refine wpAny_holding (Fz (wpAny_pyHash_tuple hu (kp _ _ hx) ?_));have hl:(U2 val i).length+1<77:=by
   have:=Py val i (items.size-i);rw [show i+(items.size-i)=items.size by lia] at this;lia
  refine Zf3 hbv (s:={ s' with toks:=_ }) hS' (kp _ _ hx) hg hu hl fun h' sb hS2=>Da ⟨plainId_quiet F.plain_set_update_loop _,?_⟩;have kS:∀ b,b≠S->∀ o,s'.heap.get? b=some o->h'.get? b=some o:=fun b hb o e=>(sb.2 b hb).trans e;obtain ⟨o1,ep1,t1,L1,kss1,ho1,_,hd1,_⟩:=id hS';have kp2:∀ (ks:List K) (b:Addr),IsTupleKey knd s'.heap ks b->IsTupleKey knd h' ks b:=fun ks b x=>S8 x ho1 hd1 sb;refine ih (i+1) _ (by lia) hlt (W.frame (i+1) s' h' _ st' (Nat.le_add_right _ _) fun b hb o e=>kS b (fun z=>?_) o e) hS2 (fun j v hj=>?_) fun s'' hm' hS3=>hR s'' ⟨fun b o hb e=>hm'.heap b o hb (kS b (fun z=>hb (z ▸ Jl)) o (hm.heap b o (fun z=>hb (Jj _ z)) e)),hm'.gens.trans hm.gens,hm'.drawn.trans hm.drawn,hm'.os.trans hm.os,Jy hm.toks (Jy (Nat.le_add_right _ _) hm'.toks)⟩ hS3
  ·rcases Ju.mp hb with q | q
   ·exact hSI (z ▸ q)
   ·exact hSl (z ▸ Je.mp q)
  ·obtain ⟨b',q1,q2,q3⟩:=hv j v hj;exists b',q1,kp2 _ _ (kp _ _ q2),q3
end
section
variable {K:Type} [DecidableEq K] {knd:KeyKind prog w K} {G:List K->Addr->Prop} 
abbrev Tv (led:Bool):Obj:={ cls:=.type "set",dict:=none,data:=.set #[] 0 (.fresh 0 0 led) }
def T4.new {h:Heap} {a:Addr} (e:h.get? a=some (Tv (!(Xc w)))):T4 G knd h a []:=by
 exists _,0,.fresh 0 0 (!(Xc w)),[],[],e,⟨rfl,rfl,rfl⟩,rfl,⟨rfl,rfl,.nil,fun e he=>(Gw he).elim,Zmy,(show 7 % 2=1 from rfl),Jv _,fun e he=>(Gw he).elim⟩,.inl rfl,(show 5*0<3*7 by decide),.nil,.nil,G6,rfl,rfl
def Zgu (x:Value) {Q1:Value->Shared->Prop} (k:Q1 (.ref s.heap.objs.size) { s with heap:=s.heap.push (Tv (!(Xc w))) }) :
  codeAny (model prog w) A (.call (.builtin "set.__new__") ⟨[.type "set",x],[]⟩) (wants Q1 E) s:=by
 refine codeAny_of_tree ?_;show wpAny _ A.in1 (checkBuiltinCall "set.__new__" ⟨[.type "set",x],[]⟩ >>= fun _=>again (.builtin "set.__new__" ⟨[.type "set",x],[]⟩)) _ _ s;refine Fz (wpAny_of_eq (F.newCall_set_1 x) (Da ⟨plainId_quiet F.plain_set_new _,codeAny_builtin F.entry_set_new ?_⟩));rw [Around.under_plainId F.plain_set_new];unfold Builtin.«set.__new__»;unfold Builtin.Frozenset.newClass;have z:=sub_set_self;obtain ⟨g1,g2,g3,g4,g5⟩:=s;dsimp only
 wp_walk
 refine wpAny_askSetting (Da ?_);dsimp only;simp only [newObj];exact Fz (wpAny_alloc (Da (Da k)))
theorem Zfs (hbv:∀ (k:K) (v:Value) (n:Nat),knd.is k v=true->hashByValue n v=pure true) {val:Nat->List K} {Q:Value->Shared->Prop} (hh:A.handled=none) (hu:A.in1.in1.in1.units<cLine) (hl:s.heap.IsList l items) (hv:∀ (j:Nat) (v:Value),items[j]?=some v->∃ b,v=.ref b/\IsTupleKey knd s.heap (val j) b/\G (val j) b) (hb:(U2 val items.size).length<76)
  (h:∀ (h':Heap) (tk:Nat),T4 G knd h' s.heap.objs.size (U2 val items.size)->(∀ b o,b<s.heap.objs.size->s.heap.get? b=some o->h'.get? b=some o)->Q (.ref s.heap.objs.size) { s with heap:=h',toks:=tk }) :
  wpAny (model prog w) A (call (.type "set") [.ref l]) Q E s:=by
 have cs:=F.called_set;obtain ⟨c,tl,hmro⟩:=cs.mro;have m1:=cs.made;have m2:=cs.sub;refine wpAny_call (codeAny_of_tree ?_);show wpAny _ _ (callAny (.type "set") _) _ _ _;refine Da ⟨Code.quiet_builtin _ (by decide +kernel),codeAny_builtin F.entry_type_call ?_⟩;rw [Around.under_plain (weight_type_call_type "set" [.ref l] []) rfl];have n1:=cs.notType;have n2:=cs.canCreate;have n3:=F.typeCall_set_1 (.ref l)
 repeat (any_goals (first | assumption | wp_step))
 refine codeAny_mono (Zgu (.ref l) (E:=E) (Q1:=fun x s1=>x=.ref s.heap.objs.size/\s1={ s with heap:=s.heap.push (Tv (!(Xc w))) }) ⟨rfl,rfl⟩) fun r s1 hr=>?_;cases r with
 | error e=>exact hr
 | ok fl =>
  cases fl with
  | ret obj =>
   obtain ⟨rfl,rfl⟩:=hr;have eS:(s.heap.push (Tv (!(Xc w)))).get? s.heap.objs.size=some (Tv (!(Xc w))):=Dc _ rfl;have tS:Shared.TypeIs { s with heap:=s.heap.push (Tv (!(Xc w))) } (.ref s.heap.objs.size) "set":=⟨_,eS,rfl⟩;have i1:=cs.init.lookup;have i2:=cs.init.bind (.ref s.heap.objs.size)
   repeat (any_goals (first | assumption | wp_step))
   refine codeAny_mono (codeAny_call_builtin (R:=wants (fun r s2=>r=.none/\∃ g tk,s2={ s with heap:=g,toks:=tk }/\T4 G knd g s.heap.objs.size (U2 val items.size)/\∀ b o,b<s.heap.objs.size->s.heap.get? b=some o->g.get? b=some o) E) cs.init.plain F.entry_set_init (check_set_init_1 tS ?_)) fun r2 s2 hr2=>?_
   ·have l1:(s.heap.push (Tv (!(Xc w)))).IsList l items:=hl.push _;have lS:l<s.heap.objs.size:=let ⟨_,e,_⟩:=hl; Dd e
    obtain ⟨ol,eol,cl,nl,dl⟩:=id l1;obtain ⟨oc,od,oD,os⟩:=ol;simp only at cl dl;subst cl;subst dl;have z1:=F.sub_list_set;have z2:=F.sub_list_frozenset;have z3:(Value.type "list" == Value.type "dict")=false:=by decide
    unfold Builtin.«set.__init__» noKeywords Builtin.Frozenset.updateFrom;generalize ePI:pyIter=PI
    wp_walk
    subst ePI;refine wpAny_pyIter_list l1 (Fz (wpAny_runValue ?_));have zz:(s.heap.push (Tv (!(Xc w)))).objs.size=s.heap.objs.size+1:=Heap.size_push _ _;refine Zc5 hbv (A:=A.in1.in1) (G:=G) (knd:=knd) (val:=val) (l:=l) (items:=items) (by simp [hh]) (by rw [zz]; exact Gi (Nat.lt_succ_of_lt lS)) (by rw [zz]; exact Gi (Bx _)) (Nat.ne_of_gt lS) hu hb (items.size-0) 0 _ rfl (Jv _) ⟨⟨_,Dc _ rfl,rfl,rfl⟩,l1.push _⟩ (T4.new (Db _ eS)) (fun j v hj=>?_) fun s' hm hS'=>?_
    ·obtain ⟨b,q1,q2,q3⟩:=hv j v hj;exists b,q1,Nj q2 fun o e=>Db _ (Db _ e),q3
    ·obtain ⟨g,gs,dr,tk,so⟩:=s';obtain rfl:gs=s.gens:=hm.gens;obtain rfl:dr=s.drawn:=hm.drawn;obtain rfl:so=s.os:=hm.os;refine Da (Da ⟨rfl,g,tk,rfl,hS',fun b o hb e=>hm.heap b o (fun z=>?_) (Db _ (Db _ e))⟩);rcases Ju.mp z with q | q
     ·exact Gi hb q
     ·rw [Je,zz] at q;exact Gi (Nat.lt_succ_of_lt hb) q
   ·cases r2 with
    | error e=>exact hr2
    | ok f2 =>
     cases f2 with
     | ret r =>
      obtain ⟨rfl,g,tk,rfl,hS',hk'⟩:=hr2
      repeat (any_goals (first | assumption | wp_step))
      exact h _ _ hS' hk'
     | _=>exact hr2.elim
  | _=>exact hr.elim
end
end L2
namespace L2
open PySem PySem.SetTable PyProof.Rows PySem.W
def Tc:Slot "set_iterator" "__next__" "set_iterator.__next__":=.of (owner:="set_iterator") (n:="__next__") (by rw [typeLookup_type,builtinLookup_eq_fast]; kernel_rfl) (by decide +kernel) (by decide +kernel) (by decide +kernel) (by first | exact .inl (by decide +kernel) | exact .inr (by decide +kernel)) (by rw [isSubtype_type]; kernel_rfl)
def Zas:entryFor table "set_iterator.__next__"=some Builtin.«set_iterator.__next__»:=entryFor_of_tree (by kernel_rfl)
def Zi9:entryFor table "set.__iter__"=some Builtin.«frozenset.__iter__»:=entryFor_alias (id':="frozenset.__iter__") (by kernel_rfl) rfl (by decide +kernel) (by kernel_rfl)
def Zar:Manifest.owners.lookup (String.ofList ['r','o','t','a','r','e','t','i','_','t','e','s'].reverse)=some Manifest.sig_set_iterator:=by kernel_rfl
def Zc3 (a:Value):argsOk "set_iterator.__next__" ⟨[a],[]⟩:=by
 unfold argsOk; rw [signature?_of (id:="set_iterator.__next__") (n:=['_','_','t','x','e','n','_','_']) (o:=['r','o','t','a','r','e','t','i','_','t','e','s']) (by kernel_rfl) Zar]; kernel_rfl
def Zc2:Slot "set_iterator" "__iter__" "set_iterator.__iter__":=.of (owner:="set_iterator") (n:="__iter__") (by rw [typeLookup_type,builtinLookup_eq_fast]; kernel_rfl) (by decide +kernel) (by decide +kernel) (by decide +kernel) (by first | exact .inl (by decide +kernel) | exact .inr (by decide +kernel)) (by rw [isSubtype_type]; kernel_rfl)
def Zga:entryFor table "set_iterator.__iter__"=some Builtin.«dict_keyiterator.__iter__»:=entryFor_alias (id':="dict_keyiterator.__iter__") (by kernel_rfl) rfl (by decide +kernel) (by kernel_rfl)
def Zgb (a:Value):argsOk "set_iterator.__iter__" ⟨[a],[]⟩:=by
 unfold argsOk; rw [signature?_of (id:="set_iterator.__iter__") (n:=['_','_','r','e','t','i','_','_']) (o:=['r','o','t','a','r','e','t','i','_','t','e','s']) (by kernel_rfl) Zar]; kernel_rfl
section
def Zg2 {r:Addr} {Q:Bool->Shared->Prop} (hT:s.TypeIs (.ref r) "set") (h:Q false s):wpAny (model prog w) A (Builtin.List.listLengthHint (.ref r)) Q E s:=by
 unfold Builtin.List.listLengthHint;refine Fz (wpAny_specialOf hT PySem.F.slot_set_len.lookup ?_);generalize hx:("set.__len__":String)=x
 wp_delta
 rw [show splitId x=some ("set", "__len__") from by subst hx; decide +kernel];subst hx;refine Fz (wpAny_isInstance (T:="set") (b:=true) hT sub_set_self ?_);refine wpAny_ite_split (fun z=>absurd z nofun) fun _=>wpAny_ite_split (fun _=>?_) fun z=>absurd (by decide +kernel) z;exact Fz (wpAny_typeOf hT (Da h))
def Zg0 {a:Addr} {es:Array (Int×Value)} {t:SetTable} {Q:Value->Shared->Prop} (ho:s.heap.get? a=some o) (hc:o.cls=.type "set") (hd:o.data=.set es ep t) (hf:t.fits es.size=true) (pl:t.plain=true)
  (h:Q (.ref s.heap.objs.size) { s with heap:=s.heap.push { cls:=.type "set_iterator",data:=.fields #[.int 0 0,.int 0 0,.ref a,.int es.size 0,.int ep 0] } }) :
  wpAny (model prog w) A (pyIter (.ref a)) Q E s:=by
 have hT:s.TypeIs (.ref a) "set":=⟨o,ho,hc⟩;refine wpAny_pyIter_slot hT PySem.F.slot_set_iter (wpAny_call_entry PySem.F.slot_set_iter hT Zi9 ?_ (PySem.F.args_set_iter_1 _));unfold Builtin.«frozenset.__iter__» Builtin.Frozenset.slot0 slotArgs;simp only [List.isEmpty_nil,B3,Gf,if_false,bind_assoc,Bz,bne_self_eq_false];unfold Builtin.Frozenset.addrOf Builtin.Frozenset.sizeOf;refine Fz (Da ?_)
 try dsimp only
 refine Fz (Da (Fz (Fz (wpAny_setEntries_of ho hd hf (Da ?_)))));unfold setDrawn setsByText;simp only [bind_assoc];refine Fz (wpAny_setState_of ho hd hf ?_);dsimp only;refine Fz (wpAny_askSetting (Fz (Da (Fz (Da ?_)))));rw [De fun z=>?_]
 ·refine Fz (Da (Fz (wpAny_setEpoch_of ho hd hf (Fz ?_))));exact wpAny_newObj_type (Da ⟨_,rfl, "set_iterator",_,⟨_,Dc _ rfl,rfl⟩,Tc.lookup,h⟩)
 ·have z2:(!t.plain && decide (es.size > 1))=true:=(Bool.and_eq_true_iff.mp z).2;rw [pl] at z2;cases z2
def Ul (w:World) (a:Addr) (es:Array (Int×Value)) (ep:Nat):Array (Int×Value):=if Xc w then pickOrder (w.params.setOrder a ep) es else es
def Qs (h:Heap) (I a:Addr) (es:Array (Int×Value)) (ep:Nat) (t:SetTable) (w:World) (i:Nat):Prop :=
 ∃ (o:Obj) (sl:Nat),h.get? I=some o/\o.cls=.type "set_iterator"/\o.data=.fields #[.int sl 0,.int i 0,.ref a,.int es.size 0,.int ep 0]/\(Xc w=false->below t.place sl=i)
theorem Zcd {xs:Array Nat} (ri:xs.toList.Pairwise (· < ·)) {i j:Nat} (h:xs[i]?=some j):below xs (j+1)=i+1:=by
 obtain ⟨hi,e⟩:=Array.getElem?_eq_some_iff.mp h;obtain ⟨b1,b2,b3⟩:=T8 xs ri (j+1);rcases Nat.lt_trichotomy (below xs (j+1)) (i+1) with z | z | z
 ·have:=b3 i hi (by lia);lia
 ·exact z
 ·have h1:=b2 (i+1) (by lia) z;have:=G9.mp ri i (i+1) (by simpa using hi) (by simp; lia) (by lia);simp at this;lia
theorem Zav {a:Addr} {es:Array (Int×Value)} {i sl:Nat} {t:SetTable} {L:TL} {Q:Option (Value×Nat)->Shared->Prop} (ho:s.heap.get? a=some o) (hd:o.data=.set es ep t) (hes:es=(L.map (·.2)).toArray) (T:TOk t L) (pl:t.plain=true) (ld:t.led = !(Xc w)) (hb:Xc w=false->below t.place sl=i)
  (h:∀ n,(Xc w=false->i<es.size->below t.place n=i+1)->Q (((Ul w a es ep)[i]?).map fun e=>(e.2,n)) s):wpAny (model prog w) A (setNext a sl i ep) Q E s:=by
 have hf:t.fits es.size=true:=by rw [hes]; exact T.fits
 unfold setNext setsByText;refine Fz (wpAny_setState_of ho hd hf ?_);dsimp only;refine Fz (Fz (wpAny_askSetting (Da ?_)));have et:(model prog w).w.params.followText "set-order"=Xc w:=rfl;rw [et];unfold Ul at h;cases hbt:Xc w with
 | true =>
  rw [hbt] at h;rw [Df rfl] at h ⊢;rw [show (ep != ep)=false from bne_self_eq_false ep,De Jo];unfold setWalk setsByText;refine Fz (Fz (wpAny_setState_of ho hd hf ?_));dsimp only;refine Fz (Fz (wpAny_askSetting (Da ?_)));rw [et,hbt,Df rfl];exact Fz (wpAny_askSetting (Da (Da (h sl fun z=>(by cases z)))))
 | false =>
  rw [hbt] at h ld;rw [De Jo] at h ⊢;rw [De fun z=>?_]
  ·rw [hb hbt];refine Fz (show wpAny _ _ (if (!t.led && !es.isEmpty)=true then unsupported "set:maker-not-led" else pure ()) _ _ s from ?_);rw [ld,De (by simp)];refine Da (Da ?_)
   by_cases hi:i<es.size
   ·have hz:t.place.size=es.size:=by rw [T.place,hes,Jg,Jg,Ja,Ja]
    have h1:es[i]?=some es[i]:=Gm hi;have h2:t.place[i]?=some (t.place[i]'(by lia)):=Gm (by lia);have:=h (t.place[i]'(by lia)+1) fun _ _=>Zcd T.ri h2;rw [h1] at this ⊢;rw [h2];exact this
   ·have h1:es[i]?=none:=Bp (by lia);have:=h 0 fun _ z=>absurd z hi;rw [h1] at this ⊢;exact this
  ·have z2:(!t.plain && decide (es.size > 1))=true:=z;rw [pl] at z2;cases z2
def Zgt {I a:Addr} {es:Array (Int×Value)} {i:Nat} {t:SetTable} {v:Value} {L:TL} {Q:Option Value->Shared->Prop} (hI:Qs s.heap I a es ep t w i) (ho:s.heap.get? a=some o) (hd:o.data=.set es ep t) (hes:es=(L.map (·.2)).toArray) (T:TOk t L) (pl:t.plain=true) (ld:t.led = !(Xc w)) (hi:i<es.size) (hv:((Ul w a es ep)[i]?).map (·.2)=some v)
  (h:∀ h',Qs h' I a es ep t w (i+1)->Heap.SameBut I s.heap h'->Q (some v) { s with heap:=h' }):wpAny (model prog w) A (pyNext (.ref I)) Q E s:=by
 obtain ⟨oI,sl,hoI,hcI,hdI,hb⟩:=hI;have hT:s.TypeIs (.ref I) "set_iterator":=⟨oI,hoI,hcI⟩;have hf:t.fits es.size=true:=by rw [hes]; exact T.fits
 unfold pyNext;refine Fz (wpAny_attempt (wpAny_callSpecial?_slot (name:=Str.ofString "__next__") hT Tc (wpAny_call_entry Tc hT Zas ?_ (Zc3 _))));unfold Builtin.«set_iterator.__next__» slotArgs;simp only [List.isEmpty_nil,B3,Gf,if_false,Bz,bne_self_eq_false];refine Fz (Da ?_);dsimp only;refine Fz (wpAny_fieldsOf hoI hdI ?_);dsimp only;refine Fz (wpAny_setEntries_of ho hd hf ?_);rw [show ((es.size:Int) != (es.size:Int))=false from bne_self_eq_false _,De Jo];simp only [Gs];refine Fz (Zav ho hd hes T pl ld hb fun n hn=>?_);obtain ⟨e,he⟩:∃ e,(Ul w a es ep)[i]?=some e:=by
  cases z:(Ul w a es ep)[i]? with
  | none=>rw [z] at hv; cases hv
  | some e=>exact ⟨e,rfl⟩
 rw [he] at hv ⊢;cases hv;dsimp only [Option.map];refine Fz (wpAny_setField hoI hdI (by simp) ?_);have g1:=Heap.get?_update_self (Obj.mapFields fun vs=>vs.setIfInBounds 0 (rawInt (n:Int))) hoI (Obj.isFreed_of_fields (Obj.data_mapFields hdI _));have d1:=Obj.data_mapFields hdI fun vs=>vs.setIfInBounds 0 (rawInt (n:Int));refine Fz (wpAny_setField (s:={ s with heap:=_ }) g1 d1 (by simp) (Da ⟨_,rfl,Da (h _ ?_ ?_)⟩))
 ·exists _,n,Heap.get?_update_self _ g1 (Obj.isFreed_of_fields (Obj.data_mapFields d1 _)),?_,?_,fun z=>hn z hi
  ·rw [Obj.cls_mapFields,Obj.cls_mapFields];exact hcI
  ·rw [Obj.data_mapFields d1];simp [rawInt]
 ·exact (Heap.SameBut.update ..).trans (Heap.SameBut.update ..)
def Zkd {I a:Addr} {es:Array (Int×Value)} {i:Nat} {t:SetTable} {L:TL} {Q:Option Value->Shared->Prop} (hh:A.handled=none) (hI:Qs s.heap I a es ep t w i) (ho:s.heap.get? a=some o) (hd:o.data=.set es ep t) (hes:es=(L.map (·.2)).toArray) (T:TOk t L) (pl:t.plain=true) (ld:t.led = !(Xc w)) (hv:(Ul w a es ep)[i]?=none)
  (h:∀ h',Heap.ExtBut I s.heap h'->Q none { s with heap:=h' }):wpAny (model prog w) A (pyNext (.ref I)) Q E s:=by
 obtain ⟨oI,sl,hoI,hcI,hdI,hb⟩:=hI;have hT:s.TypeIs (.ref I) "set_iterator":=⟨oI,hoI,hcI⟩;have hf:t.fits es.size=true:=by rw [hes]; exact T.fits
 unfold pyNext;refine Fz (wpAny_attempt (wpAny_callSpecial?_slot (name:=Str.ofString "__next__") hT Tc (wpAny_call_entry Tc hT Zas ?_ (Zc3 _))));unfold Builtin.«set_iterator.__next__» slotArgs;simp only [List.isEmpty_nil,B3,Gf,if_false,Bz,bne_self_eq_false];refine Fz (Da ?_);dsimp only;refine Fz (wpAny_fieldsOf hoI hdI ?_);dsimp only;refine Fz (wpAny_setEntries_of ho hd hf ?_);rw [show ((es.size:Int) != (es.size:Int))=false from bne_self_eq_false _,De Jo];simp only [Gs];refine Fz (Zav ho hd hes T pl ld hb fun n hn=>?_);rw [hv];dsimp only [Option.map];refine Fz (wpAny_setField hoI hdI (by simp) ?_)
 refine Fz (m:=newExc _ _) ?_;simp only [newExc,newTuple];refine Fz (wpAny_newObj_type ?_ (by size_fits));refine Fz (m:=firstArgMember _ _) (wpAny_of_eq (a:=Value.none) (by first | rfl | (simp only [firstArgMember]; rfl)) (wpAny_newObj_type ?_ (by size_fits)));simp only [raiseNew];refine Fz (wpAny_handled ?_);rw [show A.in1.handled=none from hh];refine Fz (Da (wpAny_throw ?_));refine Fz (wpAny_isInstance (T:="StopIteration") (b:=true) ⟨_,Dc _ rfl,rfl⟩ isSubtype_stop ?_);exact Da (h _ (((Heap.SameBut.update ..).extBut.push _).push _))
theorem Q9 {α:Type} (next:Nat->Nat):∀ (f k:Nat) (l:List α) (out:Array α),l.length=f->(pickOrder.go next f k l out).toList.Perm (out.toList++l)
 | 0,k,l,out,h=>by
  rw [List.length_eq_zero_iff.mp h,Ga,pickOrder.go]
 | f+1,k,l,out,h=>by
  have hlt:next k % l.length<l.length:=Nat.mod_lt _ (by lia);rw [pickOrder.go,Jb hlt];dsimp only;refine (Q9 next f (k+1) _ _ (by rw [List.length_eraseIdx_of_lt hlt]; lia)).trans ?_;rw [Array.toList_push,Jt];refine List.Perm.append_left _ ?_;rw [List.eraseIdx_eq_take_drop_succ];have p:(l[next k % l.length]::(l.take (next k % l.length)++l.drop (next k % l.length+1))).Perm (l.take (next k % l.length)++l[next k % l.length]::l.drop (next k % l.length+1)):=List.perm_middle.symm;rw [<- List.drop_eq_getElem_cons hlt,Gv] at p;exact p
def Qu {a:Addr} {es:Array (Int×Value)} :(Ul w a es ep).toList.Perm es.toList:=by
 unfold Ul
 split
 ·have:=Q9 (w.params.setOrder a ep) es.size 0 es.toList #[] (by simp);unfold pickOrder;simpa using this
 ·exact .refl _
theorem Zja {a:Addr} {t:SetTable} {L:TL} (hc:o.cls=.type "set") (hd:o.data=.set (L.map (·.2)).toArray ep t) (T:TOk t L) (pl:t.plain=true) (ld:t.led = !(Xc w)) :
  KdlSrc prog w "set" a a L.length (fun i v=>((Ul w a (L.map (·.2)).toArray ep)[i]?).map (·.2)=some v) (fun h=>h.get? a=some o) where
 type:=fun s h=>⟨o,h,hc⟩
 there:=fun h e=>⟨Dd e,Dd e⟩
 keep:=fun h h' e k=>k a (.inl rfl) o e
 notList:=by decide
 notTuple:=by decide
 hint:=fun A E s Q e h=>Zg2 ⟨o,e,hc⟩ h
 iter:=fun A s hh e=>by
  have wl:(Ul w a (L.map (·.2)).toArray ep).size=L.length:=by
   have:=(Qu (w:=w) (a:=a) (es:=(L.map (·.2)).toArray) (ep:=ep)).length_eq;simpa using this
  exists { cls:=.type "set_iterator",data:=.fields #[.int 0 0,.int 0 0,.ref a,.int (L.map (·.2)).toArray.size 0,.int ep 0] },fun i h=>Qs h s.heap.objs.size a (L.map (·.2)).toArray ep t w i/\h.get? a=some o,fun E Q hQ=>Zg0 e hc hd T.fits pl hQ,?_,⟨⟨_,0,Dc _ rfl,rfl,rfl,fun _=>?_⟩,Db _ e⟩
  ·have sz:(L.map (·.2)).toArray.size=L.length:=by simp
   exact {
    sub:=fun b hb=>Ju.mpr (.inl (Je.mp hb))
    frame:=fun i h h' st hk=>⟨let ⟨o',sl,e1,q⟩:=st.1; ⟨o',sl,hk _ Jl o' e1,q⟩,hk a (Jj _ Jl) o st.2⟩
    item:=fun i s' Q E hi st hQ=>by
     have hlt:i<(Ul w a (L.map (·.2)).toArray ep).size:=by lia
     have hv:((Ul w a (L.map (·.2)).toArray ep)[i]?).map (·.2)=some (Ul w a (L.map (·.2)).toArray ep)[i].2:=by rw [Gm hlt]; rfl
     refine Zgt st.1 st.2 hd rfl T pl ld (by lia) hv fun h' it' sb=>hQ _ h' s'.toks hv ⟨it',(sb.2 a (Gi (Dd e))).trans st.2⟩ fun b o' hb e'=>(sb.2 b fun z=>hb (Je.mpr z)).trans e'
    done:=fun s' Q E st hQ=>Zkd hh st.1 st.2 hd rfl T pl ld (Bp (by lia)) fun h' eb=>hQ h' s'.toks fun b o' hb e'=>eb b o' (fun z=>hb (Je.mpr z)) e'
    self:=fun i s' Q E st hQ=>by
     obtain ⟨oI,sl,e1,e2,_⟩:=st.1;have hT:s'.TypeIs (.ref s.heap.objs.size) "set_iterator":=⟨oI,e1,e2⟩;refine wpAny_pyIter_slot hT Zc2 (wpAny_call_entry Zc2 hT Zga ?_ (Zgb _));exact Da ⟨_,rfl, "set_iterator",_,hT,Tc.lookup,hQ⟩ }
  ·obtain ⟨b1,b2,b3⟩:=T8 t.place T.ri 0
   by_cases z:below t.place 0=0
   ·exact z
   ·have:=b2 0 (by lia) (by lia);lia
end
section
def SetO (a:Addr) (L:TL) (ep:Nat) (t:SetTable):HO:=.ext fun h=>∃ o,h.get? a=some o/\o.ExactSet/\o.data=.set (L.map (·.2)).toArray ep t
abbrev fsW (ps:List (Addr×List Int)):List (List Int):=U2 (fun i=>(ps.getD i (0,[])).2) ps.length
def Zlx (X:Cx):List V->Hp->VK->Prop:=fun xs H Q=>∃ (l:Addr) (ps:List (Addr×List Int)),xs=[.ref l]/\SqL X.K H l (ps.map fun p=>V.ref p.1)/\(∀ p∈ps,SqT X.K H p.1 (p.2.map V.int))/\(fsW ps).length<76 /\
 ∀ (a:Addr) (L:TL) (ep:Nat) (t:SetTable) (qs:List (Addr×List Int)),H a=none->TOk t L->t.plain=true->t.led=(!(Xc X.w))->L.map (·.2.2)=qs.map (fun q=>Value.ref q.1)->(qs.map (·.2)).Perm (fsW ps)->(fsW ps).Nodup->(∀ q∈qs,q∈ps)->Q (.ref a) (upd H a (SetO a L ep t))
theorem Pk :∀ {zs:List Int} {its:List Value},Vals (zs.map V.int) its->ItemsAre (intKind P w) zs its
 | [],_,.nil=>.nil
 | z::zs,_,.cons a b=>.cons (by obtain ⟨t,rfl⟩:=a; exact intKind_is _ _ _ _) (Pk b)
theorem Pi {G:List Int->Addr->Prop} {h:Heap}:∀ {es:List (Int×Value)} {kss:List (List Int)},KeysAre G (intKind X.prog X.w) h es kss->∃ qs:List (Addr×List Int),es.map (·.2)=qs.map (fun q=>Value.ref q.1)/\qs.map (·.2)=kss/\∀ q∈qs,G q.2 q.1
 | _,_,.nil=>⟨[],rfl,rfl,fun _ h=>(Gw h).elim⟩
 | _,_,.cons (e:=e) (ks:=ks) a b=>by
  obtain ⟨qs,h1,h2,h3⟩:=Pi b;obtain ⟨p,e1,_,_,g⟩:=a;exists (p,ks)::qs,by rw [Jr,Jr,h1,e1],by rw [Jr,h2],fun q hq=>?_;rcases Ju.mp hq with rfl | hq
  ·exact g
  ·exact h3 q hq
theorem Zft (hc:X.calm=true) (hu:X.A.units+200<cLine):Xv X (.type "set") (Zlx X):=by
 intro pq s σ H xs us Q I r h;obtain ⟨l,ps,rfl,hl,ht,hb,q⟩:=h;obtain ⟨u,rfl,rx⟩:=T0 r;cases rx;obtain ⟨its,rv,pl,_⟩:=I.list hl;have len:its.length=ps.length:=by have:=Paired.length rv; simpa using this.symm
 refine Zfs (knd:=intKind X.prog X.w) (G:=fun ks b=>(b,ks)∈ps) (val:=fun i=>(ps.getD i (0,[])).2) (fun k v n hk=>?_) (I.ok.hd hc) ?_ pl.isList (fun j v hj=>?_) ?_ fun h' tk hS hk=>?_
 ·cases v with
  | int z t=>cases n <;> rfl
  | _=>simp [intKind,Value.isInt] at hk
 ·show X.A.units+1+1+1<cLine;lia
 ·rw [Bb] at hj;obtain ⟨hj',rfl⟩:=Jh.mp hj;have hp:j<ps.length:=by lia
  have e1:ps.getD j (0,[])=ps[j]:=by rw [J8,Jb hp]; rfl
  have rr:=Paired.at rv (i:=j) (by rw [Ja]; exact hp) hj';rw [Gk] at rr;have hm:ps[j]∈ps:=Ge hp;obtain ⟨it2,rv2,⟨o,e,cl,m,dt⟩,_⟩:=I.tuple (ht _ hm);exists ps[j].1,?_,?_,?_
  ·first | exact rr | exact rr.symm | exact Eq.symm rr
  ·rw [e1];exists o,it2.toArray,m,e,cl,dt,Pk rv2
  ·rw [e1];exact hm
 ·rw [Jg,len];exact hb
 ·rw [show its.toArray.size=ps.length by rw [Jg,len]] at hS;obtain ⟨o,ep,t,L,kss,ho,hex,hd,T,mo,nf,ka,pm,nd,ld,pp⟩:=hS;obtain ⟨qs,h1,h2,h3⟩:=Pi ka;exists .ref s.heap.objs.size,upd H s.heap.objs.size (SetO s.heap.objs.size L ep t),I.laid (fun b u e=>hk b u (Dd e) e) (Jf _) ⟨⟨o,ho,hex,hd⟩,⟨o,ho⟩,fun g1 g2 ⟨o',e1,e2⟩ k=>⟨o',k o' e1,e2⟩⟩,rfl,q _ L ep t qs (I.hok.fresh (Jf _)) T pp ld (by rw [<- h1,Gn]; rfl) (by rw [h2]; exact pm) nd h3
theorem Zem {α:Type} {f:β->α} {l m:List α} (p:l.Perm m):∀ {qs:List β},m=qs.map f->∃ qs':List β,qs'.Perm qs/\l=qs'.map f:=by
 induction p with
 | nil=>exact fun {qs} e=>⟨qs,.refl _,e⟩
 | cons x _ ih =>
  intro qs e;cases qs with
  | nil=>cases e
  | cons b r =>
   rw [Jr] at e;injection e with e1 e2
   obtain ⟨r',p1,p2⟩:=ih e2;exact ⟨b::r',p1.cons _,by rw [Jr,e1,p2]⟩
 | swap x y t =>
  intro qs e
  match qs,e with
  | [],e=>cases e
  | [b],e=>cases e
  | b::c::r,e =>
   rw [Jr,Jr] at e;injection e with e1 e2
   injection e2 with e2 e3
   exact ⟨c::b::r,.swap _ _ _,by rw [Jr,Jr,e1,e2,e3]⟩
 | trans _ _ ih1 ih2 =>
  intro qs e;obtain ⟨q2,p2,e2⟩:=ih2 e;obtain ⟨q1,p1,e1⟩:=ih1 e2;exists q1,p1.trans p2,e1
theorem N8 {a:Addr} {L:TL} {t:SetTable} {qs:List (Addr×List Int)} (I:Inv X pq σ H s) (ha:H a=some (SetO a L ep t)) (T:TOk t L) (pp:t.plain=true) (ld:t.led=(!(Xc X.w))) (eq:L.map (·.2.2)=qs.map fun q=>Value.ref q.1) (hz:L.length<64) :
  ∃ rs:List (Addr×List Int),rs.Perm qs/\∀ {A:Around} {R:List Value->Shared->Prop} {E:Value->Shared->Prop},A.handled=none->(∀ (h':Heap) (tk:Nat),(∀ b o,s.heap.get? b=some o->h'.get? b=some o)->R (rs.map fun q=>Value.ref q.1) { s with heap:=h',toks:=tk })->wpAny (model X.prog X.w) A (collect (.ref a)) R E s:=by
 obtain ⟨⟨o,ho,hex,hd⟩,_⟩:=I.hok a _ ha;have wp:=Qu (w:=X.w) (a:=a) (es:=(L.map (·.2)).toArray) (ep:=ep);obtain ⟨rs,p1,e1⟩:=Zem (wp.map (·.2)) (qs:=qs) (f:=fun q=>Value.ref q.1) (by rw [<- eq]; simp);refine ⟨rs,p1,fun {A R E} hh hR=>?_⟩;refine kdu_collect (Zja hex.1 hd T pp ld) hh ho (by rw [sizeLine_eq]; lia) fun h' tk acc hk hacc=>?_;have:acc.toList=rs.map fun q=>Value.ref q.1:=by
  rw [<- e1]
  apply List.ext_getElem?
  intro j;rw [Bv,Js,Bv]
  by_cases hj:j<acc.size
  ·have:=hacc.2 j acc[j] (Gm hj);rw [Gm hj];exact this.symm
  ·have ws:(Ul X.w a (L.map (·.2)).toArray ep).size=L.length:=by
    have:=wp.length_eq;simpa using this
   rw [Bp (by lia),Bp (by rw [ws,<- hacc.1]; lia)];rfl
 rw [this];exact hR h' tk hk
end
end L2
namespace L2
open PySem PySem.W PyProof.Rows HT PySem.Calls
section
theorem Ziy {b:Bool} {p q:Addr} {Q:Bool->Shared->Prop} (I:Inv X pq σ H s) (hu:A.units+120<cLine) (h1:SqT X.K H p (ns.map V.int)) (h2:SqT X.K H q (ms.map V.int)) (h:Q (HT.lexLt ns ms) s):wpAny (model X.prog X.w) A (oneLt' b (.ref p) (.ref q)) Q E s:=by
 obtain ⟨its,rv,⟨o,e,cl,m,dt⟩,_⟩:=I.tuple h1;obtain ⟨its2,rv2,⟨o2,e2,cl2,m2,dt2⟩,_⟩:=I.tuple h2;have i1:=We rv;have i2:=We rv2;have hz:∀ {A:Around} (j:Nat) (g1:j<its.length) (g2:j<its2.length),SeqAt.EqAt A s its[j] its2[j] (ns[j]? == ms[j]?)/\LtAt A s its[j] its2[j] (decide ((ns[j]?).getD 0<(ms[j]?).getD 0)):=fun {A} j g1 g2=>Qb i1 i2 j g1 g2;have el:lexN (fun j=>(ns[j]? == ms[j]?,decide ((ns[j]?).getD 0<(ms[j]?).getD 0))) its.length its2.length=HT.lexLt ns ms:=by
  rw [(ints_at i1).1,(ints_at i2).1,U1]
 rw [oneLt'_eq];cases b with
 | true =>
  simp only [if_true];refine Fz (wpAny_cRoomFor (by lia) ?_);refine Fz (wpAny_callSpecialIfBound?_slot ⟨_,e,cl⟩ F.slot_tuple_lt (wpAny_call_entry F.slot_tuple_lt ⟨_,e,cl⟩ F.entry_tuple_lt (U9 (z:=fun j=>(ns[j]? == ms[j]?,decide ((ns[j]?).getD 0<(ms[j]?).getD 0))) e dt e2 cl2 dt2 (fun j g1 g2=>hz j g1 g2) ⟨_,rfl,?_⟩) (F.args_tuple_lt_2 _ _)));rw [el];exact wpAny_truthy_bool h
 | false =>
  simp only [Gf,if_false];refine Fz (wpAny_richCompare_same_room (op:=.Lt) ⟨_,e,cl⟩ ⟨_,e2,cl2⟩ F.slot_tuple_lt (wpAny_call_entry F.slot_tuple_lt ⟨_,e,cl⟩ F.entry_tuple_lt (U9 (z:=fun j=>(ns[j]? == ms[j]?,decide ((ns[j]?).getD 0<(ms[j]?).getD 0))) e dt e2 cl2 dt2 (fun j g1 g2=>hz j g1 g2) ⟨_,rfl,(fun z=>nomatch z),?_⟩) (F.args_tuple_lt_2 _ _)) (by lia));rw [el];unfold truthOfDropped
  first | exact wpAny_truthy_bool h | exact wpAny_holding (wpAny_truthy_bool h)
end
section
def kOf (L:List KIt):SortKind:=if (L.all fun q=>!q.2.2.isEmpty) then tuples' true else if (L.head?.any fun q=>!q.2.2.isEmpty) then general' else oneType'
theorem Qy {L:List KIt} (I:Inv X pq σ H s) (hk:∀ q∈L,SqT X.K H q.2.1 (q.2.2.map V.int)) (h2:0<L.length) {Q:SortKind->Shared->Prop} (h:Q (kOf L) s) :
  wpAny (model X.prog X.w) A (keyKind' (Zp L).toArray) Q E s:=by
 by_cases ha:(L.all fun q=>!q.2.2.isEmpty)=true
 ·rw [kOf,Df ha] at h;refine Zgz I (fun q hq=>⟨hk q hq,fun e=>?_⟩) h2 h;have:=Bj.mp ha q hq;rw [e] at this;exact absurd this nofun
 rw [kOf,De ha] at h;have ty:∀ v∈Zp L,Looks (model X.prog X.w) s.heap (typeOf v) (.type "tuple"):=fun v hv=>by
  obtain ⟨q,hq,rfl⟩:=Jp.mp hv;obtain ⟨its,rv,⟨o,ho,hc,n,hd⟩,_⟩:=I.tuple (hk q hq);have:=(show Looks (model X.prog X.w) s.heap (typeOf (.ref q.2.1)) o.cls from (Looks.ld ho).andThen .now);rwa [hc] at this
 have firsts:∀ (L':List KIt),(∀ q∈L',q∈L)->∃ fs:List (Option Value),fs.map Option.isSome=L'.map (fun q=>!q.2.2.isEmpty)/\∀ {Q:List (Option Value)->Shared->Prop},Q fs s->wpAny (model X.prog X.w) A ((Zp L').mapM firstOfTuple') Q E s:=by
  intro L'
  induction L' with
  | nil=>intro _; exact ⟨[],rfl,fun {Q} h=>by show wpAny _ _ (List.mapM _ []) _ _ _; rw [List.mapM_nil]; exact Da h⟩
  | cons q r ih =>
   intro hm;obtain ⟨fs,e1,go⟩:=ih fun x hx=>hm x (Jj _ hx);obtain ⟨its,rv,⟨o,ho,hc,n,hd⟩,_⟩:=I.tuple (hk q (hm q Jl));have hl:its.length=q.2.2.length:=by have:=Paired.length rv; simpa using this.symm
   exists its.toArray[0]?::fs,?_,fun {Q} h=>?_
   ·rw [Jr,Jr,e1]
    congr 1
    cases hq:q.2.2 with
    | nil =>
     rw [hq] at hl;rw [List.length_eq_zero_iff.mp hl];rfl
    | cons z zs =>
     rw [hq] at hl
     match its,hl with
     | [],hl=>cases hl
     | _::_,_=>simp
   ·show wpAny _ _ (List.mapM _ (Value.ref q.2.1::Zp r)) _ _ _;rw [List.mapM_cons];refine Fz ?_;rw [kas_first_eq];refine Fz (Looks.here (show Looks (model X.prog X.w) s.heap (typeOf (.ref q.2.1)) o.cls from (Looks.ld ho).andThen .now) ?_);rw [hc,De (by first | decide | simp)];refine Fz (listItems_at ho hd (Da ?_));exact Fz (go (Q:=fun bs s'=>wpAny (model X.prog X.w) A (pure (its.toArray[0]?::bs)) Q E s') (Da h))
 obtain ⟨fs,e1,go⟩:=firsts L fun _ h=>h;rw [kat_kind_eq,List.mapM_toArray,map_eq_pure_bind];refine Fz (Fz (go (Da ?_)));have hna:¬ (fs.toArray.all fun x=>x.isSome)=true:=by
  intro z
  apply ha
  have:(fs.map Option.isSome).all id=true:=by
   rw [List.all_map];simpa using z
  rw [e1,List.all_map] at this;exact this
 rw [De hna];cases L with
 | nil=>exact absurd h2 (by simp)
 | cons q L =>
  cases fs with
  | nil=>cases e1
  | cons f fs =>
   rw [Jr,Jr] at e1;injection e1 with e1 e2
   have h0:((f::fs).toArray[0]?.bind id)=f:=by simp
   rw [h0];have hh:((q::L).head?.any fun q=>!q.2.2.isEmpty)=f.isSome:=e1.symm
   by_cases hf:f.isSome=true
   ·rw [Df (hh.trans hf)] at h;rw [Df hf];exact Da h
   ·rw [De (fun z=>hf (hh.symm.trans z))] at h;rw [De hf];rw [oneTypeOnly'_eq,List.mapM_toArray,map_eq_pure_bind];refine Fz (Fz (Fz (kas_mapM (r:=.type "tuple") _ (fun v hv Q' hq=>(ty v hv).here hq) (Da ?_))));have hall2:((List.map (fun _=>Value.type "tuple") (Zp (q::L))).toArray.all fun x=>x == Value.type "tuple")=true:=by
     simp only [List.all_toArray,List.all_map,Bj];intro _ _;rfl
    have h0:(List.map (fun _=>Value.type "tuple") (Zp (q::L))).toArray[0]?=some (Value.type "tuple"):=by simp [Zp]
    rw [h0];simp only [hall2,if_true];exact Da (Da h)
def S3 (x y:Value):keyLt' general' x y=oneLt' false x y:=rfl
theorem Zak {L:List KIt} (I:Inv X pq σ H s) (hk:∀ q∈L,SqT X.K H q.2.1 (q.2.2.map V.int)) (nd:(L.map (·.2.2)).Nodup) (hu:A.units+120<cLine) :
  CmpR (X1 (L.map (·.2.2))) L.length (kas_ask X.prog X.w A (kOf L) (Zp L)) s:=by
 by_cases ha:(L.all fun q=>!q.2.2.isEmpty)=true
 ·rw [kOf,Df ha];refine Zjy I (fun q hq=>⟨hk q hq,fun e=>?_⟩) nd;have:=Bj.mp ha q hq;rw [e] at this;exact absurd this nofun
 rw [kOf,De ha];have go:∀ (κ:SortKind) (b:Bool),(∀ x y,keyLt' κ x y=oneLt' b x y)->CmpR (X1 (L.map (·.2.2))) L.length (kas_ask X.prog X.w A κ (Zp L)) s:=by
  intro κ b hb i j C hi hj h;rw [Ut nd (by simpa using hi) (by simpa using hj),Xb hi,Xb hj] at h;unfold kas_ask;rw [show (Zp L).getD i Value.none=Value.ref L[i].2.1 from Xb hi,show (Zp L).getD j Value.none=Value.ref L[j].2.1 from Xb hj,hb];exact Ziy I hu (hk _ (Ge hi)) (hk _ (Ge hj)) h
 generalize (L.head?.any fun q=>!q.2.2.isEmpty)=c;cases c with
 | true=>exact go _ false fun x y=>S3 x y
 | false=>exact go _ true fun x y=>keyLt'_oneType x y
end
section
def Zhy (X:Cx):List V->Hp->VK->Prop:=fun xs H Q=>∃ (a:Addr) (L:TL) (ep:Nat) (t:SetTable) (qs:List (Addr×List Int)),xs=[.ref a]/\H a=some (SetO a L ep t)/\TOk t L/\t.plain=true/\t.led=(!(Xc X.w))/\L.map (·.2.2)=qs.map (fun q=>Value.ref q.1)/\(qs.map (·.2)).Nodup/\(∀ q∈qs,SqT X.K H q.1 (q.2.map V.int))/\qs.length<64 /\
 ∀ (D:Addr) (L':List (Addr×List Int)),H D=none->L'.Perm qs->L'.Pairwise (fun a b=>HT.lexLt a.2 b.2=true)->Q (.ref D) (upd H D (.lst (L'.map fun q=>V.ref q.1)))
theorem Zb8 (hc:X.calm=true) (hu:X.A.units+200<cLine):Xv X (.builtin "sorted") (Zhy X):=by
 intro pq s σ H xs us Q I r h;obtain ⟨a,L,ep,t,qs,rfl,ha,T,pp,ld,eq,nd,hk,h64,q⟩:=h;obtain ⟨u,rfl,rx⟩:=T0 r;cases rx;have ll:L.length=qs.length:=by have:=congrArg List.length eq; simpa using this
 obtain ⟨rs,pm,col⟩:=N8 I ha T pp ld eq (by lia);have hR:∀ q∈(rs.map fun q=>((.non,q.1,q.2):KIt)),SqT X.K H q.2.1 (q.2.2.map V.int):=fun q hq=>by
  obtain ⟨x,hx,rfl⟩:=Jp.mp hq;exact hk x (pm.mem_iff.mp hx)
 have e2:(rs.map fun q=>((.non,q.1,q.2):KIt)).map (·.2.2)=rs.map (·.2):=by rw [Gn]; rfl
 have nd2:((rs.map fun q=>((.non,q.1,q.2):KIt)).map (·.2.2)).Nodup:=by
  rw [e2];exact ((pm.map _).nodup_iff).mpr nd
 have kv:Zp (rs.map fun q=>((.non,q.1,q.2):KIt))=rs.map fun q=>Value.ref q.1:=by
  show List.map _ (List.map _ _)=_;rw [Gn];rfl
 refine Zc1 I (κ:=kOf (rs.map fun q=>((.non,q.1,q.2):KIt))) (L:=rs.map fun q=>((.non,q.1,q.2):KIt)) (fun {A R E} hA hR=>?_) (by rw [Ja,pm.length_eq]; exact h64) nd2 (fun _ _ J h0 {_ _ _} q=>Qy J hR (by lia) q) (fun _ _ _ J=>Zak J hR nd2 (by show X.A.units+1+1+120<cLine; lia)) fun D L' hD pm2 pw=>?_
 ·rw [kv] at hR;exact col (hA.trans (I.ok.hd hc)) hR
 ·have:=q D (L'.map fun z=>(z.2.1,z.2.2)) hD ?_ ?_
  ·rw [Gn] at this;exact this
  ·refine List.Perm.trans ?_ pm;have:=pm2.map fun z:KIt=>(z.2.1,z.2.2);rw [Gn,show ((fun z:KIt=>(z.2.1,z.2.2)) ∘ fun q:Addr×List Int=>((.non,q.1,q.2):KIt))=id from rfl,List.map_id] at this;exact this
  ·exact Gy.mpr pw
end
end L2
namespace L3
open PySem L2
structure Cf where
 c:Addr
 k:W.Frag
variable {C:L3.Cf}
inductive D where
 | non | bl (b:Bool) | int (i:Int) | str (x:Str) | ty (n:String) | at (a:Addr)
 | tup (xs:List D) | lst (xs:List D) | frz (xs:List D) | dct (kvs:List (Key×D)) | dcT (kvs:List (List Key×D))
 | code (S:List Pr) | cell (k:Nat) | exc (C:Addr) (fs:List (Str×D))
variable {ds xs:List L3.D}
inductive MO where
 | lst (xs:List D) | dct (kvs:List (Key×D)) | dcT (kvs:List (List Key×D)) | drK (kvs:List (Key×D)) | drT (kvs:List (List Key×D)) | dfT (o:Obj) (vs:List (List Key×V)) (kvs:List (List Key×D)) | dfK (o:Obj) (vs:List (Key×V)) (kvs:List (Key×D)) | ins (C:Addr) (fs:List (Str×D)) | hand | tab (P:Addr) (pos:Pos) (q:Str)
variable {m':L3.MO}
abbrev Mem:=List MO
mutual
inductive Rep (C:Cf) (I:Hp) (α:List Addr):V->D->Prop where
 | non:Rep C I α .non .non
 | bl (b:Bool):Rep C I α (.bl b) (.bl b)
 | int (i:Int):Rep C I α (.int i) (.int i)
 | str (x:Str):Rep C I α (.str x) (.str x)
 | ty (n:String):Rep C I α (.ty n) (.ty n)
 | at (a:Addr):Rep C I α (.ref a) (.at a)
 | tup {a:Addr} {vs:List V} {ds:List D}:I a=some (.tup vs)->Reps C I α vs ds->Rep C I α (.ref a) (.tup ds)
 | lst {a:Addr} {vs:List V} {ds:List D}:I a=some (.lst vs)->Reps C I α vs ds->Rep C I α (.ref a) (.lst ds)
 | frz {a:Addr} {vs:List V} {ds:List D}:SqL C.k I a vs->Reps C I α vs ds->Rep C I α (.ref a) (.frz ds)
 | dct {a:Addr} {vs:List (Key×V)} {ds:List (Key×D)}:I a=some (.dK vs)->RepK C I α vs ds->Rep C I α (.ref a) (.dct ds)
 | dcT {a:Addr} {vs:List (List Key×V)} {ds:List (List Key×D)}:I a=some (.dT vs)->RepT C I α vs ds->Rep C I α (.ref a) (.dcT ds)
 | code {x:Addr} {S:List Pr}:Zbt C.c I x S->Rep C I α (.ref x) (.code S)
 | cell {a:Addr} {k:Nat}:α[k]?=some a->Rep C I α (.ref a) (.cell k)
 | exc {ea Ce:Addr} {d:Option Addr} {vs:List (Str×V)} {fs:List (Str×D)}:I ea=some (.ext (excP ea Ce d))->XD I d vs->RepF C I α vs fs->Rep C I α (.ref ea) (.exc Ce fs)
inductive Reps (C:Cf) (I:Hp) (α:List Addr):List V->List D->Prop where
 | nil:Reps C I α [] []
 | cons {v:V} {d:D} {vs:List V} {ds:List D}:Rep C I α v d->Reps C I α vs ds->Reps C I α (v::vs) (d::ds)
inductive RepK (C:Cf) (I:Hp) (α:List Addr):List (Key×V)->List (Key×D)->Prop where
 | nil:RepK C I α [] []
 | cons {k:Key} {v:V} {d:D} {vs:List (Key×V)} {ds:List (Key×D)}:Rep C I α v d->RepK C I α vs ds->RepK C I α ((k,v)::vs) ((k,d)::ds)
inductive RepF (C:Cf) (I:Hp) (α:List Addr):List (Str×V)->List (Str×D)->Prop where
 | nil:RepF C I α [] []
 | cons {k:Str} {v:V} {d:D} {vs:List (Str×V)} {ds:List (Str×D)}:Rep C I α v d->RepF C I α vs ds->RepF C I α ((k,v)::vs) ((k,d)::ds)
inductive RepT (C:Cf) (I:Hp) (α:List Addr):List (List Key×V)->List (List Key×D)->Prop where
 | nil:RepT C I α [] []
 | cons {k:List Key} {v:V} {d:D} {vs:List (List Key×V)} {ds:List (List Key×D)}:Rep C I α v d->RepT C I α vs ds->RepT C I α ((k,v)::vs) ((k,d)::ds)
end
section
def Zjk {k:Nat} {a:Addr} (p:α<+:α') (h:α[k]?=some a):α'[k]?=some a:=by
 obtain ⟨t,rfl⟩:=p;obtain ⟨hk,_⟩:=Jh.mp h;rw [Jx hk];exact h
mutual
theorem Rep.mono (s:Same I I') (p:α<+:α'):∀ {v:V} {d:D},Rep C I α v d->Rep C I' α' v d:=by
 intro _ _ h;cases h with
 | non=>exact .non
 | bl b=>exact .bl b
 | int i=>exact .int i
 | str x=>exact .str x
 | ty n=>exact .ty n
 | «at» a=>exact .at a
 | tup e r=>exact .tup (s _ _ e) (Reps.mono s p r)
 | lst e r=>exact .lst (s _ _ e) (Reps.mono s p r)
 | frz e r=>exact .frz (s.seq e) (Reps.mono s p r)
 | dct e r=>exact .dct (s _ _ e) (RepK.mono s p r)
 | dcT e r=>exact .dcT (s _ _ e) (RepT.mono s p r)
 | code h=>exact .code (h.same s)
 | cell e=>exact .cell (Zjk p e)
 | exc e f r=>exact .exc (s _ _ e) (f.mono s) (RepF.mono s p r)
theorem Reps.mono (s:Same I I') (p:α<+:α'):∀ {vs:List V} {ds:List D},Reps C I α vs ds->Reps C I' α' vs ds:=by
 intro _ _ h;cases h with
 | nil=>exact .nil
 | cons h r=>exact .cons (Rep.mono s p h) (Reps.mono s p r)
theorem RepK.mono (s:Same I I') (p:α<+:α'):∀ {vs:List (Key×V)} {ds:List (Key×D)},RepK C I α vs ds->RepK C I' α' vs ds:=by
 intro _ _ h;cases h with
 | nil=>exact .nil
 | cons h r=>exact .cons (Rep.mono s p h) (RepK.mono s p r)
theorem RepF.mono (s:Same I I') (p:α<+:α'):∀ {vs:List (Str×V)} {ds:List (Str×D)},RepF C I α vs ds->RepF C I' α' vs ds:=by
 intro _ _ h;cases h with
 | nil=>exact .nil
 | cons h r=>exact .cons (Rep.mono s p h) (RepF.mono s p r)
theorem RepT.mono (s:Same I I') (p:α<+:α'):∀ {vs:List (List Key×V)} {ds:List (List Key×D)},RepT C I α vs ds->RepT C I' α' vs ds:=by
 intro _ _ h;cases h with
 | nil=>exact .nil
 | cons h r=>exact .cons (Rep.mono s p h) (RepT.mono s p r)
end
theorem Reps.length:∀ {vs:List V} {ds:List D},Reps C I α vs ds->vs.length=ds.length:=by
 intro _ _ hz9;cases hz9 with
 | nil=>
  exact rfl
 | cons _ r=>
  exact by rw [Jq,Jq,Reps.length r]
theorem Reps.get:∀ {vs:List V} {ds:List D} {i:Nat} {d:D},Reps C I α vs ds->ds[i]?=some d->∃ v,vs[i]?=some v/\Rep C I α v d
 | _,_,_,_,.nil,e=>by simp at e
 | _,_,0,_,.cons r _,e=>by simp at e; subst e;exists ·,r
 | _,_,i+1,d,.cons _ t,e=>by
  obtain ⟨u,h1,h2⟩:=Reps.get (i:=i) (d:=d) t (by simpa using e);exists u,by simpa using h1,h2
theorem Reps.at:∀ {vs:List V} {ds:List D} {i:Nat},Reps C I α vs ds->(h1:i<vs.length)->(h2:i<ds.length)->Rep C I α vs[i] ds[i]:=fun {vs ds i} r h1 h2=>by
 obtain ⟨v,e,z⟩:=r.get (Jb h2);rw [Jb h1] at e;cases e;exact z
theorem Reps.app:∀ {vs ws:List V} {ds es:List D},Reps C I α vs ds->Reps C I α ws es->Reps C I α (vs++ws) (ds++es):=by
 intro _ _ _ _ hz9 s;cases hz9 with
 | nil=>
  exact s
 | cons r t=>
  exact .cons r (Reps.app t s)
def Reps.one {d:D} (h:Rep C I α v d):Reps C I α [v] [d]:=.cons h .nil
theorem Reps.take:∀ {vs:List V} {ds:List D} (n:Nat),Reps C I α vs ds->Reps C I α (vs.take n) (ds.take n)
 | _,_,0,_=>.nil
 | _,_,_+1,.nil=>.nil
 | _,_,n+1,.cons r t=>.cons r (Reps.take n t)
theorem Reps.drop:∀ {vs:List V} {ds:List D} (n:Nat),Reps C I α vs ds->Reps C I α (vs.drop n) (ds.drop n)
 | _,_,0,r=>r
 | _,_,_+1,.nil=>.nil
 | _,_,n+1,.cons _ t=>Reps.drop n t
theorem Reps.set {d:D} (r:Rep C I α v d):∀ {vs:List V} {ds:List D} (i:Nat),Reps C I α vs ds->Reps C I α (vs.set i v) (ds.set i d)
 | _,_,_,.nil=>.nil
 | _,_,0,.cons _ t=>.cons r t
 | _,_,i+1,.cons q t=>.cons q (Reps.set r i t)
def Reps.rev (h:Reps C I α vs ds):Reps C I α vs.reverse ds.reverse:=by
 have go:∀ {vs ws:List V} {ds es:List D},Reps C I α vs ds->Reps C I α ws es->Reps C I α (vs.reverse++ws) (ds.reverse++es):=by
  intro vs
  induction vs with
  | nil=>intro ws ds es h1 h2; cases h1; exact h2
  | cons v vs ih =>
   intro ws ds es h1 h2;cases h1 with
   | cons a b =>
    rw [B8,Jt,B8,Jt];exact ih b (.cons a h2)
 have:=go h .nil;rwa [Ga,Ga] at this
theorem Reps.ints:∀ (ns:List Int),Reps C I α (ns.map V.int) (ns.map D.int)
 | []=>.nil
 | n::r=>.cons (.int n) (Reps.ints r)
theorem Reps.of_ints:∀ {vs:List V} (ns:List Int),Reps C I α vs (ns.map D.int)->vs=ns.map V.int
 | _,[],h=>by cases h; rfl
 | _,n::r,h=>by
  cases h with
  | cons a b =>
   cases a;rw [Reps.of_ints r b];rfl
end
variable {M:L3.Mem}
def MoAt (C:Cf) (I:Hp) (α:List Addr) (H:Hp) (a:Addr):MO->Prop
 | .lst ds=>∃ vs,H a=some (.lst vs)/\Reps C I α vs ds
 | .dct ds=>∃ vs,H a=some (.dK vs)/\RepK C I α vs ds
 | .dcT ds=>∃ vs,H a=some (.dT vs)/\RepT C I α vs ds
 | .drK ds=>∃ vs,Rd H a (.dK vs)/\RepK C I α vs ds
 | .drT ds=>∃ vs,Rd H a (.dT vs)/\RepT C I α vs ds
 | .dfT o vs ds=>H a=some (.frz o (.dT vs))/\RepT C I α vs ds
 | .dfK o vs ds=>H a=some (.frz o (.dK vs))/\RepK C I α vs ds
 | .ins Cl fs=>∃ dx vs,H a=some (.ins Cl dx vs)/\Paired (fun (p:Str×V) (q:Str×D)=>p.1=q.1/\Rep C I α p.2 q.2) vs fs
 | .hand=>∃ (d k:Int) (c:Addr) (cs:List Int),H a=some (.lst [.int d,.int k,.ref c])/\I c=some (.lst (cs.map V.int))/\cs≠[]/\cs.length<=63/\0<=d/\0<=k/\∀ c∈cs,0<=c
 | .tab P pos q=>a=P/\∃ ps,H a=some (.tbl ps)/\TriplesOk ps.toList/\(codeAmong pos ps.toList=none\/∃ c,codeAmong pos ps.toList=some (.ref c)/\I c=some (codeφ c q))
theorem MoAt.some {a:Addr} {m:MO} (h:MoAt C I α H a m):∃ o,H a=some o:=by
 cases m with
 | lst ds=>obtain ⟨vs,e,_⟩:=h;exists _,e
 | dct ds=>obtain ⟨vs,e,_⟩:=h;exists _,e
 | dcT ds=>obtain ⟨vs,e,_⟩:=h;exists _,e
 | drK ds=>obtain ⟨vs,e,_⟩:=h; rcases e with e | ⟨o,e⟩ <;> exact ⟨_,e⟩
 | drT ds=>obtain ⟨vs,e,_⟩:=h; rcases e with e | ⟨o,e⟩ <;> exact ⟨_,e⟩
 | dfT o vs ds=>exact ⟨_,h.1⟩
 | dfK o vs ds=>exact ⟨_,h.1⟩
 | ins Cl fs=>obtain ⟨dx,vs,e,_⟩:=h;exists _,e
 | hand=>obtain ⟨d,k,c,cs,e,_⟩:=h;exists _,e
 | tab P pos q=>obtain ⟨_,ps,e,_⟩:=h;exists _,e
theorem MoAt.mono {a:Addr} {m:MO} (h:MoAt C I α H a m) (s:Same I I') (p:α<+:α') (e:H' a=H a):MoAt C I' α' H' a m:=by
 cases m with
 | lst ds=>obtain ⟨vs,e1,r⟩:=h;exists vs,e.trans e1,r.mono s p
 | dct ds=>obtain ⟨vs,e1,r⟩:=h;exists vs,e.trans e1,r.mono s p
 | dcT ds=>obtain ⟨vs,e1,r⟩:=h;exists vs,e.trans e1,r.mono s p
 | drK ds=>obtain ⟨vs,e1,r⟩:=h;exists vs,e1.imp (fun z=>e.trans z) (fun ⟨o,z⟩=>⟨o,e.trans z⟩),r.mono s p
 | drT ds=>obtain ⟨vs,e1,r⟩:=h;exists vs,e1.imp (fun z=>e.trans z) (fun ⟨o,z⟩=>⟨o,e.trans z⟩),r.mono s p
 | dfT o vs ds=>exact ⟨e.trans h.1,h.2.mono s p⟩
 | dfK o vs ds=>exact ⟨e.trans h.1,h.2.mono s p⟩
 | ins Cl fs=>obtain ⟨dx,vs,e1,r⟩:=h;exists dx,vs,e.trans e1,Paired.mapP r fun _ _ z=>⟨z.1,z.2.mono s p⟩
 | hand=>obtain ⟨d,k,c,cs,e1,e2,r⟩:=h;exists d,k,c,cs,e.trans e1,s _ _ e2,r
 | tab P pos q =>
  obtain ⟨eP,ps,e1,t,r⟩:=h;exists eP,ps,e.trans e1,t,?_;rcases r with r | ⟨c,r1,r2⟩
  ·exact .inl r
  ·exact .inr ⟨c,r1,s _ _ r2⟩
abbrev X3:=Addr->List (Str×D)->Mem->Prop
structure Anc where
 i:Hp
 a:List Addr
 xe:XK
 kx:X3
variable {Z:L3.Anc}
structure Rel (C:Cf) (Z:Anc) (I:Hp) (α:List Addr) (H:Hp) (M:Mem):Prop where
 ai:Same Z.i I
 aa:Z.a<+:α
 sub:Same I H
 len:α.length=M.length
 nd:α.Nodup
 cel:∀ (k:Nat) (a:Addr) (m:MO),α[k]?=some a->M[k]?=some m->MoAt C I α H a m/\I a=none
section
def Rel.cellNe (R:Rel C Z I α H M) {k:Nat} {a p:Addr} (h:α[k]?=some a) (hp:H p=none):a≠p:=by
 obtain ⟨hk,_⟩:=Jh.mp h;have hk':k<M.length:=by rw [<- R.len]; exact hk
 obtain ⟨o,e⟩:=(R.cel k a _ h (Jb hk')).1.some;exact Zz e hp
def Rel.new (R:Rel C Z I α H M) {p:Addr} {o:HO} (hp:H p=none):Rel C Z (upd I p o) α (upd H p o) M/\Same I (upd I p o)/\(upd I p o) p=some o:=by
 have ip:I p=none:=R.sub.free hp;have s:Same I (upd I p o):=Ze ip;exists ⟨R.ai.trans s,R.aa,fun b u h=>?_,R.len,R.nd,fun k a m h1 h2=>?_⟩,s,Zn
 ·by_cases e:b=p
  ·subst e;rw [Zn] at h ⊢;exact h
  ·rw [Z4 e] at h ⊢;exact R.sub b u h
 ·obtain ⟨a1,a2⟩:=R.cel k a m h1 h2;have ne:=R.cellNe h1 hp;exact ⟨a1.mono s (Jd _) (Z4 ne),by rw [Z4 ne]; exact a2⟩
theorem Rel.cell (R:Rel C Z I α H M) {p:Addr} {o:HO} {m:MO} (hp:H p=none) (hm:∀ H',H' p=some o->MoAt C I α H' p m):Rel C Z I (α++[p]) (upd H p o) (M++[m])/\α<+:(α++[p])/\(α++[p])[M.length]?=some p:=by
 have ip:I p=none:=R.sub.free hp;refine ⟨⟨R.ai,R.aa.trans (Gq _ _),fun b u h=>?_,by rw [Jc,Jc,R.len]; rfl,?_,fun k a x h1 h2=>?_⟩,Gq _ _,by rw [<- R.len]; simp⟩
 ·have ne:b≠p:=fun e=>by rw [e,ip] at h; cases h
  rw [Z4 ne];exact R.sub b u h
 ·rw [Ba];exists R.nd,by simp,fun a ha b hb=>?_;obtain ⟨k,hk,rfl⟩:=Gd ha;rw [Je.mp hb];exact R.cellNe (Jb hk) hp
 ·by_cases hk:k < α.length
  ·rw [Jx hk] at h1;rw [Jx (by rw [<- R.len]; exact hk)] at h2;obtain ⟨a1,a2⟩:=R.cel k a x h1 h2;exists a1.mono (.refl _) (Gq _ _) (Z4 (R.cellNe h1 hp)),a2
  ·obtain ⟨hk2,_⟩:=Jh.mp h1;rw [Jc,Go] at hk2;have e:k=α.length:=by lia
   subst e;have e1:(α++[p])[α.length]?=some p:=by simp
   have e2:(M++[m])[α.length]?=some m:=by rw [R.len]; simp
   rw [e1] at h1;rw [e2] at h2;cases h1;cases h2;exists (hm _ Zn).mono (.refl _) (Gq _ _) rfl,ip
def Rel.put (R:Rel C Z I α H M) {k:Nat} {a:Addr} {o:HO} {m:MO} (ha:α[k]?=some a) (hm:∀ H',H' a=some o->MoAt C I α H' a m):Rel C Z I α (upd H a o) (M.set k m):=by
 obtain ⟨hk,ea⟩:=Jh.mp ha;have hkM:k<M.length:=by rw [<- R.len]; exact hk
 have ia:I a=none:=(R.cel k a _ ha (Jb hkM)).2;exists R.ai,R.aa,fun b u h=>?_,by rw [B7]; exact R.len,R.nd,fun j b x h1 h2=>?_
 ·have ne:b≠a:=fun e=>by rw [e,ia] at h; cases h
  rw [Z4 ne];exact R.sub b u h
 ·by_cases e:k=j
  ·subst e;rw [ha] at h1;cases h1;rw [Bn hkM] at h2;cases h2;exists hm _ Zn,ia
  ·rw [Gx e] at h2;obtain ⟨a1,a2⟩:=R.cel j b x h1 h2;obtain ⟨hj,eb⟩:=Jh.mp h1;have ne:b≠a:=fun z=>e (by
    rw [<- ea,<- eb] at z;exact ((Bh R.nd).mp z).symm)
   exists a1.mono (.refl _) (Jd _) (Z4 ne),a2
end
abbrev Ev:=List (Option D)
variable {ρ:L3.Ev}
abbrev K3:=D->Mem->Prop
abbrev TE3:=Ev->Mem->K3->Prop
abbrev TT3:=Ev->Mem->(Bool->Mem->Prop)->Prop
abbrev TA3:=Ev->Mem->(List D->Mem->Prop)->Prop
abbrev TO3:=Ev->Mem->(Option Int->Mem->Prop)->Prop
abbrev R3:=D->D->Mem->K3->Prop
structure Ends3 where
 nx:Ev->Mem->Prop
 rt:K3
 bk:Ev->Mem->Prop:=fun _ _=>False
 ct:Ev->Mem->Prop:=fun _ _=>False
abbrev TS3:=Ends3->Ev->Mem->Prop
abbrev TG3:=D->Ev->Mem->(Ev->Mem->Prop)->Prop
abbrev TGs3:=List D->Ev->Mem->(Ev->Mem->Prop)->Prop
def RepE (C:Cf) (I:Hp) (α:List Addr) (σ:St) (ρ:Ev):Prop:=σ.length=ρ.length/\∀ (i:Nat) (d:D),ρ[i]?=some (some d)->∃ v,σ[i]?=some (some v)/\Rep C I α v d
def RepE.mono (h:RepE C I α σ ρ) (s:Same I I') (p:α<+:α'):RepE C I' α' σ ρ :=
 ⟨h.1,fun i d e=>let ⟨v,a,b⟩:=h.2 i d e; ⟨v,a,b.mono s p⟩⟩
theorem RepE.set (h:RepE C I α σ ρ) {d:D} (r:Rep C I α v d) (i:Nat):RepE C I α (σ.set i (some v)) (ρ.set i (some d)):=by
 exists by rw [B7,B7]; exact h.1,fun j e q=>?_
 by_cases z:i=j
 ·subst z
  by_cases hl:i < ρ.length
  ·rw [Bn hl] at q;cases q;exists v,Bn (by rw [h.1]; exact hl),r
  ·rw [Fk (by rw [B7]; lia)] at q;cases q
 ·rw [Gx z] at q ⊢;exact h.2 j e q
def Fin (C:Cf) (Z:Anc) (I:Hp) (α:List Addr) (K:K3) (Q:VK):Prop:=∀ v d I' α' H' M',Same I I'->α<+:α'->Rel C Z I' α' H' M'->Rep C I' α' v d->K d M'->Q v H'
def Fin.mono {K:K3} (h:Fin C Z I α K Q) (s:Same I I') (p:α<+:α'):Fin C Z I' α' K Q:=fun v d I2 α2 H2 M2 s2 p2=>h v d I2 α2 H2 M2 (s.trans s2) (p.trans p2)
def SimE (C:Cf) (Z:Anc) (t:TE) (u:TE3):Prop:=∀ I α σ H ρ M (K:K3) (Q:VK),Rel C Z I α H M->RepE C I α σ ρ->u ρ M K->Fin C Z I α K Q->t σ H Q
def SimT (C:Cf) (Z:Anc) (t:TT) (u:TT3):Prop:=∀ I α σ H ρ M (K:Bool->Mem->Prop) (Q:Bool->Hp->Prop),Rel C Z I α H M->RepE C I α σ ρ->u ρ M K ->
 (∀ b I' α' H' M',Same I I'->α<+:α'->Rel C Z I' α' H' M'->K b M'->Q b H')->t σ H Q
def SimA (C:Cf) (Z:Anc) (t:TA) (u:TA3):Prop:=∀ I α σ H ρ M (K:List D->Mem->Prop) (Q:List V->Hp->Prop),Rel C Z I α H M->RepE C I α σ ρ->u ρ M K ->
 (∀ vs ds I' α' H' M',Same I I'->α<+:α'->Rel C Z I' α' H' M'->Reps C I' α' vs ds->K ds M'->Q vs H')->t σ H Q
def SimO (C:Cf) (Z:Anc) (t:TO) (u:TO3):Prop:=∀ I α σ H ρ M (K:Option Int->Mem->Prop) (Q:Option Int->Hp->Prop),Rel C Z I α H M->RepE C I α σ ρ->u ρ M K ->
 (∀ b I' α' H' M',Same I I'->α<+:α'->Rel C Z I' α' H' M'->K b M'->Q b H')->t σ H Q
def SimR (C:Cf) (Z:Anc) (r:R2) (u:R3):Prop:=∀ I α H M x y d e (K:K3) (Q:VK),Rel C Z I α H M->Rep C I α x d->Rep C I α y e->u d e M K->Fin C Z I α K Q->r x y H Q
def SimU (C:Cf) (Z:Anc) (r:V->Hp->VK->Prop) (u:D->Mem->K3->Prop):Prop:=∀ I α H M x d (K:K3) (Q:VK),Rel C Z I α H M->Rep C I α x d->u d M K->Fin C Z I α K Q->r x H Q
def SimC (C:Cf) (Z:Anc) (r:List V->Hp->VK->Prop) (u:List D->Mem->K3->Prop):Prop:=∀ I α H M xs ds (K:K3) (Q:VK),Rel C Z I α H M->Reps C I α xs ds->u ds M K->Fin C Z I α K Q->r xs H Q
def SimL (C:Cf) (Z:Anc) (r:V->Option Int->Option Int->Hp->VK->Prop) (u:D->Option Int->Option Int->Mem->K3->Prop):Prop:=∀ I α H M x d lo hi (K:K3) (Q:VK),Rel C Z I α H M->Rep C I α x d->u d lo hi M K->Fin C Z I α K Q->r x lo hi H Q
def FinS (C:Cf) (Z:Anc) (I:Hp) (α:List Addr) (K:Ev->Mem->Prop) (Q:St->Hp->Prop):Prop:=∀ I' α' σ' H' ρ' M',Same I I'->α<+:α'->Rel C Z I' α' H' M'->RepE C I' α' σ' ρ'->K ρ' M'->Q σ' H'
def FinS.mono {K:Ev->Mem->Prop} {Q:St->Hp->Prop} (h:FinS C Z I α K Q) (s:Same I I') (p:α<+:α'):FinS C Z I' α' K Q:=fun I2 α2 σ2 H2 ρ2 M2 s2 p2=>h I2 α2 σ2 H2 ρ2 M2 (s.trans s2) (p.trans p2)
structure FinD (C:Cf) (Z:Anc) (I:Hp) (α:List Addr) (E:Ends3) (D':Ends):Prop where
 nx:FinS C Z I α E.nx D'.nx
 rt:Fin C Z I α E.rt D'.rt
 bk:FinS C Z I α E.bk D'.bk
 ct:FinS C Z I α E.ct D'.ct
def FinD.mono {E:Ends3} {D':Ends} (h:FinD C Z I α E D') (s:Same I I') (p:α<+:α'):FinD C Z I' α' E D':=⟨h.nx.mono s p,h.rt.mono s p,h.bk.mono s p,h.ct.mono s p⟩
def SimS (C:Cf) (Z:Anc) (t:TS) (u:TS3):Prop:=∀ I α σ H ρ M (E:Ends3) (D':Ends),Rel C Z I α H M->RepE C I α σ ρ->u E ρ M->FinD C Z I α E D'->t D' σ H
def SimG (C:Cf) (Z:Anc) (t:TG) (u:TG3):Prop:=∀ I α σ H ρ M v d (K:Ev->Mem->Prop) (Q:St->Hp->Prop),Rel C Z I α H M->RepE C I α σ ρ->Rep C I α v d->u d ρ M K->FinS C Z I α K Q->t v σ H Q
def Zhj (C:Cf) (Z:Anc) (t:TGs) (u:TGs3):Prop:=∀ I α σ H ρ M vs ds (K:Ev->Mem->Prop) (Q:St->Hp->Prop),Rel C Z I α H M->RepE C I α σ ρ->Reps C I α vs ds->u ds ρ M K->FinS C Z I α K Q->t vs σ H Q
section
variable {ua ub:TE3} {tA tB':TT} {uA uB:TT3} {t:TA} {u:TA3}
def uVar (i:Nat):TE3:=fun ρ M K=>∃ d,ρ[i]?=some (some d)/\K d M
def Zd (i:Nat):SimE C Z (tVar i) (uVar i):=fun I α σ H ρ M K Q R E h k=>by
 obtain ⟨d,e,h⟩:=h;obtain ⟨v,e2,r⟩:=E.2 i d e;exists v,e2,k v d I α H M (.refl _) (Jd _) R r h
def uC (d:D):TE3:=fun _ M K=>K d M
def Jaq {d:D} (r:∀ I α,Rep C I α v d):SimE C Z (tC v) (uC d):=fun I α σ H ρ M K Q R E h k=>k v d I α H M (.refl _) (Jd _) R (r I α) h
def Zt {i:Int}:SimE C Z (tC (.int i)) (uC (.int i)):=Jaq fun _ _=>.int i
def s_bl {i:Bool}:SimE C Z (tC (.bl i)) (uC (.bl i)):=Jaq fun _ _=>.bl i
def Zjd:SimE C Z (tC .non) (uC .non):=Jaq fun _ _=>.non
def s_ty {i:String}:SimE C Z (tC (.ty i)) (uC (.ty i)):=Jaq fun _ _=>.ty i
def uOp (u:R3) (ua ub:TE3):TE3:=fun ρ M K=>ua ρ M fun d M1=>ub ρ M1 fun e M2=>u d e M2 K
def s_op {r:R2} {u:R3} (hr:SimR C Z r u) (ha:SimE C Z ta ua) (hb:SimE C Z tb ub):SimE C Z (tOp r ta tb) (uOp u ua ub):=fun I α σ H ρ M K Q R E h k =>
 ha I α σ H ρ M _ _ R E h fun v d I1 α1 H1 M1 s1 p1 R1 r1 h1 =>
  hb I1 α1 σ H1 ρ M1 _ _ R1 (E.mono s1 p1) h1 fun w e I2 α2 H2 M2 s2 p2 R2 r2 h2 =>
   hr I2 α2 H2 M2 v w d e K Q R2 (r1.mono s2 p2) r2 h2 (k.mono (s1.trans s2) (p1.trans p2))
def uUn (u:D->Mem->K3->Prop) (ua:TE3):TE3:=fun ρ M K=>ua ρ M fun d M1=>u d M1 K
def s_un {r:V->Hp->VK->Prop} {u:D->Mem->K3->Prop} (hr:SimU C Z r u) (ha:SimE C Z ta ua):SimE C Z (tUn r ta) (uUn u ua):=fun I α σ H ρ M K Q R E h k =>
 ha I α σ H ρ M _ _ R E h fun v d I1 α1 H1 M1 s1 p1 R1 r1 h1=>hr I1 α1 H1 M1 v d K Q R1 r1 h1 (k.mono s1 p1)
def D.isN:D->Bool | .non=>true | _=>false
def Zeu {d:D} (h:Rep C I α v d):decide (v=.non)=d.isN:=by cases h <;> simp [D.isN]
def uIsN (ua:TE3):TE3:=fun ρ M K=>ua ρ M fun d M1=>K (.bl d.isN) M1
def Znx (ua:TE3):TE3:=fun ρ M K=>ua ρ M fun d M1=>K (.bl (!d.isN)) M1
def Zof (ha:SimE C Z ta ua):SimE C Z (tIsN ta) (uIsN ua):=fun I α σ H ρ M K Q R E h k =>
 ha I α σ H ρ M _ _ R E h fun v d I1 α1 H1 M1 s1 p1 R1 r1 h1=>by
  rw [Zeu r1];exact k _ _ I1 α1 H1 M1 s1 p1 R1 (.bl _) h1
def Zaz (ha:SimE C Z ta ua):SimE C Z (Zk9 ta) (Znx ua):=fun I α σ H ρ M K Q R E h k =>
 ha I α σ H ρ M _ _ R E h fun v d I1 α1 H1 M1 s1 p1 R1 r1 h1=>by
  rw [Zeu r1];exact k _ _ I1 α1 H1 M1 s1 p1 R1 (.bl _) h1
def uB3 (ua:TE3):TT3:=fun ρ M K=>ua ρ M fun d M1=>∃ c,d=.bl c/\K c M1
def s_b (ha:SimE C Z ta ua):SimT C Z (tB ta) (uB3 ua):=fun I α σ H ρ M K Q R E h k =>
 ha I α σ H ρ M _ _ R E h fun v d I1 α1 H1 M1 s1 p1 R1 r1 h1=>by
  obtain ⟨c,e,h1⟩:=h1;subst e;cases r1;exists c,rfl,k c I1 α1 H1 M1 s1 p1 R1 h1
def Yb (ha:SimE C Z ta ua):SimT C Z (Zk5 ta) (uB3 ua):=s_b ha
def uAnd (uA uB:TT3):TT3:=fun ρ M K=>uA ρ M fun c M1=>if c=true then uB ρ M1 K else K false M1
def uOr (uA uB:TT3):TT3:=fun ρ M K=>uA ρ M fun c M1=>if c=true then K true M1 else uB ρ M1 K
def uNot (uA:TT3):TT3:=fun ρ M K=>uA ρ M fun c M1=>K (!c) M1
def Zoh (ha:SimT C Z tA uA) (hb:SimT C Z tB' uB):SimT C Z (tAnd tA tB') (uAnd uA uB):=fun I α σ H ρ M K Q R E h k =>
 ha I α σ H ρ M _ _ R E h fun c I1 α1 H1 M1 s1 p1 R1 h1=>by
  cases c with
  | true =>
   rw [Df rfl] at h1 ⊢;exact hb I1 α1 σ H1 ρ M1 _ _ R1 (E.mono s1 p1) h1 fun b I2 α2 H2 M2 s2 p2 R2 h2=>k b I2 α2 H2 M2 (s1.trans s2) (p1.trans p2) R2 h2
  | false =>
   rw [De Jo] at h1 ⊢;exact k false I1 α1 H1 M1 s1 p1 R1 h1
def s_or (ha:SimT C Z tA uA) (hb:SimT C Z tB' uB):SimT C Z (tOr tA tB') (uOr uA uB):=fun I α σ H ρ M K Q R E h k =>
 ha I α σ H ρ M _ _ R E h fun c I1 α1 H1 M1 s1 p1 R1 h1=>by
  cases c with
  | false =>
   rw [De Jo] at h1 ⊢;exact hb I1 α1 σ H1 ρ M1 _ _ R1 (E.mono s1 p1) h1 fun b I2 α2 H2 M2 s2 p2 R2 h2=>k b I2 α2 H2 M2 (s1.trans s2) (p1.trans p2) R2 h2
  | true =>
   rw [Df rfl] at h1 ⊢;exact k true I1 α1 H1 M1 s1 p1 R1 h1
def Q5 (ha:SimT C Z tA uA):SimT C Z (tNot tA) (uNot uA):=fun I α σ H ρ M K Q R E h k =>
 ha I α σ H ρ M _ _ R E h fun c I1 α1 H1 M1 s1 p1 R1 h1=>k _ I1 α1 H1 M1 s1 p1 R1 h1
def Zn9 (ua ub:TE3):TE3:=fun ρ M K=>ua ρ M fun d M1=>∃ c,d=.bl c/\if c=true then ub ρ M1 K else K (.bl false) M1
def Znw (ua:TE3):TE3:=fun ρ M K=>ua ρ M fun d M1=>∃ c,d=.bl c/\K (.bl (!c)) M1
def Zdf (ha:SimE C Z ta ua) (hb:SimE C Z tb ub):SimE C Z (Zld ta tb) (Zn9 ua ub):=fun I α σ H ρ M K Q R E h k =>
 ha I α σ H ρ M _ _ R E h fun v d I1 α1 H1 M1 s1 p1 R1 r1 h1=>by
  obtain ⟨c,e,h1⟩:=h1;subst e;cases r1;exists c,rfl,?_;cases c with
  | true =>
   rw [Df rfl] at h1 ⊢;exact hb I1 α1 σ H1 ρ M1 _ _ R1 (E.mono s1 p1) h1 (k.mono s1 p1)
  | false =>
   rw [De Jo] at h1 ⊢;exact k _ _ I1 α1 H1 M1 s1 p1 R1 (.bl _) h1
def Zlk (ha:SimE C Z ta ua):SimE C Z (Zk8 ta) (Znw ua):=fun I α σ H ρ M K Q R E h k =>
 ha I α σ H ρ M _ _ R E h fun v d I1 α1 H1 M1 s1 p1 R1 r1 h1=>by
  obtain ⟨c,e,h1⟩:=h1;subst e;cases r1;exists c,rfl,k _ _ I1 α1 H1 M1 s1 p1 R1 (.bl _) h1
def uNil:TA3:=fun _ M K=>K [] M
def Zn5 (ua:TE3) (u:TA3):TA3:=fun ρ M K=>ua ρ M fun d M1=>u ρ M1 fun ds M2=>K (d::ds) M2
def Zm:SimA C Z tNil uNil:=fun I α σ H ρ M K Q R E h k=>k [] [] I α H M (.refl _) (Jd _) R .nil h
def Zb (ha:SimE C Z ta ua) (hr:SimA C Z t u):SimA C Z (Ziz ta t) (Zn5 ua u):=fun I α σ H ρ M K Q R E h k =>
 ha I α σ H ρ M _ _ R E h fun v d I1 α1 H1 M1 s1 p1 R1 r1 h1 =>
  hr I1 α1 σ H1 ρ M1 _ _ R1 (E.mono s1 p1) h1 fun vs ds I2 α2 H2 M2 s2 p2 R2 r2 h2 =>
   k (v::vs) (d::ds) I2 α2 H2 M2 (s1.trans s2) (p1.trans p2) R2 (.cons (r1.mono s2 p2) r2) h2
def uTup (u:TA3):TE3:=fun ρ M K=>u ρ M fun ds M1=>ds.length<=sizeLine/\K (.tup ds) M1
def Ua (ha:SimA C Z t u):SimE C Z (tTup t) (uTup u):=fun I α σ H ρ M K Q R E h k =>
 ha I α σ H ρ M _ _ R E h fun vs ds I1 α1 H1 M1 s1 p1 R1 r1 h1=>by
  exists by rw [r1.length]; exact h1.1,fun p hp=>?_;obtain ⟨R2,s2,e2⟩:=R1.new (o:=.tup vs) hp;exact k _ _ _ α1 _ M1 (s1.trans s2) p1 R2 (.tup e2 (r1.mono s2 (Jd _))) h1.2
def uLst (u:TA3):TE3:=fun ρ M K=>u ρ M fun ds M1=>ds.length<=sizeLine/\K (.lst ds) M1
def V8 (ha:SimA C Z t u):SimE C Z (tLst t) (uLst u):=fun I α σ H ρ M K Q R E h k =>
 ha I α σ H ρ M _ _ R E h fun vs ds I1 α1 H1 M1 s1 p1 R1 r1 h1=>by
  exists by rw [r1.length]; exact h1.1,fun p hp=>?_;obtain ⟨R2,s2,e2⟩:=R1.new (o:=.lst vs) hp;exact k _ _ _ α1 _ M1 (s1.trans s2) p1 R2 (.lst e2 (r1.mono s2 (Jd _))) h1.2
def Znz (u:TA3):TE3:=fun ρ M K=>u ρ M fun ds M1=>ds.length<=sizeLine/\K (.cell M1.length) (M1++[.lst ds])
def S9 (ha:SimA C Z t u):SimE C Z (tLst t) (Znz u):=fun I α σ H ρ M K Q R E h k =>
 ha I α σ H ρ M _ _ R E h fun vs ds I1 α1 H1 M1 s1 p1 R1 r1 h1=>by
  exists by rw [r1.length]; exact h1.1,fun p hp=>?_;obtain ⟨R2,p2,e2⟩:=R1.cell (o:=.lst vs) (m:=.lst ds) hp fun H' e=>⟨vs,e,r1⟩;exact k _ _ I1 _ _ _ s1 (p1.trans p2) R2 (.cell e2) h1.2
def uCB (r:List D->Mem->K3->Prop) (u:TA3):TE3:=fun ρ M K=>u ρ M fun ds M1=>r ds M1 K
def s_cb {r:List V->Hp->VK->Prop} {r3:List D->Mem->K3->Prop} (hr:SimC C Z r r3) (ha:SimA C Z t u):SimE C Z (tCB r t) (uCB r3 u):=fun I α σ H ρ M K Q R E h k =>
 ha I α σ H ρ M _ _ R E h fun vs ds I1 α1 H1 M1 s1 p1 R1 r1 h1=>hr I1 α1 H1 M1 vs ds K Q R1 r1 h1 (k.mono s1 p1)
def Ziu:TO3:=fun _ M K=>K none M
def Znv (ua:TE3):TO3:=fun ρ M K=>ua ρ M fun d M1=>∃ i,d=.int i/\K (some i) M1
def Yq:SimO C Z Zcu Ziu:=fun I α σ H ρ M K Q R E h k=>k none I α H M (.refl _) (Jd _) R h
def Y8 (ha:SimE C Z ta ua):SimO C Z (Zk7 ta) (Znv ua):=fun I α σ H ρ M K Q R E h k =>
 ha I α σ H ρ M _ _ R E h fun v d I1 α1 H1 M1 s1 p1 R1 r1 h1=>by
  obtain ⟨i,e,h1⟩:=h1;subst e;cases r1;exists i,rfl,k (some i) I1 α1 H1 M1 s1 p1 R1 h1
def uSl (r:D->Option Int->Option Int->Mem->K3->Prop) (ua:TE3) (ul uh:TO3):TE3:=fun ρ M K=>ua ρ M fun d M1=>ul ρ M1 fun l M2=>uh ρ M2 fun g M3=>r d l g M3 K
def s_sl {r:V->Option Int->Option Int->Hp->VK->Prop} {r3:D->Option Int->Option Int->Mem->K3->Prop} {tl th:TO} {ul uh:TO3} (hr:SimL C Z r r3) (ha:SimE C Z ta ua) (hl:SimO C Z tl ul) (hh:SimO C Z th uh):SimE C Z (tSl r ta tl th) (uSl r3 ua ul uh):=fun I α σ H ρ M K Q R E h k =>
 ha I α σ H ρ M _ _ R E h fun v d I1 α1 H1 M1 s1 p1 R1 r1 h1 =>
  hl I1 α1 σ H1 ρ M1 _ _ R1 (E.mono s1 p1) h1 fun lo I2 α2 H2 M2 s2 p2 R2 h2 =>
   hh I2 α2 σ H2 ρ M2 _ _ R2 (E.mono (s1.trans s2) (p1.trans p2)) h2 fun hi I3 α3 H3 M3 s3 p3 R3 h3 =>
    hr I3 α3 H3 M3 v d lo hi K Q R3 (r1.mono (s2.trans s3) (p2.trans p3)) h3 (k.mono (s1.trans (s2.trans s3)) (p1.trans (p2.trans p3)))
end
def Z3 (M:Mem):D->Option (List D)
 | .lst ds=>some ds
 | .frz ds=>some ds
 | .cell k=>match M[k]? with | some (.lst ds)=>some ds | _=>none
 | _=>none
def lsOf (M:Mem):D->Option (List D)
 | .lst ds=>some ds
 | .cell k=>match M[k]? with | some (.lst ds)=>some ds | _=>none
 | _=>none
def Ziw:D->Option (List D)
 | .tup ds=>some ds
 | _=>none
def Sc (M:Mem):D->Option (List D)
 | .tup ds=>some ds
 | d=>Z3 M d
section
variable {d:D} 
def Wg (R:Rel C Z I α H M) {k:Nat} {a:Addr} (e:α[k]?=some a) (h:M[k]?=some (.lst ds)):∃ vs,H a=some (.lst vs)/\Reps C I α vs ds:=(R.cel k a _ e h).1
theorem Y3 (R:Rel C Z I α H M) (r:Rep C I α v d) (h:Z3 M d=some ds):∃ a vs,v=.ref a/\SqL C.k H a vs/\Reps C I α vs ds:=by
 cases r with
 | lst e r=>cases h;exists _,·,SqL.of (R.sub _ _ e),r
 | frz e r=>cases h;exists _,·,R.sub.seq e,r
 | @cell a k e =>
  unfold Z3 at h;cases hm:M[k]? with
  | none=>simp only [hm] at h; cases h
  | some m =>
   cases m with
   | lst es =>
    simp only [hm] at h;cases h;obtain ⟨vs,e1,r⟩:=Wg R e hm;exists _,·,SqL.of e1,r
   | _=>simp only [hm] at h; cases h
 | _=>cases h
theorem Ry (R:Rel C Z I α H M) (r:Rep C I α v d) (h:lsOf M d=some ds):∃ a vs,v=.ref a/\H a=some (.lst vs)/\Reps C I α vs ds:=by
 cases r with
 | lst e r=>cases h;exists _,·,R.sub _ _ e,r
 | @cell a k e =>
  unfold lsOf at h;cases hm:M[k]? with
  | none=>simp only [hm] at h; cases h
  | some m =>
   cases m with
   | lst es =>
    simp only [hm] at h;cases h;obtain ⟨vs,e1,r⟩:=Wg R e hm;exists _,·,e1,r
   | _=>simp only [hm] at h; cases h
 | _=>cases h
theorem Vd (R:Rel C Z I α H M) (r:Rep C I α v d) (h:Ziw d=some ds):∃ a vs,v=.ref a/\H a=some (.tup vs)/\I a=some (.tup vs)/\Reps C I α vs ds:=by
 cases r with
 | tup e r=>cases h;exists _,·,R.sub _ _ e,e,r
 | _=>cases h
end
def cut (xs:List τ) (lo hi:Option Int):List τ:=(xs.drop (HT.sIx xs.length 0 lo)).take (HT.sIx xs.length xs.length hi-HT.sIx xs.length 0 lo)
theorem Reps.cut (r:Reps C I α vs ds) (lo hi:Option Int):Reps C I α (cutV vs lo hi) (cut ds lo hi):=by
 unfold cutV L3.cut;rw [r.length];exact (r.drop _).take _
def Yv {υ:Type} (f:τ->υ) (xs:List τ) (lo hi:Option Int):cut (xs.map f) lo hi=(cut xs lo hi).map f:=by
 unfold cut;rw [Ja,Fi,Fj]
theorem Reps.atI {i:Int} {d:D} (r:Reps C I α vs ds) (h:atI ds i=some d):∃ v,L2.atI vs i=some v/\Rep C I α v d:=by
 unfold L2.atI at h ⊢;rw [r.length];cases e:ixN ds.length i with
 | none=>rw [e] at h; cases h
 | some j =>
  rw [e] at h;exact r.get (i:=j) h
section
def OpR.or {f:Value->Value->Sem Value} {r r':R2} (h:OpR X f r) (h':OpR X f r'):OpR X f (fun x y H Q=>r x y H Q\/r' x y H Q):=by
 intro pq s σ H x y v u Q I rx ry q;rcases q with q | q
 ·exact h pq s σ H x y v u Q I rx ry q
 ·exact h' pq s σ H x y v u Q I rx ry q
def SlR.or {r r':V->Option Int->Option Int->Hp->VK->Prop} (h:SlR X r) (h':SlR X r'):SlR X (fun x l u H Q=>r x l u H Q\/r' x l u H Q):=by
 intro pq s σ H x v vl vu lo hi sl Q I rx hs pl pu q;rcases q with q | q
 ·exact h pq s σ H x v vl vu lo hi sl Q I rx hs pl pu q
 ·exact h' pq s σ H x v vl vu lo hi sl Q I rx hs pl pu q
def Zji:R2:=fun x y H Q=>∃ i j,x=.str i/\y=.str j/\i.length+j.length<=sizeLine/\Q (.str (i++j)) H
def Zgk (K:W.Frag):R2:=fun x y H Q=>rI0 (fun i j=>.int (i+j)) x y H Q\/Zji x y H Q\/rCat x y H Q\/Zgj K x y H Q
def Yz (h:X.K=K'):OpR X (binaryOp .Add) (Zgk K'):=by
 subst h;exact OpR.or Wt (OpR.or Zb0 (OpR.or Pe Nv))
def add3:R3:=fun d e M K=>match d,e with
 | .int i,.int j=>K (.int (i+j)) M
 | .str a,.str b=>a.length+b.length<=sizeLine/\K (.str (a++b)) M
 | .tup xs,.tup ys=>(xs≠[]/\xs.length+ys.length<=sizeLine)/\K (.tup (xs++ys)) M
 | d,e=>∃ xs ys,lsOf M d=some xs/\lsOf M e=some ys/\xs.length+ys.length<=sizeLine/\K (.lst (xs++ys)) M
def Zko {x:V} {d e:D} {K:K3} (R:Rel C Z I α H M) (r1:Rep C I α x d) (r2:Rep C I α y e)
  (h:∃ xs ys,lsOf M d=some xs/\lsOf M e=some ys/\xs.length+ys.length<=sizeLine/\K (.lst (xs++ys)) M) (k:Fin C Z I α K Q):Zgk C.k x y H Q:=by
 obtain ⟨xs,ys,e1,e2,hl,h⟩:=h;obtain ⟨a,vs,rfl,ea,ra⟩:=Ry R r1 e1;obtain ⟨b,ws,rfl,eb,rb⟩:=Ry R r2 e2;refine .inr (.inr (.inl ⟨a,b,vs,ws,rfl,rfl,ea,eb,by rw [ra.length,rb.length]; exact hl,fun p hp=>?_⟩));obtain ⟨R2,s2,e2⟩:=R.new (o:=.lst (vs++ws)) hp;exact k _ _ _ α _ M s2 (Jd _) R2 (.lst e2 ((ra.app rb).mono s2 (Jd _))) h
theorem Wi:SimR C Z (Zgk C.k) add3:=fun I α H M x y d e K Q R r1 r2 h k=>by
 have go:=fun h=>Zko R r1 r2 h k;cases d with
 | int i =>
  cases e with
  | int j=>cases r1; cases r2; exact .inl ⟨i,j,rfl,rfl,k _ _ I α H M (.refl _) (Jd _) R (.int _) h⟩
  | _=>exact go h
 | str a =>
  cases e with
  | str b=>cases r1; cases r2; exact .inr (.inl ⟨a,b,rfl,rfl,h.1,k _ _ I α H M (.refl _) (Jd _) R (.str _) h.2⟩)
  | _=>exact go h
 | tup xs =>
  cases e with
  | tup ys =>
   obtain ⟨⟨h1,h2⟩,h⟩:=h;obtain ⟨a,vs,rfl,ea,ia,ra⟩:=Vd R r1 rfl;obtain ⟨b,ws,rfl,eb,ib,rb⟩:=Vd R r2 rfl;refine .inr (.inr (.inr ⟨a,b,vs,ws,rfl,rfl,SqT.of ea,SqT.of eb,fun z=>?_,by rw [ra.length,rb.length]; exact h2,fun z=>?_,fun _ p hp=>?_⟩))
   ·subst z;cases ra;exact h1 rfl
   ·subst z;cases rb;rw [Ga] at h;exact k _ _ I α H M (.refl _) (Jd _) R r1 h
   ·obtain ⟨R2,s2,e2⟩:=R.new (o:=.tup (vs++ws)) hp;exact k _ _ _ α _ M s2 (Jd _) R2 (.tup e2 ((ra.app rb).mono s2 (Jd _))) h
  | _=>exact go h
 | _=>exact go h
def int3 (c:Int->Int->Prop) (g:Int->Int->D):R3:=fun d e M K=>∃ i j,d=.int i/\e=.int j/\c i j/\K (g i j) M
def Zg1 (g:Int->Int->D):R3:=fun d e M K=>∃ i j,d=.int i/\e=.int j/\K (g i j) M
def Jau {c:Int->Int->Prop} {g:Int->Int->V} {g3:Int->Int->D} (hg:∀ I α i j,Rep C I α (g i j) (g3 i j)):SimR C Z (rI c g) (int3 c g3):=fun I α H M x y d e K Q R r1 r2 h k=>by
 obtain ⟨i,j,rfl,rfl,hc,h⟩:=h;cases r1;cases r2;exists i,j,rfl,rfl,hc,k _ _ I α H M (.refl _) (Jd _) R (hg _ _ _ _) h
def Zjc {g:Int->Int->V} {g3:Int->Int->D} (hg:∀ I α i j,Rep C I α (g i j) (g3 i j)):SimR C Z (rI0 g) (Zg1 g3):=fun I α H M x y d e K Q R r1 r2 h k=>by
 obtain ⟨i,j,rfl,rfl,h⟩:=h;cases r1;cases r2;exists i,j,rfl,rfl,k _ _ I α H M (.refl _) (Jd _) R (hg _ _ _ _) h
def Zlj:SimR C Z (rI0 fun i j=>.int (i-j)) (Zg1 fun i j=>.int (i-j)):=Zjc fun _ _ _ _=>.int _
def Np:SimR C Z (rI (fun _ j=>0<j) fun i j=>.int (i % j)) (int3 (fun _ j=>0<j) fun i j=>.int (i % j)):=Jau fun _ _ _ _=>.int _
def s_gt:SimR C Z (rI0 fun i j=>.bl (decide (j<i))) (Zg1 fun i j=>.bl (decide (j<i))):=Zjc fun _ _ _ _=>.bl _
def s_ge:SimR C Z (rI0 fun i j=>.bl (decide (j<=i))) (Zg1 fun i j=>.bl (decide (j<=i))):=Zjc fun _ _ _ _=>.bl _
def neg3:D->Mem->K3->Prop:=fun d M K=>∃ i,d=.int i/\K (.int (-i)) M
def No:SimU C Z (rU fun i=>.int (-i)) neg3:=fun I α H M x d K Q R r h k=>by
 obtain ⟨i,rfl,h⟩:=h;cases r;exists i,rfl,k _ _ I α H M (.refl _) (Jd _) R (.int _) h
def Zgi:R2:=fun x y H Q=>rI CMul (fun i j=>.int (i*j)) x y H Q\/rRep x y H Q
def Zcm:OpR X (binaryOp .Mult) Zgi:=OpR.or Vm Zl7
def mul3:R3:=fun d e M K=>match d,e with
 | .int i,.int j=>CMul i j/\K (.int (i*j)) M
 | d,e=>∃ xs k,lsOf M d=some xs/\e=.int k/\(-(2 ^ 63)<=k/\k<2 ^ 63/\xs.length*k.toNat<=sizeLine)/\K (.lst (List.replicate k.toNat xs).flatten) M
theorem Reps.rep (r:Reps C I α vs ds):∀ n,Reps C I α (List.replicate n vs).flatten (List.replicate n ds).flatten
 | 0=>.nil
 | n+1=>by
  rw [G3,G3,By,By];exact r.app (Reps.rep r n)
theorem Zlm:SimR C Z Zgi mul3:=fun I α H M x y d e K Q R r1 r2 h k=>by
 have go:(∃ xs k,lsOf M d=some xs/\e=.int k/\(-(2 ^ 63)<=k/\k<2 ^ 63/\xs.length*k.toNat<=sizeLine)/\K (.lst (List.replicate k.toNat xs).flatten) M)->Zgi x y H Q:=fun h=>by
  obtain ⟨xs,j,e1,rfl,⟨h1,h2,h3⟩,h⟩:=h;cases r2;obtain ⟨a,vs,rfl,ea,ra⟩:=Ry R r1 e1;refine .inr ⟨a,j,vs,rfl,rfl,ea,h1,h2,by rw [ra.length]; exact h3,fun p hp=>?_⟩;obtain ⟨R2,s2,e2⟩:=R.new (o:=.lst (List.replicate j.toNat vs).flatten) hp;exact k _ _ _ α _ M s2 (Jd _) R2 (.lst e2 ((ra.rep _).mono s2 (Jd _))) h
 cases d with
 | int i =>
  cases e with
  | int j=>cases r1; cases r2; exact .inl ⟨i,j,rfl,rfl,h.1,k _ _ I α H M (.refl _) (Jd _) R (.int _) h.2⟩
  | _=>exact go h
 | _=>exact go h
def Ym (h:X.K=K'):IxR X (rIx K'):=by subst h; exact Zmr
def ix3:R3:=fun d e M K=>match d with
 | .str z=>∃ i c,e=.int i/\z.length<=sizeLine/\L2.atI z.cps.toList i=some c/\K (.str ⟨#[c]⟩) M
 | d=>∃ xs i v,Sc M d=some xs/\e=.int i/\L2.atI xs i=some v/\K v M
theorem s_ix:SimR C Z (rIx C.k) ix3:=fun I α H M x y d e K Q R r1 r2 h k=>by
 have go:(∃ xs i v,Sc M d=some xs/\e=.int i/\L2.atI xs i=some v/\K v M)->rIx C.k x y H Q:=fun h=>by
  obtain ⟨xs,i,w,e1,rfl,e3,hk⟩:=h;cases r2
  by_cases ht:∃ ys,d=.tup ys
  ·obtain ⟨ys,rfl⟩:=ht;cases e1;obtain ⟨a,vs,rfl,ea,_,ra⟩:=Vd R r1 rfl;obtain ⟨v,e4,rv⟩:=ra.atI e3;exact .inr (.inl ⟨a,vs,i,v,rfl,rfl,SqT.of ea,e4,k _ _ I α H M (.refl _) (Jd _) R rv hk⟩)
  ·have e1':Z3 M d=some xs:=by
    cases d with
    | tup ys=>exact absurd ⟨ys,rfl⟩ ht
    | _=>exact e1
   obtain ⟨a,vs,rfl,ea,ra⟩:=Y3 R r1 e1';obtain ⟨v,e4,rv⟩:=ra.atI e3;exact .inl ⟨a,vs,i,v,rfl,rfl,ea,e4,k _ _ I α H M (.refl _) (Jd _) R rv hk⟩
 cases d with
 | str z =>
  obtain ⟨i,c,rfl,h1,h2,h⟩:=h;cases r1;cases r2;exact .inr (.inr ⟨z,i,c,rfl,rfl,h1,h2,k _ _ I α H M (.refl _) (Jd _) R (.str _) h⟩)
 | _=>exact go h
def rSlU (K:W.Frag):V->Option Int->Option Int->Hp->VK->Prop:=fun x l u H Q=>rSlL K x l u H Q\/rSlW K x l u H Q\/rSlS x l u H Q
def Ve (h:X.K=K'):SlR X (rSlU K'):=by subst h; exact SlR.or Vg (SlR.or Zi5 Zlg)
def sl3:D->Option Int->Option Int->Mem->K3->Prop:=fun d lo hi M K=>match d with
 | .str z=>z.length<=sizeLine/\K (.str (Txt.slice z lo hi)) M
 | .tup xs=>K (.tup (cut xs lo hi)) M
 | d=>∃ xs,Z3 M d=some xs/\K (.lst (cut xs lo hi)) M
theorem Reps.inj_cut (r:Reps C I α vs ds) {lo:Option Int} (h:cutV vs lo hi=vs):L3.cut ds lo hi=ds:=by
 have hl:(cutV vs lo hi).length=vs.length:=by rw [h]
 unfold cutV at hl;rw [Jz,Gh] at hl;unfold L3.cut;rw [r.length] at hl;generalize HT.sIx ds.length 0 lo=a at *
 generalize HT.sIx ds.length ds.length hi=b at *
 by_cases hd:ds.length=0
 ·rw [List.length_eq_zero_iff.mp hd]; simp
 ·have:a=0:=by lia
  subst this;rw [Fx,G8];lia
theorem Vf:SimL C Z (rSlU C.k) sl3:=fun I α H M x d lo hi K Q R r1 h k=>by
 have go:(∃ xs,Z3 M d=some xs/\K (.lst (cut xs lo hi)) M)->rSlU C.k x lo hi H Q:=fun h=>by
  obtain ⟨xs,e1,h⟩:=h;obtain ⟨a,vs,rfl,ea,ra⟩:=Y3 R r1 e1;refine .inl ⟨a,vs,rfl,ea,fun p hp=>?_⟩;obtain ⟨R2,s2,e2⟩:=R.new (o:=.lst (cutV vs lo hi)) hp;exact k _ _ _ α _ M s2 (Jd _) R2 (.lst e2 ((ra.cut lo hi).mono s2 (Jd _))) h
 cases d with
 | str z=>cases r1; exact .inr (.inr ⟨z,rfl,h.1,k _ _ I α H M (.refl _) (Jd _) R (.str _) h.2⟩)
 | tup xs =>
  obtain ⟨a,vs,rfl,ea,ia,ra⟩:=Vd R r1 rfl;refine .inr (.inl ⟨a,vs,rfl,SqT.of ea,fun z=>?_,fun p hp=>?_⟩)
  ·have h2:K (.tup (cut xs lo hi)) M:=h;rw [ra.inj_cut z] at h2;exact k _ _ I α H M (.refl _) (Jd _) R r1 h2
  ·obtain ⟨R2,s2,e2⟩:=R.new (o:=.tup (cutV vs lo hi)) hp;exact k _ _ _ α _ M s2 (Jd _) R2 (.tup e2 ((ra.cut lo hi).mono s2 (Jd _))) h
 | _=>exact go h
end
mutual
inductive PyR (M:Mem):D->PyData->Prop where
 | non:PyR M .non .none
 | bl (b:Bool):PyR M (.bl b) (.bool b)
 | int (i:Int):PyR M (.int i) (.int i)
 | str (x:Str):PyR M (.str x) (.str x)
 | seq {d:D} {ds:List D} {ps:List PyData}:Z3 M d=some ds->PyRs M ds ps->PyR M d (.list ps)
 | tup {ds:List D} {ps:List PyData}:PyRs M ds ps->PyR M (.tup ds) (.tuple ps)
inductive PyRs (M:Mem):List D->List PyData->Prop where
 | nil:PyRs M [] []
 | cons {d:D} {p:PyData} {ds:List D} {ps:List PyData}:PyR M d p->PyRs M ds ps->PyRs M (d::ds) (p::ps)
end
section
mutual
theorem Rr (R:Rel C Z I α H M):∀ {v:V} {d:D} {p:PyData},PyR M d p->Rep C I α v d->DV C.k H v p:=by
 intro _ _ _ hz9 r;cases hz9 with
 | non=>
  exact by cases r; exact .non
 | bl b=>
  exact by cases r; exact .bl b
 | int b=>
  exact by cases r; exact .int b
 | str b=>
  exact by cases r; exact .str b
 | seq e q=>
  exact by
    obtain ⟨a,vs,rfl,ea,ra⟩:=Y3 R r e;exact .lst ea (pys_dv R q ra)
 | tup q=>
  exact by
    obtain ⟨a,vs,rfl,ea,_,ra⟩:=Vd R r rfl;exact .tup (SqT.of ea) (pys_dv R q ra)
theorem pys_dv (R:Rel C Z I α H M):∀ {vs:List V} {ds:List D} {ps:List PyData},PyRs M ds ps->Reps C I α vs ds->DVs C.k H vs ps:=by
 intro _ _ _ hz9 r;cases hz9 with
 | nil=>
  exact by cases r; exact .nil
 | cons a b=>
  exact by
    cases r with
    | cons r1 r2=>exact .cons (Rr R a r1) (pys_dv R b r2)
end
end
def eqS:D->D->Option Bool
 | .non,.non=>some true | .non,.int _=>some false | .int _,.non=>some false | .non,.bl _=>some false | .bl _,.non=>some false | .non,.str _=>some false | .str _,.non=>some false
 | .int i,.int j=>some (decide (i=j)) | .bl i,.bl j=>some (decide (i=j)) | .str i,.str j=>some (decide (i=j))
 | .int _,.str _=>some false | .str _,.int _=>some false | .bl _,.str _=>some false | .str _,.bl _=>some false
 | _,_=>none
def eqV (d e:D) (M:Mem) (K:Bool->Prop):Prop:=(∃ b,eqS d e=some b/\K b)\/∃ p q,PyR M d p/\PyR M e q/\SeqAt.shaped p=true/\SeqAt.shaped q=true/\K (PyData.eqv p q)
def eq3:R3:=fun d e M K=>eqV d e M fun b=>K (.bl b) M
def ne3:R3:=fun d e M K=>eqV d e M fun b=>K (.bl (!b)) M
section
def rEqU (K:W.Frag):R2:=fun x y H Q=>rEq x y H Q\/rEqD K x y H Q
def rNeU (K:W.Frag):R2:=fun x y H Q=>rNe x y H Q\/rNeD K x y H Q
def T9 (h:X.K=K') (hu:X.A.units+64<cLine):OpR X (compareOp .Eq) (rEqU K'):=by subst h; exact OpR.or Zmd (Zh4 hu)
def Uo (h:X.K=K') (hu:X.A.units+64<cLine):OpR X (compareOp .NotEq) (rNeU K'):=by subst h; exact OpR.or Zoq (Zl8 hu)
def Ze3 {x:V} {d e:D} {b:Bool} (r1:Rep C I α x d) (r2:Rep C I α y e) (h:eqS d e=some b):scal x y=true/\decide (x=y)=b:=by
 cases r1 <;> first | (cases h; done) | (cases r2 <;> first | (cases h; done) | (injection h with h; subst h; refine ⟨rfl,?_⟩; simp))
def s_eq:SimR C Z (rEqU C.k) eq3:=fun I α H M x y d e K Q R r1 r2 h k=>by
 rcases h with ⟨b,eb,h⟩ | ⟨p,q,h1,h2,h3,h4,h⟩
 ·obtain ⟨z1,z2⟩:=Ze3 r1 r2 eb;exact .inl ⟨z1,by rw [z2]; exact k _ _ I α H M (.refl _) (Jd _) R (.bl _) h⟩
 ·exact .inr ⟨p,q,Rr R h1 r1,Rr R h2 r2,h3,h4,k _ _ I α H M (.refl _) (Jd _) R (.bl _) h⟩
def s_ne:SimR C Z (rNeU C.k) ne3:=fun I α H M x y d e K Q R r1 r2 h k=>by
 rcases h with ⟨b,eb,h⟩ | ⟨p,q,h1,h2,h3,h4,h⟩
 ·obtain ⟨z1,z2⟩:=Ze3 r1 r2 eb;exact .inl ⟨z1,by rw [z2]; exact k _ _ I α H M (.refl _) (Jd _) R (.bl _) h⟩
 ·exact .inr ⟨p,q,Rr R h1 r1,Rr R h2 r2,h3,h4,k _ _ I α H M (.refl _) (Jd _) R (.bl _) h⟩
end
structure Enc (τ:Type) [DecidableEq τ] where
 e:τ->D
 py:τ->PyData
 n:Nat
 ok:∀ M a,PyR M (e a) (py a)
 shp:∀ a,Shp n (py a)
 eq:∀ a b,PyData.eqv (py a) (py b)=decide (a=b)
 hn:n<=60
theorem N6 [DecidableEq τ] {f:τ->PyData} (h:∀ a b,PyData.eqv (f a) (f b)=decide (a=b)):∀ (a b:List τ),PyData.eqvAll (a.map f) (b.map f)=decide (a=b)
 | [],[]=>by simp [PyData.eqvAll]
 | [],_::_=>by simp [PyData.eqvAll]
 | _::_,[]=>by simp [PyData.eqvAll]
 | a::r,b::t=>by
  rw [Jr,Jr,PyData.eqvAll,h,N6 h r t];simp
theorem W5 {e:τ->D} {py:τ->PyData} (h:∀ a,PyR M (e a) (py a)):∀ as:List τ,PyRs M (as.map e) (as.map py)
 | []=>.nil
 | a::r=>.cons (h a) (W5 h r)
def Yc:Enc Int:=⟨.int,.int,0,fun _=>.int,Sb,fun a b=>by rw [PyData.eqv,Bool.beq_eq_decide_eq],nofun⟩
def Ty [DecidableEq τ] (E:Enc τ) (h:E.n<=50:=by decide):Enc (List τ) where
 e as:=.lst (as.map E.e)
 py as:=.list (as.map E.py)
 n:=E.n+1
 ok:=fun M as=>.seq rfl (W5 (E.ok M) as)
 shp:=fun as=>Zat fun d hd=>by
  obtain ⟨a,_,rfl⟩:=Jp.mp hd;exact E.shp a
 eq:=fun a b=>by rw [PyData.eqv,N6 E.eq]
 hn:=by lia
def Xo [DecidableEq τ] (E:Enc τ) (h:E.n<=50:=by decide):Enc (List τ) where
 e as:=.tup (as.map E.e)
 py as:=.tuple (as.map E.py)
 n:=E.n+1
 ok:=fun M as=>.tup (W5 (E.ok M) as)
 shp:=fun as=>Sa fun d hd=>by
  obtain ⟨a,_,rfl⟩:=Jp.mp hd;exact E.shp a
 eq:=fun a b=>by rw [PyData.eqv,N6 E.eq]
 hn:=by lia
def Zhs {n m:Nat} {d:PyData} (h:Shp n d) (l:n<=m):Shp m d:=⟨h.1,Jy h.2 l⟩
def Zoz {υ:Type} [DecidableEq τ] [DecidableEq υ] (E:Enc τ) (F:Enc υ) (h:E.n<=50:=by decide) (h':F.n<=50:=by decide):Enc (τ×υ) where
 e p:=.tup [E.e p.1,F.e p.2]
 py p:=.tuple [E.py p.1,F.py p.2]
 n:=max E.n F.n+1
 ok:=fun M p=>.tup (.cons (E.ok M _) (.cons (F.ok M _) .nil))
 shp:=fun p=>Sa fun d hd=>by
  rcases Ju.mp hd with z | hd
  ·rw [z]; exact Zhs (E.shp _) (Nat.le_max_left _ _)
  ·rw [Je.mp hd]; exact Zhs (F.shp _) (Nat.le_max_right _ _)
 eq:=fun a b=>by
  obtain ⟨a1,a2⟩:=a;obtain ⟨b1,b2⟩:=b;rw [PyData.eqv,PyData.eqvAll,PyData.eqvAll,PyData.eqvAll,E.eq,F.eq];simp
 hn:=by lia
theorem Wv [DecidableEq τ] (E:Enc τ) {a b:τ} {K:Bool->Prop} (h:K (decide (a=b))):eqV (E.e a) (E.e b) M K :=
 .inr ⟨_,_,E.ok M a,E.ok M b,(E.shp a).shaped (by have:=E.hn; lia),(E.shp b).shaped (by have:=E.hn; lia),by rw [E.eq]; exact h⟩
theorem Vt [DecidableEq τ] (E:Enc τ) {d d':D} {a b:List τ} {K:Bool->Prop} (h1:Z3 M d=some (a.map E.e)) (h2:Z3 M d'=some (b.map E.e)) (h:K (decide (a=b))) (hn:E.n<=50:=by decide):eqV d d' M K :=
 .inr ⟨_,_,.seq h1 (W5 (E.ok M) a),.seq h2 (W5 (E.ok M) b),((Ty E hn).shp a).shaped (by have:=(Ty E hn).hn; lia),((Ty E hn).shp b).shaped (by have:=(Ty E hn).hn; lia),by
  have:=(Ty E hn).eq a b;rw [show PyData.eqv (PyData.list (a.map E.py)) (PyData.list (b.map E.py))=decide (a=b) from this];exact h⟩
inductive Ty3 where
 | non | bool | int | str | list | tuple | dict
 deriving DecidableEq
def tyN:Ty3->String
 | .non=>"NoneType" | .bool=>"bool" | .int=>"int" | .str=>"str" | .list=>"list" | .tuple=>"tuple" | .dict=>"dict"
def tyOf (M:Mem):D->Option Ty3
 | .non=>some .non | .bl _=>some .bool | .int _=>some .int | .str _=>some .str | .lst _=>some .list | .tup _=>some .tuple | .dct _=>some .dict | .dcT _=>some .dict
 | .cell k=>match M[k]? with | some (.lst _)=>some .list | some (.dct _)=>some .dict | some (.dcT _)=>some .dict | _=>none
 | _=>none
def isS:Ty3->Ty3->Bool
 | .bool,.int=>true
 | a,b=>decide (a=b)
section
theorem Zj2 (s t:Ty3) (ht:t≠.non):W.kitOne C.k (.type (tyN s)) (.type (tyN t))=some (isS s t):=by
 cases t with
 | non=>exact absurd rfl ht
 | _=>cases s <;> rfl
theorem Zk2 {d:D} {s:Ty3} (R:Rel C Z I α H M) (r:Rep C I α v d) (h:tyOf M d=some s):TyOf C.k H v (.type (tyN s)):=by
 cases r with
 | non=>cases h; exact .non
 | bl b=>cases h; exact .bl b
 | int b=>cases h; exact .int b
 | str b=>cases h; exact .str b
 | lst e r=>cases h; exact .lst (R.sub _ _ e)
 | frz e r=>cases h
 | tup e r=>cases h; exact .tup (R.sub _ _ e)
 | dct e r=>cases h; exact .dK (R.sub _ _ e)
 | dcT e r=>cases h; exact .dT (R.sub _ _ e)
 | @cell a k e =>
  unfold tyOf at h;cases hm:M[k]? with
  | none=>simp only [hm] at h; cases h
  | some m =>
   cases m with
   | lst es=>simp only [hm] at h; cases h; obtain ⟨vs,e1,r⟩:=(R.cel k a _ e hm).1; exact .lst e1
   | dct es=>simp only [hm] at h; cases h; obtain ⟨vs,e1,r⟩:=(R.cel k a _ e hm).1; exact .dK e1
   | dcT es=>simp only [hm] at h; cases h; obtain ⟨vs,e1,r⟩:=(R.cel k a _ e hm).1; exact .dT e1
   | _=>simp only [hm] at h; cases h
 | _=>cases h
def isi3 (T:Ty3):List D->Mem->K3->Prop:=fun ds M K=>∃ d s,ds=[d,.ty (tyN T)]/\tyOf M d=some s/\K (.bl (isS s T)) M
theorem Zdd {T:Ty3} (hT:T≠.non:=by decide):SimC C Z (rIsi C.k) (isi3 T):=fun I α H M xs ds K Q R r h k=>by
 obtain ⟨d,s,rfl,e,h⟩:=h;cases r with
 | cons r1 r2 =>
  cases r2 with
  | cons r2 r3 =>
   cases r3;cases r2;exists _,_,_,·,Zk2 R r1 e,Zj2 s T hT,k _ _ I α H M (.refl _) (Jd _) R (.bl _) h
def len3:List D->Mem->K3->Prop:=fun ds M K=>match ds with
 | [.str z]=>z.length<=sizeLine/\K (.int z.length) M
 | [d]=>∃ xs,Sc M d=some xs/\K (.int xs.length) M
 | _=>False
theorem Xh:SimC C Z (rLen C.k) len3:=fun I α H M xs ds K Q R r h k=>by
 have go:∀ d v,Rep C I α v d->(∃ xs,Sc M d=some xs/\K (.int xs.length) M)->rLen C.k [v] H Q:=fun d v r h=>by
  obtain ⟨ys,e1,h⟩:=h
  by_cases ht:∃ zs,d=.tup zs
  ·obtain ⟨zs,rfl⟩:=ht;cases e1;obtain ⟨a,vs,rfl,ea,_,ra⟩:=Vd R r rfl;exact ⟨_,_,rfl,.inr ⟨_,SqT.of ea,rfl⟩,by rw [ra.length]; exact k _ _ I α H M (.refl _) (Jd _) R (.int _) h⟩
  ·have e1':Z3 M d=some ys:=by
    cases d with
    | tup ys=>exact absurd ⟨ys,rfl⟩ ht
    | _=>exact e1
   obtain ⟨a,vs,rfl,ea,ra⟩:=Y3 R r e1';exact ⟨_,_,rfl,.inl ⟨_,ea,rfl⟩,by rw [ra.length]; exact k _ _ I α H M (.refl _) (Jd _) R (.int _) h⟩
 cases r with
 | nil=>exact h.elim
 | cons r1 r2 =>
  cases r2 with
  | nil =>
   rename_i v d
   cases d with
   | str z=>cases r1;exists _,·,⟨h.1,rfl⟩,k _ _ I α H M (.refl _) (Jd _) R (.int _) h.2
   | _=>exact go _ _ r1 h
  | cons _ _ =>
   rename_i v d _ _ _ _ _ _
   cases d <;> exact h.elim
def Zou:List D->Mem->K3->Prop:=fun ds M K=>∃ d xs,ds=[d]/\Sc M d=some xs/\K (.lst xs) M
def seq_at {d:D} (R:Rel C Z I α H M) (r:Rep C I α v d) (h:Sc M d=some xs):∃ a vs,v=.ref a/\(SqL C.k H a vs\/SqT C.k H a vs)/\Reps C I α vs xs:=by
 by_cases ht:∃ zs,d=.tup zs
 ·obtain ⟨zs,rfl⟩:=ht;cases h;obtain ⟨a,vs,rfl,ea,_,ra⟩:=Vd R r rfl;exists a,vs,rfl,.inr (SqT.of ea),ra
 ·have e1':Z3 M d=some xs:=by
   cases d with
   | tup ys=>exact absurd ⟨ys,rfl⟩ ht
   | _=>exact h
  obtain ⟨a,vs,rfl,ea,ra⟩:=Y3 R r e1';exists a,vs,rfl,.inl ea,ra
theorem Sd:SimC C Z (Zdr C.k) Zou:=fun I α H M xs ds K Q R r h k=>by
 obtain ⟨d,ys,rfl,e,h⟩:=h;cases r with
 | cons r1 r2 =>
  cases r2;obtain ⟨a,vs,rfl,ea,ra⟩:=seq_at R r1 e;exists a,vs,rfl,ea,fun p hp=>?_;obtain ⟨R2,s2,e2⟩:=R.new (o:=.lst vs) hp;exact k _ _ _ α _ M s2 (Jd _) R2 (.lst e2 (ra.mono s2 (Jd _))) h
def Zk3:List D->Mem->K3->Prop:=fun ds M K=>∃ d xs,ds=[d]/\Sc M d=some xs/\K (.tup xs) M
theorem Zc9:SimC C Z (Zhx C.k) Zk3:=fun I α H M xs ds K Q R r h k=>by
 obtain ⟨d,ys,rfl,e,h⟩:=h;cases r with
 | cons r1 r2 =>
  cases r2
  by_cases ht:∃ zs,d=.tup zs
  ·obtain ⟨zs,rfl⟩:=ht;cases e;obtain ⟨a,vs,rfl,ea,_,ra⟩:=Vd R r1 rfl;exists a,vs,rfl,.inr ⟨SqT.of ea,k _ _ I α H M (.refl _) (Jd _) R r1 h⟩
  ·have e1':Z3 M d=some ys:=by
    cases d with
    | tup ys=>exact absurd ⟨ys,rfl⟩ ht
    | _=>exact e
   obtain ⟨a,vs,rfl,ea,ra⟩:=Y3 R r1 e1';exists a,vs,rfl,.inl ⟨ea,fun p hp=>?_⟩;obtain ⟨R2,s2,e2⟩:=R.new (o:=.tup vs) hp;exact k _ _ _ α _ M s2 (Jd _) R2 (.tup e2 (ra.mono s2 (Jd _))) h
def two3 (f:Int->Int->D):List D->Mem->K3->Prop:=fun ds M K=>∃ i j,ds=[.int i,.int j]/\K (f i j) M
theorem Zlo:SimC C Z (fun xs H Q=>∃ i j,xs=[.int i,.int j]/\Q (.int (if j > i then j else i)) H) (two3 fun i j=>.int (if j > i then j else i)):=fun I α H M xs ds K Q R r h k=>by
 obtain ⟨i,j,rfl,h⟩:=h;cases r with
 | cons r1 r2 =>
  cases r2 with
  | cons r2 r3 =>
   cases r3;cases r1;cases r2;exists i,j,rfl,k _ _ I α H M (.refl _) (Jd _) R (.int _) h
theorem Zhu:SimC C Z (fun xs H Q=>∃ i j,xs=[.int i,.int j]/\Q (.int (if j<i then j else i)) H) (two3 fun i j=>.int (if j<i then j else i)):=fun I α H M xs ds K Q R r h k=>by
 obtain ⟨i,j,rfl,h⟩:=h;cases r with
 | cons r1 r2 =>
  cases r2 with
  | cons r2 r3 =>
   cases r3;cases r1;cases r2;exists i,j,rfl,k _ _ I α H M (.refl _) (Jd _) R (.int _) h
theorem Reps.of_bls :∀ {vs:List V} (bs:List Bool),Reps C I α vs (bs.map D.bl)->vs=bs.map V.bl
 | _,[],h=>by cases h; rfl
 | _,n::r,h=>by
  cases h with
  | cons a b =>
   cases a;rw [Reps.of_bls r b];rfl
def all3:List D->Mem->K3->Prop:=fun ds M K=>∃ (d:D) (bs:List Bool),ds=[d]/\Z3 M d=some (bs.map D.bl)/\K (.bl (bs.all id)) M
theorem Zls:SimC C Z (fun xs H Q=>∃ (p:Addr) (bs:List Bool),xs=[.ref p]/\SqL C.k H p (bs.map V.bl)/\Q (.bl (bs.all id)) H) all3:=fun I α H M xs ds K Q R r h k=>by
 obtain ⟨d,bs,rfl,e,h⟩:=h;cases r with
 | cons r1 r2 =>
  cases r2;obtain ⟨a,vs,rfl,ea,ra⟩:=Y3 R r1 e;rw [ra.of_bls bs] at ea;exists a,bs,rfl,ea,k _ _ I α H M (.refl _) (Jd _) R (.bl _) h
def Rel.putL (R:Rel C Z I α H M) {k:Nat} {a:Addr} (ha:α[k]?=some a) (r:Reps C I α vs ds):Rel C Z I α (upd H a (.lst vs)) (M.set k (.lst ds)) :=
 R.put (m:=.lst ds) ha fun H' e=>⟨vs,e,r⟩
def Ri {a:Addr} (e:H a=some (.lst vs)):tyV C.k "list" (.ref a) H:=.inl ⟨rfl,vs,SqL.of e⟩
def app3:D->List D->Mem->K3->Prop:=fun d ds M K=>∃ k xs y,d=.cell k/\ds=[y]/\M[k]?=some (.lst xs)/\xs.length<sizeLine/\K .non (M.set k (.lst (xs++[y])))
def ext3:D->List D->Mem->K3->Prop:=fun d ds M K=>∃ k e xs ys,d=.cell k/\ds=[e]/\M[k]?=some (.lst xs)/\lsOf M e=some ys/\xs.length+ys.length<=sizeLine/\K .non (M.set k (.lst (xs++ys)))
def clr3:D->List D->Mem->K3->Prop:=fun d ds M K=>∃ k xs,d=.cell k/\ds=[]/\M[k]?=some (.lst xs)/\K .non (M.set k (.lst []))
def pop3:D->List D->Mem->K3->Prop:=fun d ds M K=>∃ k xs y,d=.cell k/\ds=[]/\M[k]?=some (.lst xs)/\xs[xs.length-1]?=some y/\K y (M.set k (.lst xs.dropLast))
def Reps.dropLast (r:Reps C I α vs ds):Reps C I α vs.dropLast ds.dropLast:=by
 rw [List.dropLast_eq_take,List.dropLast_eq_take,r.length];exact r.take _
variable {to:TE} {uo:TE3} {t:TA} {u:TA3}
def T6 (ho:SimE C Z to uo) (ha:SimA C Z t u):SimE C Z (tBM C.k "list" Zdt to t) (fun ρ M K=>uo ρ M fun d M1=>lsOf M1 d≠none/\u ρ M1 fun ds M2=>app3 d ds M2 K):=fun I α σ H ρ M K Q R E h k =>
 ho I α σ H ρ M _ _ R E h fun v d I1 α1 H1 M1 s1 p1 R1 r1 h1=>by
  obtain ⟨hn,h1⟩:=h1;cases hl:lsOf M1 d with
  | none=>exact absurd hl hn
  | some zs =>
   obtain ⟨a,vs,rfl,ea,ra⟩:=Ry R1 r1 hl;exists Ri ea,ha I1 α1 σ H1 ρ M1 _ _ R1 (E.mono s1 p1) h1 fun ws ds I2 α2 H2 M2 s2 p2 R2 r2 h2=>?_;obtain ⟨j,xs,y,rfl,rfl,e1,hz,h2⟩:=h2;cases r2 with
   | cons ry rn =>
    cases rn;cases (r1.mono s2 p2) with
    | cell ec =>
     obtain ⟨us,eu,ru⟩:=Wg R2 ec e1;exists a,us,·,rfl,eu,by rw [ru.length]; exact hz,?_;exact k _ _ I2 α2 _ _ (s1.trans s2) (p1.trans p2) (R2.putL ec (ru.app (.one ry))) .non h2
def Rp (ho:SimE C Z to uo) (ha:SimA C Z t u):SimE C Z (tBM C.k "list" Zds to t) (fun ρ M K=>uo ρ M fun d M1=>lsOf M1 d≠none/\u ρ M1 fun ds M2=>ext3 d ds M2 K):=fun I α σ H ρ M K Q R E h k =>
 ho I α σ H ρ M _ _ R E h fun v d I1 α1 H1 M1 s1 p1 R1 r1 h1=>by
  obtain ⟨hn,h1⟩:=h1;cases hl:lsOf M1 d with
  | none=>exact absurd hl hn
  | some zs =>
   obtain ⟨a,vs,rfl,ea,ra⟩:=Ry R1 r1 hl;exists Ri ea,ha I1 α1 σ H1 ρ M1 _ _ R1 (E.mono s1 p1) h1 fun ws ds I2 α2 H2 M2 s2 p2 R2 r2 h2=>?_;obtain ⟨j,e,xs,ys,rfl,rfl,e1,e2,hz,h2⟩:=h2;cases r2 with
   | cons ry rn =>
    cases rn;obtain ⟨b,bs,rfl,eb,rb⟩:=Ry R2 ry e2;cases (r1.mono s2 p2) with
    | cell ec =>
     obtain ⟨us,eu,ru⟩:=Wg R2 ec e1;exists a,b,us,bs,rfl,rfl,eu,eb,by rw [ru.length,rb.length]; exact hz,?_;exact k _ _ I2 α2 _ _ (s1.trans s2) (p1.trans p2) (R2.putL ec (ru.app rb)) .non h2
def Zjf (ho:SimE C Z to uo):SimE C Z (tBM0 C.k "list" Zhz to) (fun ρ M K=>uo ρ M fun d M1=>clr3 d [] M1 K):=fun I α σ H ρ M K Q R E h k =>
 ho I α σ H ρ M _ _ R E h fun v d I1 α1 H1 M1 s1 p1 R1 r1 h1=>by
  obtain ⟨j,xs,rfl,_,e1,h1⟩:=h1;cases r1 with
  | @cell a _ ec =>
   obtain ⟨us,eu,ru⟩:=Wg R1 ec e1;exists Ri eu,a,us,rfl,rfl,eu,k _ _ I1 α1 _ _ s1 p1 (R1.putL ec (.nil)) .non h1
def Zod (ho:SimE C Z to uo):SimE C Z (tBM0 C.k "list" rPop to) (fun ρ M K=>uo ρ M fun d M1=>pop3 d [] M1 K):=fun I α σ H ρ M K Q R E h k =>
 ho I α σ H ρ M _ _ R E h fun v d I1 α1 H1 M1 s1 p1 R1 r1 h1=>by
  obtain ⟨j,xs,y,rfl,_,e1,e2,h1⟩:=h1;cases r1 with
  | @cell a _ ec =>
   obtain ⟨us,eu,ru⟩:=Wg R1 ec e1;obtain ⟨w,ew,rw'⟩:=ru.get e2;exists Ri eu,a,us,w,rfl,rfl,eu,by rw [ru.length]; exact ew,k _ _ I1 α1 _ _ s1 p1 (R1.putL ec (ru.dropLast)) rw' h1
end
def Yp (n:Nat) (d:D):Prop:=∀ C I α v,Rep C I α v d->Rep C I (α.take n) v d
def X5 (n:Nat) (m:MO):Prop:=∀ C I α H a,MoAt C I α H a m->MoAt C I (α.take n) H a m
inductive BelowE (n:Nat):Ev->Ev->Prop where
 | nil:BelowE n [] []
 | skip {o:Option D} {r r':Ev}:BelowE n r r'->BelowE n (o::r) (none::r')
 | keep {d:D} {r r':Ev}:Yp n d->BelowE n r r'->BelowE n (some d::r) (some d::r')
inductive BelS (n:Nat):Ev->Ev->Ev->Prop where
 | nil:BelS n [] [] []
 | skip {o0 o:Option D} {r0 r r':Ev}:BelS n r0 r r'->BelS n (o0::r0) (o::r) (none::r')
 | same {d:D} {r0 r r':Ev}:BelS n r0 r r'->BelS n (some d::r0) (some d::r) (some d::r')
 | keep {o0:Option D} {d:D} {r0 r r':Ev}:Yp n d->BelS n r0 r r'->BelS n (o0::r0) (some d::r) (some d::r')
def Dr (ρ0:Ev) (M0:Mem) (P:Ev->Mem->Prop) (ρ:Ev) (M:Mem):Prop:=P ρ M\/(∃ ρ',(∃ X,M=M0++X)/\BelS M0.length ρ0 ρ ρ'/\P ρ' M0)\/∃ n ρ',M0.length<=n/\BelowE n ρ ρ'/\(∀ m∈M.take n,X5 n m)/\P ρ' (M.take n)
def Dk (n0:Nat) (K:K3):K3:=fun d M=>K d M\/∃ n,n0<=n/\Yp n d/\(∀ m∈M.take n,X5 n m)/\K d (M.take n)
section
theorem BelowE.rep {n:Nat} {ρ':Ev} (b:BelowE n ρ ρ'):∀ {σ:St},RepE C I α σ ρ->RepE C I (α.take n) σ ρ':=by
 induction b with
 | nil=>exact fun h=>⟨h.1,fun i d e=>by simp at e⟩
 | @skip o r r' b ih =>
  intro σ h;cases σ with
  | nil=>cases h.1
  | cons s σ =>
   have h':RepE C I α σ r:=⟨by simpa using h.1,fun i d e=>by
    obtain ⟨v,a,b⟩:=h.2 (i+1) d (by simpa using e);exact ⟨v,by simpa using a,b⟩⟩
   obtain ⟨l,g⟩:=ih h';exists by rw [Jq,Jq,l],fun i d e=>?_;cases i with
   | zero=>simp at e
   | succ i =>
    obtain ⟨v,a,b⟩:=g i d (by simpa using e);exists v,by simpa using a,b
 | @keep d0 r r' hb b ih =>
  intro σ h;cases σ with
  | nil=>cases h.1
  | cons s σ =>
   have h':RepE C I α σ r:=⟨by simpa using h.1,fun i d e=>by
    obtain ⟨v,a,b⟩:=h.2 (i+1) d (by simpa using e);exact ⟨v,by simpa using a,b⟩⟩
   obtain ⟨l,g⟩:=ih h';exists by rw [Jq,Jq,l],fun i d e=>?_;cases i with
   | zero =>
    obtain ⟨v,a,b⟩:=h.2 0 d e;simp at e;subst e;exists v,a,hb _ _ _ _ b
   | succ i =>
    obtain ⟨v,a,b⟩:=g i d (by simpa using e);exists v,by simpa using a,b
def Uu {α0:List Addr} (p:α0<+:α) {n:Nat} (h:α0.length<=n):α0<+:α.take n:=by
 obtain ⟨t,rfl⟩:=p;rw [List.take_append,G8 h];exact Gq _ _
def Rel.take (R:Rel C Z I α H M) (n:Nat) (hz:Z.a.length<=n) (hb:∀ m∈M.take n,X5 n m):Rel C Z I (α.take n) H (M.take n):=by
 refine ⟨R.ai,Uu R.aa hz,R.sub,by rw [Jz,Jz,R.len],R.nd.sublist (List.take_sublist _ _),fun k a m h1 h2=>?_⟩;have h1':α[k]?=some a:=by
  rw [List.getElem?_take] at h1
  split at h1
  ·exact h1
  ·cases h1
 have h2':M[k]?=some m:=by
  rw [List.getElem?_take] at h2
  split at h2
  ·exact h2
  ·cases h2
 obtain ⟨a1,a2⟩:=R.cel k a m h1' h2';exists hb m (Gb h2) _ _ _ _ _ a1,a2
theorem Fin.dk {K:K3} (k:Fin C Z I α K Q) (hn:α.length=n0) (ha:Z.a<+:α):Fin C Z I α (Dk n0 K) Q:=fun v d I' α' H' M' s p R r h=>by
 rcases h with h | ⟨n,hl,hb,hm,h⟩
 ·exact k v d I' α' H' M' s p R r h
 ·exact k v d I' (α'.take n) H' (M'.take n) s (Uu p (by lia)) (R.take n (by have:=ha.length_le; lia) hm) (hb _ _ _ _ r) h
end
def Vv {n:Nat} {i:Int}:Yp n (.int i):=fun _ _ _ _ r=>by cases r; exact .int _
def Qr {n:Nat} {i:Bool}:Yp n (.bl i):=fun _ _ _ _ r=>by cases r; exact .bl _
def Zfy {n:Nat} {i:Str}:Yp n (.str i):=fun _ _ _ _ r=>by cases r; exact .str _
def Nb {n:Nat}:Yp n .non:=fun _ _ _ _ r=>by cases r; exact .non
def Zcf {n:Nat} {S:List Pr}:Yp n (.code S):=fun _ _ _ _ r=>by cases r with | code h=>exact .code h
theorem Zcg {n k:Nat} (h:k<n):Yp n (.cell k):=fun _ _ α _ r=>by
 cases r with
 | cell e=>exact .cell (by rw [List.getElem?_take,Df h]; exact e)
theorem U7 {n:Nat} (h:∀ d∈ds,Yp n d) :∀ {vs:List V},Reps C I α vs ds->Reps C I (α.take n) vs ds:=by
 induction ds with
 | nil=>intro vs r; cases r; exact .nil
 | cons d ds ih =>
  intro vs r;cases r with
  | cons a b=>exact .cons (h d Jl _ _ _ _ a) (ih (fun x hx=>h x (Jj _ hx)) b)
def S1 {n:Nat} (h:∀ d∈ds,Yp n d):Yp n (.lst ds):=fun _ _ _ _ r=>by cases r with | lst e r=>exact .lst e (U7 h r)
def Zf0 {n:Nat} (h:∀ d∈ds,Yp n d):Yp n (.frz ds):=fun _ _ _ _ r=>by cases r with | frz e r=>exact .frz e (U7 h r)
def S0 {n:Nat} (h:∀ d∈ds,Yp n d):Yp n (.tup ds):=fun _ _ _ _ r=>by cases r with | tup e r=>exact .tup e (U7 h r)
def U4 {n:Nat} {f:τ->D} (h:∀ a,Yp n (f a)) (as:List τ):∀ d∈as.map f,Yp n d:=fun d hd=>by
 obtain ⟨a,_,rfl⟩:=Jp.mp hd;exact h a
def Zfz {n:Nat}:∀ d∈([]:List D),Yp n d:=fun _ h=>nomatch h
def Zce {n:Nat} {d:D} (h:Yp n d) (r:∀ d∈ds,Yp n d):∀ x∈d::ds,Yp n x:=fun x hx=>by
 rcases Ju.mp hx with z | z
 ·rw [z]; exact h
 ·exact r x z
def Zkk {n:Nat}:X5 n .hand:=fun _ _ _ _ _ h=>h
def Znc {n:Nat} {P:Addr} {p:Pos} {q:Str}:X5 n (.tab P p q):=fun _ _ _ _ _ h=>h
def Zim {n:Nat} (h:∀ d∈ds,Yp n d):X5 n (.lst ds):=fun _ _ _ _ _ x=>by
 obtain ⟨vs,e,r⟩:=x;exists vs,e,U7 h r
def WfM (M:Mem):Prop:=∀ m∈M,X5 M.length m
theorem U5 {n:Nat} {kvs:List (Key×D)} (h:∀ kv∈kvs,Yp n kv.2) :∀ {vs:List (Key×V)},RepK C I α vs kvs->RepK C I (α.take n) vs kvs:=by
 induction kvs with
 | nil=>intro vs r; cases r; exact .nil
 | cons d ds ih =>
  intro vs r;cases r with
  | cons a b=>exact .cons (h _ Jl _ _ _ _ a) (ih (fun x hx=>h x (Jj _ hx)) b)
theorem U6 {n:Nat} {kvs:List (List Key×D)} (h:∀ kv∈kvs,Yp n kv.2) :∀ {vs:List (List Key×V)},RepT C I α vs kvs->RepT C I (α.take n) vs kvs:=by
 induction kvs with
 | nil=>intro vs r; cases r; exact .nil
 | cons d ds ih =>
  intro vs r;cases r with
  | cons a b=>exact .cons (h _ Jl _ _ _ _ a) (ih (fun x hx=>h x (Jj _ hx)) b)
theorem Zf1 {n:Nat} {kvs:List (Str×D)} (h:∀ kv∈kvs,Yp n kv.2) :∀ {vs:List (Str×V)},RepF C I α vs kvs->RepF C I (α.take n) vs kvs:=by
 induction kvs with
 | nil=>intro vs r; cases r; exact .nil
 | cons d ds ih =>
  intro vs r;cases r with
  | cons a b=>exact .cons (h _ Jl _ _ _ _ a) (ih (fun x hx=>h x (Jj _ hx)) b)
mutual
theorem Rep.bel {C:Cf} {I:Hp} {α:List Addr}:∀ {v:V} {d:D},Rep C I α v d->Yp α.length d:=by
 intro _ _ h;cases h with
 | non=>exact Nb
 | bl b=>exact Qr
 | int i=>exact Vv
 | str x=>exact Zfy
 | ty n=>exact fun _ _ _ _ r=>by cases r; exact .ty _
 | «at» a=>exact fun _ _ _ _ r=>by cases r; exact .at _
 | tup e r=>exact S0 (Reps.bel r)
 | lst e r=>exact S1 (Reps.bel r)
 | frz e r=>exact Zf0 (Reps.bel r)
 | dct e r=>exact fun _ _ _ _ q=>by cases q with | dct e q=>exact .dct e (U5 (RepK.bel r) q)
 | dcT e r=>exact fun _ _ _ _ q=>by cases q with | dcT e q=>exact .dcT e (U6 (RepT.bel r) q)
 | code h=>exact Zcf
 | cell e=>exact Zcg (Jh.mp e).1
 | exc e f r=>exact fun _ _ _ _ q=>by cases q with | exc e f q=>exact .exc e f (Zf1 (RepF.bel r) q)
theorem Reps.bel {C:Cf} {I:Hp} {α:List Addr}:∀ {vs:List V} {ds:List D},Reps C I α vs ds->∀ d∈ds,Yp α.length d:=by
 intro _ _ h;cases h with
 | nil=>exact Zfz
 | cons h r=>exact Zce (Rep.bel h) (Reps.bel r)
theorem RepK.bel {C:Cf} {I:Hp} {α:List Addr}:∀ {vs:List (Key×V)} {ds:List (Key×D)},RepK C I α vs ds->∀ kv∈ds,Yp α.length kv.2:=by
 intro _ _ h;cases h with
 | nil=>exact fun _ h=>nomatch h
 | cons h r =>
  exact fun kv hk=>by
   rcases Ju.mp hk with z | z
   ·rw [z]; exact Rep.bel h
   ·exact RepK.bel r kv z
theorem RepF.bel {C:Cf} {I:Hp} {α:List Addr}:∀ {vs:List (Str×V)} {ds:List (Str×D)},RepF C I α vs ds->∀ kv∈ds,Yp α.length kv.2:=by
 intro _ _ h;cases h with
 | nil=>exact fun _ h=>nomatch h
 | cons h r =>
  exact fun kv hk=>by
   rcases Ju.mp hk with z | z
   ·rw [z]; exact Rep.bel h
   ·exact RepF.bel r kv z
theorem RepT.bel {C:Cf} {I:Hp} {α:List Addr}:∀ {vs:List (List Key×V)} {ds:List (List Key×D)},RepT C I α vs ds->∀ kv∈ds,Yp α.length kv.2:=by
 intro _ _ h;cases h with
 | nil=>exact fun _ h=>nomatch h
 | cons h r =>
  exact fun kv hk=>by
   rcases Ju.mp hk with z | z
   ·rw [z]; exact Rep.bel h
   ·exact RepT.bel r kv z
end
def Zni {n:Nat} {ds:List (Key×D)} (h:∀ d∈ds,Yp n d.2):X5 n (.dct ds):=fun _ _ _ _ _ x=>by
 obtain ⟨vs,e,r⟩:=x;exists vs,e,U5 h r
def Znj {n:Nat} {ds:List (List Key×D)} (h:∀ d∈ds,Yp n d.2):X5 n (.dcT ds):=fun _ _ _ _ _ x=>by
 obtain ⟨vs,e,r⟩:=x;exists vs,e,U6 h r
def Znf {n:Nat} {ds:List (Key×D)} (h:∀ d∈ds,Yp n d.2):X5 n (.drK ds):=fun _ _ _ _ _ x=>by
 obtain ⟨vs,e,r⟩:=x;exists vs,e,U5 h r
def Zne {n:Nat} {ds:List (List Key×D)} (h:∀ d∈ds,Yp n d.2):X5 n (.drT ds):=fun _ _ _ _ _ x=>by
 obtain ⟨vs,e,r⟩:=x;exists vs,e,U6 h r
def Zng {n:Nat} {vs:List (List Key×V)} {ds:List (List Key×D)} (h:∀ d∈ds,Yp n d.2):X5 n (.dfT o vs ds):=fun _ _ _ _ _ x=>⟨x.1,U6 h x.2⟩
def Znh {n:Nat} {vs:List (Key×V)} {ds:List (Key×D)} (h:∀ d∈ds,Yp n d.2):X5 n (.dfK o vs ds):=fun _ _ _ _ _ x=>⟨x.1,U5 h x.2⟩
theorem Znd {n:Nat} {Cl:Addr} {fs:List (Str×D)} (h:∀ d∈fs,Yp n d.2):X5 n (.ins Cl fs):=fun C I α H a x=>by
 obtain ⟨dx,vs,e,r⟩:=x;exists dx,vs,e,?_;clear e
 induction fs generalizing vs with
 | nil=>cases r; exact .nil
 | cons d ds ih =>
  cases r with
  | cons a b=>exact .cons ⟨a.1,h _ Jl _ _ _ _ a.2⟩ (ih (fun x hx=>h x (Jj _ hx)) _ b)
theorem MoAt.bel {a:Addr} {m:MO} (h:MoAt C I α H a m):X5 α.length m:=by
 cases m with
 | lst ds=>obtain ⟨vs,e,r⟩:=h; exact Zim r.bel
 | dct ds=>obtain ⟨vs,e,r⟩:=h; exact Zni r.bel
 | dcT ds=>obtain ⟨vs,e,r⟩:=h; exact Znj r.bel
 | drK ds=>obtain ⟨vs,e,r⟩:=h; exact Znf r.bel
 | drT ds=>obtain ⟨vs,e,r⟩:=h; exact Zne r.bel
 | dfT o vs ds=>exact Zng h.2.bel
 | dfK o vs ds=>exact Znh h.2.bel
 | ins Cl fs =>
  obtain ⟨dx,vs,e,r⟩:=h;refine Znd fun kv hk=>?_;clear e
  induction r with
  | nil=>cases hk
  | cons a b ih =>
   rcases Ju.mp hk with z | z
   ·rw [z]; exact a.2.bel
   ·exact ih z
 | hand=>exact Zkk
 | tab P pos q=>exact Znc
def Rel.wf (R:Rel C Z I α H M):WfM M:=fun m hm=>by
 obtain ⟨k,hk,rfl⟩:=Gd hm;have hk':k < α.length:=by rw [R.len]; exact hk
 have:=(R.cel k _ _ (Jb hk') (Jb hk)).1.bel;rwa [R.len] at this
theorem BelS.belowE {n:Nat} {ρ0 ρ':Ev} (b:BelS n ρ0 ρ ρ'):(∀ (i:Nat) (d:D),ρ0[i]?=some (some d)->Yp n d)->BelowE n ρ ρ':=by
 induction b with
 | nil=>exact fun _=>.nil
 | skip _ ih=>exact fun h=>.skip (ih fun i d e=>h (i+1) d (by simpa using e))
 | same _ ih=>exact fun h=>.keep (h 0 _ rfl) (ih fun i d e=>h (i+1) d (by simpa using e))
 | keep hb _ ih=>exact fun h=>.keep hb (ih fun i d e=>h (i+1) d (by simpa using e))
theorem Dr.out {I0:Hp} {α0:List Addr} {H0:Hp} {M0:Mem} {P:Ev->Mem->Prop} {σ0:St} {ρ0:Ev} (h:Dr ρ0 M0 P ρ M) (R0:Rel C Z I0 α0 H0 M0) (E0:RepE C I0 α0 σ0 ρ0) (p:α0<+:α) (R:Rel C Z I α H M) (E:RepE C I α σ ρ) :
  ∃ α' ρ' M',α0<+:α'/\Rel C Z I α' H M'/\RepE C I α' σ ρ'/\P ρ' M':=by
 rcases h with h | ⟨ρ',⟨X,rfl⟩,hb,h⟩ | ⟨n,ρ',hl,hb,hm,h⟩
 ·exists α,ρ,M,p,R,E,h
 ·have hb':=hb.belowE fun i d e=>by
   obtain ⟨v,_,r⟩:=E0.2 i d e;have:=r.bel;rwa [R0.len] at this
  have et:(M0++X).take M0.length=M0:=Fb ..;have R1:=R.take M0.length (by rw [<- R0.len]; exact R0.aa.length_le) (by rw [et]; exact R0.wf);rw [et] at R1;exists α.take M0.length,ρ',M0,Uu p (by rw [R0.len]; exact Jf _),R1,hb'.rep E,h
 ·exists α.take n,ρ',M.take n,Uu p (by rw [R0.len]; lia),R.take n (by have:=R0.aa.length_le; have:=R0.len; lia) hm,hb.rep E,h
section
variable {t t':TS} {u u':TS3} {ue:TE3} {tc:TT} {uc:TT3} {g:TG} {ug:TG3} {gs:TGs} {ugs:TGs3}
def uSeq (u u':TS3):TS3:=fun E ρ M=>u { E with nx:=u' E } ρ M
def Zv (h1:SimS C Z t u) (h2:SimS C Z t' u'):SimS C Z (tSeq t t') (uSeq u u'):=fun I α σ H ρ M E D' R RE h F =>
 h1 I α σ H ρ M { E with nx:=u' E } { D' with nx:=t' D' } R RE h ⟨fun I1 α1 σ1 H1 ρ1 M1 s p R1 RE1 h1=>h2 I1 α1 σ1 H1 ρ1 M1 E D' R1 RE1 h1 (F.mono s p),F.rt,F.bk,F.ct⟩
def Zny:TS3:=fun E ρ M=>E.nx ρ M
def Yf:SimS C Z Zla Zny:=fun I α σ H ρ M E D' R RE h F=>F.nx I α σ H ρ M (.refl _) (Jd _) R RE h
def Zn3 (ue:TE3):TS3:=fun E ρ M=>ue ρ M fun _ M1=>E.nx ρ M1
def Ts (he:SimE C Z te ue):SimS C Z (Zlb te) (Zn3 ue):=fun I α σ H ρ M E D' R RE h F =>
 he I α σ H ρ M _ _ R RE h fun v d I1 α1 H1 M1 s p R1 r h1=>F.nx I1 α1 σ H1 ρ M1 s p R1 (RE.mono s p) h1
def uRet (ue:TE3):TS3:=fun E ρ M=>ue ρ M E.rt
def Yk (he:SimE C Z te ue):SimS C Z (tRet te) (uRet ue):=fun I α σ H ρ M E D' R RE h F=>he I α σ H ρ M _ _ R RE h F.rt
def uIfS (c:TT3) (u u':TS3):TS3:=fun E ρ M=>c ρ M fun b M1=>if b=true then u E ρ M1 else u' E ρ M1
def Xi (hc:SimT C Z tc uc) (h1:SimS C Z t u) (h2:SimS C Z t' u'):SimS C Z (tIfS tc t t') (uIfS uc u u'):=fun I α σ H ρ M E D' R RE h F =>
 hc I α σ H ρ M _ _ R RE h fun b I1 α1 H1 M1 s p R1 h3=>by
  cases b with
  | true =>
   rw [Df rfl] at h3 ⊢;exact h1 I1 α1 σ H1 ρ M1 E D' R1 (RE.mono s p) h3 (F.mono s p)
  | false =>
   rw [De Jo] at h3 ⊢;exact h2 I1 α1 σ H1 ρ M1 E D' R1 (RE.mono s p) h3 (F.mono s p)
def uAsg (ue:TE3) (ug:TG3):TS3:=fun E ρ M=>ue ρ M fun d M1=>ug d ρ M1 E.nx
def Z9 (he:SimE C Z te ue) (hg:SimG C Z g ug):SimS C Z (tAsg te g) (uAsg ue ug):=fun I α σ H ρ M E D' R RE h F =>
 he I α σ H ρ M _ _ R RE h fun v d I1 α1 H1 M1 s p R1 r h1=>hg I1 α1 σ H1 ρ M1 v d _ _ R1 (RE.mono s p) r h1 (F.nx.mono s p)
def uG (i:Nat):TG3:=fun d ρ M K=>K (ρ.set i (some d)) M
def s_g (i:Nat):SimG C Z (N3 i) (uG i):=fun I α σ H ρ M v d K Q R RE r h k=>k I α _ H _ M (.refl _) (Jd _) R (RE.set r i) h
def Zn2:TGs3:=fun ds ρ M K=>ds=[]/\K ρ M
def Zkz (ug:TG3) (ugs:TGs3):TGs3:=fun ds ρ M K=>∃ d r,ds=d::r/\ug d ρ M fun ρ' M'=>ugs r ρ' M' K
def Vi:Zhj C Z gNil Zn2:=fun I α σ H ρ M vs ds K Q R RE r h k=>by
 obtain ⟨rfl,h⟩:=h;cases r;exists rfl,k I α σ H ρ M (.refl _) (Jd _) R RE h
theorem Yl (h1:SimG C Z g ug) (h2:Zhj C Z gs ugs):Zhj C Z (Zj5 g gs) (Zkz ug ugs):=fun I α σ H ρ M vs ds K Q R RE r h k=>by
 obtain ⟨d,r',rfl,h⟩:=h;cases r with
 | cons a b=>exact ⟨_,_,rfl,h1 I α σ H ρ M _ d _ _ R RE a h fun I1 α1 σ1 H1 ρ1 M1 s p R1 RE1 h3=>h2 I1 α1 σ1 H1 ρ1 M1 _ _ _ _ R1 RE1 (b.mono s p) h3 (k.mono s p)⟩
def Zn0 (n:Nat) (ugs:TGs3):TG3:=fun d ρ M K=>∃ ds,Ziw d=some ds/\ds.length=n/\ugs ds ρ M K
def Vh {n:Nat} (h:Zhj C Z gs ugs):SimG C Z (gTup C.k n gs) (Zn0 n ugs):=fun I α σ H ρ M v d K Q R RE r hh k=>by
 obtain ⟨ds,e,hl,hh⟩:=hh;obtain ⟨a,vs,rfl,ea,_,ra⟩:=Vd R r e;exists a,vs,rfl,SqT.of ea,by rw [ra.length]; exact hl,h I α σ H ρ M vs ds K Q R RE ra hh k
def Zn1 (uo ui:TE3):TG3:=fun d ρ M K=>uo ρ M fun o M1=>ui ρ M1 fun i M2=>∃ k xs z j,o=.cell k/\i=.int z/\M2[k]?=some (.lst xs)/\ixN xs.length z=some j/\K ρ (M2.set k (.lst (xs.set j d)))
def Zhv {to:TE} {uo ui:TE3} (ho:SimE C Z to uo) (hi:SimE C Z ti ui):SimG C Z (gSub to ti Zjj) (Zn1 uo ui):=fun I α σ H ρ M v d K Q R RE r hh k =>
 ho I α σ H ρ M _ _ R RE hh fun ov o I1 α1 H1 M1 s1 p1 R1 r1 h1=>hi I1 α1 σ H1 ρ M1 _ _ R1 (RE.mono s1 p1) h1 fun iv i I2 α2 H2 M2 s2 p2 R2 r2 h2=>by
  obtain ⟨kk,xs,z,j,rfl,rfl,e1,e2,h2⟩:=h2;cases r2;cases (r1.mono s2 p2) with
  | cell ec =>
   obtain ⟨us,eu,ru⟩:=Wg R2 ec e1;exists _,us,z,j,rfl,rfl,eu,by rw [ru.length]; exact e2,?_;exact k I2 α2 σ _ ρ _ (s1.trans s2) (p1.trans p2) (R2.putL ec (ru.set (r.mono (s1.trans s2) (p1.trans p2)) j)) (RE.mono (s1.trans s2) (p1.trans p2)) h2
def Zky (uc:TT3) (u:TS3):TS3:=fun E ρ M=>∃ P:Nat->Ev->Mem->Prop,(∃ m,P m ρ M)/\∀ m ρ1 M1,P m ρ1 M1->uc ρ1 M1 fun b M2=>if b=true then u { E with nx:=fun ρ' M'=>∃ m',m'<m/\Dr ρ M (P m') ρ' M',ct:=fun ρ' M'=>∃ m',m'<m/\Dr ρ M (P m') ρ' M',bk:=E.nx } ρ1 M2 else E.nx ρ1 M2
theorem Nn (hc:SimT C Z tc uc) (hb:SimS C Z t u):SimS C Z (Zhn tc t) (Zky uc u):=fun I α σ H ρ M E D' R RE h F=>by
 obtain ⟨P,⟨m0,h0⟩,hs⟩:=h;have hlen:=R.len;exists fun m σ1 H1=>∃ I1 α1 ρ1 M1,Same I I1/\α<+:α1/\Rel C Z I1 α1 H1 M1/\RepE C I1 α1 σ1 ρ1/\P m ρ1 M1,⟨m0,I,α,ρ,M,.refl _,Jd _,R,RE,h0⟩,?_;rintro m σ1 H1 ⟨I1,α1,ρ1,M1,s1,p1,R1,RE1,h1⟩;refine hc I1 α1 σ1 H1 ρ1 M1 _ _ R1 RE1 (hs m ρ1 M1 h1) fun b I2 α2 H2 M2 s2 p2 R2 h2=>?_;cases b with
 | false =>
  rw [De Jo] at h2 ⊢;exact F.nx I2 α2 σ1 H2 ρ1 M2 (s1.trans s2) (p1.trans p2) R2 (RE1.mono s2 p2) h2
 | true =>
  rw [Df rfl] at h2 ⊢;refine ⟨fun σ' H'=>∃ m',m'<m/\∃ I1 α1 ρ1 M1,Same I I1/\α<+:α1/\Rel C Z I1 α1 H' M1/\RepE C I1 α1 σ' ρ1/\P m' ρ1 M1,fun σ' H' h=>h,?_⟩;have nx:FinS C Z I2 α2 (fun ρ' M'=>∃ m',m'<m/\Dr ρ M (P m') ρ' M') (fun σ' H'=>∃ m',m'<m/\∃ I1 α1 ρ1 M1,Same I I1/\α<+:α1/\Rel C Z I1 α1 H' M1/\RepE C I1 α1 σ' ρ1/\P m' ρ1 M1):=fun I3 α3 σ3 H3 ρ3 M3 s3 p3 R3 RE3 h3=>by
   obtain ⟨m',hm,h3⟩:=h3;obtain ⟨α4,ρ4,M4,p4,R4,RE4,h4⟩:=h3.out R RE (p1.trans (p2.trans p3)) R3 RE3;exists m',hm,I3,α4,ρ4,M4,s1.trans (s2.trans s3),p4,R4,RE4,h4
  exact hb I2 α2 σ1 H2 ρ1 M2 _ _ R2 (RE1.mono s2 p2) h2 ⟨nx,F.rt.mono (s1.trans s2) (p1.trans p2),F.nx.mono (s1.trans s2) (p1.trans p2),nx⟩
structure It3 where
 n:Nat
 item:Nat->D->Prop
 ok:Mem->Prop
abbrev TI3:=Ev->Mem->(It3->Mem->Prop)->Prop
def ItR (C:Cf) (Z:Anc) (I:Hp) (α:List Addr) (J:It) (j:It3):Prop:=∀ I' α' H' M',Same I I'->α<+:α'->Rel C Z I' α' H' M'->j.ok M' ->
 (∀ i,i<j.n->J.go i H'/\∀ x H2,J.yld i H' x H2->∃ I2 d,Same I' I2/\Rel C Z I2 α' H2 M'/\Rep C I2 α' x d/\j.item i d)/\J.stop j.n H'
def SimI (C:Cf) (Z:Anc) (w:TI) (u:TI3):Prop:=∀ I α σ H ρ M (K:It3->Mem->Prop) (R':It->Hp->Prop),Rel C Z I α H M->RepE C I α σ ρ->u ρ M K ->
 (∀ J j I' α' H' M',Same I I'->α<+:α'->Rel C Z I' α' H' M'->ItR C Z I' α' J j->K j M'->R' J H')->w σ H R'
def uIL (ue:TE3):TI3:=fun ρ M K=>ue ρ M fun d M1=>∃ ds,Z3 M1 d=some ds/\K ⟨ds.length,fun i x=>ds[i]?=some x,fun M=>Z3 M d=some ds⟩ M1
def s_il (he:SimE C Z te ue):SimI C Z (Zmw C.k te) (uIL ue):=fun I α σ H ρ M K R' R RE h k =>
 he I α σ H ρ M _ _ R RE h fun v d I1 α1 H1 M1 s1 p1 R1 r1 h1=>by
  obtain ⟨ds,e,h1⟩:=h1;obtain ⟨a,vs,rfl,ea,ra⟩:=Y3 R1 r1 e;exists a,rfl,⟨vs,ea⟩,k _ _ I1 α1 H1 M1 s1 p1 R1 (fun I2 α2 H2 M2 s2 p2 R2 ok=>?_) h1;obtain ⟨b,ws,eb,eq,rw'⟩:=Y3 R2 (r1.mono s2 p2) ok;cases eb;exists fun i hi=>?_,⟨ws,eq,by rw [rw'.length]; exact Jf _⟩;have hi2:i<ws.length:=by rw [rw'.length]; exact hi
  exists ⟨ws,ws[i],eq,Jb hi2⟩,fun x H3 y=>?_;obtain ⟨rfl,y⟩:=y;have:=y ws eq;rw [Jb hi2] at this;cases this;exists I2,ds[i],.refl _,R2,rw'.at hi2 hi,Jb hi
def uIT (ue:TE3):TI3:=fun ρ M K=>ue ρ M fun d M1=>∃ ds,Ziw d=some ds/\K ⟨ds.length,fun i x=>ds[i]?=some x,fun _=>True⟩ M1
def s_it (he:SimE C Z te ue):SimI C Z (iTup C.k te) (uIT ue):=fun I α σ H ρ M K R' R RE h k =>
 he I α σ H ρ M _ _ R RE h fun v d I1 α1 H1 M1 s1 p1 R1 r1 h1=>by
  obtain ⟨ds,e,h1⟩:=h1;obtain ⟨a,vs,rfl,ea,ia,ra⟩:=Vd R1 r1 e;exists a,rfl,⟨vs,SqT.of ea⟩,k _ _ I1 α1 H1 M1 s1 p1 R1 (fun I2 α2 H2 M2 s2 p2 R2 ok=>?_) h1;have eq:SqT C.k H2 a vs:=SqT.of (R2.sub _ _ (s2 _ _ ia));have rw':=ra.mono s2 p2;exists fun i hi=>?_,⟨vs,eq,by rw [rw'.length]; exact Jf _⟩;have hi2:i<vs.length:=by rw [rw'.length]; exact hi
  exists ⟨vs,vs[i],eq,Jb hi2⟩,fun x H3 y=>?_;obtain ⟨rfl,y⟩:=y;have:=y vs eq;rw [Jb hi2] at this;cases this;exists I2,ds[i],.refl _,R2,rw'.at hi2 hi,Jb hi
def Zge (lo:Int) (n:Nat):It3:=⟨n,fun i x=>x=.int (lo+i),fun _=>True⟩
def Zow {n:Nat}:ItR C Z I α (Itr lo n) (Zge lo n):=fun I' α' H' M' s p R _=>⟨fun i hi=>⟨hi,fun x H2 y=>by
 obtain ⟨rfl,rfl⟩:=y;exact ⟨I',_,.refl _,R,.int _,rfl⟩⟩,Jf _⟩
variable {ta:TA} {ua:TA3}
def uIR1 (ua:TA3):TI3:=fun ρ M K=>ua ρ M fun ds M1=>∃ j:Int,ds=[.int j]/\(-(2 ^ 62)<=j/\j<2 ^ 62)/\K (Zge 0 j.toNat) M1
def Se (ha:SimA C Z ta ua):SimI C Z (Zmv ta) (uIR1 ua):=fun I α σ H ρ M K R' R RE h k =>
 ha I α σ H ρ M _ _ R RE h fun vs ds I1 α1 H1 M1 s1 p1 R1 r1 h1=>by
  obtain ⟨j,rfl,⟨h2,h3⟩,h1⟩:=h1;cases r1 with
  | cons a b =>
   cases b;cases a;exists j,rfl,h2,h3,k _ _ I1 α1 H1 M1 s1 p1 R1 Zow h1
def uIE (ua:TA3):TI3:=fun ρ M K=>ua ρ M fun ds M1=>∃ d xs,ds=[d]/\Z3 M1 d=some xs/\K ⟨xs.length,fun i x=>∃ y,xs[i]?=some y/\x=.tup [.int i,y],fun M=>Z3 M d=some xs⟩ M1
def s_ie (ha:SimA C Z ta ua):SimI C Z (Zmx C.k ta) (uIE ua):=fun I α σ H ρ M K R' R RE h k =>
 ha I α σ H ρ M _ _ R RE h fun vs ds I1 α1 H1 M1 s1 p1 R1 r1 h1=>by
  obtain ⟨d,xs,rfl,e,h1⟩:=h1;cases r1 with
  | cons r1 b =>
   cases b;obtain ⟨a,vs,rfl,ea,ra⟩:=Y3 R1 r1 e;exists a,rfl,⟨vs,ea⟩,k _ _ I1 α1 H1 M1 s1 p1 R1 (fun I2 α2 H2 M2 s2 p2 R2 ok=>?_) h1;obtain ⟨b,ws,eb,eq,rw'⟩:=Y3 R2 (r1.mono s2 p2) ok;cases eb;exists fun i hi=>?_,⟨ws,eq,by rw [rw'.length]; exact Jf _⟩;have hi2:i<ws.length:=by rw [rw'.length]; exact hi
   exists ⟨ws,ws[i],eq,Jb hi2⟩,fun x H3 y=>?_;obtain ⟨t,y,rfl,ht,rfl,q⟩:=y;have q2:=q _ eq;rw [Jb hi2] at q2;cases q2;obtain ⟨R3,s3,e3⟩:=R2.new (o:=.tup [.int (i:Nat),ws[i]]) ht;exists _,.tup [.int (i:Nat),xs[i]],s3,R3,.tup e3 (.cons (.int _) (.one ((rw'.at hi2 hi).mono s3 (Jd _)))),_,Jb hi,rfl
def uFor (ui:TI3) (ug:TG3) (ub:TS3):TS3:=fun E ρ M=>ui ρ M fun j M1=>∃ P:Nat->Ev->Mem->Prop,(∀ i ρ M,i<=j.n->P i ρ M->j.ok M)/\P 0 ρ M1 /\
 (∀ i x ρ1 M',i<j.n->j.item i x->P i ρ1 M'->ug x ρ1 M' fun ρ2 M2=>ub { E with nx:=Dr ρ M1 (P (i+1)),ct:=Dr ρ M1 (P (i+1)),bk:=E.nx } ρ2 M2)/\∀ ρ M,P j.n ρ M->E.nx ρ M
theorem W4 {ui:TI3} (hi:SimI C Z wi ui) (hg:SimG C Z g ug) (hb:SimS C Z t u):SimS C Z (tFor wi g t) (uFor ui ug u):=fun I α σ H ρ M E D' R RE h F =>
 hi I α σ H ρ M _ _ R RE h fun J j I1 α1 H1 M1 s1 p1 R1 IR h1=>by
  obtain ⟨P,hok,h0,hs,he⟩:=h1;have hlen:=R1.len;exists fun i m σ' H'=>m=j.n-i/\i<=j.n/\∃ I2 α2 ρ2 M2,Same I1 I2/\α1<+:α2/\Rel C Z I2 α2 H' M2/\RepE C I2 α2 σ' ρ2/\P i ρ2 M2,⟨j.n,rfl,Jv _,I1,α1,ρ,M1,.refl _,Jd _,R1,RE.mono s1 p1,h0⟩,?_;rintro i m σ' H' ⟨rfl,hi,I2,α2,ρ2,M2,s2,p2,R2,RE2,h2⟩;obtain ⟨go,stop⟩:=IR I2 α2 H' M2 s2 p2 R2 (hok i ρ2 M2 hi h2)
  by_cases hlt:i<j.n
  ·obtain ⟨g1,g2⟩:=go i hlt;refine .inr ⟨g1,fun σ3 H3=>∃ I3 α3 ρ3 M3,Same I1 I3/\α1<+:α3/\Rel C Z I3 α3 H3 M3/\RepE C I3 α3 σ3 ρ3/\P (i+1) ρ3 M3,fun σ3 H3 h3=>⟨j.n-(i+1),by lia,rfl,hlt,h3⟩,fun x H3 y=>?_⟩;obtain ⟨I3,d,s3,R3,r3,it⟩:=g2 x H3 y;refine hg I3 α2 σ' H3 ρ2 M2 x d _ _ R3 (RE2.mono s3 (Jd _)) r3 (hs i d ρ2 M2 hlt it h2) fun I4 α4 σ4 H4 ρ4 M4 s4 p4 R4 RE4 h4=>?_;have nx:FinS C Z I4 α4 (Dr ρ M1 (P (i+1))) (fun σ3 H3=>∃ I3 α3 ρ3 M3,Same I1 I3/\α1<+:α3/\Rel C Z I3 α3 H3 M3/\RepE C I3 α3 σ3 ρ3/\P (i+1) ρ3 M3):=fun I5 α5 σ5 H5 ρ5 M5 s5 p5 R5 RE5 h5=>by
    obtain ⟨α6,ρ6,M6,p6,R6,RE6,h6⟩:=h5.out R1 (RE.mono s1 p1) (p2.trans (p4.trans p5)) R5 RE5;exists I5,α6,ρ6,M6,s2.trans (s3.trans (s4.trans s5)),p6,R6,RE6,h6
   have F4:=F.mono (s1.trans (s2.trans (s3.trans s4))) (p1.trans (p2.trans p4));exact hb I4 α4 σ4 H4 ρ4 M4 _ _ R4 RE4 h4 ⟨nx,F4.rt,F4.nx,nx⟩
  ·have e:i=j.n:=by lia
   subst e;exact .inl ⟨stop,F.nx I2 α2 σ' H' ρ2 M2 (s1.trans s2) (p1.trans p2) R2 RE2 (he ρ2 M2 h2)⟩
def sg3 (ρ:Ev) (T:List Str) (cs:List Nat):Ev:=T.map (fun _=>none)++cs.map fun i=>ρ.getD i none
def RepE.sg (h:RepE C I α σ ρ) (T:List Str) (cs:List Nat):RepE C I α (sgOf σ T cs) (sg3 ρ T cs):=by
 exists by unfold sgOf sg3; simp,fun i d e=>?_;unfold sg3 at e;unfold sgOf
 by_cases hi:i<T.length
 ·rw [Jx (by simpa using hi),Js,Jb hi] at e;simp at e
 ·rw [Gu (by simpa using hi),Js] at e;rw [Gu (by simpa using hi),Js];simp only [Ja] at e ⊢;cases hc:cs[i-T.length]? with
  | none=>rw [hc] at e; cases e
  | some c =>
   rw [hc] at e;simp only [Option.map_some,Option.some.injEq] at e ⊢;rw [J8] at e ⊢;cases hr:ρ[c]? with
   | none=>rw [hr] at e; cases e
   | some o =>
    rw [hr] at e;cases e;obtain ⟨v,e2,r⟩:=h.2 c d hr;exists v,by rw [e2]; rfl,r
variable {tt:TT} {ut:TT3} 
def cmp3 (ui:TI3) (ug:TG3) (ut:TT3) (ue:TE3) (T:List Str) (cs:List Nat) (ρ:Ev) (M:Mem) (F:List D->Mem->Prop):Prop:=ui ρ M fun j M1=>j.n<=sizeLine/\∃ P:Nat->List D->Mem->Prop,(∀ i ys M,i<=j.n->P i ys M->j.ok M)/\P 0 [] M1 /\
 (∀ i x ys M,i<j.n->j.item i x->P i ys M->ug x (sg3 ρ T cs) M fun ρ2 M2=>ut ρ2 M2 fun b M3=>if b=true then ue ρ2 M3 fun y M4=>P (i+1) (ys++[y]) M4 else P (i+1) ys M3)/\∀ ys M,P j.n ys M->F ys M
def Zn6 (ui:TI3) (ug:TG3) (ut:TT3) (ue:TE3) (T:List Str) (cs:List Nat):TE3:=fun ρ M K=>cmp3 ui ug ut ue T cs ρ M fun ys M1=>K (.lst ys) M1
def Zk1 (ui:TI3) (ug:TG3) (ut:TT3) (ue:TE3) (T:List Str) (cs:List Nat):TE3:=fun ρ M K=>cmp3 ui ug ut ue T cs ρ M fun ys M1=>K (.cell M1.length) (M1++[.lst ys])
theorem Zbm {ui:TI3} (hi:SimI C Z wi ui) (hg:SimG C Z g ug) (ht:SimT C Z tt ut) (he:SimE C Z te ue) {F:List D->Mem->Prop} (R:Rel C Z I α H M) (RE:RepE C I α σ ρ) (h:cmp3 ui ug ut ue T cs ρ M F)
  (k:∀ ys vs I' α' H' M',Same I I'->α<+:α'->Rel C Z I' α' H' M'->Reps C I' α' vs ys->F ys M'->∀ p,H' p=none->Q (.ref p) (upd H' p (.lst vs))):Zcw wi g tt te T cs σ H Q :=
 hi I α σ H ρ M _ _ R RE h fun J j I1 α1 H1 M1 s1 p1 R1 IR h1=>by
  obtain ⟨hz,P,hok,h0,hs,hd⟩:=h1;exists fun i m vs H'=>m=j.n-i/\i<=j.n/\∃ I2 α2 ys M2,Same I1 I2/\α1<+:α2/\Rel C Z I2 α2 H' M2/\Reps C I2 α2 vs ys/\ys.length<=i/\P i ys M2,⟨j.n,rfl,Jv _,I1,α1,[],M1,.refl _,Jd _,R1,.nil,Jf _,h0⟩,?_;rintro i m vs H' ⟨rfl,hi,I2,α2,ys,M2,s2,p2,R2,r2,hl,h2⟩;obtain ⟨go,stop⟩:=IR I2 α2 H' M2 s2 p2 R2 (hok i ys M2 hi h2);have hvl:=r2.length
  by_cases hlt:i<j.n
  ·obtain ⟨g1,g2⟩:=go i hlt;refine .inr ⟨g1,by lia,fun vs3 H3=>∃ I3 α3 ys3 M3,Same I1 I3/\α1<+:α3/\Rel C Z I3 α3 H3 M3/\Reps C I3 α3 vs3 ys3/\ys3.length<=i+1/\P (i+1) ys3 M3,fun vs3 H3 h3=>⟨j.n-(i+1),by lia,rfl,hlt,h3⟩,fun x H3 y=>?_⟩;obtain ⟨I3,d,s3,R3,r3,it⟩:=g2 x H3 y;have RE3:RepE C I3 α2 σ ρ:=RE.mono (s1.trans (s2.trans s3)) (p1.trans p2);refine hg I3 α2 _ H3 _ M2 x d _ _ R3 (RE3.sg T cs) r3 (hs i d ys M2 hlt it h2) fun I4 α4 σ4 H4 ρ4 M4 s4 p4 R4 RE4 h4=>?_;refine ht I4 α4 σ4 H4 ρ4 M4 _ _ R4 RE4 h4 fun b I5 α5 H5 M5 s5 p5 R5 h5=>?_;cases b with
   | true =>
    rw [Df rfl] at h5 ⊢;refine he I5 α5 σ4 H5 ρ4 M5 _ _ R5 (RE4.mono s5 p5) h5 fun v e I6 α6 H6 M6 s6 p6 R6 r6 h6=>?_;exists I6,α6,ys++[e],M6,s2.trans (s3.trans (s4.trans (s5.trans s6))),p2.trans (p4.trans (p5.trans p6)),R6,(r2.mono (s3.trans (s4.trans (s5.trans s6))) (p4.trans (p5.trans p6))).app (.one r6),?_,h6;rw [Jc,Go];lia
   | false =>
    rw [De Jo] at h5 ⊢;exists I5,α5,ys,M5,s2.trans (s3.trans (s4.trans s5)),p2.trans (p4.trans p5),R5,r2.mono (s3.trans (s4.trans s5)) (p4.trans p5),by lia,h5
  ·have e:i=j.n:=by lia
   subst e;exact .inl ⟨stop,by lia,k ys vs I2 α2 H' M2 (s1.trans s2) (p1.trans p2) R2 r2 (hd ys M2 h2)⟩
def X0 {ui:TI3} (hi:SimI C Z wi ui) (hg:SimG C Z g ug) (ht:SimT C Z tt ut) (he:SimE C Z te ue):SimE C Z (Zcw wi g tt te T cs) (Zn6 ui ug ut ue T cs):=fun I α σ H ρ M K Q R RE h k =>
 Zbm hi hg ht he R RE h fun ys vs I' α' H' M' s p R' r hF q hq=>by
  obtain ⟨R2,s2,e2⟩:=R'.new (o:=.lst vs) hq;exact k _ _ _ α' _ M' (s.trans s2) p R2 (.lst e2 (r.mono s2 (Jd _))) hF
def Zje {ui:TI3} (hi:SimI C Z wi ui) (hg:SimG C Z g ug) (ht:SimT C Z tt ut) (he:SimE C Z te ue):SimE C Z (Zcw wi g tt te T cs) (Zk1 ui ug ut ue T cs):=fun I α σ H ρ M K Q R RE h k =>
 Zbm hi hg ht he R RE h fun ys vs I' α' H' M' s p R' r hF q hq=>by
  obtain ⟨R2,p2,e2⟩:=R'.cell (o:=.lst vs) (m:=.lst ys) hq fun H' e=>⟨vs,e,r⟩;exact k _ _ I' _ _ _ s (p.trans p2) R2 (.cell e2) hF
def Znt:TT3:=fun _ M K=>K true M
def Wy:SimT C Z Zk4 Znt:=fun I α σ H ρ M K Q R E h k=>k true I α H M (.refl _) (Jd _) R h
abbrev Sp3:=List D->Mem->K3->Prop
def spOf (C:Cf) (sp:Sp3):Sp:=fun vs H Q _=>∃ Z I α M ds K,Rel C Z I α H M/\Reps C I α vs ds/\sp ds M K/\Fin C Z I α K Q
def Zn7 (sp:Sp3) (ua:TA3):TE3:=fun ρ M K=>ua ρ M fun ds M1=>sp ds M1 K
def Zu {sp:Sp3} {E0':XK} (ha:SimA C Z ta ua):SimE C Z (Zi0 (spOf C sp) [] E0' ta) (Zn7 sp ua):=fun I α σ H ρ M K Q R RE h k =>
 ha I α σ H ρ M _ _ R RE h fun vs ds I1 α1 H1 M1 s1 p1 R1 r1 h1=>by
  rw [Ga];exists Z,I1,α1,M1,ds,K,R1,r1,h1,k.mono s1 p1
def Cal.imp {x:Str} {k:Nat} {sp':Sp} (c:Cal P w K mg base x k ps sp) (h:∀ vs H Q E,sp' vs H Q E->sp vs H Q E):Cal P w K mg base x k ps sp' :=
 let ⟨f,fd,a,b⟩:=c
 ⟨f,fd,a.imp h,b⟩
def Zan (N:List Str) (ds:List D):Ev:=ds.map some++List.replicate (N.length-ds.length) none
def Zdj (r:Reps C I α vs ds) (N:List Str):RepE C I α (L2.start N vs) (Zan N ds):=by
 have hl:=r.length;exists by unfold L2.start Zan; simp [hl],fun i d e=>?_;unfold Zan at e;unfold L2.start
 by_cases hi:i<ds.length
 ·rw [Jx (by simpa using hi),Js,Jb hi] at e;have e':ds[i]=d:=by simpa using e
  rw [Jx (by simpa [hl] using hi),Js,Jb (by rw [hl]; exact hi)];exists ·,e' ▸ r.at (by rw [hl]; exact hi) hi
 ·rw [Gu (by simpa using hi),List.getElem?_replicate] at e
  split at e <;> cases e
def Fun.ok3 {x:Str} {f:Addr} {k:Nat} {sp:Sp3} (F:Fun K x qual st f fd) (S:FnScope N ps (Zk st)) (len:∀ ds M K,sp ds M K->ds.length=ps.length)
  (hbody:∀ (cdv:Value) (A:Around) (outer:List Env) (s:Shared) (H:Hp) (E:XK),Room k (A.deeper (PyProof.Rows.envOfC qual (Zk st) s.heap.objs.size f cdv)) ->
   ∃ t u,PSs (cxOf CX0 P w K mg base N qual (Zk st) f cdv A outer s H E).nox (Z1 st) t/\(∀ Z,SimS C Z t u)/\∀ ds M K,WfM M->(∀ d∈ds,Yp M.length d)->sp ds M K->u { nx:=fun _ M'=>Dk M.length K .non M',rt:=Dk M.length K } (Zan N ds) M):FnOk P w K mg base CX0 (k+1) f fd ps (spOf C sp):=by
 refine F.ok S (fun vs H Q E h=>?_) (fun cdv A outer s H vs Q E hr h=>?_)
 ·obtain ⟨Z,I,α,M,ds,K,R,r,h,_⟩:=h;rw [r.length];exact len ds M K h
 ·obtain ⟨t,u,h1,h2,h3⟩:=hbody cdv A outer s H E hr;obtain ⟨Z,I,α,M,ds,K,R,r,h,k⟩:=h;have kd:=k.dk R.len R.aa;exists t,h1,h2 Z I α _ H _ M _ _ R (Zdj r N) (h3 ds M K R.wf (by rw [<- R.len]; exact r.bel) h) ⟨fun I1 α1 σ1 H1 ρ1 M1 s1 p1 R1 _ h1=>kd _ _ I1 α1 H1 M1 s1 p1 R1 .non h1,kd,fun _ _ _ _ _ _ _ _ _ _ h=>h.elim,fun _ _ _ _ _ _ _ _ _ _ h=>h.elim⟩
end
section
def Rel.full (R:Rel C Z I α H M):∃ I',Same I I'/\Rel C Z I' α H M/\∀ b o,H b=some o->b∉α->I' b=some o:=by
 have s:Same I (fun b=>if b∈α then none else H b):=fun b o e=>by
  have hb:b∉α:=fun hb=>by
   obtain ⟨k,hk,rfl⟩:=Gd hb;have hk':k<M.length:=by rw [<- R.len]; exact hk
   rw [(R.cel k _ _ (Jb hk) (Jb hk')).2] at e;cases e
  show (if b∈α then none else H b)=some o;rw [De hb];exact R.sub b o e
 exists _,s,⟨R.ai.trans s,R.aa,fun b o e=>?_,R.len,R.nd,fun k a m h1 h2=>?_⟩,fun b o e hb=>?_
 ·have e':(if b∈α then none else H b)=some o:=e
  split at e'
  ·cases e'
  ·exact e'
 ·exists (R.cel k a m h1 h2).1.mono s (Jd _) rfl,?_;show (if a∈α then none else H a)=none;rw [Df (Gb h1)]
 ·show (if b∈α then none else H b)=some o;rw [De hb];exact e
def Rel.out (R:Rel C Z I α H M) (h:H l=none):l∉α:=fun hl=>by
 obtain ⟨k,hk,e⟩:=Gd hl;exact R.cellNe (Jb hk) h e
theorem Rel.tupOut (R:Rel C Z I α H M) (h:H l=some (.tup vs)):l∉α:=fun hl=>by
 obtain ⟨k,hk,rfl⟩:=Gd hl;have hk':k<M.length:=by rw [<- R.len]; exact hk
 have:=(R.cel k _ _ (Jb hk) (Jb hk')).1;cases hm:M[k] with
 | lst ds=>rw [hm] at this; obtain ⟨vs,e,_⟩:=this; rw [h] at e; cases e
 | dct ds=>rw [hm] at this; obtain ⟨vs,e,_⟩:=this; rw [h] at e; cases e
 | dcT ds=>rw [hm] at this; obtain ⟨vs,e,_⟩:=this; rw [h] at e; cases e
 | drK ds=>rw [hm] at this; obtain ⟨vs,e,_⟩:=this; rcases e with e | ⟨o,e⟩ <;> (rw [h] at e; cases e)
 | drT ds=>rw [hm] at this; obtain ⟨vs,e,_⟩:=this; rcases e with e | ⟨o,e⟩ <;> (rw [h] at e; cases e)
 | dfT o vs ds=>rw [hm] at this; have e:=this.1; rw [h] at e; cases e
 | dfK o vs ds=>rw [hm] at this; have e:=this.1; rw [h] at e; cases e
 | ins Cl fs=>rw [hm] at this; obtain ⟨dx,vs,e,_⟩:=this; rw [h] at e; cases e
 | hand=>rw [hm] at this; obtain ⟨d,k,c,cs,e,_⟩:=this; rw [h] at e; cases e
 | tab P pos q=>rw [hm] at this; obtain ⟨_,ps,e,_⟩:=this; rw [h] at e; cases e
def Rel.same (R:Rel C Z I α H M) (s:Same H H'):Rel C Z I α H' M:=by
 exists R.ai,R.aa,R.sub.trans s,R.len,R.nd,fun k a m h1 h2=>?_;obtain ⟨a1,a2⟩:=R.cel k a m h1 h2;obtain ⟨o,e⟩:=a1.some;exists a1.mono (.refl _) (Jd _) ((s _ _ e).trans e.symm),a2
def Rel.grow (R:Rel C Z I α H M) {k:Nat} {p c:Addr} {cs:List Int} (ha:α[k]?=some p) (hm:M[k]?=some .hand) (hh:HandAt H' p c) (ic:I c=some (.lst (cs.map V.int))) (hc:cs≠[]/\cs.length<=63/\∀ c∈cs,0<=c) (g:Grow p H H'):Rel C Z I α H' M:=by
 have ip:I p=none:=(R.cel k p _ ha hm).2;exists R.ai,R.aa,fun b o e=>g b o (R.sub b o e) (fun z=>by rw [z,ip] at e; cases e),R.len,R.nd,fun j a m h1 h2=>?_;obtain ⟨a1,a2⟩:=R.cel j a m h1 h2
 by_cases e:k=j
 ·subst e;rw [ha] at h1;cases h1;rw [hm] at h2;cases h2;obtain ⟨d0,i0,cs',x1,x2,x3,x4,x5,x6,x7⟩:=hh.ex;exists ⟨d0,i0,c,cs,x1,ic,hc.1,hc.2.1,x5,x6,hc.2.2⟩,ip
 ·obtain ⟨o,eo⟩:=a1.some;have ne:a≠p:=fun z=>by
   obtain ⟨hj,ej⟩:=Jh.mp h1;obtain ⟨hk,ek⟩:=Jh.mp ha;rw [<- ej,<- ek] at z;exact e ((Bh R.nd).mp z).symm
  exists a1.mono (.refl _) (Jd _) ((g _ _ eo ne).trans eo.symm),a2
def Rel.hand (R:Rel C Z I α H M) {k:Nat} {p:Addr} (ha:α[k]?=some p) (hm:M[k]?=some .hand):∃ c cs,HandAt H p c/\I c=some (.lst (cs.map V.int))/\cs≠[]/\cs.length<=63/\∀ c∈cs,0<=c:=by
 obtain ⟨d,i,c,cs,e,ic,h1,h2,h3,h4,h5⟩:=(R.cel k p _ ha hm).1;exists c,cs,⟨d,i,cs,e,R.sub _ _ ic,h1,h2,h3,h4,h5⟩,ic,h1,h2,h5
theorem Rel.cellAt (R:Rel C Z I α H M) {m:MO} (il:I l=none) (hl:l∉α) (hm:MoAt C I α H l m):Rel C Z I (α++[l]) H (M++[m])/\α<+:(α++[l])/\(α++[l])[M.length]?=some l:=by
 refine ⟨⟨R.ai,R.aa.trans (Gq _ _),R.sub,by rw [Jc,Jc,R.len]; rfl,?_,fun k a x h1 h2=>?_⟩,Gq _ _,by rw [<- R.len]; simp⟩
 ·rw [Ba];exists R.nd,by simp,fun a ha b hb e=>hl (by rw [<- Je.mp hb,<- e]; exact ha)
 ·by_cases hk:k < α.length
  ·rw [Jx hk] at h1;rw [Jx (by rw [<- R.len]; exact hk)] at h2;obtain ⟨a1,a2⟩:=R.cel k a x h1 h2;exists a1.mono (.refl _) (Gq _ _) rfl,a2
  ·obtain ⟨hk2,_⟩:=Jh.mp h1;rw [Jc,Go] at hk2;have e:k=α.length:=by lia
   subst e;have e1:(α++[l])[α.length]?=some l:=by simp
   have e2:(M++[m])[α.length]?=some m:=by rw [R.len]; simp
   rw [e1] at h1;rw [e2] at h2;cases h1;cases h2;exists hm.mono (.refl _) (Gq _ _) rfl,il
end
variable {ui:L3.TI3}
def wD (w:List Int):D:=.tup (w.map .int)
def pD (p:Pr):D:=.tup [.int p.1,wD p.2]
section
def Zoi (s:∀ b xs,H b=some (.tup xs)->I b=some (.tup xs)) {w:List Int} (h:Zf5 H v w):Rep C I α v (wD w):=by
 obtain ⟨t,rfl,e⟩:=h;exact .tup (s _ _ e) (.ints w)
theorem Za3 {F:V->τ->Prop} {f:τ->D} (h:∀ v a,F v a->Rep C I α v (f a)):∀ {vs:List V} {as:List τ},Paired F vs as->Reps C I α vs (as.map f):=by
 intro _ _ hz9;cases hz9 with
 | nil=>
  exact .nil
 | cons a b=>
  exact .cons (h _ _ a) (Za3 h b)
end
section
def Zb6:Sp3:=fun ds M K=>∃ k n,ds=[.cell k,.int n]/\M[k]?=some .hand/\(0<n/\n<1073741824)/\∀ r,0<=r->r<n->K (.int r) M
theorem Zns {E:XK} (h:spOf C Zb6 vs H Q E):Q0 vs H Q E:=by
 obtain ⟨Z,I,α,M,ds,K,R,r,⟨k,n,rfl,hm,⟨n0,n1⟩,h⟩,kk⟩:=h;cases r with
 | cons r1 r2 =>
  cases r2 with
  | cons r2 r3 =>
   cases r3;cases r2;cases r1 with
   | @cell p _ ha =>
    obtain ⟨c,cs,hh,ic,hc⟩:=R.hand ha hm;exists p,c,n,rfl,hh,n0,n1,fun z H' z0 z1 hh' g _=>kk _ _ I α H' M (.refl _) (Jd _) (R.grow ha hm hh' ic hc g) (.int z) (h z z0 z1)
def Zm8:Sp3:=fun ds M K=>∃ (ns:List Int) (i:Int),ds=[.frz (ns.map .int),.int i]/\(ns.length<=63/\0<=i/\i<2 ^ 60)/\K (.cell M.length) (M++[.hand])
theorem Zm1 (R:Rel C Z I α H M) (r:Rep C I α v (.frz (ns.map .int))):∃ a,v=.ref a/\SqL C.k H a (ns.map V.int):=by
 cases r with
 | frz e r =>
  rw [r.of_ints ns] at e;exists ·,R.sub.seq e
theorem Znr {E:XK} (h:spOf C Zm8 vs H Q E):Zhp C.k vs H Q E:=by
 obtain ⟨Z,I,α,M,ds,K,R,r,⟨ns,i,rfl,⟨hl,i0,i1⟩,h⟩,kk⟩:=h;cases r with
 | cons r1 r2 =>
  cases r2 with
  | cons r2 r3 =>
   cases r3;cases r2;obtain ⟨a,rfl,hS⟩:=Zm1 R r1;refine ⟨a,ns,i,rfl,hS,hl,i0,i1,fun p c H' np nc hh s=>?_⟩;have R1:=R.same s;have pc:p≠c:=hh.ne;obtain ⟨d0,i0',cs,x1,x2,x3,x4,x5,x6,x7⟩:=hh.ex;have ipn:I p=none:=R.sub.free np;have icn:I c=none:=R.sub.free nc;have R2:Rel C Z (upd I c (.lst (cs.map V.int))) α H' M:=by
    exists R1.ai.trans (Ze icn),R1.aa,fun b o e=>?_,R1.len,R1.nd,fun k a m h1 h2=>?_
    ·by_cases z:b=c
     ·subst z; rw [Zn] at e; cases e; exact x2
     ·rw [Z4 z] at e; exact R1.sub b o e
    ·obtain ⟨a1,a2⟩:=R1.cel k a m h1 h2;have ne:a≠c:=R.cellNe h1 nc;exact ⟨a1.mono (Ze icn) (Jd _) rfl,by rw [Z4 ne]; exact a2⟩
   obtain ⟨R3,p3,e3⟩:=R2.cellAt (l:=p) (m:=.hand) (by rw [Z4 pc]; exact ipn) (R.out np) ⟨d0,i0',c,cs,x1,Zn,x3,x4,x5,x6,x7⟩;exact kk _ _ _ _ H' _ (Ze icn) p3 R3 (.cell e3) h
def Ps {k:Nat} {p c:Addr} {cs bs:List Int} {K:K3} (R:Rel C Z I α H M) (ha:α[k]?=some p) (hm:M[k]?=some .hand) (hh:HandAt H' p c) (ic:I c=some (.lst (cs.map V.int))) (hc:cs≠[]/\cs.length<=63/\∀ c∈cs,0<=c) (g:Grow p H H')
  (nl:H l=none) (el:H' l=some (.lst (bs.map V.int))) (kk:Fin C Z I α K Q) (h:K (.lst (bs.map .int)) M):Q (.ref l) H':=by
 obtain ⟨I',s,R',f⟩:=(R.grow ha hm hh ic hc g).full;exact kk _ _ I' α H' M s (Jd _) R' (.lst (f _ _ el (R.out nl)) (.ints bs)) h
def Zik:Sp3:=fun ds M K=>∃ k m,ds=[.cell k,.int m]/\M[k]?=some .hand/\(2<=m/\m<=4)/\∀ bs:List Int,bs.Nodup->2<=bs.length->(bs.length:Int)<=m->(∀ b∈bs,0<=b/\b<256)->K (.lst (bs.map .int)) M
theorem Zkq {E:XK} (h:spOf C Zik vs H Q E):Zc0 vs H Q E:=by
 obtain ⟨Z,I,α,M,ds,K,R,r,⟨k,m,rfl,hm,⟨m0,m1⟩,h⟩,kk⟩:=h;cases r with
 | cons r1 r2 =>
  cases r2 with
  | cons r2 r3 =>
   cases r3;cases r2;cases r1 with
   | @cell p _ ha =>
    obtain ⟨c,cs,hh,ic,hc⟩:=R.hand ha hm;exists p,c,m,rfl,hh,m0,m1,fun l bs H' nl _ el nd b2 bm bb hh' g=>Ps R ha hm hh' ic hc g nl el kk (h bs nd b2 bm bb)
def Zfa:Sp3:=fun ds M K=>∃ k m,ds=[.cell k,.int m]/\M[k]?=some .hand/\(0<=m/\m<=100)/\∀ ss:List Int,ss.Nodup->(ss.length:Int)=m->K (.lst (ss.map .int)) M
theorem Zkp {E:XK} (h:spOf C Zfa vs H Q E):Zcz vs H Q E:=by
 obtain ⟨Z,I,α,M,ds,K,R,r,⟨k,m,rfl,hm,⟨m0,m1⟩,h⟩,kk⟩:=h;cases r with
 | cons r1 r2 =>
  cases r2 with
  | cons r2 r3 =>
   cases r3;cases r2;cases r1 with
   | @cell p _ ha =>
    obtain ⟨c,cs,hh,ic,hc⟩:=R.hand ha hm;exists p,c,m,rfl,hh,m0,m1,fun l bs H' nl _ el nd b2 hh' g=>Ps R ha hm hh' ic hc g nl el kk (h bs nd b2)
theorem ints_at (R:Rel C Z I α H M) (r:Rep C I α v (.lst (ns.map .int))):∃ a,v=.ref a/\H a=some (.lst (ns.map V.int))/\I a=some (.lst (ns.map V.int)):=by
 cases r with
 | lst e r =>
  rw [r.of_ints ns] at e;exists ·,R.sub _ _ e,e
def Zjr {k:Nat} {p a:Addr} {o:HO} (R:Rel C Z I α H M) (ha:α[k]?=some p) (hm:M[k]?=some .hand) (e:I a=some o):a≠p:=fun z=>by
 rw [z,(R.cel k p _ ha hm).2] at e;cases e
def Zb4 {k:Nat} {p c:Addr} {cs:List Int} {K:K3} (R:Rel C Z I α H M) (ha:α[k]?=some p) (hm:M[k]?=some .hand) (hh:HandAt H' p c) (ic:I c=some (.lst (cs.map V.int))) (hc:cs≠[]/\cs.length<=63/\∀ c∈cs,0<=c) (g:Grow p H H')
  (nl:H l=none) (wa:Zaf H' l ws) (kk:Fin C Z I α K Q) (h:K (.lst (ws.map wD)) M):Q (.ref l) H':=by
 have R1:=R.grow ha hm hh ic hc g;obtain ⟨I',s,R',f⟩:=R1.full;obtain ⟨us,eu,pu⟩:=wa;exact kk _ _ I' α H' M s (Jd _) R' (.lst (f _ _ eu (R.out nl)) (Za3 (fun v a z=>Zoi (fun b xs e=>f _ _ e (R1.tupOut e)) z) pu)) h
end
section
variable {tc:TE} {ua ub uc:TE3} {t:TA}
def uRev (ua:TE3) (us:TO3):TE3:=fun ρ M K=>ua ρ M fun d M1=>us ρ M1 fun k M2=>k=some (-1)/\∃ xs,Z3 M2 d=some xs/\K (.lst xs.reverse) M2
def Zoc {us:TO3} (ha:SimE C Z ta ua) (hs:SimO C Z ts us):SimE C Z (tRev C.k ta ts) (uRev ua us):=fun I α σ H ρ M K Q R E h k =>
 ha I α σ H ρ M _ _ R E h fun v d I1 α1 H1 M1 s1 p1 R1 r1 h1 =>
  hs I1 α1 σ H1 ρ M1 _ _ R1 (E.mono s1 p1) h1 fun o I2 α2 H2 M2 s2 p2 R2 h2=>by
   obtain ⟨ho,xs,e,h2⟩:=h2;obtain ⟨a,vs,rfl,ea,ra⟩:=Y3 R2 (r1.mono s2 p2) e;exists ho,a,vs,rfl,ea,fun p hp=>?_;obtain ⟨R3,s3,e3⟩:=R2.new (o:=.lst vs.reverse) hp;exact k _ _ _ α2 _ M2 (s1.trans (s2.trans s3)) (p1.trans p2) R3 (.lst e3 (ra.rev.mono s3 (Jd _))) h2
def valD [DecidableEq κ] (kvs:List (κ×D)) (k:κ):Option D:=(kvs.find? fun kv=>decide (kv.1=k)).map (·.2)
def putD [DecidableEq κ] (kvs:List (κ×D)) (k:κ) (v:D):List (κ×D) :=
 if (kvs.any fun kv=>decide (kv.1=k))=true then kvs.map (fun kv=>if kv.1=k then (kv.1,v) else kv) else kvs++[(k,v)]
def Zb2:D->Option Key
 | .int i=>some (.inl i)
 | .str s=>some (.inr s)
 | _=>none
def Ss:List D->Option (List Key)
 | []=>some []
 | d::r=>match Zb2 d,Ss r with | some k,some ks=>some (k::ks) | _,_=>none
def tkOf:D->Option (List Key)
 | .tup ds=>Ss ds
 | _=>none
section
theorem Su {d:D} {k:Key} (r:Rep C I α v d) (h:Zb2 d=some k):v=kV k:=by
 cases r with
 | int i=>cases h; rfl
 | str i=>cases h; rfl
 | _=>cases h
theorem Tk:∀ {vs:List V} {ds:List D} {ks:List Key},Reps C I α vs ds->Ss ds=some ks->vs=ks.map kV
 | _,_,_,.nil,h=>by cases h; rfl
 | _,_,ks,.cons (d:=d) (ds:=ds) a b,h=>by
  unfold Ss at h;cases h1:Zb2 d with
  | none=>simp only [h1] at h; cases h
  | some k =>
   cases h2:Ss ds with
   | none=>simp only [h1,h2] at h; cases h
   | some r =>
    simp only [h1,h2] at h;cases h;rw [Su a h1,Tk b h2];rfl
theorem RepK.len:∀ {vs:List (Key×V)} {ds:List (Key×D)},RepK C I α vs ds->vs.length=ds.length:=by
 intro _ _ hz9;cases hz9 with
 | nil=>
  exact rfl
 | cons _ b=>
  exact by rw [Jq,Jq,RepK.len b]
theorem RepT.len:∀ {vs:List (List Key×V)} {ds:List (List Key×D)},RepT C I α vs ds->vs.length=ds.length:=by
 intro _ _ hz9;cases hz9 with
 | nil=>
  exact rfl
 | cons _ b=>
  exact by rw [Jq,Jq,RepT.len b]
def Qx [DecidableEq κ] {k k':κ} {d:D} {r:List (κ×D)}:valD ((k',d)::r) k=if k'=k then some d else valD r k:=by
 unfold valD;rw [Bs]
 by_cases h:k'=k
 ·simp [h]
 ·simp [h]
def Qw [DecidableEq κ] {k k':κ} {d:V} {r:List (κ×V)}:valV ((k',d)::r) k=if k'=k then some d else valV r k:=by
 unfold valV;rw [Bs]
 by_cases h:k'=k
 ·simp [h]
 ·simp [h]
theorem RepK.val {k:Key}:∀ {vs:List (Key×V)} {ds:List (Key×D)},RepK C I α vs ds->(valD ds k=none/\valV vs k=none)\/∃ d v,valD ds k=some d/\valV vs k=some v/\Rep C I α v d
 | _,_,.nil=>.inl ⟨rfl,rfl⟩
 | _,_,.cons (k:=k') (v:=v) (d:=d) a b=>by
  rw [Qx,Qw]
  by_cases h:k'=k
  ·rw [Df h,Df h]; exact .inr ⟨d,v,rfl,rfl,a⟩
  ·rw [De h,De h]; exact RepK.val b
theorem RepT.val {k:List Key}:∀ {vs:List (List Key×V)} {ds:List (List Key×D)},RepT C I α vs ds->(valD ds k=none/\valV vs k=none)\/∃ d v,valD ds k=some d/\valV vs k=some v/\Rep C I α v d
 | _,_,.nil=>.inl ⟨rfl,rfl⟩
 | _,_,.cons (k:=k') (v:=v) (d:=d) a b=>by
  rw [Qx,Qw]
  by_cases h:k'=k
  ·rw [Df h,Df h]; exact .inr ⟨d,v,rfl,rfl,a⟩
  ·rw [De h,De h]; exact RepT.val b
theorem RepK.any {k:Key}:∀ {vs:List (Key×V)} {ds:List (Key×D)},RepK C I α vs ds->(vs.any fun kv=>decide (kv.1=k))=(ds.any fun kv=>decide (kv.1=k)):=by
 intro _ _ hz9;cases hz9 with
 | nil=>
  exact rfl
 | cons a b=>
  exact by rw [Fh,Fh,RepK.any b]
theorem RepT.any {k:List Key}:∀ {vs:List (List Key×V)} {ds:List (List Key×D)},RepT C I α vs ds->(vs.any fun kv=>decide (kv.1=k))=(ds.any fun kv=>decide (kv.1=k)):=by
 intro _ _ hz9;cases hz9 with
 | nil=>
  exact rfl
 | cons a b=>
  exact by rw [Fh,Fh,RepT.any b]
theorem RepK.app:∀ {vs ws:List (Key×V)} {ds es:List (Key×D)},RepK C I α vs ds->RepK C I α ws es->RepK C I α (vs++ws) (ds++es):=by
 intro _ _ _ _ hz9 s;cases hz9 with
 | nil=>
  exact s
 | cons r t=>
  exact .cons r (RepK.app t s)
theorem RepT.app:∀ {vs ws:List (List Key×V)} {ds es:List (List Key×D)},RepT C I α vs ds->RepT C I α ws es->RepT C I α (vs++ws) (ds++es):=by
 intro _ _ _ _ hz9 s;cases hz9 with
 | nil=>
  exact s
 | cons r t=>
  exact .cons r (RepT.app t s)
theorem RepK.mapPut {k:Key} {d:D} (r:Rep C I α v d):∀ {vs:List ((Key)×V)} {ds:List ((Key)×D)},RepK C I α vs ds->RepK C I α (vs.map fun kv=>if kv.1=k then (kv.1,v) else kv) (ds.map fun kv=>if kv.1=k then (kv.1,d) else kv)
 | _,_,.nil=>.nil
 | _,_,.cons (k:=k') a b=>by
  rw [Jr,Jr]
  by_cases e:k'=k
  ·simp only [e,if_true]; exact .cons r (RepK.mapPut r b)
  ·simp only [e,if_false]; exact .cons a (RepK.mapPut r b)
def RepK.put {k:Key} {d:D} {vs:List ((Key)×V)} {ds:List ((Key)×D)} (h:RepK C I α vs ds) (r:Rep C I α v d):RepK C I α (putK vs k v) (putD ds k d):=by
 unfold putK putD;rw [h.any]
 split
 ·exact RepK.mapPut r h
 ·exact h.app (.cons r .nil)
theorem RepT.mapPut {k:List Key} {d:D} (r:Rep C I α v d):∀ {vs:List ((List Key)×V)} {ds:List ((List Key)×D)},RepT C I α vs ds->RepT C I α (vs.map fun kv=>if kv.1=k then (kv.1,v) else kv) (ds.map fun kv=>if kv.1=k then (kv.1,d) else kv)
 | _,_,.nil=>.nil
 | _,_,.cons (k:=k') a b=>by
  rw [Jr,Jr]
  by_cases e:k'=k
  ·simp only [e,if_true]; exact .cons r (RepT.mapPut r b)
  ·simp only [e,if_false]; exact .cons a (RepT.mapPut r b)
def RepT.put {k:List Key} {d:D} {vs:List ((List Key)×V)} {ds:List ((List Key)×D)} (h:RepT C I α vs ds) (r:Rep C I α v d):RepT C I α (putK vs k v) (putD ds k d):=by
 unfold putK putD;rw [h.any]
 split
 ·exact RepT.mapPut r h
 ·exact h.app (.cons r .nil)
def Zke (M:Mem):D->Option (List (Key×D))
 | .dct kvs=>some kvs
 | .cell k=>match M[k]? with | some (.dct kvs)=>some kvs | some (.drK kvs)=>some kvs | some (.dfK _ _ kvs)=>some kvs | _=>none
 | _=>none
def Pz (M:Mem):D->Option (List (List Key×D))
 | .dcT kvs=>some kvs
 | .cell k=>match M[k]? with | some (.dcT kvs)=>some kvs | some (.drT kvs)=>some kvs | _=>none
 | _=>none
theorem Zm6 {d:D} {kvs:List (Key×D)} (R:Rel C Z I α H M) (r:Rep C I α v d) (h:Zke M d=some kvs):∃ a vs,v=.ref a/\Rd H a (.dK vs)/\RepK C I α vs kvs:=by
 cases r with
 | dct e r=>cases h;exists _,·,.inl (R.sub _ _ e),r
 | @cell a k e =>
  unfold Zke at h;cases hm:M[k]? with
  | none=>simp only [hm] at h; cases h
  | some m =>
   cases m with
   | dct es=>simp only [hm] at h; cases h; obtain ⟨vs,e1,r⟩:=(R.cel k a _ e hm).1;exists _,·,.inl e1,r
   | drK es=>simp only [hm] at h; cases h; obtain ⟨vs,e1,r⟩:=(R.cel k a _ e hm).1;exists _,·,e1,r
   | dfK o vs es=>simp only [hm] at h; cases h; obtain ⟨e1,r⟩:=(R.cel k a _ e hm).1;exists _,·,.inr ⟨o,e1⟩,r
   | _=>simp only [hm] at h; cases h
 | _=>cases h
theorem Zic {d:D} {kvs:List (List Key×D)} (R:Rel C Z I α H M) (r:Rep C I α v d) (h:Pz M d=some kvs):∃ a vs,v=.ref a/\Rd H a (.dT vs)/\RepT C I α vs kvs:=by
 cases r with
 | dcT e r=>cases h;exists _,·,.inl (R.sub _ _ e),r
 | @cell a k e =>
  unfold Pz at h;cases hm:M[k]? with
  | none=>simp only [hm] at h; cases h
  | some m =>
   cases m with
   | dcT es=>simp only [hm] at h; cases h; obtain ⟨vs,e1,r⟩:=(R.cel k a _ e hm).1;exists _,·,.inl e1,r
   | drT es=>simp only [hm] at h; cases h; obtain ⟨vs,e1,r⟩:=(R.cel k a _ e hm).1;exists _,·,e1,r
   | _=>simp only [hm] at h; cases h
 | _=>cases h
def dGet (M:Mem) (d e:D) (o:Option D):Prop:=(∃ kvs k,Zke M d=some kvs/\Zb2 e=some k/\o=valD kvs k)\/∃ kvs k,Pz M d=some kvs/\tkOf e=some k/\o=valD kvs k
def Zkh {w:V} {d e:D} {o:Option D} (R:Rel C Z I α H M) (r1:Rep C I α v d) (r2:Rep C I α w e) (h:dGet M d e o):∃ a o',v=.ref a/\IsD H a/\DGet H a w o'/\((o=none/\o'=none)\/∃ x y,o=some x/\o'=some y/\Rep C I α y x):=by
 rcases h with ⟨kvs,k,e1,e2,rfl⟩ | ⟨kvs,k,e1,e2,rfl⟩
 ·obtain ⟨a,vs,rfl,ea,ra⟩:=Zm6 R r1 e1;exists a,valV vs k,rfl,.inl ⟨vs,ea⟩,by rw [Su r2 e2]; exact .inl ⟨vs,k,ea,rfl,rfl⟩,?_;rcases ra.val (k:=k) with ⟨h1,h2⟩ | ⟨x,y,h1,h2,h3⟩
  ·exact .inl ⟨h1,h2⟩
  ·exact .inr ⟨x,y,h1,h2,h3⟩
 ·obtain ⟨a,vs,rfl,ea,ra⟩:=Zic R r1 e1;cases r2 with
  | @tup b bs ds eb rb =>
   have hb:H b=some (.tup (k.map kV)):=by rw [<- Tk rb e2]; exact R.sub _ _ eb
   exists a,valV vs k,rfl,.inr ⟨vs,ea⟩,.inr ⟨vs,k,b,ea,rfl,hb,rfl⟩,?_;rcases ra.val (k:=k) with ⟨h1,h2⟩ | ⟨x,y,h1,h2,h3⟩
   ·exact .inl ⟨h1,h2⟩
   ·exact .inr ⟨x,y,h1,h2,h3⟩
  | _=>cases e2
end
def Ziv (ub ua:TE3):TE3:=fun ρ M K=>ub ρ M fun e M1=>ua ρ M1 fun d M2=>∃ o,dGet M2 d e o/\K (.bl (!o.isSome)) M2
def Za0 (hb:SimE C Z tb ub) (ha:SimE C Z ta ua):SimE C Z (Zcv tb ta) (Ziv ub ua):=fun I α σ H ρ M K Q R E h k =>
 hb I α σ H ρ M _ _ R E h fun w e I1 α1 H1 M1 s1 p1 R1 r1 h1 =>
  ha I1 α1 σ H1 ρ M1 _ _ R1 (E.mono s1 p1) h1 fun v d I2 α2 H2 M2 s2 p2 R2 r2 h2=>by
   obtain ⟨o,g,h2⟩:=h2;obtain ⟨a,o',rfl,_,g2,z⟩:=Zkh R2 r2 (r1.mono s2 p2) g;have eo:o'.isSome=o.isSome:=by
    rcases z with ⟨rfl,rfl⟩ | ⟨x',y,rfl,rfl,_⟩ <;> rfl
   exact ⟨a,o',rfl,g2,by rw [eo]; exact k _ _ I2 α2 H2 M2 (s1.trans s2) (p1.trans p2) R2 (.bl _) h2⟩
def Zk0:TE3:=fun _ M K=>K (.cell M.length) (M++[.dcT []])
def Zde:SimE C Z Zho Zk0:=fun I α σ H ρ M K Q R E h k p hp=>by
 obtain ⟨R2,p2,e2⟩:=R.cell (o:=.dT []) (m:=.dcT []) hp fun H' e=>⟨[],e,.nil⟩;exact k _ _ I _ _ _ (.refl _) p2 R2 (.cell e2) h
def dPut (M:Mem) (d e v:D) (M':Mem):Prop:=(∃ j kvs k,d=.cell j/\M[j]?=some (.dct kvs)/\Zb2 e=some k/\kvs.length<sizeLine/\M'=M.set j (.dct (putD kvs k v))) \/
 ∃ j kvs k,d=.cell j/\M[j]?=some (.dcT kvs)/\tkOf e=some k/\kvs.length<sizeLine/\M'=M.set j (.dcT (putD kvs k v))
def Zn4 (ua ub uc:TE3):TS3:=fun E ρ M=>uc ρ M fun v M1=>ua ρ M1 fun d M2=>ub ρ M2 fun e M3=>∃ M4,dPut M3 d e v M4/\E.nx ρ M4
def Zhw (ha:SimE C Z ta ua) (hb:SimE C Z tb ub) (hc:SimE C Z tc uc):SimS C Z (Zlv ta tb tc) (Zn4 ua ub uc):=fun I α σ H ρ M E D' R RE h F =>
 hc I α σ H ρ M _ _ R RE h fun v d0 I1 α1 H1 M1 s1 p1 R1 r1 h1=>ha I1 α1 σ H1 ρ M1 _ _ R1 (RE.mono s1 p1) h1 fun x d I2 α2 H2 M2 s2 p2 R2 r2 h2 =>
  hb I2 α2 σ H2 ρ M2 _ _ R2 (RE.mono (s1.trans s2) (p1.trans p2)) h2 fun y e I3 α3 H3 M3 s3 p3 R3 r3 h3=>by
   obtain ⟨M4,g,h3⟩:=h3;have rv:=r1.mono (s2.trans s3) (p2.trans p3);have RE3:=RE.mono (s1.trans (s2.trans s3)) (p1.trans (p2.trans p3));rcases g with ⟨j,kvs,kk,rfl,e1,e2,hl,rfl⟩ | ⟨j,kvs,kk,rfl,e1,e2,hl,rfl⟩
   ·cases (r2.mono s3 p3) with
    | @cell a _ ec =>
     obtain ⟨vs,ea,ra⟩:=(R3.cel j a _ ec e1).1;exists a,·,by rw [Su r3 e2]; exact DPut.k ea (by rw [ra.len]; exact hl),?_;exact F.nx I3 α3 σ _ ρ _ (s1.trans (s2.trans s3)) (p1.trans (p2.trans p3)) (R3.put (m:=.dct (putD kvs kk d0)) ec fun H' e=>⟨_,e,ra.put rv⟩) RE3 h3
   ·cases (r2.mono s3 p3) with
    | @cell a _ ec =>
     obtain ⟨vs,ea,ra⟩:=(R3.cel j a _ ec e1).1;cases r3 with
     | @tup b bs ds eb rb =>
      have hb:H3 b=some (.tup (kk.map kV)):=by rw [<- Tk rb e2]; exact R3.sub _ _ eb
      exists a,·,DPut.t ea hb (by rw [ra.len]; exact hl),?_;exact F.nx I3 α3 σ _ ρ _ (s1.trans (s2.trans s3)) (p1.trans (p2.trans p3)) (R3.put (m:=.dcT (putD kvs kk d0)) ec fun H' e=>⟨_,e,ra.put rv⟩) RE3 h3
     | _=>cases e2
end
def Zka:MO->Option D
 | .lst xs=>some (.lst xs)
 | .dct kvs=>some (.dct kvs)
 | .dcT kvs=>some (.dcT kvs)
 | _=>none
def frzK (n0:Nat) (K:K3):K3:=fun d M'=>∃ m d',d=.cell n0/\M'.length=n0+1/\M'[n0]?=some m/\Zka m=some d'/\(∀ m∈M',X5 n0 m)/\K d' (M'.take n0)
theorem Zj9 {a:Addr} {m:MO} {d:D} (h:MoAt C I α H a m) (e:Zka m=some d) (ia:I a=none):∃ o,H a=some o/\Rep C (upd I a o) α (.ref a) d:=by
 have pr:=Jd α;cases m with
 | lst ds=>cases e; obtain ⟨vs,e,r⟩:=h;exists _,e,.lst Zn (r.mono (Ze ia) pr)
 | dct ds=>cases e; obtain ⟨vs,e,r⟩:=h;exists _,e,.dct Zn (r.mono (Ze ia) pr)
 | dcT ds=>cases e; obtain ⟨vs,e,r⟩:=h;exists _,e,.dcT Zn (r.mono (Ze ia) pr)
 | _=>cases e
theorem Fin.frz {C:Cf} {Z:Anc} {I:Hp} {α:List Addr} {K:K3} {Q:VK} (k:Fin C Z I α K Q) {n0:Nat} (hn:α.length=n0) (ha:Z.a<+:α):Fin C Z I α (frzK n0 K) Q:=fun v d I' α' H' M' s p R r h=>by
 obtain ⟨m,d',rfl,hl,e,ed,hm,h⟩:=h;cases r with
 | @cell a _ ec =>
  obtain ⟨mo,ia⟩:=R.cel n0 a _ ec e;have mo':=hm m (Gb e) _ _ _ _ _ mo;obtain ⟨o,ea,ra⟩:=Zj9 mo' ed ia;have R1:=R.take n0 (by have:=ha.length_le; lia) fun x hx=>hm x (Bk hx);have an:a∉α'.take n0:=fun ha=>by
   obtain ⟨j,hj,ej⟩:=Gd ha;rw [Jz] at hj;rw [Fl] at ej;obtain ⟨hn0,en⟩:=Jh.mp ec;rw [<- en] at ej;have:=(Bh R.nd).mp ej;lia
  have s2:Same I' (upd I' a o):=Ze ia;have R2:Rel C Z (upd I' a o) (α'.take n0) H' (M'.take n0):=by
   exists R1.ai.trans s2,R1.aa,fun b u eb=>?_,R1.len,R1.nd,fun k b m h1 h2=>?_
   ·by_cases z:b=a
    ·subst z; rw [Zn] at eb; cases eb; exact ea
    ·rw [Z4 z] at eb; exact R1.sub b u eb
   ·obtain ⟨a1,a2⟩:=R1.cel k b m h1 h2;have ne:b≠a:=fun z=>an (z ▸ Gb h1);exact ⟨a1.mono s2 (Jd _) rfl,by rw [Z4 ne]; exact a2⟩
  exact k _ _ _ (α'.take n0) H' _ (s.trans s2) (Uu p (by lia)) R2 ra h
def uFrz (u:TE3):TE3:=fun ρ M K=>u ρ M (frzK M.length K)
def Zog {t:TE} {u:TE3} (h:SimE C Z t u):SimE C Z t (uFrz u):=fun I α σ H ρ M K Q R E hh k=>h I α σ H ρ M _ _ R E hh (k.frz R.len R.aa)
def Zm0 {m:MO} {d:D} {K:K3} (hd:Zka m=some d) (hm:WfM M) (hx:X5 M.length m) (h:K d M):frzK M.length K (.cell M.length) (M++[m]) :=
 ⟨m,d,rfl,by simp,by simp,hd,fun x hx'=>by
  rcases Jn.mp hx' with z | z
  ·exact hm x z
  ·rw [Je.mp z]; exact hx,by rw [Fb]; exact h⟩
def Xq {m:MO}:(M++[m])[M.length]?=some m:=by simp
def W3 {m:MO}:(M++[m]).set M.length m'=M++[m']:=by simp
def Zio (h:X.K=K) (hc:X.calm=true):Xv X (.builtin "all") (fun xs H Q=>∃ (p:Addr) (bs:List Bool),xs=[.ref p]/\SqL K H p (bs.map V.bl)/\Q (.bl (bs.all id)) H):=by subst h; exact Zha hc
def T7 {i:Nat} {x:D} (h:(ns.map D.int)[i]?=some x):∃ hi:i<ns.length,x=.int ns[i]:=by
 obtain ⟨hi,e⟩:=Jh.mp h;rw [Ja] at hi;exists hi,?_;rw [<- e,Gk]
def Yh {f:τ->D} {as:List τ} {i:Nat} {x:D} (h:(as.map f)[i]?=some x):∃ hi:i<as.length,x=f as[i]:=by
 obtain ⟨hi,e⟩:=Jh.mp h;rw [Ja] at hi;exact ⟨hi,by rw [<- e,Gk]⟩
def W8 {f:τ->D} {as:List τ} {i:Int} {j:Nat} (h:i=j) (hj:j<as.length):L2.atI (as.map f) i=some (f as[j]):=by
 subst h;exact Vw (by rw [Js,Jb hj]; rfl)
def Sn :lsOf (M++[.lst xs]) (.cell M.length)=some xs:=by simp [lsOf]
def Xx :Z3 (M++[.lst xs]) (.cell M.length)=some xs:=by simp [Z3]
def Uc {d:D} (h:lsOf M d=some xs):lsOf M d≠none:=by rw [h]; exact fun z=>nomatch z
def Ue {M':Mem} {d:D} {K:K3} (p:M<+:M') (hM:WfM M) (hb:Yp M.length d) (h:K d M):Dk M.length K d M':=by
 obtain ⟨t,rfl⟩:=p;exact .inr ⟨M.length,Jf _,hb,by rw [Fb]; exact hM,by rw [Fb]; exact h⟩
def pre1 {a:List MO}:M<+:M++a:=Gq _ _
def pre2 {a b:List MO}:M<+:M++a++b:=(Gq _ _).trans (Gq _ _)
def eqI {K:Bool->Prop} (h:K (decide (ns=ms))):eqV (.lst (ns.map .int)) (.lst (ms.map .int)) M K:=Vt Yc rfl rfl h
theorem Zox {a b c:D} {r:Int} (h0:0<=r) (h1:r<3):∃ d,L2.atI [a,b,c] r=some d/\(d=a\/d=b\/d=c):=by
 have:r=0\/r=1\/r=2:=by lia
 rcases this with rfl | rfl | rfl
 ·exists a,rfl,.inl rfl
 ·exists b,rfl,.inr (.inl rfl)
 ·exists c,rfl,.inr (.inr rfl)
def Zac {n:Nat} {w:List Int}:Yp n (wD w):=S0 (U4 (fun _=>Vv) w)
end L3
variable {M:L3.Mem} {C:L3.Cf} {Z:L3.Anc} {ds xs:List L3.D} {ρ:L3.Ev} {m':L3.MO} {ui:L3.TI3}
namespace L3
def Q3 {E:TE3} {ug:TG3} {u':TS3} {En:Ends3} (S:D->Mem->Prop) (h1:∀ K:K3,(∀ d M',S d M'->K d M')->E ρ M K) (h2:∀ d M',S d M'->ug d ρ M' (u' En)):uSeq (uAsg E ug) u' En ρ M:=h1 _ h2
def g_nx {i:Nat} {d:D} {K:Ev->Mem->Prop} (h:K (ρ.set i (some d)) M):uG i d ρ M K:=h
end L3
namespace L3
open PySem L2
def Zbw {u u':TS3} {En:Ends3} (S:Ev->Mem->Prop) (h1:∀ Kn:Ev->Mem->Prop,(∀ ρ' M',S ρ' M'->Kn ρ' M')->u { En with nx:=Kn } ρ M) (h2:∀ ρ' M',S ρ' M'->u' En ρ' M'):uSeq u u' En ρ M:=h1 _ h2
theorem Zki (xs:List τ) (lo hi:Option Int):(cut xs lo hi).length<=xs.length:=by
 unfold cut;rw [Jz,Gh];lia
section
variable {to:TE} {ua uo ui ue:TE3} {t:TA} {u:TA3}
def Zgf (lo:Int) (n:Nat):It3:=⟨n,fun i x=>x=.int (lo-i),fun _=>True⟩
def Zov {n:Nat}:ItR C Z I α (Itw lo n) (Zgf lo n):=fun I' α' H' M' s p R _=>⟨fun i hi=>⟨hi,fun x H2 y=>by
 obtain ⟨rfl,rfl⟩:=y;exact ⟨I',_,.refl _,R,.int _,rfl⟩⟩,Jf _⟩
def uIRD (ua:TA3):TI3:=fun ρ M K=>ua ρ M fun ds M1=>∃ i j:Int,ds=[.int i,.int j,.int (-1)]/\(-(2 ^ 62)<=i/\i<2 ^ 62/\-(2 ^ 62)<=j/\j<2 ^ 62)/\K (Zgf i (i-j).toNat) M1
def Zlp (ha:SimA C Z t u):SimI C Z (Zmu t) (uIRD u):=fun I α σ H ρ M K R' R RE h k =>
 ha I α σ H ρ M _ _ R RE h fun vs ds I1 α1 H1 M1 s1 p1 R1 r1 h1=>by
  obtain ⟨i,j,rfl,h2,h1⟩:=h1;cases r1 with
  | cons a b =>
   cases b with
   | cons b c =>
    cases c with
    | cons c d =>
     cases d;cases a;cases b;cases c;exists i,j,rfl,h2,k _ _ I1 α1 H1 M1 s1 p1 R1 Zov h1
def sum3:List D->Mem->K3->Prop:=fun ds M K=>∃ (d:D) (ns:List Int),ds=[d]/\Z3 M d=some (ns.map .int)/\K (.int ns.sum) M
def rSum (K:W.Frag):List V->Hp->VK->Prop:=fun xs H Q=>∃ (p:Addr) (ns:List Int),xs=[.ref p]/\SqL K H p (ns.map V.int)/\Q (.int ns.sum) H
def Znk (h:X.K=K') (hc:X.calm=true):Xv X (.builtin "sum") (rSum K'):=by subst h; exact Zg8 hc
theorem Zob:SimC C Z (rSum C.k) sum3:=fun I α H M xs ds K Q R r h k=>by
 obtain ⟨d,bs,rfl,e,h⟩:=h;cases r with
 | cons r1 r2 =>
  cases r2;obtain ⟨a,vs,rfl,ea,ra⟩:=Y3 R r1 e;rw [ra.of_ints bs] at ea;exists a,bs,rfl,ea,k _ _ I α H M (.refl _) (Jd _) R (.int _) h
def Znu (ua:TE3) (us:TO3):TE3:=fun ρ M K=>ua ρ M fun d M1=>us ρ M1 fun k M2=>k=some (-1)/\∃ xs,d=.tup xs/\K (.tup xs.reverse) M2
def Zht {us:TO3} (ha:SimE C Z ta ua) (hs:SimO C Z ts us):SimE C Z (Zk6 C.k ta ts) (Znu ua us):=fun I α σ H ρ M K Q R E h k =>
 ha I α σ H ρ M _ _ R E h fun v d I1 α1 H1 M1 s1 p1 R1 r1 h1 =>
  hs I1 α1 σ H1 ρ M1 _ _ R1 (E.mono s1 p1) h1 fun o I2 α2 H2 M2 s2 p2 R2 h2=>by
   obtain ⟨ho,xs,rfl,h2⟩:=h2;cases (r1.mono s2 p2) with
   | tup e r =>
    exists ho,_,·,SqT.of (R2.sub _ _ e),fun p hp=>?_;obtain ⟨R3,s3,e3⟩:=R2.new (o:=.tup _) hp;exact k _ _ _ α2 _ M2 (s1.trans (s2.trans s3)) (p1.trans p2) R3 (.tup e3 (r.rev.mono s3 (Jd _))) h2
def Zn8 (uo ui ue:TE3) (f:Int->Int->Int):TS3:=fun E ρ M=>uo ρ M fun o M1=>ui ρ M1 fun i M2=>∃ (k n:Nat) (xs:List D) (x:Int),o=.cell k/\i=.int (n:Int)/\M2[k]?=some (.lst xs)/\xs[n]?=some (.int x) /\
 ue ρ M2 fun d M3=>∃ (y:Int) (xs':List D) (j:Nat),d=.int y/\M3[k]?=some (.lst xs')/\ixN xs'.length (n:Int)=some j/\E.nx ρ (M3.set k (.lst (xs'.set j (.int (f x y)))))
def Zlr {f:Int->Int->Int} (ho:SimE C Z to uo) (hi:SimE C Z ti ui) (he:SimE C Z te ue):SimS C Z (Zlc to ti te (Zlz C.k) (ipI f) Zjj) (Zn8 uo ui ue f):=fun I α σ H ρ M E D' R RE h F =>
 ho I α σ H ρ M _ _ R RE h fun ov o I1 α1 H1 M1 s1 p1 R1 r1 h1=>hi I1 α1 σ H1 ρ M1 _ _ R1 (RE.mono s1 p1) h1 fun iv i I2 α2 H2 M2 s2 p2 R2 r2 h2=>by
  obtain ⟨k,n,xs,x,rfl,rfl,e1,e2,h2⟩:=h2;cases r2;cases (r1.mono s2 p2) with
  | @cell a _ ec =>
   obtain ⟨us,eu,ru⟩:=Wg R2 ec e1;have hn:n<xs.length:=(Jh.mp e2).1;have hn':n<us.length:=by rw [ru.length]; exact hn
   have ri:=ru.at hn' hn;rw [Jb hn] at e2;rw [Di e2] at ri;refine ⟨a,us,n,us[n],rfl,rfl,SqL.of eu,Jb hn',?_⟩;generalize us[n]=w at ri;cases ri;refine he I2 α2 σ H2 ρ M2 _ _ R2 (RE.mono (s1.trans s2) (p1.trans p2)) h2 fun ev d I3 α3 H3 M3 s3 p3 R3 r3 h3=>?_;obtain ⟨y,xs',j,rfl,e3,e4,h3⟩:=h3;cases r3;have ec3:α3[k]?=some a:=by
    obtain ⟨t,rfl⟩:=p3;rw [Jx (Jh.mp ec).1]; exact ec
   obtain ⟨us3,eu3,ru3⟩:=Wg R3 ec3 e3;exists x,y,rfl,rfl,a,us3,_,j,rfl,rfl,eu3,by rw [ru3.length]; exact e4,F.nx I3 α3 σ _ ρ _ (s1.trans (s2.trans s3)) (p1.trans (p2.trans p3)) (R3.putL ec3 (ru3.set (.int _) j)) (RE.mono (s1.trans (s2.trans s3)) (p1.trans (p2.trans p3))) h3
end
def Zhq (K:W.Frag):Sp:=fun vs H Q _=>∃ (a:Addr) (ns:List Int),vs=[.ref a]/\SqL K H a (ns.map V.int)/\ns.length<=63/\∀ H',Q (.bl true) H'
def Zm9:Sp3:=fun ds M K=>∃ ns:List Int,ds=[.frz (ns.map .int)]/\M=[]/\ns.length<=63/\∀ M',K (.bl true) M'
def Zjw {E:XK} (h:Zhq C.k vs H Q E):spOf C Zm9 vs H Q E:=by
 obtain ⟨a,ns,rfl,hS,hl,k⟩:=h;exists ⟨fun _=>none,[],fun _ _ _=>False,fun _ _ _=>False⟩,H,[],[],[.frz (ns.map .int)],fun d _=>d=.bl true,⟨(fun _ _ h=>nomatch h),List.nil_prefix,.refl _,rfl,by simp,fun k' a' m h1 h2=>by simp at h1⟩,?_,⟨ns,rfl,rfl,hl,fun _=>rfl⟩,fun v d I' α' H' M' _ _ _ r h=>?_
 ·exact .one (.frz hS (.ints ns))
 ·subst h;cases r;exact k H'
section
def Zo2:R3:=fun d e M K=>∃ xs ys,lsOf M d=some xs/\lsOf M e=some ys/\xs.length+ys.length<=sizeLine/\K (.cell M.length) (M++[.lst (xs++ys)])
def Zdg:SimR C Z (Zgk C.k) Zo2:=fun I α H M x y d e K Q R r1 r2 h k=>by
 obtain ⟨xs,ys,e1,e2,hl,h⟩:=h;obtain ⟨a,vs,rfl,ea,ra⟩:=Ry R r1 e1;obtain ⟨b,ws,rfl,eb,rb⟩:=Ry R r2 e2;refine .inr (.inr (.inl ⟨a,b,vs,ws,rfl,rfl,ea,eb,by rw [ra.length,rb.length]; exact hl,fun p hp=>?_⟩));obtain ⟨R2,p2,e2⟩:=R.cell (o:=.lst (vs++ws)) (m:=.lst (xs++ys)) hp fun H' e=>⟨_,e,ra.app rb⟩;exact k _ _ I _ _ _ (.refl _) p2 R2 (.cell e2) h
def Zor:R3:=fun d e M K=>∃ xs k,lsOf M d=some xs/\e=.int k/\(-(2 ^ 63)<=k/\k<2 ^ 63/\xs.length*k.toNat<=sizeLine)/\K (.cell M.length) (M++[.lst (List.replicate k.toNat xs).flatten])
def Zll:SimR C Z Zgi Zor:=fun I α H M x y d e K Q R r1 r2 h k=>by
 obtain ⟨xs,j,e1,rfl,⟨h1,h2,h3⟩,h⟩:=h;cases r2;obtain ⟨a,vs,rfl,ea,ra⟩:=Ry R r1 e1;refine .inr ⟨a,j,vs,rfl,rfl,ea,h1,h2,by rw [ra.length]; exact h3,fun p hp=>?_⟩;obtain ⟨R2,p2,e2⟩:=R.cell (o:=.lst (List.replicate j.toNat vs).flatten) (m:=.lst (List.replicate j.toNat xs).flatten) hp fun H' e=>⟨_,e,ra.rep _⟩;exact k _ _ I _ _ _ (.refl _) p2 R2 (.cell e2) h
end
def hit (ns:List Int) (pl:Nat) (p:Pr):Bool:=decide ((ns.drop pl).take p.2.length=p.2)
def N7 (L:List Pr) (ns:List Int) (c:List Int) (j:Nat):Int:=((L.filter (hit ns (ns.length-1-j))).map fun p=>(c[p.2.length-1]?).getD 0).sum
def X6 (L:List Pr) (ns:List Int):Nat->List Int
 | 0=>[1]
 | j+1=>N7 L ns (X6 L ns j) j::X6 L ns j
theorem Up (L:List Pr) (ns:List Int):∀ j,(X6 L ns j).length=j+1
 | 0=>rfl
 | j+1=>by rw [X6,Jq,Up L ns j]
def N9 (L:List Pr) (ns:List Int):Int:=((X6 L ns ns.length)[0]?).getD 0
def cnts (L:List Pr) (ns:List Int) (j:Nat):List Int:=List.replicate (ns.length-j) 0++X6 L ns j
theorem Zbo {j:Nat} (h:j<=ns.length):(cnts L ns j).length=ns.length+1:=by
 unfold cnts;rw [Jc,Gr,Up];lia
theorem Wl {p:Pr} (h:hit ns pl p=true) (hn:p.2≠[]):pl+p.2.length<=ns.length:=by
 have e:=congrArg List.length (of_decide_eq_true h);rw [Jz,Gh] at e;have:=Gc.mpr hn;lia
theorem Zfp {j:Nat} (hj:j<ns.length) {p:Pr} (h:hit ns (ns.length-1-j) p=true) (hn:p.2≠[]) :
  (cnts L ns j)[ns.length-1-j+p.2.length]?=some (((X6 L ns j)[p.2.length-1]?).getD 0):=by
 have h1:=Wl h hn;have h2:=Gc.mpr hn;have h3:=Up L ns j;unfold cnts;rw [Gu (by rw [Gr]; lia),Gr];have e:ns.length-1-j+p.2.length-(ns.length-j)=p.2.length-1:=by lia
 rw [e,Jb (by lia)];rfl
theorem Zbn {j:Nat} (hj:j<ns.length):(cnts L ns j).set (ns.length-1-j) (N7 L ns (X6 L ns j) j)=cnts L ns (j+1):=by
 unfold cnts;have e:ns.length-j=(ns.length-(j+1))+1:=by lia
 rw [e,List.replicate_succ',Jt,B6 _ _ (by rw [Gr]; lia),Gr];have e2:ns.length-1-j-(ns.length-(j+1))=0:=by lia
 rw [e2];rfl
theorem Zbp :(cnts L ns ns.length)[0]?=some (N9 L ns):=by
 unfold cnts N9;rw [Nat.sub_self,List.replicate_zero,List.nil_append];have:=Up L ns ns.length;rw [Jb (by lia)];rfl
theorem Zbl {ns:List τ} {m:Nat} (h:pl<=ns.length):cut ns (some (pl:Int)) (some ((pl:Int)+(m:Int)))=(ns.drop pl).take m:=by
 unfold cut;rw [<- Int.natCast_add,HT.sIx_nat,HT.sIx_nat,Bt h];refine List.take_eq_take_iff.mpr ?_;rw [Gh];lia
theorem Ny {d:D} (h:lsOf M d=some xs):tyOf M d=some .list/\Z3 M d=some xs/\Sc M d=some xs:=by
 cases d with
 | lst ys=>cases h;exists rfl,rfl,rfl
 | cell k =>
  simp only [lsOf] at h;cases hm:M[k]? with
  | none=>rw [hm] at h; cases h
  | some m =>
   rw [hm] at h;cases m with
   | lst es=>cases h; exact ⟨by simp only [tyOf,hm],by simp only [Z3,hm],by simp only [Sc,Z3,hm]⟩
   | _=>cases h
 | _=>cases h
def Zgl [DecidableEq κ] {k:κ} {v:D} {kvs:List (κ×D)} (h:∀ kv∈kvs,kv.1≠k):putD kvs k v=kvs++[(k,v)]:=by
 unfold putD;rw [De];intro z;obtain ⟨kv,hk,e⟩:=List.any_eq_true.mp z;exact h kv hk (of_decide_eq_true e)
theorem Znp {d e:D} {ys:List D} {K:K3} (h1:lsOf M d=some xs) (h2:lsOf M e=some ys) (hl:xs.length+ys.length<=sizeLine) (hk:K (.lst (xs++ys)) M):add3 d e M K:=by
 cases d with
 | lst zs=>exact ⟨_,_,h1,h2,hl,hk⟩
 | cell k=>exact ⟨_,_,h1,h2,hl,hk⟩
 | _=>cases h1
theorem Zmi {d:D} {K:K3} (h:lsOf M d=some xs) (hk:K (.int xs.length) M):len3 [d] M K:=by
 cases d with
 | lst zs=>exact ⟨_,(Ny h).2.2,hk⟩
 | cell k=>exact ⟨_,(Ny h).2.2,hk⟩
 | _=>cases h
theorem Sr:∀ ns:List Int,Ss (ns.map D.int)=some (wk ns)
 | []=>rfl
 | x::r=>by
  show (match Zb2 (D.int x),Ss (r.map D.int) with | some k,some ks=>some (k::ks) | _,_=>none)=_;rw [Sr r];rfl
end L3
namespace L2
open PySem
def Zaq:Sp:=fun vs H Q _=>∃ (p a sa:Addr) (m lg:Int) (bs:List Int),vs=[.ref p,.ref sa,.int m,.int lg]/\HandAt H p a/\H sa=some (.lst (bs.map V.int))/\sa≠p/\bs.Nodup/\bs≠[]/\bs.length<=24/\0<=m/\m<=6/\1<=lg/\lg<=4 /\
 ∀ (l:Addr) (ws:List (List Int)) (H':Hp),H l=none->l≠p->Zaf H' l ws->WOk ws->(∀ w∈ws,∀ b∈w,b∈bs)->(ws.length:Int)<=bs.length+m*bs.length->HandAt H' p a->Grow p H H'->Q (.ref l) H'
end L2
namespace L3
open PySem L2
section
def Ze9:Sp3:=fun ds M K=>∃ (k:Nat) (bs:List Int) (m lg:Int),ds=[.cell k,.lst (bs.map .int),.int m,.int lg]/\M[k]?=some .hand/\(bs.Nodup/\bs≠[]/\bs.length<=24/\0<=m/\m<=6/\1<=lg/\lg<=4)/\∀ ws:List (List Int),WOk ws->(∀ w∈ws,∀ b∈w,b∈bs)->(ws.length:Int)<=bs.length+m*bs.length->K (.lst (ws.map wD)) M
theorem Zhh {E:XK} (h:spOf C Ze9 vs H Q E):Zaq vs H Q E:=by
 obtain ⟨Z,I,α,M,ds,K,R,r,⟨k,bs,m,lg,rfl,hm,⟨h1,h2,h3,h4,h5,h6,h7⟩,h⟩,kk⟩:=h;cases r with
 | cons r1 r2 =>
  cases r2 with
  | cons r2 r3 =>
   cases r3 with
   | cons r3 r4 =>
    cases r4 with
    | cons r4 r5 =>
     cases r5;cases r3;cases r4;cases r1 with
     | @cell p _ ha =>
      obtain ⟨c,cs,hh,ic,hc⟩:=R.hand ha hm;obtain ⟨sa,rfl,es,is⟩:=ints_at R r2;exists p,c,sa,m,lg,bs,rfl,hh,es,Zjr R ha hm is,h1,h2,h3,h4,h5,h6,h7,fun l ws H' nl _ wa wo wb wl hh' g=>Zb4 R ha hm hh' ic hc g nl wa kk (h ws wo wb wl)
end
def Tw {N:Mem} {t:Nat} (h:N[t]?=some (.lst xs)):lsOf N (.cell t)=some xs:=by simp only [lsOf,h]
section
def Zl1 (K:W.Frag):R2:=fun x y H Q=>Zl0 K x y H Q\/Zgj K x y H Q
def Zit (h:X.K=K'):OpR X (binaryOp .Add) (Zl1 K'):=by
 subst h;exact OpR.or Zjm Nv
def Znq:R3:=fun d e M K=>∃ xs ys,d=.tup xs/\e=.tup ys/\xs.length+ys.length<=sizeLine/\K (.tup (xs++ys)) M
def Zlt:SimR C Z (Zl1 C.k) Znq:=fun I α H M x y d e K Q R r1 r2 h k=>by
 obtain ⟨xs,ys,rfl,rfl,hl,h⟩:=h;obtain ⟨a,vs,rfl,ea,ia,ra⟩:=Vd R r1 rfl;obtain ⟨b,ws,rfl,eb,ib,rb⟩:=Vd R r2 rfl
 by_cases hx:xs=[]
 ·subst hx;cases ra;exact .inl ⟨a,b,ws,rfl,rfl,SqT.of ea,SqT.of eb,k _ _ I α H M (.refl _) (Jd _) R r2 h⟩
 ·refine .inr ⟨a,b,vs,ws,rfl,rfl,SqT.of ea,SqT.of eb,fun z=>?_,by rw [ra.length,rb.length]; exact hl,fun z=>?_,fun _ p hp=>?_⟩
  ·subst z;cases ra;exact hx rfl
  ·subst z;cases rb;rw [Ga] at h;exact k _ _ I α H M (.refl _) (Jd _) R r1 h
  ·obtain ⟨R2,s2,e2⟩:=R.new (o:=.tup (vs++ws)) hp;exact k _ _ _ α _ M s2 (Jd _) R2 (.tup e2 ((ra.app rb).mono s2 (Jd _))) h
end
theorem Zmh {d:D} {c:Nat} {m:MO} (h:lsOf M d=some xs) (ne:d≠.cell c):lsOf (M.set c m) d=some xs:=by
 cases d with
 | lst ys=>exact h
 | cell j =>
  have:j≠c:=fun e=>ne (by rw [e]);simp only [lsOf] at h ⊢;rw [Gx (Ne.symm this)];exact h
 | _=>cases h
def Zgc {n:Nat} {ds:List PyData} (h:∀ d∈ds,Shp n d):PyData.canLayAll0 ds=true:=(Rn h).1
section
variable {ta:TA} {ua:TA3}
def zIt (d e:D) (xs ys:List D):It3:=⟨min xs.length ys.length,fun i v=>∃ x y,xs[i]?=some x/\ys[i]?=some y/\v=.tup [x,y],fun M=>Z3 M d=some xs/\Z3 M e=some ys⟩
def uIZ (ua:TA3):TI3:=fun ρ M K=>ua ρ M fun ds M1=>∃ d e xs ys,ds=[d,e]/\Z3 M1 d=some xs/\Z3 M1 e=some ys/\K (zIt d e xs ys) M1
theorem s_iz (ha:SimA C Z ta ua):SimI C Z (iZip C.k ta) (uIZ ua):=fun I α σ H ρ M K R' R RE h k =>
 ha I α σ H ρ M _ _ R RE h fun vs ds I1 α1 H1 M1 s1 p1 R1 r1 h1=>by
  obtain ⟨d,e,xs,ys,rfl,ed,ee,h1⟩:=h1;cases r1 with
  | cons r1 b =>
   cases b with
   | cons r2 b =>
    cases b;obtain ⟨a,vs,rfl,ea,ra⟩:=Y3 R1 r1 ed;obtain ⟨a2,ws,rfl,ea2,ra2⟩:=Y3 R1 r2 ee;exists a,a2,rfl,⟨vs,ea⟩,⟨ws,ea2⟩,k _ _ I1 α1 H1 M1 s1 p1 R1 (fun I2 α2 H2 M2 s2 p2 R2 ok=>?_) h1;obtain ⟨b,vs',eb,eq,rw'⟩:=Y3 R2 (r1.mono s2 p2) ok.1;obtain ⟨b2,ws',eb2,eq2,rw2⟩:=Y3 R2 (r2.mono s2 p2) ok.2;cases eb;cases eb2;have l1:=rw'.length;have l2:=rw2.length;exists fun i hi=>?_,⟨vs',ws',eq,eq2,by show _<=min _ _\/_<=min _ _; lia⟩;have hi:i<min xs.length ys.length:=hi;have hx:i<xs.length:=by lia
    have hy:i<ys.length:=by lia
    have hi1:i<vs'.length:=by lia
    have hi2:i<ws'.length:=by lia
    exists ⟨vs',ws',_,_,eq,eq2,Jb hi1,Jb hi2⟩,fun v H3 y=>?_;obtain ⟨t,x,y,rfl,ht,rfl,q1,q2⟩:=y;have z1:=q1 _ eq;have z2:=q2 _ eq2;rw [Jb hi1] at z1;rw [Jb hi2] at z2;cases z1;cases z2;obtain ⟨R3,s3,e3⟩:=R2.new (o:=.tup [vs'[i],ws'[i]]) ht;exists _,.tup [xs[i],ys[i]],s3,R3,.tup e3 (.cons ((rw'.at hi1 hx).mono s3 (Jd _)) (.one ((rw2.at hi2 hy).mono s3 (Jd _)))),_,_,Jb hx,Jb hy,rfl
end
theorem Qi {α:Type} {l:List α} {f:α->List β} {b:Nat} (h:∀ x∈l,(f x).length<=b):(l.flatMap f).length<=l.length*b:=by
 induction l with
 | nil=>simp
 | cons a r ih =>
  have:=ih fun x hx=>h x (Jj _ hx);have:=h a Jl;rw [List.flatMap_cons,Jc,Jq,Nat.succ_mul];lia
section
def Zhl (h:X.K=K') (hu:X.A.units+64<cLine):OpR X (compareOp .In) (L2.rInD K'):=by subst h; exact Zmb hu
def inD3:R3:=fun d e M K=>∃ (xs:List D) (ps:List PyData) (p:PyData),Z3 M e=some xs/\PyRs M xs ps/\PyR M d p/\PyData.canLayAll0 ps=true/\p.canLay0=true/\p.depth<=60/\K (.bl (ps.any fun z=>PyData.eqv z p)) M
def Zlq:SimR C Z (L2.rInD C.k) inD3:=fun I α H M x y d e K Q R r1 r2 h k=>by
 obtain ⟨xs,ps,p,el,hx,hd,c1,c2,dd,h⟩:=h;obtain ⟨a,vs,rfl,ea,ra⟩:=Y3 R r2 el;exists a,vs,ps,p,rfl,ea,pys_dv R hx ra,Rr R hd r1,c1,c2,dd,k _ _ I α H M (.refl _) (Jd _) R (.bl _) h
end
end L3
namespace L2
open PySem PySem.W PyProof.Rows HT PySem.Calls
section
theorem Zbh [DecidableEq τ] (N:L3.Enc τ) {x:V} {v:Value} {a b:τ} (I:Inv X pq σ H s) (hu:A.units+100<cLine) (h1:DV X.K H x (N.py a)) (h2:DV X.K H y (N.py b)) (r1:RelV x u) (r2:RelV y v):SeqAt.EqAt A s u v (decide (a=b)):=by
 obtain ⟨as,ra⟩:=Xp I h1 r1;obtain ⟨bs,rb⟩:=Xp I h2 r2;have:=SeqAt.eqAt_reads _ _ A s _ _ as bs ra rb (N.shp a).1 (N.shp b).1 (by have:=N.hn; have:=(N.shp a).2; have:=Nat.min_le_left (N.py a).depth (N.py b).depth; lia);rwa [N.eq] at this
theorem Zix {a b:Addr} (I:Inv X pq σ H s) (hu:A.units+100<cLine) (h1:SqT X.K H a (ns.map V.int)) (h2:SqT X.K H b (ms.map V.int)):SeqAt.EqAt A s (.ref a) (.ref b) (decide (ns=ms))/\LtAt A s (.ref a) (.ref b) (HT.lexLt ns ms):=by
 exists Zbh (L3.Xo L3.Yc) I hu (.tup h1 (V5 ns)) (.tup h2 (V5 ms)) rfl rfl,?_;obtain ⟨its,rv,⟨o,e,hc,n,hd⟩,_⟩:=I.tuple h1;obtain ⟨its2,rv2,⟨o2,e2,hc2,n2,hd2⟩,_⟩:=I.tuple h2;have i1:=We rv;have i2:=We rv2;have:=LtAt.tup (A:=A) (z:=fun j=>(ns[j]? == ms[j]?,decide ((ns[j]?).getD 0<(ms[j]?).getD 0))) (by lia) e hc hd e2 hc2 hd2 fun j g1 g2=>Qb i1 i2 j g1 g2;rwa [(ints_at i1).1,(ints_at i2).1,U1] at this
theorem Tj {a b:Addr} (I:Inv X pq σ H s) (hu:A.units+100<cLine) (h1:SqL X.K H a (ns.map V.int)) (h2:SqL X.K H b (ms.map V.int)):SeqAt.EqAt A s (.ref a) (.ref b) (decide (ns=ms))/\LtAt A s (.ref a) (.ref b) (HT.lexLt ns ms):=by
 refine ⟨Zbh (L3.Ty L3.Yc) I hu (.lst h1 (V5 ns)) (.lst h2 (V5 ms)) rfl rfl,?_⟩;obtain ⟨its,rv,pl,_⟩:=I.list h1;obtain ⟨its2,rv2,pl2,_⟩:=I.list h2;have i1:=We rv;have i2:=We rv2;have:=LtAt.lst (A:=A) (z:=fun j=>(ns[j]? == ms[j]?,decide ((ns[j]?).getD 0<(ms[j]?).getD 0))) pl.isList pl2.isList (by lia) fun j g1 g2=>by
  simp only [List.getElem_toArray];exact Qb i1 i2 j (by simpa using g1) (by simpa using g2)
 rwa [Jg,Jg,(ints_at i1).1,(ints_at i2).1,U1] at this
theorem Zi3 {v':V} {x y:St4} (h1:StAt X.K H v x) (h2:StAt X.K H v' y):LtsV X H v v' (ltS x y):=by
 intro pq σ s A u w I hu ru rw';obtain ⟨a,b,c,d,rfl,ha,hb,hc,hd⟩:=h1;obtain ⟨a',b',c',d',rfl,ha',hb',hc',hd'⟩:=h2;cases ru;cases rw';obtain ⟨its,rv,⟨o,e,cl,n,dt⟩,_⟩:=I.tuple ha;obtain ⟨its2,rv2,⟨o2,e2,cl2,n2,dt2⟩,_⟩:=I.tuple ha';have u1:A.in1.units+100<cLine:=by show A.units+1+100<cLine; lia
 obtain ⟨q1,q2⟩:=Zix (A:=A.in1) I u1 hb hb';obtain ⟨q3,q4⟩:=Tj (A:=A.in1) I u1 hc hc';obtain ⟨q5,q6⟩:=Tj (A:=A.in1) I u1 hd hd';cases rv with
 | @cons _ v1 _ _ r1 rv =>
  cases rv with
  | @cons _ v2 _ _ r2 rv =>
   cases rv with
   | @cons _ v3 _ _ r3 rv =>
    cases rv with
    | @cons _ v4 _ _ r4 rv =>
     cases rv;cases rv2 with
     | @cons _ w1 _ _ t1 rv2 =>
      cases rv2 with
      | @cons _ w2 _ _ t2 rv2 =>
       cases rv2 with
       | @cons _ w3 _ _ t3 rv2 =>
        cases rv2 with
        | @cons _ w4 _ _ t4 rv2 =>
         cases rv2;obtain ⟨k1,rfl⟩:=r1;obtain ⟨k2,rfl⟩:=t1;obtain rfl:v2=.ref b:=r2;obtain rfl:w2=.ref b':=t2;obtain rfl:v3=.ref c:=r3;obtain rfl:w3=.ref c':=t3;obtain rfl:v4=.ref d:=r4;obtain rfl:w4=.ref d':=t4;have:=LtAt.tup (A:=A) (z:=fun j=>match j with | 0=>(x.1 == y.1,decide (x.1<y.1)) | 1=>(decide (x.2.1=y.2.1),HT.lexLt x.2.1 y.2.1) | 2=>(decide (x.2.2.1=y.2.2.1),HT.lexLt x.2.2.1 y.2.2.1) | _=>(decide (x.2.2.2=y.2.2.2),HT.lexLt x.2.2.2 y.2.2.2)) (by lia) e cl dt e2 cl2 dt2 fun j g1 g2=>by
          match j,g1 with
          | 0,_=>exact ⟨SeqAt.EqAt.int_int _ _ _ _,.int _ _ _ _⟩
          | 1,_=>exact ⟨q1,q2⟩
          | 2,_=>exact ⟨q3,q4⟩
          | 3,_=>exact ⟨q5,q6⟩
          | j+4,h=>exact absurd h (by simp)
         have er:∀ z:Nat->Bool×Bool,lexN z 4 4=if (z 0).1 then (if (z 1).1 then (if (z 2).1 then (if (z 3).1 then false else (z 3).2) else (z 2).2) else (z 1).2) else (z 0).2:=fun z=>rfl;rw [show lexN _ [_,_,_,_].length [_,_,_,_].length=lexN _ 4 4 from rfl,er] at this;simp only [decide_eq_true_eq,beq_iff_eq] at this;unfold ltS
         by_cases e4:x.2.2.2=y.2.2.2
         ·rw [Df e4] at this;rw [e4,Vo];exact this
         ·rw [De e4] at this;exact this
def Zly (K:PySem.W.Frag):List V->Hp->VK->Prop:=fun xs H Q=>∃ (a:Addr) (vs:List V) (zs:List St4),xs=[.ref a]/\SqL K H a vs/\0<vs.length/\vs.length=zs.length/\(∀ (i:Nat) (h1:i<vs.length) (h2:i<zs.length),StAt K H vs[i] zs[i]) /\
 ∀ k (h:k<vs.length),k=Xj (fun i j=>ltS (zs.getD i (0,[],[],[])) (zs.getD j (0,[],[],[]))) (zs.length-1)->Q vs[k] H
theorem Zfv {K:PySem.W.Frag} (hK:X.K=K) (hc:X.calm=true) (hu:X.A.units+200<cLine):Xv X (.builtin "min") (Zly K):=by
 intro pq s2 σ H2 xs us Q I2 r h;subst hK;obtain ⟨a,vs,zs,rfl,hl,hn,hz,hs,q⟩:=h;refine Zfu hc hu pq s2 σ H2 _ us Q I2 r ⟨a,vs,_,rfl,hl,hn,fun i j h1 h2=>?_,fun hm=>q _ hm (by rw [hz])⟩;show LtsV X H2 vs[i] vs[j] (ltS (zs.getD i (0,[],[],[])) (zs.getD j (0,[],[],[])));rw [J8,J8,Jb (by lia),Jb (by lia)];exact Zi3 (hs i h1 (by lia)) (hs j h2 (by lia))
end
end L2
namespace L3
open PySem L2
section
def Um (h:X.K=K') (hu:X.A.units+64<cLine):OpR X (compareOp .NotIn) (L2.Nq K'):=by subst h; exact Zea hu
def Zed:R3:=fun d e M K=>∃ (xs:List D) (ps:List PyData) (p:PyData),Z3 M e=some xs/\PyRs M xs ps/\PyR M d p/\PyData.canLayAll0 ps=true/\p.canLay0=true/\p.depth<=60/\K (.bl (!ps.any fun z=>PyData.eqv z p)) M
def T5:SimR C Z (L2.Nq C.k) Zed:=fun I α H M x y d e K Q R r1 r2 h k=>by
 obtain ⟨xs,ps,p,el,hx,hd,c1,c2,dd,h⟩:=h;obtain ⟨a,vs,rfl,ea,ra⟩:=Y3 R r2 el;exists a,vs,ps,p,rfl,ea,pys_dv R hx ra,Rr R hd r1,c1,c2,dd,k _ _ I α H M (.refl _) (Jd _) R (.bl _) h
def Zf2 [DecidableEq τ] (N:Enc τ) (xs:List τ) (t:τ):((xs.map N.py).any fun z=>PyData.eqv z (N.py t))=decide (t∈xs):=by
 rw [List.any_map];refine Fg.mpr ⟨fun z=>Dg ?_,fun hx=>?_⟩
 ·obtain ⟨x,hx,e⟩:=List.any_eq_true.mp z;have e:PyData.eqv (N.py x) (N.py t)=true:=e;rw [N.eq,decide_eq_true_iff] at e;exact e ▸ hx
 ·refine List.any_eq_true.mpr ⟨t,of_decide_eq_true hx,?_⟩;show PyData.eqv (N.py t) (N.py t)=true;rw [N.eq];exact Dg rfl
def Zbd [DecidableEq τ] (N:Enc τ) (xs:List τ):PyData.canLayAll0 (xs.map N.py)=true:=Zgc (n:=N.n) fun d hd=>by
 obtain ⟨x,_,rfl⟩:=Jp.mp hd;exact N.shp x
def Zh7 [DecidableEq τ] (N:Enc τ) {xs:List τ} {t:τ} {d e:D} {K:K3} (h1:PyR M d (N.py t)) (h2:Z3 M e=some (xs.map N.e)) (h:∀ b:Bool,(b=true↔t∈xs)->K (.bl b) M):inD3 d e M K :=
 ⟨_,xs.map N.py,N.py t,h2,W5 (N.ok M) xs,h1,Zbd N xs,(N.shp t).1,Jy (N.shp t).2 N.hn,h _ (by rw [Zf2,decide_eq_true_iff])⟩
def Ux [DecidableEq τ] (N:Enc τ) {xs:List τ} {t:τ} {d e:D} {K:K3} (h1:PyR M d (N.py t)) (h2:Z3 M e=some (xs.map N.e)) (h:∀ b:Bool,(b=true↔t∈xs)->K (.bl (!b)) M):Zed d e M K :=
 ⟨_,xs.map N.py,N.py t,h2,W5 (N.ok M) xs,h1,Zbd N xs,(N.shp t).1,Jy (N.shp t).2 N.hn,h _ (by rw [Zf2,decide_eq_true_iff])⟩
theorem Q6 :∀ {kvs:List (List Key×V)} (zs:List (List Int×D)),RepT C I α kvs (zs.map fun z=>(wk z.1,z.2))->kvs.map (·.1)=(zs.map (·.1)).map wk
 | _,[],r=>by cases r; rfl
 | _,z::zs,r=>by
  cases r with
  | cons r1 r2=>rw [Jr,Q6 zs r2]; rfl
end
def rb (a b:List Int):Option (List Int):=if a.take (min a.length b.length)=b.take (min a.length b.length) then some (a.drop (min a.length b.length)++b.drop (min a.length b.length)) else none
theorem Te {a b:List Int} (h:rb a b=some r):a=b++r\/b=a++r:=by
 unfold rb at h
 split at h
 ·rename_i e
  have h:=Di h
  by_cases hl:a.length<=b.length
  ·rw [Bt hl] at h e;rw [J9] at e;rw [Fc,List.nil_append] at h
   right
   rw [<- h];have:=Gv a.length b;rw [<- e] at this;exact this.symm
  ·rw [Nat.min_eq_right (by lia)] at h e;rw [J9] at e;rw [Fc,Ga] at h
   left
   rw [<- h];have:=Gv b.length a;rw [e] at this;exact this.symm
 ·cases h
inductive Ov (ws:List (List Int)):List Int->Prop where
 | first {i j:Nat} {a b r:List Int}:i<j->ws[i]?=some a->ws[j]?=some b->rb b a=some r->Ov ws r
 | more {r w q:List Int}:Ov ws r->r≠[]->w∈ws->rb r w=some q->Ov ws q
def fr1 (ws:List (List Int)) (j:Nat):List (List Int):=(ws.take j).filterMap (rb (ws[j]?.getD []))
def frs (ws:List (List Int)):Nat->List (List Int)
 | 0=>[]
 | j+1=>frs ws j++fr1 ws j
theorem Zeg :∀ {n:Nat},n<=ws.length->r∈frs ws n->Ov ws r
 | 0,_,h=>nomatch h
 | n+1,hn,h=>by
  rcases Jn.mp h with h | h
  ·exact Zeg (by lia) h
  ·obtain ⟨a,ha,e⟩:=Gp.mp h;obtain ⟨i,hi,rfl⟩:=Gd ha;have hi':i<n:=by rw [Jz] at hi; lia
   rw [Jb (by lia:n<ws.length),Bw] at e;rw [Fl] at e;exact .first hi' (Jb (by lia)) (Jb (by lia)) e
theorem Zez {i j:Nat} {a b:List Int} (hij:i<j) (h1:ws[i]?=some a) (h2:ws[j]?=some b) (e:rb b a=some r):∀ {n:Nat},j<n->r∈frs ws n
 | 0,h=>absurd h (G2 _)
 | n+1,h=>by
  by_cases hj:j<n
  ·exact Jw _ (Zez hij h1 h2 e hj)
  ·have:j=n:=by lia
   subst this;refine Ji _ (Gp.mpr ⟨a,?_,by rw [h2]; exact e⟩);exact Gb (i:=i) (by rw [List.getElem?_take_of_lt hij]; exact h1)
theorem N5 (hw:ws.length<=40):∀ {n:Nat},(frs ws n).length<=40*n
 | 0=>Jf _
 | n+1=>by
  rw [frs,Jc];have h1:=N5 hw (n:=n);have h2:(fr1 ws n).length<=40:=Jy (Be _ _) (by rw [Jz]; lia);lia
structure OvSt (ws zs ps:List (List Int)):Prop where
 nd:zs.Nodup
 z:∀ z∈zs,Ov ws z
 p:∀ p∈ps,Ov ws p
 f:∀ r∈frs ws ws.length,r∈zs\/r∈ps
 c:∀ z∈zs,z≠[]->∀ w∈ws,∀ q,rb z w=some q->q∈zs\/q∈ps
def OvSt.start :OvSt ws [] (frs ws ws.length):=⟨G6,(fun _ h=>nomatch h),fun p h=>Zeg (Jf _) h,fun r h=>.inr h,fun _ h=>nomatch h⟩
def OvSt.old {ps:List (List Int)} (h:OvSt ws zs (ps++[r])) (hr:r∈zs):OvSt ws zs ps:=by
 have go:∀ q,q∈zs\/q∈ps++[r]->q∈zs\/q∈ps:=fun q hq=>by
  rcases hq with y | y
  ·exact .inl y
  ·rcases Jn.mp y with y | y
   ·exact .inr y
   ·rw [Je.mp y]; exact .inl hr
 exists h.nd,h.z,fun p hp=>h.p p (Jw _ hp),fun q hq=>go q (h.f q hq),fun z hz ne w hw q e=>go q (h.c z hz ne w hw q e)
def OvSt.new {ps ms:List (List Int)} (h:OvSt ws zs (ps++[r])) (hr:r∉zs) (hm:r≠[]->ms=ws.filterMap (rb r)) (hm0:r=[]->ms=[]):OvSt ws (zs++[r]) (ps++ms):=by
 have ovr:Ov ws r:=h.p r (Ji _ (Je.mpr rfl));have go:∀ q,q∈zs\/q∈ps++[r]->q∈zs++[r]\/q∈ps++ms:=fun q hq=>by
  rcases hq with y | y
  ·exact .inl (Jw _ y)
  ·rcases Jn.mp y with y | y
   ·exact .inr (Jw _ y)
   ·exact .inl (Ji _ y)
 exists Ba.mpr ⟨h.nd,by simp,fun a ha b hb e=>?_⟩,fun z hz=>?_,fun p hp=>?_,fun q hq=>go q (h.f q hq),fun z hz ne w hw q e=>?_
 ·rw [e,Je.mp hb] at ha; exact hr ha
 ·rcases Jn.mp hz with y | y
  ·exact h.z z y
  ·rw [Je.mp y]; exact ovr
 ·rcases Jn.mp hp with y | y
  ·exact h.p p (Jw _ y)
  ·by_cases e:r=[]
   ·rw [hm0 e] at y; cases y
   ·rw [hm e] at y;obtain ⟨w,hw,ew⟩:=Gp.mp y;exact .more ovr e hw ew
 ·rcases Jn.mp hz with y | y
  ·exact go q (h.c z y ne w hw q e)
  ·have ez:=Je.mp y;rw [ez] at ne e
   right
   rw [hm ne];exact Ji _ (Gp.mpr ⟨w,hw,e⟩)
theorem OvSt.all (h:OvSt ws zs []) (o:Ov ws r):r∈zs:=by
 induction o with
 | first hij h1 h2 e =>
  have hj:=(Jh.mp h2).1;exact (h.f _ (Zez hij h1 h2 e hj)).elim id fun z=>nomatch z
 | more _ ne hw e ih=>exact (h.c _ ih ne _ hw _ e).elim id fun z=>nomatch z
def opW:Option (List Int)->D
 | none=>.non
 | some r=>wD r
def Zfd:Sp3:=fun ds M K=>∃ a b:List Int,ds=[wD a,wD b]/\(a.length<=1000/\b.length<=1000)/\K (opW (rb a b)) M
def Zfc:Sp3:=fun ds M K=>∃ (a:List Int) (ws:List (List Int)),ds=[wD a,.lst (ws.map wD)]/\(ws.length<=40/\a.length<=4/\∀ w∈ws,w.length<=4)/\K (.lst ((ws.filterMap (rb a)).map wD)) M
def Zfh:Sp3:=fun ds M K=>∃ (ws:List (List Int)),ds=[.lst (ws.map wD)]/\(ws.length<=40/\∀ w∈ws,w.length<=4)/\K (.cell M.length) (M++[.lst ((frs ws ws.length).map wD)])
theorem Zd7 (h:∀ w∈ws,w.length<=4) (o:Ov ws r):r.length<=4:=by
 have cut:∀ {a b r:List Int},a.length<=4->b.length<=4->rb a b=some r->r.length<=4:=fun ha hb e=>by
  rcases Te e with z | z
  ·rw [z,Jc] at ha; lia
  ·rw [z,Jc] at hb; lia
 induction o with
 | first _ h1 h2 e=>exact cut (h _ (Gb h2)) (h _ (Gb h1)) e
 | more _ _ hw e ih=>exact cut ih (h _ hw) e
theorem Zmg {d:D} {X:Mem} (h:Z3 M d=some xs):Z3 (M++X) d=some xs:=by
 cases d with
 | lst ys=>exact h
 | frz ys=>exact h
 | cell k =>
  simp only [Z3] at h ⊢
  by_cases hk:k<M.length
  ·rw [Jx hk]; exact h
  ·rw [Fk (Nat.le_of_not_lt hk)] at h;exact nomatch h
 | _=>exact nomatch h
def seen (zs:List (List Int)):List (List Key×D):=zs.map fun z=>(wk z,D.bl true)
theorem Zax :(valD (seen zs) (wk r)).isSome=decide (r∈zs):=by
 unfold valD seen
 induction zs with
 | nil=>rfl
 | cons z zs ih =>
  rw [Jr,Bs]
  by_cases e:z=r
  ·rw [show decide (((wk z,D.bl true):List Key×D).1=wk r)=true from Dg (by rw [e])];rw [Dg (by rw [e]; exact Jl)];rfl
  ·rw [show decide (((wk z,D.bl true):List Key×D).1=wk r)=false from Dh fun h=>e (Zck h)];have:decide (r∈z::zs)=decide (r∈zs):=decide_eq_decide.mpr ⟨fun h=>(Ju.mp h).elim (fun h=>absurd h.symm e) id,Jj _⟩;rw [this];exact ih
def Zay (h:r∉zs):putD (seen zs) (wk r) (D.bl true)=seen (zs++[r]):=by
 rw [Zgl fun kv hkv e=>by obtain ⟨z,hz,rfl⟩:=Jp.mp hkv; exact h (Zck e ▸ hz)];unfold seen;rw [Jm];rfl
section
variable {x y z:MO}
def two0:(M++[x,y])[M.length]?=some x:=by simp
theorem two1:(M++[x,y])[M.length+1]?=some y:=by rw [Gu (by lia)]; simp
def Zoa:(M++[x,y]).set M.length z=M++[z,y]:=by rw [B6 _ _ (Jf _),Nat.sub_self]; rfl
theorem Zli:(M++[x,y]).set (M.length+1) z=M++[x,z]:=by rw [B6 _ _ (by lia),Nat.add_sub_cancel_left]; rfl
end
def cAt (L:List Pr) (ns:List Int) (q:Nat):Int:=((X6 L ns (ns.length-q))[0]?).getD 0
theorem Zal {j i:Nat}:∀ k,(X6 L ns (j+k))[k+i]?=(X6 L ns j)[i]?
 | 0=>by rw [Nat.zero_add]; rfl
 | k+1=>by
  rw [show j+(k+1)=(j+k)+1 from rfl,X6,show k+1+i=(k+i)+1 by lia,List.getElem?_cons_succ];exact Zal k
def Qp :cAt L ns ns.length=1:=by unfold cAt; rw [Nat.sub_self]; rfl
theorem Qo {q:Nat} (h:q<ns.length) (hW:∀ p∈L,p.2≠[]):cAt L ns q=((L.filter (hit ns q)).map fun p=>cAt L ns (q+p.2.length)).sum:=by
 have e:ns.length-q=(ns.length-1-q)+1:=by lia
 show ((X6 L ns (ns.length-q))[0]?).getD 0=_;rw [e,X6,Fa,Bw,N7,show ns.length-1-(ns.length-1-q)=q by lia]
 congr 1
 refine List.map_congr_left fun p hp=>?_;obtain ⟨h1,h2⟩:=Gj.mp hp;have l1:=Wl h2 (hW p h1);have l2:=Gc.mpr (hW p h1);have:=Zal (L:=L) (ns:=ns) (j:=ns.length-(q+p.2.length)) (i:=0) (p.2.length-1);rw [Nat.add_zero,show ns.length-(q+p.2.length)+(p.2.length-1)=ns.length-1-q by lia] at this;rw [this];rfl
inductive Rdg (L:List Pr):List Int->List Int->Prop where
 | nil:Rdg L [] []
 | cons {p:Pr} {r t:List Int}:p∈L->Rdg L r t->Rdg L (p.2++r) (p.1::t)
def UD (L:List Pr):Prop:=∀ r t t',Rdg L r t->Rdg L r t'->t=t'
theorem Rdg.app {a s b t:List Int} (h:Rdg L a s) (k:Rdg L b t):Rdg L (a++b) (s++t):=by
 induction h with
 | nil=>exact k
 | cons hp _ ih=>rw [Jt]; exact .cons hp ih
def Zbf {q:Nat} {p:Pr} (h:hit ns q p=true):ns.drop q=p.2++ns.drop (q+p.2.length):=by
 have e:=of_decide_eq_true h;have:=Gv p.2.length (ns.drop q);rw [e,List.drop_drop] at this;exact this.symm
def Zbi {q:Nat} {p:Pr} (h:ns.drop q=p.2++r):hit ns q p=true/\r=ns.drop (q+p.2.length):=by
 exists Dg ?_,?_
 ·rw [h,List.take_left']; rfl
 ·rw [<- List.drop_drop,h,List.drop_left']; rfl
theorem Rl {f:τ->Int}:∀ {l:List τ},(∀ x∈l,0<=f x)->0<=(l.map f).sum/\(l.map f).sum=((l.filter fun x=>decide (0<f x)).map f).sum/\((l.filter fun x=>decide (0<f x)).length:Int)<=(l.map f).sum
 | [],_=>⟨Bu _,rfl,Bu _⟩
 | x::l,h=>by
  obtain ⟨a,b,c⟩:=Rl (l:=l) fun y hy=>h y (Jj _ hy);have hx:=h x Jl;rw [Jr,List.sum_cons,B4]
  by_cases e:0<f x
  ·rw [Df (Dg e),Jr,List.sum_cons,Jq];exact ⟨by lia,by lia,by lia⟩
  ·rw [De (by rw [decide_eq_true_iff]; exact e)];exact ⟨by lia,by lia,by lia⟩
theorem Zfx (hW:∀ p∈L,p.2≠[]):∀ (d q:Nat),q<=ns.length->ns.length-q<=d->0<=cAt L ns q:=by
 intro d
 induction d with
 | zero=>intro q h e; rw [show q=ns.length by lia,Qp]; decide
 | succ d ih =>
  intro q h e
  by_cases hq:q=ns.length
  ·rw [hq,Qp]; decide
  rw [Qo (by lia) hW];refine (Rl fun p hp=>?_).1;obtain ⟨h1,h2⟩:=Gj.mp hp;have l1:=Wl h2 (hW p h1);have l2:=Gc.mpr (hW p h1);exact ih _ l1 (by lia)
theorem Zhc (hW:∀ p∈L,p.2≠[]):∀ (d q:Nat),q<=ns.length->ns.length-q<=d->(1<=cAt L ns q↔∃ t,Rdg L (ns.drop q) t):=by
 intro d;have atEnd:1<=cAt L ns ns.length↔∃ t,Rdg L (ns.drop ns.length) t:=by
  rw [Qp,Fc];exact ⟨fun _=>⟨[],.nil⟩,fun _=>by decide⟩
 induction d with
 | zero=>intro q h e; rw [show q=ns.length by lia]; exact atEnd
 | succ d ih =>
  intro q h e
  by_cases hq:q=ns.length
  ·rw [hq]; exact atEnd
  have pos:∀ p∈L.filter (hit ns q),0<=cAt L ns (q+p.2.length):=fun p hp=>by
   obtain ⟨h1,h2⟩:=Gj.mp hp;exact Zfx hW _ _ (Wl h2 (hW p h1)) (Jf _)
  obtain ⟨a,b,c⟩:=Rl pos;rw [Qo (by lia) hW]
  constructor
  ·intro h1;rw [b] at h1;cases hF:(L.filter (hit ns q)).filter fun p=>decide (0<cAt L ns (q+p.2.length)) with
   | nil=>rw [hF,List.map_nil] at h1; exact absurd h1 nofun
   | cons p r =>
    have hp:p∈(L.filter (hit ns q)).filter fun p=>decide (0<cAt L ns (q+p.2.length)):=by rw [hF]; exact Jl
    obtain ⟨h2,h3⟩:=Gj.mp hp;obtain ⟨h4,h5⟩:=Gj.mp h2;have l1:=Wl h5 (hW p h4);have l2:=Gc.mpr (hW p h4);obtain ⟨t,ht⟩:=(ih _ l1 (by lia)).mp (of_decide_eq_true h3);exact ⟨p.1::t,by rw [Zbf h5]; exact .cons h4 ht⟩
  ·rintro ⟨t,ht⟩;generalize hr:ns.drop q=r at ht;cases ht with
   | nil=>have:=congrArg List.length hr; rw [Gh] at this; simp at this; lia
   | @cons p r t hp ht =>
    obtain ⟨h5,er⟩:=Zbi hr;have l1:=Wl h5 (hW p hp);have l2:=Gc.mpr (hW p hp);have h6:=(ih _ l1 (by lia)).mpr ⟨t,er ▸ ht⟩;have hm:p∈(L.filter (hit ns q)).filter fun p=>decide (0<cAt L ns (q+p.2.length)):=Gj.mpr ⟨Gj.mpr ⟨hp,h5⟩,Dg (by lia)⟩;have:=Ff hm;lia
abbrev Bg:=List Int×Nat
def osn1 (L:List Pr) (ns:List Int) (b:Bg):List Bg:=((L.filter (hit ns b.2)).filter fun p=>decide (0<cAt L ns (b.2+p.2.length))).map fun p=>(b.1++[p.1],b.2+p.2.length)
def osn (L:List Pr) (ns:List Int) (bs:List Bg):List Bg:=bs.flatMap (osn1 L ns)
theorem Zju {d:D} {K:K3} (h:Z3 M d=some xs) (k:K (.int xs.length) M):len3 [d] M K:=by
 cases d with
 | lst ys=>exact ⟨_,h,k⟩
 | frz ys=>exact ⟨_,h,k⟩
 | cell c=>exact ⟨_,h,k⟩
 | _=>exact nomatch h
def sw (x:St4) (p:Pr):Option St4:=(rb x.2.1 p.2).map fun r=>if x.2.1.length<p.2.length then (x.1+r.length,r,x.2.2.2++[p.1],x.2.2.1) else (x.1,r,x.2.2.1,x.2.2.2++[p.1])
def fss1 (L:List Pr) (j:Nat) (p:Pr):List St4:=(L.take j).filterMap (sw ((p.2.length:Int),p.2,[p.1],[]))
def fss (L:List Pr):Nat->List St4
 | 0=>[]
 | j+1=>fss L j++fss1 L j (L[j]?.getD (0,[]))
structure StOk (ws zs:List (List Int)) (x:St4):Prop where
 ov:Ov ws x.2.1
 no:x.2.1∉zs
 l1:x.2.2.1.length<=zs.length+1
 l2:x.2.2.2.length<=zs.length+1
theorem Rj {x y:St4} {p:Pr} (h:sw x p=some y):rb x.2.1 p.2=some y.2.1/\y.2.2.1.length<=max x.2.2.1.length (x.2.2.2.length+1)/\y.2.2.2.length<=max x.2.2.1.length (x.2.2.2.length+1):=by
 unfold sw at h;cases e:rb x.2.1 p.2 with
 | none=>rw [e] at h; cases h
 | some r =>
  rw [e] at h;have h:=Di h
  split at h
  ·rw [<- h];exists rfl,?_,?_
   ·show (x.2.2.2++[p.1]).length<=_;rw [Jc]; show _+1<=_; lia
   ·show x.2.2.1.length<=_;lia
  ·rw [<- h];exists rfl,?_,?_
   ·show x.2.2.1.length<=_;lia
   ·show (x.2.2.2++[p.1]).length<=_;rw [Jc]; show _+1<=_; lia
theorem Zey :∀ {n:Nat},n<=L.length->∀ x∈fss L n,StOk (L.map (·.2)) [] x
 | 0,_,_,h=>nomatch h
 | n+1,hn,x,h=>by
  rcases Jn.mp h with h | h
  ·exact Zey (by lia) x h
  ·obtain ⟨p,hp,e⟩:=Gp.mp h;obtain ⟨i,hi,rfl⟩:=Gd hp;have hi':i<n:=by rw [Jz] at hi; lia
   rw [Jb (by lia:n<L.length),Bw,Fl] at e;obtain ⟨e1,e2,e3⟩:=Rj e;exists .first hi' (by rw [Js,Jb (by lia)]; rfl) (by rw [Js,Jb (by lia)]; rfl) e1,(fun z=>nomatch z),e2,e3
theorem N4 (hw:L.length<=40):∀ {n:Nat},(fss L n).length<=40*n
 | 0=>Jf _
 | n+1=>by
  rw [fss,Jc];have h1:=N4 hw (n:=n);have h2:(fss1 L n (L[n]?.getD (0,[]))).length<=40:=Jy (Be _ _) (by rw [Jz]; lia);lia
theorem Za7 [BEq τ] [LawfulBEq τ]:∀ {zs us:List τ},zs.Nodup->(∀ z∈zs,z∈us)->zs.length<=us.length
 | [],_,_,_=>Jv _
 | z::zs,us,nd,h=>by
  obtain ⟨h1,h2⟩:=G7.mp nd;have hz:=h z Jl;have:=Za7 (us:=us.erase z) h2 fun y hy=>(List.mem_erase_of_ne (fun (e:y=z)=>h1 (by rw [<- e]; exact hy))).mpr (h y (Jj _ hy));rw [List.length_erase_of_mem hz] at this;have:=Ff hz;rw [Jq];lia
inductive Pt (L:List Pr):St4->Prop where
 | first {i j:Nat} {p q:Pr} {y:St4}:i<j->L[i]?=some p->L[j]?=some q->sw ((q.2.length:Int),q.2,[q.1],[]) p=some y->Pt L y
 | more {x y:St4} {p:Pr}:Pt L x->x.2.1≠[]->p∈L->sw x p=some y->Pt L y
theorem Uq {x y:St4} {p:Pr} (h:sw x p=some y):(∃ r,p.2=x.2.1++r/\r≠[]/\y=(x.1+r.length,r,x.2.2.2++[p.1],x.2.2.1))\/∃ r,x.2.1=p.2++r/\y=(x.1,r,x.2.2.1,x.2.2.2++[p.1]):=by
 unfold sw at h;cases e:rb x.2.1 p.2 with
 | none=>rw [e] at h; cases h
 | some r =>
  rw [e] at h;have h:=Di h;dsimp only at h
  by_cases z:x.2.1.length<p.2.length
  ·rw [Df z] at h;rcases Te e with y | y
   ·rw [y,Jc] at z; lia
   ·exact .inl ⟨r,y,fun e0=>by rw [y,e0,Ga] at z; lia,h.symm⟩
  ·rw [De z] at h;rcases Te e with y | y
   ·exact .inr ⟨r,y,h.symm⟩
   ·have:r=[]:=List.eq_nil_of_length_eq_zero (by rw [y,Jc] at z; lia);subst this;exact .inr ⟨[],by rw [y,Ga,Ga],h.symm⟩
theorem Zi2 {x y:St4} {p:Pr} (h:sw x p=some y):x.1<=y.1:=by
 rcases Uq h with ⟨r,_,_,e⟩ | ⟨r,_,e⟩
 ·rw [e]; show x.1<=x.1+_; lia
 ·rw [e]; exact Bu _
theorem Zi1 {s x y:St4} {p:Pr} (e:s.2.1=x.2.1) (l:s.1<=x.1) (h:sw x p=some y):∃ f,sw s p=some f/\f.2.1=y.2.1/\f.1<=y.1:=by
 unfold sw at h ⊢;rw [e];cases er:rb x.2.1 p.2 with
 | none=>rw [er] at h; cases h
 | some r =>
  rw [er] at h;have h:=Di h;exists ·,?_;rw [<- h];show (if _ then _ else _:St4).2.1=(if _ then _ else _:St4).2.1/\(if _ then _ else _:St4).1<=(if _ then _ else _:St4).1
  split
  ·exact ⟨rfl,by show s.1+_<=x.1+_; lia⟩
  ·exists rfl,l
theorem Zle {x:St4} {p:Pr} (h:(∃ r,p.2=x.2.1++r)\/∃ r,x.2.1=p.2++r):∃ y,sw x p=some y:=by
 have:∃ r,rb x.2.1 p.2=some r:=by
  unfold rb;rw [Df]
  ·exists ·
  ·rcases h with ⟨r,e⟩ | ⟨r,e⟩
   ·rw [e,Jc,Bt (by lia),J9,List.take_left']; rfl
   ·rw [e,Jc,Nat.min_eq_right (by lia),J9,List.take_left']; rfl
 obtain ⟨r,e⟩:=this;unfold sw;rw [e];exists ·
def Td {p:Pr} (h:p∈L):Rdg L p.2 [p.1]:=by
 have:=Rdg.cons h .nil;rwa [Ga] at this
theorem Pt.says (nd:(L.map (·.1)).Nodup) {x:St4} (h:Pt L x):∃ u,Rdg L (u++x.2.1) x.2.2.1/\Rdg L u x.2.2.2/\x.1=(u++x.2.1).length/\∃ s t a b,x.2.2.1=s::a/\x.2.2.2=t::b/\s≠t:=by
 induction h with
 | @first i j p q y hij h1 h2 e =>
  have hp:=Gb h1;have hq:=Gb h2;have ne:p.1≠q.1:=fun z=>by
   obtain ⟨g1,rfl⟩:=Jh.mp h1;obtain ⟨g2,rfl⟩:=Jh.mp h2;have:=(Bh (i:=i) (j:=j) (h₀:=by rw [Ja]; exact g1) (h₁:=by rw [Ja]; exact g2) nd).mp (by rw [Gk,Gk,z]);lia
  rcases Uq e with ⟨r,e1,_,rfl⟩ | ⟨r,e1,rfl⟩
  ·exists q.2,?_,Td hq,?_,p.1,q.1,[],[],rfl,rfl,ne
   ·have:=Td hp; rw [e1] at this; exact this
   ·show (q.2.length:Int)+(r.length:Int)=((q.2++r).length:Int); rw [Jc]; lia
  ·exists p.2,?_,Td hp,?_,q.1,p.1,[],[],rfl,rfl,ne.symm
   ·have:=Td hq; rw [show q.2=p.2++r from e1] at this; exact this
   ·show ((q.2.length:Nat):Int)=_; rw [show q.2=p.2++r from e1]
 | @more x y p _ _ hp e ih =>
  obtain ⟨u,r1,r2,r3,s,t,a,b,ea,eb,ne⟩:=ih;rcases Uq e with ⟨r,e1,_,rfl⟩ | ⟨r,e1,rfl⟩
  ·exists u++x.2.1,?_,r1,?_,t,s,b++[p.1],a,by show x.2.2.2++[p.1]=_; rw [eb]; rfl,ea,ne.symm
   ·have:=r2.app (Td hp); rw [e1,<- Jt] at this; exact this
   ·show x.1+(r.length:Int)=((u++x.2.1++r).length:Int); rw [r3]; simp only [Jc]; lia
  ·exists u++p.2,?_,r2.app (Td hp),?_,s,t,a,b++[p.1],ea,by show x.2.2.2++[p.1]=_; rw [eb]; rfl,ne
   ·rw [e1,<- Jt] at r1; exact r1
   ·show x.1=_; rw [r3,e1,Jt]
def Zco {a b s:List Int} (h:a++r=b++s):(∃ d,b=a++d)\/∃ d,a=b++d:=by
 rcases Nat.le_total a.length b.length with z | z
 ·obtain ⟨d,hd⟩:=List.prefix_of_prefix_length_le (l₁:=a) (l₂:=b) ⟨r,h⟩ ⟨s,rfl⟩ z;exact .inl ⟨d,hd.symm⟩
 ·obtain ⟨d,hd⟩:=List.prefix_of_prefix_length_le (l₁:=b) (l₂:=a) ⟨s,h.symm⟩ ⟨r,rfl⟩ z;exact .inr ⟨d,hd.symm⟩
theorem race :∀ (n:Nat) {x:St4} {R a b:List Int},Pt L x->Rdg L R a->Rdg L (x.2.1++R) b->a.length+b.length<=n->∃ z,Pt L z/\z.2.1=[]/\z.1<=x.1+R.length:=by
 intro n
 induction n with
 | zero =>
  intro x R a b hx ha hb hn;have eb:b=[]:=List.eq_nil_of_length_eq_zero (by lia);subst eb;generalize hr:x.2.1++R=r at hb;cases hb;exact ⟨x,hx,(Bq.mp hr).1,by lia⟩
 | succ n ih =>
  intro x R a b hx ha hb hn
  by_cases e:x.2.1=[]
  ·exact ⟨x,hx,e,by lia⟩
  generalize hr:x.2.1++R=r at hb;cases hb with
  | nil=>exact absurd (Bq.mp hr).1 e
  | @cons p R' t hp ht =>
   rw [Jq] at hn;obtain ⟨y,hy⟩:=Zle (Zco hr);have py:=Pt.more hx e hp hy;rcases Uq hy with ⟨r,e1,_,rfl⟩ | ⟨r,e1,rfl⟩
   ·have eR:R=r++R':=by rw [e1,Jt] at hr; exact Bl hr
    subst eR;obtain ⟨z,h1,h2,h3⟩:=ih py ht ha (by lia);exists z,h1,h2,?_;rw [Jc];have h3:z.1<=x.1+(r.length:Int)+(R'.length:Int):=h3;lia
   ·have eR:R'=r++R:=by rw [e1,Jt] at hr; exact (Bl hr).symm
    rw [eR] at ht;have:=ih (x:=(x.1,r,x.2.2.1,x.2.2.2++[p.1])) py ha ht (by lia);exact this
theorem Zaj (hW:∀ p∈L,p.2≠[]) {ρ a b:List Int} (ha:Rdg L ρ a):∀ {b:List Int},Rdg L ρ b->a≠b->∃ z,Pt L z/\z.2.1=[]/\z.1<=ρ.length:=by
 induction ha with
 | nil =>
  intro b hb ne;generalize hr:([]:List Int)=r at hb;cases hb with
  | nil=>exact absurd rfl ne
  | @cons p _ _ hp _=>exact absurd (Bq.mp hr.symm).1 (hW p hp)
 | @cons p r t hp ht ih =>
  intro b hb ne;generalize hr:p.2++r=s at hb;cases hb with
  | nil=>exact absurd (Bq.mp hr).1 (hW p hp)
  | @cons q r' t' hq ht' =>
   by_cases e:p=q
   ·subst e;have er:=Bl hr;subst er;obtain ⟨z,h1,h2,h3⟩:=ih ht' (fun z=>ne (by rw [z]));exact ⟨z,h1,h2,by rw [Jc]; lia⟩
   obtain ⟨i,hi,rfl⟩:=Gd hp;obtain ⟨j,hj,rfl⟩:=Gd hq;have go:∀ (i j:Nat) (hi:i<L.length) (hj:j<L.length) {r r' t t':List Int},i<j->L[i].2++r=L[j].2++r'->Rdg L r t->Rdg L r' t'->∃ z,Pt L z/\z.2.1=[]/\z.1<=((L[i].2++r).length:Nat):=fun i j hi hj r r' t t' hij er ht ht'=>by
    obtain ⟨y,hy⟩:=Zle (x:=((L[j].2.length:Int),L[j].2,[L[j].1],[])) (p:=L[i]) ((Zco er).symm);have py:=Pt.first hij (Jb hi) (Jb hj) hy;rcases Uq hy with ⟨d,e1,_,rfl⟩ | ⟨d,e1,rfl⟩
    ·have e1:L[i].2=L[j].2++d:=e1;have eR:r'=d++r:=by rw [e1,Jt] at er; exact (Bl er).symm
     rw [eR] at ht';obtain ⟨z,h1,h2,h3⟩:=race _ py ht ht' (Jf _);exists z,h1,h2,?_;have h3:z.1<=(L[j].2.length:Int)+(d.length:Int)+(r.length:Int):=h3;rw [e1,Jc,Jc];lia
    ·have e1:L[j].2=L[i].2++d:=e1;have eR:r=d++r':=by rw [e1,Jt] at er; exact Bl er
     rw [eR] at ht;obtain ⟨z,h1,h2,h3⟩:=race _ py ht' ht (Jf _);exists z,h1,h2,?_;have h3:z.1<=(L[j].2.length:Int)+(r'.length:Int):=h3;rw [e1,Jc] at h3;rw [eR,Jc,Jc];lia
   rcases Nat.lt_trichotomy i j with z | z | z
   ·rw [<- hr]; exact go i j hi hj z hr ht ht'
   ·subst z; exact absurd rfl e
   ·exact go j i hj hi z hr.symm ht' ht
def Cov (S xs:List St4) (z:St4):Prop:=(∃ s∈S,s.2.1=z.2.1/\s.1<=z.1)\/z∈xs
structure Dj (L:List Pr) (S xs:List St4):Prop where
 s:∀ x∈S,Pt L x/\x.2.1≠[]
 x:∀ x∈xs,Pt L x/\x.2.1∉S.map (·.2.1)
 nd:(S.map (·.2.1)).Nodup
 m:∀ s∈S,∀ x∈xs,s.1<=x.1
 a:∀ z∈fss L L.length,Cov S xs z
 b:∀ s∈S,∀ p∈L,∀ f,sw s p=some f->Cov S xs f
theorem Zh9 {y:St4}:∀ {n:Nat},n<=L.length->y∈fss L n->Pt L y
 | 0,_,h=>nomatch h
 | n+1,hn,h=>by
  rcases Jn.mp h with h | h
  ·exact Zh9 (by lia) h
  ·obtain ⟨p,hp,e⟩:=Gp.mp h;obtain ⟨i,hi,rfl⟩:=Gd hp;have hi':i<n:=by rw [Jz] at hi; lia
   rw [Jb (by lia:n<L.length),Bw,Fl] at e;exact .first hi' (Jb (by lia)) (Jb (by lia)) e
theorem Zh1 {i j:Nat} {p q:Pr} {y:St4} (hij:i<j) (h1:L[i]?=some p) (h2:L[j]?=some q) (e:sw ((q.2.length:Int),q.2,[q.1],[]) p=some y):∀ {n:Nat},j<n->y∈fss L n
 | 0,h=>absurd h (G2 _)
 | n+1,h=>by
  by_cases hj:j<n
  ·exact Jw _ (Zh1 hij h1 h2 e hj)
  ·have:j=n:=by lia
   subst this;refine Ji _ (Gp.mpr ⟨p,?_,by rw [h2]; exact e⟩);exact Gb (i:=i) (by rw [List.getElem?_take_of_lt hij]; exact h1)
def Dj.start :Dj L [] (fss L L.length):=⟨(fun _ h=>nomatch h),fun x h=>⟨Zh9 (Jf _) h,fun z=>nomatch z⟩,G6,(fun _ h=>nomatch h),fun z h=>.inr h,fun _ h=>nomatch h⟩
theorem Dj.reach {S xs:List St4} (d:Dj L S xs) {y:St4} (h:Pt L y):(∃ s∈S,s.2.1=y.2.1/\s.1<=y.1)\/∃ x∈xs,x.1<=y.1:=by
 induction h with
 | first hij h1 h2 e =>
  rcases d.a _ (Zh1 hij h1 h2 e (Jh.mp h2).1) with z | z
  ·exact .inl z
  ·exact .inr ⟨_,z,Bu _⟩
 | more _ _ hp e ih =>
  rcases ih with ⟨s,hs,es,ls⟩ | ⟨x',hx',lx⟩
  ·obtain ⟨f,hf,ef,lf⟩:=Zi1 es ls e;rcases d.b s hs _ hp f hf with ⟨s',h1,h2,h3⟩ | z
   ·exact .inl ⟨s',h1,h2.trans ef,by lia⟩
   ·exact .inr ⟨f,z,lf⟩
  ·have:=Zi2 e;exact .inr ⟨x',hx',by lia⟩
theorem Dj.pop {S xs:List St4} (d:Dj L S xs) {x:St4} (hx:x∈xs) (min:∀ y∈xs,x.1<=y.1) (ne:x.2.1≠[]):Dj L (S++[x]) ((xs++L.filterMap (sw x)).filter fun y=>decide (y.2.1∉(S++[x]).map (·.2.1))):=by
 have inS:∀ {r:List Int},r∈(S++[x]).map (·.2.1)->(∃ s∈S,s.2.1=r)\/x.2.1=r:=fun {r} h=>by
  obtain ⟨s,hs,e⟩:=Jp.mp h;rcases Jn.mp hs with z | z
  ·exact .inl ⟨s,z,e⟩
  ·rw [Je.mp z] at e; exact .inr e
 have cov:∀ z,Cov S xs z->Cov (S++[x]) ((xs++L.filterMap (sw x)).filter fun y=>decide (y.2.1∉(S++[x]).map (·.2.1))) z:=fun z hz=>by
  rcases hz with ⟨s,hs,e,l⟩ | hz
  ·exact .inl ⟨s,Jw _ hs,e,l⟩
  ·by_cases h:z.2.1∈(S++[x]).map (·.2.1)
   ·rcases inS h with ⟨s,hs,e⟩ | e
    ·exact absurd (Jp.mpr ⟨s,hs,e⟩) (d.x z hz).2
    ·exact .inl ⟨x,Ji _ (Je.mpr rfl),e,min z hz⟩
   ·exact .inr (Gj.mpr ⟨Jw _ hz,Dg h⟩)
 have sx:∀ s∈S++[x],s.1<=x.1:=fun s hs=>by
  rcases Jn.mp hs with z | z
  ·exact d.m s z x hx
  ·rw [Je.mp z]; exact Bu _
 exists fun s hs=>?_,fun y hy=>?_,?_,fun s hs y hy=>?_,fun z hz=>cov z (d.a z hz),fun s hs p hp f hf=>?_
 ·rcases Jn.mp hs with z | z
  ·exact d.s s z
  ·rw [Je.mp z];exists (d.x x hx).1,ne
 ·obtain ⟨h1,h2⟩:=Gj.mp hy;exists ?_,of_decide_eq_true h2;rcases Jn.mp h1 with z | z
  ·exact (d.x y z).1
  ·obtain ⟨p,hp,e⟩:=Gp.mp z;exact .more (d.x x hx).1 ne hp e
 ·rw [Jm,Ba];exists d.nd,by simp,fun a ha b hb e=>?_;rw [e,Je.mp hb] at ha;exact (d.x x hx).2 ha
 ·obtain ⟨h1,_⟩:=Gj.mp hy;have l1:=sx s hs;rcases Jn.mp h1 with z | z
  ·have:=min y z; lia
  ·obtain ⟨p,hp,e⟩:=Gp.mp z;have:=Zi2 e; lia
 ·rcases Jn.mp hs with z | z
  ·exact cov f (d.b s z p hp f hf)
  ·rw [Je.mp z] at hf
   by_cases h:f.2.1∈(S++[x]).map (·.2.1)
   ·obtain ⟨s',hs',e⟩:=Jp.mp h;have l1:=sx s' hs';have l2:=Zi2 hf;exact .inl ⟨s',hs',e,by lia⟩
   ·exact .inr (Gj.mpr ⟨Ji _ (Gp.mpr ⟨p,hp,hf⟩),Dg h⟩)
theorem Sm {zs:List St4}:∀ n,n<zs.length->∀ j,j<=n->(zs.getD (Xj (fun i j=>ltS (zs.getD i (0,[],[],[])) (zs.getD j (0,[],[],[]))) n) (0,[],[],[])).1<=(zs.getD j (0,[],[],[])).1
 | 0,_,j,hj=>by rw [show j=0 by lia]; exact Bu _
 | n+1,hn,j,hj=>by
  have ih:=Sm (zs:=zs) n (by lia);rw [Xj];generalize Xj (fun i j=>ltS (zs.getD i (0,[],[],[])) (zs.getD j (0,[],[],[]))) n=k at ih;cases e:ltS (zs.getD (n+1) (0,[],[],[])) (zs.getD k (0,[],[],[])) with
  | true =>
   rw [Df rfl];have le:(zs.getD (n+1) (0,[],[],[])).1<=(zs.getD k (0,[],[],[])).1:=by
    unfold ltS at e
    split at e
    ·rename_i z; rw [z]; exact Bu _
    ·exact Int.le_of_lt (of_decide_eq_true e)
   by_cases hj':j=n+1
   ·rw [hj']; exact Bu _
   ·have:=ih j (by lia); lia
  | false =>
   rw [De nofun];have le:(zs.getD k (0,[],[],[])).1<=(zs.getD (n+1) (0,[],[],[])).1:=by
    unfold ltS at e
    split at e
    ·rename_i z; rw [z]; exact Bu _
    ·have:=of_decide_eq_false e; lia
   by_cases hj':j=n+1
   ·rw [hj']; exact le
   ·exact ih j (by lia)
end L3
namespace L2
open PySem PySem.W PyProof.Rows HT PySem.Calls
section
theorem Pg:∀ (ns ms:List Int),lexG (fun j=>(ns[j]? == ms[j]?,decide ((ns[j]?).getD 0 > (ms[j]?).getD 0))) ns.length ms.length=HT.lexLt ms ns
 | [],[]=>rfl
 | [],_::_=>rfl
 | _::_,[]=>rfl
 | n::ns,m::ms=>by
  have ih:=Pg ns ms;rw [Jq,Jq,lexG,HT.lexLt_cons];simp only [Fa,List.getElem?_cons_succ,Bw];rw [ih]
  by_cases e:n=m
  ·rw [Df e.symm,Df (by rw [e]; exact beq_self_eq_true _)]
  ·rw [De (Ne.symm e),De (by simp [e])]
theorem Rx {a b:Addr} (I:Inv X pq σ H s) (hu:A.units+100<cLine) (h1:SqL X.K H a (ns.map V.int)) (h2:SqL X.K H b (ms.map V.int)):GtAt A s (.ref a) (.ref b) (HT.lexLt ms ns):=by
 obtain ⟨its,rv,pl,_⟩:=I.list h1;obtain ⟨its2,rv2,pl2,_⟩:=I.list h2;have i1:=We rv;have i2:=We rv2;have:=GtAt.lst (A:=A) (z:=fun j=>(ns[j]? == ms[j]?,decide ((ns[j]?).getD 0 > (ms[j]?).getD 0))) pl.isList pl2.isList (by lia) fun j g1 g2=>by
  simp only [List.getElem_toArray];have g1':j<its.length:=by simpa using g1
  have g2':j<its2.length:=by simpa using g2
  exists (Qb (A:=A.in1) (s:=s) i1 i2 j g1' g2').1,?_;obtain ⟨t,e1⟩:=(ints_at i1).2 j g1';obtain ⟨u,e2⟩:=(ints_at i2).2 j g2';rw [e1,e2];exact .int _ _ _ _
 rwa [Jg,Jg,(ints_at i1).1,(ints_at i2).1,Pg] at this
def nth2 (ns ms:List Int):Nat->List Int | 0=>ns | _=>ms
def Zdq (K:PySem.W.Frag) (f:List Int->List Int->Bool):List V->Hp->VK->Prop:=fun xs H Q=>∃ (a b:Addr) (ns ms:List Int),xs=[.ref a,.ref b]/\SqL K H a (ns.map V.int)/\SqL K H b (ms.map V.int)/\∀ p,H p=none->Q (.ref (if f ns ms then b else a)) (upd H p (.tup [.ref a,.ref b]))
def Zap {K:PySem.W.Frag} {p a:Addr} {o:HO} (h:SqL K H a vs) (hp:H p=none):SqL K (upd H p o) a vs:=(Ze hp).seq h
theorem Zca {K:PySem.W.Frag} (hK:X.K=K) (hc:X.calm=true) (hu:X.A.units+200<cLine):Xv X (.builtin "min") (Zdq K fun ns ms=>HT.lexLt ms ns):=by
 intro pq s σ H xs us Q I r h;subst hK;obtain ⟨a,b,ns,ms,rfl,h1,h2,q⟩:=h;refine Zb9 hc hu pq s σ H _ us Q I r ⟨a,b,fun i j=>HT.lexLt (nth2 ns ms i) (nth2 ns ms j),rfl,fun p hp i j hi hj=>?_,fun p hp=>q p hp⟩;intro pq s σ A u v J hu' ru rv;have g1:=Zap (o:=.tup [.ref a,.ref b]) h1 hp;have g2:=Zap (o:=.tup [.ref a,.ref b]) h2 hp
 match i,j,hi,hj with
 | 0,0,_,_=>cases ru; cases rv; exact (Tj J (by lia) g1 g1).2
 | 0,1,_,_=>cases ru; cases rv; exact (Tj J (by lia) g1 g2).2
 | 1,0,_,_=>cases ru; cases rv; exact (Tj J (by lia) g2 g1).2
 | 1,1,_,_=>cases ru; cases rv; exact (Tj J (by lia) g2 g2).2
theorem Zcc {K:PySem.W.Frag} (hK:X.K=K) (hc:X.calm=true) (hu:X.A.units+200<cLine):Xv X (.builtin "max") (Zdq K fun ns ms=>HT.lexLt ns ms):=by
 intro pq s σ H xs us Q I r h;subst hK;obtain ⟨a,b,ns,ms,rfl,h1,h2,q⟩:=h;refine Zcb hc hu pq s σ H _ us Q I r ⟨a,b,fun i j=>HT.lexLt (nth2 ns ms j) (nth2 ns ms i),rfl,fun p hp i j hi hj=>?_,fun p hp=>q p hp⟩;intro pq s σ A u v J hu' ru rv;have g1:=Zap (o:=.tup [.ref a,.ref b]) h1 hp;have g2:=Zap (o:=.tup [.ref a,.ref b]) h2 hp
 match i,j,hi,hj with
 | 0,0,_,_=>cases ru; cases rv; exact Rx J (by lia) g1 g1
 | 0,1,_,_=>cases ru; cases rv; exact Rx J (by lia) g1 g2
 | 1,0,_,_=>cases ru; cases rv; exact Rx J (by lia) g2 g1
 | 1,1,_,_=>cases ru; cases rv; exact Rx J (by lia) g2 g2
end
end L2
namespace L3
open PySem L2
def Wb (bs:List Int) (ws:List (List Int)):Prop:=∀ w∈ws,(w≠[]/\w.length<=4)/\∀ b∈w,b∈bs
def FewN (ws:List (List Int)):Prop:=∀ zs:List (List Int),zs.Nodup->(∀ z∈zs,Ov ws z)->zs.length<64
theorem Zgp {bs:List Int} (h:Wb bs ws) (o:Ov ws r):r.length<=3/\∀ b∈r,b∈bs:=by
 have go:∀ {a b r:List Int},a≠[]->(∀ x∈b,x∈bs)->b.length<=4->b=a++r->r.length<=3/\∀ x∈r,x∈bs:=fun {a b r} ne hb lb e=>by
  subst e;have:=Gc.mpr ne;rw [Jc] at lb;exists by lia,fun x hx=>hb x (Ji _ hx)
 induction o with
 | first _ h1 h2 e =>
  have ha:=h _ (Gb h1);have hb:=h _ (Gb h2);rcases Te e with z | z
  ·exact go ha.1.1 hb.2 hb.1.2 z
  ·exact go hb.1.1 ha.2 ha.1.2 z
 | more _ ne hw e ih =>
  have hv:=h _ hw;rcases Te e with z | z
  ·exact go hv.1.1 ih.2 (by lia) z
  ·exact go ne hv.2 hv.1.2 z
theorem Ze2 {bs:List Int} (h:Wb bs ws) (lb:bs.length<=3):FewN ws:=fun zs nd hz=>by
 have:=Za7 (us:=[[]]++(bs.map fun b=>[b])++(bs.flatMap fun a=>bs.map fun b=>[a,b])++bs.flatMap fun a=>bs.flatMap fun b=>bs.map fun c=>[a,b,c]) nd fun z hz'=>?_
 ·have l2:(bs.flatMap fun a=>bs.map fun b=>[a,b]).length<=9:=by
   refine Jy (Qi (b:=bs.length) fun a _=>by rw [Ja]; exact Jf _) ?_;exact Jy (Fo lb lb) nofun
  have l3:(bs.flatMap fun a=>bs.flatMap fun b=>bs.map fun c=>[a,b,c]).length<=27:=by
   refine Jy (Qi (b:=9) fun a _=>?_) (Jy (Fo lb (Jf _)) nofun);refine Jy (Qi (b:=bs.length) fun a _=>by rw [Ja]; exact Jf _) ?_;exact Jy (Fo lb lb) nofun
  simp only [Jc,Ja,Jq,Bz] at this;lia
 obtain ⟨l,hm⟩:=Zgp h (hz z hz')
 match z,l,hm with
 | [],_,_=>exact Jw _ (Jw _ (Jw _ (Je.mpr rfl)))
 | [a],_,hm=>exact Jw _ (Jw _ (Ji _ (Jp.mpr ⟨a,hm a (by simp),rfl⟩)))
 | [a,b],_,hm=>exact Jw _ (Ji _ (Fq.mpr ⟨a,hm a (by simp),Jp.mpr ⟨b,hm b (by simp),rfl⟩⟩))
 | [a,b,c],_,hm=>exact Ji _ (Fq.mpr ⟨a,hm a (by simp),Fq.mpr ⟨b,hm b (by simp),Jp.mpr ⟨c,hm c (by simp),rfl⟩⟩⟩)
 | _::_::_::_::_,l,_=>simp only [Jq] at l; lia
theorem Pt.ov {x:St4} (h:Pt L x):Ov (L.map (·.2)) x.2.1:=by
 induction h with
 | first hij h1 h2 e=>exact .first hij (by rw [Js,h1]; rfl) (by rw [Js,h2]; rfl) (Rj e).1
 | more _ ne hp e ih=>exact .more ih ne (G4 hp) (Rj e).1
structure Rs (L:List Pr) (ns:List Int) (k:Nat) (ts:List (List Int)) (bs:List Bg):Prop where
 b:∀ b∈bs,b.2<=ns.length/\b.1.length=k/\k<=b.2/\∀ t',Rdg L (ns.drop b.2) t'->Rdg L ns (b.1++t')
 nb:(bs.map (·.1)).Nodup
 nt:ts.Nodup
 t:∀ t∈ts,Rdg L ns t/\t.length<k
 c:∀ t,Rdg L ns t->t∈ts\/∃ b∈bs,∃ t',t=b.1++t'/\Rdg L (ns.drop b.2) t'
 n:(bs.map fun b=>cAt L ns b.2).sum+ts.length=cAt L ns 0
def Rs.start :Rs L ns 0 [] [([],0)]:=⟨fun b hb=>by rw [Je.mp hb]; exact ⟨Jv _,rfl,Jf _,fun t' h=>h⟩,G7.mpr ⟨(fun z=>nomatch z),G6⟩,G6,(fun _ h=>nomatch h),fun t h=>.inr ⟨_,Je.mpr rfl,t,rfl,h⟩,by simp⟩
def Uv {b c:Bg}:c∈osn1 L ns b↔∃ p∈L,hit ns b.2 p=true/\0<cAt L ns (b.2+p.2.length)/\c=(b.1++[p.1],b.2+p.2.length):=by
 unfold osn1
 constructor
 ·intro h;obtain ⟨p,hp,e⟩:=Jp.mp h;obtain ⟨h1,h2⟩:=Gj.mp hp;obtain ⟨h3,h4⟩:=Gj.mp h1;exists p,h3,h4,of_decide_eq_true h2,e.symm
 ·rintro ⟨p,h1,h2,h3,rfl⟩;exact Jp.mpr ⟨p,Gj.mpr ⟨Gj.mpr ⟨h1,h2⟩,Dg h3⟩,rfl⟩
theorem Zgq (hW:∀ p∈L,p.2≠[]) {b:Bg} (hb:b.2<=ns.length):((osn1 L ns b).map fun c=>cAt L ns c.2).sum+(if b.2=ns.length then 1 else 0)=cAt L ns b.2/\(b.2=ns.length->osn1 L ns b=[]):=by
 by_cases z:b.2=ns.length
 ·have e0:osn1 L ns b=[]:=List.eq_nil_iff_forall_not_mem.mpr fun c hc=>by
   obtain ⟨p,hp,h,_⟩:=Uv.mp hc;have:=Wl h (hW p hp);have:=Gc.mpr (hW p hp);lia
  rw [e0,Df z,z,Qp];exists rfl,fun _=>rfl
 ·rw [De z,Int.add_zero];refine ⟨?_,fun h=>absurd h z⟩;rw [Qo (by lia) hW,(Rl (f:=fun p:Pr=>cAt L ns (b.2+p.2.length)) fun p hp=>by
   obtain ⟨h1,h2⟩:=Gj.mp hp;exact Zfx hW _ _ (Wl h2 (hW p h1)) (Jf _)).2.1]
  unfold osn1;rw [Gn];rfl
theorem Rs.next (hW:∀ p∈L,p.2≠[]) (nd:(L.map (·.1)).Nodup) {k:Nat} {ts:List (List Int)} {bs:List Bg} (r:Rs L ns k ts bs) :
  Rs L ns (k+1) (ts++(bs.filter fun b=>decide (b.2=ns.length)).map (·.1)) (osn L ns bs)/\∀ c∈osn L ns bs,1<=cAt L ns c.2:=by
 have mem:∀ c∈osn L ns bs,∃ b∈bs,∃ p∈L,hit ns b.2 p=true/\0<cAt L ns (b.2+p.2.length)/\c=(b.1++[p.1],b.2+p.2.length):=fun c hc=>by
  obtain ⟨b,hb,h⟩:=Fq.mp hc;obtain ⟨p,h1,h2,h3,h4⟩:=Uv.mp h;exists b,hb,p,h1,h2,h3,h4
 exists ⟨fun c hc=>?_,?_,?_,fun t ht=>?_,fun t ht=>?_,?_⟩,fun c hc=>?_
 ·obtain ⟨b,hb,p,hp,h1,h2,rfl⟩:=mem c hc;obtain ⟨b1,b2,b3,b4⟩:=r.b b hb;have l1:=Wl h1 (hW p hp);have l2:=Gc.mpr (hW p hp);exists l1,by rw [Jc,b2]; rfl,by show k+1<=b.2+_; lia,fun t' ht=>?_;rw [Jt];exact b4 _ (by rw [Zbf h1]; exact .cons hp ht)
 ·unfold osn;rw [List.map_flatMap,List.nodup_iff_pairwise_ne,List.pairwise_flatMap];exists fun b hb=>?_,?_
  ·unfold osn1;rw [Gn,Gy];have nf:(((L.filter (hit ns b.2)).filter fun p=>decide (0<cAt L ns (b.2+p.2.length))).map (·.1)).Nodup:=nd.sublist (((Fs).trans Fs).map _);rw [List.nodup_iff_pairwise_ne,Gy] at nf;exact nf.imp fun h e=>h (by
    have e:b.1++[_]=b.1++[_]:=e;exact (List.cons.inj (Bl e)).1)
  ·have nb:=r.nb;rw [List.nodup_iff_pairwise_ne,Gy] at nb;refine nb.imp_of_mem fun {b b'} hb hb' ne x hx y hy e=>?_;obtain ⟨c,hc,rfl⟩:=Jp.mp hx;obtain ⟨c',hc',rfl⟩:=Jp.mp hy;obtain ⟨p,_,_,_,rfl⟩:=Uv.mp hc;obtain ⟨p',_,_,_,rfl⟩:=Uv.mp hc';have e:b.1++[p.1]=b'.1++[p'.1]:=e;exact ne (List.append_inj_left e (by rw [(r.b b hb).2.1,(r.b b' hb').2.1]))
 ·refine Ba.mpr ⟨r.nt,r.nb.sublist (Fs.map _),fun a ha c hc e=>?_⟩;obtain ⟨b,hb,rfl⟩:=Jp.mp hc;have l1:=(r.t a ha).2;have l2:=(r.b b (Gj.mp hb).1).2.1;rw [e] at l1;lia
 ·rcases Jn.mp ht with h | h
  ·obtain ⟨h1,h2⟩:=r.t t h;exact ⟨h1,by lia⟩
  ·obtain ⟨b,hb,rfl⟩:=Jp.mp h;obtain ⟨h1,h2⟩:=Gj.mp hb;obtain ⟨b1,b2,b3,b4⟩:=r.b b h1;refine ⟨?_,by lia⟩;have:=b4 [] (by rw [of_decide_eq_true h2,Fc]; exact .nil);rwa [Ga] at this
 ·rcases r.c t ht with h | ⟨b,hb,t',e,h⟩
  ·exact .inl (Jw _ h)
  ·obtain ⟨b1,b2,b3,b4⟩:=r.b b hb;generalize hr:ns.drop b.2=s at h;cases h with
   | nil =>
    left
    have:b.2=ns.length:=by have:=congrArg List.length hr; rw [Gh] at this; simp at this; lia
    rw [e,Ga];exact Ji _ (Jp.mpr ⟨b,Gj.mpr ⟨hb,Dg this⟩,rfl⟩)
   | @cons p r' t'' hp h =>
    right
    obtain ⟨h5,er⟩:=Zbi hr;have l1:=Wl h5 (hW p hp);have c1:=(Zhc (ns:=ns) hW _ _ l1 (Jf _)).mpr ⟨t'',er ▸ h⟩;exists (b.1++[p.1],b.2+p.2.length),Fq.mpr ⟨b,hb,Uv.mpr ⟨p,hp,h5,by lia,rfl⟩⟩,t'',by rw [e,Jt]; rfl,er ▸ h
 ·have go:∀ bs:List Bg,(∀ b∈bs,b.2<=ns.length)->((osn L ns bs).map fun b=>cAt L ns b.2).sum+((bs.filter fun b=>decide (b.2=ns.length)).length:Int)=(bs.map fun b=>cAt L ns b.2).sum:=by
   intro bs
   induction bs with
   | nil=>intro _; rfl
   | cons b bs ih =>
    intro h;have i1:=ih fun x hx=>h x (Jj _ hx);have i2:=(Zgq hW (h b Jl)).1;unfold osn at i1 ⊢;rw [List.flatMap_cons,Jm,List.sum_append,Jr,List.sum_cons,B4]
    by_cases z:b.2=ns.length
    ·rw [Df z] at i2;rw [Df (Dg z),Jq];lia
    ·rw [De z] at i2;rw [De (by rw [decide_eq_true_iff]; exact z)];lia
  have h1:=go bs fun b hb=>(r.b b hb).1;have h2:=r.n;rw [Jc,Ja];lia
 ·obtain ⟨b,hb,p,hp,h1,h2,rfl⟩:=mem c hc;exact h2
theorem Znn (hW:∀ p∈L,p.2≠[]) (nd:(L.map (·.1)).Nodup):∀ (m k:Nat) {ts:List (List Int)} {bs:List Bg},ns.length+2-k=m->Rs L ns k ts bs->∃ us:List (List Int),us.Nodup/\(∀ t,t∈us↔Rdg L ns t)/\(us.length:Int)=cAt L ns 0:=by
 intro m
 induction m with
 | zero =>
  intro k ts bs e r;have eb:bs=[]:=List.eq_nil_iff_forall_not_mem.mpr fun b hb=>by obtain ⟨h1,_,h3,_⟩:=r.b b hb; lia
  subst eb;exists ts,r.nt,fun t=>⟨fun h=>(r.t t h).1,fun h=>(r.c t h).elim id fun ⟨b,hb,_⟩=>nomatch hb⟩,?_;have:=r.n;rw [List.map_nil,List.sum_nil] at this;lia
 | succ m ih =>
  intro k ts bs e r
  by_cases eb:bs=[]
  ·subst eb;exists ts,r.nt,fun t=>⟨fun h=>(r.t t h).1,fun h=>(r.c t h).elim id fun ⟨b,hb,_⟩=>nomatch hb⟩,?_;have:=r.n;rw [List.map_nil,List.sum_nil] at this;lia
  ·exact ih (k+1) (by lia) (r.next hW nd).1
def Zbs (hW:∀ p∈L,p.2≠[]) (nd:(L.map (·.1)).Nodup):∃ us:List (List Int),us.Nodup/\(∀ t,t∈us↔Rdg L ns t)/\(us.length:Int)=N9 L ns:=Znn hW nd _ 0 rfl .start
theorem Zbc:∀ {a b:List (List Int)},a.Pairwise (fun x y=>HT.lexLt x y=true)->b.Pairwise (fun x y=>HT.lexLt x y=true)->(∀ t,t∈a↔t∈b)->a=b
 | [],[],_,_,_=>rfl
 | [],y::b,_,_,h=>absurd ((h y).mpr Jl) (fun z=>nomatch z)
 | x::a,[],_,_,h=>absurd ((h x).mp Jl) (fun z=>nomatch z)
 | x::a,y::b,ha,hb,h=>by
  have asy:∀ {u v:List Int},HT.lexLt u v=true->HT.lexLt v u=true->False:=fun p q=>by have:=U0 p q; rw [Vo] at this; cases this
  obtain ⟨a1,a2⟩:=Ft.mp ha;obtain ⟨b1,b2⟩:=Ft.mp hb;have e:x=y:=by
   rcases Ju.mp ((h x).mp Jl) with z | z
   ·exact z
   ·rcases Ju.mp ((h y).mpr Jl) with w | w
    ·exact w.symm
    ·exact (asy (b1 x z) (a1 y w)).elim
  subst e;have:a=b:=Zbc a2 b2 fun t=>by
   constructor
   ·intro ht;rcases Ju.mp ((h t).mp (Jj _ ht)) with z | z
    ·rw [z] at ht; have:=a1 x ht; rw [Vo] at this; cases this
    ·exact z
   ·intro ht;rcases Ju.mp ((h t).mpr (Jj _ ht)) with z | z
    ·rw [z] at ht; have:=b1 x ht; rw [Vo] at this; cases this
    ·exact z
  rw [this]
section
def Zku (h:X.K=K') (hu:X.A.units+200<cLine):OpR X (compareOp .Lt) (L2.rLtD K'):=by subst h; exact Zl9 hu
def ltD3:R3:=fun d e M K=>∃ (p q:PyData) (b:Bool),PyR M d p/\PyR M e q/\LtP p q b/\SeqAt.shaped p=true/\SeqAt.shaped q=true/\K (.bl b) M
def Zoe:SimR C Z (L2.rLtD C.k) ltD3:=fun I α H M x y d e K Q R r1 r2 h k=>by
 obtain ⟨p,q,b,h1,h2,l,s1,s2,h⟩:=h;exists p,q,b,Rr R h1 r1,Rr R h2 r2,l,s1,s2,k _ _ I α H M (.refl _) (Jd _) R (.bl _) h
end
end L3
namespace L2
open PySem PySem.W PyProof.Rows HT PySem.Calls
section
def Zdp:List V->Hp->VK->Prop:=fun xs H Q=>∃ (d:Addr) (kvs:List (List Key×V)) (ws:List (List Int)),xs=[.ref d]/\Rd H d (.dT kvs)/\kvs.map (·.1)=ws.map wk/\ws.length<64/\ws.Nodup /\
 ∀ (D:Addr) (L':List KIt),H D=none->(L'.map (·.2.2)).Perm ws->L'.Pairwise (fun a b=>HT.lexLt a.2.2 b.2.2=true)->(∀ q∈L',H q.2.1=some (.tup (q.2.2.map V.int)))->Q (.ref D) (upd H D (.lst (L'.map fun q=>V.ref q.2.1)))
theorem Zaa (hc:X.calm=true) (hu:X.A.units+200<cLine):Xv X (.builtin "sorted") Zdp:=by
 intro pq s σ H xs us Q I r h;obtain ⟨d,kvs,ws,rfl,rd,ek,h64,nd,q⟩:=h;obtain ⟨u,rfl,rx⟩:=T0 r;cases rx;obtain ⟨z,lo,xs,rel,o,es,ep,h1,h2,h3,h4,h5⟩:=(show Xr X.prog X.w H s.heap d (.dT kvs) from Zjh I.hok rd);have lr:=Paired.length rel;have ls:es.size=xs.length:=size_of_entries h4;have lk:kvs.length=ws.length:=by have:=congrArg List.length ek; simpa using this
 have lay:∃ L:List KIt,(L.map fun q=>Value.ref q.2.1)=(xs.map fun q=>q.2.1).map Value.ref/\L.map (·.2.2)=ws/\∀ q∈L,H q.2.1=some (.tup (q.2.2.map V.int)):=by
  clear h4 ls q rd z lr h5 h64 nd lk
  induction rel generalizing ws with
  | nil =>
   cases ws with
   | nil=>exact ⟨[],rfl,rfl,fun _ h=>nomatch h⟩
   | cons _ _=>cases ek
  | @cons kv x _ _ a b ih =>
   cases ws with
   | nil=>cases ek
   | cons w ws =>
    rw [Jr,Jr] at ek;injection ek with ek1 ek2
    obtain ⟨L,e1,e2,e3⟩:=ih ws ek2;exists (.non,x.2.1,w)::L,by rw [Jr,Jr,Jr,e1],by rw [Jr,e2],fun q hq=>?_;rcases Ju.mp hq with y | y
    ·rw [y];have:=a.2.1;rw [ek1] at this;have ew:(wk w).map kV=w.map V.int:=by rw [Gn]; rfl
     rw [ew] at this;exact this
    ·exact e3 q y
 obtain ⟨L,e1,e2,e3⟩:=lay;have ll:L.length=ws.length:=by have:=congrArg List.length e2; simpa using this
 have hk:∀ q∈L,SqT X.K H q.2.1 (q.2.2.map V.int):=fun q hq=>.inl (.inl (e3 q hq));have nd2:(L.map (·.2.2)).Nodup:=by rw [e2]; exact nd
 refine Zc1 I (κ:=kOf L) (fun {A R E} hA hR=>?_) (by lia) nd2 (fun _ _ J h0 {_ _ _} q=>Qy J hk (by lia) q) (fun _ _ _ J=>Zak J hk nd2 (by show X.A.units+1+1+120<cLine; lia)) fun D L' hD pm pw=>q D L' hD (by rw [<- e2]; exact pm.map _) pw fun q hq=>e3 q (pm.mem_iff.mp hq);refine kdu_collect (A:=A) (Zjz lo h2 h3) (hA.trans (I.ok.hd hc)) h1 (by rw [ls,<- lr]; exact z) fun h' tk acc hk' hacc=>?_;have hal:acc.toList=Zp L:=by
  show _=(L.map fun q=>Value.ref q.2.1);rw [e1]
  apply List.ext_getElem?
  intro j;rw [Gn]
  by_cases hj:j<xs.length
  ·have hj2:j<acc.size:=by rw [hacc.1,ls]; exact hj
   obtain ⟨hj3,ev⟩:=hacc.2 j acc[j] (by rw [Gm hj2]);have:=entry_at h4 j;rw [Gm hj3,Jb hj] at this;have:=Di this;rw [Bv,Gm hj2,ev,this,Js,Jb hj];rfl
  ·rw [Bv,Bp (by rw [hacc.1,ls]; lia),Fk (by rw [Ja]; lia)]
 rw [hal];exact hR h' tk hk'
theorem Pf (val:Nat->List Int) (r:List Int):∀ n,r∈U2 val n↔∃ i,i<n/\val i=r
 | 0=>⟨(fun h=>nomatch h),fun ⟨_,h,_⟩=>absurd h (G2 _)⟩
 | n+1=>by
  have ih:=Pf val r n;rw [U2];unfold addS;have step:(∃ i,i<n+1/\val i=r)↔(∃ i,i<n/\val i=r)\/val n=r:=by
   exists fun ⟨i,h1,h2⟩=>?_,fun h=>?_
   ·rcases Nat.lt_or_ge i n with z | z
    ·exact .inl ⟨i,z,h2⟩
    ·have:i=n:=by lia
     exact .inr (this ▸ h2)
   ·rcases h with ⟨i,h1,h2⟩ | h
    ·exists i,by lia,h2
    ·exists n,by lia,h
  rw [step,<- ih]
  split
  ·rename_i hm
   exists .inl,fun h=>h.elim id fun h=>?_;rw [<- h]
   first | exact hm | simpa using hm
  ·rw [Jn,Je];exists fun h=>h.imp id Eq.symm,fun h=>h.imp id Eq.symm
def Zef {ps:List (Addr×List Int)} :r∈fsW ps↔r∈ps.map (·.2):=by
 rw [Pf,Jp];exists fun ⟨i,hi,e⟩=>?_,fun ⟨p,hp,e⟩=>?_
 ·rw [J8,Jb hi] at e;exists ps[i],Ge hi,e
 ·obtain ⟨i,hi,rfl⟩:=Gd hp;exists i,hi,?_;rw [J8,Jb hi];exact e
def Zcj {S:List (List Int)} (h:S.Nodup) (k:List Int):(addS S k).Nodup:=by
 unfold addS
 split
 ·exact h
 ·rename_i hk
  refine Ba.mpr ⟨h,by simp,fun a ha b hb e=>?_⟩;rw [e,Je.mp hb] at ha
  first | exact hk ha | exact hk (by simpa using ha)
theorem Pw (val:Nat->List Int):∀ n,(U2 val n).Nodup
 | 0=>G6
 | n+1=>Zcj (Pw val n) _
end
end L2
namespace L3
open PySem L2
section
variable {ta:TA} {ua:TA3}
def Zf9:List D->Mem->K3->Prop:=fun ds M K=>∃ (d:D) (zs:List (List Int×D)),ds=[d]/\Pz M d=some (zs.map fun z=>(wk z.1,z.2))/\(zs.length<64/\(zs.map (·.1)).Nodup) /\
 ∀ ws:List (List Int),ws.Perm (zs.map (·.1))->ws.Pairwise (fun a b=>HT.lexLt a b=true)->K (.cell M.length) (M++[.lst (ws.map wD)])
theorem Zdb:SimC C Z Zdp Zf9:=fun I α H M xs ds K Q R r h k=>by
 obtain ⟨d,zs,rfl,e,⟨h64,nd⟩,h⟩:=h;cases r with
 | cons r1 r2 =>
  cases r2;obtain ⟨b,kvs,rfl,rd,rt⟩:=Zic R r1 e;obtain ⟨I2,s2,R2,f⟩:=R.full;refine ⟨b,kvs,zs.map (·.1),rfl,rd,Q6 zs rt,by rw [Ja]; exact h64,nd,fun D L' hD pm pw hk=>?_⟩;have go:∀ N:List KIt,(∀ q∈N,q∈L')->Reps C I2 α (N.map fun q=>V.ref q.2.1) ((N.map (·.2.2)).map wD):=fun N=>by
   induction N with
   | nil=>intro _; exact .nil
   | cons q r ih =>
    intro hm;have eq:=hk q (hm q Jl);exact .cons (.tup (f _ _ eq (R.tupOut eq)) (Reps.ints _)) (ih fun x hx=>hm x (Jj _ hx))
  obtain ⟨R4,p4,e4⟩:=R2.cell (o:=.lst (L'.map fun q=>V.ref q.2.1)) (m:=.lst ((L'.map (·.2.2)).map wD)) hD fun H' e=>⟨_,e,go L' fun q hq=>hq⟩;exact k _ _ I2 _ _ _ s2 p4 R4 (.cell e4) (h (L'.map (·.2.2)) pm (by rw [Gy]; exact pw))
def uSS (ua:TA3):TE3:=fun ρ M K=>ua ρ M fun ds M1=>∃ (d:D) (ws:List (List Int)),ds=[d]/\Z3 M1 d=some (ws.map wD)/\(∀ zs:List (List Int),zs.Nodup->(∀ z∈zs,z∈ws)->zs.length<64) /\
 ∀ us:List (List Int),us.Pairwise (fun a b=>HT.lexLt a b=true)->(∀ r,r∈us↔r∈ws)->K (.lst (us.map wD)) M1
theorem Ph :∀ {vs:List V} (ws:List (List Int)),Reps C I α vs (ws.map wD)->∃ ps:List (Addr×List Int),(ps.map fun p=>V.ref p.1)=vs/\ps.map (·.2)=ws/\∀ p∈ps,I p.1=some (.tup (p.2.map V.int))
 | _,[],r=>by cases r;exists [],rfl,rfl,fun _ h=>nomatch h
 | _,t::ts,r=>by
  cases r with
  | cons a b =>
   obtain ⟨L,e1,e2,e3⟩:=Ph ts b;cases a with
   | @tup c _ _ ec rc =>
    rw [Reps.of_ints _ rc] at ec;exists (c,t)::L,by rw [Jr,e1],by rw [Jr,e2],fun q hq=>?_;rcases Ju.mp hq with z | z
    ·rw [z]; exact ec
    ·exact e3 q z
theorem Zda (hK:X.K=C.k) (ha:SimA C Z ta ua):SimE C Z (tCB (Zhy X) (Ziz (tCB (Zlx X) ta) tNil)) (uSS ua):=fun I α σ H ρ M K Q R E h k =>
 ha I α σ H ρ M _ _ R E h fun vs ds I1 α1 H1 M1 s1 p1 R1 r1 h1=>by
  obtain ⟨d,ws,rfl,e,few,h1⟩:=h1;cases r1 with
  | cons a b =>
   cases b;obtain ⟨l,vs,rfl,el,ra⟩:=Y3 R1 a e;obtain ⟨ps,e1,e2,e3⟩:=Ph ws ra;have fl:(fsW ps).length<64:=few _ (Pw _ _) fun z hz=>by rw [<- e2]; exact Zef.mp hz
   exists l,ps,rfl,by rw [e1,hK]; exact el,fun p hp=>.inl (.inl (R1.sub _ _ (e3 p hp))),by lia,fun a L ep t qs ha T pp ld eq pm nd hq=>?_;have ql:qs.length<64:=by have:=pm.length_eq; rw [Ja] at this; lia
   have hI:∀ q∈qs,I1 q.1=some (.tup (q.2.map V.int)):=fun q h=>e3 q (hq q h);exists a,L,ep,t,qs,rfl,Zn,T,pp,ld,eq,(pm.nodup_iff).mpr nd,fun q h=>.inl (.inl (Ze ha _ _ (R1.sub _ _ (hI q h)))),ql,fun D L' hD pm2 pw=>?_;have R3:=R1.same (Ze (o:=SetO a L ep t) ha);obtain ⟨R4,s4,e4⟩:=R3.new (o:=.lst (L'.map fun q=>V.ref q.1)) hD;refine k _ _ _ α1 _ M1 (s1.trans s4) p1 R4 (.lst e4 ?_) (h1 (L'.map (·.2)) (by rw [Gy]; exact pw) fun r=>?_)
   ·have go:∀ N:List (Addr×List Int),(∀ q∈N,q∈L')->Reps C (upd I1 D (.lst (L'.map fun q=>V.ref q.1))) α1 (N.map fun q=>V.ref q.1) ((N.map (·.2)).map wD):=fun N=>by
     induction N with
     | nil=>intro _; exact .nil
     | cons q r ih =>
      intro hm;exact .cons (.tup (s4 _ _ (hI q (pm2.mem_iff.mp (hm q Jl)))) (Reps.ints _)) (ih fun x hx=>hm x (Jj _ hx))
    exact go L' fun q hq=>hq
   ·rw [((pm2.map (·.2)).trans pm).mem_iff,Zef,e2]
end
def rs2 (a b:List Int):List (List Int):=if a.take b.length=b then [a.drop b.length] else []
def Rw {a b:List Int}:r∈rs2 a b↔a=b++r:=by
 unfold rs2
 split
 ·rename_i e
  rw [Je];exists fun h=>?_,fun h=>?_
  ·have:=Gv b.length a;rw [e,<- h] at this;exact this.symm
  ·rw [h,List.drop_left]
 ·rename_i e
  exists (fun h=>nomatch h),fun h=>absurd ?_ e;rw [h,Fb]
theorem Sg {a b:List Int}:rb a b=some r↔a=b++r\/b=a++r:=by
 exists Te,fun h=>?_;unfold rb;rcases h with rfl | rfl
 ·have e:min (b++r).length b.length=b.length:=by rw [Jc]; lia
  rw [e,Fb,J9,Df rfl,List.drop_left,Fc,Ga]
 ·have e:min a.length (a++r).length=a.length:=by rw [Jc]; lia
  rw [e,Fb,J9,Df rfl,List.drop_left,Fc,List.nil_append]
theorem Zdm (a b:List Int):rb a b=rb b a:=by
 have h:∀ r,rb a b=some r↔rb b a=some r:=fun r=>by rw [Sg,Sg,or_comm]
 cases e:rb a b with
 | some r=>exact ((h r).mp e).symm
 | none =>
  cases e2:rb b a with
  | none=>rfl
  | some r=>rw [(h r).mpr e2] at e; cases e
def Zgw {a b:List Int}:r∈rs2 a b++rs2 b a↔rb a b=some r:=by rw [Jn,Rw,Rw,Sg]
def Ov.pair {i j:Nat} {a b:List Int} (hij:i≠j) (h1:ws[i]?=some a) (h2:ws[j]?=some b) (e:rb a b=some r):Ov ws r:=by
 rcases Nat.lt_or_gt_of_ne hij with z | z
 ·exact .first z h1 h2 (by rw [Zdm]; exact e)
 ·exact .first z h2 h1 e
theorem Zop {m:Nat} (h:∀ w∈ws,w≠[]/\w.length<=m+1) (o:Ov ws r):r.length<=m/\∀ b∈r,∃ w∈ws,b∈w:=by
 have pos:∀ w∈ws,0<w.length:=fun w hw=>Gc.mpr (h w hw).1
 induction o with
 | @first i j a b r _ h1 h2 e =>
  have ma:=Gb h1;have mb:=Gb h2;have p1:=pos _ ma;have p2:=pos _ mb;have l1:=(h _ ma).2;have l2:=(h _ mb).2;rcases Sg.mp e with z | z
  ·exists ?_,fun y hy=>⟨b,mb,by rw [z]; exact Ji _ hy⟩;rw [z,Jc] at l2; lia
  ·exists ?_,fun y hy=>⟨a,ma,by rw [z]; exact Ji _ hy⟩;rw [z,Jc] at l1; lia
 | @more r w q _ ne hw e ih =>
  have p1:=pos _ hw;have l1:=(h _ hw).2;have p2:0<r.length:=Gc.mpr ne;rcases Sg.mp e with z | z
  ·exists ?_,fun y hy=>ih.2 y (by rw [z]; exact Ji _ hy);have:=ih.1;rw [z,Jc] at this; lia
  ·exists ?_,fun y hy=>⟨w,hw,by rw [z]; exact Ji _ hy⟩;rw [z,Jc] at l1; lia
theorem Zee [DecidableEq τ]:∀ {zs us:List τ},zs.Nodup->(∀ z∈zs,z∈us)->zs.length<=us.length
 | [],_,_,_=>Jv _
 | z::zs,us,nd,h=>by
  have n2:=G7.mp nd;have hz:=h z Jl;have:=Zee (us:=us.erase z) n2.2 fun y hy=>(List.mem_erase_of_ne (fun e:y=z=>n2.1 (by rw [<- e]; exact hy))).mpr (h y (Jj _ hy));rw [List.length_erase_of_mem hz] at this;have:=Ff hz;rw [Jq];lia
theorem Zkb {bs:List Int} (h:∀ w∈ws,(w≠[]/\w.length<=2)/\∀ b∈w,b∈bs) (lb:bs.length<=40):FewN ws:=fun zs nd hz=>by
 have:=Zee (us:=[]::bs.map fun b=>[b]) nd fun z hz'=>by
  obtain ⟨h1,h2⟩:=Zop (m:=1) (fun w hw=>(h w hw).1) (hz z hz')
  match z,h1,h2 with
  | [],_,_=>exact Jl
  | [y],_,h2 =>
   obtain ⟨w,hw,hy⟩:=h2 y Jl;exact Jj _ (Jp.mpr ⟨y,(h w hw).2 y hy,rfl⟩)
  | _::_::_,h1,_=>exact absurd h1 (by simp)
 rw [Jq,Ja] at this;lia
structure Tf (L:List Pr):Prop where
 len:L.length<=40
 w:∀ p∈L,p.2≠[]/\p.2.length<=4
 nd:(L.map (·.1)).Nodup
 few:FewN (L.map (·.2))
def Tf.words (h:Tf L):(L.map (·.2)).length<=40/\∀ w∈L.map (·.2),w≠[]/\w.length<=4:=⟨by rw [Ja]; exact h.len,fun w hw=>by obtain ⟨p,hp,rfl⟩:=Jp.mp hw; exact h.w p hp⟩
structure ClSt (ws fs ms ns:List (List Int)) (b:Bool):Prop where
 nd:ns.Nodup
 ov:∀ z∈fs++ns,Ov ws z
 le:ms.length<=ns.length
 f:b=false->ns=ms
 t:b=true->ms.length<ns.length
theorem ClSt.put {fs ms ns:List (List Int)} {b:Bool} (h:ClSt ws fs ms ns b) (o:Ov ws r) (hr:r∉fs++ns):ClSt ws fs ms (ns++[r]) true:=by
 have l:=h.le;exists Ba.mpr ⟨h.nd,by simp,fun a ha b hb e=>?_⟩,fun z hz=>?_,?_,(fun e=>nomatch e),fun _=>?_
 ·rw [e,Je.mp hb] at ha; exact hr (Ji _ ha)
 ·rw [<- Jt] at hz;rcases Jn.mp hz with y | y
  ·exact h.ov z y
  ·rw [Je.mp y]; exact o
 ·rw [Jc]; lia
 ·rw [Jc]; show _<_+1; lia
theorem Znb (f:∀ {i j:Nat} {a b r:List Int},i≠j->ws[i]?=some a->ws[j]?=some b->a=b++r->r∈ks) (c:∀ z∈ks,z≠[]->∀ w∈ws,∀ q,rb z w=some q->q∈ks) (o:Ov ws r):r∈ks:=by
 induction o with
 | first hij h1 h2 e =>
  rcases Sg.mp e with z | z
  ·exact f (Nat.ne_of_gt hij) h2 h1 z
  ·exact f (Gi hij) h1 h2 z
 | more _ ne hw e ih=>exact c _ ih ne _ hw _ e
section
def stG (M:Mem) (d:D) (x:St4):Prop:=∃ da db,d=.tup [.int x.1,wD x.2.1,da,db]/\Z3 M da=some (x.2.2.1.map .int)/\Z3 M db=some (x.2.2.2.map .int)
theorem Zjg {d:D} {x:St4} (R:Rel C Z I α H M) (r:Rep C I α v d) (h:stG M d x):StAt C.k H v x:=by
 obtain ⟨da,db,rfl,e1,e2⟩:=h;cases r with
 | @tup a _ _ ea r =>
  cases r with
  | cons r1 r =>
   cases r with
   | cons r2 r =>
    cases r with
    | cons r3 r =>
     cases r with
     | cons r4 r =>
      cases r;cases r1;cases r2 with
      | @tup b _ _ eb rb =>
       obtain ⟨c,vs,rfl,ec,rc⟩:=Y3 R r3 e1;obtain ⟨d,ws,rfl,ed,rd⟩:=Y3 R r4 e2;rw [Reps.of_ints _ rb] at eb;rw [Reps.of_ints _ rc] at ec;rw [Reps.of_ints _ rd] at ed;exists a,b,c,d,rfl,SqT.of (R.sub _ _ ea),SqT.of (R.sub _ _ eb),ec,ed
def Zos:List D->Mem->K3->Prop:=fun ds M K=>∃ (d:D) (xs:List D) (zs:List St4),ds=[d]/\Z3 M d=some xs/\xs.length=zs.length/\(∀ (i:Nat) (h1:i<xs.length) (h2:i<zs.length),stG M xs[i] zs[i])/\0<zs.length/\∀ k (h:k<xs.length),k=Xj (fun i j=>ltS (zs.getD i (0,[],[],[])) (zs.getD j (0,[],[],[]))) (zs.length-1)->K xs[k] M
theorem Zln:SimC C Z (Zly C.k) Zos:=fun I α H M xs ds K Q R r h k=>by
 obtain ⟨d,ys,zs,rfl,e,ly,hs,hn,h⟩:=h;cases r with
 | cons r1 r2 =>
  cases r2;obtain ⟨a,vs,rfl,ea,ra⟩:=Y3 R r1 e;have hl:vs.length=ys.length:=ra.length;have at':∀ (i:Nat) (h1:i<vs.length) (h2:i<ys.length),Rep C I α vs[i] ys[i]:=fun i h1 h2=>ra.at h1 h2;exists a,vs,zs,rfl,ea,by lia,by lia,fun i h1 h2=>Zjg R (at' i h1 (by lia)) (hs i (by lia) h2),fun j hj ej=>k _ _ I α H M (.refl _) (Jd _) R (at' j hj (by lia)) (h j (by lia) ej)
def Zmf (f:List Int->List Int->Bool):List D->Mem->K3->Prop:=fun ds M K=>∃ (d e:D) (ns ms:List Int),ds=[d,e]/\Z3 M d=some (ns.map .int)/\Z3 M e=some (ms.map .int)/\K (if f ns ms then e else d) M
theorem Zdc {f:List Int->List Int->Bool}:SimC C Z (Zdq C.k f) (Zmf f):=fun I α H M xs ds K Q R r h k=>by
 obtain ⟨d,e,ns,ms,rfl,e1,e2,h⟩:=h;cases r with
 | cons r1 r2 =>
  cases r2 with
  | cons r2 r3 =>
   cases r3;obtain ⟨a,vs,rfl,ea,ra⟩:=Y3 R r1 e1;obtain ⟨b,ws,rfl,eb,rb⟩:=Y3 R r2 e2;rw [Reps.of_ints _ ra] at ea;rw [Reps.of_ints _ rb] at eb;exists a,b,ns,ms,rfl,ea,eb,fun p hp=>?_;have R2:=R.same (Ze (o:=.tup [.ref a,.ref b]) hp);cases hb:f ns ms with
   | true=>rw [hb] at h; exact k _ _ I α _ M (.refl _) (Jd _) R2 r2 h
   | false=>rw [hb] at h; exact k _ _ I α _ M (.refl _) (Jd _) R2 r1 h
end
abbrev Cs:=Int×List Int×Nat×Nat
def csD (c:Cs):D:=.tup [.int c.1,wD c.2.1,.cell c.2.2.1,.cell c.2.2.2]
def tx (t:List Int):MO:=.lst (t.map .int)
structure At4 (M:Mem) (n0:Nat) (c:Cs) (x:St4):Prop where
 s:c.1=x.1
 r:c.2.1=x.2.1
 a:M[c.2.2.1]?=some (tx x.2.2.1)
 b:M[c.2.2.2]?=some (tx x.2.2.2)
 ge1:n0<=c.2.2.1
 ge2:n0<=c.2.2.2
 ne:c.2.2.1≠c.2.2.2
def Vs {X:Mem} {k:Nat} {m:MO} (h:M[k]?=some m):(M++X)[k]?=some m:=by rw [Jx (Jh.mp h).1]; exact h
def At4.up {X:Mem} {c:Cs} {x:St4} (h:At4 M n0 c x):At4 (M++X) n0 c x:=⟨h.s,h.r,Vs h.a,Vs h.b,h.ge1,h.ge2,h.ne⟩
def At4.g {c:Cs} {x:St4} (h:At4 M n0 c x):stG M (csD c) x:=⟨.cell c.2.2.1,.cell c.2.2.2,by unfold csD; rw [h.s,h.r],by simp only [Z3,h.a,tx],by simp only [Z3,h.b,tx]⟩
theorem At4.set {k:Nat} {c:Cs} {x:St4} (h:At4 M n0 c x) (hk:k<n0):At4 (M.set k m') n0 c x :=
 ⟨h.s,h.r,by rw [Gx (by have:=h.ge1; lia)]; exact h.a,by rw [Gx (by have:=h.ge2; lia)]; exact h.b,h.ge1,h.ge2,h.ne⟩
def Ats (M:Mem) (n0:Nat) (cs:List Cs) (xs:List St4):Prop:=cs.length=xs.length/\∀ (i:Nat) (h1:i<cs.length) (h2:i<xs.length),At4 M n0 cs[i] xs[i]
def Ats.nil :Ats M n0 [] []:=⟨rfl,fun i h1=>absurd h1 (G2 _)⟩
def Ats.up {X:Mem} {cs:List Cs} {xs:List St4} (h:Ats M n0 cs xs):Ats (M++X) n0 cs xs:=⟨h.1,fun i h1 h2=>(h.2 i h1 h2).up⟩
def Ats.set {k:Nat} {cs:List Cs} {xs:List St4} (h:Ats M n0 cs xs) (hk:k<n0):Ats (M.set k m') n0 cs xs:=⟨h.1,fun i h1 h2=>(h.2 i h1 h2).set hk⟩
theorem Ats.app {cs cs':List Cs} {xs xs':List St4} (h:Ats M n0 cs xs) (h':Ats M n0 cs' xs'):Ats M n0 (cs++cs') (xs++xs'):=by
 exists by rw [Jc,Jc,h.1,h'.1],fun i h1 h2=>?_
 by_cases hi:i<cs.length
 ·rw [List.getElem_append_left hi,List.getElem_append_left (by rw [<- h.1]; exact hi)];exact h.2 i hi _
 ·rw [List.getElem_append_right (by lia),List.getElem_append_right (by rw [<- h.1]; lia)];have hl:=h.1;have:=h'.2 (i-cs.length) (by rw [Jc] at h1; lia) (by rw [Jc] at h2; lia);simpa only [hl] using this
theorem Ats.one {c:Cs} {x:St4} (h:At4 M n0 c x):Ats M n0 [c] [x]:=⟨rfl,fun i h1 h2=>by
 match i,h1 with
 | 0,_=>exact h⟩
def Ats.lower {n1:Nat} {cs:List Cs} {xs:List St4} (h:Ats M n0 cs xs) (hn:n1<=n0):Ats M n1 cs xs:=⟨h.1,fun i h1 h2=>let z:=h.2 i h1 h2; ⟨z.s,z.r,z.a,z.b,Jy hn z.ge1,Jy hn z.ge2,z.ne⟩⟩
theorem Ats.filter (f:List Int->Bool):∀ {cs:List Cs} {xs:List St4},Ats M n0 cs xs->Ats M n0 (cs.filter fun c=>f c.2.1) (xs.filter fun x=>f x.2.1)
 | [],[],_=>.nil
 | [],_::_,h=>nomatch h.1
 | _::_,[],h=>nomatch h.1
 | c::cs,x::xs,h=>by
  have h0:At4 M n0 c x:=h.2 0 (Fe _) (Fe _);have hr:Ats M n0 cs xs:=⟨Nat.succ.inj h.1,fun i h1 h2=>h.2 (i+1) (Nat.succ_lt_succ h1) (Nat.succ_lt_succ h2)⟩;have ih:=Ats.filter f hr;rw [B4,B4,h0.r];cases f x.2.1 with
  | true=>exact (Ats.one h0).app ih
  | false=>exact ih
def Zif:Sp3:=fun ds M K=>∃ (c:Cs) (x:St4) (p:Pr) (n0:Nat),ds=[csD c,.int p.1,wD p.2]/\(At4 M n0 c x/\n0<=M.length/\x.2.1.length<=1000/\p.2.length<=1000/\x.2.2.2.length<=1000)/\(sw x p=none->K .non M) /\
 ∀ (y:St4) (t:List Int) (c':Cs),sw x p=some y->At4 (M++[tx t]) n0 c' y->K (csD c') (M++[tx t])
def Sy:Sp3:=fun ds M K=>∃ (L:List Pr) (c:Cs) (x:St4) (n0:Nat),ds=[.lst (L.map pD),csD c]/\(At4 M n0 c x/\n0<=M.length/\L.length<=40/\(∀ p∈L,p.2.length<=4)/\x.2.1.length<=1000/\x.2.2.2.length<=1000) /\
 ∀ (J:List MO) (cs:List Cs),Ats (M++J) n0 cs (L.filterMap (sw x))->K (.lst (cs.map csD)) (M++J)
def Zfi:Sp3:=fun ds M K=>∃ (L:List Pr),ds=[.lst (L.map pD)]/\(L.length<=40/\∀ p∈L,p.2.length<=4)/\∀ (J:List MO) (cs:List Cs),Ats (M++[.lst (cs.map csD)]++J) (M.length+1) cs (fss L L.length)->K (.cell M.length) (M++[.lst (cs.map csD)]++J)
def Zkg:Sp3:=fun ds M K=>∃ (L:List Pr),ds=[.lst (L.map pD)]/\Tf L/\(UD L->K .non M) /\
 ∀ (a b ρ:List Int) (J:List MO) (i j:Nat),a≠b->HT.lexLt a b=true->Rdg L ρ a->Rdg L ρ b->a.length<=100->b.length<=100->(M++J)[i]?=some (tx a)->(M++J)[j]?=some (tx b)->i≠j->M.length<=i->M.length<=j->K (.tup [.cell i,.cell j]) (M++J)
end L3
namespace K55
open PySem L2
def top (i:Nat):Stmt:=PySem.Challenge.pw_skewread_k55_whole_two_texts_or_the_pape.main.body.getD i (.Pass ⟨0,0,0,0⟩)
abbrev Jby:Stmt:=top 17
def Jao:FnScope ["_law_hand", "_law_many", "_law_got", "_law_cell", "_law_number"] ["_law_hand", "_law_many"] (Zk Jby):=(by rfl')
abbrev Jai:Stmt:=top 16
def Jaz:FnScope ["_law_script", "_law_place", "_law_cells", "_law_at", "_law_digits"] ["_law_script", "_law_place"] (Zk Jai):=(by rfl')
abbrev Jbc:Stmt:=top 18
def Jac:FnScope ["_law_hand", "_law_most", "_law_begin", "_law_step"] ["_law_hand", "_law_most"] (Zk Jbc):=(by rfl')
abbrev D6:Stmt:=top 19
def Jaj:FnScope ["_law_hand", "_law_some", "_law_most", "_law_longest", "_law_words_here", "_law_k", "_law_at"] ["_law_hand", "_law_some", "_law_most", "_law_longest"] (Zk D6):=(by rfl')
abbrev D5:Stmt:=top 20
def Dt:FnScope ["_law_hand", "_law_many", "_law_begin", "_law_step", "_law_signs_here", "_law_at"] ["_law_hand", "_law_many"] (Zk D5):=(by rfl')
abbrev Jat:Stmt:=top 21
def Jcb:FnScope ["_law_hand", "_law_some", "_law_words_here", "_law_k"] ["_law_hand", "_law_some"] (Zk Jat):=(by rfl')
abbrev Jad:Stmt:=top 22
def Dw:FnScope ["_law_hand", "_law_most", "_law_longest", "_law_some", "_law_way", "_law_words_here", "_law_one_here", "_law_other", "_law_more", "_law_at", "_law_signs_here"] ["_law_hand", "_law_most", "_law_longest"] (Zk Jad):=(by rfl')
abbrev Y4:Stmt:=top 1
def Jaa:FnScope ["one", "other", "shared"] ["one", "other"] (Zk Y4):=(by rfl')
abbrev Ys:Stmt:=top 3
def Jbr:FnScope ["part", "words", "rests"] ["part", "words"] (Zk Ys):=(by rfl')
abbrev Xf:Stmt:=top 2
def Jbz:FnScope ["words", "found", "place", "word"] ["words"] (Zk Xf):=(by rfl')
abbrev Xt:Stmt:=top 4
def Jce:FnScope ["table", "words", "found", "waiting", "rest"] ["table"] (Zk Xt):=(by rfl')
abbrev Yr:Stmt:=top 5
def Jay:FnScope ["table", "some", "asked"] ["table", "some"] (Zk Yr):=(by rfl')
abbrev Wh:Stmt:=top 12
def Jbl:FnScope ["table", "row", "place"] ["table", "row", "place"] (Zk Wh):=(by rfl')
abbrev Xg:Stmt:=top 13
def Jbj:FnScope ["table", "row", "counts", "place"] ["table", "row"] (Zk Xg):=(by rfl')
abbrev Yt:Stmt:=top 14
def Jbm:FnScope ["table", "row"] ["table", "row"] (Zk Yt):=(by rfl')
abbrev Xs:Stmt:=top 10
def D7:FnScope ["step", "sign", "word", "rest", "text"] ["step", "sign", "word"] (Zk Xs):=(by rfl')
abbrev Yu:Stmt:=top 9
def Jba:FnScope ["table", "step", "steps"] ["table", "step"] (Zk Yu):=(by rfl')
abbrev Xe:Stmt:=top 8
def Jbn:FnScope ["table", "steps", "place", "pair"] ["table"] (Zk Xe):=(by rfl')
abbrev Wx:Stmt:=top 7
def Jbg:FnScope ["table", "settled", "waiting", "step"] ["table"] (Zk Wx):=(by rfl')
abbrev Jal:Stmt:=top 23
def Jbe:FnScope ["_law_table", "_law_text", "_law_row", "_law_sign", "_law_other", "_law_word"] ["_law_table", "_law_text"] (Zk Jal):=(by rfl')
abbrev Jar:Stmt:=top 24
def Jbh:FnScope ["_law_hand", "_law_table", "_law_most", "_law_row", "_law_k", "_law_way", "_law_at"] ["_law_hand", "_law_table", "_law_most"] (Zk Jar):=(by rfl')
abbrev Jcd:Stmt:=top 25
def D9:FnScope ["_law_table", "_law_row", "_law_ways", "_law_at", "_law_sign", "_law_word"] ["_law_table", "_law_row"] (Zk Jcd):=(by rfl')
abbrev Jap:Stmt:=top 26
def Dq:FnScope ["_law_longer", "_law_shorter"] ["_law_longer", "_law_shorter"] (Zk Jap):=(by rfl')
abbrev Dy:Stmt:=top 27
def Jaw:FnScope ["_law_table", "_law_known", "_law_i", "_law_j", "_law_again", "_law_member", "_law_sign", "_law_word", "_law_rest_here"] ["_law_table"] (Zk Dy):=(by rfl')
abbrev Jam:Stmt:=top 28
def D2:FnScope ["_law_one_here"] ["_law_one_here"] (Zk Jam):=(by rfl')
abbrev Ds:Stmt:=top 29
def Dx:FnScope ["_law_told", "_law_due", "_law_text", "_law_other"] ["_law_told", "_law_due"] (Zk Ds):=(by rfl')
abbrev Jbq:Stmt:=top 30
def D0:FnScope ["_law_table", "_law_told", "_law_signs_here", "_law_text", "_law_row"] ["_law_table", "_law_told"] (Zk Jbq):=(by rfl')
abbrev Jan:Stmt:=top 31
def D8:FnScope ["_law_hand", "_law_table", "_law_pairs", "_law_due", "_law_told", "_law_paper", "_law_k", "_law_row"] ["_law_hand", "_law_table"] (Zk Jan):=(by rfl')
abbrev Jbv:Stmt:=top 32
def Jbo:FnScope ["_law_hand", "_law_begin", "_law_some", "_law_words_here", "_law_k", "_law_signs_here"] ["_law_hand"] (Zk Jbv):=(by rfl')
abbrev Ro:Stmt:=top 33
def Jak:FnScope ["_law_script", "_law_place", "_law_hand", "_law_table"] ["_law_script"] (Zk Ro):=(by rfl')
structure Txt (mg:Str->Option Value):Prop where
 b_len:mg "len"=none
 b_abs:mg "abs"=none
 b_max:mg "max"=none
 b_min:mg "min"=none
 b_all:mg "all"=none
 b_range:mg "range"=none
 b_int:mg "int"=none
 b_bool:mg "bool"=none
 b_tuple:mg "tuple"=none
 b_list:mg "list"=none
 b_set:mg "set"=none
 b_sum:mg "sum"=none
 b_isinstance:mg "isinstance"=none
 b_sorted:mg "sorted"=none
 b_enumerate:mg "enumerate"=none
 b_zip:mg "zip"=none
section
theorem Do (T:Txt mg) {f:Addr} (F:Fun K "_law_draw" "_law_draw" Jby f fd):FnOk P w K mg base CX0 1 f fd ["_law_hand", "_law_many"] Q0:=by
 refine F.ok Jao (fun vs H Q E h=>?_) (fun cdv A outer s H vs Q E hr h=>?_)
 ·obtain ⟨p,a,n,rfl,_⟩:=h;rfl
 ·obtain ⟨p,a,n,rfl,hh,hn0,hn1,k⟩:=h;obtain ⟨d,i,cs,e1,e2,hne,hlen,hd,hi,hc⟩:=hh.ex;have npa:p≠a:=hh.ne;have SC:=Jao;have fin:∀ (r d' i':Int),0<=r->r<n->0<=d'->0<=i'->Q (.int r) (upd H p (.lst [.int d',.int i',.ref a])):=fun r d' i' h1 h2 h3 h4 =>
   k r _ h1 h2 ⟨d',i',cs,Zn,by rw [Z4 npa.symm]; exact e2,hne,hlen,h3,h4,hc⟩ (fun b o e nb=>by rw [Z4 nb]; exact e) fun b nb=>by rw [Z4 nb]
  refine ⟨_,(Zf (Y7 (Zw S2 (Z8 Xk (pv 0) Zg (fun _ _=>rfl)) Zg (Z6 _))
 (Zf (Zs (i:=2) SC.nd rfl (Or.inl rfl) (Zx Xm (Z8 Xk (pv 0) Zg (fun _ _=>rfl)) (pv 1)))
 (Zf (Zdx (Zx Zeb (Z8 Xk (pv 0) Zg (fun _ _=>rfl)) (pv 1)) (Zd1 (pv 0) Zg Ur))
 (Zi (Zy (pv 2)))))
 Z0)
 (Zf (Zdw (pv 0) Zg Pb Zg Zh6 Ur)
 (Zf (Zs (i:=3) SC.nd rfl (Or.inl rfl) (Zx Xm (Z8 Xk (Z8 Xk (pv 0) Zg (fun _ _=>rfl)) (Zx Xm (Z8 Xk (pv 0) Zg (fun _ _=>rfl)) (Zo V7 (by rfl) T.b_len Dl (Za (Z8 Xk (pv 0) Zg (fun _ _=>rfl)) Zc))) (fun _ _=>rfl)) Zg))
 (Zf (Zs (i:=4) SC.nd rfl (Or.inl rfl) (Zx Xm (Zx Wt (Zx Wt (Zx Vm (pv 3) Zg) (Zx Vm (Z8 Xk (pv 0) Zg (fun _ _=>rfl)) Zg)) Zg) Zg))
 (Zf (Zs (i:=4) SC.nd rfl (Or.inl rfl) (Zx Xm (Zx Wt (Zx Vm (pv 4) (pv 4)) (Z8 Xk (pv 0) Zg (fun _ _=>rfl))) Zg))
 (Zf (Zs (i:=4) SC.nd rfl (Or.inl rfl) (Zx Xm (Zx Wt (Zx Vm (pv 4) Zg) Zg) Zg))
 (Zi (Zy (Zx Xm (Zx Zeb (Zx Xm (Zx Vm (pv 4) (pv 4)) Zg) Zg) (pv 1)))))))))),?_⟩
  exists ·,p,_,_,·,rfl,SqL.of e1,rfl,_,·,rfl,·,?_;refine ite2 (fun h0=>?_) (fun h0=>?_)
  ·exists ·,p,_,_,·,rfl,SqL.of e1,rfl,·,_,·,rfl,hn0,?_;exists ·,p,_,_,·,rfl,SqL.of e1,rfl,·,_,·,rfl,⟨hn0,hn1⟩,·,p,_,_,0,rfl,rfl,e1,rfl,?_;exists ·,?_;exact fin _ _ _ (G1 _ (by lia)) (G0 _ hn0) (Int.ediv_nonneg hd (by lia)) hi
  ·have e1':(upd H p (.lst [.int d,.int (i+1),.ref a])) p=some (.lst [.int d,.int (i+1),.ref a]):=Zn;have e2':(upd H p (.lst [.int d,.int (i+1),.ref a])) a=some (.lst (cs.map V.int)):=by rw [Z4 npa.symm]; exact e2
   obtain ⟨c,hc1,hc2⟩:=Zad hne (i+1);have hlp:(0:Int)<(((cs.map V.int).length:Nat):Int):=by
    rw [Ja];have:=Gc.mpr hne;lia
   refine ⟨_,rfl,p,_,1,_,rfl,rfl,SqL.of e1,rfl,_,_,rfl,rfl,p,_,_,1,rfl,rfl,e1,rfl,?_⟩;refine ⟨_,rfl,p,_,_,_,rfl,rfl,SqL.of e1',rfl,_,rfl,p,_,_,_,rfl,rfl,SqL.of e1',rfl,_,rfl,p,_,_,_,rfl,rfl,SqL.of e1',rfl,_,_,rfl,.inl ⟨_,SqL.of e2',rfl⟩,_,_,rfl,rfl,hlp,
    a,_,_,_,rfl,rfl,SqL.of e2',hc2,_,_,rfl,rfl,(by show (0:Int)<_; decide),?_⟩
   exists ·,_,·,rfl,.inr ⟨nofun,nofun⟩,·,p,_,_,·,rfl,SqL.of e1',rfl,_,·,rfl,.inr ⟨nofun,nofun⟩,_,·,rfl,_,·,rfl,_,·,rfl,(by show (0:Int)<_; decide),?_;generalize hx:(c % 2147483647*48271+(i+1)*7368787+11) % 998244353=x;have x0:0<=x:=by rw [<- hx]; exact G1 _ nofun
   have x1:x<998244353:=by rw [<- hx]; exact G0 _ nofun
   exists ·,·,_,·,rfl,.inl ⟨by lia,by lia⟩,·,p,_,_,·,rfl,SqL.of e1',rfl,_,·,rfl,_,·,rfl,(by show (0:Int)<_; decide),?_;generalize hy:(x*x+(i+1)) % 998244353=y;exists ·,_,·,rfl,.inr ⟨nofun,nofun⟩,_,·,rfl,_,·,rfl,(by show (0:Int)<_; decide),?_;generalize hz:(y*40503203+12345) % 2147483647=z;have z0:0<=z:=by rw [<- hz]; exact G1 _ nofun
   have z1:z<2147483647:=by rw [<- hz]; exact G0 _ nofun
   exists ·,·,_,·,rfl,.inl ⟨by lia,by lia⟩,_,·,rfl,(by show (0:Int)<_; decide),_,·,rfl,⟨nofun,nofun⟩,·,_,·,rfl,hn0,?_;exact fin _ _ _ (G1 _ (by lia)) (G0 _ hn0) hd (by show 0<=i+1; lia)
theorem Jcf (T:Txt mg) {f:Addr} (F:Fun K "_law_open" "_law_open" Jai f fd):FnOk P w K mg base CX0 1 f fd ["_law_script", "_law_place"] (Zhp K):=by
 refine F.ok Jaz (fun vs H Q E h=>?_) (fun cdv A outer s H vs Q E hr h=>?_)
 ·obtain ⟨s,ns,i,rfl,_⟩:=h;rfl
 ·obtain ⟨s0,ns,i,rfl,hS,hlen,hi0,hi1,k⟩:=h;have SC:=Jaz;have hu:=hr.units;refine ⟨_,(Zf (Ub (i:=2) SC.nd rfl rfl (T:=["_law_cell"]) (cs:=[]) rfl (CScope.ok (by kernel_rfl)) (Ye (Z5 Vg (pv 0) Yg (Z7 Zg))) (fun _ _ _ _=>(Zr (i:=0) (Xn (by kernel_rfl)) rfl (Or.inl rfl) (Or.inr rfl))) (fun _ _ _ _=>Y6) (fun _ _ _ _=>(Zo Zhb (by rfl) T.b_abs PyProof.Rows.boot_abs (Za (pv 0) Zc))) (Y2 nofun))
 (Zf (Y7 (Zw (Zh4 hu) (pv 2) (Y0 Zc) (Z6 _))
 (Zi (Zs (i:=2) SC.nd rfl (Or.inl rfl) (Y0 (Za Zg Zc))))
 Z0)
 (Zf (Zs (i:=3) SC.nd rfl (Or.inl rfl) (Zx Xm (pv 1) (Zo V7 (by rfl) T.b_len Dl (Za (pv 2) Zc))))
 (Zf (Zs (i:=4) SC.nd rfl (Or.inl rfl) Zg)
 (Zf (Y7 (PW.pt (Zh0 (Zw Zmc (Z8 Xk (pv 2) (pv 3) (fun _ _=>rfl)) (Zx Zd9 Zg Zg) (Z6 _)) (Zdu (Zw Zma (pv 1) (Zo V7 (by rfl) T.b_len Dl (Za (pv 2) Zc)) (Z6 _)))))
 (Zi (Zs (i:=4) SC.nd rfl (Or.inl rfl) (Z8 Xk (pv 2) (pv 3) (fun _ _=>rfl))))
 Z0)
 (Zi (Zy (Y0 (Za (pv 4) (Za (Zx Wt Zg (Zx Vm Zg (pv 1))) (Za (Zx Pe (Z5 Vg (pv 2) (Z7 (pv 3)) Yg) (Z5 Vg (pv 2) Yg (Z7 (pv 3)))) Zc))))))))))),?_⟩
  obtain ⟨ms,ems,lms,_⟩:=Zg6 ns none (some 63);refine ⟨_,rfl,_,rfl,s0,_,rfl,hS,fun q hq=>⟨q,rfl,⟨_,SqL.of Zn⟩,Tm (n:=ms.length) (fun j ys H'=>∃ as:List Int,ys=as.map V.int/\as.length=j/\(∀ c∈as,0<=c)/\H'=upd H q (.lst (cutV (ns.map V.int) none (some 63))))
   ⟨[],rfl,rfl,fun _ h=>(nomatch h),rfl⟩ ?_ (Zh (by lia)) ?_ ?_ ?_ ?_⟩⟩
  ·rintro j ys H' ⟨as,rfl,rfl,_⟩;rw [Ja];exact Jf _
  ·rintro j ys H' hj ⟨as,rfl,rfl,_,rfl⟩;exists _,.int (ms[as.length]'hj),SqL.of Zn,?_;rw [ems,Js,Jb hj];rfl
  ·rintro ys H' ⟨as,rfl,hl,_,rfl⟩;exact ⟨_,SqL.of Zn,by rw [ems,Ja]; exact Jf _⟩
  ·rintro j ys H' hj ⟨as,rfl,rfl,hp,rfl⟩ x H2 ⟨rfl,y⟩;have hx:=y _ (SqL.of Zn);rw [ems,Js,Jb hj] at hx;cases hx;exists ·,·,as++[_],by rw [Jm]; rfl,by rw [Jc]; rfl,fun c hc=>?_,rfl;rcases Jn.mp hc with z | z
   ·exact hp c z
   ·rw [Je.mp z]
    split <;> lia
  ·rintro ys H' ⟨as,rfl,hl,hp,rfl⟩ c0 hc0;have s1:Same H (upd H q (.lst (cutV (ns.map V.int) none (some 63)))):=Ze hq;generalize upd H q (.lst (cutV (ns.map V.int) none (some 63)))=H1 at hc0 s1;have s2:Same H (upd H1 c0 (.lst (as.map V.int))):=s1.trans (Ze hc0);have n0:H c0=none:=s1.free hc0;have e0:(upd H1 c0 (.lst (as.map V.int))) c0=some (.lst (as.map V.int)):=Zn;generalize upd H1 c0 (.lst (as.map V.int))=H2 at s2 e0;have hla:as.length<=63:=by lia
   exists ·,Jv _,fun l hl=>⟨_,_,DV.lst (SqL.of ((Ze hl) _ _ e0)) (V5 as),DV.lst (SqL.of Zn) .nil,(Zau as).shaped nofun,(Zau []).shaped nofun,_,rfl,?_⟩;rw [Zkc];have s3:Same H (upd H2 l (.lst [])):=s2.trans (Ze hl);have e1:(upd H2 l (.lst [])) c0=some (.lst (as.map V.int)):=(Ze hl) _ _ e0;generalize upd H2 l (.lst [])=H3 at s3 e1;refine ite2 (fun h0=>?_) (fun h0=>?_)
   ·exists by show 1<=sizeLine; decide,fun c1 hc1=>?_;have W:HC H (upd H3 c1 (.lst [.int 0])) c1:=⟨[0],s3.trans (Ze hc1),s3.free hc1,Zn,by simp,nofun,by simp⟩
    revert W
    generalize upd H3 c1 (.lst [.int 0])=H4;intro W;obtain ⟨as4,s4,n4,e4,hne,hl4,hp4⟩:=W;obtain ⟨c,hc1,hc2⟩:=Zad hne i;obtain ⟨cs,ecs,ncs,lcs,mcs⟩:=spun hne i;have hlp:(0:Int)<(((as4.map V.int).length:Nat):Int):=by
     rw [Ja];have:=Gc.mpr hne;lia
    exists ·,·,_,·,.inl ⟨_,SqL.of e4,rfl⟩,_,·,rfl,hlp,?_;exists ·,·,_,_,_,·,rfl,SqL.of e4,hc2,_,·,rfl,⟨nofun,nofun,nofun⟩,_,·,rfl,·,?_;refine ite2 (fun _=>?_) (fun _=>?_)
    ·exists ·,·,_,·,.inl ⟨_,SqL.of e4,rfl⟩,_,·,rfl,·,?_;refine ite2 (fun _=>?_) (fun _=>?_)
     ·refine ⟨_,rfl,_,rfl,_,_,_,_,rfl,rfl,SqL.of e4,hc2,?_⟩;exact ⟨_,rfl,_,rfl,_,_,rfl,rfl,.inl ⟨nofun,nofun⟩,_,_,rfl,rfl,_,rfl,_,rfl,_,rfl,_,_,rfl,SqL.of e4,fun l1 hl1=>⟨_,rfl,_,rfl,_,rfl,_,_,rfl,SqL.of ((Ze hl1) _ _ e4),fun l2 hl2 =>
       ⟨l1,l2,_,_,rfl,rfl,(Ze hl2) _ _ Zn,Zn,by rw [<- Jc,ecs,Ja]; exact Zh (by lia),fun l3 hl3=>⟨by show 3<=sizeLine; decide,fun p hp =>
        k p l3 _ (s4.free ((Ze hl1).free ((Ze hl2).free ((Ze hl3).free hp)))) (s4.free ((Ze hl1).free ((Ze hl2).free hl3)))
         ⟨_,_,cs,Zn,by rw [<- ecs]; exact (Ze hp) _ _ Zn,ncs,by lia,by first | exact hp4 _ hc1 | decide,by lia,fun x hx=>hp4 x (mcs x hx)⟩
         (((s4.trans (Ze hl1)).trans (Ze hl2)).trans ((Ze hl3).trans (Ze hp)))⟩⟩⟩⟩
     ·exact ⟨_,rfl,_,rfl,_,_,rfl,rfl,.inl ⟨nofun,nofun⟩,_,_,rfl,rfl,_,rfl,_,rfl,_,rfl,_,_,rfl,SqL.of e4,fun l1 hl1=>⟨_,rfl,_,rfl,_,rfl,_,_,rfl,SqL.of ((Ze hl1) _ _ e4),fun l2 hl2 =>
       ⟨l1,l2,_,_,rfl,rfl,(Ze hl2) _ _ Zn,Zn,by rw [<- Jc,ecs,Ja]; exact Zh (by lia),fun l3 hl3=>⟨by show 3<=sizeLine; decide,fun p hp =>
        k p l3 _ (s4.free ((Ze hl1).free ((Ze hl2).free ((Ze hl3).free hp)))) (s4.free ((Ze hl1).free ((Ze hl2).free hl3)))
         ⟨_,_,cs,Zn,by rw [<- ecs]; exact (Ze hp) _ _ Zn,ncs,by lia,by first | exact hp4 _ hc1 | decide,by lia,fun x hx=>hp4 x (mcs x hx)⟩
         (((s4.trans (Ze hl1)).trans (Ze hl2)).trans ((Ze hl3).trans (Ze hp)))⟩⟩⟩⟩
    ·refine iteF ?_;exact ⟨_,rfl,_,rfl,_,_,rfl,rfl,.inl ⟨nofun,nofun⟩,_,_,rfl,rfl,_,rfl,_,rfl,_,rfl,_,_,rfl,SqL.of e4,fun l1 hl1=>⟨_,rfl,_,rfl,_,rfl,_,_,rfl,SqL.of ((Ze hl1) _ _ e4),fun l2 hl2 =>
       ⟨l1,l2,_,_,rfl,rfl,(Ze hl2) _ _ Zn,Zn,by rw [<- Jc,ecs,Ja]; exact Zh (by lia),fun l3 hl3=>⟨by show 3<=sizeLine; decide,fun p hp =>
        k p l3 _ (s4.free ((Ze hl1).free ((Ze hl2).free ((Ze hl3).free hp)))) (s4.free ((Ze hl1).free ((Ze hl2).free hl3)))
         ⟨_,_,cs,Zn,by rw [<- ecs]; exact (Ze hp) _ _ Zn,ncs,by lia,by first | exact hp4 _ hc1 | decide,by lia,fun x hx=>hp4 x (mcs x hx)⟩
         (((s4.trans (Ze hl1)).trans (Ze hl2)).trans ((Ze hl3).trans (Ze hp)))⟩⟩⟩⟩
   ·have W:HC H H3 c0:=⟨as,s3,n0,e1,by simpa using h0,hla,hp⟩;obtain ⟨as4,s4,n4,e4,hne,hl4,hp4⟩:=W;obtain ⟨c,hc1,hc2⟩:=Zad hne i;obtain ⟨cs,ecs,ncs,lcs,mcs⟩:=spun hne i;have hlp:(0:Int)<(((as4.map V.int).length:Nat):Int):=by
     rw [Ja];have:=Gc.mpr hne;lia
    exists ·,·,_,·,.inl ⟨_,SqL.of e4,rfl⟩,_,·,rfl,hlp,?_;exists ·,·,_,_,_,·,rfl,SqL.of e4,hc2,_,·,rfl,⟨nofun,nofun,nofun⟩,_,·,rfl,·,?_;refine ite2 (fun _=>?_) (fun _=>?_)
    ·exists ·,·,_,·,.inl ⟨_,SqL.of e4,rfl⟩,_,·,rfl,·,?_;refine ite2 (fun _=>?_) (fun _=>?_)
     ·refine ⟨_,rfl,_,rfl,_,_,_,_,rfl,rfl,SqL.of e4,hc2,?_⟩;exact ⟨_,rfl,_,rfl,_,_,rfl,rfl,.inl ⟨nofun,nofun⟩,_,_,rfl,rfl,_,rfl,_,rfl,_,rfl,_,_,rfl,SqL.of e4,fun l1 hl1=>⟨_,rfl,_,rfl,_,rfl,_,_,rfl,SqL.of ((Ze hl1) _ _ e4),fun l2 hl2 =>
       ⟨l1,l2,_,_,rfl,rfl,(Ze hl2) _ _ Zn,Zn,by rw [<- Jc,ecs,Ja]; exact Zh (by lia),fun l3 hl3=>⟨by show 3<=sizeLine; decide,fun p hp =>
        k p l3 _ (s4.free ((Ze hl1).free ((Ze hl2).free ((Ze hl3).free hp)))) (s4.free ((Ze hl1).free ((Ze hl2).free hl3)))
         ⟨_,_,cs,Zn,by rw [<- ecs]; exact (Ze hp) _ _ Zn,ncs,by lia,by first | exact hp4 _ hc1 | decide,by lia,fun x hx=>hp4 x (mcs x hx)⟩
         (((s4.trans (Ze hl1)).trans (Ze hl2)).trans ((Ze hl3).trans (Ze hp)))⟩⟩⟩⟩
     ·exact ⟨_,rfl,_,rfl,_,_,rfl,rfl,.inl ⟨nofun,nofun⟩,_,_,rfl,rfl,_,rfl,_,rfl,_,rfl,_,_,rfl,SqL.of e4,fun l1 hl1=>⟨_,rfl,_,rfl,_,rfl,_,_,rfl,SqL.of ((Ze hl1) _ _ e4),fun l2 hl2 =>
       ⟨l1,l2,_,_,rfl,rfl,(Ze hl2) _ _ Zn,Zn,by rw [<- Jc,ecs,Ja]; exact Zh (by lia),fun l3 hl3=>⟨by show 3<=sizeLine; decide,fun p hp =>
        k p l3 _ (s4.free ((Ze hl1).free ((Ze hl2).free ((Ze hl3).free hp)))) (s4.free ((Ze hl1).free ((Ze hl2).free hl3)))
         ⟨_,_,cs,Zn,by rw [<- ecs]; exact (Ze hp) _ _ Zn,ncs,by lia,by first | exact hp4 _ hc1 | decide,by lia,fun x hx=>hp4 x (mcs x hx)⟩
         (((s4.trans (Ze hl1)).trans (Ze hl2)).trans ((Ze hl3).trans (Ze hp)))⟩⟩⟩⟩
    ·refine iteF ?_;exact ⟨_,rfl,_,rfl,_,_,rfl,rfl,.inl ⟨nofun,nofun⟩,_,_,rfl,rfl,_,rfl,_,rfl,_,rfl,_,_,rfl,SqL.of e4,fun l1 hl1=>⟨_,rfl,_,rfl,_,rfl,_,_,rfl,SqL.of ((Ze hl1) _ _ e4),fun l2 hl2 =>
       ⟨l1,l2,_,_,rfl,rfl,(Ze hl2) _ _ Zn,Zn,by rw [<- Jc,ecs,Ja]; exact Zh (by lia),fun l3 hl3=>⟨by show 3<=sizeLine; decide,fun p hp =>
        k p l3 _ (s4.free ((Ze hl1).free ((Ze hl2).free ((Ze hl3).free hp)))) (s4.free ((Ze hl1).free ((Ze hl2).free hl3)))
         ⟨_,_,cs,Zn,by rw [<- ecs]; exact (Ze hp) _ _ Zn,ncs,by lia,by first | exact hp4 _ hc1 | decide,by lia,fun x hx=>hp4 x (mcs x hx)⟩
         (((s4.trans (Ze hl1)).trans (Ze hl2)).trans ((Ze hl3).trans (Ze hp)))⟩⟩⟩⟩
theorem Jbf (T:Txt mg) (Zl:Cal P w K mg base "_law_draw" 1 ["_law_hand", "_law_many"] Q0) {f:Addr} (F:Fun K "_law_bytes" "_law_bytes" Jbc f fd):FnOk P w K mg base CX0 2 f fd ["_law_hand", "_law_most"] Zc0:=by
 refine F.ok Jac (fun vs H Q E h=>?_) (fun cdv A outer s H vs Q E hr h=>?_)
 ·obtain ⟨p,a,m,rfl,_⟩:=h;rfl
 ·obtain ⟨p,a,m,rfl,hh,hm1,hm2,k⟩:=h;have SC:=Jac;have Zj:Room 1 _:=hr.mono nofun;refine ⟨_,(Zf (Zs (i:=2) SC.nd rfl (Or.inr rfl) (Zq Zl Zj rfl (Za (pv 0) (Za Zg Zc))))
 (Zf (Zs (i:=3) SC.nd rfl (Or.inr rfl) (Zx Wt Zg (Zq Zl Zj rfl (Za (pv 0) (Za Zg Zc)))))
 (Zi (Zy (Y9 (T:=["_law_k"]) (cs:=[2,3]) rfl (CScope.ok (by kernel_rfl)) (Yn rfl T.b_range (Za (Zx Wt Zg (Zq Zl Zj rfl (Za (pv 0) (Za (Zx Zd8 (pv 1) Zg) Zc)))) Zc)) (fun _ _ _ _=>(Zr (i:=0) (Xn (by kernel_rfl)) rfl (Or.inl rfl) (Or.inr rfl))) (fun _ _ _ _=>Y6) (fun _ _ _ _=>(Zx Xm (Zx Wt (pv 1) (Zx Vm (pv 2) (pv 0))) Zg)) (Y2 nofun)))))),?_⟩
  refine ⟨_,rfl,p,a,_,rfl,hh,nofun,nofun,fun b0 H1 b00 b01 h1 g1 u1=>?_⟩;refine ⟨_,rfl,p,a,_,rfl,h1,nofun,nofun,fun s0 H2 s00 s01 h2 g2 u2=>⟨_,_,rfl,rfl,?_⟩⟩;refine ⟨_,rfl,_,rfl,_,_,rfl,rfl,p,a,_,rfl,h2,by lia,by lia,fun n0 H3 n00 n01 h3 g3 u3=>⟨_,_,rfl,rfl,(2+n0),rfl,by lia,by lia,Tm (n:=(2+n0).toNat)
   (fun j ys H'=>H'=H3/\ys=((List.range j).map fun k:Nat=>(b0+(1+s0)*(k:Int)) % 256).map V.int) ⟨rfl,rfl⟩ ?_ (Zh (by lia)) ?_ ?_ ?_ ?_⟩⟩
  ·rintro j ys H' ⟨rfl,rfl⟩;rw [Ja,Ja,Bo];exact Jf _
  ·rintro j ys H' hj _;exact hj
  ·rintro ys H' _;exact Jf _
  ·rintro j ys H' hj ⟨rfl,rfl⟩ x H4 ⟨rfl,rfl⟩;exists ·,·,·,_,·,rfl,.inl ⟨by lia,by lia⟩,_,·,rfl,_,·,rfl,(by show (0:Int)<_; decide),rfl,?_;rw [List.range_succ,Jm,Jm,Int.zero_add];rfl
  ·rintro ys H' ⟨rfl,rfl⟩ l hl;obtain ⟨_,_,_,ep,_⟩:=h3.ex;have nl:l≠p:=Ne.symm (Zz ep hl);have g:=(g1.trans g2).trans g3;refine k l _ _ (g.free hl nl) nl Zn (Nl (by lia) ?_) ?_ ?_ (fun b hb=>?_) (h3.same (Ze hl)) (g.trans (Grow.same (Ze hl)))
   ·have:((2+n0).toNat:Int)=2+n0:=by lia
    rw [this];have h4:(1+s0)*(2+n0)<=(1+s0)*4:=Int.mul_le_mul_of_nonneg_left (by lia) (by lia);lia
   ·rw [Ja,Bo]; lia
   ·rw [Ja,Bo]; lia
   ·obtain ⟨i,_,rfl⟩:=Jp.mp hb;exists G1 _ nofun,G0 _ nofun
def Zhd {bs:List Int} {n:Nat} (h:∀ w∈ws,∀ b∈w,b∈bs) (hn:n<ws.length):∀ w∈ws.take n++(bs.map fun b=>ws[n]++[b])++ws.drop (n+1),∀ b∈w,b∈bs:=fun w hw b hb=>by
 rcases Jn.mp hw with z | z
 ·rcases Jn.mp z with z | z
  ·exact h w (Bk z) b hb
  ·obtain ⟨c,hc,rfl⟩:=Jp.mp z;rcases Jn.mp hb with y | y
   ·exact h _ (Ge hn) b y
   ·rw [Je.mp y]; exact hc
 ·exact h w (Fm z) b hb
theorem Jbs (T:Txt mg) (Zl:Cal P w K mg base "_law_draw" 1 ["_law_hand", "_law_many"] Q0) {f:Addr} (F:Fun K "_law_words" "_law_words" D6 f fd):FnOk P w K mg base CX0 2 f fd ["_law_hand", "_law_some", "_law_most", "_law_longest"] Zaq:=by
 refine F.ok Jaj (fun vs H Q E h=>?_) (fun cdv A outer s H vs Q E hr h=>?_)
 ·obtain ⟨p,a,sa,m,lg,bs,rfl,_⟩:=h;rfl
 ·obtain ⟨p,a,sa,m,lg,bs,rfl,hh,es,nsp,nd,hne,hl,hm1,hm2,hg1,hg2,k⟩:=h;have SC:=Jaj;have Zj:Room 1 _:=hr.mono nofun;have hlp:0<bs.length:=Gc.mpr hne;refine ⟨_,(Zf (Zs (i:=4) SC.nd rfl (Or.inr rfl) (Y9 (T:=["_law_one_here"]) (cs:=[]) rfl (CScope.ok (by kernel_rfl)) (Ye (pv 1)) (fun _ _ _ _=>(Zr (i:=0) (Xn (by kernel_rfl)) rfl (Or.inl rfl) (Or.inr rfl))) (fun _ _ _ _=>Y6) (fun _ _ _ _=>(X2 (Za (pv 0) Zc))) (Y2 nofun)))
 (Zf (Xl PassesOwn.never rfl (Yn rfl T.b_range (Za (Zq Zl Zj rfl (Za (pv 0) (Za (Zx Wt (pv 2) Zg) Zc))) Zc)) (Zr (i:=5) SC.nd rfl (Or.inl rfl))
 (Zf (Zs (i:=6) SC.nd rfl (Or.inr rfl) (Zx Xm (Zq Zl Zj rfl (Za (pv 0) (Za Zg Zc))) (Zo V7 (by rfl) T.b_len Dl (Za (pv 4) Zc))))
 (Zi (Y7 (Zw Zma (Zo V7 (by rfl) T.b_len Dl (Za (Z8 Xk (pv 4) (pv 6) (fun _ _=>rfl)) Zc)) (pv 3) (Z6 _))
 (Zi (Zs (i:=4) SC.nd rfl (Or.inr rfl) (Zx Pe (Zx Pe (Z5 Vg (pv 4) Yg (Z7 (pv 6))) (Y9 (T:=["_law_one_here"]) (cs:=[4,6]) rfl (CScope.ok (by kernel_rfl)) (Ye (pv 1)) (fun _ _ _ _=>(Zr (i:=0) (Xn (by kernel_rfl)) rfl (Or.inl rfl) (Or.inr rfl))) (fun _ _ _ _=>Y6) (fun _ _ _ _=>(Zx (Zkl (K:=K) rfl) (Z8 (Znl (K:=K) rfl) (pv 1) (pv 2) (fun _ _=>rfl)) (X2 (Za (pv 0) Zc)))) (Y2 nofun))) (Z5 Vg (pv 4) (Z7 (Zx Wt (pv 6) Zg)) Yg))))
 Z0))))
 (Zi (Zy (Y9 (T:=["_law_word"]) (cs:=[0]) rfl (CScope.ok (by kernel_rfl)) (Ye (pv 4)) (fun _ _ _ _=>(Zr (i:=0) (Xn (by kernel_rfl)) rfl (Or.inl rfl) (Or.inr rfl))) (fun _ _ _ _=>(Tg (Zw S2 (Zq Zl Zj rfl (Za (pv 1) (Za Zg Zc))) Zg (Z6 _)))) (fun _ _ _ _=>(pv 0)) (Y2 nofun)))))),?_⟩
  exists ·,sa,rfl,⟨_,SqL.of es⟩,Tm (n:=bs.length) (fun j ys H'=>ys.length=j/\Same H H'/\Wo H' ys ((bs.map fun b=>[b]).take j)) ⟨rfl,.refl _,by rw [List.take_zero]; exact .nil⟩ ?_ (Zh (by lia)) ?_ ?_ ?_ ?_
  ·rintro j ys H' ⟨e,_⟩;exact Fw e
  ·rintro j ys H' hj ⟨_,s1,_⟩;exact Zes (s1 _ _ es) (by rw [Ja]; exact hj)
  ·rintro ys H' ⟨_,s1,_⟩;exact R9 (s1 _ _ es) (by rw [Ja]; exact Jf _)
  ·rintro j ys H' hj ⟨e,s1,w1⟩ y H'' hy;obtain ⟨rfl,rfl⟩:=Nz (s1 _ _ es) (by rw [Ja]; exact hj) hy;exists ·,by show 1<=sizeLine; decide,fun q hq=>⟨by rw [Jc,e]; rfl,s1.trans (Ze hq),?_⟩;rw [Jk (by rw [Ja]; exact hj)];refine L2.Paired.snoc ⟨q,rfl,?_⟩ (Wo.tk w1 (Ze hq).tk);rw [Zn,Gk,Gk];rfl
  ·rintro ys H1 ⟨e,s1,w1⟩ wl hwl;rw [<- Ja (f:=fun b:Int=>[b]),J9] at w1;have s2:=s1.trans (Ze (o:=.lst ys) hwl);have w2:=Wo.tk w1 (Ze (o:=.lst ys) hwl).tk;have e2:(upd H1 wl (.lst ys)) wl=some (.lst ys):=Zn;obtain ⟨_,ep⟩:=Wm hh;have nwp:wl≠p:=Ne.symm (Zz (s1 _ _ ep) hwl);have nw0:H wl=none:=s1.free hwl;generalize upd H1 wl (.lst ys)=H2 at s2 w2 e2;refine ⟨_,rfl,_,rfl,_,_,rfl,rfl,p,a,_,rfl,hh.same s2,by lia,by lia,fun n0 H3 n00 n01 h3 g3 u3=>?_⟩;have inv0:WOk (bs.map fun b=>[b]):=Zjn nd;refine ⟨n0,rfl,by lia,by lia,Ze1 (n:=n0.toNat) (fun j σ H'=>∃ wl ws v1 v2,σ=[some (.ref p),some (.ref sa),some (.int m),some (.int lg),some (.ref wl),v1,v2]/\H wl=none/\wl≠p/\Zaf H' wl ws/\WOk ws/\(∀ w∈ws,∀ b∈w,b∈bs)/\ws≠[]/\ws.length<=bs.length+j*bs.length/\HandAt H' p a/\Grow p H H')
    ⟨wl,_,_,_,rfl,nw0,nwp,⟨ys,by rw [u3 wl nwp]; exact e2,Wo.tk w2 (g3.tk (s2 _ _ ep))⟩,inv0,(fun w hw b hb=>by obtain ⟨c,hc,rfl⟩:=Jp.mp hw; rw [Je.mp hb]; exact hc),by simpa using hne,by rw [Ja]; lia,h3,(Grow.same s2).trans g3⟩ ?_ ?_⟩
   ·rintro j σ H4 hj ⟨wl,ws,v1,v2,rfl,nw0,nwp,⟨vs,e4,w4⟩,ok4,bn4,ne4,l4,h4,g4⟩;have lv:=Paired.length w4;have lp:0<vs.length:=by rw [lv]; exact Gc.mpr ne4
    have hjb:j*bs.length<=6*24:=Fo (by lia) hl;exists ·,p,a,·,h4,nofun,nofun,fun r H5 r0 r1 h5 g5 u5=>?_;have e5:H5 wl=some (.lst vs):=by rw [u5 wl nwp]; exact e4
    obtain ⟨_,ep4⟩:=Wm h4;have w5:=Wo.tk w4 (g5.tk ep4);have es5:H5 sa=some (.lst (bs.map V.int)):=(g4.trans g5) _ _ es nsp;exists ·,_,·,.inl ⟨_,SqL.of e5,rfl⟩,_,·,rfl,(by show (0:Int)<_; lia),?_;have r2:0<=r % (vs.length:Int):=G1 _ (by lia);have r3:r % (vs.length:Int)<vs.length:=G0 _ (by lia);obtain ⟨n,en0⟩:=G5 r2;have hn:n<vs.length:=by lia
    obtain ⟨hn2,t,ev,et⟩:=Wo.take1 w5 hn;have atn:atI vs (r % (vs.length:Int))=some (.ref t):=by rw [en0,<- ev]; exact Vw (Jb hn)
    have cut1:cutV vs none (some (r % (vs.length:Int)))=vs.take n:=by rw [en0,Zfl (by lia) (by lia),Gs]
    have cut2:cutV vs (some (r % (vs.length:Int)+1)) none=vs.drop (n+1):=by rw [en0,Qm (by lia) (by lia)]; congr 1
    exists ·,·,wl,_,_,·,rfl,SqL.of e5,atn,_,·,.inr ⟨_,SqT.of et,rfl⟩,·,_,·,rfl,·,?_;refine ite2 (fun hlt=>?_) (fun hlt=>?_)
    ·have hlt':((ws[n].map V.int).length:Int)<lg:=of_decide_eq_true hlt;rw [Ja] at hlt';exists ·,·,·,wl,·,SqL.of e5,fun q1 hq1=>?_;rw [cut1];have s6:=Ze (o:=.lst (vs.take n)) hq1;have e61:(upd H5 q1 (.lst (vs.take n))) q1=_:=Zn;have nq1:q1≠p:=by obtain ⟨_,ep5⟩:=Wm h5; exact Ne.symm (Zz ep5 hq1)
     generalize upd H5 q1 (.lst (vs.take n))=H6 at s6 e61;exists ·,sa,rfl,⟨_,SqL.of (s6 _ _ es5)⟩,Tm (n:=bs.length) (fun j ys H'=>ys.length=j/\Same H6 H'/\Wo H' ys ((bs.map fun b=>ws[n]++[b]).take j)) ⟨rfl,.refl _,by rw [List.take_zero]; exact .nil⟩ ?_ (Zh (by lia)) ?_ ?_ ?_ ?_
     ·rintro j ys H' ⟨e,_⟩;exact Fw e
     ·rintro j ys H' hj ⟨_,s1,_⟩;exact Zes (s1 _ _ (s6 _ _ es5)) (by rw [Ja]; exact hj)
     ·rintro ys H' ⟨_,s1,_⟩;exact R9 (s1 _ _ (s6 _ _ es5)) (by rw [Ja]; exact Jf _)
     ·rintro j ys H' hj ⟨e,s1,w1⟩ y H'' hy;obtain ⟨rfl,rfl⟩:=Nz (s1 _ _ (s6 _ _ es5)) (by rw [Ja]; exact hj) hy;have et':=s1 _ _ (s6 _ _ et);exists ·,·,wl,_,_,·,rfl,SqL.of (s1 _ _ (s6 _ _ e5)),atn,·,by show 1<=sizeLine; decide,fun q hq=>?_;have sq:=Ze (o:=.tup [(bs.map V.int)[j]'(by rw [Ja]; exact hj)]) hq;exists t,q,_,·,rfl,SqT.of (sq _ _ et'),SqT.of Zn,?_,?_,fun z=>absurd z (by simp),fun _ q2 hq2=>?_
      ·have:=(ok4.2 ws[n] (Ge hn2)).1;simpa using this
      ·rw [Ja]; show ws[n].length+1<=sizeLine; exact Jy (by lia:ws[n].length+1<=10) nofun
      ·exists by rw [Jc,e]; rfl,(s1.trans sq).trans (Ze hq2),?_;rw [Jk (by rw [Ja]; exact hj)];refine L2.Paired.snoc ⟨q2,rfl,?_⟩ (Wo.tk w1 (sq.tk.trans (Ze hq2).tk));rw [Zn,Gk,Gk,Jm];rfl
     ·rintro ys H7 ⟨e,s7,w7⟩ q3 hq3;rw [<- Ja (f:=fun b:Int=>ws[n]++[b]),J9] at w7;have s8:=s6.trans (s7.trans (Ze (o:=.lst ys) hq3));have e8:(upd H7 q3 (.lst ys)) q3=some (.lst ys):=Zn;have e81:=(s7.trans (Ze (o:=.lst ys) hq3)) _ _ e61;have w8:=Wo.tk w7 (Ze (o:=.lst ys) hq3).tk;generalize upd H7 q3 (.lst ys)=H8 at s8 e8 e81 w8;have ly:ys.length=bs.length:=by rw [Paired.length w8,Ja]
      exists q1,q3,_,·,rfl,e81,e8,?_,fun q4 hq4=>?_
      ·rw [Jz,ly]; exact Zh (by lia)
      have s9:=s8.trans (Ze (o:=.lst (vs.take n++ys)) hq4);have e9:(upd H8 q4 (.lst (vs.take n++ys))) q4=_:=Zn;have w9:=Wo.tk w8 (Ze (o:=.lst (vs.take n++ys)) hq4).tk;generalize upd H8 q4 (.lst (vs.take n++ys))=H9 at s9 e9 w9;exists ·,·,_,·,rfl,·,wl,·,SqL.of (s9 _ _ e5),fun q5 hq5=>?_;rw [cut2];have s10:=s9.trans (Ze (o:=.lst (vs.drop (n+1))) hq5);have e10:(upd H9 q5 (.lst (vs.drop (n+1)))) q5=_:=Zn;have e104:=Ze (o:=.lst (vs.drop (n+1))) hq5 _ _ e9;have w10:=Wo.tk w9 (Ze (o:=.lst (vs.drop (n+1))) hq5).tk;generalize upd H9 q5 (.lst (vs.drop (n+1)))=H10 at s10 e10 e104 w10
      exists q4,q5,_,·,rfl,e104,e10,?_,fun q6 hq6=>?_
      ·rw [Jc,Jz,Gh,ly]; exact Zh (by lia)
      have s11:=s10.trans (Ze (o:=.lst (vs.take n++ys++vs.drop (n+1))) hq6);have w11:=Wo.tk w10 (Ze (o:=.lst (vs.take n++ys++vs.drop (n+1))) hq6).tk;have hsp:ws=ws.take n++ws[n]::ws.drop (n+1):=by
       rw [<- List.drop_eq_getElem_cons hn2,Gv]
      have ok11:WOk (ws.take n++(bs.map fun b=>ws[n]++[b])++ws.drop (n+1)):=Zgo nd (hsp ▸ ok4) (by lia);have ws5:=Wo.tk w5 s11.tk;obtain ⟨_,ep5⟩:=Wm h5;have nq6:q6≠p:=Ne.symm (Zz (s10 _ _ ep5) hq6);exists q6,_,_,·,?_,nq6,⟨_,Zn,L2.Paired.app (L2.Paired.drp (n+1) ws5) (L2.Paired.app w11 (L2.Paired.tak n ws5))⟩,ok11,Zhd bn4 hn2,?_,?_,h5.same s11,(g4.trans g5).trans (Grow.same s11)
      ·exact (g4.trans g5).free (s10.free hq6) nq6
      ·intro z;have:=congrArg List.length z;simp only [Jc,Ja,Bz] at this;lia
      ·rw [Jc,Jc,Jz,Gh,Ja,Nat.add_mul,Nat.one_mul];lia
    ·exists wl,ws,_,·,nw0,nwp,⟨vs,e5,w5⟩,ok4,bn4,ne4,?_,h5,g4.trans g5;rw [Nat.add_mul];lia
   ·rintro σ H4 ⟨wl,ws,v1,v2,rfl,nw0,nwp,⟨vs,e4,w4⟩,ok4,bn4,ne4,l4,h4,g4⟩;have lv:=Paired.length w4;have lb:ws.length<=200:=by
     have:n0.toNat*bs.length<=6*24:=Fo (by lia) hl;lia
    exists ·,wl,rfl,⟨_,SqL.of e4⟩,Tm (n:=vs.length) (fun j ys H'=>∃ us:List (List Int),Wo H' ys us/\us.Sublist (ws.take j)/\HandAt H' p a/\Grow p H4 H') ⟨[],.nil,List.nil_sublist _,h4,Grow.refl _ _⟩ ?_ (Zh (by lia)) ?_ ?_ ?_ ?_
    ·rintro j ys H' ⟨us,w1,sb,_⟩;have:=sb.length_le;rw [Jz] at this;rw [Paired.length w1];lia
    ·rintro j ys H' hj ⟨us,w1,sb,h1,g1⟩;exact Zes (g1 _ _ e4 nwp) hj
    ·rintro ys H' ⟨us,w1,sb,h1,g1⟩;exact R9 (g1 _ _ e4 nwp) (Jf _)
    ·rintro j ys H' hj ⟨us,w1,sb,h1,g1⟩ y H'' hy;obtain ⟨rfl,rfl⟩:=Nz (g1 _ _ e4 nwp) hj hy;exists ·,p,a,·,h1,nofun,nofun,fun r H6 r0 r1 h6 g6 u6=>⟨_,_,rfl,rfl,_,rfl,?_⟩;obtain ⟨_,ep1⟩:=Wm h1;have hj2:j<ws.length:=by lia
     have tk:(ws.take (j+1))=ws.take j++[ws[j]]:=Jk hj2;refine ite2 (fun _=>?_) (fun _=>?_)
     ·exists ·,us++[ws[j]],L2.Paired.snoc ?_ (Wo.tk w1 (g6.tk ep1)),by rw [tk]; exact sb.append (List.Sublist.refl _),h6,g1.trans g6;obtain ⟨_,ep4⟩:=Wm h4;exact (L2.Paired.at w4 hj hj2).tk ((g1.trans g6).tk ep4)
     ·exists us,Wo.tk w1 (g6.tk ep1),by rw [tk]; exact sb.trans (List.sublist_append_left _ _),h6,g1.trans g6
    ·rintro ys H5 ⟨us,w1,sb,h5,g5⟩ q hq;rw [lv,J9] at sb;obtain ⟨_,ep5⟩:=Wm h5;have nq:q≠p:=Ne.symm (Zz ep5 hq);have g:=g4.trans g5;refine k q us _ (g.free hq nq) nq ⟨ys,Zn,Wo.tk w1 (Ze hq).tk⟩ (ok4.sub sb) (fun w hw=>bn4 w (sb.subset hw)) ?_ (h5.same (Ze hq)) (g.trans (Grow.same (Ze hq)));have l1:=sb.length_le;have l2:n0.toNat*bs.length<=m.toNat*bs.length:=Fo (by lia) (Jf _);have l3:((m.toNat*bs.length:Nat):Int)=m*bs.length:=by rw [Int.natCast_mul]; congr 1; lia
     lia
theorem Jae (T:Txt mg) (Zl:Cal P w K mg base "_law_draw" 1 ["_law_hand", "_law_many"] Q0) {f:Addr} (F:Fun K "_law_signs" "_law_signs" D5 f fd):FnOk P w K mg base CX0 2 f fd ["_law_hand", "_law_many"] Zcz:=by
 refine F.ok Dt (fun vs H Q E h=>?_) (fun cdv A outer s H vs Q E hr h=>?_)
 ·obtain ⟨p,a,m,rfl,_⟩:=h;rfl
 ·obtain ⟨p,a,m,rfl,hh,hm0,hm1,k⟩:=h;have SC:=Dt;have Zj:Room 1 _:=hr.mono nofun;refine ⟨_,(Zf (Zs (i:=2) SC.nd rfl (Or.inr rfl) (Zx Vm (Xa Zfw (by rfl) T.b_int PyProof.Rows.boot_int (Za (Ti S2 (Zq Zl Zj rfl (Za (pv 0) (Za Zg Zc))) Zg (Z6 _)) Zc)) (Zx Wt (Zx Vm (Zq Zl Zj rfl (Za (pv 0) (Za Zg Zc))) (Zx Zd9 Zg Zg)) (Zq Zl Zj rfl (Za (pv 0) (Za Zg Zc))))))
 (Zf (Zs (i:=3) SC.nd rfl (Or.inr rfl) (Zx Wt Zg (Z8 Xk (Y0 (Za Zg (Za (Zq Zl Zj rfl (Za (pv 0) (Za Zg Zc))) (Za (Zq Zl Zj rfl (Za (pv 0) (Za (Zx Zd9 Zg Zg) Zc))) Zc)))) (Zq Zl Zj rfl (Za (pv 0) (Za Zg Zc))) (fun _ _=>rfl))))
 (Zf (Ub (i:=4) SC.nd rfl rfl (T:=["_law_k"]) (cs:=[2,3]) rfl (CScope.ok (by kernel_rfl)) (Yn rfl T.b_range (Za (pv 1) Zc)) (fun _ _ _ _=>(Zr (i:=0) (Xn (by kernel_rfl)) rfl (Or.inl rfl) (Or.inr rfl))) (fun _ _ _ _=>Y6) (fun _ _ _ _=>(Zx Wt (pv 1) (Zx Vm (pv 2) (pv 0)))) (Y2 nofun))
 (Zf (Zs (i:=5) SC.nd rfl (Or.inl rfl) (Zx Xm (Zq Zl Zj rfl (Za (pv 0) (Za Zg Zc))) (Zo (P4 rfl) (by rfl) T.b_max PyProof.Rows.boot_max (Za Zg (Za (pv 1) Zc)))))
 (Zf (Zs (i:=4) SC.nd rfl (Or.inl rfl) (Zx Pe (Z5 Vg (pv 4) (Z7 (pv 5)) Yg) (Z5 Vg (pv 4) Yg (Z7 (pv 5)))))
 (Zf (Y7 (Zw Zmd (Zq Zl Zj rfl (Za (pv 0) (Za Zg Zc))) Zg (Z6 _))
 (Zi (Zy (Zh2 (pv 4) (Z7 (Pc Tr Zg)) (fun _ _=>⟨_,rfl⟩))))
 Z0)
 (Zi (Zy (pv 4))))))))),?_⟩
  exists ·,p,a,·,hh,nofun,nofun,fun r1 H1 r10 r11 h1 g1 u1=>⟨_,_,rfl,rfl,.inr ⟨_,rfl,_,rfl,p,a,_,rfl,h1,nofun,nofun,fun r2 H2 r20 r21 h2 g2 u2=>⟨_,_,rfl,rfl,⟨nofun,nofun,nofun⟩,_,_,rfl,rfl,.inl ⟨by lia,by lia⟩,_,rfl,p,a,_,rfl,h2,nofun,nofun,fun r3 H3 r30 r31 h3 g3 u3=>⟨_,_,rfl,rfl,_,_,rfl,rfl,.inl ?_,?_⟩⟩⟩⟩
  ·split <;> exact ⟨nofun,nofun⟩
  obtain ⟨bg,hbg⟩:∃ bg:Int,bg=(if decide (0<r1)=true then (1:Int) else 0)*(r2*10 ^ Int.toNat 6+r3):=⟨_,rfl⟩;have g30:=(g1.trans g2).trans g3;exists ·,p,a,·,h3,nofun,nofun,fun r4 H4 r40 r41 h4 g4 u4=>⟨_,rfl,_,_,rfl,rfl,⟨nofun,nofun,nofun⟩,p,a,_,rfl,h4,nofun,nofun,fun r5 H5 r50 r51 h5 g5 u5=>⟨by show 3<=sizeLine; decide,fun lq hlq=>?_⟩⟩;have s6:=Ze (o:=.lst [.int 0,.int r4,.int r5]) hlq;obtain ⟨_,ep5⟩:=Wm h5;have nlq:lq≠p:=Ne.symm (Zz ep5 hlq);have elq:(upd H5 lq (.lst [.int 0,.int r4,.int r5])) lq=_:=Zn;have h6:=h5.same s6;have g60:=g30.trans (g4.trans (g5.trans (Grow.same s6)))
  generalize upd H5 lq (.lst [.int 0,.int r4,.int r5])=H6 at s6 elq h6 g60;exists ·,p,a,·,h6,nofun,nofun,fun r6 H7 r60 r61 h7 g7 u7=>?_;have elq7:H7 lq=some (.lst [.int 0,.int r4,.int r5]):=by rw [u7 lq nlq]; exact elq
  obtain ⟨v,hv,ev⟩:=Zhf (xs:=[V.int 0,.int r4,.int r5]) r60 (by simpa using r61);obtain ⟨c,rfl,hc⟩:∃ c:Int,v=.int c/\0<=c:=by
   simp only [Ju,List.mem_nil_iff,or_false] at hv;rcases hv with z | z | z <;> exact ⟨_,z,by lia⟩
  have r51':r5<10000000:=r51;have hc2:c<10000000:=by
   simp only [Ju,List.mem_nil_iff,or_false] at hv;rcases hv with z | z | z <;> injection z with z <;> lia
  exists lq,_,_,·,rfl,SqL.of elq7,ev,_,·,rfl,?_;exists ·,m,rfl,by lia,by lia,Tm (n:=m.toNat) (fun j ys H'=>H'=H7/\ys=((List.range j).map fun k:Nat=>bg+(1+c)*(k:Int)).map V.int) ⟨rfl,rfl⟩ ?_ (Zh (by lia)) ?_ ?_ ?_ ?_
  ·rintro j ys H' ⟨rfl,rfl⟩;rw [Ja,Ja,Bo];exact Jf _
  ·rintro j ys H' hj _;exact hj
  ·rintro ys H' _;exact Jf _
  ·rintro j ys H' hj ⟨rfl,rfl⟩ x H8 ⟨rfl,rfl⟩;exists ·,·,·,_,·,rfl,.inl ⟨by lia,by lia⟩,_,·,rfl,rfl,?_;rw [List.range_succ,Jm,Jm,Int.zero_add,hbg];rfl
  ·rintro ys H' ⟨rfl,rfl⟩ l hl;generalize hss:(List.range m.toNat).map (fun k:Nat=>bg+(1+c)*(k:Int))=ss;have nd:ss.Nodup:=by rw [<- hss]; exact Zcx (by lia) _
   have ls:(ss.length:Int)=m:=by rw [<- hss,Ja,Bo]; lia
   have s8:=Ze (o:=.lst (ss.map V.int)) hl;have e8:(upd H' l (.lst (ss.map V.int))) l=_:=Zn;obtain ⟨_,ep7⟩:=Wm h7;have nl:l≠p:=Ne.symm (Zz ep7 hl);have h8:=h7.same s8;have g80:=(g60.trans g7).trans (Grow.same s8);generalize upd H' l (.lst (ss.map V.int))=H8 at s8 e8 h8 g80;exists ·,p,a,·,h8,nofun,nofun,fun r9 H9 r90 r91 h9 g9 u9=>⟨_,rfl,_,_,rfl,_,_,rfl,rfl,?_,?_⟩
   ·show (0:Int)<if m > 1 then m else 1
    split <;> lia
   have e9:H9 l=some (.lst (ss.map V.int)):=by rw [u9 l nl]; exact e8
   have z0:0<=r9 % (if m > 1 then m else 1):=G1 _ (by split <;> lia);have z1:r9 % (if m > 1 then m else 1)<=ss.length:=by
    rw [ls];have:=G0 r9 (show (0:Int)<if m > 1 then m else 1 by split <;> lia)
    by_cases hm:m > 1
    ·rw [Df hm] at this ⊢; lia
    ·rw [De hm] at this ⊢; lia
   obtain ⟨n,en⟩:=G5 z0;have cut1:cutV (ss.map V.int) (some (r9 % (if m > 1 then m else 1))) none=(ss.drop n).map V.int:=by rw [en,Qm (by lia) (by rw [Ja]; lia),Fj]; rfl
   have cut2:cutV (ss.map V.int) none (some (r9 % (if m > 1 then m else 1)))=(ss.take n).map V.int:=by rw [en,Zfl (by lia) (by rw [Ja]; lia),Fi]; rfl
   exists ·,·,·,l,·,SqL.of e9,fun q1 hq1=>?_;rw [cut1];have sA:=Ze (o:=.lst ((ss.drop n).map V.int)) hq1;have eA:(upd H9 q1 (.lst ((ss.drop n).map V.int))) q1=_:=Zn;generalize upd H9 q1 (.lst ((ss.drop n).map V.int))=HA at sA eA;exists ·,·,·,l,·,SqL.of (sA _ _ e9),fun q2 hq2=>?_;rw [cut2];have sB:=sA.trans (Ze (o:=.lst ((ss.take n).map V.int)) hq2);have eB:(upd HA q2 (.lst ((ss.take n).map V.int))) q2=_:=Zn;have eB1:=Ze (o:=.lst ((ss.take n).map V.int)) hq2 _ _ eA;generalize upd HA q2 (.lst ((ss.take n).map V.int))=HB at sB eB eB1;exists q1,q2,_,·,rfl,eB1,eB,?_,fun q3 hq3=>?_
   ·rw [Ja,Ja,Gh,Jz]; exact Zh (by lia)
   rw [<- Jm];have nd2:=Zbx nd n;have ls2:((ss.drop n++ss.take n).length:Int)=m:=by rw [Jc,Gh,Jz]; lia
   generalize ss.drop n++ss.take n=tt at nd2 ls2;have sC:=sB.trans (Ze (o:=.lst (tt.map V.int)) hq3);have eC:(upd HB q3 (.lst (tt.map V.int))) q3=_:=Zn;obtain ⟨_,ep9⟩:=Wm h9;have nq3:q3≠p:=Ne.symm (Zz (sB _ _ ep9) hq3);have n30:H q3=none:=(g80.trans g9).free (sB.free hq3) nq3;have hC:=h9.same sC;have gC:=(g80.trans g9).trans (Grow.same sC);generalize upd HB q3 (.lst (tt.map V.int))=HC at sC eC hC gC;exists ·,p,a,·,hC,nofun,nofun,fun rd HD rd0 rd1 hD gD uD=>⟨rfl,_,rfl,?_⟩;have eD:HD q3=some (.lst (tt.map V.int)):=by rw [uD q3 nq3]; exact eC
   refine ite2 (fun _=>?_) (fun _=>?_)
   ·exists ·,·,·,rfl,q3,·,SqL.of eD,fun q4 hq4=>?_;rw [<- List.map_reverse];have sE:=Ze (o:=.lst (tt.reverse.map V.int)) hq4;obtain ⟨_,epD⟩:=Wm hD;have nq4:q4≠p:=Ne.symm (Zz epD hq4);exact k q4 tt.reverse _ ((gC.trans gD).free hq4 nq4) nq4 Zn ((List.reverse_perm tt).nodup_iff.mpr nd2) (by rw [Br]; exact ls2) (hD.same sE) ((gC.trans gD).trans (Grow.same sE))
   ·exists ·,k q3 tt HD n30 nq3 eD nd2 ls2 hD (gC.trans gD)
open L3
def Wd4 (ws:List (List Int)):Prop:=∀ w∈ws,w≠[]/\w.length<=4
def Wz {m:MO} {k:Nat} (h:M[k]?=some m):(M++[m'])[k]?=some m:=by
 have hk:k<M.length:=(Jh.mp h).1;rw [Jx hk]; exact h
theorem Zbr {f:τ->D} {as:List τ} (z:Int) (h:as≠[]):∃ a∈as,L2.atI (as.map f) (z % ((as.map f).length:Int))=some (f a):=by
 have h0:0<as.length:=Gc.mpr h;have h1:(0:Int)<=z % (as.length:Int):=G1 _ (by lia);have h2:z % (as.length:Int)<as.length:=G0 _ (by lia);have h3:(z % (as.length:Int)).toNat<as.length:=by lia
 exists as[(z % (as.length:Int)).toNat],Ge h3,?_;rw [Ja];exact W8 (by lia) h3
theorem R8 {f:τ->D} {as:List τ} (h:as≠[]):(0:Int)<((as.map f).length:Int):=by
 rw [Ja];have:=Gc.mpr h;lia
open L3
def Zna:Sp3:=fun ds M K=>∃ (k:Nat) (bs:List Int),ds=[.cell k,.lst (bs.map .int)]/\(M[k]?=some .hand/\bs≠[]/\bs.length<=1000)/\∀ ws:List (List Int),ws.length<=7->Wb bs ws->K (.cell M.length) (M++[.lst (ws.map wD)])
theorem Jbt (T:Txt mg) {C:Addr} (Zl:Cal P w K mg base "_law_draw" 1 ["_law_hand", "_law_many"] (spOf ⟨C,K⟩ Zb6)) {f:Addr} (F:Fun K "_law_any_words" "_law_any_words" Jat f fd):FnOk P w K mg base CX0 2 f fd ["_law_hand", "_law_some"] (spOf ⟨C,K⟩ Zna):=by
 refine L3.Fun.ok3 F Jcb (fun ds M K3 h=>?_) (fun cdv A outer s H E hr=>?_)
 ·obtain ⟨hd,bs,rfl,_⟩:=h;rfl
 ·have SC:=Jcb;have hu:=hr.units;have hu1:=X7 hr;have Zj:Room 1 _:=hr.mono nofun;refine ⟨_,_,(Zf (Zs (i:=2) SC.nd rfl (Or.inl rfl) (Y0 Zc))
 (Zf (Xl PassesOwn.never rfl (Yn rfl T.b_range (Za (Zq Zl Zj rfl (Za (pv 0) (Za Zg Zc))) Zc)) (Zr (i:=3) SC.nd rfl (Or.inl rfl))
 (Zi (Vk (Nu PySem.F.plainAttrs_list PySem.F.slot_list_append PySem.F.type_list_append Uy (pv 2) (Za (Xa (Zin (K:=K) rfl) (by rfl) T.b_tuple PyProof.Rows.boot_tuple (Za (Y9 (T:=["_law_at"]) (cs:=[1,0]) rfl (CScope.ok (by kernel_rfl)) (Yn rfl T.b_range (Za (Zx (Yz (K':=K) rfl) Zg (Zq Zl Zj rfl (Za (pv 0) (Za Zg Zc)))) Zc)) (fun _ _ _ _=>(Zr (i:=0) (Xn (by kernel_rfl)) rfl (Or.inl rfl) (Or.inr rfl))) (fun _ _ _ _=>Y6) (fun _ _ _ _=>(Z8 (Ym (K':=K) rfl) (pv 1) (Zx Xm (Zq Zl Zj rfl (Za (pv 2) (Za Zg Zc))) (Zo (Yd (K:=K) rfl) (by rfl) T.b_len Dl (Za (pv 1) Zc))) (fun _ _=>rfl))) (Y2 nofun)) Zc)) Zc)))))
 (Zi (Zy (pv 2))))),fun _=>(Zv (Z9 (S9 Zm) (s_g 2))
 (Zv (W4 (Se (Zb (Zu (Zb (Zd 0) (Zb Zt Zm))) Zm)) (s_g 3)
 (Ts (T6 (Zd 2) (Zb (s_cb Zc9 (Zb (X0 (Se (Zb (s_op Wi Zt (Zu (Zb (Zd 0) (Zb Zt Zm)))) Zm)) (s_g 0) Wy (s_op s_ix (Zd 1) (s_op Np (Zu (Zb (Zd 2) (Zb Zt Zm))) (s_cb Xh (Zb (Zd 1) Zm))))) Zm)) Zm))))
 (Yk (Zd 2)))),fun ds M Kk hM hD h=>?_⟩
  obtain ⟨hd,bs,rfl,h⟩:=h;obtain ⟨⟨hh,hne,hlb⟩,k⟩:=h;have hb0:0<bs.length:=Gc.mpr hne;exists Jv _,?_;exists ·,hd,8,rfl,Wz hh,⟨nofun,nofun⟩,fun q q0 q1=>?_;exists q,rfl,⟨by lia,by lia⟩,fun j ρ M'=>∃ (ws:List (List Int)) (v3:Option D),ρ=[some (.cell hd),some (.lst (bs.map .int)),some (.cell M.length),v3]/\M'=M++[.lst (ws.map wD)]/\ws.length=j/\Wb bs ws,fun _ _ _ _ _=>trivial,⟨[],_,rfl,rfl,rfl,fun _ h=>nomatch h⟩,?_,?_
  ·rintro j x ρ M' hj rfl ⟨ws,v3,rfl,rfl,lw,hw⟩;have hj:j<8:=by
    have:j<q.toNat:=hj;lia
   exists ·,Uc Sn,·,hd,4,rfl,Wz hh,⟨nofun,nofun⟩,fun r r0 r1=>?_;exists ·,⟨by lia,by lia⟩,?_,fun i ys M'=>M++[.lst (ws.map wD)]=M'/\∃ w:List Int,ys=w.map .int/\w.length=i/\∀ b∈w,b∈bs,fun _ _ _ _ _=>trivial,⟨rfl,[],rfl,rfl,fun _ h=>nomatch h⟩,?_,?_
   ·exact Zh (by show (1+r).toNat<=_; lia)
   ·rintro i x ys _ hi rfl ⟨rfl,w,rfl,rfl,hwb⟩;exists ·,·,hd,60,rfl,Wz hh,⟨nofun,nofun⟩,fun z z0 z1=>?_;obtain ⟨a,ha,ea⟩:=Zbr (f:=D.int) z hne;exact ⟨_,rfl,_,rfl,_,_,rfl,rfl,R8 hne,_,_,_,rfl,rfl,ea,rfl,w++[a],by rw [Jm]; rfl,by rw [Jc]; rfl,fun b hb=>(Jn.mp hb).elim (hwb b) fun z=>by rw [Je.mp z]; exact ha⟩
   ·rintro ys _ ⟨rfl,w,rfl,lw',hwb⟩;have lw':w.length=(1+r).toNat:=lw';exists _,·,rfl,M.length,_,·,rfl,Xq,?_,?_
    ·rw [Ja];exact Fd (by lia:_<=1000) nofun
    rw [W3];exact .inl ⟨ws++[w],_,rfl,by rw [Jm]; rfl,by rw [Jc,lw]; rfl,fun x hx=>(Jn.mp hx).elim (hw x) fun z=>by rw [Je.mp z]; exact ⟨⟨fun e=>by rw [e] at lw'; simp at lw'; lia,by lia⟩,hwb⟩⟩
  ·rintro ρ M' ⟨ws,v3,rfl,rfl,lw,hw⟩;have lw:ws.length=q.toNat:=lw;exists ·,.inl (k ws (by lia) hw)
open L3
def Zfg:Sp3:=fun ds M K=>∃ (k:Nat) (m lg:Int),ds=[.cell k,.int m,.int lg]/\(M[k]?=some .hand/\1<=m/\m<=6/\1<=lg/\lg<=4)/\∀ (L:List Pr) (bs:List Int),L.length<=40->(L.map (·.1)).Nodup->bs.length<=3->Wb bs (L.map (·.2))->K (.lst (L.map pD)) M
def Zkt {a b:List Int}:(a++b).map D.int=a.map D.int++b.map D.int:=Jm ..
theorem Zil {w:List Int} (h:w≠[]):cut w none (some 4)≠[]/\(cut w none (some 4)).length<=4:=by
 have e:cut w none (some 4)=w.take (min 4 w.length):=by
  unfold cut;rw [show (4:Int)=((4:Nat):Int) from rfl,HT.sIx_nat,HT.sIx_none,Fx,Fy]
 have h0:0<w.length:=Gc.mpr h;rw [e];refine ⟨fun z=>?_,by rw [Jz]; lia⟩;have:=congrArg List.length z;rw [Jz,Bz] at this;lia
def Ql {xs:List τ} {lo:Option Int} {x:τ} (h:x∈cut xs lo hi):x∈xs:=Fm (Bk h)
theorem Zg7 {a:Int} (h:0<=a):(cut ws none (some a)++cut ws (some a) none).length<=ws.length:=by
 obtain ⟨m,rfl⟩:=G5 h;rw [Jc];unfold cut;rw [HT.sIx_nat,HT.sIx_nat,HT.sIx_none,HT.sIx_none];simp only [Jz,Gh];lia
theorem D4 (T:Txt mg) {C:Addr} (V1:Cal P w K mg base "_law_bytes" 2 ["_law_hand", "_law_most"] (spOf ⟨C,K⟩ Zik)) (Zl:Cal P w K mg base "_law_draw" 1 ["_law_hand", "_law_many"] (spOf ⟨C,K⟩ Zb6)) (Vx:Cal P w K mg base "_law_words" 2 ["_law_hand", "_law_some", "_law_most", "_law_longest"] (spOf ⟨C,K⟩ Ze9)) (Wd:Cal P w K mg base "_law_any_words" 2 ["_law_hand", "_law_some"] (spOf ⟨C,K⟩ Zna)) (X4:Cal P w K mg base "_law_signs" 2 ["_law_hand", "_law_many"] (spOf ⟨C,K⟩ Zfa)) {f:Addr} (F:Fun K "_law_loose" "_law_loose" Jad f fd):FnOk P w K mg base CX0 3 f fd ["_law_hand", "_law_most", "_law_longest"] (spOf ⟨C,K⟩ Zfg):=by
 refine L3.Fun.ok3 F Dw (fun ds M K3 h=>?_) (fun cdv A outer s H E hr=>?_)
 ·obtain ⟨hd,m,lg,rfl,_⟩:=h;rfl
 ·have SC:=Dw;have hu:=hr.units;have hu1:=X7 hr;have Qh:Room 2 _:=hr.mono nofun;have Zj:Room 1 _:=hr.mono nofun;have Qd:Room 2 _:=hr.mono nofun;have Tl:Room 2 _:=hr.mono nofun;have W7:Room 2 _:=hr.mono nofun;refine ⟨_,_,(Zf (Zs (i:=3) SC.nd rfl (Or.inl rfl) (Zq V1 Qh rfl (Za (pv 0) (Za Zg Zc))))
 (Zf (Zs (i:=4) SC.nd rfl (Or.inl rfl) (Zq Zl Zj rfl (Za (pv 0) (Za Zg Zc))))
 (Zf (Zs (i:=5) SC.nd rfl (Or.inr rfl) (Zq Vx Qd rfl (Za (pv 0) (Za (pv 3) (Za (pv 1) (Za (pv 2) Zc))))))
 (Zf (Y7 (Zw (T9 (K':=K) rfl hu) (pv 4) Zg (Z6 _))
 (Zi (Zs (i:=5) SC.nd rfl (Or.inr rfl) (Zq Wd Tl rfl (Za (pv 0) (Za (pv 3) Zc)))))
 Z0)
 (Zf (Y7 (Zw S2 (pv 4) Zg (Z6 _))
 (Zi (Zs (i:=5) SC.nd rfl (Or.inr rfl) (Y9 (T:=["_law_word"]) (cs:=[]) rfl (CScope.ok (by kernel_rfl)) (Ye (pv 5)) (fun _ _ _ _=>(Zr (i:=0) (Xn (by kernel_rfl)) rfl (Or.inl rfl) (Or.inr rfl))) (fun _ _ _ _=>Y6) (fun _ _ _ _=>(Zd2 (pv 0) (Z7 (Pc Tr Zg)) (fun _ _=>⟨_,rfl⟩))) (Y2 nofun))))
 Z0)
 (Zf (Y7 (PW.pt (Zh0 (Zw S2 (pv 4) Zg (Z6 _)) (Zdu (Zw (Uo (K':=K) rfl hu) (pv 5) (Y0 Zc) (Z6 _)))))
 (Zf (Zs (i:=6) SC.nd rfl (Or.inl rfl) (Z8 (Ym (K':=K) rfl) (pv 5) (Zx Xm (Zq Zl Zj rfl (Za (pv 0) (Za Zg Zc))) (Zo (Yd (K:=K) rfl) (by rfl) T.b_len Dl (Za (pv 5) Zc))) (fun _ _=>rfl)))
 (Zf (Zs (i:=7) SC.nd rfl (Or.inl rfl) (Z8 (Ym (K':=K) rfl) (pv 5) (Zx Xm (Zq Zl Zj rfl (Za (pv 0) (Za Zg Zc))) (Zo (Yd (K:=K) rfl) (by rfl) T.b_len Dl (Za (pv 5) Zc))) (fun _ _=>rfl)))
 (Zf (Zs (i:=8) SC.nd rfl (Or.inl rfl) (Z8 (Ym (K':=K) rfl) (Y0 (Za (Z5 (Ve (K':=K) rfl) (Zx (Yz (K':=K) rfl) (pv 6) (pv 7)) Yg (Z7 Zg)) (Za (Z5 (Ve (K':=K) rfl) (Zx (Yz (K':=K) rfl) (pv 7) (Zd2 (pv 6) (Z7 (Pc Tr Zg)) (fun _ _=>⟨_,rfl⟩))) Yg (Z7 Zg)) (Za (pv 6) Zc)))) (Zq Zl Zj rfl (Za (pv 0) (Za Zg Zc))) (fun _ _=>rfl)))
 (Zf (Zs (i:=9) SC.nd rfl (Or.inl rfl) (Zx Xm (Zq Zl Zj rfl (Za (pv 0) (Za Zg Zc))) (Zx (Yz (K':=K) rfl) (Zo (Yd (K:=K) rfl) (by rfl) T.b_len Dl (Za (pv 5) Zc)) Zg)))
 (Zi (Zs (i:=5) SC.nd rfl (Or.inr rfl) (Zx (Yz (K':=K) rfl) (Zx (Yz (K':=K) rfl) (Z5 (Ve (K':=K) rfl) (pv 5) Yg (Z7 (pv 9))) (Y0 (Za (pv 8) Zc))) (Z5 (Ve (K':=K) rfl) (pv 5) (Z7 (pv 9)) Yg))))))))
 Z0)
 (Zf (Zs (i:=10) SC.nd rfl (Or.inr rfl) (Zq X4 W7 rfl (Za (pv 0) (Za (Zo (Yd (K:=K) rfl) (by rfl) T.b_len Dl (Za (pv 5) Zc)) Zc))))
 (Zi (Zy (Y9 (T:=["_law_k"]) (cs:=[10,5]) rfl (CScope.ok (by kernel_rfl)) (Yn rfl T.b_range (Za (Zo (Yd (K:=K) rfl) (by rfl) T.b_len Dl (Za (pv 5) Zc)) Zc)) (fun _ _ _ _=>(Zr (i:=0) (Xn (by kernel_rfl)) rfl (Or.inl rfl) (Or.inr rfl))) (fun _ _ _ _=>Y6) (fun _ _ _ _=>(X2 (Za (Z8 (Ym (K':=K) rfl) (pv 1) (pv 0) (fun _ _=>rfl)) (Za (Z8 (Ym (K':=K) rfl) (pv 2) (pv 0) (fun _ _=>rfl)) Zc)))) (Y2 nofun))))))))))),fun _=>(Zv (Z9 (Zu (Zb (Zd 0) (Zb Zt Zm))) (s_g 3))
 (Zv (Z9 (Zu (Zb (Zd 0) (Zb Zt Zm))) (s_g 4))
 (Zv (Z9 (Zu (Zb (Zd 0) (Zb (Zd 3) (Zb (Zd 1) (Zb (Zd 2) Zm))))) (s_g 5))
 (Zv (Xi (Yb (s_op s_eq (Zd 4) Zt))
 (Z9 (Zog (Zu (Zb (Zd 0) (Zb (Zd 3) Zm)))) (s_g 5))
 Yf)
 (Zv (Xi (Yb (s_op s_gt (Zd 4) Zt))
 (Z9 (X0 (s_il (Zd 5)) (s_g 0) Wy (Zht (Zd 0) (Y8 (s_un No Zt)))) (s_g 5))
 Yf)
 (Zv (Xi (Zoh (Yb (s_op s_gt (Zd 4) Zt)) (Yb (s_op s_ne (Zd 5) (V8 Zm))))
 (Zv (Z9 (s_op s_ix (Zd 5) (s_op Np (Zu (Zb (Zd 0) (Zb Zt Zm))) (s_cb Xh (Zb (Zd 5) Zm)))) (s_g 6))
 (Zv (Z9 (s_op s_ix (Zd 5) (s_op Np (Zu (Zb (Zd 0) (Zb Zt Zm))) (s_cb Xh (Zb (Zd 5) Zm)))) (s_g 7))
 (Zv (Z9 (s_op s_ix (V8 (Zb (s_sl Vf (s_op Wi (Zd 6) (Zd 7)) Yq (Y8 Zt)) (Zb (s_sl Vf (s_op Wi (Zd 7) (Zht (Zd 6) (Y8 (s_un No Zt)))) Yq (Y8 Zt)) (Zb (Zd 6) Zm)))) (Zu (Zb (Zd 0) (Zb Zt Zm)))) (s_g 8))
 (Zv (Z9 (s_op Np (Zu (Zb (Zd 0) (Zb Zt Zm))) (s_op Wi (s_cb Xh (Zb (Zd 5) Zm)) Zt)) (s_g 9))
 (Z9 (s_op Wi (s_op Wi (s_sl Vf (Zd 5) Yq (Y8 (Zd 9))) (V8 (Zb (Zd 8) Zm))) (s_sl Vf (Zd 5) (Y8 (Zd 9)) Yq)) (s_g 5))))))
 Yf)
 (Zv (Z9 (Zu (Zb (Zd 0) (Zb (s_cb Xh (Zb (Zd 5) Zm)) Zm))) (s_g 10))
 (Yk (X0 (Se (Zb (s_cb Xh (Zb (Zd 5) Zm)) Zm)) (s_g 0) Wy (Ua (Zb (s_op s_ix (Zd 1) (Zd 0)) (Zb (s_op s_ix (Zd 2) (Zd 0)) Zm)))))))))))),fun ds M Kk hM hD h=>?_⟩
  obtain ⟨hd,m,lg,rfl,h⟩:=h;obtain ⟨⟨hh,m1,m2,g1,g2⟩,k⟩:=h;exists ·,hd,3,rfl,hh,⟨nofun,nofun⟩,fun bs nd b2 b3 _=>?_;have bne:bs≠[]:=fun e=>by rw [e] at b2; simp at b2
  refine ⟨_,rfl,hd,5,rfl,hh,⟨nofun,nofun⟩,fun way y0 y1=>?_⟩;refine ⟨_,rfl,_,rfl,_,rfl,_,rfl,hd,bs,m,lg,rfl,hh,⟨nd,bne,by lia,by lia,m2,g1,g2⟩,fun ws wo wb wl=>?_⟩;have hw:Wb bs ws:=fun w h=>⟨wo.2 w h,wb w h⟩;have lw:ws.length<=21:=by
   rcases (by lia:bs.length=2\/bs.length=3) with e | e <;> rw [e] at wl <;> lia
  refine g_nx ?_;dsimp only;refine Zbw (fun ρ' M'=>∃ (ws:List (List Int)),ws.length<=21/\Wb bs ws/\ρ'=[some (.cell hd),some (.int m),some (.int lg),some (.lst (bs.map .int)),some (.int way),some (.lst (ws.map wD)),none,none,none,none,none]/\M=M') (fun Kn hn=>?_) ?_
  ·exists ·,.inl ⟨_,rfl,_,rfl,ite2 (fun h=>?_) (fun h=>?_)⟩
   ·exists ·,·,hd,bs,rfl,⟨hh,bne,by lia⟩,fun ws l1 h1=>Zm0 rfl hM (Zim (U4 (fun _=>Zac) _)) (hn _ _ ⟨ws,by lia,h1,rfl,rfl⟩)
   ·exact hn _ _ ⟨ws,lw,hw,rfl,rfl⟩
  rintro _ _ ⟨ws,lw,hw,rfl,rfl⟩;refine Zbw (fun ρ' M'=>∃ (ws:List (List Int)),ws.length<=21/\Wb bs ws/\ρ'=[some (.cell hd),some (.int m),some (.int lg),some (.lst (bs.map .int)),some (.int way),some (.lst (ws.map wD)),none,none,none,none,none]/\M=M') (fun Kn hn=>?_) ?_
  ·exists ·,_,·,rfl,·,ite2 (fun h=>?_) (fun h=>?_)
   ·exists ·,·,?_,fun i ys M'=>M=M'/\ys=(ws.take i).map fun w=>wD w.reverse,fun _ _ _ _ _=>rfl,⟨rfl,rfl⟩,?_,?_
    ·show (ws.map wD).length<=sizeLine;rw [Ja];exact Zh (by lia)
    ·rintro i x ys _ hi hx ⟨rfl,rfl⟩;obtain ⟨hi',rfl⟩:=Yh hx;exists ·,·,·,rfl,·,rfl,?_;rw [Jk hi',Jm];show _=_++[D.tup ((ws[i]).reverse.map .int)];rw [List.map_reverse]
    ·rintro ys _ ⟨rfl,rfl⟩;have et:ws.take (ws.map wD).length=ws:=by rw [Ja,J9]
     rw [show List.take _ ws=ws from et];refine hn _ _ ⟨ws.map List.reverse,by rw [Ja]; exact lw,fun w hx=>?_,by rw [Gn]; rfl,rfl⟩;obtain ⟨v,hv,rfl⟩:=Jp.mp hx;exists ⟨fun z=>(hw v hv).1.1 (List.reverse_eq_nil_iff.mp z),by rw [Br]; exact (hw v hv).1.2⟩,fun b hb=>(hw v hv).2 b (List.mem_reverse.mp hb)
   ·exact hn _ _ ⟨ws,lw,hw,rfl,rfl⟩
  rintro _ _ ⟨ws,lw,hw,rfl,rfl⟩;refine Zbw (fun ρ' M'=>∃ (ws:List (List Int)) (v6 v7 v8 v9:Option D),ws.length<=22/\Wb bs ws/\ρ'=[some (.cell hd),some (.int m),some (.int lg),some (.lst (bs.map .int)),some (.int way),some (.lst (ws.map wD)),v6,v7,v8,v9,none]/\M=M') (fun Kn hn=>?_) ?_
  ·exists ·,_,·,rfl,·,ite2 (fun h=>?_) (fun h=>?_)
   ·exists ·,Jv _,Vt (Xo Yc) (a:=ws) (b:=[]) rfl rfl ⟨_,rfl,?_⟩
    by_cases e:ws=[]
    ·rw [Dg e];exact iteF (hn _ _ ⟨ws,_,_,_,_,by lia,hw,rfl,rfl⟩)
    rw [Dh e];refine iteT ?_;exists ·,·,hd,60,rfl,hh,⟨nofun,nofun⟩,fun z z0 z1=>?_;obtain ⟨one,ho,eo⟩:=Zbr (f:=wD) z e;exists ·,·,_,·,rfl,R8 e,_,_,·,rfl,eo,?_;exists ·,·,hd,60,rfl,hh,⟨nofun,nofun⟩,fun z z0 z1=>?_;obtain ⟨oth,hoth,eoth⟩:=Zbr (f:=wD) z e;exists ·,·,_,·,rfl,R8 e,_,_,·,rfl,eoth,?_;obtain ⟨⟨ho1,ho2⟩,ho3⟩:=hw one ho;obtain ⟨⟨hq1,hq2⟩,hq3⟩:=hw oth hoth;refine g_nx ?_;dsimp only;refine Q3 (fun d M'=>∃ w:List Int,d=wD w/\((w≠[]/\w.length<=4)/\∀ b∈w,b∈bs)/\M=M') (fun Kq hq=>?_) ?_
    ·have n1:(one.map D.int)≠[]:=fun z=>ho1 (List.map_eq_nil_iff.mp z);have n2:(oth.map D.int)≠[]:=fun z=>hq1 (List.map_eq_nil_iff.mp z);exists ·,·,⟨n1,?_⟩,·,·,·,·,·,rfl,·,⟨n2,?_⟩,·,·,(show 3<=sizeLine by decide),·,hd,3,rfl,hh,⟨nofun,nofun⟩,fun r r0 r1=>?_
     ·rw [Ja,Ja]; exact Zh (by lia)
     ·rw [Br,Ja,Ja]; exact Zh (by lia)
     rw [<- List.map_reverse,<- Zkt,<- Zkt,Yv,Yv];obtain ⟨d,ed,hd'⟩:=Zox (a:=wD (cut (one++oth) none (some 4))) (b:=wD (cut (oth++one.reverse) none (some 4))) (c:=wD one) r0 r1;exists _,_,·,rfl,ed,?_;rcases hd' with rfl | rfl | rfl
     ·exact hq _ _ ⟨_,rfl,⟨Zil (fun z=>ho1 (Bq.mp z).1),fun b hb=>(Jn.mp (Ql hb)).elim (ho3 b) (hq3 b)⟩,rfl⟩
     ·exact hq _ _ ⟨_,rfl,⟨Zil (fun z=>hq1 (Bq.mp z).1),fun b hb=>(Jn.mp (Ql hb)).elim (hq3 b) fun z=>ho3 b (List.mem_reverse.mp z)⟩,rfl⟩
     ·exact hq _ _ ⟨_,rfl,⟨⟨ho1,ho2⟩,ho3⟩,rfl⟩
    rintro _ _ ⟨mo,rfl,hmo,rfl⟩;refine g_nx ?_;refine Q3 (fun d M'=>∃ a:Int,d=.int a/\0<=a/\M=M') (fun Kq hq=>?_) ?_
    ·exists ·,hd,60,rfl,hh,⟨nofun,nofun⟩,fun q q0 q1=>⟨_,rfl,_,rfl,_,_,rfl,rfl,(by lia),hq _ _ ⟨_,rfl,G1 _ (by lia),rfl⟩⟩
    rintro _ _ ⟨a,rfl,ha,rfl⟩;have c3:=Zg7 (ws:=ws) ha;rw [Jc] at c3;exists ·,·,·,·,·,(show 1<=sizeLine by decide),_,·,rfl,?_,?_
    ·simp only [Yv,Ja];exact Zh (by show _+1<=_; lia)
    exists ·,·,·,·,_,·,rfl,?_,?_
    ·simp only [Yv,Jc,Ja,Go];exact Zh (by lia)
    simp only [Yv];refine hn _ _ ⟨cut ws none (some a)++[mo]++cut ws (some a) none,_,_,_,_,by rw [Jc,Jc]; show _+1+_<=_; lia,fun w hx=>?_,by rw [Jm,Jm]; rfl,rfl⟩;rcases Jn.mp hx with hx | hx
    ·rcases Jn.mp hx with hx | hx
     ·exact hw w (Ql hx)
     ·rw [Je.mp hx]; exact hmo
    ·exact hw w (Ql hx)
   ·exact iteF (hn _ _ ⟨ws,_,_,_,_,by lia,hw,rfl,rfl⟩)
  rintro _ _ ⟨ws,v6,v7,v8,v9,lw,hw,rfl,rfl⟩;have lm:(ws.map wD).length=ws.length:=Ja _;exists ·,·,·,hd,·,hh,⟨by lia,by lia⟩,fun ss nds ls=>?_;have ls:ss.length=ws.length:=by rw [lm] at ls; lia
  have lz:(ss.zip ws).length=ws.length:=by rw [List.length_zip]; lia
  have az:∀ j (h1:j<ss.length) (h2:j<ws.length),(ss.zip ws)[j]?=some (ss[j],ws[j]):=fun j h1 h2=>by rw [Jb (by lia),List.getElem_zip]
  have k':=k (ss.zip ws) bs (by lia) (by rw [List.map_fst_zip (by lia)]; exact nds) (by lia) (by rw [List.map_snd_zip (by lia)]; exact hw);generalize ss.zip ws=L at lz az k';exists ·,·,·,⟨by lia,by lia⟩,?_,fun i ys M'=>M=M'/\ys=(L.take i).map pD,fun _ _ _ _ _=>trivial,⟨rfl,rfl⟩,?_,?_
  ·exact Zh (by show ((ws.map wD).length:Int).toNat<=_; lia)
  ·rintro i x ys _ hi rfl ⟨rfl,rfl⟩;have hi:i<ws.length:=by
    have:i<((ws.map wD).length:Int).toNat:=hi;lia
   exists ·,·,_,_,·,rfl,W8 (as:=ss) (j:=i) (by lia) (by lia),·,·,_,_,·,rfl,W8 (f:=wD) (as:=ws) (j:=i) (by lia) hi,(show 2<=sizeLine by decide),rfl,?_;have ea:=az i (by lia) hi;rw [Jb (by lia)] at ea;rw [Jk (by lia),Jm,Di ea];rfl
  ·rintro ys _ ⟨rfl,rfl⟩;have eL:L.take (Zge 0 ((ws.map wD).length:Int).toNat).n=L:=by
    show L.take ((ws.map wD).length:Int).toNat=L;rw [Ja,Gs,<- lz,J9]
   rw [eL];exact .inl k'
open L3
def Zff:Sp3:=fun ds M K=>∃ (d:D) (L:List Pr),ds=[d]/\Z3 M d=some (L.map pD)/\Tf L/\∀ (rs:List (List Int)) (J:List MO),rs.Pairwise (fun a b=>HT.lexLt a b=true)->(∀ r,r∈rs↔Ov (L.map (·.2)) r)->K (.cell (M++J).length) (M++J++[.lst (rs.map wD)])
def Qk {xs:List τ} {m:Nat} (h:m<=xs.length):cut xs none (some (m:Int))=xs.take m:=by
 unfold cut;rw [HT.sIx_nat,HT.sIx_none,Fx,Fy,Bt h]
def Zfm {xs:List τ} {m:Nat} (h:m<=xs.length):cut xs (some (m:Int)) none=xs.drop m:=by
 unfold cut;rw [HT.sIx_nat,HT.sIx_none,Bt h];exact G8 (by rw [Gh]; exact Jf _)
theorem Dp (T:Txt mg) {C:Addr}  {f:Addr} (F:Fun K "rest_between" "rest_between" Y4 f fd):FnOk P w K mg base CX0 1 f fd ["one", "other"] (spOf ⟨C,K⟩ Zfd):=by
 refine L3.Fun.ok3 F Jaa (fun ds M K3 h=>?_) (fun cdv A outer s H E hr=>?_)
 ·obtain ⟨a,b,rfl,_⟩:=h;rfl
 ·have SC:=Jaa;have hu:=hr.units;have hu1:=X7 hr;refine ⟨_,_,(Zf (Zs (i:=2) SC.nd rfl (Or.inl rfl) (Zo (P3 rfl) (by rfl) T.b_min PyProof.Rows.boot_min (Za (Zo (Yd (K:=K) rfl) (by rfl) T.b_len Dl (Za (pv 0) Zc)) (Za (Zo (Yd (K:=K) rfl) (by rfl) T.b_len Dl (Za (pv 1) Zc)) Zc))))
 (Zf (Y7 (Zw (Uo (K':=K) rfl hu) (Z5 (Ve (K':=K) rfl) (pv 0) Yg (Z7 (pv 2))) (Z5 (Ve (K':=K) rfl) (pv 1) Yg (Z7 (pv 2))) (Z6 _))
 (Zi (Zy Zd4))
 Z0)
 (Zi (Zy (Zx (Zit (K':=K) rfl) (Z5 (Ve (K':=K) rfl) (pv 0) (Z7 (pv 2)) Yg) (Z5 (Ve (K':=K) rfl) (pv 1) (Z7 (pv 2)) Yg)))))),fun _=>(Zv (Z9 (s_cb Zhu (Zb (s_cb Xh (Zb (Zd 0) Zm)) (Zb (s_cb Xh (Zb (Zd 1) Zm)) Zm))) (s_g 2))
 (Zv (Xi (Yb (s_op s_ne (s_sl Vf (Zd 0) Yq (Y8 (Zd 2))) (s_sl Vf (Zd 1) Yq (Y8 (Zd 2)))))
 (Yk Zjd)
 Yf)
 (Yk (s_op Zlt (s_sl Vf (Zd 0) (Y8 (Zd 2)) Yq) (s_sl Vf (Zd 1) (Y8 (Zd 2)) Yq))))),fun ds M Kk hM hD h=>?_⟩
  obtain ⟨a,b,rfl,h⟩:=h;obtain ⟨⟨la,lb⟩,k⟩:=h;refine Q3 (fun d M'=>d=.int ((min a.length b.length:Nat):Int)/\M=M') (fun Kq hq=>?_) ?_
  ·exists ·,·,·,·,_,·,hq _ _ ⟨?_,rfl⟩;show D.int (if ((b.map D.int).length:Int)<((a.map D.int).length:Int) then ((b.map D.int).length:Int) else ((a.map D.int).length:Int))=_;rw [Ja,Ja]
   congr 1
   split <;> lia
  rintro _ _ ⟨rfl,rfl⟩;have hm:min a.length b.length<=a.length/\min a.length b.length<=b.length:=⟨by lia,by lia⟩;have er:rb a b=if a.take (min a.length b.length)=b.take (min a.length b.length) then some (a.drop (min a.length b.length)++b.drop (min a.length b.length)) else none:=rfl;generalize min a.length b.length=m at hm er;exists ·,·,·,·,·,·,?_;show eqV (.tup (cut (a.map .int) none (some (m:Int)))) (.tup (cut (b.map .int) none (some (m:Int)))) M _;rw [Yv,Yv,Qk hm.1,Qk hm.2];refine Wv (Xo Yc) (a:=a.take m) (b:=b.take m) ⟨_,rfl,?_⟩
  by_cases e:a.take m=b.take m
  ·rw [Dg e];rw [Df e] at er;refine iteF ⟨_,rfl,_,rfl,_,rfl,_,rfl,_,rfl,_,rfl,?_⟩;show Znq (.tup (cut (a.map .int) (some (m:Int)) none)) (.tup (cut (b.map .int) (some (m:Int)) none)) M _;rw [Yv,Yv,Zfm hm.1,Zfm hm.2];exists _,·,rfl,?_,.inl ?_
   ·rw [Ja,Ja,Gh,Gh];exact Zh (by lia)
   ·rw [<- Jm];rw [er] at k;exact k
  ·rw [Dh e];rw [De e] at er;rw [er] at k;exact iteT (.inl k)
theorem Jav (T:Txt mg) {C:Addr} (Y5:Cal P w K mg base "rest_between" 1 ["one", "other"] (spOf ⟨C,K⟩ Zfd)) {f:Addr} (F:Fun K "rests_between" "rests_between" Ys f fd):FnOk P w K mg base CX0 2 f fd ["part", "words"] (spOf ⟨C,K⟩ Zfc):=by
 refine L3.Fun.ok3 F Jbr (fun ds M K3 h=>?_) (fun cdv A outer s H E hr=>?_)
 ·obtain ⟨a,ws,rfl,_⟩:=h;rfl
 ·have SC:=Jbr;have hu:=hr.units;have hu1:=X7 hr;have Wk:Room 1 _:=hr.mono nofun;refine ⟨_,_,(Zf (Ub (i:=2) SC.nd rfl rfl (T:=["word"]) (cs:=[0]) rfl (CScope.ok (by kernel_rfl)) (Ye (pv 1)) (fun _ _ _ _=>(Zr (i:=0) (Xn (by kernel_rfl)) rfl (Or.inl rfl) (Or.inr rfl))) (fun _ _ _ _=>Y6) (fun _ _ _ _=>(Zq Y5 Wk rfl (Za (pv 1) (Za (pv 0) Zc)))) (Y2 nofun))
 (Zi (Zy (Y9 (T:=["rest"]) (cs:=[]) rfl (CScope.ok (by kernel_rfl)) (Ye (pv 2)) (fun _ _ _ _=>(Zr (i:=0) (Xn (by kernel_rfl)) rfl (Or.inl rfl) (Or.inr rfl))) (fun _ _ _ _=>(Tg (Sh (Rv (pv 0))))) (fun _ _ _ _=>(pv 0)) (Y2 nofun))))),fun _=>(Zv (Z9 (X0 (s_il (Zd 1)) (s_g 0) Wy (Zu (Zb (Zd 1) (Zb (Zd 0) Zm)))) (s_g 2))
 (Yk (X0 (s_il (Zd 2)) (s_g 0) (s_b (Zaz (Zd 0))) (Zd 0)))),fun ds M Kk hM hD h=>?_⟩
  obtain ⟨a,ws,rfl,h⟩:=h;obtain ⟨⟨lw,la,hw⟩,k⟩:=h;exists ·,·,?_,fun i ys M'=>M=M'/\ys=(ws.take i).map fun w=>opW (rb a w),fun _ _ _ _ _=>rfl,⟨rfl,rfl⟩,?_,?_
  ·show (ws.map wD).length<=sizeLine;rw [Ja];exact Zh (by lia)
  ·rintro i x ys _ hi hx ⟨rfl,rfl⟩;obtain ⟨hi',rfl⟩:=Yh hx;have l4:=hw _ (Ge hi');exists ·,·,a,ws[i],rfl,⟨by lia,by lia⟩,rfl,?_;rw [Jk hi',Jm];rfl
  rintro ys _ ⟨rfl,rfl⟩;have e:ws.take (ws.map wD).length=ws:=by rw [Ja,J9]
  rw [show List.take _ ws=ws from e];exists ·,·,?_,fun i ys M'=>M=M'/\ys=((ws.take i).filterMap (rb a)).map wD,fun _ _ _ _ _=>rfl,⟨rfl,rfl⟩,?_,?_
  ·show (ws.map fun w=>opW (rb a w)).length<=sizeLine;rw [Ja];exact Zh (by lia)
  ·rintro i x ys _ hi hx ⟨rfl,rfl⟩;obtain ⟨hi',rfl⟩:=Yh (f:=fun w=>opW (rb a w)) hx;cases er:rb a ws[i] with
   | none =>
    exists ·,·,iteF ⟨rfl,?_⟩;rw [Jk hi',Bc,Jm,List.filterMap_cons_none er];exact (Ga _).symm
   | some r =>
    exists ·,·,iteT ⟨_,rfl,rfl,?_⟩;rw [Jk hi',Bc,Jm,List.filterMap_cons_some er];rfl
  rintro ys _ ⟨rfl,rfl⟩;have e:ws.take (ws.map fun w=>opW (rb a w)).length=ws:=by rw [Ja,J9]
  rw [show List.take _ ws=ws from e];exact .inl k
theorem Dz (T:Txt mg) {C:Addr} (Yw:Cal P w K mg base "rests_between" 2 ["part", "words"] (spOf ⟨C,K⟩ Zfc)) {f:Addr} (F:Fun K "first_rests" "first_rests" Xf f fd):FnOk P w K mg base CX0 3 f fd ["words"] (spOf ⟨C,K⟩ Zfh):=by
 refine L3.Fun.ok3 F Jbz (fun ds M K3 h=>?_) (fun cdv A outer s H E hr=>?_)
 ·obtain ⟨ws,rfl,_⟩:=h;rfl
 ·have SC:=Jbz;have hu:=hr.units;have hu1:=X7 hr;have X8:Room 2 _:=hr.mono nofun;refine ⟨_,_,(Zf (Zs (i:=1) SC.nd rfl (Or.inl rfl) (Y0 Zc))
 (Zf (Xl PassesOwn.never rfl (Zd0 rfl T.b_enumerate (Za (pv 0) Zc)) (Vl (n:=2) rfl (Ya (Zr (i:=2) SC.nd rfl (Or.inl rfl)) (Ya (Zr (i:=3) SC.nd rfl (Or.inl rfl)) Wj)) (by rfl))
 (Zi (Vk (Nu PySem.F.plainAttrs_list PySem.F.slot_list_extend PySem.F.type_list_extend Sl (pv 1) (Za (Zq Yw X8 rfl (Za (pv 3) (Za (Z5 (Ve (K':=K) rfl) (pv 0) Yg (Z7 (pv 2))) Zc))) Zc)))))
 (Zi (Zy (pv 1))))),fun _=>(Zv (Z9 (S9 Zm) (s_g 1))
 (Zv (W4 (s_ie (Zb (Zd 0) Zm)) (Vh (Yl (s_g 2) (Yl (s_g 3) Vi)))
 (Ts (Rp (Zd 1) (Zb (Zu (Zb (Zd 3) (Zb (s_sl Vf (Zd 0) Yq (Y8 (Zd 2))) Zm))) Zm))))
 (Yk (Zd 1)))),fun ds M Kk hM hD h=>?_⟩
  obtain ⟨ws,rfl,h⟩:=h;obtain ⟨⟨lw,hw⟩,k⟩:=h;exists Jv _,?_;exists ·,_,·,rfl,fun j ρ M'=>∃ v2 v3:Option D,ρ=[some (.lst (ws.map wD)),some (.cell M.length),v2,v3]/\M'=M++[.lst ((frs ws j).map wD)],fun _ _ _ _ _=>rfl,⟨_,_,rfl,rfl⟩,?_,?_
  ·rintro j x ρ M' hj ⟨y,hy,rfl⟩ ⟨v2,v3,rfl,rfl⟩;obtain ⟨hj',rfl⟩:=Yh hy;exists ·,rfl,_,·,_,·,rfl,?_;exists ·,Uc Sn,·,·,·,·,·,?_;rw [Yv,Qk (Fp hj')];exists ws[j],ws.take j,rfl,⟨by rw [Jz]; lia,hw _ (Ge hj'),fun w h=>hw w (Bk h)⟩,?_;have ef:(ws.take j).filterMap (rb ws[j])=fr1 ws j:=by unfold fr1; rw [List.getElem?_eq_getElem hj']; rfl
   rw [ef];have l1:=N5 lw (n:=j);have l2:(fr1 ws j).length<=40:=by rw [<- ef]; exact Jy (Be _ _) (by rw [Jz]; lia)
   exists M.length,_,_,·,rfl,Xq,rfl,?_,.inl ⟨_,_,rfl,?_⟩
   ·rw [Ja,Ja];exact Zh (by lia)
   ·rw [W3,<- Jm];rfl
  ·rintro ρ M' ⟨v2,v3,rfl,rfl⟩;rw [show (ws.map wD).length=ws.length from Ja _];exists ·,.inl k
theorem Jab (T:Txt mg) {C:Addr} (Va:Cal P w K mg base "first_rests" 3 ["words"] (spOf ⟨C,K⟩ Zfh)) (Yw:Cal P w K mg base "rests_between" 2 ["part", "words"] (spOf ⟨C,K⟩ Zfc)) {f:Addr} (F:Fun K "overhangs" "overhangs" Xt f fd):FnOk P w K mg base CX0 4 f fd ["table"] (spOf ⟨C,K⟩ Zff):=by
 refine L3.Fun.ok3 F Jce (fun ds M K3 h=>?_) (fun cdv A outer s H E hr=>?_)
 ·obtain ⟨d,L,rfl,_⟩:=h;rfl
 ·have SC:=Jce;have hu:=hr.units;have hu1:=X7 hr;have S5:Room 3 _:=hr.mono nofun;have X8:Room 2 _:=hr.mono nofun;refine ⟨_,_,(Zf (Ub (i:=1) SC.nd rfl rfl (T:=["sign", "word"]) (cs:=[]) rfl (CScope.ok (by kernel_rfl)) (Ye (pv 0)) (fun _ _ _ _=>(Vl (n:=2) rfl (Ya (Zr (i:=0) (Xn (by kernel_rfl)) rfl (Or.inl rfl) (Or.inr rfl)) (Ya (Zr (i:=1) (Xn (by kernel_rfl)) rfl (Or.inl rfl) (Or.inr rfl)) Wj)) (by rfl))) (fun _ _ _ _=>Y6) (fun _ _ _ _=>(pv 1)) (Pu (Xy nofun (Xy nofun Sx))))
 (Zf (Zs (i:=2) SC.nd rfl (Or.inl rfl) Za5)
 (Zf (Zs (i:=3) SC.nd rfl (Or.inl rfl) (Zq Va S5 rfl (Za (pv 1) Zc)))
 (Zf (Ru PassesOwn.never (Zw S2 (Zo (Yd (K:=K) rfl) (by rfl) T.b_len Dl (Za (pv 3) Zc)) Zg (Z6 _))
 (Zf (Zs (i:=4) SC.nd rfl (Or.inl rfl) (Zh3 PySem.F.plainAttrs_list PySem.F.slot_list_pop PySem.F.type_list_pop Zme (pv 3)))
 (Zi (Y7 (Sh (Pd hu1 (pv 4) (pv 2)))
 (Zf (Zdv hu1 (pv 2) (pv 4) W6 rfl)
 (Zi (Y7 (Zw (Uo (K':=K) rfl hu) (pv 4) (X2 Zc) (Z6 _))
 (Zi (Vk (Nu PySem.F.plainAttrs_list PySem.F.slot_list_extend PySem.F.type_list_extend Sl (pv 3) (Za (Zq Yw X8 rfl (Za (pv 4) (Za (pv 1) Zc))) Zc))))
 Z0)))
 Z0))))
 (Zi (Zy (Zo (Zaa rfl (Ni hr)) (by rfl) T.b_sorted PyProof.Rows.boot_sorted (Za (pv 2) Zc)))))))),fun _=>(Zv (Z9 (X0 (s_il (Zd 0)) (Vh (Yl (s_g 0) (Yl (s_g 1) Vi))) Wy (Zd 1)) (s_g 1))
 (Zv (Z9 Zde (s_g 2))
 (Zv (Z9 (Zu (Zb (Zd 1) Zm)) (s_g 3))
 (Zv (Nn (Yb (s_op s_gt (s_cb Xh (Zb (Zd 3) Zm)) Zt))
 (Zv (Z9 (Zod (Zd 3)) (s_g 4))
 (Xi (s_b (Za0 (Zd 4) (Zd 2)))
 (Zv (Zhw (Zd 2) (Zd 4) s_bl)
 (Xi (Yb (s_op s_ne (Zd 4) (Ua Zm)))
 (Ts (Rp (Zd 3) (Zb (Zu (Zb (Zd 4) (Zb (Zd 1) Zm))) Zm)))
 Yf))
 Yf)))
 (Yk (s_cb Zdb (Zb (Zd 2) Zm))))))),fun ds M Kk hM hD h=>?_⟩
  obtain ⟨d,L,rfl,h⟩:=h;obtain ⟨e1,tf,k⟩:=h;have lL:=tf.len;have hL:∀ p∈L,p.2.length<=4:=fun p hp=>(tf.w p hp).2;have few:=tf.few;exists ·,_,e1,?_,fun i ys M'=>M=M'/\ys=(L.take i).map fun p=>wD p.2,fun _ _ _ _ z=>by rw [<- z.1]; exact e1,⟨rfl,rfl⟩,?_,?_
  ·show (L.map pD).length<=sizeLine;rw [Ja];exact Zh (by lia)
  ·rintro i x ys _ hi hx ⟨rfl,rfl⟩;obtain ⟨hi',rfl⟩:=Yh hx;exists ·,rfl,_,·,_,·,rfl,·,rfl,?_;rw [Jk hi',Jm];rfl
  rintro ys _ ⟨rfl,rfl⟩;have e:((L.take (L.map pD).length).map fun p=>wD p.2)=(L.map (·.2)).map wD:=by rw [Ja,J9,Gn]; rfl
  rw [show List.map (fun p=>wD p.2) (List.take _ L)=(L.map (·.2)).map wD from e];have lw:(L.map (·.2)).length<=40:=by rw [Ja]; exact lL
  have hw:∀ w∈L.map (·.2),w.length<=4:=fun w h=>by obtain ⟨p,hp,rfl⟩:=Jp.mp h; exact hL p hp
  clear tf;generalize L.map (·.2)=ws at lw hw few k;refine g_nx ?_;dsimp only;exists ·,ws,rfl,⟨lw,hw⟩,?_;have el:(M++[MO.dcT []]).length=M.length+1:=by rw [Jc]; rfl
  rw [el,Jt];exists fun m ρ' M'=>∃ (zs ps:List (List Int)) (v4:Option D),ρ'=[some d,some (.lst (ws.map wD)),some (.cell M.length),some (.cell (M.length+1)),v4]/\M'=M++[.dcT (seen zs),.lst (ps.map wD)]/\OvSt ws zs ps/\ps.length<=1600+40*zs.length/\m=(64-zs.length)*41+ps.length,⟨_,[],frs ws ws.length,_,rfl,rfl,.start,?_,rfl⟩,?_
  ·have:=N5 lw (n:=ws.length);show _<=1600+0;lia
  rintro m ρ1 M1 ⟨zs,ps,v4,rfl,rfl,st,lp,em⟩;have zl:=few zs st.nd st.z;exists ·,?_;dsimp only [uNil];refine Zmi (Tw two1) ⟨_,_,rfl,rfl,_,rfl,?_⟩;have dc:∀ ps:List (List Int),Pz (M++[MO.dcT (seen zs),MO.lst (ps.map wD)]) (.cell M.length)=some (seen zs):=fun ps=>by simp only [Pz,two0]
  rcases (show ps=[]\/∃ ps' r,ps=ps'++[r] by rcases List.eq_nil_or_concat ps with h | ⟨a,b,h⟩; exact .inl h; exact .inr ⟨a,b,by rw [h,List.concat_eq_append]⟩) with rfl | ⟨ps',r,rfl⟩
  ·refine iteF ?_;exists ·,_,zs.map fun z=>(z,D.bl true),rfl,(dc _).trans (by rw [Gn]; rfl),⟨by rw [Ja]; exact zl,by rw [Gn]; exact (List.map_id _).symm ▸ st.nd⟩,fun rs pm pw=>?_;have em:(zs.map fun z=>(z,D.bl true)).map (·.1)=zs:=by rw [Gn]; exact List.map_id _
   rw [em] at pm;exact .inl (k rs _ pw fun r=>⟨fun h=>st.z r (pm.mem_iff.mp h),fun h=>pm.mem_iff.mpr (st.all h)⟩)
  ·rw [Dg (by rw [Ja,Jc]; show (0:Int)<((ps'.length+1:Nat):Int); lia)];refine iteT ?_;have lp':ps'.length+1<=1600+40*zs.length:=by rw [Jc] at lp; exact lp
   exists ·,M.length+1,_,wD r,rfl,rfl,two1,by rw [Jm,Jc]; simp,?_;rw [Jm,show (ps'.map wD++[r].map wD).dropLast=ps'.map wD from List.dropLast_concat,Zli];exists ·,·,_,.inr ⟨_,_,dc _,Sr _,rfl⟩,·,?_;rw [Zax]
   by_cases hr:r∈zs
   ·rw [Dg hr];refine iteF ⟨_,?_,.inl ⟨zs,ps',_,rfl,rfl,st.old hr,by lia,rfl⟩⟩;rw [em,Jc];show _<_+(ps'.length+1);lia
   ·rw [Dh hr];refine iteT ?_;have ovr:Ov ws r:=st.p r (Ji _ (Je.mpr rfl));exists ·,·,_,.inr ⟨M.length,_,_,rfl,two0,Sr _,?_,rfl⟩,?_
    ·unfold seen;rw [Ja];exact Gg zl nofun
    rw [Zoa,Zay hr];exists ·,Jv _,Wv (Xo Yc) (a:=r) (b:=[]) ⟨_,rfl,?_⟩
    by_cases rne:r=[]
    ·have st2:=st.new hr (ms:=[]) (fun z=>absurd rne z) (fun _=>rfl);have zl2:=few _ st2.nd st2.z;rw [Dg rne];refine iteF ⟨_,?_,.inl ⟨zs++[r],ps',_,rfl,rfl,by rw [Ga] at st2; exact st2,?_,rfl⟩⟩
     ·rw [em];rw [Jc] at zl2 ⊢;rw [Jc];have zl2:zs.length+1<64:=zl2;show (64-(zs.length+1))*41+ps'.length<(64-zs.length)*41+(ps'.length+1);lia
     ·rw [Jc];show _<=1600+40*(zs.length+1);lia
    have st2:=st.new hr (fun _=>rfl) (fun e=>absurd e rne);have zl2:=few _ st2.nd st2.z;have lm:(ws.filterMap (rb r)).length<=40:=Jy (Be _ _) lw;rw [Dh rne];refine iteT ⟨_,rfl,Uc (Tw two1),_,rfl,_,rfl,r,ws,rfl,⟨lw,Zd7 hw ovr,hw⟩,M.length+1,_,_,_,rfl,rfl,two1,rfl,?_,?_⟩
    ·rw [Ja,Ja];exact Zh (by lia)
    rw [Zli,<- Jm];exists _,?_,.inl ⟨zs++[r],_,_,rfl,rfl,st2,?_,rfl⟩
    ·rw [em];rw [Jc] at zl2 ⊢;rw [Jc,Jc];have zl2:zs.length+1<64:=zl2;show (64-(zs.length+1))*41+(ps'.length+_)<(64-zs.length)*41+(ps'.length+1);lia
    ·rw [Jc,Jc];show _<=1600+40*(zs.length+1);lia
open L3
inductive A4 where
 | i (n:Int) | non | a | sa
 deriving DecidableEq
def a4D:A4->D
 | .i n=>.int n
 | .non=>.non
 | .a=>.str "a"
 | .sa=>.tup [.int 7,.str "a"]
def a4P:A4->PyData
 | .i n=>.int n
 | .non=>.none
 | .a=>.str "a"
 | .sa=>.tuple [.int 7,.str "a"]
def encA:Enc A4 where
 e:=a4D
 py:=a4P
 n:=1
 ok:=fun M x=>by
  cases x with
  | i n=>exact .int n
  | non=>exact .non
  | a=>exact .str _
  | sa=>exact .tup (.cons (.int 7) (.cons (.str _) .nil))
 shp:=fun x=>by
  have hs:(PyData.str "a").canLay0=true:=by simp only [PyData.canLay0]; decide +kernel
  cases x with
  | i n=>exact ⟨(Sb n).1,Jy (Sb n).2 (Jv _)⟩
  | non=>exact ⟨by simp only [a4P,PyData.canLay0],by simp only [a4P,PyData.depth]; decide⟩
  | a=>exact ⟨hs,by simp only [a4P,PyData.depth]; decide⟩
  | sa =>
   refine Sa (n:=0) fun d hd=>?_;rcases Ju.mp hd with z | hd
   ·rw [z]; exact Sb 7
   ·rw [Je.mp hd]; exact ⟨hs,by simp only [PyData.depth]; decide⟩
 eq:=fun x y=>by
  cases x <;> cases y <;> simp [a4P,PyData.eqv,PyData.eqvAll,Bool.beq_eq_decide_eq]
 hn:=by decide
def encM:Enc (List A4):=Xo encA
def iw (w:List Int):List A4:=w.map A4.i
def iw_e (w:List Int):encM.e (iw w)=wD w:=by
 show D.tup ((w.map A4.i).map a4D)=D.tup (w.map .int);rw [Gn];rfl
def Zms {v w:List Int} (h:iw v=iw w):v=w:=by
 unfold iw at h;exact (List.map_inj_right (fun _ _ e=>by injection e)).mp h
def iws :(ws.map iw).map encM.e=ws.map wD:=by
 rw [Gn];exact List.map_congr_left fun w _=>iw_e w
def Zjs {w:List Int}:iw w∈ws.map iw↔w∈ws:=⟨fun h=>by obtain ⟨v,hv,e⟩:=Jp.mp h; rw [<- Zms e]; exact hv,fun h=>G4 h⟩
def Zfb:Sp3:=fun ds M K=>∃ (d e:D) (L:List Pr) (us:List (List A4)),ds=[d,e]/\Z3 M d=some (L.map pD)/\Z3 M e=some (us.map encM.e)/\Tf L/\∀ b:Bool,(b=true↔¬ Ov (L.map (·.2)) []/\∀ r,Ov (L.map (·.2)) r->iw r∈us)->K (.bl b) M
theorem Jas (T:Txt mg) {C:Addr} (Xw:Cal P w K mg base "overhangs" 4 ["table"] (spOf ⟨C,K⟩ Zff)) {f:Addr} (F:Fun K "shows_one_way" "shows_one_way" Yr f fd):FnOk P w K mg base CX0 5 f fd ["table", "some"] (spOf ⟨C,K⟩ Zfb):=by
 refine L3.Fun.ok3 F Jay (fun ds M K3 h=>?_) (fun cdv A outer s H E hr=>?_)
 ·obtain ⟨d,e,L,us,rfl,_⟩:=h;rfl
 ·have SC:=Jay;have hu:=hr.units;have hu1:=X7 hr;have Vp:Room 4 _:=hr.mono nofun;refine ⟨_,_,(Zf (Zs (i:=2) SC.nd rfl (Or.inl rfl) (Zq Xw Vp rfl (Za (pv 0) Zc)))
 (Zi (Zy (Zd5 (Ti (Um (K':=K) rfl hu) (X2 Zc) (pv 2) rfl) (Zd3 (Zo (Zio (K:=K) rfl rfl) (by rfl) T.b_all PyProof.Rows.boot_all (Za (Y9 (T:=["rest"]) (cs:=[1]) rfl (CScope.ok (by kernel_rfl)) (Ye (pv 2)) (fun _ _ _ _=>(Zr (i:=0) (Xn (by kernel_rfl)) rfl (Or.inl rfl) (Or.inr rfl))) (fun _ _ _ _=>Y6) (fun _ _ _ _=>(Ti (Zhl (K':=K) rfl hu) (pv 0) (pv 1) rfl)) (Y2 nofun)) Zc))))))),fun _=>(Zv (Z9 (Zu (Zb (Zd 0) Zm)) (s_g 2))
 (Yk (Zdf (s_op T5 (Ua Zm) (Zd 2)) (s_cb Zls (Zb (X0 (s_il (Zd 2)) (s_g 0) Wy (s_op Zlq (Zd 0) (Zd 1))) Zm))))),fun ds M Kk hM hD h=>?_⟩
  obtain ⟨d,e,L,us,rfl,h⟩:=h;obtain ⟨e1,e2,tf,k⟩:=h;exists ·,d,L,rfl,e1,tf,fun rs J pw hrs=>?_;have ndr:rs.Nodup:=pw.imp fun {a b} h e=>by rw [e,Vo] at h; cases h
  have lr:rs.length<64:=tf.few rs ndr fun z hz=>(hrs z).mp hz;refine g_nx ?_;have hl:Z3 (M++J++[MO.lst (rs.map wD)]) (.cell (M++J).length)=some (rs.map wD):=Xx;exists Jv _,·,Ux (Xo Yc) (xs:=rs) (t:=[]) ((Xo Yc).ok _ []) hl fun b hb=>?_;exists ·,?_;cases b with
  | true =>
   refine iteF ?_;exact Ue pre2 hM Qr (k false ⟨(fun z=>nomatch z),fun h=>absurd ((hrs []).mp (hb.mp rfl)) h.1⟩)
  | false =>
   have no:[]∉rs:=fun h=>nomatch hb.mpr h;have e2':Z3 (M++J++[MO.lst (rs.map wD)]) e=some (us.map encM.e):=by
    rw [Jt];exact Zmg e2
   refine iteT ?_;exists ·,_,hl,?_,fun i ys M'=>M++J++[MO.lst (rs.map wD)]=M'/\∃ bs:List Bool,ys=bs.map D.bl/\bs.length=i/\((∀ b∈bs,b=true)↔∀ r∈rs.take i,iw r∈us),fun _ _ _ _ z=>by rw [<- z.1]; exact hl,⟨rfl,[],rfl,rfl,⟨(fun _ _ h=>nomatch h),fun _ _ h=>nomatch h⟩⟩,?_,?_
   ·show (rs.map wD).length<=sizeLine;rw [Ja];exact Zh (by lia)
   ·rintro i x ys _ hi hx ⟨rfl,bs,rfl,lb,hb⟩;obtain ⟨hi',rfl⟩:=Yh hx;exists ·,·,Zh7 encM (xs:=us) (t:=iw rs[i]) (by have:=encM.ok (M++J++[MO.lst (rs.map wD)]) (iw rs[i]); rw [iw_e] at this; exact this) e2' fun b hb2=>⟨rfl,bs++[b],by rw [Jm]; rfl,by rw [Jc,lb]; rfl,?_⟩;rw [Jk hi'];exists fun h r hr=>?_,fun h c hc=>?_
    ·rcases Jn.mp hr with z | z
     ·exact hb.mp (fun b hb=>h b (Jw _ hb)) r z
     ·rw [Je.mp z]; exact hb2.mp (h b (Ji _ (Je.mpr rfl)))
    ·rcases Jn.mp hc with z | z
     ·exact hb.mpr (fun r hr=>h r (Jw _ hr)) c z
     ·rw [Je.mp z]; exact hb2.mpr (h _ (Ji _ (Je.mpr rfl)))
   rintro ys _ ⟨rfl,bs,rfl,lb,hb⟩;have e:rs.take (rs.map wD).length=rs:=by rw [Ja,J9]
   rw [show List.take _ rs=rs from e] at hb;exists _,bs,rfl,rfl,Ue pre2 hM Qr (k _ ⟨fun h=>⟨fun o=>no ((hrs []).mpr o),fun r o=>hb.mp (fun b hb=>Bj.mp h b hb) r ((hrs r).mpr o)⟩,fun h=>Bj.mpr fun b hb'=>hb.mpr (fun r hr=>h.2 r ((hrs r).mp hr)) b hb'⟩)
open L3
def Zlh {w:List Int} (h:pl<=ns.length) {K:K3} (hk:K (.tup (((ns.drop pl).take w.length).map .int)) M):sl3 (.tup (ns.map .int)) (some (pl:Int)) (some ((pl:Int)+((w.map D.int).length:Int))) M K:=by
 show K (.tup (cut (ns.map .int) _ _)) M;rw [Yv,Ja,Zbl h];exact hk
theorem Rq {n:Nat} {d:D}:(List.replicate n [d]).flatten=List.replicate n d:=by
 induction n with
 | zero=>rfl
 | succ n ih=>rw [G3,By,ih,G3]; rfl
theorem Zgx {d:D} {m:MO} (h:Z3 M d=some xs):Z3 (M++[m]) d=some xs:=by
 cases d with
 | lst ys=>exact h
 | frz ys=>exact h
 | cell k =>
  simp only [Z3] at h ⊢
  by_cases hk:k<M.length
  ·rw [Jx hk]; exact h
  ·rw [Fk (Nat.le_of_not_lt hk)] at h;exact nomatch h
 | _=>exact nomatch h
def Zih:Sp3:=fun ds M K=>∃ (d:D) (L:List Pr) (ns:List Int) (pl:Nat),ds=[d,.tup (ns.map .int),.int pl]/\Z3 M d=some (L.map pD)/\(pl<=ns.length/\L.length<=100)/\K (.lst ((L.filter (hit ns pl)).map pD)) M
theorem Jag (T:Txt mg) {C:Addr}  {f:Addr} (F:Fun K "pairs_at" "pairs_at" Wh f fd):FnOk P w K mg base CX0 1 f fd ["table", "row", "place"] (spOf ⟨C,K⟩ Zih):=by
 refine L3.Fun.ok3 F Jbl (fun ds M K3 h=>?_) (fun cdv A outer s H E hr=>?_)
 ·obtain ⟨d,L,ns,pl,rfl,_⟩:=h;rfl
 ·have SC:=Jbl;have hu:=hr.units;have hu1:=X7 hr;exists _,_,(Zi (Zy (Y9 (T:=["sign", "word"]) (cs:=[1,2]) rfl (CScope.ok (by kernel_rfl)) (Ye (pv 0)) (fun _ _ _ _=>(Vl (n:=2) rfl (Ya (Zr (i:=0) (Xn (by kernel_rfl)) rfl (Or.inl rfl) (Or.inr rfl)) (Ya (Zr (i:=1) (Xn (by kernel_rfl)) rfl (Or.inl rfl) (Or.inr rfl)) Wj)) (by rfl))) (fun _ _ _ _=>(Tg (Zw (T9 (K':=K) rfl hu) (Z5 (Ve (K':=K) rfl) (pv 2) (Z7 (pv 3)) (Z7 (Zx (Yz (K':=K) rfl) (pv 3) (Zo (Yd (K:=K) rfl) (by rfl) T.b_len Dl (Za (pv 1) Zc))))) (pv 1) (Z6 _)))) (fun _ _ _ _=>(X2 (Za (pv 0) (Za (pv 1) Zc)))) (Pu (Xy nofun (Xy nofun Sx)))))),fun _=>(Yk (X0 (s_il (Zd 0)) (Vh (Yl (s_g 0) (Yl (s_g 1) Vi))) (Yb (s_op s_eq (s_sl Vf (Zd 2) (Y8 (Zd 3)) (Y8 (s_op Wi (Zd 3) (s_cb Xh (Zb (Zd 1) Zm))))) (Zd 1))) (Ua (Zb (Zd 0) (Zb (Zd 1) Zm))))),fun ds M Kk hM hD h=>?_
  obtain ⟨d,L,ns,pl,rfl,h⟩:=h;obtain ⟨e1,⟨hpl,hl⟩,k⟩:=h;exists ·,_,e1,?_,fun i ys M'=>M=M'/\ys=((L.take i).filter (hit ns pl)).map pD,fun M' _ _ _ z=>by rw [<- z.1]; exact e1,⟨rfl,rfl⟩,?_,?_
  ·show (L.map pD).length<=sizeLine;rw [Ja];exact Zh (by lia)
  ·rintro i x ys _ hi hx ⟨rfl,rfl⟩;obtain ⟨hi',rfl⟩:=Yh hx;exists ·,rfl,_,·,_,·,rfl,?_;exists ·,·,·,·,·,·,·,?_;refine Zlh hpl ⟨_,rfl,Wv (Xo Yc) (a:=(ns.drop pl).take (L[i]).2.length) (b:=(L[i]).2) ⟨_,rfl,?_⟩⟩
   by_cases z:hit ns pl L[i]=true
   ·rw [show decide ((ns.drop pl).take (L[i]).2.length=(L[i]).2)=true from z];refine iteT ⟨_,rfl,_,rfl,(show 2<=sizeLine by decide),rfl,?_⟩;rw [Jk hi',Fu,Jm,List.filter_cons_of_pos z];rfl
   ·rw [show decide ((ns.drop pl).take (L[i]).2.length=(L[i]).2)=false from Bool.eq_false_iff.mpr z];refine iteF ⟨rfl,?_⟩;rw [Jk hi',Fu,Jm,List.filter_cons_of_neg z];exact (Ga _).symm
  ·rintro ys _ ⟨rfl,rfl⟩;have e:L.take (L.map pD).length=L:=by rw [Ja,J9]
   rw [show List.take _ L=L from e];exact .inl k
def Tb (L:List Pr):Prop:=L.length<=40/\Wd4 (L.map (·.2))
def Zfj:Sp3:=fun ds M K=>∃ (d:D) (L:List Pr) (ns:List Int),ds=[d,.tup (ns.map .int)]/\Z3 M d=some (L.map pD)/\(ns.length<=1000/\Tb L)/\K (.cell M.length) (M++[.lst ((cnts L ns ns.length).map .int)])
theorem Jbi (T:Txt mg) {C:Addr} (Tp:Cal P w K mg base "pairs_at" 1 ["table", "row", "place"] (spOf ⟨C,K⟩ Zih)) {f:Addr} (F:Fun K "counts_from" "counts_from" Xg f fd):FnOk P w K mg base CX0 2 f fd ["table", "row"] (spOf ⟨C,K⟩ Zfj):=by
 refine L3.Fun.ok3 F Jbj (fun ds M K3 h=>?_) (fun cdv A outer s H E hr=>?_)
 ·obtain ⟨d,L,ns,rfl,_⟩:=h;rfl
 ·have SC:=Jbj;have hu:=hr.units;have hu1:=X7 hr;have N0:Room 1 _:=hr.mono nofun;refine ⟨_,_,(Zf (Zs (i:=2) SC.nd rfl (Or.inr rfl) (Zx (Yz (K':=K) rfl) (Zx Zcm (Y0 (Za Zg Zc)) (Zo (Yd (K:=K) rfl) (by rfl) T.b_len Dl (Za (pv 1) Zc))) (Y0 (Za Zg Zc))))
 (Zf (Xl PassesOwn.never rfl (Pa rfl T.b_range (Za (Zx Zd8 (Zo (Yd (K:=K) rfl) (by rfl) T.b_len Dl (Za (pv 1) Zc)) Zg) (Za (Pc Tr Zg) (Za (Pc Tr Zg) Zc)))) (Zr (i:=3) SC.nd rfl (Or.inr rfl))
 (Zi (Zdx (Zo (Znk (K':=K) rfl rfl) (by rfl) T.b_sum PyProof.Rows.boot_sum (Za (Y9 (T:=["sign", "word"]) (cs:=[2,3]) rfl (CScope.ok (by kernel_rfl)) (Ye (Zq Tp N0 rfl (Za (pv 0) (Za (pv 1) (Za (pv 3) Zc))))) (fun _ _ _ _=>(Vl (n:=2) rfl (Ya (Zr (i:=0) (Xn (by kernel_rfl)) rfl (Or.inl rfl) (Or.inr rfl)) (Ya (Zr (i:=1) (Xn (by kernel_rfl)) rfl (Or.inl rfl) (Or.inr rfl)) Wj)) (by rfl))) (fun _ _ _ _=>Y6) (fun _ _ _ _=>(Z8 (Ym (K':=K) rfl) (pv 2) (Zx (Yz (K':=K) rfl) (pv 3) (Zo (Yd (K:=K) rfl) (by rfl) T.b_len Dl (Za (pv 1) Zc))) (fun _ _=>rfl))) (Pu (Xy nofun (Xy nofun Sx)))) Zc)) (Zd1 (pv 2) (pv 3) Ur))))
 (Zi (Zy (pv 2))))),fun _=>(Zv (Z9 (s_op Zdg (s_op Zlm (V8 (Zb Zt Zm)) (s_cb Xh (Zb (Zd 1) Zm))) (V8 (Zb Zt Zm))) (s_g 2))
 (Zv (W4 (Zlp (Zb (s_op Zlj (s_cb Xh (Zb (Zd 1) Zm)) Zt) (Zb (s_un No Zt) (Zb (s_un No Zt) Zm)))) (s_g 3)
 (Z9 (s_cb Zob (Zb (X0 (s_il (Zu (Zb (Zd 0) (Zb (Zd 1) (Zb (Zd 3) Zm))))) (Vh (Yl (s_g 0) (Yl (s_g 1) Vi))) Wy (s_op s_ix (Zd 2) (s_op Wi (Zd 3) (s_cb Xh (Zb (Zd 1) Zm))))) Zm)) (Zhv (Zd 2) (Zd 3))))
 (Yk (Zd 2)))),fun ds M Kk hM hD h=>?_⟩
  obtain ⟨d,L,ns,rfl,h⟩:=h;obtain ⟨e1,⟨hl,hL,hW⟩,k⟩:=h;have lm:(ns.map D.int).length=ns.length:=Ja _;exists (show 1<=sizeLine by decide),·,·,_,·,rfl,⟨by lia,by lia,?_⟩,(show 1<=sizeLine by decide),_,·,rfl,?_,?_
  ·show 1*_<=sizeLine;rw [lm,Gs,Nat.one_mul];exact Zh (by lia)
  ·rw [Rq,Gr,lm,Gs];exact Zh (by show _+1<=_; lia)
  have e0:(List.replicate ((ns.map D.int).length:Int).toNat [D.int 0]).flatten++[D.int 1]=(cnts L ns 0).map .int:=by
   rw [Rq,lm,Gs];unfold cnts X6;rw [Fy,Jm,List.map_replicate];rfl
  rw [e0];exists ·,·,_,·,rfl,·,·,_,·,⟨by lia,by lia,by lia,by lia⟩,?_;exists fun j ρ M'=>∃ v3,ρ=[some d,some (.tup (ns.map .int)),some (.cell M.length),v3]/\M'=M++[.lst ((cnts L ns j).map .int)],fun _ _ _ _ _=>trivial,⟨_,rfl,rfl⟩,?_,?_
  ·rintro j x ρ M' hj hx ⟨v3,rfl,rfl⟩;have hj:j<ns.length:=by
    have:j<(((ns.map D.int).length:Int)-1 - -1).toNat:=hj;lia
   obtain rfl:x=.int ((ns.length-1-j:Nat):Int):=hx.trans (by congr 1; lia);have e1':Z3 (M++[.lst ((cnts L ns j).map .int)]) d=some (L.map pD):=Zgx e1;exists ·,·,·,d,L,ns,ns.length-1-j,rfl,e1',⟨by lia,by lia⟩,?_;generalize hF:L.filter (hit ns (ns.length-1-j))=F;have hFl:F.length<=40:=by rw [<- hF]; exact Jy (List.length_filter_le _ _) hL
   exists ·,?_,fun i ys M'=>M++[.lst ((cnts L ns j).map .int)]=M'/\ys=((F.take i).map fun p=>D.int (((X6 L ns j)[p.2.length-1]?).getD 0)),fun _ _ _ _ _=>rfl,⟨rfl,rfl⟩,?_,?_
   ·show (F.map pD).length<=sizeLine;rw [Ja];exact Zh (by lia)
   ·rintro i x ys _ hi hx ⟨rfl,rfl⟩;obtain ⟨hi',rfl⟩:=Yh hx;have hm:F[i]∈L.filter (hit ns (ns.length-1-j)):=by rw [hF]; exact Ge hi'
    obtain ⟨hm1,hm2⟩:=Gj.mp hm;have hne:=(hW _ (G4 hm1)).1;have hv:=Zfp (L:=L) hj hm2 hne;exists ·,rfl,_,·,_,·,rfl,?_;exists ·,·,·,·,_,_,.int (((X6 L ns j)[(F[i]).2.length-1]?).getD 0),Xx,rfl,?_,rfl,?_
    rotate_left
    ·rw [Jk hi',Jm]; rfl
    ·rw [Ja,<- Int.natCast_add];exact Vw (by rw [Js,hv]; rfl)
   ·rintro ys _ ⟨rfl,rfl⟩;have e:F.take (F.map pD).length=F:=by rw [Ja,J9]
    rw [show List.take _ F=F from e];have hs:(F.map fun p=>D.int (((X6 L ns j)[p.2.length-1]?).getD 0))=(F.map fun p=>((X6 L ns j)[p.2.length-1]?).getD 0).map .int:=by rw [Gn]; rfl
    exists _,F.map fun p=>((X6 L ns j)[p.2.length-1]?).getD 0,rfl,by rw [hs]; rfl,?_;have hcs:(F.map fun p=>((X6 L ns j)[p.2.length-1]?).getD 0).sum=N7 L ns (X6 L ns j) j:=by unfold N7; rw [hF]
    rw [hcs];exists ·,·,M.length,_,_,ns.length-1-j,rfl,rfl,Xq,?_,.inl ⟨_,rfl,?_⟩
    ·rw [Ja,Zbo (by lia)];exact (Zer (by lia) (by lia)).trans (by rw [Gs])
    ·rw [W3,<- List.map_set,Zbn hj]
  ·rintro ρ M' ⟨v3,rfl,rfl⟩;have en:(((ns.map D.int).length:Int)-1 - -1).toNat=ns.length:=by lia
   exists ·,.inl ?_;rw [show (Zgf (((ns.map D.int).length:Int)-1) (((ns.map D.int).length:Int)-1 - -1).toNat).n=ns.length from en];exact k
def Qj:Sp3:=fun ds M K=>∃ (d d2:D) (L:List Pr) (ns:List Int),ds=[d,d2]/\Z3 M d=some (L.map pD)/\Z3 M d2=some (ns.map .int)/\(ns.length<=1000/\Tb L)/\K (.int (N9 L ns)) M
def D1 (T:Txt mg) {C:Addr} (Vb:Cal P w K mg base "counts_from" 2 ["table", "row"] (spOf ⟨C,K⟩ Zfj)) {f:Addr} (F:Fun K "reading_count" "reading_count" Yt f fd):FnOk P w K mg base CX0 3 f fd ["table", "row"] (spOf ⟨C,K⟩ Qj):=by
 refine L3.Fun.ok3 F Jbm (fun ds M K3 h=>?_) (fun cdv A outer s H E hr=>?_)
 ·obtain ⟨d,d2,L,ns,rfl,_⟩:=h;rfl
 ·have SC:=Jbm;have hu:=hr.units;have hu1:=X7 hr;have S6:Room 2 _:=hr.mono nofun;refine ⟨_,_,(Zi (Zy (Z8 (Ym (K':=K) rfl) (Zq Vb S6 rfl (Za (pv 0) (Za (Xa (Zin (K:=K) rfl) (by rfl) T.b_tuple PyProof.Rows.boot_tuple (Za (pv 1) Zc)) Zc))) Zg (fun _ _=>rfl)))),fun _=>(Yk (s_op s_ix (Zu (Zb (Zd 0) (Zb (s_cb Zc9 (Zb (Zd 1) Zm)) Zm))) Zt)),fun ds M Kk hM hD h=>?_⟩;obtain ⟨d,d2,L,ns,rfl,h⟩:=h;obtain ⟨e1,e2,h,k⟩:=h;have e2':Sc M d2=some (ns.map .int):=by
   cases d2 with
   | tup _=>exact nomatch e2
   | _=>exact e2
  exists ·,·,_,·,e2',d,L,ns,rfl,e1,h,?_;exists _,_,_,Xx,rfl,Vw (j:=0) (by rw [Js,Zbp]; rfl),?_;exact Ue pre1 hM Vv k
open L3
theorem Jaf (T:Txt mg) {C:Addr} (Y5:Cal P w K mg base "rest_between" 1 ["one", "other"] (spOf ⟨C,K⟩ Zfd)) {f:Addr} (F:Fun K "step_with" "step_with" Xs f fd):FnOk P w K mg base CX0 2 f fd ["step", "sign", "word"] (spOf ⟨C,K⟩ Zif):=by
 refine L3.Fun.ok3 F D7 (fun ds M K3 h=>?_) (fun cdv A outer s H E hr=>?_)
 ·obtain ⟨c,x,p,n0,rfl,_⟩:=h;rfl
 ·have SC:=D7;have hu:=hr.units;have hu1:=X7 hr;have Wk:Room 1 _:=hr.mono nofun;refine ⟨_,_,(Zf (Zs (i:=3) SC.nd rfl (Or.inl rfl) (Zq Y5 Wk rfl (Za (Z8 (Ym (K':=K) rfl) (pv 0) Zg (fun _ _=>rfl)) (Za (pv 2) Zc))))
 (Zf (Y7 (Sh (Zl6 (pv 3)))
 (Zi (Zy Zd4))
 Z0)
 (Zf (Zs (i:=4) SC.nd rfl (Or.inl rfl) (Zx (Yz (K':=K) rfl) (Z8 (Ym (K':=K) rfl) (pv 0) Zg (fun _ _=>rfl)) (Y0 (Za (pv 1) Zc))))
 (Zf (Y7 (Zw S2 (Zo (Yd (K:=K) rfl) (by rfl) T.b_len Dl (Za (pv 2) Zc)) (Zo (Yd (K:=K) rfl) (by rfl) T.b_len Dl (Za (Z8 (Ym (K':=K) rfl) (pv 0) Zg (fun _ _=>rfl)) Zc)) (Z6 _))
 (Zi (Zy (X2 (Za (Zx (Yz (K':=K) rfl) (Z8 (Ym (K':=K) rfl) (pv 0) Zg (fun _ _=>rfl)) (Zo (Yd (K:=K) rfl) (by rfl) T.b_len Dl (Za (pv 3) Zc))) (Za (pv 3) (Za (pv 4) (Za (Z8 (Ym (K':=K) rfl) (pv 0) Zg (fun _ _=>rfl)) Zc)))))))
 Z0)
 (Zi (Zy (X2 (Za (Z8 (Ym (K':=K) rfl) (pv 0) Zg (fun _ _=>rfl)) (Za (pv 3) (Za (Z8 (Ym (K':=K) rfl) (pv 0) Zg (fun _ _=>rfl)) (Za (pv 4) Zc))))))))))),fun _=>(Zv (Z9 (Zu (Zb (s_op s_ix (Zd 0) Zt) (Zb (Zd 2) Zm))) (s_g 3))
 (Zv (Xi (s_b (Zof (Zd 3)))
 (Yk Zjd)
 Yf)
 (Zv (Z9 (s_op Zdg (s_op s_ix (Zd 0) Zt) (V8 (Zb (Zd 1) Zm))) (s_g 4))
 (Zv (Xi (Yb (s_op s_gt (s_cb Xh (Zb (Zd 2) Zm)) (s_cb Xh (Zb (s_op s_ix (Zd 0) Zt) Zm))))
 (Yk (Ua (Zb (s_op Wi (s_op s_ix (Zd 0) Zt) (s_cb Xh (Zb (Zd 3) Zm))) (Zb (Zd 3) (Zb (Zd 4) (Zb (s_op s_ix (Zd 0) Zt) Zm))))))
 Yf)
 (Yk (Ua (Zb (s_op s_ix (Zd 0) Zt) (Zb (Zd 3) (Zb (s_op s_ix (Zd 0) Zt) (Zb (Zd 4) Zm)))))))))),fun ds M Kk hM hD h=>?_⟩
  obtain ⟨c,x,p,n0,rfl,h⟩:=h;obtain ⟨⟨h4,hn0,l1,l2,l3⟩,kN,kS⟩:=h;have ha3:∀ {X:Mem},Z3 (M++X) (.cell c.2.2.2)=some (x.2.2.2.map .int):=fun {X}=>by simp only [Z3,Vs h4.b,tx]
  have er:c.2.1=x.2.1:=h4.r;exists ·,_,_,·,rfl,rfl,·,c.2.1,p.2,rfl,⟨by rw [er]; exact l1,l2⟩,?_;rw [er];have es:sw x p=(rb x.2.1 p.2).map fun r=>if x.2.1.length<p.2.length then (x.1+r.length,r,x.2.2.2++[p.1],x.2.2.1) else (x.1,r,x.2.2.1,x.2.2.2++[p.1]):=rfl;cases e:rb x.2.1 p.2 with
  | none =>
   rw [e] at es;exists ·,·,iteT (.inl (kN es))
  | some r =>
   rw [e] at es;exists ·,·,iteF ?_;exists ·,_,_,·,rfl,rfl,·,(show 1<=sizeLine by decide),_,_,Tw (xs:=x.2.2.2.map .int) h4.b,rfl,?_,?_
   ·rw [Ja];exact Zh (by show _+1<=_; lia)
   rw [show M++[MO.lst (x.2.2.2.map D.int++[D.int p.1])]=M++[tx (x.2.2.2++[p.1])] by unfold tx; rw [List.map_append]; rfl];exists ·,·,·,_,_,·,rfl,rfl,·,?_;exists _,·,rfl,·,?_;have hlt:=(Jh.mp h4.a).1
   by_cases z:x.2.1.length<p.2.length
   ·rw [Option.map_some,Df z] at es;rw [Dg (by rw [Ja,Ja,er]; lia)];refine iteT ⟨_,rfl,_,_,_,rfl,rfl,rfl,_,rfl,_,rfl,_,rfl,_,rfl,_,rfl,_,_,_,rfl,rfl,rfl,(show 4<=sizeLine by decide),.inl ?_⟩;have:=kS _ (x.2.2.2++[p.1]) (x.1+r.length,r,M.length,c.2.2.1) es ⟨rfl,rfl,Xq,Vs h4.a,hn0,h4.ge1,fun z=>by have z:M.length=c.2.2.1:=z; lia⟩;rw [Ja,h4.s];exact this
   ·rw [Option.map_some,De z] at es;rw [Dh (by rw [Ja,Ja,er]; lia)];refine iteF ⟨_,rfl,_,_,_,rfl,rfl,rfl,_,rfl,_,rfl,_,_,_,rfl,rfl,rfl,_,rfl,(show 4<=sizeLine by decide),.inl ?_⟩;have:=kS _ (x.2.2.2++[p.1]) (x.1,r,c.2.2.1,M.length) es ⟨rfl,rfl,Vs h4.a,Xq,h4.ge1,hn0,fun z=>by have z:c.2.2.1=M.length:=z; lia⟩;rw [h4.s];exact this
def oC:Option Cs->D
 | none=>.non
 | some c=>csD c
theorem Dv (T:Txt mg) {C:Addr} (Uh:Cal P w K mg base "step_with" 2 ["step", "sign", "word"] (spOf ⟨C,K⟩ Zif)) {f:Addr} (F:Fun K "further_steps" "further_steps" Yu f fd):FnOk P w K mg base CX0 3 f fd ["table", "step"] (spOf ⟨C,K⟩ Sy):=by
 refine L3.Fun.ok3 F Jba (fun ds M K3 h=>?_) (fun cdv A outer s H E hr=>?_)
 ·obtain ⟨L,c,x,n0,rfl,_⟩:=h;rfl
 ·have SC:=Jba;have hu:=hr.units;have hu1:=X7 hr;have Pm:Room 2 _:=hr.mono nofun;refine ⟨_,_,(Zf (Ub (i:=2) SC.nd rfl rfl (T:=["sign", "word"]) (cs:=[1]) rfl (CScope.ok (by kernel_rfl)) (Ye (pv 0)) (fun _ _ _ _=>(Vl (n:=2) rfl (Ya (Zr (i:=0) (Xn (by kernel_rfl)) rfl (Or.inl rfl) (Or.inr rfl)) (Ya (Zr (i:=1) (Xn (by kernel_rfl)) rfl (Or.inl rfl) (Or.inr rfl)) Wj)) (by rfl))) (fun _ _ _ _=>Y6) (fun _ _ _ _=>(Zq Uh Pm rfl (Za (pv 2) (Za (pv 0) (Za (pv 1) Zc))))) (Pu (Xy nofun (Xy nofun Sx))))
 (Zi (Zy (Y9 (T:=["further"]) (cs:=[]) rfl (CScope.ok (by kernel_rfl)) (Ye (pv 2)) (fun _ _ _ _=>(Zr (i:=0) (Xn (by kernel_rfl)) rfl (Or.inl rfl) (Or.inr rfl))) (fun _ _ _ _=>(Tg (Sh (Rv (pv 0))))) (fun _ _ _ _=>(pv 0)) (Y2 nofun))))),fun _=>(Zv (Z9 (X0 (s_il (Zd 0)) (Vh (Yl (s_g 0) (Yl (s_g 1) Vi))) Wy (Zu (Zb (Zd 2) (Zb (Zd 0) (Zb (Zd 1) Zm))))) (s_g 2))
 (Yk (X0 (s_il (Zd 2)) (s_g 0) (s_b (Zaz (Zd 0))) (Zd 0)))),fun ds M Kk hM hD h=>?_⟩
  obtain ⟨L,c,x,n0,rfl,h⟩:=h;obtain ⟨⟨h4,hn0,lL,hL,l1,l2⟩,k⟩:=h;exists ·,·,?_,fun i ys M'=>∃ (J:List MO) (os:List (Option Cs)),M'=M++J/\ys=os.map oC/\os.length=i/\Ats (M++J) n0 (os.filterMap id) ((L.take i).filterMap (sw x)),fun _ _ _ _ _=>rfl,⟨[],[],(Ga _).symm,rfl,rfl,.nil⟩,?_,?_
  ·show (L.map pD).length<=sizeLine;rw [Ja];exact Zh (by lia)
  ·rintro i y ys _ hi hx ⟨J,os,rfl,rfl,lo,hA⟩;obtain ⟨hi',rfl⟩:=Yh hx;have l4:=hL _ (Ge hi');exists ·,rfl,_,·,_,·,rfl,?_;exists ·,·,·,c,x,L[i],n0,rfl,⟨h4.up,by rw [Jc]; lia,l1,by lia,l2⟩,fun en=>?_,fun y t c' ey h4'=>?_
   ·exists J,os++[none],rfl,by rw [Jm]; rfl,by rw [Jc,lo]; rfl,?_;rw [Jk hi',Bc,Bc,List.filterMap_cons_none en,List.filterMap_nil,Ga];show Ats (M++J) n0 (os.filterMap id++[]) _;rw [Ga];exact hA
   ·exists J++[tx t],os++[some c'],Jt ..,by rw [Jm]; rfl,by rw [Jc,lo]; rfl,?_;rw [Jk hi',Bc,Bc,List.filterMap_cons_some ey,<- Jt];exact (hA.up).app (Ats.one h4')
  rintro ys _ ⟨J,os,rfl,rfl,lo,hA⟩;have lo:os.length=(L.map pD).length:=lo;rw [Ja] at lo;have e:L.take (L.map pD).length=L:=by rw [Ja,J9]
  rw [show List.take _ L=L from e] at hA;exists ·,·,?_,fun i ys M'=>M++J=M'/\ys=((os.take i).filterMap id).map csD,fun _ _ _ _ _=>rfl,⟨rfl,rfl⟩,?_,?_
  ·show (os.map oC).length<=sizeLine;rw [Ja];exact Zh (by lia)
  ·rintro i y ys _ hi hx ⟨rfl,rfl⟩;obtain ⟨hi',rfl⟩:=Yh hx;have et:(os.take (i+1)).filterMap id=(os.take i).filterMap id++[os[i]].filterMap id:=by rw [Jk hi',Bc]
   cases eo:os[i] with
   | none =>
    exists ·,·,iteF ⟨rfl,?_⟩;rw [et,eo,Jm];exact (Ga _).symm
   | some r =>
    exists ·,·,iteT ⟨_,rfl,rfl,?_⟩;rw [et,eo,Jm];rfl
  rintro ys _ ⟨rfl,rfl⟩;have e:os.take (os.map oC).length=os:=by rw [Ja,J9]
  rw [show List.take _ os=os from e];exact .inl (k J _ hA)
def Nm {R:Mem} {m:MO}:(M++[m]++R).set M.length m'=M++[m']++R:=by
 rw [Jt,B6 _ _ (Jf _),Nat.sub_self,Jt];rfl
def Nc {R:Mem} {m:MO}:(M++[m]++R)[M.length]?=some m:=Vs Xq
theorem Jbk (T:Txt mg) {C:Addr} (Yy:Cal P w K mg base "further_steps" 3 ["table", "step"] (spOf ⟨C,K⟩ Sy)) {f:Addr} (F:Fun K "first_steps" "first_steps" Xe f fd):FnOk P w K mg base CX0 4 f fd ["table"] (spOf ⟨C,K⟩ Zfi):=by
 refine L3.Fun.ok3 F Jbn (fun ds M K3 h=>?_) (fun cdv A outer s H E hr=>?_)
 ·obtain ⟨L,rfl,_⟩:=h;rfl
 ·have SC:=Jbn;have hu:=hr.units;have hu1:=X7 hr;have Wa:Room 3 _:=hr.mono nofun;refine ⟨_,_,(Zf (Zs (i:=1) SC.nd rfl (Or.inl rfl) (Y0 Zc))
 (Zf (Xl PassesOwn.never rfl (Zd0 rfl T.b_enumerate (Za (pv 0) Zc)) (Vl (n:=2) rfl (Ya (Zr (i:=2) SC.nd rfl (Or.inl rfl)) (Ya (Zr (i:=3) SC.nd rfl (Or.inl rfl)) Wj)) (by rfl))
 (Zi (Vk (Nu PySem.F.plainAttrs_list PySem.F.slot_list_extend PySem.F.type_list_extend Sl (pv 1) (Za (Zq Yy Wa rfl (Za (Z5 (Ve (K':=K) rfl) (pv 0) Yg (Z7 (pv 2))) (Za (X2 (Za (Zo (Yd (K:=K) rfl) (by rfl) T.b_len Dl (Za (Z8 (Ym (K':=K) rfl) (pv 3) Zg (fun _ _=>rfl)) Zc)) (Za (Z8 (Ym (K':=K) rfl) (pv 3) Zg (fun _ _=>rfl)) (Za (Y0 (Za (Z8 (Ym (K':=K) rfl) (pv 3) Zg (fun _ _=>rfl)) Zc)) (Za (Y0 Zc) Zc))))) Zc))) Zc)))))
 (Zi (Zy (pv 1))))),fun _=>(Zv (Z9 (S9 Zm) (s_g 1))
 (Zv (W4 (s_ie (Zb (Zd 0) Zm)) (Vh (Yl (s_g 2) (Yl (s_g 3) Vi)))
 (Ts (Rp (Zd 1) (Zb (Zu (Zb (s_sl Vf (Zd 0) Yq (Y8 (Zd 2))) (Zb (Ua (Zb (s_cb Xh (Zb (s_op s_ix (Zd 3) Zt) Zm)) (Zb (s_op s_ix (Zd 3) Zt) (Zb (S9 (Zb (s_op s_ix (Zd 3) Zt) Zm)) (Zb (S9 Zm) Zm))))) Zm))) Zm))))
 (Yk (Zd 1)))),fun ds M Kk hM hD h=>?_⟩
  obtain ⟨L,rfl,h⟩:=h;obtain ⟨⟨lL,hL⟩,k⟩:=h;exists Jv _,?_;exists ·,_,·,rfl,fun j ρ M'=>∃ (cs:List Cs) (J:List MO) (v2 v3:Option D),ρ=[some (.lst (L.map pD)),some (.cell M.length),v2,v3]/\M'=M++[.lst (cs.map csD)]++J/\Ats (M++[.lst (cs.map csD)]++J) (M.length+1) cs (fss L j),fun _ _ _ _ _=>rfl,⟨[],[],_,_,rfl,(Ga _).symm,.nil⟩,?_,?_
  ·rintro j x ρ M' hj ⟨y,hy,rfl⟩ ⟨cs,J,v2,v3,rfl,rfl,hA⟩;obtain ⟨hj',rfl⟩:=Yh hy;have l4:=hL _ (Ge hj');exists ·,rfl,_,·,_,·,rfl,?_;exists ·,Uc (Tw Nc),·,·,·,·,?_;rw [Yv,Qk (Fp hj')];have ln:M.length+1<=(M++[MO.lst (cs.map csD)]++J).length:=by rw [Jc,Jc]; show _<=_+1+_; lia
   have h1:=N4 lL (n:=j);have lc:cs.length=(fss L j).length:=hA.1;generalize eN:M++[MO.lst (cs.map csD)]++J=N at hA ln;exists ·,_,_,·,rfl,rfl,·,·,_,_,·,rfl,rfl,·,_,_,·,rfl,rfl,(show 1<=sizeLine by decide),Jv _,(show 4<=sizeLine by decide),L.take j,(((L[j].2.map D.int).length:Int),L[j].2,N.length,(N++[tx [L[j].1]]).length),(((L[j].2.map D.int).length:Int),L[j].2,[L[j].1],[]),M.length+1,rfl,⟨⟨rfl,rfl,Vs Xq,Xq,ln,?_,?_⟩,?_,by rw [Jz]; lia,fun p hp=>hL p (Bk hp),by show L[j].2.length<=_; lia,by show 0<=_; lia⟩,fun J' cs' hA'=>?_
   ·show _<=(N++[tx [L[j].1]]).length;rw [Jc]; lia
   ·show N.length≠(N++[tx [L[j].1]]).length;rw [Jc]; show _≠_+1; lia
   ·rw [Jc,Jc]; lia
   have ef:(L.take j).filterMap (sw (((L[j].2.map D.int).length:Int),L[j].2,[L[j].1],[]))=fss1 L j (L[j]?.getD (0,[])):=by unfold fss1; rw [List.getElem?_eq_getElem hj',List.length_map]; rfl
   rw [ef] at hA';have h2:(fss1 L j (L[j]?.getD (0,[]))).length<=40:=Jy (Be _ _) (by rw [Jz]; lia);have lc':=hA'.1;have eN2:∀ X Y:List MO,N++X++Y++J'=M++[MO.lst (cs.map csD)]++(J++X++Y++J'):=fun X Y=>by rw [<- eN]; simp only [Jt]
   have hA2:=((hA.up (X:=[tx [L[j].1]])).up (X:=[MO.lst []])).up (X:=J');have hB:=(hA2.app hA').set (k:=M.length) (m':=.lst ((cs++cs').map csD)) (Bx _);rw [eN2,Nm] at hB;rw [eN2];exists M.length,_,_,·,rfl,Nc,rfl,?_,.inl ⟨cs++cs',_,_,_,rfl,?_,hB⟩
   ·rw [Ja,Ja];exact Zh (by lia)
   ·rw [Nm,Jm];rfl
  ·rintro ρ M' ⟨cs,J,v2,v3,rfl,rfl,hA⟩;rw [show (L.map pD).length=L.length from Ja _] at hA;exists ·,.inl (k J cs hA)
open L3
theorem Zot {X:Mem} {d:D} (h:lsOf M d=some xs):lsOf (M++X) d=some xs:=by
 cases d with
 | cell k =>
  simp only [lsOf] at h ⊢;cases hk:M[k]? with
  | none=>rw [hk] at h; cases h
  | some m =>
   rw [Vs hk];rw [hk] at h;exact h
 | _=>exact h
theorem Jcc (T:Txt mg) {C:Addr} (W9:Cal P w K mg base "first_steps" 4 ["table"] (spOf ⟨C,K⟩ Zfi)) (Yy:Cal P w K mg base "further_steps" 3 ["table", "step"] (spOf ⟨C,K⟩ Sy)) {f:Addr} (F:Fun K "twofold" "twofold" Wx f fd):FnOk P w K mg base CX0 5 f fd ["table"] (spOf ⟨C,K⟩ Zkg):=by
 refine L3.Fun.ok3 F Jbg (fun ds M K3 h=>?_) (fun cdv A outer s H E hr=>?_)
 ·obtain ⟨L,rfl,_⟩:=h;rfl
 ·have SC:=Jbg;have hu:=hr.units;have hu1:=X7 hr;have S4:Room 4 _:=hr.mono nofun;have Wa:Room 3 _:=hr.mono nofun;refine ⟨_,_,(Zf (Zs (i:=1) SC.nd rfl (Or.inr rfl) Za5)
 (Zf (Zs (i:=2) SC.nd rfl (Or.inl rfl) (Zq W9 S4 rfl (Za (pv 0) Zc)))
 (Zf (Ru PassesOwn.never (Zw S2 (Zo (Yd (K:=K) rfl) (by rfl) T.b_len Dl (Za (pv 2) Zc)) Zg (Z6 _))
 (Zf (Zs (i:=3) SC.nd rfl (Or.inl rfl) (Zo (Zfv (K:=K) rfl rfl (Ni hr)) (by rfl) T.b_min PyProof.Rows.boot_min (Za (pv 2) Zc)))
 (Zf (Y7 (Zw (T9 (K':=K) rfl hu) (Z8 (Ym (K':=K) rfl) (pv 3) Zg (fun _ _=>rfl)) (X2 Zc) (Z6 _))
 (Zi (Zy (X2 (Za (Zo (Zca (K:=K) rfl rfl (Ni hr)) (by rfl) T.b_min PyProof.Rows.boot_min (Za (Z8 (Ym (K':=K) rfl) (pv 3) Zg (fun _ _=>rfl)) (Za (Z8 (Ym (K':=K) rfl) (pv 3) Zg (fun _ _=>rfl)) Zc))) (Za (Zo (Zcc (K:=K) rfl rfl (Ni hr)) (by rfl) T.b_max PyProof.Rows.boot_max (Za (Z8 (Ym (K':=K) rfl) (pv 3) Zg (fun _ _=>rfl)) (Za (Z8 (Ym (K':=K) rfl) (pv 3) Zg (fun _ _=>rfl)) Zc))) Zc)))))
 Z0)
 (Zf (Zdv hu1 (pv 1) (Z8 (Ym (K':=K) rfl) (pv 3) Zg (fun _ _=>rfl)) W6 rfl)
 (Zi (Ub (i:=2) SC.nd rfl rfl (T:=["other"]) (cs:=[1]) rfl (CScope.ok (by kernel_rfl)) (Ye (Zx (Yz (K':=K) rfl) (pv 2) (Zq Yy Wa rfl (Za (pv 0) (Za (pv 3) Zc))))) (fun _ _ _ _=>(Zr (i:=0) (Xn (by kernel_rfl)) rfl (Or.inl rfl) (Or.inr rfl))) (fun _ _ _ _=>(Tg (Sh (Pd hu1 (Z8 (Ym (K':=K) rfl) (pv 0) Zg (fun _ _=>rfl)) (pv 1))))) (fun _ _ _ _=>(pv 0)) (Y2 nofun)))))))
 (Zi (Zy Zd4))))),fun _=>(Zv (Z9 Zde (s_g 1))
 (Zv (Z9 (Zu (Zb (Zd 0) Zm)) (s_g 2))
 (Zv (Nn (Yb (s_op s_gt (s_cb Xh (Zb (Zd 2) Zm)) Zt))
 (Zv (Z9 (s_cb Zln (Zb (Zd 2) Zm)) (s_g 3))
 (Zv (Xi (Yb (s_op s_eq (s_op s_ix (Zd 3) Zt) (Ua Zm)))
 (Yk (Ua (Zb (s_cb Zdc (Zb (s_op s_ix (Zd 3) Zt) (Zb (s_op s_ix (Zd 3) Zt) Zm))) (Zb (s_cb Zdc (Zb (s_op s_ix (Zd 3) Zt) (Zb (s_op s_ix (Zd 3) Zt) Zm))) Zm))))
 Yf)
 (Zv (Zhw (Zd 1) (s_op s_ix (Zd 3) Zt) s_bl)
 (Z9 (X0 (s_il (s_op Wi (Zd 2) (Zu (Zb (Zd 0) (Zb (Zd 3) Zm))))) (s_g 0) (s_b (Za0 (s_op s_ix (Zd 0) Zt) (Zd 1))) (Zd 0)) (s_g 2))))))
 (Yk Zjd)))),fun ds M Kk hM hD h=>?_⟩
  obtain ⟨L,rfl,h⟩:=h;obtain ⟨tf,kN,kS⟩:=h;have lL:=tf.len;have hL0:=tf.w;have nds:=tf.nd;have few:=tf.few;have hL:∀ p∈L,p.2.length<=4:=fun p hp=>(hL0 p hp).2;have hW:∀ p∈L,p.2≠[]:=fun p hp=>(hL0 p hp).1;have hw:∀ w∈L.map (·.2),w.length<=4:=fun w h=>by obtain ⟨p,hp,rfl⟩:=Jp.mp h; exact hL p hp
  exists ·,L,rfl,⟨lL,hL⟩,fun J0 cs0 hA0=>?_;have el:(M++[MO.dcT []]).length=M.length+1:=by rw [Jc]; rfl
  rw [el] at hA0 ⊢;rw [Jt (M++[MO.dcT []])] at hA0 ⊢;refine ⟨fun m ρ' M'=>∃ (S xs:List St4) (cs:List Cs) (J:List MO) (e:D) (v3:Option D),ρ'=[some (.lst (L.map pD)),some (.cell M.length),some e,v3]/\M'=M++[.dcT (seen (S.map (·.2.1)))]++J/\(lsOf M' e=some (cs.map csD)/\e≠.cell M.length)/\Ats M' (M.length+1) cs xs/\Dj L S xs/\(∀ x∈xs,x.2.2.1.length<=S.length+1/\x.2.2.2.length<=S.length+1)/\xs.length<=1600+40*S.length/\m=64-S.length,
   ⟨_,[],fss L L.length,cs0,_,_,_,rfl,rfl,⟨Tw (by rw [<- Jt,<- el]; exact Nc),fun z=>by have:=D.cell.inj z; lia⟩,hA0.lower (Fv _),.start,fun x hx=>⟨(Zey (Jf _) x hx).l1,(Zey (Jf _) x hx).l2⟩,by have:=N4 lL (n:=L.length); show _<=1600+0; lia,rfl⟩,?_⟩
  rintro m ρ1 M1 ⟨S,xs,cs,J,e,v3,rfl,rfl,⟨eb,ne⟩,hA,dj,hx,lx,em⟩;have lcx:cs.length=xs.length:=hA.1;have zl:S.length<64:=by
   have:=few _ dj.nd fun z hz=>by obtain ⟨s,hs,rfl⟩:=Jp.mp hz; exact (dj.s s hs).1.ov
   rwa [Ja] at this
  have dc:∀ (zs:List (List Int)) (X:List MO),Pz (M++[MO.dcT (seen zs)]++X) (.cell M.length)=some (seen zs):=fun zs X=>by simp only [Pz,Nc]
  exists ·,?_;dsimp only [uNil];refine Zju (Ny eb).2.1 ⟨_,_,rfl,rfl,_,rfl,?_⟩
  by_cases e0:xs=[]
  ·subst e0;rw [Dh (by rw [Ja,lcx]; decide)];refine iteF (Ue pre2 hM Nb (kN fun r t t' h1 h2=>?_))
   by_cases z:t=t'
   ·exact z
   ·obtain ⟨y,py,ey,_⟩:=Zaj (b:=t') hW h1 h2 z;rcases dj.reach py with ⟨s,hs,es,_⟩ | ⟨x,hx,_⟩
    ·exact absurd (es.trans ey) (dj.s s hs).2
    ·cases hx
  have xp:=Gc.mpr e0;rw [Dg (by rw [Ja]; lia)];refine iteT ?_;exists ·,_,cs.map csD,xs,rfl,(Ny eb).2.1,by rw [Ja]; exact lcx,fun i h1 h2=>by rw [Gk]; exact (hA.2 i (by rw [Ja] at h1; exact h1) h2).g,xp,fun j hj0 ej=>?_;have hj:j<xs.length:=by rw [Ja,lcx] at hj0; exact hj0
  have hxm:=Ge hj;have h4:At4 _ _ cs[j] xs[j]:=hA.2 j (by lia) hj;rw [Gk];have ok:=hx _ hxm;have mn:∀ y∈xs,xs[j].1<=y.1:=fun y hy=>by
   obtain ⟨i,hi,rfl⟩:=Gd hy;have:=Sm (zs:=xs) (xs.length-1) (by lia) i (by lia);rw [<- ej] at this;rw [J8,J8,Jb hj,Jb hi] at this;exact this
  generalize xs[j]=x at ok hxm mn h4;generalize cs[j]=c at h4;have er:c.2.1=x.2.1:=h4.r;exists ·,_,_,·,rfl,rfl,Jv _,Wv (Xo Yc) (a:=c.2.1) (b:=[]) ⟨_,rfl,?_⟩;rw [er]
  by_cases rne:x.2.1=[]
  ·rw [Dg rne];refine iteT ?_;obtain ⟨u,r1,r2,r3,s,t,a,b,ea,eb',st⟩:=(dj.x x hxm).1.says nds;rw [rne,Ga] at r1 r3;have ab:x.2.2.1≠x.2.2.2:=fun z=>by rw [ea,eb'] at z; exact st (List.cons.inj z).1
   have o1:=ok.1;have o2:=ok.2;have ga:Z3 (M++[MO.dcT (seen (S.map (·.2.1)))]++J) (.cell c.2.2.1)=some (x.2.2.1.map .int):=by simp only [Z3,h4.a,tx]
   have gb:Z3 (M++[MO.dcT (seen (S.map (·.2.1)))]++J) (.cell c.2.2.2)=some (x.2.2.2.map .int):=by simp only [Z3,h4.b,tx]
   exists ·,_,_,·,rfl,rfl,·,_,_,·,rfl,rfl,_,_,x.2.2.1,x.2.2.2,rfl,ga,gb,·,_,_,·,rfl,rfl,·,_,_,·,rfl,rfl,_,_,x.2.2.1,x.2.2.2,rfl,ga,gb,(show 2<=sizeLine by decide),.inl ?_;have g1:=h4.ge1;have g2:=h4.ge2;have g3:=h4.ne;have g4:=h4.a;have g5:=h4.b;rw [Jt] at g4 g5 ⊢;show Kk (.tup [if HT.lexLt x.2.2.2 x.2.2.1=true then .cell c.2.2.2 else .cell c.2.2.1,if HT.lexLt x.2.2.1 x.2.2.2=true then .cell c.2.2.2 else .cell c.2.2.1]) _;cases hb:HT.lexLt x.2.2.2 x.2.2.1 with
   | true =>
    have hb2:HT.lexLt x.2.2.1 x.2.2.2=false:=by
     cases h:HT.lexLt x.2.2.1 x.2.2.2 with
     | false=>rfl
     | true=>have:=U0 h hb; rw [Vo] at this; cases this
    rw [hb2];exact kS x.2.2.2 x.2.2.1 u _ _ _ (Ne.symm ab) hb r2 r1 (by lia) (by lia) g5 g4 (Ne.symm g3) (by lia) (by lia)
   | false =>
    have hb2:HT.lexLt x.2.2.1 x.2.2.2=true:=by
     cases h:HT.lexLt x.2.2.1 x.2.2.2 with
     | true=>rfl
     | false=>exact absurd (Rz h hb) ab
    rw [hb2];exact kS x.2.2.1 x.2.2.2 u _ _ _ ab hb2 r1 r2 (by lia) (by lia) g4 g5 g3 (by lia) (by lia)
  rw [Dh rne];refine iteF ?_;exists ·,·,_,_,·,rfl,rfl,_,.inr ⟨M.length,_,_,rfl,Nc,Sr _,?_,rfl⟩,?_
  ·unfold seen;rw [Ja,Ja];exact Gg zl nofun
  have dj2:=dj.pop hxm mn rne;have zl2:S.length+1<64:=by
   have:=few _ dj2.nd fun z hz=>by obtain ⟨s,hs,rfl⟩:=Jp.mp hz; exact (dj2.s s hs).1.ov
   rw [Ja,Jc] at this;exact this
  have es:S.map (·.2.1)++[x.2.1]=(S++[x]).map (·.2.1):=by rw [Jm]; rfl
  have eb2:=Zmh (m:=.dcT (seen (S.map (·.2.1)++[x.2.1]))) eb ne;have hA2:=hA.set (k:=M.length) (m':=.dcT (seen (S.map (·.2.1)++[x.2.1]))) (Bx _);have h42:=h4.set (k:=M.length) (m':=.dcT (seen (S.map (·.2.1)++[x.2.1]))) (Bx _);rw [er];rw [Nm] at eb2 hA2 h42 ⊢;rw [Zay (dj.x x hxm).2];rw [es] at eb2 hA2 h42 ⊢;have lf:(L.filterMap (sw x)).length<=40:=Jy (Be _ _) lL;have o1:=ok.1;have o2:=ok.2;exists ·,·,·,L,c,x,M.length+1,rfl,⟨h42,by rw [Jc,Jc]; show _<=_+1+_; lia,lL,hL,Jy (Zd7 hw (dj.x x hxm).1.ov) nofun,by lia⟩,fun J' cs' hA'=>Znp (Zot eb2) rfl (by have:=hA'.1; rw [Ja,Ja]; exact Zh (by lia)) ?_
  rw [<- Jm];have hB:=(hA2.up (X:=J')).app hA';rw [Jt (M++_)] at hB ⊢;have hy:∀ y∈xs++L.filterMap (sw x),y.2.2.1.length<=S.length+2/\y.2.2.2.length<=S.length+2:=fun y h=>by
   rcases Jn.mp h with h | h
   ·exists Nat.le_succ_of_le (hx y h).1,Nat.le_succ_of_le (hx y h).2
   ·obtain ⟨p,hp,e⟩:=Gp.mp h;obtain ⟨e1,e2,e3⟩:=Rj e;exact ⟨by lia,by lia⟩
  have ly:(xs++L.filterMap (sw x)).length<=1600+40*(S.length+1):=by rw [Jc]; lia
  have lyc:=hB.1;generalize xs++L.filterMap (sw x)=ys at hy ly dj2 hB lyc;generalize cs++cs'=ds at hB lyc;generalize J++J'=J2 at hB;exists ·,?_,fun i us M'=>M'=M++[.dcT (seen ((S++[x]).map (·.2.1)))]++J2/\us=((ds.take i).filter fun y=>decide (y.2.1∉(S++[x]).map (·.2.1))).map csD,fun _ _ _ _ _=>rfl,⟨rfl,rfl⟩,?_,?_
  ·show (ds.map csD).length<=sizeLine;rw [Ja];exact Zh (by lia)
  ·rintro i y us _ hi hx' ⟨rfl,rfl⟩;obtain ⟨hi',rfl⟩:=Yh hx';exists ·,_,_,·,rfl,rfl,·,_,.inr ⟨_,_,dc _ _,Sr _,rfl⟩,·,?_;rw [Zax];have et:(ds.take (i+1)).filter (fun y=>decide (y.2.1∉(S++[x]).map (·.2.1)))=(ds.take i).filter (fun y=>decide (y.2.1∉(S++[x]).map (·.2.1)))++[ds[i]].filter (fun y=>decide (y.2.1∉(S++[x]).map (·.2.1))):=by rw [Jk hi',Fu]
   by_cases z:ds[i].2.1∈(S++[x]).map (·.2.1)
   ·rw [Dg z];refine iteF ⟨rfl,?_⟩;rw [et,B4,De (by rw [decide_eq_true_iff]; exact fun h=>h z),List.filter_nil,Ga]
   ·rw [Dh z];refine iteT ⟨_,rfl,rfl,?_⟩;rw [et,B4,Df (Dg z),List.filter_nil];rw [Jm (f:=csD)];rfl
  rintro us _ ⟨rfl,rfl⟩;have e:ds.take (ds.map csD).length=ds:=by rw [Ja,J9]
  rw [show List.take _ ds=ds from e];exists _,?_,.inl ⟨S++[x],ys.filter fun y=>decide (y.2.1∉(S++[x]).map (·.2.1)),ds.filter fun y=>decide (y.2.1∉(S++[x]).map (·.2.1)),J2,_,_,rfl,rfl,⟨rfl,fun z=>nomatch z⟩,hB.filter fun r=>decide (r∉(S++[x]).map (·.2.1)),dj2,fun y h=>?_,?_,rfl⟩
  ·rw [em,Jc];show 64-(S.length+1)<64-S.length;lia
  ·rw [Jc];exact hy y (Gj.mp h).1
  ·rw [Jc];exact Jy (List.length_filter_le _ _) ly
open L3
def Zm7:Sp3:=fun ds M K=>∃ (k:Nat) (L:List Pr) (m:Int),ds=[.cell k,.lst (L.map pD),.int m]/\(M[k]?=some .hand/\L.length<=40/\Wd4 (L.map (·.2))/\0<=m/\m<=40)/\∀ ns:List Int,ns.length<=400->K (.lst (ns.map .int)) M
def Zm2:Enc Pr:=Zoz Yc (Xo Yc)
theorem Jbw (T:Txt mg) {C:Addr} (Zl:Cal P w K mg base "_law_draw" 1 ["_law_hand", "_law_many"] (spOf ⟨C,K⟩ Zb6)) {f:Addr} (F:Fun K "_law_rows" "_law_rows" Jar f fd):FnOk P w K mg base CX0 2 f fd ["_law_hand", "_law_table", "_law_most"] (spOf ⟨C,K⟩ Zm7):=by
 refine L3.Fun.ok3 F Jbh (fun ds M K3 h=>?_) (fun cdv A outer s H E hr=>?_)
 ·obtain ⟨hd,L,m,rfl,_⟩:=h;rfl
 ·have SC:=Jbh;have hu:=hr.units;have hu1:=X7 hr;have Zj:Room 1 _:=hr.mono nofun;refine ⟨_,_,(Zf (Zs (i:=3) SC.nd rfl (Or.inl rfl) (Y0 Zc))
 (Zf (Y7 (Zw (Uo (K':=K) rfl hu) (pv 1) (Y0 Zc) (Z6 _))
 (Zi (Xl PassesOwn.never rfl (Yn rfl T.b_range (Za (Zq Zl Zj rfl (Za (pv 0) (Za (Zx (Yz (K':=K) rfl) (pv 2) Zg) Zc))) Zc)) (Zr (i:=4) SC.nd rfl (Or.inl rfl))
 (Zi (Zs (i:=3) SC.nd rfl (Or.inl rfl) (Zx (Yz (K':=K) rfl) (pv 3) (Xa (Ug (K:=K) rfl) (by rfl) T.b_list PyProof.Rows.boot_list (Za (Z8 (Ym (K':=K) rfl) (Z8 (Ym (K':=K) rfl) (pv 1) (Zx Xm (Zq Zl Zj rfl (Za (pv 0) (Za Zg Zc))) (Zo (Yd (K:=K) rfl) (by rfl) T.b_len Dl (Za (pv 1) Zc))) (fun _ _=>rfl)) Zg (fun _ _=>rfl)) Zc)))))))
 Z0)
 (Zf (Zs (i:=5) SC.nd rfl (Or.inl rfl) (Zq Zl Zj rfl (Za (pv 0) (Za Zg Zc))))
 (Zf (Zs (i:=6) SC.nd rfl (Or.inl rfl) (Zx Xm (Zq Zl Zj rfl (Za (pv 0) (Za Zg Zc))) (Zx (Yz (K':=K) rfl) (Zo (Yd (K:=K) rfl) (by rfl) T.b_len Dl (Za (pv 3) Zc)) Zg)))
 (Zf (Y7 (Zw (T9 (K':=K) rfl hu) (pv 5) Zg (Z6 _))
 (Zi (Zy (Zx (Yz (K':=K) rfl) (Zx (Yz (K':=K) rfl) (Z5 (Ve (K':=K) rfl) (pv 3) Yg (Z7 (pv 6))) (Y0 (Za (Zq Zl Zj rfl (Za (pv 0) (Za Zg Zc))) Zc))) (Z5 (Ve (K':=K) rfl) (pv 3) (Z7 (pv 6)) Yg))))
 Z0)
 (Zf (Y7 (Zw (T9 (K':=K) rfl hu) (pv 5) Zg (Z6 _))
 (Zi (Zy (Zx (Yz (K':=K) rfl) (Z5 (Ve (K':=K) rfl) (pv 3) Yg (Z7 (pv 6))) (Z5 (Ve (K':=K) rfl) (pv 3) (Z7 (Zx (Yz (K':=K) rfl) (pv 6) Zg)) Yg))))
 Z0)
 (Zf (Y7 (Zw (T9 (K':=K) rfl hu) (pv 5) Zg (Z6 _))
 (Zi (Zy (Zh2 (pv 3) (Z7 (Pc Tr Zg)) (fun _ _=>⟨_,rfl⟩))))
 Z0)
 (Zi (Zy (pv 3)))))))))),fun _=>(Zv (Z9 (V8 Zm) (s_g 3))
 (Zv (Xi (Yb (s_op s_ne (Zd 1) (V8 Zm)))
 (W4 (Se (Zb (Zu (Zb (Zd 0) (Zb (s_op Wi (Zd 2) Zt) Zm))) Zm)) (s_g 4)
 (Z9 (s_op Wi (Zd 3) (s_cb Sd (Zb (s_op s_ix (s_op s_ix (Zd 1) (s_op Np (Zu (Zb (Zd 0) (Zb Zt Zm))) (s_cb Xh (Zb (Zd 1) Zm)))) Zt) Zm))) (s_g 3)))
 Yf)
 (Zv (Z9 (Zu (Zb (Zd 0) (Zb Zt Zm))) (s_g 5))
 (Zv (Z9 (s_op Np (Zu (Zb (Zd 0) (Zb Zt Zm))) (s_op Wi (s_cb Xh (Zb (Zd 3) Zm)) Zt)) (s_g 6))
 (Zv (Xi (Yb (s_op s_eq (Zd 5) Zt))
 (Yk (s_op Wi (s_op Wi (s_sl Vf (Zd 3) Yq (Y8 (Zd 6))) (V8 (Zb (Zu (Zb (Zd 0) (Zb Zt Zm))) Zm))) (s_sl Vf (Zd 3) (Y8 (Zd 6)) Yq)))
 Yf)
 (Zv (Xi (Yb (s_op s_eq (Zd 5) Zt))
 (Yk (s_op Wi (s_sl Vf (Zd 3) Yq (Y8 (Zd 6))) (s_sl Vf (Zd 3) (Y8 (s_op Wi (Zd 6) Zt)) Yq)))
 Yf)
 (Zv (Xi (Yb (s_op s_eq (Zd 5) Zt))
 (Yk (Zoc (Zd 3) (Y8 (s_un No Zt))))
 Yf)
 (Yk (Zd 3))))))))),fun ds M Kk hM hD h=>?_⟩
  obtain ⟨hd,L,m,rfl,h⟩:=h;obtain ⟨⟨hh,lL,hL,m0,m1⟩,k⟩:=h;exists Jv _,?_;refine g_nx ?_;dsimp only;refine Zbw (fun ρ' M'=>∃ (ns:List Int) (v4:Option D),ns.length<=160/\ρ'=[some (.cell hd),some (.lst (L.map pD)),some (.int m),some (.lst (ns.map .int)),v4,none,none]/\M=M') (fun Kn hn=>?_) ?_
  ·exists ·,Jv _,Vt Zm2 (a:=L) (b:=[]) rfl rfl ⟨_,rfl,?_⟩
   by_cases e:L=[]
   ·rw [Dg e];exact iteF (hn _ _ ⟨[],_,Jv _,rfl,rfl⟩)
   rw [Dh e];refine iteT ?_;exists ·,·,hd,·,hh,⟨by lia,by lia⟩,fun q q0 q1=>?_;exists q,rfl,⟨by lia,by lia⟩,fun j ρ M'=>∃ (ns:List Int) (v4:Option D),ρ=[some (.cell hd),some (.lst (L.map pD)),some (.int m),some (.lst (ns.map .int)),v4,none,none]/\M=M'/\ns.length<=4*j,fun _ _ _ _ _=>trivial,⟨[],_,rfl,rfl,Jv _⟩,?_,?_
   ·rintro j x ρ _ hj rfl ⟨ns,v4,rfl,rfl,ln⟩;have hj:j<40:=by
     have:j<q.toNat:=hj;lia
    exists ·,·,·,hd,60,rfl,hh,⟨nofun,nofun⟩,fun z z0 z1=>?_;obtain ⟨p,hp,ep⟩:=Zbr (f:=pD) z e;have hp2:=hL _ (G4 hp);exists ·,·,_,·,rfl,R8 e,_,_,·,rfl,ep,_,_,·,rfl,rfl,_,·,rfl,_,·,rfl,?_,.inl ⟨ns++p.2,_,by rw [Jm]; rfl,rfl,by rw [Jc]; have:=hp2.2; lia⟩;rw [Ja,Ja];exact Zh (by have:=hp2.2; lia)
   ·rintro ρ _ ⟨ns,v4,rfl,rfl,ln⟩;have ln:ns.length<=4*q.toNat:=ln;exact hn _ _ ⟨ns,_,by lia,rfl,rfl⟩
  rintro _ _ ⟨ns,v4,ln,rfl,rfl⟩;exists ·,hd,6,rfl,hh,⟨nofun,nofun⟩,fun way y0 y1=>?_;refine g_nx ?_;dsimp only;refine Q3 (fun d M'=>∃ a:Int,d=.int a/\0<=a/\M=M') (fun Kq hq=>?_) ?_
  ·exists ·,hd,60,rfl,hh,⟨nofun,nofun⟩,fun q q0 q1=>⟨_,rfl,_,rfl,_,_,rfl,rfl,(by lia),hq _ _ ⟨_,rfl,G1 _ (by lia),rfl⟩⟩
  rintro _ _ ⟨a,rfl,ha,rfl⟩;have c1:∀ lo hi,(cut ns lo hi).length<=ns.length:=Zki ns;exists ·,.inl ⟨_,rfl,_,rfl,ite2 (fun h=>?_) (fun h=>?_)⟩
  ·exists ·,·,·,·,·,hd,256,rfl,hh,⟨nofun,nofun⟩,fun z z0 z1=>?_;exists (show 1<=sizeLine by decide),_,·,rfl,?_,?_
   ·simp only [Yv,Ja];exact Zh (Jy (Nat.add_le_add_right (c1 _ _) 1) (by lia))
   exists ·,·,·,·,_,·,rfl,?_,?_
   ·simp only [Yv,Jc,Ja,Go];exact Zh (Jy (Nat.add_le_add (Nat.add_le_add_right (c1 _ _) 1) (c1 _ _)) (by lia))
   simp only [Yv];refine .inl ?_;have:=k (cut ns none (some a)++[z]++cut ns (some a) none) (by rw [Jc,Jc]; exact Jy (Nat.add_le_add (Nat.add_le_add_right (c1 _ _) 1) (c1 _ _)) (by lia));rw [Jm,Jm] at this;exact this
  exists ·,.inl ⟨_,rfl,_,rfl,ite2 (fun h=>?_) (fun h=>?_)⟩
  ·exists ·,·,·,·,·,·,·,·,_,·,rfl,?_,?_
   ·simp only [Yv,Ja];exact Zh (Jy (Nat.add_le_add (c1 _ _) (c1 _ _)) (by lia))
   simp only [Yv];refine .inl ?_;have:=k (cut ns none (some a)++cut ns (some (a+1)) none) (by rw [Jc]; exact Jy (Nat.add_le_add (c1 _ _) (c1 _ _)) (by lia));rw [Jm] at this;exact this
  exists ·,.inl ⟨_,rfl,_,rfl,ite2 (fun h=>?_) (fun h=>?_)⟩
  ·exists ·,·,·,rfl,·,.inl ?_;have:=k ns.reverse (by rw [Br]; lia);rw [List.map_reverse] at this;exact this
  exists ·,.inl (k ns (by lia))
open L3
def Zgd {xs:List Int} {i:Nat} {a:Int} (h:xs[i]?=some a):xs.set i a=xs:=by
 apply List.ext_getElem?
 intro k;rw [List.getElem?_set]
 by_cases e:i=k
 ·subst e;have hi:=(Jh.mp h).1;rw [Df rfl,Df hi,h]
 ·rw [De e]
theorem Zfo {j:Nat} (hj:j<ns.length):(cnts L ns j)[ns.length-1-j]?=some 0:=by
 unfold cnts;rw [Jx (by rw [Gr]; lia),List.getElem?_replicate,Df (by lia)]
def Zb7 :(List.replicate (ns.length+1) (0:Int)).set ns.length 1=cnts L ns 0:=by
 unfold cnts X6;rw [Fy,List.replicate_succ',B6 _ _ (by rw [Gr]; exact Jf _),Gr,Nat.sub_self];rfl
def gOf (L:List Pr) (ns:List Int) (j:Nat) (p:Pr):Int:=((X6 L ns j)[p.2.length-1]?).getD 0
def Sj (L:List Pr) (ns:List Int) (j i:Nat):Int:=(((L.take i).filter (hit ns (ns.length-1-j))).map (gOf L ns j)).sum
def Rb {j i:Nat} (hi:i<L.length):Sj L ns j (i+1)=if hit ns (ns.length-1-j) L[i]=true then Sj L ns j i+gOf L ns j L[i] else Sj L ns j i:=by
 unfold Sj;rw [Jk hi,Fu,Jm,List.sum_append]
 by_cases z:hit ns (ns.length-1-j) L[i]=true
 ·rw [Df z,List.filter_cons_of_pos z]; simp
 ·rw [De z,List.filter_cons_of_neg z]; simp
def Zd6 {j:Nat}:Sj L ns j L.length=N7 L ns (X6 L ns j) j:=by
 unfold Sj N7;rw [J9];rfl
def Zi7 {w:List Int} (h:pl<=ns.length) {K:K3} (hk:K (.lst (((ns.drop pl).take w.length).map .int)) M):sl3 (.lst (ns.map .int)) (some (pl:Int)) (some ((pl:Int)+((w.map D.int).length:Int))) M K:=by
 exists ·,?_;rw [Yv,Ja,Zbl h];exact hk
def Zfk:Sp3:=fun ds M K=>∃ (L:List Pr) (ns:List Int),ds=[.lst (L.map pD),.lst (ns.map .int)]/\(ns.length<=1000/\Tb L)/\K (.int (N9 L ns)) M
theorem Jbx (T:Txt mg) {C:Addr}  {f:Addr} (F:Fun K "_law_count" "_law_count" Jcd f fd):FnOk P w K mg base CX0 1 f fd ["_law_table", "_law_row"] (spOf ⟨C,K⟩ Zfk):=by
 refine L3.Fun.ok3 F D9 (fun ds M K3 h=>?_) (fun cdv A outer s H E hr=>?_)
 ·obtain ⟨L,ns,rfl,_⟩:=h;rfl
 ·have SC:=D9;have hu:=hr.units;have hu1:=X7 hr;refine ⟨_,_,(Zf (Zs (i:=2) SC.nd rfl (Or.inl rfl) (Zx Zcm (Y0 (Za Zg Zc)) (Zx (Yz (K':=K) rfl) (Zo (Yd (K:=K) rfl) (by rfl) T.b_len Dl (Za (pv 1) Zc)) Zg)))
 (Zf (Zdx Zg (Zd1 (pv 2) (Zo (Yd (K:=K) rfl) (by rfl) T.b_len Dl (Za (pv 1) Zc)) Ur))
 (Zf (Xl PassesOwn.never rfl (Pa rfl T.b_range (Za (Zx Zd8 (Zo (Yd (K:=K) rfl) (by rfl) T.b_len Dl (Za (pv 1) Zc)) Zg) (Za (Pc Tr Zg) (Za (Pc Tr Zg) Zc)))) (Zr (i:=3) SC.nd rfl (Or.inl rfl))
 (Zi (Xl PassesOwn.never rfl (Ye (pv 0)) (Vl (n:=2) rfl (Ya (Zr (i:=4) SC.nd rfl (Or.inl rfl)) (Ya (Zr (i:=5) SC.nd rfl (Or.inl rfl)) Wj)) (by rfl))
 (Zi (Y7 (Zw (T9 (K':=K) rfl hu) (Z5 (Ve (K':=K) rfl) (pv 1) (Z7 (pv 3)) (Z7 (Zx (Yz (K':=K) rfl) (pv 3) (Zo (Yd (K:=K) rfl) (by rfl) T.b_len Dl (Za (pv 5) Zc))))) (Xa (Ug (K:=K) rfl) (by rfl) T.b_list PyProof.Rows.boot_list (Za (pv 5) Zc)) (Z6 _))
 (Zi (Zdw (pv 2) (pv 3) Pb (Z8 (Ym (K':=K) rfl) (pv 2) (Zx (Yz (K':=K) rfl) (pv 3) (Zo (Yd (K:=K) rfl) (by rfl) T.b_len Dl (Za (pv 5) Zc))) (fun _ _=>rfl)) Zh6 Ur))
 Z0)))))
 (Zi (Zy (Z8 (Ym (K':=K) rfl) (pv 2) Zg (fun _ _=>rfl))))))),fun _=>(Zv (Z9 (s_op Zll (V8 (Zb Zt Zm)) (s_op Wi (s_cb Xh (Zb (Zd 1) Zm)) Zt)) (s_g 2))
 (Zv (Z9 Zt (Zhv (Zd 2) (s_cb Xh (Zb (Zd 1) Zm))))
 (Zv (W4 (Zlp (Zb (s_op Zlj (s_cb Xh (Zb (Zd 1) Zm)) Zt) (Zb (s_un No Zt) (Zb (s_un No Zt) Zm)))) (s_g 3)
 (W4 (s_il (Zd 0)) (Vh (Yl (s_g 4) (Yl (s_g 5) Vi)))
 (Xi (Yb (s_op s_eq (s_sl Vf (Zd 1) (Y8 (Zd 3)) (Y8 (s_op Wi (Zd 3) (s_cb Xh (Zb (Zd 5) Zm))))) (s_cb Sd (Zb (Zd 5) Zm))))
 (Zlr (Zd 2) (Zd 3) (s_op s_ix (Zd 2) (s_op Wi (Zd 3) (s_cb Xh (Zb (Zd 5) Zm)))))
 Yf)))
 (Yk (s_op s_ix (Zd 2) Zt))))),fun ds M Kk hM hD h=>?_⟩
  obtain ⟨L,ns,rfl,h⟩:=h;obtain ⟨⟨hl,hL,hW⟩,k⟩:=h;have lm:(ns.map D.int).length=ns.length:=Ja _;exists (show 1<=sizeLine by decide),·,·,_,·,rfl,⟨by lia,by lia,?_⟩,?_
  ·show 1*_<=sizeLine;exact Zh (by lia)
  have e0:(List.replicate (((ns.map D.int).length:Int)+1).toNat [D.int 0]).flatten=(List.replicate (ns.length+1) (0:Int)).map .int:=by
   rw [Rq,lm,List.map_replicate]
   congr 1
  rw [e0];exists ·,·,·,M.length,_,_,ns.length,rfl,rfl,Xq,?_,?_
  ·rw [Ja,Gr];exact (Zer (by lia) (by lia)).trans (by rw [lm,Gs])
  rw [W3,show D.int 1=(.int:Int->D) 1 from rfl,<- List.map_set,Zb7 (L:=L)];exists ·,·,_,·,rfl,·,·,_,·,⟨by lia,by lia,by lia,by lia⟩,?_;exists fun j ρ M'=>∃ v3 v4 v5,ρ=[some (.lst (L.map pD)),some (.lst (ns.map .int)),some (.cell M.length),v3,v4,v5]/\M'=M++[.lst ((cnts L ns j).map .int)],fun _ _ _ _ _=>trivial,⟨_,_,_,rfl,rfl⟩,?_,?_
  ·rintro j x ρ M' hj hx ⟨v3,v4,v5,rfl,rfl⟩;have hj:j<ns.length:=by
    have:j<(((ns.map D.int).length:Int)-1 - -1).toNat:=hj;lia
   obtain rfl:x=.int ((ns.length-1-j:Nat):Int):=hx.trans (by congr 1; lia);exists ·,·,fun i ρ M'=>∃ v4 v5,ρ=[some (.lst (L.map pD)),some (.lst (ns.map .int)),some (.cell M.length),some (.int ((ns.length-1-j:Nat):Int)),v4,v5]/\M'=M++[.lst (((cnts L ns j).set (ns.length-1-j) (Sj L ns j i)).map .int)],fun _ _ _ _ _=>rfl,⟨_,_,rfl,by rw [show Sj L ns j 0=0 from rfl,Zgd (Zfo hj)]⟩,?_,?_
   ·rintro i x ρ M' hi hx ⟨v4,v5,rfl,rfl⟩;obtain ⟨hi',rfl⟩:=Yh hx;have hne:=(hW _ (G4 (Ge hi'))).1;have hpos:=Gc.mpr hne;exists ·,rfl,_,·,_,·,rfl,?_;have hcl:=Zbo (L:=L) (Fp hj);exists ·,·,·,·,·,·,·,?_;refine Zi7 (by lia) ⟨_,rfl,_,_,rfl,rfl,eqI ⟨_,rfl,?_⟩⟩
    by_cases z:hit ns (ns.length-1-j) L[i]=true
    ·rw [show decide ((ns.drop (ns.length-1-j)).take (L[i]).2.length=(L[i]).2)=true from z];have hv:=Zfp (L:=L) hj z hne;have hln:=Wl z hne;refine iteT ⟨_,rfl,_,rfl,M.length,ns.length-1-j,_,Sj L ns j i,rfl,rfl,Xq,?_,?_⟩
     ·rw [Js,Bn (by lia)]; rfl
     exists ·,·,·,·,_,_,.int (gOf L ns j L[i]),Xx,rfl,?_,_,_,ns.length-1-j,rfl,Xq,?_,.inl ⟨_,_,rfl,?_⟩
     ·rw [Ja,<- Int.natCast_add];refine Vw ?_;rw [Js,Gx (by lia),hv];rfl
     ·rw [Ja,B7,hcl];exact (Zer (by lia) (by lia)).trans (by rw [Gs])
     ·rw [W3,<- List.map_set,List.set_set,Rb hi',Df z]
    ·rw [show decide ((ns.drop (ns.length-1-j)).take (L[i]).2.length=(L[i]).2)=false from Bool.eq_false_iff.mpr z];exact iteF (.inl ⟨_,_,rfl,by rw [Rb hi',De z]⟩)
   ·rintro ρ M' ⟨v4,v5,rfl,rfl⟩;refine .inl ⟨_,_,_,rfl,?_⟩;rw [show Sj L ns j (L.map pD).length=Sj L ns j L.length by rw [Ja],Zd6,Zbn hj]
  ·rintro ρ M' ⟨v3,v4,v5,rfl,rfl⟩;have en:(((ns.map D.int).length:Int)-1 - -1).toNat=ns.length:=by lia
   rw [show (Zgf (((ns.map D.int).length:Int)-1) (((ns.map D.int).length:Int)-1 - -1).toNat).n=ns.length from en];exists ·,_,_,_,Xx,rfl,Vw (j:=0) (by rw [Js,Zbp]; rfl),?_;exact Ue pre1 hM Vv k
open L3
def LOk (L:List Pr):Prop:=L.length<=40/\(L.map (·.1)).Nodup/\∀ p∈L,p.2≠[]/\p.2.length<=4
def Zbj:Sp3:=fun ds M K=>∃ (d:D) (L:List Pr) (ts:List Int),ds=[.lst (L.map pD),d]/\Z3 M d=some (ts.map .int)/\(LOk L/\ts.length<=100/\∀ t∈ts,t∈L.map (·.1))/\∀ ns:List Int,Rdg L ns ts->ns.length<=400->K (.lst (ns.map .int)) M
theorem D3 (T:Txt mg) {C:Addr}  {f:Addr} (F:Fun K "_law_written" "_law_written" Jal f fd):FnOk P w K mg base CX0 1 f fd ["_law_table", "_law_text"] (spOf ⟨C,K⟩ Zbj):=by
 refine L3.Fun.ok3 F Jbe (fun ds M K3 h=>?_) (fun cdv A outer s H E hr=>?_)
 ·obtain ⟨d,L,ts,rfl,_⟩:=h;rfl
 ·have SC:=Jbe;have hu:=hr.units;have hu1:=X7 hr;refine ⟨_,_,(Zf (Zs (i:=2) SC.nd rfl (Or.inl rfl) (Y0 Zc))
 (Zf (Xl PassesOwn.never rfl (Ye (pv 1)) (Zr (i:=3) SC.nd rfl (Or.inl rfl))
 (Zi (Xl PassesOwn.never rfl (Ye (pv 0)) (Vl (n:=2) rfl (Ya (Zr (i:=4) SC.nd rfl (Or.inl rfl)) (Ya (Zr (i:=5) SC.nd rfl (Or.inl rfl)) Wj)) (by rfl))
 (Zi (Y7 (Zw (T9 (K':=K) rfl hu) (pv 4) (pv 3) (Z6 _))
 (Zi (Zs (i:=2) SC.nd rfl (Or.inl rfl) (Zx (Yz (K':=K) rfl) (pv 2) (Xa (Ug (K:=K) rfl) (by rfl) T.b_list PyProof.Rows.boot_list (Za (pv 5) Zc)))))
 Z0)))))
 (Zi (Zy (pv 2))))),fun _=>(Zv (Z9 (V8 Zm) (s_g 2))
 (Zv (W4 (s_il (Zd 1)) (s_g 3)
 (W4 (s_il (Zd 0)) (Vh (Yl (s_g 4) (Yl (s_g 5) Vi)))
 (Xi (Yb (s_op s_eq (Zd 4) (Zd 3)))
 (Z9 (s_op Wi (Zd 2) (s_cb Sd (Zb (Zd 5) Zm))) (s_g 2))
 Yf)))
 (Yk (Zd 2)))),fun ds M Kk hM hD h=>?_⟩
  obtain ⟨d,L,ts,rfl,h⟩:=h;obtain ⟨e1,⟨ok,lt,ht⟩,k⟩:=h;exists Jv _,?_;exists ·,_,e1,fun i ρ M'=>∃ (ns:List Int) (v3 v4 v5:Option D),ρ=[some (.lst (L.map pD)),some d,some (.lst (ns.map .int)),v3,v4,v5]/\M=M'/\Rdg L ns (ts.take i)/\ns.length<=4*i,fun _ _ _ _ z=>by obtain ⟨_,_,_,_,_,rfl,_⟩:=z; exact e1,⟨[],_,_,_,rfl,rfl,.nil,Jf _⟩,?_,?_
  ·rintro i x ρ _ hi hx ⟨ns,v3,v4,v5,rfl,rfl,hr,ln⟩;obtain ⟨hi',rfl⟩:=T7 hx;obtain ⟨p,hp,ep⟩:=Jp.mp (ht _ (Ge hi'));obtain ⟨k0,hk0,rfl⟩:=Gd hp;have l4:=(ok.2.2 _ hp).2;exists ·,·,fun j ρ M'=>∃ (rs:List Int) (v4 v5:Option D),ρ=[some (.lst (L.map pD)),some d,some (.lst (rs.map .int)),some (.int ts[i]),v4,v5]/\M=M'/\rs=if j<=k0 then ns else ns++L[k0].2,fun _ _ _ _ _=>rfl,⟨_,_,_,rfl,rfl,(Df (Jv _)).symm⟩,?_,?_
   ·rintro j x ρ _ hj hx ⟨rs,v4,v5,rfl,rfl,ers⟩;obtain ⟨hj',rfl⟩:=Yh hx;exists ·,rfl,_,·,_,·,rfl,?_;exists ·,·,.inl ⟨_,rfl,_,rfl,?_⟩
    by_cases z:j=k0
    ·subst z;rw [Dg ep];refine iteT ⟨_,rfl,_,rfl,_,_,rfl,rfl,_,_,rfl,rfl,?_,.inl ⟨rs++L[j].2,_,_,by rw [Jm]; rfl,rfl,?_⟩⟩
     ·rw [Df (Jf _)] at ers;rw [Ja,Ja,ers];have i100:i<100:=by lia
      exact Zh (by lia)
     ·rw [ers,Df (Jf _),De (by lia)]
    ·rw [Dh fun e=>z (by
      have:=(Bh (i:=j) (j:=k0) (h₀:=by rw [Ja]; exact hj') (h₁:=by rw [Ja]; exact hk0) ok.2.1).mp (by rw [Gk,Gk,e,ep]);exact this)]
     refine iteF (.inl ⟨rs,_,_,rfl,rfl,?_⟩)
     by_cases y:j<k0
     ·rw [ers,Df (by lia),Df (by lia)]
     ·rw [ers,De (by lia),De (by lia)]
   ·rintro ρ _ ⟨rs,v4,v5,rfl,rfl,ers⟩;rw [De (by show ¬ (L.map pD).length<=k0; rw [Ja]; lia)] at ers;subst ers;refine .inl ⟨_,_,_,_,rfl,rfl,?_,by rw [Jc]; lia⟩;rw [Jk hi',<- ep];refine hr.app ?_;have:=Rdg.cons hp .nil;rwa [Ga] at this
  ·rintro ρ _ ⟨ns,v3,v4,v5,rfl,rfl,hr,ln⟩;have e:ts.take (ts.map D.int).length=ts:=by rw [Ja,J9]
   rw [show List.take _ ts=ts from e] at hr;have ln:ns.length<=4*(ts.map D.int).length:=ln;rw [Ja] at ln;exists ·,.inl (k ns hr (by lia))
open L3
def Zig:Sp3:=fun ds M K=>∃ a b:List Int,ds=[wD a,wD b]/\(a.length<=1000/\b.length<=1000)/\K (.lst ((rs2 a b).map wD)) M
def Zij:Sp3:=fun ds M K=>∃ (L:List Pr),ds=[.lst (L.map pD)]/\Tf L/\∀ (rs:List (List Int)),rs.Pairwise (fun a b=>HT.lexLt a b=true)->(∀ r,r∈rs↔Ov (L.map (·.2)) r)->K (.lst (rs.map wD)) M
theorem Jbd (T:Txt mg) {C:Addr}  {f:Addr} (F:Fun K "_law_rest" "_law_rest" Jap f fd):FnOk P w K mg base CX0 1 f fd ["_law_longer", "_law_shorter"] (spOf ⟨C,K⟩ Zig):=by
 refine L3.Fun.ok3 F Dq (fun ds M K3 h=>?_) (fun cdv A outer s H E hr=>?_)
 ·obtain ⟨a,b,rfl,_⟩:=h;rfl
 ·have SC:=Dq;have hu:=hr.units;have hu1:=X7 hr;refine ⟨_,_,(Zf (Y7 (Zw (T9 (K':=K) rfl hu) (Z5 (Ve (K':=K) rfl) (pv 0) Yg (Z7 (Zo (Yd (K:=K) rfl) (by rfl) T.b_len Dl (Za (pv 1) Zc)))) (pv 1) (Z6 _))
 (Zi (Zy (Y0 (Za (Z5 (Ve (K':=K) rfl) (pv 0) (Z7 (Zo (Yd (K:=K) rfl) (by rfl) T.b_len Dl (Za (pv 1) Zc))) Yg) Zc))))
 Z0)
 (Zi (Zy (Y0 Zc)))),fun _=>(Zv (Xi (Yb (s_op s_eq (s_sl Vf (Zd 0) Yq (Y8 (s_cb Xh (Zb (Zd 1) Zm)))) (Zd 1)))
 (Yk (V8 (Zb (s_sl Vf (Zd 0) (Y8 (s_cb Xh (Zb (Zd 1) Zm))) Yq) Zm)))
 Yf)
 (Yk (V8 Zm))),fun ds M Kk hM hD h=>?_⟩
  obtain ⟨a,b,rfl,h⟩:=h;obtain ⟨⟨la,lb⟩,k⟩:=h;have e1:cut a none (some (b.length:Int))=a.take b.length:=by
   unfold cut;rw [HT.sIx_nat,HT.sIx_none,Fx,Fy]
   by_cases h:b.length<=a.length
   ·rw [Bt h]
   ·rw [Nat.min_eq_right (by lia),J9,G8 (by lia)]
  exists ·,·,·,·,·,?_;show eqV (.tup (cut (a.map .int) none (some ((b.map D.int).length:Int)))) (wD b) M _;rw [Yv,Ja,e1];refine Wv (Xo Yc) (a:=a.take b.length) (b:=b) ⟨_,rfl,?_⟩;unfold rs2 at k
  by_cases e:a.take b.length=b
  ·rw [Dg e];rw [Df e] at k;have hl:b.length<=a.length:=by
    have:=congrArg List.length e;rw [Jz] at this;lia
   have e2:cut a (some (b.length:Int)) none=a.drop b.length:=by
    unfold cut;rw [HT.sIx_nat,HT.sIx_none,Bt hl];exact G8 (by rw [Gh]; exact Jf _)
   refine iteT ⟨_,rfl,_,rfl,_,rfl,_,rfl,?_⟩;show _/\Dk M.length Kk (.lst [.tup (cut (a.map .int) (some ((b.map D.int).length:Int)) none)]) M;rw [Yv,Ja,e2];exists (show 1<=sizeLine by decide),.inl k
  ·rw [Dh e];rw [De e] at k;exact iteF ⟨Jv _,.inl k⟩
theorem Jca (T:Txt mg) {C:Addr} (Ws:Cal P w K mg base "_law_rest" 1 ["_law_longer", "_law_shorter"] (spOf ⟨C,K⟩ Zig)) {f:Addr} (F:Fun K "_law_closing" "_law_closing" Dy f fd):FnOk P w K mg base CX0 2 f fd ["_law_table"] (spOf ⟨C,K⟩ Zij):=by
 refine L3.Fun.ok3 F Jaw (fun ds M K3 h=>?_) (fun cdv A outer s H E hr=>?_)
 ·obtain ⟨L,rfl,_⟩:=h;rfl
 ·have SC:=Jaw;have hu:=hr.units;have hu1:=X7 hr;have Vr:Room 1 _:=hr.mono nofun;refine ⟨_,_,(Zf (Zs (i:=1) SC.nd rfl (Or.inl rfl) (Y0 Zc))
 (Zf (Xl PassesOwn.never rfl (Yn rfl T.b_range (Za (Zo (Yd (K:=K) rfl) (by rfl) T.b_len Dl (Za (pv 0) Zc)) Zc)) (Zr (i:=2) SC.nd rfl (Or.inl rfl))
 (Zi (Xl PassesOwn.never rfl (Yn rfl T.b_range (Za (Zo (Yd (K:=K) rfl) (by rfl) T.b_len Dl (Za (pv 0) Zc)) Zc)) (Zr (i:=3) SC.nd rfl (Or.inl rfl))
 (Zi (Y7 (Zw (Uo (K':=K) rfl hu) (pv 2) (pv 3) (Z6 _))
 (Zi (Zs (i:=1) SC.nd rfl (Or.inl rfl) (Zx (Yz (K':=K) rfl) (pv 1) (Zq Ws Vr rfl (Za (Z8 (Ym (K':=K) rfl) (Z8 (Ym (K':=K) rfl) (pv 0) (pv 2) (fun _ _=>rfl)) Zg (fun _ _=>rfl)) (Za (Z8 (Ym (K':=K) rfl) (Z8 (Ym (K':=K) rfl) (pv 0) (pv 3) (fun _ _=>rfl)) Zg (fun _ _=>rfl)) Zc))))))
 Z0)))))
 (Zf (Zs (i:=4) SC.nd rfl (Or.inl rfl) W6)
 (Zf (Ru PassesOwn.never (Tt (pv 4))
 (Zf (Zs (i:=4) SC.nd rfl (Or.inl rfl) W6)
 (Zi (Xl PassesOwn.never rfl (Ye (Xa (Ug (K:=K) rfl) (by rfl) T.b_list PyProof.Rows.boot_list (Za (pv 1) Zc))) (Zr (i:=5) SC.nd rfl (Or.inl rfl))
 (Zi (Xl PassesOwn.never rfl (Ye (pv 0)) (Vl (n:=2) rfl (Ya (Zr (i:=6) SC.nd rfl (Or.inl rfl)) (Ya (Zr (i:=7) SC.nd rfl (Or.inl rfl)) Wj)) (by rfl))
 (Zi (Y7 (Zw (Uo (K':=K) rfl hu) (pv 5) (X2 Zc) (Z6 _))
 (Zi (Xl PassesOwn.never rfl (Ye (Zx (Yz (K':=K) rfl) (Zq Ws Vr rfl (Za (pv 7) (Za (pv 5) Zc))) (Zq Ws Vr rfl (Za (pv 5) (Za (pv 7) Zc))))) (Zr (i:=8) SC.nd rfl (Or.inl rfl))
 (Zi (Y7 (Zw (Um (K':=K) rfl hu) (pv 8) (pv 1) rfl)
 (Zf (Vk (Nu PySem.F.plainAttrs_list PySem.F.slot_list_append PySem.F.type_list_append Uy (pv 1) (Za (pv 8) Zc)))
 (Zi (Zs (i:=4) SC.nd rfl (Or.inl rfl) W6)))
 Z0))))
 Z0))))))))
 (Zi (Zy (Zo (Zb8 rfl (Ni hr)) (by rfl) T.b_sorted PyProof.Rows.boot_sorted (Za (Xa (Zft rfl (Ni hr)) (by rfl) T.b_set PyProof.Rows.boot_set (Za (pv 1) Zc)) Zc)))))))),fun _=>(Zv (Z9 (S9 Zm) (s_g 1))
 (Zv (W4 (Se (Zb (s_cb Xh (Zb (Zd 0) Zm)) Zm)) (s_g 2)
 (W4 (Se (Zb (s_cb Xh (Zb (Zd 0) Zm)) Zm)) (s_g 3)
 (Xi (Yb (s_op s_ne (Zd 2) (Zd 3)))
 (Z9 (s_op Zdg (Zd 1) (Zu (Zb (s_op s_ix (s_op s_ix (Zd 0) (Zd 2)) Zt) (Zb (s_op s_ix (s_op s_ix (Zd 0) (Zd 3)) Zt) Zm)))) (s_g 1))
 Yf)))
 (Zv (Z9 s_bl (s_g 4))
 (Zv (Nn (s_b (Zd 4))
 (Zv (Z9 s_bl (s_g 4))
 (W4 (s_il (s_cb Sd (Zb (Zd 1) Zm))) (s_g 5)
 (W4 (s_il (Zd 0)) (Vh (Yl (s_g 6) (Yl (s_g 7) Vi)))
 (Xi (Yb (s_op s_ne (Zd 5) (Ua Zm)))
 (W4 (s_il (s_op Wi (Zu (Zb (Zd 7) (Zb (Zd 5) Zm))) (Zu (Zb (Zd 5) (Zb (Zd 7) Zm))))) (s_g 8)
 (Xi (Yb (s_op T5 (Zd 8) (Zd 1)))
 (Zv (Ts (T6 (Zd 1) (Zb (Zd 8) Zm)))
 (Z9 s_bl (s_g 4)))
 Yf))
 Yf)))))
 (Yk (Zda rfl (Zb (Zd 1) Zm))))))),fun ds M Kk hM hD h=>?_⟩
  obtain ⟨L,rfl,h⟩:=h;obtain ⟨tf,k⟩:=h;have hn:(L.map pD).length=L.length:=Ja _;have lL:=tf.len;have hw:∀ w∈L.map (·.2),w≠[]/\w.length<=4:=tf.words.2;have few:=tf.few;have atw:∀ {i:Nat} {a:List Int},(L.map (·.2))[i]?=some a->∃ hi:i<L.length,L[i].2=a:=fun {i a} h=>by
   obtain ⟨hi,e⟩:=Jh.mp h;rw [Gk] at e;exists by simpa using hi,e
  exists Jv _,?_;refine g_nx ?_;dsimp only;refine Zbw (fun ρ' M'=>∃ (ks:List (List Int)) (J:List MO) (v2 v3:Option D),ρ'=[some (.lst (L.map pD)),some (.cell (M++J).length),v2,v3,none,none,none,none,none]/\M'=M++J++[.lst (ks.map wD)]/\((∀ r∈ks,Ov (L.map (·.2)) r)/\ks.length<=1600)/\∀ {i j:Nat} {a b r:List Int},i≠j->(L.map (·.2))[i]?=some a->(L.map (·.2))[j]?=some b->a=b++r->r∈ks) (fun Kn hn2=>?_) ?_
  ·exists ·,·,·,⟨by lia,by lia⟩,fun i ρ' M'=>∃ (ks:List (List Int)) (J:List MO) (v2 v3:Option D),ρ'=[some (.lst (L.map pD)),some (.cell (M++J).length),v2,v3,none,none,none,none,none]/\M'=M++J++[.lst (ks.map wD)]/\((∀ r∈ks,Ov (L.map (·.2)) r)/\ks.length<=40*i)/\∀ {i' j:Nat} {a b r:List Int},i'<i->i'≠j->(L.map (·.2))[i']?=some a->(L.map (·.2))[j]?=some b->a=b++r->r∈ks,fun _ _ _ _ _=>trivial,⟨[],[],_,_,by rw [Ga]; rfl,by rw [Ga]; rfl,⟨(fun _ h=>nomatch h),Jf _⟩,fun h=>absurd h (G2 _)⟩,?_,?_
   ·rintro i x ρ' M' hi rfl ⟨ks,J,v2,v3,rfl,rfl,⟨ov,lk⟩,cov⟩;have hi:i<L.length:=by
     have:i<((L.map pD).length:Int).toNat:=hi;lia
    refine g_nx ?_;exists ·,·,·,⟨by lia,by lia⟩,fun j ρ' M'=>∃ (ks:List (List Int)) (J:List MO) (v3:Option D),ρ'=[some (.lst (L.map pD)),some (.cell (M++J).length),some (.int i),v3,none,none,none,none,none]/\M'=M++J++[.lst (ks.map wD)]/\((∀ r∈ks,Ov (L.map (·.2)) r)/\ks.length<=40*i+j)/\(∀ {i' j:Nat} {a b r:List Int},i'<i->i'≠j->(L.map (·.2))[i']?=some a->(L.map (·.2))[j]?=some b->a=b++r->r∈ks)/\∀ {j':Nat} {a b r:List Int},j'<j->i≠j'->(L.map (·.2))[i]?=some a->(L.map (·.2))[j']?=some b->a=b++r->r∈ks,fun _ _ _ _ _=>trivial,⟨ks,J,v3,by simp,rfl,⟨ov,lk⟩,cov,fun h=>absurd h (G2 _)⟩,?_,?_
    ·rintro j x ρ' M' hj rfl ⟨ks,J,v3,rfl,rfl,⟨ov,lk⟩,cov,cov2⟩;have hj:j<L.length:=by
      have:j<((L.map pD).length:Int).toNat:=hj;lia
     refine g_nx ?_;exists ·,·,Wv Yc (a:=_) (b:=_) ⟨_,rfl,?_⟩;have wi:(L.map (·.2))[i]?=some L[i].2:=by rw [Js,Jb hi]; rfl
     have wj:(L.map (·.2))[j]?=some L[j].2:=by rw [Js,Jb hj]; rfl
     by_cases e:i=j
     ·rw [Dg (by lia)];refine iteF (.inl ⟨ks,J,_,rfl,rfl,⟨ov,by lia⟩,cov,fun {j' a b r} hj' hne=>cov2 (by lia) hne⟩)
     ·rw [Dh (by lia)];have l1:=(tf.w _ (Ge hi)).2;have l2:=(tf.w _ (Ge hj)).2;have lr:(rs2 L[i].2 L[j].2).length<=1:=by unfold rs2; split <;> simp
      refine iteT ⟨_,rfl,_,rfl,_,rfl,_,_,_,rfl,rfl,W8 (f:=pD) (as:=L) (j:=i) (by lia) hi,_,_,_,rfl,rfl,rfl,_,rfl,_,rfl,_,_,_,rfl,rfl,W8 (f:=pD) (as:=L) (j:=j) (by lia) hj,_,_,_,rfl,rfl,rfl,L[i].2,L[j].2,rfl,⟨by lia,by lia⟩,_,_,Sn,rfl,?_,.inl ⟨ks++rs2 L[i].2 L[j].2,J++[.lst (ks.map wD)],_,by rw [<- Jt]; rfl,by rw [<- Jt,Jm],⟨fun r hr=>?_,by rw [Jc]; lia⟩,fun h hne g1 g2 g3=>Jw _ (cov h hne g1 g2 g3),fun {j' a b r} hj' hne g1 g2 g3=>?_⟩⟩
      ·rw [Ja,Ja];exact Zh (by lia)
      ·rcases Jn.mp hr with z | z
       ·exact ov r z
       ·exact Ov.pair e wi wj (Sg.mpr (.inl (Rw.mp z)))
      ·by_cases ej:j'=j
       ·subst ej;rw [wi] at g1;rw [wj] at g2;cases g1;cases g2;exact Ji _ (Rw.mpr g3)
       ·exact Jw _ (cov2 (by lia) hne g1 g2 g3)
    ·rintro ρ' M' ⟨ks,J,v3,rfl,rfl,⟨ov,lk⟩,cov,cov2⟩;have lk:ks.length<=40*i+((L.map pD).length:Int).toNat:=lk;refine .inl ⟨ks,J,_,_,rfl,rfl,⟨ov,by lia⟩,fun {i' j a b r} hi' hne g1 g2 g3=>?_⟩
     by_cases ei:i'=i
     ·subst ei;obtain ⟨hj,_⟩:=atw g2;exact cov2 (by show j<((L.map pD).length:Int).toNat; lia) hne g1 g2 g3
     ·exact cov (by lia) hne g1 g2 g3
   ·rintro ρ' M' ⟨ks,J,v2,v3,rfl,rfl,⟨ov,lk⟩,cov⟩;have lk:ks.length<=40*((L.map pD).length:Int).toNat:=lk;refine hn2 _ _ ⟨ks,J,_,_,rfl,rfl,⟨ov,by lia⟩,fun {i j a b r} hne g1 g2 g3=>?_⟩;obtain ⟨hi,_⟩:=atw g1;exact cov (by show i<((L.map pD).length:Int).toNat; lia) hne g1 g2 g3
  rintro _ _ ⟨fs,J,v2,v3,rfl,rfl,⟨ovf,lf⟩,cov⟩;refine g_nx ?_;dsimp only;have hmem:∀ {j:Nat} (hj:j<L.length),L[j].2∈L.map (·.2):=fun hj=>G4 (Ge hj);exists fun m ρ' M'=>∃ (ns:List (List Int)) (b:Bool) (v5 v6 v7 v8:Option D),ρ'=[some (.lst (L.map pD)),some (.cell (M++J).length),v2,v3,some (.bl b),v5,v6,v7,v8]/\M'=M++J++[.lst ((fs++ns).map wD)]/\(ns.Nodup/\∀ z∈fs++ns,Ov (L.map (·.2)) z)/\(b=false->∀ z∈fs++ns,z≠[]->∀ w∈L.map (·.2),∀ q,rb z w=some q->q∈fs++ns)/\m=(64-ns.length)*2+(if b=true then 1 else 0),⟨_,[],true,_,_,_,_,rfl,by rw [Ga],⟨G6,by rw [Ga]; exact ovf⟩,(fun z=>nomatch z),rfl⟩,?_
  rintro m ρ1 M1 ⟨ns,b,v5,v6,v7,v8,rfl,rfl,⟨nd,ov⟩,cl,em⟩;exists ·,·,?_;have zl:=few ns nd fun z hz=>ov z (Ji _ hz);cases b with
  | false =>
   refine iteF ⟨_,rfl,_,fs++ns,rfl,Xx,fun zs nd hz=>few zs nd fun z h=>ov z (hz z h),fun us pw hus=>Ue pre2 hM (S1 (U4 (fun _=>Zac) us)) (k us pw fun r=>⟨fun h=>ov r ((hus r).mp h),fun h=>(hus r).mpr (Znb (fun hne g1 g2 e=>Jw _ (cov hne g1 g2 e)) (cl rfl) h)⟩)⟩
  | true =>
   have em:m=(64-ns.length)*2+1:=em;refine iteT ?_;refine g_nx ?_;exists ·,_,·,(show Sc _ (.cell _)=some ((fs++ns).map wD) from Xx),·,fun i ρ' M'=>∃ (ms:List (List Int)) (b:Bool) (v5 v6 v7 v8:Option D),ρ'=[some (.lst (L.map pD)),some (.cell (M++J).length),v2,v3,some (.bl b),v5,v6,v7,v8]/\M'=M++J++[.lst ((fs++ms).map wD)]/\ClSt (L.map (·.2)) fs ns ms b/\∀ z∈(fs++ns).take i,z≠[]->∀ w∈L.map (·.2),∀ q,rb z w=some q->q∈fs++ms,fun _ _ _ _ _=>rfl,⟨ns,false,_,_,_,_,rfl,rfl,⟨nd,ov,Jf _,fun _=>rfl,fun z=>nomatch z⟩,fun _ h=>nomatch h⟩,?_,?_
   ·rintro i x ρ' M' hi hx ⟨ms,b,v5,v6,v7,v8,rfl,rfl,st,c1⟩;obtain ⟨hi',rfl⟩:=Yh hx;have hz:(fs++ns)[i]∈fs++ns:=Ge hi';have et:(fs++ns).take (i+1)=(fs++ns).take i++[(fs++ns)[i]]:=Jk hi';generalize (fs++ns)[i]=z at hz et;refine g_nx ?_;exists ·,·,fun j ρ' M'=>∃ (ms:List (List Int)) (b:Bool) (v6 v7 v8:Option D),ρ'=[some (.lst (L.map pD)),some (.cell (M++J).length),v2,v3,some (.bl b),some (wD z),v6,v7,v8]/\M'=M++J++[.lst ((fs++ms).map wD)]/\ClSt (L.map (·.2)) fs ns ms b/\(∀ z∈(fs++ns).take i,z≠[]->∀ w∈L.map (·.2),∀ q,rb z w=some q->q∈fs++ms)/\(z≠[]->∀ p∈L.take j,∀ q,rb z p.2=some q->q∈fs++ms),fun _ _ _ _ _=>rfl,⟨ms,b,_,_,_,rfl,rfl,st,c1,fun _ _ h=>nomatch h⟩,?_,?_
    ·rintro j x ρ' M' hj hx ⟨ms,b,v6,v7,v8,rfl,rfl,st,c1,c2⟩;obtain ⟨hj',rfl⟩:=Yh hx;have hw':=hw _ (hmem hj');have hm':=hmem hj';have et2:L.take (j+1)=L.take j++[L[j]]:=Jk hj';generalize L[j]=p at hw' hm' et2;exists ·,rfl,_,·,_,·,rfl,?_;exists ·,Jv _,Wv (Xo Yc) (a:=z) (b:=[]) ⟨_,rfl,?_⟩
     by_cases ez:z=[]
     ·rw [Dg ez];exact iteF (.inl ⟨ms,b,_,_,_,rfl,rfl,st,c1,fun h=>absurd ez h⟩)
     rw [Dh ez];have ovz:=ov z hz;have lz:=Zd7 (fun w h=>(hw w h).2) ovz;have lq:(rs2 p.2 z++rs2 z p.2).length<=2:=by
      rw [Jc];unfold rs2
      split <;> split <;> simp
     have mq:∀ q,q∈rs2 p.2 z++rs2 z p.2↔rb z p.2=some q:=fun q=>by rw [Zgw,Zdm]
     have eqs:(rs2 p.2 z).map wD++(rs2 z p.2).map wD=(rs2 p.2 z++rs2 z p.2).map wD:=Jm.symm;refine iteT ⟨_,rfl,_,rfl,p.2,z,rfl,⟨by lia,by lia⟩,_,rfl,_,rfl,z,p.2,rfl,⟨by lia,by lia⟩,_,_,rfl,rfl,?_,(rs2 p.2 z++rs2 z p.2).map wD,congrArg some eqs,?_⟩
     ·rw [Ja,Ja,<- Jc];exact Zh (by lia)
     generalize rs2 p.2 z++rs2 z p.2=qs at lq mq eqs;exists fun t ρ' M'=>∃ (ms:List (List Int)) (b:Bool) (v8:Option D),ρ'=[some (.lst (L.map pD)),some (.cell (M++J).length),v2,v3,some (.bl b),some (wD z),some (.int p.1),some (wD p.2),v8]/\M'=M++J++[.lst ((fs++ms).map wD)]/\ClSt (L.map (·.2)) fs ns ms b/\(∀ z∈(fs++ns).take i,z≠[]->∀ w∈L.map (·.2),∀ q,rb z w=some q->q∈fs++ms)/\(z≠[]->∀ p∈L.take j,∀ q,rb z p.2=some q->q∈fs++ms)/\∀ q∈qs.take t,q∈fs++ms,fun _ _ _ _ _=>congrArg some eqs,⟨ms,b,_,rfl,rfl,st,c1,c2,fun _ h=>nomatch h⟩,?_,?_
     ·rintro t x ρ' M' ht hx ⟨ms,b,v8,rfl,rfl,st,c1,c2,c3⟩;obtain ⟨ht',rfl⟩:=Yh hx;have hq:qs[t]∈qs:=Ge ht';have et3:qs.take (t+1)=qs.take t++[qs[t]]:=Jk ht';generalize qs[t]=q at hq et3;have ovq:Ov (L.map (·.2)) q:=.more ovz ez hm' ((mq q).mp hq);have ml:=few ms st.nd fun z hz=>st.ov z (Ji _ hz);refine g_nx ?_;exists ·,·,Ux (Xo Yc) (xs:=fs++ms) (t:=q) ((Xo Yc).ok _ q) Xx fun c hc=>⟨_,rfl,?_⟩;cases c with
      | true =>
       refine iteF (.inl ⟨ms,b,_,rfl,rfl,st,c1,c2,fun y hy=>?_⟩);rw [et3] at hy;rcases Jn.mp hy with y' | y'
       ·exact c3 y y'
       ·rw [Je.mp y']; exact hc.mp rfl
      | false =>
       have hq':q∉fs++ms:=fun h=>nomatch hc.mpr h;have up:∀ {y:List Int},y∈fs++ms->y∈fs++(ms++[q]):=fun h=>by rw [<- Jt]; exact Jw _ h
       refine iteT ⟨_,rfl,Uc Sn,_,rfl,_,_,_,rfl,rfl,Xq,?_,?_⟩
       ·rw [Ja,Jc];exact Fd (by lia:_<=2000) nofun
       rw [W3];refine .inl ⟨ms++[q],true,_,rfl,by rw [<- Jt,Jm (l₁:=fs++ms)]; rfl,st.put ovq hq',fun y hy ne w hw x e=>up (c1 y hy ne w hw x e),fun ne p hp x e=>up (c2 ne p hp x e),fun y hy=>?_⟩;rw [et3] at hy;rcases Jn.mp hy with y' | y'
       ·exact up (c3 y y')
       ·rw [Je.mp y',<- Jt]; exact Ji _ (Je.mpr rfl)
     ·rintro ρ' M' ⟨ms,b,v8,rfl,rfl,st,c1,c2,c3⟩;have c3:∀ q∈qs.take (qs.map wD).length,q∈fs++ms:=c3;rw [Ja,J9] at c3;refine .inl ⟨ms,b,_,_,_,rfl,rfl,st,c1,fun ne y hy x e=>?_⟩;rw [et2] at hy;rcases Jn.mp hy with y' | y'
      ·exact c2 ne y y' x e
      ·rw [Je.mp y'] at e;exact c3 x ((mq x).mpr e)
    ·rintro ρ' M' ⟨ms,b,v6,v7,v8,rfl,rfl,st,c1,c2⟩;have c2:z≠[]->∀ p∈L.take (L.map pD).length,∀ q,rb z p.2=some q->q∈fs++ms:=c2;rw [Ja,J9] at c2;refine .inl ⟨ms,b,_,_,_,_,rfl,rfl,st,fun y hy ne w hw x e=>?_⟩;rw [et] at hy;rcases Jn.mp hy with y' | y'
     ·exact c1 y y' ne w hw x e
     ·rw [Je.mp y'] at ne e;obtain ⟨p,hp,rfl⟩:=Jp.mp hw;exact c2 ne p hp x e
   ·rintro ρ' M' ⟨ms,b,v5,v6,v7,v8,rfl,rfl,st,c1⟩;have c1:∀ z∈(fs++ns).take ((fs++ns).map wD).length,z≠[]->∀ w∈L.map (·.2),∀ q,rb z w=some q->q∈fs++ms:=c1;rw [Ja,J9] at c1;have ml:=few ms st.nd fun z hz=>st.ov z (Ji _ hz);exists _,?_,.inl ⟨ms,b,_,_,_,_,rfl,rfl,⟨st.nd,st.ov⟩,fun eb=>?_,rfl⟩
    ·cases b with
     | true =>
      have:=st.t rfl;show (64-ms.length)*2+1<m;lia
     | false =>
      have:=st.f rfl;rw [this];show (64-ns.length)*2+0<m;lia
    ·rw [st.f eb] at c1 ⊢;exact c1
open L3
def Zie:Sp3:=fun ds M K=>∃ i:Int,ds=[.int i]/\K (.bl true) M
def Jbu (T:Txt mg) {C:Addr}  {f:Addr} (F:Fun K "_law_whole" "_law_whole" Jam f fd):FnOk P w K mg base CX0 1 f fd ["_law_one_here"] (spOf ⟨C,K⟩ Zie):=by
 refine L3.Fun.ok3 F D2 (fun ds M K3 h=>?_) (fun cdv A outer s H E hr=>?_)
 ·obtain ⟨i,rfl,_⟩:=h;rfl
 ·have SC:=D2;have hu:=hr.units;have hu1:=X7 hr;exists _,_,(Zi (Zy (Zd5 (Zo (P6 (K:=K) rfl) (by rfl) T.b_isinstance PyProof.Rows.boot_isinstance (Za (pv 0) (Za (Si (v:=.ty "int") rfl T.b_int PyProof.Rows.boot_int rfl) Zc))) (Zd3 (Zl5 (Zo (P6 (K:=K) rfl) (by rfl) T.b_isinstance PyProof.Rows.boot_isinstance (Za (pv 0) (Za (Si (v:=.ty "bool") rfl T.b_bool PyProof.Rows.boot_bool rfl) Zc)))))))),fun _=>(Yk (Zdf (s_cb (Zdd (T:=.int)) (Zb (Zd 0) (Zb s_ty Zm))) (Zlk (s_cb (Zdd (T:=.bool)) (Zb (Zd 0) (Zb s_ty Zm)))))),fun ds M Kk hM hD h=>?_;obtain ⟨i,rfl,h⟩:=h;exists ·,_,·,rfl,·,iteT ⟨_,rfl,_,_,rfl,rfl,_,rfl,.inl h⟩
def Zbk:Sp3:=fun ds M K=>∃ (x y:D) (a b:List Int),ds=[.lst [x,y],.lst [x,y]]/\(lsOf M x=some (a.map .int)/\lsOf M y=some (b.map .int))/\(a.length<=1000/\b.length<=1000)/\K (.bl true) M
theorem Jah (T:Txt mg) {C:Addr} (Vy:Cal P w K mg base "_law_whole" 1 ["_law_one_here"] (spOf ⟨C,K⟩ Zie)) {f:Addr} (F:Fun K "_law_texts" "_law_texts" Ds f fd):FnOk P w K mg base CX0 2 f fd ["_law_told", "_law_due"] (spOf ⟨C,K⟩ Zbk):=by
 refine L3.Fun.ok3 F Dx (fun ds M K3 h=>?_) (fun cdv A outer s H E hr=>?_)
 ·obtain ⟨x,y,a,b,rfl,_⟩:=h;rfl
 ·have SC:=Dx;have hu:=hr.units;have hu1:=X7 hr;have Qe:Room 1 _:=hr.mono nofun;refine ⟨_,_,(Zf (Y7 (PW.pt (Rt (Tu (Tt (Zo (P6 (K:=K) rfl) (by rfl) T.b_isinstance PyProof.Rows.boot_isinstance (Za (pv 0) (Za (Si (v:=.ty "list") rfl T.b_list PyProof.Rows.boot_list rfl) Zc))))) (Ra (Zw (Uo (K':=K) rfl hu) (Zo (Yd (K:=K) rfl) (by rfl) T.b_len Dl (Za (pv 0) Zc)) (Zo (Yd (K:=K) rfl) (by rfl) T.b_len Dl (Za (pv 1) Zc)) (Z6 _)))))
 (Zi (Zy W6))
 Z0)
 (Zf (Xl PassesOwn.never rfl (Zl2 rfl T.b_zip (Za (pv 0) (Za (pv 1) Zc))) (Vl (n:=2) rfl (Ya (Zr (i:=2) SC.nd rfl (Or.inl rfl)) (Ya (Zr (i:=3) SC.nd rfl (Or.inl rfl)) Wj)) (by rfl))
 (Zi (Y7 (PW.pt (Rt (Tu (Tt (Zo (P6 (K:=K) rfl) (by rfl) T.b_isinstance PyProof.Rows.boot_isinstance (Za (pv 2) (Za (Si (v:=.ty "list") rfl T.b_list PyProof.Rows.boot_list rfl) Zc))))) (Rt (Zw (Uo (K':=K) rfl hu) (pv 2) (pv 3) (Z6 _)) (Ra (Tu (Tt (Zo (Zio (K:=K) rfl rfl) (by rfl) T.b_all PyProof.Rows.boot_all (Za (Y9 (T:=["_law_sign"]) (cs:=[]) rfl (CScope.ok (by kernel_rfl)) (Ye (pv 2)) (fun _ _ _ _=>(Zr (i:=0) (Xn (by kernel_rfl)) rfl (Or.inl rfl) (Or.inr rfl))) (fun _ _ _ _=>Y6) (fun _ _ _ _=>(Zq Vy Qe rfl (Za (pv 0) Zc))) (Y2 nofun)) Zc))))))))
 (Zi (Zy W6))
 Z0)))
 (Zi (Zy W6)))),fun _=>(Zv (Xi (s_or (Q5 (s_b (s_cb (Zdd (T:=.list)) (Zb (Zd 0) (Zb s_ty Zm))))) (Yb (s_op s_ne (s_cb Xh (Zb (Zd 0) Zm)) (s_cb Xh (Zb (Zd 1) Zm)))))
 (Yk s_bl)
 Yf)
 (Zv (W4 (s_iz (Zb (Zd 0) (Zb (Zd 1) Zm))) (Vh (Yl (s_g 2) (Yl (s_g 3) Vi)))
 (Xi (s_or (Q5 (s_b (s_cb (Zdd (T:=.list)) (Zb (Zd 2) (Zb s_ty Zm))))) (s_or (Yb (s_op s_ne (Zd 2) (Zd 3))) (Q5 (s_b (s_cb Zls (Zb (X0 (s_il (Zd 2)) (s_g 0) Wy (Zu (Zb (Zd 0) Zm))) Zm))))))
 (Yk s_bl)
 Yf))
 (Yk s_bl))),fun ds M Kk hM hD h=>?_⟩
  obtain ⟨x,y,a,b,rfl,h⟩:=h;obtain ⟨⟨e1,e2⟩,⟨la,lb⟩,k⟩:=h;have hxy:∀ i:Nat,i<2->∃ (z:D) (t:List Int),[x,y][i]?=some z/\lsOf M z=some (t.map .int)/\t.length<=1000:=fun i hi=>by
   match i,hi with
   | 0,_=>exact ⟨x,a,rfl,e1,la⟩
   | 1,_=>exact ⟨y,b,rfl,e2,lb⟩
  exists ·,_,·,rfl,·,iteF ?_;exists ·,·,·,·,Wv Yc (a:=_) (b:=_) ⟨_,rfl,?_⟩;rw [Dg rfl];refine iteF ?_;exists ·,·,_,_,_,·,rfl,rfl,fun i ρ' M'=>∃ v2 v3:Option D,ρ'=[some (.lst [x,y]),some (.lst [x,y]),v2,v3]/\M=M',fun _ _ _ _ _=>⟨rfl,rfl⟩,⟨_,_,rfl,rfl⟩,?_,?_
  ·rintro i _ ρ' _ hi ⟨p,q,ep,eq,rfl⟩ ⟨v2,v3,rfl,rfl⟩;have hi2:i<2:=(Jh.mp ep).1;obtain ⟨z,t,ez,lz,lt⟩:=hxy i hi2;rw [ez] at ep eq;cases ep;cases eq;obtain ⟨t1,l1,_⟩:=Ny lz;exists ·,rfl,_,·,_,·,rfl,?_;exists ·,_,·,t1,·,iteF ?_;exists ·,·,Vt Yc (a:=t) (b:=t) l1 l1 ⟨_,rfl,?_⟩;rw [Dg rfl];refine iteF ?_;exists ·,_,l1,?_,fun i ys M'=>M=M'/\ys=(List.replicate i true).map D.bl,fun _ _ _ _ h=>by rw [<- h.1]; exact l1,⟨rfl,rfl⟩,?_,?_
   ·show (t.map D.int).length<=sizeLine;rw [Ja];exact Zh (by lia)
   ·rintro j u ys _ hj hx ⟨rfl,rfl⟩;obtain ⟨hj',rfl⟩:=T7 hx;exists ·,t[j],rfl,rfl,?_;rw [List.replicate_succ',Jm];rfl
   ·rintro ys _ ⟨rfl,rfl⟩;exists _,·,rfl,·,?_;rw [show (List.replicate _ true).all id=true from Bj.mpr fun x hx=>by rw [(List.mem_replicate.mp hx).2]; rfl];exact iteF (.inl ⟨_,_,rfl,rfl⟩)
  ·rintro ρ' _ ⟨v2,v3,rfl,rfl⟩;exact .inl k
theorem Zei:∀ a b:List Int,L2.LxP (a.map PyData.int) (b.map PyData.int) (HT.lexLt a b)
 | [],[]=>.nn
 | [],_::_=>.nc _ _
 | _::_,[]=>.cn _ _
 | a::as,b::bs=>by
  have:=L2.LxP.cc (.int a b) (Zei as bs);rw [HT.lexLt_cons];have e:PyData.eqv (.int a) (.int b)=decide (a=b):=Yc.eq a b;rw [e] at this;simp only [decide_eq_true_eq] at this;exact this
theorem Zdl {t:List Int} (h:Rdg L r t):∀ s∈t,s∈L.map (·.1):=by
 induction h with
 | nil=>exact fun _ h=>nomatch h
 | cons hp _ ih =>
  intro s hs;rcases Ju.mp hs with z | z
  ·rw [z]; exact G4 hp
  ·exact ih s z
theorem Zdk (nd:(L.map (·.1)).Nodup) {r' t:List Int} (h:Rdg L r t) (h':Rdg L r' t):r=r':=by
 induction h generalizing r' with
 | nil=>cases h'; rfl
 | @cons p r t hp _ ih =>
  generalize ht:p.1::t=u at h';cases h' with
  | nil=>cases ht
  | @cons q r' t' hq h' =>
   have e1:=(List.cons.inj ht).1;have e2:=(List.cons.inj ht).2;have e:p=q:=by
    obtain ⟨i,hi,rfl⟩:=Gd hp;obtain ⟨j,hj,rfl⟩:=Gd hq;have:=(Bh (i:=i) (j:=j) (h₀:=by rw [Ja]; exact hi) (h₁:=by rw [Ja]; exact hj) nd).mp (by rw [Gk,Gk,e1]);subst this; rfl
   subst e;rw [ih (e2 ▸ h')]
def Zfe:Sp3:=fun ds M K=>∃ (L:List Pr) (i j:Nat) (a b ρ:List Int),ds=[.lst (L.map pD),.tup [.cell i,.cell j]]/\(Tf L/\M[i]?=some (tx a)/\M[j]?=some (tx b))/\(a≠b/\HT.lexLt a b=true/\Rdg L ρ a/\Rdg L ρ b/\a.length<=100/\b.length<=100)/\K (.bl true) M
theorem Jbp (T:Txt mg) {C:Addr} (Vz:Cal P w K mg base "_law_texts" 2 ["_law_told", "_law_due"] (spOf ⟨C,K⟩ Zbk)) (Xz:Cal P w K mg base "_law_written" 1 ["_law_table", "_law_text"] (spOf ⟨C,K⟩ Zbj)) (Yx:Cal P w K mg base "reading_count" 3 ["table", "row"] (spOf ⟨C,K⟩ Qj)) (Xd:Cal P w K mg base "_law_count" 1 ["_law_table", "_law_row"] (spOf ⟨C,K⟩ Zfk)) {f:Addr} (F:Fun K "_law_pair" "_law_pair" Jbq f fd):FnOk P w K mg base CX0 4 f fd ["_law_table", "_law_told"] (spOf ⟨C,K⟩ Zfe):=by
 refine L3.Fun.ok3 F D0 (fun ds M K3 h=>?_) (fun cdv A outer s H E hr=>?_)
 ·obtain ⟨L,i,j,a,b,ρ,rfl,_⟩:=h;rfl
 ·have SC:=D0;have hu:=hr.units;have hu1:=X7 hr;have Qf:Room 2 _:=hr.mono nofun;have Vq:Room 1 _:=hr.mono nofun;have X9:Room 3 _:=hr.mono nofun;have Wf:Room 1 _:=hr.mono nofun;refine ⟨_,_,(Zf (Y7 (PW.pt (Rt (Tu (Tt (Zo (P6 (K:=K) rfl) (by rfl) T.b_isinstance PyProof.Rows.boot_isinstance (Za (pv 1) (Za (Si (v:=.ty "tuple") rfl T.b_tuple PyProof.Rows.boot_tuple rfl) Zc))))) (Rt (Zw (Uo (K':=K) rfl hu) (Zo (Yd (K:=K) rfl) (by rfl) T.b_len Dl (Za (pv 1) Zc)) Zg (Z6 _)) (Ra (Tu (Tt (Zq Vz Qf rfl (Za (Xa (Ug (K:=K) rfl) (by rfl) T.b_list PyProof.Rows.boot_list (Za (pv 1) Zc)) (Za (Xa (Ug (K:=K) rfl) (by rfl) T.b_list PyProof.Rows.boot_list (Za (pv 1) Zc)) Zc)))))))))
 (Zi (Zy W6))
 Z0)
 (Zf (Zs (i:=2) SC.nd rfl (Or.inr rfl) (Y9 (T:=["_law_sign", "_law_word"]) (cs:=[]) rfl (CScope.ok (by kernel_rfl)) (Ye (pv 0)) (fun _ _ _ _=>(Vl (n:=2) rfl (Ya (Zr (i:=0) (Xn (by kernel_rfl)) rfl (Or.inl rfl) (Or.inr rfl)) (Ya (Zr (i:=1) (Xn (by kernel_rfl)) rfl (Or.inl rfl) (Or.inr rfl)) Wj)) (by rfl))) (fun _ _ _ _=>Y6) (fun _ _ _ _=>(pv 0)) (Pu (Xy nofun (Xy nofun Sx)))))
 (Zf (Xl PassesOwn.never rfl (Zl3 (pv 1)) (Zr (i:=3) SC.nd rfl (Or.inl rfl))
 (Zi (Y7 (Zw (Uo (K':=K) rfl hu) (Y9 (T:=["_law_sign"]) (cs:=[2]) rfl (CScope.ok (by kernel_rfl)) (Ye (pv 3)) (fun _ _ _ _=>(Zr (i:=0) (Xn (by kernel_rfl)) rfl (Or.inl rfl) (Or.inr rfl))) (fun _ _ _ _=>(Tg (Zw (Um (K':=K) rfl hu) (pv 0) (pv 1) rfl))) (fun _ _ _ _=>(pv 0)) (Y2 nofun)) (Y0 Zc) (Z6 _))
 (Zi (Zy W6))
 Z0)))
 (Zf (Zs (i:=4) SC.nd rfl (Or.inl rfl) (Zq Xz Vq rfl (Za (pv 0) (Za (Z8 (Ym (K':=K) rfl) (pv 1) Zg (fun _ _=>rfl)) Zc))))
 (Zf (Y7 (PW.pt (Rt (Tu (Zw (Zku (K':=K) rfl (Ni hr)) (Z8 (Ym (K':=K) rfl) (pv 1) Zg (fun _ _=>rfl)) (Z8 (Ym (K':=K) rfl) (pv 1) Zg (fun _ _=>rfl)) (Z6 _))) (Ra (Zw (Uo (K':=K) rfl hu) (Zq Xz Vq rfl (Za (pv 0) (Za (Z8 (Ym (K':=K) rfl) (pv 1) Zg (fun _ _=>rfl)) Zc))) (pv 4) (Z6 _)))))
 (Zi (Zy W6))
 Z0)
 (Zi (Zy (Zd5 (Ti (T9 (K':=K) rfl hu) (Zq Yx X9 rfl (Za (pv 0) (Za (pv 4) Zc))) (Zq Xd Wf rfl (Za (pv 0) (Za (pv 4) Zc))) (Z6 _)) (Zd3 (Ti Zmc (Zq Xd Wf rfl (Za (pv 0) (Za (pv 4) Zc))) Zg (Z6 _))))))))))),fun _=>(Zv (Xi (s_or (Q5 (s_b (s_cb (Zdd (T:=.tuple)) (Zb (Zd 1) (Zb s_ty Zm))))) (s_or (Yb (s_op s_ne (s_cb Xh (Zb (Zd 1) Zm)) Zt)) (Q5 (s_b (Zu (Zb (s_cb Sd (Zb (Zd 1) Zm)) (Zb (s_cb Sd (Zb (Zd 1) Zm)) Zm)))))))
 (Yk s_bl)
 Yf)
 (Zv (Z9 (X0 (s_il (Zd 0)) (Vh (Yl (s_g 0) (Yl (s_g 1) Vi))) Wy (Zd 0)) (s_g 2))
 (Zv (W4 (s_it (Zd 1)) (s_g 3)
 (Xi (Yb (s_op s_ne (X0 (s_il (Zd 3)) (s_g 0) (Yb (s_op T5 (Zd 0) (Zd 1))) (Zd 0)) (V8 Zm)))
 (Yk s_bl)
 Yf))
 (Zv (Z9 (Zu (Zb (Zd 0) (Zb (s_op s_ix (Zd 1) Zt) Zm))) (s_g 4))
 (Zv (Xi (s_or (Q5 (Yb (s_op Zoe (s_op s_ix (Zd 1) Zt) (s_op s_ix (Zd 1) Zt)))) (Yb (s_op s_ne (Zu (Zb (Zd 0) (Zb (s_op s_ix (Zd 1) Zt) Zm))) (Zd 4))))
 (Yk s_bl)
 Yf)
 (Yk (Zdf (s_op s_eq (Zu (Zb (Zd 0) (Zb (Zd 4) Zm))) (Zu (Zb (Zd 0) (Zb (Zd 4) Zm)))) (s_op s_ge (Zu (Zb (Zd 0) (Zb (Zd 4) Zm))) Zt)))))))),fun ds M Kk hM hD h=>?_⟩
  obtain ⟨L,i,j,a,b,ρ,rfl,h⟩:=h;obtain ⟨⟨tf,ga,gb⟩,⟨ab,lab,ra,rb',la,lb⟩,k⟩:=h;have g1:lsOf M (.cell i)=some (a.map .int):=Tw ga;have g2:lsOf M (.cell j)=some (b.map .int):=Tw gb;have l1:=(Ny g1).2.1;have l2:=(Ny g2).2.1;have lok:LOk L:=⟨tf.len,tf.nd,tf.w⟩;have tb:Tb L:=⟨tf.len,fun w hw=>tf.words.2 w hw⟩;have hsa:=Zdl ra;have hsb:=Zdl rb';exists ·,_,·,rfl,·,iteF ?_;exists ·,·,Wv Yc (a:=(2:Int)) (b:=2) ⟨_,rfl,?_⟩;rw [Dg rfl];refine iteF ?_;exists ·,_,·,rfl,·,_,·,rfl,_,_,a,b,rfl,⟨g1,g2⟩,⟨by lia,by lia⟩,·,iteF ?_;exists ·,·,?_,fun i ys M'=>M=M'/\ys=(L.take i).map fun p=>D.int p.1,fun _ _ _ _ _=>rfl,⟨rfl,rfl⟩,?_,?_
  ·show (L.map pD).length<=sizeLine;rw [Ja];have:=tf.len;exact Zh (by lia)
  ·rintro i x ys _ hi hx ⟨rfl,rfl⟩;obtain ⟨hi',rfl⟩:=Yh hx;exists ·,rfl,_,·,_,·,rfl,·,rfl,?_;rw [Jk hi',Jm];rfl
  rintro ys _ ⟨rfl,rfl⟩;have e:((L.take (L.map pD).length).map fun p=>D.int p.1)=(L.map (·.1)).map D.int:=by rw [Ja,J9,Gn]; rfl
  rw [show List.map (fun p=>D.int p.1) (List.take _ L)=(L.map (·.1)).map D.int from e];refine g_nx ?_;have hxy:∀ n:Nat,n<2->∃ (z:D) (t:List Int),[D.cell i,D.cell j][n]?=some z/\Z3 M z=some (t.map .int)/\t.length<=100/\∀ s∈t,s∈L.map (·.1):=fun n hn=>by
   match n,hn with
   | 0,_=>exact ⟨_,a,rfl,l1,la,hsa⟩
   | 1,_=>exact ⟨_,b,rfl,l2,lb,hsb⟩
  exists ·,·,fun n ρ' M'=>∃ v3:Option D,ρ'=[some (.lst (L.map pD)),some (.tup [.cell i,.cell j]),some (.lst ((L.map (·.1)).map .int)),v3,none]/\M=M',fun _ _ _ _ _=>trivial,⟨_,rfl,rfl⟩,?_,?_
  ·rintro n x ρ' _ hn hx ⟨v3,rfl,rfl⟩;have hn2:n<2:=(Jh.mp hx).1;obtain ⟨z,t,ez,lz,lt,hst⟩:=hxy n hn2;have hx:[D.cell i,D.cell j][n]?=some x:=hx;rw [ez] at hx;cases hx;refine g_nx ?_;exists ·,_,lz,?_,fun i ys M'=>M=M'/\ys=[],fun _ _ _ _ h=>by rw [<- h.1]; exact lz,⟨rfl,rfl⟩,?_,?_
   ·show (t.map D.int).length<=sizeLine;rw [Ja];exact Zh (by lia)
   ·rintro m u ys _ hm hu ⟨rfl,rfl⟩;obtain ⟨hm',rfl⟩:=T7 hu;exists ·,·,Ux Yc (xs:=L.map (·.1)) (t:=t[m]) (Yc.ok _ _) rfl fun c hc=>⟨_,rfl,?_⟩;rw [show c=true from hc.mpr (hst _ (Ge hm'))];exact iteF ⟨rfl,rfl⟩
   ·rintro ys _ ⟨rfl,rfl⟩;exists Jv _,Vt Yc (a:=[]) (b:=[]) rfl rfl ⟨_,rfl,?_⟩;rw [Dg rfl];exact iteF (.inl ⟨_,rfl,rfl⟩)
  rintro ρ' _ ⟨v3,rfl,rfl⟩;exists ·,·,_,_,·,rfl,rfl,_,L,a,rfl,l1,⟨lok,la,hsa⟩,fun r1 h1 ln1=>?_;have e1:=Zdk tf.nd h1 ra;subst e1;exists ·,_,_,·,rfl,rfl,·,_,_,·,rfl,rfl,.list (a.map .int),.list (b.map .int),true,.seq l1 (W5 (Yc.ok _) a),.seq l2 (W5 (Yc.ok _) b),.lst (by rw [<- lab]; exact Zei a b),((Ty Yc).shp a).shaped nofun,((Ty Yc).shp b).shaped nofun,·,iteF ?_;exists ·,·,_,_,·,rfl,rfl,_,L,b,rfl,l2,⟨lok,lb,hsb⟩,fun r2 h2 ln2=>?_;have e2:=Zdk tf.nd h2 rb';subst e2;exists ·,Vt Yc (a:=r2) (b:=r2) rfl rfl ⟨_,rfl,?_⟩;rw [Dg rfl]
  refine iteF ?_;obtain ⟨us,ndu,mu,lu⟩:=Zbs (ns:=r2) (fun p hp=>(tf.w p hp).1) tf.nd;have two:2<=us.length:=by
   have:=Zee (zs:=[a,b]) (us:=us) (by simp [ab]) fun z hz=>by
    rcases Ju.mp hz with y | hz
    ·rw [y]; exact (mu a).mpr ra
    ·rw [Je.mp hz]; exact (mu b).mpr rb'
   exact this
  exists ·,·,_,_,L,r2,rfl,rfl,rfl,⟨by lia,tb⟩,·,·,L,r2,rfl,⟨by lia,tb⟩,Wv Yc (a:=_) (b:=_) ⟨_,rfl,?_⟩;rw [Dg rfl];refine iteT ⟨_,rfl,_,rfl,L,r2,rfl,⟨by lia,tb⟩,_,_,rfl,rfl,?_⟩;show Dk M.length Kk (.bl (decide ((2:Int)<=N9 L r2))) M;rw [Dg (by lia)];exact .inl k
open L3
def Zkm {n:Nat} {p:Pr}:Yp n (pD p):=S0 fun d hd=>by
 rcases Ju.mp hd with z | hd
 ·rw [z]; exact Vv
 ·rw [Je.mp hd]; exact Zac
def W2 (bs:List Int) (ws:List (List Int)):Prop:=∀ w∈ws,(w≠[]/\w.length<=2)/\∀ b∈w,b∈bs
def W2.snoc {bs:List Int} (h:W2 bs ws) {w:List Int} (h1:(w≠[]/\w.length<=2)/\∀ b∈w,b∈bs):W2 bs (ws++[w]):=fun x hx=>by
 rcases Jn.mp hx with hx | hx
 ·exact h x hx
 ·rw [Je.mp hx]; exact h1
def Zid:Sp3:=fun ds M K=>∃ (k:Nat),ds=[.cell k]/\(M[k]?=some .hand)/\∀ L:List Pr,Tf L->K (.lst (L.map pD)) M
theorem Du (T:Txt mg) {C:Addr} (Zl:Cal P w K mg base "_law_draw" 1 ["_law_hand", "_law_many"] (spOf ⟨C,K⟩ Zb6)) (X4:Cal P w K mg base "_law_signs" 2 ["_law_hand", "_law_many"] (spOf ⟨C,K⟩ Zfa)) {f:Addr} (F:Fun K "_law_wide" "_law_wide" Jbv f fd):FnOk P w K mg base CX0 3 f fd ["_law_hand"] (spOf ⟨C,K⟩ Zid):=by
 refine L3.Fun.ok3 F Jbo (fun ds M K3 h=>?_) (fun cdv A outer s H E hr=>?_)
 ·obtain ⟨hd,rfl,_⟩:=h;rfl
 ·have SC:=Jbo;have hu:=hr.units;have hu1:=X7 hr;have Zj:Room 1 _:=hr.mono nofun;have W7:Room 2 _:=hr.mono nofun;refine ⟨_,_,(Zf (Zs (i:=1) SC.nd rfl (Or.inr rfl) (Zq Zl Zj rfl (Za (pv 0) (Za Zg Zc))))
 (Zf (Ub (i:=2) SC.nd rfl rfl (T:=["_law_k"]) (cs:=[1]) rfl (CScope.ok (by kernel_rfl)) (Yn rfl T.b_range (Za Zg Zc)) (fun _ _ _ _=>(Zr (i:=0) (Xn (by kernel_rfl)) rfl (Or.inl rfl) (Or.inr rfl))) (fun _ _ _ _=>Y6) (fun _ _ _ _=>(Zx Xm (Zx (Yz (K':=K) rfl) (pv 1) (Zx Zcm Zg (pv 0))) Zg)) (Y2 nofun))
 (Zf (Zs (i:=3) SC.nd rfl (Or.inr rfl) (Y9 (T:=["_law_one_here"]) (cs:=[]) rfl (CScope.ok (by kernel_rfl)) (Ye (pv 2)) (fun _ _ _ _=>(Zr (i:=0) (Xn (by kernel_rfl)) rfl (Or.inl rfl) (Or.inr rfl))) (fun _ _ _ _=>Y6) (fun _ _ _ _=>(X2 (Za (pv 0) Zc))) (Y2 nofun)))
 (Zf (Xl PassesOwn.never rfl (Yn rfl T.b_range (Za Zg Zc)) (Zr (i:=4) SC.nd rfl (Or.inl rfl))
 (Zi (Vk (Nu PySem.F.plainAttrs_list PySem.F.slot_list_append PySem.F.type_list_append Uy (pv 3) (Za (X2 (Za (Z8 (Ym (K':=K) rfl) (pv 2) (Zq Zl Zj rfl (Za (pv 0) (Za Zg Zc))) (fun _ _=>rfl)) (Za (Z8 (Ym (K':=K) rfl) (pv 2) (Zq Zl Zj rfl (Za (pv 0) (Za Zg Zc))) (fun _ _=>rfl)) Zc))) Zc)))))
 (Zf (Zs (i:=5) SC.nd rfl (Or.inr rfl) (Zq X4 W7 rfl (Za (pv 0) (Za Zg Zc))))
 (Zi (Zy (Y9 (T:=["_law_k"]) (cs:=[5,3]) rfl (CScope.ok (by kernel_rfl)) (Yn rfl T.b_range (Za Zg Zc)) (fun _ _ _ _=>(Zr (i:=0) (Xn (by kernel_rfl)) rfl (Or.inl rfl) (Or.inr rfl))) (fun _ _ _ _=>Y6) (fun _ _ _ _=>(X2 (Za (Z8 (Ym (K':=K) rfl) (pv 1) (pv 0) (fun _ _=>rfl)) (Za (Z8 (Ym (K':=K) rfl) (pv 2) (pv 0) (fun _ _=>rfl)) Zc)))) (Y2 nofun))))))))),fun _=>(Zv (Z9 (Zu (Zb (Zd 0) (Zb Zt Zm))) (s_g 1))
 (Zv (Z9 (X0 (Se (Zb Zt Zm)) (s_g 0) Wy (s_op Np (s_op Wi (Zd 1) (s_op Zlm Zt (Zd 0))) Zt)) (s_g 2))
 (Zv (Z9 (Zje (s_il (Zd 2)) (s_g 0) Wy (Ua (Zb (Zd 0) Zm))) (s_g 3))
 (Zv (W4 (Se (Zb Zt Zm)) (s_g 4)
 (Ts (T6 (Zd 3) (Zb (Ua (Zb (s_op s_ix (Zd 2) (Zu (Zb (Zd 0) (Zb Zt Zm)))) (Zb (s_op s_ix (Zd 2) (Zu (Zb (Zd 0) (Zb Zt Zm)))) Zm))) Zm))))
 (Zv (Z9 (Zu (Zb (Zd 0) (Zb Zt Zm))) (s_g 5))
 (Yk (X0 (Se (Zb Zt Zm)) (s_g 0) Wy (Ua (Zb (s_op s_ix (Zd 1) (Zd 0)) (Zb (s_op s_ix (Zd 2) (Zd 0)) Zm)))))))))),fun ds M Kk hM hD h=>?_⟩
  obtain ⟨hd,rfl,h⟩:=h;obtain ⟨hh,k⟩:=h;exists ·,hd,256,rfl,hh,⟨nofun,nofun⟩,fun b b0 b1=>?_;exists 20,rfl,⟨nofun,nofun⟩,nofun,fun i ys M'=>M=M'/\∃ bs:List Int,ys=bs.map .int/\bs.length=i,fun _ _ _ _ _=>trivial,⟨rfl,[],rfl,rfl⟩,?_,?_
  ·rintro i x ys _ hi rfl ⟨rfl,bs,rfl,rfl⟩;exact ⟨_,rfl,_,rfl,.inl ⟨nofun,nofun⟩,_,_,rfl,rfl,(show (0:Int)<256 by decide),rfl,bs++[_],by rw [Jm]; rfl,by rw [Jc]; rfl⟩
  rintro ys _ ⟨rfl,bs,rfl,lb⟩;have lb:bs.length=20:=lb;exists ·,·,?_,fun i ys M'=>M=M'/\ys=(bs.take i).map fun b=>wD [b],fun _ _ _ _ _=>rfl,⟨rfl,rfl⟩,?_,?_
  ·show (bs.map D.int).length<=sizeLine;rw [Ja];exact Zh (by lia)
  ·rintro i x ys _ hi hx ⟨rfl,rfl⟩;obtain ⟨hi',rfl⟩:=T7 hx;exists ·,(show 1<=sizeLine by decide),rfl,?_;rw [Jk hi',Jm];rfl
  rintro ys _ ⟨rfl,rfl⟩;obtain ⟨ws,ew,lw,hw⟩:∃ ws:List (List Int),((bs.take (bs.map D.int).length).map fun b=>wD [b])=ws.map wD/\ws.length=20/\W2 bs ws:=by
   exists bs.map fun b=>[b],?_,by rw [Ja]; exact lb,fun w h=>?_
   ·rw [Ja,J9,Gn]; rfl
   ·obtain ⟨b,hb,rfl⟩:=Jp.mp h;exact ⟨⟨List.cons_ne_nil _ _,(show 1<=2 by decide)⟩,fun c hc=>by rw [Je.mp hc]; exact hb⟩
  rw [show List.map (fun b=>wD [b]) (List.take _ bs)=ws.map wD from ew];exists 4,rfl,⟨nofun,nofun⟩,fun j ρ M'=>∃ (ws:List (List Int)) (v4 v5:Option D),ρ=[some (.cell hd),some (.int b),some (.lst (bs.map .int)),some (.cell M.length),v4,v5]/\M'=M++[.lst (ws.map wD)]/\ws.length=20+j/\W2 bs ws,fun _ _ _ _ _=>trivial,⟨ws,_,_,rfl,rfl,lw,hw⟩,?_,?_
  ·rintro j x ρ M' hj rfl ⟨ws,v4,v5,rfl,rfl,lw,hw⟩;have hj:j<4:=hj;exists ·,Uc Sn,·,·,hd,20,rfl,Wz hh,⟨nofun,nofun⟩,fun y y0 y1=>?_;exists _,_,·,rfl,W8 (as:=bs) (j:=y.toNat) (by lia) (by lia),?_;exists ·,·,hd,20,rfl,Wz hh,⟨nofun,nofun⟩,fun z z0 z1=>?_;exists _,_,·,rfl,W8 (as:=bs) (j:=z.toNat) (by lia) (by lia),(show 2<=sizeLine by decide),M.length,_,·,rfl,Xq,?_,?_
   ·rw [Ja];exact Fd (by lia:_<=1000) nofun
   rw [W3];exact .inl ⟨ws++[[bs[y.toNat]'(by lia),bs[z.toNat]'(by lia)]],_,_,rfl,by rw [Jm]; rfl,by rw [Jc,lw]; rfl,hw.snoc ⟨⟨List.cons_ne_nil _ _,(show 2<=2 by decide)⟩,fun c hc=>by rcases Ju.mp hc with z | z; rw [z]; exact Ge _; rw [Je.mp z]; exact Ge _⟩⟩
  rintro ρ M' ⟨ws,v4,v5,rfl,rfl,lw,hw⟩;have lw:ws.length=24:=lw;exists ·,hd,24,rfl,Wz hh,⟨nofun,nofun⟩,fun ss nds ls=>?_;have ls:ss.length=24:=by lia
  have lz:(ss.zip ws).length=24:=by rw [List.length_zip]; lia
  have az:∀ j (h1:j<ss.length) (h2:j<ws.length),(ss.zip ws)[j]?=some (ss[j],ws[j]):=fun j h1 h2=>by rw [Jb (by lia),List.getElem_zip]
  have e2:(ss.zip ws).map (·.2)=ws:=List.map_snd_zip (by lia);have k':=k (ss.zip ws) ⟨by lia,fun p hp=>by
   have:=hw p.2 (by rw [<- e2]; exact G4 hp);exact ⟨this.1.1,by have:=this.1.2; lia⟩,by rw [List.map_fst_zip (by lia)]; exact nds,by rw [e2]; exact Zkb hw (by lia)⟩
  generalize ss.zip ws=L at lz az k';exists 24,rfl,⟨nofun,nofun⟩,nofun,fun i ys M'=>M++[.lst (ws.map wD)]=M'/\ys=(L.take i).map pD,fun _ _ _ _ _=>trivial,⟨rfl,rfl⟩,?_,?_
  ·rintro i x ys _ hi rfl ⟨rfl,rfl⟩;have hi:i<24:=hi;exists ·,·,_,_,·,rfl,W8 (as:=ss) (j:=i) (by lia) (by lia),·,·,_,_,_,Xx,rfl,W8 (f:=wD) (as:=ws) (j:=i) (by lia) (by lia),(show 2<=sizeLine by decide),rfl,?_;have ea:=az i (by lia) (by lia);rw [Jb (by lia)] at ea;rw [Jk (by lia),Jm,Di ea];rfl
  ·rintro ys _ ⟨rfl,rfl⟩;have eL:L.take (Zge 0 (24:Int).toNat).n=L:=by
    show L.take 24=L;rw [<- lz,J9]
   rw [eL];exact Ue pre1 hM (S1 (U4 (fun _=>Zkm) L)) k'
open L3
theorem Zoo (o:Ov (L.map (·.2)) r):∃ x,Pt L x/\x.2.1=r:=by
 have some_:∀ {x:St4} {p:Pr} {q:List Int},rb x.2.1 p.2=some q->∃ y,sw x p=some y/\y.2.1=q:=fun {x p q} e=>by
  unfold sw;rw [e];exists ·,?_;show (if _ then _ else _:St4).2.1=q
  split <;> rfl
 induction o with
 | @first i j a b r hij h1 h2 e =>
  rw [Js] at h1 h2;obtain ⟨p,hp,rfl⟩:=Option.map_eq_some_iff.mp h1;obtain ⟨q,hq,rfl⟩:=Option.map_eq_some_iff.mp h2;obtain ⟨y,ey,e2⟩:=some_ (x:=((q.2.length:Int),q.2,[q.1],[])) (p:=p) e;exists y,.first hij hp hq ey,e2
 | @more r w q _ ne hw e ih =>
  obtain ⟨x,px,ex⟩:=ih;obtain ⟨p,hp,rfl⟩:=Jp.mp hw;rw [<- ex] at e ne;obtain ⟨y,ey,e2⟩:=some_ e;exists y,.more px ne hp ey,e2
def Zkw (tf:Tf L) (ud:UD L):¬ Ov (L.map (·.2)) []:=fun o=>by
 obtain ⟨x,px,ex⟩:=Zoo o;obtain ⟨u,r1,r2,_,s,t,a,b,ea,eb,st⟩:=px.says tf.nd;rw [ex,Ga] at r1;have:=ud _ _ _ r1 r2;rw [ea,eb] at this;exact st (List.cons.inj this).1
def Zon (tf:Tf L) {ρ a b:List Int} (ra:Rdg L ρ a) (rb':Rdg L ρ b) (ab:a≠b):Ov (L.map (·.2)) []:=by
 obtain ⟨z,pz,ez,_⟩:=Zaj (b:=b) (fun p hp=>(tf.w p hp).1) ra rb' ab;rw [<- ez];exact pz.ov
theorem Zkx (tf:Tf L) (ud:UD L) (ns:List Int):N9 L ns<=1:=by
 obtain ⟨us,ndu,mu,lu⟩:=Zbs (ns:=ns) (fun p hp=>(tf.w p hp).1) tf.nd;have:us.length<=1:=by
  match us,ndu,mu with
  | [],_,_=>exact Jv _
  | [_],_,_=>exact Jf _
  | x::y::_,ndu,mu =>
   have:=ud _ _ _ ((mu x).mp Jl) ((mu y).mp (Jj _ Jl));rw [this] at ndu;exact absurd Jl (G7.mp ndu).1
 lia
def Zii:Sp3:=fun ds M K=>∃ (h:Nat) (L:List Pr),ds=[.cell h,.lst (L.map pD)]/\(M[h]?=some .hand/\Tf L)/\∀ M',K (.bl true) M'
theorem Jax (T:Txt mg) {C:Addr} (Ww:Cal P w K mg base "_law_closing" 2 ["_law_table"] (spOf ⟨C,K⟩ Zij)) (Wq:Cal P w K mg base "twofold" 5 ["table"] (spOf ⟨C,K⟩ Zkg)) (Xw:Cal P w K mg base "overhangs" 4 ["table"] (spOf ⟨C,K⟩ Zff)) (Wr:Cal P w K mg base "shows_one_way" 5 ["table", "some"] (spOf ⟨C,K⟩ Zfb)) (Vc:Cal P w K mg base "_law_pair" 4 ["_law_table", "_law_told"] (spOf ⟨C,K⟩ Zfe)) (Uj:Cal P w K mg base "_law_rows" 2 ["_law_hand", "_law_table", "_law_most"] (spOf ⟨C,K⟩ Zm7)) (Xd:Cal P w K mg base "_law_count" 1 ["_law_table", "_law_row"] (spOf ⟨C,K⟩ Zfk)) (Yx:Cal P w K mg base "reading_count" 3 ["table", "row"] (spOf ⟨C,K⟩ Qj)) {f:Addr} (F:Fun K "_law_one" "_law_one" Jan f fd):FnOk P w K mg base CX0 7 f fd ["_law_hand", "_law_table"] (spOf ⟨C,K⟩ Zii):=by
 refine L3.Fun.ok3 F D8 (fun ds M K3 h=>?_) (fun cdv A outer s H E hr=>?_)
 ·obtain ⟨hd,L,rfl,_⟩:=h;rfl
 ·have SC:=D8;have hu:=hr.units;have hu1:=X7 hr;have Sw:Room 2 _:=hr.mono nofun;have V4:Room 5 _:=hr.mono nofun;have Vp:Room 4 _:=hr.mono nofun;have T3:Room 5 _:=hr.mono nofun;have Tx:Room 4 _:=hr.mono nofun;have Po:Room 2 _:=hr.mono nofun;have Wf:Room 1 _:=hr.mono nofun;have X9:Room 3 _:=hr.mono nofun;refine ⟨_,_,(Zf (Zs (i:=2) SC.nd rfl (Or.inl rfl) (Xa (Ug (K:=K) rfl) (by rfl) T.b_list PyProof.Rows.boot_list (Za (pv 1) Zc)))
 (Zf (Zs (i:=3) SC.nd rfl (Or.inl rfl) (Zq Ww Sw rfl (Za (pv 1) Zc)))
 (Zf (Zs (i:=4) SC.nd rfl (Or.inl rfl) (Zq Wq V4 rfl (Za (pv 2) Zc)))
 (Zf (Zs (i:=5) SC.nd rfl (Or.inl rfl) (Zq Xw Vp rfl (Za (pv 2) Zc)))
 (Zf (Y7 (PW.pt (Rt (Zw (Uo (K':=K) rfl hu) (pv 2) (pv 1) (Z6 _)) (Rt (Zw (Uo (K':=K) rfl hu) (pv 5) (pv 3) (Z6 _)) (Ra (Zw (Uo (K':=K) rfl hu) (Zq Wr T3 rfl (Za (pv 2) (Za (pv 5) Zc))) (Ti (Um (K':=K) rfl hu) (X2 Zc) (pv 3) rfl) (Z6 _))))))
 (Zi (Zy W6))
 Z0)
 (Zf (Y7 (Zw (Zhl (K':=K) rfl hu) (X2 Zc) (pv 3) rfl)
 (Zf (Y7 (Tu (Tt (Zq Vc Tx rfl (Za (pv 1) (Za (pv 4) Zc)))))
 (Zi (Zy W6))
 Z0)
 (Zf (Vk (Zh3 PySem.F.plainAttrs_list PySem.F.slot_list_clear PySem.F.type_list_clear Zgv (Z8 (Ym (K':=K) rfl) (pv 4) Zg (fun _ _=>rfl))))
 (Zf (Vk (Nu PySem.F.plainAttrs_list PySem.F.slot_list_append PySem.F.type_list_append Uy (Z8 (Ym (K':=K) rfl) (pv 4) Zg (fun _ _=>rfl)) (Za Zg Zc)))
 (Zi (Zy (Zq Vc Tx rfl (Za (pv 1) (Za (Zq Wq V4 rfl (Za (pv 2) Zc)) Zc))))))))
 Z0)
 (Zf (Y7 (Sh (Rv (pv 4)))
 (Zi (Zy W6))
 Z0)
 (Zf (Xl PassesOwn.never rfl (Yn rfl T.b_range (Za Zg Zc)) (Zr (i:=6) SC.nd rfl (Or.inl rfl))
 (Zf (Zs (i:=7) SC.nd rfl (Or.inl rfl) (Zq Uj Po rfl (Za (pv 0) (Za (pv 1) (Za Zg Zc)))))
 (Zi (Y7 (PW.pt (Rt (Zw S2 (Zq Xd Wf rfl (Za (pv 1) (Za (pv 7) Zc))) Zg (Z6 _)) (Ra (Zw S2 (Zq Yx X9 rfl (Za (pv 1) (Za (pv 7) Zc))) Zg (Z6 _)))))
 (Zi (Zy W6))
 Z0))))
 (Zi (Zy W6)))))))))),fun _=>(Zv (Z9 (s_cb Sd (Zb (Zd 1) Zm)) (s_g 2))
 (Zv (Z9 (Zu (Zb (Zd 1) Zm)) (s_g 3))
 (Zv (Z9 (Zu (Zb (Zd 2) Zm)) (s_g 4))
 (Zv (Z9 (Zu (Zb (Zd 2) Zm)) (s_g 5))
 (Zv (Xi (s_or (Yb (s_op s_ne (Zd 2) (Zd 1))) (s_or (Yb (s_op s_ne (Zd 5) (Zd 3))) (Yb (s_op s_ne (Zu (Zb (Zd 2) (Zb (Zd 5) Zm))) (s_op T5 (Ua Zm) (Zd 3))))))
 (Yk s_bl)
 Yf)
 (Zv (Xi (Yb (s_op Zlq (Ua Zm) (Zd 3)))
 (Zv (Xi (Q5 (s_b (Zu (Zb (Zd 1) (Zb (Zd 4) Zm)))))
 (Yk s_bl)
 Yf)
 (Zv (Ts (Zjf (s_op s_ix (Zd 4) Zt)))
 (Zv (Ts (T6 (s_op s_ix (Zd 4) Zt) (Zb Zt Zm)))
 (Yk (Zu (Zb (Zd 1) (Zb (Zu (Zb (Zd 2) Zm)) Zm)))))))
 Yf)
 (Zv (Xi (s_b (Zaz (Zd 4)))
 (Yk s_bl)
 Yf)
 (Zv (W4 (Se (Zb Zt Zm)) (s_g 6)
 (Zv (Z9 (Zu (Zb (Zd 0) (Zb (Zd 1) (Zb Zt Zm)))) (s_g 7))
 (Xi (s_or (Yb (s_op s_gt (Zu (Zb (Zd 1) (Zb (Zd 7) Zm))) Zt)) (Yb (s_op s_gt (Zu (Zb (Zd 1) (Zb (Zd 7) Zm))) Zt)))
 (Yk s_bl)
 Yf)))
 (Yk s_bl))))))))),fun ds M Kk hM hD h=>?_⟩
  obtain ⟨hd,L,rfl,h⟩:=h;obtain ⟨⟨hh,tf⟩,k⟩:=h;have tb:Tb L:=⟨tf.len,fun w hw=>tf.words.2 w hw⟩;exists ·,_,·,rfl,?_;exists ·,L,rfl,tf,fun rs pw hrs=>?_;refine g_nx ?_;dsimp only;refine Q3 (fun d N=>N[hd]?=some .hand/\((d=.non/\UD L)\/∃ (a b ρ:List Int) (i j:Nat),d=.tup [.cell i,.cell j]/\(N[i]?=some (tx a)/\N[j]?=some (tx b)/\i≠j)/\a≠b/\HT.lexLt a b=true/\Rdg L ρ a/\Rdg L ρ b/\a.length<=100/\b.length<=100)) (fun Kq hq=>?_) ?_
  ·exists ·,L,rfl,tf,fun ud=>hq _ _ ⟨hh,.inl ⟨rfl,ud⟩⟩,fun a b ρ J i j ab lab ra rb' la lb ga gb ne _ _=>hq _ _ ⟨Vs hh,.inr ⟨a,b,ρ,i,j,rfl,⟨ga,gb,ne⟩,ab,lab,ra,rb',la,lb⟩⟩
  rintro d N ⟨hh,told⟩;refine g_nx ?_;exists ·,_,L,rfl,rfl,tf,fun rs' J pw' hrs'=>?_;have er:rs'=rs:=Zbc pw' pw fun r=>by rw [hrs',hrs]
  subst er;have up:∀ {k:Nat} {m:MO},N[k]?=some m->(N++J++[MO.lst (rs'.map wD)])[k]?=some m:=fun h=>Vs (Vs h);have hl:Z3 (N++J++[MO.lst (rs'.map wD)]) (.cell (N++J).length)=some (rs'.map wD):=Xx;generalize (N++J).length=pc at hl;generalize N++J++[MO.lst (rs'.map wD)]=N2 at up hl;refine g_nx ?_;exists ·,·,Vt Zm2 (a:=L) (b:=L) rfl rfl ⟨_,rfl,?_⟩;rw [Dg rfl];refine iteF ?_;exists ·,·,Vt (Xo Yc) (a:=rs') (b:=rs') hl rfl ⟨_,rfl,?_⟩;rw [Dg rfl];refine iteF ?_;exists ·,·,_,_,L,rs'.map iw,rfl,rfl,by rw [iws]; exact hl,tf,fun b hb=>?_;exists Jv _,·,Ux (Xo Yc) (xs:=rs') (t:=[]) ((Xo Yc).ok _ []) rfl fun c hc=>.inl ⟨_,rfl,_,rfl,?_⟩
  have ebc:b = !c:=by
   have h1:b=true↔[]∉rs':=by
    rw [hb];exists fun h z=>h.1 ((hrs []).mp z),fun h=>⟨fun z=>h ((hrs []).mpr z),fun r o=>Zjs.mpr ((hrs r).mpr o)⟩
   rw [<- hc] at h1;cases c with
   | true=>exact Bool.eq_false_iff.mpr fun h=>h1.mp h rfl
   | false=>exact h1.mpr fun z=>nomatch z
  rw [ebc,Dg rfl];refine iteF ?_;exists Jv _,·,Zh7 (Xo Yc) (xs:=rs') (t:=[]) ((Xo Yc).ok _ []) rfl fun c2 hc2=>⟨_,rfl,?_⟩;rcases told with ⟨rfl,ud⟩ | ⟨a,b',ρ,i,j,rfl,⟨ga,gb,ne⟩,ab,lab,ra,rb',la,lb⟩
  ·rw [show c2=false from Bool.eq_false_iff.mpr fun h=>Zkw tf ud ((hrs []).mp (hc2.mp h))];refine iteF ?_;exists ·,·,iteF ?_;exists 3,rfl,⟨nofun,nofun⟩,fun _ ρ' M'=>M'=N2/\∃ v6 v7:Option D,ρ'=[some (.cell hd),some (.lst (L.map pD)),some (.lst (L.map pD)),some (.lst (rs'.map wD)),some .non,some (.cell pc),v6,v7],fun _ _ _ _ _=>trivial,⟨rfl,_,_,rfl⟩,?_,?_
   ·rintro t x ρ' _ ht rfl ⟨rfl,v6,v7,rfl⟩;refine g_nx ?_;exists ·,·,hd,L,12,rfl,⟨up hh,tf.len,fun w hw=>tf.words.2 w hw,nofun,nofun⟩,fun ns ln=>?_;have cn:=Zkx tf ud ns;exists ·,·,L,ns,rfl,⟨by lia,tb⟩,_,·,rfl,·,?_;rw [Dh (by lia)];refine iteF ⟨_,rfl,_,rfl,_,_,L,ns,rfl,rfl,rfl,⟨by lia,tb⟩,_,_,rfl,rfl,_,rfl,?_⟩;rw [Dh (by lia)];exact iteF (.inl ⟨rfl,_,_,rfl⟩)
   ·rintro ρ' _ ⟨rfl,v6,v7,rfl⟩;exact .inl (k _)
  ·have oe:=Zon tf ra rb' ab;rw [show c2=true from hc2.mpr ((hrs []).mpr oe)];refine iteT ?_;exists ·,·,L,i,j,a,b',ρ,rfl,⟨tf,up ga,up gb⟩,⟨ab,lab,ra,rb',la,lb⟩,·,iteF ?_;have gb2:(N2.set i (.lst []))[j]?=some (tx b'):=by rw [Gx ne]; exact up gb
   exists ·,_,_,·,rfl,rfl,i,·,rfl,up ga,?_;exists ·,_,_,·,rfl,rfl,Uc (Tw gb2),j,_,·,rfl,gb2,?_,?_
   ·rw [Ja];exact Fd (by lia:_<=1000) nofun
   exists ·,·,L,rfl,tf,fun ud=>absurd oe (Zkw tf ud),fun a2 b2 ρ2 J2 i2 j2 ab2 lab2 ra2 rb2 la2 lb2 ga2 gb2 _ _ _=>?_;exists L,i2,j2,a2,b2,ρ2,rfl,⟨tf,ga2,gb2⟩,⟨ab2,lab2,ra2,rb2,la2,lb2⟩,.inl (k _)
open L3
abbrev spLaw (K:W.Frag):Sp:=Zhq K
theorem Jbb (T:Txt mg) {C:Addr} (Uk:Cal P w K mg base "_law_open" 1 ["_law_script", "_law_place"] (spOf ⟨C,K⟩ Zm8)) (Zl:Cal P w K mg base "_law_draw" 1 ["_law_hand", "_law_many"] (spOf ⟨C,K⟩ Zb6)) (V0:Cal P w K mg base "_law_loose" 3 ["_law_hand", "_law_most", "_law_longest"] (spOf ⟨C,K⟩ Zfg)) (Ui:Cal P w K mg base "_law_wide" 3 ["_law_hand"] (spOf ⟨C,K⟩ Zid)) (Wq:Cal P w K mg base "twofold" 5 ["table"] (spOf ⟨C,K⟩ Zkg)) (Tq:Cal P w K mg base "_law_one" 7 ["_law_hand", "_law_table"] (spOf ⟨C,K⟩ Zii)) {f:Addr} (F:Fun K "law" "law" Ro f fd):FnOk P w K mg base CX0 9 f fd ["_law_script"] (spOf ⟨C,K⟩ Zm9):=by
 refine L3.Fun.ok3 F Jak (fun ds M K3 h=>?_) (fun cdv A outer s H E hr=>?_)
 ·obtain ⟨ns,rfl,_⟩:=h;rfl
 ·have SC:=Jak;have hu:=hr.units;have hu1:=X7 hr;have Pp:Room 1 _:=hr.mono nofun;have Zj:Room 1 _:=hr.mono nofun;have Qg:Room 3 _:=hr.mono nofun;have Pn:Room 3 _:=hr.mono nofun;have V4:Room 5 _:=hr.mono nofun;have N1:Room 7 _:=hr.mono nofun;refine ⟨_,_,(Zf (Y7 (Sh (Rv (Zq Wq V4 rfl (Za (Y0 Zc) Zc))))
 (Zi (Zy W6))
 Z0)
 (Zf (Xl PassesOwn.never rfl (Yn rfl T.b_range (Za (Zo (P4 rfl) (by rfl) T.b_max PyProof.Rows.boot_max (Za Zg (Za (Zo (P3 rfl) (by rfl) T.b_min PyProof.Rows.boot_min (Za (Zo (Yd (K:=K) rfl) (by rfl) T.b_len Dl (Za (pv 0) Zc)) (Za Zg Zc))) Zc))) Zc)) (Zr (i:=1) SC.nd rfl (Or.inl rfl))
 (Zf (Zs (i:=2) SC.nd rfl (Or.inl rfl) (Zq Uk Pp rfl (Za (pv 0) (Za (pv 1) Zc))))
 (Zf (Zs (i:=3) SC.nd rfl (Or.inl rfl) (Zq V0 Qg rfl (Za (pv 2) (Za (Z8 (Ym (K':=K) rfl) (Y0 (Za Zg (Za Zg (Za Zg Zc)))) (Zq Zl Zj rfl (Za (pv 2) (Za Zg Zc))) (fun _ _=>rfl)) (Za Zg Zc)))))
 (Zf (Y7 (Zw (T9 (K':=K) rfl hu) (Zq Zl Zj rfl (Za (pv 2) (Za Zg Zc))) Zg (Z6 _))
 (Zi (Zs (i:=3) SC.nd rfl (Or.inl rfl) (Zq Ui Pn rfl (Za (pv 2) Zc))))
 Z0)
 (Zi (Y7 (Tu (Tt (Zq Tq N1 rfl (Za (pv 2) (Za (pv 3) Zc)))))
 (Zi (Zy W6))
 Z0))))))
 (Zi (Zy W6)))),fun _=>(Zv (Xi (s_b (Zaz (Zu (Zb (V8 Zm) Zm))))
 (Yk s_bl)
 Yf)
 (Zv (W4 (Se (Zb (s_cb Zlo (Zb Zt (Zb (s_cb Zhu (Zb (s_cb Xh (Zb (Zd 0) Zm)) (Zb Zt Zm))) Zm))) Zm)) (s_g 1)
 (Zv (Z9 (Zu (Zb (Zd 0) (Zb (Zd 1) Zm))) (s_g 2))
 (Zv (Z9 (Zu (Zb (Zd 2) (Zb (s_op s_ix (V8 (Zb Zt (Zb Zt (Zb Zt Zm)))) (Zu (Zb (Zd 2) (Zb Zt Zm)))) (Zb Zt Zm)))) (s_g 3))
 (Zv (Xi (Yb (s_op s_eq (Zu (Zb (Zd 2) (Zb Zt Zm))) Zt))
 (Z9 (Zu (Zb (Zd 2) Zm)) (s_g 3))
 Yf)
 (Xi (Q5 (s_b (Zu (Zb (Zd 2) (Zb (Zd 3) Zm)))))
 (Yk s_bl)
 Yf)))))
 (Yk s_bl))),fun ds M Kk hM hD h=>?_⟩
  obtain ⟨ns,rfl,h⟩:=h;obtain ⟨rfl,hlen,k⟩:=h;have lm:∀ ns:List Int,(ns.map D.int).length=ns.length:=fun ns=>Ja _;have no0:∀ {r t:List Int},Rdg [] r t->r=[]/\t=[]:=fun h=>by
   cases h with
   | nil=>exact ⟨rfl,rfl⟩
   | cons hp _=>cases hp
  have nov:∀ {r:List Int} {ws:List (List Int)},ws=[]->¬ Ov ws r:=fun e o=>by
   induction o with
   | first _ h1 _ _=>rw [e] at h1; cases h1
   | more _ _ _ _ ih=>exact ih
  exists Jv _,[],rfl,⟨Jv _,(fun _ h=>nomatch h),G6,fun zs nd hz=>?_⟩,fun _=>?_,fun a b ρ J i j ab _ ra rb' _ _ _ _ _ _ _=>?_
  ·cases zs with
   | nil=>decide
   | cons z zs=>exact (nov rfl (hz z Jl)).elim
  ·exists ·,iteF ?_;exists ·,·,_,·,_,·,·,⟨?_,?_⟩,?_
   ·rw [lm]; split <;> (try split) <;> lia
   ·rw [lm]; split <;> (try split) <;> lia
   exists fun j ρ M'=>∃ v1 v2 v3:Option D,ρ=[some (.frz (ns.map .int)),v1,v2,v3],fun _ _ _ _ _=>trivial,⟨_,_,_,rfl⟩,?_,?_
   ·rintro i x ρ M0 hi rfl ⟨v1,v2,v3,rfl⟩;have hi:i<63:=by
     have h1:i<(if _ then _ else _:Int).toNat:=hi;rw [lm] at h1
     revert h1
     split <;> (try split) <;> lia
    refine ⟨_,rfl,_,rfl,ns,_,rfl,⟨hlen,by lia,by lia⟩,?_⟩;have hh:(M0++[MO.hand])[M0.length]?=some .hand:=Xq;generalize M0.length=hd at hh;generalize M0++[MO.hand]=M1 at hh;refine ⟨_,rfl,(show 3<=sizeLine by decide),_,rfl,hd,3,rfl,hh,⟨nofun,nofun⟩,fun q q0 q1=>?_⟩;obtain ⟨m,em,m1,m2⟩:∃ m:Int,L2.atI [D.int 2,D.int 4,D.int 6] q=some (.int m)/\1<=m/\m<=6:=by
     have:q=0\/q=1\/q=2:=by lia
     rcases this with rfl | rfl | rfl
     ·exact ⟨2,rfl,nofun,nofun⟩
     ·exact ⟨4,rfl,nofun,nofun⟩
     ·exact ⟨6,rfl,nofun,nofun⟩
    exists _,_,·,rfl,em,hd,m,4,rfl,⟨hh,m1,m2,nofun,nofun⟩,fun L bs lL nds lb hb=>?_;have tf:Tf L:=⟨lL,fun p hp=>(hb _ (G4 hp)).1,nds,Ze2 hb lb⟩;clear lL nds lb hb;refine g_nx ?_;dsimp only;refine Zbw (fun ρ' M'=>∃ (L:List Pr),Tf L/\ρ'=[some (.frz (ns.map .int)),some (.int (0+(i:Int))),some (.cell hd),some (.lst (L.map pD))]/\M1=M') (fun Kn hn=>?_) ?_
    ·exists ·,hd,8,rfl,hh,⟨nofun,nofun⟩,fun z z0 z1=>.inl ⟨_,rfl,_,rfl,ite2 (fun h=>?_) (fun h=>?_)⟩
     ·exists ·,hd,rfl,hh,fun L tf=>hn _ _ ⟨L,tf,rfl,rfl⟩
     ·exact hn _ _ ⟨L,tf,rfl,rfl⟩
    clear tf L;rintro _ _ ⟨L,tf,rfl,rfl⟩;exists ·,·,hd,L,rfl,⟨hh,tf⟩,fun M'=>⟨_,rfl,iteF (.inl ⟨_,_,_,rfl⟩)⟩
   ·rintro ρ M' ⟨v1,v2,v3,rfl⟩;exact .inl (k _)
  ·exact absurd ((no0 ra).2.trans (no0 rb').2.symm) ab
end
def len1 {Q:List τ->Prop} (h:∀ a,Q [a]) (us:List τ) (hl:us.length=1):Q us:=match us,hl with | [a],_=>h a
def len2 {Q:List τ->Prop} (h:∀ a b,Q [a,b]) (us:List τ) (hl:us.length=2):Q us:=match us,hl with | [a,b],_=>h a b
def len3 {Q:List τ->Prop} (h:∀ a b c,Q [a,b,c]) (us:List τ) (hl:us.length=3):Q us:=match us,hl with | [a,b,c],_=>h a b c
def len4 {Q:List τ->Prop} (h:∀ a b c d,Q [a,b,c,d]) (us:List τ) (hl:us.length=4):Q us:=match us,hl with | [a,b,c,d],_=>h a b c d
abbrev NI (K:W.Frag) (s:Str) (f:Addr):Prop:=W.nsIn K mainGlobals s=some (some (.ref f))
abbrev LK (K:W.Frag) (f:Addr) (q n:Str) (s:Stmt) oc od kV dc pm an cd ct sl:=K.lookup f=some ⟨oc,od,.func (W.fnOf q n (Z2 s) (Z1 s) (Zk s) .none kV dc pm an cd ct),sl⟩
abbrev LF (K:W.Frag) (f:Addr) (q:Str) (s:Stmt) oc od kV dc pm an cd ct sl:=LK K f q q s oc od kV dc pm an cd ct sl
abbrev CI (K:W.Frag) (c:Value) (s:Str):Prop:=W.codeIn K c s=true
abbrev KI (K:W.Frag) (f:Addr):Prop:=W.keepIn K (.ref f)=true
def all_mk {l:W.OpenLaw} {h:Heap} {fa:Addr} (X:K.In h) (G:h.Ns mainGlobals mg) (hfa:mg "law"=some (.ref fa))(a0:NI K "_law_draw" f0)(l0:LF K f0 "_law_draw" Jby oc0 od0 kV0 dc0 pm0 an0 cd0 ct0 sl0)(c0:CI K cd0 "_law_draw") (k0:KI K f0)(a1:NI K "_law_open" f1)(l1:LF K f1 "_law_open" Jai oc1 od1 kV1 dc1 pm1 an1 cd1 ct1 sl1)(c1:CI K cd1 "_law_open") (k1:KI K f1)(a2:NI K "_law_bytes" f2)(l2:LF K f2 "_law_bytes" Jbc oc2 od2 kV2 dc2 pm2 an2 cd2 ct2 sl2)(c2:CI K cd2 "_law_bytes") (k2:KI K f2)(a3:NI K "_law_words" f3)(l3:LF K f3 "_law_words" D6 oc3 od3 kV3 dc3 pm3 an3 cd3 ct3 sl3)(c3:CI K cd3 "_law_words") (k3:KI K f3)(a4:NI K "_law_signs" f4)(l4:LF K f4 "_law_signs" D5 oc4 od4 kV4 dc4 pm4 an4 cd4 ct4 sl4)(c4:CI K cd4 "_law_signs") (k4:KI K f4)(a5:NI K "_law_any_words" f5)(l5:LF K f5 "_law_any_words" Jat oc5 od5 kV5 dc5 pm5 an5 cd5 ct5 sl5)(c5:CI K cd5 "_law_any_words") (k5:KI K f5)(a6:NI K "_law_loose" f6)(l6:LF K f6 "_law_loose" Jad oc6 od6 kV6 dc6 pm6 an6 cd6 ct6 sl6)(c6:CI K cd6 "_law_loose") (k6:KI K f6)(a7:NI K "rest_between" f7)(l7:LF K f7 "rest_between" Y4 oc7 od7 kV7 dc7 pm7 an7 cd7 ct7 sl7)(c7:CI K cd7 "rest_between") (k7:KI K f7)(a8:NI K "rests_between" f8)(l8:LF K f8 "rests_between" Ys oc8 od8 kV8 dc8 pm8 an8 cd8 ct8 sl8)(c8:CI K cd8 "rests_between") (k8:KI K f8)(a9:NI K "first_rests" f9)(l9:LF K f9 "first_rests" Xf oc9 od9 kV9 dc9 pm9 an9 cd9 ct9 sl9)(c9:CI K cd9 "first_rests") (k9:KI K f9)(a10:NI K "overhangs" f10)(l10:LF K f10 "overhangs" Xt oc10 od10 kV10 dc10 pm10 an10 cd10 ct10 sl10)(c10:CI K cd10 "overhangs") (k10:KI K f10)(a11:NI K "shows_one_way" f11)(l11:LF K f11 "shows_one_way" Yr oc11 od11 kV11 dc11 pm11 an11 cd11 ct11 sl11)(c11:CI K cd11 "shows_one_way") (k11:KI K f11)(a12:NI K "pairs_at" f12)(l12:LF K f12 "pairs_at" Wh oc12 od12 kV12 dc12 pm12 an12 cd12 ct12 sl12)(c12:CI K cd12 "pairs_at") (k12:KI K f12)(a13:NI K "counts_from" f13)(l13:LF K f13 "counts_from" Xg oc13 od13 kV13 dc13 pm13 an13 cd13 ct13 sl13)(c13:CI K cd13 "counts_from") (k13:KI K f13)(a14:NI K "reading_count" f14)(l14:LF K f14 "reading_count" Yt oc14 od14 kV14 dc14 pm14 an14 cd14 ct14 sl14)(c14:CI K cd14 "reading_count") (k14:KI K f14)(a15:NI K "step_with" f15)(l15:LF K f15 "step_with" Xs oc15 od15 kV15 dc15 pm15 an15 cd15 ct15 sl15)(c15:CI K cd15 "step_with") (k15:KI K f15)(a16:NI K "further_steps" f16)(l16:LF K f16 "further_steps" Yu oc16 od16 kV16 dc16 pm16 an16 cd16 ct16 sl16)(c16:CI K cd16 "further_steps") (k16:KI K f16)(a17:NI K "first_steps" f17)(l17:LF K f17 "first_steps" Xe oc17 od17 kV17 dc17 pm17 an17 cd17 ct17 sl17)(c17:CI K cd17 "first_steps") (k17:KI K f17)(a18:NI K "twofold" f18)(l18:LF K f18 "twofold" Wx oc18 od18 kV18 dc18 pm18 an18 cd18 ct18 sl18)(c18:CI K cd18 "twofold") (k18:KI K f18)(a19:NI K "_law_written" f19)(l19:LF K f19 "_law_written" Jal oc19 od19 kV19 dc19 pm19 an19 cd19 ct19 sl19)(c19:CI K cd19 "_law_written") (k19:KI K f19)(a20:NI K "_law_rows" f20)(l20:LF K f20 "_law_rows" Jar oc20 od20 kV20 dc20 pm20 an20 cd20 ct20 sl20)(c20:CI K cd20 "_law_rows") (k20:KI K f20)(a21:NI K "_law_count" f21)(l21:LF K f21 "_law_count" Jcd oc21 od21 kV21 dc21 pm21 an21 cd21 ct21 sl21)(c21:CI K cd21 "_law_count") (k21:KI K f21)(a22:NI K "_law_rest" f22)(l22:LF K f22 "_law_rest" Jap oc22 od22 kV22 dc22 pm22 an22 cd22 ct22 sl22)(c22:CI K cd22 "_law_rest") (k22:KI K f22)(a23:NI K "_law_closing" f23)(l23:LF K f23 "_law_closing" Dy oc23 od23 kV23 dc23 pm23 an23 cd23 ct23 sl23)(c23:CI K cd23 "_law_closing") (k23:KI K f23)(a24:NI K "_law_whole" f24)(l24:LF K f24 "_law_whole" Jam oc24 od24 kV24 dc24 pm24 an24 cd24 ct24 sl24)(c24:CI K cd24 "_law_whole") (k24:KI K f24)(a25:NI K "_law_texts" f25)(l25:LF K f25 "_law_texts" Ds oc25 od25 kV25 dc25 pm25 an25 cd25 ct25 sl25)(c25:CI K cd25 "_law_texts") (k25:KI K f25)(a26:NI K "_law_pair" f26)(l26:LF K f26 "_law_pair" Jbq oc26 od26 kV26 dc26 pm26 an26 cd26 ct26 sl26)(c26:CI K cd26 "_law_pair") (k26:KI K f26)(a27:NI K "_law_one" f27)(l27:LF K f27 "_law_one" Jan oc27 od27 kV27 dc27 pm27 an27 cd27 ct27 sl27)(c27:CI K cd27 "_law_one") (k27:KI K f27)(a28:NI K "_law_wide" f28)(l28:LF K f28 "_law_wide" Jbv oc28 od28 kV28 dc28 pm28 an28 cd28 ct28 sl28)(c28:CI K cd28 "_law_wide") (k28:KI K f28)(a29:NI K "law" f29)(l29:LF K f29 "law" Ro oc29 od29 kV29 dc29 pm29 an29 cd29 ct29 sl29)(c29:CI K cd29 "law") (k29:KI K f29)(z_len:W.nsIn K mainGlobals "len"=some none)(z_abs:W.nsIn K mainGlobals "abs"=some none)(z_max:W.nsIn K mainGlobals "max"=some none)(z_min:W.nsIn K mainGlobals "min"=some none)(z_all:W.nsIn K mainGlobals "all"=some none)(z_range:W.nsIn K mainGlobals "range"=some none)(z_int:W.nsIn K mainGlobals "int"=some none)(z_bool:W.nsIn K mainGlobals "bool"=some none)(z_tuple:W.nsIn K mainGlobals "tuple"=some none)(z_list:W.nsIn K mainGlobals "list"=some none)(z_set:W.nsIn K mainGlobals "set"=some none)(z_sum:W.nsIn K mainGlobals "sum"=some none)(z_isinstance:W.nsIn K mainGlobals "isinstance"=some none)(z_sorted:W.nsIn K mainGlobals "sorted"=some none)(z_enumerate:W.nsIn K mainGlobals "enumerate"=some none)(z_zip:W.nsIn K mainGlobals "zip"=some none)
   :∃ fd:FuncData,(∀ (s:Shared) (v:Value),BindsTo s fd ⟨[v],[]⟩ [("_law_script",v)])/\∀ base:Heap,K.In base->base.Ns mainGlobals mg->FnOk l.prog w K mg base CX0 9 fa fd ["_law_script"] (spLaw K):=by
  have e:=hfa.symm.trans (W.mg_of X G a29);cases e;have T:Txt mg:=⟨W.mg_none_of X G z_len,W.mg_none_of X G z_abs,W.mg_none_of X G z_max,W.mg_none_of X G z_min,W.mg_none_of X G z_all,W.mg_none_of X G z_range,W.mg_none_of X G z_int,W.mg_none_of X G z_bool,W.mg_none_of X G z_tuple,W.mg_none_of X G z_list,W.mg_none_of X G z_set,W.mg_none_of X G z_sum,W.mg_none_of X G z_isinstance,W.mg_none_of X G z_sorted,W.mg_none_of X G z_enumerate,W.mg_none_of X G z_zip⟩;have F0:=Yi (st:=Jby) l0 c0 k0;have b0:=F0.binds (ps:=["_law_hand", "_law_many"]) fun _ _ _ _ _ _=>len2 fun _ _=>rfl;have F1:=Yi (st:=Jai) l1 c1 k1
  have b1:=F1.binds (ps:=["_law_script", "_law_place"]) fun _ _ _ _ _ _=>len2 fun _ _=>rfl;have F2:=Yi (st:=Jbc) l2 c2 k2;have b2:=F2.binds (ps:=["_law_hand", "_law_most"]) fun _ _ _ _ _ _=>len2 fun _ _=>rfl;have F3:=Yi (st:=D6) l3 c3 k3;have b3:=F3.binds (ps:=["_law_hand", "_law_some", "_law_most", "_law_longest"]) fun _ _ _ _ _ _=>len4 fun _ _ _ _=>rfl;have F4:=Yi (st:=D5) l4 c4 k4;have b4:=F4.binds (ps:=["_law_hand", "_law_many"]) fun _ _ _ _ _ _=>len2 fun _ _=>rfl;have F5:=Yi (st:=Jat) l5 c5 k5;have b5:=F5.binds (ps:=["_law_hand", "_law_some"]) fun _ _ _ _ _ _=>len2 fun _ _=>rfl;have F6:=Yi (st:=Jad) l6 c6 k6
  have b6:=F6.binds (ps:=["_law_hand", "_law_most", "_law_longest"]) fun _ _ _ _ _ _=>len3 fun _ _ _=>rfl;have F7:=Yi (st:=Y4) l7 c7 k7;have b7:=F7.binds (ps:=["one", "other"]) fun _ _ _ _ _ _=>len2 fun _ _=>rfl;have F8:=Yi (st:=Ys) l8 c8 k8;have b8:=F8.binds (ps:=["part", "words"]) fun _ _ _ _ _ _=>len2 fun _ _=>rfl;have F9:=Yi (st:=Xf) l9 c9 k9;have b9:=F9.binds (ps:=["words"]) fun _ _ _ _ _ _=>len1 fun _=>rfl;have F10:=Yi (st:=Xt) l10 c10 k10;have b10:=F10.binds (ps:=["table"]) fun _ _ _ _ _ _=>len1 fun _=>rfl;have F11:=Yi (st:=Yr) l11 c11 k11;have b11:=F11.binds (ps:=["table", "some"]) fun _ _ _ _ _ _=>len2 fun _ _=>rfl
  have F12:=Yi (st:=Wh) l12 c12 k12;have b12:=F12.binds (ps:=["table", "row", "place"]) fun _ _ _ _ _ _=>len3 fun _ _ _=>rfl;have F13:=Yi (st:=Xg) l13 c13 k13;have b13:=F13.binds (ps:=["table", "row"]) fun _ _ _ _ _ _=>len2 fun _ _=>rfl;have F14:=Yi (st:=Yt) l14 c14 k14;have b14:=F14.binds (ps:=["table", "row"]) fun _ _ _ _ _ _=>len2 fun _ _=>rfl;have F15:=Yi (st:=Xs) l15 c15 k15;have b15:=F15.binds (ps:=["step", "sign", "word"]) fun _ _ _ _ _ _=>len3 fun _ _ _=>rfl;have F16:=Yi (st:=Yu) l16 c16 k16;have b16:=F16.binds (ps:=["table", "step"]) fun _ _ _ _ _ _=>len2 fun _ _=>rfl;have F17:=Yi (st:=Xe) l17 c17 k17
  have b17:=F17.binds (ps:=["table"]) fun _ _ _ _ _ _=>len1 fun _=>rfl;have F18:=Yi (st:=Wx) l18 c18 k18;have b18:=F18.binds (ps:=["table"]) fun _ _ _ _ _ _=>len1 fun _=>rfl;have F19:=Yi (st:=Jal) l19 c19 k19;have b19:=F19.binds (ps:=["_law_table", "_law_text"]) fun _ _ _ _ _ _=>len2 fun _ _=>rfl;have F20:=Yi (st:=Jar) l20 c20 k20;have b20:=F20.binds (ps:=["_law_hand", "_law_table", "_law_most"]) fun _ _ _ _ _ _=>len3 fun _ _ _=>rfl;have F21:=Yi (st:=Jcd) l21 c21 k21;have b21:=F21.binds (ps:=["_law_table", "_law_row"]) fun _ _ _ _ _ _=>len2 fun _ _=>rfl;have F22:=Yi (st:=Jap) l22 c22 k22;have b22:=F22.binds (ps:=["_law_longer", "_law_shorter"]) fun _ _ _ _ _ _=>len2 fun _ _=>rfl
  have F23:=Yi (st:=Dy) l23 c23 k23;have b23:=F23.binds (ps:=["_law_table"]) fun _ _ _ _ _ _=>len1 fun _=>rfl;have F24:=Yi (st:=Jam) l24 c24 k24;have b24:=F24.binds (ps:=["_law_one_here"]) fun _ _ _ _ _ _=>len1 fun _=>rfl;have F25:=Yi (st:=Ds) l25 c25 k25;have b25:=F25.binds (ps:=["_law_told", "_law_due"]) fun _ _ _ _ _ _=>len2 fun _ _=>rfl;have F26:=Yi (st:=Jbq) l26 c26 k26;have b26:=F26.binds (ps:=["_law_table", "_law_told"]) fun _ _ _ _ _ _=>len2 fun _ _=>rfl;have F27:=Yi (st:=Jan) l27 c27 k27;have b27:=F27.binds (ps:=["_law_hand", "_law_table"]) fun _ _ _ _ _ _=>len2 fun _ _=>rfl;have F28:=Yi (st:=Jbv) l28 c28 k28
  have b28:=F28.binds (ps:=["_law_hand"]) fun _ _ _ _ _ _=>len1 fun _=>rfl;have F29:=Yi (st:=Ro) l29 c29 k29;exists W.fnOf "law" "law" (Z2 Ro) (Z1 Ro) (Zk Ro) .none kV29 dc29 pm29 an29 cd29 ct29,fun s v=>.of_eq rfl,fun base _ _=>?_;have Zl:=Yo (P:=l.prog) (w:=w) (base:=base) F0 (Do T  F0) (W.mg_of X G a0) b0;have Wp:=L3.Cal.imp Zl fun _ _ _ _ h=>L3.Zns (C:=⟨0,K⟩) h;have Uk:=Yo (P:=l.prog) (w:=w) (base:=base) F1 (Jcf T  F1) (W.mg_of X G a1) b1;have Zag:=L3.Cal.imp Uk fun _ _ _ _ h=>L3.Znr (C:=⟨0,K⟩) h;have V1:=Yo (P:=l.prog) (w:=w) (base:=base) F2 (Jbf T Zl F2) (W.mg_of X G a2) b2;have Nh:=L3.Cal.imp V1 fun _ _ _ _ h=>L3.Zkq (C:=⟨0,K⟩) h
  have Vx:=Yo (P:=l.prog) (w:=w) (base:=base) F3 (Jbs T Zl F3) (W.mg_of X G a3) b3;have Ng:=L3.Cal.imp Vx fun _ _ _ _ h=>L3.Zhh (C:=⟨0,K⟩) h;have X4:=Yo (P:=l.prog) (w:=w) (base:=base) F4 (Jae T Zl F4) (W.mg_of X G a4) b4;have Tz:=L3.Cal.imp X4 fun _ _ _ _ h=>L3.Zkp (C:=⟨0,K⟩) h;have Wd:=Yo (P:=l.prog) (w:=w) (base:=base) F5 (Jbt (C:=0) T Wp F5) (W.mg_of X G a5) b5;have V0:=Yo (P:=l.prog) (w:=w) (base:=base) F6 (D4 (C:=0) T Nh Wp Ng Wd Tz F6) (W.mg_of X G a6) b6;have Y5:=Yo (P:=l.prog) (w:=w) (base:=base) F7 (Dp (C:=0) T  F7) (W.mg_of X G a7) b7;have Yw:=Yo (P:=l.prog) (w:=w) (base:=base) F8 (Jav (C:=0) T Y5 F8) (W.mg_of X G a8) b8
  have Va:=Yo (P:=l.prog) (w:=w) (base:=base) F9 (Dz (C:=0) T Yw F9) (W.mg_of X G a9) b9;have Xw:=Yo (P:=l.prog) (w:=w) (base:=base) F10 (Jab (C:=0) T Va Yw F10) (W.mg_of X G a10) b10;have Wr:=Yo (P:=l.prog) (w:=w) (base:=base) F11 (Jas (C:=0) T Xw F11) (W.mg_of X G a11) b11;have Tp:=Yo (P:=l.prog) (w:=w) (base:=base) F12 (Jag (C:=0) T  F12) (W.mg_of X G a12) b12;have Vb:=Yo (P:=l.prog) (w:=w) (base:=base) F13 (Jbi (C:=0) T Tp F13) (W.mg_of X G a13) b13;have Yx:=Yo (P:=l.prog) (w:=w) (base:=base) F14 (D1 (C:=0) T Vb F14) (W.mg_of X G a14) b14;have Uh:=Yo (P:=l.prog) (w:=w) (base:=base) F15 (Jaf (C:=0) T Y5 F15) (W.mg_of X G a15) b15
  have Yy:=Yo (P:=l.prog) (w:=w) (base:=base) F16 (Dv (C:=0) T Uh F16) (W.mg_of X G a16) b16;have W9:=Yo (P:=l.prog) (w:=w) (base:=base) F17 (Jbk (C:=0) T Yy F17) (W.mg_of X G a17) b17;have Wq:=Yo (P:=l.prog) (w:=w) (base:=base) F18 (Jcc (C:=0) T W9 Yy F18) (W.mg_of X G a18) b18;have Xz:=Yo (P:=l.prog) (w:=w) (base:=base) F19 (D3 (C:=0) T  F19) (W.mg_of X G a19) b19;have Uj:=Yo (P:=l.prog) (w:=w) (base:=base) F20 (Jbw (C:=0) T Wp F20) (W.mg_of X G a20) b20;have Xd:=Yo (P:=l.prog) (w:=w) (base:=base) F21 (Jbx (C:=0) T  F21) (W.mg_of X G a21) b21;have Ws:=Yo (P:=l.prog) (w:=w) (base:=base) F22 (Jbd (C:=0) T  F22) (W.mg_of X G a22) b22
  have Ww:=Yo (P:=l.prog) (w:=w) (base:=base) F23 (Jca (C:=0) T Ws F23) (W.mg_of X G a23) b23;have Vy:=Yo (P:=l.prog) (w:=w) (base:=base) F24 (Jbu (C:=0) T  F24) (W.mg_of X G a24) b24;have Vz:=Yo (P:=l.prog) (w:=w) (base:=base) F25 (Jah (C:=0) T Vy F25) (W.mg_of X G a25) b25;have Vc:=Yo (P:=l.prog) (w:=w) (base:=base) F26 (Jbp (C:=0) T Vz Xz Yx Xd F26) (W.mg_of X G a26) b26;have Tq:=Yo (P:=l.prog) (w:=w) (base:=base) F27 (Jax (C:=0) T Ww Wq Xw Wr Vc Uj Xd Yx F27) (W.mg_of X G a27) b27;have Ui:=Yo (P:=l.prog) (w:=w) (base:=base) F28 (Du (C:=0) T Wp Tz F28) (W.mg_of X G a28) b28;exact (Jbb (C:=0) T Zag Wp V0 Ui Wq Tq F29).imp fun _ _ _ _ h=>L3.Zjw (C:=⟨0,K⟩) h
def walk {l:W.OpenLaw} {q:Program} {loose:List Str} {XP:(Str->Option Value)->Heap->Prop} {YP:World->Heap->Prop} {d:DefRec} {K:Params->W.Frag} (hn:l.most=some 63) (hdf:d.params.defaults=[])
  (hY:∀ (w:World) (h:Heap),YP w h->(K w.params).In h)
  (F:∀ (w:World) (mg:Str->Option Value) (fa:Addr) (h:Heap),(K w.params).In h->h.Ns mainGlobals mg->mg d.name=some (.ref fa) ->
   ∃ fd:FuncData,(∀ (s:Shared) (u:Value),BindsTo s fd ⟨[u],[]⟩ [("_law_script",u)])/\∀ base:Heap,(K w.params).In base->base.Ns mainGlobals mg->FnOk l.prog w (K w.params) mg base CX0 9 fa fd ["_law_script"] (spLaw (K w.params))) :
  W.WalkO q loose XP YP l.row.toRowW d [] (fun f vs=>PySem.call f vs) :=
 L2.Zis (n:=63) (k:=9) (x:="_law_script") (CX:=fun _=>CX0) (sp:=fun w=>spLaw (K w.params)) hn nofun hdf ⟨rfl,nofun,nofun⟩ hY F (fun _ _ a ns hl _ hS=>⟨a,ns,rfl,hS,hl,fun _=>rfl⟩) fun _ _ _ _ _ z=>z
end K55
namespace PySem.W.Fast
def tw583598882005852332:=0
def tw8986773862304604193:=0
def tw10556051469419120859:=0
def tw8692694133837186376:=0
def tw6472290288639661802:=0
def tw14630512175745294982:=0
def tw569018365193890027:=0
def tw8613919480963150350:=0
def tw2498441514607687409:=0
def tw17966630838768215889:=0
def tw10580374828602515299:=0
def tw2245119508897171061:=0
def tw403421148674934171:=0
def tw11224736686866802865:=0
def tw4728696418832206511:=0
def tw8863892922223813011:=0
def tw15226705315734551288:=0
def tw2729278762356620982:=0
def tw2453615882369032299:=0
def tw5508340014674212094:=0
def tw5118513965411138355:=0
def tw11078427158833909046:=0
def tw4975779544823792787:=0
def tw12039082025992194802:=0
def tw1294536732660911883:=0
def tw13079168691196538591:=0
def tw10753880722691380492:=0
def tw15837685146189568177:=0
def tw1383997563166565692:=0
def tw5344325273870576681:=0
def tw3642686310375109465:=0
def tw15130468108989291523:=0
def tw11909982855904838990:=0
def tw14015642472482770630:=0
def tw14373357436898055526:=0
def tw433888587990864288:=0
def tw5154326953006970397:=0
def tw2573561759663102538:=0
def tw11999317340081352320:=0
def tw17900517452271799784:=0
def tw15699574172719740651:=0
def tw13945295997494067736:=0
def tw15782033756055808523:=0
def tw815236804581155477:=0
def tw1721512266281977194:=0
def tw3977332014231727849:=0
def tw377437962219058111:=0
def tw12458137647464181116:=0
def tw5507364316848285395:=0
def tw6217434833178041519:=0
end PySem.W.Fast
open PySem PySem.W PyProof.Rows
set_option maxRecDepth 100000 in
set_option maxHeartbeats 0 in
theorem PySem.Challenge.cw_skewread_k55_whole_two_texts_or_the_pape_holds : PySem.Challenge.rw_skewread_k55_whole_two_texts_or_the_pape.Holds := by
  w_on; o_law; k_head; (case hw=>w_witness2)
  k_fill
  refine K55.walk (l:=PySem.Challenge.rw_skewread_k55_whole_two_texts_or_the_pape) rfl rfl (fun w h Y=>PySem.W.kIn_of Y) ?F
  case F =>
    intro w mg fa h KX G hmg
    apply K55.all_mk KX G hmg
    all_goals try delta K55.LF
    all_goals try delta K55.NI K55.LK K55.CI K55.KI
    all_goals first | k_is | kernel_rfl
#print axioms PySem.Challenge.cw_skewread_k55_whole_two_texts_or_the_pape_holds