import PyProof.Rows.All
import Wide.All
import OpenK.AllK
import Wide.FinOn
import Lean
import PyProof.EqAt
import PyProof.EqKinds
import PyProof.TupleCall
import PyProof.DictItems
import KE.KPairComp
import KE.KDictList
import PyProof.ListRange
import KE.KUnpack
import KE.KEqDict
import PyProof.DictFindH
import KE.KDictSum
import PyProof.AutoListH
import PyProof.SumAny
import PyProof.Rows.Range3
import KE.KStateDown
import KE.KSortTup
import KE.KLam
import KE.KNestM
import KE.KDictOf
import PyProof.AttrMissHeap
import KE.KRevSl
import PyProof.RaisesMany
import PyProof.ExcInit
import PyProof.ExcClass2
import PyProof.RulesTry
import PyProof.PassesOwn
import OpenK.KOwn
import PyProof.RulesDel
import KE.KIsAll
import PyProof.EnumMake
import PyProof.LayNew
import PyProof.ZipIter
import PyProof.Rows.ZipGen
import KE.KIntText
import PySem.Challenge.RW_skewread_k64_whole_every_text_astray_is
set_option Elab.async false
set_option linter.all false
set_option maxRecDepth 100000
local macro_rules | `(def $n:declId $s:optDeclSig $v:declVal)=>`(noncomputable def $n:declId $s:optDeclSig $v:declVal)
local macro_rules | `(abbrev $n:declId $s:optDeclSig $v:declVal)=>`(noncomputable abbrev $n:declId $s:optDeclSig $v:declVal)
theorem Ja:type_of% @List.getElem?_eq_getElem:=@List.getElem?_eq_getElem
theorem Jb:type_of% @List.length_map:=@List.length_map
theorem Jc:type_of% @List.length_append:=@List.length_append
theorem Jd:type_of% @List.prefix_refl:=@List.prefix_refl
theorem Je:type_of% @Nat.le_refl:=@Nat.le_refl
theorem Jf:type_of% @List.take_succ_eq_append_getElem:=@List.take_succ_eq_append_getElem
theorem Jg:type_of% @List.map_append:=@List.map_append
theorem Jh:type_of% @List.getElem?_eq_some_iff:=@List.getElem?_eq_some_iff
theorem Ji:type_of% @List.mem_map:=@List.mem_map
theorem Jj:type_of% @List.mem_singleton:=@List.mem_singleton
theorem Jk:type_of% @List.mem_cons_of_mem:=@List.mem_cons_of_mem
theorem Jl:type_of% @List.map_cons:=@List.map_cons
theorem Jm:type_of% @List.mem_cons_self:=@List.mem_cons_self
theorem Jn:type_of% @List.length_take:=@List.length_take
theorem Jo:type_of% @List.getElem_mem:=@List.getElem_mem
theorem Jp:type_of% @List.size_toArray:=@List.size_toArray
theorem Jq:type_of% @List.mem_cons:=@List.mem_cons
theorem Jr:type_of% @List.getElem?_append_left:=@List.getElem?_append_left
theorem Js:type_of% @List.getElem_of_mem:=@List.getElem_of_mem
theorem Jt:type_of% @List.take_length:=@List.take_length
theorem Ju:type_of% @Bool.false_ne_true:=@Bool.false_ne_true
theorem Jv:type_of% @Nat.le_trans:=@Nat.le_trans
theorem Jw:type_of% @List.mem_append_right:=@List.mem_append_right
theorem Jx:type_of% @List.nodup_iff_pairwise_ne:=@List.nodup_iff_pairwise_ne
theorem Jy:type_of% @List.getElem?_set_self:=@List.getElem?_set_self
theorem Jz:type_of% @List.length_cons:=@List.length_cons
theorem J0:type_of% @List.append_nil:=@List.append_nil
theorem J8:type_of% @List.getElem?_append_right:=@List.getElem?_append_right
theorem J9:type_of% @List.getElem?_map:=@List.getElem?_map
theorem Ga:type_of% @Nat.lt_of_lt_of_le:=@Nat.lt_of_lt_of_le
theorem Gb:type_of% @List.prefix_append:=@List.prefix_append
theorem Gc:type_of% @List.mem_append:=@List.mem_append
theorem Gd:type_of% @List.append_assoc:=@List.append_assoc
theorem Ge:type_of% @Nat.zero_le:=@Nat.zero_le
theorem Gf:type_of% @List.pairwise_map:=@List.pairwise_map
theorem Gg:type_of% @Nat.ne_of_lt:=@Nat.ne_of_lt
theorem Gh:type_of% @List.length_drop:=@List.length_drop
theorem Gi:type_of% @List.mem_flatMap:=@List.mem_flatMap
theorem Gj:type_of% @List.take_of_length_le:=@List.take_of_length_le
theorem Gk:type_of% @List.getElem?_set_ne:=@List.getElem?_set_ne
theorem Gm:type_of% @List.map_map:=@List.map_map
theorem Gn:type_of% @List.getD_eq_getElem?_getD:=@List.getD_eq_getElem?_getD
theorem Go:type_of% @List.length_set:=@List.length_set
theorem Gp:type_of% @Int.eq_ofNat_of_zero_le:=@Int.eq_ofNat_of_zero_le
theorem Gq:type_of% @List.nodup_cons:=@List.nodup_cons
theorem Gr:type_of% @List.length_pos_iff:=@List.length_pos_iff
theorem Gs:type_of% @List.length_singleton:=@List.length_singleton
theorem Gu:type_of% @List.mem_of_getElem?:=@List.mem_of_getElem?
theorem Gv:type_of% @List.nodup_append:=@List.nodup_append
theorem Gw:type_of% @Int.emod_lt_of_pos:=@Int.emod_lt_of_pos
theorem Gx:type_of% @List.filter_append:=@List.filter_append
theorem Gy:type_of% @List.flatMap_append:=@List.flatMap_append
theorem Gz:type_of% @List.getElem_map:=@List.getElem_map
theorem G0:type_of% @List.getElem_zip:=@List.getElem_zip
theorem G1:type_of% @List.take_append_of_le_length:=@List.take_append_of_le_length
theorem G2:type_of% @List.drop_eq_getElem_cons:=@List.drop_eq_getElem_cons
theorem G3:type_of% @Bool.false_eq_true:=@Bool.false_eq_true
theorem G4:type_of% @List.mem_filter:=@List.mem_filter
theorem G5:type_of% @List.find?_cons:=@List.find?_cons
theorem G6:type_of% @List.length_zip:=@List.length_zip
theorem G7:type_of% @List.lookup_cons:=@List.lookup_cons
theorem G8:type_of% @List.not_mem_nil:=@List.not_mem_nil
theorem G9:type_of% @List.take_append_drop:=@List.take_append_drop
theorem Ba:type_of% @List.flatMap_cons:=@List.flatMap_cons
theorem Bb:type_of% @List.getElem?_concat_length:=@List.getElem?_concat_length
theorem Bc:type_of% @List.mem_append_left:=@List.mem_append_left
theorem Bd:type_of% @List.nodup_nil:=@List.nodup_nil
theorem Be:type_of% @Nat.lt_of_le_of_lt:=@Nat.lt_of_le_of_lt
theorem Bf:type_of% @List.take_zero:=@List.take_zero
theorem Bg:type_of% @Int.emod_nonneg:=@Int.emod_nonneg
theorem Bh:type_of% @Nat.not_lt_zero:=@Nat.not_lt_zero
theorem Bi:type_of% @Nat.lt_irrefl:=@Nat.lt_irrefl
theorem Bj:type_of% @List.mem_filterMap:=@List.mem_filterMap
theorem Bl:type_of% @List.getElem_inj:=@List.getElem_inj
theorem Bn:type_of% @Nat.le_succ:=@Nat.le_succ
theorem Bo:type_of% @List.any_eq_true:=@List.any_eq_true
theorem Bp:type_of% @Nat.mul_le_mul_right:=@Nat.mul_le_mul_right
theorem Bq:type_of% @List.reverse_cons:=@List.reverse_cons
theorem Br:type_of% @Array.getElem?_eq_some_iff:=@Array.getElem?_eq_some_iff
theorem Bs:type_of% @Array.length_toList:=@Array.length_toList
theorem Bt:type_of% @List.pairwise_iff_getElem:=@List.pairwise_iff_getElem
theorem Bu:type_of% @List.filter_cons:=@List.filter_cons
theorem Bv:type_of% @List.flatMap_nil:=@List.flatMap_nil
theorem Bw:type_of% @Nat.le_of_eq:=@Nat.le_of_eq
theorem Bx:type_of% @Nat.lt_succ_of_lt:=@Nat.lt_succ_of_lt
theorem By:type_of% @List.length_range:=@List.length_range
theorem Bz:type_of% @List.filter_cons_of_pos:=@List.filter_cons_of_pos
theorem B0:type_of% @List.filter_cons_of_neg:=@List.filter_cons_of_neg
theorem B1:type_of% @List.any_cons:=@List.any_cons
theorem B3:type_of% @List.map_take:=@List.map_take
theorem B4:type_of% @Array.perm_iff_toList_perm:=@Array.perm_iff_toList_perm
theorem B6:type_of% @Array.getElem?_setIfInBounds_self:=@Array.getElem?_setIfInBounds_self
theorem B7:type_of% @Bool.eq_iff_iff:=@Bool.eq_iff_iff
theorem B8:type_of% @List.length_nil:=@List.length_nil
theorem B9:type_of% @Nat.le_of_lt:=@Nat.le_of_lt
theorem Fb:type_of% @List.filterMap_cons:=@List.filterMap_cons
theorem Fc:type_of% @List.length_reverse:=@List.length_reverse
theorem Fd:type_of% @Nat.lt_succ_self:=@Nat.lt_succ_self
theorem Fe:type_of% @Bool.and_eq_true:=@Bool.and_eq_true
theorem Ff:type_of% @Nat.mul_le_mul:=@Nat.mul_le_mul
theorem Fg:type_of% @Option.map_some:=@Option.map_some
theorem Fh:type_of% @List.filter_nil:=@List.filter_nil
theorem Fi:type_of% @List.map_drop:=@List.map_drop
theorem Fj:type_of% @List.length_filter_le:=@List.length_filter_le
theorem Fk:type_of% @Int.toNat_natCast:=@Int.toNat_natCast
theorem Fl:type_of% @Nat.lt_trichotomy:=@Nat.lt_trichotomy
theorem Fm:type_of% @List.getElem_take:=@List.getElem_take
theorem Fn:type_of% @List.mem_of_mem_take:=@List.mem_of_mem_take
theorem Fo:type_of% @List.take_left:=@List.take_left
theorem Fp:type_of% @List.set_append_left:=@List.set_append_left
theorem Fs:type_of% @List.take_prefix:=@List.take_prefix
theorem Ft:type_of% @Bool.not_eq_true:=@Bool.not_eq_true
theorem Fu:type_of% @List.filter_sublist:=@List.filter_sublist
theorem Fv:type_of% @Nat.min_eq_left:=@Nat.min_eq_left
theorem Fw:type_of% @List.pairwise_cons:=@List.pairwise_cons
theorem Fx:type_of% @List.mem_range:=@List.mem_range
theorem Fy:type_of% @Nat.ne_of_gt:=@Nat.ne_of_gt
theorem Fz:type_of% @List.drop_zero:=@List.drop_zero
theorem Da:type_of% @PySem.wpAny_bind:=@PySem.wpAny_bind
theorem Db:type_of% @PySem.wpAny_pure:=@PySem.wpAny_pure
theorem Dd:type_of% @PySem.Heap.get?_push_of_some:=@PySem.Heap.get?_push_of_some
theorem De:type_of% @PySem.Heap.get?_push_size:=@PySem.Heap.get?_push_size
theorem Df:type_of% @PySem.Heap.lt_size:=@PySem.Heap.lt_size
theorem Dg:type_of% @if_neg:=@if_neg
theorem Dh:type_of% @if_pos:=@if_pos
theorem Di:type_of% @decide_eq_true:=@decide_eq_true
theorem Dj:type_of% @decide_eq_false:=@decide_eq_false
theorem Dl:type_of% @Option.some.inj:=@Option.some.inj
theorem Dm:type_of% @PySem.boot_len:=@PySem.boot_len
theorem Dn:type_of% @PySem.wpAny_mono:=@PySem.wpAny_mono
local macro_rules | `(tactic| rfl')=>`(tactic| refine ⟨rfl,rfl,rfl,?_,rfl,?_,?_⟩<;>decide +kernel)
local macro_rules | `(nofun)=>`(term| by decide)
local macro_rules | `(tactic| exists $es,*)=>do
 let mut a:Array (Lean.TSyntax `term):=#[]
 for e in es.getElems do
  if e.raw.isOfKind ``Lean.Parser.Term.cdot then a:=a++#[<-`(_),<-`(rfl)] else a:=a.push e
 `(tactic| refine ⟨$a,*⟩)
variable {s:PySem.Shared} {C b Pt ea l dx Zj it fI tp:PySem.Addr} {α α' fp ch:List PySem.Addr} {fd:PySem.FuncData} {pos pos' apos:PySem.Pos} {K K':PySem.W.Frag} {pq:List (PySem.Addr×PySem.Obj)} {A:PySem.Around} {P prog:PySem.Program} {ns ts:List Int} {h h':PySem.Heap} {E:PySem.Value->PySem.Shared->Prop} {mg mA:PySem.Str->Option PySem.Value} {ps N T:List PySem.Str} {τ β κ:Type} {j t' pl x1 pa pb c0:Nat} {cs:List Nat} {us its:List PySem.Value} {st:PySem.Stmt} {es elts:List PySem.Expr} {qual:PySem.Str} {oe:PySem.Obj} {tg value:PySem.Expr} {ws:List (List Int)} {B:Prop} {body:List PySem.Stmt} {pm:PySem.Value} {lo hi:Option Int} {T0:Option PySem.Addr}
namespace L2
open PySem PySem.Spec PyProof.Rows
abbrev Key:=Sum Int Str
def Pu:Key->Value->Bool
 | .inl k,v=>Value.isInt k v
 | .inr x,v=>Value.isStrOf x v
def keyH (w:World):Key->Int
 | .inl k=>hashInt k
 | .inr x=>hashStr w x
theorem Yi:∀ {k:Key} {v:Value},Pu k v=true->(∃ i t,k=Sum.inl i/\v=Value.int i t)\/(∃ x t,k=Sum.inr x/\v=Value.str x t)
 | .inl i,v,h=>by
  obtain ⟨t,e⟩:=Value.isInt_shape (k:=i) (v:=v) h;exact .inl ⟨i,t,rfl,e⟩
 | .inr x,v,h=>by
  obtain ⟨t,e⟩:=Value.isStrOf_shape (x:=x) (v:=v) h;exact .inr ⟨x,t,rfl,e⟩
def Zhp (i:Int) (t:Tok):Pu (.inl i) (.int i t)=true:=by simp [Pu,Value.isInt]
def Zho (x:Str) (t:Tok):Pu (.inr x) (.str x t)=true:=by simp [Pu,Value.isStrOf]
def Zrm (a b:Int):decide ((Sum.inl a:Key)=Sum.inl b)=(a == b):=by
 by_cases e:a=b
 ·subst e; simp
 ·have h:¬ (Sum.inl a:Key)=Sum.inl b:=fun q=>e (Sum.inl.inj q);rw [Dj h];exact (beq_eq_false_iff_ne.mpr e).symm
def Zrj (a b:Str):decide ((Sum.inr a:Key)=Sum.inr b)=decide (a=b):=by
 by_cases e:a=b
 ·subst e; simp
 ·have h:¬ (Sum.inr a:Key)=Sum.inr b:=fun q=>e (Sum.inr.inj q);rw [Dj h,Dj e]
def Zrl (a:Int) (b:Str):decide ((Sum.inl a:Key)=Sum.inr b)=false:=Dj (fun q=>nomatch q)
def Zrk (a:Str) (b:Int):decide ((Sum.inr a:Key)=Sum.inl b)=false:=Dj (fun q=>nomatch q)
def Yz (prog:Program) (w:World):PySem.KeyKind prog w Key where
 is:=Pu
 hash:=keyH w
 inj:=fun v a b ha hb=>by
  rcases Yi ha with ⟨i,t,rfl,rfl⟩ | ⟨x,t,rfl,rfl⟩
  ·rcases Yi hb with ⟨j,u,rfl,e⟩ | ⟨y,u,rfl,e⟩
   ·injection e with e1 _; rw [e1]
   ·exact nomatch e
  ·rcases Yi hb with ⟨j,u,rfl,e⟩ | ⟨y,u,rfl,e⟩
   ·exact nomatch e
   ·injection e with e1 _; rw [e1]
 byValue:=fun k v h=>by
  rcases Yi h with ⟨i,t,rfl,rfl⟩ | ⟨x,t,rfl,rfl⟩ <;> rfl
 pyHash:=fun hv h=>by
  rcases Yi hv with ⟨i,t,rfl,rfl⟩ | ⟨x,t,rfl,rfl⟩
  ·exact wpAny_pyHash_int h
  ·exact wpAny_pyHash_str h
 eqBool:=fun hu hv h=>by
  rcases Yi hu with ⟨i,t,rfl,rfl⟩ | ⟨x,t,rfl,rfl⟩
  ·rcases Yi hv with ⟨j,u,rfl,rfl⟩ | ⟨y,u,rfl,rfl⟩
   ·rw [Zrm] at h; exact wpAny_eqBool_int h
   ·rw [Zrl] at h; exact SeqAt.EqAt.int_str i t y u _ _ _ _ h
  ·rcases Yi hv with ⟨j,u,rfl,rfl⟩ | ⟨y,u,rfl,rfl⟩
   ·rw [Zrk] at h; exact SeqAt.EqAt.str_int x t j u _ _ _ _ h
   ·rw [Zrj] at h; exact wpAny_eqBool_str h
 «strs»:=fun k x t v h=>by
  rcases Yi h with ⟨i,u,rfl,e⟩ | ⟨y,u,rfl,e⟩
  ·exact nomatch e
  ·injection e with e1 _
   subst e1;cases v <;> rfl
def Zb0 (prog:Program) (w:World) (i:Int) (t:Tok):(Yz prog w).is (.inl i) (.int i t)=true:=Zhp i t
def Zbz (prog:Program) (w:World) (x:Str) (t:Tok):(Yz prog w).is (.inr x) (.str x t)=true:=Zho x t
inductive V where
 | non | bl (b:Bool) | int (i:Int) | str (x:Str) | byt (b:Array UInt8) | flt (b:UInt64) | ref (a:Addr) | ty (n:String)
 deriving DecidableEq
variable {vs xs ys:List L2.V} {kvs:List (List L2.Key×L2.V)}
def RelV:V->Value->Prop
 | .non,u=>u=Value.none
 | .bl b,u=>u=Value.bool b
 | .int i,u=>∃ t,u=Value.int i t
 | .str x,u=>∃ t,u=Value.str x t
 | .byt b,u=>∃ t,u=Value.bytes b t
 | .flt b,u=>∃ t,u=Value.float b t
 | .ref a,u=>u=Value.ref a
 | .ty n,u=>u=Value.type n
abbrev Vals:List V->List Value->Prop:=Paired RelV
def Vals.length (r:Vals xs us):xs.length=us.length:=Paired.length r
theorem Vals.get:∀ {xs:List V} {us:List Value} {i:Nat} {x:V},Vals xs us->xs[i]?=some x->∃ u,us[i]?=some u/\RelV x u
 | _,_,_,_,.nil,e=>by simp at e
 | _,_,0,_,.cons r _,e=>by simp at e; subst e;exists ·,r
 | _,_,i+1,x,.cons _ t,e=>by
  obtain ⟨u,h1,h2⟩:=Vals.get (i:=i) (x:=x) t (by simpa using e);exists u,by simpa using h1,h2
theorem Vals.set {x:V} {u:Value} (r:RelV x u):∀ {xs:List V} {us:List Value} (i:Nat),Vals xs us->Vals (xs.set i x) (us.set i u)
 | _,_,_,.nil=>.nil
 | _,_,0,.cons _ t=>.cons r t
 | _,_,i+1,.cons q t=>.cons q (Vals.set r i t)
theorem Vals.append:∀ {xs ys:List V} {us ws:List Value},Vals xs us->Vals ys ws->Vals (xs++ys) (us++ws):=by
 intro _ _ _ _ hz9 s;cases hz9 with
 | nil=>
  exact s
 | cons r t=>
  exact .cons r (Vals.append t s)
theorem Vals.take:∀ {xs:List V} {us:List Value} (n:Nat),Vals xs us->Vals (xs.take n) (us.take n)
 | _,_,0,_=>.nil
 | _,_,_+1,.nil=>.nil
 | _,_,n+1,.cons r t=>.cons r (Vals.take n t)
theorem Vals.drop:∀ {xs:List V} {us:List Value} (n:Nat),Vals xs us->Vals (xs.drop n) (us.drop n)
 | _,_,0,r=>r
 | _,_,_+1,.nil=>.nil
 | _,_,n+1,.cons _ t=>Vals.drop n t
def RelO:Option V->Option Value->Prop
 | some v,some u=>RelV v u
 | none,none=>True
 | _,_=>False
def KV :List (κ×V)->List (κ×Value)->Prop:=Paired fun (p:κ×V) (q:κ×Value)=>p.1=q.1/\RelV p.2 q.2
def kV:Key->V
 | .inl i=>.int i
 | .inr x=>.str x
def V6 (h:Heap) (a:Addr) (items:Array Value):Prop:=∃ o,h.get? a=some o/\o.cls=.type "tuple"/\∃ n,o.data=.seq items n/\o.dict=none
def V6.tup {h:Heap} {a:Addr} {items:Array Value} (x:V6 h a items):IsTup h a items:=let ⟨o,e,c,n,d,_⟩:=x; ⟨o,e,c,n,d⟩
def V6.new (h:Heap) (items:Array Value):V6 (h.push { cls:=.type "tuple",data:=.seq items }) h.objs.size items:=⟨_,De _ rfl,rfl,_,rfl,rfl⟩
def V6.lt {a:Addr} {items:Array Value} (x:V6 h a items):a<h.objs.size:=let ⟨_,e,_⟩:=x; Df e
inductive HO where
 | lst (xs:List V)
 | tup (xs:List V)
 | dK (kvs:List (Key×V)) | dT (kvs:List (List Key×V))
 | set (S:Int->Bool) (n:Nat)
 | ins (C dx:Addr) (fs:List (Str×V))
 | own (x:Addr)
 | xd (fs:List (Str×V))
 | met (f x:Addr)
 | rng (lo hi:Int)
 | frz (o:Obj) (u:HO)
 | tbl (ps:Array Value)
 | ext (φ:Heap->Prop)
variable {o:L2.HO}
abbrev Hp:=Addr->Option HO
variable {H I H' H1 I' H2:L2.Hp}
def upd (H:Hp) (a:Addr) (o:HO):Hp:=fun b=>if b=a then some o else H b
def Zd {a:Addr} :upd H a o a=some o:=by unfold upd; rw [if_pos rfl]
def Zl {a:Addr} (h:b≠a):upd H a o b=H b:=by unfold upd; rw [if_neg h]
def Zfh {a:Addr} {u:HO}:upd (upd H a o) a u=upd H a u:=by
 funext b; unfold upd; split <;> rfl
def X7 {a:Addr} {u:HO} (h:H a=some o) (h':H b=some u) (d:o≠u):a≠b:=by
 intro e; subst e; rw [h] at h'; exact d (Dl h')
def Zp {a:Addr} (h:H a=some o) (h':H b=none):a≠b:=by
 intro e; subst e; rw [h] at h'; cases h'
section
variable (P:Program) (w:World)
def Yw (H:Hp) (h:Heap) (a:Addr):HO->Prop
 | .lst xs=>xs.length<=sizeLine/\∃ (its:List Value) (n:Nat),Vals xs its/\h.get? a=some { cls:=.type "list",data:=.seq its.toArray n }
 | .tup xs=>xs.length<=sizeLine/\∃ its:List Value,Vals xs its/\V6 h a its.toArray
 | .dK kvs=>kvs.length<=sizeLine/\(a == sysModules)=false/\∃ vs,KV kvs vs/\h.DictOf (Yz P w) a vs
 | .dT kvs=>kvs.length<=sizeLine/\(a == sysModules)=false/\∃ xs:List (List Key×Addr×Value),
   Paired (fun (p:List Key×V) (q:List Key×Addr×Value)=>p.1=q.1/\H q.2.1=some (.tup (p.1.map kV))/\RelV p.2 q.2.2) kvs xs /\
   ∃ o es ep,h.get? a=some o/\o.ExactDict/\o.data=.dict es ep/\es.toList=xs.map (entryOfKey (tupleKind (Yz P w)))/\(xs.map (·.1)).Nodup
 | .set S n=>h.SetOf (intKind P w) a S n
 | .ins C dx fs=>H dx=some (.own a)/\fs.length<=1000/\dx≠a/\h.get? a=some (W.instObj C dx) /\
   ∃ mA,h.Ns1 dx mA/\(∀ f,RelO (fs.lookup f) (mA f))/\PySem.Within mA (fs.map (·.1))
 | .own _=>∃ o,h.get? a=some o
 | .xd fs=>∃ mA,h.Ns1 a mA/\∀ f,RelO (fs.lookup f) (mA f)
 | .rng lo hi=>∃ t u v,h.get? a=some { cls:=.type "range",data:=.fields #[.int lo t,.int hi u,.int 1 v] }
 | .frz o u=>h.get? a=some o/\Yw H h a u
 | .tbl ps=>h.get? a=some { cls:=.none,data:=.fields ps }
 | .met f x=>h.get? a=some (W.methodObj (.ref f) (.ref x))
 | .ext φ=>φ h/\(∃ o,h.get? a=some o)/\∀ h1 h2:Heap,φ h1->(∀ o,h1.get? a=some o->h2.get? a=some o)->φ h2
def HOk (H:Hp) (h:Heap):Prop:=∀ a o,H a=some o->Yw P w H h a o
end
section
variable {w:World} {a:Addr} 
theorem Yw.lt (x:Yw P w H h a o):a<h.objs.size:=by
 cases o with
 | lst xs=>obtain ⟨_,_,_,_,e⟩:=x; exact Df e
 | tup xs=>obtain ⟨_,_,_,p⟩:=x; exact p.lt
 | dK kvs=>obtain ⟨_,_,_,_,o,_,_,e,_⟩:=x; exact Df e
 | dT kvs=>obtain ⟨_,_,_,_,o,_,_,e,_⟩:=x; exact Df e
 | set S n=>obtain ⟨o,_,_,_,e,_⟩:=x; exact Df e
 | ins C dx fs=>obtain ⟨_,_,_,e,_⟩:=x; exact Df e
 | own y=>obtain ⟨_,e⟩:=x; exact Df e
 | xd fs=>obtain ⟨_,⟨_,_,_,e,_⟩,_⟩:=x; exact Df e
 | rng lo hi=>obtain ⟨_,_,_,e⟩:=x; exact Df e
 | frz ob u=>obtain ⟨e,_⟩:=x; exact Df e
 | tbl ps=>exact Df (show h.get? a=some _ from x)
 | met f y=>exact Df (show h.get? a=some _ from x)
 | ext φ=>obtain ⟨_,⟨_,e⟩,_⟩:=x; exact Df e
theorem Paired.mapP {α:Type} {F G:α->β->Prop}:∀ {l₁:List α} {l₂:List β},Paired F l₁ l₂->(∀ a b,F a b->G a b)->Paired G l₁ l₂
 | _,_,.nil,_=>.nil
 | _,_,.cons r t,f=>.cons (f _ _ r) (Paired.mapP t f)
theorem Yw.stay (x:Yw P w H h a o) (k:∀ b u,(b=a\/H b=some (.own a))->h.get? b=some u->h'.get? b=some u)
  (ho:∀ b,H b=some (.own a)->H' b=some (.own a)) (ht:∀ b xs,H b=some (.tup xs)->H' b=some (.tup xs)):Yw P w H' h' a o:=by
 induction o with
 | lst xs=>obtain ⟨z,its,n,r,e⟩:=x;exists z,its,n,r,k _ _ (.inl rfl) e
 | tup xs=>obtain ⟨z,its,r,ob,e,c⟩:=x;exists z,its,r,ob,k _ _ (.inl rfl) e,c
 | dK kvs=>obtain ⟨z,y,vs,r,ob,es,ep,e,c⟩:=x;exists z,y,vs,r,ob,es,ep,k _ _ (.inl rfl) e,c
 | dT kvs =>
  obtain ⟨z,y,xs,r,ob,es,ep,e,c⟩:=x;exists z,y,xs,Paired.mapP r fun p q z=>⟨z.1,ht _ _ z.2.1,z.2.2⟩,ob,es,ep,k _ _ (.inl rfl) e,c
 | set S n=>obtain ⟨ob,es,ep,t,e,c⟩:=x;exists ob,es,ep,t,k _ _ (.inl rfl) e,c
 | ins C dx fs =>
  obtain ⟨d,z,ne,e,mA,⟨od,es,ep,e2,c⟩,r⟩:=x;exists ho _ d,z,ne,k _ _ (.inl rfl) e,mA,⟨od,es,ep,k _ _ (.inr d) e2,c⟩,r
 | own y=>obtain ⟨ob,e⟩:=x;exists ob,k _ _ (.inl rfl) e
 | xd fs=>obtain ⟨mA,⟨od,es,ep,e,c⟩,r⟩:=x;exists mA,⟨od,es,ep,k _ _ (.inl rfl) e,c⟩,r
 | rng lo hi=>obtain ⟨t,u,v,e⟩:=x;exists t,u,v,k _ _ (.inl rfl) e
 | frz ob u ih=>obtain ⟨e,q⟩:=x;exists k _ _ (.inl rfl) e,ih q
 | tbl ps =>
  have e:h.get? a=some { cls:=.none,data:=.fields ps }:=x;show h'.get? a=some { cls:=.none,data:=.fields ps };exact k a _ (.inl rfl) e
 | met f y =>
  have e:h.get? a=some (W.methodObj (.ref f) (.ref y)):=x;show h'.get? a=some (W.methodObj (.ref f) (.ref y));exact k a _ (.inl rfl) e
 | ext φ=>obtain ⟨p,⟨o,e⟩,st⟩:=x;exists st _ _ p fun o q=>k _ _ (.inl rfl) q,⟨o,k _ _ (.inl rfl) e⟩,st
def HOk.lt (x:HOk P w H h) (e:H a=some o):a<h.objs.size:=(x a o e).lt
theorem HOk.fresh (x:HOk P w H h) (e:h.objs.size<=a):H a=none:=by
 cases q:H a with
 | none=>rfl
 | some u=>exact absurd (Ga (x.lt q) e) (Bi _)
def HOk.kept (x:HOk P w H h) (k:∀ b u,h.get? b=some u->h'.get? b=some u):HOk P w H h':=fun a o e =>
 (x a o e).stay (fun b u _ q=>k b u q) (fun _ q=>q) fun _ _ q=>q
def HOk.laid (x:HOk P w H h) (k:∀ b u,h.get? b=some u->h'.get? b=some u) (hp:h.objs.size<=a) (new:Yw P w (upd H a o) h' a o):HOk P w (upd H a o) h':=fun b u e=>by
 have hn:=x.fresh hp
 by_cases hb:b=a
 ·subst hb; rw [Zd] at e; cases e; exact new
 ·rw [Zl hb] at e;exact (x b u e).stay (fun c v _ q=>k c v q) (fun c q=>by rw [Zl (Zp q hn)]; exact q) fun c xs q=>by rw [Zl (Zp q hn)]; exact q
end
def Rd (H:Hp) (a:Addr) (u:HO):Prop:=H a=some u\/∃ o,H a=some (.frz o u)
def Rd.ok {w:World} {a:Addr} {u:HO} (r:Rd H a u) (x:HOk P w H h):Yw P w H h a u:=by
 rcases r with r | ⟨o,r⟩
 ·exact x a u r
 ·obtain ⟨_,q⟩:=x a _ r;exact q
def Mut:Option HO->Prop
 | some (.lst _)=>True
 | some (.dK _)=>True
 | some (.dT _)=>True
 | some (.set _ _)=>True
 | some (.ins _ _ _)=>True
 | some (.ext _)=>True
 | _=>False
section
variable {w:World} {x e:Addr} {o':HO}
def HOk.write (ok:HOk P w H h) (mu:Mut (H x)) (he:e=x\/H e=some (.own x)) (k:∀ b u,b≠e->h.get? b=some u->h'.get? b=some u) (heo:∃ u,h'.get? e=some u)
  (new:Yw P w (upd H x o') h' x o'):HOk P w (upd H x o') h':=fun b u q=>by
 have nown:∀ c y,H c=some (.own y)->c≠x:=fun c y r z=>by subst z; rw [r] at mu; exact mu
 have ntup:∀ c xs,H c=some (.tup xs)->c≠x:=fun c xs r z=>by subst z; rw [r] at mu; exact mu
 by_cases hb:b=x
 ·subst hb; rw [Zd] at q; cases q; exact new
 ·rw [Zl hb] at q
  by_cases hbe:b=e
  ·have q':H b=some (.own x):=by
    rcases he with z | z
    ·exact absurd (hbe.trans z) hb
    ·rw [hbe]; exact z
   rw [q] at q'; cases q';obtain ⟨v,hv⟩:=heo;exact ⟨v,by rw [hbe]; exact hv⟩
  ·refine (ok b u q).stay (fun c v hc r=>k c v ?_ r) (fun c r=>by rw [Zl (nown c b r)]; exact r) fun c xs r=>by rw [Zl (ntup c xs r)]; exact r
   rcases hc with rfl | hc
   ·exact hbe
   ·rintro rfl;rcases he with z | z
    ·exact nown c b hc z
    ·rw [hc] at z; cases z; exact hb rfl
end
structure Un (fs ex:List Addr) (H H':Hp) (h h':Heap):Prop where
 keep:∀ b o,h.get? b=some o->H b=none->b∉fs->b∉ex->h'.get? b=some o
 slot:∀ b o,h.get? b=some o->H b=none->b∈fs->b∉ex->∃ sl,h'.get? b=some { o with slots:=sl }
 free:∀ b o,h.get? b=some o->H b=none->b∉ex->H' b=none
 there:∀ b o,h.get? b=some o->b∉ex->∃ o',h'.get? b=some o'
 tups:∀ b xs,H b=some (.tup xs)->H' b=some (.tup xs)
 frzs:∀ b o u,H b=some (.frz o u)->H' b=some (.frz o u)
 tbls:∀ b ps,H b=some (.tbl ps)->∃ more,H' b=some (.tbl (ps++more))
section
variable {fs ex:List Addr} {h1 h2:Heap} {a x e:Addr} 
def Un.any (u:Un fs ex H H1 h h1) {ob:Obj} (q:h.get? b=some ob) (n:H b=none) (hx:b∉ex):∃ sl,h1.get? b=some { ob with slots:=sl }:=by
 by_cases hb:b∈fs
 ·exact u.slot b ob q n hb hx
 ·exists ob.slots,u.keep b ob q n hb hx
def Un.trans (a:Un fs ex H H1 h h1) (b:Un fs ex H1 H2 h1 h2):Un fs ex H H2 h h2 where
 keep:=fun c ob q n hc hx=>b.keep c ob (a.keep c ob q n hc hx) (a.free c ob q n hx) hc hx
 slot:=fun c ob q n hc hx=>by
  obtain ⟨sl,e1⟩:=a.slot c ob q n hc hx;obtain ⟨sl',e2⟩:=b.slot c _ e1 (a.free c ob q n hx) hc hx;exists sl',e2
 free:=fun c ob q n hx=>by
  obtain ⟨o',e1⟩:=a.there c ob q hx;exact b.free c o' e1 (a.free c ob q n hx) hx
 there:=fun c ob q hx=>by
  obtain ⟨o',e1⟩:=a.there c ob q hx;exact b.there c o' e1 hx
 tups:=fun c xs q=>b.tups c xs (a.tups c xs q)
 frzs:=fun c ob xs q=>b.frzs c ob xs (a.frzs c ob xs q)
 tbls:=fun c ps q=>by
  obtain ⟨m1,e1⟩:=a.tbls c ps q;obtain ⟨m2,e2⟩:=b.tbls c _ e1;exact ⟨m1++m2,by rw [e2,Array.append_assoc]⟩
def Un.kept (k:∀ b u,h.get? b=some u->h'.get? b=some u):Un fs ex H H h h' :=
 ⟨fun b ob q _ _ _=>k b ob q,fun b ob q _ _ _=>⟨ob.slots,k b ob q⟩,fun _ _ _ n _=>n,fun b ob q _=>⟨ob,k b ob q⟩,fun _ _ q=>q,fun _ _ _ q=>q,fun _ ps q=>⟨#[],by rw [q]; simp⟩⟩
def Un.refl:Un fs ex H H h h:=Un.kept fun _ _ q=>q
def Un.laid (k:∀ b u,h.get? b=some u->h'.get? b=some u) (hp:h.objs.size<=a) (hn:H a=none):Un fs ex H (upd H a o) h h' where
 keep:=fun b u q _ _ _=>k b u q
 slot:=fun b u q _ _ _=>⟨u.slots,k b u q⟩
 free:=fun b u q n _=>by rw [Zl (Gg (Ga (Df q) hp))]; exact n
 there:=fun b u q _=>⟨u,k b u q⟩
 tups:=fun b xs q=>by rw [Zl (Zp q hn)]; exact q
 frzs:=fun b u xs q=>by rw [Zl (Zp q hn)]; exact q
 tbls:=fun b ps q=>⟨#[],by rw [Zl (Zp q hn),q]; simp⟩
def Un.write (mu:Mut (H x)) (he:e=x\/H e=some (.own x)) (k:∀ b u,b≠e->h.get? b=some u->h'.get? b=some u) (heo:∃ u,h'.get? e=some u):Un fs ex H (upd H x o) h h':=by
 have hx:∀ b,H b=none->b≠x:=fun b n z=>by subst z; rw [n] at mu; exact mu
 have hb:∀ b,H b=none->b≠e:=fun b n z=>by
  subst z;rcases he with r | r
  ·exact hx b n r
  ·rw [n] at r; cases r
 have hm:∀ b u,H b=some u->¬ Mut (some u)->b≠x:=fun b u q nm z=>by subst z; rw [q] at mu; exact nm mu
 refine ⟨fun b u q n _ _=>k b u (hb b n) q,fun b u q n _ _=>⟨u.slots,k b u (hb b n) q⟩,fun b u q n _=>by rw [Zl (hx b n)]; exact n,fun b u q _=>?_,
  fun b xs q=>by rw [Zl (hm b _ q fun z=>z)]; exact q,fun b u xs q=>by rw [Zl (hm b _ q fun z=>z)]; exact q,fun b ps q=>⟨#[],by rw [Zl (hm b _ q fun z=>z),q]; simp⟩⟩
 by_cases hbe:b=e
 ·subst hbe; exact heo
 ·exists u,k b u hbe q
end
def trk (h:Heap) (H:Hp):List Addr:=(List.range h.objs.size).filter fun a=>(H a).isSome
def hidT (h:Heap) (H:Hp):Heap:=W.hideAll h (trk h H)
def Zh1 (h:Heap) (H:Hp):(hidT h H).objs.size=h.objs.size:=W.hideAll_size _ _
def Zkq {o:Obj} (e:h.get? b=some o) (n:H b=none):(hidT h H).get? b=some o :=
 W.hideAll_get _ e fun hm=>by
  have q:(H b).isSome=true:=(G4.mp hm).2;rw [n] at q; simp at q
theorem Zny {o:Obj} (e:(hidT h H).get? b=some o):h.get? b=some o/\H b=none:=by
 have e':h.get? b=some o:=W.of_hideAll (trk h H) e;exists e',?_;cases q:H b with
 | none=>rfl
 | some x =>
  have hm:b∈trk h H:=G4.mpr ⟨Fx.mpr (Df e'),by simp [q]⟩;have z:(hidT h H).get? b=none:=W.hideAll_none (trk h H) hm;rw [z] at e; cases e
def Zo7 (g h:Heap) (L:Addr):List (Addr×Obj):=(List.range h.objs.size).filterMap fun a=>if a=L\/(g.get? a).isSome=true then none else (h.get? a).map fun o=>(a,o)
def rest (g h:Heap) (L d:Addr):List (Addr×Obj):=(Zo7 g h L).filter fun p=>decide (p.1≠d)
structure Mod (K:W.Frag) (mg:Str->Option Value) (base:Heap):Prop where
 kin:K.In base
 glob:base.Ns mainGlobals mg
 blt:∃ mb,base.Ns builtinsNs mb/\∀ x:Str,x≠"__name__"->mb x=bootBuiltins x
 nolimit:base.NoLimit
structure Cx where
 prog:Program
 w:World
 K:W.Frag
 mg:Str->Option Value
 base:Heap
 A:Around
 N:List Str
 s₀:Shared
 H₀:Hp
 env:Env
 outer:List Env
 stack:List Env
 ex:List Addr
 fn:Str->Bool
 calm:Bool
 pn:List (Addr×Obj)
 xe:Value->Shared->Prop
variable {X:L2.Cx}
def frs (l:List Env):List Addr:=l.filterMap (·.frame)
abbrev Cx.fs (X:Cx):List Addr:=frs X.outer
def Vis (sc:Scope) (x:Str):Prop:=sc.names.lookup x=some .local\/sc.names.lookup x=some .cell\/sc.names.lookup x=some .free
def Loc (sc:Scope) (x:Str):Prop:=sc.names.lookup x=some .local\/sc.names.lookup x=some .cell
def Look (env:Env) (h:Heap) (m:Str->Option Value) (x:Str) (u:Value):Prop :=
 (env.kindOf x=some .local/\m x=some u)\/((env.kindOf x=some .cell\/env.kindOf x=some .free)/\∃ c,env.cells.lookup x=some c/\h.IsCell c (some u))
structure Cx.Ok (X:Cx):Prop where
 mod:Mod X.K X.mg X.base
 kind:X.env.scope.kind=.function
 glob:X.env.globals=mainGlobals
 blt:X.env.builtins=builtinsNs
 above:X.s₀.heap.objs.size<=X.env.locals
 inj:∀ x y c,X.env.cells.lookup x=some c->X.env.cells.lookup y=some c->x=y
 has:∀ x,(X.env.kindOf x=some .cell\/X.env.kindOf x=some .free)->∃ c,X.env.cells.lookup x=some c
 cab:∀ x c,X.fn x=true->X.env.cells.lookup x=some c->X.s₀.heap.objs.size<=c
 hd:X.calm=true->X.A.handled=none
 frames:X.A.frames=some X.stack
 stk:X.stack=X.outer\/(X.stack=X.env::X.outer/\X.env.frame=some X.env.locals)
 exf:∀ b∈X.ex,b≠X.env.locals/\∀ x c,X.env.cells.lookup x=some c->c≠b
 bs:∀ b o,X.base.get? b=some o->X.s₀.heap.get? b=some o/\X.H₀ b=none
 bsz:X.base.objs.size<=X.s₀.heap.objs.size
 noex:∀ b o,X.base.get? b=some o->b∉X.ex
 exfs:∀ b∈X.ex,b∉X.fs
 funs:X.s₀.heap.FunFrames X.base X.outer
 frf:∀ b∈X.fs,X.H₀ b=none
structure Inv (X:Cx) (pq:List (Addr×Obj)) (σ:List (Option V)) (H:Hp) (s:Shared):Prop where
 ok:X.Ok
 os:s.os=X.s₀.os
 bare:AllBare s.gens
 base:Un X.fs X.ex X.H₀ H X.s₀.heap s.heap
 loc:∃ m,s.heap.Ns X.env.locals m/\∀ (i:Nat) (x:Str) (v:V),X.N[i]?=some x->σ[i]?=some (some v)->Vis X.env.scope x->∃ u,RelV v u/\Look X.env s.heap m x u
 cell:∀ x c,X.env.cells.lookup x=some c->∃ v,s.heap.IsCell c v
 free:H X.env.locals=none
 freeC:∀ x c,X.env.cells.lookup x=some c->H c=none
 pin:∀ p∈X.pn++pq,s.heap.get? p.1=some p.2/\H p.1=none/\p.1≠X.env.locals/\p.1∉X.fs/\∀ v,p.2.data≠.cell v
 hok:HOk X.prog X.w H s.heap
 len:σ.length=X.N.length
section
variable {σ:List (Option V)} 
def Cx.Ok.nofr (ok:X.Ok) {o:Obj} (e:X.base.get? b=some o):b∉X.fs:=fun hb=>by
 have:=(ok.funs.mem hb).1;rw [e] at this; cases this
def Inv.bs (I:Inv X pq σ H s):∀ b o,X.base.get? b=some o->s.heap.get? b=some o/\H b=none:=fun b o e =>
 ⟨I.base.keep b o (I.ok.bs b o e).1 (I.ok.bs b o e).2 (I.ok.nofr e) (I.ok.noex b o e),I.base.free b o (I.ok.bs b o e).1 (I.ok.bs b o e).2 (I.ok.noex b o e)⟩
def Inv.bk (I:Inv X pq σ H s):∀ b o,X.base.get? b=some o->s.heap.get? b=some o:=fun b o e=>(I.bs b o e).1
def Inv.mod (I:Inv X pq σ H s):Mod X.K X.mg X.base:=I.ok.mod
def Inv.kIn (I:Inv X pq σ H s):X.K.In s.heap:=I.ok.mod.kin.keeps I.bk
def Inv.fr (I:Inv X pq σ H s):∃ m,Fr X.base X.env.locals s.heap m :=
 let ⟨m,hn,_⟩:=I.loc
 ⟨m,hn,I.bk,Jv I.ok.bsz I.ok.above⟩
def Inv.lt (I:Inv X pq σ H s):X.env.locals<s.heap.objs.size:=let ⟨_,hn,_⟩:=I.loc; hn.lt
def Inv.sz (I:Inv X pq σ H s):X.s₀.heap.objs.size<=s.heap.objs.size:=Jv I.ok.above (B9 I.lt)
def Inv.nofs (I:Inv X pq σ H s) {a:Addr} (h:s.heap.objs.size<=a):a∉X.fs:=fun hb=>by
 obtain ⟨_,o,ho,_⟩:=I.ok.funs.mem hb;exact absurd (Ga (Df ho) (Jv I.sz h)) (Bi _)
def Inv.cne (I:Inv X pq σ H s):∀ x c,X.env.cells.lookup x=some c->c≠X.env.locals:=fun x c e z=>by
 obtain ⟨v,o,ho,hd⟩:=I.cell x c e;obtain ⟨m,⟨o',es,ep,ho',hd',_⟩,_⟩:=I.loc;rw [z,ho'] at ho; cases ho; rw [hd'] at hd; cases hd
def Inv.funs (I:Inv X pq σ H s):s.heap.FunFrames X.base X.outer:=by
 have all:∀ (l:List Env),(∀ b∈frs l,b∈X.fs)->X.s₀.heap.FunFrames X.base l->s.heap.FunFrames X.base l:=by
  intro l
  induction l with
  | nil=>intro _ _; trivial
  | cons env r ih =>
   intro hs hl;obtain ⟨hk,⟨L,o,hf,hn,ho,hd⟩,hr⟩:=hl;have hL:L∈X.fs:=hs L (by unfold frs; rw [List.filterMap_cons,hf]; exact List.mem_cons_self);obtain ⟨sl,e⟩:=I.base.slot L o ho (I.ok.frf L hL) hL fun z=>I.ok.exfs L z hL;exists hk,⟨L,_,hf,hn,e,hd⟩,ih (fun b hb=>hs b (by unfold frs; rw [List.filterMap_cons,hf]; exact List.mem_cons_of_mem _ hb)) hr
 exact all X.outer (fun _ hb=>hb) I.ok.funs
def Inv.stack (I:Inv X pq σ H s):s.heap.FunFrames X.base X.stack:=by
 rcases I.ok.stk with e | ⟨e,hf⟩
 ·rw [e]; exact I.funs
 ·rw [e];obtain ⟨m,hn,_⟩:=I.loc;refine .cons (by rw [I.ok.kind]; decide) hf hn ?_ I.funs;exact Heap.get?_none_of_le (Jv I.ok.bsz I.ok.above)
def Inv.stkSub (I:Inv X pq σ H s):∀ b∈frs X.stack,b∈X.env.locals::X.fs:=fun b hb=>by
 rcases I.ok.stk with e | ⟨e,hf⟩
 ·rw [e] at hb; exact Jk _ hb
 ·rw [e] at hb;unfold frs at hb;rw [Fb,hf] at hb;exact hb
def Inv.stkFree (I:Inv X pq σ H s):∀ b∈frs X.stack,H b=none:=fun b hb=>by
 rcases Jq.mp (I.stkSub b hb) with e | hb
 ·rw [e]; exact I.free
 ·obtain ⟨_,o,ho,_⟩:=I.ok.funs.mem hb;exact I.base.free b o ho (I.ok.frf b hb) fun z=>I.ok.exfs b z hb
def Inv.step {g':Array GenState} {d':Drawn} (I:Inv X pq σ H s)
  (hch:∀ b∈ch,(b∈X.ex\/X.s₀.heap.objs.size<=b)/\b≠X.env.locals/\(∀ x c,X.env.cells.lookup x=some c->c≠b)/\∀ p∈X.pn++pq,p.1≠b)
  (keep:∀ b o,b≠X.env.locals->b∉X.fs->b∉ch->s.heap.get? b=some o->H b=none->h'.get? b=some o)
  (slot:∀ b o,b≠X.env.locals->b∈X.fs->b∉ch->s.heap.get? b=some o->H b=none->∃ sl,h'.get? b=some { o with slots:=sl }) (free:∀ b o,b∉ch->s.heap.get? b=some o->H b=none->H' b=none)
  (there:∀ b o,b∉ch->s.heap.get? b=some o->∃ o',h'.get? b=some o')
  (tups:∀ b xs,H b=some (.tup xs)->H' b=some (.tup xs)) (frzs:∀ b o u,H b=some (.frz o u)->H' b=some (.frz o u)) (tbls:∀ b ps,H b=some (.tbl ps)->∃ more,H' b=some (.tbl (ps++more)))
  (ns:∀ m,s.heap.Ns X.env.locals m->h'.Ns X.env.locals m) (hok:HOk X.prog X.w H' h') (hg:AllBare g') :
  Inv X pq σ H' { s with heap:=h',gens:=g',drawn:=d',toks:=t' }:=by
 have neL:∀ b o,X.s₀.heap.get? b=some o->b≠X.env.locals:=fun b o e=>Gg (Ga (Df e) I.ok.above);have neC:∀ b o,X.s₀.heap.get? b=some o->b∉X.ex->b∉ch:=fun b o e hx hb=>by
  rcases (hch b hb).1 with z | z
  ·exact hx z
  ·exact absurd (Ga (Df e) z) (Bi _)
 have cellK:∀ x c,X.env.cells.lookup x=some c->∀ v,s.heap.IsCell c v->h'.IsCell c v:=fun x c e v ⟨o,ho,hd⟩=>by
  have nch:c∉ch:=fun z=>(hch c z).2.2.1 x c e rfl
  by_cases hc:c∈X.fs
  ·obtain ⟨sl,q⟩:=slot c o (I.cne x c e) hc nch ho (I.freeC x c e);exists _,q,hd
  ·exists o,keep c o (I.cne x c e) hc nch ho (I.freeC x c e),hd
 exists I.ok,I.os,hg,⟨fun b o e n hb hx=>?_,fun b o e n hb hx=>?_,fun b o e n hx=>?_,fun b o e hx=>?_,fun b xs e=>tups b xs (I.base.tups b xs e),fun b o xs e=>frzs b o xs (I.base.frzs b o xs e),fun b ps e=>?_⟩,?_,fun x c e=>?_,?_,fun x c e=>?_,fun p hp=>?_,hok,I.len
 ·exact keep b o (neL b o e) hb (neC b o e hx) (I.base.keep b o e n hb hx) (I.base.free b o e n hx)
 ·obtain ⟨sl,e1⟩:=I.base.slot b o e n hb hx;obtain ⟨sl',e2⟩:=slot b _ (neL b o e) hb (neC b o e hx) e1 (I.base.free b o e n hx);exists sl',e2
 ·obtain ⟨o',e1⟩:=I.base.there b o e hx;exact free b o' (neC b o e hx) e1 (I.base.free b o e n hx)
 ·obtain ⟨o',e1⟩:=I.base.there b o e hx;exact there b o' (neC b o e hx) e1
 ·obtain ⟨m1,e1⟩:=I.base.tbls b ps e;obtain ⟨m2,e2⟩:=tbls b _ e1;exact ⟨m1++m2,by rw [e2,Array.append_assoc]⟩
 ·obtain ⟨m,hn,hl⟩:=I.loc;exists m,ns m hn,fun i x v e1 e2 e3=>?_;obtain ⟨u,r,l⟩:=hl i x v e1 e2 e3;exists u,r,?_;rcases l with l | ⟨k,c,e,z⟩
  ·exact .inl l
  ·exact .inr ⟨k,c,e,cellK x c e _ z⟩
 ·obtain ⟨v,z⟩:=I.cell x c e;exists v,cellK x c e v z
 ·obtain ⟨m,⟨o,_,_,ho,_⟩,_⟩:=I.loc;exact free _ o (fun z=>(hch _ z).2.1 rfl) ho I.free
 ·obtain ⟨v,o,ho,hd⟩:=I.cell x c e;exact free c o (fun z=>(hch c z).2.2.1 x c e rfl) ho (I.freeC x c e)
 ·obtain ⟨e,n,ne,nf,d⟩:=I.pin p hp;have nch:p.1∉ch:=fun z=>(hch p.1 z).2.2.2 p hp rfl;exists keep p.1 p.2 ne nf nch e n,free p.1 p.2 nch e n,ne,nf,d
def Inv.un (I:Inv X pq σ H s) (u:Un X.fs [] H H' s.heap h') (hok:HOk X.prog X.w H' h'):Inv X pq σ H' { s with heap:=h',toks:=t' }:=by
 obtain ⟨m,⟨o,es,ep,ho,r⟩,_⟩:=id I.loc;obtain ⟨sl,hL⟩:=u.any ho I.free (by simp);exact I.step (g':=s.gens) (d':=s.drawn) (ch:=[]) (fun _ z=>nomatch z) (fun b o _ hb _ e n=>u.keep b o e n hb (by simp)) (fun b o _ hb _ e n=>u.slot b o e n hb (by simp)) (fun b o _ e n=>u.free b o e n (by simp)) (fun b o _ e=>u.there b o e (by simp)) u.tups u.frzs u.tbls (fun m' hm=>by
  obtain ⟨o',es',ep',ho',r'⟩:=hm;rw [ho] at ho'; cases ho';exact ⟨_,es',ep',hL,r'⟩) hok I.bare
def Inv.call {g':Array GenState} {d':Drawn} (I:Inv X pq σ H s) (u:Un (frs X.stack) ch H H' s.heap h') (hok:HOk X.prog X.w H' h') (hg:AllBare g')
  (hch:∀ b∈ch,(b∈X.ex\/X.s₀.heap.objs.size<=b)/\b≠X.env.locals/\(∀ x c,X.env.cells.lookup x=some c->c≠b)/\∀ p∈X.pn++pq,p.1≠b) :
  Inv X pq σ H' { s with heap:=h',gens:=g',drawn:=d',toks:=t' }:=by
 obtain ⟨m,⟨o,es,ep,ho,r⟩,_⟩:=id I.loc;obtain ⟨sl,hL⟩:=u.any ho I.free fun z=>(hch _ z).2.1 rfl;exact I.step (ch:=ch) hch (fun b o hL hb hc e n=>u.keep b o e n (fun z=>(Jq.mp (I.stkSub b z)).elim hL hb) hc) (fun b o _ _ hc e n=>u.any e n hc) (fun b o hc e n=>u.free b o e n hc) (fun b o hc e=>u.there b o e hc) u.tups u.frzs u.tbls (fun m' hm=>by
  obtain ⟨o',es',ep',ho',r'⟩:=hm;rw [ho] at ho'; cases ho';exact ⟨_,es',ep',hL,r'⟩) hok hg
def Inv.turned (I:Inv X pq σ H s) (k:∀ b o,b≠it->s.heap.get? b=some o->h'.get? b=some o) (hn:H it=none) (hL:it≠X.env.locals)
  (h1:it∈X.ex\/X.s₀.heap.objs.size<=it) (h2:∀ x c,X.env.cells.lookup x=some c->c≠it) (h3:∀ p∈X.pn++pq,p.1≠it):Inv X pq σ H { s with heap:=h',toks:=t' }:=by
 have nit:∀ b u,H b=some u->b≠it:=fun b u e z=>by rw [z,hn] at e; cases e
 refine I.step (g':=s.gens) (d':=s.drawn) (ch:=[it]) (fun b hb=>?_) (fun b o _ _ hc e _=>k b o (fun z=>hc (by simp [z])) e) (fun b o _ _ hc e _=>⟨o.slots,k b o (fun z=>hc (by simp [z])) e⟩) (fun _ _ _ _ n=>n)
  (fun b o hc e=>⟨o,k b o (fun z=>hc (by simp [z])) e⟩) (fun _ _ e=>e) (fun _ _ _ e=>e) (fun b ps e=>⟨#[],by rw [e]; simp⟩) (fun m hm=>?_) (fun b u e=>?_) I.bare
 ·have e:b=it:=by simpa using hb
  subst e;exists h1,hL,h2,h3
 ·obtain ⟨o,es,ep,ho,r⟩:=hm;exists o,es,ep,k _ o (Ne.symm hL) ho,r
 ·refine (I.hok b u e).stay (fun c v hc q=>k c v ?_ q) (fun _ q=>q) fun _ _ q=>q;rcases hc with z | z
  ·rw [z]; exact nit b u e
  ·exact nit c _ z
def Inv.tok (I:Inv X pq σ H s) (t:Nat):Inv X pq σ H { s with toks:=t }:=I.un (h':=s.heap) (t':=t) Un.refl I.hok
def Inv.kept (I:Inv X pq σ H s) (k:∀ b u,s.heap.get? b=some u->h'.get? b=some u):Inv X pq σ H { s with heap:=h',toks:=t' }:=I.un (Un.kept k) (I.hok.kept k)
def Inv.laid {a:Addr} (I:Inv X pq σ H s) (k:∀ b u,s.heap.get? b=some u->h'.get? b=some u) (hp:s.heap.objs.size<=a) (new:Yw X.prog X.w (upd H a o) h' a o) :
  Inv X pq σ (upd H a o) { s with heap:=h',toks:=t' }:=I.un (Un.laid k hp (I.hok.fresh hp)) (I.hok.laid k hp new)
def Inv.write {x e:Addr} (I:Inv X pq σ H s) (mu:Mut (H x)) (he:e=x\/H e=some (.own x)) (k:∀ b u,b≠e->s.heap.get? b=some u->h'.get? b=some u) (heo:∃ u,h'.get? e=some u)
  (new:Yw X.prog X.w (upd H x o) h' x o):Inv X pq σ (upd H x o) { s with heap:=h',toks:=t' }:=I.un (Un.write mu he k heo) (I.hok.write mu he k heo new)
def Inv.weak {σ':List (Option V)} (I:Inv X pq σ H s) (hl:σ'.length=σ.length) (w:∀ (i:Nat) v,σ'[i]?=some (some v)->σ[i]?=some (some v)):Inv X pq σ' H s :=
 ⟨I.ok,I.os,I.bare,I.base,let ⟨m,hn,hl'⟩:=I.loc; ⟨m,hn,fun i x v e1 e2 e3=>hl' i x v e1 (w i v e2) e3⟩,I.cell,I.free,I.freeC,I.pin,I.hok,hl.trans I.len⟩
def Inv.pins_of {pins':List (Addr×Obj)} (I:Inv X pq σ H s) (h:∀ p∈pins',s.heap.get? p.1=some p.2/\H p.1=none/\p.1≠X.env.locals/\p.1∉X.fs/\∀ v,p.2.data≠.cell v):Inv X pins' σ H s :=
 ⟨I.ok,I.os,I.bare,I.base,I.loc,I.cell,I.free,I.freeC,fun p hp=>(Gc.mp hp).elim (fun z=>I.pin p (Bc _ z)) (h p),I.hok,I.len⟩
def Zdh (hN:N.Nodup) {i:Nat} {x:Str} (a:N[i]?=some x) (b:N[j]?=some x):i=j:=by
 obtain ⟨h1,e1⟩:=Jh.mp a;obtain ⟨h2,e2⟩:=Jh.mp b;exact (Bl hN).mp (e1.trans e2.symm)
def Nq {M:Model} {i:Nat} {x:Str} {v:V} {u:Value} {Q:Unit->Shared->Prop} (I:Inv X pq σ H s) (hN:X.N.Nodup) (hi:X.N[i]?=some x) (hx:Loc X.env.scope x) (r:RelV v u)
  (h:∀ s',Inv X pq (σ.set i (some v)) H s'->(∃ a,Heap.SameBut a s.heap s'.heap/\(a=X.env.locals\/X.env.cells.lookup x=some a))->Q () s') (hf:X.fn x=true\/X.env.scope.names.lookup x=some .local:=by first | exact .inl rfl | exact .inr rfl | assumption):wpAny M A (storeName X.env x u) Q E s:=by
 obtain ⟨m,hn,hl⟩:=id I.loc;have hcls:(X.env.scope.kind == .class || (X.env.scope.kind == .module && X.env.locals != X.env.globals))=false:=by rw [I.ok.kind]; rfl
 have hiσ:i < σ.length:=by rw [I.len]; exact (Jh.mp hi).1
 have cne:=I.cne;have tracked:∀ {a:Addr} {h':Heap},(∃ o,s.heap.get? a=some o/\H a=none)->Heap.SameBut a s.heap h'->HOk X.prog X.w H h':=fun {a h'} ha hs b ob e=>by
  obtain ⟨_,_,hfree⟩:=ha;refine (I.hok b ob e).stay (fun c w' hc q=>(hs.2 c ?_).trans q) (fun _ q=>q) fun _ _ q=>q;rintro rfl;rcases hc with rfl | hc
  ·rw [hfree] at e; cases e
  ·rw [hfree] at hc; cases hc
 rcases hx with hk | hk
 ·refine wpAny_storeName_local hk hn (fun h' hn' hs=>?_) hcls;obtain ⟨oL,_,_,hoL,_⟩:=id hn;refine h _ ⟨I.ok,I.os,I.bare,⟨fun b o e n hb hx=>?_,fun b o e n hb hx=>?_,I.base.free,fun b o e hx=>?_,I.base.tups,I.base.frzs,I.base.tbls⟩,⟨_,hn',fun j y v' e1 e2 e3=>?_⟩,fun y c e=>?_,I.free,I.freeC,fun p hp=>?_,tracked ⟨oL,hoL,I.free⟩ hs,by simpa using I.len⟩ ⟨_,hs,.inl rfl⟩
  ·exact (hs.2 b (Gg (Ga (Df e) I.ok.above))).trans (I.base.keep b o e n hb hx)
  ·obtain ⟨sl,e1⟩:=I.base.slot b o e n hb hx;exists sl,(hs.2 b (Gg (Ga (Df e) I.ok.above))).trans e1
  ·obtain ⟨o',e1⟩:=I.base.there b o e hx;exists o',(hs.2 b (Gg (Ga (Df e) I.ok.above))).trans e1
  ·by_cases hj:j=i
   ·subst hj;rw [hi] at e1; cases e1;rw [Jy hiσ] at e2;cases e2;exists u,r,.inl ⟨hk,by simp⟩
   ·rw [Gk (Ne.symm hj)] at e2;obtain ⟨u',r',q⟩:=hl j y v' e1 e2 e3;exists u',r',?_;rcases q with ⟨k,e⟩ | ⟨k,c,e,z⟩
    ·refine .inl ⟨k,?_⟩;have:y≠x:=fun e=>hj (Zdh hN e1 (e ▸ hi));simp [this,e]
    ·exact .inr ⟨k,c,e,z.sameBut hs (cne y c e)⟩
  ·obtain ⟨w',z⟩:=I.cell y c e;exists w',z.sameBut hs (cne y c e)
  ·obtain ⟨e,n,ne,nf,d⟩:=I.pin p hp;exists (hs.2 p.1 ne).trans e,n,ne,nf,d
 ·have hfn:X.fn x=true:=by
   rcases hf with z | z
   ·exact z
   ·rw [z] at hk; cases hk
  obtain ⟨c,hc⟩:=I.ok.has x (.inl hk);obtain ⟨w',z⟩:=I.cell x c hc;refine wpAny_storeName_cell I.ok.kind hk hc z (fun h' hc' hs=>?_);obtain ⟨oc,hoc,hocd⟩:=id z;refine h { s with heap:=h' } ⟨I.ok,I.os,I.bare,⟨fun b o e n hb hx=>?_,fun b o e n hb hx=>?_,I.base.free,fun b o e hx=>?_,I.base.tups,I.base.frzs,I.base.tbls⟩,⟨m,hn.sameBut hs (Ne.symm (cne x c hc)),fun j y v' e1 e2 e3=>?_⟩,fun y c' e=>?_,I.free,I.freeC,fun p hp=>?_,tracked ⟨oc,hoc,I.freeC x c hc⟩ hs,by simpa using I.len⟩ ⟨c,hs,.inr hc⟩
  ·exact (hs.2 b (Gg (Ga (Df e) (I.ok.cab x c hfn hc)))).trans (I.base.keep b o e n hb hx)
  ·obtain ⟨sl,e1⟩:=I.base.slot b o e n hb hx;exists sl,(hs.2 b (Gg (Ga (Df e) (I.ok.cab x c hfn hc)))).trans e1
  ·obtain ⟨o',e1⟩:=I.base.there b o e hx;exists o',(hs.2 b (Gg (Ga (Df e) (I.ok.cab x c hfn hc)))).trans e1
  ·by_cases hj:j=i
   ·subst hj;rw [hi] at e1; cases e1;rw [Jy hiσ] at e2;cases e2;exists u,r,.inr ⟨.inl hk,c,hc,hc'⟩
   ·rw [Gk (Ne.symm hj)] at e2;obtain ⟨u',r',q⟩:=hl j y v' e1 e2 e3;exists u',r',?_;rcases q with q | ⟨k,c',e,z'⟩
    ·exact .inl q
    ·refine .inr ⟨k,c',e,z'.sameBut hs ?_⟩;rintro rfl;exact hj (Zdh hN e1 (I.ok.inj _ _ _ e hc ▸ hi))
  ·by_cases hcc:c'=c
   ·subst hcc;exists _,hc'
   ·obtain ⟨w2,z2⟩:=I.cell y c' e;exists w2,z2.sameBut hs hcc
  ·obtain ⟨e,n,ne,nf,d⟩:=I.pin p hp;exists (hs.2 p.1 ?_).trans e,n,ne,nf,d;intro q;rw [q,hoc] at e;have q':oc=p.2:=Dl e;exact d w' (by rw [<- q']; exact hocd)
def Sn {M:Model} {i:Nat} {x:Str} {v:V} {u:Value} {Q:Unit->Shared->Prop} (I:Inv X pq σ H s) (hN:X.N.Nodup) (hi:X.N[i]?=some x) (hx:Loc X.env.scope x) (r:RelV v u)
  (h:∀ s',Inv X pq (σ.set i (some v)) H s'->Q () s') (hf:X.fn x=true\/X.env.scope.names.lookup x=some .local:=by first | exact .inl rfl | exact .inr rfl | assumption):wpAny M A (storeName X.env x u) Q E s :=
 Nq I hN hi hx r (fun s' I' _=>h s' I') hf
def Inv.call' {s':Shared} (I:Inv X pq σ H s) (ho:s'.os=s.os) (u:Un (frs X.stack) ch H H' s.heap s'.heap) (hok:HOk X.prog X.w H' s'.heap) (hg:AllBare s'.gens)
  (hch:∀ b∈ch,(b∈X.ex\/X.s₀.heap.objs.size<=b)/\b≠X.env.locals/\(∀ x c,X.env.cells.lookup x=some c->c≠b)/\∀ p∈X.pn++pq,p.1≠b):Inv X pq σ H' s':=by
 obtain ⟨h',g',d',t',o'⟩:=s';have e:o'=s.os:=ho;subst e;exact I.call (g':=g') (t':=t') (d':=d') u hok hg hch
end
abbrev XK:=Value->Option Addr->Hp->Prop
abbrev St:=List (Option V)
variable {σ:L2.St}
abbrev VK:=V->Hp->Prop
variable {Q:L2.VK}
abbrev TE:=St->Hp->VK->Prop
variable {te ta tb:L2.TE}
abbrev TT:=St->Hp->(Bool->Hp->Prop)->Prop
abbrev TA:=St->Hp->(List V->Hp->Prop)->Prop
structure Ends where
 nx:St->Hp->Prop
 rt:VK
 bk:St->Hp->Prop:=fun _ _=>False
 ct:St->Hp->Prop:=fun _ _=>False
abbrev TS:=Ends->St->Hp->Prop
def EP (X:Cx) (pq:List (Addr×Obj)) (σ:St) (Q:VK) (u:Value) (s':Shared):Prop:=∃ v H',Inv X pq σ H' s'/\RelV v u/\Q v H'
def TP (X:Cx) (pq:List (Addr×Obj)) (σ:St) (Q:Bool->Hp->Prop) (b:Bool) (s':Shared):Prop:=∃ H',Inv X pq σ H' s'/\Q b H'
def AP (X:Cx) (pq:List (Addr×Obj)) (σ:St) (Q:List V->Hp->Prop) (us:List Value) (s':Shared):Prop:=∃ vs H',Inv X pq σ H' s'/\Vals vs us/\Q vs H'
def SP (X:Cx) (pq:List (Addr×Obj)) (D:Ends) (f:Flow) (s':Shared):Prop :=
 match f with
 | .next=>∃ σ' H',Inv X pq σ' H' s'/\D.nx σ' H'
 | .brk=>∃ σ' H',Inv X pq σ' H' s'/\D.bk σ' H'
 | .cont=>∃ σ' H',Inv X pq σ' H' s'/\D.ct σ' H'
 | .ret u=>∃ v σ' H',Inv X pq σ' H' s'/\RelV v u/\D.rt v H'
def PE (X:Cx) (e:Expr) (t:TE):Prop :=
 ∀ (pq:List (Addr×Obj)) (s:Shared) (σ:St) (H:Hp) (Q:VK),Inv X pq σ H s->t σ H Q->wpAny (model X.prog X.w) X.A (eval e X.env) (EP X pq σ Q) X.xe s
def PT (X:Cx) (e:Expr) (t:TT):Prop :=
 ∀ (pq:List (Addr×Obj)) (s:Shared) (σ:St) (H:Hp) (Q:Bool->Hp->Prop),Inv X pq σ H s->t σ H Q->wpAny (model X.prog X.w) X.A (isTrue e X.env (eval e X.env)) (TP X pq σ Q) X.xe s
def PW (X:Cx) (e:Expr) (t:TT):Prop :=
 ∀ (whole:Sem Value) (pq:List (Addr×Obj)) (s:Shared) (σ:St) (H:Hp) (Q:Bool->Hp->Prop),Inv X pq σ H s->t σ H Q->wpAny (model X.prog X.w) X.A (isTrue e X.env whole) (TP X pq σ Q) X.xe s
def PW.pt {e:Expr} {t:TT} (h:PW X e t):PT X e t:=h _
def PA (X:Cx) (es:List Expr) (t:TA):Prop :=
 ∀ (pos:Pos) (pq:List (Addr×Obj)) (s:Shared) (σ:St) (H:Hp) (Q:List V->Hp->Prop),Inv X pq σ H s->t σ H Q->wpAny (model X.prog X.w) X.A (spliced (backTo pos (starEach es X.env))) (AP X pq σ Q) X.xe s
def PS (X:Cx) (st:Stmt) (t:TS):Prop :=
 ∀ (pq:List (Addr×Obj)) (s:Shared) (σ:St) (H:Hp) (D:Ends),Inv X pq σ H s->t D σ H->wpAny (model X.prog X.w) X.A (exec st X.env) (SP X pq D) X.xe s
def PSs (X:Cx) (st:List Stmt) (t:TS):Prop :=
 ∀ (pq:List (Addr×Obj)) (s:Shared) (σ:St) (H:Hp) (D:Ends),Inv X pq σ H s->t D σ H->wpAny (model X.prog X.w) X.A (execs st X.env) (SP X pq D) X.xe s
def thn {α:Type} {t:Sem α} {Q Q':α->Shared->Prop} {M:Model} (h:wpAny M A t Q E s) (hQ:∀ a s,Q a s->Q' a s):wpAny M A t Q' E s:=Dn h hQ fun _ _ x=>x
section
def tVar (i:Nat):TE:=fun σ H Q=>∃ v,σ[i]?=some (some v)/\Q v H
def tC (v:V):TE:=fun _ H Q=>Q v H
def Zq4 {i:Nat} {x:Str} (hN:X.N[i]?=some x) (hv:Vis X.env.scope x) (hd:(x == ("__debug__":Str))=false:=by decide) (hcd:(x == ("__classdict__":Str))=false:=by decide):PE X (.Name x pos) (tVar i):=by
 intro pq s σ H Q I h;obtain ⟨v,e,h⟩:=h;obtain ⟨m,hn,hl⟩:=I.loc;obtain ⟨u,r,l⟩:=hl i x v hN e hv;have fin:EP X pq σ Q u s:=⟨v,H,I,r,h⟩;rcases l with ⟨hk,hm⟩ | ⟨hk,c,hc,hcell⟩
 ·exact wpAny_Name (wpAny_loadName_local I.ok.kind hk hn hm fin) hd
 ·rcases hk with hk | hk
  ·exact wpAny_Name (wpAny_loadName_cell I.ok.kind hk hc hcell fin) hd
  ·exact wpAny_Name (wpAny_loadName_free I.ok.kind hk hc hcell fin hcd) hd
def Zi {i j pos}:PE X (.Constant (.int i) j pos) (tC (.int i)):=fun _ _ _ H _ I h=>wpAny_Constant_int ⟨.int i,H,I.tok _,⟨_,rfl⟩,h⟩
def Zbu {b j pos}:PE X (.Constant (.bool b) j pos) (tC (.bl b)):=fun _ _ _ H _ I h=>Constant_bool ⟨.bl b,H,I,rfl,h⟩
def Qv {j pos}:PE X (.Constant .none j pos) (tC .non):=fun _ _ _ H _ I h=>Constant_none ⟨.non,H,I,rfl,h⟩
def Vx {x j pos}:PE X (.Constant (.str x) j pos) (tC (.str x)):=fun _ _ _ H _ I h=>Calls.Constant_str ⟨.str x,H,I.tok _,⟨_,rfl⟩,h⟩
def Gl (X:Cx) (x:Str):Prop:=X.env.kindOf x=some .globalImplicit
def Vz {x:Str} {u:Value} {Q:Value->Shared->Prop} (I:Inv X pq σ H s) (hg:Gl X x) (hm:X.mg x=some u) (h:Q u s)
  (hd:(x == ("__debug__":Str))=false:=by decide):wpAny (model X.prog X.w) X.A (eval (.Name x pos) X.env) Q E s :=
 Calls.Name_function_global I.ok.kind hg (Calls.loadGlobal_global (by rw [I.ok.glob]; exact I.mod.glob.keeps I.bk) hm h) hd
def Sg {x:Str} {u:Value} {Q:Value->Shared->Prop} (I:Inv X pq σ H s) (hg:Gl X x) (hm:X.mg x=none) (hv:bootBuiltins x=some u) (h:Q u s)
  (hn:x≠"__name__":=by decide) (hd:(x == ("__debug__":Str))=false:=by decide):wpAny (model X.prog X.w) X.A (eval (.Name x pos) X.env) Q E s:=by
 obtain ⟨mb,h1,h2⟩:=I.mod.blt;exact Calls.Name_function_global I.ok.kind hg (Calls.loadGlobal_builtin (by rw [I.ok.glob]; exact I.mod.glob.keeps I.bk) hm (by rw [I.ok.blt]; exact h1.keeps I.bk) ((h2 x hn).trans hv) h) hd
def Znw {x:Str} {v:V} {u:Value} (hg:Gl X x) (hm:X.mg x=none) (hv:bootBuiltins x=some u) (r:RelV v u) (hn:x≠"__name__":=by decide) (hd:(x == ("__debug__":Str))=false:=by decide):PE X (.Name x pos) (tC v) :=
 fun _ _ _ H _ I h=>Sg I hg hm hv ⟨v,H,I,r,h⟩ hn hd
variable {a b:Expr} 
def PC (X:Cx) (op:CmpOp) (a b:Expr) (t:TE):Prop :=
 ∀ (pq:List (Addr×Obj)) (s:Shared) (σ:St) (H:Hp) (Q:VK),Inv X pq σ H s->t σ H Q ->
  wpAny (model X.prog X.w) X.A (eval a X.env) (fun v s₁=>wpAny (model X.prog X.w) X.A (eval b X.env) (fun u s₂=>wpAny (model X.prog X.w) X.A (compareOp op v u) (EP X pq σ Q) X.xe s₂) X.xe s₁) X.xe s
def Zka (b:Expr) {op:CmpOp} (h:op≠.In) (h2:op≠.NotIn):behindInMarks op b=false:=by
 have e1:(op == CmpOp.In)=false:=by cases op <;> first | rfl | exact absurd rfl h
 have e2:(op == CmpOp.NotIn)=false:=by cases op <;> first | rfl | exact absurd rfl h2
 cases b <;> simp [behindInMarks,e1,e2]
def tIsN (ta:TE):TE:=fun σ H Q=>ta σ H fun x H1=>Q (.bl (decide (x=.non))) H1
def Zp6 (ta:TE):TE:=fun σ H Q=>ta σ H fun x H1=>Q (.bl (!decide (x=.non))) H1
theorem RelV.none_iff {x:V} {v:Value} (r:RelV x v):(v == Value.none)=decide (x=.non):=by
 cases x with
 | non=>cases r; rfl
 | bl _=>cases r; rfl
 | int _=>obtain ⟨t,rfl⟩:=r; rfl
 | str _=>obtain ⟨t,rfl⟩:=r; rfl
 | byt _=>obtain ⟨t,rfl⟩:=r; rfl
 | flt _=>obtain ⟨t,rfl⟩:=r; rfl
 | ref _=>cases r; rfl
 | ty _=>cases r; rfl
def Zg3 {j pos'} (ha:PE X a ta):PC X .Is a (.Constant .none j pos') (tIsN ta):=by
 intro pq s σ H Q I h;refine thn (ha pq s σ H _ I h) fun v s1 hz=>?_;obtain ⟨x,H1,I1,r1,q1⟩:=hz;exact Constant_none (is_none_gen ⟨.bl _,H1,I1,by rw [r1.none_iff]; rfl,q1⟩)
def Rh {j pos'} (ha:PE X a ta):PC X .IsNot a (.Constant .none j pos') (Zp6 ta):=by
 intro pq s σ H Q I h;refine thn (ha pq s σ H _ I h) fun v s1 hz=>?_;obtain ⟨x,H1,I1,r1,q1⟩:=hz;exact Constant_none (isnot_none_gen ⟨.bl _,H1,I1,by rw [r1.none_iff]; rfl,q1⟩)
def tB (t:TE):TT:=fun σ H Q=>t σ H fun x H1=>∃ c,x=.bl c/\Q c H1
def Vp {op:CmpOp} {t:TE} (h:PC X op a b t) (h1:behindInMarks op b=false:=by first | exact Zka _ nofun nofun | rfl):PT X (.Compare a [op] [b] pos) (tB t):=by
 intro pq s σ H Q I hw;refine wpAny_isTrue_Compare1 (thn (h pq s σ H _ I hw) fun v s1 h1=>thn h1 fun u s2 h2=>thn h2 fun c s3 hz=>?_) h1;obtain ⟨x,H1,I1,r1,q1⟩:=hz;obtain ⟨d,rfl,q⟩:=q1;cases r1;exact wpAny_truthy_bool ⟨H1,I1,q⟩
def Zgq {e:Expr} {t:TE} (h:PE X e t) (he:∀ whole,isTrue e X.env whole=(do let v <- whole; standAt e.pos; holding [v] (truthy v)):=by intro _; rfl):PT X e (tB t):=by
 intro pq s σ H Q I hw;refine isTrue_plain (thn (h pq s σ H _ I hw) fun v s1 hz=>?_) (he _);obtain ⟨x,H1,I1,r1,q1⟩:=hz;obtain ⟨d,rfl,q⟩:=q1;cases r1;exact wpAny_truthy_bool ⟨H1,I1,q⟩
variable {tA tB':TT} {rest:List Expr}
def tAnd (t u:TT):TT:=fun σ H Q=>t σ H fun c H1=>if c=true then u σ H1 Q else Q false H1
def tOr (t u:TT):TT:=fun σ H Q=>t σ H fun c H1=>if c=true then Q true H1 else u σ H1 Q
def tNot (t:TT):TT:=fun σ H Q=>t σ H fun c H1=>Q (!c) H1
theorem Zbp (ha:PT X a tA):PW X (.BoolOp .And [a] pos) tA:=by
 intro wh pq s σ H Q I h;refine isTrue_and (thn (ha pq s σ H Q I h) fun c s1 e=>?_);cases c with
 | true=>exact isTrue_and_nil e
 | false=>exact e
theorem Zlw (ha:PT X a tA):PW X (.BoolOp .Or [a] pos) tA:=by
 intro wh pq s σ H Q I h;refine isTrue_or (thn (ha pq s σ H Q I h) fun c s1 e=>?_);cases c with
 | false=>exact isTrue_or_nil e
 | true=>exact e
theorem Zgp (ha:PT X a tA) (hb:PW X (.BoolOp .And (b::rest) pos) tB'):PW X (.BoolOp .And (a::b::rest) pos) (tAnd tA tB'):=by
 intro wh pq s σ H Q I h;refine isTrue_and (thn (ha pq s σ H _ I h) fun c s1 hz=>?_);obtain ⟨H1,I1,q1⟩:=hz;cases c with
 | true=>exact hb wh pq s1 σ H1 Q I1 q1
 | false=>exact ⟨H1,I1,q1⟩
theorem Zq0 (ha:PT X a tA) (hb:PW X (.BoolOp .Or (b::rest) pos) tB'):PW X (.BoolOp .Or (a::b::rest) pos) (tOr tA tB'):=by
 intro wh pq s σ H Q I h;refine isTrue_or (thn (ha pq s σ H _ I h) fun c s1 hz=>?_);obtain ⟨H1,I1,q1⟩:=hz;cases c with
 | true=>exact ⟨H1,I1,q1⟩
 | false=>exact hb wh pq s1 σ H1 Q I1 q1
def Zgr (ha:PT X a tA):PT X (.UnaryOp .Not a pos) (tNot tA):=by
 intro pq s σ H Q I h;exact isTrue_not (ha pq s σ H (fun c H1=>Q (!c) H1) I h)
end
def SqL (K:W.Frag) (H:Hp) (a:Addr) (xs:List V):Prop :=
 Rd H a (.lst xs) \/
  ∃ (o:Obj) (its:Array Value) (n:Nat),K.lookup a=some o/\o.cls=.type "list"/\o.dict=none/\o.data=.seq its n/\its.size<=sizeLine/\Vals xs its.toList
def SqT (K:W.Frag) (H:Hp) (a:Addr) (xs:List V):Prop :=
 Rd H a (.tup xs) \/
  ∃ (o:Obj) (its:Array Value) (n:Nat),K.lookup a=some o/\o.cls=.type "tuple"/\o.data=.seq its n/\its.size<=sizeLine/\Vals xs its.toList
def absV:Value->Option V
 | .none=>some .non
 | .bool b=>some (.bl b)
 | .int i _=>some (.int i)
 | .str x _=>some (.str x)
 | .bytes b _=>some (.byt b)
 | .float b _=>some (.flt b)
 | .ref a=>some (.ref a)
 | .type n=>some (.ty n)
 | _=>none
theorem RelV.abs {x:V} {u:Value} (r:RelV x u):absV u=some x:=by
 cases x with
 | non=>cases r; rfl
 | bl _=>cases r; rfl
 | int _=>obtain ⟨t,rfl⟩:=r; rfl
 | str _=>obtain ⟨t,rfl⟩:=r; rfl
 | byt _=>obtain ⟨t,rfl⟩:=r; rfl
 | flt _=>obtain ⟨t,rfl⟩:=r; rfl
 | ref _=>cases r; rfl
 | ty _=>cases r; rfl
def RelV.inj {x y:V} {u:Value} (r:RelV x u) (q:RelV y u):x=y:=Dl (r.abs.symm.trans q.abs)
theorem Vals.inj:∀ {xs ys:List V} {us:List Value},Vals xs us->Vals ys us->xs=ys:=by
 intro _ _ _ hz9 hz8;cases hz9 with
 | nil=>
  cases hz8 with
  | nil=>
   exact rfl
 | cons r t=>
  cases hz8 with
  | cons r' t'=>
   exact by rw [r.inj r',Vals.inj t t']
section
variable {a:Addr} 
def SqL.of (h:H a=some (.lst xs)):SqL K H a xs:=.inl (.inl h)
def SqT.of (h:H a=some (.tup xs)):SqT K H a xs:=.inl (.inl h)
theorem Inv.list (I:Inv X pq σ H s) (h:SqL X.K H a xs):∃ its:List Value,Vals xs its/\PlainL s.heap a its.toArray/\xs.length<=sizeLine:=by
 rcases h with h | ⟨o,its,n,hk,hc,hd,hs,hz,r⟩
 ·obtain ⟨z,its,n,r,e⟩:=h.ok I.hok;exists its,r,⟨_,n,e,rfl,rfl,rfl⟩,z
 ·exists its.toList,r,⟨o,n,I.kIn a o hk,hc,hd,by simpa using hs⟩,?_;have e:=r.length;simp only [Bs] at e;lia
theorem Inv.tuple (I:Inv X pq σ H s) (h:SqT X.K H a xs):∃ its:List Value,Vals xs its/\IsTup s.heap a its.toArray/\xs.length<=sizeLine:=by
 rcases h with h | ⟨o,its,n,hk,hc,hs,hz,r⟩
 ·obtain ⟨z,its,r,p⟩:=h.ok I.hok;exists its,r,p.tup,z
 ·exists its.toList,r,⟨o,I.kIn a o hk,hc,n,by simpa using hs⟩,?_;have e:=r.length;simp only [Bs] at e;lia
def Inv.list_inj (I:Inv X pq σ H s) (h:SqL X.K H a xs) (h':SqL X.K H a ys):xs=ys:=by
 obtain ⟨its,r,⟨o,n,e,_,_,d⟩,_⟩:=I.list h;obtain ⟨its',r',⟨o',n',e',_,_,d'⟩,_⟩:=I.list h';rw [e] at e'; cases e';rw [d] at d';injection d' with d1 _
 have:its=its':=by simpa using congrArg Array.toList d1
 subst this;exact r.inj r'
def Inv.tuple_inj (I:Inv X pq σ H s) (h:SqT X.K H a xs) (h':SqT X.K H a ys):xs=ys:=by
 obtain ⟨its,r,⟨o,e,_,n,d⟩,_⟩:=I.tuple h;obtain ⟨its',r',⟨o',e',_,n',d'⟩,_⟩:=I.tuple h';rw [e] at e'; cases e';rw [d] at d';injection d' with d1 _
 have:its=its':=by simpa using congrArg Array.toList d1
 subst this;exact r.inj r'
end
abbrev Cx.wish (X:Cx) (E:Value->Shared->Prop):Cx:={ X with xe:=E }
abbrev Cx.nox (X:Cx):Cx:=X.wish fun _ _=>False
def Cx.Ok.wish (ok:X.Ok) (E:Value->Shared->Prop):(X.wish E).Ok :=
 ⟨ok.mod,ok.kind,ok.glob,ok.blt,ok.above,ok.inj,ok.has,ok.cab,ok.hd,ok.frames,ok.stk,ok.exf,ok.bs,ok.bsz,ok.noex,ok.exfs,ok.funs,ok.frf⟩
def Cx.Ok.unwish (ok:(X.wish E).Ok):X.Ok :=
 ⟨ok.mod,ok.kind,ok.glob,ok.blt,ok.above,ok.inj,ok.has,ok.cab,ok.hd,ok.frames,ok.stk,ok.exf,ok.bs,ok.bsz,ok.noex,ok.exfs,ok.funs,ok.frf⟩
section
def Inv.wish (I:Inv X pq σ H s) (E:Value->Shared->Prop):Inv (X.wish E) pq σ H s:=⟨I.ok.wish E,I.os,I.bare,I.base,I.loc,I.cell,I.free,I.freeC,I.pin,I.hok,I.len⟩
def Inv.unwish (I:Inv (X.wish E) pq σ H s):Inv X pq σ H s:=⟨I.ok.unwish,I.os,I.bare,I.base,I.loc,I.cell,I.free,I.freeC,I.pin,I.hok,I.len⟩
theorem SP.unwish {D:Ends} {f:Flow} {s':Shared} (h:SP (X.wish E) pq D f s'):SP X pq D f s':=by
 cases f with
 | next=>obtain ⟨σ',H',I,q⟩:=h;exists σ',H',I.unwish,q
 | brk=>obtain ⟨σ',H',I,q⟩:=h;exists σ',H',I.unwish,q
 | cont=>obtain ⟨σ',H',I,q⟩:=h;exists σ',H',I.unwish,q
 | ret u=>obtain ⟨v,σ',H',I,r,q⟩:=h;exists v,σ',H',I.unwish,r,q
def PSs.nox {st:List Stmt} {t:TS} (h:PSs X.nox st t):PSs X st t:=fun pq s σ H D I hw =>
 Dn (h pq s σ H D (I.wish _) hw) (fun _ _ q=>q.unwish) fun _ _ z=>False.elim z
end
section
variable {rest:List Stmt} {t u:TS} {e:Expr} 
def Zp7:TS:=fun D σ H=>D.nx σ H
def tSeq (t u:TS):TS:=fun D σ H=>t { D with nx:=u D } σ H
def Z7:PSs X [] Zp7:=fun _ _ σ H _ I h=>wpAny_execs_nil ⟨σ,H,I,h⟩
theorem Zc (h1:PS X st t) (h2:PSs X rest u):PSs X (st::rest) (tSeq t u):=by
 intro pq s σ H D I h;refine wpAny_execs_cons (thn (h1 pq s σ H { D with nx:=u D } I h) fun f s1 q=>?_);cases f with
 | next =>
  obtain ⟨σ',H',I',q⟩:=q;exact h2 pq s1 σ' H' D I' q
 | ret v=>exact q
 | brk=>exact q
 | cont=>exact q
theorem Zk (h1:PS X st t):PSs X [st] t:=by
 intro pq s σ H D I h;refine wpAny_execs_cons (thn (h1 pq s σ H D I h) fun f s1 q=>?_);cases f with
 | next=>exact wpAny_execs_nil q
 | ret v=>exact q
 | brk=>exact q
 | cont=>exact q
def Inv.quiet (I:Inv X pq σ H s):interactive X.env=false:=by simp [interactive,I.ok.kind]
def Zp8 (te:TE):TS:=fun D σ H=>te σ H fun _ H1=>D.nx σ H1
def Xw (he:PE X e te) (hs:swapsWith e none pos.line X.env=pure false:=by rfl):PS X (.Expr e pos) (Zp8 te):=by
 intro pq s σ H D I h;exact wpAny_Expr_any (thn (he pq s σ H _ I h) fun v s1 ⟨x,H1,I1,r1,q1⟩=>⟨σ,H1,I1,q1⟩) I.quiet hs
def tRet (te:TE):TS:=fun D σ H=>te σ H D.rt
def Z5 (he:PE X e te):PS X (.Return (some e) pos) (tRet te):=by
 intro pq s σ H D I h;exact wpAny_Return_some (thn (he pq s σ H _ I h) fun v s1 ⟨x,H1,I1,r1,q1⟩=>⟨x,σ,H1,I1,r1,q1⟩)
def Ztm:TS:=fun D _ H=>D.rt .non H
def Znn:PS X (.Return none pos) Ztm:=fun _ _ σ H _ I h=>wpAny_Return_none ⟨.non,σ,H,I,rfl,h⟩
def tIfS (c:TT) (t u:TS):TS:=fun D σ H=>c σ H fun b H1=>if b=true then t D σ H1 else u D σ H1
theorem Xm {c:Expr} {a b:List Stmt} {tc:TT} (hc:PT X c tc) (ha:PSs X a t) (hb:PSs X b u):PS X (.If c a b pos) (tIfS tc t u):=by
 intro pq s σ H D I h;refine wpAny_If (thn (hc pq s σ H _ I h) fun d s1 hz=>?_);obtain ⟨H1,I1,q1⟩:=hz;cases d with
 | true=>exact ha pq s1 σ H1 D I1 q1
 | false=>exact hb pq s1 σ H1 D I1 q1
def Zlg:TS:=fun _ _ _=>False
def Su:PS X st Zlg:=fun _ _ _ _ _ _ h=>h.elim
end
abbrev TG:=V->St->Hp->(St->Hp->Prop)->Prop
variable {g:L2.TG}
abbrev TGs:=List V->St->Hp->(St->Hp->Prop)->Prop
def PG (X:Cx) (target:Expr) (t:TG):Prop :=
 ∀ (pq:List (Addr×Obj)) (s:Shared) (σ:St) (H:Hp) (v:V) (u:Value) (Q:St->Hp->Prop),Inv X pq σ H s->RelV v u->t v σ H Q ->
  wpAny (model X.prog X.w) X.A (assign target X.env u) (fun _ s'=>∃ σ' H',Inv X pq σ' H' s'/\Q σ' H') X.xe s
def PGs (X:Cx) (ts:List Expr) (t:TGs):Prop :=
 ∀ (pq:List (Addr×Obj)) (s:Shared) (σ:St) (H:Hp) (vs:List V) (us:List Value) (Q:St->Hp->Prop),Inv X pq σ H s->Vals vs us->t vs σ H Q ->
  wpAny (model X.prog X.w) X.A (assignInOrder ((assignEach ts X.env).map (·.2)) us) (fun _ s'=>∃ σ' H',Inv X pq σ' H' s'/\Q σ' H') X.xe s
abbrev TSet:=V->V->V->Hp->(Hp->Prop)->Prop
def PSet (X:Cx) (t:TSet):Prop :=
 ∀ (pq:List (Addr×Obj)) (s:Shared) (σ:St) (H:Hp) (o i v:V) (ov iv u:Value) (Q:Hp->Prop),Inv X pq σ H s->RelV o ov->RelV i iv->RelV v u->t o i v H Q ->
  wpAny (model X.prog X.w) X.A (setItem ov iv u) (fun _ s'=>∃ H',Inv X pq σ H' s'/\Q H') X.xe s
abbrev TIp:=V->V->Hp->VK->Prop
def PIp (X:Cx) (op:Operator) (t:TIp):Prop :=
 ∀ (pq:List (Addr×Obj)) (s:Shared) (σ:St) (H:Hp) (x y:V) (v u:Value) (Q:VK),Inv X pq σ H s->RelV x v->RelV y u->t x y H Q ->
  wpAny (model X.prog X.w) X.A (inplaceOp op v u) (EP X pq σ Q) X.xe s
section
def Zam (i:Nat):TG:=fun v σ H Q=>Q (σ.set i (some v)) H
def Zq {i:Nat} {x:Str} (hN:X.N.Nodup) (hi:X.N[i]?=some x) (hx:Loc X.env.scope x) (hf:X.fn x=true\/X.env.scope.names.lookup x=some .local:=by first | exact .inl rfl | exact .inr rfl | assumption):PG X (.Name x pos) (Zam i):=by
 intro pq s σ H v u Q I r h;exact wpAny_assign_Name (Sn I hN hi hx r (fun s' I'=>⟨_,H,I',h⟩) hf)
def gNil:TGs:=fun vs σ H Q=>vs=[]/\Q σ H
def Zoo (t:TG) (u:TGs):TGs:=fun vs σ H Q=>∃ v r,vs=v::r/\t v σ H fun σ' H'=>u r σ' H' Q
def Wl:PGs X [] gNil:=by
 intro pq s σ H vs us Q I r h;obtain ⟨e,h⟩:=h;subst e;cases r;exact assignInOrder_nil ⟨σ,H,I,h⟩
theorem Z9 {e:Expr} {t:TG} {u:TGs} (h1:PG X e t) (h2:PGs X es u)
  (hs:(assignEach (e::es) X.env).map (·.2)=assign e X.env::(assignEach es X.env).map (·.2):=by rfl):PGs X (e::es) (Zoo t u):=by
 intro pq s σ H vs us Q I r h;obtain ⟨v,vr,e1,h⟩:=h;subst e1;cases r with
 | cons r rr =>
  rw [hs];refine assignInOrder_cons (thn (h1 pq s σ H _ _ _ I r h) fun _ s1 hz=>?_);obtain ⟨σ1,H1,I1,q1⟩:=hz;exact h2 pq s1 σ1 H1 _ _ Q I1 rr q1
def gTup (K:W.Frag) (n:Nat) (t:TGs):TG:=fun v σ H Q=>∃ a xs,v=.ref a/\SqT K H a xs/\xs.length=n/\t xs σ H Q
def Vw {k:Nat} {t:TGs} {n:Nat} (hc:X.calm=true) (h:PGs X es t)
  (hn:(assignEach es X.env).length=n:=by rfl) (hst:(assignEach es X.env).findIdx? (·.1)=none:=by rfl):PG X (.Tuple es k pos) (gTup X.K n t):=by
 intro pq s σ H v u Q I r hw;obtain ⟨a,xs,e1,hq,hl,hw⟩:=hw;subst e1;cases r;obtain ⟨its,rv,ht,hz⟩:=I.tuple hq;refine assign_Tuple_tuple (I.ok.hd hc) ht (by simp [hn,<- hl,rv.length]) hst fun h' hx=>?_;have I1:Inv X pq σ H { s with heap:=h' }:=I.kept (t':=s.toks) fun b o e=>hx b o (Gg (Df e)) e;exact h pq _ σ H xs _ Q I1 (by simpa using rv) hw
def gSub (to ti:TE) (t:TSet):TG:=fun v σ H Q=>to σ H fun o H1=>ti σ H1 fun i H2=>t o i v H2 fun H3=>Q σ H3
def Zgy {o i:Expr} {to ti:TE} {t:TSet} (ho:PE X o to) (hi:PE X i ti) (hs:PSet X t)
  (ha:∀ v,assign (.Subscript o i pos) X.env v=(do
   let ov <- holding [v] (eval o X.env)
   let iv <- holding [v,ov] (eval i X.env)
   standAt pos
   holding [v,ov,iv] (setItem ov iv v)
   release [v,ov,iv] []):=by intro _; rfl):PG X (.Subscript o i pos) (gSub to ti t):=by
 intro pq s σ H v u Q I r h;rw [ha];refine Da (wpAny_holding (thn (ho pq s σ H _ I h) fun ov s1 hz=>?_));obtain ⟨x,H1,I1,r1,q1⟩:=hz;refine Da (wpAny_holding (thn (hi pq s1 σ H1 _ I1 q1) fun iv s2 hz=>?_));obtain ⟨y,H2,I2,r2,q2⟩:=hz;refine Da (wpAny_standAt (Da (wpAny_holding (thn (hs pq s2 σ H2 x y v ov iv u _ I2 r1 r2 r q2) fun _ s3 hz=>?_))));obtain ⟨H3,I3,q3⟩:=hz;exact wpAny_release ⟨σ,H3,I3,q3⟩
def tAsg (te:TE) (g:TG):TS:=fun D σ H=>te σ H fun x H1=>g x σ H1 D.nx
def Zgu {e:Expr} (he:PE X e te) (hg:PG X tg g) (hs:swapsWithSole [tg] e pos.line X.env=pure false:=by rfl) (hw:swappedStores [tg] e X.env=pure none:=by rfl)
  (h1:(assignEach [tg] X.env).map (·.2)=[assign tg X.env]:=by rfl):PS X (.Assign [tg] e pos) (tAsg te g):=by
 intro pq s σ H D I h;refine wpAny_Assign_stores (thn (he pq s σ H _ I h) fun v s1 hz=>?_) hs hw;obtain ⟨x,H1,I1,r1,q1⟩:=hz;rw [h1];exact thn (hg pq s1 σ H1 x v _ I1 r1 q1) fun _ s2 q=>q
def Zt {i:Nat} {x:Str} {e:Expr} (hN:X.N.Nodup) (hi:X.N[i]?=some x) (hx:Loc X.env.scope x) (he:PE X e te) (hs:swapsWith e (some (.Name x pos')) pos.line X.env=pure false:=by rfl) (hf:X.fn x=true\/X.env.scope.names.lookup x=some .local:=by first | exact .inl rfl | exact .inr rfl | assumption) :
  PS X (.Assign [.Name x pos'] e pos) (tAsg te (Zam i)):=by
 intro pq s σ H D I h;refine wpAny_Assign_Name (thn (he pq s σ H _ I h) fun v s1 hz=>?_) hs;obtain ⟨y,H1,I1,r1,q1⟩:=hz;exact Sn I1 hN hi hx r1 (fun s2 I2=>⟨_,H1,I2,q1⟩) hf
def tAug (i:Nat) (te:TE) (ti:TIp):TS:=fun D σ H=>∃ x,σ[i]?=some (some x)/\te σ H fun y H1=>ti x y H1 fun z H2=>D.nx (σ.set i (some z)) H2
def Zq2 {i:Nat} {x:Str} {e:Expr} {op:Operator} {ti:TIp} (hN:X.N.Nodup) (hi:X.N[i]?=some x) (hx:Loc X.env.scope x) (he:PE X e te) (ho:PIp X op ti) (hf:X.fn x=true\/X.env.scope.names.lookup x=some .local:=by first | exact .inl rfl | exact .inr rfl | assumption) :
  PS X (.AugAssign (.Name x pos') op e pos) (tAug i te ti):=by
 intro pq s σ H D I h;obtain ⟨v,e1,h⟩:=h;obtain ⟨m,hn,hl⟩:=I.loc;have vis:Vis X.env.scope x:=by rcases hx with k | k; exact .inl k; exact .inr (.inl k)
 obtain ⟨u,r,l⟩:=hl i x v hi e1 vis;refine wpAny_AugAssign_Name ?_;have go:wpAny (model X.prog X.w) X.A (eval e X.env) (fun w s₂=>wpAny (model X.prog X.w) X.A (inplaceOp op u w) (fun r s₃=>wpAny (model X.prog X.w) X.A (storeName X.env x r) (fun _=>SP X pq D .next) X.xe s₃) X.xe s₂) X.xe s:=by
  refine thn (he pq s σ H _ I h) fun w s1 hz=>?_;obtain ⟨y,H1,I1,r1,q1⟩:=hz;refine thn (ho pq s1 σ H1 v y u w _ I1 r r1 q1) fun z s2 hz=>?_;obtain ⟨zv,H2,I2,r2,q2⟩:=hz;exact Sn I2 hN hi hx r2 (fun s3 I3=>⟨_,H2,I3,q2⟩) hf
 rcases l with ⟨hk,hm⟩ | ⟨hk,c,hc,hcell⟩
 ·exact wpAny_loadName_local I.ok.kind hk hn hm go
 ·rcases hk with hk | hk
  ·exact wpAny_loadName_cell I.ok.kind hk hc hcell go
  ·rcases hx with k | k
   ·have:X.env.scope.names.lookup x=some .free:=hk;rw [k] at this; cases this
   ·have:X.env.scope.names.lookup x=some .free:=hk;rw [k] at this; cases this
def Ztn (to ti te:TE) (tget:V->V->Hp->VK->Prop) (tip:TIp) (tset:TSet):TS:=fun D σ H=>to σ H fun o H1=>ti σ H1 fun i H2=>tget o i H2 fun x H3=>te σ H3 fun y H4=>tip x y H4 fun z H5=>tset o i z H5 fun H6=>D.nx σ H6
def PGet (X:Cx) (t:V->V->Hp->VK->Prop):Prop :=
 ∀ (pq:List (Addr×Obj)) (s:Shared) (σ:St) (H:Hp) (o i:V) (ov iv:Value) (Q:VK),Inv X pq σ H s->RelV o ov->RelV i iv->t o i H Q ->
  wpAny (model X.prog X.w) X.A (getItem ov iv) (EP X pq σ Q) X.xe s
def Zno {o i e:Expr} {to ti:TE} {tget:V->V->Hp->VK->Prop} {tip:TIp} {tset:TSet} {op:Operator} {tpos:Pos} (ho:PE X o to) (hi:PE X i ti) (hg:PGet X tget) (he:PE X e te) (hp:PIp X op tip) (hs:PSet X tset)
  (ha:∀ ov iv new,augStore i ov iv new=(do holding [new,ov,iv] (setItem ov iv new); release [new,ov,iv] []; pure .next):=by intros; rfl):PS X (.AugAssign (.Subscript o i tpos) op e pos) (Ztn to ti te tget tip tset):=by
 intro pq s σ H D I h;refine wpAny_AugAssign_SubscriptAny (thn (ho pq s σ H _ I h) fun ov s1 hz=>?_) ha;obtain ⟨x1,H1,I1,r1,q1⟩:=hz;refine thn (hi pq s1 σ H1 _ I1 q1) fun iv s2 hz=>?_;obtain ⟨x2,H2,I2,r2,q2⟩:=hz;refine thn (hg pq s2 σ H2 x1 x2 ov iv _ I2 r1 r2 q2) fun old s3 hz=>?_;obtain ⟨x3,H3,I3,r3,q3⟩:=hz;refine thn (he pq s3 σ H3 _ I3 q3) fun v s4 hz=>?_;obtain ⟨x4,H4,I4,r4,q4⟩:=hz;refine thn (hp pq s4 σ H4 x3 x4 old v _ I4 r3 r4 q4) fun new s5 hz=>?_;obtain ⟨x5,H5,I5,r5,q5⟩:=hz;exact thn (hs pq s5 σ H5 x1 x2 x5 ov iv new _ I5 r1 r2 r5 q5) fun _ s6 ⟨H6,I6,q6⟩=>⟨σ,H6,I6,q6⟩
def ipI (f:Int->Int->Int):TIp:=fun x y H Q=>∃ i j,x=.int i/\y=.int j/\Q (.int (f i j)) H
def Zl6:PIp X .Add (ipI fun i j=>i+j):=by
 intro pq s σ H x y v u Q I r1 r2 h;obtain ⟨i,j,e1,e2,q⟩:=h;subst e1; subst e2;obtain ⟨t,rfl⟩:=r1;obtain ⟨t',rfl⟩:=r2;exact iadd_int ⟨.int _,H,I.tok _,⟨_,rfl⟩,q⟩
end
section
def Zfp (c:TT) (tb:TS):TS:=fun D σ H=>∃ W:Nat->St->Hp->Prop,(∃ m,W m σ H)/\∀ m σ H,W m σ H ->
 c σ H fun b H1=>if b=true then ∃ N:St->Hp->Prop,(∀ σ' H',N σ' H'->∃ m',m'<m/\W m' σ' H')/\tb { D with nx:=N,ct:=N,bk:=D.nx } σ H1 else D.nx σ H1
theorem Zdb {c:Expr} {tc:TT} {tb:TS} (hp:PassesOwn (model X.prog X.w) X.A X.env X.xe) (hc:PT X c tc) (hb:PSs X body tb):PS X (.While c body [] pos) (Zfp tc tb):=by
 intro pq s σ H D I h;obtain ⟨W,⟨m0,w0⟩,turn⟩:=h;refine wpAny_While (codeAny_whileLoop (fun n s'=>∃ σ' H',Inv X pq σ' H' s'/\W n σ' H') ?_ m0 ⟨σ,H,I,w0⟩);rintro n s1 ⟨σ1,H1,I1,w1⟩;refine wpAny_passesOwn hp (thn (hc pq s1 σ1 H1 _ I1 (turn n σ1 H1 w1)) fun b s2 hz=>?_);obtain ⟨H2,I2,q2⟩:=hz;cases b with
 | true =>
  obtain ⟨N,hN,q2⟩:=q2;rw [Dh rfl];refine wpAny_passesOwn hp (thn (hb pq s2 σ1 H2 _ I2 q2) fun f s3 q3=>?_);cases f with
  | next =>
   obtain ⟨σ3,H3,I3,n3⟩:=q3;obtain ⟨m',hm,w3⟩:=hN σ3 H3 n3;exists m',hm,σ3,H3,I3,w3
  | cont =>
   obtain ⟨σ3,H3,I3,n3⟩:=q3;obtain ⟨m',hm,w3⟩:=hN σ3 H3 n3;exists m',hm,σ3,H3,I3,w3
  | brk=>exact q3
  | ret v=>exact q3
 | false =>
  rw [Dg Ju];exact wpAny_execs_nil ⟨σ1,H2,I2,q2⟩
end
structure It where
 go:Nat->Hp->Prop
 yld:Nat->Hp->V->Hp->Prop
 stop:Nat->Hp->Prop
def FpOk (X:Cx) (pq:List (Addr×Obj)) (H:Hp) (b:Addr):Prop :=
 H b=none/\b≠X.env.locals/\b∉X.fs/\(b∈X.ex\/X.s₀.heap.objs.size<=b)/\(∀ x c,X.env.cells.lookup x=some c->c≠b)/\∀ p∈X.pn++pq,p.1≠b
def Inv.fpOk (I:Inv X pq σ H s) (hb:s.heap.objs.size<=b) (hn:H' b=none):FpOk X pq H' b:=by
 exists hn,Fy (Ga I.lt hb),I.nofs hb,.inr (Jv I.sz hb),fun x c e z=>?_,fun p hp z=>?_
 ·obtain ⟨v,q⟩:=I.cell x c e;exact absurd (Ga q.lt (by rw [z]; exact hb)) (Bi _)
 ·exact absurd (Ga (Df (I.pin p hp).1) (by rw [z]; exact hb)) (Bi _)
structure Turn (P:Program) (w:World) (K:W.Frag) (tg:Expr) (J:It) (fp:List Addr) (it:Addr) (tn:Nat->Heap->Prop):Prop where
 mem:it∈fp
 obj:∀ i h,tn i h->∀ b∈fp,∃ o,h.get? b=some o/\∀ v,o.data≠.cell v
 keep:∀ i h h',tn i h->(∀ b∈fp,∀ o,h.get? b=some o->h'.get? b=some o)->tn i h'
 item:∀ (X:Cx),X.prog=P->X.w=w->X.K=K->X.calm=true->∀ (i:Nat) (pq:List (Addr×Obj)) (s:Shared) (σ:St) (H:Hp) (E:Value->Shared->Prop),Inv X pq σ H s->(∀ b∈fp,FpOk X pq H b)->tn i s.heap->J.go i H ->
  wpAny (model P w) X.A (pyNext (.ref it)) (fun r s1=>∃ u,r=some u /\
   wpAny (model P w) X.A (letOwnedTupleGo tg (.ref it) u) (fun _ s2=>∃ x H',Inv X pq σ H' s2/\RelV x u/\J.yld i H x H'/\tn (i+1) s2.heap/\∀ b∈fp,H' b=none) E s1) E s
 done:∀ (X:Cx),X.prog=P->X.w=w->X.K=K->X.calm=true->∀ (i:Nat) (pq:List (Addr×Obj)) (s:Shared) (σ:St) (H:Hp) (E:Value->Shared->Prop),Inv X pq σ H s->(∀ b∈fp,FpOk X pq H b)->tn i s.heap->J.stop i H ->
  wpAny (model P w) X.A (pyNext (.ref it)) (fun r s1=>r=none/\Inv X pq σ H s1) E s
 self:∀ (A:Around) (i:Nat) (s:Shared) (Q:Value->Shared->Prop) (E:Value->Shared->Prop),tn i s.heap->Q (.ref it) s->wpAny (model P w) A (pyIter (.ref it)) Q E s
abbrev TI:=St->Hp->(It->Hp->Prop)->Prop
variable {wi:L2.TI}
def PIE (X:Cx) (pq:List (Addr×Obj)) (σ:St) (tg:Expr) (R:It->Hp->Prop) (itv:Value) (s2:Shared):Prop :=
 ∃ (it:Addr) (fp:List Addr) (tn:Nat->Heap->Prop) (J:It) (H':Hp),itv=.ref it/\Inv X pq σ H' s2/\Turn X.prog X.w X.K tg J fp it tn/\tn 0 s2.heap/\(∀ b∈fp,FpOk X pq H' b)/\R J H'
def PI (X:Cx) (tg iter:Expr) (wi:TI):Prop :=
 ∀ (pq:List (Addr×Obj)) (s:Shared) (σ:St) (H:Hp) (R:It->Hp->Prop),Inv X pq σ H s->wi σ H R ->
  wpAny (model X.prog X.w) X.A (eval iter X.env) (fun v s1=>wpAny (model X.prog X.w) X.A (pyIter v) (PIE X pq σ tg R) X.xe s1) X.xe s
def Zkr {M:Model} {u:Value} {o:Obj} {n:String} {vs:Array Value} {Q:Unit->Shared->Prop} (ho:s.heap.get? it=some o) (hc:o.cls=.type n) (hd:o.data=.fields vs)
    (hn:["enumerate", "zip", "dict_itemiterator", "dict_reverseitemiterator", "odict_iterator", "itertools.zip_longest", "itertools.pairwise"].contains n=false) (hQ:Q () s):wpAny M A (letOwnedTupleGo tg (.ref it) u) Q E s:=by
  unfold letOwnedTupleGo;cases tg <;> first
    | exact Db hQ
    | (cases u <;> first
        | exact Db hQ
        | (refine Da (wpAny_load ho ?_)
           rw [hc,hd];show wpAny M A (if (["enumerate", "zip", "dict_itemiterator", "dict_reverseitemiterator", "odict_iterator", "itertools.zip_longest", "itertools.pairwise"].contains n && vs[0]? == some (rawInt _))=true then _ else _) Q E s;rw [Dg (by intro h; rw [hn,Bool.false_and] at h; cases h)];exact Db hQ))
def Itl (K:W.Frag) (a:Addr):It :=
 ⟨fun i H=>∃ xs x,SqL K H a xs/\xs[i]?=some x,fun i H x H'=>H'=H/\∀ xs,SqL K H a xs->xs[i]?=some x,fun i H=>∃ xs,SqL K H a xs/\xs.length<=i⟩
def Itt (K:W.Frag) (a:Addr):It :=
 ⟨fun i H=>∃ xs x,SqT K H a xs/\xs[i]?=some x,fun i H x H'=>H'=H/\∀ xs,SqT K H a xs->xs[i]?=some x,fun i H=>∃ xs,SqT K H a xs/\xs.length<=i⟩
def Itr (lo:Int) (n:Nat):It:=⟨fun i _=>i<n,fun i H x H'=>H'=H/\x=.int (lo+i),fun i _=>n<=i⟩
theorem Zfj {w:World} (a it:Addr):Turn P w K tg (Itl K a) [it] it (fun i h=>h.IsListIter it a i) where
 mem:=by simp
 obj:=fun i h st b hb=>by
  have e:b=it:=by simpa using hb
  subst e;obtain ⟨o,e,c,d⟩:=st;exact ⟨o,e,fun v z=>by rw [d] at z; cases z⟩
 keep:=fun i h h' st k=>st.at fun o e=>k it (by simp) o e
 item:=by
  intro X hP hw hK hc i pq s σ H E I hf st hg;subst hP hw hK;obtain ⟨xs,x,hq,hx⟩:=hg;obtain ⟨its,rv,p,hz⟩:=I.list hq;obtain ⟨u,hu,ru⟩:=rv.get hx;obtain ⟨f0,f1,f2,f3,f4,f5⟩:=hf it (by simp);refine wpAny_pyNext_list_item st p.isList (x:=u) (by simpa using hu) fun h' st' sb=>?_;have I1:Inv X pq σ H { s with heap:=h' }:=I.turned (t':=s.toks) (fun b o hb e=>(sb.2 b hb).trans e) f0 f1 f3 f4 f5;obtain ⟨o,e,c,d⟩:=id st';exists u,rfl,Zkr (s:={ s with heap:=h' }) e c d nofun ⟨x,H,I1,ru,⟨rfl,fun ys hy=>by rw [I.list_inj hy hq]; exact hx⟩,st',fun b hb=>(hf b hb).1⟩
 done:=by
  intro X hP hw hK hc i pq s σ H E I hf st hg;subst hP hw hK;obtain ⟨xs,hq,hx⟩:=hg;obtain ⟨its,rv,p,hz⟩:=I.list hq;obtain ⟨f0,f1,f2,f3,f4,f5⟩:=hf it (by simp);have hl:=rv.length;exact wpAny_pyNext_list_end (I.ok.hd hc) st p.isList (by simp; lia) fun h' eb=>⟨rfl,I.turned (t':=s.toks) (fun b o hb e=>eb b o hb e) f0 f1 f3 f4 f5⟩
 self:=fun _ _ _ _ _ st h=>wpAny_pyIter_listiter st h
theorem Zee {w:World} (a it:Addr):Turn P w K tg (Itt K a) [it] it (fun i h=>h.IsTupleIter it a i) where
 mem:=by simp
 obj:=fun i h st b hb=>by
  have e:b=it:=by simpa using hb
  subst e;obtain ⟨o,e,c,d⟩:=st;exact ⟨o,e,fun v z=>by rw [d] at z; cases z⟩
 keep:=fun i h h' st k=>st.at fun o e=>k it (by simp) o e
 item:=by
  intro X hP hw hK hc i pq s σ H E I hf st hg;subst hP hw hK;obtain ⟨xs,x,hq,hx⟩:=hg;obtain ⟨its,rv,p,hz⟩:=I.tuple hq;obtain ⟨u,hu,ru⟩:=rv.get hx;obtain ⟨f0,f1,f2,f3,f4,f5⟩:=hf it (by simp);refine wpAny_pyNext_tuple_item st (show s.heap.IsTuple a its.toArray from p) (x:=u) (by simpa using hu) fun h' st' sb=>?_;have I1:Inv X pq σ H { s with heap:=h' }:=I.turned (t':=s.toks) (fun b o hb e=>(sb.2 b hb).trans e) f0 f1 f3 f4 f5;obtain ⟨o,e,c,d⟩:=id st';exists u,rfl,Zkr (s:={ s with heap:=h' }) e c d nofun ⟨x,H,I1,ru,⟨rfl,fun ys hy=>by rw [I.tuple_inj hy hq]; exact hx⟩,st',fun b hb=>(hf b hb).1⟩
 done:=by
  intro X hP hw hK hc i pq s σ H E I hf st hg;subst hP hw hK;obtain ⟨xs,hq,hx⟩:=hg;obtain ⟨its,rv,p,hz⟩:=I.tuple hq;obtain ⟨f0,f1,f2,f3,f4,f5⟩:=hf it (by simp);have hl:=rv.length;exact wpAny_pyNext_tuple_end (I.ok.hd hc) st (show s.heap.IsTuple a its.toArray from p) (by simp; lia) fun h' eb=>⟨rfl,I.turned (t':=s.toks) (fun b o hb e=>eb b o hb e) f0 f1 f3 f4 f5⟩
 self:=fun _ _ _ _ _ st h=>wpAny_pyIter_tupleiter st h
theorem Zef {w:World} (it:Addr) (lo:Int) (n:Nat):Turn P w K tg (Itr lo n) [it] it (fun i h=>IsRangeIter h it (lo+(i:Nat)*1) ((n:Int)-(i:Nat)) 1) where
 mem:=by simp
 obj:=fun i h st b hb=>by
  have e:b=it:=by simpa using hb
  subst e;exact ⟨_,st,fun v z=>by
   have z':Data.fields _=Data.cell v:=z;cases z'⟩
 keep:=fun i h h' st k=>k it (by simp) _ st
 item:=by
  intro X hP hw hK hc i pq s σ H E I hf st hg;subst hP hw hK;obtain ⟨f0,f1,f2,f3,f4,f5⟩:=hf it (by simp);have W:=Walks.range (prog:=X.prog) (w:=X.w) (I.ok.hd hc) it lo 1 n;refine W.item i s _ _ hg st fun v h' tk hv st' kk=>?_;obtain ⟨t,rfl⟩:=hv;have I1:Inv X pq σ H { s with heap:=h',toks:=tk }:=I.turned (fun b o hb e=>kk b o (by simpa using hb) e) f0 f1 f3 f4 f5;exists ·,Zkr (s:={ s with heap:=h',toks:=tk }) (n:="range_iterator") st' rfl rfl nofun ⟨.int (lo+i),H,I1,⟨t,?_⟩,⟨rfl,rfl⟩,st',fun b hb=>(hf b hb).1⟩;rw [Int.mul_one]
 done:=by
  intro X hP hw hK hc i pq s σ H E I hf st hg;subst hP hw hK;obtain ⟨f0,f1,f2,f3,f4,f5⟩:=hf it (by simp);exact wpAny_pyNext_range_end (I.ok.hd hc) st (by have:n<=i:=hg; lia) fun h' eb=>⟨rfl,I.turned (t':=s.toks) (fun b o hb e=>eb b o hb e) f0 f1 f3 f4 f5⟩
 self:=fun _ _ _ _ _ st h=>wpAny_pyIter_rangeiter st h
section
def Zrx (K:W.Frag) (tl:TE):TI:=fun σ H R=>tl σ H fun x H1=>∃ a,x=.ref a/\(∃ xs,SqL K H1 a xs)/\R (Itl K a) H1
def iTup (K:W.Frag) (tl:TE):TI:=fun σ H R=>tl σ H fun x H1=>∃ a,x=.ref a/\(∃ xs,SqT K H1 a xs)/\R (Itt K a) H1
def Yc {l:Expr} {tl:TE} (hl:PE X l tl):PI X tg l (Zrx X.K tl):=by
 intro pq s σ H R I h;refine thn (hl pq s σ H _ I h) fun v s1 hz=>?_;obtain ⟨x,H1,I1,r1,q1⟩:=hz;obtain ⟨a,e,⟨xs,hq⟩,q⟩:=q1;subst e;cases r1;obtain ⟨its,rv,p,hz⟩:=I1.list hq;refine wpAny_pyIter_list p.isList ?_;exists s1.heap.objs.size,[s1.heap.objs.size],_,_,H1,rfl,I1.kept (t':=s1.toks) fun b o e=>Dd _ e,Zfj a _,⟨_,De _ rfl,rfl,rfl⟩,fun b hb=>?_,q;have e:b=s1.heap.objs.size:=by simpa using hb
 subst e;exact I1.fpOk (Je _) (I1.hok.fresh (Je _))
def N4 {l:Expr} {tl:TE} (hl:PE X l tl):PI X tg l (iTup X.K tl):=by
 intro pq s σ H R I h;refine thn (hl pq s σ H _ I h) fun v s1 hz=>?_;obtain ⟨x,H1,I1,r1,q1⟩:=hz;obtain ⟨a,e,⟨xs,hq⟩,q⟩:=q1;subst e;cases r1;obtain ⟨its,rv,p,hz⟩:=I1.tuple hq;refine wpAny_pyIter_tuple (show s1.heap.IsTuple a its.toArray from p) ?_;exists s1.heap.objs.size,[s1.heap.objs.size],_,_,H1,rfl,I1.kept (t':=s1.toks) fun b o e=>Dd _ e,Zee a _,⟨_,De _ rfl,rfl,rfl⟩,fun b hb=>?_,q;have e:b=s1.heap.objs.size:=by simpa using hb
 subst e;exact I1.fpOk (Je _) (I1.hok.fresh (Je _))
theorem Zda {R:It->Hp->Prop} {lo hi:Int} {t u v:Tok} {tk:Nat} (I:Inv X pq σ H s) (h1:-(2 ^ 62)<=lo) (h2:lo<2 ^ 62) (h3:-(2 ^ 62)<=hi) (h4:hi<2 ^ 62)
  (q:R (Itr lo (hi-lo).toNat) H):wpAny (model X.prog X.w) X.A (pyIter (.ref s.heap.objs.size)) (PIE X pq σ tg R) E { s with heap:=s.heap.push { cls:=.type "range",data:=.fields #[.int lo t,.int hi u,.int 1 v] },toks:=tk }:=by
 refine wpAny_pyIter_range (IsRange.new ..) (small_one h1 h2 h3 h4) ?_;have I1:Inv X pq σ H { s with heap:=s.heap.push { cls:=.type "range",data:=.fields #[.int lo t,.int hi u,.int 1 v] },toks:=tk }:=I.kept fun b o e=>Dd _ e;refine ⟨(s.heap.push { cls:=.type "range",data:=.fields #[.int lo t,.int hi u,.int 1 v] }).objs.size,[(s.heap.push { cls:=.type "range",data:=.fields #[.int lo t,.int hi u,.int 1 v] }).objs.size],_,_,H,rfl,
  I1.kept (t':=tk) fun b o e=>Dd _ e,Zef _ lo (hi-lo).toNat,?_,fun b hb=>?_,q⟩
 ·have e1:lo+((0:Nat):Int)*1=lo:=by simp
  have e2:(((hi-lo).toNat:Nat):Int)-((0:Nat):Int)=Builtin.Range.rangeSize lo hi 1:=by rw [rangeSize_one]; split <;> lia
  show IsRangeIter _ _ (lo+((0:Nat):Int)*1) ((((hi-lo).toNat:Nat):Int)-((0:Nat):Int)) 1;rw [e1,e2];exact De _ rfl
 ·have e:b=(s.heap.push { cls:=.type "range",data:=.fields #[.int lo t,.int hi u,.int 1 v] }).objs.size:=by simpa using hb
  subst e;exact I1.fpOk (Je _) (I1.hok.fresh (Je _))
def Zrw (ta:TA):TI:=fun σ H R=>ta σ H fun vs H1=>∃ j:Int,vs=[.int j]/\-(2 ^ 62)<=j/\j<2 ^ 62/\R (Itr 0 j.toNat) H1
def Zrv (ta:TA):TI:=fun σ H R=>ta σ H fun vs H1=>∃ i j:Int,vs=[.int i,.int j]/\(-(2 ^ 62)<=i/\i<2 ^ 62/\-(2 ^ 62)<=j/\j<2 ^ 62)/\R (Itr i (j-i).toNat) H1
theorem Xa {a:Expr} {ta:TA} {p:Pos} (hg:Gl X "range") (hm:X.mg "range"=none) (ha:PA X [a] ta) (hs:starEach [a] X.env=[(false,eval a X.env)]:=by rfl):PI X tg (.Call (.Name "range" p) [a] [] pos) (Zrw ta):=by
 intro pq s σ H R I h;refine Call_ (Sg I hg hm boot_range (PyProof.Rows.callWith_type1 (thn (ha pos pq s σ H _ I h) fun us s1 hz=>?_) hs rfl));obtain ⟨vs,H1,I1,r1,q1⟩:=hz;obtain ⟨j,e,q1,q2,q⟩:=q1;subst e;cases r1 with
 | cons r rr =>
  cases rr;obtain ⟨t,rfl⟩:=r;exact call_range_1 (Zda I1 (by lia) (by lia) q1 q2 (by simpa using q))
theorem N5 {a b:Expr} {ta:TA} {p:Pos} (hg:Gl X "range") (hm:X.mg "range"=none) (ha:PA X [a,b] ta) (hs:starEach [a,b] X.env=[(false,eval a X.env),(false,eval b X.env)]:=by rfl) (hs2:starEach [b] X.env=[(false,eval b X.env)]:=by rfl) :
  PI X tg (.Call (.Name "range" p) [a,b] [] pos) (Zrv ta):=by
 intro pq s σ H R I h;refine Call_ (Sg I hg hm boot_range (PyProof.Rows.callWith_type1 (thn (ha pos pq s σ H _ I h) fun us s1 hz=>?_) (by rw [hs,hs2]) (by rw [hs2]; rfl)));obtain ⟨vs,H1,I1,r1,q1⟩:=hz;obtain ⟨i,j,e,⟨q1,q2,q3,q4⟩,q⟩:=q1;subst e;cases r1 with
 | cons r rr =>
  cases rr with
  | cons r' rr =>
   cases rr;obtain ⟨t,rfl⟩:=r;obtain ⟨t',rfl⟩:=r';exact call_range_2 (Zda I1 q1 q2 q3 q4 q)
def tFor (wi:TI) (g:TG) (tb:TS):TS:=fun D σ H=>wi σ H fun J H1=>∃ W:Nat->Nat->St->Hp->Prop,(∃ m,W 0 m σ H1)/\∀ i m σ H,W i m σ H ->
 (J.stop i H/\D.nx σ H)\/(J.go i H/\∃ N:St->Hp->Prop,(∀ σ' H',N σ' H'->∃ m',m'<m/\W (i+1) m' σ' H')/\∀ x H',J.yld i H x H'->g x σ H' fun σ2 H2=>tb { D with nx:=N,ct:=N,bk:=D.nx } σ2 H2)
def N3 (fp:List Addr) (h:Heap):List (Addr×Obj):=fp.filterMap fun b=>(h.get? b).map fun o=>(b,o)
def Ul {o:Obj} (hb:b∈fp) (e:h.get? b=some o):(b,o)∈N3 fp h:=Bj.mpr ⟨b,hb,by rw [e]; rfl⟩
theorem Zhc {p:Addr×Obj} (hp:p∈N3 fp h):p.1∈fp/\h.get? p.1=some p.2:=by
 obtain ⟨b,hb,e⟩:=Bj.mp hp;cases q:h.get? b with
 | none=>rw [q] at e; cases e
 | some o =>
  rw [q] at e;have e':(b,o)=p:=Dl e;subst e';exists hb,q
def Inv.pinned (I:Inv X pq σ H s) (hf:∀ b∈fp,FpOk X pq H b) (ho:∀ b∈fp,∃ o,s.heap.get? b=some o/\∀ v,o.data≠.cell v):Inv X (pq++N3 fp s.heap) σ H s :=
 I.pins_of fun p hp=>(Gc.mp hp).elim (fun z=>I.pin p (Jw _ z)) fun z=>by
  obtain ⟨hb,e⟩:=Zhc z;obtain ⟨f0,f1,f2,_⟩:=hf p.1 hb;obtain ⟨o,e',d⟩:=ho p.1 hb;rw [e] at e'; cases e';exists e,f0,f1,f2,d
def Inv.unpinned {pl:List (Addr×Obj)} (I:Inv X (pq++pl) σ H s):Inv X pq σ H s:=I.pins_of fun p hp=>I.pin p (Jw _ (Bc _ hp))
def Yx {iter:Expr} {tb:TS} (hp:PassesOwn (model X.prog X.w) X.A X.env X.xe) (hc:X.calm=true) (hi:PI X tg iter wi) (hg:PG X tg g) (hb:PSs X body tb)
  (hs:∀ x,foldedSetIterable iter X.env x=pure x:=by intro _; rfl):PS X (.For tg iter body [] pos) (tFor wi g tb):=by
 intro pq s σ H D I h;refine wpAny_For (thn (hi pq s σ H _ I h) fun v s1 h1=>thn h1 fun itv s2 h2=>?_) hs;obtain ⟨it,fp,tn,J,H2,e,I2,T,st2,f2,W,⟨m0,w0⟩,turn⟩:=h2;subst e;have stat:∀ {H':Hp},(∀ b∈fp,H' b=none)->∀ b∈fp,FpOk X pq H' b:=fun hn b hb=>⟨hn b hb,(f2 b hb).2⟩;refine codeAny_forLoop_any (fun n s'=>∃ i σ' H',Inv X pq σ' H' s'/\tn i s'.heap/\(∀ b∈fp,H' b=none)/\W i n σ' H') ?_ m0 ⟨0,σ,H2,I2,st2,fun b hb=>(f2 b hb).1,w0⟩;rintro n s3 ⟨i,σ3,H3,I3,st3,fr3,w3⟩;rcases turn i n σ3 H3 w3 with ⟨stop,qn⟩ | ⟨go,N,hN,step⟩
 ·refine wpAny_passesOwn hp (thn (T.done X rfl rfl rfl hc i pq s3 σ3 H3 X.xe I3 (stat fr3) st3 stop) fun r s4 hz=>?_);obtain ⟨hr,I4⟩:=hz;subst hr;exact wpAny_execs_nil ⟨σ3,H3,I4,qn⟩
 ·refine wpAny_passesOwn hp (thn (T.item X rfl rfl rfl hc i pq s3 σ3 H3 X.xe I3 (stat fr3) st3 go) fun r s4 hz=>?_);obtain ⟨u,hr,h4⟩:=hz;subst hr;refine wpAny_passesOwn hp (thn h4 fun _ s5 hz=>?_);obtain ⟨x,H5,I5,r5,y5,st5,fr5⟩:=hz;have I5':=I5.pinned (stat fr5) (T.obj _ _ st5);refine wpAny_passesOwn hp (thn (hg _ s5 σ3 H5 x u _ I5' r5 (step x H5 y5)) fun _ s6 hz=>?_);obtain ⟨σ6,H6,I6,q6⟩:=hz;refine wpAny_passesOwn hp (thn (hb _ s6 σ6 H6 _ I6 q6) fun f s7 q7=>?_);have again:∀ {σ7:St} {H7:Hp},Inv X (pq++N3 fp s5.heap) σ7 H7 s7->N σ7 H7->∃ m,m<n/\∃ i σ' H',Inv X pq σ' H' s7/\tn i s7.heap/\(∀ b∈fp,H' b=none)/\W i m σ' H':=fun {σ7 H7} I7 n7=>by
   obtain ⟨m',hm,w7⟩:=hN σ7 H7 n7;exists m',hm,i+1,σ7,H7,I7.unpinned,T.keep _ _ _ st5 fun b hb o e=>(I7.pin (b,o) (Jw _ (Jw _ (Ul hb e)))).1,fun b hb=>?_,w7;obtain ⟨o,e,d⟩:=T.obj _ _ st5 b hb;exact (I7.pin (b,o) (Jw _ (Jw _ (Ul hb e)))).2.1
  cases f with
  | next=>obtain ⟨σ7,H7,I7,n7⟩:=q7; exact again I7 n7
  | cont=>obtain ⟨σ7,H7,I7,n7⟩:=q7; exact again I7 n7
  | brk=>obtain ⟨σ7,H7,I7,q7⟩:=q7;exists σ7,H7,I7.unpinned,q7
  | ret v=>obtain ⟨x7,σ7,H7,I7,r7,q7⟩:=q7;exists x7,σ7,H7,I7.unpinned,r7,q7
end
theorem Zkt {a:Addr} {tb:TS} {D:Ends} (Pv:Nat->St->Hp->Prop) (h0:Pv 0 σ H) (hl:∀ i σ H,i<=xs.length->Pv i σ H->SqL K H a xs)
  (hs:∀ i x σ H,xs[i]?=some x->Pv i σ H->g x σ H fun σ2 H2=>tb { D with nx:=Pv (i+1),ct:=Pv (i+1),bk:=D.nx } σ2 H2) (hd:∀ σ H,Pv xs.length σ H->D.nx σ H) :
  ∃ W:Nat->Nat->St->Hp->Prop,(∃ m,W 0 m σ H)/\∀ i m σ H,W i m σ H ->
   ((Itl K a).stop i H/\D.nx σ H)\/((Itl K a).go i H/\∃ N:St->Hp->Prop,(∀ σ' H',N σ' H'->∃ m',m'<m/\W (i+1) m' σ' H')/\∀ x H',(Itl K a).yld i H x H'->g x σ H' fun σ2 H2=>tb { D with nx:=N,ct:=N,bk:=D.nx } σ2 H2):=by
 exists fun i m σ H=>m=xs.length-i/\i<=xs.length/\Pv i σ H,⟨xs.length,by simp,Ge _,h0⟩,?_;rintro i m σ H ⟨rfl,hi,p⟩;have q:=hl i σ H hi p
 by_cases hlt:i<xs.length
 ·refine .inr ⟨⟨xs,xs[i],q,by simp [hlt]⟩,Pv (i+1),fun σ' H' p'=>⟨xs.length-(i+1),by lia,rfl,hlt,p'⟩,fun x H' y=>?_⟩;obtain ⟨e,y⟩:=y;subst e;exact hs i x σ _ (y xs q) p
 ·have e:i=xs.length:=by lia
  subst e;exact .inl ⟨⟨xs,q,Je _⟩,hd σ H p⟩
theorem Zop {a:Addr} {tb:TS} {D:Ends} (Pv:Nat->St->Hp->Prop) (h0:Pv 0 σ H) (hl:∀ i σ H,i<=xs.length->Pv i σ H->SqT K H a xs)
  (hs:∀ i x σ H,xs[i]?=some x->Pv i σ H->g x σ H fun σ2 H2=>tb { D with nx:=Pv (i+1),ct:=Pv (i+1),bk:=D.nx } σ2 H2) (hd:∀ σ H,Pv xs.length σ H->D.nx σ H) :
  ∃ W:Nat->Nat->St->Hp->Prop,(∃ m,W 0 m σ H)/\∀ i m σ H,W i m σ H ->
   ((Itt K a).stop i H/\D.nx σ H)\/((Itt K a).go i H/\∃ N:St->Hp->Prop,(∀ σ' H',N σ' H'->∃ m',m'<m/\W (i+1) m' σ' H')/\∀ x H',(Itt K a).yld i H x H'->g x σ H' fun σ2 H2=>tb { D with nx:=N,ct:=N,bk:=D.nx } σ2 H2):=by
 exists fun i m σ H=>m=xs.length-i/\i<=xs.length/\Pv i σ H,⟨xs.length,by simp,Ge _,h0⟩,?_;rintro i m σ H ⟨rfl,hi,p⟩;have q:=hl i σ H hi p
 by_cases hlt:i<xs.length
 ·refine .inr ⟨⟨xs,xs[i],q,by simp [hlt]⟩,Pv (i+1),fun σ' H' p'=>⟨xs.length-(i+1),by lia,rfl,hlt,p'⟩,fun x H' y=>?_⟩;obtain ⟨e,y⟩:=y;subst e;exact hs i x σ _ (y xs q) p
 ·have e:i=xs.length:=by lia
  subst e;exact .inl ⟨⟨xs,q,Je _⟩,hd σ H p⟩
theorem Tk {lo:Int} {n:Nat} {tb:TS} {D:Ends} (Pv:Nat->St->Hp->Prop) (h0:Pv 0 σ H)
  (hs:∀ i σ H,i<n->Pv i σ H->g (.int (lo+i)) σ H fun σ2 H2=>tb { D with nx:=Pv (i+1),ct:=Pv (i+1),bk:=D.nx } σ2 H2) (hd:∀ σ H,Pv n σ H->D.nx σ H) :
  ∃ W:Nat->Nat->St->Hp->Prop,(∃ m,W 0 m σ H)/\∀ i m σ H,W i m σ H ->
   ((Itr lo n).stop i H/\D.nx σ H)\/((Itr lo n).go i H/\∃ N:St->Hp->Prop,(∀ σ' H',N σ' H'->∃ m',m'<m/\W (i+1) m' σ' H')/\∀ x H',(Itr lo n).yld i H x H'->g x σ H' fun σ2 H2=>tb { D with nx:=N,ct:=N,bk:=D.nx } σ2 H2):=by
 exists fun i m σ H=>m=n-i/\i<=n/\Pv i σ H,⟨n,by simp,Ge _,h0⟩,?_;rintro i m σ H ⟨rfl,hi,p⟩
 by_cases hlt:i<n
 ·refine .inr ⟨hlt,Pv (i+1),fun σ' H' p'=>⟨n-(i+1),by lia,rfl,hlt,p'⟩,fun x H' y=>?_⟩;obtain ⟨e,y⟩:=y;subst e y;exact hs i σ _ hlt p
 ·have e:i=n:=by lia
  subst e;exact .inl ⟨Je _,hd σ H p⟩
theorem Zjj {c:TT} {tb:TS} {D:Ends} (Pv:St->Hp->Prop) (μ:St->Hp->Nat) (h0:Pv σ H)
  (hs:∀ σ H,Pv σ H->c σ H fun b H1=>if b=true then tb { D with nx:=fun σ' H'=>Pv σ' H'/\μ σ' H' < μ σ H,ct:=fun σ' H'=>Pv σ' H'/\μ σ' H' < μ σ H,bk:=D.nx } σ H1 else D.nx σ H1)
  (mono:∀ σ H Q Q',(∀ b H1,Q b H1->Q' b H1)->c σ H Q->c σ H Q'):Zfp c tb D σ H:=by
 exists fun m σ H=>m=μ σ H/\Pv σ H,⟨_,rfl,h0⟩,?_;rintro m σ H ⟨rfl,p⟩;refine mono σ H _ _ (fun b H1 q=>?_) (hs σ H p);cases b with
 | true=>exact ⟨_,fun σ' H' ⟨p',l⟩=>⟨_,l,rfl,p'⟩,q⟩
 | false=>exact q
abbrev R2:=V->V->Hp->VK->Prop
variable {r:L2.R2}
def OpR (X:Cx) (f:Value->Value->Sem Value) (r:R2):Prop :=
 ∀ (pq:List (Addr×Obj)) (s:Shared) (σ:St) (H:Hp) (x y:V) (v u:Value) (Q:VK),Inv X pq σ H s->RelV x v->RelV y u->r x y H Q ->
  wpAny (model X.prog X.w) X.A (f v u) (EP X pq σ Q) X.xe s
def UnR (X:Cx) (f:Value->Sem Value) (r:V->Hp->VK->Prop):Prop :=
 ∀ (pq:List (Addr×Obj)) (s:Shared) (σ:St) (H:Hp) (x:V) (v:Value) (Q:VK),Inv X pq σ H s->RelV x v->r x H Q ->
  wpAny (model X.prog X.w) X.A (f v) (EP X pq σ Q) X.xe s
def Ws (X:Cx) (f:Value) (r:List V->Hp->VK->Prop):Prop :=
 ∀ (pq:List (Addr×Obj)) (s:Shared) (σ:St) (H:Hp) (xs:List V) (us:List Value) (Q:VK),Inv X pq σ H s->Vals xs us->r xs H Q ->
  wpAny (model X.prog X.w) X.A (call f us) (EP X pq σ Q) X.xe s
def tOp (r:R2) (ta tb:TE):TE:=fun σ H Q=>ta σ H fun x H1=>tb σ H1 fun y H2=>r x y H2 Q
def tUn (r:V->Hp->VK->Prop) (ta:TE):TE:=fun σ H Q=>ta σ H fun x H1=>r x H1 Q
def rI (C:Int->Int->Prop) (g:Int->Int->V):R2:=fun x y H Q=>∃ i j,x=.int i/\y=.int j/\C i j/\Q (g i j) H
def rI0 (g:Int->Int->V):R2:=fun x y H Q=>∃ i j,x=.int i/\y=.int j/\Q (g i j) H
def rU (g:Int->V):V->Hp->VK->Prop:=fun x H Q=>∃ i,x=.int i/\Q (g i) H
section
variable {a b:Expr} 
def binT (ha:PE X a ta) (hb:PE X b tb) {R:V->V->Hp->Prop} (I:Inv X pq σ H s)
  (h:ta σ H fun x H1=>tb σ H1 fun y H2=>R x y H2) {Q:Value->Shared->Prop} {f:Value->Value->Sem Value}
  (hf:∀ v u s2 x y H2,Inv X pq σ H2 s2->RelV x v->RelV y u->R x y H2->wpAny (model X.prog X.w) X.A (f v u) Q X.xe s2) :
  wpAny (model X.prog X.w) X.A (eval a X.env) (fun v s₁=>wpAny (model X.prog X.w) X.A (eval b X.env) (fun u s₂=>wpAny (model X.prog X.w) X.A (f v u) Q X.xe s₂) X.xe s₁) X.xe s:=by
 refine thn (ha pq s σ H _ I h) fun v s1 hz=>?_;obtain ⟨x,H1,I1,r1,q1⟩:=hz;refine thn (hb pq s1 σ H1 _ I1 q1) fun u s2 hz=>?_;obtain ⟨y,H2,I2,r2,q2⟩:=hz;exact hf v u s2 x y H2 I2 r1 r2 q2
def Z2 {op:Operator} (ho:OpR X (binaryOp op) r) (ha:PE X a ta) (hb:PE X b tb):PE X (.BinOp a op b pos) (tOp r ta tb):=by
 intro pq s σ H Q I h;exact wpAny_BinOp (binT ha hb I h fun v u s2 x y H2 I2 rx ry q=>ho pq s2 σ H2 x y v u Q I2 rx ry q)
def Zg0 {op:UnaryOp} {r:V->Hp->VK->Prop} (ho:UnR X (unaryOp op) r) (ha:PE X a ta):PE X (.UnaryOp op a pos) (tUn r ta):=by
 intro pq s σ H Q I h;exact UnaryOp_ (thn (ha pq s σ H _ I h) fun v s1 ⟨x,H1,I1,r1,q1⟩=>ho pq s1 σ H1 x v Q I1 r1 q1)
def opI {f:Value->Value->Sem Value} {C:Int->Int->Prop} {g:Int->Int->Int}
  (rule:∀ (i j:Int) (t u:Tok) (s:Shared) (Q:Value->Shared->Prop) (E:Value->Shared->Prop),C i j->Q (.int (g i j) s.toks) { s with toks:=s.toks+1 }->wpAny (model X.prog X.w) X.A (f (.int i t) (.int j u)) Q E s) :
  OpR X f (rI C fun i j=>.int (g i j)):=by
 intro pq s σ H x y v u Q I rx ry h;obtain ⟨i,j,rfl,rfl,hc,q⟩:=h;obtain ⟨t,rfl⟩:=rx;obtain ⟨t',rfl⟩:=ry;exact rule i j t t' s _ _ hc ⟨.int (g i j),H,I.tok _,⟨_,rfl⟩,q⟩
def opI0 {f:Value->Value->Sem Value} {g:Int->Int->Int}
  (rule:∀ (i j:Int) (t u:Tok) (s:Shared) (Q:Value->Shared->Prop) (E:Value->Shared->Prop),Q (.int (g i j) s.toks) { s with toks:=s.toks+1 }->wpAny (model X.prog X.w) X.A (f (.int i t) (.int j u)) Q E s) :
  OpR X f (rI0 fun i j=>.int (g i j)):=by
 intro pq s σ H x y v u Q I rx ry h;obtain ⟨i,j,rfl,rfl,q⟩:=h;obtain ⟨t,rfl⟩:=rx;obtain ⟨t',rfl⟩:=ry;exact rule i j t t' s _ _ ⟨.int (g i j),H,I.tok _,⟨_,rfl⟩,q⟩
def opB0 {f:Value->Value->Sem Value} {g:Int->Int->Bool}
  (rule:∀ (i j:Int) (t u:Tok) (s:Shared) (Q:Value->Shared->Prop) (E:Value->Shared->Prop),Q (.bool (g i j)) s->wpAny (model X.prog X.w) X.A (f (.int i t) (.int j u)) Q E s) :
  OpR X f (rI0 fun i j=>.bl (g i j)):=by
 intro pq s σ H x y v u Q I rx ry h;obtain ⟨i,j,rfl,rfl,q⟩:=h;obtain ⟨t,rfl⟩:=rx;obtain ⟨t',rfl⟩:=ry;exact rule i j t t' s _ _ ⟨.bl (g i j),H,I,rfl,q⟩
def CDiv (i j:Int):Prop:=0<j/\j<1073741824
def CPow (i j:Int):Prop:=0<=j/\j<=1000000/\i.natAbs<2 ^ 64
def CMul (i j:Int):Prop:=(-(2 ^ 64)<i/\i<2 ^ 64)\/(-(2 ^ 64)<j/\j<2 ^ 64)
def CMul.ok {i j:Int} (h:CMul i j):IntMulOk i j:=by
 rcases h with ⟨h1,h2⟩ | ⟨h1,h2⟩
 ·exact .of_left (intBits_le_64 h1 h2)
 ·exact .of_right (intBits_le_64 h1 h2)
def Wm:OpR X (binaryOp .Add) (rI0 fun i j=>.int (i+j)):=opI0 fun _ _ _ _ _ _ _ q=>add_int q
def Zl2:OpR X (binaryOp .Sub) (rI0 fun i j=>.int (i-j)):=opI0 fun _ _ _ _ _ _ _ q=>sub_int q
def Uv:OpR X (binaryOp .Mult) (rI CMul fun i j=>.int (i*j)):=opI fun _ _ _ _ _ _ _ hc q=>mul_int q hc.ok
theorem Zg8:OpR X (binaryOp .FloorDiv) (rI CDiv fun i j=>.int (i / j)):=opI fun i j _ _ _ _ _ hc q=>by
 have h1:(0:Int)<j:=hc.1;have h2:j<1073741824:=hc.2;exact floordiv_int (by lia) (by rw [Int.fdiv_eq_ediv_of_nonneg i (by lia)]; exact q) (.inl (PyProof.noPylong_small (by lia)))
theorem Wb:OpR X (binaryOp .Mod) (rI (fun _ j=>0<j) fun i j=>.int (i % j)):=opI fun i j _ _ _ _ _ hc q=>by
 have h1:(0:Int)<j:=hc;exact mod_int' (by lia) (by rw [Int.fmod_eq_emod_of_nonneg i (by lia)]; exact q)
def Zg6:OpR X (binaryOp .Pow) (rI CPow fun i j=>.int (i ^ j.toNat)):=opI fun _ _ _ _ _ _ _ hc q=>pow_int_small hc.1 hc.2.1 hc.2.2 q
def unI {f:Value->Sem Value} {g:Int->Int}
  (rule:∀ (i:Int) (t:Tok) (s:Shared) (Q:Value->Shared->Prop) (E:Value->Shared->Prop),Q (.int (g i) s.toks) { s with toks:=s.toks+1 }->wpAny (model X.prog X.w) X.A (f (.int i t)) Q E s) :
  UnR X f (rU fun i=>.int (g i)):=by
 intro pq s σ H x v Q I rx h;obtain ⟨i,rfl,q⟩:=h;obtain ⟨t,rfl⟩:=rx;exact rule i t s _ _ ⟨.int (g i),H,I.tok _,⟨_,rfl⟩,q⟩
def Np:UnR X (unaryOp .USub) (rU fun i=>.int (-i)):=unI fun _ _ _ _ _ q=>neg_int q
end
def scal:V->V->Bool
 | .non,.non=>true | .non,.int _=>true | .int _,.non=>true | .non,.bl _=>true | .bl _,.non=>true | .non,.str _=>true | .str _,.non=>true
 | .int _,.int _=>true | .bl _,.bl _=>true | .str _,.str _=>true | .byt _,.byt _=>true
 | .int _,.str _=>true | .str _,.int _=>true | .bl _,.str _=>true | .str _,.bl _=>true
 | _,_=>false
def rEq:R2:=fun x y H Q=>scal x y=true/\Q (.bl (decide (x=y))) H
def rNe:R2:=fun x y H Q=>scal x y=true/\Q (.bl (!decide (x=y))) H
def Zie {i j:Int}:decide (V.int i=V.int j)=(i == j):=by
 rw [B7];simp
def Zmc {i j:Bool}:decide (V.bl i=V.bl j)=(i == j):=by
 rw [B7];simp
def Zid {i j:Str}:decide (V.str i=V.str j)=(i == j):=by
 rw [B7];simp
def Zif {i j:Array UInt8}:decide (V.byt i=V.byt j)=(i.toList == j.toList):=by
 rw [B7];cases i;cases j;simp
section
variable {a b c:Expr} 
def Yq {k k':Bool} (I:Inv X pq σ H s) (q:Q (.bl k) H) (e:k=k'):EP X pq σ Q (.bool k') s:=by
 subst e;exists .bl k,H,I,rfl,q
theorem Zha:OpR X (compareOp .Eq) rEq:=by
 intro pq s σ H x y v u Q I rx ry h;obtain ⟨hs,q⟩:=h;cases x with
 | non =>
  cases rx;cases y with
  | non=>cases ry; exact PySem.EqNone.eq_none_none (Yq I q (by simp))
  | bl j=>cases ry; exact PySem.EqNone.eq_none_bool (Yq I q (by simp))
  | int j=>obtain ⟨t',rfl⟩:=ry; exact PySem.EqNone.eq_none_int (Yq I q (by simp))
  | str j=>obtain ⟨t',rfl⟩:=ry; exact PySem.EqNone.eq_none_str (Yq I q (by simp))
  | _=>exact absurd (show false=true from hs) Ju
 | bl i =>
  cases rx;cases y with
  | non=>cases ry; exact PySem.EqNone.eq_bool_none (Yq I q (by simp))
  | bl j=>cases ry; exact eq_bool (Yq I q Zmc)
  | str j=>obtain ⟨t',rfl⟩:=ry; exact PySem.EqMixed.eq_bool_str (Yq I q (by simp))
  | _=>exact absurd (show false=true from hs) Ju
 | int i =>
  obtain ⟨t,rfl⟩:=rx;cases y with
  | non=>cases ry; exact PySem.EqNone.eq_int_none (Yq I q (by simp))
  | int j=>obtain ⟨t',rfl⟩:=ry; exact eq_int (Yq I q Zie)
  | str j=>obtain ⟨t',rfl⟩:=ry; exact PySem.EqMixed.eq_int_str (Yq I q (by simp))
  | _=>exact absurd (show false=true from hs) Ju
 | str i =>
  obtain ⟨t,rfl⟩:=rx;cases y with
  | non=>cases ry; exact PySem.EqNone.eq_str_none (Yq I q (by simp))
  | bl j=>cases ry; exact PySem.EqMixed.eq_str_bool (Yq I q (by simp))
  | int j=>obtain ⟨t',rfl⟩:=ry; exact PySem.EqMixed.eq_str_int (Yq I q (by simp))
  | str j=>obtain ⟨t',rfl⟩:=ry; exact eq_str (Yq I q Zid)
  | _=>exact absurd (show false=true from hs) Ju
 | byt i =>
  obtain ⟨t,rfl⟩:=rx;cases y with
  | byt j=>obtain ⟨t',rfl⟩:=ry; exact W.eq_bytes (Yq I q Zif)
  | _=>exact absurd (show false=true from hs) Ju
 | _=>cases y <;> exact absurd (show false=true from hs) Ju
theorem Zt6:OpR X (compareOp .NotEq) rNe:=by
 intro pq s σ H x y v u Q I rx ry h;obtain ⟨hs,q⟩:=h;cases x with
 | non =>
  cases rx;cases y with
  | non=>cases ry; exact PySem.EqNone.ne_none_none (Yq I q (by simp))
  | bl j=>cases ry; exact PySem.EqNone.ne_none_bool (Yq I q (by simp))
  | int j=>obtain ⟨t',rfl⟩:=ry; exact PySem.EqNone.ne_none_int (Yq I q (by simp))
  | str j=>obtain ⟨t',rfl⟩:=ry; exact PySem.EqNone.ne_none_str (Yq I q (by simp))
  | _=>exact absurd (show false=true from hs) Ju
 | bl i =>
  cases rx;cases y with
  | non=>cases ry; exact PySem.EqNone.ne_bool_none (Yq I q (by simp))
  | bl j=>cases ry; exact ne_bool (Yq I q (congrArg not Zmc))
  | str j=>obtain ⟨t',rfl⟩:=ry; exact PySem.EqMixed.ne_bool_str (Yq I q (by simp))
  | _=>exact absurd (show false=true from hs) Ju
 | int i =>
  obtain ⟨t,rfl⟩:=rx;cases y with
  | non=>cases ry; exact PySem.EqNone.ne_int_none (Yq I q (by simp))
  | int j=>obtain ⟨t',rfl⟩:=ry; exact ne_int (Yq I q (congrArg not Zie))
  | str j=>obtain ⟨t',rfl⟩:=ry; exact PySem.EqMixed.ne_int_str (Yq I q (by simp))
  | _=>exact absurd (show false=true from hs) Ju
 | str i =>
  obtain ⟨t,rfl⟩:=rx;cases y with
  | non=>cases ry; exact PySem.EqNone.ne_str_none (Yq I q (by simp))
  | bl j=>cases ry; exact PySem.EqMixed.ne_str_bool (Yq I q (by simp))
  | int j=>obtain ⟨t',rfl⟩:=ry; exact PySem.EqMixed.ne_str_int (Yq I q (by simp))
  | str j=>obtain ⟨t',rfl⟩:=ry; exact ne_str (Yq I q (congrArg not Zid))
  | _=>exact absurd (show false=true from hs) Ju
 | byt i =>
  obtain ⟨t,rfl⟩:=rx;cases y with
  | byt j=>obtain ⟨t',rfl⟩:=ry; exact W.ne_bytes (Yq I q (congrArg not Zif))
  | _=>exact absurd (show false=true from hs) Ju
 | _=>cases y <;> exact absurd (show false=true from hs) Ju
def Zj8:OpR X (compareOp .Lt) (rI0 fun i j=>.bl (decide (i<j))):=opB0 fun _ _ _ _ _ _ _ q=>lt_int q
def Zg7:OpR X (compareOp .Gt) (rI0 fun i j=>.bl (decide (j<i))):=opB0 fun _ _ _ _ _ _ _ q=>gt_int q
def Zt7:OpR X (compareOp .GtE) (rI0 fun i j=>.bl (decide (j<=i))):=opB0 fun _ _ _ _ _ _ _ q=>ge_int q
def Yo (b:Expr) {op:CmpOp} (h:op≠.In:=by decide) (h2:op≠.NotIn:=by decide):behindInMarks op b=false:=by
 have e1:(op == CmpOp.In)=false:=by cases op <;> first | rfl | exact absurd rfl h
 have e2:(op == CmpOp.NotIn)=false:=by cases op <;> first | rfl | exact absurd rfl h2
 cases b <;> simp [behindInMarks,e1,e2]
def Zg2 {op:CmpOp} (ho:OpR X (compareOp op) r) (ha:PE X a ta) (hb:PE X b tb) (hm:behindInMarks op b=false):PE X (.Compare a [op] [b] pos) (tOp r ta tb):=by
 intro pq s σ H Q I h;exact wpAny_Compare1 (binT ha hb I h fun v u s2 x y H2 I2 rx ry q=>ho pq s2 σ H2 x y v u Q I2 rx ry q) hm
def Zp3 (t:TE):TT:=fun σ H Q=>t σ H fun x H'=>∃ k,x=.bl k/\Q k H'
def Z8 {op:CmpOp} (ho:OpR X (compareOp op) r) (ha:PE X a ta) (hb:PE X b tb) (hm:behindInMarks op b=false):PT X (.Compare a [op] [b] pos) (Zp3 (tOp r ta tb)):=by
 intro pq s σ H Q I h;refine wpAny_isTrue_Compare1 (thn (ha pq s σ H _ I h) fun v s1 ⟨x,H1,I1,r1,q1⟩=>thn (hb pq s1 σ H1 _ I1 q1) fun u s2 ⟨y,H2,I2,r2,q2⟩ =>
  thn (ho pq s2 σ H2 x y v u _ I2 r1 r2 q2) fun c s3 ⟨z,H3,I3,r3,k,e,q3⟩=>?_) hm
 subst e;cases r3;exact wpAny_truthy_bool ⟨H3,I3,q3⟩
def Qy:(sizeLine:Nat)<2 ^ 63:=by rw [sizeLine_eq]; decide
def Zen:OpR X (binaryOp .Add) (fun x y H Q=>∃ i j,x=.str i/\y=.str j/\i.length+j.length<=sizeLine/\Q (.str (i++j)) H):=by
 intro pq s σ H x y v u Q I rx ry h;obtain ⟨i,j,rfl,rfl,hz,q⟩:=h;obtain ⟨t,rfl⟩:=rx;obtain ⟨t',rfl⟩:=ry;exact add_str (fun t' tk=>⟨.str (i++j),H,I.tok _,⟨_,rfl⟩,q⟩) hz
theorem Uy {x:V} (r:Vals [x] us):∃ u,us=[u]/\RelV x u:=by
 cases r with
 | cons r1 r2=>cases r2;exists ·,r1
theorem Zmq {x y:V} (r:Vals [x,y] us):∃ u w',us=[u,w']/\RelV x u/\RelV y w':=by
 cases r with
 | cons r1 r2 =>
  cases r2 with
  | cons r3 r4=>cases r4;exists _,·,r1,r3
def Zk5:Ws X (.builtin "abs") (fun xs H Q=>∃ i,xs=[.int i]/\Q (.int (if i<0 then -i else i)) H):=by
 intro pq s σ H xs us Q I r h;obtain ⟨i,rfl,q⟩:=h;obtain ⟨u,rfl,t,rfl⟩:=Uy r;exact call_abs_int fun u tk=>⟨.int (if i<0 then -i else i),H,I.tok _,⟨_,rfl⟩,q⟩
def Zaz (hc:X.calm=true):Ws X (.builtin "max") (fun xs H Q=>∃ i j,xs=[.int i,.int j]/\Q (.int (if j > i then j else i)) H):=by
 intro pq s σ H xs us Q I r h;obtain ⟨i,j,rfl,q⟩:=h;obtain ⟨u,w',rfl,⟨t,rfl⟩,⟨t',rfl⟩⟩:=Zmq r;refine max_two_ints (I.ok.hd hc) fun h' tk k=>⟨_,H,I.kept k,?_,q⟩
 by_cases hj:j > i
 ·rw [Dh hj,Dh hj];exists ·
 ·rw [Dg hj,Dg hj];exists ·
def Zay (hc:X.calm=true):Ws X (.builtin "min") (fun xs H Q=>∃ i j,xs=[.int i,.int j]/\Q (.int (if j<i then j else i)) H):=by
 intro pq s σ H xs us Q I r h;obtain ⟨i,j,rfl,q⟩:=h;obtain ⟨u,w',rfl,⟨t,rfl⟩,⟨t',rfl⟩⟩:=Zmq r;refine min_two_ints (I.ok.hd hc) fun h' tk k=>⟨_,H,I.kept k,?_,q⟩
 by_cases hj:j<i
 ·rw [Dh hj,Dh hj];exists ·
 ·rw [Dg hj,Dg hj];exists ·
def Ziw:Ws X (.type "int") (fun xs H Q=>(∃ i,xs=[.int i]/\Q (.int i) H)\/∃ k,xs=[.bl k]/\Q (.int (if k then 1 else 0)) H):=by
 intro pq s σ H xs us Q I r h;rcases h with ⟨i,rfl,q⟩ | ⟨k,rfl,q⟩
 ·obtain ⟨u,rfl,t,rfl⟩:=Uy r;exact call_int_int ⟨.int i,H,I,⟨_,rfl⟩,q⟩
 ·obtain ⟨u,rfl,r1⟩:=Uy r;cases r1;exact call_int_bool ⟨.int (if k then 1 else 0),H,I.tok _,⟨_,rfl⟩,q⟩
def LenV (K:W.Frag) (x:V) (H:Hp) (n:Nat):Prop :=
 match x with
 | .str y=>y.length<=sizeLine/\n=y.length
 | .byt y=>y.size<=sizeLine/\n=y.size
 | .ref p=>(∃ xs,SqL K H p xs/\n=xs.length)\/∃ xs,SqT K H p xs/\n=xs.length
 | _=>False
theorem Y8:Ws X (.builtin "len") (fun xs H Q=>∃ x n,xs=[x]/\LenV X.K x H n/\Q (.int n) H):=by
 intro pq s σ H xs us Q I r h;obtain ⟨x,n,rfl,e,q⟩:=h;obtain ⟨u,rfl,rx⟩:=Uy r;have hl:=Qy;have hs:sizeLine=16777216:=sizeLine_eq;cases x with
 | str y =>
  obtain ⟨t,rfl⟩:=rx;obtain ⟨hy,e'⟩:y.length<=sizeLine/\n=y.length:=e;subst e';exact len_str (by lia) ⟨.int _,H,I.tok _,⟨_,rfl⟩,q⟩
 | byt y =>
  obtain ⟨t,rfl⟩:=rx;obtain ⟨hy,e'⟩:y.size<=sizeLine/\n=y.size:=e;subst e';exact W.len_bytes (by lia) ⟨.int _,H,I.tok _,⟨_,rfl⟩,q⟩
 | ref p =>
  cases rx;have e':(∃ xs,SqL X.K H p xs/\n=xs.length)\/∃ xs,SqT X.K H p xs/\n=xs.length:=e;rcases e' with ⟨xs,hx,e'⟩ | ⟨xs,hx,e'⟩
  ·subst e';obtain ⟨its,r',pl,hz⟩:=I.list hx;have hlen:=r'.length;exact Calls.call_len_list pl.isList (by simp only [Jp]; lia) ⟨.int xs.length,H,I.tok _,⟨_,by simp only [Jp]; rw [hlen]⟩,q⟩
  ·subst e';obtain ⟨its,r',pl,hz⟩:=I.tuple hx;have hlen:=r'.length;exact len_tuple pl (by simp only [Jp]; lia) ⟨.int xs.length,H,I.tok _,⟨_,by simp only [Jp]; rw [hlen]⟩,q⟩
 | _=>exact (show False from e).elim
end
structure ObjM (h:Heap) (x dx C:Addr) (mA:Str->Option Value):Prop where
 obj:h.get? x=some (W.instObj C dx)
 ns:h.Ns1 dx mA
 ne:dx≠x
def Zhh (n:h.Ns1 dx mA):∃ od,h.get? dx=some od/\∀ name,W.lookIn name od=some (mA name):=by
 obtain ⟨o,es,ep,ho,hd,hk,_,hm⟩:=n;exists o,ho,fun name=>?_;have e:=hm name;unfold nsFind findBy at e;rw [<- Array.find?_toList] at e;unfold W.lookIn;rw [hd];dsimp only
 split
 ·rename_i y q
  rw [q] at e;exact congrArg some e
 ·rename_i q
  rw [q] at e;have a:es.toList.any (·.refKey)=false:=by
   rw [List.any_eq_false];intro y hy;obtain ⟨z,t,hkey⟩:=hk y (Array.mem_toList_iff.mp hy);simp [DictEntry.refKey,hkey]
  have a':¬ es.toList.any (·.refKey)=true:=by rw [a]; exact Ju
  rw [Dg a'];exact congrArg some e
def ObjM.look {x:Addr} (I:ObjM h x dx C mA):∃ od,W.InstAt h x (W.instObj C dx) C (some od)/\∀ name,W.lookIn name od=some (mA name) :=
 let ⟨od,ho,hl⟩:=Zhh I.ns
 ⟨od,⟨I.obj,rfl,rfl,ho⟩,hl⟩
section
variable {w:World} {x f:Addr} {name:Str} {v:Value}
def Zon {expr:Bool} {Q:Value->Shared->Prop} (X:K.In s.heap) (I:ObjM s.heap x dx C mA) (hg:W.plainGet K C name=true) (hh:W.hasDictIn K C=true)
  (ha:W.findIn K (.ref C) name=some none) (hv:mA name=some v) (hv':W.handedIn v=true) (h:Q v { s with toks:=s.toks+1 }) :
  wpAny (model prog w) A (getAttr (.ref x) name expr) Q E s:=by
 obtain ⟨od,J,hl⟩:=I.look;exact W.get_value X J (W.plainGet_of hg).1 (W.findObj_own hh ha rfl (by rw [hl,hv])) hv' h
def Zks {pl:Sem Bool} {Q:Value×List Value->Shared->Prop} (X:K.In s.heap) (I:ObjM s.heap x dx C mA) (hg:W.plainGet K C name=true)
  (hf:W.findIn K (.ref C) name=some (some (.ref f))) (ht:W.isFn K (.ref f)=true) (hv:mA name=none) (h:Q (.ref f,[.ref x]) s) :
  wpAny (model prog w) A (getMethod (.ref x) name pl) Q E s:=by
 obtain ⟨od,J,hl⟩:=I.look;exact W.method_fn X J (W.plainGet_of hg).1 (W.plainGet_of hg).2 hf (beq_iff_eq.mp ht) (by show (W.lookIn name od).map (·.isSome)=some false; rw [hl,hv]; rfl) h
theorem Zm0 {ns:List Str} {Q:Unit->Shared->Prop} (X:K.In s.heap) (I:ObjM s.heap x dx C mA)
  (hs:W.findIn K (.ref C) "__setattr__"=some (some (.builtin "object.__setattr__"))) (hp:W.plainOver K C=true) (ht:W.takerIn K C name=some none) (hh:W.hasDictIn K C=true)
  (hw:PySem.Within mA ns) (hsz:ns.length<=sizeLine)
  (h:∀ h',ObjM h' x dx C (fun y=>if y=name then some v else mA y)->Heap.SameBut dx s.heap h'->Q () { s with heap:=h',toks:=s.toks+2 }) :
  wpAny (model prog w) A (setAttr (.ref x) name v) Q E s:=by
 obtain ⟨od,J,hl⟩:=I.look;refine W.set_plain X J hs (W.osa_open (s:={ s with toks:=s.toks+1 }) (r:=none) X J hp ht fun b=>?_);obtain ⟨cd,hc,hd'⟩:=W.any_some hh;have hx:s.heap.get? x=some ⟨.ref C,some dx,.plain,#[]⟩:=I.obj;refine Da (Db (Da (Da (wpAny_loadPart hx (Da (W.Looks.here (s:={ s with toks:=s.toks+1 }) (W.looks_clsIn X hc) ?_))))));rw [hd'];refine Db (a:=some dx) (Da (Db (Da ?_)));refine wpAny_nsSet1 (s:={ s with toks:=s.toks+1 }) I.ns fun h' hn2 hs2=>?_;obtain ⟨oD,esD,epD,hoD,hdD,hcD⟩:=hn2.count (PySem.Within.cons name v hw);refine Da (wpAny_lookBehind hoD (by rw [hdD]; exact pastItsLine_dict (Jv hcD (by rw [Jz]; lia))) ?_)
 exact Db (h _ ⟨(hs2.2 _ (Ne.symm I.ne)).trans I.obj,hn2,I.ne⟩ hs2)
def Zke {R:Result->Shared->Prop} {vs:List Value} {kw:List (Str×Value)} (X:K.In s.heap) (hm:W.makesIn K C=true)
  (hi:W.findIn K (.ref C) "__init__"=some (some (.ref f))) (hf:W.typeIn K (.ref f)=some (.type "function"))
  (h:codeAny (model prog w) (A.under (.builtin "type.__call__" ⟨.ref C::vs,kw⟩)) (.call (.ref f) ⟨.ref (s.heap.objs.size+1)::vs,kw⟩) (W.InitBack (s.heap.objs.size+1) R)
   { s with heap:=(s.heap.push W.emptyDict).push (W.instObj C s.heap.objs.size) }) :
  codeAny (model prog w) A (.call (.ref C) ⟨vs,kw⟩) R s:=by
 obtain ⟨hh,g,d,t,os⟩:=s;exact W.make_core (W.makes_of X hm) (W.looks_findIn X hi) (fun self=>W.bind_fn X self hf) (.inl rfl) h
end
def putF (f:Str) (v:V):List (Str×V)->List (Str×V)
 | []=>[(f,v)]
 | (g,x)::r=>if g=f then (g,v)::r else (g,x)::putF f v r
theorem U2 (f g:Str) (v:V):∀ fs:List (Str×V),(putF f v fs).lookup g=if g=f then some v else fs.lookup g
 | []=>by
  show List.lookup g [(f,v)]=_
  by_cases h:g=f
  ·have hb:(g == f)=true:=beq_iff_eq.mpr h;simp only [List.lookup,hb,Dh h]
  ·have hb:(g == f)=false:=beq_eq_false_iff_ne.mpr h;simp only [List.lookup,hb,Dg h]
 | (k,x)::r=>by
  have ih:=U2 f g v r;rw [show putF f v ((k,x)::r)=(if k=f then (k,v)::r else (k,x)::putF f v r) from rfl]
  by_cases hk:k=f
  ·rw [Dh hk]
   by_cases h:g=k
   ·have hb:(g == k)=true:=beq_iff_eq.mpr h;simp only [List.lookup,hb,Dh (h.trans hk)]
   ·have hb:(g == k)=false:=beq_eq_false_iff_ne.mpr h;simp only [List.lookup,hb,Dg (fun e:g=f=>h (e.trans hk.symm))]
  ·rw [Dg hk]
   by_cases h:g=k
   ·have hb:(g == k)=true:=beq_iff_eq.mpr h;simp only [List.lookup,hb,Dg (fun e:g=f=>hk (h.symm.trans e))]
   ·have hb:(g == k)=false:=beq_eq_false_iff_ne.mpr h;simp only [List.lookup,hb];exact ih
theorem V0 (f:Str) (v:V):∀ fs:List (Str×V),f∈(putF f v fs).map (·.1)/\∀ g,g∈fs.map (·.1)->g∈(putF f v fs).map (·.1)
 | []=>⟨by simp [putF],fun g h=>by simp at h⟩
 | (k,x)::r=>by
  obtain ⟨i1,i2⟩:=V0 f v r;rw [show putF f v ((k,x)::r)=(if k=f then (k,v)::r else (k,x)::putF f v r) from rfl]
  by_cases hk:k=f
  ·rw [Dh hk];subst hk;exact ⟨by simp,fun g h=>by simpa using h⟩
  ·rw [Dg hk];exists ?_,fun g h=>?_
   ·rw [Jl];exact Jk _ i1
   ·rw [Jl] at h ⊢;rcases Jq.mp h with e | e
    ·exact Jq.mpr (.inl e)
    ·exact Jk _ (i2 g e)
theorem Rl (f:Str) (v:V):∀ fs:List (Str×V),(putF f v fs).length<=fs.length+1
 | []=>by simp [putF]
 | (k,x)::r=>by
  have ih:=Rl f v r;rw [show putF f v ((k,x)::r)=(if k=f then (k,v)::r else (k,x)::putF f v r) from rfl]
  by_cases hk:k=f
  ·rw [Dh hk,Jz,Jz]; lia
  ·rw [Dg hk,Jz,Jz]; lia
theorem RelO.some_of {v:V} {o:Option Value} (r:RelO (some v) o):∃ u,o=some u/\RelV v u:=by
 cases o with
 | none=>exact (show False from r).elim
 | some u=>exact ⟨u,rfl,r⟩
theorem RelO.none_of {o:Option Value} (r:RelO none o):o=none:=by
 cases o with
 | none=>rfl
 | some u=>exact (show False from r).elim
theorem Zh2 {v:V} {u:Value} (r:RelV v u):W.handedIn u=true:=by
 cases v with
 | non=>cases (show u=Value.none from r); rfl
 | bl b=>cases (show u=Value.bool b from r); rfl
 | int i=>obtain ⟨t,e⟩:=(show ∃ t,u=Value.int i t from r); cases e; rfl
 | str x=>obtain ⟨t,e⟩:=(show ∃ t,u=Value.str x t from r); cases e; rfl
 | byt b=>obtain ⟨t,e⟩:=(show ∃ t,u=Value.bytes b t from r); cases e; rfl
 | flt b=>obtain ⟨t,e⟩:=(show ∃ t,u=Value.float b t from r); cases e; rfl
 | ref a=>cases (show u=Value.ref a from r); rfl
 | ty n=>cases (show u=Value.type n from r); rfl
section
variable {w:World} {a:Addr} {fs:List (Str×V)}
def Py (hok:HOk P w H h) (e:H a=some (.ins C dx fs)):∃ mA,ObjM h a dx C mA/\(∀ f,RelO (fs.lookup f) (mA f))/\PySem.Within mA (fs.map (·.1))/\fs.length<=1000/\H dx=some (.own a):=by
 obtain ⟨d,z,ne,ob,mA,n,r,q⟩:=(show Yw P w H h a (.ins C dx fs) from hok a _ e);exists mA,⟨ob,n,ne⟩,r,q,z,d
end
structure Cls (K:W.Frag) (C:Addr):Prop where
 pg:W.plainGet K C Str.empty=true
 hd:W.hasDictIn K C=true
 po:W.plainOver K C=true
 sa:W.findIn K (.ref C) "__setattr__"=some (some (.builtin "object.__setattr__"))
def Cls.get (c:Cls K C) (f:Str):W.plainGet K C f=true:=c.pg
def Xk (K:W.Frag) (C:Addr) (f:Str):Prop:=W.findIn K (.ref C) f=some none
def Xk.taker {f:Str} (n:Xk K C f):W.takerIn K C f=some none:=by
 unfold W.takerIn;rw [show W.findIn K (.ref C) f=some none from n];rfl
structure Con (K:W.Frag) (C:Addr) (f:Str) (v:V) (u:Value):Prop where
 at_:W.findIn K (.ref C) f=some (some u)
 rel:RelV v u
 get:W.specialIn K u "__get__"=some none
 cp:W.copiedNames.contains f=false
structure Meth (K:W.Frag) (C:Addr) (m:Str) (f:Addr):Prop where
 at_:W.findIn K (.ref C) m=some (some (.ref f))
 fn:W.isFn K (.ref f)=true
 kp:W.keepIn K (.ref f)=true
section
variable {a:Addr} {fs:List (Str×V)} {f:Str} {v:V} 
def Ze3 {b:Bool} {Q:Value->Shared->Prop} (I:Inv X pq σ H s) (e:H a=some (.ins C dx fs)) (c:Cls X.K C) (n:Xk X.K C f) (l:fs.lookup f=some v)
  (h:∀ u s',Inv X pq σ H s'->RelV v u->Q u s'):wpAny (model X.prog X.w) A (getAttr (.ref a) f b) Q E s:=by
 obtain ⟨mA,O,r,_,_,_⟩:=Py I.hok e;obtain ⟨u,hu,ru⟩:=RelO.some_of (v:=v) (o:=mA f) (by rw [<- l]; exact r f);exact Zon I.kIn O (c.get f) c.hd n hu (Zh2 ru) (h u _ (I.tok _) ru)
def Q3 {m:Str} {g:Addr} {pl:Sem Bool} {Q:Value×List Value->Shared->Prop} (I:Inv X pq σ H s) (e:H a=some (.ins C dx fs)) (c:Cls X.K C) (k:Meth X.K C m g) (l:fs.lookup m=none)
  (h:Q (.ref g,[.ref a]) s):wpAny (model X.prog X.w) A (getMethod (.ref a) m pl) Q E s:=by
 obtain ⟨mA,O,r,_,_,_⟩:=Py I.hok e;have hn:mA m=none:=RelO.none_of (by rw [<- l]; exact r m);exact Zks I.kIn O (c.get m) k.at_ k.fn hn h
theorem Zei {y:V} {u:Value} {Q:Unit->Shared->Prop} (I:Inv X pq σ H s) (e:H a=some (.ins C dx fs)) (c:Cls X.K C) (n:Xk X.K C f) (hl:fs.length<1000) (ry:RelV y u)
  (h:∀ s',Inv X pq σ (upd H a (.ins C dx (putF f y fs))) s'->Q () s'):wpAny (model X.prog X.w) A (setAttr (.ref a) f u) Q E s:=by
 obtain ⟨mA,O,r,wi,_,ho⟩:=Py I.hok e;have hz:(fs.map (·.1)).length<=sizeLine:=by rw [Jb,sizeLine_eq]; lia
 refine Zm0 I.kIn O c.sa c.po n.taker c.hd wi hz fun h' O' sb=>h _ ?_;have hd:∃ o,h'.get? dx=some o:=let ⟨o,_,_,e',_⟩:=O'.ns; ⟨o,e'⟩
 refine I.write (x:=a) (e:=dx) (by rw [e]; exact True.intro) (.inr ho) (fun b q hb z=>(sb.2 b hb).trans z) hd ?_;exists by rw [Zl O.ne]; exact ho,?_,O.ne,O'.obj,_,O'.ns,fun g=>?_,fun g hg=>?_
 ·have:=Rl f y fs; lia
 ·show RelO ((putF f y fs).lookup g) (if g=f then some u else mA g);rw [U2]
  by_cases q:g=f
  ·rw [Dh q,Dh q]; exact ry
  ·rw [Dg q,Dg q]; exact r g
 ·by_cases q:g=f
  ·rw [q]; exact (V0 f y fs).1
  ·refine (V0 f y fs).2 g (wi g fun z=>hg ?_);show (if g=f then some u else mA g)=none;rw [Dg q]; exact z
def Inv.made (I:Inv X pq σ H s):Inv X pq σ (upd (upd H s.heap.objs.size (.own (s.heap.objs.size+1))) (s.heap.objs.size+1) (.ins C s.heap.objs.size []))
  { s with heap:=(s.heap.push W.emptyDict).push (W.instObj C s.heap.objs.size) }:=by
 have e1:(s.heap.push W.emptyDict).get? s.heap.objs.size=some W.emptyDict:=De s.heap rfl;have e2:((s.heap.push W.emptyDict).push (W.instObj C s.heap.objs.size)).get? (s.heap.objs.size+1)=some (W.instObj C s.heap.objs.size):=by
  have:=De (s.heap.push W.emptyDict) (o:=W.instObj C s.heap.objs.size) rfl;rwa [Heap.size_push] at this
 have e3:(s.heap.push W.emptyDict).Ns s.heap.objs.size (fun _=>none):=⟨W.emptyDict,#[],_,e1,rfl,(fun e he=>absurd he (by simp)),fun _=>rfl⟩;have I1:=I.laid (a:=s.heap.objs.size) (o:=.own (s.heap.objs.size+1)) (h':=s.heap.push W.emptyDict) (t':=s.toks) (fun b u q=>Dd _ q) (Je _) ⟨_,e1⟩;refine I1.laid (a:=s.heap.objs.size+1) (o:=.ins C s.heap.objs.size []) (t':=s.toks) (fun b u q=>Dd _ q) (Bw (Heap.size_push _ _)) ?_;have ne:s.heap.objs.size≠s.heap.objs.size+1:=Gg (Fd _);exists by rw [Zl ne,Zd],Ge _,ne,e2,fun _=>none,(Heap.Ns1.of_empty e3).at fun o q=>Dd _ q,fun _=>True.intro,fun y hy=>absurd rfl hy
def Zo5 {w:World} {env:Env} {e:Expr} {f:Str} {Q:Value->Shared->Prop} (hb:attributeBase e f env (eval e env)=eval e env)
  (h:wpAny (model prog w) A (eval e env) (fun o s₁=>wpAny (model prog w) A (getAttr o f true) Q E s₁) E s):wpAny (model prog w) A (eval (.Attribute e f pos) env) Q E s :=
 Attribute_any_ h (by rw [arm_eval_Attribute,hb])
end
def tFld (K:W.Frag) (ta:TE) (f:Str):TE:=fun σ H Q=>ta σ H fun x H1=>∃ a C dx fs v,x=.ref a/\H1 a=some (.ins C dx fs)/\Cls K C/\Xk K C f/\fs.lookup f=some v/\Q v H1
def sFld (K:W.Frag) (ta tv:TE) (f:Str):TS:=fun D σ H=>tv σ H fun y H1=>ta σ H1 fun x H2=>∃ a C dx fs,x=.ref a/\H2 a=some (.ins C dx fs)/\Cls K C/\Xk K C f/\fs.length<1000 /\
 D.nx σ (upd H2 a (.ins C dx (putF f y fs)))
section
variable {o e:Expr} {f:Str} {tv:TE}
def W5 (he:PE X e ta) (hb:attributeBase e f X.env (eval e X.env)=eval e X.env):PE X (.Attribute e f pos) (tFld X.K ta f):=by
 intro pq s σ H Q I h;refine Zo5 hb (thn (he pq s σ H _ I h) fun u s1 hz=>?_);obtain ⟨x,H1,I1,rx,a,C,dx,fs,v,ex,ea,c,n,l,q⟩:=hz;subst ex;obtain rfl:u=Value.ref a:=rx;exact Ze3 I1 ea c n l fun u' s2 I2 ru=>⟨v,H1,I2,ru,q⟩
def Rg (ha:PE X o ta) (hv:PE X value tv) (hs:swapsWith value (some (.Attribute o f pos')) pos.line X.env=pure false):PS X (.Assign [.Attribute o f pos'] value pos) (sFld X.K ta tv f):=by
 intro pq s σ H D I h;refine plainObj_wpAny_Assign_Attribute (thn (hv pq s σ H _ I h) fun u s1 ⟨y,H1,I1,ry,q⟩=>thn (ha pq s1 σ H1 _ I1 q) fun ov s2 hz=>?_) hs;obtain ⟨x,H2,I2,rx,a,C,dx,fs,ex,ea,c,n,l,q2⟩:=hz;subst ex;obtain rfl:ov=Value.ref a:=rx;exact Zei I2 ea c n l ry fun s3 I3=>⟨σ,_,I3,q2⟩
end
section
variable {Q:Value->Shared->Prop} {c:Value} {b:Bool}
inductive TyOf (K:W.Frag) (H:Hp):V->Value->Prop where
 | non:TyOf K H .non (.type "NoneType")
 | bl (x:Bool):TyOf K H (.bl x) (.type "bool")
 | int (i:Int):TyOf K H (.int i) (.type "int")
 | str (x:Str):TyOf K H (.str x) (.type "str")
 | flt (x:UInt64):TyOf K H (.flt x) (.type "float")
 | lst {a:Addr} {xs:List V} (e:H a=some (.lst xs)):TyOf K H (.ref a) (.type "list")
 | frz {a:Addr} {o:Obj} {xs:List V} (e:H a=some (.frz o (.lst xs))):TyOf K H (.ref a) (.type "list")
 | tup {a:Addr} {xs:List V} (e:H a=some (.tup xs)):TyOf K H (.ref a) (.type "tuple")
 | dK {a:Addr} {kvs:List (Key×V)} (e:H a=some (.dK kvs)):TyOf K H (.ref a) (.type "dict")
 | dT {a:Addr} {kvs:List (List Key×V)} (e:H a=some (.dT kvs)):TyOf K H (.ref a) (.type "dict")
 | ins {a C dx:Addr} {fs:List (Str×V)} (e:H a=some (.ins C dx fs)) (cl:Cls K C) (ha:W.findIn K (.ref C) "__class__"=some (some (.builtin "object.__class__")))
   (hn:W.specialIn K (.builtin "object.__class__") "__get__"=some (some (.builtin "getset_descriptor.__get__"))) (htk:W.takesIn K (.builtin "object.__class__")=some true)
   (hm:W.mroIn K C (.type "object")=some true):TyOf K H (.ref a) (.ref C)
theorem Zhs {x:V} {u t:Value} (I:Inv X pq σ H s) (rx:RelV x u) (ty:TyOf X.K H x t) (e:W.kitOne X.K t c=some b) (h:∀ tk,Q (.bool b) { s with toks:=tk }) :
  wpAny (model X.prog X.w) A (call (.builtin "isinstance") [u,c]) Q E s:=by
 cases ty with
 | non=>cases (show u=Value.none from rx); exact W.kia_one W.kitx_none I.kIn True.intro e (fun z=>nomatch z) h
 | bl y=>cases (show u=Value.bool y from rx); exact W.kia_one W.kitx_bool I.kIn True.intro e (fun z=>nomatch z) h
 | int i=>obtain ⟨t,q⟩:=(show ∃ t,u=Value.int i t from rx); cases q; exact W.kia_one W.kitx_int I.kIn True.intro e (fun z=>nomatch z) h
 | str y=>obtain ⟨t,q⟩:=(show ∃ t,u=Value.str y t from rx); cases q; exact W.kia_one W.kitx_str I.kIn True.intro e (fun z=>nomatch z) h
 | flt y=>obtain ⟨t,q⟩:=(show ∃ t,u=Value.float y t from rx); cases q; exact W.kia_one W.kitx_float I.kIn True.intro e (fun z=>nomatch z) h
 | @lst a xs ea =>
  cases (show u=Value.ref a from rx);obtain ⟨_,_,n,_,h1⟩:=(show Yw X.prog X.w H s.heap a (.lst xs) from I.hok a _ ea);exact W.kia_one W.kitx_list I.kIn ⟨_,h1,rfl⟩ e (fun z=>nomatch z) h
 | @frz a ob xs ea =>
  cases (show u=Value.ref a from rx);obtain ⟨_,_,_,n,_,h1⟩:=(show Yw X.prog X.w H s.heap a (.frz ob (.lst xs)) from I.hok a _ ea);exact W.kia_one W.kitx_list I.kIn ⟨_,h1,rfl⟩ e (fun z=>nomatch z) h
 | @tup a xs ea =>
  cases (show u=Value.ref a from rx);obtain ⟨_,_,_,p⟩:=(show Yw X.prog X.w H s.heap a (.tup xs) from I.hok a _ ea);obtain ⟨o,h1,h2,_⟩:=p;exact W.kia_one W.kitx_tuple I.kIn ⟨o,h1,h2⟩ e (fun z=>nomatch z) h
 | @dK a kvs ea =>
  cases (show u=Value.ref a from rx);obtain ⟨_,_,vs,_,p⟩:=(show Yw X.prog X.w H s.heap a (.dK kvs) from I.hok a _ ea);obtain ⟨o,es,ep,h1,h2,_⟩:=p;exact W.kia_one W.kitx_dict I.kIn ⟨o,h1,h2.1⟩ e (fun z=>nomatch z) h
 | @dT a kvs ea =>
  cases (show u=Value.ref a from rx);obtain ⟨_,_,xs,_,o,es,ep,h1,h2,_⟩:=(show Yw X.prog X.w H s.heap a (.dT kvs) from I.hok a _ ea);exact W.kia_one W.kitx_dict I.kIn ⟨o,h1,h2.1⟩ e (fun z=>nomatch z) h
 | @ins a C dx fs ea cl ha hn htk hm =>
  cases (show u=Value.ref a from rx);obtain ⟨mA,O,_⟩:=Py I.hok ea;obtain ⟨od,J,_⟩:=O.look;exact W.kia_one (W.kitx_own (cl.get _) cl.hd ha hn htk hm) I.kIn J e (fun z=>nomatch z) h
end
structure Room (k:Nat) (A:Around):Prop where
 hd:A.handled=none
 dp:A.depth+3*k+5<recursionLimit
 un:A.units+16*k+200<cLine
theorem Room.mono {k:Nat} (r:Room k A) (h:j<=k):Room j A:=⟨r.hd,by have:=r.dp; lia,by have:=r.un; lia⟩
theorem Room.deeper {k:Nat} (r:Room (k+1) A) (env:Env):Room k (A.deeper env) :=
 ⟨r.hd,by have:=r.dp; show A.depth+1+3*k+5<_; lia,by have:=r.un; show A.units+3+16*k+200<_; lia⟩
theorem Room.in1 {k:Nat} (r:Room (k+1) A):Room k A.in1 :=
 ⟨r.hd,by have:=r.dp; show A.depth+3*k+5<_; lia,by have:=r.un; show A.units+1+16*k+200<_; lia⟩
def Zew {kw:List (Str×Value)}:(A.under (.builtin "type.__call__" ⟨.ref C::us,kw⟩)).depth=A.depth+1:=by
 first | rfl | simp [Around.under,Code.weight,Code.isCreation,Code.isGuard,Code.isCaller,Code.frames,Code.isFrame,guardIds]
def Zev {kw:List (Str×Value)}:(A.under (.builtin "type.__call__" ⟨.ref C::us,kw⟩)).units=A.units+1:=by
 first | rfl | simp [Around.under,Code.cUnits,Code.frames,Code.isFrame]
theorem Room.make {k:Nat} (r:Room (k+1) A) (C:Addr) (us:List Value) (kw:List (Str×Value)):Room k (A.under (.builtin "type.__call__" ⟨.ref C::us,kw⟩)) :=
 ⟨r.hd,by have:=r.dp; rw [Zew]; lia,by have:=r.un; rw [Zev]; lia⟩
theorem Room.depth {k:Nat} (r:Room k A):A.depth<recursionLimit:=by have:=r.dp; lia
theorem Room.units {k:Nat} (r:Room k A):A.units+64<cLine:=by have:=r.un; lia
def tNil:TA:=fun _ H Q=>Q [] H
def Zmx (ta:TE) (tr:TA):TA:=fun σ H Q=>ta σ H fun x H1=>tr σ H1 fun xs H2=>Q (x::xs) H2
section
variable {e:Expr} {t:TA} 
def Ze:PA X [] tNil:=fun _ _ _ _ H Q I h=>Calls.spliced_nil ⟨[],H,I,.nil,h⟩
def Za (ha:PE X e te) (hr:PA X es t) (hs:starEach (e::es) X.env=(false,eval e X.env)::starEach es X.env:=by rfl):PA X (e::es) (Zmx te t):=by
 intro pos pq s σ H Q I h;rw [hs];show wpAny _ _ (spliced ((false,eval e X.env)::backTo pos (starEach es X.env))) _ _ s;refine Calls.spliced_cons (thn (ha pq s σ H _ I h) fun u s1 hz=>?_);obtain ⟨x,H1,I1,r1,q1⟩:=hz;exact thn (hr pos pq s1 σ H1 _ I1 q1) fun us s2 ⟨xs,H2,I2,r2,q2⟩=>⟨x::xs,H2,I2,.cons r1 r2,q2⟩
def tTup (t:TA):TE:=fun σ H Q=>t σ H fun xs H1=>xs.length<=sizeLine/\∀ p,H1 p=none->Q (.ref p) (upd H1 p (.tup xs))
def tLst (t:TA):TE:=fun σ H Q=>t σ H fun xs H1=>xs.length<=sizeLine/\∀ p,H1 p=none->Q (.ref p) (upd H1 p (.lst xs))
def X2 {x1} (h:PA X es t):PE X (.Tuple es x1 pos) (tTup t):=by
 intro pq s σ H Q I hq;refine wpAny_Tuple_spliced (thn (h pos pq s σ H _ I hq) fun us s1 ⟨xs,H1,I1,r,z,q⟩=>⟨by rw [<- r.length]; exact z,?_⟩);have hf:H1 s1.heap.objs.size=none:=I1.hok.fresh (Je _);exists .ref s1.heap.objs.size,upd H1 s1.heap.objs.size (.tup xs),I1.laid (t':=s1.toks) (fun b u e=>Dd _ e) (Je _) ?_,rfl,q _ hf;exists z,us,r,⟨_,De _ rfl,rfl,_,rfl,rfl⟩
def Yr (h:PA X es t):PE X (.List es pos) (tLst t):=by
 intro pq s σ H Q I hq;refine wpAny_List_spliced (thn (h pos pq s σ H _ I hq) fun us s1 ⟨xs,H1,I1,r,z,q⟩=>⟨by rw [<- r.length]; exact z,?_⟩);have hf:H1 s1.heap.objs.size=none:=I1.hok.fresh (Je _);exists .ref s1.heap.objs.size,upd H1 s1.heap.objs.size (.lst xs),I1.laid (t':=s1.toks) (fun b u e=>Dd _ e) (Je _) ?_,rfl,q _ hf;exists z,us,0,r,De _ rfl
end
abbrev Sp:=List V->Hp->VK->XK->Prop
variable {sp sp':L2.Sp}
abbrev CXT:=List Env->Hp->Shared->XK->Value->Shared->Prop
variable {CX:L2.CXT}
structure Env0 (P:Program) (w:World) (K:W.Frag) (mg:Str->Option Value) (base:Heap) (A:Around) (outer:List Env) (s:Shared) (H:Hp):Prop where
 frames:A.frames=some outer
 mod:Mod K mg base
 bs:∀ b o,base.get? b=some o->s.heap.get? b=some o/\H b=none
 bsz:base.objs.size<=s.heap.objs.size
 funs:s.heap.FunFrames base outer
 frf:∀ b∈frs outer,H b=none
 hok:HOk P w H s.heap
 bare:AllBare s.gens
def CE (outer:List Env) (P:Program) (w:World) (H:Hp) (s:Shared) (Q:VK) (u:Value) (s':Shared):Prop :=
 ∃ v H',s'.os=s.os/\AllBare s'.gens/\Un (frs outer) [] H H' s.heap s'.heap/\HOk P w H' s'.heap/\RelV v u/\Q v H'
def CR (CX:CXT) (outer:List Env) (P:Program) (w:World) (H:Hp) (s:Shared) (Q:VK) (E:XK) (r:Result) (s':Shared):Prop :=
 match r with
 | .ok (.ret u)=>CE outer P w H s Q u s'
 | .ok _=>False
 | .error e=>CX outer H s E e s'
structure FnOk (P:Program) (w:World) (K:W.Frag) (mg:Str->Option Value) (base:Heap) (CX:CXT) (k:Nat) (f:Addr) (fd:FuncData) (ps:List Str) (sp:Sp):Prop where
 len:∀ vs H Q E,sp vs H Q E->vs.length=ps.length
 run:∀ (A:Around) (outer:List Env) (s:Shared) (H:Hp) (args:Args) (us:List Value) (vs:List V) (Q:VK) (E:XK),Room k A->Env0 P w K mg base A outer s H->BindsTo s fd args (ps.zip us)->Vals vs us->sp vs H Q E ->
  codeAny (model P w) A (.call (.ref f) args) (CR CX outer P w H s Q E) s
def FnOk.imp {w:World} {base:Heap} {k:Nat} {f:Addr} (F:FnOk P w K mg base CX k f fd ps sp)
  (h:∀ vs H Q E,sp' vs H Q E->sp vs H Q E):FnOk P w K mg base CX k f fd ps sp' :=
 ⟨fun vs H Q E q=>F.len vs H Q E (h _ _ _ _ q),fun A outer s H args us vs Q E hr he hb hv hs=>F.run A outer s H args us vs Q E hr he hb hv (h _ _ _ _ hs)⟩
def Env0.make {w:World} {base:Heap} {outer:List Env} (e:Env0 P w K mg base A outer s H) (C:Addr) (us:List Value) (kw:List (Str×Value)) :
  Env0 P w K mg base (A.under (.builtin "type.__call__" ⟨.ref C::us,kw⟩)) outer s H:=⟨by first | exact e.frames | (simpa [Around.under,Code.envs,Code.isFrame,pushEnvs] using e.frames),e.mod,e.bs,e.bsz,e.funs,e.frf,e.hok,e.bare⟩
def Env0.in1 {w:World} {base:Heap} {outer:List Env} (e:Env0 P w K mg base A outer s H) :
  Env0 P w K mg base A.in1 outer s H:=⟨e.frames,e.mod,e.bs,e.bsz,e.funs,e.frf,e.hok,e.bare⟩
section
variable {s':Shared}
def Inv.env0 (I:Inv X pq σ H s):Env0 X.prog X.w X.K X.mg X.base X.A X.stack s H :=
 ⟨I.ok.frames,I.ok.mod,I.bs,Jv I.ok.bsz I.sz,I.stack,I.stkFree,I.hok,I.bare⟩
def Inv.after {u:Value} (I:Inv X pq σ H s) (h:CE X.stack X.prog X.w H s Q u s'):EP X pq σ Q u s':=by
 obtain ⟨v,H',os,bare,un,hok,r,q⟩:=h;obtain ⟨hh,g,d,t,os'⟩:=s';obtain rfl:os'=s.os:=os;exists v,H',I.call (h':=hh) (g':=g) (d':=d) (t':=t) (ch:=[]) un hok bare (fun b z=>absurd z (by simp)),r,q
end
def Zfu (sp:Sp) (dvs:List V) (E:XK) (t:TA):TE:=fun σ H Q=>t σ H fun vs H1=>sp (vs++dvs) H1 Q E
def Zfr (C:Addr) (m:Str) (sp:Sp) (dvs:List V) (E:XK) (ta:TE) (t:TA):TE:=fun σ H Q=>ta σ H fun x H1=>∃ a dx fs,x=.ref a/\H1 a=some (.ins C dx fs)/\fs.lookup m=none /\
 t σ H1 fun vs H2=>sp (x::(vs++dvs)) H2 Q E
def Zeg (C:Addr) (sp:Sp) (dvs:List V) (E:XK) (t:TA):TE:=fun σ H Q=>t σ H fun vs H1=>∀ x dx,H1 x=none->H1 dx=none->dx≠x ->
 sp (.ref x::(vs++dvs)) (upd (upd H1 dx (.own x)) x (.ins C dx [])) (fun v H2=>v=.non/\Q (.ref x) H2) E
def Vn (K:W.Frag) (fd:FuncData) (ps:List Str) (ds:List Value):Prop :=
 ∀ (s:Shared) (us:List Value),K.In s.heap->(us++ds).length=ps.length->BindsTo s fd ⟨us,[]⟩ (ps.zip (us++ds))
def Vn.all (h:∀ us:List Value,us.length=ps.length->bindArgs fd ⟨us,[]⟩=pure (ps.zip us)):Vn K fd ps []:=fun s us _ hl=>by
 rw [J0] at hl ⊢;exact .of_eq (h us hl)
def Sj (CX:CXT) (X:Cx) (E:XK):Prop:=∀ (pq:List (Addr×Obj)) (σ:St) (H:Hp) (s:Shared) (e:Value) (s':Shared),Inv X pq σ H s->CX X.stack H s E e s'->X.xe e s'
section
variable {k:Nat} {f:Addr} {dvs:List V} {ds:List Value} {E:XK} {x m:Str} {p:Pos} {e o:Expr} {t:TA}
theorem Zgc (F:FnOk X.prog X.w X.K X.mg X.base CX k f fd ps sp) (hr:Room k X.A) (hb:Vn X.K fd ps ds) (hd:Vals dvs ds) (hx:Sj CX X E)
  (I:Inv X pq σ H s) (r:Vals vs us) (h:sp (vs++dvs) H Q E):wpAny (model X.prog X.w) X.A (call (.ref f) us) (EP X pq σ Q) X.xe s:=by
 have r2:Vals (vs++dvs) (us++ds):=r.append hd;have hl:(us++ds).length=ps.length:=by rw [<- r2.length]; exact F.len _ _ _ _ h
 refine wpAny_call (codeAny_mono (F.run X.A X.stack s H ⟨us,[]⟩ (us++ds) (vs++dvs) Q E hr I.env0 (hb s us I.kIn hl) r2 h) fun r s' hq=>?_);cases r with
 | error e=>exact hx pq σ H s e s' I hq
 | ok fl =>
  cases fl with
  | ret u=>exact I.after hq
  | next=>exact False.elim hq
  | brk=>exact False.elim hq
  | cont=>exact False.elim hq
def Znv (F:FnOk X.prog X.w X.K X.mg X.base CX k f fd ps sp) (hr:Room k X.A) (hg:Gl X x) (hm:X.mg x=some (.ref f)) (hk:W.keepIn X.K (.ref f)=true) (hb:Vn X.K fd ps ds) (hd:Vals dvs ds) (hx:Sj CX X E)
  (ha:PA X (e::es) t) (hdb:(x == ("__debug__":Str))=false:=by decide) (he:starEach (e::es) X.env=(false,eval e X.env)::starEach es X.env:=by rfl) (hpl:(backTo pos (starEach es X.env)).any (·.1)=false:=by rfl) :
  PE X (.Call (.Name x p) (e::es) [] pos) (Zfu sp dvs E t):=by
 intro pq s σ H Q I h;refine wpAny_Call_Name_kw (Vz I hg hm ?_ hdb);refine W.callWith_K (h₀:=X.base) I.ok.mod.kin hk (thn (ha pos pq s σ H _ I h) fun us s1 ⟨vs,H1,I1,r,q⟩=>⟨I1.kIn,?_⟩) he hpl;exact Zgc F hr hb hd hx I1 r q
def Znt {pl:Sem Bool} (he:PE X o ta) (c:Cls X.K C) (hm:Meth X.K C m f) (F:FnOk X.prog X.w X.K X.mg X.base CX k f fd ps sp) (hr:Room k X.A) (hb:Vn X.K fd ps ds) (hd:Vals dvs ds) (hx:Sj CX X E) (ha:PA X (e::es) t)
  (hst:starEach (e::es) X.env=(false,eval e X.env)::starEach es X.env:=by rfl) (hpl:(backTo pos (starEach es X.env)).any (·.1)=false:=by rfl)
  (ht:eval (.Call (.Attribute o m apos) (e::es) [] pos) X.env=(do
   let ov <- eval o X.env
   standAt apos.atName
   let (f,first) <- holding [ov] (getMethod ov m pl)
   callWith pos f first (backTo pos (starEach (e::es) X.env)) (backToKw pos (keywordEach [] X.env))):=by rfl) :
  PE X (.Call (.Attribute o m apos) (e::es) [] pos) (Zfr C m sp dvs E ta t):=by
 intro pq s σ H Q I h;refine W.methodCall_KW (pl:=pl) (thn (he pq s σ H _ I h) fun u s1 hz=>?_) ht;obtain ⟨x,H1,I1,rx,a,dx,fs,ex,ea,l,q⟩:=hz;subst ex;obtain rfl:u=Value.ref a:=rx;refine Q3 I1 ea c hm l ?_;refine W.callWith_K (first:=[.ref a]) (h₀:=X.base) I.ok.mod.kin hm.kp (thn (ha pos pq s1 σ H1 _ I1 q) fun us s2 ⟨vs,H2,I2,r,q2⟩=>⟨I2.kIn,?_⟩) hst hpl;exact Zgc (us:=.ref a::us) (vs:=.ref a::vs) F hr hb hd hx I2 (.cons rfl r) q2
def Zj6 {pl:Sem Bool} (he:PE X o ta) (c:Cls X.K C) (hm:Meth X.K C m f) (F:FnOk X.prog X.w X.K X.mg X.base CX k f fd ps sp) (hr:Room k X.A) (hb:Vn X.K fd ps ds) (hd:Vals dvs ds) (hx:Sj CX X E)
  (ht:eval (.Call (.Attribute o m apos) [] [] pos) X.env=(do
   let ov <- eval o X.env
   standAt apos.atName
   let (f,first) <- holding [ov] (getMethod ov m pl)
   callWith pos f first (backTo pos (starEach [] X.env)) (backToKw pos (keywordEach [] X.env))):=by rfl) :
  PE X (.Call (.Attribute o m apos) [] [] pos) (Zfr C m sp dvs E ta tNil):=by
 intro pq s σ H Q I h;refine W.methodCall_KW (pl:=pl) (thn (he pq s σ H _ I h) fun u s1 hz=>?_) ht;obtain ⟨x,H1,I1,rx,a,dx,fs,ex,ea,l,q⟩:=hz;subst ex;obtain rfl:u=Value.ref a:=rx;refine Q3 I1 ea c hm l ?_;exact W.callWith_K0 (first:=[.ref a]) I1.kIn hm.kp (Zgc (us:=[.ref a]) (vs:=[.ref a]) F hr hb hd hx I1 (.cons rfl .nil) q)
structure Mk (K:W.Frag) (C f:Addr):Prop where
 makes:W.makesIn K C=true
 init:W.findIn K (.ref C) "__init__"=some (some (.ref f))
 fn:W.isFn K (.ref f)=true
 kp:W.keepIn K (.ref C)=true
theorem Zc7 (M:Mk X.K C f) (F:FnOk X.prog X.w X.K X.mg X.base CX k f fd ps sp) (hr:Room (k+1) X.A) (hb:Vn X.K fd ps ds) (hd:Vals dvs ds)
  (hx:Sj CX X E) (I:Inv X pq σ H s) (r:Vals vs us)
  (h:∀ x dx,H x=none->H dx=none->dx≠x->sp (.ref x::(vs++dvs)) (upd (upd H dx (.own x)) x (.ins C dx [])) (fun v H2=>v=.non/\Q (.ref x) H2) E) :
  wpAny (model X.prog X.w) X.A (call (.ref C) us) (EP X pq σ Q) X.xe s:=by
 have hq:=h (s.heap.objs.size+1) s.heap.objs.size (I.hok.fresh (Bn _)) (I.hok.fresh (Je _)) (Gg (Fd _));have I2:=Inv.made (C:=C) I;have r2:Vals (V.ref (s.heap.objs.size+1)::(vs++dvs)) (Value.ref (s.heap.objs.size+1)::(us++ds)):=.cons rfl (r.append hd);have hl:(Value.ref (s.heap.objs.size+1)::us++ds).length=ps.length:=by
  have e:=r2.length;rw [F.len _ _ _ _ hq] at e;exact e.symm
 refine wpAny_call (Zke (f:=f) I.kIn M.makes M.init (beq_iff_eq.mp M.fn) (codeAny_mono (F.run _ X.stack _ _ ⟨Value.ref (s.heap.objs.size+1)::us,[]⟩ (Value.ref (s.heap.objs.size+1)::(us++ds)) _ _ E (hr.make C us [])
  (I2.env0.make C us []) (hb _ (Value.ref (s.heap.objs.size+1)::us) I2.kIn hl) r2 hq) fun r s' hq'=>?_))
 cases r with
 | error e=>exact hx pq σ _ _ e s' I2 hq'
 | ok fl =>
  cases fl with
  | ret u =>
   obtain ⟨v,H',I3,rv,ev,q3⟩:=I2.after hq';subst ev;exists rv,⟨V.ref (s.heap.objs.size+1),H',I3,rfl,q3⟩
  | next=>exact False.elim hq'
  | brk=>exact False.elim hq'
  | cont=>exact False.elim hq'
def Znu (M:Mk X.K C f) (F:FnOk X.prog X.w X.K X.mg X.base CX k f fd ps sp) (hr:Room (k+1) X.A) (hg:Gl X x) (hm:X.mg x=some (.ref C)) (hb:Vn X.K fd ps ds) (hd:Vals dvs ds) (hx:Sj CX X E)
  (ha:PA X (e::es) t) (hdb:(x == ("__debug__":Str))=false:=by decide) (he:starEach (e::es) X.env=(false,eval e X.env)::starEach es X.env:=by rfl) (hpl:(backTo pos (starEach es X.env)).any (·.1)=false:=by rfl) :
  PE X (.Call (.Name x p) (e::es) [] pos) (Zeg C sp dvs E t):=by
 intro pq s σ H Q I h;refine wpAny_Call_Name_kw (Vz I hg hm ?_ hdb);refine W.callWith_K (h₀:=X.base) I.ok.mod.kin M.kp (thn (ha pos pq s σ H _ I h) fun us s1 ⟨vs,H1,I1,r,q⟩=>⟨I1.kIn,?_⟩) he hpl;exact Zc7 M F hr hb hd hx I1 r q
def Zj7 (M:Mk X.K C f) (F:FnOk X.prog X.w X.K X.mg X.base CX k f fd ps sp) (hr:Room (k+1) X.A) (hg:Gl X x) (hm:X.mg x=some (.ref C)) (hb:Vn X.K fd ps ds) (hd:Vals dvs ds) (hx:Sj CX X E)
  (hdb:(x == ("__debug__":Str))=false:=by decide):PE X (.Call (.Name x p) [] [] pos) (Zeg C sp dvs E tNil):=by
 intro pq s σ H Q I h;refine wpAny_Call_Name_kw (Vz I hg hm ?_ hdb);exact W.callWith_K0 I.kIn M.kp (Zc7 (us:=[]) M F hr hb hd hx I .nil h)
end
section
variable {ks:List Str}
structure KBinds (K:W.Frag) (fd:FuncData) (ps ks:List Str) (g:List Value->List Value->List Value) (gV:List V->List V->List V):Prop where
 to:∀ (s:Shared) (us ws:List Value),K.In s.heap->(g us ws).length=ps.length->BindsTo s fd ⟨us,ks.zip ws⟩ (ps.zip (g us ws))
 rel:∀ {vs:List V} {us:List Value} {zs:List V} {ws:List Value},Vals vs us->Vals zs ws->Vals (gV vs zs) (g us ws)
variable {g:List Value->List Value->List Value} {gV:List V->List V->List V}
end
structure FnScope (N P:List Str) (sc:Scope):Prop where
 kind:sc.kind=.function
 co:sc.isCoroutine=false
 gen:sc.isGenerator=false
 nd:N.Nodup
 pre:N.take P.length=P
 par:∀ x∈P,sc.names.lookup x=some .local\/sc.names.lookup x=some .cell
 nofree:∀ y∈sc.names,y.2≠.free
theorem Za1 {kindOf:Str->Option NameKind} {x:Str}:∀ {binds:List (Str×Value)} {m:Str->Option Value},(∀ v,(x,v)∉binds)->bindL kindOf binds m x=m x
 | [],_,_=>rfl
 | (n,v)::r,m,h=>by
  unfold bindL;rw [Za1 fun w hw=>h w (Jk _ hw)]
  split
  ·have:x≠n:=by rintro rfl; exact h v Jm
   simp [this]
  ·rfl
theorem Za3 {kindOf:Str->Option NameKind} {x:Str}:∀ {binds:List (Str×Value)} {m:Str->Option Value},(∀ v,(x,v)∉binds)->bindC kindOf binds m x=m x
 | [],_,_=>rfl
 | (n,v)::r,m,h=>by
  unfold bindC;rw [Za3 fun w hw=>h w (Jk _ hw)]
  split
  ·rfl
  ·have:x≠n:=by rintro rfl; exact h v Jm
   simp [this]
theorem Za2 {kindOf:Str->Option NameKind} {x:Str} {v:Value}:∀ {P:List Str} {vs:List Value} {i:Nat} {m:Str->Option Value},P.Nodup->P[i]?=some x->vs[i]?=some v->kindOf x=some .local ->
  bindL kindOf (P.zip vs) m x=some v
 | [],_,_,_,_,h,_,_=>by simp at h
 | _::_,[],_,_,_,_,h,_=>by simp at h
 | p::P,w::vs,0,m,nd,h1,h2,hk=>by
  simp at h1 h2; subst h1; subst h2;show bindL kindOf ((p,w)::P.zip vs) m p=_;unfold bindL;rw [Za1 fun v hv=>(Gq.mp nd).1 (List.of_mem_zip hv).1,Dh hk];simp
 | p::P,w::vs,i+1,m,nd,h1,h2,hk=>by
  show bindL kindOf ((p,w)::P.zip vs) m x=_;unfold bindL;exact Za2 (i:=i) (Gq.mp nd).2 (by simpa using h1) (by simpa using h2) hk
theorem Za4 {kindOf:Str->Option NameKind} {x:Str} {v:Value}:∀ {P:List Str} {vs:List Value} {i:Nat} {m:Str->Option Value},P.Nodup->P[i]?=some x->vs[i]?=some v->kindOf x≠some .local ->
  bindC kindOf (P.zip vs) m x=some v
 | [],_,_,_,_,h,_,_=>by simp at h
 | _::_,[],_,_,_,_,h,_=>by simp at h
 | p::P,w::vs,0,m,nd,h1,h2,hk=>by
  simp at h1 h2; subst h1; subst h2;show bindC kindOf ((p,w)::P.zip vs) m p=_;unfold bindC;rw [Za3 fun v hv=>(Gq.mp nd).1 (List.of_mem_zip hv).1,Dg hk];simp
 | p::P,w::vs,i+1,m,nd,h1,h2,hk=>by
  show bindC kindOf ((p,w)::P.zip vs) m x=_;unfold bindC;exact Za4 (i:=i) (Gq.mp nd).2 (by simpa using h1) (by simpa using h2) hk
def Uz (N:List Str) (vs:List V):St:=vs.map some++List.replicate (N.length-vs.length) none
def cxOf (CX:CXT) (P:Program) (w:World) (K:W.Frag) (mg:Str->Option Value) (base:Heap) (N:List Str) (qual:Str) (scope:Scope) (f:Addr) (cd:Value) (A:Around) (outer:List Env) (s:Shared) (H:Hp) (E:XK):Cx where
 prog:=P
 w:=w
 K:=K
 mg:=mg
 base:=base
 A:=A.deeper (envOfC qual scope s.heap.objs.size f cd)
 N:=N
 s₀:=s
 H₀:=H
 env:=envOfC qual scope s.heap.objs.size f cd
 outer:=outer
 stack:=envOfC qual scope s.heap.objs.size f cd::outer
 ex:=[]
 calm:=true
 fn:=fun _=>true
 pn:=[]
 xe:=fun e s'=>wpAny (model P w) (A.deeper (envOfC qual scope s.heap.objs.size f cd)) (leaving (envOfC qual scope s.heap.objs.size f cd) e) (fun _ s''=>CX outer H s E e s'') (fun e' s''=>CX outer H s E e' s'') s'
def Zd6 {sc:Scope} {n:Nat} {x:Str} (h:sc.names.lookup x=some .cell):∃ c,(cellsFrom n sc.names []).lookup x=some c:=by
 have q:=W.cellsFrom_some sc.names n [] (.inl h);exact Option.isSome_iff_exists.mp q
theorem Zah {w:World} {base:Heap} {scope:Scope} {f:Addr} {cd:Value} {outer:List Env} {s1:Shared} {E:XK} 
  (S:FnScope N ps scope) (hd:A.handled=none) (e0:Env0 P w K mg base A outer s H) (hl:vs.length=ps.length) (r:Vals vs us)
  (x:InCallC s s.heap.objs.size (bindL (envOfC qual scope s.heap.objs.size f cd).kindOf (ps.zip us) fun _=>none) (cellsFrom (s.heap.objs.size+1) scope.names []) (bindC (envOfC qual scope s.heap.objs.size f cd).kindOf (ps.zip us) fun _=>none) s1) :
  Inv (cxOf CX P w K mg base N qual scope f cd A outer s H E) [] (Uz N vs) H s1:=by
 have hpl:ps.length<=N.length:=by have:=congrArg List.length S.pre; rw [Jn] at this; lia
 obtain ⟨h1,tk,rfl,hk⟩:=x.done;have noA:∀ b:Addr,b∉(cxOf CX P w K mg base N qual scope f cd A outer s H E).ex:=fun b z=>absurd (show b∈([]:List Addr) from z) (by simp);refine ⟨⟨e0.mod,S.kind,rfl,rfl,Je _,fun y z c h1 h2=>?_,fun y hy=>?_,fun y c _ h=>?_,fun _=>hd,Around.frames_deeper e0.frames,.inr ⟨rfl,rfl⟩,fun b z=>absurd z (noA b),e0.bs,e0.bsz,fun b _ _=>noA b,fun b z=>absurd z (noA b),e0.funs,e0.frf⟩,
  rfl,e0.bare,Un.kept hk,⟨_,x.toInCall.ns,fun i y v h1 h2 h3=>?_⟩,fun y c h=>⟨_,x.cell y c h⟩,e0.hok.fresh (Je _),fun y c h=>?_,fun p hp=>absurd (show p∈([]:List (Addr×Obj)) from hp) (by simp),e0.hok.kept hk,?_⟩
 ·exact name_of_addr x.apart (PySem.mem_of_lookup h1) (PySem.mem_of_lookup h2)
 ·have hy:scope.names.lookup y=some .cell\/scope.names.lookup y=some .free:=hy;rcases hy with hy | hy
  ·exact Zd6 hy
  ·exact absurd rfl (S.nofree _ (PySem.mem_of_lookup hy))
 ·exact B9 (x.above y c (PySem.mem_of_lookup h))
 ·have hi:i<vs.length:=by
   unfold Uz at h2
   by_cases hi:i<vs.length
   ·exact hi
   ·rw [J8 (by simpa using hi)] at h2;rw [List.getElem?_replicate] at h2
    split at h2 <;> cases h2
  have ha:vs[i]?=some v:=by
   unfold Uz at h2;rw [Jr (by simpa using hi),J9] at h2;cases e:vs[i]? with
   | none=>rw [e] at h2; cases h2
   | some a=>rw [e] at h2; cases h2; rfl
  obtain ⟨u,hu,rv⟩:=r.get ha;have hp:ps[i]?=some y:=by
   rw [<- S.pre,List.getElem?_take_of_lt (by lia)]; exact h1
  have ndP:ps.Nodup:=by rw [<- S.pre]; exact S.nd.sublist (List.take_sublist _ _)
  exists u,rv,?_;rcases S.par y (Gu hp) with k | k
  ·exact .inl ⟨k,Za2 ndP hp hu k⟩
  ·obtain ⟨c,e⟩:=Zd6 (n:=s.heap.objs.size+1) k;refine .inr ⟨.inl k,c,e,?_⟩;have q:=x.cell y c e;rw [Za4 ndP hp hu (by show scope.names.lookup y≠_; rw [k]; decide)] at q;exact q
 ·exact e0.hok.fresh (B9 (x.above y c (PySem.mem_of_lookup h)))
 ·unfold Uz;show _=N.length;rw [Jc,Jb,List.length_replicate];lia
theorem Zoq {w:World} {base:Heap} {k:Nat} {f:Addr} {name:Str} {params:Arguments} {scope:Scope} {dV kV doc cdv ct oc:Value} {an od:Option Addr}
  {osl:Array (Option Value)} {N ps:List Str} {sp:Sp} (lk:K.lookup f=some ⟨oc,od,.func (W.fnOf name qual params body scope dV kV doc pm an cdv ct),osl⟩) (hcd:W.codeIn K cdv qual=true) (S:FnScope N ps scope)
  (len:∀ vs H Q E,sp vs H Q E->vs.length=ps.length)
  (hbody:∀ (A:Around) (outer:List Env) (s:Shared) (H:Hp) (vs:List V) (Q:VK) (E:XK),Room k (A.deeper (envOfC qual scope s.heap.objs.size f cdv))->sp vs H Q E ->
   ∃ t,PSs (cxOf CX P w K mg base N qual scope f cdv A outer s H E) body t/\t { nx:=fun _ H'=>Q .non H',rt:=Q } (Uz N vs) H) :
  FnOk P w K mg base CX (k+1) f (W.fnOf name qual params body scope dV kV doc pm an cdv ct) ps sp:=by
 refine ⟨len,fun A outer s H args us vs Q E hr e0 hb r hsp=>?_⟩;have hl:=len _ _ _ _ hsp;have KX:K.In s.heap:=e0.mod.kin.keeps fun b o e=>(e0.bs b o e).1;have lim:s.heap.NoLimit:=e0.mod.nolimit.keeps fun b o e=>(e0.bs b o e).1;have hkind:∀ y∈ps.zip us,scope.names.lookup y.1=some .local\/(scope.names.lookup y.1=some .cell/\((cellsFrom (s.heap.objs.size+1) scope.names []).lookup y.1).isSome=true):=fun ⟨n,v⟩ hy=>by
  rcases S.par n (List.of_mem_zip hy).1 with q | q
  ·exact .inl q
  ·exact .inr ⟨q,W.cellsFrom_some _ _ _ (.inl q)⟩
 refine codeAny_call_function hr.depth (KX _ _ lk) rfl S.co S.gen rfl (W.codeRec_of KX hcd) (hb _ _ _ _ ?_);refine wpAny_newFunctionEnv_cells S.kind hkind fun env he s1 x=>?_;subst he;refine ⟨lim.keeps x.toInCall.keep,codeAny_func ?_⟩;obtain ⟨t,ht,hq⟩:=hbody A outer s H vs Q E (hr.deeper _) hsp;have I:Inv (cxOf CX P w K mg base N qual scope f cdv A outer s H E) [] (Uz N vs) H s1:=Zah S hr.hd e0 hl r x;refine Dn (ht [] s1 (Uz N vs) H _ I hq) (fun fl s' hs=>?_) fun e s' hs=>hs;have fin:∀ {σ':St} {H':Hp} {v:V} {u:Value},Inv (cxOf CX P w K mg base N qual scope f cdv A outer s H E) [] σ' H' s'->RelV v u->Q v H'->CE outer P w H s Q u s' :=
  fun {σ' H' v u} J rv q=>⟨v,H',J.os,J.bare,J.base,J.hok,rv,q⟩
 cases fl with
 | ret u =>
  obtain ⟨v,σ',H',J,rv,q⟩:=hs;exact fin J rv q
 | next =>
  obtain ⟨σ',H',J,q⟩:=hs;exact fin (v:=V.non) (u:=Value.none) J rfl q
 | brk =>
  obtain ⟨_,_,_,q⟩:=hs;exact False.elim q
 | cont =>
  obtain ⟨_,_,_,q⟩:=hs;exact False.elim q
section
variable {x:Str} {p:Pos} {e:Expr} {t:TA} {id T:String} {r:List V->Hp->VK->Prop}
def tCB (r:List V->Hp->VK->Prop) (t:TA):TE:=fun σ H Q=>t σ H fun vs H1=>r vs H1 Q
def Zw (hc:Ws X (.builtin id) r) (hg:Gl X x) (hm:X.mg x=none) (hv:bootBuiltins x=some (.builtin id)) (ha:PA X (e::es) t) (hn:x≠"__name__":=by decide) (hdb:(x == ("__debug__":Str))=false:=by decide)
  (he:starEach (e::es) X.env=(false,eval e X.env)::starEach es X.env:=by rfl) (hpl:(backTo pos (starEach es X.env)).any (·.1)=false:=by rfl):PE X (.Call (.Name x p) (e::es) [] pos) (tCB r t):=by
 intro pq s σ H Q I h;refine wpAny_Call_Name_kw (Sg I hg hm hv ?_ hn hdb);exact PyProof.Rows.callWith_builtin1 (thn (ha pos pq s σ H _ I h) fun us s1 ⟨vs,H1,I1,r1,q1⟩=>hc pq s1 σ H1 vs us Q I1 r1 q1) he hpl
def Ys (hc:Ws X (.type T) r) (hg:Gl X x) (hm:X.mg x=none) (hv:bootBuiltins x=some (.type T)) (ha:PA X (e::es) t) (hn:x≠"__name__":=by decide) (hdb:(x == ("__debug__":Str))=false:=by decide)
  (he:starEach (e::es) X.env=(false,eval e X.env)::starEach es X.env:=by rfl) (hpl:(backTo pos (starEach es X.env)).any (·.1)=false:=by rfl):PE X (.Call (.Name x p) (e::es) [] pos) (tCB r t):=by
 intro pq s σ H Q I h;refine wpAny_Call_Name_kw (Sg I hg hm hv ?_ hn hdb);exact PyProof.Rows.callWith_type1 (thn (ha pos pq s σ H _ I h) fun us s1 ⟨vs,H1,I1,r1,q1⟩=>hc pq s1 σ H1 vs us Q I1 r1 q1) he hpl
end
end L2
variable {H I H' H1 I' H2:L2.Hp} {X:L2.Cx} {σ:L2.St} {Q:L2.VK} {vs xs ys:List L2.V} {sp sp':L2.Sp} {o:L2.HO} {te ta tb:L2.TE} {kvs:List (List L2.Key×L2.V)} {g:L2.TG} {wi:L2.TI} {r:L2.R2} {CX:L2.CXT}
namespace HT
open PySem PyProof.Rows
def lexLt:List Int->List Int->Bool
 | [],[]=>false
 | [],_::_=>true
 | _::_,[]=>false
 | x::xs,y::ys=>if x=y then lexLt xs ys else decide (x<y)
def Um (x y:Int) (xs ys:List Int):lexLt (x::xs) (y::ys)=if x=y then lexLt xs ys else decide (x<y):=rfl
def Po:lexLt [] []=false:=rfl
def Uw (y:Int) (ys:List Int):lexLt [] (y::ys)=true:=rfl
def Ww (x:Int) (xs:List Int):lexLt (x::xs) []=false:=rfl
section
variable {w:World} 
def cat_tup {t:Addr} {vs ws:List Value} {Q:Value->Shared->Prop} (ht:IsTup s.heap t vs.toArray) (hb:IsTup s.heap b ws.toArray) (hv:vs≠[])
  (h1:ws=[]->Q (.ref t) s) (h2:ws≠[]->Q (.ref s.heap.objs.size) { s with heap:=s.heap.push { cls:=.type "tuple",data:=.seq (vs++ws).toArray } })
  (hsz:vs.length+ws.length<=sizeLine):wpAny (model prog w) A (binaryOp .Add (.ref t) (.ref b)) Q E s:=by
 obtain ⟨⟨cls,dd,data,sl⟩,ho,hc,n,hd⟩:=id ht;obtain ⟨⟨cls2,dd2,data2,sl2⟩,ho2,hc2,n2,hd2⟩:=id hb;simp only at hc hd hc2 hd2;subst hc hd hc2 hd2;have e:vs.toArray++ws.toArray=(vs++ws).toArray:=by simp
 by_cases hw:ws=[]
 ·exact concat_meets ⟨_,ho,rfl⟩ ⟨_,ho2,rfl⟩ noFill_tuple_add seq_tuple_add PySem.F.slot_tuple_add PySem.F.entry_tuple_add (PySem.F.args_tuple_add_2 _ _)
   (tuple_addW1 t b vs.toArray ws.toArray n n2 dd dd2 sl sl2 (by simpa using hv) (by simp [hw])) ⟨ho,ho2,h1 hw⟩
 ·refine concat_meets ⟨_,ho,rfl⟩ ⟨_,ho2,rfl⟩ noFill_tuple_add seq_tuple_add PySem.F.slot_tuple_add PySem.F.entry_tuple_add (PySem.F.args_tuple_add_2 _ _)
   (tuple_addW2 t b vs.toArray ws.toArray n n2 dd dd2 sl sl2 (by simpa using hv) (by simpa using hw) (by rw [Jp,Jp]; exact hsz)) ⟨ho,ho2,?_⟩
  rw [e];exact h2 hw
def sIx (n d:Nat):Option Int->Nat
 | none=>d
 | some v=>if v<0 then (v+(n:Int)).toNat else min v.toNat n
def sIx_none (n d:Nat):sIx n d none=d:=rfl
theorem sIx_nat (n d k:Nat):sIx n d (some (k:Int))=min k n:=by
 show (if (k:Int)<0 then ((k:Int)+(n:Int)).toNat else min (k:Int).toNat n)=min k n;rw [Dg (by lia),Fk]
theorem Zqs (n d:Nat) (hd:d<=n) (o:Option Int):sIx n d o<=n:=by
 cases o with
 | none=>exact hd
 | some v =>
  show (if v<0 then (v+(n:Int)).toNat else min v.toNat n)<=n
  by_cases hv:v<0
  ·rw [Dh hv]; lia
  ·rw [Dg hv]; exact Nat.min_le_right _ _
theorem Ziu (v:Int) (n d:Nat):(if v<0 then max (v+(n:Int)) 0 else min v (n:Int))=((sIx n d (some v):Nat):Int):=by
 show (if v<0 then max (v+(n:Int)) 0 else min v (n:Int))=(((if v<0 then (v+(n:Int)).toNat else min v.toNat n):Nat):Int)
 by_cases hv:v<0
 ·simp only [Dh hv]; lia
 ·simp only [Dg hv]; lia
theorem Zfb (lo hi:Option Int) (n:Nat):Builtin.Slice.sliceAdjust lo hi 1 (n:Int)=(((sIx n 0 lo:Nat):Int),((sIx n n hi:Nat):Int)):=by
 have h1:¬ ((1:Int)<0):=by lia
 unfold Builtin.Slice.sliceAdjust;simp only [h1,if_false];refine Prod.ext ?_ ?_
 ·cases lo with
  | none=>rfl
  | some v=>exact Ziu v n 0
 ·cases hi with
  | none=>rfl
  | some v=>exact Ziu v n n
theorem Zel (i j:Nat):Builtin.Slice.slicePlaces (i:Int) (j:Int) 1=j-i:=by
 unfold Builtin.Slice.slicePlaces;have h1:(1:Int) > 0:=by lia
 simp only [h1,if_true,Int.ediv_one]
 split <;> lia
theorem Qq {v:Value} {o:Option Int} {Q:Option Int->Shared->Prop} (p:IsPart v o) (h:Q o s):wpAny (model prog w) A (Builtin.Slice.slicePartIndex v) Q E s:=by
 cases p with
 | none=>exact slicePart_none h
 | int i t=>exact slicePart_int h
def sliceApplied_gen {sl:Addr} {vl vu:Value} {n:Nat} {Q:Int×Int×Nat->Shared->Prop} (hs:s.heap.IsSliceOf sl vl vu .none) (pl:IsPart vl lo) (pu:IsPart vu hi)
  (h:Q (((sIx n 0 lo:Nat):Int),1,sIx n n hi-sIx n 0 lo) s):wpAny (model prog w) A (Builtin.Slice.sliceApplied (.ref sl) (pure (n:Int))) Q E s:=by
 obtain ⟨os,hos,hcs,hds⟩:=id hs;unfold Builtin.Slice.sliceApplied Builtin.Slice.sliceFields;refine Da (Da (wpAny_field hos hds (x:=vl) rfl (Da (wpAny_field hos hds (x:=vu) rfl (Da (wpAny_field hos hds (x:=.none) rfl (Db ?_)))))));refine Da (slicePart_none ?_);show wpAny _ _ (if ((1:Int) == 0)=true then _ else _) _ _ s;rw [Dg nofun];refine Da (Qq pl (Da (Qq pu (Da (Db ?_)))));show wpAny _ _ (match Builtin.Slice.sliceAdjust lo hi 1 (n:Int) with | (lo,hi)=>pure (lo,(1:Int),Builtin.Slice.slicePlaces lo hi 1)) _ _ s;rw [Zfb lo hi n];show wpAny _ _ (pure (((sIx n 0 lo:Nat):Int),(1:Int),Builtin.Slice.slicePlaces ((sIx n 0 lo:Nat):Int) ((sIx n n hi:Nat):Int) 1)) _ _ s
 rw [Zel];exact Db h
theorem Zj3 (xs:Array Value) (i k:Nat):((List.range k).filterMap fun (m:Nat)=>xs[((i:Int)+(m:Int)*1).toNat]?).toArray=((xs.toList.drop i).take k).toArray:=by
 have e:(fun (m:Nat)=>xs[((i:Int)+(m:Int)*1).toNat]?)=fun m=>xs[i+m]?:=by
  funext m
  have:((i:Int)+(m:Int)*1).toNat=i+m:=by lia
  rw [this]
 rw [e];have:=pick_run xs i k;rw [List.filterMap_map] at this;have e2:((fun x=>xs[x]?) ∘ fun x=>i+x)=fun m=>xs[i+m]?:=rfl;rw [e2] at this;rw [this]
theorem getItem_tuple_cut {t sl:Addr} {items:Array Value} {vl vu:Value} {Q:Value->Shared->Prop} (ht:IsTup s.heap t items) (hs:s.heap.IsSliceOf sl vl vu .none) (pl:IsPart vl lo) (pu:IsPart vu hi)
  (hw:¬ (sIx items.size 0 lo=0/\sIx items.size items.size hi=items.size))
  (h:Q (.ref s.heap.objs.size) { s with heap:=s.heap.push { cls:=.type "tuple",data:=.seq ((items.toList.drop (sIx items.size 0 lo)).take (sIx items.size items.size hi-sIx items.size 0 lo)).toArray } })
  (hsz:items.size<=sizeLine):wpAny (model prog w) A (getItem (.ref t) (.ref sl)) Q E s:=by
 have htake:sizeOk (.seq ((items.toList.drop (sIx items.size 0 lo)).take (sIx items.size items.size hi-sIx items.size 0 lo)).toArray):=by
  show ((items.toList.drop (sIx items.size 0 lo)).take (sIx items.size items.size hi-sIx items.size 0 lo)).toArray.size<=sizeLine;rw [Jp,Jn,Gh,Bs];lia
 have hj:sIx items.size items.size hi<=items.size:=Zqs _ _ (Je _) hi;obtain ⟨os,hos,hcs,hds⟩:=id hs;have hTs:s.TypeIs (.ref sl) "slice":=⟨os,hos,hcs⟩;unfold getItem
 try with_reducible refine wpAny_holding ?_
 first | refine Da (Db ?_) | skip
 refine Da (wpAny_sequenceKey ht.typeIs nofun ?_);refine Da (wpAny_callSpecial?_slot (name:=Str.ofString "__getitem__") ht.typeIs PyProof.Rows.slot_tuple_getitem
  (wpAny_call_entry PyProof.Rows.slot_tuple_getitem ht.typeIs entry_tuple_getitem ?_ (args_tuple_getitem _ _)))
 show wpAny _ _ (Builtin.Tuple.tupleItemsOf (.ref t) >>= _) _ _ s;refine Da (tupleItemsOf_ ht ?_);refine Da (wpAny_typeOf hTs ?_);rw [Dh nofun];refine Da (sliceApplied_gen hs pl pu ?_);have hno:¬ ((((sIx items.size 0 lo:Nat):Int) == 0 && (1:Int) == 1 && (sIx items.size items.size hi-sIx items.size 0 lo) == items.size)=true):=by
  intro q;rw [Fe,Fe] at q;have q1:((sIx items.size 0 lo:Nat):Int)=0:=eq_of_beq q.1.1;have q2:sIx items.size items.size hi-sIx items.size 0 lo=items.size:=eq_of_beq q.2;exact hw ⟨by lia,by lia⟩
 show wpAny _ _ (if (((sIx items.size 0 lo:Nat):Int) == 0 && (1:Int) == 1 && (sIx items.size items.size hi-sIx items.size 0 lo) == items.size)=true then _ else _) _ _ s;rw [Dg hno,Zj3]
 first
  | exact Da (m:=Builtin.Tuple.tupleExact _) (wpAny_newObj_type (Db ⟨_,rfl,Db h⟩) htake)
  | exact Da (m:=Builtin.Tuple.tupleExact _) (wpAny_newObj_type (Da (Db (Db ⟨_,rfl,Db h⟩))) htake)
  | exact Da (Da (m:=Builtin.Tuple.tupleExact _) (wpAny_newObj_type (Db (Db ⟨_,rfl,Db h⟩)) htake))
  | exact Da (Da (m:=Builtin.Tuple.tupleExact _) (wpAny_newObj_type (Db ⟨_,rfl,Db h⟩) htake))
end
end HT
namespace L2
open PySem PySem.Spec PyProof.Rows
abbrev TO:=St->Hp->(Option Int->Hp->Prop)->Prop
def PO (X:Cx) (e:Option Expr) (t:TO):Prop :=
 ∀ (pq:List (Addr×Obj)) (s:Shared) (σ:St) (H:Hp) (Q:Option Int->Hp->Prop),Inv X pq σ H s->t σ H Q ->
  wpAny (model X.prog X.w) X.A (evalPart e X.env) (fun u s'=>∃ o H',Inv X pq σ H' s'/\IsPart u o/\Q o H') X.xe s
def Zfq:TO:=fun _ H Q=>Q none H
def Zp5 (t:TE):TO:=fun σ H Q=>t σ H fun x H1=>∃ i,x=.int i/\Q (some i) H1
section
variable {e:Expr} {lo hi:Option Expr} {tl th:TO} {p2:Pos}
def Y9:PO X none Zfq:=by
 intro pq s σ H Q I h;rw [evalPart_none];exact Db ⟨none,H,I,.none,h⟩
def Yf (h:PE X e te):PO X (some e) (Zp5 te):=by
 intro pq s σ H Q I hw;rw [evalPart_some];refine thn (h pq s σ H _ I hw) fun u s1 hz=>?_;obtain ⟨x,H1,I1,r1,q1⟩:=hz;obtain ⟨i,rfl,q⟩:=q1;obtain ⟨t,rfl⟩:=r1;exists some i,H1,I1,.int i t,q
def SlR (X:Cx) (r:V->Option Int->Option Int->Hp->VK->Prop):Prop :=
 ∀ (pq:List (Addr×Obj)) (s:Shared) (σ:St) (H:Hp) (x:V) (v vl vu:Value) (lo hi:Option Int) (sl:Addr) (Q:VK),Inv X pq σ H s->RelV x v->s.heap.IsSliceOf sl vl vu .none->IsPart vl lo->IsPart vu hi->r x lo hi H Q ->
  ∃ T id,typeLookup (.type T) "__getitem__"=pure (some (.builtin id))/\s.TypeIs v T/\wpAny (model X.prog X.w) X.A (getItem v (.ref sl)) (EP X pq σ Q) X.xe s
def tSl (r:V->Option Int->Option Int->Hp->VK->Prop) (te:TE) (tl th:TO):TE:=fun σ H Q=>te σ H fun x H1=>tl σ H1 fun l H2=>th σ H2 fun u H3=>r x l u H3 Q
def Yh {r:V->Option Int->Option Int->Hp->VK->Prop} (hr:SlR X r) (he:PE X e te) (hl:PO X lo tl) (hu:PO X hi th):PE X (.Subscript e (.Slice lo hi none p2) pos) (tSl r te tl th):=by
 intro pq s σ H Q I h;refine Subscript_ (thn (he pq s σ H _ I h) fun v s1 hz=>?_);obtain ⟨x,H1,I1,r1,q1⟩:=hz;refine wpAny_Slice (thn (hl pq s1 σ H1 _ I1 q1) fun vl s2 ⟨l,H2,I2,pl,q2⟩=>thn (hu pq s2 σ H2 _ I2 q2) fun vu s3 hz=>?_);obtain ⟨u,H3,I3,pu,q3⟩:=hz;rw [evalPart_none];refine Db ?_;have I4:Inv X pq σ H3 { s3 with heap:=s3.heap.push { cls:=.type "slice",data:=.fields #[vl,vu,.none] } }:=I3.kept (t':=s3.toks) fun b ob q=>Dd _ q;obtain ⟨T,id,hT,ht,hg⟩:=hr pq { s3 with heap:=s3.heap.push { cls:=.type "slice",data:=.fields #[vl,vu,.none] } } σ H3 x v vl vu l u s3.heap.objs.size Q I4 r1 (Heap.IsSliceOf.new ..) pl pu q3
 show wpAny (model X.prog X.w) X.A (subscriptTail e (.Slice lo hi none p2) v (.ref s3.heap.objs.size)) (EP X pq σ Q) X.xe { s3 with heap:=s3.heap.push { cls:=.type "slice",data:=.fields #[vl,vu,.none] } };exact tail_any (ops:=[.ref s3.heap.objs.size,v]) ht hT hg (by with_unfolding_all rfl)
def cutV (xs:List V) (lo hi:Option Int):List V:=(xs.drop (HT.sIx xs.length 0 lo)).take (HT.sIx xs.length xs.length hi-HT.sIx xs.length 0 lo)
theorem U4 (xs:List V) (lo hi:Option Int):(cutV xs lo hi).length<=xs.length:=by
 unfold cutV;rw [Jn,Gh];lia
def rSlT (K:W.Frag):V->Option Int->Option Int->Hp->VK->Prop:=fun x lo hi H Q=>∃ a xs,x=.ref a/\SqT K H a xs /\
 ¬ (HT.sIx xs.length 0 lo=0/\HT.sIx xs.length xs.length hi=xs.length)/\∀ p,H p=none->Q (.ref p) (upd H p (.tup (cutV xs lo hi)))
def Zqe:SlR X (rSlT X.K):=by
 intro pq s σ H x v vl vu lo hi sl Q I rx hs pl pu h;obtain ⟨a,xs,rfl,hx,hw,q⟩:=h;cases rx;obtain ⟨its,r,ht,hz⟩:=I.tuple hx;have hlen:its.toArray.size=xs.length:=by rw [Jp]; exact r.length.symm
 exists "tuple",_,PyProof.Rows.slot_tuple_getitem.lookup,ht.typeIs,?_;refine HT.getItem_tuple_cut ht hs pl pu (by rw [hlen]; exact hw) ?_ (by rw [hlen]; exact hz);rw [hlen];exists .ref s.heap.objs.size,_,I.laid (t':=s.toks) (o:=.tup (cutV xs lo hi)) (fun b ob q=>Dd _ q) (Je _) ?_,rfl,q _ (I.hok.fresh (Je _));exists Jv (U4 xs lo hi) hz,_,(r.drop (HT.sIx xs.length 0 lo)).take (HT.sIx xs.length xs.length hi-HT.sIx xs.length 0 lo),V6.new _ _
def Znh (K:W.Frag):R2:=fun x y H Q=>∃ a b xs ys,x=.ref a/\y=.ref b/\SqT K H a xs/\SqT K H b ys/\xs≠[]/\xs.length+ys.length<=sizeLine /\
 (ys=[]->Q (.ref a) H)/\(ys≠[]->∀ p,H p=none->Q (.ref p) (upd H p (.tup (xs++ys))))
theorem Vals.nil_iff (r:Vals xs us):us=[]↔xs=[]:=by
 cases r with
 | nil=>simp
 | cons _ _=>simp
def Zhb:OpR X (binaryOp .Add) (Znh X.K):=by
 intro pq s σ H x y v u Q I rx ry h;obtain ⟨a,b,xs,ys,rfl,rfl,ha,hb,hx,hz,q1,q2⟩:=h;cases rx;cases ry;obtain ⟨its,r1,p1,_⟩:=I.tuple ha;obtain ⟨its2,r2,p2,_⟩:=I.tuple hb;refine HT.cat_tup p1 p2 (fun z=>hx (r1.nil_iff.mp z)) (fun z=>⟨.ref a,H,I,rfl,q1 (r2.nil_iff.mp z)⟩) (fun z=>?_) (by rw [<- r1.length,<- r2.length]; exact hz);exists .ref s.heap.objs.size,_,I.laid (t':=s.toks) (o:=.tup (xs++ys)) (fun b ob q=>Dd _ q) (Je _) ?_,rfl,q2 (fun w=>z (r2.nil_iff.mpr w)) _ (I.hok.fresh (Je _));exists by rw [Jc]; exact hz,_,r1.append r2,V6.new _ _
end
def ixN (n:Nat) (i:Int):Option Nat:=if 0<=i then (if i<n then some i.toNat else none) else if -(n:Int)<=i then some (i+n).toNat else none
def atI {α:Type} (xs:List α) (i:Int):Option α:=(ixN xs.length i).bind fun j=>xs[j]?
theorem Zhq {n:Nat} {i:Int} (h:ixN n i=some j):seqIndex? i n=some j/\j<n/\-(n:Int)<=i/\i<n:=by
 unfold ixN at h
 by_cases h0:0<=i
 ·rw [Dh h0] at h
  by_cases h1:i<n
  ·rw [Dh h1] at h;have e:i.toNat=j:=Dl h;exists by rw [seqIndex_of h0 h1,e],by lia,by lia,h1
  ·rw [Dg h1] at h; cases h
 ·rw [Dg h0] at h
  by_cases h1:-(n:Int)<=i
  ·rw [Dh h1] at h;have e:(i+n).toNat=j:=Dl h;exact ⟨by rw [seqIndex_neg (by lia) h1,e],by lia,h1,by lia⟩
  ·rw [Dg h1] at h; cases h
theorem Zcl {α:Type} {xs:List α} {i:Int} {v:α} (h:atI xs i=some v):∃ j,seqIndex? i xs.length=some j/\xs[j]?=some v/\j<xs.length/\-(xs.length:Int)<=i/\i<xs.length:=by
 unfold atI at h;cases e:ixN xs.length i with
 | none=>rw [e] at h; cases h
 | some j =>
  rw [e] at h;obtain ⟨h1,h2,h3,h4⟩:=Zhq e;exists j,h1,h,h2,h3,h4
theorem U7 {α:Type} {xs:List α} {v:α} (h:xs[j]?=some v):atI xs (j:Int)=some v:=by
 have hj:j<xs.length:=(Jh.mp h).1;have e:ixN xs.length (j:Int)=some j:=by
  unfold ixN;rw [Dh (by lia),Dh (by lia)]; simp
 unfold atI; rw [e]; exact h
def Zpf (b:Expr):Prop:=∀ o i,subscripted b false o i=operate [o,i] (getItem o i)
def IxR (X:Cx) (r:R2):Prop :=
 ∀ (value slice:Expr) (pq:List (Addr×Obj)) (s:Shared) (σ:St) (H:Hp) (x y:V) (v u:Value) (Q:VK),Inv X pq σ H s->RelV x v->RelV y u->r x y H Q ->
  subscripted slice false v u=operate [v,u] (getItem v u)->wpAny (model X.prog X.w) X.A (subscriptTail value slice v u) (EP X pq σ Q) X.xe s
def MtR (X:Cx) (id:String) (r:V->List V->Hp->VK->Prop):Prop :=
 ∀ (pq:List (Addr×Obj)) (s:Shared) (σ:St) (H:Hp) (x:V) (xs:List V) (v:Value) (us:List Value) (Q:VK),Inv X pq σ H s->RelV x v->Vals xs us->r x xs H Q ->
  wpAny (model X.prog X.w) X.A (call (.builtin id) (v::us)) (EP X pq σ Q) X.xe s
section
variable {a b:Expr} 
def IxR.or {r':R2} (h:IxR X r) (h':IxR X r'):IxR X (fun x y H Q=>r x y H Q\/r' x y H Q):=by
 intro value slice pq s σ H x y v u Q I rx ry q hs;rcases q with q | q
 ·exact h value slice pq s σ H x y v u Q I rx ry q hs
 ·exact h' value slice pq s σ H x y v u Q I rx ry q hs
def Yk (hr:IxR X r) (ha:PE X a ta) (hb:PE X b tb) (hs:Zpf b):PE X (.Subscript a b pos) (tOp r ta tb):=by
 intro pq s σ H Q I h;exact Subscript_ (binT ha hb I h fun v u s2 x y H2 I2 rx ry q=>hr a b pq s2 σ H2 x y v u Q I2 rx ry q (hs _ _))
def rIxL (K:W.Frag):R2:=fun x y H Q=>∃ p xs i v,x=.ref p/\y=.int i/\SqL K H p xs/\atI xs i=some v/\Q v H
def rIxT (K:W.Frag):R2:=fun x y H Q=>∃ p xs i v,x=.ref p/\y=.int i/\SqT K H p xs/\atI xs i=some v/\Q v H
def rIxS:R2:=fun x y H Q=>∃ z i c,x=.str z/\y=.int i/\z.length<=sizeLine/\atI z.cps.toList i=some c/\Q (.str ⟨#[c]⟩) H
theorem Xc:IxR X (rIxL X.K):=by
 intro value slice pq s σ H x y v u Q I rx ry h hs;obtain ⟨p,xs,i,z,rfl,rfl,hq,he,q⟩:=h;cases rx;obtain ⟨t,rfl⟩:=ry;obtain ⟨its,r,pl,hz⟩:=I.list hq;obtain ⟨j,h1,h2,h3,h4,h5⟩:=Zcl he;obtain ⟨w,ew,rw'⟩:=r.get h2;have hl:=r.length;have hn:=Qy;have fin:EP X pq σ Q w s:=⟨z,H,I,rw',q⟩
 by_cases h0:0<=i
 ·have hj:i.toNat=j:=by
   rw [seqIndex_of h0 h5] at h1;exact Dl h1
  exact item_listR pl.isList h0 (by lia) (by rw [hj]; simpa using ew) fin hs
 ·have hj:(i+(its.toArray.size:Int)).toNat=j:=by
   rw [seqIndex_neg (by lia) h4] at h1;rw [Jp,<- hl];exact Dl h1
  exact subscriptTail_builtinR (x:=w) pl.isList.typeIs slot_list_getitem.lookup
   (wpAny_getItem_list_neg (Q:=fun r s'=>r=w/\EP X pq σ Q r s') pl.isList (by lia) (by rw [Jp] <;> lia) (by lia) (by rw [hj]; simpa using ew) ⟨rfl,fin⟩) hs
theorem Tj:IxR X (rIxT X.K):=by
 intro value slice pq s σ H x y v u Q I rx ry h hs;obtain ⟨p,xs,i,z,rfl,rfl,hq,he,q⟩:=h;cases rx;obtain ⟨t,rfl⟩:=ry;obtain ⟨its,r,pl,hz⟩:=I.tuple hq;obtain ⟨j,h1,h2,h3,h4,h5⟩:=Zcl he;obtain ⟨w,ew,rw'⟩:=r.get h2;have hl:=r.length;have hn:=Qy;have fin:EP X pq σ Q w s:=⟨z,H,I,rw',q⟩;exact subscriptTail_builtinR (x:=w) pl.typeIs slot_tuple_getitem.lookup
  (getItem_tuple (j:=j) (Q:=fun r s'=>r=w/\EP X pq σ Q r s') pl (by lia) (by lia) (by rw [Jp,<- hl]; exact h1) (by simpa using ew) ⟨rfl,fin⟩) hs
theorem Zrn:IxR X rIxS:=by
 intro value slice pq s σ H x y v u Q I rx ry h hs;obtain ⟨z,i,c,rfl,rfl,hz,he,q⟩:=h;obtain ⟨t,rfl⟩:=rx;obtain ⟨t',rfl⟩:=ry;obtain ⟨j,h1,h2,h3,h4,h5⟩:=Zcl he;have hl:z.cps.toList.length=z.length:=by simp [Str.length]
 rw [hl] at h1 h4 h5;have hn:=Qy;exact tail_any (typeIs_str s z t) slot_str_getitem.lookup (getItem_str (c:=c) (by
  have e1:decide (i < -(2 ^ 63:Int))=false:=Dj (by lia);have e2:decide (i≥2 ^ 63)=false:=Dj (by lia);rw [e1,e2,Bool.or_false]) (by rw [h1]; simpa using h2) ⟨.str ⟨#[c]⟩,H,I.tok _,⟨_,rfl⟩,q⟩) hs
def rIx (K:W.Frag):R2:=fun x y H Q=>rIxL K x y H Q\/rIxT K x y H Q\/rIxS x y H Q
def Zro:IxR X (rIx X.K):=Xc.or (Tj.or Zrn)
def Zeu (its:List Value) (n j:Nat) (u:Value):Obj.mapSeq (·.setIfInBounds j u) { cls:=.type "list",data:=.seq its.toArray n }={ cls:=.type "list",data:=.seq (its.set j u).toArray n }:=by
 simp [Obj.mapSeq]
def Inv.lst {pq:List (Addr×Obj)} {σ:St} {H:Hp} {s:Shared} {p:Addr} {xs:List V} (I:Inv X pq σ H s) (h:H p=some (.lst xs)) :
  ∃ (its:List Value) (n:Nat),Vals xs its/\s.heap.get? p=some { cls:=.type "list",data:=.seq its.toArray n }/\xs.length<=sizeLine:=by
 obtain ⟨z,its,n,r,e⟩:=I.hok p _ h;exists its,n,r,e,z
def Inv.lstUpd {p:Addr} {its':List Value} {n n':Nat} {f:Obj->Obj} (I:Inv X pq σ H s) (h:H p=some (.lst xs))
  (ho:s.heap.get? p=some { cls:=.type "list",data:=.seq its.toArray n }) (hf:f { cls:=.type "list",data:=.seq its.toArray n }={ cls:=.type "list",data:=.seq its'.toArray n' }) (r:Vals ys its') (hz:ys.length<=sizeLine) (t:Nat) :
  Inv X pq σ (upd H p (.lst ys)) { s with heap:=s.heap.update p f,toks:=t }:=by
 have e:(s.heap.update p f).get? p=some { cls:=.type "list",data:=.seq its'.toArray n' }:=by
  rw [Heap.get?_update_self f ho (by rw [hf] <;> rfl),hf]
 refine I.write (x:=p) (e:=p) (by rw [h]; trivial) (.inl rfl) (fun b u hb q=>(Heap.get?_update_other _ _ (Ne.symm hb)).trans q) ⟨_,e⟩ ?_;exists hz,its',n',r,e
def Zqw:V->V->V->Hp->(Hp->Prop)->Prop:=fun o i v H Q=>∃ p xs k j,o=.ref p/\i=.int k/\H p=some (.lst xs)/\ixN xs.length k=some j/\Q (upd H p (.lst (xs.set j v)))
theorem So:PSet X Zqw:=by
 intro pq s σ H o i v ov iv u Q I ro ri rv h;obtain ⟨p,xs,k,j,rfl,rfl,hp,hj,q⟩:=h;cases ro;obtain ⟨t,rfl⟩:=ri;obtain ⟨its,n,r,ho,hz⟩:=I.lst hp;obtain ⟨h1,h2,h3,h4⟩:=Zhq hj;have hl:=r.length;have hn:=Qy;have I':Inv X pq σ (upd H p (.lst (xs.set j v))) { s with heap:=s.heap.update p (Obj.mapSeq (·.setIfInBounds j u)) } :=
  I.lstUpd hp ho (Zeu its n j u) (r.set rv j) (by rw [Go]; exact hz) s.toks
 by_cases h0:0<=k
 ·have hk:k.toNat=j:=by
   rw [seqIndex_of h0 h4] at h1;exact Dl h1
  exact W.ki_setAt ho h0 (by lia) (by rw [Jp,<- hl]; exact h4) (by rw [hk]; exact ⟨_,I',q⟩)
 ·have hk:(k+(its.toArray.size:Int)).toNat=j:=by
   rw [seqIndex_neg (by lia) h3] at h1;rw [Jp,<- hl];exact Dl h1
  exact W.ki_setBack ho (by lia) (by rw [Jp,<- hl]; exact h3) (by lia) (by rw [hk]; exact ⟨_,I',q⟩)
theorem Nw (lo hi:Option Int) (n:Nat):(sliceBounds lo hi none n).1=((HT.sIx n 0 lo:Nat):Int)/\(sliceBounds lo hi none n).2.1=((HT.sIx n n hi:Nat):Int)/\(sliceBounds lo hi none n).2.2=1:=by
 exists ?_,?_,rfl
 ·cases lo with
  | none=>simp [sliceBounds,HT.sIx]
  | some i =>
   simp only [sliceBounds,HT.sIx,Option.getD_none,show (1:Int) > 0 by decide,if_true]
   by_cases h:i<0
   ·simp only [h,if_true] <;> lia
   ·simp only [h,if_false] <;> lia
 ·cases hi with
  | none=>simp [sliceBounds,HT.sIx]
  | some i =>
   simp only [sliceBounds,HT.sIx,Option.getD_none,show (1:Int) > 0 by decide,if_true]
   by_cases h:i<0
   ·simp only [h,if_true] <;> lia
   ·simp only [h,if_false] <;> lia
def Pc (its:List Value) (lo hi:Option Int):slicePick its.toArray lo hi none=((its.drop (HT.sIx its.length 0 lo)).take (HT.sIx its.length its.length hi-HT.sIx its.length 0 lo)).toArray:=by
 obtain ⟨h1,h2,h3⟩:=Nw lo hi its.toArray.size;unfold slicePick;rw [h1,h2,h3];simp only [sliceRange_one,pick_run,Jp] <;> rfl
def rSlL (K:W.Frag):V->Option Int->Option Int->Hp->VK->Prop:=fun x lo hi H Q=>∃ a xs,x=.ref a/\SqL K H a xs/\∀ p,H p=none->Q (.ref p) (upd H p (.lst (cutV xs lo hi)))
theorem Wi:SlR X (rSlL X.K):=by
 intro pq s σ H x v vl vu lo hi sl Q I rx hs pl pu h;obtain ⟨a,xs,rfl,hx,q⟩:=h;cases rx;obtain ⟨its,r,ht,hz⟩:=I.list hx;have hlen:=r.length;refine ⟨"list",_,slot_list_getitem.lookup,ht.isList.typeIs,?_⟩;refine wpAny_getItem_list_slice ht.isList hs pl pu .none (by simp) ?_ (by rw [Jp] <;> lia);rw [Pc,<- hlen];refine ⟨.ref s.heap.objs.size,_,I.laid (t':=s.toks) (o:=.lst (cutV xs lo hi)) (fun b ob q=>Dd _ q) (Je _) ?_,rfl,q _ (I.hok.fresh (Je _))⟩;exact ⟨Jv (U4 xs lo hi) hz,_,0,(r.drop (HT.sIx xs.length 0 lo)).take (HT.sIx xs.length xs.length hi-HT.sIx xs.length 0 lo),De _ rfl⟩
def P9:V->Bool
 | .non=>true
 | .bl _=>true
 | .int _=>true
 | .str _=>true
 | _=>false
def eqV:V->V->Bool
 | .non,.non=>true
 | .bl a,.bl b=>a == b
 | .bl a,.int b=>(if a then 1 else 0) == b
 | .int a,.bl b=>a == (if b then 1 else 0)
 | .int a,.int b=>a == b
 | .str a,.str b=>a == b
 | _,_=>false
theorem Zr3 {y x:V} {u v:Value} (ry:RelV y u) (rx:RelV x v) (fy:P9 y=true) (fx:P9 x=true):SeqAt.EqAt A s u v (eqV y x):=by
 cases y with
 | non =>
  cases ry;cases x with
  | non=>cases rx; exact SeqAt.EqAt.same _
  | bl b=>cases rx; exact SeqAt.EqAt.none_bool b
  | int b=>obtain ⟨t,rfl⟩:=rx; exact SeqAt.EqAt.none_int b t
  | str b=>obtain ⟨t,rfl⟩:=rx; exact SeqAt.EqAt.none_str b t
  | _=>exact absurd (show false=true from fx) Ju
 | bl a =>
  cases ry;cases x with
  | non=>cases rx; exact SeqAt.EqAt.bool_none a
  | bl b=>cases rx; exact SeqAt.EqAt.bool_bool a b
  | int b=>obtain ⟨t,rfl⟩:=rx; exact SeqAt.EqAt.bool_int a b t
  | str b=>obtain ⟨t,rfl⟩:=rx; exact SeqAt.EqAt.bool_str a b t
  | _=>exact absurd (show false=true from fx) Ju
 | int a =>
  obtain ⟨t',rfl⟩:=ry;cases x with
  | non=>cases rx; exact SeqAt.EqAt.int_none a t'
  | bl b=>cases rx; exact SeqAt.EqAt.int_bool a t' b
  | int b=>obtain ⟨t,rfl⟩:=rx; exact SeqAt.EqAt.int_int a t' b t
  | str b=>obtain ⟨t,rfl⟩:=rx; exact SeqAt.EqAt.int_str a t' b t
  | _=>exact absurd (show false=true from fx) Ju
 | str a =>
  obtain ⟨t',rfl⟩:=ry;cases x with
  | non=>cases rx; exact SeqAt.EqAt.str_none a t'
  | bl b=>cases rx; exact SeqAt.EqAt.str_bool a t' b
  | int b=>obtain ⟨t,rfl⟩:=rx; exact SeqAt.EqAt.str_int a t' b t
  | str b=>obtain ⟨t,rfl⟩:=rx; exact SeqAt.EqAt.str_str a t' b t
  | _=>exact absurd (show false=true from fx) Ju
 | _=>exact absurd (show false=true from fy) Ju
def eqU (x:V) (u:Value):Bool:=match u with
 | .none=>eqV .non x
 | .bool b=>eqV (.bl b) x
 | .int i _=>eqV (.int i) x
 | .str z _=>eqV (.str z) x
 | _=>false
theorem Zl9 {x y:V} {u:Value} (r:RelV y u) (f:P9 y=true):eqU x u=eqV y x:=by
 cases y with
 | non=>cases r; rfl
 | bl b=>cases r; rfl
 | int i=>obtain ⟨t,rfl⟩:=r; rfl
 | str z=>obtain ⟨t,rfl⟩:=r; rfl
 | _=>exact absurd (show false=true from f) Ju
theorem Zcm {x:V}:∀ {xs:List V} {us:List Value},Vals xs us->xs.all P9=true->us.any (eqU x)=xs.any fun y=>eqV y x
 | _,_,.nil,_=>rfl
 | y::xs,u::us,.cons r t,f=>by
  rw [List.all_cons,Fe] at f;rw [B1,B1,Zl9 r f.1,Zcm t f.2]
theorem Pn {x:V} {v:Value} (rx:RelV x v) (fx:P9 x=true):∀ {xs:List V} {us:List Value},Vals xs us->xs.all P9=true->∀ u∈us,SeqAt.EqAt A s u v (eqU x u)
 | _,_,.nil,_=>fun u hu=>by cases hu
 | y::xs,u::us,.cons r t,f=>fun u' hu=>by
  rw [List.all_cons,Fe] at f;rcases Jq.mp hu with rfl | hu
  ·rw [Zl9 r f.1]; exact Zr3 r rx f.1 fx
  ·exact Pn rx fx t f.2 u' hu
def inV (x:V) (xs:List V):Bool:=xs.any fun y=>eqV y x
def rIn (K:W.Frag) (neg:Bool):R2:=fun x y H Q=>∃ p xs,y=.ref p/\(SqL K H p xs\/SqT K H p xs)/\P9 x=true/\xs.all P9=true/\Q (.bl (if neg then !inV x xs else inV x xs)) H
def N7:OpR X (compareOp .NotIn) (rIn X.K true):=by
 intro pq s σ H x y v u Q I rx ry h;obtain ⟨p,xs,rfl,hq,fx,fs,q⟩:=h;cases ry;rcases hq with hq | hq
 ·obtain ⟨its,r,pl,hz⟩:=I.list hq;refine SeqAt.notIn_listAt (eqU x) pl.isList (fun w hw=>Pn rx fx r fs w (by simpa using hw)) ⟨.bl _,H,I,rfl,?_⟩;rw [show its.toArray.any (eqU x)=its.any (eqU x) by simp,Zcm r fs];exact q
 ·obtain ⟨its,r,pl,hz⟩:=I.tuple hq;refine SeqAt.notIn_tupleAt (eqU x) pl (fun w hw=>Pn rx fx r fs w (by simpa using hw)) ⟨.bl _,H,I,rfl,?_⟩;rw [show its.toArray.any (eqU x)=its.any (eqU x) by simp,Zcm r fs];exact q
theorem Za0:Ws X (.type "list") (fun xs H Q=>∃ p ys,xs=[.ref p]/\(SqL X.K H p ys\/SqT X.K H p ys)/\∀ l,H l=none->Q (.ref l) (upd H l (.lst ys))):=by
 intro pq s σ H xs us Q I r h;obtain ⟨p,ys,rfl,hq,q⟩:=h;obtain ⟨u,rfl,rx⟩:=Uy r;cases rx;have fin:∀ (its:List Value),Vals ys its->ys.length<=sizeLine->∀ (h':Heap) (c':Nat),(∀ b o',s.heap.get? b=some o'->h'.get? b=some o') ->
   h'.get? s.heap.objs.size=some { cls:=.type "list",dict:=none,data:=.seq its.toArray c',slots:=#[] }->EP X pq σ Q (.ref s.heap.objs.size) { s with heap:=h' }:=fun its r' hz h' c' kp e =>
  ⟨.ref s.heap.objs.size,_,I.laid (t':=s.toks) kp (Je _) (show Yw X.prog X.w _ h' _ (.lst ys) from ⟨hz,its,c',r',e⟩),rfl,q _ (I.hok.fresh (Je _))⟩
 rcases hq with hq | hq
 ·obtain ⟨its,r',pl,hz⟩:=I.list hq;have hlen:=r'.length;obtain ⟨o,ho,hc,n,hd⟩:=pl.isList;exact call_list_seq p (.inl rfl) ho hc hd (fun h' c' kp e=>fin its r' hz h' c' kp e) (by simp only [Jp] <;> lia)
 ·obtain ⟨its,r',pl,hz⟩:=I.tuple hq;have hlen:=r'.length;obtain ⟨o,ho,hc,n,hd⟩:=pl;exact call_list_seq p (.inr rfl) ho hc hd (fun h' c' kp e=>fin its r' hz h' c' kp e) (by simp only [Jp] <;> lia)
theorem Wf:Ws X (.type "tuple") (fun xs H Q=>∃ p ys,xs=[.ref p]/\((SqL X.K H p ys/\∀ l,H l=none->Q (.ref l) (upd H l (.tup ys)))\/(SqT X.K H p ys/\Q (.ref p) H))):=by
 intro pq s σ H xs us Q I r h;obtain ⟨p,ys,rfl,h⟩:=h;obtain ⟨u,rfl,rx⟩:=Uy r;cases rx;rcases h with ⟨hq,q⟩ | ⟨hq,q⟩
 ·obtain ⟨its,r',pl,hz⟩:=I.list hq;have hlen:=r'.length;refine call_tuple_list pl.isList (fun h' kp=>?_) (by simp only [Jp] <;> lia);have I1:Inv X pq σ H { s with heap:=h' }:=I.kept (t':=s.toks) kp;have I2:Inv X pq σ (upd H h'.objs.size (.tup ys)) { s with heap:=h'.push { cls:=.type "tuple",data:=.seq its.toArray } } :=
   I1.laid (t':=s.toks) (fun b o e=>Dd _ e) (Je _) (show Yw X.prog X.w _ _ _ (.tup ys) from ⟨hz,its,r',V6.new _ _⟩)
  exists .ref h'.objs.size,_,I2,rfl,q _ (I1.hok.fresh (Je _))
 ·obtain ⟨its,r',pl,hz⟩:=I.tuple hq;exact call_tuple_same pl ⟨.ref p,H,I,rfl,q⟩
def tyV (K:W.Frag) (T:String) (x:V) (H:Hp):Prop:=match x with
 | .str _=>T="str"
 | .int _=>T="int"
 | .ref p=>(T="list"/\∃ xs,SqL K H p xs)\/(T="tuple"/\∃ o,K.lookup p=some o/\o.cls=.type "tuple"/\o.dict=none) \/
   (T="dict"/\((∃ kvs,H p=some (.dK kvs))\/∃ kvs,H p=some (.dT kvs)))\/(T="set"/\∃ S n,H p=some (.set S n))
 | _=>False
theorem Zle {T:String} {x:V} {v:Value} (I:Inv X pq σ H s) (r:RelV x v) (ty:tyV X.K T x H) :
  s.TypeIs v T/\∀ a,v=.ref a->∃ ob,s.heap.get? a=some ob/\ob.dict=none:=by
 cases x with
 | str z =>
  obtain ⟨t,rfl⟩:=r;cases (show T="str" from ty);exists typeIs_str s z t,fun _ e=>nomatch e
 | int i =>
  obtain ⟨t,rfl⟩:=r;cases (show T="int" from ty);exists typeIs_int s i t,fun _ e=>nomatch e
 | ref p =>
  cases r;rcases ty with ⟨rfl,xs,hq⟩ | ⟨rfl,o,hk,hc,hd⟩ | ⟨rfl,hk⟩ | ⟨rfl,S,n,hk⟩
  ·obtain ⟨its,_,pl,_⟩:=I.list hq;exists pl.isList.typeIs,fun a e=>?_;cases e;obtain ⟨o,n,e,c,hd,_⟩:=pl;exists o,e,hd
  ·exists ⟨o,I.kIn p o hk,hc⟩,fun a e=>?_;cases e;exists o,I.kIn _ o hk,hd
  ·have z:∃ o,s.heap.get? p=some o/\o.ExactDict:=by
    rcases hk with ⟨kvs,hk⟩ | ⟨kvs,hk⟩
    ·obtain ⟨_,_,_,_,o,_,_,e,ex,_⟩:=I.hok p _ hk;exists o,e,ex
    ·obtain ⟨_,_,_,_,o,_,_,e,ex,_⟩:=I.hok p _ hk;exists o,e,ex
   obtain ⟨o,e,ex⟩:=z;exists ⟨o,e,ex.1⟩,fun a e2=>?_;cases e2;exists o,e,ex.2.1
  ·obtain ⟨o,_,_,_,e,ex,_⟩:=I.hok p _ hk;exists ⟨o,e,ex.1⟩,fun a e2=>?_;cases e2;exists o,e,ex.2.1
 | _=>exact False.elim ty
def tBM0 (K:W.Frag) (T:String) (r:V->List V->Hp->VK->Prop) (to:TE):TE:=fun σ H Q=>to σ H fun x H1=>tyV K T x H1/\r x [] H1 Q
def tBM (K:W.Frag) (T:String) (r:V->List V->Hp->VK->Prop) (to:TE) (t:TA):TE:=fun σ H Q=>to σ H fun x H1=>tyV K T x H1/\t σ H1 fun xs H2=>r x xs H2 Q
variable {o e:Expr} {to:TE} {t:TA} {name:Str} {cpos:Pos} {T id:String} {r:V->List V->Hp->VK->Prop}
def Zl0 (pa:PlainAttrs T) (slot:Slot T name id) (hty:typeOf (.builtin id)=pure (.type "method_descriptor")) (hm:MtR X id r) (ho:PE X o to)
  (hbase:attributeBase o name X.env (eval o X.env)=eval o X.env:=by rfl) (hline:(apos.endLine == cpos.line)=true:=by rfl):PE X (.Call (.Attribute o name apos) [] [] cpos) (tBM0 X.K T r to):=by
 intro pq s σ H Q I h;refine wpAny_Call_method0_late hbase hline (thn (ho pq s σ H _ I h) fun v s1 hz=>?_);obtain ⟨x,H1,I1,r1,ty,q1⟩:=hz;obtain ⟨h1,h2⟩:=Zle I1 r1 ty;exists T,id,pa,slot,hty,h1,h2,Calls.callWith_builtin rfl (PySem.evalArgs_none (hm pq s1 σ H1 x [] v [] Q I1 r1 .nil q1))
def Ty (pa:PlainAttrs T) (slot:Slot T name id) (hty:typeOf (.builtin id)=pure (.type "method_descriptor")) (hm:MtR X id r) (ho:PE X o to) (ha:PA X (e::es) t)
  (hbase:attributeBase o name X.env (eval o X.env)=eval o X.env:=by rfl)
  (hfew:((backTo cpos (starEach (e::es) X.env)).all (fun x=>!x.1) && (backToKw cpos (keywordEach [] X.env)).all (fun x=>x.1.isSome)
   && decide ((e::es).length+([]:List Keyword).length+(if ([]:List Keyword).isEmpty then 0 else 1)<30))=true:=by rfl)
  (hline:(apos.endLine == cpos.line)=true:=by rfl) (hs:starEach (e::es) X.env=(false,eval e X.env)::starEach es X.env:=by rfl) (hplain:(backTo cpos (starEach es X.env)).any (·.1)=false:=by rfl) :
  PE X (.Call (.Attribute o name apos) (e::es) [] cpos) (tBM X.K T r to t):=by
 intro pq s σ H Q I h;refine wpAny_Call_method_late hbase hfew hline rfl (thn (ho pq s σ H _ I h) fun v s1 hz=>?_);obtain ⟨x,H1,I1,r1,ty,q1⟩:=hz;obtain ⟨h1,h2⟩:=Zle I1 r1 ty;refine ⟨T,id,pa,slot,hty,h1,h2,?_⟩;have hA:=ha cpos pq s1 σ H1 _ I1 q1;rw [hs] at hA ⊢;refine Calls.callWith_builtin (by show (false || (backTo cpos (starEach es X.env)).any (·.1))=false; rw [hplain] <;> rfl) (Calls.evalArgs_plain ?_);exact thn hA fun us s2 ⟨vs,H2,I2,r2,q2⟩=>hm pq s2 σ H2 x vs v us Q I2 r1 r2 q2
end
def MtM (X:Cx) (id:String) (r:V->List V->Hp->VK->Prop):Prop :=
 ∀ (pq:List (Addr×Obj)) (s:Shared) (σ:St) (H:Hp) (x:V) (xs:List V) (v:Value) (us:List Value) (Q:VK),Inv X pq σ H s->RelV x v->Vals xs us->r x xs H Q ->
  wpAny (model X.prog X.w) X.A (call (.builtin id) (v::us)) (EP X pq σ Q) X.xe s
theorem Vals.one:∀ {x:V} {us:List Value},Vals [x] us->∃ u,us=[u]/\RelV x u
 | _,_,.cons r .nil=>⟨_,rfl,r⟩
theorem Vals.zero:∀ {us:List Value},Vals [] us->us=[]:=by
 intro _ hz9;cases hz9 with
 | nil=>
  exact rfl
theorem Vals.reverse (h:Vals xs us):Vals xs.reverse us.reverse:=by
 induction h with
 | nil=>exact .nil
 | cons r t ih=>rw [Bq,Bq]; exact Vals.append ih (.cons r .nil)
section
def Inv.lset {its':List Value} {n:Nat} {f:Array Value->Array Value} (I:Inv X pq σ H s) (hH:H l=some (.lst xs))
  (e:s.heap.get? l=some { cls:=.type "list",data:=.seq its.toArray n }) (hf:f its.toArray=its'.toArray) (hv:Vals ys its') (hz:ys.length<=sizeLine) :
  Inv X pq σ (upd H l (.lst ys)) { s with heap:=s.heap.update l (Obj.mapSeq f),toks:=t' }:=by
 have q:=PySem.IsL.update e f;rw [hf] at q;refine I.write (x:=l) (e:=l) (by rw [hH]; exact trivial) (.inl rfl) (fun b' u hb hu=>(Heap.get?_update_other s.heap (Obj.mapSeq f) (Ne.symm hb)).trans hu) ⟨_,q⟩ ?_;exists hz,its',_,hv,q
def Inv.lnew (I:Inv X pq σ H s) (hv:Vals ys its) (hz:ys.length<=sizeLine) :
  Inv X pq σ (upd H s.heap.objs.size (.lst ys)) { s with heap:=s.heap.push { cls:=.type "list",data:=.seq its.toArray },toks:=t' } :=
 I.laid (fun _ _ q=>Dd _ q) (Je _) ⟨hz,its,0,hv,De _ rfl⟩
def Inv.fresh (I:Inv X pq σ H s):H s.heap.objs.size=none:=I.hok.fresh (Je _)
def Inv.lstM (I:Inv X pq σ H s) (hH:H l=some (.lst xs)):xs.length<=sizeLine/\∃ (its:List Value) (n:Nat),Vals xs its/\xs.length=its.length/\s.heap.get? l=some { cls:=.type "list",data:=.seq its.toArray n }:=by
 obtain ⟨z,its,n,r,e⟩:=I.hok l _ hH;exists z,its,n,r,r.length,e
theorem Zdg {n:Nat} (h:n<=sizeLine):Builtin.List.listTooLong n=false:=by
 unfold Builtin.List.listTooLong;exact Dj (by lia)
end
section
def Zgm:V->List V->Hp->VK->Prop:=fun x vs H Q=>∃ l xs y,x=.ref l/\vs=[y]/\H l=some (.lst xs)/\xs.length<sizeLine/\Q .non (upd H l (.lst (xs++[y])))
theorem Wp:MtM X "list.append" Zgm:=by
 intro pq s σ H x vs v us Q I rx rv h;obtain ⟨l,xs,y,rfl,rfl,hH,hz,q⟩:=h;cases rx;obtain ⟨u,rfl,ru⟩:=rv.one;obtain ⟨z,its,n,r,hl,e⟩:=I.lstM hH;refine call_meets F.slot_list_append ⟨_,e,rfl⟩ F.entry_list_append (F.args_list_append_2 _ _) (PySem.list_append l its.toArray n u (by rw [Jp]; lia)) ⟨e,?_⟩;exists .non,_,I.lset (its':=its++[u]) hH e (by simp) (r.append (.cons ru .nil)) ?_,rfl,q;rw [Jc,Gs];lia
def Zgl:V->List V->Hp->VK->Prop:=fun x vs H Q=>∃ l b xs zs,x=.ref l/\vs=[.ref b]/\H l=some (.lst xs)/\H b=some (.lst zs)/\xs.length+zs.length<=sizeLine/\Q .non (upd H l (.lst (xs++zs)))
theorem N9:MtM X "list.extend" Zgl:=by
 intro pq s σ H x vs v us Q I rx rv h;obtain ⟨l,b,xs,zs,rfl,rfl,hH,hB,hz,q⟩:=h;cases rx;obtain ⟨u,rfl,ru⟩:=rv.one;cases ru;obtain ⟨z,its,n,r,hl,e⟩:=I.lstM hH;obtain ⟨z2,its2,n2,r2,hl2,e2⟩:=I.lstM hB;have hsz:its.toArray.size+its2.toArray.size<=sizeLine:=by rw [Jp,Jp]; lia
 have hlong:¬ (!its.toArray.isEmpty && Builtin.List.listTooLong (its.toArray.size+its2.toArray.size))=true:=by
  rw [Zdg hsz,Bool.and_false];exact Ju
 refine call_meets F.slot_list_extend ⟨_,e,rfl⟩ F.entry_list_extend (F.args_list_extend_2 _ _)
  (AutoSeq1.list_extend_list_list_0 l its.toArray n b its2.toArray n2 hlong (by rw [Jp]; lia) (by lia)) ⟨e,e2,?_⟩
 exists .non,_,I.lset (its':=its++its2) hH e (by simp) (r.append r2) ?_,rfl,q;rw [Jc];lia
def Zlu:V->List V->Hp->VK->Prop:=fun x vs H Q=>∃ l xs,x=.ref l/\vs=[]/\H l=some (.lst xs)/\Q .non (upd H l (.lst []))
theorem Zdj:MtM X "list.clear" Zlu:=by
 intro pq s σ H x vs v us Q I rx rv h;obtain ⟨l,xs,rfl,rfl,hH,q⟩:=h;cases rx;have hus:=rv.zero;subst hus;obtain ⟨z,its,n,r,hl,e⟩:=I.lstM hH;refine call_meets F.slot_list_clear ⟨_,e,rfl⟩ F.entry_list_clear (F.args_list_clear_1 _) (AutoSeq1.list_clear_list_0 l its.toArray n (by rw [Jp]; lia)) ⟨e,?_⟩;exists .non,_,I.lset (its':=[]) (ys:=[]) hH e rfl .nil (Ge _),rfl,q
def rCat:R2:=fun x y H Q=>∃ l b xs zs,x=.ref l/\y=.ref b/\H l=some (.lst xs)/\H b=some (.lst zs)/\xs.length+zs.length<=sizeLine/\∀ p,H p=none->Q (.ref p) (upd H p (.lst (xs++zs)))
theorem Qw:OpR X (binaryOp .Add) rCat:=by
 intro pq s σ H x y v u Q I rx ry h;obtain ⟨l,b,xs,zs,rfl,rfl,hH,hB,hz,q⟩:=h;cases rx;cases ry;obtain ⟨z,its,n,r,hl,e⟩:=I.lstM hH;obtain ⟨z2,its2,n2,r2,hl2,e2⟩:=I.lstM hB;refine PySem.P.add_list e e2 ?_ (by rw [Jp,Jp]; lia);have ea:its.toArray++its2.toArray=(its++its2).toArray:=by simp
 rw [ea];exists .ref _,_,I.lnew (t':=s.toks) (r.append r2) (by rw [Jc]; lia),rfl,q _ I.fresh
end
section
variable [DecidableEq κ]
def valV (kvs:List (κ×V)) (k:κ):Option V:=(kvs.find? fun kv=>decide (kv.1=k)).map (·.2)
def putK (kvs:List (κ×V)) (k:κ) (v:V):List (κ×V) :=
 if (kvs.any fun kv=>decide (kv.1=k))=true then kvs.map (fun kv=>if kv.1=k then (kv.1,v) else kv) else kvs++[(k,v)]
def Zr6 (kvs:List (κ×V)) (k:κ):List (κ×V):=kvs.filter fun kv=>decide (kv.1≠k)
def Zjl {k:κ}:valV ([]:List (κ×V)) k=none:=rfl
def Xu {p:κ×V} {r:List (κ×V)} {k:κ} (e:p.1=k):valV (p::r) k=some p.2:=by simp [valV,G5,e]
def Xv {p:κ×V} {r:List (κ×V)} {k:κ} (e:¬ p.1=k):valV (p::r) k=valV r k:=by simp [valV,G5,e]
theorem Sm (k:κ):∀ kvs:List (κ×V),(kvs.any fun kv=>decide (kv.1=k))=(valV kvs k).isSome
 | []=>rfl
 | p::r=>by
  rw [B1]
  by_cases e:p.1=k
  ·simp only [Xu e,Di e,Bool.true_or,Option.isSome_some]
  ·rw [Xv e,Dj e,Bool.false_or]; exact Sm k r
theorem Zcv (k j:κ) (y:V):∀ kvs:List (κ×V),valV (kvs.map fun kv=>if kv.1=k then (kv.1,y) else kv) j=(valV kvs j).map fun x=>if j=k then y else x
 | []=>rfl
 | p::r=>by
  have ih:=Zcv k j y r;rw [Jl]
  by_cases h:p.1=k
  ·rw [Dh h]
   by_cases e:p.1=j
   ·rw [Xu (p:=(p.1,y)) e,Xu e,Fg,Dh (e.symm.trans h)]
   ·rw [Xv (p:=(p.1,y)) e,Xv e,ih]
  ·rw [Dg h]
   by_cases e:p.1=j
   ·rw [Xu (p:=p) e,Xu e,Fg,Dg (fun z=>h (e.trans z))]
   ·rw [Xv (p:=p) e,Xv e,ih]
theorem Nm (k j:κ) (y:V):∀ kvs:List (κ×V),valV kvs k=none->valV (kvs++[(k,y)]) j=if j=k then some y else valV kvs j
 | [],_=>by
  by_cases e:k=j
  ·rw [Dh e.symm]; exact Xu (p:=(k,y)) e
  ·rw [Dg (fun z=>e z.symm)]; exact Xv (p:=(k,y)) e
 | p::r,hn=>by
  rw [List.cons_append];have hk:¬ p.1=k:=fun z=>by rw [Xu z] at hn; cases hn
  rw [Xv hk] at hn;have ih:=Nm k j y r hn
  by_cases e:p.1=j
  ·rw [Xu e,Xu e,Dg (fun z=>hk (e.trans z))]
  ·rw [Xv e,Xv e,ih]
def Q9 (kvs:List (κ×V)) (k j:κ) (y:V):valV (putK kvs k y) j=if j=k then some y else valV kvs j:=by
 unfold putK
 by_cases a:(kvs.any fun kv=>decide (kv.1=k))=true
 ·rw [Dh a,Zcv];rw [Sm] at a
  by_cases e:j=k
  ·obtain ⟨x,hx⟩:=Option.isSome_iff_exists.mp a;rw [Dh e,e,hx,Fg,Dh rfl]
  ·rw [Dg e];cases valV kvs j with
   | none=>rfl
   | some x=>rw [Fg,Dg e]
 ·rw [Dg a];refine Nm k j y kvs ?_;rw [Sm] at a;cases q:valV kvs k with
  | none=>rfl
  | some x=>rw [q] at a; exact (a rfl).elim
theorem Xb (kvs:List (κ×V)) (k:κ) (v:V):(putK kvs k v).length<=kvs.length+1:=by
 unfold putK
 split
 ·rw [Jb]; lia
 ·rw [Jc,Jz,B8]; lia
theorem RelO.isSome_eq {o:Option V} {u:Option Value} (r:RelO o u):o.isSome=u.isSome:=by
 cases o with
 | none=>cases u with
  | none=>rfl
  | some _=>exact (show False from r).elim
 | some _=>cases u with
  | none=>exact (show False from r).elim
  | some _=>rfl
theorem RelO.getD {o:Option V} {u:Option Value} {d:V} {d':Value} (r:RelO o u) (rd:RelV d d'):RelV (o.getD d) (u.getD d'):=by
 cases o with
 | none=>cases u with
  | none=>exact rd
  | some _=>exact (show False from r).elim
 | some _=>cases u with
  | none=>exact (show False from r).elim
  | some _=>exact r
theorem KV.val {kvs:List (κ×V)} {vs:List (κ×Value)} (r:KV kvs vs) (k:κ):RelO (valV kvs k) (valueAt vs k):=by
 unfold KV at r
 induction r with
 | nil=>exact True.intro
 | @cons p q ps qs h t ih =>
  obtain ⟨h1,h2⟩:=h
  by_cases e:p.1=k
  ·have e':q.1=k:=h1.symm.trans e;have b:valueAt (q::qs) k=some q.2:=by simp [valueAt,G5,e']
   rw [Xu e,b]; exact h2
  ·have e':¬ q.1=k:=fun z=>e (h1.trans z);have b:valueAt (q::qs) k=valueAt qs k:=by simp [valueAt,G5,e']
   rw [Xv e,b]; exact ih
theorem KV.any {kvs:List (κ×V)} {vs:List (κ×Value)} (r:KV kvs vs) (k:κ):(kvs.any fun kv=>decide (kv.1=k))=vs.any fun kv=>decide (kv.1=k):=by
 unfold KV at r
 induction r with
 | nil=>rfl
 | cons h t ih=>rw [B1,B1,ih,h.1]
theorem KV.repl {kvs:List (κ×V)} {vs:List (κ×Value)} (r:KV kvs vs) (k:κ) {y:V} {u:Value} (ry:RelV y u) :
  KV (kvs.map fun kv=>if kv.1=k then (kv.1,y) else kv) (vs.map fun kv=>if kv.1=k then (kv.1,u) else kv):=by
 unfold KV at r ⊢
 induction r with
 | nil=>exact .nil
 | @cons p q ps qs h t ih =>
  rw [Jl,Jl];refine .cons ?_ ih;obtain ⟨h1,h2⟩:=h
  by_cases e:p.1=k
  ·rw [Dh e,Dh (h1.symm.trans e)];exists h1,ry
  ·rw [Dg e,Dg (fun z=>e (h1.trans z))];exists h1,h2
def KV.put {kvs:List (κ×V)} {vs:List (κ×Value)} (r:KV kvs vs) (k:κ) {y:V} {u:Value} (ry:RelV y u):KV (putK kvs k y) (stored vs k u):=by
 unfold putK stored;rw [r.any k]
 by_cases e:(vs.any fun kv=>decide (kv.1=k))=true
 ·rw [Dh e,Dh e]; exact r.repl k ry
 ·rw [Dg e,Dg e]; exact Paired.snoc r ⟨rfl,ry⟩
theorem KV.drop {kvs:List (κ×V)} {vs:List (κ×Value)} (r:KV kvs vs) (k:κ):KV (Zr6 kvs k) (without vs k):=by
 unfold KV at r ⊢;unfold Zr6 without
 induction r with
 | nil=>exact .nil
 | @cons p q ps qs h t ih =>
  obtain ⟨h1,h2⟩:=h;rw [Bu,Bu]
  by_cases e:p.1=k
  ·have a:¬ decide (p.1≠k)=true:=by simp [e]
   have b:¬ decide (q.1≠k)=true:=by simp [h1.symm.trans e]
   rw [Dg a,Dg b]; exact ih
  ·have e':¬ q.1=k:=fun z=>e (h1.trans z);have a:decide (p.1≠k)=true:=by simp [e]
   have b:decide (q.1≠k)=true:=by simp [e']
   rw [Dh a,Dh b]; exact .cons ⟨h1,h2⟩ ih
def KV.length {kvs:List (κ×V)} {vs:List (κ×Value)} (r:KV kvs vs):kvs.length=vs.length:=Paired.length r
end
theorem Zb3 {w:World} {k:Key} {u:Value} (r:RelV (kV k) u):(Yz P w).is k u=true:=by
 cases k with
 | inl i=>obtain ⟨t,e⟩:=(show ∃ t,u=Value.int i t from r); subst e; exact Zb0 P w i t
 | inr x=>obtain ⟨t,e⟩:=(show ∃ t,u=Value.str x t from r); subst e; exact Zbz P w x t
theorem Zag {w:World}:∀ {ks:List Key} {us:List Value},Vals (ks.map kV) us->ItemsAre (Yz P w) ks us
 | [],_,r=>by rw [List.map_nil] at r; cases r; exact .nil
 | k::ks,_,r=>by
  rw [Jl] at r;cases r with
  | cons h t=>exact .cons (Zb3 h) (Zag t)
abbrev KT (H:Hp):List (List Key×V)->List (List Key×Addr×Value)->Prop:=Paired fun p q=>p.1=q.1/\H q.2.1=some (.tup (p.1.map kV))/\RelV p.2 q.2.2
theorem KT.val {xs:List (List Key×Addr×Value)} (r:KT H kvs xs) (k:List Key):RelO (valV kvs k) ((atKey xs k).map (·.2)):=by
 induction r with
 | nil=>exact True.intro
 | @cons p q ps qs h t ih =>
  obtain ⟨h1,_,h2⟩:=h
  by_cases e:p.1=k
  ·have e':q.1=k:=h1.symm.trans e;have b:atKey (q::qs) k=some q.2:=by simp [atKey,G5,e']
   rw [Xu e,b]; exact h2
  ·have e':¬ q.1=k:=fun z=>e (h1.trans z);have b:atKey (q::qs) k=atKey qs k:=by simp [atKey,G5,e']
   rw [Xv e,b]; exact ih
theorem KT.repl {xs:List (List Key×Addr×Value)} (r:KT H kvs xs) (k:List Key) {y:V} {u:Value} (ry:RelV y u) :
  KT H (kvs.map fun kv=>if kv.1=k then (kv.1,y) else kv) (xs.map (putAt k u)):=by
 induction r with
 | nil=>exact .nil
 | @cons p q ps qs h t ih =>
  rw [Jl,Jl];refine .cons ?_ ih;obtain ⟨h1,h2,h3⟩:=h;unfold putAt
  by_cases e:p.1=k
  ·rw [Dh e,Dh (h1.symm.trans e)];exists h1,h2,ry
  ·rw [Dg e,Dg (fun z=>e (h1.trans z))];exists h1,h2,h3
def KT.put {xs:List (List Key×Addr×Value)} (r:KT H kvs xs) (k:List Key) {y:V} {u:Value} (hb:H b=some (.tup (k.map kV))) (ry:RelV y u) :
  KT H (putK kvs k y) (storedH xs k b u):=by
 have e:(kvs.any fun kv=>decide (kv.1=k))=(atKey xs k).isSome:=by
  rw [Sm,(r.val k).isSome_eq,Option.isSome_map]
 unfold putK storedH;rw [e]
 by_cases q:(atKey xs k).isSome=true
 ·rw [Dh q,Dh q]; exact r.repl k ry
 ·rw [Dg q,Dg q]; exact Paired.snoc r ⟨rfl,hb,ry⟩
def KT.keeps {xs:List (List Key×Addr×Value)} (r:KT H kvs xs) (ht:∀ b ys,H b=some (.tup ys)->H' b=some (.tup ys)):KT H' kvs xs :=
 Paired.mapP r fun _ _ z=>⟨z.1,ht _ _ z.2.1,z.2.2⟩
section
variable {w:World} {a:Addr}
def Zqu {u:HO} (ok:HOk P w H h) (e:Rd H a u):Yw P w H h a u:=e.ok ok
def Zar {kvs:List (Key×V)} (ok:HOk P w H h) (e:Rd H a (.dK kvs)):kvs.length<=sizeLine/\(a == sysModules)=false/\∃ vs,KV kvs vs/\h.DictOf (Yz P w) a vs :=
 show Yw P w H h a (.dK kvs) from Zqu ok e
def Zox {kvs:List (Key×V)} (ok:HOk P w H h) (e:H a=some (.dK kvs)):kvs.length<=sizeLine/\(a == sysModules)=false/\∃ vs,KV kvs vs/\h.DictOf (Yz P w) a vs:=Zar ok (.inl e)
def Rp {ks:List Key} (ok:HOk P w H h) (e:H a=some (.tup (ks.map kV))):(tupleKind (Yz P w)).is h ks a:=by
 obtain ⟨_,its,r,o,h1,h2,n,h3,_⟩:=(show Yw P w H h a (.tup (ks.map kV)) from ok a _ e);exact ⟨o,its.toArray,n,h1,h2,h3,by simpa using Zag r⟩
def Zcb (ok:HOk P w H h) (e:Rd H a (.dT kvs)):kvs.length<=sizeLine/\(a == sysModules)=false /\
  ∃ xs,KT H kvs xs/\h.DictOfH (tupleKind (Yz P w)) a xs:=by
 obtain ⟨z,y,xs,r,o,es,ep,h1,h2,h3,h4,h5⟩:=(show Yw P w H h a (.dT kvs) from Zqu ok e);refine ⟨z,y,xs,r,o,es,ep,h1,h2,h3,h4,fun x hx=>?_,h5⟩;have all:∀ {l:List (List Key×V)} {m:List (List Key×Addr×Value)},KT H l m->∀ x∈m,(tupleKind (Yz P w)).is h x.1 x.2.1:=by
  intro l m q
  induction q with
  | nil=>intro x hx; exact nomatch hx
  | @cons p q ps qs hq t ih =>
   intro x hx;rcases Jq.mp hx with e | hx
   ·subst e;exact Rp ok (by rw [<- hq.1]; exact hq.2.1)
   ·exact ih x hx
 exact all r x hx
def Zr5 (ok:HOk P w H h) (e:H a=some (.dT kvs)):kvs.length<=sizeLine/\(a == sysModules)=false /\
  ∃ xs,KT H kvs xs/\h.DictOfH (tupleKind (Yz P w)) a xs:=Zcb ok (.inl e)
end
def DGet (H:Hp) (a:Addr) (y:V) (r:Option V):Prop :=
 (∃ kvs k,Rd H a (.dK kvs)/\y=kV k/\r=valV kvs k)\/∃ kvs k b,Rd H a (.dT kvs)/\y=.ref b/\H b=some (.tup (k.map kV))/\r=valV kvs k
def DPut (H:Hp) (a:Addr) (y v:V) (H':Hp):Prop :=
 (∃ kvs k,H a=some (.dK kvs)/\y=kV k/\kvs.length<sizeLine/\H'=upd H a (.dK (putK kvs k v))) \/
 ∃ kvs k b,H a=some (.dT kvs)/\y=.ref b/\H b=some (.tup (k.map kV))/\kvs.length<sizeLine/\H'=upd H a (.dT (putK kvs k v))
theorem DGet.k {a:Addr} {kvs:List (Key×V)} {k:Key} (e:H a=some (.dK kvs)):DGet H a (kV k) (valV kvs k):=.inl ⟨kvs,k,.inl e,rfl,rfl⟩
def DGet.t {a:Addr} {k:List Key} (e:H a=some (.dT kvs)) (eb:H b=some (.tup (k.map kV))):DGet H a (.ref b) (valV kvs k):=.inr ⟨kvs,k,b,.inl e,rfl,eb,rfl⟩
theorem DPut.k {a:Addr} {kvs:List (Key×V)} {k:Key} {v:V} (e:H a=some (.dK kvs)) (hl:kvs.length<sizeLine):DPut H a (kV k) v (upd H a (.dK (putK kvs k v))):=.inl ⟨kvs,k,e,rfl,hl,rfl⟩
def DPut.t {a:Addr} {k:List Key} {v:V} (e:H a=some (.dT kvs)) (eb:H b=some (.tup (k.map kV))) (hl:kvs.length<sizeLine) :
  DPut H a (.ref b) v (upd H a (.dT (putK kvs k v))):=.inr ⟨kvs,k,b,e,rfl,eb,hl,rfl⟩
section
variable {a:Addr} {y v:V} {u r:Value} {o:Option V} 
def Inv.big (I:Inv X pq σ H s):sysModules<s.heap.objs.size:=by
 have h:mainGlobals<s.heap.objs.size:=(I.mod.glob.keeps I.bk).lt;exact Nat.lt_trans nofun h
def Zii {Q:Value->Shared->Prop} (hu:A.units+1<cLine) (I:Inv X pq σ H s) (g:DGet H a y (some v)) (ry:RelV y u) (h:∀ w' s',Inv X pq σ H s'->RelV v w'->Q w' s') :
  wpAny (model X.prog X.w) A (getItem (.ref a) u) Q E s:=by
 rcases g with ⟨kvs,k,e,ey,l⟩ | ⟨kvs,k,b,e,ey,eb,l⟩
 ·subst ey;obtain ⟨z,hd,vs,rel,dd⟩:=Zar I.hok e;obtain ⟨w',hw,rw'⟩:=RelO.some_of (v:=v) (o:=valueAt vs k) (by rw [l]; exact rel.val k);exact wpAny_getItem_of (Zb3 ry) dd.mapOf hw (h w' _ (I.tok _) rw')
 ·subst ey;cases (show u=Value.ref b from ry);obtain ⟨z,hd,xs,rel,dd⟩:=Zcb I.hok e;obtain ⟨w',hw,rw'⟩:=RelO.some_of (v:=v) (o:=(atKey xs k).map (·.2)) (by rw [l]; exact rel.val k);obtain ⟨p,hp,hp2⟩:=Option.map_eq_some_iff.mp hw;refine wpAny_getItem_heap (tupleKind_room_in1 hu) (Rp I.hok eb) dd hp ?_;rw [hp2];exact h w' _ (I.tok _) rw'
def d_in {Q:Value->Shared->Prop} (hu:A.units+1<cLine) (I:Inv X pq σ H s) (g:DGet H a y o) (ry:RelV y u) (h:∀ s',Inv X pq σ H s'->Q (.bool o.isSome) s') :
  wpAny (model X.prog X.w) A (compareOp .In u (.ref a)) Q E s:=by
 rcases g with ⟨kvs,k,e,ey,l⟩ | ⟨kvs,k,b,e,ey,eb,l⟩
 ·subst ey;obtain ⟨z,hd,vs,rel,dd⟩:=Zar I.hok e;refine wpAny_in_of (Zb3 ry) hd dd.mapOf ?_;rw [<- (rel.val k).isSome_eq,<- l];exact h _ (I.tok _)
 ·subst ey;cases (show u=Value.ref b from ry);obtain ⟨z,hd,xs,rel,dd⟩:=Zcb I.hok e;refine wpAny_in_heap (tupleKind_room_in1 hu) (Rp I.hok eb) hd dd ?_;have q:=(rel.val k).isSome_eq;rw [Option.isSome_map] at q;rw [<- q,<- l];exact h _ (I.tok _)
def Zoy {Q:Value->Shared->Prop} (hu:A.units+1<cLine) (I:Inv X pq σ H s) (g:DGet H a y o) (ry:RelV y u) (h:∀ s',Inv X pq σ H s'->Q (.bool (!o.isSome)) s') :
  wpAny (model X.prog X.w) A (compareOp .NotIn u (.ref a)) Q E s:=by
 rcases g with ⟨kvs,k,e,ey,l⟩ | ⟨kvs,k,b,e,ey,eb,l⟩
 ·subst ey;obtain ⟨z,hd,vs,rel,dd⟩:=Zar I.hok e;refine wpAny_notIn_of (Zb3 ry) hd dd.mapOf ?_;rw [<- (rel.val k).isSome_eq,<- l];exact h _ (I.tok _)
 ·subst ey;cases (show u=Value.ref b from ry);obtain ⟨z,hd,xs,rel,dd⟩:=Zcb I.hok e;refine wpAny_notIn_heap (tupleKind_room_in1 hu) (Rp I.hok eb) hd dd ?_;have q:=(rel.val k).isSome_eq;rw [Option.isSome_map] at q;rw [<- q,<- l];exact h _ (I.tok _)
def Nb {ob:HO} (I:Inv X pq σ H s) (mu:Mut (H a)) (hs:Heap.SameBut a s.heap h') (he:∃ q,h'.get? a=some q) (new:Yw X.prog X.w (upd H a ob) h' a ob) :
  Inv X pq σ (upd H a ob) { s with heap:=h',toks:=t' } :=
 I.write (x:=a) (e:=a) mu (.inl rfl) (fun b q hb z=>(hs.2 b hb).trans z) he new
def Zma {w:World} {kvs:List (Key×V)} {vs:List (Key×Value)} (z:kvs.length<=sizeLine) (hd:(a == sysModules)=false) (rel:KV kvs vs) (dd:h'.DictOf (Yz P w) a vs) :
  Yw P w H' h' a (.dK kvs):=⟨z,hd,vs,rel,dd⟩
theorem Zih {Q:Unit->Shared->Prop} (hu:A.units+1<cLine) (I:Inv X pq σ H s) (g:DPut H a y v H') (ry:RelV y u) (rv:RelV v r) (h:∀ s',Inv X pq σ H' s'->Q () s') :
  wpAny (model X.prog X.w) A (setItem (.ref a) u r) Q E s:=by
 rcases g with ⟨kvs,k,e,ey,l,eH⟩ | ⟨kvs,k,b,e,ey,eb,l,eH⟩
 ·subst ey eH;obtain ⟨z,hd,vs,rel,dd⟩:=Zox I.hok e;have hz:vs.length<=sizeLine:=by rw [<- rel.length]; exact z
  have hl:(putK kvs k v).length<=sizeLine:=by have:=Xb kvs k v; lia
  refine wpAny_setItem_pairs (hsz:=hz) (Zb3 ry) dd fun h' dd' hs=>h _ ?_;have he:∃ q,h'.get? a=some q:=let ⟨q,_,_,hq,_⟩:=dd'; ⟨q,hq⟩
  exact Nb I (by rw [e]; exact True.intro) hs he (Zma hl hd (rel.put k rv) dd')
 ·subst ey eH;cases (show u=Value.ref b from ry);obtain ⟨z,hd,xs,rel,dd⟩:=Zr5 I.hok e;have hz:xs.length<=sizeLine:=by rw [<- Paired.length rel]; exact z
  have hl:(putK kvs k v).length<=sizeLine:=by have:=Xb kvs k v; lia
  refine wpAny_setItem_heap (hsz:=hz) (tupleKind_room_in1 hu) (Rp I.hok eb) dd fun h' dd' hs=>h _ ?_;obtain ⟨q,es,ep,hq,h2,h3,h4,_,h5⟩:=dd';refine Nb I (by rw [e]; exact True.intro) hs ⟨q,hq⟩ ⟨hl,hd,_,(rel.put k eb rv).keeps fun c ys ec=>?_,q,es,ep,hq,h2,h3,h4,h5⟩;rw [Zl (X7 ec e (fun z=>nomatch z))];exact ec
end
def NoSl (i:Expr):Prop:=∀ ov iv,subscripted i false ov iv=operate [ov,iv] (getItem ov iv)
def Zmy {w:World} {env:Env} {slice:Expr} {T id:String} {Q:Value->Shared->Prop}
  (hl:typeLookup (.type T) "__getitem__"=pure (some (.builtin id))) (hs:NoSl slice)
  (h:wpAny (model prog w) A (eval value env) (fun o s₁=>wpAny (model prog w) A (eval slice env) (fun i s₂=>s₂.TypeIs o T/\wpAny (model prog w) A (getItem o i) Q E s₂) E s₁) E s) :
  wpAny (model prog w) A (eval (.Subscript value slice pos) env) Q E s:=by
 refine Subscript_ (Dn h (fun o s₁ h₁=>Dn h₁ (fun i s₂ h₂=>?_) fun _ _ x=>x) fun _ _ x=>x);obtain ⟨hT,h₂⟩:=h₂;unfold subscriptTail;refine Da ?_;rw [getitemInPython_of_ne hT.not_modules];refine Da (wpAny_specialOf hT hl ?_);have fin:wpAny (model prog w) A (subscripted slice false o i) (fun r s₃=>wpAny (model prog w) A (letTemporaryGo value o r >>= fun _=>pure r) Q E s₃) E s₂:=by
  rw [hs o i];exact wpAny_operating (Dn h₂ (fun r s₃ h₃=>Da (wpAny_letTemporaryGo (Db h₃))) fun _ _ x=>x)
 first
  | exact Db (Da fin)
  | exact Da (Db (Da fin))
  | exact Da fin
def Zcc {a:Addr} {y:V} {o:Option V} (I:Inv X pq σ H s) (g:DGet H a y o):s.TypeIs (.ref a) "dict":=by
 rcases g with ⟨kvs,k,e,_,_⟩ | ⟨kvs,k,b,e,_,_,_⟩
 ·obtain ⟨_,_,vs,_,dd⟩:=Zar I.hok e;exact dd.typeIs
 ·obtain ⟨_,_,xs,_,dd⟩:=Zcb I.hok e;exact dd.typeIs
def Zqa (td ty:TE):TE:=fun σ H Q=>td σ H fun x H1=>ty σ H1 fun y H2=>∃ a v,x=.ref a/\DGet H2 a y (some v)/\Q v H2
def tDIn (ty td:TE):TE:=fun σ H Q=>ty σ H fun y H1=>td σ H1 fun x H2=>∃ a o,x=.ref a/\DGet H2 a y o/\Q (.bl o.isSome) H2
def Zfs (ty td:TE):TE:=fun σ H Q=>ty σ H fun y H1=>td σ H1 fun x H2=>∃ a o,x=.ref a/\DGet H2 a y o/\Q (.bl (!o.isSome)) H2
def Zqt (td ty tv:TE):TS:=fun D σ H=>tv σ H fun v H1=>td σ H1 fun x H2=>ty σ H2 fun y H3=>∃ a H4,x=.ref a/\DPut H3 a y v H4/\D.nx σ H4
section
variable {o i:Expr} {td ty tv:TE}
def Vd (hu:X.A.units+1<cLine) (ho:PE X o td) (hi:PE X i ty) (hs:NoSl i):PE X (.Subscript o i pos) (Zqa td ty):=by
 intro pq s σ H Q I h;refine Zmy PySem.F.slot_dict_getitem.lookup hs (thn (ho pq s σ H _ I h) fun u s1 ⟨x,H1,I1,rx,q1⟩=>thn (hi pq s1 σ H1 _ I1 q1) fun iv s2 hz=>?_);obtain ⟨y,H2,I2,ry,a,v,ex,g,q2⟩:=hz;subst ex;obtain rfl:u=Value.ref a:=rx;exists Zcc I2 g,Zii hu I2 g ry fun w' s3 I3 rw'=>⟨v,H2,I3,rw',q2⟩
def Zl1 (hu:X.A.units+1<cLine) (hi:PE X i ty) (ho:PE X o td):PC X .In i o (tDIn ty td):=by
 intro pq s σ H Q I h;refine thn (hi pq s σ H _ I h) fun iv s1 ⟨y,H1,I1,ry,q1⟩=>thn (ho pq s1 σ H1 _ I1 q1) fun u s2 hz=>?_;obtain ⟨x,H2,I2,rx,a,ov,ex,g,q2⟩:=hz;subst ex;obtain rfl:u=Value.ref a:=rx;exact d_in hu I2 g ry fun s3 I3=>⟨.bl ov.isSome,H2,I3,rfl,q2⟩
def N6 (hu:X.A.units+1<cLine) (hi:PE X i ty) (ho:PE X o td):PC X .NotIn i o (Zfs ty td):=by
 intro pq s σ H Q I h;refine thn (hi pq s σ H _ I h) fun iv s1 ⟨y,H1,I1,ry,q1⟩=>thn (ho pq s1 σ H1 _ I1 q1) fun u s2 hz=>?_;obtain ⟨x,H2,I2,rx,a,ov,ex,g,q2⟩:=hz;subst ex;obtain rfl:u=Value.ref a:=rx;exact Zoy hu I2 g ry fun s3 I3=>⟨.bl (!ov.isSome),H2,I3,rfl,q2⟩
def Tx (hu:X.A.units+1<cLine) (ho:PE X o td) (hi:PE X i ty) (hv:PE X value tv) (hs:swapsWith value (some (.Subscript o i pos')) pos.line X.env=pure false) :
  PS X (.Assign [.Subscript o i pos'] value pos) (Zqt td ty tv):=by
 intro pq s σ H D I h;refine wpAny_Assign_Subscript (thn (hv pq s σ H _ I h) fun r s1 ⟨v,H1,I1,rv,q1⟩=>thn (ho pq s1 σ H1 _ I1 q1) fun u s2 ⟨x,H2,I2,rx,q2⟩=>thn (hi pq s2 σ H2 _ I2 q2) fun iv s3 hz=>?_) hs;obtain ⟨y,H3,I3,ry,a,H4,ex,g,q3⟩:=hz;subst ex;obtain rfl:u=Value.ref a:=rx;exact Zih hu I3 g ry rv fun s4 I4=>⟨σ,H4,I4,q3⟩
end
def Zdy {w:World} (h:Heap) (hb:sysModules<h.objs.size):Yw P w H (h.push { cls:=.type "dict",data:=.dict #[] }) h.objs.size (.dK []) :=
 ⟨Ge _,beq_eq_false_iff_ne.mpr (Ne.symm (Gg hb)),[],.nil,Heap.DictOf.new h⟩
def Zdx {w:World} (h:Heap) (hb:sysModules<h.objs.size):Yw P w H (h.push { cls:=.type "dict",data:=.dict #[] }) h.objs.size (.dT []) :=
 ⟨Ge _,beq_eq_false_iff_ne.mpr (Ne.symm (Gg hb)),[],.nil,_,#[],0,De _ rfl,⟨rfl,rfl,rfl⟩,rfl,rfl,Bd⟩
def Zli:TE:=fun _ H Q=>∀ p,H p=none->Q (.ref p) (upd H p (.dK []))
def Zlh:TE:=fun _ H Q=>∀ p,H p=none->Q (.ref p) (upd H p (.dT []))
section
def Sw:PE X (.Dict [] [] pos) Zli:=fun pq s σ H Q I h =>
 wpAny_Dict_empty ⟨.ref s.heap.objs.size,_,I.laid (a:=s.heap.objs.size) (o:=.dK []) (t':=s.toks) (fun _ _ q=>Dd _ q) (Je _) (Zdy s.heap I.big),rfl,h _ (I.hok.fresh (Je _))⟩
def Zdd:PE X (.Dict [] [] pos) Zlh:=fun pq s σ H Q I h =>
 wpAny_Dict_empty ⟨.ref s.heap.objs.size,_,I.laid (a:=s.heap.objs.size) (o:=.dT []) (t':=s.toks) (fun _ _ q=>Dd _ q) (Je _) (Zdx s.heap I.big),rfl,h _ (I.hok.fresh (Je _))⟩
end
structure M1 (X:Cx) (o:Expr) (m:Str) (apos:Pos) (e:Expr) (cpos:Pos):Prop where
 base:attributeBase o m X.env (eval o X.env)=eval o X.env
 few:((backTo cpos (starEach [e] X.env)).all (fun x=>!x.1) && (backToKw cpos (keywordEach [] X.env)).all (fun x=>x.1.isSome)
  && decide (([e]:List Expr).length+([]:List Keyword).length+(if ([]:List Keyword).isEmpty then 0 else 1)<30))=true
 line:(apos.endLine == cpos.line)=true
 trees:backTo cpos (starEach [e] X.env)=[(false,eval e X.env)]
structure M2 (X:Cx) (o:Expr) (m:Str) (apos:Pos) (e f:Expr) (cpos:Pos):Prop where
 base:attributeBase o m X.env (eval o X.env)=eval o X.env
 few:((backTo cpos (starEach [e,f] X.env)).all (fun x=>!x.1) && (backToKw cpos (keywordEach [] X.env)).all (fun x=>x.1.isSome)
  && decide (([e,f]:List Expr).length+([]:List Keyword).length+(if ([]:List Keyword).isEmpty then 0 else 1)<30))=true
 line:(apos.endLine == cpos.line)=true
 trees:backTo cpos (starEach [e,f] X.env)=[(false,eval e X.env),(false,eval f X.env)]
def IsD (H:Hp) (a:Addr):Prop:=(∃ kvs,Rd H a (.dK kvs))\/∃ kvs,Rd H a (.dT kvs)
def Zrt {a:Addr} (I:Inv X pq σ H s) (d:IsD H a) :
  s.TypeIs (.ref a) "dict"/\(∀ b,Value.ref a=.ref b->∃ ob,s.heap.get? b=some ob/\ob.dict=none)/\(a == sysModules)=false:=by
 rcases d with ⟨kvs,e⟩ | ⟨kvs,e⟩
 ·obtain ⟨_,hd,vs,_,dd⟩:=Zar I.hok e;exists dd.typeIs,fun b q=>?_,hd;cases q;obtain ⟨ob,_,_,h1,h2,_⟩:=dd;exists ob,h1,h2.2.1
 ·obtain ⟨_,hd,xs,_,dd⟩:=Zcb I.hok e;exists dd.typeIs,fun b q=>?_,hd;cases q;obtain ⟨ob,_,_,h1,h2,_⟩:=dd;exists ob,h1,h2.2.1
section
variable {a:Addr} {y:V} {u:Value} {o:Option V} 
def Zr8 {Q:Value->Shared->Prop} (hu:A.units+1<cLine) (I:Inv X pq σ H s) (g:DGet H a y o) (ry:RelV y u) (h:∀ w' s',Inv X pq σ H s'->RelV (o.getD .non) w'->Q w' s') :
  wpAny (model X.prog X.w) A (call (.builtin "dict.get") [.ref a,u]) Q E s:=by
 rcases g with ⟨kvs,k,e,ey,l⟩ | ⟨kvs,k,b,e,ey,eb,l⟩
 ·subst ey;obtain ⟨z,hd,vs,rel,dd⟩:=Zar I.hok e;refine call_meetsIn PySem.F.slot_dict_get dd.typeIs PySem.F.entry_dict_get (PySem.F.args_dict_get_2 _ _) (meets_dict_get (Yz X.prog X.w) a (Zb3 ry) hd) ⟨_,dd.mapOf,h _ _ (I.tok _) ?_⟩;rw [l];exact (rel.val k).getD rfl
 ·subst ey;cases (show u=Value.ref b from ry);obtain ⟨z,hd,xs,rel,dd⟩:=Zcb I.hok e;refine call_meetsIn PySem.F.slot_dict_get dd.typeIs PySem.F.entry_dict_get (PySem.F.args_dict_get_2 _ _) (meetsH_dict_get (tupleKind (Yz X.prog X.w)) a b hd) ⟨tupleKind_room_in1 hu,k,xs,Rp I.hok eb,dd,h _ _ (I.tok _) ?_⟩;rw [l];exact (rel.val k).getD rfl
end
def Zp9 (td ty:TE):TE:=fun σ H Q=>td σ H fun x H1=>∃ a,x=.ref a/\IsD H1 a/\ty σ H1 fun y H2=>∃ o,DGet H2 a y o/\Q (o.getD .non) H2
section
variable {o e:Expr} {cpos:Pos} {td ty:TE}
def Zde (hu:X.A.units+1<cLine) (ho:PE X o td) (he:PE X e ty) (m:M1 X o "get" apos e cpos):PE X (.Call (.Attribute o "get" apos) [e] [] cpos) (Zp9 td ty):=by
 intro pq s σ H Q I h;refine wpAny_Call_method m.base m.few m.line PySem.F.plainAttrs_dict PySem.F.slot_dict_get PySem.F.type_dict_get (thn (ho pq s σ H _ I h) fun u s1 hz=>?_);obtain ⟨x,H1,I1,rx,a,ex,d,q1⟩:=hz;subst ex;obtain rfl:u=Value.ref a:=rx;obtain ⟨t1,t2,_⟩:=Zrt I1 d;exists t1,t2,?_;rw [m.trees];refine Calls.callWith_builtin rfl (Calls.evalArgs_plain (Calls.spliced_cons (thn (he pq s1 σ H1 _ I1 q1) fun iv s2 ⟨y,H2,I2,ry,ov,g,q2⟩=>Calls.spliced_nil ?_)));exact Zr8 hu I2 g ry fun w' s3 I3 rw'=>⟨_,H2,I3,rw',q2⟩
end
end L2
namespace Att
open PySem PySem.W PySem.Calls PyProof.Rows
theorem Rs {P:Params} :∀ (ns:List Int) (vs:List Value),WellAll P h vs (ns.map WData.int)->IntsAre vs ns:=by
 intro ns
 induction ns with
 | nil =>
  intro vs w;rw [List.map_nil] at w;cases w;exact .nil
 | cons n ns ih =>
  intro vs w;rw [Jl] at w;cases w with
  | cons a b =>
   cases a;exact .cons _ _ (ih _ b)
theorem Zf8 {l:OpenLaw} {n:Nat} (hn:l.most=some n) {P:Params} {args:List WData} {vals:List Value}
  (hpre:l.row.toRowW.claim.pre args=true) (hwl:WellAll P h vals args) :
  ∃ a vs ns,vals=[Value.ref a]/\args=[WData.list (ns.map WData.int)]/\h.get? a=some { cls:=.type "list",data:=.seq vs.toArray }/\IntsAre vs ns/\ns.length<=n:=by
 have hsh:WShape.hasAll [] args [.list .int]=true:=(pre_splitW hpre).1;have hc:l.pre.holds [] { args:=args }=true:=(pre_splitW hpre).2;obtain ⟨d,r,rfl,h1,h2⟩:=hasAllW_cons hsh;obtain rfl:=hasAllW_nil h2;obtain ⟨xs,rfl,h3⟩:=hasW_list h1;obtain ⟨ns,rfl⟩:=items_int h3;have hlen:ns.length<=n:=by
  unfold OpenLaw.pre at hc;have h4:(WTm.not (.lt (.lit (.int (n:Int))) (.len (.arg 0)))).holds [] { args:=[.list (ns.map .int)] }=true:=by
   have h4:=(holds_andW hc).1;rw [hn] at h4;exact h4
  have h5:=condW_of h4 (w_not (w_lt w_lit (w_len_list (w_arg rfl))));rw [Jb] at h5;refine Nat.le_of_not_lt fun q=>?_;have q':(n:Int)<((ns.length:Nat):Int):=by lia
  first
   | (rw [Di q'] at h5; exact absurd h5 nofun)
   | (simp at h5; lia)
 cases hwl with
 | cons w1 w2 =>
  cases w2;cases w1 with
  | list ho hall=>exact ⟨_,_,ns,rfl,rfl,ho,Rs ns _ hall,hlen⟩
def Zgw (l:OpenLaw) (args:List WData):l.row.toRowW.claim.post args (.bool true) args=true :=
 postW_of (r:=l.row.toRowW) (X:=(true == true))
  (show WShape.has [] (.bool true) .bool=true by first | rfl | decide | simp [WShape.has,WShape.arms,WShape.armsAll])
  (show (WTm.eq .res (.lit (.bool true))).value [] { args:=args,res:=some (.bool true),after:=args }=some (.bool (true == true)) from w_eq_bool (w_res rfl) w_lit) rfl
def attach_call {l:OpenLaw} {n:Nat} {q:Program} {loose:List Str} {XP:(Str->Option Value)->Heap->Prop} {YP:World->Heap->Prop} {d:DefRec}
  (hn:l.most=some n) (hdf:d.params.defaults=[])
  (call:∀ (w:World) (s₀ s₁:Shared) (mg mb:Str->Option Value) (fa:Addr) (o:Obj) (pm cd doc:Value) (a:Addr) (vs:List Value) (ns:List Int),
   Ground q loose [] XP w s₀ mg mb s₁.heap->YP w s₁.heap ->
   s₁.heap.get? fa=some o->o.data=.func (docDef d.name d.params d.body d.scope pm cd doc)->s₁.heap.CodeRec cd d.name->mg d.name=some (.ref fa) ->
   s₁.heap.get? a=some { cls:=.type "list",data:=.seq vs.toArray }->IntsAre vs ns->ns.length<=n->s₁.gens=#[] ->
   codeAny (model l.prog w) callerA (.call (.ref fa) ⟨[.ref a],[]⟩) (fun r s'=>r=.ok (.ret (.bool true))/\OldK s₁.heap s'.heap/\s'.os=s₁.os/\AllBare s'.gens) s₁) :
  WalkO q loose XP YP l.row.toRowW d [] (fun f vs=>PySem.call f vs):=by
 intro w s₀ s₁ mg mb G Y fa o pm cd doc dV kV ho hd hcd hD hmg hg args vals as hpre hlay hrd hwl hlo;obtain rfl:dV=.none:=Dflts.none hD hdf;obtain rfl:kV=.none:=Dflts.noKw hD;obtain ⟨a,vs,ns,rfl,rfl,hobj,hints,hlen⟩:=Zf8 hn hpre hwl;refine enter_call (codeAny_mono (call w s₀ s₁ mg mb fa o pm cd doc a vs ns G Y ho (fd_plain hd) hcd hmg hobj hints hlen hg) fun r s' hq=>?_);obtain ⟨rfl,h2,h3,h4⟩:=hq;exists .inl ⟨.bool true,.bool true,[],rfl,fun _=>rfl,.bool true,Zgw l _,fun _=>⟨List.Pairwise.nil,fun _ hm=>(nomatch hm)⟩⟩,h2,h3,h4
end Att
namespace L2
open PySem PySem.Spec PyProof.Rows
theorem Nl:∀ {vs:List Value} {ns:List Int},IntsAre vs ns->Vals (ns.map V.int) vs:=by
 intro _ _ hz9;cases hz9 with
 | nil=>
  exact .nil
 | cons n t h=>
  exact .cons ⟨t,rfl⟩ (Nl h)
def Wx (s:Stmt) (j:Nat):Stmt:=match s with
 | .ClassDef _ _ _ body _ _ _ _ _ _ _=>body.getD j (.Pass ⟨0,0,0,0⟩)
 | _=>.Pass ⟨0,0,0,0⟩
def Zv (s:Stmt):Arguments:=match s with
 | .FunctionDef _ a _ _ _ _ _ _ _ _=>a
 | _=>{ posonlyargs:=[],args:=[],vararg:=none,kwonlyargs:=[],kw_defaults:=[],kwarg:=none,defaults:=[] }
def Zu (s:Stmt):List Stmt:=match s with
 | .FunctionDef _ _ b _ _ _ _ _ _ _=>b
 | _=>[]
def Zh (s:Stmt):Scope:=match s with
 | .FunctionDef _ _ _ _ _ _ sc _ _ _=>sc
 | _=>{ kind:=.function,names:=[],isGenerator:=false,isCoroutine:=false }
abbrev CX0:CXT:=fun _ _ _ _ _ _=>False
abbrev E0:XK:=fun _ _ _=>False
def Zg4 :Sj CX0 X E0:=fun _ _ _ _ _ _ _ h=>h.elim
structure Fun (K:W.Frag) (x qual:Str) (st:Stmt) (f:Addr) (fd:FuncData):Prop where
 ex:∃ (oc:Value) (od:Option Addr) (kV doc pm:Value) (an:Option Addr) (cdv ct:Value) (osl:Array (Option Value)),
  fd=W.fnOf x qual (Zv st) (Zu st) (Zh st) .none kV doc pm an cdv ct/\K.lookup f=some ⟨oc,od,.func fd,osl⟩/\W.codeIn K cdv qual=true
 kp:W.keepIn K (.ref f)=true
section
variable {w:World} {base:Heap}
def Fun.ok {x:Str} {f:Addr} {k:Nat} (F:Fun K x qual st f fd) (S:FnScope N ps (Zh st)) (len:∀ vs H Q E,sp vs H Q E->vs.length=ps.length)
  (hbody:∀ (cdv:Value) (A:Around) (outer:List Env) (s:Shared) (H:Hp) (vs:List V) (Q:VK) (E:XK),Room k (A.deeper (envOfC qual (Zh st) s.heap.objs.size f cdv))->sp vs H Q E ->
   ∃ t,PSs (cxOf CX0 P w K mg base N qual (Zh st) f cdv A outer s H E).nox (Zu st) t/\t { nx:=fun _ H'=>Q .non H',rt:=Q } (Uz N vs) H):FnOk P w K mg base CX0 (k+1) f fd ps sp:=by
 obtain ⟨oc,od,kV,doc,pm,an,cdv,ct,osl,rfl,lk,hcd⟩:=F.ex;refine Zoq lk hcd S len fun A outer s H vs Q E hr hsp=>?_;obtain ⟨t,h,q⟩:=hbody cdv A outer s H vs Q E hr hsp;exists t,h.nox,q
def Fun.binds {x:Str} {f:Addr} (F:Fun K x qual st f fd)
  (h:∀ (kV doc pm:Value) (an:Option Addr) (cdv ct:Value) (us:List Value),us.length=ps.length->bindArgs (W.fnOf x qual (Zv st) (Zu st) (Zh st) .none kV doc pm an cdv ct) ⟨us,[]⟩=pure (ps.zip us)):Vn K fd ps []:=by
 obtain ⟨oc,od,kV,doc,pm,an,cdv,ct,osl,rfl,lk,hcd⟩:=F.ex;exact .all (h kV doc pm an cdv ct)
def Yb {x:Str} {f:Addr} {oc:Value} {od an:Option Addr} {osl:Array (Option Value)} {kV doc cdv ct:Value} (l:K.lookup f=some ⟨oc,od,.func (W.fnOf x qual (Zv st) (Zu st) (Zh st) .none kV doc pm an cdv ct),osl⟩)
  (c:W.codeIn K cdv qual=true) (k:W.keepIn K (.ref f)=true):Fun K x qual st f (W.fnOf x qual (Zv st) (Zu st) (Zh st) .none kV doc pm an cdv ct):=⟨⟨oc,od,kV,doc,pm,an,cdv,ct,osl,rfl,l,c⟩,k⟩
end
def Wz {k:Nat} (hr:Room k A):A.units+1<cLine:=Be (Nat.add_le_add_left (by decide:1<=64) _) hr.units
section
def pv (i:Nat) {x:Str} (hN:X.N[i]?=some x:=by rfl) (hv:Vis X.env.scope x:=by first | exact Or.inl rfl | exact Or.inr (Or.inl rfl) | exact Or.inr (Or.inr rfl)) (hd:(x == ("__debug__":Str))=false:=by decide)
  (hcd:(x == ("__classdict__":Str))=false:=by decide):PE X (.Name x pos) (tVar i):=Zq4 hN hv hd hcd
end
def iteF {A:Prop} (h:B):if false=true then A else B:=by
 rw [Dg Ju];exact h
def iteT {A:Prop} (h:A):if true=true then A else B:=by
 rw [Dh rfl];exact h
def ite2 {c A:Prop} [Decidable c] (h1:c->A) (h2:¬ c->B):if c then A else B:=by
 by_cases h:c
 ·rw [Dh h];exact h1 h
 ·rw [Dg h];exact h2 h
def Zrq {c A:Prop} [Decidable c] (hc:c) (h:B):if (!decide c)=true then A else B:=by
 rw [Di hc];exact iteF h
def Same (H H':Hp):Prop:=∀ b o,H b=some o->H' b=some o
def Same.refl (H:Hp):Same H H:=fun _ _ h=>h
def Same.trans (a:Same H H1) (b:Same H1 H2):Same H H2:=fun c o h=>b c o (a c o h)
theorem Same.free (e:Same H H') (h:H' l=Option.none):H l=Option.none:=by
 cases q:H l with
 | none=>rfl
 | some o =>
  rw [e l o q] at h;cases h
def Same.seq {a:Addr} (e:Same H H') (h:SqL K H a xs):SqL K H' a xs:=by
 rcases h with (h | ⟨o,h⟩) | h
 ·exact .inl (.inl (e _ _ h))
 ·exact .inl (.inr ⟨o,e _ _ h⟩)
 ·exact .inr h
end L2
namespace L2
open PySem
def Wq (cells:List (Str×Addr)):List (Str×NameKind)->List (Str×Addr)->List (Str×Addr)
 | [],acc=>acc
 | (n,k)::r,acc=>if k == .free then Wq cells r ((n,(cells.lookup n).getD 0)::acc) else Wq cells r acc
def Zit (env:Env) (l:List (Str×NameKind)) (acc:List (Str×Addr)):Sem (List (Str×Addr)):=do
 let mut cs:=acc
 for (name,kind) in l do
  if kind == .free then cs:=(name,<- cellOf env name)::cs
 return cs
theorem Q6 {env:Env}:∀ (l:List (Str×NameKind)) (acc:List (Str×Addr)),(∀ y∈l,y.2=.free->∃ c,env.cells.lookup y.1=some c) ->
  Zit env l acc=pure (Wq env.cells l acc)
 | [],acc,_=>rfl
 | (n,k)::r,acc,h=>by
  have ih:=fun acc=>Q6 r acc fun y hy=>h y (Jk _ hy);unfold Zit at ih ⊢;rw [Wq];cases hk:(k == NameKind.free) with
  | false =>
   simp only [List.forIn_cons,hk,G3,if_false,pure_bind] at ih ⊢;exact ih acc
  | true =>
   obtain ⟨c,hc⟩:=h (n,k) Jm (by simpa using hk);have hc':env.cells.lookup n=some c:=hc;simp only [List.forIn_cons,hk,if_true,cellOf,hc',pure_bind,Option.getD_some] at ih ⊢;exact ih _
def Q5 {scope:Scope} {env:Env} (h:∀ y∈scope.names,y.2=.free->∃ c,env.cells.lookup y.1=some c):closureFor scope env=pure (Wq env.cells scope.names []) :=
 Q6 scope.names [] h
theorem U5 {cells:List (Str×Addr)} {x:Str} {c:Addr}:∀ {l:List (Str×NameKind)} {acc:List (Str×Addr)},(∀ y∈l,y.2=.free->∃ c,cells.lookup y.1=some c) ->
  (Wq cells l acc).lookup x=some c->acc.lookup x=some c\/cells.lookup x=some c
 | [],acc,_,h=>.inl h
 | (n,k)::r,acc,hl,h=>by
  rw [Wq] at h
  by_cases hk:(k == NameKind.free)=true
  ·rw [Dh hk] at h;obtain ⟨c',hc⟩:=hl (n,k) Jm (by simpa using hk);have hc':cells.lookup n=some c':=hc;rcases U5 (fun y hy=>hl y (Jk _ hy)) h with z | z
   ·rw [G7,hc'] at z;cases hx:(x == n) with
    | true =>
     rw [hx] at z;have e:x=n:=by simpa using hx
     subst e;have z':c'=c:=by simpa using z
     subst z';exact .inr hc'
    | false=>rw [hx] at z; exact .inl z
   ·exact .inr z
  ·rw [Dg hk] at h;exact U5 (fun y hy=>hl y (Jk _ hy)) h
theorem V1 {cells:List (Str×Addr)} {x:Str}:∀ {l:List (Str×NameKind)} {acc:List (Str×Addr)},(∃ c,acc.lookup x=some c)->∃ c,(Wq cells l acc).lookup x=some c
 | [],acc,h=>h
 | (n,k)::r,acc,h=>by
  rw [Wq]
  by_cases hk:(k == NameKind.free)=true
  ·rw [Dh hk];refine V1 ?_;rw [G7];cases hx:(x == n) with
   | true=>exact ⟨_,rfl⟩
   | false=>exact h
  ·rw [Dg hk];exact V1 h
theorem Uq {cells:List (Str×Addr)} {x:Str}:∀ {l:List (Str×NameKind)} {acc:List (Str×Addr)},(x,NameKind.free)∈l->∃ c,(Wq cells l acc).lookup x=some c
 | [],acc,h=>nomatch h
 | (n,k)::r,acc,h=>by
  rw [Wq];rcases Jq.mp h with e | h
  ·cases e;rw [Dh (by rfl)];refine V1 ?_;rw [G7,beq_self_eq_true];exists ·
  ·by_cases hk:(k == NameKind.free)=true
   ·rw [Dh hk]; exact Uq h
   ·rw [Dg hk]; exact Uq h
def Vv {scope:Scope} {env:Env} (nc:∀ y∈scope.names,y.2≠.cell) {x:Str} (h:(relabel scope env).names.lookup x=some .cell\/(relabel scope env).names.lookup x=some .free):(x,NameKind.free)∈scope.names:=by
  have go:∀ (l:List (Str×NameKind)),(∀ y∈l,y.2≠.cell) ->
      ((l.map fun (n,k)=>if (k == NameKind.free && env.scope.kind == .function && env.kindOf n == some .cell) then (n,NameKind.cell) else (n,k)).lookup x=some .cell \/
       (l.map fun (n,k)=>if (k == NameKind.free && env.scope.kind == .function && env.kindOf n == some .cell) then (n,NameKind.cell) else (n,k)).lookup x=some .free)->(x,NameKind.free)∈l:=by
    intro l
    induction l with
    | nil=>intro _ h; rcases h with h | h <;> cases h
    | cons a r ih =>
      obtain ⟨n,k⟩:=a;intro nc h;have nck:k≠.cell:=nc (n,k) Jm;simp only [Jl] at h
      by_cases hx:(x == n)=true
      · have e:x=n:=by simpa using hx
        subst e
        by_cases hk:k=.free
        · subst hk; exact Jm
        · have hb:(k == NameKind.free)=false:=by simpa using hk
          simp only [hb,Bool.false_and,G3,if_false,G7,beq_self_eq_true] at h;rcases h with h | h
          · exact absurd (Dl h) nck
          · exact absurd (Dl h) hk
      · have hx':(x == n)=false:=by simpa using hx
        refine Jk _ (ih (fun y hy=>nc y (Jk _ hy)) ?_);have el:∀ (p:Str×NameKind) (t:List (Str×NameKind)),p.1=n->(p::t).lookup x=t.lookup x:=by
          intro p t e;obtain ⟨a,b⟩:=p;have e':a=n:=e;subst e';rw [G7,hx']
        rw [el _ _ (by split <;> rfl)] at h;exact h
  exact go scope.names nc h
def Tg {scope:Scope} {env:Env} {x:Str} (h:(relabel scope env).names.lookup x=some .local):scope.names.lookup x=some .local:=by
 have go:∀ (l:List (Str×NameKind)),
   (l.map fun (n,k)=>if (k == NameKind.free && env.scope.kind == .function && env.kindOf n == some .cell) then (n,NameKind.cell) else (n,k)).lookup x=some .local->l.lookup x=some .local:=by
  intro l
  induction l with
  | nil=>intro h; cases h
  | cons a r ih =>
   obtain ⟨n,k⟩:=a;intro h;simp only [Jl] at h
   by_cases hx:(x == n)=true
   ·have e:x=n:=by simpa using hx
    subst e
    by_cases hc:(k == NameKind.free && env.scope.kind == .function && env.kindOf x == some .cell)=true
    ·rw [Dh hc,G7,beq_self_eq_true] at h;cases h
    ·rw [Dg hc,G7,beq_self_eq_true] at h;rw [G7,beq_self_eq_true];exact h
   ·have hx':(x == n)=false:=by simpa using hx
    have el:∀ (p:Str×NameKind) (t:List (Str×NameKind)),p.1=n->(p::t).lookup x=t.lookup x:=by
     intro p t e;obtain ⟨a,b⟩:=p;have e':a=n:=e;subst e';rw [G7,hx']
    rw [el _ _ (by split <;> rfl)] at h;rw [el _ _ rfl];exact ih h
 exact go scope.names h
end L2
namespace L2
open PySem PySem.Spec PyProof.Rows
def nbOf (N T:List Str) (cs:List Nat):List Str:=T++cs.map fun i=>N.getD i Str.empty
def sgOf (σ:St) (T:List Str) (cs:List Nat):St:=T.map (fun _=>none)++cs.map fun i=>σ.getD i none
structure CScope (outer scope:Scope) (N T:List Str) (cs:List Nat):Prop where
 kind:scope.kind=.function
 nocell:∀ y∈scope.names,y.2≠.cell
 names:∀ y∈scope.names,y.2=.local->scope.names.lookup y.1=some .local
 free:∀ y∈scope.names,y.2=.free->outer.names.lookup y.1=some .cell\/outer.names.lookup y.1=some .free
 cap:∀ i∈cs,scope.names.lookup (N.getD i Str.empty)≠some .local
def Zir (outer scope:Scope) (N:List Str) (cs:List Nat):Bool :=
 decide (scope.kind=.function) && (scope.names.all (fun y=>!decide (y.2=NameKind.cell)) && (scope.names.all (fun y=>!decide (y.2=NameKind.local) || decide (scope.names.lookup y.1=some NameKind.local)) &&
  (scope.names.all (fun y=>!decide (y.2=NameKind.free) || (decide (outer.names.lookup y.1=some NameKind.cell) || decide (outer.names.lookup y.1=some NameKind.free))) && cs.all (fun i=>!decide (scope.names.lookup (N.getD i Str.empty)=some NameKind.local)))))
def CScope.ok {outer scope:Scope} (h:Zir outer scope N cs=true):CScope outer scope N T cs:=by
 unfold Zir at h;simp only [Fe,List.all_eq_true,Bool.or_eq_true,decide_eq_true_eq,Bool.not_eq_true',decide_eq_false_iff_not] at h;obtain ⟨h1,h2,h3,h4,h5⟩:=h;exists h1,h2,fun y hy e=>(h3 y hy).resolve_left (fun q=>q e),fun y hy e=>(h4 y hy).resolve_left (fun q=>q e),h5
def Xx {l:List Str} (h:decide l.Nodup=true):l.Nodup:=of_decide_eq_true h
def blk (X:Cx) (T:List Str) (cs:List Nat) (scope:Scope) (C:Addr) (s₀:Shared) (H₀:Hp) (ex:List Addr):Cx where
 prog:=X.prog
 w:=X.w
 K:=X.K
 mg:=X.mg
 base:=X.base
 A:=X.A
 N:=nbOf X.N T cs
 s₀:=s₀
 H₀:=H₀
 env:=compEnvC scope (Wq X.env.cells scope.names []) C X.env
 outer:=X.stack
 stack:=X.stack
 ex:=ex
 fn:=fun _=>false
 calm:=X.calm
 pn:=[]
 xe:=fun _ _=>False
section
variable {scope:Scope} 
def Inv.hl (I:Inv X pq σ H s) (S:CScope X.env.scope scope X.N T cs):∀ y∈scope.names,y.2=.free->∃ c,X.env.cells.lookup y.1=some c :=
 fun y hy e=>I.ok.has y.1 (S.free y hy e)
def Inv.clo (I:Inv X pq σ H s) (S:CScope X.env.scope scope X.N T cs) {x:Str} {c:Addr} (h:(Wq X.env.cells scope.names []).lookup x=some c):X.env.cells.lookup x=some c :=
 (U5 (I.hl S) h).resolve_left (by simp)
theorem Zoj (I:Inv X pq σ H s) (S:CScope X.env.scope scope X.N T cs) (hf:∀ b∈fp,FpOk X pq H b) (hfe:∀ b∈fp,∃ o,s.heap.get? b=some o) {h1:Heap} {m:Str->Option Value} {tk:Nat}
  (hC:s.heap.objs.size<=C) (ns:h1.Ns C m) (k:∀ b o,s.heap.get? b=some o->h1.get? b=some o) :
  Inv (blk X T cs scope C s H fp) [] (sgOf σ T cs) H { s with heap:=h1,toks:=tk }:=by
 have fr:H C=none:=I.hok.fresh hC;have cellS:∀ {c:Addr} {v:Option Value},s.heap.IsCell c v->h1.IsCell c v:=fun ⟨o,e,d⟩=>⟨o,k _ o e,d⟩;refine ⟨⟨I.ok.mod,S.kind,I.ok.glob,I.ok.blt,hC,fun x y c e1 e2=>I.ok.inj x y c (I.clo S e1) (I.clo S e2),fun x hx=>Uq (Vv S.nocell hx),fun x c h _=>absurd (show false=true from h) Ju,
  I.ok.hd,I.ok.frames,.inl rfl,fun b hb=>⟨?_,fun x c e=>(hf b hb).2.2.2.2.1 x c (I.clo S e)⟩,I.bs,Jv I.ok.bsz I.sz,fun b o e hb=>?_,fun b hb z=>?_,I.stack,I.stkFree⟩,
  rfl,I.bare,Un.kept k,⟨m,ns,fun i x v h1' h2' h3'=>?_⟩,fun x c e=>?_,fr,fun x c e=>I.freeC x c (I.clo S e),fun p hp=>absurd (show p∈([]:List (Addr×Obj)) from hp) (by simp),I.hok.kept k,?_⟩
 ·obtain ⟨o,e⟩:=hfe b hb;exact Gg (Ga (Df e) hC)
 ·rcases (hf b hb).2.2.2.1 with z | z
  ·exact I.ok.noex b o e z
  ·exact absurd (Ga (Ga (Df e) I.ok.bsz) z) (Bi _)
 ·rcases Jq.mp (I.stkSub b z) with e | e
  ·exact (hf b hb).2.1 e
  ·exact (hf b hb).2.2.1 e
 ·have h2:(sgOf σ T cs)[i]?=some (some v):=h2';have h1'':(nbOf X.N T cs)[i]?=some x:=h1';unfold sgOf at h2;unfold nbOf at h1''
  by_cases hi:i<T.length
  ·rw [Jr (by simpa using hi),J9] at h2;cases e:T[i]? with
   | none=>rw [e] at h2; cases h2
   | some a=>rw [e] at h2; cases h2
  ·rw [J8 (by simpa using hi),J9,Jb] at h2;rw [J8 (by lia),J9] at h1'';cases e:cs[i-T.length]? with
   | none=>rw [e] at h2; cases h2
   | some c0 =>
    rw [e] at h2 h1'';have ex:X.N.getD c0 Str.empty=x:=Dl h1'';have ev:σ.getD c0 none=some v:=Dl h2;have eσ:σ[c0]?=some (some v):=by
     rw [Gn] at ev;cases q:σ[c0]? with
     | none=>rw [q] at ev; cases ev
     | some z=>rw [q] at ev; exact congrArg some ev
    have hlt:c0<X.N.length:=by
     have:=(Jh.mp eσ).1;rw [I.len] at this;exact this
    have eN:X.N[c0]?=some x:=by
     rw [Gn,Ja hlt] at ex;rw [Ja hlt];exact congrArg some ex
    have hfree:(x,NameKind.free)∈scope.names:=by
     rcases h3' with z | z | z
     ·exact absurd (Tg z) (by rw [<- ex]; exact S.cap c0 (Gu e))
     ·exact Vv S.nocell (.inl z)
     ·exact Vv S.nocell (.inr z)
    have ok:=S.free _ hfree rfl;obtain ⟨m',hn',hl'⟩:=I.loc;obtain ⟨u,r,l⟩:=hl' c0 x v eN eσ (.inr ok);exists u,r,?_;rcases l with ⟨kd,_⟩ | ⟨_,c,ec,z⟩
    ·have kd':X.env.scope.names.lookup x=some .local:=kd;rcases ok with q | q <;> (rw [show X.env.scope.names.lookup x=_ from q] at kd'; cases kd')
    ·obtain ⟨c',ec'⟩:=Uq (cells:=X.env.cells) (acc:=[]) hfree;have:c'=c:=by
      have q:=I.clo S ec';rw [ec] at q;exact (Dl q).symm
     subst this;refine .inr ⟨?_,c',ec',cellS z⟩;rcases h3' with q | q | q
     ·exact absurd (Tg q) (by rw [<- ex]; exact S.cap c0 (Gu e))
     ·exact .inl q
     ·exact .inr q
 ·obtain ⟨v,z⟩:=I.cell x c (I.clo S e);exists v,cellS z
 ·show (sgOf σ T cs).length=(nbOf X.N T cs).length;simp [sgOf,nbOf]
def Inv.track {D:Addr} {n:Nat} (I:Inv X pq σ H s) (hD:s.heap.get? D=some { cls:=.type "list",data:=.seq its.toArray n }) (f:FpOk X pq H D) (rv:Vals ys its) (hz:ys.length<=sizeLine) :
  Inv X pq σ (upd H D (.lst ys)) s:=by
 obtain ⟨f0,f1,f2,f3,f4,f5⟩:=f;have hok:HOk X.prog X.w (upd H D (.lst ys)) s.heap:=fun b u e=>by
  by_cases hb:b=D
  ·subst hb;rw [Zd] at e;cases e;exists hz,its,n,rv,hD
  ·rw [Zl hb] at e;exact (I.hok b u e).stay (fun _ _ _ q=>q) (fun c q=>by rw [Zl (Zp q f0)]; exact q) fun c xs q=>by rw [Zl (Zp q f0)]; exact q
 have st:=I.step (H':=upd H D (.lst ys)) (h':=s.heap) (g':=s.gens) (t':=s.toks) (d':=s.drawn) (ch:=[D])
  (fun b hb=>by
   have e:b=D:=by simpa using hb
   subst e;exact ⟨f3,f1,f4,f5⟩)
  (fun b o _ _ _ e _=>e) (fun b o _ _ _ e _=>⟨o.slots,e⟩) (fun b o hc e n=>by rw [Zl (fun z=>hc (by simp [z]))]; exact n) (fun b o _ e=>⟨o,e⟩)
  (fun b xs e=>by rw [Zl (Zp e f0)]; exact e) (fun b o u e=>by rw [Zl (Zp e f0)]; exact e) (fun b ps e=>⟨#[],by rw [Zl (Zp e f0),e]; simp⟩) (fun m h=>h) hok I.bare
 exact st
end
section
variable {w:World} {R:Result->Shared->Prop} 
abbrev Zfm (ifs:List Expr) (env:Env):Sem Bool:=forIn ifs true fun c r=>if r=true then do let ok <- isTrue c env (eval c env); pure (ForInStep.yield ok) else pure (ForInStep.yield r)
theorem Zax {elt target iter:Expr} {ifs:List Expr} {scope:Scope} {it acc:Value} {env:Env} (I:Nat->Shared->Prop)
  (turn:∀ n s,I n s->wpAny (model prog w) A (pyNext it) (fun r s₁=>match r with
   | none=>R (.ok .next) s₁
   | some v=>wpAny (model prog w) A (letOwnedTupleGo target it v) (fun _ s₂=>wpAny (model prog w) A (assign target env v) (fun _ s₃ =>
     wpAny (model prog w) A (Zfm ifs env) (fun ok s₄ =>
      if ok=true then wpAny (model prog w) A (eval elt env) (fun x s₅ =>
       wpAny (model prog w) A (call (.builtin "list.append") [acc,x]) (fun _ s₆=>∃ m,m<n/\I m s₆) (fun _ _=>False) s₅) (fun _ _=>False) s₄
      else ∃ m,m<n/\I m s₄) (fun _ _=>False) s₃) (fun _ _=>False) s₂) (fun _ _=>False) s₁) (fun _ _=>False) s)
  (n:Nat) (h:I n s) :
  codeAny (model prog w) A (.compLoop (.ListComp elt [⟨target,iter,ifs,0⟩] scope pos) 0 it acc env) R s:=by
 refine codeAny_loop rfl I (fun n s hI=>?_) n h;show wpAny _ A ((compTurn (.ListComp elt [⟨target,iter,ifs,0⟩] scope pos) 0 it acc env).onRaise (fun x=>do noteFrame x env; theTreesLotGoes x)) _ _ s;refine wpAny_noted ?_;rw [compTurn_list];refine Da (wpAny_standAt (Da (Dn (turn n s hI) (fun r s₁ h₁=>?_) fun _ _ h'=>False.elim h')));cases r with
 | none=>exact Db h₁
 | some v =>
  refine Da (Dn h₁ (fun _ s₂ h₂=>?_) fun _ _ h'=>False.elim h');refine Da (Dn h₂ (fun _ s₃ h₃=>Da (Dn h₃ (fun ok s₄ h₄=>?_) fun _ _ h'=>False.elim h')) fun _ _ h'=>False.elim h');cases ok with
  | false=>exact Db ⟨rfl,h₄⟩
  | true =>
   exact Da (Da (Dn h₄ (fun x s₅ h₅=>Da (Dn h₅ (fun _ s₆ h₆=>Db (Db ⟨rfl,h₆⟩)) fun _ _ h'=>False.elim h')) fun _ _ h'=>False.elim h'))
end
def PTs (X:Cx) (ifs:List Expr) (t:TT):Prop :=
 ∀ (pq:List (Addr×Obj)) (s:Shared) (σ:St) (H:Hp) (Q:Bool->Hp->Prop),Inv X pq σ H s->t σ H Q->wpAny (model X.prog X.w) X.A (Zfm ifs X.env) (TP X pq σ Q) X.xe s
def Zp2:TT:=fun _ H Q=>Q true H
def Xh :PTs X [] Zp2:=fun pq s σ H Q I h=>wpAny_tests_nil ⟨H,I,h⟩
def U0 {c:Expr} {t:TT} (hc:PT X c t):PTs X [c] t:=fun pq s σ H Q I h=>wpAny_tests_one (hc pq s σ H Q I h)
def Ag (n:Nat) (σ σ0:St):Prop:=σ.length=σ0.length/\∀ i,n<=i->σ[i]?=σ0[i]?
def Za8 (g:TG) (n:Nat):Prop:=∀ σ0 x σ H R,Ag n σ σ0->g x σ H R->g x σ H fun σ2 H2=>R σ2 H2/\Ag n σ2 σ0
def Ni (g:TGs) (n:Nat):Prop:=∀ σ0 xs σ H R,Ag n σ σ0->g xs σ H R->g xs σ H fun σ2 H2=>R σ2 H2/\Ag n σ2 σ0
theorem Ag.set {n i:Nat} {σ0:St} (a:Ag n σ σ0) (h:i<n) (v:Option V):Ag n (σ.set i v) σ0 :=
 ⟨by rw [Go]; exact a.1,fun j hj=>(Gk (by lia)).trans (a.2 j hj)⟩
def Y6 {i n:Nat} (h:i<n):Za8 (Zam i) n:=fun σ0 x σ H R a q=>⟨q,a.set h _⟩
def Rv {n:Nat}:Ni gNil n:=fun σ0 xs σ H R a q=>⟨q.1,q.2,a⟩
def Xz {i n:Nat} {u:TGs} (h:i<n) (h2:Ni u n):Ni (Zoo (Zam i) u) n:=fun σ0 xs σ H R a q=>by
 obtain ⟨v,r,e,q⟩:=q;exists v,r,e,h2 σ0 r _ _ _ (a.set h _) q
def Zal {m n:Nat} {t:TGs} (h:Ni t n):Za8 (gTup K m t) n:=fun σ0 x σ H R ag q=>by
 obtain ⟨a,xs,e,hq,hl,q⟩:=q;exists a,xs,e,hq,hl,h σ0 xs σ H R ag q
section
variable {scope:Scope} {elt iter:Expr} {ifs:List Expr} {tt:TT} 
theorem Zaw {RR:Value->Addr->Result->Shared->Prop} {Fin:List V->Hp->Prop} {J:It} {tn:Nat->Heap->Prop}
  (I:Inv X pq σ H s) (hc:X.calm=true) (S:CScope X.env.scope scope X.N T cs) (Tn:Turn X.prog X.w X.K tg J fp it tn) (st:tn 0 s.heap) (hf:∀ b∈fp,FpOk X pq H b)
  (hg:∀ C s₀ H₀ ex,PG (blk X T cs scope C s₀ H₀ ex) tg g) (ht:∀ C s₀ H₀ ex,PTs (blk X T cs scope C s₀ H₀ ex) ifs tt) (he:∀ C s₀ H₀ ex,PE (blk X T cs scope C s₀ H₀ ex) elt te) (hk:Za8 g T.length)
  (W:Nat->Nat->List V->Hp->Prop) (w0:∃ m,W 0 m [] H)
  (turn:∀ i m ys H,W i m ys H->(J.stop i H/\ys.length<=sizeLine/\Fin ys H)\/(J.go i H/\ys.length<sizeLine/\∃ N:List V->Hp->Prop,(∀ ys' H',N ys' H'->∃ m',m'<m/\W (i+1) m' ys' H') /\
   ∀ x H',J.yld i H x H'->g x (sgOf σ T cs) H' fun σ2 H2=>tt σ2 H2 fun b H3=>if b=true then te σ2 H3 fun y H4=>N (ys++[y]) H4 else N ys H3))
  (fin:∀ (D C:Addr) (s':Shared) (m:Str->Option Value) (ys:List V) (H':Hp),Fin ys H'->H' D=none->s'.heap.Ns C m->FpOk X pq H' C->C≠D->Inv X pq σ (upd H' D (.lst ys)) s'->RR (.ref D) C (.ok .next) s') :
  wpAny (model X.prog X.w) X.A (newList []) (fun acc s₃=>wpAny (model X.prog X.w) X.A (newFunctionEnv scope X.env.globals (Wq X.env.cells scope.names []) [] X.env.qual none .none (some X.env)) (fun cenv s₄ =>
   codeAny (model X.prog X.w) X.A (.compStart (.ListComp elt [⟨tg,iter,ifs,0⟩] scope pos) 0 (.ref it) acc { cenv with scope:=relabel scope X.env }) (RR acc cenv.locals) s₄) E s₃) E s:=by
 refine wpAny_newObj_type (wpAny_newFunctionEnv S.nocell (by intro y hy; simp at hy) (fun h₁ hns₁ hsb₁=>?_) S.kind);dsimp only at hns₁ hsb₁ ⊢;generalize hH2:s.heap.push { cls:=.type "list",dict:=none,data:=.seq ([]:List Value).toArray }=H2 at hns₁ hsb₁ ⊢;have hCe:H2.objs.size=s.heap.objs.size+1:=by rw [<- hH2,Heap.size_push]
 have hDC:s.heap.objs.size≠H2.objs.size:=by rw [hCe]; exact Gg (Fd _)
 have hCle:s.heap.objs.size<=H2.objs.size:=by rw [hCe]; exact Bn _
 have old:∀ b o,s.heap.get? b=some o->h₁.get? b=some o:=fun b o e =>
  hsb₁.extBut b o (by rw [hCe]; exact Gg (Bx (Df e))) (Dd _ (hH2 ▸ Dd _ e))
 have hacc:h₁.get? s.heap.objs.size=some { cls:=.type "list",data:=.seq ([]:List Value).toArray 0 }:=hsb₁.extBut _ _ hDC (Dd _ (hH2 ▸ De _ rfl));have hfe:∀ b∈fp,∃ o,s.heap.get? b=some o:=fun b hb=>let ⟨o,e,_⟩:=Tn.obj _ _ st b hb; ⟨o,e⟩
 have hlt:∀ b∈fp,b<s.heap.objs.size:=fun b hb=>let ⟨o,e⟩:=hfe b hb; Df e
 have st₁:tn 0 h₁:=Tn.keep _ _ _ st fun b _ o e=>old b o e;generalize hDD:s.heap.objs.size=D at *
 generalize hCC:H2.objs.size=C at *
 have hnD:H D=none:=I.hok.fresh (Bw hDD);have stat:∀ {H':Hp} {its:List Value} {n:Nat},(∀ b∈fp,H' b=none)->∀ b∈fp,FpOk (blk X T cs scope C s H fp) [(D,({ cls:=.type "list",data:=.seq its.toArray n }:Obj))] H' b:=fun hn b hb=>by
  obtain ⟨f0,f1,f2,f3,f4,f5⟩:=hf b hb;exists hn b hb,Gg (Ga (hlt b hb) hCle),fun z=>?_,.inl hb,fun x c e=>f4 x c (I.clo S e),fun p hp z=>?_
  ·rcases Jq.mp (I.stkSub b z) with e | e
   ·exact f1 e
   ·exact f2 e
  ·have e:p.1=D:=by
    rcases Gc.mp hp with q | q
    ·exact absurd (show p∈([]:List (Addr×Obj)) from q) (by simp)
    ·rw [Jj.mp q]
   exact absurd (hlt b hb) (by rw [<- z,e]; exact Bi _)
 have loop:∀ tk:Nat,codeAny (model X.prog X.w) X.A (.compLoop (.ListComp elt [⟨tg,iter,ifs,0⟩] scope pos) 0 (.ref it) (.ref D) (compEnvC scope (Wq X.env.cells scope.names []) C X.env)) (RR (.ref D) C) { s with heap:=h₁,toks:=tk }:=by
  intro tk;have I1:Inv (blk X T cs scope C s H fp) [] (sgOf σ T cs) H { s with heap:=h₁,toks:=tk }:=Zoj I S hf hfe (by rw [hDD]; exact hCle) hns₁ old;obtain ⟨m0,w0⟩:=w0;have pinD:∀ {σ':St} {H':Hp} {s':Shared} {its:List Value} {n:Nat} {pl:List (Addr×Obj)},Inv (blk X T cs scope C s H fp) pl σ' H' s'->s'.heap.get? D=some { cls:=.type "list",data:=.seq its.toArray n }->H' D=none ->
    Inv (blk X T cs scope C s H fp) [(D,({ cls:=.type "list",data:=.seq its.toArray n }:Obj))] σ' H' s':=fun {σ' H' s' its n pl} J e hn=>J.pins_of fun p hp=>by
   obtain rfl:=Jj.mp hp;refine ⟨e,hn,hDC,fun z=>?_,fun v q=>by cases q⟩;have z':D∈frs X.stack:=z;obtain ⟨_,o,ho,_⟩:=I.stack.mem z';exact absurd (Df ho) (by rw [hDD]; exact Bi _)
  refine Zax (fun n s'=>∃ (i:Nat) (ys:List V) (its:List Value) (k:Nat) (H':Hp),Inv (blk X T cs scope C s H fp) [(D,({ cls:=.type "list",data:=.seq its.toArray k }:Obj))] (sgOf σ T cs) H' s'/\Vals ys its/\tn i s'.heap/\(∀ b∈fp,H' b=none)/\W i n ys H') ?_ m0
   ⟨0,[],[],0,H,pinD I1 hacc hnD,.nil,st₁,fun b hb=>(hf b hb).1,w0⟩
  rintro n s1 ⟨i,ys,its,k,H1,J1,rv,st1,fr1,w1⟩;rcases turn i n ys H1 w1 with ⟨stop,hz,fq⟩ | ⟨go,hz,N,hN,step⟩
  ·refine Dn (Tn.done (blk X T cs scope C s H fp) rfl rfl rfl hc i _ s1 _ H1 (fun _ _=>False) J1 (stat fr1) st1 stop) (fun r s2 hz=>?_) fun _ _ z=>z;obtain ⟨hr,J2⟩:=hz;subst hr;obtain ⟨eD,nD,_⟩:=J2.pin (D,({ cls:=.type "list",data:=.seq its.toArray k }:Obj)) (Jw _ (Jj.mpr rfl));have J3:Inv X pq σ H1 s2:=I.call' (ch:=fp) J2.os J2.base J2.hok J2.bare fun b hb=>by
    obtain ⟨f0,f1,f2,f3,f4,f5⟩:=hf b hb;exists f3,f1,f4,f5
   obtain ⟨mC,hnC,_⟩:=J2.loc;have fC:FpOk X pq H1 C:=I.fpOk (by rw [hDD]; exact hCle) J2.free;have fD:FpOk X pq H1 D:=I.fpOk (Bw hDD) nD;exact fin D C s2 mC ys H1 fq nD hnC fC (Ne.symm hDC) (J3.track eD fD rv hz)
  ·refine Dn (Tn.item (blk X T cs scope C s H fp) rfl rfl rfl hc i _ s1 _ H1 (fun _ _=>False) J1 (stat fr1) st1 go) (fun r s2 hz=>?_) fun _ _ z=>z;obtain ⟨u,hr,h2⟩:=hz;subst hr;refine Dn h2 (fun _ s3 hz=>?_) fun _ _ z=>z;obtain ⟨x,H3,J3,r3,y3,st3,fr3⟩:=hz;have J3':=J3.pinned (stat fr3) (Tn.obj _ _ st3);refine Dn (hg C s H fp _ s3 _ H3 x u _ J3' r3 (hk (sgOf σ T cs) x _ H3 _ ⟨rfl,fun _ _=>rfl⟩ (step x H3 y3))) (fun _ s4 hz=>?_) fun _ _ z=>z;obtain ⟨σ4,H4,J4,q4,l4,k4⟩:=hz;refine Dn (ht C s H fp _ s4 σ4 H4 _ J4 q4) (fun b s5 hz=>?_) fun _ _ z=>z;obtain ⟨H5,J5,q5⟩:=hz;have wk:∀ {pl:List (Addr×Obj)} {H':Hp} {s':Shared},Inv (blk X T cs scope C s H fp) pl σ4 H' s'->Inv (blk X T cs scope C s H fp) pl (sgOf σ T cs) H' s':=fun J=>J.weak l4.symm fun j v e=>by
    by_cases hj:T.length<=j
    ·rw [k4 j hj]; exact e
    ·exfalso
     unfold sgOf at e;rw [Jr (by simp; lia),J9] at e;cases q:T[j]? with
     | none=>rw [q] at e; cases e
     | some a=>rw [q] at e; cases e
   have tnk:∀ {H':Hp} {s':Shared} {σ':St},Inv (blk X T cs scope C s H fp) ([(D,({ cls:=.type "list",data:=.seq its.toArray k }:Obj))]++N3 fp s3.heap) σ' H' s'->tn (i+1) s'.heap/\∀ b∈fp,H' b=none:=fun {H' s' σ'} J=>by
    exists Tn.keep _ _ _ st3 fun b hb o e=>(J.pin (b,o) (Jw _ (Jw _ (Ul hb e)))).1,fun b hb=>?_;obtain ⟨o,e,d⟩:=Tn.obj _ _ st3 b hb;exact (J.pin (b,o) (Jw _ (Jw _ (Ul hb e)))).2.1
   cases b with
   | false =>
    rw [Dg Ju] at q5 ⊢;obtain ⟨m',hm,w5⟩:=hN _ _ q5;obtain ⟨t5,f5⟩:=tnk J5;exists m',hm,i+1,ys,its,k,H5,wk J5.unpinned,rv,t5,f5,w5
   | true =>
    rw [Dh rfl] at q5 ⊢;refine Dn (he C s H fp _ s5 σ4 H5 _ J5 q5) (fun uy s6 hz=>?_) fun _ _ z=>z;obtain ⟨y,H6,J6,ry,n6⟩:=hz;obtain ⟨m',hm,w6⟩:=hN _ _ n6;obtain ⟨t6,f6⟩:=tnk J6;obtain ⟨eD,nD,_⟩:=J6.pin (D,({ cls:=.type "list",data:=.seq its.toArray k }:Obj)) (Jw _ (Bc _ (Jj.mpr rfl)));have hsz:its.toArray.size<=sizeLine:=by rw [Jp,<- rv.length]; lia
    refine append_at (hsz:=hsz) eD fun h7 sb hD7=>?_;have J6':Inv (blk X T cs scope C s H fp) [] σ4 H6 s6:=J6.pins_of fun p hp=>absurd hp (by simp);have J7:Inv (blk X T cs scope C s H fp) [] σ4 H6 { s6 with heap:=h7 }:=J6'.turned (t':=s6.toks) (it:=D) (fun b o hb e=>(sb.2 b hb).trans e) nD hDC (.inr (Bw hDD))
     (fun x c e z=>by
      obtain ⟨v,q⟩:=I.cell x c (I.clo S e);exact absurd q.lt (by rw [z,hDD]; exact Bi _))
     (fun p hp=>absurd hp (by simp [blk]))
    have hD7':h7.get? D=some { cls:=.type "list",data:=.seq (its++[uy]).toArray (k+1) }:=by
     rw [hD7,List.push_toArray]
    exists m',hm,i+1,ys++[y],its++[uy],k+1,H6,wk (pinD J7 hD7' nD),rv.append (.cons ry .nil),Tn.keep _ _ _ t6 fun b hb o e=>(sb.2 b (Gg (hlt b hb))).trans e,f6,w6
 exact codeAny_compStart_list (loop _) (Tn.self _ 0 _ _ _ st₁ (loop _))
def Zft (wi:TI) (g:TG) (tt:TT) (te:TE) (T:List Str) (cs:List Nat):TE:=fun σ H Q=>wi σ H fun J H1=>∃ W:Nat->Nat->List V->Hp->Prop,(∃ m,W 0 m [] H1) /\
 ∀ i m ys H,W i m ys H->(J.stop i H/\ys.length<=sizeLine/\∀ p,H p=none->Q (.ref p) (upd H p (.lst ys)))\/(J.go i H/\ys.length<sizeLine/\∃ N:List V->Hp->Prop,(∀ ys' H',N ys' H'->∃ m',m'<m/\W (i+1) m' ys' H') /\
  ∀ x H',J.yld i H x H'->g x (sgOf σ T cs) H' fun σ2 H2=>tt σ2 H2 fun b H3=>if b=true then te σ2 H3 fun y H4=>N (ys++[y]) H4 else N ys H3)
def Xi (hc:X.calm=true) (S:CScope X.env.scope scope X.N T cs) (hi:PI X tg iter wi) (hg:∀ C s₀ H₀ ex,PG (blk X T cs scope C s₀ H₀ ex) tg g) (ht:∀ C s₀ H₀ ex,PTs (blk X T cs scope C s₀ H₀ ex) ifs tt)
  (he:∀ C s₀ H₀ ex,PE (blk X T cs scope C s₀ H₀ ex) elt te) (hk:Za8 g T.length) (hs:∀ x,foldedSetIterable iter X.env x=pure x:=by intro _; rfl):PE X (.ListComp elt [⟨tg,iter,ifs,0⟩] scope pos) (Zft wi g tt te T cs):=by
 intro pq s σ H Q I h;rw [eval_ListComp];refine wpAny_comprehension_free (use:=none) rfl hs (Q5 (I.hl S)) S.kind S.names (thn (hi pq s σ H _ I h) fun v s1 h1=>thn h1 fun itv s2 h2=>?_);obtain ⟨it,fp,tn,J,H2,e,I2,Tn,st,hf,W,w0,turn⟩:=h2;subst e;refine Zaw (RR:=fun acc C=>compPost (model X.prog X.w) X.A X.xe none (EP X pq σ Q) acc C) (Fin:=fun ys H=>∀ p,H p=none->Q (.ref p) (upd H p (.lst ys))) I2 hc S Tn st hf hg ht he hk W w0 turn ?_;intro D C s' m ys H' q nD hn fC hCD I';exists m,hn,fun h' sb=>⟨.ref D,_,I'.turned (t':=s'.toks) (it:=C) (fun b o hb e=>(sb.2 b hb).trans e) ?_ fC.2.1 fC.2.2.2.1 fC.2.2.2.2.1 fC.2.2.2.2.2,rfl,q D nD⟩
 rw [Zl hCD];exact fC.1
def U1 {i:Nat} {y:Str} {py spos:Pos} (hN:X.N.Nodup) (hy:X.N[i]?=some y) (hl:X.env.scope.names.lookup y=some .local) (hc:X.calm=true) (S:CScope X.env.scope scope X.N T cs) (hi:PI X tg iter wi) (hg:∀ C s₀ H₀ ex,PG (blk X T cs scope C s₀ H₀ ex) tg g)
  (ht:∀ C s₀ H₀ ex,PTs (blk X T cs scope C s₀ H₀ ex) ifs tt) (he:∀ C s₀ H₀ ex,PE (blk X T cs scope C s₀ H₀ ex) elt te) (hk:Za8 g T.length) (hs:∀ x,foldedSetIterable iter X.env x=pure x:=by intro _; rfl)
  (hsw:swapsWith (.ListComp elt [⟨tg,iter,ifs,0⟩] scope pos) (some (.Name y py)) spos.line X.env=pure true:=by rfl):PS X (.Assign [.Name y py] (.ListComp elt [⟨tg,iter,ifs,0⟩] scope pos) spos) (tAsg (Zft wi g tt te T cs) (Zam i)):=by
 intro pq s σ H D I h;rw [exec_Assign_Name_used _ _ _ _ hsw];refine Da (wpAny_standAt (Da ?_));show wpAny _ X.A (do let _ <- comprehension (.ListComp elt [⟨tg,iter,ifs,0⟩] scope pos) scope X.env _ (newList []) false (eval iter X.env) (some (assign (.Name y py) X.env))) _ _ s;refine Da (Dn (wpAny_comprehension_free (use:=some (assign (.Name y py) X.env)) (Q:=fun _ s'=>SP X pq D .next s') rfl hs (Q5 (I.hl S)) S.kind S.names
  (thn (hi pq s σ H _ I h) fun v s1 h1=>thn h1 fun itv s2 h2=>?_)) (fun _ s' hq=>Db (Db hq)) fun _ _ e=>e)
 obtain ⟨it,fp,tn,J,H2,e,I2,Tn,st,hf,W,w0,turn⟩:=h2;subst e;refine Zaw (RR:=fun acc C=>compPost (model X.prog X.w) X.A X.xe (some (assign (.Name y py) X.env)) (fun _ s'=>SP X pq D .next s') acc C) (Fin:=fun ys H=>∀ p,H p=none->Zam i (.ref p) σ (upd H p (.lst ys)) D.nx) I2 hc S Tn st hf hg ht he hk W w0 turn ?_;intro B C s' m ys H' q nB hn fC hCB I';show wpAny _ X.A (assign (.Name y py) X.env (.ref B)) _ _ s';refine wpAny_assign_Name (Nq (v:=.ref B) I' hN hy (.inl hl) rfl (fun s'' I'' hz=>?_) (.inr hl));obtain ⟨a,sb,ha⟩:=hz;have nC:C≠a:=by
  rcases ha with z | z
  ·rw [z]; exact fC.2.1
  ·exact Ne.symm (fC.2.2.2.2.1 y a z)
 exists m,hn.sameBut sb nC,fun h' sb'=>⟨_,_,I''.turned (t':=s''.toks) (it:=C) (fun b o hb e=>(sb'.2 b hb).trans e) ?_ fC.2.1 fC.2.2.2.1 fC.2.2.2.2.1 fC.2.2.2.2.2,q B nB⟩;rw [Zl hCB];exact fC.1
end
theorem W0 {J:It} {n:Nat} {tt:TT} {σB:St} {F:List V->Hp->Prop} (Pv:Nat->List V->Hp->Prop) (h0:Pv 0 [] H1) (hn:∀ i ys H,Pv i ys H->ys.length<=i) (hz:n<=sizeLine)
  (hgo:∀ i ys H,i<n->Pv i ys H->J.go i H) (hstop:∀ ys H,Pv n ys H->J.stop n H)
  (hs:∀ i ys H,i<n->Pv i ys H->∀ x H',J.yld i H x H'->g x σB H' fun σ2 H2=>tt σ2 H2 fun b H3=>if b=true then te σ2 H3 fun y H4=>Pv (i+1) (ys++[y]) H4 else Pv (i+1) ys H3)
  (hd:∀ ys H,Pv n ys H->F ys H) :
  ∃ W:Nat->Nat->List V->Hp->Prop,(∃ m,W 0 m [] H1)/\∀ i m ys H,W i m ys H->(J.stop i H/\ys.length<=sizeLine/\F ys H)\/(J.go i H/\ys.length<sizeLine/\∃ N:List V->Hp->Prop,(∀ ys' H',N ys' H'->∃ m',m'<m/\W (i+1) m' ys' H') /\
   ∀ x H',J.yld i H x H'->g x σB H' fun σ2 H2=>tt σ2 H2 fun b H3=>if b=true then te σ2 H3 fun y H4=>N (ys++[y]) H4 else N ys H3):=by
 exists fun i m ys H=>m=n-i/\i<=n/\Pv i ys H,⟨n,rfl,Ge _,h0⟩,?_;rintro i m ys H ⟨rfl,hi,p⟩;have hl:=hn i ys H p
 by_cases hlt:i<n
 ·exact .inr ⟨hgo i ys H hlt p,by lia,Pv (i+1),fun ys' H' q=>⟨n-(i+1),by lia,rfl,hlt,q⟩,hs i ys H hlt p⟩
 ·have e:i=n:=by lia
  subst e;exact .inl ⟨hstop ys H p,by lia,hd ys H p⟩
section
def Zt1 (K:W.Frag):V->V->Hp->VK->Prop:=fun o i H Q=>∃ p xs k v,o=.ref p/\i=.int ((k:Nat):Int)/\SqL K H p xs/\xs[k]?=some v/\Q v H
theorem Zgx:PGet X (Zt1 X.K):=by
 intro pq s σ H o i ov iv Q I ro ri h;obtain ⟨p,xs,k,v,rfl,rfl,hq,hx,q⟩:=h;cases ro;obtain ⟨t,rfl⟩:=ri;obtain ⟨its,rv,pl,hz⟩:=I.list hq;obtain ⟨u,hu,ru⟩:=rv.get hx;have hk:k<xs.length:=(Jh.mp hx).1;have hn:=Qy;exact wpAny_getItem_list pl.isList (by lia) (by lia) (by simpa using hu) ⟨v,H,I,ru,q⟩
theorem Vals.bl_get {bs:List Bool} (r:Vals (bs.map V.bl) us) {i:Nat} {v:Value} (e:us[i]?=some v):∃ b,bs[i]?=some b/\v=.bool b:=by
 have hi:i<us.length:=(Jh.mp e).1;have hl:=r.length;rw [Jb] at hl;have hb:i<bs.length:=by lia
 have eb:(bs.map V.bl)[i]?=some (V.bl bs[i]):=by rw [J9,Ja hb]; rfl
 obtain ⟨u,hu,ru⟩:=r.get eb;rw [e] at hu;cases hu;exists bs[i],Ja hb,ru
def Zss (bs:List Bool):((List.range bs.length).all fun i=>(bs[i]?).getD true)=bs.all id:=by
 rw [B7];simp only [List.all_eq_true,Fx,id]
 constructor
 ·intro h b hb;obtain ⟨i,hi,e⟩:=List.mem_iff_getElem.mp hb;have:=h i hi;rw [Ja hi,e] at this;exact this
 ·intro h i hi;rw [Ja hi];exact h _ (Jo hi)
def Zk4 (hc:X.calm=true):Ws X (.builtin "all") (fun xs H Q=>∃ (p:Addr) (bs:List Bool),xs=[.ref p]/\SqL X.K H p (bs.map V.bl)/\Q (.bl (bs.all id)) H):=by
 intro pq s σ H xs us Q I r h;obtain ⟨p,bs,rfl,hq,q⟩:=h;obtain ⟨u,rfl,ru⟩:=Uy r;cases ru;obtain ⟨its,rv,pl,hz⟩:=I.list hq;have hlen:=rv.length;rw [Jb] at hlen;have hlt:p<s.heap.objs.size:=by obtain ⟨_,e,_⟩:=pl.isList; exact Df e
 refine call_all_walk (wpAny_pyIter_list pl.isList ?_);refine ⟨s.heap.objs.size,[s.heap.objs.size,p],[s.heap.objs.size],its.toArray.size,_,_,fun i=>(bs[i]?).getD true,rfl,Walks.list (A:=X.A.in1) (I.ok.hd hc) _ p (Gg hlt) its.toArray,
  ⟨⟨_,De _ rfl,rfl,rfl⟩,pl.isList.push _⟩,fun i v s' Q' E' hP hQ=>?_,fun h' tk hk=>?_⟩
 ·obtain ⟨b,e,rfl⟩:=rv.bl_get (by simpa using hP);simp only [e,Option.getD_some] at hQ;exact wpAny_truthy_bool hQ
 ·rw [Jp,<- hlen,Zss];exists .bl (bs.all id),H,I.kept (t':=tk) (PyProof.Rows.LSm.kept_iter hk),rfl,q
theorem Zeh {ys:List Str}:∀ {us:List Value},Vals (ys.map V.str) us->StrsAre us ys:=by
 induction ys with
 | nil=>intro us r; rw [List.map_nil] at r; cases r; exact .nil
 | cons n ns ih =>
  intro us r;rw [Jl] at r;cases r with
  | cons r1 r2 =>
   obtain ⟨t,e⟩:=r1;subst e;exact .cons n t (ih r2)
def Zn7:MtR X "str.join" (fun x xs H Q=>∃ (z:Str) (p:Addr) (ys:List Str),x=.str z/\xs=[.ref p]/\SqL X.K H p (ys.map V.str)/\(ys.map (·.length)).sum+ys.length*z.length<=16777216/\Q (.str (Txt.join z ys)) H):=by
 intro pq s σ H x xs v us Q I rx r h;obtain ⟨z,p,ys,rfl,rfl,hq,hz,q⟩:=h;obtain ⟨t,rfl⟩:=rx;obtain ⟨u,rfl,ru⟩:=Uy r;cases ru;obtain ⟨its,rv,pl,_⟩:=I.list hq;exact join_list pl.isList (by simpa using Zeh rv) hz fun t' k=>⟨.str _,H,I.tok _,⟨_,rfl⟩,q⟩
def Zk2:Ws X (.builtin "isinstance") (fun xs H Q=>∃ x T t b,xs=[x,.ty T]/\TyOf X.K H x t/\W.kitOne X.K t (.type T)=some b/\Q (.bl b) H):=by
 intro pq s σ H xs us Q I r h;obtain ⟨x,T,t,b,rfl,ty,e,q⟩:=h;obtain ⟨u,w',rfl,ru,rw'⟩:=Zmq r;cases rw';exact Zhs I ru ty e fun tk=>⟨.bl b,H,I.tok tk,rfl,q⟩
def rSlS:V->Option Int->Option Int->Hp->VK->Prop:=fun x lo hi H Q=>∃ z,x=.str z/\z.length<=sizeLine/\Q (.str (Txt.slice z lo hi)) H
theorem Zqf:SlR X rSlS:=by
 intro pq s σ H x v vl vu lo hi sl Q I rx hs pl pu h;obtain ⟨z,rfl,hz,q⟩:=h;obtain ⟨t,rfl⟩:=rx;exists "str",_,F.slot_str_getitem.lookup,typeIs_str _ _ _,?_;cases pl with
 | none =>
  cases pu with
  | none=>exact wpAny_getItem_str_slice (l:=none) (u:=none) (st:=none) hs rfl (post_val_or_str ⟨Jv (Txt.slice_le z _ _) hz,fun t' k=>⟨.str _,H,I.tok _,⟨_,rfl⟩,q⟩⟩)
  | int j tj=>exact wpAny_getItem_str_slice (l:=none) (u:=some (j,tj)) (st:=none) hs rfl (post_val_or_str ⟨Jv (Txt.slice_le z _ _) hz,fun t' k=>⟨.str _,H,I.tok _,⟨_,rfl⟩,q⟩⟩)
 | int i ti =>
  cases pu with
  | none=>exact wpAny_getItem_str_slice (l:=some (i,ti)) (u:=none) (st:=none) hs rfl (post_val_or_str ⟨Jv (Txt.slice_le z _ _) hz,fun t' k=>⟨.str _,H,I.tok _,⟨_,rfl⟩,q⟩⟩)
  | int j tj=>exact wpAny_getItem_str_slice (l:=some (i,ti)) (u:=some (j,tj)) (st:=none) hs rfl (post_val_or_str ⟨Jv (Txt.slice_le z _ _) hz,fun t' k=>⟨.str _,H,I.tok _,⟨_,rfl⟩,q⟩⟩)
end
mutual
inductive DV (K:W.Frag) (H:Hp):V->PyData->Prop
 | non:DV K H .non .none
 | bl (b:Bool):DV K H (.bl b) (.bool b)
 | int (i:Int):DV K H (.int i) (.int i)
 | str (x:Str):DV K H (.str x) (.str x)
 | lst {a:Addr} {xs:List V} {ds:List PyData} (h:SqL K H a xs) (r:DVs K H xs ds):DV K H (.ref a) (.list ds)
 | tup {a:Addr} {xs:List V} {ds:List PyData} (h:SqT K H a xs) (r:DVs K H xs ds):DV K H (.ref a) (.tuple ds)
inductive DVs (K:W.Frag) (H:Hp):List V->List PyData->Prop
 | nil:DVs K H [] []
 | cons {x:V} {d:PyData} {xs:List V} {ds:List PyData} (h:DV K H x d) (r:DVs K H xs ds):DVs K H (x::xs) (d::ds)
end
section
mutual
theorem Vg (I:Inv X pq σ H s):∀ {x:V} {d:PyData} {u:Value},DV X.K H x d->RelV x u->∃ as,Reads s.heap u d as
 | _,_,u,.non,r=>by obtain rfl:u=Value.none:=r;exists _,Reads.none
 | _,_,u,.bl b,r=>by obtain rfl:u=Value.bool b:=r;exists _,Reads.bool b
 | _,_,u,.int i,r=>by obtain ⟨t,rfl⟩:=(show ∃ t,u=Value.int i t from r);exists _,Reads.int i t
 | _,_,u,.str x,r=>by obtain ⟨t,rfl⟩:=(show ∃ t,u=Value.str x t from r);exists _,Reads.str x t
 | _,_,u,.lst (a:=a) h q,r=>by
  obtain rfl:u=Value.ref a:=r;obtain ⟨its,rv,⟨o,n,e,c,d,dt⟩,_⟩:=I.list h;obtain ⟨as,ra⟩:=dvs_reads I q rv;exists _,reads_list_at e c dt (by simpa using ra)
 | _,_,u,.tup (a:=a) h q,r=>by
  obtain rfl:u=Value.ref a:=r;obtain ⟨its,rv,⟨o,e,c,n,dt⟩,_⟩:=I.tuple h;obtain ⟨as,ra⟩:=dvs_reads I q rv;exists _,reads_tuple_at e c dt (by simpa using ra)
theorem dvs_reads (I:Inv X pq σ H s):∀ {xs:List V} {ds:List PyData} {us:List Value},DVs X.K H xs ds->Vals xs us->∃ as,ReadsAll s.heap us ds as:=by
 intro _ _ _ hz9 hz8;cases hz9 with
 | nil=>
  cases hz8 with
  | nil=>
   exists _,ReadsAll.nil
 | cons h q=>
  cases hz8 with
  | cons r rr=>
   exact by
     obtain ⟨as,ra⟩:=Vg I h r;obtain ⟨bs,rb⟩:=dvs_reads I q rr;exists _,ReadsAll.cons ra rb
end
def rEqD (K:W.Frag):R2:=fun x y H Q=>∃ dx dy,DV K H x dx/\DV K H y dy/\SeqAt.shaped dx=true/\SeqAt.shaped dy=true/\Q (.bl (PyData.eqv dx dy)) H
def rNeD (K:W.Frag):R2:=fun x y H Q=>∃ dx dy,DV K H x dx/\DV K H y dy/\SeqAt.shaped dx=true/\SeqAt.shaped dy=true/\Q (.bl (!PyData.eqv dx dy)) H
def Zg9 (hu:X.A.units+64<cLine):OpR X (compareOp .Eq) (rEqD X.K):=by
 intro pq s σ H x y v u Q I rx ry h;obtain ⟨dx,dy,hx,hy,sx,sy,q⟩:=h;obtain ⟨as,ra⟩:=Vg I hx rx;obtain ⟨bs,rb⟩:=Vg I hy ry;exact eq_dataH ra rb sx sy hu ⟨.bl _,H,I,rfl,q⟩
def Zq8 (hu:X.A.units+64<cLine):OpR X (compareOp .NotEq) (rNeD X.K):=by
 intro pq s σ H x y v u Q I rx ry h;obtain ⟨dx,dy,hx,hy,sx,sy,q⟩:=h;obtain ⟨as,ra⟩:=Vg I hx rx;obtain ⟨bs,rb⟩:=Vg I hy ry;exact ne_dataH ra rb sx sy hu ⟨.bl _,H,I,rfl,q⟩
end
theorem Sx :∀ ns:List Int,DVs K H (ns.map V.int) (ns.map PyData.int)
 | []=>.nil
 | n::r=>.cons (.int n) (Sx r)
def Cal (P:Program) (w:World) (K:W.Frag) (mg:Str->Option Value) (base:Heap) (x:Str) (k:Nat) (ps:List Str) (sp:Sp):Prop :=
 ∃ (f:Addr) (fd:FuncData),FnOk P w K mg base CX0 k f fd ps sp/\mg x=some (.ref f)/\W.keepIn K (.ref f)=true/\Vn K fd ps []
section
variable {x:Str} {k:Nat} {e:Expr} {t:TA} {p:Pos}
def Zy (C:Cal X.prog X.w X.K X.mg X.base x k ps sp) (hr:Room k X.A) (hg:Gl X x) (ha:PA X (e::es) t) (hdb:(x == ("__debug__":Str))=false:=by decide)
  (he:starEach (e::es) X.env=(false,eval e X.env)::starEach es X.env:=by rfl) (hpl:(backTo pos (starEach es X.env)).any (·.1)=false:=by rfl):PE X (.Call (.Name x p) (e::es) [] pos) (Zfu sp [] E0 t):=by
 obtain ⟨f,fd,F,hm,hk,hb⟩:=C;exact Znv F hr hg hm hk hb .nil Zg4 ha hdb he hpl
end
def Grow (p:Addr) (H H':Hp):Prop:=∀ b o,H b=some o->b≠p->H' b=some o
def Grow.refl (p:Addr) (H:Hp):Grow p H H:=fun _ _ e _=>e
def Grow.trans {p:Addr} (a:Grow p H H1) (b:Grow p H1 H2):Grow p H H2:=fun c o e n=>b c o (a c o e n) n
def Grow.same {p:Addr} (s:Same H H'):Grow p H H':=fun b o e _=>s b o e
theorem Grow.free {p:Addr} (g:Grow p H H') (h:H' l=none) (n:l≠p):H l=none:=by
 cases q:H l with
 | none=>rfl
 | some o=>rw [g l o q n] at h; cases h
def Zb {p:Addr} (h:H p=none):Same H (upd H p o):=fun b u e=>by rw [Zl (Zp e h)]; exact e
structure HandAt (H:Hp) (p a:Addr):Prop where
 ex:∃ (d k:Int) (cs:List Int),H p=some (.lst [.int d,.int k,.ref a])/\H a=some (.lst (cs.map V.int))/\cs≠[]/\cs.length<=63/\0<=d/\0<=k/\∀ c∈cs,0<=c
theorem HandAt.ne {p a:Addr} (h:HandAt H p a):p≠a:=by
 obtain ⟨d,k,cs,e1,e2,_⟩:=h.ex;refine X7 e1 e2 fun z=>?_;injection z with z
 cases cs with
 | nil=>cases z
 | cons c r =>
  rw [Jl] at z;injection z with _ z
  cases r with
  | nil=>cases z
  | cons c2 r =>
   rw [Jl] at z;injection z with _ z
   cases r with
   | nil=>cases z
   | cons c3 r=>rw [Jl] at z; injection z with z _; cases z
def HandAt.same {p a:Addr} (h:HandAt H p a) (g:Same H H'):HandAt H' p a:=by
 obtain ⟨d,k,cs,e1,e2,r⟩:=h.ex;exists d,k,cs,g _ _ e1,g _ _ e2,r
def Qp:Sp:=fun vs H Q _=>∃ (p a:Addr) (n:Int),vs=[.ref p,.int n]/\HandAt H p a/\0<n/\n<1073741824 /\
 ∀ (r:Int) (H':Hp),0<=r->r<n->HandAt H' p a->Grow p H H'->(∀ b,b≠p->H' b=H b)->Q (.int r) H'
def Zlj (K:W.Frag):Sp:=fun vs H Q _=>∃ (s:Addr) (ns:List Int) (i:Int),vs=[.ref s,.int i]/\SqL K H s (ns.map V.int)/\ns.length<=63/\0<=i/\i<2 ^ 60 /\
 ∀ (p a:Addr) (H':Hp),H p=none->H a=none->HandAt H' p a->Same H H'->Q (.ref p) H'
theorem Zck {cs:List Int} (h:cs≠[]) (z:Int):∃ c,c∈cs/\atI (cs.map V.int) (z % ((cs.map V.int).length:Nat))=some (.int c):=by
 have hl:0<cs.length:=Gr.mpr h;have h0:0<=z % ((cs.map V.int).length:Nat):=Bg _ (by rw [Jb]; lia);have h1:z % ((cs.map V.int).length:Nat)<((cs.map V.int).length:Nat):=Gw _ (by rw [Jb]; lia);generalize z % ((cs.map V.int).length:Nat)=m at h0 h1;rw [Jb] at h1;have hm:m.toNat<cs.length:=by lia
 obtain ⟨k,rfl⟩:=Gp h0;have hm:k<cs.length:=hm;exists cs[k],Jo hm,U7 ?_;rw [J9,Ja hm];rfl
def Shp (n:Nat) (d:PyData):Prop:=d.canLay0=true/\d.depth<=n
def Shp.shaped {n:Nat} {d:PyData} (h:Shp n d) (hn:n<=64):SeqAt.shaped d=true:=by
 unfold SeqAt.shaped;rw [h.1,Bool.true_and];exact Di (Jv h.2 hn)
theorem Pe {n:Nat}:∀ {ds:List PyData},(∀ d∈ds,Shp n d)->PyData.canLayAll0 ds=true/\PyData.depthAll ds<=n
 | [],_=>⟨by simp only [PyData.canLayAll0],by simp only [PyData.depthAll]; exact Ge _⟩
 | d::r,h=>by
  obtain ⟨h1,h2⟩:=h d Jm;obtain ⟨h3,h4⟩:=Pe (n:=n) fun x hx=>h x (Jk _ hx);exists by simp only [PyData.canLayAll0,h1,h3,Bool.and_self],?_;simp only [PyData.depthAll];lia
theorem Va {n:Nat} {ds:List PyData} (h:∀ d∈ds,Shp n d):Shp (n+1) (.list ds):=by
 obtain ⟨h1,h2⟩:=Pe h;exact ⟨by simp only [PyData.canLay0,h1],by simp only [PyData.depth]; lia⟩
theorem Wj {n:Nat} {ds:List PyData} (h:∀ d∈ds,Shp n d):Shp (n+1) (.tuple ds):=by
 obtain ⟨h1,h2⟩:=Pe h;exact ⟨by simp only [PyData.canLay0,h1],by simp only [PyData.depth]; lia⟩
def Ra (i:Int):Shp 0 (.int i):=⟨by simp only [PyData.canLay0],by simp only [PyData.depth]; exact Je _⟩
def Zc3 (ns:List Int):Shp 1 (.list (ns.map PyData.int)):=Va fun d hd=>by
 obtain ⟨i,_,rfl⟩:=Ji.mp hd;exact Ra i
theorem Zot (ns:List Int):PyData.eqv (.list (ns.map PyData.int)) (.list [])=decide (ns=[]):=by
 cases ns with
 | nil=>simp [PyData.eqv,PyData.eqvAll]
 | cons n r=>simp [PyData.eqv,PyData.eqvAll]
theorem Zkz (ns:List Int) (lo hi:Option Int):∃ ms:List Int,cutV (ns.map V.int) lo hi=ms.map V.int/\ms.length<=ns.length/\∀ c∈ms,c∈ns:=by
 exists (ns.drop (HT.sIx (ns.map V.int).length 0 lo)).take (HT.sIx (ns.map V.int).length (ns.map V.int).length hi-HT.sIx (ns.map V.int).length 0 lo),?_,?_,?_
 ·unfold cutV;rw [B3,Fi]
 ·rw [Jn,Gh];lia
 ·intro c hc;exact List.mem_of_mem_drop (Fn hc)
def Zm {n:Nat} (h:n<=100000):n<=sizeLine:=Jv h nofun
theorem Sy {as:List V} {j:Int} (h0:0<=j) (h1:j<=as.length):cutV as (some j) none=as.drop j.toNat:=by
 obtain ⟨m,rfl⟩:=Gp h0;unfold cutV;rw [HT.sIx_nat,HT.sIx_none,Fv (by lia),Gj (by rw [Gh]; exact Je _)];rfl
theorem Zau {as:List V} {j:Int} (h0:0<=j) (h1:j<=as.length):cutV as none (some j)=as.take j.toNat:=by
 obtain ⟨m,rfl⟩:=Gp h0;unfold cutV;rw [HT.sIx_nat,HT.sIx_none,Fv (by lia),Fz,Nat.sub_zero];rfl
def HC (H H4:Hp) (cl:Addr):Prop:=∃ as:List Int,Same H H4/\H cl=none/\H4 cl=some (.lst (as.map V.int))/\as≠[]/\as.length<=63/\∀ c∈as,0<=c
theorem spun {as:List Int} (hne:as≠[]) (i:Int):∃ cs:List Int,cutV (as.map V.int) (some (i % ((as.map V.int).length:Nat))) none++cutV (as.map V.int) none (some (i % ((as.map V.int).length:Nat)))=cs.map V.int/\cs≠[]/\cs.length=as.length/\∀ c∈cs,c∈as:=by
 have hl:0<as.length:=Gr.mpr hne;have h0:0<=i % ((as.map V.int).length:Nat):=Bg _ (by rw [Jb]; lia);have h1:i % ((as.map V.int).length:Nat)<((as.map V.int).length:Nat):=Gw _ (by rw [Jb]; lia);generalize i % ((as.map V.int).length:Nat)=j at h0 h1;rw [Sy h0 (by lia),Zau h0 (by lia)];rw [Jb] at h1;exists as.drop j.toNat++as.take j.toNat,by rw [Jg,Fi,B3],?_,?_,?_
 ·intro e;have:=congrArg List.length e;rw [Jc,Gh,Jn] at this;simp at this;lia
 ·rw [Jc,Gh,Jn];lia
 ·intro c hc;rcases Gc.mp hc with z | z
  ·exact List.mem_of_mem_drop z
  ·exact Fn z
theorem Zk9 {α:Type} {xs:List α} {r:Int} (h0:0<=r) (h1:r<xs.length):∃ v,v∈xs/\atI xs r=some v:=by
 have hm:r.toNat<xs.length:=by lia
 obtain ⟨k,rfl⟩:=Gp h0;have hm:k<xs.length:=hm;exists xs[k],Jo hm,U7 (Ja hm)
def Xd {w:World} {base:Heap} {x:Str} {f:Addr} {k:Nat} (F:Fun K x x st f fd) (G:FnOk P w K mg base CX0 k f fd ps sp) (m:mg x=some (.ref f)) (b:Vn K fd ps []) :
  Cal P w K mg base x k ps sp:=⟨f,fd,G,m,F.kp,b⟩
end L2
set_option maxHeartbeats 4000000
namespace L2
open PySem PySem.W PyProof.Rows
def Rk (rk:Nat->Int) (p:Array Nat) (i:Nat):Int:=rk (p.getD i 0)
def SrtR (rk:Nat->Int) (p:Array Nat) (k:Nat):Prop:=∀ i j,i<=j->j<k->Rk rk p i<=Rk rk p j
structure GoodP (n:Nat) (p:Array Nat):Prop where
 perm:p.Perm (List.range n).toArray
def GoodP.size {n:Nat} {p:Array Nat} (g:GoodP n p):p.size=n:=by have:=g.perm.size_eq; simpa using this
def GoodP.lt {n:Nat} {p:Array Nat} (g:GoodP n p) (i:Nat) (hi:i<n):p.getD i 0<n:=by
 have hi':i<p.size:=by rw [g.size]; exact hi
 have e:p.getD i 0=p[i]:=by simp [Array.getD,hi']
 rw [e];have hm:p[i]∈p.toList:=by simp
 have:=(B4.mp g.perm).mem_iff.mp hm;simpa using this
def GoodP.ne {n:Nat} {p:Array Nat} (g:GoodP n p) {i:Nat} (hi:i<n) (hj:j<n) (h:i≠j):p.getD i 0≠p.getD j 0:=by
 have nd:p.toList.Nodup:=(B4.mp g.perm).nodup_iff.mpr (by simpa using List.nodup_range);have hi':i<p.size:=by rw [g.size]; exact hi
 have hj':j<p.size:=by rw [g.size]; exact hj
 have e:p.getD i 0=p[i]:=by simp [Array.getD,hi']
 have e2:p.getD j 0=p[j]:=by simp [Array.getD,hj']
 rw [e,e2];intro z;have:=(Bl (h₀:=by simpa using hi') (h₁:=by simpa using hj') nd).mp (by simpa using z);exact h this
def W6 {p q:Array Nat} {i:Nat} (h:p[i]?=q[j]?):p.getD i 0=q.getD j 0:=by
 rw [Array.getD_eq_getD_getElem?,Array.getD_eq_getD_getElem?,h]
def Za5 {rk:Nat->Int} {xs:Array Nat} {src d:Nat} (hs:src<xs.size) (hd:d<=src) (k:Nat) :
  Rk rk (bubble xs src d) k=if k=src-d then Rk rk xs src else if src-d<k/\k<=src then Rk rk xs (k-1) else Rk rk xs k:=by
 have e:=getElem?_bubble hs d hd k;unfold Rk
 by_cases h1:k=src-d
 ·rw [Dh h1] at e ⊢; rw [W6 e]
 ·rw [Dg h1] at e ⊢
  by_cases h2:src-d<k/\k<=src
  ·rw [Dh h2] at e ⊢; rw [W6 e]
  ·rw [Dg h2] at e ⊢; rw [W6 e]
def Zmn {rk:Nat->Int} {xs:Array Nat} (hj:j<=xs.size) (k:Nat) :
  Rk rk (kas_rev xs 0 j) k=if k<j then Rk rk xs (j-1-k) else Rk rk xs k:=by
 have e:=getElem?_mirror_all (xs:=xs) (i:=0) hj k;unfold Rk kas_rev
 by_cases h1:k<j
 ·rw [Dh ⟨Ge _,h1⟩] at e;rw [Dh h1,W6 e,Nat.zero_add]
 ·rw [Dg (fun z=>h1 z.2)] at e;rw [Dg h1,W6 e]
section
variable {rk:Nat->Int} {n:Nat} {cmp:Nat->Nat->(Bool->Shared->Prop)->Shared->Prop} 
def CmpR (rk:Nat->Int) (n:Nat) (cmp:Nat->Nat->(Bool->Shared->Prop)->Shared->Prop) (s:Shared):Prop :=
 ∀ i j (C:Bool->Shared->Prop),i<n->j<n->C (decide (rk i<rk j)) s->cmp i j C s
theorem Zo6 (hc:CmpR rk n cmp s) {p:Array Nat} (g:GoodP n p) {G:Nat->Shared->Prop}:∀ (f m:Nat),1<=m->m+f<=n->SrtR rk p m ->
  (∀ m',m<=m'->m'<=m+f->SrtR rk p m'->(m'=m+f\/(m'<n/\Rk rk p m'<Rk rk p (m'-1)))->G m' s)->(kas_asc p f m).kasWp cmp G s
 | 0,m,_,_,hs,h=>h m (Je _) (Je _) hs (.inl rfl)
 | f+1,m,h1,h2,hs,h=>by
  show cmp (p.getD m 0) (p.getD (m-1) 0) _ s;refine hc _ _ _ (g.lt _ (by lia)) (g.lt _ (by lia)) ?_
  by_cases q:rk (p.getD m 0)<rk (p.getD (m-1) 0)
  ·simp only [q,decide_true,if_true];exact h m (Je _) (by lia) hs (.inr ⟨by lia,q⟩)
  ·simp only [q,decide_false,G3,if_false];refine Zo6 hc g f (m+1) (by lia) (by lia) (fun i j hij hj=>?_) fun m' a b c d=>h m' (by lia) (by lia) c (by
    rcases d with d | d
    ·exact .inl (by lia)
    ·exact .inr d)
   by_cases hjm:j=m
   ·subst hjm
    by_cases him:i=j
    ·subst him; exact Int.le_refl _
    ·exact Int.le_trans (hs i (j-1) (by lia) (by lia)) (Int.not_lt.mp q)
   ·exact hs i j hij (by lia)
theorem Zmb (hc:CmpR rk n cmp s) (inj:∀ i j,i<n->j<n->rk i=rk j->i=j) {p:Array Nat} (g:GoodP n p) {G:Array Nat×Nat×Nat->Shared->Prop}:∀ (f m:Nat),1<=m->m+f<=n ->
  (∀ i j,i<j->j<m->Rk rk p j<Rk rk p i) ->
  (∀ m',m<=m'->m'<=m+f->(∀ i j,i<j->j<m'->Rk rk p j<Rk rk p i)->G (p,m',0) s)->(kas_desc f p m 0).kasWp cmp G s
 | 0,m,_,_,hs,h=>h m (Je _) (Je _) hs
 | f+1,m,h1,h2,hs,h=>by
  show cmp (p.getD m 0) (p.getD (m-1) 0) _ s;refine hc _ _ _ (g.lt _ (by lia)) (g.lt _ (by lia)) ?_
  by_cases q:rk (p.getD m 0)<rk (p.getD (m-1) 0)
  ·simp only [q,decide_true,if_true,Bi,if_false,gt_iff_lt];refine Zmb hc inj g f (m+1) (by lia) (by lia) (fun i j hij hj=>?_) fun m' a b c=>h m' (by lia) (by lia) c
   by_cases hjm:j=m
   ·subst hjm
    by_cases him:i=j-1
    ·subst him; exact q
    ·exact Int.lt_trans q (hs i (j-1) (by lia) (by lia))
   ·exact hs i j hij (by lia)
  ·simp only [q,decide_false,G3,if_false];show cmp (p.getD (m-1) 0) (p.getD m 0) _ s;refine hc _ _ _ (g.lt _ (by lia)) (g.lt _ (by lia)) ?_;have lt2:rk (p.getD (m-1) 0)<rk (p.getD m 0):=by
    have ne:rk (p.getD (m-1) 0)≠rk (p.getD m 0):=fun z=>g.ne (by lia) (by lia) (by lia:m-1≠m) (inj _ _ (g.lt _ (by lia)) (g.lt _ (by lia)) z);lia
   simp only [lt2,decide_true,if_true];exact h m (Je _) (by lia) hs
def GoodP.rev {p:Array Nat} (g:GoodP n p) (i j:Nat):GoodP n (kas_rev p i j):=⟨(mirror_perm _ _ _ _).trans g.perm⟩
theorem Zo0 (hc:CmpR rk n cmp s) (inj:∀ i j,i<n->j<n->rk i=rk j->i=j) (h2:2<=n) {p:Array Nat} (g:GoodP n p) {G:Nat×Array Nat->Shared->Prop}
  (h:∀ m p',1<=m->m<=n->GoodP n p'->SrtR rk p' m->G (m,p') s):(kas_count n p).kasWp cmp G s:=by
 unfold kas_count;rw [KasT.kasWp_bind];refine Zo6 hc g (n-1) 1 (Je _) (by lia) (fun i j hij hj=>by rw [show i=j by lia]; exact Int.le_refl _) fun m a b c d=>?_
 by_cases e:m=n
 ·subst e;simp only [beq_self_eq_true,if_true];exact h m p (by lia) (Je _) g c
 ·have hb:(m == n)=false:=by simpa using e
  simp only [hb,G3,if_false];have hd:m<n/\Rk rk p m<Rk rk p (m-1):=by
   rcases d with d | d
   ·lia
   ·exact d
  by_cases hm:m > 1
  ·rw [Dh hm];show cmp (p.getD 0 0) (p.getD (m-1) 0) _ s;refine hc _ _ _ (g.lt _ (by lia)) (g.lt _ (by lia)) ?_;have lt2:rk (p.getD 0 0)<rk (p.getD (m-1) 0):=by
    have ne:rk (p.getD 0 0)≠rk (p.getD (m-1) 0):=fun z=>g.ne (by lia) (by lia) (by lia:0≠m-1) (inj _ _ (g.lt _ (by lia)) (g.lt _ (by lia)) z);have le:=c 0 (m-1) (by lia) (by lia);unfold Rk at le;lia
   simp only [lt2,decide_true,if_true];exact h m p (by lia) (by lia) g c
  ·rw [Dg hm];have hm1:m=1:=by lia
   subst hm1;unfold kas_descPart;rw [KasT.kasWp_bind];refine Zmb hc inj g (n-2) 2 (by lia) (by lia) (fun i j hij hj=>?_) fun m' a' b' c'=>?_
   ·have:j=1:=by lia
    have:i=0:=by lia
    subst i; subst j;exact hd.2
   ·simp only [gt_iff_lt,Bi,if_false];unfold kas_tail3;rw [KasT.kasWp_bind];have hm':m'<=n:=by lia
    refine Zo6 hc (g.rev 0 m') (n-m') m' (by lia) (by lia) (fun i j hij hj=>?_) fun k a2 b2 c2 _=>?_
    ·rw [Zmn (by rw [g.size]; exact hm'),Zmn (by rw [g.size]; exact hm'),Dh (by lia),Dh hj]
     by_cases hij2:i=j
     ·subst hij2; exact Int.le_refl _
     ·exact Int.le_of_lt (c' _ _ (by lia) (by lia))
    ·show G (k,kas_rev p 0 m') s;exact h k _ (by lia) (by lia) (g.rev 0 m') c2
theorem Zbs (hc:CmpR rk n cmp s) {p:Array Nat} (g:GoodP n p) {k:Nat} (hk:k<n) (hs:SrtR rk p k) {G:Nat->Shared->Prop}
  (h:∀ l,l<=k->(∀ i,i<l->Rk rk p i<=Rk rk p k)->(∀ i,l<=i->i<k->Rk rk p k<Rk rk p i)->G l s):∀ (f l r:Nat),l<=r->r<=k->r-l<=f ->
  (∀ i,i<l->Rk rk p i<=Rk rk p k)->(∀ i,r<=i->i<k->Rk rk p k<Rk rk p i)->(kas_place p k f l r).kasWp cmp G s
 | 0,l,r,h1,h2,h3,lo,hi=>by
  have:l=r:=by lia
  subst this;exact h l h2 lo hi
 | f+1,l,r,h1,h2,h3,lo,hi=>by
  unfold kas_place
  by_cases hge:l≥r
  ·rw [Dh hge];have:l=r:=by lia
   subst this;exact h l h2 lo hi
  ·rw [Dg hge];show cmp (p.getD k 0) (p.getD ((l+r) / 2) 0) _ s;refine hc _ _ _ (g.lt _ hk) (g.lt _ (by lia)) ?_
   by_cases q:rk (p.getD k 0)<rk (p.getD ((l+r) / 2) 0)
   ·simp only [q,decide_true,if_true];exact Zbs hc g hk hs h f l ((l+r) / 2) (by lia) (by lia) (by lia) lo fun i a b=>Int.lt_of_lt_of_le q (hs _ _ a b)
   ·simp only [q,decide_false,G3,if_false];exact Zbs hc g hk hs h f ((l+r) / 2+1) r (by lia) (by lia) (by lia) (fun i a=>Int.le_trans (hs i ((l+r) / 2) (by lia) (by lia)) (Int.not_lt.mp q)) hi
theorem Zsq (hc:CmpR rk n cmp s) {G:Array Nat->Shared->Prop} (h:∀ p,GoodP n p->SrtR rk p n->G p s):∀ (f:Nat) (p:Array Nat) (k:Nat),k+f=n->GoodP n p->SrtR rk p k->(kas_bin f p k).kasWp cmp G s
 | 0,p,k,e,g,hs=>h p g (by rw [<- e]; exact hs)
 | f+1,p,k,e,g,hs=>by
  unfold kas_bin;rw [KasT.kasWp_bind];refine Zbs hc g (by lia) hs (fun l hl lo hi=>?_) k 0 k (Ge _) (Je _) (by lia) (fun i z=>absurd z (Bh _)) (fun i a b=>by lia);refine Zsq hc h f _ (k+1) (by lia) ⟨(bubble_perm _ _ _).trans g.perm⟩ fun i j hij hj=>?_;have hks:k<p.size:=by rw [g.size]; lia
  rw [Za5 hks (by lia),Za5 hks (by lia),show k-(k-l)=l by lia]
  repeat' split
  all_goals first
   | (exfalso; lia)
   | exact Int.le_refl _
   | exact lo _ (by lia)
   | exact Int.le_of_lt (hi _ (by lia) (by lia))
   | exact hs _ _ (by lia) (by lia)
theorem Zqc (hc:CmpR rk n cmp s) (inj:∀ i j,i<n->j<n->rk i=rk j->i=j) (h2:2<=n) {G:Array Nat->Shared->Prop} (h:∀ p,GoodP n p->SrtR rk p n->G p s):(kas_sort n).kasWp cmp G s:=by
 unfold kas_sort;rw [KasT.kasWp_bind];refine Zo0 hc inj h2 ⟨Array.Perm.refl _⟩ fun m p' a b g hs=>?_
 by_cases hm:m<n
 ·rw [Dh hm];have e:max m 1=m:=by lia
  rw [e];exact Zsq hc h (n-m) p' m (by lia) g hs
 ·rw [Dg hm];have:m=n:=by lia
  subst this;exact h p' g hs
end
end L2
namespace L2
open PySem PySem.W PyProof.Rows HT
theorem Zhi:∀ a:List Int,lexLt a a=false
 | []=>rfl
 | x::r=>by rw [Um,Dh rfl]; exact Zhi r
theorem Zae:∀ {a b c:List Int},lexLt a b=true->lexLt b c=true->lexLt a c=true
 | [],[],_,h,_=>by rw [Po] at h; cases h
 | [],_::_,[],_,h=>by rw [Ww] at h; cases h
 | [],_::_,_::_,_,_=>rfl
 | _::_,[],_,h,_=>by rw [Ww] at h; cases h
 | _::_,_::_,[],_,h=>by rw [Ww] at h; cases h
 | x::a,y::b,z::c,h1,h2=>by
  rw [Um] at h1 h2 ⊢
  by_cases e1:x=y
  ·subst e1;rw [Dh rfl] at h1
   by_cases e2:x=z
   ·rw [Dh e2] at h2 ⊢; exact Zae h1 h2
   ·rw [Dg e2] at h2 ⊢; exact h2
  ·rw [Dg e1] at h1;have l1:x<y:=of_decide_eq_true h1
   by_cases e2:y=z
   ·subst e2; rw [Dg e1]; exact h1
   ·rw [Dg e2] at h2;have l2:y<z:=of_decide_eq_true h2;rw [Dg (by lia)];exact Di (by lia)
theorem Zb1:∀ {a b:List Int},lexLt a b=false->lexLt b a=false->a=b
 | [],[],_,_=>rfl
 | [],_::_,h,_=>by rw [Uw] at h; cases h
 | _::_,[],_,h=>by rw [Uw] at h; cases h
 | x::a,y::b,h1,h2=>by
  rw [Um] at h1 h2
  by_cases e:x=y
  ·subst e;rw [Dh rfl] at h1 h2;rw [Zb1 h1 h2]
  ·rw [Dg e] at h1;rw [Dg (fun z=>e z.symm)] at h2;have:=of_decide_eq_false h1;have:=of_decide_eq_false h2;lia
theorem Zav {α:Type} {p q:α->Bool}:∀ {l:List α},(∀ x∈l,p x=true->q x=true)->(∃ x∈l,q x=true/\p x=false)->l.countP p<l.countP q
 | [],_,⟨_,h,_⟩=>nomatch h
 | a::l,h1,⟨x,hx,hq,hp⟩=>by
  have le:l.countP p<=l.countP q:=List.countP_mono_left fun y hy=>h1 y (Jk _ hy);rw [List.countP_cons,List.countP_cons];rcases Jq.mp hx with e | hx
  ·subst e;rw [hq,hp];simp;lia
  ·have lt:=Zav (fun y hy=>h1 y (Jk _ hy)) ⟨x,hx,hq,hp⟩;have:=h1 a Jm;cases ha:p a <;> cases hb:q a <;> simp_all <;> lia
def Wt (ks:List (List Int)) (i:Nat):Int:=((List.range ks.length).countP fun j=>lexLt (ks.getD j []) (ks.getD i []):Nat)
theorem Zgi {ks:List (List Int)} {i:Nat} (hi:i<ks.length) (h:lexLt (ks.getD i []) (ks.getD j [])=true):Wt ks i<Wt ks j:=by
 unfold Wt;have:=Zav (l:=List.range ks.length) (p:=fun x=>lexLt (ks.getD x []) (ks.getD i [])) (q:=fun x=>lexLt (ks.getD x []) (ks.getD j [])) (fun x _ hx=>Zae hx h) ⟨i,Fx.mpr hi,h,Zhi _⟩;lia
theorem Sr {ks:List (List Int)} (nd:ks.Nodup) {i:Nat} (hi:i<ks.length) (hj:j<ks.length):decide (Wt ks i<Wt ks j)=lexLt (ks.getD i []) (ks.getD j []):=by
 cases e:lexLt (ks.getD i []) (ks.getD j []) with
 | true=>exact Di (Zgi hi e)
 | false =>
  refine Dj fun z=>?_;cases e2:lexLt (ks.getD j []) (ks.getD i []) with
  | true=>have:=Zgi hj e2; lia
  | false =>
   have e3:=Zb1 e e2;unfold Wt at z;rw [e3] at z;exact absurd z (Int.lt_irrefl _)
theorem Zc9 {ks:List (List Int)} (nd:ks.Nodup) {i:Nat} (hi:i<ks.length) (hj:j<ks.length) (h:Wt ks i=Wt ks j):i=j:=by
 have e1:lexLt (ks.getD i []) (ks.getD j [])=false:=by rw [<- Sr nd hi hj]; exact Dj (by lia)
 have e2:lexLt (ks.getD j []) (ks.getD i [])=false:=by rw [<- Sr nd hj hi]; exact Dj (by lia)
 have e3:=Zb1 e1 e2;rw [Gn,Gn,Ja hi,Ja hj] at e3;exact (Bl (h₀:=hi) (h₁:=hj) nd).mp (by simpa using e3)
section
variable {w:World} 
theorem Zdn {Q:Bool->Shared->Prop}:∀ {vs ws:List Value} {ns ms:List Int} {fin:Bool} {i:Nat},IntsAre vs ns->IntsAre ws ms->(fin=decide (ns.length<ms.length))->Q (lexLt ns ms) s->KatLex prog w A true fin Q (vs.zip ws) i s
 | _,_,_,_,fin,i,.nil,.nil,e,h=>by
  subst e;exact kat_nil h
 | _,_,_,_,fin,i,.nil,.cons _ _ r,e,h=>by
  subst e;exact kat_nil (by simpa [HT.lexLt] using h)
 | _,_,_,_,fin,i,.cons _ _ r,.nil,e,h=>by
  subst e;exact kat_nil (by simpa [HT.lexLt] using h)
 | _,_,_,_,fin,i,.cons a t r,.cons c u r2,e,h=>by
  rw [List.zip_cons_cons];refine kat_cons (wpAny_eqBool_int ?_);rw [Um] at h
  by_cases z:a=c
  ·subst z;rw [Dh rfl] at h;rw [beq_self_eq_true];exact kat_yes (Zdn r r2 (by rw [e]; simp) h)
  ·rw [Dg z] at h;have hb:(a == c)=false:=by simpa using z
   rw [hb];refine kat_no ?_;cases hi:(true && i == 0) with
   | true=>exact oneLt_int h
   | false=>exact kat_one _ _ (PyProof.Rows.lt_int (show PySem.W.BoolBack Q (.bool (decide (a<c))) s from h))
end
abbrev KIt:=V×Addr×List Int
section
def Inv.pin1 {o:Obj} (I:Inv X pq σ H s) (f:FpOk X pq H b) (e:s.heap.get? b=some o) (hd:∀ v,o.data≠.cell v):Inv X (pq++[(b,o)]) σ H s :=
 I.pins_of fun p hp=>(Gc.mp hp).elim (fun z=>I.pin p (Jw _ z)) fun z=>by
  rw [Jj.mp z];exists e,f.1,f.2.1,f.2.2.1,hd
def Inv.turn1 (I:Inv X pq σ H s) (f:FpOk X pq H b) (hs:Heap.SameBut b s.heap h'):Inv X pq σ H { s with heap:=h' } :=
 I.turned (t':=s.toks) (fun c o hc e=>(hs.2 c hc).trans e) f.1 f.2.1 f.2.2.2.1 f.2.2.2.2.1 f.2.2.2.2.2
def FpOk.snoc {c:Addr} {o:Obj} (f:FpOk X pq H b) (h:c≠b):FpOk X (pq++[(c,o)]) H b :=
 ⟨f.1,f.2.1,f.2.2.1,f.2.2.2.1,f.2.2.2.2.1,fun p hp=>by
  rw [<- Gd] at hp;rcases Gc.mp hp with z | z
  ·exact f.2.2.2.2.2 p z
  ·rw [Jj.mp z]; exact h⟩
def Yl (L:List KIt):List Value:=L.map fun q=>Value.ref q.2.1
def W7 {α:Type} {f:α->β} {l:List α} {i:Nat} {d:β} (h:i<l.length):(l.map f).getD i d=f l[i]:=by
 rw [Gn,J9,Ja h]; rfl
theorem Zkk {L:List KIt} (I:Inv X pq σ H s) (hk:∀ q∈L,SqT X.K H q.2.1 (q.2.2.map V.int)/\q.2.2≠[]) (h2:0<L.length) {Q:SortKind->Shared->Prop} (h:Q (tuples' true) s) :
  wpAny (model X.prog X.w) A (keyKind' (Yl L).toArray) Q E s:=by
 have tk:∀ L':List KIt,(∀ q∈L',q∈L)->∃ fs:List Value,KatTups s.heap (Yl L') fs/\fs.length=L'.length/\∀ v∈fs,∃ n t,v=.int n t:=by
  intro L'
  induction L' with
  | nil=>intro _;exists [],.nil,rfl,fun v hv=>nomatch hv
  | cons q r ih =>
   intro hm;obtain ⟨fs,a,b,c⟩:=ih fun x hx=>hm x (Jk _ hx);obtain ⟨sq,ne⟩:=hk q (hm q Jm);obtain ⟨its,rv,⟨o,e,hc,n,hd⟩,_⟩:=I.tuple sq
   match hq:q.2.2,ne with
   | z::zs,_ =>
    rw [hq] at rv;cases rv with
    | cons rv1 rv2 =>
     obtain ⟨t,et⟩:=rv1;exists .int z t::fs,KatTups.cons e hc hd ?_ a,by simp [b],fun v hv=>?_
     ·rw [et]; simp
     ·rcases Jq.mp hv with e | hv
      ·exists z,t,e
      ·exact c v hv
 obtain ⟨fs,a,b,c⟩:=tk L fun _ h=>h;exact kat_kind (T:=.type "int") a (by lia) (fun v hv=>by obtain ⟨n,t,e⟩:=c v hv; subst e; exact .now) nofun h
def Zof {L:List KIt} (I:Inv X pq σ H s) (hk:∀ q∈L,SqT X.K H q.2.1 (q.2.2.map V.int)/\q.2.2≠[]) (nd:(L.map (·.2.2)).Nodup) :
  CmpR (Wt (L.map (·.2.2))) L.length (kas_ask X.prog X.w A (tuples' true) (Yl L)) s:=by
 intro i j C hi hj h;rw [Sr nd (by simpa using hi) (by simpa using hj),W7 hi,W7 hj] at h;unfold kas_ask;rw [show (Yl L).getD i Value.none=Value.ref L[i].2.1 from W7 hi,show (Yl L).getD j Value.none=Value.ref L[j].2.1 from W7 hj];obtain ⟨its,rv,⟨o,e,hc,n,hd⟩,_⟩:=I.tuple (hk _ (Jo hi)).1;obtain ⟨its2,rv2,⟨o2,e2,hc2,n2,hd2⟩,_⟩:=I.tuple (hk _ (Jo hj)).1;have ia:∀ {ns:List Int} {vs:List Value},Vals (ns.map V.int) vs->IntsAre vs ns:=by
  intro ns
  induction ns with
  | nil=>intro vs h; cases h; exact .nil
  | cons a r ih =>
   intro vs h;cases h with
   | cons h1 h2=>obtain ⟨t,e⟩:=h1; subst e; exact .cons a t (ih h2)
 refine kat_lt e hd e2 hd2 ?_;have i1:=ia rv;have i2:=ia rv2;exact Zdn i1 i2 (by rw [<- i1.length,<- i2.length]; simp) h
end
section
abbrev PD (D:Addr) (e1:Nat):Addr×Obj:=(D,seqObj "list" #[] e1)
abbrev PKs (kS:Addr) (e:Nat) (L:List KIt):Addr×Obj:=(kS,seqObj "list" (Yl L).toArray e)
theorem Vals.perm_get {L:List KIt} (rv:Vals (L.map (·.1)) its) {p:List Nat} (hp:∀ i∈p,i<L.length):Vals (p.map fun i=>(L.getD i (.non,0,[])).1) (p.map fun i=>its.getD i Value.none):=by
 have e:=rv.length;simp only [Jb] at e
 induction p with
 | nil=>exact .nil
 | cons i r ih =>
  have hi:=hp i Jm;have hi2:i<its.length:=by lia
  obtain ⟨u,hu,r1⟩:=Vals.get rv (i:=i) (x:=L[i].1) (by rw [J9,Ja hi]; rfl);refine .cons ?_ (ih fun j hj=>hp j (Jk _ hj));show RelV (L.getD i (.non,0,[])).1 (its.getD i Value.none);rw [Gn,Gn,hu,Ja hi];exact r1
theorem Nv {D kS:Addr} {e e1:Nat} {L L':List KIt} {st:SortSt} {out:List Value} {P:PySem.Fin->Shared->Prop} (I:Inv X ((pq++[PD D e1])++[PKs kS e L]) σ H s) (h64:L.length<64) (fD:FpOk X pq H D) (fK:FpOk X (pq++[PD D e1]) H kS)
  (hout:(arrOf st).map (·.2)=out.toArray) (hf:failedOf st=none) (rv:Vals (L'.map (·.1)) out) (hl:L'.length=L.length)
  (h:∀ s',Inv X pq σ (upd H D (.lst (L'.map (·.1)))) s'->P (.done (.ret .none)) s'):wpAny (model X.prog X.w) A (ksk_tail D false e1 (.ref kS) st) P E s:=by
 have pk:=I.pin (PKs kS e L) (Jw _ (Jw _ (Jj.mpr rfl)));have s1:=Heap.SameBut.update s.heap kS (Obj.mapSeq fun _=>(#[]:Array Value));have I1:=(I.unpinned (pl:=[PKs kS e L])).turn1 fK s1;have pd:=I1.pin (PD D e1) (Jw _ (Jw _ (Jj.mpr rfl)));have s2:=Heap.SameBut.update (s.heap.update kS (Obj.mapSeq fun _=>(#[]:Array Value))) D (Obj.mapSeq fun _=>out.toArray);obtain ⟨c2,hc2⟩:∃ c2,((s.heap.update kS (Obj.mapSeq fun _=>(#[]:Array Value))).update D (Obj.mapSeq fun _=>out.toArray)).get? D=some (seqObj "list" out.toArray c2):=⟨_,get?_update_seq pd.1 fun _=>out.toArray⟩;have lo:out.length=L.length:=by have:=rv.length; simp only [Jb] at this; lia
 have hz:L'.length<=sizeLine:=by rw [sizeLine_eq]; lia
 unfold ksk_tail
 try dsimp only
 rw [hout];refine Da (listUpdate_at pk.1 rfl ?_ (by simp only [Jp,Yl,Jb,sizeLine_eq]; lia) (Ge _));refine Da (wpAny_letGo ?_);refine Da (seqEpoch_at pd.1 rfl ?_);refine Da (listUpdate_at pd.1 rfl ?_ (Ge _) (by simp only [Jp,sizeLine_eq,G3,if_false]; lia));rw [hf];simp only [bne_self_eq_false,G3,if_false];refine Db (h _ ?_);have I2:=(I1.unpinned (pl:=[PD D e1])).turn1 fD s2;exact I2.track (its:=out) (n:=c2) hc2 fD rv (by rw [Jb]; exact hz)
theorem Zjq {D kS:Addr} {e e1:Nat} {L:List KIt} {P:PySem.Fin->Shared->Prop} (I:Inv X ((pq++[PD D e1])++[PKs kS e L]) σ H s) (h64:L.length<64) (fD:FpOk X pq H D) (fK:FpOk X (pq++[PD D e1]) H kS)
  (hk:∀ q∈L,SqT X.K H q.2.1 (q.2.2.map V.int)/\q.2.2≠[]) (nd:(L.map (·.2.2)).Nodup) (rv:Vals (L.map (·.1)) its)
  (h:∀ (s':Shared) (L':List KIt),L'.Perm L->L'.Pairwise (fun a b=>HT.lexLt a.2.2 b.2.2=true)->Inv X pq σ (upd H D (.lst (L'.map (·.1)))) s'->P (.done (.ret .none)) s') :
  wpAny (model X.prog X.w) A (ksk_end D false its.toArray e1 (.ref kS) (Yl L).toArray) P E s:=by
 have el:its.length=L.length:=by have:=rv.length; simp only [Jb] at this; lia
 have ek:(Yl L).length=its.length:=by rw [el]; simp [Yl]
 unfold ksk_end
 try dsimp only
 simp only [G3,if_false]
 by_cases h2:its.toArray.size<2
 ·rw [Dh h2];refine Da (Db ?_);rw [Dh h2];have h2':its.length<2:=by simpa using h2
  refine Da (m:=(pure ():StateT SortSt Sem Unit).run _) (Db ?_);refine Nv (L':=L) (out:=its) I h64 fD fK ?_ rfl rv rfl fun s'=>h s' L (List.Perm.refl _) ?_
  ·show (((Yl L).toArray.zip its.toArray).map (·.2))=its.toArray
   apply Array.toList_inj.mp
   rw [Array.toList_map,ksk_zip];simp only [List.map_snd_zip (by lia:its.length<=(Yl L).length)]
  ·match L,el with
   | [],_=>exact .nil
   | [q],_=>exact List.pairwise_singleton _ _
   | _::_::_,el=>simp only [Jz] at el; lia
 ·rw [Dg h2,Dg h2];have h2':2<=its.length:=by simpa using h2
  refine Da (Zkk (I.unpinned (pl:=[PKs kS e L])) hk (by lia) ?_);refine Da (Dn (kat_run (vs:=its) (ks:=Yl L) (G:=fun p s'=>s'=s/\GoodP L.length p/\SrtR (Wt (L.map (·.2.2))) p L.length) (Q:=fun st' s'=>∃ p:Array Nat,s'=s/\GoodP L.length p/\SrtR (Wt (L.map (·.2.2))) p L.length/\arrOf st'=p.map (kas_item ((Yl L).toArray.zip its.toArray))/\failedOf st'=none) ek h2' (by lia)
   (fun p st' s' a1 a2 a3 a4=>⟨p,a4.1,a4.2.1,a4.2.2,a2,a3⟩)
   (by
    rw [el];exact Zqc (Zof (I.unpinned (pl:=[PKs kS e L])) hk nd) (fun i j hi hj z=>Zc9 nd (by simpa using hi) (by simpa using hj) z) (by lia) (G:=fun p s'=>s'=s/\GoodP L.length p/\SrtR (Wt (L.map (·.2.2))) p L.length) fun p g hs=>⟨rfl,g,hs⟩)) ?_ fun _ _ x=>x)
  rintro ⟨⟨⟩,st'⟩ s' ⟨p,rfl,g,hs,har,hf⟩;have hp:∀ i∈p.toList,i<L.length:=fun i hi=>by
   have:=(B4.mp g.perm).mem_iff.mp hi;simpa using this
  have pl:p.toList.Perm (List.range L.length):=by have:=B4.mp g.perm; simpa using this
  have hmap:∀ (F:KIt->V),(p.toList.map fun i=>F (L.getD i (.non,0,[])))=(p.toList.map fun i=>L.getD i (.non,0,[])).map F:=fun F=>by rw [Gm]; rfl
  have rangeL:(List.range L.length).map (fun i=>L.getD i (.non,0,[]))=L:=by
   apply List.ext_getElem
   ·simp
   ·intro i h1 h2; simp [Gn,h2]
  refine Nv (L':=p.toList.map fun i=>L.getD i (.non,0,[])) (out:=p.toList.map fun i=>its.getD i Value.none) I h64 fD fK (kat_snds ek har) hf (by rw [<- hmap (·.1)]; exact Vals.perm_get rv hp) (by rw [Jb,Bs,g.size]) fun s'=>h s' _ ?_ ?_
  ·have:=pl.map fun i=>L.getD i (.non,0,[]);rwa [rangeL] at this
  ·rw [Bt];intro i j hi hj hij;simp only [Jb,Bs,g.size] at hi hj;have gi:=g.lt i hi;have gj:=g.lt j hj;have hle:=hs i j (B9 hij) hj;have hne:=g.ne hi hj (Gg hij);unfold Rk at hle;have hlt:Wt (L.map (·.2.2)) (p.getD i 0)<Wt (L.map (·.2.2)) (p.getD j 0):=by
    rcases Int.lt_or_eq_of_le hle with z | z
    ·exact z
    ·exact absurd (Zc9 nd (by simpa using gi) (by simpa using gj) z) hne
   have hd:=Sr nd (i:=p.getD i 0) (j:=p.getD j 0) (by simpa using gi) (by simpa using gj);rw [Di hlt,W7 gi,W7 gj] at hd;have ei:p.getD i 0=p[i]'(by rw [g.size]; exact hi):=by simp [Array.getD,g.size,hi]
   have ej:p.getD j 0=p[j]'(by rw [g.size]; exact hj):=by simp [Array.getD,g.size,hj]
   simp only [Gz,Array.getElem_toList,Gn];have gi':=gi;have gj':=gj;rw [ei] at gi';rw [ej] at gj';rw [Ja gi',Ja gj'];simp only [ei,ej] at hd;exact hd.symm
end
section
theorem Zf5 {D kS f:Addr} {e1:Nat} {L:List KIt} {P:PySem.Fin->Shared->Prop} (I:Inv X ((pq++[PD D e1])++[PKs kS 0 []]) σ H s) (h64:L.length<64) (fD:FpOk X pq H D) (fK:FpOk X (pq++[PD D e1]) H kS)
  (hk:∀ q∈L,SqT X.K H q.2.1 (q.2.2.map V.int)/\q.2.2≠[]) (nd:(L.map (·.2.2)).Nodup) (rv:Vals (L.map (·.1)) its)
  (hcall:∀ (pins':List (Addr×Obj)) (s':Shared) (q:KIt) (u:Value),(∀ p∈pq,p∈pins')->Inv X pins' σ H s'->q∈L->RelV q.1 u->wpAny (model X.prog X.w) A (call (.ref f) [u]) (EP X pins' σ fun v H'=>v=.ref q.2.1/\H'=H) (fun _ _=>False) s')
  (h:∀ (s':Shared) (L':List KIt),L'.Perm L->L'.Pairwise (fun a b=>HT.lexLt a.2.2 b.2.2=true)->Inv X pq σ (upd H D (.lst (L'.map (·.1)))) s'->P (.done (.ret .none)) s') :
  wpAny (model X.prog X.w) A (ksk_rest D (.ref f) false its.toArray e1 (.ref kS)) P E s:=by
 have el:its.length=L.length:=by have:=rv.length; simp only [Jb] at this; lia
 unfold ksk_rest;refine Da (wpAny_rule ?_)
 first
  | rw [List.forIn_toArray]
  | (rw [<- Array.forIn_toList]; simp only [List.toList_toArray])
  | rw [<- Array.forIn_toList]
 refine Da (ksk_fold (fun n s'=>∃ e,Inv X ((pq++[PD D e1])++[PKs kS e (L.take n)]) σ H s') its 0 s ⟨0,by simpa using I⟩ (fun j x s' hx ⟨e,J⟩=>?_) fun s' ⟨e,J⟩=>?_)
 ·simp only [Nat.zero_add] at J ⊢;have hj:j<its.length:=(Jh.mp hx).1;have hj':j<L.length:=by lia
  obtain ⟨u,hu,r1⟩:=Vals.get rv (i:=j) (x:=L[j].1) (by rw [J9,Ja hj']; rfl);rw [hx] at hu;cases hu;refine Da (wpAny_attempt (Dn (hcall _ s' L[j] x (fun p hp=>Bc _ (Bc _ hp)) J (Jo hj') r1) (fun k s'' hkk=>?_) fun _ _ hF=>hF.elim));obtain ⟨v,H',J',rk,ev,eH⟩:=hkk;subst ev;subst eH;obtain rfl:k=Value.ref L[j].2.1:=rk;have pk:=J'.pin (PKs kS e (L.take j)) (Jw _ (Jw _ (Jj.mpr rfl)));have s1:=Heap.SameBut.update s''.heap kS (Obj.mapSeq (·.push (Value.ref L[j].2.1)));have ea:(Yl (L.take j)).toArray.push (Value.ref L[j].2.1)=(Yl (L.take (j+1))).toArray:=by
   have e2:Yl (L.take (j+1))=Yl (L.take j)++[Value.ref L[j].2.1]:=by
    unfold Yl;rw [Jf hj',Jg];rfl
   rw [e2,List.push_toArray]
  obtain ⟨c2,hc2⟩:∃ c2,(s''.heap.update kS (Obj.mapSeq (·.push (Value.ref L[j].2.1)))).get? kS=some (seqObj "list" (Yl (L.take (j+1))).toArray c2):=⟨_,by rw [<- ea]; exact get?_update_seq pk.1 (·.push (Value.ref L[j].2.1))⟩;have hsz:(Yl (L.take j)).toArray.size<64:=by simp only [Jp,Yl,Jb,Jn]; lia
  try dsimp only
  refine Da (listUpdate_at pk.1 rfl ?_ (by rw [sizeLine_eq]; show (Yl (L.take j)).toArray.size<=_; lia) (Jv (Bw (Array.size_push ..)) (by rw [sizeLine_eq]; show (Yl (L.take j)).toArray.size+1<=_; lia)));refine Db ⟨rfl,c2,?_⟩;have J1:=(J'.unpinned (pl:=[PKs kS e (L.take j)])).turn1 fK s1;exact J1.pin1 fK hc2 (by intro v; simp)
 ·simp only [Nat.zero_add] at J;rw [el,Jt] at J;have pk:=J.pin (PKs kS e L) (Jw _ (Jw _ (Jj.mpr rfl)))
  try dsimp only
  refine Da (listItems_at pk.1 rfl ?_);exact Zjq J h64 fD fK hk nd rv h
theorem Zmz {f:Addr} {L:List KIt} (I:Inv X pq σ H s) (hl:SqL X.K H l (L.map (·.1))) (h64:L.length<64)
  (hk:∀ q∈L,SqT X.K H q.2.1 (q.2.2.map V.int)/\q.2.2≠[]) (nd:(L.map (·.2.2)).Nodup)
  (hcall:∀ (pins':List (Addr×Obj)) (s':Shared) (q:KIt) (u:Value),(∀ p∈pq,p∈pins')->Inv X pins' σ H s'->q∈L->RelV q.1 u->wpAny (model X.prog X.w) X.A.in1.in1 (call (.ref f) [u]) (EP X pins' σ fun v H'=>v=.ref q.2.1/\H'=H) (fun _ _=>False) s')
  (h:∀ (D:Addr) (L':List KIt),H D=none->L'.Perm L->L'.Pairwise (fun a b=>HT.lexLt a.2.2 b.2.2=true)->Q (.ref D) (upd H D (.lst (L'.map (·.1))))) :
  wpAny (model X.prog X.w) X.A (call (.builtin "sorted") [.ref l] [(Str.ofString "key",.ref f)]) (EP X pq σ Q) E s:=by
 obtain ⟨its,rv,pl,_⟩:=I.list hl;have el:its.length=L.length:=by have:=rv.length; simp only [Jb] at this; lia
 refine call_function_entry_kw kind_sorted plain_sorted entry_sorted (ksk_s1 _ _) ?_;unfold Builtin.«sorted»;refine Da (m:=checkCount "sorted" 1 1 _) (Db ?_);refine Da (collect_list pl.isList ?_ (by rw [sizeLine_eq]; lia));refine Da (wpAny_newList ?_ (by rw [sizeLine_eq]; lia));have hsz:((s.heap.push (seqObj "list" #[] 0)).update s.heap.objs.size (Obj.mapSeq (·++its.toArray))).objs.size=s.heap.objs.size+1:=by
  rw [Heap.size_update,size_push']
 have hoL:(((s.heap.push (seqObj "list" #[] 0)).update s.heap.objs.size (Obj.mapSeq (·++its.toArray))).push (seqObj "list" its.toArray 0)).get? (s.heap.objs.size+1)=some (seqObj "list" its.toArray 0):=by
  rw [<- hsz]; exact De _ rfl
 have keep:∀ b o,s.heap.get? b=some o->(((s.heap.push (seqObj "list" #[] 0)).update s.heap.objs.size (Obj.mapSeq (·++its.toArray))).push (seqObj "list" its.toArray 0)).get? b=some o:=fun b o q=>by
  have hlt:b<s.heap.objs.size:=Df q;rw [Heap.get?_push_ne _ _ _ (by rw [hsz]; exact Gg (Bx hlt)),Heap.get?_update_ne _ _ _ _ (Gg hlt),Heap.get?_push_ne _ _ _ (Gg hlt)];exact q
 have fD:FpOk X pq H (s.heap.objs.size+1):=I.fpOk (Bn _) (I.hok.fresh (Bn _));have I1:Inv X pq σ H { s with heap:=((s.heap.push (seqObj "list" #[] 0)).update s.heap.objs.size (Obj.mapSeq (·++its.toArray))).push (seqObj "list" its.toArray 0) }:=I.kept (t':=s.toks) keep;show wpAny _ _ _ _ _ { s with heap:=((s.heap.push (seqObj "list" #[] 0)).update s.heap.objs.size (Obj.mapSeq (·++its.toArray))).push (seqObj "list" its.toArray 0) };rw [hsz];generalize hD:s.heap.objs.size+1=D at *
 generalize hh:((s.heap.push (seqObj "list" #[] 0)).update s.heap.objs.size (Obj.mapSeq (·++its.toArray))).push (seqObj "list" its.toArray 0)=hp at *
 refine Da (wpAny_holding (wpAny_call_entry_kw slot_list_sort ⟨_,hoL,rfl⟩ entry_list_sort ?body (ksk_l1 _ _)))
 case body =>
  show wpAny (model X.prog X.w) X.A.in1.in1 (Builtin.«list.sort» ⟨[.ref D],[(Str.ofString "key",.ref f)]⟩) _ _ _;rw [ksk_t1];have s1:=Heap.SameBut.update hp D (Obj.mapSeq fun _=>(#[]:Array Value));obtain ⟨e1,ho1⟩:∃ e1,(hp.update D (Obj.mapSeq fun _=>(#[]:Array Value))).get? D=some (seqObj "list" #[] e1):=⟨_,get?_update_seq hoL fun _=>#[]⟩;have I2:=(I1.turn1 fD s1).pin1 fD ho1 (by intro v; simp);have I3:Inv X (pq++[PD D e1]) σ H { s with heap:=((hp.update D (Obj.mapSeq fun _=>(#[]:Array Value))).push (seqObj "tuple" its.toArray 0)).push (seqObj "list" #[] 0) } :=
   I2.kept (t':=s.toks) fun b o e=>Dd _ (Dd _ e)
  have hKz:(hp.update D (Obj.mapSeq fun _=>(#[]:Array Value))).objs.size<=((hp.update D (Obj.mapSeq fun _=>(#[]:Array Value))).push (seqObj "tuple" its.toArray 0)).objs.size:=by rw [size_push']; exact Bn _
  have fK:FpOk X (pq++[PD D e1]) H ((hp.update D (Obj.mapSeq fun _=>(#[]:Array Value))).push (seqObj "tuple" its.toArray 0)).objs.size:=I2.fpOk hKz (I2.hok.fresh hKz);unfold ksk_tree;refine Da (listItems_at hoL rfl ?_);refine Da (listUpdate_at hoL rfl ?_ (by rw [Jp,sizeLine_eq]; lia) (Ge _));refine Da (seqEpoch_at ho1 rfl ?_);refine Da (wpAny_newTuple ?_ (by show its.length<=_; rw [sizeLine_eq]; lia));refine Da (wpAny_newList ?_ (Ge _));refine wpAny_holding ?_;refine Zf5 (L:=L) (I3.pin1 fK (De _ rfl) (by intro v; simp)) h64 fD fK hk nd rv hcall fun s' L' p w I'=>?_;exists ·,Db ⟨_,rfl,.ref D,_,I',rfl,h D L' fD.1 p w⟩
end
def codeφ (c:Addr) (q:Str):HO:=.ext fun h=>h.CodeRec (.ref c) q
def W9 (P:Addr) (pos:Pos) (q:Str) (H:Hp):Prop :=
 ∃ ps,H P=some (.tbl ps)/\TriplesOk ps.toList/\(codeAmong pos ps.toList=none\/∃ c,codeAmong pos ps.toList=some (.ref c)/\H c=some (codeφ c q))
def U9 (P:Addr) (H H':Hp):Prop:=∀ b o,b≠P->H b=some o->H' b=some o
def U9.refl (P:Addr) (H:Hp):U9 P H H:=fun _ _ _ h=>h
def U9.trans {P:Addr} (a:U9 P H H1) (b:U9 P H1 H2):U9 P H H2:=fun c o n h=>b c o n (a c o n h)
def W9.same {P:Addr} {q:Str} (t:W9 P pos q H) (s:Same H H'):W9 P pos q H':=by
 obtain ⟨ps,a,b,c⟩:=t;exists ps,s _ _ a,b,?_;rcases c with c | ⟨c',d,e⟩
 ·exact .inl c
 ·exact .inr ⟨c',d,s _ _ e⟩
def Bm (mg:Str->Option Value) (h:Heap):Prop:=∃ bm ob,mg "__builtins__"=some (.ref bm)/\bm≠builtinsNs/\h.get? bm=some ob/\ob.cls=.type "module"/\ob.dict=some builtinsNs/\ob.data=.plain
abbrev Ti (q:Str) (params:Arguments) (body:Expr) (scope:Scope) (pm cv ctv:Value):Obj :=
 { cls:=.type "function",data:=.func (kla_fn "<lambda>" q params body scope [] pm cv ctv) }
section
def Zk0 {c:Addr} {q:Str} (x:h.CodeRec (.ref c) q) {w:World}:Yw P w H h c (codeφ c q) :=
 ⟨x,let ⟨c',o,_,_,e,ho,_⟩:=x; ⟨o,by cases e; exact ho⟩,fun _ _ a b=>a.at fun o e=>b o e⟩
def Zki {params:Arguments} {body:Expr} {scope:Scope} {c P:Addr} {R:Value->Shared->Prop} (I:Inv X pq σ H s) (hcode:X.env.code=.ref c) (C:CodeHd X.base c P) (B:Bm X.mg X.base)
  (T:W9 P pos (X.env.qual++"<lambda>") H) (hcl:closureFor scope X.env=pure []) (hdef:defaultsOf params X.env=([],[]))
  (h:∀ (f c':Addr) (pm ctv:Value) (H2:Hp) (s2:Shared),U9 P H H2->W9 P pos (X.env.qual++"<lambda>") H2->H2 c'=some (codeφ c' (X.env.qual++"<lambda>")) ->
   Inv X (pq++[(f,Ti (X.env.qual++"<lambda>") params body scope pm (.ref c') ctv)]) σ H2 s2->R (.ref f) s2) :
  wpAny (model X.prog X.w) X.A (eval (.Lambda params body scope pos) X.env) R E s:=by
 obtain ⟨ps,hP,ht,hc⟩:=T;have oP:s.heap.get? P=some (tabObj ps):=I.hok P _ hP;obtain ⟨bm,ob,b1,b2,b3,b4,b5,b6⟩:=B;have gl:s.heap.Ns mainGlobals X.mg:=I.mod.glob.keeps I.bk;have hgP:mainGlobals≠P:=fun z=>by
  obtain ⟨o,es,ep,e,hd,_⟩:=gl;rw [z,oP] at e; cases e; cases hd
 have hbP:bm≠P:=fun z=>by
  have e:=I.bk _ _ b3;rw [z,oP] at e; cases e; cases b4
 have hbG:bm≠mainGlobals:=fun z=>by
  obtain ⟨o,es,ep,e,hd,_⟩:=gl;have e3:=I.bk _ _ b3;rw [z,e] at e3; cases e3; rw [hd] at b6; cases b6
 have BA:s.heap.BuiltinsAt X.mg P:=⟨bm,ob,b1,b2,hbG,hbP,I.bk _ _ b3,b4,b5,b6⟩;refine kla_eval hdef ?_;rcases hc with hc | ⟨c',hc,hx⟩
 ·refine kla_makeFunction (mg:=X.mg) hcl I.ok.glob gl hcode (C.keeps I.bk) oP ht hc hgP BA fun c' ctv h' tk hx hge hlt hrec htb=>?_;have hn:H c'=none:=I.hok.fresh hge;have cP:c'≠P:=fun z=>by rw [z,hP] at hn; cases hn
  have cR:(h'.push (Ti (X.env.qual++"<lambda>") params body scope ((X.mg "__name__").getD .none) (.ref c') ctv)).CodeRec (.ref c') (X.env.qual++"<lambda>"):=hrec.at fun o e=>Dd _ e;have keep:∀ b o,b≠P->s.heap.get? b=some o->(h'.push (Ti (X.env.qual++"<lambda>") params body scope ((X.mg "__name__").getD .none) (.ref c') ctv)).get? b=some o:=fun b o n e=>Dd _ (hx b o n e);have tb:=Dd (Ti (X.env.qual++"<lambda>") params body scope ((X.mg "__name__").getD .none) (.ref c') ctv) htb;have H2e:∀ b o,b≠P->H b=some o->upd (upd H P (.tbl (ps++#[rawInt pos.line,rawInt pos.col,.ref c']))) c' (codeφ c' (X.env.qual++"<lambda>")) b=some o:=fun b o n e=>by
   rw [Zl (Zp e hn),Zl n]; exact e
  have hok:HOk X.prog X.w (upd (upd H P (.tbl (ps++#[rawInt pos.line,rawInt pos.col,.ref c']))) c' (codeφ c' (X.env.qual++"<lambda>"))) (h'.push (Ti (X.env.qual++"<lambda>") params body scope ((X.mg "__name__").getD .none) (.ref c') ctv)):=fun b u e=>by
   by_cases hb:b=c'
   ·subst hb;rw [Zd] at e;cases e;exact Zk0 cR
   ·rw [Zl hb] at e
    by_cases hb2:b=P
    ·subst hb2;rw [Zd] at e;cases e;exact tb
    ·rw [Zl hb2] at e;refine (I.hok b u e).stay (fun d v hd q=>keep d v ?_ q) (fun d q=>H2e d _ (fun z=>by rw [z,hP] at q; cases q) q) fun d xs q=>H2e d _ (fun z=>by rw [z,hP] at q; cases q) q;rcases hd with z | z
     ·rw [z]; exact hb2
     ·intro w; rw [w,hP] at z; cases z
  have un:Un X.fs [] H (upd (upd H P (.tbl (ps++#[rawInt pos.line,rawInt pos.col,.ref c']))) c' (codeφ c' (X.env.qual++"<lambda>"))) s.heap (h'.push (Ti (X.env.qual++"<lambda>") params body scope ((X.mg "__name__").getD .none) (.ref c') ctv)):=by
   have nP:∀ b,H b=none->b≠P:=fun b n z=>by rw [z,hP] at n; cases n
   exists fun b o e n _ _=>keep b o (nP b n) e,fun b o e n _ _=>⟨o.slots,keep b o (nP b n) e⟩,fun b o e n _=>?_,fun b o e _=>?_,fun b xs q=>H2e b _ (fun z=>by rw [z,hP] at q; cases q) q,fun b o u q=>H2e b _ (fun z=>by rw [z,hP] at q; cases q) q,fun b qs q=>?_
   ·have:b≠c':=Gg (Ga (Df e) hge);rw [Zl this,Zl (nP b n)];exact n
   ·by_cases hb:b=P
    ·exists _,hb ▸ tb
    ·exists o,keep b o hb e
   ·by_cases hb:b=P
    ·subst hb;rw [hP] at q;cases q;exact ⟨#[rawInt pos.line,rawInt pos.col,.ref c'],by rw [Zl cP.symm,Zd]⟩
    ·exact ⟨#[],by rw [H2e b _ hb q]; simp⟩
  have I2:=I.un (t':=tk) un hok;have fz:s.heap.objs.size<=h'.objs.size:=Jv hge (B9 hlt);have fn:upd (upd H P (.tbl (ps++#[rawInt pos.line,rawInt pos.col,.ref c']))) c' (codeφ c' (X.env.qual++"<lambda>")) h'.objs.size=none:=by
   rw [Zl (Fy hlt),Zl (fun z=>absurd (Df oP) (by rw [<- z]; exact Nat.not_lt.mpr fz))];exact I.hok.fresh fz
  have fF:=I.fpOk (H':=upd (upd H P (.tbl (ps++#[rawInt pos.line,rawInt pos.col,.ref c']))) c' (codeφ c' (X.env.qual++"<lambda>"))) fz fn;refine h h'.objs.size c' _ ctv _ _ H2e ⟨_,by rw [Zl cP.symm,Zd],?_,.inr ⟨c',?_,Zd⟩⟩ Zd (I2.pin1 fF (De _ rfl) (by intro v; simp))
  ·rw [Array.toList_append]; exact TriplesOk_snoc _ _ _ _ ht
  ·rw [Array.toList_append]; exact codeAmong_snoc _ ht hc
 ·refine kla_makeFunctionHit (mg:=X.mg) hcl I.ok.glob gl hcode (C.keeps I.bk) oP ht hc BA fun ctv h' tk hk hsz=>?_;have I2:Inv X pq σ H { s with heap:=h'.push (Ti (X.env.qual++"<lambda>") params body scope ((X.mg "__name__").getD .none) (.ref c') ctv),toks:=tk }:=I.kept (t':=tk) fun b o e=>Dd _ (hk b o e);have fF:=I.fpOk (H':=H) hsz (I.hok.fresh hsz);exact h h'.objs.size c' _ ctv H _ (.refl _ _) ⟨ps,hP,ht,.inr ⟨c',hc,hx⟩⟩ hx (I2.pin1 fF (De _ rfl) (by intro v; simp))
def Zod {Pg:Program} {w:World} {K:Frag} {base:Heap} {outer:List Env} {f c':Addr} {q x:Str} {params:Arguments} {body:Expr} {scope:Scope} {ctv:Value} {u:Value} {v:V} {t:TE}
  (e0:Env0 Pg w K mg base A outer s H) (hr:Room 1 A) (ho:s.heap.get? f=some (Ti q params body scope pm (.ref c') ctv)) (hcd:s.heap.CodeRec (.ref c') q) (S:FnScope [x] [x] scope)
  (hbind:bindArgs (kla_fn "<lambda>" q params body scope [] pm (.ref c') ctv) ⟨[u],[]⟩=pure [(x,u)]) (rv:RelV v u)
  (hb:PE (cxOf CX0 Pg w K mg base [x] q scope f (.ref c') A outer s H E0) body t) (ht:t [some v] H Q) :
  codeAny (model Pg w) A (.call (.ref f) ⟨[u],[]⟩) (CR CX0 outer Pg w H s Q E0) s:=by
 have KX:K.In s.heap:=e0.mod.kin.keeps fun b o e=>(e0.bs b o e).1;have lim:s.heap.NoLimit:=e0.mod.nolimit.keeps fun b o e=>(e0.bs b o e).1;refine kla_callFunE hr.depth ho rfl S.co S.gen rfl hcd ?_;rw [hbind];refine Db ?_;refine wpAny_newFunctionEnv_cells S.kind (fun y hy=>?_) fun env he s1 x1=>?_
 ·have ey:y=(x,u):=Jj.mp hy;subst ey;rcases S.par x (Jj.mpr rfl) with z | z
  ·exact .inl z
  ·exact .inr ⟨z,PySem.W.cellsFrom_some _ _ _ (.inl z)⟩
 ·subst he;exists lim.keeps x1.toInCall.keep,kla_codeExpr ?_;have I:Inv (cxOf CX0 Pg w K mg base [x] q scope f (.ref c') A outer s H E0) [] (Uz [x] [v]) H s1:=Zah (us:=[u]) S hr.hd e0 rfl (.cons rv .nil) x1;refine Dn (hb [] s1 (Uz [x] [v]) H Q I ht) (fun r s' hs=>?_) fun e s' hs=>hs;obtain ⟨v',H',J,rv',q'⟩:=hs;exists v',H',J.os,J.bare,J.base,J.hok,rv',q'
end
def U9.sqL {K:Frag} {P:Addr} {ps:Array Value} (e:U9 P H H') (hP:H P=some (.tbl ps)) {a:Addr} (h:SqL K H a xs):SqL K H' a xs:=by
 rcases h with (h | ⟨o,h⟩) | h
 ·exact .inl (.inl (e _ _ (fun z=>by rw [z,hP] at h; cases h) h))
 ·exact .inl (.inr ⟨o,e _ _ (fun z=>by rw [z,hP] at h; cases h) h⟩)
 ·exact .inr h
def U9.sqT {K:Frag} {P:Addr} {ps:Array Value} (e:U9 P H H') (hP:H P=some (.tbl ps)) {a:Addr} (h:SqT K H a xs):SqT K H' a xs:=by
 rcases h with (h | ⟨o,h⟩) | h
 ·exact .inl (.inl (e _ _ (fun z=>by rw [z,hP] at h; cases h) h))
 ·exact .inl (.inr ⟨o,e _ _ (fun z=>by rw [z,hP] at h; cases h) h⟩)
 ·exact .inr h
def Zp4 (K:Frag) (P:Addr) (lpos:Pos) (qual:Str) (tb:TE) (ta:TA):TE:=fun σ H Q=>ta σ H fun vs H1=>∃ (l:Addr) (L:List KIt),vs=[.ref l]/\SqL K H1 l (L.map (·.1))/\L.length<64 /\
 (∀ q∈L,SqT K H1 q.2.1 (q.2.2.map V.int)/\q.2.2≠[])/\(L.map (·.2.2)).Nodup/\W9 P lpos qual H1/\(∀ H2 q,U9 P H1 H2->q∈L->tb [some q.1] H2 fun v H'=>v=.ref q.2.1/\H'=H2) /\
 ∀ (H2:Hp) (D:Addr) (L':List KIt),U9 P H1 H2->W9 P lpos qual H2->H2 D=none->L'.Perm L->L'.Pairwise (fun a b=>HT.lexLt a.2.2 b.2.2=true)->Q (.ref D) (upd H2 D (.lst (L'.map (·.1))))
section
theorem Zj5 {e:Expr} {ta:TA} {c P:Addr} {x:Str} {params:Arguments} {body:Expr} {scope:Scope} {p lpos kpos:Pos} (hr:Room 3 X.A) (hg:Gl X "sorted") (hm:X.mg "sorted"=none) (ha:PA X [e] ta) (hcode:X.env.code=.ref c)
  (C:CodeHd X.base c P) (B:Bm X.mg X.base) (hcl:closureFor scope X.env=pure []) (hdef:defaultsOf params X.env=([],[])) (S:FnScope [x] [x] scope)
  (hbind:∀ (pm cv ctv u:Value),bindArgs (kla_fn "<lambda>" (X.env.qual++"<lambda>") params body scope [] pm cv ctv) ⟨[u],[]⟩=pure [(x,u)])
  (hb:∀ (f c':Addr) (A:Around) (outer:List Env) (s:Shared) (H:Hp),PE (cxOf CX0 X.prog X.w X.K X.mg X.base [x] (X.env.qual++"<lambda>") scope f (.ref c') A outer s H E0) body tb)
  (he:starEach [e] X.env=[(false,eval e X.env)]:=by rfl) :
  PE X (.Call (.Name "sorted" p) [e] [⟨some "key",.Lambda params body scope lpos,kpos⟩] pos) (Zp4 X.K P lpos (X.env.qual++"<lambda>") tb ta):=by
 intro pq s σ H Q I h;refine wpAny_Call_Name_kw (Sg I hg hm PyProof.Rows.boot_sorted ?_);refine callWith_kw (thn (ha pos pq s σ H _ I h) fun us s1 hz=>?_) (by rw [he]; rfl) (by rw [he]; rfl);obtain ⟨vs,H1,I1,r1,l,L,ev,hl,h64,hk,nd,T,hbo,q1⟩:=hz;subst ev;obtain ⟨u,rfl,ru⟩:=Vals.one r1;obtain rfl:u=Value.ref l:=ru;obtain ⟨ps,hP,_,_⟩:=id T;show wpAny _ _ (evalAll [do let v <- eval (.Lambda params body scope lpos) X.env; standAt pos; pure v]) _ _ s1;refine wpAny_evalAll_cons (Da (Zki I1 hcode C B T hcl hdef fun f c' pm ctv H2 s2 sT T2 hx I2=>Da (wpAny_standAt (Db (wpAny_evalAll_nil ?_)))));show wpAny _ _ (call (.builtin "sorted") [.ref l] [(Str.ofString "key",.ref f)]) _ _ s2
 refine Dn (Zmz (Q:=Q) (E:=X.xe) I2 (sT.sqL hP hl) h64 (fun q hq=>⟨sT.sqT hP (hk q hq).1,(hk q hq).2⟩) nd (fun pins' s' q u hp I' hq rv=>?_) fun D L' n p w=>q1 H2 D L' sT T2 n p w) (fun v s' ⟨v',H',J,rv,qq⟩=>⟨v',H',J.unpinned,rv,qq⟩) fun _ _ z=>z;have hpin:=I'.pin (f,Ti (X.env.qual++"<lambda>") params body scope pm (.ref c') ctv) (Jw _ (hp _ (Jw _ (Jj.mpr rfl))));refine wpAny_call (codeAny_mono (Zod (I'.env0.in1.in1) hr.in1.in1 hpin.1 (I'.hok c' _ hx).1 S (hbind pm (.ref c') ctv u) rv (hb f c' _ _ _ _) (hbo H2 q sT hq)) fun r s'' hq'=>?_);cases r with
 | error e=>exact False.elim hq'
 | ok fl =>
  cases fl with
  | ret u=>exact I'.after hq'
  | next=>exact False.elim hq'
  | brk=>exact False.elim hq'
  | cont=>exact False.elim hq'
end
end L2
namespace L2
open PySem PySem.Spec PyProof.Rows
def Zje (P:Addr) (H:Hp):Prop:=H P=some (.tbl #[])/\∀ b,b≠P->H b=none\/∃ o xs,H b=some (.frz o (.lst xs))
def Zje.tab {P:Addr} (o:Zje P H) (pos:Pos) (q:Str):W9 P pos q H:=⟨#[],o.1,trivial,.inl rfl⟩
theorem Zhl {w:World} {mb:Str->Option Value} {k:Nat} {fa a c:Addr} {x:Str} {s₁:Shared} {vs:List Value} 
  (KX:K.In s₁.heap) (hns:s₁.heap.Ns mainGlobals mg) (hb:s₁.heap.Ns builtinsNs mb) (hbb:∀ x:Str,x≠"__name__"->mb x=bootBuiltins x) (hlim:s₁.heap.NoLimit) (hbm:Bm mg s₁.heap) (hg:s₁.gens=#[])
  (ha:s₁.heap.get? a=some { cls:=.type "list",data:=.seq vs.toArray }) (hi:IntsAre vs ns) (hl:ns.length<=sizeLine) (hr:Room k callerA)
  (hP:s₁.heap.get? Pt=some (W.tabObj #[])) (hPK:K.lookup Pt=none) (hC:W.CodeHd s₁.heap c Pt)
  (F:∀ base:Heap,K.In base->base.Ns mainGlobals mg->Bm mg base->FnOk P w K mg base CX k fa fd [x] sp) (hbind:∀ (s:Shared) (u:Value),BindsTo s fd ⟨[u],[]⟩ [(x,u)])
  (hsp:∀ H:Hp,Zje Pt H->SqL K H a (ns.map V.int)->sp [.ref a] H (fun v _=>v=.bl true) fun _ _ _=>False)
  (hCX:∀ H e s',CX [] H s₁ (fun _ _ _=>False) e s'->False) :
  codeAny (model P w) callerA (.call (.ref fa) ⟨[.ref a],[]⟩) (fun r s'=>r=.ok (.ret (.bool true))/\OldK s₁.heap s'.heap/\s'.os=s₁.os/\AllBare s'.gens) s₁:=by
 have rv:=Nl hi;have lenV:=hi.length;have aP:a≠Pt:=fun z=>by rw [z,hP] at ha; cases ha
 have core:∀ H:Hp,Zje Pt H->SqL K H a (ns.map V.int)->HOk P w H s₁.heap->(∀ b,H b≠none->b=a\/b=Pt)->(∀ b,H b≠none->K.lookup b=none) ->
   codeAny (model P w) callerA (.call (.ref fa) ⟨[.ref a],[]⟩) (fun r s'=>r=.ok (.ret (.bool true))/\OldK s₁.heap s'.heap/\s'.os=s₁.os/\AllBare s'.gens) s₁:=by
  intro H hO hS hok hA hK;have base_of:∀ {b:Addr} {o:Obj},s₁.heap.get? b=some o->H b=none->(hidT s₁.heap H).get? b=some o:=fun e n=>Zkq e n;have noA:∀ {b:Addr} {o:Obj},s₁.heap.get? b=some o->(∀ its n,o.data≠.seq its n)->(∀ ps,o.data≠.fields ps)->H b=none:=fun {b o} e d d2=>by
   cases q:H b with
   | none=>rfl
   | some u =>
    rcases hA b (by rw [q]; simp) with e' | e'
    ·subst e';rw [ha] at e; cases e;exact absurd rfl (d _ _)
    ·subst e';rw [hP] at e; cases e;exact absurd rfl (d2 _)
  have nsK:∀ {b:Addr} {m:Str->Option Value},s₁.heap.Ns b m->(hidT s₁.heap H).Ns b m:=fun {b m} ⟨o,es,ep,e,d,r⟩=>⟨o,es,ep,base_of e (noA e (by rw [d]; intro _ _ z; cases z) (by rw [d]; intro _ z; cases z)),d,r⟩;have hKb:K.In (hidT s₁.heap H):=fun b o e=>base_of (KX b o e) (by
   cases q:H b with
   | none=>rfl
   | some u=>rw [hK b (by rw [q]; simp)] at e; cases e)
  have hBm:Bm mg (hidT s₁.heap H):=by
   obtain ⟨bm,ob,b1,b2,b3,b4,b5,b6⟩:=hbm;exists bm,ob,b1,b2,base_of b3 (noA b3 (by rw [b6]; intro _ _ z; cases z) (by rw [b6]; intro _ z; cases z)),b4,b5,b6
  have hM:Mod K mg (hidT s₁.heap H):=⟨hKb,nsK hns,⟨mb,nsK hb,hbb⟩,let ⟨mc,h1,h2⟩:=hlim; ⟨mc,nsK h1,h2⟩⟩;have e0:Env0 P w K mg (hidT s₁.heap H) callerA [] s₁ H:=⟨rfl,hM,fun b o e=>Zny e,Bw (Zh1 _ _),trivial,fun b hb=>absurd (show b∈([]:List Addr) from hb) (by simp),hok,.of_eq hg⟩;refine codeAny_mono ((F _ hKb (nsK hns) hBm).run callerA [] s₁ H ⟨[.ref a],[]⟩ [.ref a] [.ref a] _ _ hr e0 (hbind s₁ (.ref a)) (.cons rfl .nil) (hsp H hO hS)) fun r s' h=>?_;cases r with
  | error e=>exact (hCX H e s' h).elim
  | ok fl =>
   cases fl with
   | next=>exact False.elim h
   | brk=>exact False.elim h
   | cont=>exact False.elim h
   | ret u =>
    obtain ⟨v,H',os,bare,un,hok',r',q⟩:=h;have q':v=.bl true:=q;subst q';obtain rfl:u=Value.bool true:=r';have kp:∀ b o,b≠Pt->s₁.heap.get? b=some o->s'.heap.get? b=some o:=fun b o nP e=>by
     cases q:H b with
     | none=>exact un.keep b o e q (by intro z; exact absurd (show b∈([]:List Addr) from z) (by simp)) (by simp)
     | some u =>
      rcases hO.2 b nP with z | ⟨ob,xs,z⟩
      ·rw [q] at z; cases z
      ·have z2:=un.frzs b ob _ z;obtain ⟨e1,_⟩:=hok b _ z;obtain ⟨e2,_⟩:=hok' b _ z2;rw [e] at e1; cases e1;exact e2
    obtain ⟨more,hm⟩:=un.tbls Pt #[] hO.1;have hPt:s'.heap.get? Pt=some { cls:=.none,data:=.fields (#[]++more) }:=hok' Pt _ hm;exists rfl,⟨fun b o e=>?_,fun b o e=>?_⟩,os,bare
    ·by_cases hbP:b=Pt
     ·subst hbP;rw [hP] at e;cases e;exact .inr (.inl ⟨(hC.tab hP).isCodeTable,rfl,#[],more,rfl,hPt⟩)
     ·exact .inl (kp b o hbP e)
    ·by_cases hbP:b=Pt
     ·subst hbP;exists _,hPt
     ·exists o,kp b o hbP e
 have okP:∀ (H:Hp),Yw P w H s₁.heap Pt (.tbl #[]):=fun H=>hP;cases hk:K.lookup a with
 | some o =>
  have e:=KX a o hk;rw [ha] at e;cases e;refine core (fun b=>if b=Pt then some (.tbl #[]) else none) ⟨Dh rfl,fun b hb=>.inl (Dg hb)⟩ (.inr ⟨_,vs.toArray,_,hk,rfl,rfl,rfl,by rw [Jp,lenV]; exact hl,by simpa using rv⟩) (fun b u z=>?_) (fun b z=>?_) fun b z=>?_
  ·by_cases hb:b=Pt
   ·have z':=(Dh hb).symm.trans z;cases z';rw [hb];exact okP _
   ·have z':=(Dg hb).symm.trans z;cases z'
  ·by_cases hb:b=Pt
   ·exact .inr hb
   ·exact absurd (Dg hb) z
  ·by_cases hb:b=Pt
   ·rw [hb]; exact hPK
   ·exact absurd (Dg hb) z
 | none =>
  refine core (fun b=>if b=Pt then some (.tbl #[]) else if b=a then some (.frz { cls:=.type "list",data:=.seq vs.toArray } (.lst (ns.map V.int))) else none) ⟨Dh rfl,fun b hb=>?_⟩
   (.inl (.inr ⟨{ cls:=.type "list",data:=.seq vs.toArray },(Dg aP).trans (Dh rfl)⟩)) (fun b u z=>?_) (fun b z=>?_) fun b z=>?_
  ·by_cases hba:b=a
   ·exact .inr ⟨_,_,(Dg hb).trans (Dh hba)⟩
   ·exact .inl ((Dg hb).trans (Dg hba))
  ·by_cases hb:b=Pt
   ·have z':=(Dh hb).symm.trans z;cases z';rw [hb];exact okP _
   ·have z1:=(Dg hb).symm.trans z
    by_cases hba:b=a
    ·have z':=(Dh hba).symm.trans z1;cases z';subst hba;exists ha,by rw [Jb]; exact hl,vs,_,rv,ha
    ·have z':=(Dg hba).symm.trans z1;cases z'
  ·by_cases hb:b=Pt
   ·exact .inr hb
   ·by_cases hba:b=a
    ·exact .inl hba
    ·exact absurd ((Dg hb).trans (Dg hba)) z
  ·by_cases hb:b=Pt
   ·rw [hb]; exact hPK
   ·by_cases hba:b=a
    ·rw [hba]; exact hk
    ·exact absurd ((Dg hb).trans (Dg hba)) z
def Zjk {l:W.OpenLaw} {n k:Nat} {q:Program} {loose:List Str} {XP:(Str->Option Value)->Heap->Prop} {YP:World->Heap->Prop} {d:DefRec} {K:Params->W.Frag} {CX:World->CXT} {sp:World->Sp} {x:Str} 
  (hn:l.most=some n) (hn2:n<=sizeLine) (hdf:d.params.defaults=[]) (hr:Room k callerA)
  (hY:∀ (w:World) (h:Heap),YP w h->(K w.params).In h) (hYt:∀ (w:World) (h:Heap),YP w h->h.get? Pt=some (W.tabObj #[]))
  (hPK:∀ w:World,(K w.params).lookup Pt=none)
  (F:∀ (w:World) (mg:Str->Option Value) (fa:Addr) (h:Heap),(K w.params).In h->h.Ns mainGlobals mg->mg d.name=some (.ref fa) ->
   ∃ fd:FuncData,(∃ c,W.codeHdIn (K w.params) c Pt=true)/\(∀ (s:Shared) (u:Value),BindsTo s fd ⟨[u],[]⟩ [(x,u)]) /\
    ∀ base:Heap,(K w.params).In base->base.Ns mainGlobals mg->Bm mg base->FnOk l.prog w (K w.params) mg base (CX w) k fa fd [x] (sp w))
  (hsp:∀ (w:World) (H:Hp) (a:Addr) (ns:List Int),ns.length<=n->Zje Pt H->SqL (K w.params) H a (ns.map V.int)->sp w [.ref a] H (fun v _=>v=.bl true) fun _ _ _=>False)
  (hCX:∀ (w:World) (H:Hp) (s:Shared) (e:Value) (s':Shared),CX w [] H s (fun _ _ _=>False) e s'->False) :
  W.WalkO q loose XP YP l.row.toRowW d [] (fun f vs=>PySem.call f vs):=by
 refine Att.attach_call hn hdf fun w s₀ s₁ mg mb fa o pm cd doc a vs ns G Y ho hd hcd hmg hobj hints hlen hg=>?_;have KX:=hY w _ Y;obtain ⟨fd,⟨c,hC⟩,hb,hF⟩:=F w mg fa _ KX G.T.g hmg;exact Zhl KX G.T.g G.T.b G.T.builtins G.T.nolimit G.T.bmain hg hobj hints (Jv hlen hn2) hr (hYt w _ Y) (hPK w) (W.codeHd_of_K KX hC) hF hb (fun H hO hS=>hsp w H a ns hlen hO hS) fun H e s'=>hCX w H s₁ e s'
section
variable {w:World} {a:Addr} {o:Obj} {xs:Array Value} {k:Nat}
def Qg {Q:Option Value->Shared->Prop} (hx:s.heap.get? a=some o) (hc:o.cls=.type "list") (hdat:o.data=.seq xs k) (hd:o.dict=none) (hA:A.handled=none)
  (h:∀ h' tk e,Heap.NewExcOf s.heap h' e "AttributeError"->Q none { s with heap:=h',toks:=tk }):wpAny (model prog w) A (getAttr? (.ref a) "keys") Q E s:=by
 obtain ⟨c,dct,dat,sl⟩:=o;simp only at hc hdat hd;subst hc hdat hd;obtain ⟨hp,g,d,tk,os⟩:=s;have hT:∀ tk',(⟨hp,g,d,tk',os⟩:Shared).TypeIs (.ref a) "list":=fun _=>⟨_,hx,rfl⟩;have f1:=sub_AttributeError;have f3:=F.slot_list_getattribute.lookup;have f4:=F.slot_list_getattribute.bind (.ref a);have f5:=am_list_getattr_none;have hmiss:typeLookup (.type "list") "keys"=pure none:=by rw [typeLookup_type,builtinLookup_eq_fast]; kernel_rfl
 unfold getAttr? getAttrBy? getAttrBy
 repeat (any_goals (first | assumption | exact hT _ | ((with_reducible show wpAny _ _ (call (Value.builtin "list.__getattribute__") _ _) _ _ _); refine call_meets F.slot_list_getattribute (hT _) am_entry_list_getattribute (F.args_list_getattribute_2 _ _) (meets_getattribute_miss_list a xs k sl "keys" _ hmiss (by decide +kernel)) ⟨hx,hA,fun h' tk' e hx'=>?_⟩) | wp_step))
 obtain ⟨t',u',he⟩:=hx'.there;have hTe:∀ tk'',(⟨h',g,d,tk'',os⟩:Shared).TypeIs (.ref e) "AttributeError":=fun _=>⟨_,he,rfl⟩;show wpAny _ _ (getattributeRaised _ _ _ _ _ _ _) _ _ _;unfold getattributeRaised
 repeat (any_goals (first | assumption | exact hTe _ | wp_step))
 all_goals exact h _ _ _ hx'.of
def Rn {Q:Option Value->Shared->Prop} (hx:s.heap.get? a=some o) (hc:o.cls=.type "tuple") (hdat:o.data=.seq xs k) (hd:o.dict=none) (hA:A.handled=none)
  (h:∀ h' tk e,Heap.NewExcOf s.heap h' e "AttributeError"->Q none { s with heap:=h',toks:=tk }):wpAny (model prog w) A (getAttr? (.ref a) "keys") Q E s:=by
 obtain ⟨c,dct,dat,sl⟩:=o;simp only at hc hdat hd;subst hc hdat hd;obtain ⟨hp,g,d,tk,os⟩:=s;have hT:∀ tk',(⟨hp,g,d,tk',os⟩:Shared).TypeIs (.ref a) "tuple":=fun _=>⟨_,hx,rfl⟩;have f1:=sub_AttributeError;have f3:=F.slot_tuple_getattribute.lookup;have f4:=F.slot_tuple_getattribute.bind (.ref a);have f5:=am_tuple_getattr_none;have hmiss:typeLookup (.type "tuple") "keys"=pure none:=by rw [typeLookup_type,builtinLookup_eq_fast]; kernel_rfl
 unfold getAttr? getAttrBy? getAttrBy
 repeat (any_goals (first | assumption | exact hT _ | ((with_reducible show wpAny _ _ (call (Value.builtin "tuple.__getattribute__") _ _) _ _ _); refine call_meets F.slot_tuple_getattribute (hT _) am_entry_tuple_getattribute (F.args_tuple_getattribute_2 _ _) (meets_getattribute_miss_tuple a xs k sl "keys" _ hmiss (by decide +kernel)) ⟨hx,hA,fun h' tk' e hx'=>?_⟩) | wp_step))
 obtain ⟨t',u',he⟩:=hx'.there;have hTe:∀ tk'',(⟨h',g,d,tk'',os⟩:Shared).TypeIs (.ref e) "AttributeError":=fun _=>⟨_,he,rfl⟩;show wpAny _ _ (getattributeRaised _ _ _ _ _ _ _) _ _ _;unfold getattributeRaised
 repeat (any_goals (first | assumption | exact hTe _ | wp_step))
 all_goals exact h _ _ _ hx'.of
end
end L2
namespace L2
open PySem PySem.Spec PyProof.Rows PySem.W
def Zaq:entryFor table "dict.update.loop"=some Builtin.«dict.update.loop»:=entryFor_of_tree (by kernel_rfl)
def N2:plainId "dict.update.loop"=true:=by decide +kernel
inductive DFill (H:Hp) (D:Addr):HO->List (V×V)->HO->Prop
 | nil {o:HO}:DFill H D o [] o
 | cons {o o' o'':HO} {k v:V} {r:List (V×V)} (h:DPut (upd H D o) D k v (upd H D o')) (t:DFill H D o' r o''):DFill H D o ((k,v)::r) o''
def Zjd (K:W.Frag) (H:Hp) (ys:List V) (zs:List (V×V)):Prop:=Paired (fun y z=>∃ t,y=.ref t/\SqT K H t [z.1,z.2]) ys zs
def SqT.upd' {a D:Addr} (h:SqT K H a xs) (n:H D=none):SqT K (upd H D o) a xs:=by
 rcases h with (h | ⟨o,h⟩) | h
 ·exact .inl (.inl (by rw [Zl (Zp h n)]; exact h))
 ·exact .inl (.inr ⟨o,by rw [Zl (Zp h n)]; exact h⟩)
 ·exact .inr h
section
def Ql (K:W.Frag) (H:Hp) (h:Heap) (p it:Addr) (ys:List V) (i:Nat):Prop:=(SqL K H p ys/\h.IsListIter it p i)\/(SqT K H p ys/\h.IsTupleIter it p i)
def Ql.at {p:Addr} {i:Nat} (x:Ql K H h p it ys i) (k:∀ o,h.get? it=some o->h'.get? it=some o) (hl:SqL K H p ys->SqL K H' p ys) (ht:SqT K H p ys->SqT K H' p ys):Ql K H' h' p it ys i:=by
 rcases x with ⟨a,b⟩ | ⟨a,b⟩
 ·exact .inl ⟨hl a,b.at k⟩
 ·exact .inr ⟨ht a,b.at k⟩
def Zcy {p:Addr} {i:Nat} {x:V} {Q:Option Value->Shared->Prop} (I:Inv X pq σ H s) (f:FpOk X pq H it) (src:Ql X.K H s.heap p it ys i) (hx:ys[i]?=some x)
  (h:∀ u s',RelV x u->Inv X pq σ H s'->Ql X.K H s'.heap p it ys (i+1)->Q (some u) s'):wpAny (model X.prog X.w) A (pyNext (.ref it)) Q E s:=by
 obtain ⟨f0,f1,f2,f3,f4,f5⟩:=f;rcases src with ⟨hq,st⟩ | ⟨hq,st⟩
 ·obtain ⟨its,rv,p',hz⟩:=I.list hq;obtain ⟨u,hu,ru⟩:=rv.get hx;exact wpAny_pyNext_list_item st p'.isList (x:=u) (by simpa using hu) fun h' st' sb=>h u _ ru (I.turned (t':=s.toks) (fun b o hb e=>(sb.2 b hb).trans e) f0 f1 f3 f4 f5) (.inl ⟨hq,st'⟩)
 ·obtain ⟨its,rv,p',hz⟩:=I.tuple hq;obtain ⟨u,hu,ru⟩:=rv.get hx;exact wpAny_pyNext_tuple_item st (show s.heap.IsTuple p its.toArray from p') (x:=u) (by simpa using hu) fun h' st' sb=>h u _ ru (I.turned (t':=s.toks) (fun b o hb e=>(sb.2 b hb).trans e) f0 f1 f3 f4 f5) (.inr ⟨hq,st'⟩)
theorem Zfw {p:Addr} {i:Nat} {Q:Option Value->Shared->Prop} (I:Inv X pq σ H s) (f:FpOk X pq H it) (hA:A.handled=none) (src:Ql X.K H s.heap p it ys i) (hx:ys.length<=i)
  (h:∀ s',Inv X pq σ H s'->Q none s'):wpAny (model X.prog X.w) A (pyNext (.ref it)) Q E s:=by
 obtain ⟨f0,f1,f2,f3,f4,f5⟩:=f;rcases src with ⟨hq,st⟩ | ⟨hq,st⟩
 ·obtain ⟨its,rv,p',hz⟩:=I.list hq;have hl:=rv.length;exact wpAny_pyNext_list_end hA st p'.isList (by simp; lia) fun h' eb=>h _ (I.turned (t':=s.toks) (fun b o hb e=>eb b o hb e) f0 f1 f3 f4 f5)
 ·obtain ⟨its,rv,p',hz⟩:=I.tuple hq;have hl:=rv.length;exact wpAny_pyNext_tuple_end hA st (show s.heap.IsTuple p its.toArray from p') (by simp; lia) fun h' eb=>h _ (I.turned (t':=s.toks) (fun b o hb e=>eb b o hb e) f0 f1 f3 f4 f5)
theorem Zij {a:Addr} {y v:V} {u r:Value} {Q:Unit->Shared->Prop} (hu:A.units<cLine) (I:Inv X pq σ H s) (g:DPut H a y v H') (ry:RelV y u) (rv:RelV v r) (h:∀ s',Inv X pq σ H' s'->Heap.SameBut a s.heap s'.heap->Q () s') :
  wpAny (model X.prog X.w) A (dictSet a u r) Q E s:=by
 rcases g with ⟨kvs,k,e,ey,l,eH⟩ | ⟨kvs,k,b,e,ey,eb,l,eH⟩
 ·subst ey eH;obtain ⟨z,hd,vs,rel,dd⟩:=Zox I.hok e;have hz:vs.length<=sizeLine:=by rw [<- rel.length]; exact z
  have hl:(putK kvs k v).length<=sizeLine:=by have:=Xb kvs k v; lia
  refine wpAny_dictSet_pairs (hsz:=hz) (Zb3 ry) dd fun h' dd' hs=>h _ ?_ hs;have he:∃ q,h'.get? a=some q:=let ⟨q,_,_,hq,_⟩:=dd'; ⟨q,hq⟩
  exact Nb I (by rw [e]; exact True.intro) hs he (Zma hl hd (rel.put k rv) dd')
 ·subst ey eH;cases (show u=Value.ref b from ry);obtain ⟨z,hd,xs,rel,dd⟩:=Zr5 I.hok e;have hz:xs.length<=sizeLine:=by rw [<- Paired.length rel]; exact z
  have hl:(putK kvs k v).length<=sizeLine:=by have:=Xb kvs k v; lia
  refine wpAny_dictSet_heap (hsz:=hz) (show (tupleKind (Yz X.prog X.w)).room A from hu) (Rp I.hok eb) dd fun h' dd' hs=>h _ ?_ hs;obtain ⟨q,es,ep,hq,h2,h3,h4,_,h5⟩:=dd';refine Nb I (by rw [e]; exact True.intro) hs ⟨q,hq⟩ ⟨hl,hd,_,(rel.put k eb rv).keeps fun c ys ec=>?_,q,es,ep,hq,h2,h3,h4,h5⟩;rw [Zl (X7 ec e (fun z=>nomatch z))];exact ec
theorem Zas {p D:Addr} {R:Result->Shared->Prop} (hu:A.units+8<cLine) (hA:A.handled=none) (hn:H D=none) (hit:it≠D) (fit:FpOk X pq H it) :
  ∀ (zs:List (V×V)) (i:Nat) (o o':HO) (s:Shared) (t:Tok),Inv X pq σ (upd H D o) s->Ql X.K (upd H D o) s.heap p it ys i->Zjd X.K H (ys.drop i) zs->DFill H D o zs o' ->
   (∀ s',Inv X pq σ (upd H D o') s'->R (.ok (.ret .none)) s')->codeAny (model X.prog X.w) A (.builtin "dict.update.loop" ⟨[.ref D,.ref it,.int i t,.none],[]⟩) R s
 | [],i,o,o',s,t,I,src,pa,df,h=>by
  cases df;have hl:ys.length<=i:=by
   have e:=Paired.length pa;simp only [Gh,B8] at e;lia
  refine codeAny_builtin Zaq ?_;rw [Around.under_plainId N2 _];show wpAny _ A.in1 (pyNext (.ref it) >>= _) _ _ s;refine Da (Zfw I (show FpOk X pq (upd H D o) it from ⟨by rw [Zl hit]; exact fit.1,fit.2⟩) hA src hl fun s' I'=>?_);show wpAny _ A.in1 (Builtin.Dict.addKeywords D [] >>= _) _ _ s';exact Da (Db (Db (h s' I')))
 | z::zs,i,o,o'',s,t,I,src,pa,df,h=>by
  have hil:i<ys.length:=by
   have e:=Paired.length pa;simp only [Gh,Jz] at e;lia
  rw [G2 hil] at pa;cases pa with
  | cons p1 p2 =>
   obtain ⟨tp,ep,sq⟩:=p1;cases df with
   | @cons _ o1 _ k v _ d1 d2 =>
    refine codeAny_builtin Zaq ?_;rw [Around.under_plainId N2 _];show wpAny _ A.in1 (pyNext (.ref it) >>= _) _ _ s;have fit':∀ o,FpOk X pq (upd H D o) it:=fun o=>⟨by rw [Zl hit]; exact fit.1,fit.2⟩;refine Da (Zcy I (fit' o) src (Ja hil) fun u s1 ru I1 src1=>?_);rw [ep] at ru;obtain rfl:u=Value.ref tp:=ru;obtain ⟨its,rv,⟨ob,eo,hc,n,hd⟩,_⟩:=I1.tuple (sq.upd' (o:=o) hn);cases rv with
    | cons r1 rv =>
     cases rv with
     | cons r2 rv =>
      cases rv with
      | nil =>
       rename_i uk uv
       show wpAny _ A.in1 (holding [Value.ref tp] _ >>= _) _ _ s1;refine Da (wpAny_holding ?_);refine Da (wpAny_tryCatch ?_);unfold Builtin.Dict.pairItems;refine Da (Looks.here (show Looks (model X.prog X.w) s1.heap (typeOf (.ref tp)) ob.cls from (Looks.ld eo).andThen .now) ?_);rw [hc,Dh nofun];unfold seqItems?;refine Da (Da (wpAny_load eo ?_));rw [hd];refine Db (Db ?_);show wpAny _ A.in1 (holding [uk,uv] (dictSet D uk uv)) _ _ s1;refine wpAny_holding (Zij (by show A.units+1<cLine; lia) I1 d1 r1 r2 fun s2 I2 sb=>?_);refine Db ⟨Code.quiet_builtin _ (by decide +kernel),?_⟩;refine Zas hu hA hn hit fit zs (i+1) o1 o'' s2 _ I2 (src1.at (fun ob' e=>(sb.2 it hit).trans e) (fun q=>?_) fun q=>?_) p2 d2 h
       ·rcases q with (q | ⟨oo,q⟩) | q
        ·by_cases hpD:p=D
         ·subst hpD;exact absurd d1 (fun z=>by
           rw [Zd] at q;cases q;rcases z with ⟨_,_,e,_⟩ | ⟨_,_,_,e,_⟩ <;> rw [Zd] at e <;> cases e)
         ·rw [Zl hpD] at q;exact .inl (.inl (by rw [Zl hpD]; exact q))
        ·by_cases hpD:p=D
         ·subst hpD;exact absurd d1 (fun z=>by
           rw [Zd] at q;cases q;rcases z with ⟨_,_,e,_⟩ | ⟨_,_,_,e,_⟩ <;> rw [Zd] at e <;> cases e)
         ·rw [Zl hpD] at q;exact .inl (.inr ⟨oo,by rw [Zl hpD]; exact q⟩)
        ·exact .inr q
       ·rcases q with (q | ⟨oo,q⟩) | q
        ·by_cases hpD:p=D
         ·subst hpD;exact absurd d1 (fun z=>by
           rw [Zd] at q;cases q;rcases z with ⟨_,_,e,_⟩ | ⟨_,_,_,e,_⟩ <;> rw [Zd] at e <;> cases e)
         ·rw [Zl hpD] at q;exact .inl (.inl (by rw [Zl hpD]; exact q))
        ·by_cases hpD:p=D
         ·subst hpD;exact absurd d1 (fun z=>by
           rw [Zd] at q;cases q;rcases z with ⟨_,_,e,_⟩ | ⟨_,_,_,e,_⟩ <;> rw [Zd] at e <;> cases e)
         ·rw [Zl hpD] at q;exact .inl (.inr ⟨oo,by rw [Zl hpD]; exact q⟩)
        ·exact .inr q
end
section
def Zng (K:W.Frag):List V->Hp->VK->Prop:=fun xs H Q=>∃ (p:Addr) (ys:List V) (zs:List (V×V)) (o:HO),xs=[.ref p]/\(H p=some (.lst ys)\/H p=some (.tup ys))/\Zjd K H ys zs/\(o=.dK []\/o=.dT []) /\
 ∀ D,H D=none->∃ o',DFill H D o zs o'/\Q (.ref D) (upd H D o')
theorem V2 (hr:Room 3 X.A) (hc:X.calm=true):Ws X (.type "dict") (Zng X.K):=by
 intro pq s σ H xs us Q I r h;obtain ⟨p,ys,zs,o,rfl,hp,pa,ho,q⟩:=h;obtain ⟨u,rfl,rx⟩:=Uy r;cases rx;have hA:X.A.handled=none:=I.ok.hd hc;have hD:H s.heap.objs.size=none:=I.hok.fresh (Je _);obtain ⟨o',df,q'⟩:=q _ hD;have pD:p≠s.heap.objs.size:=fun z=>by
  rcases hp with e | e <;> rw [z,hD] at e <;> cases e
 refine callType_codes (Q₁:=fun obj s₁=>obj=.ref s.heap.objs.size/\s₁={ s with heap:=s.heap.push { cls:=.type "dict",data:=.dict #[] } }) PySem.F.kt_called_dict (PySem.F.kt_typeCall_dict_1 _) PySem.F.entry_dict_init (kt_code_dict_new _ ⟨rfl,rfl⟩) ?_;rintro obj s₁ ⟨rfl,rfl⟩;have I1:Inv X pq σ (upd H s.heap.objs.size o) { s with heap:=s.heap.push { cls:=.type "dict",data:=.dict #[] } }:=by
  rcases ho with e | e
  ·subst e; exact I.laid (a:=s.heap.objs.size) (o:=.dK []) (t':=s.toks) (fun _ _ q=>Dd _ q) (Je _) (Zdy s.heap I.big)
  ·subst e; exact I.laid (a:=s.heap.objs.size) (o:=.dT []) (t':=s.toks) (fun _ _ q=>Dd _ q) (Je _) (Zdx s.heap I.big)
 have hT:(⟨s.heap.push { cls:=.type "dict",data:=.dict #[] },s.gens,s.drawn,s.toks,s.os⟩:Shared).TypeIs (.ref s.heap.objs.size) "dict":=⟨_,De _ rfl,rfl⟩;refine ⟨hT,PySem.F.args_dict_init_2 _ _,?_⟩;unfold Builtin.«dict.__init__»;refine Da ?_;unfold Builtin.Dict.selfAndRest;refine Da (wpAny_notOrdered_dict hT ?_);show wpAny _ _ (pure (s.heap.objs.size,[Value.ref p])) _ _ _;refine Db ?_;show wpAny _ _ (Builtin.Dict.updateFrom "dict.__init__" s.heap.objs.size (.ref p) [] .none) _ _ _;unfold Builtin.Dict.updateFrom;have hA2:X.A.in1.in1.handled=none:=hA;have fin:∀ (s2:Shared) (it:Addr),it≠s.heap.objs.size->FpOk X pq H it->Inv X pq σ (upd H s.heap.objs.size o) s2->Ql X.K (upd H s.heap.objs.size o) s2.heap p it ys 0 ->
   codeAny (model X.prog X.w) X.A.in1 (.builtin "dict.update.loop" ⟨[.ref s.heap.objs.size,.ref it,rawInt 0,.none],[]⟩) (wants (fun r s₂=>r=.none/\EP X pq σ Q (.ref s.heap.objs.size) s₂) X.xe) s2:=fun s2 it nit fit I2 src =>
  Zas (A:=X.A.in1) (by have:=hr.units; show X.A.units+1+8<cLine; lia) (show X.A.in1.handled=none from hA) hD nit fit zs 0 o o' s2 _ I2 src (by simpa using pa) df fun s' I'=>⟨rfl,.ref s.heap.objs.size,_,I',rfl,q'⟩
 have nq:∀ it:Addr,Code.quiet (.builtin "dict.update.loop" ⟨[.ref s.heap.objs.size,.ref it,rawInt 0,.none],[]⟩)=true:=fun it=>Code.quiet_builtin _ (by decide +kernel);rcases hp with hp | hp
 ·obtain ⟨hz,its,n,rv,eo⟩:=I1.hok p _ (show upd H s.heap.objs.size o p=some (.lst ys) by rw [Zl pD]; exact hp);refine Da (wpAny_typeOf (show Shared.TypeIs _ (.ref p) "list" from ⟨_,eo,rfl⟩) ?_);rw [Dh nofun];refine Da (Qg eo rfl rfl rfl hA2 fun h' tk e ne=>?_);have I2:Inv X pq σ (upd H s.heap.objs.size o) { s with heap:=h',toks:=tk }:=I1.kept ne.keeps;simp only [Option.isNone_none,if_true];refine Da (wpAny_rule (Da (wpAny_pyIter_list (s:={ s with heap:=h',toks:=tk }) ⟨_,ne.keeps _ _ eo,rfl,n,rfl⟩ (Db ⟨nq _,?_⟩))));have hsz:s.heap.objs.size<h'.objs.size:=Df (ne.keeps _ _ (De (o:={ cls:=.type "dict",data:=.dict #[] }) s.heap rfl))
  have hle:({ s with heap:=h',toks:=tk }:Shared).heap.objs.size<=h'.objs.size:=Je _;have fI:=I2.fpOk (H':=H) hle (I.hok.fresh (B9 hsz));refine fin _ _ (Fy hsz) fI (I2.kept (t':=tk) fun b o e=>Dd _ e) (.inl ⟨.inl (.inl (by rw [Zl pD]; exact hp)),⟨_,De _ rfl,rfl,rfl⟩⟩)
 ·obtain ⟨hz,its,rv,ob,eo,hcl,n,hda,hdi⟩:=I1.hok p _ (show upd H s.heap.objs.size o p=some (.tup ys) by rw [Zl pD]; exact hp);refine Da (wpAny_typeOf (show Shared.TypeIs _ (.ref p) "tuple" from ⟨_,eo,hcl⟩) ?_);rw [Dh nofun];refine Da (Rn eo hcl hda hdi hA2 fun h' tk e ne=>?_);have I2:Inv X pq σ (upd H s.heap.objs.size o) { s with heap:=h',toks:=tk }:=I1.kept ne.keeps;simp only [Option.isNone_none,if_true];refine Da (wpAny_rule (Da (wpAny_pyIter_tuple (s:={ s with heap:=h',toks:=tk }) (show Heap.IsTuple h' p its.toArray from ⟨_,ne.keeps _ _ eo,hcl,n,hda⟩) (Db ⟨nq _,?_⟩))));have hsz:s.heap.objs.size<h'.objs.size:=Df (ne.keeps _ _ (De (o:={ cls:=.type "dict",data:=.dict #[] }) s.heap rfl))
  have hle:({ s with heap:=h',toks:=tk }:Shared).heap.objs.size<=h'.objs.size:=Je _;have fI:=I2.fpOk (H':=H) hle (I.hok.fresh (B9 hsz));refine fin _ _ (Fy hsz) fI (I2.kept (t':=tk) fun b o e=>Dd _ e) (.inr ⟨.inl (.inl (by rw [Zl pD]; exact hp)),⟨_,De _ rfl,rfl,rfl⟩⟩)
end
end L2
namespace L2
open PySem PySem.Spec PyProof.Rows
section
variable {e:Expr} {st:Option Expr} {ts:TO} {p2:Pos}
def tRev (K:W.Frag) (te:TE) (ts:TO):TE:=fun σ H Q=>te σ H fun x H1=>ts σ H1 fun k H2=>k=some (-1)/\∃ a xs,x=.ref a/\SqL K H2 a xs/\∀ p,H2 p=none->Q (.ref p) (upd H2 p (.lst xs.reverse))
theorem Zg1 (he:PE X e te) (hs:PO X st ts) (hsub:∀ o i,∃ ops,subscripted (.Slice none none st p2) false o i=operate ops (getItem o i)):PE X (.Subscript e (.Slice none none st p2) pos) (tRev X.K te ts):=by
 intro pq s σ H Q I h;refine Subscript_ (thn (he pq s σ H _ I h) fun v s1 hz=>?_);obtain ⟨x,H1,I1,r1,q1⟩:=hz;refine wpAny_Slice ?_;rw [evalPart_none];refine Db ?_;refine Db ?_;refine thn (hs pq s1 σ H1 _ I1 q1) fun vk s3 hz=>?_;obtain ⟨k,H3,I3,pk,ek,a,xs,ex,hx,q⟩:=hz;subst ek;subst ex;cases r1;have I4:Inv X pq σ H3 { s3 with heap:=s3.heap.push { cls:=.type "slice",data:=.fields #[.none,.none,vk] } }:=I3.kept (t':=s3.toks) fun b ob q=>Dd _ q;obtain ⟨its,r,ht,hz⟩:=I4.list hx;have hlen:=r.length;show wpAny (model X.prog X.w) X.A (subscriptTail e (.Slice none none st p2) (.ref a) (.ref s3.heap.objs.size)) (EP X pq σ Q) X.xe { s3 with heap:=s3.heap.push { cls:=.type "slice",data:=.fields #[.none,.none,vk] } }
 obtain ⟨ops,hop⟩:=hsub (.ref a) (.ref s3.heap.objs.size);refine tail_any (ops:=ops) ht.isList.typeIs slot_list_getitem.lookup ?_ hop;refine wpAny_getItem_list_slice ht.isList (Heap.IsSliceOf.new ..) .none .none pk nofun ?_ (by rw [Jp] <;> lia);rw [W.krv_pick];refine ⟨.ref _,_,I4.laid (t':=s3.toks) (o:=.lst xs.reverse) (fun b ob q=>Dd _ q) (Je _) ?_,rfl,q _ (I4.hok.fresh (Je _))⟩;refine ⟨by rw [Fc]; exact hz,its.reverse,0,?_,?_⟩
 ·have rev:∀ {a:List V} {b:List Value},Vals a b->Vals a.reverse b.reverse:=by
   intro a b h
   induction h with
   | nil=>exact .nil
   | cons h1 h2 ih=>rw [Bq,Bq]; exact ih.append (.cons h1 .nil)
  exact rev r
 ·exact De _ rfl
end
def mxOf:Option Int->List Int->Option Int
 | c,[]=>c
 | none,n::r=>mxOf (some n) r
 | some c,n::r=>mxOf (some (if c<n then n else c)) r
def U6:Option Value->Array Value
 | none=>#[]
 | some v=>#[v,v]
section
def Zcj (c:Option Value):(U6 c).size<=sizeLine:=by rw [sizeLine_eq]; cases c <;> simp [U6]
abbrev lst0 (vs:Array Value) (c:Nat):Obj:={ cls:=.type "list",data:=.seq vs c }
end
section
variable {w:World} 
def U3 {t sl:Addr} {items:Array Value} {vl vu:Value} {Q:Value->Shared->Prop} (ht:IsTup s.heap t items) (hs:s.heap.IsSliceOf sl vl vu .none) (pl:IsPart vl lo) (pu:IsPart vu hi)
  (hw:HT.sIx items.size 0 lo=0/\HT.sIx items.size items.size hi=items.size) (h:Q (.ref t) s):wpAny (model prog w) A (getItem (.ref t) (.ref sl)) Q E s:=by
 obtain ⟨os,hos,hcs,hds⟩:=id hs;have hTs:s.TypeIs (.ref sl) "slice":=⟨os,hos,hcs⟩;unfold getItem
 try with_reducible refine wpAny_holding ?_
 first | refine Da (Db ?_) | skip
 refine Da (wpAny_sequenceKey ht.typeIs nofun ?_);refine Da (wpAny_callSpecial?_slot (name:=Str.ofString "__getitem__") ht.typeIs PyProof.Rows.slot_tuple_getitem
  (wpAny_call_entry PyProof.Rows.slot_tuple_getitem ht.typeIs entry_tuple_getitem ?_ (args_tuple_getitem _ _)))
 show wpAny _ _ (Builtin.Tuple.tupleItemsOf (.ref t) >>= _) _ _ s;refine Da (tupleItemsOf_ ht ?_);refine Da (wpAny_typeOf hTs ?_);rw [Dh nofun];refine Da (HT.sliceApplied_gen hs pl pu ?_);show wpAny _ _ (if (((HT.sIx items.size 0 lo:Nat):Int) == 0 && (1:Int) == 1 && (HT.sIx items.size items.size hi-HT.sIx items.size 0 lo) == items.size)=true then _ else _) _ _ s;have hyes:((((HT.sIx items.size 0 lo:Nat):Int) == 0 && (1:Int) == 1 && (HT.sIx items.size items.size hi-HT.sIx items.size 0 lo) == items.size)=true):=by
  rw [hw.1,hw.2]; simp
 rw [Dh hyes];unfold Builtin.Tuple.tupleIsExact;refine Da ?_
 first
  | exact Da (wpAny_typeOf ht.typeIs (Db (by rw [Dh nofun]; exact Da (wpAny_rule (Db ⟨_,rfl,Db h⟩)))))
  | exact Da (wpAny_typeOf ht.typeIs (Db (by simp; exact Da (wpAny_rule (Db ⟨_,rfl,Db h⟩)))))
end
section
def rSlW (K:W.Frag):V->Option Int->Option Int->Hp->VK->Prop:=fun x lo hi H Q=>∃ a xs,x=.ref a/\SqT K H a xs /\
 ((cutV xs lo hi=xs->Q (.ref a) H)/\∀ p,H p=none->Q (.ref p) (upd H p (.tup (cutV xs lo hi))))
def Zbh:SlR X (rSlW X.K):=by
 intro pq s σ H x v vl vu lo hi sl Q I rx hs pl pu h;obtain ⟨a,xs,rfl,hx,q0,q⟩:=h;cases rx;obtain ⟨its,r,ht,hz⟩:=I.tuple hx;have hlen:its.toArray.size=xs.length:=by rw [Jp]; exact r.length.symm
 exists "tuple",_,PyProof.Rows.slot_tuple_getitem.lookup,ht.typeIs,?_
 by_cases hw:HT.sIx xs.length 0 lo=0/\HT.sIx xs.length xs.length hi=xs.length
 ·refine U3 ht hs pl pu (by rw [hlen]; exact hw) ⟨.ref a,H,I,rfl,q0 ?_⟩;unfold cutV;rw [hw.1,hw.2];simp
 ·refine HT.getItem_tuple_cut ht hs pl pu (by rw [hlen]; exact hw) ?_ (by rw [hlen]; exact hz);rw [hlen];exists .ref s.heap.objs.size,_,I.laid (t':=s.toks) (o:=.tup (cutV xs lo hi)) (fun b ob q=>Dd _ q) (Je _) ?_,rfl,q _ (I.hok.fresh (Je _));exists Jv (U4 xs lo hi) hz,_,(r.drop (HT.sIx xs.length 0 lo)).take (HT.sIx xs.length xs.length hi-HT.sIx xs.length 0 lo),V6.new _ _
end
def Met (P:Program) (w:World) (K:W.Frag) (mg:Str->Option Value) (base:Heap) (C:Addr) (m:Str) (k:Nat) (ps:List Str) (sp:Sp):Prop :=
 ∃ f fd,Cls K C/\Meth K C m f/\FnOk P w K mg base CX0 k f fd ps sp/\Vn K fd ps []
def Mkr (P:Program) (w:World) (K:W.Frag) (mg:Str->Option Value) (base:Heap) (x:Str) (C:Addr) (k:Nat) (ps:List Str) (sp:Sp):Prop :=
 ∃ f fd,Mk K C f/\FnOk P w K mg base CX0 k f fd ps sp/\mg x=some (.ref C)/\Vn K fd ps []
section
variable {k:Nat} {x m:Str} {p:Pos} {e o:Expr} {t:TA}
def Zem {pl:Sem Bool} (he:PE X o ta) (M:Met X.prog X.w X.K X.mg X.base C m k ps sp) (hr:Room k X.A) (ha:PA X (e::es) t)
  (hst:starEach (e::es) X.env=(false,eval e X.env)::starEach es X.env:=by rfl) (hpl:(backTo pos (starEach es X.env)).any (·.1)=false:=by rfl)
  (ht:eval (.Call (.Attribute o m apos) (e::es) [] pos) X.env=(do
   let ov <- eval o X.env
   standAt apos.atName
   let (f,first) <- holding [ov] (getMethod ov m pl)
   callWith pos f first (backTo pos (starEach (e::es) X.env)) (backToKw pos (keywordEach [] X.env))):=by rfl) :
  PE X (.Call (.Attribute o m apos) (e::es) [] pos) (Zfr C m sp [] E0 ta t):=by
 obtain ⟨f,fd,c,hm,F,hb⟩:=M;exact Znt he c hm F hr hb .nil Zg4 ha hst hpl ht
def Zq5 {pl:Sem Bool} (he:PE X o ta) (M:Met X.prog X.w X.K X.mg X.base C m k ps sp) (hr:Room k X.A)
  (ht:eval (.Call (.Attribute o m apos) [] [] pos) X.env=(do
   let ov <- eval o X.env
   standAt apos.atName
   let (f,first) <- holding [ov] (getMethod ov m pl)
   callWith pos f first (backTo pos (starEach [] X.env)) (backToKw pos (keywordEach [] X.env))):=by rfl) :
  PE X (.Call (.Attribute o m apos) [] [] pos) (Zfr C m sp [] E0 ta tNil):=by
 obtain ⟨f,fd,c,hm,F,hb⟩:=M;exact Zj6 he c hm F hr hb .nil Zg4 ht
def Zt2 (M:Mkr X.prog X.w X.K X.mg X.base x C k ps sp) (hr:Room (k+1) X.A) (hg:Gl X x) (ha:PA X (e::es) t) (hdb:(x == ("__debug__":Str))=false:=by decide)
  (he:starEach (e::es) X.env=(false,eval e X.env)::starEach es X.env:=by rfl) (hpl:(backTo pos (starEach es X.env)).any (·.1)=false:=by rfl):PE X (.Call (.Name x p) (e::es) [] pos) (Zeg C sp [] E0 t):=by
 obtain ⟨f,fd,hm,F,g,hb⟩:=M;exact Znu hm F hr hg g hb .nil Zg4 ha hdb he hpl
end
def Fun.okC {w:World} {base:Heap} {x:Str} {f:Addr} {oc:Value} {od an:Option Addr} {osl:Array (Option Value)} {kV doc cdv ct:Value} {k:Nat} 
  (lk:K.lookup f=some ⟨oc,od,.func (W.fnOf x qual (Zv st) (Zu st) (Zh st) .none kV doc pm an cdv ct),osl⟩) (hcd:W.codeIn K cdv qual=true) (S:FnScope N ps (Zh st)) (len:∀ vs H Q E,sp vs H Q E->vs.length=ps.length)
  (hbody:∀ (A:Around) (outer:List Env) (s:Shared) (H:Hp) (vs:List V) (Q:VK) (E:XK),Room k (A.deeper (envOfC qual (Zh st) s.heap.objs.size f cdv))->sp vs H Q E ->
   ∃ t,PSs (cxOf CX0 P w K mg base N qual (Zh st) f cdv A outer s H E).nox (Zu st) t/\t { nx:=fun _ H'=>Q .non H',rt:=Q } (Uz N vs) H) :
  FnOk P w K mg base CX0 (k+1) f (W.fnOf x qual (Zv st) (Zu st) (Zh st) .none kV doc pm an cdv ct) ps sp :=
 Zoq lk hcd S len fun A outer s H vs Q E hr hsp=>by
  obtain ⟨t,h,q⟩:=hbody A outer s H vs Q E hr hsp;exists t,h.nox,q
abbrev Pr:=Int×List Int
variable {S L S1 S2 U:List L2.Pr}
def TupK (H H':Hp):Prop:=∀ b xs,H b=some (.tup xs)->H' b=some (.tup xs)
def TupK.trans (a:TupK H H1) (b:TupK H1 H2):TupK H H2:=fun c xs h=>b c xs (a c xs h)
def Same.tk (s:Same H H'):TupK H H':=fun b xs h=>s b _ h
def Grow.tk {p:Addr} (g:Grow p H H') (e:H p=some (.lst xs)):TupK H H':=fun b ys h=>g b _ h (X7 h e fun z=>by cases z)
def U9.tk {P:Addr} (s:U9 P H H') {ps:Array Value} (e:H P=some (.tbl ps)):TupK H H':=fun b xs h=>s b _ (X7 h e fun z=>by cases z) h
def Zcn (H:Hp) (v:V) (w:List Int):Prop:=∃ t,v=.ref t/\H t=some (.tup (w.map V.int))
def Ng (H:Hp) (v:V) (p:Pr):Prop:=∃ t tw,v=.ref t/\H t=some (.tup [.int p.1,.ref tw])/\H tw=some (.tup (p.2.map V.int))
def Zcn.tk {v:V} {w:List Int} (h:Zcn H v w) (s:TupK H H'):Zcn H' v w:=by
 obtain ⟨t,e,a⟩:=h;exists t,e,s _ _ a
def Ng.tk {v:V} {p:Pr} (h:Ng H v p) (s:TupK H H'):Ng H' v p:=by
 obtain ⟨t,tw,e,a,b⟩:=h;exists t,tw,e,s _ _ a,s _ _ b
abbrev X9 (H:Hp):List V->List (List Int)->Prop:=Paired (Zcn H)
abbrev Prs (H:Hp):List V->List Pr->Prop:=Paired (Ng H)
def X9.tk (h:X9 H vs ws) (s:TupK H H'):X9 H' vs ws:=Paired.mapP h fun _ _ z=>z.tk s
def Prs.tk (h:Prs H vs L) (s:TupK H H'):Prs H' vs L:=Paired.mapP h fun _ _ z=>z.tk s
theorem Paired.at {α:Type} {F:α->β->Prop}:∀ {l:List α} {m:List β},Paired F l m->∀ {i:Nat} (h1:i<l.length) (h2:i<m.length),F l[i] m[i]
 | _,_,.nil,_,h,_=>absurd h (Bh _)
 | _,_,.cons a r,0,_,_=>a
 | _,_,.cons a r,i+1,h1,h2=>Paired.at r (i:=i) (by simpa using h1) (by simpa using h2)
theorem Paired.snoc {α:Type} {F:α->β->Prop} {x:α} {y:β} (h:F x y):∀ {l:List α} {m:List β},Paired F l m->Paired F (l++[x]) (m++[y]):=by
 intro _ _ hz9;cases hz9 with
 | nil=>
  exact .cons h .nil
 | cons a r=>
  exact .cons a (Paired.snoc h r)
theorem Paired.app {α:Type} {F:α->β->Prop} {l':List α} {m':List β} (h:Paired F l' m'):∀ {l:List α} {m:List β},Paired F l m->Paired F (l++l') (m++m'):=by
 intro _ _ hz9;cases hz9 with
 | nil=>
  exact h
 | cons a r=>
  exact .cons a (Paired.app h r)
theorem Paired.tak {α:Type} {F:α->β->Prop}:∀ {l:List α} {m:List β} (n:Nat),Paired F l m->Paired F (l.take n) (m.take n)
 | _,_,0,_=>by rw [Bf,Bf]; exact .nil
 | _,_,n+1,.nil=>.nil
 | _,_,n+1,.cons a r=>.cons a (Paired.tak n r)
theorem Paired.drp {α:Type} {F:α->β->Prop}:∀ {l:List α} {m:List β} (n:Nat),Paired F l m->Paired F (l.drop n) (m.drop n)
 | _,_,0,h=>h
 | _,_,n+1,.nil=>.nil
 | _,_,n+1,.cons a r=>Paired.drp n r
theorem Paired.rev {α:Type} {F:α->β->Prop}:∀ {l:List α} {m:List β},Paired F l m->Paired F l.reverse m.reverse:=by
 intro _ _ hz9;cases hz9 with
 | nil=>
  exact .nil
 | cons a r=>
  exact by rw [Bq,Bq]; exact Paired.snoc a (Paired.rev r)
def Zpl (a b:Pr):Prop:=a.1≠b.1/\¬ a.2<+:b.2/\¬ b.2<+:a.2
def Free (L:List Pr):Prop:=L.Pairwise Zpl
def Free.get (h:Free L) {i:Nat} (hi:i<L.length) (hj:j<L.length) (hij:i<j):Zpl L[i] L[j]:=Bt.mp h i j hi hj hij
def Ri (p q:Pr):V:=if p.1=q.1 then .str (Str.ofString "twice") else if p.2.take (min p.2.length q.2.length)=q.2.take (min p.2.length q.2.length) then .str (Str.ofString "begins") else .non
def Zep {p q:Pr} (h:Zpl p q):Ri p q=.non:=by
 unfold Ri;rw [Dg h.1,Dg];intro e;rcases Nat.le_total p.2.length q.2.length with l | l
 ·rw [Fv l,Jt] at e;exact h.2.1 (e ▸ Fs _ _)
 ·rw [Nat.min_eq_right l,Jt] at e;exact h.2.2 (e ▸ Fs _ _)
theorem Zdu:∀ (a b:List Int),PyData.eqvAll (a.map PyData.int) (b.map PyData.int)=decide (a=b)
 | [],[]=>by simp [PyData.eqvAll]
 | [],_::_=>by simp [PyData.eqvAll]
 | _::_,[]=>by simp [PyData.eqvAll]
 | x::a,y::b=>by
  simp only [Jl,PyData.eqvAll,PyData.eqv,Zdu a b]
  by_cases h:x=y
  ·subst h; simp
  ·simp [h]
def Zos (a b:List Int):PyData.eqv (.tuple (a.map PyData.int)) (.tuple (b.map PyData.int))=decide (a=b):=by
 simp only [PyData.eqv,Zdu]
def Nx (ns:List Int):Shp 1 (.tuple (ns.map PyData.int)):=Wj fun d hd=>by
 obtain ⟨i,_,rfl⟩:=Ji.mp hd;exact Ra i
def Zcf (w:List Int) {j:Int} (h0:0<=j) (h1:j<=w.length):cutV (w.map V.int) none (some j)=(w.take j.toNat).map V.int:=by
 rw [Zau h0 (by rw [Jb]; exact h1),B3]
def Zlk:Sp:=fun vs H Q _=>∃ v1 v2 p q,vs=[v1,v2]/\Ng H v1 p/\Ng H v2 q/\p.2.length<=1000/\q.2.length<=1000/\∀ H',Same H H'->Q (Ri p q) H'
def U8 (H:Hp) (a:Addr) (L:List Pr):Prop:=∃ vs,H a=some (.lst vs)/\Prs H vs L
def U8.same {a:Addr} (h:U8 H a L) (s:Same H H'):U8 H' a L:=by
 obtain ⟨vs,e,p⟩:=h;exists vs,s _ _ e,p.tk s.tk
def Fits (L:List Pr):Prop:=L.length<64/\∀ p∈L,p.2≠[]/\p.2.length<=4
def Td:Sp:=fun vs H Q _=>∃ a L,vs=[.ref a]/\U8 H a L/\Free L/\Fits L/\∀ H',Same H H'->Q .non H'
abbrev wk (w:List Int):List Key:=w.map Sum.inl
def Zmp (w:List Int):(wk w).map kV=w.map V.int:=by rw [Gm]; rfl
def Zct (kvs:List (List Key×V)) (ws:List (List Int)):Prop:=∀ u:List Int,(valV kvs (wk u)).isSome=decide (∃ w∈ws,u<+:w/\u.length<w.length)
def Zf4:Sp:=fun vs H Q _=>∃ a vws ws,vs=[.ref a]/\H a=some (.lst vws)/\X9 H vws ws/\ws.length<64/\(∀ w∈ws,w.length<=4) /\
 ∀ (d:Addr) (kvs:List (List Key×V)) (H':Hp),Same H H'->H d=none->H' d=some (.dT kvs)->Zct kvs ws->Q (.ref d) H'
def Zgj {a:Addr} {w:List Int} {j:Int} (e:H a=some (.tup (w.map V.int))) (h0:0<=j) (h1:j<=w.length)
  (h:∀ t H',Same H H'->H' t=some (.tup ((w.take j.toNat).map V.int))->Q (.ref t) H'):rSlW K (.ref a) none (some j) H Q:=by
 exists a,·,SqT.of e,fun hw=>h a H (.refl _) ?_,fun p hp=>h p _ (Zb hp) ?_
 ·rw [Zcf w h0 h1] at hw;rw [hw];exact e
 ·rw [Zd,Zcf w h0 h1]
theorem Zn9 (a b:Nat):(if (b:Int)<(a:Int) then (b:Int) else (a:Int))=((min a b:Nat):Int):=by split <;> lia
def Zez [DecidableEq κ] (kvs:List (κ×V)) (k k':κ) (v:V):(valV (putK kvs k v) k').isSome=(decide (k'=k) || (valV kvs k').isSome):=by
 rw [Q9]
 by_cases h:k'=k
 ·rw [Dh h,Di h]; rfl
 ·rw [Dg h,Dj h,Bool.false_or]
theorem S0:∀ {u v:List Int},wk u=wk v->u=v
 | [],[],_=>rfl
 | [],_::_,h=>nomatch h
 | _::_,[],h=>nomatch h
 | x::u,y::v,h=>by
  have h':(Sum.inl x:Key)::wk u=Sum.inl y::wk v:=h;injection h' with a b
  rw [Sum.inl.inj a,S0 b]
def Nd {α:Type} {xs:List α} {v:α} (h:xs[j]?=some v):atI xs (0+(j:Int))=some v:=by rw [Int.zero_add]; exact U7 h
def Se (kvs:List (List Key×V)) (ws:List (List Int)) (w:List Int) (n:Nat):Prop :=
 ∀ u:List Int,(valV kvs (wk u)).isSome=decide ((∃ x∈ws,u<+:x/\u.length<x.length)\/(u<+:w/\u.length<n))
theorem Se.put {w:List Int} {n:Nat} (h:Se kvs ws w n) (hn:n<=w.length) {v:V}:Se (putK kvs (wk (w.take n)) v) ws w (n+1):=by
 intro u;rw [Zez,h u];have e:(wk u=wk (w.take n))↔(u=w.take n):=⟨S0,fun z=>by rw [z]⟩;rw [decide_eq_decide.mpr e,<- Bool.decide_or];refine decide_eq_decide.mpr ⟨fun z=>?_,fun z=>?_⟩
 ·rcases z with z | z | ⟨z1,z2⟩
  ·subst z;exact .inr ⟨Fs _ _,by rw [Jn]; lia⟩
  ·exact .inl z
  ·exact .inr ⟨z1,by lia⟩
 ·rcases z with z | ⟨z1,z2⟩
  ·exact .inr (.inl z)
  ·by_cases l:u.length<n
   ·exact .inr (.inr ⟨z1,l⟩)
   ·refine .inl ?_;have:u.length=n:=by lia
    rw [<- this];exact List.prefix_iff_eq_take.mp z1
def Se.next {w:List Int} (h:Se kvs ws w w.length) (w':List Int):Se kvs (ws++[w]) w' 0:=by
 intro u;rw [h u];refine decide_eq_decide.mpr ⟨fun z=>?_,fun z=>?_⟩
 ·rcases z with ⟨x,hx,z⟩ | z
  ·exact .inl ⟨x,Bc _ hx,z⟩
  ·exact .inl ⟨w,Jw _ (Jj.mpr rfl),z⟩
 ·rcases z with ⟨x,hx,z⟩ | ⟨_,z⟩
  ·rcases Gc.mp hx with hx | hx
   ·exact .inl ⟨x,hx,z⟩
   ·rw [Jj.mp hx] at z; exact .inr z
  ·exact absurd z (Bh _)
def Se.nil (w:List Int):Se [] [] w 0:=by
 intro u;rw [Zjl];refine (Dj ?_).symm;rintro (⟨x,hx,_⟩ | ⟨_,z⟩)
 ·exact nomatch hx
 ·exact absurd z (Bh _)
def Se.done {w:List Int} (h:Se kvs ws w 0):Zct kvs ws:=by
 intro u;rw [h u];refine decide_eq_decide.mpr ⟨fun z=>?_,fun z=>.inl z⟩;rcases z with z | ⟨_,z⟩
 ·exact z
 ·exact absurd z (Bh _)
theorem Zgz {α:Type} {f:α->β} {m n:List β} (h:m.Perm n):∀ {l:List α},l.map f=n->∃ l':List α,l'.Perm l/\l'.map f=m:=by
 induction h with
 | nil=>intro l e;exists l,.refl _,e
 | cons x _ ih =>
  intro l e;cases l with
  | nil=>cases e
  | cons a l =>
   rw [Jl] at e;injection e with e1 e2
   obtain ⟨l',p,q⟩:=ih e2;exact ⟨a::l',p.cons a,by rw [Jl,e1,q]⟩
 | swap x y l0 =>
  intro l e
  match l,e with
  | a::b::r,e =>
   rw [Jl,Jl] at e;injection e with e1 e2
   injection e2 with e2 e3
   exact ⟨b::a::r,.swap _ _ _,by rw [Jl,Jl,e1,e2,e3]⟩
 | trans _ _ ih1 ih2 =>
  intro l e;obtain ⟨l2,p2,q2⟩:=ih2 e;obtain ⟨l1,p1,q1⟩:=ih1 q2;exists l1,p1.trans p2,q1
structure PK3 where
 v:V
 tw:Addr
 p:Pr
def PK3.At (H:Hp) (e:PK3):Prop:=∃ t,e.v=.ref t/\H t=some (.tup [.int e.p.1,.ref e.tw])/\H e.tw=some (.tup (e.p.2.map V.int))
def PK3.At.tk {e:PK3} (h:e.At H) (s:TupK H H'):e.At H':=by
 obtain ⟨t,a,b,c⟩:=h;exists t,a,s _ _ b,s _ _ c
theorem Zlx :∀ {vs:List V} {L:List Pr},Prs H vs L->∃ M:List PK3,M.map (·.v)=vs/\M.map (·.p)=L/\∀ e∈M,e.At H
 | _,_,.nil=>⟨[],rfl,rfl,fun _ h=>nomatch h⟩
 | _,_,.cons ⟨t,tw,a,b,c⟩ r=>by
  obtain ⟨M,e1,e2,e3⟩:=Zlx r;exists ⟨_,tw,_⟩::M,by rw [Jl,e1],by rw [Jl,e2],fun e he=>?_;rcases Jq.mp he with z | z
  ·rw [z];exists t,a,b,c
  ·exact e3 e z
theorem Zly :∀ {M:List PK3},(∀ e∈M,e.At H)->Prs H (M.map (·.v)) (M.map (·.p))
 | [],_=>.nil
 | e::M,h=>by
  obtain ⟨t,a,b,c⟩:=h e Jm;exact .cons ⟨t,e.tw,a,b,c⟩ (Zly fun x hx=>h x (Jk _ hx))
def PK3.k (e:PK3):KIt:=(e.v,e.tw,e.p.2)
def X8 [DecidableEq κ] (kvs:List (κ×V)) (zs:List (κ×V)):List (κ×V):=zs.foldl (fun a z=>putK a z.1 z.2) kvs
theorem Zds [DecidableEq κ]:∀ (zs kvs:List (κ×V)),(X8 kvs zs).length<=kvs.length+zs.length
 | [],kvs=>by simp [X8]
 | z::r,kvs=>by
  have:=Zds r (putK kvs z.1 z.2);have l:=Xb kvs z.1 z.2;show (X8 (putK kvs z.1 z.2) r).length<=_;rw [Jz];lia
theorem Tl [DecidableEq κ] {k:κ}:∀ (zs kvs:List (κ×V)),(∀ z∈zs,z.1≠k)->valV (X8 kvs zs) k=valV kvs k
 | [],kvs,_=>rfl
 | z::r,kvs,h=>by
  show valV (X8 (putK kvs z.1 z.2) r) k=_;rw [Tl r _ fun y hy=>h y (Jk _ hy),Q9,Dg (fun e=>h z Jm e.symm)]
theorem Ry [DecidableEq κ] {k:κ} {v:V}:∀ (zs kvs:List (κ×V)),(zs.map (·.1)).Nodup->(k,v)∈zs->valV (X8 kvs zs) k=some v
 | [],kvs,_,h=>nomatch h
 | z::r,kvs,nd,h=>by
  show valV (X8 (putK kvs z.1 z.2) r) k=_;rw [Jl,Gq] at nd;rcases Jq.mp h with e | h
  ·subst e;rw [Tl r _ fun y hy e=>nd.1 (by
    have hm:y.1∈r.map (·.1):=Ji.mpr ⟨y,hy,rfl⟩;rw [e] at hm;exact hm),Q9,Dh rfl]
  ·exact Ry r _ nd.2 h
theorem Zcd {D:Addr}:∀ (zs kvs:List (Key×V)),kvs.length+zs.length<sizeLine->DFill H D (.dK kvs) (zs.map fun z=>(kV z.1,z.2)) (.dK (X8 kvs zs))
 | [],kvs,_=>.nil
 | z::r,kvs,h=>by
  rw [Jz] at h;have l:=Xb kvs z.1 z.2;have d:=DPut.k (H:=upd H D (.dK kvs)) (a:=D) (k:=z.1) (v:=z.2) Zd (by lia);rw [Zfh] at d;exact .cons d (Zcd r (putK kvs z.1 z.2) (by lia))
theorem Zic {D:Addr} (hD:H D=none):∀ (zs:List (Addr×List Key×V)) (kvs:List (List Key×V)),kvs.length+zs.length<sizeLine->(∀ z∈zs,H z.1=some (.tup (z.2.1.map kV))) ->
  DFill H D (.dT kvs) (zs.map fun z=>(.ref z.1,z.2.2)) (.dT (X8 kvs (zs.map fun z=>(z.2.1,z.2.2))))
 | [],kvs,_,_=>.nil
 | z::r,kvs,h,ht=>by
  rw [Jz] at h;have l:=Xb kvs z.2.1 z.2.2;have e:=ht z Jm;have d:=DPut.t (H:=upd H D (.dT kvs)) (a:=D) (b:=z.1) (k:=z.2.1) (v:=z.2.2) Zd (by rw [Zl (Zp e hD)]; exact e) (by lia);rw [Zfh] at d;exact .cons d (Zic hD r (putK kvs z.2.1 z.2.2) (by lia) fun y hy=>ht y (Jk _ hy))
def Vs (H:Hp) (k1:List (Key×V)) (S:List Pr):Prop:=(∀ p∈S,∃ t,valV k1 (Sum.inl p.1)=some (.ref t)/\H t=some (.tup (p.2.map V.int)))/\∀ s:Int,(∀ p∈S,p.1≠s)->valV k1 (Sum.inl s)=none
def Zf7 (k2:List (List Key×V)) (S:List Pr):Prop:=(∀ p∈S,valV k2 (wk p.2)=some (.int p.1))/\∀ u:List Int,(∀ p∈S,p.2≠u)->valV k2 (wk u)=none
def Zd8 (ns:List Int) (S:List Pr):Prop:=ns.Pairwise (· < ·)/\∀ n:Int,n∈ns↔∃ p∈S,(p.2.length:Int)=n
structure CodeIn (H:Hp) (tp d1 d2 d3 d4:Addr) (S:List Pr):Prop where
 pr:∃ vs,H tp=some (.tup vs)/\Prs H vs S
 wb:∃ k1,H d1=some (.dK k1)/\Vs H k1 S
 sb:∃ k2,H d2=some (.dT k2)/\Zf7 k2 S
 bg:∃ k3,H d3=some (.dT k3)/\Zct k3 (S.map (·.2))
 sz:∃ ns:List Int,H d4=some (.tup (ns.map V.int))/\Zd8 ns S
def Ux (C:Addr) (H:Hp) (x:Addr) (S:List Pr):Prop:=∃ dx tp d1 d2 d3 d4,H x=some (.ins C dx [("pairs",.ref tp),("words_by_sign",.ref d1),("signs_by_word",.ref d2),("begun",.ref d3),("word_sizes",.ref d4)])/\CodeIn H tp d1 d2 d3 d4 S
def Nf (S:List Pr):Prop:=S.Pairwise fun a b=>HT.lexLt a.2 b.2=true
def W9.grow {x:Addr} {q:Str} (t:W9 Pt pos q H) {fs:List (Str×V)} (e:H x=some (.ins C dx fs)) (g:Grow x H H'):W9 Pt pos q H':=by
 obtain ⟨ps,a,b,c⟩:=t;exists ps,g _ _ a (X7 a e fun z=>by cases z),b,?_;rcases c with c | ⟨c',d,f⟩
 ·exact .inl c
 ·exact .inr ⟨c',d,g _ _ f (X7 f e fun z=>by cases z)⟩
def Grow.tkI {x:Addr} (g:Grow x H H') {fs:List (Str×V)} (e:H x=some (.ins C dx fs)):TupK H H':=fun b ys h=>g b _ h (X7 h e fun z=>by cases z)
section
def rLen (K:W.Frag):List V->Hp->VK->Prop:=fun xs H Q=>∃ x n,xs=[x]/\LenV K x H n/\Q (.int n) H
def W8 (h:X.K=K):Ws X (.builtin "len") (rLen K):=by subst h; exact Y8
def Zi1 (h:X.K=K):IxR X (rIxL K):=by subst h; exact Xc
def Zsn (h:X.K=K):IxR X (rIxT K):=by subst h; exact Tj
def Zo4 (h:X.K=K):OpR X (binaryOp .Add) (Znh K):=by subst h; exact Zhb
end
end L2
variable {S L S1 S2 U:List L2.Pr}
namespace L2
open PySem PySem.W PyProof.Rows HT
theorem Px:∀ {us:List Value} {ns:List Int},IntsAre us ns->Vals (ns.map V.int) us:=by
 intro _ _ hz9;cases hz9 with
 | nil=>
  exact .nil
 | cons n t h=>
  exact .cons ⟨t,rfl⟩ (Px h)
theorem Zht:∀ {us:List Value} {ns:List Int},us.length=ns.length->(∀ (j:Nat) (v:Value),us[j]?=some v->∃ n t,ns[j]?=some n/\v=Value.int n t)->IntsAre us ns
 | [],[],_,_=>.nil
 | u::us,n::ns,hl,h=>by
  obtain ⟨m,t,e,rfl⟩:=h 0 u rfl;cases e;exact .cons _ t (Zht (by simpa using hl) fun j v e=>h (j+1) v e)
section
def Zqv:List V->Hp->VK->Prop:=fun xs H Q=>∃ (d:Addr) (kvs:List (Key×V)) (ns:List Int),xs=[.ref d]/\H d=some (.dK kvs)/\kvs.map (·.1)=ns.map Sum.inl/\kvs.length<64 /\
 ∀ (D:Addr) (ns':List Int),H D=none->ns'.Perm ns->ns'.Pairwise (·<=·)->Q (.ref D) (upd H D (.lst (ns'.map V.int)))
theorem Ze7 (hc:X.calm=true):Ws X (.builtin "sorted") Zqv:=by
 intro pq s σ H xs us Q I r h;obtain ⟨d,kvs,ns,rfl,ed,ek,hl,q⟩:=h;obtain ⟨u,rfl,rx⟩:=Uy r;cases rx;obtain ⟨hz,lo,vs,rel,dof⟩:=Zox I.hok ed;obtain ⟨ep,da⟩:=dof.dictAt;have hv:=Paired.length rel;refine Calls.call_function_entry kind_sorted plain_sorted entry_sorted (args_sorted1 _) ?_;unfold Builtin.«sorted»;refine Da (m:=checkCount "sorted" 1 1 _) (Db ?_);refine Da (kdu_collect (A:=X.A.in1) (kdl_dict (knd:=Yz X.prog X.w) (kvs:=vs) (ep:=ep) lo) (I.ok.hd hc) da (by rw [sizeLine_eq]; lia) fun h' tk acc hk hacc=>?_);have hal:acc.toList.length=vs.length:=by rw [Bs]; exact hacc.1
 have hkl:kvs.length=ns.length:=by have:=congrArg List.length ek; simpa using this
 refine Da (wpAny_newList ?_ (by rw [hal,sizeLine_eq]; lia));have hI:IntsAre acc.toList ns:=Zht (by lia) fun j v e=>by
  obtain ⟨k,x,e1,e2⟩:=hacc.2 j v (by rw [<- Array.getElem?_toList]; exact e);have hj:j<vs.length:=(Jh.mp e1).1;have hr:=L2.Paired.at rel (by lia:j<kvs.length) hj;have e3:=congrArg (·[j]?) ek;simp only [J9,Ja (by lia:j<kvs.length),Ja (by lia:j<ns.length),Fg,Option.some.injEq] at e3;rw [Ja hj] at e1;have e4:=Dl e1;rw [hr.1,e4] at e3;subst e3;rcases Yi (show Pu (Sum.inl ns[j]) v=true from e2) with ⟨i,t,e5,rfl⟩ | ⟨y,t,e5,rfl⟩
  ·cases e5;exists _,t,Ja (by lia:j<ns.length),rfl
  ·cases e5
 have hoL:(h'.push (seqObj "list" acc.toList.toArray 0)).get? h'.objs.size=some (seqObj "list" acc.toList.toArray 0):=De _ rfl;refine Da (wpAny_holding (wpAny_call_entry (s:={ s with heap:=h'.push (seqObj "list" acc.toList.toArray 0),toks:=tk }) slot_list_sort ⟨_,hoL,rfl⟩ entry_list_sort (list_sort_tree hoL hI (by lia) fun out ns' a1 a2 a3=>⟨_,rfl,?_⟩) (args_list_sort _)));obtain ⟨e,he⟩:=sortedHeap_at (vs:=acc.toList) (out:=out) hoL;have I1:Inv X pq σ H { s with heap:=h',toks:=tk }:=I.kept hk;refine Db ⟨_,rfl,.ref h'.objs.size,_,I1.laid (t':=tk) (fun b o eb=>?_) (Je _) (show Yw X.prog X.w _ _ _ (.lst (ns'.map V.int)) from ⟨?_,out.toList,e,Px a1,he⟩),rfl,q _ ns' (I1.hok.fresh (Je _)) a2 a3⟩
 ·have hb:h'.get? b=some o:=eb;have hlt:=Df hb;rw [sortedHeap_old (Gg hlt) (by rw [size_push']; exact Bx hlt)];exact Dd _ hb
 ·rw [Jb,a2.length_eq,sizeLine_eq]; lia
end
end L2
namespace L2
open PySem PySem.Spec PyProof.Rows
def Zkj [DecidableEq κ] (kvs:List (κ×V)) (k:κ) (v:V):(putK kvs k v).map (·.1)=if k∈kvs.map (·.1) then kvs.map (·.1) else kvs.map (·.1)++[k]:=by
 unfold putK;have hiff:(kvs.any fun kv=>decide (kv.1=k))=true↔k∈kvs.map (·.1):=by
  rw [Bo,Ji]
  constructor
  ·rintro ⟨x,h1,h2⟩;exists x,h1,of_decide_eq_true h2
  ·rintro ⟨x,h1,h2⟩;exists x,h1,Di h2
 by_cases h:k∈kvs.map (·.1)
 ·rw [Dh h,Dh (hiff.mpr h),Gm];refine List.map_congr_left fun kv _=>?_;show (if kv.1=k then (kv.1,v) else kv).1=kv.1
  split <;> rfl
 ·rw [Dg h,Dg (fun z=>h (hiff.mp z)),Jg];rfl
theorem Rz:∀ (zs:List Int) (kvs:List (Key×V)) (ns:List Int),kvs.map (·.1)=ns.map Sum.inl->ns.Nodup ->
  ∃ ns':List Int,(X8 kvs (zs.map fun z=>((Sum.inl z:Key),V.bl true))).map (·.1)=ns'.map Sum.inl/\ns'.Nodup/\∀ n,n∈ns'↔n∈ns\/n∈zs
 | [],kvs,ns,e,nd=>⟨ns,e,nd,fun n=>by simp⟩
 | z::r,kvs,ns,e,nd=>by
  have hm:(Sum.inl z:Key)∈kvs.map (·.1)↔z∈ns:=by
   rw [e,Ji]
   constructor
   ·rintro ⟨x,h,h2⟩;cases h2;exact h
   ·exact fun h=>⟨z,h,rfl⟩
  have hp:=Zkj kvs (Sum.inl z) (V.bl true);show ∃ ns':List Int,(X8 (putK kvs (Sum.inl z) (V.bl true)) (r.map _)).map (·.1)=_/\_
  by_cases h:z∈ns
  ·rw [Dh (hm.mpr h),e] at hp;obtain ⟨ns',a,b,c⟩:=Rz r _ ns hp nd;exists ns',a,b,fun n=>?_;rw [c,Jq]
   constructor
   ·rintro (q | q)
    ·exact .inl q
    ·exact .inr (.inr q)
   ·rintro (q | rfl | q)
    ·exact .inl q
    ·exact .inl h
    ·exact .inr q
  ·rw [Dg (fun q=>h (hm.mp q)),e] at hp;obtain ⟨ns',a,b,c⟩:=Rz r _ (ns++[z]) (by rw [hp,Jg]; rfl) (Gv.mpr ⟨nd,by simp,fun x hx y hy=>by
    rw [Jj.mp hy];exact fun q=>h (q ▸ hx)⟩)
   exists ns',a,b,fun n=>?_;rw [c,Jq,Gc,Jj]
   constructor
   ·rintro ((q | q) | q)
    ·exact .inl q
    ·exact .inr (.inl q)
    ·exact .inr (.inr q)
   ·rintro (q | q | q)
    ·exact .inl (.inl q)
    ·exact .inl (.inr q)
    ·exact .inr q
theorem Zf6 {ns':List Int} (nd:ns.Nodup) (h:∀ n,n∈ns↔n∈S.map fun p=>(p.2.length:Int)) (p:ns'.Perm ns) (ri:ns'.Pairwise (·<=·)):Zd8 ns' S:=by
 exists ?_,fun n=>?_
 ·have nd':ns'.Nodup:=p.nodup_iff.mpr nd;exact (List.pairwise_and_iff.mpr ⟨ri,nd'⟩).imp fun {a b} z=>by
   have:=z.1;have:=z.2;lia
 ·rw [p.mem_iff,h,Ji]
def Zf3:Sp:=fun vs H Q _=>∃ (p a:Addr) (m:Int),vs=[.ref p,.int m]/\HandAt H p a/\2<=m/\m<=4 /\
 ∀ (l:Addr) (bs:List Int) (H':Hp),H l=none->l≠p->H' l=some (.lst (bs.map V.int))->bs.Nodup->2<=bs.length->(bs.length:Int)<=m->(∀ b∈bs,0<=b/\b<256)->HandAt H' p a->Grow p H H'->Q (.ref l) H'
theorem Zbg {b s:Int} (hs:1<=s) {n:Nat} (hn:s*n<=255+s):((List.range n).map fun k:Nat=>(b+s*(k:Int)) % 256).Nodup:=by
 refine Gf.mpr ?_;refine Bt.mpr fun i j hi hj hij=>?_;simp only [By] at hi hj;simp only [List.getElem_range];intro e;have h2:s*((j:Int)-(i:Int))=s*(j:Int)-s*(i:Int):=Int.mul_sub _ _ _;have h3:0<s*((j:Int)-(i:Int)):=Int.mul_pos (by lia) (by lia);have h4:s*((j:Int)-(i:Int))<=s*((n:Int)-1):=Int.mul_le_mul_of_nonneg_left (by lia) (by lia);have h5:s*((n:Int)-1)<=255:=by rw [Int.mul_sub,Int.mul_one]; lia
 rw [h2] at h3 h4;generalize s*(j:Int)=X at *
 generalize s*(i:Int)=Y at *
 lia
def PF (ws:List (List Int)):Prop:=ws.Pairwise fun a b=>¬ a<+:b/\¬ b<+:a
def WOk (ws:List (List Int)):Prop:=PF ws/\∀ w∈ws,w≠[]/\w.length<=4
def PF.sub {a b:List (List Int)} (h:PF b) (s:a.Sublist b):PF a:=List.Pairwise.sublist s h
def WOk.sub {a b:List (List Int)} (h:WOk b) (s:a.Sublist b):WOk a:=⟨h.1.sub s,fun w hw=>h.2 w (s.subset hw)⟩
def Ui {w:List Int} {a b:Int} (h:a≠b):¬ (w++[a])<+:(w++[b]):=fun e=>by
 have:=List.IsPrefix.eq_of_length e (by simp);simp at this;exact h this
def Znx {bs:List Int} (nd:bs.Nodup):WOk (bs.map fun b=>[b]):=by
 exists Gf.mpr (nd.imp fun z=>⟨Ui (w:=[]) z,Ui (w:=[]) z.symm⟩),fun w hw=>?_;obtain ⟨b,_,rfl⟩:=Ji.mp hw;exact ⟨by simp,by simp⟩
theorem Zj4 {a c:List (List Int)} {w:List Int} {bs:List Int} (nd:bs.Nodup) (h:WOk (a++w::c)) (hw:w.length<4):WOk (a++(bs.map fun b=>w++[b])++c):=by
 obtain ⟨h1,h2⟩:=h;have hk:∀ x,(¬ x<+:w/\¬ w<+:x)->∀ b,¬ x<+:w++[b]/\¬ (w++[b])<+:x:=fun x hx b=>by
  exists fun z=>?_,fun z=>hx.2 ((Gb _ _).trans z);rcases List.prefix_concat_iff.mp z with e | e
  ·exact hx.2 (e ▸ Gb _ _)
  ·exact hx.1 e
 unfold PF at h1;rw [List.pairwise_append] at h1;obtain ⟨pa,pwc,pac⟩:=h1;rw [Fw] at pwc;obtain ⟨pw,pc⟩:=pwc;exists ?_,fun x hx=>?_
 ·unfold PF;rw [Gd,List.pairwise_append];exists pa,?_,fun x hx y hy=>?_
  ·rw [List.pairwise_append];exists Gf.mpr (nd.imp fun z=>⟨Ui z,Ui z.symm⟩),pc,fun x hx y hy=>?_;obtain ⟨b,_,rfl⟩:=Ji.mp hx;have:=hk y ⟨(pw y hy).2,(pw y hy).1⟩ b;exists this.2,this.1
  ·rcases Gc.mp hy with hy | hy
   ·obtain ⟨b,_,rfl⟩:=Ji.mp hy;exact hk x (pac x hx w Jm) b
   ·exact pac x hx y (Jk _ hy)
 ·rcases Gc.mp hx with hx | hx
  ·rcases Gc.mp hx with hx | hx
   ·exact h2 x (Bc _ hx)
   ·obtain ⟨b,_,rfl⟩:=Ji.mp hx;exact ⟨by simp,by rw [Jc,Gs]; lia⟩
  ·exact h2 x (Jw _ (Jk _ hx))
theorem Zfd:∀ (ss:List Int) (ws:List (List Int)),((ss.zip ws).map (·.1)).Sublist ss
 | [],_=>by simp
 | _::_,[]=>by simp
 | a::r,b::t=>by rw [List.zip_cons_cons,Jl]; exact (Zfd r t).cons₂ a
theorem Zfc:∀ (ss:List Int) (ws:List (List Int)),((ss.zip ws).map (·.2)).Sublist ws
 | [],_=>by simp
 | _::_,[]=>by simp
 | a::r,b::t=>by rw [List.zip_cons_cons,Jl]; exact (Zfc r t).cons₂ b
def WOk.free (h:WOk ws) {ss:List Int} (nd:ss.Nodup):Free (ss.zip ws):=by
 have h1:((ss.zip ws).map (·.1)).Nodup:=nd.sublist (Zfd ss ws);have h2:PF ((ss.zip ws).map (·.2)):=h.1.sub (Zfc ss ws);exact (Gf.mp h1).and (Gf.mp h2) |>.imp fun z=>⟨z.1,z.2.1,z.2.2⟩
def V3 (H:Hp) (a:Addr) (ws:List (List Int)):Prop:=∃ vs,H a=some (.lst vs)/\X9 H vs ws
def V3.same {a:Addr} (h:V3 H a ws) (s:Same H H'):V3 H' a ws:=by
 obtain ⟨vs,e,p⟩:=h;exists vs,s _ _ e,p.tk s.tk
def Zfx:Sp:=fun vs H Q _=>∃ (p a sa:Addr) (m lg:Int) (bs:List Int),vs=[.ref p,.ref sa,.int m,.int lg]/\HandAt H p a/\H sa=some (.lst (bs.map V.int))/\sa≠p/\bs.Nodup/\bs≠[]/\bs.length<=24/\0<=m/\m<=6/\1<=lg/\lg<=4 /\
 ∀ (l:Addr) (ws:List (List Int)) (H':Hp),H l=none->l≠p->V3 H' l ws->WOk ws->(ws.length:Int)<=bs.length+m*bs.length->HandAt H' p a->Grow p H H'->Q (.ref l) H'
section
variable {a:Addr} {i:Nat} {y:V}
def Zhr (e:H a=some (.lst xs)) (hi:i<xs.length):(Itl K a).go i H:=⟨_,_,SqL.of e,Ja hi⟩
def Pw (e:H a=some (.lst xs)) (hi:xs.length<=i):(Itl K a).stop i H:=⟨_,SqL.of e,hi⟩
def Zb4 (e:H a=some (.lst xs)) (hi:i<xs.length) (z:(Itl K a).yld i H y H'):H'=H/\y=xs[i]:=by
 exists z.1,?_;have:=z.2 _ (SqL.of e);rw [Ja hi] at this;exact (Dl this).symm
end
def Xn {p a:Addr} (h:HandAt H p a):∃ xs,H p=some (.lst xs):=let ⟨_,_,_,e,_⟩:=h.ex; ⟨_,e⟩
def X9.take1 (h:X9 H vs ws) {i:Nat} (hi:i<vs.length):∃ (hj:i<ws.length) (t:Addr),vs[i]=.ref t/\H t=some (.tup (ws[i].map V.int)):=by
 have hj:i<ws.length:=by rw [<- Paired.length h]; exact hi
 obtain ⟨t,e,z⟩:=L2.Paired.at h hi hj;exists hj,t,e,z
def Zf0:Sp:=fun vs H Q _=>∃ (p a:Addr) (m:Int),vs=[.ref p,.int m]/\HandAt H p a/\0<=m/\m<=100 /\
 ∀ (l:Addr) (ss:List Int) (H':Hp),H l=none->l≠p->H' l=some (.lst (ss.map V.int))->ss.Nodup->(ss.length:Int)=m->HandAt H' p a->Grow p H H'->Q (.ref l) H'
def Zfz:Sp:=fun vs H Q _=>∃ (p a wa sa:Addr) (ws:List (List Int)) (ss:List Int),vs=[.ref p,.ref wa,.ref sa]/\HandAt H p a/\V3 H wa ws/\wa≠p/\WOk ws/\ws.length<=28/\H sa=some (.lst (ss.map V.int))/\sa≠p/\ss.Nodup/\ws.length<=ss.length/\ss.length<=100 /\
 ∀ (l:Addr) (L:List Pr) (H':Hp),H l=none->l≠p->U8 H' l L->Free L->Fits L->(L.map (·.2)).Perm ws->HandAt H' p a->Grow p H H'->Q (.ref l) H'
def Free.rev (h:Free L):Free L.reverse:=List.pairwise_reverse.mpr (h.imp fun z=>⟨z.1.symm,z.2.2,z.2.1⟩)
theorem Zfv {b s:Int} (hs:1<=s) (n:Nat):((List.range n).map fun k:Nat=>b+s*(k:Int)).Nodup:=by
 refine Gf.mpr (Bt.mpr fun i j hi hj hij=>?_);simp only [List.getElem_range];intro e;have h3:0<s*((j:Int)-(i:Int)):=Int.mul_pos (by lia) (by lia);rw [Int.mul_sub] at h3;lia
def Qo {ss:List Int} (h:ss.Nodup) (n:Nat):(ss.drop n++ss.take n).Nodup:=by
 have:(ss.take n++ss.drop n).Nodup:=by rw [G9]; exact h
 exact (List.perm_append_comm.nodup_iff).mp this
def Kept (p Pt:Addr) (H H':Hp):Prop:=∀ b o,b≠p->b≠Pt->H b=some o->H' b=some o
def Kept.trans {p:Addr} (a:Kept p Pt H H1) (b:Kept p Pt H1 H2):Kept p Pt H H2:=fun c o n m h=>b c o n m (a c o n m h)
def Kept.tk {p:Addr} (k:Kept p Pt H H') {ps:Array Value} (e:H p=some (.lst xs)) (eP:H Pt=some (.tbl ps)):TupK H H' :=
 fun b ys h=>k b _ (X7 h e fun z=>by cases z) (X7 h eP fun z=>by cases z) h
def Ux.same {x:Addr} (h:Ux C H x S) (s:Same H H'):Ux C H' x S:=by
 obtain ⟨dx,tp,d1,d2,d3,d4,ex,⟨⟨vs,a1,a2⟩,⟨k1,b1,b2⟩,⟨k2,c1,c2⟩,⟨k3,f1,f2⟩,⟨k4,g1,g2⟩⟩⟩:=h;exists dx,tp,d1,d2,d3,d4,s _ _ ex,⟨vs,s _ _ a1,Prs.tk a2 s.tk⟩,⟨k1,s _ _ b1,fun p hp=>?_,b2.2⟩,⟨k2,s _ _ c1,c2⟩,⟨k3,s _ _ f1,f2⟩,⟨k4,s _ _ g1,g2⟩;obtain ⟨t,u,v⟩:=b2.1 p hp;exists t,u,s _ _ v
theorem Zn5:∀ (ns:List Int) (c:Option Int),(∀ n∈ns,n<=(mxOf c ns).getD 0)/\∀ z,c=some z->z<=(mxOf c ns).getD 0
 | [],c=>⟨fun n h=>(nomatch h),fun z e=>by subst e; exact Int.le_refl _⟩
 | n::r,none=>by
  obtain ⟨h1,h2⟩:=Zn5 r (some n);exists fun m hm=>?_,fun z e=>nomatch e;rcases Jq.mp hm with e | hm
  ·rw [e]; exact h2 n rfl
  ·exact h1 m hm
 | n::r,some c=>by
  obtain ⟨h1,h2⟩:=Zn5 r (some (if c<n then n else c));have h3:=h2 _ rfl;exists fun m hm=>?_,fun z e=>?_
  ·rcases Jq.mp hm with e | hm
   ·rw [e];refine Int.le_trans ?_ h3
    split <;> lia
   ·exact h1 m hm
  ·injection e with e
   rw [<- e];refine Int.le_trans ?_ h3
   split <;> lia
theorem Zn4 {b:Int}:∀ (ns:List Int) (c:Option Int),0<=b->(∀ n∈ns,n<=b)->(∀ z,c=some z->z<=b)->(mxOf c ns).getD 0<=b
 | [],none,h0,_,_=>h0
 | [],some c,_,_,h=>h c rfl
 | n::r,none,h0,h1,_=>Zn4 r (some n) h0 (fun m hm=>h1 m (Jk _ hm)) fun z e=>by injection e with e; rw [<- e]; exact h1 n Jm
 | n::r,some c,h0,h1,h2=>Zn4 r _ h0 (fun m hm=>h1 m (Jk _ hm)) fun z e=>by
  injection e with e
  rw [<- e];have a:=h1 n Jm;have b:=h2 c rfl
  split <;> lia
def Zf1 (C:Addr):Sp:=fun vs H Q _=>∃ (x t:Addr) (S:List Pr) (u:List Int),vs=[.ref x,.ref t]/\Ux C H x S/\H t=some (.tup (u.map V.int))/\(∀ p∈S,p.2=u->Q (.int p.1) H)/\((∀ p∈S,p.2≠u)->Q .non H)
def Zb9 (h:Free S) {p q:Pr} (hp:p∈S) (hq:q∈S) {l:List Int} (p1:p.2<+:l) (q1:q.2<+:l):p=q:=by
 obtain ⟨i,hi,rfl⟩:=Js hp;obtain ⟨j,hj,rfl⟩:=Js hq;have z:=List.prefix_or_prefix_of_prefix p1 q1;rcases Fl i j with l | l | l
 ·have a:=h.get hi hj l;rcases z with z | z
  ·exact absurd z a.2.1
  ·exact absurd z a.2.2
 ·subst l; rfl
 ·have a:=h.get hj hi l;rcases z with z | z
  ·exact absurd z a.2.2
  ·exact absurd z a.2.1
def Free.perm (h:Free L) (p:S.Perm L):Free S:=(p.pairwise_iff (fun {a b} z=>⟨z.1.symm,z.2.2,z.2.1⟩)).mpr h
def Fits.perm (h:Fits L) (p:S.Perm L):Fits S:=⟨by rw [p.length_eq]; exact h.1,fun x hx=>h.2 x (p.mem_iff.mp hx)⟩
def Zc0 (C:Addr):Sp:=fun vs H Q _=>∃ (x r:Addr) (S:List Pr) (ns:List Int) (pl:Nat),vs=[.ref x,.ref r,.int pl]/\Ux C H x S/\Fits S/\H r=some (.lst (ns.map V.int))/\pl<=ns.length /\
 (∀ p∈S,p.2<+:ns.drop pl->∀ (t:Addr) (H':Hp),Same H H'->H' t=some (.tup (p.2.map V.int))->Q (.ref t) H')/\((∀ p∈S,¬ p.2<+:ns.drop pl)->∀ H',Same H H'->Q .non H')
def Ye (T:List Pr):List Int:=(T.map fun q:Pr=>q.2).flatten
def Yu (T:List Pr):List Int:=T.map fun q:Pr=>q.1
def Sq (p:Pr) (T:List Pr):Ye (p::T)=p.2++Ye T:=rfl
def Rf (A B:List Pr):Ye (A++B)=Ye A++Ye B:=by unfold Ye; rw [List.map_append,List.flatten_append]
theorem Tw (h:Fits S):∀ {T:List Pr},(∀ p∈T,p∈S)->(Ye T).length<=4*T.length
 | [],_=>by simp [Ye]
 | p::T,m=>by
  have a:=Tw h (T:=T) fun q hq=>m q (Jk _ hq);have b:=(h.2 p (m p Jm)).2;rw [Sq,Jc,Jz];lia
def Zj0 (T:List Pr) {i:Nat} (hi:i<T.length):(Ye T).drop (Ye (T.take i)).length=T[i].2++Ye (T.drop (i+1)):=by
 have e:Ye T=Ye (T.take i)++(T[i].2++Ye (T.drop (i+1))):=by
  rw [<- Sq,<- G2 hi,<- Rf,G9]
 rw [e,List.drop_left]
def Zjz {T:List Pr} {i:Nat} (hi:i<T.length):Ye (T.take (i+1))=Ye (T.take i)++T[i].2:=by
 rw [Jf hi,Rf,Sq];simp [Ye]
theorem Zoz (w:List Int) {k m:Nat} (h:k<=w.length):cutV (w.map V.int) (some (k:Int)) (some ((k:Int)+(m:Int)))=((w.drop k).take m).map V.int:=by
 unfold cutV;rw [<- Int.natCast_add,HT.sIx_nat,HT.sIx_nat,Jb,Fv h,B3,Fi];refine List.take_eq_take_iff.mpr ?_;rw [Gh,Jb];lia
def Zud {c A:Prop} [Decidable c] (hc:¬ c) (h:A):if (!decide c)=true then A else B:=by
 rw [Dj hc];exact iteT h
def Zrr {c A:Prop} [Decidable c] (hc:c) (h:A):if decide c=true then A else B:=by
 rw [Di hc];exact iteT h
def Zrs {c A:Prop} [Decidable c] (hc:¬ c) (h:B):if decide c=true then A else B:=by
 rw [Dj hc];exact iteF h
def W9.keep {Pt:Addr} {pos:Pos} {q:Str} {H H':Hp} (t:W9 Pt pos q H) (k:Same H H'):W9 Pt pos q H':=t.same k
section
def Zbm (K:W.Frag):List V->Hp->VK->Prop:=fun xs H Q=>∃ p ys,xs=[.ref p]/\(SqL K H p ys\/SqT K H p ys)/\∀ l,H l=none->Q (.ref l) (upd H l (.lst ys))
def Zci (h:X.K=K):Ws X (.type "list") (Zbm K):=by subst h; exact Za0
def Zls (K:W.Frag):List V->Hp->VK->Prop:=fun xs H Q=>∃ p ys,xs=[.ref p]/\((SqL K H p ys/\∀ l,H l=none->Q (.ref l) (upd H l (.tup ys)))\/(SqT K H p ys/\Q (.ref p) H))
def Ziz (h:X.K=K):Ws X (.type "tuple") (Zls K):=by subst h; exact Wf
def rIsi (K:W.Frag):List V->Hp->VK->Prop:=fun xs H Q=>∃ x T t b,xs=[x,.ty T]/\TyOf K H x t/\W.kitOne K t (.type T)=some b/\Q (.bl b) H
def Zso (h:X.K=K):Ws X (.builtin "isinstance") (rIsi K):=by subst h; exact Zk2
end
abbrev En:=Nat×Option Int
variable {R:List L2.En}
inductive Went (S:List Pr) (ns:List Int):List En->Nat->Prop where
 | nil:Went S ns [] 0
 | lost {R:List En} {pl:Nat}:Went S ns R pl->pl<ns.length->(∀ p∈S,¬ p.2<+:ns.drop pl)->Went S ns (R++[(pl,none)]) (pl+1)
 | word {R:List En} {pl:Nat} {p:Pr}:Went S ns R pl->p∈S->p.2<+:ns.drop pl->p.2≠[]->Went S ns (R++[(pl,some p.1)]) (pl+p.2.length)
theorem Zgv {w:List Int} (h:w<+:ns.drop pl) (hw:w≠[]):pl<ns.length/\pl+w.length<=ns.length:=by
 have a:=h.length_le;have b:=Gr.mpr hw;rw [Gh] at a;lia
theorem Went.le (h:Went S ns R pl):pl<=ns.length:=by
 cases h with
 | nil=>exact Ge _
 | lost _ h _=>exact h
 | word _ _ h1 h2=>exact (Zgv h1 h2).2
theorem Went.len (h:Went S ns R pl):R.length<=pl:=by
 induction h with
 | nil=>exact Je _
 | lost _ _ _ ih=>rw [Jc,Gs]; lia
 | word _ _ _ h2 ih =>
  have:=Gr.mpr h2;rw [Jc,Gs];lia
theorem Went.perm (h:Went S ns R pl) (p:S.Perm L):Went L ns R pl:=by
 induction h with
 | nil=>exact .nil
 | lost _ h1 h2 ih=>exact .lost ih h1 fun q hq=>h2 q (p.mem_iff.mpr hq)
 | word _ h1 h2 h3 ih=>exact .word ih (p.mem_iff.mp h1) h2 h3
theorem Went.one (fr:Free S) {A:List En} (h:Went S ns A pa):∀ {B:List En} {pb:Nat},Went S ns B pb->A.length=B.length->A=B/\pa=pb:=by
 induction h with
 | nil =>
  intro B pb hb e;cases hb with
  | nil=>exact ⟨rfl,rfl⟩
  | lost=>simp at e
  | word=>simp at e
 | lost _ h1 h2 ih =>
  intro B pb hb e;cases hb with
  | nil=>simp at e
  | lost b1 b2 b3 =>
   obtain ⟨rfl,rfl⟩:=ih b1 (by simpa using e);exists rfl,rfl
  | word b1 b2 b3 b4 =>
   obtain ⟨rfl,rfl⟩:=ih b1 (by simpa using e);exact absurd b3 (h2 _ b2)
 | word _ h1 h2 h3 ih =>
  intro B pb hb e;cases hb with
  | nil=>simp at e
  | lost b1 b2 b3 =>
   obtain ⟨rfl,rfl⟩:=ih b1 (by simpa using e);exact absurd h2 (b3 _ h1)
  | word b1 b2 b3 b4 =>
   obtain ⟨rfl,rfl⟩:=ih b1 (by simpa using e);obtain rfl:=Zb9 fr h1 b2 h2 b3;exists rfl,rfl
theorem Went.cut {B:List En} (h:Went S ns B pb):∀ n,n<B.length->∃ p',Went S ns (B.take n) p'/\p'<ns.length:=by
 induction h with
 | nil=>intro n hn; exact absurd hn (Bh _)
 | @lost R pl g h1 h2 ih =>
  intro n hn;rw [Jc,Gs] at hn
  by_cases z:n<R.length
  ·obtain ⟨p',a,b⟩:=ih n z;exists p',by rw [G1 (by lia)]; exact a,b
  ·have:n=R.length:=by lia
   subst this;exists pl,by rw [Fo]; exact g,h1
 | @word R pl p g h1 h2 h3 ih =>
  intro n hn;rw [Jc,Gs] at hn
  by_cases z:n<R.length
  ·obtain ⟨p',a,b⟩:=ih n z;exists p',by rw [G1 (by lia)]; exact a,b
  ·have:n=R.length:=by lia
   subst this;exists pl,by rw [Fo]; exact g,(Zgv h2 h3).1
theorem Went.uniq (fr:Free S) {A B:List En} (ha:Went S ns A pa) (ea:ns.length<=pa) (hb:Went S ns B pb) (eb:ns.length<=pb):A=B:=by
 rcases Fl A.length B.length with l | l | l
 ·obtain ⟨p',a,b⟩:=hb.cut _ l;obtain ⟨_,e⟩:=ha.one fr a (by rw [Jn]; lia);lia
 ·exact (ha.one fr hb l).1
 ·obtain ⟨p',a,b⟩:=ha.cut _ l;obtain ⟨_,e⟩:=hb.one fr a (by rw [Jn]; lia);lia
def oV:Option Int->V
 | some z=>.int z
 | none=>.non
def EntV (H:Hp) (v:V) (e:En):Prop:=∃ t,v=.ref t/\H t=some (.tup [.int (e.1:Nat),oV e.2])
def EntV.tk {v:V} {e:En} (h:EntV H v e) (s:TupK H H'):EntV H' v e:=by
 obtain ⟨t,a,b⟩:=h;exists t,a,s _ _ b
abbrev Ents (H:Hp):List V->List En->Prop:=Paired (EntV H)
def Ents.tk (h:Ents H vs R) (s:TupK H H'):Ents H' vs R:=Paired.mapP h fun _ _ z=>z.tk s
def Told (S:List Pr) (ns:List Int) (R:List En):Prop:=∃ pl,Went S ns R pl/\ns.length<=pl
def Told.uniq (fr:Free S) {A B:List En} (a:Told S ns A) (b:Told S ns B):A=B:=by
 obtain ⟨pa,a1,a2⟩:=a;obtain ⟨pb,b1,b2⟩:=b;exact a1.uniq fr a2 b1 b2
def Told.perm (h:Told S ns R) (p:S.Perm L):Told L ns R:=by
 obtain ⟨pl,a,b⟩:=h;exists pl,a.perm p,b
def Zdm (R:List En):List Int:=(R.filter fun e=>e.2.isNone).map fun e=>((e.1:Nat):Int)
def Itd (d:Addr) (o:Obj) (kvs:List (Key×V)):It:=⟨fun i H=>H d=some (.frz o (.dK kvs))/\i<kvs.length,fun i H x H'=>H'=H/\∃ kv,kvs[i]?=some kv/\x=kV kv.1,fun i H=>H d=some (.frz o (.dK kvs))/\kvs.length<=i⟩
def Zoe {k:Key} {v:Value} (h:Pu k v=true):RelV (kV k) v:=by
 rcases Yi h with ⟨i,t,rfl,rfl⟩ | ⟨x,t,rfl,rfl⟩
 ·exists t,rfl
 ·exists t,rfl
def Zdq {w:World} {d:Addr} {o:Obj} {kvs:List (Key×V)} {es0:Array DictEntry} {ep:Nat} (ok:HOk P w H h) (e:H d=some (.frz o (.dK kvs))) (hep:o.data=.dict es0 ep) :
  kvs.length<=sizeLine/\(d == sysModules)=false/\∃ vs,KV kvs vs/\h.DictAt (Yz P w) d vs ep:=by
 obtain ⟨e1,z,hd,vs,r,ob,es,ep',e2,c,dd,rest⟩:=(show Yw P w H h d (.frz o (.dK kvs)) from ok d _ e);have eo:ob=o:=Dl (e2.symm.trans e1);subst eo;rw [hep] at dd;injection dd with d1 d2
 subst d1 d2;exists z,hd,vs,r,ob,es0,e1,c,hep,rest
theorem Zfl {w:World} (d:Addr) (o:Obj) (kvs:List (Key×V)) {es0:Array DictEntry} {ep:Nat} (hep:o.data=.dict es0 ep) (it:Addr):Turn P w K tg (Itd d o kvs) [it] it (fun i h=>h.IsKeyIter it d i kvs.length ep) where
 mem:=by simp
 obj:=fun i h st b hb=>by
  obtain rfl:b=it:=by simpa using hb
  obtain ⟨o,e,c,d⟩:=st;exact ⟨o,e,fun v z=>by rw [d] at z; cases z⟩
 keep:=fun i h h' st k=>let ⟨o,e,r⟩:=st; ⟨o,k it (by simp) o e,r⟩
 item:=by
  intro X hP hw hK hc i pq s σ H E I hf st hg;subst hP hw hK;obtain ⟨f0,f1,f2,f3,f4,f5⟩:=hf it (by simp);obtain ⟨hd,hi⟩:=hg;obtain ⟨_,_,vs,r,da⟩:=Zdq I.hok hd hep;have hl:=Paired.length r;have hi2:i<vs.length:=by lia
  have hr:=L2.Paired.at r hi hi2;rw [hl] at st;refine wpAny_pyNext_dict_item (k:=vs[i].1) (v:=vs[i].2) st da (by rw [Ja hi2]) fun key h' hk st' sb=>?_;have I1:Inv X pq σ H { s with heap:=h',toks:=s.toks }:=I.turned (fun b o hb e=>(sb.2 b hb).trans e) f0 f1 f3 f4 f5;rw [<- hl] at st';obtain ⟨o',e',c',d'⟩:=id st';exists key,rfl,Zkr (s:={ s with heap:=h',toks:=s.toks }) e' c' d' nofun ⟨kV kvs[i].1,H,I1,by rw [hr.1]; exact Zoe hk,⟨rfl,kvs[i],Ja hi,rfl⟩,st',fun b hb=>(hf b hb).1⟩
 done:=by
  intro X hP hw hK hc i pq s σ H E I hf st hg;subst hP hw hK;obtain ⟨f0,f1,f2,f3,f4,f5⟩:=hf it (by simp);obtain ⟨hd,hi⟩:=hg;obtain ⟨_,_,vs,r,da⟩:=Zdq I.hok hd hep;have hl:=Paired.length r;rw [hl] at st;exact wpAny_pyNext_dict_end (I.ok.hd hc) st da (by simp; lia) fun h' eb=>⟨rfl,I.turned (t':=s.toks) (fun b o hb e=>eb b o hb e) f0 f1 f3 f4 f5⟩
 self:=fun _ _ _ _ _ st h=>wpAny_pyIter_keyiter st h
section
def dAlt (R:It->Hp->Prop) (d:Addr) (kvs:List (Key×V)) (H1:Hp):Prop:=(H1 d=some (.dK kvs)/\∀ o,R (Itd d o kvs) (upd H1 d (.frz o (.dK kvs))))\/∃ o,H1 d=some (.frz o (.dK kvs))/\R (Itd d o kvs) H1
def Zry (tl:TE):TI:=fun σ H R=>tl σ H fun x H1=>∃ d kvs,x=.ref d/\dAlt R d kvs H1
def Znr {l:Expr} {tl:TE} (hl:PE X l tl):PI X tg l (Zry tl):=by
 intro pq s σ H R I h;refine thn (hl pq s σ H _ I h) fun v s1 hz=>?_;obtain ⟨x,H1,I1,r1,q1⟩:=hz;obtain ⟨d,kvs,e,q⟩:=q1;subst e;cases r1;have go:∀ (o:Obj) (H2:Hp),Inv X pq σ H2 s1->H2 d=some (.frz o (.dK kvs))->R (Itd d o kvs) H2->wpAny (model X.prog X.w) X.A (pyIter (.ref d)) (PIE X pq σ tg R) X.xe s1:=fun o H2 I2 e2 q2=>by
  obtain ⟨e1,z,hd,vs,r,ob,es,ep,e3,c,dd,rest⟩:=(show Yw X.prog X.w H2 s1.heap d (.frz o (.dK kvs)) from I2.hok d _ e2);have eo:ob=o:=Dl (e3.symm.trans e1);subst eo;have hl:=Paired.length r;refine wpAny_pyIter_dict hd ⟨ob,es,e3,c,dd,rest⟩ ?_;exists s1.heap.objs.size,[s1.heap.objs.size],_,_,H2,rfl,I2.kept (t':=s1.toks) fun b o e=>Dd _ e,Zfl d ob kvs dd _,?_,fun b hb=>?_,q2
  ·rw [hl];exists _,De _ rfl,rfl,rfl
  ·have e:b=s1.heap.objs.size:=by simpa using hb
   subst e;exact I2.fpOk (Je _) (I2.hok.fresh (Je _))
 rcases q with ⟨e1,q⟩ | ⟨o,e1,q⟩
 ·obtain ⟨z,hd,vs,r,ob,es,ep,e3,c,dd,rest⟩:=I1.hok d _ e1;have I2:Inv X pq σ (upd H1 d (.frz ob (.dK kvs))) { s1 with heap:=s1.heap,toks:=s1.toks }:=I1.write (x:=d) (e:=d) (by rw [e1]; exact trivial) (.inl rfl) (fun b u _ h=>h) ⟨_,e3⟩ ⟨e3,z,hd,vs,r,ob,es,ep,e3,c,dd,rest⟩;exact go ob _ I2 Zd (q ob)
 ·exact go o H1 I1 e1 q
end
theorem Went.step (h:Went S ns R pl):∀ i (hi:i<R.length),∃ p',Went S ns (R.take i) p'/\R[i].1=p'/\p'<ns.length /\
  ((R[i].2=none/\(∀ p∈S,¬ p.2<+:ns.drop p')/\Went S ns (R.take (i+1)) (p'+1))\/∃ p∈S,R[i].2=some p.1/\p.2<+:ns.drop p'/\p.2≠[]/\Went S ns (R.take (i+1)) (p'+p.2.length)):=by
 induction h with
 | nil=>intro i hi; exact absurd hi (Bh _)
 | @lost R pl g h1 h2 ih =>
  intro i hi
  by_cases z:i<R.length
  ·obtain ⟨p',a1,a2,a3,a4⟩:=ih i z;exists p',?_;rw [G1 (by lia),G1 (by lia),List.getElem_append_left z];exists a1,a2,a3,a4
  ·have e:i=R.length:=by rw [Jc,Gs] at hi; lia
   subst e;exists pl,by rw [Fo]; exact g,by simp,h1,.inl ⟨by simp,h2,?_⟩;rw [Gj (by simp)];exact .lost g h1 h2
 | @word R pl p g h1 h2 h3 ih =>
  intro i hi
  by_cases z:i<R.length
  ·obtain ⟨p',a1,a2,a3,a4⟩:=ih i z;exists p',?_;rw [G1 (by lia),G1 (by lia),List.getElem_append_left z];exists a1,a2,a3,a4
  ·have e:i=R.length:=by rw [Jc,Gs] at hi; lia
   subst e;exists pl,by rw [Fo]; exact g,by simp,(Zgv h2 h3).1,.inr ⟨p,h1,by simp,h2,h3,?_⟩;rw [Gj (by simp)];exact .word g h1 h2 h3
section
variable {M:Model} {Ex:Value->Shared->Prop} 
structure Noted (fs:List Addr) (ea T:Addr) (oe:Obj) (fl:Value) (h h':Heap):Prop where
 keep:∀ b o,b∉fs->b≠ea->h.get? b=some o->h'.get? b=some o
 slot:∀ b o,b≠ea->h.get? b=some o->∃ sl,h'.get? b=some { o with slots:=sl }
 new:h.objs.size<=T
 exc:h'.get? ea=some (oe.mapFields (·.setIfInBounds 1 (.ref T)))
 tb:∃ ob ts,h'.get? T=some ob/\ob.data=.fields ts/\ts[3]?=some fl
 ne:T≠ea
def N8 {base:Heap} {l:List Env} {vs:Array Value} (ff:h.FunFrames base l) (eo:h.get? ea=some oe) (od:oe.data=.fields vs):ea∉frs l:=fun z=>by
 obtain ⟨_,o,ho,hnf⟩:=ff.mem z;rw [eo] at ho;cases ho;exact hnf vs od
def Zcw {base:Heap} {env:Env} {outer:List Env} {L:Addr} {vs:Array Value} {head:Value} {flag:Bool} {Q:Unit->Shared->Prop} (fr:A.frames=some (env::outer)) (ff:s.heap.FunFrames base (env::outer)) (ef:env.frame=some L)
  (eo:s.heap.get? ea=some oe) (od:oe.data=.fields vs) (sz:1<vs.size) (k:∀ h' T,Noted (frs (env::outer)) ea T oe (rawInt L) s.heap h'->Q () { s with heap:=h' }) :
  wpAny M A (do let a <- frameOf env; let pl <- entryPlaceOf L flag; let b <- EntryCells.newEntry head a .none (rawInt L) .none pl; setField (.ref ea) 1 b) Q Ex s:=by
 have nf:ea∉frs (env::outer):=N8 ff eo od;refine Da (wpAny_frameOf_fun fr ff ef fun g1 sl1=>?_);refine Da (wpAny_entryPlaceOf fun pl hpl=>?_);unfold EntryCells.newEntry newFields;refine Da (wpAny_newObj_type ?_ (hpl.sizeOk5 _ _ _ _ _));have e1:g1.get? ea=some oe:=(sl1.2.1 ea nf).trans eo;generalize hO:({ cls:=.type "traceback",dict:=none,data:=.fields ([head,.ref L,.none,rawInt L,.none]++(if pl.isEmpty then List.replicate 6 Value.none else pl)).toArray }:Obj)=tbo;have e2:(g1.push tbo).get? ea=some oe:=Dd _ e1;have lt:ea<g1.objs.size:=Df e1;have nT:g1.objs.size≠ea:=Fy lt;refine wpAny_setField e2 od sz (k _ g1.objs.size ?_)
 have td:tbo.data=.fields ([head,.ref L,.none,rawInt L,.none]++(if pl.isEmpty then List.replicate 6 Value.none else pl)).toArray:=by rw [<- hO]
 have gT:(g1.push tbo).get? g1.objs.size=some tbo:=De g1 (Obj.isFreed_of_fields td);have ed:=Obj.data_mapFields od (·.setIfInBounds 1 (Value.ref g1.objs.size));exists fun b o hb hne q=>?_,fun b o hne q=>?_,Bw sl1.1.symm,Heap.get?_update_self _ e2 (Obj.isFreed_of_fields ed),⟨tbo,_,?_,td,?_⟩,nT
 ·rw [Heap.get?_update_other _ _ (Ne.symm hne)];exact Dd _ ((sl1.2.1 b hb).trans q)
 ·obtain ⟨sl,e⟩:=sl1.2.2 b o q;exact ⟨sl,by rw [Heap.get?_update_other _ _ (Ne.symm hne)]; exact Dd _ e⟩
 ·rw [Heap.get?_update_other _ _ (Ne.symm nT)];exact gT
 ·simp
structure Gone (fs:List Addr) (ea:Addr) (T0:Option Addr) (oe:Obj) (vs:Array Value) (h h':Heap):Prop where
 keep:∀ b o,b∉fs->b≠ea->some b≠T0->h.get? b=some o->h'.get? b=some o
 slot:∀ b o,b≠ea->some b≠T0->h.get? b=some o->∃ sl,h'.get? b=some { o with slots:=sl }
 flow:∃ T vs' ob ts,h.objs.size<=T/\h'.get? ea=some { oe with data:=.fields vs' }/\vs'.size=vs.size/\vs'[1]?=some (.ref T)/\h'.get? T=some ob/\ob.data=.fields ts/\ts[3]?=some .none/\T≠ea
def mapF {vs:Array Value} (od:oe.data=.fields vs) (f:Array Value->Array Value):oe.mapFields f={ oe with data:=.fields (f vs) }:=by
 obtain ⟨c,d,dt,sl⟩:=oe;cases od;rfl
def Q4 {fs:List Addr} {T:Addr} {vs:Array Value} {L:Addr} {h0:Heap} {Q:Unit->Shared->Prop} (od:oe.data=.fields vs) (sz:1<vs.size) (nt:Noted fs ea T oe (rawInt L) h0 s.heap)
  (k:∀ h',Gone fs ea none oe vs h0 h'->Q () { s with heap:=h' }):wpAny M A (setFlight (.ref ea) none) Q Ex s:=by
 have ex:=nt.exc;rw [mapF od] at ex;obtain ⟨ob,ts,eT,dT,h3⟩:=nt.tb;have s3:3<ts.size:=(Br.mp h3).1;refine wpAny_setFlight_none ex rfl (by rw [B6,Dh sz]) eT dT s3 (k _ ?_);have dd:=Obj.data_mapFields dT (·.setIfInBounds 3 Value.none);have lt0:∀ b o,h0.get? b=some o->T≠b:=fun b o q z=>absurd (Df q) (Nat.not_lt.mpr (by rw [<- z]; exact nt.new));exists fun b o hb hne _ q=>?_,fun b o hne _ q=>?_,T,vs.setIfInBounds 1 (.ref T),_,_,nt.new,?_,?_,?_,Heap.get?_update_self _ eT (Obj.isFreed_of_fields dd),dd,?_,nt.ne
 ·rw [Heap.get?_update_other _ _ (lt0 b o q)];exact nt.keep b o hb hne q
 ·obtain ⟨sl,e⟩:=nt.slot b o hne q;exact ⟨sl,by rw [Heap.get?_update_other _ _ (lt0 b o q)]; exact e⟩
 ·rw [Heap.get?_update_other _ _ nt.ne];exact ex
 ·simp
 ·rw [B6,Dh sz]
 ·rw [B6,Dh s3]
def Zbx {base:Heap} {env:Env} {outer:List Env} {L:Addr} {vs:Array Value} {Q:Unit->Shared->Prop} (fr:A.frames=some (env::outer)) (ff:s.heap.FunFrames base (env::outer)) (ef:env.frame=some L)
  (eo:s.heap.get? ea=some oe) (od:oe.data=.fields vs) (v1:vs[1]?=some .none) (k:∀ h',Gone (frs (env::outer)) ea none oe vs s.heap h'->Q () { s with heap:=h' }) :
  wpAny M A (noteFrame (.ref ea) env) (fun _ s2=>wpAny M A (setFlight (.ref ea) none) Q Ex s2) Ex s:=by
 have sz:1<vs.size:=(Br.mp v1).1;unfold noteFrame;simp only [ef];refine Da (wpAny_field eo od v1 ?_);rw [Dg nofun];exact Zcw fr ff ef eo od sz fun h' T nt=>Q4 (s:={ s with heap:=h' }) od sz nt fun h2 g=>k h2 g
def T4 {base:Heap} {env:Env} {outer:List Env} {L T0:Addr} {oT:Obj} {vs ts:Array Value} {Q:Unit->Shared->Prop} (fr:A.frames=some (env::outer)) (ff:s.heap.FunFrames base (env::outer)) (ef:env.frame=some L)
  (eo:s.heap.get? ea=some oe) (od:oe.data=.fields vs) (v1:vs[1]?=some (.ref T0)) (eT:s.heap.get? T0=some oT) (dT:oT.data=.fields ts) (t3:ts[3]?=some .none) (ne:T0≠ea)
  (k:∀ h',Gone (frs (env::outer)) ea (some T0) oe vs s.heap h'->Q () { s with heap:=h' }) :
  wpAny M A (noteFrame (.ref ea) env) (fun _ s2=>wpAny M A (setFlight (.ref ea) none) Q Ex s2) Ex s:=by
 have sz:1<vs.size:=(Br.mp v1).1;unfold noteFrame;simp only [ef];refine Da (wpAny_field eo od v1 ?_);rw [Dh (show (Value.ref T0 != Value.none)=true by simp)];refine Da (wpAny_field eT dT t3 ?_);rw [Dg (show ¬ ((Value.none == rawInt L)=true) by simp [rawInt])];refine Da (wpAny_setField eT dT (Br.mp t3).1 ?_);have oth:∀ b,b≠T0->(s.heap.update T0 (Obj.mapFields (·.setIfInBounds 3 Value.none))).get? b=s.heap.get? b:=fun b hb=>Heap.get?_update_other _ _ (Ne.symm hb);have nfT:T0∉frs (env::outer):=N8 ff eT dT;have ff2:(s.heap.update T0 (Obj.mapFields (·.setIfInBounds 3 Value.none))).FunFrames base (env::outer):=ff.of_keeps fun b o hb hnf=>⟨o,(oth b fun z=>by
  rw [z,eT] at hb;cases hb;exact hnf ts dT).trans hb,rfl⟩
 refine Zcw (s:={ s with heap:=s.heap.update T0 (Obj.mapFields (·.setIfInBounds 3 Value.none)) }) fr ff2 ef ((oth ea (Ne.symm ne)).trans eo) od sz fun h' T nt=>Q4 (s:={ s with heap:=h' }) od sz nt fun h2 g=>k h2 ?_;have szU:(s.heap.update T0 (Obj.mapFields (·.setIfInBounds 3 Value.none))).objs.size=s.heap.objs.size:=Heap.size_after_update ..;obtain ⟨T1,vs1,ob1,ts1,z1,zr⟩:=g.flow;exists fun b o hb hne hT q=>g.keep b o hb hne (by simp) ((oth b fun z=>hT (by rw [z])).trans q),fun b o hne hT q=>g.slot b o hne (by simp) ((oth b fun z=>hT (by rw [z])).trans q),T1,vs1,ob1,ts1,by rw [<- szU]; exact z1,zr
def Qz {env:Env} {e:Value} {Q:Unit->Shared->Prop} (h:wpAny M A (noteFrame e env) (fun _ s2=>wpAny M A (setFlight e none) Q Ex s2) Ex s):wpAny M A (leaving env e) Q Ex s:=by
 unfold leaving;exact Da h
end
def excP (ea C:Addr) (d:Option Addr) (h:Heap):Prop:=∃ oe vs,h.get? ea=some oe/\oe.cls=.ref C/\oe.dict=d/\oe.data=.fields vs/\vs.size=6
def excP.ok {w:World} {d:Option Addr} (x:excP ea C d h):Yw P w H h ea (.ext (excP ea C d)):=by
 obtain ⟨oe,vs,e,r⟩:=id x;exists x,⟨oe,e⟩,fun h1 h2 ⟨o1,v1,e1,r1⟩ k=>⟨o1,v1,k _ e1,r1⟩
def Zcp (ea T:Addr) (h:Heap):Prop:=∃ oe vs oT ts,h.get? ea=some oe/\oe.data=.fields vs/\vs[1]?=some (.ref T)/\h.get? T=some oT/\oT.data=.fields ts/\ts[3]?=some .none/\T≠ea
def CXE (P:Program) (w:World):CXT:=fun outer H s E e s'=>∃ (ea C T:Addr) (d:Option Addr) (H':Hp),e=.ref ea/\s'.os=s.os/\AllBare s'.gens/\Un (frs outer) [] H H' s.heap s'.heap/\HOk P w H' s'.heap /\
 H' ea=some (.ext (excP ea C d))/\s.heap.objs.size<=ea/\H' T=none/\s.heap.objs.size<=T/\Zcp ea T s'.heap/\E (.ref C) d H'
section
def Inv.gone {d:Option Addr} {vs:Array Value} (I:Inv X pq σ H s) (hx:X.ex=[]) (hst:∀ b∈frs X.stack,b∈X.fs\/X.s₀.heap.objs.size<=b) (hea:H ea=some (.ext (excP ea C d))) (eo:s.heap.get? ea=some oe) (od:oe.data=.fields vs)
  (hT:∀ T,T0=some T->H T=none/\X.s₀.heap.objs.size<=T) (g:Gone (frs X.stack) ea T0 oe vs s.heap h'):Un X.fs [] X.H₀ H X.s₀.heap h'/\HOk X.prog X.w H h':=by
 have u:=I.base;rw [hx] at u;have ub:∀ b o,X.s₀.heap.get? b=some o->some b≠T0:=fun b o q z=>by
  have:=(hT b z.symm).2;exact absurd (Df q) (Nat.not_lt.mpr this)
 exists ⟨fun b o q n hb _=>?_,fun b o q n hb _=>?_,fun b o q n _=>u.free b o q n (by simp),fun b o q _=>?_,u.tups,u.frzs,u.tbls⟩,fun b o q=>?_
 ·have n2:=u.free b o q n (by simp);have ne:b≠ea:=fun z=>by rw [z,hea] at n2; cases n2
  refine g.keep b o (fun z=>?_) ne (ub b o q) (u.keep b o q n hb (by simp));rcases hst b z with z | z
  ·exact hb z
  ·exact absurd (Df q) (Nat.not_lt.mpr z)
 ·have n2:=u.free b o q n (by simp);have ne:b≠ea:=fun z=>by rw [z,hea] at n2; cases n2
  obtain ⟨sl,e⟩:=u.slot b o q n hb (by simp);obtain ⟨sl2,e2⟩:=g.slot b _ ne (ub b o q) e;exists sl2,e2
 ·obtain ⟨o',e⟩:=u.there b o q (by simp)
  by_cases ne:b=ea
  ·subst ne;obtain ⟨_,_,_,_,_,e3,_⟩:=g.flow;exists _,e3
  ·obtain ⟨sl,e2⟩:=g.slot b o' ne (ub b o q) e;exists _,e2
 ·have nfr:∀ c y,H c=some y->c∉frs X.stack:=fun c y r z=>by rw [I.stkFree c z] at r; cases r
  have nT:∀ c y,H c=some y->some c≠T0:=fun c y r z=>by rw [(hT c z.symm).1] at r; cases r
  by_cases ne:b=ea
  ·subst ne;rw [hea] at q;cases q;obtain ⟨⟨o1,v1,a1,a2,a3,a4,a5⟩,_,_⟩:=I.hok b _ hea;obtain ⟨T,vs',ob,ts,_,e3,e4,_⟩:=g.flow;rw [eo] at a1;cases a1;rw [od] at a4;cases a4;exact excP.ok ⟨_,vs',e3,a2,a3,rfl,by rw [e4]; exact a5⟩
  ·refine (I.hok b o q).stay (fun c v hc r=>?_) (fun _ z=>z) fun _ _ z=>z;rcases hc with hc | hc
   ·rw [hc] at r ⊢;exact g.keep b v (nfr b o q) ne (nT b o q) r
   ·have ne2:c≠ea:=fun z=>by rw [z,hea] at hc; cases hc
    exact g.keep c v (nfr c _ hc) ne2 (nT c _ hc) r
end
section
variable {w:World} {base:Heap} {scope:Scope} {f:Addr} {cd:Value} {outer:List Env} {E:XK}
abbrev cxE (P:Program) (w:World) (K:W.Frag) (mg:Str->Option Value) (base:Heap) (N:List Str) (qual:Str) (scope:Scope) (f:Addr) (cd:Value) (A:Around) (outer:List Env) (s:Shared) (H:Hp) (E:XK):Cx:=cxOf (CXE P w) P w K mg base N qual scope f cd A outer s H E
def Zio:∀ b∈frs (cxE P w K mg base N qual scope f cd A outer s H E).stack,b∈(cxE P w K mg base N qual scope f cd A outer s H E).fs\/(cxE P w K mg base N qual scope f cd A outer s H E).s₀.heap.objs.size<=b:=fun b hb=>by
 rcases Jq.mp (show b∈s.heap.objs.size::frs outer from hb) with z | z
 ·exact .inr (Bw z.symm)
 ·exact .inl z
def Lies (ea:Addr) (T0:Option Addr) (h:Heap):Prop:=match T0 with
 | none=>∃ oe vs,h.get? ea=some oe/\oe.data=.fields vs/\vs[1]?=some .none
 | some T=>Zcp ea T h
theorem Zs0 {s2:Shared} {d:Option Addr} (I:Inv (cxE P w K mg base N qual scope f cd A outer s H E) pq σ H2 s2) (hea:H2 ea=some (.ext (excP ea C d))) (lea:s.heap.objs.size<=ea)
  (hT:∀ T,T0=some T->H2 T=none/\s.heap.objs.size<=T) (fl:Lies ea T0 s2.heap) (q:E (.ref C) d H2):(cxE P w K mg base N qual scope f cd A outer s H E).xe (.ref ea) s2:=by
 have fin:∀ (oe:Obj) (vs:Array Value) (h':Heap),s2.heap.get? ea=some oe->oe.data=.fields vs->Gone (frs (cxE P w K mg base N qual scope f cd A outer s H E).stack) ea T0 oe vs s2.heap h'->CXE P w outer H s E (.ref ea) { s2 with heap:=h' }:=fun oe vs h' eo od g=>by
  obtain ⟨un,hok⟩:=I.gone rfl Zio hea eo od hT g;obtain ⟨T,vs',ob,ts,z1,z2,z3,z4,z5,z6,z7,z8⟩:=g.flow;exists ea,C,T,d,H2,rfl,I.os,I.bare,un,hok,hea,lea,I.hok.fresh z1,Jv I.sz z1,⟨_,vs',ob,ts,z2,rfl,z4,z5,z6,z7,z8⟩,q
 show wpAny (model P w) _ (leaving _ _) _ _ _;cases T0 with
 | none =>
  obtain ⟨oe,vs,eo,od,v1⟩:=fl;exact Qz (Zbx (base:=base) I.ok.frames I.stack rfl eo od v1 fun h' g=>fin oe vs h' eo od g)
 | some T =>
  obtain ⟨oe,vs,oT,ts,eo,od,v1,eT,dT,t3,ne⟩:=fl;exact Qz (T4 (base:=base) I.ok.frames I.stack rfl eo od v1 eT dT t3 ne fun h' g=>fin oe vs h' eo od g)
end
def CalE (P:Program) (w:World) (K:W.Frag) (mg:Str->Option Value) (base:Heap) (x:Str) (k:Nat) (ps:List Str) (sp:Sp):Prop :=
 ∃ f fd,FnOk P w K mg base (CXE P w) k f fd ps sp/\mg x=some (.ref f)/\W.keepIn K (.ref f)=true/\Vn K fd ps []
section
variable {w:World} {base:Heap}
def Fun.okE {x:Str} {f:Addr} {k:Nat} (F:Fun K x qual st f fd) (S:FnScope N ps (Zh st)) (len:∀ vs H Q E,sp vs H Q E->vs.length=ps.length)
  (hbody:∀ (cdv:Value) (A:Around) (outer:List Env) (s:Shared) (H:Hp) (vs:List V) (Q:VK) (E:XK),Room k (A.deeper (envOfC qual (Zh st) s.heap.objs.size f cdv))->sp vs H Q E ->
   ∃ t,PSs (cxE P w K mg base N qual (Zh st) f cdv A outer s H E) (Zu st) t/\t { nx:=fun _ H'=>Q .non H',rt:=Q } (Uz N vs) H):FnOk P w K mg base (CXE P w) (k+1) f fd ps sp:=by
 obtain ⟨oc,od,kV,doc,pm,an,cdv,ct,osl,rfl,lk,hcd⟩:=F.ex;exact Zoq lk hcd S len fun A outer s H vs Q E hr hsp=>hbody cdv A outer s H vs Q E hr hsp
end
end L2
variable {R:List L2.En}
namespace L2
open PySem PySem.Spec PyProof.Rows PySem.W
abbrev veB:List Value:=[.type "ValueError",.type "Exception",.type "BaseException",.type "object"]
def excI (K:Frag) (C fI:Addr):Bool:=match K.lookup C with
 | some ⟨.type "type",_,.cls cd,sl⟩=>(match cd.mro,sl.toList with
  | .ref C'::bm,[_,_,_,_,some (.builtin n),_]=>C' == C && (n == "ValueError.__new__" && (!cd.hasDel && (tailIn K veB bm && (nsOkIn K cd.ns && cd.hasDict))))
  | _,_=>false)
 | _=>false
def Qh (K:Frag) (C:Addr):Option (Option Value):=match K.lookup C with
 | some ⟨_,_,.cls cd,_⟩=>nsIn K cd.ns "__init__"
 | _=>none
def ExcA (h:Heap) (C:Addr) (o:Option (Option Value)):Prop:=∃ bm N nm q bs sn sub ab col dd k0 k1 k2 k3 k5 mN,h.get? C=some (excClassObj nm q C N bs bm true sn sub ab col dd k0 k1 k2 k3 k5 "ValueError.__new__")/\h.Ns N mN/\(∀ z,o=some z->mN "__init__"=z)/\OwnTail h veB bm
def ExcI (h:Heap) (C fI:Addr):Prop:=∃ bm N nm q bs sn sub ab col dd k0 k1 k2 k3 k5 mN,h.get? C=some (excClassObj nm q C N bs bm true sn sub ab col dd k0 k1 k2 k3 k5 "ValueError.__new__")/\h.Ns N mN/\mN "__init__"=some (.ref fI)/\OwnTail h veB bm
def Zeq {K:Frag} {N:Addr} {n:Str} {v:Value} (X:K.In h) (G:h.Ns N mg) (e:nsIn K N n=some (some v)):mg n=some v:=by
 obtain ⟨o,es,ep,ho,hd,_,hf⟩:=G;unfold nsIn at e
 split at e
 ·rename_i c d es' n' sl q
  have z:=X _ _ q;rw [ho] at z;cases z;cases hd
  split at e
  ·rename_i y he
   injection e with e
   rw [<- hf];unfold nsFind findBy;rw [<- Array.find?_toList,he];exact e
  ·rename_i he
   split at e <;> cases e
 ·cases e
def Zer {K:Frag} {N:Addr} {n:Str} (X:K.In h) (G:h.Ns N mg) (e:nsIn K N n=some none):mg n=none:=by
 obtain ⟨o,es,ep,ho,hd,_,hf⟩:=G;unfold nsIn at e
 split at e
 ·rename_i c d es' n' sl q
  have z:=X _ _ q;rw [ho] at z;cases z;cases hd
  split at e
  ·cases e
  ·rename_i he
   rw [<- hf];unfold nsFind findBy;rw [<- Array.find?_toList,he];rfl
 ·cases e
def R7 {K:Frag} (X:K.In h) (q:excI K C fI=true):ExcA h C (Qh K C):=by
 unfold excI at q
 split at q
 ·rename_i dd cd sl ho
  split at q
  ·rename_i C' bm k0 k1 k2 k3 n k5 hm hs
   have hin:Qh K C=nsIn K cd.ns "__init__":=by unfold Qh; rw [ho]
   simp only [Fe,beq_iff_eq,Bool.not_eq_true'] at q;obtain ⟨rfl,rfl,hdel,ht,hok,hdi⟩:=q;obtain ⟨nm,bs,mro,ns,qn,hd,sn,sub,ab,col,del⟩:=cd;dsimp only at hm hdel hok hdi hin;subst hm hdel hdi;have hsl:sl=#[k0,k1,k2,k3,some (.builtin "ValueError.__new__"),k5]:=by
    obtain ⟨l⟩:=sl;simp only at hs;rw [hs]
   subst hsl;exists bm,ns,nm,qn,bs,sn,sub,ab,col,dd,k0,k1,k2,k3,k5,_,X _ _ ho,.of_isNs (isNs_of_in X hok),fun z hz=>?_,tail_of_in X ht;rw [hin] at hz;cases z with
   | none=>exact Zer X (.of_isNs (isNs_of_in X hok)) hz
   | some v=>exact Zeq X (.of_isNs (isNs_of_in X hok)) hz
  ·cases q
 ·cases q
def Zor {K:Frag} (X:K.In h) (q:excI K C fI=true) (hi:Qh K C=some (some (.ref fI))):ExcI h C fI:=by
 obtain ⟨bm,N,nm,q,bs,sn,sub,ab,col,dd,k0,k1,k2,k3,k5,mN,cO,cN,cI,T⟩:=R7 X q;exists bm,N,nm,q,bs,sn,sub,ab,col,dd,k0,k1,k2,k3,k5,mN,cO,cN,cI _ hi,T
section
variable {w:World} {g:Array GenState} {d:Drawn} {t:Nat} {os:OsState}
def Zfo {oI:Obj} {rest:List Value} {Q:PySem.Fin->Shared->Prop} (x:ExcI h C fI) (fo:h.get? fI=some oI) (fc:oI.cls=.type "function") (sz:rest.length<=sizeLine)
  (k:∀ h',Heap.MadeExcOf h h' (h.objs.size+1) (.ref C) rest->wpAny (model prog w) A (call (.ref fI) (.ref (h.objs.size+1)::rest)) (fun r s'=>r=.none/\Q (.done (.ret (.ref (h.objs.size+1)))) s') E ⟨h',g,d,t,os⟩) :
  wpAny (model prog w) A (Builtin.«type.__call__» ⟨.ref C::rest,[]⟩) Q E ⟨h,g,d,t,os⟩:=by
 obtain ⟨bm,N,nm,q,bs,sn,sub,ab,col,dd,k0,k1,k2,k3,k5,mN,cO,cN,cI,T⟩:=x;have F:=PySem.F.excBase_ValueError
 repeat (first | wp_step | with_reducible refine wpAny_loadPart_at cO ?_ | with_reducible refine wpAny_madeBy_exc cO ?_)
 refine codeAny_call_builtin_code (Code.quiet_builtin _ F.quiet) (wpAny_check_new_subT F T cO ?_);refine codeAny_exc_new_subT F T cO ?_ sz;show wpAny _ _ _ _ _ _;generalize hO1:({ cls:=.type "tuple",data:=.seq rest.toArray }:Obj)=o1;generalize hO2:({ cls:=.ref C,data:=.fields #[.ref h.objs.size,.none,.none,.none,.bool false,.none] }:Obj)=o2;have kp:∀ b o,h.get? b=some o->((h.push o1).push o2).get? b=some o:=fun b o e=>Dd _ (Dd _ e);have f1:o1.isFreed=false:=by rw [<- hO1]; rfl
 have f2:o2.isFreed=false:=by rw [<- hO2]; rfl
 have at2:((h.push o1).push o2).get? (h.objs.size+1)=some o2:=by
  have:=De (h.push o1) f2;rwa [Heap.size_push] at this
 have c2:o2.cls=.ref C:=by rw [<- hO2]
 have self:(Value.ref C::bm).contains (.ref C)=true:=by simp
 have cO1:=kp _ _ cO;have cN1:=cN.keeps kp;have T1:=T.keeps kp;unfold isInstance
 repeat (first | (with_reducible refine wpAny_loadPart_at at2 ?_; rw [c2]) | (with_reducible refine wpAny_isSubtype_exc cO1 ?_; rw [self]) | wp_step)
 show wpAny _ _ (typeLookup (.ref C) _) _ _ _;refine wpAny_typeLookup_tail cO1 cN1 T1 F.mroIs F.init.lookup ?_;rw [cI];refine wpAny_holding (Da ?_);unfold bindSpecial;refine Da (wpAny_typeOf (T:="function") ⟨_,kp _ _ fo,fc⟩ ?_);rw [Dh nofun];have made:Heap.MadeExcOf h ((h.push o1).push o2) (h.objs.size+1) (.ref C) rest:=⟨kp,Heap.get?_none_of_le (Bn _),h.objs.size,by rw [at2,<- hO2],Heap.get?_none_of_le (Je _),by rw [hO1]; exact Dd _ (De h f1)⟩;refine Db (Da (Dn (k _ made) (fun r s' hr=>?_) fun _ _ z=>z));obtain ⟨rfl,hQ⟩:=hr
 wp_walk
 exact hQ
def Zk3 {oI:Obj} {rest:List Value} {Q:Value->Shared->Prop} (x:ExcI h C fI) (fo:h.get? fI=some oI) (fc:oI.cls=.type "function") (sz:rest.length<=sizeLine)
  (k:∀ h',Heap.MadeExcOf h h' (h.objs.size+1) (.ref C) rest->wpAny (model prog w) (A.under (.builtin "type.__call__" ⟨.ref C::rest,[]⟩)) (call (.ref fI) (.ref (h.objs.size+1)::rest)) (fun r s'=>r=.none/\Q (.ref (h.objs.size+1)) s') E ⟨h',g,d,t,os⟩) :
  wpAny (model prog w) A (call (.ref C) rest) Q E ⟨h,g,d,t,os⟩:=by
 obtain ⟨bm,N,nm,q,bs,sn,sub,ab,col,dd,k0,k1,k2,k3,k5,mN,cO,cN,cI,T⟩:=id x;have z1:=tc_lookup;have z2:=tc_bind (.ref C);have ty:(⟨h,g,d,t,os⟩:Shared).TypeIs (.ref C) "type":=⟨_,cO,rfl⟩;refine wpAny_call (codeAny_of_tree ?_);show wpAny _ _ (callAny (.ref C) _) _ _ _
 repeat (any_goals (first | assumption | wp_step | with_reducible refine wpAny_loadPart_at cO ?_))
 exists rfl,?_;exact codeAny_call_builtin_at (Code.quiet_builtin _ (by decide +kernel)) entry_typeCall (wpAny_check_type_call_sub cO (Zfo x fo fc sz k))
end
end L2
namespace L2
open PySem PySem.Spec PyProof.Rows PySem.W PySem.Builtin PySem.Builtin.ObjectAttr
def Zgg (self:Value):refuseLoop self "__setattr__" veB=pure ():=by kernel_rfl
theorem Zbl (self:Value) {bm:List Value} (T:OwnTail h veB bm):refuseLoop self "__setattr__" bm=pure ():=by
 induction T with
 | base=>exact Zgg self
 | own _ _ _ _ ih=>rw [refuseLoop_ref]; exact ih
section
variable {w:World} {K:Frag} {a:Addr}
def Zg5 {ox:Obj} {od:Option Obj} {name:Str} {tk:Tok} {v:Value} {R:Result->Shared->Prop} (X:K.In s.heap) (q:excI K C fI=true) (I:InstAt s.heap a ox C od) (ho:mroIn K C (.type "object")=some true) (ht:findIn K (.ref C) name=some none)
  (k:wpAny (model prog w) A.in1 (storeInOwnDict (.ref a) (.ref C) (.str name tk) name v false) (fun fin s'=>match fin with | .done f=>R (.ok f) s' | .again c'=>c'.quiet=true/\codeAny (model prog w) A c' R s') (fun e s'=>R (.error e) s') s) :
  codeAny (model prog w) A (.call (.builtin "object.__setattr__") ⟨[.ref a,.str name tk,v],[]⟩) R s:=by
 have SF:=PySem.F.store_object;have sub:Looks (model prog w) s.heap (isInstance (.ref a) (.type "object")) true:=I.type.andThen (looks_mroIn X ho);refine codeAny_call_builtin SF.slot.plain SF.entry (@check_slot (model prog w) _ _ s "object.__setattr__" "object" "__setattr__" (.ref a) [.str name tk,v] [] _ SF.kind SF.split sub (SF.args (.ref a) (.str name tk) v) ?_);obtain ⟨bm,N,nm,qn,bs,sn,sub',ab,col,dd,k0,k1,k2,k3,k5,mN,cO,cN,cI,T⟩:=R7 X q;rw [osa_eq,refuse_eq];refine Da (Da (I.type.here (Da ?_)));obtain ⟨hh,g,d,t,os⟩:=s;refine wpAny_mroOf_exc cO ?_;rw [refuseLoop_ref,Zbl _ T];refine Db (Da (I.type.here (Da ((looks_findIn X ht).here (Da ?_)))))
 show wpAny _ _ (pure none) _ _ _;refine Db ?_;exact k
theorem Zjt {ox:Obj} {vs:Array Value} {name:Str} {v:Value} {Q:Unit->Shared->Prop} (X:K.In s.heap) (q:excI K C fI=true) (ho:mroIn K C (.type "object")=some true) (ht:findIn K (.ref C) name=some none)
  (hs:findIn K (.ref C) "__setattr__"=some (some (.builtin "object.__setattr__"))) (ao:s.heap.get? a=some ox) (cl:ox.cls=.ref C) (dn:ox.dict=none) (od:ox.data=.fields vs)
  (k:∀ h',h'.Ns1 s.heap.objs.size (fun y=>if y=name then some v else none)->h'.get? a=some { ox with dict:=some s.heap.objs.size }->(∀ b o,b≠a->s.heap.get? b=some o->h'.get? b=some o)->Q () { s with heap:=h',toks:=s.toks+2 }) :
  wpAny (model prog w) A (setAttr (.ref a) name v) Q E s:=by
 have I:InstAt s.heap a ox C none:=⟨ao,cl,by obtain ⟨c,dd,dt,sl⟩:=ox; cases od; rfl,by rw [dn]; trivial⟩;refine W.set_plain X I hs (Zg5 (s:={ s with toks:=s.toks+1 }) X q I ho ht ?_);obtain ⟨bm,N,nm,qn,bs,sn,sub',ab,col,dd,k0,k1,k2,k3,k5,mN,cO,cN,cI,T⟩:=R7 X q;obtain ⟨c,di,dt,sl⟩:=ox;dsimp only at cl dn od;subst cl dn od;refine Da (Db (Da (Da (wpAny_loadPart ao (Da ?_)))));unfold classData;refine Da (wpAny_load cO (Db ?_));show wpAny _ _ (alloc { cls:=.type "dict",data:=.dict #[] } >>= fun d=>update a (fun o=>{ o with dict:=some d }) >>= fun _=>dictMade (.ref C) a d) _ _ _;refine Da (wpAny_alloc ?_)
 have ao2:(s.heap.push { cls:=.type "dict",data:=.dict #[] }).get? a=some _:=Dd _ ao;refine Da (wpAny_update ao2 ?_);refine Db ?_;refine Da (Db (Da ?_));have fz:(s.heap.push { cls:=.type "dict",data:=.dict #[] }).objs.size=s.heap.objs.size+1:=Heap.size_push ..;have ne:a≠s.heap.objs.size:=Gg (Df ao);generalize hU:(s.heap.push { cls:=.type "dict",data:=.dict #[] }).update a (fun o=>{ o with dict:=some s.heap.objs.size })=hp;have aU:hp.get? a=some { cls:=.ref C,dict:=some s.heap.objs.size,data:=.fields vs,slots:=sl }:=by
  rw [<- hU];exact Heap.get?_update_self _ ao2 rfl
 have oU:∀ b o,b≠a->(s.heap.push { cls:=.type "dict",data:=.dict #[] }).get? b=some o->hp.get? b=some o:=fun b o hb e=>by
  rw [<- hU,Heap.get?_update_other _ _ (Ne.symm hb)];exact e
 have dU:hp.get? s.heap.objs.size=some { cls:=.type "dict",data:=.dict #[] }:=oU _ _ (Ne.symm ne) (De s.heap rfl);have hn0:hp.Ns1 s.heap.objs.size (fun _=>none):=⟨_,#[],_,dU,rfl,(fun e he=>absurd he (by simp)),by first | trivial | exact List.Pairwise.nil | (intro x; simp),fun _=>rfl⟩;have w0:PySem.Within (fun _:Str=>(none:Option Value)) []:=fun n hn=>absurd rfl hn;refine wpAny_nsSet1 (s:={ s with heap:=hp,toks:=s.toks+1 }) hn0 fun h' hn2 hs2=>?_;obtain ⟨oD,esD,epD,hoD,hdD,hcD⟩:=hn2.count (PySem.Within.cons name v w0);refine Da (wpAny_lookBehind hoD (by rw [hdD]; exact pastItsLine_dict (Jv hcD (by show 1<=sizeLine+1; lia))) ?_)
 exact Db (k h' hn2 ((hs2.2 _ ne).trans aU) fun b o hb e=>(hs2.2 b (fun z=>by
  rw [z] at e;exact absurd (Df e) (Bi _))).trans (oU b o hb (Dd _ e)))
theorem Zjs {ox:Obj} {vs:Array Value} {name:Str} {v:Value} {ns:List Str} {Q:Unit->Shared->Prop} (X:K.In s.heap) (q:excI K C fI=true) (ho:mroIn K C (.type "object")=some true) (ht:findIn K (.ref C) name=some none)
  (hs:findIn K (.ref C) "__setattr__"=some (some (.builtin "object.__setattr__"))) (ao:s.heap.get? a=some ox) (cl:ox.cls=.ref C) (dn:ox.dict=some dx) (od:ox.data=.fields vs) (hn:s.heap.Ns1 dx mA) (ne:dx≠a) (hw:PySem.Within mA ns) (sz:ns.length<=1000)
  (k:∀ h',h'.Ns1 dx (fun y=>if y=name then some v else mA y)->Heap.SameBut dx s.heap h'->Q () { s with heap:=h',toks:=s.toks+2 }) :
  wpAny (model prog w) A (setAttr (.ref a) name v) Q E s:=by
 obtain ⟨odx,_,_,edx,_⟩:=id hn;have I:InstAt s.heap a ox C (some odx):=⟨ao,cl,by obtain ⟨c,dd,dt,sl⟩:=ox; cases od; rfl,by rw [dn]; exact edx⟩;refine W.set_plain X I hs (Zg5 (s:={ s with toks:=s.toks+1 }) X q I ho ht ?_);obtain ⟨bm,N,nm,qn,bs,sn,sub',ab,col,dd,k0,k1,k2,k3,k5,mN,cO,cN,cI,T⟩:=R7 X q;obtain ⟨c,di,dt,sl⟩:=ox;dsimp only at cl dn od;subst cl dn od;refine Da (Db (Da (Da (wpAny_loadPart ao (Da ?_)))));unfold classData;refine Da (wpAny_load cO (Db ?_));refine Db (a:=some dx) (Da (Db (Da ?_)));refine wpAny_nsSet1 (s:={ s with toks:=s.toks+1 }) hn fun h' hn2 hs2=>?_;obtain ⟨oD,esD,epD,hoD,hdD,hcD⟩:=hn2.count (PySem.Within.cons name v hw)
 refine Da (wpAny_lookBehind hoD (by rw [hdD]; exact pastItsLine_dict (Jv hcD (by rw [Jz,sizeLine_eq]; lia))) ?_);exact Db (k h' hn2 hs2)
end
end L2
namespace L2
open PySem PySem.Spec PyProof.Rows PySem.W
structure XCl (K:Frag) (C fI:Addr):Prop where
 ei:excI K C fI=true
 ob:mroIn K C (.type "object")=some true
 bx:mroIn K C (.type "BaseException")=some true
 sa:findIn K (.ref C) "__setattr__"=some (some (.builtin "object.__setattr__"))
 ga:findIn K (.ref C) "__getattribute__"=some (some (.builtin "BaseException.__getattribute__"))
 gt:findIn K (.ref C) "__getattr__"=some none
 hd:hasDictIn K C=true
 kp:keepIn K (.ref C)=true
 fn:typeIn K (.ref fI)=some (.type "function")
 cc:findIn K (.ref C) "__class__"=some (some (.builtin "object.__class__"))
 cg:specialIn K (.builtin "object.__class__") "__get__"=some (some (.builtin "getset_descriptor.__get__"))
 ct:takesIn K (.builtin "object.__class__")=some true
def excN (ea C:Addr) (d:Option Addr) (h:Heap):Prop:=∃ oe vs,h.get? ea=some oe/\oe.cls=.ref C/\oe.dict=d/\oe.data=.fields vs/\vs.size=6/\vs[1]?=some .none
def excN.ok {w:World} {d:Option Addr} (x:excN ea C d h):Yw P w H h ea (.ext (excN ea C d)):=by
 obtain ⟨oe,vs,e,r⟩:=id x;exists x,⟨oe,e⟩,fun h1 h2 ⟨o1,v1,e1,r1⟩ k=>⟨o1,v1,k _ e1,r1⟩
def xdP (d:Addr) (fs:List (Str×V)) (h:Heap):Prop:=∃ mA,h.Ns1 d mA/\(∀ f,RelO (fs.lookup f) (mA f))/\PySem.Within mA (fs.map (·.1))
def xdP.ok {w:World} {d:Addr} {fs:List (Str×V)} (x:xdP d fs h):Yw P w H h d (.ext (xdP d fs)):=by
 obtain ⟨mA,⟨o,es,ep,e,r⟩,q⟩:=id x;exists x,⟨o,e⟩,fun h1 h2 ⟨m1,n1,q1⟩ k=>⟨m1,n1.at k,q1⟩
section
def Inv.two {d:Addr} {φ ψ o1:HO} (I:Inv X pq σ H s) (hea:H ea=some φ) (mu:Mut (some φ)) (hd:s.heap.objs.size<=d) (k:∀ b o,b≠ea->s.heap.get? b=some o->h'.get? b=some o) (te:∃ o,h'.get? ea=some o)
  (n1:∀ H2,Yw X.prog X.w H2 h' ea o1) (n2:∀ H2,Yw X.prog X.w H2 h' d ψ):Inv X pq σ (upd (upd H ea o1) d ψ) { s with heap:=h',toks:=t' }:=by
 have nd:H d=none:=I.hok.fresh hd;have ed:d≠ea:=fun z=>by rw [z,hea] at nd; cases nd
 have ld:∀ b o,s.heap.get? b=some o->b≠d:=fun b o q z=>by rw [z] at q; exact absurd (Df q) (Nat.not_lt.mpr hd)
 have at':∀ b u,b≠ea->H b=some u->upd (upd H ea o1) d ψ b=some u:=fun b u h1 e=>by rw [Zl (fun z=>by rw [z,nd] at e; cases e),Zl h1]; exact e
 have own:∀ c y,H c=some (.own y)->c≠ea:=fun c y e z=>by rw [z,hea] at e; cases e; exact mu
 have tup:∀ c y,H c=some (.tup y)->c≠ea:=fun c y e z=>by rw [z,hea] at e; cases e; exact mu
 have frz:∀ c y u,H c=some (.frz y u)->c≠ea:=fun c y u e z=>by rw [z,hea] at e; cases e; exact mu
 have tbl:∀ c y,H c=some (.tbl y)->c≠ea:=fun c y e z=>by rw [z,hea] at e; cases e; exact mu
 refine I.un ⟨fun b o q n _ _=>?_,fun b o q n _ _=>?_,fun b o q n _=>?_,fun b o q _=>?_,fun b xs e=>at' _ _ (tup _ _ e) e,fun b o u e=>at' _ _ (frz _ _ _ e) e,fun b ps e=>⟨#[],by rw [at' _ _ (tbl _ _ e) e]; simp⟩⟩ (fun b o q=>?_)
 ·exact k b o (fun z=>by rw [z,hea] at n; cases n) q
 ·exists o.slots,k b o (fun z=>by rw [z,hea] at n; cases n) q
 ·rw [Zl (ld b o q),Zl (fun z=>by rw [z,hea] at n; cases n)];exact n
 ·by_cases z:b=ea
  ·rw [z]; exact te
  ·exists o,k b o z q
 ·by_cases z:b=d
  ·subst z;rw [Zd] at q;cases q;exact n2 _
  ·rw [Zl z] at q
   by_cases z2:b=ea
   ·subst z2;rw [Zd] at q;cases q;exact n1 _
   ·rw [Zl z2] at q;refine (I.hok b o q).stay (fun c v hc r=>?_) (fun c e=>at' _ _ (own _ _ e) e) fun c xs e=>at' _ _ (tup _ _ e) e;rcases hc with hc | hc
    ·rw [hc] at r ⊢;exact k b v z2 r
    ·exact k c v (own _ _ hc) r
end
def Zty (K:Frag) (ta tv:TE) (f:Str):TS:=fun D σ H=>tv σ H fun y H1=>ta σ H1 fun x H2=>∃ ea C fI,x=.ref ea/\XCl K C fI/\findIn K (.ref C) f=some none /\
  ((H2 ea=some (.ext (excN ea C none))/\∀ d,H2 d=none->d≠ea->D.nx σ (upd (upd H2 ea (.ext (excN ea C (some d)))) d (.ext (xdP d [(f,y)])))) \/
   ∃ d fs,H2 ea=some (.ext (excN ea C (some d)))/\H2 d=some (.ext (xdP d fs))/\fs.length<1000/\D.nx σ (upd H2 d (.ext (xdP d (putF f y fs)))))
section
variable {o:Expr} {f:Str} {tv:TE}
def Zc8 {fs:List (Str×V)} {f:Str} {y:V} {u:Value} (r:∀ g,RelO (fs.lookup g) (mA g)) (ry:RelV y u) (g:Str):RelO ((putF f y fs).lookup g) (if g=f then some u else mA g):=by
 rw [U2]
 by_cases q:g=f
 ·rw [Dh q,Dh q]; exact ry
 ·rw [Dg q,Dg q]; exact r g
def Qn {fs:List (Str×V)} {f:Str} {y:V} {u:Value} (wi:PySem.Within mA (fs.map (·.1))):PySem.Within (fun g=>if g=f then some u else mA g) ((putF f y fs).map (·.1)):=fun g hg=>by
 by_cases q:g=f
 ·rw [q]; exact (V0 f y fs).1
 ·refine (V0 f y fs).2 g (wi g fun z=>hg ?_);show (if g=f then some u else mA g)=none;rw [Dg q]; exact z
theorem Zbq (ha:PE X o ta) (hv:PE X value tv) (hs:swapsWith value (some (.Attribute o f pos')) pos.line X.env=pure false):PS X (.Assign [.Attribute o f pos'] value pos) (Zty X.K ta tv f):=by
 intro pq s σ H D I h;refine plainObj_wpAny_Assign_Attribute (thn (hv pq s σ H _ I h) fun u s1 ⟨y,H1,I1,ry,q⟩=>thn (ha pq s1 σ H1 _ I1 q) fun ov s2 hz=>?_) hs;obtain ⟨x,H2,I2,rx,ea,C,fI,ex,xc,hf,q2⟩:=hz;subst ex;obtain rfl:ov=Value.ref ea:=rx;rcases q2 with ⟨hea,q2⟩ | ⟨d,fs,hea,hd,hl,q2⟩
 ·obtain ⟨⟨oe,vs,e1,e2,e3,e4,e5,e6⟩,_,_⟩:=I2.hok ea _ hea;refine Zjt I2.kIn xc.ei xc.ob hf xc.sa e1 e2 e3 e4 fun h' hn ha' hk=>?_;have nd:=I2.hok.fresh (Je s2.heap.objs.size);refine ⟨σ,_,I2.two (d:=s2.heap.objs.size) (ψ:=.ext (xdP s2.heap.objs.size [(f,y)])) (o1:=.ext (excN ea C (some s2.heap.objs.size))) hea True.intro (Je _) hk ⟨_,ha'⟩ (fun _=>excN.ok ⟨_,vs,ha',e2,rfl,e4,e5,e6⟩) (fun _=>xdP.ok ⟨_,hn,Zc8 (fs:=[]) (fun _=>True.intro) ry,Qn (fs:=[]) (y:=y) fun g hg=>absurd rfl hg⟩),q2 _ nd fun z=>by rw [z,hea] at nd; cases nd⟩
 ·obtain ⟨⟨oe,vs,e1,e2,e3,e4,e5,e6⟩,_,_⟩:=I2.hok ea _ hea;obtain ⟨⟨mA,n1,r1,w1⟩,_,_⟩:=I2.hok d _ hd;have ne:d≠ea:=fun z=>by
   rw [z] at n1;obtain ⟨o',_,_,a1,a2,_⟩:=n1;rw [e1] at a1;cases a1;rw [e4] at a2;cases a2
  refine Zjs I2.kIn xc.ei xc.ob hf xc.sa e1 e2 e3 e4 n1 ne w1 (by rw [Jb]; lia) fun h' hn sb=>?_;obtain ⟨od',_,_,ed',_⟩:=id hn;exists σ,_,I2.write (x:=d) (e:=d) (by rw [hd]; exact True.intro) (.inl rfl) (fun b u hb e=>(sb.2 b hb).trans e) ⟨od',ed'⟩ (xdP.ok ⟨_,hn,Zc8 r1 ry,Qn w1⟩),q2
end
def Rx (P:Program) (w:World) (K:Frag) (mg:Str->Option Value) (base:Heap) (x:Str) (C:Addr) (k:Nat) (ps:List Str) (sp:Sp):Prop :=
 ∃ fI fd,XCl K C fI/\Qh K C=some (some (.ref fI))/\FnOk P w K mg base CX0 k fI fd ps sp/\mg x=some (.ref C)/\Vn K fd ps []
section
variable {k:Nat} 
theorem Zne {R:Addr->Hp->Prop} (xc:XCl X.K C fI) (xi:Qh X.K C=some (some (.ref fI))) (F:FnOk X.prog X.w X.K X.mg X.base CX0 k fI fd ps sp) (hr:Room (k+1) X.A) (hb:Vn X.K fd ps []) (I:Inv X pq σ H s) (r:Vals vs us) (sz:us.length<=sizeLine)
  (h:∀ ea,H ea=none->sp (.ref ea::vs) (upd H ea (.ext (excN ea C none))) (fun v H2=>v=.non/\R ea H2) E0) :
  wpAny (model X.prog X.w) X.A (call (.ref C) us) (fun u s'=>∃ ea H2,u=.ref ea/\Inv X pq σ H2 s'/\s.heap.objs.size<=ea/\R ea H2) X.xe s:=by
 have hq:=h (s.heap.objs.size+1) (I.hok.fresh (Bn _));obtain ⟨oI,lI,tI⟩:∃ o,X.K.lookup fI=some o/\o.cls=.type "function":=by
  have z:Option.map (fun x=>x.cls) (X.K.lookup fI)=some (.type "function"):=xc.fn;obtain ⟨o,e,c⟩:=Option.map_eq_some_iff.mp z;exists o,e,c
 have fo:=I.kIn _ _ lI;obtain ⟨hp,g,d,t,os⟩:=s;refine Zk3 (Zor I.kIn xc.ei xi) fo tI sz fun h' hm=>?_;obtain ⟨tt,h1,h2,h3⟩:=hm.there;have I2:Inv X pq σ (upd H (hp.objs.size+1) (.ext (excN (hp.objs.size+1) C none))) ⟨h',g,d,t,os⟩:=I.laid (a:=hp.objs.size+1) (h':=h') (t':=t) hm.keeps (Bn _) (excN.ok ⟨_,_,h1,rfl,rfl,rfl,rfl,rfl⟩);have r2:Vals (V.ref (hp.objs.size+1)::vs) (Value.ref (hp.objs.size+1)::us):=.cons rfl r;have hl:(Value.ref (hp.objs.size+1)::us++[]).length=ps.length:=by
  have e:=r2.length;rw [F.len _ _ _ _ hq] at e;rw [J0];exact e.symm
 have bb:=hb ⟨h',g,d,t,os⟩ (Value.ref (hp.objs.size+1)::us) I2.kIn hl;rw [J0] at bb;refine wpAny_call (codeAny_mono (F.run _ X.stack _ _ ⟨Value.ref (hp.objs.size+1)::us,[]⟩ (Value.ref (hp.objs.size+1)::us) _ _ E0 (hr.make C us []) (I2.env0.make C us []) bb r2 hq) fun r s' hq'=>?_);cases r with
 | error e=>exact False.elim hq'
 | ok fl =>
  cases fl with
  | ret u =>
   obtain ⟨v,H',I3,rv,hv,q⟩:=I2.after hq';subst hv;obtain rfl:u=Value.none:=rv;exists rfl,_,H',rfl,I3,Bn _,q
  | next=>exact False.elim hq'
  | brk=>exact False.elim hq'
  | cont=>exact False.elim hq'
end
section
variable {M:Model} {Ex:Value->Shared->Prop} {env:Env}
def Zej {x:Sem Value} {Q:Flow->Shared->Prop} {oi:Option (Option Value)} (hh:A.handled=none)
  (h:wpAny M A x (fun v s1=>∃ e oe vs,v=.ref e/\ExcA s1.heap C oi/\s1.heap.get? e=some oe/\oe.cls=.ref C/\oe.data=.fields vs/\vs[1]?=some .none/\Ex (.ref e) s1) Ex s) :
  wpAny M A (raiseStmt env (some x) none) Q Ex s:=by
 unfold raiseStmt;refine Da (Dn h (fun v s1 h1=>?_) fun _ _ z=>z);obtain ⟨e,oe,vs,rfl,⟨bm,N,nm,q,bs,sn,sub,ab,col,dd,k0,k1,k2,k3,k5,mN,cO,cN,cI,T⟩,he,hc,hd,v1,hE⟩:=h1;have hB:(Value.ref C::bm).contains (.type "BaseException")=true:=by rw [List.contains_cons,T.hasType PySem.F.excBase_ValueError.hasBase,Bool.or_true]
 obtain ⟨hp,g,d,tk,os⟩:=s1
 repeat (first | (with_reducible refine wpAny_loadPart_at he ?_; rw [hc]) | with_reducible refine wpAny_field he hd v1 ?_ | with_reducible refine wpAny_loadPart_at cO ?_ | (with_reducible refine wpAny_isSubtype_exc cO ?_; rw [hB]) | wp_step)
 exact wpAny_raiseNew_none hh hE
end
def Zlf (C:Addr) (sp:Sp) (E:XK) (t:TA):TS:=fun _ σ H=>t σ H fun vs H1=>vs.length<=10/\∀ ea,H1 ea=none->sp (.ref ea::vs) (upd H1 ea (.ext (excN ea C none))) (fun v H2=>v=.non/\∃ d,H2 ea=some (.ext (excN ea C (some d)))/\E (.ref C) (some d) (upd H2 ea (.ext (excP ea C (some d))))) E0
section
variable {w:World} {K:Frag} {base:Heap} {scope:Scope} {f:Addr} {cd:Value} {outer:List Env} {E:XK}
def Pl {k:Nat} {x:Str} {np cpos:Pos} {e:Expr} {t:TA} (R:Rx P w K mg base x C k ps sp) (hr:Room (k+1) (cxE P w K mg base N qual scope f cd A outer s H E).A) (hg:Gl (cxE P w K mg base N qual scope f cd A outer s H E) x)
  (ha:PA (cxE P w K mg base N qual scope f cd A outer s H E) (e::es) t) (hdb:(x == ("__debug__":Str))=false:=by decide)
  (he:starEach (e::es) (cxE P w K mg base N qual scope f cd A outer s H E).env=(false,eval e (cxE P w K mg base N qual scope f cd A outer s H E).env)::starEach es (cxE P w K mg base N qual scope f cd A outer s H E).env:=by rfl) (hpl:(backTo cpos (starEach es (cxE P w K mg base N qual scope f cd A outer s H E).env)).any (·.1)=false:=by rfl) :
  PS (cxE P w K mg base N qual scope f cd A outer s H E) (.Raise (some (.Call (.Name x np) (e::es) [] cpos)) none pos) (Zlf C sp E t):=by
 intro pq s1 σ H1 D I h;obtain ⟨fI,fd,xc,xi,F,hm,hb⟩:=R;rw [arm_exec_Raise];refine Da (wpAny_standAt (Zej (C:=C) (oi:=Qh K C) (I.ok.hd rfl) ?_));refine Da (Dn ?_ (fun v s3 h3=>Da (wpAny_standAt (Db h3))) fun _ _ z=>z);refine wpAny_Call_Name_kw (Vz I hg hm ?_ hdb);refine W.callWith_K (h₀:=base) I.ok.mod.kin xc.kp (thn (ha cpos pq s1 σ H1 _ I h) fun us s2 ⟨vs,H2,I2,r,l10,q⟩=>⟨I2.kIn,?_⟩) he hpl;refine Dn (Zne (R:=fun ea H2=>∃ d,H2 ea=some (.ext (excN ea C (some d)))/\E (.ref C) (some d) (upd H2 ea (.ext (excP ea C (some d))))) xc xi F hr hb I2 r (by show us.length<=sizeLine; rw [<- r.length]; exact Jv l10 nofun) q) (fun u s3 hu=>?_) fun _ _ z=>z
 obtain ⟨ea,H3,rfl,I3,lea,d,hea,qE⟩:=hu;obtain ⟨⟨oe,ws,e1,e2,e3,e4,e5,e6⟩,_,_⟩:=I3.hok ea _ hea;exists ea,oe,ws,rfl,R7 I3.kIn xc.ei,e1,e2,e4,e6,?_;have I4:Inv (cxE P w K mg base N qual scope f cd A outer s H E) pq σ (upd H3 ea (.ext (excP ea C (some d)))) { s3 with heap:=s3.heap,toks:=s3.toks }:=I3.write (x:=ea) (e:=ea) (by rw [hea]; exact True.intro) (.inl rfl) (fun b u _ z=>z) ⟨_,e1⟩ (excP.ok ⟨oe,ws,e1,e2,e3,e4,e5⟩);exact Zs0 (T0:=none) I4 Zd (Jv I2.sz lea) (fun T z=>by cases z) ⟨oe,ws,e1,e4,e6⟩ qE
end
section
def Zmo (X:Cx) (pq:List (Addr×Obj)) (σ:St) (Ex:XK) (e:Value) (s':Shared):Prop:=∃ (ea C T:Addr) (d:Option Addr) (H':Hp),e=.ref ea/\Inv X pq σ H' s'/\H' ea=some (.ext (excP ea C d))/\Zcp ea T s'.heap/\FpOk X pq H' T/\Ex (.ref C) d H'
def V5 (CX:CXT) (X:Cx) (pq:List (Addr×Obj)) (σ:St) (E:XK):Prop:=∀ (H:Hp) (s:Shared) (e:Value) (s':Shared),Inv X pq σ H s->CX X.stack H s E e s'->X.xe e s'
def Zt4 {Ex:XK}:V5 (CXE X.prog X.w) (X.wish (Zmo X pq σ Ex)) pq σ Ex:=by
 intro H s e s' I hx;obtain ⟨ea,C,T,d,H2,rfl,os,bare,un,hok,hea,lea,nT,lT,fl,q⟩:=hx;have I':=I.unwish;have I2:Inv X pq σ H2 s':=I'.call' os un hok bare (ch:=[]) fun b z=>absurd z (by simp);exists ea,C,T,d,H2,rfl,I2,hea,fl,I'.fpOk lT nT,q
def Inv.noted {d:Option Addr} {vs:Array Value} (I:Inv X pq σ H s) (hea:H ea=some (.ext (excP ea C d))) (eo:s.heap.get? ea=some oe) (od:oe.data=.fields vs) (hT:∀ T,T0=some T->FpOk X pq H T)
  (g:Gone (frs X.stack) ea T0 oe vs s.heap h'):Inv X pq σ H { s with heap:=h' }:=by
 have nfr:∀ c y,H c=some y->c∉frs X.stack:=fun c y r z=>by rw [I.stkFree c z] at r; cases r
 have nT:∀ c y,H c=some y->some c≠T0:=fun c y r z=>by rw [(hT c z.symm).1] at r; cases r
 have hok:HOk X.prog X.w H h':=fun b o q=>by
  by_cases ne:b=ea
  ·subst ne;rw [hea] at q;cases q;obtain ⟨⟨o1,v1,a1,a2,a3,a4,a5⟩,_,_⟩:=I.hok b _ hea;obtain ⟨T,vs',ob,ts,_,e3,e4,_⟩:=g.flow;rw [eo] at a1;cases a1;rw [od] at a4;cases a4;exact excP.ok ⟨_,vs',e3,a2,a3,rfl,by rw [e4]; exact a5⟩
  ·refine (I.hok b o q).stay (fun c v hc r=>?_) (fun _ z=>z) fun _ _ z=>z;rcases hc with hc | hc
   ·rw [hc] at r ⊢;exact g.keep b v (nfr b o q) ne (nT b o q) r
   ·have ne2:c≠ea:=fun z=>by rw [z,hea] at hc; cases hc
    exact g.keep c v (nfr c _ hc) ne2 (nT c _ hc) r
 have un:Un (frs X.stack) T0.toList H H s.heap h':=by
  have tl:∀ b,b∉T0.toList->some b≠T0:=fun b hb z=>hb (by rw [<- z]; simp);exists fun b o q n hb hx=>?_,fun b o q n hb hx=>?_,fun b o q n _=>n,fun b o q hx=>?_,fun _ _ e=>e,fun _ _ _ e=>e,fun b ps e=>⟨#[],by rw [e]; simp⟩
  ·exact g.keep b o hb (fun z=>by rw [z,hea] at n; cases n) (tl b hx) q
  ·exact g.slot b o (fun z=>by rw [z,hea] at n; cases n) (tl b hx) q
  ·by_cases ne:b=ea
   ·obtain ⟨_,_,_,_,_,e3,_⟩:=g.flow;exact ⟨_,by rw [ne]; exact e3⟩
   ·obtain ⟨sl,e2⟩:=g.slot b o ne (tl b hx) q;exists _,e2
 have:=I.call (g':=s.gens) (d':=s.drawn) (t':=s.toks) un hok I.bare fun b hb=>by
  have z:T0=some b:=by
   cases T0 with
   | none=>simp at hb
   | some T=>simp at hb; rw [hb]
  obtain ⟨_,f1,f2,f3,f4,f5⟩:=hT b z;exists f3,f1,f4,f5
 exact this
def Gone.flies {fs:List Addr} {vs:Array Value} (g:Gone fs ea T0 oe vs h h'):∃ T,h.objs.size<=T/\Zcp ea T h':=by
 obtain ⟨T,vs',ob,ts,z1,z2,z3,z4,z5,z6,z7,z8⟩:=g.flow;exists T,z1,_,vs',ob,ts,z2,rfl,z4,z5,z6,z7,z8
end
abbrev Cx.mrk (X:Cx) (e:Value):Cx:={ X with A:=X.A.mark (some e),calm:=false,xe:=fun _ _=>False }
section
variable {e:Value}
def Inv.mrk (I:Inv X pq σ H s) (e:Value):Inv (X.mrk e) pq σ H s :=
 ⟨⟨I.ok.mod,I.ok.kind,I.ok.glob,I.ok.blt,I.ok.above,I.ok.inj,I.ok.has,I.ok.cab,(fun z=>by cases z),I.ok.frames,I.ok.stk,I.ok.exf,I.ok.bs,I.ok.bsz,I.ok.noex,I.ok.exfs,I.ok.funs,I.ok.frf⟩,I.os,I.bare,I.base,I.loc,I.cell,I.free,I.freeC,I.pin,I.hok,I.len⟩
def Inv.unmrk (ok:X.Ok) (I:Inv (X.mrk e) pq σ H s):Inv X pq σ H s:=⟨ok,I.os,I.bare,I.base,I.loc,I.cell,I.free,I.freeC,I.pin,I.hok,I.len⟩
theorem SP.unmrk {D:Ends} {f:Flow} (ok:X.Ok) (h:SP (X.mrk e) pq D f s):SP X pq D f s:=by
 cases f with
 | next=>obtain ⟨σ',H',I,q⟩:=h;exists σ',H',I.unmrk ok,q
 | brk=>obtain ⟨σ',H',I,q⟩:=h;exists σ',H',I.unmrk ok,q
 | cont=>obtain ⟨σ',H',I,q⟩:=h;exists σ',H',I.unmrk ok,q
 | ret u=>obtain ⟨v,σ',H',I,r,q⟩:=h;exists v,σ',H',I.unmrk ok,r,q
end
section
variable {M:Model} {K:Frag} {D:Addr}
def Zbf {K:Frag} {D:Addr} (X:K.In s.heap) (ht:typeIn K (.ref D)=some (.type "type")):s.TypeIs (.ref D) "type":=by
 have z:Option.map (fun x=>x.cls) (K.lookup D)=some (.type "type"):=ht;obtain ⟨o,e,c⟩:=Option.map_eq_some_iff.mp z;exists o,X _ _ e,c
def Zca {b:Bool} {Q:Bool->Shared->Prop} (X:K.In s.heap) (ht:typeIn K (.ref D)=some (.type "type")) (hb:mroIn K D (.type "BaseException")=some true) (he:s.heap.get? ea=some oe) (hc:oe.cls=.ref C) (hm:mroIn K C (.ref D)=some b) (k:Q b s) :
  wpAny M A (excMatches (.ref ea) (.ref D)) Q E s:=by
 have hT:=Zbf X ht;have L1:=looks_mroIn (M:=M) X hb;have L2:=looks_mroIn (M:=M) X hm;have n1:=tc_notTuple;have n2:=tc_sub;obtain ⟨oD,cd,lD,dD⟩:∃ (oD:Obj) (cd:ClassData),K.lookup D=some oD/\oD.data=.cls cd:=by
  have z:=hb;unfold mroIn at z;obtain ⟨cd,z,_⟩:=Option.bind_eq_some_iff.mp z;unfold clsIn at z
  split at z
  ·rename_i e
   exists _,_,e,rfl
  ·cases z
 have dO:=X _ _ lD;obtain ⟨c0,dd0,dt0,sl0⟩:=oD;dsimp only at dD;subst dD;obtain ⟨hp,g,d,t,os⟩:=s;unfold excMatches
 repeat (first | (with_reducible refine wpAny_loadPart_at he ?_; rw [hc]) | with_reducible refine wpAny_loadPart_at dO ?_ | with_reducible refine L1.at ?_ | with_reducible refine L2.at ?_ | wp_step)
 cases b <;> (wp_walk; exact k)
end
section
variable {w:World} {env:Env} {R:Result->Shared->Prop}
def Zcx {e:Value} {b0:Stmt} 
  (h:wpAny (model prog w) A (setFlight e none) (fun _ s2=>wpAny (model prog w) A (execs (b0::body) env) (fun f s3=>R (.ok f) s3) (fun _ _=>False) s2) (fun _ _=>False) s) :
  codeAny (model prog w) A (.handlers e [.ExceptHandler none none (b0::body) pos] env) R s :=
 codeAny_handlers_suite (Dn h (fun _ _ h1=>Dn h1 (fun _ _ q=>q) fun _ _ z=>z.elim) fun _ _ z=>z.elim)
end
abbrev TH:=Addr->Option Addr->Addr->TS
variable {th thr:L2.TH}
def HS (X:Cx) (hs:List ExceptHandler) (th:TH):Prop:=∀ (pq:List (Addr×Obj)) (s:Shared) (σ:St) (H:Hp) (ea C T:Addr) (d:Option Addr) (D:Ends),Inv X pq σ H s->H ea=some (.ext (excP ea C d))->Zcp ea T s.heap->FpOk X pq H T->th C d ea D σ H ->
 wpAny (model X.prog X.w) X.A (handleBy (.ref ea) X.env hs) (SP X pq D) X.xe s
def Zp1:TH:=fun _ _ _ _ _ _=>False
def Zl7 :HS X [] Zp1:=fun _ _ _ _ _ _ _ _ _ _ _ _ _ h=>h.elim
def thNo (K:Frag) (Dc:Addr) (ts:TS) (thr:TH):TH:=fun C d ea D σ H=>∃ b,mroIn K C (.ref Dc)=some b/\if b=true then ts D σ H else thr C d ea D σ H
structure Cau (K:Frag) (mg:Str->Option Value) (x:Str) (Dc:Addr):Prop where
 mg:mg x=some (.ref Dc)
 ty:typeIn K (.ref Dc)=some (.type "type")
 bx:mroIn K Dc (.type "BaseException")=some true
section
variable {c:Str} {Dc:Addr} {b0:Stmt} {rest:List ExceptHandler} {np:Pos} {ts:TS} 
def Si {T:Addr} {M:Model} {Q:Unit->Shared->Prop} (I:Inv X pq σ H s) (fl:Zcp ea T s.heap) (fp:FpOk X pq H T) (k:∀ s',Inv X pq σ H s'->Q () s'):wpAny M A (setFlight (.ref ea) none) Q E s:=by
 obtain ⟨oe,vs,oT,ts,e1,d1,v1,e2,d2,t3,ne⟩:=fl;obtain ⟨f0,f1,f2,f3,f4,f5⟩:=fp;refine wpAny_setFlight_none e1 d1 v1 e2 d2 (Br.mp t3).1 (k _ ?_);exact I.turned (t':=s.toks) (fun b o hb e=>by rw [Heap.get?_update_other _ _ (Ne.symm hb)]; exact e) f0 f1 f3 f4 f5
theorem Zuf (ca:Cau X.K X.mg c Dc) (hg:Gl X c) (hs:∀ e,PSs (X.mrk e) (b0::body) ts) (hr:HS X rest thr) (hd:(c == ("__debug__":Str))=false:=by decide) :
  HS X (.ExceptHandler (some (.Name c np)) none (b0::body) pos::rest) (thNo X.K Dc ts thr):=by
 intro pq s σ H ea C T d D I hea fl fp h;obtain ⟨b,hb,h⟩:=h;refine wpAny_handleBy_cons (codeAny_handlers_test ?_) (by intro q; cases q);have J:=I.mrk (.ref ea);refine Vz (X:=X.mrk (.ref ea)) J hg ca.mg ?_ hd;obtain ⟨⟨oe,vs,e1,e2,e3,e4,e5⟩,_,_⟩:=I.hok ea _ hea;refine Zca I.kIn ca.ty ca.bx e1 e2 hb ?_;cases b with
 | false=>exact hr pq s σ H ea C T d D I hea fl fp h
 | true =>
  refine Zcx (Si J fl fp fun s1 J1=>?_);exact Dn (hs (.ref ea) pq s1 _ H _ J1 h) (fun f s3 h3=>h3.unmrk I.ok) fun _ _ z=>z
def PSF (X:Cx) (pq:List (Addr×Obj)) (σ:St) (st:List Stmt) (t:TS):Prop:=∀ (s:Shared) (H:Hp) (D:Ends),Inv X pq σ H s->t D σ H->wpAny (model X.prog X.w) X.A (execs st X.env) (SP X pq D) X.xe s
def tTry (tb:XK->TS) (th:TH):TS:=fun D σ H=>tb (fun cls d H'=>∃ C,cls=.ref C/\∀ ea,H' ea=some (.ext (excP ea C d))->th C d ea D σ H') D σ H
def Zq1 {bd:List Stmt} {h0:ExceptHandler} {hs:List ExceptHandler} {tb:XK->TS} {L:Addr} (hst:X.stack=X.env::X.outer) (hf:X.env.frame=some L)
  (hb:∀ (pq:List (Addr×Obj)) (σ:St) (xe:Value->Shared->Prop) (Ex:XK),V5 (CXE X.prog X.w) (X.wish xe) pq σ Ex->PSF (X.wish xe) pq σ bd (tb Ex)) (hh:HS X (h0::hs) th) :
  PS X (.Try bd (h0::hs) [] [] pos) (tTry tb th):=by
 intro pq s σ H D I h;refine wpAny_Try_except (Dn (hb pq σ _ _ Zt4 s H D (I.wish _) h) (fun f s1 h1=>?_) fun e s1 h1=>?_)
 ·have h2:=h1.unwish;cases f with
  | next=>exact wpAny_execs_nil h2
  | brk=>exact h2
  | cont=>exact h2
  | ret u=>exact h2
 ·obtain ⟨ea,C,T,d,H1,rfl,I1,hea,fl,fp,C',hC,k⟩:=h1;cases hC;obtain ⟨oe,vs,oT,ts,e1,d1,v1,e2,d2,t3,ne⟩:=fl;refine T4 (base:=X.base) (by rw [I1.ok.frames,hst]) (by have:=I1.stack; rw [hst] at this; exact this) hf e1 d1 v1 e2 d2 t3 ne fun h' g=>?_;rw [<- hst] at g;have I2:=I1.noted hea e1 d1 (fun T' z=>by cases z; exact fp) g;obtain ⟨T',lT,fl'⟩:=g.flies;exact hh pq _ σ H1 ea C T' d D I2 hea fl' (I1.fpOk lT (I1.hok.fresh lT)) (k ea hea)
end
end L2
variable {th thr:L2.TH}
namespace L2
open PySem PySem.Spec PyProof.Rows PySem.W PySem.Builtin PySem.Builtin.ObjectAttr
section
def XD (H:Hp):Option Addr->List (Str×V)->Prop
 | some d,fs=>H d=some (.ext (xdP d fs))
 | none,fs=>fs=[]
theorem XD.mono (s:Same H H'):∀ {o:Option Addr} {fs:List (Str×V)},XD H o fs->XD H' o fs
 | some _,_,h=>s _ _ h
 | none,_,h=>h
end
section
variable {e:Expr} {t:TA} {ts us:TS} 
def PEF (X:Cx) (pq:List (Addr×Obj)) (σ:St) (e:Expr) (t:TE):Prop:=∀ (s:Shared) (H:Hp) (Q:VK),Inv X pq σ H s->t σ H Q->wpAny (model X.prog X.w) X.A (eval e X.env) (EP X pq σ Q) X.xe s
def PAF (X:Cx) (pq:List (Addr×Obj)) (σ:St) (es:List Expr) (t:TA):Prop:=∀ (pos:Pos) (s:Shared) (H:Hp) (Q:List V->Hp->Prop),Inv X pq σ H s->t σ H Q->wpAny (model X.prog X.w) X.A (spliced (backTo pos (starEach es X.env))) (AP X pq σ Q) X.xe s
def Zq3 (h:PE X e te):PEF X pq σ e te:=fun s H Q I q=>h pq s σ H Q I q
def Zq7 (h:PA X es t):PAF X pq σ es t:=fun pos s H Q I q=>h pos pq s σ H Q I q
def Zdf (ha:PEF X pq σ e te) (hr:PAF X pq σ es t) (hs:starEach (e::es) X.env=(false,eval e X.env)::starEach es X.env:=by rfl):PAF X pq σ (e::es) (Zmx te t):=by
 intro pos s H Q I h;rw [hs];show wpAny _ _ (spliced ((false,eval e X.env)::backTo pos (starEach es X.env))) _ _ s;exact Calls.spliced_cons (thn (ha s H _ I h) fun u s1 ⟨x,H1,I1,r1,q1⟩=>thn (hr pos s1 H1 _ I1 q1) fun us s2 ⟨xs,H2,I2,r2,q2⟩=>⟨x::xs,H2,I2,.cons r1 r2,q2⟩)
theorem Znd {k:Nat} {f:Addr} {E:XK} {us:List Value} (F:FnOk X.prog X.w X.K X.mg X.base CX k f fd ps sp) (hr:Room k X.A) (hb:Vn X.K fd ps []) (hx:V5 CX X pq σ E)
  (I:Inv X pq σ H s) (r:Vals vs us) (h:sp vs H Q E):wpAny (model X.prog X.w) X.A (call (.ref f) us) (EP X pq σ Q) X.xe s:=by
 have hl:(us++[]).length=ps.length:=by rw [J0,<- r.length]; exact F.len _ _ _ _ h
 have bb:=hb s us I.kIn hl;rw [J0] at bb;refine wpAny_call (codeAny_mono (F.run X.A X.stack s H ⟨us,[]⟩ us vs Q E hr I.env0 bb r h) fun r s' hq=>?_);cases r with
 | error e=>exact hx H s e s' I hq
 | ok fl =>
  cases fl with
  | ret u=>exact I.after hq
  | next=>exact False.elim hq
  | brk=>exact False.elim hq
  | cont=>exact False.elim hq
def Zbt {k:Nat} {x:Str} {p:Pos} {E:XK} (C:CalE X.prog X.w X.K X.mg X.base x k ps sp) (hr:Room k X.A) (hg:Gl X x) (hx:V5 (CXE X.prog X.w) X pq σ E) (ha:PA X (e::es) t) (hdb:(x == ("__debug__":Str))=false:=by decide)
  (he:starEach (e::es) X.env=(false,eval e X.env)::starEach es X.env:=by rfl) (hpl:(backTo pos (starEach es X.env)).any (·.1)=false:=by rfl):PEF X pq σ (.Call (.Name x p) (e::es) [] pos) (Zfu sp [] E t):=by
 intro s H Q I h;obtain ⟨f,fd,F,hm,hk,hb⟩:=C;refine wpAny_Call_Name_kw (Vz I hg hm ?_ hdb);refine W.callWith_K (h₀:=X.base) I.ok.mod.kin hk (thn (ha pos pq s σ H _ I h) fun us s1 ⟨vs,H1,I1,r,q⟩=>⟨I1.kIn,?_⟩) he hpl;exact Znd F hr hb hx I1 r (by have q':sp (vs++[]) H1 Q E:=q; rw [J0] at q'; exact q')
def PSF1 (X:Cx) (pq:List (Addr×Obj)) (σ:St) (st:Stmt) (t:TS):Prop:=∀ (s:Shared) (H:Hp) (D:Ends),Inv X pq σ H s->t D σ H->wpAny (model X.prog X.w) X.A (exec st X.env) (SP X pq D) X.xe s
theorem Zgt (h:PSF1 X pq σ st ts):PSF X pq σ [st] ts:=by
 intro s H D I q;refine wpAny_execs_cons (Dn (h s H D I q) (fun f s1 h1=>?_) fun _ _ z=>z);cases f with
 | next=>exact wpAny_execs_nil h1
 | brk=>exact h1
 | cont=>exact h1
 | ret u=>exact h1
def Znj {i:Nat} {x:Str} (hN:X.N.Nodup) (hi:X.N[i]?=some x) (hx:Loc X.env.scope x) (he:PEF X pq σ e te) (hs:swapsWith e (some (.Name x pos')) pos.line X.env=pure false:=by rfl) (hf:X.fn x=true\/X.env.scope.names.lookup x=some .local:=by first | exact .inl rfl | exact .inr rfl | assumption) :
  PSF1 X pq σ (.Assign [.Name x pos'] e pos) (tAsg te (Zam i)):=by
 intro s H D I h;refine wpAny_Assign_Name (thn (he s H _ I h) fun v s1 hz=>?_) hs;obtain ⟨y,H1,I1,r1,q1⟩:=hz;exact Sn I1 hN hi hx r1 (fun s2 I2=>⟨_,H1,I2,q1⟩) hf
def Zgs (he:PEF X pq σ e te):PSF1 X pq σ (.Return (some e) pos) (tRet te):=by
 intro s H D I h;exact wpAny_Return_some (thn (he s H _ I h) fun v s1 ⟨y,H1,I1,r1,q1⟩=>⟨y,σ,H1,I1,r1,q1⟩)
end
end L2
namespace L2
open PySem PySem.Spec PyProof.Rows PySem.W
def spX1 (C:Addr) (f:Str):Sp:=fun vs H Q _=>∃ (ea:Addr) (y:V),vs=[.ref ea,y]/\H ea=some (.ext (excN ea C none))/\∀ d,H d=none->d≠ea->Q .non (upd (upd H ea (.ext (excN ea C (some d)))) d (.ext (xdP d [(f,y)])))
def Zbd (R:List En):Prop:=∀ e∈R,e.2≠none
def Vi (S:List Pr) (ns:List Int) (R:List En) (pl:Nat):Prop:=Went S ns R pl/\Zbd R/\(ns.length<=pl\/(pl<ns.length/\∀ p∈S,¬ p.2<+:ns.drop pl))
theorem Vi.lt (fr:Free S) {A B:List En} (ha:Vi S ns A pa) (hb:Vi S ns B pb) (h:A.length<B.length):False:=by
 obtain ⟨p',w1,w2,w3,w4⟩:=hb.1.step A.length h;obtain ⟨_,e⟩:=ha.1.one fr w1 (by rw [Jn]; lia);rcases w4 with ⟨o1,_,_⟩ | ⟨p,hp,_,o2,_,_⟩
 ·exact hb.2.1 _ (Jo h) o1
 ·rcases ha.2.2 with z | ⟨_,z⟩
  ·lia
  ·rw [e] at z;exact z p hp o2
def Vi.uniq (fr:Free S) {A B:List En} (ha:Vi S ns A pa) (hb:Vi S ns B pb):A=B/\pa=pb:=by
 rcases Fl A.length B.length with l | l | l
 ·exact (ha.lt fr hb l).elim
 ·exact ha.1.one fr hb.1 l
 ·exact (hb.lt fr ha l).elim
def Vi.perm (h:Vi S ns R pl) (p:S.Perm L):Vi L ns R pl :=
 ⟨h.1.perm p,h.2.1,h.2.2.imp (fun z=>z) fun ⟨a,b⟩=>⟨a,fun q hq=>b q (p.mem_iff.mpr hq)⟩⟩
def Q7 (h:Zbd R) {e:En} (he:e.2≠none):Zbd (R++[e]):=fun x hx=>by
 rcases Gc.mp hx with hx | hx
 ·exact h x hx
 ·rw [Jj.mp hx]; exact he
def outs (R:List En):List V:=R.map fun e=>oV e.2
def Zch {w:World} {K:Frag} {base:Heap} {x:Str} {f:Addr} {k:Nat} (F:Fun K x x st f fd) (G:FnOk P w K mg base (CXE P w) k f fd ps sp) (m:mg x=some (.ref f)) (b:Vn K fd ps []) :
  CalE P w K mg base x k ps sp:=⟨f,fd,G,m,F.kp,b⟩
end L2
namespace L2
open PySem PySem.Spec PyProof.Rows
section
def Inv.turned2 {e:Addr} (I:Inv X pq σ H s) (k:∀ b o,b≠e->b≠it->s.heap.get? b=some o->h'.get? b=some o) (f:FpOk X pq H e) (g:FpOk X pq H it):Inv X pq σ H { s with heap:=h',toks:=t' }:=by
 obtain ⟨f0,f1,f2,f3,f4,f5⟩:=f;obtain ⟨g0,g1,g2,g3,g4,g5⟩:=g;have ne:∀ b u,H b=some u->b≠e:=fun b u q z=>by rw [z,f0] at q; cases q
 have nit:∀ b u,H b=some u->b≠it:=fun b u q z=>by rw [z,g0] at q; cases q
 refine I.step (g':=s.gens) (d':=s.drawn) (ch:=[e,it]) (fun b hb=>?_) (fun b o _ _ hc q _=>k b o (fun z=>hc (by simp [z])) (fun z=>hc (by simp [z])) q) (fun b o _ _ hc q _=>⟨o.slots,k b o (fun z=>hc (by simp [z])) (fun z=>hc (by simp [z])) q⟩) (fun _ _ _ _ n=>n)
  (fun b o hc q=>⟨o,k b o (fun z=>hc (by simp [z])) (fun z=>hc (by simp [z])) q⟩) (fun _ _ q=>q) (fun _ _ _ q=>q) (fun b ps q=>⟨#[],by rw [q]; simp⟩) (fun m hm=>?_) (fun b u q=>?_) I.bare
 ·rcases Jq.mp hb with z | hb
  ·subst z;exists f3,f1,f4,f5
  ·have z:b=it:=by simpa using hb
   subst z;exists g3,g1,g4,g5
 ·obtain ⟨o,es,ep,ho,r⟩:=hm;exists o,es,ep,k _ o (Ne.symm f1) (Ne.symm g1) ho,r
 ·refine (I.hok b u q).stay (fun c v hc q'=>k c v ?_ ?_ q') (fun _ q=>q) fun _ _ q=>q
  ·rcases hc with z | z
   ·rw [z]; exact ne b u q
   ·exact ne c _ z
  ·rcases hc with z | z
   ·rw [z]; exact nit b u q
   ·exact nit c _ z
end
def Ite (K:W.Frag) (a:Addr):It :=
 ⟨fun i H=>∃ xs x,SqL K H a xs/\xs[i]?=some x,fun i H x H'=>∃ (t:Addr) (y:V),x=.ref t/\H t=none/\H'=upd H t (.tup [.int i,y])/\∀ xs,SqL K H a xs->xs[i]?=some y,fun i H=>∃ xs,SqL K H a xs/\xs.length<=i⟩
theorem Zfk {w:World} (a e it:Addr) (hne:e≠it):Turn P w K (.Tuple elts x1 pos) (Ite K a) [e,it] e (fun i h=>(∃ old,IsEnum h e it i old)/\h.IsListIter it a i) where
 mem:=by simp
 obj:=fun i h st b hb=>by
  obtain ⟨⟨old,st1⟩,o,e2,c2,d2⟩:=st;rcases Jq.mp hb with z | hb
  ·subst z;exact ⟨_,st1,fun v z=>by
    have z':Data.fields _=Data.cell v:=z;cases z'⟩
  ·have z:b=it:=by simpa using hb
   subst z;exact ⟨o,e2,fun v z=>by rw [d2] at z; cases z⟩
 keep:=fun i h h' st k=>by
  obtain ⟨⟨old,st1⟩,st2⟩:=st;exists ⟨old,k e (by simp) _ st1⟩,st2.at fun o q=>k it (by simp) o q
 item:=by
  intro X hP hw hK hc i pq s σ H E I hf st hg;subst hP hw hK;obtain ⟨⟨old,st1⟩,st2⟩:=st;obtain ⟨xs,x,hq,hx⟩:=hg;obtain ⟨its,rv,p,hz⟩:=I.list hq;obtain ⟨u,hu,ru⟩:=rv.get hx;refine wpAny_pyNext_enum_item st1 st2 p.isList (x:=u) (by simpa using hu) hne fun h1 eo st2' et hsz hk=>?_;have he:e<s.heap.objs.size:=Df st1;have hi:it<s.heap.objs.size:=by obtain ⟨_,q,_⟩:=st2; exact Df q
  exists ·,wpAny_letOwnedTupleGo_enum eo fun h2 en2 sb=>?_
  replace sb:Heap.SameBut e h1 h2:=sb
  have fr:H s.heap.objs.size=none:=I.fresh;have Il:Inv X pq σ (upd H s.heap.objs.size (.tup [.int i,x])) { s with heap:=s.heap.push { cls:=.type "tuple",data:=.seq #[.int i s.toks,u] },toks:=s.toks }:=I.laid (fun b o q=>Dd _ q) (Je _)
   ⟨by show 2<=sizeLine; decide,[.int i s.toks,u],.cons ⟨_,rfl⟩ (.cons ru .nil),⟨_,De _ rfl,rfl,_,rfl,rfl⟩⟩
  have up:∀ b,b∈[e,it]->FpOk X pq (upd H s.heap.objs.size (.tup [.int i,x])) b:=fun b hb=>by
   obtain ⟨f0,f⟩:=hf b hb;refine ⟨?_,f⟩;have hlt:b<s.heap.objs.size:=by
    rcases Jq.mp hb with z | hb
    ·rw [z]; exact he
    ·have z:b=it:=by simpa using hb
     rw [z]; exact hi
   rw [Zl (Gg hlt)];exact f0
  have I2:Inv X pq σ (upd H s.heap.objs.size (.tup [.int i,x])) { s with heap:=h2,toks:=s.toks+1 }:=by
   refine Inv.turned2 (s:={ s with heap:=s.heap.push { cls:=.type "tuple",data:=.seq #[.int i s.toks,u] },toks:=s.toks }) (h':=h2) (t':=s.toks+1) (e:=e) (it:=it) Il (fun b o be bi q=>?_) (up e (by simp)) (up it (by simp));rcases Heap.get?_push_cases q with ⟨z1,z2⟩ | q
   ·subst z1 z2;exact (sb.2 _ (Fy he)).trans et
   ·exact (sb.2 _ be).trans (hk b o be bi q)
  exists .ref s.heap.objs.size,_,I2,rfl,⟨_,x,rfl,fr,rfl,fun ys hy=>by rw [I.list_inj hy hq]; exact hx⟩,⟨⟨u,?_⟩,st2'.at fun o q=>(sb.2 it hne.symm).trans q⟩,fun b hb=>(up b hb).1
  ·have z:((i+1:Nat):Int)=(i:Int)+1:=by push_cast; rfl
   rw [z];exact en2
 done:=by
  intro X hP hw hK hc i pq s σ H E I hf st hg;subst hP hw hK;obtain ⟨⟨old,st1⟩,st2⟩:=st;obtain ⟨xs,hq,hx⟩:=hg;obtain ⟨its,rv,p,hz⟩:=I.list hq;obtain ⟨f0,f1,f2,f3,f4,f5⟩:=hf it (by simp);have hl:=rv.length;exact wpAny_pyNext_enum_end (I.ok.hd hc) st1 st2 p.isList (by simp; lia) fun h' eb=>⟨rfl,I.turned (t':=s.toks) (fun b o hb e=>eb b o hb e) f0 f1 f3 f4 f5⟩
 self:=fun _ _ _ _ _ st h=>let ⟨⟨_,q⟩,_⟩:=st; wpAny_pyIter_enum q h
section
def Zue (K:W.Frag) (tl:TA):TI:=fun σ H R=>tl σ H fun vs H1=>∃ a,vs=[.ref a]/\(∃ xs,SqL K H1 a xs)/\R (Ite K a) H1
theorem Znq {pt:Pos} {l:Expr} {tl:TA} {p:Pos} (hg:Gl X "enumerate") (hm:X.mg "enumerate"=none) (ha:PA X [l] tl) (hs:starEach [l] X.env=[(false,eval l X.env)]:=by rfl):PI X (.Tuple elts x1 pt) (.Call (.Name "enumerate" p) [l] [] pos) (Zue X.K tl):=by
 intro pq s σ H R I h;refine Call_ (Sg I hg hm boot_enumerate (PyProof.Rows.callWith_type1 (thn (ha pos pq s σ H _ I h) fun us s1 hz=>?_) hs rfl));obtain ⟨vs,H1,I1,r1,q1⟩:=hz;obtain ⟨a,e,⟨xs,hq⟩,q⟩:=q1;subst e;cases r1 with
 | cons r rr =>
  cases rr;cases r;obtain ⟨its,rv,pl,hz⟩:=I1.list hq;refine call_enumerate_list pl.isList fun h' he hit hsz hk=>?_;have I2:Inv X pq σ H1 { s1 with heap:=h',toks:=s1.toks }:=I1.kept hk;refine wpAny_pyIter_enum he ?_;exists s1.heap.objs.size+1,[s1.heap.objs.size+1,s1.heap.objs.size],_,_,H1,rfl,I2,Zfk a _ _ (Nat.succ_ne_self _),⟨⟨_,he⟩,hit⟩,fun b hb=>?_,q;rcases Jq.mp hb with z | hb
  ·subst z;exact I1.fpOk (Bn _) (I1.hok.fresh (Bn _))
  ·have z:b=s1.heap.objs.size:=by simpa using hb
   subst z;exact I1.fpOk (Je _) (I1.hok.fresh (Je _))
end
def Zad (l:Addr) (items:Array Value) (n:Nat) (b:Addr) (items2:Array Value) (n2:Nat) (sl:Array (Option Value)) (hs0:¬(!items.isEmpty && Builtin.List.listTooLong (items.size+items2.size))=true) (hs1:items.size<=sizeLine) (hs2:items.size+items2.size<=sizeLine+1) :
  Meets (Builtin.«list.extend» ⟨[.ref l,.ref b],[]⟩) (fun _ R s=>s.heap.get? l=some { cls:=.type "list",dict:=none,data:=.seq items n,slots:=#[] }/\s.heap.get? b=some { cls:=.type "tuple",dict:=none,data:=.seq items2 n2,slots:=sl }/\R (.ok (.ret Value.none)) { s with heap:=s.heap.update l (Obj.mapSeq fun x=>x++items2),toks:=s.toks }) :=
 .of_wp fun prog w A R s h=>by
  obtain ⟨hp,g,d,tk,os⟩:=s; obtain ⟨hl,hb,h⟩:=h; have f1:=AutoSeq1.idx_int; have f2:=AutoSeq1.sub_tuple_tuple; have f3:=AutoSeq1.sub_list_list; have f4:=AutoSeq1.sub_tuple_list; have f5:=AutoSeq1.sub_list_tuple;
  have hz':(items++items2).size<=sizeLine+1:=by rw [Array.size_append]; exact hs2
  wp_walk using (wpAny_updateSeq hl rfl (hz:=hs1) (_hz':=hz')),AutoSeq1.wpAny_loadPart' hl,AutoSeq1.wpAny_loadPart' hb;exists ·,h
def Zj1:V->List V->Hp->VK->Prop:=fun x vs H Q=>∃ l b xs zs,x=.ref l/\vs=[.ref b]/\H l=some (.lst xs)/\H b=some (.tup zs)/\xs.length+zs.length<=sizeLine/\Q .non (upd H l (.lst (xs++zs)))
theorem Zet :MtM X "list.extend" Zj1:=by
 intro pq s σ H x vs v us Q I rx rv h;obtain ⟨l,b,xs,zs,rfl,rfl,hH,hB,hz,q⟩:=h;cases rx;obtain ⟨u,rfl,ru⟩:=rv.one;cases ru;obtain ⟨z,its,n,r,hl,e⟩:=I.lstM hH;obtain ⟨z2,its2,r2,⟨⟨c,dct,dt,sl⟩,e2,c2,n2,d2,dd2⟩⟩:=I.hok b _ hB
 replace c2:c=.type "tuple":=c2
 replace d2:dt=.seq its2.toArray n2:=d2
 replace dd2:dct=none:=dd2
 subst c2 d2 dd2;have hl2:=r2.length;have hsz:its.toArray.size+its2.toArray.size<=sizeLine:=by rw [Jp,Jp]; lia
 have hlong:¬ (!its.toArray.isEmpty && Builtin.List.listTooLong (its.toArray.size+its2.toArray.size))=true:=by
  rw [Zdg hsz,Bool.and_false];exact Ju
 refine call_meets F.slot_list_extend ⟨_,e,rfl⟩ F.entry_list_extend (F.args_list_extend_2 _ _)
  (Zad l its.toArray n b its2.toArray n2 sl hlong (by rw [Jp]; lia) (by lia)) ⟨e,e2,?_⟩
 exists .non,_,I.lset (its':=its++its2) hH e (by simp) (r.append r2) ?_,rfl,q;rw [Jc];lia
end L2
namespace L2
open PySem PySem.Spec PyProof.Rows PySem.W
theorem Zku {a:Addr} {tb:TS} {D:Ends} (Pv:Nat->St->Hp->Prop) (h0:Pv 0 σ H) (hl:∀ i σ H,i<=xs.length->Pv i σ H->SqL K H a xs)
  (hs:∀ i (hi:i<xs.length) t σ H,Pv i σ H->H t=none->g (.ref t) σ (upd H t (.tup [.int i,xs[i]])) fun σ2 H2=>tb { D with nx:=Pv (i+1),ct:=Pv (i+1),bk:=D.nx } σ2 H2) (hd:∀ σ H,Pv xs.length σ H->D.nx σ H) :
  ∃ W:Nat->Nat->St->Hp->Prop,(∃ m,W 0 m σ H)/\∀ i m σ H,W i m σ H ->
   ((Ite K a).stop i H/\D.nx σ H)\/((Ite K a).go i H/\∃ N:St->Hp->Prop,(∀ σ' H',N σ' H'->∃ m',m'<m/\W (i+1) m' σ' H')/\∀ x H',(Ite K a).yld i H x H'->g x σ H' fun σ2 H2=>tb { D with nx:=N,ct:=N,bk:=D.nx } σ2 H2):=by
 exists fun i m σ H=>m=xs.length-i/\i<=xs.length/\Pv i σ H,⟨xs.length,by simp,Ge _,h0⟩,?_;rintro i m σ H ⟨rfl,hi,p⟩;have q:=hl i σ H hi p
 by_cases hlt:i<xs.length
 ·refine .inr ⟨⟨xs,xs[i],q,by simp [hlt]⟩,Pv (i+1),fun σ' H' p'=>⟨xs.length-(i+1),by lia,rfl,hlt,p'⟩,fun x H' y=>?_⟩;obtain ⟨t,z,rfl,ht,rfl,y⟩:=y;have y2:=y xs q;rw [Ja hlt] at y2;cases y2;exact hs i hlt t σ H p ht
 ·have e:i=xs.length:=by lia
  subst e;exact .inl ⟨⟨xs,q,Je _⟩,hd σ H p⟩
def Zfy (C:Addr):Sp:=fun vs H Q _=>∃ (x:Addr) (S:List Pr) (s:Int),vs=[.ref x,.int s]/\Ux C H x S/\(∀ p∈S,p.1=s->∀ t,H t=some (.tup (p.2.map V.int))->Q (.ref t) H)/\((∀ p∈S,p.1≠s)->Q .non H)
def T6 (S:List Pr) (ts:List Int) (i:Nat):Bool:=match ts[i]? with | some s=>S.all fun p=>decide (p.1≠s) | none=>false
def lk (S:List Pr) (ts:List Int) (j:Nat):List Int:=((List.range j).filter (T6 S ts)).map fun i:Nat=>(i:Int)
def Rm {i:Nat} (hi:i<ts.length):T6 S ts i=true↔∀ p∈S,p.1≠ts[i]:=by
 unfold T6;rw [Ja hi];simp [List.all_eq_true]
def W1 (S T:List Pr) (ts:List Int) (i:Nat):Prop:=(∀ p∈T,p∈S)/\Yu T=ts.take i
def W1.snoc {T:List Pr} {i:Nat} (h:W1 S T ts i) (hi:i<ts.length) {p:Pr} (hp:p∈S) (e:p.1=ts[i]):W1 S (T++[p]) ts (i+1):=by
 exists fun q hq=>?_,?_
 ·rcases Gc.mp hq with hq | hq
  ·exact h.1 q hq
  ·rw [Jj.mp hq]; exact hp
 ·have z:Yu (T++[p])=Yu T++[p.1]:=by unfold Yu; rw [List.map_append]; rfl
  rw [z,h.2,e,Jf hi]
theorem W1.len {T:List Pr} {i:Nat} (h:W1 S T ts i) (hi:i<=ts.length):T.length=i:=by
 have:=congrArg List.length h.2;unfold Yu at this;rw [Jb,Jn] at this;lia
def Vs.perm {k:List (Key×V)} (h:Vs H k L) (p:S.Perm L):Vs H k S:=⟨fun q hq=>h.1 q (p.mem_iff.mp hq),fun s hs=>h.2 s fun q hq=>hs q (p.mem_iff.mpr hq)⟩
def Vs.same {k:List (Key×V)} (h:Vs H k S) (s:Same H H'):Vs H' k S:=⟨fun q hq=>let ⟨t,a,b⟩:=h.1 q hq; ⟨t,a,s _ _ b⟩,h.2⟩
end L2
namespace L2
open PySem PySem.Spec PyProof.Rows
section
variable {K:Type} [DecidableEq K] 
inductive HitsH (A:Around) (s:Shared) (kb:List (K×Addr×Value)):List (K×Addr×Value)->Bool->Prop
 | nil:HitsH A s kb [] true
 | miss {k:K} {a:Addr} {v:Value} {r:List (K×Addr×Value)}:(∀ (j:Nat) (p:Addr×Value),kb[j]?≠some (k,p))->HitsH A s kb ((k,a,v)::r) false
 | hit {k:K} {a:Addr} {v:Value} {r:List (K×Addr×Value)} {j:Nat} {p:Addr×Value} {e b:Bool}:kb[j]?=some (k,p)->SeqAt.EqAt A s v p.2 e->HitsH A s kb r b->HitsH A s kb ((k,a,v)::r) (e && b)
end
end L2
namespace L2
open PySem PySem.W PyProof.Rows HT PySem.Calls
section
theorem Zdp:∀ {ns:List Int} {vs:List Value},Vals (ns.map V.int) vs->IntsAre vs ns
 | [],_,h=>by cases h; exact .nil
 | a::r,_,h=>by
  cases h with
  | cons h1 h2=>obtain ⟨t,e⟩:=h1; subst e; exact .cons a t (Zdp h2)
end
end L2
namespace L2
open PySem PySem.W PySem.Spec PyProof.Rows
section
variable {k:Nat} {x:Str} {p:Pos}
def Zq6 (M:Mkr X.prog X.w X.K X.mg X.base x C k ps sp) (hr:Room (k+1) X.A) (hg:Gl X x) (hdb:(x == ("__debug__":Str))=false:=by decide):PE X (.Call (.Name x p) [] [] pos) (Zeg C sp [] E0 tNil):=by
 obtain ⟨f,fd,hm,F,g,hb⟩:=M;exact Zj7 hm F hr hg g hb .nil Zg4 hdb
end
section
def Zgk:List V->Hp->VK->Prop:=fun xs H Q=>∃ (d:Addr) (kvs:List (Key×V)),xs=[.ref d]/\Rd H d (.dK kvs)/\∀ (l:Addr),H l=none->Q (.ref l) (upd H l (.lst (kvs.map fun kv=>kV kv.1)))
theorem Zfe:∀ {us:List Value} {vs:List V},us.length=vs.length->(∀ (j:Nat) (u:Value) (v:V),us[j]?=some u->vs[j]?=some v->RelV v u)->Vals vs us
 | [],[],_,_=>.nil
 | u::us,v::vs,hl,h=>.cons (h 0 u v rfl rfl) (Zfe (by simpa using hl) fun j u v e1 e2=>h (j+1) u v e1 e2)
theorem Zcg (hc:X.calm=true):Ws X (.type "list") Zgk:=by
 intro pq s σ H xs us Q I r h;obtain ⟨d,kvs,rfl,rd,q⟩:=h;obtain ⟨u,rfl,rx⟩:=Uy r;cases rx;obtain ⟨hz,lo,vs,rel,dof⟩:=Zar I.hok rd;obtain ⟨ep,da⟩:=dof.dictAt;have hv:=Paired.length rel;refine W.kdl_call (kdl_dict (knd:=Yz X.prog X.w) (kvs:=vs) (ep:=ep) lo) (I.ok.hd hc) da (by rw [<- hv]; exact hz) fun h' tk acc' c' kp e' hacc=>?_;have hal:acc'.toList.length=vs.length:=by rw [Bs]; exact hacc.1
 exists .ref s.heap.objs.size,_,I.laid (t':=tk) (o:=.lst (kvs.map fun kv=>kV kv.1)) kp (Je _) ⟨by rw [Jb]; exact hz,acc'.toList,c',?_,by simpa using e'⟩,rfl,q _ (I.hok.fresh (Je _));refine Zfe (by rw [hal,Jb]; lia) fun j u v e1 e2=>?_;obtain ⟨k,x,e3,e4⟩:=hacc.2 j u (by rw [<- Array.getElem?_toList]; exact e1);have hj:j<vs.length:=(Jh.mp e3).1;have hr:=L2.Paired.at rel (by lia:j<kvs.length) hj;rw [J9,Ja (by lia:j<kvs.length)] at e2;cases e2;rw [Ja hj] at e3;have e5:=Dl e3;show RelV (kV kvs[j].1) u;rw [hr.1,e5];rcases Yi (show Pu k u=true from e4) with ⟨i,t,rfl,rfl⟩ | ⟨y,t,rfl,rfl⟩
 ·exists t,rfl
 ·exists t,rfl
end
end L2
namespace L2
open PySem PySem.Spec PyProof.Rows
section
def Inv.thaw {σ0:St} {s1:Shared} {d:Addr} {kvs kvs0:List (Key×V)} {o:Obj} (I0:Inv X pq σ0 H s) (e0:H d=some (.dK kvs0)) (I:Inv X pq σ H1 s1) (e1:H1 d=some (.frz o (.dK kvs))):Inv X pq σ (upd H1 d (.dK kvs)) s1:=by
 have nf:∀ o u,X.H₀ d≠some (.frz o u):=fun o u z=>by
  have:=I0.base.frzs d o u z;rw [e0] at this;cases this
 have ne:∀ b,H1 b=none->b≠d:=fun b n z=>by rw [z,e1] at n; cases n
 obtain ⟨e2,z,hd,vs,r,ob,es,ep,e3,rest⟩:=(show Yw X.prog X.w H1 s1.heap d (.frz o (.dK kvs)) from I.hok d _ e1);exists I.ok,I.os,I.bare,⟨I.base.keep,I.base.slot,fun b o q n hx=>?_,I.base.there,fun b xs q=>?_,fun b o u q=>?_,fun b ps q=>?_⟩,I.loc,I.cell,?_,fun x c q=>?_,fun p hp=>?_,fun b u q=>?_,I.len
 ·have:=I.base.free b o q n hx;rw [Zl (ne b this)];exact this
 ·have:=I.base.tups b xs q;rw [Zl (fun w=>by rw [w,e1] at this; cases this)];exact this
 ·have:=I.base.frzs b o u q;rw [Zl (fun w=>nf o u (by rw [<- w]; exact q))];exact this
 ·obtain ⟨more,this⟩:=I.base.tbls b ps q;exists more,?_;rw [Zl (fun w=>by rw [w,e1] at this; cases this)];exact this
 ·rw [Zl (ne _ I.free)];exact I.free
 ·have:=I.freeC x c q;rw [Zl (ne _ this)];exact this
 ·obtain ⟨p1,p2,p3⟩:=I.pin p hp;exists p1,by rw [Zl (ne _ p2)]; exact p2,p3
 ·by_cases w:b=d
  ·subst w;rw [Zd] at q;cases q;exists z,hd,vs,r,ob,es,ep,e3,rest
  ·rw [Zl w] at q;refine (I.hok b u q).stay (fun c v hc q'=>q') (fun y q'=>?_) fun c xs q'=>?_
   ·rw [Zl (fun w'=>by rw [w',e1] at q'; cases q')];exact q'
   ·rw [Zl (fun w'=>by rw [w',e1] at q'; cases q')];exact q'
def Zqr (t:TS):TS:=fun D σ H=>∃ d kvs0,H d=some (.dK kvs0)/\t { D with nx:=fun σ' H1=>∃ o kvs,H1 d=some (.frz o (.dK kvs))/\D.nx σ' (upd H1 d (.dK kvs)) } σ H
theorem Znm {t:TS} (h:PS X st t):PS X st (Zqr t):=by
 intro pq s σ H D I hq;obtain ⟨d,kvs0,e0,hq⟩:=hq;refine Dn (h pq s σ H _ I hq) (fun f s1 h1=>?_) fun _ _ z=>z;cases f with
 | next =>
  obtain ⟨σ',H1,I1,o,kvs,e1,q⟩:=h1;exists σ',_,I.thaw e0 I1 e1,q
 | brk=>exact h1
 | cont=>exact h1
 | ret u=>exact h1
end
section
def Zbn (K:W.Frag):V->List V->Hp->VK->Prop:=fun x xs H Q=>∃ (p:Addr) (ys:List V) (y:V) (ds:List PyData) (d:PyData),x=.ref p/\xs=[y]/\SqL K H p ys/\DVs K H ys ds/\DV K H y d/\PyData.canLayAll0 ds=true/\d.canLay0=true/\d.depth<=60/\Q (.int ((ds.countP fun z=>PyData.eqv z d:Nat):Int)) H
theorem Zhf (hu:X.A.units+64<cLine):MtR X "list.count" (Zbn X.K):=by
 intro pq s σ H x xs v us Q I rx r h;obtain ⟨p,ys,y,ds,d,rfl,rfl,hq,hd,hy,c1,c2,dd,q⟩:=h;cases rx;obtain ⟨u,rfl,ru⟩:=Uy r;obtain ⟨its,rv,⟨o,n,e,c,dt,hd'⟩,_⟩:=I.list hq;obtain ⟨as,ra⟩:=dvs_reads I hd rv;obtain ⟨bs,rb⟩:=Vg I hy ru;obtain ⟨oc,od,oda,osl⟩:=o;dsimp only at c dt hd';subst c;subst hd';refine call_meets PySem.F.slot_list_count ⟨_,e,rfl⟩ PySem.F.entry_list_count (PySem.F.args_list_count_2 _ _) (SeqAt.list_countAt p its.toArray n od osl u (fun y=>PyData.eqv (SeqAt.readOf s.heap y) d)) ⟨e,SeqAt.items_eqAt (by simpa using ra) rb c1 c2 (by have:=Nat.min_le_right (PyData.depthAll ds) d.depth; lia),?_⟩
 refine ⟨.int _,H,I.tok _,⟨_,rfl⟩,?_⟩;have em:=SeqAt.readsAll_map ds its as c1 ra;have ec:its.countP (fun y=>PyData.eqv (SeqAt.readOf s.heap y) d)=ds.countP fun z=>PyData.eqv z d:=by
  rw [<- em,List.countP_map];rfl
 show Q (.int ((its.toArray.toList.countP _:Nat):Int)) H;rw [show its.toArray.toList=its from rfl,ec];exact q
end
end L2
namespace L2
open PySem PySem.W PyProof.Rows HT PySem.Calls
section
def Zlt (K:PySem.W.Frag):List V->Hp->VK->Prop:=fun xs H Q=>∃ (l:Addr) (ns:List Int),xs=[.ref l]/\SqL K H l (ns.map V.int)/\ns.length<64 /\
 ∀ (D:Addr) (ns':List Int),H D=none->ns'.Perm ns->ns'.Pairwise (·<=·)->Q (.ref D) (upd H D (.lst (ns'.map V.int)))
theorem Ze6 {K:PySem.W.Frag} (hK:X.K=K):Ws X (.builtin "sorted") (Zlt K):=by
 intro pq s σ H xs us Q I r h;obtain ⟨l,ns,rfl,hl,h64,q⟩:=h;obtain ⟨u,rfl,rx⟩:=Uy r;cases rx;subst hK;obtain ⟨its,rv,pl,_⟩:=I.list hl;have hI:=Zdp rv;have el:=hI.length;refine sorted_ints pl.isList hI (by lia) fun out ns' a1 a2 a3=>?_;have hsz:((s.heap.push (seqObj "list" #[] 0)).update s.heap.objs.size (Obj.mapSeq (·++its.toArray))).objs.size=s.heap.objs.size+1:=by
  rw [Heap.size_update,size_push']
 have hoL:(((s.heap.push (seqObj "list" #[] 0)).update s.heap.objs.size (Obj.mapSeq (·++its.toArray))).push (seqObj "list" its.toArray 0)).get? (s.heap.objs.size+1)=some (seqObj "list" its.toArray 0):=by
  rw [<- hsz]; exact De _ rfl
 have keep:∀ b o,s.heap.get? b=some o->(((s.heap.push (seqObj "list" #[] 0)).update s.heap.objs.size (Obj.mapSeq (·++its.toArray))).push (seqObj "list" its.toArray 0)).get? b=some o:=fun b o q=>by
  have hlt:b<s.heap.objs.size:=Df q;rw [Heap.get?_push_ne _ _ _ (by rw [hsz]; exact Gg (Bx hlt)),Heap.get?_update_ne _ _ _ _ (Gg hlt),Heap.get?_push_ne _ _ _ (Gg hlt)];exact q
 obtain ⟨e,he⟩:=sortedHeap_at (vs:=its) (out:=out) hoL;exists .ref (s.heap.objs.size+1),_,I.laid (a:=s.heap.objs.size+1) (t':=s.toks) (fun b o eb=>?_) (Bn _) (show Yw X.prog X.w _ _ _ (.lst (ns'.map V.int)) from ⟨?_,out.toList,e,Px a1,he⟩),rfl,q _ ns' (I.hok.fresh (Bn _)) a2 a3
 ·have hb:s.heap.get? b=some o:=eb;have hlt:b<s.heap.objs.size:=Df hb;show (sortedHeap _ _ _ _).get? b=_;rw [sortedHeap_old (Gg (Bx hlt)) (by rw [size_push',hsz]; exact Bx (Bx hlt))];exact keep b o hb
 ·rw [Jb,a2.length_eq,sizeLine_eq]; lia
end
end L2
namespace L2
open PySem PySem.Spec PyProof.Rows
section
def Inv.turnedL (I:Inv X pq σ H s) (k:∀ b o,b∉ch->s.heap.get? b=some o->h'.get? b=some o) (f:∀ b∈ch,FpOk X pq H b):Inv X pq σ H { s with heap:=h',toks:=t' }:=by
 have ne:∀ b u,H b=some u->b∉ch:=fun b u q z=>by rw [(f b z).1] at q; cases q
 refine I.step (g':=s.gens) (d':=s.drawn) (ch:=ch) (fun b hb=>?_) (fun b o _ _ hc q _=>k b o hc q) (fun b o _ _ hc q _=>⟨o.slots,k b o hc q⟩) (fun _ _ _ _ n=>n)
  (fun b o hc q=>⟨o,k b o hc q⟩) (fun _ _ q=>q) (fun _ _ _ q=>q) (fun b ps q=>⟨#[],by rw [q]; simp⟩) (fun m hm=>?_) (fun b u q=>?_) I.bare
 ·obtain ⟨f0,f1,f2,f3,f4,f5⟩:=f b hb;exists f3,f1,f4,f5
 ·obtain ⟨o,es,ep,ho,r⟩:=hm;exists o,es,ep,k _ o (fun z=>(f _ z).2.1 rfl) ho,r
 ·refine (I.hok b u q).stay (fun c v hc q'=>k c v ?_ q') (fun _ q=>q) fun _ _ q=>q;rcases hc with z | z
  ·rw [z]; exact ne b u q
  ·exact ne c _ z
end
def Itz (K:W.Frag) (a b:Addr):It :=
  ⟨fun i H=>∃ xs ys x y,SqL K H a xs/\SqL K H b ys/\xs[i]?=some x/\ys[i]?=some y,
   fun i H v H'=>∃ (t:Addr) (x y:V),v=.ref t/\H t=none/\H'=upd H t (.tup [x,y])/\(∀ xs,SqL K H a xs->xs[i]?=some x)/\∀ ys,SqL K H b ys->ys[i]?=some y,
   fun i H=>∃ xs ys,SqL K H a xs/\SqL K H b ys/\(xs.length<=i\/ys.length<=i)⟩
theorem Zjn {w:World} (a b z TI TO i1 i2:Addr) (D:ZipApart z TI TO i1 i2 a b):Turn P w K (.Tuple elts x1 pos) (Itz K a b) [z,TI,TO,i1,i2] z
  (fun i h=>IsZip h z TI TO .none/\IsPair h TI (.ref i1) (.ref i2)/\(∃ u v,IsPair h TO u v)/\h.IsListIter i1 a i/\h.IsListIter i2 b i) where
 mem:=by simp
 obj:=fun i h st c hc=>by
  obtain ⟨hz,hTI,⟨u,v,hTO⟩,⟨o1,e1,c1,d1⟩,⟨o2,e2,c2,d2⟩⟩:=st;simp only [Jq,G8,or_false] at hc;rcases hc with rfl | rfl | rfl | rfl | rfl
  ·exact ⟨_,hz,fun v z=>by cases z⟩
  ·exact ⟨_,hTI,fun v z=>by cases z⟩
  ·exact ⟨_,hTO,fun v z=>by cases z⟩
  ·exact ⟨o1,e1,fun v z=>by rw [d1] at z; cases z⟩
  ·exact ⟨o2,e2,fun v z=>by rw [d2] at z; cases z⟩
 keep:=fun i h h' st k=>by
  obtain ⟨hz,hTI,⟨u,v,hTO⟩,h1,h2⟩:=st;exists k z (by simp) _ hz,k TI (by simp) _ hTI,⟨u,v,k TO (by simp) _ hTO⟩,h1.at fun o q=>k i1 (by simp) o q,h2.at fun o q=>k i2 (by simp) o q
 item:=by
  intro X hP hw hK hc i pq s σ H E I hf st hg;subst hP hw hK;obtain ⟨hz,hTI,⟨u,v,hTO⟩,h1,h2⟩:=st;obtain ⟨xs,ys,x,y,hq,hr,hx,hy⟩:=hg;obtain ⟨its,rv,p,_⟩:=I.list hq;obtain ⟨its2,rv2,p2,_⟩:=I.list hr;obtain ⟨ux,hu,ru⟩:=rv.get hx;obtain ⟨uy,hu2,ru2⟩:=rv2.get hy;refine wpAny_pyNext_zip_item D hz hTI hTO h1 h2 p.isList p2.isList (x:=ux) (y:=uy) (by simpa using hu) (by simpa using hu2) fun hp1 a1 a2 a3 a4 a5 a6 a7=>?_;exists ·,wpAny_letOwnedTupleGo_zip a1 fun hp2 b1 sb=>?_
  replace sb:Heap.SameBut z hp1 hp2:=sb
  have lt:∀ c∈[z,TI,TO,i1,i2],c<s.heap.objs.size:=fun c hc=>by
   simp only [Jq,G8,or_false] at hc;rcases hc with rfl | rfl | rfl | rfl | rfl
   ·exact Df hz
   ·exact Df hTI
   ·exact Df hTO
   ·obtain ⟨_,q,_⟩:=h1; exact Df q
   ·obtain ⟨_,q,_⟩:=h2; exact Df q
  have fr:H s.heap.objs.size=none:=I.fresh;have Il:Inv X pq σ (upd H s.heap.objs.size (.tup [x,y])) { s with heap:=s.heap.push { cls:=.type "tuple",data:=.seq #[ux,uy] },toks:=s.toks }:=I.laid (fun b o q=>Dd _ q) (Je _)
   ⟨by show 2<=sizeLine; decide,[ux,uy],.cons ru (.cons ru2 .nil),⟨_,De _ rfl,rfl,_,rfl,rfl⟩⟩
  have up:∀ c∈[z,TI,TO,i1,i2],FpOk X pq (upd H s.heap.objs.size (.tup [x,y])) c:=fun c hc=>by
   obtain ⟨f0,f⟩:=hf c hc;exists ?_,f;rw [Zl (Gg (lt c hc))];exact f0
  have I2:Inv X pq σ (upd H s.heap.objs.size (.tup [x,y])) { s with heap:=hp2,toks:=s.toks }:=by
   refine Inv.turnedL (s:={ s with heap:=s.heap.push { cls:=.type "tuple",data:=.seq #[ux,uy] },toks:=s.toks }) (h':=hp2) (t':=s.toks) (ch:=[z,TI,TO,i1,i2]) Il (fun c o hc q=>?_) up;simp only [Jq,G8,or_false,not_or] at hc;rcases Heap.get?_push_cases q with ⟨z1,z2⟩ | q
   ·subst z1 z2;exact (sb.2 _ hc.1).trans a5
   ·exact (sb.2 _ hc.1).trans (a7 c o hc.1 hc.2.2.1 hc.2.2.2.1 hc.2.2.2.2 q)
  refine ⟨.ref s.heap.objs.size,_,I2,rfl,⟨_,x,y,rfl,fr,rfl,fun zs hz'=>by rw [I.list_inj hz' hq]; exact hx,fun zs hz'=>by rw [I.list_inj hz' hr]; exact hy⟩,
   ⟨b1,(sb.2 TI D.TIz).trans (a7 _ _ D.TIz D.TITO D.TIi1 D.TIi2 hTI),⟨_,_,(sb.2 TO D.TOz).trans a2⟩,a3.at fun o q=>(sb.2 i1 D.i1z).trans q,a4.at fun o q=>(sb.2 i2 D.i2z).trans q⟩,fun c hc=>(up c hc).1⟩
 done:=by
  intro X hP hw hK hc i pq s σ H E I hf st hg;subst hP hw hK;obtain ⟨hz,hTI,⟨u,v,hTO⟩,h1,h2⟩:=st;obtain ⟨xs,ys,hq,hr,hx⟩:=hg;obtain ⟨its,rv,p,_⟩:=I.list hq;obtain ⟨its2,rv2,p2,_⟩:=I.list hr;have l1:=rv.length;have l2:=rv2.length;refine wpAny_pyNext_zip_end (I.ok.hd hc) D hz hTI hTO h1 h2 p.isList p2.isList (by simp; lia) fun hp1 kp=>⟨rfl,?_⟩;refine I.turnedL (t':=s.toks) (ch:=[z,TI,TO,i1,i2]) (fun c o hc q=>?_) hf;simp only [Jq,G8,or_false,not_or] at hc;exact kp c o hc.1 hc.2.2.1 hc.2.2.2.1 hc.2.2.2.2 q
 self:=fun _ _ _ _ _ st h=>wpAny_pyIter_zip st.1 h
section
def iZip (K:W.Frag) (tl:TA):TI:=fun σ H R=>tl σ H fun vs H1=>∃ a b,vs=[.ref a,.ref b]/\(∃ xs,SqL K H1 a xs)/\(∃ ys,SqL K H1 b ys)/\R (Itz K a b) H1
theorem Zlz {pt:Pos} {l r:Expr} {tl:TA} {p:Pos} (hg:Gl X "zip") (hm:X.mg "zip"=none) (ha:PA X [l,r] tl) (hs:starEach [l,r] X.env=[(false,eval l X.env),(false,eval r X.env)]:=by rfl) (hs2:starEach [r] X.env=[(false,eval r X.env)]:=by rfl):PI X (.Tuple elts x1 pt) (.Call (.Name "zip" p) [l,r] [] pos) (iZip X.K tl):=by
 intro pq s σ H R I h;refine Call_ (Sg I hg hm boot_zip (PyProof.Rows.callWith_type1 (thn (ha pos pq s σ H _ I h) fun us s1 hz=>?_) (by rw [hs,hs2]) (by rw [hs2]; rfl)));obtain ⟨vs,H1,I1,r1,q1⟩:=hz;obtain ⟨a,b,e,⟨xs,hq⟩,⟨ys,hr⟩,q⟩:=q1;subst e;cases r1 with
 | cons r rr =>
  cases rr with
  | cons r' rr =>
   cases rr;cases r;cases r';obtain ⟨its,rv,pl,_⟩:=I1.list hq;obtain ⟨its2,rv2,pl2,_⟩:=I1.list hr;refine call_zip_2 pl.isList pl2.isList fun hp1 c1 c2 c3 c4 c5 c6 c7=>?_;have I2:Inv X pq σ H1 { s1 with heap:=hp1,toks:=s1.toks }:=I1.kept c7;refine wpAny_pyIter_zip c1 ?_;have la:a<s1.heap.objs.size:=by obtain ⟨o,e,_⟩:=pl.isList; exact Df e
   have lb:b<s1.heap.objs.size:=by obtain ⟨o,e,_⟩:=pl2.isList; exact Df e
   refine ⟨s1.heap.objs.size+4,[s1.heap.objs.size+4,s1.heap.objs.size+2,s1.heap.objs.size+3,s1.heap.objs.size,s1.heap.objs.size+1],_,_,H1,rfl,I2,Zjn a b _ _ _ _ _ (zipApart_new la lb),⟨c1,c2,⟨_,_,c3⟩,c4,c5⟩,fun c hc=>?_,q⟩;have hle:s1.heap.objs.size<=c:=by
    simp only [Jq,G8,or_false] at hc;rcases hc with rfl | rfl | rfl | rfl | rfl <;> lia
   exact I1.fpOk hle (I1.hok.fresh hle)
end
end L2
namespace L2
open PySem PySem.Spec PyProof.Rows PySem.W
section
variable {M:Model} {K:Frag} {D1 D2:Addr}
def Zd5 {D:Addr} (hb:mroIn K D (.type "BaseException")=some true):∃ (oD:Obj) (cd:ClassData),K.lookup D=some oD/\oD.data=.cls cd:=by
 unfold mroIn at hb;obtain ⟨cd,z,_⟩:=Option.bind_eq_some_iff.mp hb;unfold clsIn at z
 split at z
 ·rename_i e
  exists _,_,e,rfl
 ·cases z
theorem Zap {b1 b2:Bool} {tdd:Option Addr} {tn:Nat} {tsl:Array (Option Value)} {Q:Bool->Shared->Prop} (X:K.In s.heap) (t1:typeIn K (.ref D1)=some (.type "type")) (q1:mroIn K D1 (.type "BaseException")=some true) (t2:typeIn K (.ref D2)=some (.type "type")) (q2:mroIn K D2 (.type "BaseException")=some true)
  (hp:s.heap.get? tp=some { cls:=.type "tuple",dict:=tdd,data:=.seq #[.ref D1,.ref D2] tn,slots:=tsl }) (he:s.heap.get? ea=some oe) (hc:oe.cls=.ref C) (m1:mroIn K C (.ref D1)=some b1) (m2:mroIn K C (.ref D2)=some b2) (k:Q (b1 || b2) s):wpAny M A (excMatches (.ref ea) (.ref tp)) Q E s:=by
 have h1:=Zbf X t1;have h2:=Zbf X t2;have L1:=looks_mroIn (M:=M) X q1;have L2:=looks_mroIn (M:=M) X q2;have L3:=looks_mroIn (M:=M) X m1;have L4:=looks_mroIn (M:=M) X m2;have n1:=tc_notTuple;have n2:=tc_sub;obtain ⟨o1,cd1,l1,e1⟩:=Zd5 q1;obtain ⟨o2,cd2,l2,e2⟩:=Zd5 q2;have x1:=X _ _ l1;have x2:=X _ _ l2;obtain ⟨c0,dd0,dt0,sl0⟩:=o1;obtain ⟨c9,dd9,dt9,sl9⟩:=o2;dsimp only at e1 e2;subst e1 e2;obtain ⟨hh,g,d,t,os⟩:=s;unfold excMatches;have tt:=AutoSeq1.sub_tuple_tuple
 repeat (first | (with_reducible refine wpAny_loadPart_at hp ?_) | (with_reducible refine wpAny_loadPart_at he ?_; rw [hc]) | with_reducible refine wpAny_loadPart_at x1 ?_ | with_reducible refine wpAny_loadPart_at x2 ?_ | with_reducible refine L1.at ?_ | with_reducible refine L2.at ?_ | with_reducible refine L3.at ?_ | with_reducible refine L4.at ?_ | wp_step)
 cases b1 with
 | true=>wp_walk; exact k
 | false =>
  repeat (first | with_reducible refine L4.at ?_ | wp_step)
  cases b2 <;> (wp_walk; exact k)
end
def Zp0 (K:Frag) (D1 D2:Addr) (ts:TS) (thr:TH):TH:=fun C d ea D σ H=>∃ b1 b2,mroIn K C (.ref D1)=some b1/\mroIn K C (.ref D2)=some b2/\∀ p,H p=none->if (b1 || b2)=true then ts D σ (upd H p (.tup [.ref D1,.ref D2])) else thr C d ea D σ (upd H p (.tup [.ref D1,.ref D2]))
section
variable {c1 c2:Str} {D1 D2:Addr} {b0:Stmt} {rest:List ExceptHandler} {n1 n2 tpos:Pos} {ts:TS} 
theorem Zrz (ca1:Cau X.K X.mg c1 D1) (hg1:Gl X c1) (ca2:Cau X.K X.mg c2 D2) (hg2:Gl X c2) (hs:∀ e,PSs (X.mrk e) (b0::body) ts) (hr:HS X rest thr) (hd1:(c1 == ("__debug__":Str))=false:=by decide) (hd2:(c2 == ("__debug__":Str))=false:=by decide) :
  HS X (.ExceptHandler (some (.Tuple [.Name c1 n1,.Name c2 n2] x1 tpos)) none (b0::body) pos::rest) (Zp0 X.K D1 D2 ts thr):=by
 intro pq s σ H ea C T d D I hea fl fp h;obtain ⟨b1,b2,m1,m2,h⟩:=h;refine wpAny_handleBy_cons (codeAny_handlers_test ?_) (by intro q; cases q);have J:=I.mrk (.ref ea);refine wpAny_Tuple_spliced ?_;show wpAny _ _ (spliced ((false,eval (.Name c1 n1) X.env)::(false,eval (.Name c2 n2) X.env)::[])) _ _ s;refine Calls.spliced_cons (Vz (X:=X.mrk (.ref ea)) J hg1 ca1.mg ?_ hd1);refine Calls.spliced_cons (Vz (X:=X.mrk (.ref ea)) J hg2 ca2.mg ?_ hd2);refine Calls.spliced_nil ?_;exists by show 2<=sizeLine; decide,?_;have fr:H s.heap.objs.size=none:=I.fresh;have kp:∀ b o,s.heap.get? b=some o->(s.heap.push { cls:=.type "tuple",data:=.seq #[.ref D1,.ref D2] }).get? b=some o:=fun b o e=>Dd _ e
 have atp:(s.heap.push { cls:=.type "tuple",data:=.seq #[.ref D1,.ref D2] }).get? s.heap.objs.size=some { cls:=.type "tuple",data:=.seq #[.ref D1,.ref D2] }:=De _ rfl;have I1:Inv X pq σ (upd H s.heap.objs.size (.tup [.ref D1,.ref D2])) { s with heap:=s.heap.push { cls:=.type "tuple",data:=.seq #[.ref D1,.ref D2] },toks:=s.toks }:=I.laid kp (Je _)
  ⟨by show 2<=sizeLine; decide,[.ref D1,.ref D2],.cons rfl (.cons rfl .nil),⟨_,atp,rfl,_,rfl,rfl⟩⟩
 have pe:s.heap.objs.size≠ea:=fun z=>by rw [z,hea] at fr; cases fr
 have hea1:upd H s.heap.objs.size (.tup [.ref D1,.ref D2]) ea=some (.ext (excP ea C d)):=by rw [Zl (Ne.symm pe)]; exact hea
 obtain ⟨⟨oe,vs,e1,e2,e3,e4,e5⟩,_,_⟩:=I1.hok ea _ hea1;have fl1:Zcp ea T (s.heap.push { cls:=.type "tuple",data:=.seq #[.ref D1,.ref D2] }):=by
  obtain ⟨oe,vs,oT,ts,f1,f2,f3,f4,f5⟩:=fl;exists oe,vs,oT,ts,kp _ _ f1,f2,f3,kp _ _ f4,f5
 have lT:T<s.heap.objs.size:=by
  obtain ⟨oe,vs,oT,ts,f1,f2,f3,f4,f5⟩:=fl;exact Df f4
 have fp1:FpOk X pq (upd H s.heap.objs.size (.tup [.ref D1,.ref D2])) T:=⟨by rw [Zl (Gg lT)]; exact fp.1,fp.2⟩;have h:=h _ fr;refine Zap I1.kIn ca1.ty ca1.bx ca2.ty ca2.bx atp e1 e2 m1 m2 ?_;generalize (b1 || b2)=b at h;cases b with
 | false=>exact hr pq _ σ _ ea C T d D I1 hea1 fl1 fp1 h
 | true =>
  refine Zcx (Si (I1.mrk (.ref ea)) fl1 fp1 fun s1 J1=>?_);exact Dn (hs (.ref ea) pq s1 _ _ _ J1 h) (fun f s3 h3=>h3.unmrk I.ok) fun _ _ z=>z
end
section
def Zpk (X:Cx) (pq:List (Addr×Obj)) (Ex:St->XK) (e:Value) (s':Shared):Prop:=∃ σ,Zmo X pq σ (Ex σ) e s'
def Zt3 {Ex:St->XK} (σ:St):V5 (CXE X.prog X.w) (X.wish (Zpk X pq Ex)) pq σ (Ex σ):=by
 intro H s e s' I hx;obtain ⟨ea,C,T,d,H2,rfl,os,bare,un,hok,hea,lea,nT,lT,fl,q⟩:=hx;have I':=I.unwish;have I2:Inv X pq σ H2 s':=I'.call' os un hok bare (ch:=[]) fun b z=>absurd z (by simp);exists σ,ea,C,T,d,H2,rfl,I2,hea,fl,I'.fpOk lT nT,q
def Zmw (tb:(St->XK)->TS) (th:TH):TS:=fun D σ H=>tb (fun σ' cls d H'=>∃ C,cls=.ref C/\∀ ea,H' ea=some (.ext (excP ea C d))->th C d ea D σ' H') D σ H
def Znk {bd:List Stmt} {h0:ExceptHandler} {hs:List ExceptHandler} {tb:(St->XK)->TS} {L:Addr} (hst:X.stack=X.env::X.outer) (hf:X.env.frame=some L)
  (hb:∀ (pq:List (Addr×Obj)) (σ:St) (xe:Value->Shared->Prop) (Ex:St->XK),(∀ σ,V5 (CXE X.prog X.w) (X.wish xe) pq σ (Ex σ))->PSF (X.wish xe) pq σ bd (tb Ex)) (hh:HS X (h0::hs) th) :
  PS X (.Try bd (h0::hs) [] [] pos) (Zmw tb th):=by
 intro pq s σ H D I h;refine wpAny_Try_except (Dn (hb pq σ _ _ Zt3 s H D (I.wish _) h) (fun f s1 h1=>?_) fun e s1 h1=>?_)
 ·have h2:=h1.unwish;cases f with
  | next=>exact wpAny_execs_nil h2
  | brk=>exact h2
  | cont=>exact h2
  | ret u=>exact h2
 ·obtain ⟨σ1,ea,C,T,d,H1,rfl,I1,hea,fl,fp,C',hC,k⟩:=h1;cases hC;obtain ⟨oe,vs,oT,ts,e1,d1,v1,e2,d2,t3,ne⟩:=fl;refine T4 (base:=X.base) (by rw [I1.ok.frames,hst]) (by have:=I1.stack; rw [hst] at this; exact this) hf e1 d1 v1 e2 d2 t3 ne fun h' g=>?_;rw [<- hst] at g;have I2:=I1.noted hea e1 d1 (fun T' z=>by cases z; exact fp) g;obtain ⟨T',lT,fl'⟩:=g.flies;exact hh pq _ σ1 H1 ea C T' d D I2 hea fl' (I1.fpOk lT (I1.hok.fresh lT)) (k ea hea)
end
end L2
namespace L2
open PySem PySem.Spec PyProof.Rows
def Zqy:V->List V->Hp->VK->Prop:=fun x xs H Q=>∃ z y:Str,x=.str z/\xs=[.str y]/\Q (.int (Txt.find z y)) H
def Zn8 :MtR X "str.find" Zqy:=by
 intro pq s σ H x xs v us Q I rx r h;obtain ⟨z,y,rfl,rfl,q⟩:=h;obtain ⟨t,rfl⟩:=rx;obtain ⟨u,rfl,ru⟩:=Uy r;obtain ⟨t2,rfl⟩:=ru;exact SC.find ⟨.int _,H,I.tok _,⟨_,rfl⟩,q⟩
theorem Znl {s1 s2:Stmt} {h0:ExceptHandler} {hs:List ExceptHandler} {t1 t2:XK->TS} {L:Addr} (hst:X.stack=X.env::X.outer) (hf:X.env.frame=some L)
  (h1:∀ (pq:List (Addr×Obj)) (σ:St) (xe:Value->Shared->Prop) (Ex:XK),V5 (CXE X.prog X.w) (X.wish xe) pq σ Ex->PSF1 (X.wish xe) pq σ s1 (t1 Ex))
  (h2:∀ (pq:List (Addr×Obj)) (σ:St) (xe:Value->Shared->Prop) (Ex:XK),V5 (CXE X.prog X.w) (X.wish xe) pq σ Ex->PSF1 (X.wish xe) pq σ s2 (t2 Ex)) (hh:HS X (h0::hs) th) :
  PS X (.Try [s1,s2] (h0::hs) [] [] pos) (Zmw (fun Ex D σ H=>t1 (Ex σ) { D with nx:=fun σ' H'=>t2 (Ex σ') D σ' H' } σ H) th):=by
 refine Znk hst hf (fun pq σ xe Ex hp=>?_) hh;intro s H D I q;refine wpAny_execs_cons (Dn (h1 pq σ xe (Ex σ) (hp σ) s H _ I q) (fun f s3 h3=>?_) fun _ _ z=>z);cases f with
 | next=>obtain ⟨σ',H',I',q'⟩:=h3; exact Zgt (h2 pq σ' xe (Ex σ') (hp σ')) s3 H' D I' q'
 | brk=>exact h3
 | cont=>exact h3
 | ret u=>exact h3
section
theorem Th {p B:Addr} {R:Result->Shared->Prop} (hA:A.handled=none) (hBi:it≠B) (fit:FpOk X pq H it) (fB:FpOk X pq H B) :
  ∀ (k:Nat) (i:Nat) (cur:Option Int) (cv:Option Value) (s:Shared) (c:Nat),ns.length=i+k->(cur=none->i<ns.length)->Inv X pq σ H s->Ql X.K H s.heap p it (ns.map V.int) i->s.heap.get? B=some (lst0 (U6 cv) c) ->
   (match cur,cv with | none,none=>True | some n,some v=>∃ t,v=Value.int n t | _,_=>False) ->
   (∀ s' u,Inv X pq σ H s'->(match mxOf cur (ns.drop i) with | none=>False | some n=>∃ t,u=Value.int n t)->R (.ok (.ret u)) s') ->
   codeAny (model X.prog X.w) A (.builtin "max.loop" ⟨[.ref it,.none,.ref B],[]⟩) R s
 | 0,i,cur,cv,s,c,hk,hn,I,src,hB,hc,h=>by
  have hname:(toString "max"++toString ".loop":String)="max.loop":=by decide
  refine codeAny_builtin PySem.F.entry_max_loop ?_;rw [Around.under_plainId PySem.F.plain_max_loop _];show wpAny _ A.in1 (seqItems? (.ref B) >>= _) _ _ s;refine Da (wpAny_seqItems hB rfl ?_);show wpAny _ A.in1 (tryCatch (pyNext (.ref it)) _ >>= _) _ _ s;refine Da (wpAny_tryCatch (Dn (Zfw (Q:=fun r s'=>r=none/\Inv X pq σ H s'/\s'.heap.get? B=some (lst0 (U6 cv) c)) (I.pin1 fB hB (by intro v; simp)) (fit.snoc hBi.symm) hA src (by simp; lia) fun s' I'=>⟨rfl,I'.unpinned,(I'.pin (B,lst0 (U6 cv) c) (by simp)).1⟩) (fun r s' hz=>?_) fun _ _ z=>z));obtain ⟨er,I',hB'⟩:=hz;subst er;have hd:ns.drop i=[]:=List.drop_eq_nil_of_le (by lia)
  rw [hd] at h;cases cur with
  | none =>
   cases cv with
   | some v=>exact hc.elim
   | none =>
    exact absurd (hn rfl) (by lia)
  | some n =>
   cases cv with
   | none=>exact hc.elim
   | some v =>
    show wpAny _ A.in1 (updateSeq B (fun _=>#[]) >>= _) _ _ _;refine Da (wpAny_updateSeq hB' rfl (Da (wpAny_letGo (Db ?_))) (Zcj _));exact h _ v (I'.turn1 fB (Heap.SameBut.update _ _ _)) hc
 | k+1,i,cur,cv,s,c,hk,hn,I,src,hB,hc,h=>by
  have hname:(toString "max"++toString ".loop":String)="max.loop":=by decide
  have hil:i<ns.length:=by lia
  refine codeAny_builtin PySem.F.entry_max_loop ?_;rw [Around.under_plainId PySem.F.plain_max_loop _];show wpAny _ A.in1 (seqItems? (.ref B) >>= _) _ _ s;refine Da (wpAny_seqItems hB rfl ?_);show wpAny _ A.in1 (tryCatch (pyNext (.ref it)) _ >>= _) _ _ s;refine Da (wpAny_tryCatch (Dn (Zcy (x:=V.int ns[i]) (Q:=fun r s'=>∃ u,r=some u/\RelV (V.int ns[i]) u/\Inv X pq σ H s'/\s'.heap.get? B=some (lst0 (U6 cv) c)/\Ql X.K H s'.heap p it (ns.map V.int) (i+1)) (I.pin1 fB hB (by intro v; simp)) (fit.snoc hBi.symm) src (by rw [J9,Ja hil]; rfl)
   fun u s' ru I' src'=>⟨u,rfl,ru,I'.unpinned,(I'.pin (B,lst0 (U6 cv) c) (by simp)).1,src'⟩) (fun r s' ⟨u,er,ru,I',hB',src'⟩=>?_) fun _ _ z=>z))
  subst er;obtain ⟨t,eu⟩:=ru;subst eu;rw [G2 hil] at h;have st:=fun (f:Obj->Obj)=>Heap.SameBut.update s'.heap B f;cases cur with
  | none =>
   cases cv with
   | some v=>exact hc.elim
   | none =>
    show wpAny _ A.in1 (updateSeq B (fun _=>#[Value.int ns[i] t,Value.int ns[i] t]) >>= _) _ _ _;refine Da (wpAny_updateSeq hB' rfl ?_ (Zcj _));rw [hname];refine Db ⟨plainId_quiet PySem.F.plain_max_loop _,Th hA hBi fit fB k (i+1) (some ns[i]) (some (Value.int ns[i] t)) _ _ (by lia) (fun z=>nomatch z) (I'.turn1 fB (st _)) (src'.at (fun ob e=>((st _).2 it hBi).trans e) id id) (Heap.get?_update_self _ hB' rfl) ⟨t,rfl⟩ ?_⟩;simpa only [mxOf] using h
  | some n =>
   cases cv with
   | none=>exact hc.elim
   | some v =>
    obtain ⟨t',hv⟩:=hc;subst hv;show wpAny _ A.in1 (tryCatch (holding [Value.int ns[i] t,Value.int ns[i] t] (richCompare .Gt (Value.int ns[i] t) (Value.int n t') >>= _)) _ >>= _) _ _ _;refine Da (wpAny_tryCatch (wpAny_holding (Da (show wpAny (model X.prog X.w) A.in1 (compareOp .Gt (Value.int ns[i] t) (Value.int n t')) _ _ _ from PyProof.Rows.gt_int ?_))));refine Da (wpAny_holding (wpAny_truthy_bool ?_));refine Da (wpAny_letGo (Db ?_))
    by_cases hlt:n<ns[i]
    ·simp only [hlt,decide_true,if_true];refine Da (wpAny_updateSeq hB' rfl (Da (wpAny_letGo ?_)) (Zcj _));rw [hname];refine Db ⟨plainId_quiet PySem.F.plain_max_loop _,Th hA hBi fit fB k (i+1) (some ns[i]) (some (Value.int ns[i] t)) _ _ (by lia) (fun z=>nomatch z) (I'.turn1 fB (st _)) (src'.at (fun ob e=>((st _).2 it hBi).trans e) id id) (Heap.get?_update_self _ hB' rfl) ⟨t,rfl⟩ ?_⟩;simpa only [mxOf,hlt,if_true] using h
    ·simp only [hlt,decide_false,G3,if_false];refine Da (wpAny_letGo ?_);rw [hname];refine Db ⟨plainId_quiet PySem.F.plain_max_loop _,Th hA hBi fit fB k (i+1) (some n) (some (Value.int n t')) _ _ (by lia) (fun z=>nomatch z) I' src' hB' ⟨t',rfl⟩ ?_⟩;simpa only [mxOf,hlt,if_false] using h
theorem Ziv (hc:X.calm=true):Ws X (.builtin "max") (fun xs H Q=>∃ (a:Addr) (ns:List Int) (n:Int),xs=[.ref a]/\SqL X.K H a (ns.map V.int)/\mxOf none ns=some n/\Q (.int n) H):=by
 intro pq s2 σ H2 xs us Q I2 r h;obtain ⟨a,ns,n,rfl,hl,en,q⟩:=h;obtain ⟨u,rfl,ru⟩:=Uy r;cases ru;have hname:(toString "max"++toString ".loop":String)="max.loop":=by decide
 refine call_function_tree PySem.F.kind_max PySem.F.plain_max PySem.F.entry_max (PySem.F.args_max1 _) ?_;show wpAny _ X.A.in1 (Builtin.Builtins.bindParams "max" ["key", "default"] 0 ⟨[],[]⟩ >>= _) _ _ s2;refine Da (wpAny_of_eq (show Builtin.Builtins.bindParams "max" ["key", "default"] 0 ⟨[],[]⟩=pure [none,none] from rfl) ?_);refine Da (Db ?_);obtain ⟨its,rv,pl,hz⟩:=I2.list hl;refine Da (wpAny_pyIter_list pl.isList ?_);refine Da (wpAny_newList ?_ (Ge _));rw [hname];have I3:Inv X pq σ H2 { s2 with heap:=(s2.heap.push { cls:=.type "list_iterator",data:=.fields #[.ref a,.int 0 0] }).push (lst0 #[] 0) }:=I2.kept (t':=s2.toks) fun b o e=>Dd _ (Dd _ e)
 have hit:FpOk X pq H2 s2.heap.objs.size:=I2.fpOk (Je _) (I2.hok.fresh (Je _));have hle:s2.heap.objs.size<=(s2.heap.push { cls:=.type "list_iterator",data:=.fields #[.ref a,.int 0 0] }).objs.size:=by rw [Heap.size_push]; exact Bn _
 have hB:=I2.fpOk (H':=H2) hle (I2.hok.fresh hle);have nB:s2.heap.objs.size≠(s2.heap.push { cls:=.type "list_iterator",data:=.fields #[.ref a,.int 0 0] }).objs.size:=by rw [Heap.size_push]; exact Gg (Fd _)
 refine Db ⟨plainId_quiet PySem.F.plain_max_loop _,Th (A:=X.A) (I2.ok.hd hc) nB hit hB ns.length 0 none none _ 0 (by lia) (fun _=>?_) I3 (.inl ⟨hl,⟨_,Dd _ (De _ rfl),rfl,rfl⟩⟩) (De _ rfl) trivial fun s' u I' hu=>?_⟩
 ·cases ns with
  | nil=>cases en
  | cons _ _=>exact Nat.succ_pos _
 ·rw [Fz,en] at hu;exists .int n,H2,I',hu,q
end
section
def rInD (K:W.Frag):R2:=fun x y H Q=>∃ (p:Addr) (ys:List V) (ds:List PyData) (d:PyData),y=.ref p/\SqL K H p ys/\DVs K H ys ds/\DV K H x d/\PyData.canLayAll0 ds=true/\d.canLay0=true/\d.depth<=60/\Q (.bl (ds.any fun z=>PyData.eqv z d)) H
theorem Zq9 (hu:X.A.units+64<cLine):OpR X (compareOp .In) (rInD X.K):=by
 intro pq s σ H x y v u Q I rx ry h;obtain ⟨p,ys,ds,d,rfl,hq,hd,hy,c1,c2,dd,q⟩:=h;cases ry;obtain ⟨its,rv,pl,_⟩:=I.list hq;obtain ⟨as,ra⟩:=dvs_reads I hd rv;obtain ⟨bs,rb⟩:=Vg I hy rx;refine SeqAt.in_listAt (fun y=>PyData.eqv (SeqAt.readOf s.heap y) d) pl.isList (SeqAt.items_eqAt (by simpa using ra) rb c1 c2 (by have:=Nat.min_le_right (PyData.depthAll ds) d.depth; lia)) ⟨.bl _,H,I,rfl,?_⟩;have em:=SeqAt.readsAll_map ds its as c1 ra;have ec:its.any (fun y=>PyData.eqv (SeqAt.readOf s.heap y) d)=ds.any fun z=>PyData.eqv z d:=by
  rw [<- em,List.any_map];rfl
 rw [show its.toArray.any (fun y=>PyData.eqv (SeqAt.readOf s.heap y) d)=its.any (fun y=>PyData.eqv (SeqAt.readOf s.heap y) d) by simp,ec];exact q
end
end L2
namespace L3
open PySem L2
structure Cf where
 c:Addr
 k:W.Frag
inductive D where
 | non | bl (b:Bool) | int (i:Int) | str (x:Str) | ty (n:String) | at (a:Addr)
 | tup (xs:List D) | lst (xs:List D) | frz (xs:List D) | dct (kvs:List (Key×D)) | dcT (kvs:List (List Key×D))
 | code (S:List Pr) | cell (k:Nat) | exc (C:Addr) (fs:List (Str×D))
variable {ds:List L3.D}
inductive MO where
 | lst (xs:List D) | dct (kvs:List (Key×D)) | dcT (kvs:List (List Key×D)) | drK (kvs:List (Key×D)) | drT (kvs:List (List Key×D)) | dfT (o:Obj) (vs:List (List Key×V)) (kvs:List (List Key×D)) | dfK (o:Obj) (vs:List (Key×V)) (kvs:List (Key×D)) | ins (C:Addr) (fs:List (Str×D)) | hand | tab (P:Addr) (pos:Pos) (q:Str)
variable {m':L3.MO}
abbrev Mem:=List MO
mutual
inductive Rep (C:Cf) (I:Hp) (α:List Addr):V->D->Prop where
 | non:Rep C I α .non .non
 | bl (b:Bool):Rep C I α (.bl b) (.bl b)
 | int (i:Int):Rep C I α (.int i) (.int i)
 | str (x:Str):Rep C I α (.str x) (.str x)
 | ty (n:String):Rep C I α (.ty n) (.ty n)
 | at (a:Addr):Rep C I α (.ref a) (.at a)
 | tup {a:Addr} {vs:List V} {ds:List D}:I a=some (.tup vs)->Reps C I α vs ds->Rep C I α (.ref a) (.tup ds)
 | lst {a:Addr} {vs:List V} {ds:List D}:I a=some (.lst vs)->Reps C I α vs ds->Rep C I α (.ref a) (.lst ds)
 | frz {a:Addr} {vs:List V} {ds:List D}:SqL C.k I a vs->Reps C I α vs ds->Rep C I α (.ref a) (.frz ds)
 | dct {a:Addr} {vs:List (Key×V)} {ds:List (Key×D)}:I a=some (.dK vs)->RepK C I α vs ds->Rep C I α (.ref a) (.dct ds)
 | dcT {a:Addr} {vs:List (List Key×V)} {ds:List (List Key×D)}:I a=some (.dT vs)->RepT C I α vs ds->Rep C I α (.ref a) (.dcT ds)
 | code {x:Addr} {S:List Pr}:Ux C.c I x S->Rep C I α (.ref x) (.code S)
 | cell {a:Addr} {k:Nat}:α[k]?=some a->Rep C I α (.ref a) (.cell k)
 | exc {ea Ce:Addr} {d:Option Addr} {vs:List (Str×V)} {fs:List (Str×D)}:I ea=some (.ext (excP ea Ce d))->XD I d vs->RepF C I α vs fs->Rep C I α (.ref ea) (.exc Ce fs)
inductive Reps (C:Cf) (I:Hp) (α:List Addr):List V->List D->Prop where
 | nil:Reps C I α [] []
 | cons {v:V} {d:D} {vs:List V} {ds:List D}:Rep C I α v d->Reps C I α vs ds->Reps C I α (v::vs) (d::ds)
inductive RepK (C:Cf) (I:Hp) (α:List Addr):List (Key×V)->List (Key×D)->Prop where
 | nil:RepK C I α [] []
 | cons {k:Key} {v:V} {d:D} {vs:List (Key×V)} {ds:List (Key×D)}:Rep C I α v d->RepK C I α vs ds->RepK C I α ((k,v)::vs) ((k,d)::ds)
inductive RepF (C:Cf) (I:Hp) (α:List Addr):List (Str×V)->List (Str×D)->Prop where
 | nil:RepF C I α [] []
 | cons {k:Str} {v:V} {d:D} {vs:List (Str×V)} {ds:List (Str×D)}:Rep C I α v d->RepF C I α vs ds->RepF C I α ((k,v)::vs) ((k,d)::ds)
inductive RepT (C:Cf) (I:Hp) (α:List Addr):List (List Key×V)->List (List Key×D)->Prop where
 | nil:RepT C I α [] []
 | cons {k:List Key} {v:V} {d:D} {vs:List (List Key×V)} {ds:List (List Key×D)}:Rep C I α v d->RepT C I α vs ds->RepT C I α ((k,v)::vs) ((k,d)::ds)
end
section
variable {C:Cf} 
def Zbr {k:Nat} {a:Addr} (p:α<+:α') (h:α[k]?=some a):α'[k]?=some a:=by
 obtain ⟨t,rfl⟩:=p;obtain ⟨hk,_⟩:=Jh.mp h;rw [Jr hk];exact h
mutual
theorem Rep.mono (s:Same I I') (p:α<+:α'):∀ {v:V} {d:D},Rep C I α v d->Rep C I' α' v d:=by
 intro _ _ h;cases h with
 | non=>exact .non
 | bl b=>exact .bl b
 | int i=>exact .int i
 | str x=>exact .str x
 | ty n=>exact .ty n
 | «at» a=>exact .at a
 | tup e r=>exact .tup (s _ _ e) (Reps.mono s p r)
 | lst e r=>exact .lst (s _ _ e) (Reps.mono s p r)
 | frz e r=>exact .frz (s.seq e) (Reps.mono s p r)
 | dct e r=>exact .dct (s _ _ e) (RepK.mono s p r)
 | dcT e r=>exact .dcT (s _ _ e) (RepT.mono s p r)
 | code h=>exact .code (h.same s)
 | cell e=>exact .cell (Zbr p e)
 | exc e f r=>exact .exc (s _ _ e) (f.mono s) (RepF.mono s p r)
theorem Reps.mono (s:Same I I') (p:α<+:α'):∀ {vs:List V} {ds:List D},Reps C I α vs ds->Reps C I' α' vs ds:=by
 intro _ _ h;cases h with
 | nil=>exact .nil
 | cons h r=>exact .cons (Rep.mono s p h) (Reps.mono s p r)
theorem RepK.mono (s:Same I I') (p:α<+:α'):∀ {vs:List (Key×V)} {ds:List (Key×D)},RepK C I α vs ds->RepK C I' α' vs ds:=by
 intro _ _ h;cases h with
 | nil=>exact .nil
 | cons h r=>exact .cons (Rep.mono s p h) (RepK.mono s p r)
theorem RepF.mono (s:Same I I') (p:α<+:α'):∀ {vs:List (Str×V)} {ds:List (Str×D)},RepF C I α vs ds->RepF C I' α' vs ds:=by
 intro _ _ h;cases h with
 | nil=>exact .nil
 | cons h r=>exact .cons (Rep.mono s p h) (RepF.mono s p r)
theorem RepT.mono (s:Same I I') (p:α<+:α'):∀ {vs:List (List Key×V)} {ds:List (List Key×D)},RepT C I α vs ds->RepT C I' α' vs ds:=by
 intro _ _ h;cases h with
 | nil=>exact .nil
 | cons h r=>exact .cons (Rep.mono s p h) (RepT.mono s p r)
end
theorem Reps.length:∀ {vs:List V} {ds:List D},Reps C I α vs ds->vs.length=ds.length:=by
 intro _ _ hz9;cases hz9 with
 | nil=>
  exact rfl
 | cons _ r=>
  exact by rw [Jz,Jz,Reps.length r]
theorem Reps.get:∀ {vs:List V} {ds:List D} {i:Nat} {d:D},Reps C I α vs ds->ds[i]?=some d->∃ v,vs[i]?=some v/\Rep C I α v d
 | _,_,_,_,.nil,e=>by simp at e
 | _,_,0,_,.cons r _,e=>by simp at e; subst e;exists ·,r
 | _,_,i+1,d,.cons _ t,e=>by
  obtain ⟨u,h1,h2⟩:=Reps.get (i:=i) (d:=d) t (by simpa using e);exists u,by simpa using h1,h2
theorem Reps.at:∀ {vs:List V} {ds:List D} {i:Nat},Reps C I α vs ds->(h1:i<vs.length)->(h2:i<ds.length)->Rep C I α vs[i] ds[i]:=fun {vs ds i} r h1 h2=>by
 obtain ⟨v,e,z⟩:=r.get (Ja h2);rw [Ja h1] at e;cases e;exact z
theorem Reps.app:∀ {vs ws:List V} {ds es:List D},Reps C I α vs ds->Reps C I α ws es->Reps C I α (vs++ws) (ds++es):=by
 intro _ _ _ _ hz9 s;cases hz9 with
 | nil=>
  exact s
 | cons r t=>
  exact .cons r (Reps.app t s)
def Reps.one {v:V} {d:D} (h:Rep C I α v d):Reps C I α [v] [d]:=.cons h .nil
theorem Reps.take:∀ {vs:List V} {ds:List D} (n:Nat),Reps C I α vs ds->Reps C I α (vs.take n) (ds.take n)
 | _,_,0,_=>.nil
 | _,_,_+1,.nil=>.nil
 | _,_,n+1,.cons r t=>.cons r (Reps.take n t)
theorem Reps.drop:∀ {vs:List V} {ds:List D} (n:Nat),Reps C I α vs ds->Reps C I α (vs.drop n) (ds.drop n)
 | _,_,0,r=>r
 | _,_,_+1,.nil=>.nil
 | _,_,n+1,.cons _ t=>Reps.drop n t
theorem Reps.set {v:V} {d:D} (r:Rep C I α v d):∀ {vs:List V} {ds:List D} (i:Nat),Reps C I α vs ds->Reps C I α (vs.set i v) (ds.set i d)
 | _,_,_,.nil=>.nil
 | _,_,0,.cons _ t=>.cons r t
 | _,_,i+1,.cons q t=>.cons q (Reps.set r i t)
def Reps.rev (h:Reps C I α vs ds):Reps C I α vs.reverse ds.reverse:=by
 have go:∀ {vs ws:List V} {ds es:List D},Reps C I α vs ds->Reps C I α ws es->Reps C I α (vs.reverse++ws) (ds.reverse++es):=by
  intro vs
  induction vs with
  | nil=>intro ws ds es h1 h2; cases h1; exact h2
  | cons v vs ih =>
   intro ws ds es h1 h2;cases h1 with
   | cons a b =>
    rw [Bq,Gd,Bq,Gd];exact ih b (.cons a h2)
 have:=go h .nil;rwa [J0,J0] at this
theorem Reps.ints:∀ (ns:List Int),Reps C I α (ns.map V.int) (ns.map D.int)
 | []=>.nil
 | n::r=>.cons (.int n) (Reps.ints r)
theorem Reps.of_ints:∀ {vs:List V} (ns:List Int),Reps C I α vs (ns.map D.int)->vs=ns.map V.int
 | _,[],h=>by cases h; rfl
 | _,n::r,h=>by
  cases h with
  | cons a b =>
   cases a;rw [Reps.of_ints r b];rfl
end
variable {M M':L3.Mem}
def MoAt (C:Cf) (I:Hp) (α:List Addr) (H:Hp) (a:Addr):MO->Prop
 | .lst ds=>∃ vs,H a=some (.lst vs)/\Reps C I α vs ds
 | .dct ds=>∃ vs,H a=some (.dK vs)/\RepK C I α vs ds
 | .dcT ds=>∃ vs,H a=some (.dT vs)/\RepT C I α vs ds
 | .drK ds=>∃ vs,Rd H a (.dK vs)/\RepK C I α vs ds
 | .drT ds=>∃ vs,Rd H a (.dT vs)/\RepT C I α vs ds
 | .dfT o vs ds=>H a=some (.frz o (.dT vs))/\RepT C I α vs ds
 | .dfK o vs ds=>H a=some (.frz o (.dK vs))/\RepK C I α vs ds
 | .ins Cl fs=>∃ dx vs,H a=some (.ins Cl dx vs)/\Paired (fun (p:Str×V) (q:Str×D)=>p.1=q.1/\Rep C I α p.2 q.2) vs fs
 | .hand=>∃ (d k:Int) (c:Addr) (cs:List Int),H a=some (.lst [.int d,.int k,.ref c])/\I c=some (.lst (cs.map V.int))/\cs≠[]/\cs.length<=63/\0<=d/\0<=k/\∀ c∈cs,0<=c
 | .tab P pos q=>a=P/\∃ ps,H a=some (.tbl ps)/\TriplesOk ps.toList/\(codeAmong pos ps.toList=none\/∃ c,codeAmong pos ps.toList=some (.ref c)/\I c=some (codeφ c q))
theorem MoAt.some {C:Cf} {a:Addr} {m:MO} (h:MoAt C I α H a m):∃ o,H a=some o:=by
 cases m with
 | lst ds=>obtain ⟨vs,e,_⟩:=h;exists _,e
 | dct ds=>obtain ⟨vs,e,_⟩:=h;exists _,e
 | dcT ds=>obtain ⟨vs,e,_⟩:=h;exists _,e
 | drK ds=>obtain ⟨vs,e,_⟩:=h; rcases e with e | ⟨o,e⟩ <;> exact ⟨_,e⟩
 | drT ds=>obtain ⟨vs,e,_⟩:=h; rcases e with e | ⟨o,e⟩ <;> exact ⟨_,e⟩
 | dfT o vs ds=>exact ⟨_,h.1⟩
 | dfK o vs ds=>exact ⟨_,h.1⟩
 | ins Cl fs=>obtain ⟨dx,vs,e,_⟩:=h;exists _,e
 | hand=>obtain ⟨d,k,c,cs,e,_⟩:=h;exists _,e
 | tab P pos q=>obtain ⟨_,ps,e,_⟩:=h;exists _,e
theorem MoAt.mono {C:Cf} {a:Addr} {m:MO} (h:MoAt C I α H a m) (s:Same I I') (p:α<+:α') (e:H' a=H a):MoAt C I' α' H' a m:=by
 cases m with
 | lst ds=>obtain ⟨vs,e1,r⟩:=h;exists vs,e.trans e1,r.mono s p
 | dct ds=>obtain ⟨vs,e1,r⟩:=h;exists vs,e.trans e1,r.mono s p
 | dcT ds=>obtain ⟨vs,e1,r⟩:=h;exists vs,e.trans e1,r.mono s p
 | drK ds=>obtain ⟨vs,e1,r⟩:=h;exists vs,e1.imp (fun z=>e.trans z) (fun ⟨o,z⟩=>⟨o,e.trans z⟩),r.mono s p
 | drT ds=>obtain ⟨vs,e1,r⟩:=h;exists vs,e1.imp (fun z=>e.trans z) (fun ⟨o,z⟩=>⟨o,e.trans z⟩),r.mono s p
 | dfT o vs ds=>exact ⟨e.trans h.1,h.2.mono s p⟩
 | dfK o vs ds=>exact ⟨e.trans h.1,h.2.mono s p⟩
 | ins Cl fs=>obtain ⟨dx,vs,e1,r⟩:=h;exists dx,vs,e.trans e1,Paired.mapP r fun _ _ z=>⟨z.1,z.2.mono s p⟩
 | hand=>obtain ⟨d,k,c,cs,e1,e2,r⟩:=h;exists d,k,c,cs,e.trans e1,s _ _ e2,r
 | tab P pos q =>
  obtain ⟨eP,ps,e1,t,r⟩:=h;exists eP,ps,e.trans e1,t,?_;rcases r with r | ⟨c,r1,r2⟩
  ·exact .inl r
  ·exact .inr ⟨c,r1,s _ _ r2⟩
abbrev X3:=Addr->List (Str×D)->Mem->Prop
structure Anc where
 i:Hp
 a:List Addr
 xe:XK
 kx:X3
variable {Z Z':L3.Anc}
structure Rel (C:Cf) (Z:Anc) (I:Hp) (α:List Addr) (H:Hp) (M:Mem):Prop where
 ai:Same Z.i I
 aa:Z.a<+:α
 sub:Same I H
 len:α.length=M.length
 nd:α.Nodup
 cel:∀ (k:Nat) (a:Addr) (m:MO),α[k]?=some a->M[k]?=some m->MoAt C I α H a m/\I a=none
section
variable {C:Cf} 
def Rel.get (R:Rel C Z I α H M) {k:Nat} {m:MO} (h:M[k]?=some m):∃ a,α[k]?=some a/\MoAt C I α H a m/\I a=none:=by
 obtain ⟨hk,_⟩:=Jh.mp h;have hk':k < α.length:=by rw [R.len]; exact hk
 exists α[k],Ja hk',R.cel k _ m (Ja hk') h
def Rel.cellNe (R:Rel C Z I α H M) {k:Nat} {a p:Addr} (h:α[k]?=some a) (hp:H p=none):a≠p:=by
 obtain ⟨hk,_⟩:=Jh.mp h;have hk':k<M.length:=by rw [<- R.len]; exact hk
 obtain ⟨o,e⟩:=(R.cel k a _ h (Ja hk')).1.some;exact Zp e hp
def Rel.new (R:Rel C Z I α H M) {p:Addr} (hp:H p=none):Rel C Z (upd I p o) α (upd H p o) M/\Same I (upd I p o)/\(upd I p o) p=some o:=by
 have ip:I p=none:=R.sub.free hp;have s:Same I (upd I p o):=Zb ip;exists ⟨R.ai.trans s,R.aa,fun b u h=>?_,R.len,R.nd,fun k a m h1 h2=>?_⟩,s,Zd
 ·by_cases e:b=p
  ·subst e;rw [Zd] at h ⊢;exact h
  ·rw [Zl e] at h ⊢;exact R.sub b u h
 ·obtain ⟨a1,a2⟩:=R.cel k a m h1 h2;have ne:=R.cellNe h1 hp;exact ⟨a1.mono s (Jd _) (Zl ne),by rw [Zl ne]; exact a2⟩
theorem Rel.cell (R:Rel C Z I α H M) {p:Addr} {o:HO} {m:MO} (hp:H p=none) (hm:∀ H',H' p=some o->MoAt C I α H' p m):Rel C Z I (α++[p]) (upd H p o) (M++[m])/\α<+:(α++[p])/\(α++[p])[M.length]?=some p:=by
 have ip:I p=none:=R.sub.free hp;refine ⟨⟨R.ai,R.aa.trans (Gb _ _),fun b u h=>?_,by rw [Jc,Jc,R.len]; rfl,?_,fun k a x h1 h2=>?_⟩,Gb _ _,by rw [<- R.len]; simp⟩
 ·have ne:b≠p:=fun e=>by rw [e,ip] at h; cases h
  rw [Zl ne];exact R.sub b u h
 ·rw [Gv];exists R.nd,by simp,fun a ha b hb=>?_;obtain ⟨k,hk,rfl⟩:=Js ha;rw [Jj.mp hb];exact R.cellNe (Ja hk) hp
 ·by_cases hk:k < α.length
  ·rw [Jr hk] at h1;rw [Jr (by rw [<- R.len]; exact hk)] at h2;obtain ⟨a1,a2⟩:=R.cel k a x h1 h2;exists a1.mono (.refl _) (Gb _ _) (Zl (R.cellNe h1 hp)),a2
  ·obtain ⟨hk2,_⟩:=Jh.mp h1;rw [Jc,Gs] at hk2;have e:k=α.length:=by lia
   subst e;have e1:(α++[p])[α.length]?=some p:=by simp
   have e2:(M++[m])[α.length]?=some m:=by rw [R.len]; simp
   rw [e1] at h1;rw [e2] at h2;cases h1;cases h2;exists (hm _ Zd).mono (.refl _) (Gb _ _) rfl,ip
def Rel.put (R:Rel C Z I α H M) {k:Nat} {a:Addr} {m:MO} (ha:α[k]?=some a) (hm:∀ H',H' a=some o->MoAt C I α H' a m):Rel C Z I α (upd H a o) (M.set k m):=by
 obtain ⟨hk,ea⟩:=Jh.mp ha;have hkM:k<M.length:=by rw [<- R.len]; exact hk
 have ia:I a=none:=(R.cel k a _ ha (Ja hkM)).2;exists R.ai,R.aa,fun b u h=>?_,by rw [Go]; exact R.len,R.nd,fun j b x h1 h2=>?_
 ·have ne:b≠a:=fun e=>by rw [e,ia] at h; cases h
  rw [Zl ne];exact R.sub b u h
 ·by_cases e:k=j
  ·subst e;rw [ha] at h1;cases h1;rw [Jy hkM] at h2;cases h2;exists hm _ Zd,ia
  ·rw [Gk e] at h2;obtain ⟨a1,a2⟩:=R.cel j b x h1 h2;obtain ⟨hj,eb⟩:=Jh.mp h1;have ne:b≠a:=fun z=>e (by
    rw [<- ea,<- eb] at z;exact ((Bl R.nd).mp z).symm)
   exists a1.mono (.refl _) (Jd _) (Zl ne),a2
end
abbrev Ev:=List (Option D)
variable {ρ:L3.Ev}
abbrev K3:=D->Mem->Prop
abbrev TE3:=Ev->Mem->K3->Prop
variable {uo ub:L3.TE3}
abbrev TT3:=Ev->Mem->(Bool->Mem->Prop)->Prop
abbrev TA3:=Ev->Mem->(List D->Mem->Prop)->Prop
abbrev TO3:=Ev->Mem->(Option Int->Mem->Prop)->Prop
abbrev R3:=D->D->Mem->K3->Prop
structure Ends3 where
 nx:Ev->Mem->Prop
 rt:K3
 bk:Ev->Mem->Prop:=fun _ _=>False
 ct:Ev->Mem->Prop:=fun _ _=>False
abbrev TS3:=Ends3->Ev->Mem->Prop
abbrev TG3:=D->Ev->Mem->(Ev->Mem->Prop)->Prop
abbrev TGs3:=List D->Ev->Mem->(Ev->Mem->Prop)->Prop
def RepE (C:Cf) (I:Hp) (α:List Addr) (σ:St) (ρ:Ev):Prop:=σ.length=ρ.length/\∀ (i:Nat) (d:D),ρ[i]?=some (some d)->∃ v,σ[i]?=some (some v)/\Rep C I α v d
def RepE.mono {C:Cf} (h:RepE C I α σ ρ) (s:Same I I') (p:α<+:α'):RepE C I' α' σ ρ :=
 ⟨h.1,fun i d e=>let ⟨v,a,b⟩:=h.2 i d e; ⟨v,a,b.mono s p⟩⟩
theorem RepE.set {C:Cf} (h:RepE C I α σ ρ) {v:V} {d:D} (r:Rep C I α v d) (i:Nat):RepE C I α (σ.set i (some v)) (ρ.set i (some d)):=by
 exists by rw [Go,Go]; exact h.1,fun j e q=>?_
 by_cases z:i=j
 ·subst z
  by_cases hl:i < ρ.length
  ·rw [Jy hl] at q;cases q;exists v,Jy (by rw [h.1]; exact hl),r
  ·rw [List.getElem?_eq_none (by rw [Go]; lia)] at q;cases q
 ·rw [Gk z] at q ⊢;exact h.2 j e q
def Fin (C:Cf) (Z:Anc) (I:Hp) (α:List Addr) (K:K3) (Q:VK):Prop:=∀ v d I' α' H' M',Same I I'->α<+:α'->Rel C Z I' α' H' M'->Rep C I' α' v d->K d M'->Q v H'
def Fin.mono {C:Cf} {K:K3} (h:Fin C Z I α K Q) (s:Same I I') (p:α<+:α'):Fin C Z I' α' K Q:=fun v d I2 α2 H2 M2 s2 p2=>h v d I2 α2 H2 M2 (s.trans s2) (p.trans p2)
def SimE (C:Cf) (Z:Anc) (t:TE) (u:TE3):Prop:=∀ I α σ H ρ M (K:K3) (Q:VK),Rel C Z I α H M->RepE C I α σ ρ->u ρ M K->Fin C Z I α K Q->t σ H Q
def SimT (C:Cf) (Z:Anc) (t:TT) (u:TT3):Prop:=∀ I α σ H ρ M (K:Bool->Mem->Prop) (Q:Bool->Hp->Prop),Rel C Z I α H M->RepE C I α σ ρ->u ρ M K ->
 (∀ b I' α' H' M',Same I I'->α<+:α'->Rel C Z I' α' H' M'->K b M'->Q b H')->t σ H Q
def SimA (C:Cf) (Z:Anc) (t:TA) (u:TA3):Prop:=∀ I α σ H ρ M (K:List D->Mem->Prop) (Q:List V->Hp->Prop),Rel C Z I α H M->RepE C I α σ ρ->u ρ M K ->
 (∀ vs ds I' α' H' M',Same I I'->α<+:α'->Rel C Z I' α' H' M'->Reps C I' α' vs ds->K ds M'->Q vs H')->t σ H Q
def SimO (C:Cf) (Z:Anc) (t:TO) (u:TO3):Prop:=∀ I α σ H ρ M (K:Option Int->Mem->Prop) (Q:Option Int->Hp->Prop),Rel C Z I α H M->RepE C I α σ ρ->u ρ M K ->
 (∀ b I' α' H' M',Same I I'->α<+:α'->Rel C Z I' α' H' M'->K b M'->Q b H')->t σ H Q
def SimR (C:Cf) (Z:Anc) (r:R2) (u:R3):Prop:=∀ I α H M x y d e (K:K3) (Q:VK),Rel C Z I α H M->Rep C I α x d->Rep C I α y e->u d e M K->Fin C Z I α K Q->r x y H Q
def SimU (C:Cf) (Z:Anc) (r:V->Hp->VK->Prop) (u:D->Mem->K3->Prop):Prop:=∀ I α H M x d (K:K3) (Q:VK),Rel C Z I α H M->Rep C I α x d->u d M K->Fin C Z I α K Q->r x H Q
def SimC (C:Cf) (Z:Anc) (r:List V->Hp->VK->Prop) (u:List D->Mem->K3->Prop):Prop:=∀ I α H M xs ds (K:K3) (Q:VK),Rel C Z I α H M->Reps C I α xs ds->u ds M K->Fin C Z I α K Q->r xs H Q
def SimL (C:Cf) (Z:Anc) (r:V->Option Int->Option Int->Hp->VK->Prop) (u:D->Option Int->Option Int->Mem->K3->Prop):Prop:=∀ I α H M x d lo hi (K:K3) (Q:VK),Rel C Z I α H M->Rep C I α x d->u d lo hi M K->Fin C Z I α K Q->r x lo hi H Q
def FinS (C:Cf) (Z:Anc) (I:Hp) (α:List Addr) (K:Ev->Mem->Prop) (Q:St->Hp->Prop):Prop:=∀ I' α' σ' H' ρ' M',Same I I'->α<+:α'->Rel C Z I' α' H' M'->RepE C I' α' σ' ρ'->K ρ' M'->Q σ' H'
def FinS.mono {C:Cf} {K:Ev->Mem->Prop} {Q:St->Hp->Prop} (h:FinS C Z I α K Q) (s:Same I I') (p:α<+:α'):FinS C Z I' α' K Q:=fun I2 α2 σ2 H2 ρ2 M2 s2 p2=>h I2 α2 σ2 H2 ρ2 M2 (s.trans s2) (p.trans p2)
structure FinD (C:Cf) (Z:Anc) (I:Hp) (α:List Addr) (E:Ends3) (D':Ends):Prop where
 nx:FinS C Z I α E.nx D'.nx
 rt:Fin C Z I α E.rt D'.rt
 bk:FinS C Z I α E.bk D'.bk
 ct:FinS C Z I α E.ct D'.ct
def FinD.mono {C:Cf} {E:Ends3} {D':Ends} (h:FinD C Z I α E D') (s:Same I I') (p:α<+:α'):FinD C Z I' α' E D':=⟨h.nx.mono s p,h.rt.mono s p,h.bk.mono s p,h.ct.mono s p⟩
def SimS (C:Cf) (Z:Anc) (t:TS) (u:TS3):Prop:=∀ I α σ H ρ M (E:Ends3) (D':Ends),Rel C Z I α H M->RepE C I α σ ρ->u E ρ M->FinD C Z I α E D'->t D' σ H
def SimG (C:Cf) (Z:Anc) (t:TG) (u:TG3):Prop:=∀ I α σ H ρ M v d (K:Ev->Mem->Prop) (Q:St->Hp->Prop),Rel C Z I α H M->RepE C I α σ ρ->Rep C I α v d->u d ρ M K->FinS C Z I α K Q->t v σ H Q
def Zlb (C:Cf) (Z:Anc) (t:TGs) (u:TGs3):Prop:=∀ I α σ H ρ M vs ds (K:Ev->Mem->Prop) (Q:St->Hp->Prop),Rel C Z I α H M->RepE C I α σ ρ->Reps C I α vs ds->u ds ρ M K->FinS C Z I α K Q->t vs σ H Q
section
variable {C:Cf} {ua:TE3} {tA tB':TT} {uA uB:TT3} {t:TA} {u:TA3}
def uVar (i:Nat):TE3:=fun ρ M K=>∃ d,ρ[i]?=some (some d)/\K d M
def Zg (i:Nat):SimE C Z (tVar i) (uVar i):=fun I α σ H ρ M K Q R E h k=>by
 obtain ⟨d,e,h⟩:=h;obtain ⟨v,e2,r⟩:=E.2 i d e;exists v,e2,k v d I α H M (.refl _) (Jd _) R r h
def uC (d:D):TE3:=fun _ M K=>K d M
def Dv {v:V} {d:D} (r:∀ I α,Rep C I α v d):SimE C Z (tC v) (uC d):=fun I α σ H ρ M K Q R E h k=>k v d I α H M (.refl _) (Jd _) R (r I α) h
def Z3 {i:Int}:SimE C Z (tC (.int i)) (uC (.int i)):=Dv fun _ _=>.int i
def s_bl {i:Bool}:SimE C Z (tC (.bl i)) (uC (.bl i)):=Dv fun _ _=>.bl i
def Zm7:SimE C Z (tC .non) (uC .non):=Dv fun _ _=>.non
def Ny {i:Str}:SimE C Z (tC (.str i)) (uC (.str i)):=Dv fun _ _=>.str i
def s_ty {i:String}:SimE C Z (tC (.ty i)) (uC (.ty i)):=Dv fun _ _=>.ty i
def uOp (u:R3) (ua ub:TE3):TE3:=fun ρ M K=>ua ρ M fun d M1=>ub ρ M1 fun e M2=>u d e M2 K
def s_op {u:R3} (hr:SimR C Z r u) (ha:SimE C Z ta ua) (hb:SimE C Z tb ub):SimE C Z (tOp r ta tb) (uOp u ua ub):=fun I α σ H ρ M K Q R E h k =>
 ha I α σ H ρ M _ _ R E h fun v d I1 α1 H1 M1 s1 p1 R1 r1 h1 =>
  hb I1 α1 σ H1 ρ M1 _ _ R1 (E.mono s1 p1) h1 fun w e I2 α2 H2 M2 s2 p2 R2 r2 h2 =>
   hr I2 α2 H2 M2 v w d e K Q R2 (r1.mono s2 p2) r2 h2 (k.mono (s1.trans s2) (p1.trans p2))
def uUn (u:D->Mem->K3->Prop) (ua:TE3):TE3:=fun ρ M K=>ua ρ M fun d M1=>u d M1 K
def s_un {r:V->Hp->VK->Prop} {u:D->Mem->K3->Prop} (hr:SimU C Z r u) (ha:SimE C Z ta ua):SimE C Z (tUn r ta) (uUn u ua):=fun I α σ H ρ M K Q R E h k =>
 ha I α σ H ρ M _ _ R E h fun v d I1 α1 H1 M1 s1 p1 R1 r1 h1=>hr I1 α1 H1 M1 v d K Q R1 r1 h1 (k.mono s1 p1)
def D.isN:D->Bool | .non=>true | _=>false
def Zoi {v:V} {d:D} (h:Rep C I α v d):decide (v=.non)=d.isN:=by cases h <;> simp [D.isN]
def Zs7 (ua:TE3):TE3:=fun ρ M K=>ua ρ M fun d M1=>K (.bl (!d.isN)) M1
def Zf9 (ha:SimE C Z ta ua):SimE C Z (Zp6 ta) (Zs7 ua):=fun I α σ H ρ M K Q R E h k =>
 ha I α σ H ρ M _ _ R E h fun v d I1 α1 H1 M1 s1 p1 R1 r1 h1=>by
  rw [Zoi r1];exact k _ _ I1 α1 H1 M1 s1 p1 R1 (.bl _) h1
def uB3 (ua:TE3):TT3:=fun ρ M K=>ua ρ M fun d M1=>∃ c,d=.bl c/\K c M1
def s_b (ha:SimE C Z ta ua):SimT C Z (tB ta) (uB3 ua):=fun I α σ H ρ M K Q R E h k =>
 ha I α σ H ρ M _ _ R E h fun v d I1 α1 H1 M1 s1 p1 R1 r1 h1=>by
  obtain ⟨c,e,h1⟩:=h1;subst e;cases r1;exists c,rfl,k c I1 α1 H1 M1 s1 p1 R1 h1
def X1 (ha:SimE C Z ta ua):SimT C Z (Zp3 ta) (uB3 ua):=s_b ha
def uAnd (uA uB:TT3):TT3:=fun ρ M K=>uA ρ M fun c M1=>if c=true then uB ρ M1 K else K false M1
def uOr (uA uB:TT3):TT3:=fun ρ M K=>uA ρ M fun c M1=>if c=true then K true M1 else uB ρ M1 K
def uNot (uA:TT3):TT3:=fun ρ M K=>uA ρ M fun c M1=>K (!c) M1
def Zqp (ha:SimT C Z tA uA) (hb:SimT C Z tB' uB):SimT C Z (tAnd tA tB') (uAnd uA uB):=fun I α σ H ρ M K Q R E h k =>
 ha I α σ H ρ M _ _ R E h fun c I1 α1 H1 M1 s1 p1 R1 h1=>by
  cases c with
  | true =>
   rw [Dh rfl] at h1 ⊢;exact hb I1 α1 σ H1 ρ M1 _ _ R1 (E.mono s1 p1) h1 fun b I2 α2 H2 M2 s2 p2 R2 h2=>k b I2 α2 H2 M2 (s1.trans s2) (p1.trans p2) R2 h2
  | false =>
   rw [Dg Ju] at h1 ⊢;exact k false I1 α1 H1 M1 s1 p1 R1 h1
def s_or (ha:SimT C Z tA uA) (hb:SimT C Z tB' uB):SimT C Z (tOr tA tB') (uOr uA uB):=fun I α σ H ρ M K Q R E h k =>
 ha I α σ H ρ M _ _ R E h fun c I1 α1 H1 M1 s1 p1 R1 h1=>by
  cases c with
  | false =>
   rw [Dg Ju] at h1 ⊢;exact hb I1 α1 σ H1 ρ M1 _ _ R1 (E.mono s1 p1) h1 fun b I2 α2 H2 M2 s2 p2 R2 h2=>k b I2 α2 H2 M2 (s1.trans s2) (p1.trans p2) R2 h2
  | true =>
   rw [Dh rfl] at h1 ⊢;exact k true I1 α1 H1 M1 s1 p1 R1 h1
def Zm6 (ha:SimT C Z tA uA):SimT C Z (tNot tA) (uNot uA):=fun I α σ H ρ M K Q R E h k =>
 ha I α σ H ρ M _ _ R E h fun c I1 α1 H1 M1 s1 p1 R1 h1=>k _ I1 α1 H1 M1 s1 p1 R1 h1
def uNil:TA3:=fun _ M K=>K [] M
def Ztj (ua:TE3) (u:TA3):TA3:=fun ρ M K=>ua ρ M fun d M1=>u ρ M1 fun ds M2=>K (d::ds) M2
def Zs:SimA C Z tNil uNil:=fun I α σ H ρ M K Q R E h k=>k [] [] I α H M (.refl _) (Jd _) R .nil h
def Zf (ha:SimE C Z ta ua) (hr:SimA C Z t u):SimA C Z (Zmx ta t) (Ztj ua u):=fun I α σ H ρ M K Q R E h k =>
 ha I α σ H ρ M _ _ R E h fun v d I1 α1 H1 M1 s1 p1 R1 r1 h1 =>
  hr I1 α1 σ H1 ρ M1 _ _ R1 (E.mono s1 p1) h1 fun vs ds I2 α2 H2 M2 s2 p2 R2 r2 h2 =>
   k (v::vs) (d::ds) I2 α2 H2 M2 (s1.trans s2) (p1.trans p2) R2 (.cons (r1.mono s2 p2) r2) h2
def uTup (u:TA3):TE3:=fun ρ M K=>u ρ M fun ds M1=>ds.length<=sizeLine/\K (.tup ds) M1
def Sk (ha:SimA C Z t u):SimE C Z (tTup t) (uTup u):=fun I α σ H ρ M K Q R E h k =>
 ha I α σ H ρ M _ _ R E h fun vs ds I1 α1 H1 M1 s1 p1 R1 r1 h1=>by
  exists by rw [r1.length]; exact h1.1,fun p hp=>?_;obtain ⟨R2,s2,e2⟩:=R1.new (o:=.tup vs) hp;exact k _ _ _ α1 _ M1 (s1.trans s2) p1 R2 (.tup e2 (r1.mono s2 (Jd _))) h1.2
def uLst (u:TA3):TE3:=fun ρ M K=>u ρ M fun ds M1=>ds.length<=sizeLine/\K (.lst ds) M1
def Vr (ha:SimA C Z t u):SimE C Z (tLst t) (uLst u):=fun I α σ H ρ M K Q R E h k =>
 ha I α σ H ρ M _ _ R E h fun vs ds I1 α1 H1 M1 s1 p1 R1 r1 h1=>by
  exists by rw [r1.length]; exact h1.1,fun p hp=>?_;obtain ⟨R2,s2,e2⟩:=R1.new (o:=.lst vs) hp;exact k _ _ _ α1 _ M1 (s1.trans s2) p1 R2 (.lst e2 (r1.mono s2 (Jd _))) h1.2
def Zs9 (u:TA3):TE3:=fun ρ M K=>u ρ M fun ds M1=>ds.length<=sizeLine/\K (.cell M1.length) (M1++[.lst ds])
def Qs (ha:SimA C Z t u):SimE C Z (tLst t) (Zs9 u):=fun I α σ H ρ M K Q R E h k =>
 ha I α σ H ρ M _ _ R E h fun vs ds I1 α1 H1 M1 s1 p1 R1 r1 h1=>by
  exists by rw [r1.length]; exact h1.1,fun p hp=>?_;obtain ⟨R2,p2,e2⟩:=R1.cell (o:=.lst vs) (m:=.lst ds) hp fun H' e=>⟨vs,e,r1⟩;exact k _ _ I1 _ _ _ s1 (p1.trans p2) R2 (.cell e2) h1.2
def uCB (r:List D->Mem->K3->Prop) (u:TA3):TE3:=fun ρ M K=>u ρ M fun ds M1=>r ds M1 K
def s_cb {r:List V->Hp->VK->Prop} {r3:List D->Mem->K3->Prop} (hr:SimC C Z r r3) (ha:SimA C Z t u):SimE C Z (tCB r t) (uCB r3 u):=fun I α σ H ρ M K Q R E h k =>
 ha I α σ H ρ M _ _ R E h fun vs ds I1 α1 H1 M1 s1 p1 R1 r1 h1=>hr I1 α1 H1 M1 vs ds K Q R1 r1 h1 (k.mono s1 p1)
def Zfi:TO3:=fun _ M K=>K none M
def Zs6 (ua:TE3):TO3:=fun ρ M K=>ua ρ M fun d M1=>∃ i,d=.int i/\K (some i) M1
def Te:SimO C Z Zfq Zfi:=fun I α σ H ρ M K Q R E h k=>k none I α H M (.refl _) (Jd _) R h
def Uu (ha:SimE C Z ta ua):SimO C Z (Zp5 ta) (Zs6 ua):=fun I α σ H ρ M K Q R E h k =>
 ha I α σ H ρ M _ _ R E h fun v d I1 α1 H1 M1 s1 p1 R1 r1 h1=>by
  obtain ⟨i,e,h1⟩:=h1;subst e;cases r1;exists i,rfl,k (some i) I1 α1 H1 M1 s1 p1 R1 h1
def uSl (r:D->Option Int->Option Int->Mem->K3->Prop) (ua:TE3) (ul uh:TO3):TE3:=fun ρ M K=>ua ρ M fun d M1=>ul ρ M1 fun l M2=>uh ρ M2 fun g M3=>r d l g M3 K
def s_sl {r:V->Option Int->Option Int->Hp->VK->Prop} {r3:D->Option Int->Option Int->Mem->K3->Prop} {tl th:TO} {ul uh:TO3} (hr:SimL C Z r r3) (ha:SimE C Z ta ua) (hl:SimO C Z tl ul) (hh:SimO C Z th uh):SimE C Z (tSl r ta tl th) (uSl r3 ua ul uh):=fun I α σ H ρ M K Q R E h k =>
 ha I α σ H ρ M _ _ R E h fun v d I1 α1 H1 M1 s1 p1 R1 r1 h1 =>
  hl I1 α1 σ H1 ρ M1 _ _ R1 (E.mono s1 p1) h1 fun lo I2 α2 H2 M2 s2 p2 R2 h2 =>
   hh I2 α2 σ H2 ρ M2 _ _ R2 (E.mono (s1.trans s2) (p1.trans p2)) h2 fun hi I3 α3 H3 M3 s3 p3 R3 h3 =>
    hr I3 α3 H3 M3 v d lo hi K Q R3 (r1.mono (s2.trans s3) (p2.trans p3)) h3 (k.mono (s1.trans (s2.trans s3)) (p1.trans (p2.trans p3)))
end
def Xt (M:Mem):D->Option (List D)
 | .lst ds=>some ds
 | .frz ds=>some ds
 | .cell k=>match M[k]? with | some (.lst ds)=>some ds | _=>none
 | _=>none
def lsOf (M:Mem):D->Option (List D)
 | .lst ds=>some ds
 | .cell k=>match M[k]? with | some (.lst ds)=>some ds | _=>none
 | _=>none
def Zmv:D->Option (List D)
 | .tup ds=>some ds
 | _=>none
def Qd (M:Mem):D->Option (List D)
 | .tup ds=>some ds
 | d=>Xt M d
section
variable {C:Cf} {v:V} {d:D} 
def Ur (R:Rel C Z I α H M) {k:Nat} {a:Addr} (e:α[k]?=some a) (h:M[k]?=some (.lst ds)):∃ vs,H a=some (.lst vs)/\Reps C I α vs ds:=(R.cel k a _ e h).1
theorem X4 (R:Rel C Z I α H M) (r:Rep C I α v d) (h:Xt M d=some ds):∃ a vs,v=.ref a/\SqL C.k H a vs/\Reps C I α vs ds:=by
 cases r with
 | lst e r=>cases h;exists _,·,SqL.of (R.sub _ _ e),r
 | frz e r=>cases h;exists _,·,R.sub.seq e,r
 | @cell a k e =>
  unfold Xt at h;cases hm:M[k]? with
  | none=>simp only [hm] at h; cases h
  | some m =>
   cases m with
   | lst es =>
    simp only [hm] at h;cases h;obtain ⟨vs,e1,r⟩:=Ur R e hm;exists _,·,SqL.of e1,r
   | _=>simp only [hm] at h; cases h
 | _=>cases h
theorem Qf (R:Rel C Z I α H M) (r:Rep C I α v d) (h:lsOf M d=some ds):∃ a vs,v=.ref a/\H a=some (.lst vs)/\Reps C I α vs ds:=by
 cases r with
 | lst e r=>cases h;exists _,·,R.sub _ _ e,r
 | @cell a k e =>
  unfold lsOf at h;cases hm:M[k]? with
  | none=>simp only [hm] at h; cases h
  | some m =>
   cases m with
   | lst es =>
    simp only [hm] at h;cases h;obtain ⟨vs,e1,r⟩:=Ur R e hm;exists _,·,e1,r
   | _=>simp only [hm] at h; cases h
 | _=>cases h
theorem Ut (R:Rel C Z I α H M) (r:Rep C I α v d) (h:Zmv d=some ds):∃ a vs,v=.ref a/\H a=some (.tup vs)/\I a=some (.tup vs)/\Reps C I α vs ds:=by
 cases r with
 | tup e r=>cases h;exists _,·,R.sub _ _ e,e,r
 | _=>cases h
end
def cut (xs:List τ) (lo hi:Option Int):List τ:=(xs.drop (HT.sIx xs.length 0 lo)).take (HT.sIx xs.length xs.length hi-HT.sIx xs.length 0 lo)
theorem Reps.cut {C:Cf} (r:Reps C I α vs ds) (lo hi:Option Int):Reps C I α (cutV vs lo hi) (cut ds lo hi):=by
 unfold cutV L3.cut;rw [r.length];exact (r.drop _).take _
def Ziq {υ:Type} (f:τ->υ) (xs:List τ) (lo hi:Option Int):cut (xs.map f) lo hi=(cut xs lo hi).map f:=by
 unfold cut;rw [Jb,B3,Fi]
theorem Reps.atI {C:Cf} {i:Int} {d:D} (r:Reps C I α vs ds) (h:atI ds i=some d):∃ v,L2.atI vs i=some v/\Rep C I α v d:=by
 unfold L2.atI at h ⊢;rw [r.length];cases e:ixN ds.length i with
 | none=>rw [e] at h; cases h
 | some j =>
  rw [e] at h;exact r.get (i:=j) h
section
variable {C:Cf} 
def OpR.or {f:Value->Value->Sem Value} {r':R2} (h:OpR X f r) (h':OpR X f r'):OpR X f (fun x y H Q=>r x y H Q\/r' x y H Q):=by
 intro pq s σ H x y v u Q I rx ry q;rcases q with q | q
 ·exact h pq s σ H x y v u Q I rx ry q
 ·exact h' pq s σ H x y v u Q I rx ry q
def SlR.or {r r':V->Option Int->Option Int->Hp->VK->Prop} (h:SlR X r) (h':SlR X r'):SlR X (fun x l u H Q=>r x l u H Q\/r' x l u H Q):=by
 intro pq s σ H x v vl vu lo hi sl Q I rx hs pl pu q;rcases q with q | q
 ·exact h pq s σ H x v vl vu lo hi sl Q I rx hs pl pu q
 ·exact h' pq s σ H x v vl vu lo hi sl Q I rx hs pl pu q
def Znf:R2:=fun x y H Q=>∃ i j,x=.str i/\y=.str j/\i.length+j.length<=sizeLine/\Q (.str (i++j)) H
def Zj2 (K:W.Frag):R2:=fun x y H Q=>rI0 (fun i j=>.int (i+j)) x y H Q\/Znf x y H Q\/rCat x y H Q\/Znh K x y H Q
def Xo (h:X.K=K'):OpR X (binaryOp .Add) (Zj2 K'):=by
 subst h;exact OpR.or Wm (OpR.or Zen (OpR.or Qw Zhb))
def add3:R3:=fun d e M K=>match d,e with
 | .int i,.int j=>K (.int (i+j)) M
 | .str a,.str b=>a.length+b.length<=sizeLine/\K (.str (a++b)) M
 | .tup xs,.tup ys=>(xs≠[]/\xs.length+ys.length<=sizeLine)/\K (.tup (xs++ys)) M
 | d,e=>∃ xs ys,lsOf M d=some xs/\lsOf M e=some ys/\xs.length+ys.length<=sizeLine/\K (.lst (xs++ys)) M
def Zo8 {x y:V} {d e:D} {K:K3} (R:Rel C Z I α H M) (r1:Rep C I α x d) (r2:Rep C I α y e)
  (h:∃ xs ys,lsOf M d=some xs/\lsOf M e=some ys/\xs.length+ys.length<=sizeLine/\K (.lst (xs++ys)) M) (k:Fin C Z I α K Q):Zj2 C.k x y H Q:=by
 obtain ⟨xs,ys,e1,e2,hl,h⟩:=h;obtain ⟨a,vs,rfl,ea,ra⟩:=Qf R r1 e1;obtain ⟨b,ws,rfl,eb,rb⟩:=Qf R r2 e2;refine .inr (.inr (.inl ⟨a,b,vs,ws,rfl,rfl,ea,eb,by rw [ra.length,rb.length]; exact hl,fun p hp=>?_⟩));obtain ⟨R2,s2,e2⟩:=R.new (o:=.lst (vs++ws)) hp;exact k _ _ _ α _ M s2 (Jd _) R2 (.lst e2 ((ra.app rb).mono s2 (Jd _))) h
theorem Vc:SimR C Z (Zj2 C.k) add3:=fun I α H M x y d e K Q R r1 r2 h k=>by
 have go:=fun h=>Zo8 R r1 r2 h k;cases d with
 | int i =>
  cases e with
  | int j=>cases r1; cases r2; exact .inl ⟨i,j,rfl,rfl,k _ _ I α H M (.refl _) (Jd _) R (.int _) h⟩
  | _=>exact go h
 | str a =>
  cases e with
  | str b=>cases r1; cases r2; exact .inr (.inl ⟨a,b,rfl,rfl,h.1,k _ _ I α H M (.refl _) (Jd _) R (.str _) h.2⟩)
  | _=>exact go h
 | tup xs =>
  cases e with
  | tup ys =>
   obtain ⟨⟨h1,h2⟩,h⟩:=h;obtain ⟨a,vs,rfl,ea,ia,ra⟩:=Ut R r1 rfl;obtain ⟨b,ws,rfl,eb,ib,rb⟩:=Ut R r2 rfl;refine .inr (.inr (.inr ⟨a,b,vs,ws,rfl,rfl,SqT.of ea,SqT.of eb,fun z=>?_,by rw [ra.length,rb.length]; exact h2,fun z=>?_,fun _ p hp=>?_⟩))
   ·subst z;cases ra;exact h1 rfl
   ·subst z;cases rb;rw [J0] at h;exact k _ _ I α H M (.refl _) (Jd _) R r1 h
   ·obtain ⟨R2,s2,e2⟩:=R.new (o:=.tup (vs++ws)) hp;exact k _ _ _ α _ M s2 (Jd _) R2 (.tup e2 ((ra.app rb).mono s2 (Jd _))) h
  | _=>exact go h
 | _=>exact go h
def int3 (c:Int->Int->Prop) (g:Int->Int->D):R3:=fun d e M K=>∃ i j,d=.int i/\e=.int j/\c i j/\K (g i j) M
def Zkl (g:Int->Int->D):R3:=fun d e M K=>∃ i j,d=.int i/\e=.int j/\K (g i j) M
def Jco {c:Int->Int->Prop} {g:Int->Int->V} {g3:Int->Int->D} (hg:∀ I α i j,Rep C I α (g i j) (g3 i j)):SimR C Z (rI c g) (int3 c g3):=fun I α H M x y d e K Q R r1 r2 h k=>by
 obtain ⟨i,j,rfl,rfl,hc,h⟩:=h;cases r1;cases r2;exists i,j,rfl,rfl,hc,k _ _ I α H M (.refl _) (Jd _) R (hg _ _ _ _) h
def Zm4 {g:Int->Int->V} {g3:Int->Int->D} (hg:∀ I α i j,Rep C I α (g i j) (g3 i j)):SimR C Z (rI0 g) (Zkl g3):=fun I α H M x y d e K Q R r1 r2 h k=>by
 obtain ⟨i,j,rfl,rfl,h⟩:=h;cases r1;cases r2;exists i,j,rfl,rfl,k _ _ I α H M (.refl _) (Jd _) R (hg _ _ _ _) h
def Ztp:SimR C Z (rI0 fun i j=>.int (i-j)) (Zkl fun i j=>.int (i-j)):=Zm4 fun _ _ _ _=>.int _
def Zjv:SimR C Z (rI (fun _ j=>0<j) fun i j=>.int (i % j)) (int3 (fun _ j=>0<j) fun i j=>.int (i % j)):=Jco fun _ _ _ _=>.int _
def s_lt:SimR C Z (rI0 fun i j=>.bl (decide (i<j))) (Zkl fun i j=>.bl (decide (i<j))):=Zm4 fun _ _ _ _=>.bl _
def s_gt:SimR C Z (rI0 fun i j=>.bl (decide (j<i))) (Zkl fun i j=>.bl (decide (j<i))):=Zm4 fun _ _ _ _=>.bl _
def neg3:D->Mem->K3->Prop:=fun d M K=>∃ i,d=.int i/\K (.int (-i)) M
def Zm8:SimU C Z (rU fun i=>.int (-i)) neg3:=fun I α H M x d K Q R r h k=>by
 obtain ⟨i,rfl,h⟩:=h;cases r;exists i,rfl,k _ _ I α H M (.refl _) (Jd _) R (.int _) h
def Wd (h:X.K=K'):IxR X (rIx K'):=by subst h; exact Zro
def ix3:R3:=fun d e M K=>match d with
 | .str z=>∃ i c,e=.int i/\z.length<=sizeLine/\L2.atI z.cps.toList i=some c/\K (.str ⟨#[c]⟩) M
 | d=>∃ xs i v,Qd M d=some xs/\e=.int i/\L2.atI xs i=some v/\K v M
theorem s_ix:SimR C Z (rIx C.k) ix3:=fun I α H M x y d e K Q R r1 r2 h k=>by
 have go:(∃ xs i v,Qd M d=some xs/\e=.int i/\L2.atI xs i=some v/\K v M)->rIx C.k x y H Q:=fun h=>by
  obtain ⟨xs,i,w,e1,rfl,e3,hk⟩:=h;cases r2
  by_cases ht:∃ ys,d=.tup ys
  ·obtain ⟨ys,rfl⟩:=ht;cases e1;obtain ⟨a,vs,rfl,ea,_,ra⟩:=Ut R r1 rfl;obtain ⟨v,e4,rv⟩:=ra.atI e3;exact .inr (.inl ⟨a,vs,i,v,rfl,rfl,SqT.of ea,e4,k _ _ I α H M (.refl _) (Jd _) R rv hk⟩)
  ·have e1':Xt M d=some xs:=by
    cases d with
    | tup ys=>exact absurd ⟨ys,rfl⟩ ht
    | _=>exact e1
   obtain ⟨a,vs,rfl,ea,ra⟩:=X4 R r1 e1';obtain ⟨v,e4,rv⟩:=ra.atI e3;exact .inl ⟨a,vs,i,v,rfl,rfl,ea,e4,k _ _ I α H M (.refl _) (Jd _) R rv hk⟩
 cases d with
 | str z =>
  obtain ⟨i,c,rfl,h1,h2,h⟩:=h;cases r1;cases r2;exact .inr (.inr ⟨z,i,c,rfl,rfl,h1,h2,k _ _ I α H M (.refl _) (Jd _) R (.str _) h⟩)
 | _=>exact go h
def rSlU (K:W.Frag):V->Option Int->Option Int->Hp->VK->Prop:=fun x l u H Q=>rSlL K x l u H Q\/rSlW K x l u H Q\/rSlS x l u H Q
def Zbe (h:X.K=K'):SlR X (rSlU K'):=by subst h; exact SlR.or Wi (SlR.or Zbh Zqf)
def sl3:D->Option Int->Option Int->Mem->K3->Prop:=fun d lo hi M K=>match d with
 | .str z=>z.length<=sizeLine/\K (.str (Txt.slice z lo hi)) M
 | .tup xs=>K (.tup (cut xs lo hi)) M
 | d=>∃ xs,Xt M d=some xs/\K (.lst (cut xs lo hi)) M
theorem Reps.inj_cut (r:Reps C I α vs ds) (h:cutV vs lo hi=vs):L3.cut ds lo hi=ds:=by
 have hl:(cutV vs lo hi).length=vs.length:=by rw [h]
 unfold cutV at hl;rw [Jn,Gh] at hl;unfold L3.cut;rw [r.length] at hl;generalize HT.sIx ds.length 0 lo=a at *
 generalize HT.sIx ds.length ds.length hi=b at *
 by_cases hd:ds.length=0
 ·rw [List.length_eq_zero_iff.mp hd]; simp
 ·have:a=0:=by lia
  subst this;rw [Fz,Gj];lia
theorem Zbj:SimL C Z (rSlU C.k) sl3:=fun I α H M x d lo hi K Q R r1 h k=>by
 have go:(∃ xs,Xt M d=some xs/\K (.lst (cut xs lo hi)) M)->rSlU C.k x lo hi H Q:=fun h=>by
  obtain ⟨xs,e1,h⟩:=h;obtain ⟨a,vs,rfl,ea,ra⟩:=X4 R r1 e1;refine .inl ⟨a,vs,rfl,ea,fun p hp=>?_⟩;obtain ⟨R2,s2,e2⟩:=R.new (o:=.lst (cutV vs lo hi)) hp;exact k _ _ _ α _ M s2 (Jd _) R2 (.lst e2 ((ra.cut lo hi).mono s2 (Jd _))) h
 cases d with
 | str z=>cases r1; exact .inr (.inr ⟨z,rfl,h.1,k _ _ I α H M (.refl _) (Jd _) R (.str _) h.2⟩)
 | tup xs =>
  obtain ⟨a,vs,rfl,ea,ia,ra⟩:=Ut R r1 rfl;refine .inr (.inl ⟨a,vs,rfl,SqT.of ea,fun z=>?_,fun p hp=>?_⟩)
  ·have h2:K (.tup (cut xs lo hi)) M:=h;rw [ra.inj_cut z] at h2;exact k _ _ I α H M (.refl _) (Jd _) R r1 h2
  ·obtain ⟨R2,s2,e2⟩:=R.new (o:=.tup (cutV vs lo hi)) hp;exact k _ _ _ α _ M s2 (Jd _) R2 (.tup e2 ((ra.cut lo hi).mono s2 (Jd _))) h
 | _=>exact go h
end
mutual
inductive PyR (M:Mem):D->PyData->Prop where
 | non:PyR M .non .none
 | bl (b:Bool):PyR M (.bl b) (.bool b)
 | int (i:Int):PyR M (.int i) (.int i)
 | str (x:Str):PyR M (.str x) (.str x)
 | seq {d:D} {ds:List D} {ps:List PyData}:Xt M d=some ds->PyRs M ds ps->PyR M d (.list ps)
 | tup {ds:List D} {ps:List PyData}:PyRs M ds ps->PyR M (.tup ds) (.tuple ps)
inductive PyRs (M:Mem):List D->List PyData->Prop where
 | nil:PyRs M [] []
 | cons {d:D} {p:PyData} {ds:List D} {ps:List PyData}:PyR M d p->PyRs M ds ps->PyRs M (d::ds) (p::ps)
end
section
variable {C:Cf} 
mutual
theorem Zbo (R:Rel C Z I α H M):∀ {v:V} {d:D} {p:PyData},PyR M d p->Rep C I α v d->DV C.k H v p:=by
 intro _ _ _ hz9 r;cases hz9 with
 | non=>
  exact by cases r; exact .non
 | bl b=>
  exact by cases r; exact .bl b
 | int b=>
  exact by cases r; exact .int b
 | str b=>
  exact by cases r; exact .str b
 | seq e q=>
  exact by
    obtain ⟨a,vs,rfl,ea,ra⟩:=X4 R r e;exact .lst ea (pys_dv R q ra)
 | tup q=>
  exact by
    obtain ⟨a,vs,rfl,ea,_,ra⟩:=Ut R r rfl;exact .tup (SqT.of ea) (pys_dv R q ra)
theorem pys_dv (R:Rel C Z I α H M):∀ {vs:List V} {ds:List D} {ps:List PyData},PyRs M ds ps->Reps C I α vs ds->DVs C.k H vs ps:=by
 intro _ _ _ hz9 r;cases hz9 with
 | nil=>
  exact by cases r; exact .nil
 | cons a b=>
  exact by
    cases r with
    | cons r1 r2=>exact .cons (Zbo R a r1) (pys_dv R b r2)
end
end
def eqS:D->D->Option Bool
 | .non,.non=>some true | .non,.int _=>some false | .int _,.non=>some false | .non,.bl _=>some false | .bl _,.non=>some false | .non,.str _=>some false | .str _,.non=>some false
 | .int i,.int j=>some (decide (i=j)) | .bl i,.bl j=>some (decide (i=j)) | .str i,.str j=>some (decide (i=j))
 | .int _,.str _=>some false | .str _,.int _=>some false | .bl _,.str _=>some false | .str _,.bl _=>some false
 | _,_=>none
def eqV (d e:D) (M:Mem) (K:Bool->Prop):Prop:=(∃ b,eqS d e=some b/\K b)\/∃ p q,PyR M d p/\PyR M e q/\SeqAt.shaped p=true/\SeqAt.shaped q=true/\K (PyData.eqv p q)
def eq3:R3:=fun d e M K=>eqV d e M fun b=>K (.bl b) M
def ne3:R3:=fun d e M K=>eqV d e M fun b=>K (.bl (!b)) M
section
variable {C:Cf} 
def rEqU (K:W.Frag):R2:=fun x y H Q=>rEq x y H Q\/rEqD K x y H Q
def rNeU (K:W.Frag):R2:=fun x y H Q=>rNe x y H Q\/rNeD K x y H Q
def No (h:X.K=K') (hu:X.A.units+64<cLine):OpR X (compareOp .Eq) (rEqU K'):=by subst h; exact OpR.or Zha (Zg9 hu)
def Zed (h:X.K=K') (hu:X.A.units+64<cLine):OpR X (compareOp .NotEq) (rNeU K'):=by subst h; exact OpR.or Zt6 (Zq8 hu)
def Zib {x y:V} {d e:D} {b:Bool} (r1:Rep C I α x d) (r2:Rep C I α y e) (h:eqS d e=some b):scal x y=true/\decide (x=y)=b:=by
 cases r1 <;> first | (cases h; done) | (cases r2 <;> first | (cases h; done) | (injection h with h; subst h; refine ⟨rfl,?_⟩; simp))
def s_eq:SimR C Z (rEqU C.k) eq3:=fun I α H M x y d e K Q R r1 r2 h k=>by
 rcases h with ⟨b,eb,h⟩ | ⟨p,q,h1,h2,h3,h4,h⟩
 ·obtain ⟨z1,z2⟩:=Zib r1 r2 eb;exact .inl ⟨z1,by rw [z2]; exact k _ _ I α H M (.refl _) (Jd _) R (.bl _) h⟩
 ·exact .inr ⟨p,q,Zbo R h1 r1,Zbo R h2 r2,h3,h4,k _ _ I α H M (.refl _) (Jd _) R (.bl _) h⟩
def s_ne:SimR C Z (rNeU C.k) ne3:=fun I α H M x y d e K Q R r1 r2 h k=>by
 rcases h with ⟨b,eb,h⟩ | ⟨p,q,h1,h2,h3,h4,h⟩
 ·obtain ⟨z1,z2⟩:=Zib r1 r2 eb;exact .inl ⟨z1,by rw [z2]; exact k _ _ I α H M (.refl _) (Jd _) R (.bl _) h⟩
 ·exact .inr ⟨p,q,Zbo R h1 r1,Zbo R h2 r2,h3,h4,k _ _ I α H M (.refl _) (Jd _) R (.bl _) h⟩
end
structure Enc (τ:Type) [DecidableEq τ] where
 e:τ->D
 py:τ->PyData
 n:Nat
 ok:∀ M a,PyR M (e a) (py a)
 shp:∀ a,Shp n (py a)
 eq:∀ a b,PyData.eqv (py a) (py b)=decide (a=b)
 hn:n<=60
theorem R8 [DecidableEq τ] {f:τ->PyData} (h:∀ a b,PyData.eqv (f a) (f b)=decide (a=b)):∀ (a b:List τ),PyData.eqvAll (a.map f) (b.map f)=decide (a=b)
 | [],[]=>by simp [PyData.eqvAll]
 | [],_::_=>by simp [PyData.eqvAll]
 | _::_,[]=>by simp [PyData.eqvAll]
 | a::r,b::t=>by
  rw [Jl,Jl,PyData.eqvAll,h,R8 h r t];simp
theorem Wu {e:τ->D} {py:τ->PyData} (h:∀ a,PyR M (e a) (py a)):∀ as:List τ,PyRs M (as.map e) (as.map py)
 | []=>.nil
 | a::r=>.cons (h a) (Wu h r)
def Y2:Enc Int:=⟨.int,.int,0,fun _=>.int,Ra,fun a b=>by rw [PyData.eqv,Bool.beq_eq_decide_eq],nofun⟩
def Xr [DecidableEq τ] (E:Enc τ) (h:E.n<=50:=by decide):Enc (List τ) where
 e as:=.lst (as.map E.e)
 py as:=.list (as.map E.py)
 n:=E.n+1
 ok:=fun M as=>.seq rfl (Wu (E.ok M) as)
 shp:=fun as=>Va fun d hd=>by
  obtain ⟨a,_,rfl⟩:=Ji.mp hd;exact E.shp a
 eq:=fun a b=>by rw [PyData.eqv,R8 E.eq]
 hn:=by lia
def Zr4 [DecidableEq τ] (E:Enc τ) (h:E.n<=50:=by decide):Enc (List τ) where
 e as:=.tup (as.map E.e)
 py as:=.tuple (as.map E.py)
 n:=E.n+1
 ok:=fun M as=>.tup (Wu (E.ok M) as)
 shp:=fun as=>Wj fun d hd=>by
  obtain ⟨a,_,rfl⟩:=Ji.mp hd;exact E.shp a
 eq:=fun a b=>by rw [PyData.eqv,R8 E.eq]
 hn:=by lia
def Zc1 {n m:Nat} {d:PyData} (h:Shp n d) (l:n<=m):Shp m d:=⟨h.1,Jv h.2 l⟩
def Zug {υ:Type} [DecidableEq τ] [DecidableEq υ] (E:Enc τ) (F:Enc υ) (h:E.n<=50:=by decide) (h':F.n<=50:=by decide):Enc (τ×υ) where
 e p:=.tup [E.e p.1,F.e p.2]
 py p:=.tuple [E.py p.1,F.py p.2]
 n:=max E.n F.n+1
 ok:=fun M p=>.tup (.cons (E.ok M _) (.cons (F.ok M _) .nil))
 shp:=fun p=>Wj fun d hd=>by
  rcases Jq.mp hd with z | hd
  ·rw [z]; exact Zc1 (E.shp _) (Nat.le_max_left _ _)
  ·rw [Jj.mp hd]; exact Zc1 (F.shp _) (Nat.le_max_right _ _)
 eq:=fun a b=>by
  obtain ⟨a1,a2⟩:=a;obtain ⟨b1,b2⟩:=b;rw [PyData.eqv,PyData.eqvAll,PyData.eqvAll,PyData.eqvAll,E.eq,F.eq];simp
 hn:=by lia
theorem Na [DecidableEq τ] (E:Enc τ) {d d':D} {a b:List τ} {K:Bool->Prop} (h1:Xt M d=some (a.map E.e)) (h2:Xt M d'=some (b.map E.e)) (h:K (decide (a=b))) (hn:E.n<=50:=by decide):eqV d d' M K :=
 .inr ⟨_,_,.seq h1 (Wu (E.ok M) a),.seq h2 (Wu (E.ok M) b),((Xr E hn).shp a).shaped (by have:=(Xr E hn).hn; lia),((Xr E hn).shp b).shaped (by have:=(Xr E hn).hn; lia),by
  have:=(Xr E hn).eq a b;rw [show PyData.eqv (PyData.list (a.map E.py)) (PyData.list (b.map E.py))=decide (a=b) from this];exact h⟩
inductive Ty3 where
 | non | bool | int | str | list | tuple | dict
 deriving DecidableEq
def tyN:Ty3->String
 | .non=>"NoneType" | .bool=>"bool" | .int=>"int" | .str=>"str" | .list=>"list" | .tuple=>"tuple" | .dict=>"dict"
def tyOf (M:Mem):D->Option Ty3
 | .non=>some .non | .bl _=>some .bool | .int _=>some .int | .str _=>some .str | .lst _=>some .list | .tup _=>some .tuple | .dct _=>some .dict | .dcT _=>some .dict
 | .cell k=>match M[k]? with | some (.lst _)=>some .list | some (.dct _)=>some .dict | some (.dcT _)=>some .dict | _=>none
 | _=>none
def isS:Ty3->Ty3->Bool
 | .bool,.int=>true
 | a,b=>decide (a=b)
section
variable {C:Cf} 
theorem Zoh (s t:Ty3) (ht:t≠.non):W.kitOne C.k (.type (tyN s)) (.type (tyN t))=some (isS s t):=by
 cases t with
 | non=>exact absurd rfl ht
 | _=>cases s <;> rfl
theorem Zpx {v:V} {d:D} {s:Ty3} (R:Rel C Z I α H M) (r:Rep C I α v d) (h:tyOf M d=some s):TyOf C.k H v (.type (tyN s)):=by
 cases r with
 | non=>cases h; exact .non
 | bl b=>cases h; exact .bl b
 | int b=>cases h; exact .int b
 | str b=>cases h; exact .str b
 | lst e r=>cases h; exact .lst (R.sub _ _ e)
 | frz e r=>cases h
 | tup e r=>cases h; exact .tup (R.sub _ _ e)
 | dct e r=>cases h; exact .dK (R.sub _ _ e)
 | dcT e r=>cases h; exact .dT (R.sub _ _ e)
 | @cell a k e =>
  unfold tyOf at h;cases hm:M[k]? with
  | none=>simp only [hm] at h; cases h
  | some m =>
   cases m with
   | lst es=>simp only [hm] at h; cases h; obtain ⟨vs,e1,r⟩:=(R.cel k a _ e hm).1; exact .lst e1
   | dct es=>simp only [hm] at h; cases h; obtain ⟨vs,e1,r⟩:=(R.cel k a _ e hm).1; exact .dK e1
   | dcT es=>simp only [hm] at h; cases h; obtain ⟨vs,e1,r⟩:=(R.cel k a _ e hm).1; exact .dT e1
   | _=>simp only [hm] at h; cases h
 | _=>cases h
def isi3 (T:Ty3):List D->Mem->K3->Prop:=fun ds M K=>∃ d s,ds=[d,.ty (tyN T)]/\tyOf M d=some s/\K (.bl (isS s T)) M
theorem Zts {T:Ty3} (hT:T≠.non:=by decide):SimC C Z (rIsi C.k) (isi3 T):=fun I α H M xs ds K Q R r h k=>by
 obtain ⟨d,s,rfl,e,h⟩:=h;cases r with
 | cons r1 r2 =>
  cases r2 with
  | cons r2 r3 =>
   cases r3;cases r2;exists _,_,_,·,Zpx R r1 e,Zoh s T hT,k _ _ I α H M (.refl _) (Jd _) R (.bl _) h
def len3:List D->Mem->K3->Prop:=fun ds M K=>match ds with
 | [.str z]=>z.length<=sizeLine/\K (.int z.length) M
 | [d]=>∃ xs,Qd M d=some xs/\K (.int xs.length) M
 | _=>False
theorem Sl:SimC C Z (rLen C.k) len3:=fun I α H M xs ds K Q R r h k=>by
 have go:∀ d v,Rep C I α v d->(∃ xs,Qd M d=some xs/\K (.int xs.length) M)->rLen C.k [v] H Q:=fun d v r h=>by
  obtain ⟨ys,e1,h⟩:=h
  by_cases ht:∃ zs,d=.tup zs
  ·obtain ⟨zs,rfl⟩:=ht;cases e1;obtain ⟨a,vs,rfl,ea,_,ra⟩:=Ut R r rfl;exact ⟨_,_,rfl,.inr ⟨_,SqT.of ea,rfl⟩,by rw [ra.length]; exact k _ _ I α H M (.refl _) (Jd _) R (.int _) h⟩
  ·have e1':Xt M d=some ys:=by
    cases d with
    | tup ys=>exact absurd ⟨ys,rfl⟩ ht
    | _=>exact e1
   obtain ⟨a,vs,rfl,ea,ra⟩:=X4 R r e1';exact ⟨_,_,rfl,.inl ⟨_,ea,rfl⟩,by rw [ra.length]; exact k _ _ I α H M (.refl _) (Jd _) R (.int _) h⟩
 cases r with
 | nil=>exact h.elim
 | cons r1 r2 =>
  cases r2 with
  | nil =>
   rename_i v d
   cases d with
   | str z=>cases r1;exists _,·,⟨h.1,rfl⟩,k _ _ I α H M (.refl _) (Jd _) R (.int _) h.2
   | _=>exact go _ _ r1 h
  | cons _ _ =>
   rename_i v d _ _ _ _ _ _
   cases d <;> exact h.elim
def Zub:List D->Mem->K3->Prop:=fun ds M K=>∃ d xs,ds=[d]/\Qd M d=some xs/\K (.lst xs) M
def Zri:List D->Mem->K3->Prop:=fun ds M K=>∃ d xs,ds=[d]/\Qd M d=some xs/\K (.cell M.length) (M++[.lst xs])
def Zln {v:V} {d:D} {xs:List D} (R:Rel C Z I α H M) (r:Rep C I α v d) (h:Qd M d=some xs):∃ a vs,v=.ref a/\(SqL C.k H a vs\/SqT C.k H a vs)/\Reps C I α vs xs:=by
 by_cases ht:∃ zs,d=.tup zs
 ·obtain ⟨zs,rfl⟩:=ht;cases h;obtain ⟨a,vs,rfl,ea,_,ra⟩:=Ut R r rfl;exists a,vs,rfl,.inr (SqT.of ea),ra
 ·have e1':Xt M d=some xs:=by
   cases d with
   | tup ys=>exact absurd ⟨ys,rfl⟩ ht
   | _=>exact h
  obtain ⟨a,vs,rfl,ea,ra⟩:=X4 R r e1';exists a,vs,rfl,.inl ea,ra
theorem Zlp:SimC C Z (Zbm C.k) Zub:=fun I α H M xs ds K Q R r h k=>by
 obtain ⟨d,ys,rfl,e,h⟩:=h;cases r with
 | cons r1 r2 =>
  cases r2;obtain ⟨a,vs,rfl,ea,ra⟩:=Zln R r1 e;exists a,vs,rfl,ea,fun p hp=>?_;obtain ⟨R2,s2,e2⟩:=R.new (o:=.lst vs) hp;exact k _ _ _ α _ M s2 (Jd _) R2 (.lst e2 (ra.mono s2 (Jd _))) h
theorem Zna:SimC C Z (Zbm C.k) Zri:=fun I α H M xs ds K Q R r h k=>by
 obtain ⟨d,ys,rfl,e,h⟩:=h;cases r with
 | cons r1 r2 =>
  cases r2;obtain ⟨a,vs,rfl,ea,ra⟩:=Zln R r1 e;exists a,vs,rfl,ea,fun p hp=>?_;obtain ⟨R2,p2,e2⟩:=R.cell (o:=.lst vs) (m:=.lst ys) hp fun H' e=>⟨vs,e,ra⟩;exact k _ _ I _ _ _ (.refl _) p2 R2 (.cell e2) h
def Zpy:List D->Mem->K3->Prop:=fun ds M K=>∃ d xs,ds=[d]/\Qd M d=some xs/\K (.tup xs) M
theorem Zbi:SimC C Z (Zls C.k) Zpy:=fun I α H M xs ds K Q R r h k=>by
 obtain ⟨d,ys,rfl,e,h⟩:=h;cases r with
 | cons r1 r2 =>
  cases r2
  by_cases ht:∃ zs,d=.tup zs
  ·obtain ⟨zs,rfl⟩:=ht;cases e;obtain ⟨a,vs,rfl,ea,_,ra⟩:=Ut R r1 rfl;exists a,vs,rfl,.inr ⟨SqT.of ea,k _ _ I α H M (.refl _) (Jd _) R r1 h⟩
  ·have e1':Xt M d=some ys:=by
    cases d with
    | tup ys=>exact absurd ⟨ys,rfl⟩ ht
    | _=>exact e
   obtain ⟨a,vs,rfl,ea,ra⟩:=X4 R r1 e1';exists a,vs,rfl,.inl ⟨ea,fun p hp=>?_⟩;obtain ⟨R2,s2,e2⟩:=R.new (o:=.tup vs) hp;exact k _ _ _ α _ M s2 (Jd _) R2 (.tup e2 (ra.mono s2 (Jd _))) h
def two3 (f:Int->Int->D):List D->Mem->K3->Prop:=fun ds M K=>∃ i j,ds=[.int i,.int j]/\K (f i j) M
theorem Zqi:SimC C Z (fun xs H Q=>∃ i j,xs=[.int i,.int j]/\Q (.int (if j<i then j else i)) H) (two3 fun i j=>.int (if j<i then j else i)):=fun I α H M xs ds K Q R r h k=>by
 obtain ⟨i,j,rfl,h⟩:=h;cases r with
 | cons r1 r2 =>
  cases r2 with
  | cons r2 r3 =>
   cases r3;cases r1;cases r2;exists i,j,rfl,k _ _ I α H M (.refl _) (Jd _) R (.int _) h
theorem Reps.of_bls :∀ {vs:List V} (bs:List Bool),Reps C I α vs (bs.map D.bl)->vs=bs.map V.bl
 | _,[],h=>by cases h; rfl
 | _,n::r,h=>by
  cases h with
  | cons a b =>
   cases a;rw [Reps.of_bls r b];rfl
def all3:List D->Mem->K3->Prop:=fun ds M K=>∃ (d:D) (bs:List Bool),ds=[d]/\Xt M d=some (bs.map D.bl)/\K (.bl (bs.all id)) M
theorem Ztx:SimC C Z (fun xs H Q=>∃ (p:Addr) (bs:List Bool),xs=[.ref p]/\SqL C.k H p (bs.map V.bl)/\Q (.bl (bs.all id)) H) all3:=fun I α H M xs ds K Q R r h k=>by
 obtain ⟨d,bs,rfl,e,h⟩:=h;cases r with
 | cons r1 r2 =>
  cases r2;obtain ⟨a,vs,rfl,ea,ra⟩:=X4 R r1 e;rw [ra.of_bls bs] at ea;exists a,bs,rfl,ea,k _ _ I α H M (.refl _) (Jd _) R (.bl _) h
def Rel.putL (R:Rel C Z I α H M) {k:Nat} {a:Addr} (ha:α[k]?=some a) (r:Reps C I α vs ds):Rel C Z I α (upd H a (.lst vs)) (M.set k (.lst ds)) :=
 R.put (m:=.lst ds) ha fun H' e=>⟨vs,e,r⟩
def Pa {a:Addr} (e:H a=some (.lst vs)):tyV C.k "list" (.ref a) H:=.inl ⟨rfl,vs,SqL.of e⟩
def app3:D->List D->Mem->K3->Prop:=fun d ds M K=>∃ k xs y,d=.cell k/\ds=[y]/\M[k]?=some (.lst xs)/\xs.length<sizeLine/\K .non (M.set k (.lst (xs++[y])))
def ext3:D->List D->Mem->K3->Prop:=fun d ds M K=>∃ k e xs ys,d=.cell k/\ds=[e]/\M[k]?=some (.lst xs)/\lsOf M e=some ys/\xs.length+ys.length<=sizeLine/\K .non (M.set k (.lst (xs++ys)))
def clr3:D->List D->Mem->K3->Prop:=fun d ds M K=>∃ k xs,d=.cell k/\ds=[]/\M[k]?=some (.lst xs)/\K .non (M.set k (.lst []))
variable {to:TE} {t:TA} {u:TA3}
def Uk (ho:SimE C Z to uo) (ha:SimA C Z t u):SimE C Z (tBM C.k "list" Zgm to t) (fun ρ M K=>uo ρ M fun d M1=>lsOf M1 d≠none/\u ρ M1 fun ds M2=>app3 d ds M2 K):=fun I α σ H ρ M K Q R E h k =>
 ho I α σ H ρ M _ _ R E h fun v d I1 α1 H1 M1 s1 p1 R1 r1 h1=>by
  obtain ⟨hn,h1⟩:=h1;cases hl:lsOf M1 d with
  | none=>exact absurd hl hn
  | some zs =>
   obtain ⟨a,vs,rfl,ea,ra⟩:=Qf R1 r1 hl;exists Pa ea,ha I1 α1 σ H1 ρ M1 _ _ R1 (E.mono s1 p1) h1 fun ws ds I2 α2 H2 M2 s2 p2 R2 r2 h2=>?_;obtain ⟨j,xs,y,rfl,rfl,e1,hz,h2⟩:=h2;cases r2 with
   | cons ry rn =>
    cases rn;cases (r1.mono s2 p2) with
    | cell ec =>
     obtain ⟨us,eu,ru⟩:=Ur R2 ec e1;exists a,us,·,rfl,eu,by rw [ru.length]; exact hz,?_;exact k _ _ I2 α2 _ _ (s1.trans s2) (p1.trans p2) (R2.putL ec (ru.app (.one ry))) .non h2
def Zc4 (ho:SimE C Z to uo) (ha:SimA C Z t u):SimE C Z (tBM C.k "list" Zgl to t) (fun ρ M K=>uo ρ M fun d M1=>lsOf M1 d≠none/\u ρ M1 fun ds M2=>ext3 d ds M2 K):=fun I α σ H ρ M K Q R E h k =>
 ho I α σ H ρ M _ _ R E h fun v d I1 α1 H1 M1 s1 p1 R1 r1 h1=>by
  obtain ⟨hn,h1⟩:=h1;cases hl:lsOf M1 d with
  | none=>exact absurd hl hn
  | some zs =>
   obtain ⟨a,vs,rfl,ea,ra⟩:=Qf R1 r1 hl;exists Pa ea,ha I1 α1 σ H1 ρ M1 _ _ R1 (E.mono s1 p1) h1 fun ws ds I2 α2 H2 M2 s2 p2 R2 r2 h2=>?_;obtain ⟨j,e,xs,ys,rfl,rfl,e1,e2,hz,h2⟩:=h2;cases r2 with
   | cons ry rn =>
    cases rn;obtain ⟨b,bs,rfl,eb,rb⟩:=Qf R2 ry e2;cases (r1.mono s2 p2) with
    | cell ec =>
     obtain ⟨us,eu,ru⟩:=Ur R2 ec e1;exists a,b,us,bs,rfl,rfl,eu,eb,by rw [ru.length,rb.length]; exact hz,?_;exact k _ _ I2 α2 _ _ (s1.trans s2) (p1.trans p2) (R2.putL ec (ru.app rb)) .non h2
def Zgb (ho:SimE C Z to uo):SimE C Z (tBM0 C.k "list" Zlu to) (fun ρ M K=>uo ρ M fun d M1=>clr3 d [] M1 K):=fun I α σ H ρ M K Q R E h k =>
 ho I α σ H ρ M _ _ R E h fun v d I1 α1 H1 M1 s1 p1 R1 r1 h1=>by
  obtain ⟨j,xs,rfl,_,e1,h1⟩:=h1;cases r1 with
  | @cell a _ ec =>
   obtain ⟨us,eu,ru⟩:=Ur R1 ec e1;exists Pa eu,a,us,rfl,rfl,eu,k _ _ I1 α1 _ _ s1 p1 (R1.putL ec (.nil)) .non h1
end
def Y0 (n:Nat) (d:D):Prop:=∀ C I α v,Rep C I α v d->Rep C I (α.take n) v d
def Wr (n:Nat) (m:MO):Prop:=∀ C I α H a,MoAt C I α H a m->MoAt C I (α.take n) H a m
inductive BelowE (n:Nat):Ev->Ev->Prop where
 | nil:BelowE n [] []
 | skip {o:Option D} {r r':Ev}:BelowE n r r'->BelowE n (o::r) (none::r')
 | keep {d:D} {r r':Ev}:Y0 n d->BelowE n r r'->BelowE n (some d::r) (some d::r')
inductive BelS (n:Nat):Ev->Ev->Ev->Prop where
 | nil:BelS n [] [] []
 | skip {o0 o:Option D} {r0 r r':Ev}:BelS n r0 r r'->BelS n (o0::r0) (o::r) (none::r')
 | same {d:D} {r0 r r':Ev}:BelS n r0 r r'->BelS n (some d::r0) (some d::r) (some d::r')
 | keep {o0:Option D} {d:D} {r0 r r':Ev}:Y0 n d->BelS n r0 r r'->BelS n (o0::r0) (some d::r) (some d::r')
def Dr (ρ0:Ev) (M0:Mem) (P:Ev->Mem->Prop) (ρ:Ev) (M:Mem):Prop:=P ρ M\/(∃ ρ',(∃ X,M=M0++X)/\BelS M0.length ρ0 ρ ρ'/\P ρ' M0)\/∃ n ρ',M0.length<=n/\BelowE n ρ ρ'/\(∀ m∈M.take n,Wr n m)/\P ρ' (M.take n)
def Dk (n0:Nat) (K:K3):K3:=fun d M=>K d M\/∃ n,n0<=n/\Y0 n d/\(∀ m∈M.take n,Wr n m)/\K d (M.take n)
section
variable {C:Cf} 
theorem BelowE.rep {n:Nat} {ρ':Ev} (b:BelowE n ρ ρ'):∀ {σ:St},RepE C I α σ ρ->RepE C I (α.take n) σ ρ':=by
 induction b with
 | nil=>exact fun h=>⟨h.1,fun i d e=>by simp at e⟩
 | @skip o r r' b ih =>
  intro σ h;cases σ with
  | nil=>cases h.1
  | cons s σ =>
   have h':RepE C I α σ r:=⟨by simpa using h.1,fun i d e=>by
    obtain ⟨v,a,b⟩:=h.2 (i+1) d (by simpa using e);exact ⟨v,by simpa using a,b⟩⟩
   obtain ⟨l,g⟩:=ih h';exists by rw [Jz,Jz,l],fun i d e=>?_;cases i with
   | zero=>simp at e
   | succ i =>
    obtain ⟨v,a,b⟩:=g i d (by simpa using e);exists v,by simpa using a,b
 | @keep d0 r r' hb b ih =>
  intro σ h;cases σ with
  | nil=>cases h.1
  | cons s σ =>
   have h':RepE C I α σ r:=⟨by simpa using h.1,fun i d e=>by
    obtain ⟨v,a,b⟩:=h.2 (i+1) d (by simpa using e);exact ⟨v,by simpa using a,b⟩⟩
   obtain ⟨l,g⟩:=ih h';exists by rw [Jz,Jz,l],fun i d e=>?_;cases i with
   | zero =>
    obtain ⟨v,a,b⟩:=h.2 0 d e;simp at e;subst e;exists v,a,hb _ _ _ _ b
   | succ i =>
    obtain ⟨v,a,b⟩:=g i d (by simpa using e);exists v,by simpa using a,b
def Sv {α0:List Addr} (p:α0<+:α) {n:Nat} (h:α0.length<=n):α0<+:α.take n:=by
 obtain ⟨t,rfl⟩:=p;rw [List.take_append,Gj h];exact Gb _ _
def Rel.take (R:Rel C Z I α H M) (n:Nat) (hz:Z.a.length<=n) (hb:∀ m∈M.take n,Wr n m):Rel C Z I (α.take n) H (M.take n):=by
 refine ⟨R.ai,Sv R.aa hz,R.sub,by rw [Jn,Jn,R.len],R.nd.sublist (List.take_sublist _ _),fun k a m h1 h2=>?_⟩;have h1':α[k]?=some a:=by
  rw [List.getElem?_take] at h1
  split at h1
  ·exact h1
  ·cases h1
 have h2':M[k]?=some m:=by
  rw [List.getElem?_take] at h2
  split at h2
  ·exact h2
  ·cases h2
 obtain ⟨a1,a2⟩:=R.cel k a m h1' h2';exists hb m (Gu h2) _ _ _ _ _ a1,a2
theorem Fin.dk {K:K3} (k:Fin C Z I α K Q) {n0:Nat} (hn:α.length=n0) (ha:Z.a<+:α):Fin C Z I α (Dk n0 K) Q:=fun v d I' α' H' M' s p R r h=>by
 rcases h with h | ⟨n,hl,hb,hm,h⟩
 ·exact k v d I' α' H' M' s p R r h
 ·exact k v d I' (α'.take n) H' (M'.take n) s (Sv p (by lia)) (R.take n (by have:=ha.length_le; lia) hm) (hb _ _ _ _ r) h
end
def Zi7 {n:Nat} {i:Int}:Y0 n (.int i):=fun _ _ _ _ r=>by cases r; exact .int _
def Zk8 {n:Nat} {i:Bool}:Y0 n (.bl i):=fun _ _ _ _ r=>by cases r; exact .bl _
def Zi3 {n:Nat} {i:Str}:Y0 n (.str i):=fun _ _ _ _ r=>by cases r; exact .str _
def Zi4 {n:Nat}:Y0 n .non:=fun _ _ _ _ r=>by cases r; exact .non
def Ze9 {n:Nat} :Y0 n (.code S):=fun _ _ _ _ r=>by cases r with | code h=>exact .code h
theorem Zfa {n k:Nat} (h:k<n):Y0 n (.cell k):=fun _ _ α _ r=>by
 cases r with
 | cell e=>exact .cell (by rw [List.getElem?_take,Dh h]; exact e)
theorem Tq {n:Nat} (h:∀ d∈ds,Y0 n d) {C:Cf} :∀ {vs:List V},Reps C I α vs ds->Reps C I (α.take n) vs ds:=by
 induction ds with
 | nil=>intro vs r; cases r; exact .nil
 | cons d ds ih =>
  intro vs r;cases r with
  | cons a b=>exact .cons (h d Jm _ _ _ _ a) (ih (fun x hx=>h x (Jk _ hx)) b)
def Zi6 {n:Nat} (h:∀ d∈ds,Y0 n d):Y0 n (.lst ds):=fun _ _ _ _ r=>by cases r with | lst e r=>exact .lst e (Tq h r)
def Zi8 {n:Nat} (h:∀ d∈ds,Y0 n d):Y0 n (.frz ds):=fun _ _ _ _ r=>by cases r with | frz e r=>exact .frz e (Tq h r)
def Zi2 {n:Nat} (h:∀ d∈ds,Y0 n d):Y0 n (.tup ds):=fun _ _ _ _ r=>by cases r with | tup e r=>exact .tup e (Tq h r)
def Zi5 {n:Nat}:∀ d∈([]:List D),Y0 n d:=fun _ h=>nomatch h
def Ze8 {n:Nat} {d:D} (h:Y0 n d) (r:∀ d∈ds,Y0 n d):∀ x∈d::ds,Y0 n x:=fun x hx=>by
 rcases Jq.mp hx with z | z
 ·rw [z]; exact h
 ·exact r x z
def Zo1 {n:Nat}:Wr n .hand:=fun _ _ _ _ _ h=>h
def Zse {n:Nat} {P:Addr} {p:Pos} {q:Str}:Wr n (.tab P p q):=fun _ _ _ _ _ h=>h
def Zsf {n:Nat} (h:∀ d∈ds,Y0 n d):Wr n (.lst ds):=fun _ _ _ _ _ x=>by
 obtain ⟨vs,e,r⟩:=x;exists vs,e,Tq h r
def WfM (M:Mem):Prop:=∀ m∈M,Wr M.length m
theorem To {n:Nat} {kvs:List (Key×D)} (h:∀ kv∈kvs,Y0 n kv.2) {C:Cf} :∀ {vs:List (Key×V)},RepK C I α vs kvs->RepK C I (α.take n) vs kvs:=by
 induction kvs with
 | nil=>intro vs r; cases r; exact .nil
 | cons d ds ih =>
  intro vs r;cases r with
  | cons a b=>exact .cons (h _ Jm _ _ _ _ a) (ih (fun x hx=>h x (Jk _ hx)) b)
theorem Tp {n:Nat} {kvs:List (List Key×D)} (h:∀ kv∈kvs,Y0 n kv.2) {C:Cf} :∀ {vs:List (List Key×V)},RepT C I α vs kvs->RepT C I (α.take n) vs kvs:=by
 induction kvs with
 | nil=>intro vs r; cases r; exact .nil
 | cons d ds ih =>
  intro vs r;cases r with
  | cons a b=>exact .cons (h _ Jm _ _ _ _ a) (ih (fun x hx=>h x (Jk _ hx)) b)
theorem Zi9 {n:Nat} {kvs:List (Str×D)} (h:∀ kv∈kvs,Y0 n kv.2) {C:Cf} :∀ {vs:List (Str×V)},RepF C I α vs kvs->RepF C I (α.take n) vs kvs:=by
 induction kvs with
 | nil=>intro vs r; cases r; exact .nil
 | cons d ds ih =>
  intro vs r;cases r with
  | cons a b=>exact .cons (h _ Jm _ _ _ _ a) (ih (fun x hx=>h x (Jk _ hx)) b)
mutual
theorem Rep.bel {C:Cf} {I:Hp} {α:List Addr}:∀ {v:V} {d:D},Rep C I α v d->Y0 α.length d:=by
 intro _ _ h;cases h with
 | non=>exact Zi4
 | bl b=>exact Zk8
 | int i=>exact Zi7
 | str x=>exact Zi3
 | ty n=>exact fun _ _ _ _ r=>by cases r; exact .ty _
 | «at» a=>exact fun _ _ _ _ r=>by cases r; exact .at _
 | tup e r=>exact Zi2 (Reps.bel r)
 | lst e r=>exact Zi6 (Reps.bel r)
 | frz e r=>exact Zi8 (Reps.bel r)
 | dct e r=>exact fun _ _ _ _ q=>by cases q with | dct e q=>exact .dct e (To (RepK.bel r) q)
 | dcT e r=>exact fun _ _ _ _ q=>by cases q with | dcT e q=>exact .dcT e (Tp (RepT.bel r) q)
 | code h=>exact Ze9
 | cell e=>exact Zfa (Jh.mp e).1
 | exc e f r=>exact fun _ _ _ _ q=>by cases q with | exc e f q=>exact .exc e f (Zi9 (RepF.bel r) q)
theorem Reps.bel {C:Cf} {I:Hp} {α:List Addr}:∀ {vs:List V} {ds:List D},Reps C I α vs ds->∀ d∈ds,Y0 α.length d:=by
 intro _ _ h;cases h with
 | nil=>exact Zi5
 | cons h r=>exact Ze8 (Rep.bel h) (Reps.bel r)
theorem RepK.bel {C:Cf} {I:Hp} {α:List Addr}:∀ {vs:List (Key×V)} {ds:List (Key×D)},RepK C I α vs ds->∀ kv∈ds,Y0 α.length kv.2:=by
 intro _ _ h;cases h with
 | nil=>exact fun _ h=>nomatch h
 | cons h r =>
  exact fun kv hk=>by
   rcases Jq.mp hk with z | z
   ·rw [z]; exact Rep.bel h
   ·exact RepK.bel r kv z
theorem RepF.bel {C:Cf} {I:Hp} {α:List Addr}:∀ {vs:List (Str×V)} {ds:List (Str×D)},RepF C I α vs ds->∀ kv∈ds,Y0 α.length kv.2:=by
 intro _ _ h;cases h with
 | nil=>exact fun _ h=>nomatch h
 | cons h r =>
  exact fun kv hk=>by
   rcases Jq.mp hk with z | z
   ·rw [z]; exact Rep.bel h
   ·exact RepF.bel r kv z
theorem RepT.bel {C:Cf} {I:Hp} {α:List Addr}:∀ {vs:List (List Key×V)} {ds:List (List Key×D)},RepT C I α vs ds->∀ kv∈ds,Y0 α.length kv.2:=by
 intro _ _ h;cases h with
 | nil=>exact fun _ h=>nomatch h
 | cons h r =>
  exact fun kv hk=>by
   rcases Jq.mp hk with z | z
   ·rw [z]; exact Rep.bel h
   ·exact RepT.bel r kv z
end
def Zsl {n:Nat} {ds:List (Key×D)} (h:∀ d∈ds,Y0 n d.2):Wr n (.dct ds):=fun _ _ _ _ _ x=>by
 obtain ⟨vs,e,r⟩:=x;exists vs,e,To h r
def Zsm {n:Nat} {ds:List (List Key×D)} (h:∀ d∈ds,Y0 n d.2):Wr n (.dcT ds):=fun _ _ _ _ _ x=>by
 obtain ⟨vs,e,r⟩:=x;exists vs,e,Tp h r
def Zsi {n:Nat} {ds:List (Key×D)} (h:∀ d∈ds,Y0 n d.2):Wr n (.drK ds):=fun _ _ _ _ _ x=>by
 obtain ⟨vs,e,r⟩:=x;exists vs,e,To h r
def Zsh {n:Nat} {ds:List (List Key×D)} (h:∀ d∈ds,Y0 n d.2):Wr n (.drT ds):=fun _ _ _ _ _ x=>by
 obtain ⟨vs,e,r⟩:=x;exists vs,e,Tp h r
def Zsj {n:Nat} {o:Obj} {vs:List (List Key×V)} {ds:List (List Key×D)} (h:∀ d∈ds,Y0 n d.2):Wr n (.dfT o vs ds):=fun _ _ _ _ _ x=>⟨x.1,Tp h x.2⟩
def Zsk {n:Nat} {o:Obj} {vs:List (Key×V)} {ds:List (Key×D)} (h:∀ d∈ds,Y0 n d.2):Wr n (.dfK o vs ds):=fun _ _ _ _ _ x=>⟨x.1,To h x.2⟩
theorem Zsg {n:Nat} {Cl:Addr} {fs:List (Str×D)} (h:∀ d∈fs,Y0 n d.2):Wr n (.ins Cl fs):=fun C I α H a x=>by
 obtain ⟨dx,vs,e,r⟩:=x;exists dx,vs,e,?_;clear e
 induction fs generalizing vs with
 | nil=>cases r; exact .nil
 | cons d ds ih =>
  cases r with
  | cons a b=>exact .cons ⟨a.1,h _ Jm _ _ _ _ a.2⟩ (ih (fun x hx=>h x (Jk _ hx)) _ b)
theorem MoAt.bel {C:Cf} {a:Addr} {m:MO} (h:MoAt C I α H a m):Wr α.length m:=by
 cases m with
 | lst ds=>obtain ⟨vs,e,r⟩:=h; exact Zsf r.bel
 | dct ds=>obtain ⟨vs,e,r⟩:=h; exact Zsl r.bel
 | dcT ds=>obtain ⟨vs,e,r⟩:=h; exact Zsm r.bel
 | drK ds=>obtain ⟨vs,e,r⟩:=h; exact Zsi r.bel
 | drT ds=>obtain ⟨vs,e,r⟩:=h; exact Zsh r.bel
 | dfT o vs ds=>exact Zsj h.2.bel
 | dfK o vs ds=>exact Zsk h.2.bel
 | ins Cl fs =>
  obtain ⟨dx,vs,e,r⟩:=h;refine Zsg fun kv hk=>?_;clear e
  induction r with
  | nil=>cases hk
  | cons a b ih =>
   rcases Jq.mp hk with z | z
   ·rw [z]; exact a.2.bel
   ·exact ih z
 | hand=>exact Zo1
 | tab P pos q=>exact Zse
def Rel.wf {C:Cf} (R:Rel C Z I α H M):WfM M:=fun m hm=>by
 obtain ⟨k,hk,rfl⟩:=Js hm;have hk':k < α.length:=by rw [R.len]; exact hk
 have:=(R.cel k _ _ (Ja hk') (Ja hk)).1.bel;rwa [R.len] at this
theorem BelS.belowE {n:Nat} {ρ0 ρ':Ev} (b:BelS n ρ0 ρ ρ'):(∀ (i:Nat) (d:D),ρ0[i]?=some (some d)->Y0 n d)->BelowE n ρ ρ':=by
 induction b with
 | nil=>exact fun _=>.nil
 | skip _ ih=>exact fun h=>.skip (ih fun i d e=>h (i+1) d (by simpa using e))
 | same _ ih=>exact fun h=>.keep (h 0 _ rfl) (ih fun i d e=>h (i+1) d (by simpa using e))
 | keep hb _ ih=>exact fun h=>.keep hb (ih fun i d e=>h (i+1) d (by simpa using e))
theorem Dr.out {C:Cf} {I0:Hp} {α0:List Addr} {H0:Hp} {M0:Mem} {P:Ev->Mem->Prop} {σ0:St} {ρ0:Ev} (h:Dr ρ0 M0 P ρ M) (R0:Rel C Z I0 α0 H0 M0) (E0:RepE C I0 α0 σ0 ρ0) (p:α0<+:α) (R:Rel C Z I α H M) (E:RepE C I α σ ρ) :
  ∃ α' ρ' M',α0<+:α'/\Rel C Z I α' H M'/\RepE C I α' σ ρ'/\P ρ' M':=by
 rcases h with h | ⟨ρ',⟨X,rfl⟩,hb,h⟩ | ⟨n,ρ',hl,hb,hm,h⟩
 ·exists α,ρ,M,p,R,E,h
 ·have hb':=hb.belowE fun i d e=>by
   obtain ⟨v,_,r⟩:=E0.2 i d e;have:=r.bel;rwa [R0.len] at this
  have et:(M0++X).take M0.length=M0:=Fo ..;have R1:=R.take M0.length (by rw [<- R0.len]; exact R0.aa.length_le) (by rw [et]; exact R0.wf);rw [et] at R1;exists α.take M0.length,ρ',M0,Sv p (by rw [R0.len]; exact Je _),R1,hb'.rep E,h
 ·exists α.take n,ρ',M.take n,Sv p (by rw [R0.len]; lia),R.take n (by have:=R0.aa.length_le; have:=R0.len; lia) hm,hb.rep E,h
section
variable {C:Cf} {t t':TS} {u u':TS3} {ue:TE3} {tc:TT} {uc:TT3} {ug:TG3} {gs:TGs} {ugs:TGs3}
def uSeq (u u':TS3):TS3:=fun E ρ M=>u { E with nx:=u' E } ρ M
def Zz (h1:SimS C Z t u) (h2:SimS C Z t' u'):SimS C Z (tSeq t t') (uSeq u u'):=fun I α σ H ρ M E D' R RE h F =>
 h1 I α σ H ρ M { E with nx:=u' E } { D' with nx:=t' D' } R RE h ⟨fun I1 α1 σ1 H1 ρ1 M1 s p R1 RE1 h1=>h2 I1 α1 σ1 H1 ρ1 M1 E D' R1 RE1 h1 (F.mono s p),F.rt,F.bk,F.ct⟩
def Zs8:TS3:=fun E ρ M=>E.nx ρ M
def Wa:SimS C Z Zp7 Zs8:=fun I α σ H ρ M E D' R RE h F=>F.nx I α σ H ρ M (.refl _) (Jd _) R RE h
def Ztg (ue:TE3):TS3:=fun E ρ M=>ue ρ M fun _ M1=>E.nx ρ M1
def Vu (he:SimE C Z te ue):SimS C Z (Zp8 te) (Ztg ue):=fun I α σ H ρ M E D' R RE h F =>
 he I α σ H ρ M _ _ R RE h fun v d I1 α1 H1 M1 s p R1 r h1=>F.nx I1 α1 σ H1 ρ M1 s p R1 (RE.mono s p) h1
def uRet (ue:TE3):TS3:=fun E ρ M=>ue ρ M E.rt
def We (he:SimE C Z te ue):SimS C Z (tRet te) (uRet ue):=fun I α σ H ρ M E D' R RE h F=>he I α σ H ρ M _ _ R RE h F.rt
def uIfS (c:TT3) (u u':TS3):TS3:=fun E ρ M=>c ρ M fun b M1=>if b=true then u E ρ M1 else u' E ρ M1
def Vt (hc:SimT C Z tc uc) (h1:SimS C Z t u) (h2:SimS C Z t' u'):SimS C Z (tIfS tc t t') (uIfS uc u u'):=fun I α σ H ρ M E D' R RE h F =>
 hc I α σ H ρ M _ _ R RE h fun b I1 α1 H1 M1 s p R1 h3=>by
  cases b with
  | true =>
   rw [Dh rfl] at h3 ⊢;exact h1 I1 α1 σ H1 ρ M1 E D' R1 (RE.mono s p) h3 (F.mono s p)
  | false =>
   rw [Dg Ju] at h3 ⊢;exact h2 I1 α1 σ H1 ρ M1 E D' R1 (RE.mono s p) h3 (F.mono s p)
def Zpq:TS3:=fun _ _ _=>False
def Zga:SimS C Z Zlg Zpq:=fun I α σ H ρ M E D' R RE h F=>h
def uAsg (ue:TE3) (ug:TG3):TS3:=fun E ρ M=>ue ρ M fun d M1=>ug d ρ M1 E.nx
def Yd (he:SimE C Z te ue) (hg:SimG C Z g ug):SimS C Z (tAsg te g) (uAsg ue ug):=fun I α σ H ρ M E D' R RE h F =>
 he I α σ H ρ M _ _ R RE h fun v d I1 α1 H1 M1 s p R1 r h1=>hg I1 α1 σ H1 ρ M1 v d _ _ R1 (RE.mono s p) r h1 (F.nx.mono s p)
def uG (i:Nat):TG3:=fun d ρ M K=>K (ρ.set i (some d)) M
def s_g (i:Nat):SimG C Z (Zam i) (uG i):=fun I α σ H ρ M v d K Q R RE r h k=>k I α _ H _ M (.refl _) (Jd _) R (RE.set r i) h
def Ztd:TGs3:=fun ds ρ M K=>ds=[]/\K ρ M
def Zps (ug:TG3) (ugs:TGs3):TGs3:=fun ds ρ M K=>∃ d r,ds=d::r/\ug d ρ M fun ρ' M'=>ugs r ρ' M' K
def Re:Zlb C Z gNil Ztd:=fun I α σ H ρ M vs ds K Q R RE r h k=>by
 obtain ⟨rfl,h⟩:=h;cases r;exists rfl,k I α σ H ρ M (.refl _) (Jd _) R RE h
theorem Xl (h1:SimG C Z g ug) (h2:Zlb C Z gs ugs):Zlb C Z (Zoo g gs) (Zps ug ugs):=fun I α σ H ρ M vs ds K Q R RE r h k=>by
 obtain ⟨d,r',rfl,h⟩:=h;cases r with
 | cons a b=>exact ⟨_,_,rfl,h1 I α σ H ρ M _ d _ _ R RE a h fun I1 α1 σ1 H1 ρ1 M1 s p R1 RE1 h3=>h2 I1 α1 σ1 H1 ρ1 M1 _ _ _ _ R1 RE1 (b.mono s p) h3 (k.mono s p)⟩
def Ztb (n:Nat) (ugs:TGs3):TG3:=fun d ρ M K=>∃ ds,Zmv d=some ds/\ds.length=n/\ugs ds ρ M K
def Rc {n:Nat} (h:Zlb C Z gs ugs):SimG C Z (gTup C.k n gs) (Ztb n ugs):=fun I α σ H ρ M v d K Q R RE r hh k=>by
 obtain ⟨ds,e,hl,hh⟩:=hh;obtain ⟨a,vs,rfl,ea,_,ra⟩:=Ut R r e;exists a,vs,rfl,SqT.of ea,by rw [ra.length]; exact hl,h I α σ H ρ M vs ds K Q R RE ra hh k
def Ztc (uo ui:TE3):TG3:=fun d ρ M K=>uo ρ M fun o M1=>ui ρ M1 fun i M2=>∃ k xs z j,o=.cell k/\i=.int z/\M2[k]?=some (.lst xs)/\ixN xs.length z=some j/\K ρ (M2.set k (.lst (xs.set j d)))
def Zlr {to ti:TE} {ui:TE3} (ho:SimE C Z to uo) (hi:SimE C Z ti ui):SimG C Z (gSub to ti Zqw) (Ztc uo ui):=fun I α σ H ρ M v d K Q R RE r hh k =>
 ho I α σ H ρ M _ _ R RE hh fun ov o I1 α1 H1 M1 s1 p1 R1 r1 h1=>hi I1 α1 σ H1 ρ M1 _ _ R1 (RE.mono s1 p1) h1 fun iv i I2 α2 H2 M2 s2 p2 R2 r2 h2=>by
  obtain ⟨kk,xs,z,j,rfl,rfl,e1,e2,h2⟩:=h2;cases r2;cases (r1.mono s2 p2) with
  | cell ec =>
   obtain ⟨us,eu,ru⟩:=Ur R2 ec e1;exists _,us,z,j,rfl,rfl,eu,by rw [ru.length]; exact e2,?_;exact k I2 α2 σ _ ρ _ (s1.trans s2) (p1.trans p2) (R2.putL ec (ru.set (r.mono (s1.trans s2) (p1.trans p2)) j)) (RE.mono (s1.trans s2) (p1.trans p2)) h2
def Zpp (uc:TT3) (u:TS3):TS3:=fun E ρ M=>∃ P:Nat->Ev->Mem->Prop,(∃ m,P m ρ M)/\∀ m ρ1 M1,P m ρ1 M1->uc ρ1 M1 fun b M2=>if b=true then u { E with nx:=fun ρ' M'=>∃ m',m'<m/\Dr ρ M (P m') ρ' M',ct:=fun ρ' M'=>∃ m',m'<m/\Dr ρ M (P m') ρ' M',bk:=E.nx } ρ1 M2 else E.nx ρ1 M2
theorem Zm1 (hc:SimT C Z tc uc) (hb:SimS C Z t u):SimS C Z (Zfp tc t) (Zpp uc u):=fun I α σ H ρ M E D' R RE h F=>by
 obtain ⟨P,⟨m0,h0⟩,hs⟩:=h;have hlen:=R.len;exists fun m σ1 H1=>∃ I1 α1 ρ1 M1,Same I I1/\α<+:α1/\Rel C Z I1 α1 H1 M1/\RepE C I1 α1 σ1 ρ1/\P m ρ1 M1,⟨m0,I,α,ρ,M,.refl _,Jd _,R,RE,h0⟩,?_;rintro m σ1 H1 ⟨I1,α1,ρ1,M1,s1,p1,R1,RE1,h1⟩;refine hc I1 α1 σ1 H1 ρ1 M1 _ _ R1 RE1 (hs m ρ1 M1 h1) fun b I2 α2 H2 M2 s2 p2 R2 h2=>?_;cases b with
 | false =>
  rw [Dg Ju] at h2 ⊢;exact F.nx I2 α2 σ1 H2 ρ1 M2 (s1.trans s2) (p1.trans p2) R2 (RE1.mono s2 p2) h2
 | true =>
  rw [Dh rfl] at h2 ⊢;refine ⟨fun σ' H'=>∃ m',m'<m/\∃ I1 α1 ρ1 M1,Same I I1/\α<+:α1/\Rel C Z I1 α1 H' M1/\RepE C I1 α1 σ' ρ1/\P m' ρ1 M1,fun σ' H' h=>h,?_⟩;have nx:FinS C Z I2 α2 (fun ρ' M'=>∃ m',m'<m/\Dr ρ M (P m') ρ' M') (fun σ' H'=>∃ m',m'<m/\∃ I1 α1 ρ1 M1,Same I I1/\α<+:α1/\Rel C Z I1 α1 H' M1/\RepE C I1 α1 σ' ρ1/\P m' ρ1 M1):=fun I3 α3 σ3 H3 ρ3 M3 s3 p3 R3 RE3 h3=>by
   obtain ⟨m',hm,h3⟩:=h3;obtain ⟨α4,ρ4,M4,p4,R4,RE4,h4⟩:=h3.out R RE (p1.trans (p2.trans p3)) R3 RE3;exists m',hm,I3,α4,ρ4,M4,s1.trans (s2.trans s3),p4,R4,RE4,h4
  exact hb I2 α2 σ1 H2 ρ1 M2 _ _ R2 (RE1.mono s2 p2) h2 ⟨nx,F.rt.mono (s1.trans s2) (p1.trans p2),F.nx.mono (s1.trans s2) (p1.trans p2),nx⟩
structure It3 where
 n:Nat
 item:Nat->D->Prop
 ok:Mem->Prop
abbrev TI3:=Ev->Mem->(It3->Mem->Prop)->Prop
def ItR (C:Cf) (Z:Anc) (I:Hp) (α:List Addr) (J:It) (j:It3):Prop:=∀ I' α' H' M',Same I I'->α<+:α'->Rel C Z I' α' H' M'->j.ok M' ->
 (∀ i,i<j.n->J.go i H'/\∀ x H2,J.yld i H' x H2->∃ I2 d,Same I' I2/\Rel C Z I2 α' H2 M'/\Rep C I2 α' x d/\j.item i d)/\J.stop j.n H'
def SimI (C:Cf) (Z:Anc) (w:TI) (u:TI3):Prop:=∀ I α σ H ρ M (K:It3->Mem->Prop) (R':It->Hp->Prop),Rel C Z I α H M->RepE C I α σ ρ->u ρ M K ->
 (∀ J j I' α' H' M',Same I I'->α<+:α'->Rel C Z I' α' H' M'->ItR C Z I' α' J j->K j M'->R' J H')->w σ H R'
def lit (M0:Mem) (d:D) (ds:List D):It3:=⟨ds.length,fun i x=>ds[i]?=some x,fun M=>Xt M d=some ds⟩
def uIL (ue:TE3):TI3:=fun ρ M K=>ue ρ M fun d M1=>∃ ds,Xt M1 d=some ds/\K ⟨ds.length,fun i x=>ds[i]?=some x,fun M=>Xt M d=some ds⟩ M1
def s_il (he:SimE C Z te ue):SimI C Z (Zrx C.k te) (uIL ue):=fun I α σ H ρ M K R' R RE h k =>
 he I α σ H ρ M _ _ R RE h fun v d I1 α1 H1 M1 s1 p1 R1 r1 h1=>by
  obtain ⟨ds,e,h1⟩:=h1;obtain ⟨a,vs,rfl,ea,ra⟩:=X4 R1 r1 e;exists a,rfl,⟨vs,ea⟩,k _ _ I1 α1 H1 M1 s1 p1 R1 (fun I2 α2 H2 M2 s2 p2 R2 ok=>?_) h1;obtain ⟨b,ws,eb,eq,rw'⟩:=X4 R2 (r1.mono s2 p2) ok;cases eb;exists fun i hi=>?_,⟨ws,eq,by rw [rw'.length]; exact Je _⟩;have hi2:i<ws.length:=by rw [rw'.length]; exact hi
  exists ⟨ws,ws[i],eq,Ja hi2⟩,fun x H3 y=>?_;obtain ⟨rfl,y⟩:=y;have:=y ws eq;rw [Ja hi2] at this;cases this;exists I2,ds[i],.refl _,R2,rw'.at hi2 hi,Ja hi
def uIT (ue:TE3):TI3:=fun ρ M K=>ue ρ M fun d M1=>∃ ds,Zmv d=some ds/\K ⟨ds.length,fun i x=>ds[i]?=some x,fun _=>True⟩ M1
def s_it (he:SimE C Z te ue):SimI C Z (iTup C.k te) (uIT ue):=fun I α σ H ρ M K R' R RE h k =>
 he I α σ H ρ M _ _ R RE h fun v d I1 α1 H1 M1 s1 p1 R1 r1 h1=>by
  obtain ⟨ds,e,h1⟩:=h1;obtain ⟨a,vs,rfl,ea,ia,ra⟩:=Ut R1 r1 e;exists a,rfl,⟨vs,SqT.of ea⟩,k _ _ I1 α1 H1 M1 s1 p1 R1 (fun I2 α2 H2 M2 s2 p2 R2 ok=>?_) h1;have eq:SqT C.k H2 a vs:=SqT.of (R2.sub _ _ (s2 _ _ ia));have rw':=ra.mono s2 p2;exists fun i hi=>?_,⟨vs,eq,by rw [rw'.length]; exact Je _⟩;have hi2:i<vs.length:=by rw [rw'.length]; exact hi
  exists ⟨vs,vs[i],eq,Ja hi2⟩,fun x H3 y=>?_;obtain ⟨rfl,y⟩:=y;have:=y vs eq;rw [Ja hi2] at this;cases this;exists I2,ds[i],.refl _,R2,rw'.at hi2 hi,Ja hi
def Zge (lo:Int) (n:Nat):It3:=⟨n,fun i x=>x=.int (lo+i),fun _=>True⟩
def Zrp {lo:Int} {n:Nat}:ItR C Z I α (Itr lo n) (Zge lo n):=fun I' α' H' M' s p R _=>⟨fun i hi=>⟨hi,fun x H2 y=>by
 obtain ⟨rfl,rfl⟩:=y;exact ⟨I',_,.refl _,R,.int _,rfl⟩⟩,Je _⟩
variable {ta:TA} {ua:TA3}
def uIR1 (ua:TA3):TI3:=fun ρ M K=>ua ρ M fun ds M1=>∃ j:Int,ds=[.int j]/\(-(2 ^ 62)<=j/\j<2 ^ 62)/\K (Zge 0 j.toNat) M1
def Zjx (ha:SimA C Z ta ua):SimI C Z (Zrw ta) (uIR1 ua):=fun I α σ H ρ M K R' R RE h k =>
 ha I α σ H ρ M _ _ R RE h fun vs ds I1 α1 H1 M1 s1 p1 R1 r1 h1=>by
  obtain ⟨j,rfl,⟨h2,h3⟩,h1⟩:=h1;cases r1 with
  | cons a b =>
   cases b;cases a;exists j,rfl,h2,h3,k _ _ I1 α1 H1 M1 s1 p1 R1 Zrp h1
def uIR2 (ua:TA3):TI3:=fun ρ M K=>ua ρ M fun ds M1=>∃ i j:Int,ds=[.int i,.int j]/\(-(2 ^ 62)<=i/\i<2 ^ 62/\-(2 ^ 62)<=j/\j<2 ^ 62)/\K (Zge i (j-i).toNat) M1
def Zql (ha:SimA C Z ta ua):SimI C Z (Zrv ta) (uIR2 ua):=fun I α σ H ρ M K R' R RE h k =>
 ha I α σ H ρ M _ _ R RE h fun vs ds I1 α1 H1 M1 s1 p1 R1 r1 h1=>by
  obtain ⟨i,j,rfl,h2,h1⟩:=h1;cases r1 with
  | cons a b =>
   cases b with
   | cons b c =>
    cases c;cases a;cases b;exists i,j,rfl,h2,k _ _ I1 α1 H1 M1 s1 p1 R1 Zrp h1
def uFor (ui:TI3) (ug:TG3) (ub:TS3):TS3:=fun E ρ M=>ui ρ M fun j M1=>∃ P:Nat->Ev->Mem->Prop,(∀ i ρ M,i<=j.n->P i ρ M->j.ok M)/\P 0 ρ M1 /\
 (∀ i x ρ1 M',i<j.n->j.item i x->P i ρ1 M'->ug x ρ1 M' fun ρ2 M2=>ub { E with nx:=Dr ρ M1 (P (i+1)),ct:=Dr ρ M1 (P (i+1)),bk:=E.nx } ρ2 M2)/\∀ ρ M,P j.n ρ M->E.nx ρ M
theorem Vb {ui:TI3} (hi:SimI C Z wi ui) (hg:SimG C Z g ug) (hb:SimS C Z t u):SimS C Z (tFor wi g t) (uFor ui ug u):=fun I α σ H ρ M E D' R RE h F =>
 hi I α σ H ρ M _ _ R RE h fun J j I1 α1 H1 M1 s1 p1 R1 IR h1=>by
  obtain ⟨P,hok,h0,hs,he⟩:=h1;have hlen:=R1.len;exists fun i m σ' H'=>m=j.n-i/\i<=j.n/\∃ I2 α2 ρ2 M2,Same I1 I2/\α1<+:α2/\Rel C Z I2 α2 H' M2/\RepE C I2 α2 σ' ρ2/\P i ρ2 M2,⟨j.n,rfl,Ge _,I1,α1,ρ,M1,.refl _,Jd _,R1,RE.mono s1 p1,h0⟩,?_;rintro i m σ' H' ⟨rfl,hi,I2,α2,ρ2,M2,s2,p2,R2,RE2,h2⟩;obtain ⟨go,stop⟩:=IR I2 α2 H' M2 s2 p2 R2 (hok i ρ2 M2 hi h2)
  by_cases hlt:i<j.n
  ·obtain ⟨g1,g2⟩:=go i hlt;refine .inr ⟨g1,fun σ3 H3=>∃ I3 α3 ρ3 M3,Same I1 I3/\α1<+:α3/\Rel C Z I3 α3 H3 M3/\RepE C I3 α3 σ3 ρ3/\P (i+1) ρ3 M3,fun σ3 H3 h3=>⟨j.n-(i+1),by lia,rfl,hlt,h3⟩,fun x H3 y=>?_⟩;obtain ⟨I3,d,s3,R3,r3,it⟩:=g2 x H3 y;refine hg I3 α2 σ' H3 ρ2 M2 x d _ _ R3 (RE2.mono s3 (Jd _)) r3 (hs i d ρ2 M2 hlt it h2) fun I4 α4 σ4 H4 ρ4 M4 s4 p4 R4 RE4 h4=>?_;have nx:FinS C Z I4 α4 (Dr ρ M1 (P (i+1))) (fun σ3 H3=>∃ I3 α3 ρ3 M3,Same I1 I3/\α1<+:α3/\Rel C Z I3 α3 H3 M3/\RepE C I3 α3 σ3 ρ3/\P (i+1) ρ3 M3):=fun I5 α5 σ5 H5 ρ5 M5 s5 p5 R5 RE5 h5=>by
    obtain ⟨α6,ρ6,M6,p6,R6,RE6,h6⟩:=h5.out R1 (RE.mono s1 p1) (p2.trans (p4.trans p5)) R5 RE5;exists I5,α6,ρ6,M6,s2.trans (s3.trans (s4.trans s5)),p6,R6,RE6,h6
   have F4:=F.mono (s1.trans (s2.trans (s3.trans s4))) (p1.trans (p2.trans p4));exact hb I4 α4 σ4 H4 ρ4 M4 _ _ R4 RE4 h4 ⟨nx,F4.rt,F4.nx,nx⟩
  ·have e:i=j.n:=by lia
   subst e;exact .inl ⟨stop,F.nx I2 α2 σ' H' ρ2 M2 (s1.trans s2) (p1.trans p2) R2 RE2 (he ρ2 M2 h2)⟩
def sg3 (ρ:Ev) (T:List Str) (cs:List Nat):Ev:=T.map (fun _=>none)++cs.map fun i=>ρ.getD i none
def RepE.sg (h:RepE C I α σ ρ) (T:List Str) (cs:List Nat):RepE C I α (sgOf σ T cs) (sg3 ρ T cs):=by
 exists by unfold sgOf sg3; simp,fun i d e=>?_;unfold sg3 at e;unfold sgOf
 by_cases hi:i<T.length
 ·rw [Jr (by simpa using hi),J9,Ja hi] at e;simp at e
 ·rw [J8 (by simpa using hi),J9] at e;rw [J8 (by simpa using hi),J9];simp only [Jb] at e ⊢;cases hc:cs[i-T.length]? with
  | none=>rw [hc] at e; cases e
  | some c =>
   rw [hc] at e;simp only [Fg,Option.some.injEq] at e ⊢;rw [Gn] at e ⊢;cases hr:ρ[c]? with
   | none=>rw [hr] at e; cases e
   | some o =>
    rw [hr] at e;cases e;obtain ⟨v,e2,r⟩:=h.2 c d hr;exists v,by rw [e2]; rfl,r
variable {tt:TT} {ut:TT3} 
def cmp3 (ui:TI3) (ug:TG3) (ut:TT3) (ue:TE3) (T:List Str) (cs:List Nat) (ρ:Ev) (M:Mem) (F:List D->Mem->Prop):Prop:=ui ρ M fun j M1=>j.n<=sizeLine/\∃ P:Nat->List D->Mem->Prop,(∀ i ys M,i<=j.n->P i ys M->j.ok M)/\P 0 [] M1 /\
 (∀ i x ys M,i<j.n->j.item i x->P i ys M->ug x (sg3 ρ T cs) M fun ρ2 M2=>ut ρ2 M2 fun b M3=>if b=true then ue ρ2 M3 fun y M4=>P (i+1) (ys++[y]) M4 else P (i+1) ys M3)/\∀ ys M,P j.n ys M->F ys M
def Ztk (ui:TI3) (ug:TG3) (ut:TT3) (ue:TE3) (T:List Str) (cs:List Nat):TE3:=fun ρ M K=>cmp3 ui ug ut ue T cs ρ M fun ys M1=>K (.lst ys) M1
def Zpv (ui:TI3) (ug:TG3) (ut:TT3) (ue:TE3) (T:List Str) (cs:List Nat):TE3:=fun ρ M K=>cmp3 ui ug ut ue T cs ρ M fun ys M1=>K (.cell M1.length) (M1++[.lst ys])
theorem Zd4 {ui:TI3} (hi:SimI C Z wi ui) (hg:SimG C Z g ug) (ht:SimT C Z tt ut) (he:SimE C Z te ue) {F:List D->Mem->Prop} (R:Rel C Z I α H M) (RE:RepE C I α σ ρ) (h:cmp3 ui ug ut ue T cs ρ M F)
  (k:∀ ys vs I' α' H' M',Same I I'->α<+:α'->Rel C Z I' α' H' M'->Reps C I' α' vs ys->F ys M'->∀ p,H' p=none->Q (.ref p) (upd H' p (.lst vs))):Zft wi g tt te T cs σ H Q :=
 hi I α σ H ρ M _ _ R RE h fun J j I1 α1 H1 M1 s1 p1 R1 IR h1=>by
  obtain ⟨hz,P,hok,h0,hs,hd⟩:=h1;exists fun i m vs H'=>m=j.n-i/\i<=j.n/\∃ I2 α2 ys M2,Same I1 I2/\α1<+:α2/\Rel C Z I2 α2 H' M2/\Reps C I2 α2 vs ys/\ys.length<=i/\P i ys M2,⟨j.n,rfl,Ge _,I1,α1,[],M1,.refl _,Jd _,R1,.nil,Je _,h0⟩,?_;rintro i m vs H' ⟨rfl,hi,I2,α2,ys,M2,s2,p2,R2,r2,hl,h2⟩;obtain ⟨go,stop⟩:=IR I2 α2 H' M2 s2 p2 R2 (hok i ys M2 hi h2);have hvl:=r2.length
  by_cases hlt:i<j.n
  ·obtain ⟨g1,g2⟩:=go i hlt;refine .inr ⟨g1,by lia,fun vs3 H3=>∃ I3 α3 ys3 M3,Same I1 I3/\α1<+:α3/\Rel C Z I3 α3 H3 M3/\Reps C I3 α3 vs3 ys3/\ys3.length<=i+1/\P (i+1) ys3 M3,fun vs3 H3 h3=>⟨j.n-(i+1),by lia,rfl,hlt,h3⟩,fun x H3 y=>?_⟩;obtain ⟨I3,d,s3,R3,r3,it⟩:=g2 x H3 y;have RE3:RepE C I3 α2 σ ρ:=RE.mono (s1.trans (s2.trans s3)) (p1.trans p2);refine hg I3 α2 _ H3 _ M2 x d _ _ R3 (RE3.sg T cs) r3 (hs i d ys M2 hlt it h2) fun I4 α4 σ4 H4 ρ4 M4 s4 p4 R4 RE4 h4=>?_;refine ht I4 α4 σ4 H4 ρ4 M4 _ _ R4 RE4 h4 fun b I5 α5 H5 M5 s5 p5 R5 h5=>?_;cases b with
   | true =>
    rw [Dh rfl] at h5 ⊢;refine he I5 α5 σ4 H5 ρ4 M5 _ _ R5 (RE4.mono s5 p5) h5 fun v e I6 α6 H6 M6 s6 p6 R6 r6 h6=>?_;exists I6,α6,ys++[e],M6,s2.trans (s3.trans (s4.trans (s5.trans s6))),p2.trans (p4.trans (p5.trans p6)),R6,(r2.mono (s3.trans (s4.trans (s5.trans s6))) (p4.trans (p5.trans p6))).app (.one r6),?_,h6;rw [Jc,Gs];lia
   | false =>
    rw [Dg Ju] at h5 ⊢;exists I5,α5,ys,M5,s2.trans (s3.trans (s4.trans s5)),p2.trans (p4.trans p5),R5,r2.mono (s3.trans (s4.trans s5)) (p4.trans p5),by lia,h5
  ·have e:i=j.n:=by lia
   subst e;exact .inl ⟨stop,by lia,k ys vs I2 α2 H' M2 (s1.trans s2) (p1.trans p2) R2 r2 (hd ys M2 h2)⟩
def Vo {ui:TI3} (hi:SimI C Z wi ui) (hg:SimG C Z g ug) (ht:SimT C Z tt ut) (he:SimE C Z te ue):SimE C Z (Zft wi g tt te T cs) (Ztk ui ug ut ue T cs):=fun I α σ H ρ M K Q R RE h k =>
 Zd4 hi hg ht he R RE h fun ys vs I' α' H' M' s p R' r hF q hq=>by
  obtain ⟨R2,s2,e2⟩:=R'.new (o:=.lst vs) hq;exact k _ _ _ α' _ M' (s.trans s2) p R2 (.lst e2 (r.mono s2 (Jd _))) hF
def Znc {ui:TI3} (hi:SimI C Z wi ui) (hg:SimG C Z g ug) (ht:SimT C Z tt ut) (he:SimE C Z te ue):SimE C Z (Zft wi g tt te T cs) (Zpv ui ug ut ue T cs):=fun I α σ H ρ M K Q R RE h k =>
 Zd4 hi hg ht he R RE h fun ys vs I' α' H' M' s p R' r hF q hq=>by
  obtain ⟨R2,p2,e2⟩:=R'.cell (o:=.lst vs) (m:=.lst ys) hq fun H' e=>⟨vs,e,r⟩;exact k _ _ I' _ _ _ s (p.trans p2) R2 (.cell e2) hF
def Zs4:TT3:=fun _ M K=>K true M
def Rb:SimT C Z Zp2 Zs4:=fun I α σ H ρ M K Q R E h k=>k true I α H M (.refl _) (Jd _) R h
abbrev Sp3:=List D->Mem->K3->Prop
def spOf (C:Cf) (sp:Sp3):Sp:=fun vs H Q _=>∃ Z I α M ds K,Rel C Z I α H M/\Reps C I α vs ds/\sp ds M K/\Fin C Z I α K Q
def Ztl (sp:Sp3) (ua:TA3):TE3:=fun ρ M K=>ua ρ M fun ds M1=>sp ds M1 K
def Yj {sp:Sp3} {E0':XK} (ha:SimA C Z ta ua):SimE C Z (Zfu (spOf C sp) [] E0' ta) (Ztl sp ua):=fun I α σ H ρ M K Q R RE h k =>
 ha I α σ H ρ M _ _ R RE h fun vs ds I1 α1 H1 M1 s1 p1 R1 r1 h1=>by
  rw [J0];exists Z,I1,α1,M1,ds,K,R1,r1,h1,k.mono s1 p1
def Cal.imp {w:World} {base:Heap} {x:Str} {k:Nat} (c:Cal P w K mg base x k ps sp) (h:∀ vs H Q E,sp' vs H Q E->sp vs H Q E):Cal P w K mg base x k ps sp' :=
 let ⟨f,fd,a,b⟩:=c
 ⟨f,fd,a.imp h,b⟩
def Nr (N:List Str) (ds:List D):Ev:=ds.map some++List.replicate (N.length-ds.length) none
def N1 (r:Reps C I α vs ds) (N:List Str):RepE C I α (L2.Uz N vs) (Nr N ds):=by
 have hl:=r.length;exists by unfold L2.Uz Nr; simp [hl],fun i d e=>?_;unfold Nr at e;unfold L2.Uz
 by_cases hi:i<ds.length
 ·rw [Jr (by simpa using hi),J9,Ja hi] at e;have e':ds[i]=d:=by simpa using e
  rw [Jr (by simpa [hl] using hi),J9,Ja (by rw [hl]; exact hi)];exists ·,e' ▸ r.at (by rw [hl]; exact hi) hi
 ·rw [J8 (by simpa using hi),List.getElem?_replicate] at e
  split at e <;> cases e
def Fun.ok3 {w:World} {base:Heap} {x:Str} {f:Addr} {k:Nat} {sp:Sp3} (F:Fun K x qual st f fd) (S:FnScope N ps (Zh st)) (len:∀ ds M K,sp ds M K->ds.length=ps.length)
  (hbody:∀ (cdv:Value) (A:Around) (outer:List Env) (s:Shared) (H:Hp) (E:XK),Room k (A.deeper (PyProof.Rows.envOfC qual (Zh st) s.heap.objs.size f cdv)) ->
   ∃ t u,PSs (cxOf CX0 P w K mg base N qual (Zh st) f cdv A outer s H E).nox (Zu st) t/\(∀ Z,SimS C Z t u)/\∀ ds M K,WfM M->(∀ d∈ds,Y0 M.length d)->sp ds M K->u { nx:=fun _ M'=>Dk M.length K .non M',rt:=Dk M.length K } (Nr N ds) M):FnOk P w K mg base CX0 (k+1) f fd ps (spOf C sp):=by
 refine F.ok S (fun vs H Q E h=>?_) (fun cdv A outer s H vs Q E hr h=>?_)
 ·obtain ⟨Z,I,α,M,ds,K,R,r,h,_⟩:=h;rw [r.length];exact len ds M K h
 ·obtain ⟨t,u,h1,h2,h3⟩:=hbody cdv A outer s H E hr;obtain ⟨Z,I,α,M,ds,K,R,r,h,k⟩:=h;have kd:=k.dk R.len R.aa;exists t,h1,h2 Z I α _ H _ M _ _ R (N1 r N) (h3 ds M K R.wf (by rw [<- R.len]; exact r.bel) h) ⟨fun I1 α1 σ1 H1 ρ1 M1 s1 p1 R1 _ h1=>kd _ _ I1 α1 H1 M1 s1 p1 R1 .non h1,kd,fun _ _ _ _ _ _ _ _ _ _ h=>h.elim,fun _ _ _ _ _ _ _ _ _ _ h=>h.elim⟩
end
section
variable {C:Cf} 
def Rel.full (R:Rel C Z I α H M):∃ I',Same I I'/\Rel C Z I' α H M/\∀ b o,H b=some o->b∉α->I' b=some o:=by
 have s:Same I (fun b=>if b∈α then none else H b):=fun b o e=>by
  have hb:b∉α:=fun hb=>by
   obtain ⟨k,hk,rfl⟩:=Js hb;have hk':k<M.length:=by rw [<- R.len]; exact hk
   rw [(R.cel k _ _ (Ja hk) (Ja hk')).2] at e;cases e
  show (if b∈α then none else H b)=some o;rw [Dg hb];exact R.sub b o e
 exists _,s,⟨R.ai.trans s,R.aa,fun b o e=>?_,R.len,R.nd,fun k a m h1 h2=>?_⟩,fun b o e hb=>?_
 ·have e':(if b∈α then none else H b)=some o:=e
  split at e'
  ·cases e'
  ·exact e'
 ·exists (R.cel k a m h1 h2).1.mono s (Jd _) rfl,?_;show (if a∈α then none else H a)=none;rw [Dh (Gu h1)]
 ·show (if b∈α then none else H b)=some o;rw [Dg hb];exact e
def Rel.out (R:Rel C Z I α H M) (h:H l=none):l∉α:=fun hl=>by
 obtain ⟨k,hk,e⟩:=Js hl;exact R.cellNe (Ja hk) h e
theorem Rel.tupOut (R:Rel C Z I α H M) (h:H l=some (.tup vs)):l∉α:=fun hl=>by
 obtain ⟨k,hk,rfl⟩:=Js hl;have hk':k<M.length:=by rw [<- R.len]; exact hk
 have:=(R.cel k _ _ (Ja hk) (Ja hk')).1;cases hm:M[k] with
 | lst ds=>rw [hm] at this; obtain ⟨vs,e,_⟩:=this; rw [h] at e; cases e
 | dct ds=>rw [hm] at this; obtain ⟨vs,e,_⟩:=this; rw [h] at e; cases e
 | dcT ds=>rw [hm] at this; obtain ⟨vs,e,_⟩:=this; rw [h] at e; cases e
 | drK ds=>rw [hm] at this; obtain ⟨vs,e,_⟩:=this; rcases e with e | ⟨o,e⟩ <;> (rw [h] at e; cases e)
 | drT ds=>rw [hm] at this; obtain ⟨vs,e,_⟩:=this; rcases e with e | ⟨o,e⟩ <;> (rw [h] at e; cases e)
 | dfT o vs ds=>rw [hm] at this; have e:=this.1; rw [h] at e; cases e
 | dfK o vs ds=>rw [hm] at this; have e:=this.1; rw [h] at e; cases e
 | ins Cl fs=>rw [hm] at this; obtain ⟨dx,vs,e,_⟩:=this; rw [h] at e; cases e
 | hand=>rw [hm] at this; obtain ⟨d,k,c,cs,e,_⟩:=this; rw [h] at e; cases e
 | tab P pos q=>rw [hm] at this; obtain ⟨_,ps,e,_⟩:=this; rw [h] at e; cases e
def Rel.same (R:Rel C Z I α H M) (s:Same H H'):Rel C Z I α H' M:=by
 exists R.ai,R.aa,R.sub.trans s,R.len,R.nd,fun k a m h1 h2=>?_;obtain ⟨a1,a2⟩:=R.cel k a m h1 h2;obtain ⟨o,e⟩:=a1.some;exists a1.mono (.refl _) (Jd _) ((s _ _ e).trans e.symm),a2
def Rel.grow (R:Rel C Z I α H M) {k:Nat} {p c:Addr} {cs:List Int} (ha:α[k]?=some p) (hm:M[k]?=some .hand) (hh:HandAt H' p c) (ic:I c=some (.lst (cs.map V.int))) (hc:cs≠[]/\cs.length<=63/\∀ c∈cs,0<=c) (g:Grow p H H'):Rel C Z I α H' M:=by
 have ip:I p=none:=(R.cel k p _ ha hm).2;exists R.ai,R.aa,fun b o e=>g b o (R.sub b o e) (fun z=>by rw [z,ip] at e; cases e),R.len,R.nd,fun j a m h1 h2=>?_;obtain ⟨a1,a2⟩:=R.cel j a m h1 h2
 by_cases e:k=j
 ·subst e;rw [ha] at h1;cases h1;rw [hm] at h2;cases h2;obtain ⟨d0,i0,cs',x1,x2,x3,x4,x5,x6,x7⟩:=hh.ex;exists ⟨d0,i0,c,cs,x1,ic,hc.1,hc.2.1,x5,x6,hc.2.2⟩,ip
 ·obtain ⟨o,eo⟩:=a1.some;have ne:a≠p:=fun z=>by
   obtain ⟨hj,ej⟩:=Jh.mp h1;obtain ⟨hk,ek⟩:=Jh.mp ha;rw [<- ej,<- ek] at z;exact e ((Bl R.nd).mp z).symm
  exists a1.mono (.refl _) (Jd _) ((g _ _ eo ne).trans eo.symm),a2
def Rel.hand (R:Rel C Z I α H M) {k:Nat} {p:Addr} (ha:α[k]?=some p) (hm:M[k]?=some .hand):∃ c cs,HandAt H p c/\I c=some (.lst (cs.map V.int))/\cs≠[]/\cs.length<=63/\∀ c∈cs,0<=c:=by
 obtain ⟨d,i,c,cs,e,ic,h1,h2,h3,h4,h5⟩:=(R.cel k p _ ha hm).1;exists c,cs,⟨d,i,cs,e,R.sub _ _ ic,h1,h2,h3,h4,h5⟩,ic,h1,h2,h5
theorem Rel.cellAt (R:Rel C Z I α H M) {m:MO} (il:I l=none) (hl:l∉α) (hm:MoAt C I α H l m):Rel C Z I (α++[l]) H (M++[m])/\α<+:(α++[l])/\(α++[l])[M.length]?=some l:=by
 refine ⟨⟨R.ai,R.aa.trans (Gb _ _),R.sub,by rw [Jc,Jc,R.len]; rfl,?_,fun k a x h1 h2=>?_⟩,Gb _ _,by rw [<- R.len]; simp⟩
 ·rw [Gv];exists R.nd,by simp,fun a ha b hb e=>hl (by rw [<- Jj.mp hb,<- e]; exact ha)
 ·by_cases hk:k < α.length
  ·rw [Jr hk] at h1;rw [Jr (by rw [<- R.len]; exact hk)] at h2;obtain ⟨a1,a2⟩:=R.cel k a x h1 h2;exists a1.mono (.refl _) (Gb _ _) rfl,a2
  ·obtain ⟨hk2,_⟩:=Jh.mp h1;rw [Jc,Gs] at hk2;have e:k=α.length:=by lia
   subst e;have e1:(α++[l])[α.length]?=some l:=by simp
   have e2:(M++[m])[α.length]?=some m:=by rw [R.len]; simp
   rw [e1] at h1;rw [e2] at h2;cases h1;cases h2;exists hm.mono (.refl _) (Gb _ _) rfl,il
end
variable {ui:L3.TI3}
def wD (w:List Int):D:=.tup (w.map .int)
def pD (p:Pr):D:=.tup [.int p.1,wD p.2]
def oD:Option Int->D
 | some z=>.int z
 | none=>.non
section
variable {C:Cf} 
def Ztz (s:∀ b xs,H b=some (.tup xs)->I b=some (.tup xs)) {v:V} {w:List Int} (h:Zcn H v w):Rep C I α v (wD w):=by
 obtain ⟨t,rfl,e⟩:=h;exact .tup (s _ _ e) (.ints w)
def Zt0 (s:∀ b xs,H b=some (.tup xs)->I b=some (.tup xs)) {v:V} {p:Pr} (h:Ng H v p):Rep C I α v (pD p):=by
 obtain ⟨t,tw,rfl,e,e2⟩:=h;exact .tup (s _ _ e) (.cons (.int _) (.one (.tup (s _ _ e2) (.ints p.2))))
theorem Pk {F:V->τ->Prop} {f:τ->D} (h:∀ v a,F v a->Rep C I α v (f a)):∀ {vs:List V} {as:List τ},Paired F vs as->Reps C I α vs (as.map f):=by
 intro _ _ hz9;cases hz9 with
 | nil=>
  exact .nil
 | cons a b=>
  exact .cons (h _ _ a) (Pk h b)
theorem Zbw {F:V->τ->Prop} {f:τ->D} (h:∀ v a,Rep C I α v (f a)->F v a):∀ {vs:List V} {as:List τ},Reps C I α vs (as.map f)->Paired F vs as
 | _,[],r=>by cases r; exact .nil
 | _,a::as,r=>by
  cases r with
  | cons x y=>exact .cons (h _ _ x) (Zbw h y)
theorem Zpm (s:Same I H) {v:V} {w:List Int} (h:Rep C I α v (wD w)):Zcn H v w:=by
 cases h with
 | tup e r =>
  rw [r.of_ints w] at e;exists ·,s _ _ e
theorem Zt5 (s:Same I H) {v:V} {p:Pr} (h:Rep C I α v (pD p)):Ng H v p:=by
 cases h with
 | tup e r =>
  cases r with
  | cons a b =>
   cases b with
   | cons b c =>
    cases c;cases a;obtain ⟨t,rfl,e2⟩:=Zpm s b;exists _,t,rfl,s _ _ e,e2
theorem Zgf:∀ (os:List (Option Int)),Reps C I α (os.map oV) (os.map oD)
 | []=>.nil
 | none::r=>.cons .non (Zgf r)
 | some z::r=>.cons (.int z) (Zgf r)
end
section
variable {C:Cf} 
def Zkx:Sp3:=fun ds M K=>∃ k n,ds=[.cell k,.int n]/\M[k]?=some .hand/\(0<n/\n<1073741824)/\∀ r,0<=r->r<n->K (.int r) M
theorem Zsv {E:XK} (h:spOf C Zkx vs H Q E):Qp vs H Q E:=by
 obtain ⟨Z,I,α,M,ds,K,R,r,⟨k,n,rfl,hm,⟨n0,n1⟩,h⟩,kk⟩:=h;cases r with
 | cons r1 r2 =>
  cases r2 with
  | cons r2 r3 =>
   cases r3;cases r2;cases r1 with
   | @cell p _ ha =>
    obtain ⟨c,cs,hh,ic,hc⟩:=R.hand ha hm;exists p,c,n,rfl,hh,n0,n1,fun z H' z0 z1 hh' g _=>kk _ _ I α H' M (.refl _) (Jd _) (R.grow ha hm hh' ic hc g) (.int z) (h z z0 z1)
def Zr9:Sp3:=fun ds M K=>∃ (ns:List Int) (i:Int),ds=[.frz (ns.map .int),.int i]/\(ns.length<=63/\0<=i/\i<2 ^ 60)/\K (.cell M.length) (M++[.hand])
theorem Zr2 {v:V} (R:Rel C Z I α H M) (r:Rep C I α v (.frz (ns.map .int))):∃ a,v=.ref a/\SqL C.k H a (ns.map V.int):=by
 cases r with
 | frz e r =>
  rw [r.of_ints ns] at e;exists ·,R.sub.seq e
theorem Zsu {E:XK} (h:spOf C Zr9 vs H Q E):Zlj C.k vs H Q E:=by
 obtain ⟨Z,I,α,M,ds,K,R,r,⟨ns,i,rfl,⟨hl,i0,i1⟩,h⟩,kk⟩:=h;cases r with
 | cons r1 r2 =>
  cases r2 with
  | cons r2 r3 =>
   cases r3;cases r2;obtain ⟨a,rfl,hS⟩:=Zr2 R r1;refine ⟨a,ns,i,rfl,hS,hl,i0,i1,fun p c H' np nc hh s=>?_⟩;have R1:=R.same s;have pc:p≠c:=hh.ne;obtain ⟨d0,i0',cs,x1,x2,x3,x4,x5,x6,x7⟩:=hh.ex;have ipn:I p=none:=R.sub.free np;have icn:I c=none:=R.sub.free nc;have R2:Rel C Z (upd I c (.lst (cs.map V.int))) α H' M:=by
    exists R1.ai.trans (Zb icn),R1.aa,fun b o e=>?_,R1.len,R1.nd,fun k a m h1 h2=>?_
    ·by_cases z:b=c
     ·subst z; rw [Zd] at e; cases e; exact x2
     ·rw [Zl z] at e; exact R1.sub b o e
    ·obtain ⟨a1,a2⟩:=R1.cel k a m h1 h2;have ne:a≠c:=R.cellNe h1 nc;exact ⟨a1.mono (Zb icn) (Jd _) rfl,by rw [Zl ne]; exact a2⟩
   obtain ⟨R3,p3,e3⟩:=R2.cellAt (l:=p) (m:=.hand) (by rw [Zl pc]; exact ipn) (R.out np) ⟨d0,i0',c,cs,x1,Zd,x3,x4,x5,x6,x7⟩;exact kk _ _ _ _ H' _ (Zb icn) p3 R3 (.cell e3) h
def Zak {k:Nat} {p c:Addr} {cs bs:List Int} {K:K3} (R:Rel C Z I α H M) (ha:α[k]?=some p) (hm:M[k]?=some .hand) (hh:HandAt H' p c) (ic:I c=some (.lst (cs.map V.int))) (hc:cs≠[]/\cs.length<=63/\∀ c∈cs,0<=c) (g:Grow p H H')
  (nl:H l=none) (el:H' l=some (.lst (bs.map V.int))) (kk:Fin C Z I α K Q) (h:K (.lst (bs.map .int)) M):Q (.ref l) H':=by
 obtain ⟨I',s,R',f⟩:=(R.grow ha hm hh ic hc g).full;exact kk _ _ I' α H' M s (Jd _) R' (.lst (f _ _ el (R.out nl)) (.ints bs)) h
def Zmm:Sp3:=fun ds M K=>∃ k m,ds=[.cell k,.int m]/\M[k]?=some .hand/\(2<=m/\m<=4)/\∀ bs:List Int,bs.Nodup->2<=bs.length->(bs.length:Int)<=m->(∀ b∈bs,0<=b/\b<256)->K (.lst (bs.map .int)) M
theorem Zpd {E:XK} (h:spOf C Zmm vs H Q E):Zf3 vs H Q E:=by
 obtain ⟨Z,I,α,M,ds,K,R,r,⟨k,m,rfl,hm,⟨m0,m1⟩,h⟩,kk⟩:=h;cases r with
 | cons r1 r2 =>
  cases r2 with
  | cons r2 r3 =>
   cases r3;cases r2;cases r1 with
   | @cell p _ ha =>
    obtain ⟨c,cs,hh,ic,hc⟩:=R.hand ha hm;exists p,c,m,rfl,hh,m0,m1,fun l bs H' nl _ el nd b2 bm bb hh' g=>Zak R ha hm hh' ic hc g nl el kk (h bs nd b2 bm bb)
def Zmg:Sp3:=fun ds M K=>∃ k m,ds=[.cell k,.int m]/\M[k]?=some .hand/\(0<=m/\m<=100)/\∀ ss:List Int,ss.Nodup->(ss.length:Int)=m->K (.lst (ss.map .int)) M
theorem Zpb {E:XK} (h:spOf C Zmg vs H Q E):Zf0 vs H Q E:=by
 obtain ⟨Z,I,α,M,ds,K,R,r,⟨k,m,rfl,hm,⟨m0,m1⟩,h⟩,kk⟩:=h;cases r with
 | cons r1 r2 =>
  cases r2 with
  | cons r2 r3 =>
   cases r3;cases r2;cases r1 with
   | @cell p _ ha =>
    obtain ⟨c,cs,hh,ic,hc⟩:=R.hand ha hm;exists p,c,m,rfl,hh,m0,m1,fun l bs H' nl _ el nd b2 hh' g=>Zak R ha hm hh' ic hc g nl el kk (h bs nd b2)
theorem Zhu {v:V} (R:Rel C Z I α H M) (r:Rep C I α v (.lst (ns.map .int))):∃ a,v=.ref a/\H a=some (.lst (ns.map V.int))/\I a=some (.lst (ns.map V.int)):=by
 cases r with
 | lst e r =>
  rw [r.of_ints ns] at e;exists ·,R.sub _ _ e,e
def Zby {k:Nat} {p a:Addr} (R:Rel C Z I α H M) (ha:α[k]?=some p) (hm:M[k]?=some .hand) (e:I a=some o):a≠p:=fun z=>by
 rw [z,(R.cel k p _ ha hm).2] at e;cases e
theorem Zrg {v:V} (R:Rel C Z I α H M) (r:Rep C I α v (.lst ds)):∃ a vs,v=.ref a/\H a=some (.lst vs)/\I a=some (.lst vs)/\Reps C I α vs ds:=by
 cases r with
 | lst e r=>exact ⟨_,_,rfl,R.sub _ _ e,e,r⟩
def Zme:Sp3:=fun ds M K=>∃ (k:Nat) (bs:List Int) (m lg:Int),ds=[.cell k,.lst (bs.map .int),.int m,.int lg]/\M[k]?=some .hand/\(bs.Nodup/\bs≠[]/\bs.length<=24/\0<=m/\m<=6/\1<=lg/\lg<=4)/\∀ ws:List (List Int),WOk ws->(ws.length:Int)<=bs.length+m*bs.length->K (.lst (ws.map wD)) M
def Ze2 {k:Nat} {p c:Addr} {cs:List Int} {K:K3} (R:Rel C Z I α H M) (ha:α[k]?=some p) (hm:M[k]?=some .hand) (hh:HandAt H' p c) (ic:I c=some (.lst (cs.map V.int))) (hc:cs≠[]/\cs.length<=63/\∀ c∈cs,0<=c) (g:Grow p H H')
  (nl:H l=none) (wa:V3 H' l ws) (kk:Fin C Z I α K Q) (h:K (.lst (ws.map wD)) M):Q (.ref l) H':=by
 have R1:=R.grow ha hm hh ic hc g;obtain ⟨I',s,R',f⟩:=R1.full;obtain ⟨us,eu,pu⟩:=wa;exact kk _ _ I' α H' M s (Jd _) R' (.lst (f _ _ eu (R.out nl)) (Pk (fun v a z=>Ztz (fun b xs e=>f _ _ e (R1.tupOut e)) z) pu)) h
theorem Zo9 {E:XK} (h:spOf C Zme vs H Q E):Zfx vs H Q E:=by
 obtain ⟨Z,I,α,M,ds,K,R,r,⟨k,bs,m,lg,rfl,hm,⟨h1,h2,h3,h4,h5,h6,h7⟩,h⟩,kk⟩:=h;cases r with
 | cons r1 r2 =>
  cases r2 with
  | cons r2 r3 =>
   cases r3 with
   | cons r3 r4 =>
    cases r4 with
    | cons r4 r5 =>
     cases r5;cases r3;cases r4;cases r1 with
     | @cell p _ ha =>
      obtain ⟨c,cs,hh,ic,hc⟩:=R.hand ha hm;obtain ⟨sa,rfl,es,is⟩:=Zhu R r2;exists p,c,sa,m,lg,bs,rfl,hh,es,Zby R ha hm is,h1,h2,h3,h4,h5,h6,h7,fun l ws H' nl _ wa wo wl hh' g=>Ze2 R ha hm hh' ic hc g nl wa kk (h ws wo wl)
def Zji {v:V} (R:Rel C Z I α H M) (r:Rep C I α v (.lst (ws.map wD))):∃ a vs,v=.ref a/\I a=some (.lst vs)/\V3 H a ws:=by
 obtain ⟨a,vs,rfl,e,i,rr⟩:=Zrg R r;exists a,vs,rfl,i,vs,e,Zbw (F:=Zcn H) (f:=wD) (fun v a z=>Zpm R.sub z) rr
def Zmf:Sp3:=fun ds M K=>∃ (k:Nat) (ws:List (List Int)) (ss:List Int),ds=[.cell k,.lst (ws.map wD),.lst (ss.map .int)]/\M[k]?=some .hand/\(WOk ws/\ws.length<=28/\ss.Nodup/\ws.length<=ss.length/\ss.length<=100)/\∀ L:List Pr,Free L->Fits L->(L.map (·.2)).Perm ws->K (.lst (L.map pD)) M
theorem Zpa {E:XK} (h:spOf C Zmf vs H Q E):Zfz vs H Q E:=by
 obtain ⟨Z,I,α,M,ds,K,R,r,⟨k,ws,ss,rfl,hm,⟨h1,h2,h3,h4,h5⟩,h⟩,kk⟩:=h;cases r with
 | cons r1 r2 =>
  cases r2 with
  | cons r2 r3 =>
   cases r3 with
   | cons r3 r4 =>
    cases r4;cases r1 with
    | @cell p _ ha =>
     obtain ⟨c,cs,hh,ic,hc⟩:=R.hand ha hm;obtain ⟨wa,_,rfl,iw,hw⟩:=Zji R r2;obtain ⟨sa,rfl,es,is⟩:=Zhu R r3;exists p,c,wa,sa,ws,ss,rfl,hh,hw,Zby R ha hm iw,h1,h2,es,Zby R ha hm is,h3,h4,h5,fun l L H' nl _ ta fr fi pm hh' g=>?_;have R1:=R.grow ha hm hh' ic hc g;obtain ⟨I',s,R',f⟩:=R1.full;obtain ⟨us,eu,pu⟩:=ta;exact kk _ _ I' α H' M s (Jd _) R' (.lst (f _ _ eu (R.out nl)) (Pk (fun v a z=>Zt0 (fun b xs e=>f _ _ e (R1.tupOut e)) z) pu)) (h L fr fi pm)
end
section
variable {C:Cf} {tc:TE} {ua uc:TE3} {t:TA} {u:TA3}
def uRev (ua:TE3) (us:TO3):TE3:=fun ρ M K=>ua ρ M fun d M1=>us ρ M1 fun k M2=>k=some (-1)/\∃ xs,Xt M2 d=some xs/\K (.lst xs.reverse) M2
def Ztq {ts:TO} {us:TO3} (ha:SimE C Z ta ua) (hs:SimO C Z ts us):SimE C Z (tRev C.k ta ts) (uRev ua us):=fun I α σ H ρ M K Q R E h k =>
 ha I α σ H ρ M _ _ R E h fun v d I1 α1 H1 M1 s1 p1 R1 r1 h1 =>
  hs I1 α1 σ H1 ρ M1 _ _ R1 (E.mono s1 p1) h1 fun o I2 α2 H2 M2 s2 p2 R2 h2=>by
   obtain ⟨ho,xs,e,h2⟩:=h2;obtain ⟨a,vs,rfl,ea,ra⟩:=X4 R2 (r1.mono s2 p2) e;exists ho,a,vs,rfl,ea,fun p hp=>?_;obtain ⟨R3,s3,e3⟩:=R2.new (o:=.lst vs.reverse) hp;exact k _ _ _ α2 _ M2 (s1.trans (s2.trans s3)) (p1.trans p2) R3 (.lst e3 (ra.rev.mono s3 (Jd _))) h2
def valD [DecidableEq κ] (kvs:List (κ×D)) (k:κ):Option D:=(kvs.find? fun kv=>decide (kv.1=k)).map (·.2)
def putD [DecidableEq κ] (kvs:List (κ×D)) (k:κ) (v:D):List (κ×D) :=
 if (kvs.any fun kv=>decide (kv.1=k))=true then kvs.map (fun kv=>if kv.1=k then (kv.1,v) else kv) else kvs++[(k,v)]
def Zey:D->Option Key
 | .int i=>some (.inl i)
 | .str s=>some (.inr s)
 | _=>none
def Ro:List D->Option (List Key)
 | []=>some []
 | d::r=>match Zey d,Ro r with | some k,some ks=>some (k::ks) | _,_=>none
def tkOf:D->Option (List Key)
 | .tup ds=>Ro ds
 | _=>none
section
theorem Rq {v:V} {d:D} {k:Key} (r:Rep C I α v d) (h:Zey d=some k):v=kV k:=by
 cases r with
 | int i=>cases h; rfl
 | str i=>cases h; rfl
 | _=>cases h
theorem T7:∀ {vs:List V} {ds:List D} {ks:List Key},Reps C I α vs ds->Ro ds=some ks->vs=ks.map kV
 | _,_,_,.nil,h=>by cases h; rfl
 | _,_,ks,.cons (d:=d) (ds:=ds) a b,h=>by
  unfold Ro at h;cases h1:Zey d with
  | none=>simp only [h1] at h; cases h
  | some k =>
   cases h2:Ro ds with
   | none=>simp only [h1,h2] at h; cases h
   | some r =>
    simp only [h1,h2] at h;cases h;rw [Rq a h1,T7 b h2];rfl
theorem RepK.len:∀ {vs:List (Key×V)} {ds:List (Key×D)},RepK C I α vs ds->vs.length=ds.length:=by
 intro _ _ hz9;cases hz9 with
 | nil=>
  exact rfl
 | cons _ b=>
  exact by rw [Jz,Jz,RepK.len b]
theorem RepT.len:∀ {vs:List (List Key×V)} {ds:List (List Key×D)},RepT C I α vs ds->vs.length=ds.length:=by
 intro _ _ hz9;cases hz9 with
 | nil=>
  exact rfl
 | cons _ b=>
  exact by rw [Jz,Jz,RepT.len b]
def Tc [DecidableEq κ] {k k':κ} {d:D} {r:List (κ×D)}:valD ((k',d)::r) k=if k'=k then some d else valD r k:=by
 unfold valD;rw [G5]
 by_cases h:k'=k
 ·simp [h]
 ·simp [h]
def Nn [DecidableEq κ] {k k':κ} {d:V} {r:List (κ×V)}:valV ((k',d)::r) k=if k'=k then some d else valV r k:=by
 unfold valV;rw [G5]
 by_cases h:k'=k
 ·simp [h]
 ·simp [h]
theorem RepK.val {k:Key}:∀ {vs:List (Key×V)} {ds:List (Key×D)},RepK C I α vs ds->(valD ds k=none/\valV vs k=none)\/∃ d v,valD ds k=some d/\valV vs k=some v/\Rep C I α v d
 | _,_,.nil=>.inl ⟨rfl,rfl⟩
 | _,_,.cons (k:=k') (v:=v) (d:=d) a b=>by
  rw [Tc,Nn]
  by_cases h:k'=k
  ·rw [Dh h,Dh h]; exact .inr ⟨d,v,rfl,rfl,a⟩
  ·rw [Dg h,Dg h]; exact RepK.val b
theorem RepT.val {k:List Key}:∀ {vs:List (List Key×V)} {ds:List (List Key×D)},RepT C I α vs ds->(valD ds k=none/\valV vs k=none)\/∃ d v,valD ds k=some d/\valV vs k=some v/\Rep C I α v d
 | _,_,.nil=>.inl ⟨rfl,rfl⟩
 | _,_,.cons (k:=k') (v:=v) (d:=d) a b=>by
  rw [Tc,Nn]
  by_cases h:k'=k
  ·rw [Dh h,Dh h]; exact .inr ⟨d,v,rfl,rfl,a⟩
  ·rw [Dg h,Dg h]; exact RepT.val b
theorem RepK.any {k:Key}:∀ {vs:List (Key×V)} {ds:List (Key×D)},RepK C I α vs ds->(vs.any fun kv=>decide (kv.1=k))=(ds.any fun kv=>decide (kv.1=k)):=by
 intro _ _ hz9;cases hz9 with
 | nil=>
  exact rfl
 | cons a b=>
  exact by rw [B1,B1,RepK.any b]
theorem RepT.any {k:List Key}:∀ {vs:List (List Key×V)} {ds:List (List Key×D)},RepT C I α vs ds->(vs.any fun kv=>decide (kv.1=k))=(ds.any fun kv=>decide (kv.1=k)):=by
 intro _ _ hz9;cases hz9 with
 | nil=>
  exact rfl
 | cons a b=>
  exact by rw [B1,B1,RepT.any b]
theorem RepK.app:∀ {vs ws:List (Key×V)} {ds es:List (Key×D)},RepK C I α vs ds->RepK C I α ws es->RepK C I α (vs++ws) (ds++es):=by
 intro _ _ _ _ hz9 s;cases hz9 with
 | nil=>
  exact s
 | cons r t=>
  exact .cons r (RepK.app t s)
theorem RepT.app:∀ {vs ws:List (List Key×V)} {ds es:List (List Key×D)},RepT C I α vs ds->RepT C I α ws es->RepT C I α (vs++ws) (ds++es):=by
 intro _ _ _ _ hz9 s;cases hz9 with
 | nil=>
  exact s
 | cons r t=>
  exact .cons r (RepT.app t s)
theorem RepK.mapPut {k:Key} {v:V} {d:D} (r:Rep C I α v d):∀ {vs:List ((Key)×V)} {ds:List ((Key)×D)},RepK C I α vs ds->RepK C I α (vs.map fun kv=>if kv.1=k then (kv.1,v) else kv) (ds.map fun kv=>if kv.1=k then (kv.1,d) else kv)
 | _,_,.nil=>.nil
 | _,_,.cons (k:=k') a b=>by
  rw [Jl,Jl]
  by_cases e:k'=k
  ·simp only [e,if_true]; exact .cons r (RepK.mapPut r b)
  ·simp only [e,if_false]; exact .cons a (RepK.mapPut r b)
def RepK.put {k:Key} {v:V} {d:D} {vs:List ((Key)×V)} {ds:List ((Key)×D)} (h:RepK C I α vs ds) (r:Rep C I α v d):RepK C I α (putK vs k v) (putD ds k d):=by
 unfold putK putD;rw [h.any]
 split
 ·exact RepK.mapPut r h
 ·exact h.app (.cons r .nil)
theorem RepT.mapPut {k:List Key} {v:V} {d:D} (r:Rep C I α v d):∀ {vs:List ((List Key)×V)} {ds:List ((List Key)×D)},RepT C I α vs ds->RepT C I α (vs.map fun kv=>if kv.1=k then (kv.1,v) else kv) (ds.map fun kv=>if kv.1=k then (kv.1,d) else kv)
 | _,_,.nil=>.nil
 | _,_,.cons (k:=k') a b=>by
  rw [Jl,Jl]
  by_cases e:k'=k
  ·simp only [e,if_true]; exact .cons r (RepT.mapPut r b)
  ·simp only [e,if_false]; exact .cons a (RepT.mapPut r b)
def RepT.put {k:List Key} {v:V} {d:D} {vs:List ((List Key)×V)} {ds:List ((List Key)×D)} (h:RepT C I α vs ds) (r:Rep C I α v d):RepT C I α (putK vs k v) (putD ds k d):=by
 unfold putK putD;rw [h.any]
 split
 ·exact RepT.mapPut r h
 ·exact h.app (.cons r .nil)
def Us (M:Mem):D->Option (List (Key×D))
 | .dct kvs=>some kvs
 | .cell k=>match M[k]? with | some (.dct kvs)=>some kvs | some (.drK kvs)=>some kvs | some (.dfK _ _ kvs)=>some kvs | _=>none
 | _=>none
def Zig (M:Mem):D->Option (List (List Key×D))
 | .dcT kvs=>some kvs
 | .cell k=>match M[k]? with | some (.dcT kvs)=>some kvs | some (.drT kvs)=>some kvs | _=>none
 | _=>none
theorem Zmd {v:V} {d:D} {kvs:List (Key×D)} (R:Rel C Z I α H M) (r:Rep C I α v d) (h:Us M d=some kvs):∃ a vs,v=.ref a/\Rd H a (.dK vs)/\RepK C I α vs kvs:=by
 cases r with
 | dct e r=>cases h;exists _,·,.inl (R.sub _ _ e),r
 | @cell a k e =>
  unfold Us at h;cases hm:M[k]? with
  | none=>simp only [hm] at h; cases h
  | some m =>
   cases m with
   | dct es=>simp only [hm] at h; cases h; obtain ⟨vs,e1,r⟩:=(R.cel k a _ e hm).1;exists _,·,.inl e1,r
   | drK es=>simp only [hm] at h; cases h; obtain ⟨vs,e1,r⟩:=(R.cel k a _ e hm).1;exists _,·,e1,r
   | dfK o vs es=>simp only [hm] at h; cases h; obtain ⟨e1,r⟩:=(R.cel k a _ e hm).1;exists _,·,.inr ⟨o,e1⟩,r
   | _=>simp only [hm] at h; cases h
 | _=>cases h
theorem Zr7 {v:V} {d:D} {kvs:List (List Key×D)} (R:Rel C Z I α H M) (r:Rep C I α v d) (h:Zig M d=some kvs):∃ a vs,v=.ref a/\Rd H a (.dT vs)/\RepT C I α vs kvs:=by
 cases r with
 | dcT e r=>cases h;exists _,·,.inl (R.sub _ _ e),r
 | @cell a k e =>
  unfold Zig at h;cases hm:M[k]? with
  | none=>simp only [hm] at h; cases h
  | some m =>
   cases m with
   | dcT es=>simp only [hm] at h; cases h; obtain ⟨vs,e1,r⟩:=(R.cel k a _ e hm).1;exists _,·,.inl e1,r
   | drT es=>simp only [hm] at h; cases h; obtain ⟨vs,e1,r⟩:=(R.cel k a _ e hm).1;exists _,·,e1,r
   | _=>simp only [hm] at h; cases h
 | _=>cases h
def dGet (M:Mem) (d e:D) (o:Option D):Prop:=(∃ kvs k,Us M d=some kvs/\Zey e=some k/\o=valD kvs k)\/∃ kvs k,Zig M d=some kvs/\tkOf e=some k/\o=valD kvs k
def Zce {v w:V} {d e:D} {o:Option D} (R:Rel C Z I α H M) (r1:Rep C I α v d) (r2:Rep C I α w e) (h:dGet M d e o):∃ a o',v=.ref a/\IsD H a/\DGet H a w o'/\((o=none/\o'=none)\/∃ x y,o=some x/\o'=some y/\Rep C I α y x):=by
 rcases h with ⟨kvs,k,e1,e2,rfl⟩ | ⟨kvs,k,e1,e2,rfl⟩
 ·obtain ⟨a,vs,rfl,ea,ra⟩:=Zmd R r1 e1;exists a,valV vs k,rfl,.inl ⟨vs,ea⟩,by rw [Rq r2 e2]; exact .inl ⟨vs,k,ea,rfl,rfl⟩,?_;rcases ra.val (k:=k) with ⟨h1,h2⟩ | ⟨x,y,h1,h2,h3⟩
  ·exact .inl ⟨h1,h2⟩
  ·exact .inr ⟨x,y,h1,h2,h3⟩
 ·obtain ⟨a,vs,rfl,ea,ra⟩:=Zr7 R r1 e1;cases r2 with
  | @tup b bs ds eb rb =>
   have hb:H b=some (.tup (k.map kV)):=by rw [<- T7 rb e2]; exact R.sub _ _ eb
   exists a,valV vs k,rfl,.inr ⟨vs,ea⟩,.inr ⟨vs,k,b,ea,rfl,hb,rfl⟩,?_;rcases ra.val (k:=k) with ⟨h1,h2⟩ | ⟨x,y,h1,h2,h3⟩
   ·exact .inl ⟨h1,h2⟩
   ·exact .inr ⟨x,y,h1,h2,h3⟩
  | _=>cases e2
end
def Zti (ua ub:TE3):TE3:=fun ρ M K=>ua ρ M fun d M1=>ub ρ M1 fun e M2=>∃ v,dGet M2 d e (some v)/\K v M2
def Tf (ha:SimE C Z ta ua) (hb:SimE C Z tb ub):SimE C Z (Zqa ta tb) (Zti ua ub):=fun I α σ H ρ M K Q R E h k =>
 ha I α σ H ρ M _ _ R E h fun v d I1 α1 H1 M1 s1 p1 R1 r1 h1 =>
  hb I1 α1 σ H1 ρ M1 _ _ R1 (E.mono s1 p1) h1 fun w e I2 α2 H2 M2 s2 p2 R2 r2 h2=>by
   obtain ⟨x,g,h2⟩:=h2;obtain ⟨a,o',rfl,_,g2,z⟩:=Zce R2 (r1.mono s2 p2) r2 g;rcases z with ⟨z,_⟩ | ⟨x',y,z1,z2,z3⟩
   ·cases z
   ·cases z1;subst z2;exists a,y,rfl,g2,k _ _ I2 α2 H2 M2 (s1.trans s2) (p1.trans p2) R2 z3 h2
def uDIn (ub ua:TE3):TE3:=fun ρ M K=>ub ρ M fun e M1=>ua ρ M1 fun d M2=>∃ o,dGet M2 d e o/\K (.bl o.isSome) M2
def Zmt (ub ua:TE3):TE3:=fun ρ M K=>ub ρ M fun e M1=>ua ρ M1 fun d M2=>∃ o,dGet M2 d e o/\K (.bl (!o.isSome)) M2
def Zqo (hb:SimE C Z tb ub) (ha:SimE C Z ta ua):SimE C Z (tDIn tb ta) (uDIn ub ua):=fun I α σ H ρ M K Q R E h k =>
 hb I α σ H ρ M _ _ R E h fun w e I1 α1 H1 M1 s1 p1 R1 r1 h1 =>
  ha I1 α1 σ H1 ρ M1 _ _ R1 (E.mono s1 p1) h1 fun v d I2 α2 H2 M2 s2 p2 R2 r2 h2=>by
   obtain ⟨o,g,h2⟩:=h2;obtain ⟨a,o',rfl,_,g2,z⟩:=Zce R2 r2 (r1.mono s2 p2) g;have eo:o'.isSome=o.isSome:=by
    rcases z with ⟨rfl,rfl⟩ | ⟨x',y,rfl,rfl,_⟩ <;> rfl
   exact ⟨a,o',rfl,g2,by rw [eo]; exact k _ _ I2 α2 H2 M2 (s1.trans s2) (p1.trans p2) R2 (.bl _) h2⟩
def Zc5 (hb:SimE C Z tb ub) (ha:SimE C Z ta ua):SimE C Z (Zfs tb ta) (Zmt ub ua):=fun I α σ H ρ M K Q R E h k =>
 hb I α σ H ρ M _ _ R E h fun w e I1 α1 H1 M1 s1 p1 R1 r1 h1 =>
  ha I1 α1 σ H1 ρ M1 _ _ R1 (E.mono s1 p1) h1 fun v d I2 α2 H2 M2 s2 p2 R2 r2 h2=>by
   obtain ⟨o,g,h2⟩:=h2;obtain ⟨a,o',rfl,_,g2,z⟩:=Zce R2 r2 (r1.mono s2 p2) g;have eo:o'.isSome=o.isSome:=by
    rcases z with ⟨rfl,rfl⟩ | ⟨x',y,rfl,rfl,_⟩ <;> rfl
   exact ⟨a,o',rfl,g2,by rw [eo]; exact k _ _ I2 α2 H2 M2 (s1.trans s2) (p1.trans p2) R2 (.bl _) h2⟩
def Zpu:TE3:=fun _ M K=>K (.cell M.length) (M++[.dct []])
def Pi:SimE C Z Zli Zpu:=fun I α σ H ρ M K Q R E h k p hp=>by
 obtain ⟨R2,p2,e2⟩:=R.cell (o:=.dK []) (m:=.dct []) hp fun H' e=>⟨[],e,.nil⟩;exact k _ _ I _ _ _ (.refl _) p2 R2 (.cell e2) h
def Zpt:TE3:=fun _ M K=>K (.cell M.length) (M++[.dcT []])
def Znb:SimE C Z Zlh Zpt:=fun I α σ H ρ M K Q R E h k p hp=>by
 obtain ⟨R2,p2,e2⟩:=R.cell (o:=.dT []) (m:=.dcT []) hp fun H' e=>⟨[],e,.nil⟩;exact k _ _ I _ _ _ (.refl _) p2 R2 (.cell e2) h
def dPut (M:Mem) (d e v:D) (M':Mem):Prop:=(∃ j kvs k,d=.cell j/\M[j]?=some (.dct kvs)/\Zey e=some k/\kvs.length<sizeLine/\M'=M.set j (.dct (putD kvs k v))) \/
 ∃ j kvs k,d=.cell j/\M[j]?=some (.dcT kvs)/\tkOf e=some k/\kvs.length<sizeLine/\M'=M.set j (.dcT (putD kvs k v))
def Zth (ua ub uc:TE3):TS3:=fun E ρ M=>uc ρ M fun v M1=>ua ρ M1 fun d M2=>ub ρ M2 fun e M3=>∃ M4,dPut M3 d e v M4/\E.nx ρ M4
def Nz (ha:SimE C Z ta ua) (hb:SimE C Z tb ub) (hc:SimE C Z tc uc):SimS C Z (Zqt ta tb tc) (Zth ua ub uc):=fun I α σ H ρ M E D' R RE h F =>
 hc I α σ H ρ M _ _ R RE h fun v d0 I1 α1 H1 M1 s1 p1 R1 r1 h1=>ha I1 α1 σ H1 ρ M1 _ _ R1 (RE.mono s1 p1) h1 fun x d I2 α2 H2 M2 s2 p2 R2 r2 h2 =>
  hb I2 α2 σ H2 ρ M2 _ _ R2 (RE.mono (s1.trans s2) (p1.trans p2)) h2 fun y e I3 α3 H3 M3 s3 p3 R3 r3 h3=>by
   obtain ⟨M4,g,h3⟩:=h3;have rv:=r1.mono (s2.trans s3) (p2.trans p3);have RE3:=RE.mono (s1.trans (s2.trans s3)) (p1.trans (p2.trans p3));rcases g with ⟨j,kvs,kk,rfl,e1,e2,hl,rfl⟩ | ⟨j,kvs,kk,rfl,e1,e2,hl,rfl⟩
   ·cases (r2.mono s3 p3) with
    | @cell a _ ec =>
     obtain ⟨vs,ea,ra⟩:=(R3.cel j a _ ec e1).1;exists a,·,by rw [Rq r3 e2]; exact DPut.k ea (by rw [ra.len]; exact hl),?_;exact F.nx I3 α3 σ _ ρ _ (s1.trans (s2.trans s3)) (p1.trans (p2.trans p3)) (R3.put (m:=.dct (putD kvs kk d0)) ec fun H' e=>⟨_,e,ra.put rv⟩) RE3 h3
   ·cases (r2.mono s3 p3) with
    | @cell a _ ec =>
     obtain ⟨vs,ea,ra⟩:=(R3.cel j a _ ec e1).1;cases r3 with
     | @tup b bs ds eb rb =>
      have hb:H3 b=some (.tup (kk.map kV)):=by rw [<- T7 rb e2]; exact R3.sub _ _ eb
      exists a,·,DPut.t ea hb (by rw [ra.len]; exact hl),?_;exact F.nx I3 α3 σ _ ρ _ (s1.trans (s2.trans s3)) (p1.trans (p2.trans p3)) (R3.put (m:=.dcT (putD kvs kk d0)) ec fun H' e=>⟨_,e,ra.put rv⟩) RE3 h3
     | _=>cases e2
def Met.imp {w:World} {base:Heap} {C:Addr} {m:Str} {k:Nat} (c:Met P w K mg base C m k ps sp) (h:∀ vs H Q E,sp' vs H Q E->sp vs H Q E):Met P w K mg base C m k ps sp' :=
 let ⟨f,fd,a,b,e,d⟩:=c
 ⟨f,fd,a,b,e.imp h,d⟩
def Rel.made {k0:Nat} {x:Addr} {q:Str} (R:Rel C Z I α H M) (hk:M[k0]?=some (.tab Pt pos q)) (nx:H x=none) (tb:W9 Pt pos q H') (g:∀ b o,b≠x->b≠Pt->H b=some o->H' b=some o) :
  ∃ I',Same I I'/\Rel C Z I' α H' M/\∀ b o,H' b=some o->b∉α->I' b=some o:=by
 obtain ⟨P',eP,⟨rfl,ps0,e0,_⟩,iP⟩:=R.get hk;have hα:∀ b,b∈α->b≠x:=fun b hb=>by
  obtain ⟨k,hk,rfl⟩:=Js hb;exact R.cellNe (Ja hk) nx
 have hI:∀ b o,I b=some o->b∉α:=fun b o e hb=>by
  obtain ⟨k,hk,rfl⟩:=Js hb;have hk':k<M.length:=by rw [<- R.len]; exact hk
  rw [(R.cel k _ _ (Ja hk) (Ja hk')).2] at e;cases e
 have hS:∀ b o,I b=some o->H' b=some o:=fun b o e=>g b o (fun z=>by rw [z,R.sub.free nx] at e; cases e) (fun z=>by rw [z,iP] at e; cases e) (R.sub b o e);have s:Same I (fun b=>if b∈α then none else H' b):=fun b o e=>by
  show (if b∈α then none else H' b)=some o;rw [Dg (hI b o e)];exact hS b o e
 have hc:∀ (k:Nat) (a:Addr) (m:MO),k≠k0->α[k]?=some a->M[k]?=some m->H' a=H a:=fun k a m ne h1 h2=>by
  obtain ⟨o,eo⟩:=(R.cel k a m h1 h2).1.some;have n2:a≠P':=fun z=>by
   obtain ⟨hj,ej⟩:=Jh.mp h1;obtain ⟨hk,ek⟩:=Jh.mp eP;rw [<- ej,<- ek] at z;exact ne ((Bl R.nd).mp z)
  exact (g a o (hα a (Gu h1)) n2 eo).trans eo.symm
 exists _,s,⟨R.ai.trans s,R.aa,fun b o e=>?_,R.len,R.nd,fun k a m h1 h2=>?_⟩,fun b o e hb=>?_
 ·have e':(if b∈α then none else H' b)=some o:=e
  split at e'
  ·cases e'
  ·exact e'
 ·refine ⟨?_,by show (if a∈α then none else H' a)=none; rw [Dh (Gu h1)]⟩
  by_cases ne:k=k0
  ·subst ne;rw [eP] at h1;cases h1;rw [hk] at h2;cases h2;obtain ⟨ps,e1,t1,z⟩:=tb;exists rfl,ps,e1,t1,?_;rcases z with z | ⟨c,z1,z2⟩
   ·exact .inl z
   ·refine .inr ⟨c,z1,?_⟩;show (if c∈α then none else H' c)=_;rw [Dg,z2];intro hcα;obtain ⟨j,hj,ec⟩:=Js hcα;have hj':j<M.length:=by rw [<- R.len]; exact hj
    have h1:=Ja hj;have h2:=Ja hj';rw [ec] at h1
    by_cases nj:j=k
    ·subst nj;rw [eP] at h1;cases h1;rw [e1] at z2;cases z2
    ·have hh:=hc j c _ nj h1 h2;have mo:=(R.cel j c _ h1 h2).1;rw [z2] at hh;cases hm:M[j] with
     | lst ds=>rw [hm] at mo; obtain ⟨vs,e,_⟩:=mo; rw [e] at hh; cases hh
     | dct ds=>rw [hm] at mo; obtain ⟨vs,e,_⟩:=mo; rw [e] at hh; cases hh
     | dcT ds=>rw [hm] at mo; obtain ⟨vs,e,_⟩:=mo; rw [e] at hh; cases hh
     | drK ds=>rw [hm] at mo; obtain ⟨vs,e,_⟩:=mo; rcases e with e | ⟨o,e⟩ <;> (rw [e] at hh; cases hh)
     | drT ds=>rw [hm] at mo; obtain ⟨vs,e,_⟩:=mo; rcases e with e | ⟨o,e⟩ <;> (rw [e] at hh; cases hh)
     | dfT o vs ds=>rw [hm] at mo; rw [mo.1] at hh; cases hh
     | dfK o vs ds=>rw [hm] at mo; rw [mo.1] at hh; cases hh
     | ins Cl fs=>rw [hm] at mo; obtain ⟨dx,vs,e,_⟩:=mo; rw [e] at hh; cases hh
     | hand=>rw [hm] at mo; obtain ⟨d,k,c,cs,e,_⟩:=mo; rw [e] at hh; cases hh
     | tab P pos q=>rw [hm] at mo; obtain ⟨_,ps,e,_⟩:=mo; rw [e] at hh; cases hh
  ·exact (R.cel k a m h1 h2).1.mono s (Jd _) (hc k a m ne h1 h2)
 ·show (if b∈α then none else H' b)=some o;rw [Dg hb];exact e
def Pb (C Pt:Addr) (pos:Pos) (q:Str):Sp:=fun vs H Q _=>∃ x a dx L,vs=[.ref x,.ref a]/\H x=some (.ins C dx [])/\U8 H a L/\Free L/\Fits L/\W9 Pt pos q H /\
 ∀ (H':Hp) (S:List Pr),S.Perm L->Nf S->(∃ dx tp d1 d2 d3 d4,H' x=some (.ins C dx [("pairs",.ref tp),("words_by_sign",.ref d1),("signs_by_word",.ref d2),("begun",.ref d3),("word_sizes",.ref d4)])/\CodeIn H' tp d1 d2 d3 d4 S/\H d1=none/\H d2=none/\H d3=none)->W9 Pt pos q H' ->
  (∀ b o,b≠x->b≠Pt->H b=some o->H' b=some o)->Q .non H'
def Zms (Pt:Addr) (pos:Pos) (q:Str) (u:TA3):TE3:=fun ρ M K=>u ρ M fun ds M1=>∃ (k0:Nat) (d:D) (L:List Pr),M1[k0]?=some (.tab Pt pos q)/\ds=[d]/\lsOf M1 d=some (L.map pD)/\(Free L/\Fits L)/\∀ S:List Pr,S.Perm L->Nf S->K (.code S) M1
def Zjw {q:Str} (hr:SimA C Z t u):SimE C Z (Zeg C.c (Pb C.c Pt pos q) [] E0 t) (Zms Pt pos q u):=fun I α σ H ρ M K Q R E h k =>
 hr I α σ H ρ M _ _ R E h fun vs ds I1 α1 H1 M1 s1 p1 R1 r1 h1=>by
  obtain ⟨k0,d,L,hk,rfl,e1,⟨fr,fi⟩,h1⟩:=h1;intro x dx nx ndx ne;cases r1 with
  | cons r1 r2 =>
   cases r2;obtain ⟨a,vs,rfl,ea,ra⟩:=Qf R1 r1 e1;obtain ⟨P',eP,⟨eqP,ps,ep,tp,cp⟩,iP⟩:=R1.get hk;subst eqP;have sH:Same H1 (upd (upd H1 dx (.own x)) x (.ins C.c dx [])):=(Zb ndx).trans (Zb (by rw [Zl (Ne.symm ne)]; exact nx));have ta1:U8 H1 a L:=⟨vs,ea,Zbw (F:=Ng H1) (f:=pD) (fun v a z=>Zt5 R1.sub z) ra⟩;have tb1:W9 P' pos q H1:=⟨ps,ep,tp,by
    rcases cp with z | ⟨c,z1,z2⟩
    ·exact .inl z
    ·exact .inr ⟨c,z1,R1.sub _ _ z2⟩⟩
   exists x,a,dx,L,rfl,Zd,ta1.same sH,fr,fi,tb1.same sH,fun H' S pm ri ca tb g=>⟨rfl,?_⟩;obtain ⟨I',s',R',f⟩:=R1.made hk nx tb fun b o n1 n2 e=>g b o n1 n2 (sH b o e);have xα:x∉α1:=R1.out nx;obtain ⟨dx',tp',d1,d2,d3,d4,ex,⟨⟨vs',a1,a2⟩,⟨k1,b1,b2⟩,⟨k2,c1,c2⟩,⟨k3,f1,f2⟩,⟨k4,g1,g2⟩⟩,n1,n2,n3⟩:=ca;have tupI:∀ b xs,H' b=some (.tup xs)->I' b=some (.tup xs):=fun b xs e=>f b _ e (R'.tupOut e);have no:∀ b o,H' b=some o->(upd (upd H1 dx (.own x)) x (.ins C.c dx [])) b=none->I' b=some o:=fun b o e n=>f b o e (R1.out (sH.free n));refine k _ _ I' α1 H' M1 (s1.trans s') p1 R' (.code ⟨dx',tp',d1,d2,d3,d4,f _ _ ex xα,⟨vs',tupI _ _ a1,Paired.mapP a2 fun v p z=>?_⟩,⟨k1,no _ _ b1 n1,fun p hp=>?_,b2.2⟩,⟨k2,no _ _ c1 n2,c2⟩,⟨k3,no _ _ f1 n3,f2⟩,⟨k4,tupI _ _ g1,g2⟩⟩) (h1 S pm ri)
   ·obtain ⟨t,tw,e1,e2,e3⟩:=z;exists t,tw,e1,tupI _ _ e2,tupI _ _ e3
   ·obtain ⟨t,u1,u2⟩:=b2.1 p hp;exists t,u1,tupI _ _ u2
end
def Wc {m:MO}:(M++[m])[M.length]?=some m:=by simp
def Uj {m:MO}:(M++[m]).set M.length m'=M++[m']:=by simp
section
variable {C:Cf} 
def Zkb {bs:List Int} {K:K3} (R:Rel C Z I α H M) (nl:H l=none) (s:Same H H') (el:H' l=some (.lst (bs.map V.int))) (kk:Fin C Z I α K Q) (h:K (.cell M.length) (M++[.lst (bs.map .int)])):Q (.ref l) H':=by
 obtain ⟨R2,p2,e2⟩:=(R.same s).cellAt (l:=l) (m:=.lst (bs.map .int)) (R.sub.free nl) (R.out nl) ⟨_,el,.ints bs⟩;exact kk _ _ I _ H' _ (.refl _) p2 R2 (.cell e2) h
theorem Zis {v:V} (R:Rel C Z I α H M) (r:Rep C I α v (.code S)):∃ x,v=.ref x/\Ux C.c H x S:=by
 cases r with
 | code h=>exact ⟨_,rfl,h.same R.sub⟩
def Zdl {v:V} {d:D} (R:Rel C Z I α H M) (r:Rep C I α v d) (h:lsOf M d=some (ns.map .int)):∃ a,v=.ref a/\H a=some (.lst (ns.map V.int)):=by
 obtain ⟨a,vs,rfl,ea,ra⟩:=Qf R r h;rw [ra.of_ints ns] at ea;exists a,rfl,ea
end
def Zll (K:W.Frag) (Pt:Addr) (pos:Pos) (q:Str):Sp:=fun vs H Q _=>∃ (a:Addr) (ns:List Int),vs=[.ref a]/\SqL K H a (ns.map V.int)/\ns.length<=63/\W9 Pt pos q H/\∀ H',Q (.bl true) H'
def Zsa (Pt:Addr) (pos:Pos) (q:Str):Sp3:=fun ds M K=>∃ ns:List Int,ds=[.frz (ns.map .int)]/\M=[.tab Pt pos q]/\ns.length<=63/\∀ M',K (.bl true) M'
def Zoc {C:Cf} {q:Str} {E:XK} (h:Zll C.k Pt pos q vs H Q E):spOf C (Zsa Pt pos q) vs H Q E:=by
 obtain ⟨a,ns,rfl,hS,hl,⟨ps,eP,tp,cp⟩,k⟩:=h;have sI:Same (fun b=>if b=Pt then none else H b) H:=fun b o e=>by
  have e':(if b=Pt then none else H b)=some o:=e
  split at e'
  ·cases e'
  ·exact e'
 exists ⟨fun _=>none,[],fun _ _ _=>False,fun _ _ _=>False⟩,fun b=>if b=Pt then none else H b,[Pt],[.tab Pt pos q],[.frz (ns.map .int)],fun d _=>d=.bl true,⟨(fun _ _ h=>nomatch h),List.nil_prefix,sI,rfl,by simp,fun k' a' m h1 h2=>?_⟩,?_,⟨ns,rfl,rfl,hl,fun _=>rfl⟩,fun v d I' α' H' M' s p R r h=>?_
 ·cases k' with
  | succ n=>simp at h1
  | zero =>
   simp at h1 h2;subst h1;subst h2;exists ⟨rfl,ps,eP,tp,?_⟩,Dh rfl;rcases cp with z | ⟨c,z1,z2⟩
   ·exact .inl z
   ·exact .inr ⟨c,z1,by
     show (if c=Pt then none else H c)=_;rw [Dg (X7 z2 eP fun z=>by cases z)];exact z2⟩
 ·refine .one (.frz ?_ (.ints ns));rcases hS with (hS | ⟨o,hS⟩) | hS
  ·exact .inl (.inl (by
    show (if a=Pt then none else H a)=_;rw [Dg (X7 hS eP fun z=>by cases z)];exact hS))
  ·exact .inl (.inr ⟨o,by
    show (if a=Pt then none else H a)=_;rw [Dg (X7 hS eP fun z=>by cases z)];exact hS⟩)
  ·exact .inr hS
 ·subst h;cases r;exact k H'
def Zsp (h:X.K=K) (hc:X.calm=true):Ws X (.builtin "all") (fun xs H Q=>∃ (p:Addr) (bs:List Bool),xs=[.ref p]/\SqL K H p (bs.map V.bl)/\Q (.bl (bs.all id)) H):=by subst h; exact Zk4 hc
def Z6 {f:τ->D} {as:List τ} {i:Nat} {x:D} (h:(as.map f)[i]?=some x):∃ hi:i<as.length,x=f as[i]:=by
 obtain ⟨hi,e⟩:=Jh.mp h;rw [Jb] at hi;exact ⟨hi,by rw [<- e,Gz]⟩
def Zjb {f:τ->D} {as:List τ} {i:Int} (h:i=j) (hj:j<as.length):L2.atI (as.map f) i=some (f as[j]):=by
 subst h;exact U7 (by rw [J9,Ja hj]; rfl)
def Ve {xs:List D}:lsOf (M++[.lst xs]) (.cell M.length)=some xs:=by simp [lsOf]
def Vy {d:D} {xs:List D} (h:lsOf M d=some xs):lsOf M d≠none:=by rw [h]; exact fun z=>nomatch z
def eqN {K:Bool->Prop} (h:K (decide (ns=[]))):eqV (.lst (ns.map .int)) (.lst []) M K:=Na Y2 (b:=[]) rfl rfl h
end L3
variable {M M':L3.Mem} {Z Z':L3.Anc} {ds:List L3.D} {ρ:L3.Ev} {uo ub:L3.TE3} {ui:L3.TI3} {m':L3.MO}
namespace L3
def g_nx {i:Nat} {d:D} {K:Ev->Mem->Prop} (h:K (ρ.set i (some d)) M):uG i d ρ M K:=h
end L3
namespace L3
open PySem L2
def FinX (C:Cf) (Z:Anc):Prop:=∀ Ce d vs fs I' α' H' M',Rel C Z I' α' H' M'->XD I' d vs->RepF C I' α' vs fs->Z.kx Ce fs M'->Z.xe (.ref Ce) d H'
abbrev Sp3X:=List D->Mem->K3->X3->Prop
def Nu (C:Cf) (sp:Sp3X):Sp:=fun vs H Q E=>∃ Z I α M ds K KX,Rel C Z I α H M/\Reps C I α vs ds/\sp ds M K KX/\Fin C Z I α K Q /\
 ∀ Ce d vs fs I' α' H' M',Same I I'->α<+:α'->Rel C Z I' α' H' M'->XD I' d vs->RepF C I' α' vs fs->KX Ce fs M'->E (.ref Ce) d H'
section
variable {C:Cf} {t:TA} {u:TA3}
def Rel.re (R':Rel C Z' I' α' H' M') (R:Rel C Z I α H M) (s:Same I I') (p:α<+:α'):Rel C Z I' α' H' M':=⟨R.ai.trans s,R.aa.trans p,R'.sub,R'.len,R'.nd,R'.cel⟩
def Rel.here (R:Rel C Z I α H M) (E:XK) (k:X3):Rel C ⟨I,α,E,k⟩ I α H M:=⟨.refl _,Jd _,R.sub,R.len,R.nd,R.cel⟩
def Fin.re {K:K3} (k:Fin C Z I α K Q) (R:Rel C Z I α H M):Fin C Z' I α K Q:=fun v d I' α' H' M' s p R' r h=>k v d I' α' H' M' s p (R'.re R s p) r h
def FinS.re {K:Ev->Mem->Prop} {Q:St->Hp->Prop} (k:FinS C Z I α K Q) (R:Rel C Z I α H M):FinS C Z' I α K Q:=fun I' α' σ' H' ρ' M' s p R' E h=>k I' α' σ' H' ρ' M' s p (R'.re R s p) E h
def FinD.re {E:Ends3} {D':Ends} (k:FinD C Z I α E D') (R:Rel C Z I α H M):FinD C Z' I α E D':=⟨k.nx.re R,k.rt.re R,k.bk.re R,k.ct.re R⟩
def Zpw (sp:Sp3X) (kx:X3) (u:TA3):TE3:=fun ρ M K=>u ρ M fun ds M1=>sp ds M1 K kx
def Zbk {sp:Sp3X} {E:XK} {kx:X3} (he:Z.xe=E) (hk:Z.kx=kx) (hx:FinX C Z) (ha:SimA C Z t u):SimE C Z (Zfu (Nu C sp) [] E t) (Zpw sp kx u):=fun I α σ H ρ M K Q R RE h k =>
 ha I α σ H ρ M _ _ R RE h fun vs ds I1 α1 H1 M1 s1 p1 R1 r1 h1=>by
  subst he hk;rw [J0];exists Z,I1,α1,M1,ds,K,Z.kx,R1,r1,h1,k.mono s1 p1,fun Ce d vs fs I' α' H' M' s p R' e f g=>hx Ce d vs fs I' α' H' M' R' e f g
def CalE.imp {w:World} {base:Heap} {x:Str} {k:Nat} (c:CalE P w K mg base x k ps sp) (h:∀ vs H Q E,sp' vs H Q E->sp vs H Q E):CalE P w K mg base x k ps sp' :=
 let ⟨f,fd,a,b⟩:=c
 ⟨f,fd,a.imp h,b⟩
def Zmr (Cx:Addr) (f:Str) (kx:X3) (u:TA3):TS3:=fun _ ρ M=>u ρ M fun ds M1=>∃ d,ds=[d]/\kx Cx [(f,d)] M1
def Zju {Cx:Addr} {f:Str} {E:XK} {kx:X3} (he:Z.xe=E) (hk:Z.kx=kx) (hx:FinX C Z) (ha:SimA C Z t u):SimS C Z (Zlf Cx (spX1 Cx f) E t) (Zmr Cx f kx u):=fun I α σ H ρ M E3 D' R RE h F =>
 ha I α σ H ρ M _ _ R RE h fun vs ds I1 α1 H1 M1 s1 p1 R1 r1 h1=>by
  subst he hk;obtain ⟨d0,rfl,h1⟩:=h1;cases r1 with
  | cons r1 r2 =>
   cases r2
   rename_i y
   exists by simp,fun ea hea=>⟨ea,y,rfl,Zd,fun d hd hne=>⟨rfl,d,?_,?_⟩⟩
   ·rw [Zl (Ne.symm hne),Zd]
   ·have hd1:H1 d=none:=by rw [Zl hne] at hd; exact hd
    have sH:Same H1 (upd (upd (upd (upd H1 ea (.ext (excN ea Cx none))) ea (.ext (excN ea Cx (some d)))) d (.ext (xdP d [(f,y)]))) ea (.ext (excP ea Cx (some d)))):=fun b o e=>by
     have n1:b≠ea:=Zp e hea;have n2:b≠d:=Zp e hd1;rw [Zl n1,Zl n2,Zl n1,Zl n1];exact e
    obtain ⟨I',s',R',fl⟩:=(R1.same sH).full;refine hx Cx (some d) [(f,y)] [(f,d0)] I' α1 _ M1 R' (fl d _ ?_ (R1.out hd1)) (.cons (r1.mono s' (Jd _)) .nil) h1;rw [Zl hne,Zd]
abbrev TH3:=Addr->List (Str×D)->TS3
def SimH (C:Cf) (Z:Anc) (th:TH) (uh:TH3):Prop:=∀ I α σ H ρ M (E:Ends3) (D':Ends) Ce d ea fs vs,Rel C Z I α H M->RepE C I α σ ρ->I ea=some (.ext (excP ea Ce d))->XD I d vs->RepF C I α vs fs->uh Ce fs E ρ M->FinD C Z I α E D'->th Ce d ea D' σ H
def Zs2:TH3:=fun _ _ _ _ _=>False
def Zlq:SimH C Z Zp1 Zs2:=fun _ _ _ _ _ _ _ _ _ _ _ _ _ _ _ _ _ _ h _=>h.elim
variable {ts:TS} {us:TS3} {ur:TH3}
def uhNo (K:W.Frag) (Dc:Addr) (us:TS3) (ur:TH3):TH3:=fun Ce fs E ρ M=>∃ b,W.mroIn K Ce (.ref Dc)=some b/\if b=true then us E ρ M else ur Ce fs E ρ M
theorem Ztw {Dc:Addr} (hs:SimS C Z ts us) (hr:SimH C Z thr ur):SimH C Z (thNo K Dc ts thr) (uhNo K Dc us ur):=fun I α σ H ρ M E D' Ce d ea fs vs R RE e1 e2 rf h F=>by
 obtain ⟨b,eb,h⟩:=h;exists b,eb,?_;cases b with
 | true =>
  rw [Dh rfl] at h ⊢;exact hs I α _ H _ M _ _ R RE h F
 | false =>
  rw [Dg Ju] at h ⊢;exact hr I α σ H ρ M E D' Ce d ea fs vs R RE e1 e2 rf h F
def uTry (ub:X3->TS3) (uh:TH3):TS3:=fun E ρ M=>ub (fun Ce fs M'=>uh Ce fs E ρ M') E ρ M
theorem Rel.extOut (R:Rel C Z I α H M) {φ:Heap->Prop} (h:H l=some (.ext φ)):l∉α:=fun hl=>by
 obtain ⟨k,hk,rfl⟩:=Js hl;have hk':k<M.length:=by rw [<- R.len]; exact hk
 have:=(R.cel k _ _ (Ja hk) (Ja hk')).1;cases hm:M[k] with
 | lst ds=>rw [hm] at this; obtain ⟨vs,e,_⟩:=this; rw [h] at e; cases e
 | dct ds=>rw [hm] at this; obtain ⟨vs,e,_⟩:=this; rw [h] at e; cases e
 | dcT ds=>rw [hm] at this; obtain ⟨vs,e,_⟩:=this; rw [h] at e; cases e
 | drK ds=>rw [hm] at this; obtain ⟨vs,e,_⟩:=this; rcases e with e | ⟨o,e⟩ <;> (rw [h] at e; cases e)
 | drT ds=>rw [hm] at this; obtain ⟨vs,e,_⟩:=this; rcases e with e | ⟨o,e⟩ <;> (rw [h] at e; cases e)
 | dfT o vs ds=>rw [hm] at this; have e:=this.1; rw [h] at e; cases e
 | dfK o vs ds=>rw [hm] at this; have e:=this.1; rw [h] at e; cases e
 | ins Cl fs=>rw [hm] at this; obtain ⟨dx,vs,e,_⟩:=this; rw [h] at e; cases e
 | hand=>rw [hm] at this; obtain ⟨d,k,c,cs,e,_⟩:=this; rw [h] at e; cases e
 | tab P pos q=>rw [hm] at this; obtain ⟨_,ps,e,_⟩:=this; rw [h] at e; cases e
def Zto {tb:XK->TS} {ub:X3->TS3} {uh:TH3} (hb:∀ (E:XK) (kx:X3) (Z:Anc),Z.xe=E->Z.kx=kx->FinX C Z->SimS C Z (tb E) (ub kx)) (hh:SimH C Z th uh):SimS C Z (tTry tb th) (uTry ub uh):=fun I α σ H ρ M E D' R RE h F=>by
 refine hb _ _ ⟨I,α,_,_⟩ rfl rfl ?_ I α σ H ρ M E D' (R.here _ _) RE h (F.re R);intro Ce d vs fs I' α' H' M' R' e f g;exists Ce,rfl,fun ea hea=>?_;have R2:=R'.re R R'.ai R'.aa;obtain ⟨I2,s2,R3,fl⟩:=R2.full;exact hh I2 α' σ H' ρ M' E D' Ce d ea fs vs R3 (RE.mono (Same.trans R'.ai s2) R'.aa) (fl _ _ hea (R2.extOut hea)) (e.mono s2) (f.mono s2 (Jd _)) g (F.mono (Same.trans R'.ai s2) R'.aa)
def Fun.okX3 {w:World} {base:Heap} {x:Str} {f:Addr} {k:Nat} {sp:Sp3X} (F:Fun K x qual st f fd) (S:FnScope N ps (Zh st)) (len:∀ ds M K KX,sp ds M K KX->ds.length=ps.length)
  (hbody:∀ (cdv:Value) (A:Around) (outer:List Env) (s:Shared) (H:Hp) (E:XK),Room k (A.deeper (PyProof.Rows.envOfC qual (Zh st) s.heap.objs.size f cdv)) ->
   ∃ (t:TS) (u:X3->TS3),PSs (cxE P w K mg base N qual (Zh st) f cdv A outer s H E) (Zu st) t/\(∀ (kx:X3) (Z:Anc),Z.xe=E->Z.kx=kx->FinX C Z->SimS C Z t (u kx))/\∀ ds M K KX,WfM M->(∀ d∈ds,Y0 M.length d)->sp ds M K KX->u KX { nx:=fun _ M'=>Dk M.length K .non M',rt:=Dk M.length K } (Nr N ds) M):FnOk P w K mg base (CXE P w) (k+1) f fd ps (Nu C sp):=by
 refine F.okE S (fun vs H Q E h=>?_) (fun cdv A outer s H vs Q E hr h=>?_)
 ·obtain ⟨Z,I,α,M,ds,K,KX,R,r,h,_⟩:=h;rw [r.length];exact len ds M K KX h
 ·obtain ⟨t,u,h1,h2,h3⟩:=hbody cdv A outer s H E hr;obtain ⟨Z,I,α,M,ds,K,KX,R,r,h,k,kx⟩:=h;have R1:=R.here E KX;have kd:=(k.re (Z':=⟨I,α,E,KX⟩) R).dk R1.len R1.aa;exists t,h1,h2 KX ⟨I,α,E,KX⟩ rfl rfl (fun Ce d vs fs I' α' H' M' R' e f g=>kx Ce d vs fs I' α' H' M' R'.ai R'.aa (R'.re R R'.ai R'.aa) e f g) I α _ H _ M _ _ R1 (N1 r N) (h3 ds M K KX R.wf (by rw [<- R.len]; exact r.bel) h) ⟨fun I1 α1 σ1 H1 ρ1 M1 s1 p1 R1 _ h1=>kd _ _ I1 α1 H1 M1 s1 p1 R1 .non h1,kd,fun _ _ _ _ _ _ _ _ _ _ h=>h.elim,fun _ _ _ _ _ _ _ _ _ _ h=>h.elim⟩
end
def kD:Key->D
 | .inl i=>.int i
 | .inr s=>.str s
def Zcu (kd:List (Key×D)) (S:List Pr):Prop:=(∀ p∈S,valD kd (.inl p.1)=some (wD p.2))/\∀ s:Int,(∀ p∈S,p.1≠s)->valD kd (.inl s)=none
def Zcu.perm {kd:List (Key×D)} (h:Zcu kd L) (p:S.Perm L):Zcu kd S:=⟨fun q hq=>h.1 q (p.mem_iff.mp hq),fun s hs=>h.2 s fun q hq=>hs q (p.mem_iff.mpr hq)⟩
def prK (p:Pr):Key×D:=(.inl p.1,wD p.2)
section
variable {C:Cf} 
def Zrd {os:List (Option Int)} {K:K3} (R:Rel C Z I α H M) (nl:H l=none) (s:Same H H') (el:H' l=some (.lst (os.map oV))) (kk:Fin C Z I α K Q) (h:K (.cell M.length) (M++[.lst (os.map oD)])):Q (.ref l) H':=by
 obtain ⟨R2,p2,e2⟩:=(R.same s).cellAt (l:=l) (m:=.lst (os.map oD)) (R.sub.free nl) (R.out nl) ⟨_,el,Zgf os⟩;exact kk _ _ I _ H' _ (.refl _) p2 R2 (.cell e2) h
def osOf (R:List En):List (Option Int):=R.map fun e=>e.2
def Zia {Ce d:Addr} {f:Str} {i:Int} {KX:X3} {E:XK} (R:Rel C Z I α H M) (nd:H d=none) (s:Same H H') (ed:H' d=some (.ext (xdP d [(f,.int i)])))
  (kx:∀ Ce d vs fs I' α' H' M',Same I I'->α<+:α'->Rel C Z I' α' H' M'->XD I' d vs->RepF C I' α' vs fs->KX Ce fs M'->E (.ref Ce) d H') (h:KX Ce [(f,.int i)] M):E (.ref Ce) (some d) H':=by
 obtain ⟨I',s',R',fl⟩:=(R.same s).full;exact kx Ce (some d) _ _ I' α H' M s' (Jd _) R' (fl _ _ ed (R.out nd)) (.cons (.int _) .nil) h
end
def Zkm (i:Int) (ns:List Int):L2.inV (.int i) (ns.map V.int)=decide (i∈ns):=by
 unfold L2.inV;rw [List.any_map,B7,Bo,decide_eq_true_iff]
 constructor
 ·rintro ⟨x,hx,e⟩;have:x=i:=by simpa [L2.eqV] using e
  exact this ▸ hx
 ·exact fun h=>⟨i,h,by simp [L2.eqV]⟩
def Zh9 (ns:List Int):(ns.map V.int).all L2.P9=true:=by
 rw [List.all_eq_true];intro x hx;obtain ⟨i,_,rfl⟩:=Ji.mp hx;rfl
section
variable {C:Cf} 
def in3 (neg:Bool):R3:=fun d e M K=>∃ (i:Int) (ns:List Int),d=.int i/\Xt M e=some (ns.map .int)/\K (.bl (if neg then !decide (i∈ns) else decide (i∈ns))) M
def Zjm (h:X.K=K'):OpR X (compareOp .NotIn) (L2.rIn K' true):=by subst h; exact N7
def Ztt {neg:Bool}:SimR C Z (L2.rIn C.k neg) (in3 neg):=fun I α H M x y d e K Q R r1 r2 h k=>by
 obtain ⟨i,ns,rfl,el,h⟩:=h;cases r1;obtain ⟨a,vs,rfl,ea,ra⟩:=X4 R r2 el;rw [ra.of_ints ns] at ea;exact ⟨a,_,rfl,.inl ea,rfl,Zh9 ns,by rw [Zkm]; exact k _ _ I α H M (.refl _) (Jd _) R (.bl _) h⟩
def Zm5:SimR C Z (L2.rIn C.k true) (in3 true):=Ztt
end
def Zqb {u u':TS3} {En:Ends3} (S:Ev->Mem->Prop) (h1:∀ Kn:Ev->Mem->Prop,(∀ ρ' M',S ρ' M'->Kn ρ' M')->u { En with nx:=Kn } ρ M) (h2:∀ ρ' M',S ρ' M'->u' En ρ' M'):uSeq u u' En ρ M:=h1 _ h2
theorem Zhg {d:D} {xs:List D} {m:MO} (h:lsOf M d=some xs):lsOf (M++[m]) d=some xs:=by
 cases d with
 | lst ys=>exact h
 | cell k =>
  simp only [lsOf] at h ⊢
  by_cases hk:k<M.length
  ·rw [Jr hk]; exact h
  ·rw [List.getElem?_eq_none (Nat.le_of_not_lt hk)] at h;exact nomatch h
 | _=>exact nomatch h
theorem Zc6 (fi:Fits S) (hU:∀ p∈U,p∈S):∀ i,i<=U.length->∃ R,Went S (Ye U) R (Ye (U.take i)).length/\osOf R=(Yu (U.take i)).map some
 | 0,_=>⟨[],.nil,rfl⟩
 | i+1,hi=>by
  obtain ⟨R,w,e⟩:=Zc6 fi hU i (by lia);have hi':i<U.length:=by lia
  have hm:=hU _ (Jo hi');exists R++[((Ye (U.take i)).length,some U[i].1)],?_,?_
  ·rw [Zjz hi',Jc];exact .word w hm (by rw [Zj0 U hi']; exact Gb _ _) (fi.2 _ hm).1
  ·unfold osOf Yu at *
   rw [Jg,e,Jf hi',Jg,Jg];rfl
def Zk1 {xs:List Int} (h:osOf R=xs.map some):Zbd R:=fun e he z=>by
 have:e.2∈osOf R:=List.mem_map_of_mem he;rw [h,z] at this;obtain ⟨x,_,q⟩:=Ji.mp this;exact nomatch q
def Zex (h:Zbd R):Zdm R=[]:=by
 unfold Zdm;rw [List.map_eq_nil_iff,List.filter_eq_nil_iff];intro e he z;exact h e he (Option.isNone_iff_eq_none.mp z)
def Zbv {xs:List Int} (h:osOf R=xs.map some):(osOf R).map oD=xs.map D.int:=by
 rw [h,Gm]; rfl
def Zjo (fi:Fits S) (fr:Free S) (tx:W1 S U ts ts.length) :
  (∀ R pl,Vi S (Ye U) R pl->(Ye U).length<=pl/\(osOf R).map oD=ts.map D.int)/\∀ R,Told S (Ye U) R->(osOf R).map oD=ts.map D.int/\Zdm R=[]:=by
 obtain ⟨R,w,e⟩:=Zc6 fi tx.1 U.length (Je _);rw [Jt] at w e;rw [tx.2,Jt] at e;have c:=Zk1 e;have en:Vi S (Ye U) R (Ye U).length:=⟨w,c,.inl (Je _)⟩;exists fun R' pl h=>?_,fun R' h=>?_
 ·obtain ⟨rfl,rfl⟩:=Vi.uniq fr h en;exists Je _,Zbv e
 ·have:=Told.uniq fr h ⟨_,w,Je _⟩;subst this;exists Zbv e,Zex c
theorem Zja :∀ {R:List En} {pl:Nat},Went S ns R pl->Zbd R->∃ U:List Pr,(∀ p∈U,p∈S)/\Ye U=ns.take pl/\osOf R=(Yu U).map some:=by
 intro R pl w
 induction w with
 | nil=>exact fun _=>⟨[],(fun _ h=>nomatch h),rfl,rfl⟩
 | lost w hl hn ih=>exact fun c=>absurd rfl (c _ (Jw _ (List.mem_singleton_self _)))
 | @word R pl p w hp pre hne ih =>
  intro c;obtain ⟨U,h1,h2,h3⟩:=ih fun e he=>c e (Bc _ he);exists U++[p],fun q hq=>?_,?_,?_
  ·rcases Gc.mp hq with hq | hq
   ·exact h1 q hq
   ·rw [Jj.mp hq]; exact hp
  ·obtain ⟨t,e⟩:=pre;rw [Rf,h2,List.take_add,<- e];simp [Ye]
  ·unfold osOf Yu at *
   rw [Jg,h3,Jg,Jg];rfl
theorem Zgh (h:Vi S ns R pl) (hp:ns.length<=pl):∃ (U:List Pr) (ts:List Int),W1 S U ts ts.length/\Ye U=ns/\(osOf R).map oD=ts.map D.int/\ts.length<=ns.length:=by
 obtain ⟨U,h1,h2,h3⟩:=Zja h.1 h.2.1;exists U,Yu U,⟨h1,by rw [Jt]⟩,by rw [h2,Gj hp],Zbv h3,?_;have:=h.1.len;have:=h.1.le;have e:(osOf R).length=R.length:=by unfold osOf; rw [List.length_map]
 have:=congrArg List.length h3;rw [e,Jb] at this;lia
section
variable {C:Cf} 
def Zuj:R3:=fun d e M K=>∃ xs ys,lsOf M d=some xs/\lsOf M e=some ys/\xs.length+ys.length<=sizeLine/\K (.cell M.length) (M++[.lst (xs++ys)])
def Zqq:SimR C Z (Zj2 C.k) Zuj:=fun I α H M x y d e K Q R r1 r2 h k=>by
 obtain ⟨xs,ys,e1,e2,hl,h⟩:=h;obtain ⟨a,vs,rfl,ea,ra⟩:=Qf R r1 e1;obtain ⟨b,ws,rfl,eb,rb⟩:=Qf R r2 e2;refine .inr (.inr (.inl ⟨a,b,vs,ws,rfl,rfl,ea,eb,by rw [ra.length,rb.length]; exact hl,fun p hp=>?_⟩));obtain ⟨R2,p2,e2⟩:=R.cell (o:=.lst (vs++ws)) (m:=.lst (xs++ys)) hp fun H' e=>⟨_,e,ra.app rb⟩;exact k _ _ I _ _ _ (.refl _) p2 R2 (.cell e2) h
end
def hit (ns:List Int) (pl:Nat) (p:Pr):Bool:=decide ((ns.drop pl).take p.2.length=p.2)
theorem Zky {ns:List τ} {m:Nat} (h:pl<=ns.length):cut ns (some (pl:Int)) (some ((pl:Int)+(m:Int)))=(ns.drop pl).take m:=by
 unfold cut;rw [<- Int.natCast_add,HT.sIx_nat,HT.sIx_nat,Fv h];refine List.take_eq_take_iff.mpr ?_;rw [Gh];lia
end L3
namespace L2
open PySem PySem.Spec PyProof.Rows
def Zj9 (L:List Pr) (i j:Nat):V:=((L[i]?).bind fun p=>(L[j]?).map fun q=>Ri p q).getD .non
def Zra {i:Nat} (hi:i<L.length) (hj:j<L.length):Zj9 L i j=Ri L[i] L[j]:=by
 unfold Zj9;rw [Ja hi,Ja hj];rfl
def Zec (L:List Pr) (o:Str) (i j:Nat):Prop:=i<j/\j<L.length/\Zj9 L i j=.str o/\∀ i' j',i'<j'->j'<L.length->(j'<j\/j'=j/\i'<i)->Zj9 L i' j'=.non
def Zeo (p q:Pr):Ri p q=.str (Str.ofString "twice")\/Ri p q=.str (Str.ofString "begins")\/Ri p q=.non:=by
 unfold Ri
 by_cases h:p.1=q.1
 ·rw [Dh h]; exact .inl rfl
 ·rw [Dg h]
  split
  ·exact .inr (.inl rfl)
  ·exact .inr (.inr rfl)
def Zec.word {L:List Pr} {o:Str} {i j:Nat} (h:Zec L o i j):o=Str.ofString "twice"\/o=Str.ofString "begins":=by
 obtain ⟨a,b,c,_⟩:=h;rw [Zra (Nat.lt_trans a b) b] at c;rcases Zeo L[i] L[j] with e | e | e
 ·rw [e] at c; cases c; exact .inl rfl
 ·rw [e] at c; cases c; exact .inr rfl
 ·rw [e] at c; cases c
end L2
namespace L3
open PySem L2
def Qe (f:Str) (v:D):List (Str×D)->List (Str×D)
 | []=>[(f,v)]
 | (g,x)::r=>if g=f then (g,v)::r else (g,x)::Qe f v r
section
variable {C:Cf} 
abbrev FldR (C:Cf) (I:Hp) (α:List Addr):Str×V->Str×D->Prop:=fun p q=>p.1=q.1/\Rep C I α p.2 q.2
theorem Zan {f:Str} {d:D}:∀ {vs:List (Str×V)} {fs:List (Str×D)},Paired (FldR C I α) vs fs->fs.lookup f=some d->∃ v,vs.lookup f=some v/\Rep C I α v d
 | _,_,.nil,h=>nomatch h
 | _,_,.cons (a:=(g,v)) (b:=(g',d')) a r,h=>by
  obtain ⟨e,rv⟩:=a;have e:g=g':=e;subst e;rw [G7] at h ⊢;cases z:f == g with
  | true=>rw [z] at h; cases h;exists v,rfl,rv
  | false=>rw [z] at h; exact Zan r h
theorem Zao {f:Str}:∀ {vs:List (Str×V)} {fs:List (Str×D)},Paired (FldR C I α) vs fs->fs.lookup f=none->vs.lookup f=none
 | _,_,.nil,h=>rfl
 | _,_,.cons (a:=(g,v)) (b:=(g',d')) a r,h=>by
  obtain ⟨e,rv⟩:=a;have e:g=g':=e;subst e;rw [G7] at h ⊢;cases z:f == g with
  | true=>rw [z] at h; cases h
  | false=>rw [z] at h; exact Zao r h
theorem Zdr {f:Str} {v:V} {d:D} (rv:Rep C I α v d):∀ {vs:List (Str×V)} {fs:List (Str×D)},Paired (FldR C I α) vs fs->Paired (FldR C I α) (putF f v vs) (Qe f d fs)
 | _,_,.nil=>.cons ⟨rfl,rv⟩ .nil
 | _,_,.cons (a:=(g,v')) (b:=(g',d')) a r=>by
  obtain ⟨e,rv'⟩:=a;have e:g=g':=e;subst e;unfold putF Qe
  by_cases z:g=f
  ·rw [Dh z,Dh z]; exact .cons ⟨rfl,rv⟩ r
  ·rw [Dg z,Dg z]; exact .cons ⟨rfl,rv'⟩ (Zdr rv r)
end
section
variable {C:Cf} {ua:TE3} {t:TA} {u:TA3} 
def Zte (K:W.Frag) (f:Str) (ua:TE3):TE3:=fun ρ M Kk=>ua ρ M fun d M1=>∃ (k:Nat) (Cl:Addr) (fs:List (Str×D)) (v:D),d=.cell k/\M1[k]?=some (.ins Cl fs)/\Cls K Cl/\Xk K Cl f/\fs.lookup f=some v/\Kk v M1
def Qu {f:Str} (ha:SimE C Z ta ua):SimE C Z (tFld K ta f) (Zte K f ua):=fun I α σ H ρ M Kk Q R E h k =>
 ha I α σ H ρ M _ _ R E h fun v d I1 α1 H1 M1 s1 p1 R1 r1 h1=>by
  obtain ⟨j,Cl,fs,w,rfl,e1,cl,na,el,h1⟩:=h1;cases r1 with
  | @cell a _ ec =>
   obtain ⟨dx,vs,ea,ra⟩:=(R1.cel j a _ ec e1).1;obtain ⟨v,ev,rv⟩:=Zan ra el;exists a,Cl,dx,vs,v,rfl,ea,cl,na,ev,k _ _ I1 α1 H1 M1 s1 p1 R1 rv h1
def Zs5 (K:W.Frag) (f:Str) (ua ub:TE3):TS3:=fun E ρ M=>ub ρ M fun dv M1=>ua ρ M1 fun d M2=>∃ (k:Nat) (Cl:Addr) (fs:List (Str×D)),d=.cell k/\M2[k]?=some (.ins Cl fs)/\Cls K Cl/\Xk K Cl f/\fs.length<1000/\E.nx ρ (M2.set k (.ins Cl (Qe f dv fs)))
def Zlo {f:Str} (ha:SimE C Z ta ua) (hb:SimE C Z tb ub):SimS C Z (sFld K ta tb f) (Zs5 K f ua ub):=fun I α σ H ρ M E3 D' R RE h F =>
 hb I α σ H ρ M _ _ R RE h fun y dv I1 α1 H1 M1 s1 p1 R1 r1 h1=>ha I1 α1 σ H1 ρ M1 _ _ R1 (RE.mono s1 p1) h1 fun v d I2 α2 H2 M2 s2 p2 R2 r2 h2=>by
  obtain ⟨j,Cl,fs,rfl,e1,cl,na,hl,h2⟩:=h2;cases r2 with
  | @cell a _ ec =>
   obtain ⟨dx,vs,ea,ra⟩:=(R2.cel j a _ ec e1).1;exists a,Cl,dx,vs,rfl,ea,cl,na,by rw [Paired.length ra]; exact hl,?_;exact F.nx I2 α2 σ _ ρ _ (s1.trans s2) (p1.trans p2) (R2.put (m:=.ins Cl (Qe f dv fs)) ec fun H' e=>⟨dx,_,e,Zdr (r1.mono s2 p2) ra⟩) (RE.mono (s1.trans s2) (p1.trans p2)) h2
def uMkI (Cl:Addr) (sp:Sp3) (u:TA3):TE3:=fun ρ M Kk=>u ρ M fun ds M1=>sp (.cell M1.length::ds) (M1++[.ins Cl []]) fun d M2=>d=.non/\Kk (.cell M1.length) M2
def Ztr {Cl:Addr} {sp:Sp3} (ha:SimA C Z t u):SimE C Z (Zeg Cl (spOf C sp) [] E0 t) (uMkI Cl sp u):=fun I α σ H ρ M Kk Q R E h k =>
 ha I α σ H ρ M _ _ R E h fun vs ds I1 α1 H1 M1 s1 p1 R1 r1 h1=>by
  intro x dx nx ndx ne;have R2:=R1.same (Zb (o:=.own x) ndx);obtain ⟨R3,p3,e3⟩:=R2.cell (p:=x) (o:=.ins Cl dx []) (m:=.ins Cl []) (by rw [Zl (Ne.symm ne)]; exact nx) fun H' e=>⟨dx,[],e,.nil⟩;rw [J0];exists Z,I1,α1++[x],_,_,_,R3,.cons (.cell e3) (r1.mono (.refl _) p3),h1,fun v d I' α' H' M' s p R' r h'=>?_;obtain ⟨rfl,h'⟩:=h';cases r;exists rfl,k _ _ I' α' H' M' (s1.trans s) ((p1.trans p3).trans p) R' (.cell ?_) h';obtain ⟨tl,rfl⟩:=p;rw [Jr (by have:=(Jh.mp e3).1; exact this)];exact e3
def Zpr (Cl:Addr) (m:Str) (sp:Sp3) (ua:TE3) (u:TA3):TE3:=fun ρ M Kk=>ua ρ M fun d M1=>(∃ (k:Nat) (fs:List (Str×D)),d=.cell k/\M1[k]?=some (.ins Cl fs)/\fs.lookup m=none)/\u ρ M1 fun ds M2=>sp (d::ds) M2 Kk
def Pf {Cl:Addr} {m:Str} {sp:Sp3} (ha:SimE C Z ta ua) (hr:SimA C Z t u):SimE C Z (Zfr Cl m (spOf C sp) [] E0 ta t) (Zpr Cl m sp ua u):=fun I α σ H ρ M Kk Q R E h k =>
 ha I α σ H ρ M _ _ R E h fun v d I1 α1 H1 M1 s1 p1 R1 r1 h1=>by
  obtain ⟨⟨j,fs,rfl,e1,el⟩,h1⟩:=h1;cases r1 with
  | @cell a _ ec =>
   obtain ⟨dx,vs,ea,ra⟩:=(R1.cel j a _ ec e1).1;exists a,dx,vs,rfl,ea,Zao ra el,?_;refine hr I1 α1 σ H1 ρ M1 _ _ R1 (E.mono s1 p1) h1 fun vs ds I2 α2 H2 M2 s2 p2 R2 r2 h2=>?_;rw [J0];exists Z,I2,α2,M2,_,Kk,R2,.cons ((Rep.cell ec).mono s2 p2) r2,h2,k.mono (s1.trans s2) (p1.trans p2)
end
section
variable {C:Cf} 
def Wk:MO->MO->Prop
 | .dcT a,.drT b=>a=b
 | .dfT _ _ a,.drT b=>a=b
 | .dct a,.drK b=>a=b
 | _,_=>False
theorem Wk.at {a:Addr} {m:MO} (w:Wk m m') (h:MoAt C I α H a m):MoAt C I α H a m':=by
 cases m with
 | dcT x=>cases m' with | drT y=>cases w; obtain ⟨vs,e,r⟩:=h; exact ⟨vs,.inl e,r⟩ | _=>exact w.elim
 | dfT o vs x=>cases m' with | drT y=>cases w; exact ⟨vs,.inr ⟨o,h.1⟩,h.2⟩ | _=>exact w.elim
 | dct x=>cases m' with | drK y=>cases w; obtain ⟨vs,e,r⟩:=h; exact ⟨vs,.inl e,r⟩ | _=>exact w.elim
 | _=>cases m' <;> exact w.elim
end
section
variable {C:Cf}
theorem RepT.get :∀ {vs:List (List Key×V)} {ds:List (List Key×D)},RepT C I α vs ds->vs.length=ds.length/\∀ i:Nat,(vs[i]?).map (·.1)=(ds[i]?).map (·.1):=by
 intro _ _ hz9;cases hz9 with
 | nil=>
  exists rfl,fun _=>rfl
 | cons h r=>
  exact by
    obtain ⟨a,b⟩:=RepT.get r;exists by rw [Jz,Jz,a],fun i=>?_;cases i with
    | zero=>rfl
    | succ i=>simpa using b i
end
def dNo:Sp3:=fun _ _ _=>False
def FnOk.no {w:World} {base:Heap} {k:Nat} {f:Addr} {C:Cf}:FnOk P w K mg base CX k f fd ps (spOf C dNo) :=
 ⟨fun vs H Q E h=>by obtain ⟨Z,I,α,M,ds,K,R,r,h,_⟩:=h; exact h.elim,fun A outer s H args us vs Q E hr e b v h=>by obtain ⟨Z,I,α,M,ds,K,R,r,h,_⟩:=h; exact h.elim⟩
section
variable {C:Cf} 
abbrev Live (S:List Pr) (ns:List Int):Prop:=∃ w∈S.map (fun q:Pr=>q.2),ns<+:w/\ns.length<w.length
def Live.perm (h:Live S ns) (p:S.Perm L):Live L ns:=by
 obtain ⟨w,hw,r⟩:=h;exists w,(p.map _).mem_iff.mp hw,r
def Zui:Sp3:=fun ds M K=>∃ (S:List Pr) (s:Int),ds=[.code S,.int s]/\(∀ p∈S,p.1=s->K (wD p.2) M)/\((∀ p∈S,p.1≠s)->K .non M)
theorem Zst {E:XK} (h:spOf C Zui vs H Q E):Zfy C.c vs H Q E:=by
 obtain ⟨Z,I,α,M,ds,K,R,r,⟨S,s,rfl,h1,h2⟩,kk⟩:=h;cases r with
 | cons r1 r2 =>
  cases r2 with
  | cons r2 r3 =>
   cases r3;cases r2;cases r1 with
   | code hc =>
    exists _,S,s,rfl,hc.same R.sub,fun p hp e t et=>?_,fun hn=>kk _ _ I α H M (.refl _) (Jd _) R .non (h2 hn);obtain ⟨I2,s2,R2,f⟩:=R.full;exact kk _ _ I2 α H M s2 (Jd _) R2 (.tup (f _ _ et (R.tupOut et)) (.ints _)) (h1 p hp e)
end
def Cert (S:List Pr) (ns:List Int) (os:List (Option Int)) (pl:Nat):Prop:=∃ (R:List En) (j:Nat),Told S ns R/\os=osOf (R.take j)/\Went S ns (R.take j) pl/\(∀ i,i<j->∀ p,R[i]?=some (p,none)->¬ Live S (ns.drop p)) /\
 ((R.length<=j/\pl=ns.length)\/(R[j]?=some (pl,none)/\Live S (ns.drop pl)))
def Cert.rest {os:List (Option Int)} (h:Cert S ns os pl):ns.drop pl=[]\/Live S (ns.drop pl):=by
 obtain ⟨R,j,_,_,w,_,z⟩:=h;rcases z with ⟨_,rfl⟩ | ⟨_,z⟩
 ·exact .inl (List.drop_length ..)
 ·exact .inr z
theorem Y1 {d:D} {xs:List D} (h:lsOf M d=some xs):tyOf M d=some .list/\Xt M d=some xs/\Qd M d=some xs:=by
 cases d with
 | lst ys=>cases h;exists rfl,rfl,rfl
 | cell k =>
  simp only [lsOf] at h;cases hm:M[k]? with
  | none=>rw [hm] at h; cases h
  | some m =>
   rw [hm] at h;cases m with
   | lst es=>cases h; exact ⟨by simp only [tyOf,hm],by simp only [Xt,hm],by simp only [Qd,Xt,hm]⟩
   | _=>cases h
 | _=>cases h
def Xs (L:List Pr):List (List Key×D):=L.map fun p=>(wk p.2,.int p.1)
def Ss [DecidableEq κ] {k:κ} {v:D} {kvs:List (κ×D)} (h:∀ kv∈kvs,kv.1≠k):putD kvs k v=kvs++[(k,v)]:=by
 unfold putD;rw [Dg];intro z;obtain ⟨kv,hk,e⟩:=Bo.mp z;exact h kv hk (of_decide_eq_true e)
theorem Zaf {d:D} {xs:List D} {K:K3} (h:lsOf M d=some xs) (hk:K (.int xs.length) M):len3 [d] M K:=by
 cases d with
 | lst zs=>exact ⟨_,(Y1 h).2.2,hk⟩
 | cell k=>exact ⟨_,(Y1 h).2.2,hk⟩
 | _=>cases h
theorem Zuc {d v:D} {xs:List D} {i:Int} {K:K3} (h:lsOf M d=some xs) (hv:L2.atI xs i=some v) (hk:K v M):ix3 d (.int i) M K:=by
 cases d with
 | lst zs=>exact ⟨_,_,_,(Y1 h).2.2,rfl,hv,hk⟩
 | cell k=>exact ⟨_,_,_,(Y1 h).2.2,rfl,hv,hk⟩
 | _=>cases h
def Zsr {xs:List D} {v:D} {i:Int} (e:i=j) (h:xs[j]?=some v):L2.atI xs i=some v:=by
 rw [e];exact U7 h
theorem Ps:∀ ns:List Int,Ro (ns.map D.int)=some (wk ns)
 | []=>rfl
 | x::r=>by
  show (match Zey (D.int x),Ro (r.map D.int) with | some k,some ks=>some (k::ks) | _,_=>none)=_;rw [Ps r];rfl
def Xg {m:MO} {r:Nat} (h:M[r]?=some m):(M++[m'])[r]?=some m:=by
 rw [Jr (Jh.mp h).1];exact h
def Cert.perm {os:List (Option Int)} (h:Cert S ns os pl) (p:S.Perm L):Cert L ns os pl:=by
 obtain ⟨R,j,t,e,w,no,z⟩:=h;exists R,j,t.perm p,e,w.perm p,fun i hi q hq l=>no i hi q hq (Live.perm l p.symm),?_;rcases z with z | ⟨z1,z2⟩
 ·exact .inl z
 ·exact .inr ⟨z1,Live.perm z2 p⟩
theorem Live.no {ws:List Int} (fr:Free S) (h:Live S ws):∀ q∈S,¬ q.2<+:ws:=fun q hq pre=>by
 obtain ⟨w,hw,p1,l⟩:=h;obtain ⟨p,hp,rfl⟩:=Ji.mp hw;have:q=p:=Zb9 fr hq hp (l:=p.2) (pre.trans p1) (Jd _);subst this;have:=pre.length_le;lia
theorem Zd7 (fr:Free L) {p:Pr} (hp:p∈L):valD (Xs L) (wk p.2)=some (.int p.1):=by
 induction L with
 | nil=>cases hp
 | cons q r ih =>
  show valD ((wk q.2,.int q.1)::Xs r) (wk p.2)=_;rw [Tc]
  by_cases e:wk q.2=wk p.2
  ·rw [Dh e];have:q=p:=Zb9 fr Jm hp (l:=p.2) (by rw [L2.S0 e]; exact Jd _) (Jd _);rw [this]
  ·rw [Dg e];rcases Jq.mp hp with z | z
   ·subst z; exact absurd rfl e
   ·exact ih (Fw.mp fr).2 z
theorem Ziy {w:List Int} (h:∀ p∈L,p.2≠w):valD (Xs L) (wk w)=none:=by
 induction L with
 | nil=>rfl
 | cons q r ih =>
  show valD ((wk q.2,.int q.1)::Xs r) (wk w)=_;rw [Tc,Dg fun e=>h q Jm (L2.S0 e)];exact ih fun p hp=>h p (Jk _ hp)
theorem Zip {ns:List τ} :cut ns none (some (pl:Int))=ns.take pl:=by
 unfold cut;rw [HT.sIx_nat];show (ns.drop 0).take (min pl ns.length-0)=_;rw [Nat.sub_zero,Fz,List.take_eq_take_iff];lia
def Wv {N:Mem} {m:MO} {t:Nat} (h:M<+:N) (ht:M.length<=t):M<+:N.set t m:=by
 obtain ⟨X,rfl⟩:=h;rw [List.set_append_right _ _ ht];exact Gb _ _
def Yv {N:Mem} {m:MO} {r t:Nat} (h:N[r]?=some m) (ne:r≠t):(N.set t m')[r]?=some m:=by
 rw [Gk (Ne.symm ne)];exact h
def X0 {N:Mem} {m:MO} {r:Nat} (h:N[r]?=some m):r<N.length:=(Jh.mp h).1
def Yp {N:Mem} {xs:List D} {t:Nat} (h:N[t]?=some (.lst xs)):lsOf N (.cell t)=some xs:=by simp only [lsOf,h]
theorem Live.drop {a b:List Int} (h:Live S (a++b)):Live S a:=by
 obtain ⟨w,hw,p,l⟩:=h;exact ⟨w,hw,(Gb _ _).trans p,by rw [Jc] at l; lia⟩
def sh (k:Nat) (R:List En):List En:=R.map fun e=>(k+e.1,e.2)
def R0:Mem->D->Option Int->Prop:=fun _ d o=>d=oD o
def Z4 {N:Mem} {m:MO} {r:Nat} (p:M<+:N) (h:M[r]?=some m):N[r]?=some m:=by
 obtain ⟨X,rfl⟩:=p;rw [Jr (Jh.mp h).1];exact h
def Zuh:Enc Pr:=Zug Y2 (Zr4 Y2)
end L3
namespace L2
open PySem
def Zpe (H:Hp) (r:Addr) (ns:List Int):Prop:=H r=some (.lst (ns.map V.int))\/H r=some (.tup (ns.map V.int))
def Zpe.same {r:Addr} (h:Zpe H r ns) (s:Same H H'):Zpe H' r ns:=h.imp (s _ _) (s _ _)
end L2
namespace L2
open PySem PySem.Spec PyProof.Rows
section
def Zqx (K:W.Frag):V->List V->Hp->VK->Prop:=fun x xs H Q=>∃ (z:Str) (p:Addr) (ys:List Str),x=.str z/\xs=[.ref p]/\SqL K H p (ys.map V.str)/\(ys.map (·.length)).sum+ys.length*z.length<=16777216/\Q (.str (Txt.join z ys)) H
def Zo3 (h:X.K=K):MtR X "str.join" (Zqx K):=by subst h; exact Zn7
end
end L2
namespace L3
open PySem L2
section
variable {C:Cf} {to:TE} {t:TA} {u:TA3}
theorem Reps.of_strs :∀ {vs:List V} (zs:List Str),Reps C I α vs (zs.map D.str)->vs=zs.map V.str
 | _,[],h=>by cases h; rfl
 | _,z::r,h=>by
  cases h with
  | cons a b =>
   cases a;rw [Reps.of_strs r b];rfl
def Zta (uo:TE3) (u:TA3):TE3:=fun ρ M K=>uo ρ M fun d M1=>∃ z,d=.str z/\u ρ M1 fun ds M2=>∃ (e:D) (ys:List Str),ds=[e]/\Xt M2 e=some (ys.map D.str)/\(ys.map (·.length)).sum+ys.length*z.length<=16777216/\K (.str (Txt.join z ys)) M2
def Zqk (ho:SimE C Z to uo) (ha:SimA C Z t u):SimE C Z (tBM C.k "str" (Zqx C.k) to t) (Zta uo u):=fun I α σ H ρ M K Q R E h k =>
 ho I α σ H ρ M _ _ R E h fun v d I1 α1 H1 M1 s1 p1 R1 r1 h1=>by
  obtain ⟨z,rfl,h1⟩:=h1;cases r1;exists rfl,ha I1 α1 σ H1 ρ M1 _ _ R1 (E.mono s1 p1) h1 fun ws ds I2 α2 H2 M2 s2 p2 R2 r2 h2=>?_;obtain ⟨e,ys,rfl,el,hz,h2⟩:=h2;cases r2 with
  | cons ry rn =>
   cases rn;obtain ⟨a,vs,rfl,ea,ra⟩:=X4 R2 ry el;rw [ra.of_strs ys] at ea;exists z,a,ys,rfl,rfl,ea,hz,k _ _ I2 α2 H2 M2 (s1.trans s2) (p1.trans p2) R2 (.str _) h2
def Zrh:List D->Mem->K3->Prop:=fun ds M K=>∃ (d:D) (kvs:List (Key×D)),ds=[d]/\Us M d=some kvs/\K (.cell M.length) (M++[.lst (kvs.map fun kv=>kD kv.1)])
theorem N0 :∀ {vs:List (Key×V)} {kvs:List (Key×D)},RepK C I α vs kvs->Reps C I α (vs.map fun kv=>kV kv.1) (kvs.map fun kv=>kD kv.1)
 | _,_,.nil=>.nil
 | _,_,.cons (k:=k) r1 r2=>.cons (by cases k with | inl i=>exact .int i | inr z=>exact .str z) (N0 r2)
theorem Zm9:SimC C Z Zgk Zrh:=fun I α H M xs ds K Q R r h k=>by
 obtain ⟨d,kvs,rfl,e,h⟩:=h;cases r with
 | cons r1 r2 =>
  cases r2;obtain ⟨a,vs,rfl,ea,ra⟩:=Zmd R r1 e;exists a,vs,rfl,ea,fun p hp=>?_;obtain ⟨R2,p2,e2⟩:=R.cell (o:=.lst (vs.map fun kv=>kV kv.1)) (m:=.lst (kvs.map fun kv=>kD kv.1)) hp fun H' e=>⟨_,e,N0 ra⟩;exact k _ _ I _ _ _ (.refl _) p2 R2 (.cell e2) h
end
abbrev Fq:=Str×List Pr×List Int
variable {zs:List L3.Fq}
def famD (f:Nat):List (Str×D):=[("codes_by_name",.cell (f+1)),("marks_by_name",.cell (f+2))]
def Vq (zs:List Fq):List (Key×D):=zs.map fun z=>(.inr z.1,.code z.2.1)
def Zac (zs:List Fq):List (Key×D):=zs.map fun z=>(.inr z.1,wD z.2.2)
structure FamAt (XF:Addr) (M:Mem) (f:Nat) (zs:List Fq):Prop where
 h0:M[f]?=some (.ins XF (famD f))
 h1:M[f+1]?=some (.dct (Vq zs))
 h2:M[f+2]?=some (.dct (Zac zs))
 nd:(zs.map (·.1)).Nodup
def Zdt (M:Mem) (f:Nat) (zs:List Fq):Mem:=(M.set (f+1) (.dct (Vq zs))).set (f+2) (.dct (Zac zs))
def FamAt.pre {XF:Addr} {N:Mem} {f:Nat} (h:FamAt XF M f zs) (p:M<+:N):FamAt XF N f zs:=⟨Z4 p h.h0,Z4 p h.h1,Z4 p h.h2,h.nd⟩
theorem FamAt.put {XF:Addr} {f:Nat} {ys:List Fq} (h:FamAt XF M f zs) (nd:(ys.map (·.1)).Nodup):FamAt XF (Zdt M f ys) f ys:=by
 have l1:=X0 h.h1;have l2:=X0 h.h2;unfold Zdt;exists Yv (Yv h.h0 (by lia)) (by lia),Yv (Jy l1) (by lia),Jy (by rw [Go]; exact l2),nd
def Zpn {g:Fq->D} {n:Str} (h:n∉zs.map (·.1)):valD (zs.map fun z=>((.inr z.1:Key),g z)) (.inr n)=none:=by
 unfold valD;rw [Option.map_eq_none_iff,List.find?_eq_none];intro kv hkv e;obtain ⟨z,hz,rfl⟩:=Ji.mp hkv;have:=of_decide_eq_true e;exact h (Ji.mpr ⟨z,hz,Sum.inr.inj this⟩)
theorem Zfg {g:Fq->D}:∀ {zs:List Fq},(zs.map (·.1)).Nodup->∀ {z:Fq},z∈zs->valD (zs.map fun z=>((.inr z.1:Key),g z)) (.inr z.1)=some (g z)
 | [],_,_,h=>nomatch h
 | y::ys,nd,z,h=>by
  unfold valD;rw [Jl,G5];rw [Jl,Gq] at nd
  by_cases e:y.1=z.1
  ·rcases Jq.mp h with w | w
   ·subst w;simp
   ·exact absurd (Ji.mpr ⟨z,w,e.symm⟩) nd.1
  ·have hz:z∈ys:=by
    rcases Jq.mp h with w | w
    ·exact absurd (by rw [w]) e
    ·exact w
   rw [show decide ((Sum.inr y.1:Key)=Sum.inr z.1)=false from Dj fun w=>e (Sum.inr.inj w)];exact Zfg nd.2 hz
def Zmj (XF:Addr):Sp3:=fun ds M K=>∃ f:Nat,ds=[.cell f]/\M[f]?=some (.ins XF [])/\M.length=f+1/\K .non (M.set f (.ins XF (famD f))++[.dct [],.dct []])
def Zim (XF:Addr):Sp3:=fun ds M K=>∃ (f:Nat) (zs:List Fq),ds=[.cell f]/\FamAt XF M f zs/\K (.cell M.length) (M++[.lst ((zs.map (·.1)).map .str)])
def Zpg (zs:List Str):Prop:=(∀ z∈zs,z.length≠1)\/∀ z∈zs,z.length≠4
structure SpOk (bs ss:List Int) (qs:List Fq):Prop where
 bnd:bs.Nodup
 b2:2<=bs.length
 b4:bs.length<=4
 br:∀ b∈bs,0<=b/\b<256
 snd:ss.Nodup
 sl:ss.length=30
 nd:(qs.map (·.1)).Nodup
 ln:qs.length<=8
 nl:∀ q∈qs,q.1.length<=8/\PyData.strOk q.1=true
 fr:∀ q∈qs,Free q.2.1
 fi:∀ q∈qs,Fits q.2.1
 wb:∀ q∈qs,∀ p∈q.2.1,∀ b∈p.2,b∈bs
 ml:∀ q∈qs,q.2.2.length<=4
 mb:∀ q∈qs,∀ b∈q.2.2,b∈bs
 al:Zpg (qs.map (·.1))
 ll:∀ q∈qs,q.2.1.length<=28
def nmS (cs:List Nat):Str:=⟨(cs.map fun c=>97+c).toArray⟩
def Wn (cs:List Nat):(nmS cs).length=cs.length:=by
 show (cs.map fun c=>97+c).toArray.size=_;rw [Jp,Jb]
def Zhd {a b:List Nat} (h:nmS a=nmS b):a=b:=by
 unfold nmS at h;injection h with h
 have h:=congrArg Array.toList h;simp only at h;exact (List.map_inj_right (fun x y e=>Nat.add_left_cancel e)).mp h
theorem Zes (h:∀ c∈cs,c<26):PyData.strOk (nmS cs)=true:=by
 unfold PyData.strOk nmS;rw [Array.all_eq_true'];intro x hx;have:x∈cs.map fun c=>97+c:=by simpa using hx
 obtain ⟨c,hc,rfl⟩:=Ji.mp this;have:=h c hc;exact Di (by lia)
def Zrc {c:Nat} (h:c<26):L2.atI (Str.ofString "abcdefghijklmnopqrstuvwxyz").cps.toList (c:Int)=some (97+c):=by
 have:∀ c:_root_.Fin 26,L2.atI (Str.ofString "abcdefghijklmnopqrstuvwxyz").cps.toList ((c.val:Nat):Int)=some (97+c.val):=by decide
 exact this ⟨c,h⟩
def Zn1 (cs:List Nat):Txt.join (Str.ofString "") (cs.map fun c=>(⟨#[97+c]⟩:Str))=nmS cs:=by
 show Builtin.Str.glued (Str.ofString "") _=_;rw [StrLaws.glued_eq_join];have:=PyProof.Rows.join_ones (cs.map fun c=>97+c);rw [Gm] at this;exact this
theorem Zl5 (z:Int) {n:Nat} (h:0<n):∃ j:Nat,z % (n:Int)=(j:Int)/\j<n:=by
 obtain ⟨j,ej⟩:=Gp (Bg z (by lia:(n:Int)≠0));have:=Gw z (by lia:(0:Int)<(n:Int));exact ⟨j,ej,by lia⟩
def Zsw (z q:Fq):Prop:=z.1=q.1/\z.2.2=q.2.2/\z.2.1.Perm q.2.1/\Nf z.2.1
theorem Xy {N:Mem} {d:D} {xs:List D} (p:M<+:N) (h:lsOf M d=some xs):lsOf N d=some xs:=by
 cases d with
 | lst ys=>exact h
 | cell c =>
  simp only [lsOf] at h ⊢;cases hm:M[c]? with
  | none=>rw [hm] at h; cases h
  | some m=>rw [Z4 p hm]; rw [hm] at h; exact h
 | _=>cases h
def Zre {z:Fq} (nd:(zs.map (·.1)).Nodup) (h:z.1∉zs.map (·.1)):((zs++[z]).map (·.1)).Nodup:=by
 rw [Jg,Gv];exists nd,Gq.mpr ⟨G8,Bd⟩,fun a ha b hb e=>?_;have e:a=z.1:=e.trans (Jj.mp hb);exact h (e ▸ ha)
theorem Zh6 {X:Mem} {k:Nat}:(M++X)[M.length+k]?=X[k]?:=by
 rw [J8 (by lia)]
 congr 1
 lia
def Zpi (S:List Pr) (ns:List Int):Prop:=∀ R,Told S ns R->Zdm R=[]
noncomputable def fitB (S:List Pr) (ns:List Int):Bool:=@decide _ (Classical.propDecidable (Zpi S ns))
noncomputable def Zsz (zs:List Fq) (ns:List Int):List Str:=(zs.filter fun z=>fitB z.2.1 ns).map (·.1)
def Zjc (M:Mem) (xs:List D):Prop:=∀ x∈xs,∃ ns:List Int,lsOf M x=some (ns.map .int)/\ns.length<=900
def Zjc.pre {N:Mem} {xs:List D} (h:Zjc M xs) (p:M<+:N):Zjc N xs:=fun x hx=>by
 obtain ⟨ns,e,l⟩:=h x hx;exists ns,Xy p e,l
def Sz (zs qs:List Fq):Prop:=zs.length=qs.length/\∀ (i:Nat) (z q:Fq),zs[i]?=some z->qs[i]?=some q->Zsw z q
def Sz.free {qs:List Fq} (h:Sz zs qs) (ff:∀ q∈qs,Free q.2.1/\Fits q.2.1):∀ z∈zs,Free z.2.1/\Fits z.2.1:=fun z hz=>by
 obtain ⟨i,hi,rfl⟩:=Js hz;have hq:i<qs.length:=by rw [<- h.1]; exact hi
 obtain ⟨_,_,pm,_⟩:=h.2 i _ _ (Ja hi) (Ja hq);have:=ff _ (Jo hq);exists this.1.perm pm,this.2.perm pm
theorem Zog {n:Nat} (h:j<n):ixN n (j:Int)=some j:=by
 unfold ixN;rw [Dh (by lia),Dh (by lia),Fk]
section
variable {C:Cf} 
theorem RepK.get :∀ {vs:List (Key×V)} {ds:List (Key×D)},RepK C I α vs ds->vs.length=ds.length/\∀ (i:Nat) (kv:Key×V) (kd:Key×D),vs[i]?=some kv->ds[i]?=some kd->kv.1=kd.1/\Rep C I α kv.2 kd.2:=by
 intro _ _ hz9;cases hz9 with
 | nil=>
  exists rfl,fun i kv kd e=>nomatch e
 | cons h r=>
  exact by
    obtain ⟨a,b⟩:=RepK.get r;exists by rw [Jz,Jz,a],fun i kv kd e1 e2=>?_;cases i with
    | zero=>cases e1; cases e2;exists rfl,h
    | succ i=>exact b i kv kd (by simpa using e1) (by simpa using e2)
def Zm2 {t:TS} {u:TS3} (hs:SimS C Z t u):SimS C Z (Zqr t) (fun E ρ M=>∃ k kvs0,M[k]?=some (.dct kvs0)/\u { E with nx:=fun ρ' M1=>∃ o vs kvs,M1[k]?=some (.dfK o vs kvs)/\E.nx ρ' (M1.set k (.dct kvs)) } ρ M):=fun I α σ H ρ M E D' R RE h F=>by
 obtain ⟨k,kvs0,e0,h⟩:=h;obtain ⟨a,ea,ma,_⟩:=R.get e0;obtain ⟨vs0,h0,_⟩:=ma;exists a,vs0,h0,hs I α σ H ρ M _ _ R RE h ⟨fun I1 α1 σ1 H1 ρ1 M1 s1 p1 R1 RE1 h1=>?_,F.rt,F.bk,F.ct⟩;obtain ⟨o,vs,kvs,e1,h1⟩:=h1;have ea1:=Zbr p1 ea;obtain ⟨f1,f2⟩:=(R1.cel k a _ ea1 e1).1;exists o,vs,f1,F.nx I1 α1 σ1 _ ρ1 _ s1 p1 (R1.put (m:=.dct kvs) ea1 fun H' e'=>⟨vs,e',f2⟩) RE1 h1
end
def Zua (m ns:List Int):Bool:=decide (0<m.length) && decide (ns.take m.length=m)
def Zh0 (zs:List Fq) (ns:List Int):List Fq:=zs.filter fun z=>Zua z.2.2 ns
def topF:List Fq->Nat
 | []=>0
 | z::r=>max z.2.2.length (topF r)
def Zix (zs:List Fq) (ns:List Int):List Str:=((Zh0 zs ns).filter fun z=>decide (z.2.2.length=topF (Zh0 zs ns))).map (·.1)
def Tt (zs qs:List Fq):Prop:=zs.map (fun z=>(z.1,z.2.2))=qs.map fun q=>(q.1,q.2.2)
theorem Tt.by {qs:List Fq} (h:Tt zs qs) (ns:List Int):Zix zs ns=Zix qs ns:=by
 have go:∀ {zs qs:List Fq},Tt zs qs->Tt (Zh0 zs ns) (Zh0 qs ns):=by
  intro zs
  induction zs with
  | nil=>intro qs h; cases qs with | nil=>rfl | cons _ _=>cases h
  | cons z zs ih =>
   intro qs h;cases qs with
   | nil=>cases h
   | cons q qs =>
    unfold Tt at h ih ⊢;rw [Jl,Jl] at h;injection h with h1 h2
    injection h1 with e1 e2
    have:=ih h2;unfold Zh0 at this ⊢;rw [Bu,Bu,e2]
    split
    ·rw [Jl,Jl,this,e1,e2]
    ·exact this
 have tp:∀ {zs qs:List Fq},Tt zs qs->topF zs=topF qs:=by
  intro zs
  induction zs with
  | nil=>intro qs h; cases qs with | nil=>rfl | cons _ _=>cases h
  | cons z zs ih =>
   intro qs h;cases qs with
   | nil=>cases h
   | cons q qs =>
    unfold Tt at h ih;rw [Jl,Jl] at h;injection h with h1 h2
    injection h1 with e1 e2
    show max _ _=max _ _;rw [e2,ih h2]
 have nm:∀ (t:Nat) {zs qs:List Fq},Tt zs qs->(zs.filter fun z=>decide (z.2.2.length=t)).map (·.1)=(qs.filter fun z=>decide (z.2.2.length=t)).map (·.1):=by
  intro t zs
  induction zs with
  | nil=>intro qs h; cases qs with | nil=>rfl | cons _ _=>cases h
  | cons z zs ih =>
   intro qs h;cases qs with
   | nil=>cases h
   | cons q qs =>
    unfold Tt at h ih;rw [Jl,Jl] at h;injection h with h1 h2
    injection h1 with e1 e2
    have:=ih h2;rw [Bu,Bu,e2]
    split
    ·rw [Jl,Jl,this,e1]
    ·exact this
 unfold Zix;rw [tp (go h)];exact nm _ (go h)
def W1.perm {i:Nat} (pm:S.Perm L) (h:W1 L U ts i):W1 S U ts i:=⟨fun p hp=>pm.mem_iff.mpr (h.1 p hp),h.2⟩
inductive Why where
 | name | sign (i:Nat)
def Zjr {z:Str} (h:PyData.strOk z=true):Shp 0 (.str z):=⟨by simp only [PyData.canLay0]; exact h,by simp only [PyData.depth]; exact Je _⟩
section
variable {C:Cf} {to:TE} {t:TA} {u:TA3} 
def Zk7 (h:X.K=K') (hu:X.A.units+64<cLine):MtR X "list.count" (Zbn K'):=by subst h; exact Zhf hu
def Zmu (uo:TE3) (u:TA3):TE3:=fun ρ M K=>uo ρ M fun d M1=>lsOf M1 d≠none/\u ρ M1 fun es M2=>∃ (xs:List D) (e:D) (ps:List PyData) (p:PyData),es=[e]/\Xt M2 d=some xs/\PyRs M2 xs ps/\PyR M2 e p/\PyData.canLayAll0 ps=true/\p.canLay0=true/\p.depth<=60/\K (.int ((ps.countP fun z=>PyData.eqv z p:Nat):Int)) M2
def Zjy (ho:SimE C Z to uo) (ha:SimA C Z t u):SimE C Z (tBM C.k "list" (Zbn C.k) to t) (Zmu uo u):=fun I α σ H ρ M K Q R E h k =>
 ho I α σ H ρ M _ _ R E h fun v d I1 α1 H1 M1 s1 p1 R1 r1 h1=>by
  obtain ⟨hn,h1⟩:=h1;cases hl:lsOf M1 d with
  | none=>exact absurd hl hn
  | some zs =>
   obtain ⟨a,vs,rfl,ea,ra⟩:=Qf R1 r1 hl;exists Pa ea,ha I1 α1 σ H1 ρ M1 _ _ R1 (E.mono s1 p1) h1 fun ws ds I2 α2 H2 M2 s2 p2 R2 r2 h2=>?_;obtain ⟨xs,e,ps,p,rfl,el,hx,he,c1,c2,dd,h2⟩:=h2;cases r2 with
   | cons ry rn =>
    cases rn;obtain ⟨b,us,eb,eu,ru⟩:=X4 R2 (r1.mono s2 p2) el;cases eb;exists a,us,_,ps,p,rfl,rfl,eu,pys_dv R2 hx ru,Zbo R2 he ry,c1,c2,dd,k _ _ I2 α2 H2 M2 (s1.trans s2) (p1.trans p2) R2 (.int _) h2
end
def Zc2 {n:Nat} {ds:List PyData} (h:∀ d∈ds,Shp n d):PyData.canLayAll0 ds=true:=(Pe h).1
theorem Sz.take {qs:List Fq} {i:Nat} (tz:∀ (i:Nat) (z q:Fq),zs[i]?=some z->qs[i]?=some q->Zsw z q) (lz:zs.length=i) (hi:i<=qs.length):Sz zs (qs.take i):=by
 exists by rw [Jn]; lia,fun j z q e1 e2=>?_;have hj:=(Jh.mp e1).1;rw [List.getElem?_take_of_lt (by lia)] at e2;exact tz j z q e1 e2
section
variable {C:Cf} 
def Zqd:List D->Mem->K3->Prop:=fun ds M K=>∃ (d:D) (ns:List Int),ds=[d]/\lsOf M d=some (ns.map .int)/\ns.length<64/\∀ ns':List Int,ns'.Perm ns->ns'.Pairwise (·<=·)->K (.lst (ns'.map .int)) M
theorem Zm3:SimC C Z (Zlt C.k) Zqd:=fun I α H M xs ds K Q R r h k=>by
 obtain ⟨d,ns,rfl,e,h64,h⟩:=h;cases r with
 | cons r1 r2 =>
  cases r2;obtain ⟨a,rfl,ea⟩:=Zdl R r1 e;exists a,ns,rfl,SqL.of ea,h64,fun D ns' hD pm pw=>?_;obtain ⟨R4,s4,e4⟩:=R.new (o:=.lst (ns'.map V.int)) hD;exact k _ _ _ α _ M s4 (Jd _) R4 (.lst e4 (.ints _)) (h ns' pm pw)
end
def tbD (L:List Pr):D:=.lst (L.map pD)
def TbOk (L:List Pr):Prop:=Free L/\Fits L
def Ze5 (h:Free L):(L.map (·.1)).Nodup:=by
 rw [Jx,Gf];exact h.imp fun a=>a.1
section
variable {C:Cf} {ta:TA} {ua:TA3} {to:TE} {ts:TS} {us:TS3} {ur:TH3}
def zIt (d e:D) (xs ys:List D):It3:=⟨min xs.length ys.length,fun i v=>∃ x y,xs[i]?=some x/\ys[i]?=some y/\v=.tup [x,y],fun M=>Xt M d=some xs/\Xt M e=some ys⟩
def uIZ (ua:TA3):TI3:=fun ρ M K=>ua ρ M fun ds M1=>∃ d e xs ys,ds=[d,e]/\Xt M1 d=some xs/\Xt M1 e=some ys/\K (zIt d e xs ys) M1
theorem s_iz (ha:SimA C Z ta ua):SimI C Z (iZip C.k ta) (uIZ ua):=fun I α σ H ρ M K R' R RE h k =>
 ha I α σ H ρ M _ _ R RE h fun vs ds I1 α1 H1 M1 s1 p1 R1 r1 h1=>by
  obtain ⟨d,e,xs,ys,rfl,ed,ee,h1⟩:=h1;cases r1 with
  | cons r1 b =>
   cases b with
   | cons r2 b =>
    cases b;obtain ⟨a,vs,rfl,ea,ra⟩:=X4 R1 r1 ed;obtain ⟨a2,ws,rfl,ea2,ra2⟩:=X4 R1 r2 ee;exists a,a2,rfl,⟨vs,ea⟩,⟨ws,ea2⟩,k _ _ I1 α1 H1 M1 s1 p1 R1 (fun I2 α2 H2 M2 s2 p2 R2 ok=>?_) h1;obtain ⟨b,vs',eb,eq,rw'⟩:=X4 R2 (r1.mono s2 p2) ok.1;obtain ⟨b2,ws',eb2,eq2,rw2⟩:=X4 R2 (r2.mono s2 p2) ok.2;cases eb;cases eb2;have l1:=rw'.length;have l2:=rw2.length;exists fun i hi=>?_,⟨vs',ws',eq,eq2,by show _<=min _ _\/_<=min _ _; lia⟩;have hi:i<min xs.length ys.length:=hi;have hx:i<xs.length:=by lia
    have hy:i<ys.length:=by lia
    have hi1:i<vs'.length:=by lia
    have hi2:i<ws'.length:=by lia
    exists ⟨vs',ws',_,_,eq,eq2,Ja hi1,Ja hi2⟩,fun v H3 y=>?_;obtain ⟨t,x,y,rfl,ht,rfl,q1,q2⟩:=y;have z1:=q1 _ eq;have z2:=q2 _ eq2;rw [Ja hi1] at z1;rw [Ja hi2] at z2;cases z1;cases z2;obtain ⟨R3,s3,e3⟩:=R2.new (o:=.tup [vs'[i],ws'[i]]) ht;exists _,.tup [xs[i],ys[i]],s3,R3,.tup e3 (.cons ((rw'.at hi1 hx).mono s3 (Jd _)) (.one ((rw2.at hi2 hy).mono s3 (Jd _)))),_,_,Ja hx,Ja hy,rfl
def Zs1 (K:W.Frag) (D1 D2:Addr) (us:TS3) (ur:TH3):TH3:=fun Ce fs E ρ M=>∃ b1 b2,W.mroIn K Ce (.ref D1)=some b1/\W.mroIn K Ce (.ref D2)=some b2/\if (b1 || b2)=true then us E ρ M else ur Ce fs E ρ M
theorem Zqm {D1 D2:Addr} (hs:SimS C Z ts us) (hr:SimH C Z thr ur):SimH C Z (Zp0 K D1 D2 ts thr) (Zs1 K D1 D2 us ur):=fun I α σ H ρ M E D' Ce d ea fs vs R RE e1 e2 rf h F=>by
 obtain ⟨b1,b2,m1,m2,h⟩:=h;exists b1,b2,m1,m2,fun p hp=>?_;obtain ⟨R2,s2,_⟩:=R.new (o:=.tup [.ref D1,.ref D2]) hp;generalize (b1 || b2)=b at h;cases b with
 | true =>
  rw [Dh rfl] at h ⊢;exact hs _ α _ _ _ M _ _ R2 (RE.mono s2 (Jd _)) h (F.mono s2 (Jd _))
 | false =>
  rw [Dg Ju] at h ⊢;exact hr _ α σ _ ρ M E D' Ce d ea fs vs R2 (RE.mono s2 (Jd _)) (s2 _ _ e1) (e2.mono s2) (rf.mono s2 (Jd _)) h (F.mono s2 (Jd _))
def Zs3 (u1 u2:X3->TS3) (uh:TH3):TS3:=fun E ρ M=>u1 (fun Ce fs M'=>uh Ce fs E ρ M') { E with nx:=fun ρ' M'=>u2 (fun Ce fs M2=>uh Ce fs E ρ' M2) E ρ' M' } ρ M
def Zqh {t1 t2:XK->TS} {u1 u2:X3->TS3} {uh:TH3} (h1:∀ (E:XK) (kx:X3) (Z:Anc),Z.xe=E->Z.kx=kx->FinX C Z->SimS C Z (t1 E) (u1 kx)) (h2:∀ (E:XK) (kx:X3) (Z:Anc),Z.xe=E->Z.kx=kx->FinX C Z->SimS C Z (t2 E) (u2 kx)) (hh:SimH C Z th uh) :
  SimS C Z (Zmw (fun Ex D σ H=>t1 (Ex σ) { D with nx:=fun σ' H'=>t2 (Ex σ') D σ' H' } σ H) th) (Zs3 u1 u2 uh):=fun I α σ H ρ M E D' R RE h F=>by
 have fx:∀ (I:Hp) (α:List Addr) (σ:St) (H:Hp) (ρ:Ev) (M:Mem),Rel C Z I α H M->RepE C I α σ ρ->FinD C Z I α E D'->FinX C ⟨I,α,fun cls d H'=>∃ C',cls=.ref C'/\∀ ea,H' ea=some (.ext (excP ea C' d))->th C' d ea D' σ H',fun Ce fs M'=>uh Ce fs E ρ M'⟩:=fun I α σ H ρ M R RE F=>by
  intro Ce d vs fs I' α' H' M' R' e f g;exists Ce,rfl,fun ea hea=>?_;have R2:=R'.re R R'.ai R'.aa;obtain ⟨I2,s2,R3,fl⟩:=R2.full;exact hh I2 α' σ H' ρ M' E D' Ce d ea fs vs R3 (RE.mono (Same.trans R'.ai s2) R'.aa) (fl _ _ hea (R2.extOut hea)) (e.mono s2) (f.mono s2 (Jd _)) g (F.mono (Same.trans R'.ai s2) R'.aa)
 refine h1 _ _ ⟨I,α,_,_⟩ rfl rfl (fx I α σ H ρ M R RE F) I α σ H ρ M _ _ (R.here _ _) RE h ⟨?_,(F.re R).rt,(F.re R).bk,(F.re R).ct⟩;intro I1 α1 σ1 H1 ρ1 M1 s1 p1 R1 RE1 q1;have R1':=R1.re R s1 p1;have F1:=F.mono s1 p1;exact h2 _ _ ⟨I1,α1,_,_⟩ rfl rfl (fx I1 α1 σ1 H1 ρ1 M1 R1' RE1 F1) I1 α1 σ1 H1 ρ1 M1 E D' (R1'.here _ _) RE1 q1 (F1.re R1')
def Ztf (uo:TE3) (u:TA3):TE3:=fun ρ M K=>uo ρ M fun d M1=>∃ z,d=.str z/\u ρ M1 fun ds M2=>∃ y:Str,ds=[.str y]/\K (.int (Txt.find z y)) M2
def Zqn (ho:SimE C Z to uo) (ha:SimA C Z ta ua):SimE C Z (tBM C.k "str" Zqy to ta) (Ztf uo ua):=fun I α σ H ρ M K Q R E h k =>
 ho I α σ H ρ M _ _ R E h fun v d I1 α1 H1 M1 s1 p1 R1 r1 h1=>by
  obtain ⟨z,rfl,h1⟩:=h1;cases r1;exists rfl,ha I1 α1 σ H1 ρ M1 _ _ R1 (E.mono s1 p1) h1 fun ws ds I2 α2 H2 M2 s2 p2 R2 r2 h2=>?_;obtain ⟨y,rfl,h2⟩:=h2;cases r2 with
  | cons ry rn =>
   cases rn;cases ry;exists z,y,rfl,rfl,k _ _ I2 α2 H2 M2 (s1.trans s2) (p1.trans p2) R2 (.int _) h2
end
end L3
variable {zs:List L3.Fq}
namespace L2
open PySem
def Zcz (C Cn:Addr):Sp:=fun vs H Q E=>∃ (x xa:Addr) (S:List Pr) (ts:List Int),vs=[.ref x,.ref xa]/\Ux C H x S/\Fits S/\H xa=some (.lst (ts.map V.int))/\ts.length<=20000 /\
 (∀ (T:List Pr) (l:Addr) (H':Hp),W1 S T ts ts.length->H l=none->Same H H'->H' l=some (.lst ((Ye T).map V.int))->Q (.ref l) H') /\
 (∀ (i:Nat) (T:List Pr) (d:Addr) (H':Hp),i<ts.length->W1 S T ts i->T6 S ts i=true->H d=none->Same H H'->H' d=some (.ext (xdP d [("at",.int i)]))->E (.ref Cn) (some d) H')
def Zf2 (C Cr:Addr):Sp:=fun vs H Q E=>∃ (x r:Addr) (S:List Pr) (ns:List Int),vs=[.ref x,.ref r]/\Ux C H x S/\Fits S/\H r=some (.lst (ns.map V.int))/\ns.length<=80000 /\
 (∀ (R:List En) (pl:Nat) (l:Addr) (H':Hp),Vi S ns R pl->ns.length<=pl->H l=none->Same H H'->H' l=some (.lst (outs R))->Q (.ref l) H') /\
 (∀ (R:List En) (pl:Nat) (d:Addr) (H':Hp),Vi S ns R pl->pl<ns.length->H d=none->Same H H'->H' d=some (.ext (xdP d [("at",.int pl)]))->E (.ref Cr) (some d) H')
end L2
namespace L3
open PySem L2
section
variable {C:Cf}
def Zik (Cn:Addr):Sp3X:=fun ds M K KX=>∃ (S:List Pr) (d:D) (ts:List Int),ds=[.code S,d]/\lsOf M d=some (ts.map .int)/\(Fits S/\ts.length<=20000) /\
 (∀ U:List Pr,W1 S U ts ts.length->K (.cell M.length) (M++[.lst ((Ye U).map .int)]))/\∀ (i:Nat) (U:List Pr),i<ts.length->W1 S U ts i->T6 S ts i=true->KX Cn [("at",.int i)] M
theorem Zla {Cn:Addr} {E:XK} (h:Nu C (Zik Cn) vs H Q E):Zcz C.c Cn vs H Q E:=by
 obtain ⟨Z,I,α,M,ds,K,KX,R,r,⟨S,d,ts,rfl,e1,⟨h1,h3⟩,ha,hb⟩,kk,kx⟩:=h;cases r with
 | cons r1 r2 =>
  cases r2 with
  | cons r2 r3 =>
   cases r3;obtain ⟨x,rfl,ca⟩:=Zis R r1;obtain ⟨xa,rfl,ex⟩:=Zdl R r2 e1;exists x,xa,S,ts,rfl,ca,h1,ex,h3,fun T l H' tx nl s el=>Zkb R nl s el kk (ha T tx),fun i T d H' hi tx hl nd s ed=>Zia R nd s ed kx (hb i T hi tx hl)
def Zmh (Cr:Addr):Sp3X:=fun ds M K KX=>∃ (S:List Pr) (d:D) (ns:List Int),ds=[.code S,d]/\lsOf M d=some (ns.map .int)/\(Fits S/\ns.length<=80000) /\
 (∀ (R:List En) (pl:Nat),Vi S ns R pl->ns.length<=pl->K (.cell M.length) (M++[.lst ((osOf R).map oD)]))/\∀ (R:List En) (pl:Nat),Vi S ns R pl->pl<ns.length->KX Cr [("at",.int pl)] M
theorem Zpc {Cr:Addr} {E:XK} (h:Nu C (Zmh Cr) vs H Q E):Zf2 C.c Cr vs H Q E:=by
 obtain ⟨Z,I,α,M,ds,K,KX,R,r,⟨S,d,ts,rfl,e1,⟨h1,h3⟩,ha,hb⟩,kk,kx⟩:=h;cases r with
 | cons r1 r2 =>
  cases r2 with
  | cons r2 r3 =>
   cases r3;obtain ⟨x,rfl,ca⟩:=Zis R r1;obtain ⟨xa,rfl,ex⟩:=Zdl R r2 e1;exists x,xa,S,ts,rfl,ca,h1,ex,h3,fun Rr pl l H' en hl nl s el=>Zrd R nl s (by rw [el]; unfold osOf outs; rw [List.map_map]; rfl) kk (ha Rr pl en hl),fun Rr pl d H' en hl nd s ed=>Zia R nd s ed kx (hb Rr pl en hl)
end
def GoOk (S1 S2:List Pr) (ts ns us:List Int):Prop:=∃ U V:List Pr,(∀ p∈U,p∈S1)/\Yu U=ts/\(∀ p∈V,p∈S2)/\Yu V=us/\Ye U=ns/\Ye V=ns
def GoOk.symm {us:List Int} (h:GoOk S1 S2 ts ns us):GoOk S2 S1 us ns ts:=by
 obtain ⟨U,V,a,b,c,d,e,f⟩:=h;exists V,U,c,d,a,b,f,e
def GoOk.perm {L1 L2:List Pr} {us:List Int} (h:GoOk S1 S2 ts ns us) (p1:S1.Perm L1) (p2:S2.Perm L2):GoOk L1 L2 ts ns us:=by
 obtain ⟨U,V,a,b,c,d,e,f⟩:=h;exists U,V,fun p hp=>p1.mem_iff.mp (a p hp),b,fun p hp=>p2.mem_iff.mp (c p hp),d,e,f
theorem Pd (fr:Free S):∀ {U V:List Pr},(∀ p∈U,p∈S)->(∀ p∈V,p∈S)->Yu U=Yu V->U=V
 | [],[],_,_,_=>rfl
 | [],_::_,_,_,h=>nomatch h
 | _::_,[],_,_,h=>nomatch h
 | p::U,q::V,hU,hV,h=>by
  unfold Yu at h;rw [Jl,Jl] at h;injection h with h1 h2
  have e:p=q:=by
   have hp:=hU p Jm;have hq:=hV q Jm;obtain ⟨i,hi,rfl⟩:=Js hp;obtain ⟨j,hj,rfl⟩:=Js hq;rcases Fl i j with l | l | l
   ·exact absurd h1 (fr.get hi hj l).1
   ·subst l; rfl
   ·exact absurd h1.symm (fr.get hj hi l).1
  rw [e,Pd fr (fun p hp=>hU p (Jk _ hp)) (fun p hp=>hV p (Jk _ hp)) h2]
theorem Zgd (fr:Free S) (fi:Fits S):∀ {U V:List Pr},(∀ p∈U,p∈S)->(∀ p∈V,p∈S)->Ye U=Ye V->U=V
 | [],[],_,_,_=>rfl
 | [],q::V,_,hV,h=>by
  have:=(fi.2 q (hV q Jm)).1;unfold Ye at h;rw [Jl,List.flatten_cons,List.map_nil,List.flatten_nil] at h;exact absurd (List.append_eq_nil_iff.mp h.symm).1 this
 | q::V,[],hV,_,h=>by
  have:=(fi.2 q (hV q Jm)).1;unfold Ye at h;rw [Jl,List.flatten_cons,List.map_nil,List.flatten_nil] at h;exact absurd (List.append_eq_nil_iff.mp h).1 this
 | p::U,q::V,hU,hV,h=>by
  unfold Ye at h;rw [Jl,Jl,List.flatten_cons,List.flatten_cons] at h;have hp:=hU p Jm;have hq:=hV q Jm;have e:p=q:=by
   have pre:p.2<+:q.2\/q.2<+:p.2:=by
    have h1:p.2<+:q.2++(V.map fun q:Pr=>q.2).flatten:=⟨_,h⟩;exact List.prefix_or_prefix_of_prefix h1 (Gb _ _)
   obtain ⟨i,hi,rfl⟩:=Js hp;obtain ⟨j,hj,rfl⟩:=Js hq;rcases Fl i j with l | l | l
   ·exact absurd pre (not_or.mpr (fr.get hi hj l).2)
   ·subst l; rfl
   ·exact absurd pre (not_or.mpr ⟨(fr.get hj hi l).2.2,(fr.get hj hi l).2.1⟩)
  subst e;rw [Zgd fr fi (fun p hp=>hU p (Jk _ hp)) (fun p hp=>hV p (Jk _ hp)) (List.append_cancel_left h)]
def GoOk.uniq {us ns' us':List Int} (f1:Free S1) (f2:Free S2) (i2:Fits S2) (h:GoOk S1 S2 ts ns us) (h':GoOk S1 S2 ts ns' us'):ns=ns'/\us=us':=by
 obtain ⟨U,V,a,b,c,d,e,f⟩:=h;obtain ⟨U',V',a',b',c',d',e',f'⟩:=h';obtain rfl:=Pd f1 a a' (b.trans b'.symm);have:ns=ns':=e.symm.trans e';subst this;obtain rfl:=Zgd f2 i2 c c' (f.trans f'.symm);exists rfl,d.symm.trans d'
theorem Pj (fi:Fits S):∀ {U:List Pr},(∀ p∈U,p∈S)->U.length<=(Ye U).length
 | [],_=>Ge _
 | p::U,h=>by
  have:=Pj fi (U:=U) fun q hq=>h q (Jk _ hq);have:=Gr.mpr (fi.2 p (h p Jm)).1;show U.length+1<=(p.2++Ye U).length;rw [Jc];lia
theorem GoOk.len {us:List Int} (i1:Fits S1) (i2:Fits S2) (h:GoOk S1 S2 ts ns us):ns.length<=4*ts.length/\us.length<=ns.length/\ts.length<=ns.length:=by
 obtain ⟨U,V,a,b,c,d,e,f⟩:=h;have h1:=Tw i1 a;have h2:=Pj i2 c;have h3:=Pj i1 a;have l1:U.length=ts.length:=by rw [<- b]; unfold Yu; rw [List.length_map]
 have l2:V.length=us.length:=by rw [<- d]; unfold Yu; rw [List.length_map]
 rw [e] at h1 h3;rw [f] at h2;lia
def Zh5 {i:Nat} (hi:i<ts.length) (hl:T6 S1 ts i=true) (ns us:List Int):¬ GoOk S1 S2 ts ns us:=fun h=>by
 obtain ⟨U,V,a,b,c,d,e,f⟩:=h;rw [Rm hi] at hl;have hU:i<U.length:=by rw [<- b] at hi; unfold Yu at hi; rw [List.length_map] at hi; exact hi
 refine hl U[i] (a _ (Jo hU)) ?_;subst b;exact (Gz (fun q:Pr=>q.1)).symm
def Zh4 (tx:W1 S1 U ts ts.length) (en:Vi S2 (Ye U) R pl) (hp:(Ye U).length<=pl):∃ us,GoOk S1 S2 ts (Ye U) us/\(osOf R).map oD=us.map D.int:=by
 obtain ⟨V,us,tv,er,eo,_⟩:=Zgh en hp;exists us,⟨U,V,tx.1,?_,tv.1,?_,rfl,er⟩,eo
 ·rw [tx.2,Jt]
 ·rw [tv.2,Jt]
theorem Zh3 (f1:Free S1) (f2:Free S2) (i2:Fits S2) (tx:W1 S1 U ts ts.length) (en:Vi S2 (Ye U) R pl) (hp:pl<(Ye U).length) (ns us:List Int):¬ GoOk S1 S2 ts ns us:=fun h=>by
 obtain ⟨U',V,a,b,c,d,e,f⟩:=h;have eU:U'=U:=Pd f1 a tx.1 (by rw [b,tx.2,Jt]);subst eU;have e3:Ye V=Ye U':=f.trans e.symm;have tv:W1 S2 V us us.length:=⟨c,by rw [d,Jt]⟩;have:=((Zjo i2 f2 tv).1 R pl (by rw [e3]; exact en)).1;rw [e3] at this;lia
section
variable {C:Cf} {ue:TE3}
def Zt9:List D->Mem->K3->Prop:=fun ds M K=>∃ (d:D) (ns:List Int) (n:Int),ds=[d]/\lsOf M d=some (ns.map .int)/\mxOf none ns=some n/\K (.int n) M
def Zo2 (hK:X.K=K) (hc:X.calm=true):Ws X (.builtin "max") (fun xs H Q=>∃ (a:Addr) (ns:List Int) (n:Int),xs=[.ref a]/\SqL K H a (ns.map V.int)/\mxOf none ns=some n/\Q (.int n) H):=by subst hK; exact Ziv hc
theorem Zqj:SimC C Z (fun xs H Q=>∃ (a:Addr) (ns:List Int) (n:Int),xs=[.ref a]/\SqL C.k H a (ns.map V.int)/\mxOf none ns=some n/\Q (.int n) H) Zt9:=fun I α H M xs ds K Q R r h k=>by
 obtain ⟨d,ns,n,rfl,e,en,h⟩:=h;cases r with
 | cons r1 r2 =>
  cases r2;obtain ⟨x,rfl,ex⟩:=Zdl R r1 e;exists x,ns,n,rfl,SqL.of ex,en,k _ _ I α H M (.refl _) (Jd _) R (.int n) h
def kIt (k:Nat) (o:Obj) (vs:List (Key×V)) (kvs:List (Key×D)):It3:=⟨kvs.length,fun i x=>∃ kv,kvs[i]?=some kv/\x=kD kv.1,fun M=>M[k]?=some (.dfK o vs kvs)⟩
def uIDK (ue:TE3):TI3:=fun ρ M K=>ue ρ M fun d M1=>∃ k kvs,d=.cell k/\M1[k]?=some (.dct kvs)/\∀ o vs,K (kIt k o vs kvs) (M1.set k (.dfK o vs kvs))
def Ztv (he:SimE C Z te ue):SimI C Z (Zry te) (uIDK ue):=fun I α σ H ρ M K R' R RE h kk =>
 he I α σ H ρ M _ _ R RE h fun v d I1 α1 H1 M1 s1 p1 R1 r1 h1=>by
  obtain ⟨k,kvs,rfl,e,h1⟩:=h1;cases r1 with
  | @cell a _ ea =>
   obtain ⟨vs,e1,r⟩:=(R1.cel k a _ ea e).1;exists a,vs,rfl,.inl ⟨e1,fun o=>kk _ _ I1 α1 _ _ s1 p1 (R1.put (m:=.dfK o vs kvs) ea fun H' e'=>⟨e',r⟩) (fun I' α' H' M' s p R ok=>?_) (h1 o vs)⟩;have m:=(R.cel k a _ (Zbr p ea) ok).1;obtain ⟨ln,kg⟩:=RepK.get m.2;exists fun i hi=>⟨⟨m.1,by rw [ln]; exact hi⟩,fun x H2 y=>?_⟩,⟨m.1,by rw [ln]; exact Je _⟩;obtain ⟨rfl,kv,e1,rfl⟩:=y;obtain ⟨g1,_⟩:=kg i kv kvs[i] e1 (Ja hi);exists I',kD kvs[i].1,.refl _,R,?_,kvs[i],Ja hi,rfl;rw [g1];cases kvs[i].1 with
   | inl j=>exact .int j
   | inr z=>exact .str z
end
abbrev Nt:=Str×List Pr
variable {qs:List L3.Nt}
def Tld (zs:List Fq) (qs:List Nt):Prop:=zs.length=qs.length/\∀ (i:Nat) (z:Fq) (q:Nt),zs[i]?=some z->qs[i]?=some q->z.1=q.1/\z.2.1.Perm q.2
def NtOk (qs:List Nt):Prop:=(qs.map (·.1)).Nodup/\qs.length<=8/\∀ q∈qs,TbOk q.2/\PyData.strOk q.1=true
def Ts (M:Mem) (b:Nat) (qs:List Nt):Prop:=∃ cs:List Nat,cs.length=qs.length/\M[b]?=some (.dct (List.zipWith (fun (q:Nt) (c:Nat)=>((.inr q.1:Key),D.cell c)) qs cs))/\∀ (i c:Nat) (q:Nt),cs[i]?=some c->qs[i]?=some q->M[c]?=some (.dct (q.2.map prK))
def Ts.pre {N:Mem} {b:Nat} (h:Ts M b qs) (p:M<+:N):Ts N b qs:=by
 obtain ⟨cs,l,e,g⟩:=h;exists cs,l,Z4 p e,fun i c q e1 e2=>Z4 p (g i c q e1 e2)
theorem Zff {zs:List Nt} (nd:(zs.map (·.1)).Nodup) {i:Nat} {q:Nt} {c:Nat} (e1:zs[i]?=some q) (e2:cs[i]?=some c):valD (List.zipWith (fun (q:Nt) (c:Nat)=>((.inr q.1:Key),D.cell c)) zs cs) (.inr q.1)=some (.cell c):=by
 induction zs generalizing cs i with
 | nil=>cases e1
 | cons z zs ih =>
  cases cs with
  | nil=>cases e2
  | cons d cs =>
   rw [Jl,Gq] at nd;unfold valD;rw [List.zipWith_cons_cons,G5];cases i with
   | zero =>
    cases e1;cases e2;simp
   | succ i =>
    have e1':zs[i]?=some q:=by simpa using e1
    have ne:z.1≠q.1:=fun e=>nd.1 (Ji.mpr ⟨q,Gu e1',e.symm⟩);rw [show decide ((Sum.inr z.1:Key)=Sum.inr q.1)=false from Dj fun w=>ne (Sum.inr.inj w)];exact ih nd.2 e1' (by simpa using e2)
theorem Ts.get {b:Nat} (h:Ts M b qs) (nd:(qs.map (·.1)).Nodup) {q:Nt} (hq:q∈qs):∃ c,dGet M (.cell b) (.str q.1) (some (.cell c))/\M[c]?=some (.dct (q.2.map prK)):=by
 obtain ⟨cs,l,e,g⟩:=h;obtain ⟨i,hi,rfl⟩:=Js hq;have hc:i<cs.length:=by lia
 exists cs[i],.inl ⟨_,_,by simp only [Us,e],rfl,(Zff nd (Ja hi) (Ja hc)).symm⟩,g i _ _ (Ja hc) (Ja hi)
def Tld.get (h:Tld zs qs) {q:Nt} (hq:q∈qs):∃ z∈zs,z.1=q.1/\z.2.1.Perm q.2:=by
 obtain ⟨i,hi,rfl⟩:=Js hq;have hz:i<zs.length:=by rw [h.1]; exact hi
 exists zs[i],Jo hz,h.2 i _ _ (Ja hz) (Ja hi)
abbrev Lg:=List Pr×List Pr
def wyD (w:Str×Str):D:=.tup [.str w.1,.str w.2]
def Legs (qs:List Nt) (way:List (Str×Str)) (ls:List Lg):Prop:=ls.length=way.length/\∀ (i:Nat) (w:Str×Str) (l:Lg),way[i]?=some w->ls[i]?=some l->(w.1,l.1)∈qs/\(w.2,l.2)∈qs
def TrOk (ls:List Lg) (ts:List Int) (i:Nat) (xs:List (List Int)):Prop:=xs.length=2*i+1/\xs[0]?=some ts/\∀ j,j<i->∃ (l:Lg) (a b c:List Int),ls[j]?=some l/\xs[2*j]?=some a/\xs[2*j+1]?=some b/\xs[2*j+2]?=some c/\GoOk l.1 l.2 a b c
def LgOk (ls:List Lg):Prop:=∀ l∈ls,TbOk l.1/\TbOk l.2
def TrOk.zero (ls:List Lg) (ts:List Int):TrOk ls ts 0 [ts]:=⟨rfl,rfl,fun j h=>absurd h (Bh _)⟩
inductive Wo where
 | at (k:Nat) | to (xs:List (List Int))
def IsWo (ls:List Lg) (ts:List Int):Wo->Prop
 | .at k=>∃ (l:Lg) (xs:List (List Int)) (a:List Int),ls[k]?=some l/\TrOk ls ts k xs/\xs[2*k]?=some a/\∀ ns us,¬ GoOk l.1 l.2 a ns us
 | .to xs=>TrOk ls ts ls.length xs
end L3
variable {qs:List L3.Nt}
namespace L2
open PySem PySem.Spec PyProof.Rows
def Zns {t:TA} (h:PAF X pq σ es t):PEF X pq σ (.List es pos) (tLst t):=by
 intro s H Q I hq;refine wpAny_List_spliced (thn (h pos s H _ I hq) fun us s1 ⟨xs,H1,I1,r,z,q⟩=>⟨by rw [<- r.length]; exact z,?_⟩);have hf:H1 s1.heap.objs.size=none:=I1.hok.fresh (Je _);exists .ref s1.heap.objs.size,upd H1 s1.heap.objs.size (.lst xs),I1.laid (t':=s1.toks) (fun b u e=>Dd _ e) (Je _) ?_,rfl,q _ hf;exists z,us,0,r,De _ rfl
end L2
namespace L3
open PySem L2
abbrev refS:Str:=Str.ofString "refused"
def Zsx (zs:List Fq) (way:List (Str×Str)) (ls:List Lg):Prop:=ls.length=way.length/\∀ (i:Nat) (w:Str×Str) (l:Lg),way[i]?=some w->ls[i]?=some l->(∃ z∈zs,z.1=w.1/\z.2.1=l.1)/\∃ z∈zs,z.1=w.2/\z.2.1=l.2
def Zlc (ls ls':List Lg):Prop:=ls.length=ls'.length/\∀ (i:Nat) (l l':Lg),ls[i]?=some l->ls'[i]?=some l'->l.1.Perm l'.1/\l.2.Perm l'.2
def Zlc.get {ls ls':List Lg} (h:Zlc ls ls') {i:Nat} {l:Lg} (e:ls[i]?=some l):∃ l',ls'[i]?=some l'/\l.1.Perm l'.1/\l.2.Perm l'.2:=by
 have hi:=(Jh.mp e).1;have hi':i<ls'.length:=by rw [<- h.1]; exact hi
 exists ls'[i],Ja hi',h.2 i _ _ e (Ja hi')
def TrOk.perm {ls ls':List Lg} (h:Zlc ls ls') {i:Nat} {xs:List (List Int)} (t:TrOk ls ts i xs):TrOk ls' ts i xs:=by
 exists t.1,t.2.1,fun j hj=>?_;obtain ⟨l,a,b,c,q1,q2,q3,q4,q5⟩:=t.2.2 j hj;obtain ⟨l',e,p1,p2⟩:=h.get q1;exists l',a,b,c,e,q2,q3,q4,q5.perm p1 p2
theorem IsWo.perm {ls ls':List Lg} (h:Zlc ls ls') {o:Wo} (t:IsWo ls ts o):IsWo ls' ts o:=by
 cases o with
 | «at» k =>
  obtain ⟨l,xs,a,e,t1,ea,no⟩:=t;obtain ⟨l',e',p1,p2⟩:=h.get e;exists l',xs,a,e',t1.perm h,ea,fun ns us g=>no ns us (g.perm p1.symm p2.symm)
 | to xs =>
  have t:TrOk ls ts ls.length xs:=t;show TrOk ls' ts ls'.length xs;rw [<- h.1];exact t.perm h
def Zsb:Sp3:=fun ds M K=>∃ (S1 S2:List Pr) (d:D) (ts:List Int),ds=[.code S1,.code S2,d]/\lsOf M d=some (ts.map .int)/\((Free S1/\Fits S1)/\(Free S2/\Fits S2)/\ts.length<=20000) /\
 (∀ ns us,GoOk S1 S2 ts ns us->K (.lst [.cell M.length,.cell (M.length+1)]) (M++[.lst (ns.map .int)]++[.lst (us.map .int)]))/\((∀ ns us,¬ GoOk S1 S2 ts ns us)->∀ M',M<+:M'->K .non M')
structure Trl (N:Nat) (M:Mem) (t:Nat) (cs:List Nat) (xs:List (List Int)):Prop where
 ht:M[t]?=some (.lst (cs.map .cell))
 ln:cs.length=xs.length
 nd:cs.Nodup
 ge:∀ c∈cs,N<=c/\c≠t
 nt:N<=t
 get:∀ (i c:Nat) (x:List Int),cs[i]?=some c->xs[i]?=some x->M[c]?=some (.lst (x.map .int))
def Trl.pre {N:Nat} {t:Nat} {xs:List (List Int)} (h:Trl N M t cs xs) (p:M<+:M'):Trl N M' t cs xs :=
 ⟨Z4 p h.ht,h.ln,h.nd,h.ge,h.nt,fun i c x e1 e2=>Z4 p (h.get i c x e1 e2)⟩
def Zuk (zs:List Fq) (way:List (Str×Str)) (ts:List Int):Prop:=way.length<=3/\(∀ w∈way,w.1∈zs.map (·.1)/\w.2∈zs.map (·.1))/\(∀ z∈zs,Free z.2.1/\Fits z.2.1)/\ts.length<=300
def Zsx.ok {way:List (Str×Str)} {ls:List Lg} (h:Zsx zs way ls) (w:Zuk zs way ts):LgOk ls:=fun l hl=>by
 obtain ⟨i,hi,rfl⟩:=Js hl;have hw:i<way.length:=by rw [<- h.1]; exact hi
 obtain ⟨⟨z1,m1,n1,s1⟩,z2,m2,n2,s2⟩:=h.2 i _ _ (Ja hw) (Ja hi);have g1:=w.2.2.1 z1 m1;have g2:=w.2.2.1 z2 m2;rw [s1] at g1;rw [s2] at g2;exists g1,g2
def DueD (M:Mem) (o:Wo) (d:D):Prop:=match o with
 | .at k=>d=.lst [.str refS,.int k]
 | .to xs=>∃ es:List D,d=.lst es/\es.length=xs.length/\∀ (i:Nat) (e:D) (x:List Int),es[i]?=some e->xs[i]?=some x->lsOf M e=some (x.map .int)
theorem DueD.pre {o:Wo} {d:D} (h:DueD M o d) (p:M<+:M'):DueD M' o d:=by
 cases o with
 | «at» k=>exact h
 | to xs =>
  obtain ⟨es,e,l,g⟩:=h;exists es,e,l,fun i e x e1 e2=>Xy p (g i e x e1 e2)
def Legs.ok {way:List (Str×Str)} {ls:List Lg} (h:Legs qs way ls) (w:NtOk qs):LgOk ls:=fun l hl=>by
 obtain ⟨i,hi,rfl⟩:=Js hl;have hw:i<way.length:=by rw [<- h.1]; exact hi
 obtain ⟨g1,g2⟩:=h.2 i _ _ (Ja hw) (Ja hi);exists (w.2.2 _ g1).1,(w.2.2 _ g2).1
def Zsd (XF:Addr):Sp3:=fun ds M K=>∃ (f:Nat) (n:Str) (S:List Pr) (mk:List Int) (zs:List Fq),ds=[.cell f,.str n,.code S,.tup (mk.map .int)]/\FamAt XF M f zs/\zs.length<=1000/\n∉zs.map (·.1)/\K .non (Zdt M f (zs++[(n,S,mk)]))
def Zml (XF:Addr):Sp3:=fun ds M K=>∃ (f:Nat) (n:Str) (zs:List Fq),ds=[.cell f,.str n]/\FamAt XF M f zs/\n∈zs.map (·.1)/\∀ z∈zs,z.1=n->K (.code z.2.1) M
def bk (ls:List Lg):List Lg:=(ls.map fun l=>(l.2,l.1)).reverse
def hx (c:Nat):Nat:=if c<10 then 48+c else 87+c
def hx2 (b:Int):List Nat:=[hx (b / 16).toNat,hx (b % 16).toNat]
end L3
namespace L3
open PySem L2 PySem.NumText
def isDg (c:Nat):Bool:=decide (48<=c/\c<=57)
def dig:Nat->List Nat->Nat×Nat
 | v,[]=>(0,v)
 | v,c::r=>if isDg c=true/\v≠0/\10*v+(c-48)<=1000000000 then ((dig (10*v+(c-48)) r).1+1,(dig (10*v+(c-48)) r).2) else (0,v)
def Zfn (b:Bool):List Nat->Option (Nat×Option Int)
 | []=>none
 | c::r=>if b=true/\c=63 then some (1,none) else if isDg c=true then some ((dig (c-48) r).1+1,some ((dig (c-48) r).2:Int)) else none
inductive WkL (b:Bool) (m:Nat):List Nat->List (Option Int)->Nat->Option (List (Option Int))->Nat->Prop
 | bad {l:List Nat} {es:List (Option Int)} {i:Nat} (h:Zfn b l=none):WkL b m l es i none i
 | fin {l:List Nat} {es:List (Option Int)} {i n:Nat} {o:Option Int} (h:Zfn b l=some (n,o)) (h2:l.drop n=[]):WkL b m l es i (some (es++[o])) 0
 | stop {l:List Nat} {es:List (Option Int)} {i n c:Nat} {o:Option Int} (h:Zfn b l=some (n,o)) (h2:(l.drop n)[0]?=some c) (h3:c≠46\/es.length+1=m):WkL b m l es i none (i+n)
 | go {l:List Nat} {es:List (Option Int)} {i n p:Nat} {o:Option Int} {R:Option (List (Option Int))} (h:Zfn b l=some (n,o)) (h2:(l.drop n)[0]?=some 46) (h3:es.length+1≠m) (h4:WkL b m (l.drop (n+1)) (es++[o]) (i+n+1) R p):WkL b m l es i R p
def hval (c:Nat):Int:=if 48<=c/\c<=57 then (c:Int)-48 else if 97<=c/\c<=102 then (c:Int)-87 else -1
def hxs (l:List Nat) (k:Nat):Int:=hval (l.getD k 0)
def Lead (l:List Nat) (h:Nat):Prop:=h<=1600/\h<=l.length/\(∀ k,k<h->0<=hxs l k)/\(h<1600->h<l.length->hxs l h<0)
def rowV (l:List Nat) (i:Nat):List Int:=(List.range ((i+1) / 2)).map fun k=>16*hxs l (2*k)+if 2*k+1<i then hxs l (2*k+1) else 0
inductive RowL (l:List Nat):Option (List (Option Int))->Nat->Prop
 | da (h:l=[45]):RowL l (some []) 0
 | one (h:l≠[45]) (h2:l[0]?=some 45):RowL l none 1
 | no {h:Nat} (h0:l[0]?≠some 45) (a:Lead l h) (h3:h=0\/h % 2=1\/h<l.length):RowL l none h
 | yes (h0:l[0]?≠some 45) (a:Lead l l.length) (h3:¬ (l.length=0\/l.length % 2=1)):RowL l (some ((rowV l l.length).map some)) 0
structure Begun (b:Bool) (l:List Nat) (i j:Nat):Prop where
 le:i+j<=l.length
 pos:0<j
 all:AllDigits ((l.drop i).take j)
 vl:digitsVal ((l.drop i).take j)<=1000000000
 zr:(l.drop i)[0]?=some 48↔digitsVal ((l.drop i).take j)=0
 tn:j<=10
 th:Zfn b (l.drop i)=some (j+(dig (digitsVal ((l.drop i).take j)) (l.drop (i+j))).1,some ((dig (digitsVal ((l.drop i).take j)) (l.drop (i+j))).2:Int))
end L3
namespace L3
open PySem L2
abbrev Wy:=Str×Str
variable {lg:L3.Wy} {lgs:List L3.Wy}
abbrev Md:=List Wy×List Int
variable {ms:List L3.Md}
def Yt (nm:List Str):List Wy:=nm.flatMap fun a=>(nm.filter fun b=>decide (b≠a)).map fun b=>(a,b)
def Y7 (zs:List Fq) (n:Str):List Pr:=((zs.find? fun z=>decide (z.1=n)).map (·.2.1)).getD []
def T9 (nd:(zs.map (·.1)).Nodup) {z:Fq} (h:z∈zs):Y7 zs z.1=z.2.1:=by
 unfold Y7;have:zs.find? (fun y=>decide (y.1=z.1))=some z:=by
  rw [List.find?_eq_some_iff_append];obtain ⟨a,b,rfl⟩:=List.append_of_mem h;exists Di rfl,a,b,rfl,fun y hy=>?_;rw [Jg,Jl,Gv] at nd;have:=nd.2.2 y.1 (List.mem_map_of_mem hy) z.1 Jm;simpa using this
 rw [this];rfl
open Classical in
noncomputable def bkO (S1 S2:List Pr) (ts:List Int):Option (List Int):=if h:∃ us ns,GoOk S1 S2 ts ns us then some h.choose else none
def Nc {us:List Int} (f1:Free S1) (f2:Free S2) (i2:Fits S2) (h:GoOk S1 S2 ts ns us):bkO S1 S2 ts=some us:=by
 unfold bkO;have hx:∃ us ns,GoOk S1 S2 ts ns us:=⟨us,ns,h⟩;rw [dif_pos hx];obtain ⟨ns',h'⟩:=hx.choose_spec;rw [(GoOk.uniq f1 f2 i2 h' h).2]
def Zi0 (h:∀ ns us,¬ GoOk S1 S2 ts ns us):bkO S1 S2 ts=none:=by
 unfold bkO;rw [dif_neg];rintro ⟨us,ns,z⟩;exact h ns us z
def Zk6 {us:List Int} (h:bkO S1 S2 ts=some us):∃ ns,GoOk S1 S2 ts ns us:=by
 unfold bkO at h
 split at h
 ·next hx=>cases h; exact hx.choose_spec
 ·cases h
noncomputable def led1 (zs:List Fq) (lg:Wy) (m:Md):Option Md:=(bkO (Y7 zs lg.2) (Y7 zs lg.1) m.2).map fun u=>(lg::m.1,u)
noncomputable def ledL (zs:List Fq) (fs:List Md) (lgs:List Wy):List Md:=lgs.flatMap fun lg=>fs.filterMap (led1 zs lg)
noncomputable def ledF (zs:List Fq) (fs:List Md):List Md:=ledL zs fs (Yt (zs.map (·.1)))
structure MdAt (N:Nat) (M:Mem) (ps:List (Nat×Nat)) (ms:List Md):Prop where
 ln:ps.length=ms.length
 nd:(ps.flatMap fun p=>[p.1,p.2]).Nodup
 ge:∀ p∈ps,N<=p.1/\N<=p.2
 at1:∀ (i:Nat) (p:Nat×Nat) (m:Md),ps[i]?=some p->ms[i]?=some m->M[p.1]?=some (.lst (m.1.map wyD))/\M[p.2]?=some (.lst (m.2.map .int))
def pcD (p:Nat×Nat):D:=.tup [.cell p.1,.cell p.2]
def MdIs (M:Mem) (e:D) (m:Md):Prop:=∃ a b,e=.tup [a,b]/\lsOf M a=some (m.1.map wyD)/\lsOf M b=some (m.2.map .int)
def Zil:Sp3:=fun ds M K=>∃ (d:D) (nm:List Str),ds=[d]/\lsOf M d=some (nm.map .str)/\nm.length<=100/\K (.cell M.length) (M++[.lst ((Yt nm).map wyD)])
def FmOk (zs:List Fq):Prop:=zs.length<=8/\∀ z∈zs,TbOk z.2.1
def dLed (XF:Addr):Sp3:=fun ds M K=>∃ (f:Nat) (d:D) (n:Nat) (zs:List Fq) (es:List D) (fs:List Md),ds=[.cell f,d,.int n]/\FamAt XF M f zs/\lsOf M d=some es/\(FmOk zs/\0<n/\n<=1000/\es.length=fs.length/\fs.length<=1000/\(∀ (i:Nat) (e:D) (m:Md),es[i]?=some e->fs[i]?=some m->MdIs M e m)/\∀ m∈fs,m.2.length<=20000/\m.1.length<=100) /\
 ∀ (M':Mem) (c:Nat) (ps:List (Nat×Nat)),M<+:M'->M.length<=c->M'[c]?=some (.lst (ps.map pcD))->(∀ p∈ps,p.1≠c/\p.2≠c)->MdAt M.length M' ps ((ledF zs fs).take n)->K (.cell c) M'
def Zoa {fs:List Md} {i:Nat} (h:i<lgs.length):ledL zs fs lgs=ledL zs fs (lgs.take i)++fs.filterMap (led1 zs lgs[i])++ledL zs fs (lgs.drop (i+1)):=by
 unfold ledL
 conv=>lhs; rw [<- G9 i lgs,G2 h]
 rw [Gy,Ba,Gd]
def Zhk {fs:List Md} {i:Nat} (h:i<lgs.length):ledL zs fs (lgs.take (i+1))=ledL zs fs (lgs.take i)++fs.filterMap (led1 zs lgs[i]):=by
 unfold ledL;rw [Jf h,Gy,Ba,Bv,J0]
def MdAt.nil (N:Nat) (M:Mem):MdAt N M [] []:=⟨rfl,Bd,fun _ h=>(nomatch h),fun _ _ _ e=>nomatch e⟩
def MdAt.keep {N t:Nat} {M M':Mem} {ps:List (Nat×Nat)} {ms:List Md} (h:MdAt N M ps ms) (p:M<+:M'):MdAt N M' ps ms :=
 ⟨h.ln,h.nd,h.ge,fun i p' m e1 e2=>⟨Z4 p (h.at1 i p' m e1 e2).1,Z4 p (h.at1 i p' m e1 e2).2⟩⟩
theorem MdAt.put {N t:Nat} {x:MO} {ps:List (Nat×Nat)} (h:MdAt N M ps ms) (ht:t<N):MdAt N (M.set t x) ps ms :=
 ⟨h.ln,h.nd,h.ge,fun i p' m e1 e2=>by
  have g:=h.ge p' (Gu e1);exact ⟨Yv (h.at1 i p' m e1 e2).1 (by lia),Yv (h.at1 i p' m e1 e2).2 (by lia)⟩⟩
theorem MdAt.snoc {N a b:Nat} {ps:List (Nat×Nat)} {m:Md} (h:MdAt N M ps ms) (hn:∀ p∈ps,p.1<a/\p.2<a/\p.1<b/\p.2<b) (ab:a≠b) (ga:N<=a) (gb:N<=b) (h1:M[a]?=some (.lst (m.1.map wyD))) (h2:M[b]?=some (.lst (m.2.map .int))):MdAt N M (ps++[(a,b)]) (ms++[m]):=by
 exists by rw [Jc,Jc,h.ln]; rfl,?_,fun p hp=>?_,fun i p' m' e1 e2=>?_
 ·rw [Gy,Gv];exists h.nd,?_,fun x hx y hy=>?_
  ·show [a,b].Nodup;rw [Gq];exists fun z=>ab (Jj.mp z),Gq.mpr ⟨(fun z=>nomatch z),Bd⟩
  ·obtain ⟨p,hp,hx⟩:=Gi.mp hx;have g:=hn p hp;have hy:y=a\/y=b:=by simpa using hy
   have hx:x=p.1\/x=p.2:=by simpa using hx
   rcases hx with e | e <;> rcases hy with e' | e' <;> lia
 ·rcases Gc.mp hp with z | z
  ·exact h.ge p z
  ·rw [Jj.mp z];exists ga,gb
 ·by_cases hi:i<ps.length
  ·rw [Jr hi] at e1;rw [Jr (by rw [<- h.ln]; exact hi)] at e2;exact h.at1 i p' m' e1 e2
  ·rw [J8 (by lia)] at e1;rw [J8 (by rw [<- h.ln]; lia)] at e2;have z1:i-ps.length=0:=by
    have:=(Jh.mp e1).1;simp at this;lia
   rw [z1] at e1;rw [<- h.ln,z1] at e2;cases e1;cases e2;exists h1,h2
def Zjf (n:Nat) (M:Mem) (lgs:List Wy) (acc:List Md) (M':Mem):Prop:=∃ ps:List (Nat×Nat),M<+:M'/\M.length+3<=M'.length/\M'[M.length+2]?=some (.lst (lgs.map wyD))/\M'[M.length]?=some (.lst (ps.map pcD))/\(∀ p∈ps,p.1<M'.length/\p.2<M'.length)/\MdAt (M.length+3) M' ps acc/\acc.length<n
def MdAt.weak {N N':Nat} {ps:List (Nat×Nat)} (h:MdAt N M ps ms) (hn:N'<=N):MdAt N' M ps ms:=⟨h.ln,h.nd,fun p hp=>⟨Jv hn (h.ge p hp).1,Jv hn (h.ge p hp).2⟩,h.at1⟩
def Pq {m:Md} {u:List Int} (h:bkO (Y7 zs lg.2) (Y7 zs lg.1) m.2=some u):led1 zs lg m=some (lg::m.1,u):=by unfold led1; rw [h]; rfl
def Zob {m:Md} (h:bkO (Y7 zs lg.2) (Y7 zs lg.1) m.2=none):led1 zs lg m=none:=by unfold led1; rw [h]; rfl
def Zh8 {α:Type} (g:α->Option β) {fs:List α} (h:j<fs.length):(fs.take (j+1)).filterMap g=(fs.take j).filterMap g++(g fs[j]).toList:=by
 rw [Jf h,List.filterMap_append,Fb,List.filterMap_nil];cases g fs[j] <;> rfl
def Zjp {acc rest all:List τ} {n:Nat} (e:all=acc++rest) (h:acc.length=n):all.take n=acc:=by rw [e,<- h,Fo]
noncomputable def lev (zs:List Fq) (ts:List Int):Nat->List Md
 | 0=>[([],ts)]
 | k+1=>ledF zs (lev zs ts k)
noncomputable def Xj (zs:List Fq) (ts:List Int):Nat->List Md
 | 0=>[]
 | k+1=>Xj zs ts k++lev zs ts (k+1)
theorem Zb2 {fs:List Md} {m:Md} (h:m∈ledF zs fs):∃ (lg:Wy) (x:Md) (u:List Int),lg∈Yt (zs.map (·.1))/\x∈fs/\bkO (Y7 zs lg.2) (Y7 zs lg.1) x.2=some u/\m=(lg::x.1,u):=by
 obtain ⟨lg,hl,h⟩:=Gi.mp h;obtain ⟨x,hx,h⟩:=Bj.mp h;unfold led1 at h;cases hb:bkO (Y7 zs lg.2) (Y7 zs lg.1) x.2 with
 | none=>rw [hb] at h; cases h
 | some u=>rw [hb] at h;exists lg,x,u,hl,hx,hb,(Dl h).symm
def Uo {nm:List Str} (h:lg∈Yt nm):lg.1∈nm/\lg.2∈nm:=by
 obtain ⟨a,ha,h⟩:=Gi.mp h;obtain ⟨b,hb,rfl⟩:=Ji.mp h;exists ha,(G4.mp hb).1
def Vh (nd:(zs.map (·.1)).Nodup) (ok:FmOk zs) {n:Str} (h:n∈zs.map (·.1)):TbOk (Y7 zs n):=by
 obtain ⟨z,hz,rfl⟩:=Ji.mp h;rw [T9 nd hz];exact ok.2 z hz
theorem T5 (nd:(zs.map (·.1)).Nodup) (ok:FmOk zs) :∀ {k:Nat} {m:Md},m∈lev zs ts k->m.2.length<=4 ^ k*ts.length/\m.1.length=k
 | 0,m,h=>by
  rw [Jj.mp h];exists by simp,rfl
 | k+1,m,h=>by
  obtain ⟨lg,x,u,hl,hx,hb,rfl⟩:=Zb2 h;obtain ⟨i1,i2⟩:=T5 nd ok hx;obtain ⟨ns,go⟩:=Zk6 hb;obtain ⟨g1,g2⟩:=Uo hl;have gl:=go.len (Vh nd ok g2).2 (Vh nd ok g1).2;refine ⟨?_,by show x.1.length+1=_; lia⟩;show u.length<=_;rw [Nat.pow_succ,Nat.mul_comm (4 ^ k) 4,Nat.mul_assoc];lia
theorem MdAt.app {N B:Nat} {ps qs:List (Nat×Nat)} {ks:List Md} (h:MdAt N M ps ms) (hb:∀ p∈ps,p.1<B/\p.2<B) (g:MdAt B M qs ks) (hn:N<=B):MdAt N M (ps++qs) (ms++ks):=by
 exists by rw [Jc,Jc,h.ln,g.ln],?_,fun p hp=>?_,fun i p m e1 e2=>?_
 ·rw [Gy,Gv];exists h.nd,g.nd,fun x hx y hy=>?_;obtain ⟨p,hp,hx⟩:=Gi.mp hx;obtain ⟨q,hq,hy⟩:=Gi.mp hy;have:=hb p hp;have:=g.ge q hq;have hx:x=p.1\/x=p.2:=by simpa using hx
  have hy:y=q.1\/y=q.2:=by simpa using hy
  rcases hx with e | e <;> rcases hy with e' | e' <;> lia
 ·rcases Gc.mp hp with z | z
  ·exact h.ge p z
  ·have:=g.ge p z; lia
 ·by_cases hi:i<ps.length
  ·rw [Jr hi] at e1;rw [Jr (by rw [<- h.ln]; exact hi)] at e2;exact h.at1 i p m e1 e2
  ·rw [J8 (by lia)] at e1;rw [J8 (by rw [<- h.ln]; lia),<- h.ln] at e2;exact g.at1 _ p m e1 e2
theorem MdAt.is {N:Nat} {ps:List (Nat×Nat)} (h:MdAt N M ps ms):∀ (i:Nat) (e:D) (m:Md),(ps.map pcD)[i]?=some e->ms[i]?=some m->MdIs M e m:=fun i e m e1 e2=>by
 rw [J9] at e1;cases hp:ps[i]? with
 | none=>rw [hp] at e1; cases e1
 | some p =>
  rw [hp] at e1;cases e1;obtain ⟨a1,a2⟩:=h.at1 i p m hp e2;exists _,·,Yp a1,Yp a2
theorem Zkd {a b:Nat} (h:a<=b):(Xj zs ts a).length<=(Xj zs ts b).length:=by
 induction b with
 | zero=>rw [Nat.le_zero.mp h]; exact Je _
 | succ b ih =>
  rcases Nat.lt_or_ge a (b+1) with z | z
  ·exact Jv (ih (by lia)) (by rw [Xj,Jc]; lia)
  ·rw [show a=b+1 by lia]; exact Je _
def Zmi (XF XT:Addr):Sp3X:=fun ds M K KX=>∃ (f:Nat) (d:D) (L most:Nat) (zs:List Fq) (ts:List Int),ds=[.cell f,d,.int L,.int most]/\FamAt XF M f zs/\lsOf M d=some (ts.map .int)/\(FmOk zs/\L<=3/\most<=900/\ts.length<=300) /\
 ((Xj zs ts L).length<=most->∀ (M':Mem) (c:Nat) (ps:List (Nat×Nat)),M<+:M'->M.length<=c->M'[c]?=some (.lst (ps.map pcD))->(∀ p∈ps,p.1≠c/\p.2≠c)->MdAt M.length M' ps (Xj zs ts L)->K (.cell c) M') /\
 (most<(Xj zs ts L).length->∀ M',M<+:M'->KX XT [("most",.int most)] M')
noncomputable def fwO (zs:List Fq) (lg:Wy) (t:List Int):Option (List Int):=bkO (Y7 zs lg.1) (Y7 zs lg.2) t
noncomputable def bwO (zs:List Fq) (lg:Wy) (t:List Int):Option (List Int):=bkO (Y7 zs lg.2) (Y7 zs lg.1) t
def Ze4 (nd:(zs.map (·.1)).Nodup) (ok:FmOk zs) (h:lg∈Yt (zs.map (·.1))) {t u:List Int}:fwO zs lg t=some u↔bwO zs lg u=some t:=by
 obtain ⟨g1,g2⟩:=Uo h;have k1:=Vh nd ok g1;have k2:=Vh nd ok g2
 constructor
 ·intro e;obtain ⟨ns,go⟩:=Zk6 e;exact Nc k2.1 k1.1 k1.2 go.symm
 ·intro e;obtain ⟨ns,go⟩:=Zk6 e;exact Nc k1.1 k2.1 k2.2 go.symm
abbrev En3:=List Int×List Wy×List Int
noncomputable def end1 (zs:List Fq) (lgs:List Wy) (t:List Int) (lg:Wy):List En3:=match fwO zs lg t with
 | none=>[]
 | some u=>(t,[lg],u)::lgs.filterMap fun mo=>(fwO zs mo u).map fun v=>(t,[lg,mo],v)
noncomputable def Yy (zs:List Fq) (lgs:List Wy) (ts:List (List Int)):List En3:=ts.flatMap fun t=>lgs.flatMap fun lg=>end1 zs lgs t lg
def T8 (es:List En3) (x:List Int):List Md:=(es.filter fun e=>decide (e.2.2=x)).map fun e=>(e.2.1,e.1)
theorem Up {t:List Int} {e:En3}:e∈end1 zs lgs t lg↔(e.1=t/\e.2.1=[lg]/\fwO zs lg t=some e.2.2)\/∃ mo u,mo∈lgs/\e.1=t/\e.2.1=[lg,mo]/\fwO zs lg t=some u/\fwO zs mo u=some e.2.2:=by
 unfold end1;cases hf:fwO zs lg t with
 | none =>
  constructor
  ·intro h; cases h
  ·rintro (⟨_,_,h⟩ | ⟨mo,u,_,_,_,h,_⟩) <;> cases h
 | some u =>
  constructor
  ·intro h;rcases Jq.mp h with rfl | h
   ·exact .inl ⟨rfl,rfl,rfl⟩
   ·obtain ⟨mo,hm,h⟩:=Bj.mp h;cases hg:fwO zs mo u with
    | none=>rw [hg] at h; cases h
    | some v=>rw [hg] at h; cases h; exact .inr ⟨mo,u,hm,rfl,rfl,rfl,hg⟩
  ·rintro (⟨a,b,c⟩ | ⟨mo,u',hm,a,b,c,d⟩)
   ·obtain ⟨e1,e2,e3⟩:=e;cases a; cases b; cases c;exact Jm
   ·obtain ⟨e1,e2,e3⟩:=e;cases a; cases b; cases c;refine Jk _ (Bj.mpr ⟨mo,hm,?_⟩);have d:fwO zs mo u=some e3:=d;rw [d];rfl
def Zow {ts:List (List Int)} {x:List Int} {m:Md}:m∈T8 (Yy zs lgs ts) x↔m.2∈ts/\((∃ lg∈lgs,m.1=[lg]/\fwO zs lg m.2=some x)\/∃ lg∈lgs,∃ mo∈lgs,∃ u,m.1=[lg,mo]/\fwO zs lg m.2=some u/\fwO zs mo u=some x):=by
 unfold T8 Yy
 constructor
 ·intro h;obtain ⟨e,he,rfl⟩:=Ji.mp h;obtain ⟨he,hx⟩:=G4.mp he;have hx:=of_decide_eq_true hx;obtain ⟨t,ht,he⟩:=Gi.mp he;obtain ⟨lg,hl,he⟩:=Gi.mp he;rcases Up.mp he with ⟨a,b,c⟩ | ⟨mo,u,hm,a,b,c,d⟩
  ·subst a;exists ht,.inl ⟨lg,hl,b,by rw [<- hx]; exact c⟩
  ·subst a;exists ht,.inr ⟨lg,hl,mo,hm,u,b,c,by rw [<- hx]; exact d⟩
 ·rintro ⟨ht,h⟩;refine Ji.mpr ⟨(m.2,m.1,x),G4.mpr ⟨Gi.mpr ⟨m.2,ht,?_⟩,Di rfl⟩,rfl⟩;rcases h with ⟨lg,hl,a,b⟩ | ⟨lg,hl,mo,hm,u,a,b,c⟩
  ·exact Gi.mpr ⟨lg,hl,Up.mpr (.inl ⟨rfl,a,b⟩)⟩
  ·exact Gi.mpr ⟨lg,hl,Up.mpr (.inr ⟨mo,u,hm,rfl,a,b,c⟩)⟩
def Zab {x:List Int} {m:Md}:m∈Xj zs x 2↔(∃ lg∈Yt (zs.map (·.1)),m.1=[lg]/\bwO zs lg x=some m.2)\/∃ lg∈Yt (zs.map (·.1)),∃ mo∈Yt (zs.map (·.1)),∃ u,m.1=[lg,mo]/\bwO zs lg u=some m.2/\bwO zs mo x=some u:=by
 have l1:∀ {m:Md},m∈lev zs x 1↔∃ lg∈Yt (zs.map (·.1)),m.1=[lg]/\bwO zs lg x=some m.2:=fun {m}=>by
  constructor
  ·intro h;obtain ⟨lg,y,u,hl,hy,hb,rfl⟩:=Zb2 h;rw [Jj.mp hy] at hb ⊢;exists lg,hl,rfl,hb
  ·rintro ⟨lg,hl,a,b⟩;obtain ⟨m1,m2⟩:=m;cases a;refine Gi.mpr ⟨lg,hl,Bj.mpr ⟨([],x),Jj.mpr rfl,Pq b⟩⟩
 show m∈([]++lev zs x 1)++lev zs x 2↔_;rw [List.nil_append,Gc]
 constructor
 ·rintro (h | h)
  ·exact .inl (l1.mp h)
  ·obtain ⟨lg,y,u,hl,hy,hb,rfl⟩:=Zb2 h;obtain ⟨mo,hm,a,b⟩:=l1.mp hy;exact .inr ⟨lg,hl,mo,hm,y.2,by rw [a],hb,b⟩
 ·rintro (h | ⟨lg,hl,mo,hm,u,a,b,c⟩)
  ·exact .inl (l1.mpr h)
  ·obtain ⟨m1,m2⟩:=m;cases a;refine .inr (Gi.mpr ⟨lg,hl,Bj.mpr ⟨([mo],u),l1.mpr ⟨mo,hm,rfl,c⟩,Pq b⟩⟩)
def Zhm (nd:(zs.map (·.1)).Nodup) (ok:FmOk zs) {ts:List (List Int)} {x:List Int} {m:Md}:m∈(Xj zs x 2).filter (fun m=>decide (m.2∈ts))↔m∈T8 (Yy zs (Yt (zs.map (·.1))) ts) x:=by
 rw [G4,Zab,Zow,decide_eq_true_eq]
 constructor
 ·rintro ⟨h,ht⟩;exists ht,?_;rcases h with ⟨lg,hl,a,b⟩ | ⟨lg,hl,mo,hm,u,a,b,c⟩
  ·exact .inl ⟨lg,hl,a,(Ze4 nd ok hl).mpr b⟩
  ·exact .inr ⟨lg,hl,mo,hm,u,a,(Ze4 nd ok hl).mpr b,(Ze4 nd ok hm).mpr c⟩
 ·rintro ⟨ht,h⟩;exists ?_,ht;rcases h with ⟨lg,hl,a,b⟩ | ⟨lg,hl,mo,hm,u,a,b,c⟩
  ·exact .inl ⟨lg,hl,a,(Ze4 nd ok hl).mp b⟩
  ·exact .inr ⟨lg,hl,mo,hm,u,a,(Ze4 nd ok hl).mp b,(Ze4 nd ok hm).mp c⟩
theorem Rj {α:Type} {l:List α} {f:α->List β} (h1:∀ x∈l,(f x).Nodup) (h2:l.Pairwise fun a b=>∀ y,y∈f a->y∉f b):(l.flatMap f).Nodup:=by
 induction l with
 | nil=>exact Bd
 | cons a r ih =>
  rw [Fw] at h2;rw [Ba,Gv];exists h1 a Jm,ih (fun x hx=>h1 x (Jk _ hx)) h2.2,fun y hy z hz e=>?_;subst e;obtain ⟨b,hb,hz⟩:=Gi.mp hz;exact h2.1 b hb y hy hz
def Zhj {nm:List Str} (h:nm.Nodup):(Yt nm).Nodup:=by
 unfold Yt;refine Rj (fun a _=>?_) ?_
 ·rw [Jx,Gf];exact (Jx.mp (h.sublist Fu)).imp fun hab e=>hab (Prod.mk.inj e).2
 ·refine (Jx.mp h).imp fun hab y hy hz=>?_;obtain ⟨_,_,rfl⟩:=Ji.mp hy;obtain ⟨_,_,e⟩:=Ji.mp hz;exact hab (Prod.mk.inj e).1.symm
theorem Zkh {m y:Md} (h:led1 zs lg m=some y):y.1=lg::m.1:=by
 unfold led1 at h;cases hb:bkO (Y7 zs lg.2) (Y7 zs lg.1) m.2 with
 | none=>rw [hb] at h; cases h
 | some u=>rw [hb] at h; cases h; rfl
theorem Rw :∀ {fs:List Md},((fs.filterMap (led1 zs lg)).map (·.1)).Sublist (fs.map fun m=>lg::m.1)
 | []=>.slnil
 | m::r=>by
  rw [Fb,Jl];cases h:led1 zs lg m with
  | none=>exact (Rw (fs:=r)).cons _
  | some y =>
   show ((y::r.filterMap (led1 zs lg)).map (·.1)).Sublist _;rw [Jl,Zkh h];exact (Rw (fs:=r)).cons_cons _
def Zkg (nd:(zs.map (·.1)).Nodup) {fs:List Md} (h:(fs.map (·.1)).Nodup):((ledF zs fs).map (·.1)).Nodup:=by
 unfold ledF ledL;rw [List.map_flatMap];refine Rj (fun lg _=>?_) ?_
 ·refine List.Nodup.sublist Rw ?_;rw [Jx,Gf] at h ⊢;exact h.imp fun hab e=>hab (List.cons.inj e).2
 ·refine (Jx.mp (Zhj nd)).imp fun hab y hy hz=>?_;obtain ⟨a,ha,rfl⟩:=Ji.mp (Rw.subset hy);obtain ⟨b,hb,e⟩:=Ji.mp (Rw.subset hz);exact hab (List.cons.inj e).1.symm
theorem Zdo (nd:(zs.map (·.1)).Nodup) :∀ k,((lev zs ts k).map (·.1)).Nodup
 | 0=>by
  show [([]:List Wy)].Nodup;exact Gq.mpr ⟨(fun z=>nomatch z),Bd⟩
 | k+1=>Zkg nd (Zdo nd k)
theorem Zdk (nd:(zs.map (·.1)).Nodup) (ok:FmOk zs) :∀ k,(Xj zs ts k).Nodup/\∀ m∈Xj zs ts k,m.1.length<=k
 | 0=>⟨Bd,fun _ h=>nomatch h⟩
 | k+1=>by
  obtain ⟨a,b⟩:(Xj zs ts k).Nodup/\∀ m∈Xj zs ts k,m.1.length<=k:=Zdk nd ok k;have c:(lev zs ts (k+1)).Nodup:=by
   have:=Zdo nd (ts:=ts) (k+1);rw [Jx,Gf] at this;exact Jx.mpr (this.imp fun hab e=>hab (by rw [e]))
  exists ?_,fun m hm=>?_
  ·rw [Xj,Gv];exists a,c,fun x hx y hy e=>?_;have h1:=b x hx;have h2:=(T5 nd ok hy).2;rw [e] at h1;lia
  ·rcases Gc.mp hm with z | z
   ·have:=b m z; lia
   ·have:=(T5 nd ok z).2; lia
def Zov (hl:lgs.Nodup) {ts:List (List Int)} (ht:ts.Nodup):((Yy zs lgs ts).map fun e=>(e.2.1,e.1)).Nodup:=by
 unfold Yy;rw [List.map_flatMap];have gx:∀ {t lg} {m:Md},m∈(end1 zs lgs t lg).map (fun e=>(e.2.1,e.1))->m.2=t/\∃ r,m.1=lg::r:=fun {t lg m} h=>by
  obtain ⟨e,he,rfl⟩:=Ji.mp h;rcases Up.mp he with ⟨a,b,c⟩ | ⟨mo,u,hm,a,b,c,d⟩
  ·exists a,[],b
  ·exists a,[mo],b
 refine Rj (fun t _=>?_) ?_
 ·rw [List.map_flatMap];refine Rj (fun lg _=>?_) ?_
  ·unfold end1;cases hf:fwO zs lg t with
   | none=>exact Bd
   | some u =>
    show ((t,[lg],u)::_ |>.map fun e:En3=>(e.2.1,e.1)).Nodup;rw [Jl,Gq]
    constructor
    ·intro h;obtain ⟨e,he,e2⟩:=Ji.mp h;obtain ⟨mo,_,he⟩:=Bj.mp he;cases hg:fwO zs mo u with
     | none=>rw [hg] at he; cases he
     | some v=>rw [hg] at he; cases he; cases e2
    ·have sb:∀ {l:List Wy},((l.filterMap fun mo=>(fwO zs mo u).map fun v=>((t,[lg,mo],v):En3)).map fun e:En3=>(e.2.1,e.1)).Sublist (l.map fun mo=>(([lg,mo],t):Md)):=fun {l}=>by
      induction l with
      | nil=>exact .slnil
      | cons mo r ih =>
       rw [Fb,Jl];cases fwO zs mo u with
       | none=>exact ih.cons _
       | some v=>exact ih.cons_cons _
     refine List.Nodup.sublist sb ?_;rw [Jx,Gf];exact (Jx.mp hl).imp fun hab e=>hab (by have:=(Prod.mk.inj e).1; simpa using this)
  ·refine (Jx.mp hl).imp fun hab y hy hz=>?_;obtain ⟨_,r,e1⟩:=gx hy;obtain ⟨_,r',e2⟩:=gx hz;rw [e1] at e2;exact hab (List.cons.inj e2).1
 ·refine (Jx.mp ht).imp fun hab y hy hz=>?_;rw [List.map_flatMap] at hy hz;obtain ⟨lg,_,hy⟩:=Gi.mp hy;obtain ⟨lg',_,hz⟩:=Gi.mp hz;exact hab ((gx hy).1.symm.trans (gx hz).1)
def Zhn (nd:(zs.map (·.1)).Nodup) (ok:FmOk zs) {ts:List (List Int)} (ht:ts.Nodup) {x:List Int}:((Xj zs x 2).filter (fun m=>decide (m.2∈ts))).Perm (T8 (Yy zs (Yt (zs.map (·.1))) ts) x)/\(T8 (Yy zs (Yt (zs.map (·.1))) ts) x).Nodup:=by
 have d1:((Xj zs x 2).filter (fun m=>decide (m.2∈ts))).Nodup:=(Zdk nd ok 2).1.sublist Fu;have d2:(T8 (Yy zs (Yt (zs.map (·.1))) ts) x).Nodup:=by
  unfold T8;exact (Zov (Zhj nd) ht).sublist (Fu.map _)
 exists (List.perm_ext_iff_of_nodup d1 d2).mpr fun m=>Zhm nd ok,d2
def Zdz:Sp3:=fun ds M K=>∃ (d:D) (Ls:List (List Pr)),ds=[d]/\lsOf M d=some (Ls.map tbD)/\(Ls.length<=4/\∀ L∈Ls,L.length<=12/\Free L)/\∀ xs:List (List Int),xs.Nodup->xs.length<=31->(∀ x∈xs,x.length<=2)->K (.lst (xs.map fun x=>D.lst (x.map .int))) M
def Zdc {α:Type} {l:List α} {f:α->List β} {i:Nat} {p:List β} (h:i<l.length) (hp:p<+:f l[i]):(l.take i).flatMap f++p<+:l.flatMap f:=by
 have e:l.flatMap f=(l.take i).flatMap f++(f l[i]++(l.drop (i+1)).flatMap f):=by
  conv=>lhs; rw [<- G9 i l,G2 h]
  rw [Gy,Ba]
 rw [e];exact List.prefix_append_right_inj _ |>.mpr (hp.trans (Gb _ _))
theorem Vf {α:Type} {l:List α} {f:α->List β} {b:Nat} (h:∀ x∈l,(f x).length<=b):(l.flatMap f).length<=l.length*b:=by
 induction l with
 | nil=>simp
 | cons a r ih =>
  have:=ih fun x hx=>h x (Jk _ hx);have:=h a Jm;rw [Ba,Jc,Jz,Nat.succ_mul];lia
theorem Zdv {ts:List (List Int)} (h1:lgs.length<=12) (h2:ts.length<=31):(Yy zs lgs ts).length<=5000:=by
 have e1:∀ t lg,(end1 zs lgs t lg).length<=13:=fun t lg=>by
  unfold end1
  split
  ·exact Ge _
  ·rw [Jz];have:=List.length_filterMap_le (fun mo=>(fwO zs mo ‹_›).map fun v=>((t,[lg,mo],v):En3)) lgs;lia
 have e2:∀ t,(lgs.flatMap fun lg=>end1 zs lgs t lg).length<=12*13:=fun t=>Jv (Vf fun lg _=>e1 t lg) (Bp _ h1);exact Jv (Vf fun t _=>e2 t) (Jv (Bp _ h2) nofun)
def EnIs (c0:Nat) (M:Mem) (e:D) (m:En3):Prop:=∃ t,c0<t/\e=.tup [.lst (m.1.map .int),.lst (m.2.1.map wyD),.cell t]/\M[t]?=some (.lst (m.2.2.map .int))
def EnAt (c0:Nat) (M:Mem) (es:List D) (ms:List En3):Prop:=es.length=ms.length/\∀ (i:Nat) (e:D) (m:En3),es[i]?=some e->ms[i]?=some m->EnIs c0 M e m
def EnAt.keep {c0:Nat} {M M':Mem} {es:List D} {ms:List En3} (h:EnAt c0 M es ms) (p:M<+:M'):EnAt c0 M' es ms:=⟨h.1,fun i e m a b=>by
 obtain ⟨t,x,y,z⟩:=h.2 i e m a b;exact ⟨t,x,y,Z4 p z⟩⟩
theorem EnAt.put {x:MO} {es:List D} {ms:List En3} (h:EnAt c0 M es ms):EnAt c0 (M.set c0 x) es ms:=⟨h.1,fun i e m a b=>by
 obtain ⟨t,x,y,z⟩:=h.2 i e m a b;exact ⟨t,x,y,Yv z (by lia)⟩⟩
theorem EnAt.snoc {es:List D} {ms:List En3} {e:D} {m:En3} (h:EnAt c0 M es ms) (he:EnIs c0 M e m):EnAt c0 M (es++[e]) (ms++[m]):=⟨by rw [Jc,Jc,h.1]; rfl,fun i e' m' a b=>by
 by_cases hi:i<es.length
 ·rw [Jr hi] at a;rw [Jr (by rw [<- h.1]; exact hi)] at b;exact h.2 i e' m' a b
 ·rw [J8 (by lia)] at a;rw [J8 (by rw [<- h.1]; lia)] at b;have z:i-es.length=0:=by
   have:=(Jh.mp a).1;simp at this;lia
  rw [z] at a;rw [<- h.1,z] at b;cases a;cases b;exact he⟩
def EdSt (M:Mem) (all ms:List En3) (M':Mem):Prop:=∃ es:List D,M<+:M'/\M.length<M'.length/\M'[M.length]?=some (.lst es)/\EnAt M.length M' es ms/\ms<+:all
def Tm (nd:(zs.map (·.1)).Nodup) (h:Tld zs qs) {n:Str} (hq:(n,L)∈qs):(Y7 zs n).Perm L:=by
 obtain ⟨i,hi,e⟩:=Js hq;have hz:i<zs.length:=by rw [h.1]; exact hi
 obtain ⟨a,b⟩:=h.2 i zs[i] (n,L) (Ja hz) (by rw [Ja hi,e]);have:=T9 nd (Jo hz);rw [a] at this;rw [this];exact b
def Zl8 (nd:(zs.map (·.1)).Nodup) (ok:FmOk zs) (h:Tld zs qs) {L1 L2:List Pr} (q1:(lg.1,L1)∈qs) (q2:(lg.2,L2)∈qs) {t u:List Int} (go:GoOk L1 L2 t ns u) (n1:lg.1∈zs.map (·.1)) (n2:lg.2∈zs.map (·.1)):fwO zs lg t=some u :=
 Nc (Vh nd ok n1).1 (Vh nd ok n2).1 (Vh nd ok n2).2 (go.perm (Tm nd h q1).symm (Tm nd h q2).symm)
def Zr1 (nd:(zs.map (·.1)).Nodup) (h:Tld zs qs) {L1 L2:List Pr} (q1:(lg.1,L1)∈qs) (q2:(lg.2,L2)∈qs) {t:List Int} (no:∀ ns u,¬ GoOk L1 L2 t ns u):fwO zs lg t=none :=
 Zi0 fun ns us go=>no ns us (go.perm (Tm nd h q1) (Tm nd h q2))
def Zin:Sp3:=fun ds M K=>∃ (b:Nat) (d:D) (zs:List Fq) (qs:List Nt) (xs:List (List Int)),ds=[.cell b,d,.lst (xs.map fun x=>D.lst (x.map .int))]/\Ts M b qs/\lsOf M d=some ((zs.map (·.1)).map .str)/\((zs.map (·.1)).Nodup/\FmOk zs/\Tld zs qs/\NtOk qs/\zs.length<=4/\xs.length<=31/\∀ x∈xs,x.length<=2) /\
 ∀ (M':Mem) (es:List D),M<+:M'->M'[M.length]?=some (.lst es)->EnAt M.length M' es (Yy zs (Yt (zs.map (·.1))) xs)->K (.cell M.length) M'
def Znp {xs:List (List Int)} {i:Nat} {p:List En3} (hi:i<xs.length) (hj:j<lgs.length) (hp:p<+:end1 zs lgs xs[i] lgs[j]):Yy zs lgs (xs.take i)++((lgs.take j).flatMap fun lg=>end1 zs lgs xs[i] lg)++p<+:Yy zs lgs xs:=by
 rw [Gd];exact Zdc (f:=fun t=>lgs.flatMap fun lg=>end1 zs lgs t lg) hi (Zdc (f:=fun lg=>end1 zs lgs xs[i] lg) hj hp)
theorem EdSt.add {M all ms:_} {M2:Mem} {t:Nat} {m:En3} (h:EdSt M all ms M') (p:M'<+:M2) (ht:M'.length<=t) (et:M2[t]?=some (.lst (m.2.2.map .int))) (hp:ms++[m]<+:all) (ha:all.length<=5000):∃ es,M2[M.length]?=some (.lst es)/\es.length<sizeLine/\EdSt M all (ms++[m]) (M2.set M.length (.lst (es++[.tup [.lst (m.1.map .int),.lst (m.2.1.map wyD),.cell t]]))):=by
 obtain ⟨es,a,b,c,d,e⟩:=h;have lp:=p.length_le;have hl:es.length<5000:=by
  have:=hp.length_le;rw [Jc] at this;have z:([m]:List En3).length=1:=rfl;rw [d.1];lia
 exists es,Z4 p c,Ga hl nofun,_,Wv (a.trans p) (Je _),by rw [Go]; lia,Jy (by lia),?_,hp;exact ((d.keep p).snoc ⟨t,by lia,rfl,et⟩).put
theorem EdSt.keep {M:Mem} {all ms:List En3} {M' M2:Mem} (h:EdSt M all ms M') (p:M'<+:M2):EdSt M all ms M2:=by
 obtain ⟨es,a,b,c,d,e⟩:=h;have lp:=p.length_le;exists es,a.trans p,by lia,Z4 p c,d.keep p,e
def EdSt.ls {all ms:List En3} (h:EdSt M all ms M'):lsOf M' (.cell M.length)≠none:=by
 obtain ⟨es,a,b,c,d,e⟩:=h;exact Vy (Yp c)
section
variable {C:Cf} 
def Zpo (h:X.K=K') (hu:X.A.units+64<cLine):OpR X (compareOp .In) (L2.rInD K'):=by subst h; exact Zq9 hu
def inD3:R3:=fun d e M K=>∃ (xs:List D) (ps:List PyData) (p:PyData),Xt M e=some xs/\PyRs M xs ps/\PyR M d p/\PyData.canLayAll0 ps=true/\p.canLay0=true/\p.depth<=60/\K (.bl (ps.any fun z=>PyData.eqv z p)) M
def Ztu:SimR C Z (L2.rInD C.k) inD3:=fun I α H M x y d e K Q R r1 r2 h k=>by
 obtain ⟨xs,ps,p,el,hx,hd,c1,c2,dd,h⟩:=h;obtain ⟨a,vs,rfl,ea,ra⟩:=X4 R r2 el;exists a,vs,ps,p,rfl,ea,pys_dv R hx ra,Zbo R hd r1,c1,c2,dd,k _ _ I α H M (.refl _) (Jd _) R (.bl _) h
end
def Zru {xs:List (List Int)} {t:List Int} {d:D} {K:K3} (h1:lsOf M d=some (t.map .int)) (h:K (.bl (decide (t∈xs))) M):inD3 d (.lst (xs.map fun x=>D.lst (x.map .int))) M K:=by
 exists _,xs.map (Xr Y2).py,(Xr Y2).py t,rfl,?_,.seq (Y1 h1).2.1 (Wu (Y2.ok M) t),?_,((Xr Y2).shp t).1,Jv ((Xr Y2).shp t).2 nofun,?_
 ·exact Wu ((Xr Y2).ok M) xs
 ·exact Zc2 (n:=(Xr Y2).n) fun d hd=>by
   obtain ⟨x,_,rfl⟩:=Ji.mp hd;exact (Xr Y2).shp x
 ·rw [List.any_map,show xs.any ((fun z=>PyData.eqv z ((Xr Y2).py t)) ∘ (Xr Y2).py)=decide (t∈xs) by
   refine B7.mpr ⟨fun z=>Di ?_,fun hx=>?_⟩
   ·obtain ⟨x,hx,e⟩:=Bo.mp z;have e:PyData.eqv ((Xr Y2).py x) ((Xr Y2).py t)=true:=e;rw [(Xr Y2).eq,decide_eq_true_iff] at e;exact e ▸ hx
   ·refine Bo.mpr ⟨t,of_decide_eq_true hx,?_⟩;show PyData.eqv ((Xr Y2).py t) ((Xr Y2).py t)=true;rw [(Xr Y2).eq];exact Di rfl]
  exact h
theorem Zaa {x:List Int} (h:(Yt (zs.map (·.1))).length<=12):(Xj zs x 2).length<=200:=by
 have l1:(lev zs x 1).length<=12:=by
  refine Jv (Vf (b:=1) fun lg _=>?_) (by lia);exact Jv (List.length_filterMap_le _ _) (Je _)
 have l2:(lev zs x 2).length<=12*12:=by
  refine Jv (Vf (b:=12) fun lg _=>?_) (Bp _ h);exact Jv (List.length_filterMap_le _ _) l1
 show (([]++lev zs x 1)++lev zs x 2).length<=200;rw [List.nil_append,Jc];lia
theorem Pp {nm:List Str} (h:nm.length<=4):(Yt nm).length<=12:=by
 refine Jv (Vf (b:=3) fun a ha=>?_) (Bp _ h);rw [Jb];have:(nm.filter fun b=>decide (b≠a)).length<nm.length:=List.length_filter_lt_length_iff_exists.mpr ⟨a,ha,by simp⟩;lia
def Zd2 (XF:Addr):Sp3:=fun ds M K=>∃ (f:Nat) (d:D) (zs:List Fq) (ts:List Int),ds=[.cell f,d]/\FamAt XF M f zs/\lsOf M d=some (ts.map .int)/\(FmOk zs/\zs.length<=4/\ts.length<=300) /\
 ∀ (M':Mem) (c:Nat) (ps:List (Nat×Nat)),M<+:M'->M.length<=c->M'[c]?=some (.lst (ps.map pcD))->(∀ p∈ps,p.1≠c/\p.2≠c)->MdAt M.length M' ps (Xj zs ts 2)->K (.cell c) M'
def Zd0 (XF:Addr):Sp3:=fun ds M K=>∃ (f c0:Nat) (e:D) (zs:List Fq) (es:List D) (xs:List (List Int)) (ts:List Int),ds=[.cell f,.cell c0,.lst (xs.map fun x=>D.lst (x.map .int)),e]/\FamAt XF M f zs/\M[c0]?=some (.lst es)/\EnAt c0 M es (Yy zs (Yt (zs.map (·.1))) xs)/\lsOf M e=some (ts.map .int) /\
 ((zs.map (·.1)).Nodup/\FmOk zs/\zs.length<=4/\(∀ z∈zs,PyData.strOk z.1=true)/\xs.Nodup/\xs.length<=31/\ts.length<=300)/\∀ M',M<+:M'->K (.bl true) M'
def mdD (m:Md):D:=.tup [.lst (m.1.map wyD),.lst (m.2.map .int)]
def Zdw {es:List En3} {e:En3} {x:List Int}:T8 (es++[e]) x=T8 es x++if e.2.2=x then [(e.2.1,e.1)] else []:=by
 unfold T8;rw [Gx,Jg]
 by_cases h:e.2.2=x
 ·rw [Dh h,Bz (by simpa using h)];rfl
 ·rw [Dg h,B0 (by simpa using h)];rfl
def pyW (w:Wy):PyData:=.tuple [.str w.1,.str w.2]
def pyMd (m:Md):PyData:=.tuple [.list (m.1.map pyW),.list (m.2.map .int)]
def Zqz (a b:Wy):PyData.eqv (pyW a) (pyW b)=decide (a=b):=by
 obtain ⟨a1,a2⟩:=a;obtain ⟨b1,b2⟩:=b;unfold pyW;rw [PyData.eqv,PyData.eqvAll,PyData.eqvAll,PyData.eqvAll,PyData.eqv,PyData.eqv];simp [Bool.beq_eq_decide_eq]
def Zni (a b:Md):PyData.eqv (pyMd a) (pyMd b)=decide (a=b):=by
 obtain ⟨a1,a2⟩:=a;obtain ⟨b1,b2⟩:=b;unfold pyMd;rw [PyData.eqv,PyData.eqvAll,PyData.eqvAll,PyData.eqvAll,PyData.eqv,PyData.eqv,R8 Zqz,R8 (f:=PyData.int) Y2.eq];simp
def Zek (ms:List Md) (m:Md):(ms.map pyMd).countP (fun z=>PyData.eqv z (pyMd m))=ms.count m:=by
 rw [List.countP_map,List.count];refine List.countP_congr fun x _=>?_;show PyData.eqv (pyMd x) (pyMd m)=true↔_;rw [Zni,decide_eq_true_iff,beq_iff_eq]
theorem Zgn (M:Mem):∀ ws:List Wy,PyRs M (ws.map wyD) (ws.map pyW)
 | []=>.nil
 | w::r=>.cons (.tup (.cons (.str _) (.cons (.str _) .nil))) (Zgn M r)
def Zlv {e:D} {m:Md} (h:MdIs M e m):PyR M e (pyMd m):=by
 obtain ⟨a,b,rfl,h1,h2⟩:=h;exact .tup (.cons (.seq (Y1 h1).2.1 (Zgn M _)) (.cons (.seq (Y1 h2).2.1 (Wu (Y2.ok M) _)) .nil))
def Zlm {m:Md} (h:∀ w∈m.1,PyData.strOk w.1=true/\PyData.strOk w.2=true):Shp 3 (pyMd m):=by
 refine Wj fun d hd=>?_;rcases Jq.mp hd with rfl | hd
 ·refine Va fun d hd=>?_;obtain ⟨w,hw,rfl⟩:=Ji.mp hd;refine Wj fun d hd=>?_;rcases Jq.mp hd with rfl | hd
  ·exact Zjr (h w hw).1
  ·rw [Jj.mp hd]; exact Zjr (h w hw).2
 ·rw [Jj.mp hd];refine Zc1 (Va (n:=0) fun d hd=>?_) nofun;obtain ⟨i,_,rfl⟩:=Ji.mp hd;exact Ra i
def Zt8 (M:Mem) (m:Md):MdIs M (mdD m) m:=⟨_,_,rfl,rfl,rfl⟩
end L3
variable {lg:L3.Wy} {lgs:List L3.Wy} {ms:List L3.Md}
namespace K64
open PySem L2
def top (i:Nat):Stmt:=PySem.Challenge.pw_skewread_k64_whole_every_text_astray_is.main.body.getD i (.Pass ⟨0,0,0,0⟩)
abbrev Jav:Stmt:=top 31
def Jaj:FnScope ["_law_hand", "_law_many", "_law_got", "_law_cell", "_law_number"] ["_law_hand", "_law_many"] (Zh Jav):=(by rfl')
abbrev Dx:Stmt:=top 30
def Jbn:FnScope ["_law_script", "_law_place", "_law_cells", "_law_at", "_law_digits"] ["_law_script", "_law_place"] (Zh Dx):=(by rfl')
abbrev Dz:Stmt:=top 32
def Du:FnScope ["_law_hand", "_law_most", "_law_begin", "_law_step"] ["_law_hand", "_law_most"] (Zh Dz):=(by rfl')
abbrev Jbm:Stmt:=top 33
def Jaw:FnScope ["_law_hand", "_law_some", "_law_most", "_law_longest", "_law_words_here", "_law_k", "_law_at"] ["_law_hand", "_law_some", "_law_most", "_law_longest"] (Zh Jbm):=(by rfl')
abbrev Dw:Stmt:=top 34
def Jcd:FnScope ["_law_hand", "_law_many", "_law_begin", "_law_step", "_law_signs_here", "_law_at"] ["_law_hand", "_law_many"] (Zh Dw):=(by rfl')
abbrev Jce:Stmt:=top 35
def Dt:FnScope ["_law_hand", "_law_words_here", "_law_signs_here", "_law_at", "_law_spun", "_law_pairs"] ["_law_hand", "_law_words_here", "_law_signs_here"] (Zh Jce):=(by rfl')
abbrev Y4:Stmt:=top 23
def Jaq:FnScope ["one", "other", "shared"] ["one", "other"] (Zh Y4):=(by rfl')
abbrev Tv:Stmt:=top 22
def Jch:FnScope ["table", "second", "first", "odds"] ["table"] (Zh Tv):=(by rfl')
abbrev Y3:Stmt:=top 24
def Jaf:FnScope ["table", "found"] ["table"] (Zh Y3):=(by rfl')
abbrev Xp:Stmt:=top 25
def D9:FnScope ["words", "found", "word", "size"] ["words"] (Zh Xp):=(by rfl')
abbrev Z0:Stmt:=Wx (top 26) 0
def Jbl:FnScope ["self", "table"] ["self", "table"] (Zh Z0):=(by rfl')
abbrev X5:Stmt:=Wx (top 26) 3
def Jah:FnScope ["self", "sign"] ["self", "sign"] (Zh X5):=(by rfl')
abbrev X6:Stmt:=Wx (top 26) 4
def Jbd:FnScope ["self", "word"] ["self", "word"] (Zh X6):=(by rfl')
abbrev Ym:Stmt:=Wx (top 5) 0
def Jal:FnScope ["self", "at"] ["self", "at"] (Zh Ym):=(by rfl')
abbrev Ya:Stmt:=Wx (top 6) 0
def Jbk:FnScope ["self", "at"] ["self", "at"] (Zh Ya):=(by rfl')
abbrev Yg:Stmt:=Wx (top 9) 0
def Dq:FnScope ["self", "most"] ["self", "most"] (Zh Yg):=(by rfl')
abbrev Tu:Stmt:=top 14
def Jbj:FnScope ["code", "text", "row", "place", "sign", "word"] ["code", "text"] (Zh Tu):=(by rfl')
abbrev W4:Stmt:=top 11
def Jck:FnScope ["code", "row", "place", "size", "word"] ["code", "row", "place"] (Zh W4):=(by rfl')
abbrev Qr:Stmt:=top 12
def Jam:FnScope ["code", "row", "text", "place", "word"] ["code", "row"] (Zh Qr):=(by rfl')
abbrev Jcb:Stmt:=top 36
def Jba:FnScope ["_law_hand", "_law_letters", "_law_first", "_law_at", "_law_names_here", "_law_move", "_law_letter"] ["_law_hand"] (Zh Jcb):=(by rfl')
abbrev D6:Stmt:=top 37
def D0:FnScope ["_law_hand", "_law_many", "_law_longest", "_law_some", "_law_words_here", "_law_signs_here", "_law_tables_here"] ["_law_hand", "_law_many", "_law_longest"] (Zh D6):=(by rfl')
abbrev Yn:Stmt:=Wx (top 28) 0
def Jcq:FnScope ["self"] ["self"] (Zh Yn):=(by rfl')
abbrev Xq:Stmt:=Wx (top 28) 1
def Jap:FnScope ["self", "name", "code", "mark"] ["self", "name", "code", "mark"] (Zh Xq):=(by rfl')
abbrev Y5:Stmt:=Wx (top 28) 2
def Jbs:FnScope ["self"] ["self"] (Zh Y5):=(by rfl')
abbrev Xf:Stmt:=Wx (top 28) 3
def Jbz:FnScope ["self", "name"] ["self", "name"] (Zh Xf):=(by rfl')
abbrev Dy:Stmt:=top 38
def Jan:FnScope ["_law_names_here", "_law_tables_here", "_law_family_here", "_law_name", "_law_table_here", "_law_mark"] ["_law_names_here", "_law_tables_here"] (Zh Dy):=(by rfl')
abbrev Jau:Stmt:=top 39
def Jak:FnScope ["_law_names_here", "_law_tables_here", "_law_books_here", "_law_name", "_law_table_here", "_law_sign", "_law_word"] ["_law_names_here", "_law_tables_here"] (Zh Jau):=(by rfl')
abbrev Jbw:Stmt:=top 40
def Jby:FnScope ["_law_one", "_law_other", "_law_text", "_law_row", "_law_sign", "_law_readings", "_law_told", "_law_at", "_law_ends_here"] ["_law_one", "_law_other", "_law_text"] (Zh Jbw):=(by rfl')
abbrev Qt:Stmt:=top 16
def Jbx:FnScope ["one", "other", "text", "row"] ["one", "other", "text"] (Zh Qt):=(by rfl')
abbrev Xe:Stmt:=top 18
def Jae:FnScope ["names", "legs", "first"] ["names"] (Zh Xe):=(by rfl')
abbrev Wh:Stmt:=top 19
def Jbb:FnScope ["family", "found", "enough", "told", "leg", "way", "text", "steps"] ["family", "found", "enough"] (Zh Wh):=(by rfl')
abbrev Wg:Stmt:=top 20
def Jct:FnScope ["family", "text", "legs", "most", "told", "found", "size"] ["family", "text", "legs", "most"] (Zh Wg):=(by rfl')
abbrev D3:Stmt:=top 41
def D4:FnScope ["_law_tables_here", "_law_signs_here", "_law_table_here", "_law_texts_here", "_law_one"] ["_law_tables_here"] (Zh D3):=(by rfl')
abbrev Jcm:Stmt:=top 42
def Jcf:FnScope ["_law_books_here", "_law_names_here", "_law_texts_here", "_law_legs", "_law_one", "_law_ends_here", "_law_text", "_law_leg", "_law_found_here", "_law_more", "_law_later"] ["_law_books_here", "_law_names_here", "_law_texts_here"] (Zh Jcm):=(by rfl')
abbrev Jat:Stmt:=top 43
def Jbc:FnScope ["_law_family_here", "_law_end"] ["_law_family_here", "_law_end"] (Zh Jat):=(by rfl')
abbrev Jax:Stmt:=top 44
def Jac:FnScope ["_law_family_here", "_law_ends_here", "_law_texts_here", "_law_end", "_law_due", "_law_turn", "_law_handed", "_law_found_here", "_law_known", "_law_way", "_law_text"] ["_law_family_here", "_law_ends_here", "_law_texts_here", "_law_end"] (Zh Jax):=(by rfl')
abbrev Ph:Stmt:=top 45
def D7:FnScope ["_law_script", "_law_hand", "_law_many", "_law_names_here", "_law_tables_here", "_law_family_here", "_law_books_here", "_law_texts_here", "_law_ends_here", "_law_place", "_law_end"] ["_law_script"] (Zh Ph):=(by rfl')
structure Txt (mg:Str->Option Value):Prop where
 b_len:mg "len"=none
 b_abs:mg "abs"=none
 b_max:mg "max"=none
 b_min:mg "min"=none
 b_isinstance:mg "isinstance"=none
 b_all:mg "all"=none
 b_range:mg "range"=none
 b_int:mg "int"=none
 b_str:mg "str"=none
 b_bool:mg "bool"=none
 b_tuple:mg "tuple"=none
 b_list:mg "list"=none
 b_dict:mg "dict"=none
 b_sorted:mg "sorted"=none
 b_enumerate:mg "enumerate"=none
 b_zip:mg "zip"=none
 b_ValueError:mg "ValueError"=none
section
variable {w:World} {base:Heap}
theorem Jao (T:Txt mg) {f:Addr} (F:Fun K "_law_draw" "_law_draw" Jav f fd):FnOk P w K mg base CX0 1 f fd ["_law_hand", "_law_many"] Qp:=by
 refine F.ok Jaj (fun vs H Q E h=>?_) (fun cdv A outer s H vs Q E hr h=>?_)
 ·obtain ⟨p,a,n,rfl,_⟩:=h;rfl
 ·obtain ⟨p,a,n,rfl,hh,hn0,hn1,k⟩:=h;obtain ⟨d,i,cs,e1,e2,hne,hlen,hd,hi,hc⟩:=hh.ex;have npa:p≠a:=hh.ne;have SC:=Jaj;have fin:∀ (r d' i':Int),0<=r->r<n->0<=d'->0<=i'->Q (.int r) (upd H p (.lst [.int d',.int i',.ref a])):=fun r d' i' h1 h2 h3 h4 =>
   k r _ h1 h2 ⟨d',i',cs,Zd,by rw [Zl npa.symm]; exact e2,hne,hlen,h3,h4,hc⟩ (fun b o e nb=>by rw [Zl nb]; exact e) fun b nb=>by rw [Zl nb]
  refine ⟨_,(Zc (Xm (Z8 Zg7 (Yk Xc (pv 0) Zi (fun _ _=>rfl)) Zi (Yo _))
 (Zc (Zt (i:=2) SC.nd rfl (Or.inl rfl) (Z2 Wb (Yk Xc (pv 0) Zi (fun _ _=>rfl)) (pv 1)))
 (Zc (Zgu (Z2 Zg8 (Yk Xc (pv 0) Zi (fun _ _=>rfl)) (pv 1)) (Zgy (pv 0) Zi So))
 (Zk (Z5 (pv 2)))))
 Z7)
 (Zc (Zno (pv 0) Zi Zgx Zi Zl6 So)
 (Zc (Zt (i:=3) SC.nd rfl (Or.inl rfl) (Z2 Wb (Yk Xc (Yk Xc (pv 0) Zi (fun _ _=>rfl)) (Z2 Wb (Yk Xc (pv 0) Zi (fun _ _=>rfl)) (Zw Y8 (by rfl) T.b_len Dm (Za (Yk Xc (pv 0) Zi (fun _ _=>rfl)) Ze))) (fun _ _=>rfl)) Zi))
 (Zc (Zt (i:=4) SC.nd rfl (Or.inl rfl) (Z2 Wb (Z2 Wm (Z2 Wm (Z2 Uv (pv 3) Zi) (Z2 Uv (Yk Xc (pv 0) Zi (fun _ _=>rfl)) Zi)) Zi) Zi))
 (Zc (Zt (i:=4) SC.nd rfl (Or.inl rfl) (Z2 Wb (Z2 Wm (Z2 Uv (pv 4) (pv 4)) (Yk Xc (pv 0) Zi (fun _ _=>rfl))) Zi))
 (Zc (Zt (i:=4) SC.nd rfl (Or.inl rfl) (Z2 Wb (Z2 Wm (Z2 Uv (pv 4) Zi) Zi) Zi))
 (Zk (Z5 (Z2 Wb (Z2 Zg8 (Z2 Wb (Z2 Uv (pv 4) (pv 4)) Zi) Zi) (pv 1)))))))))),?_⟩
  exists ·,p,_,_,·,rfl,SqL.of e1,rfl,_,·,rfl,·,?_;refine ite2 (fun h0=>?_) (fun h0=>?_)
  ·exists ·,p,_,_,·,rfl,SqL.of e1,rfl,·,_,·,rfl,hn0,?_;exists ·,p,_,_,·,rfl,SqL.of e1,rfl,·,_,·,rfl,⟨hn0,hn1⟩,·,p,_,_,0,rfl,rfl,e1,rfl,?_;exists ·,?_;exact fin _ _ _ (Bg _ (by lia)) (Gw _ hn0) (Int.ediv_nonneg hd (by lia)) hi
  ·have e1':(upd H p (.lst [.int d,.int (i+1),.ref a])) p=some (.lst [.int d,.int (i+1),.ref a]):=Zd;have e2':(upd H p (.lst [.int d,.int (i+1),.ref a])) a=some (.lst (cs.map V.int)):=by rw [Zl npa.symm]; exact e2
   obtain ⟨c,hc1,hc2⟩:=Zck hne (i+1);have hlp:(0:Int)<(((cs.map V.int).length:Nat):Int):=by
    rw [Jb];have:=Gr.mpr hne;lia
   refine ⟨_,rfl,p,_,1,_,rfl,rfl,SqL.of e1,rfl,_,_,rfl,rfl,p,_,_,1,rfl,rfl,e1,rfl,?_⟩;refine ⟨_,rfl,p,_,_,_,rfl,rfl,SqL.of e1',rfl,_,rfl,p,_,_,_,rfl,rfl,SqL.of e1',rfl,_,rfl,p,_,_,_,rfl,rfl,SqL.of e1',rfl,_,_,rfl,.inl ⟨_,SqL.of e2',rfl⟩,_,_,rfl,rfl,hlp,
    a,_,_,_,rfl,rfl,SqL.of e2',hc2,_,_,rfl,rfl,(by show (0:Int)<_; decide),?_⟩
   exists ·,_,·,rfl,.inr ⟨nofun,nofun⟩,·,p,_,_,·,rfl,SqL.of e1',rfl,_,·,rfl,.inr ⟨nofun,nofun⟩,_,·,rfl,_,·,rfl,_,·,rfl,(by show (0:Int)<_; decide),?_;generalize hx:(c % 2147483647*48271+(i+1)*7368787+11) % 998244353=x;have x0:0<=x:=by rw [<- hx]; exact Bg _ nofun
   have x1:x<998244353:=by rw [<- hx]; exact Gw _ nofun
   exists ·,·,_,·,rfl,.inl ⟨by lia,by lia⟩,·,p,_,_,·,rfl,SqL.of e1',rfl,_,·,rfl,_,·,rfl,(by show (0:Int)<_; decide),?_;generalize hy:(x*x+(i+1)) % 998244353=y;exists ·,_,·,rfl,.inr ⟨nofun,nofun⟩,_,·,rfl,_,·,rfl,(by show (0:Int)<_; decide),?_;generalize hz:(y*40503203+12345) % 2147483647=z;have z0:0<=z:=by rw [<- hz]; exact Bg _ nofun
   have z1:z<2147483647:=by rw [<- hz]; exact Gw _ nofun
   exists ·,·,_,·,rfl,.inl ⟨by lia,by lia⟩,_,·,rfl,(by show (0:Int)<_; decide),_,·,rfl,⟨nofun,nofun⟩,·,_,·,rfl,hn0,?_;exact fin _ _ _ (Bg _ (by lia)) (Gw _ hn0) hd (by show 0<=i+1; lia)
theorem Jcl (T:Txt mg) {f:Addr} (F:Fun K "_law_open" "_law_open" Dx f fd):FnOk P w K mg base CX0 1 f fd ["_law_script", "_law_place"] (Zlj K):=by
 refine F.ok Jbn (fun vs H Q E h=>?_) (fun cdv A outer s H vs Q E hr h=>?_)
 ·obtain ⟨s,ns,i,rfl,_⟩:=h;rfl
 ·obtain ⟨s0,ns,i,rfl,hS,hlen,hi0,hi1,k⟩:=h;have SC:=Jbn;have hu:=hr.units;refine ⟨_,(Zc (U1 (i:=2) SC.nd rfl rfl (T:=["_law_cell"]) (cs:=[]) rfl (CScope.ok (by kernel_rfl)) (Yc (Yh Wi (pv 0) Y9 (Yf Zi))) (fun _ _ _ _=>(Zq (i:=0) (Xx (by kernel_rfl)) rfl (Or.inl rfl) (Or.inr rfl))) (fun _ _ _ _=>Xh) (fun _ _ _ _=>(Zw Zk5 (by rfl) T.b_abs PyProof.Rows.boot_abs (Za (pv 0) Ze))) (Y6 nofun))
 (Zc (Xm (Z8 (Zg9 hu) (pv 2) (Yr Ze) (Yo _))
 (Zk (Zt (i:=2) SC.nd rfl (Or.inl rfl) (Yr (Za Zi Ze))))
 Z7)
 (Zc (Zt (i:=3) SC.nd rfl (Or.inl rfl) (Z2 Wb (pv 1) (Zw Y8 (by rfl) T.b_len Dm (Za (pv 2) Ze))))
 (Zc (Zt (i:=4) SC.nd rfl (Or.inl rfl) Zi)
 (Zc (Xm (PW.pt (Zgp (Z8 Zt7 (Yk Xc (pv 2) (pv 3) (fun _ _=>rfl)) (Z2 Zg6 Zi Zi) (Yo _)) (Zbp (Z8 Zj8 (pv 1) (Zw Y8 (by rfl) T.b_len Dm (Za (pv 2) Ze)) (Yo _)))))
 (Zk (Zt (i:=4) SC.nd rfl (Or.inl rfl) (Yk Xc (pv 2) (pv 3) (fun _ _=>rfl))))
 Z7)
 (Zk (Z5 (Yr (Za (pv 4) (Za (Z2 Wm Zi (Z2 Uv Zi (pv 1))) (Za (Z2 Qw (Yh Wi (pv 2) (Yf (pv 3)) Y9) (Yh Wi (pv 2) Y9 (Yf (pv 3)))) Ze))))))))))),?_⟩
  obtain ⟨ms,ems,lms,_⟩:=Zkz ns none (some 63);refine ⟨_,rfl,_,rfl,s0,_,rfl,hS,fun q hq=>⟨q,rfl,⟨_,SqL.of Zd⟩,W0 (n:=ms.length) (fun j ys H'=>∃ as:List Int,ys=as.map V.int/\as.length=j/\(∀ c∈as,0<=c)/\H'=upd H q (.lst (cutV (ns.map V.int) none (some 63))))
   ⟨[],rfl,rfl,fun _ h=>(nomatch h),rfl⟩ ?_ (Zm (by lia)) ?_ ?_ ?_ ?_⟩⟩
  ·rintro j ys H' ⟨as,rfl,rfl,_⟩;rw [Jb];exact Je _
  ·rintro j ys H' hj ⟨as,rfl,rfl,_,rfl⟩;exists _,.int (ms[as.length]'hj),SqL.of Zd,?_;rw [ems,J9,Ja hj];rfl
  ·rintro ys H' ⟨as,rfl,hl,_,rfl⟩;exact ⟨_,SqL.of Zd,by rw [ems,Jb]; exact Je _⟩
  ·rintro j ys H' hj ⟨as,rfl,rfl,hp,rfl⟩ x H2 ⟨rfl,y⟩;have hx:=y _ (SqL.of Zd);rw [ems,J9,Ja hj] at hx;cases hx;exists ·,·,as++[_],by rw [Jg]; rfl,by rw [Jc]; rfl,fun c hc=>?_,rfl;rcases Gc.mp hc with z | z
   ·exact hp c z
   ·rw [Jj.mp z]
    split <;> lia
  ·rintro ys H' ⟨as,rfl,hl,hp,rfl⟩ c0 hc0;have s1:Same H (upd H q (.lst (cutV (ns.map V.int) none (some 63)))):=Zb hq;generalize upd H q (.lst (cutV (ns.map V.int) none (some 63)))=H1 at hc0 s1;have s2:Same H (upd H1 c0 (.lst (as.map V.int))):=s1.trans (Zb hc0);have n0:H c0=none:=s1.free hc0;have e0:(upd H1 c0 (.lst (as.map V.int))) c0=some (.lst (as.map V.int)):=Zd;generalize upd H1 c0 (.lst (as.map V.int))=H2 at s2 e0;have hla:as.length<=63:=by lia
   exists ·,Ge _,fun l hl=>⟨_,_,DV.lst (SqL.of ((Zb hl) _ _ e0)) (Sx as),DV.lst (SqL.of Zd) .nil,(Zc3 as).shaped nofun,(Zc3 []).shaped nofun,_,rfl,?_⟩;rw [Zot];have s3:Same H (upd H2 l (.lst [])):=s2.trans (Zb hl);have e1:(upd H2 l (.lst [])) c0=some (.lst (as.map V.int)):=(Zb hl) _ _ e0;generalize upd H2 l (.lst [])=H3 at s3 e1;refine ite2 (fun h0=>?_) (fun h0=>?_)
   ·exists by show 1<=sizeLine; decide,fun c1 hc1=>?_;have W:HC H (upd H3 c1 (.lst [.int 0])) c1:=⟨[0],s3.trans (Zb hc1),s3.free hc1,Zd,by simp,nofun,by simp⟩
    revert W
    generalize upd H3 c1 (.lst [.int 0])=H4;intro W;obtain ⟨as4,s4,n4,e4,hne,hl4,hp4⟩:=W;obtain ⟨c,hc1,hc2⟩:=Zck hne i;obtain ⟨cs,ecs,ncs,lcs,mcs⟩:=spun hne i;have hlp:(0:Int)<(((as4.map V.int).length:Nat):Int):=by
     rw [Jb];have:=Gr.mpr hne;lia
    exists ·,·,_,·,.inl ⟨_,SqL.of e4,rfl⟩,_,·,rfl,hlp,?_;exists ·,·,_,_,_,·,rfl,SqL.of e4,hc2,_,·,rfl,⟨nofun,nofun,nofun⟩,_,·,rfl,·,?_;refine ite2 (fun _=>?_) (fun _=>?_)
    ·exists ·,·,_,·,.inl ⟨_,SqL.of e4,rfl⟩,_,·,rfl,·,?_;refine ite2 (fun _=>?_) (fun _=>?_)
     ·refine ⟨_,rfl,_,rfl,_,_,_,_,rfl,rfl,SqL.of e4,hc2,?_⟩;exact ⟨_,rfl,_,rfl,_,_,rfl,rfl,.inl ⟨nofun,nofun⟩,_,_,rfl,rfl,_,rfl,_,rfl,_,rfl,_,_,rfl,SqL.of e4,fun l1 hl1=>⟨_,rfl,_,rfl,_,rfl,_,_,rfl,SqL.of ((Zb hl1) _ _ e4),fun l2 hl2 =>
       ⟨l1,l2,_,_,rfl,rfl,(Zb hl2) _ _ Zd,Zd,by rw [<- Jc,ecs,Jb]; exact Zm (by lia),fun l3 hl3=>⟨by show 3<=sizeLine; decide,fun p hp =>
        k p l3 _ (s4.free ((Zb hl1).free ((Zb hl2).free ((Zb hl3).free hp)))) (s4.free ((Zb hl1).free ((Zb hl2).free hl3)))
         ⟨_,_,cs,Zd,by rw [<- ecs]; exact (Zb hp) _ _ Zd,ncs,by lia,by first | exact hp4 _ hc1 | decide,by lia,fun x hx=>hp4 x (mcs x hx)⟩
         (((s4.trans (Zb hl1)).trans (Zb hl2)).trans ((Zb hl3).trans (Zb hp)))⟩⟩⟩⟩
     ·exact ⟨_,rfl,_,rfl,_,_,rfl,rfl,.inl ⟨nofun,nofun⟩,_,_,rfl,rfl,_,rfl,_,rfl,_,rfl,_,_,rfl,SqL.of e4,fun l1 hl1=>⟨_,rfl,_,rfl,_,rfl,_,_,rfl,SqL.of ((Zb hl1) _ _ e4),fun l2 hl2 =>
       ⟨l1,l2,_,_,rfl,rfl,(Zb hl2) _ _ Zd,Zd,by rw [<- Jc,ecs,Jb]; exact Zm (by lia),fun l3 hl3=>⟨by show 3<=sizeLine; decide,fun p hp =>
        k p l3 _ (s4.free ((Zb hl1).free ((Zb hl2).free ((Zb hl3).free hp)))) (s4.free ((Zb hl1).free ((Zb hl2).free hl3)))
         ⟨_,_,cs,Zd,by rw [<- ecs]; exact (Zb hp) _ _ Zd,ncs,by lia,by first | exact hp4 _ hc1 | decide,by lia,fun x hx=>hp4 x (mcs x hx)⟩
         (((s4.trans (Zb hl1)).trans (Zb hl2)).trans ((Zb hl3).trans (Zb hp)))⟩⟩⟩⟩
    ·refine iteF ?_;exact ⟨_,rfl,_,rfl,_,_,rfl,rfl,.inl ⟨nofun,nofun⟩,_,_,rfl,rfl,_,rfl,_,rfl,_,rfl,_,_,rfl,SqL.of e4,fun l1 hl1=>⟨_,rfl,_,rfl,_,rfl,_,_,rfl,SqL.of ((Zb hl1) _ _ e4),fun l2 hl2 =>
       ⟨l1,l2,_,_,rfl,rfl,(Zb hl2) _ _ Zd,Zd,by rw [<- Jc,ecs,Jb]; exact Zm (by lia),fun l3 hl3=>⟨by show 3<=sizeLine; decide,fun p hp =>
        k p l3 _ (s4.free ((Zb hl1).free ((Zb hl2).free ((Zb hl3).free hp)))) (s4.free ((Zb hl1).free ((Zb hl2).free hl3)))
         ⟨_,_,cs,Zd,by rw [<- ecs]; exact (Zb hp) _ _ Zd,ncs,by lia,by first | exact hp4 _ hc1 | decide,by lia,fun x hx=>hp4 x (mcs x hx)⟩
         (((s4.trans (Zb hl1)).trans (Zb hl2)).trans ((Zb hl3).trans (Zb hp)))⟩⟩⟩⟩
   ·have W:HC H H3 c0:=⟨as,s3,n0,e1,by simpa using h0,hla,hp⟩;obtain ⟨as4,s4,n4,e4,hne,hl4,hp4⟩:=W;obtain ⟨c,hc1,hc2⟩:=Zck hne i;obtain ⟨cs,ecs,ncs,lcs,mcs⟩:=spun hne i;have hlp:(0:Int)<(((as4.map V.int).length:Nat):Int):=by
     rw [Jb];have:=Gr.mpr hne;lia
    exists ·,·,_,·,.inl ⟨_,SqL.of e4,rfl⟩,_,·,rfl,hlp,?_;exists ·,·,_,_,_,·,rfl,SqL.of e4,hc2,_,·,rfl,⟨nofun,nofun,nofun⟩,_,·,rfl,·,?_;refine ite2 (fun _=>?_) (fun _=>?_)
    ·exists ·,·,_,·,.inl ⟨_,SqL.of e4,rfl⟩,_,·,rfl,·,?_;refine ite2 (fun _=>?_) (fun _=>?_)
     ·refine ⟨_,rfl,_,rfl,_,_,_,_,rfl,rfl,SqL.of e4,hc2,?_⟩;exact ⟨_,rfl,_,rfl,_,_,rfl,rfl,.inl ⟨nofun,nofun⟩,_,_,rfl,rfl,_,rfl,_,rfl,_,rfl,_,_,rfl,SqL.of e4,fun l1 hl1=>⟨_,rfl,_,rfl,_,rfl,_,_,rfl,SqL.of ((Zb hl1) _ _ e4),fun l2 hl2 =>
       ⟨l1,l2,_,_,rfl,rfl,(Zb hl2) _ _ Zd,Zd,by rw [<- Jc,ecs,Jb]; exact Zm (by lia),fun l3 hl3=>⟨by show 3<=sizeLine; decide,fun p hp =>
        k p l3 _ (s4.free ((Zb hl1).free ((Zb hl2).free ((Zb hl3).free hp)))) (s4.free ((Zb hl1).free ((Zb hl2).free hl3)))
         ⟨_,_,cs,Zd,by rw [<- ecs]; exact (Zb hp) _ _ Zd,ncs,by lia,by first | exact hp4 _ hc1 | decide,by lia,fun x hx=>hp4 x (mcs x hx)⟩
         (((s4.trans (Zb hl1)).trans (Zb hl2)).trans ((Zb hl3).trans (Zb hp)))⟩⟩⟩⟩
     ·exact ⟨_,rfl,_,rfl,_,_,rfl,rfl,.inl ⟨nofun,nofun⟩,_,_,rfl,rfl,_,rfl,_,rfl,_,rfl,_,_,rfl,SqL.of e4,fun l1 hl1=>⟨_,rfl,_,rfl,_,rfl,_,_,rfl,SqL.of ((Zb hl1) _ _ e4),fun l2 hl2 =>
       ⟨l1,l2,_,_,rfl,rfl,(Zb hl2) _ _ Zd,Zd,by rw [<- Jc,ecs,Jb]; exact Zm (by lia),fun l3 hl3=>⟨by show 3<=sizeLine; decide,fun p hp =>
        k p l3 _ (s4.free ((Zb hl1).free ((Zb hl2).free ((Zb hl3).free hp)))) (s4.free ((Zb hl1).free ((Zb hl2).free hl3)))
         ⟨_,_,cs,Zd,by rw [<- ecs]; exact (Zb hp) _ _ Zd,ncs,by lia,by first | exact hp4 _ hc1 | decide,by lia,fun x hx=>hp4 x (mcs x hx)⟩
         (((s4.trans (Zb hl1)).trans (Zb hl2)).trans ((Zb hl3).trans (Zb hp)))⟩⟩⟩⟩
    ·refine iteF ?_;exact ⟨_,rfl,_,rfl,_,_,rfl,rfl,.inl ⟨nofun,nofun⟩,_,_,rfl,rfl,_,rfl,_,rfl,_,rfl,_,_,rfl,SqL.of e4,fun l1 hl1=>⟨_,rfl,_,rfl,_,rfl,_,_,rfl,SqL.of ((Zb hl1) _ _ e4),fun l2 hl2 =>
       ⟨l1,l2,_,_,rfl,rfl,(Zb hl2) _ _ Zd,Zd,by rw [<- Jc,ecs,Jb]; exact Zm (by lia),fun l3 hl3=>⟨by show 3<=sizeLine; decide,fun p hp =>
        k p l3 _ (s4.free ((Zb hl1).free ((Zb hl2).free ((Zb hl3).free hp)))) (s4.free ((Zb hl1).free ((Zb hl2).free hl3)))
         ⟨_,_,cs,Zd,by rw [<- ecs]; exact (Zb hp) _ _ Zd,ncs,by lia,by first | exact hp4 _ hc1 | decide,by lia,fun x hx=>hp4 x (mcs x hx)⟩
         (((s4.trans (Zb hl1)).trans (Zb hl2)).trans ((Zb hl3).trans (Zb hp)))⟩⟩⟩⟩
theorem Jbg (T:Txt mg) (Zn:Cal P w K mg base "_law_draw" 1 ["_law_hand", "_law_many"] Qp) {f:Addr} (F:Fun K "_law_bytes" "_law_bytes" Dz f fd):FnOk P w K mg base CX0 2 f fd ["_law_hand", "_law_most"] Zf3:=by
 refine F.ok Du (fun vs H Q E h=>?_) (fun cdv A outer s H vs Q E hr h=>?_)
 ·obtain ⟨p,a,m,rfl,_⟩:=h;rfl
 ·obtain ⟨p,a,m,rfl,hh,hm1,hm2,k⟩:=h;have SC:=Du;have Zo:Room 1 _:=hr.mono nofun;refine ⟨_,(Zc (Zt (i:=2) SC.nd rfl (Or.inr rfl) (Zy Zn Zo rfl (Za (pv 0) (Za Zi Ze))))
 (Zc (Zt (i:=3) SC.nd rfl (Or.inr rfl) (Z2 Wm Zi (Zy Zn Zo rfl (Za (pv 0) (Za Zi Ze)))))
 (Zk (Z5 (Xi (T:=["_law_k"]) (cs:=[2,3]) rfl (CScope.ok (by kernel_rfl)) (Xa rfl T.b_range (Za (Z2 Wm Zi (Zy Zn Zo rfl (Za (pv 0) (Za (Z2 Zl2 (pv 1) Zi) Ze)))) Ze)) (fun _ _ _ _=>(Zq (i:=0) (Xx (by kernel_rfl)) rfl (Or.inl rfl) (Or.inr rfl))) (fun _ _ _ _=>Xh) (fun _ _ _ _=>(Z2 Wb (Z2 Wm (pv 1) (Z2 Uv (pv 2) (pv 0))) Zi)) (Y6 nofun)))))),?_⟩
  refine ⟨_,rfl,p,a,_,rfl,hh,nofun,nofun,fun b0 H1 b00 b01 h1 g1 u1=>?_⟩;refine ⟨_,rfl,p,a,_,rfl,h1,nofun,nofun,fun s0 H2 s00 s01 h2 g2 u2=>⟨_,_,rfl,rfl,?_⟩⟩;refine ⟨_,rfl,_,rfl,_,_,rfl,rfl,p,a,_,rfl,h2,by lia,by lia,fun n0 H3 n00 n01 h3 g3 u3=>⟨_,_,rfl,rfl,(2+n0),rfl,by lia,by lia,W0 (n:=(2+n0).toNat)
   (fun j ys H'=>H'=H3/\ys=((List.range j).map fun k:Nat=>(b0+(1+s0)*(k:Int)) % 256).map V.int) ⟨rfl,rfl⟩ ?_ (Zm (by lia)) ?_ ?_ ?_ ?_⟩⟩
  ·rintro j ys H' ⟨rfl,rfl⟩;rw [Jb,Jb,By];exact Je _
  ·rintro j ys H' hj _;exact hj
  ·rintro ys H' _;exact Je _
  ·rintro j ys H' hj ⟨rfl,rfl⟩ x H4 ⟨rfl,rfl⟩;exists ·,·,·,_,·,rfl,.inl ⟨by lia,by lia⟩,_,·,rfl,_,·,rfl,(by show (0:Int)<_; decide),rfl,?_;rw [List.range_succ,Jg,Jg,Int.zero_add];rfl
  ·rintro ys H' ⟨rfl,rfl⟩ l hl;obtain ⟨_,_,_,ep,_⟩:=h3.ex;have nl:l≠p:=Ne.symm (Zp ep hl);have g:=(g1.trans g2).trans g3;refine k l _ _ (g.free hl nl) nl Zd (Zbg (by lia) ?_) ?_ ?_ (fun b hb=>?_) (h3.same (Zb hl)) (g.trans (Grow.same (Zb hl)))
   ·have:((2+n0).toNat:Int)=2+n0:=by lia
    rw [this];have h4:(1+s0)*(2+n0)<=(1+s0)*4:=Int.mul_le_mul_of_nonneg_left (by lia) (by lia);lia
   ·rw [Jb,By]; lia
   ·rw [Jb,By]; lia
   ·obtain ⟨i,_,rfl⟩:=Ji.mp hb;exists Bg _ nofun,Gw _ nofun
theorem Jci (T:Txt mg) (Zn:Cal P w K mg base "_law_draw" 1 ["_law_hand", "_law_many"] Qp) {f:Addr} (F:Fun K "_law_words" "_law_words" Jbm f fd):FnOk P w K mg base CX0 2 f fd ["_law_hand", "_law_some", "_law_most", "_law_longest"] Zfx:=by
 refine F.ok Jaw (fun vs H Q E h=>?_) (fun cdv A outer s H vs Q E hr h=>?_)
 ·obtain ⟨p,a,sa,m,lg,bs,rfl,_⟩:=h;rfl
 ·obtain ⟨p,a,sa,m,lg,bs,rfl,hh,es,nsp,nd,hne,hl,hm1,hm2,hg1,hg2,k⟩:=h;have SC:=Jaw;have Zo:Room 1 _:=hr.mono nofun;have hlp:0<bs.length:=Gr.mpr hne;refine ⟨_,(Zc (Zt (i:=4) SC.nd rfl (Or.inr rfl) (Xi (T:=["_law_one"]) (cs:=[]) rfl (CScope.ok (by kernel_rfl)) (Yc (pv 1)) (fun _ _ _ _=>(Zq (i:=0) (Xx (by kernel_rfl)) rfl (Or.inl rfl) (Or.inr rfl))) (fun _ _ _ _=>Xh) (fun _ _ _ _=>(X2 (Za (pv 0) Ze))) (Y6 nofun)))
 (Zc (Yx PassesOwn.never rfl (Xa rfl T.b_range (Za (Zy Zn Zo rfl (Za (pv 0) (Za (Z2 Wm (pv 2) Zi) Ze))) Ze)) (Zq (i:=5) SC.nd rfl (Or.inl rfl))
 (Zc (Zt (i:=6) SC.nd rfl (Or.inr rfl) (Z2 Wb (Zy Zn Zo rfl (Za (pv 0) (Za Zi Ze))) (Zw Y8 (by rfl) T.b_len Dm (Za (pv 4) Ze))))
 (Zk (Xm (Z8 Zj8 (Zw Y8 (by rfl) T.b_len Dm (Za (Yk Xc (pv 4) (pv 6) (fun _ _=>rfl)) Ze)) (pv 3) (Yo _))
 (Zk (Zt (i:=4) SC.nd rfl (Or.inr rfl) (Z2 Qw (Z2 Qw (Yh Wi (pv 4) Y9 (Yf (pv 6))) (Xi (T:=["_law_one"]) (cs:=[4,6]) rfl (CScope.ok (by kernel_rfl)) (Yc (pv 1)) (fun _ _ _ _=>(Zq (i:=0) (Xx (by kernel_rfl)) rfl (Or.inl rfl) (Or.inr rfl))) (fun _ _ _ _=>Xh) (fun _ _ _ _=>(Z2 (Zo4 (K:=K) rfl) (Yk (Zi1 (K:=K) rfl) (pv 1) (pv 2) (fun _ _=>rfl)) (X2 (Za (pv 0) Ze)))) (Y6 nofun))) (Yh Wi (pv 4) (Yf (Z2 Wm (pv 6) Zi)) Y9))))
 Z7))))
 (Zk (Z5 (Xi (T:=["_law_word"]) (cs:=[0]) rfl (CScope.ok (by kernel_rfl)) (Yc (pv 4)) (fun _ _ _ _=>(Zq (i:=0) (Xx (by kernel_rfl)) rfl (Or.inl rfl) (Or.inr rfl))) (fun _ _ _ _=>(U0 (Z8 Zg7 (Zy Zn Zo rfl (Za (pv 1) (Za Zi Ze))) Zi (Yo _)))) (fun _ _ _ _=>(pv 0)) (Y6 nofun)))))),?_⟩
  exists ·,sa,rfl,⟨_,SqL.of es⟩,W0 (n:=bs.length) (fun j ys H'=>ys.length=j/\Same H H'/\X9 H' ys ((bs.map fun b=>[b]).take j)) ⟨rfl,.refl _,by rw [Bf]; exact .nil⟩ ?_ (Zm (by lia)) ?_ ?_ ?_ ?_
  ·rintro j ys H' ⟨e,_⟩;exact Bw e
  ·rintro j ys H' hj ⟨_,s1,_⟩;exact Zhr (s1 _ _ es) (by rw [Jb]; exact hj)
  ·rintro ys H' ⟨_,s1,_⟩;exact Pw (s1 _ _ es) (by rw [Jb]; exact Je _)
  ·rintro j ys H' hj ⟨e,s1,w1⟩ y H'' hy;obtain ⟨rfl,rfl⟩:=Zb4 (s1 _ _ es) (by rw [Jb]; exact hj) hy;exists ·,by show 1<=sizeLine; decide,fun q hq=>⟨by rw [Jc,e]; rfl,s1.trans (Zb hq),?_⟩;rw [Jf (by rw [Jb]; exact hj)];refine L2.Paired.snoc ⟨q,rfl,?_⟩ (X9.tk w1 (Zb hq).tk);rw [Zd,Gz,Gz];rfl
  ·rintro ys H1 ⟨e,s1,w1⟩ wl hwl;rw [<- Jb (f:=fun b:Int=>[b]),Jt] at w1;have s2:=s1.trans (Zb (o:=.lst ys) hwl);have w2:=X9.tk w1 (Zb (o:=.lst ys) hwl).tk;have e2:(upd H1 wl (.lst ys)) wl=some (.lst ys):=Zd;obtain ⟨_,ep⟩:=Xn hh;have nwp:wl≠p:=Ne.symm (Zp (s1 _ _ ep) hwl);have nw0:H wl=none:=s1.free hwl;generalize upd H1 wl (.lst ys)=H2 at s2 w2 e2;refine ⟨_,rfl,_,rfl,_,_,rfl,rfl,p,a,_,rfl,hh.same s2,by lia,by lia,fun n0 H3 n00 n01 h3 g3 u3=>?_⟩;have inv0:WOk (bs.map fun b=>[b]):=Znx nd;refine ⟨n0,rfl,by lia,by lia,Tk (n:=n0.toNat) (fun j σ H'=>∃ wl ws v1 v2,σ=[some (.ref p),some (.ref sa),some (.int m),some (.int lg),some (.ref wl),v1,v2]/\H wl=none/\wl≠p/\V3 H' wl ws/\WOk ws/\ws≠[]/\ws.length<=bs.length+j*bs.length/\HandAt H' p a/\Grow p H H')
    ⟨wl,_,_,_,rfl,nw0,nwp,⟨ys,by rw [u3 wl nwp]; exact e2,X9.tk w2 (g3.tk (s2 _ _ ep))⟩,inv0,by simpa using hne,by rw [Jb]; lia,h3,(Grow.same s2).trans g3⟩ ?_ ?_⟩
   ·rintro j σ H4 hj ⟨wl,ws,v1,v2,rfl,nw0,nwp,⟨vs,e4,w4⟩,ok4,ne4,l4,h4,g4⟩;have lv:=Paired.length w4;have lp:0<vs.length:=by rw [lv]; exact Gr.mpr ne4
    have hjb:j*bs.length<=6*24:=Ff (by lia) hl;exists ·,p,a,·,h4,nofun,nofun,fun r H5 r0 r1 h5 g5 u5=>?_;have e5:H5 wl=some (.lst vs):=by rw [u5 wl nwp]; exact e4
    obtain ⟨_,ep4⟩:=Xn h4;have w5:=X9.tk w4 (g5.tk ep4);have es5:H5 sa=some (.lst (bs.map V.int)):=(g4.trans g5) _ _ es nsp;exists ·,_,·,.inl ⟨_,SqL.of e5,rfl⟩,_,·,rfl,(by show (0:Int)<_; lia),?_;have r2:0<=r % (vs.length:Int):=Bg _ (by lia);have r3:r % (vs.length:Int)<vs.length:=Gw _ (by lia);obtain ⟨n,en0⟩:=Gp r2;have hn:n<vs.length:=by lia
    obtain ⟨hn2,t,ev,et⟩:=X9.take1 w5 hn;have atn:atI vs (r % (vs.length:Int))=some (.ref t):=by rw [en0,<- ev]; exact U7 (Ja hn)
    have cut1:cutV vs none (some (r % (vs.length:Int)))=vs.take n:=by rw [en0,Zau (by lia) (by lia),Fk]
    have cut2:cutV vs (some (r % (vs.length:Int)+1)) none=vs.drop (n+1):=by rw [en0,Sy (by lia) (by lia)]; congr 1
    exists ·,·,wl,_,_,·,rfl,SqL.of e5,atn,_,·,.inr ⟨_,SqT.of et,rfl⟩,·,_,·,rfl,·,?_;refine ite2 (fun hlt=>?_) (fun hlt=>?_)
    ·have hlt':((ws[n].map V.int).length:Int)<lg:=of_decide_eq_true hlt;rw [Jb] at hlt';exists ·,·,·,wl,·,SqL.of e5,fun q1 hq1=>?_;rw [cut1];have s6:=Zb (o:=.lst (vs.take n)) hq1;have e61:(upd H5 q1 (.lst (vs.take n))) q1=_:=Zd;have nq1:q1≠p:=by obtain ⟨_,ep5⟩:=Xn h5; exact Ne.symm (Zp ep5 hq1)
     generalize upd H5 q1 (.lst (vs.take n))=H6 at s6 e61;exists ·,sa,rfl,⟨_,SqL.of (s6 _ _ es5)⟩,W0 (n:=bs.length) (fun j ys H'=>ys.length=j/\Same H6 H'/\X9 H' ys ((bs.map fun b=>ws[n]++[b]).take j)) ⟨rfl,.refl _,by rw [Bf]; exact .nil⟩ ?_ (Zm (by lia)) ?_ ?_ ?_ ?_
     ·rintro j ys H' ⟨e,_⟩;exact Bw e
     ·rintro j ys H' hj ⟨_,s1,_⟩;exact Zhr (s1 _ _ (s6 _ _ es5)) (by rw [Jb]; exact hj)
     ·rintro ys H' ⟨_,s1,_⟩;exact Pw (s1 _ _ (s6 _ _ es5)) (by rw [Jb]; exact Je _)
     ·rintro j ys H' hj ⟨e,s1,w1⟩ y H'' hy;obtain ⟨rfl,rfl⟩:=Zb4 (s1 _ _ (s6 _ _ es5)) (by rw [Jb]; exact hj) hy;have et':=s1 _ _ (s6 _ _ et);exists ·,·,wl,_,_,·,rfl,SqL.of (s1 _ _ (s6 _ _ e5)),atn,·,by show 1<=sizeLine; decide,fun q hq=>?_;have sq:=Zb (o:=.tup [(bs.map V.int)[j]'(by rw [Jb]; exact hj)]) hq;exists t,q,_,·,rfl,SqT.of (sq _ _ et'),SqT.of Zd,?_,?_,fun z=>absurd z (by simp),fun _ q2 hq2=>?_
      ·have:=(ok4.2 ws[n] (Jo hn2)).1;simpa using this
      ·rw [Jb]; show ws[n].length+1<=sizeLine; exact Jv (by lia:ws[n].length+1<=10) nofun
      ·exists by rw [Jc,e]; rfl,(s1.trans sq).trans (Zb hq2),?_;rw [Jf (by rw [Jb]; exact hj)];refine L2.Paired.snoc ⟨q2,rfl,?_⟩ (X9.tk w1 (sq.tk.trans (Zb hq2).tk));rw [Zd,Gz,Gz,Jg];rfl
     ·rintro ys H7 ⟨e,s7,w7⟩ q3 hq3;rw [<- Jb (f:=fun b:Int=>ws[n]++[b]),Jt] at w7;have s8:=s6.trans (s7.trans (Zb (o:=.lst ys) hq3));have e8:(upd H7 q3 (.lst ys)) q3=some (.lst ys):=Zd;have e81:=(s7.trans (Zb (o:=.lst ys) hq3)) _ _ e61;have w8:=X9.tk w7 (Zb (o:=.lst ys) hq3).tk;generalize upd H7 q3 (.lst ys)=H8 at s8 e8 e81 w8;have ly:ys.length=bs.length:=by rw [Paired.length w8,Jb]
      exists q1,q3,_,·,rfl,e81,e8,?_,fun q4 hq4=>?_
      ·rw [Jn,ly]; exact Zm (by lia)
      have s9:=s8.trans (Zb (o:=.lst (vs.take n++ys)) hq4);have e9:(upd H8 q4 (.lst (vs.take n++ys))) q4=_:=Zd;have w9:=X9.tk w8 (Zb (o:=.lst (vs.take n++ys)) hq4).tk;generalize upd H8 q4 (.lst (vs.take n++ys))=H9 at s9 e9 w9;exists ·,·,_,·,rfl,·,wl,·,SqL.of (s9 _ _ e5),fun q5 hq5=>?_;rw [cut2];have s10:=s9.trans (Zb (o:=.lst (vs.drop (n+1))) hq5);have e10:(upd H9 q5 (.lst (vs.drop (n+1)))) q5=_:=Zd;have e104:=Zb (o:=.lst (vs.drop (n+1))) hq5 _ _ e9;have w10:=X9.tk w9 (Zb (o:=.lst (vs.drop (n+1))) hq5).tk;generalize upd H9 q5 (.lst (vs.drop (n+1)))=H10 at s10 e10 e104 w10
      exists q4,q5,_,·,rfl,e104,e10,?_,fun q6 hq6=>?_
      ·rw [Jc,Jn,Gh,ly]; exact Zm (by lia)
      have s11:=s10.trans (Zb (o:=.lst (vs.take n++ys++vs.drop (n+1))) hq6);have w11:=X9.tk w10 (Zb (o:=.lst (vs.take n++ys++vs.drop (n+1))) hq6).tk;have hsp:ws=ws.take n++ws[n]::ws.drop (n+1):=by
       rw [<- G2 hn2,G9]
      have ok11:WOk (ws.take n++(bs.map fun b=>ws[n]++[b])++ws.drop (n+1)):=Zj4 nd (hsp ▸ ok4) (by lia);have ws5:=X9.tk w5 s11.tk;obtain ⟨_,ep5⟩:=Xn h5;have nq6:q6≠p:=Ne.symm (Zp (s10 _ _ ep5) hq6);exists q6,_,_,·,?_,nq6,⟨_,Zd,L2.Paired.app (L2.Paired.drp (n+1) ws5) (L2.Paired.app w11 (L2.Paired.tak n ws5))⟩,ok11,?_,?_,h5.same s11,(g4.trans g5).trans (Grow.same s11)
      ·exact (g4.trans g5).free (s10.free hq6) nq6
      ·intro z;have:=congrArg List.length z;simp only [Jc,Jb,B8] at this;lia
      ·rw [Jc,Jc,Jn,Gh,Jb,Nat.add_mul,Nat.one_mul];lia
    ·exists wl,ws,_,·,nw0,nwp,⟨vs,e5,w5⟩,ok4,ne4,?_,h5,g4.trans g5;rw [Nat.add_mul];lia
   ·rintro σ H4 ⟨wl,ws,v1,v2,rfl,nw0,nwp,⟨vs,e4,w4⟩,ok4,ne4,l4,h4,g4⟩;have lv:=Paired.length w4;have lb:ws.length<=200:=by
     have:n0.toNat*bs.length<=6*24:=Ff (by lia) hl;lia
    exists ·,wl,rfl,⟨_,SqL.of e4⟩,W0 (n:=vs.length) (fun j ys H'=>∃ us:List (List Int),X9 H' ys us/\us.Sublist (ws.take j)/\HandAt H' p a/\Grow p H4 H') ⟨[],.nil,List.nil_sublist _,h4,Grow.refl _ _⟩ ?_ (Zm (by lia)) ?_ ?_ ?_ ?_
    ·rintro j ys H' ⟨us,w1,sb,_⟩;have:=sb.length_le;rw [Jn] at this;rw [Paired.length w1];lia
    ·rintro j ys H' hj ⟨us,w1,sb,h1,g1⟩;exact Zhr (g1 _ _ e4 nwp) hj
    ·rintro ys H' ⟨us,w1,sb,h1,g1⟩;exact Pw (g1 _ _ e4 nwp) (Je _)
    ·rintro j ys H' hj ⟨us,w1,sb,h1,g1⟩ y H'' hy;obtain ⟨rfl,rfl⟩:=Zb4 (g1 _ _ e4 nwp) hj hy;exists ·,p,a,·,h1,nofun,nofun,fun r H6 r0 r1 h6 g6 u6=>⟨_,_,rfl,rfl,_,rfl,?_⟩;obtain ⟨_,ep1⟩:=Xn h1;have hj2:j<ws.length:=by lia
     have tk:(ws.take (j+1))=ws.take j++[ws[j]]:=Jf hj2;refine ite2 (fun _=>?_) (fun _=>?_)
     ·exists ·,us++[ws[j]],L2.Paired.snoc ?_ (X9.tk w1 (g6.tk ep1)),by rw [tk]; exact sb.append (List.Sublist.refl _),h6,g1.trans g6;obtain ⟨_,ep4⟩:=Xn h4;exact (L2.Paired.at w4 hj hj2).tk ((g1.trans g6).tk ep4)
     ·exists us,X9.tk w1 (g6.tk ep1),by rw [tk]; exact sb.trans (List.sublist_append_left _ _),h6,g1.trans g6
    ·rintro ys H5 ⟨us,w1,sb,h5,g5⟩ q hq;rw [lv,Jt] at sb;obtain ⟨_,ep5⟩:=Xn h5;have nq:q≠p:=Ne.symm (Zp ep5 hq);have g:=g4.trans g5;refine k q us _ (g.free hq nq) nq ⟨ys,Zd,X9.tk w1 (Zb hq).tk⟩ (ok4.sub sb) ?_ (h5.same (Zb hq)) (g.trans (Grow.same (Zb hq)));have l1:=sb.length_le;have l2:n0.toNat*bs.length<=m.toNat*bs.length:=Ff (by lia) (Je _);have l3:((m.toNat*bs.length:Nat):Int)=m*bs.length:=by rw [Int.natCast_mul]; congr 1; lia
     lia
theorem Jbr (T:Txt mg) (Zn:Cal P w K mg base "_law_draw" 1 ["_law_hand", "_law_many"] Qp) {f:Addr} (F:Fun K "_law_signs" "_law_signs" Dw f fd):FnOk P w K mg base CX0 2 f fd ["_law_hand", "_law_many"] Zf0:=by
 refine F.ok Jcd (fun vs H Q E h=>?_) (fun cdv A outer s H vs Q E hr h=>?_)
 ·obtain ⟨p,a,m,rfl,_⟩:=h;rfl
 ·obtain ⟨p,a,m,rfl,hh,hm0,hm1,k⟩:=h;have SC:=Jcd;have Zo:Room 1 _:=hr.mono nofun;refine ⟨_,(Zc (Zt (i:=2) SC.nd rfl (Or.inr rfl) (Z2 Uv (Ys Ziw (by rfl) T.b_int PyProof.Rows.boot_int (Za (Zg2 Zg7 (Zy Zn Zo rfl (Za (pv 0) (Za Zi Ze))) Zi (Yo _)) Ze)) (Z2 Wm (Z2 Uv (Zy Zn Zo rfl (Za (pv 0) (Za Zi Ze))) (Z2 Zg6 Zi Zi)) (Zy Zn Zo rfl (Za (pv 0) (Za Zi Ze))))))
 (Zc (Zt (i:=3) SC.nd rfl (Or.inr rfl) (Z2 Wm Zi (Yk Xc (Yr (Za Zi (Za (Zy Zn Zo rfl (Za (pv 0) (Za Zi Ze))) (Za (Zy Zn Zo rfl (Za (pv 0) (Za (Z2 Zg6 Zi Zi) Ze))) Ze)))) (Zy Zn Zo rfl (Za (pv 0) (Za Zi Ze))) (fun _ _=>rfl))))
 (Zc (U1 (i:=4) SC.nd rfl rfl (T:=["_law_k"]) (cs:=[2,3]) rfl (CScope.ok (by kernel_rfl)) (Xa rfl T.b_range (Za (pv 1) Ze)) (fun _ _ _ _=>(Zq (i:=0) (Xx (by kernel_rfl)) rfl (Or.inl rfl) (Or.inr rfl))) (fun _ _ _ _=>Xh) (fun _ _ _ _=>(Z2 Wm (pv 1) (Z2 Uv (pv 2) (pv 0)))) (Y6 nofun))
 (Zc (Zt (i:=5) SC.nd rfl (Or.inl rfl) (Z2 Wb (Zy Zn Zo rfl (Za (pv 0) (Za Zi Ze))) (Zw (Zaz rfl) (by rfl) T.b_max PyProof.Rows.boot_max (Za Zi (Za (pv 1) Ze)))))
 (Zc (Zt (i:=4) SC.nd rfl (Or.inl rfl) (Z2 Qw (Yh Wi (pv 4) (Yf (pv 5)) Y9) (Yh Wi (pv 4) Y9 (Yf (pv 5)))))
 (Zc (Xm (Z8 Zha (Zy Zn Zo rfl (Za (pv 0) (Za Zi Ze))) Zi (Yo _))
 (Zk (Z5 (Zg1 (pv 4) (Yf (Zg0 Np Zi)) (fun _ _=>⟨_,rfl⟩))))
 Z7)
 (Zk (Z5 (pv 4))))))))),?_⟩
  exists ·,p,a,·,hh,nofun,nofun,fun r1 H1 r10 r11 h1 g1 u1=>⟨_,_,rfl,rfl,.inr ⟨_,rfl,_,rfl,p,a,_,rfl,h1,nofun,nofun,fun r2 H2 r20 r21 h2 g2 u2=>⟨_,_,rfl,rfl,⟨nofun,nofun,nofun⟩,_,_,rfl,rfl,.inl ⟨by lia,by lia⟩,_,rfl,p,a,_,rfl,h2,nofun,nofun,fun r3 H3 r30 r31 h3 g3 u3=>⟨_,_,rfl,rfl,_,_,rfl,rfl,.inl ?_,?_⟩⟩⟩⟩
  ·split <;> exact ⟨nofun,nofun⟩
  obtain ⟨bg,hbg⟩:∃ bg:Int,bg=(if decide (0<r1)=true then (1:Int) else 0)*(r2*10 ^ Int.toNat 6+r3):=⟨_,rfl⟩;have g30:=(g1.trans g2).trans g3;exists ·,p,a,·,h3,nofun,nofun,fun r4 H4 r40 r41 h4 g4 u4=>⟨_,rfl,_,_,rfl,rfl,⟨nofun,nofun,nofun⟩,p,a,_,rfl,h4,nofun,nofun,fun r5 H5 r50 r51 h5 g5 u5=>⟨by show 3<=sizeLine; decide,fun lq hlq=>?_⟩⟩;have s6:=Zb (o:=.lst [.int 0,.int r4,.int r5]) hlq;obtain ⟨_,ep5⟩:=Xn h5;have nlq:lq≠p:=Ne.symm (Zp ep5 hlq);have elq:(upd H5 lq (.lst [.int 0,.int r4,.int r5])) lq=_:=Zd;have h6:=h5.same s6;have g60:=g30.trans (g4.trans (g5.trans (Grow.same s6)))
  generalize upd H5 lq (.lst [.int 0,.int r4,.int r5])=H6 at s6 elq h6 g60;exists ·,p,a,·,h6,nofun,nofun,fun r6 H7 r60 r61 h7 g7 u7=>?_;have elq7:H7 lq=some (.lst [.int 0,.int r4,.int r5]):=by rw [u7 lq nlq]; exact elq
  obtain ⟨v,hv,ev⟩:=Zk9 (xs:=[V.int 0,.int r4,.int r5]) r60 (by simpa using r61);obtain ⟨c,rfl,hc⟩:∃ c:Int,v=.int c/\0<=c:=by
   simp only [Jq,List.mem_nil_iff,or_false] at hv;rcases hv with z | z | z <;> exact ⟨_,z,by lia⟩
  have r51':r5<10000000:=r51;have hc2:c<10000000:=by
   simp only [Jq,List.mem_nil_iff,or_false] at hv;rcases hv with z | z | z <;> injection z with z <;> lia
  exists lq,_,_,·,rfl,SqL.of elq7,ev,_,·,rfl,?_;exists ·,m,rfl,by lia,by lia,W0 (n:=m.toNat) (fun j ys H'=>H'=H7/\ys=((List.range j).map fun k:Nat=>bg+(1+c)*(k:Int)).map V.int) ⟨rfl,rfl⟩ ?_ (Zm (by lia)) ?_ ?_ ?_ ?_
  ·rintro j ys H' ⟨rfl,rfl⟩;rw [Jb,Jb,By];exact Je _
  ·rintro j ys H' hj _;exact hj
  ·rintro ys H' _;exact Je _
  ·rintro j ys H' hj ⟨rfl,rfl⟩ x H8 ⟨rfl,rfl⟩;exists ·,·,·,_,·,rfl,.inl ⟨by lia,by lia⟩,_,·,rfl,rfl,?_;rw [List.range_succ,Jg,Jg,Int.zero_add,hbg];rfl
  ·rintro ys H' ⟨rfl,rfl⟩ l hl;generalize hss:(List.range m.toNat).map (fun k:Nat=>bg+(1+c)*(k:Int))=ss;have nd:ss.Nodup:=by rw [<- hss]; exact Zfv (by lia) _
   have ls:(ss.length:Int)=m:=by rw [<- hss,Jb,By]; lia
   have s8:=Zb (o:=.lst (ss.map V.int)) hl;have e8:(upd H' l (.lst (ss.map V.int))) l=_:=Zd;obtain ⟨_,ep7⟩:=Xn h7;have nl:l≠p:=Ne.symm (Zp ep7 hl);have h8:=h7.same s8;have g80:=(g60.trans g7).trans (Grow.same s8);generalize upd H' l (.lst (ss.map V.int))=H8 at s8 e8 h8 g80;exists ·,p,a,·,h8,nofun,nofun,fun r9 H9 r90 r91 h9 g9 u9=>⟨_,rfl,_,_,rfl,_,_,rfl,rfl,?_,?_⟩
   ·show (0:Int)<if m > 1 then m else 1
    split <;> lia
   have e9:H9 l=some (.lst (ss.map V.int)):=by rw [u9 l nl]; exact e8
   have z0:0<=r9 % (if m > 1 then m else 1):=Bg _ (by split <;> lia);have z1:r9 % (if m > 1 then m else 1)<=ss.length:=by
    rw [ls];have:=Gw r9 (show (0:Int)<if m > 1 then m else 1 by split <;> lia)
    by_cases hm:m > 1
    ·rw [Dh hm] at this ⊢; lia
    ·rw [Dg hm] at this ⊢; lia
   obtain ⟨n,en⟩:=Gp z0;have cut1:cutV (ss.map V.int) (some (r9 % (if m > 1 then m else 1))) none=(ss.drop n).map V.int:=by rw [en,Sy (by lia) (by rw [Jb]; lia),Fi]; rfl
   have cut2:cutV (ss.map V.int) none (some (r9 % (if m > 1 then m else 1)))=(ss.take n).map V.int:=by rw [en,Zau (by lia) (by rw [Jb]; lia),B3]; rfl
   exists ·,·,·,l,·,SqL.of e9,fun q1 hq1=>?_;rw [cut1];have sA:=Zb (o:=.lst ((ss.drop n).map V.int)) hq1;have eA:(upd H9 q1 (.lst ((ss.drop n).map V.int))) q1=_:=Zd;generalize upd H9 q1 (.lst ((ss.drop n).map V.int))=HA at sA eA;exists ·,·,·,l,·,SqL.of (sA _ _ e9),fun q2 hq2=>?_;rw [cut2];have sB:=sA.trans (Zb (o:=.lst ((ss.take n).map V.int)) hq2);have eB:(upd HA q2 (.lst ((ss.take n).map V.int))) q2=_:=Zd;have eB1:=Zb (o:=.lst ((ss.take n).map V.int)) hq2 _ _ eA;generalize upd HA q2 (.lst ((ss.take n).map V.int))=HB at sB eB eB1;exists q1,q2,_,·,rfl,eB1,eB,?_,fun q3 hq3=>?_
   ·rw [Jb,Jb,Gh,Jn]; exact Zm (by lia)
   rw [<- Jg];have nd2:=Qo nd n;have ls2:((ss.drop n++ss.take n).length:Int)=m:=by rw [Jc,Gh,Jn]; lia
   generalize ss.drop n++ss.take n=tt at nd2 ls2;have sC:=sB.trans (Zb (o:=.lst (tt.map V.int)) hq3);have eC:(upd HB q3 (.lst (tt.map V.int))) q3=_:=Zd;obtain ⟨_,ep9⟩:=Xn h9;have nq3:q3≠p:=Ne.symm (Zp (sB _ _ ep9) hq3);have n30:H q3=none:=(g80.trans g9).free (sB.free hq3) nq3;have hC:=h9.same sC;have gC:=(g80.trans g9).trans (Grow.same sC);generalize upd HB q3 (.lst (tt.map V.int))=HC at sC eC hC gC;exists ·,p,a,·,hC,nofun,nofun,fun rd HD rd0 rd1 hD gD uD=>⟨rfl,_,rfl,?_⟩;have eD:HD q3=some (.lst (tt.map V.int)):=by rw [uD q3 nq3]; exact eC
   refine ite2 (fun _=>?_) (fun _=>?_)
   ·exists ·,·,·,rfl,q3,·,SqL.of eD,fun q4 hq4=>?_;rw [<- List.map_reverse];have sE:=Zb (o:=.lst (tt.reverse.map V.int)) hq4;obtain ⟨_,epD⟩:=Xn hD;have nq4:q4≠p:=Ne.symm (Zp epD hq4);exact k q4 tt.reverse _ ((gC.trans gD).free hq4 nq4) nq4 Zd ((List.reverse_perm tt).nodup_iff.mpr nd2) (by rw [Fc]; exact ls2) (hD.same sE) ((gC.trans gD).trans (Grow.same sE))
   ·exists ·,k q3 tt HD n30 nq3 eD nd2 ls2 hD (gC.trans gD)
theorem Jaz (T:Txt mg) (Zn:Cal P w K mg base "_law_draw" 1 ["_law_hand", "_law_many"] Qp) {f:Addr} (F:Fun K "_law_table" "_law_table" Jce f fd):FnOk P w K mg base CX0 2 f fd ["_law_hand", "_law_words_here", "_law_signs_here"] Zfz:=by
 refine F.ok Dt (fun vs H Q E h=>?_) (fun cdv A outer s H vs Q E hr h=>?_)
 ·obtain ⟨p,a,wa,sa,ws,ss,rfl,_⟩:=h;rfl
 ·obtain ⟨p,a,wa,sa,ws,ss,rfl,hh,⟨vs,ew,pw⟩,nwp,ok,lw,es,nsp,nd,lws,l100,k⟩:=h;have SC:=Dt;have Zo:Room 1 _:=hr.mono nofun;have lv:=Paired.length pw;refine ⟨_,(Zc (Zt (i:=3) SC.nd rfl (Or.inl rfl) (Z2 Wb (Zy Zn Zo rfl (Za (pv 0) (Za Zi Ze))) (Zw (Zaz rfl) (by rfl) T.b_max PyProof.Rows.boot_max (Za Zi (Za (Zw Y8 (by rfl) T.b_len Dm (Za (pv 2) Ze)) Ze)))))
 (Zc (Zt (i:=4) SC.nd rfl (Or.inr rfl) (Z2 Qw (Yh Wi (pv 2) (Yf (pv 3)) Y9) (Yh Wi (pv 2) Y9 (Yf (pv 3)))))
 (Zc (U1 (i:=5) SC.nd rfl rfl (T:=["_law_k"]) (cs:=[4,1]) rfl (CScope.ok (by kernel_rfl)) (Xa rfl T.b_range (Za (Zw Y8 (by rfl) T.b_len Dm (Za (pv 1) Ze)) Ze)) (fun _ _ _ _=>(Zq (i:=0) (Xx (by kernel_rfl)) rfl (Or.inl rfl) (Or.inr rfl))) (fun _ _ _ _=>Xh) (fun _ _ _ _=>(X2 (Za (Yk (Zi1 (K:=K) rfl) (pv 1) (pv 0) (fun _ _=>rfl)) (Za (Yk (Zi1 (K:=K) rfl) (pv 2) (pv 0) (fun _ _=>rfl)) Ze)))) (Y6 nofun))
 (Zc (Xm (Z8 Zha (Zy Zn Zo rfl (Za (pv 0) (Za Zi Ze))) Zi (Yo _))
 (Zk (Z5 (Zg1 (pv 5) (Yf (Zg0 Np Zi)) (fun _ _=>⟨_,rfl⟩))))
 Z7)
 (Zk (Z5 (pv 5))))))),?_⟩
  exists ·,p,a,·,hh,nofun,nofun,fun r9 H9 r90 r91 h9 g9 u9=>⟨_,rfl,_,_,rfl,.inl ⟨_,SqL.of (show H9 sa=some (.lst (ss.map V.int)) by rw [u9 sa nsp]; exact es),rfl⟩,_,_,rfl,_,_,rfl,rfl,?_,?_⟩
  ·show (0:Int)<if (((ss.map V.int).length:Nat):Int) > 1 then (((ss.map V.int).length:Nat):Int) else 1
   split <;> lia
  rw [Jb];have e9:H9 sa=some (.lst (ss.map V.int)):=by rw [u9 sa nsp]; exact es
  have w9:H9 wa=some (.lst vs):=by rw [u9 wa nwp]; exact ew
  obtain ⟨_,ep⟩:=Xn hh;have pw9:=X9.tk pw (g9.tk ep);have z0:0<=r9 % (if ((ss.length:Nat):Int) > 1 then ((ss.length:Nat):Int) else 1):=Bg _ (by split <;> lia);have z1:r9 % (if ((ss.length:Nat):Int) > 1 then ((ss.length:Nat):Int) else 1)<=ss.length:=by
   have:=Gw r9 (show (0:Int)<if ((ss.length:Nat):Int) > 1 then ((ss.length:Nat):Int) else 1 by split <;> lia)
   by_cases hm:((ss.length:Nat):Int) > 1
   ·rw [Dh hm] at this ⊢; lia
   ·rw [Dg hm] at this ⊢; lia
  obtain ⟨n,en⟩:=Gp z0;have cut1:cutV (ss.map V.int) (some (r9 % (if ((ss.length:Nat):Int) > 1 then ((ss.length:Nat):Int) else 1))) none=(ss.drop n).map V.int:=by rw [en,Sy (by lia) (by rw [Jb]; lia),Fi]; rfl
  have cut2:cutV (ss.map V.int) none (some (r9 % (if ((ss.length:Nat):Int) > 1 then ((ss.length:Nat):Int) else 1)))=(ss.take n).map V.int:=by rw [en,Zau (by lia) (by rw [Jb]; lia),B3]; rfl
  exists ·,·,·,sa,·,SqL.of e9,fun q1 hq1=>?_;rw [cut1];have sA:=Zb (o:=.lst ((ss.drop n).map V.int)) hq1;have eA:(upd H9 q1 (.lst ((ss.drop n).map V.int))) q1=_:=Zd;generalize upd H9 q1 (.lst ((ss.drop n).map V.int))=HA at sA eA;exists ·,·,·,sa,·,SqL.of (sA _ _ e9),fun q2 hq2=>?_;rw [cut2];have sB:=sA.trans (Zb (o:=.lst ((ss.take n).map V.int)) hq2);have eB:(upd HA q2 (.lst ((ss.take n).map V.int))) q2=_:=Zd;have eB1:=Zb (o:=.lst ((ss.take n).map V.int)) hq2 _ _ eA;generalize upd HA q2 (.lst ((ss.take n).map V.int))=HB at sB eB eB1;exists q1,q2,_,·,rfl,eB1,eB,?_,fun q3 hq3=>?_
  ·rw [Jb,Jb,Gh,Jn]; exact Zm (by lia)
  rw [<- Jg];have nd2:=Qo nd n;have ls2:(ss.drop n++ss.take n).length=ss.length:=by rw [Jc,Gh,Jn]; lia
  generalize ss.drop n++ss.take n=tt at nd2 ls2;have sC:=sB.trans (Zb (o:=.lst (tt.map V.int)) hq3);have eC:(upd HB q3 (.lst (tt.map V.int))) q3=_:=Zd;have hC:=h9.same sC;have gC:=g9.trans (Grow.same sC);have wC:=sC _ _ w9;have pwC:=X9.tk pw9 sC.tk;generalize upd HB q3 (.lst (tt.map V.int))=HC at sC eC hC gC wC pwC;exists ·,_,·,.inl ⟨_,SqL.of wC,rfl⟩,(vs.length:Int),rfl,by lia,by lia,W0 (n:=((vs.length:Nat):Int).toNat) (fun j ys H'=>ys.length=j/\Same HC H'/\Prs H' ys ((tt.zip ws).take j)) ⟨rfl,.refl _,by rw [Bf]; exact .nil⟩ ?_ (Zm (by lia)) ?_ ?_ ?_ ?_
  ·rintro j ys H' ⟨e,_⟩;exact Bw e
  ·rintro j ys H' hj _;exact hj
  ·rintro ys H' _;exact Je _
  ·rintro j ys H' hj ⟨e,s1,w1⟩ y H'' ⟨rfl,rfl⟩;have hj1:j<vs.length:=by lia
   obtain ⟨hj2,t,ev,et⟩:=X9.take1 pwC hj1;have hj3:j<tt.length:=by lia
   have hz:j<(tt.zip ws).length:=by rw [G6]; lia
   exists ·,·,q3,_,_,·,rfl,SqL.of (s1 _ _ eC),Nd (v:=V.int tt[j]) (by rw [J9,Ja hj3]; rfl),·,·,wa,_,_,·,rfl,SqL.of (s1 _ _ wC),Nd (v:=.ref t) (by rw [Ja hj1,ev]),by show 2<=sizeLine; decide,fun q hq=>?_;exists by rw [Jc,e]; rfl,s1.trans (Zb hq),?_;rw [Jf hz];refine L2.Paired.snoc ⟨q,t,rfl,?_,?_⟩ (Prs.tk w1 (Zb hq).tk)
   ·rw [Zd,G0]
   ·rw [G0];exact Zb hq _ _ (s1 _ _ et)
  ·rintro ys H1 ⟨e,s1,w1⟩ q hq;have ez:(tt.zip ws).take ((vs.length:Nat):Int).toNat=tt.zip ws:=Gj (by rw [G6]; lia);rw [ez] at w1;have sD:=s1.trans (Zb (o:=.lst ys) hq);have eD:(upd H1 q (.lst ys)) q=_:=Zd;have wD:=Prs.tk w1 (Zb (o:=.lst ys) hq).tk;obtain ⟨_,epC⟩:=Xn hC;have nq:q≠p:=Ne.symm (Zp (s1 _ _ epC) hq);have nq0:H q=none:=gC.free (s1.free hq) nq;have hD:=hC.same sD;have gD:=gC.trans (Grow.same sD);generalize upd H1 q (.lst ys)=HD at sD eD wD hD gD;have fr:Free (tt.zip ws):=ok.free nd2;have sn:(tt.zip ws).map (·.2)=ws:=by
    have:=List.map_snd_zip (l₁:=tt) (l₂:=ws) (by lia);exact this
   have fi:Fits (tt.zip ws):=⟨by rw [G6]; lia,fun p hp=>ok.2 _ (by rw [<- sn]; exact Ji.mpr ⟨p,hp,rfl⟩)⟩;exists ·,p,a,·,hD,nofun,nofun,fun rd HE rd0 rd1 hE gE uE=>⟨rfl,_,rfl,?_⟩;have eE:HE q=some (.lst ys):=by rw [uE q nq]; exact eD
   obtain ⟨_,epD⟩:=Xn hD;have wE:=Prs.tk wD (gE.tk epD);refine ite2 (fun _=>?_) (fun _=>?_)
   ·exists ·,·,·,rfl,q,·,SqL.of eE,fun q4 hq4=>?_;have sF:=Zb (o:=.lst ys.reverse) hq4;obtain ⟨_,epE⟩:=Xn hE;have nq4:q4≠p:=Ne.symm (Zp epE hq4);refine k q4 (tt.zip ws).reverse _ ((gD.trans gE).free hq4 nq4) nq4 ⟨_,Zd,Prs.tk (L2.Paired.rev wE) sF.tk⟩ fr.rev ⟨by rw [Fc]; exact fi.1,fun p hp=>fi.2 p (List.mem_reverse.mp hp)⟩ ?_ (hE.same sF) ((gD.trans gE).trans (Grow.same sF));rw [List.map_reverse,sn];exact List.reverse_perm _
   ·exists ·,k q (tt.zip ws) HE nq0 nq ⟨_,eE,wE⟩ fr fi (by rw [sn]) hE (gD.trans gE)
theorem Jcu (T:Txt mg) {f:Addr} (F:Fun K "odds_between" "odds_between" Y4 f fd):FnOk P w K mg base CX0 1 f fd ["one", "other"] Zlk:=by
 refine F.ok Jaq (fun vs H Q E h=>?_) (fun cdv A outer s H vs Q E hr h=>?_)
 ·obtain ⟨v1,v2,p,q,rfl,_⟩:=h;rfl
 ·obtain ⟨v1,v2,p,q,rfl,⟨t1,w1,rfl,a1,b1⟩,⟨t2,w2,rfl,a2,b2⟩,l1,l2,k⟩:=h;have SC:=Jaq;have hu:=hr.units;refine ⟨_,(Zc (Xm (Z8 Zha (Yk Tj (pv 0) Zi (fun _ _=>rfl)) (Yk Tj (pv 1) Zi (fun _ _=>rfl)) (Yo _))
 (Zk (Z5 Vx))
 Z7)
 (Zc (Zt (i:=2) SC.nd rfl (Or.inl rfl) (Zw (Zay rfl) (by rfl) T.b_min PyProof.Rows.boot_min (Za (Zw Y8 (by rfl) T.b_len Dm (Za (Yk Tj (pv 0) Zi (fun _ _=>rfl)) Ze)) (Za (Zw Y8 (by rfl) T.b_len Dm (Za (Yk Tj (pv 1) Zi (fun _ _=>rfl)) Ze)) Ze))))
 (Zc (Xm (Z8 (Zg9 hu) (Yh Zbh (Yk Tj (pv 0) Zi (fun _ _=>rfl)) Y9 (Yf (pv 2))) (Yh Zbh (Yk Tj (pv 1) Zi (fun _ _=>rfl)) Y9 (Yf (pv 2))) (Yo _))
 (Zk (Z5 Vx))
 Z7)
 (Zk (Z5 Qv))))),?_⟩
  exists ·,t1,_,_,·,rfl,SqT.of a1,rfl,·,t2,_,_,·,rfl,SqT.of a2,rfl,rfl,·,?_;refine ite2 (fun h=>?_) (fun h=>?_)
  ·have e:p.1=q.1:=by simpa using h
   have o:Ri p q=.str (Str.ofString "twice"):=Dh e;have kk:=k H (.refl _);rw [o] at kk;exact kk
  ·have e:¬ p.1=q.1:=by simpa using h
   refine ⟨_,rfl,t1,_,_,_,rfl,rfl,SqT.of a1,rfl,_,_,rfl,.inr ⟨_,SqT.of b1,rfl⟩,_,rfl,t2,_,_,_,rfl,rfl,SqT.of a2,rfl,_,_,rfl,.inr ⟨_,SqT.of b2,rfl⟩,_,_,rfl,?_⟩;rw [Jb,Jb,Zn9];refine ⟨_,rfl,t1,_,_,_,rfl,rfl,SqT.of a1,rfl,_,rfl,_,rfl,Zgj b1 (Int.natCast_nonneg _) (by lia) fun u1 H1 s1 e1=>⟨_,rfl,t2,_,_,_,rfl,rfl,SqT.of (s1 _ _ a2),rfl,_,rfl,_,rfl,Zgj (s1 _ _ b2) (Int.natCast_nonneg _) (by lia) fun u2 H2 s2 e2 =>
    ⟨_,_,DV.tup (SqT.of (s2 _ _ e1)) (Sx _),DV.tup (SqT.of e2) (Sx _),(Nx _).shaped nofun,(Nx _).shaped nofun,_,rfl,?_⟩⟩⟩
   rw [Zos,Fk];have kk:=k H2 (s1.trans s2);unfold Ri at kk;rw [Dg e] at kk;refine ite2 (fun h=>?_) (fun h=>?_)
   ·rw [Dh (of_decide_eq_true h)] at kk;exact kk
   ·rw [Dg (fun z=>h (Di z))] at kk;exact kk
theorem Do (T:Txt mg) (W3:Cal P w K mg base "odds_between" 1 ["one", "other"] Zlk) {f:Addr} (F:Fun K "fault" "fault" Tv f fd):FnOk P w K mg base CX0 2 f fd ["table"] Td:=by
 refine F.ok Jch (fun vs H Q E h=>?_) (fun cdv A outer s H vs Q E hr h=>?_)
 ·obtain ⟨a,L,rfl,_⟩:=h;rfl
 ·obtain ⟨a,L,rfl,⟨vs,ea,pa⟩,fr,⟨hl,hw⟩,k⟩:=h;have SC:=Jch;have Ru:Room 1 _:=hr.mono nofun;have lv:=Paired.length pa;refine ⟨_,(Zc (Yx PassesOwn.never rfl (Xa rfl T.b_range (Za (Zw Y8 (by rfl) T.b_len Dm (Za (pv 0) Ze)) Ze)) (Zq (i:=1) SC.nd rfl (Or.inl rfl))
 (Zk (Yx PassesOwn.never rfl (Xa rfl T.b_range (Za (pv 1) Ze)) (Zq (i:=2) SC.nd rfl (Or.inl rfl))
 (Zc (Zt (i:=3) SC.nd rfl (Or.inl rfl) (Zy W3 Ru rfl (Za (Yk Xc (pv 0) (pv 2) (fun _ _=>rfl)) (Za (Yk Xc (pv 0) (pv 1) (fun _ _=>rfl)) Ze))))
 (Zk (Xm (Vp (Rh (pv 3)))
 (Zk (Z5 (X2 (Za (pv 3) (Za (pv 2) (Za (pv 1) Ze))))))
 Z7))))))
 (Zk (Z5 Qv))),?_⟩
  exists ·,_,·,.inl ⟨_,SqL.of ea,rfl⟩,(vs.length:Int),rfl,by lia,by lia,Tk (n:=vs.length) (fun j σ H'=>∃ v1 v2 v3,σ=[some (.ref a),v1,v2,v3]/\Same H H') ⟨_,_,_,rfl,.refl _⟩ ?_ ?_
  ·rintro j σ H1 hj ⟨v1,v2,v3,rfl,s1⟩;exists ·,(0+(j:Int)),rfl,by lia,by lia,Tk (n:=(0+(j:Int)).toNat) (fun i σ H'=>∃ v2 v3,σ=[some (.ref a),some (.int (0+(j:Int))),v2,v3]/\Same H H') ⟨_,_,rfl,s1⟩ ?_ ?_
   ·rintro i σ H2 hi ⟨v2,v3,rfl,s2⟩;have hij:i<j:=by lia
    have h1:=Paired.at pa (i:=i) (by lia) (by lia);have h2:=Paired.at pa (i:=j) hj (by lia);exists ·,·,a,_,_,·,rfl,SqL.of (s2 _ _ ea),(Nd (Ja (by lia:i<vs.length))),·,·,a,_,_,·,rfl,SqL.of (s2 _ _ ea),(Nd (Ja hj)),_,_,_,·,h1.tk s2.tk,h2.tk s2.tk,?_,?_,fun H3 s3=>?_
    ·exact Jv (hw _ (Jo _)).2 nofun
    ·exact Jv (hw _ (Jo _)).2 nofun
    ·rw [Zep (fr.get (by lia) (by lia) hij)];exists ·,·,Zrq rfl ?_;exists _,·,s2.trans s3
   ·rintro σ H2 ⟨v2,v3,rfl,s2⟩;exists _,_,·,s2
  ·rintro σ H1 ⟨v1,v2,v3,rfl,s1⟩;exact k H1 s1
def Jag (T:Txt mg) (Zcs:Cal P w K mg base "fault" 2 ["table"] Td) {f:Addr} (F:Fun K "refuse_fault" "refuse_fault" Y3 f fd):FnOk P w K mg base CX0 3 f fd ["table"] Td:=by
 refine F.ok Jaf (fun vs H Q E h=>?_) (fun cdv A outer s H vs Q E hr h=>?_)
 ·obtain ⟨a,L,rfl,_⟩:=h;rfl
 ·obtain ⟨a,L,rfl,ta,fr,fi,k⟩:=h;have SC:=Jaf;have Zkp:Room 2 _:=hr.mono nofun;refine ⟨_,(Zc (Zt (i:=1) SC.nd rfl (Or.inl rfl) (Zy Zcs Zkp rfl (Za (pv 0) Ze)))
 (Zc (Xm (Vp (Zg3 (pv 1)))
 (Zk Znn)
 Z7)
 (Zc (Xm (Z8 Zha (Yk Tj (pv 1) Zi (fun _ _=>rfl)) Vx (Yo _))
 (Zk Su)
 Z7)
 (Zk Su)))),?_⟩
  exists ·,a,L,rfl,ta,fr,fi,fun H1 s1=>?_;exists ·,·,iteT (k H1 s1)
theorem Jbq (T:Txt mg) {f:Addr} (F:Fun K "beginnings" "beginnings" Xp f fd):FnOk P w K mg base CX0 1 f fd ["words"] Zf4:=by
 refine F.ok D9 (fun vs H Q E h=>?_) (fun cdv A outer s H vs Q E hr h=>?_)
 ·obtain ⟨a,vws,ws,rfl,_⟩:=h;rfl
 ·obtain ⟨a,vws,ws,rfl,ea,pa,hl,hw,k⟩:=h;have SC:=D9;have hu1:=Wz hr;have lv:=Paired.length pa;refine ⟨_,(Zc (Zt (i:=1) SC.nd rfl (Or.inl rfl) Zdd)
 (Zc (Yx PassesOwn.never rfl (Yc (pv 0)) (Zq (i:=2) SC.nd rfl (Or.inl rfl))
 (Zk (Yx PassesOwn.never rfl (Xa rfl T.b_range (Za (Zw Y8 (by rfl) T.b_len Dm (Za (pv 2) Ze)) Ze)) (Zq (i:=3) SC.nd rfl (Or.inl rfl))
 (Zk (Tx hu1 (pv 1) (Yh Zqe (pv 2) Y9 (Yf (pv 3))) Zbu rfl)))))
 (Zk (Z5 (pv 1))))),?_⟩
  refine fun d hd=>?_;have nad:a≠d:=Zp ea hd;have ea1:(upd H d (.dT [])) a=some (.lst vws):=by rw [Zl nad]; exact ea
  refine ⟨_,rfl,a,rfl,⟨_,SqL.of ea1⟩,Zkt (xs:=vws) (fun i σ H'=>∃ v2 v3 kvs,σ=[some (.ref a),some (.ref d),v2,v3]/\(∀ b o,H b=some o->H' b=some o)/\H' d=some (.dT kvs)/\kvs.length<=8*i/\Se kvs (ws.take i) [] 0)
   ⟨_,_,[],rfl,Zb hd,Zd,Je _,by rw [Bf]; exact Se.nil _⟩ ?_ ?_ ?_⟩
  ·rintro i σ H1 hi ⟨v2,v3,kvs,rfl,s1,ed,hk,hb⟩;exact SqL.of (s1 _ _ ea)
  ·rintro i x σ H1 hx ⟨v2,v3,kvs,rfl,s1,ed,hk,hb⟩;have hi:i<vws.length:=(Jh.mp hx).1;have hi2:i<ws.length:=by lia
   obtain ⟨tw,ex,ew⟩:=Paired.at pa hi hi2;have ex2:x=V.ref tw:=by rw [<- ex]; exact (Jh.mp hx).2.symm
   subst ex2;have hwl:ws[i].length<=4:=hw _ (Jo hi2);have en:(((ws[i].map V.int).length:Nat):Int).toNat=ws[i].length:=by rw [Jb]; exact Fk _
   refine ⟨_,rfl,_,_,rfl,.inr ⟨_,SqT.of (s1 _ _ ew),rfl⟩,(((ws[i].map V.int).length:Nat):Int),rfl,by rw [Jb]; lia,by rw [Jb]; lia,
    Tk (n:=(((ws[i].map V.int).length:Nat):Int).toNat) (fun n σ H'=>∃ v3 kvs,σ=[some (.ref a),some (.ref d),some (.ref tw),v3]/\(∀ b o,H b=some o->H' b=some o)/\H' d=some (.dT kvs)/\kvs.length<=8*i+n/\Se kvs (ws.take i) ws[i] n) ⟨_,kvs,rfl,s1,ed,hk,?_⟩ ?_ ?_⟩
   ·intro u;rw [hb u];refine decide_eq_decide.mpr ⟨fun z=>?_,fun z=>?_⟩
    ·rcases z with z | ⟨_,z⟩
     ·exact .inl z
     ·exact absurd z (Bh _)
    ·rcases z with z | ⟨_,z⟩
     ·exact .inl z
     ·exact absurd z (Bh _)
   ·rintro n σ H2 hn ⟨v3,kvs2,rfl,s2,ed2,hk2,hb2⟩;rw [en] at hn;have hcut:cutV (ws[i].map V.int) none (some (0+(n:Int)))=(wk (ws[i].take n)).map kV:=by
     rw [Zcf _ (by lia) (by lia),Zmp]
     congr 2
     lia
    exists ·,·,·,·,tw,·,SqT.of (s2 _ _ ew),?_,fun p hp=>?_
    ·rintro ⟨_,z⟩;rw [show (some (0+(n:Int)))=some ((n:Nat):Int) by congr 1; lia,HT.sIx_nat,Jb] at z;lia
    ·rw [hcut];have npd:d≠p:=Zp ed2 hp;have hz:kvs2.length<sizeLine:=Be (Jv hk2 (by lia)) (show 1000<sizeLine by decide);exists d,·,DPut.t (k:=wk (ws[i].take n)) (by rw [Zl npd]; exact ed2) Zd hz,?_;exists _,·,fun b o e=>?_,Zd,?_,hb2.put (B9 hn)
     ·have nb:b≠d:=Zp e hd;rw [Zl nb];exact Zb hp b o (s2 b o e)
     ·have:=Xb kvs2 (wk (ws[i].take n)) (V.bl true);lia
   ·rintro σ H2 ⟨v3,kvs2,rfl,s2,ed2,hk2,hb2⟩;rw [en] at hk2 hb2;exists _,_,kvs2,rfl,s2,ed2,by lia,?_;rw [Jf hi2];exact hb2.next _
  ·rintro σ H1 ⟨v2,v3,kvs,rfl,s1,ed,hk,hb⟩;exists ·,k d kvs H1 s1 hd ed ?_;rw [lv,Jt] at hb;exact hb.done
abbrev lamQ:Str:=Str.ofString "Code.__init__"++".<locals>."++"<lambda>"
abbrev lamP:Pos:=⟨127,45,127,65⟩
structure CodeT (K:W.Frag) (C:Addr):Prop where
 cl:Cls K C
 n_pairs:Xk K C "pairs"
 n_words_by_sign:Xk K C "words_by_sign"
 n_signs_by_word:Xk K C "signs_by_word"
 n_begun:Xk K C "begun"
 n_word_sizes:Xk K C "word_sizes"
structure St5 (C Pt:Addr) (H Hc:Hp) (x dx tp:Addr) (fs:List (Str×V)) (M:List PK3):Prop where
 g:∀ b o,b≠x->b≠Pt->H b=some o->Hc b=some o
 tb:W9 Pt lamP lamQ Hc
 ex:Hc x=some (.ins C dx fs)
 etp:Hc tp=some (.tup (M.map (·.v)))
 at_:∀ e∈M,e.At Hc
def St5.same {Hc Hn:Hp} {x:Addr} {fs:List (Str×V)} {M:List PK3} (h:St5 C Pt H Hc x dx tp fs M) (s:Same Hc Hn):St5 C Pt H Hn x dx tp fs M :=
 ⟨fun b o n1 n2 e=>s _ _ (h.g b o n1 n2 e),h.tb.same s,s _ _ h.ex,s _ _ h.etp,fun e he=>(h.at_ e he).tk s.tk⟩
def St5.fld {Hc:Hp} {x:Addr} {fs fs':List (Str×V)} {M:List PK3} (h:St5 C Pt H Hc x dx tp fs M):St5 C Pt H (upd Hc x (.ins C dx fs')) x dx tp fs' M:=by
 have gr:Grow x Hc (upd Hc x (.ins C dx fs')):=fun b o e n=>by rw [Zl n]; exact e
 exists fun b o n1 n2 e=>gr _ _ (h.g b o n1 n2 e) n1,h.tb.grow h.ex gr,Zd,gr _ _ h.etp (X7 h.etp h.ex fun z=>by cases z),fun e he=>(h.at_ e he).tk (gr.tkI h.ex)
theorem St5.new {Hc:Hp} {x:Addr} {fs:List (Str×V)} {M:List PK3} (h:St5 C Pt H Hc x dx tp fs M) {d:Addr} (hd:Hc d=none):H d=none:=by
 cases e:H d with
 | none=>rfl
 | some o =>
  obtain ⟨ps,eP,_⟩:=h.tb;rw [h.g d o (fun z=>by rw [z,h.ex] at hd; cases hd) (fun z=>by rw [z,eP] at hd; cases hd) e] at hd;cases hd
theorem T3 {α γ:Type} {F:α->β->Prop} {f:γ->α} {g:γ->β}:∀ {M:List γ},(∀ e∈M,F (f e) (g e))->Paired F (M.map f) (M.map g)
 | [],_=>.nil
 | e::r,h=>.cons (h e Jm) (T3 fun x hx=>h x (Jk _ hx))
theorem Tz {α γ δ:Type} {F:α->γ->Prop} {G:β->δ->Prop} {f:α->β} {g:γ->δ} (h:∀ a c,F a c->G (f a) (g c)):∀ {l:List α} {m:List γ},Paired F l m->Paired G (l.map f) (m.map g):=by
 intro _ _ hz9;cases hz9 with
 | nil=>
  exact .nil
 | cons a r=>
  exact .cons (h _ _ a) (Tz h r)
theorem Jbo (T:Txt mg) {c:Addr} (CT:CodeT K C) (hCd:W.CodeHd base c Pt) (hBm:Bm mg base) (W2:Cal P w K mg base "refuse_fault" 3 ["table"] Td) (V7:Cal P w K mg base "beginnings" 1 ["words"] Zf4)
  {f:Addr} {oc:Value} {od an:Option Addr} {osl:Array (Option Value)} {kW doc pm ct:Value}
  (lk:K.lookup f=some ⟨oc,od,.func (W.fnOf "__init__" "Code.__init__" (Zv Z0) (Zu Z0) (Zh Z0) .none kW doc pm an (.ref c) ct),osl⟩) (hcd:W.codeIn K (.ref c) "Code.__init__"=true) :
  FnOk P w K mg base CX0 4 f (W.fnOf "__init__" "Code.__init__" (Zv Z0) (Zu Z0) (Zh Z0) .none kW doc pm an (.ref c) ct) ["self", "table"] (L3.Pb C Pt lamP lamQ):=by
 refine Fun.okC lk hcd Jbl (fun vs H Q E h=>?_) (fun A outer s H vs Q E hr h=>?_)
 ·obtain ⟨x,a,dx,L,rfl,_⟩:=h;rfl
 ·obtain ⟨x,a,dx,L,rfl,ex,⟨vs,ea,pa⟩,fr,⟨hl,hw⟩,tb,k⟩:=h;have SC:=Jbl;have Rt:Room 3 _:=hr.mono nofun;have Pz:Room 1 _:=hr.mono nofun;have Zhv:Room 3 _:=hr.mono nofun;have Zb8:Room 3 _:=hr.mono nofun;have hcode:(cxOf CX0 P w K mg base ["self", "table"] "Code.__init__" (Zh Z0) f (.ref c) A outer s H E).nox.env.code=.ref c:=rfl;refine ⟨_,(Zc (Xw (Zy W2 Rt rfl (Za (pv 1) Ze)))
 (Zc (Rg (pv 0) (Ys Wf (by rfl) T.b_tuple PyProof.Rows.boot_tuple (Za (Zj5 Zhv rfl T.b_sorted (Za (pv 1) Ze) hcode hCd hBm rfl rfl (by rfl') (fun _ _ _ _=>rfl) (fun _ _ _ _ _ _=>(Yk (Zsn (K:=K) rfl) (pv 0) Zi (fun _ _=>rfl)))) Ze)) rfl)
 (Zc (Rg (pv 0) (Ys (V2 Zb8 rfl) (by rfl) T.b_dict PyProof.Rows.boot_dict (Za (W5 (pv 0) rfl) Ze)) rfl)
 (Zc (Rg (pv 0) (Ys (V2 Zb8 rfl) (by rfl) T.b_dict PyProof.Rows.boot_dict (Za (Xi (T:=["sign", "word"]) (cs:=[]) rfl (CScope.ok (by kernel_rfl)) (N4 (W5 (pv 0) rfl)) (fun _ _ _ _=>(Vw (n:=2) rfl (Z9 (Zq (i:=0) (Xx (by kernel_rfl)) rfl (Or.inl rfl) (Or.inr rfl)) (Z9 (Zq (i:=1) (Xx (by kernel_rfl)) rfl (Or.inl rfl) (Or.inr rfl)) Wl)) (by rfl))) (fun _ _ _ _=>Xh) (fun _ _ _ _=>(X2 (Za (pv 1) (Za (pv 0) Ze)))) (Zal (Xz nofun (Xz nofun Rv)))) Ze)) rfl)
 (Zc (Rg (pv 0) (Zy V7 Pz rfl (Za (Xi (T:=["sign", "word"]) (cs:=[]) rfl (CScope.ok (by kernel_rfl)) (N4 (W5 (pv 0) rfl)) (fun _ _ _ _=>(Vw (n:=2) rfl (Z9 (Zq (i:=0) (Xx (by kernel_rfl)) rfl (Or.inl rfl) (Or.inr rfl)) (Z9 (Zq (i:=1) (Xx (by kernel_rfl)) rfl (Or.inl rfl) (Or.inr rfl)) Wl)) (by rfl))) (fun _ _ _ _=>Xh) (fun _ _ _ _=>(pv 1)) (Zal (Xz nofun (Xz nofun Rv)))) Ze)) rfl)
 (Zk (Rg (pv 0) (Ys Wf (by rfl) T.b_tuple PyProof.Rows.boot_tuple (Za (Zw (Ze7 rfl) (by rfl) T.b_sorted PyProof.Rows.boot_sorted (Za (Ys (V2 Zb8 rfl) (by rfl) T.b_dict PyProof.Rows.boot_dict (Za (Xi (T:=["sign", "word"]) (cs:=[]) rfl (CScope.ok (by kernel_rfl)) (N4 (W5 (pv 0) rfl)) (fun _ _ _ _=>(Vw (n:=2) rfl (Z9 (Zq (i:=0) (Xx (by kernel_rfl)) rfl (Or.inl rfl) (Or.inr rfl)) (Z9 (Zq (i:=1) (Xx (by kernel_rfl)) rfl (Or.inl rfl) (Or.inr rfl)) Wl)) (by rfl))) (fun _ _ _ _=>Xh) (fun _ _ _ _=>(X2 (Za (Zw (W8 (K:=K) rfl) (by rfl) T.b_len Dm (Za (pv 1) Ze)) (Za Zbu Ze)))) (Zal (Xz nofun (Xz nofun Rv)))) Ze)) Ze)) Ze)) rfl))))))),?_⟩
  exists ·,a,L,rfl,⟨vs,ea,pa⟩,fr,⟨hl,hw⟩,fun H1 s1=>?_;obtain ⟨M,m1,m2,m3⟩:=Zlx (pa.tk s1.tk);obtain ⟨ps,hP,_,_⟩:=id tb;have hP1:=s1 _ _ hP;have lM:M.length=L.length:=by rw [<- m2,Jb]
  exists ·,a,M.map PK3.k,rfl,?_,?_,?_,?_,tb.same s1,?_,fun H2 D L' sT T2 hD pm pw=>?_
  ·have e1:(M.map PK3.k).map (·.1)=vs:=by rw [Gm,<- m1]; rfl
   rw [e1];exact SqL.of (s1 _ _ ea)
  ·rw [Jb]; lia
  ·intro q hq;obtain ⟨e,he,rfl⟩:=Ji.mp hq;obtain ⟨t,_,_,cw⟩:=m3 e he;exists SqT.of cw,(hw e.p (by rw [<- m2]; exact Ji.mpr ⟨e,he,rfl⟩)).1
  ·have e1:(M.map PK3.k).map (·.2.2)=L.map (·.2):=by rw [Gm,<- m2,Gm]; rfl
   rw [e1];exact Gf.mpr (fr.imp fun {a b} z e=>z.2.1 (by rw [e]; exact Jd _))
  ·intro H2 q sT hq;obtain ⟨e,he,rfl⟩:=Ji.mp hq;obtain ⟨t,ev,b,_⟩:=m3 e he;exists e.v,rfl,t,_,1,_,ev,rfl,SqT.of (sT _ _ (X7 b hP1 fun z=>by cases z) b),rfl,rfl,rfl
  ·obtain ⟨M',pM,rfl⟩:=Zgz pm rfl;have xP:x≠Pt:=X7 ex hP fun z=>by cases z
   have ex2:H2 x=some (.ins C dx []):=sT _ _ xP (s1 _ _ ex);have at2:∀ e∈M',e.At H2:=fun e he=>(m3 e (pM.mem_iff.mp he)).tk (sT.tk hP1);have vv:(M'.map PK3.k).map (·.1)=M'.map (·.v):=by rw [Gm]; rfl
   have hS:(M'.map (·.p)).Perm L:=by have:=pM.map (·.p); rw [m2] at this; exact this
   have lM':M'.length<64:=by have:=hS.length_eq; rw [Jb] at this; lia
   have hpL:∀ e∈M',e.p∈L:=fun e he=>hS.mem_iff.mp (Ji.mpr ⟨e,he,rfl⟩);have hri:Nf (M'.map (·.p)):=Gf.mpr ((Gf.mp pw).imp fun z=>z);refine ⟨_,_,rfl,.inl ⟨SqL.of Zd,fun tp htp=>?_⟩⟩;rw [vv];rw [vv] at htp;have sA:Same H2 (upd (upd H2 D (.lst (M'.map (·.v)))) tp (.tup (M'.map (·.v)))):=(Zb hD).trans (Zb htp);have S3:St5 C Pt H (upd (upd H2 D (.lst (M'.map (·.v)))) tp (.tup (M'.map (·.v)))) x dx tp [] M' :=
    ⟨fun b o n1 n2 e=>sA _ _ (sT _ _ n2 (s1 _ _ e)),T2.same sA,sA _ _ ex2,Zd,fun e he=>(at2 e he).tk sA.tk⟩
   generalize upd (upd H2 D (.lst (M'.map (·.v)))) tp (.tup (M'.map (·.v)))=H3 at S3;exists ·,x,C,dx,[],rfl,S3.ex,CT.cl,CT.n_pairs,nofun,?_;have S4:=S3.fld (fs':=[("pairs",.ref tp)]);show tSeq _ _ _ _ (upd H3 x (.ins C dx [("pairs",.ref tp)]));generalize upd H3 x (.ins C dx [("pairs",.ref tp)])=H4 at S4;exists ·,x,C,dx,_,·,S4.ex,CT.cl,CT.n_pairs,rfl,tp,_,(M'.map fun e=>((Sum.inl e.p.1:Key),V.ref e.tw)).map (fun z=>(kV z.1,z.2)),.dK [],rfl,.inr S4.etp,?_,.inl rfl,fun d1 hd1=>⟨_,Zcd _ [] ?_,?_⟩
   ·rw [Gm];exact T3 fun e he=>by
     obtain ⟨t,ev,b,_⟩:=S4.at_ e he;exists t,ev,SqT.of b
   ·rw [B8,Jb]; exact Ga (by lia:0+M'.length<64) (show 64<=sizeLine by decide)
   have nd1:=S4.new hd1;have ndS:(M'.map fun e=>((Sum.inl e.p.1:Key))).Nodup:=by
    have h1:(L.map (·.1)).Nodup:=Gf.mpr (fr.imp fun {a b} z=>z.1);have h2:((M'.map (·.p)).map (·.1)).Nodup:=(hS.map (·.1)).nodup_iff.mpr h1;rw [Gm] at h2;exact Gf.mpr ((Gf.mp h2).imp fun z e=>z (Sum.inl.inj e))
   have wb:∀ Hx:Hp,(∀ e∈M',e.At Hx)->Vs Hx (X8 [] (M'.map fun e=>((Sum.inl e.p.1:Key),V.ref e.tw))) (M'.map (·.p)):=fun Hx ax=>by
    exists fun p hp=>?_,fun sg hsg=>?_
    ·obtain ⟨e,he,rfl⟩:=Ji.mp hp;obtain ⟨t,_,_,cw⟩:=ax e he;exists e.tw,Ry _ _ (by rw [Gm]; exact ndS) (Ji.mpr ⟨e,he,rfl⟩),cw
    ·rw [Tl _ _ fun z hz=>?_]
     ·rfl
     ·obtain ⟨e,he,rfl⟩:=Ji.mp hz;exact fun q=>hsg e.p (Ji.mpr ⟨e,he,rfl⟩) (Sum.inl.inj q)
   have S5:=S4.same (Zb (o:=.dK (X8 [] (M'.map fun e=>((Sum.inl e.p.1:Key),V.ref e.tw)))) hd1);have ed1:(upd H4 d1 (.dK (X8 [] (M'.map fun e=>((Sum.inl e.p.1:Key),V.ref e.tw))))) d1=_:=Zd;generalize upd H4 d1 (.dK (X8 [] (M'.map fun e=>((Sum.inl e.p.1:Key),V.ref e.tw))))=H5 at S5 ed1;exists ·,x,C,dx,·,S5.ex,CT.cl,CT.n_words_by_sign,(by show 1<1000; decide),?_;have S6:=S5.fld (fs':=[("pairs",.ref tp),("words_by_sign",.ref d1)]);have ed1':(upd H5 x (.ins C dx [("pairs",.ref tp),("words_by_sign",.ref d1)])) d1=_:=(Zl (X7 ed1 S5.ex fun z=>by cases z)).trans ed1;show tSeq _ _ _ _ (upd H5 x (.ins C dx [("pairs",.ref tp),("words_by_sign",.ref d1)]))
   generalize upd H5 x (.ins C dx [("pairs",.ref tp),("words_by_sign",.ref d1)])=H6 at S6 ed1';have go6:∀ (Hx:Hp) (i:Nat),Hx tp=some (.tup (M'.map (·.v)))->i<M'.length->(Itt K tp).go i Hx:=fun Hx i e hi=>⟨_,_,SqT.of e,Ja (by rw [Jb]; exact hi)⟩;have stop6:∀ Hx:Hp,Hx tp=some (.tup (M'.map (·.v)))->(Itt K tp).stop M'.length Hx:=fun Hx e=>⟨_,SqT.of e,by rw [Jb]; exact Je _⟩;have yld6:∀ (Hx:Hp) (i:Nat) (y:V) (H':Hp) (hi:i<M'.length),Hx tp=some (.tup (M'.map (·.v)))->(Itt K tp).yld i Hx y H'->H'=Hx/\y=M'[i].v:=fun Hx i y H' hi e z=>by
    exists z.1,?_;have:=z.2 _ (SqT.of e);rw [J9,Ja hi] at this;exact (Dl this).symm
   refine ⟨_,rfl,x,C,dx,_,_,rfl,S6.ex,CT.cl,CT.n_pairs,rfl,tp,rfl,⟨_,SqT.of S6.etp⟩,W0 (n:=M'.length)
    (fun j ys Hn=>∃ ts:List Addr,ys=ts.map V.ref/\ts.length=j/\Same H6 Hn/\Paired (fun t (e:PK3)=>Hn t=some (.tup [.ref e.tw,.int e.p.1])) ts (M'.take j)) ⟨[],rfl,rfl,.refl _,by rw [Bf]; exact .nil⟩ ?_ (Zm (by lia)) ?_ ?_ ?_ ?_⟩
   ·rintro j ys Hn ⟨ts,rfl,rfl,_⟩;rw [Jb];exact Je _
   ·rintro j ys Hn hj ⟨ts,rfl,rfl,sn,_⟩;exact go6 _ _ (sn _ _ S6.etp) hj
   ·rintro ys Hn ⟨ts,rfl,_,sn,_⟩;exact stop6 _ (sn _ _ S6.etp)
   ·rintro j ys Hn hj ⟨ts,rfl,rfl,sn,pn⟩ y H' hy;obtain ⟨rfl,rfl⟩:=yld6 _ _ _ _ hj (sn _ _ S6.etp) hy;obtain ⟨t,ev,b,cw⟩:=(S6.at_ _ (Jo hj)).tk sn.tk;exists t,_,ev,SqT.of b,rfl,_,·,_,·,rfl,?_;exists ·,·,by show 2<=sizeLine; decide,fun q hq=>?_;exists ts++[q],by rw [Jg]; rfl,by rw [Jc]; rfl,sn.trans (Zb hq),?_;rw [Jf hj];refine L2.Paired.snoc ?_ ?_
    ·exact Zd
    ·exact L2.Paired.mapP pn fun _ _ z=>Zb hq _ _ z
   ·rintro ys Hn ⟨ts,rfl,lt,sn,pn⟩ q hq;rw [Jt] at pn;have sq:=sn.trans (Zb (o:=.lst (ts.map V.ref)) hq);have pn':=Paired.mapP pn fun _ _ z=>Zb (o:=.lst (ts.map V.ref)) hq _ _ z;have eq:(upd Hn q (.lst (ts.map V.ref))) q=_:=Zd;have S7:=S6.same sq;have ed7:=sq _ _ ed1';generalize upd Hn q (.lst (ts.map V.ref))=H7 at S7 ed7 pn' eq;exists q,_,(M'.map fun e=>(e.tw,wk e.p.2,V.int e.p.1)).map (fun z=>(.ref z.1,z.2.2)),.dT [],rfl,.inl eq,?_,.inr rfl,fun d2 hd2=>⟨_,Zic hd2 _ [] ?_ ?_,?_⟩
    ·rw [Gm];exact Tz (fun t e z=>⟨t,rfl,SqT.of z⟩) pn'
    ·rw [B8,Jb]; exact Ga (by lia:0+M'.length<64) (show 64<=sizeLine by decide)
    ·intro z hz;obtain ⟨e,he,rfl⟩:=Ji.mp hz;obtain ⟨t,_,_,cw⟩:=S7.at_ e he;show H7 e.tw=some (.tup ((wk e.p.2).map kV));rw [Zmp];exact cw
    rw [Gm];have ndW:(M'.map fun e=>wk e.p.2).Nodup:=by
     have h1:(L.map (·.2)).Nodup:=Gf.mpr (fr.imp fun {a b} z e=>z.2.1 (by rw [e]; exact Jd _));have h2:((M'.map (·.p)).map (·.2)).Nodup:=(hS.map (·.2)).nodup_iff.mpr h1;rw [Gm] at h2;exact Gf.mpr ((Gf.mp h2).imp fun z e=>z (S0 e))
    have sb:Zf7 (X8 [] (M'.map fun e=>(wk e.p.2,V.int e.p.1))) (M'.map (·.p)):=by
     exists fun p hp=>?_,fun u hu=>?_
     ·obtain ⟨e,he,rfl⟩:=Ji.mp hp;exact Ry _ _ (by rw [Gm]; exact ndW) (Ji.mpr ⟨e,he,rfl⟩)
     ·rw [Tl _ _ fun z hz=>?_]
      ·rfl
      ·obtain ⟨e,he,rfl⟩:=Ji.mp hz;exact fun q=>hu e.p (Ji.mpr ⟨e,he,rfl⟩) (S0 q)
    have nd2:=S7.new hd2;have S8:=S7.same (Zb (o:=.dT (X8 [] (M'.map fun e=>(wk e.p.2,V.int e.p.1)))) hd2);have ed8:=Zb (o:=.dT (X8 [] (M'.map fun e=>(wk e.p.2,V.int e.p.1)))) hd2 _ _ ed7;have es8:(upd H7 d2 (.dT (X8 [] (M'.map fun e=>(wk e.p.2,V.int e.p.1))))) d2=_:=Zd;show tVar 0 _ (upd H7 d2 (.dT (X8 [] (M'.map fun e=>(wk e.p.2,V.int e.p.1))))) _;generalize upd H7 d2 (.dT (X8 [] (M'.map fun e=>(wk e.p.2,V.int e.p.1))))=H8 at S8 ed8 es8;exists ·,x,C,dx,·,S8.ex,CT.cl,CT.n_signs_by_word,(by show 2<1000; decide),?_;have S9:=S8.fld (fs':=[("pairs",.ref tp),("words_by_sign",.ref d1),("signs_by_word",.ref d2)])
    have ed9:(upd H8 x (.ins C dx [("pairs",.ref tp),("words_by_sign",.ref d1),("signs_by_word",.ref d2)])) d1=_:=(Zl (X7 ed8 S8.ex fun z=>by cases z)).trans ed8;have es9:(upd H8 x (.ins C dx [("pairs",.ref tp),("words_by_sign",.ref d1),("signs_by_word",.ref d2)])) d2=_:=(Zl (X7 es8 S8.ex fun z=>by cases z)).trans es8;show tSeq _ _ _ _ (upd H8 x (.ins C dx [("pairs",.ref tp),("words_by_sign",.ref d1),("signs_by_word",.ref d2)]));generalize upd H8 x (.ins C dx [("pairs",.ref tp),("words_by_sign",.ref d1),("signs_by_word",.ref d2)])=H9 at S9 ed9 es9;refine ⟨_,rfl,x,C,dx,_,_,rfl,S9.ex,CT.cl,CT.n_pairs,rfl,tp,rfl,⟨_,SqT.of S9.etp⟩,W0 (n:=M'.length)
     (fun j ys Hn=>ys=(M'.take j).map (fun e=>V.ref e.tw)/\Hn=H9) ⟨by rw [Bf]; rfl,rfl⟩ ?_ (Zm (by lia)) ?_ ?_ ?_ ?_⟩
    ·rintro j ys Hn ⟨rfl,rfl⟩;rw [Jb,Jn];exact Nat.min_le_left _ _
    ·rintro j ys Hn hj ⟨rfl,rfl⟩;exact go6 _ _ S9.etp hj
    ·rintro ys Hn ⟨rfl,rfl⟩;exact stop6 _ S9.etp
    ·rintro j ys Hn hj ⟨rfl,rfl⟩ y H' hy;obtain ⟨rfl,rfl⟩:=yld6 _ _ _ _ hj S9.etp hy;obtain ⟨t,ev,b,cw⟩:=S9.at_ _ (Jo hj);exists t,_,ev,SqT.of b,rfl,_,·,_,·,rfl,?_;exists ·,?_,rfl;rw [Jf hj,Jg];rfl
    ·rintro ys Hn ⟨rfl,rfl⟩ q2 hq2;rw [Jt];have sq2:=Zb (o:=.lst (M'.map fun e=>V.ref e.tw)) hq2;have eq2:(upd Hn q2 (.lst (M'.map fun e=>V.ref e.tw))) q2=_:=Zd;have S10:=S9.same sq2;have ed10:=sq2 _ _ ed9;have es10:=sq2 _ _ es9;generalize upd Hn q2 (.lst (M'.map fun e=>V.ref e.tw))=H10 at S10 ed10 es10 eq2;exists q2,_,M'.map (·.p.2),rfl,eq2,T3 fun e he=>?_,by rw [Jb]; exact lM',?_,fun d3 k3 H11 s11 nd3 ed3 hb3=>?_
     ·obtain ⟨t,_,_,cw⟩:=S10.at_ e he;exists ·,cw
     ·intro u hu;obtain ⟨e,he,rfl⟩:=Ji.mp hu;exact (hw _ (hpL e he)).2
     have nd3':=S10.new nd3;have S11:=S10.same s11;have ed11:=s11 _ _ ed10;have es11:=s11 _ _ es10;exists ·,x,C,dx,·,S11.ex,CT.cl,CT.n_begun,(by show 3<1000; decide),?_;have S12:=S11.fld (fs':=[("pairs",.ref tp),("words_by_sign",.ref d1),("signs_by_word",.ref d2),("begun",.ref d3)]);have ed12:(upd H11 x (.ins C dx [("pairs",.ref tp),("words_by_sign",.ref d1),("signs_by_word",.ref d2),("begun",.ref d3)])) d1=_:=(Zl (X7 ed11 S11.ex fun z=>by cases z)).trans ed11;have es12:(upd H11 x (.ins C dx [("pairs",.ref tp),("words_by_sign",.ref d1),("signs_by_word",.ref d2),("begun",.ref d3)])) d2=_:=(Zl (X7 es11 S11.ex fun z=>by cases z)).trans es11
     have eb12:(upd H11 x (.ins C dx [("pairs",.ref tp),("words_by_sign",.ref d1),("signs_by_word",.ref d2),("begun",.ref d3)])) d3=_:=(Zl (X7 ed3 S11.ex fun z=>by cases z)).trans ed3;have pf:putF (Str.ofString "begun") (V.ref d3) [("pairs",.ref tp),("words_by_sign",.ref d1),("signs_by_word",.ref d2)]=([("pairs",.ref tp),("words_by_sign",.ref d1),("signs_by_word",.ref d2),("begun",.ref d3)]:List (Str×V)):=by rfl
     rw [pf];generalize upd H11 x (.ins C dx [("pairs",.ref tp),("words_by_sign",.ref d1),("signs_by_word",.ref d2),("begun",.ref d3)])=H12 at S12 ed12 es12 eb12;refine ⟨_,rfl,x,C,dx,_,_,rfl,S12.ex,CT.cl,CT.n_pairs,rfl,tp,rfl,⟨_,SqT.of S12.etp⟩,W0 (n:=M'.length)
      (fun j ys Hn=>∃ ts:List Addr,ys=ts.map V.ref/\ts.length=j/\Same H12 Hn/\Paired (fun t (e:PK3)=>Hn t=some (.tup [.int (e.p.2.length:Int),.bl true])) ts (M'.take j)) ⟨[],rfl,rfl,.refl _,by rw [Bf]; exact .nil⟩ ?_ (Zm (by lia)) ?_ ?_ ?_ ?_⟩
     ·rintro j ys Hn ⟨ts,rfl,rfl,_⟩;rw [Jb];exact Je _
     ·rintro j ys Hn hj ⟨ts,rfl,rfl,sn,_⟩;exact go6 _ _ (sn _ _ S12.etp) hj
     ·rintro ys Hn ⟨ts,rfl,_,sn,_⟩;exact stop6 _ (sn _ _ S12.etp)
     ·rintro j ys Hn hj ⟨ts,rfl,rfl,sn,pn⟩ y H' hy;obtain ⟨rfl,rfl⟩:=yld6 _ _ _ _ hj (sn _ _ S12.etp) hy;obtain ⟨t,ev,b,cw⟩:=(S12.at_ _ (Jo hj)).tk sn.tk;exists t,_,ev,SqT.of b,rfl,_,·,_,·,rfl,?_;exists ·,_,·,.inr ⟨_,SqT.of cw,rfl⟩,by show 2<=sizeLine; decide,fun q hq=>?_;exists ts++[q],by rw [Jg]; rfl,by rw [Jc]; rfl,sn.trans (Zb hq),?_;rw [Jf hj];refine L2.Paired.snoc ?_ ?_
      ·rw [Jb]; exact Zd
      ·exact L2.Paired.mapP pn fun _ _ z=>Zb hq _ _ z
     ·rintro ys Hn ⟨ts,rfl,lt,sn,pn⟩ q3 hq3;rw [Jt] at pn;have sq3:=sn.trans (Zb (o:=.lst (ts.map V.ref)) hq3);have pn':=Paired.mapP pn fun _ _ z=>Zb (o:=.lst (ts.map V.ref)) hq3 _ _ z;have eq3:(upd Hn q3 (.lst (ts.map V.ref))) q3=_:=Zd;have S13:=S12.same sq3;have ed13:=sq3 _ _ ed12;have es13:=sq3 _ _ es12;have eb13:=sq3 _ _ eb12;generalize upd Hn q3 (.lst (ts.map V.ref))=H13 at S13 ed13 es13 eb13 pn' eq3;exists q3,_,((M'.map fun e=>(e.p.2.length:Int)).map fun z=>((Sum.inl z:Key),V.bl true)).map (fun z=>(kV z.1,z.2)),.dK [],rfl,.inl eq3,?_,.inl rfl,fun d5 hd5=>⟨_,Zcd _ [] ?_,?_⟩
      ·rw [Gm,Gm];exact Tz (fun t e z=>⟨t,rfl,SqT.of z⟩) pn'
      ·rw [B8,Jb,Jb]; exact Ga (by lia:0+M'.length<64) (show 64<=sizeLine by decide)
      obtain ⟨ns,ens,nd,mem⟩:=Rz (M'.map fun e=>(e.p.2.length:Int)) [] [] rfl .nil;have lk5:=Zds ((M'.map fun e=>(e.p.2.length:Int)).map fun z=>((Sum.inl z:Key),V.bl true)) [];have S14:=S13.same (Zb (o:=.dK (X8 [] ((M'.map fun e=>(e.p.2.length:Int)).map fun z=>((Sum.inl z:Key),V.bl true)))) hd5);have ed14:=Zb (o:=.dK (X8 [] ((M'.map fun e=>(e.p.2.length:Int)).map fun z=>((Sum.inl z:Key),V.bl true)))) hd5 _ _ ed13;have es14:=Zb (o:=.dK (X8 [] ((M'.map fun e=>(e.p.2.length:Int)).map fun z=>((Sum.inl z:Key),V.bl true)))) hd5 _ _ es13;have eb14:=Zb (o:=.dK (X8 [] ((M'.map fun e=>(e.p.2.length:Int)).map fun z=>((Sum.inl z:Key),V.bl true)))) hd5 _ _ eb13
      have e5:(upd H13 d5 (.dK (X8 [] ((M'.map fun e=>(e.p.2.length:Int)).map fun z=>((Sum.inl z:Key),V.bl true))))) d5=_:=Zd;generalize upd H13 d5 (.dK (X8 [] ((M'.map fun e=>(e.p.2.length:Int)).map fun z=>((Sum.inl z:Key),V.bl true))))=H14 at S14 ed14 es14 eb14 e5;exists d5,_,ns,rfl,e5,ens,by rw [Jb,Jb,B8] at lk5; lia,fun D5 ns' hD5 pN riN=>?_;exists D5,·,.inl ⟨SqL.of Zd,fun d4 hd4=>?_⟩;have sz:=(Zb (o:=.lst (ns'.map V.int)) hD5).trans (Zb (o:=.tup (ns'.map V.int)) hd4);have S15:=S14.same sz;have ed15:=sz _ _ ed14;have es15:=sz _ _ es14;have eb15:=sz _ _ eb14;have ez15:(upd (upd H14 D5 (.lst (ns'.map V.int))) d4 (.tup (ns'.map V.int))) d4=_:=Zd
      generalize upd (upd H14 D5 (.lst (ns'.map V.int))) d4 (.tup (ns'.map V.int))=H15 at S15 ed15 es15 eb15 ez15;exists ·,x,C,dx,·,S15.ex,CT.cl,CT.n_word_sizes,(by show 4<1000; decide),?_;have S16:=S15.fld (fs':=[("pairs",.ref tp),("words_by_sign",.ref d1),("signs_by_word",.ref d2),("begun",.ref d3),("word_sizes",.ref d4)]);have pf2:putF (Str.ofString "word_sizes") (V.ref d4) [("pairs",.ref tp),("words_by_sign",.ref d1),("signs_by_word",.ref d2),("begun",.ref d3)]=([("pairs",.ref tp),("words_by_sign",.ref d1),("signs_by_word",.ref d2),("begun",.ref d3),("word_sizes",.ref d4)]:List (Str×V)):=by rfl
      rw [pf2];have ed16:=(Zl (a:=x) (o:=HO.ins C dx [("pairs",.ref tp),("words_by_sign",.ref d1),("signs_by_word",.ref d2),("begun",.ref d3),("word_sizes",.ref d4)]) (X7 ed15 S15.ex fun z=>by cases z)).trans ed15;have es16:=(Zl (a:=x) (o:=HO.ins C dx [("pairs",.ref tp),("words_by_sign",.ref d1),("signs_by_word",.ref d2),("begun",.ref d3),("word_sizes",.ref d4)]) (X7 es15 S15.ex fun z=>by cases z)).trans es15;have eb16:=(Zl (a:=x) (o:=HO.ins C dx [("pairs",.ref tp),("words_by_sign",.ref d1),("signs_by_word",.ref d2),("begun",.ref d3),("word_sizes",.ref d4)]) (X7 eb15 S15.ex fun z=>by cases z)).trans eb15
      have ez16:=(Zl (a:=x) (o:=HO.ins C dx [("pairs",.ref tp),("words_by_sign",.ref d1),("signs_by_word",.ref d2),("begun",.ref d3),("word_sizes",.ref d4)]) (X7 ez15 S15.ex fun z=>by cases z)).trans ez15;refine k _ (M'.map (·.p)) hS hri ⟨dx,tp,d1,d2,d3,d4,S16.ex,⟨⟨_,S16.etp,Zly S16.at_⟩,⟨_,ed16,wb _ S16.at_⟩,⟨_,es16,sb⟩,⟨k3,eb16,?_⟩,⟨ns',ez16,Zf6 nd (fun n=>by rw [mem,Gm]; simp only [G8,false_or]; rfl) pN riN⟩⟩,nd1,nd2,nd3'⟩ S16.tb S16.g;rw [Gm];exact hb3
def Jcc (T:Txt mg) (CT:CodeT K C) {f:Addr} (F:Fun K "word" "Code.word" X5 f fd):FnOk P w K mg base CX0 1 f fd ["self", "sign"] (Zfy C):=by
 refine F.ok Jah (fun vs H Q E h=>?_) (fun cdv A outer s H vs Q E hr h=>?_)
 ·obtain ⟨x,S,z,rfl,_⟩:=h;rfl
 ·obtain ⟨x,S,z,rfl,⟨dx,tp,d1,d2,d3,d4,ex,ci⟩,k1,k2⟩:=h;obtain ⟨k3,e3,hb1,hb2⟩:=ci.wb;have SC:=Jah;have hu1:=Wz hr;exists _,(Zk (Z5 (Zde hu1 (W5 (pv 0) rfl) (pv 1) ⟨rfl,rfl,rfl,rfl⟩))),?_;exists ·,x,C,dx,_,·,ex,CT.cl,CT.n_words_by_sign,rfl,d1,rfl,.inl ⟨_,.inl e3⟩,·,_,DGet.k (k:=Sum.inl z) e3,?_
  by_cases hp:∃ p∈S,p.1=z
  ·obtain ⟨p,hp,e⟩:=hp;obtain ⟨t,h1,h2⟩:=hb1 p hp;rw [e] at h1;rw [h1];exact k1 p hp e t h2
  ·rw [hb2 z fun p hq e=>hp ⟨p,hq,e⟩];exact k2 fun p hq e=>hp ⟨p,hq,e⟩
def Jab (T:Txt mg) (CT:CodeT K C) {f:Addr} (F:Fun K "sign" "Code.sign" X6 f fd):FnOk P w K mg base CX0 1 f fd ["self", "word"] (Zf1 C):=by
 refine F.ok Jbd (fun vs H Q E h=>?_) (fun cdv A outer s H vs Q E hr h=>?_)
 ·obtain ⟨x,t,S,u,rfl,_⟩:=h;rfl
 ·obtain ⟨x,t,S,u,rfl,⟨dx,tp,d1,d2,d3,d4,ex,ci⟩,et,k1,k2⟩:=h;obtain ⟨k3,e3,hb1,hb2⟩:=ci.sb;have SC:=Jbd;have hu1:=Wz hr;have et':H t=some (.tup ((wk u).map kV)):=by rw [Zmp]; exact et
  exists _,(Zk (Z5 (Zde hu1 (W5 (pv 0) rfl) (pv 1) ⟨rfl,rfl,rfl,rfl⟩))),?_;exists ·,x,C,dx,_,·,ex,CT.cl,CT.n_signs_by_word,rfl,d2,rfl,.inr ⟨_,.inl e3⟩,·,_,DGet.t e3 et',?_
  by_cases hp:∃ p∈S,p.2=u
  ·obtain ⟨p,hp,e⟩:=hp;have:=hb1 p hp;rw [e] at this;rw [this];exact k1 p hp e
  ·rw [hb2 u fun p hq e=>hp ⟨p,hq,e⟩];exact k2 fun p hq e=>hp ⟨p,hq,e⟩
def Jas (T:Txt mg) {f:Addr} (xc:XCl K C f) (na:W.findIn K (.ref C) "at"=some none) (F:Fun K "__init__" "NoSign.__init__" Ym f fd):FnOk P w K mg base CX0 1 f fd ["self", "at"] (spX1 C "at"):=by
 refine F.ok Jal (fun vs H Q E h=>?_) (fun cdv A outer s H vs Q E hr h=>?_)
 ·obtain ⟨ea,y,rfl,_⟩:=h;rfl
 ·obtain ⟨ea,y,rfl,hea,k⟩:=h;have SC:=Jal;exists _,(Zk (Zbq (pv 0) (pv 1) rfl)),?_;exists ·,·,ea,C,f,rfl,xc,na,.inl ⟨hea,fun d hd ne=>k d hd ne⟩
def Jay (T:Txt mg) {f:Addr} (xc:XCl K C f) (na:W.findIn K (.ref C) "at"=some none) (F:Fun K "__init__" "NoReading.__init__" Ya f fd):FnOk P w K mg base CX0 1 f fd ["self", "at"] (spX1 C "at"):=by
 refine F.ok Jbk (fun vs H Q E h=>?_) (fun cdv A outer s H vs Q E hr h=>?_)
 ·obtain ⟨ea,y,rfl,_⟩:=h;rfl
 ·obtain ⟨ea,y,rfl,hea,k⟩:=h;have SC:=Jbk;exists _,(Zk (Zbq (pv 0) (pv 1) rfl)),?_;exists ·,·,ea,C,f,rfl,xc,na,.inl ⟨hea,fun d hd ne=>k d hd ne⟩
def Jbv (T:Txt mg) {f:Addr} (xc:XCl K C f) (na:W.findIn K (.ref C) "most"=some none) (F:Fun K "__init__" "TooMany.__init__" Yg f fd):FnOk P w K mg base CX0 1 f fd ["self", "most"] (spX1 C "most"):=by
 refine F.ok Dq (fun vs H Q E h=>?_) (fun cdv A outer s H vs Q E hr h=>?_)
 ·obtain ⟨ea,y,rfl,_⟩:=h;rfl
 ·obtain ⟨ea,y,rfl,hea,k⟩:=h;have SC:=Dq;exists _,(Zk (Zbq (pv 0) (pv 1) rfl)),?_;exists ·,·,ea,C,f,rfl,xc,na,.inl ⟨hea,fun d hd ne=>k d hd ne⟩
theorem Jbp (T:Txt mg) {Cn:Addr} (Zd9:Met P w K mg base C "word" 1 ["self", "sign"] (Zfy C)) (R9:Rx P w K mg base "NoSign" Cn 1 ["self", "at"] (spX1 Cn "at")) {f:Addr} (F:Fun K "write" "write" Tu f fd):FnOk P w K mg base (CXE P w) 3 f fd ["code", "text"] (Zcz C Cn):=by
 refine F.okE Jbj (fun vs H Q E h=>?_) (fun cdv A outer s H vs Q E hr h=>?_)
 ·obtain ⟨x,xa,S,ts,rfl,_⟩:=h;rfl
 ·obtain ⟨x,xa,S,ts,rfl,ca,fi,exa,lts,k,kE⟩:=h;have SC:=Jbj;have Zok:Room 1 _:=hr.mono nofun;have Zhx:Room 2 _:=hr.mono nofun;have lm:(ts.map V.int).length=ts.length:=Jb _;refine ⟨_,(Zc (Zt (i:=2) SC.nd rfl (Or.inl rfl) (Yr Ze))
 (Zc (Yx PassesOwn.leaving rfl (Znq rfl T.b_enumerate (Za (pv 1) Ze)) (Vw (n:=2) rfl (Z9 (Zq (i:=3) SC.nd rfl (Or.inl rfl)) (Z9 (Zq (i:=4) SC.nd rfl (Or.inl rfl)) Wl)) (by rfl))
 (Zc (Zt (i:=5) SC.nd rfl (Or.inl rfl) (Zem (pv 0) Zd9 Zok (Za (pv 4) Ze)))
 (Zc (Xm (Vp (Zg3 (pv 5)))
 (Zk (Pl R9 Zhx rfl (Za (pv 3) Ze)))
 Z7)
 (Zk (Xw (Ty PySem.F.plainAttrs_list PySem.F.slot_list_extend PySem.F.type_list_extend Zet (pv 2) (Za (pv 5) Ze)))))))
 (Zk (Z5 (pv 2))))),?_⟩
  exists by show 0<=sizeLine; decide,fun tx htx=>?_;have s1:=Zb (o:=.lst []) htx;have etx:(upd H tx (.lst [])) tx=_:=Zd;generalize upd H tx (.lst [])=H1 at s1 etx;have ntx:∀ b o,H b=some o->b≠tx:=fun b o e=>Zp e htx;exists ·,xa,rfl,⟨_,SqL.of (s1 _ _ exa)⟩,Zku (xs:=ts.map V.int) (fun i σ H'=>∃ (U:List Pr) (v3 v4 v5:Option V),σ=[some (.ref x),some (.ref xa),some (.ref tx),v3,v4,v5]/\Same H H'/\H' tx=some (.lst ((Ye U).map V.int))/\W1 S U ts i) ⟨[],_,_,_,rfl,s1,etx,⟨(fun _ z=>nomatch z),rfl⟩⟩ ?_ ?_ ?_
  ·rintro i σ H2 hi ⟨U,v3,v4,v5,rfl,s2,_⟩;exact SqL.of (s2 _ _ exa)
  ·rintro i hi t σ H2 ⟨U,v3,v4,v5,rfl,s2,e2,tx2⟩ nt;have hi2:i<ts.length:=by rw [lm] at hi; exact hi
   have lU:=tx2.len (B9 hi2);have s3:=Zb (o:=.tup [.int i,(ts.map V.int)[i]]) nt;have e3:=s3 _ _ e2;have et3:(upd H2 t (.tup [.int i,(ts.map V.int)[i]])) t=some (.tup [.int i,.int ts[i]]):=by rw [Zd,Gz]
   generalize upd H2 t (.tup [.int i,(ts.map V.int)[i]])=H3 at s3 e3 et3;have s23:=s2.trans s3;have ca3:=ca.same s23;obtain ⟨dx,tp,d1,d2,d3,d4,ex,_⟩:=id ca3;exists t,·,SqT.of et3,rfl,_,·,_,·,rfl,?_;exists ·,x,dx,·,ex,rfl,·,x,S,ts[i],rfl,ca3,fun p hp e tw etw=>?_,fun hno=>?_
   ·exists ·,·,Zrs (fun z=>by cases z) ?_;have lw:=(fi.2 _ hp).2;have lr:=Tw fi tx2.1;exists ·,.inl ⟨rfl,_,SqL.of e3⟩,·,tx,tw,_,·,rfl,e3,etw,?_,U++[p],_,_,·,fun b o e'=>?_,?_,tx2.snoc hi2 hp e
    ·rw [Jb,Jb];exact Zm (by lia)
    ·rw [Zl (ntx b o e')];exact s23 b o e'
    ·rw [Zd,Rf,Jg,Sq];simp [Ye]
   ·exists ·,·,Zrr rfl ?_;exists ·,by show 1<=10; decide,fun ea nea=>?_;exists ea,.int i,rfl,Zd,fun d nd ne=>⟨rfl,d,?_,?_⟩
    ·rw [Zl (Ne.symm ne),Zd]
    ·have nd3:H3 d=none:=by rw [Zl ne] at nd; exact nd
     refine kE i U d _ hi2 tx2 ((Rm hi2).mpr hno) (s23.free nd3) (fun b o e=>?_) ?_
     ·have b1:b≠ea:=Zp (s23 _ _ e) nea;have b2:b≠d:=Zp (s23 _ _ e) nd3;rw [Zl b1,Zl b2,Zl b1,Zl b1];exact s23 _ _ e
     ·rw [Zl ne,Zd]
  ·rintro σ H2 ⟨U,v3,v4,v5,rfl,s2,e2,tx2⟩;rw [lm] at tx2;exists ·,k U tx H2 tx2 htx s2 e2
theorem Jbe (T:Txt mg) (CT:CodeT K C) (Q8:Met P w K mg base C "sign" 1 ["self", "word"] (Zf1 C)) {f:Addr} (F:Fun K "word_at" "word_at" W4 f fd):FnOk P w K mg base CX0 2 f fd ["code", "row", "place"] (Zc0 C):=by
 refine F.ok Jck (fun vs H Q E h=>?_) (fun cdv A outer s H vs Q E hr h=>?_)
 ·obtain ⟨x,r,S,ns,pl,rfl,_⟩:=h;rfl
 ·obtain ⟨x,r,S,ns,pl,rfl,ca,fi,er,hpl,k1,k2⟩:=h;have SC:=Jck;have Zb5:Room 1 _:=hr.mono nofun;obtain ⟨dx,tp,d1,d2,d3,d4,ex,ci⟩:=id ca;obtain ⟨zs,ez,hz⟩:=ci.sz;refine ⟨_,(Zc (Yx PassesOwn.never rfl (N4 (W5 (pv 0) rfl)) (Zq (i:=3) SC.nd rfl (Or.inl rfl))
 (Zc (Zt (i:=4) SC.nd rfl (Or.inl rfl) (Ys Wf (by rfl) T.b_tuple PyProof.Rows.boot_tuple (Za (Yh Wi (pv 1) (Yf (pv 2)) (Yf (Z2 Wm (pv 2) (pv 3)))) Ze)))
 (Zk (Xm (Vp (Rh (Zem (pv 0) Q8 Zb5 (Za (pv 4) Ze))))
 (Zk (Z5 (pv 4)))
 Z7))))
 (Zk (Z5 Qv))),?_⟩
  exists ·,x,C,dx,_,·,ex,CT.cl,CT.n_word_sizes,rfl,d4,rfl,⟨_,SqT.of ez⟩,Zop (xs:=zs.map V.int) (fun i σ H'=>∃ v3 v4,σ=[some (.ref x),some (.ref r),some (.int pl),v3,v4]/\Same H H'/\∀ p∈S,∀ (j:Nat) (hj:j<zs.length),j<i->(p.2.length:Int)=zs[j]->¬ p.2<+:ns.drop pl) ⟨_,_,rfl,.refl _,fun p hp j hj h0=>absurd h0 (Bh _)⟩ ?_ ?_ ?_
  ·rintro i σ H1 hi ⟨v3,v4,rfl,s1,no⟩;exact SqT.of (s1 _ _ ez)
  ·rintro i y σ H1 hy ⟨v3,v4,rfl,s1,no⟩;have hi:i<zs.length:=by have:=(Jh.mp hy).1; rw [Jb] at this; exact this
   rw [J9,Ja hi] at hy;obtain rfl:=Dl hy;obtain ⟨p0,hp0,el⟩:=(hz.2 zs[i]).mp (Jo hi);refine ⟨_,rfl,_,rfl,_,rfl,_,rfl,_,rfl,_,_,rfl,rfl,_,rfl,r,_,rfl,SqL.of (s1 _ _ er),fun q hq=>?_⟩;have ec:cutV (ns.map V.int) (some (pl:Int)) (some ((pl:Int)+zs[i]))=((ns.drop pl).take p0.2.length).map V.int:=by
    rw [<- el];exact Zoz ns (m:=p0.2.length) hpl
   rw [ec];have pw:(ns.drop pl).take p0.2.length<+:ns.drop pl:=Fs _ _;have hw:∀ p∈S,p.2.length=p0.2.length->p.2<+:ns.drop pl->p.2=(ns.drop pl).take p0.2.length:=fun p hp hl hpre=>by
    rw [<- hl];exact List.prefix_iff_eq_take.mp hpre
   generalize (ns.drop pl).take p0.2.length=u at pw hw;exists q,·,.inl ⟨SqL.of Zd,fun t ht=>?_⟩;have s2:=(s1.trans (Zb hq)).trans (Zb (o:=.tup (u.map V.int)) ht);have et:(upd (upd H1 q (.lst (u.map V.int))) t (.tup (u.map V.int))) t=_:=Zd;generalize upd (upd H1 q (.lst (u.map V.int))) t (.tup (u.map V.int))=H2 at s2 et;have ca2:=ca.same s2;exists ·,x,dx,·,s2 _ _ ex,rfl,·,x,t,S,u,rfl,ca2,et,fun p hp e=>?_,fun hno=>?_
   ·subst e;exists ·,Zud (fun z=>by cases z) ⟨_,rfl,k1 p hp pw t H2 s2 et⟩
   ·exists ·,Zrq rfl ?_;exists _,·,s2,fun p hp j hj hji hl hpre=>?_
    by_cases e:j=i
    ·subst e;exact hno p hp (hw p hp (by rw [<- el] at hl; exact Int.ofNat.inj hl) hpre)
    ·exact no p hp j hj (by lia) hl hpre
  ·rintro σ H1 ⟨v3,v4,rfl,s1,no⟩;refine k2 (fun p hp=>?_) H1 s1;obtain ⟨j,hj,ej⟩:=Js ((hz.2 _).mpr ⟨p,hp,rfl⟩);exact no p hp j hj (by rw [Jb]; exact hj) ej.symm
theorem Jbi (T:Txt mg) {Cr:Addr} (Q8:Met P w K mg base C "sign" 1 ["self", "word"] (Zf1 C)) (Qb:Cal P w K mg base "word_at" 2 ["code", "row", "place"] (Zc0 C)) (V4:Rx P w K mg base "NoReading" Cr 1 ["self", "at"] (spX1 Cr "at")) {f:Addr} (F:Fun K "read" "read" Qr f fd):FnOk P w K mg base (CXE P w) 3 f fd ["code", "row"] (Zf2 C Cr):=by
 refine F.okE Jam (fun vs H Q E h=>?_) (fun cdv A outer s H vs Q E hr h=>?_)
 ·obtain ⟨x,r,S,ns,rfl,_⟩:=h;rfl
 ·obtain ⟨x,r,S,ns,rfl,ca,fi,er,lns,k,kE⟩:=h;have SC:=Jam;have Zb5:Room 1 _:=hr.mono nofun;have Ze0:Room 2 _:=hr.mono nofun;have Zaj:Room 2 _:=hr.mono nofun;have lm:(ns.map V.int).length=ns.length:=Jb _;refine ⟨_,(Zc (Zt (i:=2) SC.nd rfl (Or.inl rfl) (Yr Ze))
 (Zc (Zt (i:=3) SC.nd rfl (Or.inl rfl) Zi)
 (Zc (Zdb PassesOwn.leaving (Z8 Zj8 (pv 3) (Zw Y8 (by rfl) T.b_len Dm (Za (pv 1) Ze)) (Yo _))
 (Zc (Zt (i:=4) SC.nd rfl (Or.inl rfl) (Zy Qb Ze0 rfl (Za (pv 0) (Za (pv 1) (Za (pv 3) Ze)))))
 (Zc (Xm (Vp (Zg3 (pv 4)))
 (Zk (Pl V4 Zaj rfl (Za (pv 3) Ze)))
 Z7)
 (Zc (Xw (Ty PySem.F.plainAttrs_list PySem.F.slot_list_append PySem.F.type_list_append Wp (pv 2) (Za (Zem (pv 0) Q8 Zb5 (Za (pv 4) Ze)) Ze)))
 (Zk (Zq2 (i:=3) SC.nd rfl (Or.inl rfl) (Zw Y8 (by rfl) T.b_len Dm (Za (pv 4) Ze)) Zl6))))))
 (Zk (Z5 (pv 2)))))),?_⟩
  refine ⟨by show 0<=sizeLine; decide,fun tx htx=>?_⟩;have s1:=Zb (o:=.lst []) htx;have etx:(upd H tx (.lst [])) tx=_:=Zd;generalize upd H tx (.lst [])=H1 at s1 etx;have ntx:∀ b o,H b=some o->b≠tx:=fun b o e=>Zp e htx;refine Zjj (fun σ H'=>∃ (pl:Nat) (R:List En) (v4:Option V),σ=[some (.ref x),some (.ref r),some (.ref tx),some (.int pl),v4]/\Same H H'/\H' tx=some (.lst (outs R))/\Went S ns R pl/\Zbd R)
   (fun σ _=>match σ with | [_,_,_,some (.int z),_]=>(ns.length-z).toNat | _=>0) ⟨0,[],_,rfl,s1,etx,.nil,fun _ z=>nomatch z⟩ ?_ ?_
  ·rintro σ H2 ⟨pl,R,v4,rfl,s2,e2,we,cln⟩;have er2:=s2 _ _ er;have lR:=we.len;have hle:=we.le;exists ·,·,_,·,.inl ⟨_,SqL.of er2,rfl⟩,_,·,rfl,·,?_;refine ite2 (fun hlt=>?_) (fun hlt=>?_)
   ·have hlt':pl<ns.length:=by
     have:=of_decide_eq_true hlt;rw [lm] at this;lia
    exists ·,·,·,x,r,S,ns,pl,rfl,ca.same s2,fi,er2,hle,fun p hp pre t H3 s3 et=>?_,fun hno H3 s3=>?_
    ·have s23:=s2.trans s3;have ca3:=ca.same s23;obtain ⟨dx,tp,d1,d2,d3,d4,ex,_⟩:=id ca3;have e3:=s3 _ _ e2;exists ·,·,Zrs (fun z=>by cases z) ?_;exists ·,.inl ⟨rfl,_,SqL.of e3⟩,·,x,dx,·,ex,rfl,·,x,t,S,p.2,rfl,ca3,et,fun p' hp' e'=>?_,fun hno=>absurd rfl (hno _ hp);exists tx,_,·,rfl,e3,by unfold outs; rw [List.length_map]; exact Nat.lt_of_le_of_lt (by lia:R.length<=100000) nofun,?_;have hne:=(fi.2 _ hp).1;have gL:Grow tx H3 (upd H3 tx (.lst (outs R++[.int p'.1]))):=fun b o e n=>by rw [Zl n]; exact e
     exists ·,·,_,·,.inr ⟨_,SqT.of (gL _ _ et (X7 et e3 fun z=>by cases z)),rfl⟩,_,·,rfl,⟨pl+p.2.length,R++[(pl,some p'.1)],some (.ref t),?_,fun b o e=>?_,?_,?_,Q7 cln (fun z=>by cases z)⟩,?_
     ·rw [Jb,Int.natCast_add];rfl
     ·rw [Zl (ntx b o e)];exact s23 b o e
     ·rw [Zd];unfold outs;rw [Jg];rfl
     ·have hw:=Went.word we hp' (by rw [e']; exact pre) (by rw [e']; exact hne);rw [e'] at hw;exact hw
     ·show ((ns.length:Int)-((pl:Int)+(((p.2.map V.int).length:Nat):Int))).toNat<((ns.length:Int)-(pl:Int)).toNat;rw [Jb];have:=Gr.mpr hne;lia
    ·have s23:=s2.trans s3;exists ·,·,Zrr rfl ?_;exists ·,by show 1<=10; decide,fun ea nea=>?_;exists ea,.int pl,rfl,Zd,fun d nd ne=>⟨rfl,d,?_,?_⟩
     ·rw [Zl (Ne.symm ne),Zd]
     ·have nd3:H3 d=none:=by rw [Zl ne] at nd; exact nd
      refine kE R pl d _ ⟨we,cln,.inr ⟨hlt',hno⟩⟩ hlt' (s23.free nd3) (fun b o e=>?_) ?_
      ·have b1:b≠ea:=Zp (s23 _ _ e) nea;have b2:b≠d:=Zp (s23 _ _ e) nd3;rw [Zl b1,Zl b2,Zl b1,Zl b1];exact s23 _ _ e
      ·rw [Zl ne,Zd]
   ·have hge:ns.length<=pl:=by
     have:=of_decide_eq_false (Ft _ ▸ hlt);rw [lm] at this;lia
    exists ·,k R pl tx H2 ⟨we,cln,.inl hge⟩ hge htx s2 e2
  ·rintro σ H2 Q1 Q2 hq ⟨a1,a2,a3,a4,a5,a6,a7,a8,a9,a10,a11,a12,a13,a14,z⟩;exists a1,a2,a3,a4,a5,a6,a7,a8,a9,a10,a11,a12,a13,a14,hq _ _ z
open L3
abbrev Zkf:Str:=Str.ofString "abcdefghijklmnopqrstuvwxyz"
theorem Zdi {a b:Nat} (hab:a<=b) (hb:b<=cs.length):Txt.slice (nmS cs) (some (a:Int)) (some (b:Int))=nmS ((cs.drop a).take (b-a)):=by
 unfold Txt.slice;have hb':b<=(nmS cs).length:=by rw [Wn]; exact hb
 rw [StrLaws.sliced_plain (nmS cs) hab hb'];have li:(Builtin.Str.strSliceIndices (some (a:Int)) (some (b:Int)) 1 (nmS cs).length).length=b-a:=by
  rw [StrLaws.strSliceIndices_plain hab hb',Jb,By]
 split
 ·rename_i h
  have h:b-a=cs.length:=by
   have h:=beq_iff_eq.mp h;rw [li,Wn] at h;exact h
  rw [show a=0 by lia,Fz,Gj (by lia)]
 ·unfold nmS;rw [B3,Fi]
def Zrb {b:Nat} (hb:b<=cs.length):Txt.slice (nmS cs) none (some (b:Int))=nmS (cs.take b):=by
 have:=Zdi (cs:=cs) (Ge b) hb;unfold Txt.slice at this ⊢;rw [StrLaws.sliceIdx_none_lo];exact this
def Zn2 {a:Nat} (ha:a<=cs.length):Txt.slice (nmS cs) (some (a:Int)) none=nmS (cs.drop a):=by
 have:=Zdi (cs:=cs) ha (Je _);rw [Gj (by rw [Gh]; exact Je _)] at this;unfold Txt.slice at this ⊢;rw [StrLaws.sliceIdx_none_hi,Wn];rw [Wn] at this;exact this
theorem Zn0 (h:0<cs.length):Txt.slice (nmS cs) none (some (-1))=nmS (cs.take (cs.length-1)):=by
 have:=Zrb (cs:=cs) (b:=cs.length-1) (by lia);unfold Txt.slice at this ⊢;rw [StrLaws.sliceIdx_neg_hi none _ nofun (by rw [Wn]; lia),Wn,show (-1:Int)+(cs.length:Int)=((cs.length-1:Nat):Int) by lia];rw [Wn] at this;exact this
def Zl3 (a b:List Nat):(nmS a++nmS b:Str)=nmS (a++b):=by
 show (⟨(nmS a).cps++(nmS b).cps⟩:Str)=_;unfold nmS;rw [Jg,<- List.append_toArray]
def Zn3 {c:Nat} (h:c<26):Txt.find Zkf ⟨#[97+c]⟩=(c:Int):=by
 have:∀ c:_root_.Fin 26,Txt.find Zkf ⟨#[97+c.val]⟩=((c.val:Nat):Int):=by decide +kernel
 exact this ⟨c,h⟩
theorem Znz (l:List Nat):(l.map ((fun x:Str=>x.length) ∘ fun c=>(⟨#[97+c]⟩:Str))).sum=l.length:=by
 induction l with
 | nil=>rfl
 | cons c l ih=>rw [Jl,List.sum_cons,ih,Jz]; show 1+_=_; lia
def mvl (cs:List Nat) (a m:Nat):List Nat:=cs.set a ((cs[a]?.getD 0+m) % 26)
def Zl4 {a m:Nat} (ha:a<cs.length):(mvl cs a m)[a]?=some ((cs[a]?.getD 0+m) % 26):=by
 unfold mvl;exact Jy ha
theorem Qx {a m n:Nat} (ha:a<cs.length) (h:m<n) (hn:n<26):mvl cs a m≠mvl cs a n:=fun e=>by
 have:=Zl4 (m:=m) ha;rw [e,Zl4 ha] at this;have:=Dl this;lia
def Zkc {a:Nat} (ha:a<cs.length) (hc:∀ c∈cs,c<26):mvl cs a 0=cs:=by
 unfold mvl;rw [Ja ha];show cs.set a ((cs[a]+0) % 26)=cs;rw [Nat.add_zero,Nat.mod_eq_of_lt (hc _ (Jo ha)),List.set_getElem_self]
def Pm {a m:Nat}:(mvl cs a m).length=cs.length:=by unfold mvl; rw [List.length_set]
theorem Zhe {a m:Nat} (hc:∀ c∈cs,c<26):∀ c∈mvl cs a m,c<26:=fun c h=>by
 rcases List.mem_or_eq_of_mem_set h with y | y
 ·exact hc c y
 ·rw [y]; lia
def Zn6 {a m:Nat} (ha:a<cs.length):cs.take a++[(cs[a]+m) % 26]++cs.drop (a+1)=mvl cs a m:=by
 unfold mvl;rw [List.set_eq_take_append_cons_drop,Dh ha,Gd,Ja ha];rfl
def Zd1:Sp3:=fun ds M K=>∃ (k:Nat),ds=[.cell k]/\M[k]?=some .hand/\∀ zs:List Str,zs.length=4->zs.Nodup->(∀ z∈zs,z.length<=8/\PyData.strOk z=true)->K (.cell M.length) (M++[.lst (zs.map .str)])
theorem Jar (T:Txt mg) (Zn:Cal P w K mg base "_law_draw" 1 ["_law_hand", "_law_many"] (spOf ⟨C,K⟩ Zkx)) {f:Addr} (F:Fun K "_law_names" "_law_names" Jcb f fd):FnOk P w K mg base CX0 2 f fd ["_law_hand"] (spOf ⟨C,K⟩ Zd1):=by
 refine L3.Fun.ok3 F Jba (fun ds M K3 h=>?_) (fun cdv A outer s H E hr=>?_)
 ·obtain ⟨k0,rfl,_⟩:=h;rfl
 ·have SC:=Jba;have hu:=hr.units;have hu1:=Wz hr;have Zo:Room 1 _:=hr.mono nofun;refine ⟨_,_,(Zc (Zt (i:=1) SC.nd rfl (Or.inr rfl) Vx)
 (Zc (Zt (i:=2) SC.nd rfl (Or.inl rfl) (Ty PySem.F.plainAttrs_str PySem.F.slot_str_join PySem.F.type_str_join (Zo3 (K:=K) rfl) Vx (Za (Xi (T:=["_law_k"]) (cs:=[1,0]) rfl (CScope.ok (by kernel_rfl)) (Xa rfl T.b_range (Za (Z2 (Xo (K':=K) rfl) Zi (Zy Zn Zo rfl (Za (pv 0) (Za Zi Ze)))) Ze)) (fun _ _ _ _=>(Zq (i:=0) (Xx (by kernel_rfl)) rfl (Or.inl rfl) (Or.inr rfl))) (fun _ _ _ _=>Xh) (fun _ _ _ _=>(Yk (Wd (K':=K) rfl) (pv 1) (Zy Zn Zo rfl (Za (pv 2) (Za Zi Ze))) (fun _ _=>rfl))) (Y6 nofun)) Ze)))
 (Zc (Xm (Z8 (No (K':=K) rfl hu) (Zy Zn Zo rfl (Za (pv 0) (Za Zi Ze))) Zi (Yo _))
 (Zk (Zt (i:=2) SC.nd rfl (Or.inl rfl) (Yk (Wd (K':=K) rfl) (Yr (Za Vx (Za Vx (Za Vx (Za Vx (Za Vx Ze)))))) (Zy Zn Zo rfl (Za (pv 0) (Za Zi Ze))) (fun _ _=>rfl))))
 Z7)
 (Zc (Zt (i:=3) SC.nd rfl (Or.inl rfl) (Z2 Wb (Zy Zn Zo rfl (Za (pv 0) (Za Zi Ze))) (Zw (W8 (K:=K) rfl) (by rfl) T.b_len Dm (Za (pv 2) Ze))))
 (Zc (Zt (i:=4) SC.nd rfl (Or.inl rfl) (Yr (Za (pv 2) Ze)))
 (Zc (Yx PassesOwn.never rfl (N4 (X2 (Za (Z2 (Xo (K':=K) rfl) Zi (Zy Zn Zo rfl (Za (pv 0) (Za Zi Ze)))) (Za (Z2 (Xo (K':=K) rfl) Zi (Zy Zn Zo rfl (Za (pv 0) (Za Zi Ze)))) (Za (Z2 (Xo (K':=K) rfl) Zi (Zy Zn Zo rfl (Za (pv 0) (Za Zi Ze)))) Ze))))) (Zq (i:=5) SC.nd rfl (Or.inl rfl))
 (Zc (Zt (i:=6) SC.nd rfl (Or.inl rfl) (Yk (Wd (K':=K) rfl) (pv 1) (Z2 Wb (Z2 (Xo (K':=K) rfl) (Ty PySem.F.plainAttrs_str PySem.F.slot_str_find PySem.F.type_str_find Zn8 (pv 1) (Za (Yk (Wd (K':=K) rfl) (pv 2) (pv 3) (fun _ _=>rfl)) Ze)) (pv 5)) Zi) (fun _ _=>rfl)))
 (Zk (Xw (Ty PySem.F.plainAttrs_list PySem.F.slot_list_append PySem.F.type_list_append Wp (pv 4) (Za (Z2 (Xo (K':=K) rfl) (Z2 (Xo (K':=K) rfl) (Yh (Zbe (K':=K) rfl) (pv 2) Y9 (Yf (pv 3))) (pv 6)) (Yh (Zbe (K':=K) rfl) (pv 2) (Yf (Z2 (Xo (K':=K) rfl) (pv 3) Zi)) Y9)) Ze))))))
 (Zc (Xm (PW.pt (Zgp (Z8 Zg7 (Zw (W8 (K:=K) rfl) (by rfl) T.b_len Dm (Za (pv 2) Ze)) Zi (Yo _)) (Zbp (Z8 (No (K':=K) rfl hu) (Zy Zn Zo rfl (Za (pv 0) (Za Zi Ze))) Zi (Yo _)))))
 (Zk (Zgu (Yh (Zbe (K':=K) rfl) (pv 2) Y9 (Yf (Zg0 Np Zi))) (Zgy (pv 4) Zi So)))
 Z7)
 (Zk (Z5 (pv 4)))))))))),fun _=>(Zz (Yd Ny (s_g 1))
 (Zz (Yd (Zqk Ny (Zf (Vo (Zjx (Zf (s_op Vc Z3 (Yj (Zf (Zg 0) (Zf Z3 Zs)))) Zs)) (s_g 0) Rb (s_op s_ix (Zg 1) (Yj (Zf (Zg 2) (Zf Z3 Zs))))) Zs)) (s_g 2))
 (Zz (Vt (X1 (s_op s_eq (Yj (Zf (Zg 0) (Zf Z3 Zs))) Z3))
 (Yd (s_op s_ix (Vr (Zf Ny (Zf Ny (Zf Ny (Zf Ny (Zf Ny Zs)))))) (Yj (Zf (Zg 0) (Zf Z3 Zs)))) (s_g 2))
 Wa)
 (Zz (Yd (s_op Zjv (Yj (Zf (Zg 0) (Zf Z3 Zs))) (s_cb Sl (Zf (Zg 2) Zs))) (s_g 3))
 (Zz (Yd (Qs (Zf (Zg 2) Zs)) (s_g 4))
 (Zz (Vb (s_it (Sk (Zf (s_op Vc Z3 (Yj (Zf (Zg 0) (Zf Z3 Zs)))) (Zf (s_op Vc Z3 (Yj (Zf (Zg 0) (Zf Z3 Zs)))) (Zf (s_op Vc Z3 (Yj (Zf (Zg 0) (Zf Z3 Zs)))) Zs))))) (s_g 5)
 (Zz (Yd (s_op s_ix (Zg 1) (s_op Zjv (s_op Vc (Zqn (Zg 1) (Zf (s_op s_ix (Zg 2) (Zg 3)) Zs)) (Zg 5)) Z3)) (s_g 6))
 (Vu (Uk (Zg 4) (Zf (s_op Vc (s_op Vc (s_sl Zbj (Zg 2) Te (Uu (Zg 3))) (Zg 6)) (s_sl Zbj (Zg 2) (Uu (s_op Vc (Zg 3) Z3)) Te)) Zs)))))
 (Zz (Vt (Zqp (X1 (s_op s_gt (s_cb Sl (Zf (Zg 2) Zs)) Z3)) (X1 (s_op s_eq (Yj (Zf (Zg 0) (Zf Z3 Zs))) Z3)))
 (Yd (s_sl Zbj (Zg 2) Te (Uu (s_un Zm8 Z3))) (Zlr (Zg 4) Z3))
 Wa)
 (We (Zg 4))))))))),fun ds M Kk hM hD h=>?_⟩
  obtain ⟨k0,rfl,h⟩:=h;obtain ⟨hk,k⟩:=h;exists ·,·,k0,8,rfl,hk,⟨nofun,nofun⟩,fun y y0 y1=>?_;exists ·,⟨by lia,by lia⟩,?_,fun j ys M'=>M=M'/\∃ cs:List Nat,cs.length=j/\(∀ c∈cs,c<26)/\ys=(cs.map fun c=>(⟨#[97+c]⟩:Str)).map D.str,fun _ _ _ _ _=>trivial,⟨rfl,[],rfl,(fun _ h=>nomatch h),rfl⟩,?_,?_
  ·show (1+y).toNat<=sizeLine;exact Zm (by lia)
  ·rintro j x ys _ hj rfl ⟨rfl,cs,rfl,hc,rfl⟩;exists ·,·,k0,26,rfl,hk,⟨nofun,nofun⟩,fun q q0 q1=>?_;obtain ⟨n,rfl⟩:∃ n:Nat,q=n:=⟨q.toNat,by lia⟩;refine ⟨_,_,rfl,nofun,Zrc (by lia),rfl,cs++[n],by rw [Jc]; rfl,fun c hc'=>?_,by rw [Jg,Jg]; rfl⟩;rcases Gc.mp hc' with z | z
   ·exact hc c z
   ·rw [Jj.mp z]; lia
  rintro ys _ ⟨rfl,cs,lc,hc,rfl⟩;have lc:cs.length=(1+y).toNat:=lc;exists _,·,rfl,?_,?_
  ·rw [Gm,Jb,Znz];show _+_*0<=_;lia
  rw [Zn1];refine g_nx ?_;dsimp only;refine Zqb (fun ρ' M'=>∃ cs:List Nat,ρ'=[some (.cell k0),some (.str Zkf),some (.str (nmS cs)),none,none,none,none]/\M=M'/\1<=cs.length/\cs.length<=8/\∀ c∈cs,c<26) (fun Kn hn=>?_) ?_
  ·exists ·,k0,4,rfl,hk,⟨nofun,nofun⟩,fun r r0 r1=>.inl ⟨_,rfl,_,rfl,ite2 (fun h=>?_) (fun h=>hn _ _ ⟨cs,rfl,rfl,by lia,by lia,hc⟩)⟩;exists (show 5<=sizeLine by decide),·,k0,5,rfl,hk,⟨nofun,nofun⟩,fun q q0 q1=>?_;have:q=0\/q=1\/q=2\/q=3\/q=4:=by lia
   rcases this with rfl | rfl | rfl | rfl | rfl
   ·exists _,_,·,rfl,rfl,hn _ _ ⟨[2,14,3,4],?_,rfl,nofun,nofun,nofun⟩;rw [show nmS [2,14,3,4]=Str.ofString "code" from by decide +kernel];rfl
   ·exists _,_,·,rfl,rfl,hn _ _ ⟨[17,4,0,3],?_,rfl,nofun,nofun,nofun⟩;rw [show nmS [17,4,0,3]=Str.ofString "read" from by decide +kernel];rfl
   ·exists _,_,·,rfl,rfl,hn _ _ ⟨[13,14,13,4],?_,rfl,nofun,nofun,nofun⟩;rw [show nmS [13,14,13,4]=Str.ofString "none" from by decide +kernel];rfl
   ·exists _,_,·,rfl,rfl,hn _ _ ⟨[14,17],?_,rfl,nofun,nofun,nofun⟩;rw [show nmS [14,17]=Str.ofString "or" from by decide +kernel];rfl
   ·exists _,_,·,rfl,rfl,hn _ _ ⟨[12,4,13,3],?_,rfl,nofun,nofun,nofun⟩;rw [show nmS [12,4,13,3]=Str.ofString "mend" from by decide +kernel];rfl
  clear hc lc;rintro _ _ ⟨cs,rfl,rfl,c1,c8,hc⟩;have ln:=Wn cs;have l0:(0:Int)<((nmS cs).length:Int):=by lia
  exists ·,k0,8,rfl,hk,⟨nofun,nofun⟩,fun q q0 q1=>⟨_,rfl,Zm (show (nmS cs).length<=100000 by lia),_,_,rfl,rfl,l0,?_⟩;obtain ⟨a,ea,ha⟩:=Zl5 q (n:=(nmS cs).length) (by lia);rw [ln] at ha;dsimp only;rw [ea];exists ·,(show 1<=sizeLine by decide),?_;have kl:=X0 hk;have hkM:∀ xs:List D,(M++[MO.lst xs])[k0]?=some .hand:=fun xs=>Xg hk;refine g_nx ?_;dsimp only;exists ·,k0,8,rfl,hkM _,⟨nofun,nofun⟩,fun m1 m10 m11=>?_;exists ·,k0,8,rfl,hkM _,⟨nofun,nofun⟩,fun m2 m20 m21=>?_;exists ·,k0,9,rfl,hkM _,⟨nofun,nofun⟩,fun m3 m30 m31=>?_;obtain ⟨m1,rfl⟩:=Gp m10
  obtain ⟨m2,rfl⟩:=Gp m20;obtain ⟨m3,rfl⟩:=Gp m30;have mv:[D.int (1+(m1:Int)),D.int (9+(m2:Int)),D.int (17+(m3:Int))]=[1+m1,9+m2,17+m3].map fun m:Nat=>D.int (m:Int):=by
   show [_,_,_]=[D.int _,D.int _,D.int _];simp only [Int.natCast_add];rfl
  have hmv:∀ m∈[1+m1,9+m2,17+m3],m<26:=fun m hm=>by
   simp only [Jq,G8,or_false] at hm;lia
  have nd0:(cs::[1+m1,9+m2,17+m3].map (mvl cs a)).Nodup:=by
   have z:=Zkc ha hc;have n1:=Qx (m:=0) (n:=1+m1) ha (by lia) (by lia);have n2:=Qx (m:=0) (n:=9+m2) ha (by lia) (by lia);have n3:=Qx (m:=0) (n:=17+m3) ha (by lia) (by lia);have n4:=Qx (m:=1+m1) (n:=9+m2) ha (by lia) (by lia);have n5:=Qx (m:=1+m1) (n:=17+m3) ha (by lia) (by lia);have n6:=Qx (m:=9+m2) (n:=17+m3) ha (by lia) (by lia);rw [z] at n1 n2 n3;simp [n1,n2,n3,n4,n5,n6]
  exists (show 3<=sizeLine by decide),?_;have es1:Txt.slice (nmS cs) none (some (a:Int))=nmS (cs.take a):=Zrb (by lia);have es2:Txt.slice (nmS cs) (some ((a:Int)+1)) none=nmS (cs.drop (a+1)):=by rw [show (a:Int)+1=((a+1:Nat):Int) by lia]; exact Zn2 (by lia)
  have eat:L2.atI (nmS cs).cps.toList (a:Int)=some (97+cs[a]):=by
   show L2.atI (cs.map fun c=>97+c) (a:Int)=_;unfold L2.atI;rw [Zog (by rw [Jb]; exact ha)];show (cs.map fun c=>97+c)[a]?=_;rw [J9,Ja ha];rfl
  have hca:=hc _ (Jo ha);exists ·,fun i ρ M'=>∃ v5 v6:Option D,ρ=[some (.cell k0),some (.str Zkf),some (.str (nmS cs)),some (.int a),some (.cell M.length),v5,v6]/\M++[.lst (((cs::([1+m1,9+m2,17+m3].take i).map (mvl cs a)).map nmS).map .str)]=M',fun _ _ _ _ _=>trivial,⟨_,_,rfl,rfl⟩,?_,?_
  ·rintro i x ρ _ hi hx ⟨v5,v6,rfl,rfl⟩;have hx:([1+m1,9+m2,17+m3].map fun m:Nat=>D.int (m:Int))[i]?=some x:=by rw [<- mv]; exact hx
   obtain ⟨hi',rfl⟩:=Z6 hx;have hm:=hmv _ (Jo hi');have et:=Jf hi';have li:([1+m1,9+m2,17+m3].take i).length<=3:=by rw [Jn]; exact Nat.min_le_right _ _
   obtain ⟨m,em0⟩:∃ m,[1+m1,9+m2,17+m3][i]=m:=⟨_,rfl⟩;obtain ⟨ms,ems⟩:∃ ms,[1+m1,9+m2,17+m3].take i=ms:=⟨_,rfl⟩;rw [em0,ems] at et;rw [em0] at hm;rw [ems] at li;rw [em0,ems];have lm:((cs::ms.map (mvl cs a)).map nmS).length<=4:=by rw [Jb,Jz,Jb]; lia
   have em:((cs[a]:Int)+(m:Int)) % 26=(((cs[a]+m) % 26:Nat):Int):=by lia
   exists ·,·,·,·,·,_,·,Zm (show (nmS cs).length<=100000 by lia),eat,·,·,?_;rw [Zn3 hca];exists _,·,rfl,(show (0:Int)<26 by decide),?_;dsimp only;rw [em];exists _,·,nofun,Zrc (Nat.mod_lt _ nofun),?_;exists ·,Vy Ve,·,·,·,Zm (show (nmS cs).length<=100000 by lia),·,?_;rw [es1];have l1:(nmS (cs.take a)).length<=8:=by rw [Wn,Jn]; lia
   have l2:(nmS (cs.drop (a+1))).length<=8:=by rw [Wn,Gh]; lia
   exists Zm (show (nmS (cs.take a)).length+1<=100000 by lia),·,·,·,Zm (show (nmS cs).length<=100000 by lia),?_;dsimp only [Zfi];rw [es2,show (⟨#[97+(cs[a]+m) % 26]⟩:Str)=nmS [(cs[a]+m) % 26] from rfl,Zl3];have l3:(nmS (cs.take a++[(cs[a]+m) % 26])).length<=9:=by rw [Wn,Jc,Jn]; show _+1<=9; lia
   exists Zm (by lia),?_;rw [Zl3,Zn6 ha];exists M.length,_,·,rfl,Wc,?_,?_
   ·rw [Jb];exact Be lm nofun
   rw [Uj];refine .inl ⟨_,_,rfl,?_⟩;rw [et]
   congr 3
   rw [Jg,<- List.cons_append,Jg,Jg];rfl
  rintro ρ _ ⟨v5,v6,rfl,rfl⟩;have e3:[1+m1,9+m2,17+m3].take [D.int (1+(m1:Int)),D.int (9+(m2:Int)),D.int (17+(m3:Int))].length=[1+m1,9+m2,17+m3]:=rfl;rw [show List.take _ [1+m1,9+m2,17+m3]=[1+m1,9+m2,17+m3] from e3];have okn:∀ z∈(cs::[1+m1,9+m2,17+m3].map (mvl cs a)).map nmS,z.length<=8/\PyData.strOk z=true:=fun z hz=>by
   obtain ⟨c,hc',rfl⟩:=Ji.mp hz;rcases Jq.mp hc' with rfl | h
   ·exists by lia,Zes hc
   ·obtain ⟨m,_,rfl⟩:=Ji.mp h;exists by rw [Wn,Pm]; lia,Zes (Zhe hc)
  have ndn:((cs::[1+m1,9+m2,17+m3].map (mvl cs a)).map nmS).Nodup:=by
   rw [Jx,Gf];exact (Jx.mp nd0).imp fun h e=>h (Zhd e)
  have fin0:=k _ rfl ndn okn;exists ·,Zm (show (nmS cs).length<=100000 by lia),_,·,rfl,·,ite2 (fun h=>?_) (fun h=>iteF ⟨_,rfl,.inl fin0⟩);have h1:1<cs.length:=by have:=of_decide_eq_true h; lia
  exists ·,k0,2,rfl,hkM _,⟨nofun,nofun⟩,fun q q0 q1=>.inl ⟨_,rfl,_,rfl,ite2 (fun h=>?_) (fun h=>⟨_,rfl,.inl fin0⟩)⟩;exists ·,·,·,Zm (show (nmS cs).length<=100000 by lia),?_;dsimp only;rw [Zn0 (by lia)];exists ·,M.length,_,1,1,rfl,rfl,Wc,rfl,?_;rw [Uj];exists ·,.inl ?_;have:=k [nmS cs,nmS (cs.take (cs.length-1)),nmS (mvl cs a (9+m2)),nmS (mvl cs a (17+m3))] rfl ?_ ?_
  ·exact this
  ·have hl:∀ m,nmS (cs.take (cs.length-1))≠nmS (mvl cs a m):=fun m e=>by
    have:=congrArg List.length (Zhd e);rw [Pm,Jn] at this;lia
   have hl0:nmS cs≠nmS (cs.take (cs.length-1)):=fun e=>by
    have:=congrArg List.length (Zhd e);rw [Jn] at this;lia
   have ndn:[nmS cs,nmS (mvl cs a (1+m1)),nmS (mvl cs a (9+m2)),nmS (mvl cs a (17+m3))].Nodup:=ndn;rw [Gq,Gq,Gq] at ndn;obtain ⟨g1,g2,g3,g4⟩:=ndn;simp only [Jq,G8,or_false,not_or] at g1 g2 g3;simp only [Gq,Jq,G8,or_false,not_or,Bd,and_true,not_false_eq_true];exists ⟨hl0,g1.2.1,g1.2.2⟩,⟨hl _,hl _⟩,g3
  ·intro z hz;simp only [Jq,G8,or_false] at hz;rcases hz with rfl | rfl | rfl | rfl
   ·exists by lia,Zes hc
   ·exists by rw [Wn,Jn]; lia,Zes fun c h=>hc c (Fn h)
   ·exists by rw [Wn,Pm]; lia,Zes (Zhe hc)
   ·exists by rw [Wn,Pm]; lia,Zes (Zhe hc)
open L3
def Zat:Sp3:=fun ds M K=>∃ (k:Nat) (n lg:Int),ds=[.cell k,.int n,.int lg]/\M[k]?=some .hand/\(1<=n/\n<=8/\1<=lg/\lg<=4)/\∀ Ls:List (List Pr),(Ls.length:Int)=n->(∀ L∈Ls,TbOk L/\L.length<=12)->K (.cell M.length) (M++[.lst (Ls.map tbD)])
theorem Zrf:∀ (r:List Int) (c:Int),∃ m,mxOf (some c) r=some m
 | [],c=>⟨c,rfl⟩
 | _::r,_=>Zrf r _
def wsD (ws:List (List Int)):D:=.lst (ws.map wD)
theorem Jcj (T:Txt mg) (Zn:Cal P w K mg base "_law_draw" 1 ["_law_hand", "_law_many"] (spOf ⟨C,K⟩ Zkx)) (Uf:Cal P w K mg base "_law_bytes" 2 ["_law_hand", "_law_most"] (spOf ⟨C,K⟩ Zmm)) (V8:Cal P w K mg base "_law_words" 2 ["_law_hand", "_law_some", "_law_most", "_law_longest"] (spOf ⟨C,K⟩ Zme)) (Ub:Cal P w K mg base "_law_signs" 2 ["_law_hand", "_law_many"] (spOf ⟨C,K⟩ Zmg)) (Ua:Cal P w K mg base "_law_table" 2 ["_law_hand", "_law_words_here", "_law_signs_here"] (spOf ⟨C,K⟩ Zmf)) {f:Addr} (F:Fun K "_law_tables" "_law_tables" D6 f fd):FnOk P w K mg base CX0 3 f fd ["_law_hand", "_law_many", "_law_longest"] (spOf ⟨C,K⟩ Zat):=by
 refine L3.Fun.ok3 F D0 (fun ds M K3 h=>?_) (fun cdv A outer s H E hr=>?_)
 ·obtain ⟨k0,n,lg,rfl,_⟩:=h;rfl
 ·have SC:=D0;have hu:=hr.units;have hu1:=Wz hr;have Zo:Room 1 _:=hr.mono nofun;have P7:Room 2 _:=hr.mono nofun;have P0:Room 2 _:=hr.mono nofun;have P3:Room 2 _:=hr.mono nofun;have P2:Room 2 _:=hr.mono nofun;refine ⟨_,_,(Zc (Zt (i:=3) SC.nd rfl (Or.inr rfl) (Zy Uf P7 rfl (Za (pv 0) (Za Zi Ze))))
 (Zc (U1 (i:=4) SC.nd rfl rfl (T:=["_law_k"]) (cs:=[0,3,2]) rfl (CScope.ok (by kernel_rfl)) (Xa rfl T.b_range (Za (pv 1) Ze)) (fun _ _ _ _=>(Zq (i:=0) (Xx (by kernel_rfl)) rfl (Or.inl rfl) (Or.inr rfl))) (fun _ _ _ _=>Xh) (fun _ _ _ _=>(Zy V8 P0 rfl (Za (pv 1) (Za (pv 2) (Za Zi (Za (pv 3) Ze)))))) (Y6 nofun))
 (Zc (Zt (i:=5) SC.nd rfl (Or.inr rfl) (Zy Ub P3 rfl (Za (pv 0) (Za (Z2 (Xo (K':=K) rfl) (Zw (Zo2 (K:=K) rfl rfl) (by rfl) T.b_max PyProof.Rows.boot_max (Za (Xi (T:=["_law_one"]) (cs:=[]) rfl (CScope.ok (by kernel_rfl)) (Yc (pv 4)) (fun _ _ _ _=>(Zq (i:=0) (Xx (by kernel_rfl)) rfl (Or.inl rfl) (Or.inr rfl))) (fun _ _ _ _=>Xh) (fun _ _ _ _=>(Zw (W8 (K:=K) rfl) (by rfl) T.b_len Dm (Za (pv 0) Ze))) (Y6 nofun)) Ze)) (Zy Zn Zo rfl (Za (pv 0) (Za Zi Ze)))) Ze))))
 (Zc (U1 (i:=6) SC.nd rfl rfl (T:=["_law_one"]) (cs:=[0,5]) rfl (CScope.ok (by kernel_rfl)) (Yc (pv 4)) (fun _ _ _ _=>(Zq (i:=0) (Xx (by kernel_rfl)) rfl (Or.inl rfl) (Or.inr rfl))) (fun _ _ _ _=>Xh) (fun _ _ _ _=>(Zy Ua P2 rfl (Za (pv 1) (Za (pv 0) (Za (pv 2) Ze))))) (Y6 nofun))
 (Zc (Xm (Z8 (No (K':=K) rfl hu) (Zy Zn Zo rfl (Za (pv 0) (Za Zi Ze))) Zi (Yo _))
 (Zk (Zgu (Zg1 (Yk (Wd (K':=K) rfl) (pv 6) Zi (fun _ _=>rfl)) (Yf (Zg0 Np Zi)) (fun _ _=>⟨_,rfl⟩)) (Zgy (pv 6) (Zg0 Np Zi) So)))
 Z7)
 (Zk (Z5 (pv 6)))))))),fun _=>(Zz (Yd (Yj (Zf (Zg 0) (Zf Z3 Zs))) (s_g 3))
 (Zz (Yd (Vo (Zjx (Zf (Zg 1) Zs)) (s_g 0) Rb (Yj (Zf (Zg 1) (Zf (Zg 2) (Zf Z3 (Zf (Zg 3) Zs)))))) (s_g 4))
 (Zz (Yd (Yj (Zf (Zg 0) (Zf (s_op Vc (s_cb Zqj (Zf (Vo (s_il (Zg 4)) (s_g 0) Rb (s_cb Sl (Zf (Zg 0) Zs))) Zs)) (Yj (Zf (Zg 0) (Zf Z3 Zs)))) Zs))) (s_g 5))
 (Zz (Yd (Znc (s_il (Zg 4)) (s_g 0) Rb (Yj (Zf (Zg 1) (Zf (Zg 0) (Zf (Zg 2) Zs))))) (s_g 6))
 (Zz (Vt (X1 (s_op s_eq (Yj (Zf (Zg 0) (Zf Z3 Zs))) Z3))
 (Yd (Ztq (s_op s_ix (Zg 6) Z3) (Uu (s_un Zm8 Z3))) (Zlr (Zg 6) (s_un Zm8 Z3)))
 Wa)
 (We (Zg 6))))))),fun ds M Kk hM hD h=>?_⟩
  obtain ⟨k0,n,lg,rfl,h⟩:=h;obtain ⟨hk,⟨n1,n8,g1,g4⟩,k⟩:=h;exists ·,k0,3,rfl,hk,⟨nofun,nofun⟩,fun bs nb b2 b3 br=>?_;have b3:bs.length<=3:=by lia
  have bne:bs≠[]:=fun z=>by rw [z] at b2; cases b2
  exists ·,·,⟨by lia,by lia⟩,?_,fun j ys M'=>M=M'/\∃ wss:List (List (List Int)),wss.length=j/\ys=wss.map wsD/\∀ ws∈wss,WOk ws/\ws.length<=12,fun _ _ _ _ _=>trivial,⟨rfl,[],rfl,rfl,fun _ h=>nomatch h⟩,?_,?_
  ·show n.toNat<=sizeLine;exact Zm (by lia)
  ·rintro j x ys _ hj rfl ⟨rfl,wss,lw,rfl,okw⟩;exists ·,·,·,k0,bs,3,lg,rfl,hk,⟨nb,bne,by lia,nofun,nofun,g1,g4⟩,fun ws ow lw'=>⟨rfl,wss++[ws],by rw [Jc,lw]; rfl,by rw [Jg]; rfl,fun w hw=>?_⟩;rcases Gc.mp hw with z | z
   ·exact okw w z
   ·rw [Jj.mp z]; exact ⟨ow,by lia⟩
  rintro ys _ ⟨rfl,wss,lw,rfl,okw⟩;have lw:wss.length=n.toNat:=lw;have lwm:(wss.map wsD).length=wss.length:=Jb _;exists ·,·,·,?_,fun j ys M'=>M=M'/\ys=((wss.take j).map fun ws=>(ws.length:Int)).map .int,fun _ _ _ _ _=>rfl,⟨rfl,rfl⟩,?_,?_
  ·show (wss.map wsD).length<=sizeLine;exact Zm (by lia)
  ·rintro j x ys _ hj hx ⟨rfl,rfl⟩;obtain ⟨hj',rfl⟩:=Z6 hx;exists ·,·,rfl,?_;rw [Jf hj',Jg,Jg];show _=_++[D.int _];rw [Jb]
  rintro ys _ ⟨rfl,rfl⟩;rw [show List.take (wss.map wsD).length wss=wss by rw [lwm,Jt]];obtain ⟨mx,emx,hmx⟩:∃ mx,mxOf none (wss.map fun ws=>(ws.length:Int))=some mx/\(∀ ws∈wss,(ws.length:Int)<=mx)/\0<=mx/\mx<=12:=by
   have ge:=(Zn5 (wss.map fun ws=>(ws.length:Int)) none).1;have le:=Zn4 (b:=12) (wss.map fun ws=>(ws.length:Int)) none nofun (fun m hm=>by
    obtain ⟨ws,hws,rfl⟩:=Ji.mp hm;have:=(okw ws hws).2;lia) (fun z e=>nomatch e)
   obtain ⟨w0,r,rfl⟩:∃ w0 r,wss=w0::r:=by
    cases wss with
    | nil=>have:([]:List (List (List Int))).length=n.toNat:=lw; have:(0:Nat)=n.toNat:=this; lia
    | cons a b=>exact ⟨a,b,rfl⟩
   obtain ⟨m,em⟩:=Zrf (r.map fun ws=>(ws.length:Int)) (w0.length:Int);have em':mxOf none ((w0::r).map fun ws=>(ws.length:Int))=some m:=em;rw [em'] at ge le;exists m,em',fun ws hws=>ge _ (Ji.mpr ⟨ws,hws,rfl⟩),?_,le;have:=ge _ (Ji.mpr ⟨w0,Jm,rfl⟩);have:(w0.length:Int)<=m:=this;lia
  exists _,_,mx,rfl,rfl,emx,?_;exists ·,k0,2,rfl,hk,⟨nofun,nofun⟩,fun r r0 r1=>?_;exists k0,·,hk,⟨by lia,by lia⟩,fun ss nds lss=>?_;exists ·,·,?_,fun j ys M'=>M=M'/\∃ Ls:List (List Pr),Ls.length=j/\ys=Ls.map tbD/\∀ L∈Ls,TbOk L/\L.length<=12,fun _ _ _ _ _=>rfl,⟨rfl,[],rfl,rfl,fun _ h=>nomatch h⟩,?_,?_
  ·show (wss.map wsD).length<=sizeLine;exact Zm (by lia)
  ·rintro j x ys _ hj hx ⟨rfl,Ls,lL,rfl,okL⟩;obtain ⟨hj',rfl⟩:=Z6 hx;obtain ⟨ow,lw⟩:=okw _ (Jo hj');have hle:=hmx.1 _ (Jo hj');generalize wss[j]=wj at ow lw hle;exists ·,·,·,k0,wj,ss,rfl,hk,⟨ow,by lia,nds,by lia,by lia⟩,fun L fr fi pw=>⟨rfl,Ls++[L],by rw [Jc,lL]; rfl,by rw [Jg]; rfl,fun w hw=>?_⟩;rcases Gc.mp hw with z | z
   ·exact okL w z
   ·rw [Jj.mp z]; exact ⟨⟨fr,fi⟩,by have:=pw.length_eq; rw [Jb] at this; lia⟩
  rintro ys _ ⟨rfl,Ls,lL,rfl,okL⟩;have lL:Ls.length=(wss.map wsD).length:=lL;have lLn:(Ls.length:Int)=n:=by lia
  refine g_nx ?_;dsimp only;exists ·,k0,4,rfl,Xg hk,⟨nofun,nofun⟩,fun q q0 q1=>.inl ⟨_,rfl,_,rfl,ite2 (fun h=>?_) (fun h=>⟨_,rfl,.inl (k Ls lLn okL)⟩)⟩;have hL0:0<Ls.length:=by lia
  exists ·,?_;dsimp only [uC];refine Zuc (i:=0) Ve (Zjb (f:=tbD) (as:=Ls) (j:=0) rfl hL0) ?_;exists 1,rfl,·,rfl,·,?_;exists ·,1,rfl,M.length,_,_,Ls.length-1,rfl,rfl,Wc,?_,?_
  ·rw [Jb];unfold ixN;rw [Dg nofun,Dh (by lia)]
   congr 1
   lia
  rw [Uj];have ok0:=okL _ (Jo hL0);have e1:(Ls.map tbD).set (Ls.length-1) (.lst ((Ls[0].map pD).reverse))=(Ls.set (Ls.length-1) Ls[0].reverse).map tbD:=by
   rw [List.map_set]
   congr 1
   unfold tbD;rw [List.map_reverse]
  rw [e1];exists ·,.inl (k _ (by rw [Go]; exact lLn) fun L hL=>?_);rcases List.mem_or_eq_of_mem_set hL with z | z
  ·exact okL L z
  ·rw [z];exact ⟨⟨ok0.1.1.rev,by rw [Fc]; exact ok0.1.2.1,fun p hp=>ok0.1.2.2 p (List.mem_reverse.mp hp)⟩,by rw [Fc]; exact ok0.2⟩
open L3
theorem Dp (T:Txt mg) (cl:Cls K Zj) (n1:Xk K Zj "codes_by_name") (n2:Xk K Zj "marks_by_name")  {f:Addr} (F:Fun K "__init__" "Family.__init__" Yn f fd):FnOk P w K mg base CX0 1 f fd ["self"] (spOf ⟨C,K⟩ (Zmj Zj)):=by
 refine L3.Fun.ok3 F Jcq (fun ds M K3 h=>?_) (fun cdv A outer s H E hr=>?_)
 ·obtain ⟨f,rfl,_⟩:=h;rfl
 ·have SC:=Jcq;have hu:=hr.units;have hu1:=Wz hr;refine ⟨_,_,(Zc (Rg (pv 0) Sw rfl)
 (Zk (Rg (pv 0) Sw rfl))),fun _=>(Zz (Zlo (Zg 0) Pi)
 (Zlo (Zg 0) Pi)),fun ds M Kk hM hD h=>?_⟩
  obtain ⟨f,rfl,h⟩:=h;obtain ⟨hf,hl,k⟩:=h;have lf:f<M.length:=by lia
  refine ⟨_,rfl,f,Zj,[],rfl,Xg hf,cl,n1,nofun,?_⟩;refine ⟨_,rfl,f,Zj,_,rfl,Xg (Jy (by rw [Jc]; lia)),cl,n2,(show 1<1000 by decide),.inl ?_⟩;have e:(((M++[MO.dct []]).set f (.ins Zj (Qe "codes_by_name" (.cell M.length) [])))++[MO.dct []]).set f (.ins Zj (Qe "marks_by_name" (.cell ((M++[MO.dct []]).set f (.ins Zj (Qe "codes_by_name" (.cell M.length) []))).length) (Qe "codes_by_name" (.cell M.length) [])))=M.set f (.ins Zj (famD f))++[.dct [],.dct []]:=by
   rw [Fp _ _ (by rw [Go,Jc]; lia),List.set_set,Fp _ _ lf,Gd];have l2:((M++[MO.dct []]).set f (.ins Zj (Qe "codes_by_name" (.cell M.length) []))).length=f+2:=by rw [Go,Jc,hl]; rfl
   rw [l2,hl];rfl
  exact e ▸ k
theorem Jca (T:Txt mg) (cl:Cls K Zj) (n1:Xk K Zj "codes_by_name") (n2:Xk K Zj "marks_by_name")  {f:Addr} (F:Fun K "add" "Family.add" Xq f fd):FnOk P w K mg base CX0 1 f fd ["self", "name", "code", "mark"] (spOf ⟨C,K⟩ (Zsd Zj)):=by
 refine L3.Fun.ok3 F Jap (fun ds M K3 h=>?_) (fun cdv A outer s H E hr=>?_)
 ·obtain ⟨f,n,S,mk,zs,rfl,_⟩:=h;rfl
 ·have SC:=Jap;have hu:=hr.units;have hu1:=Wz hr;refine ⟨_,_,(Zc (Xm (Vp (Zl1 hu1 (pv 1) (W5 (pv 0) rfl)))
 (Zk Su)
 Z7)
 (Zc (Tx hu1 (W5 (pv 0) rfl) (pv 1) (pv 2) rfl)
 (Zk (Tx hu1 (W5 (pv 0) rfl) (pv 1) (Ys (Ziz (K:=K) rfl) (by rfl) T.b_tuple PyProof.Rows.boot_tuple (Za (pv 3) Ze)) rfl)))),fun _=>(Zz (Vt (s_b (Zqo (Zg 1) (Qu (Zg 0))))
 Zga
 Wa)
 (Zz (Nz (Qu (Zg 0)) (Zg 1) (Zg 2))
 (Nz (Qu (Zg 0)) (Zg 1) (s_cb Zbi (Zf (Zg 3) Zs))))),fun ds M Kk hM hD h=>?_⟩
  obtain ⟨f,n,S,mk,zs,rfl,h⟩:=h;obtain ⟨Fa,hl,hn,k⟩:=h;have dc:Us M (.cell (f+1))=some (Vq zs):=by simp only [Us,Fa.h1]
  have ll:∀ g:Fq->D,(zs.map fun z=>((.inr z.1:Key),g z)).length<sizeLine:=fun g=>by rw [Jb]; exact Be hl nofun
  refine ⟨_,rfl,_,rfl,f,Zj,_,_,rfl,Fa.h0,cl,n1,rfl,_,.inl ⟨_,_,dc,rfl,rfl⟩,_,rfl,?_⟩;rw [show valD (Vq zs) (.inr n)=none from Zpn hn];refine iteF ?_;have l1:=X0 Fa.h1;have new:∀ g:Fq->D,∀ v:D,putD (zs.map fun z=>((.inr z.1:Key),g z)) (.inr n) v=(zs.map fun z=>((.inr z.1:Key),g z))++[(.inr n,v)]:=fun g v=>Ss fun kv hkv e=>by
   obtain ⟨z,hz,rfl⟩:=Ji.mp hkv;exact hn (Ji.mpr ⟨z,hz,Sum.inr.inj e⟩)
  refine ⟨_,rfl,_,rfl,f,Zj,_,_,rfl,Fa.h0,cl,n1,rfl,_,rfl,_,.inl ⟨f+1,_,_,rfl,Fa.h1,rfl,ll _,rfl⟩,?_⟩;refine ⟨_,rfl,_,_,rfl,rfl,_,rfl,f,Zj,_,_,rfl,Yv Fa.h0 (by lia),cl,n2,rfl,_,rfl,_,.inl ⟨f+2,_,_,rfl,Yv Fa.h2 (by lia),rfl,ll _,rfl⟩,.inl ?_⟩;have e1:putD (Vq zs) (.inr n) (.code S)=Vq (zs++[(n,S,mk)]):=by
   unfold Vq;rw [new,Jg];rfl
  have e2:putD (Zac zs) (.inr n) (.tup (mk.map .int))=Zac (zs++[(n,S,mk)]):=by
   unfold Zac;rw [new,Jg];rfl
  rw [e1,e2];exact k
def Jbh (T:Txt mg) (cl:Cls K Zj) (n1:Xk K Zj "codes_by_name") (n2:Xk K Zj "marks_by_name")  {f:Addr} (F:Fun K "code" "Family.code" Xf f fd):FnOk P w K mg base CX0 1 f fd ["self", "name"] (spOf ⟨C,K⟩ (Zml Zj)):=by
 refine L3.Fun.ok3 F Jbz (fun ds M K3 h=>?_) (fun cdv A outer s H E hr=>?_)
 ·obtain ⟨f,n,zs,rfl,_⟩:=h;rfl
 ·have SC:=Jbz;have hu:=hr.units;have hu1:=Wz hr;refine ⟨_,_,(Zc (Xm (Vp (N6 hu1 (pv 1) (W5 (pv 0) rfl)))
 (Zk Su)
 Z7)
 (Zk (Z5 (Vd hu1 (W5 (pv 0) rfl) (pv 1) (fun _ _=>rfl))))),fun _=>(Zz (Vt (s_b (Zc5 (Zg 1) (Qu (Zg 0))))
 Zga
 Wa)
 (We (Tf (Qu (Zg 0)) (Zg 1)))),fun ds M Kk hM hD h=>?_⟩
  obtain ⟨f,n,zs,rfl,h⟩:=h;obtain ⟨Fa,hn,k⟩:=h;have dc:Us M (.cell (f+1))=some (Vq zs):=by simp only [Us,Fa.h1]
  obtain ⟨z,hz,rfl⟩:=Ji.mp hn;have ev:valD (Vq zs) (.inr z.1)=some (.code z.2.1):=Zfg Fa.nd hz;exists ·,·,f,Zj,_,·,Fa.h0,cl,n1,rfl,_,.inl ⟨_,_,dc,rfl,rfl⟩,·,?_;rw [ev];refine iteF ?_;exists ·,f,Zj,_,·,Fa.h0,cl,n1,rfl,·,_,.inl ⟨_,_,dc,rfl,ev.symm⟩,.inl (k z hz rfl)
open L3
def Jcn (T:Txt mg) (cl:Cls K Zj) (n1:Xk K Zj "codes_by_name") (n2:Xk K Zj "marks_by_name")  {f:Addr} (F:Fun K "names" "Family.names" Y5 f fd):FnOk P w K mg base CX0 1 f fd ["self"] (spOf ⟨C,K⟩ (Zim Zj)):=by
 refine L3.Fun.ok3 F Jbs (fun ds M K3 h=>?_) (fun cdv A outer s H E hr=>?_)
 ·obtain ⟨f,zs,rfl,_⟩:=h;rfl
 ·have SC:=Jbs;have hu:=hr.units;have hu1:=Wz hr;exists _,_,(Zk (Z5 (Ys (Zcg rfl) (by rfl) T.b_list PyProof.Rows.boot_list (Za (W5 (pv 0) rfl) Ze)))),fun _=>(We (s_cb Zm9 (Zf (Qu (Zg 0)) Zs))),fun ds M Kk hM hD h=>?_;obtain ⟨f,zs,rfl,h⟩:=h;obtain ⟨Fa,k⟩:=h;have dc:Us M (.cell (f+1))=some (Vq zs):=by simp only [Us,Fa.h1]
  refine ⟨_,rfl,f,Zj,_,_,rfl,Fa.h0,cl,n1,rfl,_,_,rfl,dc,.inl ?_⟩;have e:(Vq zs).map (fun kv=>kD kv.1)=(zs.map (·.1)).map D.str:=by
   unfold Vq;rw [Gm,Gm];rfl
  rw [e];exact k
open L3
def Zmk (XF Pt:Addr) (pos:Pos) (qn:Str):Sp3:=fun ds M K=>∃ (k:Nat) (d e:D) (ns:List Str) (Ls:List (List Pr)),ds=[d,e]/\M[k]?=some (.tab Pt pos qn)/\lsOf M d=some (ns.map .str)/\lsOf M e=some (Ls.map tbD)/\(ns.Nodup/\ns.length<=8/\(∀ z∈ns,z.length<=8)/\∀ L∈Ls,TbOk L) /\
 ∀ (M':Mem) (f:Nat) (zs:List Fq),M<+:M'->M.length<=f->FamAt XF M' f zs->Tld zs (ns.zip Ls)->K (.cell f) M'
theorem Jai (T:Txt mg) (Za6:Mkr P w K mg base "Code" C 4 ["self", "table"] (Pb C Pt lamP lamQ)) (Nh:Mkr P w K mg base "Family" Zj 1 ["self"] (spOf ⟨C,K⟩ (Zmj Zj))) (Zph:Met P w K mg base Zj "add" 1 ["self", "name", "code", "mark"] (spOf ⟨C,K⟩ (Zsd Zj))) {f:Addr} (F:Fun K "_law_family" "_law_family" Dy f fd):FnOk P w K mg base CX0 6 f fd ["_law_names_here", "_law_tables_here"] (spOf ⟨C,K⟩ (Zmk Zj Pt lamP lamQ)):=by
 refine L3.Fun.ok3 F Jan (fun ds M K3 h=>?_) (fun cdv A outer s H E hr=>?_)
 ·obtain ⟨k0,d,e,ns,Ls,rfl,_⟩:=h;rfl
 ·have SC:=Jan;have hu:=hr.units;have hu1:=Wz hr;have Zhz:Room 5 _:=hr.mono nofun;have Zhy:Room 2 _:=hr.mono nofun;have Zr0:Room 1 _:=hr.mono nofun;refine ⟨_,_,(Zc (Zt (i:=2) SC.nd rfl (Or.inl rfl) (Zq6 Nh Zhy rfl))
 (Zc (Yx PassesOwn.never rfl (Zlz rfl T.b_zip (Za (pv 0) (Za (pv 1) Ze))) (Vw (n:=2) rfl (Z9 (Zq (i:=3) SC.nd rfl (Or.inl rfl)) (Z9 (Zq (i:=4) SC.nd rfl (Or.inl rfl)) Wl)) (by rfl))
 (Zc (Zt (i:=5) SC.nd rfl (Or.inl rfl) (X2 Ze))
 (Zc (Xm (PW.pt (Zgp (Z8 (Zed (K':=K) rfl hu) (pv 4) (Yr Ze) (Yo _)) (Zbp (Z8 (No (K':=K) rfl hu) (Z2 Wb (Zw (W8 (K:=K) rfl) (by rfl) T.b_len Dm (Za (pv 3) Ze)) Zi) Zi (Yo _)))))
 (Zk (Zt (i:=5) SC.nd rfl (Or.inl rfl) (Yk (Wd (K':=K) rfl) (Yk (Wd (K':=K) rfl) (pv 4) Zi (fun _ _=>rfl)) Zi (fun _ _=>rfl))))
 Z7)
 (Zk (Xw (Zem (pv 2) Zph Zr0 (Za (pv 3) (Za (Zt2 Za6 Zhz rfl (Za (Ys (Zci (K:=K) rfl) (by rfl) T.b_list PyProof.Rows.boot_list (Za (pv 4) Ze)) Ze)) (Za (pv 5) Ze)))))))))
 (Zk (Z5 (pv 2))))),fun _=>(Zz (Yd (Ztr Zs) (s_g 2))
 (Zz (Vb (s_iz (Zf (Zg 0) (Zf (Zg 1) Zs))) (Rc (Xl (s_g 3) (Xl (s_g 4) Re)))
 (Zz (Yd (Sk Zs) (s_g 5))
 (Zz (Vt (Zqp (X1 (s_op s_ne (Zg 4) (Vr Zs))) (X1 (s_op s_eq (s_op Zjv (s_cb Sl (Zf (Zg 3) Zs)) Z3) Z3)))
 (Yd (s_op s_ix (s_op s_ix (Zg 4) Z3) Z3) (s_g 5))
 Wa)
 (Vu (Pf (Zg 2) (Zf (Zg 3) (Zf (Zjw (Zf (s_cb Zlp (Zf (Zg 4) Zs)) Zs)) (Zf (Zg 5) Zs))))))))
 (We (Zg 2)))),fun ds M Kk hM hD h=>?_⟩
  obtain ⟨k0,d,e,ns,Ls,rfl,h⟩:=h;obtain ⟨h0,hd,he,⟨nd,l8,ln8,okL⟩,k⟩:=h;refine ⟨M.length,rfl,Wc,by rw [Jc]; rfl,rfl,?_⟩;rw [Uj];have F0:FamAt Zj (M++[MO.ins Zj (famD M.length)]++[MO.dct [],MO.dct []]) M.length []:=by
   rw [Gd];exists Zh6 (k:=0),Zh6 (k:=1),Zh6 (k:=2),Bd
  have p0:M<+:M++[MO.ins Zj (famD M.length)]++[MO.dct [],MO.dct []]:=by rw [Gd];exists ·
  generalize M++[MO.ins Zj (famD M.length)]++[MO.dct [],MO.dct []]=M0 at F0 p0;refine g_nx ?_;dsimp only;exists ·,·,_,_,_,·,(Y1 (Xy p0 hd)).2.1,(Y1 (Xy p0 he)).2.1,fun i ρ M'=>∃ (zs:List Fq) (v3 v4 v5:Option D),ρ=[some d,some e,some (.cell M.length),v3,v4,v5]/\M<+:M'/\FamAt Zj M' M.length zs/\zs.length=i/\∀ (j:Nat) (z:Fq) (q:Nt),zs[j]?=some z->(ns.zip Ls)[j]?=some q->z.1=q.1/\z.2.1.Perm q.2,fun _ _ _ _ h=>?_,⟨[],_,_,_,rfl,p0,F0,rfl,fun i z q e=>nomatch e⟩,?_,?_
  ·obtain ⟨_,_,_,_,_,p,_⟩:=h;exists (Y1 (Xy p hd)).2.1,(Y1 (Xy p he)).2.1
  ·rintro i x ρ M1 hi ⟨a,b,ea,eb,rfl⟩ ⟨zs,v3,v4,v5,rfl,p1,F1,lz,tz⟩;obtain ⟨ha,rfl⟩:=Z6 ea;obtain ⟨hb,rfl⟩:=Z6 eb;have hz:i<(ns.zip Ls).length:=by rw [G6]; lia
   have okl:=okL _ (Jo hb);have nw:ns[i]∉zs.map (·.1):=fun hm=>by
    obtain ⟨z,hz',e⟩:=Ji.mp hm;obtain ⟨j,hj,rfl⟩:=Js hz';have hj':j<(ns.zip Ls).length:=by lia
    have:=(tz j _ _ (Ja hj) (Ja hj')).1;rw [G0] at this;have e2:ns[j]'(by rw [G6] at hj'; lia)=ns[i]:=this.symm.trans e;have:=(Bl nd).mp e2;lia
   have l1:=ln8 _ (Jo ha);exists ·,rfl,_,·,_,·,rfl,?_;exists Ge _,?_;refine g_nx ?_;dsimp only;refine Zqb (fun ρ' M'=>∃ mk:List Int,ρ'=[some d,some e,some (.cell M.length),some (.str ns[i]),some (tbD Ls[i]),some (wD mk)]/\M1=M') (fun Kn hn=>?_) ?_
   ·exists ·,Ge _,Na Zuh (a:=Ls[i]) (b:=[]) rfl rfl ⟨_,rfl,?_⟩
    by_cases en:Ls[i]=[]
    ·rw [Di en];exact iteF (hn _ _ ⟨[],rfl,rfl⟩)
    rw [Dj en];refine iteT ?_;exists ·,Zm (show ns[i].length<=100000 by lia),_,·,rfl,(show (0:Int)<2 by decide),.inl ⟨_,rfl,_,rfl,ite2 (fun h=>?_) (fun h=>hn _ _ ⟨[],rfl,rfl⟩)⟩;have h0:0<Ls[i].length:=Gr.mpr en;exists ·,_,_,·,rfl,Zjb (j:=0) rfl h0,_,_,·,rfl,rfl,hn _ _ ⟨Ls[i][0].2,rfl,rfl⟩
   rintro _ _ ⟨mk,rfl,rfl⟩;exists ·,⟨M.length,_,rfl,F1.h0,rfl⟩,·,·,_,·,rfl,k0,_,Ls[i],Z4 p1 h0,rfl,rfl,okl,fun S pm ri=>?_;exists ·,M.length,ns[i],S,mk,zs,rfl,F1,by rw [lz]; have:i<ns.length:=ha; lia,nw,?_;have lt1:=X0 F1.h2;refine .inl ⟨zs++[(ns[i],S,mk)],_,_,_,rfl,?_,F1.put (Zre F1.nd nw),by rw [Jc,lz]; rfl,fun j z q e1 e2=>?_⟩
   ·unfold Zdt;exact Wv (Wv p1 (by lia)) (by lia)
   ·by_cases hj:j<zs.length
    ·rw [Jr hj] at e1;exact tz j z q e1 e2
    ·rw [J8 (by lia)] at e1;have hj2:j=i:=by
      have:=(Jh.mp e1).1;simp at this;lia
     subst hj2;rw [lz,Nat.sub_self] at e1;cases e1;rw [Ja hz,G0] at e2;cases e2;exists rfl,pm
  ·rintro ρ M1 ⟨zs,v3,v4,v5,rfl,p1,F1,lz,tz⟩;have lz:zs.length=min (ns.map D.str).length (Ls.map tbD).length:=lz;rw [Jb,Jb] at lz;exists ·,.inl (k M1 _ zs p1 (Je _) F1 ⟨by rw [G6]; exact lz,tz⟩)
open L3
def Zd3:Sp3:=fun ds M K=>∃ (d e:D) (ns:List Str) (Ls:List (List Pr)),ds=[d,e]/\lsOf M d=some (ns.map .str)/\lsOf M e=some (Ls.map tbD)/\(ns.Nodup/\ns.length<=8/\∀ L∈Ls,TbOk L) /\
 ∀ (M':Mem) (b:Nat),M<+:M'->M.length<=b->Ts M' b (ns.zip Ls)->K (.cell b) M'
theorem Jcs (T:Txt mg) {f:Addr} (F:Fun K "_law_books" "_law_books" Jau f fd):FnOk P w K mg base CX0 1 f fd ["_law_names_here", "_law_tables_here"] (spOf ⟨C,K⟩ Zd3):=by
 refine L3.Fun.ok3 F Jak (fun ds M K3 h=>?_) (fun cdv A outer s H E hr=>?_)
 ·obtain ⟨d,e,ns,Ls,rfl,_⟩:=h;rfl
 ·have SC:=Jak;have hu:=hr.units;have hu1:=Wz hr;refine ⟨_,_,(Zc (Zt (i:=2) SC.nd rfl (Or.inl rfl) Sw)
 (Zc (Yx PassesOwn.never rfl (Zlz rfl T.b_zip (Za (pv 0) (Za (pv 1) Ze))) (Vw (n:=2) rfl (Z9 (Zq (i:=3) SC.nd rfl (Or.inl rfl)) (Z9 (Zq (i:=4) SC.nd rfl (Or.inl rfl)) Wl)) (by rfl))
 (Zc (Tx hu1 (pv 2) (pv 3) Sw rfl)
 (Zk (Yx PassesOwn.never rfl (Yc (pv 4)) (Vw (n:=2) rfl (Z9 (Zq (i:=5) SC.nd rfl (Or.inl rfl)) (Z9 (Zq (i:=6) SC.nd rfl (Or.inl rfl)) Wl)) (by rfl))
 (Zk (Tx hu1 (Vd hu1 (pv 2) (pv 3) (fun _ _=>rfl)) (pv 5) (pv 6) rfl))))))
 (Zk (Z5 (pv 2))))),fun _=>(Zz (Yd Pi (s_g 2))
 (Zz (Vb (s_iz (Zf (Zg 0) (Zf (Zg 1) Zs))) (Rc (Xl (s_g 3) (Xl (s_g 4) Re)))
 (Zz (Nz (Zg 2) (Zg 3) Pi)
 (Vb (s_il (Zg 4)) (Rc (Xl (s_g 5) (Xl (s_g 6) Re)))
 (Nz (Tf (Zg 2) (Zg 3)) (Zg 5) (Zg 6)))))
 (We (Zg 2)))),fun ds M Kk hM hD h=>?_⟩
  obtain ⟨d,e,ns,Ls,rfl,h⟩:=h;obtain ⟨hd,he,⟨nd,l8,okL⟩,k⟩:=h;have p0:M<+:M++[MO.dct []]:=⟨_,rfl⟩;refine g_nx ?_;dsimp only;exists ·,·,_,_,_,·,(Y1 (Xy p0 hd)).2.1,(Y1 (Xy p0 he)).2.1,fun i ρ M'=>∃ (cs:List Nat) (v3 v4 v5 v6:Option D),ρ=[some d,some e,some (.cell M.length),v3,v4,v5,v6]/\M<+:M'/\cs.length=i/\(∀ c∈cs,M.length<c)/\M'[M.length]?=some (.dct (List.zipWith (fun (q:Nt) (c:Nat)=>((.inr q.1:Key),D.cell c)) ((ns.zip Ls).take i) cs))/\∀ (j c:Nat) (q:Nt),cs[j]?=some c->(ns.zip Ls)[j]?=some q->M'[c]?=some (.dct (q.2.map prK)),fun _ _ _ _ h=>?_,⟨[],_,_,_,_,rfl,p0,rfl,(fun _ h=>nomatch h),Wc,fun j c q e=>nomatch e⟩,?_,?_
  ·obtain ⟨_,_,_,_,_,_,p,_⟩:=h;exists (Y1 (Xy p hd)).2.1,(Y1 (Xy p he)).2.1
  ·rintro i x ρ M1 hi ⟨a,b,ea,eb,rfl⟩ ⟨cs,v3,v4,v5,v6,rfl,p1,lc,lt,ho,hin⟩;obtain ⟨ha,rfl⟩:=Z6 ea;obtain ⟨hb,rfl⟩:=Z6 eb;have hz:i<(ns.zip Ls).length:=by rw [G6]; lia
   have okl:=okL _ (Jo hb);have lLi:=okl.2.1;have lM:=X0 ho;have et:=Jf hz;rw [G0] at et;exists ·,rfl,_,·,_,·,rfl,?_;have ho1:(M1++[MO.dct []])[M.length]?=_:=Xg ho;have lzp:(List.zipWith (fun (q:Nt) (c:Nat)=>((.inr q.1:Key),D.cell c)) ((ns.zip Ls).take i) cs).length=i:=by rw [List.length_zipWith,Jn]; lia
   refine ⟨_,rfl,_,rfl,_,.inl ⟨M.length,_,_,rfl,ho1,rfl,by rw [lzp]; exact Be (by lia:i<=8) nofun,rfl⟩,?_⟩;have en:putD (List.zipWith (fun (q:Nt) (c:Nat)=>((.inr q.1:Key),D.cell c)) ((ns.zip Ls).take i) cs) (.inr ns[i]) (.cell M1.length)=List.zipWith (fun (q:Nt) (c:Nat)=>((.inr q.1:Key),D.cell c)) ((ns.zip Ls).take (i+1)) (cs++[M1.length]):=by
    rw [Ss fun kv hkv e=>?_]
    ·rw [et,List.zipWith_append (by rw [Jn]; lia)];rfl
    ·obtain ⟨j,hj,rfl⟩:=Js hkv;rw [List.getElem_zipWith] at e;have hj2:j<i:=by rw [lzp] at hj; exact hj
     have e2:=Sum.inr.inj e;rw [Fm,G0] at e2;have:=(Bl nd).mp e2;lia
   rw [en];have pz:M<+:(M1++[MO.dct []]).set M.length (.dct (List.zipWith (fun (q:Nt) (c:Nat)=>((.inr q.1:Key),D.cell c)) ((ns.zip Ls).take (i+1)) (cs++[M1.length]))):=Wv (p1.trans ⟨_,rfl⟩) (Je _);have hoz:((M1++[MO.dct []]).set M.length (.dct (List.zipWith (fun (q:Nt) (c:Nat)=>((.inr q.1:Key),D.cell c)) ((ns.zip Ls).take (i+1)) (cs++[M1.length]))))[M.length]?=_:=Jy (by rw [Jc]; lia);have hcz:((M1++[MO.dct []]).set M.length (.dct (List.zipWith (fun (q:Nt) (c:Nat)=>((.inr q.1:Key),D.cell c)) ((ns.zip Ls).take (i+1)) (cs++[M1.length]))))[M1.length]?=some (.dct []):=Yv Wc (by lia);have hinz:∀ (j c:Nat) (q:Nt),cs[j]?=some c->(ns.zip Ls)[j]?=some q->((M1++[MO.dct []]).set M.length (.dct (List.zipWith (fun (q:Nt) (c:Nat)=>((.inr q.1:Key),D.cell c)) ((ns.zip Ls).take (i+1)) (cs++[M1.length]))))[c]?=some (.dct (q.2.map prK))/\c≠M1.length:=fun j c q e1 e2=>by
    have h1:=hin j c q e1 e2;have h2:=lt c (Gu e1);have h3:=X0 h1;exact ⟨Yv (Xg h1) (by lia),by lia⟩
   generalize (M1++[MO.dct []]).set M.length (.dct (List.zipWith (fun (q:Nt) (c:Nat)=>((.inr q.1:Key),D.cell c)) ((ns.zip Ls).take (i+1)) (cs++[M1.length])))=M2 at pz hoz hcz hinz;have l2:=X0 hcz;have s0:M2.set M1.length (.dct [])=M2:=List.ext_getElem? fun j=>by
    by_cases hj:M1.length=j
    ·subst hj;rw [Jy l2,hcz]
    ·rw [Gk hj]
   exists ·,·,fun j ρ M'=>∃ v5 v6:Option D,ρ=[some d,some e,some (.cell M.length),some (.str ns[i]),some (tbD Ls[i]),v5,v6]/\M2.set M1.length (.dct ((Ls[i].take j).map prK))=M',fun _ _ _ _ _=>rfl,⟨_,_,rfl,s0⟩,?_,?_
   ·rintro j x ρ _ hj hx ⟨v5,v6,rfl,rfl⟩;obtain ⟨hj',rfl⟩:=Z6 hx;have ho2:(M2.set M1.length (.dct ((Ls[i].take j).map prK)))[M.length]?=_:=Yv hoz (by lia);have hc2:(M2.set M1.length (.dct ((Ls[i].take j).map prK)))[M1.length]?=_:=Jy l2;have ndz:(((ns.zip Ls).take (i+1)).map (·.1)).Nodup:=by
     rw [Jx,Gf,Bt];intro a b ha2 hb2 hab e;rw [Jn] at ha2 hb2;rw [Fm,Fm,G0,G0] at e;have:=(Bl nd).mp e;lia
    have ev:=Zff (cs:=cs++[M1.length]) ndz (i:=i) (q:=(ns[i],Ls[i])) (c:=M1.length) (by rw [List.getElem?_take_of_lt (by lia),Ja hz,G0]) (by rw [J8 (by lia),lc,Nat.sub_self]; rfl);exists ·,rfl,_,·,_,·,rfl,?_;exists ·,·,·,_,.inl ⟨_,_,by simp only [Us,ho2],rfl,ev.symm⟩,·,_,.inl ⟨M1.length,_,_,rfl,hc2,rfl,?_,rfl⟩,.inl ⟨_,_,rfl,?_⟩
    ·rw [Jb,Jn];exact Be (by lia:min j Ls[i].length<=100) nofun
    rw [List.set_set]
    congr 2
    rw [Ss fun kv hkv e=>?_,Jf hj',Jg]
    ·rfl
    ·obtain ⟨p,hp,rfl⟩:=Ji.mp hkv;obtain ⟨a,ha2,rfl⟩:=Js hp;rw [Jn] at ha2;rw [Fm] at e;exact (okl.1.get (i:=a) (j:=j) (by lia) hj' (by lia)).1 (Sum.inl.inj e)
   ·rintro ρ _ ⟨v5,v6,rfl,rfl⟩;have eL:Ls[i].take (Ls[i].map pD).length=Ls[i]:=by rw [Jb,Jt]
    rw [show List.take _ Ls[i]=Ls[i] from eL];refine .inl ⟨cs++[M1.length],_,_,_,_,rfl,Wv pz (by lia),by rw [Jc,lc]; rfl,fun c hc=>?_,Yv hoz (by lia),fun j c q e1 e2=>?_⟩
    ·rcases Gc.mp hc with z | z
     ·exact lt c z
     ·rw [Jj.mp z]; exact lM
    ·by_cases hj:j<cs.length
     ·rw [Jr hj] at e1;obtain ⟨g1,g2⟩:=hinz j c q e1 e2;exact Yv g1 g2
     ·rw [J8 (by lia)] at e1;have hj2:j=i:=by
       have:=(Jh.mp e1).1;simp at this;lia
      subst hj2;rw [lc,Nat.sub_self] at e1;cases e1;rw [Ja hz,G0] at e2;cases e2;exact Jy l2
  ·rintro ρ M1 ⟨cs,v3,v4,v5,v6,rfl,p1,lc,lt,ho,hin⟩;have lc:cs.length=min (ns.map D.str).length (Ls.map tbD).length:=lc;rw [Jb,Jb] at lc;have en:(ns.zip Ls).take (zIt d e (ns.map D.str) (Ls.map tbD)).n=ns.zip Ls:=Gj (by show _<=min _ _; rw [G6,Jb,Jb]; exact Je _);rw [en] at ho;exists ·,.inl (k M1 _ p1 (Je _) ⟨cs,by rw [G6]; exact lc,ho,fun j c q e1 e2=>hin j c q e1 e2⟩)
open L3
theorem Nk (fr:Free L):Zcu (L.map prK) L:=by
 induction L with
 | nil=>exact ⟨(fun _ h=>nomatch h),fun _ _=>rfl⟩
 | cons q r ih =>
  unfold Free at fr;rw [Fw] at fr;obtain ⟨i1,i2⟩:=ih fr.2;exists fun p hp=>?_,fun s hs=>?_
  ·unfold valD;rw [Jl,G5];rcases Jq.mp hp with rfl | h
   ·rw [show decide ((prK p).1=Sum.inl p.1)=true from Di rfl];rfl
   ·rw [show decide ((prK q).1=Sum.inl p.1)=false from Dj fun e=>(fr.1 p h).1 (Sum.inl.inj e)];exact i1 p h
  ·unfold valD;rw [Jl,G5,show decide ((prK q).1=Sum.inl s)=false from Dj fun e=>hs q Jm (Sum.inl.inj e)];exact i2 s fun p hp=>hs p (Jk _ hp)
def Zsc:Sp3:=fun ds M K=>∃ (c1 c2:Nat) (d:D) (L1 L2:List Pr) (ts:List Int),ds=[.cell c1,.cell c2,d]/\M[c1]?=some (.dct (L1.map prK))/\M[c2]?=some (.dct (L2.map prK))/\lsOf M d=some (ts.map .int)/\(TbOk L1/\TbOk L2/\ts.length<=20000) /\
 (∀ (ns us:List Int) (M':Mem) (t:Nat),GoOk L1 L2 ts ns us->M<+:M'->M.length<=t->M'[t]?=some (.lst (us.map .int))->K (.tup [.lst (ns.map .int),.cell t]) M')/\((∀ ns us,¬ GoOk L1 L2 ts ns us)->∀ M',M<+:M'->K .non M')
theorem Jcp (T:Txt mg) {f:Addr} (F:Fun K "_law_go" "_law_go" Jbw f fd):FnOk P w K mg base CX0 1 f fd ["_law_one", "_law_other", "_law_text"] (spOf ⟨C,K⟩ Zsc):=by
 refine L3.Fun.ok3 F Jby (fun ds M K3 h=>?_) (fun cdv A outer s H E hr=>?_)
 ·obtain ⟨c1,c2,d,L1,L2,ts,rfl,_⟩:=h;rfl
 ·have SC:=Jby
  have hu:=hr.units;have hu1:=Wz hr;refine ⟨_,_,(Zc (Zt (i:=3) SC.nd rfl (Or.inr rfl) (Yr Ze))
 (Zc (Yx PassesOwn.never rfl (Yc (pv 2)) (Zq (i:=4) SC.nd rfl (Or.inl rfl))
 (Zc (Xm (Vp (N6 hu1 (pv 4) (pv 0)))
 (Zk (Z5 Qv))
 Z7)
 (Zk (Zt (i:=3) SC.nd rfl (Or.inr rfl) (Z2 (Xo (K':=K) rfl) (pv 3) (Ys (Zci (K:=K) rfl) (by rfl) T.b_list PyProof.Rows.boot_list (Za (Vd hu1 (pv 0) (pv 4) (fun _ _=>rfl)) Ze)))))))
 (Zc (Zt (i:=5) SC.nd rfl (Or.inr rfl) Zdd)
 (Zc (Znm (Yx PassesOwn.never rfl (Znr (pv 1)) (Zq (i:=4) SC.nd rfl (Or.inl rfl))
 (Zk (Tx hu1 (pv 5) (Vd hu1 (pv 1) (pv 4) (fun _ _=>rfl)) (pv 4) rfl))))
 (Zc (Zt (i:=6) SC.nd rfl (Or.inl rfl) (Yr Ze))
 (Zc (Zt (i:=7) SC.nd rfl (Or.inr rfl) Zi)
 (Zc (Zdb PassesOwn.never (Z8 Zj8 (pv 7) (Zw (W8 (K:=K) rfl) (by rfl) T.b_len Dm (Za (pv 3) Ze)) (Yo _))
 (Zc (U1 (i:=8) SC.nd rfl rfl (T:=["_law_end"]) (cs:=[3,7,5]) rfl (CScope.ok (by kernel_rfl)) (N5 rfl T.b_range (Za (Z2 (Xo (K':=K) rfl) (pv 7) Zi) (Za (Z2 (Xo (K':=K) rfl) (Zw (Zay rfl) (by rfl) T.b_min PyProof.Rows.boot_min (Za (Z2 (Xo (K':=K) rfl) (pv 7) Zi) (Za (Zw (W8 (K:=K) rfl) (by rfl) T.b_len Dm (Za (pv 3) Ze)) Ze))) Zi) Ze))) (fun _ _ _ _=>(Zq (i:=0) (Xx (by kernel_rfl)) rfl (Or.inl rfl) (Or.inr rfl))) (fun _ _ _ _=>(U0 (Vp (Zl1 hu1 (Ys (Ziz (K:=K) rfl) (by rfl) T.b_tuple PyProof.Rows.boot_tuple (Za (Yh (Zbe (K':=K) rfl) (pv 1) (Yf (pv 2)) (Yf (pv 0))) Ze)) (pv 3))))) (fun _ _ _ _=>(pv 0)) (Y6 nofun))
 (Zc (Xm (Z8 (No (K':=K) rfl hu) (pv 8) (Yr Ze) (Yo _))
 (Zk (Z5 Qv))
 Z7)
 (Zc (Xw (Ty PySem.F.plainAttrs_list PySem.F.slot_list_append PySem.F.type_list_append Wp (pv 6) (Za (Vd hu1 (pv 5) (Ys (Ziz (K:=K) rfl) (by rfl) T.b_tuple PyProof.Rows.boot_tuple (Za (Yh (Zbe (K':=K) rfl) (pv 3) (Yf (pv 7)) (Yf (Yk (Wd (K':=K) rfl) (pv 8) Zi (fun _ _=>rfl)))) Ze)) (fun _ _=>rfl)) Ze)))
 (Zk (Zt (i:=7) SC.nd rfl (Or.inr rfl) (Yk (Wd (K':=K) rfl) (pv 8) Zi (fun _ _=>rfl))))))))
 (Zk (Z5 (X2 (Za (pv 3) (Za (pv 6) Ze)))))))))))),fun _=>(Zz (Yd (Vr Zs) (s_g 3))
 (Zz (Vb (s_il (Zg 2)) (s_g 4)
 (Zz (Vt (s_b (Zc5 (Zg 4) (Zg 0)))
 (We Zm7)
 Wa)
 (Yd (s_op Vc (Zg 3) (s_cb Zlp (Zf (Tf (Zg 0) (Zg 4)) Zs))) (s_g 3))))
 (Zz (Yd Znb (s_g 5))
 (Zz (Zm2 (Vb (Ztv (Zg 1)) (s_g 4)
 (Nz (Zg 5) (Tf (Zg 1) (Zg 4)) (Zg 4))))
 (Zz (Yd (Qs Zs) (s_g 6))
 (Zz (Yd Z3 (s_g 7))
 (Zz (Zm1 (X1 (s_op s_lt (Zg 7) (s_cb Sl (Zf (Zg 3) Zs))))
 (Zz (Yd (Vo (Zql (Zf (s_op Vc (Zg 7) Z3) (Zf (s_op Vc (s_cb Zqi (Zf (s_op Vc (Zg 7) Z3) (Zf (s_cb Sl (Zf (Zg 3) Zs)) Zs))) Z3) Zs))) (s_g 0) (s_b (Zqo (s_cb Zbi (Zf (s_sl Zbj (Zg 1) (Uu (Zg 2)) (Uu (Zg 0))) Zs)) (Zg 3))) (Zg 0)) (s_g 8))
 (Zz (Vt (X1 (s_op s_eq (Zg 8) (Vr Zs)))
 (We Zm7)
 Wa)
 (Zz (Vu (Uk (Zg 6) (Zf (Tf (Zg 5) (s_cb Zbi (Zf (s_sl Zbj (Zg 3) (Uu (Zg 7)) (Uu (s_op s_ix (Zg 8) Z3))) Zs))) Zs)))
 (Yd (s_op s_ix (Zg 8) Z3) (s_g 7))))))
 (We (Sk (Zf (Zg 3) (Zf (Zg 6) Zs))))))))))),fun ds M Kk hM hD h=>?_⟩
  obtain ⟨c1,c2,d,L1,L2,ts,rfl,h⟩:=h;obtain ⟨h1,h2,hd,⟨ok1,ok2,lts⟩,kY,kN⟩:=h;have lc1:=X0 h1;have lc2:=X0 h2;have wm:=Nk ok1.1;have wm2:=Nk ok2.1;have dc1:Us M (.cell c1)=some (L1.map prK):=by simp only [Us,h1]
  have l2:=ok2.2.1;exists Ge _,?_;exists ·,_,(Y1 hd).2.1,fun i ρ M'=>∃ (U:List Pr) (v4:Option D),ρ=[some (.cell c1),some (.cell c2),some d,some (.lst ((Ye U).map .int)),v4,none,none,none,none]/\M=M'/\W1 L1 U ts i,fun _ _ _ _ h=>(by obtain ⟨_,_,_,rfl,_⟩:=h; exact (Y1 hd).2.1),⟨[],_,rfl,rfl,(fun _ h=>nomatch h),rfl⟩,?_,?_
  ·rintro i x ρ _ hi hx ⟨U,v4,rfl,rfl,tx⟩;obtain ⟨hi',rfl⟩:=Z6 hx;exists ·,·,_,.inl ⟨_,_,dc1,rfl,rfl⟩,·,?_
   by_cases hp:∃ p∈L1,p.1=ts[i]
   ·obtain ⟨p,hp,e⟩:=hp;have ev:valD (L1.map prK) (.inl ts[i])=some (wD p.2):=by rw [<- e]; exact wm.1 p hp
    rw [ev];refine iteF ?_;have lr:=Tw ok1.2 tx.1;have lU:U.length=i:=by
     have:=congrArg List.length tx.2;unfold Yu at this;rw [Jb,Jn] at this;lia
    have lw:=(ok1.2.2 p hp).2;exists ·,·,·,_,.inl ⟨_,_,dc1,rfl,ev.symm⟩,_,·,rfl,_,·,rfl,?_,?_
    ·rw [Jb,Jb];exact Zm (by lia)
    rw [<- Jg];have er:Ye (U++[p])=Ye U++p.2:=by rw [Rf]; simp [Ye]
    refine .inl ⟨U++[p],some (.int ts[i]),?_,rfl,tx.snoc hi' hp e⟩;rw [er];rfl
   ·have ev:valD (L1.map prK) (.inl ts[i])=none:=wm.2 _ fun p hp' e=>hp ⟨p,hp',e⟩;rw [ev];refine iteT (.inl (kN (fun ns us=>Zh5 hi' ?_ ns us) M (Jd _)));rw [Rm hi'];exact fun p hp' e=>hp ⟨p,hp',e⟩
  rintro ρ _ ⟨U,v4,rfl,rfl,tx⟩;have tx:W1 L1 U ts ts.length:=by
   have:W1 L1 U ts (ts.map D.int).length:=tx;rwa [Jb] at this
  have lr:=Tw ok1.2 tx.1;have lU:U.length=ts.length:=by
   have:=congrArg List.length tx.2;unfold Yu at this;rw [Jb,Jt] at this;exact this
  generalize hns:Ye U=ns at lr;have lns:ns.length<=80000:=by lia
  have h2':∀ m:MO,(M++[m])[c2]?=some (.dct (L2.map prK)):=fun m=>Xg h2;exists c2,_,h2' _,·,c2,·,h2' _,fun o vs=>?_;have sc:∀ m:MO,(M++[m]).set c2 (.dfK o vs (L2.map prK))=M.set c2 (.dfK o vs (L2.map prK))++[m]:=fun m=>Fp _ _ lc2;have lM:(M.set c2 (.dfK o vs (L2.map prK))).length=M.length:=Go;have ga:∀ m:MO,(M.set c2 (.dfK o vs (L2.map prK))++[m])[M.length]?=some m:=fun m=>by rw [<- lM]; exact Wc
  have gs:∀ m m':MO,(M.set c2 (.dfK o vs (L2.map prK))++[m]).set M.length m'=M.set c2 (.dfK o vs (L2.map prK))++[m']:=fun m m'=>by rw [<- lM]; exact Uj
  have gc:∀ m:MO,(M.set c2 (.dfK o vs (L2.map prK))++[m])[c2]?=some (.dfK o vs (L2.map prK)):=fun m=>Xg (Jy lc2);rw [sc];exists fun i ρ M'=>∃ v4:Option D,ρ=[some (.cell c1),some (.cell c2),some d,some (.lst (ns.map .int)),v4,some (.cell M.length),none,none,none]/\M.set c2 (.dfK o vs (L2.map prK))++[.dcT (Xs (L2.take i))]=M',?_,⟨_,rfl,rfl⟩,?_,?_
  ·rintro i ρ _ _ ⟨v4,_,rfl⟩;exact gc _
  ·rintro i x ρ _ hi ⟨kv,ekv,rfl⟩ ⟨v4,rfl,rfl⟩;have hi':i<L2.length:=by
    have:i<(L2.map prK).length:=hi;rw [Jb] at this;exact this
   rw [J9,Ja hi'] at ekv;cases ekv;have dc2:Us (M.set c2 (.dfK o vs (L2.map prK))++[.dcT (Xs (L2.take i))]) (.cell c2)=some (L2.map prK):=by simp only [Us,gc]
   have ev:=wm2.1 _ (Jo hi');have hk':tkOf (wD L2[i].2)=some (wk L2[i].2):=Ps _;exists ·,·,·,·,_,.inl ⟨_,_,dc2,rfl,ev.symm⟩,_,.inr ⟨M.length,_,_,rfl,ga _,hk',?_,rfl⟩,.inl ⟨_,rfl,?_⟩
   ·unfold Xs;rw [Jb,Jn];exact Be (by lia:min i L2.length<=1000) nofun
   rw [gs]
   congr 3
   rw [Ss fun kv hkv e=>?_]
   ·unfold Xs;rw [Jf hi',Jg];rfl
   ·unfold Xs at hkv;obtain ⟨p,hp,rfl⟩:=Ji.mp hkv;obtain ⟨j,hj,rfl⟩:=Js hp;rw [Jn] at hj;rw [Fm] at e;have:=ok2.1.get (i:=j) (j:=i) (by lia) hi' (by lia);exact this.2.1 (by rw [S0 e]; exact Jd _)
  rintro ρ _ ⟨v4,rfl,rfl⟩;have eL:L2.take (kIt c2 o vs (L2.map prK)).n=L2:=by show L2.take (L2.map prK).length=L2; rw [Jb,Jt]
  rw [eL];refine ⟨o,vs,_,gc _,?_⟩;have back:(M.set c2 (.dfK o vs (L2.map prK))++[MO.dcT (Xs L2)]).set c2 (MO.dct (L2.map prK))=M++[MO.dcT (Xs L2)]:=by
   rw [Fp _ _ (by rw [lM]; exact lc2),List.set_set]
   congr 1
   exact List.ext_getElem? fun j=>by
    by_cases hj:c2=j
    ·subst hj;rw [Jy lc2,h2]
    ·rw [Gk hj]
  rw [back];have hb0:(M++[.dcT (Xs L2)])[M.length]?=some (.dcT (Xs L2)):=Wc;have p0:M<+:M++[.dcT (Xs L2)]:=⟨_,rfl⟩;generalize M++[MO.dcT (Xs L2)]=M1 at hb0 p0;have lb:=X0 hb0;exists Ge _,?_;exists fun m ρ M'=>∃ (R:List En) (a:Nat) (v8:Option D),ρ=[some (.cell c1),some (.cell c2),some d,some (.lst (ns.map .int)),v4,some (.cell M.length),some (.cell M1.length),some (.int a),v8]/\M1++[.lst ((osOf R).map oD)]=M'/\Went L2 ns R a/\Zbd R/\m=ns.length-a,⟨_,[],0,_,rfl,rfl,.nil,(fun _ h=>nomatch h),rfl⟩,?_;rintro m ρ _ ⟨R,a,v8,rfl,rfl,we,cln,rfl⟩;have lnm:(ns.map D.int).length=ns.length:=Jb _;have ha:=we.le
  have lR:=we.len;have loR:((osOf R).map oD).length=R.length:=by unfold osOf; rw [List.length_map,List.length_map]
  have hbk:(M1++[.lst ((osOf R).map oD)])[M.length]?=some (.dcT (Xs L2)):=Xg hb0;have dcT:Zig (M1++[.lst ((osOf R).map oD)]) (.cell M.length)=some (Xs L2):=by simp only [Zig,hbk]
  have pN:M<+:M1++[.lst ((osOf R).map oD)]:=p0.trans ⟨_,rfl⟩;exists ·,·,·,_,·,rfl,·,ite2 (fun h=>?_) (fun h=>?_)
  ·have ha':a<ns.length:=by have:=of_decide_eq_true h; rw [lnm] at this; lia
   obtain ⟨up,eup,hup⟩:∃ up:Nat,(if ((ns.map D.int).length:Int)<(a:Int)+4 then ((ns.map D.int).length:Int) else (a:Int)+4)+1=((a+1+up:Nat):Int)/\up<=4/\a+up<=ns.length/\(up=4\/a+up=ns.length):=by
    rw [lnm]
    by_cases z:(ns.length:Int)<(a:Int)+4
    ·exists ns.length-a,by rw [Dh z]; lia,by lia,by lia,.inr (by lia)
    ·exists 4,by rw [Dg z]; lia,by lia,by lia,.inl rfl
   have hw:∀ l,l<up->cut (ns.map D.int) (some (a:Int)) (some ((a+1+l:Nat):Int))=((ns.drop a).take (l+1)).map D.int:=fun l hl=>by
    rw [Ziq,show ((a+1+l:Nat):Int)=(a:Int)+((l+1:Nat):Int) by lia,Zky (by lia)]
   exists ·,·,·,·,_,·,?_;dsimp only [uC,uNil,add3];rw [eup];exists _,·,⟨by lia,by lia,by lia,by lia⟩,?_,fun j ys M'=>M1++[.lst ((osOf R).map oD)]=M'/\ys=(((List.range j).filter fun l=>L2.any fun p=>decide (p.2=(ns.drop a).take (l+1))).map fun l=>((a+1+l:Nat):Int)).map .int,fun _ _ _ _ _=>trivial,⟨rfl,rfl⟩,?_,?_
   ·show (((a+1+up:Nat):Int)-((a:Int)+1)).toNat<=sizeLine;exact Zm (by lia)
   ·rintro j x ys _ hj rfl ⟨rfl,rfl⟩;have hj:j<up:=by
     have:j<(((a+1+up:Nat):Int)-((a:Int)+1)).toNat:=hj;lia
    have ei:(a:Int)+1+(j:Int)=((a+1+j:Nat):Int):=by lia
    rw [ei];exists ·,·,·,·,·,·,?_;rw [hw j hj];have hk':tkOf (wD ((ns.drop a).take (j+1)))=some (wk ((ns.drop a).take (j+1))):=Ps _;exists _,·,rfl,·,_,.inr ⟨_,_,dcT,hk',rfl⟩,·,?_
    by_cases hp:∃ p∈L2,p.2=(ns.drop a).take (j+1)
    ·obtain ⟨p,hp,e⟩:=hp;have ev:valD (Xs L2) (wk ((ns.drop a).take (j+1)))=some (.int p.1):=by rw [<- e]; exact Zd7 ok2.1 hp
     rw [ev];refine iteT ⟨_,rfl,rfl,?_⟩;rw [List.range_succ,Gx,Bu,Fh,Dh (Bo.mpr ⟨p,hp,Di e⟩),Jg,Jg];rfl
    ·have ev:valD (Xs L2) (wk ((ns.drop a).take (j+1)))=none:=Ziy fun p hp' e=>hp ⟨p,hp',e⟩;rw [ev];refine iteF ⟨rfl,?_⟩;rw [List.range_succ,Gx,Bu,Fh,Dg (fun z=>by obtain ⟨p,hp',e⟩:=Bo.mp z; exact hp ⟨p,hp',of_decide_eq_true e⟩),J0]
   rintro ys _ ⟨rfl,rfl⟩;have eup2:(Zge ((a:Int)+1) (((a+1+up:Nat):Int)-((a:Int)+1)).toNat).n=up:=by show (((a+1+up:Nat):Int)-((a:Int)+1)).toNat=up; lia
   rw [eup2];have hes:∀ l∈(List.range up).filter fun l=>L2.any fun p=>decide (p.2=(ns.drop a).take (l+1)),l<up/\∃ p∈L2,p.2=(ns.drop a).take (l+1):=fun l hl=>by
    obtain ⟨h1,h2⟩:=G4.mp hl;obtain ⟨p,hp,e⟩:=Bo.mp h2;exists Fx.mp h1,p,hp,of_decide_eq_true e
   have hno:(List.range up).filter (fun l=>L2.any fun p=>decide (p.2=(ns.drop a).take (l+1)))=[]->∀ p∈L2,¬ p.2<+:ns.drop a:=fun e p hp hpre=>by
    have:=ok2.2.2 p hp;have hl0:=Gr.mpr this.1;have hle:=hpre.length_le;rw [Gh] at hle;have hm:p.2.length-1∈(List.range up).filter fun l=>L2.any fun p=>decide (p.2=(ns.drop a).take (l+1)):=by
     refine G4.mpr ⟨Fx.mpr (by lia),Bo.mpr ⟨p,hp,Di ?_⟩⟩;rw [show p.2.length-1+1=p.2.length by lia];exact List.prefix_iff_eq_take.mp hpre
    rw [e] at hm;exact nomatch hm
   generalize (List.range up).filter (fun l=>L2.any fun p=>decide (p.2=(ns.drop a).take (l+1)))=es at hes hno;refine g_nx ?_
   (try dsimp only)
   exists ·,Ge _,eqN ⟨_,rfl,?_⟩;cases es with
   | nil =>
    rw [show decide ((([]:List Nat).map fun l=>((a+1+l:Nat):Int))=[])=true from rfl];refine iteT (.inl (kN (fun ns' us=>?_) _ pN));have:=Zh3 (S1:=L1) ok1.1 ok2.1 ok2.2 tx (R:=R) (pl:=a) (by rw [hns]; exact ⟨we,cln,.inr ⟨ha',hno rfl⟩⟩) (by rw [hns]; exact ha') ns' us;exact this
   | cons l es =>
    obtain ⟨hl,q,hq,eq⟩:=hes l Jm;have lq:q.2.length=l+1:=by rw [eq,Jn,Gh]; lia
    have hk':tkOf (wD ((ns.drop a).take (l+1)))=some (wk ((ns.drop a).take (l+1))):=Ps _;have ev:valD (Xs L2) (wk ((ns.drop a).take (l+1)))=some (.int q.1):=by rw [<- eq]; exact Zd7 ok2.1 hq
    rw [show decide (((l::es).map fun l=>((a+1+l:Nat):Int))=[])=false from rfl];refine iteF ?_;have a0:_root_.L2.atI (((l::es).map fun l=>((a+1+l:Nat):Int)).map D.int) 0=some (.int ((a+1+l:Nat):Int)):=Zsr (j:=0) rfl rfl;exists ·,Vy Ve,·,·,·,·,·,_,_,·,rfl,a0,·,·,?_;rw [hw l hl];exists _,·,rfl,_,.inr ⟨_,_,dcT,hk',ev.symm⟩,M1.length,_,·,rfl,Wc,?_,?_
    ·rw [loR];exact Ga (by lia:R.length<100000) (Zm (Je _))
    rw [Uj];exists ·,_,_,·,rfl,a0,?_;have pre:q.2<+:ns.drop a:=by rw [eq]; exact Fs _ _
    exists ns.length-(a+q.2.length),by lia,.inl ⟨R++[(a,some q.1)],a+q.2.length,some (D.lst (List.map D.int (List.map (fun l=>((a+1+l:Nat):Int)) (l::es)))),?_,?_,.word we hq pre (ok2.2.2 q hq).1,Q7 cln (fun z=>nomatch z),rfl⟩
    ·rw [lq];show [_,_,_,_,_,_,_,some (D.int _),_]=[_,_,_,_,_,_,_,some (D.int _),_];rw [show a+1+l=a+(l+1) by lia]
    ·unfold osOf;rw [Jg,Jg];rfl
  ·have ha':ns.length<=a:=by
    have:¬ (a:Int)<((ns.map D.int).length:Int):=fun z=>h (Di z);rw [lnm] at this;lia
   obtain ⟨us,go,eo⟩:=Zh4 (S2:=L2) tx (R:=R) (pl:=a) (by rw [hns]; exact ⟨we,cln,.inl ha'⟩) (by rw [hns]; exact ha');rw [hns] at go;rw [eo];exists ·,·,(show 2<=sizeLine by decide),.inl (kY ns us _ M1.length go (p0.trans ⟨_,rfl⟩) (by lia) Wc)
open L3
theorem Jbf (T:Txt mg) {Z1 Zr:Addr} (Qc:Cau K mg "NoSign" Z1) (Uh:Cau K mg "NoReading" Zr) (mss:W.mroIn K Z1 (.ref Z1)=some true) (mrs:W.mroIn K Zr (.ref Z1)=some false) (mrr:W.mroIn K Zr (.ref Zr)=some true) (msr:W.mroIn K Z1 (.ref Zr)=some false) (Zcr:CalE P w K mg base "write" 3 ["code", "text"] (Nu ⟨C,K⟩ (Zik Z1))) (Zjg:CalE P w K mg base "read" 3 ["code", "row"] (Nu ⟨C,K⟩ (Zmh Zr))) {f:Addr} (F:Fun K "gone" "gone" Qt f fd):FnOk P w K mg base CX0 4 f fd ["one", "other", "text"] (spOf ⟨C,K⟩ Zsb):=by
 refine L3.Fun.ok3 F Jbx (fun ds M K3 h=>?_) (fun cdv A outer s H E hr=>?_)
 ·obtain ⟨S1,S2,d,ts,rfl,_⟩:=h;rfl
 ·have SC:=Jbx;have hu:=hr.units;have hu1:=Wz hr;have Zkn:Room 3 _:=hr.mono nofun;have Zol:Room 3 _:=hr.mono nofun;exists _,_,(Zk (Znl rfl rfl (fun _ _ _ _ hx=>(Znj (i:=3) SC.nd rfl (Or.inl rfl) (Zbt Zcr Zkn rfl hx (Za (pv 0) (Za (pv 2) Ze))))) (fun _ _ _ _ hx=>(Zgs (Zns (Zdf (Zq3 (pv 3)) (Zdf (Zbt Zjg Zol rfl hx (Za (pv 1) (Za (pv 3) Ze))) (Zq7 Ze)))))) (Zrz Qc rfl Uh rfl (fun _=>(Zk (Z5 Qv))) Zl7))),fun _=>(Zqh (fun _ _ _ he hk hx=>(Yd (Zbk he hk hx (Zf (Zg 0) (Zf (Zg 2) Zs))) (s_g 3))) (fun _ _ _ he hk hx=>(We (Vr (Zf (Zg 3) (Zf (Zbk he hk hx (Zf (Zg 1) (Zf (Zg 3) Zs))) Zs))))) (Zqm (We Zm7) Zlq)),fun ds M Kk hM hD h=>?_
  obtain ⟨S1,S2,d,ts,rfl,h⟩:=h;obtain ⟨hd,⟨⟨f1,i1⟩,⟨f2,i2⟩,lt⟩,kY,kN⟩:=h;exists ·,·,S1,d,ts,rfl,hd,⟨i1,lt⟩,fun U tx=>?_,fun i U hi tx hl=>?_
  ·have lr:=Tw i1 tx.1;have lU:U.length=ts.length:=by
    have:=congrArg List.length tx.2;unfold Yu at this;rw [Jb,Jt] at this;exact this
   exists ·,·,·,S2,_,Ye U,rfl,Ve,⟨i2,by lia⟩,fun R pl en hp=>?_,fun R pl en hp=>?_
   ·obtain ⟨us,go,eo⟩:=Zh4 tx en hp;rw [eo];have:=kY _ _ go;exists (show 2<=sizeLine by decide),.inl ?_;rw [Jc];exact this
   ·exists false,true,mrs,mrr,?_;exact iteT (.inl (kN (fun ns us=>Zh3 f1 f2 i2 tx en hp ns us) _ ⟨_,rfl⟩))
  ·exists true,false,mss,msr,?_;exact iteT (.inl (kN (fun ns us=>Zh5 hi hl ns us) _ (Jd _)))
open L3
theorem Ds (T:Txt mg) {f:Addr} (F:Fun K "unlike_legs" "unlike_legs" Xe f fd):FnOk P w K mg base CX0 1 f fd ["names"] (spOf ⟨C,K⟩ Zil):=by
 refine L3.Fun.ok3 F Jae (fun ds M K3 h=>?_) (fun cdv A outer s H E hr=>?_)
 ·obtain ⟨d,nm,rfl,_⟩:=h;rfl
 ·have SC:=Jae;have hu:=hr.units;have hu1:=Wz hr;refine ⟨_,_,(Zc (Zt (i:=1) SC.nd rfl (Or.inl rfl) (Yr Ze))
 (Zc (Yx PassesOwn.never rfl (Yc (pv 0)) (Zq (i:=2) SC.nd rfl (Or.inr rfl))
 (Zk (Xw (Ty PySem.F.plainAttrs_list PySem.F.slot_list_extend PySem.F.type_list_extend N9 (pv 1) (Za (Xi (T:=["second"]) (cs:=[2]) rfl (CScope.ok (by kernel_rfl)) (Yc (pv 0)) (fun _ _ _ _=>(Zq (i:=0) (Xx (by kernel_rfl)) rfl (Or.inl rfl) (Or.inr rfl))) (fun _ _ _ _=>(U0 (Z8 (Zed (K':=K) rfl hu) (pv 0) (pv 1) (Yo _)))) (fun _ _ _ _=>(X2 (Za (pv 1) (Za (pv 0) Ze)))) (Y6 nofun)) Ze)))))
 (Zk (Z5 (pv 1))))),fun _=>(Zz (Yd (Qs Zs) (s_g 1))
 (Zz (Vb (s_il (Zg 0)) (s_g 2)
 (Vu (Zc4 (Zg 1) (Zf (Vo (s_il (Zg 0)) (s_g 0) (X1 (s_op s_ne (Zg 0) (Zg 1))) (Sk (Zf (Zg 1) (Zf (Zg 0) Zs)))) Zs))))
 (We (Zg 1)))),fun ds M Kk hM hD h=>?_⟩
  obtain ⟨d,nm,rfl,h⟩:=h;obtain ⟨e1,hl,k⟩:=h;have lm:(nm.map D.str).length=nm.length:=Jb _;have e2:∀ {xs:List D},lsOf (M++[MO.lst xs]) d=some (nm.map .str):=fun {xs}=>Zhg e1;have inner:∀ a:Str,((nm.filter fun b=>decide (b≠a)).map fun b=>(a,b)).length<=nm.length:=fun a=>by rw [Jb]; exact Fj _ _
  have outer:∀ i,((nm.take i).flatMap fun a=>(nm.filter fun b=>decide (b≠a)).map fun b=>(a,b)).length<=i*nm.length:=fun i=>by
   induction i with
   | zero=>simp
   | succ i ih =>
    by_cases hi:i<nm.length
    ·rw [Jf hi,Gy,Jc,Nat.succ_mul];refine Nat.add_le_add ih ?_;rw [Ba,Bv,J0];exact inner _
    ·rw [Gj (by lia)];rw [Gj (by lia)] at ih;exact Jv ih (Bp _ (by lia))
  exists Ge _,·,_,(Y1 e2).2.1,fun i ρ M'=>∃ v2:Option D,ρ=[some d,some (.cell M.length),v2]/\M++[.lst (((nm.take i).flatMap fun a=>(nm.filter fun b=>decide (b≠a)).map fun b=>(a,b)).map wyD)]=M',fun i ρ M' _ h=>?_,⟨_,rfl,rfl⟩,?_,?_
  ·obtain ⟨_,_,rfl⟩:=h;exact (Y1 e2).2.1
  ·rintro i x ρ _ hi hx ⟨v2,rfl,rfl⟩;obtain ⟨hi',rfl⟩:=Z6 hx;have lo:=outer i;exists ·,Vy Ve,·,_,(Y1 e2).2.1,?_,fun j ys M'=>M++[MO.lst (((nm.take i).flatMap fun a=>(nm.filter fun b=>decide (b≠a)).map fun b=>(a,b)).map wyD)]=M'/\ys=(((nm.take j).filter fun b=>decide (b≠nm[i])).map fun b=>(nm[i],b)).map wyD,fun _ _ _ _ h=>h.1 ▸ (Y1 e2).2.1,⟨rfl,rfl⟩,?_,?_
   ·show (nm.map D.str).length<=sizeLine;rw [lm]; exact Zm (by lia)
   ·rintro j x ys _ hj hx2 ⟨rfl,rfl⟩;obtain ⟨hj',rfl⟩:=Z6 hx2;exists ·,·,.inl ⟨_,rfl,_,rfl,ite2 (fun hz=>?_) (fun hz=>?_)⟩
    ·exists ·,·,(show 2<=sizeLine by decide),rfl,?_;have hz:¬ nm[j]=nm[i]:=by simpa using hz
     rw [Jf hj',Gx,Jg,Jg,Bz (by simpa using hz)];rfl
    ·exists rfl,?_;have hz:nm[j]=nm[i]:=by simpa using hz
     rw [Jf hj',Gx,B0 (by simpa using hz),Fh,J0]
   ·rintro ys _ ⟨rfl,rfl⟩;have lin:=inner nm[i];rw [show List.take (nm.map D.str).length nm=nm by rw [lm,Jt]];exists M.length,_,_,·,rfl,Bb,rfl,?_,.inl ⟨_,rfl,?_⟩
    ·rw [Jb,Jb];have h2:i*nm.length<=100*100:=Ff (by lia) hl;exact Zm (by lia)
    ·rw [List.set_append_right _ _ (Je _),Nat.sub_self,Jf hi',Gy,Jg,Ba,Bv,J0];rfl
  ·rintro ρ _ ⟨v2,rfl,rfl⟩;exists ·,.inl ?_;rw [show List.take (nm.map D.str).length nm=nm by rw [lm,Jt]];exact k
theorem D8 (T:Txt mg) (Zco:Met P w K mg base Zj "names" 1 ["self"] (spOf ⟨C,K⟩ (Zim Zj))) (Zea:Met P w K mg base Zj "code" 1 ["self", "name"] (spOf ⟨C,K⟩ (Zml Zj))) (Vj:Cal P w K mg base "unlike_legs" 1 ["names"] (spOf ⟨C,K⟩ Zil)) (Zjh:Cal P w K mg base "gone" 4 ["one", "other", "text"] (spOf ⟨C,K⟩ Zsb)) {f:Addr} (F:Fun K "led_from" "led_from" Wh f fd):FnOk P w K mg base CX0 5 f fd ["family", "found", "enough"] (spOf ⟨C,K⟩ (dLed Zj)):=by
 refine L3.Fun.ok3 F Jbb (fun ds M K3 h=>?_) (fun cdv A outer s H E hr=>?_)
 ·obtain ⟨f,d,n,zs,es,fs,rfl,_⟩:=h;rfl
 ·have SC:=Jbb;have hu:=hr.units;have hu1:=Wz hr;have Zko:Room 1 _:=hr.mono nofun;have Zhw:Room 1 _:=hr.mono nofun;have Qi:Room 1 _:=hr.mono nofun;have Zom:Room 4 _:=hr.mono nofun;refine ⟨_,_,(Zc (Zt (i:=3) SC.nd rfl (Or.inl rfl) (Yr Ze))
 (Zc (Yx PassesOwn.never rfl (Yc (Zy Vj Qi rfl (Za (Zq5 (pv 0) Zco Zko) Ze))) (Zq (i:=4) SC.nd rfl (Or.inl rfl))
 (Zk (Yx PassesOwn.never rfl (Yc (pv 1)) (Vw (n:=2) rfl (Z9 (Zq (i:=5) SC.nd rfl (Or.inl rfl)) (Z9 (Zq (i:=6) SC.nd rfl (Or.inl rfl)) Wl)) (by rfl))
 (Zc (Zt (i:=7) SC.nd rfl (Or.inl rfl) (Zy Zjh Zom rfl (Za (Zem (pv 0) Zea Zhw (Za (Yk (Wd (K':=K) rfl) (pv 4) Zi (fun _ _=>rfl)) Ze)) (Za (Zem (pv 0) Zea Zhw (Za (Yk (Wd (K':=K) rfl) (pv 4) Zi (fun _ _=>rfl)) Ze)) (Za (pv 6) Ze)))))
 (Zc (Xm (Vp (Rh (pv 7)))
 (Zk (Xw (Ty PySem.F.plainAttrs_list PySem.F.slot_list_append PySem.F.type_list_append Wp (pv 3) (Za (X2 (Za (Z2 (Xo (K':=K) rfl) (Yr (Za (pv 4) Ze)) (pv 5)) (Za (Yk (Wd (K':=K) rfl) (pv 7) Zi (fun _ _=>rfl)) Ze))) Ze))))
 Z7)
 (Zk (Xm (Z8 (No (K':=K) rfl hu) (Zw (W8 (K:=K) rfl) (by rfl) T.b_len Dm (Za (pv 3) Ze)) (pv 2) (Yo _))
 (Zk (Z5 (pv 3)))
 Z7)))))))
 (Zk (Z5 (pv 3))))),fun _=>(Zz (Yd (Qs Zs) (s_g 3))
 (Zz (Vb (s_il (Yj (Zf (Pf (Zg 0) Zs) Zs))) (s_g 4)
 (Vb (s_il (Zg 1)) (Rc (Xl (s_g 5) (Xl (s_g 6) Re)))
 (Zz (Yd (Yj (Zf (Pf (Zg 0) (Zf (s_op s_ix (Zg 4) Z3) Zs)) (Zf (Pf (Zg 0) (Zf (s_op s_ix (Zg 4) Z3) Zs)) (Zf (Zg 6) Zs)))) (s_g 7))
 (Zz (Vt (s_b (Zf9 (Zg 7)))
 (Vu (Uk (Zg 3) (Zf (Sk (Zf (s_op Zqq (Vr (Zf (Zg 4) Zs)) (Zg 5)) (Zf (s_op s_ix (Zg 7) Z3) Zs))) Zs)))
 Wa)
 (Vt (X1 (s_op s_eq (s_cb Sl (Zf (Zg 3) Zs)) (Zg 2)))
 (We (Zg 3))
 Wa)))))
 (We (Zg 3)))),fun ds M Kk hM hD h=>?_⟩
  obtain ⟨f,d,n,zs,es,fs,rfl,h⟩:=h;obtain ⟨Fa,hd,⟨⟨zl,zo⟩,n0,n1,el,fl,mi,fb⟩,k⟩:=h;have Fa0:FamAt Zj (M++[MO.lst []]) f zs:=Fa.pre (Gb _ _);refine ⟨Ge _,_,rfl,⟨f,_,rfl,Fa0.h0,rfl⟩,f,zs,rfl,Fa0,?_⟩;refine ⟨_,zs.map (·.1),rfl,Ve,by rw [Jb]; lia,?_⟩;generalize hlg:Yt (zs.map (·.1))=lgs;have lgm:∀ lg∈lgs,lg.1∈zs.map (·.1)/\lg.2∈zs.map (·.1):=fun lg h=>by
   rw [<- hlg] at h;obtain ⟨a,ha,h⟩:=Gi.mp h;obtain ⟨b,hb,rfl⟩:=Ji.mp h;exists ha,(G4.mp hb).1
  have full:ledF zs fs=ledL zs fs lgs:=by unfold ledF; rw [hlg]
  have lt0:(M++[MO.lst []]++[MO.lst ((zs.map (·.1)).map D.str)]).length=M.length+2:=by rw [Jc,Jc]; rfl
  rw [lt0];generalize hN:M++[MO.lst []]++[MO.lst ((zs.map (·.1)).map D.str)]++[MO.lst (lgs.map wyD)]=N;have n3:M.length+3=N.length:=by rw [<- hN,Jc,lt0]; rfl
  have nt:N[M.length]?=some (.lst []):=by
   rw [<- hN,Gd,Gd,J8 (Je _),Nat.sub_self]; rfl
  have nl:N[M.length+2]?=some (.lst (lgs.map wyD)):=by
   rw [<- hN,<- lt0]; exact Bb
  have pN:M<+:N:=by rw [<- hN,Gd,Gd]; exact Gb _ _
  have s0:Zjf n M lgs [] N:=⟨[],pN,by lia,nl,nt,fun _ h=>(nomatch h),.nil _ _,n0⟩;have lt:∀ {acc M'},Zjf n M lgs acc M'->Xt M' (.cell (M.length+2))=some (lgs.map wyD):=fun {acc M'} h=>by
   obtain ⟨ps,_,_,h3,_⟩:=h;exact (Y1 (Yp h3)).2.1
  exists _,lt s0,?_;exists fun i ρ M'=>∃ v4 v5 v6 v7:Option D,Zjf n M lgs (ledL zs fs (lgs.take i)) M'/\ρ=[some (.cell f),some d,some (.int n),some (.cell M.length),v4,v5,v6,v7],fun i ρ M' _ h=>?_,⟨_,_,_,_,s0,rfl⟩,?_,?_
  ·obtain ⟨_,_,_,_,h,_⟩:=h;exact lt h
  ·rintro i x ρ M1 hi hx ⟨v4,v5,v6,v7,s1,rfl⟩;obtain ⟨hi',rfl⟩:=Z6 hx;obtain ⟨g1,g2⟩:=lgm _ (Jo hi');obtain ⟨z1,m1,e1⟩:=Ji.mp g1;obtain ⟨z2,m2,e2⟩:=Ji.mp g2;have c1:Y7 zs lgs[i].1=z1.2.1:=by rw [<- e1]; exact T9 Fa.nd m1
   have c2:Y7 zs lgs[i].2=z2.2.1:=by rw [<- e2]; exact T9 Fa.nd m2
   obtain ⟨fr1,fi1⟩:=zo z1 m1;obtain ⟨fr2,fi2⟩:=zo z2 m2;have ld:∀ {acc M'},Zjf n M lgs acc M'->Xt M' d=some es:=fun {acc M'} h=>by
    obtain ⟨ps,p,_⟩:=h;exact (Y1 (Xy p hd)).2.1
   exists ·,_,ld s1,?_;exists fun j ρ M'=>∃ v5 v6 v7:Option D,Zjf n M lgs (ledL zs fs (lgs.take i)++(fs.take j).filterMap (led1 zs lgs[i])) M'/\ρ=[some (.cell f),some d,some (.int n),some (.cell M.length),some (wyD lgs[i]),v5,v6,v7],fun j ρ M' _ h=>?_,⟨_,_,_,by rw [Bf,List.filterMap_nil,J0]; exact s1,rfl⟩,?_,?_
   ·obtain ⟨_,_,_,h,_⟩:=h;exact ld h
   ·rintro j x ρ M2 hj hx2 ⟨v5,v6,v7,s2,rfl⟩;have hj:j<es.length:=hj;have hx2:es[j]?=some x:=hx2;have hj':j<fs.length:=by lia
    obtain ⟨a0,b0,rfl,la,lb⟩:=mi j x fs[j] hx2 (Ja hj');obtain ⟨fb1,fb2⟩:=fb fs[j] (Jo hj');obtain ⟨ps,q1,q2,q3,q4,q5,q6,q7⟩:=s2;have F2:FamAt Zj M2 f zs:=Fa.pre q1;have la2:=Xy q1 la;have lb2:=Xy q1 lb;have ful:ledF zs fs=(ledL zs fs (lgs.take i)++(fs.take j).filterMap (led1 zs lgs[i]))++((fs.drop j).filterMap (led1 zs lgs[i])++ledL zs fs (lgs.drop (i+1))):=by
     rw [full,Zoa hi']
     conv=>lhs; rw [<- G9 j fs,List.filterMap_append]
     simp only [Gd,G9]
    generalize hacc:ledL zs fs (lgs.take i)++(fs.take j).filterMap (led1 zs lgs[i])=acc at q6 q7 ful;have accS:ledL zs fs (lgs.take i)++(fs.take (j+1)).filterMap (led1 zs lgs[i])=acc++(led1 zs lgs[i] fs[j]).toList:=by rw [Zh8 _ hj',<- Gd,hacc]
    exists ·,rfl,_,·,_,·,rfl,?_;exists ·,⟨f,_,rfl,F2.h0,rfl⟩,·,_,_,·,rfl,rfl,f,lgs[i].2,zs,rfl,F2,g2,fun y2 hy2 ey2=>?_;exists ·,⟨f,_,rfl,F2.h0,rfl⟩,·,_,_,·,rfl,rfl,f,lgs[i].1,zs,rfl,F2,g1,fun y1 hy1 ey1=>?_;have cy2:Y7 zs lgs[i].2=y2.2.1:=by rw [<- ey2]; exact T9 Fa.nd hy2
    have cy1:Y7 zs lgs[i].1=y1.2.1:=by rw [<- ey1]; exact T9 Fa.nd hy1
    have l2:=X0 q3;exists ·,y2.2.1,y1.2.1,b0,fs[j].2,rfl,lb2,⟨zo y2 hy2,zo y1 hy1,fb1⟩,fun ns us go=>?_,fun hno M3 p3=>?_
    ·have e1:=Pq (zs:=zs) (lg:=lgs[i]) (m:=fs[j]) (u:=us) (by rw [cy2,cy1]; exact Nc (zo y2 hy2).1 (zo y1 hy1).1 (zo y1 hy1).2 go);rw [e1] at accS;generalize hM3:M2++[MO.lst (ns.map .int)]++[MO.lst (us.map .int)]=M3;have l3:M3.length=M2.length+2:=by rw [<- hM3,Jc,Jc]; rfl
     have p3:M2<+:M3:=by rw [<- hM3,Gd]; exact Gb _ _
     have t3:M3[M2.length+1]?=some (.lst (us.map .int)):=by
      rw [<- hM3,show M2.length+1=(M2++[MO.lst (ns.map D.int)]).length by rw [Jc]; rfl];exact Bb
     exists ·,·,iteT ?_;exists ·,Vy (Yp (Z4 p3 q4)),·,(show 1<=sizeLine by decide),·,_,·,Xy p3 la2,?_,·,_,_,·,rfl,rfl,(show 2<=sizeLine by decide),M.length,_,·,rfl,Xg (Z4 p3 q4),?_,?_
     ·rw [Jb]; exact Zm (by show 1+_<=_; lia)
     ·rw [Jb,q6.ln]; exact Be (by lia:acc.length<=1000) nofun
     generalize hM4:M3++[MO.lst ([wyD lgs[i]]++fs[j].1.map wyD)]=M4;have l4:M4.length=M3.length+1:=by rw [<- hM4,Jc]; rfl
     have p4:M3<+:M4:=by rw [<- hM4]; exact Gb _ _
     have w4:M4[M3.length]?=some (.lst ((lgs[i]::fs[j].1).map wyD)):=by rw [<- hM4]; exact Bb
     have p24:=p3.trans p4;have q4':M4[M.length]?=some (.lst (ps.map pcD)):=Z4 p24 q4;have mt:MdAt (M.length+3) M4 (ps++[(M3.length,M2.length+1)]) (acc++[(lgs[i]::fs[j].1,us)]):=(q6.keep (t:=0) p24).snoc (fun p hp=>by have:=q5 p hp; lia) (by lia) (by lia) (by lia) w4 (Z4 p4 t3);have s4:M<+:M4.set M.length (.lst ((ps++[(M3.length,M2.length+1)]).map pcD)):=Wv (q1.trans p24) (Je _);have mt2:=mt.put (t:=M.length) (x:=.lst ((ps++[(M3.length,M2.length+1)]).map pcD)) (by lia);have c4:(M4.set M.length (MO.lst ((ps++[(M3.length,M2.length+1)]).map pcD)))[M.length]?=some (.lst ((ps++[(M3.length,M2.length+1)]).map pcD)):=Jy (by lia)
     rw [show ps.map pcD++[D.tup [D.cell M3.length,D.cell (M2.length+1)]]=(ps++[(M3.length,M2.length+1)]).map pcD by rw [Jg]; rfl];exists ·,?_;dsimp only [uNil];refine Zaf (Yp c4) ?_;exists ·,.inl ⟨_,rfl,_,rfl,ite2 (fun hz=>?_) (fun hz=>?_)⟩
     ·have hz:=of_decide_eq_true hz;have hn:(acc++[(lgs[i]::fs[j].1,us)]).length=n:=by rw [<- mt.ln]; rw [Jb] at hz; lia
      exists ·,.inl (k _ M.length _ s4 (Je _) c4 (fun p hp=>?_) ?_)
      ·have:=mt.ge p hp; lia
      ·have fj:(fs.drop j).filterMap (led1 zs lgs[i])=[(lgs[i]::fs[j].1,us)]++(fs.drop (j+1)).filterMap (led1 zs lgs[i]):=by rw [G2 hj',Fb,e1]; rfl
       rw [fj,<- Gd,Gd,<- Gd] at ful;rw [Zjp (acc:=acc++[(lgs[i]::fs[j].1,us)]) (rest:=(fs.drop (j+1)).filterMap (led1 zs lgs[i])++ledL zs fs (lgs.drop (i+1))) (by rw [ful]; simp only [Gd]) hn];exact mt2.weak (by lia)
     ·have hz:=of_decide_eq_false (Ft _ ▸ hz);refine .inl ⟨_,_,_,?_,rfl⟩;rw [accS];exists _,s4,by rw [Go]; lia,Yv (Z4 p24 q3) (by lia),c4,fun p hp=>?_,mt2,?_
      ·rw [Go];rcases Gc.mp hp with z | z
       ·have:=q5 p z; lia
       ·rw [Jj.mp z]; show M3.length<_/\M2.length+1<_; lia
      ·have:(acc++[(lgs[i]::fs[j].1,us)]).length=((ps++[(M3.length,M2.length+1)]).map pcD).length:=by rw [Jb,mt.ln]
       rw [Jc] at this;show (acc++[(lgs[i]::fs[j].1,us)]).length<n;rw [Jc];show acc.length+1<n;have h1:[(lgs[i]::fs[j].1,us)].length=1:=rfl;lia
    ·have e1:=Zob (zs:=zs) (lg:=lgs[i]) (m:=fs[j]) (by rw [cy2,cy1]; exact Zi0 hno);rw [e1] at accS;exists ·,·,iteF ?_;exists ·,?_;dsimp only [uNil];refine Zaf (Yp (Z4 p3 q4)) ?_;exists ·,.inl ⟨_,rfl,_,rfl,?_⟩;rw [Dj (by rw [Jb,q6.ln]; lia)];refine iteF (.inl ⟨_,_,_,?_,rfl⟩);rw [accS];have lp:=p3.length_le;exists ps,q1.trans p3,by lia,Z4 p3 q3,Z4 p3 q4,fun p hp=>?_,?_,?_
     ·have:=q5 p hp; lia
     ·show MdAt _ _ _ (acc++[]);rw [J0];exact q6.keep (t:=0) p3
     ·show (acc++[]).length<n;rw [J0];exact q7
   ·rintro ρ M2 ⟨v5,v6,v7,s2,rfl⟩;rw [show (fs.take es.length)=fs by rw [el,Jt]] at s2;rw [<- Zhk hi'] at s2;exact .inl ⟨_,_,_,_,s2,rfl⟩
  ·rintro ρ M1 ⟨v4,v5,v6,v7,s1,rfl⟩;rw [show lgs.take (lgs.map wyD).length=lgs by rw [Jb,Jt]] at s1;obtain ⟨ps,q1,q2,q3,q4,q5,q6,q7⟩:=s1;exists ·,.inl (k M1 M.length ps q1 (Je _) q4 (fun p hp=>?_) ?_)
   ·have:=q6.ge p hp; lia
   ·rw [full,Gj (by lia)];exact q6.weak (by lia)
theorem Jbu (T:Txt mg) {Zx:Addr} (Sa:Rx P w K mg base "TooMany" Zx 1 ["self", "most"] (spX1 Zx "most")) (Sc:Cal P w K mg base "led_from" 5 ["family", "found", "enough"] (spOf ⟨C,K⟩ (dLed Zj))) {f:Addr} (F:Fun K "mendings" "mendings" Wg f fd):FnOk P w K mg base (CXE P w) 6 f fd ["family", "text", "legs", "most"] (Nu ⟨C,K⟩ (Zmi Zj Zx)):=by
 refine L3.Fun.okX3 F Jct (fun ds M K3 KX h=>?_) (fun cdv A outer s H E hr=>?_)
 ·obtain ⟨f,d,L,most,zs,ts,rfl,_⟩:=h;rfl
 ·have SC:=Jct;have hu:=hr.units;have hu1:=Wz hr;have Ze1:Room 2 _:=hr.mono nofun;have Zb7:Room 5 _:=hr.mono nofun;refine ⟨_,_,(Zc (Zt (i:=4) SC.nd rfl (Or.inl rfl) (Yr Ze))
 (Zc (Zt (i:=5) SC.nd rfl (Or.inl rfl) (Yr (Za (X2 (Za (Yr Ze) (Za (pv 1) Ze))) Ze)))
 (Zc (Yx PassesOwn.leaving rfl (Xa rfl T.b_range (Za (pv 2) Ze)) (Zq (i:=6) SC.nd rfl (Or.inl rfl))
 (Zc (Zt (i:=5) SC.nd rfl (Or.inl rfl) (Zy Sc Zb7 rfl (Za (pv 0) (Za (pv 5) (Za (Z2 (Xo (K':=K) rfl) (Z2 Zl2 (pv 3) (Zw (W8 (K:=K) rfl) (by rfl) T.b_len Dm (Za (pv 4) Ze))) Zi) Ze)))))
 (Zc (Xw (Ty PySem.F.plainAttrs_list PySem.F.slot_list_extend PySem.F.type_list_extend N9 (pv 4) (Za (pv 5) Ze)))
 (Zk (Xm (Z8 Zg7 (Zw (W8 (K:=K) rfl) (by rfl) T.b_len Dm (Za (pv 4) Ze)) (pv 3) (Yo _))
 (Zk (Pl Sa Ze1 rfl (Za (pv 3) Ze)))
 Z7)))))
 (Zk (Z5 (pv 4)))))),fun _ _ he hk hx=>(Zz (Yd (Qs Zs) (s_g 4))
 (Zz (Yd (Vr (Zf (Sk (Zf (Vr Zs) (Zf (Zg 1) Zs))) Zs)) (s_g 5))
 (Zz (Vb (Zjx (Zf (Zg 2) Zs)) (s_g 6)
 (Zz (Yd (Yj (Zf (Zg 0) (Zf (Zg 5) (Zf (s_op Vc (s_op Ztp (Zg 3) (s_cb Sl (Zf (Zg 4) Zs))) Z3) Zs)))) (s_g 5))
 (Zz (Vu (Zc4 (Zg 4) (Zf (Zg 5) Zs)))
 (Vt (X1 (s_op s_gt (s_cb Sl (Zf (Zg 4) Zs)) (Zg 3)))
 (Zju he hk hx (Zf (Zg 3) Zs))
 Wa))))
 (We (Zg 4))))),fun ds M Kk KX hM hD h=>?_⟩
  obtain ⟨f,d,L,most,zs,ts,rfl,h⟩:=h;obtain ⟨Fa,hd,⟨ok,hL,hm,ht⟩,kY,kN⟩:=h;exists Ge _,Ge _,·,(show 2<=sizeLine by decide),(show 1<=sizeLine by decide),?_;exists ·,·,⟨by lia,by lia⟩,fun i ρ M'=>∃ (d5:D) (es:List D) (ps:List (Nat×Nat)) (v6:Option D),M<+:M'/\M.length<M'.length/\M'[M.length]?=some (.lst (ps.map pcD))/\MdAt (M.length+1) M' ps (Xj zs ts i)/\(∀ p∈ps,p.1<M'.length/\p.2<M'.length)/\(Xj zs ts i).length<=most/\lsOf M' d5=some es/\es.length=(lev zs ts i).length/\(∀ (j:Nat) (e:D) (m:Md),es[j]?=some e->(lev zs ts i)[j]?=some m->MdIs M' e m)/\ρ=[some (.cell f),some d,some (.int L),some (.int most),some (.cell M.length),some d5,v6],fun _ _ _ _ _=>trivial,?_,?_,?_
  ·exists _,[.tup [.lst [],d]],[],_,Gb _ _,by rw [Jc]; exact Fd _,Bb,.nil _ _,fun _ h=>(nomatch h),Ge _,rfl,rfl,fun j e m h1 h2=>?_,rfl;cases j with
   | zero=>cases h1; cases h2;exists _,·,rfl,Zhg hd
   | succ j=>cases h1
  ·rintro i x ρ M1 hi rfl ⟨d5,es,ps,v6,q1,q2,q3,q4,q5,q6,q7,q8,q9,rfl⟩;have hi:i<((L:Nat):Int).toNat:=hi;have hi:i<L:=by lia
   have lps:=q4.ln;have F1:FamAt Zj M1 f zs:=Fa.pre q1;exists ·,·,·,·,?_;dsimp only [uNil];refine Zaf (Yp q3) ?_;exists _,·,rfl,?_;have en:(most:Int)-((ps.map pcD).length:Int)+1=((most-(Xj zs ts i).length+1:Nat):Int):=by rw [Jb,lps]; lia
   have llev:(lev zs ts i).length<=1000:=by
    cases i with
    | zero=>show 1<=1000; decide
    | succ i=>rw [Xj,Jc] at q6; lia
   have p4:4 ^ i<=16:=Nat.pow_le_pow_right (n:=4) nofun (by lia:i<=2);exists f,d5,most-(Xj zs ts i).length+1,zs,es,lev zs ts i,by rw [<- en],F1,q7,⟨ok,by lia,by lia,q8,llev,q9,fun m hm=>?_⟩,fun M2 c ps2 r1 r2 r3 r4 r5=>?_
   ·obtain ⟨a1,a2⟩:=T5 Fa.nd ok hm;refine ⟨Jv a1 (Jv (Ff p4 ht) nofun),by lia⟩
   have q3':=Z4 r1 q3;have l2:=r1.length_le;have lk:(ps2.map pcD).length=((lev zs ts (i+1)).take (most-(Xj zs ts i).length+1)).length:=by rw [Jb,r5.ln]; rfl
   rw [Jn] at lk;exists ·,Vy (Yp q3'),·,M.length,_,_,·,rfl,q3',Yp r3,?_,?_
   ·rw [lk,Jb,lps]; exact Zm (by lia)
   rw [<- Jg];have c3:(M2.set M.length (MO.lst ((ps++ps2).map pcD)))[M.length]?=some (.lst ((ps++ps2).map pcD)):=Jy (by lia);have m3:M<+:M2.set M.length (.lst ((ps++ps2).map pcD)):=Wv (q1.trans r1) (Je _);exists ·,?_;dsimp only [uNil];refine Zaf (Yp c3) ?_;exists ·,_,·,rfl,·,?_;have e3:((ps++ps2).map pcD).length=(Xj zs ts i).length+min (most-(Xj zs ts i).length+1) (lev zs ts (i+1)).length:=by rw [Jg,Jc,lk,Jb,lps]
   rw [e3];have em:(Xj zs ts (i+1)).length=(Xj zs ts i).length+(lev zs ts (i+1)).length:=by rw [Xj,Jc]
   refine ite2 (fun hz=>?_) (fun hz=>?_)
   ·have hz:=of_decide_eq_true hz;exists ·,·,kN ?_ _ m3;have:=Zkd (zs:=zs) (ts:=ts) (show i+1<=L by lia);lia
   ·have hz:=of_decide_eq_false (Ft _ ▸ hz);have tk:(ledF zs (lev zs ts i)).take (most-(Xj zs ts i).length+1)=lev zs ts (i+1):=by
     show (lev zs ts (i+1)).take _=_;exact Gj (by lia)
    rw [tk] at r5;have mt:MdAt (M.length+1) M2 (ps++ps2) (Xj zs ts (i+1)):=(q4.keep (t:=0) r1).app q5 r5 (by lia);have r3':(M2.set M.length (MO.lst ((ps++ps2).map pcD)))[c]?=some (.lst (ps2.map pcD)):=Yv r3 (by lia);refine .inl ⟨.cell c,ps2.map pcD,ps++ps2,_,m3,by rw [Go]; lia,c3,mt.put (by lia),fun p hp=>?_,by lia,Yp r3',by rw [Jb,r5.ln],(r5.put (t:=M.length) (by lia)).is,rfl⟩;rw [Go];rcases Gc.mp hp with z | z
    ·have:=q5 p z; lia
    ·obtain ⟨j,hj,rfl⟩:=Js z;obtain ⟨a1,a2⟩:=r5.at1 j ps2[j] _ (Ja hj) (Ja (by rw [<- r5.ln]; exact hj));exists X0 a1,X0 a2
  ·rintro ρ M1 ⟨d5,es,ps,v6,q1,q2,q3,q4,q5,q6,q7,q8,q9,rfl⟩;have eL:(Zge 0 ((L:Nat):Int).toNat).n=L:=by show ((L:Nat):Int).toNat=L; lia
   rw [eL] at q4 q6;exists ·,.inl (kY q6 M1 M.length ps q1 (Je _) q3 (fun p hp=>?_) (q4.weak (by lia)));have:=q4.ge p hp;lia
open L3
theorem Jcg (T:Txt mg) {f:Addr} (F:Fun K "_law_texts" "_law_texts" D3 f fd):FnOk P w K mg base CX0 1 f fd ["_law_tables_here"] (spOf ⟨C,K⟩ Zdz):=by
 refine L3.Fun.ok3 F D4 (fun ds M K3 h=>?_) (fun cdv A outer s H E hr=>?_)
 ·obtain ⟨d,Ls,rfl,_⟩:=h;rfl
 ·have SC:=D4;have hu:=hr.units;have hu1:=Wz hr;refine ⟨_,_,(Zc (Zt (i:=1) SC.nd rfl (Or.inr rfl) (Yr Ze))
 (Zc (Yx PassesOwn.never rfl (Yc (pv 0)) (Zq (i:=2) SC.nd rfl (Or.inl rfl))
 (Zk (Zt (i:=1) SC.nd rfl (Or.inr rfl) (Z2 (Xo (K':=K) rfl) (pv 1) (Xi (T:=["_law_pair"]) (cs:=[1]) rfl (CScope.ok (by kernel_rfl)) (Yc (pv 2)) (fun _ _ _ _=>(Zq (i:=0) (Xx (by kernel_rfl)) rfl (Or.inl rfl) (Or.inr rfl))) (fun _ _ _ _=>(U0 (Z8 (Zjm (K':=K) rfl) (Yk (Wd (K':=K) rfl) (pv 0) Zi (fun _ _=>rfl)) (pv 1) rfl))) (fun _ _ _ _=>(Yk (Wd (K':=K) rfl) (pv 0) Zi (fun _ _=>rfl))) (Y6 nofun))))))
 (Zc (Zt (i:=1) SC.nd rfl (Or.inr rfl) (Yh (Zbe (K':=K) rfl) (Zw (Ze6 (K:=K) rfl) (by rfl) T.b_sorted PyProof.Rows.boot_sorted (Za (pv 1) Ze)) Y9 (Yf Zi)))
 (Zc (Zt (i:=3) SC.nd rfl (Or.inl rfl) (Z2 (Xo (K':=K) rfl) (Yr (Za (Yr Ze) Ze)) (Xi (T:=["_law_one"]) (cs:=[]) rfl (CScope.ok (by kernel_rfl)) (Yc (pv 1)) (fun _ _ _ _=>(Zq (i:=0) (Xx (by kernel_rfl)) rfl (Or.inl rfl) (Or.inr rfl))) (fun _ _ _ _=>Xh) (fun _ _ _ _=>(Yr (Za (pv 0) Ze))) (Y6 nofun))))
 (Zc (Yx PassesOwn.never rfl (Yc (pv 1)) (Zq (i:=4) SC.nd rfl (Or.inr rfl))
 (Zk (Zt (i:=3) SC.nd rfl (Or.inl rfl) (Z2 (Xo (K':=K) rfl) (pv 3) (Xi (T:=["_law_other"]) (cs:=[4]) rfl (CScope.ok (by kernel_rfl)) (Yc (pv 1)) (fun _ _ _ _=>(Zq (i:=0) (Xx (by kernel_rfl)) rfl (Or.inl rfl) (Or.inr rfl))) (fun _ _ _ _=>Xh) (fun _ _ _ _=>(Yr (Za (pv 1) (Za (pv 0) Ze)))) (Y6 nofun))))))
 (Zk (Z5 (pv 3)))))))),fun _=>(Zz (Yd (Vr Zs) (s_g 1))
 (Zz (Vb (s_il (Zg 0)) (s_g 2)
 (Yd (s_op Vc (Zg 1) (Vo (s_il (Zg 2)) (s_g 0) (X1 (s_op Zm5 (s_op s_ix (Zg 0) Z3) (Zg 1))) (s_op s_ix (Zg 0) Z3))) (s_g 1)))
 (Zz (Yd (s_sl Zbj (s_cb Zm3 (Zf (Zg 1) Zs)) Te (Uu Z3)) (s_g 1))
 (Zz (Yd (s_op Vc (Vr (Zf (Vr Zs) Zs)) (Vo (s_il (Zg 1)) (s_g 0) Rb (Vr (Zf (Zg 0) Zs)))) (s_g 3))
 (Zz (Vb (s_il (Zg 1)) (s_g 4)
 (Yd (s_op Vc (Zg 3) (Vo (s_il (Zg 1)) (s_g 0) Rb (Vr (Zf (Zg 1) (Zf (Zg 0) Zs))))) (s_g 3)))
 (We (Zg 3))))))),fun ds M Kk hM hD h=>?_⟩
  obtain ⟨d,Ls,rfl,h⟩:=h;obtain ⟨e1,⟨l4,hL⟩,k⟩:=h;have ll:=(Y1 e1).2.1;exists Ge _,·,_,ll,fun i ρ M'=>∃ (ss:List Int) (v2:Option D),ss.Nodup/\ss.length<=12*i/\M=M'/\ρ=[some d,some (.lst (ss.map .int)),v2,none,none],fun i ρ M' _ h=>?_,⟨[],_,Bd,Ge _,rfl,rfl⟩,?_,?_
  ·obtain ⟨_,_,_,_,rfl,_⟩:=h;exact ll
  ·rintro i x ρ _ hi hx ⟨ss,v2,nd,ls,rfl,rfl⟩;obtain ⟨hi',rfl⟩:=Z6 hx;obtain ⟨h12,fr⟩:=hL _ (Jo hi');generalize Ls[i]=L at h12 fr hx;exists ·,·,·,?_,fun j ys M'=>M=M'/\ys=(((L.take j).filter fun p=>decide (p.1∉ss)).map (·.1)).map D.int,fun _ _ _ _ _=>rfl,⟨rfl,rfl⟩,?_,?_
   ·show (L.map pD).length<=sizeLine;rw [Jb]; exact Zm (by lia)
   ·rintro j x ys _ hj hx2 ⟨rfl,rfl⟩;obtain ⟨hj',rfl⟩:=Z6 hx2;exists ·,_,_,·,rfl,rfl,·,_,ss,rfl,rfl,·,ite2 (fun hz=>?_) (fun hz=>?_)
    ·exists ·,_,_,·,rfl,rfl,rfl,?_;have hz:L[j].1∉ss:=by simpa using hz
     rw [Jf hj',Gx,Jg,Jg,Bz (by simpa using hz)];rfl
    ·exists rfl,?_;have hz:L[j].1∈ss:=by simpa using hz
     rw [Jf hj',Gx,B0 (by simpa using hz),Fh,J0]
   ·rintro ys _ ⟨rfl,rfl⟩;rw [show List.take (L.map pD).length L=L by rw [Jb,Jt]];have lf:((L.filter fun p=>decide (p.1∉ss)).map (·.1)).length<=12:=by rw [Jb]; exact Jv (Fj _ _) h12
    have hi4:i<4:=Ga hi' l4;exists _,·,rfl,by rw [Jb,Jb]; exact Zm (by lia),.inl ⟨ss++(L.filter fun p=>decide (p.1∉ss)).map (·.1),_,?_,by rw [Jc]; lia,rfl,by rw [<- Jg]; rfl⟩;rw [Gv];exists nd,(Ze5 fr).sublist (Fu.map _),fun a ha b hb e=>?_;obtain ⟨p,hp,rfl⟩:=Ji.mp hb;have:=of_decide_eq_true (G4.mp hp).2;exact this (e ▸ ha)
  ·rintro ρ _ ⟨ss,v2,nd,ls,rfl,rfl⟩;have ls:ss.length<=12*(Ls.map tbD).length:=ls;rw [Jb] at ls;exists ·,_,ss,rfl,rfl,by lia,fun ns' pn _=>?_;exists ·,·,?_;rw [show cut (ns'.map D.int) none (some 5)=(ns'.take 5).map D.int by rw [show (5:Int)=((5:Nat):Int) from rfl,Zip,B3]];have ndt:(ns'.take 5).Nodup:=(pn.nodup_iff.mpr nd).sublist (List.take_sublist _ _);have l5:(ns'.take 5).length<=5:=by rw [Jn]; lia
   generalize ns'.take 5=ts at ndt l5;have lt:(ts.map D.int).length=ts.length:=Jb _;exists (show 0<=sizeLine by decide),(show 1<=sizeLine by decide),·,·,?_,fun j ys M'=>M=M'/\ys=(ts.take j).map fun t=>D.lst ([t].map .int),fun _ _ _ _ _=>rfl,⟨rfl,rfl⟩,?_,?_
   ·show (ts.map D.int).length<=sizeLine;rw [lt]; exact Zm (by lia)
   ·rintro j x ys _ hj hx ⟨rfl,rfl⟩;obtain ⟨hj',rfl⟩:=Z6 hx;exists ·,(show 1<=sizeLine by decide),rfl,?_;rw [Jf hj',Jg];rfl
   rintro ys _ ⟨rfl,rfl⟩;rw [show List.take (ts.map D.int).length ts=ts by rw [lt,Jt]];have e0:D.lst ([D.lst []]++ts.map fun t=>D.lst ([t].map .int))=D.lst (([[]]++ts.map fun t=>[t]).map fun x:List Int=>D.lst (x.map .int)):=by rw [Jg,Gm]; rfl
   exists _,·,rfl,by rw [Jb]; exact Zm (by show 1+_<=_; lia),?_;rw [e0];exists ·,·,fun i ρ M'=>∃ v4:Option D,M=M'/\ρ=[some d,some (.lst (ts.map .int)),v2,some (.lst (([[]]++(ts.map fun t=>[t])++(ts.take i).flatMap fun a=>ts.map fun b=>[a,b]).map fun x:List Int=>D.lst (x.map .int))),v4],fun _ _ _ _ _=>rfl,⟨_,rfl,by rw [Bf,Bv,J0]; rfl⟩,?_,?_
   ·rintro i x ρ _ hi hx ⟨v4,rfl,rfl⟩;obtain ⟨hi',rfl⟩:=Z6 hx;have fl:∀ i,((ts.take i).flatMap fun a=>ts.map fun b=>[a,b]).length<=5*5:=fun i=>by
     rw [List.length_flatMap];have:((ts.take i).map fun a=>(ts.map fun b=>[a,b]).length)=(ts.take i).map fun _=>ts.length:=List.map_congr_left fun a _=>Jb _;rw [this,List.map_const',List.sum_replicate_nat];exact Ff (by rw [Jn]; lia) l5
    exists ·,·,·,?_,fun j ys M'=>M=M'/\ys=(ts.take j).map fun b=>D.lst ([ts[i],b].map .int),fun _ _ _ _ _=>rfl,⟨rfl,rfl⟩,?_,?_
    ·show (ts.map D.int).length<=sizeLine;rw [lt]; exact Zm (by lia)
    ·rintro j x ys _ hj hx2 ⟨rfl,rfl⟩;obtain ⟨hj',rfl⟩:=Z6 hx2;exists ·,·,(show 2<=sizeLine by decide),rfl,?_;rw [Jf hj',Jg];rfl
    ·rintro ys _ ⟨rfl,rfl⟩;rw [show List.take (ts.map D.int).length ts=ts by rw [lt,Jt]];have f:=fl i;exists _,·,rfl,?_,.inl ⟨some (.int ts[i]),rfl,?_⟩
     ·rw [Jb,Jb,Jc,Jc,Jb]; exact Zm (by show 1+_+_+_<=_; lia)
     ·rw [Jf hi',Gy,Ba,Bv,J0,<- Gd,Jg (l₂:=ts.map fun b=>[ts[i],b]),Gm];rfl
   ·rintro ρ _ ⟨v4,rfl,rfl⟩;rw [show List.take (ts.map D.int).length ts=ts by rw [lt,Jt]];exists ·,.inl (k _ ?_ ?_ ?_)
    ·rw [Gv,Gv];exists ⟨Gq.mpr ⟨(fun z=>nomatch z),Bd⟩,?_,fun a ha b hb e=>?_⟩,?_,fun a ha b hb e=>?_
     ·rw [Jx,Gf];exact (Jx.mp ndt).imp fun hab e=>hab (List.cons.inj e).1
     ·obtain ⟨t,_,rfl⟩:=Ji.mp hb;rw [Jj.mp ha] at e;exact nomatch e
     ·refine Rj (fun a _=>?_) ?_
      ·rw [Jx,Gf];exact (Jx.mp ndt).imp fun hab e=>hab (by simpa using e)
      ·refine (Jx.mp ndt).imp fun hab y hy hz=>?_;obtain ⟨b,_,rfl⟩:=Ji.mp hy;obtain ⟨c,_,e⟩:=Ji.mp hz;exact hab (List.cons.inj e).1.symm
     ·obtain ⟨u,_,hb⟩:=Gi.mp hb;obtain ⟨v,_,rfl⟩:=Ji.mp hb;have h2:a.length<=1:=by
       rcases Gc.mp ha with z | z
       ·rw [Jj.mp z]; decide
       ·obtain ⟨t,_,rfl⟩:=Ji.mp z; exact Je _
      rw [e] at h2;exact absurd h2 (by show ¬ 2<=1; decide)
    ·rw [Jc,Jc,Jb,List.length_flatMap];have:(ts.map fun a=>(ts.map fun b=>[a,b]).length)=ts.map fun _=>ts.length:=List.map_congr_left fun a _=>Jb _;rw [this,List.map_const',List.sum_replicate_nat];have:=Ff l5 l5;show 1+_+_<=_;lia
    ·intro x hx;rcases Gc.mp hx with z | z
     ·rcases Gc.mp z with z | z
      ·rw [Jj.mp z]; decide
      ·obtain ⟨t,_,rfl⟩:=Ji.mp z; exact (by decide:1<=2)
     ·obtain ⟨u,_,hb⟩:=Gi.mp z;obtain ⟨v,_,rfl⟩:=Ji.mp hb;exact Je 2
open L3
theorem Jcr (T:Txt mg) (Tr:Cal P w K mg base "_law_go" 1 ["_law_one", "_law_other", "_law_text"] (spOf ⟨C,K⟩ Zsc)) {f:Addr} (F:Fun K "_law_ends" "_law_ends" Jcm f fd):FnOk P w K mg base CX0 2 f fd ["_law_books_here", "_law_names_here", "_law_texts_here"] (spOf ⟨C,K⟩ Zin):=by
 refine L3.Fun.ok3 F Jcf (fun ds M K3 h=>?_) (fun cdv A outer s H E hr=>?_)
 ·obtain ⟨b,d,zs,qs,xs,rfl,_⟩:=h;rfl
 ·have SC:=Jcf;have hu:=hr.units;have hu1:=Wz hr;have Q0:Room 1 _:=hr.mono nofun;refine ⟨_,_,(Zc (Zt (i:=3) SC.nd rfl (Or.inl rfl) (Yr Ze))
 (Zc (Yx PassesOwn.never rfl (Yc (pv 1)) (Zq (i:=4) SC.nd rfl (Or.inr rfl))
 (Zk (Zt (i:=3) SC.nd rfl (Or.inl rfl) (Z2 (Xo (K':=K) rfl) (pv 3) (Xi (T:=["_law_other"]) (cs:=[4]) rfl (CScope.ok (by kernel_rfl)) (Yc (pv 1)) (fun _ _ _ _=>(Zq (i:=0) (Xx (by kernel_rfl)) rfl (Or.inl rfl) (Or.inr rfl))) (fun _ _ _ _=>(U0 (Z8 (Zed (K':=K) rfl hu) (pv 0) (pv 1) (Yo _)))) (fun _ _ _ _=>(X2 (Za (pv 1) (Za (pv 0) Ze)))) (Y6 nofun))))))
 (Zc (Zt (i:=5) SC.nd rfl (Or.inl rfl) (Yr Ze))
 (Zc (Yx PassesOwn.never rfl (Yc (pv 2)) (Zq (i:=6) SC.nd rfl (Or.inl rfl))
 (Zk (Yx PassesOwn.never rfl (Yc (pv 3)) (Zq (i:=7) SC.nd rfl (Or.inl rfl))
 (Zc (Zt (i:=8) SC.nd rfl (Or.inl rfl) (Zy Tr Q0 rfl (Za (Vd hu1 (pv 0) (Yk (Wd (K':=K) rfl) (pv 7) Zi (fun _ _=>rfl)) (fun _ _=>rfl)) (Za (Vd hu1 (pv 0) (Yk (Wd (K':=K) rfl) (pv 7) Zi (fun _ _=>rfl)) (fun _ _=>rfl)) (Za (pv 6) Ze)))))
 (Zk (Xm (Vp (Rh (pv 8)))
 (Zc (Xw (Ty PySem.F.plainAttrs_list PySem.F.slot_list_append PySem.F.type_list_append Wp (pv 5) (Za (X2 (Za (pv 6) (Za (Yr (Za (pv 7) Ze)) (Za (Yk (Wd (K':=K) rfl) (pv 8) Zi (fun _ _=>rfl)) Ze)))) Ze)))
 (Zk (Yx PassesOwn.never rfl (Yc (pv 3)) (Zq (i:=9) SC.nd rfl (Or.inl rfl))
 (Zc (Zt (i:=10) SC.nd rfl (Or.inl rfl) (Zy Tr Q0 rfl (Za (Vd hu1 (pv 0) (Yk (Wd (K':=K) rfl) (pv 9) Zi (fun _ _=>rfl)) (fun _ _=>rfl)) (Za (Vd hu1 (pv 0) (Yk (Wd (K':=K) rfl) (pv 9) Zi (fun _ _=>rfl)) (fun _ _=>rfl)) (Za (Yk (Wd (K':=K) rfl) (pv 8) Zi (fun _ _=>rfl)) Ze)))))
 (Zk (Xm (Vp (Rh (pv 10)))
 (Zk (Xw (Ty PySem.F.plainAttrs_list PySem.F.slot_list_append PySem.F.type_list_append Wp (pv 5) (Za (X2 (Za (pv 6) (Za (Yr (Za (pv 7) (Za (pv 9) Ze))) (Za (Yk (Wd (K':=K) rfl) (pv 10) Zi (fun _ _=>rfl)) Ze)))) Ze))))
 Z7))))))
 Z7))))))
 (Zk (Z5 (pv 5))))))),fun _=>(Zz (Yd (Vr Zs) (s_g 3))
 (Zz (Vb (s_il (Zg 1)) (s_g 4)
 (Yd (s_op Vc (Zg 3) (Vo (s_il (Zg 1)) (s_g 0) (X1 (s_op s_ne (Zg 0) (Zg 1))) (Sk (Zf (Zg 1) (Zf (Zg 0) Zs))))) (s_g 3)))
 (Zz (Yd (Qs Zs) (s_g 5))
 (Zz (Vb (s_il (Zg 2)) (s_g 6)
 (Vb (s_il (Zg 3)) (s_g 7)
 (Zz (Yd (Yj (Zf (Tf (Zg 0) (s_op s_ix (Zg 7) Z3)) (Zf (Tf (Zg 0) (s_op s_ix (Zg 7) Z3)) (Zf (Zg 6) Zs)))) (s_g 8))
 (Vt (s_b (Zf9 (Zg 8)))
 (Zz (Vu (Uk (Zg 5) (Zf (Sk (Zf (Zg 6) (Zf (Vr (Zf (Zg 7) Zs)) (Zf (s_op s_ix (Zg 8) Z3) Zs)))) Zs)))
 (Vb (s_il (Zg 3)) (s_g 9)
 (Zz (Yd (Yj (Zf (Tf (Zg 0) (s_op s_ix (Zg 9) Z3)) (Zf (Tf (Zg 0) (s_op s_ix (Zg 9) Z3)) (Zf (s_op s_ix (Zg 8) Z3) Zs)))) (s_g 10))
 (Vt (s_b (Zf9 (Zg 10)))
 (Vu (Uk (Zg 5) (Zf (Sk (Zf (Zg 6) (Zf (Vr (Zf (Zg 7) (Zf (Zg 9) Zs))) (Zf (s_op s_ix (Zg 10) Z3) Zs)))) Zs)))
 Wa))))
 Wa))))
 (We (Zg 5)))))),fun ds M Kk hM hD h=>?_⟩
  obtain ⟨b,d,zs,qs,xs,rfl,h⟩:=h;obtain ⟨Bk,hd,⟨nd,ok,tl,nt,z4,x31,x2⟩,k⟩:=h;have eq:zs.map (·.1)=qs.map (·.1):=by
   refine List.ext_getElem (by rw [Jb,Jb]; exact tl.1) fun i h1 h2=>?_;rw [Gz,Gz];rw [Jb] at h1 h2;exact (tl.2 i _ _ (Ja h1) (Ja h2)).1
  have nml:(zs.map (·.1)).length<=4:=by rw [Jb]; exact z4
  generalize hnm:zs.map (·.1)=nm at hd nml;have lm:(nm.map D.str).length=nm.length:=Jb _;have ll:=(Y1 hd).2.1;exists Ge _,·,_,ll,fun i ρ M'=>∃ v4:Option D,M=M'/\ρ=[some (.cell b),some d,some (.lst (xs.map fun x=>D.lst (x.map .int))),some (.lst (((nm.take i).flatMap fun a=>(nm.filter fun b=>decide (b≠a)).map fun b=>(a,b)).map wyD)),v4,none,none,none,none,none,none],fun _ _ _ _ h=>(by obtain ⟨_,rfl,_⟩:=h; exact ll),⟨_,rfl,rfl⟩,?_,?_
  ·rintro i x ρ _ hi hx ⟨v4,rfl,rfl⟩;obtain ⟨hi',rfl⟩:=Z6 hx;exists ·,·,_,ll,?_,fun j ys M'=>M=M'/\ys=(((nm.take j).filter fun b=>decide (b≠nm[i])).map fun b=>(nm[i],b)).map wyD,fun _ _ _ _ h=>h.1 ▸ ll,⟨rfl,rfl⟩,?_,?_
   ·show (nm.map D.str).length<=sizeLine;rw [lm]; exact Zm (by lia)
   ·rintro j x ys _ hj hx2 ⟨rfl,rfl⟩;obtain ⟨hj',rfl⟩:=Z6 hx2;exists ·,·,.inl ⟨_,rfl,_,rfl,ite2 (fun hz=>?_) (fun hz=>?_)⟩
    ·exists ·,·,(show 2<=sizeLine by decide),rfl,?_;have hz:¬ nm[j]=nm[i]:=by simpa using hz
     rw [Jf hj',Gx,Jg,Jg,Bz (by simpa using hz)];rfl
    ·exists rfl,?_;have hz:nm[j]=nm[i]:=by simpa using hz
     rw [Jf hj',Gx,B0 (by simpa using hz),Fh,J0]
   ·rintro ys _ ⟨rfl,rfl⟩;rw [show List.take (nm.map D.str).length nm=nm by rw [lm,Jt]];have bd:∀ i,((nm.take i).flatMap fun a=>(nm.filter fun b=>decide (b≠a)).map fun b=>(a,b)).length<=4*4:=fun i=>Jv (Vf fun a _=>by rw [Jb]; exact Jv (Fj _ _) nml) (Bp _ (by rw [Jn]; lia));have b1:=bd i;have b2:(nm.filter fun b=>decide (b≠nm[i])).length<=4:=Jv (Fj _ _) nml;exists _,·,rfl,?_,.inl ⟨some (.str nm[i]),rfl,?_⟩
    ·rw [Jb,Jb,Jb]; exact Zm (by lia)
    ·rw [Jf hi',Gy,Jg,Ba,Bv,J0];rfl
  rintro ρ _ ⟨v4,rfl,rfl⟩;rw [show List.take (nm.map D.str).length nm=nm by rw [lm,Jt]];generalize hlg:(nm.flatMap fun a=>(nm.filter fun b=>decide (b≠a)).map fun b=>(a,b))=lgs;have hlg':Yt nm=lgs:=hlg;rw [hnm,hlg'] at k;have l12:lgs.length<=12:=by
   rw [<- hlg];refine Jv (Vf (b:=3) fun a ha=>?_) (Bp _ nml);rw [Jb];have:(nm.filter fun b=>decide (b≠a)).length<nm.length:=List.length_filter_lt_length_iff_exists.mpr ⟨a,ha,by simp⟩;lia
  have lgm:∀ lg∈lgs,∃ L1 L2,(lg.1,L1)∈qs/\(lg.2,L2)∈qs/\lg.1∈zs.map (·.1)/\lg.2∈zs.map (·.1):=fun lg h=>by
   rw [<- hlg'] at h;obtain ⟨g1,g2⟩:=Uo h;rw [<- hnm] at g1 g2;have g1':=g1;have g2':=g2;rw [eq] at g1 g2;obtain ⟨q1,m1,e1⟩:=Ji.mp g1;obtain ⟨q2,m2,e2⟩:=Ji.mp g2;exists q1.2,q2.2,by rw [<- e1]; exact m1,by rw [<- e2]; exact m2,g1',g2'
  have allb:=Zdv (zs:=zs) l12 x31;generalize hall:Yy zs lgs xs=all at k allb;have ps0:EdSt M all [] (M++[MO.lst []]):=⟨[],Gb _ _,by rw [Jc]; exact Fd _,Bb,⟨rfl,fun _ _ _ h=>nomatch h⟩,List.nil_prefix⟩;exists Ge _,·,·,fun i ρ M'=>∃ v4 v6 v7 v8 v9 v10:Option D,EdSt M all (Yy zs lgs (xs.take i)) M'/\ρ=[some (.cell b),some d,some (.lst (xs.map fun x=>D.lst (x.map .int))),some (.lst (lgs.map wyD)),v4,some (.cell M.length),v6,v7,v8,v9,v10],fun _ _ _ _ _=>rfl,⟨_,_,_,_,_,_,ps0,rfl⟩,?_,?_
  ·rintro i x ρ M1 hi hx ⟨v4,v6,v7,v8,v9,v10,s1,rfl⟩;obtain ⟨hi',rfl⟩:=Z6 hx;have x2i:=x2 _ (Jo hi');exists ·,·,fun j ρ M'=>∃ v7 v8 v9 v10:Option D,EdSt M all (Yy zs lgs (xs.take i)++(lgs.take j).flatMap fun lg=>end1 zs lgs xs[i] lg) M'/\ρ=[some (.cell b),some d,some (.lst (xs.map fun x=>D.lst (x.map .int))),some (.lst (lgs.map wyD)),v4,some (.cell M.length),some (.lst (xs[i].map .int)),v7,v8,v9,v10],fun _ _ _ _ _=>rfl,⟨_,_,_,_,by rw [Bf,Bv,J0]; exact s1,rfl⟩,?_,?_
   ·rintro j x ρ M2 hj hx2 ⟨v7,v8,v9,v10,s2,rfl⟩;obtain ⟨hj',rfl⟩:=Z6 hx2;obtain ⟨L1,L2,q1,q2,g1,g2⟩:=lgm _ (Jo hj');have B2:Ts M2 b qs:=Bk.pre (by obtain ⟨_,p,_⟩:=s2; exact p);obtain ⟨c1,d1,m1⟩:=B2.get nt.1 q1;obtain ⟨c2,d2,m2⟩:=B2.get nt.1 q2;have pre:=fun {p}=>Znp (zs:=zs) (lgs:=lgs) (xs:=xs) (p:=p) hi' hj';rw [hall] at pre;have nx:(lgs.take (j+1)).flatMap (fun lg=>end1 zs lgs xs[i] lg)=(lgs.take j).flatMap (fun lg=>end1 zs lgs xs[i] lg)++end1 zs lgs xs[i] lgs[j]:=by rw [Jf hj',Gy,Ba,Bv,J0]
    generalize hbase:Yy zs lgs (xs.take i)++(lgs.take j).flatMap (fun lg=>end1 zs lgs xs[i] lg)=base at s2 pre;have nx2:Yy zs lgs (xs.take i)++(lgs.take (j+1)).flatMap (fun lg=>end1 zs lgs xs[i] lg)=base++end1 zs lgs xs[i] lgs[j]:=by rw [nx,<- Gd,hbase]
    exists ·,·,_,_,·,rfl,rfl,_,d1,·,·,_,_,·,rfl,rfl,_,d2,·,?_;exists c1,c2,_,L1,L2,xs[i],rfl,m1,m2,rfl,⟨(nt.2.2 _ q1).1,(nt.2.2 _ q2).1,by lia⟩,fun ns us M3 t go p3 lt et=>?_,fun no M3 p3=>?_
    ·have ef:=Zl8 nd ok tl q1 q2 go g1 g2;have e1:end1 zs lgs xs[i] lgs[j]=(xs[i],[lgs[j]],us)::lgs.filterMap fun mo=>(fwO zs mo us).map fun v=>(xs[i],[lgs[j],mo],v):=by unfold end1; rw [ef]
     obtain ⟨es,c3,le,s3⟩:=s2.add (m:=(xs[i],[lgs[j]],us)) p3 lt et (pre (by rw [e1]; exact List.prefix_cons_inj _ |>.mpr List.nil_prefix)) allb;exists ·,·,iteT ?_;exists ·,(s2.keep p3).ls,·,·,(show 1<=sizeLine by decide),·,_,_,·,rfl,rfl,(show 3<=sizeLine by decide),M.length,_,·,rfl,c3,le,?_;have lM2:M.length<M2.length:=by obtain ⟨_,_,z,_⟩:=s2; exact z
     have et4:=Yv (m':=.lst (es++[.tup [.lst (xs[i].map .int),.lst ([lgs[j]].map wyD),.cell t]])) et (show t≠M.length by lia);have ul:us.length<=20000:=by have:=go.len (nt.2.2 _ q1).1.2 (nt.2.2 _ q2).1.2; lia
     generalize hg:(fun mo=>(fwO zs mo us).map fun v=>((xs[i],[lgs[j],mo],v):En3))=g at e1;have pr:∀ k,(xs[i],[lgs[j]],us)::(lgs.take k).filterMap g<+:end1 zs lgs xs[i] lgs[j]:=fun k=>by
      rw [e1];refine List.prefix_cons_inj _ |>.mpr ?_
      conv=>rhs; rw [<- G9 k lgs,List.filterMap_append]
      exact Gb _ _
     exists ·,·,fun k ρ M'=>∃ v9 v10:Option D,EdSt M all (base++((xs[i],[lgs[j]],us)::(lgs.take k).filterMap g)) M'/\M'[t]?=some (.lst (us.map .int))/\ρ=[some (.cell b),some d,some (.lst (xs.map fun x=>D.lst (x.map .int))),some (.lst (lgs.map wyD)),v4,some (.cell M.length),some (.lst (xs[i].map .int)),some (wyD lgs[j]),some (.tup [.lst (ns.map .int),.cell t]),v9,v10],fun _ _ _ _ _=>rfl,⟨_,_,s3,et4,rfl⟩,?_,?_
     ·rintro k x ρ M5 hk hx3 ⟨v9,v10,s5,t5,rfl⟩;obtain ⟨hk',rfl⟩:=Z6 hx3;obtain ⟨L1',L2',r1,r2,f1,f2⟩:=lgm _ (Jo hk');have B5:Ts M5 b qs:=Bk.pre (by obtain ⟨_,p,_⟩:=s5; exact p);obtain ⟨c1',d1',m1'⟩:=B5.get nt.1 r1;obtain ⟨c2',d2',m2'⟩:=B5.get nt.1 r2;have fs:=Zh8 g hk';have l5:M.length<M5.length:=by obtain ⟨_,_,z,_⟩:=s5; exact z
      exists ·,·,_,_,·,rfl,rfl,_,d1',·,·,_,_,·,rfl,rfl,_,d2',·,_,_,·,rfl,rfl,?_;exists c1',c2',_,L1',L2',us,rfl,m1',m2',Yp t5,⟨(nt.2.2 _ r1).1,(nt.2.2 _ r2).1,ul⟩,fun ns' vs M6 t' go' p6 lt' et'=>?_,fun no' M6 p6=>?_
      ·have ef':=Zl8 nd ok tl r1 r2 go' f1 f2;have eg:g lgs[k]=some (xs[i],[lgs[j],lgs[k]],vs):=by rw [<- hg]; show (fwO zs lgs[k] us).map _=_; rw [ef']; rfl
       rw [eg] at fs;obtain ⟨es',c6,le',s6⟩:=s5.add (m:=(xs[i],[lgs[j],lgs[k]],vs)) p6 lt' et' (by
        have:=pre (pr (k+1));rw [fs] at this;rw [Gd];exact this) allb
       exists ·,·,iteT ?_;exists ·,(s5.keep p6).ls,·,·,·,(show 2<=sizeLine by decide),·,_,_,·,rfl,rfl,(show 3<=sizeLine by decide),M.length,_,·,rfl,c6,le',.inl ⟨_,_,?_,Yv (Z4 p6 t5) (by lia),rfl⟩;rw [fs];rw [Gd] at s6;exact s6
      ·have ef':=Zr1 nd tl r1 r2 no';have eg:g lgs[k]=none:=by rw [<- hg]; show (fwO zs lgs[k] us).map _=_; rw [ef']; rfl
       rw [eg] at fs;exists ·,·,iteF (.inl ⟨_,_,?_,Z4 p6 t5,rfl⟩);rw [fs,show (none:Option En3).toList=[] from rfl,J0];exact s5.keep p6
     ·rintro ρ M5 ⟨v9,v10,s5,t5,rfl⟩;refine .inl ⟨_,_,_,_,?_,rfl⟩;rw [show List.take (lgs.map wyD).length lgs=lgs by rw [Jb,Jt],<- e1] at s5;rw [nx2];exact s5
    ·have ef:=Zr1 nd tl q1 q2 no;have e1:end1 zs lgs xs[i] lgs[j]=[]:=by unfold end1; rw [ef]
     exists ·,·,iteF (.inl ⟨_,_,_,_,?_,rfl⟩);rw [nx2,e1,J0];exact s2.keep p3
   ·rintro ρ M2 ⟨v7,v8,v9,v10,s2,rfl⟩;refine .inl ⟨_,_,_,_,_,_,?_,rfl⟩;rw [show List.take (lgs.map wyD).length lgs=lgs by rw [Jb,Jt]] at s2;rw [show Yy zs lgs (xs.take (i+1))=Yy zs lgs (xs.take i)++lgs.flatMap fun lg=>end1 zs lgs xs[i] lg by unfold Yy; rw [List.take_succ_eq_append_getElem hi',List.flatMap_append,List.flatMap_cons,List.flatMap_nil,List.append_nil]];exact s2
  ·rintro ρ M1 ⟨v4,v6,v7,v8,v9,v10,s1,rfl⟩;rw [show List.take (xs.map fun x=>D.lst (x.map .int)).length xs=xs by rw [Jb,Jt],hall] at s1;obtain ⟨es,a,b',c,d',e⟩:=s1;exists ·,.inl (k M1 es a c d')
open L3
theorem Jad (T:Txt mg) {Zx:Addr} (Sd:Cau K mg "TooMany" Zx) (mtt:W.mroIn K Zx (.ref Zx)=some true) (Sb:CalE P w K mg base "mendings" 6 ["family", "text", "legs", "most"] (Nu ⟨C,K⟩ (Zmi Zj Zx))) {f:Addr} (F:Fun K "_law_found" "_law_found" Jat f fd):FnOk P w K mg base CX0 7 f fd ["_law_family_here", "_law_end"] (spOf ⟨C,K⟩ (Zd2 Zj)):=by
 refine L3.Fun.ok3 F Jbc (fun ds M K3 h=>?_) (fun cdv A outer s H E hr=>?_)
 ·obtain ⟨f,d,zs,ts,rfl,_⟩:=h;rfl
 ·have SC:=Jbc;have hu:=hr.units;have hu1:=Wz hr;have Zb6:Room 6 _:=hr.mono nofun;exists _,_,(Zk (Zq1 rfl rfl (fun _ _ _ _ hx=>Zgt (Zgs (Zbt Sb Zb6 rfl hx (Za (pv 0) (Za (pv 1) (Za Zi (Za Zi Ze))))))) (Zuf Sd rfl (fun _=>(Zk (Z5 (X2 (Za Vx Ze))))) Zl7))),fun _=>(Zto (fun _ _ _ he hk hx=>(We (Zbk he hk hx (Zf (Zg 0) (Zf (Zg 1) (Zf Z3 (Zf Z3 Zs))))))) (Ztw (We (Sk (Zf Ny Zs))) Zlq)),fun ds M Kk hM hD h=>?_;obtain ⟨f,d,zs,ts,rfl,h⟩:=h;obtain ⟨Fa,hd,⟨ok,z4,t3⟩,k⟩:=h;have l2:(Xj zs ts 2).length<=200:=Zaa (Pp (by rw [Jb]; exact z4));exists ·,·,f,d,2,200,zs,ts,rfl,Fa,hd,⟨ok,nofun,nofun,t3⟩,fun _ M' c ps p1 p2 p3 p4 p5=>.inl (k M' c ps p1 p2 p3 p4 p5),fun h=>absurd h (by lia)
theorem Jaa (T:Txt mg) (Ue:Cal P w K mg base "_law_found" 7 ["_law_family_here", "_law_end"] (spOf ⟨C,K⟩ (Zd2 Zj))) {f:Addr} (F:Fun K "_law_right" "_law_right" Jax f fd):FnOk P w K mg base CX0 8 f fd ["_law_family_here", "_law_ends_here", "_law_texts_here", "_law_end"] (spOf ⟨C,K⟩ (Zd0 Zj)):=by
 refine L3.Fun.ok3 F Jac (fun ds M K3 h=>?_) (fun cdv A outer s H E hr=>?_)
 ·obtain ⟨f,c0,e,zs,es,xs,ts,rfl,_⟩:=h;rfl
 ·have SC:=Jac;have hu:=hr.units;have hu1:=Wz hr;have P6:Room 7 _:=hr.mono nofun;refine ⟨_,_,(Zc (U1 (i:=4) SC.nd rfl rfl (T:=["_law_text", "_law_way", "_law_last"]) (cs:=[3]) rfl (CScope.ok (by kernel_rfl)) (Yc (pv 1)) (fun _ _ _ _=>(Vw (n:=3) rfl (Z9 (Zq (i:=0) (Xx (by kernel_rfl)) rfl (Or.inl rfl) (Or.inr rfl)) (Z9 (Zq (i:=1) (Xx (by kernel_rfl)) rfl (Or.inl rfl) (Or.inr rfl)) (Z9 (Zq (i:=2) (Xx (by kernel_rfl)) rfl (Or.inl rfl) (Or.inr rfl)) Wl))) (by rfl))) (fun _ _ _ _=>(U0 (Z8 (No (K':=K) rfl hu) (pv 2) (pv 3) (Yo _)))) (fun _ _ _ _=>(X2 (Za (pv 1) (Za (pv 0) Ze)))) (Zal (Xz nofun (Xz nofun (Xz nofun Rv)))))
 (Zc (Yx PassesOwn.never rfl (Xa rfl T.b_range (Za Zi Ze)) (Zq (i:=5) SC.nd rfl (Or.inl rfl))
 (Zc (Zt (i:=6) SC.nd rfl (Or.inl rfl) (Ys (Zci (K:=K) rfl) (by rfl) T.b_list PyProof.Rows.boot_list (Za (pv 3) Ze)))
 (Zc (Zt (i:=7) SC.nd rfl (Or.inl rfl) (Zy Ue P6 rfl (Za (pv 0) (Za (pv 6) Ze))))
 (Zc (Xm (PW.pt (Zq0 (Zgr (Zgq (Zw (Zso (K:=K) rfl) (by rfl) T.b_isinstance PyProof.Rows.boot_isinstance (Za (pv 7) (Za (Znw (v:=.ty "list") rfl T.b_list PyProof.Rows.boot_list rfl) Ze))))) (Zlw (Z8 (Zed (K':=K) rfl hu) (pv 6) (pv 3) (Yo _)))))
 (Zk (Z5 Zbu))
 Z7)
 (Zc (Zt (i:=8) SC.nd rfl (Or.inr rfl) (Xi (T:=["_law_way", "_law_text"]) (cs:=[2]) rfl (CScope.ok (by kernel_rfl)) (Yc (pv 7)) (fun _ _ _ _=>(Vw (n:=2) rfl (Z9 (Zq (i:=0) (Xx (by kernel_rfl)) rfl (Or.inl rfl) (Or.inr rfl)) (Z9 (Zq (i:=1) (Xx (by kernel_rfl)) rfl (Or.inl rfl) (Or.inr rfl)) Wl)) (by rfl))) (fun _ _ _ _=>(U0 (Z8 (Zpo (K':=K) rfl hu) (pv 1) (pv 2) rfl))) (fun _ _ _ _=>(X2 (Za (pv 0) (Za (pv 1) Ze)))) (Zal (Xz nofun (Xz nofun Rv)))))
 (Zc (Xm (PW.pt (Zq0 (Z8 (Zed (K':=K) rfl hu) (Zw (W8 (K:=K) rfl) (by rfl) T.b_len Dm (Za (pv 8) Ze)) (Zw (W8 (K:=K) rfl) (by rfl) T.b_len Dm (Za (pv 4) Ze)) (Yo _)) (Zlw (Zgr (Zgq (Zw (Zsp (K:=K) rfl rfl) (by rfl) T.b_all PyProof.Rows.boot_all (Za (Xi (T:=["_law_one"]) (cs:=[8]) rfl (CScope.ok (by kernel_rfl)) (Yc (pv 4)) (fun _ _ _ _=>(Zq (i:=0) (Xx (by kernel_rfl)) rfl (Or.inl rfl) (Or.inr rfl))) (fun _ _ _ _=>Xh) (fun _ _ _ _=>(Zg2 (No (K':=K) rfl hu) (Ty PySem.F.plainAttrs_list PySem.F.slot_list_count PySem.F.type_list_count (Zk7 (K':=K) rfl hu) (pv 1) (Za (pv 0) Ze)) Zi (Yo _))) (Y6 nofun)) Ze)))))))
 (Zk (Z5 Zbu))
 Z7)
 (Zc (Yx PassesOwn.never rfl (Yc (pv 7)) (Vw (n:=2) rfl (Z9 (Zq (i:=9) SC.nd rfl (Or.inl rfl)) (Z9 (Zq (i:=10) SC.nd rfl (Or.inl rfl)) Wl)) (by rfl))
 (Zc (Xw (Zl0 PySem.F.plainAttrs_list PySem.F.slot_list_clear PySem.F.type_list_clear Zdj (pv 9)))
 (Zk (Xw (Ty PySem.F.plainAttrs_list PySem.F.slot_list_append PySem.F.type_list_append Wp (pv 10) (Za Zi Ze))))))
 (Zk (Xw (Zl0 PySem.F.plainAttrs_list PySem.F.slot_list_clear PySem.F.type_list_clear Zdj (pv 7)))))))))))
 (Zk (Z5 Zbu)))),fun _=>(Zz (Yd (Vo (s_il (Zg 1)) (Rc (Xl (s_g 0) (Xl (s_g 1) (Xl (s_g 2) Re)))) (X1 (s_op s_eq (Zg 2) (Zg 3))) (Sk (Zf (Zg 1) (Zf (Zg 0) Zs)))) (s_g 4))
 (Zz (Vb (Zjx (Zf Z3 Zs)) (s_g 5)
 (Zz (Yd (s_cb Zna (Zf (Zg 3) Zs)) (s_g 6))
 (Zz (Yd (Yj (Zf (Zg 0) (Zf (Zg 6) Zs))) (s_g 7))
 (Zz (Vt (s_or (Zm6 (s_b (s_cb (Zts (T:=.list)) (Zf (Zg 7) (Zf s_ty Zs))))) (X1 (s_op s_ne (Zg 6) (Zg 3))))
 (We s_bl)
 Wa)
 (Zz (Yd (Vo (s_il (Zg 7)) (Rc (Xl (s_g 0) (Xl (s_g 1) Re))) (X1 (s_op Ztu (Zg 1) (Zg 2))) (Sk (Zf (Zg 0) (Zf (Zg 1) Zs)))) (s_g 8))
 (Zz (Vt (s_or (X1 (s_op s_ne (s_cb Sl (Zf (Zg 8) Zs)) (s_cb Sl (Zf (Zg 4) Zs)))) (Zm6 (s_b (s_cb Ztx (Zf (Vo (s_il (Zg 4)) (s_g 0) Rb (s_op s_eq (Zjy (Zg 1) (Zf (Zg 0) Zs)) Z3)) Zs)))))
 (We s_bl)
 Wa)
 (Zz (Vb (s_il (Zg 7)) (Rc (Xl (s_g 9) (Xl (s_g 10) Re)))
 (Zz (Vu (Zgb (Zg 9)))
 (Vu (Uk (Zg 10) (Zf Z3 Zs)))))
 (Vu (Zgb (Zg 7))))))))))
 (We s_bl))),fun ds M Kk hM hD h=>?_⟩
  obtain ⟨f,c0,e,zs,es,xs,ts,rfl,h⟩:=h;obtain ⟨Fa,hc,ea,he,⟨nd,ok,z4,zk,ndx,x31,t3⟩,k⟩:=h;have lm:es.length=(Yy zs (Yt (zs.map (·.1))) xs).length:=ea.1;generalize hms:Yy zs (Yt (zs.map (·.1))) xs=ms at ea lm;have lb:ms.length<=5000:=by rw [<- hms]; exact Zdv (Pp (by rw [Jb]; exact z4)) x31
  have le:=(Y1 he).2.1;have lc:=(Y1 (Yp hc)).2.1;exists ·,_,lc,?_,fun j ys M'=>M=M'/\ys=(T8 (ms.take j) ts).map mdD,fun _ _ _ _ h=>h.1 ▸ lc,⟨rfl,rfl⟩,?_,?_
  ·show es.length<=sizeLine;rw [lm]; exact Zm (by lia)
  ·rintro j x ys _ hj hx ⟨rfl,rfl⟩;have hj:j<es.length:=hj;have hx:es[j]?=some x:=hx;have hj':j<ms.length:=by lia
   obtain ⟨t,_,rfl,et⟩:=ea.2 j x ms[j] hx (Ja hj');exists ·,rfl,_,·,_,·,_,·,rfl,?_;exists ·,·,Na Y2 (a:=ms[j].2.2) (b:=ts) (Y1 (Yp et)).2.1 le ⟨_,rfl,?_⟩;refine ite2 (fun hz=>?_) (fun hz=>?_)
   ·exists ·,·,(show 2<=sizeLine by decide),rfl,?_;rw [Jf hj',Zdw,Dh (of_decide_eq_true hz),Jg];rfl
   ·exists rfl,?_;rw [Jf hj',Zdw,Dg (of_decide_eq_false (Ft _ ▸ hz)),J0]
  rintro ys _ ⟨rfl,rfl⟩;rw [show ms.take es.length=ms by rw [lm,Jt]];obtain ⟨kd,dn⟩:=Zhn nd ok ndx (x:=ts);rw [hms] at kd dn;generalize hdue:T8 ms ts=due at kd dn;refine g_nx ?_;dsimp only;have dl:due.length<=5000:=by rw [<- hdue]; unfold T8; rw [List.length_map]; exact Nat.le_trans (List.length_filter_le _ _) lb
  exists ·,⟨nofun,nofun⟩,fun i ρ M'=>∃ v5 v6 v7 v8 v9 v10:Option D,M<+:M'/\ρ=[some (.cell f),some (.cell c0),some (.lst (xs.map fun x=>D.lst (x.map .int))),some e,some (.lst (due.map mdD)),v5,v6,v7,v8,v9,v10],fun _ _ _ _ _=>trivial,⟨_,_,_,_,_,_,Jd _,rfl⟩,?_,?_
  ·rintro i x ρ M1 hi rfl ⟨v5,v6,v7,v8,v9,v10,p1,rfl⟩;have he1:=Xy p1 he;exists ·,_,·,(Y1 he1).2.2,?_;have F2:FamAt Zj (M1++[MO.lst (ts.map .int)]) f zs:=Fa.pre (p1.trans (Gb _ _));exists ·,·,f,_,zs,ts,rfl,F2,Ve,⟨ok,z4,t3⟩,fun M3 c ps q1 q2 q3 q4 q5=>?_;have p3:M1<+:M3:=(Gb _ _).trans q1;have he3:=Xy p3 he1;have hh3:lsOf M3 (.cell M1.length)=some (ts.map .int):=Xy q1 Ve;exists ·,_,·,(Y1 (Yp q3)).1,·,iteF ?_;exists ·,·,Na Y2 (a:=ts) (b:=ts) (Y1 hh3).2.1 (Y1 he3).2.1 ⟨_,rfl,?_⟩;rw [Di rfl];refine iteF ?_;generalize hmm:Xj zs ts 2=mm at q5 kd;have lpm:=q5.ln
   have lmm:mm.length<=200:=by rw [<- hmm]; exact Zaa (Pp (by rw [Jb]; exact z4))
   have lc3:=(Y1 (Yp q3)).2.1;have lz:(ps.zip mm).length=ps.length:=by rw [G6]; lia
   exists ·,_,lc3,?_,fun j ys M'=>M3=M'/\ys=(((ps.zip mm).take j).filter fun x=>decide (x.2.2∈xs)).map fun x=>pcD x.1,fun _ _ _ _ h=>h.1 ▸ lc3,⟨rfl,rfl⟩,?_,?_
   ·show (ps.map pcD).length<=sizeLine;rw [Jb]; exact Zm (by lia)
   ·rintro j x ys _ hj hx ⟨rfl,rfl⟩;obtain ⟨hj',rfl⟩:=Z6 hx;have hjm:j<mm.length:=by lia
    obtain ⟨a1,a2⟩:=q5.at1 j ps[j] mm[j] (Ja hj') (Ja hjm);have ez:(ps.zip mm).take (j+1)=(ps.zip mm).take j++[(ps[j],mm[j])]:=by rw [Jf (by lia),G0]
    exists ·,rfl,_,·,_,·,rfl,?_;exists ·,·,Zru (Yp a2) ⟨_,rfl,ite2 (fun hz=>?_) (fun hz=>?_)⟩
    ·exists ·,·,(show 2<=sizeLine by decide),rfl,?_;rw [ez,Gx,Jg,Bz (by simpa using of_decide_eq_true hz)];rfl
    ·exists rfl,?_;rw [ez,Gx,B0 (by simpa using of_decide_eq_false (Ft _ ▸ hz)),Fh,J0]
   rintro ys _ ⟨rfl,rfl⟩;rw [show (ps.zip mm).take (ps.map pcD).length=ps.zip mm by rw [Jb,<- lz,Jt]];have e2:(((ps.zip mm).filter fun x=>decide (x.2.2∈xs)).map (·.2))=mm.filter fun m=>decide (m.2∈xs):=by
    have:(ps.zip mm).map (·.2)=mm:=List.map_snd_zip (by lia)
    conv=>rhs; rw [<- this]
    rw [List.filter_map];rfl
   generalize hks:(ps.zip mm).filter (fun x=>decide (x.2.2∈xs))=ks at e2;have lk:ks.length=due.length:=by rw [<- kd.length_eq,<- e2,Jb]
   have wok:∀ m∈mm,∀ w∈m.1,PyData.strOk w.1=true/\PyData.strOk w.2=true:=fun m hm w hw=>by
    have go:∀ lg∈Yt (zs.map (·.1)),PyData.strOk lg.1=true/\PyData.strOk lg.2=true:=fun lg hl=>by
     obtain ⟨g1,g2⟩:=Uo hl;obtain ⟨z1,y1,e1⟩:=Ji.mp g1;obtain ⟨z2,y2,e2⟩:=Ji.mp g2;exists e1 ▸ zk z1 y1,e2 ▸ zk z2 y2
    rw [<- hmm] at hm;rcases Zab.mp hm with ⟨lg,hl,a,_⟩ | ⟨lg,hl,mo,hm',_,a,_,_⟩
    ·rw [a] at hw; rw [Jj.mp hw]; exact go lg hl
    ·rw [a] at hw;rcases Jq.mp hw with r | hw
     ·rw [r]; exact go lg hl
     ·rw [Jj.mp hw]; exact go mo hm'
   have kmem:∀ x∈ks,MdIs M3 (pcD x.1) x.2/\x.2∈mm:=fun x hx=>by
    rw [<- hks] at hx;obtain ⟨j,hj,rfl⟩:=Js (G4.mp hx).1;have h1:j<ps.length:=by lia
    have h2:j<mm.length:=by lia
    rw [G0];obtain ⟨a1,a2⟩:=q5.at1 j ps[j] mm[j] (Ja h1) (Ja h2);exists ⟨_,_,rfl,Yp a1,Yp a2⟩,Jo h2
   have pyk:PyRs M3 (ks.map fun x=>pcD x.1) ((ks.map (·.2)).map pyMd):=by
    clear e2 hks lk
    induction ks with
    | nil=>exact .nil
    | cons x r ih=>exact .cons (Zlv (kmem x Jm).1) (ih fun y hy=>kmem y (Jk _ hy))
   have lay:PyData.canLayAll0 ((ks.map (·.2)).map pyMd)=true:=Zc2 (n:=3) fun d hd=>by
    obtain ⟨m,hm,rfl⟩:=Ji.mp hd;obtain ⟨x,hx,rfl⟩:=Ji.mp hm;exact Zlm (wok _ (kmem x hx).2)
   have lk1:(ks.map fun x=>pcD x.1).length=ks.length:=Jb _;have ld1:(due.map mdD).length=due.length:=Jb _;refine g_nx ?_;dsimp only;exists ·,·,·,·,.inl ⟨_,rfl,_,rfl,?_⟩;rw [Di (by rw [lk1,ld1,lk])];refine iteF ?_;exists ·,·,?_,fun j ys M'=>M3=M'/\ys=(List.replicate j true).map D.bl,fun _ _ _ _ _=>rfl,⟨rfl,rfl⟩,?_,?_
   ·show (due.map mdD).length<=sizeLine;rw [ld1]; exact Zm (by lia)
   ·rintro j x ys _ hj hx ⟨rfl,rfl⟩;obtain ⟨hj',rfl⟩:=Z6 hx;have dm:due[j]∈mm:=by
     have:=kd.mem_iff.mpr (Jo hj');exact (G4.mp this).1
    have sh:=Zlm (wok _ dm);exists ·,Vy rfl,·,_,_,_,pyMd due[j],rfl,rfl,pyk,Zlv (Zt8 M3 due[j]),lay,sh.1,Jv sh.2 nofun,.inl ⟨_,rfl,rfl,?_⟩;rw [Zek,e2,kd.count_eq,Nat.le_antisymm (List.nodup_iff_count.mp dn _) (List.count_pos_iff.mpr (Jo hj')),List.replicate_succ',Jg];rfl
   rintro ys _ ⟨rfl,rfl⟩;exists _,·,rfl,·,?_;rw [show ∀ n:Nat,(List.replicate n true).all id=true by intro n; induction n with | zero=>rfl | succ n ih=>rw [List.replicate_succ,List.all_cons,ih]; rfl];refine iteF ?_;have l2:(M1++[MO.lst (ts.map D.int)]).length=M1.length+1:=by rw [Jc]; rfl
   rw [l2] at q2 q5;have tb:∀ m∈mm,m.2.length<=5000:=fun m hm=>by
    rw [<- hmm] at hm;have h2:m.2.length<=4 ^ 2*ts.length:=by
     rcases Gc.mp (show m∈([]++lev zs ts 1)++lev zs ts 2 from hm) with z | z
     ·rw [List.nil_append] at z;have:=(T5 nd ok z).1;lia
     ·exact (T5 nd ok z).1
    lia
   have st0:∀ p∈ps,(∃ x:List D,M3[p.1]?=some (.lst x))/\∃ y:List D,M3[p.2]?=some (.lst y)/\y.length<=6000+0:=fun p hp=>by
    obtain ⟨j,hj,rfl⟩:=Js hp;have h2:j<mm.length:=by lia
    obtain ⟨a1,a2⟩:=q5.at1 j ps[j] mm[j] (Ja hj) (Ja h2);exists ⟨_,a1⟩,_,a2,?_;rw [Jb];have:=tb _ (Jo h2);lia
   exists ·,_,lc3,fun j ρ M'=>∃ v9 v10:Option D,M1<+:M'/\M'[c]?=some (.lst (ps.map pcD))/\(∀ p∈ps,(∃ x:List D,M'[p.1]?=some (.lst x))/\∃ y:List D,M'[p.2]?=some (.lst y)/\y.length<=6000+j)/\ρ=[some (.cell f),some (.cell c0),some (.lst (xs.map fun x=>D.lst (x.map .int))),some e,some (.lst (due.map mdD)),some (.int (0+(i:Int))),some (.cell M1.length),some (.cell c),some (.lst (ks.map fun x=>pcD x.1)),v9,v10],fun _ _ _ _ h=>(by obtain ⟨_,_,_,z,_⟩:=h; exact (Y1 (Yp z)).2.1),⟨_,_,p3,q3,st0,rfl⟩,?_,?_
   ·rintro j x ρ M4 hj hx ⟨v9,v10,r1,r2,r3,rfl⟩;obtain ⟨hj',rfl⟩:=Z6 hx;have pm:=Jo hj';obtain ⟨⟨x0,h1⟩,y0,h2,hy⟩:=r3 _ pm;obtain ⟨g1,g2⟩:=q5.ge _ pm;obtain ⟨n1,n2⟩:=q4 _ pm;generalize ps[j]=p at pm h1 h2 g1 g2 n1 n2;have hjm:j<200:=by lia
    refine ⟨_,rfl,rfl,_,_,rfl,_,_,rfl,rfl,?_⟩;refine ⟨_,rfl,p.1,_,rfl,rfl,h1,?_⟩;obtain ⟨y1,h3,hy1⟩:∃ y1:List D,(M4.set p.1 (.lst []))[p.2]?=some (.lst y1)/\y1.length<=6000+j:=by
     by_cases e:p.2=p.1
     ·exists [],?_,Ge _;rw [e];exact Jy (X0 h1)
     ·exists y0,Yv h2 e,hy
    exists ·,Vy (Yp h3),p.2,_,·,rfl,h3,Be (by lia:y1.length<=7000) nofun,.inl ⟨_,_,?_,?_,?_,rfl⟩
    ·exact Wv (Wv r1 (by lia)) (by lia)
    ·exact Yv (Yv r2 (Ne.symm n1)) (Ne.symm n2)
    ·have keep:∀ (k:Nat) (x:List D),M4[k]?=some (.lst x)->x.length<=6000+j->∃ y:List D,((M4.set p.1 (.lst [])).set p.2 (.lst (y1++[.int 5])))[k]?=some (.lst y)/\y.length<=6000+(j+1):=fun k x hx hl=>by
      have lk4:=X0 hx
      by_cases e2:k=p.2
      ·refine ⟨y1++[.int 5],?_,by rw [Jc]; show y1.length+1<=_; lia⟩;rw [e2];exact Jy (by rw [Go]; lia)
      ·by_cases e1:k=p.1
       ·exists [],?_,Ge _;rw [Gk (Ne.symm e2),e1];exact Jy (X0 h1)
       ·exact ⟨x,by rw [Gk (Ne.symm e2),Gk (Ne.symm e1)]; exact hx,by lia⟩
     intro q hq;obtain ⟨⟨a,ha⟩,b',hb,lb'⟩:=r3 q hq;exists ?_,keep _ _ hb lb'
     by_cases e2:q.1=p.2
     ·exact ⟨_,by rw [e2]; exact Jy (by rw [Go]; exact X0 h2)⟩
     ·by_cases e1:q.1=p.1
      ·exact ⟨[],by rw [Gk (Ne.symm e2),e1]; exact Jy (X0 h1)⟩
      ·exact ⟨a,by rw [Gk (Ne.symm e2),Gk (Ne.symm e1)]; exact ha⟩
   ·rintro ρ M4 ⟨v9,v10,r1,r2,r3,rfl⟩;exists ·,c,·,rfl,r2,.inl ⟨_,_,_,_,_,_,p1.trans (Wv r1 (by lia)),rfl⟩
  ·rintro ρ M1 ⟨v5,v6,v7,v8,v9,v10,p1,rfl⟩;exact .inl (k _ p1)
open L3
def Zpz (ok:NtOk qs) (t:Tld zs qs):zs.map (·.1)=qs.map (·.1)/\FmOk zs/\∀ z∈zs,PyData.strOk z.1=true:=by
 have at':∀ i (h:i<zs.length),zs[i].1=(qs[i]'(by rw [<- t.1]; exact h)).1/\zs[i].2.1.Perm (qs[i]'(by rw [<- t.1]; exact h)).2:=fun i h=>t.2 i _ _ (Ja h) (Ja _);exists List.ext_getElem (by rw [Jb,Jb]; exact t.1) fun i h1 h2=>?_,⟨by rw [t.1]; exact ok.2.1,fun z hz=>?_⟩,fun z hz=>?_
 ·rw [Gz,Gz];rw [Jb] at h1;exact (at' i h1).1
 ·obtain ⟨i,hi,rfl⟩:=Js hz;have o:=(ok.2.2 _ (Jo (by rw [<- t.1]; exact hi:i<qs.length))).1;exists o.1.perm (at' i hi).2,o.2.perm (at' i hi).2
 ·obtain ⟨i,hi,rfl⟩:=Js hz;rw [(at' i hi).1];exact (ok.2.2 _ (Jo _)).2
theorem Zh7 (nd:(zs.map (·.1)).Nodup) (ok:FmOk zs) (h:lg∈Yt (zs.map (·.1))) {t u:List Int} (e:fwO zs lg t=some u):u.length<=4*t.length:=by
 obtain ⟨ns,go⟩:=Zk6 e;obtain ⟨g1,g2⟩:=Uo h;have gl:=go.len (Vh nd ok g1).2 (Vh nd ok g2).2;lia
theorem Zkw (nd:(zs.map (·.1)).Nodup) (ok:FmOk zs) {xs:List (List Int)} (h2:∀ x∈xs,x.length<=2) {e:En3} (h:e∈Yy zs (Yt (zs.map (·.1))) xs):e.2.2.length<=300:=by
 obtain ⟨t,ht,h⟩:=Gi.mp h;obtain ⟨lg,hl,h⟩:=Gi.mp h;have:=h2 t ht;rcases Up.mp h with ⟨_,_,e1⟩ | ⟨mo,u,hm,_,_,e1,e2⟩
 ·have:=Zh7 nd ok hl e1;lia
 ·have:=Zh7 nd ok hl e1;have:=Zh7 nd ok hm e2;lia
def pyEn (m:En3):PyData:=.tuple [.list (m.1.map .int),.list (m.2.1.map pyW),.list (m.2.2.map .int)]
theorem Zgo :∀ {es:List D} {ms:List En3},es.length=ms.length->(∀ (i:Nat) (e:D) (m:En3),es[i]?=some e->ms[i]?=some m->EnIs c0 M e m)->PyRs M es (ms.map pyEn)
 | [],[],_,_=>.nil
 | e::r,m::q,hl,h=>by
  obtain ⟨t,_,rfl,ht⟩:=h 0 e m rfl rfl;exact .cons (.tup (.cons (.seq rfl (Wu (Y2.ok M) _)) (.cons (.seq rfl (Zgn M _)) (.cons (.seq (Y1 (Yp ht)).2.1 (Wu (Y2.ok M) _)) .nil)))) (Zgo (Nat.succ.inj hl) fun i e' m' a b=>h (i+1) e' m' a b)
def Zqg {m:En3} (h:∀ w∈m.2.1,PyData.strOk w.1=true/\PyData.strOk w.2=true):Shp 3 (pyEn m):=by
 have si:∀ l:List Int,Shp 2 (.list (l.map .int)):=fun l=>Zc1 (Va (n:=0) fun d hd=>by
  obtain ⟨i,_,rfl⟩:=Ji.mp hd;exact Ra i) nofun
 refine Wj fun d hd=>?_;rcases Jq.mp hd with rfl | hd
 ·exact si _
 rcases Jq.mp hd with rfl | hd
 ·refine Va fun d hd=>?_;obtain ⟨w,hw,rfl⟩:=Ji.mp hd;refine Wj fun d hd=>?_;rcases Jq.mp hd with rfl | hd
  ·exact Zjr (h w hw).1
  ·rw [Jj.mp hd]; exact Zjr (h w hw).2
 ·rw [Jj.mp hd];exact si _
def Zkv {xs:List (List Int)} (zk:∀ z∈zs,PyData.strOk z.1=true) {e:En3} (h:e∈Yy zs (Yt (zs.map (·.1))) xs):∀ w∈e.2.1,PyData.strOk w.1=true/\PyData.strOk w.2=true:=fun w hw=>by
 have go:∀ lg∈Yt (zs.map (·.1)),PyData.strOk lg.1=true/\PyData.strOk lg.2=true:=fun lg hl=>by
  obtain ⟨g1,g2⟩:=Uo hl;obtain ⟨z1,y1,e1⟩:=Ji.mp g1;obtain ⟨z2,y2,e2⟩:=Ji.mp g2;exists e1 ▸ zk z1 y1,e2 ▸ zk z2 y2
 obtain ⟨t,ht,h⟩:=Gi.mp h;obtain ⟨lg,hl,h⟩:=Gi.mp h;rcases Up.mp h with ⟨_,a,_⟩ | ⟨mo,u,hm,_,a,_,_⟩
 ·rw [a] at hw; rw [Jj.mp hw]; exact go lg hl
 ·rw [a] at hw;rcases Jq.mp hw with r | hw
  ·rw [r]; exact go lg hl
  ·rw [Jj.mp hw]; exact go mo hm
theorem Zou {es:List D} {ms:List En3} (h:EnAt c0 M es ms) (hc:M[c0]?=some (.lst es)) (ok:∀ m∈ms,∀ w∈m.2.1,PyData.strOk w.1=true/\PyData.strOk w.2=true) {K:Bool->Prop} (k:K (decide (ms=[]))):eqV (.cell c0) (.lst []) M K:=by
 have sh:Shp 4 (.list (ms.map pyEn)):=Va fun d hd=>by
  obtain ⟨m,hm,rfl⟩:=Ji.mp hd;exact Zqg (ok m hm)
 refine .inr ⟨_,_,.seq (Y1 (Yp hc)).2.1 (Zgo h.1 h.2),.seq rfl .nil,sh.shaped nofun,rfl,?_⟩;cases ms with
 | nil=>exact k
 | cons m r=>exact k
abbrev spLaw (K:W.Frag) (Pt:Addr):Sp:=Zll K Pt lamP lamQ
theorem Jbt (T:Txt mg) (Za6:Mkr P w K mg base "Code" C 4 ["self", "table"] (Pb C Pt lamP lamQ)) (Vl:Cal P w K mg base "_law_open" 1 ["_law_script", "_law_place"] (spOf ⟨C,K⟩ Zr9)) (Zn:Cal P w K mg base "_law_draw" 1 ["_law_hand", "_law_many"] (spOf ⟨C,K⟩ Zkx)) (Ud:Cal P w K mg base "_law_names" 2 ["_law_hand"] (spOf ⟨C,K⟩ Zd1)) (Vk:Cal P w K mg base "_law_tables" 3 ["_law_hand", "_law_many", "_law_longest"] (spOf ⟨C,K⟩ Zat)) (Vm:Cal P w K mg base "_law_family" 6 ["_law_names_here", "_law_tables_here"] (spOf ⟨C,K⟩ (Zmk Zj Pt lamP lamQ))) (Ug:Cal P w K mg base "_law_books" 1 ["_law_names_here", "_law_tables_here"] (spOf ⟨C,K⟩ Zd3)) (V9:Cal P w K mg base "_law_texts" 1 ["_law_tables_here"] (spOf ⟨C,K⟩ Zdz)) (Tb:Cal P w K mg base "_law_ends" 2 ["_law_books_here", "_law_names_here", "_law_texts_here"] (spOf ⟨C,K⟩ Zin)) (Uc:Cal P w K mg base "_law_right" 8 ["_law_family_here", "_law_ends_here", "_law_texts_here", "_law_end"] (spOf ⟨C,K⟩ (Zd0 Zj))) {f:Addr} (F:Fun K "law" "law" Ph f fd):FnOk P w K mg base CX0 9 f fd ["_law_script"] (spOf ⟨C,K⟩ (Zsa Pt lamP lamQ)):=by
 refine L3.Fun.ok3 F D7 (fun ds M K3 h=>?_) (fun cdv A outer s H E hr=>?_)
 ·obtain ⟨ns,rfl,_⟩:=h;rfl
 ·have SC:=D7;have hu:=hr.units;have hu1:=Wz hr;have Zhz:Room 5 _:=hr.mono nofun;have Sh:Room 1 _:=hr.mono nofun;have Zo:Room 1 _:=hr.mono nofun;have P5:Room 2 _:=hr.mono nofun;have Qj:Room 3 _:=hr.mono nofun;have Qk:Room 6 _:=hr.mono nofun;have P8:Room 1 _:=hr.mono nofun;have P1:Room 1 _:=hr.mono nofun;have Zai:Room 2 _:=hr.mono nofun;have P4:Room 8 _:=hr.mono nofun;refine ⟨_,_,(Zc (Zt (i:=1) SC.nd rfl (Or.inl rfl) (Zy Vl Sh rfl (Za (pv 0) (Za Zi Ze))))
 (Zc (Zt (i:=2) SC.nd rfl (Or.inl rfl) (Z2 (Xo (K':=K) rfl) Zi (Zy Zn Zo rfl (Za (pv 1) (Za Zi Ze)))))
 (Zc (Zt (i:=3) SC.nd rfl (Or.inl rfl) (Yh (Zbe (K':=K) rfl) (Zy Ud P5 rfl (Za (pv 1) Ze)) Y9 (Yf (pv 2))))
 (Zc (Zt (i:=4) SC.nd rfl (Or.inl rfl) (Zy Vk Qj rfl (Za (pv 1) (Za (pv 2) (Za (Yk (Wd (K':=K) rfl) (Yr (Za Zi (Za Zi (Za Zi (Za Zi Ze))))) (Zy Zn Zo rfl (Za (pv 1) (Za Zi Ze))) (fun _ _=>rfl)) Ze)))))
 (Zc (Zt (i:=5) SC.nd rfl (Or.inl rfl) (Zy Vm Qk rfl (Za (pv 3) (Za (pv 4) Ze))))
 (Zc (Zt (i:=6) SC.nd rfl (Or.inl rfl) (Zy Ug P8 rfl (Za (pv 3) (Za (pv 4) Ze))))
 (Zc (Zt (i:=7) SC.nd rfl (Or.inl rfl) (Zy V9 P1 rfl (Za (pv 4) Ze)))
 (Zc (Zt (i:=8) SC.nd rfl (Or.inl rfl) (Zy Tb Zai rfl (Za (pv 6) (Za (pv 3) (Za (pv 7) Ze)))))
 (Zc (Yx PassesOwn.never rfl (N5 rfl T.b_range (Za Zi (Za Zi Ze))) (Zq (i:=9) SC.nd rfl (Or.inl rfl))
 (Zc (Zt (i:=1) SC.nd rfl (Or.inl rfl) (Zy Vl Sh rfl (Za (pv 0) (Za (pv 9) Ze))))
 (Zk (Xm (Z8 (Zed (K':=K) rfl hu) (pv 8) (Yr Ze) (Yo _))
 (Zc (Zt (i:=10) SC.nd rfl (Or.inl rfl) (Yk (Wd (K':=K) rfl) (Yk (Wd (K':=K) rfl) (pv 8) (Z2 Wb (Zy Zn Zo rfl (Za (pv 1) (Za Zi Ze))) (Zw (W8 (K:=K) rfl) (by rfl) T.b_len Dm (Za (pv 8) Ze))) (fun _ _=>rfl)) Zi (fun _ _=>rfl)))
 (Zk (Xm (Zgr (Zgq (Zy Uc P4 rfl (Za (pv 5) (Za (pv 8) (Za (pv 7) (Za (pv 10) Ze)))))))
 (Zk (Z5 Zbu))
 Z7)))
 Z7))))
 (Zk (Z5 Zbu))))))))))),fun _=>(Zz (Yd (Yj (Zf (Zg 0) (Zf Z3 Zs))) (s_g 1))
 (Zz (Yd (s_op Vc Z3 (Yj (Zf (Zg 1) (Zf Z3 Zs)))) (s_g 2))
 (Zz (Yd (s_sl Zbj (Yj (Zf (Zg 1) Zs)) Te (Uu (Zg 2))) (s_g 3))
 (Zz (Yd (Yj (Zf (Zg 1) (Zf (Zg 2) (Zf (s_op s_ix (Vr (Zf Z3 (Zf Z3 (Zf Z3 (Zf Z3 Zs))))) (Yj (Zf (Zg 1) (Zf Z3 Zs)))) Zs)))) (s_g 4))
 (Zz (Yd (Yj (Zf (Zg 3) (Zf (Zg 4) Zs))) (s_g 5))
 (Zz (Yd (Yj (Zf (Zg 3) (Zf (Zg 4) Zs))) (s_g 6))
 (Zz (Yd (Yj (Zf (Zg 4) Zs)) (s_g 7))
 (Zz (Yd (Yj (Zf (Zg 6) (Zf (Zg 3) (Zf (Zg 7) Zs)))) (s_g 8))
 (Zz (Vb (Zql (Zf Z3 (Zf Z3 Zs))) (s_g 9)
 (Zz (Yd (Yj (Zf (Zg 0) (Zf (Zg 9) Zs))) (s_g 1))
 (Vt (X1 (s_op s_ne (Zg 8) (Vr Zs)))
 (Zz (Yd (s_op s_ix (s_op s_ix (Zg 8) (s_op Zjv (Yj (Zf (Zg 1) (Zf Z3 Zs))) (s_cb Sl (Zf (Zg 8) Zs)))) Z3) (s_g 10))
 (Vt (Zm6 (s_b (Yj (Zf (Zg 5) (Zf (Zg 8) (Zf (Zg 7) (Zf (Zg 10) Zs)))))))
 (We s_bl)
 Wa))
 Wa)))
 (We s_bl)))))))))),fun ds M Kk hM hD h=>?_⟩
  obtain ⟨ns,rfl,h⟩:=h;obtain ⟨rfl,hlen,k⟩:=h;exists ·,ns,0,rfl,⟨hlen,nofun,nofun⟩,?_;have h0:([MO.tab Pt lamP lamQ]++[MO.hand])[0]?=some (.tab Pt lamP lamQ):=rfl;have h1:([MO.tab Pt lamP lamQ]++[MO.hand])[1]?=some .hand:=rfl;generalize [MO.tab Pt lamP lamQ]++[MO.hand]=M1 at h0 h1;exists ·,1,2,rfl,h1,⟨nofun,nofun⟩,fun y y0 y1=>?_;obtain ⟨n,en,n2,n4⟩:∃ n:Nat,2+y=(n:Int)/\2<=n/\n<=3:=⟨(2+y).toNat,by lia,by lia,by lia⟩;dsimp only [add3];rw [en];exists ·,1,rfl,h1,fun zs lz nd okz=>⟨_,rfl,_,rfl,_,(Y1 Ve).2.1,?_⟩;rw [Ziq,Zip];have ln:(zs.take n).length=n:=by rw [Jn]; lia
  have ndn:(zs.take n).Nodup:=nd.sublist (List.take_sublist _ _);have okn:∀ z∈zs.take n,z.length<=8/\PyData.strOk z=true:=fun z hz=>okz z (Fn hz);generalize zs.take n=nms at ln ndn okn;have h02:(M1++[MO.lst (zs.map .str)])[0]?=some (.tab Pt lamP lamQ):=Xg h0;have h12:(M1++[MO.lst (zs.map .str)])[1]?=some .hand:=Xg h1;generalize M1++[MO.lst (zs.map .str)]=M2 at h02 h12;refine ⟨_,rfl,_,rfl,(show 4<=sizeLine by decide),_,rfl,1,4,rfl,h12,⟨nofun,nofun⟩,fun q q0 q1=>?_⟩;obtain ⟨lg,elg,lg1,lg4⟩:∃ lg:Int,L2.atI [D.int 2,D.int 2,D.int 2,D.int 3] q=some (.int lg)/\1<=lg/\lg<=4:=by
   have:q=0\/q=1\/q=2\/q=3:=by lia
   rcases this with rfl | rfl | rfl | rfl
   ·exact ⟨2,rfl,nofun,nofun⟩
   ·exact ⟨2,rfl,nofun,nofun⟩
   ·exact ⟨2,rfl,nofun,nofun⟩
   ·exact ⟨3,rfl,nofun,nofun⟩
  exists _,_,·,rfl,elg,1,n,lg,rfl,h12,⟨by lia,by lia,lg1,lg4⟩,fun Ls lL okL=>?_;have h03:(M2++[MO.lst (Ls.map tbD)])[0]?=some (.tab Pt lamP lamQ):=Xg h02;have hT3:(M2++[MO.lst (Ls.map tbD)])[M2.length]?=some (.lst (Ls.map tbD)):=Wc;generalize M2++[MO.lst (Ls.map tbD)]=M3 at h03 hT3;generalize M2.length=ct at hT3;exists ·,·,0,_,_,nms,Ls,rfl,h03,rfl,Yp hT3,⟨ndn,by lia,fun z hz=>(okn z hz).1,fun L hL=>(okL L hL).1⟩,fun M4 f zs p4 lf F t=>?_;exists ·,·,_,_,nms,Ls,rfl,rfl,Xy p4 (Yp hT3),⟨ndn,by lia,fun L hL=>(okL L hL).1⟩,fun M5 b p5 lb B=>?_;exists ·,_,Ls,rfl,Xy (p4.trans p5) (Yp hT3),⟨by lia,fun L hL=>⟨(okL L hL).2,(okL L hL).1.1⟩⟩,fun xs ndx x31 x2=>?_
  have F:=F.pre p5;have ez:(nms.zip Ls).map (·.1)=nms:=List.map_fst_zip (by lia);have okq:NtOk (nms.zip Ls):=by
   exists by rw [ez]; exact ndn,by rw [G6]; lia,fun q hq=>?_;have:=List.of_mem_zip hq;exists (okL _ this.2).1,(okn _ this.1).2
  have l4:(nms.zip Ls).length<=4:=by rw [G6]; lia
  generalize nms.zip Ls=qs at ez okq t B l4;obtain ⟨en,fm,zk⟩:=Zpz okq t;have lz:zs.length<=4:=by rw [t.1]; exact l4
  rw [ez] at en;have ndz:(zs.map (·.1)).Nodup:=by rw [en]; exact ndn
  exists ·,·,·,b,_,zs,qs,xs,rfl,B,(by rw [en]; rfl),⟨ndz,fm,t,okq,lz,x31,x2⟩,fun M6 es p6 h6 e6=>?_;have F:=F.pre p6;generalize M5.length=ce at h6 e6;exists 1,7,rfl,⟨by lia,by lia,by lia,by lia⟩,fun i ρ M'=>∃ v1 v9 v10:Option D,ρ=[some (.frz (ns.map .int)),v1,some (.int n),some (.lst (nms.map .str)),some (.cell ct),some (.cell f),some (.cell b),some (.lst (xs.map fun x=>D.lst (x.map .int))),some (.cell ce),v9,v10]/\M6<+:M',fun _ _ _ _ _=>trivial,⟨_,_,_,rfl,Jd _⟩,?_,?_
  ·rintro i x ρ M8 hi rfl ⟨v1,v9,v10,rfl,p8⟩;have hi:i<6:=hi;refine ⟨_,rfl,_,rfl,ns,1+(i:Int),rfl,⟨hlen,by lia,by lia⟩,?_⟩;have p9:M6<+:M8++[MO.hand]:=p8.trans ⟨_,rfl⟩;have h9:(M8++[MO.hand])[M8.length]?=some .hand:=Wc;generalize M8.length=hh at h9;generalize M8++[MO.hand]=M9 at p9 h9;have hc9:=Z4 p9 h6;have e9:=e6.keep p9;refine ⟨_,rfl,Ge _,Zou e9 hc9 (fun m hm=>Zkv zk hm) ⟨_,rfl,ite2 (fun hz=>?_) (fun hz=>.inl ⟨_,_,_,rfl,p9⟩)⟩⟩;obtain ⟨ms,hms⟩:∃ ms,Yy zs (Yt (zs.map (·.1))) xs=ms:=⟨_,rfl⟩;have m0:0<ms.length:=by
    cases ms with
    | nil=>rw [hms] at hz; cases hz
    | cons _ _=>exact Nat.succ_pos _
   have e9':=e9;rw [hms] at e9';have le:=e9'.1;exists ·,·,hh,5000,rfl,h9,⟨nofun,nofun⟩,fun u u0 u1=>?_;exists ·,?_;dsimp only [uNil];refine Zaf (Yp hc9) ⟨_,_,rfl,rfl,(by lia),?_⟩;obtain ⟨a,ea,ha⟩:=Zl5 u (n:=es.length) (by lia);dsimp only;rw [ea];have eh:=Ja ha;obtain ⟨t,t1,t2,t3⟩:=e9'.2 a es[a] ms[a] eh (Ja _);exists _,_,_,(Y1 (Yp hc9)).2.2,rfl,U7 eh,?_;rw [t2];have F9:=F.pre p9;have he:ms[a].2.2.length<=300:=Zkw ndz fm x2 (by rw [hms]; exact Jo _);exists _,_,·,rfl,rfl,·,·,·,·,f,ce,_,zs,es,xs,·,F9,hc9,e9,Yp t3,⟨ndz,fm,lz,zk,ndx,x31,he⟩,fun M' p'=>⟨_,rfl,iteF (.inl ⟨_,_,_,rfl,p9.trans p'⟩)⟩
  ·rintro ρ M8 ⟨v1,v9,v10,rfl,p8⟩;exact .inl (k _)
end
def len1 {Q:List τ->Prop} (h:∀ a,Q [a]) (us:List τ) (hl:us.length=1):Q us:=match us,hl with | [a],_=>h a
def len2 {Q:List τ->Prop} (h:∀ a b,Q [a,b]) (us:List τ) (hl:us.length=2):Q us:=match us,hl with | [a,b],_=>h a b
def len3 {Q:List τ->Prop} (h:∀ a b c,Q [a,b,c]) (us:List τ) (hl:us.length=3):Q us:=match us,hl with | [a,b,c],_=>h a b c
def len4 {Q:List τ->Prop} (h:∀ a b c d,Q [a,b,c,d]) (us:List τ) (hl:us.length=4):Q us:=match us,hl with | [a,b,c,d],_=>h a b c d
abbrev NI (K:W.Frag) (s:Str) (f:Addr):Prop:=W.nsIn K mainGlobals s=some (some (.ref f))
abbrev LK (K:W.Frag) (f:Addr) (q n:Str) (s:Stmt) oc od kV dc pm an cd ct sl:=K.lookup f=some ⟨oc,od,.func (W.fnOf q n (Zv s) (Zu s) (Zh s) .none kV dc pm an cd ct),sl⟩
abbrev LF (K:W.Frag) (f:Addr) (q:Str) (s:Stmt) oc od kV dc pm an cd ct sl:=LK K f q q s oc od kV dc pm an cd ct sl
abbrev CI (K:W.Frag) (c:Value) (s:Str):Prop:=W.codeIn K c s=true
abbrev KI (K:W.Frag) (f:Addr):Prop:=W.keepIn K (.ref f)=true
def all_mk {l:W.OpenLaw} {w:World} {fa:Addr} (X:K.In h) (G:h.Ns mainGlobals mg) (hfa:mg "law"=some (.ref fa))(aC:NI K "Code" C)(gx_NoSign:NI K "NoSign" Z1)(gx_NoReading:NI K "NoReading" Zr)(gx_TooMany:NI K "TooMany" Zx)(gx_Family:NI K "Family" Zj)(a0:NI K "_law_draw" f0)(l0:LF K f0 "_law_draw" Jav oc0 od0 kV0 dc0 pm0 an0 cd0 ct0 sl0)(c0:CI K cd0 "_law_draw")(k0:KI K f0)(a1:NI K "_law_open" f1)(l1:LF K f1 "_law_open" Dx oc1 od1 kV1 dc1 pm1 an1 cd1 ct1 sl1)(c1:CI K cd1 "_law_open")(k1:KI K f1)(a2:NI K "_law_bytes" f2)(l2:LF K f2 "_law_bytes" Dz oc2 od2 kV2 dc2 pm2 an2 cd2 ct2 sl2)(c2:CI K cd2 "_law_bytes")(k2:KI K f2)(a3:NI K "_law_words" f3)(l3:LF K f3 "_law_words" Jbm oc3 od3 kV3 dc3 pm3 an3 cd3 ct3 sl3)(c3:CI K cd3 "_law_words")(k3:KI K f3)(a4:NI K "_law_signs" f4)(l4:LF K f4 "_law_signs" Dw oc4 od4 kV4 dc4 pm4 an4 cd4 ct4 sl4)(c4:CI K cd4 "_law_signs")(k4:KI K f4)(a5:NI K "_law_table" f5)(l5:LF K f5 "_law_table" Jce oc5 od5 kV5 dc5 pm5 an5 cd5 ct5 sl5)(c5:CI K cd5 "_law_table")(k5:KI K f5)(a6:NI K "odds_between" f6)(l6:LF K f6 "odds_between" Y4 oc6 od6 kV6 dc6 pm6 an6 cd6 ct6 sl6)(c6:CI K cd6 "odds_between")(k6:KI K f6)(a7:NI K "fault" f7)(l7:LF K f7 "fault" Tv oc7 od7 kV7 dc7 pm7 an7 cd7 ct7 sl7)(c7:CI K cd7 "fault")(k7:KI K f7)(a8:NI K "refuse_fault" f8)(l8:LF K f8 "refuse_fault" Y3 oc8 od8 kV8 dc8 pm8 an8 cd8 ct8 sl8)(c8:CI K cd8 "refuse_fault")(k8:KI K f8)(a9:NI K "beginnings" f9)(l9:LF K f9 "beginnings" Xp oc9 od9 kV9 dc9 pm9 an9 cd9 ct9 sl9)(c9:CI K cd9 "beginnings")(k9:KI K f9)(a10:W.findIn K (.ref C) "__init__"=some (some (.ref f10)))(l10:K.lookup f10=some ⟨oc10,od10,.func (W.fnOf "__init__" "Code.__init__" (Zv Z0) (Zu Z0) (Zh Z0) .none kV10 dc10 pm10 an10 (.ref c) ct10),sl10⟩)(c10:W.codeIn K (.ref c) "Code.__init__"=true)(k10:KI K f10)(n10:W.isFn K (.ref f10)=true)(a11:W.findIn K (.ref C) "word"=some (some (.ref f11)))(l11:LK K f11 "word" "Code.word" X5 oc11 od11 kV11 dc11 pm11 an11 cd11 ct11 sl11)(c11:CI K cd11 "Code.word")(k11:KI K f11)(n11:W.isFn K (.ref f11)=true)(a12:W.findIn K (.ref C) "sign"=some (some (.ref f12)))(l12:LK K f12 "sign" "Code.sign" X6 oc12 od12 kV12 dc12 pm12 an12 cd12 ct12 sl12)(c12:CI K cd12 "Code.sign")(k12:KI K f12)(n12:W.isFn K (.ref f12)=true)(a13:W.findIn K (.ref Z1) "__init__"=some (some (.ref f13)))(l13:LK K f13 "__init__" "NoSign.__init__" Ym oc13 od13 kV13 dc13 pm13 an13 cd13 ct13 sl13)(c13:CI K cd13 "NoSign.__init__")(k13:KI K f13)(n13:W.isFn K (.ref f13)=true)(a14:W.findIn K (.ref Zr) "__init__"=some (some (.ref f14)))(l14:LK K f14 "__init__" "NoReading.__init__" Ya oc14 od14 kV14 dc14 pm14 an14 cd14 ct14 sl14)(c14:CI K cd14 "NoReading.__init__")(k14:KI K f14)(n14:W.isFn K (.ref f14)=true)(a15:W.findIn K (.ref Zx) "__init__"=some (some (.ref f15)))(l15:LK K f15 "__init__" "TooMany.__init__" Yg oc15 od15 kV15 dc15 pm15 an15 cd15 ct15 sl15)(c15:CI K cd15 "TooMany.__init__")(k15:KI K f15)(n15:W.isFn K (.ref f15)=true)(a16:NI K "write" f16)(l16:LF K f16 "write" Tu oc16 od16 kV16 dc16 pm16 an16 cd16 ct16 sl16)(c16:CI K cd16 "write")(k16:KI K f16)(a17:NI K "word_at" f17)(l17:LF K f17 "word_at" W4 oc17 od17 kV17 dc17 pm17 an17 cd17 ct17 sl17)(c17:CI K cd17 "word_at")(k17:KI K f17)(a18:NI K "read" f18)(l18:LF K f18 "read" Qr oc18 od18 kV18 dc18 pm18 an18 cd18 ct18 sl18)(c18:CI K cd18 "read")(k18:KI K f18)(a19:NI K "_law_names" f19)(l19:LF K f19 "_law_names" Jcb oc19 od19 kV19 dc19 pm19 an19 cd19 ct19 sl19)(c19:CI K cd19 "_law_names")(k19:KI K f19)(a20:NI K "_law_tables" f20)(l20:LF K f20 "_law_tables" D6 oc20 od20 kV20 dc20 pm20 an20 cd20 ct20 sl20)(c20:CI K cd20 "_law_tables")(k20:KI K f20)(a21:W.findIn K (.ref Zj) "__init__"=some (some (.ref f21)))(l21:LK K f21 "__init__" "Family.__init__" Yn oc21 od21 kV21 dc21 pm21 an21 cd21 ct21 sl21)(c21:CI K cd21 "Family.__init__")(k21:KI K f21)(n21:W.isFn K (.ref f21)=true)(a22:W.findIn K (.ref Zj) "add"=some (some (.ref f22)))(l22:LK K f22 "add" "Family.add" Xq oc22 od22 kV22 dc22 pm22 an22 cd22 ct22 sl22)(c22:CI K cd22 "Family.add")(k22:KI K f22)(n22:W.isFn K (.ref f22)=true)(a23:W.findIn K (.ref Zj) "names"=some (some (.ref f23)))(l23:LK K f23 "names" "Family.names" Y5 oc23 od23 kV23 dc23 pm23 an23 cd23 ct23 sl23)(c23:CI K cd23 "Family.names")(k23:KI K f23)(n23:W.isFn K (.ref f23)=true)(a24:W.findIn K (.ref Zj) "code"=some (some (.ref f24)))(l24:LK K f24 "code" "Family.code" Xf oc24 od24 kV24 dc24 pm24 an24 cd24 ct24 sl24)(c24:CI K cd24 "Family.code")(k24:KI K f24)(n24:W.isFn K (.ref f24)=true)(a25:NI K "_law_family" f25)(l25:LF K f25 "_law_family" Dy oc25 od25 kV25 dc25 pm25 an25 cd25 ct25 sl25)(c25:CI K cd25 "_law_family")(k25:KI K f25)(a26:NI K "_law_books" f26)(l26:LF K f26 "_law_books" Jau oc26 od26 kV26 dc26 pm26 an26 cd26 ct26 sl26)(c26:CI K cd26 "_law_books")(k26:KI K f26)(a27:NI K "_law_go" f27)(l27:LF K f27 "_law_go" Jbw oc27 od27 kV27 dc27 pm27 an27 cd27 ct27 sl27)(c27:CI K cd27 "_law_go")(k27:KI K f27)(a28:NI K "gone" f28)(l28:LF K f28 "gone" Qt oc28 od28 kV28 dc28 pm28 an28 cd28 ct28 sl28)(c28:CI K cd28 "gone")(k28:KI K f28)(a29:NI K "unlike_legs" f29)(l29:LF K f29 "unlike_legs" Xe oc29 od29 kV29 dc29 pm29 an29 cd29 ct29 sl29)(c29:CI K cd29 "unlike_legs")(k29:KI K f29)(a30:NI K "led_from" f30)(l30:LF K f30 "led_from" Wh oc30 od30 kV30 dc30 pm30 an30 cd30 ct30 sl30)(c30:CI K cd30 "led_from")(k30:KI K f30)(a31:NI K "mendings" f31)(l31:LF K f31 "mendings" Wg oc31 od31 kV31 dc31 pm31 an31 cd31 ct31 sl31)(c31:CI K cd31 "mendings")(k31:KI K f31)(a32:NI K "_law_texts" f32)(l32:LF K f32 "_law_texts" D3 oc32 od32 kV32 dc32 pm32 an32 cd32 ct32 sl32)(c32:CI K cd32 "_law_texts")(k32:KI K f32)(a33:NI K "_law_ends" f33)(l33:LF K f33 "_law_ends" Jcm oc33 od33 kV33 dc33 pm33 an33 cd33 ct33 sl33)(c33:CI K cd33 "_law_ends")(k33:KI K f33)(a34:NI K "_law_found" f34)(l34:LF K f34 "_law_found" Jat oc34 od34 kV34 dc34 pm34 an34 cd34 ct34 sl34)(c34:CI K cd34 "_law_found")(k34:KI K f34)(a35:NI K "_law_right" f35)(l35:LF K f35 "_law_right" Jax oc35 od35 kV35 dc35 pm35 an35 cd35 ct35 sl35)(c35:CI K cd35 "_law_right")(k35:KI K f35)(a36:NI K "law" f36)(l36:LF K f36 "law" Ph oc36 od36 kV36 dc36 pm36 an36 cd36 ct36 sl36)(c36:CI K cd36 "law")(k36:KI K f36)(xei_NoSign:L2.excI K Z1 f13=true)(xin_NoSign:L2.Qh K Z1=some (some (.ref f13)))(xob_NoSign:W.mroIn K Z1 (.type "object")=some true)(xbx_NoSign:W.mroIn K Z1 (.type "BaseException")=some true)(xsa_NoSign:W.findIn K (.ref Z1) "__setattr__"=some (some (.builtin "object.__setattr__")))(xga_NoSign:W.findIn K (.ref Z1) "__getattribute__"=some (some (.builtin "BaseException.__getattribute__")))(xgt_NoSign:W.findIn K (.ref Z1) "__getattr__"=some none)(xdd_NoSign:W.hasDictIn K Z1=true)(xkp_NoSign:KI K Z1)(xfn_NoSign:W.typeIn K (.ref f13)=some (.type "function"))(xcc_NoSign:W.findIn K (.ref Z1) "__class__"=some (some (.builtin "object.__class__")))(xcg_NoSign:W.specialIn K (.builtin "object.__class__") "__get__"=some (some (.builtin "getset_descriptor.__get__")))(xct_NoSign:W.takesIn K (.builtin "object.__class__")=some true)(xna_at_NoSign:W.findIn K (.ref Z1) "at"=some none)(xei_NoReading:L2.excI K Zr f14=true)(xin_NoReading:L2.Qh K Zr=some (some (.ref f14)))(xob_NoReading:W.mroIn K Zr (.type "object")=some true)(xbx_NoReading:W.mroIn K Zr (.type "BaseException")=some true)(xsa_NoReading:W.findIn K (.ref Zr) "__setattr__"=some (some (.builtin "object.__setattr__")))(xga_NoReading:W.findIn K (.ref Zr) "__getattribute__"=some (some (.builtin "BaseException.__getattribute__")))(xgt_NoReading:W.findIn K (.ref Zr) "__getattr__"=some none)(xdd_NoReading:W.hasDictIn K Zr=true)(xkp_NoReading:KI K Zr)(xfn_NoReading:W.typeIn K (.ref f14)=some (.type "function"))(xcc_NoReading:W.findIn K (.ref Zr) "__class__"=some (some (.builtin "object.__class__")))(xcg_NoReading:W.specialIn K (.builtin "object.__class__") "__get__"=some (some (.builtin "getset_descriptor.__get__")))(xct_NoReading:W.takesIn K (.builtin "object.__class__")=some true)(xna_at_NoReading:W.findIn K (.ref Zr) "at"=some none)(xei_TooMany:L2.excI K Zx f15=true)(xin_TooMany:L2.Qh K Zx=some (some (.ref f15)))(xob_TooMany:W.mroIn K Zx (.type "object")=some true)(xbx_TooMany:W.mroIn K Zx (.type "BaseException")=some true)(xsa_TooMany:W.findIn K (.ref Zx) "__setattr__"=some (some (.builtin "object.__setattr__")))(xga_TooMany:W.findIn K (.ref Zx) "__getattribute__"=some (some (.builtin "BaseException.__getattribute__")))(xgt_TooMany:W.findIn K (.ref Zx) "__getattr__"=some none)(xdd_TooMany:W.hasDictIn K Zx=true)(xkp_TooMany:KI K Zx)(xfn_TooMany:W.typeIn K (.ref f15)=some (.type "function"))(xcc_TooMany:W.findIn K (.ref Zx) "__class__"=some (some (.builtin "object.__class__")))(xcg_TooMany:W.specialIn K (.builtin "object.__class__") "__get__"=some (some (.builtin "getset_descriptor.__get__")))(xct_TooMany:W.takesIn K (.builtin "object.__class__")=some true)(xna_most_TooMany:W.findIn K (.ref Zx) "most"=some none)(xty_TooMany:W.typeIn K (.ref Zx)=some (.type "type"))(xbb_TooMany:W.mroIn K Zx (.type "BaseException")=some true)(xty_NoSign:W.typeIn K (.ref Z1)=some (.type "type"))(xbb_NoSign:W.mroIn K Z1 (.type "BaseException")=some true)(xty_NoReading:W.typeIn K (.ref Zr)=some (.type "type"))(xbb_NoReading:W.mroIn K Zr (.type "BaseException")=some true)(mtt:W.mroIn K Zx (.ref Zx)=some true)(mss:W.mroIn K Z1 (.ref Z1)=some true)(msr:W.mroIn K Z1 (.ref Zr)=some false)(mrs:W.mroIn K Zr (.ref Z1)=some false)(mrr:W.mroIn K Zr (.ref Zr)=some true)(o1_Family:W.plainGet K Zj Str.empty=true)(o2_Family:W.hasDictIn K Zj=true)(o3_Family:W.plainOver K Zj=true)(o4_Family:W.findIn K (.ref Zj) "__setattr__"=some (some (.builtin "object.__setattr__")))(o5_Family:W.makesIn K Zj=true)(o6_Family:KI K Zj)(na_codes_by_name_Family:W.findIn K (.ref Zj) "codes_by_name"=some none)(na_marks_by_name_Family:W.findIn K (.ref Zj) "marks_by_name"=some none)(hd:W.codeHdIn K c Pt=true)(q1:W.plainGet K C Str.empty=true)(q2:W.hasDictIn K C=true)(q3:W.plainOver K C=true)(q4:W.findIn K (.ref C) "__setattr__"=some (some (.builtin "object.__setattr__")))(q5:W.makesIn K C=true)(q6:KI K C)(y_pairs:W.findIn K (.ref C) "pairs"=some none)(y_words_by_sign:W.findIn K (.ref C) "words_by_sign"=some none)(y_signs_by_word:W.findIn K (.ref C) "signs_by_word"=some none)(y_begun:W.findIn K (.ref C) "begun"=some none)(y_word_sizes:W.findIn K (.ref C) "word_sizes"=some none)(z_len:W.nsIn K mainGlobals "len"=some none)(z_abs:W.nsIn K mainGlobals "abs"=some none)(z_max:W.nsIn K mainGlobals "max"=some none)(z_min:W.nsIn K mainGlobals "min"=some none)(z_isinstance:W.nsIn K mainGlobals "isinstance"=some none)(z_all:W.nsIn K mainGlobals "all"=some none)(z_range:W.nsIn K mainGlobals "range"=some none)(z_int:W.nsIn K mainGlobals "int"=some none)(z_str:W.nsIn K mainGlobals "str"=some none)(z_bool:W.nsIn K mainGlobals "bool"=some none)(z_tuple:W.nsIn K mainGlobals "tuple"=some none)(z_list:W.nsIn K mainGlobals "list"=some none)(z_dict:W.nsIn K mainGlobals "dict"=some none)(z_sorted:W.nsIn K mainGlobals "sorted"=some none)(z_enumerate:W.nsIn K mainGlobals "enumerate"=some none)(z_zip:W.nsIn K mainGlobals "zip"=some none)(z_ValueError:W.nsIn K mainGlobals "ValueError"=some none)
   :∃ fd:FuncData,(∃ c,W.codeHdIn K c Pt=true)/\(∀ (s:Shared) (v:Value),BindsTo s fd ⟨[v],[]⟩ [("_law_script",v)])/\∀ base:Heap,K.In base->base.Ns mainGlobals mg->Bm mg base->FnOk l.prog w K mg base CX0 9 fa fd ["_law_script"] (spLaw K Pt):=by
  have e:=hfa.symm.trans (W.mg_of X G a36);cases e;have T:Txt mg:=⟨W.mg_none_of X G z_len,W.mg_none_of X G z_abs,W.mg_none_of X G z_max,W.mg_none_of X G z_min,W.mg_none_of X G z_isinstance,W.mg_none_of X G z_all,W.mg_none_of X G z_range,W.mg_none_of X G z_int,W.mg_none_of X G z_str,W.mg_none_of X G z_bool,W.mg_none_of X G z_tuple,W.mg_none_of X G z_list,W.mg_none_of X G z_dict,W.mg_none_of X G z_sorted,W.mg_none_of X G z_enumerate,W.mg_none_of X G z_zip,W.mg_none_of X G z_ValueError⟩;have cl:Cls K C:=⟨q1,q2,q3,q4⟩;have CT:CodeT K C:=⟨cl,y_pairs,y_words_by_sign,y_signs_by_word,y_begun,y_word_sizes⟩
  have F0:=Yb (st:=Jav) l0 c0 k0;have b0:=F0.binds (ps:=["_law_hand", "_law_many"]) fun _ _ _ _ _ _=>len2 fun _ _=>rfl;have F1:=Yb (st:=Dx) l1 c1 k1;have b1:=F1.binds (ps:=["_law_script", "_law_place"]) fun _ _ _ _ _ _=>len2 fun _ _=>rfl;have F2:=Yb (st:=Dz) l2 c2 k2;have b2:=F2.binds (ps:=["_law_hand", "_law_most"]) fun _ _ _ _ _ _=>len2 fun _ _=>rfl;have F3:=Yb (st:=Jbm) l3 c3 k3;have b3:=F3.binds (ps:=["_law_hand", "_law_some", "_law_most", "_law_longest"]) fun _ _ _ _ _ _=>len4 fun _ _ _ _=>rfl;have F4:=Yb (st:=Dw) l4 c4 k4;have b4:=F4.binds (ps:=["_law_hand", "_law_many"]) fun _ _ _ _ _ _=>len2 fun _ _=>rfl
  have F5:=Yb (st:=Jce) l5 c5 k5;have b5:=F5.binds (ps:=["_law_hand", "_law_words_here", "_law_signs_here"]) fun _ _ _ _ _ _=>len3 fun _ _ _=>rfl;have F6:=Yb (st:=Y4) l6 c6 k6;have b6:=F6.binds (ps:=["one", "other"]) fun _ _ _ _ _ _=>len2 fun _ _=>rfl;have F7:=Yb (st:=Tv) l7 c7 k7;have b7:=F7.binds (ps:=["table"]) fun _ _ _ _ _ _=>len1 fun _=>rfl;have F8:=Yb (st:=Y3) l8 c8 k8;have b8:=F8.binds (ps:=["table"]) fun _ _ _ _ _ _=>len1 fun _=>rfl;have F9:=Yb (st:=Xp) l9 c9 k9;have b9:=F9.binds (ps:=["words"]) fun _ _ _ _ _ _=>len1 fun _=>rfl;have F10:=Yb (st:=Z0) l10 c10 k10;have b10:=F10.binds (ps:=["self", "table"]) fun _ _ _ _ _ _=>len2 fun _ _=>rfl
  have F11:=Yb (st:=X5) l11 c11 k11;have b11:=F11.binds (ps:=["self", "sign"]) fun _ _ _ _ _ _=>len2 fun _ _=>rfl;have F12:=Yb (st:=X6) l12 c12 k12;have b12:=F12.binds (ps:=["self", "word"]) fun _ _ _ _ _ _=>len2 fun _ _=>rfl;have F13:=Yb (st:=Ym) l13 c13 k13;have b13:=F13.binds (ps:=["self", "at"]) fun _ _ _ _ _ _=>len2 fun _ _=>rfl;have F14:=Yb (st:=Ya) l14 c14 k14;have b14:=F14.binds (ps:=["self", "at"]) fun _ _ _ _ _ _=>len2 fun _ _=>rfl;have F15:=Yb (st:=Yg) l15 c15 k15;have b15:=F15.binds (ps:=["self", "most"]) fun _ _ _ _ _ _=>len2 fun _ _=>rfl;have F16:=Yb (st:=Tu) l16 c16 k16;have b16:=F16.binds (ps:=["code", "text"]) fun _ _ _ _ _ _=>len2 fun _ _=>rfl
  have F17:=Yb (st:=W4) l17 c17 k17;have b17:=F17.binds (ps:=["code", "row", "place"]) fun _ _ _ _ _ _=>len3 fun _ _ _=>rfl;have F18:=Yb (st:=Qr) l18 c18 k18;have b18:=F18.binds (ps:=["code", "row"]) fun _ _ _ _ _ _=>len2 fun _ _=>rfl;have F19:=Yb (st:=Jcb) l19 c19 k19;have b19:=F19.binds (ps:=["_law_hand"]) fun _ _ _ _ _ _=>len1 fun _=>rfl;have F20:=Yb (st:=D6) l20 c20 k20;have b20:=F20.binds (ps:=["_law_hand", "_law_many", "_law_longest"]) fun _ _ _ _ _ _=>len3 fun _ _ _=>rfl;have F21:=Yb (st:=Yn) l21 c21 k21;have b21:=F21.binds (ps:=["self"]) fun _ _ _ _ _ _=>len1 fun _=>rfl;have F22:=Yb (st:=Xq) l22 c22 k22
  have b22:=F22.binds (ps:=["self", "name", "code", "mark"]) fun _ _ _ _ _ _=>len4 fun _ _ _ _=>rfl;have F23:=Yb (st:=Y5) l23 c23 k23;have b23:=F23.binds (ps:=["self"]) fun _ _ _ _ _ _=>len1 fun _=>rfl;have F24:=Yb (st:=Xf) l24 c24 k24;have b24:=F24.binds (ps:=["self", "name"]) fun _ _ _ _ _ _=>len2 fun _ _=>rfl;have F25:=Yb (st:=Dy) l25 c25 k25;have b25:=F25.binds (ps:=["_law_names_here", "_law_tables_here"]) fun _ _ _ _ _ _=>len2 fun _ _=>rfl;have F26:=Yb (st:=Jau) l26 c26 k26;have b26:=F26.binds (ps:=["_law_names_here", "_law_tables_here"]) fun _ _ _ _ _ _=>len2 fun _ _=>rfl;have F27:=Yb (st:=Jbw) l27 c27 k27
  have b27:=F27.binds (ps:=["_law_one", "_law_other", "_law_text"]) fun _ _ _ _ _ _=>len3 fun _ _ _=>rfl;have F28:=Yb (st:=Qt) l28 c28 k28;have b28:=F28.binds (ps:=["one", "other", "text"]) fun _ _ _ _ _ _=>len3 fun _ _ _=>rfl;have F29:=Yb (st:=Xe) l29 c29 k29;have b29:=F29.binds (ps:=["names"]) fun _ _ _ _ _ _=>len1 fun _=>rfl;have F30:=Yb (st:=Wh) l30 c30 k30;have b30:=F30.binds (ps:=["family", "found", "enough"]) fun _ _ _ _ _ _=>len3 fun _ _ _=>rfl;have F31:=Yb (st:=Wg) l31 c31 k31;have b31:=F31.binds (ps:=["family", "text", "legs", "most"]) fun _ _ _ _ _ _=>len4 fun _ _ _ _=>rfl;have F32:=Yb (st:=D3) l32 c32 k32
  have b32:=F32.binds (ps:=["_law_tables_here"]) fun _ _ _ _ _ _=>len1 fun _=>rfl;have F33:=Yb (st:=Jcm) l33 c33 k33;have b33:=F33.binds (ps:=["_law_books_here", "_law_names_here", "_law_texts_here"]) fun _ _ _ _ _ _=>len3 fun _ _ _=>rfl;have F34:=Yb (st:=Jat) l34 c34 k34;have b34:=F34.binds (ps:=["_law_family_here", "_law_end"]) fun _ _ _ _ _ _=>len2 fun _ _=>rfl;have F35:=Yb (st:=Jax) l35 c35 k35;have b35:=F35.binds (ps:=["_law_family_here", "_law_ends_here", "_law_texts_here", "_law_end"]) fun _ _ _ _ _ _=>len4 fun _ _ _ _=>rfl;have F36:=Yb (st:=Ph) l36 c36 k36;exists W.fnOf "law" "law" (Zv Ph) (Zu Ph) (Zh Ph) .none kV36 dc36 pm36 an36 cd36 ct36,⟨c,hd⟩,fun s v=>.of_eq rfl,fun base kb _ hBm=>?_
  have hCd:=W.codeHd_of_K kb hd;have Zeb:=W.mg_of X G gx_NoSign;have Qa:=W.mg_of X G gx_NoReading;have Za7:=W.mg_of X G gx_TooMany;have Zld:=W.mg_of X G gx_Family;have Nj:XCl K Z1 _:=⟨xei_NoSign,xob_NoSign,xbx_NoSign,xsa_NoSign,xga_NoSign,xgt_NoSign,xdd_NoSign,xkp_NoSign,xfn_NoSign,xcc_NoSign,xcg_NoSign,xct_NoSign⟩;have Sf:XCl K Zr _:=⟨xei_NoReading,xob_NoReading,xbx_NoReading,xsa_NoReading,xga_NoReading,xgt_NoReading,xdd_NoReading,xkp_NoReading,xfn_NoReading,xcc_NoReading,xcg_NoReading,xct_NoReading⟩;have Qm:XCl K Zx _:=⟨xei_TooMany,xob_TooMany,xbx_TooMany,xsa_TooMany,xga_TooMany,xgt_TooMany,xdd_TooMany,xkp_TooMany,xfn_TooMany,xcc_TooMany,xcg_TooMany,xct_TooMany⟩
  have Sd:Cau K mg "TooMany" Zx:=⟨Za7,xty_TooMany,xbb_TooMany⟩;have Qc:Cau K mg "NoSign" Z1:=⟨Zeb,xty_NoSign,xbb_NoSign⟩;have Uh:Cau K mg "NoReading" Zr:=⟨Qa,xty_NoReading,xbb_NoReading⟩;have cl_Family:Cls K Zj:=⟨o1_Family,o2_Family,o3_Family,o4_Family⟩;have Zn:=Xd (P:=l.prog) (w:=w) (base:=base) F0 (Jao T  F0) (W.mg_of X G a0) b0;have Ta:=L3.Cal.imp Zn fun _ _ _ _ h=>L3.Zsv (C:=⟨C,K⟩) h;have Vl:=Xd (P:=l.prog) (w:=w) (base:=base) F1 (Jcl T  F1) (W.mg_of X G a1) b1;have Zcq:=L3.Cal.imp Vl fun _ _ _ _ h=>L3.Zsu (C:=⟨C,K⟩) h;have Uf:=Xd (P:=l.prog) (w:=w) (base:=base) F2 (Jbg T Zn F2) (W.mg_of X G a2) b2
  have Zbc:=L3.Cal.imp Uf fun _ _ _ _ h=>L3.Zpd (C:=⟨C,K⟩) h;have V8:=Xd (P:=l.prog) (w:=w) (base:=base) F3 (Jci T Zn F3) (W.mg_of X G a3) b3;have Za9:=L3.Cal.imp V8 fun _ _ _ _ h=>L3.Zo9 (C:=⟨C,K⟩) h;have Ub:=Xd (P:=l.prog) (w:=w) (base:=base) F4 (Jbr T Zn F4) (W.mg_of X G a4) b4;have Zbb:=L3.Cal.imp Ub fun _ _ _ _ h=>L3.Zpb (C:=⟨C,K⟩) h;have Ua:=Xd (P:=l.prog) (w:=w) (base:=base) F5 (Jaz T Zn F5) (W.mg_of X G a5) b5;have Zba:=L3.Cal.imp Ua fun _ _ _ _ h=>L3.Zpa (C:=⟨C,K⟩) h;have W3:=Xd (P:=l.prog) (w:=w) (base:=base) F6 (Jcu T  F6) (W.mg_of X G a6) b6;have Zcs:=Xd (P:=l.prog) (w:=w) (base:=base) F7 (Do T W3 F7) (W.mg_of X G a7) b7
  have W2:=Xd (P:=l.prog) (w:=w) (base:=base) F8 (Jag T Zcs F8) (W.mg_of X G a8) b8;have V7:=Xd (P:=l.prog) (w:=w) (base:=base) F9 (Jbq T  F9) (W.mg_of X G a9) b9;have Za6:Mkr l.prog w K mg base "Code" C 4 _ _:=⟨f10,_,⟨q5,a10,n10,q6⟩,Jbo T CT hCd hBm W2 V7 l10 c10,W.mg_of X G aC,b10⟩;have Zd9:Met l.prog w K mg base C "word" 1 _ _:=⟨f11,_,cl,⟨a11,n11,k11⟩,Jcc T CT  F11,b11⟩;have Zul:=L3.Met.imp Zd9 fun _ _ _ _ h=>L3.Zst (C:=⟨C,K⟩) h;have Q8:Met l.prog w K mg base C "sign" 1 _ _:=⟨f12,_,cl,⟨a12,n12,k12⟩,Jab T CT  F12,b12⟩;have R9:Rx l.prog w K mg base "NoSign" Z1 1 _ _:=⟨f13,_,Nj,xin_NoSign,Jas T Nj xna_at_NoSign F13,Zeb,b13⟩
  have V4:Rx l.prog w K mg base "NoReading" Zr 1 _ _:=⟨f14,_,Sf,xin_NoReading,Jay T Sf xna_at_NoReading F14,Qa,b14⟩;have Sa:Rx l.prog w K mg base "TooMany" Zx 1 _ _:=⟨f15,_,Qm,xin_TooMany,Jbv T Qm xna_most_TooMany F15,Za7,b15⟩;have Zcr:=Zch (P:=l.prog) (w:=w) (base:=base) F16 (Jbp T Zd9 R9 F16) (W.mg_of X G a16) b16;have Zpj:=L3.CalE.imp Zcr fun _ _ _ _ h=>L3.Zla (Cn:=Z1) (C:=⟨C,K⟩) h;have Qb:=Xd (P:=l.prog) (w:=w) (base:=base) F17 (Jbe T CT Q8 F17) (W.mg_of X G a17) b17;have Zjg:=Zch (P:=l.prog) (w:=w) (base:=base) F18 (Jbi T Q8 Qb V4 F18) (W.mg_of X G a18) b18;have Zsy:=L3.CalE.imp Zjg fun _ _ _ _ h=>L3.Zpc (Cr:=Zr) (C:=⟨C,K⟩) h
  have Ud:=Xd (P:=l.prog) (w:=w) (base:=base) F19 (Jar (C:=C) T Ta F19) (W.mg_of X G a19) b19;have Vk:=Xd (P:=l.prog) (w:=w) (base:=base) F20 (Jcj (C:=C) T Ta Zbc Za9 Zbb Zba F20) (W.mg_of X G a20) b20;have Nh:Mkr l.prog w K mg base "Family" Zj 1 _ _:=⟨f21,_,⟨o5_Family,a21,n21,o6_Family⟩,Dp T (C:=C) cl_Family na_codes_by_name_Family na_marks_by_name_Family  F21,Zld,b21⟩;have Zph:Met l.prog w K mg base Zj "add" 1 _ _:=⟨f22,_,cl_Family,⟨a22,n22,k22⟩,Jca T (C:=C) cl_Family na_codes_by_name_Family na_marks_by_name_Family  F22,b22⟩;have Zco:Met l.prog w K mg base Zj "names" 1 _ _:=⟨f23,_,cl_Family,⟨a23,n23,k23⟩,Jcn T (C:=C) cl_Family na_codes_by_name_Family na_marks_by_name_Family  F23,b23⟩
  have Zea:Met l.prog w K mg base Zj "code" 1 _ _:=⟨f24,_,cl_Family,⟨a24,n24,k24⟩,Jbh T (C:=C) cl_Family na_codes_by_name_Family na_marks_by_name_Family  F24,b24⟩;have Vm:=Xd (P:=l.prog) (w:=w) (base:=base) F25 (Jai (C:=C) T Za6 Nh Zph F25) (W.mg_of X G a25) b25;have Ug:=Xd (P:=l.prog) (w:=w) (base:=base) F26 (Jcs (C:=C) T  F26) (W.mg_of X G a26) b26;have Tr:=Xd (P:=l.prog) (w:=w) (base:=base) F27 (Jcp (C:=C) T  F27) (W.mg_of X G a27) b27;have Zjh:=Xd (P:=l.prog) (w:=w) (base:=base) F28 (Jbf (C:=C) T Qc Uh mss mrs mrr msr Zpj Zsy F28) (W.mg_of X G a28) b28;have Vj:=Xd (P:=l.prog) (w:=w) (base:=base) F29 (Ds (C:=C) T  F29) (W.mg_of X G a29) b29
  have Sc:=Xd (P:=l.prog) (w:=w) (base:=base) F30 (D8 (C:=C) T Zco Zea Vj Zjh F30) (W.mg_of X G a30) b30;have Sb:=Zch (P:=l.prog) (w:=w) (base:=base) F31 (Jbu (C:=C) T Sa Sc F31) (W.mg_of X G a31) b31;have V9:=Xd (P:=l.prog) (w:=w) (base:=base) F32 (Jcg (C:=C) T  F32) (W.mg_of X G a32) b32;have Tb:=Xd (P:=l.prog) (w:=w) (base:=base) F33 (Jcr (C:=C) T Tr F33) (W.mg_of X G a33) b33;have Ue:=Xd (P:=l.prog) (w:=w) (base:=base) F34 (Jad (C:=C) T Sd mtt Sb F34) (W.mg_of X G a34) b34;have Uc:=Xd (P:=l.prog) (w:=w) (base:=base) F35 (Jaa (C:=C) T Ue F35) (W.mg_of X G a35) b35;exact (Jbt T Za6 Zcq Ta Ud Vk Vm Ug V9 Tb Uc F36).imp fun _ _ _ _ h=>L3.Zoc (C:=⟨C,K⟩) h
def walk {l:W.OpenLaw} {q:Program} {loose:List Str} {XP:(Str->Option Value)->Heap->Prop} {YP:World->Heap->Prop} {d:DefRec} {K:Params->W.Frag} (hn:l.most=some 63) (hdf:d.params.defaults=[])
  (hY:∀ (w:World) (h:Heap),YP w h->(K w.params).In h) (hYt:∀ (w:World) (h:Heap),YP w h->h.get? Pt=some (W.tabObj #[])) (hPK:∀ w:World,(K w.params).lookup Pt=none)
  (F:∀ (w:World) (mg:Str->Option Value) (fa:Addr) (h:Heap),(K w.params).In h->h.Ns mainGlobals mg->mg d.name=some (.ref fa) ->
   ∃ fd:FuncData,(∃ c,W.codeHdIn (K w.params) c Pt=true)/\(∀ (s:Shared) (u:Value),BindsTo s fd ⟨[u],[]⟩ [("_law_script",u)])/\∀ base:Heap,(K w.params).In base->base.Ns mainGlobals mg->Bm mg base->FnOk l.prog w (K w.params) mg base CX0 9 fa fd ["_law_script"] (spLaw (K w.params) Pt)) :
  W.WalkO q loose XP YP l.row.toRowW d [] (fun f vs=>PySem.call f vs) :=
 L2.Zjk (n:=63) (k:=9) (x:="_law_script") (CX:=fun _=>CX0) (sp:=fun w=>spLaw (K w.params) Pt) hn nofun hdf ⟨rfl,nofun,nofun⟩ hY hYt hPK F (fun _ _ a ns hl hO hS=>⟨a,ns,rfl,hS,hl,hO.tab _ _,fun _=>rfl⟩) fun _ _ _ _ _ z=>z
end K64
namespace PySem.W.Fast
def tw10251033623338366050:=0
def tw16537525448864311555:=0
def tw9393792175232125155:=0
def tw7876441941406957163:=0
def tw14480360218302051426:=0
def tw8351782167701132346:=0
def tw4386497837396117557:=0
def tw17640166483337886257:=0
def tw2023464463394356458:=0
def tw1317955799124942868:=0
def tw13899213622779358454:=0
def tw259687595956846867:=0
def tw18099863852406901014:=0
def tw10882963806602948860:=0
def tw13484576010377665335:=0
def tw14327809925887565:=0
def tw13474106614737523880:=0
def tw17259121049132731581:=0
def tw17076976848172933121:=0
def tw12104535129148806777:=0
def tw14464114949364031725:=0
def tw9198812625460629105:=0
def tw649834180015437581:=0
def tw5783706491200608754:=0
def tw3698671285806756115:=0
def tw7710603190186484990:=0
def tw17135116894404356818:=0
def tw6092506641219916912:=0
def tw15459314995484542818:=0
def tw8060269276149870109:=0
def tw9023270737739702088:=0
def tw15037790119367150977:=0
def tw2794152022223031362:=0
def tw4923556701848430719:=0
def tw3926644330116529533:=0
def tw17174699814380162264:=0
def tw11850528430447672890:=0
def tw10714382202931563370:=0
def tw16477819059726881307:=0
def tw4276009880711522565:=0
def tw16844920009636900238:=0
def tw9832280215929845426:=0
def tw6621091756249906527:=0
def tw17730189317342778585:=0
def tw4006870507910857308:=0
def tw1783580550431105354:=0
def tw14453466973449974891:=0
def tw5571103463390923997:=0
def tw14365923403881694440:=0
def tw15132538224062446766:=0
def tw4290217922951269508:=0
def tw10552691316745847694:=0
def tw2542777754776001054:=0
def tw14974702772860956864:=0
def tw4133282058919862485:=0
def tw14056037177061935358:=0
def tw11591122231645710732:=0
def tw13364472788173064623:=0
def tw12203595378257044184:=0
def tw17956924604849107975:=0
def tw2790138010206600539:=0
def tw15343396308793328453:=0
def tw9602331012835889481:=0
def tw14518216828941441424:=0
def tw7757356561242125214:=0
def tw3586202914146892882:=0
def tw12985996118698384499:=0
def tw332679980912744898:=0
def tw8752168129871774678:=0
def tw6633392352996419521:=0
def tw17135700409129419829:=0
def tw5401313403230278006:=0
def tw4595105560296872317:=0
def tw5434016603127226199:=0
def tw10024554199879181765:=0
def tw17231792825942018928:=0
def tw2147007998029123707:=0
def tw16134946061940365406:=0
def tw6447590173718551770:=0
def tw6313026012207590787:=0
def tw735524685404276625:=0
def tw2642335440434585199:=0
def tw1054107460845558268:=0
def tw1631114642152007995:=0
def tw12980086292480622818:=0
def tw6917907949917548542:=0
def tw8677333845560535960:=0
def tw9095199320708418746:=0
def tw7147578214466980708:=0
def tw3107851077438634298:=0
def tw3817684388468929455:=0
def tw105464905634696586:=0
def tw6222950300181403632:=0
def tw1383392660054566384:=0
def tw15377216279603729598:=0
def tw1464512407945259308:=0
def tw10263511849460035261:=0
def tw7362050040329185645:=0
def tw9433243918728758059:=0
def tw12101057948170205758:=0
def tw8668720813230575795:=0
def tw15000573211365669560:=0
def tw10357989548317866664:=0
def tw571633092364179980:=0
def tw6294565170285255951:=0
def tw1805735652653777947:=0
def tw11653913108828836568:=0
def tw14334041854553080239:=0
def tw16815911318725164123:=0
def tw621454685030574203:=0
def tw11475409564289819370:=0
def tw2827068700055874596:=0
def tw735549593430372106:=0
def tw16572684627691555433:=0
def tw2069629383925235100:=0
def tw13649844900761054734:=0
def tw10421042292430405470:=0
def tw2731596839849536991:=0
def tw6607741314424536003:=0
def tw10445266930203556729:=0
def tw5379358725622455604:=0
def tw1571186251051764597:=0
def tw18042403761785584477:=0
def tw15269252554582910285:=0
def tw2208155904538173294:=0
def tw12063640642401084675:=0
def tw9233569907616083408:=0
def tw3712705831541243246:=0
def tw1698139562995915495:=0
def tw15582033681277743489:=0
def tw11045930751628844398:=0
def tw7665416282890089239:=0
def tw7570367299476662803:=0
def tw16291942654397606800:=0
def tw3724510213413455746:=0
def tw15463481671807246842:=0
def tw1918478938452258763:=0
def tw15749603273704649212:=0
def tw1624903139448544211:=0
def tw17468990763884717360:=0
def tw17358936938426242727:=0
def tw7988504358595337123:=0
def tw11909262523743721184:=0
def tw2684950927840673106:=0
def tw14542010995422790017:=0
def tw17376844321857254445:=0
def tw6086638485616644078:=0
def tw7571166333998832210:=0
def tw1118023001699310731:=0
def tw18389594296487036777:=0
def tw9678868841447099034:=0
def tw1976145878379443897:=0
def tw14097456869583087418:=0
def tw13035628829784021098:=0
def tw2646063918714102308:=0
def tw4366759793752747781:=0
def tw6109727018147687506:=0
def tw7546174265678188172:=0
def tw3564199071411715951:=0
def tw4721094424137907029:=0
def tw4272107426244692806:=0
def tw10070159842442001632:=0
def tw6657554180150457398:=0
def tw9787463718676534767:=0
def tw12917232854094020094:=0
def tw4978777349895384270:=0
def tw6549357192436370963:=0
def tw648935804496502854:=0
def tw18138311823452084047:=0
def tw8139014637156594818:=0
def tw5457976709001239308:=0
def tw8696805181230073941:=0
def tw2589013393540398114:=0
def tw14010420269666505186:=0
def tw16948267443262651827:=0
def tw5403475509801138473:=0
def tw9677863252831240363:=0
def tw631035679462448654:=0
def tw11788837706969609230:=0
def tw14540396604175444645:=0
def tw11409786599679275910:=0
def tw14386962544398205250:=0
def tw17259948129165554193:=0
def tw9042257257298930367:=0
def tw7335126180530296186:=0
def tw15077198195540274417:=0
def tw8967824573564284584:=0
def tw5766425568163119306:=0
def tw13498188565256923977:=0
def tw5448951908381527085:=0
def tw17253851835451351733:=0
def tw14408870491330916259:=0
def tw1666421110850677050:=0
def tw5685820189247327581:=0
def tw2085071441739920952:=0
def tw13212411262541368122:=0
def tw2985856250434066819:=0
def tw13618865264614841091:=0
def tw15149415158119142452:=0
def tw2512213128802374309:=0
def tw3022652038610157746:=0
def tw17347894001471797298:=0
def tw7122768071839891083:=0
def tw12667801309999242999:=0
def tw14433406483045710369:=0
def tw7716120474707075212:=0
def tw9463862615381901319:=0
def tw7666239938940497955:=0
def tw6152747065257533669:=0
def tw12593713045229336441:=0
def tw17703306886352219404:=0
def tw15400973165192438659:=0
def tw15331766571309968111:=0
def tw12099789635033426051:=0
def tw8777408458131966559:=0
def tw13480109620596842651:=0
def tw15590712279619849146:=0
def tw5888734132273898888:=0
def tw8124435430478128684:=0
def tw16517414842607597332:=0
def tw6738600546962444036:=0
def tw11005278048331413388:=0
def tw12711850912052599790:=0
def tw9130709443002891184:=0
def tw8428939946680253135:=0
def tw10938075957369318406:=0
def tw9268087606700318651:=0
def tw11036234425042425312:=0
def tw6919568220529992495:=0
def tw10428949431364160846:=0
def tw1637801614781557007:=0
def tw5069166290318382612:=0
def tw18333141846778440090:=0
def tw7654115304452312882:=0
def tw10916211369765329658:=0
def tw2024126069455878677:=0
def tw17438147004118721534:=0
def tw12839930542755189147:=0
def tw7333798424656995198:=0
def tw7768917646145646097:=0
def tw12926678661203344340:=0
def tw8709815230892019715:=0
def tw3104463327292148:=0
def tw10998690831190476726:=0
def tw2467114944409690026:=0
end PySem.W.Fast
open PySem PySem.W PyProof.Rows
set_option maxRecDepth 100000 in
set_option maxHeartbeats 0 in
theorem PySem.Challenge.cw_skewread_k64_whole_every_text_astray_is_holds : PySem.Challenge.rw_skewread_k64_whole_every_text_astray_is.Holds := by
  w_on; o_law; k_head; (case hw=>w_witness2)
  k_fill
  refine K64.walk (l:=PySem.Challenge.rw_skewread_k64_whole_every_text_astray_is) rfl rfl (fun w h Y=>PySem.W.km_in_of Y) (fun w h Y=>PySem.W.km_tabs_of Y _ (by k_mem)) ?hpk ?F
  case hpk=>exact fun w=>by kernel_rfl
  case F =>
    intro w mg fa h KX G hmg
    apply K64.all_mk KX G hmg
    all_goals try delta K64.LF
    all_goals try delta K64.NI K64.LK K64.CI K64.KI
    all_goals first | k_is | kernel_rfl
#print axioms PySem.Challenge.cw_skewread_k64_whole_every_text_astray_is_holds