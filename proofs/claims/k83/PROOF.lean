import PyProof.Rows.All
import Wide.All
import OpenK.AllK
import Wide.FinOn
import Lean
import PyProof.EqAt
import PyProof.EqKinds
import PyProof.TupleCall
import PyProof.DictItems
import KE.KPairComp
import KE.KDictList
import PyProof.ListRange
import KE.KUnpack
import KE.KEqDict
import PyProof.DictFindH
import KE.KDictSum
import PyProof.AutoListH
import PyProof.SumAny
import PyProof.Rows.Range3
import KE.KStateDown
import KE.KSortTup
import KE.KLam
import KE.KNestM
import KE.KDictOf
import PyProof.AttrMissHeap
import KE.KRevSl
import PyProof.RaisesMany
import PyProof.ExcInit
import PyProof.ExcClass2
import PyProof.RulesTry
import PyProof.PassesOwn
import OpenK.KOwn
import PyProof.RulesDel
import KE.KIsAll
import PyProof.EnumMake
import PyProof.LayNew
import PyProof.ZipIter
import PyProof.Rows.ZipGen
import KE.KIntText
import KE.KMinKey
import PyProof.SetKind
import PyProof.TupleKey
import PyProof.IsRules
import PyProof.Rows.SetFrom
import PyProof.SetRoads
import PyProof.FactsAll.set
import PySem.Challenge.RW_skewread_k83_fewest_signs
set_option Elab.async false
set_option linter.all false
set_option maxRecDepth 100000
local macro_rules | `(def $n:declId $s:optDeclSig $v:declVal)=>`(noncomputable def $n:declId $s:optDeclSig $v:declVal)
local macro_rules | `(abbrev $n:declId $s:optDeclSig $v:declVal)=>`(noncomputable abbrev $n:declId $s:optDeclSig $v:declVal)
theorem Ja:type_of% @List.length_map:=@List.length_map
theorem Jb:type_of% @List.getElem?_eq_getElem:=@List.getElem?_eq_getElem
theorem Jc:type_of% @List.length_append:=@List.length_append
theorem Jd:type_of% @Nat.le_refl:=@Nat.le_refl
theorem Je:type_of% @List.getElem?_eq_some_iff:=@List.getElem?_eq_some_iff
theorem Jf:type_of% @List.map_append:=@List.map_append
theorem Jg:type_of% @List.mem_cons_of_mem:=@List.mem_cons_of_mem
theorem Jh:type_of% @List.mem_singleton:=@List.mem_singleton
theorem Ji:type_of% @List.take_succ_eq_append_getElem:=@List.take_succ_eq_append_getElem
theorem Jj:type_of% @List.length_drop:=@List.length_drop
theorem Jk:type_of% @List.prefix_refl:=@List.prefix_refl
theorem Jl:type_of% @List.mem_append_right:=@List.mem_append_right
theorem Jm:type_of% @List.mem_cons_self:=@List.mem_cons_self
theorem Jn:type_of% @List.size_toArray:=@List.size_toArray
theorem Jo:type_of% @List.mem_map:=@List.mem_map
theorem Jp:type_of% @Bool.false_ne_true:=@Bool.false_ne_true
theorem Jq:type_of% @List.length_cons:=@List.length_cons
theorem Jr:type_of% @List.getElem_mem:=@List.getElem_mem
theorem Js:type_of% @List.prefix_append:=@List.prefix_append
theorem Jt:type_of% @List.length_take:=@List.length_take
theorem Ju:type_of% @List.map_cons:=@List.map_cons
theorem Jv:type_of% @List.getElem?_append_left:=@List.getElem?_append_left
theorem Jw:type_of% @List.take_length:=@List.take_length
theorem Jx:type_of% @List.length_singleton:=@List.length_singleton
theorem Jy:type_of% @List.mem_cons:=@List.mem_cons
theorem Jz:type_of% @Nat.zero_le:=@Nat.zero_le
theorem J8:type_of% @Nat.le_trans:=@Nat.le_trans
theorem J9:type_of% @List.mem_append:=@List.mem_append
theorem Ga:type_of% @List.append_assoc:=@List.append_assoc
theorem Gb:type_of% @Nat.lt_of_lt_of_le:=@Nat.lt_of_lt_of_le
theorem Gc:type_of% @Bool.false_eq_true:=@Bool.false_eq_true
theorem Gd:type_of% @List.map_map:=@List.map_map
theorem Ge:type_of% @List.getElem_of_mem:=@List.getElem_of_mem
theorem Gf:type_of% @Nat.ne_of_lt:=@Nat.ne_of_lt
theorem Gg:type_of% @List.getElem?_map:=@List.getElem?_map
theorem Gh:type_of% @List.getElem?_set_self:=@List.getElem?_set_self
theorem Gi:type_of% @List.append_nil:=@List.append_nil
theorem Gj:type_of% @List.length_pos_iff:=@List.length_pos_iff
theorem Gk:type_of% @List.getD_eq_getElem?_getD:=@List.getD_eq_getElem?_getD
theorem Gm:type_of% @List.pairwise_map:=@List.pairwise_map
theorem Gn:type_of% @List.mem_append_left:=@List.mem_append_left
theorem Go:type_of% @List.getElem?_append_right:=@List.getElem?_append_right
theorem Gp:type_of% @List.take_append_drop:=@List.take_append_drop
theorem Gq:type_of% @List.find?_cons:=@List.find?_cons
theorem Gr:type_of% @Nat.not_lt_zero:=@Nat.not_lt_zero
theorem Gs:type_of% @List.length_eq_zero_iff:=@List.length_eq_zero_iff
theorem Gu:type_of% @Bool.not_eq_true:=@Bool.not_eq_true
theorem Gv:type_of% @List.mem_of_getElem?:=@List.mem_of_getElem?
theorem Gw:type_of% @List.take_of_length_le:=@List.take_of_length_le
theorem Gx:type_of% @List.getElem?_concat_length:=@List.getElem?_concat_length
theorem Gy:type_of% @Bool.and_eq_true:=@Bool.and_eq_true
theorem Gz:type_of% @Int.eq_ofNat_of_zero_le:=@Int.eq_ofNat_of_zero_le
theorem G0:type_of% @List.mem_of_mem_take:=@List.mem_of_mem_take
theorem G1:type_of% @Int.emod_lt_of_pos:=@Int.emod_lt_of_pos
theorem G2:type_of% @Nat.lt_irrefl:=@Nat.lt_irrefl
theorem G3:type_of% @Int.emod_nonneg:=@Int.emod_nonneg
theorem G4:type_of% @Int.natCast_add:=@Int.natCast_add
theorem G5:type_of% @List.drop_append_of_le_length:=@List.drop_append_of_le_length
theorem G6:type_of% @List.map_take:=@List.map_take
theorem G7:type_of% @Nat.add_sub_cancel:=@Nat.add_sub_cancel
theorem G8:type_of% @List.lookup_cons:=@List.lookup_cons
theorem G9:type_of% @Nat.le_of_eq:=@Nat.le_of_eq
theorem Ba:type_of% @Array.length_toList:=@Array.length_toList
theorem Bb:type_of% @List.replicate_succ:=@List.replicate_succ
theorem Bc:type_of% @Bool.or_eq_true:=@Bool.or_eq_true
theorem Be:type_of% @List.pairwise_iff_getElem:=@List.pairwise_iff_getElem
theorem Bf:type_of% @Nat.lt_succ_self:=@Nat.lt_succ_self
theorem Bg:type_of% @Nat.lt_of_le_of_lt:=@Nat.lt_of_le_of_lt
theorem Bh:type_of% @Array.forIn_toList:=@Array.forIn_toList
theorem Bi:type_of% @List.getElem?_set_ne:=@List.getElem?_set_ne
theorem Bj:type_of% @Nat.le_succ:=@Nat.le_succ
theorem Bk:type_of% @List.length_set:=@List.length_set
theorem Bl:type_of% @List.length_nil:=@List.length_nil
theorem Bn:type_of% @List.map_congr_left:=@List.map_congr_left
theorem Bo:type_of% @List.getElem_inj:=@List.getElem_inj
theorem Bp:type_of% @List.mem_flatMap:=@List.mem_flatMap
theorem Bq:type_of% @Array.perm_iff_toList_perm:=@Array.perm_iff_toList_perm
theorem Br:type_of% @Nat.mul_le_mul:=@Nat.mul_le_mul
theorem Bs:type_of% @List.nodup_cons:=@List.nodup_cons
theorem Bt:type_of% @Nat.le_of_lt:=@Nat.le_of_lt
theorem Bu:type_of% @List.flatten_cons:=@List.flatten_cons
theorem Bv:type_of% @List.nodup_append:=@List.nodup_append
theorem Bw:type_of% @List.length_range:=@List.length_range
theorem Bx:type_of% @List.any_cons:=@List.any_cons
theorem By:type_of% @Bool.not_true:=@Bool.not_true
theorem Bz:type_of% @List.length_flatMap:=@List.length_flatMap
theorem B0:type_of% @List.drop_zero:=@List.drop_zero
theorem B1:type_of% @List.pairwise_singleton:=@List.pairwise_singleton
theorem B2:type_of% @Nat.zero_add:=@Nat.zero_add
theorem B3:type_of% @List.zip_cons_cons:=@List.zip_cons_cons
theorem B4:type_of% @List.append_eq_nil_iff:=@List.append_eq_nil_iff
theorem B5:type_of% @Bool.eq_iff_iff:=@Bool.eq_iff_iff
theorem B6:type_of% @Option.map_some:=@Option.map_some
theorem B7:type_of% @Nat.min_eq_left:=@Nat.min_eq_left
theorem B8:type_of% @List.map_drop:=@List.map_drop
theorem B9:type_of% @List.take_sublist:=@List.take_sublist
theorem Fa:type_of% @Nat.lt_trichotomy:=@Nat.lt_trichotomy
theorem Fb:type_of% @List.pairwise_append:=@List.pairwise_append
theorem Fc:type_of% @List.drop_drop:=@List.drop_drop
theorem Fd:type_of% @List.mem_of_mem_drop:=@List.mem_of_mem_drop
theorem Fe:type_of% @List.take_zero:=@List.take_zero
theorem Ff:type_of% @List.all_eq_true:=@List.all_eq_true
theorem Fg:type_of% @List.take_prefix:=@List.take_prefix
theorem Fh:type_of% @Nat.succ_pos:=@Nat.succ_pos
theorem Fi:type_of% @Nat.lt_or_ge:=@Nat.lt_or_ge
theorem Fj:type_of% @Nat.add_assoc:=@Nat.add_assoc
theorem Fk:type_of% @List.of_mem_zip:=@List.of_mem_zip
theorem Fl:type_of% @List.mem_filterMap:=@List.mem_filterMap
theorem Fm:type_of% @Option.isNone_none:=@Option.isNone_none
theorem Fn:type_of% @List.mem_range:=@List.mem_range
theorem Fo:type_of% @Nat.add_comm:=@Nat.add_comm
theorem Fp:type_of% @Bool.false_or:=@Bool.false_or
theorem Fq:type_of% @of_decide_eq_true:=@of_decide_eq_true
def Fs:type_of% @absurd:=@absurd
theorem Ft:type_of% @of_decide_eq_false:=@of_decide_eq_false
theorem Fu:type_of% @decide_eq_true_iff:=@decide_eq_true_iff
theorem Fv:type_of% @PySem.wpAny_bind:=@PySem.wpAny_bind
theorem Fw:type_of% @PySem.wpAny_pure:=@PySem.wpAny_pure
theorem Fx:type_of% @PySem.Heap.get?_push_of_some:=@PySem.Heap.get?_push_of_some
theorem Fy:type_of% @PySem.Heap.get?_push_size:=@PySem.Heap.get?_push_size
theorem Fz:type_of% @PySem.Heap.lt_size:=@PySem.Heap.lt_size
theorem F0:type_of% @if_neg:=@if_neg
theorem F1:type_of% @if_pos:=@if_pos
theorem F2:type_of% @decide_eq_true:=@decide_eq_true
theorem F3:type_of% @decide_eq_false:=@decide_eq_false
theorem F5:type_of% @Option.some.inj:=@Option.some.inj
theorem F6:type_of% @PySem.boot_len:=@PySem.boot_len
theorem F7:type_of% @PySem.wpAny_mono:=@PySem.wpAny_mono
theorem F8:type_of% @PySem.wpAny_letGo:=@PySem.wpAny_letGo
local macro_rules | `(tactic| rfl')=>`(tactic| refine ⟨rfl,rfl,rfl,?_,rfl,?_,?_⟩<;>decide +kernel)
local macro_rules | `(nofun)=>`(term| by decide)
local macro_rules | `(tactic| exists $es,*)=>do
 let mut a:Array (Lean.TSyntax `term):=#[]
 for e in es.getElems do
  if e.raw.isOfKind ``Lean.Parser.Term.cdot then a:=a++#[<-`(_),<-`(rfl)] else a:=a.push e
 `(tactic| refine ⟨$a,*⟩)
variable {s:PySem.Shared} {α α' fp:List PySem.Addr} {K K':PySem.W.Frag} {A:PySem.Around} {w:PySem.World} {pos apos pos' cpos:PySem.Pos} {pq:List (PySem.Addr×PySem.Obj)} {fd:PySem.FuncData} {P prog:PySem.Program} {E:PySem.Value->PySem.Shared->Prop} {τ κ β:Type} {h base h':PySem.Heap} {ns r ms:List Int} {j t' pl:Nat} {mg:PySem.Str->Option PySem.Value} {ps N:List PySem.Str} {Pt l it dx kS:PySem.Addr} {us its:List PySem.Value} {ws:List (List Int)} {st:PySem.Stmt} {es:List PySem.Expr} {qual:PySem.Str} {tg value body:PySem.Expr} {B:Prop} {lo hi:Option Int} {items:Array PySem.Value} {pm doc cdv ct oc:PySem.Value} {an od:Option PySem.Addr} {cs:List Nat}
namespace L2
open PySem PySem.Spec PyProof.Rows
abbrev Key:=Sum Int Str
def Th:Key->Value->Bool
 | .inl k,v=>Value.isInt k v
 | .inr x,v=>Value.isStrOf x v
def keyH (w:World):Key->Int
 | .inl k=>hashInt k
 | .inr x=>hashStr w x
theorem Zz:∀ {k:Key} {v:Value},Th k v=true->(∃ i t,k=Sum.inl i/\v=Value.int i t)\/(∃ x t,k=Sum.inr x/\v=Value.str x t)
 | .inl i,v,h=>by
  obtain ⟨t,e⟩:=Value.isInt_shape (k:=i) (v:=v) h;exact .inl ⟨i,t,rfl,e⟩
 | .inr x,v,h=>by
  obtain ⟨t,e⟩:=Value.isStrOf_shape (x:=x) (v:=v) h;exact .inr ⟨x,t,rfl,e⟩
def P8 (i:Int) (t:Tok):Th (.inl i) (.int i t)=true:=by simp [Th,Value.isInt]
def Zgq (x:Str) (t:Tok):Th (.inr x) (.str x t)=true:=by simp [Th,Value.isStrOf]
def Zqz (a b:Int):decide ((Sum.inl a:Key)=Sum.inl b)=(a == b):=by
 by_cases e:a=b
 ·subst e; simp
 ·have h:¬ (Sum.inl a:Key)=Sum.inl b:=fun q=>e (Sum.inl.inj q);rw [F3 h];exact (beq_eq_false_iff_ne.mpr e).symm
def Zqw (a b:Str):decide ((Sum.inr a:Key)=Sum.inr b)=decide (a=b):=by
 by_cases e:a=b
 ·subst e; simp
 ·have h:¬ (Sum.inr a:Key)=Sum.inr b:=fun q=>e (Sum.inr.inj q);rw [F3 h,F3 e]
def Zqy (a:Int) (b:Str):decide ((Sum.inl a:Key)=Sum.inr b)=false:=F3 (fun q=>nomatch q)
def Zqx (a:Str) (b:Int):decide ((Sum.inr a:Key)=Sum.inl b)=false:=F3 (fun q=>nomatch q)
def Z3 (prog:Program) (w:World):PySem.KeyKind prog w Key where
 is:=Th
 hash:=keyH w
 inj:=fun v a b ha hb=>by
  rcases Zz ha with ⟨i,t,rfl,rfl⟩ | ⟨x,t,rfl,rfl⟩
  ·rcases Zz hb with ⟨j,u,rfl,e⟩ | ⟨y,u,rfl,e⟩
   ·injection e with e1 _; rw [e1]
   ·exact nomatch e
  ·rcases Zz hb with ⟨j,u,rfl,e⟩ | ⟨y,u,rfl,e⟩
   ·exact nomatch e
   ·injection e with e1 _; rw [e1]
 byValue:=fun k v h=>by
  rcases Zz h with ⟨i,t,rfl,rfl⟩ | ⟨x,t,rfl,rfl⟩ <;> rfl
 pyHash:=fun hv h=>by
  rcases Zz hv with ⟨i,t,rfl,rfl⟩ | ⟨x,t,rfl,rfl⟩
  ·exact wpAny_pyHash_int h
  ·exact wpAny_pyHash_str h
 eqBool:=fun hu hv h=>by
  rcases Zz hu with ⟨i,t,rfl,rfl⟩ | ⟨x,t,rfl,rfl⟩
  ·rcases Zz hv with ⟨j,u,rfl,rfl⟩ | ⟨y,u,rfl,rfl⟩
   ·rw [Zqz] at h; exact wpAny_eqBool_int h
   ·rw [Zqy] at h; exact SeqAt.EqAt.int_str i t y u _ _ _ _ h
  ·rcases Zz hv with ⟨j,u,rfl,rfl⟩ | ⟨y,u,rfl,rfl⟩
   ·rw [Zqx] at h; exact SeqAt.EqAt.str_int x t j u _ _ _ _ h
   ·rw [Zqw] at h; exact wpAny_eqBool_str h
 «strs»:=fun k x t v h=>by
  rcases Zz h with ⟨i,u,rfl,e⟩ | ⟨y,u,rfl,e⟩
  ·exact nomatch e
  ·injection e with e1 _
   subst e1;cases v <;> rfl
def Za1 (prog:Program) (w:World) (i:Int) (t:Tok):(Z3 prog w).is (.inl i) (.int i t)=true:=P8 i t
def Za0 (prog:Program) (w:World) (x:Str) (t:Tok):(Z3 prog w).is (.inr x) (.str x t)=true:=Zgq x t
inductive V where
 | non | bl (b:Bool) | int (i:Int) | str (x:Str) | byt (b:Array UInt8) | flt (b:UInt64) | ref (a:Addr) | ty (n:String)
 deriving DecidableEq
variable {v y:L2.V} {vs xs ys:List L2.V} {kvs:List (List L2.Key×L2.V)}
def RelV:V->Value->Prop
 | .non,u=>u=Value.none
 | .bl b,u=>u=Value.bool b
 | .int i,u=>∃ t,u=Value.int i t
 | .str x,u=>∃ t,u=Value.str x t
 | .byt b,u=>∃ t,u=Value.bytes b t
 | .flt b,u=>∃ t,u=Value.float b t
 | .ref a,u=>u=Value.ref a
 | .ty n,u=>u=Value.type n
abbrev Vals:List V->List Value->Prop:=Paired RelV
def Vals.length (r:Vals xs us):xs.length=us.length:=Paired.length r
theorem Vals.get:∀ {xs:List V} {us:List Value} {i:Nat} {x:V},Vals xs us->xs[i]?=some x->∃ u,us[i]?=some u/\RelV x u
 | _,_,_,_,.nil,e=>by simp at e
 | _,_,0,_,.cons r _,e=>by simp at e; subst e;exists ·,r
 | _,_,i+1,x,.cons _ t,e=>by
  obtain ⟨u,h1,h2⟩:=Vals.get (i:=i) (x:=x) t (by simpa using e);exists u,by simpa using h1,h2
theorem Vals.set {x:V} {u:Value} (r:RelV x u):∀ {xs:List V} {us:List Value} (i:Nat),Vals xs us->Vals (xs.set i x) (us.set i u)
 | _,_,_,.nil=>.nil
 | _,_,0,.cons _ t=>.cons r t
 | _,_,i+1,.cons q t=>.cons q (Vals.set r i t)
theorem Vals.append:∀ {xs ys:List V} {us ws:List Value},Vals xs us->Vals ys ws->Vals (xs++ys) (us++ws):=by
 intro _ _ _ _ hz9 s;cases hz9 with
 | nil=>
  exact s
 | cons r t=>
  exact .cons r (Vals.append t s)
theorem Vals.take:∀ {xs:List V} {us:List Value} (n:Nat),Vals xs us->Vals (xs.take n) (us.take n)
 | _,_,0,_=>.nil
 | _,_,_+1,.nil=>.nil
 | _,_,n+1,.cons r t=>.cons r (Vals.take n t)
theorem Vals.drop:∀ {xs:List V} {us:List Value} (n:Nat),Vals xs us->Vals (xs.drop n) (us.drop n)
 | _,_,0,r=>r
 | _,_,_+1,.nil=>.nil
 | _,_,n+1,.cons _ t=>Vals.drop n t
def RelO:Option V->Option Value->Prop
 | some v,some u=>RelV v u
 | none,none=>True
 | _,_=>False
def KV :List (κ×V)->List (κ×Value)->Prop:=Paired fun (p:κ×V) (q:κ×Value)=>p.1=q.1/\RelV p.2 q.2
def kV:Key->V
 | .inl i=>.int i
 | .inr x=>.str x
def Vi (h:Heap) (a:Addr) (items:Array Value):Prop:=∃ o,h.get? a=some o/\o.cls=.type "tuple"/\∃ n,o.data=.seq items n/\o.dict=none
def Vi.tup {h:Heap} {a:Addr} {items:Array Value} (x:Vi h a items):IsTup h a items:=let ⟨o,e,c,n,d,_⟩:=x; ⟨o,e,c,n,d⟩
def Vi.new (h:Heap) (items:Array Value):Vi (h.push { cls:=.type "tuple",data:=.seq items }) h.objs.size items:=⟨_,Fy _ rfl,rfl,_,rfl,rfl⟩
def Vi.lt {a:Addr} (x:Vi h a items):a<h.objs.size:=let ⟨_,e,_⟩:=x; Fz e
inductive HO where
 | lst (xs:List V)
 | tup (xs:List V)
 | dK (kvs:List (Key×V)) | dT (kvs:List (List Key×V))
 | set (S:Int->Bool) (n:Nat)
 | ins (C dx:Addr) (fs:List (Str×V))
 | own (x:Addr)
 | xd (fs:List (Str×V))
 | met (f x:Addr)
 | rng (lo hi:Int)
 | frz (o:Obj) (u:HO)
 | tbl (ps:Array Value)
 | ext (φ:Heap->Prop)
abbrev Hp:=Addr->Option HO
variable {H I H' I' H1:L2.Hp}
def upd (H:Hp) (a:Addr) (o:HO):Hp:=fun b=>if b=a then some o else H b
def Zg {a:Addr} {o:HO}:upd H a o a=some o:=by unfold upd; rw [if_pos rfl]
def Zm {a b:Addr} {o:HO} (h:b≠a):upd H a o b=H b:=by unfold upd; rw [if_neg h]
def Zee {a:Addr} {o u:HO}:upd (upd H a o) a u=upd H a u:=by
 funext b; unfold upd; split <;> rfl
def V3 {a b:Addr} {o u:HO} (h:H a=some o) (h':H b=some u) (d:o≠u):a≠b:=by
 intro e; subst e; rw [h] at h'; exact d (F5 h')
def Zq {a b:Addr} {o:HO} (h:H a=some o) (h':H b=none):a≠b:=by
 intro e; subst e; rw [h] at h'; cases h'
section
variable (P:Program) (w:World)
def Y9 (H:Hp) (h:Heap) (a:Addr):HO->Prop
 | .lst xs=>xs.length<=sizeLine/\∃ (its:List Value) (n:Nat),Vals xs its/\h.get? a=some { cls:=.type "list",data:=.seq its.toArray n }
 | .tup xs=>xs.length<=sizeLine/\∃ its:List Value,Vals xs its/\Vi h a its.toArray
 | .dK kvs=>kvs.length<=sizeLine/\(a == sysModules)=false/\∃ vs,KV kvs vs/\h.DictOf (Z3 P w) a vs
 | .dT kvs=>kvs.length<=sizeLine/\(a == sysModules)=false/\∃ xs:List (List Key×Addr×Value),
   Paired (fun (p:List Key×V) (q:List Key×Addr×Value)=>p.1=q.1/\H q.2.1=some (.tup (p.1.map kV))/\RelV p.2 q.2.2) kvs xs /\
   ∃ o es ep,h.get? a=some o/\o.ExactDict/\o.data=.dict es ep/\es.toList=xs.map (entryOfKey (tupleKind (Z3 P w)))/\(xs.map (·.1)).Nodup
 | .set S n=>h.SetOf (intKind P w) a S n
 | .ins C dx fs=>H dx=some (.own a)/\fs.length<=1000/\dx≠a/\h.get? a=some (W.instObj C dx) /\
   ∃ mA,h.Ns1 dx mA/\(∀ f,RelO (fs.lookup f) (mA f))/\PySem.Within mA (fs.map (·.1))
 | .own _=>∃ o,h.get? a=some o
 | .xd fs=>∃ mA,h.Ns1 a mA/\∀ f,RelO (fs.lookup f) (mA f)
 | .rng lo hi=>∃ t u v,h.get? a=some { cls:=.type "range",data:=.fields #[.int lo t,.int hi u,.int 1 v] }
 | .frz o u=>h.get? a=some o/\Y9 H h a u
 | .tbl ps=>h.get? a=some { cls:=.none,data:=.fields ps }
 | .met f x=>h.get? a=some (W.methodObj (.ref f) (.ref x))
 | .ext φ=>φ h/\(∃ o,h.get? a=some o)/\∀ h1 h2:Heap,φ h1->(∀ o,h1.get? a=some o->h2.get? a=some o)->φ h2
def HOk (H:Hp) (h:Heap):Prop:=∀ a o,H a=some o->Y9 P w H h a o
end
section
variable {a:Addr} {o:HO}
theorem Y9.lt (x:Y9 P w H h a o):a<h.objs.size:=by
 cases o with
 | lst xs=>obtain ⟨_,_,_,_,e⟩:=x; exact Fz e
 | tup xs=>obtain ⟨_,_,_,p⟩:=x; exact p.lt
 | dK kvs=>obtain ⟨_,_,_,_,o,_,_,e,_⟩:=x; exact Fz e
 | dT kvs=>obtain ⟨_,_,_,_,o,_,_,e,_⟩:=x; exact Fz e
 | set S n=>obtain ⟨o,_,_,_,e,_⟩:=x; exact Fz e
 | ins C dx fs=>obtain ⟨_,_,_,e,_⟩:=x; exact Fz e
 | own y=>obtain ⟨_,e⟩:=x; exact Fz e
 | xd fs=>obtain ⟨_,⟨_,_,_,e,_⟩,_⟩:=x; exact Fz e
 | rng lo hi=>obtain ⟨_,_,_,e⟩:=x; exact Fz e
 | frz ob u=>obtain ⟨e,_⟩:=x; exact Fz e
 | tbl ps=>exact Fz (show h.get? a=some _ from x)
 | met f y=>exact Fz (show h.get? a=some _ from x)
 | ext φ=>obtain ⟨_,⟨_,e⟩,_⟩:=x; exact Fz e
theorem Paired.mapP {α:Type} {F G:α->β->Prop}:∀ {l₁:List α} {l₂:List β},Paired F l₁ l₂->(∀ a b,F a b->G a b)->Paired G l₁ l₂
 | _,_,.nil,_=>.nil
 | _,_,.cons r t,f=>.cons (f _ _ r) (Paired.mapP t f)
theorem Y9.stay (x:Y9 P w H h a o) (k:∀ b u,(b=a\/H b=some (.own a))->h.get? b=some u->h'.get? b=some u)
  (ho:∀ b,H b=some (.own a)->H' b=some (.own a)) (ht:∀ b xs,H b=some (.tup xs)->H' b=some (.tup xs)):Y9 P w H' h' a o:=by
 induction o with
 | lst xs=>obtain ⟨z,its,n,r,e⟩:=x;exists z,its,n,r,k _ _ (.inl rfl) e
 | tup xs=>obtain ⟨z,its,r,ob,e,c⟩:=x;exists z,its,r,ob,k _ _ (.inl rfl) e,c
 | dK kvs=>obtain ⟨z,y,vs,r,ob,es,ep,e,c⟩:=x;exists z,y,vs,r,ob,es,ep,k _ _ (.inl rfl) e,c
 | dT kvs =>
  obtain ⟨z,y,xs,r,ob,es,ep,e,c⟩:=x;exists z,y,xs,Paired.mapP r fun p q z=>⟨z.1,ht _ _ z.2.1,z.2.2⟩,ob,es,ep,k _ _ (.inl rfl) e,c
 | set S n=>obtain ⟨ob,es,ep,t,e,c⟩:=x;exists ob,es,ep,t,k _ _ (.inl rfl) e,c
 | ins C dx fs =>
  obtain ⟨d,z,ne,e,mA,⟨od,es,ep,e2,c⟩,r⟩:=x;exists ho _ d,z,ne,k _ _ (.inl rfl) e,mA,⟨od,es,ep,k _ _ (.inr d) e2,c⟩,r
 | own y=>obtain ⟨ob,e⟩:=x;exists ob,k _ _ (.inl rfl) e
 | xd fs=>obtain ⟨mA,⟨od,es,ep,e,c⟩,r⟩:=x;exists mA,⟨od,es,ep,k _ _ (.inl rfl) e,c⟩,r
 | rng lo hi=>obtain ⟨t,u,v,e⟩:=x;exists t,u,v,k _ _ (.inl rfl) e
 | frz ob u ih=>obtain ⟨e,q⟩:=x;exists k _ _ (.inl rfl) e,ih q
 | tbl ps =>
  have e:h.get? a=some { cls:=.none,data:=.fields ps }:=x;show h'.get? a=some { cls:=.none,data:=.fields ps };exact k a _ (.inl rfl) e
 | met f y =>
  have e:h.get? a=some (W.methodObj (.ref f) (.ref y)):=x;show h'.get? a=some (W.methodObj (.ref f) (.ref y));exact k a _ (.inl rfl) e
 | ext φ=>obtain ⟨p,⟨o,e⟩,st⟩:=x;exists st _ _ p fun o q=>k _ _ (.inl rfl) q,⟨o,k _ _ (.inl rfl) e⟩,st
def HOk.lt (x:HOk P w H h) (e:H a=some o):a<h.objs.size:=(x a o e).lt
theorem HOk.fresh (x:HOk P w H h) (e:h.objs.size<=a):H a=none:=by
 cases q:H a with
 | none=>rfl
 | some u=>exact Fs (Gb (x.lt q) e) (G2 _)
def HOk.kept (x:HOk P w H h) (k:∀ b u,h.get? b=some u->h'.get? b=some u):HOk P w H h':=fun a o e =>
 (x a o e).stay (fun b u _ q=>k b u q) (fun _ q=>q) fun _ _ q=>q
def HOk.laid (x:HOk P w H h) (k:∀ b u,h.get? b=some u->h'.get? b=some u) (hp:h.objs.size<=a) (new:Y9 P w (upd H a o) h' a o):HOk P w (upd H a o) h':=fun b u e=>by
 have hn:=x.fresh hp
 by_cases hb:b=a
 ·subst hb; rw [Zg] at e; cases e; exact new
 ·rw [Zm hb] at e;exact (x b u e).stay (fun c v _ q=>k c v q) (fun c q=>by rw [Zm (Zq q hn)]; exact q) fun c xs q=>by rw [Zm (Zq q hn)]; exact q
end
def Rd (H:Hp) (a:Addr) (u:HO):Prop:=H a=some u\/∃ o,H a=some (.frz o u)
def Rd.ok {a:Addr} {u:HO} (r:Rd H a u) (x:HOk P w H h):Y9 P w H h a u:=by
 rcases r with r | ⟨o,r⟩
 ·exact x a u r
 ·obtain ⟨_,q⟩:=x a _ r;exact q
def Mut:Option HO->Prop
 | some (.lst _)=>True
 | some (.dK _)=>True
 | some (.dT _)=>True
 | some (.set _ _)=>True
 | some (.ins _ _ _)=>True
 | some (.ext _)=>True
 | _=>False
section
variable {x e:Addr} {o':HO}
def HOk.write (ok:HOk P w H h) (mu:Mut (H x)) (he:e=x\/H e=some (.own x)) (k:∀ b u,b≠e->h.get? b=some u->h'.get? b=some u) (heo:∃ u,h'.get? e=some u)
  (new:Y9 P w (upd H x o') h' x o'):HOk P w (upd H x o') h':=fun b u q=>by
 have nown:∀ c y,H c=some (.own y)->c≠x:=fun c y r z=>by subst z; rw [r] at mu; exact mu
 have ntup:∀ c xs,H c=some (.tup xs)->c≠x:=fun c xs r z=>by subst z; rw [r] at mu; exact mu
 by_cases hb:b=x
 ·subst hb; rw [Zg] at q; cases q; exact new
 ·rw [Zm hb] at q
  by_cases hbe:b=e
  ·have q':H b=some (.own x):=by
    rcases he with z | z
    ·exact Fs (hbe.trans z) hb
    ·rw [hbe]; exact z
   rw [q] at q'; cases q';obtain ⟨v,hv⟩:=heo;exact ⟨v,by rw [hbe]; exact hv⟩
  ·refine (ok b u q).stay (fun c v hc r=>k c v ?_ r) (fun c r=>by rw [Zm (nown c b r)]; exact r) fun c xs r=>by rw [Zm (ntup c xs r)]; exact r
   rcases hc with rfl | hc
   ·exact hbe
   ·rintro rfl;rcases he with z | z
    ·exact nown c b hc z
    ·rw [hc] at z; cases z; exact hb rfl
end
structure Un (fs ex:List Addr) (H H':Hp) (h h':Heap):Prop where
 keep:∀ b o,h.get? b=some o->H b=none->b∉fs->b∉ex->h'.get? b=some o
 slot:∀ b o,h.get? b=some o->H b=none->b∈fs->b∉ex->∃ sl,h'.get? b=some { o with slots:=sl }
 free:∀ b o,h.get? b=some o->H b=none->b∉ex->H' b=none
 there:∀ b o,h.get? b=some o->b∉ex->∃ o',h'.get? b=some o'
 tups:∀ b xs,H b=some (.tup xs)->H' b=some (.tup xs)
 frzs:∀ b o u,H b=some (.frz o u)->H' b=some (.frz o u)
 tbls:∀ b ps,H b=some (.tbl ps)->∃ more,H' b=some (.tbl (ps++more))
section
variable {fs ex:List Addr} {h1:Heap} {a x e:Addr} {o:HO}
def Un.any (u:Un fs ex H H1 h h1) {b:Addr} {ob:Obj} (q:h.get? b=some ob) (n:H b=none) (hx:b∉ex):∃ sl,h1.get? b=some { ob with slots:=sl }:=by
 by_cases hb:b∈fs
 ·exact u.slot b ob q n hb hx
 ·exists ob.slots,u.keep b ob q n hb hx
def Un.kept (k:∀ b u,h.get? b=some u->h'.get? b=some u):Un fs ex H H h h' :=
 ⟨fun b ob q _ _ _=>k b ob q,fun b ob q _ _ _=>⟨ob.slots,k b ob q⟩,fun _ _ _ n _=>n,fun b ob q _=>⟨ob,k b ob q⟩,fun _ _ q=>q,fun _ _ _ q=>q,fun _ ps q=>⟨#[],by rw [q]; simp⟩⟩
def Un.refl:Un fs ex H H h h:=Un.kept fun _ _ q=>q
def Un.laid (k:∀ b u,h.get? b=some u->h'.get? b=some u) (hp:h.objs.size<=a) (hn:H a=none):Un fs ex H (upd H a o) h h' where
 keep:=fun b u q _ _ _=>k b u q
 slot:=fun b u q _ _ _=>⟨u.slots,k b u q⟩
 free:=fun b u q n _=>by rw [Zm (Gf (Gb (Fz q) hp))]; exact n
 there:=fun b u q _=>⟨u,k b u q⟩
 tups:=fun b xs q=>by rw [Zm (Zq q hn)]; exact q
 frzs:=fun b u xs q=>by rw [Zm (Zq q hn)]; exact q
 tbls:=fun b ps q=>⟨#[],by rw [Zm (Zq q hn),q]; simp⟩
def Un.write (mu:Mut (H x)) (he:e=x\/H e=some (.own x)) (k:∀ b u,b≠e->h.get? b=some u->h'.get? b=some u) (heo:∃ u,h'.get? e=some u):Un fs ex H (upd H x o) h h':=by
 have hx:∀ b,H b=none->b≠x:=fun b n z=>by subst z; rw [n] at mu; exact mu
 have hb:∀ b,H b=none->b≠e:=fun b n z=>by
  subst z;rcases he with r | r
  ·exact hx b n r
  ·rw [n] at r; cases r
 have hm:∀ b u,H b=some u->¬ Mut (some u)->b≠x:=fun b u q nm z=>by subst z; rw [q] at mu; exact nm mu
 refine ⟨fun b u q n _ _=>k b u (hb b n) q,fun b u q n _ _=>⟨u.slots,k b u (hb b n) q⟩,fun b u q n _=>by rw [Zm (hx b n)]; exact n,fun b u q _=>?_,
  fun b xs q=>by rw [Zm (hm b _ q fun z=>z)]; exact q,fun b u xs q=>by rw [Zm (hm b _ q fun z=>z)]; exact q,fun b ps q=>⟨#[],by rw [Zm (hm b _ q fun z=>z),q]; simp⟩⟩
 by_cases hbe:b=e
 ·subst hbe; exact heo
 ·exists u,k b u hbe q
end
def trk (h:Heap) (H:Hp):List Addr:=(List.range h.objs.size).filter fun a=>(H a).isSome
def hidT (h:Heap) (H:Hp):Heap:=W.hideAll h (trk h H)
def Zgz (h:Heap) (H:Hp):(hidT h H).objs.size=h.objs.size:=W.hideAll_size _ _
def Zjh {b:Addr} {o:Obj} (e:h.get? b=some o) (n:H b=none):(hidT h H).get? b=some o :=
 W.hideAll_get _ e fun hm=>by
  have q:(H b).isSome=true:=(List.mem_filter.mp hm).2;rw [n] at q; simp at q
theorem Zm4 {b:Addr} {o:Obj} (e:(hidT h H).get? b=some o):h.get? b=some o/\H b=none:=by
 have e':h.get? b=some o:=W.of_hideAll (trk h H) e;exists e',?_;cases q:H b with
 | none=>rfl
 | some x =>
  have hm:b∈trk h H:=List.mem_filter.mpr ⟨Fn.mpr (Fz e'),by simp [q]⟩;have z:(hidT h H).get? b=none:=W.hideAll_none (trk h H) hm;rw [z] at e; cases e
structure Mod (K:W.Frag) (mg:Str->Option Value) (base:Heap):Prop where
 kin:K.In base
 glob:base.Ns mainGlobals mg
 blt:∃ mb,base.Ns builtinsNs mb/\∀ x:Str,x≠"__name__"->mb x=bootBuiltins x
 nolimit:base.NoLimit
structure Cx where
 prog:Program
 w:World
 K:W.Frag
 mg:Str->Option Value
 base:Heap
 A:Around
 N:List Str
 s₀:Shared
 H₀:Hp
 env:Env
 outer:List Env
 stack:List Env
 ex:List Addr
 fn:Str->Bool
 calm:Bool
 pn:List (Addr×Obj)
 xe:Value->Shared->Prop
variable {X:L2.Cx}
def frs (l:List Env):List Addr:=l.filterMap (·.frame)
abbrev Cx.fs (X:Cx):List Addr:=frs X.outer
def Vis (sc:Scope) (x:Str):Prop:=sc.names.lookup x=some .local\/sc.names.lookup x=some .cell\/sc.names.lookup x=some .free
def Loc (sc:Scope) (x:Str):Prop:=sc.names.lookup x=some .local\/sc.names.lookup x=some .cell
def Look (env:Env) (h:Heap) (m:Str->Option Value) (x:Str) (u:Value):Prop :=
 (env.kindOf x=some .local/\m x=some u)\/((env.kindOf x=some .cell\/env.kindOf x=some .free)/\∃ c,env.cells.lookup x=some c/\h.IsCell c (some u))
structure Cx.Ok (X:Cx):Prop where
 mod:Mod X.K X.mg X.base
 kind:X.env.scope.kind=.function
 glob:X.env.globals=mainGlobals
 blt:X.env.builtins=builtinsNs
 above:X.s₀.heap.objs.size<=X.env.locals
 inj:∀ x y c,X.env.cells.lookup x=some c->X.env.cells.lookup y=some c->x=y
 has:∀ x,(X.env.kindOf x=some .cell\/X.env.kindOf x=some .free)->∃ c,X.env.cells.lookup x=some c
 cab:∀ x c,X.fn x=true->X.env.cells.lookup x=some c->X.s₀.heap.objs.size<=c
 hd:X.calm=true->X.A.handled=none
 frames:X.A.frames=some X.stack
 stk:X.stack=X.outer\/(X.stack=X.env::X.outer/\X.env.frame=some X.env.locals)
 exf:∀ b∈X.ex,b≠X.env.locals/\∀ x c,X.env.cells.lookup x=some c->c≠b
 bs:∀ b o,X.base.get? b=some o->X.s₀.heap.get? b=some o/\X.H₀ b=none
 bsz:X.base.objs.size<=X.s₀.heap.objs.size
 noex:∀ b o,X.base.get? b=some o->b∉X.ex
 exfs:∀ b∈X.ex,b∉X.fs
 funs:X.s₀.heap.FunFrames X.base X.outer
 frf:∀ b∈X.fs,X.H₀ b=none
structure Inv (X:Cx) (pq:List (Addr×Obj)) (σ:List (Option V)) (H:Hp) (s:Shared):Prop where
 ok:X.Ok
 os:s.os=X.s₀.os
 bare:AllBare s.gens
 base:Un X.fs X.ex X.H₀ H X.s₀.heap s.heap
 loc:∃ m,s.heap.Ns X.env.locals m/\∀ (i:Nat) (x:Str) (v:V),X.N[i]?=some x->σ[i]?=some (some v)->Vis X.env.scope x->∃ u,RelV v u/\Look X.env s.heap m x u
 cell:∀ x c,X.env.cells.lookup x=some c->∃ v,s.heap.IsCell c v
 free:H X.env.locals=none
 freeC:∀ x c,X.env.cells.lookup x=some c->H c=none
 pin:∀ p∈X.pn++pq,s.heap.get? p.1=some p.2/\H p.1=none/\p.1≠X.env.locals/\p.1∉X.fs/\∀ v,p.2.data≠.cell v
 hok:HOk X.prog X.w H s.heap
 len:σ.length=X.N.length
section
variable {σ:List (Option V)} 
def Cx.Ok.nofr (ok:X.Ok) {b:Addr} {o:Obj} (e:X.base.get? b=some o):b∉X.fs:=fun hb=>by
 have:=(ok.funs.mem hb).1;rw [e] at this; cases this
def Inv.bs (I:Inv X pq σ H s):∀ b o,X.base.get? b=some o->s.heap.get? b=some o/\H b=none:=fun b o e =>
 ⟨I.base.keep b o (I.ok.bs b o e).1 (I.ok.bs b o e).2 (I.ok.nofr e) (I.ok.noex b o e),I.base.free b o (I.ok.bs b o e).1 (I.ok.bs b o e).2 (I.ok.noex b o e)⟩
def Inv.bk (I:Inv X pq σ H s):∀ b o,X.base.get? b=some o->s.heap.get? b=some o:=fun b o e=>(I.bs b o e).1
def Inv.mod (I:Inv X pq σ H s):Mod X.K X.mg X.base:=I.ok.mod
def Inv.kIn (I:Inv X pq σ H s):X.K.In s.heap:=I.ok.mod.kin.keeps I.bk
def Inv.lt (I:Inv X pq σ H s):X.env.locals<s.heap.objs.size:=let ⟨_,hn,_⟩:=I.loc; hn.lt
def Inv.sz (I:Inv X pq σ H s):X.s₀.heap.objs.size<=s.heap.objs.size:=J8 I.ok.above (Bt I.lt)
def Inv.nofs (I:Inv X pq σ H s) {a:Addr} (h:s.heap.objs.size<=a):a∉X.fs:=fun hb=>by
 obtain ⟨_,o,ho,_⟩:=I.ok.funs.mem hb;exact Fs (Gb (Fz ho) (J8 I.sz h)) (G2 _)
def Inv.cne (I:Inv X pq σ H s):∀ x c,X.env.cells.lookup x=some c->c≠X.env.locals:=fun x c e z=>by
 obtain ⟨v,o,ho,hd⟩:=I.cell x c e;obtain ⟨m,⟨o',es,ep,ho',hd',_⟩,_⟩:=I.loc;rw [z,ho'] at ho; cases ho; rw [hd'] at hd; cases hd
def Inv.funs (I:Inv X pq σ H s):s.heap.FunFrames X.base X.outer:=by
 have all:∀ (l:List Env),(∀ b∈frs l,b∈X.fs)->X.s₀.heap.FunFrames X.base l->s.heap.FunFrames X.base l:=by
  intro l
  induction l with
  | nil=>intro _ _; trivial
  | cons env r ih =>
   intro hs hl;obtain ⟨hk,⟨L,o,hf,hn,ho,hd⟩,hr⟩:=hl;have hL:L∈X.fs:=hs L (by unfold frs; rw [List.filterMap_cons,hf]; exact List.mem_cons_self);obtain ⟨sl,e⟩:=I.base.slot L o ho (I.ok.frf L hL) hL fun z=>I.ok.exfs L z hL;exists hk,⟨L,_,hf,hn,e,hd⟩,ih (fun b hb=>hs b (by unfold frs; rw [List.filterMap_cons,hf]; exact List.mem_cons_of_mem _ hb)) hr
 exact all X.outer (fun _ hb=>hb) I.ok.funs
def Inv.stack (I:Inv X pq σ H s):s.heap.FunFrames X.base X.stack:=by
 rcases I.ok.stk with e | ⟨e,hf⟩
 ·rw [e]; exact I.funs
 ·rw [e];obtain ⟨m,hn,_⟩:=I.loc;refine .cons (by rw [I.ok.kind]; decide) hf hn ?_ I.funs;exact Heap.get?_none_of_le (J8 I.ok.bsz I.ok.above)
def Inv.stkSub (I:Inv X pq σ H s):∀ b∈frs X.stack,b∈X.env.locals::X.fs:=fun b hb=>by
 rcases I.ok.stk with e | ⟨e,hf⟩
 ·rw [e] at hb; exact Jg _ hb
 ·rw [e] at hb;unfold frs at hb;rw [List.filterMap_cons,hf] at hb;exact hb
def Inv.stkFree (I:Inv X pq σ H s):∀ b∈frs X.stack,H b=none:=fun b hb=>by
 rcases Jy.mp (I.stkSub b hb) with e | hb
 ·rw [e]; exact I.free
 ·obtain ⟨_,o,ho,_⟩:=I.ok.funs.mem hb;exact I.base.free b o ho (I.ok.frf b hb) fun z=>I.ok.exfs b z hb
def Inv.step {g':Array GenState} {t':Nat} {d':Drawn} {ch:List Addr} (I:Inv X pq σ H s)
  (hch:∀ b∈ch,(b∈X.ex\/X.s₀.heap.objs.size<=b)/\b≠X.env.locals/\(∀ x c,X.env.cells.lookup x=some c->c≠b)/\∀ p∈X.pn++pq,p.1≠b)
  (keep:∀ b o,b≠X.env.locals->b∉X.fs->b∉ch->s.heap.get? b=some o->H b=none->h'.get? b=some o)
  (slot:∀ b o,b≠X.env.locals->b∈X.fs->b∉ch->s.heap.get? b=some o->H b=none->∃ sl,h'.get? b=some { o with slots:=sl }) (free:∀ b o,b∉ch->s.heap.get? b=some o->H b=none->H' b=none)
  (there:∀ b o,b∉ch->s.heap.get? b=some o->∃ o',h'.get? b=some o')
  (tups:∀ b xs,H b=some (.tup xs)->H' b=some (.tup xs)) (frzs:∀ b o u,H b=some (.frz o u)->H' b=some (.frz o u)) (tbls:∀ b ps,H b=some (.tbl ps)->∃ more,H' b=some (.tbl (ps++more)))
  (ns:∀ m,s.heap.Ns X.env.locals m->h'.Ns X.env.locals m) (hok:HOk X.prog X.w H' h') (hg:AllBare g') :
  Inv X pq σ H' { s with heap:=h',gens:=g',drawn:=d',toks:=t' }:=by
 have neL:∀ b o,X.s₀.heap.get? b=some o->b≠X.env.locals:=fun b o e=>Gf (Gb (Fz e) I.ok.above);have neC:∀ b o,X.s₀.heap.get? b=some o->b∉X.ex->b∉ch:=fun b o e hx hb=>by
  rcases (hch b hb).1 with z | z
  ·exact hx z
  ·exact Fs (Gb (Fz e) z) (G2 _)
 have cellK:∀ x c,X.env.cells.lookup x=some c->∀ v,s.heap.IsCell c v->h'.IsCell c v:=fun x c e v ⟨o,ho,hd⟩=>by
  have nch:c∉ch:=fun z=>(hch c z).2.2.1 x c e rfl
  by_cases hc:c∈X.fs
  ·obtain ⟨sl,q⟩:=slot c o (I.cne x c e) hc nch ho (I.freeC x c e);exists _,q,hd
  ·exists o,keep c o (I.cne x c e) hc nch ho (I.freeC x c e),hd
 exists I.ok,I.os,hg,⟨fun b o e n hb hx=>?_,fun b o e n hb hx=>?_,fun b o e n hx=>?_,fun b o e hx=>?_,fun b xs e=>tups b xs (I.base.tups b xs e),fun b o xs e=>frzs b o xs (I.base.frzs b o xs e),fun b ps e=>?_⟩,?_,fun x c e=>?_,?_,fun x c e=>?_,fun p hp=>?_,hok,I.len
 ·exact keep b o (neL b o e) hb (neC b o e hx) (I.base.keep b o e n hb hx) (I.base.free b o e n hx)
 ·obtain ⟨sl,e1⟩:=I.base.slot b o e n hb hx;obtain ⟨sl',e2⟩:=slot b _ (neL b o e) hb (neC b o e hx) e1 (I.base.free b o e n hx);exists sl',e2
 ·obtain ⟨o',e1⟩:=I.base.there b o e hx;exact free b o' (neC b o e hx) e1 (I.base.free b o e n hx)
 ·obtain ⟨o',e1⟩:=I.base.there b o e hx;exact there b o' (neC b o e hx) e1
 ·obtain ⟨m1,e1⟩:=I.base.tbls b ps e;obtain ⟨m2,e2⟩:=tbls b _ e1;exact ⟨m1++m2,by rw [e2,Array.append_assoc]⟩
 ·obtain ⟨m,hn,hl⟩:=I.loc;exists m,ns m hn,fun i x v e1 e2 e3=>?_;obtain ⟨u,r,l⟩:=hl i x v e1 e2 e3;exists u,r,?_;rcases l with l | ⟨k,c,e,z⟩
  ·exact .inl l
  ·exact .inr ⟨k,c,e,cellK x c e _ z⟩
 ·obtain ⟨v,z⟩:=I.cell x c e;exists v,cellK x c e v z
 ·obtain ⟨m,⟨o,_,_,ho,_⟩,_⟩:=I.loc;exact free _ o (fun z=>(hch _ z).2.1 rfl) ho I.free
 ·obtain ⟨v,o,ho,hd⟩:=I.cell x c e;exact free c o (fun z=>(hch c z).2.2.1 x c e rfl) ho (I.freeC x c e)
 ·obtain ⟨e,n,ne,nf,d⟩:=I.pin p hp;have nch:p.1∉ch:=fun z=>(hch p.1 z).2.2.2 p hp rfl;exists keep p.1 p.2 ne nf nch e n,free p.1 p.2 nch e n,ne,nf,d
def Inv.un (I:Inv X pq σ H s) (u:Un X.fs [] H H' s.heap h') (hok:HOk X.prog X.w H' h'):Inv X pq σ H' { s with heap:=h',toks:=t' }:=by
 obtain ⟨m,⟨o,es,ep,ho,r⟩,_⟩:=id I.loc;obtain ⟨sl,hL⟩:=u.any ho I.free (by simp);exact I.step (g':=s.gens) (d':=s.drawn) (ch:=[]) (fun _ z=>nomatch z) (fun b o _ hb _ e n=>u.keep b o e n hb (by simp)) (fun b o _ hb _ e n=>u.slot b o e n hb (by simp)) (fun b o _ e n=>u.free b o e n (by simp)) (fun b o _ e=>u.there b o e (by simp)) u.tups u.frzs u.tbls (fun m' hm=>by
  obtain ⟨o',es',ep',ho',r'⟩:=hm;rw [ho] at ho'; cases ho';exact ⟨_,es',ep',hL,r'⟩) hok I.bare
def Inv.call {g':Array GenState} {d':Drawn} {ch:List Addr} (I:Inv X pq σ H s) (u:Un (frs X.stack) ch H H' s.heap h') (hok:HOk X.prog X.w H' h') (hg:AllBare g')
  (hch:∀ b∈ch,(b∈X.ex\/X.s₀.heap.objs.size<=b)/\b≠X.env.locals/\(∀ x c,X.env.cells.lookup x=some c->c≠b)/\∀ p∈X.pn++pq,p.1≠b) :
  Inv X pq σ H' { s with heap:=h',gens:=g',drawn:=d',toks:=t' }:=by
 obtain ⟨m,⟨o,es,ep,ho,r⟩,_⟩:=id I.loc;obtain ⟨sl,hL⟩:=u.any ho I.free fun z=>(hch _ z).2.1 rfl;exact I.step (ch:=ch) hch (fun b o hL hb hc e n=>u.keep b o e n (fun z=>(Jy.mp (I.stkSub b z)).elim hL hb) hc) (fun b o _ _ hc e n=>u.any e n hc) (fun b o hc e n=>u.free b o e n hc) (fun b o hc e=>u.there b o e hc) u.tups u.frzs u.tbls (fun m' hm=>by
  obtain ⟨o',es',ep',ho',r'⟩:=hm;rw [ho] at ho'; cases ho';exact ⟨_,es',ep',hL,r'⟩) hok hg
def Inv.turned (I:Inv X pq σ H s) (k:∀ b o,b≠it->s.heap.get? b=some o->h'.get? b=some o) (hn:H it=none) (hL:it≠X.env.locals)
  (h1:it∈X.ex\/X.s₀.heap.objs.size<=it) (h2:∀ x c,X.env.cells.lookup x=some c->c≠it) (h3:∀ p∈X.pn++pq,p.1≠it):Inv X pq σ H { s with heap:=h',toks:=t' }:=by
 have nit:∀ b u,H b=some u->b≠it:=fun b u e z=>by rw [z,hn] at e; cases e
 refine I.step (g':=s.gens) (d':=s.drawn) (ch:=[it]) (fun b hb=>?_) (fun b o _ _ hc e _=>k b o (fun z=>hc (by simp [z])) e) (fun b o _ _ hc e _=>⟨o.slots,k b o (fun z=>hc (by simp [z])) e⟩) (fun _ _ _ _ n=>n)
  (fun b o hc e=>⟨o,k b o (fun z=>hc (by simp [z])) e⟩) (fun _ _ e=>e) (fun _ _ _ e=>e) (fun b ps e=>⟨#[],by rw [e]; simp⟩) (fun m hm=>?_) (fun b u e=>?_) I.bare
 ·have e:b=it:=by simpa using hb
  subst e;exists h1,hL,h2,h3
 ·obtain ⟨o,es,ep,ho,r⟩:=hm;exists o,es,ep,k _ o (Ne.symm hL) ho,r
 ·refine (I.hok b u e).stay (fun c v hc q=>k c v ?_ q) (fun _ q=>q) fun _ _ q=>q;rcases hc with z | z
  ·rw [z]; exact nit b u e
  ·exact nit c _ z
def Inv.tok (I:Inv X pq σ H s) (t:Nat):Inv X pq σ H { s with toks:=t }:=I.un (h':=s.heap) (t':=t) Un.refl I.hok
def Inv.kept (I:Inv X pq σ H s) (k:∀ b u,s.heap.get? b=some u->h'.get? b=some u):Inv X pq σ H { s with heap:=h',toks:=t' }:=I.un (Un.kept k) (I.hok.kept k)
def Inv.laid {a:Addr} {o:HO} (I:Inv X pq σ H s) (k:∀ b u,s.heap.get? b=some u->h'.get? b=some u) (hp:s.heap.objs.size<=a) (new:Y9 X.prog X.w (upd H a o) h' a o) :
  Inv X pq σ (upd H a o) { s with heap:=h',toks:=t' }:=I.un (Un.laid k hp (I.hok.fresh hp)) (I.hok.laid k hp new)
def Inv.write {x e:Addr} {o:HO} (I:Inv X pq σ H s) (mu:Mut (H x)) (he:e=x\/H e=some (.own x)) (k:∀ b u,b≠e->s.heap.get? b=some u->h'.get? b=some u) (heo:∃ u,h'.get? e=some u)
  (new:Y9 X.prog X.w (upd H x o) h' x o):Inv X pq σ (upd H x o) { s with heap:=h',toks:=t' }:=I.un (Un.write mu he k heo) (I.hok.write mu he k heo new)
def Inv.weak {σ':List (Option V)} (I:Inv X pq σ H s) (hl:σ'.length=σ.length) (w:∀ (i:Nat) v,σ'[i]?=some (some v)->σ[i]?=some (some v)):Inv X pq σ' H s :=
 ⟨I.ok,I.os,I.bare,I.base,let ⟨m,hn,hl'⟩:=I.loc; ⟨m,hn,fun i x v e1 e2 e3=>hl' i x v e1 (w i v e2) e3⟩,I.cell,I.free,I.freeC,I.pin,I.hok,hl.trans I.len⟩
def Inv.pins_of {pins':List (Addr×Obj)} (I:Inv X pq σ H s) (h:∀ p∈pins',s.heap.get? p.1=some p.2/\H p.1=none/\p.1≠X.env.locals/\p.1∉X.fs/\∀ v,p.2.data≠.cell v):Inv X pins' σ H s :=
 ⟨I.ok,I.os,I.bare,I.base,I.loc,I.cell,I.free,I.freeC,fun p hp=>(J9.mp hp).elim (fun z=>I.pin p (Gn _ z)) (h p),I.hok,I.len⟩
def Zcn (hN:N.Nodup) {i:Nat} {x:Str} (a:N[i]?=some x) (b:N[j]?=some x):i=j:=by
 obtain ⟨h1,e1⟩:=Je.mp a;obtain ⟨h2,e2⟩:=Je.mp b;exact (Bo hN).mp (e1.trans e2.symm)
def Pi {M:Model} {i:Nat} {x:Str} {u:Value} {Q:Unit->Shared->Prop} (I:Inv X pq σ H s) (hN:X.N.Nodup) (hi:X.N[i]?=some x) (hx:Loc X.env.scope x) (r:RelV v u)
  (h:∀ s',Inv X pq (σ.set i (some v)) H s'->(∃ a,Heap.SameBut a s.heap s'.heap/\(a=X.env.locals\/X.env.cells.lookup x=some a))->Q () s') (hf:X.fn x=true\/X.env.scope.names.lookup x=some .local:=by first | left; rfl | right; rfl | assumption):wpAny M A (storeName X.env x u) Q E s:=by
 obtain ⟨m,hn,hl⟩:=id I.loc;have hcls:(X.env.scope.kind == .class || (X.env.scope.kind == .module && X.env.locals != X.env.globals))=false:=by rw [I.ok.kind]; rfl
 have hiσ:i < σ.length:=by rw [I.len]; exact (Je.mp hi).1
 have cne:=I.cne;have tracked:∀ {a:Addr} {h':Heap},(∃ o,s.heap.get? a=some o/\H a=none)->Heap.SameBut a s.heap h'->HOk X.prog X.w H h':=fun {a h'} ha hs b ob e=>by
  obtain ⟨_,_,hfree⟩:=ha;refine (I.hok b ob e).stay (fun c w' hc q=>(hs.2 c ?_).trans q) (fun _ q=>q) fun _ _ q=>q;rintro rfl;rcases hc with rfl | hc
  ·rw [hfree] at e; cases e
  ·rw [hfree] at hc; cases hc
 rcases hx with hk | hk
 ·refine wpAny_storeName_local hk hn (fun h' hn' hs=>?_) hcls;obtain ⟨oL,_,_,hoL,_⟩:=id hn;refine h _ ⟨I.ok,I.os,I.bare,⟨fun b o e n hb hx=>?_,fun b o e n hb hx=>?_,I.base.free,fun b o e hx=>?_,I.base.tups,I.base.frzs,I.base.tbls⟩,⟨_,hn',fun j y v' e1 e2 e3=>?_⟩,fun y c e=>?_,I.free,I.freeC,fun p hp=>?_,tracked ⟨oL,hoL,I.free⟩ hs,by simpa using I.len⟩ ⟨_,hs,.inl rfl⟩
  ·exact (hs.2 b (Gf (Gb (Fz e) I.ok.above))).trans (I.base.keep b o e n hb hx)
  ·obtain ⟨sl,e1⟩:=I.base.slot b o e n hb hx;exists sl,(hs.2 b (Gf (Gb (Fz e) I.ok.above))).trans e1
  ·obtain ⟨o',e1⟩:=I.base.there b o e hx;exists o',(hs.2 b (Gf (Gb (Fz e) I.ok.above))).trans e1
  ·by_cases hj:j=i
   ·subst hj;rw [hi] at e1; cases e1;rw [Gh hiσ] at e2;cases e2;exists u,r,.inl ⟨hk,by simp⟩
   ·rw [Bi (Ne.symm hj)] at e2;obtain ⟨u',r',q⟩:=hl j y v' e1 e2 e3;exists u',r',?_;rcases q with ⟨k,e⟩ | ⟨k,c,e,z⟩
    ·refine .inl ⟨k,?_⟩;have:y≠x:=fun e=>hj (Zcn hN e1 (e ▸ hi));simp [this,e]
    ·exact .inr ⟨k,c,e,z.sameBut hs (cne y c e)⟩
  ·obtain ⟨w',z⟩:=I.cell y c e;exists w',z.sameBut hs (cne y c e)
  ·obtain ⟨e,n,ne,nf,d⟩:=I.pin p hp;exists (hs.2 p.1 ne).trans e,n,ne,nf,d
 ·have hfn:X.fn x=true:=by
   rcases hf with z | z
   ·exact z
   ·rw [z] at hk; cases hk
  obtain ⟨c,hc⟩:=I.ok.has x (.inl hk);obtain ⟨w',z⟩:=I.cell x c hc;refine wpAny_storeName_cell I.ok.kind hk hc z (fun h' hc' hs=>?_);obtain ⟨oc,hoc,hocd⟩:=id z;refine h { s with heap:=h' } ⟨I.ok,I.os,I.bare,⟨fun b o e n hb hx=>?_,fun b o e n hb hx=>?_,I.base.free,fun b o e hx=>?_,I.base.tups,I.base.frzs,I.base.tbls⟩,⟨m,hn.sameBut hs (Ne.symm (cne x c hc)),fun j y v' e1 e2 e3=>?_⟩,fun y c' e=>?_,I.free,I.freeC,fun p hp=>?_,tracked ⟨oc,hoc,I.freeC x c hc⟩ hs,by simpa using I.len⟩ ⟨c,hs,.inr hc⟩
  ·exact (hs.2 b (Gf (Gb (Fz e) (I.ok.cab x c hfn hc)))).trans (I.base.keep b o e n hb hx)
  ·obtain ⟨sl,e1⟩:=I.base.slot b o e n hb hx;exists sl,(hs.2 b (Gf (Gb (Fz e) (I.ok.cab x c hfn hc)))).trans e1
  ·obtain ⟨o',e1⟩:=I.base.there b o e hx;exists o',(hs.2 b (Gf (Gb (Fz e) (I.ok.cab x c hfn hc)))).trans e1
  ·by_cases hj:j=i
   ·subst hj;rw [hi] at e1; cases e1;rw [Gh hiσ] at e2;cases e2;exists u,r,.inr ⟨.inl hk,c,hc,hc'⟩
   ·rw [Bi (Ne.symm hj)] at e2;obtain ⟨u',r',q⟩:=hl j y v' e1 e2 e3;exists u',r',?_;rcases q with q | ⟨k,c',e,z'⟩
    ·exact .inl q
    ·refine .inr ⟨k,c',e,z'.sameBut hs ?_⟩;rintro rfl;exact hj (Zcn hN e1 (I.ok.inj _ _ _ e hc ▸ hi))
  ·by_cases hcc:c'=c
   ·subst hcc;exists _,hc'
   ·obtain ⟨w2,z2⟩:=I.cell y c' e;exists w2,z2.sameBut hs hcc
  ·obtain ⟨e,n,ne,nf,d⟩:=I.pin p hp;exists (hs.2 p.1 ?_).trans e,n,ne,nf,d;intro q;rw [q,hoc] at e;have q':oc=p.2:=F5 e;exact d w' (by rw [<- q']; exact hocd)
def Vo {M:Model} {i:Nat} {x:Str} {u:Value} {Q:Unit->Shared->Prop} (I:Inv X pq σ H s) (hN:X.N.Nodup) (hi:X.N[i]?=some x) (hx:Loc X.env.scope x) (r:RelV v u)
  (h:∀ s',Inv X pq (σ.set i (some v)) H s'->Q () s') (hf:X.fn x=true\/X.env.scope.names.lookup x=some .local:=by first | left; rfl | right; rfl | assumption):wpAny M A (storeName X.env x u) Q E s :=
 Pi I hN hi hx r (fun s' I' _=>h s' I') hf
def Inv.call' {s':Shared} {ch:List Addr} (I:Inv X pq σ H s) (ho:s'.os=s.os) (u:Un (frs X.stack) ch H H' s.heap s'.heap) (hok:HOk X.prog X.w H' s'.heap) (hg:AllBare s'.gens)
  (hch:∀ b∈ch,(b∈X.ex\/X.s₀.heap.objs.size<=b)/\b≠X.env.locals/\(∀ x c,X.env.cells.lookup x=some c->c≠b)/\∀ p∈X.pn++pq,p.1≠b):Inv X pq σ H' s':=by
 obtain ⟨h',g',d',t',o'⟩:=s';have e:o'=s.os:=ho;subst e;exact I.call (g':=g') (t':=t') (d':=d') u hok hg hch
end
abbrev XK:=Value->Option Addr->Hp->Prop
abbrev St:=List (Option V)
variable {σ:L2.St}
abbrev VK:=V->Hp->Prop
variable {Q:L2.VK}
abbrev TE:=St->Hp->VK->Prop
variable {te ta tb to tv td:L2.TE}
abbrev TT:=St->Hp->(Bool->Hp->Prop)->Prop
abbrev TA:=St->Hp->(List V->Hp->Prop)->Prop
structure Ends where
 nx:St->Hp->Prop
 rt:VK
 bk:St->Hp->Prop:=fun _ _=>False
 ct:St->Hp->Prop:=fun _ _=>False
abbrev TS:=Ends->St->Hp->Prop
def EP (X:Cx) (pq:List (Addr×Obj)) (σ:St) (Q:VK) (u:Value) (s':Shared):Prop:=∃ v H',Inv X pq σ H' s'/\RelV v u/\Q v H'
def TP (X:Cx) (pq:List (Addr×Obj)) (σ:St) (Q:Bool->Hp->Prop) (b:Bool) (s':Shared):Prop:=∃ H',Inv X pq σ H' s'/\Q b H'
def AP (X:Cx) (pq:List (Addr×Obj)) (σ:St) (Q:List V->Hp->Prop) (us:List Value) (s':Shared):Prop:=∃ vs H',Inv X pq σ H' s'/\Vals vs us/\Q vs H'
def SP (X:Cx) (pq:List (Addr×Obj)) (D:Ends) (f:Flow) (s':Shared):Prop :=
 match f with
 | .next=>∃ σ' H',Inv X pq σ' H' s'/\D.nx σ' H'
 | .brk=>∃ σ' H',Inv X pq σ' H' s'/\D.bk σ' H'
 | .cont=>∃ σ' H',Inv X pq σ' H' s'/\D.ct σ' H'
 | .ret u=>∃ v σ' H',Inv X pq σ' H' s'/\RelV v u/\D.rt v H'
def PE (X:Cx) (e:Expr) (t:TE):Prop :=
 ∀ (pq:List (Addr×Obj)) (s:Shared) (σ:St) (H:Hp) (Q:VK),Inv X pq σ H s->t σ H Q->wpAny (model X.prog X.w) X.A (eval e X.env) (EP X pq σ Q) X.xe s
def PT (X:Cx) (e:Expr) (t:TT):Prop :=
 ∀ (pq:List (Addr×Obj)) (s:Shared) (σ:St) (H:Hp) (Q:Bool->Hp->Prop),Inv X pq σ H s->t σ H Q->wpAny (model X.prog X.w) X.A (isTrue e X.env (eval e X.env)) (TP X pq σ Q) X.xe s
def PW (X:Cx) (e:Expr) (t:TT):Prop :=
 ∀ (whole:Sem Value) (pq:List (Addr×Obj)) (s:Shared) (σ:St) (H:Hp) (Q:Bool->Hp->Prop),Inv X pq σ H s->t σ H Q->wpAny (model X.prog X.w) X.A (isTrue e X.env whole) (TP X pq σ Q) X.xe s
def PW.pt {e:Expr} {t:TT} (h:PW X e t):PT X e t:=h _
def PA (X:Cx) (es:List Expr) (t:TA):Prop :=
 ∀ (pos:Pos) (pq:List (Addr×Obj)) (s:Shared) (σ:St) (H:Hp) (Q:List V->Hp->Prop),Inv X pq σ H s->t σ H Q->wpAny (model X.prog X.w) X.A (spliced (backTo pos (starEach es X.env))) (AP X pq σ Q) X.xe s
def PS (X:Cx) (st:Stmt) (t:TS):Prop :=
 ∀ (pq:List (Addr×Obj)) (s:Shared) (σ:St) (H:Hp) (D:Ends),Inv X pq σ H s->t D σ H->wpAny (model X.prog X.w) X.A (exec st X.env) (SP X pq D) X.xe s
def PSs (X:Cx) (st:List Stmt) (t:TS):Prop :=
 ∀ (pq:List (Addr×Obj)) (s:Shared) (σ:St) (H:Hp) (D:Ends),Inv X pq σ H s->t D σ H->wpAny (model X.prog X.w) X.A (execs st X.env) (SP X pq D) X.xe s
def thn {α:Type} {t:Sem α} {Q Q':α->Shared->Prop} {M:Model} (h:wpAny M A t Q E s) (hQ:∀ a s,Q a s->Q' a s):wpAny M A t Q' E s:=F7 h hQ fun _ _ x=>x
section
def tVar (i:Nat):TE:=fun σ H Q=>∃ v,σ[i]?=some (some v)/\Q v H
def tC (v:V):TE:=fun _ H Q=>Q v H
def Zqj {i:Nat} {x:Str} (hN:X.N[i]?=some x) (hv:Vis X.env.scope x) (hd:(x == ("__debug__":Str))=false:=by decide) (hcd:(x == ("__classdict__":Str))=false:=by decide):PE X (.Name x pos) (tVar i):=by
 intro pq s σ H Q I h;obtain ⟨v,e,h⟩:=h;obtain ⟨m,hn,hl⟩:=I.loc;obtain ⟨u,r,l⟩:=hl i x v hN e hv;have fin:EP X pq σ Q u s:=⟨v,H,I,r,h⟩;rcases l with ⟨hk,hm⟩ | ⟨hk,c,hc,hcell⟩
 ·exact wpAny_Name (wpAny_loadName_local I.ok.kind hk hn hm fin) hd
 ·rcases hk with hk | hk
  ·exact wpAny_Name (wpAny_loadName_cell I.ok.kind hk hc hcell fin) hd
  ·exact wpAny_Name (wpAny_loadName_free I.ok.kind hk hc hcell fin hcd) hd
def Zd {i j pos}:PE X (.Constant (.int i) j pos) (tC (.int i)):=fun _ _ _ H _ I h=>wpAny_Constant_int ⟨.int i,H,I.tok _,⟨_,rfl⟩,h⟩
def Rg {b j pos}:PE X (.Constant (.bool b) j pos) (tC (.bl b)):=fun _ _ _ H _ I h=>Constant_bool ⟨.bl b,H,I,rfl,h⟩
def Vu {j pos}:PE X (.Constant .none j pos) (tC .non):=fun _ _ _ H _ I h=>Constant_none ⟨.non,H,I,rfl,h⟩
def Zf0 {x j pos}:PE X (.Constant (.str x) j pos) (tC (.str x)):=fun _ _ _ H _ I h=>Calls.Constant_str ⟨.str x,H,I.tok _,⟨_,rfl⟩,h⟩
def Gl (X:Cx) (x:Str):Prop:=X.env.kindOf x=some .globalImplicit
def Za5 {x:Str} {u:Value} {Q:Value->Shared->Prop} (I:Inv X pq σ H s) (hg:Gl X x) (hm:X.mg x=some u) (h:Q u s)
  (hd:(x == ("__debug__":Str))=false:=by decide):wpAny (model X.prog X.w) X.A (eval (.Name x pos) X.env) Q E s :=
 Calls.Name_function_global I.ok.kind hg (Calls.loadGlobal_global (by rw [I.ok.glob]; exact I.mod.glob.keeps I.bk) hm h) hd
def Rt {x:Str} {u:Value} {Q:Value->Shared->Prop} (I:Inv X pq σ H s) (hg:Gl X x) (hm:X.mg x=none) (hv:bootBuiltins x=some u) (h:Q u s)
  (hn:x≠"__name__":=by decide) (hd:(x == ("__debug__":Str))=false:=by decide):wpAny (model X.prog X.w) X.A (eval (.Name x pos) X.env) Q E s:=by
 obtain ⟨mb,h1,h2⟩:=I.mod.blt;exact Calls.Name_function_global I.ok.kind hg (Calls.loadGlobal_builtin (by rw [I.ok.glob]; exact I.mod.glob.keeps I.bk) hm (by rw [I.ok.blt]; exact h1.keeps I.bk) ((h2 x hn).trans hv) h) hd
def Zmz {x:Str} {u:Value} (hg:Gl X x) (hm:X.mg x=some u) (r:RelV v u) (hd:(x == ("__debug__":Str))=false:=by decide):PE X (.Name x pos) (tC v) :=
 fun _ _ _ H _ I h=>Za5 I hg hm ⟨v,H,I,r,h⟩ hd
variable {a b:Expr} 
def PC (X:Cx) (op:CmpOp) (a b:Expr) (t:TE):Prop :=
 ∀ (pq:List (Addr×Obj)) (s:Shared) (σ:St) (H:Hp) (Q:VK),Inv X pq σ H s->t σ H Q ->
  wpAny (model X.prog X.w) X.A (eval a X.env) (fun v s₁=>wpAny (model X.prog X.w) X.A (eval b X.env) (fun u s₂=>wpAny (model X.prog X.w) X.A (compareOp op v u) (EP X pq σ Q) X.xe s₂) X.xe s₁) X.xe s
def Zco (b:Expr) {op:CmpOp} (h:op≠.In) (h2:op≠.NotIn):behindInMarks op b=false:=by
 have e1:(op == CmpOp.In)=false:=by cases op <;> first | rfl | exact Fs rfl h
 have e2:(op == CmpOp.NotIn)=false:=by cases op <;> first | rfl | exact Fs rfl h2
 cases b <;> simp [behindInMarks,e1,e2]
def tIsN (ta:TE):TE:=fun σ H Q=>ta σ H fun x H1=>Q (.bl (decide (x=.non))) H1
def Zo5 (ta:TE):TE:=fun σ H Q=>ta σ H fun x H1=>Q (.bl (!decide (x=.non))) H1
theorem RelV.none_iff {x:V} {v:Value} (r:RelV x v):(v == Value.none)=decide (x=.non):=by
 cases x with
 | non=>cases r; rfl
 | bl _=>cases r; rfl
 | int _=>obtain ⟨t,rfl⟩:=r; rfl
 | str _=>obtain ⟨t,rfl⟩:=r; rfl
 | byt _=>obtain ⟨t,rfl⟩:=r; rfl
 | flt _=>obtain ⟨t,rfl⟩:=r; rfl
 | ref _=>cases r; rfl
 | ty _=>cases r; rfl
def Tb {j pos'} (ha:PE X a ta):PC X .Is a (.Constant .none j pos') (tIsN ta):=by
 intro pq s σ H Q I h;refine thn (ha pq s σ H _ I h) fun v s1 hz=>?_;obtain ⟨x,H1,I1,r1,q1⟩:=hz;exact Constant_none (is_none_gen ⟨.bl _,H1,I1,by rw [r1.none_iff]; rfl,q1⟩)
def T5 {j pos'} (ha:PE X a ta):PC X .IsNot a (.Constant .none j pos') (Zo5 ta):=by
 intro pq s σ H Q I h;refine thn (ha pq s σ H _ I h) fun v s1 hz=>?_;obtain ⟨x,H1,I1,r1,q1⟩:=hz;exact Constant_none (isnot_none_gen ⟨.bl _,H1,I1,by rw [r1.none_iff]; rfl,q1⟩)
def tB (t:TE):TT:=fun σ H Q=>t σ H fun x H1=>∃ c,x=.bl c/\Q c H1
def Zks {op:CmpOp} {t:TE} (h:PC X op a b t) (h1:behindInMarks op b=false:=by first | exact Zco _ nofun nofun | rfl):PE X (.Compare a [op] [b] pos) t:=fun pq s σ H Q I hw=>wpAny_Compare1 (h pq s σ H Q I hw) h1
def X1 {op:CmpOp} {t:TE} (h:PC X op a b t) (h1:behindInMarks op b=false:=by first | exact Zco _ nofun nofun | rfl):PT X (.Compare a [op] [b] pos) (tB t):=by
 intro pq s σ H Q I hw;refine wpAny_isTrue_Compare1 (thn (h pq s σ H _ I hw) fun v s1 h1=>thn h1 fun u s2 h2=>thn h2 fun c s3 hz=>?_) h1;obtain ⟨x,H1,I1,r1,q1⟩:=hz;obtain ⟨d,rfl,q⟩:=q1;cases r1;exact wpAny_truthy_bool ⟨H1,I1,q⟩
def Rp {e:Expr} {t:TE} (h:PE X e t) (he:∀ whole,isTrue e X.env whole=(do let v <- whole; standAt e.pos; holding [v] (truthy v)):=by intro _; rfl):PT X e (tB t):=by
 intro pq s σ H Q I hw;refine isTrue_plain (thn (h pq s σ H _ I hw) fun v s1 hz=>?_) (he _);obtain ⟨x,H1,I1,r1,q1⟩:=hz;obtain ⟨d,rfl,q⟩:=q1;cases r1;exact wpAny_truthy_bool ⟨H1,I1,q⟩
variable {tA tB':TT} {rest:List Expr}
def tAnd (t u:TT):TT:=fun σ H Q=>t σ H fun c H1=>if c=true then u σ H1 Q else Q false H1
def tOr (t u:TT):TT:=fun σ H Q=>t σ H fun c H1=>if c=true then Q true H1 else u σ H1 Q
theorem V2 (ha:PT X a tA):PW X (.BoolOp .And [a] pos) tA:=by
 intro wh pq s σ H Q I h;refine isTrue_and (thn (ha pq s σ H Q I h) fun c s1 e=>?_);cases c with
 | true=>exact isTrue_and_nil e
 | false=>exact e
theorem Zfs (ha:PT X a tA):PW X (.BoolOp .Or [a] pos) tA:=by
 intro wh pq s σ H Q I h;refine isTrue_or (thn (ha pq s σ H Q I h) fun c s1 e=>?_);cases c with
 | false=>exact isTrue_or_nil e
 | true=>exact e
theorem T4 (ha:PT X a tA) (hb:PW X (.BoolOp .And (b::rest) pos) tB'):PW X (.BoolOp .And (a::b::rest) pos) (tAnd tA tB'):=by
 intro wh pq s σ H Q I h;refine isTrue_and (thn (ha pq s σ H _ I h) fun c s1 hz=>?_);obtain ⟨H1,I1,q1⟩:=hz;cases c with
 | true=>exact hb wh pq s1 σ H1 Q I1 q1
 | false=>exact ⟨H1,I1,q1⟩
theorem Zmj (ha:PT X a tA) (hb:PW X (.BoolOp .Or (b::rest) pos) tB'):PW X (.BoolOp .Or (a::b::rest) pos) (tOr tA tB'):=by
 intro wh pq s σ H Q I h;refine isTrue_or (thn (ha pq s σ H _ I h) fun c s1 hz=>?_);obtain ⟨H1,I1,q1⟩:=hz;cases c with
 | true=>exact ⟨H1,I1,q1⟩
 | false=>exact hb wh pq s1 σ H1 Q I1 q1
def Zpf (ta tb:TE):TE:=fun σ H Q=>ta σ H fun x H1=>∃ c,x=.bl c/\if c=true then tb σ H1 Q else Q (.bl false) H1
def Zf1 {op} {t:TE} (h:PE X a t):PE X (.BoolOp op [a] pos) t:=fun pq s σ H Q I hw=>BoolOp_one (h pq s σ H Q I hw)
theorem Zci (ha:PE X a ta) (hb:PE X (.BoolOp .And (b::rest) pos) tb):PE X (.BoolOp .And (a::b::rest) pos) (Zpf ta tb):=by
 intro pq s σ H Q I h;refine BoolOp_and (thn (ha pq s σ H _ I h) fun v s1 hz=>?_);obtain ⟨x,H1,I1,r1,q1⟩:=hz;obtain ⟨c,rfl,q1⟩:=q1;cases r1;refine wpAny_truthy_bool ?_;cases c with
 | true=>exact hb pq s1 σ H1 Q I1 q1
 | false=>exact ⟨.bl false,H1,I1,rfl,q1⟩
def tIf (t:TT) (ta tb:TE):TE:=fun σ H Q=>t σ H fun c H1=>if c=true then ta σ H1 Q else tb σ H1 Q
theorem Tr {c:Expr} (hc:PT X c tA) (ha:PE X a ta) (hb:PE X b tb):PE X (.IfExp c a b pos) (tIf tA ta tb):=by
 intro pq s σ H Q I h;refine wpAny_IfExp (thn (hc pq s σ H _ I h) fun d s1 hz=>?_);obtain ⟨H1,I1,q1⟩:=hz;cases d with
 | true=>exact ha pq s1 σ H1 Q I1 q1
 | false=>exact hb pq s1 σ H1 Q I1 q1
end
def SqL (K:W.Frag) (H:Hp) (a:Addr) (xs:List V):Prop :=
 Rd H a (.lst xs) \/
  ∃ (o:Obj) (its:Array Value) (n:Nat),K.lookup a=some o/\o.cls=.type "list"/\o.dict=none/\o.data=.seq its n/\its.size<=sizeLine/\Vals xs its.toList
def SqT (K:W.Frag) (H:Hp) (a:Addr) (xs:List V):Prop :=
 Rd H a (.tup xs) \/
  ∃ (o:Obj) (its:Array Value) (n:Nat),K.lookup a=some o/\o.cls=.type "tuple"/\o.data=.seq its n/\its.size<=sizeLine/\Vals xs its.toList
def absV:Value->Option V
 | .none=>some .non
 | .bool b=>some (.bl b)
 | .int i _=>some (.int i)
 | .str x _=>some (.str x)
 | .bytes b _=>some (.byt b)
 | .float b _=>some (.flt b)
 | .ref a=>some (.ref a)
 | .type n=>some (.ty n)
 | _=>none
theorem RelV.abs {x:V} {u:Value} (r:RelV x u):absV u=some x:=by
 cases x with
 | non=>cases r; rfl
 | bl _=>cases r; rfl
 | int _=>obtain ⟨t,rfl⟩:=r; rfl
 | str _=>obtain ⟨t,rfl⟩:=r; rfl
 | byt _=>obtain ⟨t,rfl⟩:=r; rfl
 | flt _=>obtain ⟨t,rfl⟩:=r; rfl
 | ref _=>cases r; rfl
 | ty _=>cases r; rfl
def RelV.inj {x:V} {u:Value} (r:RelV x u) (q:RelV y u):x=y:=F5 (r.abs.symm.trans q.abs)
theorem Vals.inj:∀ {xs ys:List V} {us:List Value},Vals xs us->Vals ys us->xs=ys:=by
 intro _ _ _ hz9 hz8;cases hz9 with
 | nil=>
  cases hz8 with
  | nil=>
   exact rfl
 | cons r t=>
  cases hz8 with
  | cons r' t'=>
   exact by rw [r.inj r',Vals.inj t t']
section
variable {a:Addr} 
def SqL.of (h:H a=some (.lst xs)):SqL K H a xs:=.inl (.inl h)
def SqT.of (h:H a=some (.tup xs)):SqT K H a xs:=.inl (.inl h)
theorem Inv.list (I:Inv X pq σ H s) (h:SqL X.K H a xs):∃ its:List Value,Vals xs its/\PlainL s.heap a its.toArray/\xs.length<=sizeLine:=by
 rcases h with h | ⟨o,its,n,hk,hc,hd,hs,hz,r⟩
 ·obtain ⟨z,its,n,r,e⟩:=h.ok I.hok;exists its,r,⟨_,n,e,rfl,rfl,rfl⟩,z
 ·exists its.toList,r,⟨o,n,I.kIn a o hk,hc,hd,by simpa using hs⟩,?_;have e:=r.length;simp only [Ba] at e;lia
theorem Inv.tuple (I:Inv X pq σ H s) (h:SqT X.K H a xs):∃ its:List Value,Vals xs its/\IsTup s.heap a its.toArray/\xs.length<=sizeLine:=by
 rcases h with h | ⟨o,its,n,hk,hc,hs,hz,r⟩
 ·obtain ⟨z,its,r,p⟩:=h.ok I.hok;exists its,r,p.tup,z
 ·exists its.toList,r,⟨o,I.kIn a o hk,hc,n,by simpa using hs⟩,?_;have e:=r.length;simp only [Ba] at e;lia
def Inv.list_inj (I:Inv X pq σ H s) (h:SqL X.K H a xs) (h':SqL X.K H a ys):xs=ys:=by
 obtain ⟨its,r,⟨o,n,e,_,_,d⟩,_⟩:=I.list h;obtain ⟨its',r',⟨o',n',e',_,_,d'⟩,_⟩:=I.list h';rw [e] at e'; cases e';rw [d] at d';injection d' with d1 _
 have:its=its':=by simpa using congrArg Array.toList d1
 subst this;exact r.inj r'
def Inv.tuple_inj (I:Inv X pq σ H s) (h:SqT X.K H a xs) (h':SqT X.K H a ys):xs=ys:=by
 obtain ⟨its,r,⟨o,e,_,n,d⟩,_⟩:=I.tuple h;obtain ⟨its',r',⟨o',e',_,n',d'⟩,_⟩:=I.tuple h';rw [e] at e'; cases e';rw [d] at d';injection d' with d1 _
 have:its=its':=by simpa using congrArg Array.toList d1
 subst this;exact r.inj r'
end
abbrev Cx.wish (X:Cx) (E:Value->Shared->Prop):Cx:={ X with xe:=E }
abbrev Cx.nox (X:Cx):Cx:=X.wish fun _ _=>False
def Cx.Ok.wish (ok:X.Ok) (E:Value->Shared->Prop):(X.wish E).Ok :=
 ⟨ok.mod,ok.kind,ok.glob,ok.blt,ok.above,ok.inj,ok.has,ok.cab,ok.hd,ok.frames,ok.stk,ok.exf,ok.bs,ok.bsz,ok.noex,ok.exfs,ok.funs,ok.frf⟩
def Cx.Ok.unwish (ok:(X.wish E).Ok):X.Ok :=
 ⟨ok.mod,ok.kind,ok.glob,ok.blt,ok.above,ok.inj,ok.has,ok.cab,ok.hd,ok.frames,ok.stk,ok.exf,ok.bs,ok.bsz,ok.noex,ok.exfs,ok.funs,ok.frf⟩
section
def Inv.wish (I:Inv X pq σ H s) (E:Value->Shared->Prop):Inv (X.wish E) pq σ H s:=⟨I.ok.wish E,I.os,I.bare,I.base,I.loc,I.cell,I.free,I.freeC,I.pin,I.hok,I.len⟩
def Inv.unwish (I:Inv (X.wish E) pq σ H s):Inv X pq σ H s:=⟨I.ok.unwish,I.os,I.bare,I.base,I.loc,I.cell,I.free,I.freeC,I.pin,I.hok,I.len⟩
theorem SP.unwish {D:Ends} {f:Flow} {s':Shared} (h:SP (X.wish E) pq D f s'):SP X pq D f s':=by
 cases f with
 | next=>obtain ⟨σ',H',I,q⟩:=h;exists σ',H',I.unwish,q
 | brk=>obtain ⟨σ',H',I,q⟩:=h;exists σ',H',I.unwish,q
 | cont=>obtain ⟨σ',H',I,q⟩:=h;exists σ',H',I.unwish,q
 | ret u=>obtain ⟨v,σ',H',I,r,q⟩:=h;exists v,σ',H',I.unwish,r,q
def PSs.nox {st:List Stmt} {t:TS} (h:PSs X.nox st t):PSs X st t:=fun pq s σ H D I hw =>
 F7 (h pq s σ H D (I.wish _) hw) (fun _ _ q=>q.unwish) fun _ _ z=>False.elim z
end
section
variable {rest:List Stmt} {t u:TS} {e:Expr} 
def Zo6:TS:=fun D σ H=>D.nx σ H
def tSeq (t u:TS):TS:=fun D σ H=>t { D with nx:=u D } σ H
def Z4:PSs X [] Zo6:=fun _ _ σ H _ I h=>wpAny_execs_nil ⟨σ,H,I,h⟩
theorem Zc (h1:PS X st t) (h2:PSs X rest u):PSs X (st::rest) (tSeq t u):=by
 intro pq s σ H D I h;refine wpAny_execs_cons (thn (h1 pq s σ H { D with nx:=u D } I h) fun f s1 q=>?_);cases f with
 | next =>
  obtain ⟨σ',H',I',q⟩:=q;exact h2 pq s1 σ' H' D I' q
 | ret v=>exact q
 | brk=>exact q
 | cont=>exact q
theorem Ze (h1:PS X st t):PSs X [st] t:=by
 intro pq s σ H D I h;refine wpAny_execs_cons (thn (h1 pq s σ H D I h) fun f s1 q=>?_);cases f with
 | next=>exact wpAny_execs_nil q
 | ret v=>exact q
 | brk=>exact q
 | cont=>exact q
def Zpe:TS:=fun D σ H=>D.ct σ H
def Zat:PS X (.Continue pos) Zpe:=fun _ _ σ H _ I h=>wpAny_Continue ⟨σ,H,I,h⟩
def Inv.quiet (I:Inv X pq σ H s):interactive X.env=false:=by simp [interactive,I.ok.kind]
def Zpa (te:TE):TS:=fun D σ H=>te σ H fun _ H1=>D.nx σ H1
def Wq (he:PE X e te) (hs:swapsWith e none pos.line X.env=pure false:=by rfl):PS X (.Expr e pos) (Zpa te):=by
 intro pq s σ H D I h;exact wpAny_Expr_any (thn (he pq s σ H _ I h) fun v s1 ⟨x,H1,I1,r1,q1⟩=>⟨σ,H1,I1,q1⟩) I.quiet hs
def tRet (te:TE):TS:=fun D σ H=>te σ H D.rt
def Zw (he:PE X e te):PS X (.Return (some e) pos) (tRet te):=by
 intro pq s σ H D I h;exact wpAny_Return_some (thn (he pq s σ H _ I h) fun v s1 ⟨x,H1,I1,r1,q1⟩=>⟨x,σ,H1,I1,r1,q1⟩)
def Zsm:TS:=fun D _ H=>D.rt .non H
def Zmm:PS X (.Return none pos) Zsm:=fun _ _ σ H _ I h=>wpAny_Return_none ⟨.non,σ,H,I,rfl,h⟩
def tIfS (c:TT) (t u:TS):TS:=fun D σ H=>c σ H fun b H1=>if b=true then t D σ H1 else u D σ H1
theorem Yw {c:Expr} {a b:List Stmt} {tc:TT} (hc:PT X c tc) (ha:PSs X a t) (hb:PSs X b u):PS X (.If c a b pos) (tIfS tc t u):=by
 intro pq s σ H D I h;refine wpAny_If (thn (hc pq s σ H _ I h) fun d s1 hz=>?_);obtain ⟨H1,I1,q1⟩:=hz;cases d with
 | true=>exact ha pq s1 σ H1 D I1 q1
 | false=>exact hb pq s1 σ H1 D I1 q1
def Zo7:TS:=fun _ _ _=>False
def Zcd:PS X st Zo7:=fun _ _ _ _ _ _ h=>h.elim
end
abbrev TG:=V->St->Hp->(St->Hp->Prop)->Prop
variable {g:L2.TG}
abbrev TGs:=List V->St->Hp->(St->Hp->Prop)->Prop
def PG (X:Cx) (target:Expr) (t:TG):Prop :=
 ∀ (pq:List (Addr×Obj)) (s:Shared) (σ:St) (H:Hp) (v:V) (u:Value) (Q:St->Hp->Prop),Inv X pq σ H s->RelV v u->t v σ H Q ->
  wpAny (model X.prog X.w) X.A (assign target X.env u) (fun _ s'=>∃ σ' H',Inv X pq σ' H' s'/\Q σ' H') X.xe s
def PGs (X:Cx) (ts:List Expr) (t:TGs):Prop :=
 ∀ (pq:List (Addr×Obj)) (s:Shared) (σ:St) (H:Hp) (vs:List V) (us:List Value) (Q:St->Hp->Prop),Inv X pq σ H s->Vals vs us->t vs σ H Q ->
  wpAny (model X.prog X.w) X.A (assignInOrder ((assignEach ts X.env).map (·.2)) us) (fun _ s'=>∃ σ' H',Inv X pq σ' H' s'/\Q σ' H') X.xe s
abbrev TSet:=V->V->V->Hp->(Hp->Prop)->Prop
def PSet (X:Cx) (t:TSet):Prop :=
 ∀ (pq:List (Addr×Obj)) (s:Shared) (σ:St) (H:Hp) (o i v:V) (ov iv u:Value) (Q:Hp->Prop),Inv X pq σ H s->RelV o ov->RelV i iv->RelV v u->t o i v H Q ->
  wpAny (model X.prog X.w) X.A (setItem ov iv u) (fun _ s'=>∃ H',Inv X pq σ H' s'/\Q H') X.xe s
abbrev TIp:=V->V->Hp->VK->Prop
def PIp (X:Cx) (op:Operator) (t:TIp):Prop :=
 ∀ (pq:List (Addr×Obj)) (s:Shared) (σ:St) (H:Hp) (x y:V) (v u:Value) (Q:VK),Inv X pq σ H s->RelV x v->RelV y u->t x y H Q ->
  wpAny (model X.prog X.w) X.A (inplaceOp op v u) (EP X pq σ Q) X.xe s
section
def Zbc (i:Nat):TG:=fun v σ H Q=>Q (σ.set i (some v)) H
def Zn {i:Nat} {x:Str} (hN:X.N.Nodup) (hi:X.N[i]?=some x) (hx:Loc X.env.scope x) (hf:X.fn x=true\/X.env.scope.names.lookup x=some .local:=by first | left; rfl | right; rfl | assumption):PG X (.Name x pos) (Zbc i):=by
 intro pq s σ H v u Q I r h;exact wpAny_assign_Name (Vo I hN hi hx r (fun s' I'=>⟨_,H,I',h⟩) hf)
def gNil:TGs:=fun vs σ H Q=>vs=[]/\Q σ H
def Znn (t:TG) (u:TGs):TGs:=fun vs σ H Q=>∃ v r,vs=v::r/\t v σ H fun σ' H'=>u r σ' H' Q
def Yx:PGs X [] gNil:=by
 intro pq s σ H vs us Q I r h;obtain ⟨e,h⟩:=h;subst e;cases r;exact assignInOrder_nil ⟨σ,H,I,h⟩
theorem Zv {e:Expr} {t:TG} {u:TGs} (h1:PG X e t) (h2:PGs X es u)
  (hs:(assignEach (e::es) X.env).map (·.2)=assign e X.env::(assignEach es X.env).map (·.2):=by rfl):PGs X (e::es) (Znn t u):=by
 intro pq s σ H vs us Q I r h;obtain ⟨v,vr,e1,h⟩:=h;subst e1;cases r with
 | cons r rr =>
  rw [hs];refine assignInOrder_cons (thn (h1 pq s σ H _ _ _ I r h) fun _ s1 hz=>?_);obtain ⟨σ1,H1,I1,q1⟩:=hz;exact h2 pq s1 σ1 H1 _ _ Q I1 rr q1
def gTup (K:W.Frag) (n:Nat) (t:TGs):TG:=fun v σ H Q=>∃ a xs,v=.ref a/\SqT K H a xs/\xs.length=n/\t xs σ H Q
def Xt {k:Nat} {t:TGs} {n:Nat} (hc:X.calm=true) (h:PGs X es t)
  (hn:(assignEach es X.env).length=n:=by rfl) (hst:(assignEach es X.env).findIdx? (·.1)=none:=by rfl):PG X (.Tuple es k pos) (gTup X.K n t):=by
 intro pq s σ H v u Q I r hw;obtain ⟨a,xs,e1,hq,hl,hw⟩:=hw;subst e1;cases r;obtain ⟨its,rv,ht,hz⟩:=I.tuple hq;refine assign_Tuple_tuple (I.ok.hd hc) ht (by simp [hn,<- hl,rv.length]) hst fun h' hx=>?_;have I1:Inv X pq σ H { s with heap:=h' }:=I.kept (t':=s.toks) fun b o e=>hx b o (Gf (Fz e)) e;exact h pq _ σ H xs _ Q I1 (by simpa using rv) hw
def gSub (to ti:TE) (t:TSet):TG:=fun v σ H Q=>to σ H fun o H1=>ti σ H1 fun i H2=>t o i v H2 fun H3=>Q σ H3
def Zqi {o i:Expr} {ti:TE} {t:TSet} (ho:PE X o to) (hi:PE X i ti) (hs:PSet X t)
  (ha:∀ v,assign (.Subscript o i pos) X.env v=(do
   let ov <- holding [v] (eval o X.env)
   let iv <- holding [v,ov] (eval i X.env)
   standAt pos
   holding [v,ov,iv] (setItem ov iv v)
   release [v,ov,iv] []):=by intro _; rfl):PG X (.Subscript o i pos) (gSub to ti t):=by
 intro pq s σ H v u Q I r h;rw [ha];refine Fv (wpAny_holding (thn (ho pq s σ H _ I h) fun ov s1 hz=>?_));obtain ⟨x,H1,I1,r1,q1⟩:=hz;refine Fv (wpAny_holding (thn (hi pq s1 σ H1 _ I1 q1) fun iv s2 hz=>?_));obtain ⟨y,H2,I2,r2,q2⟩:=hz;refine Fv (wpAny_standAt (Fv (wpAny_holding (thn (hs pq s2 σ H2 x y v ov iv u _ I2 r1 r2 r q2) fun _ s3 hz=>?_))));obtain ⟨H3,I3,q3⟩:=hz;exact wpAny_release ⟨σ,H3,I3,q3⟩
def tAsg (te:TE) (g:TG):TS:=fun D σ H=>te σ H fun x H1=>g x σ H1 D.nx
def Zcf {e:Expr} (he:PE X e te) (hg:PG X tg g) (hs:swapsWithSole [tg] e pos.line X.env=pure false:=by rfl) (hw:swappedStores [tg] e X.env=pure none:=by rfl)
  (h1:(assignEach [tg] X.env).map (·.2)=[assign tg X.env]:=by rfl):PS X (.Assign [tg] e pos) (tAsg te g):=by
 intro pq s σ H D I h;refine wpAny_Assign_stores (thn (he pq s σ H _ I h) fun v s1 hz=>?_) hs hw;obtain ⟨x,H1,I1,r1,q1⟩:=hz;rw [h1];exact thn (hg pq s1 σ H1 x v _ I1 r1 q1) fun _ s2 q=>q
def Zl {i:Nat} {x:Str} {e:Expr} (hN:X.N.Nodup) (hi:X.N[i]?=some x) (hx:Loc X.env.scope x) (he:PE X e te) (hs:swapsWith e (some (.Name x pos')) pos.line X.env=pure false:=by rfl) (hf:X.fn x=true\/X.env.scope.names.lookup x=some .local:=by first | left; rfl | right; rfl | assumption) :
  PS X (.Assign [.Name x pos'] e pos) (tAsg te (Zbc i)):=by
 intro pq s σ H D I h;refine wpAny_Assign_Name (thn (he pq s σ H _ I h) fun v s1 hz=>?_) hs;obtain ⟨y,H1,I1,r1,q1⟩:=hz;exact Vo I1 hN hi hx r1 (fun s2 I2=>⟨_,H1,I2,q1⟩) hf
def tAug (i:Nat) (te:TE) (ti:TIp):TS:=fun D σ H=>∃ x,σ[i]?=some (some x)/\te σ H fun y H1=>ti x y H1 fun z H2=>D.nx (σ.set i (some z)) H2
def Zce {i:Nat} {x:Str} {e:Expr} {op:Operator} {ti:TIp} (hN:X.N.Nodup) (hi:X.N[i]?=some x) (hx:Loc X.env.scope x) (he:PE X e te) (ho:PIp X op ti) (hf:X.fn x=true\/X.env.scope.names.lookup x=some .local:=by first | left; rfl | right; rfl | assumption) :
  PS X (.AugAssign (.Name x pos') op e pos) (tAug i te ti):=by
 intro pq s σ H D I h;obtain ⟨v,e1,h⟩:=h;obtain ⟨m,hn,hl⟩:=I.loc;have vis:Vis X.env.scope x:=by rcases hx with k | k; exact .inl k; exact .inr (.inl k)
 obtain ⟨u,r,l⟩:=hl i x v hi e1 vis;refine wpAny_AugAssign_Name ?_;have go:wpAny (model X.prog X.w) X.A (eval e X.env) (fun w s₂=>wpAny (model X.prog X.w) X.A (inplaceOp op u w) (fun r s₃=>wpAny (model X.prog X.w) X.A (storeName X.env x r) (fun _=>SP X pq D .next) X.xe s₃) X.xe s₂) X.xe s:=by
  refine thn (he pq s σ H _ I h) fun w s1 hz=>?_;obtain ⟨y,H1,I1,r1,q1⟩:=hz;refine thn (ho pq s1 σ H1 v y u w _ I1 r r1 q1) fun z s2 hz=>?_;obtain ⟨zv,H2,I2,r2,q2⟩:=hz;exact Vo I2 hN hi hx r2 (fun s3 I3=>⟨_,H2,I3,q2⟩) hf
 rcases l with ⟨hk,hm⟩ | ⟨hk,c,hc,hcell⟩
 ·exact wpAny_loadName_local I.ok.kind hk hn hm go
 ·rcases hk with hk | hk
  ·exact wpAny_loadName_cell I.ok.kind hk hc hcell go
  ·rcases hx with k | k
   ·have:X.env.scope.names.lookup x=some .free:=hk;rw [k] at this; cases this
   ·have:X.env.scope.names.lookup x=some .free:=hk;rw [k] at this; cases this
def Zsn (to ti te:TE) (tget:V->V->Hp->VK->Prop) (tip:TIp) (tset:TSet):TS:=fun D σ H=>to σ H fun o H1=>ti σ H1 fun i H2=>tget o i H2 fun x H3=>te σ H3 fun y H4=>tip x y H4 fun z H5=>tset o i z H5 fun H6=>D.nx σ H6
def PGet (X:Cx) (t:V->V->Hp->VK->Prop):Prop :=
 ∀ (pq:List (Addr×Obj)) (s:Shared) (σ:St) (H:Hp) (o i:V) (ov iv:Value) (Q:VK),Inv X pq σ H s->RelV o ov->RelV i iv->t o i H Q ->
  wpAny (model X.prog X.w) X.A (getItem ov iv) (EP X pq σ Q) X.xe s
def Zmq {o i e:Expr} {ti:TE} {tget:V->V->Hp->VK->Prop} {tip:TIp} {tset:TSet} {op:Operator} {tpos:Pos} (ho:PE X o to) (hi:PE X i ti) (hg:PGet X tget) (he:PE X e te) (hp:PIp X op tip) (hs:PSet X tset)
  (ha:∀ ov iv new,augStore i ov iv new=(do holding [new,ov,iv] (setItem ov iv new); release [new,ov,iv] []; pure .next):=by intros; rfl):PS X (.AugAssign (.Subscript o i tpos) op e pos) (Zsn to ti te tget tip tset):=by
 intro pq s σ H D I h;refine wpAny_AugAssign_SubscriptAny (thn (ho pq s σ H _ I h) fun ov s1 hz=>?_) ha;obtain ⟨x1,H1,I1,r1,q1⟩:=hz;refine thn (hi pq s1 σ H1 _ I1 q1) fun iv s2 hz=>?_;obtain ⟨x2,H2,I2,r2,q2⟩:=hz;refine thn (hg pq s2 σ H2 x1 x2 ov iv _ I2 r1 r2 q2) fun old s3 hz=>?_;obtain ⟨x3,H3,I3,r3,q3⟩:=hz;refine thn (he pq s3 σ H3 _ I3 q3) fun v s4 hz=>?_;obtain ⟨x4,H4,I4,r4,q4⟩:=hz;refine thn (hp pq s4 σ H4 x3 x4 old v _ I4 r3 r4 q4) fun new s5 hz=>?_;obtain ⟨x5,H5,I5,r5,q5⟩:=hz;exact thn (hs pq s5 σ H5 x1 x2 x5 ov iv new _ I5 r1 r2 r5 q5) fun _ s6 ⟨H6,I6,q6⟩=>⟨σ,H6,I6,q6⟩
def ipI (f:Int->Int->Int):TIp:=fun x y H Q=>∃ i j,x=.int i/\y=.int j/\Q (.int (f i j)) H
def Na:PIp X .Add (ipI fun i j=>i+j):=by
 intro pq s σ H x y v u Q I r1 r2 h;obtain ⟨i,j,e1,e2,q⟩:=h;subst e1; subst e2;obtain ⟨t,rfl⟩:=r1;obtain ⟨t',rfl⟩:=r2;exact iadd_int ⟨.int _,H,I.tok _,⟨_,rfl⟩,q⟩
end
section
def Zep (c:TT) (tb:TS):TS:=fun D σ H=>∃ W:Nat->St->Hp->Prop,(∃ m,W m σ H)/\∀ m σ H,W m σ H ->
 c σ H fun b H1=>if b=true then ∃ N:St->Hp->Prop,(∀ σ' H',N σ' H'->∃ m',m'<m/\W m' σ' H')/\tb { D with nx:=N,ct:=N,bk:=D.nx } σ H1 else D.nx σ H1
theorem Tp {c:Expr} {body:List Stmt} {tc:TT} {tb:TS} (hp:PassesOwn (model X.prog X.w) X.A X.env X.xe) (hc:PT X c tc) (hb:PSs X body tb):PS X (.While c body [] pos) (Zep tc tb):=by
 intro pq s σ H D I h;obtain ⟨W,⟨m0,w0⟩,turn⟩:=h;refine wpAny_While (codeAny_whileLoop (fun n s'=>∃ σ' H',Inv X pq σ' H' s'/\W n σ' H') ?_ m0 ⟨σ,H,I,w0⟩);rintro n s1 ⟨σ1,H1,I1,w1⟩;refine wpAny_passesOwn hp (thn (hc pq s1 σ1 H1 _ I1 (turn n σ1 H1 w1)) fun b s2 hz=>?_);obtain ⟨H2,I2,q2⟩:=hz;cases b with
 | true =>
  obtain ⟨N,hN,q2⟩:=q2;rw [F1 rfl];refine wpAny_passesOwn hp (thn (hb pq s2 σ1 H2 _ I2 q2) fun f s3 q3=>?_);cases f with
  | next =>
   obtain ⟨σ3,H3,I3,n3⟩:=q3;obtain ⟨m',hm,w3⟩:=hN σ3 H3 n3;exists m',hm,σ3,H3,I3,w3
  | cont =>
   obtain ⟨σ3,H3,I3,n3⟩:=q3;obtain ⟨m',hm,w3⟩:=hN σ3 H3 n3;exists m',hm,σ3,H3,I3,w3
  | brk=>exact q3
  | ret v=>exact q3
 | false =>
  rw [F0 Jp];exact wpAny_execs_nil ⟨σ1,H2,I2,q2⟩
end
structure It where
 go:Nat->Hp->Prop
 yld:Nat->Hp->V->Hp->Prop
 stop:Nat->Hp->Prop
def FpOk (X:Cx) (pq:List (Addr×Obj)) (H:Hp) (b:Addr):Prop :=
 H b=none/\b≠X.env.locals/\b∉X.fs/\(b∈X.ex\/X.s₀.heap.objs.size<=b)/\(∀ x c,X.env.cells.lookup x=some c->c≠b)/\∀ p∈X.pn++pq,p.1≠b
def Inv.fpOk {b:Addr} (I:Inv X pq σ H s) (hb:s.heap.objs.size<=b) (hn:H' b=none):FpOk X pq H' b:=by
 exists hn,Nat.ne_of_gt (Gb I.lt hb),I.nofs hb,.inr (J8 I.sz hb),fun x c e z=>?_,fun p hp z=>?_
 ·obtain ⟨v,q⟩:=I.cell x c e;exact Fs (Gb q.lt (by rw [z]; exact hb)) (G2 _)
 ·exact Fs (Gb (Fz (I.pin p hp).1) (by rw [z]; exact hb)) (G2 _)
structure Turn (P:Program) (w:World) (K:W.Frag) (tg:Expr) (J:It) (fp:List Addr) (it:Addr) (tn:Nat->Heap->Prop):Prop where
 mem:it∈fp
 obj:∀ i h,tn i h->∀ b∈fp,∃ o,h.get? b=some o/\∀ v,o.data≠.cell v
 keep:∀ i h h',tn i h->(∀ b∈fp,∀ o,h.get? b=some o->h'.get? b=some o)->tn i h'
 item:∀ (X:Cx),X.prog=P->X.w=w->X.K=K->X.calm=true->∀ (i:Nat) (pq:List (Addr×Obj)) (s:Shared) (σ:St) (H:Hp) (E:Value->Shared->Prop),Inv X pq σ H s->(∀ b∈fp,FpOk X pq H b)->tn i s.heap->J.go i H ->
  wpAny (model P w) X.A (pyNext (.ref it)) (fun r s1=>∃ u,r=some u /\
   wpAny (model P w) X.A (letOwnedTupleGo tg (.ref it) u) (fun _ s2=>∃ x H',Inv X pq σ H' s2/\RelV x u/\J.yld i H x H'/\tn (i+1) s2.heap/\∀ b∈fp,H' b=none) E s1) E s
 done:∀ (X:Cx),X.prog=P->X.w=w->X.K=K->X.calm=true->∀ (i:Nat) (pq:List (Addr×Obj)) (s:Shared) (σ:St) (H:Hp) (E:Value->Shared->Prop),Inv X pq σ H s->(∀ b∈fp,FpOk X pq H b)->tn i s.heap->J.stop i H ->
  wpAny (model P w) X.A (pyNext (.ref it)) (fun r s1=>r=none/\Inv X pq σ H s1) E s
 self:∀ (A:Around) (i:Nat) (s:Shared) (Q:Value->Shared->Prop) (E:Value->Shared->Prop),tn i s.heap->Q (.ref it) s->wpAny (model P w) A (pyIter (.ref it)) Q E s
abbrev TI:=St->Hp->(It->Hp->Prop)->Prop
variable {wi:L2.TI}
def PIE (X:Cx) (pq:List (Addr×Obj)) (σ:St) (tg:Expr) (R:It->Hp->Prop) (itv:Value) (s2:Shared):Prop :=
 ∃ (it:Addr) (fp:List Addr) (tn:Nat->Heap->Prop) (J:It) (H':Hp),itv=.ref it/\Inv X pq σ H' s2/\Turn X.prog X.w X.K tg J fp it tn/\tn 0 s2.heap/\(∀ b∈fp,FpOk X pq H' b)/\R J H'
def PI (X:Cx) (tg iter:Expr) (wi:TI):Prop :=
 ∀ (pq:List (Addr×Obj)) (s:Shared) (σ:St) (H:Hp) (R:It->Hp->Prop),Inv X pq σ H s->wi σ H R ->
  wpAny (model X.prog X.w) X.A (eval iter X.env) (fun v s1=>wpAny (model X.prog X.w) X.A (pyIter v) (PIE X pq σ tg R) X.xe s1) X.xe s
def Znl {M:Model} {u:Value} {o:Obj} {n:String} {vs:Array Value} {Q:Unit->Shared->Prop} (ho:s.heap.get? it=some o) (hc:o.cls=.type n) (hd:o.data=.fields vs)
    (hn:["enumerate", "zip", "dict_itemiterator", "dict_reverseitemiterator", "odict_iterator", "itertools.zip_longest", "itertools.pairwise"].contains n=false) (hQ:Q () s):wpAny M A (letOwnedTupleGo tg (.ref it) u) Q E s:=by
  unfold letOwnedTupleGo;cases tg <;> first
    | exact Fw hQ
    | (cases u <;> first
        | exact Fw hQ
        | (refine Fv (wpAny_load ho ?_)
           rw [hc,hd];show wpAny M A (if (["enumerate", "zip", "dict_itemiterator", "dict_reverseitemiterator", "odict_iterator", "itertools.zip_longest", "itertools.pairwise"].contains n && vs[0]? == some (rawInt _))=true then _ else _) Q E s;rw [F0 (by intro h; rw [hn,Bool.false_and] at h; cases h)];exact Fw hQ))
def Itl (K:W.Frag) (a:Addr):It :=
 ⟨fun i H=>∃ xs x,SqL K H a xs/\xs[i]?=some x,fun i H x H'=>H'=H/\∀ xs,SqL K H a xs->xs[i]?=some x,fun i H=>∃ xs,SqL K H a xs/\xs.length<=i⟩
def Itt (K:W.Frag) (a:Addr):It :=
 ⟨fun i H=>∃ xs x,SqT K H a xs/\xs[i]?=some x,fun i H x H'=>H'=H/\∀ xs,SqT K H a xs->xs[i]?=some x,fun i H=>∃ xs,SqT K H a xs/\xs.length<=i⟩
def Itr (lo:Int) (n:Nat):It:=⟨fun i _=>i<n,fun i H x H'=>H'=H/\x=.int (lo+i),fun i _=>n<=i⟩
theorem Zel (a it:Addr):Turn P w K tg (Itl K a) [it] it (fun i h=>h.IsListIter it a i) where
 mem:=by simp
 obj:=fun i h st b hb=>by
  have e:b=it:=by simpa using hb
  subst e;obtain ⟨o,e,c,d⟩:=st;exact ⟨o,e,fun v z=>by rw [d] at z; cases z⟩
 keep:=fun i h h' st k=>st.at fun o e=>k it (by simp) o e
 item:=by
  intro X hP hw hK hc i pq s σ H E I hf st hg;subst hP hw hK;obtain ⟨xs,x,hq,hx⟩:=hg;obtain ⟨its,rv,p,hz⟩:=I.list hq;obtain ⟨u,hu,ru⟩:=rv.get hx;obtain ⟨f0,f1,f2,f3,f4,f5⟩:=hf it (by simp);refine wpAny_pyNext_list_item st p.isList (x:=u) (by simpa using hu) fun h' st' sb=>?_;have I1:Inv X pq σ H { s with heap:=h' }:=I.turned (t':=s.toks) (fun b o hb e=>(sb.2 b hb).trans e) f0 f1 f3 f4 f5;obtain ⟨o,e,c,d⟩:=id st';exists u,rfl,Znl (s:={ s with heap:=h' }) e c d nofun ⟨x,H,I1,ru,⟨rfl,fun ys hy=>by rw [I.list_inj hy hq]; exact hx⟩,st',fun b hb=>(hf b hb).1⟩
 done:=by
  intro X hP hw hK hc i pq s σ H E I hf st hg;subst hP hw hK;obtain ⟨xs,hq,hx⟩:=hg;obtain ⟨its,rv,p,hz⟩:=I.list hq;obtain ⟨f0,f1,f2,f3,f4,f5⟩:=hf it (by simp);have hl:=rv.length;exact wpAny_pyNext_list_end (I.ok.hd hc) st p.isList (by simp; lia) fun h' eb=>⟨rfl,I.turned (t':=s.toks) (fun b o hb e=>eb b o hb e) f0 f1 f3 f4 f5⟩
 self:=fun _ _ _ _ _ st h=>wpAny_pyIter_listiter st h
theorem Zde (a it:Addr):Turn P w K tg (Itt K a) [it] it (fun i h=>h.IsTupleIter it a i) where
 mem:=by simp
 obj:=fun i h st b hb=>by
  have e:b=it:=by simpa using hb
  subst e;obtain ⟨o,e,c,d⟩:=st;exact ⟨o,e,fun v z=>by rw [d] at z; cases z⟩
 keep:=fun i h h' st k=>st.at fun o e=>k it (by simp) o e
 item:=by
  intro X hP hw hK hc i pq s σ H E I hf st hg;subst hP hw hK;obtain ⟨xs,x,hq,hx⟩:=hg;obtain ⟨its,rv,p,hz⟩:=I.tuple hq;obtain ⟨u,hu,ru⟩:=rv.get hx;obtain ⟨f0,f1,f2,f3,f4,f5⟩:=hf it (by simp);refine wpAny_pyNext_tuple_item st (show s.heap.IsTuple a its.toArray from p) (x:=u) (by simpa using hu) fun h' st' sb=>?_;have I1:Inv X pq σ H { s with heap:=h' }:=I.turned (t':=s.toks) (fun b o hb e=>(sb.2 b hb).trans e) f0 f1 f3 f4 f5;obtain ⟨o,e,c,d⟩:=id st';exists u,rfl,Znl (s:={ s with heap:=h' }) e c d nofun ⟨x,H,I1,ru,⟨rfl,fun ys hy=>by rw [I.tuple_inj hy hq]; exact hx⟩,st',fun b hb=>(hf b hb).1⟩
 done:=by
  intro X hP hw hK hc i pq s σ H E I hf st hg;subst hP hw hK;obtain ⟨xs,hq,hx⟩:=hg;obtain ⟨its,rv,p,hz⟩:=I.tuple hq;obtain ⟨f0,f1,f2,f3,f4,f5⟩:=hf it (by simp);have hl:=rv.length;exact wpAny_pyNext_tuple_end (I.ok.hd hc) st (show s.heap.IsTuple a its.toArray from p) (by simp; lia) fun h' eb=>⟨rfl,I.turned (t':=s.toks) (fun b o hb e=>eb b o hb e) f0 f1 f3 f4 f5⟩
 self:=fun _ _ _ _ _ st h=>wpAny_pyIter_tupleiter st h
theorem Zdf (it:Addr) (lo:Int) (n:Nat):Turn P w K tg (Itr lo n) [it] it (fun i h=>IsRangeIter h it (lo+(i:Nat)*1) ((n:Int)-(i:Nat)) 1) where
 mem:=by simp
 obj:=fun i h st b hb=>by
  have e:b=it:=by simpa using hb
  subst e;exact ⟨_,st,fun v z=>by
   have z':Data.fields _=Data.cell v:=z;cases z'⟩
 keep:=fun i h h' st k=>k it (by simp) _ st
 item:=by
  intro X hP hw hK hc i pq s σ H E I hf st hg;subst hP hw hK;obtain ⟨f0,f1,f2,f3,f4,f5⟩:=hf it (by simp);have W:=Walks.range (prog:=X.prog) (w:=X.w) (I.ok.hd hc) it lo 1 n;refine W.item i s _ _ hg st fun v h' tk hv st' kk=>?_;obtain ⟨t,rfl⟩:=hv;have I1:Inv X pq σ H { s with heap:=h',toks:=tk }:=I.turned (fun b o hb e=>kk b o (by simpa using hb) e) f0 f1 f3 f4 f5;exists ·,Znl (s:={ s with heap:=h',toks:=tk }) (n:="range_iterator") st' rfl rfl nofun ⟨.int (lo+i),H,I1,⟨t,?_⟩,⟨rfl,rfl⟩,st',fun b hb=>(hf b hb).1⟩;rw [Int.mul_one]
 done:=by
  intro X hP hw hK hc i pq s σ H E I hf st hg;subst hP hw hK;obtain ⟨f0,f1,f2,f3,f4,f5⟩:=hf it (by simp);exact wpAny_pyNext_range_end (I.ok.hd hc) st (by have:n<=i:=hg; lia) fun h' eb=>⟨rfl,I.turned (t':=s.toks) (fun b o hb e=>eb b o hb e) f0 f1 f3 f4 f5⟩
 self:=fun _ _ _ _ _ st h=>wpAny_pyIter_rangeiter st h
section
def Znj (K:W.Frag) (tl:TE):TI:=fun σ H R=>tl σ H fun x H1=>∃ a,x=.ref a/\(∃ xs,SqL K H1 a xs)/\R (Itl K a) H1
def iTup (K:W.Frag) (tl:TE):TI:=fun σ H R=>tl σ H fun x H1=>∃ a,x=.ref a/\(∃ xs,SqT K H1 a xs)/\R (Itt K a) H1
def Yk {l:Expr} {tl:TE} (hl:PE X l tl):PI X tg l (Znj X.K tl):=by
 intro pq s σ H R I h;refine thn (hl pq s σ H _ I h) fun v s1 hz=>?_;obtain ⟨x,H1,I1,r1,q1⟩:=hz;obtain ⟨a,e,⟨xs,hq⟩,q⟩:=q1;subst e;cases r1;obtain ⟨its,rv,p,hz⟩:=I1.list hq;refine wpAny_pyIter_list p.isList ?_;exists s1.heap.objs.size,[s1.heap.objs.size],_,_,H1,rfl,I1.kept (t':=s1.toks) fun b o e=>Fx _ e,Zel a _,⟨_,Fy _ rfl,rfl,rfl⟩,fun b hb=>?_,q;have e:b=s1.heap.objs.size:=by simpa using hb
 subst e;exact I1.fpOk (Jd _) (I1.hok.fresh (Jd _))
def Pz {l:Expr} {tl:TE} (hl:PE X l tl):PI X tg l (iTup X.K tl):=by
 intro pq s σ H R I h;refine thn (hl pq s σ H _ I h) fun v s1 hz=>?_;obtain ⟨x,H1,I1,r1,q1⟩:=hz;obtain ⟨a,e,⟨xs,hq⟩,q⟩:=q1;subst e;cases r1;obtain ⟨its,rv,p,hz⟩:=I1.tuple hq;refine wpAny_pyIter_tuple (show s1.heap.IsTuple a its.toArray from p) ?_;exists s1.heap.objs.size,[s1.heap.objs.size],_,_,H1,rfl,I1.kept (t':=s1.toks) fun b o e=>Fx _ e,Zde a _,⟨_,Fy _ rfl,rfl,rfl⟩,fun b hb=>?_,q;have e:b=s1.heap.objs.size:=by simpa using hb
 subst e;exact I1.fpOk (Jd _) (I1.hok.fresh (Jd _))
theorem Ziu {R:It->Hp->Prop} {lo hi:Int} {t u v:Tok} {tk:Nat} (I:Inv X pq σ H s) (h1:-(2 ^ 62)<=lo) (h2:lo<2 ^ 62) (h3:-(2 ^ 62)<=hi) (h4:hi<2 ^ 62)
  (q:R (Itr lo (hi-lo).toNat) H):wpAny (model X.prog X.w) X.A (pyIter (.ref s.heap.objs.size)) (PIE X pq σ tg R) E { s with heap:=s.heap.push { cls:=.type "range",data:=.fields #[.int lo t,.int hi u,.int 1 v] },toks:=tk }:=by
 refine wpAny_pyIter_range (IsRange.new ..) (small_one h1 h2 h3 h4) ?_;have I1:Inv X pq σ H { s with heap:=s.heap.push { cls:=.type "range",data:=.fields #[.int lo t,.int hi u,.int 1 v] },toks:=tk }:=I.kept fun b o e=>Fx _ e;refine ⟨(s.heap.push { cls:=.type "range",data:=.fields #[.int lo t,.int hi u,.int 1 v] }).objs.size,[(s.heap.push { cls:=.type "range",data:=.fields #[.int lo t,.int hi u,.int 1 v] }).objs.size],_,_,H,rfl,
  I1.kept (t':=tk) fun b o e=>Fx _ e,Zdf _ lo (hi-lo).toNat,?_,fun b hb=>?_,q⟩
 ·have e1:lo+((0:Nat):Int)*1=lo:=by simp
  have e2:(((hi-lo).toNat:Nat):Int)-((0:Nat):Int)=Builtin.Range.rangeSize lo hi 1:=by rw [rangeSize_one]; split <;> lia
  show IsRangeIter _ _ (lo+((0:Nat):Int)*1) ((((hi-lo).toNat:Nat):Int)-((0:Nat):Int)) 1;rw [e1,e2];exact Fy _ rfl
 ·have e:b=(s.heap.push { cls:=.type "range",data:=.fields #[.int lo t,.int hi u,.int 1 v] }).objs.size:=by simpa using hb
  subst e;exact I1.fpOk (Jd _) (I1.hok.fresh (Jd _))
def Zq5 (ta:TA):TI:=fun σ H R=>ta σ H fun vs H1=>∃ j:Int,vs=[.int j]/\-(2 ^ 62)<=j/\j<2 ^ 62/\R (Itr 0 j.toNat) H1
theorem Y2 {a:Expr} {ta:TA} {p:Pos} (hg:Gl X "range") (hm:X.mg "range"=none) (ha:PA X [a] ta) (hs:starEach [a] X.env=[(false,eval a X.env)]:=by rfl):PI X tg (.Call (.Name "range" p) [a] [] pos) (Zq5 ta):=by
 intro pq s σ H R I h;refine Call_ (Rt I hg hm boot_range (PyProof.Rows.callWith_type1 (thn (ha pos pq s σ H _ I h) fun us s1 hz=>?_) hs rfl));obtain ⟨vs,H1,I1,r1,q1⟩:=hz;obtain ⟨j,e,q1,q2,q⟩:=q1;subst e;cases r1 with
 | cons r rr =>
  cases rr;obtain ⟨t,rfl⟩:=r;exact call_range_1 (Ziu I1 (by lia) (by lia) q1 q2 (by simpa using q))
def tFor (wi:TI) (g:TG) (tb:TS):TS:=fun D σ H=>wi σ H fun J H1=>∃ W:Nat->Nat->St->Hp->Prop,(∃ m,W 0 m σ H1)/\∀ i m σ H,W i m σ H ->
 (J.stop i H/\D.nx σ H)\/(J.go i H/\∃ N:St->Hp->Prop,(∀ σ' H',N σ' H'->∃ m',m'<m/\W (i+1) m' σ' H')/\∀ x H',J.yld i H x H'->g x σ H' fun σ2 H2=>tb { D with nx:=N,ct:=N,bk:=D.nx } σ2 H2)
def Py (fp:List Addr) (h:Heap):List (Addr×Obj):=fp.filterMap fun b=>(h.get? b).map fun o=>(b,o)
def Vr {b:Addr} {o:Obj} (hb:b∈fp) (e:h.get? b=some o):(b,o)∈Py fp h:=Fl.mpr ⟨b,hb,by rw [e]; rfl⟩
theorem Zf7 {p:Addr×Obj} (hp:p∈Py fp h):p.1∈fp/\h.get? p.1=some p.2:=by
 obtain ⟨b,hb,e⟩:=Fl.mp hp;cases q:h.get? b with
 | none=>rw [q] at e; cases e
 | some o =>
  rw [q] at e;have e':(b,o)=p:=F5 e;subst e';exists hb,q
def Inv.pinned (I:Inv X pq σ H s) (hf:∀ b∈fp,FpOk X pq H b) (ho:∀ b∈fp,∃ o,s.heap.get? b=some o/\∀ v,o.data≠.cell v):Inv X (pq++Py fp s.heap) σ H s :=
 I.pins_of fun p hp=>(J9.mp hp).elim (fun z=>I.pin p (Jl _ z)) fun z=>by
  obtain ⟨hb,e⟩:=Zf7 z;obtain ⟨f0,f1,f2,_⟩:=hf p.1 hb;obtain ⟨o,e',d⟩:=ho p.1 hb;rw [e] at e'; cases e';exists e,f0,f1,f2,d
def Inv.unpinned {pl:List (Addr×Obj)} (I:Inv X (pq++pl) σ H s):Inv X pq σ H s:=I.pins_of fun p hp=>I.pin p (Jl _ (Gn _ hp))
def Xs {iter:Expr} {body:List Stmt} {tb:TS} (hp:PassesOwn (model X.prog X.w) X.A X.env X.xe) (hc:X.calm=true) (hi:PI X tg iter wi) (hg:PG X tg g) (hb:PSs X body tb)
  (hs:∀ x,foldedSetIterable iter X.env x=pure x:=by intro _; rfl):PS X (.For tg iter body [] pos) (tFor wi g tb):=by
 intro pq s σ H D I h;refine wpAny_For (thn (hi pq s σ H _ I h) fun v s1 h1=>thn h1 fun itv s2 h2=>?_) hs;obtain ⟨it,fp,tn,J,H2,e,I2,T,st2,f2,W,⟨m0,w0⟩,turn⟩:=h2;subst e;have stat:∀ {H':Hp},(∀ b∈fp,H' b=none)->∀ b∈fp,FpOk X pq H' b:=fun hn b hb=>⟨hn b hb,(f2 b hb).2⟩;refine codeAny_forLoop_any (fun n s'=>∃ i σ' H',Inv X pq σ' H' s'/\tn i s'.heap/\(∀ b∈fp,H' b=none)/\W i n σ' H') ?_ m0 ⟨0,σ,H2,I2,st2,fun b hb=>(f2 b hb).1,w0⟩;rintro n s3 ⟨i,σ3,H3,I3,st3,fr3,w3⟩;rcases turn i n σ3 H3 w3 with ⟨stop,qn⟩ | ⟨go,N,hN,step⟩
 ·refine wpAny_passesOwn hp (thn (T.done X rfl rfl rfl hc i pq s3 σ3 H3 X.xe I3 (stat fr3) st3 stop) fun r s4 hz=>?_);obtain ⟨hr,I4⟩:=hz;subst hr;exact wpAny_execs_nil ⟨σ3,H3,I4,qn⟩
 ·refine wpAny_passesOwn hp (thn (T.item X rfl rfl rfl hc i pq s3 σ3 H3 X.xe I3 (stat fr3) st3 go) fun r s4 hz=>?_);obtain ⟨u,hr,h4⟩:=hz;subst hr;refine wpAny_passesOwn hp (thn h4 fun _ s5 hz=>?_);obtain ⟨x,H5,I5,r5,y5,st5,fr5⟩:=hz;have I5':=I5.pinned (stat fr5) (T.obj _ _ st5);refine wpAny_passesOwn hp (thn (hg _ s5 σ3 H5 x u _ I5' r5 (step x H5 y5)) fun _ s6 hz=>?_);obtain ⟨σ6,H6,I6,q6⟩:=hz;refine wpAny_passesOwn hp (thn (hb _ s6 σ6 H6 _ I6 q6) fun f s7 q7=>?_);have again:∀ {σ7:St} {H7:Hp},Inv X (pq++Py fp s5.heap) σ7 H7 s7->N σ7 H7->∃ m,m<n/\∃ i σ' H',Inv X pq σ' H' s7/\tn i s7.heap/\(∀ b∈fp,H' b=none)/\W i m σ' H':=fun {σ7 H7} I7 n7=>by
   obtain ⟨m',hm,w7⟩:=hN σ7 H7 n7;exists m',hm,i+1,σ7,H7,I7.unpinned,T.keep _ _ _ st5 fun b hb o e=>(I7.pin (b,o) (Jl _ (Jl _ (Vr hb e)))).1,fun b hb=>?_,w7;obtain ⟨o,e,d⟩:=T.obj _ _ st5 b hb;exact (I7.pin (b,o) (Jl _ (Jl _ (Vr hb e)))).2.1
  cases f with
  | next=>obtain ⟨σ7,H7,I7,n7⟩:=q7; exact again I7 n7
  | cont=>obtain ⟨σ7,H7,I7,n7⟩:=q7; exact again I7 n7
  | brk=>obtain ⟨σ7,H7,I7,q7⟩:=q7;exists σ7,H7,I7.unpinned,q7
  | ret v=>obtain ⟨x7,σ7,H7,I7,r7,q7⟩:=q7;exists x7,σ7,H7,I7.unpinned,r7,q7
end
theorem Zjj {a:Addr} {tb:TS} {D:Ends} (Pv:Nat->St->Hp->Prop) (h0:Pv 0 σ H) (hl:∀ i σ H,i<=xs.length->Pv i σ H->SqL K H a xs)
  (hs:∀ i x σ H,xs[i]?=some x->Pv i σ H->g x σ H fun σ2 H2=>tb { D with nx:=Pv (i+1),ct:=Pv (i+1),bk:=D.nx } σ2 H2) (hd:∀ σ H,Pv xs.length σ H->D.nx σ H) :
  ∃ W:Nat->Nat->St->Hp->Prop,(∃ m,W 0 m σ H)/\∀ i m σ H,W i m σ H ->
   ((Itl K a).stop i H/\D.nx σ H)\/((Itl K a).go i H/\∃ N:St->Hp->Prop,(∀ σ' H',N σ' H'->∃ m',m'<m/\W (i+1) m' σ' H')/\∀ x H',(Itl K a).yld i H x H'->g x σ H' fun σ2 H2=>tb { D with nx:=N,ct:=N,bk:=D.nx } σ2 H2):=by
 exists fun i m σ H=>m=xs.length-i/\i<=xs.length/\Pv i σ H,⟨xs.length,by simp,Jz _,h0⟩,?_;rintro i m σ H ⟨rfl,hi,p⟩;have q:=hl i σ H hi p
 by_cases hlt:i<xs.length
 ·refine .inr ⟨⟨xs,xs[i],q,by simp [hlt]⟩,Pv (i+1),fun σ' H' p'=>⟨xs.length-(i+1),by lia,rfl,hlt,p'⟩,fun x H' y=>?_⟩;obtain ⟨e,y⟩:=y;subst e;exact hs i x σ _ (y xs q) p
 ·have e:i=xs.length:=by lia
  subst e;exact .inl ⟨⟨xs,q,Jd _⟩,hd σ H p⟩
theorem Znp {a:Addr} {tb:TS} {D:Ends} (Pv:Nat->St->Hp->Prop) (h0:Pv 0 σ H) (hl:∀ i σ H,i<=xs.length->Pv i σ H->SqT K H a xs)
  (hs:∀ i x σ H,xs[i]?=some x->Pv i σ H->g x σ H fun σ2 H2=>tb { D with nx:=Pv (i+1),ct:=Pv (i+1),bk:=D.nx } σ2 H2) (hd:∀ σ H,Pv xs.length σ H->D.nx σ H) :
  ∃ W:Nat->Nat->St->Hp->Prop,(∃ m,W 0 m σ H)/\∀ i m σ H,W i m σ H ->
   ((Itt K a).stop i H/\D.nx σ H)\/((Itt K a).go i H/\∃ N:St->Hp->Prop,(∀ σ' H',N σ' H'->∃ m',m'<m/\W (i+1) m' σ' H')/\∀ x H',(Itt K a).yld i H x H'->g x σ H' fun σ2 H2=>tb { D with nx:=N,ct:=N,bk:=D.nx } σ2 H2):=by
 exists fun i m σ H=>m=xs.length-i/\i<=xs.length/\Pv i σ H,⟨xs.length,by simp,Jz _,h0⟩,?_;rintro i m σ H ⟨rfl,hi,p⟩;have q:=hl i σ H hi p
 by_cases hlt:i<xs.length
 ·refine .inr ⟨⟨xs,xs[i],q,by simp [hlt]⟩,Pv (i+1),fun σ' H' p'=>⟨xs.length-(i+1),by lia,rfl,hlt,p'⟩,fun x H' y=>?_⟩;obtain ⟨e,y⟩:=y;subst e;exact hs i x σ _ (y xs q) p
 ·have e:i=xs.length:=by lia
  subst e;exact .inl ⟨⟨xs,q,Jd _⟩,hd σ H p⟩
theorem Sq {lo:Int} {n:Nat} {tb:TS} {D:Ends} (Pv:Nat->St->Hp->Prop) (h0:Pv 0 σ H)
  (hs:∀ i σ H,i<n->Pv i σ H->g (.int (lo+i)) σ H fun σ2 H2=>tb { D with nx:=Pv (i+1),ct:=Pv (i+1),bk:=D.nx } σ2 H2) (hd:∀ σ H,Pv n σ H->D.nx σ H) :
  ∃ W:Nat->Nat->St->Hp->Prop,(∃ m,W 0 m σ H)/\∀ i m σ H,W i m σ H ->
   ((Itr lo n).stop i H/\D.nx σ H)\/((Itr lo n).go i H/\∃ N:St->Hp->Prop,(∀ σ' H',N σ' H'->∃ m',m'<m/\W (i+1) m' σ' H')/\∀ x H',(Itr lo n).yld i H x H'->g x σ H' fun σ2 H2=>tb { D with nx:=N,ct:=N,bk:=D.nx } σ2 H2):=by
 exists fun i m σ H=>m=n-i/\i<=n/\Pv i σ H,⟨n,by simp,Jz _,h0⟩,?_;rintro i m σ H ⟨rfl,hi,p⟩
 by_cases hlt:i<n
 ·refine .inr ⟨hlt,Pv (i+1),fun σ' H' p'=>⟨n-(i+1),by lia,rfl,hlt,p'⟩,fun x H' y=>?_⟩;obtain ⟨e,y⟩:=y;subst e y;exact hs i σ _ hlt p
 ·have e:i=n:=by lia
  subst e;exact .inl ⟨Jd _,hd σ H p⟩
theorem Zia {c:TT} {tb:TS} {D:Ends} (Pv:St->Hp->Prop) (μ:St->Hp->Nat) (h0:Pv σ H)
  (hs:∀ σ H,Pv σ H->c σ H fun b H1=>if b=true then tb { D with nx:=fun σ' H'=>Pv σ' H'/\μ σ' H' < μ σ H,ct:=fun σ' H'=>Pv σ' H'/\μ σ' H' < μ σ H,bk:=D.nx } σ H1 else D.nx σ H1)
  (mono:∀ σ H Q Q',(∀ b H1,Q b H1->Q' b H1)->c σ H Q->c σ H Q'):Zep c tb D σ H:=by
 exists fun m σ H=>m=μ σ H/\Pv σ H,⟨_,rfl,h0⟩,?_;rintro m σ H ⟨rfl,p⟩;refine mono σ H _ _ (fun b H1 q=>?_) (hs σ H p);cases b with
 | true=>exact ⟨_,fun σ' H' ⟨p',l⟩=>⟨_,l,rfl,p'⟩,q⟩
 | false=>exact q
abbrev R2:=V->V->Hp->VK->Prop
def OpR (X:Cx) (f:Value->Value->Sem Value) (r:R2):Prop :=
 ∀ (pq:List (Addr×Obj)) (s:Shared) (σ:St) (H:Hp) (x y:V) (v u:Value) (Q:VK),Inv X pq σ H s->RelV x v->RelV y u->r x y H Q ->
  wpAny (model X.prog X.w) X.A (f v u) (EP X pq σ Q) X.xe s
def UnR (X:Cx) (f:Value->Sem Value) (r:V->Hp->VK->Prop):Prop :=
 ∀ (pq:List (Addr×Obj)) (s:Shared) (σ:St) (H:Hp) (x:V) (v:Value) (Q:VK),Inv X pq σ H s->RelV x v->r x H Q ->
  wpAny (model X.prog X.w) X.A (f v) (EP X pq σ Q) X.xe s
def Vj (X:Cx) (f:Value) (r:List V->Hp->VK->Prop):Prop :=
 ∀ (pq:List (Addr×Obj)) (s:Shared) (σ:St) (H:Hp) (xs:List V) (us:List Value) (Q:VK),Inv X pq σ H s->Vals xs us->r xs H Q ->
  wpAny (model X.prog X.w) X.A (call f us) (EP X pq σ Q) X.xe s
def tOp (r:R2) (ta tb:TE):TE:=fun σ H Q=>ta σ H fun x H1=>tb σ H1 fun y H2=>r x y H2 Q
def tUn (r:V->Hp->VK->Prop) (ta:TE):TE:=fun σ H Q=>ta σ H fun x H1=>r x H1 Q
def rI (C:Int->Int->Prop) (g:Int->Int->V):R2:=fun x y H Q=>∃ i j,x=.int i/\y=.int j/\C i j/\Q (g i j) H
def rI0 (g:Int->Int->V):R2:=fun x y H Q=>∃ i j,x=.int i/\y=.int j/\Q (g i j) H
def rU (g:Int->V):V->Hp->VK->Prop:=fun x H Q=>∃ i,x=.int i/\Q (g i) H
section
variable {a b:Expr} 
def binT (ha:PE X a ta) (hb:PE X b tb) {R:V->V->Hp->Prop} (I:Inv X pq σ H s)
  (h:ta σ H fun x H1=>tb σ H1 fun y H2=>R x y H2) {Q:Value->Shared->Prop} {f:Value->Value->Sem Value}
  (hf:∀ v u s2 x y H2,Inv X pq σ H2 s2->RelV x v->RelV y u->R x y H2->wpAny (model X.prog X.w) X.A (f v u) Q X.xe s2) :
  wpAny (model X.prog X.w) X.A (eval a X.env) (fun v s₁=>wpAny (model X.prog X.w) X.A (eval b X.env) (fun u s₂=>wpAny (model X.prog X.w) X.A (f v u) Q X.xe s₂) X.xe s₁) X.xe s:=by
 refine thn (ha pq s σ H _ I h) fun v s1 hz=>?_;obtain ⟨x,H1,I1,r1,q1⟩:=hz;refine thn (hb pq s1 σ H1 _ I1 q1) fun u s2 hz=>?_;obtain ⟨y,H2,I2,r2,q2⟩:=hz;exact hf v u s2 x y H2 I2 r1 r2 q2
def Zt {op:Operator} {r:R2} (ho:OpR X (binaryOp op) r) (ha:PE X a ta) (hb:PE X b tb):PE X (.BinOp a op b pos) (tOp r ta tb):=by
 intro pq s σ H Q I h;exact wpAny_BinOp (binT ha hb I h fun v u s2 x y H2 I2 rx ry q=>ho pq s2 σ H2 x y v u Q I2 rx ry q)
def Zmu {op:UnaryOp} {r:V->Hp->VK->Prop} (ho:UnR X (unaryOp op) r) (ha:PE X a ta):PE X (.UnaryOp op a pos) (tUn r ta):=by
 intro pq s σ H Q I h;exact UnaryOp_ (thn (ha pq s σ H _ I h) fun v s1 ⟨x,H1,I1,r1,q1⟩=>ho pq s1 σ H1 x v Q I1 r1 q1)
def opI {f:Value->Value->Sem Value} {C:Int->Int->Prop} {g:Int->Int->Int}
  (rule:∀ (i j:Int) (t u:Tok) (s:Shared) (Q:Value->Shared->Prop) (E:Value->Shared->Prop),C i j->Q (.int (g i j) s.toks) { s with toks:=s.toks+1 }->wpAny (model X.prog X.w) X.A (f (.int i t) (.int j u)) Q E s) :
  OpR X f (rI C fun i j=>.int (g i j)):=by
 intro pq s σ H x y v u Q I rx ry h;obtain ⟨i,j,rfl,rfl,hc,q⟩:=h;obtain ⟨t,rfl⟩:=rx;obtain ⟨t',rfl⟩:=ry;exact rule i j t t' s _ _ hc ⟨.int (g i j),H,I.tok _,⟨_,rfl⟩,q⟩
def opI0 {f:Value->Value->Sem Value} {g:Int->Int->Int}
  (rule:∀ (i j:Int) (t u:Tok) (s:Shared) (Q:Value->Shared->Prop) (E:Value->Shared->Prop),Q (.int (g i j) s.toks) { s with toks:=s.toks+1 }->wpAny (model X.prog X.w) X.A (f (.int i t) (.int j u)) Q E s) :
  OpR X f (rI0 fun i j=>.int (g i j)):=by
 intro pq s σ H x y v u Q I rx ry h;obtain ⟨i,j,rfl,rfl,q⟩:=h;obtain ⟨t,rfl⟩:=rx;obtain ⟨t',rfl⟩:=ry;exact rule i j t t' s _ _ ⟨.int (g i j),H,I.tok _,⟨_,rfl⟩,q⟩
def opB0 {f:Value->Value->Sem Value} {g:Int->Int->Bool}
  (rule:∀ (i j:Int) (t u:Tok) (s:Shared) (Q:Value->Shared->Prop) (E:Value->Shared->Prop),Q (.bool (g i j)) s->wpAny (model X.prog X.w) X.A (f (.int i t) (.int j u)) Q E s) :
  OpR X f (rI0 fun i j=>.bl (g i j)):=by
 intro pq s σ H x y v u Q I rx ry h;obtain ⟨i,j,rfl,rfl,q⟩:=h;obtain ⟨t,rfl⟩:=rx;obtain ⟨t',rfl⟩:=ry;exact rule i j t t' s _ _ ⟨.bl (g i j),H,I,rfl,q⟩
def CDiv (i j:Int):Prop:=0<j/\j<1073741824
def CPow (i j:Int):Prop:=0<=j/\j<=1000000/\i.natAbs<2 ^ 64
def CMul (i j:Int):Prop:=(-(2 ^ 64)<i/\i<2 ^ 64)\/(-(2 ^ 64)<j/\j<2 ^ 64)
def CMul.ok {i j:Int} (h:CMul i j):IntMulOk i j:=by
 rcases h with ⟨h1,h2⟩ | ⟨h1,h2⟩
 ·exact .of_left (intBits_le_64 h1 h2)
 ·exact .of_right (intBits_le_64 h1 h2)
def W3:OpR X (binaryOp .Add) (rI0 fun i j=>.int (i+j)):=opI0 fun _ _ _ _ _ _ _ q=>add_int q
def Zku:OpR X (binaryOp .Sub) (rI0 fun i j=>.int (i-j)):=opI0 fun _ _ _ _ _ _ _ q=>sub_int q
def Vv:OpR X (binaryOp .Mult) (rI CMul fun i j=>.int (i*j)):=opI fun _ _ _ _ _ _ _ hc q=>mul_int q hc.ok
theorem Zf4:OpR X (binaryOp .FloorDiv) (rI CDiv fun i j=>.int (i / j)):=opI fun i j _ _ _ _ _ hc q=>by
 have h1:(0:Int)<j:=hc.1;have h2:j<1073741824:=hc.2;exact floordiv_int (by lia) (by rw [Int.fdiv_eq_ediv_of_nonneg i (by lia)]; exact q) (.inl (PyProof.noPylong_small (by lia)))
theorem Xi:OpR X (binaryOp .Mod) (rI (fun _ j=>0<j) fun i j=>.int (i % j)):=opI fun i j _ _ _ _ _ hc q=>by
 have h1:(0:Int)<j:=hc;exact mod_int' (by lia) (by rw [Int.fmod_eq_emod_of_nonneg i (by lia)]; exact q)
def Zf3:OpR X (binaryOp .Pow) (rI CPow fun i j=>.int (i ^ j.toNat)):=opI fun _ _ _ _ _ _ _ hc q=>pow_int_small hc.1 hc.2.1 hc.2.2 q
def unI {f:Value->Sem Value} {g:Int->Int}
  (rule:∀ (i:Int) (t:Tok) (s:Shared) (Q:Value->Shared->Prop) (E:Value->Shared->Prop),Q (.int (g i) s.toks) { s with toks:=s.toks+1 }->wpAny (model X.prog X.w) X.A (f (.int i t)) Q E s) :
  UnR X f (rU fun i=>.int (g i)):=by
 intro pq s σ H x v Q I rx h;obtain ⟨i,rfl,q⟩:=h;obtain ⟨t,rfl⟩:=rx;exact rule i t s _ _ ⟨.int (g i),H,I.tok _,⟨_,rfl⟩,q⟩
def Zeh:UnR X (unaryOp .USub) (rU fun i=>.int (-i)):=unI fun _ _ _ _ _ q=>neg_int q
end
def scal:V->V->Bool
 | .non,.non=>true | .non,.int _=>true | .int _,.non=>true | .non,.bl _=>true | .bl _,.non=>true | .non,.str _=>true | .str _,.non=>true
 | .int _,.int _=>true | .bl _,.bl _=>true | .str _,.str _=>true | .byt _,.byt _=>true
 | .int _,.str _=>true | .str _,.int _=>true | .bl _,.str _=>true | .str _,.bl _=>true
 | _,_=>false
def rEq:R2:=fun x y H Q=>scal x y=true/\Q (.bl (decide (x=y))) H
def rNe:R2:=fun x y H Q=>scal x y=true/\Q (.bl (!decide (x=y))) H
def Zha {i j:Int}:decide (V.int i=V.int j)=(i == j):=by
 rw [B5];simp
def Zk2 {i j:Bool}:decide (V.bl i=V.bl j)=(i == j):=by
 rw [B5];simp
def Zg9 {i j:Str}:decide (V.str i=V.str j)=(i == j):=by
 rw [B5];simp
def Zhb {i j:Array UInt8}:decide (V.byt i=V.byt j)=(i.toList == j.toList):=by
 rw [B5];cases i;cases j;simp
section
variable {a b c:Expr} 
def Yf {k k':Bool} (I:Inv X pq σ H s) (q:Q (.bl k) H) (e:k=k'):EP X pq σ Q (.bool k') s:=by
 subst e;exists .bl k,H,I,rfl,q
theorem Zi6:OpR X (compareOp .Eq) rEq:=by
 intro pq s σ H x y v u Q I rx ry h;obtain ⟨hs,q⟩:=h;cases x with
 | non =>
  cases rx;cases y with
  | non=>cases ry; exact PySem.EqNone.eq_none_none (Yf I q (by simp))
  | bl j=>cases ry; exact PySem.EqNone.eq_none_bool (Yf I q (by simp))
  | int j=>obtain ⟨t',rfl⟩:=ry; exact PySem.EqNone.eq_none_int (Yf I q (by simp))
  | str j=>obtain ⟨t',rfl⟩:=ry; exact PySem.EqNone.eq_none_str (Yf I q (by simp))
  | _=>exact Fs (show false=true from hs) Jp
 | bl i =>
  cases rx;cases y with
  | non=>cases ry; exact PySem.EqNone.eq_bool_none (Yf I q (by simp))
  | bl j=>cases ry; exact eq_bool (Yf I q Zk2)
  | str j=>obtain ⟨t',rfl⟩:=ry; exact PySem.EqMixed.eq_bool_str (Yf I q (by simp))
  | _=>exact Fs (show false=true from hs) Jp
 | int i =>
  obtain ⟨t,rfl⟩:=rx;cases y with
  | non=>cases ry; exact PySem.EqNone.eq_int_none (Yf I q (by simp))
  | int j=>obtain ⟨t',rfl⟩:=ry; exact eq_int (Yf I q Zha)
  | str j=>obtain ⟨t',rfl⟩:=ry; exact PySem.EqMixed.eq_int_str (Yf I q (by simp))
  | _=>exact Fs (show false=true from hs) Jp
 | str i =>
  obtain ⟨t,rfl⟩:=rx;cases y with
  | non=>cases ry; exact PySem.EqNone.eq_str_none (Yf I q (by simp))
  | bl j=>cases ry; exact PySem.EqMixed.eq_str_bool (Yf I q (by simp))
  | int j=>obtain ⟨t',rfl⟩:=ry; exact PySem.EqMixed.eq_str_int (Yf I q (by simp))
  | str j=>obtain ⟨t',rfl⟩:=ry; exact eq_str (Yf I q Zg9)
  | _=>exact Fs (show false=true from hs) Jp
 | byt i =>
  obtain ⟨t,rfl⟩:=rx;cases y with
  | byt j=>obtain ⟨t',rfl⟩:=ry; exact W.eq_bytes (Yf I q Zhb)
  | _=>exact Fs (show false=true from hs) Jp
 | _=>cases y <;> exact Fs (show false=true from hs) Jp
theorem Zs9:OpR X (compareOp .NotEq) rNe:=by
 intro pq s σ H x y v u Q I rx ry h;obtain ⟨hs,q⟩:=h;cases x with
 | non =>
  cases rx;cases y with
  | non=>cases ry; exact PySem.EqNone.ne_none_none (Yf I q (by simp))
  | bl j=>cases ry; exact PySem.EqNone.ne_none_bool (Yf I q (by simp))
  | int j=>obtain ⟨t',rfl⟩:=ry; exact PySem.EqNone.ne_none_int (Yf I q (by simp))
  | str j=>obtain ⟨t',rfl⟩:=ry; exact PySem.EqNone.ne_none_str (Yf I q (by simp))
  | _=>exact Fs (show false=true from hs) Jp
 | bl i =>
  cases rx;cases y with
  | non=>cases ry; exact PySem.EqNone.ne_bool_none (Yf I q (by simp))
  | bl j=>cases ry; exact ne_bool (Yf I q (congrArg not Zk2))
  | str j=>obtain ⟨t',rfl⟩:=ry; exact PySem.EqMixed.ne_bool_str (Yf I q (by simp))
  | _=>exact Fs (show false=true from hs) Jp
 | int i =>
  obtain ⟨t,rfl⟩:=rx;cases y with
  | non=>cases ry; exact PySem.EqNone.ne_int_none (Yf I q (by simp))
  | int j=>obtain ⟨t',rfl⟩:=ry; exact ne_int (Yf I q (congrArg not Zha))
  | str j=>obtain ⟨t',rfl⟩:=ry; exact PySem.EqMixed.ne_int_str (Yf I q (by simp))
  | _=>exact Fs (show false=true from hs) Jp
 | str i =>
  obtain ⟨t,rfl⟩:=rx;cases y with
  | non=>cases ry; exact PySem.EqNone.ne_str_none (Yf I q (by simp))
  | bl j=>cases ry; exact PySem.EqMixed.ne_str_bool (Yf I q (by simp))
  | int j=>obtain ⟨t',rfl⟩:=ry; exact PySem.EqMixed.ne_str_int (Yf I q (by simp))
  | str j=>obtain ⟨t',rfl⟩:=ry; exact ne_str (Yf I q (congrArg not Zg9))
  | _=>exact Fs (show false=true from hs) Jp
 | byt i =>
  obtain ⟨t,rfl⟩:=rx;cases y with
  | byt j=>obtain ⟨t',rfl⟩:=ry; exact W.ne_bytes (Yf I q (congrArg not Zhb))
  | _=>exact Fs (show false=true from hs) Jp
 | _=>cases y <;> exact Fs (show false=true from hs) Jp
def Tg:OpR X (compareOp .Lt) (rI0 fun i j=>.bl (decide (i<j))):=opB0 fun _ _ _ _ _ _ _ q=>lt_int q
def Qh:OpR X (compareOp .Gt) (rI0 fun i j=>.bl (decide (j<i))):=opB0 fun _ _ _ _ _ _ _ q=>gt_int q
def Zta:OpR X (compareOp .GtE) (rI0 fun i j=>.bl (decide (j<=i))):=opB0 fun _ _ _ _ _ _ _ q=>ge_int q
def Z2 (b:Expr) {op:CmpOp} (h:op≠.In:=by decide) (h2:op≠.NotIn:=by decide):behindInMarks op b=false:=by
 have e1:(op == CmpOp.In)=false:=by cases op <;> first | rfl | exact Fs rfl h
 have e2:(op == CmpOp.NotIn)=false:=by cases op <;> first | rfl | exact Fs rfl h2
 cases b <;> simp [behindInMarks,e1,e2]
def Xu {op:CmpOp} {r:R2} (ho:OpR X (compareOp op) r) (ha:PE X a ta) (hb:PE X b tb) (hm:behindInMarks op b=false):PE X (.Compare a [op] [b] pos) (tOp r ta tb):=by
 intro pq s σ H Q I h;exact wpAny_Compare1 (binT ha hb I h fun v u s2 x y H2 I2 rx ry q=>ho pq s2 σ H2 x y v u Q I2 rx ry q) hm
def Zo1 (t:TE):TT:=fun σ H Q=>t σ H fun x H'=>∃ k,x=.bl k/\Q k H'
def Z1 {op:CmpOp} {r:R2} (ho:OpR X (compareOp op) r) (ha:PE X a ta) (hb:PE X b tb) (hm:behindInMarks op b=false):PT X (.Compare a [op] [b] pos) (Zo1 (tOp r ta tb)):=by
 intro pq s σ H Q I h;refine wpAny_isTrue_Compare1 (thn (ha pq s σ H _ I h) fun v s1 ⟨x,H1,I1,r1,q1⟩=>thn (hb pq s1 σ H1 _ I1 q1) fun u s2 ⟨y,H2,I2,r2,q2⟩ =>
  thn (ho pq s2 σ H2 x y v u _ I2 r1 r2 q2) fun c s3 ⟨z,H3,I3,r3,k,e,q3⟩=>?_) hm
 subst e;cases r3;exact wpAny_truthy_bool ⟨H3,I3,q3⟩
def Rs:(sizeLine:Nat)<2 ^ 63:=by rw [sizeLine_eq]; decide
def Zdm:OpR X (binaryOp .Add) (fun x y H Q=>∃ i j,x=.str i/\y=.str j/\i.length+j.length<=sizeLine/\Q (.str (i++j)) H):=by
 intro pq s σ H x y v u Q I rx ry h;obtain ⟨i,j,rfl,rfl,hz,q⟩:=h;obtain ⟨t,rfl⟩:=rx;obtain ⟨t',rfl⟩:=ry;exact add_str (fun t' tk=>⟨.str (i++j),H,I.tok _,⟨_,rfl⟩,q⟩) hz
theorem Rc {x:V} (r:Vals [x] us):∃ u,us=[u]/\RelV x u:=by
 cases r with
 | cons r1 r2=>cases r2;exists ·,r1
theorem Zob {x:V} (r:Vals [x,y] us):∃ u w',us=[u,w']/\RelV x u/\RelV y w':=by
 cases r with
 | cons r1 r2 =>
  cases r2 with
  | cons r3 r4=>cases r4;exists _,·,r1,r3
def Zjv:Vj X (.builtin "abs") (fun xs H Q=>∃ i,xs=[.int i]/\Q (.int (if i<0 then -i else i)) H):=by
 intro pq s σ H xs us Q I r h;obtain ⟨i,rfl,q⟩:=h;obtain ⟨u,rfl,t,rfl⟩:=Rc r;exact call_abs_int fun u tk=>⟨.int (if i<0 then -i else i),H,I.tok _,⟨_,rfl⟩,q⟩
def Vf (hc:X.calm=true):Vj X (.builtin "max") (fun xs H Q=>∃ i j,xs=[.int i,.int j]/\Q (.int (if j > i then j else i)) H):=by
 intro pq s σ H xs us Q I r h;obtain ⟨i,j,rfl,q⟩:=h;obtain ⟨u,w',rfl,⟨t,rfl⟩,⟨t',rfl⟩⟩:=Zob r;refine max_two_ints (I.ok.hd hc) fun h' tk k=>⟨_,H,I.kept k,?_,q⟩
 by_cases hj:j > i
 ·rw [F1 hj,F1 hj];exists ·
 ·rw [F0 hj,F0 hj];exists ·
def Sv (hc:X.calm=true):Vj X (.builtin "min") (fun xs H Q=>∃ i j,xs=[.int i,.int j]/\Q (.int (if j<i then j else i)) H):=by
 intro pq s σ H xs us Q I r h;obtain ⟨i,j,rfl,q⟩:=h;obtain ⟨u,w',rfl,⟨t,rfl⟩,⟨t',rfl⟩⟩:=Zob r;refine min_two_ints (I.ok.hd hc) fun h' tk k=>⟨_,H,I.kept k,?_,q⟩
 by_cases hj:j<i
 ·rw [F1 hj,F1 hj];exists ·
 ·rw [F0 hj,F0 hj];exists ·
def Xx:Vj X (.type "int") (fun xs H Q=>(∃ i,xs=[.int i]/\Q (.int i) H)\/∃ k,xs=[.bl k]/\Q (.int (if k then 1 else 0)) H):=by
 intro pq s σ H xs us Q I r h;rcases h with ⟨i,rfl,q⟩ | ⟨k,rfl,q⟩
 ·obtain ⟨u,rfl,t,rfl⟩:=Rc r;exact call_int_int ⟨.int i,H,I,⟨_,rfl⟩,q⟩
 ·obtain ⟨u,rfl,r1⟩:=Rc r;cases r1;exact call_int_bool ⟨.int (if k then 1 else 0),H,I.tok _,⟨_,rfl⟩,q⟩
def LenV (K:W.Frag) (x:V) (H:Hp) (n:Nat):Prop :=
 match x with
 | .str y=>y.length<=sizeLine/\n=y.length
 | .byt y=>y.size<=sizeLine/\n=y.size
 | .ref p=>(∃ xs,SqL K H p xs/\n=xs.length)\/∃ xs,SqT K H p xs/\n=xs.length
 | _=>False
theorem X2:Vj X (.builtin "len") (fun xs H Q=>∃ x n,xs=[x]/\LenV X.K x H n/\Q (.int n) H):=by
 intro pq s σ H xs us Q I r h;obtain ⟨x,n,rfl,e,q⟩:=h;obtain ⟨u,rfl,rx⟩:=Rc r;have hl:=Rs;have hs:sizeLine=16777216:=sizeLine_eq;cases x with
 | str y =>
  obtain ⟨t,rfl⟩:=rx;obtain ⟨hy,e'⟩:y.length<=sizeLine/\n=y.length:=e;subst e';exact len_str (by lia) ⟨.int _,H,I.tok _,⟨_,rfl⟩,q⟩
 | byt y =>
  obtain ⟨t,rfl⟩:=rx;obtain ⟨hy,e'⟩:y.size<=sizeLine/\n=y.size:=e;subst e';exact W.len_bytes (by lia) ⟨.int _,H,I.tok _,⟨_,rfl⟩,q⟩
 | ref p =>
  cases rx;have e':(∃ xs,SqL X.K H p xs/\n=xs.length)\/∃ xs,SqT X.K H p xs/\n=xs.length:=e;rcases e' with ⟨xs,hx,e'⟩ | ⟨xs,hx,e'⟩
  ·subst e';obtain ⟨its,r',pl,hz⟩:=I.list hx;have hlen:=r'.length;exact Calls.call_len_list pl.isList (by simp only [Jn]; lia) ⟨.int xs.length,H,I.tok _,⟨_,by simp only [Jn]; rw [hlen]⟩,q⟩
  ·subst e';obtain ⟨its,r',pl,hz⟩:=I.tuple hx;have hlen:=r'.length;exact len_tuple pl (by simp only [Jn]; lia) ⟨.int xs.length,H,I.tok _,⟨_,by simp only [Jn]; rw [hlen]⟩,q⟩
 | _=>exact (show False from e).elim
end
structure ObjM (h:Heap) (x dx C:Addr) (mA:Str->Option Value):Prop where
 obj:h.get? x=some (W.instObj C dx)
 ns:h.Ns1 dx mA
 ne:dx≠x
def Zgn {mA:Str->Option Value} (n:h.Ns1 dx mA):∃ od,h.get? dx=some od/\∀ name,W.lookIn name od=some (mA name):=by
 obtain ⟨o,es,ep,ho,hd,hk,_,hm⟩:=n;exists o,ho,fun name=>?_;have e:=hm name;unfold nsFind findBy at e;rw [<- Array.find?_toList] at e;unfold W.lookIn;rw [hd];dsimp only
 split
 ·rename_i y q
  rw [q] at e;exact congrArg some e
 ·rename_i q
  rw [q] at e;have a:es.toList.any (·.refKey)=false:=by
   rw [List.any_eq_false];intro y hy;obtain ⟨z,t,hkey⟩:=hk y (Array.mem_toList_iff.mp hy);simp [DictEntry.refKey,hkey]
  have a':¬ es.toList.any (·.refKey)=true:=by rw [a]; exact Jp
  rw [F0 a'];exact congrArg some e
def ObjM.look {x C:Addr} {mA:Str->Option Value} (I:ObjM h x dx C mA):∃ od,W.InstAt h x (W.instObj C dx) C (some od)/\∀ name,W.lookIn name od=some (mA name) :=
 let ⟨od,ho,hl⟩:=Zgn I.ns
 ⟨od,⟨I.obj,rfl,rfl,ho⟩,hl⟩
section
variable {x C f:Addr} {mA:Str->Option Value} {name:Str} {v:Value}
def Znm {expr:Bool} {Q:Value->Shared->Prop} (X:K.In s.heap) (I:ObjM s.heap x dx C mA) (hg:W.plainGet K C name=true) (hh:W.hasDictIn K C=true)
  (ha:W.findIn K (.ref C) name=some none) (hv:mA name=some v) (hv':W.handedIn v=true) (h:Q v { s with toks:=s.toks+1 }) :
  wpAny (model prog w) A (getAttr (.ref x) name expr) Q E s:=by
 obtain ⟨od,J,hl⟩:=I.look;exact W.get_value X J (W.plainGet_of hg).1 (W.findObj_own hh ha rfl (by rw [hl,hv])) hv' h
def Zji {pl:Sem Bool} {Q:Value×List Value->Shared->Prop} (X:K.In s.heap) (I:ObjM s.heap x dx C mA) (hg:W.plainGet K C name=true)
  (hf:W.findIn K (.ref C) name=some (some (.ref f))) (ht:W.isFn K (.ref f)=true) (hv:mA name=none) (h:Q (.ref f,[.ref x]) s) :
  wpAny (model prog w) A (getMethod (.ref x) name pl) Q E s:=by
 obtain ⟨od,J,hl⟩:=I.look;exact W.method_fn X J (W.plainGet_of hg).1 (W.plainGet_of hg).2 hf (beq_iff_eq.mp ht) (by show (W.lookIn name od).map (·.isSome)=some false; rw [hl,hv]; rfl) h
theorem Zlz {ns:List Str} {Q:Unit->Shared->Prop} (X:K.In s.heap) (I:ObjM s.heap x dx C mA)
  (hs:W.findIn K (.ref C) "__setattr__"=some (some (.builtin "object.__setattr__"))) (hp:W.plainOver K C=true) (ht:W.takerIn K C name=some none) (hh:W.hasDictIn K C=true)
  (hw:PySem.Within mA ns) (hsz:ns.length<=sizeLine)
  (h:∀ h',ObjM h' x dx C (fun y=>if y=name then some v else mA y)->Heap.SameBut dx s.heap h'->Q () { s with heap:=h',toks:=s.toks+2 }) :
  wpAny (model prog w) A (setAttr (.ref x) name v) Q E s:=by
 obtain ⟨od,J,hl⟩:=I.look;refine W.set_plain X J hs (W.osa_open (s:={ s with toks:=s.toks+1 }) (r:=none) X J hp ht fun b=>?_);obtain ⟨cd,hc,hd'⟩:=W.any_some hh;have hx:s.heap.get? x=some ⟨.ref C,some dx,.plain,#[]⟩:=I.obj;refine Fv (Fw (Fv (Fv (wpAny_loadPart hx (Fv (W.Looks.here (s:={ s with toks:=s.toks+1 }) (W.looks_clsIn X hc) ?_))))));rw [hd'];refine Fw (a:=some dx) (Fv (Fw (Fv ?_)));refine wpAny_nsSet1 (s:={ s with toks:=s.toks+1 }) I.ns fun h' hn2 hs2=>?_;obtain ⟨oD,esD,epD,hoD,hdD,hcD⟩:=hn2.count (PySem.Within.cons name v hw);refine Fv (wpAny_lookBehind hoD (by rw [hdD]; exact pastItsLine_dict (J8 hcD (by rw [Jq]; lia))) ?_)
 exact Fw (h _ ⟨(hs2.2 _ (Ne.symm I.ne)).trans I.obj,hn2,I.ne⟩ hs2)
def Zi9 {R:Result->Shared->Prop} {vs:List Value} {kw:List (Str×Value)} (X:K.In s.heap) (hm:W.makesIn K C=true)
  (hi:W.findIn K (.ref C) "__init__"=some (some (.ref f))) (hf:W.typeIn K (.ref f)=some (.type "function"))
  (h:codeAny (model prog w) (A.under (.builtin "type.__call__" ⟨.ref C::vs,kw⟩)) (.call (.ref f) ⟨.ref (s.heap.objs.size+1)::vs,kw⟩) (W.InitBack (s.heap.objs.size+1) R)
   { s with heap:=(s.heap.push W.emptyDict).push (W.instObj C s.heap.objs.size) }) :
  codeAny (model prog w) A (.call (.ref C) ⟨vs,kw⟩) R s:=by
 obtain ⟨hh,g,d,t,os⟩:=s;exact W.make_core (W.makes_of X hm) (W.looks_findIn X hi) (fun self=>W.bind_fn X self hf) (.inl rfl) h
end
def putF (f:Str) (v:V):List (Str×V)->List (Str×V)
 | []=>[(f,v)]
 | (g,x)::r=>if g=f then (g,v)::r else (g,x)::putF f v r
theorem Sa (f g:Str) (v:V):∀ fs:List (Str×V),(putF f v fs).lookup g=if g=f then some v else fs.lookup g
 | []=>by
  show List.lookup g [(f,v)]=_
  by_cases h:g=f
  ·have hb:(g == f)=true:=beq_iff_eq.mpr h;simp only [List.lookup,hb,F1 h]
  ·have hb:(g == f)=false:=beq_eq_false_iff_ne.mpr h;simp only [List.lookup,hb,F0 h]
 | (k,x)::r=>by
  have ih:=Sa f g v r;rw [show putF f v ((k,x)::r)=(if k=f then (k,v)::r else (k,x)::putF f v r) from rfl]
  by_cases hk:k=f
  ·rw [F1 hk]
   by_cases h:g=k
   ·have hb:(g == k)=true:=beq_iff_eq.mpr h;simp only [List.lookup,hb,F1 (h.trans hk)]
   ·have hb:(g == k)=false:=beq_eq_false_iff_ne.mpr h;simp only [List.lookup,hb,F0 (fun e:g=f=>h (e.trans hk.symm))]
  ·rw [F0 hk]
   by_cases h:g=k
   ·have hb:(g == k)=true:=beq_iff_eq.mpr h;simp only [List.lookup,hb,F0 (fun e:g=f=>hk (h.symm.trans e))]
   ·have hb:(g == k)=false:=beq_eq_false_iff_ne.mpr h;simp only [List.lookup,hb];exact ih
theorem Se (f:Str) (v:V):∀ fs:List (Str×V),f∈(putF f v fs).map (·.1)/\∀ g,g∈fs.map (·.1)->g∈(putF f v fs).map (·.1)
 | []=>⟨by simp [putF],fun g h=>by simp at h⟩
 | (k,x)::r=>by
  obtain ⟨i1,i2⟩:=Se f v r;rw [show putF f v ((k,x)::r)=(if k=f then (k,v)::r else (k,x)::putF f v r) from rfl]
  by_cases hk:k=f
  ·rw [F1 hk];subst hk;exact ⟨by simp,fun g h=>by simpa using h⟩
  ·rw [F0 hk];exists ?_,fun g h=>?_
   ·rw [Ju];exact Jg _ i1
   ·rw [Ju] at h ⊢;rcases Jy.mp h with e | e
    ·exact Jy.mpr (.inl e)
    ·exact Jg _ (i2 g e)
theorem Sc (f:Str) (v:V):∀ fs:List (Str×V),(putF f v fs).length<=fs.length+1
 | []=>by simp [putF]
 | (k,x)::r=>by
  have ih:=Sc f v r;rw [show putF f v ((k,x)::r)=(if k=f then (k,v)::r else (k,x)::putF f v r) from rfl]
  by_cases hk:k=f
  ·rw [F1 hk,Jq,Jq]; lia
  ·rw [F0 hk,Jq,Jq]; lia
theorem RelO.some_of {o:Option Value} (r:RelO (some v) o):∃ u,o=some u/\RelV v u:=by
 cases o with
 | none=>exact (show False from r).elim
 | some u=>exact ⟨u,rfl,r⟩
theorem RelO.none_of {o:Option Value} (r:RelO none o):o=none:=by
 cases o with
 | none=>rfl
 | some u=>exact (show False from r).elim
theorem Zg3 {u:Value} (r:RelV v u):W.handedIn u=true:=by
 cases v with
 | non=>cases (show u=Value.none from r); rfl
 | bl b=>cases (show u=Value.bool b from r); rfl
 | int i=>obtain ⟨t,e⟩:=(show ∃ t,u=Value.int i t from r); cases e; rfl
 | str x=>obtain ⟨t,e⟩:=(show ∃ t,u=Value.str x t from r); cases e; rfl
 | byt b=>obtain ⟨t,e⟩:=(show ∃ t,u=Value.bytes b t from r); cases e; rfl
 | flt b=>obtain ⟨t,e⟩:=(show ∃ t,u=Value.float b t from r); cases e; rfl
 | ref a=>cases (show u=Value.ref a from r); rfl
 | ty n=>cases (show u=Value.type n from r); rfl
section
variable {a C:Addr} {fs:List (Str×V)}
def Za6 (hok:HOk P w H h) (e:H a=some (.ins C dx fs)):∃ mA,ObjM h a dx C mA/\(∀ f,RelO (fs.lookup f) (mA f))/\PySem.Within mA (fs.map (·.1))/\fs.length<=1000/\H dx=some (.own a):=by
 obtain ⟨d,z,ne,ob,mA,n,r,q⟩:=(show Y9 P w H h a (.ins C dx fs) from hok a _ e);exists mA,⟨ob,n,ne⟩,r,q,z,d
end
structure Cls (K:W.Frag) (C:Addr):Prop where
 pg:W.plainGet K C Str.empty=true
 hd:W.hasDictIn K C=true
 po:W.plainOver K C=true
 sa:W.findIn K (.ref C) "__setattr__"=some (some (.builtin "object.__setattr__"))
def Cls.get {C:Addr} (c:Cls K C) (f:Str):W.plainGet K C f=true:=c.pg
def Vh (K:W.Frag) (C:Addr) (f:Str):Prop:=W.findIn K (.ref C) f=some none
def Vh.taker {C:Addr} {f:Str} (n:Vh K C f):W.takerIn K C f=some none:=by
 unfold W.takerIn;rw [show W.findIn K (.ref C) f=some none from n];rfl
structure Meth (K:W.Frag) (C:Addr) (m:Str) (f:Addr):Prop where
 at_:W.findIn K (.ref C) m=some (some (.ref f))
 fn:W.isFn K (.ref f)=true
 kp:W.keepIn K (.ref f)=true
section
variable {a C:Addr} {fs:List (Str×V)} {f:Str} 
def Zdx {b:Bool} {Q:Value->Shared->Prop} (I:Inv X pq σ H s) (e:H a=some (.ins C dx fs)) (c:Cls X.K C) (n:Vh X.K C f) (l:fs.lookup f=some v)
  (h:∀ u s',Inv X pq σ H s'->RelV v u->Q u s'):wpAny (model X.prog X.w) A (getAttr (.ref a) f b) Q E s:=by
 obtain ⟨mA,O,r,_,_,_⟩:=Za6 I.hok e;obtain ⟨u,hu,ru⟩:=RelO.some_of (v:=v) (o:=mA f) (by rw [<- l]; exact r f);exact Znm I.kIn O (c.get f) c.hd n hu (Zg3 ru) (h u _ (I.tok _) ru)
def Rv {m:Str} {g:Addr} {pl:Sem Bool} {Q:Value×List Value->Shared->Prop} (I:Inv X pq σ H s) (e:H a=some (.ins C dx fs)) (c:Cls X.K C) (k:Meth X.K C m g) (l:fs.lookup m=none)
  (h:Q (.ref g,[.ref a]) s):wpAny (model X.prog X.w) A (getMethod (.ref a) m pl) Q E s:=by
 obtain ⟨mA,O,r,_,_,_⟩:=Za6 I.hok e;have hn:mA m=none:=RelO.none_of (by rw [<- l]; exact r m);exact Zji I.kIn O (c.get m) k.at_ k.fn hn h
theorem Zdi {u:Value} {Q:Unit->Shared->Prop} (I:Inv X pq σ H s) (e:H a=some (.ins C dx fs)) (c:Cls X.K C) (n:Vh X.K C f) (hl:fs.length<1000) (ry:RelV y u)
  (h:∀ s',Inv X pq σ (upd H a (.ins C dx (putF f y fs))) s'->Q () s'):wpAny (model X.prog X.w) A (setAttr (.ref a) f u) Q E s:=by
 obtain ⟨mA,O,r,wi,_,ho⟩:=Za6 I.hok e;have hz:(fs.map (·.1)).length<=sizeLine:=by rw [Ja,sizeLine_eq]; lia
 refine Zlz I.kIn O c.sa c.po n.taker c.hd wi hz fun h' O' sb=>h _ ?_;have hd:∃ o,h'.get? dx=some o:=let ⟨o,_,_,e',_⟩:=O'.ns; ⟨o,e'⟩
 refine I.write (x:=a) (e:=dx) (by rw [e]; exact True.intro) (.inr ho) (fun b q hb z=>(sb.2 b hb).trans z) hd ?_;exists by rw [Zm O.ne]; exact ho,?_,O.ne,O'.obj,_,O'.ns,fun g=>?_,fun g hg=>?_
 ·have:=Sc f y fs; lia
 ·show RelO ((putF f y fs).lookup g) (if g=f then some u else mA g);rw [Sa]
  by_cases q:g=f
  ·rw [F1 q,F1 q]; exact ry
  ·rw [F0 q,F0 q]; exact r g
 ·by_cases q:g=f
  ·rw [q]; exact (Se f y fs).1
  ·refine (Se f y fs).2 g (wi g fun z=>hg ?_);show (if g=f then some u else mA g)=none;rw [F0 q]; exact z
def Inv.made (I:Inv X pq σ H s):Inv X pq σ (upd (upd H s.heap.objs.size (.own (s.heap.objs.size+1))) (s.heap.objs.size+1) (.ins C s.heap.objs.size []))
  { s with heap:=(s.heap.push W.emptyDict).push (W.instObj C s.heap.objs.size) }:=by
 have e1:(s.heap.push W.emptyDict).get? s.heap.objs.size=some W.emptyDict:=Fy s.heap rfl;have e2:((s.heap.push W.emptyDict).push (W.instObj C s.heap.objs.size)).get? (s.heap.objs.size+1)=some (W.instObj C s.heap.objs.size):=by
  have:=Fy (s.heap.push W.emptyDict) (o:=W.instObj C s.heap.objs.size) rfl;rwa [Heap.size_push] at this
 have e3:(s.heap.push W.emptyDict).Ns s.heap.objs.size (fun _=>none):=⟨W.emptyDict,#[],_,e1,rfl,(fun e he=>Fs he (by simp)),fun _=>rfl⟩;have I1:=I.laid (a:=s.heap.objs.size) (o:=.own (s.heap.objs.size+1)) (h':=s.heap.push W.emptyDict) (t':=s.toks) (fun b u q=>Fx _ q) (Jd _) ⟨_,e1⟩;refine I1.laid (a:=s.heap.objs.size+1) (o:=.ins C s.heap.objs.size []) (t':=s.toks) (fun b u q=>Fx _ q) (G9 (Heap.size_push _ _)) ?_;have ne:s.heap.objs.size≠s.heap.objs.size+1:=Gf (Bf _);exists by rw [Zm ne,Zg],Jz _,ne,e2,fun _=>none,(Heap.Ns1.of_empty e3).at fun o q=>Fx _ q,fun _=>True.intro,fun y hy=>Fs rfl hy
def Znz {env:Env} {e:Expr} {f:Str} {Q:Value->Shared->Prop} (hb:attributeBase e f env (eval e env)=eval e env)
  (h:wpAny (model prog w) A (eval e env) (fun o s₁=>wpAny (model prog w) A (getAttr o f true) Q E s₁) E s):wpAny (model prog w) A (eval (.Attribute e f pos) env) Q E s :=
 Attribute_any_ h (by rw [arm_eval_Attribute,hb])
end
def tFld (K:W.Frag) (ta:TE) (f:Str):TE:=fun σ H Q=>ta σ H fun x H1=>∃ a C dx fs v,x=.ref a/\H1 a=some (.ins C dx fs)/\Cls K C/\Vh K C f/\fs.lookup f=some v/\Q v H1
def sFld (K:W.Frag) (ta tv:TE) (f:Str):TS:=fun D σ H=>tv σ H fun y H1=>ta σ H1 fun x H2=>∃ a C dx fs,x=.ref a/\H2 a=some (.ins C dx fs)/\Cls K C/\Vh K C f/\fs.length<1000 /\
 D.nx σ (upd H2 a (.ins C dx (putF f y fs)))
section
variable {o e:Expr} {f:Str} 
def Ta (he:PE X e ta) (hb:attributeBase e f X.env (eval e X.env)=eval e X.env):PE X (.Attribute e f pos) (tFld X.K ta f):=by
 intro pq s σ H Q I h;refine Znz hb (thn (he pq s σ H _ I h) fun u s1 hz=>?_);obtain ⟨x,H1,I1,rx,a,C,dx,fs,v,ex,ea,c,n,l,q⟩:=hz;subst ex;obtain rfl:u=Value.ref a:=rx;exact Zdx I1 ea c n l fun u' s2 I2 ru=>⟨v,H1,I2,ru,q⟩
def Pw (ha:PE X o ta) (hv:PE X value tv) (hs:swapsWith value (some (.Attribute o f pos')) pos.line X.env=pure false):PS X (.Assign [.Attribute o f pos'] value pos) (sFld X.K ta tv f):=by
 intro pq s σ H D I h;refine plainObj_wpAny_Assign_Attribute (thn (hv pq s σ H _ I h) fun u s1 ⟨y,H1,I1,ry,q⟩=>thn (ha pq s1 σ H1 _ I1 q) fun ov s2 hz=>?_) hs;obtain ⟨x,H2,I2,rx,a,C,dx,fs,ex,ea,c,n,l,q2⟩:=hz;subst ex;obtain rfl:ov=Value.ref a:=rx;exact Zdi I2 ea c n l ry fun s3 I3=>⟨σ,_,I3,q2⟩
end
structure Room (k:Nat) (A:Around):Prop where
 hd:A.handled=none
 dp:A.depth+3*k+5<recursionLimit
 un:A.units+16*k+200<cLine
theorem Room.mono {k:Nat} (r:Room k A) (h:j<=k):Room j A:=⟨r.hd,by have:=r.dp; lia,by have:=r.un; lia⟩
theorem Room.deeper {k:Nat} (r:Room (k+1) A) (env:Env):Room k (A.deeper env) :=
 ⟨r.hd,by have:=r.dp; show A.depth+1+3*k+5<_; lia,by have:=r.un; show A.units+3+16*k+200<_; lia⟩
theorem Room.in1 {k:Nat} (r:Room (k+1) A):Room k A.in1 :=
 ⟨r.hd,by have:=r.dp; show A.depth+3*k+5<_; lia,by have:=r.un; show A.units+1+16*k+200<_; lia⟩
def Zds {C:Addr} {kw:List (Str×Value)}:(A.under (.builtin "type.__call__" ⟨.ref C::us,kw⟩)).depth=A.depth+1:=by
 first | rfl | simp [Around.under,Code.weight,Code.isCreation,Code.isGuard,Code.isCaller,Code.frames,Code.isFrame,guardIds]
def Zdr {C:Addr} {kw:List (Str×Value)}:(A.under (.builtin "type.__call__" ⟨.ref C::us,kw⟩)).units=A.units+1:=by
 first | rfl | simp [Around.under,Code.cUnits,Code.frames,Code.isFrame]
theorem Room.make {k:Nat} (r:Room (k+1) A) (C:Addr) (us:List Value) (kw:List (Str×Value)):Room k (A.under (.builtin "type.__call__" ⟨.ref C::us,kw⟩)) :=
 ⟨r.hd,by have:=r.dp; rw [Zds]; lia,by have:=r.un; rw [Zdr]; lia⟩
theorem Room.depth {k:Nat} (r:Room k A):A.depth<recursionLimit:=by have:=r.dp; lia
theorem Room.units {k:Nat} (r:Room k A):A.units+64<cLine:=by have:=r.un; lia
def tNil:TA:=fun _ H Q=>Q [] H
def Zes (ta:TE) (tr:TA):TA:=fun σ H Q=>ta σ H fun x H1=>tr σ H1 fun xs H2=>Q (x::xs) H2
section
variable {e:Expr} {t:TA} 
def Zb:PA X [] tNil:=fun _ _ _ _ H Q I h=>Calls.spliced_nil ⟨[],H,I,.nil,h⟩
def Za (ha:PE X e te) (hr:PA X es t) (hs:starEach (e::es) X.env=(false,eval e X.env)::starEach es X.env:=by rfl):PA X (e::es) (Zes te t):=by
 intro pos pq s σ H Q I h;rw [hs];show wpAny _ _ (spliced ((false,eval e X.env)::backTo pos (starEach es X.env))) _ _ s;refine Calls.spliced_cons (thn (ha pq s σ H _ I h) fun u s1 hz=>?_);obtain ⟨x,H1,I1,r1,q1⟩:=hz;exact thn (hr pos pq s1 σ H1 _ I1 q1) fun us s2 ⟨xs,H2,I2,r2,q2⟩=>⟨x::xs,H2,I2,.cons r1 r2,q2⟩
def tTup (t:TA):TE:=fun σ H Q=>t σ H fun xs H1=>xs.length<=sizeLine/\∀ p,H1 p=none->Q (.ref p) (upd H1 p (.tup xs))
def tLst (t:TA):TE:=fun σ H Q=>t σ H fun xs H1=>xs.length<=sizeLine/\∀ p,H1 p=none->Q (.ref p) (upd H1 p (.lst xs))
def Z7 {x1} (h:PA X es t):PE X (.Tuple es x1 pos) (tTup t):=by
 intro pq s σ H Q I hq;refine wpAny_Tuple_spliced (thn (h pos pq s σ H _ I hq) fun us s1 ⟨xs,H1,I1,r,z,q⟩=>⟨by rw [<- r.length]; exact z,?_⟩);have hf:H1 s1.heap.objs.size=none:=I1.hok.fresh (Jd _);exists .ref s1.heap.objs.size,upd H1 s1.heap.objs.size (.tup xs),I1.laid (t':=s1.toks) (fun b u e=>Fx _ e) (Jd _) ?_,rfl,q _ hf;exists z,us,r,⟨_,Fy _ rfl,rfl,_,rfl,rfl⟩
def Yr (h:PA X es t):PE X (.List es pos) (tLst t):=by
 intro pq s σ H Q I hq;refine wpAny_List_spliced (thn (h pos pq s σ H _ I hq) fun us s1 ⟨xs,H1,I1,r,z,q⟩=>⟨by rw [<- r.length]; exact z,?_⟩);have hf:H1 s1.heap.objs.size=none:=I1.hok.fresh (Jd _);exists .ref s1.heap.objs.size,upd H1 s1.heap.objs.size (.lst xs),I1.laid (t':=s1.toks) (fun b u e=>Fx _ e) (Jd _) ?_,rfl,q _ hf;exists z,us,0,r,Fy _ rfl
end
abbrev Sp:=List V->Hp->VK->XK->Prop
variable {sp:L2.Sp}
abbrev CXT:=List Env->Hp->Shared->XK->Value->Shared->Prop
variable {CX:L2.CXT}
structure Env0 (P:Program) (w:World) (K:W.Frag) (mg:Str->Option Value) (base:Heap) (A:Around) (outer:List Env) (s:Shared) (H:Hp):Prop where
 frames:A.frames=some outer
 mod:Mod K mg base
 bs:∀ b o,base.get? b=some o->s.heap.get? b=some o/\H b=none
 bsz:base.objs.size<=s.heap.objs.size
 funs:s.heap.FunFrames base outer
 frf:∀ b∈frs outer,H b=none
 hok:HOk P w H s.heap
 bare:AllBare s.gens
def CE (outer:List Env) (P:Program) (w:World) (H:Hp) (s:Shared) (Q:VK) (u:Value) (s':Shared):Prop :=
 ∃ v H',s'.os=s.os/\AllBare s'.gens/\Un (frs outer) [] H H' s.heap s'.heap/\HOk P w H' s'.heap/\RelV v u/\Q v H'
def CR (CX:CXT) (outer:List Env) (P:Program) (w:World) (H:Hp) (s:Shared) (Q:VK) (E:XK) (r:Result) (s':Shared):Prop :=
 match r with
 | .ok (.ret u)=>CE outer P w H s Q u s'
 | .ok _=>False
 | .error e=>CX outer H s E e s'
structure FnOk (P:Program) (w:World) (K:W.Frag) (mg:Str->Option Value) (base:Heap) (CX:CXT) (k:Nat) (f:Addr) (fd:FuncData) (ps:List Str) (sp:Sp):Prop where
 len:∀ vs H Q E,sp vs H Q E->vs.length=ps.length
 run:∀ (A:Around) (outer:List Env) (s:Shared) (H:Hp) (args:Args) (us:List Value) (vs:List V) (Q:VK) (E:XK),Room k A->Env0 P w K mg base A outer s H->BindsTo s fd args (ps.zip us)->Vals vs us->sp vs H Q E ->
  codeAny (model P w) A (.call (.ref f) args) (CR CX outer P w H s Q E) s
def FnOk.imp {k:Nat} {f:Addr} {sp':Sp} (F:FnOk P w K mg base CX k f fd ps sp)
  (h:∀ vs H Q E,sp' vs H Q E->sp vs H Q E):FnOk P w K mg base CX k f fd ps sp' :=
 ⟨fun vs H Q E q=>F.len vs H Q E (h _ _ _ _ q),fun A outer s H args us vs Q E hr he hb hv hs=>F.run A outer s H args us vs Q E hr he hb hv (h _ _ _ _ hs)⟩
def Env0.make {outer:List Env} (e:Env0 P w K mg base A outer s H) (C:Addr) (us:List Value) (kw:List (Str×Value)) :
  Env0 P w K mg base (A.under (.builtin "type.__call__" ⟨.ref C::us,kw⟩)) outer s H:=⟨by first | exact e.frames | (simpa [Around.under,Code.envs,Code.isFrame,pushEnvs] using e.frames),e.mod,e.bs,e.bsz,e.funs,e.frf,e.hok,e.bare⟩
def Env0.in1 {outer:List Env} (e:Env0 P w K mg base A outer s H) :
  Env0 P w K mg base A.in1 outer s H:=⟨e.frames,e.mod,e.bs,e.bsz,e.funs,e.frf,e.hok,e.bare⟩
section
variable {s':Shared}
def Inv.env0 (I:Inv X pq σ H s):Env0 X.prog X.w X.K X.mg X.base X.A X.stack s H :=
 ⟨I.ok.frames,I.ok.mod,I.bs,J8 I.ok.bsz I.sz,I.stack,I.stkFree,I.hok,I.bare⟩
def Inv.after {u:Value} (I:Inv X pq σ H s) (h:CE X.stack X.prog X.w H s Q u s'):EP X pq σ Q u s':=by
 obtain ⟨v,H',os,bare,un,hok,r,q⟩:=h;obtain ⟨hh,g,d,t,os'⟩:=s';obtain rfl:os'=s.os:=os;exists v,H',I.call (h':=hh) (g':=g) (d':=d) (t':=t) (ch:=[]) un hok bare (fun b z=>Fs z (by simp)),r,q
end
def Zls (sp:Sp) (dvs:List V) (E:XK) (t:TA):TE:=fun σ H Q=>t σ H fun vs H1=>sp (vs++dvs) H1 Q E
def Zer (C:Addr) (m:Str) (sp:Sp) (dvs:List V) (E:XK) (ta:TE) (t:TA):TE:=fun σ H Q=>ta σ H fun x H1=>∃ a dx fs,x=.ref a/\H1 a=some (.ins C dx fs)/\fs.lookup m=none /\
 t σ H1 fun vs H2=>sp (x::(vs++dvs)) H2 Q E
def Zlr (C:Addr) (sp:Sp) (dvs:List V) (E:XK) (t:TA):TE:=fun σ H Q=>t σ H fun vs H1=>∀ x dx,H1 x=none->H1 dx=none->dx≠x ->
 sp (.ref x::(vs++dvs)) (upd (upd H1 dx (.own x)) x (.ins C dx [])) (fun v H2=>v=.non/\Q (.ref x) H2) E
def U8 (K:W.Frag) (fd:FuncData) (ps:List Str) (ds:List Value):Prop :=
 ∀ (s:Shared) (us:List Value),K.In s.heap->(us++ds).length=ps.length->BindsTo s fd ⟨us,[]⟩ (ps.zip (us++ds))
def U8.all (h:∀ us:List Value,us.length=ps.length->bindArgs fd ⟨us,[]⟩=pure (ps.zip us)):U8 K fd ps []:=fun s us _ hl=>by
 rw [Gi] at hl ⊢;exact .of_eq (h us hl)
def Sy (CX:CXT) (X:Cx) (E:XK):Prop:=∀ (pq:List (Addr×Obj)) (σ:St) (H:Hp) (s:Shared) (e:Value) (s':Shared),Inv X pq σ H s->CX X.stack H s E e s'->X.xe e s'
section
variable {k:Nat} {f C:Addr} {dvs:List V} {ds:List Value} {E:XK} {x m:Str} {p:Pos} {e o:Expr} {t:TA}
theorem Zfk (F:FnOk X.prog X.w X.K X.mg X.base CX k f fd ps sp) (hr:Room k X.A) (hb:U8 X.K fd ps ds) (hd:Vals dvs ds) (hx:Sy CX X E)
  (I:Inv X pq σ H s) (r:Vals vs us) (h:sp (vs++dvs) H Q E):wpAny (model X.prog X.w) X.A (call (.ref f) us) (EP X pq σ Q) X.xe s:=by
 have r2:Vals (vs++dvs) (us++ds):=r.append hd;have hl:(us++ds).length=ps.length:=by rw [<- r2.length]; exact F.len _ _ _ _ h
 refine wpAny_call (codeAny_mono (F.run X.A X.stack s H ⟨us,[]⟩ (us++ds) (vs++dvs) Q E hr I.env0 (hb s us I.kIn hl) r2 h) fun r s' hq=>?_);cases r with
 | error e=>exact hx pq σ H s e s' I hq
 | ok fl =>
  cases fl with
  | ret u=>exact I.after hq
  | next=>exact False.elim hq
  | brk=>exact False.elim hq
  | cont=>exact False.elim hq
def Zm1 (F:FnOk X.prog X.w X.K X.mg X.base CX k f fd ps sp) (hr:Room k X.A) (hg:Gl X x) (hm:X.mg x=some (.ref f)) (hk:W.keepIn X.K (.ref f)=true) (hb:U8 X.K fd ps ds) (hd:Vals dvs ds) (hx:Sy CX X E)
  (ha:PA X (e::es) t) (hdb:(x == ("__debug__":Str))=false:=by decide) (he:starEach (e::es) X.env=(false,eval e X.env)::starEach es X.env:=by rfl) (hpl:(backTo pos (starEach es X.env)).any (·.1)=false:=by rfl) :
  PE X (.Call (.Name x p) (e::es) [] pos) (Zls sp dvs E t):=by
 intro pq s σ H Q I h;refine wpAny_Call_Name_kw (Za5 I hg hm ?_ hdb);refine W.callWith_K (h₀:=X.base) I.ok.mod.kin hk (thn (ha pos pq s σ H _ I h) fun us s1 ⟨vs,H1,I1,r,q⟩=>⟨I1.kIn,?_⟩) he hpl;exact Zfk F hr hb hd hx I1 r q
def Zmx {pl:Sem Bool} (he:PE X o ta) (c:Cls X.K C) (hm:Meth X.K C m f) (F:FnOk X.prog X.w X.K X.mg X.base CX k f fd ps sp) (hr:Room k X.A) (hb:U8 X.K fd ps ds) (hd:Vals dvs ds) (hx:Sy CX X E) (ha:PA X (e::es) t)
  (hst:starEach (e::es) X.env=(false,eval e X.env)::starEach es X.env:=by rfl) (hpl:(backTo pos (starEach es X.env)).any (·.1)=false:=by rfl)
  (ht:eval (.Call (.Attribute o m apos) (e::es) [] pos) X.env=(do
   let ov <- eval o X.env
   standAt apos.atName
   let (f,first) <- holding [ov] (getMethod ov m pl)
   callWith pos f first (backTo pos (starEach (e::es) X.env)) (backToKw pos (keywordEach [] X.env))):=by rfl) :
  PE X (.Call (.Attribute o m apos) (e::es) [] pos) (Zer C m sp dvs E ta t):=by
 intro pq s σ H Q I h;refine W.methodCall_KW (pl:=pl) (thn (he pq s σ H _ I h) fun u s1 hz=>?_) ht;obtain ⟨x,H1,I1,rx,a,dx,fs,ex,ea,l,q⟩:=hz;subst ex;obtain rfl:u=Value.ref a:=rx;refine Rv I1 ea c hm l ?_;refine W.callWith_K (first:=[.ref a]) (h₀:=X.base) I.ok.mod.kin hm.kp (thn (ha pos pq s1 σ H1 _ I1 q) fun us s2 ⟨vs,H2,I2,r,q2⟩=>⟨I2.kIn,?_⟩) hst hpl;exact Zfk (us:=.ref a::us) (vs:=.ref a::vs) F hr hb hd hx I2 (.cons rfl r) q2
def Zi0 {pl:Sem Bool} (he:PE X o ta) (c:Cls X.K C) (hm:Meth X.K C m f) (F:FnOk X.prog X.w X.K X.mg X.base CX k f fd ps sp) (hr:Room k X.A) (hb:U8 X.K fd ps ds) (hd:Vals dvs ds) (hx:Sy CX X E)
  (ht:eval (.Call (.Attribute o m apos) [] [] pos) X.env=(do
   let ov <- eval o X.env
   standAt apos.atName
   let (f,first) <- holding [ov] (getMethod ov m pl)
   callWith pos f first (backTo pos (starEach [] X.env)) (backToKw pos (keywordEach [] X.env))):=by rfl) :
  PE X (.Call (.Attribute o m apos) [] [] pos) (Zer C m sp dvs E ta tNil):=by
 intro pq s σ H Q I h;refine W.methodCall_KW (pl:=pl) (thn (he pq s σ H _ I h) fun u s1 hz=>?_) ht;obtain ⟨x,H1,I1,rx,a,dx,fs,ex,ea,l,q⟩:=hz;subst ex;obtain rfl:u=Value.ref a:=rx;refine Rv I1 ea c hm l ?_;exact W.callWith_K0 (first:=[.ref a]) I1.kIn hm.kp (Zfk (us:=[.ref a]) (vs:=[.ref a]) F hr hb hd hx I1 (.cons rfl .nil) q)
structure Mk (K:W.Frag) (C f:Addr):Prop where
 makes:W.makesIn K C=true
 init:W.findIn K (.ref C) "__init__"=some (some (.ref f))
 fn:W.isFn K (.ref f)=true
 kp:W.keepIn K (.ref C)=true
theorem Zit (M:Mk X.K C f) (F:FnOk X.prog X.w X.K X.mg X.base CX k f fd ps sp) (hr:Room (k+1) X.A) (hb:U8 X.K fd ps ds) (hd:Vals dvs ds)
  (hx:Sy CX X E) (I:Inv X pq σ H s) (r:Vals vs us)
  (h:∀ x dx,H x=none->H dx=none->dx≠x->sp (.ref x::(vs++dvs)) (upd (upd H dx (.own x)) x (.ins C dx [])) (fun v H2=>v=.non/\Q (.ref x) H2) E) :
  wpAny (model X.prog X.w) X.A (call (.ref C) us) (EP X pq σ Q) X.xe s:=by
 have hq:=h (s.heap.objs.size+1) s.heap.objs.size (I.hok.fresh (Bj _)) (I.hok.fresh (Jd _)) (Gf (Bf _));have I2:=Inv.made (C:=C) I;have r2:Vals (V.ref (s.heap.objs.size+1)::(vs++dvs)) (Value.ref (s.heap.objs.size+1)::(us++ds)):=.cons rfl (r.append hd);have hl:(Value.ref (s.heap.objs.size+1)::us++ds).length=ps.length:=by
  have e:=r2.length;rw [F.len _ _ _ _ hq] at e;exact e.symm
 refine wpAny_call (Zi9 (f:=f) I.kIn M.makes M.init (beq_iff_eq.mp M.fn) (codeAny_mono (F.run _ X.stack _ _ ⟨Value.ref (s.heap.objs.size+1)::us,[]⟩ (Value.ref (s.heap.objs.size+1)::(us++ds)) _ _ E (hr.make C us [])
  (I2.env0.make C us []) (hb _ (Value.ref (s.heap.objs.size+1)::us) I2.kIn hl) r2 hq) fun r s' hq'=>?_))
 cases r with
 | error e=>exact hx pq σ _ _ e s' I2 hq'
 | ok fl =>
  cases fl with
  | ret u =>
   obtain ⟨v,H',I3,rv,ev,q3⟩:=I2.after hq';subst ev;exists rv,⟨V.ref (s.heap.objs.size+1),H',I3,rfl,q3⟩
  | next=>exact False.elim hq'
  | brk=>exact False.elim hq'
  | cont=>exact False.elim hq'
def Zmy (M:Mk X.K C f) (F:FnOk X.prog X.w X.K X.mg X.base CX k f fd ps sp) (hr:Room (k+1) X.A) (hg:Gl X x) (hm:X.mg x=some (.ref C)) (hb:U8 X.K fd ps ds) (hd:Vals dvs ds) (hx:Sy CX X E)
  (ha:PA X (e::es) t) (hdb:(x == ("__debug__":Str))=false:=by decide) (he:starEach (e::es) X.env=(false,eval e X.env)::starEach es X.env:=by rfl) (hpl:(backTo pos (starEach es X.env)).any (·.1)=false:=by rfl) :
  PE X (.Call (.Name x p) (e::es) [] pos) (Zlr C sp dvs E t):=by
 intro pq s σ H Q I h;refine wpAny_Call_Name_kw (Za5 I hg hm ?_ hdb);refine W.callWith_K (h₀:=X.base) I.ok.mod.kin M.kp (thn (ha pos pq s σ H _ I h) fun us s1 ⟨vs,H1,I1,r,q⟩=>⟨I1.kIn,?_⟩) he hpl;exact Zit M F hr hb hd hx I1 r q
end
structure FnScope (N P:List Str) (sc:Scope):Prop where
 kind:sc.kind=.function
 co:sc.isCoroutine=false
 gen:sc.isGenerator=false
 nd:N.Nodup
 pre:N.take P.length=P
 par:∀ x∈P,sc.names.lookup x=some .local\/sc.names.lookup x=some .cell
 nofree:∀ y∈sc.names,y.2≠.free
theorem Nt {kindOf:Str->Option NameKind} {x:Str}:∀ {binds:List (Str×Value)} {m:Str->Option Value},(∀ v,(x,v)∉binds)->bindL kindOf binds m x=m x
 | [],_,_=>rfl
 | (n,v)::r,m,h=>by
  unfold bindL;rw [Nt fun w hw=>h w (Jg _ hw)]
  split
  ·have:x≠n:=by rintro rfl; exact h v Jm
   simp [this]
  ·rfl
theorem Nv {kindOf:Str->Option NameKind} {x:Str}:∀ {binds:List (Str×Value)} {m:Str->Option Value},(∀ v,(x,v)∉binds)->bindC kindOf binds m x=m x
 | [],_,_=>rfl
 | (n,v)::r,m,h=>by
  unfold bindC;rw [Nv fun w hw=>h w (Jg _ hw)]
  split
  ·rfl
  ·have:x≠n:=by rintro rfl; exact h v Jm
   simp [this]
theorem Nu {kindOf:Str->Option NameKind} {x:Str} {v:Value}:∀ {P:List Str} {vs:List Value} {i:Nat} {m:Str->Option Value},P.Nodup->P[i]?=some x->vs[i]?=some v->kindOf x=some .local ->
  bindL kindOf (P.zip vs) m x=some v
 | [],_,_,_,_,h,_,_=>by simp at h
 | _::_,[],_,_,_,_,h,_=>by simp at h
 | p::P,w::vs,0,m,nd,h1,h2,hk=>by
  simp at h1 h2; subst h1; subst h2;show bindL kindOf ((p,w)::P.zip vs) m p=_;unfold bindL;rw [Nt fun v hv=>(Bs.mp nd).1 (Fk hv).1,F1 hk];simp
 | p::P,w::vs,i+1,m,nd,h1,h2,hk=>by
  show bindL kindOf ((p,w)::P.zip vs) m x=_;unfold bindL;exact Nu (i:=i) (Bs.mp nd).2 (by simpa using h1) (by simpa using h2) hk
theorem Nw {kindOf:Str->Option NameKind} {x:Str} {v:Value}:∀ {P:List Str} {vs:List Value} {i:Nat} {m:Str->Option Value},P.Nodup->P[i]?=some x->vs[i]?=some v->kindOf x≠some .local ->
  bindC kindOf (P.zip vs) m x=some v
 | [],_,_,_,_,h,_,_=>by simp at h
 | _::_,[],_,_,_,_,h,_=>by simp at h
 | p::P,w::vs,0,m,nd,h1,h2,hk=>by
  simp at h1 h2; subst h1; subst h2;show bindC kindOf ((p,w)::P.zip vs) m p=_;unfold bindC;rw [Nv fun v hv=>(Bs.mp nd).1 (Fk hv).1,F0 hk];simp
 | p::P,w::vs,i+1,m,nd,h1,h2,hk=>by
  show bindC kindOf ((p,w)::P.zip vs) m x=_;unfold bindC;exact Nw (i:=i) (Bs.mp nd).2 (by simpa using h1) (by simpa using h2) hk
def Uc (N:List Str) (vs:List V):St:=vs.map some++List.replicate (N.length-vs.length) none
def cxOf (CX:CXT) (P:Program) (w:World) (K:W.Frag) (mg:Str->Option Value) (base:Heap) (N:List Str) (qual:Str) (scope:Scope) (f:Addr) (cd:Value) (A:Around) (outer:List Env) (s:Shared) (H:Hp) (E:XK):Cx where
 prog:=P
 w:=w
 K:=K
 mg:=mg
 base:=base
 A:=A.deeper (envOfC qual scope s.heap.objs.size f cd)
 N:=N
 s₀:=s
 H₀:=H
 env:=envOfC qual scope s.heap.objs.size f cd
 outer:=outer
 stack:=envOfC qual scope s.heap.objs.size f cd::outer
 ex:=[]
 calm:=true
 fn:=fun _=>true
 pn:=[]
 xe:=fun e s'=>wpAny (model P w) (A.deeper (envOfC qual scope s.heap.objs.size f cd)) (leaving (envOfC qual scope s.heap.objs.size f cd) e) (fun _ s''=>CX outer H s E e s'') (fun e' s''=>CX outer H s E e' s'') s'
def Zda {sc:Scope} {n:Nat} {x:Str} (h:sc.names.lookup x=some .cell):∃ c,(cellsFrom n sc.names []).lookup x=some c:=by
 have q:=W.cellsFrom_some sc.names n [] (.inl h);exact Option.isSome_iff_exists.mp q
theorem Nb {scope:Scope} {f:Addr} {cd:Value} {outer:List Env} {s1:Shared} {E:XK} 
  (S:FnScope N ps scope) (hd:A.handled=none) (e0:Env0 P w K mg base A outer s H) (hl:vs.length=ps.length) (r:Vals vs us)
  (x:InCallC s s.heap.objs.size (bindL (envOfC qual scope s.heap.objs.size f cd).kindOf (ps.zip us) fun _=>none) (cellsFrom (s.heap.objs.size+1) scope.names []) (bindC (envOfC qual scope s.heap.objs.size f cd).kindOf (ps.zip us) fun _=>none) s1) :
  Inv (cxOf CX P w K mg base N qual scope f cd A outer s H E) [] (Uc N vs) H s1:=by
 have hpl:ps.length<=N.length:=by have:=congrArg List.length S.pre; rw [Jt] at this; lia
 obtain ⟨h1,tk,rfl,hk⟩:=x.done;have noA:∀ b:Addr,b∉(cxOf CX P w K mg base N qual scope f cd A outer s H E).ex:=fun b z=>Fs (show b∈([]:List Addr) from z) (by simp);refine ⟨⟨e0.mod,S.kind,rfl,rfl,Jd _,fun y z c h1 h2=>?_,fun y hy=>?_,fun y c _ h=>?_,fun _=>hd,Around.frames_deeper e0.frames,.inr ⟨rfl,rfl⟩,fun b z=>Fs z (noA b),e0.bs,e0.bsz,fun b _ _=>noA b,fun b z=>Fs z (noA b),e0.funs,e0.frf⟩,
  rfl,e0.bare,Un.kept hk,⟨_,x.toInCall.ns,fun i y v h1 h2 h3=>?_⟩,fun y c h=>⟨_,x.cell y c h⟩,e0.hok.fresh (Jd _),fun y c h=>?_,fun p hp=>Fs (show p∈([]:List (Addr×Obj)) from hp) (by simp),e0.hok.kept hk,?_⟩
 ·exact name_of_addr x.apart (PySem.mem_of_lookup h1) (PySem.mem_of_lookup h2)
 ·have hy:scope.names.lookup y=some .cell\/scope.names.lookup y=some .free:=hy;rcases hy with hy | hy
  ·exact Zda hy
  ·exact Fs rfl (S.nofree _ (PySem.mem_of_lookup hy))
 ·exact Bt (x.above y c (PySem.mem_of_lookup h))
 ·have hi:i<vs.length:=by
   unfold Uc at h2
   by_cases hi:i<vs.length
   ·exact hi
   ·rw [Go (by simpa using hi)] at h2;rw [List.getElem?_replicate] at h2
    split at h2 <;> cases h2
  have ha:vs[i]?=some v:=by
   unfold Uc at h2;rw [Jv (by simpa using hi),Gg] at h2;cases e:vs[i]? with
   | none=>rw [e] at h2; cases h2
   | some a=>rw [e] at h2; cases h2; rfl
  obtain ⟨u,hu,rv⟩:=r.get ha;have hp:ps[i]?=some y:=by
   rw [<- S.pre,List.getElem?_take_of_lt (by lia)]; exact h1
  have ndP:ps.Nodup:=by rw [<- S.pre]; exact S.nd.sublist (B9 _ _)
  exists u,rv,?_;rcases S.par y (Gv hp) with k | k
  ·exact .inl ⟨k,Nu ndP hp hu k⟩
  ·obtain ⟨c,e⟩:=Zda (n:=s.heap.objs.size+1) k;refine .inr ⟨.inl k,c,e,?_⟩;have q:=x.cell y c e;rw [Nw ndP hp hu (by show scope.names.lookup y≠_; rw [k]; decide)] at q;exact q
 ·exact e0.hok.fresh (Bt (x.above y c (PySem.mem_of_lookup h)))
 ·unfold Uc;show _=N.length;rw [Jc,Ja,List.length_replicate];lia
theorem Zrb {k:Nat} {f:Addr} {name:Str} {params:Arguments} {body:List Stmt} {scope:Scope} {dV kV:Value} 
  {osl:Array (Option Value)} {N ps:List Str} {sp:Sp} (lk:K.lookup f=some ⟨oc,od,.func (W.fnOf name qual params body scope dV kV doc pm an cdv ct),osl⟩) (hcd:W.codeIn K cdv qual=true) (S:FnScope N ps scope)
  (len:∀ vs H Q E,sp vs H Q E->vs.length=ps.length)
  (hbody:∀ (A:Around) (outer:List Env) (s:Shared) (H:Hp) (vs:List V) (Q:VK) (E:XK),Room k (A.deeper (envOfC qual scope s.heap.objs.size f cdv))->sp vs H Q E ->
   ∃ t,PSs (cxOf CX P w K mg base N qual scope f cdv A outer s H E) body t/\t { nx:=fun _ H'=>Q .non H',rt:=Q } (Uc N vs) H) :
  FnOk P w K mg base CX (k+1) f (W.fnOf name qual params body scope dV kV doc pm an cdv ct) ps sp:=by
 refine ⟨len,fun A outer s H args us vs Q E hr e0 hb r hsp=>?_⟩;have hl:=len _ _ _ _ hsp;have KX:K.In s.heap:=e0.mod.kin.keeps fun b o e=>(e0.bs b o e).1;have lim:s.heap.NoLimit:=e0.mod.nolimit.keeps fun b o e=>(e0.bs b o e).1;have hkind:∀ y∈ps.zip us,scope.names.lookup y.1=some .local\/(scope.names.lookup y.1=some .cell/\((cellsFrom (s.heap.objs.size+1) scope.names []).lookup y.1).isSome=true):=fun ⟨n,v⟩ hy=>by
  rcases S.par n (Fk hy).1 with q | q
  ·exact .inl q
  ·exact .inr ⟨q,W.cellsFrom_some _ _ _ (.inl q)⟩
 refine codeAny_call_function hr.depth (KX _ _ lk) rfl S.co S.gen rfl (W.codeRec_of KX hcd) (hb _ _ _ _ ?_);refine wpAny_newFunctionEnv_cells S.kind hkind fun env he s1 x=>?_;subst he;refine ⟨lim.keeps x.toInCall.keep,codeAny_func ?_⟩;obtain ⟨t,ht,hq⟩:=hbody A outer s H vs Q E (hr.deeper _) hsp;have I:Inv (cxOf CX P w K mg base N qual scope f cdv A outer s H E) [] (Uc N vs) H s1:=Nb S hr.hd e0 hl r x;refine F7 (ht [] s1 (Uc N vs) H _ I hq) (fun fl s' hs=>?_) fun e s' hs=>hs;have fin:∀ {σ':St} {H':Hp} {v:V} {u:Value},Inv (cxOf CX P w K mg base N qual scope f cdv A outer s H E) [] σ' H' s'->RelV v u->Q v H'->CE outer P w H s Q u s' :=
  fun {σ' H' v u} J rv q=>⟨v,H',J.os,J.bare,J.base,J.hok,rv,q⟩
 cases fl with
 | ret u =>
  obtain ⟨v,σ',H',J,rv,q⟩:=hs;exact fin J rv q
 | next =>
  obtain ⟨σ',H',J,q⟩:=hs;exact fin (v:=V.non) (u:=Value.none) J rfl q
 | brk =>
  obtain ⟨_,_,_,q⟩:=hs;exact False.elim q
 | cont =>
  obtain ⟨_,_,_,q⟩:=hs;exact False.elim q
section
variable {x:Str} {p:Pos} {e:Expr} {t:TA} {id T:String} {r:List V->Hp->VK->Prop}
def tCB (r:List V->Hp->VK->Prop) (t:TA):TE:=fun σ H Q=>t σ H fun vs H1=>r vs H1 Q
def Zh (hc:Vj X (.builtin id) r) (hg:Gl X x) (hm:X.mg x=none) (hv:bootBuiltins x=some (.builtin id)) (ha:PA X (e::es) t) (hn:x≠"__name__":=by decide) (hdb:(x == ("__debug__":Str))=false:=by decide)
  (he:starEach (e::es) X.env=(false,eval e X.env)::starEach es X.env:=by rfl) (hpl:(backTo pos (starEach es X.env)).any (·.1)=false:=by rfl):PE X (.Call (.Name x p) (e::es) [] pos) (tCB r t):=by
 intro pq s σ H Q I h;refine wpAny_Call_Name_kw (Rt I hg hm hv ?_ hn hdb);exact PyProof.Rows.callWith_builtin1 (thn (ha pos pq s σ H _ I h) fun us s1 ⟨vs,H1,I1,r1,q1⟩=>hc pq s1 σ H1 vs us Q I1 r1 q1) he hpl
def Zy (hc:Vj X (.type T) r) (hg:Gl X x) (hm:X.mg x=none) (hv:bootBuiltins x=some (.type T)) (ha:PA X (e::es) t) (hn:x≠"__name__":=by decide) (hdb:(x == ("__debug__":Str))=false:=by decide)
  (he:starEach (e::es) X.env=(false,eval e X.env)::starEach es X.env:=by rfl) (hpl:(backTo pos (starEach es X.env)).any (·.1)=false:=by rfl):PE X (.Call (.Name x p) (e::es) [] pos) (tCB r t):=by
 intro pq s σ H Q I h;refine wpAny_Call_Name_kw (Rt I hg hm hv ?_ hn hdb);exact PyProof.Rows.callWith_type1 (thn (ha pos pq s σ H _ I h) fun us s1 ⟨vs,H1,I1,r1,q1⟩=>hc pq s1 σ H1 vs us Q I1 r1 q1) he hpl
end
end L2
variable {H I H' I' H1:L2.Hp} {X:L2.Cx} {v y:L2.V} {σ:L2.St} {Q:L2.VK} {vs xs ys:List L2.V} {te ta tb to tv td:L2.TE} {sp:L2.Sp} {kvs:List (List L2.Key×L2.V)} {g:L2.TG} {wi:L2.TI} {CX:L2.CXT}
namespace HT
open PySem PyProof.Rows
def lexLt:List Int->List Int->Bool
 | [],[]=>false
 | [],_::_=>true
 | _::_,[]=>false
 | x::xs,y::ys=>if x=y then lexLt xs ys else decide (x<y)
def lexLt_cons (x y:Int) (xs ys:List Int):lexLt (x::xs) (y::ys)=if x=y then lexLt xs ys else decide (x<y):=rfl
def Qp:lexLt [] []=false:=rfl
def Vw (y:Int) (ys:List Int):lexLt [] (y::ys)=true:=rfl
def X9 (x:Int) (xs:List Int):lexLt (x::xs) []=false:=rfl
section
def cat_tup {t b:Addr} {vs ws:List Value} {Q:Value->Shared->Prop} (ht:IsTup s.heap t vs.toArray) (hb:IsTup s.heap b ws.toArray) (hv:vs≠[])
  (h1:ws=[]->Q (.ref t) s) (h2:ws≠[]->Q (.ref s.heap.objs.size) { s with heap:=s.heap.push { cls:=.type "tuple",data:=.seq (vs++ws).toArray } })
  (hsz:vs.length+ws.length<=sizeLine):wpAny (model prog w) A (binaryOp .Add (.ref t) (.ref b)) Q E s:=by
 obtain ⟨⟨cls,dd,data,sl⟩,ho,hc,n,hd⟩:=id ht;obtain ⟨⟨cls2,dd2,data2,sl2⟩,ho2,hc2,n2,hd2⟩:=id hb;simp only at hc hd hc2 hd2;subst hc hd hc2 hd2;have e:vs.toArray++ws.toArray=(vs++ws).toArray:=by simp
 by_cases hw:ws=[]
 ·exact concat_meets ⟨_,ho,rfl⟩ ⟨_,ho2,rfl⟩ noFill_tuple_add seq_tuple_add PySem.F.slot_tuple_add PySem.F.entry_tuple_add (PySem.F.args_tuple_add_2 _ _)
   (tuple_addW1 t b vs.toArray ws.toArray n n2 dd dd2 sl sl2 (by simpa using hv) (by simp [hw])) ⟨ho,ho2,h1 hw⟩
 ·refine concat_meets ⟨_,ho,rfl⟩ ⟨_,ho2,rfl⟩ noFill_tuple_add seq_tuple_add PySem.F.slot_tuple_add PySem.F.entry_tuple_add (PySem.F.args_tuple_add_2 _ _)
   (tuple_addW2 t b vs.toArray ws.toArray n n2 dd dd2 sl sl2 (by simpa using hv) (by simpa using hw) (by rw [Jn,Jn]; exact hsz)) ⟨ho,ho2,?_⟩
  rw [e];exact h2 hw
def sIx (n d:Nat):Option Int->Nat
 | none=>d
 | some v=>if v<0 then (v+(n:Int)).toNat else min v.toNat n
def sIx_none (n d:Nat):sIx n d none=d:=rfl
theorem sIx_nat (n d k:Nat):sIx n d (some (k:Int))=min k n:=by
 show (if (k:Int)<0 then ((k:Int)+(n:Int)).toNat else min (k:Int).toNat n)=min k n;rw [F0 (by lia),Int.toNat_natCast]
theorem Zp8 (n d:Nat) (hd:d<=n) (o:Option Int):sIx n d o<=n:=by
 cases o with
 | none=>exact hd
 | some v =>
  show (if v<0 then (v+(n:Int)).toNat else min v.toNat n)<=n
  by_cases hv:v<0
  ·rw [F1 hv]; lia
  ·rw [F0 hv]; exact Nat.min_le_right _ _
theorem Zhl (v:Int) (n d:Nat):(if v<0 then max (v+(n:Int)) 0 else min v (n:Int))=((sIx n d (some v):Nat):Int):=by
 show (if v<0 then max (v+(n:Int)) 0 else min v (n:Int))=(((if v<0 then (v+(n:Int)).toNat else min v.toNat n):Nat):Int)
 by_cases hv:v<0
 ·simp only [F1 hv]; lia
 ·simp only [F0 hv]; lia
theorem Zd5 (lo hi:Option Int) (n:Nat):Builtin.Slice.sliceAdjust lo hi 1 (n:Int)=(((sIx n 0 lo:Nat):Int),((sIx n n hi:Nat):Int)):=by
 have h1:¬ ((1:Int)<0):=by lia
 unfold Builtin.Slice.sliceAdjust;simp only [h1,if_false];refine Prod.ext ?_ ?_
 ·cases lo with
  | none=>rfl
  | some v=>exact Zhl v n 0
 ·cases hi with
  | none=>rfl
  | some v=>exact Zhl v n n
theorem Zdl (i j:Nat):Builtin.Slice.slicePlaces (i:Int) (j:Int) 1=j-i:=by
 unfold Builtin.Slice.slicePlaces;have h1:(1:Int) > 0:=by lia
 simp only [h1,if_true,Int.ediv_one]
 split <;> lia
theorem Rn {v:Value} {o:Option Int} {Q:Option Int->Shared->Prop} (p:IsPart v o) (h:Q o s):wpAny (model prog w) A (Builtin.Slice.slicePartIndex v) Q E s:=by
 cases p with
 | none=>exact slicePart_none h
 | int i t=>exact slicePart_int h
def sliceApplied_gen {sl:Addr} {vl vu:Value} {n:Nat} {Q:Int×Int×Nat->Shared->Prop} (hs:s.heap.IsSliceOf sl vl vu .none) (pl:IsPart vl lo) (pu:IsPart vu hi)
  (h:Q (((sIx n 0 lo:Nat):Int),1,sIx n n hi-sIx n 0 lo) s):wpAny (model prog w) A (Builtin.Slice.sliceApplied (.ref sl) (pure (n:Int))) Q E s:=by
 obtain ⟨os,hos,hcs,hds⟩:=id hs;unfold Builtin.Slice.sliceApplied Builtin.Slice.sliceFields;refine Fv (Fv (wpAny_field hos hds (x:=vl) rfl (Fv (wpAny_field hos hds (x:=vu) rfl (Fv (wpAny_field hos hds (x:=.none) rfl (Fw ?_)))))));refine Fv (slicePart_none ?_);show wpAny _ _ (if ((1:Int) == 0)=true then _ else _) _ _ s;rw [F0 nofun];refine Fv (Rn pl (Fv (Rn pu (Fv (Fw ?_)))));show wpAny _ _ (match Builtin.Slice.sliceAdjust lo hi 1 (n:Int) with | (lo,hi)=>pure (lo,(1:Int),Builtin.Slice.slicePlaces lo hi 1)) _ _ s;rw [Zd5 lo hi n];show wpAny _ _ (pure (((sIx n 0 lo:Nat):Int),(1:Int),Builtin.Slice.slicePlaces ((sIx n 0 lo:Nat):Int) ((sIx n n hi:Nat):Int) 1)) _ _ s
 rw [Zdl];exact Fw h
theorem Ziw (xs:Array Value) (i k:Nat):((List.range k).filterMap fun (m:Nat)=>xs[((i:Int)+(m:Int)*1).toNat]?).toArray=((xs.toList.drop i).take k).toArray:=by
 have e:(fun (m:Nat)=>xs[((i:Int)+(m:Int)*1).toNat]?)=fun m=>xs[i+m]?:=by
  funext m
  have:((i:Int)+(m:Int)*1).toNat=i+m:=by lia
  rw [this]
 rw [e];have:=pick_run xs i k;rw [List.filterMap_map] at this;have e2:((fun x=>xs[x]?) ∘ fun x=>i+x)=fun m=>xs[i+m]?:=rfl;rw [e2] at this;rw [this]
theorem getItem_tuple_cut {t sl:Addr} {vl vu:Value} {Q:Value->Shared->Prop} (ht:IsTup s.heap t items) (hs:s.heap.IsSliceOf sl vl vu .none) (pl:IsPart vl lo) (pu:IsPart vu hi)
  (hw:¬ (sIx items.size 0 lo=0/\sIx items.size items.size hi=items.size))
  (h:Q (.ref s.heap.objs.size) { s with heap:=s.heap.push { cls:=.type "tuple",data:=.seq ((items.toList.drop (sIx items.size 0 lo)).take (sIx items.size items.size hi-sIx items.size 0 lo)).toArray } })
  (hsz:items.size<=sizeLine):wpAny (model prog w) A (getItem (.ref t) (.ref sl)) Q E s:=by
 have htake:sizeOk (.seq ((items.toList.drop (sIx items.size 0 lo)).take (sIx items.size items.size hi-sIx items.size 0 lo)).toArray):=by
  show ((items.toList.drop (sIx items.size 0 lo)).take (sIx items.size items.size hi-sIx items.size 0 lo)).toArray.size<=sizeLine;rw [Jn,Jt,Jj,Ba];lia
 have hj:sIx items.size items.size hi<=items.size:=Zp8 _ _ (Jd _) hi;obtain ⟨os,hos,hcs,hds⟩:=id hs;have hTs:s.TypeIs (.ref sl) "slice":=⟨os,hos,hcs⟩;unfold getItem
 try with_reducible refine wpAny_holding ?_
 first | refine Fv (Fw ?_) | skip
 refine Fv (wpAny_sequenceKey ht.typeIs nofun ?_);refine Fv (wpAny_callSpecial?_slot (name:=Str.ofString "__getitem__") ht.typeIs PyProof.Rows.slot_tuple_getitem
  (wpAny_call_entry PyProof.Rows.slot_tuple_getitem ht.typeIs entry_tuple_getitem ?_ (args_tuple_getitem _ _)))
 show wpAny _ _ (Builtin.Tuple.tupleItemsOf (.ref t) >>= _) _ _ s;refine Fv (tupleItemsOf_ ht ?_);refine Fv (wpAny_typeOf hTs ?_);rw [F1 nofun];refine Fv (sliceApplied_gen hs pl pu ?_);have hno:¬ ((((sIx items.size 0 lo:Nat):Int) == 0 && (1:Int) == 1 && (sIx items.size items.size hi-sIx items.size 0 lo) == items.size)=true):=by
  intro q;rw [Gy,Gy] at q;have q1:((sIx items.size 0 lo:Nat):Int)=0:=eq_of_beq q.1.1;have q2:sIx items.size items.size hi-sIx items.size 0 lo=items.size:=eq_of_beq q.2;exact hw ⟨by lia,by lia⟩
 show wpAny _ _ (if (((sIx items.size 0 lo:Nat):Int) == 0 && (1:Int) == 1 && (sIx items.size items.size hi-sIx items.size 0 lo) == items.size)=true then _ else _) _ _ s;rw [F0 hno,Ziw]
 first
  | exact Fv (m:=Builtin.Tuple.tupleExact _) (wpAny_newObj_type (Fw ⟨_,rfl,Fw h⟩) htake)
  | exact Fv (m:=Builtin.Tuple.tupleExact _) (wpAny_newObj_type (Fv (Fw (Fw ⟨_,rfl,Fw h⟩))) htake)
  | exact Fv (Fv (m:=Builtin.Tuple.tupleExact _) (wpAny_newObj_type (Fw (Fw ⟨_,rfl,Fw h⟩)) htake))
  | exact Fv (Fv (m:=Builtin.Tuple.tupleExact _) (wpAny_newObj_type (Fw ⟨_,rfl,Fw h⟩) htake))
end
end HT
namespace L2
open PySem PySem.Spec PyProof.Rows
abbrev TO:=St->Hp->(Option Int->Hp->Prop)->Prop
def PO (X:Cx) (e:Option Expr) (t:TO):Prop :=
 ∀ (pq:List (Addr×Obj)) (s:Shared) (σ:St) (H:Hp) (Q:Option Int->Hp->Prop),Inv X pq σ H s->t σ H Q ->
  wpAny (model X.prog X.w) X.A (evalPart e X.env) (fun u s'=>∃ o H',Inv X pq σ H' s'/\IsPart u o/\Q o H') X.xe s
def Zeq:TO:=fun _ H Q=>Q none H
def Zo3 (t:TE):TO:=fun σ H Q=>t σ H fun x H1=>∃ i,x=.int i/\Q (some i) H1
section
variable {e:Expr} {lo hi:Option Expr} {tl th:TO} {p2:Pos}
def Ya:PO X none Zeq:=by
 intro pq s σ H Q I h;rw [evalPart_none];exact Fw ⟨none,H,I,.none,h⟩
def Z5 (h:PE X e te):PO X (some e) (Zo3 te):=by
 intro pq s σ H Q I hw;rw [evalPart_some];refine thn (h pq s σ H _ I hw) fun u s1 hz=>?_;obtain ⟨x,H1,I1,r1,q1⟩:=hz;obtain ⟨i,rfl,q⟩:=q1;obtain ⟨t,rfl⟩:=r1;exists some i,H1,I1,.int i t,q
def SlR (X:Cx) (r:V->Option Int->Option Int->Hp->VK->Prop):Prop :=
 ∀ (pq:List (Addr×Obj)) (s:Shared) (σ:St) (H:Hp) (x:V) (v vl vu:Value) (lo hi:Option Int) (sl:Addr) (Q:VK),Inv X pq σ H s->RelV x v->s.heap.IsSliceOf sl vl vu .none->IsPart vl lo->IsPart vu hi->r x lo hi H Q ->
  ∃ T id,typeLookup (.type T) "__getitem__"=pure (some (.builtin id))/\s.TypeIs v T/\wpAny (model X.prog X.w) X.A (getItem v (.ref sl)) (EP X pq σ Q) X.xe s
def tSl (r:V->Option Int->Option Int->Hp->VK->Prop) (te:TE) (tl th:TO):TE:=fun σ H Q=>te σ H fun x H1=>tl σ H1 fun l H2=>th σ H2 fun u H3=>r x l u H3 Q
def Z0 {r:V->Option Int->Option Int->Hp->VK->Prop} (hr:SlR X r) (he:PE X e te) (hl:PO X lo tl) (hu:PO X hi th):PE X (.Subscript e (.Slice lo hi none p2) pos) (tSl r te tl th):=by
 intro pq s σ H Q I h;refine Subscript_ (thn (he pq s σ H _ I h) fun v s1 hz=>?_);obtain ⟨x,H1,I1,r1,q1⟩:=hz;refine wpAny_Slice (thn (hl pq s1 σ H1 _ I1 q1) fun vl s2 ⟨l,H2,I2,pl,q2⟩=>thn (hu pq s2 σ H2 _ I2 q2) fun vu s3 hz=>?_);obtain ⟨u,H3,I3,pu,q3⟩:=hz;rw [evalPart_none];refine Fw ?_;have I4:Inv X pq σ H3 { s3 with heap:=s3.heap.push { cls:=.type "slice",data:=.fields #[vl,vu,.none] } }:=I3.kept (t':=s3.toks) fun b ob q=>Fx _ q;obtain ⟨T,id,hT,ht,hg⟩:=hr pq { s3 with heap:=s3.heap.push { cls:=.type "slice",data:=.fields #[vl,vu,.none] } } σ H3 x v vl vu l u s3.heap.objs.size Q I4 r1 (Heap.IsSliceOf.new ..) pl pu q3
 show wpAny (model X.prog X.w) X.A (subscriptTail e (.Slice lo hi none p2) v (.ref s3.heap.objs.size)) (EP X pq σ Q) X.xe { s3 with heap:=s3.heap.push { cls:=.type "slice",data:=.fields #[vl,vu,.none] } };exact tail_any (ops:=[.ref s3.heap.objs.size,v]) ht hT hg (by with_unfolding_all rfl)
def cutV (xs:List V) (lo hi:Option Int):List V:=(xs.drop (HT.sIx xs.length 0 lo)).take (HT.sIx xs.length xs.length hi-HT.sIx xs.length 0 lo)
theorem V5 (xs:List V) (lo hi:Option Int):(cutV xs lo hi).length<=xs.length:=by
 unfold cutV;rw [Jt,Jj];lia
def rSlT (K:W.Frag):V->Option Int->Option Int->Hp->VK->Prop:=fun x lo hi H Q=>∃ a xs,x=.ref a/\SqT K H a xs /\
 ¬ (HT.sIx xs.length 0 lo=0/\HT.sIx xs.length xs.length hi=xs.length)/\∀ p,H p=none->Q (.ref p) (upd H p (.tup (cutV xs lo hi)))
def Zpk:SlR X (rSlT X.K):=by
 intro pq s σ H x v vl vu lo hi sl Q I rx hs pl pu h;obtain ⟨a,xs,rfl,hx,hw,q⟩:=h;cases rx;obtain ⟨its,r,ht,hz⟩:=I.tuple hx;have hlen:its.toArray.size=xs.length:=by rw [Jn]; exact r.length.symm
 exists "tuple",_,PyProof.Rows.slot_tuple_getitem.lookup,ht.typeIs,?_;refine HT.getItem_tuple_cut ht hs pl pu (by rw [hlen]; exact hw) ?_ (by rw [hlen]; exact hz);rw [hlen];exists .ref s.heap.objs.size,_,I.laid (t':=s.toks) (o:=.tup (cutV xs lo hi)) (fun b ob q=>Fx _ q) (Jd _) ?_,rfl,q _ (I.hok.fresh (Jd _));exists J8 (V5 xs lo hi) hz,_,(r.drop (HT.sIx xs.length 0 lo)).take (HT.sIx xs.length xs.length hi-HT.sIx xs.length 0 lo),Vi.new _ _
def Zmh (K:W.Frag):R2:=fun x y H Q=>∃ a b xs ys,x=.ref a/\y=.ref b/\SqT K H a xs/\SqT K H b ys/\xs≠[]/\xs.length+ys.length<=sizeLine /\
 (ys=[]->Q (.ref a) H)/\(ys≠[]->∀ p,H p=none->Q (.ref p) (upd H p (.tup (xs++ys))))
theorem Vals.nil_iff (r:Vals xs us):us=[]↔xs=[]:=by
 cases r with
 | nil=>simp
 | cons _ _=>simp
def Zf5:OpR X (binaryOp .Add) (Zmh X.K):=by
 intro pq s σ H x y v u Q I rx ry h;obtain ⟨a,b,xs,ys,rfl,rfl,ha,hb,hx,hz,q1,q2⟩:=h;cases rx;cases ry;obtain ⟨its,r1,p1,_⟩:=I.tuple ha;obtain ⟨its2,r2,p2,_⟩:=I.tuple hb;refine HT.cat_tup p1 p2 (fun z=>hx (r1.nil_iff.mp z)) (fun z=>⟨.ref a,H,I,rfl,q1 (r2.nil_iff.mp z)⟩) (fun z=>?_) (by rw [<- r1.length,<- r2.length]; exact hz);exists .ref s.heap.objs.size,_,I.laid (t':=s.toks) (o:=.tup (xs++ys)) (fun b ob q=>Fx _ q) (Jd _) ?_,rfl,q2 (fun w=>z (r2.nil_iff.mpr w)) _ (I.hok.fresh (Jd _));exists by rw [Jc]; exact hz,_,r1.append r2,Vi.new _ _
end
def ixN (n:Nat) (i:Int):Option Nat:=if 0<=i then (if i<n then some i.toNat else none) else if -(n:Int)<=i then some (i+n).toNat else none
def atI {α:Type} (xs:List α) (i:Int):Option α:=(ixN xs.length i).bind fun j=>xs[j]?
theorem Zgr {n:Nat} {i:Int} (h:ixN n i=some j):seqIndex? i n=some j/\j<n/\-(n:Int)<=i/\i<n:=by
 unfold ixN at h
 by_cases h0:0<=i
 ·rw [F1 h0] at h
  by_cases h1:i<n
  ·rw [F1 h1] at h;have e:i.toNat=j:=F5 h;exists by rw [seqIndex_of h0 h1,e],by lia,by lia,h1
  ·rw [F0 h1] at h; cases h
 ·rw [F0 h0] at h
  by_cases h1:-(n:Int)<=i
  ·rw [F1 h1] at h;have e:(i+n).toNat=j:=F5 h;exact ⟨by rw [seqIndex_neg (by lia) h1,e],by lia,h1,by lia⟩
  ·rw [F0 h1] at h; cases h
theorem Zbk {α:Type} {xs:List α} {i:Int} {v:α} (h:atI xs i=some v):∃ j,seqIndex? i xs.length=some j/\xs[j]?=some v/\j<xs.length/\-(xs.length:Int)<=i/\i<xs.length:=by
 unfold atI at h;cases e:ixN xs.length i with
 | none=>rw [e] at h; cases h
 | some j =>
  rw [e] at h;obtain ⟨h1,h2,h3,h4⟩:=Zgr e;exists j,h1,h,h2,h3,h4
theorem Wa {α:Type} {xs:List α} {v:α} (h:xs[j]?=some v):atI xs (j:Int)=some v:=by
 have hj:j<xs.length:=(Je.mp h).1;have e:ixN xs.length (j:Int)=some j:=by
  unfold ixN;rw [F1 (by lia),F1 (by lia)]; simp
 unfold atI; rw [e]; exact h
def Zn5 (b:Expr):Prop:=∀ o i,subscripted b false o i=operate [o,i] (getItem o i)
def IxR (X:Cx) (r:R2):Prop :=
 ∀ (value slice:Expr) (pq:List (Addr×Obj)) (s:Shared) (σ:St) (H:Hp) (x y:V) (v u:Value) (Q:VK),Inv X pq σ H s->RelV x v->RelV y u->r x y H Q ->
  subscripted slice false v u=operate [v,u] (getItem v u)->wpAny (model X.prog X.w) X.A (subscriptTail value slice v u) (EP X pq σ Q) X.xe s
def MtR (X:Cx) (id:String) (r:V->List V->Hp->VK->Prop):Prop :=
 ∀ (pq:List (Addr×Obj)) (s:Shared) (σ:St) (H:Hp) (x:V) (xs:List V) (v:Value) (us:List Value) (Q:VK),Inv X pq σ H s->RelV x v->Vals xs us->r x xs H Q ->
  wpAny (model X.prog X.w) X.A (call (.builtin id) (v::us)) (EP X pq σ Q) X.xe s
section
variable {a b:Expr} 
def IxR.or {r r':R2} (h:IxR X r) (h':IxR X r'):IxR X (fun x y H Q=>r x y H Q\/r' x y H Q):=by
 intro value slice pq s σ H x y v u Q I rx ry q hs;rcases q with q | q
 ·exact h value slice pq s σ H x y v u Q I rx ry q hs
 ·exact h' value slice pq s σ H x y v u Q I rx ry q hs
def Zs {r:R2} (hr:IxR X r) (ha:PE X a ta) (hb:PE X b tb) (hs:Zn5 b):PE X (.Subscript a b pos) (tOp r ta tb):=by
 intro pq s σ H Q I h;exact Subscript_ (binT ha hb I h fun v u s2 x y H2 I2 rx ry q=>hr a b pq s2 σ H2 x y v u Q I2 rx ry q (hs _ _))
def rIxL (K:W.Frag):R2:=fun x y H Q=>∃ p xs i v,x=.ref p/\y=.int i/\SqL K H p xs/\atI xs i=some v/\Q v H
def rIxT (K:W.Frag):R2:=fun x y H Q=>∃ p xs i v,x=.ref p/\y=.int i/\SqT K H p xs/\atI xs i=some v/\Q v H
def rIxS:R2:=fun x y H Q=>∃ z i c,x=.str z/\y=.int i/\z.length<=sizeLine/\atI z.cps.toList i=some c/\Q (.str ⟨#[c]⟩) H
theorem Y8:IxR X (rIxL X.K):=by
 intro value slice pq s σ H x y v u Q I rx ry h hs;obtain ⟨p,xs,i,z,rfl,rfl,hq,he,q⟩:=h;cases rx;obtain ⟨t,rfl⟩:=ry;obtain ⟨its,r,pl,hz⟩:=I.list hq;obtain ⟨j,h1,h2,h3,h4,h5⟩:=Zbk he;obtain ⟨w,ew,rw'⟩:=r.get h2;have hl:=r.length;have hn:=Rs;have fin:EP X pq σ Q w s:=⟨z,H,I,rw',q⟩
 by_cases h0:0<=i
 ·have hj:i.toNat=j:=by
   rw [seqIndex_of h0 h5] at h1;exact F5 h1
  exact item_listR pl.isList h0 (by lia) (by rw [hj]; simpa using ew) fin hs
 ·have hj:(i+(its.toArray.size:Int)).toNat=j:=by
   rw [seqIndex_neg (by lia) h4] at h1;rw [Jn,<- hl];exact F5 h1
  exact subscriptTail_builtinR (x:=w) pl.isList.typeIs slot_list_getitem.lookup
   (wpAny_getItem_list_neg (Q:=fun r s'=>r=w/\EP X pq σ Q r s') pl.isList (by lia) (by rw [Jn] <;> lia) (by lia) (by rw [hj]; simpa using ew) ⟨rfl,fin⟩) hs
theorem Ul:IxR X (rIxT X.K):=by
 intro value slice pq s σ H x y v u Q I rx ry h hs;obtain ⟨p,xs,i,z,rfl,rfl,hq,he,q⟩:=h;cases rx;obtain ⟨t,rfl⟩:=ry;obtain ⟨its,r,pl,hz⟩:=I.tuple hq;obtain ⟨j,h1,h2,h3,h4,h5⟩:=Zbk he;obtain ⟨w,ew,rw'⟩:=r.get h2;have hl:=r.length;have hn:=Rs;have fin:EP X pq σ Q w s:=⟨z,H,I,rw',q⟩;exact subscriptTail_builtinR (x:=w) pl.typeIs slot_tuple_getitem.lookup
  (getItem_tuple (j:=j) (Q:=fun r s'=>r=w/\EP X pq σ Q r s') pl (by lia) (by lia) (by rw [Jn,<- hl]; exact h1) (by simpa using ew) ⟨rfl,fin⟩) hs
theorem Zq1:IxR X rIxS:=by
 intro value slice pq s σ H x y v u Q I rx ry h hs;obtain ⟨z,i,c,rfl,rfl,hz,he,q⟩:=h;obtain ⟨t,rfl⟩:=rx;obtain ⟨t',rfl⟩:=ry;obtain ⟨j,h1,h2,h3,h4,h5⟩:=Zbk he;have hl:z.cps.toList.length=z.length:=by simp [Str.length]
 rw [hl] at h1 h4 h5;have hn:=Rs;exact tail_any (typeIs_str s z t) slot_str_getitem.lookup (getItem_str (c:=c) (by
  have e1:decide (i < -(2 ^ 63:Int))=false:=F3 (by lia);have e2:decide (i≥2 ^ 63)=false:=F3 (by lia);rw [e1,e2,Bool.or_false]) (by rw [h1]; simpa using h2) ⟨.str ⟨#[c]⟩,H,I.tok _,⟨_,rfl⟩,q⟩) hs
def rIx (K:W.Frag):R2:=fun x y H Q=>rIxL K x y H Q\/rIxT K x y H Q\/rIxS x y H Q
def Zq2:IxR X (rIx X.K):=Y8.or (Ul.or Zq1)
def Zdq (its:List Value) (n j:Nat) (u:Value):Obj.mapSeq (·.setIfInBounds j u) { cls:=.type "list",data:=.seq its.toArray n }={ cls:=.type "list",data:=.seq (its.set j u).toArray n }:=by
 simp [Obj.mapSeq]
def Inv.lst {p:Addr} (I:Inv X pq σ H s) (h:H p=some (.lst xs)) :
  ∃ (its:List Value) (n:Nat),Vals xs its/\s.heap.get? p=some { cls:=.type "list",data:=.seq its.toArray n }/\xs.length<=sizeLine:=by
 obtain ⟨z,its,n,r,e⟩:=I.hok p _ h;exists its,n,r,e,z
def Inv.lstUpd {p:Addr} {its':List Value} {n n':Nat} {f:Obj->Obj} (I:Inv X pq σ H s) (h:H p=some (.lst xs))
  (ho:s.heap.get? p=some { cls:=.type "list",data:=.seq its.toArray n }) (hf:f { cls:=.type "list",data:=.seq its.toArray n }={ cls:=.type "list",data:=.seq its'.toArray n' }) (r:Vals ys its') (hz:ys.length<=sizeLine) (t:Nat) :
  Inv X pq σ (upd H p (.lst ys)) { s with heap:=s.heap.update p f,toks:=t }:=by
 have e:(s.heap.update p f).get? p=some { cls:=.type "list",data:=.seq its'.toArray n' }:=by
  rw [Heap.get?_update_self f ho (by rw [hf] <;> rfl),hf]
 refine I.write (x:=p) (e:=p) (by rw [h]; trivial) (.inl rfl) (fun b u hb q=>(Heap.get?_update_other _ _ (Ne.symm hb)).trans q) ⟨_,e⟩ ?_;exists hz,its',n',r,e
def Zs5:V->V->V->Hp->(Hp->Prop)->Prop:=fun o i v H Q=>∃ p xs k j,o=.ref p/\i=.int k/\H p=some (.lst xs)/\ixN xs.length k=some j/\Q (upd H p (.lst (xs.set j v)))
theorem Zb1:PSet X Zs5:=by
 intro pq s σ H o i v ov iv u Q I ro ri rv h;obtain ⟨p,xs,k,j,rfl,rfl,hp,hj,q⟩:=h;cases ro;obtain ⟨t,rfl⟩:=ri;obtain ⟨its,n,r,ho,hz⟩:=I.lst hp;obtain ⟨h1,h2,h3,h4⟩:=Zgr hj;have hl:=r.length;have hn:=Rs;have I':Inv X pq σ (upd H p (.lst (xs.set j v))) { s with heap:=s.heap.update p (Obj.mapSeq (·.setIfInBounds j u)) } :=
  I.lstUpd hp ho (Zdq its n j u) (r.set rv j) (by rw [Bk]; exact hz) s.toks
 by_cases h0:0<=k
 ·have hk:k.toNat=j:=by
   rw [seqIndex_of h0 h4] at h1;exact F5 h1
  exact W.ki_setAt ho h0 (by lia) (by rw [Jn,<- hl]; exact h4) (by rw [hk]; exact ⟨_,I',q⟩)
 ·have hk:(k+(its.toArray.size:Int)).toNat=j:=by
   rw [seqIndex_neg (by lia) h3] at h1;rw [Jn,<- hl];exact F5 h1
  exact W.ki_setBack ho (by lia) (by rw [Jn,<- hl]; exact h3) (by lia) (by rw [hk]; exact ⟨_,I',q⟩)
theorem Pl (lo hi:Option Int) (n:Nat):(sliceBounds lo hi none n).1=((HT.sIx n 0 lo:Nat):Int)/\(sliceBounds lo hi none n).2.1=((HT.sIx n n hi:Nat):Int)/\(sliceBounds lo hi none n).2.2=1:=by
 exists ?_,?_,rfl
 ·cases lo with
  | none=>simp [sliceBounds,HT.sIx]
  | some i =>
   simp only [sliceBounds,HT.sIx,Option.getD_none,show (1:Int) > 0 by decide,if_true]
   by_cases h:i<0
   ·simp only [h,if_true] <;> lia
   ·simp only [h,if_false] <;> lia
 ·cases hi with
  | none=>simp [sliceBounds,HT.sIx]
  | some i =>
   simp only [sliceBounds,HT.sIx,Option.getD_none,show (1:Int) > 0 by decide,if_true]
   by_cases h:i<0
   ·simp only [h,if_true] <;> lia
   ·simp only [h,if_false] <;> lia
def Qb (its:List Value) (lo hi:Option Int):slicePick its.toArray lo hi none=((its.drop (HT.sIx its.length 0 lo)).take (HT.sIx its.length its.length hi-HT.sIx its.length 0 lo)).toArray:=by
 obtain ⟨h1,h2,h3⟩:=Pl lo hi its.toArray.size;unfold slicePick;rw [h1,h2,h3];simp only [sliceRange_one,pick_run,Jn] <;> rfl
def rSlL (K:W.Frag):V->Option Int->Option Int->Hp->VK->Prop:=fun x lo hi H Q=>∃ a xs,x=.ref a/\SqL K H a xs/\∀ p,H p=none->Q (.ref p) (upd H p (.lst (cutV xs lo hi)))
theorem Zag:SlR X (rSlL X.K):=by
 intro pq s σ H x v vl vu lo hi sl Q I rx hs pl pu h;obtain ⟨a,xs,rfl,hx,q⟩:=h;cases rx;obtain ⟨its,r,ht,hz⟩:=I.list hx;have hlen:=r.length;refine ⟨"list",_,slot_list_getitem.lookup,ht.isList.typeIs,?_⟩;refine wpAny_getItem_list_slice ht.isList hs pl pu .none (by simp) ?_ (by rw [Jn] <;> lia);rw [Qb,<- hlen];refine ⟨.ref s.heap.objs.size,_,I.laid (t':=s.toks) (o:=.lst (cutV xs lo hi)) (fun b ob q=>Fx _ q) (Jd _) ?_,rfl,q _ (I.hok.fresh (Jd _))⟩;exact ⟨J8 (V5 xs lo hi) hz,_,0,(r.drop (HT.sIx xs.length 0 lo)).take (HT.sIx xs.length xs.length hi-HT.sIx xs.length 0 lo),Fy _ rfl⟩
theorem Td:Vj X (.type "list") (fun xs H Q=>∃ p ys,xs=[.ref p]/\(SqL X.K H p ys\/SqT X.K H p ys)/\∀ l,H l=none->Q (.ref l) (upd H l (.lst ys))):=by
 intro pq s σ H xs us Q I r h;obtain ⟨p,ys,rfl,hq,q⟩:=h;obtain ⟨u,rfl,rx⟩:=Rc r;cases rx;have fin:∀ (its:List Value),Vals ys its->ys.length<=sizeLine->∀ (h':Heap) (c':Nat),(∀ b o',s.heap.get? b=some o'->h'.get? b=some o') ->
   h'.get? s.heap.objs.size=some { cls:=.type "list",dict:=none,data:=.seq its.toArray c',slots:=#[] }->EP X pq σ Q (.ref s.heap.objs.size) { s with heap:=h' }:=fun its r' hz h' c' kp e =>
  ⟨.ref s.heap.objs.size,_,I.laid (t':=s.toks) kp (Jd _) (show Y9 X.prog X.w _ h' _ (.lst ys) from ⟨hz,its,c',r',e⟩),rfl,q _ (I.hok.fresh (Jd _))⟩
 rcases hq with hq | hq
 ·obtain ⟨its,r',pl,hz⟩:=I.list hq;have hlen:=r'.length;obtain ⟨o,ho,hc,n,hd⟩:=pl.isList;exact call_list_seq p (.inl rfl) ho hc hd (fun h' c' kp e=>fin its r' hz h' c' kp e) (by simp only [Jn] <;> lia)
 ·obtain ⟨its,r',pl,hz⟩:=I.tuple hq;have hlen:=r'.length;obtain ⟨o,ho,hc,n,hd⟩:=pl;exact call_list_seq p (.inr rfl) ho hc hd (fun h' c' kp e=>fin its r' hz h' c' kp e) (by simp only [Jn] <;> lia)
theorem Xm:Vj X (.type "tuple") (fun xs H Q=>∃ p ys,xs=[.ref p]/\((SqL X.K H p ys/\∀ l,H l=none->Q (.ref l) (upd H l (.tup ys)))\/(SqT X.K H p ys/\Q (.ref p) H))):=by
 intro pq s σ H xs us Q I r h;obtain ⟨p,ys,rfl,h⟩:=h;obtain ⟨u,rfl,rx⟩:=Rc r;cases rx;rcases h with ⟨hq,q⟩ | ⟨hq,q⟩
 ·obtain ⟨its,r',pl,hz⟩:=I.list hq;have hlen:=r'.length;refine call_tuple_list pl.isList (fun h' kp=>?_) (by simp only [Jn] <;> lia);have I1:Inv X pq σ H { s with heap:=h' }:=I.kept (t':=s.toks) kp;have I2:Inv X pq σ (upd H h'.objs.size (.tup ys)) { s with heap:=h'.push { cls:=.type "tuple",data:=.seq its.toArray } } :=
   I1.laid (t':=s.toks) (fun b o e=>Fx _ e) (Jd _) (show Y9 X.prog X.w _ _ _ (.tup ys) from ⟨hz,its,r',Vi.new _ _⟩)
  exists .ref h'.objs.size,_,I2,rfl,q _ (I1.hok.fresh (Jd _))
 ·obtain ⟨its,r',pl,hz⟩:=I.tuple hq;exact call_tuple_same pl ⟨.ref p,H,I,rfl,q⟩
def tyV (K:W.Frag) (T:String) (x:V) (H:Hp):Prop:=match x with
 | .str _=>T="str"
 | .int _=>T="int"
 | .ref p=>(T="list"/\∃ xs,SqL K H p xs)\/(T="tuple"/\∃ o,K.lookup p=some o/\o.cls=.type "tuple"/\o.dict=none) \/
   (T="dict"/\((∃ kvs,H p=some (.dK kvs))\/∃ kvs,H p=some (.dT kvs)))\/(T="set"/\∃ S n,H p=some (.set S n))
 | _=>False
theorem Zox {T:String} {x:V} {v:Value} (I:Inv X pq σ H s) (r:RelV x v) (ty:tyV X.K T x H) :
  s.TypeIs v T/\∀ a,v=.ref a->∃ ob,s.heap.get? a=some ob/\ob.dict=none:=by
 cases x with
 | str z =>
  obtain ⟨t,rfl⟩:=r;cases (show T="str" from ty);exists typeIs_str s z t,fun _ e=>nomatch e
 | int i =>
  obtain ⟨t,rfl⟩:=r;cases (show T="int" from ty);exists typeIs_int s i t,fun _ e=>nomatch e
 | ref p =>
  cases r;rcases ty with ⟨rfl,xs,hq⟩ | ⟨rfl,o,hk,hc,hd⟩ | ⟨rfl,hk⟩ | ⟨rfl,S,n,hk⟩
  ·obtain ⟨its,_,pl,_⟩:=I.list hq;exists pl.isList.typeIs,fun a e=>?_;cases e;obtain ⟨o,n,e,c,hd,_⟩:=pl;exists o,e,hd
  ·exists ⟨o,I.kIn p o hk,hc⟩,fun a e=>?_;cases e;exists o,I.kIn _ o hk,hd
  ·have z:∃ o,s.heap.get? p=some o/\o.ExactDict:=by
    rcases hk with ⟨kvs,hk⟩ | ⟨kvs,hk⟩
    ·obtain ⟨_,_,_,_,o,_,_,e,ex,_⟩:=I.hok p _ hk;exists o,e,ex
    ·obtain ⟨_,_,_,_,o,_,_,e,ex,_⟩:=I.hok p _ hk;exists o,e,ex
   obtain ⟨o,e,ex⟩:=z;exists ⟨o,e,ex.1⟩,fun a e2=>?_;cases e2;exists o,e,ex.2.1
  ·obtain ⟨o,_,_,_,e,ex,_⟩:=I.hok p _ hk;exists ⟨o,e,ex.1⟩,fun a e2=>?_;cases e2;exists o,e,ex.2.1
 | _=>exact False.elim ty
def tBM (K:W.Frag) (T:String) (r:V->List V->Hp->VK->Prop) (to:TE) (t:TA):TE:=fun σ H Q=>to σ H fun x H1=>tyV K T x H1/\t σ H1 fun xs H2=>r x xs H2 Q
variable {o e:Expr} {t:TA} {name:Str} {T id:String} {r:V->List V->Hp->VK->Prop}
def Zav (pa:PlainAttrs T) (slot:Slot T name id) (hty:typeOf (.builtin id)=pure (.type "method_descriptor")) (hm:MtR X id r) (ho:PE X o to) (ha:PA X (e::es) t)
  (hbase:attributeBase o name X.env (eval o X.env)=eval o X.env:=by rfl)
  (hfew:((backTo cpos (starEach (e::es) X.env)).all (fun x=>!x.1) && (backToKw cpos (keywordEach [] X.env)).all (fun x=>x.1.isSome)
   && decide ((e::es).length+([]:List Keyword).length+(if ([]:List Keyword).isEmpty then 0 else 1)<30))=true:=by rfl)
  (hline:(apos.endLine == cpos.line)=true:=by rfl) (hs:starEach (e::es) X.env=(false,eval e X.env)::starEach es X.env:=by rfl) (hplain:(backTo cpos (starEach es X.env)).any (·.1)=false:=by rfl) :
  PE X (.Call (.Attribute o name apos) (e::es) [] cpos) (tBM X.K T r to t):=by
 intro pq s σ H Q I h;refine wpAny_Call_method_late hbase hfew hline rfl (thn (ho pq s σ H _ I h) fun v s1 hz=>?_);obtain ⟨x,H1,I1,r1,ty,q1⟩:=hz;obtain ⟨h1,h2⟩:=Zox I1 r1 ty;refine ⟨T,id,pa,slot,hty,h1,h2,?_⟩;have hA:=ha cpos pq s1 σ H1 _ I1 q1;rw [hs] at hA ⊢;refine Calls.callWith_builtin (by show (false || (backTo cpos (starEach es X.env)).any (·.1))=false; rw [hplain] <;> rfl) (Calls.evalArgs_plain ?_);exact thn hA fun us s2 ⟨vs,H2,I2,r2,q2⟩=>hm pq s2 σ H2 x vs v us Q I2 r1 r2 q2
end
def MtM (X:Cx) (id:String) (r:V->List V->Hp->VK->Prop):Prop :=
 ∀ (pq:List (Addr×Obj)) (s:Shared) (σ:St) (H:Hp) (x:V) (xs:List V) (v:Value) (us:List Value) (Q:VK),Inv X pq σ H s->RelV x v->Vals xs us->r x xs H Q ->
  wpAny (model X.prog X.w) X.A (call (.builtin id) (v::us)) (EP X pq σ Q) X.xe s
theorem Vals.one:∀ {x:V} {us:List Value},Vals [x] us->∃ u,us=[u]/\RelV x u
 | _,_,.cons r .nil=>⟨_,rfl,r⟩
theorem Vals.rep (h:Vals xs us):∀ k:Nat,Vals (List.replicate k xs).flatten (List.replicate k us).flatten
 | 0=>.nil
 | k+1=>by
  rw [Bb,Bb,Bu,Bu];exact Vals.append h (Vals.rep h k)
theorem Nh (its:List Value):∀ (k:Nat) (acc:List Value),
  List.foldl (fun x1 x2=>x1++x2) acc.toArray (List.replicate k its.toArray)=(acc++(List.replicate k its).flatten).toArray
 | 0,acc=>by simp
 | k+1,acc=>by
  have e:acc.toArray++its.toArray=(acc++its).toArray:=by simp
  have e2:(acc++its)++(List.replicate k its).flatten=acc++(List.replicate (k+1) its).flatten:=by
   rw [Bb,Bu,Ga]
  rw [<- e2,<- Nh its k (acc++its),<- e,Bb,List.foldl_cons]
section
def Inv.lset {its':List Value} {n:Nat} {f:Array Value->Array Value} (I:Inv X pq σ H s) (hH:H l=some (.lst xs))
  (e:s.heap.get? l=some { cls:=.type "list",data:=.seq its.toArray n }) (hf:f its.toArray=its'.toArray) (hv:Vals ys its') (hz:ys.length<=sizeLine) :
  Inv X pq σ (upd H l (.lst ys)) { s with heap:=s.heap.update l (Obj.mapSeq f),toks:=t' }:=by
 have q:=PySem.IsL.update e f;rw [hf] at q;refine I.write (x:=l) (e:=l) (by rw [hH]; exact trivial) (.inl rfl) (fun b' u hb hu=>(Heap.get?_update_other s.heap (Obj.mapSeq f) (Ne.symm hb)).trans hu) ⟨_,q⟩ ?_;exists hz,its',_,hv,q
def Inv.lnew (I:Inv X pq σ H s) (hv:Vals ys its) (hz:ys.length<=sizeLine) :
  Inv X pq σ (upd H s.heap.objs.size (.lst ys)) { s with heap:=s.heap.push { cls:=.type "list",data:=.seq its.toArray },toks:=t' } :=
 I.laid (fun _ _ q=>Fx _ q) (Jd _) ⟨hz,its,0,hv,Fy _ rfl⟩
def Inv.fresh (I:Inv X pq σ H s):H s.heap.objs.size=none:=I.hok.fresh (Jd _)
def Inv.lstM (I:Inv X pq σ H s) (hH:H l=some (.lst xs)):xs.length<=sizeLine/\∃ (its:List Value) (n:Nat),Vals xs its/\xs.length=its.length/\s.heap.get? l=some { cls:=.type "list",data:=.seq its.toArray n }:=by
 obtain ⟨z,its,n,r,e⟩:=I.hok l _ hH;exists z,its,n,r,r.length,e
theorem Zcl {n:Nat} (h:n<=sizeLine):Builtin.List.listTooLong n=false:=by
 unfold Builtin.List.listTooLong;exact F3 (by lia)
end
section
def Zas:V->List V->Hp->VK->Prop:=fun x vs H Q=>∃ l xs y,x=.ref l/\vs=[y]/\H l=some (.lst xs)/\xs.length<sizeLine/\Q .non (upd H l (.lst (xs++[y])))
theorem Uh:MtM X "list.append" Zas:=by
 intro pq s σ H x vs v us Q I rx rv h;obtain ⟨l,xs,y,rfl,rfl,hH,hz,q⟩:=h;cases rx;obtain ⟨u,rfl,ru⟩:=rv.one;obtain ⟨z,its,n,r,hl,e⟩:=I.lstM hH;refine call_meets F.slot_list_append ⟨_,e,rfl⟩ F.entry_list_append (F.args_list_append_2 _ _) (PySem.list_append l its.toArray n u (by rw [Jn]; lia)) ⟨e,?_⟩;exists .non,_,I.lset (its':=its++[u]) hH e (by simp) (r.append (.cons ru .nil)) ?_,rfl,q;rw [Jc,Jx];lia
def Zar:V->List V->Hp->VK->Prop:=fun x vs H Q=>∃ l b xs zs,x=.ref l/\vs=[.ref b]/\H l=some (.lst xs)/\H b=some (.lst zs)/\xs.length+zs.length<=sizeLine/\Q .non (upd H l (.lst (xs++zs)))
theorem T8:MtM X "list.extend" Zar:=by
 intro pq s σ H x vs v us Q I rx rv h;obtain ⟨l,b,xs,zs,rfl,rfl,hH,hB,hz,q⟩:=h;cases rx;obtain ⟨u,rfl,ru⟩:=rv.one;cases ru;obtain ⟨z,its,n,r,hl,e⟩:=I.lstM hH;obtain ⟨z2,its2,n2,r2,hl2,e2⟩:=I.lstM hB;have hsz:its.toArray.size+its2.toArray.size<=sizeLine:=by rw [Jn,Jn]; lia
 have hlong:¬ (!its.toArray.isEmpty && Builtin.List.listTooLong (its.toArray.size+its2.toArray.size))=true:=by
  rw [Zcl hsz,Bool.and_false];exact Jp
 refine call_meets F.slot_list_extend ⟨_,e,rfl⟩ F.entry_list_extend (F.args_list_extend_2 _ _)
  (AutoSeq1.list_extend_list_list_0 l its.toArray n b its2.toArray n2 hlong (by rw [Jn]; lia) (by lia)) ⟨e,e2,?_⟩
 exists .non,_,I.lset (its':=its++its2) hH e (by simp) (r.append r2) ?_,rfl,q;rw [Jc];lia
def rCat:R2:=fun x y H Q=>∃ l b xs zs,x=.ref l/\y=.ref b/\H l=some (.lst xs)/\H b=some (.lst zs)/\xs.length+zs.length<=sizeLine/\∀ p,H p=none->Q (.ref p) (upd H p (.lst (xs++zs)))
theorem Zkw:OpR X (binaryOp .Add) rCat:=by
 intro pq s σ H x y v u Q I rx ry h;obtain ⟨l,b,xs,zs,rfl,rfl,hH,hB,hz,q⟩:=h;cases rx;cases ry;obtain ⟨z,its,n,r,hl,e⟩:=I.lstM hH;obtain ⟨z2,its2,n2,r2,hl2,e2⟩:=I.lstM hB;refine PySem.P.add_list e e2 ?_ (by rw [Jn,Jn]; lia);have ea:its.toArray++its2.toArray=(its++its2).toArray:=by simp
 rw [ea];exists .ref _,_,I.lnew (t':=s.toks) (r.append r2) (by rw [Jc]; lia),rfl,q _ I.fresh
def rRep:R2:=fun x y H Q=>∃ l k xs,x=.ref l/\y=.int k/\H l=some (.lst xs)/\-(2 ^ 63)<=k/\k<2 ^ 63/\xs.length*k.toNat<=sizeLine /\
 ∀ p,H p=none->Q (.ref p) (upd H p (.lst (List.replicate k.toNat xs).flatten))
theorem Znb {α:Type} (xs:List α) (k:Nat):(List.replicate k xs).flatten.length=k*xs.length:=by
 induction k with
 | zero=>simp
 | succ k ih=>rw [Bb,Bu,Jc,ih,Nat.succ_mul,Fo]
theorem Zqm:OpR X (binaryOp .Mult) rRep:=by
 intro pq s σ H x y v u Q I rx ry h;obtain ⟨l,k,xs,rfl,rfl,hH,h1,h2,hz,q⟩:=h;cases rx;obtain ⟨t,rfl⟩:=ry;obtain ⟨z,its,n,r,hl,e⟩:=I.lstM hH;have hlen:its.toArray.size*k.toNat<=sizeLine:=by rw [Jn,<- hl]; exact hz
 have hcap:¬ its.toArray.size*k.toNat > (2 ^ 63-1) / 8:=by
  have:(sizeLine:Nat)<=(2 ^ 63-1) / 8:=by decide
  lia
 have hfit:¬ (!Builtin.List.listFitsIndex k)=true:=by
  rw [fitsIndex_both h1 h2];exact Jp
 have hlong:¬ Builtin.List.listTooLong (its.toArray.size*k.toNat)=true:=by
  rw [Zcl hlen];exact Jp
 have hnew:List.foldl (fun x1 x2=>x1++x2) #[] (List.replicate (if its.toArray.isEmpty=true then 0 else k.toNat) its.toArray)=(List.replicate k.toNat its).flatten.toArray:=by
  have f0:∀ m:Nat,List.foldl (fun x1 x2=>x1++x2) #[] (List.replicate m its.toArray)=(List.replicate m its).flatten.toArray:=fun m=>by
   have:=Nh its m [];rw [List.nil_append] at this;exact this
  rw [f0];cases its with
  | nil=>simp
  | cons a r'=>rw [F0 (by simp)]
 refine wpAny_binaryOp_repeat_ref (T:="list") (U:="int") nofun ⟨_,e,rfl⟩ (fun s'=>typeIs_int s' k t) noFill_list_mul F.fills_int_mul F.slot_int_rmul repeat_list F.slot_int_index.lookup
  (call_meets F.slot_int_rmul (typeIs_int s k t) F.entry_int_rmul (F.args_int_rmul_2 _ _) (int___rmul___int_list k t l its.toArray n)
   ⟨e,rfl,⟨_,e,rfl⟩,call_meets F.slot_list_mul ⟨_,e,rfl⟩ F.entry_list_mul (F.args_list_mul_2 _ _) (AutoListH.list___mul___list_int_3 l its.toArray n k t hfit hcap hlong) ⟨e,?_⟩⟩)
 rw [hnew];exists .ref _,_,I.lnew (t':=s.toks) (r.rep k.toNat) (by rw [Znb,Nat.mul_comm]; exact hz),rfl,q _ I.fresh
end
section
variable [DecidableEq κ]
def valV (kvs:List (κ×V)) (k:κ):Option V:=(kvs.find? fun kv=>decide (kv.1=k)).map (·.2)
def putK (kvs:List (κ×V)) (k:κ) (v:V):List (κ×V) :=
 if (kvs.any fun kv=>decide (kv.1=k))=true then kvs.map (fun kv=>if kv.1=k then (kv.1,v) else kv) else kvs++[(k,v)]
def Zbg (kvs:List (κ×V)) (k:κ):List (κ×V):=kvs.filter fun kv=>decide (kv.1≠k)
def Zib {k:κ}:valV ([]:List (κ×V)) k=none:=rfl
def Y0 {p:κ×V} {r:List (κ×V)} {k:κ} (e:p.1=k):valV (p::r) k=some p.2:=by simp [valV,Gq,e]
def Y1 {p:κ×V} {r:List (κ×V)} {k:κ} (e:¬ p.1=k):valV (p::r) k=valV r k:=by simp [valV,Gq,e]
theorem Tj (k:κ):∀ kvs:List (κ×V),(kvs.any fun kv=>decide (kv.1=k))=(valV kvs k).isSome
 | []=>rfl
 | p::r=>by
  rw [Bx]
  by_cases e:p.1=k
  ·simp only [Y0 e,F2 e,Bool.true_or,Option.isSome_some]
  ·rw [Y1 e,F3 e,Fp]; exact Tj k r
theorem Zbs (k j:κ) (y:V):∀ kvs:List (κ×V),valV (kvs.map fun kv=>if kv.1=k then (kv.1,y) else kv) j=(valV kvs j).map fun x=>if j=k then y else x
 | []=>rfl
 | p::r=>by
  have ih:=Zbs k j y r;rw [Ju]
  by_cases h:p.1=k
  ·rw [F1 h]
   by_cases e:p.1=j
   ·rw [Y0 (p:=(p.1,y)) e,Y0 e,B6,F1 (e.symm.trans h)]
   ·rw [Y1 (p:=(p.1,y)) e,Y1 e,ih]
  ·rw [F0 h]
   by_cases e:p.1=j
   ·rw [Y0 (p:=p) e,Y0 e,B6,F0 (fun z=>h (e.trans z))]
   ·rw [Y1 (p:=p) e,Y1 e,ih]
theorem Pd (k j:κ) (y:V):∀ kvs:List (κ×V),valV kvs k=none->valV (kvs++[(k,y)]) j=if j=k then some y else valV kvs j
 | [],_=>by
  by_cases e:k=j
  ·rw [F1 e.symm]; exact Y0 (p:=(k,y)) e
  ·rw [F0 (fun z=>e z.symm)]; exact Y1 (p:=(k,y)) e
 | p::r,hn=>by
  rw [List.cons_append];have hk:¬ p.1=k:=fun z=>by rw [Y0 z] at hn; cases hn
  rw [Y1 hk] at hn;have ih:=Pd k j y r hn
  by_cases e:p.1=j
  ·rw [Y0 e,Y0 e,F0 (fun z=>hk (e.trans z))]
  ·rw [Y1 e,Y1 e,ih]
def R8 (kvs:List (κ×V)) (k j:κ) (y:V):valV (putK kvs k y) j=if j=k then some y else valV kvs j:=by
 unfold putK
 by_cases a:(kvs.any fun kv=>decide (kv.1=k))=true
 ·rw [F1 a,Zbs];rw [Tj] at a
  by_cases e:j=k
  ·obtain ⟨x,hx⟩:=Option.isSome_iff_exists.mp a;rw [F1 e,e,hx,B6,F1 rfl]
  ·rw [F0 e];cases valV kvs j with
   | none=>rfl
   | some x=>rw [B6,F0 e]
 ·rw [F0 a];refine Pd k j y kvs ?_;rw [Tj] at a;cases q:valV kvs k with
  | none=>rfl
  | some x=>rw [q] at a; exact (a rfl).elim
theorem Yl (kvs:List (κ×V)) (k:κ) (v:V):(putK kvs k v).length<=kvs.length+1:=by
 unfold putK
 split
 ·rw [Ja]; lia
 ·rw [Jc,Jq,Bl]; lia
theorem RelO.isSome_eq {o:Option V} {u:Option Value} (r:RelO o u):o.isSome=u.isSome:=by
 cases o with
 | none=>cases u with
  | none=>rfl
  | some _=>exact (show False from r).elim
 | some _=>cases u with
  | none=>exact (show False from r).elim
  | some _=>rfl
theorem RelO.getD {o:Option V} {u:Option Value} {d:V} {d':Value} (r:RelO o u) (rd:RelV d d'):RelV (o.getD d) (u.getD d'):=by
 cases o with
 | none=>cases u with
  | none=>exact rd
  | some _=>exact (show False from r).elim
 | some _=>cases u with
  | none=>exact (show False from r).elim
  | some _=>exact r
theorem KV.val {kvs:List (κ×V)} {vs:List (κ×Value)} (r:KV kvs vs) (k:κ):RelO (valV kvs k) (valueAt vs k):=by
 unfold KV at r
 induction r with
 | nil=>exact True.intro
 | @cons p q ps qs h t ih =>
  obtain ⟨h1,h2⟩:=h
  by_cases e:p.1=k
  ·have e':q.1=k:=h1.symm.trans e;have b:valueAt (q::qs) k=some q.2:=by simp [valueAt,Gq,e']
   rw [Y0 e,b]; exact h2
  ·have e':¬ q.1=k:=fun z=>e (h1.trans z);have b:valueAt (q::qs) k=valueAt qs k:=by simp [valueAt,Gq,e']
   rw [Y1 e,b]; exact ih
theorem KV.any {kvs:List (κ×V)} {vs:List (κ×Value)} (r:KV kvs vs) (k:κ):(kvs.any fun kv=>decide (kv.1=k))=vs.any fun kv=>decide (kv.1=k):=by
 unfold KV at r
 induction r with
 | nil=>rfl
 | cons h t ih=>rw [Bx,Bx,ih,h.1]
theorem KV.repl {kvs:List (κ×V)} {vs:List (κ×Value)} (r:KV kvs vs) (k:κ) {u:Value} (ry:RelV y u) :
  KV (kvs.map fun kv=>if kv.1=k then (kv.1,y) else kv) (vs.map fun kv=>if kv.1=k then (kv.1,u) else kv):=by
 unfold KV at r ⊢
 induction r with
 | nil=>exact .nil
 | @cons p q ps qs h t ih =>
  rw [Ju,Ju];refine .cons ?_ ih;obtain ⟨h1,h2⟩:=h
  by_cases e:p.1=k
  ·rw [F1 e,F1 (h1.symm.trans e)];exists h1,ry
  ·rw [F0 e,F0 (fun z=>e (h1.trans z))];exists h1,h2
def KV.put {kvs:List (κ×V)} {vs:List (κ×Value)} (r:KV kvs vs) (k:κ) {u:Value} (ry:RelV y u):KV (putK kvs k y) (stored vs k u):=by
 unfold putK stored;rw [r.any k]
 by_cases e:(vs.any fun kv=>decide (kv.1=k))=true
 ·rw [F1 e,F1 e]; exact r.repl k ry
 ·rw [F0 e,F0 e]; exact Paired.snoc r ⟨rfl,ry⟩
theorem KV.drop {kvs:List (κ×V)} {vs:List (κ×Value)} (r:KV kvs vs) (k:κ):KV (Zbg kvs k) (without vs k):=by
 unfold KV at r ⊢;unfold Zbg without
 induction r with
 | nil=>exact .nil
 | @cons p q ps qs h t ih =>
  obtain ⟨h1,h2⟩:=h;rw [List.filter_cons,List.filter_cons]
  by_cases e:p.1=k
  ·have a:¬ decide (p.1≠k)=true:=by simp [e]
   have b:¬ decide (q.1≠k)=true:=by simp [h1.symm.trans e]
   rw [F0 a,F0 b]; exact ih
  ·have e':¬ q.1=k:=fun z=>e (h1.trans z);have a:decide (p.1≠k)=true:=by simp [e]
   have b:decide (q.1≠k)=true:=by simp [e']
   rw [F1 a,F1 b]; exact .cons ⟨h1,h2⟩ ih
def KV.length {kvs:List (κ×V)} {vs:List (κ×Value)} (r:KV kvs vs):kvs.length=vs.length:=Paired.length r
def Zjn (kvs:List (κ×V)) (k:κ):(Zbg kvs k).length<=kvs.length:=List.length_filter_le _ _
end
theorem Qq {k:Key} {u:Value} (r:RelV (kV k) u):(Z3 P w).is k u=true:=by
 cases k with
 | inl i=>obtain ⟨t,e⟩:=(show ∃ t,u=Value.int i t from r); subst e; exact Za1 P w i t
 | inr x=>obtain ⟨t,e⟩:=(show ∃ t,u=Value.str x t from r); subst e; exact Za0 P w x t
theorem Sg :∀ {ks:List Key} {us:List Value},Vals (ks.map kV) us->ItemsAre (Z3 P w) ks us
 | [],_,r=>by rw [List.map_nil] at r; cases r; exact .nil
 | k::ks,_,r=>by
  rw [Ju] at r;cases r with
  | cons h t=>exact .cons (Qq h) (Sg t)
abbrev KT (H:Hp):List (List Key×V)->List (List Key×Addr×Value)->Prop:=Paired fun p q=>p.1=q.1/\H q.2.1=some (.tup (p.1.map kV))/\RelV p.2 q.2.2
theorem KT.val {xs:List (List Key×Addr×Value)} (r:KT H kvs xs) (k:List Key):RelO (valV kvs k) ((atKey xs k).map (·.2)):=by
 induction r with
 | nil=>exact True.intro
 | @cons p q ps qs h t ih =>
  obtain ⟨h1,_,h2⟩:=h
  by_cases e:p.1=k
  ·have e':q.1=k:=h1.symm.trans e;have b:atKey (q::qs) k=some q.2:=by simp [atKey,Gq,e']
   rw [Y0 e,b]; exact h2
  ·have e':¬ q.1=k:=fun z=>e (h1.trans z);have b:atKey (q::qs) k=atKey qs k:=by simp [atKey,Gq,e']
   rw [Y1 e,b]; exact ih
theorem KT.repl {xs:List (List Key×Addr×Value)} (r:KT H kvs xs) (k:List Key) {u:Value} (ry:RelV y u) :
  KT H (kvs.map fun kv=>if kv.1=k then (kv.1,y) else kv) (xs.map (putAt k u)):=by
 induction r with
 | nil=>exact .nil
 | @cons p q ps qs h t ih =>
  rw [Ju,Ju];refine .cons ?_ ih;obtain ⟨h1,h2,h3⟩:=h;unfold putAt
  by_cases e:p.1=k
  ·rw [F1 e,F1 (h1.symm.trans e)];exists h1,h2,ry
  ·rw [F0 e,F0 (fun z=>e (h1.trans z))];exists h1,h2,h3
def KT.put {xs:List (List Key×Addr×Value)} (r:KT H kvs xs) (k:List Key) {b:Addr} {u:Value} (hb:H b=some (.tup (k.map kV))) (ry:RelV y u) :
  KT H (putK kvs k y) (storedH xs k b u):=by
 have e:(kvs.any fun kv=>decide (kv.1=k))=(atKey xs k).isSome:=by
  rw [Tj,(r.val k).isSome_eq,Option.isSome_map]
 unfold putK storedH;rw [e]
 by_cases q:(atKey xs k).isSome=true
 ·rw [F1 q,F1 q]; exact r.repl k ry
 ·rw [F0 q,F0 q]; exact Paired.snoc r ⟨rfl,hb,ry⟩
def KT.keeps {xs:List (List Key×Addr×Value)} (r:KT H kvs xs) (ht:∀ b ys,H b=some (.tup ys)->H' b=some (.tup ys)):KT H' kvs xs :=
 Paired.mapP r fun _ _ z=>⟨z.1,ht _ _ z.2.1,z.2.2⟩
section
variable {a:Addr}
def Zqc {u:HO} (ok:HOk P w H h) (e:Rd H a u):Y9 P w H h a u:=e.ok ok
def Zg7 {kvs:List (Key×V)} (ok:HOk P w H h) (e:Rd H a (.dK kvs)):kvs.length<=sizeLine/\(a == sysModules)=false/\∃ vs,KV kvs vs/\h.DictOf (Z3 P w) a vs :=
 show Y9 P w H h a (.dK kvs) from Zqc ok e
def Zbh {kvs:List (Key×V)} (ok:HOk P w H h) (e:H a=some (.dK kvs)):kvs.length<=sizeLine/\(a == sysModules)=false/\∃ vs,KV kvs vs/\h.DictOf (Z3 P w) a vs:=Zg7 ok (.inl e)
def P6 {ks:List Key} (ok:HOk P w H h) (e:H a=some (.tup (ks.map kV))):(tupleKind (Z3 P w)).is h ks a:=by
 obtain ⟨_,its,r,o,h1,h2,n,h3,_⟩:=(show Y9 P w H h a (.tup (ks.map kV)) from ok a _ e);exact ⟨o,its.toArray,n,h1,h2,h3,by simpa using Sg r⟩
def Zjm (ok:HOk P w H h) (e:Rd H a (.dT kvs)):kvs.length<=sizeLine/\(a == sysModules)=false /\
  ∃ xs,KT H kvs xs/\h.DictOfH (tupleKind (Z3 P w)) a xs:=by
 obtain ⟨z,y,xs,r,o,es,ep,h1,h2,h3,h4,h5⟩:=(show Y9 P w H h a (.dT kvs) from Zqc ok e);refine ⟨z,y,xs,r,o,es,ep,h1,h2,h3,h4,fun x hx=>?_,h5⟩;have all:∀ {l:List (List Key×V)} {m:List (List Key×Addr×Value)},KT H l m->∀ x∈m,(tupleKind (Z3 P w)).is h x.1 x.2.1:=by
  intro l m q
  induction q with
  | nil=>intro x hx; exact nomatch hx
  | @cons p q ps qs hq t ih =>
   intro x hx;rcases Jy.mp hx with e | hx
   ·subst e;exact P6 ok (by rw [<- hq.1]; exact hq.2.1)
   ·exact ih x hx
 exact all r x hx
def Zrf (ok:HOk P w H h) (e:H a=some (.dT kvs)):kvs.length<=sizeLine/\(a == sysModules)=false /\
  ∃ xs,KT H kvs xs/\h.DictOfH (tupleKind (Z3 P w)) a xs:=Zjm ok (.inl e)
end
def DGet (H:Hp) (a:Addr) (y:V) (r:Option V):Prop :=
 (∃ kvs k,Rd H a (.dK kvs)/\y=kV k/\r=valV kvs k)\/∃ kvs k b,Rd H a (.dT kvs)/\y=.ref b/\H b=some (.tup (k.map kV))/\r=valV kvs k
def DPut (H:Hp) (a:Addr) (y v:V) (H':Hp):Prop :=
 (∃ kvs k,H a=some (.dK kvs)/\y=kV k/\kvs.length<sizeLine/\H'=upd H a (.dK (putK kvs k v))) \/
 ∃ kvs k b,H a=some (.dT kvs)/\y=.ref b/\H b=some (.tup (k.map kV))/\kvs.length<sizeLine/\H'=upd H a (.dT (putK kvs k v))
def DGet.t {a b:Addr} {k:List Key} (e:H a=some (.dT kvs)) (eb:H b=some (.tup (k.map kV))):DGet H a (.ref b) (valV kvs k):=.inr ⟨kvs,k,b,.inl e,rfl,eb,rfl⟩
theorem DPut.k {a:Addr} {kvs:List (Key×V)} {k:Key} (e:H a=some (.dK kvs)) (hl:kvs.length<sizeLine):DPut H a (kV k) v (upd H a (.dK (putK kvs k v))):=.inl ⟨kvs,k,e,rfl,hl,rfl⟩
def DPut.t {a b:Addr} {k:List Key} (e:H a=some (.dT kvs)) (eb:H b=some (.tup (k.map kV))) (hl:kvs.length<sizeLine) :
  DPut H a (.ref b) v (upd H a (.dT (putK kvs k v))):=.inr ⟨kvs,k,b,e,rfl,eb,hl,rfl⟩
section
variable {a:Addr} {u r:Value} {o:Option V} 
def Inv.big (I:Inv X pq σ H s):sysModules<s.heap.objs.size:=by
 have h:mainGlobals<s.heap.objs.size:=(I.mod.glob.keeps I.bk).lt;exact Nat.lt_trans nofun h
def d_in {Q:Value->Shared->Prop} (hu:A.units+1<cLine) (I:Inv X pq σ H s) (g:DGet H a y o) (ry:RelV y u) (h:∀ s',Inv X pq σ H s'->Q (.bool o.isSome) s') :
  wpAny (model X.prog X.w) A (compareOp .In u (.ref a)) Q E s:=by
 rcases g with ⟨kvs,k,e,ey,l⟩ | ⟨kvs,k,b,e,ey,eb,l⟩
 ·subst ey;obtain ⟨z,hd,vs,rel,dd⟩:=Zg7 I.hok e;refine wpAny_in_of (Qq ry) hd dd.mapOf ?_;rw [<- (rel.val k).isSome_eq,<- l];exact h _ (I.tok _)
 ·subst ey;cases (show u=Value.ref b from ry);obtain ⟨z,hd,xs,rel,dd⟩:=Zjm I.hok e;refine wpAny_in_heap (tupleKind_room_in1 hu) (P6 I.hok eb) hd dd ?_;have q:=(rel.val k).isSome_eq;rw [Option.isSome_map] at q;rw [<- q,<- l];exact h _ (I.tok _)
def Wx {ob:HO} (I:Inv X pq σ H s) (mu:Mut (H a)) (hs:Heap.SameBut a s.heap h') (he:∃ q,h'.get? a=some q) (new:Y9 X.prog X.w (upd H a ob) h' a ob) :
  Inv X pq σ (upd H a ob) { s with heap:=h',toks:=t' } :=
 I.write (x:=a) (e:=a) mu (.inl rfl) (fun b q hb z=>(hs.2 b hb).trans z) he new
def Nk {kvs:List (Key×V)} {vs:List (Key×Value)} (z:kvs.length<=sizeLine) (hd:(a == sysModules)=false) (rel:KV kvs vs) (dd:h'.DictOf (Z3 P w) a vs) :
  Y9 P w H' h' a (.dK kvs):=⟨z,hd,vs,rel,dd⟩
theorem Zhc {Q:Unit->Shared->Prop} (hu:A.units+1<cLine) (I:Inv X pq σ H s) (g:DPut H a y v H') (ry:RelV y u) (rv:RelV v r) (h:∀ s',Inv X pq σ H' s'->Q () s') :
  wpAny (model X.prog X.w) A (setItem (.ref a) u r) Q E s:=by
 rcases g with ⟨kvs,k,e,ey,l,eH⟩ | ⟨kvs,k,b,e,ey,eb,l,eH⟩
 ·subst ey eH;obtain ⟨z,hd,vs,rel,dd⟩:=Zbh I.hok e;have hz:vs.length<=sizeLine:=by rw [<- rel.length]; exact z
  have hl:(putK kvs k v).length<=sizeLine:=by have:=Yl kvs k v; lia
  refine wpAny_setItem_pairs (hsz:=hz) (Qq ry) dd fun h' dd' hs=>h _ ?_;have he:∃ q,h'.get? a=some q:=let ⟨q,_,_,hq,_⟩:=dd'; ⟨q,hq⟩
  exact Wx I (by rw [e]; exact True.intro) hs he (Nk hl hd (rel.put k rv) dd')
 ·subst ey eH;cases (show u=Value.ref b from ry);obtain ⟨z,hd,xs,rel,dd⟩:=Zrf I.hok e;have hz:xs.length<=sizeLine:=by rw [<- Paired.length rel]; exact z
  have hl:(putK kvs k v).length<=sizeLine:=by have:=Yl kvs k v; lia
  refine wpAny_setItem_heap (hsz:=hz) (tupleKind_room_in1 hu) (P6 I.hok eb) dd fun h' dd' hs=>h _ ?_;obtain ⟨q,es,ep,hq,h2,h3,h4,_,h5⟩:=dd';refine Wx I (by rw [e]; exact True.intro) hs ⟨q,hq⟩ ⟨hl,hd,_,(rel.put k eb rv).keeps fun c ys ec=>?_,q,es,ep,hq,h2,h3,h4,h5⟩;rw [Zm (V3 ec e (fun z=>nomatch z))];exact ec
end
section
variable {a:Addr} {kvs:List (Key×V)} {k:Key} {u:Value} 
def Zti {more:List Value} {Q:Value->Shared->Prop} (I:Inv X pq σ H s) (e:H a=some (.dK kvs)) (ry:RelV (kV k) u) (l:valV kvs k=some v) (hm:more=[]\/∃ x,more=[x])
  (h:∀ w' s',Inv X pq σ (upd H a (.dK (Zbg kvs k))) s'->RelV v w'->Q w' s'):wpAny (model X.prog X.w) A (call (.builtin "dict.pop") (.ref a::u::more)) Q E s:=by
 obtain ⟨z,hd,vs,rel,dd⟩:=Zbh I.hok e;obtain ⟨w',hw,rw'⟩:=RelO.some_of (v:=v) (o:=valueAt vs k) (by rw [<- l]; exact rel.val k);have hp:(keyPart u).isSome=true:=by
  cases k with
  | inl i=>obtain ⟨t,q⟩:=(show ∃ t,u=Value.int i t from ry); subst q; rfl
  | inr x=>obtain ⟨t,q⟩:=(show ∃ t,u=Value.str x t from ry); subst q; rfl
 have ha:argsOk "dict.pop" ⟨.ref a::u::more,[]⟩:=by
  rcases hm with q | ⟨x,q⟩
  ·subst q; exact PySem.F.args_dict_pop_2 _ _
  ·subst q; exact PySem.F.args_dict_pop_3 _ _ _
 refine call_meetsIn PySem.F.slot_dict_pop dd.typeIs PySem.F.entry_dict_pop ha (meets_dict_pop_there (Z3 X.prog X.w) a (Qq ry) more hm hp)
  ⟨vs,w',dd,by rw [<- rel.length]; exact z,hw,fun h' dd' hs=>h w' _ ?_ rw'⟩
 have he:∃ q,h'.get? a=some q:=let ⟨q,_,_,hq,_⟩:=dd'; ⟨q,hq⟩
 exact Wx I (by rw [e]; exact True.intro) hs he (Nk (J8 (Zjn kvs k) z) hd (rel.drop k) dd')
def Zri {r:Value} {Q:Value->Shared->Prop} (I:Inv X pq σ H s) (e:H a=some (.dK kvs)) (ry:RelV (kV k) u) (l:valV kvs k=none) (h:∀ s',Inv X pq σ H s'->Q r s') :
  wpAny (model X.prog X.w) A (call (.builtin "dict.pop") [.ref a,u,r]) Q E s:=by
 obtain ⟨z,hd,vs,rel,dd⟩:=Zbh I.hok e;have hn:valueAt vs k=none:=RelO.none_of (by rw [<- l]; exact rel.val k);have hp:(keyPart u).isSome=true:=by
  cases k with
  | inl i=>obtain ⟨t,q⟩:=(show ∃ t,u=Value.int i t from ry); subst q; rfl
  | inr x=>obtain ⟨t,q⟩:=(show ∃ t,u=Value.str x t from ry); subst q; rfl
 exact call_meetsIn PySem.F.slot_dict_pop dd.typeIs PySem.F.entry_dict_pop (PySem.F.args_dict_pop_3 _ _ _) (meets_dict_pop_default (Z3 X.prog X.w) a (Qq ry) hd hp r) ⟨vs,dd,hn,h _ (I.tok _)⟩
theorem Ztj {Q:Value->Shared->Prop} (I:Inv X pq σ H s) (e:Rd H a (.dK kvs)) (h:∀ t s',Inv X pq σ H s'->Q (.int kvs.length t) s'):wpAny (model X.prog X.w) A (call (.builtin "len") [.ref a]) Q E s:=by
 obtain ⟨z,hd,vs,rel,dd⟩:=Zg7 I.hok e;refine call_len_dict hd dd (by rw [<- rel.length]; rw [sizeLine_eq] at z; lia) ?_;rw [<- rel.length];exact h _ _ (I.tok _)
end
def NoSl (i:Expr):Prop:=∀ ov iv,subscripted i false ov iv=operate [ov,iv] (getItem ov iv)
def Zlv {env:Env} {slice:Expr} {T id:String} {Q:Value->Shared->Prop}
  (hl:typeLookup (.type T) "__getitem__"=pure (some (.builtin id))) (hs:NoSl slice)
  (h:wpAny (model prog w) A (eval value env) (fun o s₁=>wpAny (model prog w) A (eval slice env) (fun i s₂=>s₂.TypeIs o T/\wpAny (model prog w) A (getItem o i) Q E s₂) E s₁) E s) :
  wpAny (model prog w) A (eval (.Subscript value slice pos) env) Q E s:=by
 refine Subscript_ (F7 h (fun o s₁ h₁=>F7 h₁ (fun i s₂ h₂=>?_) fun _ _ x=>x) fun _ _ x=>x);obtain ⟨hT,h₂⟩:=h₂;unfold subscriptTail;refine Fv ?_;rw [getitemInPython_of_ne hT.not_modules];refine Fv (wpAny_specialOf hT hl ?_);have fin:wpAny (model prog w) A (subscripted slice false o i) (fun r s₃=>wpAny (model prog w) A (letTemporaryGo value o r >>= fun _=>pure r) Q E s₃) E s₂:=by
  rw [hs o i];exact wpAny_operating (F7 h₂ (fun r s₃ h₃=>Fv (wpAny_letTemporaryGo (Fw h₃))) fun _ _ x=>x)
 first
  | exact Fw (Fv fin)
  | exact Fv (Fw (Fv fin))
  | exact Fv fin
def tDIn (ty td:TE):TE:=fun σ H Q=>ty σ H fun y H1=>td σ H1 fun x H2=>∃ a o,x=.ref a/\DGet H2 a y o/\Q (.bl o.isSome) H2
def Zs2 (td ty tv:TE):TS:=fun D σ H=>tv σ H fun v H1=>td σ H1 fun x H2=>ty σ H2 fun y H3=>∃ a H4,x=.ref a/\DPut H3 a y v H4/\D.nx σ H4
section
variable {o i:Expr} {ty:TE}
def Zql (hu:X.A.units+1<cLine) (hi:PE X i ty) (ho:PE X o td):PC X .In i o (tDIn ty td):=by
 intro pq s σ H Q I h;refine thn (hi pq s σ H _ I h) fun iv s1 ⟨y,H1,I1,ry,q1⟩=>thn (ho pq s1 σ H1 _ I1 q1) fun u s2 hz=>?_;obtain ⟨x,H2,I2,rx,a,ov,ex,g,q2⟩:=hz;subst ex;obtain rfl:u=Value.ref a:=rx;exact d_in hu I2 g ry fun s3 I3=>⟨.bl ov.isSome,H2,I3,rfl,q2⟩
def Zmp (hu:X.A.units+1<cLine) (ho:PE X o td) (hi:PE X i ty) (hv:PE X value tv) (hs:swapsWith value (some (.Subscript o i pos')) pos.line X.env=pure false) :
  PS X (.Assign [.Subscript o i pos'] value pos) (Zs2 td ty tv):=by
 intro pq s σ H D I h;refine wpAny_Assign_Subscript (thn (hv pq s σ H _ I h) fun r s1 ⟨v,H1,I1,rv,q1⟩=>thn (ho pq s1 σ H1 _ I1 q1) fun u s2 ⟨x,H2,I2,rx,q2⟩=>thn (hi pq s2 σ H2 _ I2 q2) fun iv s3 hz=>?_) hs;obtain ⟨y,H3,I3,ry,a,H4,ex,g,q3⟩:=hz;subst ex;obtain rfl:u=Value.ref a:=rx;exact Zhc hu I3 g ry rv fun s4 I4=>⟨σ,H4,I4,q3⟩
end
def Zc5 (h:Heap) (hb:sysModules<h.objs.size):Y9 P w H (h.push { cls:=.type "dict",data:=.dict #[] }) h.objs.size (.dK []) :=
 ⟨Jz _,beq_eq_false_iff_ne.mpr (Ne.symm (Gf hb)),[],.nil,Heap.DictOf.new h⟩
def Zc4 (h:Heap) (hb:sysModules<h.objs.size):Y9 P w H (h.push { cls:=.type "dict",data:=.dict #[] }) h.objs.size (.dT []) :=
 ⟨Jz _,beq_eq_false_iff_ne.mpr (Ne.symm (Gf hb)),[],.nil,_,#[],0,Fy _ rfl,⟨rfl,rfl,rfl⟩,rfl,rfl,List.nodup_nil⟩
def Zpc:TE:=fun _ H Q=>∀ p,H p=none->Q (.ref p) (upd H p (.dT []))
section
def Zi3:PE X (.Dict [] [] pos) Zpc:=fun pq s σ H Q I h =>
 wpAny_Dict_empty ⟨.ref s.heap.objs.size,_,I.laid (a:=s.heap.objs.size) (o:=.dT []) (t':=s.toks) (fun _ _ q=>Fx _ q) (Jd _) (Zc4 s.heap I.big),rfl,h _ (I.hok.fresh (Jd _))⟩
end
def Zbu:List (TE×TE)->St->Hp->(List (V×V)->Hp->Prop)->Prop
 | [],_,H,Q=>Q [] H
 | (tk,tv)::r,σ,H,Q=>tk σ H fun x H1=>tv σ H1 fun y H2=>Zbu r σ H2 fun ps H3=>Q ((x,y)::ps) H3
abbrev VV:List (V×V)->List (Value×Value)->Prop:=Paired fun p q=>RelV p.1 q.1/\RelV p.2 q.2
def PPs (X:Cx) (pos:Pos) (keys:List (Option Expr)) (values:List Expr) (trs:List (TE×TE)):Prop :=
 ∀ (pq:List (Addr×Obj)) (s:Shared) (σ:St) (H:Hp) (Q:List (V×V)->Hp->Prop),Inv X pq σ H s->Zbu trs σ H Q ->
  wpAny (model X.prog X.w) X.A (evalPairs (pairTrees keys values X.env pos)) (fun vs s'=>∃ ps H',Inv X pq σ H' s'/\VV ps vs/\Q ps H') X.xe s
def Zmr :PPs X pos [] [] []:=fun pq s σ H Q I h=>pairTrees_nil_walk ⟨[],H,I,.nil,h⟩
def Ziv {k v:Expr} {ks:List (Option Expr)} {vs:List Expr} {tk:TE} {trs:List (TE×TE)} (hk:PE X k tk) (hv:PE X v tv) (hr:PPs X pos ks vs trs) :
  PPs X pos (some k::ks) (v::vs) ((tk,tv)::trs):=fun pq s σ H Q I h =>
 pairTrees_cons_walk (thn (hk pq s σ H _ I h) fun u s1 ⟨x,H1,I1,rx,q1⟩=>thn (hv pq s1 σ H1 _ I1 q1) fun w2 s2 ⟨y,H2,I2,ry,q2⟩ =>
  thn (hr pq s2 σ H2 _ I2 q2) fun ws s3 ⟨ps,H3,I3,rel,q3⟩=>⟨(x,y)::ps,H3,I3,.cons ⟨rx,ry⟩ rel,q3⟩)
def P0 (kvs more:List (Key×V)):List (Key×V):=more.foldl (fun acc kv=>putK acc kv.1 kv.2) kvs
theorem KV.merge:∀ {more:List (Key×V)} {rs:List (Key×Value)} {kvs:List (Key×V)} {vs:List (Key×Value)},KV more rs->KV kvs vs->KV (P0 kvs more) (merged vs rs):=by
 intro more rs kvs vs r;unfold KV at r
 induction r generalizing kvs vs with
 | nil=>intro q; exact q
 | @cons p q ps qs h t ih =>
  intro r0;have e:KV (putK kvs p.1 p.2) (stored vs q.1 q.2):=by
   have:=r0.put p.1 h.2;rw [<- h.1]; exact this
  exact ih e
theorem Uk:∀ (more kvs:List (Key×V)),(P0 kvs more).length<=kvs.length+more.length
 | [],kvs=>by show kvs.length<=kvs.length+0; lia
 | p::r,kvs=>by
  have h1:=Uk r (putK kvs p.1 p.2);have h2:=Yl kvs p.1 p.2;show (P0 (putK kvs p.1 p.2) r).length<=_;rw [Jq]; lia
theorem Rz :∀ {kvs:List (Key×V)} {ws:List (Value×Value)},VV (kvs.map fun kv=>(kV kv.1,kv.2)) ws->∃ rs,Carries (Z3 P w) ws rs/\KV kvs rs
 | [],_,r=>by rw [List.map_nil] at r; cases r;exists [],True.intro,.nil
 | p::kvs,_,r=>by
  rw [Ju] at r;cases r with
  | @cons a b as bs h t =>
   obtain ⟨rs,c,q⟩:∃ rs,Carries (Z3 P w) bs rs/\KV kvs rs:=Rz t;obtain ⟨b1,b2⟩:=b;exists (p.1,b2)::rs,⟨Qq h.1,rfl,c⟩,.cons ⟨rfl,h.2⟩ q
def Zpb (trs:List (TE×TE)):TE:=fun σ H Q=>∀ p,H p=none->Zbu trs σ (upd H p (.dK [])) fun ps H2=>H2 p=some (.dK [])/\∃ kvs:List (Key×V),ps=kvs.map (fun kv=>(kV kv.1,kv.2))/\kvs.length<=15/\Q (.ref p) (upd H2 p (.dK (P0 [] kvs)))
theorem Zm0 {keys:List (Option Expr)} {values:List Expr} {trs:List (TE×TE)} (h:PPs X pos keys values trs) (hall:keys.all (·.isSome)=true) (hl:keys.length=values.length) (h0:keys≠[])
  (h15:keys.length<=15):PE X (.Dict keys values pos) (Zpb trs):=by
 intro pq s σ H Q I q;have hn:=I.hok.fresh (Jd s.heap.objs.size);have I1:=I.laid (a:=s.heap.objs.size) (o:=.dK []) (h':=s.heap.push { cls:=.type "dict",data:=.dict #[] }) (t':=s.toks) (fun _ _ q=>Fx _ q) (Jd _) (Zc5 s.heap I.big);refine wpAny_Dict_walk (knd:=Z3 X.prog X.w) hall hl h0 h15 (thn (h pq _ σ _ _ I1 (q _ hn)) fun ws s2 hz=>?_);obtain ⟨ps,H2,I2,rel,e,kvs,ep,lk,q2⟩:=hz;subst ep;obtain ⟨rs,c,rk⟩:=Rz (P:=X.prog) (w:=X.w) rel;obtain ⟨z,hd,vs0,r0,dd⟩:=Zbh I2.hok e;cases r0;refine ⟨rs,c,dd,fun h' dd' hs=>⟨.ref s.heap.objs.size,_,?_,rfl,q2⟩⟩;have hz:(P0 [] kvs).length<=sizeLine:=by
  have h1:=Uk kvs [];rw [Bl] at h1;rw [sizeLine_eq]; lia
 have he:∃ q,h'.get? s.heap.objs.size=some q:=let ⟨q,_,_,hq,_⟩:=dd'; ⟨q,hq⟩
 exact Wx I2 (by rw [e]; exact True.intro) hs he (Nk hz hd (rk.merge .nil) dd')
structure M1 (X:Cx) (o:Expr) (m:Str) (apos:Pos) (e:Expr) (cpos:Pos):Prop where
 base:attributeBase o m X.env (eval o X.env)=eval o X.env
 few:((backTo cpos (starEach [e] X.env)).all (fun x=>!x.1) && (backToKw cpos (keywordEach [] X.env)).all (fun x=>x.1.isSome)
  && decide (([e]:List Expr).length+([]:List Keyword).length+(if ([]:List Keyword).isEmpty then 0 else 1)<30))=true
 line:(apos.endLine == cpos.line)=true
 trees:backTo cpos (starEach [e] X.env)=[(false,eval e X.env)]
structure M2 (X:Cx) (o:Expr) (m:Str) (apos:Pos) (e f:Expr) (cpos:Pos):Prop where
 base:attributeBase o m X.env (eval o X.env)=eval o X.env
 few:((backTo cpos (starEach [e,f] X.env)).all (fun x=>!x.1) && (backToKw cpos (keywordEach [] X.env)).all (fun x=>x.1.isSome)
  && decide (([e,f]:List Expr).length+([]:List Keyword).length+(if ([]:List Keyword).isEmpty then 0 else 1)<30))=true
 line:(apos.endLine == cpos.line)=true
 trees:backTo cpos (starEach [e,f] X.env)=[(false,eval e X.env),(false,eval f X.env)]
def IsD (H:Hp) (a:Addr):Prop:=(∃ kvs,Rd H a (.dK kvs))\/∃ kvs,Rd H a (.dT kvs)
def isD_at {a:Addr} (I:Inv X pq σ H s) (d:IsD H a) :
  s.TypeIs (.ref a) "dict"/\(∀ b,Value.ref a=.ref b->∃ ob,s.heap.get? b=some ob/\ob.dict=none)/\(a == sysModules)=false:=by
 rcases d with ⟨kvs,e⟩ | ⟨kvs,e⟩
 ·obtain ⟨_,hd,vs,_,dd⟩:=Zg7 I.hok e;exists dd.typeIs,fun b q=>?_,hd;cases q;obtain ⟨ob,_,_,h1,h2,_⟩:=dd;exists ob,h1,h2.2.1
 ·obtain ⟨_,hd,xs,_,dd⟩:=Zjm I.hok e;exists dd.typeIs,fun b q=>?_,hd;cases q;obtain ⟨ob,_,_,h1,h2,_⟩:=dd;exists ob,h1,h2.2.1
section
variable {a:Addr} {u:Value} {o:Option V} 
def Zrj {Q:Value->Shared->Prop} (hu:A.units+1<cLine) (I:Inv X pq σ H s) (g:DGet H a y o) (ry:RelV y u) (h:∀ w' s',Inv X pq σ H s'->RelV (o.getD .non) w'->Q w' s') :
  wpAny (model X.prog X.w) A (call (.builtin "dict.get") [.ref a,u]) Q E s:=by
 rcases g with ⟨kvs,k,e,ey,l⟩ | ⟨kvs,k,b,e,ey,eb,l⟩
 ·subst ey;obtain ⟨z,hd,vs,rel,dd⟩:=Zg7 I.hok e;refine call_meetsIn PySem.F.slot_dict_get dd.typeIs PySem.F.entry_dict_get (PySem.F.args_dict_get_2 _ _) (meets_dict_get (Z3 X.prog X.w) a (Qq ry) hd) ⟨_,dd.mapOf,h _ _ (I.tok _) ?_⟩;rw [l];exact (rel.val k).getD rfl
 ·subst ey;cases (show u=Value.ref b from ry);obtain ⟨z,hd,xs,rel,dd⟩:=Zjm I.hok e;refine call_meetsIn PySem.F.slot_dict_get dd.typeIs PySem.F.entry_dict_get (PySem.F.args_dict_get_2 _ _) (meetsH_dict_get (tupleKind (Z3 X.prog X.w)) a b hd) ⟨tupleKind_room_in1 hu,k,xs,P6 I.hok eb,dd,h _ _ (I.tok _) ?_⟩;rw [l];exact (rel.val k).getD rfl
end
def Zpd (td ty:TE):TE:=fun σ H Q=>td σ H fun x H1=>∃ a,x=.ref a/\IsD H1 a/\ty σ H1 fun y H2=>∃ o,DGet H2 a y o/\Q (o.getD .non) H2
def Zka (td ty tx:TE):TE:=fun σ H Q=>td σ H fun x H1=>∃ a,x=.ref a/\IsD H1 a/\ty σ H1 fun y H2=>tx σ H2 fun z H3=>∃ kvs k,H3 a=some (.dK kvs)/\y=kV k /\
 (∀ v,valV kvs k=some v->Q v (upd H3 a (.dK (Zbg kvs k))))/\(valV kvs k=none->Q z H3)
section
variable {o e f:Expr} {ty tx:TE}
def Zi4 (hu:X.A.units+1<cLine) (ho:PE X o td) (he:PE X e ty) (m:M1 X o "get" apos e cpos):PE X (.Call (.Attribute o "get" apos) [e] [] cpos) (Zpd td ty):=by
 intro pq s σ H Q I h;refine wpAny_Call_method m.base m.few m.line PySem.F.plainAttrs_dict PySem.F.slot_dict_get PySem.F.type_dict_get (thn (ho pq s σ H _ I h) fun u s1 hz=>?_);obtain ⟨x,H1,I1,rx,a,ex,d,q1⟩:=hz;subst ex;obtain rfl:u=Value.ref a:=rx;obtain ⟨t1,t2,_⟩:=isD_at I1 d;exists t1,t2,?_;rw [m.trees];refine Calls.callWith_builtin rfl (Calls.evalArgs_plain (Calls.spliced_cons (thn (he pq s1 σ H1 _ I1 q1) fun iv s2 ⟨y,H2,I2,ry,ov,g,q2⟩=>Calls.spliced_nil ?_)));exact Zrj hu I2 g ry fun w' s3 I3 rw'=>⟨_,H2,I3,rw',q2⟩
theorem Zi2 (ho:PE X o td) (he:PE X e ty) (hf:PE X f tx) (m:M2 X o "pop" apos e f cpos):PE X (.Call (.Attribute o "pop" apos) [e,f] [] cpos) (Zka td ty tx):=by
 intro pq s σ H Q I h;refine wpAny_Call_method m.base m.few m.line PySem.F.plainAttrs_dict PySem.F.slot_dict_pop PySem.F.type_dict_pop (thn (ho pq s σ H _ I h) fun u s1 hz=>?_);obtain ⟨x,H1,I1,rx,a,ex,d,q1⟩:=hz;subst ex;obtain rfl:u=Value.ref a:=rx;obtain ⟨t1,t2,_⟩:=isD_at I1 d;refine ⟨t1,t2,?_⟩;rw [m.trees];refine Calls.callWith_builtin rfl (Calls.evalArgs_plain (Calls.spliced_cons (thn (he pq s1 σ H1 _ I1 q1) fun iv s2 ⟨y,H2,I2,ry,q2⟩ =>
  Calls.spliced_cons (thn (hf pq s2 σ H2 _ I2 q2) fun fv s3 ⟨z,H3,I3,rz,kvs,k,ea,ey,q3,q4⟩=>Calls.spliced_nil ?_))))
 subst ey;cases l:valV kvs k with
 | some v=>exact Zti I3 ea ry l (.inr ⟨fv,rfl⟩) fun w' s4 I4 rw'=>⟨v,_,I4,rw',q3 v l⟩
 | none=>exact Zri I3 ea ry l fun s4 I4=>⟨z,H3,I4,rz,q4 l⟩
end
end L2
namespace Att
open PySem PySem.W PySem.Calls PyProof.Rows
theorem Sh {P:Params} :∀ (ns:List Int) (vs:List Value),WellAll P h vs (ns.map WData.int)->IntsAre vs ns:=by
 intro ns
 induction ns with
 | nil =>
  intro vs w;rw [List.map_nil] at w;cases w;exact .nil
 | cons n ns ih =>
  intro vs w;rw [Ju] at w;cases w with
  | cons a b =>
   cases a;exact .cons _ _ (ih _ b)
theorem Ze7 {l:OpenLaw} {n:Nat} (hn:l.most=some n) {P:Params} {args:List WData} {vals:List Value}
  (hpre:l.row.toRowW.claim.pre args=true) (hwl:WellAll P h vals args) :
  ∃ a vs ns,vals=[Value.ref a]/\args=[WData.list (ns.map WData.int)]/\h.get? a=some { cls:=.type "list",data:=.seq vs.toArray }/\IntsAre vs ns/\ns.length<=n:=by
 have hsh:WShape.hasAll [] args [.list .int]=true:=(pre_splitW hpre).1;have hc:l.pre.holds [] { args:=args }=true:=(pre_splitW hpre).2;obtain ⟨d,r,rfl,h1,h2⟩:=hasAllW_cons hsh;obtain rfl:=hasAllW_nil h2;obtain ⟨xs,rfl,h3⟩:=hasW_list h1;obtain ⟨ns,rfl⟩:=items_int h3;have hlen:ns.length<=n:=by
  unfold OpenLaw.pre at hc;have h4:(WTm.not (.lt (.lit (.int (n:Int))) (.len (.arg 0)))).holds [] { args:=[.list (ns.map .int)] }=true:=by
   have h4:=(holds_andW hc).1;rw [hn] at h4;exact h4
  have h5:=condW_of h4 (w_not (w_lt w_lit (w_len_list (w_arg rfl))));rw [Ja] at h5;refine Nat.le_of_not_lt fun q=>?_;have q':(n:Int)<((ns.length:Nat):Int):=by lia
  first
   | (rw [F2 q'] at h5; exact Fs h5 nofun)
   | (simp at h5; lia)
 cases hwl with
 | cons w1 w2 =>
  cases w2;cases w1 with
  | list ho hall=>exact ⟨_,_,ns,rfl,rfl,ho,Sh ns _ hall,hlen⟩
def Zfx (l:OpenLaw) (args:List WData):l.row.toRowW.claim.post args (.bool true) args=true :=
 postW_of (r:=l.row.toRowW) (X:=(true == true))
  (show WShape.has [] (.bool true) .bool=true by first | rfl | decide | simp [WShape.has,WShape.arms,WShape.armsAll])
  (show (WTm.eq .res (.lit (.bool true))).value [] { args:=args,res:=some (.bool true),after:=args }=some (.bool (true == true)) from w_eq_bool (w_res rfl) w_lit) rfl
def attach_call {l:OpenLaw} {n:Nat} {q:Program} {loose:List Str} {XP:(Str->Option Value)->Heap->Prop} {YP:World->Heap->Prop} {d:DefRec}
  (hn:l.most=some n) (hdf:d.params.defaults=[])
  (call:∀ (w:World) (s₀ s₁:Shared) (mg mb:Str->Option Value) (fa:Addr) (o:Obj) (pm cd doc:Value) (a:Addr) (vs:List Value) (ns:List Int),
   Ground q loose [] XP w s₀ mg mb s₁.heap->YP w s₁.heap ->
   s₁.heap.get? fa=some o->o.data=.func (docDef d.name d.params d.body d.scope pm cd doc)->s₁.heap.CodeRec cd d.name->mg d.name=some (.ref fa) ->
   s₁.heap.get? a=some { cls:=.type "list",data:=.seq vs.toArray }->IntsAre vs ns->ns.length<=n->s₁.gens=#[] ->
   codeAny (model l.prog w) callerA (.call (.ref fa) ⟨[.ref a],[]⟩) (fun r s'=>r=.ok (.ret (.bool true))/\OldK s₁.heap s'.heap/\s'.os=s₁.os/\AllBare s'.gens) s₁) :
  WalkO q loose XP YP l.row.toRowW d [] (fun f vs=>PySem.call f vs):=by
 intro w s₀ s₁ mg mb G Y fa o pm cd doc dV kV ho hd hcd hD hmg hg args vals as hpre hlay hrd hwl hlo;obtain rfl:dV=.none:=Dflts.none hD hdf;obtain rfl:kV=.none:=Dflts.noKw hD;obtain ⟨a,vs,ns,rfl,rfl,hobj,hints,hlen⟩:=Ze7 hn hpre hwl;refine enter_call (codeAny_mono (call w s₀ s₁ mg mb fa o pm cd doc a vs ns G Y ho (fd_plain hd) hcd hmg hobj hints hlen hg) fun r s' hq=>?_);obtain ⟨rfl,h2,h3,h4⟩:=hq;exists .inl ⟨.bool true,.bool true,[],rfl,fun _=>rfl,.bool true,Zfx l _,fun _=>⟨List.Pairwise.nil,fun _ hm=>(nomatch hm)⟩⟩,h2,h3,h4
end Att
namespace L2
open PySem PySem.Spec PyProof.Rows
theorem Pc:∀ {vs:List Value} {ns:List Int},IntsAre vs ns->Vals (ns.map V.int) vs:=by
 intro _ _ hz9;cases hz9 with
 | nil=>
  exact .nil
 | cons n t h=>
  exact .cons ⟨t,rfl⟩ (Pc h)
def Qs (s:Stmt) (j:Nat):Stmt:=match s with
 | .ClassDef _ _ _ body _ _ _ _ _ _ _=>body.getD j (.Pass ⟨0,0,0,0⟩)
 | _=>.Pass ⟨0,0,0,0⟩
def Yv (s:Stmt):Arguments:=match s with
 | .FunctionDef _ a _ _ _ _ _ _ _ _=>a
 | _=>{ posonlyargs:=[],args:=[],vararg:=none,kwonlyargs:=[],kw_defaults:=[],kwarg:=none,defaults:=[] }
def Yn (s:Stmt):List Stmt:=match s with
 | .FunctionDef _ _ b _ _ _ _ _ _ _=>b
 | _=>[]
def Zf (s:Stmt):Scope:=match s with
 | .FunctionDef _ _ _ _ _ _ sc _ _ _=>sc
 | _=>{ kind:=.function,names:=[],isGenerator:=false,isCoroutine:=false }
abbrev CX0:CXT:=fun _ _ _ _ _ _=>False
abbrev E0:XK:=fun _ _ _=>False
def Zi5 :Sy CX0 X E0:=fun _ _ _ _ _ _ _ h=>h.elim
structure Fun (K:W.Frag) (x qual:Str) (st:Stmt) (f:Addr) (fd:FuncData):Prop where
 ex:∃ (oc:Value) (od:Option Addr) (kV doc pm:Value) (an:Option Addr) (cdv ct:Value) (osl:Array (Option Value)),
  fd=W.fnOf x qual (Yv st) (Yn st) (Zf st) .none kV doc pm an cdv ct/\K.lookup f=some ⟨oc,od,.func fd,osl⟩/\W.codeIn K cdv qual=true
 kp:W.keepIn K (.ref f)=true
section
def Fun.ok {x:Str} {f:Addr} {k:Nat} (F:Fun K x qual st f fd) (S:FnScope N ps (Zf st)) (len:∀ vs H Q E,sp vs H Q E->vs.length=ps.length)
  (hbody:∀ (cdv:Value) (A:Around) (outer:List Env) (s:Shared) (H:Hp) (vs:List V) (Q:VK) (E:XK),Room k (A.deeper (envOfC qual (Zf st) s.heap.objs.size f cdv))->sp vs H Q E ->
   ∃ t,PSs (cxOf CX0 P w K mg base N qual (Zf st) f cdv A outer s H E).nox (Yn st) t/\t { nx:=fun _ H'=>Q .non H',rt:=Q } (Uc N vs) H):FnOk P w K mg base CX0 (k+1) f fd ps sp:=by
 obtain ⟨oc,od,kV,doc,pm,an,cdv,ct,osl,rfl,lk,hcd⟩:=F.ex;refine Zrb lk hcd S len fun A outer s H vs Q E hr hsp=>?_;obtain ⟨t,h,q⟩:=hbody cdv A outer s H vs Q E hr hsp;exists t,h.nox,q
def Fun.binds {x:Str} {f:Addr} (F:Fun K x qual st f fd)
  (h:∀ (kV doc pm:Value) (an:Option Addr) (cdv ct:Value) (us:List Value),us.length=ps.length->bindArgs (W.fnOf x qual (Yv st) (Yn st) (Zf st) .none kV doc pm an cdv ct) ⟨us,[]⟩=pure (ps.zip us)):U8 K fd ps []:=by
 obtain ⟨oc,od,kV,doc,pm,an,cdv,ct,osl,rfl,lk,hcd⟩:=F.ex;exact .all (h kV doc pm an cdv ct)
def Zcy {x:Str} {f:Addr} {osl:Array (Option Value)} {kV:Value} (l:K.lookup f=some ⟨oc,od,.func (W.fnOf x qual (Yv st) (Yn st) (Zf st) .none kV doc pm an cdv ct),osl⟩)
  (c:W.codeIn K cdv qual=true) (k:W.keepIn K (.ref f)=true):Fun K x qual st f (W.fnOf x qual (Yv st) (Yn st) (Zf st) .none kV doc pm an cdv ct):=⟨⟨oc,od,kV,doc,pm,an,cdv,ct,osl,rfl,l,c⟩,k⟩
end
def Xl {k:Nat} (hr:Room k A):A.units+1<cLine:=Bg (Nat.add_le_add_left (by decide:1<=64) _) hr.units
section
def pv (i:Nat) {x:Str} (hN:X.N[i]?=some x:=by rfl) (hv:Vis X.env.scope x:=by first | left; rfl | right; left; rfl | right; right; rfl) (hd:(x == ("__debug__":Str))=false:=by decide)
  (hcd:(x == ("__classdict__":Str))=false:=by decide):PE X (.Name x pos) (tVar i):=Zqj hN hv hd hcd
end
def iteF {A:Prop} (h:B):if false=true then A else B:=by
 rw [F0 Jp];exact h
def iteT {A:Prop} (h:A):if true=true then A else B:=by
 rw [F1 rfl];exact h
def ite2 {c A:Prop} [Decidable c] (h1:c->A) (h2:¬ c->B):if c then A else B:=by
 by_cases h:c
 ·rw [F1 h];exact h1 h
 ·rw [F0 h];exact h2 h
def Zq4 {c A:Prop} [Decidable c] (hc:c) (h:B):if (!decide c)=true then A else B:=by
 rw [F2 hc];exact iteF h
def Same (H H':Hp):Prop:=∀ b o,H b=some o->H' b=some o
def Same.refl (H:Hp):Same H H:=fun _ _ h=>h
def Same.trans {H2:Hp} (a:Same H H1) (b:Same H1 H2):Same H H2:=fun c o h=>b c o (a c o h)
theorem Same.free (e:Same H H') (h:H' l=Option.none):H l=Option.none:=by
 cases q:H l with
 | none=>rfl
 | some o =>
  rw [e l o q] at h;cases h
def Same.seq {a:Addr} (e:Same H H') (h:SqL K H a xs):SqL K H' a xs:=by
 rcases h with (h | ⟨o,h⟩) | h
 ·exact .inl (.inl (e _ _ h))
 ·exact .inl (.inr ⟨o,e _ _ h⟩)
 ·exact .inr h
end L2
namespace L2
open PySem
def Xw (cells:List (Str×Addr)):List (Str×NameKind)->List (Str×Addr)->List (Str×Addr)
 | [],acc=>acc
 | (n,k)::r,acc=>if k == .free then Xw cells r ((n,(cells.lookup n).getD 0)::acc) else Xw cells r acc
def Zhk (env:Env) (l:List (Str×NameKind)) (acc:List (Str×Addr)):Sem (List (Str×Addr)):=do
 let mut cs:=acc
 for (name,kind) in l do
  if kind == .free then cs:=(name,<- cellOf env name)::cs
 return cs
theorem Ry {env:Env}:∀ (l:List (Str×NameKind)) (acc:List (Str×Addr)),(∀ y∈l,y.2=.free->∃ c,env.cells.lookup y.1=some c) ->
  Zhk env l acc=pure (Xw env.cells l acc)
 | [],acc,_=>rfl
 | (n,k)::r,acc,h=>by
  have ih:=fun acc=>Ry r acc fun y hy=>h y (Jg _ hy);unfold Zhk at ih ⊢;rw [Xw];cases hk:(k == NameKind.free) with
  | false =>
   simp only [List.forIn_cons,hk,Gc,if_false,pure_bind] at ih ⊢;exact ih acc
  | true =>
   obtain ⟨c,hc⟩:=h (n,k) Jm (by simpa using hk);have hc':env.cells.lookup n=some c:=hc;simp only [List.forIn_cons,hk,if_true,cellOf,hc',pure_bind,Option.getD_some] at ih ⊢;exact ih _
def Rx {scope:Scope} {env:Env} (h:∀ y∈scope.names,y.2=.free->∃ c,env.cells.lookup y.1=some c):closureFor scope env=pure (Xw env.cells scope.names []) :=
 Ry scope.names [] h
theorem V6 {cells:List (Str×Addr)} {x:Str} {c:Addr}:∀ {l:List (Str×NameKind)} {acc:List (Str×Addr)},(∀ y∈l,y.2=.free->∃ c,cells.lookup y.1=some c) ->
  (Xw cells l acc).lookup x=some c->acc.lookup x=some c\/cells.lookup x=some c
 | [],acc,_,h=>.inl h
 | (n,k)::r,acc,hl,h=>by
  rw [Xw] at h
  by_cases hk:(k == NameKind.free)=true
  ·rw [F1 hk] at h;obtain ⟨c',hc⟩:=hl (n,k) Jm (by simpa using hk);have hc':cells.lookup n=some c':=hc;rcases V6 (fun y hy=>hl y (Jg _ hy)) h with z | z
   ·rw [G8,hc'] at z;cases hx:(x == n) with
    | true =>
     rw [hx] at z;have e:x=n:=by simpa using hx
     subst e;have z':c'=c:=by simpa using z
     subst z';exact .inr hc'
    | false=>rw [hx] at z; exact .inl z
   ·exact .inr z
  ·rw [F0 hk] at h;exact V6 (fun y hy=>hl y (Jg _ hy)) h
theorem Ve {cells:List (Str×Addr)} {x:Str}:∀ {l:List (Str×NameKind)} {acc:List (Str×Addr)},(∃ c,acc.lookup x=some c)->∃ c,(Xw cells l acc).lookup x=some c
 | [],acc,h=>h
 | (n,k)::r,acc,h=>by
  rw [Xw]
  by_cases hk:(k == NameKind.free)=true
  ·rw [F1 hk];refine Ve ?_;rw [G8];cases hx:(x == n) with
   | true=>exact ⟨_,rfl⟩
   | false=>exact h
  ·rw [F0 hk];exact Ve h
theorem Vs {cells:List (Str×Addr)} {x:Str}:∀ {l:List (Str×NameKind)} {acc:List (Str×Addr)},(x,NameKind.free)∈l->∃ c,(Xw cells l acc).lookup x=some c
 | [],acc,h=>nomatch h
 | (n,k)::r,acc,h=>by
  rw [Xw];rcases Jy.mp h with e | h
  ·cases e;rw [F1 (by rfl)];refine Ve ?_;rw [G8,beq_self_eq_true];exists ·
  ·by_cases hk:(k == NameKind.free)=true
   ·rw [F1 hk]; exact Vs h
   ·rw [F0 hk]; exact Vs h
def Va {scope:Scope} {env:Env} (nc:∀ y∈scope.names,y.2≠.cell) {x:Str} (h:(relabel scope env).names.lookup x=some .cell\/(relabel scope env).names.lookup x=some .free):(x,NameKind.free)∈scope.names:=by
  have go:∀ (l:List (Str×NameKind)),(∀ y∈l,y.2≠.cell) ->
      ((l.map fun (n,k)=>if (k == NameKind.free && env.scope.kind == .function && env.kindOf n == some .cell) then (n,NameKind.cell) else (n,k)).lookup x=some .cell \/
       (l.map fun (n,k)=>if (k == NameKind.free && env.scope.kind == .function && env.kindOf n == some .cell) then (n,NameKind.cell) else (n,k)).lookup x=some .free)->(x,NameKind.free)∈l:=by
    intro l
    induction l with
    | nil=>intro _ h; rcases h with h | h <;> cases h
    | cons a r ih =>
      obtain ⟨n,k⟩:=a;intro nc h;have nck:k≠.cell:=nc (n,k) Jm;simp only [Ju] at h
      by_cases hx:(x == n)=true
      · have e:x=n:=by simpa using hx
        subst e
        by_cases hk:k=.free
        · subst hk; exact Jm
        · have hb:(k == NameKind.free)=false:=by simpa using hk
          simp only [hb,Bool.false_and,Gc,if_false,G8,beq_self_eq_true] at h;rcases h with h | h
          · exact Fs (F5 h) nck
          · exact Fs (F5 h) hk
      · have hx':(x == n)=false:=by simpa using hx
        refine Jg _ (ih (fun y hy=>nc y (Jg _ hy)) ?_);have el:∀ (p:Str×NameKind) (t:List (Str×NameKind)),p.1=n->(p::t).lookup x=t.lookup x:=by
          intro p t e;obtain ⟨a,b⟩:=p;have e':a=n:=e;subst e';rw [G8,hx']
        rw [el _ _ (by split <;> rfl)] at h;exact h
  exact go scope.names nc h
def Ug {scope:Scope} {env:Env} {x:Str} (h:(relabel scope env).names.lookup x=some .local):scope.names.lookup x=some .local:=by
 have go:∀ (l:List (Str×NameKind)),
   (l.map fun (n,k)=>if (k == NameKind.free && env.scope.kind == .function && env.kindOf n == some .cell) then (n,NameKind.cell) else (n,k)).lookup x=some .local->l.lookup x=some .local:=by
  intro l
  induction l with
  | nil=>intro h; cases h
  | cons a r ih =>
   obtain ⟨n,k⟩:=a;intro h;simp only [Ju] at h
   by_cases hx:(x == n)=true
   ·have e:x=n:=by simpa using hx
    subst e
    by_cases hc:(k == NameKind.free && env.scope.kind == .function && env.kindOf x == some .cell)=true
    ·rw [F1 hc,G8,beq_self_eq_true] at h;cases h
    ·rw [F0 hc,G8,beq_self_eq_true] at h;rw [G8,beq_self_eq_true];exact h
   ·have hx':(x == n)=false:=by simpa using hx
    have el:∀ (p:Str×NameKind) (t:List (Str×NameKind)),p.1=n->(p::t).lookup x=t.lookup x:=by
     intro p t e;obtain ⟨a,b⟩:=p;have e':a=n:=e;subst e';rw [G8,hx']
    rw [el _ _ (by split <;> rfl)] at h;rw [el _ _ rfl];exact ih h
 exact go scope.names h
end L2
namespace L2
open PySem PySem.Spec PyProof.Rows
def nbOf (N T:List Str) (cs:List Nat):List Str:=T++cs.map fun i=>N.getD i Str.empty
def sgOf (σ:St) (T:List Str) (cs:List Nat):St:=T.map (fun _=>none)++cs.map fun i=>σ.getD i none
structure CScope (outer scope:Scope) (N T:List Str) (cs:List Nat):Prop where
 kind:scope.kind=.function
 nocell:∀ y∈scope.names,y.2≠.cell
 names:∀ y∈scope.names,y.2=.local->scope.names.lookup y.1=some .local
 free:∀ y∈scope.names,y.2=.free->outer.names.lookup y.1=some .cell\/outer.names.lookup y.1=some .free
 cap:∀ i∈cs,scope.names.lookup (N.getD i Str.empty)≠some .local
def Zhg (outer scope:Scope) (N:List Str) (cs:List Nat):Bool :=
 decide (scope.kind=.function) && (scope.names.all (fun y=>!decide (y.2=NameKind.cell)) && (scope.names.all (fun y=>!decide (y.2=NameKind.local) || decide (scope.names.lookup y.1=some NameKind.local)) &&
  (scope.names.all (fun y=>!decide (y.2=NameKind.free) || (decide (outer.names.lookup y.1=some NameKind.cell) || decide (outer.names.lookup y.1=some NameKind.free))) && cs.all (fun i=>!decide (scope.names.lookup (N.getD i Str.empty)=some NameKind.local)))))
def CScope.ok {outer scope:Scope} {T:List Str} (h:Zhg outer scope N cs=true):CScope outer scope N T cs:=by
 unfold Zhg at h;simp only [Gy,Ff,Bc,decide_eq_true_eq,Bool.not_eq_true',decide_eq_false_iff_not] at h;obtain ⟨h1,h2,h3,h4,h5⟩:=h;exists h1,h2,fun y hy e=>(h3 y hy).resolve_left (fun q=>q e),fun y hy e=>(h4 y hy).resolve_left (fun q=>q e),h5
def Yz {l:List Str} (h:decide l.Nodup=true):l.Nodup:=Fq h
def blk (X:Cx) (T:List Str) (cs:List Nat) (scope:Scope) (C:Addr) (s₀:Shared) (H₀:Hp) (ex:List Addr):Cx where
 prog:=X.prog
 w:=X.w
 K:=X.K
 mg:=X.mg
 base:=X.base
 A:=X.A
 N:=nbOf X.N T cs
 s₀:=s₀
 H₀:=H₀
 env:=compEnvC scope (Xw X.env.cells scope.names []) C X.env
 outer:=X.stack
 stack:=X.stack
 ex:=ex
 fn:=fun _=>false
 calm:=X.calm
 pn:=[]
 xe:=fun _ _=>False
section
variable {scope:Scope} {T:List Str} 
def Inv.hl (I:Inv X pq σ H s) (S:CScope X.env.scope scope X.N T cs):∀ y∈scope.names,y.2=.free->∃ c,X.env.cells.lookup y.1=some c :=
 fun y hy e=>I.ok.has y.1 (S.free y hy e)
def Inv.clo (I:Inv X pq σ H s) (S:CScope X.env.scope scope X.N T cs) {x:Str} {c:Addr} (h:(Xw X.env.cells scope.names []).lookup x=some c):X.env.cells.lookup x=some c :=
 (V6 (I.hl S) h).resolve_left (by simp)
theorem Zni (I:Inv X pq σ H s) (S:CScope X.env.scope scope X.N T cs) (hf:∀ b∈fp,FpOk X pq H b) (hfe:∀ b∈fp,∃ o,s.heap.get? b=some o) {C:Addr} {h1:Heap} {m:Str->Option Value} {tk:Nat}
  (hC:s.heap.objs.size<=C) (ns:h1.Ns C m) (k:∀ b o,s.heap.get? b=some o->h1.get? b=some o) :
  Inv (blk X T cs scope C s H fp) [] (sgOf σ T cs) H { s with heap:=h1,toks:=tk }:=by
 have fr:H C=none:=I.hok.fresh hC;have cellS:∀ {c:Addr} {v:Option Value},s.heap.IsCell c v->h1.IsCell c v:=fun ⟨o,e,d⟩=>⟨o,k _ o e,d⟩;refine ⟨⟨I.ok.mod,S.kind,I.ok.glob,I.ok.blt,hC,fun x y c e1 e2=>I.ok.inj x y c (I.clo S e1) (I.clo S e2),fun x hx=>Vs (Va S.nocell hx),fun x c h _=>Fs (show false=true from h) Jp,
  I.ok.hd,I.ok.frames,.inl rfl,fun b hb=>⟨?_,fun x c e=>(hf b hb).2.2.2.2.1 x c (I.clo S e)⟩,I.bs,J8 I.ok.bsz I.sz,fun b o e hb=>?_,fun b hb z=>?_,I.stack,I.stkFree⟩,
  rfl,I.bare,Un.kept k,⟨m,ns,fun i x v h1' h2' h3'=>?_⟩,fun x c e=>?_,fr,fun x c e=>I.freeC x c (I.clo S e),fun p hp=>Fs (show p∈([]:List (Addr×Obj)) from hp) (by simp),I.hok.kept k,?_⟩
 ·obtain ⟨o,e⟩:=hfe b hb;exact Gf (Gb (Fz e) hC)
 ·rcases (hf b hb).2.2.2.1 with z | z
  ·exact I.ok.noex b o e z
  ·exact Fs (Gb (Gb (Fz e) I.ok.bsz) z) (G2 _)
 ·rcases Jy.mp (I.stkSub b z) with e | e
  ·exact (hf b hb).2.1 e
  ·exact (hf b hb).2.2.1 e
 ·have h2:(sgOf σ T cs)[i]?=some (some v):=h2';have h1'':(nbOf X.N T cs)[i]?=some x:=h1';unfold sgOf at h2;unfold nbOf at h1''
  by_cases hi:i<T.length
  ·rw [Jv (by simpa using hi),Gg] at h2;cases e:T[i]? with
   | none=>rw [e] at h2; cases h2
   | some a=>rw [e] at h2; cases h2
  ·rw [Go (by simpa using hi),Gg,Ja] at h2;rw [Go (by lia),Gg] at h1'';cases e:cs[i-T.length]? with
   | none=>rw [e] at h2; cases h2
   | some c0 =>
    rw [e] at h2 h1'';have ex:X.N.getD c0 Str.empty=x:=F5 h1'';have ev:σ.getD c0 none=some v:=F5 h2;have eσ:σ[c0]?=some (some v):=by
     rw [Gk] at ev;cases q:σ[c0]? with
     | none=>rw [q] at ev; cases ev
     | some z=>rw [q] at ev; exact congrArg some ev
    have hlt:c0<X.N.length:=by
     have:=(Je.mp eσ).1;rw [I.len] at this;exact this
    have eN:X.N[c0]?=some x:=by
     rw [Gk,Jb hlt] at ex;rw [Jb hlt];exact congrArg some ex
    have hfree:(x,NameKind.free)∈scope.names:=by
     rcases h3' with z | z | z
     ·exact Fs (Ug z) (by rw [<- ex]; exact S.cap c0 (Gv e))
     ·exact Va S.nocell (.inl z)
     ·exact Va S.nocell (.inr z)
    have ok:=S.free _ hfree rfl;obtain ⟨m',hn',hl'⟩:=I.loc;obtain ⟨u,r,l⟩:=hl' c0 x v eN eσ (.inr ok);exists u,r,?_;rcases l with ⟨kd,_⟩ | ⟨_,c,ec,z⟩
    ·have kd':X.env.scope.names.lookup x=some .local:=kd;rcases ok with q | q <;> (rw [show X.env.scope.names.lookup x=_ from q] at kd'; cases kd')
    ·obtain ⟨c',ec'⟩:=Vs (cells:=X.env.cells) (acc:=[]) hfree;have:c'=c:=by
      have q:=I.clo S ec';rw [ec] at q;exact (F5 q).symm
     subst this;refine .inr ⟨?_,c',ec',cellS z⟩;rcases h3' with q | q | q
     ·exact Fs (Ug q) (by rw [<- ex]; exact S.cap c0 (Gv e))
     ·exact .inl q
     ·exact .inr q
 ·obtain ⟨v,z⟩:=I.cell x c (I.clo S e);exists v,cellS z
 ·show (sgOf σ T cs).length=(nbOf X.N T cs).length;simp [sgOf,nbOf]
def Inv.track {D:Addr} {n:Nat} (I:Inv X pq σ H s) (hD:s.heap.get? D=some { cls:=.type "list",data:=.seq its.toArray n }) (f:FpOk X pq H D) (rv:Vals ys its) (hz:ys.length<=sizeLine) :
  Inv X pq σ (upd H D (.lst ys)) s:=by
 obtain ⟨f0,f1,f2,f3,f4,f5⟩:=f;have hok:HOk X.prog X.w (upd H D (.lst ys)) s.heap:=fun b u e=>by
  by_cases hb:b=D
  ·subst hb;rw [Zg] at e;cases e;exists hz,its,n,rv,hD
  ·rw [Zm hb] at e;exact (I.hok b u e).stay (fun _ _ _ q=>q) (fun c q=>by rw [Zm (Zq q f0)]; exact q) fun c xs q=>by rw [Zm (Zq q f0)]; exact q
 have st:=I.step (H':=upd H D (.lst ys)) (h':=s.heap) (g':=s.gens) (t':=s.toks) (d':=s.drawn) (ch:=[D])
  (fun b hb=>by
   have e:b=D:=by simpa using hb
   subst e;exact ⟨f3,f1,f4,f5⟩)
  (fun b o _ _ _ e _=>e) (fun b o _ _ _ e _=>⟨o.slots,e⟩) (fun b o hc e n=>by rw [Zm (fun z=>hc (by simp [z]))]; exact n) (fun b o _ e=>⟨o,e⟩)
  (fun b xs e=>by rw [Zm (Zq e f0)]; exact e) (fun b o u e=>by rw [Zm (Zq e f0)]; exact e) (fun b ps e=>⟨#[],by rw [Zm (Zq e f0),e]; simp⟩) (fun m h=>h) hok I.bare
 exact st
end
section
variable {R:Result->Shared->Prop} 
abbrev Zeo (ifs:List Expr) (env:Env):Sem Bool:=forIn ifs true fun c r=>if r=true then do let ok <- isTrue c env (eval c env); pure (ForInStep.yield ok) else pure (ForInStep.yield r)
theorem Nr {elt target iter:Expr} {ifs:List Expr} {scope:Scope} {it acc:Value} {env:Env} (I:Nat->Shared->Prop)
  (turn:∀ n s,I n s->wpAny (model prog w) A (pyNext it) (fun r s₁=>match r with
   | none=>R (.ok .next) s₁
   | some v=>wpAny (model prog w) A (letOwnedTupleGo target it v) (fun _ s₂=>wpAny (model prog w) A (assign target env v) (fun _ s₃ =>
     wpAny (model prog w) A (Zeo ifs env) (fun ok s₄ =>
      if ok=true then wpAny (model prog w) A (eval elt env) (fun x s₅ =>
       wpAny (model prog w) A (call (.builtin "list.append") [acc,x]) (fun _ s₆=>∃ m,m<n/\I m s₆) (fun _ _=>False) s₅) (fun _ _=>False) s₄
      else ∃ m,m<n/\I m s₄) (fun _ _=>False) s₃) (fun _ _=>False) s₂) (fun _ _=>False) s₁) (fun _ _=>False) s)
  (n:Nat) (h:I n s) :
  codeAny (model prog w) A (.compLoop (.ListComp elt [⟨target,iter,ifs,0⟩] scope pos) 0 it acc env) R s:=by
 refine codeAny_loop rfl I (fun n s hI=>?_) n h;show wpAny _ A ((compTurn (.ListComp elt [⟨target,iter,ifs,0⟩] scope pos) 0 it acc env).onRaise (fun x=>do noteFrame x env; theTreesLotGoes x)) _ _ s;refine wpAny_noted ?_;rw [compTurn_list];refine Fv (wpAny_standAt (Fv (F7 (turn n s hI) (fun r s₁ h₁=>?_) fun _ _ h'=>False.elim h')));cases r with
 | none=>exact Fw h₁
 | some v =>
  refine Fv (F7 h₁ (fun _ s₂ h₂=>?_) fun _ _ h'=>False.elim h');refine Fv (F7 h₂ (fun _ s₃ h₃=>Fv (F7 h₃ (fun ok s₄ h₄=>?_) fun _ _ h'=>False.elim h')) fun _ _ h'=>False.elim h');cases ok with
  | false=>exact Fw ⟨rfl,h₄⟩
  | true =>
   exact Fv (Fv (F7 h₄ (fun x s₅ h₅=>Fv (F7 h₅ (fun _ s₆ h₆=>Fw (Fw ⟨rfl,h₆⟩)) fun _ _ h'=>False.elim h')) fun _ _ h'=>False.elim h'))
end
def PTs (X:Cx) (ifs:List Expr) (t:TT):Prop :=
 ∀ (pq:List (Addr×Obj)) (s:Shared) (σ:St) (H:Hp) (Q:Bool->Hp->Prop),Inv X pq σ H s->t σ H Q->wpAny (model X.prog X.w) X.A (Zeo ifs X.env) (TP X pq σ Q) X.xe s
def Zo0:TT:=fun _ H Q=>Q true H
def Yo :PTs X [] Zo0:=fun pq s σ H Q I h=>wpAny_tests_nil ⟨H,I,h⟩
def Zft {c:Expr} {t:TT} (hc:PT X c t):PTs X [c] t:=fun pq s σ H Q I h=>wpAny_tests_one (hc pq s σ H Q I h)
def Ag (n:Nat) (σ σ0:St):Prop:=σ.length=σ0.length/\∀ i,n<=i->σ[i]?=σ0[i]?
def N0 (g:TG) (n:Nat):Prop:=∀ σ0 x σ H R,Ag n σ σ0->g x σ H R->g x σ H fun σ2 H2=>R σ2 H2/\Ag n σ2 σ0
def Q7 (g:TGs) (n:Nat):Prop:=∀ σ0 xs σ H R,Ag n σ σ0->g xs σ H R->g xs σ H fun σ2 H2=>R σ2 H2/\Ag n σ2 σ0
theorem Ag.set {n i:Nat} {σ0:St} (a:Ag n σ σ0) (h:i<n) (v:Option V):Ag n (σ.set i v) σ0 :=
 ⟨by rw [Bk]; exact a.1,fun j hj=>(Bi (by lia)).trans (a.2 j hj)⟩
def Xf {i n:Nat} (h:i<n):N0 (Zbc i) n:=fun σ0 x σ H R a q=>⟨q,a.set h _⟩
def Wu {n:Nat}:Q7 gNil n:=fun σ0 xs σ H R a q=>⟨q.1,q.2,a⟩
def Yd {i n:Nat} {u:TGs} (h:i<n) (h2:Q7 u n):Q7 (Znn (Zbc i) u) n:=fun σ0 xs σ H R a q=>by
 obtain ⟨v,r,e,q⟩:=q;exists v,r,e,h2 σ0 r _ _ _ (a.set h _) q
def Uo {m n:Nat} {t:TGs} (h:Q7 t n):N0 (gTup K m t) n:=fun σ0 x σ H R ag q=>by
 obtain ⟨a,xs,e,hq,hl,q⟩:=q;exists a,xs,e,hq,hl,h σ0 xs σ H R ag q
section
variable {scope:Scope} {T:List Str} {elt iter:Expr} {ifs:List Expr} {tt:TT} 
theorem Nq {RR:Value->Addr->Result->Shared->Prop} {Fin:List V->Hp->Prop} {J:It} {tn:Nat->Heap->Prop}
  (I:Inv X pq σ H s) (hc:X.calm=true) (S:CScope X.env.scope scope X.N T cs) (Tn:Turn X.prog X.w X.K tg J fp it tn) (st:tn 0 s.heap) (hf:∀ b∈fp,FpOk X pq H b)
  (hg:∀ C s₀ H₀ ex,PG (blk X T cs scope C s₀ H₀ ex) tg g) (ht:∀ C s₀ H₀ ex,PTs (blk X T cs scope C s₀ H₀ ex) ifs tt) (he:∀ C s₀ H₀ ex,PE (blk X T cs scope C s₀ H₀ ex) elt te) (hk:N0 g T.length)
  (W:Nat->Nat->List V->Hp->Prop) (w0:∃ m,W 0 m [] H)
  (turn:∀ i m ys H,W i m ys H->(J.stop i H/\ys.length<=sizeLine/\Fin ys H)\/(J.go i H/\ys.length<sizeLine/\∃ N:List V->Hp->Prop,(∀ ys' H',N ys' H'->∃ m',m'<m/\W (i+1) m' ys' H') /\
   ∀ x H',J.yld i H x H'->g x (sgOf σ T cs) H' fun σ2 H2=>tt σ2 H2 fun b H3=>if b=true then te σ2 H3 fun y H4=>N (ys++[y]) H4 else N ys H3))
  (fin:∀ (D C:Addr) (s':Shared) (m:Str->Option Value) (ys:List V) (H':Hp),Fin ys H'->H' D=none->s'.heap.Ns C m->FpOk X pq H' C->C≠D->Inv X pq σ (upd H' D (.lst ys)) s'->RR (.ref D) C (.ok .next) s') :
  wpAny (model X.prog X.w) X.A (newList []) (fun acc s₃=>wpAny (model X.prog X.w) X.A (newFunctionEnv scope X.env.globals (Xw X.env.cells scope.names []) [] X.env.qual none .none (some X.env)) (fun cenv s₄ =>
   codeAny (model X.prog X.w) X.A (.compStart (.ListComp elt [⟨tg,iter,ifs,0⟩] scope pos) 0 (.ref it) acc { cenv with scope:=relabel scope X.env }) (RR acc cenv.locals) s₄) E s₃) E s:=by
 refine wpAny_newObj_type (wpAny_newFunctionEnv S.nocell (by intro y hy; simp at hy) (fun h₁ hns₁ hsb₁=>?_) S.kind);dsimp only at hns₁ hsb₁ ⊢;generalize hH2:s.heap.push { cls:=.type "list",dict:=none,data:=.seq ([]:List Value).toArray }=H2 at hns₁ hsb₁ ⊢;have hCe:H2.objs.size=s.heap.objs.size+1:=by rw [<- hH2,Heap.size_push]
 have hDC:s.heap.objs.size≠H2.objs.size:=by rw [hCe]; exact Gf (Bf _)
 have hCle:s.heap.objs.size<=H2.objs.size:=by rw [hCe]; exact Bj _
 have old:∀ b o,s.heap.get? b=some o->h₁.get? b=some o:=fun b o e =>
  hsb₁.extBut b o (by rw [hCe]; exact Gf (Nat.lt_succ_of_lt (Fz e))) (Fx _ (hH2 ▸ Fx _ e))
 have hacc:h₁.get? s.heap.objs.size=some { cls:=.type "list",data:=.seq ([]:List Value).toArray 0 }:=hsb₁.extBut _ _ hDC (Fx _ (hH2 ▸ Fy _ rfl));have hfe:∀ b∈fp,∃ o,s.heap.get? b=some o:=fun b hb=>let ⟨o,e,_⟩:=Tn.obj _ _ st b hb; ⟨o,e⟩
 have hlt:∀ b∈fp,b<s.heap.objs.size:=fun b hb=>let ⟨o,e⟩:=hfe b hb; Fz e
 have st₁:tn 0 h₁:=Tn.keep _ _ _ st fun b _ o e=>old b o e;generalize hDD:s.heap.objs.size=D at *
 generalize hCC:H2.objs.size=C at *
 have hnD:H D=none:=I.hok.fresh (G9 hDD);have stat:∀ {H':Hp} {its:List Value} {n:Nat},(∀ b∈fp,H' b=none)->∀ b∈fp,FpOk (blk X T cs scope C s H fp) [(D,({ cls:=.type "list",data:=.seq its.toArray n }:Obj))] H' b:=fun hn b hb=>by
  obtain ⟨f0,f1,f2,f3,f4,f5⟩:=hf b hb;exists hn b hb,Gf (Gb (hlt b hb) hCle),fun z=>?_,.inl hb,fun x c e=>f4 x c (I.clo S e),fun p hp z=>?_
  ·rcases Jy.mp (I.stkSub b z) with e | e
   ·exact f1 e
   ·exact f2 e
  ·have e:p.1=D:=by
    rcases J9.mp hp with q | q
    ·exact Fs (show p∈([]:List (Addr×Obj)) from q) (by simp)
    ·rw [Jh.mp q]
   exact Fs (hlt b hb) (by rw [<- z,e]; exact G2 _)
 have loop:∀ tk:Nat,codeAny (model X.prog X.w) X.A (.compLoop (.ListComp elt [⟨tg,iter,ifs,0⟩] scope pos) 0 (.ref it) (.ref D) (compEnvC scope (Xw X.env.cells scope.names []) C X.env)) (RR (.ref D) C) { s with heap:=h₁,toks:=tk }:=by
  intro tk;have I1:Inv (blk X T cs scope C s H fp) [] (sgOf σ T cs) H { s with heap:=h₁,toks:=tk }:=Zni I S hf hfe (by rw [hDD]; exact hCle) hns₁ old;obtain ⟨m0,w0⟩:=w0;have pinD:∀ {σ':St} {H':Hp} {s':Shared} {its:List Value} {n:Nat} {pl:List (Addr×Obj)},Inv (blk X T cs scope C s H fp) pl σ' H' s'->s'.heap.get? D=some { cls:=.type "list",data:=.seq its.toArray n }->H' D=none ->
    Inv (blk X T cs scope C s H fp) [(D,({ cls:=.type "list",data:=.seq its.toArray n }:Obj))] σ' H' s':=fun {σ' H' s' its n pl} J e hn=>J.pins_of fun p hp=>by
   obtain rfl:=Jh.mp hp;refine ⟨e,hn,hDC,fun z=>?_,fun v q=>by cases q⟩;have z':D∈frs X.stack:=z;obtain ⟨_,o,ho,_⟩:=I.stack.mem z';exact Fs (Fz ho) (by rw [hDD]; exact G2 _)
  refine Nr (fun n s'=>∃ (i:Nat) (ys:List V) (its:List Value) (k:Nat) (H':Hp),Inv (blk X T cs scope C s H fp) [(D,({ cls:=.type "list",data:=.seq its.toArray k }:Obj))] (sgOf σ T cs) H' s'/\Vals ys its/\tn i s'.heap/\(∀ b∈fp,H' b=none)/\W i n ys H') ?_ m0
   ⟨0,[],[],0,H,pinD I1 hacc hnD,.nil,st₁,fun b hb=>(hf b hb).1,w0⟩
  rintro n s1 ⟨i,ys,its,k,H1,J1,rv,st1,fr1,w1⟩;rcases turn i n ys H1 w1 with ⟨stop,hz,fq⟩ | ⟨go,hz,N,hN,step⟩
  ·refine F7 (Tn.done (blk X T cs scope C s H fp) rfl rfl rfl hc i _ s1 _ H1 (fun _ _=>False) J1 (stat fr1) st1 stop) (fun r s2 hz=>?_) fun _ _ z=>z;obtain ⟨hr,J2⟩:=hz;subst hr;obtain ⟨eD,nD,_⟩:=J2.pin (D,({ cls:=.type "list",data:=.seq its.toArray k }:Obj)) (Jl _ (Jh.mpr rfl));have J3:Inv X pq σ H1 s2:=I.call' (ch:=fp) J2.os J2.base J2.hok J2.bare fun b hb=>by
    obtain ⟨f0,f1,f2,f3,f4,f5⟩:=hf b hb;exists f3,f1,f4,f5
   obtain ⟨mC,hnC,_⟩:=J2.loc;have fC:FpOk X pq H1 C:=I.fpOk (by rw [hDD]; exact hCle) J2.free;have fD:FpOk X pq H1 D:=I.fpOk (G9 hDD) nD;exact fin D C s2 mC ys H1 fq nD hnC fC (Ne.symm hDC) (J3.track eD fD rv hz)
  ·refine F7 (Tn.item (blk X T cs scope C s H fp) rfl rfl rfl hc i _ s1 _ H1 (fun _ _=>False) J1 (stat fr1) st1 go) (fun r s2 hz=>?_) fun _ _ z=>z;obtain ⟨u,hr,h2⟩:=hz;subst hr;refine F7 h2 (fun _ s3 hz=>?_) fun _ _ z=>z;obtain ⟨x,H3,J3,r3,y3,st3,fr3⟩:=hz;have J3':=J3.pinned (stat fr3) (Tn.obj _ _ st3);refine F7 (hg C s H fp _ s3 _ H3 x u _ J3' r3 (hk (sgOf σ T cs) x _ H3 _ ⟨rfl,fun _ _=>rfl⟩ (step x H3 y3))) (fun _ s4 hz=>?_) fun _ _ z=>z;obtain ⟨σ4,H4,J4,q4,l4,k4⟩:=hz;refine F7 (ht C s H fp _ s4 σ4 H4 _ J4 q4) (fun b s5 hz=>?_) fun _ _ z=>z;obtain ⟨H5,J5,q5⟩:=hz;have wk:∀ {pl:List (Addr×Obj)} {H':Hp} {s':Shared},Inv (blk X T cs scope C s H fp) pl σ4 H' s'->Inv (blk X T cs scope C s H fp) pl (sgOf σ T cs) H' s':=fun J=>J.weak l4.symm fun j v e=>by
    by_cases hj:T.length<=j
    ·rw [k4 j hj]; exact e
    ·exfalso
     unfold sgOf at e;rw [Jv (by simp; lia),Gg] at e;cases q:T[j]? with
     | none=>rw [q] at e; cases e
     | some a=>rw [q] at e; cases e
   have tnk:∀ {H':Hp} {s':Shared} {σ':St},Inv (blk X T cs scope C s H fp) ([(D,({ cls:=.type "list",data:=.seq its.toArray k }:Obj))]++Py fp s3.heap) σ' H' s'->tn (i+1) s'.heap/\∀ b∈fp,H' b=none:=fun {H' s' σ'} J=>by
    exists Tn.keep _ _ _ st3 fun b hb o e=>(J.pin (b,o) (Jl _ (Jl _ (Vr hb e)))).1,fun b hb=>?_;obtain ⟨o,e,d⟩:=Tn.obj _ _ st3 b hb;exact (J.pin (b,o) (Jl _ (Jl _ (Vr hb e)))).2.1
   cases b with
   | false =>
    rw [F0 Jp] at q5 ⊢;obtain ⟨m',hm,w5⟩:=hN _ _ q5;obtain ⟨t5,f5⟩:=tnk J5;exists m',hm,i+1,ys,its,k,H5,wk J5.unpinned,rv,t5,f5,w5
   | true =>
    rw [F1 rfl] at q5 ⊢;refine F7 (he C s H fp _ s5 σ4 H5 _ J5 q5) (fun uy s6 hz=>?_) fun _ _ z=>z;obtain ⟨y,H6,J6,ry,n6⟩:=hz;obtain ⟨m',hm,w6⟩:=hN _ _ n6;obtain ⟨t6,f6⟩:=tnk J6;obtain ⟨eD,nD,_⟩:=J6.pin (D,({ cls:=.type "list",data:=.seq its.toArray k }:Obj)) (Jl _ (Gn _ (Jh.mpr rfl)));have hsz:its.toArray.size<=sizeLine:=by rw [Jn,<- rv.length]; lia
    refine append_at (hsz:=hsz) eD fun h7 sb hD7=>?_;have J6':Inv (blk X T cs scope C s H fp) [] σ4 H6 s6:=J6.pins_of fun p hp=>Fs hp (by simp);have J7:Inv (blk X T cs scope C s H fp) [] σ4 H6 { s6 with heap:=h7 }:=J6'.turned (t':=s6.toks) (it:=D) (fun b o hb e=>(sb.2 b hb).trans e) nD hDC (.inr (G9 hDD))
     (fun x c e z=>by
      obtain ⟨v,q⟩:=I.cell x c (I.clo S e);exact Fs q.lt (by rw [z,hDD]; exact G2 _))
     (fun p hp=>Fs hp (by simp [blk]))
    have hD7':h7.get? D=some { cls:=.type "list",data:=.seq (its++[uy]).toArray (k+1) }:=by
     rw [hD7,List.push_toArray]
    exists m',hm,i+1,ys++[y],its++[uy],k+1,H6,wk (pinD J7 hD7' nD),rv.append (.cons ry .nil),Tn.keep _ _ _ t6 fun b hb o e=>(sb.2 b (Gf (hlt b hb))).trans e,f6,w6
 exact codeAny_compStart_list (loop _) (Tn.self _ 0 _ _ _ st₁ (loop _))
def Zet (wi:TI) (g:TG) (tt:TT) (te:TE) (T:List Str) (cs:List Nat):TE:=fun σ H Q=>wi σ H fun J H1=>∃ W:Nat->Nat->List V->Hp->Prop,(∃ m,W 0 m [] H1) /\
 ∀ i m ys H,W i m ys H->(J.stop i H/\ys.length<=sizeLine/\∀ p,H p=none->Q (.ref p) (upd H p (.lst ys)))\/(J.go i H/\ys.length<sizeLine/\∃ N:List V->Hp->Prop,(∀ ys' H',N ys' H'->∃ m',m'<m/\W (i+1) m' ys' H') /\
  ∀ x H',J.yld i H x H'->g x (sgOf σ T cs) H' fun σ2 H2=>tt σ2 H2 fun b H3=>if b=true then te σ2 H3 fun y H4=>N (ys++[y]) H4 else N ys H3)
def Y6 (hc:X.calm=true) (S:CScope X.env.scope scope X.N T cs) (hi:PI X tg iter wi) (hg:∀ C s₀ H₀ ex,PG (blk X T cs scope C s₀ H₀ ex) tg g) (ht:∀ C s₀ H₀ ex,PTs (blk X T cs scope C s₀ H₀ ex) ifs tt)
  (he:∀ C s₀ H₀ ex,PE (blk X T cs scope C s₀ H₀ ex) elt te) (hk:N0 g T.length) (hs:∀ x,foldedSetIterable iter X.env x=pure x:=by intro _; rfl):PE X (.ListComp elt [⟨tg,iter,ifs,0⟩] scope pos) (Zet wi g tt te T cs):=by
 intro pq s σ H Q I h;rw [eval_ListComp];refine wpAny_comprehension_free (use:=none) rfl hs (Rx (I.hl S)) S.kind S.names (thn (hi pq s σ H _ I h) fun v s1 h1=>thn h1 fun itv s2 h2=>?_);obtain ⟨it,fp,tn,J,H2,e,I2,Tn,st,hf,W,w0,turn⟩:=h2;subst e;refine Nq (RR:=fun acc C=>compPost (model X.prog X.w) X.A X.xe none (EP X pq σ Q) acc C) (Fin:=fun ys H=>∀ p,H p=none->Q (.ref p) (upd H p (.lst ys))) I2 hc S Tn st hf hg ht he hk W w0 turn ?_;intro D C s' m ys H' q nD hn fC hCD I';exists m,hn,fun h' sb=>⟨.ref D,_,I'.turned (t':=s'.toks) (it:=C) (fun b o hb e=>(sb.2 b hb).trans e) ?_ fC.2.1 fC.2.2.2.1 fC.2.2.2.2.1 fC.2.2.2.2.2,rfl,q D nD⟩
 rw [Zm hCD];exact fC.1
def Vb {i:Nat} {y:Str} {py spos:Pos} (hN:X.N.Nodup) (hy:X.N[i]?=some y) (hl:X.env.scope.names.lookup y=some .local) (hc:X.calm=true) (S:CScope X.env.scope scope X.N T cs) (hi:PI X tg iter wi) (hg:∀ C s₀ H₀ ex,PG (blk X T cs scope C s₀ H₀ ex) tg g)
  (ht:∀ C s₀ H₀ ex,PTs (blk X T cs scope C s₀ H₀ ex) ifs tt) (he:∀ C s₀ H₀ ex,PE (blk X T cs scope C s₀ H₀ ex) elt te) (hk:N0 g T.length) (hs:∀ x,foldedSetIterable iter X.env x=pure x:=by intro _; rfl)
  (hsw:swapsWith (.ListComp elt [⟨tg,iter,ifs,0⟩] scope pos) (some (.Name y py)) spos.line X.env=pure true:=by rfl):PS X (.Assign [.Name y py] (.ListComp elt [⟨tg,iter,ifs,0⟩] scope pos) spos) (tAsg (Zet wi g tt te T cs) (Zbc i)):=by
 intro pq s σ H D I h;rw [exec_Assign_Name_used _ _ _ _ hsw];refine Fv (wpAny_standAt (Fv ?_));show wpAny _ X.A (do let _ <- comprehension (.ListComp elt [⟨tg,iter,ifs,0⟩] scope pos) scope X.env _ (newList []) false (eval iter X.env) (some (assign (.Name y py) X.env))) _ _ s;refine Fv (F7 (wpAny_comprehension_free (use:=some (assign (.Name y py) X.env)) (Q:=fun _ s'=>SP X pq D .next s') rfl hs (Rx (I.hl S)) S.kind S.names
  (thn (hi pq s σ H _ I h) fun v s1 h1=>thn h1 fun itv s2 h2=>?_)) (fun _ s' hq=>Fw (Fw hq)) fun _ _ e=>e)
 obtain ⟨it,fp,tn,J,H2,e,I2,Tn,st,hf,W,w0,turn⟩:=h2;subst e;refine Nq (RR:=fun acc C=>compPost (model X.prog X.w) X.A X.xe (some (assign (.Name y py) X.env)) (fun _ s'=>SP X pq D .next s') acc C) (Fin:=fun ys H=>∀ p,H p=none->Zbc i (.ref p) σ (upd H p (.lst ys)) D.nx) I2 hc S Tn st hf hg ht he hk W w0 turn ?_;intro B C s' m ys H' q nB hn fC hCB I';show wpAny _ X.A (assign (.Name y py) X.env (.ref B)) _ _ s';refine wpAny_assign_Name (Pi (v:=.ref B) I' hN hy (.inl hl) rfl (fun s'' I'' hz=>?_) (.inr hl));obtain ⟨a,sb,ha⟩:=hz;have nC:C≠a:=by
  rcases ha with z | z
  ·rw [z]; exact fC.2.1
  ·exact Ne.symm (fC.2.2.2.2.1 y a z)
 exists m,hn.sameBut sb nC,fun h' sb'=>⟨_,_,I''.turned (t':=s''.toks) (it:=C) (fun b o hb e=>(sb'.2 b hb).trans e) ?_ fC.2.1 fC.2.2.2.1 fC.2.2.2.2.1 fC.2.2.2.2.2,q B nB⟩;rw [Zm hCB];exact fC.1
end
theorem U2 {J:It} {n:Nat} {tt:TT} {σB:St} {F:List V->Hp->Prop} (Pv:Nat->List V->Hp->Prop) (h0:Pv 0 [] H1) (hn:∀ i ys H,Pv i ys H->ys.length<=i) (hz:n<=sizeLine)
  (hgo:∀ i ys H,i<n->Pv i ys H->J.go i H) (hstop:∀ ys H,Pv n ys H->J.stop n H)
  (hs:∀ i ys H,i<n->Pv i ys H->∀ x H',J.yld i H x H'->g x σB H' fun σ2 H2=>tt σ2 H2 fun b H3=>if b=true then te σ2 H3 fun y H4=>Pv (i+1) (ys++[y]) H4 else Pv (i+1) ys H3)
  (hd:∀ ys H,Pv n ys H->F ys H) :
  ∃ W:Nat->Nat->List V->Hp->Prop,(∃ m,W 0 m [] H1)/\∀ i m ys H,W i m ys H->(J.stop i H/\ys.length<=sizeLine/\F ys H)\/(J.go i H/\ys.length<sizeLine/\∃ N:List V->Hp->Prop,(∀ ys' H',N ys' H'->∃ m',m'<m/\W (i+1) m' ys' H') /\
   ∀ x H',J.yld i H x H'->g x σB H' fun σ2 H2=>tt σ2 H2 fun b H3=>if b=true then te σ2 H3 fun y H4=>N (ys++[y]) H4 else N ys H3):=by
 exists fun i m ys H=>m=n-i/\i<=n/\Pv i ys H,⟨n,rfl,Jz _,h0⟩,?_;rintro i m ys H ⟨rfl,hi,p⟩;have hl:=hn i ys H p
 by_cases hlt:i<n
 ·exact .inr ⟨hgo i ys H hlt p,by lia,Pv (i+1),fun ys' H' q=>⟨n-(i+1),by lia,rfl,hlt,q⟩,hs i ys H hlt p⟩
 ·have e:i=n:=by lia
  subst e;exact .inl ⟨hstop ys H p,by lia,hd ys H p⟩
section
def Zs6 (K:W.Frag):V->V->Hp->VK->Prop:=fun o i H Q=>∃ p xs k v,o=.ref p/\i=.int ((k:Nat):Int)/\SqL K H p xs/\xs[k]?=some v/\Q v H
theorem Zfy:PGet X (Zs6 X.K):=by
 intro pq s σ H o i ov iv Q I ro ri h;obtain ⟨p,xs,k,v,rfl,rfl,hq,hx,q⟩:=h;cases ro;obtain ⟨t,rfl⟩:=ri;obtain ⟨its,rv,pl,hz⟩:=I.list hq;obtain ⟨u,hu,ru⟩:=rv.get hx;have hk:k<xs.length:=(Je.mp hx).1;have hn:=Rs;exact wpAny_getItem_list pl.isList (by lia) (by lia) (by simpa using hu) ⟨v,H,I,ru,q⟩
def rSlS:V->Option Int->Option Int->Hp->VK->Prop:=fun x lo hi H Q=>∃ z,x=.str z/\z.length<=sizeLine/\Q (.str (Txt.slice z lo hi)) H
theorem Zpl:SlR X rSlS:=by
 intro pq s σ H x v vl vu lo hi sl Q I rx hs pl pu h;obtain ⟨z,rfl,hz,q⟩:=h;obtain ⟨t,rfl⟩:=rx;exists "str",_,F.slot_str_getitem.lookup,typeIs_str _ _ _,?_;cases pl with
 | none =>
  cases pu with
  | none=>exact wpAny_getItem_str_slice (l:=none) (u:=none) (st:=none) hs rfl (post_val_or_str ⟨J8 (Txt.slice_le z _ _) hz,fun t' k=>⟨.str _,H,I.tok _,⟨_,rfl⟩,q⟩⟩)
  | int j tj=>exact wpAny_getItem_str_slice (l:=none) (u:=some (j,tj)) (st:=none) hs rfl (post_val_or_str ⟨J8 (Txt.slice_le z _ _) hz,fun t' k=>⟨.str _,H,I.tok _,⟨_,rfl⟩,q⟩⟩)
 | int i ti =>
  cases pu with
  | none=>exact wpAny_getItem_str_slice (l:=some (i,ti)) (u:=none) (st:=none) hs rfl (post_val_or_str ⟨J8 (Txt.slice_le z _ _) hz,fun t' k=>⟨.str _,H,I.tok _,⟨_,rfl⟩,q⟩⟩)
  | int j tj=>exact wpAny_getItem_str_slice (l:=some (i,ti)) (u:=some (j,tj)) (st:=none) hs rfl (post_val_or_str ⟨J8 (Txt.slice_le z _ _) hz,fun t' k=>⟨.str _,H,I.tok _,⟨_,rfl⟩,q⟩⟩)
end
mutual
inductive DV (K:W.Frag) (H:Hp):V->PyData->Prop
 | non:DV K H .non .none
 | bl (b:Bool):DV K H (.bl b) (.bool b)
 | int (i:Int):DV K H (.int i) (.int i)
 | str (x:Str):DV K H (.str x) (.str x)
 | lst {a:Addr} {xs:List V} {ds:List PyData} (h:SqL K H a xs) (r:DVs K H xs ds):DV K H (.ref a) (.list ds)
 | tup {a:Addr} {xs:List V} {ds:List PyData} (h:SqT K H a xs) (r:DVs K H xs ds):DV K H (.ref a) (.tuple ds)
inductive DVs (K:W.Frag) (H:Hp):List V->List PyData->Prop
 | nil:DVs K H [] []
 | cons {x:V} {d:PyData} {xs:List V} {ds:List PyData} (h:DV K H x d) (r:DVs K H xs ds):DVs K H (x::xs) (d::ds)
end
section
mutual
theorem Ww (I:Inv X pq σ H s):∀ {x:V} {d:PyData} {u:Value},DV X.K H x d->RelV x u->∃ as,Reads s.heap u d as
 | _,_,u,.non,r=>by obtain rfl:u=Value.none:=r;exists _,Reads.none
 | _,_,u,.bl b,r=>by obtain rfl:u=Value.bool b:=r;exists _,Reads.bool b
 | _,_,u,.int i,r=>by obtain ⟨t,rfl⟩:=(show ∃ t,u=Value.int i t from r);exists _,Reads.int i t
 | _,_,u,.str x,r=>by obtain ⟨t,rfl⟩:=(show ∃ t,u=Value.str x t from r);exists _,Reads.str x t
 | _,_,u,.lst (a:=a) h q,r=>by
  obtain rfl:u=Value.ref a:=r;obtain ⟨its,rv,⟨o,n,e,c,d,dt⟩,_⟩:=I.list h;obtain ⟨as,ra⟩:=dvs_reads I q rv;exists _,reads_list_at e c dt (by simpa using ra)
 | _,_,u,.tup (a:=a) h q,r=>by
  obtain rfl:u=Value.ref a:=r;obtain ⟨its,rv,⟨o,e,c,n,dt⟩,_⟩:=I.tuple h;obtain ⟨as,ra⟩:=dvs_reads I q rv;exists _,reads_tuple_at e c dt (by simpa using ra)
theorem dvs_reads (I:Inv X pq σ H s):∀ {xs:List V} {ds:List PyData} {us:List Value},DVs X.K H xs ds->Vals xs us->∃ as,ReadsAll s.heap us ds as:=by
 intro _ _ _ hz9 hz8;cases hz9 with
 | nil=>
  cases hz8 with
  | nil=>
   exists _,ReadsAll.nil
 | cons h q=>
  cases hz8 with
  | cons r rr=>
   exact by
     obtain ⟨as,ra⟩:=Ww I h r;obtain ⟨bs,rb⟩:=dvs_reads I q rr;exists _,ReadsAll.cons ra rb
end
def rEqD (K:W.Frag):R2:=fun x y H Q=>∃ dx dy,DV K H x dx/\DV K H y dy/\SeqAt.shaped dx=true/\SeqAt.shaped dy=true/\Q (.bl (PyData.eqv dx dy)) H
def rNeD (K:W.Frag):R2:=fun x y H Q=>∃ dx dy,DV K H x dx/\DV K H y dy/\SeqAt.shaped dx=true/\SeqAt.shaped dy=true/\Q (.bl (!PyData.eqv dx dy)) H
def Zkv (hu:X.A.units+64<cLine):OpR X (compareOp .Eq) (rEqD X.K):=by
 intro pq s σ H x y v u Q I rx ry h;obtain ⟨dx,dy,hx,hy,sx,sy,q⟩:=h;obtain ⟨as,ra⟩:=Ww I hx rx;obtain ⟨bs,rb⟩:=Ww I hy ry;exact eq_dataH ra rb sx sy hu ⟨.bl _,H,I,rfl,q⟩
def Zqn (hu:X.A.units+64<cLine):OpR X (compareOp .NotEq) (rNeD X.K):=by
 intro pq s σ H x y v u Q I rx ry h;obtain ⟨dx,dy,hx,hy,sx,sy,q⟩:=h;obtain ⟨as,ra⟩:=Ww I hx rx;obtain ⟨bs,rb⟩:=Ww I hy ry;exact ne_dataH ra rb sx sy hu ⟨.bl _,H,I,rfl,q⟩
end
theorem Uq :∀ ns:List Int,DVs K H (ns.map V.int) (ns.map PyData.int)
 | []=>.nil
 | n::r=>.cons (.int n) (Uq r)
def Cal (P:Program) (w:World) (K:W.Frag) (mg:Str->Option Value) (base:Heap) (x:Str) (k:Nat) (ps:List Str) (sp:Sp):Prop :=
 ∃ (f:Addr) (fd:FuncData),FnOk P w K mg base CX0 k f fd ps sp/\mg x=some (.ref f)/\W.keepIn K (.ref f)=true/\U8 K fd ps []
section
variable {x:Str} {k:Nat} {e:Expr} {t:TA} {p:Pos}
def Zo (C:Cal X.prog X.w X.K X.mg X.base x k ps sp) (hr:Room k X.A) (hg:Gl X x) (ha:PA X (e::es) t) (hdb:(x == ("__debug__":Str))=false:=by decide)
  (he:starEach (e::es) X.env=(false,eval e X.env)::starEach es X.env:=by rfl) (hpl:(backTo pos (starEach es X.env)).any (·.1)=false:=by rfl):PE X (.Call (.Name x p) (e::es) [] pos) (Zls sp [] E0 t):=by
 obtain ⟨f,fd,F,hm,hk,hb⟩:=C;exact Zm1 F hr hg hm hk hb .nil Zi5 ha hdb he hpl
end
def Grow (p:Addr) (H H':Hp):Prop:=∀ b o,H b=some o->b≠p->H' b=some o
def Grow.trans {p:Addr} {H2:Hp} (a:Grow p H H1) (b:Grow p H1 H2):Grow p H H2:=fun c o e n=>b c o (a c o e n) n
def Grow.same {p:Addr} (s:Same H H'):Grow p H H':=fun b o e _=>s b o e
theorem Grow.free {p:Addr} (g:Grow p H H') (h:H' l=none) (n:l≠p):H l=none:=by
 cases q:H l with
 | none=>rfl
 | some o=>rw [g l o q n] at h; cases h
def Zp {p:Addr} {o:HO} (h:H p=none):Same H (upd H p o):=fun b u e=>by rw [Zm (Zq e h)]; exact e
structure HandAt (H:Hp) (p a:Addr):Prop where
 ex:∃ (d k:Int) (cs:List Int),H p=some (.lst [.int d,.int k,.ref a])/\H a=some (.lst (cs.map V.int))/\cs≠[]/\cs.length<=63/\0<=d/\0<=k/\∀ c∈cs,0<=c
theorem HandAt.ne {p a:Addr} (h:HandAt H p a):p≠a:=by
 obtain ⟨d,k,cs,e1,e2,_⟩:=h.ex;refine V3 e1 e2 fun z=>?_;injection z with z
 cases cs with
 | nil=>cases z
 | cons c r =>
  rw [Ju] at z;injection z with _ z
  cases r with
  | nil=>cases z
  | cons c2 r =>
   rw [Ju] at z;injection z with _ z
   cases r with
   | nil=>cases z
   | cons c3 r=>rw [Ju] at z; injection z with z _; cases z
def HandAt.same {p a:Addr} (h:HandAt H p a) (g:Same H H'):HandAt H' p a:=by
 obtain ⟨d,k,cs,e1,e2,r⟩:=h.ex;exists d,k,cs,g _ _ e1,g _ _ e2,r
def Zbx:Sp:=fun vs H Q _=>∃ (p a:Addr) (n:Int),vs=[.ref p,.int n]/\HandAt H p a/\0<n/\n<1073741824 /\
 ∀ (r:Int) (H':Hp),0<=r->r<n->HandAt H' p a->Grow p H H'->(∀ b,b≠p->H' b=H b)->Q (.int r) H'
theorem Zn0 {cs:List Int} (h:cs≠[]) (z:Int):∃ c,c∈cs/\atI (cs.map V.int) (z % ((cs.map V.int).length:Nat))=some (.int c):=by
 have hl:0<cs.length:=Gj.mpr h;have h0:0<=z % ((cs.map V.int).length:Nat):=G3 _ (by rw [Ja]; lia);have h1:z % ((cs.map V.int).length:Nat)<((cs.map V.int).length:Nat):=G1 _ (by rw [Ja]; lia);generalize z % ((cs.map V.int).length:Nat)=m at h0 h1;rw [Ja] at h1;have hm:m.toNat<cs.length:=by lia
 obtain ⟨k,rfl⟩:=Gz h0;have hm:k<cs.length:=hm;exists cs[k],Jr hm,Wa ?_;rw [Gg,Jb hm];rfl
def Shp (n:Nat) (d:PyData):Prop:=d.canLay0=true/\d.depth<=n
def Shp.shaped {n:Nat} {d:PyData} (h:Shp n d) (hn:n<=64):SeqAt.shaped d=true:=by
 unfold SeqAt.shaped;rw [h.1,Bool.true_and];exact F2 (J8 h.2 hn)
theorem Zai {n:Nat}:∀ {ds:List PyData},(∀ d∈ds,Shp n d)->PyData.canLayAll0 ds=true/\PyData.depthAll ds<=n
 | [],_=>⟨by simp only [PyData.canLayAll0],by simp only [PyData.depthAll]; exact Jz _⟩
 | d::r,h=>by
  obtain ⟨h1,h2⟩:=h d Jm;obtain ⟨h3,h4⟩:=Zai (n:=n) fun x hx=>h x (Jg _ hx);exists by simp only [PyData.canLayAll0,h1,h3,Bool.and_self],?_;simp only [PyData.depthAll];lia
theorem Ziq {n:Nat} {ds:List PyData} (h:∀ d∈ds,Shp n d):Shp (n+1) (.list ds):=by
 obtain ⟨h1,h2⟩:=Zai h;exact ⟨by simp only [PyData.canLay0,h1],by simp only [PyData.depth]; lia⟩
theorem Pm {n:Nat} {ds:List PyData} (h:∀ d∈ds,Shp n d):Shp (n+1) (.tuple ds):=by
 obtain ⟨h1,h2⟩:=Zai h;exact ⟨by simp only [PyData.canLay0,h1],by simp only [PyData.depth]; lia⟩
def Zah (i:Int):Shp 0 (.int i):=⟨by simp only [PyData.canLay0],by simp only [PyData.depth]; exact Jd _⟩
def Zk {n:Nat} (h:n<=100000):n<=sizeLine:=J8 h nofun
theorem Zjq {as:List V} {j:Int} (h0:0<=j) (h1:j<=as.length):cutV as (some j) none=as.drop j.toNat:=by
 obtain ⟨m,rfl⟩:=Gz h0;unfold cutV;rw [HT.sIx_nat,HT.sIx_none,B7 (by lia),Gw (by rw [Jj]; exact Jd _)];rfl
theorem Zk6 {as:List V} {j:Int} (h0:0<=j) (h1:j<=as.length):cutV as none (some j)=as.take j.toNat:=by
 obtain ⟨m,rfl⟩:=Gz h0;unfold cutV;rw [HT.sIx_nat,HT.sIx_none,B7 (by lia),B0,Nat.sub_zero];rfl
theorem Zjy {α:Type} {xs:List α} {r:Int} (h0:0<=r) (h1:r<xs.length):∃ v,v∈xs/\atI xs r=some v:=by
 have hm:r.toNat<xs.length:=by lia
 obtain ⟨k,rfl⟩:=Gz h0;have hm:k<xs.length:=hm;exists xs[k],Jr hm,Wa (Jb hm)
def Zk8 {x:Str} {f:Addr} {k:Nat} (F:Fun K x x st f fd) (G:FnOk P w K mg base CX0 k f fd ps sp) (m:mg x=some (.ref f)) (b:U8 K fd ps []) :
  Cal P w K mg base x k ps sp:=⟨f,fd,G,m,F.kp,b⟩
end L2
set_option maxHeartbeats 4000000
namespace L2
open PySem PySem.W PyProof.Rows
def Rk (rk:Nat->Int) (p:Array Nat) (i:Nat):Int:=rk (p.getD i 0)
def SrtR (rk:Nat->Int) (p:Array Nat) (k:Nat):Prop:=∀ i j,i<=j->j<k->Rk rk p i<=Rk rk p j
structure GoodP (n:Nat) (p:Array Nat):Prop where
 perm:p.Perm (List.range n).toArray
def GoodP.size {n:Nat} {p:Array Nat} (g:GoodP n p):p.size=n:=by have:=g.perm.size_eq; simpa using this
def GoodP.lt {n:Nat} {p:Array Nat} (g:GoodP n p) (i:Nat) (hi:i<n):p.getD i 0<n:=by
 have hi':i<p.size:=by rw [g.size]; exact hi
 have e:p.getD i 0=p[i]:=by simp [Array.getD,hi']
 rw [e];have hm:p[i]∈p.toList:=by simp
 have:=(Bq.mp g.perm).mem_iff.mp hm;simpa using this
def GoodP.ne {n:Nat} {p:Array Nat} (g:GoodP n p) {i:Nat} (hi:i<n) (hj:j<n) (h:i≠j):p.getD i 0≠p.getD j 0:=by
 have nd:p.toList.Nodup:=(Bq.mp g.perm).nodup_iff.mpr (by simpa using List.nodup_range);have hi':i<p.size:=by rw [g.size]; exact hi
 have hj':j<p.size:=by rw [g.size]; exact hj
 have e:p.getD i 0=p[i]:=by simp [Array.getD,hi']
 have e2:p.getD j 0=p[j]:=by simp [Array.getD,hj']
 rw [e,e2];intro z;have:=(Bo (h₀:=by simpa using hi') (h₁:=by simpa using hj') nd).mp (by simpa using z);exact h this
def Wk {p q:Array Nat} {i:Nat} (h:p[i]?=q[j]?):p.getD i 0=q.getD j 0:=by
 rw [Array.getD_eq_getD_getElem?,Array.getD_eq_getD_getElem?,h]
def Ny {rk:Nat->Int} {xs:Array Nat} {src d:Nat} (hs:src<xs.size) (hd:d<=src) (k:Nat) :
  Rk rk (bubble xs src d) k=if k=src-d then Rk rk xs src else if src-d<k/\k<=src then Rk rk xs (k-1) else Rk rk xs k:=by
 have e:=getElem?_bubble hs d hd k;unfold Rk
 by_cases h1:k=src-d
 ·rw [F1 h1] at e ⊢; rw [Wk e]
 ·rw [F0 h1] at e ⊢
  by_cases h2:src-d<k/\k<=src
  ·rw [F1 h2] at e ⊢; rw [Wk e]
  ·rw [F0 h2] at e ⊢; rw [Wk e]
def Zla {rk:Nat->Int} {xs:Array Nat} (hj:j<=xs.size) (k:Nat) :
  Rk rk (kas_rev xs 0 j) k=if k<j then Rk rk xs (j-1-k) else Rk rk xs k:=by
 have e:=getElem?_mirror_all (xs:=xs) (i:=0) hj k;unfold Rk kas_rev
 by_cases h1:k<j
 ·rw [F1 ⟨Jz _,h1⟩] at e;rw [F1 h1,Wk e,B2]
 ·rw [F0 (fun z=>h1 z.2)] at e;rw [F0 h1,Wk e]
section
variable {rk:Nat->Int} {n:Nat} {cmp:Nat->Nat->(Bool->Shared->Prop)->Shared->Prop} 
def CmpR (rk:Nat->Int) (n:Nat) (cmp:Nat->Nat->(Bool->Shared->Prop)->Shared->Prop) (s:Shared):Prop :=
 ∀ i j (C:Bool->Shared->Prop),i<n->j<n->C (decide (rk i<rk j)) s->cmp i j C s
theorem Zn1 (hc:CmpR rk n cmp s) {p:Array Nat} (g:GoodP n p) {G:Nat->Shared->Prop}:∀ (f m:Nat),1<=m->m+f<=n->SrtR rk p m ->
  (∀ m',m<=m'->m'<=m+f->SrtR rk p m'->(m'=m+f\/(m'<n/\Rk rk p m'<Rk rk p (m'-1)))->G m' s)->(kas_asc p f m).kasWp cmp G s
 | 0,m,_,_,hs,h=>h m (Jd _) (Jd _) hs (.inl rfl)
 | f+1,m,h1,h2,hs,h=>by
  show cmp (p.getD m 0) (p.getD (m-1) 0) _ s;refine hc _ _ _ (g.lt _ (by lia)) (g.lt _ (by lia)) ?_
  by_cases q:rk (p.getD m 0)<rk (p.getD (m-1) 0)
  ·simp only [q,decide_true,if_true];exact h m (Jd _) (by lia) hs (.inr ⟨by lia,q⟩)
  ·simp only [q,decide_false,Gc,if_false];refine Zn1 hc g f (m+1) (by lia) (by lia) (fun i j hij hj=>?_) fun m' a b c d=>h m' (by lia) (by lia) c (by
    rcases d with d | d
    ·exact .inl (by lia)
    ·exact .inr d)
   by_cases hjm:j=m
   ·subst hjm
    by_cases him:i=j
    ·subst him; exact Int.le_refl _
    ·exact Int.le_trans (hs i (j-1) (by lia) (by lia)) (Int.not_lt.mp q)
   ·exact hs i j hij (by lia)
theorem Zk1 (hc:CmpR rk n cmp s) (inj:∀ i j,i<n->j<n->rk i=rk j->i=j) {p:Array Nat} (g:GoodP n p) {G:Array Nat×Nat×Nat->Shared->Prop}:∀ (f m:Nat),1<=m->m+f<=n ->
  (∀ i j,i<j->j<m->Rk rk p j<Rk rk p i) ->
  (∀ m',m<=m'->m'<=m+f->(∀ i j,i<j->j<m'->Rk rk p j<Rk rk p i)->G (p,m',0) s)->(kas_desc f p m 0).kasWp cmp G s
 | 0,m,_,_,hs,h=>h m (Jd _) (Jd _) hs
 | f+1,m,h1,h2,hs,h=>by
  show cmp (p.getD m 0) (p.getD (m-1) 0) _ s;refine hc _ _ _ (g.lt _ (by lia)) (g.lt _ (by lia)) ?_
  by_cases q:rk (p.getD m 0)<rk (p.getD (m-1) 0)
  ·simp only [q,decide_true,if_true,G2,if_false,gt_iff_lt];refine Zk1 hc inj g f (m+1) (by lia) (by lia) (fun i j hij hj=>?_) fun m' a b c=>h m' (by lia) (by lia) c
   by_cases hjm:j=m
   ·subst hjm
    by_cases him:i=j-1
    ·subst him; exact q
    ·exact Int.lt_trans q (hs i (j-1) (by lia) (by lia))
   ·exact hs i j hij (by lia)
  ·simp only [q,decide_false,Gc,if_false];show cmp (p.getD (m-1) 0) (p.getD m 0) _ s;refine hc _ _ _ (g.lt _ (by lia)) (g.lt _ (by lia)) ?_;have lt2:rk (p.getD (m-1) 0)<rk (p.getD m 0):=by
    have ne:rk (p.getD (m-1) 0)≠rk (p.getD m 0):=fun z=>g.ne (by lia) (by lia) (by lia:m-1≠m) (inj _ _ (g.lt _ (by lia)) (g.lt _ (by lia)) z);lia
   simp only [lt2,decide_true,if_true];exact h m (Jd _) (by lia) hs
def GoodP.rev {p:Array Nat} (g:GoodP n p) (i j:Nat):GoodP n (kas_rev p i j):=⟨(mirror_perm _ _ _ _).trans g.perm⟩
theorem Znw (hc:CmpR rk n cmp s) (inj:∀ i j,i<n->j<n->rk i=rk j->i=j) (h2:2<=n) {p:Array Nat} (g:GoodP n p) {G:Nat×Array Nat->Shared->Prop}
  (h:∀ m p',1<=m->m<=n->GoodP n p'->SrtR rk p' m->G (m,p') s):(kas_count n p).kasWp cmp G s:=by
 unfold kas_count;rw [KasT.kasWp_bind];refine Zn1 hc g (n-1) 1 (Jd _) (by lia) (fun i j hij hj=>by rw [show i=j by lia]; exact Int.le_refl _) fun m a b c d=>?_
 by_cases e:m=n
 ·subst e;simp only [beq_self_eq_true,if_true];exact h m p (by lia) (Jd _) g c
 ·have hb:(m == n)=false:=by simpa using e
  simp only [hb,Gc,if_false];have hd:m<n/\Rk rk p m<Rk rk p (m-1):=by
   rcases d with d | d
   ·lia
   ·exact d
  by_cases hm:m > 1
  ·rw [F1 hm];show cmp (p.getD 0 0) (p.getD (m-1) 0) _ s;refine hc _ _ _ (g.lt _ (by lia)) (g.lt _ (by lia)) ?_;have lt2:rk (p.getD 0 0)<rk (p.getD (m-1) 0):=by
    have ne:rk (p.getD 0 0)≠rk (p.getD (m-1) 0):=fun z=>g.ne (by lia) (by lia) (by lia:0≠m-1) (inj _ _ (g.lt _ (by lia)) (g.lt _ (by lia)) z);have le:=c 0 (m-1) (by lia) (by lia);unfold Rk at le;lia
   simp only [lt2,decide_true,if_true];exact h m p (by lia) (by lia) g c
  ·rw [F0 hm];have hm1:m=1:=by lia
   subst hm1;unfold kas_descPart;rw [KasT.kasWp_bind];refine Zk1 hc inj g (n-2) 2 (by lia) (by lia) (fun i j hij hj=>?_) fun m' a' b' c'=>?_
   ·have:j=1:=by lia
    have:i=0:=by lia
    subst i; subst j;exact hd.2
   ·simp only [gt_iff_lt,G2,if_false];unfold kas_tail3;rw [KasT.kasWp_bind];have hm':m'<=n:=by lia
    refine Zn1 hc (g.rev 0 m') (n-m') m' (by lia) (by lia) (fun i j hij hj=>?_) fun k a2 b2 c2 _=>?_
    ·rw [Zla (by rw [g.size]; exact hm'),Zla (by rw [g.size]; exact hm'),F1 (by lia),F1 hj]
     by_cases hij2:i=j
     ·subst hij2; exact Int.le_refl _
     ·exact Int.le_of_lt (c' _ _ (by lia) (by lia))
    ·show G (k,kas_rev p 0 m') s;exact h k _ (by lia) (by lia) (g.rev 0 m') c2
theorem Zau (hc:CmpR rk n cmp s) {p:Array Nat} (g:GoodP n p) {k:Nat} (hk:k<n) (hs:SrtR rk p k) {G:Nat->Shared->Prop}
  (h:∀ l,l<=k->(∀ i,i<l->Rk rk p i<=Rk rk p k)->(∀ i,l<=i->i<k->Rk rk p k<Rk rk p i)->G l s):∀ (f l r:Nat),l<=r->r<=k->r-l<=f ->
  (∀ i,i<l->Rk rk p i<=Rk rk p k)->(∀ i,r<=i->i<k->Rk rk p k<Rk rk p i)->(kas_place p k f l r).kasWp cmp G s
 | 0,l,r,h1,h2,h3,lo,hi=>by
  have:l=r:=by lia
  subst this;exact h l h2 lo hi
 | f+1,l,r,h1,h2,h3,lo,hi=>by
  unfold kas_place
  by_cases hge:l≥r
  ·rw [F1 hge];have:l=r:=by lia
   subst this;exact h l h2 lo hi
  ·rw [F0 hge];show cmp (p.getD k 0) (p.getD ((l+r) / 2) 0) _ s;refine hc _ _ _ (g.lt _ hk) (g.lt _ (by lia)) ?_
   by_cases q:rk (p.getD k 0)<rk (p.getD ((l+r) / 2) 0)
   ·simp only [q,decide_true,if_true];exact Zau hc g hk hs h f l ((l+r) / 2) (by lia) (by lia) (by lia) lo fun i a b=>Int.lt_of_lt_of_le q (hs _ _ a b)
   ·simp only [q,decide_false,Gc,if_false];exact Zau hc g hk hs h f ((l+r) / 2+1) r (by lia) (by lia) (by lia) (fun i a=>Int.le_trans (hs i ((l+r) / 2) (by lia) (by lia)) (Int.not_lt.mp q)) hi
theorem Zry (hc:CmpR rk n cmp s) {G:Array Nat->Shared->Prop} (h:∀ p,GoodP n p->SrtR rk p n->G p s):∀ (f:Nat) (p:Array Nat) (k:Nat),k+f=n->GoodP n p->SrtR rk p k->(kas_bin f p k).kasWp cmp G s
 | 0,p,k,e,g,hs=>h p g (by rw [<- e]; exact hs)
 | f+1,p,k,e,g,hs=>by
  unfold kas_bin;rw [KasT.kasWp_bind];refine Zau hc g (by lia) hs (fun l hl lo hi=>?_) k 0 k (Jz _) (Jd _) (by lia) (fun i z=>Fs z (Gr _)) (fun i a b=>by lia);refine Zry hc h f _ (k+1) (by lia) ⟨(bubble_perm _ _ _).trans g.perm⟩ fun i j hij hj=>?_;have hks:k<p.size:=by rw [g.size]; lia
  rw [Ny hks (by lia),Ny hks (by lia),show k-(k-l)=l by lia]
  repeat' split
  all_goals first
   | (exfalso; lia)
   | exact Int.le_refl _
   | exact lo _ (by lia)
   | exact Int.le_of_lt (hi _ (by lia) (by lia))
   | exact hs _ _ (by lia) (by lia)
theorem Zpi (hc:CmpR rk n cmp s) (inj:∀ i j,i<n->j<n->rk i=rk j->i=j) (h2:2<=n) {G:Array Nat->Shared->Prop} (h:∀ p,GoodP n p->SrtR rk p n->G p s):(kas_sort n).kasWp cmp G s:=by
 unfold kas_sort;rw [KasT.kasWp_bind];refine Znw hc inj h2 ⟨Array.Perm.refl _⟩ fun m p' a b g hs=>?_
 by_cases hm:m<n
 ·rw [F1 hm];have e:max m 1=m:=by lia
  rw [e];exact Zry hc h (n-m) p' m (by lia) g hs
 ·rw [F0 hm];have:m=n:=by lia
  subst this;exact h p' g hs
end
end L2
namespace L2
open PySem PySem.W PyProof.Rows HT
theorem Qo:∀ a:List Int,lexLt a a=false
 | []=>rfl
 | x::r=>by rw [lexLt_cons,F1 rfl]; exact Qo r
theorem Sb:∀ {a b c:List Int},lexLt a b=true->lexLt b c=true->lexLt a c=true
 | [],[],_,h,_=>by rw [Qp] at h; cases h
 | [],_::_,[],_,h=>by rw [X9] at h; cases h
 | [],_::_,_::_,_,_=>rfl
 | _::_,[],_,h,_=>by rw [X9] at h; cases h
 | _::_,_::_,[],_,h=>by rw [X9] at h; cases h
 | x::a,y::b,z::c,h1,h2=>by
  rw [lexLt_cons] at h1 h2 ⊢
  by_cases e1:x=y
  ·subst e1;rw [F1 rfl] at h1
   by_cases e2:x=z
   ·rw [F1 e2] at h2 ⊢; exact Sb h1 h2
   ·rw [F0 e2] at h2 ⊢; exact h2
  ·rw [F0 e1] at h1;have l1:x<y:=Fq h1
   by_cases e2:y=z
   ·subst e2; rw [F0 e1]; exact h1
   ·rw [F0 e2] at h2;have l2:y<z:=Fq h2;rw [F0 (by lia)];exact F2 (by lia)
theorem Qn:∀ {a b:List Int},lexLt a b=false->lexLt b a=false->a=b
 | [],[],_,_=>rfl
 | [],_::_,h,_=>by rw [Vw] at h; cases h
 | _::_,[],_,h=>by rw [Vw] at h; cases h
 | x::a,y::b,h1,h2=>by
  rw [lexLt_cons] at h1 h2
  by_cases e:x=y
  ·subst e;rw [F1 rfl] at h1 h2;rw [Qn h1 h2]
  ·rw [F0 e] at h1;rw [F0 (fun z=>e z.symm)] at h2;have:=Ft h1;have:=Ft h2;lia
theorem Np {α:Type} {p q:α->Bool}:∀ {l:List α},(∀ x∈l,p x=true->q x=true)->(∃ x∈l,q x=true/\p x=false)->l.countP p<l.countP q
 | [],_,⟨_,h,_⟩=>nomatch h
 | a::l,h1,⟨x,hx,hq,hp⟩=>by
  have le:l.countP p<=l.countP q:=List.countP_mono_left fun y hy=>h1 y (Jg _ hy);rw [List.countP_cons,List.countP_cons];rcases Jy.mp hx with e | hx
  ·subst e;rw [hq,hp];simp;lia
  ·have lt:=Np (fun y hy=>h1 y (Jg _ hy)) ⟨x,hx,hq,hp⟩;have:=h1 a Jm;cases ha:p a <;> cases hb:q a <;> simp_all <;> lia
def X0 (ks:List (List Int)) (i:Nat):Int:=((List.range ks.length).countP fun j=>lexLt (ks.getD j []) (ks.getD i []):Nat)
theorem Zfn {ks:List (List Int)} {i:Nat} (hi:i<ks.length) (h:lexLt (ks.getD i []) (ks.getD j [])=true):X0 ks i<X0 ks j:=by
 unfold X0;have:=Np (l:=List.range ks.length) (p:=fun x=>lexLt (ks.getD x []) (ks.getD i [])) (q:=fun x=>lexLt (ks.getD x []) (ks.getD j [])) (fun x _ hx=>Sb hx h) ⟨i,Fn.mpr hi,h,Qo _⟩;lia
theorem To {ks:List (List Int)} (nd:ks.Nodup) {i:Nat} (hi:i<ks.length) (hj:j<ks.length):decide (X0 ks i<X0 ks j)=lexLt (ks.getD i []) (ks.getD j []):=by
 cases e:lexLt (ks.getD i []) (ks.getD j []) with
 | true=>exact F2 (Zfn hi e)
 | false =>
  refine F3 fun z=>?_;cases e2:lexLt (ks.getD j []) (ks.getD i []) with
  | true=>have:=Zfn hj e2; lia
  | false =>
   have e3:=Qn e e2;unfold X0 at z;rw [e3] at z;exact Fs z (Int.lt_irrefl _)
theorem Zcb {ks:List (List Int)} (nd:ks.Nodup) {i:Nat} (hi:i<ks.length) (hj:j<ks.length) (h:X0 ks i=X0 ks j):i=j:=by
 have e1:lexLt (ks.getD i []) (ks.getD j [])=false:=by rw [<- To nd hi hj]; exact F3 (by lia)
 have e2:lexLt (ks.getD j []) (ks.getD i [])=false:=by rw [<- To nd hj hi]; exact F3 (by lia)
 have e3:=Qn e1 e2;rw [Gk,Gk,Jb hi,Jb hj] at e3;exact (Bo (h₀:=hi) (h₁:=hj) nd).mp (by simpa using e3)
section
theorem Zcq {Q:Bool->Shared->Prop}:∀ {vs ws:List Value} {ns ms:List Int} {fin:Bool} {i:Nat},IntsAre vs ns->IntsAre ws ms->(fin=decide (ns.length<ms.length))->Q (lexLt ns ms) s->KatLex prog w A true fin Q (vs.zip ws) i s
 | _,_,_,_,fin,i,.nil,.nil,e,h=>by
  subst e;exact kat_nil h
 | _,_,_,_,fin,i,.nil,.cons _ _ r,e,h=>by
  subst e;exact kat_nil (by simpa [HT.lexLt] using h)
 | _,_,_,_,fin,i,.cons _ _ r,.nil,e,h=>by
  subst e;exact kat_nil (by simpa [HT.lexLt] using h)
 | _,_,_,_,fin,i,.cons a t r,.cons c u r2,e,h=>by
  rw [B3];refine kat_cons (wpAny_eqBool_int ?_);rw [lexLt_cons] at h
  by_cases z:a=c
  ·subst z;rw [F1 rfl] at h;rw [beq_self_eq_true];exact kat_yes (Zcq r r2 (by rw [e]; simp) h)
  ·rw [F0 z] at h;have hb:(a == c)=false:=by simpa using z
   rw [hb];refine kat_no ?_;cases hi:(true && i == 0) with
   | true=>exact oneLt_int h
   | false=>exact kat_one _ _ (PyProof.Rows.lt_int (show PySem.W.BoolBack Q (.bool (decide (a<c))) s from h))
end
abbrev KIt:=V×Addr×List Int
section
def Inv.pin1 {b:Addr} {o:Obj} (I:Inv X pq σ H s) (f:FpOk X pq H b) (e:s.heap.get? b=some o) (hd:∀ v,o.data≠.cell v):Inv X (pq++[(b,o)]) σ H s :=
 I.pins_of fun p hp=>(J9.mp hp).elim (fun z=>I.pin p (Jl _ z)) fun z=>by
  rw [Jh.mp z];exists e,f.1,f.2.1,f.2.2.1,hd
def Inv.turn1 {b:Addr} (I:Inv X pq σ H s) (f:FpOk X pq H b) (hs:Heap.SameBut b s.heap h'):Inv X pq σ H { s with heap:=h' } :=
 I.turned (t':=s.toks) (fun c o hc e=>(hs.2 c hc).trans e) f.1 f.2.1 f.2.2.2.1 f.2.2.2.2.1 f.2.2.2.2.2
def FpOk.snoc {b c:Addr} {o:Obj} (f:FpOk X pq H b) (h:c≠b):FpOk X (pq++[(c,o)]) H b :=
 ⟨f.1,f.2.1,f.2.2.1,f.2.2.2.1,f.2.2.2.2.1,fun p hp=>by
  rw [<- Ga] at hp;rcases J9.mp hp with z | z
  ·exact f.2.2.2.2.2 p z
  ·rw [Jh.mp z]; exact h⟩
def Zr (L:List KIt):List Value:=L.map fun q=>Value.ref q.2.1
def Xb {α:Type} {f:α->β} {l:List α} {i:Nat} {d:β} (h:i<l.length):(l.map f).getD i d=f l[i]:=by
 rw [Gk,Gg,Jb h]; rfl
theorem Zjb {L:List KIt} (I:Inv X pq σ H s) (hk:∀ q∈L,SqT X.K H q.2.1 (q.2.2.map V.int)/\q.2.2≠[]) (h2:0<L.length) {Q:SortKind->Shared->Prop} (h:Q (tuples' true) s) :
  wpAny (model X.prog X.w) A (keyKind' (Zr L).toArray) Q E s:=by
 have tk:∀ L':List KIt,(∀ q∈L',q∈L)->∃ fs:List Value,KatTups s.heap (Zr L') fs/\fs.length=L'.length/\∀ v∈fs,∃ n t,v=.int n t:=by
  intro L'
  induction L' with
  | nil=>intro _;exists [],.nil,rfl,fun v hv=>nomatch hv
  | cons q r ih =>
   intro hm;obtain ⟨fs,a,b,c⟩:=ih fun x hx=>hm x (Jg _ hx);obtain ⟨sq,ne⟩:=hk q (hm q Jm);obtain ⟨its,rv,⟨o,e,hc,n,hd⟩,_⟩:=I.tuple sq
   match hq:q.2.2,ne with
   | z::zs,_ =>
    rw [hq] at rv;cases rv with
    | cons rv1 rv2 =>
     obtain ⟨t,et⟩:=rv1;exists .int z t::fs,KatTups.cons e hc hd ?_ a,by simp [b],fun v hv=>?_
     ·rw [et]; simp
     ·rcases Jy.mp hv with e | hv
      ·exists z,t,e
      ·exact c v hv
 obtain ⟨fs,a,b,c⟩:=tk L fun _ h=>h;exact kat_kind (T:=.type "int") a (by lia) (fun v hv=>by obtain ⟨n,t,e⟩:=c v hv; subst e; exact .now) nofun h
def Znf {L:List KIt} (I:Inv X pq σ H s) (hk:∀ q∈L,SqT X.K H q.2.1 (q.2.2.map V.int)/\q.2.2≠[]) (nd:(L.map (·.2.2)).Nodup) :
  CmpR (X0 (L.map (·.2.2))) L.length (kas_ask X.prog X.w A (tuples' true) (Zr L)) s:=by
 intro i j C hi hj h;rw [To nd (by simpa using hi) (by simpa using hj),Xb hi,Xb hj] at h;unfold kas_ask;rw [show (Zr L).getD i Value.none=Value.ref L[i].2.1 from Xb hi,show (Zr L).getD j Value.none=Value.ref L[j].2.1 from Xb hj];obtain ⟨its,rv,⟨o,e,hc,n,hd⟩,_⟩:=I.tuple (hk _ (Jr hi)).1;obtain ⟨its2,rv2,⟨o2,e2,hc2,n2,hd2⟩,_⟩:=I.tuple (hk _ (Jr hj)).1;have ia:∀ {ns:List Int} {vs:List Value},Vals (ns.map V.int) vs->IntsAre vs ns:=by
  intro ns
  induction ns with
  | nil=>intro vs h; cases h; exact .nil
  | cons a r ih =>
   intro vs h;cases h with
   | cons h1 h2=>obtain ⟨t,e⟩:=h1; subst e; exact .cons a t (ih h2)
 refine kat_lt e hd e2 hd2 ?_;have i1:=ia rv;have i2:=ia rv2;exact Zcq i1 i2 (by rw [<- i1.length,<- i2.length]; simp) h
end
section
abbrev PD (D:Addr) (e1:Nat):Addr×Obj:=(D,seqObj "list" #[] e1)
abbrev PKs (kS:Addr) (e:Nat) (L:List KIt):Addr×Obj:=(kS,seqObj "list" (Zr L).toArray e)
theorem Vals.perm_get {L:List KIt} (rv:Vals (L.map (·.1)) its) {p:List Nat} (hp:∀ i∈p,i<L.length):Vals (p.map fun i=>(L.getD i (.non,0,[])).1) (p.map fun i=>its.getD i Value.none):=by
 have e:=rv.length;simp only [Ja] at e
 induction p with
 | nil=>exact .nil
 | cons i r ih =>
  have hi:=hp i Jm;have hi2:i<its.length:=by lia
  obtain ⟨u,hu,r1⟩:=Vals.get rv (i:=i) (x:=L[i].1) (by rw [Gg,Jb hi]; rfl);refine .cons ?_ (ih fun j hj=>hp j (Jg _ hj));show RelV (L.getD i (.non,0,[])).1 (its.getD i Value.none);rw [Gk,Gk,hu,Jb hi];exact r1
theorem Tx {D:Addr} {e e1:Nat} {L L':List KIt} {st:SortSt} {out:List Value} {P:PySem.Fin->Shared->Prop} (I:Inv X ((pq++[PD D e1])++[PKs kS e L]) σ H s) (h64:L.length<64) (fD:FpOk X pq H D) (fK:FpOk X (pq++[PD D e1]) H kS)
  (hout:(arrOf st).map (·.2)=out.toArray) (hf:failedOf st=none) (rv:Vals (L'.map (·.1)) out) (hl:L'.length=L.length)
  (h:∀ s',Inv X pq σ (upd H D (.lst (L'.map (·.1)))) s'->P (.done (.ret .none)) s'):wpAny (model X.prog X.w) A (ksk_tail D false e1 (.ref kS) st) P E s:=by
 have pk:=I.pin (PKs kS e L) (Jl _ (Jl _ (Jh.mpr rfl)));have s1:=Heap.SameBut.update s.heap kS (Obj.mapSeq fun _=>(#[]:Array Value));have I1:=(I.unpinned (pl:=[PKs kS e L])).turn1 fK s1;have pd:=I1.pin (PD D e1) (Jl _ (Jl _ (Jh.mpr rfl)));have s2:=Heap.SameBut.update (s.heap.update kS (Obj.mapSeq fun _=>(#[]:Array Value))) D (Obj.mapSeq fun _=>out.toArray);obtain ⟨c2,hc2⟩:∃ c2,((s.heap.update kS (Obj.mapSeq fun _=>(#[]:Array Value))).update D (Obj.mapSeq fun _=>out.toArray)).get? D=some (seqObj "list" out.toArray c2):=⟨_,get?_update_seq pd.1 fun _=>out.toArray⟩;have lo:out.length=L.length:=by have:=rv.length; simp only [Ja] at this; lia
 have hz:L'.length<=sizeLine:=by rw [sizeLine_eq]; lia
 unfold ksk_tail
 try dsimp only
 rw [hout];refine Fv (listUpdate_at pk.1 rfl ?_ (by simp only [Jn,Zr,Ja,sizeLine_eq]; lia) (Jz _));refine Fv (F8 ?_);refine Fv (seqEpoch_at pd.1 rfl ?_);refine Fv (listUpdate_at pd.1 rfl ?_ (Jz _) (by simp only [Jn,sizeLine_eq,Gc,if_false]; lia));rw [hf];simp only [bne_self_eq_false,Gc,if_false];refine Fw (h _ ?_);have I2:=(I1.unpinned (pl:=[PD D e1])).turn1 fD s2;exact I2.track (its:=out) (n:=c2) hc2 fD rv (by rw [Ja]; exact hz)
theorem Zip {D:Addr} {e e1:Nat} {L:List KIt} {P:PySem.Fin->Shared->Prop} (I:Inv X ((pq++[PD D e1])++[PKs kS e L]) σ H s) (h64:L.length<64) (fD:FpOk X pq H D) (fK:FpOk X (pq++[PD D e1]) H kS)
  (hk:∀ q∈L,SqT X.K H q.2.1 (q.2.2.map V.int)/\q.2.2≠[]) (nd:(L.map (·.2.2)).Nodup) (rv:Vals (L.map (·.1)) its)
  (h:∀ (s':Shared) (L':List KIt),L'.Perm L->L'.Pairwise (fun a b=>HT.lexLt a.2.2 b.2.2=true)->Inv X pq σ (upd H D (.lst (L'.map (·.1)))) s'->P (.done (.ret .none)) s') :
  wpAny (model X.prog X.w) A (ksk_end D false its.toArray e1 (.ref kS) (Zr L).toArray) P E s:=by
 have el:its.length=L.length:=by have:=rv.length; simp only [Ja] at this; lia
 have ek:(Zr L).length=its.length:=by rw [el]; simp [Zr]
 unfold ksk_end
 try dsimp only
 simp only [Gc,if_false]
 by_cases h2:its.toArray.size<2
 ·rw [F1 h2];refine Fv (Fw ?_);rw [F1 h2];have h2':its.length<2:=by simpa using h2
  refine Fv (m:=(pure ():StateT SortSt Sem Unit).run _) (Fw ?_);refine Tx (L':=L) (out:=its) I h64 fD fK ?_ rfl rv rfl fun s'=>h s' L (List.Perm.refl _) ?_
  ·show (((Zr L).toArray.zip its.toArray).map (·.2))=its.toArray
   apply Array.toList_inj.mp
   rw [Array.toList_map,ksk_zip];simp only [List.map_snd_zip (by lia:its.length<=(Zr L).length)]
  ·match L,el with
   | [],_=>exact .nil
   | [q],_=>exact B1 _ _
   | _::_::_,el=>simp only [Jq] at el; lia
 ·rw [F0 h2,F0 h2];have h2':2<=its.length:=by simpa using h2
  refine Fv (Zjb (I.unpinned (pl:=[PKs kS e L])) hk (by lia) ?_);refine Fv (F7 (kat_run (vs:=its) (ks:=Zr L) (G:=fun p s'=>s'=s/\GoodP L.length p/\SrtR (X0 (L.map (·.2.2))) p L.length) (Q:=fun st' s'=>∃ p:Array Nat,s'=s/\GoodP L.length p/\SrtR (X0 (L.map (·.2.2))) p L.length/\arrOf st'=p.map (kas_item ((Zr L).toArray.zip its.toArray))/\failedOf st'=none) ek h2' (by lia)
   (fun p st' s' a1 a2 a3 a4=>⟨p,a4.1,a4.2.1,a4.2.2,a2,a3⟩)
   (by
    rw [el];exact Zpi (Znf (I.unpinned (pl:=[PKs kS e L])) hk nd) (fun i j hi hj z=>Zcb nd (by simpa using hi) (by simpa using hj) z) (by lia) (G:=fun p s'=>s'=s/\GoodP L.length p/\SrtR (X0 (L.map (·.2.2))) p L.length) fun p g hs=>⟨rfl,g,hs⟩)) ?_ fun _ _ x=>x)
  rintro ⟨⟨⟩,st'⟩ s' ⟨p,rfl,g,hs,har,hf⟩;have hp:∀ i∈p.toList,i<L.length:=fun i hi=>by
   have:=(Bq.mp g.perm).mem_iff.mp hi;simpa using this
  have pl:p.toList.Perm (List.range L.length):=by have:=Bq.mp g.perm; simpa using this
  have hmap:∀ (F:KIt->V),(p.toList.map fun i=>F (L.getD i (.non,0,[])))=(p.toList.map fun i=>L.getD i (.non,0,[])).map F:=fun F=>by rw [Gd]; rfl
  have rangeL:(List.range L.length).map (fun i=>L.getD i (.non,0,[]))=L:=by
   apply List.ext_getElem
   ·simp
   ·intro i h1 h2; simp [Gk,h2]
  refine Tx (L':=p.toList.map fun i=>L.getD i (.non,0,[])) (out:=p.toList.map fun i=>its.getD i Value.none) I h64 fD fK (kat_snds ek har) hf (by rw [<- hmap (·.1)]; exact Vals.perm_get rv hp) (by rw [Ja,Ba,g.size]) fun s'=>h s' _ ?_ ?_
  ·have:=pl.map fun i=>L.getD i (.non,0,[]);rwa [rangeL] at this
  ·rw [Be];intro i j hi hj hij;simp only [Ja,Ba,g.size] at hi hj;have gi:=g.lt i hi;have gj:=g.lt j hj;have hle:=hs i j (Bt hij) hj;have hne:=g.ne hi hj (Gf hij);unfold Rk at hle;have hlt:X0 (L.map (·.2.2)) (p.getD i 0)<X0 (L.map (·.2.2)) (p.getD j 0):=by
    rcases Int.lt_or_eq_of_le hle with z | z
    ·exact z
    ·exact Fs (Zcb nd (by simpa using gi) (by simpa using gj) z) hne
   have hd:=To nd (i:=p.getD i 0) (j:=p.getD j 0) (by simpa using gi) (by simpa using gj);rw [F2 hlt,Xb gi,Xb gj] at hd;have ei:p.getD i 0=p[i]'(by rw [g.size]; exact hi):=by simp [Array.getD,g.size,hi]
   have ej:p.getD j 0=p[j]'(by rw [g.size]; exact hj):=by simp [Array.getD,g.size,hj]
   simp only [List.getElem_map,Array.getElem_toList,Gk];have gi':=gi;have gj':=gj;rw [ei] at gi';rw [ej] at gj';rw [Jb gi',Jb gj'];simp only [ei,ej] at hd;exact hd.symm
end
section
theorem Ze1 {D f:Addr} {e1:Nat} {L:List KIt} {P:PySem.Fin->Shared->Prop} (I:Inv X ((pq++[PD D e1])++[PKs kS 0 []]) σ H s) (h64:L.length<64) (fD:FpOk X pq H D) (fK:FpOk X (pq++[PD D e1]) H kS)
  (hk:∀ q∈L,SqT X.K H q.2.1 (q.2.2.map V.int)/\q.2.2≠[]) (nd:(L.map (·.2.2)).Nodup) (rv:Vals (L.map (·.1)) its)
  (hcall:∀ (pins':List (Addr×Obj)) (s':Shared) (q:KIt) (u:Value),(∀ p∈pq,p∈pins')->Inv X pins' σ H s'->q∈L->RelV q.1 u->wpAny (model X.prog X.w) A (call (.ref f) [u]) (EP X pins' σ fun v H'=>v=.ref q.2.1/\H'=H) (fun _ _=>False) s')
  (h:∀ (s':Shared) (L':List KIt),L'.Perm L->L'.Pairwise (fun a b=>HT.lexLt a.2.2 b.2.2=true)->Inv X pq σ (upd H D (.lst (L'.map (·.1)))) s'->P (.done (.ret .none)) s') :
  wpAny (model X.prog X.w) A (ksk_rest D (.ref f) false its.toArray e1 (.ref kS)) P E s:=by
 have el:its.length=L.length:=by have:=rv.length; simp only [Ja] at this; lia
 unfold ksk_rest;refine Fv (wpAny_rule ?_)
 first
  | rw [List.forIn_toArray]
  | (rw [<- Bh]; simp only [List.toList_toArray])
  | rw [<- Bh]
 refine Fv (ksk_fold (fun n s'=>∃ e,Inv X ((pq++[PD D e1])++[PKs kS e (L.take n)]) σ H s') its 0 s ⟨0,by simpa using I⟩ (fun j x s' hx ⟨e,J⟩=>?_) fun s' ⟨e,J⟩=>?_)
 ·simp only [B2] at J ⊢;have hj:j<its.length:=(Je.mp hx).1;have hj':j<L.length:=by lia
  obtain ⟨u,hu,r1⟩:=Vals.get rv (i:=j) (x:=L[j].1) (by rw [Gg,Jb hj']; rfl);rw [hx] at hu;cases hu;refine Fv (wpAny_attempt (F7 (hcall _ s' L[j] x (fun p hp=>Gn _ (Gn _ hp)) J (Jr hj') r1) (fun k s'' hkk=>?_) fun _ _ hF=>hF.elim));obtain ⟨v,H',J',rk,ev,eH⟩:=hkk;subst ev;subst eH;obtain rfl:k=Value.ref L[j].2.1:=rk;have pk:=J'.pin (PKs kS e (L.take j)) (Jl _ (Jl _ (Jh.mpr rfl)));have s1:=Heap.SameBut.update s''.heap kS (Obj.mapSeq (·.push (Value.ref L[j].2.1)));have ea:(Zr (L.take j)).toArray.push (Value.ref L[j].2.1)=(Zr (L.take (j+1))).toArray:=by
   have e2:Zr (L.take (j+1))=Zr (L.take j)++[Value.ref L[j].2.1]:=by
    unfold Zr;rw [Ji hj',Jf];rfl
   rw [e2,List.push_toArray]
  obtain ⟨c2,hc2⟩:∃ c2,(s''.heap.update kS (Obj.mapSeq (·.push (Value.ref L[j].2.1)))).get? kS=some (seqObj "list" (Zr (L.take (j+1))).toArray c2):=⟨_,by rw [<- ea]; exact get?_update_seq pk.1 (·.push (Value.ref L[j].2.1))⟩;have hsz:(Zr (L.take j)).toArray.size<64:=by simp only [Jn,Zr,Ja,Jt]; lia
  try dsimp only
  refine Fv (listUpdate_at pk.1 rfl ?_ (by rw [sizeLine_eq]; show (Zr (L.take j)).toArray.size<=_; lia) (J8 (G9 (Array.size_push ..)) (by rw [sizeLine_eq]; show (Zr (L.take j)).toArray.size+1<=_; lia)));refine Fw ⟨rfl,c2,?_⟩;have J1:=(J'.unpinned (pl:=[PKs kS e (L.take j)])).turn1 fK s1;exact J1.pin1 fK hc2 (by intro v; simp)
 ·simp only [B2] at J;rw [el,Jw] at J;have pk:=J.pin (PKs kS e L) (Jl _ (Jl _ (Jh.mpr rfl)))
  try dsimp only
  refine Fv (listItems_at pk.1 rfl ?_);exact Zip J h64 fD fK hk nd rv h
theorem Zlw {f:Addr} {L:List KIt} (I:Inv X pq σ H s) (hl:SqL X.K H l (L.map (·.1))) (h64:L.length<64)
  (hk:∀ q∈L,SqT X.K H q.2.1 (q.2.2.map V.int)/\q.2.2≠[]) (nd:(L.map (·.2.2)).Nodup)
  (hcall:∀ (pins':List (Addr×Obj)) (s':Shared) (q:KIt) (u:Value),(∀ p∈pq,p∈pins')->Inv X pins' σ H s'->q∈L->RelV q.1 u->wpAny (model X.prog X.w) X.A.in1.in1 (call (.ref f) [u]) (EP X pins' σ fun v H'=>v=.ref q.2.1/\H'=H) (fun _ _=>False) s')
  (h:∀ (D:Addr) (L':List KIt),H D=none->L'.Perm L->L'.Pairwise (fun a b=>HT.lexLt a.2.2 b.2.2=true)->Q (.ref D) (upd H D (.lst (L'.map (·.1))))) :
  wpAny (model X.prog X.w) X.A (call (.builtin "sorted") [.ref l] [(Str.ofString "key",.ref f)]) (EP X pq σ Q) E s:=by
 obtain ⟨its,rv,pl,_⟩:=I.list hl;have el:its.length=L.length:=by have:=rv.length; simp only [Ja] at this; lia
 refine call_function_entry_kw kind_sorted plain_sorted entry_sorted (ksk_s1 _ _) ?_;unfold Builtin.«sorted»;refine Fv (m:=checkCount "sorted" 1 1 _) (Fw ?_);refine Fv (collect_list pl.isList ?_ (by rw [sizeLine_eq]; lia));refine Fv (wpAny_newList ?_ (by rw [sizeLine_eq]; lia));have hsz:((s.heap.push (seqObj "list" #[] 0)).update s.heap.objs.size (Obj.mapSeq (·++its.toArray))).objs.size=s.heap.objs.size+1:=by
  rw [Heap.size_update,size_push']
 have hoL:(((s.heap.push (seqObj "list" #[] 0)).update s.heap.objs.size (Obj.mapSeq (·++its.toArray))).push (seqObj "list" its.toArray 0)).get? (s.heap.objs.size+1)=some (seqObj "list" its.toArray 0):=by
  rw [<- hsz]; exact Fy _ rfl
 have keep:∀ b o,s.heap.get? b=some o->(((s.heap.push (seqObj "list" #[] 0)).update s.heap.objs.size (Obj.mapSeq (·++its.toArray))).push (seqObj "list" its.toArray 0)).get? b=some o:=fun b o q=>by
  have hlt:b<s.heap.objs.size:=Fz q;rw [Heap.get?_push_ne _ _ _ (by rw [hsz]; exact Gf (Nat.lt_succ_of_lt hlt)),Heap.get?_update_ne _ _ _ _ (Gf hlt),Heap.get?_push_ne _ _ _ (Gf hlt)];exact q
 have fD:FpOk X pq H (s.heap.objs.size+1):=I.fpOk (Bj _) (I.hok.fresh (Bj _));have I1:Inv X pq σ H { s with heap:=((s.heap.push (seqObj "list" #[] 0)).update s.heap.objs.size (Obj.mapSeq (·++its.toArray))).push (seqObj "list" its.toArray 0) }:=I.kept (t':=s.toks) keep;show wpAny _ _ _ _ _ { s with heap:=((s.heap.push (seqObj "list" #[] 0)).update s.heap.objs.size (Obj.mapSeq (·++its.toArray))).push (seqObj "list" its.toArray 0) };rw [hsz];generalize hD:s.heap.objs.size+1=D at *
 generalize hh:((s.heap.push (seqObj "list" #[] 0)).update s.heap.objs.size (Obj.mapSeq (·++its.toArray))).push (seqObj "list" its.toArray 0)=hp at *
 refine Fv (wpAny_holding (wpAny_call_entry_kw slot_list_sort ⟨_,hoL,rfl⟩ entry_list_sort ?body (ksk_l1 _ _)))
 case body =>
  show wpAny (model X.prog X.w) X.A.in1.in1 (Builtin.«list.sort» ⟨[.ref D],[(Str.ofString "key",.ref f)]⟩) _ _ _;rw [ksk_t1];have s1:=Heap.SameBut.update hp D (Obj.mapSeq fun _=>(#[]:Array Value));obtain ⟨e1,ho1⟩:∃ e1,(hp.update D (Obj.mapSeq fun _=>(#[]:Array Value))).get? D=some (seqObj "list" #[] e1):=⟨_,get?_update_seq hoL fun _=>#[]⟩;have I2:=(I1.turn1 fD s1).pin1 fD ho1 (by intro v; simp);have I3:Inv X (pq++[PD D e1]) σ H { s with heap:=((hp.update D (Obj.mapSeq fun _=>(#[]:Array Value))).push (seqObj "tuple" its.toArray 0)).push (seqObj "list" #[] 0) } :=
   I2.kept (t':=s.toks) fun b o e=>Fx _ (Fx _ e)
  have hKz:(hp.update D (Obj.mapSeq fun _=>(#[]:Array Value))).objs.size<=((hp.update D (Obj.mapSeq fun _=>(#[]:Array Value))).push (seqObj "tuple" its.toArray 0)).objs.size:=by rw [size_push']; exact Bj _
  have fK:FpOk X (pq++[PD D e1]) H ((hp.update D (Obj.mapSeq fun _=>(#[]:Array Value))).push (seqObj "tuple" its.toArray 0)).objs.size:=I2.fpOk hKz (I2.hok.fresh hKz);unfold ksk_tree;refine Fv (listItems_at hoL rfl ?_);refine Fv (listUpdate_at hoL rfl ?_ (by rw [Jn,sizeLine_eq]; lia) (Jz _));refine Fv (seqEpoch_at ho1 rfl ?_);refine Fv (wpAny_newTuple ?_ (by show its.length<=_; rw [sizeLine_eq]; lia));refine Fv (wpAny_newList ?_ (Jz _));refine wpAny_holding ?_;refine Ze1 (L:=L) (I3.pin1 fK (Fy _ rfl) (by intro v; simp)) h64 fD fK hk nd rv hcall fun s' L' p w I'=>?_;exists ·,Fw ⟨_,rfl,.ref D,_,I',rfl,h D L' fD.1 p w⟩
end
def codeφ (c:Addr) (q:Str):HO:=.ext fun h=>h.CodeRec (.ref c) q
def Wb (P:Addr) (pos:Pos) (q:Str) (H:Hp):Prop :=
 ∃ ps,H P=some (.tbl ps)/\TriplesOk ps.toList/\(codeAmong pos ps.toList=none\/∃ c,codeAmong pos ps.toList=some (.ref c)/\H c=some (codeφ c q))
def Uu (P:Addr) (H H':Hp):Prop:=∀ b o,b≠P->H b=some o->H' b=some o
def Uu.refl (P:Addr) (H:Hp):Uu P H H:=fun _ _ _ h=>h
def Wb.same {P:Addr} {q:Str} (t:Wb P pos q H) (s:Same H H'):Wb P pos q H':=by
 obtain ⟨ps,a,b,c⟩:=t;exists ps,s _ _ a,b,?_;rcases c with c | ⟨c',d,e⟩
 ·exact .inl c
 ·exact .inr ⟨c',d,s _ _ e⟩
def Bm (mg:Str->Option Value) (h:Heap):Prop:=∃ bm ob,mg "__builtins__"=some (.ref bm)/\bm≠builtinsNs/\h.get? bm=some ob/\ob.cls=.type "module"/\ob.dict=some builtinsNs/\ob.data=.plain
abbrev Vx (q:Str) (params:Arguments) (body:Expr) (scope:Scope) (pm cv ctv:Value):Obj :=
 { cls:=.type "function",data:=.func (kla_fn "<lambda>" q params body scope [] pm cv ctv) }
section
def Zju {c:Addr} {q:Str} (x:h.CodeRec (.ref c) q) :Y9 P w H h c (codeφ c q) :=
 ⟨x,let ⟨c',o,_,_,e,ho,_⟩:=x; ⟨o,by cases e; exact ho⟩,fun _ _ a b=>a.at fun o e=>b o e⟩
def Zcs {params:Arguments} {scope:Scope} {c P:Addr} {R:Value->Shared->Prop} (I:Inv X pq σ H s) (hcode:X.env.code=.ref c) (C:CodeHd X.base c P) (B:Bm X.mg X.base)
  (T:Wb P pos (X.env.qual++"<lambda>") H) (hcl:closureFor scope X.env=pure []) (hdef:defaultsOf params X.env=([],[]))
  (h:∀ (f c':Addr) (pm ctv:Value) (H2:Hp) (s2:Shared),Uu P H H2->Wb P pos (X.env.qual++"<lambda>") H2->H2 c'=some (codeφ c' (X.env.qual++"<lambda>")) ->
   Inv X (pq++[(f,Vx (X.env.qual++"<lambda>") params body scope pm (.ref c') ctv)]) σ H2 s2->R (.ref f) s2) :
  wpAny (model X.prog X.w) X.A (eval (.Lambda params body scope pos) X.env) R E s:=by
 obtain ⟨ps,hP,ht,hc⟩:=T;have oP:s.heap.get? P=some (tabObj ps):=I.hok P _ hP;obtain ⟨bm,ob,b1,b2,b3,b4,b5,b6⟩:=B;have gl:s.heap.Ns mainGlobals X.mg:=I.mod.glob.keeps I.bk;have hgP:mainGlobals≠P:=fun z=>by
  obtain ⟨o,es,ep,e,hd,_⟩:=gl;rw [z,oP] at e; cases e; cases hd
 have hbP:bm≠P:=fun z=>by
  have e:=I.bk _ _ b3;rw [z,oP] at e; cases e; cases b4
 have hbG:bm≠mainGlobals:=fun z=>by
  obtain ⟨o,es,ep,e,hd,_⟩:=gl;have e3:=I.bk _ _ b3;rw [z,e] at e3; cases e3; rw [hd] at b6; cases b6
 have BA:s.heap.BuiltinsAt X.mg P:=⟨bm,ob,b1,b2,hbG,hbP,I.bk _ _ b3,b4,b5,b6⟩;refine kla_eval hdef ?_;rcases hc with hc | ⟨c',hc,hx⟩
 ·refine kla_makeFunction (mg:=X.mg) hcl I.ok.glob gl hcode (C.keeps I.bk) oP ht hc hgP BA fun c' ctv h' tk hx hge hlt hrec htb=>?_;have hn:H c'=none:=I.hok.fresh hge;have cP:c'≠P:=fun z=>by rw [z,hP] at hn; cases hn
  have cR:(h'.push (Vx (X.env.qual++"<lambda>") params body scope ((X.mg "__name__").getD .none) (.ref c') ctv)).CodeRec (.ref c') (X.env.qual++"<lambda>"):=hrec.at fun o e=>Fx _ e;have keep:∀ b o,b≠P->s.heap.get? b=some o->(h'.push (Vx (X.env.qual++"<lambda>") params body scope ((X.mg "__name__").getD .none) (.ref c') ctv)).get? b=some o:=fun b o n e=>Fx _ (hx b o n e);have tb:=Fx (Vx (X.env.qual++"<lambda>") params body scope ((X.mg "__name__").getD .none) (.ref c') ctv) htb;have H2e:∀ b o,b≠P->H b=some o->upd (upd H P (.tbl (ps++#[rawInt pos.line,rawInt pos.col,.ref c']))) c' (codeφ c' (X.env.qual++"<lambda>")) b=some o:=fun b o n e=>by
   rw [Zm (Zq e hn),Zm n]; exact e
  have hok:HOk X.prog X.w (upd (upd H P (.tbl (ps++#[rawInt pos.line,rawInt pos.col,.ref c']))) c' (codeφ c' (X.env.qual++"<lambda>"))) (h'.push (Vx (X.env.qual++"<lambda>") params body scope ((X.mg "__name__").getD .none) (.ref c') ctv)):=fun b u e=>by
   by_cases hb:b=c'
   ·subst hb;rw [Zg] at e;cases e;exact Zju cR
   ·rw [Zm hb] at e
    by_cases hb2:b=P
    ·subst hb2;rw [Zg] at e;cases e;exact tb
    ·rw [Zm hb2] at e;refine (I.hok b u e).stay (fun d v hd q=>keep d v ?_ q) (fun d q=>H2e d _ (fun z=>by rw [z,hP] at q; cases q) q) fun d xs q=>H2e d _ (fun z=>by rw [z,hP] at q; cases q) q;rcases hd with z | z
     ·rw [z]; exact hb2
     ·intro w; rw [w,hP] at z; cases z
  have un:Un X.fs [] H (upd (upd H P (.tbl (ps++#[rawInt pos.line,rawInt pos.col,.ref c']))) c' (codeφ c' (X.env.qual++"<lambda>"))) s.heap (h'.push (Vx (X.env.qual++"<lambda>") params body scope ((X.mg "__name__").getD .none) (.ref c') ctv)):=by
   have nP:∀ b,H b=none->b≠P:=fun b n z=>by rw [z,hP] at n; cases n
   exists fun b o e n _ _=>keep b o (nP b n) e,fun b o e n _ _=>⟨o.slots,keep b o (nP b n) e⟩,fun b o e n _=>?_,fun b o e _=>?_,fun b xs q=>H2e b _ (fun z=>by rw [z,hP] at q; cases q) q,fun b o u q=>H2e b _ (fun z=>by rw [z,hP] at q; cases q) q,fun b qs q=>?_
   ·have:b≠c':=Gf (Gb (Fz e) hge);rw [Zm this,Zm (nP b n)];exact n
   ·by_cases hb:b=P
    ·exists _,hb ▸ tb
    ·exists o,keep b o hb e
   ·by_cases hb:b=P
    ·subst hb;rw [hP] at q;cases q;exact ⟨#[rawInt pos.line,rawInt pos.col,.ref c'],by rw [Zm cP.symm,Zg]⟩
    ·exact ⟨#[],by rw [H2e b _ hb q]; simp⟩
  have I2:=I.un (t':=tk) un hok;have fz:s.heap.objs.size<=h'.objs.size:=J8 hge (Bt hlt);have fn:upd (upd H P (.tbl (ps++#[rawInt pos.line,rawInt pos.col,.ref c']))) c' (codeφ c' (X.env.qual++"<lambda>")) h'.objs.size=none:=by
   rw [Zm (Nat.ne_of_gt hlt),Zm (fun z=>Fs (Fz oP) (by rw [<- z]; exact Nat.not_lt.mpr fz))];exact I.hok.fresh fz
  have fF:=I.fpOk (H':=upd (upd H P (.tbl (ps++#[rawInt pos.line,rawInt pos.col,.ref c']))) c' (codeφ c' (X.env.qual++"<lambda>"))) fz fn;refine h h'.objs.size c' _ ctv _ _ H2e ⟨_,by rw [Zm cP.symm,Zg],?_,.inr ⟨c',?_,Zg⟩⟩ Zg (I2.pin1 fF (Fy _ rfl) (by intro v; simp))
  ·rw [Array.toList_append]; exact TriplesOk_snoc _ _ _ _ ht
  ·rw [Array.toList_append]; exact codeAmong_snoc _ ht hc
 ·refine kla_makeFunctionHit (mg:=X.mg) hcl I.ok.glob gl hcode (C.keeps I.bk) oP ht hc BA fun ctv h' tk hk hsz=>?_;have I2:Inv X pq σ H { s with heap:=h'.push (Vx (X.env.qual++"<lambda>") params body scope ((X.mg "__name__").getD .none) (.ref c') ctv),toks:=tk }:=I.kept (t':=tk) fun b o e=>Fx _ (hk b o e);have fF:=I.fpOk (H':=H) hsz (I.hok.fresh hsz);exact h h'.objs.size c' _ ctv H _ (.refl _ _) ⟨ps,hP,ht,.inr ⟨c',hc,hx⟩⟩ hx (I2.pin1 fF (Fy _ rfl) (by intro v; simp))
def Zgo {Pg:Program} {K:Frag} {outer:List Env} {f c':Addr} {q x:Str} {params:Arguments} {scope:Scope} {ctv:Value} {u:Value} {t:TE}
  (e0:Env0 Pg w K mg base A outer s H) (hr:Room 1 A) (ho:s.heap.get? f=some (Vx q params body scope pm (.ref c') ctv)) (hcd:s.heap.CodeRec (.ref c') q) (S:FnScope [x] [x] scope)
  (hbind:bindArgs (kla_fn "<lambda>" q params body scope [] pm (.ref c') ctv) ⟨[u],[]⟩=pure [(x,u)]) (rv:RelV v u)
  (hb:PE (cxOf CX0 Pg w K mg base [x] q scope f (.ref c') A outer s H E0) body t) (ht:t [some v] H Q) :
  codeAny (model Pg w) A (.call (.ref f) ⟨[u],[]⟩) (CR CX0 outer Pg w H s Q E0) s:=by
 have KX:K.In s.heap:=e0.mod.kin.keeps fun b o e=>(e0.bs b o e).1;have lim:s.heap.NoLimit:=e0.mod.nolimit.keeps fun b o e=>(e0.bs b o e).1;refine kla_callFunE hr.depth ho rfl S.co S.gen rfl hcd ?_;rw [hbind];refine Fw ?_;refine wpAny_newFunctionEnv_cells S.kind (fun y hy=>?_) fun env he s1 x1=>?_
 ·have ey:y=(x,u):=Jh.mp hy;subst ey;rcases S.par x (Jh.mpr rfl) with z | z
  ·exact .inl z
  ·exact .inr ⟨z,PySem.W.cellsFrom_some _ _ _ (.inl z)⟩
 ·subst he;exists lim.keeps x1.toInCall.keep,kla_codeExpr ?_;have I:Inv (cxOf CX0 Pg w K mg base [x] q scope f (.ref c') A outer s H E0) [] (Uc [x] [v]) H s1:=Nb (us:=[u]) S hr.hd e0 rfl (.cons rv .nil) x1;refine F7 (hb [] s1 (Uc [x] [v]) H Q I ht) (fun r s' hs=>?_) fun e s' hs=>hs;obtain ⟨v',H',J,rv',q'⟩:=hs;exists v',H',J.os,J.bare,J.base,J.hok,rv',q'
end
def Uu.sqL {K:Frag} {P:Addr} {ps:Array Value} (e:Uu P H H') (hP:H P=some (.tbl ps)) {a:Addr} (h:SqL K H a xs):SqL K H' a xs:=by
 rcases h with (h | ⟨o,h⟩) | h
 ·exact .inl (.inl (e _ _ (fun z=>by rw [z,hP] at h; cases h) h))
 ·exact .inl (.inr ⟨o,e _ _ (fun z=>by rw [z,hP] at h; cases h) h⟩)
 ·exact .inr h
def Uu.sqT {K:Frag} {P:Addr} {ps:Array Value} (e:Uu P H H') (hP:H P=some (.tbl ps)) {a:Addr} (h:SqT K H a xs):SqT K H' a xs:=by
 rcases h with (h | ⟨o,h⟩) | h
 ·exact .inl (.inl (e _ _ (fun z=>by rw [z,hP] at h; cases h) h))
 ·exact .inl (.inr ⟨o,e _ _ (fun z=>by rw [z,hP] at h; cases h) h⟩)
 ·exact .inr h
def Zo2 (K:Frag) (P:Addr) (lpos:Pos) (qual:Str) (tb:TE) (ta:TA):TE:=fun σ H Q=>ta σ H fun vs H1=>∃ (l:Addr) (L:List KIt),vs=[.ref l]/\SqL K H1 l (L.map (·.1))/\L.length<64 /\
 (∀ q∈L,SqT K H1 q.2.1 (q.2.2.map V.int)/\q.2.2≠[])/\(L.map (·.2.2)).Nodup/\Wb P lpos qual H1/\(∀ H2 q,Uu P H1 H2->q∈L->tb [some q.1] H2 fun v H'=>v=.ref q.2.1/\H'=H2) /\
 ∀ (H2:Hp) (D:Addr) (L':List KIt),Uu P H1 H2->Wb P lpos qual H2->H2 D=none->L'.Perm L->L'.Pairwise (fun a b=>HT.lexLt a.2.2 b.2.2=true)->Q (.ref D) (upd H2 D (.lst (L'.map (·.1))))
section
theorem Zix {e:Expr} {ta:TA} {c P:Addr} {x:Str} {params:Arguments} {scope:Scope} {p lpos kpos:Pos} (hr:Room 3 X.A) (hg:Gl X "sorted") (hm:X.mg "sorted"=none) (ha:PA X [e] ta) (hcode:X.env.code=.ref c)
  (C:CodeHd X.base c P) (B:Bm X.mg X.base) (hcl:closureFor scope X.env=pure []) (hdef:defaultsOf params X.env=([],[])) (S:FnScope [x] [x] scope)
  (hbind:∀ (pm cv ctv u:Value),bindArgs (kla_fn "<lambda>" (X.env.qual++"<lambda>") params body scope [] pm cv ctv) ⟨[u],[]⟩=pure [(x,u)])
  (hb:∀ (f c':Addr) (A:Around) (outer:List Env) (s:Shared) (H:Hp),PE (cxOf CX0 X.prog X.w X.K X.mg X.base [x] (X.env.qual++"<lambda>") scope f (.ref c') A outer s H E0) body tb)
  (he:starEach [e] X.env=[(false,eval e X.env)]:=by rfl) :
  PE X (.Call (.Name "sorted" p) [e] [⟨some "key",.Lambda params body scope lpos,kpos⟩] pos) (Zo2 X.K P lpos (X.env.qual++"<lambda>") tb ta):=by
 intro pq s σ H Q I h;refine wpAny_Call_Name_kw (Rt I hg hm PyProof.Rows.boot_sorted ?_);refine callWith_kw (thn (ha pos pq s σ H _ I h) fun us s1 hz=>?_) (by rw [he]; rfl) (by rw [he]; rfl);obtain ⟨vs,H1,I1,r1,l,L,ev,hl,h64,hk,nd,T,hbo,q1⟩:=hz;subst ev;obtain ⟨u,rfl,ru⟩:=Vals.one r1;obtain rfl:u=Value.ref l:=ru;obtain ⟨ps,hP,_,_⟩:=id T;show wpAny _ _ (evalAll [do let v <- eval (.Lambda params body scope lpos) X.env; standAt pos; pure v]) _ _ s1;refine wpAny_evalAll_cons (Fv (Zcs I1 hcode C B T hcl hdef fun f c' pm ctv H2 s2 sT T2 hx I2=>Fv (wpAny_standAt (Fw (wpAny_evalAll_nil ?_)))));show wpAny _ _ (call (.builtin "sorted") [.ref l] [(Str.ofString "key",.ref f)]) _ _ s2
 refine F7 (Zlw (Q:=Q) (E:=X.xe) I2 (sT.sqL hP hl) h64 (fun q hq=>⟨sT.sqT hP (hk q hq).1,(hk q hq).2⟩) nd (fun pins' s' q u hp I' hq rv=>?_) fun D L' n p w=>q1 H2 D L' sT T2 n p w) (fun v s' ⟨v',H',J,rv,qq⟩=>⟨v',H',J.unpinned,rv,qq⟩) fun _ _ z=>z;have hpin:=I'.pin (f,Vx (X.env.qual++"<lambda>") params body scope pm (.ref c') ctv) (Jl _ (hp _ (Jl _ (Jh.mpr rfl))));refine wpAny_call (codeAny_mono (Zgo (I'.env0.in1.in1) hr.in1.in1 hpin.1 (I'.hok c' _ hx).1 S (hbind pm (.ref c') ctv u) rv (hb f c' _ _ _ _) (hbo H2 q sT hq)) fun r s'' hq'=>?_);cases r with
 | error e=>exact False.elim hq'
 | ok fl =>
  cases fl with
  | ret u=>exact I'.after hq'
  | next=>exact False.elim hq'
  | brk=>exact False.elim hq'
  | cont=>exact False.elim hq'
end
end L2
namespace L2
open PySem PySem.Spec PyProof.Rows
section
variable {a:Addr} {o:Obj} {xs:Array Value} {k:Nat}
def Ri {Q:Option Value->Shared->Prop} (hx:s.heap.get? a=some o) (hc:o.cls=.type "list") (hdat:o.data=.seq xs k) (hd:o.dict=none) (hA:A.handled=none)
  (h:∀ h' tk e,Heap.NewExcOf s.heap h' e "AttributeError"->Q none { s with heap:=h',toks:=tk }):wpAny (model prog w) A (getAttr? (.ref a) "keys") Q E s:=by
 obtain ⟨c,dct,dat,sl⟩:=o;simp only at hc hdat hd;subst hc hdat hd;obtain ⟨hp,g,d,tk,os⟩:=s;have hT:∀ tk',(⟨hp,g,d,tk',os⟩:Shared).TypeIs (.ref a) "list":=fun _=>⟨_,hx,rfl⟩;have f1:=sub_AttributeError;have f3:=F.slot_list_getattribute.lookup;have f4:=F.slot_list_getattribute.bind (.ref a);have f5:=am_list_getattr_none;have hmiss:typeLookup (.type "list") "keys"=pure none:=by rw [typeLookup_type,builtinLookup_eq_fast]; kernel_rfl
 unfold getAttr? getAttrBy? getAttrBy
 repeat (any_goals (first | assumption | exact hT _ | ((with_reducible show wpAny _ _ (call (Value.builtin "list.__getattribute__") _ _) _ _ _); refine call_meets F.slot_list_getattribute (hT _) am_entry_list_getattribute (F.args_list_getattribute_2 _ _) (meets_getattribute_miss_list a xs k sl "keys" _ hmiss (by decide +kernel)) ⟨hx,hA,fun h' tk' e hx'=>?_⟩) | wp_step))
 obtain ⟨t',u',he⟩:=hx'.there;have hTe:∀ tk'',(⟨h',g,d,tk'',os⟩:Shared).TypeIs (.ref e) "AttributeError":=fun _=>⟨_,he,rfl⟩;show wpAny _ _ (getattributeRaised _ _ _ _ _ _ _) _ _ _;unfold getattributeRaised
 repeat (any_goals (first | assumption | exact hTe _ | wp_step))
 all_goals exact h _ _ _ hx'.of
def Sf {Q:Option Value->Shared->Prop} (hx:s.heap.get? a=some o) (hc:o.cls=.type "tuple") (hdat:o.data=.seq xs k) (hd:o.dict=none) (hA:A.handled=none)
  (h:∀ h' tk e,Heap.NewExcOf s.heap h' e "AttributeError"->Q none { s with heap:=h',toks:=tk }):wpAny (model prog w) A (getAttr? (.ref a) "keys") Q E s:=by
 obtain ⟨c,dct,dat,sl⟩:=o;simp only at hc hdat hd;subst hc hdat hd;obtain ⟨hp,g,d,tk,os⟩:=s;have hT:∀ tk',(⟨hp,g,d,tk',os⟩:Shared).TypeIs (.ref a) "tuple":=fun _=>⟨_,hx,rfl⟩;have f1:=sub_AttributeError;have f3:=F.slot_tuple_getattribute.lookup;have f4:=F.slot_tuple_getattribute.bind (.ref a);have f5:=am_tuple_getattr_none;have hmiss:typeLookup (.type "tuple") "keys"=pure none:=by rw [typeLookup_type,builtinLookup_eq_fast]; kernel_rfl
 unfold getAttr? getAttrBy? getAttrBy
 repeat (any_goals (first | assumption | exact hT _ | ((with_reducible show wpAny _ _ (call (Value.builtin "tuple.__getattribute__") _ _) _ _ _); refine call_meets F.slot_tuple_getattribute (hT _) am_entry_tuple_getattribute (F.args_tuple_getattribute_2 _ _) (meets_getattribute_miss_tuple a xs k sl "keys" _ hmiss (by decide +kernel)) ⟨hx,hA,fun h' tk' e hx'=>?_⟩) | wp_step))
 obtain ⟨t',u',he⟩:=hx'.there;have hTe:∀ tk'',(⟨h',g,d,tk'',os⟩:Shared).TypeIs (.ref e) "AttributeError":=fun _=>⟨_,he,rfl⟩;show wpAny _ _ (getattributeRaised _ _ _ _ _ _ _) _ _ _;unfold getattributeRaised
 repeat (any_goals (first | assumption | exact hTe _ | wp_step))
 all_goals exact h _ _ _ hx'.of
end
end L2
namespace L2
open PySem PySem.Spec PyProof.Rows PySem.W
def Ni:entryFor table "dict.update.loop"=some Builtin.«dict.update.loop»:=entryFor_of_tree (by kernel_rfl)
def Px:plainId "dict.update.loop"=true:=by decide +kernel
inductive DFill (H:Hp) (D:Addr):HO->List (V×V)->HO->Prop
 | nil {o:HO}:DFill H D o [] o
 | cons {o o' o'':HO} {k v:V} {r:List (V×V)} (h:DPut (upd H D o) D k v (upd H D o')) (t:DFill H D o' r o''):DFill H D o ((k,v)::r) o''
def Zh3 (K:W.Frag) (H:Hp) (ys:List V) (zs:List (V×V)):Prop:=Paired (fun y z=>∃ t,y=.ref t/\SqT K H t [z.1,z.2]) ys zs
def SqT.upd' {a D:Addr} {o:HO} (h:SqT K H a xs) (n:H D=none):SqT K (upd H D o) a xs:=by
 rcases h with (h | ⟨o,h⟩) | h
 ·exact .inl (.inl (by rw [Zm (Zq h n)]; exact h))
 ·exact .inl (.inr ⟨o,by rw [Zm (Zq h n)]; exact h⟩)
 ·exact .inr h
section
def Ti (K:W.Frag) (H:Hp) (h:Heap) (p it:Addr) (ys:List V) (i:Nat):Prop:=(SqL K H p ys/\h.IsListIter it p i)\/(SqT K H p ys/\h.IsTupleIter it p i)
def Ti.at {p:Addr} {i:Nat} (x:Ti K H h p it ys i) (k:∀ o,h.get? it=some o->h'.get? it=some o) (hl:SqL K H p ys->SqL K H' p ys) (ht:SqT K H p ys->SqT K H' p ys):Ti K H' h' p it ys i:=by
 rcases x with ⟨a,b⟩ | ⟨a,b⟩
 ·exact .inl ⟨hl a,b.at k⟩
 ·exact .inr ⟨ht a,b.at k⟩
def Qa {p:Addr} {i:Nat} {x:V} {Q:Option Value->Shared->Prop} (I:Inv X pq σ H s) (f:FpOk X pq H it) (src:Ti X.K H s.heap p it ys i) (hx:ys[i]?=some x)
  (h:∀ u s',RelV x u->Inv X pq σ H s'->Ti X.K H s'.heap p it ys (i+1)->Q (some u) s'):wpAny (model X.prog X.w) A (pyNext (.ref it)) Q E s:=by
 obtain ⟨f0,f1,f2,f3,f4,f5⟩:=f;rcases src with ⟨hq,st⟩ | ⟨hq,st⟩
 ·obtain ⟨its,rv,p',hz⟩:=I.list hq;obtain ⟨u,hu,ru⟩:=rv.get hx;exact wpAny_pyNext_list_item st p'.isList (x:=u) (by simpa using hu) fun h' st' sb=>h u _ ru (I.turned (t':=s.toks) (fun b o hb e=>(sb.2 b hb).trans e) f0 f1 f3 f4 f5) (.inl ⟨hq,st'⟩)
 ·obtain ⟨its,rv,p',hz⟩:=I.tuple hq;obtain ⟨u,hu,ru⟩:=rv.get hx;exact wpAny_pyNext_tuple_item st (show s.heap.IsTuple p its.toArray from p') (x:=u) (by simpa using hu) fun h' st' sb=>h u _ ru (I.turned (t':=s.toks) (fun b o hb e=>(sb.2 b hb).trans e) f0 f1 f3 f4 f5) (.inr ⟨hq,st'⟩)
theorem Zad {p:Addr} {i:Nat} {Q:Option Value->Shared->Prop} (I:Inv X pq σ H s) (f:FpOk X pq H it) (hA:A.handled=none) (src:Ti X.K H s.heap p it ys i) (hx:ys.length<=i)
  (h:∀ s',Inv X pq σ H s'->Q none s'):wpAny (model X.prog X.w) A (pyNext (.ref it)) Q E s:=by
 obtain ⟨f0,f1,f2,f3,f4,f5⟩:=f;rcases src with ⟨hq,st⟩ | ⟨hq,st⟩
 ·obtain ⟨its,rv,p',hz⟩:=I.list hq;have hl:=rv.length;exact wpAny_pyNext_list_end hA st p'.isList (by simp; lia) fun h' eb=>h _ (I.turned (t':=s.toks) (fun b o hb e=>eb b o hb e) f0 f1 f3 f4 f5)
 ·obtain ⟨its,rv,p',hz⟩:=I.tuple hq;have hl:=rv.length;exact wpAny_pyNext_tuple_end hA st (show s.heap.IsTuple p its.toArray from p') (by simp; lia) fun h' eb=>h _ (I.turned (t':=s.toks) (fun b o hb e=>eb b o hb e) f0 f1 f3 f4 f5)
theorem Zhd {a:Addr} {u r:Value} {Q:Unit->Shared->Prop} (hu:A.units<cLine) (I:Inv X pq σ H s) (g:DPut H a y v H') (ry:RelV y u) (rv:RelV v r) (h:∀ s',Inv X pq σ H' s'->Heap.SameBut a s.heap s'.heap->Q () s') :
  wpAny (model X.prog X.w) A (dictSet a u r) Q E s:=by
 rcases g with ⟨kvs,k,e,ey,l,eH⟩ | ⟨kvs,k,b,e,ey,eb,l,eH⟩
 ·subst ey eH;obtain ⟨z,hd,vs,rel,dd⟩:=Zbh I.hok e;have hz:vs.length<=sizeLine:=by rw [<- rel.length]; exact z
  have hl:(putK kvs k v).length<=sizeLine:=by have:=Yl kvs k v; lia
  refine wpAny_dictSet_pairs (hsz:=hz) (Qq ry) dd fun h' dd' hs=>h _ ?_ hs;have he:∃ q,h'.get? a=some q:=let ⟨q,_,_,hq,_⟩:=dd'; ⟨q,hq⟩
  exact Wx I (by rw [e]; exact True.intro) hs he (Nk hl hd (rel.put k rv) dd')
 ·subst ey eH;cases (show u=Value.ref b from ry);obtain ⟨z,hd,xs,rel,dd⟩:=Zrf I.hok e;have hz:xs.length<=sizeLine:=by rw [<- Paired.length rel]; exact z
  have hl:(putK kvs k v).length<=sizeLine:=by have:=Yl kvs k v; lia
  refine wpAny_dictSet_heap (hsz:=hz) (show (tupleKind (Z3 X.prog X.w)).room A from hu) (P6 I.hok eb) dd fun h' dd' hs=>h _ ?_ hs;obtain ⟨q,es,ep,hq,h2,h3,h4,_,h5⟩:=dd';refine Wx I (by rw [e]; exact True.intro) hs ⟨q,hq⟩ ⟨hl,hd,_,(rel.put k eb rv).keeps fun c ys ec=>?_,q,es,ep,hq,h2,h3,h4,h5⟩;rw [Zm (V3 ec e (fun z=>nomatch z))];exact ec
theorem Nl {p D:Addr} {R:Result->Shared->Prop} (hu:A.units+8<cLine) (hA:A.handled=none) (hn:H D=none) (hit:it≠D) (fit:FpOk X pq H it) :
  ∀ (zs:List (V×V)) (i:Nat) (o o':HO) (s:Shared) (t:Tok),Inv X pq σ (upd H D o) s->Ti X.K (upd H D o) s.heap p it ys i->Zh3 X.K H (ys.drop i) zs->DFill H D o zs o' ->
   (∀ s',Inv X pq σ (upd H D o') s'->R (.ok (.ret .none)) s')->codeAny (model X.prog X.w) A (.builtin "dict.update.loop" ⟨[.ref D,.ref it,.int i t,.none],[]⟩) R s
 | [],i,o,o',s,t,I,src,pa,df,h=>by
  cases df;have hl:ys.length<=i:=by
   have e:=Paired.length pa;simp only [Jj,Bl] at e;lia
  refine codeAny_builtin Ni ?_;rw [Around.under_plainId Px _];show wpAny _ A.in1 (pyNext (.ref it) >>= _) _ _ s;refine Fv (Zad I (show FpOk X pq (upd H D o) it from ⟨by rw [Zm hit]; exact fit.1,fit.2⟩) hA src hl fun s' I'=>?_);show wpAny _ A.in1 (Builtin.Dict.addKeywords D [] >>= _) _ _ s';exact Fv (Fw (Fw (h s' I')))
 | z::zs,i,o,o'',s,t,I,src,pa,df,h=>by
  have hil:i<ys.length:=by
   have e:=Paired.length pa;simp only [Jj,Jq] at e;lia
  rw [List.drop_eq_getElem_cons hil] at pa;cases pa with
  | cons p1 p2 =>
   obtain ⟨tp,ep,sq⟩:=p1;cases df with
   | @cons _ o1 _ k v _ d1 d2 =>
    refine codeAny_builtin Ni ?_;rw [Around.under_plainId Px _];show wpAny _ A.in1 (pyNext (.ref it) >>= _) _ _ s;have fit':∀ o,FpOk X pq (upd H D o) it:=fun o=>⟨by rw [Zm hit]; exact fit.1,fit.2⟩;refine Fv (Qa I (fit' o) src (Jb hil) fun u s1 ru I1 src1=>?_);rw [ep] at ru;obtain rfl:u=Value.ref tp:=ru;obtain ⟨its,rv,⟨ob,eo,hc,n,hd⟩,_⟩:=I1.tuple (sq.upd' (o:=o) hn);cases rv with
    | cons r1 rv =>
     cases rv with
     | cons r2 rv =>
      cases rv with
      | nil =>
       rename_i uk uv
       show wpAny _ A.in1 (holding [Value.ref tp] _ >>= _) _ _ s1;refine Fv (wpAny_holding ?_);refine Fv (wpAny_tryCatch ?_);unfold Builtin.Dict.pairItems;refine Fv (Looks.here (show Looks (model X.prog X.w) s1.heap (typeOf (.ref tp)) ob.cls from (Looks.ld eo).andThen .now) ?_);rw [hc,F1 nofun];unfold seqItems?;refine Fv (Fv (wpAny_load eo ?_));rw [hd];refine Fw (Fw ?_);show wpAny _ A.in1 (holding [uk,uv] (dictSet D uk uv)) _ _ s1;refine wpAny_holding (Zhd (by show A.units+1<cLine; lia) I1 d1 r1 r2 fun s2 I2 sb=>?_);refine Fw ⟨Code.quiet_builtin _ (by decide +kernel),?_⟩;refine Nl hu hA hn hit fit zs (i+1) o1 o'' s2 _ I2 (src1.at (fun ob' e=>(sb.2 it hit).trans e) (fun q=>?_) fun q=>?_) p2 d2 h
       ·rcases q with (q | ⟨oo,q⟩) | q
        ·by_cases hpD:p=D
         ·subst hpD;exact Fs d1 (fun z=>by
           rw [Zg] at q;cases q;rcases z with ⟨_,_,e,_⟩ | ⟨_,_,_,e,_⟩ <;> rw [Zg] at e <;> cases e)
         ·rw [Zm hpD] at q;exact .inl (.inl (by rw [Zm hpD]; exact q))
        ·by_cases hpD:p=D
         ·subst hpD;exact Fs d1 (fun z=>by
           rw [Zg] at q;cases q;rcases z with ⟨_,_,e,_⟩ | ⟨_,_,_,e,_⟩ <;> rw [Zg] at e <;> cases e)
         ·rw [Zm hpD] at q;exact .inl (.inr ⟨oo,by rw [Zm hpD]; exact q⟩)
        ·exact .inr q
       ·rcases q with (q | ⟨oo,q⟩) | q
        ·by_cases hpD:p=D
         ·subst hpD;exact Fs d1 (fun z=>by
           rw [Zg] at q;cases q;rcases z with ⟨_,_,e,_⟩ | ⟨_,_,_,e,_⟩ <;> rw [Zg] at e <;> cases e)
         ·rw [Zm hpD] at q;exact .inl (.inl (by rw [Zm hpD]; exact q))
        ·by_cases hpD:p=D
         ·subst hpD;exact Fs d1 (fun z=>by
           rw [Zg] at q;cases q;rcases z with ⟨_,_,e,_⟩ | ⟨_,_,_,e,_⟩ <;> rw [Zg] at e <;> cases e)
         ·rw [Zm hpD] at q;exact .inl (.inr ⟨oo,by rw [Zm hpD]; exact q⟩)
        ·exact .inr q
end
section
def Zmg (K:W.Frag):List V->Hp->VK->Prop:=fun xs H Q=>∃ (p:Addr) (ys:List V) (zs:List (V×V)) (o:HO),xs=[.ref p]/\(H p=some (.lst ys)\/H p=some (.tup ys))/\Zh3 K H ys zs/\(o=.dK []\/o=.dT []) /\
 ∀ D,H D=none->∃ o',DFill H D o zs o'/\Q (.ref D) (upd H D o')
theorem Vg (hr:Room 3 X.A) (hc:X.calm=true):Vj X (.type "dict") (Zmg X.K):=by
 intro pq s σ H xs us Q I r h;obtain ⟨p,ys,zs,o,rfl,hp,pa,ho,q⟩:=h;obtain ⟨u,rfl,rx⟩:=Rc r;cases rx;have hA:X.A.handled=none:=I.ok.hd hc;have hD:H s.heap.objs.size=none:=I.hok.fresh (Jd _);obtain ⟨o',df,q'⟩:=q _ hD;have pD:p≠s.heap.objs.size:=fun z=>by
  rcases hp with e | e <;> rw [z,hD] at e <;> cases e
 refine callType_codes (Q₁:=fun obj s₁=>obj=.ref s.heap.objs.size/\s₁={ s with heap:=s.heap.push { cls:=.type "dict",data:=.dict #[] } }) PySem.F.kt_called_dict (PySem.F.kt_typeCall_dict_1 _) PySem.F.entry_dict_init (kt_code_dict_new _ ⟨rfl,rfl⟩) ?_;rintro obj s₁ ⟨rfl,rfl⟩;have I1:Inv X pq σ (upd H s.heap.objs.size o) { s with heap:=s.heap.push { cls:=.type "dict",data:=.dict #[] } }:=by
  rcases ho with e | e
  ·subst e; exact I.laid (a:=s.heap.objs.size) (o:=.dK []) (t':=s.toks) (fun _ _ q=>Fx _ q) (Jd _) (Zc5 s.heap I.big)
  ·subst e; exact I.laid (a:=s.heap.objs.size) (o:=.dT []) (t':=s.toks) (fun _ _ q=>Fx _ q) (Jd _) (Zc4 s.heap I.big)
 have hT:(⟨s.heap.push { cls:=.type "dict",data:=.dict #[] },s.gens,s.drawn,s.toks,s.os⟩:Shared).TypeIs (.ref s.heap.objs.size) "dict":=⟨_,Fy _ rfl,rfl⟩;refine ⟨hT,PySem.F.args_dict_init_2 _ _,?_⟩;unfold Builtin.«dict.__init__»;refine Fv ?_;unfold Builtin.Dict.selfAndRest;refine Fv (wpAny_notOrdered_dict hT ?_);show wpAny _ _ (pure (s.heap.objs.size,[Value.ref p])) _ _ _;refine Fw ?_;show wpAny _ _ (Builtin.Dict.updateFrom "dict.__init__" s.heap.objs.size (.ref p) [] .none) _ _ _;unfold Builtin.Dict.updateFrom;have hA2:X.A.in1.in1.handled=none:=hA;have fin:∀ (s2:Shared) (it:Addr),it≠s.heap.objs.size->FpOk X pq H it->Inv X pq σ (upd H s.heap.objs.size o) s2->Ti X.K (upd H s.heap.objs.size o) s2.heap p it ys 0 ->
   codeAny (model X.prog X.w) X.A.in1 (.builtin "dict.update.loop" ⟨[.ref s.heap.objs.size,.ref it,rawInt 0,.none],[]⟩) (wants (fun r s₂=>r=.none/\EP X pq σ Q (.ref s.heap.objs.size) s₂) X.xe) s2:=fun s2 it nit fit I2 src =>
  Nl (A:=X.A.in1) (by have:=hr.units; show X.A.units+1+8<cLine; lia) (show X.A.in1.handled=none from hA) hD nit fit zs 0 o o' s2 _ I2 src (by simpa using pa) df fun s' I'=>⟨rfl,.ref s.heap.objs.size,_,I',rfl,q'⟩
 have nq:∀ it:Addr,Code.quiet (.builtin "dict.update.loop" ⟨[.ref s.heap.objs.size,.ref it,rawInt 0,.none],[]⟩)=true:=fun it=>Code.quiet_builtin _ (by decide +kernel);rcases hp with hp | hp
 ·obtain ⟨hz,its,n,rv,eo⟩:=I1.hok p _ (show upd H s.heap.objs.size o p=some (.lst ys) by rw [Zm pD]; exact hp);refine Fv (wpAny_typeOf (show Shared.TypeIs _ (.ref p) "list" from ⟨_,eo,rfl⟩) ?_);rw [F1 nofun];refine Fv (Ri eo rfl rfl rfl hA2 fun h' tk e ne=>?_);have I2:Inv X pq σ (upd H s.heap.objs.size o) { s with heap:=h',toks:=tk }:=I1.kept ne.keeps;simp only [Fm,if_true];refine Fv (wpAny_rule (Fv (wpAny_pyIter_list (s:={ s with heap:=h',toks:=tk }) ⟨_,ne.keeps _ _ eo,rfl,n,rfl⟩ (Fw ⟨nq _,?_⟩))));have hsz:s.heap.objs.size<h'.objs.size:=Fz (ne.keeps _ _ (Fy (o:={ cls:=.type "dict",data:=.dict #[] }) s.heap rfl))
  have hle:({ s with heap:=h',toks:=tk }:Shared).heap.objs.size<=h'.objs.size:=Jd _;have fI:=I2.fpOk (H':=H) hle (I.hok.fresh (Bt hsz));refine fin _ _ (Nat.ne_of_gt hsz) fI (I2.kept (t':=tk) fun b o e=>Fx _ e) (.inl ⟨.inl (.inl (by rw [Zm pD]; exact hp)),⟨_,Fy _ rfl,rfl,rfl⟩⟩)
 ·obtain ⟨hz,its,rv,ob,eo,hcl,n,hda,hdi⟩:=I1.hok p _ (show upd H s.heap.objs.size o p=some (.tup ys) by rw [Zm pD]; exact hp);refine Fv (wpAny_typeOf (show Shared.TypeIs _ (.ref p) "tuple" from ⟨_,eo,hcl⟩) ?_);rw [F1 nofun];refine Fv (Sf eo hcl hda hdi hA2 fun h' tk e ne=>?_);have I2:Inv X pq σ (upd H s.heap.objs.size o) { s with heap:=h',toks:=tk }:=I1.kept ne.keeps;simp only [Fm,if_true];refine Fv (wpAny_rule (Fv (wpAny_pyIter_tuple (s:={ s with heap:=h',toks:=tk }) (show Heap.IsTuple h' p its.toArray from ⟨_,ne.keeps _ _ eo,hcl,n,hda⟩) (Fw ⟨nq _,?_⟩))));have hsz:s.heap.objs.size<h'.objs.size:=Fz (ne.keeps _ _ (Fy (o:={ cls:=.type "dict",data:=.dict #[] }) s.heap rfl))
  have hle:({ s with heap:=h',toks:=tk }:Shared).heap.objs.size<=h'.objs.size:=Jd _;have fI:=I2.fpOk (H':=H) hle (I.hok.fresh (Bt hsz));refine fin _ _ (Nat.ne_of_gt hsz) fI (I2.kept (t':=tk) fun b o e=>Fx _ e) (.inr ⟨.inl (.inl (by rw [Zm pD]; exact hp)),⟨_,Fy _ rfl,rfl,rfl⟩⟩)
end
end L2
namespace L2
open PySem PySem.Spec PyProof.Rows
section
variable {e:Expr} {st:Option Expr} {ts:TO} {p2:Pos}
def tRev (K:W.Frag) (te:TE) (ts:TO):TE:=fun σ H Q=>te σ H fun x H1=>ts σ H1 fun k H2=>k=some (-1)/\∃ a xs,x=.ref a/\SqL K H2 a xs/\∀ p,H2 p=none->Q (.ref p) (upd H2 p (.lst xs.reverse))
theorem Zkq (he:PE X e te) (hs:PO X st ts) (hsub:∀ o i,∃ ops,subscripted (.Slice none none st p2) false o i=operate ops (getItem o i)):PE X (.Subscript e (.Slice none none st p2) pos) (tRev X.K te ts):=by
 intro pq s σ H Q I h;refine Subscript_ (thn (he pq s σ H _ I h) fun v s1 hz=>?_);obtain ⟨x,H1,I1,r1,q1⟩:=hz;refine wpAny_Slice ?_;rw [evalPart_none];refine Fw ?_;refine Fw ?_;refine thn (hs pq s1 σ H1 _ I1 q1) fun vk s3 hz=>?_;obtain ⟨k,H3,I3,pk,ek,a,xs,ex,hx,q⟩:=hz;subst ek;subst ex;cases r1;have I4:Inv X pq σ H3 { s3 with heap:=s3.heap.push { cls:=.type "slice",data:=.fields #[.none,.none,vk] } }:=I3.kept (t':=s3.toks) fun b ob q=>Fx _ q;obtain ⟨its,r,ht,hz⟩:=I4.list hx;have hlen:=r.length;show wpAny (model X.prog X.w) X.A (subscriptTail e (.Slice none none st p2) (.ref a) (.ref s3.heap.objs.size)) (EP X pq σ Q) X.xe { s3 with heap:=s3.heap.push { cls:=.type "slice",data:=.fields #[.none,.none,vk] } }
 obtain ⟨ops,hop⟩:=hsub (.ref a) (.ref s3.heap.objs.size);refine tail_any (ops:=ops) ht.isList.typeIs slot_list_getitem.lookup ?_ hop;refine wpAny_getItem_list_slice ht.isList (Heap.IsSliceOf.new ..) .none .none pk nofun ?_ (by rw [Jn] <;> lia);rw [W.krv_pick];refine ⟨.ref _,_,I4.laid (t':=s3.toks) (o:=.lst xs.reverse) (fun b ob q=>Fx _ q) (Jd _) ?_,rfl,q _ (I4.hok.fresh (Jd _))⟩;refine ⟨by rw [List.length_reverse]; exact hz,its.reverse,0,?_,?_⟩
 ·have rev:∀ {a:List V} {b:List Value},Vals a b->Vals a.reverse b.reverse:=by
   intro a b h
   induction h with
   | nil=>exact .nil
   | cons h1 h2 ih=>rw [List.reverse_cons,List.reverse_cons]; exact ih.append (.cons h1 .nil)
  exact rev r
 ·exact Fy _ rfl
end
def Xh:Option Value->Array Value
 | none=>#[]
 | some v=>#[v,v]
section
def U3 (c:Option Value):(Xh c).size<=sizeLine:=by rw [sizeLine_eq]; cases c <;> simp [Xh]
abbrev lst0 (vs:Array Value) (c:Nat):Obj:={ cls:=.type "list",data:=.seq vs c }
end
section
def V4 {t sl:Addr} {vl vu:Value} {Q:Value->Shared->Prop} (ht:IsTup s.heap t items) (hs:s.heap.IsSliceOf sl vl vu .none) (pl:IsPart vl lo) (pu:IsPart vu hi)
  (hw:HT.sIx items.size 0 lo=0/\HT.sIx items.size items.size hi=items.size) (h:Q (.ref t) s):wpAny (model prog w) A (getItem (.ref t) (.ref sl)) Q E s:=by
 obtain ⟨os,hos,hcs,hds⟩:=id hs;have hTs:s.TypeIs (.ref sl) "slice":=⟨os,hos,hcs⟩;unfold getItem
 try with_reducible refine wpAny_holding ?_
 first | refine Fv (Fw ?_) | skip
 refine Fv (wpAny_sequenceKey ht.typeIs nofun ?_);refine Fv (wpAny_callSpecial?_slot (name:=Str.ofString "__getitem__") ht.typeIs PyProof.Rows.slot_tuple_getitem
  (wpAny_call_entry PyProof.Rows.slot_tuple_getitem ht.typeIs entry_tuple_getitem ?_ (args_tuple_getitem _ _)))
 show wpAny _ _ (Builtin.Tuple.tupleItemsOf (.ref t) >>= _) _ _ s;refine Fv (tupleItemsOf_ ht ?_);refine Fv (wpAny_typeOf hTs ?_);rw [F1 nofun];refine Fv (HT.sliceApplied_gen hs pl pu ?_);show wpAny _ _ (if (((HT.sIx items.size 0 lo:Nat):Int) == 0 && (1:Int) == 1 && (HT.sIx items.size items.size hi-HT.sIx items.size 0 lo) == items.size)=true then _ else _) _ _ s;have hyes:((((HT.sIx items.size 0 lo:Nat):Int) == 0 && (1:Int) == 1 && (HT.sIx items.size items.size hi-HT.sIx items.size 0 lo) == items.size)=true):=by
  rw [hw.1,hw.2]; simp
 rw [F1 hyes];unfold Builtin.Tuple.tupleIsExact;refine Fv ?_
 first
  | exact Fv (wpAny_typeOf ht.typeIs (Fw (by rw [F1 nofun]; exact Fv (wpAny_rule (Fw ⟨_,rfl,Fw h⟩)))))
  | exact Fv (wpAny_typeOf ht.typeIs (Fw (by simp; exact Fv (wpAny_rule (Fw ⟨_,rfl,Fw h⟩)))))
end
section
def rSlW (K:W.Frag):V->Option Int->Option Int->Hp->VK->Prop:=fun x lo hi H Q=>∃ a xs,x=.ref a/\SqT K H a xs /\
 ((cutV xs lo hi=xs->Q (.ref a) H)/\∀ p,H p=none->Q (.ref p) (upd H p (.tup (cutV xs lo hi))))
def Zaf:SlR X (rSlW X.K):=by
 intro pq s σ H x v vl vu lo hi sl Q I rx hs pl pu h;obtain ⟨a,xs,rfl,hx,q0,q⟩:=h;cases rx;obtain ⟨its,r,ht,hz⟩:=I.tuple hx;have hlen:its.toArray.size=xs.length:=by rw [Jn]; exact r.length.symm
 exists "tuple",_,PyProof.Rows.slot_tuple_getitem.lookup,ht.typeIs,?_
 by_cases hw:HT.sIx xs.length 0 lo=0/\HT.sIx xs.length xs.length hi=xs.length
 ·refine V4 ht hs pl pu (by rw [hlen]; exact hw) ⟨.ref a,H,I,rfl,q0 ?_⟩;unfold cutV;rw [hw.1,hw.2];simp
 ·refine HT.getItem_tuple_cut ht hs pl pu (by rw [hlen]; exact hw) ?_ (by rw [hlen]; exact hz);rw [hlen];exists .ref s.heap.objs.size,_,I.laid (t':=s.toks) (o:=.tup (cutV xs lo hi)) (fun b ob q=>Fx _ q) (Jd _) ?_,rfl,q _ (I.hok.fresh (Jd _));exists J8 (V5 xs lo hi) hz,_,(r.drop (HT.sIx xs.length 0 lo)).take (HT.sIx xs.length xs.length hi-HT.sIx xs.length 0 lo),Vi.new _ _
end
def Met (P:Program) (w:World) (K:W.Frag) (mg:Str->Option Value) (base:Heap) (C:Addr) (m:Str) (k:Nat) (ps:List Str) (sp:Sp):Prop :=
 ∃ f fd,Cls K C/\Meth K C m f/\FnOk P w K mg base CX0 k f fd ps sp/\U8 K fd ps []
def Mkr (P:Program) (w:World) (K:W.Frag) (mg:Str->Option Value) (base:Heap) (x:Str) (C:Addr) (k:Nat) (ps:List Str) (sp:Sp):Prop :=
 ∃ f fd,Mk K C f/\FnOk P w K mg base CX0 k f fd ps sp/\mg x=some (.ref C)/\U8 K fd ps []
section
variable {C:Addr} {k:Nat} {x m:Str} {p:Pos} {e o:Expr} {t:TA}
def Zmw {pl:Sem Bool} (he:PE X o ta) (M:Met X.prog X.w X.K X.mg X.base C m k ps sp) (hr:Room k X.A) (ha:PA X (e::es) t)
  (hst:starEach (e::es) X.env=(false,eval e X.env)::starEach es X.env:=by rfl) (hpl:(backTo pos (starEach es X.env)).any (·.1)=false:=by rfl)
  (ht:eval (.Call (.Attribute o m apos) (e::es) [] pos) X.env=(do
   let ov <- eval o X.env
   standAt apos.atName
   let (f,first) <- holding [ov] (getMethod ov m pl)
   callWith pos f first (backTo pos (starEach (e::es) X.env)) (backToKw pos (keywordEach [] X.env))):=by rfl) :
  PE X (.Call (.Attribute o m apos) (e::es) [] pos) (Zer C m sp [] E0 ta t):=by
 obtain ⟨f,fd,c,hm,F,hb⟩:=M;exact Zmx he c hm F hr hb .nil Zi5 ha hst hpl ht
def Zkr {pl:Sem Bool} (he:PE X o ta) (M:Met X.prog X.w X.K X.mg X.base C m k ps sp) (hr:Room k X.A)
  (ht:eval (.Call (.Attribute o m apos) [] [] pos) X.env=(do
   let ov <- eval o X.env
   standAt apos.atName
   let (f,first) <- holding [ov] (getMethod ov m pl)
   callWith pos f first (backTo pos (starEach [] X.env)) (backToKw pos (keywordEach [] X.env))):=by rfl) :
  PE X (.Call (.Attribute o m apos) [] [] pos) (Zer C m sp [] E0 ta tNil):=by
 obtain ⟨f,fd,c,hm,F,hb⟩:=M;exact Zi0 he c hm F hr hb .nil Zi5 ht
def Zqk (M:Mkr X.prog X.w X.K X.mg X.base x C k ps sp) (hr:Room (k+1) X.A) (hg:Gl X x) (ha:PA X (e::es) t) (hdb:(x == ("__debug__":Str))=false:=by decide)
  (he:starEach (e::es) X.env=(false,eval e X.env)::starEach es X.env:=by rfl) (hpl:(backTo pos (starEach es X.env)).any (·.1)=false:=by rfl):PE X (.Call (.Name x p) (e::es) [] pos) (Zlr C sp [] E0 t):=by
 obtain ⟨f,fd,hm,F,g,hb⟩:=M;exact Zmy hm F hr hg g hb .nil Zi5 ha hdb he hpl
end
def Fun.okC {x:Str} {f:Addr} {osl:Array (Option Value)} {kV:Value} {k:Nat} 
  (lk:K.lookup f=some ⟨oc,od,.func (W.fnOf x qual (Yv st) (Yn st) (Zf st) .none kV doc pm an cdv ct),osl⟩) (hcd:W.codeIn K cdv qual=true) (S:FnScope N ps (Zf st)) (len:∀ vs H Q E,sp vs H Q E->vs.length=ps.length)
  (hbody:∀ (A:Around) (outer:List Env) (s:Shared) (H:Hp) (vs:List V) (Q:VK) (E:XK),Room k (A.deeper (envOfC qual (Zf st) s.heap.objs.size f cdv))->sp vs H Q E ->
   ∃ t,PSs (cxOf CX0 P w K mg base N qual (Zf st) f cdv A outer s H E).nox (Yn st) t/\t { nx:=fun _ H'=>Q .non H',rt:=Q } (Uc N vs) H) :
  FnOk P w K mg base CX0 (k+1) f (W.fnOf x qual (Yv st) (Yn st) (Zf st) .none kV doc pm an cdv ct) ps sp :=
 Zrb lk hcd S len fun A outer s H vs Q E hr hsp=>by
  obtain ⟨t,h,q⟩:=hbody A outer s H vs Q E hr hsp;exists t,h.nox,q
abbrev Pr:=Int×List Int
variable {S S1 L U:List L2.Pr}
def TupK (H H':Hp):Prop:=∀ b xs,H b=some (.tup xs)->H' b=some (.tup xs)
def Same.tk (s:Same H H'):TupK H H':=fun b xs h=>s b _ h
def Grow.tk {p:Addr} (g:Grow p H H') (e:H p=some (.lst xs)):TupK H H':=fun b ys h=>g b _ h (V3 h e fun z=>by cases z)
def Uu.tk {P:Addr} (s:Uu P H H') {ps:Array Value} (e:H P=some (.tbl ps)):TupK H H':=fun b xs h=>s b _ (V3 h e fun z=>by cases z) h
def Zr0 (H:Hp) (v:V) (w:List Int):Prop:=∃ t,v=.ref t/\H t=some (.tup (w.map V.int))
def Q6 (H:Hp) (v:V) (p:Pr):Prop:=∃ t tw,v=.ref t/\H t=some (.tup [.int p.1,.ref tw])/\H tw=some (.tup (p.2.map V.int))
def Q6.tk {p:Pr} (h:Q6 H v p) (s:TupK H H'):Q6 H' v p:=by
 obtain ⟨t,tw,e,a,b⟩:=h;exists t,tw,e,s _ _ a,s _ _ b
abbrev Ztk (H:Hp):List V->List (List Int)->Prop:=Paired (Zr0 H)
abbrev Prs (H:Hp):List V->List Pr->Prop:=Paired (Q6 H)
def Prs.tk (h:Prs H vs L) (s:TupK H H'):Prs H' vs L:=Paired.mapP h fun _ _ z=>z.tk s
theorem Paired.at {α:Type} {F:α->β->Prop}:∀ {l:List α} {m:List β},Paired F l m->∀ {i:Nat} (h1:i<l.length) (h2:i<m.length),F l[i] m[i]
 | _,_,.nil,_,h,_=>Fs h (Gr _)
 | _,_,.cons a r,0,_,_=>a
 | _,_,.cons a r,i+1,h1,h2=>Paired.at r (i:=i) (by simpa using h1) (by simpa using h2)
theorem Paired.snoc {α:Type} {F:α->β->Prop} {x:α} {y:β} (h:F x y):∀ {l:List α} {m:List β},Paired F l m->Paired F (l++[x]) (m++[y]):=by
 intro _ _ hz9;cases hz9 with
 | nil=>
  exact .cons h .nil
 | cons a r=>
  exact .cons a (Paired.snoc h r)
def Zn8 (a b:Pr):Prop:=a.1≠b.1/\¬ a.2<+:b.2/\¬ b.2<+:a.2
def Free (L:List Pr):Prop:=L.Pairwise Zn8
def Free.get (h:Free L) {i:Nat} (hi:i<L.length) (hj:j<L.length) (hij:i<j):Zn8 L[i] L[j]:=Be.mp h i j hi hj hij
def Zf8 (p q:Pr):V:=if p.1=q.1 then .str (Str.ofString "twice") else if p.2.take (min p.2.length q.2.length)=q.2.take (min p.2.length q.2.length) then .str (Str.ofString "begins") else .non
def Zdn {p q:Pr} (h:Zn8 p q):Zf8 p q=.non:=by
 unfold Zf8;rw [F0 h.1,F0];intro e;rcases Nat.le_total p.2.length q.2.length with l | l
 ·rw [B7 l,Jw] at e;exact h.2.1 (e ▸ Fg _ _)
 ·rw [Nat.min_eq_right l,Jw] at e;exact h.2.2 (e ▸ Fg _ _)
theorem Zc2:∀ (a b:List Int),PyData.eqvAll (a.map PyData.int) (b.map PyData.int)=decide (a=b)
 | [],[]=>by simp [PyData.eqvAll]
 | [],_::_=>by simp [PyData.eqvAll]
 | _::_,[]=>by simp [PyData.eqvAll]
 | x::a,y::b=>by
  simp only [Ju,PyData.eqvAll,PyData.eqv,Zc2 a b]
  by_cases h:x=y
  ·subst h; simp
  ·simp [h]
def Zns (a b:List Int):PyData.eqv (.tuple (a.map PyData.int)) (.tuple (b.map PyData.int))=decide (a=b):=by
 simp only [PyData.eqv,Zc2]
def Pn (ns:List Int):Shp 1 (.tuple (ns.map PyData.int)):=Pm fun d hd=>by
 obtain ⟨i,_,rfl⟩:=Jo.mp hd;exact Zah i
def Zbj (w:List Int) {j:Int} (h0:0<=j) (h1:j<=w.length):cutV (w.map V.int) none (some j)=(w.take j.toNat).map V.int:=by
 rw [Zk6 h0 (by rw [Ja]; exact h1),G6]
def Zkc:Sp:=fun vs H Q _=>∃ v1 v2 p q,vs=[v1,v2]/\Q6 H v1 p/\Q6 H v2 q/\p.2.length<=1000/\q.2.length<=1000/\∀ H',Same H H'->Q (Zf8 p q) H'
def U4 (H:Hp) (a:Addr) (L:List Pr):Prop:=∃ vs,H a=some (.lst vs)/\Prs H vs L
def U4.same {a:Addr} (h:U4 H a L) (s:Same H H'):U4 H' a L:=by
 obtain ⟨vs,e,p⟩:=h;exists vs,s _ _ e,p.tk s.tk
def Fits (L:List Pr):Prop:=L.length<64/\∀ p∈L,p.2≠[]/\p.2.length<=4
def Ue:Sp:=fun vs H Q _=>∃ a L,vs=[.ref a]/\U4 H a L/\Free L/\Fits L/\∀ H',Same H H'->Q .non H'
abbrev wk (w:List Int):List Key:=w.map Sum.inl
def Zh9 (w:List Int):(wk w).map kV=w.map V.int:=by rw [Gd]; rfl
def Zbp (kvs:List (List Key×V)) (ws:List (List Int)):Prop:=∀ u:List Int,(valV kvs (wk u)).isSome=decide (∃ w∈ws,u<+:w/\u.length<w.length)
def Ze0:Sp:=fun vs H Q _=>∃ a vws ws,vs=[.ref a]/\H a=some (.lst vws)/\Ztk H vws ws/\ws.length<64/\(∀ w∈ws,w.length<=4) /\
 ∀ (d:Addr) (kvs:List (List Key×V)) (H':Hp),Same H H'->H d=none->H' d=some (.dT kvs)->Zbp kvs ws->Q (.ref d) H'
def Zfq {a:Addr} {w:List Int} {j:Int} (e:H a=some (.tup (w.map V.int))) (h0:0<=j) (h1:j<=w.length)
  (h:∀ t H',Same H H'->H' t=some (.tup ((w.take j.toNat).map V.int))->Q (.ref t) H'):rSlW K (.ref a) none (some j) H Q:=by
 exists a,·,SqT.of e,fun hw=>h a H (.refl _) ?_,fun p hp=>h p _ (Zp hp) ?_
 ·rw [Zbj w h0 h1] at hw;rw [hw];exact e
 ·rw [Zg,Zbj w h0 h1]
theorem Zm7 (a b:Nat):(if (b:Int)<(a:Int) then (b:Int) else (a:Int))=((min a b:Nat):Int):=by split <;> lia
def Zdv [DecidableEq κ] (kvs:List (κ×V)) (k k':κ) (v:V):(valV (putK kvs k v) k').isSome=(decide (k'=k) || (valV kvs k').isSome):=by
 rw [R8]
 by_cases h:k'=k
 ·rw [F1 h,F2 h]; rfl
 ·rw [F0 h,F3 h,Fp]
theorem Zbr:∀ {u v:List Int},wk u=wk v->u=v
 | [],[],_=>rfl
 | [],_::_,h=>nomatch h
 | _::_,[],h=>nomatch h
 | x::u,y::v,h=>by
  have h':(Sum.inl x:Key)::wk u=Sum.inl y::wk v:=h;injection h' with a b
  rw [Sum.inl.inj a,Zbr b]
def Zh0 {α:Type} {xs:List α} {v:α} (h:xs[j]?=some v):atI xs (0+(j:Int))=some v:=by rw [Int.zero_add]; exact Wa h
def U9 (kvs:List (List Key×V)) (ws:List (List Int)) (w:List Int) (n:Nat):Prop :=
 ∀ u:List Int,(valV kvs (wk u)).isSome=decide ((∃ x∈ws,u<+:x/\u.length<x.length)\/(u<+:w/\u.length<n))
theorem U9.put {w:List Int} {n:Nat} (h:U9 kvs ws w n) (hn:n<=w.length) :U9 (putK kvs (wk (w.take n)) v) ws w (n+1):=by
 intro u;rw [Zdv,h u];have e:(wk u=wk (w.take n))↔(u=w.take n):=⟨Zbr,fun z=>by rw [z]⟩;rw [decide_eq_decide.mpr e,<- Bool.decide_or];refine decide_eq_decide.mpr ⟨fun z=>?_,fun z=>?_⟩
 ·rcases z with z | z | ⟨z1,z2⟩
  ·subst z;exact .inr ⟨Fg _ _,by rw [Jt]; lia⟩
  ·exact .inl z
  ·exact .inr ⟨z1,by lia⟩
 ·rcases z with z | ⟨z1,z2⟩
  ·exact .inr (.inl z)
  ·by_cases l:u.length<n
   ·exact .inr (.inr ⟨z1,l⟩)
   ·refine .inl ?_;have:u.length=n:=by lia
    rw [<- this];exact List.prefix_iff_eq_take.mp z1
def U9.next {w:List Int} (h:U9 kvs ws w w.length) (w':List Int):U9 kvs (ws++[w]) w' 0:=by
 intro u;rw [h u];refine decide_eq_decide.mpr ⟨fun z=>?_,fun z=>?_⟩
 ·rcases z with ⟨x,hx,z⟩ | z
  ·exact .inl ⟨x,Gn _ hx,z⟩
  ·exact .inl ⟨w,Jl _ (Jh.mpr rfl),z⟩
 ·rcases z with ⟨x,hx,z⟩ | ⟨_,z⟩
  ·rcases J9.mp hx with hx | hx
   ·exact .inl ⟨x,hx,z⟩
   ·rw [Jh.mp hx] at z; exact .inr z
  ·exact Fs z (Gr _)
def U9.nil (w:List Int):U9 [] [] w 0:=by
 intro u;rw [Zib];refine (F3 ?_).symm;rintro (⟨x,hx,_⟩ | ⟨_,z⟩)
 ·exact nomatch hx
 ·exact Fs z (Gr _)
def U9.done {w:List Int} (h:U9 kvs ws w 0):Zbp kvs ws:=by
 intro u;rw [h u];refine decide_eq_decide.mpr ⟨fun z=>?_,fun z=>.inl z⟩;rcases z with z | ⟨_,z⟩
 ·exact z
 ·exact Fs z (Gr _)
theorem Zfz {α:Type} {f:α->β} {m n:List β} (h:m.Perm n):∀ {l:List α},l.map f=n->∃ l':List α,l'.Perm l/\l'.map f=m:=by
 induction h with
 | nil=>intro l e;exists l,.refl _,e
 | cons x _ ih =>
  intro l e;cases l with
  | nil=>cases e
  | cons a l =>
   rw [Ju] at e;injection e with e1 e2
   obtain ⟨l',p,q⟩:=ih e2;exact ⟨a::l',p.cons a,by rw [Ju,e1,q]⟩
 | swap x y l0 =>
  intro l e
  match l,e with
  | a::b::r,e =>
   rw [Ju,Ju] at e;injection e with e1 e2
   injection e2 with e2 e3
   exact ⟨b::a::r,.swap _ _ _,by rw [Ju,Ju,e1,e2,e3]⟩
 | trans _ _ ih1 ih2 =>
  intro l e;obtain ⟨l2,p2,q2⟩:=ih2 e;obtain ⟨l1,p1,q1⟩:=ih1 q2;exists l1,p1.trans p2,q1
structure PK3 where
 v:V
 tw:Addr
 p:Pr
def PK3.At (H:Hp) (e:PK3):Prop:=∃ t,e.v=.ref t/\H t=some (.tup [.int e.p.1,.ref e.tw])/\H e.tw=some (.tup (e.p.2.map V.int))
def PK3.At.tk {e:PK3} (h:e.At H) (s:TupK H H'):e.At H':=by
 obtain ⟨t,a,b,c⟩:=h;exists t,a,s _ _ b,s _ _ c
theorem Zkn :∀ {vs:List V} {L:List Pr},Prs H vs L->∃ M:List PK3,M.map (·.v)=vs/\M.map (·.p)=L/\∀ e∈M,e.At H
 | _,_,.nil=>⟨[],rfl,rfl,fun _ h=>nomatch h⟩
 | _,_,.cons ⟨t,tw,a,b,c⟩ r=>by
  obtain ⟨M,e1,e2,e3⟩:=Zkn r;exists ⟨_,tw,_⟩::M,by rw [Ju,e1],by rw [Ju,e2],fun e he=>?_;rcases Jy.mp he with z | z
  ·rw [z];exists t,a,b,c
  ·exact e3 e z
theorem Zkp :∀ {M:List PK3},(∀ e∈M,e.At H)->Prs H (M.map (·.v)) (M.map (·.p))
 | [],_=>.nil
 | e::M,h=>by
  obtain ⟨t,a,b,c⟩:=h e Jm;exact .cons ⟨t,e.tw,a,b,c⟩ (Zkp fun x hx=>h x (Jg _ hx))
def PK3.k (e:PK3):KIt:=(e.v,e.tw,e.p.2)
def Wv [DecidableEq κ] (kvs:List (κ×V)) (zs:List (κ×V)):List (κ×V):=zs.foldl (fun a z=>putK a z.1 z.2) kvs
theorem Zc1 [DecidableEq κ]:∀ (zs kvs:List (κ×V)),(Wv kvs zs).length<=kvs.length+zs.length
 | [],kvs=>by simp [Wv]
 | z::r,kvs=>by
  have:=Zc1 r (putK kvs z.1 z.2);have l:=Yl kvs z.1 z.2;show (Wv (putK kvs z.1 z.2) r).length<=_;rw [Jq];lia
theorem Up [DecidableEq κ] {k:κ}:∀ (zs kvs:List (κ×V)),(∀ z∈zs,z.1≠k)->valV (Wv kvs zs) k=valV kvs k
 | [],kvs,_=>rfl
 | z::r,kvs,h=>by
  show valV (Wv (putK kvs z.1 z.2) r) k=_;rw [Up r _ fun y hy=>h y (Jg _ hy),R8,F0 (fun e=>h z Jm e.symm)]
theorem Sr [DecidableEq κ] {k:κ} :∀ (zs kvs:List (κ×V)),(zs.map (·.1)).Nodup->(k,v)∈zs->valV (Wv kvs zs) k=some v
 | [],kvs,_,h=>nomatch h
 | z::r,kvs,nd,h=>by
  show valV (Wv (putK kvs z.1 z.2) r) k=_;rw [Ju,Bs] at nd;rcases Jy.mp h with e | h
  ·subst e;rw [Up r _ fun y hy e=>nd.1 (by
    have hm:y.1∈r.map (·.1):=Jo.mpr ⟨y,hy,rfl⟩;rw [e] at hm;exact hm),R8,F1 rfl]
  ·exact Sr r _ nd.2 h
theorem Zbi {D:Addr}:∀ (zs kvs:List (Key×V)),kvs.length+zs.length<sizeLine->DFill H D (.dK kvs) (zs.map fun z=>(kV z.1,z.2)) (.dK (Wv kvs zs))
 | [],kvs,_=>.nil
 | z::r,kvs,h=>by
  rw [Jq] at h;have l:=Yl kvs z.1 z.2;have d:=DPut.k (H:=upd H D (.dK kvs)) (a:=D) (k:=z.1) (v:=z.2) Zg (by lia);rw [Zee] at d;exact .cons d (Zbi r (putK kvs z.1 z.2) (by lia))
theorem Zg8 {D:Addr} (hD:H D=none):∀ (zs:List (Addr×List Key×V)) (kvs:List (List Key×V)),kvs.length+zs.length<sizeLine->(∀ z∈zs,H z.1=some (.tup (z.2.1.map kV))) ->
  DFill H D (.dT kvs) (zs.map fun z=>(.ref z.1,z.2.2)) (.dT (Wv kvs (zs.map fun z=>(z.2.1,z.2.2))))
 | [],kvs,_,_=>.nil
 | z::r,kvs,h,ht=>by
  rw [Jq] at h;have l:=Yl kvs z.2.1 z.2.2;have e:=ht z Jm;have d:=DPut.t (H:=upd H D (.dT kvs)) (a:=D) (b:=z.1) (k:=z.2.1) (v:=z.2.2) Zg (by rw [Zm (Zq e hD)]; exact e) (by lia);rw [Zee] at d;exact .cons d (Zg8 hD r (putK kvs z.2.1 z.2.2) (by lia) fun y hy=>ht y (Jg _ hy))
def Zd8 (H:Hp) (k1:List (Key×V)) (S:List Pr):Prop:=(∀ p∈S,∃ t,valV k1 (Sum.inl p.1)=some (.ref t)/\H t=some (.tup (p.2.map V.int)))/\∀ s:Int,(∀ p∈S,p.1≠s)->valV k1 (Sum.inl s)=none
def Ze4 (k2:List (List Key×V)) (S:List Pr):Prop:=(∀ p∈S,valV k2 (wk p.2)=some (.int p.1))/\∀ u:List Int,(∀ p∈S,p.2≠u)->valV k2 (wk u)=none
def Zdb (ns:List Int) (S:List Pr):Prop:=ns.Pairwise (· < ·)/\∀ n:Int,n∈ns↔∃ p∈S,(p.2.length:Int)=n
structure CodeIn (H:Hp) (tp d1 d2 d3 d4:Addr) (S:List Pr):Prop where
 pr:∃ vs,H tp=some (.tup vs)/\Prs H vs S
 wb:∃ k1,H d1=some (.dK k1)/\Zd8 H k1 S
 sb:∃ k2,H d2=some (.dT k2)/\Ze4 k2 S
 bg:∃ k3,H d3=some (.dT k3)/\Zbp k3 (S.map (·.2))
 sz:∃ ns:List Int,H d4=some (.tup (ns.map V.int))/\Zdb ns S
def Wl (C:Addr) (H:Hp) (x:Addr) (S:List Pr):Prop:=∃ dx tp d1 d2 d3 d4,H x=some (.ins C dx [("pairs",.ref tp),("words_by_sign",.ref d1),("signs_by_word",.ref d2),("begun",.ref d3),("word_sizes",.ref d4)])/\CodeIn H tp d1 d2 d3 d4 S
def Zbl (S:List Pr):Prop:=S.Pairwise fun a b=>HT.lexLt a.2 b.2=true
def Wb.grow {x:Addr} {q:Str} (t:Wb Pt pos q H) {C:Addr} {fs:List (Str×V)} (e:H x=some (.ins C dx fs)) (g:Grow x H H'):Wb Pt pos q H':=by
 obtain ⟨ps,a,b,c⟩:=t;exists ps,g _ _ a (V3 a e fun z=>by cases z),b,?_;rcases c with c | ⟨c',d,f⟩
 ·exact .inl c
 ·exact .inr ⟨c',d,g _ _ f (V3 f e fun z=>by cases z)⟩
def Grow.tkI {x:Addr} (g:Grow x H H') {C:Addr} {fs:List (Str×V)} (e:H x=some (.ins C dx fs)):TupK H H':=fun b ys h=>g b _ h (V3 h e fun z=>by cases z)
section
def rLen (K:W.Frag):List V->Hp->VK->Prop:=fun xs H Q=>∃ x n,xs=[x]/\LenV K x H n/\Q (.int n) H
def Z9 (h:X.K=K):Vj X (.builtin "len") (rLen K):=by subst h; exact X2
def Zhp (h:X.K=K):IxR X (rIxT K):=by subst h; exact Ul
end
end L2
variable {S S1 L U:List L2.Pr}
namespace L2
open PySem PySem.W PyProof.Rows HT
theorem Zct:∀ {us:List Value} {ns:List Int},IntsAre us ns->Vals (ns.map V.int) us:=by
 intro _ _ hz9;cases hz9 with
 | nil=>
  exact .nil
 | cons n t h=>
  exact .cons ⟨t,rfl⟩ (Zct h)
theorem Zgv:∀ {us:List Value} {ns:List Int},us.length=ns.length->(∀ (j:Nat) (v:Value),us[j]?=some v->∃ n t,ns[j]?=some n/\v=Value.int n t)->IntsAre us ns
 | [],[],_,_=>.nil
 | u::us,n::ns,hl,h=>by
  obtain ⟨m,t,e,rfl⟩:=h 0 u rfl;cases e;exact .cons _ t (Zgv (by simpa using hl) fun j v e=>h (j+1) v e)
section
def Zqd:List V->Hp->VK->Prop:=fun xs H Q=>∃ (d:Addr) (kvs:List (Key×V)) (ns:List Int),xs=[.ref d]/\H d=some (.dK kvs)/\kvs.map (·.1)=ns.map Sum.inl/\kvs.length<64 /\
 ∀ (D:Addr) (ns':List Int),H D=none->ns'.Perm ns->ns'.Pairwise (·<=·)->Q (.ref D) (upd H D (.lst (ns'.map V.int)))
theorem Zdz (hc:X.calm=true):Vj X (.builtin "sorted") Zqd:=by
 intro pq s σ H xs us Q I r h;obtain ⟨d,kvs,ns,rfl,ed,ek,hl,q⟩:=h;obtain ⟨u,rfl,rx⟩:=Rc r;cases rx;obtain ⟨hz,lo,vs,rel,dof⟩:=Zbh I.hok ed;obtain ⟨ep,da⟩:=dof.dictAt;have hv:=Paired.length rel;refine Calls.call_function_entry kind_sorted plain_sorted entry_sorted (args_sorted1 _) ?_;unfold Builtin.«sorted»;refine Fv (m:=checkCount "sorted" 1 1 _) (Fw ?_);refine Fv (kdu_collect (A:=X.A.in1) (kdl_dict (knd:=Z3 X.prog X.w) (kvs:=vs) (ep:=ep) lo) (I.ok.hd hc) da (by rw [sizeLine_eq]; lia) fun h' tk acc hk hacc=>?_);have hal:acc.toList.length=vs.length:=by rw [Ba]; exact hacc.1
 have hkl:kvs.length=ns.length:=by have:=congrArg List.length ek; simpa using this
 refine Fv (wpAny_newList ?_ (by rw [hal,sizeLine_eq]; lia));have hI:IntsAre acc.toList ns:=Zgv (by lia) fun j v e=>by
  obtain ⟨k,x,e1,e2⟩:=hacc.2 j v (by rw [<- Array.getElem?_toList]; exact e);have hj:j<vs.length:=(Je.mp e1).1;have hr:=L2.Paired.at rel (by lia:j<kvs.length) hj;have e3:=congrArg (·[j]?) ek;simp only [Gg,Jb (by lia:j<kvs.length),Jb (by lia:j<ns.length),B6,Option.some.injEq] at e3;rw [Jb hj] at e1;have e4:=F5 e1;rw [hr.1,e4] at e3;subst e3;rcases Zz (show Th (Sum.inl ns[j]) v=true from e2) with ⟨i,t,e5,rfl⟩ | ⟨y,t,e5,rfl⟩
  ·cases e5;exists _,t,Jb (by lia:j<ns.length),rfl
  ·cases e5
 have hoL:(h'.push (seqObj "list" acc.toList.toArray 0)).get? h'.objs.size=some (seqObj "list" acc.toList.toArray 0):=Fy _ rfl;refine Fv (wpAny_holding (wpAny_call_entry (s:={ s with heap:=h'.push (seqObj "list" acc.toList.toArray 0),toks:=tk }) slot_list_sort ⟨_,hoL,rfl⟩ entry_list_sort (list_sort_tree hoL hI (by lia) fun out ns' a1 a2 a3=>⟨_,rfl,?_⟩) (args_list_sort _)));obtain ⟨e,he⟩:=sortedHeap_at (vs:=acc.toList) (out:=out) hoL;have I1:Inv X pq σ H { s with heap:=h',toks:=tk }:=I.kept hk;refine Fw ⟨_,rfl,.ref h'.objs.size,_,I1.laid (t':=tk) (fun b o eb=>?_) (Jd _) (show Y9 X.prog X.w _ _ _ (.lst (ns'.map V.int)) from ⟨?_,out.toList,e,Zct a1,he⟩),rfl,q _ ns' (I1.hok.fresh (Jd _)) a2 a3⟩
 ·have hb:h'.get? b=some o:=eb;have hlt:=Fz hb;rw [sortedHeap_old (Gf hlt) (by rw [size_push']; exact Nat.lt_succ_of_lt hlt)];exact Fx _ hb
 ·rw [Ja,a2.length_eq,sizeLine_eq]; lia
end
end L2
namespace L2
open PySem PySem.Spec PyProof.Rows
def Zja [DecidableEq κ] (kvs:List (κ×V)) (k:κ) (v:V):(putK kvs k v).map (·.1)=if k∈kvs.map (·.1) then kvs.map (·.1) else kvs.map (·.1)++[k]:=by
 unfold putK;have hiff:(kvs.any fun kv=>decide (kv.1=k))=true↔k∈kvs.map (·.1):=by
  rw [List.any_eq_true,Jo]
  constructor
  ·rintro ⟨x,h1,h2⟩;exists x,h1,Fq h2
  ·rintro ⟨x,h1,h2⟩;exists x,h1,F2 h2
 by_cases h:k∈kvs.map (·.1)
 ·rw [F1 h,F1 (hiff.mpr h),Gd];refine Bn fun kv _=>?_;show (if kv.1=k then (kv.1,v) else kv).1=kv.1
  split <;> rfl
 ·rw [F0 h,F0 (fun z=>h (hiff.mp z)),Jf];rfl
theorem Ss:∀ (zs:List Int) (kvs:List (Key×V)) (ns:List Int),kvs.map (·.1)=ns.map Sum.inl->ns.Nodup ->
  ∃ ns':List Int,(Wv kvs (zs.map fun z=>((Sum.inl z:Key),V.bl true))).map (·.1)=ns'.map Sum.inl/\ns'.Nodup/\∀ n,n∈ns'↔n∈ns\/n∈zs
 | [],kvs,ns,e,nd=>⟨ns,e,nd,fun n=>by simp⟩
 | z::r,kvs,ns,e,nd=>by
  have hm:(Sum.inl z:Key)∈kvs.map (·.1)↔z∈ns:=by
   rw [e,Jo]
   constructor
   ·rintro ⟨x,h,h2⟩;cases h2;exact h
   ·exact fun h=>⟨z,h,rfl⟩
  have hp:=Zja kvs (Sum.inl z) (V.bl true);show ∃ ns':List Int,(Wv (putK kvs (Sum.inl z) (V.bl true)) (r.map _)).map (·.1)=_/\_
  by_cases h:z∈ns
  ·rw [F1 (hm.mpr h),e] at hp;obtain ⟨ns',a,b,c⟩:=Ss r _ ns hp nd;exists ns',a,b,fun n=>?_;rw [c,Jy]
   constructor
   ·rintro (q | q)
    ·exact .inl q
    ·exact .inr (.inr q)
   ·rintro (q | rfl | q)
    ·exact .inl q
    ·exact .inl h
    ·exact .inr q
  ·rw [F0 (fun q=>h (hm.mp q)),e] at hp;obtain ⟨ns',a,b,c⟩:=Ss r _ (ns++[z]) (by rw [hp,Jf]; rfl) (Bv.mpr ⟨nd,by simp,fun x hx y hy=>by
    rw [Jh.mp hy];exact fun q=>h (q ▸ hx)⟩)
   exists ns',a,b,fun n=>?_;rw [c,Jy,J9,Jh]
   constructor
   ·rintro ((q | q) | q)
    ·exact .inl q
    ·exact .inr (.inl q)
    ·exact .inr (.inr q)
   ·rintro (q | q | q)
    ·exact .inl (.inl q)
    ·exact .inl (.inr q)
    ·exact .inr q
theorem Ze3 {ns':List Int} (nd:ns.Nodup) (h:∀ n,n∈ns↔n∈S.map fun p=>(p.2.length:Int)) (p:ns'.Perm ns) (ri:ns'.Pairwise (·<=·)):Zdb ns' S:=by
 exists ?_,fun n=>?_
 ·have nd':ns'.Nodup:=p.nodup_iff.mpr nd;exact (List.pairwise_and_iff.mpr ⟨ri,nd'⟩).imp fun {a b} z=>by
   have:=z.1;have:=z.2;lia
 ·rw [p.mem_iff,h,Jo]
def PF (ws:List (List Int)):Prop:=ws.Pairwise fun a b=>¬ a<+:b/\¬ b<+:a
def WOk (ws:List (List Int)):Prop:=PF ws/\∀ w∈ws,w≠[]/\w.length<=4
def PF.sub {a b:List (List Int)} (h:PF b) (s:a.Sublist b):PF a:=List.Pairwise.sublist s h
def WOk.sub {a b:List (List Int)} (h:WOk b) (s:a.Sublist b):WOk a:=⟨h.1.sub s,fun w hw=>h.2 w (s.subset hw)⟩
def Vp {w:List Int} {a b:Int} (h:a≠b):¬ (w++[a])<+:(w++[b]):=fun e=>by
 have:=List.IsPrefix.eq_of_length e (by simp);simp at this;exact h this
def Zm3 {bs:List Int} (nd:bs.Nodup):WOk (bs.map fun b=>[b]):=by
 exists Gm.mpr (nd.imp fun z=>⟨Vp (w:=[]) z,Vp (w:=[]) z.symm⟩),fun w hw=>?_;obtain ⟨b,_,rfl⟩:=Jo.mp hw;exact ⟨by simp,by simp⟩
theorem Zcg {a c:List (List Int)} {w:List Int} {bs:List Int} (nd:bs.Nodup) (h:WOk (a++w::c)) (hw:w.length<4):WOk (a++(bs.map fun b=>w++[b])++c):=by
 obtain ⟨h1,h2⟩:=h;have hk:∀ x,(¬ x<+:w/\¬ w<+:x)->∀ b,¬ x<+:w++[b]/\¬ (w++[b])<+:x:=fun x hx b=>by
  exists fun z=>?_,fun z=>hx.2 ((Js _ _).trans z);rcases List.prefix_concat_iff.mp z with e | e
  ·exact hx.2 (e ▸ Js _ _)
  ·exact hx.1 e
 unfold PF at h1;rw [Fb] at h1;obtain ⟨pa,pwc,pac⟩:=h1;rw [List.pairwise_cons] at pwc;obtain ⟨pw,pc⟩:=pwc;exists ?_,fun x hx=>?_
 ·unfold PF;rw [Ga,Fb];exists pa,?_,fun x hx y hy=>?_
  ·rw [Fb];exists Gm.mpr (nd.imp fun z=>⟨Vp z,Vp z.symm⟩),pc,fun x hx y hy=>?_;obtain ⟨b,_,rfl⟩:=Jo.mp hx;have:=hk y ⟨(pw y hy).2,(pw y hy).1⟩ b;exists this.2,this.1
  ·rcases J9.mp hy with hy | hy
   ·obtain ⟨b,_,rfl⟩:=Jo.mp hy;exact hk x (pac x hx w Jm) b
   ·exact pac x hx y (Jg _ hy)
 ·rcases J9.mp hx with hx | hx
  ·rcases J9.mp hx with hx | hx
   ·exact h2 x (Gn _ hx)
   ·obtain ⟨b,_,rfl⟩:=Jo.mp hx;exact ⟨by simp,by rw [Jc,Jx]; lia⟩
  ·exact h2 x (Jl _ (Jg _ hx))
theorem Zd7:∀ (ss:List Int) (ws:List (List Int)),((ss.zip ws).map (·.1)).Sublist ss
 | [],_=>by simp
 | _::_,[]=>by simp
 | a::r,b::t=>by rw [B3,Ju]; exact (Zd7 r t).cons₂ a
theorem Zd6:∀ (ss:List Int) (ws:List (List Int)),((ss.zip ws).map (·.2)).Sublist ws
 | [],_=>by simp
 | _::_,[]=>by simp
 | a::r,b::t=>by rw [B3,Ju]; exact (Zd6 r t).cons₂ b
def WOk.free (h:WOk ws) {ss:List Int} (nd:ss.Nodup):Free (ss.zip ws):=by
 have h1:((ss.zip ws).map (·.1)).Nodup:=nd.sublist (Zd7 ss ws);have h2:PF ((ss.zip ws).map (·.2)):=h.1.sub (Zd6 ss ws);exact (Gm.mp h1).and (Gm.mp h2) |>.imp fun z=>⟨z.1,z.2.1,z.2.2⟩
section
variable {a:Addr} {i:Nat} 
def Zq3 (e:H a=some (.lst xs)) (hi:i<xs.length):(Itl K a).go i H:=⟨_,_,SqL.of e,Jb hi⟩
def Zjc (e:H a=some (.lst xs)) (hi:xs.length<=i):(Itl K a).stop i H:=⟨_,SqL.of e,hi⟩
def Znh (e:H a=some (.lst xs)) (hi:i<xs.length) (z:(Itl K a).yld i H y H'):H'=H/\y=xs[i]:=by
 exists z.1,?_;have:=z.2 _ (SqL.of e);rw [Jb hi] at this;exact (F5 this).symm
end
def Qz {p a:Addr} (h:HandAt H p a):∃ xs,H p=some (.lst xs):=let ⟨_,_,_,e,_⟩:=h.ex; ⟨_,e⟩
def Zex:Sp:=fun vs H Q _=>∃ (p a:Addr) (m:Int),vs=[.ref p,.int m]/\HandAt H p a/\0<=m/\m<=100 /\
 ∀ (l:Addr) (ss:List Int) (H':Hp),H l=none->l≠p->H' l=some (.lst (ss.map V.int))->ss.Nodup->(ss.length:Int)=m->HandAt H' p a->Grow p H H'->Q (.ref l) H'
def Free.rev (h:Free L):Free L.reverse:=List.pairwise_reverse.mpr (h.imp fun z=>⟨z.1.symm,z.2.2,z.2.1⟩)
theorem Zev {b s:Int} (hs:1<=s) (n:Nat):((List.range n).map fun k:Nat=>b+s*(k:Int)).Nodup:=by
 refine Gm.mpr (Be.mpr fun i j hi hj hij=>?_);simp only [List.getElem_range];intro e;have h3:0<s*((j:Int)-(i:Int)):=Int.mul_pos (by lia) (by lia);rw [Int.mul_sub] at h3;lia
def Zdg {ss:List Int} (h:ss.Nodup) (n:Nat):(ss.drop n++ss.take n).Nodup:=by
 have:(ss.take n++ss.drop n).Nodup:=by rw [Gp]; exact h
 exact (List.perm_append_comm.nodup_iff).mp this
def Wl.same {C x:Addr} (h:Wl C H x S) (s:Same H H'):Wl C H' x S:=by
 obtain ⟨dx,tp,d1,d2,d3,d4,ex,⟨⟨vs,a1,a2⟩,⟨k1,b1,b2⟩,⟨k2,c1,c2⟩,⟨k3,f1,f2⟩,⟨k4,g1,g2⟩⟩⟩:=h;exists dx,tp,d1,d2,d3,d4,s _ _ ex,⟨vs,s _ _ a1,Prs.tk a2 s.tk⟩,⟨k1,s _ _ b1,fun p hp=>?_,b2.2⟩,⟨k2,s _ _ c1,c2⟩,⟨k3,s _ _ f1,f2⟩,⟨k4,s _ _ g1,g2⟩;obtain ⟨t,u,v⟩:=b2.1 p hp;exists t,u,s _ _ v
def Zey (C:Addr):Sp:=fun vs H Q _=>∃ (x t:Addr) (S:List Pr) (u:List Int),vs=[.ref x,.ref t]/\Wl C H x S/\H t=some (.tup (u.map V.int))/\(∀ p∈S,p.2=u->Q (.int p.1) H)/\((∀ p∈S,p.2≠u)->Q .non H)
def Zno (h:Free S) {p q:Pr} (hp:p∈S) (hq:q∈S) {l:List Int} (p1:p.2<+:l) (q1:q.2<+:l):p=q:=by
 obtain ⟨i,hi,rfl⟩:=Ge hp;obtain ⟨j,hj,rfl⟩:=Ge hq;have z:=List.prefix_or_prefix_of_prefix p1 q1;rcases Fa i j with l | l | l
 ·have a:=h.get hi hj l;rcases z with z | z
  ·exact Fs z a.2.1
  ·exact Fs z a.2.2
 ·subst l; rfl
 ·have a:=h.get hj hi l;rcases z with z | z
  ·exact Fs z a.2.2
  ·exact Fs z a.2.1
def So (h:Free S) {p q:Pr} (hp:p∈S) (hq:q∈S) (e:p.1=q.1):p=q:=by
 obtain ⟨i,hi,rfl⟩:=Ge hp;obtain ⟨j,hj,rfl⟩:=Ge hq;rcases Fa i j with l | l | l
 ·exact Fs e (h.get hi hj l).1
 ·subst l; rfl
 ·exact Fs e.symm (h.get hj hi l).1
def Free.perm (h:Free L) (p:S.Perm L):Free S:=(p.pairwise_iff (fun {a b} z=>⟨z.1.symm,z.2.2,z.2.1⟩)).mpr h
def Fits.perm (h:Fits L) (p:S.Perm L):Fits S:=⟨by rw [p.length_eq]; exact h.1,fun x hx=>h.2 x (p.mem_iff.mp hx)⟩
def Z8 (T:List Pr):List Int:=(T.map fun q:Pr=>q.2).flatten
def Yj (T:List Pr):List Int:=T.map fun q:Pr=>q.1
def Wp (p:Pr) (T:List Pr):Z8 (p::T)=p.2++Z8 T:=rfl
def Zmc (A B:List Pr):Z8 (A++B)=Z8 A++Z8 B:=by unfold Z8; rw [List.map_append,List.flatten_append]
theorem Znu (w:List Int) {k m:Nat} (h:k<=w.length):cutV (w.map V.int) (some (k:Int)) (some ((k:Int)+(m:Int)))=((w.drop k).take m).map V.int:=by
 unfold cutV;rw [<- G4,HT.sIx_nat,HT.sIx_nat,Ja,B7 h,G6,B8];refine List.take_eq_take_iff.mpr ?_;rw [Jj,Ja];lia
def Ztd {c A:Prop} [Decidable c] (hc:¬ c) (h:A):if (!decide c)=true then A else B:=by
 rw [F3 hc];exact iteT h
def Zte {c A:Prop} [Decidable c] (hc:c) (h:A):if decide c=true then A else B:=by
 rw [F2 hc];exact iteT h
def Ztf {c A:Prop} [Decidable c] (hc:¬ c) (h:B):if decide c=true then A else B:=by
 rw [F3 hc];exact iteF h
section
def Zaq (K:W.Frag):List V->Hp->VK->Prop:=fun xs H Q=>∃ p ys,xs=[.ref p]/\(SqL K H p ys\/SqT K H p ys)/\∀ l,H l=none->Q (.ref l) (upd H l (.lst ys))
def Sw (h:X.K=K):Vj X (.type "list") (Zaq K):=by subst h; exact Td
def Zfo (K:W.Frag):List V->Hp->VK->Prop:=fun xs H Q=>∃ p ys,xs=[.ref p]/\((SqL K H p ys/\∀ l,H l=none->Q (.ref l) (upd H l (.tup ys)))\/(SqT K H p ys/\Q (.ref p) H))
def Zho (h:X.K=K):Vj X (.type "tuple") (Zfo K):=by subst h; exact Xm
end
abbrev En:=Nat×Option Int
variable {R:List L2.En}
inductive Went (S:List Pr) (ns:List Int):List En->Nat->Prop where
 | nil:Went S ns [] 0
 | lost {R:List En} {pl:Nat}:Went S ns R pl->pl<ns.length->(∀ p∈S,¬ p.2<+:ns.drop pl)->Went S ns (R++[(pl,none)]) (pl+1)
 | word {R:List En} {pl:Nat} {p:Pr}:Went S ns R pl->p∈S->p.2<+:ns.drop pl->p.2≠[]->Went S ns (R++[(pl,some p.1)]) (pl+p.2.length)
theorem Zko {w:List Int} (h:w<+:ns.drop pl) (hw:w≠[]):pl<ns.length/\pl+w.length<=ns.length:=by
 have a:=h.length_le;have b:=Gj.mpr hw;rw [Jj] at a;lia
theorem Went.le (h:Went S ns R pl):pl<=ns.length:=by
 cases h with
 | nil=>exact Jz _
 | lost _ h _=>exact h
 | word _ _ h1 h2=>exact (Zko h1 h2).2
theorem Went.len (h:Went S ns R pl):R.length<=pl:=by
 induction h with
 | nil=>exact Jd _
 | lost _ _ _ ih=>rw [Jc,Jx]; lia
 | word _ _ _ h2 ih =>
  have:=Gj.mpr h2;rw [Jc,Jx];lia
def oV:Option Int->V
 | some z=>.int z
 | none=>.non
def EntV (H:Hp) (v:V) (e:En):Prop:=∃ t,v=.ref t/\H t=some (.tup [.int (e.1:Nat),oV e.2])
def EntV.tk {e:En} (h:EntV H v e) (s:TupK H H'):EntV H' v e:=by
 obtain ⟨t,a,b⟩:=h;exists t,a,s _ _ b
abbrev Ents (H:Hp):List V->List En->Prop:=Paired (EntV H)
def Ents.tk (h:Ents H vs R) (s:TupK H H'):Ents H' vs R:=Paired.mapP h fun _ _ z=>z.tk s
def Told (S:List Pr) (ns:List Int) (R:List En):Prop:=∃ pl,Went S ns R pl/\ns.length<=pl
theorem Told.len (h:Told S ns R):R.length<=ns.length:=by
 obtain ⟨pl,a,b⟩:=h;have:=a.le;have:=a.len;lia
def excP (ea C:Addr) (d:Option Addr) (h:Heap):Prop:=∃ oe vs,h.get? ea=some oe/\oe.cls=.ref C/\oe.dict=d/\oe.data=.fields vs/\vs.size=6
end L2
variable {R:List L2.En}
namespace L2
open PySem PySem.Spec PyProof.Rows PySem.W
def xdP (d:Addr) (fs:List (Str×V)) (h:Heap):Prop:=∃ mA,h.Ns1 d mA/\(∀ f,RelO (fs.lookup f) (mA f))/\PySem.Within mA (fs.map (·.1))
end L2
namespace L2
open PySem PySem.Spec PyProof.Rows PySem.W PySem.Builtin PySem.Builtin.ObjectAttr
section
def XD (H:Hp):Option Addr->List (Str×V)->Prop
 | some d,fs=>H d=some (.ext (xdP d fs))
 | none,fs=>fs=[]
theorem XD.mono (s:Same H H'):∀ {o:Option Addr} {fs:List (Str×V)},XD H o fs->XD H' o fs
 | some _,_,h=>s _ _ h
 | none,_,h=>h
end
end L2
namespace L2
open PySem PySem.Spec PyProof.Rows
section
def Inv.turned2 {e:Addr} (I:Inv X pq σ H s) (k:∀ b o,b≠e->b≠it->s.heap.get? b=some o->h'.get? b=some o) (f:FpOk X pq H e) (g:FpOk X pq H it):Inv X pq σ H { s with heap:=h',toks:=t' }:=by
 obtain ⟨f0,f1,f2,f3,f4,f5⟩:=f;obtain ⟨g0,g1,g2,g3,g4,g5⟩:=g;have ne:∀ b u,H b=some u->b≠e:=fun b u q z=>by rw [z,f0] at q; cases q
 have nit:∀ b u,H b=some u->b≠it:=fun b u q z=>by rw [z,g0] at q; cases q
 refine I.step (g':=s.gens) (d':=s.drawn) (ch:=[e,it]) (fun b hb=>?_) (fun b o _ _ hc q _=>k b o (fun z=>hc (by simp [z])) (fun z=>hc (by simp [z])) q) (fun b o _ _ hc q _=>⟨o.slots,k b o (fun z=>hc (by simp [z])) (fun z=>hc (by simp [z])) q⟩) (fun _ _ _ _ n=>n)
  (fun b o hc q=>⟨o,k b o (fun z=>hc (by simp [z])) (fun z=>hc (by simp [z])) q⟩) (fun _ _ q=>q) (fun _ _ _ q=>q) (fun b ps q=>⟨#[],by rw [q]; simp⟩) (fun m hm=>?_) (fun b u q=>?_) I.bare
 ·rcases Jy.mp hb with z | hb
  ·subst z;exists f3,f1,f4,f5
  ·have z:b=it:=by simpa using hb
   subst z;exists g3,g1,g4,g5
 ·obtain ⟨o,es,ep,ho,r⟩:=hm;exists o,es,ep,k _ o (Ne.symm f1) (Ne.symm g1) ho,r
 ·refine (I.hok b u q).stay (fun c v hc q'=>k c v ?_ ?_ q') (fun _ q=>q) fun _ _ q=>q
  ·rcases hc with z | z
   ·rw [z]; exact ne b u q
   ·exact ne c _ z
  ·rcases hc with z | z
   ·rw [z]; exact nit b u q
   ·exact nit c _ z
end
def Ite (K:W.Frag) (a:Addr):It :=
 ⟨fun i H=>∃ xs x,SqL K H a xs/\xs[i]?=some x,fun i H x H'=>∃ (t:Addr) (y:V),x=.ref t/\H t=none/\H'=upd H t (.tup [.int i,y])/\∀ xs,SqL K H a xs->xs[i]?=some y,fun i H=>∃ xs,SqL K H a xs/\xs.length<=i⟩
theorem Zem {elts:List Expr} {x1:Nat} (a e it:Addr) (hne:e≠it):Turn P w K (.Tuple elts x1 pos) (Ite K a) [e,it] e (fun i h=>(∃ old,IsEnum h e it i old)/\h.IsListIter it a i) where
 mem:=by simp
 obj:=fun i h st b hb=>by
  obtain ⟨⟨old,st1⟩,o,e2,c2,d2⟩:=st;rcases Jy.mp hb with z | hb
  ·subst z;exact ⟨_,st1,fun v z=>by
    have z':Data.fields _=Data.cell v:=z;cases z'⟩
  ·have z:b=it:=by simpa using hb
   subst z;exact ⟨o,e2,fun v z=>by rw [d2] at z; cases z⟩
 keep:=fun i h h' st k=>by
  obtain ⟨⟨old,st1⟩,st2⟩:=st;exists ⟨old,k e (by simp) _ st1⟩,st2.at fun o q=>k it (by simp) o q
 item:=by
  intro X hP hw hK hc i pq s σ H E I hf st hg;subst hP hw hK;obtain ⟨⟨old,st1⟩,st2⟩:=st;obtain ⟨xs,x,hq,hx⟩:=hg;obtain ⟨its,rv,p,hz⟩:=I.list hq;obtain ⟨u,hu,ru⟩:=rv.get hx;refine wpAny_pyNext_enum_item st1 st2 p.isList (x:=u) (by simpa using hu) hne fun h1 eo st2' et hsz hk=>?_;have he:e<s.heap.objs.size:=Fz st1;have hi:it<s.heap.objs.size:=by obtain ⟨_,q,_⟩:=st2; exact Fz q
  exists ·,wpAny_letOwnedTupleGo_enum eo fun h2 en2 sb=>?_
  replace sb:Heap.SameBut e h1 h2:=sb
  have fr:H s.heap.objs.size=none:=I.fresh;have Il:Inv X pq σ (upd H s.heap.objs.size (.tup [.int i,x])) { s with heap:=s.heap.push { cls:=.type "tuple",data:=.seq #[.int i s.toks,u] },toks:=s.toks }:=I.laid (fun b o q=>Fx _ q) (Jd _)
   ⟨by show 2<=sizeLine; decide,[.int i s.toks,u],.cons ⟨_,rfl⟩ (.cons ru .nil),⟨_,Fy _ rfl,rfl,_,rfl,rfl⟩⟩
  have up:∀ b,b∈[e,it]->FpOk X pq (upd H s.heap.objs.size (.tup [.int i,x])) b:=fun b hb=>by
   obtain ⟨f0,f⟩:=hf b hb;refine ⟨?_,f⟩;have hlt:b<s.heap.objs.size:=by
    rcases Jy.mp hb with z | hb
    ·rw [z]; exact he
    ·have z:b=it:=by simpa using hb
     rw [z]; exact hi
   rw [Zm (Gf hlt)];exact f0
  have I2:Inv X pq σ (upd H s.heap.objs.size (.tup [.int i,x])) { s with heap:=h2,toks:=s.toks+1 }:=by
   refine Inv.turned2 (s:={ s with heap:=s.heap.push { cls:=.type "tuple",data:=.seq #[.int i s.toks,u] },toks:=s.toks }) (h':=h2) (t':=s.toks+1) (e:=e) (it:=it) Il (fun b o be bi q=>?_) (up e (by simp)) (up it (by simp));rcases Heap.get?_push_cases q with ⟨z1,z2⟩ | q
   ·subst z1 z2;exact (sb.2 _ (Nat.ne_of_gt he)).trans et
   ·exact (sb.2 _ be).trans (hk b o be bi q)
  exists .ref s.heap.objs.size,_,I2,rfl,⟨_,x,rfl,fr,rfl,fun ys hy=>by rw [I.list_inj hy hq]; exact hx⟩,⟨⟨u,?_⟩,st2'.at fun o q=>(sb.2 it hne.symm).trans q⟩,fun b hb=>(up b hb).1
  ·have z:((i+1:Nat):Int)=(i:Int)+1:=by push_cast; rfl
   rw [z];exact en2
 done:=by
  intro X hP hw hK hc i pq s σ H E I hf st hg;subst hP hw hK;obtain ⟨⟨old,st1⟩,st2⟩:=st;obtain ⟨xs,hq,hx⟩:=hg;obtain ⟨its,rv,p,hz⟩:=I.list hq;obtain ⟨f0,f1,f2,f3,f4,f5⟩:=hf it (by simp);have hl:=rv.length;exact wpAny_pyNext_enum_end (I.ok.hd hc) st1 st2 p.isList (by simp; lia) fun h' eb=>⟨rfl,I.turned (t':=s.toks) (fun b o hb e=>eb b o hb e) f0 f1 f3 f4 f5⟩
 self:=fun _ _ _ _ _ st h=>let ⟨⟨_,q⟩,_⟩:=st; wpAny_pyIter_enum q h
section
def Zq6 (K:W.Frag) (tl:TA):TI:=fun σ H R=>tl σ H fun vs H1=>∃ a,vs=[.ref a]/\(∃ xs,SqL K H1 a xs)/\R (Ite K a) H1
theorem Zmt {elts:List Expr} {x1:Nat} {pt:Pos} {l:Expr} {tl:TA} {p:Pos} (hg:Gl X "enumerate") (hm:X.mg "enumerate"=none) (ha:PA X [l] tl) (hs:starEach [l] X.env=[(false,eval l X.env)]:=by rfl):PI X (.Tuple elts x1 pt) (.Call (.Name "enumerate" p) [l] [] pos) (Zq6 X.K tl):=by
 intro pq s σ H R I h;refine Call_ (Rt I hg hm boot_enumerate (PyProof.Rows.callWith_type1 (thn (ha pos pq s σ H _ I h) fun us s1 hz=>?_) hs rfl));obtain ⟨vs,H1,I1,r1,q1⟩:=hz;obtain ⟨a,e,⟨xs,hq⟩,q⟩:=q1;subst e;cases r1 with
 | cons r rr =>
  cases rr;cases r;obtain ⟨its,rv,pl,hz⟩:=I1.list hq;refine call_enumerate_list pl.isList fun h' he hit hsz hk=>?_;have I2:Inv X pq σ H1 { s1 with heap:=h',toks:=s1.toks }:=I1.kept hk;refine wpAny_pyIter_enum he ?_;exists s1.heap.objs.size+1,[s1.heap.objs.size+1,s1.heap.objs.size],_,_,H1,rfl,I2,Zem a _ _ (Nat.succ_ne_self _),⟨⟨_,he⟩,hit⟩,fun b hb=>?_,q;rcases Jy.mp hb with z | hb
  ·subst z;exact I1.fpOk (Bj _) (I1.hok.fresh (Bj _))
  ·have z:b=s1.heap.objs.size:=by simpa using hb
   subst z;exact I1.fpOk (Jd _) (I1.hok.fresh (Jd _))
end
end L2
namespace L2
open PySem PySem.Spec PyProof.Rows PySem.W
def Ztl (S T:List Pr) (ts:List Int) (i:Nat):Prop:=(∀ p∈T,p∈S)/\Yj T=ts.take i
end L2
namespace L2
open PySem PySem.Spec PyProof.Rows
inductive NI where
 | k (z:Int) | t (x:List Int) | b (t:Bool) | n
 deriving DecidableEq
variable {ks:List L2.NI}
def NI.sh:NI->Nat
 | .k _=>0
 | .t _=>1
 | .b _=>2
 | .n=>3
def NI.num:NI->Bool
 | .k _=>true
 | .n=>true
 | _=>false
def NI.shp (ks:List NI):List Nat:=bif ks.all NI.num then [7] else ks.map NI.sh
def niH:NI->Int
 | .k z=>hashInt z
 | .t x=>reduceHash (Builtin.Tuple.tupleHashOf (x.map hashInt))
 | .b t=>hashInt (if t then 1 else 0)
 | .n=>4238894112
def nh (ks:List NI):Int:=reduceHash (Builtin.Tuple.tupleHashOf (ks.map niH))
abbrev Nkv:=List NI×Addr×V
def dnP (d:Addr) (kvs:List Nkv) (h:Heap):Prop:=kvs.length<=sizeLine/\(d == sysModules)=false/\∃ xs:List (List NI×Addr×Value),Paired (fun (p:Nkv) (q:List NI×Addr×Value)=>p.1=q.1/\p.2.1=q.2.1/\RelV p.2.2 q.2.2) kvs xs /\
 ∃ o es ep,h.get? d=some o/\o.ExactDict/\o.data=.dict es ep/\es.toList=xs.map (fun x=>⟨nh x.1,.ref x.2.1,x.2.2⟩)/\(xs.map (·.1)).Nodup
def dnP.ok {d:Addr} {kvs:List Nkv} (x:dnP d kvs h):Y9 P w H h d (.ext (dnP d kvs)):=by
 obtain ⟨a,b,xs,r,o,es,ep,e,q⟩:=id x;exists x,⟨o,e⟩,fun h1 h2 ⟨a1,b1,xs1,r1,o1,es1,ep1,e1,q1⟩ k=>⟨a1,b1,xs1,r1,o1,es1,ep1,k _ e1,q1⟩
def NkV (K:W.Frag) (H:Hp):NI->V->Prop
 | .k z,v=>v=.int z
 | .t x,v=>∃ a,v=.ref a/\SqT K H a (x.map V.int)
 | .b t,v=>v=.bl t
 | .n,v=>v=.non
def NkAt (K:W.Frag) (H:Hp) (ks:List NI) (a:Addr):Prop:=∃ vs,SqT K H a vs/\Paired (NkV K H) ks vs
def Zew (tk:∀ b u,Rd H b (.tup u)->Rd H' b (.tup u)) {a:Addr} (h:SqT K H a xs):SqT K H' a xs:=by
 rcases h with h | h
 ·exact .inl (tk _ _ h)
 ·exact .inr h
theorem NkV.tk (tk:∀ b u,Rd H b (.tup u)->Rd H' b (.tup u)) {k:NI} (h:NkV K H k v):NkV K H' k v:=by
 cases k with
 | k z=>exact h
 | t x=>obtain ⟨a,e,q⟩:=h;exists a,e,Zew tk q
 | b t=>exact h
 | n=>exact h
theorem NkAt.tk (tk:∀ b u,Rd H b (.tup u)->Rd H' b (.tup u)) {a:Addr} (h:NkAt K H ks a):NkAt K H' ks a:=by
 obtain ⟨vs,e,r⟩:=h;exists vs,Zew tk e,Paired.mapP r fun _ _ z=>z.tk tk
def NkAt.same (s:Same H H') {a:Addr} (h:NkAt K H ks a):NkAt K H' ks a:=h.tk fun b u r=>by
 rcases r with r | ⟨o,r⟩
 ·exact .inl (s _ _ r)
 ·exact .inr ⟨o,s _ _ r⟩
def Ud (s:Same H H') {a:Addr} (h:SqT K H a xs):SqT K H' a xs:=Zew (fun b u r=>by
 rcases r with r | ⟨o,r⟩
 ·exact .inl (s _ _ r)
 ·exact .inr ⟨o,s _ _ r⟩) h
def dnP.ne {a:Addr} {kvs:List Nkv} {φ:Heap->Prop} (o:Obj) {vs:Array Value} (hd:o.data=.fields vs) (hφ:∀ h:Heap,h.get? a=some o->φ h) (e:dnP a kvs=φ):False:=by
 have g:(Heap.get? ⟨Array.replicate (a+1) o,{}⟩ a)=some o:=by
  obtain ⟨c,di,da,sl⟩:=o;cases hd;unfold Heap.get?;have z:(Array.replicate (a+1) (⟨c,di,.fields vs,sl⟩:Obj))[a]?=some ⟨c,di,.fields vs,sl⟩:=by simp
  simp only [z]
 have x:=hφ _ g;rw [<- e] at x;obtain ⟨_,_,xs,_,ob,es,ep,g2,_,dd,_⟩:=x;rw [g] at g2;cases g2;rw [hd] at dd;cases dd
end L2
variable {ks:List L2.NI}
namespace L2
open PySem PySem.W PyProof.Rows HT PySem.Calls
section
def Zac {xs ys:List Value} {a b:Addr} {oa ob:Obj} {na nb:Nat} {P:PySem.Fin->Shared->Prop} (ha:s.heap.get? a=some oa) (da:oa.data=.seq xs.toArray na) (hb:s.heap.get? b=some ob) (cb:ob.cls=.type "tuple") (db:ob.data=.seq ys.toArray nb)
  (ia:IntsAre xs ns) (ib:IntsAre ys ms) (h:P (.done (.ret (.bool (lexLt ns ms)))) s):wpAny (model prog w) A (Builtin.«tuple.__lt__» ⟨[.ref a,.ref b],[]⟩) P E s:=by
 show wpAny _ _ (isInstance (.ref b) (.type "tuple") >>= _) _ _ s;refine Fv (wpAny_isInstance ⟨ob,hb,cb⟩ isSubtype_tuple_tuple ?_);simp only [By,Gc,if_false];refine Fv (wpAny_tupleItemsOf ha da ?_);refine Fv (wpAny_tupleItemsOf hb db ?_);refine Fv ?_;simp only [List.toList_toArray];refine wpAny_forIn_list _
  (fun rest r s'=>r.1=none/\s'=s/\∃ ns' ms' xs' ys',rest=List.zip xs' ys'/\IntsAre xs' ns'/\IntsAre ys' ms'/\lexLt ns' ms'=lexLt ns ms/\decide (xs'.length<ys'.length)=decide (xs.length<ys.length))
  _ ?_ ?_ _ _ ⟨rfl,rfl,ns,ms,xs,ys,rfl,ia,ib,rfl,rfl⟩
 ·rintro ⟨u,v⟩ rest r s' ⟨hr,rfl,ns',ms',xs',ys',hz,hx',hy',hdec,hlen⟩;cases hx' with
  | nil=>simp at hz
  | @cons k1 t1 x'' xs'' hx'' =>
   cases hy' with
   | nil=>simp at hz
   | @cons k2 t2 y'' ys'' hy'' =>
    simp only [B3,List.cons.injEq,Prod.mk.injEq] at hz;obtain ⟨⟨rfl,rfl⟩,rfl⟩:=hz;refine Fv (wpAny_eqBool_int ?_)
    by_cases hk:k1=k2
    ·subst hk;rw [beq_self_eq_true];simp only [By,Gc,if_false];refine Fw ⟨rfl,rfl,_,_,_,_,rfl,hx'',hy'',?_,by simpa using hlen⟩;rw [<- hdec,lexLt_cons,F1 rfl]
    ·rw [show (k1 == k2)=false from beq_eq_false_iff_ne.mpr hk];simp only [Bool.not_false,if_true];refine Fv (wpAny_rule ?_);refine Fv (show wpAny _ _ (compareOp .Lt (.int k1 t1) (.int k2 t2)) _ _ _ from wpAny_lt_int ?_);rw [<- hdec,lexLt_cons,F0 hk] at h;exact Fv (Fw (Fw (Fw h)))
 ·rintro ⟨r1,r2⟩ s' ⟨hr,rfl,ns',ms',xs',ys',hz,hx',hy',hdec,hlen⟩;simp only at hr;subst hr;refine Fw ?_;have hfin:Builtin.Tuple.tupleCompareSizes CmpOp.Lt xs.toArray.size ys.toArray.size=.bool (lexLt ns ms):=by
   show Value.bool (decide (xs.toArray.size<ys.toArray.size))=_;rw [Jn,Jn,<- hlen,<- hdec];cases hx' with
   | nil =>
    cases hy' with
    | nil=>rfl
    | cons _ _ _=>simp [HT.lexLt]
   | cons _ _ _ =>
    cases hy' with
    | nil=>simp [HT.lexLt]
    | cons _ _ _=>simp at hz
  rw [hfin];exact h
def Zoy {xs ys:List Value} {a b:Addr} {oa ob:Obj} {na nb:Nat} {Q:Value->Shared->Prop} (hu:A.units<cLine) (ha:s.heap.get? a=some oa) (ca:oa.cls=.type "tuple") (da:oa.data=.seq xs.toArray na) (hb:s.heap.get? b=some ob) (cb:ob.cls=.type "tuple") (db:ob.data=.seq ys.toArray nb)
  (ia:IntsAre xs ns) (ib:IntsAre ys ms) (h:Q (.bool (lexLt ns ms)) s):wpAny (model prog w) A (compareOp .Lt (.ref a) (.ref b)) Q E s :=
 wpAny_richCompare_same_room (op:=.Lt) ⟨oa,ha,ca⟩ ⟨ob,hb,cb⟩ F.slot_tuple_lt (wpAny_call_entry F.slot_tuple_lt ⟨oa,ha,ca⟩ F.entry_tuple_lt (Zac ha da hb cb db ia ib ⟨_,rfl,(fun e=>nomatch e),h⟩) (F.args_tuple_lt_2 _ _)) hu
end
section
theorem Ws:∀ {ns:List Int} {vs:List Value},Vals (ns.map V.int) vs->IntsAre vs ns
 | [],_,h=>by cases h; exact .nil
 | a::r,_,h=>by
  cases h with
  | cons h1 h2=>obtain ⟨t,e⟩:=h1; subst e; exact .cons a t (Ws h2)
theorem items_int :∀ {ns:List Int} {vs:List Value},IntsAre vs ns->ItemsAre (intKind prog w) ns vs.toArray.toList:=by
 intro _ _ hz9;cases hz9 with
 | nil=>
  exact .nil
 | cons n t h=>
  exact .cons (by show Value.isInt n (Value.int n t)=true; simp [Value.isInt]) (items_int h)
end
end L2
namespace L2
open PySem PySem.Spec PyProof.Rows
section
def Qd {a:Addr} (e:Same H H') (h:SqT K H a xs):SqT K H' a xs:=by
 rcases h with h | h
 ·rcases h with h | ⟨o,h⟩
  ·exact .inl (.inl (e _ _ h))
  ·exact .inl (.inr ⟨o,e _ _ h⟩)
 ·exact .inr h
end
end L2
namespace L2
open PySem PySem.W PySem.Spec PyProof.Rows
section
def Zqe (K:W.Frag):R2:=fun x y H Q=>∃ a b ys,x=.ref a/\y=.ref b/\SqT K H a []/\SqT K H b ys/\Q (.ref b) H
def Zm2:OpR X (binaryOp .Add) (Zqe X.K):=by
 intro pq s σ H x y v u Q I rx ry h;obtain ⟨a,b,ys,rfl,rfl,ha,hb,q⟩:=h;cases rx;cases ry;obtain ⟨its,r1,p1,_⟩:=I.tuple ha;obtain ⟨its2,r2,p2,_⟩:=I.tuple hb;cases r1;obtain ⟨⟨cls,dd,data,sl⟩,ho,hc,n,hd⟩:=id p1;obtain ⟨⟨cls2,dd2,data2,sl2⟩,ho2,hc2,n2,hd2⟩:=id p2;simp only at hc hd hc2 hd2;subst hc hd hc2 hd2;exact concat_meets ⟨_,ho,rfl⟩ ⟨_,ho2,rfl⟩ noFill_tuple_add seq_tuple_add PySem.F.slot_tuple_add PySem.F.entry_tuple_add (PySem.F.args_tuple_add_2 _ _)
  (tuple_addW0 a b _ its2.toArray n n2 dd dd2 sl sl2 rfl) ⟨ho,ho2,⟨.ref b,H,I,rfl,q⟩⟩
end
end L2
namespace L2
open PySem PySem.W PyProof.Rows HT PySem.Calls
def LtAt (A:Around) (s:Shared) (u v:Value) (b:Bool):Prop:=∀ (prog:Program) (w:World) (E:Value->Shared->Prop) (Q:Value->Shared->Prop),Q (.bool b) s->wpAny (model prog w) A (compareOp .Lt u v) Q E s
def lexN:(Nat->Bool×Bool)->Nat->Nat->Bool
 | _,0,n=>decide (0<n)
 | _,_+1,0=>false
 | z,m+1,n+1=>if (z 0).1 then lexN (fun j=>z (j+1)) m n else (z 0).2
section
def LtAt.int (i j:Int) (t u:Tok):LtAt A s (.int i t) (.int j u) (decide (i<j)):=fun prog w E Q h=>wpAny_lt_int h
end
end L2
namespace PySem.SeqAt
open AutoSeq1 (wpAny_loadPart')
open MeetsSeq MeetsSeq2 MeetsSeq3 SeqRoads2
theorem Zgj (l b:Addr) (items items2:Array Value) (n n2:Nat) (dd dd2:Option Addr) (sl sl2:Array (Option Value)) (k:Nat) :
  ∀ (i:Nat) (z:Nat->Bool×Bool),items.size-i=k->i<=items.size->i<=items2.size->Meets (Builtin.«list.__eq__.loop» ⟨[.ref l,.ref b,rawInt i,rawInt 0],[]⟩)
   (fun A R s=>s.heap.get? l=some { cls:=.type "list",dict:=dd,data:=.seq items n,slots:=sl }/\s.heap.get? b=some { cls:=.type "list",dict:=dd2,data:=.seq items2 n2,slots:=sl2 } /\
    (∀ j (h1:i+j<items.size) (h2:i+j<items2.size),EqAt A.in1 s items[i+j] items2[i+j] (z j).1/\L2.LtAt A.in1 s items[i+j] items2[i+j] (z j).2) /\
    R (.ok (.ret (.bool (L2.lexN z (items.size-i) (items2.size-i))))) s):=by
 induction k with
 | zero =>
  intro i z hk hi hi' prog w A R s h;obtain ⟨hp,g,d,tk,os⟩:=s; obtain ⟨hl,hb,he,h⟩:=h
  wp_walk using wpAny_loadPart' hl,wpAny_loadPart' hb
  have hi1:items[((i:Nat):Int).toNat]?=none:=by simp; lia
  rw [hi1]
  wp_walk using wpAny_loadPart' hl,wpAny_loadPart' hb
  show R (.ok (.ret (.bool (decide (items.size<items2.size))))) _;rw [show items.size-i=0 by lia,L2.lexN] at h;rw [show decide (items.size<items2.size)=decide (0<items2.size-i) from decide_eq_decide.mpr (by lia)];exact h
 | succ k ih =>
  intro i z hk hi hi' prog w A R s h;obtain ⟨hp,g,d,tk,os⟩:=s; obtain ⟨hl,hb,he,h⟩:=h
  wp_walk using wpAny_loadPart' hl,wpAny_loadPart' hb
  have hlt:i<items.size:=by lia
  have hi1:items[((i:Nat):Int).toNat]?=some items[i]:=by simp [hlt]
  have hc:((i:Int)+1)=((i+1:Nat):Int):=by push_cast; rfl
  by_cases hlt2:i<items2.size
  ·have hi2:items2[((i:Nat):Int).toNat]?=some items2[i]:=by simp [hlt2]
   rw [show items.size-i=(items.size-(i+1))+1 by lia,show items2.size-i=(items2.size-(i+1))+1 by lia,L2.lexN] at h;obtain ⟨h1,h2⟩:=he 0 hlt hlt2;rw [hi1,hi2];refine Fv (h1 prog w _ _ ?_);cases hb':(z 0).1 with
   | true =>
    rw [hb',F1 rfl] at h
    wp_walk
    rw [hc];exact ⟨plainId_quiet plain_eq_loop _,codeAny_builtin entry_eq_loop (by
     rw [Around.under_plainId plain_eq_loop _];exact ih (i+1) (fun j=>z (j+1)) (by lia) (by lia) (by lia) prog w A R _ ⟨hl,hb,fun j g1 g2=>by
      have:=he (j+1) (by lia) (by lia);simpa only [Fo 1 j,<- Fj,Nat.add_right_comm i 1 j] using this,h⟩)⟩
   | false =>
    rw [hb',F0 nofun] at h
    wp_walk using wpAny_loadPart' hl,wpAny_loadPart' hb
    rw [hi1,hi2];refine Fv (h2 prog w _ _ ?_)
    wp_walk
    exact h
  ·have hi2:items2[((i:Nat):Int).toNat]?=none:=by simp; lia
   rw [hi1,hi2]
   wp_walk using wpAny_loadPart' hl,wpAny_loadPart' hb
   show R (.ok (.ret (.bool (decide (items.size<items2.size))))) _;rw [show items.size-i=(items.size-(i+1))+1 by lia,show items2.size-i=0 by lia,L2.lexN] at h;rw [F3 (show ¬ items.size<items2.size by lia)];exact h
theorem list_ltAt (l b:Addr) (items items2:Array Value) (n n2:Nat) (dd dd2:Option Addr) (sl sl2:Array (Option Value)) (z:Nat->Bool×Bool) :
  Meets (Builtin.«list.__lt__» ⟨[.ref l,.ref b],[]⟩)
   (fun A R s=>s.heap.get? l=some { cls:=.type "list",dict:=dd,data:=.seq items n,slots:=sl }/\s.heap.get? b=some { cls:=.type "list",dict:=dd2,data:=.seq items2 n2,slots:=sl2 } /\
    (∀ j (h1:j<items.size) (h2:j<items2.size),EqAt A.in1 s items[j] items2[j] (z j).1/\L2.LtAt A.in1 s items[j] items2[j] (z j).2) /\
    R (.ok (.ret (.bool (L2.lexN z items.size items2.size)))) s):=by
 intro prog w A R s h;obtain ⟨hp,g,d,tk,os⟩:=s; obtain ⟨hl,hb,he,h⟩:=h;have f3:=AutoSeq1.sub_list_list
 wp_walk using wpAny_loadPart' hl,wpAny_loadPart' hb
 exact ⟨plainId_quiet plain_eq_loop _,codeAny_builtin entry_eq_loop (by
  rw [Around.under_plainId plain_eq_loop _];refine Zgj l b items items2 n n2 dd dd2 sl sl2 _ 0 z rfl (Jz _) (Jz _) prog w A R _ ⟨hl,hb,fun j h1 h2=>?_,h⟩;have:=he j (by lia) (by lia);simpa only [B2] using this)⟩
end PySem.SeqAt
namespace L2
open PySem PySem.W PyProof.Rows HT PySem.Calls
section
def LtAt.lst {items2:Array Value} {z:Nat->Bool×Bool} {b:Addr} (hl:s.heap.IsList l items) (hb:s.heap.IsList b items2) (hu:A.units<cLine)
  (hz:∀ (j:Nat) (h1:j<items.size) (h2:j<items2.size),SeqAt.EqAt A.in1 s items[j] items2[j] (z j).1/\LtAt A.in1 s items[j] items2[j] (z j).2):LtAt A s (.ref l) (.ref b) (lexN z items.size items2.size):=fun prog w E Q h=>by
 obtain ⟨⟨cls,dd,data,sl⟩,ho,hc,n,hd⟩:=id hl;obtain ⟨⟨cls2,dd2,data2,sl2⟩,ho2,hc2,n2,hd2⟩:=id hb;simp only at hc hd hc2 hd2;subst hc hd hc2 hd2;exact richCompare_meets_room (op:=.Lt) ⟨_,ho,rfl⟩ ⟨_,ho2,rfl⟩ F.slot_list_lt F.entry_list_lt (F.args_list_lt_2 _ _) (SeqAt.list_ltAt l b items items2 n n2 dd dd2 sl sl2 z)
  ⟨ho,ho2,hz,show Value.bool (lexN z items.size items2.size)≠Value.notImplemented/\Q (.bool (lexN z items.size items2.size)) s from ⟨(fun x=>nomatch x),h⟩⟩ hu
end
def Xz (lt:Nat->Nat->Bool):Nat->Nat
 | 0=>0
 | n+1=>if lt (n+1) (Xz lt n) then n+1 else Xz lt n
section
def LtsV (X:Cx) (H:Hp) (x y:V) (b:Bool):Prop:=∀ (pq:List (Addr×Obj)) (σ:St) (s:Shared) (A:Around) (u v:Value),Inv X pq σ H s->A.units+190<cLine->RelV x u->RelV y v->LtAt A s u v b
theorem Ui {p B:Addr} {lt:Nat->Nat->Bool} {R:Result->Shared->Prop} (hA:A.handled=none) (hu:A.units+195<cLine) (hBi:it≠B) (fit:FpOk X pq H it) (fB:FpOk X pq H B)
  (hlt:∀ (i j:Nat) (h1:i<vs.length) (h2:j<vs.length),LtsV X H vs[i] vs[j] (lt i j)) :
  ∀ (k:Nat) (i:Nat) (cv:Option Value) (s:Shared) (c:Nat),vs.length=i+k->0<vs.length->Inv X pq σ H s->Ti X.K H s.heap p it vs i->s.heap.get? B=some (lst0 (Xh cv) c) ->
   (match cv with | none=>i=0 | some v=>0<i/\∃ h:Xz lt (i-1)<vs.length,RelV vs[Xz lt (i-1)] v) ->
   (∀ s' u,Inv X pq σ H s'->(∀ h:Xz lt (vs.length-1)<vs.length,RelV vs[Xz lt (vs.length-1)] u)->R (.ok (.ret u)) s') ->
   codeAny (model X.prog X.w) A (.builtin "min.loop" ⟨[.ref it,.none,.ref B],[]⟩) R s
 | 0,i,cv,s,c,hk,hn,I,src,hB,hc,h=>by
  have hname:(toString "min"++toString ".loop":String)="min.loop":=by decide
  refine codeAny_builtin PySem.F.entry_min_loop ?_;rw [Around.under_plainId PySem.F.plain_min_loop _];show wpAny _ A.in1 (seqItems? (.ref B) >>= _) _ _ s;refine Fv (wpAny_seqItems hB rfl ?_);show wpAny _ A.in1 (tryCatch (pyNext (.ref it)) _ >>= _) _ _ s;refine Fv (wpAny_tryCatch (F7 (Zad (Q:=fun r s'=>r=none/\Inv X pq σ H s'/\s'.heap.get? B=some (lst0 (Xh cv) c)) (I.pin1 fB hB (by intro v; simp)) (fit.snoc hBi.symm) hA src (by lia) fun s' I'=>⟨rfl,I'.unpinned,(I'.pin (B,lst0 (Xh cv) c) (by simp)).1⟩) (fun r s' hz=>?_) fun _ _ z=>z));obtain ⟨er,I',hB'⟩:=hz;subst er;cases cv with
  | none=>exact Fs (show i=0 from hc) (by lia)
  | some v =>
   show wpAny _ A.in1 (updateSeq B (fun _=>#[]) >>= _) _ _ _;refine Fv (wpAny_updateSeq hB' rfl (Fv (F8 (Fw ?_))) (U3 _));obtain ⟨h0,h1,h2⟩:=hc;refine h _ v (I'.turn1 fB (Heap.SameBut.update _ _ _)) fun hm=>?_;have e:i=vs.length:=by lia
   subst e;exact h2
 | k+1,i,cv,s,c,hk,hn,I,src,hB,hc,h=>by
  have hname:(toString "min"++toString ".loop":String)="min.loop":=by decide
  have hil:i<vs.length:=by lia
  refine codeAny_builtin PySem.F.entry_min_loop ?_;rw [Around.under_plainId PySem.F.plain_min_loop _];show wpAny _ A.in1 (seqItems? (.ref B) >>= _) _ _ s;refine Fv (wpAny_seqItems hB rfl ?_);show wpAny _ A.in1 (tryCatch (pyNext (.ref it)) _ >>= _) _ _ s;refine Fv (wpAny_tryCatch (F7 (Qa (x:=vs[i]) (Q:=fun r s'=>∃ u,r=some u/\RelV vs[i] u/\Inv X pq σ H s'/\s'.heap.get? B=some (lst0 (Xh cv) c)/\Ti X.K H s'.heap p it vs (i+1)) (I.pin1 fB hB (by intro v; simp)) (fit.snoc hBi.symm) src (Jb hil)
   fun u s' ru I' src'=>⟨u,rfl,ru,I'.unpinned,(I'.pin (B,lst0 (Xh cv) c) (by simp)).1,src'⟩) (fun r s' ⟨u,er,ru,I',hB',src'⟩=>?_) fun _ _ z=>z))
  subst er;have st:=fun (f:Obj->Obj)=>Heap.SameBut.update s'.heap B f;cases cv with
  | none =>
   have e0:i=0:=hc;subst e0;show wpAny _ A.in1 (updateSeq B (fun _=>#[u,u]) >>= _) _ _ _;refine Fv (wpAny_updateSeq hB' rfl ?_ (U3 _));rw [hname];exact Fw ⟨plainId_quiet PySem.F.plain_min_loop _,Ui hA hu hBi fit fB hlt k 1 (some u) _ _ (by lia) hn (I'.turn1 fB (st _)) (src'.at (fun ob e=>((st _).2 it hBi).trans e) id id) (Heap.get?_update_self _ hB' rfl) ⟨Nat.one_pos,hil,ru⟩ h⟩
  | some v =>
   obtain ⟨h0,h1,rv⟩:=hc;obtain ⟨j,rfl⟩:∃ j,i=j+1:=⟨i-1,by lia⟩;have lts:=hlt (j+1) (Xz lt j) hil h1 pq σ s' A.in1 u v I' (by show A.units+1+190<cLine; lia) ru rv;have em:Xz lt (j+1)=if lt (j+1) (Xz lt j) then j+1 else Xz lt j:=rfl;show wpAny _ A.in1 (tryCatch (holding [u,u] (richCompare .Lt u v >>= _)) _ >>= _) _ _ _;refine Fv (wpAny_tryCatch (wpAny_holding (Fv (show wpAny (model X.prog X.w) A.in1 (compareOp .Lt u v) _ _ _ from lts _ _ _ _ ?_))));refine Fv (wpAny_holding (wpAny_truthy_bool ?_));refine Fv (F8 (Fw ?_));cases hb:lt (j+1) (Xz lt j) with
   | true =>
    rw [hb,F1 rfl] at em;simp only [if_true];refine Fv (wpAny_updateSeq hB' rfl (Fv (F8 ?_)) (U3 _));rw [hname];exact Fw ⟨plainId_quiet PySem.F.plain_min_loop _,Ui hA hu hBi fit fB hlt k (j+1+1) (some u) _ _ (by lia) hn (I'.turn1 fB (st _)) (src'.at (fun ob e=>((st _).2 it hBi).trans e) id id) (Heap.get?_update_self _ hB' rfl) ⟨Fh _,by simp only [G7,em]; exact hil,by simp only [G7,em]; exact ru⟩ h⟩
   | false =>
    rw [hb,F0 nofun] at em;simp only [Gc,if_false];refine Fv (F8 ?_);rw [hname];exact Fw ⟨plainId_quiet PySem.F.plain_min_loop _,Ui hA hu hBi fit fB hlt k (j+1+1) (some v) _ _ (by lia) hn I' src' hB' ⟨Fh _,by simp only [G7,em]; exact h1,by simp only [G7,em]; exact rv⟩ h⟩
end
section
theorem Pe {k:Nat} (hr:Room k A):A.units+200<cLine:=by have:=hr.un; lia
theorem P4:∀ (ns ms:List Int),lexN (fun j=>(ns[j]? == ms[j]?,decide ((ns[j]?).getD 0<(ms[j]?).getD 0))) ns.length ms.length=HT.lexLt ns ms
 | [],[]=>rfl
 | [],_::_=>rfl
 | _::_,[]=>rfl
 | n::ns,m::ms=>by
  have ih:=P4 ns ms;rw [Jq,Jq,lexN,HT.lexLt_cons];simp only [List.getElem?_cons_zero,List.getElem?_cons_succ,Option.getD_some];rw [ih]
  by_cases e:n=m
  ·rw [F1 e,F1 (by rw [e]; exact beq_self_eq_true _)]
  ·rw [F0 e,F0 (by simp [e])]
theorem Vc (h:IntsAre us ns):us.length=ns.length/\∀ (j:Nat) (hj:j<us.length),∃ t,us[j]=.int ((ns[j]?).getD 0) t:=by
 induction h with
 | nil=>exact ⟨rfl,fun j hj=>Fs hj (Gr _)⟩
 | cons n t h ih =>
  exists by rw [Jq,Jq,ih.1],fun j hj=>?_;cases j with
  | zero=>exact ⟨t,rfl⟩
  | succ j=>exact ih.2 j (Nat.lt_of_succ_lt_succ hj)
theorem Zgu {vs:List Value} (h1:IntsAre us ns) (h2:IntsAre vs ms) (j:Nat) (g1:j<us.length) (g2:j<vs.length):SeqAt.EqAt A s us[j] vs[j] (ns[j]? == ms[j]?)/\LtAt A s us[j] vs[j] (decide ((ns[j]?).getD 0<(ms[j]?).getD 0)):=by
 obtain ⟨l1,a1⟩:=Vc h1;obtain ⟨l2,a2⟩:=Vc h2;obtain ⟨t,e1⟩:=a1 j g1;obtain ⟨u,e2⟩:=a2 j g2;rw [e1,e2];exists ?_,.int _ _ _ _;have:=SeqAt.EqAt.int_int (A:=A) (s:=s) ((ns[j]?).getD 0) t ((ms[j]?).getD 0) u;rw [Jb (by lia),Jb (by lia)] at this ⊢;exact this
end
def GtAt (A:Around) (s:Shared) (u v:Value) (b:Bool):Prop:=∀ (prog:Program) (w:World) (E:Value->Shared->Prop) (Q:Value->Shared->Prop),Q (.bool b) s->wpAny (model prog w) A (compareOp .Gt u v) Q E s
def lexG:(Nat->Bool×Bool)->Nat->Nat->Bool
 | _,0,_=>false
 | _,_+1,0=>true
 | z,m+1,n+1=>if (z 0).1 then lexG (fun j=>z (j+1)) m n else (z 0).2
def GtAt.int (i j:Int) (t u:Tok):GtAt A s (.int i t) (.int j u) (decide (i > j)):=fun prog w E Q h=>PyProof.Rows.gt_int h
end L2
namespace PySem.SeqAt
open AutoSeq1 (wpAny_loadPart')
open MeetsSeq MeetsSeq2 MeetsSeq3 SeqRoads2
theorem Zg4 (l b:Addr) (items items2:Array Value) (n n2:Nat) (dd dd2:Option Addr) (sl sl2:Array (Option Value)) (k:Nat) :
  ∀ (i:Nat) (z:Nat->Bool×Bool),items.size-i=k->i<=items.size->i<=items2.size->Meets (Builtin.«list.__eq__.loop» ⟨[.ref l,.ref b,rawInt i,rawInt 4],[]⟩)
   (fun A R s=>s.heap.get? l=some { cls:=.type "list",dict:=dd,data:=.seq items n,slots:=sl }/\s.heap.get? b=some { cls:=.type "list",dict:=dd2,data:=.seq items2 n2,slots:=sl2 } /\
    (∀ j (h1:i+j<items.size) (h2:i+j<items2.size),EqAt A.in1 s items[i+j] items2[i+j] (z j).1/\L2.GtAt A.in1 s items[i+j] items2[i+j] (z j).2) /\
    R (.ok (.ret (.bool (L2.lexG z (items.size-i) (items2.size-i))))) s):=by
 induction k with
 | zero =>
  intro i z hk hi hi' prog w A R s h;obtain ⟨hp,g,d,tk,os⟩:=s; obtain ⟨hl,hb,he,h⟩:=h
  wp_walk using wpAny_loadPart' hl,wpAny_loadPart' hb
  have hi1:items[((i:Nat):Int).toNat]?=none:=by simp; lia
  rw [hi1]
  wp_walk using wpAny_loadPart' hl,wpAny_loadPart' hb
  show R (.ok (.ret (.bool (decide (items.size > items2.size))))) _;rw [show items.size-i=0 by lia,L2.lexG] at h;rw [F3 (show ¬ items.size > items2.size by lia)];exact h
 | succ k ih =>
  intro i z hk hi hi' prog w A R s h;obtain ⟨hp,g,d,tk,os⟩:=s; obtain ⟨hl,hb,he,h⟩:=h
  wp_walk using wpAny_loadPart' hl,wpAny_loadPart' hb
  have hlt:i<items.size:=by lia
  have hi1:items[((i:Nat):Int).toNat]?=some items[i]:=by simp [hlt]
  have hc:((i:Int)+1)=((i+1:Nat):Int):=by push_cast; rfl
  by_cases hlt2:i<items2.size
  ·have hi2:items2[((i:Nat):Int).toNat]?=some items2[i]:=by simp [hlt2]
   rw [show items.size-i=(items.size-(i+1))+1 by lia,show items2.size-i=(items2.size-(i+1))+1 by lia,L2.lexG] at h;obtain ⟨h1,h2⟩:=he 0 hlt hlt2;rw [hi1,hi2];refine Fv (h1 prog w _ _ ?_);cases hb':(z 0).1 with
   | true =>
    rw [hb',F1 rfl] at h
    wp_walk
    rw [hc];exact ⟨plainId_quiet plain_eq_loop _,codeAny_builtin entry_eq_loop (by
     rw [Around.under_plainId plain_eq_loop _];exact ih (i+1) (fun j=>z (j+1)) (by lia) (by lia) (by lia) prog w A R _ ⟨hl,hb,fun j g1 g2=>by
      have:=he (j+1) (by lia) (by lia);simpa only [Fo 1 j,<- Fj,Nat.add_right_comm i 1 j] using this,h⟩)⟩
   | false =>
    rw [hb',F0 nofun] at h
    wp_walk using wpAny_loadPart' hl,wpAny_loadPart' hb
    rw [hi1,hi2];refine Fv (h2 prog w _ _ ?_)
    wp_walk
    exact h
  ·have hi2:items2[((i:Nat):Int).toNat]?=none:=by simp; lia
   rw [hi1,hi2]
   wp_walk using wpAny_loadPart' hl,wpAny_loadPart' hb
   show R (.ok (.ret (.bool (decide (items.size > items2.size))))) _;rw [show items.size-i=(items.size-(i+1))+1 by lia,show items2.size-i=0 by lia,L2.lexG] at h;rw [F2 (show items.size > items2.size by lia)];exact h
theorem list_gtAt (l b:Addr) (items items2:Array Value) (n n2:Nat) (dd dd2:Option Addr) (sl sl2:Array (Option Value)) (z:Nat->Bool×Bool) :
  Meets (Builtin.«list.__gt__» ⟨[.ref l,.ref b],[]⟩)
   (fun A R s=>s.heap.get? l=some { cls:=.type "list",dict:=dd,data:=.seq items n,slots:=sl }/\s.heap.get? b=some { cls:=.type "list",dict:=dd2,data:=.seq items2 n2,slots:=sl2 } /\
    (∀ j (h1:j<items.size) (h2:j<items2.size),EqAt A.in1 s items[j] items2[j] (z j).1/\L2.GtAt A.in1 s items[j] items2[j] (z j).2) /\
    R (.ok (.ret (.bool (L2.lexG z items.size items2.size)))) s):=by
 intro prog w A R s h;obtain ⟨hp,g,d,tk,os⟩:=s; obtain ⟨hl,hb,he,h⟩:=h;have f3:=AutoSeq1.sub_list_list
 wp_walk using wpAny_loadPart' hl,wpAny_loadPart' hb
 exact ⟨plainId_quiet plain_eq_loop _,codeAny_builtin entry_eq_loop (by
  rw [Around.under_plainId plain_eq_loop _];refine Zg4 l b items items2 n n2 dd dd2 sl sl2 _ 0 z rfl (Jz _) (Jz _) prog w A R _ ⟨hl,hb,fun j h1 h2=>?_,h⟩;have:=he j (by lia) (by lia);simpa only [B2] using this)⟩
end PySem.SeqAt
namespace L2
open PySem PySem.W PyProof.Rows HT PySem.Calls
section
def GtAt.lst {items2:Array Value} {z:Nat->Bool×Bool} {b:Addr} (hl:s.heap.IsList l items) (hb:s.heap.IsList b items2) (hu:A.units<cLine)
  (hz:∀ (j:Nat) (h1:j<items.size) (h2:j<items2.size),SeqAt.EqAt A.in1 s items[j] items2[j] (z j).1/\GtAt A.in1 s items[j] items2[j] (z j).2):GtAt A s (.ref l) (.ref b) (lexG z items.size items2.size):=fun prog w E Q h=>by
 obtain ⟨⟨cls,dd,data,sl⟩,ho,hc,n,hd⟩:=id hl;obtain ⟨⟨cls2,dd2,data2,sl2⟩,ho2,hc2,n2,hd2⟩:=id hb;simp only at hc hd hc2 hd2;subst hc hd hc2 hd2;exact richCompare_meets_room (op:=.Gt) ⟨_,ho,rfl⟩ ⟨_,ho2,rfl⟩ F.slot_list_gt F.entry_list_gt (F.args_list_gt_2 _ _) (SeqAt.list_gtAt l b items items2 n n2 dd dd2 sl sl2 z)
  ⟨ho,ho2,hz,show Value.bool (lexG z items.size items2.size)≠Value.notImplemented/\Q (.bool (lexG z items.size items2.size)) s from ⟨(fun x=>nomatch x),h⟩⟩ hu
end
section
def GtsV (X:Cx) (H:Hp) (x y:V) (b:Bool):Prop:=∀ (pq:List (Addr×Obj)) (σ:St) (s:Shared) (A:Around) (u v:Value),Inv X pq σ H s->A.units+190<cLine->RelV x u->RelV y v->GtAt A s u v b
theorem Uj {p B:Addr} {lt:Nat->Nat->Bool} {R:Result->Shared->Prop} (hA:A.handled=none) (hu:A.units+195<cLine) (hBi:it≠B) (fit:FpOk X pq H it) (fB:FpOk X pq H B)
  (hlt:∀ (i j:Nat) (h1:i<vs.length) (h2:j<vs.length),GtsV X H vs[i] vs[j] (lt i j)) :
  ∀ (k:Nat) (i:Nat) (cv:Option Value) (s:Shared) (c:Nat),vs.length=i+k->0<vs.length->Inv X pq σ H s->Ti X.K H s.heap p it vs i->s.heap.get? B=some (lst0 (Xh cv) c) ->
   (match cv with | none=>i=0 | some v=>0<i/\∃ h:Xz lt (i-1)<vs.length,RelV vs[Xz lt (i-1)] v) ->
   (∀ s' u,Inv X pq σ H s'->(∀ h:Xz lt (vs.length-1)<vs.length,RelV vs[Xz lt (vs.length-1)] u)->R (.ok (.ret u)) s') ->
   codeAny (model X.prog X.w) A (.builtin "max.loop" ⟨[.ref it,.none,.ref B],[]⟩) R s
 | 0,i,cv,s,c,hk,hn,I,src,hB,hc,h=>by
  have hname:(toString "max"++toString ".loop":String)="max.loop":=by decide
  refine codeAny_builtin PySem.F.entry_max_loop ?_;rw [Around.under_plainId PySem.F.plain_max_loop _];show wpAny _ A.in1 (seqItems? (.ref B) >>= _) _ _ s;refine Fv (wpAny_seqItems hB rfl ?_);show wpAny _ A.in1 (tryCatch (pyNext (.ref it)) _ >>= _) _ _ s;refine Fv (wpAny_tryCatch (F7 (Zad (Q:=fun r s'=>r=none/\Inv X pq σ H s'/\s'.heap.get? B=some (lst0 (Xh cv) c)) (I.pin1 fB hB (by intro v; simp)) (fit.snoc hBi.symm) hA src (by lia) fun s' I'=>⟨rfl,I'.unpinned,(I'.pin (B,lst0 (Xh cv) c) (by simp)).1⟩) (fun r s' hz=>?_) fun _ _ z=>z));obtain ⟨er,I',hB'⟩:=hz;subst er;cases cv with
  | none=>exact Fs (show i=0 from hc) (by lia)
  | some v =>
   show wpAny _ A.in1 (updateSeq B (fun _=>#[]) >>= _) _ _ _;refine Fv (wpAny_updateSeq hB' rfl (Fv (F8 (Fw ?_))) (U3 _));obtain ⟨h0,h1,h2⟩:=hc;refine h _ v (I'.turn1 fB (Heap.SameBut.update _ _ _)) fun hm=>?_;have e:i=vs.length:=by lia
   subst e;exact h2
 | k+1,i,cv,s,c,hk,hn,I,src,hB,hc,h=>by
  have hname:(toString "max"++toString ".loop":String)="max.loop":=by decide
  have hil:i<vs.length:=by lia
  refine codeAny_builtin PySem.F.entry_max_loop ?_;rw [Around.under_plainId PySem.F.plain_max_loop _];show wpAny _ A.in1 (seqItems? (.ref B) >>= _) _ _ s;refine Fv (wpAny_seqItems hB rfl ?_);show wpAny _ A.in1 (tryCatch (pyNext (.ref it)) _ >>= _) _ _ s;refine Fv (wpAny_tryCatch (F7 (Qa (x:=vs[i]) (Q:=fun r s'=>∃ u,r=some u/\RelV vs[i] u/\Inv X pq σ H s'/\s'.heap.get? B=some (lst0 (Xh cv) c)/\Ti X.K H s'.heap p it vs (i+1)) (I.pin1 fB hB (by intro v; simp)) (fit.snoc hBi.symm) src (Jb hil)
   fun u s' ru I' src'=>⟨u,rfl,ru,I'.unpinned,(I'.pin (B,lst0 (Xh cv) c) (by simp)).1,src'⟩) (fun r s' ⟨u,er,ru,I',hB',src'⟩=>?_) fun _ _ z=>z))
  subst er;have st:=fun (f:Obj->Obj)=>Heap.SameBut.update s'.heap B f;cases cv with
  | none =>
   have e0:i=0:=hc;subst e0;show wpAny _ A.in1 (updateSeq B (fun _=>#[u,u]) >>= _) _ _ _;refine Fv (wpAny_updateSeq hB' rfl ?_ (U3 _));rw [hname];exact Fw ⟨plainId_quiet PySem.F.plain_max_loop _,Uj hA hu hBi fit fB hlt k 1 (some u) _ _ (by lia) hn (I'.turn1 fB (st _)) (src'.at (fun ob e=>((st _).2 it hBi).trans e) id id) (Heap.get?_update_self _ hB' rfl) ⟨Nat.one_pos,hil,ru⟩ h⟩
  | some v =>
   obtain ⟨h0,h1,rv⟩:=hc;obtain ⟨j,rfl⟩:∃ j,i=j+1:=⟨i-1,by lia⟩;have lts:=hlt (j+1) (Xz lt j) hil h1 pq σ s' A.in1 u v I' (by show A.units+1+190<cLine; lia) ru rv;have em:Xz lt (j+1)=if lt (j+1) (Xz lt j) then j+1 else Xz lt j:=rfl;show wpAny _ A.in1 (tryCatch (holding [u,u] (richCompare .Gt u v >>= _)) _ >>= _) _ _ _;refine Fv (wpAny_tryCatch (wpAny_holding (Fv (show wpAny (model X.prog X.w) A.in1 (compareOp .Gt u v) _ _ _ from lts _ _ _ _ ?_))));refine Fv (wpAny_holding (wpAny_truthy_bool ?_));refine Fv (F8 (Fw ?_));cases hb:lt (j+1) (Xz lt j) with
   | true =>
    rw [hb,F1 rfl] at em;simp only [if_true];refine Fv (wpAny_updateSeq hB' rfl (Fv (F8 ?_)) (U3 _));rw [hname];exact Fw ⟨plainId_quiet PySem.F.plain_max_loop _,Uj hA hu hBi fit fB hlt k (j+1+1) (some u) _ _ (by lia) hn (I'.turn1 fB (st _)) (src'.at (fun ob e=>((st _).2 it hBi).trans e) id id) (Heap.get?_update_self _ hB' rfl) ⟨Fh _,by simp only [G7,em]; exact hil,by simp only [G7,em]; exact ru⟩ h⟩
   | false =>
    rw [hb,F0 nofun] at em;simp only [Gc,if_false];refine Fv (F8 ?_);rw [hname];exact Fw ⟨plainId_quiet PySem.F.plain_max_loop _,Uj hA hu hBi fit fB hlt k (j+1+1) (some v) _ _ (by lia) hn I' src' hB' ⟨Fh _,by simp only [G7,em]; exact h1,by simp only [G7,em]; exact rv⟩ h⟩
end
end L2
namespace L2
open PySem PySem.Spec PyProof.Rows
def Nz (Ps:List Addr) (H:Hp):Prop:=(∀ P∈Ps,H P=some (.tbl #[]))/\∀ b,b∉Ps->H b=none\/∃ o xs,H b=some (.frz o (.lst xs))
def Nz.tab {P:Addr} {Ps:List Addr} (o:Nz Ps H) (hp:P∈Ps) (pos:Pos) (q:Str):Wb P pos q H:=⟨#[],o.1 P hp,trivial,.inl rfl⟩
theorem Zdt {mb:Str->Option Value} {k:Nat} {fa a:Addr} {Ps:List Addr} {x:Str} {s₁:Shared} {vs:List Value} 
  (KX:K.In s₁.heap) (hns:s₁.heap.Ns mainGlobals mg) (hb:s₁.heap.Ns builtinsNs mb) (hbb:∀ x:Str,x≠"__name__"->mb x=bootBuiltins x) (hlim:s₁.heap.NoLimit) (hbm:Bm mg s₁.heap) (hg:s₁.gens=#[])
  (ha:s₁.heap.get? a=some { cls:=.type "list",data:=.seq vs.toArray }) (hi:IntsAre vs ns) (hl:ns.length<=sizeLine) (hr:Room k callerA)
  (hP:∀ P∈Ps,s₁.heap.get? P=some (W.tabObj #[])) (hPK:∀ P∈Ps,K.lookup P=none) (hC:∀ P∈Ps,∃ c,W.CodeHd s₁.heap c P)
  (F:∀ base:Heap,K.In base->base.Ns mainGlobals mg->Bm mg base->FnOk P w K mg base CX k fa fd [x] sp) (hbind:∀ (s:Shared) (u:Value),BindsTo s fd ⟨[u],[]⟩ [(x,u)])
  (hsp:∀ H:Hp,Nz Ps H->SqL K H a (ns.map V.int)->sp [.ref a] H (fun v _=>v=.bl true) fun _ _ _=>False)
  (hCX:∀ H e s',CX [] H s₁ (fun _ _ _=>False) e s'->False) :
  codeAny (model P w) callerA (.call (.ref fa) ⟨[.ref a],[]⟩) (fun r s'=>r=.ok (.ret (.bool true))/\OldK s₁.heap s'.heap/\s'.os=s₁.os/\AllBare s'.gens) s₁:=by
 have rv:=Pc hi;have lenV:=hi.length;have aP:a∉Ps:=fun z=>by rw [hP a z] at ha; cases ha
 have core:∀ H:Hp,Nz Ps H->SqL K H a (ns.map V.int)->HOk P w H s₁.heap->(∀ b,H b≠none->b=a\/b∈Ps)->(∀ b,H b≠none->K.lookup b=none) ->
   codeAny (model P w) callerA (.call (.ref fa) ⟨[.ref a],[]⟩) (fun r s'=>r=.ok (.ret (.bool true))/\OldK s₁.heap s'.heap/\s'.os=s₁.os/\AllBare s'.gens) s₁:=by
  intro H hO hS hok hA hK;have base_of:∀ {b:Addr} {o:Obj},s₁.heap.get? b=some o->H b=none->(hidT s₁.heap H).get? b=some o:=fun e n=>Zjh e n;have noA:∀ {b:Addr} {o:Obj},s₁.heap.get? b=some o->(∀ its n,o.data≠.seq its n)->(∀ ps,o.data≠.fields ps)->H b=none:=fun {b o} e d d2=>by
   cases q:H b with
   | none=>rfl
   | some u =>
    rcases hA b (by rw [q]; simp) with e' | e'
    ·subst e';rw [ha] at e; cases e;exact Fs rfl (d _ _)
    ·rw [hP b e'] at e; cases e;exact Fs rfl (d2 _)
  have nsK:∀ {b:Addr} {m:Str->Option Value},s₁.heap.Ns b m->(hidT s₁.heap H).Ns b m:=fun {b m} ⟨o,es,ep,e,d,r⟩=>⟨o,es,ep,base_of e (noA e (by rw [d]; intro _ _ z; cases z) (by rw [d]; intro _ z; cases z)),d,r⟩;have hKb:K.In (hidT s₁.heap H):=fun b o e=>base_of (KX b o e) (by
   cases q:H b with
   | none=>rfl
   | some u=>rw [hK b (by rw [q]; simp)] at e; cases e)
  have hBm:Bm mg (hidT s₁.heap H):=by
   obtain ⟨bm,ob,b1,b2,b3,b4,b5,b6⟩:=hbm;exists bm,ob,b1,b2,base_of b3 (noA b3 (by rw [b6]; intro _ _ z; cases z) (by rw [b6]; intro _ z; cases z)),b4,b5,b6
  have hM:Mod K mg (hidT s₁.heap H):=⟨hKb,nsK hns,⟨mb,nsK hb,hbb⟩,let ⟨mc,h1,h2⟩:=hlim; ⟨mc,nsK h1,h2⟩⟩;have e0:Env0 P w K mg (hidT s₁.heap H) callerA [] s₁ H:=⟨rfl,hM,fun b o e=>Zm4 e,G9 (Zgz _ _),trivial,fun b hb=>Fs (show b∈([]:List Addr) from hb) (by simp),hok,.of_eq hg⟩;refine codeAny_mono ((F _ hKb (nsK hns) hBm).run callerA [] s₁ H ⟨[.ref a],[]⟩ [.ref a] [.ref a] _ _ hr e0 (hbind s₁ (.ref a)) (.cons rfl .nil) (hsp H hO hS)) fun r s' h=>?_;cases r with
  | error e=>exact (hCX H e s' h).elim
  | ok fl =>
   cases fl with
   | next=>exact False.elim h
   | brk=>exact False.elim h
   | cont=>exact False.elim h
   | ret u =>
    obtain ⟨v,H',os,bare,un,hok',r',q⟩:=h;have q':v=.bl true:=q;subst q';obtain rfl:u=Value.bool true:=r';have kp:∀ b o,b∉Ps->s₁.heap.get? b=some o->s'.heap.get? b=some o:=fun b o nP e=>by
     cases q:H b with
     | none=>exact un.keep b o e q (by intro z; exact Fs (show b∈([]:List Addr) from z) (by simp)) (by simp)
     | some u =>
      rcases hO.2 b nP with z | ⟨ob,xs,z⟩
      ·rw [q] at z; cases z
      ·have z2:=un.frzs b ob _ z;obtain ⟨e1,_⟩:=hok b _ z;obtain ⟨e2,_⟩:=hok' b _ z2;rw [e] at e1; cases e1;exact e2
    have tb:∀ P∈Ps,∃ more,s'.heap.get? P=some { cls:=.none,data:=.fields (#[]++more) }:=fun P hp=>by
     obtain ⟨more,hm⟩:=un.tbls P #[] (hO.1 P hp);exists more,hok' P _ hm
    exists rfl,⟨fun b o e=>?_,fun b o e=>?_⟩,os,bare
    ·by_cases hbP:b∈Ps
     ·obtain ⟨more,hPt⟩:=tb b hbP;have hP':=hP b hbP;obtain ⟨c,hC'⟩:=hC b hbP;rw [hP'] at e;cases e;exact .inr (.inl ⟨(hC'.tab hP').isCodeTable,rfl,#[],more,rfl,hPt⟩)
     ·exact .inl (kp b o hbP e)
    ·by_cases hbP:b∈Ps
     ·exists _,(tb b hbP).choose_spec
     ·exists o,kp b o hbP e
 have okP:∀ (H:Hp) (b:Addr),b∈Ps->Y9 P w H s₁.heap b (.tbl #[]):=fun H b hb=>hP b hb;cases hk:K.lookup a with
 | some o =>
  have e:=KX a o hk;rw [ha] at e;cases e;refine core (fun b=>if b∈Ps then some (.tbl #[]) else none) ⟨fun b hb=>F1 hb,fun b hb=>.inl (F0 hb)⟩ (.inr ⟨_,vs.toArray,_,hk,rfl,rfl,rfl,by rw [Jn,lenV]; exact hl,by simpa using rv⟩) (fun b u z=>?_) (fun b z=>?_) fun b z=>?_
  ·by_cases hb:b∈Ps
   ·have z':=(F1 hb).symm.trans z;cases z';exact okP _ b hb
   ·have z':=(F0 hb).symm.trans z;cases z'
  ·by_cases hb:b∈Ps
   ·exact .inr hb
   ·exact Fs (F0 hb) z
  ·by_cases hb:b∈Ps
   ·exact hPK b hb
   ·exact Fs (F0 hb) z
 | none =>
  refine core (fun b=>if b∈Ps then some (.tbl #[]) else if b=a then some (.frz { cls:=.type "list",data:=.seq vs.toArray } (.lst (ns.map V.int))) else none) ⟨fun b hb=>F1 hb,fun b hb=>?_⟩
   (.inl (.inr ⟨{ cls:=.type "list",data:=.seq vs.toArray },(F0 aP).trans (F1 rfl)⟩)) (fun b u z=>?_) (fun b z=>?_) fun b z=>?_
  ·by_cases hba:b=a
   ·exact .inr ⟨_,_,(F0 hb).trans (F1 hba)⟩
   ·exact .inl ((F0 hb).trans (F0 hba))
  ·by_cases hb:b∈Ps
   ·have z':=(F1 hb).symm.trans z;cases z';exact okP _ b hb
   ·have z1:=(F0 hb).symm.trans z
    by_cases hba:b=a
    ·have z':=(F1 hba).symm.trans z1;cases z';subst hba;exists ha,by rw [Ja]; exact hl,vs,_,rv,ha
    ·have z':=(F0 hba).symm.trans z1;cases z'
  ·by_cases hb:b∈Ps
   ·exact .inr hb
   ·by_cases hba:b=a
    ·exact .inl hba
    ·exact Fs ((F0 hb).trans (F0 hba)) z
  ·by_cases hb:b∈Ps
   ·exact hPK b hb
   ·by_cases hba:b=a
    ·rw [hba]; exact hk
    ·exact Fs ((F0 hb).trans (F0 hba)) z
def Zd9 {l:W.OpenLaw} {n k:Nat} {q:Program} {loose:List Str} {XP:(Str->Option Value)->Heap->Prop} {YP:World->Heap->Prop} {d:DefRec} {K:Params->W.Frag} {CX:World->CXT} {sp:World->Sp} {x:Str} {Ps:List Addr}
  (hn:l.most=some n) (hn2:n<=sizeLine) (hdf:d.params.defaults=[]) (hr:Room k callerA)
  (hY:∀ (w:World) (h:Heap),YP w h->(K w.params).In h) (hYt:∀ (w:World) (h:Heap),YP w h->∀ P∈Ps,h.get? P=some (W.tabObj #[]))
  (hPK:∀ w:World,∀ P∈Ps,(K w.params).lookup P=none)
  (F:∀ (w:World) (mg:Str->Option Value) (fa:Addr) (h:Heap),(K w.params).In h->h.Ns mainGlobals mg->mg d.name=some (.ref fa) ->
   ∃ fd:FuncData,(∀ P∈Ps,∃ c,W.codeHdIn (K w.params) c P=true)/\(∀ (s:Shared) (u:Value),BindsTo s fd ⟨[u],[]⟩ [(x,u)]) /\
    ∀ base:Heap,(K w.params).In base->base.Ns mainGlobals mg->Bm mg base->FnOk l.prog w (K w.params) mg base (CX w) k fa fd [x] (sp w))
  (hsp:∀ (w:World) (H:Hp) (a:Addr) (ns:List Int),ns.length<=n->Nz Ps H->SqL (K w.params) H a (ns.map V.int)->sp w [.ref a] H (fun v _=>v=.bl true) fun _ _ _=>False)
  (hCX:∀ (w:World) (H:Hp) (s:Shared) (e:Value) (s':Shared),CX w [] H s (fun _ _ _=>False) e s'->False) :
  W.WalkO q loose XP YP l.row.toRowW d [] (fun f vs=>PySem.call f vs):=by
 refine Att.attach_call hn hdf fun w s₀ s₁ mg mb fa o pm cd doc a vs ns G Y ho hd hcd hmg hobj hints hlen hg=>?_;have KX:=hY w _ Y;obtain ⟨fd,hC,hb,hF⟩:=F w mg fa _ KX G.T.g hmg;exact Zdt KX G.T.g G.T.b G.T.builtins G.T.nolimit G.T.bmain hg hobj hints (J8 hlen hn2) hr (hYt w _ Y) (hPK w) (fun P hp=>let ⟨c,h⟩:=hC P hp; ⟨c,W.codeHd_of_K KX h⟩) hF hb (fun H hO hS=>hsp w H a ns hlen hO hS) fun H e s'=>hCX w H s₁ e s'
end L2
namespace L2
open PySem PySem.W PyProof.Rows HT PySem.Calls
section
def FpOk.after {b:Addr} (f:FpOk X pq H b) (h:H' b=none):FpOk X pq H' b:=⟨h,f.2⟩
end
end L2
namespace L2
open PySem PySem.Spec PyProof.Rows
theorem Za7:∀ {x y:List Int},x.map (Sum.inl:Int->Key)=y.map Sum.inl->x=y
 | [],[],_=>rfl
 | [],_::_,h=>nomatch h
 | _::_,[],h=>nomatch h
 | a::x,b::y,h=>by
  rw [Ju,Ju] at h;injection h with h1 h2
  rw [Sum.inl.inj h1,Za7 h2]
section
variable (P:Program) (w:World)
def niIs (h:Heap):NI->Value->Prop
 | .k z,v=>Th (.inl z) v=true
 | .t x,v=>∃ a,v=.ref a/\IsTupleKey (Z3 P w) h (x.map Sum.inl) a
 | .b t,v=>v=.bool t
 | .n,v=>v=.none
def niD:NI->Nat
 | .k _=>1
 | .t x=>x.length+1
 | .b _=>1
 | .n=>1
inductive Nits (h:Heap):List NI->List Value->Prop where
 | nil:Nits h [] []
 | cons {k:NI} {v:Value} {ks:List NI} {vs:List Value}:niIs P w h k v->Nits h ks vs->Nits h (k::ks) (v::vs)
def Xj (h:Heap) (ks:List NI) (a:Addr):Prop:=∃ o items n,h.get? a=some o/\o.cls=.type "tuple"/\o.data=.seq items n/\Nits P w h ks items.toList
end
section
theorem niIs.inj {x y:NI} {v:Value} (hx:niIs P w h x v) (hy:niIs P w h y v):x=y:=by
 cases x with
 | k z =>
  have hx:Th (.inl z) v=true:=hx;cases y with
  | k z'=>rw [Sum.inl.inj ((Z3 P w).inj v _ _ hx hy)]
  | t x' =>
   obtain ⟨a,rfl,_⟩:=hy;rcases Zz hx with ⟨i,t,_,e⟩ | ⟨i,t,_,e⟩ <;> cases e
  | b t' =>
   obtain rfl:v=.bool t':=hy;rcases Zz hx with ⟨i,t,_,e⟩ | ⟨i,t,_,e⟩ <;> cases e
  | n =>
   obtain rfl:v=.none:=hy;rcases Zz hx with ⟨i,t,_,e⟩ | ⟨i,t,_,e⟩ <;> cases e
 | t x =>
  obtain ⟨a,rfl,ka⟩:=hx;cases y with
  | k z' =>
   have hy:Th (.inl z') (.ref a)=true:=hy;rcases Zz hy with ⟨i,t,_,e⟩ | ⟨i,t,_,e⟩ <;> cases e
  | t x' =>
   obtain ⟨a',e,kb⟩:=hy;cases e;rw [Za7 (ka.inj kb)]
  | b t'=>cases (show Value.ref a=.bool t' from hy)
  | n=>cases (show Value.ref a=.none from hy)
 | b t =>
  obtain rfl:v=.bool t:=hx;cases y with
  | k z' =>
   have hy:Th (.inl z') (.bool t)=true:=hy;rcases Zz hy with ⟨i,t,_,e⟩ | ⟨i,t,_,e⟩ <;> cases e
  | t x'=>obtain ⟨a',e,_⟩:=hy; cases e
  | b t' =>
   have hy:Value.bool t=.bool t':=hy;injection hy with e
   rw [e]
  | n=>cases (show Value.bool t=.none from hy)
 | n =>
  obtain rfl:v=.none:=hx;cases y with
  | k z' =>
   have hy:Th (.inl z') .none=true:=hy;rcases Zz hy with ⟨i,t,_,e⟩ | ⟨i,t,_,e⟩ <;> cases e
  | t x'=>obtain ⟨a',e,_⟩:=hy; cases e
  | b t'=>cases (show Value.none=.bool t' from hy)
  | n=>rfl
theorem Nits.inj:∀ {x y:List NI} {vs:List Value},Nits P w h x vs->Nits P w h y vs->x=y:=by
 intro _ _ _ hz9 hy;cases hz9 with
 | nil=>
  exact by cases hy; rfl
 | cons h1 t1=>
  exact by
    cases hy with
    | cons h2 t2=>rw [h1.inj h2,Nits.inj t1 t2]
def Xj.typeIs {a:Addr} (x:Xj P w s.heap ks a):s.TypeIs (.ref a) "tuple":=let ⟨o,_,_,ho,hc,_⟩:=x; ⟨o,ho,hc⟩
def Xj.inj {a:Addr} {x y:List NI} (hx:Xj P w h x a) (hy:Xj P w h y a):x=y:=by
 obtain ⟨o,items,n,ho,_,hd,hi⟩:=hx;obtain ⟨o',items',n',ho',_,hd',hi'⟩:=hy;rw [ho] at ho';cases ho';rw [hd] at hd';injection hd' with h1 _
 subst h1;exact hi.inj hi'
theorem Nits.mapH (f:∀ x a,IsTupleKey (Z3 P w) h x a->IsTupleKey (Z3 P w) h' x a):∀ {x:List NI} {vs:List Value},Nits P w h x vs->Nits P w h' x vs
 | _,_,.nil=>.nil
 | k::_,_,.cons h1 t=>by
  refine .cons ?_ (Nits.mapH f t);cases k with
  | k z=>exact h1
  | t x=>obtain ⟨a,e,q⟩:=h1;exists a,e,f _ _ q
  | b t=>exact h1
  | n=>exact h1
def Xj.keeps {a d:Addr} {o:Obj} {es ep} (x:Xj P w h ks a) (ho:h.get? d=some o) (hd:o.data=.dict es ep) (hs:Heap.SameBut d h h'):Xj P w h' ks a:=by
 obtain ⟨o',items,n,ho',hc,hd',hi⟩:=x;have hne:a≠d:=by
  rintro rfl;rw [ho'] at ho;cases ho;rw [hd] at hd'; exact nomatch hd'
 exists o',items,n,(hs.2 a hne).trans ho',hc,hd',hi.mapH fun x b q=>q.keeps ho hd hs
theorem Zhm {t:Bool} {Q:Int->Shared->Prop} (h:Q (hashInt (if t then 1 else 0)) { s with toks:=s.toks+1 }):wpAny (model P w) A (pyHash (.bool t)) Q E s:=by
 have sl:Slot "bool" "__hash__" "int.__hash__":=.of (owner:="int") (n:="__hash__") (by rw [typeLookup_type,builtinLookup_eq_fast]; kernel_rfl) (by decide +kernel) (by decide +kernel) (by decide +kernel)
  (by first | exact .inl (by decide +kernel) | exact .inr (by decide +kernel)) (by rw [isSubtype_type]; kernel_rfl)
 have tyB:s.TypeIs (.bool t) "bool":=rfl;unfold pyHash;have nob:[Value.bool t].any Value.onHeap=false:=rfl;refine Fv ?_;rw [cRoomFor,F0 (by rw [nob]; exact Jp)];refine Fw ?_;refine Fv (wpAny_specialOf tyB sl.lookup ?_);show wpAny _ _ (if (some (Value.builtin "int.__hash__") == some Value.none)=true then _ else _) Q E s;rw [F0 (by rw [beq_builtin_none]; exact Jp)];refine Fv (wpAny_specialOf tyB sl.lookup ?_);show wpAny _ _ (callSpecialIfBoundUnlessNone? (.bool t) "__hash__" _ >>= _) Q E s;cases t with
 | true =>
  refine Fv (wpAny_callSpecialIfBoundUnlessNone?_slot tyB sl (wpAny_call_entry sl tyB entry_int_hash
   (show wpAny _ _ (do ret (<- mkInt (rawHash 1))) _ _ s from wpAny_ret_mkInt ?_) (args_int_hash _)))
  have rg:=rawHash_range 1;show wpAny _ _ (if (decide (-(2:Int) ^ 63<=rawHash 1) && decide (rawHash 1<2 ^ 63))=true then _ else _) Q E _;rw [F1 (by rw [F2 rg.1,F2 rg.2]; rfl)];exact Fw h
 | false =>
  refine Fv (wpAny_callSpecialIfBoundUnlessNone?_slot tyB sl (wpAny_call_entry sl tyB entry_int_hash
   (show wpAny _ _ (do ret (<- mkInt (rawHash 0))) _ _ s from wpAny_ret_mkInt ?_) (args_int_hash _)))
  have rg:=rawHash_range 0;show wpAny _ _ (if (decide (-(2:Int) ^ 63<=rawHash 0) && decide (rawHash 0<2 ^ 63))=true then _ else _) Q E _;rw [F1 (by rw [F2 rg.1,F2 rg.2]; rfl)];exact Fw h
def Zga {Q:Int->Shared->Prop} (h:Q 4238894112 { s with toks:=s.toks+1 }):wpAny (model P w) A (pyHash .none) Q E s:=by
 have tyN:s.TypeIs .none "NoneType":=rfl;have sl:=F.slot_NoneType_hash;unfold pyHash;have nob:[Value.none].any Value.onHeap=false:=rfl;refine Fv ?_;rw [cRoomFor,F0 (by rw [nob]; exact Jp)];refine Fw ?_;refine Fv (wpAny_specialOf tyN sl.lookup ?_);show wpAny _ _ (if (some (Value.builtin _) == some Value.none)=true then _ else _) Q E s;rw [F0 (by rw [beq_builtin_none]; exact Jp)];refine Fv (wpAny_specialOf tyN sl.lookup ?_);show wpAny _ _ (callSpecialIfBoundUnlessNone? .none "__hash__" _ >>= _) Q E s;refine Fv (wpAny_callSpecialIfBoundUnlessNone?_slot tyN sl (wpAny_call_entry sl tyN F.entry_NoneType_hash
  (Fv (Fw (Fv (wpAny_mkInt (Fw ?_))))) (F.args_NoneType_hash_1 _)))
 exists ·,Fw h
theorem Zm5 {k:NI} {v:Value} {Q:Int->Shared->Prop} (hu:A.units<cLine) (hk:niIs P w s.heap k v) (h:Q (niH k) { s with toks:=s.toks+niD k }):wpAny (model P w) A (pyHash v) Q E s:=by
 cases k with
 | k z=>exact (Z3 P w).pyHash (k:=.inl z) hk h
 | t x =>
  obtain ⟨a,rfl,q⟩:=hk;refine wpAny_pyHash_tuple hu q ?_;have e:tupleKeyHash (Z3 P w) (x.map Sum.inl)=niH (.t x):=by
   unfold tupleKeyHash niH;rw [Gd];rfl
  rw [e,Ja];exact h
 | b t=>obtain rfl:v=.bool t:=hk; exact Zhm h
 | n=>obtain rfl:v=.none:=hk; exact Zga h
theorem Ztb {x y:NI} {u v:Value} {Q:Bool->Shared->Prop} (hu:A.units<cLine) (hs:x.sh=y.sh\/x.num=true/\y.num=true) (hx:niIs P w s.heap x u) (hy:niIs P w s.heap y v) (h:Q (decide (x=y)) s):wpAny (model P w) A (eqBool u v) Q E s:=by
 cases x with
 | k z =>
  cases y with
  | k z' =>
   refine (Z3 P w).eqBool (a:=.inl z) (b:=.inl z') hx hy ?_;rw [show decide ((Sum.inl z:Key)=Sum.inl z')=decide (NI.k z=NI.k z') by simp];exact h
  | t x'=>rcases hs with hs | ⟨_,hs⟩ <;> cases hs
  | b t'=>rcases hs with hs | ⟨_,hs⟩ <;> cases hs
  | n =>
   obtain rfl:v=.none:=hy;obtain ⟨t,rfl⟩:=Value.isInt_shape (k:=z) (v:=u) hx;exact SeqAt.EqAt.int_none z t P w E Q h
 | t x =>
  cases y with
  | k z'=>rcases hs with hs | ⟨hs,_⟩ <;> cases hs
  | n=>rcases hs with hs | ⟨hs,_⟩ <;> cases hs
  | t x' =>
   obtain ⟨a,rfl,ka⟩:=hx;obtain ⟨b,rfl,kb⟩:=hy;refine wpAny_eqBool_tuple hu ka kb ?_;rw [show decide (x.map (Sum.inl:Int->Key)=x'.map Sum.inl)=decide (NI.t x=NI.t x') from decide_eq_decide.mpr ⟨fun e=>by rw [Za7 e],fun e=>by injection e with e; rw [e]⟩];exact h
  | b t'=>rcases hs with hs | ⟨hs,_⟩ <;> cases hs
 | n =>
  obtain rfl:u=.none:=hx;cases y with
  | k z' =>
   obtain ⟨t,rfl⟩:=Value.isInt_shape (k:=z') (v:=v) hy;exact SeqAt.EqAt.none_int z' t P w E Q h
  | n =>
   obtain rfl:v=.none:=hy;exact SeqAt.EqAt.same _ P w E Q h
  | t x'=>rcases hs with hs | ⟨_,hs⟩ <;> cases hs
  | b t'=>rcases hs with hs | ⟨_,hs⟩ <;> cases hs
 | b t =>
  cases y with
  | k z'=>rcases hs with hs | ⟨hs,_⟩ <;> cases hs
  | t x'=>rcases hs with hs | ⟨hs,_⟩ <;> cases hs
  | n=>rcases hs with hs | ⟨hs,_⟩ <;> cases hs
  | b t' =>
   obtain rfl:u=.bool t:=hx;obtain rfl:v=.bool t':=hy;refine SeqAt.EqAt.bool_bool t t' P w E Q ?_;rw [show (t == t')=decide (NI.b t=NI.b t') by cases t <;> cases t' <;> rfl];exact h
theorem Zi8 {k:NI} {v:Value} {Q:Bool->Shared->Prop} (n:Nat) (hk:niIs P w s.heap k v) (h:Q true s):wpAny (model P w) A (eqIsQuiet (n+1) v) Q E s:=by
 cases k with
 | k z=>rw [eqIsQuiet_byValue _ ((Z3 P w).byValue (.inl z) v hk)]; exact Fw h
 | b t=>obtain rfl:v=.bool t:=hk; rw [eqIsQuiet_byValue _ rfl]; exact Fw h
 | n=>obtain rfl:v=.none:=hk; rw [eqIsQuiet_byValue _ rfl]; exact Fw h
 | t x =>
  obtain ⟨a,rfl,q⟩:=hk;have tyA:=q.typeIs;obtain ⟨ob,its,m,gt,_,dat,itm⟩:=q;unfold eqIsQuiet;refine Fv (wpAny_specialOf tyA F.slot_tuple_eq.lookup ?_);show wpAny _ _ (isInstance (.ref a) (.type "tuple") >>= _) _ _ s;refine Fv (wpAny_isInstance tyA isSubtype_tuple_tuple ?_);simp only [By,Gc,if_false];refine Fv (wpAny_seqItems gt dat ?_);refine Fv ?_;show wpAny _ _ (forIn its _ _) _ _ s;rw [<- Bh];refine wpAny_forIn_list _ (fun rest r s'=>r.1=none/\s'=s/\∀ v∈rest,carriedByValue v=true) _ ?_ ?_ _ _ ⟨rfl,rfl,itm.byValue⟩
  ·rintro v rest r s' ⟨ac,rfl,evy⟩;rw [eqIsQuiet_byValue _ (evy v Jm)];refine Fv (Fw ?_);simp only [By,Gc,if_false];exact Fw ⟨rfl,rfl,fun u hu'=>evy u (Jg _ hu')⟩
  ·rintro ⟨r1,r2⟩ s' ⟨ac,rfl,_⟩;simp only at ac;subst ac;exact Fw h
theorem Zgd {a:Addr} {Q:Int->Shared->Prop} (hu:A.units+1<cLine) (nk:Xj P w s.heap ks a) (fin:Q (nh ks) { s with toks:=s.toks+((ks.map niD).sum+1) }) :
  wpAny (model P w) A (pyHash (.ref a)) Q E s:=by
 have tyA:=nk.typeIs;obtain ⟨ob,its,m,gt,_,dat,itm⟩:=nk;unfold pyHash
 first | unfold pyHashByItsType | skip
 first | refine Fv (wpAny_cRoomFor_or (.inr (by lia)) ?_) | skip
 refine Fv (wpAny_specialOf tyA F.slot_tuple_hash.lookup ?_);show wpAny (model P w) A (if (some (Value.builtin "tuple.__hash__") == some Value.none)=true then _ else _) Q E s;rw [F0 (by rw [beq_builtin_none]; exact Jp)];refine Fv (wpAny_specialOf tyA F.slot_tuple_hash.lookup ?_);show wpAny (model P w) A (callSpecialIfBoundUnlessNone? (.ref a) "__hash__" _ >>= _) Q E s;refine Fv (wpAny_callSpecialIfBoundUnlessNone?_slot tyA F.slot_tuple_hash (wpAny_call_entry F.slot_tuple_hash tyA F.entry_tuple_hash ?_ (F.args_tuple_hash_1 _)));show wpAny (model P w) _ (Builtin.Tuple.tupleItemsOf (.ref a) >>= _) _ _ s
 refine Fv (wpAny_tupleItemsOf gt dat ?_);refine Fv ?_;rw [<- Bh];refine wpAny_forIn_list _
  (fun rest (b:Array Int) s'=>∃ pre post,ks=pre++post/\Nits P w s.heap post rest/\b.toList=pre.map (niH)/\s'={ s with toks:=s.toks+(pre.map niD).sum })
  _ ?_ ?_ _ _ ⟨[],ks,rfl,itm,rfl,rfl⟩
 ·rintro x rest b s' ⟨pre,post,rfl,hl,hb,rfl⟩;cases hl with
  | @cons k _ ks' _ h1 hl' =>
   refine Fv (Zm5 (s:={ s with toks:=s.toks+(pre.map niD).sum }) (by show A.units+1<cLine; exact hu) h1 ?_)
   first
    | exact Fw ⟨pre++[k],ks',by simp,hl',by simp [hb],by simp [Fj]⟩
    | exact Fv (Fw (Fw ⟨pre++[k],ks',by simp,hl',by simp [hb],by simp [Fj]⟩))
 ·rintro b s' ⟨pre,post,rfl,hl,hb,rfl⟩;cases hl;rw [Gi] at fin;show wpAny (model P w) _ (retInt (Builtin.Tuple.tupleHashOf b.toList)) _ _ _;rw [hb];refine wpAny_ret_mkInt ?_;show wpAny (model P w) _ (if (decide (-(2:Int) ^ 63<=Builtin.Tuple.tupleHashOf (pre.map (niH))) && decide (Builtin.Tuple.tupleHashOf (pre.map (niH))<2 ^ 63))=true then _ else _) Q E _;unfold nh reduceHash at fin
  by_cases rg:(decide (-(2:Int) ^ 63<=Builtin.Tuple.tupleHashOf (pre.map (niH))) && decide (Builtin.Tuple.tupleHashOf (pre.map (niH))<2 ^ 63))=true
  ·rw [F1 rg];rw [F1 rg] at fin;exact Fw (by simpa [Fj] using fin)
  ·rw [F0 rg];rw [F0 rg] at fin;exact Fv (wpAny_rule (Fw (by simpa [Fj] using fin)))
theorem Ze5:∀ {x y:List NI},x.map NI.sh=y.map NI.sh->∀ p∈List.zip x y,p.1.sh=p.2.sh
 | [],_,_,p,hp=>by cases hp
 | _::_,[],h,_,_=>by cases h
 | a::x,b::y,h,p,hp=>by
  injection h with h1 h2
  rcases Jy.mp hp with rfl | hp
  ·exact h1
  ·exact Ze5 h2 p hp
theorem Zly {x y:List NI} (h:NI.shp x=NI.shp y):∀ p∈List.zip x y,p.1.sh=p.2.sh\/p.1.num=true/\p.2.num=true:=by
 have no:∀ z:List NI,z.map NI.sh≠[7]:=fun z e=>by
  match z,e with
  | k::_,e =>
   injection e with e _
   cases k <;> cases e
 unfold NI.shp at h;cases hx:x.all NI.num with
 | true =>
  rw [hx] at h;cases hy:y.all NI.num with
  | true=>exact fun p hp=>.inr ⟨Ff.mp hx _ (Fk hp).1,Ff.mp hy _ (Fk hp).2⟩
  | false=>rw [hy] at h; exact Fs h.symm (no y)
 | false =>
  rw [hx] at h;cases hy:y.all NI.num with
  | true=>rw [hy] at h; exact Fs h (no x)
  | false=>rw [hy] at h; exact fun p hp=>.inl (Ze5 h p hp)
def Zm6 {x y:List NI} {a b:Addr} {Q:Fin->Shared->Prop} (hu:A.units<cLine) (hs:NI.shp x=NI.shp y) (ka:Xj P w s.heap x a) (kb:Xj P w s.heap y b) (fin:Q (.done (.ret (.bool (decide (x=y))))) s) :
  wpAny (model P w) A (Builtin.«tuple.__eq__» ⟨[.ref a,.ref b],[]⟩) Q E s:=by
 have tyB:=kb.typeIs;obtain ⟨oa,xs,na,ga,_,da,ia⟩:=ka;obtain ⟨ob,ys,nb,gb,_,db,ib⟩:=kb;show wpAny (model P w) A (isInstance (.ref b) (.type "tuple") >>= _) _ _ s;refine Fv (wpAny_isInstance tyB isSubtype_tuple_tuple ?_);simp only [By,Gc,if_false];refine Fv (wpAny_tupleItemsOf ga da ?_);refine Fv (wpAny_tupleItemsOf gb db ?_);refine Fv ?_;refine wpAny_forIn_list _
  (fun rest r s'=>r.1=none/\s'=s/\∃ x' y' xs' ys',rest=List.zip xs' ys'/\Nits P w s.heap x' xs'/\Nits P w s.heap y' ys'/\(∀ p∈List.zip x' y',p.1.sh=p.2.sh\/p.1.num=true/\p.2.num=true)/\decide (x'=y')=decide (x=y)/\(xs'.length == ys'.length)=(xs.size == ys.size))
  _ ?_ ?_ _ _ ⟨rfl,rfl,x,y,xs.toList,ys.toList,rfl,ia,ib,Zly hs,rfl,by simp⟩
 ·rintro ⟨u,v⟩ rest r s' ⟨ac,rfl,x',y',xs',ys',hz,hx',hy',hs',hdec,hlen⟩;cases hx' with
  | nil=>simp at hz
  | @cons k1 u' x'' xs'' h1 hx'' =>
   cases hy' with
   | nil=>simp at hz
   | @cons k2 v' y'' ys'' h2 hy'' =>
    simp only [B3,List.cons.injEq,Prod.mk.injEq] at hz;obtain ⟨⟨rfl,rfl⟩,rfl⟩:=hz;refine Fv (Ztb hu (hs' (k1,k2) Jm) h1 h2 ?_)
    by_cases hk:k1=k2
    ·subst hk;rw [F2 rfl];simp only [By,Gc,if_false];refine Fw ⟨rfl,rfl,x'',y'',xs'',ys'',rfl,hx'',hy'',fun p hp=>hs' p (Jg _ hp),?_,by simpa using hlen⟩;rw [<- hdec]
     by_cases hxy:x''=y''
     ·simp [hxy]
     ·simp [hxy]
    ·rw [F3 hk];simp only [Bool.not_false,if_true];have hf:decide (x=y)=false:=by rw [<- hdec]; simp [hk]
     rw [hf] at fin;exact Fv (Fw (Fw (Fw fin)))
 ·rintro ⟨r1,r2⟩ s' ⟨ac,rfl,x',y',xs',ys',hz,hx',hy',hs',hdec,hlen⟩;simp only at ac;subst ac;refine Fw ?_;have hfin:(xs.size == ys.size)=decide (x=y):=by
   rw [<- hdec,<- hlen];cases hx' with
   | nil =>
    cases hy' with
    | nil=>simp
    | cons _ _=>simp
   | cons _ _ =>
    cases hy' with
    | nil=>simp
    | cons _ _=>simp at hz
  show Q (.done (.ret (.bool (xs.size == ys.size)))) s';rw [hfin];exact fin
theorem Zaz {x y:List NI} {a b:Addr} {Q:Bool->Shared->Prop} (hu:A.units+1<cLine) (hs:NI.shp x=NI.shp y) (ka:Xj P w s.heap x a) (kb:Xj P w s.heap y b) (fin:Q (decide (x=y)) s) :
  wpAny (model P w) A (eqBool (.ref a) (.ref b)) Q E s:=by
 unfold eqBool
 try with_reducible refine wpAny_holding ?_
 show wpAny (model P w) A (if (Value.ref a == Value.ref b)=true then _ else _) Q E s
 by_cases hab:(Value.ref a == Value.ref b)=true
 ·rw [F1 hab];have e:a=b:=by have:=eq_of_beq hab; injection this
  subst e;obtain rfl:=ka.inj kb;exact Fv (wpAny_rule (Fw (by simpa using fin)))
 ·rw [F0 hab];exact Fv (wpAny_richCompare_same_room (op:=.Eq) ka.typeIs kb.typeIs F.slot_tuple_eq
   (wpAny_call_entry F.slot_tuple_eq ka.typeIs F.entry_tuple_eq (Zm6 (by show A.units+1<cLine; exact hu) hs ka kb ⟨_,rfl,(fun e=>nomatch e),wpAny_truthy_bool fin⟩) (F.args_tuple_eq_2 _ _)) (by lia))
def Zdp {a:Addr} {Q:Bool->Shared->Prop} (nk:Xj P w s.heap ks a) (fin:Q true s):wpAny (model P w) A (eqIsQuiet 8 (.ref a)) Q E s:=by
 have tyA:=nk.typeIs;obtain ⟨ob,its,m,gt,_,dat,itm⟩:=nk;unfold eqIsQuiet;refine Fv (wpAny_specialOf tyA F.slot_tuple_eq.lookup ?_);show wpAny (model P w) A (isInstance (.ref a) (.type "tuple") >>= _) _ _ s;refine Fv (wpAny_isInstance tyA isSubtype_tuple_tuple ?_);simp only [By,Gc,if_false];refine Fv (wpAny_seqItems gt dat ?_);refine Fv ?_;show wpAny (model P w) A (forIn its _ _) _ _ s;rw [<- Bh];refine wpAny_forIn_list _ (fun rest r s'=>r.1=none/\s'=s/\∃ post,Nits P w s.heap post rest) _ ?_ ?_ _ _ ⟨rfl,rfl,ks,itm⟩
 ·rintro v rest r s' ⟨ac,rfl,post,hl⟩;cases hl with
  | cons h1 hl =>
   refine Fv (Zi8 6 h1 ?_);simp only [By,Gc,if_false];exact Fw ⟨rfl,rfl,_,hl⟩
 ·rintro ⟨r1,r2⟩ s' ⟨ac,rfl,_⟩;simp only at ac;subst ac;exact Fw fin
end
def Vq (P:Program) (w:World) (sh:List Nat):HeapKind P w (List NI) where
 is:=fun h ks a=>Xj P w h ks a/\NI.shp ks=sh
 hash:=fun ks=>nh ks
 draws:=fun ks=>(ks.map niD).sum+1
 room:=fun A=>A.units+1<cLine
 inj:=fun hx hy=>hx.1.inj hy.1
 keeps:=fun x ho hd hs=>⟨x.1.keeps ho hd hs,x.2⟩
 pyHash:=fun hu hk h=>Zgd hu hk.1 h
 eqBool:=fun hu hx hy h=>Zaz hu (by rw [hx.2,hy.2]) hx.1 hy.1 h
 quiet:=fun hk h=>Zdp hk.1 h
section
theorem Zqp (I:Inv X pq σ H s) {k:NI} {u:Value} (h:NkV X.K H k v) (r:RelV v u):niIs X.prog X.w s.heap k u:=by
 cases k with
 | k z =>
  cases (show v=.int z from h);obtain ⟨t,rfl⟩:=r;exact P8 z t
 | t x =>
  obtain ⟨a,rfl,q⟩:=h;cases (show u=Value.ref a from r);obtain ⟨its,rv,⟨o,e,c,n,d⟩,_⟩:=I.tuple q;refine ⟨a,rfl,o,its.toArray,n,e,c,d,?_⟩;have rv':Vals ((x.map (Sum.inl:Int->Key)).map kV) its:=by
   rw [Gd];exact rv
  simpa using Sg rv'
 | b t =>
  cases (show v=.bl t from h);exact r
 | n =>
  cases (show v=.non from h);exact r
def Zgb (I:Inv X pq σ H s) {a:Addr} (h:NkAt X.K H ks a):Xj X.prog X.w s.heap ks a:=by
 obtain ⟨vs,e,r⟩:=h;obtain ⟨its,rv,⟨o,eo,c,n,d⟩,_⟩:=I.tuple e;refine ⟨o,its.toArray,n,eo,c,d,?_⟩;have go:∀ {ks:List NI} {vs:List V} {us:List Value},Paired (NkV X.K H) ks vs->Vals vs us->Nits X.prog X.w s.heap ks us:=by
  intro ks vs us p
  induction p generalizing us with
  | nil=>intro q; cases q; exact .nil
  | cons a b ih=>intro q; cases q with | cons q1 q2=>exact .cons (Zqp I a q1) (ih q2)
 simpa using go r rv
structure DnAt (K:W.Frag) (H:Hp) (d:Addr) (sh:List Nat) (kvs:List Nkv):Prop where
 ht:Rd H d (.ext (dnP d kvs))
 ks:∀ x∈kvs,NkAt K H x.1 x.2.1/\NI.shp x.1=sh
def valN (kvs:List Nkv) (k:List NI):Option V:=(kvs.find? fun x=>decide (x.1=k)).map (·.2.2)
def putN (kvs:List Nkv) (k:List NI) (b:Addr) (v:V):List Nkv:=if (kvs.any fun x=>decide (x.1=k)) then kvs.map (fun x=>if x.1=k then (x.1,x.2.1,v) else x) else kvs++[(k,b,v)]
abbrev NRel:List Nkv->List (List NI×Addr×Value)->Prop:=Paired fun p q=>p.1=q.1/\p.2.1=q.2.1/\RelV p.2.2 q.2.2
theorem NRel.val:∀ {kvs:List Nkv} {xs:List (List NI×Addr×Value)},NRel kvs xs->∀ k,RelO (valN kvs k) ((atKey xs k).map (·.2))
 | _,_,.nil,k=>True.intro
 | p::ps,q::qs,.cons h r,k=>by
  have ih:=NRel.val r k;unfold valN atKey at ih ⊢;rw [Gq,Gq,<- h.1]
  by_cases e:p.1=k
  ·rw [F2 e];exact h.2.2
  ·rw [F3 e];exact ih
theorem NRel.any:∀ {kvs:List Nkv} {xs:List (List NI×Addr×Value)},NRel kvs xs->∀ k,(kvs.any fun x=>decide (x.1=k))=(atKey xs k).isSome
 | _,_,.nil,k=>rfl
 | p::ps,q::qs,.cons h r,k=>by
  have ih:=NRel.any r k;unfold atKey at ih ⊢;rw [Bx,Gq,<- h.1]
  by_cases e:p.1=k
  ·rw [F2 e];rfl
  ·rw [F3 e,Fp];exact ih
def NRel.put {kvs:List Nkv} {xs:List (List NI×Addr×Value)} (r:NRel kvs xs) (k:List NI) (b:Addr) {u:Value} (rv:RelV v u):NRel (putN kvs k b v) (storedH xs k b u):=by
 unfold putN storedH;rw [r.any k]
 by_cases q:(atKey xs k).isSome=true
 ·rw [F1 q,F1 q];have go:∀ {kvs:List Nkv} {xs:List (List NI×Addr×Value)},NRel kvs xs->NRel (kvs.map fun x=>if x.1=k then (x.1,x.2.1,v) else x) (xs.map (putAt k u)):=by
   intro kvs xs r
   induction r with
   | nil=>exact .nil
   | @cons p q ps qs h t ih =>
    refine .cons ?_ ih;unfold putAt;rw [<- h.1];dsimp only
    by_cases e:p.1=k
    ·rw [F1 e,F1 e];exists rfl,h.2.1,rv
    ·rw [F0 e,F0 e];exact h
  exact go r
 ·rw [F0 q,F0 q];exact Paired.snoc ⟨rfl,rfl,rv⟩ r
def Zdy (I:Inv X pq σ H s) {d:Addr} {sh:List Nat} {kvs:List Nkv} (e:DnAt X.K H d sh kvs):kvs.length<=sizeLine/\(d == sysModules)=false/\∃ xs,NRel kvs xs/\s.heap.DictOfH (Vq X.prog X.w sh) d xs:=by
 obtain ⟨⟨z,y,xs,r,o,es,ep,h1,h2,h3,h4,h5⟩,_,_⟩:=e.ht.ok I.hok;refine ⟨z,y,xs,r,o,es,ep,h1,h2,h3,h4,?_,h5⟩;have all:∀ {l:List Nkv} {m:List (List NI×Addr×Value)},NRel l m->(∀ x∈l,NkAt X.K H x.1 x.2.1/\NI.shp x.1=sh)->∀ x∈m,(Vq X.prog X.w sh).is s.heap x.1 x.2.1:=by
  intro l m q
  induction q with
  | nil=>intro _ x hx; exact nomatch hx
  | @cons p q ps qs hq t ih =>
   intro hl x hx;rcases Jy.mp hx with e | hx
   ·subst e;obtain ⟨a1,a2⟩:=hl p Jm;rw [hq.1,hq.2.1] at a1;rw [hq.1] at a2;exists Zgb I a1,a2
   ·exact ih (fun y hy=>hl y (Jg _ hy)) x hx
 exact all r e.ks
theorem Zcc (kvs:List Nkv) (k:List NI) (b:Addr) (v:V):(putN kvs k b v).length<=kvs.length+1:=by
 unfold putN
 split
 ·rw [Ja]; lia
 ·rw [Jc]; exact Jd _
variable {d b:Addr} {sh:List Nat} {kvs:List Nkv} {k:List NI} 
theorem Zgf {Q:Value->Shared->Prop} (hu:A.units+2<cLine) (I:Inv X pq σ H s) (g:DnAt X.K H d sh kvs) (hk:NkAt X.K H k b) (hs:NI.shp k=sh) (l:valN kvs k=some v) (h:∀ w' s',Inv X pq σ H s'->RelV v w'->Q w' s') :
  wpAny (model X.prog X.w) A (getItem (.ref d) (.ref b)) Q E s:=by
 obtain ⟨z,hd,xs,rel,dd⟩:=Zdy I g;obtain ⟨w',hw,rw'⟩:=RelO.some_of (v:=v) (o:=(atKey xs k).map (·.2)) (by rw [<- l]; exact rel.val k);obtain ⟨p,hp,hp2⟩:=Option.map_eq_some_iff.mp hw;refine wpAny_getItem_heap (knd:=Vq X.prog X.w sh) (show A.units+1+1<cLine by lia) ⟨Zgb I hk,hs⟩ dd hp ?_;rw [hp2];exact h w' _ (I.tok _) rw'
theorem n_in {Q:Value->Shared->Prop} (hu:A.units+2<cLine) (I:Inv X pq σ H s) (g:DnAt X.K H d sh kvs) (hk:NkAt X.K H k b) (hs:NI.shp k=sh) (h:∀ s',Inv X pq σ H s'->Q (.bool (valN kvs k).isSome) s') :
  wpAny (model X.prog X.w) A (compareOp .In (.ref b) (.ref d)) Q E s:=by
 obtain ⟨z,hd,xs,rel,dd⟩:=Zdy I g;refine wpAny_in_heap (knd:=Vq X.prog X.w sh) (show A.units+1+1<cLine by lia) ⟨Zgb I hk,hs⟩ hd dd ?_;have q:=(rel.val k).isSome_eq;rw [Option.isSome_map] at q;rw [<- q];exact h _ (I.tok _)
theorem Zge {u:Value} {Q:Unit->Shared->Prop} (hu:A.units+2<cLine) (I:Inv X pq σ H s) (g:DnAt X.K H d sh kvs) (hm:H d=some (.ext (dnP d kvs))) (hl:kvs.length<sizeLine) (hk:NkAt X.K H k b) (hs:NI.shp k=sh) (rv:RelV v u) (h:∀ s',Inv X pq σ (upd H d (.ext (dnP d (putN kvs k b v)))) s'->Q () s') :
  wpAny (model X.prog X.w) A (setItem (.ref d) (.ref b) u) Q E s:=by
 obtain ⟨z,hd,xs,rel,dd⟩:=Zdy I g;have hz:xs.length<=sizeLine:=by rw [<- Paired.length rel]; exact z
 have hl':(putN kvs k b v).length<=sizeLine:=by have:=Zcc kvs k b v; lia
 refine wpAny_setItem_heap (knd:=Vq X.prog X.w sh) (hsz:=hz) (show A.units+1+1<cLine by lia) ⟨Zgb I hk,hs⟩ dd fun h' dd' hs'=>h _ ?_;obtain ⟨q,es,ep,hq,h2,h3,h4,_,h5⟩:=dd';exact Wx I (by rw [hm]; exact True.intro) hs' ⟨q,hq⟩ (dnP.ok ⟨hl',hd,_,rel.put k b rv,q,es,ep,hq,h2,h3,h4,h5⟩)
end
def Zkb:TE:=fun _ H Q=>∀ p,H p=none->Q (.ref p) (upd H p (.ext (dnP p [])))
def NGet (K:W.Frag) (H:Hp) (a:Addr) (y:V) (o:Option V):Prop:=∃ b sh kvs k,y=.ref b/\DnAt K H a sh kvs/\NkAt K H k b/\NI.shp k=sh/\o=valN kvs k
def IsN (K:W.Frag) (H:Hp) (a:Addr):Prop:=∃ sh kvs,DnAt K H a sh kvs
def Zo8 (K:W.Frag) (td ty:TE):TE:=fun σ H Q=>td σ H fun x H1=>ty σ H1 fun y H2=>∃ a v,x=.ref a/\NGet K H2 a y (some v)/\Q v H2
def tNIn (K:W.Frag) (ty td:TE):TE:=fun σ H Q=>ty σ H fun y H1=>td σ H1 fun x H2=>∃ a o,x=.ref a/\NGet K H2 a y o/\Q (.bl o.isSome) H2
def Zp7 (K:W.Frag) (td ty tv:TE):TS:=fun D σ H=>tv σ H fun v H1=>td σ H1 fun x H2=>ty σ H2 fun y H3=>∃ a b sh kvs k,x=.ref a/\y=.ref b/\DnAt K H3 a sh kvs/\H3 a=some (.ext (dnP a kvs))/\kvs.length<sizeLine/\NkAt K H3 k b/\NI.shp k=sh/\D.nx σ (upd H3 a (.ext (dnP a (putN kvs k b v))))
section
variable {o i:Expr} {ty:TE}
def Zch:PE X (.Dict [] [] pos) Zkb:=fun pq s σ H Q I h =>
 wpAny_Dict_empty ⟨.ref s.heap.objs.size,_,I.laid (a:=s.heap.objs.size) (o:=.ext (dnP s.heap.objs.size [])) (t':=s.toks) (fun _ _ q=>Fx _ q) (Jd _)
  (dnP.ok ⟨Jz _,beq_eq_false_iff_ne.mpr (Ne.symm (Gf I.big)),[],.nil,_,#[],0,Fy _ rfl,⟨rfl,rfl,rfl⟩,rfl,rfl,List.nodup_nil⟩),rfl,h _ (I.hok.fresh (Jd _))⟩
theorem Zmv (hK:X.K=K) (hu:X.A.units+200<cLine) (ho:PE X o td) (hi:PE X i ty) (hs:NoSl i):PE X (.Subscript o i pos) (Zo8 K td ty):=by
 subst hK;intro pq s σ H Q I h;refine Zlv PySem.F.slot_dict_getitem.lookup hs (thn (ho pq s σ H _ I h) fun u s1 ⟨x,H1,I1,rx,q1⟩=>thn (hi pq s1 σ H1 _ I1 q1) fun iv s2 hz=>?_);obtain ⟨y,H2,I2,ry,a,v,ex,⟨b,sh,kvs,k,ey,g,nk,es,l⟩,q2⟩:=hz;subst ex ey;obtain rfl:u=Value.ref a:=rx;obtain rfl:iv=Value.ref b:=ry;obtain ⟨_,_,xs,_,dd⟩:=Zdy I2 g;exists dd.typeIs,Zgf (by lia) I2 g nk es l.symm fun w' s3 I3 rw'=>⟨v,H2,I3,rw',q2⟩
theorem Zkt (hK:X.K=K) (hu:X.A.units+200<cLine) (hi:PE X i ty) (ho:PE X o td):PC X .In i o (tNIn K ty td):=by
 subst hK;intro pq s σ H Q I h;refine thn (hi pq s σ H _ I h) fun iv s1 ⟨y,H1,I1,ry,q1⟩=>thn (ho pq s1 σ H1 _ I1 q1) fun u s2 hz=>?_;obtain ⟨x,H2,I2,rx,a,ov,ex,⟨b,sh,kvs,k,ey,g,nk,es,l⟩,q2⟩:=hz;subst ex ey;obtain rfl:u=Value.ref a:=rx;obtain rfl:iv=Value.ref b:=ry;exact n_in (by lia) I2 g nk es fun s3 I3=>⟨.bl (valN kvs k).isSome,H2,I3,rfl,by rw [<- l]; exact q2⟩
theorem Zmo (hK:X.K=K) (hu:X.A.units+200<cLine) (ho:PE X o td) (hi:PE X i ty) (hv:PE X value tv) (hs:swapsWith value (some (.Subscript o i pos')) pos.line X.env=pure false) :
  PS X (.Assign [.Subscript o i pos'] value pos) (Zp7 K td ty tv):=by
 subst hK;intro pq s σ H D I h;refine wpAny_Assign_Subscript (thn (hv pq s σ H _ I h) fun r s1 ⟨v,H1,I1,rv,q1⟩=>thn (ho pq s1 σ H1 _ I1 q1) fun u s2 ⟨x,H2,I2,rx,q2⟩=>thn (hi pq s2 σ H2 _ I2 q2) fun iv s3 hz=>?_) hs;obtain ⟨y,H3,I3,ry,a,b,sh,kvs,k,ex,ey,g,hm,hl,nk,es,q3⟩:=hz;subst ex ey;obtain rfl:u=Value.ref a:=rx;obtain rfl:iv=Value.ref b:=ry;exact Zge (by lia) I3 g hm hl nk es rv fun s4 I4=>⟨σ,_,I4,q3⟩
end
end L2
namespace L2
open PySem PySem.W PyProof.Rows HT PySem.Calls
theorem Zpj {cmp:Nat->Nat->(Bool->Shared->Prop)->Shared->Prop} {b:Bool} {G:Array Nat->Shared->Prop} (hc:∀ C:Bool->Shared->Prop,C b s->cmp 1 0 C s) (h:G (if b=true then #[1,0] else #[0,1]) s):(kas_sort 2).kasWp cmp G s:=by
 unfold kas_sort;rw [KasT.kasWp_bind];unfold kas_count;rw [KasT.kasWp_bind];show cmp 1 0 _ s;refine hc _ ?_;cases b with
 | true =>
  have e:kas_rev (List.range 2).toArray 0 2=#[1,0]:=by decide +kernel
  show G (kas_rev (List.range 2).toArray 0 2) s;rw [e];exact h
 | false=>exact h
section
def KmAt (K:PySem.W.Frag) (H:Hp) (v:V) (z:List Int):Prop:=∃ (a t:Addr) (n:Int) (w:List Int),v=.ref a/\SqT K H a [.int n,.ref t]/\SqT K H t (w.map V.int)/\z=n::w
def KmAt.same {K:PySem.W.Frag} {z:List Int} (h:KmAt K H v z) (s:Same H H'):KmAt K H' v z :=
 let ⟨a,t,n,w,h0,h1,h2,h3⟩:=h
 ⟨a,t,n,w,h0,Qd s h1,Qd s h2,h3⟩
def KmQ (K:PySem.W.Frag) (H:Hp) (q:KIt):Prop:=KmAt K H (.ref q.2.1) q.2.2
theorem Zne {L:List KIt} (I:Inv X pq σ H s) (hk:∀ q∈L,KmQ X.K H q) (h2:0<L.length) {Q:SortKind->Shared->Prop} (h:Q (tuples' true) s) :
  wpAny (model X.prog X.w) A (keyKind' (Zr L).toArray) Q E s:=by
 have tk:∀ L':List KIt,(∀ q∈L',q∈L)->∃ fs:List Value,KatTups s.heap (Zr L') fs/\fs.length=L'.length/\∀ v∈fs,∃ n t,v=.int n t:=by
  intro L'
  induction L' with
  | nil=>intro _;exists [],.nil,rfl,fun v hv=>nomatch hv
  | cons q r ih =>
   intro hm;obtain ⟨fs,a,b,c⟩:=ih fun x hx=>hm x (Jg _ hx);obtain ⟨x,t,w0,w,ex,sq,_⟩:=hk q (hm q Jm);cases ex;obtain ⟨its,rv,⟨o,e,hc,n,hd⟩,_⟩:=I.tuple sq;cases rv with
   | cons rv1 rv2 =>
    obtain ⟨tk,et⟩:=rv1;exists .int w0 tk::fs,KatTups.cons e hc hd ?_ a,by simp [b],fun v hv=>?_
    ·rw [et]; simp
    ·rcases Jy.mp hv with e | hv
     ·exists _,tk,e
     ·exact c v hv
 obtain ⟨fs,a,b,c⟩:=tk L fun _ h=>h;exact kat_kind (T:=.type "int") a (by lia) (fun v hv=>by obtain ⟨n,t,e⟩:=c v hv; subst e; exact .now) nofun h
theorem Zqv {L:List KIt} (I:Inv X pq σ H s) (hu:A.units<cLine) (hk:∀ q∈L,KmQ X.K H q) {i:Nat} (hi:i<L.length) (hj:j<L.length) (C:Bool->Shared->Prop) (h:C (HT.lexLt L[i].2.2 L[j].2.2) s) :
  kas_ask X.prog X.w A (tuples' true) (Zr L) i j C s:=by
 unfold kas_ask;rw [show (Zr L).getD i Value.none=Value.ref L[i].2.1 from Xb hi,show (Zr L).getD j Value.none=Value.ref L[j].2.1 from Xb hj];obtain ⟨x1,t1,n1,w1,z1,sq1,st1,e1⟩:=hk _ (Jr hi);obtain ⟨x2,t2,n2,w2,z2,sq2,st2,e2'⟩:=hk _ (Jr hj);cases z1;cases z2;obtain ⟨its,rv,⟨o,e,hc,n,hd⟩,_⟩:=I.tuple sq1;obtain ⟨its2,rv2,⟨o2,e2,hc2,n2',hd2⟩,_⟩:=I.tuple sq2;obtain ⟨us,ru,⟨p,ep,hcp,m,hdp⟩,_⟩:=I.tuple st1;obtain ⟨us2,ru2,⟨p2,ep2,hcp2,m2,hdp2⟩,_⟩:=I.tuple st2;refine kat_lt e hd e2 hd2 ?_;cases rv with
 | @cons _ a1 _ _ a2 a3 =>
  cases a3 with
  | @cons _ b1 _ _ b2 b3 =>
   cases b3;cases rv2 with
   | @cons _ c1 _ _ c2 c3 =>
    cases c3 with
    | @cons _ d1 _ _ d2 d3 =>
     cases d3;obtain ⟨k1,rfl⟩:=a2;obtain ⟨k2,rfl⟩:=c2;obtain rfl:b1=.ref t1:=b2;obtain rfl:d1=.ref t2:=d2;have ia:=Ws ru;have ib:=Ws ru2;rw [e1,e2',HT.lexLt_cons] at h;refine kat_cons (wpAny_eqBool_int ?_)
     by_cases hz:n1=n2
     ·rw [F1 hz] at h;rw [show (n1 == n2)=true from beq_iff_eq.mpr hz];refine kat_yes (kat_cons (wpAny_eqBool_tuple (knd:=intKind X.prog X.w) (by lia) ⟨p,_,m,ep,hcp,hdp,items_int ia⟩ ⟨p2,_,m2,ep2,hcp2,hdp2,items_int ib⟩ ?_))
      by_cases hw:w1=w2
      ·rw [F2 hw];rw [hw,Qo] at h;exact kat_yes (kat_nil h)
      ·rw [F3 hw];refine kat_no (kat_one _ _ ?_);exact Zoy (by lia) ep hcp hdp ep2 hcp2 hdp2 ia ib h
     ·rw [F0 hz] at h;rw [show (n1 == n2)=false from beq_eq_false_iff_ne.mpr hz];exact kat_no (oneLt_int h)
def two (b:Bool) (x y:V):List V:=if b=true then [y,x] else [x,y]
theorem Ze2 {D:Addr} {e eD:Nat} {q0 q1:KIt} {P:PySem.Fin->Shared->Prop} (I:Inv X ((pq++[PD D eD])++[PKs kS e [q0,q1]]) σ H s) (hu:A.units<cLine) (fD:FpOk X pq H D) (fK:FpOk X (pq++[PD D eD]) H kS)
  (lk:∀ q∈[q0,q1],KmQ X.K H q) (rv:Vals [q0.1,q1.1] its)
  (h:∀ (s':Shared),Inv X pq σ (upd H D (.lst (two (HT.lexLt q1.2.2 q0.2.2) q0.1 q1.1))) s'->P (.done (.ret .none)) s') :
  wpAny (model X.prog X.w) A (ksk_end D false its.toArray eD (.ref kS) (Zr [q0,q1]).toArray) P E s:=by
 have el:its.length=2:=rv.length.symm;have ek:(Zr [q0,q1]).length=its.length:=by rw [el]; rfl
 have J0:=I.unpinned (pl:=[PKs kS e [q0,q1]]);unfold ksk_end
 try dsimp only
 simp only [Gc,if_false];have h2:¬ its.toArray.size<2:=by simp [el]
 rw [F0 h2,F0 h2];refine Fv (Zne J0 lk (Fh _) ?_);refine Fv (F7 (kat_run (vs:=its) (ks:=Zr [q0,q1]) (G:=fun p s'=>s'=s/\p=if HT.lexLt q1.2.2 q0.2.2=true then #[1,0] else #[0,1]) (Q:=fun st' s'=>∃ p:Array Nat,s'=s/\(p=if HT.lexLt q1.2.2 q0.2.2=true then #[1,0] else #[0,1])/\arrOf st'=p.map (kas_item ((Zr [q0,q1]).toArray.zip its.toArray))/\failedOf st'=none) ek (by lia) (by lia)
  (fun p st' s' a1 a2 a3 a4=>⟨p,a4.1,a4.2,a2,a3⟩)
  (by
   rw [el];exact Zpj (b:=HT.lexLt q1.2.2 q0.2.2) (fun C hC=>Zqv J0 hu lk (i:=1) (j:=0) (Bf 1) (Fh 1) C hC) ⟨rfl,rfl⟩)) ?_ fun _ _ x=>x)
 rintro ⟨⟨⟩,st'⟩ s' ⟨p,rfl,ep,har,hf⟩;have hp:∀ i∈p.toList,i<2:=fun i hi=>by
  rw [ep] at hi;cases hb:HT.lexLt q1.2.2 q0.2.2 with
  | true=>rw [hb] at hi; simp at hi; lia
  | false=>rw [hb] at hi; simp at hi; lia
 have hm:([q0.1,q1.1]:List V)=([q0,q1]:List KIt).map (·.1):=rfl;refine Tx (L':=p.toList.map fun i=>([q0,q1]:List KIt).getD i (.non,0,[])) (out:=p.toList.map fun i=>its.getD i Value.none) I (show 2<64 by decide) fD fK (kat_snds ek har) hf ?_ (by rw [Ja,ep]; cases HT.lexLt q1.2.2 q0.2.2 <;> rfl) fun s' hI=>h s' ?_
 ·have:=Vals.perm_get (L:=[q0,q1]) rv (p:=p.toList) hp;rw [Gd];exact this
 ·have e3:(p.toList.map fun i=>([q0,q1]:List KIt).getD i (.non,0,[])).map (·.1)=two (HT.lexLt q1.2.2 q0.2.2) q0.1 q1.1:=by
   rw [ep];cases HT.lexLt q1.2.2 q0.2.2 <;> rfl
  rw [<- e3];exact hI
theorem Zdh {D f:Addr} {eD:Nat} {y0 y1:V} {z0 z1:List Int} {P:PySem.Fin->Shared->Prop} (I:Inv X ((pq++[PD D eD])++[PKs kS 0 []]) σ H s) (h64:ys.length<64) (hlen:ys.length=ws.length) (hu:A.units<cLine) (fD:FpOk X pq H D) (fK:FpOk X (pq++[PD D eD]) H kS)
  (ey:ys=[y0,y1]) (ew:ws=[z0,z1]) (rv:Vals ys its)
  (hcall:∀ (pins':List (Addr×Obj)) (s':Shared) (H2:Hp) (i:Nat) (h1:i<ys.length) (h2:i<ws.length) (u:Value),(∀ p∈pq,p∈pins')->Same H H2->Inv X pins' σ H2 s'->RelV ys[i] u ->
   wpAny (model X.prog X.w) A (call (.ref f) [u]) (EP X pins' σ fun v H'=>Same H2 H'/\KmAt X.K H' v ws[i]) (fun _ _=>False) s')
  (h:∀ (s':Shared) (H2:Hp),Same H H2->H2 D=none->Inv X pq σ (upd H2 D (.lst (two (HT.lexLt z1 z0) y0 y1))) s'->P (.done (.ret .none)) s') :
  wpAny (model X.prog X.w) A (ksk_rest D (.ref f) false its.toArray eD (.ref kS)) P E s:=by
 have el:its.length=ys.length:=by have:=rv.length; lia
 unfold ksk_rest;refine Fv (wpAny_rule ?_)
 first
  | rw [List.forIn_toArray]
  | (rw [<- Bh]; simp only [List.toList_toArray])
  | rw [<- Bh]
 refine Fv (ksk_fold (fun n s'=>∃ (e:Nat) (H2:Hp) (L:List KIt),L.map (·.1)=ys.take n/\L.map (·.2.2)=ws.take n/\(∀ q∈L,KmQ X.K H2 q)/\Same H H2/\Inv X ((pq++[PD D eD])++[PKs kS e L]) σ H2 s') its 0 s ⟨0,H,[],by simp,by simp,(fun _ z=>nomatch z),Same.refl _,by simpa using I⟩ (fun j x s' hx ⟨e,H2,L,l1,l2,lk,sm,J⟩=>?_) fun s' ⟨e,H2,L,l1,l2,lk,sm,J⟩=>?_)
 ·simp only [B2] at l1 l2 ⊢;have hj:j<its.length:=(Je.mp hx).1;have hj':j<ys.length:=by lia
  have hj2:j<ws.length:=by lia
  have lL:L.length=j:=by have:=congrArg List.length l1; simp at this; lia
  obtain ⟨u,hu',r1⟩:=Vals.get rv (i:=j) (x:=ys[j]) (Jb hj');rw [hx] at hu';cases hu';refine Fv (wpAny_attempt (F7 (hcall _ s' H2 j hj' hj2 x (fun p hp=>Gn _ (Gn _ hp)) sm J r1) (fun k s'' hkk=>?_) fun _ _ hF=>hF.elim));obtain ⟨v,H3,J',rk,sm2,kz⟩:=hkk;obtain ⟨a,ev⟩:∃ a,v=.ref a:=let ⟨a,_,_,_,e,_⟩:=kz; ⟨a,e⟩
  subst ev;obtain rfl:k=Value.ref a:=rk;have pk:=J'.pin (PKs kS e L) (Jl _ (Jl _ (Jh.mpr rfl)));have fK3:FpOk X (pq++[PD D eD]) H3 kS:=fK.after pk.2.1;have s1:=Heap.SameBut.update s''.heap kS (Obj.mapSeq (·.push (Value.ref a)));have ea:(Zr L).toArray.push (Value.ref a)=(Zr (L++[(ys[j],a,ws[j])])).toArray:=by
   have e2:Zr (L++[(ys[j],a,ws[j])])=Zr L++[Value.ref a]:=by
    unfold Zr;rw [Jf];rfl
   rw [e2,List.push_toArray]
  obtain ⟨c2,hc2⟩:∃ c2,(s''.heap.update kS (Obj.mapSeq (·.push (Value.ref a)))).get? kS=some (seqObj "list" (Zr (L++[(ys[j],a,ws[j])])).toArray c2):=⟨_,by rw [<- ea]; exact get?_update_seq pk.1 (·.push (Value.ref a))⟩;have hsz:(Zr L).toArray.size<64:=by simp only [Jn,Zr,Ja]; lia
  try dsimp only
  refine Fv (listUpdate_at pk.1 rfl ?_ (by rw [sizeLine_eq]; show (Zr L).toArray.size<=_; lia) (J8 (G9 (Array.size_push ..)) (by rw [sizeLine_eq]; show (Zr L).toArray.size+1<=_; lia)));refine Fw ⟨rfl,c2,H3,L++[(ys[j],a,ws[j])],?_,?_,fun q hq=>?_,sm.trans sm2,?_⟩
  ·rw [Jf,l1,Ji hj']; rfl
  ·rw [Jf,l2,Ji hj2]; rfl
  ·rcases J9.mp hq with z | z
   ·exact (lk q z).same sm2
   ·rw [Jh.mp z]; exact kz
  ·have J1:=(J'.unpinned (pl:=[PKs kS e L])).turn1 fK3 s1;exact J1.pin1 fK3 hc2 (by intro v; simp)
 ·simp only [B2] at l1 l2;rw [el,Jw] at l1;rw [el,hlen,Jw] at l2;have lL:L.length=ys.length:=by have:=congrArg List.length l1; simpa using this
  have pk:=J.pin (PKs kS e L) (Jl _ (Jl _ (Jh.mpr rfl)));have pD:=J.pin (PD D eD) (Jl _ (Gn _ (Jl _ (Jh.mpr rfl))))
  try dsimp only
  refine Fv (listItems_at pk.1 rfl ?_)
  match L,l1,l2 with
  | [q0,q1],l1,l2 =>
   rw [ew] at l2;rw [ey] at l1;injection l1 with a1 a2
   injection a2 with a2 _
   injection l2 with b1 b2
   injection b2 with b2 _
   have a1:q0.1=y0:=a1;have a2:q1.1=y1:=a2;have b1:q0.2.2=z0:=b1;have b2:q1.2.2=z1:=b2;refine Ze2 J hu (fD.after pD.2.1) (fK.after pk.2.1) lk ?_ fun s' I'=>h s' H2 sm pD.2.1 ?_
   ·rw [a1,a2,<- ey]; exact rv
   ·rw [<- a1,<- a2,<- b1,<- b2]; exact I'
  | [],l1,_=>rw [ey] at l1; cases l1
  | [_],l1,_=>rw [ey] at l1; cases l1
  | _::_::_::_,l1,_=>rw [ey] at l1; cases l1
theorem Zio {f:Addr} {y0 y1:V} {z0 z1:List Int} (I:Inv X pq σ H s) (hl:SqL X.K H l ys) (h64:ys.length<64) (hlen:ys.length=ws.length) (hu:X.A.units+10<cLine) (ey:ys=[y0,y1]) (ew:ws=[z0,z1])
  (hcall:∀ (pins':List (Addr×Obj)) (s':Shared) (H2:Hp) (i:Nat) (h1:i<ys.length) (h2:i<ws.length) (u:Value),(∀ p∈pq,p∈pins')->Same H H2->Inv X pins' σ H2 s'->RelV ys[i] u ->
   wpAny (model X.prog X.w) X.A.in1.in1 (call (.ref f) [u]) (EP X pins' σ fun v H'=>Same H2 H'/\KmAt X.K H' v ws[i]) (fun _ _=>False) s')
  (h:∀ (D:Addr) (H2:Hp),Same H H2->H2 D=none->Q (.ref D) (upd H2 D (.lst (two (HT.lexLt z1 z0) y0 y1)))) :
  wpAny (model X.prog X.w) X.A (call (.builtin "sorted") [.ref l] [(Str.ofString "key",.ref f)]) (EP X pq σ Q) E s:=by
 obtain ⟨its,rv,pl,_⟩:=I.list hl;have el:its.length=ys.length:=by have:=rv.length; lia
 refine call_function_entry_kw kind_sorted plain_sorted entry_sorted (ksk_s1 _ _) ?_;unfold Builtin.«sorted»;refine Fv (m:=checkCount "sorted" 1 1 _) (Fw ?_);refine Fv (collect_list pl.isList ?_ (by rw [sizeLine_eq]; lia));refine Fv (wpAny_newList ?_ (by rw [sizeLine_eq]; lia));have hsz:((s.heap.push (seqObj "list" #[] 0)).update s.heap.objs.size (Obj.mapSeq (·++its.toArray))).objs.size=s.heap.objs.size+1:=by
  rw [Heap.size_update,size_push']
 have hoL:(((s.heap.push (seqObj "list" #[] 0)).update s.heap.objs.size (Obj.mapSeq (·++its.toArray))).push (seqObj "list" its.toArray 0)).get? (s.heap.objs.size+1)=some (seqObj "list" its.toArray 0):=by
  rw [<- hsz]; exact Fy _ rfl
 have keep:∀ b o,s.heap.get? b=some o->(((s.heap.push (seqObj "list" #[] 0)).update s.heap.objs.size (Obj.mapSeq (·++its.toArray))).push (seqObj "list" its.toArray 0)).get? b=some o:=fun b o q=>by
  have hlt:b<s.heap.objs.size:=Fz q;rw [Heap.get?_push_ne _ _ _ (by rw [hsz]; exact Gf (Nat.lt_succ_of_lt hlt)),Heap.get?_update_ne _ _ _ _ (Gf hlt),Heap.get?_push_ne _ _ _ (Gf hlt)];exact q
 have fD:FpOk X pq H (s.heap.objs.size+1):=I.fpOk (Bj _) (I.hok.fresh (Bj _));have I1:Inv X pq σ H { s with heap:=((s.heap.push (seqObj "list" #[] 0)).update s.heap.objs.size (Obj.mapSeq (·++its.toArray))).push (seqObj "list" its.toArray 0) }:=I.kept (t':=s.toks) keep;show wpAny _ _ _ _ _ { s with heap:=((s.heap.push (seqObj "list" #[] 0)).update s.heap.objs.size (Obj.mapSeq (·++its.toArray))).push (seqObj "list" its.toArray 0) };rw [hsz];generalize hD:s.heap.objs.size+1=D at *
 generalize hh:((s.heap.push (seqObj "list" #[] 0)).update s.heap.objs.size (Obj.mapSeq (·++its.toArray))).push (seqObj "list" its.toArray 0)=hp at *
 refine Fv (wpAny_holding (wpAny_call_entry_kw slot_list_sort ⟨_,hoL,rfl⟩ entry_list_sort ?body (ksk_l1 _ _)))
 case body =>
  show wpAny (model X.prog X.w) X.A.in1.in1 (Builtin.«list.sort» ⟨[.ref D],[(Str.ofString "key",.ref f)]⟩) _ _ _;rw [ksk_t1];have s1:=Heap.SameBut.update hp D (Obj.mapSeq fun _=>(#[]:Array Value));obtain ⟨e1,ho1⟩:∃ e1,(hp.update D (Obj.mapSeq fun _=>(#[]:Array Value))).get? D=some (seqObj "list" #[] e1):=⟨_,get?_update_seq hoL fun _=>#[]⟩;have I2:=(I1.turn1 fD s1).pin1 fD ho1 (by intro v; simp);have I3:Inv X (pq++[PD D e1]) σ H { s with heap:=((hp.update D (Obj.mapSeq fun _=>(#[]:Array Value))).push (seqObj "tuple" its.toArray 0)).push (seqObj "list" #[] 0) } :=
   I2.kept (t':=s.toks) fun b o e=>Fx _ (Fx _ e)
  have hKz:(hp.update D (Obj.mapSeq fun _=>(#[]:Array Value))).objs.size<=((hp.update D (Obj.mapSeq fun _=>(#[]:Array Value))).push (seqObj "tuple" its.toArray 0)).objs.size:=by rw [size_push']; exact Bj _
  have fK:FpOk X (pq++[PD D e1]) H ((hp.update D (Obj.mapSeq fun _=>(#[]:Array Value))).push (seqObj "tuple" its.toArray 0)).objs.size:=I2.fpOk hKz (I2.hok.fresh hKz);unfold ksk_tree;refine Fv (listItems_at hoL rfl ?_);refine Fv (listUpdate_at hoL rfl ?_ (by rw [Jn,sizeLine_eq]; lia) (Jz _));refine Fv (seqEpoch_at ho1 rfl ?_);refine Fv (wpAny_newTuple ?_ (by show its.length<=_; rw [sizeLine_eq]; lia));refine Fv (wpAny_newList ?_ (Jz _));refine wpAny_holding ?_;refine Zdh (I3.pin1 fK (Fy _ rfl) (by intro v; simp)) h64 hlen (by show X.A.units+1+1<cLine; lia) fD fK ey ew rv hcall fun s' H2 sm nD I'=>?_
  exists ·,Fw ⟨_,rfl,.ref D,_,I',rfl,h D H2 sm nD⟩
end
section
variable {a:Addr} {kvs:List (Key×V)} {k:Key} {u fv:Value} {z:V} 
theorem Zrh {Q:Value->Shared->Prop} (I:Inv X pq σ H s) (e:H a=some (.dK kvs)) (ry:RelV (kV k) u) (rz:RelV z fv) (hl:kvs.length<sizeLine)
  (h1:∀ v w' s',valV kvs k=some v->Inv X pq σ H s'->RelV v w'->Q w' s') (h2:valV kvs k=none->∀ s',Inv X pq σ (upd H a (.dK (putK kvs k z))) s'->Q fv s') :
  wpAny (model X.prog X.w) A (call (.builtin "dict.setdefault") [.ref a,u,fv]) Q E s:=by
 obtain ⟨hz,hd,vs,rel,dd⟩:=Zbh I.hok e;have hl2:(putK kvs k z).length<=sizeLine:=by have:=Yl kvs k z; lia
 refine call_meetsIn PySem.F.slot_dict_setdefault dd.typeIs PySem.F.entry_dict_setdefault (PySem.F.args_dict_setdefault_3 _ _ _) (kt_meets_setdefault (Z3 X.prog X.w) a (Qq ry) hd fv)
  ⟨vs,dd,by rw [<- rel.length]; exact hz,fun w' hw=>?_,fun hn h' dd' hs=>?_⟩
 ·cases l:valV kvs k with
  | none=>have:=RelO.none_of (by rw [<- l]; exact rel.val k); rw [this] at hw; cases hw
  | some v =>
   obtain ⟨w2,hw2,rw2⟩:=RelO.some_of (v:=v) (o:=valueAt vs k) (by rw [<- l]; exact rel.val k);rw [hw] at hw2;cases hw2;exact h1 v w' _ l (I.tok _) rw2
 ·have l:valV kvs k=none:=by
   cases l:valV kvs k with
   | none=>rfl
   | some v =>
    obtain ⟨w2,hw2,rw2⟩:=RelO.some_of (v:=v) (o:=valueAt vs k) (by rw [<- l]; exact rel.val k);rw [hn] at hw2;cases hw2
  have he:∃ q,h'.get? a=some q:=let ⟨q,_,_,hq,_⟩:=dd'; ⟨q,hq⟩
  exact h2 l _ (Wx I (by rw [e]; exact True.intro) hs he (Nk hl2 hd (rel.put k rz) dd'))
end
def Zj9 (td ty tx:TE):TE:=fun σ H Q=>td σ H fun x H1=>∃ a,x=.ref a/\IsD H1 a/\ty σ H1 fun y H2=>tx σ H2 fun z H3=>∃ kvs k,H3 a=some (.dK kvs)/\y=kV k/\kvs.length<sizeLine /\
 (∀ v,valV kvs k=some v->Q v H3)/\(valV kvs k=none->Q z (upd H3 a (.dK (putK kvs k z))))
section
variable {o e f:Expr} {ty tx:TE}
def Zi1 (ho:PE X o td) (he:PE X e ty) (hf:PE X f tx) (m:M2 X o "setdefault" apos e f cpos):PE X (.Call (.Attribute o "setdefault" apos) [e,f] [] cpos) (Zj9 td ty tx):=by
 intro pq s σ H Q I h;refine wpAny_Call_method m.base m.few m.line PySem.F.plainAttrs_dict PySem.F.slot_dict_setdefault PySem.F.type_dict_setdefault (thn (ho pq s σ H _ I h) fun u s1 hz=>?_);obtain ⟨x,H1,I1,rx,a,ex,d,q1⟩:=hz;subst ex;obtain rfl:u=Value.ref a:=rx;obtain ⟨t1,t2,_⟩:=isD_at I1 d;refine ⟨t1,t2,?_⟩;rw [m.trees];refine Calls.callWith_builtin rfl (Calls.evalArgs_plain (Calls.spliced_cons (thn (he pq s1 σ H1 _ I1 q1) fun iv s2 ⟨y,H2,I2,ry,q2⟩ =>
  Calls.spliced_cons (thn (hf pq s2 σ H2 _ I2 q2) fun fv s3 ⟨z,H3,I3,rz,kvs,k,ea,ey,hl,q3,q4⟩=>Calls.spliced_nil ?_))))
 subst ey;exact Zrh I3 ea ry rz hl (fun v w' s4 l I4 rw'=>⟨v,H3,I4,rw',q3 v l⟩) fun l s4 I4=>⟨z,_,I4,rz,q4 l⟩
def Zkk:List V->Hp->VK->Prop:=fun xs H Q=>∃ a kvs,xs=[.ref a]/\Rd H a (.dK kvs)/\Q (.int (kvs.length:Nat)) H
def Zjw:Vj X (.builtin "len") Zkk:=by
 intro pq s2 σ H2 xs us Q I2 r h;obtain ⟨a,kvs,rfl,e,q⟩:=h;obtain ⟨u,rfl,ru⟩:=Vals.one r;obtain rfl:u=Value.ref a:=ru;exact Ztj I2 e fun t s' I'=>⟨.int _,H2,I',⟨t,rfl⟩,q⟩
end
end L2
namespace L2
open PySem PySem.Spec PyProof.Rows PySem.W HT PySem.Calls
section
variable {K:Type} [DecidableEq K] {knd:HeapKind P w K} {d a:Addr} {k:K} {xs:List (K×Addr×Value)}
theorem Ze6 {v:Value} {Q:Value->Shared->Prop} (hu:knd.room A) (hkey:knd.is s.heap k a) (hm:s.heap.DictOfH knd d xs)
  (h1:∀ p,atKey xs k=some p->Q p.2 { s with toks:=s.toks+knd.draws k })
  (h2:atKey xs k=none->∀ h',h'.DictOfH knd d (storedH xs k a v)->Heap.SameBut d s.heap h'->Q v { s with heap:=h',toks:=s.toks+knd.draws k })
  (hsz:xs.length<=sizeLine):wpAny (model P w) A (dictSetDefault d (.ref a) v) Q E s:=by
 obtain ⟨o,es,ep,ho,hc,hd,he,his,hn⟩:=hm;unfold dictSetDefault
 try with_reducible refine wpAny_holding ?_
 refine Fv (knd.pyHash hu hkey ?_);refine Fv (wpAny_dictFind_heap (s:={ s with toks:=s.toks+knd.draws k }) hu hkey ho hd he his hn ?_ ?_)
 ·intro hno;have hnot:k∉xs.map (·.1):=not_mem_keys_of_get hno;refine Fv (wpAny_rule (Fv (wpAny_updateDictKeys (hz:=by have e:=size_of_entries he; lia) (s:={ s with toks:=s.toks+knd.draws k }) ho hd (Fw (h2 (atKey_none_of_get hno) _ ⟨_,_,ep+1,Heap.get?_update_self _ ho (Obj.isFreed_of_dict (Obj.data_mapDictKeys hd _)),
   hc.mapDictKeys _,Obj.data_mapDictKeys hd _,?_,?_,?_⟩ (Heap.SameBut.update ..))))))
  ·rw [storedH_new (atKey_none_of_get hno)];simp [he,entryOfKey]
  ·rw [storedH_new (atKey_none_of_get hno)];intro x hx;rcases J9.mp hx with hx | hx
   ·exact knd.keeps (his x hx) ho hd (Heap.SameBut.update ..)
   ·simp only [Jh] at hx;subst hx;exact knd.keeps hkey ho hd (Heap.SameBut.update ..)
  ·rw [storedH_new (atKey_none_of_get hno)];rw [Jf,Bv];exists hn,by simp,?_;intro x hx y hy;simp only [Ju,List.map_nil,Jh] at hy;subst hy;exact fun e=>hnot (e ▸ hx)
 ·intro j p hj;refine Fv (wpAny_dictEntries (s:={ s with toks:=s.toks+knd.draws k }) ho hd ?_);rw [entry_at he j,hj];exact Fv (wpAny_rule (Fw (h1 p (atKey_of_get hn hj))))
def Za2 (hd:(d == sysModules)=false) (v:Value) :
  MeetsIn P w (Builtin.«dict.setdefault» ⟨[.ref d,.ref a,v],[]⟩) (fun A R s=>knd.room A.in1/\∃ k xs,knd.is s.heap k a/\s.heap.DictOfH knd d xs/\xs.length<=sizeLine /\
   (∀ p,atKey xs k=some p->R (.ok (.ret p.2)) { s with toks:=s.toks+knd.draws k }) /\
   (atKey xs k=none->∀ h',h'.DictOfH knd d (storedH xs k a v)->Heap.SameBut d s.heap h'->R (.ok (.ret v)) { s with heap:=h',toks:=s.toks+knd.draws k })) :=
 .of_wp fun A R s ⟨hu,k,xs,hkey,hm,hz,h1,h2⟩=>by
  unfold Builtin.«dict.setdefault»;refine Fv ?_;unfold Builtin.Dict.keyAndDefault;refine Fv (wpAny_notOrdered_dict hm.typeIs ?_);show wpAny _ _ (pure (d,Value.ref a,some v)) _ _ s;refine Fw ?_;show wpAny _ _ (if (d == sysModules)=true then _ else (dictSetDefault d (.ref a) v >>= _)) _ _ s;rw [F0 (by rw [hd]; exact Jp)];exact Fv (Ze6 hu hkey hm (fun p hp=>Fw ⟨p.2,rfl,h1 p hp⟩) (fun hn h' hm' hs'=>Fw ⟨v,rfl,h2 hn h' hm' hs'⟩) hz)
end
section
variable {d b:Addr} {sh:List Nat} {kvs:List Nkv} {k:List NI} 
theorem Zqs {u:Value} {Q:Value->Shared->Prop} (hu:A.units+2<cLine) (I:Inv X pq σ H s) (g:DnAt X.K H d sh kvs) (hm:H d=some (.ext (dnP d kvs))) (hl:kvs.length<sizeLine) (hk:NkAt X.K H k b) (hs:NI.shp k=sh) (rv:RelV v u)
  (h1:∀ x w' s',valN kvs k=some x->Inv X pq σ H s'->RelV x w'->Q w' s') (h2:valN kvs k=none->∀ s',Inv X pq σ (upd H d (.ext (dnP d (putN kvs k b v)))) s'->Q u s') :
  wpAny (model X.prog X.w) A (call (.builtin "dict.setdefault") [.ref d,.ref b,u]) Q E s:=by
 obtain ⟨z,hd,xs,rel,dd⟩:=Zdy I g;have hz:xs.length<=sizeLine:=by rw [<- Paired.length rel]; exact z
 have hl':(putN kvs k b v).length<=sizeLine:=by have:=Zcc kvs k b v; lia
 refine call_meetsIn PySem.F.slot_dict_setdefault dd.typeIs PySem.F.entry_dict_setdefault (PySem.F.args_dict_setdefault_3 _ _ _) (Za2 (knd:=Vq X.prog X.w sh) hd u)
  ⟨(show A.units+1+1<cLine by lia),k,xs,⟨Zgb I hk,hs⟩,dd,hz,fun p hp=>?_,fun hn h' dd' hs'=>?_⟩
 ·have q:=rel.val k;rw [hp] at q;cases l:valN kvs k with
  | none=>rw [l] at q; exact Fs q id
  | some x=>rw [l] at q; exact h1 x _ _ l (I.tok _) q
 ·have q:=rel.val k;rw [hn] at q;have l:valN kvs k=none:=by
   cases l:valN kvs k with
   | none=>rfl
   | some x=>rw [l] at q; exact Fs q id
  obtain ⟨q,es,ep,hq,h2',h3,h4,_,h5⟩:=dd';exact h2 l _ (Wx I (by rw [hm]; exact True.intro) hs' ⟨q,hq⟩ (dnP.ok ⟨hl',hd,_,rel.put k b rv,q,es,ep,hq,h2',h3,h4,h5⟩))
end
def Zj8 (K:W.Frag) (td ty tx:TE):TE:=fun σ H Q=>td σ H fun x H1=>∃ a,x=.ref a/\IsN K H1 a/\ty σ H1 fun y H2=>tx σ H2 fun z H3=>∃ b sh kvs k,y=.ref b/\DnAt K H3 a sh kvs/\H3 a=some (.ext (dnP a kvs))/\kvs.length<sizeLine/\NkAt K H3 k b/\NI.shp k=sh /\
 (∀ v,valN kvs k=some v->Q v H3)/\(valN kvs k=none->Q z (upd H3 a (.ext (dnP a (putN kvs k b z)))))
section
variable {o e f:Expr} {ty tx:TE} 
theorem Ziz (hK:X.K=K) (hu:X.A.units+200<cLine) (ho:PE X o td) (he:PE X e ty) (hf:PE X f tx) (m:M2 X o "setdefault" apos e f cpos):PE X (.Call (.Attribute o "setdefault" apos) [e,f] [] cpos) (Zj8 K td ty tx):=by
 subst hK;intro pq s σ H Q I h;refine wpAny_Call_method m.base m.few m.line PySem.F.plainAttrs_dict PySem.F.slot_dict_setdefault PySem.F.type_dict_setdefault (thn (ho pq s σ H _ I h) fun u s1 hz=>?_);obtain ⟨x,H1,I1,rx,a,ex,⟨sh0,kvs0,g⟩,q1⟩:=hz;subst ex;obtain rfl:u=Value.ref a:=rx;obtain ⟨_,_,xs,_,dd⟩:=Zdy I1 g;exists dd.typeIs,fun b q=>?_,?_
 ·cases q;obtain ⟨ob,_,_,h1,h2,_⟩:=dd;exists ob,h1,h2.2.1
 rw [m.trees];refine Calls.callWith_builtin rfl (Calls.evalArgs_plain (Calls.spliced_cons (thn (he pq s1 σ H1 _ I1 q1) fun iv s2 ⟨y,H2,I2,ry,q2⟩ =>
  Calls.spliced_cons (thn (hf pq s2 σ H2 _ I2 q2) fun fv s3 ⟨z,H3,I3,rz,b,sh,kvs,k,ey,g3,hm,hl,hk,hs,q3,q4⟩=>Calls.spliced_nil ?_))))
 subst ey;obtain rfl:iv=Value.ref b:=ry;exact Zqs (by lia) I3 g3 hm hl hk hs rz (fun v w' s4 l I4 rw'=>⟨v,H3,I4,rw',q3 v l⟩) fun l s4 I4=>⟨z,_,I4,rz,q4 l⟩
end
def Zo4 (i j k:Nat) (ta:TA):TS:=fun D σ H=>ta σ H fun vs H1=>∃ u v w,vs=[u,v,w]/\D.nx (((σ.set i (some u)).set j (some v)).set k (some w)) H1
def Zmn {i k:Nat} {x y z:Str} {a b c:Expr} {ta:TA} {px py pz pt:Pos} {kt k2 pt2} (hc:X.calm=true) (hN:X.N.Nodup) (hi:X.N[i]?=some x) (hj:X.N[j]?=some y) (hk:X.N[k]?=some z) (hij:i≠j) (hik:i≠k) (hjk:j≠k)
  (hx:X.env.scope.names.lookup x=some .local) (hy:X.env.scope.names.lookup y=some .local) (hz:X.env.scope.names.lookup z=some .local) (ha:PA X [a,b,c] ta)
  (hw:swappedStores [.Tuple [.Name x px,.Name y py,.Name z pz] kt pt] (.Tuple [a,b,c] k2 pt2) X.env=pure (some [x,y,z]))
  (hs:swapsWithSole [.Tuple [.Name x px,.Name y py,.Name z pz] kt pt] (.Tuple [a,b,c] k2 pt2) pos.line X.env=pure false:=by rfl) :
  PS X (.Assign [.Tuple [.Name x px,.Name y py,.Name z pz] kt pt] (.Tuple [a,b,c] k2 pt2) pos) (Zo4 i j k ta):=by
 intro pq s σ H D I h;rw [exec_Assign_arm];refine Fv (wpAny_standAt ?_);rw [hs];refine Fv (Fw ?_);rw [F0 nofun];refine Fv (Tuple_ (thn (ha _ pq s σ H _ I h) fun us s1 hz=>?_));obtain ⟨vs,H1,I1,r1,q1⟩:=hz;obtain ⟨u,v,w,e1,q1⟩:=q1;subst e1;obtain ⟨u1,u2,u3,rfl,ru,rv,rw'⟩:∃ u1 u2 u3,us=[u1,u2,u3]/\RelV u u1/\RelV v u2/\RelV w u3:=by
  cases r1 with
  | cons p q =>
   cases q with
   | cons p' q' =>
    cases q' with
    | cons p'' q'' =>
     cases q'';exists _,_,·,p,p',p''
 refine wpAny_newObj_type ?_ (by show 3<=sizeLine; decide);have I2:Inv X pq σ H1 { s1 with heap:=s1.heap.push { cls:=.type "tuple",data:=.seq [u1,u2,u3].toArray } }:=I1.kept (t':=s1.toks) fun b o e=>Fx _ e;rw [hw];refine Fv (Fw ?_);show wpAny (model X.prog X.w) X.A (do rule "assign.swapped-stores"; let items <- unpackItems (.ref s1.heap.objs.size) 3 none; assignInOrder [fun v=>bindName X.env z v,fun v=>bindName X.env y v,fun v=>bindName X.env x v] items.reverse; pure Flow.next) _ _ _;refine Fv (wpAny_rule (Fv (unpackItems_tuple (items:=#[u1,u2,u3]) (I.ok.hd hc) (IsTup.new s1.heap _) fun h' hx'=>?_)))
 have I3:=I2.kept (h':=h') (t':=s1.toks) fun b o e=>hx' b o (Gf (Fz e)) e;show wpAny _ _ (assignInOrder [fun v=>bindName X.env z v,fun v=>bindName X.env y v,fun v=>bindName X.env x v] [u3,u2,u1] >>= fun _=>pure Flow.next) _ _ _;refine Fv (assignInOrder_cons (wpAny_bindName (Vo I3 hN hk (.inl hz) rw' (fun s2 I4=>?_) (.inr hz))));refine assignInOrder_cons (wpAny_bindName (Vo I4 hN hj (.inl hy) rv (fun s3 I5=>?_) (.inr hy)));refine assignInOrder_cons (wpAny_bindName (Vo I5 hN hi (.inl hx) ru (fun s4 I6=>assignInOrder_nil (Fw ?_)) (.inr hx)));rw [List.set_comm _ _ (Ne.symm hij),List.set_comm _ _ (Ne.symm hik),List.set_comm _ _ (Ne.symm hjk)] at I6
 exists _,H1,I6,q1
end L2
namespace L3
open PySem L2
structure Cf where
 c:Addr
 k:W.Frag
variable {C:L3.Cf}
inductive D where
 | non | bl (b:Bool) | int (i:Int) | str (x:Str) | ty (n:String) | at (a:Addr)
 | tup (xs:List D) | lst (xs:List D) | frz (xs:List D) | dct (kvs:List (Key×D)) | dcT (kvs:List (List Key×D))
 | code (S:List Pr) | cell (k:Nat) | exc (C:Addr) (fs:List (Str×D)) | nst (ks:List NI) | itp (x:List Int)
variable {ds:List L3.D}
inductive MO where
 | lst (xs:List D) | dct (kvs:List (Key×D)) | dcT (kvs:List (List Key×D)) | drK (kvs:List (Key×D)) | drT (kvs:List (List Key×D)) | dfT (o:Obj) (vs:List (List Key×V)) (kvs:List (List Key×D)) | dfK (o:Obj) (vs:List (Key×V)) (kvs:List (Key×D)) | ins (C:Addr) (fs:List (Str×D)) | hand | tab (P:Addr) (pos:Pos) (q:Str) | dcN (sh:List Nat) (z:Option (Obj×List Nkv)) (kvs:List (List NI×D))
variable {m:L3.MO}
abbrev Mem:=List MO
mutual
inductive Rep (C:Cf) (I:Hp) (α:List Addr):V->D->Prop where
 | non:Rep C I α .non .non
 | bl (b:Bool):Rep C I α (.bl b) (.bl b)
 | int (i:Int):Rep C I α (.int i) (.int i)
 | str (x:Str):Rep C I α (.str x) (.str x)
 | ty (n:String):Rep C I α (.ty n) (.ty n)
 | at (a:Addr):Rep C I α (.ref a) (.at a)
 | tup {a:Addr} {vs:List V} {ds:List D}:I a=some (.tup vs)->Reps C I α vs ds->Rep C I α (.ref a) (.tup ds)
 | lst {a:Addr} {vs:List V} {ds:List D}:I a=some (.lst vs)->Reps C I α vs ds->Rep C I α (.ref a) (.lst ds)
 | frz {a:Addr} {vs:List V} {ds:List D}:SqL C.k I a vs->Reps C I α vs ds->Rep C I α (.ref a) (.frz ds)
 | dct {a:Addr} {vs:List (Key×V)} {ds:List (Key×D)}:I a=some (.dK vs)->RepK C I α vs ds->Rep C I α (.ref a) (.dct ds)
 | dcT {a:Addr} {vs:List (List Key×V)} {ds:List (List Key×D)}:I a=some (.dT vs)->RepT C I α vs ds->Rep C I α (.ref a) (.dcT ds)
 | code {x:Addr} {S:List Pr}:Wl C.c I x S->Rep C I α (.ref x) (.code S)
 | cell {a:Addr} {k:Nat}:α[k]?=some a->Rep C I α (.ref a) (.cell k)
 | exc {ea Ce:Addr} {d:Option Addr} {vs:List (Str×V)} {fs:List (Str×D)}:I ea=some (.ext (excP ea Ce d))->XD I d vs->RepF C I α vs fs->Rep C I α (.ref ea) (.exc Ce fs)
 | nst {a:Addr} {ks:List NI}:NkAt C.k I ks a->Rep C I α (.ref a) (.nst ks)
 | itp {a:Addr} {x:List Int}:SqT C.k I a (x.map V.int)->Rep C I α (.ref a) (.itp x)
inductive Reps (C:Cf) (I:Hp) (α:List Addr):List V->List D->Prop where
 | nil:Reps C I α [] []
 | cons {v:V} {d:D} {vs:List V} {ds:List D}:Rep C I α v d->Reps C I α vs ds->Reps C I α (v::vs) (d::ds)
inductive RepK (C:Cf) (I:Hp) (α:List Addr):List (Key×V)->List (Key×D)->Prop where
 | nil:RepK C I α [] []
 | cons {k:Key} {v:V} {d:D} {vs:List (Key×V)} {ds:List (Key×D)}:Rep C I α v d->RepK C I α vs ds->RepK C I α ((k,v)::vs) ((k,d)::ds)
inductive RepF (C:Cf) (I:Hp) (α:List Addr):List (Str×V)->List (Str×D)->Prop where
 | nil:RepF C I α [] []
 | cons {k:Str} {v:V} {d:D} {vs:List (Str×V)} {ds:List (Str×D)}:Rep C I α v d->RepF C I α vs ds->RepF C I α ((k,v)::vs) ((k,d)::ds)
inductive RepT (C:Cf) (I:Hp) (α:List Addr):List (List Key×V)->List (List Key×D)->Prop where
 | nil:RepT C I α [] []
 | cons {k:List Key} {v:V} {d:D} {vs:List (List Key×V)} {ds:List (List Key×D)}:Rep C I α v d->RepT C I α vs ds->RepT C I α ((k,v)::vs) ((k,d)::ds)
end
section
def Zfw {k:Nat} {a:Addr} (p:α<+:α') (h:α[k]?=some a):α'[k]?=some a:=by
 obtain ⟨t,rfl⟩:=p;obtain ⟨hk,_⟩:=Je.mp h;rw [Jv hk];exact h
mutual
theorem Rep.mono (s:Same I I') (p:α<+:α'):∀ {v:V} {d:D},Rep C I α v d->Rep C I' α' v d:=by
 intro _ _ h;cases h with
 | non=>exact .non
 | bl b=>exact .bl b
 | int i=>exact .int i
 | str x=>exact .str x
 | ty n=>exact .ty n
 | «at» a=>exact .at a
 | tup e r=>exact .tup (s _ _ e) (Reps.mono s p r)
 | lst e r=>exact .lst (s _ _ e) (Reps.mono s p r)
 | frz e r=>exact .frz (s.seq e) (Reps.mono s p r)
 | dct e r=>exact .dct (s _ _ e) (RepK.mono s p r)
 | dcT e r=>exact .dcT (s _ _ e) (RepT.mono s p r)
 | code h=>exact .code (h.same s)
 | cell e=>exact .cell (Zfw p e)
 | exc e f r=>exact .exc (s _ _ e) (f.mono s) (RepF.mono s p r)
 | nst e=>exact .nst (e.same s)
 | itp e=>exact .itp (Ud s e)
theorem Reps.mono (s:Same I I') (p:α<+:α'):∀ {vs:List V} {ds:List D},Reps C I α vs ds->Reps C I' α' vs ds:=by
 intro _ _ h;cases h with
 | nil=>exact .nil
 | cons h r=>exact .cons (Rep.mono s p h) (Reps.mono s p r)
theorem RepK.mono (s:Same I I') (p:α<+:α'):∀ {vs:List (Key×V)} {ds:List (Key×D)},RepK C I α vs ds->RepK C I' α' vs ds:=by
 intro _ _ h;cases h with
 | nil=>exact .nil
 | cons h r=>exact .cons (Rep.mono s p h) (RepK.mono s p r)
theorem RepF.mono (s:Same I I') (p:α<+:α'):∀ {vs:List (Str×V)} {ds:List (Str×D)},RepF C I α vs ds->RepF C I' α' vs ds:=by
 intro _ _ h;cases h with
 | nil=>exact .nil
 | cons h r=>exact .cons (Rep.mono s p h) (RepF.mono s p r)
theorem RepT.mono (s:Same I I') (p:α<+:α'):∀ {vs:List (List Key×V)} {ds:List (List Key×D)},RepT C I α vs ds->RepT C I' α' vs ds:=by
 intro _ _ h;cases h with
 | nil=>exact .nil
 | cons h r=>exact .cons (Rep.mono s p h) (RepT.mono s p r)
end
theorem Reps.length:∀ {vs:List V} {ds:List D},Reps C I α vs ds->vs.length=ds.length:=by
 intro _ _ hz9;cases hz9 with
 | nil=>
  exact rfl
 | cons _ r=>
  exact by rw [Jq,Jq,Reps.length r]
theorem Reps.get:∀ {vs:List V} {ds:List D} {i:Nat} {d:D},Reps C I α vs ds->ds[i]?=some d->∃ v,vs[i]?=some v/\Rep C I α v d
 | _,_,_,_,.nil,e=>by simp at e
 | _,_,0,_,.cons r _,e=>by simp at e; subst e;exists ·,r
 | _,_,i+1,d,.cons _ t,e=>by
  obtain ⟨u,h1,h2⟩:=Reps.get (i:=i) (d:=d) t (by simpa using e);exists u,by simpa using h1,h2
theorem Reps.at:∀ {vs:List V} {ds:List D} {i:Nat},Reps C I α vs ds->(h1:i<vs.length)->(h2:i<ds.length)->Rep C I α vs[i] ds[i]:=fun {vs ds i} r h1 h2=>by
 obtain ⟨v,e,z⟩:=r.get (Jb h2);rw [Jb h1] at e;cases e;exact z
theorem Reps.app:∀ {vs ws:List V} {ds es:List D},Reps C I α vs ds->Reps C I α ws es->Reps C I α (vs++ws) (ds++es):=by
 intro _ _ _ _ hz9 s;cases hz9 with
 | nil=>
  exact s
 | cons r t=>
  exact .cons r (Reps.app t s)
def Reps.one {d:D} (h:Rep C I α v d):Reps C I α [v] [d]:=.cons h .nil
def InvR (C:Cf) (I:Hp) (α:List Addr) (v:V):D->Prop
 | .non=>v=.non
 | .bl b=>v=.bl b
 | .int i=>v=.int i
 | .str x=>v=.str x
 | .ty n=>v=.ty n
 | .at a=>v=.ref a
 | .tup ds=>∃ a vs,v=.ref a/\I a=some (.tup vs)/\Reps C I α vs ds
 | .lst ds=>∃ a vs,v=.ref a/\I a=some (.lst vs)/\Reps C I α vs ds
 | .frz ds=>∃ a vs,v=.ref a/\SqL C.k I a vs/\Reps C I α vs ds
 | .dct ds=>∃ a vs,v=.ref a/\I a=some (.dK vs)/\RepK C I α vs ds
 | .dcT ds=>∃ a vs,v=.ref a/\I a=some (.dT vs)/\RepT C I α vs ds
 | .code S=>∃ x,v=.ref x/\Wl C.c I x S
 | .cell k=>∃ a,v=.ref a/\α[k]?=some a
 | .exc Ce fs=>∃ ea d vs,v=.ref ea/\I ea=some (.ext (excP ea Ce d))/\XD I d vs/\RepF C I α vs fs
 | .nst ks=>∃ a,v=.ref a/\NkAt C.k I ks a
 | .itp x=>∃ a,v=.ref a/\SqT C.k I a (x.map V.int)
theorem Rep.inv {d:D} (r:Rep C I α v d):InvR C I α v d:=by
 cases r with
 | non=>rfl
 | bl b=>rfl
 | int i=>rfl
 | str x=>rfl
 | ty n=>rfl
 | «at» a=>rfl
 | tup e r=>exact ⟨_,_,rfl,e,r⟩
 | lst e r=>exact ⟨_,_,rfl,e,r⟩
 | frz e r=>exact ⟨_,_,rfl,e,r⟩
 | dct e r=>exact ⟨_,_,rfl,e,r⟩
 | dcT e r=>exact ⟨_,_,rfl,e,r⟩
 | code h=>exact ⟨_,rfl,h⟩
 | cell e=>exact ⟨_,rfl,e⟩
 | exc e f r=>exact ⟨_,_,_,rfl,e,f,r⟩
 | nst e=>exact ⟨_,rfl,e⟩
 | itp e=>exact ⟨_,rfl,e⟩
def Rep.cellI {a:Addr} {k:Nat} (r:Rep C I α (.ref a) (.cell k)):α[k]?=some a:=by
 obtain ⟨_,e,h⟩:=r.inv;cases e;exact h
def Ztm (C:Cf) (I:Hp) (α:List Addr) (vs:List V):List D->Prop
 | []=>vs=[]
 | d::ds=>∃ v us,vs=v::us/\Rep C I α v d/\Reps C I α us ds
theorem Reps.inv (r:Reps C I α vs ds):Ztm C I α vs ds:=by
 cases r with
 | nil=>rfl
 | cons h r=>exact ⟨_,_,rfl,h,r⟩
def Reps.nilI (r:Reps C I α [] ds):ds=[]:=by
 cases r;rfl
@[elab_as_elim] theorem Reps.e1 {vs:List V} {d:D} {P:List V->Prop} (r:Reps C I α vs [d]) (h:∀ v,Rep C I α v d->P [v]):P vs:=by
 obtain ⟨_,_,rfl,a,r⟩:=r.inv;cases r.inv;exact h _ a
@[elab_as_elim] theorem Reps.e2 {vs:List V} {d e:D} {P:List V->Prop} (r:Reps C I α vs [d,e]) (h:∀ v w,Rep C I α v d->Rep C I α w e->P [v,w]):P vs:=by
 obtain ⟨_,_,rfl,a,r⟩:=r.inv;exact Reps.e1 (P:=fun l=>P (_::l)) r fun _ b=>h _ _ a b
@[elab_as_elim] theorem Reps.e3 {vs:List V} {d e f:D} {P:List V->Prop} (r:Reps C I α vs [d,e,f]) (h:∀ v w x,Rep C I α v d->Rep C I α w e->Rep C I α x f->P [v,w,x]):P vs:=by
 obtain ⟨_,_,rfl,a,r⟩:=r.inv;exact Reps.e2 (P:=fun l=>P (_::l)) r fun _ _ b c=>h _ _ _ a b c
theorem Reps.take:∀ {vs:List V} {ds:List D} (n:Nat),Reps C I α vs ds->Reps C I α (vs.take n) (ds.take n)
 | _,_,0,_=>.nil
 | _,_,_+1,.nil=>.nil
 | _,_,n+1,.cons r t=>.cons r (Reps.take n t)
theorem Reps.drop:∀ {vs:List V} {ds:List D} (n:Nat),Reps C I α vs ds->Reps C I α (vs.drop n) (ds.drop n)
 | _,_,0,r=>r
 | _,_,_+1,.nil=>.nil
 | _,_,n+1,.cons _ t=>Reps.drop n t
def Reps.rev (h:Reps C I α vs ds):Reps C I α vs.reverse ds.reverse:=by
 have go:∀ {vs ws:List V} {ds es:List D},Reps C I α vs ds->Reps C I α ws es->Reps C I α (vs.reverse++ws) (ds.reverse++es):=by
  intro vs
  induction vs with
  | nil=>intro ws ds es h1 h2; cases h1; exact h2
  | cons v vs ih =>
   intro ws ds es h1 h2;cases h1 with
   | cons a b =>
    rw [List.reverse_cons,Ga,List.reverse_cons,Ga];exact ih b (.cons a h2)
 have:=go h .nil;rwa [Gi,Gi] at this
theorem Reps.ints:∀ (ns:List Int),Reps C I α (ns.map V.int) (ns.map D.int)
 | []=>.nil
 | n::r=>.cons (.int n) (Reps.ints r)
theorem Reps.of_ints:∀ {vs:List V} (ns:List Int),Reps C I α vs (ns.map D.int)->vs=ns.map V.int
 | _,[],h=>h.inv
 | _,n::r,h=>by
  obtain ⟨_,_,rfl,a,b⟩:=h.inv;rw [Reps.of_ints r b,a.inv];rfl
end
variable {M:L3.Mem}
def RepN (C:Cf) (I:Hp) (α:List Addr):List Nkv->List (List NI×D)->Prop:=Paired fun p q=>p.1=q.1/\Rep C I α p.2.2 q.2
def S0 (C:Cf) (I:Hp) (sh:List Nat) (vs:List Nkv):Prop:=∀ x∈vs,NkAt C.k I x.1 x.2.1/\NI.shp x.1=sh
def RepN.mono {vs:List Nkv} {ds:List (List NI×D)} (h:RepN C I α vs ds) (s:Same I I') (p:α<+:α'):RepN C I' α' vs ds:=Paired.mapP h fun _ _ z=>⟨z.1,z.2.mono s p⟩
def S0.mono {sh:List Nat} {vs:List Nkv} (h:S0 C I sh vs) (s:Same I I'):S0 C I' sh vs:=fun x hx=>⟨(h x hx).1.same s,(h x hx).2⟩
def MoAt (C:Cf) (I:Hp) (α:List Addr) (H:Hp) (a:Addr):MO->Prop
 | .lst ds=>∃ vs,H a=some (.lst vs)/\Reps C I α vs ds
 | .dct ds=>∃ vs,H a=some (.dK vs)/\RepK C I α vs ds
 | .dcT ds=>∃ vs,H a=some (.dT vs)/\RepT C I α vs ds
 | .drK ds=>∃ vs,Rd H a (.dK vs)/\RepK C I α vs ds
 | .drT ds=>∃ vs,Rd H a (.dT vs)/\RepT C I α vs ds
 | .dfT o vs ds=>H a=some (.frz o (.dT vs))/\RepT C I α vs ds
 | .dfK o vs ds=>H a=some (.frz o (.dK vs))/\RepK C I α vs ds
 | .ins Cl fs=>∃ dx vs,H a=some (.ins Cl dx vs)/\Paired (fun (p:Str×V) (q:Str×D)=>p.1=q.1/\Rep C I α p.2 q.2) vs fs
 | .hand=>∃ (d k:Int) (c:Addr) (cs:List Int),H a=some (.lst [.int d,.int k,.ref c])/\I c=some (.lst (cs.map V.int))/\cs≠[]/\cs.length<=63/\0<=d/\0<=k/\∀ c∈cs,0<=c
 | .dcN sh none ds=>∃ vs,H a=some (.ext (dnP a vs))/\S0 C I sh vs/\RepN C I α vs ds
 | .dcN sh (some z) ds=>H a=some (.frz z.1 (.ext (dnP a z.2)))/\S0 C I sh z.2/\RepN C I α z.2 ds
 | .tab P pos q=>a=P/\∃ ps,H a=some (.tbl ps)/\TriplesOk ps.toList/\(codeAmong pos ps.toList=none\/∃ c,codeAmong pos ps.toList=some (.ref c)/\I c=some (codeφ c q))
theorem MoAt.some {a:Addr} (h:MoAt C I α H a m):∃ o,H a=some o:=by
 cases m with
 | lst ds=>obtain ⟨vs,e,_⟩:=h;exists _,e
 | dct ds=>obtain ⟨vs,e,_⟩:=h;exists _,e
 | dcT ds=>obtain ⟨vs,e,_⟩:=h;exists _,e
 | drK ds=>obtain ⟨vs,e,_⟩:=h; rcases e with e | ⟨o,e⟩ <;> exact ⟨_,e⟩
 | drT ds=>obtain ⟨vs,e,_⟩:=h; rcases e with e | ⟨o,e⟩ <;> exact ⟨_,e⟩
 | dfT o vs ds=>exact ⟨_,h.1⟩
 | dfK o vs ds=>exact ⟨_,h.1⟩
 | ins Cl fs=>obtain ⟨dx,vs,e,_⟩:=h;exists _,e
 | hand=>obtain ⟨d,k,c,cs,e,_⟩:=h;exists _,e
 | tab P pos q=>obtain ⟨_,ps,e,_⟩:=h;exists _,e
 | dcN sh z ds=>cases z with | none=>obtain ⟨vs,e,_⟩:=h; exact ⟨_,e⟩ | some z=>exact ⟨_,h.1⟩
theorem MoAt.mono {a:Addr} (h:MoAt C I α H a m) (s:Same I I') (p:α<+:α') (e:H' a=H a):MoAt C I' α' H' a m:=by
 cases m with
 | lst ds=>obtain ⟨vs,e1,r⟩:=h;exists vs,e.trans e1,r.mono s p
 | dct ds=>obtain ⟨vs,e1,r⟩:=h;exists vs,e.trans e1,r.mono s p
 | dcT ds=>obtain ⟨vs,e1,r⟩:=h;exists vs,e.trans e1,r.mono s p
 | drK ds=>obtain ⟨vs,e1,r⟩:=h;exists vs,e1.imp (fun z=>e.trans z) (fun ⟨o,z⟩=>⟨o,e.trans z⟩),r.mono s p
 | drT ds=>obtain ⟨vs,e1,r⟩:=h;exists vs,e1.imp (fun z=>e.trans z) (fun ⟨o,z⟩=>⟨o,e.trans z⟩),r.mono s p
 | dfT o vs ds=>exact ⟨e.trans h.1,h.2.mono s p⟩
 | dfK o vs ds=>exact ⟨e.trans h.1,h.2.mono s p⟩
 | ins Cl fs=>obtain ⟨dx,vs,e1,r⟩:=h;exists dx,vs,e.trans e1,Paired.mapP r fun _ _ z=>⟨z.1,z.2.mono s p⟩
 | hand=>obtain ⟨d,k,c,cs,e1,e2,r⟩:=h;exists d,k,c,cs,e.trans e1,s _ _ e2,r
 | tab P pos q =>
  obtain ⟨eP,ps,e1,t,r⟩:=h;exists eP,ps,e.trans e1,t,?_;rcases r with r | ⟨c,r1,r2⟩
  ·exact .inl r
  ·exact .inr ⟨c,r1,s _ _ r2⟩
 | dcN sh z ds=>cases z with
  | none=>obtain ⟨vs,e1,k,r⟩:=h;exists vs,e.trans e1,k.mono s,r.mono s p
  | some z=>obtain ⟨e1,k,r⟩:=h;exists e.trans e1,k.mono s,r.mono s p
abbrev X3:=Addr->List (Str×D)->Mem->Prop
structure Anc where
 i:Hp
 a:List Addr
 xe:XK
 kx:X3
variable {Z:L3.Anc}
structure Rel (C:Cf) (Z:Anc) (I:Hp) (α:List Addr) (H:Hp) (M:Mem):Prop where
 ai:Same Z.i I
 aa:Z.a<+:α
 sub:Same I H
 len:α.length=M.length
 nd:α.Nodup
 cel:∀ (k:Nat) (a:Addr) (m:MO),α[k]?=some a->M[k]?=some m->MoAt C I α H a m/\I a=none
section
def Rel.get (R:Rel C Z I α H M) {k:Nat} (h:M[k]?=some m):∃ a,α[k]?=some a/\MoAt C I α H a m/\I a=none:=by
 obtain ⟨hk,_⟩:=Je.mp h;have hk':k < α.length:=by rw [R.len]; exact hk
 exists α[k],Jb hk',R.cel k _ m (Jb hk') h
def Rel.cellNe (R:Rel C Z I α H M) {k:Nat} {a p:Addr} (h:α[k]?=some a) (hp:H p=none):a≠p:=by
 obtain ⟨hk,_⟩:=Je.mp h;have hk':k<M.length:=by rw [<- R.len]; exact hk
 obtain ⟨o,e⟩:=(R.cel k a _ h (Jb hk')).1.some;exact Zq e hp
def Rel.new (R:Rel C Z I α H M) {p:Addr} {o:HO} (hp:H p=none):Rel C Z (upd I p o) α (upd H p o) M/\Same I (upd I p o)/\(upd I p o) p=some o:=by
 have ip:I p=none:=R.sub.free hp;have s:Same I (upd I p o):=Zp ip;exists ⟨R.ai.trans s,R.aa,fun b u h=>?_,R.len,R.nd,fun k a m h1 h2=>?_⟩,s,Zg
 ·by_cases e:b=p
  ·subst e;rw [Zg] at h ⊢;exact h
  ·rw [Zm e] at h ⊢;exact R.sub b u h
 ·obtain ⟨a1,a2⟩:=R.cel k a m h1 h2;have ne:=R.cellNe h1 hp;exact ⟨a1.mono s (Jk _) (Zm ne),by rw [Zm ne]; exact a2⟩
theorem Rel.cell (R:Rel C Z I α H M) {p:Addr} {o:HO} {m:MO} (hp:H p=none) (hm:∀ H',H' p=some o->MoAt C I α H' p m):Rel C Z I (α++[p]) (upd H p o) (M++[m])/\α<+:(α++[p])/\(α++[p])[M.length]?=some p:=by
 have ip:I p=none:=R.sub.free hp;refine ⟨⟨R.ai,R.aa.trans (Js _ _),fun b u h=>?_,by rw [Jc,Jc,R.len]; rfl,?_,fun k a x h1 h2=>?_⟩,Js _ _,by rw [<- R.len]; simp⟩
 ·have ne:b≠p:=fun e=>by rw [e,ip] at h; cases h
  rw [Zm ne];exact R.sub b u h
 ·rw [Bv];exists R.nd,by simp,fun a ha b hb=>?_;obtain ⟨k,hk,rfl⟩:=Ge ha;rw [Jh.mp hb];exact R.cellNe (Jb hk) hp
 ·by_cases hk:k < α.length
  ·rw [Jv hk] at h1;rw [Jv (by rw [<- R.len]; exact hk)] at h2;obtain ⟨a1,a2⟩:=R.cel k a x h1 h2;exists a1.mono (.refl _) (Js _ _) (Zm (R.cellNe h1 hp)),a2
  ·obtain ⟨hk2,_⟩:=Je.mp h1;rw [Jc,Jx] at hk2;have e:k=α.length:=by lia
   subst e;have e1:(α++[p])[α.length]?=some p:=by simp
   have e2:(M++[m])[α.length]?=some m:=by rw [R.len]; simp
   rw [e1] at h1;rw [e2] at h2;cases h1;cases h2;exists (hm _ Zg).mono (.refl _) (Js _ _) rfl,ip
def Rel.put (R:Rel C Z I α H M) {k:Nat} {a:Addr} {o:HO} (ha:α[k]?=some a) (hm:∀ H',H' a=some o->MoAt C I α H' a m):Rel C Z I α (upd H a o) (M.set k m):=by
 obtain ⟨hk,ea⟩:=Je.mp ha;have hkM:k<M.length:=by rw [<- R.len]; exact hk
 have ia:I a=none:=(R.cel k a _ ha (Jb hkM)).2;exists R.ai,R.aa,fun b u h=>?_,by rw [Bk]; exact R.len,R.nd,fun j b x h1 h2=>?_
 ·have ne:b≠a:=fun e=>by rw [e,ia] at h; cases h
  rw [Zm ne];exact R.sub b u h
 ·by_cases e:k=j
  ·subst e;rw [ha] at h1;cases h1;rw [Gh hkM] at h2;cases h2;exists hm _ Zg,ia
  ·rw [Bi e] at h2;obtain ⟨a1,a2⟩:=R.cel j b x h1 h2;obtain ⟨hj,eb⟩:=Je.mp h1;have ne:b≠a:=fun z=>e (by
    rw [<- ea,<- eb] at z;exact ((Bo R.nd).mp z).symm)
   exists a1.mono (.refl _) (Jk _) (Zm ne),a2
end
abbrev Ev:=List (Option D)
variable {ρ:L3.Ev}
abbrev K3:=D->Mem->Prop
abbrev TE3:=Ev->Mem->K3->Prop
variable {ua ub:L3.TE3}
abbrev TT3:=Ev->Mem->(Bool->Mem->Prop)->Prop
abbrev TA3:=Ev->Mem->(List D->Mem->Prop)->Prop
abbrev TO3:=Ev->Mem->(Option Int->Mem->Prop)->Prop
abbrev R3:=D->D->Mem->K3->Prop
structure Ends3 where
 nx:Ev->Mem->Prop
 rt:K3
 bk:Ev->Mem->Prop:=fun _ _=>False
 ct:Ev->Mem->Prop:=fun _ _=>False
abbrev TS3:=Ends3->Ev->Mem->Prop
abbrev TG3:=D->Ev->Mem->(Ev->Mem->Prop)->Prop
abbrev TGs3:=List D->Ev->Mem->(Ev->Mem->Prop)->Prop
def RepE (C:Cf) (I:Hp) (α:List Addr) (σ:St) (ρ:Ev):Prop:=σ.length=ρ.length/\∀ (i:Nat) (d:D),ρ[i]?=some (some d)->∃ v,σ[i]?=some (some v)/\Rep C I α v d
def RepE.mono (h:RepE C I α σ ρ) (s:Same I I') (p:α<+:α'):RepE C I' α' σ ρ :=
 ⟨h.1,fun i d e=>let ⟨v,a,b⟩:=h.2 i d e; ⟨v,a,b.mono s p⟩⟩
theorem RepE.set (h:RepE C I α σ ρ) {d:D} (r:Rep C I α v d) (i:Nat):RepE C I α (σ.set i (some v)) (ρ.set i (some d)):=by
 exists by rw [Bk,Bk]; exact h.1,fun j e q=>?_
 by_cases z:i=j
 ·subst z
  by_cases hl:i < ρ.length
  ·rw [Gh hl] at q;cases q;exists v,Gh (by rw [h.1]; exact hl),r
  ·rw [List.getElem?_eq_none (by rw [Bk]; lia)] at q;cases q
 ·rw [Bi z] at q ⊢;exact h.2 j e q
def Fin (C:Cf) (Z:Anc) (I:Hp) (α:List Addr) (K:K3) (Q:VK):Prop:=∀ v d I' α' H' M',Same I I'->α<+:α'->Rel C Z I' α' H' M'->Rep C I' α' v d->K d M'->Q v H'
def Fin.on {K:K3} {d:D} (k:Fin C Z I α K Q) (s:Same I I') (R:Rel C Z I' α H M) (r:Rep C I' α v d) (h:K d M):Q v H:=k v d I' α H M s (Jk _) R r h
def Fin.now {K:K3} {d:D} (k:Fin C Z I α K Q) (R:Rel C Z I α H M) (r:Rep C I α v d) (h:K d M):Q v H:=k.on (.refl _) R r h
def Fin.mono {K:K3} (h:Fin C Z I α K Q) (s:Same I I') (p:α<+:α'):Fin C Z I' α' K Q:=fun v d I2 α2 H2 M2 s2 p2=>h v d I2 α2 H2 M2 (s.trans s2) (p.trans p2)
def SimE (C:Cf) (Z:Anc) (t:TE) (u:TE3):Prop:=∀ I α σ H ρ M (K:K3) (Q:VK),Rel C Z I α H M->RepE C I α σ ρ->u ρ M K->Fin C Z I α K Q->t σ H Q
def SimT (C:Cf) (Z:Anc) (t:TT) (u:TT3):Prop:=∀ I α σ H ρ M (K:Bool->Mem->Prop) (Q:Bool->Hp->Prop),Rel C Z I α H M->RepE C I α σ ρ->u ρ M K ->
 (∀ b I' α' H' M',Same I I'->α<+:α'->Rel C Z I' α' H' M'->K b M'->Q b H')->t σ H Q
def SimA (C:Cf) (Z:Anc) (t:TA) (u:TA3):Prop:=∀ I α σ H ρ M (K:List D->Mem->Prop) (Q:List V->Hp->Prop),Rel C Z I α H M->RepE C I α σ ρ->u ρ M K ->
 (∀ vs ds I' α' H' M',Same I I'->α<+:α'->Rel C Z I' α' H' M'->Reps C I' α' vs ds->K ds M'->Q vs H')->t σ H Q
def SimO (C:Cf) (Z:Anc) (t:TO) (u:TO3):Prop:=∀ I α σ H ρ M (K:Option Int->Mem->Prop) (Q:Option Int->Hp->Prop),Rel C Z I α H M->RepE C I α σ ρ->u ρ M K ->
 (∀ b I' α' H' M',Same I I'->α<+:α'->Rel C Z I' α' H' M'->K b M'->Q b H')->t σ H Q
def SimR (C:Cf) (Z:Anc) (r:R2) (u:R3):Prop:=∀ I α H M x y d e (K:K3) (Q:VK),Rel C Z I α H M->Rep C I α x d->Rep C I α y e->u d e M K->Fin C Z I α K Q->r x y H Q
def SimU (C:Cf) (Z:Anc) (r:V->Hp->VK->Prop) (u:D->Mem->K3->Prop):Prop:=∀ I α H M x d (K:K3) (Q:VK),Rel C Z I α H M->Rep C I α x d->u d M K->Fin C Z I α K Q->r x H Q
def SimC (C:Cf) (Z:Anc) (r:List V->Hp->VK->Prop) (u:List D->Mem->K3->Prop):Prop:=∀ I α H M xs ds (K:K3) (Q:VK),Rel C Z I α H M->Reps C I α xs ds->u ds M K->Fin C Z I α K Q->r xs H Q
def SimL (C:Cf) (Z:Anc) (r:V->Option Int->Option Int->Hp->VK->Prop) (u:D->Option Int->Option Int->Mem->K3->Prop):Prop:=∀ I α H M x d lo hi (K:K3) (Q:VK),Rel C Z I α H M->Rep C I α x d->u d lo hi M K->Fin C Z I α K Q->r x lo hi H Q
def FinS (C:Cf) (Z:Anc) (I:Hp) (α:List Addr) (K:Ev->Mem->Prop) (Q:St->Hp->Prop):Prop:=∀ I' α' σ' H' ρ' M',Same I I'->α<+:α'->Rel C Z I' α' H' M'->RepE C I' α' σ' ρ'->K ρ' M'->Q σ' H'
def FinS.mono {K:Ev->Mem->Prop} {Q:St->Hp->Prop} (h:FinS C Z I α K Q) (s:Same I I') (p:α<+:α'):FinS C Z I' α' K Q:=fun I2 α2 σ2 H2 ρ2 M2 s2 p2=>h I2 α2 σ2 H2 ρ2 M2 (s.trans s2) (p.trans p2)
structure FinD (C:Cf) (Z:Anc) (I:Hp) (α:List Addr) (E:Ends3) (D':Ends):Prop where
 nx:FinS C Z I α E.nx D'.nx
 rt:Fin C Z I α E.rt D'.rt
 bk:FinS C Z I α E.bk D'.bk
 ct:FinS C Z I α E.ct D'.ct
def FinD.mono {E:Ends3} {D':Ends} (h:FinD C Z I α E D') (s:Same I I') (p:α<+:α'):FinD C Z I' α' E D':=⟨h.nx.mono s p,h.rt.mono s p,h.bk.mono s p,h.ct.mono s p⟩
def SimS (C:Cf) (Z:Anc) (t:TS) (u:TS3):Prop:=∀ I α σ H ρ M (E:Ends3) (D':Ends),Rel C Z I α H M->RepE C I α σ ρ->u E ρ M->FinD C Z I α E D'->t D' σ H
def SimG (C:Cf) (Z:Anc) (t:TG) (u:TG3):Prop:=∀ I α σ H ρ M v d (K:Ev->Mem->Prop) (Q:St->Hp->Prop),Rel C Z I α H M->RepE C I α σ ρ->Rep C I α v d->u d ρ M K->FinS C Z I α K Q->t v σ H Q
def Zh2 (C:Cf) (Z:Anc) (t:TGs) (u:TGs3):Prop:=∀ I α σ H ρ M vs ds (K:Ev->Mem->Prop) (Q:St->Hp->Prop),Rel C Z I α H M->RepE C I α σ ρ->Reps C I α vs ds->u ds ρ M K->FinS C Z I α K Q->t vs σ H Q
section
variable {tA tB':TT} {uA uB:TT3} {t:TA} {u:TA3}
inductive uVar (i:Nat) (ρ:Ev) (M:Mem) (K:K3):Prop
 | mk:∀ d,ρ[i]?=some (some d)->K d M->uVar i ρ M K
def Yg (i:Nat):SimE C Z (tVar i) (uVar i):=fun I α σ H ρ M K Q R E h k=>by
 obtain ⟨d,e,h⟩:=h;obtain ⟨v,e2,r⟩:=E.2 i d e;exists v,e2,k v d I α H M (.refl _) (Jk _) R r h
abbrev uC (d:D):TE3:=fun _ M K=>K d M
def Jcd {d:D} (r:∀ I α,Rep C I α v d):SimE C Z (tC v) (uC d):=fun I α σ H ρ M K Q R E h k=>k v d I α H M (.refl _) (Jk _) R (r I α) h
def Xq {i:Int}:SimE C Z (tC (.int i)) (uC (.int i)):=Jcd fun _ _=>.int i
def s_bl {i:Bool}:SimE C Z (tC (.bl i)) (uC (.bl i)):=Jcd fun _ _=>.bl i
def Zps:SimE C Z (tC .non) (uC .non):=Jcd fun _ _=>.non
abbrev Zoi (u:R3) (K:K3) (d:D):D->Mem->Prop:=fun e M2=>u d e M2 K
abbrev Zoj (u:R3) (ub:TE3) (ρ:Ev) (K:K3):D->Mem->Prop:=fun d M1=>ub ρ M1 (Zoi u K d)
def uOp (u:R3) (ua ub:TE3):TE3:=fun ρ M K=>ua ρ M (Zoj u ub ρ K)
def s_op {r:R2} {u:R3} (hr:SimR C Z r u) (ha:SimE C Z ta ua) (hb:SimE C Z tb ub):SimE C Z (tOp r ta tb) (uOp u ua ub):=fun I α σ H ρ M K Q R E h k =>
 ha I α σ H ρ M _ _ R E h fun v d I1 α1 H1 M1 s1 p1 R1 r1 h1 =>
  hb I1 α1 σ H1 ρ M1 _ _ R1 (E.mono s1 p1) h1 fun w e I2 α2 H2 M2 s2 p2 R2 r2 h2 =>
   hr I2 α2 H2 M2 v w d e K Q R2 (r1.mono s2 p2) r2 h2 (k.mono (s1.trans s2) (p1.trans p2))
abbrev Zoc (u:D->Mem->K3->Prop) (K:K3):D->Mem->Prop:=fun d M1=>u d M1 K
def uUn (u:D->Mem->K3->Prop) (ua:TE3):TE3:=fun ρ M K=>ua ρ M (Zoc u K)
def s_un {r:V->Hp->VK->Prop} {u:D->Mem->K3->Prop} (hr:SimU C Z r u) (ha:SimE C Z ta ua):SimE C Z (tUn r ta) (uUn u ua):=fun I α σ H ρ M K Q R E h k =>
 ha I α σ H ρ M _ _ R E h fun v d I1 α1 H1 M1 s1 p1 R1 r1 h1=>hr I1 α1 H1 M1 v d K Q R1 r1 h1 (k.mono s1 p1)
def D.isN:D->Bool | .non=>true | _=>false
def Zgs {d:D} (h:Rep C I α v d):decide (v=.non)=d.isN:=by cases h <;> simp [D.isN]
abbrev Zoo (K:K3):D->Mem->Prop:=fun d M1=>K (.bl d.isN) M1
def uIsN (ua:TE3):TE3:=fun ρ M K=>ua ρ M (Zoo K)
abbrev Zld (K:K3):D->Mem->Prop:=fun d M1=>K (.bl (!d.isN)) M1
def Zr8 (ua:TE3):TE3:=fun ρ M K=>ua ρ M (Zld K)
def Zsy (ha:SimE C Z ta ua):SimE C Z (tIsN ta) (uIsN ua):=fun I α σ H ρ M K Q R E h k =>
 ha I α σ H ρ M _ _ R E h fun v d I1 α1 H1 M1 s1 p1 R1 r1 h1=>by
  rw [Zgs r1];exact k _ _ I1 α1 H1 M1 s1 p1 R1 (.bl _) h1
def Zpr (ha:SimE C Z ta ua):SimE C Z (Zo5 ta) (Zr8 ua):=fun I α σ H ρ M K Q R E h k =>
 ha I α σ H ρ M _ _ R E h fun v d I1 α1 H1 M1 s1 p1 R1 r1 h1=>by
  rw [Zgs r1];exact k _ _ I1 α1 H1 M1 s1 p1 R1 (.bl _) h1
inductive uB3_1 (K:Bool->Mem->Prop) (d:D) (M1:Mem):Prop
 | mk:∀ c,d=.bl c->K c M1->uB3_1 K d M1
def uB3 (ua:TE3):TT3:=fun ρ M K=>ua ρ M (uB3_1 K)
def s_b (ha:SimE C Z ta ua):SimT C Z (tB ta) (uB3 ua):=fun I α σ H ρ M K Q R E h k =>
 ha I α σ H ρ M _ _ R E h fun v d I1 α1 H1 M1 s1 p1 R1 r1 h1=>by
  obtain ⟨c,e,h1⟩:=h1;subst e;cases r1.inv;exists c,rfl,k c I1 α1 H1 M1 s1 p1 R1 h1
def Zfb (ha:SimE C Z ta ua):SimT C Z (Zo1 ta) (uB3 ua):=s_b ha
abbrev Zow (uB:TT3) (ρ:Ev) (K:Bool->Mem->Prop):Bool->Mem->Prop:=fun c M1=>if c=true then uB ρ M1 K else K false M1
def uAnd (uA uB:TT3):TT3:=fun ρ M K=>uA ρ M (Zow uB ρ K)
abbrev Zr7 (uB:TT3) (ρ:Ev) (K:Bool->Mem->Prop):Bool->Mem->Prop:=fun c M1=>if c=true then K true M1 else uB ρ M1 K
def uOr (uA uB:TT3):TT3:=fun ρ M K=>uA ρ M (Zr7 uB ρ K)
def Zp6 (ha:SimT C Z tA uA) (hb:SimT C Z tB' uB):SimT C Z (tAnd tA tB') (uAnd uA uB):=fun I α σ H ρ M K Q R E h k =>
 ha I α σ H ρ M _ _ R E h fun c I1 α1 H1 M1 s1 p1 R1 h1=>by
  cases c with
  | true =>
   exact hb I1 α1 σ H1 ρ M1 _ _ R1 (E.mono s1 p1) h1 fun b I2 α2 H2 M2 s2 p2 R2 h2=>k b I2 α2 H2 M2 (s1.trans s2) (p1.trans p2) R2 h2
  | false =>
   exact k false I1 α1 H1 M1 s1 p1 R1 h1
def s_or (ha:SimT C Z tA uA) (hb:SimT C Z tB' uB):SimT C Z (tOr tA tB') (uOr uA uB):=fun I α σ H ρ M K Q R E h k =>
 ha I α σ H ρ M _ _ R E h fun c I1 α1 H1 M1 s1 p1 R1 h1=>by
  cases c with
  | false =>
   exact hb I1 α1 σ H1 ρ M1 _ _ R1 (E.mono s1 p1) h1 fun b I2 α2 H2 M2 s2 p2 R2 h2=>k b I2 α2 H2 M2 (s1.trans s2) (p1.trans p2) R2 h2
  | true =>
   exact k true I1 α1 H1 M1 s1 p1 R1 h1
inductive uAndV_1 (ub:TE3) (ρ:Ev) (K:K3) (d:D) (M1:Mem):Prop
 | mk:∀ c,d=.bl c->(if c=true then ub ρ M1 K else K (.bl false) M1)->uAndV_1 ub ρ K d M1
def Zsl (ua ub:TE3):TE3:=fun ρ M K=>ua ρ M (uAndV_1 ub ρ K)
def Zkf (ha:SimE C Z ta ua) (hb:SimE C Z tb ub):SimE C Z (Zpf ta tb) (Zsl ua ub):=fun I α σ H ρ M K Q R E h k =>
 ha I α σ H ρ M _ _ R E h fun v d I1 α1 H1 M1 s1 p1 R1 r1 h1=>by
  obtain ⟨c,e,h1⟩:=h1;subst e;cases r1.inv;exists c,rfl,?_;cases c with
  | true =>
   exact hb I1 α1 σ H1 ρ M1 _ _ R1 (E.mono s1 p1) h1 (k.mono s1 p1)
  | false =>
   exact k _ _ I1 α1 H1 M1 s1 p1 R1 (.bl _) h1
abbrev Zsd (ua:TE3) (ub:TE3) (ρ:Ev) (K:K3):Bool->Mem->Prop:=fun c M1=>if c=true then ua ρ M1 K else ub ρ M1 K
def uIf (uA:TT3) (ua ub:TE3):TE3:=fun ρ M K=>uA ρ M (Zsd ua ub ρ K)
def s_if (hc:SimT C Z tA uA) (ha:SimE C Z ta ua) (hb:SimE C Z tb ub):SimE C Z (tIf tA ta tb) (uIf uA ua ub):=fun I α σ H ρ M K Q R E h k =>
 hc I α σ H ρ M _ _ R E h fun c I1 α1 H1 M1 s1 p1 R1 h1=>by
  cases c with
  | true =>
   exact ha I1 α1 σ H1 ρ M1 _ _ R1 (E.mono s1 p1) h1 (k.mono s1 p1)
  | false =>
   exact hb I1 α1 σ H1 ρ M1 _ _ R1 (E.mono s1 p1) h1 (k.mono s1 p1)
abbrev uNil:TA3:=fun _ M K=>K [] M
abbrev Zej (K:List D->Mem->Prop) (d:D):List D->Mem->Prop:=fun ds M2=>K (d::ds) M2
abbrev Zab (u:TA3) (ρ:Ev) (K:List D->Mem->Prop):D->Mem->Prop:=fun d M1=>u ρ M1 (Zej K d)
def Pf (ua:TE3) (u:TA3):TA3:=fun ρ M K=>ua ρ M (Zab u ρ K)
def Wo:SimA C Z tNil uNil:=fun I α σ H ρ M K Q R E h k=>k [] [] I α H M (.refl _) (Jk _) R .nil h
def Yq (ha:SimE C Z ta ua) (hr:SimA C Z t u):SimA C Z (Zes ta t) (Pf ua u):=fun I α σ H ρ M K Q R E h k =>
 ha I α σ H ρ M _ _ R E h fun v d I1 α1 H1 M1 s1 p1 R1 r1 h1 =>
  hr I1 α1 σ H1 ρ M1 _ _ R1 (E.mono s1 p1) h1 fun vs ds I2 α2 H2 M2 s2 p2 R2 r2 h2 =>
   k (v::vs) (d::ds) I2 α2 H2 M2 (s1.trans s2) (p1.trans p2) R2 (.cons (r1.mono s2 p2) r2) h2
abbrev Zod (K:K3):List D->Mem->Prop:=fun ds M1=>ds.length<=sizeLine/\K (.tup ds) M1
def uTup (u:TA3):TE3:=fun ρ M K=>u ρ M (Zod K)
def Zdj (ha:SimA C Z t u):SimE C Z (tTup t) (uTup u):=fun I α σ H ρ M K Q R E h k =>
 ha I α σ H ρ M _ _ R E h fun vs ds I1 α1 H1 M1 s1 p1 R1 r1 h1=>by
  exists by rw [r1.length]; exact h1.1,fun p hp=>?_;obtain ⟨R2,s2,e2⟩:=R1.new (o:=.tup vs) hp;exact k _ _ _ α1 _ M1 (s1.trans s2) p1 R2 (.tup e2 (r1.mono s2 (Jk _))) h1.2
abbrev Zon (K:K3):List D->Mem->Prop:=fun ds M1=>ds.length<=sizeLine/\K (.lst ds) M1
def uLst (u:TA3):TE3:=fun ρ M K=>u ρ M (Zon K)
def Zsv (ha:SimA C Z t u):SimE C Z (tLst t) (uLst u):=fun I α σ H ρ M K Q R E h k =>
 ha I α σ H ρ M _ _ R E h fun vs ds I1 α1 H1 M1 s1 p1 R1 r1 h1=>by
  exists by rw [r1.length]; exact h1.1,fun p hp=>?_;obtain ⟨R2,s2,e2⟩:=R1.new (o:=.lst vs) hp;exact k _ _ _ α1 _ M1 (s1.trans s2) p1 R2 (.lst e2 (r1.mono s2 (Jk _))) h1.2
abbrev Zli (K:K3):List D->Mem->Prop:=fun ds M1=>ds.length<=sizeLine/\K (.cell M1.length) (M1++[.lst ds])
def Zsc (u:TA3):TE3:=fun ρ M K=>u ρ M (Zli K)
def Po (ha:SimA C Z t u):SimE C Z (tLst t) (Zsc u):=fun I α σ H ρ M K Q R E h k =>
 ha I α σ H ρ M _ _ R E h fun vs ds I1 α1 H1 M1 s1 p1 R1 r1 h1=>by
  exists by rw [r1.length]; exact h1.1,fun p hp=>?_;obtain ⟨R2,p2,e2⟩:=R1.cell (o:=.lst vs) (m:=.lst ds) hp fun H' e=>⟨vs,e,r1⟩;exact k _ _ I1 _ _ _ s1 (p1.trans p2) R2 (.cell e2) h1.2
abbrev Zln (r:List D->Mem->K3->Prop) (K:K3):List D->Mem->Prop:=fun ds M1=>r ds M1 K
def uCB (r:List D->Mem->K3->Prop) (u:TA3):TE3:=fun ρ M K=>u ρ M (Zln r K)
def s_cb {r:List V->Hp->VK->Prop} {r3:List D->Mem->K3->Prop} (hr:SimC C Z r r3) (ha:SimA C Z t u):SimE C Z (tCB r t) (uCB r3 u):=fun I α σ H ρ M K Q R E h k =>
 ha I α σ H ρ M _ _ R E h fun vs ds I1 α1 H1 M1 s1 p1 R1 r1 h1=>hr I1 α1 H1 M1 vs ds K Q R1 r1 h1 (k.mono s1 p1)
abbrev Uv:TO3:=fun _ M K=>K none M
inductive uPart_1 (K:Option Int->Mem->Prop) (d:D) (M1:Mem):Prop
 | mk:∀ i,d=.int i->K (some i) M1->uPart_1 K d M1
def Zr5 (ua:TE3):TO3:=fun ρ M K=>ua ρ M (uPart_1 K)
def Tm:SimO C Z Zeq Uv:=fun I α σ H ρ M K Q R E h k=>k none I α H M (.refl _) (Jk _) R h
def Zb5 (ha:SimE C Z ta ua):SimO C Z (Zo3 ta) (Zr5 ua):=fun I α σ H ρ M K Q R E h k =>
 ha I α σ H ρ M _ _ R E h fun v d I1 α1 H1 M1 s1 p1 R1 r1 h1=>by
  obtain ⟨i,e,h1⟩:=h1;subst e;cases r1.inv;exists i,rfl,k (some i) I1 α1 H1 M1 s1 p1 R1 h1
abbrev N9 (r:D->Option Int->Option Int->Mem->K3->Prop) (K:K3) (d:D) (l:Option Int):Option Int->Mem->Prop:=fun g M3=>r d l g M3 K
abbrev Zaa (r:D->Option Int->Option Int->Mem->K3->Prop) (uh:TO3) (ρ:Ev) (K:K3) (d:D):Option Int->Mem->Prop:=fun l M2=>uh ρ M2 (N9 r K d l)
abbrev Zof (r:D->Option Int->Option Int->Mem->K3->Prop) (ul:TO3) (uh:TO3) (ρ:Ev) (K:K3):D->Mem->Prop:=fun d M1=>ul ρ M1 (Zaa r uh ρ K d)
def uSl (r:D->Option Int->Option Int->Mem->K3->Prop) (ua:TE3) (ul uh:TO3):TE3:=fun ρ M K=>ua ρ M (Zof r ul uh ρ K)
def s_sl {r:V->Option Int->Option Int->Hp->VK->Prop} {r3:D->Option Int->Option Int->Mem->K3->Prop} {tl th:TO} {ul uh:TO3} (hr:SimL C Z r r3) (ha:SimE C Z ta ua) (hl:SimO C Z tl ul) (hh:SimO C Z th uh):SimE C Z (tSl r ta tl th) (uSl r3 ua ul uh):=fun I α σ H ρ M K Q R E h k =>
 ha I α σ H ρ M _ _ R E h fun v d I1 α1 H1 M1 s1 p1 R1 r1 h1 =>
  hl I1 α1 σ H1 ρ M1 _ _ R1 (E.mono s1 p1) h1 fun lo I2 α2 H2 M2 s2 p2 R2 h2 =>
   hh I2 α2 σ H2 ρ M2 _ _ R2 (E.mono (s1.trans s2) (p1.trans p2)) h2 fun hi I3 α3 H3 M3 s3 p3 R3 h3 =>
    hr I3 α3 H3 M3 v d lo hi K Q R3 (r1.mono (s2.trans s3) (p2.trans p3)) h3 (k.mono (s1.trans (s2.trans s3)) (p1.trans (p2.trans p3)))
abbrev Zsk (r:D->List D->Mem->K3->Prop) (K:K3) (d:D):List D->Mem->Prop:=fun ds M2=>r d ds M2 K
end
def Ys (M:Mem):D->Option (List D)
 | .lst ds=>some ds
 | .frz ds=>some ds
 | .cell k=>match M[k]? with | some (.lst ds)=>some ds | _=>none
 | _=>none
def lsOf (M:Mem):D->Option (List D)
 | .lst ds=>some ds
 | .cell k=>match M[k]? with | some (.lst ds)=>some ds | _=>none
 | _=>none
def Zlq:D->Option (List D)
 | .tup ds=>some ds
 | _=>none
def Tf (M:Mem):D->Option (List D)
 | .tup ds=>some ds
 | d=>Ys M d
section
variable {d:D} 
def Q4 (R:Rel C Z I α H M) {k:Nat} {a:Addr} (e:α[k]?=some a) (h:M[k]?=some (.lst ds)):∃ vs,H a=some (.lst vs)/\Reps C I α vs ds:=(R.cel k a _ e h).1
def nos {b:τ} {P:Prop} (h:none=some b):P:=nomatch h
theorem Znx {k:Nat} (h:lsOf M (.cell k)=some ds):M[k]?=some (.lst ds):=by
 revert h
 show (match M[k]? with | some (.lst ds)=>some ds | _=>none)=some ds->_;cases M[k]? with
 | none=>exact nos
 | some m=>cases m <;> first | exact nos | exact fun h=>by cases h; rfl
def Qm (R:Rel C Z I α H M) (r:Rep C I α v d) (h:lsOf M d=some ds):∃ a vs,v=.ref a/\H a=some (.lst vs)/\Reps C I α vs ds:=by
 cases d <;> first | exact nos h | skip
 ·obtain ⟨a,vs,e,f,r⟩:=r.inv;cases h;exists a,vs,e,R.sub _ _ f,r
 ·obtain ⟨a,e,f⟩:=r.inv;obtain ⟨vs,e1,r⟩:=Q4 R f (Znx h);exists a,vs,e,e1,r
def W4 (R:Rel C Z I α H M) (r:Rep C I α v d) (h:Ys M d=some ds):∃ a vs,v=.ref a/\SqL C.k H a vs/\Reps C I α vs ds:=by
 have go:lsOf M d=some ds->∃ a vs,v=.ref a/\SqL C.k H a vs/\Reps C I α vs ds:=fun h=>by
  obtain ⟨a,vs,e,f,r⟩:=Qm R r h;exists a,vs,e,SqL.of f,r
 cases d <;> first | exact nos h | exact go h | skip;obtain ⟨a,vs,e,f,r⟩:=r.inv;cases h;exact ⟨a,vs,e,R.sub.seq f,r⟩
def W7 (R:Rel C Z I α H M) (r:Rep C I α v d) (h:Zlq d=some ds):∃ a vs,v=.ref a/\H a=some (.tup vs)/\I a=some (.tup vs)/\Reps C I α vs ds:=by
 cases d <;> first | exact nos h | skip;obtain ⟨a,vs,e,f,r⟩:=r.inv;cases h;exact ⟨a,vs,e,R.sub _ _ f,f,r⟩
def Zb4 (R:Rel C Z I α H M) (r:Rep C I α v d) (h:Tf M d=some ds):∃ a vs,v=.ref a/\(SqL C.k H a vs\/SqT C.k H a vs)/\Reps C I α vs ds:=by
 have go:Ys M d=some ds->∃ a vs,v=.ref a/\(SqL C.k H a vs\/SqT C.k H a vs)/\Reps C I α vs ds:=fun h=>by
  obtain ⟨a,vs,e,f,r⟩:=W4 R r h;exists a,vs,e,.inl f,r
 cases d <;> first | exact go h | skip;obtain ⟨a,vs,e,f,_,r⟩:=W7 R r h;exact ⟨a,vs,e,.inr (SqT.of f),r⟩
end
def cut (xs:List τ) (lo hi:Option Int):List τ:=(xs.drop (HT.sIx xs.length 0 lo)).take (HT.sIx xs.length xs.length hi-HT.sIx xs.length 0 lo)
theorem Reps.cut (r:Reps C I α vs ds) (lo hi:Option Int):Reps C I α (cutV vs lo hi) (cut ds lo hi):=by
 unfold cutV L3.cut;rw [r.length];exact (r.drop _).take _
def Vd {υ:Type} (f:τ->υ) (xs:List τ) (lo hi:Option Int):cut (xs.map f) lo hi=(cut xs lo hi).map f:=by
 unfold cut;rw [Ja,G6,B8]
theorem Reps.atI {i:Int} {d:D} (r:Reps C I α vs ds) (h:atI ds i=some d):∃ v,L2.atI vs i=some v/\Rep C I α v d:=by
 unfold L2.atI at h ⊢;rw [r.length];cases e:ixN ds.length i with
 | none=>rw [e] at h; cases h
 | some j =>
  rw [e] at h;exact r.get (i:=j) h
section
def OpR.or {f:Value->Value->Sem Value} {r r':R2} (h:OpR X f r) (h':OpR X f r'):OpR X f (fun x y H Q=>r x y H Q\/r' x y H Q):=by
 intro pq s σ H x y v u Q I rx ry q;rcases q with q | q
 ·exact h pq s σ H x y v u Q I rx ry q
 ·exact h' pq s σ H x y v u Q I rx ry q
def SlR.or {r r':V->Option Int->Option Int->Hp->VK->Prop} (h:SlR X r) (h':SlR X r'):SlR X (fun x l u H Q=>r x l u H Q\/r' x l u H Q):=by
 intro pq s σ H x v vl vu lo hi sl Q I rx hs pl pu q;rcases q with q | q
 ·exact h pq s σ H x v vl vu lo hi sl Q I rx hs pl pu q
 ·exact h' pq s σ H x v vl vu lo hi sl Q I rx hs pl pu q
def Zme:R2:=fun x y H Q=>∃ i j,x=.str i/\y=.str j/\i.length+j.length<=sizeLine/\Q (.str (i++j)) H
def Zmi (K:W.Frag):R2:=fun x y H Q=>rI0 (fun i j=>.int (i+j)) x y H Q\/Zme x y H Q\/rCat x y H Q\/Zmh K x y H Q
def Ye (h:X.K=K'):OpR X (binaryOp .Add) (Zmi K'):=by
 subst h;exact OpR.or W3 (OpR.or Zdm (OpR.or Zkw Zf5))
def add3:R3:=fun d e M K=>match d,e with
 | .int i,.int j=>K (.int (i+j)) M
 | .str a,.str b=>a.length+b.length<=sizeLine/\K (.str (a++b)) M
 | .tup xs,.tup ys=>(xs≠[]/\xs.length+ys.length<=sizeLine)/\K (.tup (xs++ys)) M
 | d,e=>∃ xs ys,lsOf M d=some xs/\lsOf M e=some ys/\xs.length+ys.length<=sizeLine/\K (.lst (xs++ys)) M
def Zn2 {x:V} {d e:D} {K:K3} (R:Rel C Z I α H M) (r1:Rep C I α x d) (r2:Rep C I α y e)
  (h:∃ xs ys,lsOf M d=some xs/\lsOf M e=some ys/\xs.length+ys.length<=sizeLine/\K (.lst (xs++ys)) M) (k:Fin C Z I α K Q):Zmi C.k x y H Q:=by
 obtain ⟨xs,ys,e1,e2,hl,h⟩:=h;obtain ⟨a,vs,rfl,ea,ra⟩:=Qm R r1 e1;obtain ⟨b,ws,rfl,eb,rb⟩:=Qm R r2 e2;refine .inr (.inr (.inl ⟨a,b,vs,ws,rfl,rfl,ea,eb,by rw [ra.length,rb.length]; exact hl,fun p hp=>?_⟩));obtain ⟨R2,s2,e2⟩:=R.new (o:=.lst (vs++ws)) hp;exact k.on s2 R2 (.lst e2 ((ra.app rb).mono s2 (Jk _))) h
theorem Zfj:SimR C Z (Zmi C.k) add3:=fun I α H M x y d e K Q R r1 r2 h k=>by
 have go:=fun h=>Zn2 R r1 r2 h k;cases d with
 | int i =>
  cases e with
  | int j=>cases r1.inv; cases r2.inv; exact .inl ⟨i,j,rfl,rfl,k.now R (.int _) h⟩
  | _=>exact go h
 | str a =>
  cases e with
  | str b=>cases r1.inv; cases r2.inv; exact .inr (.inl ⟨a,b,rfl,rfl,h.1,k.now R (.str _) h.2⟩)
  | _=>exact go h
 | tup xs =>
  cases e with
  | tup ys =>
   obtain ⟨⟨h1,h2⟩,h⟩:=h;obtain ⟨a,vs,rfl,ea,ia,ra⟩:=W7 R r1 rfl;obtain ⟨b,ws,rfl,eb,ib,rb⟩:=W7 R r2 rfl;refine .inr (.inr (.inr ⟨a,b,vs,ws,rfl,rfl,SqT.of ea,SqT.of eb,fun z=>?_,by rw [ra.length,rb.length]; exact h2,fun z=>?_,fun _ p hp=>?_⟩))
   ·subst z;exact h1 ra.nilI
   ·subst z;cases rb.nilI;rw [Gi] at h;exact k.now R r1 h
   ·obtain ⟨R2,s2,e2⟩:=R.new (o:=.tup (vs++ws)) hp;exact k.on s2 R2 (.tup e2 ((ra.app rb).mono s2 (Jk _))) h
  | _=>exact go h
 | _=>exact go h
inductive int3 (c:Int->Int->Prop) (g:Int->Int->D) (d:D) (e:D) (M:Mem) (K:K3):Prop
 | mk:∀ i j,d=.int i->e=.int j->c i j->K (g i j) M->int3 c g d e M K
inductive int30 (g:Int->Int->D) (d:D) (e:D) (M:Mem) (K:K3):Prop
 | mk:∀ i j,d=.int i->e=.int j->K (g i j) M->int30 g d e M K
def Jca {c:Int->Int->Prop} {g:Int->Int->V} {g3:Int->Int->D} (hg:∀ I α i j,Rep C I α (g i j) (g3 i j)):SimR C Z (rI c g) (int3 c g3):=fun I α H M x y d e K Q R r1 r2 h k=>by
 obtain ⟨i,j,rfl,rfl,hc,h⟩:=h;cases r1.inv;cases r2.inv;exists i,j,rfl,rfl,hc,k.now R (hg _ _ _ _) h
def Zir {g:Int->Int->V} {g3:Int->Int->D} (hg:∀ I α i j,Rep C I α (g i j) (g3 i j)):SimR C Z (rI0 g) (int30 g3):=fun I α H M x y d e K Q R r1 r2 h k=>by
 obtain ⟨i,j,rfl,rfl,h⟩:=h;cases r1.inv;cases r2.inv;exists i,j,rfl,rfl,k.now R (hg _ _ _ _) h
def Zsp:SimR C Z (rI0 fun i j=>.int (i-j)) (int30 fun i j=>.int (i-j)):=Zir fun _ _ _ _=>.int _
def Zsu:SimR C Z (rI (fun _ j=>0<j) fun i j=>.int (i % j)) (int3 (fun _ j=>0<j) fun i j=>.int (i % j)):=Jca fun _ _ _ _=>.int _
def Zsr:SimR C Z (rI CPow fun i j=>.int (i ^ j.toNat)) (int3 CPow fun i j=>.int (i ^ j.toNat)):=Jca fun _ _ _ _=>.int _
def s_lt:SimR C Z (rI0 fun i j=>.bl (decide (i<j))) (int30 fun i j=>.bl (decide (i<j))):=Zir fun _ _ _ _=>.bl _
def s_gt:SimR C Z (rI0 fun i j=>.bl (decide (j<i))) (int30 fun i j=>.bl (decide (j<i))):=Zir fun _ _ _ _=>.bl _
def s_ge:SimR C Z (rI0 fun i j=>.bl (decide (j<=i))) (int30 fun i j=>.bl (decide (j<=i))):=Zir fun _ _ _ _=>.bl _
inductive neg3 (d:D) (M:Mem) (K:K3):Prop
 | mk:∀ i,d=.int i->K (.int (-i)) M->neg3 d M K
def Zss:SimU C Z (rU fun i=>.int (-i)) neg3:=fun I α H M x d K Q R r h k=>by
 obtain ⟨i,rfl,h⟩:=h;cases r.inv;exists i,rfl,k.now R (.int _) h
def Zmf:R2:=fun x y H Q=>rI CMul (fun i j=>.int (i*j)) x y H Q\/rRep x y H Q
def Zj4:OpR X (binaryOp .Mult) Zmf:=OpR.or Vv Zqm
def mul3:R3:=fun d e M K=>match d,e with
 | .int i,.int j=>CMul i j/\K (.int (i*j)) M
 | d,e=>∃ xs k,lsOf M d=some xs/\e=.int k/\(-(2 ^ 63)<=k/\k<2 ^ 63/\xs.length*k.toNat<=sizeLine)/\K (.lst (List.replicate k.toNat xs).flatten) M
theorem Reps.rep (r:Reps C I α vs ds):∀ n,Reps C I α (List.replicate n vs).flatten (List.replicate n ds).flatten
 | 0=>.nil
 | n+1=>by
  rw [Bb,Bb,Bu,Bu];exact r.app (Reps.rep r n)
theorem Zst:SimR C Z Zmf mul3:=fun I α H M x y d e K Q R r1 r2 h k=>by
 have go:(∃ xs k,lsOf M d=some xs/\e=.int k/\(-(2 ^ 63)<=k/\k<2 ^ 63/\xs.length*k.toNat<=sizeLine)/\K (.lst (List.replicate k.toNat xs).flatten) M)->Zmf x y H Q:=fun h=>by
  obtain ⟨xs,j,e1,rfl,⟨h1,h2,h3⟩,h⟩:=h;cases r2.inv;obtain ⟨a,vs,rfl,ea,ra⟩:=Qm R r1 e1;refine .inr ⟨a,j,vs,rfl,rfl,ea,h1,h2,by rw [ra.length]; exact h3,fun p hp=>?_⟩;obtain ⟨R2,s2,e2⟩:=R.new (o:=.lst (List.replicate j.toNat vs).flatten) hp;exact k.on s2 R2 (.lst e2 ((ra.rep _).mono s2 (Jk _))) h
 cases d with
 | int i =>
  cases e with
  | int j=>cases r1.inv; cases r2.inv; exact .inl ⟨i,j,rfl,rfl,h.1,k.now R (.int _) h.2⟩
  | _=>exact go h
 | _=>exact go h
def Z6 (h:X.K=K'):IxR X (rIx K'):=by subst h; exact Zq2
def ix3:R3:=fun d e M K=>match d with
 | .str z=>∃ i c,e=.int i/\z.length<=sizeLine/\L2.atI z.cps.toList i=some c/\K (.str ⟨#[c]⟩) M
 | d=>∃ xs i v,Tf M d=some xs/\e=.int i/\L2.atI xs i=some v/\K v M
def s_ix:SimR C Z (rIx C.k) ix3:=fun I α H M x y d e K Q R r1 r2 h k=>by
 have go:(∃ xs i v,Tf M d=some xs/\e=.int i/\L2.atI xs i=some v/\K v M)->rIx C.k x y H Q:=fun h=>by
  obtain ⟨xs,i,w,e1,rfl,e3,hk⟩:=h;obtain ⟨a,vs,e,ea,ra⟩:=Zb4 R r1 e1;obtain ⟨v,e4,rv⟩:=ra.atI e3;have q:=k.now R rv hk;exact ea.elim (fun ea=>.inl ⟨a,vs,i,v,e,r2.inv,ea,e4,q⟩) fun ea=>.inr (.inl ⟨a,vs,i,v,e,r2.inv,ea,e4,q⟩)
 cases d <;> first | exact go h | skip;obtain ⟨i,c,rfl,h1,h2,h⟩:=h;exact .inr (.inr ⟨_,i,c,r1.inv,r2.inv,h1,h2,k.now R (.str _) h⟩)
def rSlU (K:W.Frag):V->Option Int->Option Int->Hp->VK->Prop:=fun x l u H Q=>rSlL K x l u H Q\/rSlW K x l u H Q\/rSlS x l u H Q
def X5 (h:X.K=K'):SlR X (rSlU K'):=by subst h; exact SlR.or Zag (SlR.or Zaf Zpl)
def sl3:D->Option Int->Option Int->Mem->K3->Prop:=fun d lo hi M K=>match d with
 | .str z=>z.length<=sizeLine/\K (.str (Txt.slice z lo hi)) M
 | .tup xs=>K (.tup (cut xs lo hi)) M
 | d=>∃ xs,Ys M d=some xs/\K (.lst (cut xs lo hi)) M
theorem Reps.inj_cut (r:Reps C I α vs ds) (h:cutV vs lo hi=vs):L3.cut ds lo hi=ds:=by
 have hl:(cutV vs lo hi).length=vs.length:=by rw [h]
 unfold cutV at hl;rw [Jt,Jj] at hl;unfold L3.cut;rw [r.length] at hl;generalize HT.sIx ds.length 0 lo=a at *
 generalize HT.sIx ds.length ds.length hi=b at *
 by_cases hd:ds.length=0
 ·rw [Gs.mp hd]; simp
 ·have:a=0:=by lia
  subst this;rw [B0,Gw];lia
theorem Zl2:SimL C Z (rSlU C.k) sl3:=fun I α H M x d lo hi K Q R r1 h k=>by
 have go:(∃ xs,Ys M d=some xs/\K (.lst (cut xs lo hi)) M)->rSlU C.k x lo hi H Q:=fun h=>by
  obtain ⟨xs,e1,h⟩:=h;obtain ⟨a,vs,rfl,ea,ra⟩:=W4 R r1 e1;refine .inl ⟨a,vs,rfl,ea,fun p hp=>?_⟩;obtain ⟨R2,s2,e2⟩:=R.new (o:=.lst (cutV vs lo hi)) hp;exact k.on s2 R2 (.lst e2 ((ra.cut lo hi).mono s2 (Jk _))) h
 cases d with
 | str z=>cases r1.inv; exact .inr (.inr ⟨z,rfl,h.1,k.now R (.str _) h.2⟩)
 | tup xs =>
  obtain ⟨a,vs,rfl,ea,ia,ra⟩:=W7 R r1 rfl;refine .inr (.inl ⟨a,vs,rfl,SqT.of ea,fun z=>?_,fun p hp=>?_⟩)
  ·have h2:K (.tup (cut xs lo hi)) M:=h;rw [ra.inj_cut z] at h2;exact k.now R r1 h2
  ·obtain ⟨R2,s2,e2⟩:=R.new (o:=.tup (cutV vs lo hi)) hp;exact k.on s2 R2 (.tup e2 ((ra.cut lo hi).mono s2 (Jk _))) h
 | _=>exact go h
end
mutual
inductive PyR (M:Mem):D->PyData->Prop where
 | non:PyR M .non .none
 | bl (b:Bool):PyR M (.bl b) (.bool b)
 | int (i:Int):PyR M (.int i) (.int i)
 | str (x:Str):PyR M (.str x) (.str x)
 | seq {d:D} {ds:List D} {ps:List PyData}:Ys M d=some ds->PyRs M ds ps->PyR M d (.list ps)
 | tup {ds:List D} {ps:List PyData}:PyRs M ds ps->PyR M (.tup ds) (.tuple ps)
inductive PyRs (M:Mem):List D->List PyData->Prop where
 | nil:PyRs M [] []
 | cons {d:D} {p:PyData} {ds:List D} {ps:List PyData}:PyR M d p->PyRs M ds ps->PyRs M (d::ds) (p::ps)
end
section
mutual
theorem Zfr (R:Rel C Z I α H M):∀ {v:V} {d:D} {p:PyData},PyR M d p->Rep C I α v d->DV C.k H v p:=by
 intro _ _ _ hz9 r;cases hz9 with
 | non=>
  exact by cases r.inv; exact .non
 | bl b=>
  exact by cases r.inv; exact .bl b
 | int b=>
  exact by cases r.inv; exact .int b
 | str b=>
  exact by cases r.inv; exact .str b
 | seq e q=>
  exact by
    obtain ⟨a,vs,rfl,ea,ra⟩:=W4 R r e;exact .lst ea (pys_dv R q ra)
 | tup q=>
  exact by
    obtain ⟨a,vs,rfl,ea,_,ra⟩:=W7 R r rfl;exact .tup (SqT.of ea) (pys_dv R q ra)
theorem pys_dv (R:Rel C Z I α H M):∀ {vs:List V} {ds:List D} {ps:List PyData},PyRs M ds ps->Reps C I α vs ds->DVs C.k H vs ps:=by
 intro _ _ _ hz9 r;cases hz9 with
 | nil=>
  exact by cases r.inv; exact .nil
 | cons a b=>
  exact by
    cases r with
    | cons r1 r2=>exact .cons (Zfr R a r1) (pys_dv R b r2)
end
end
def eqS:D->D->Option Bool
 | .non,.non=>some true | .non,.int _=>some false | .int _,.non=>some false | .non,.bl _=>some false | .bl _,.non=>some false | .non,.str _=>some false | .str _,.non=>some false
 | .int i,.int j=>some (decide (i=j)) | .bl i,.bl j=>some (decide (i=j)) | .str i,.str j=>some (decide (i=j))
 | .int _,.str _=>some false | .str _,.int _=>some false | .bl _,.str _=>some false | .str _,.bl _=>some false
 | _,_=>none
def eqV (d e:D) (M:Mem) (K:Bool->Prop):Prop:=(∃ b,eqS d e=some b/\K b)\/∃ p q,PyR M d p/\PyR M e q/\SeqAt.shaped p=true/\SeqAt.shaped q=true/\K (PyData.eqv p q)
def eq3:R3:=fun d e M K=>eqV d e M fun b=>K (.bl b) M
def ne3:R3:=fun d e M K=>eqV d e M fun b=>K (.bl (!b)) M
section
def rEqU (K:W.Frag):R2:=fun x y H Q=>rEq x y H Q\/rEqD K x y H Q
def rNeU (K:W.Frag):R2:=fun x y H Q=>rNe x y H Q\/rNeD K x y H Q
def Ua (h:X.K=K') (hu:X.A.units+64<cLine):OpR X (compareOp .Eq) (rEqU K'):=by subst h; exact OpR.or Zi6 (Zkv hu)
def Zlc (h:X.K=K') (hu:X.A.units+64<cLine):OpR X (compareOp .NotEq) (rNeU K'):=by subst h; exact OpR.or Zs9 (Zqn hu)
def scl:D->Option V
 | .non=>some .non | .bl b=>some (.bl b) | .int i=>some (.int i) | .str x=>some (.str x)
 | _=>none
def Ze8 {x:V} {d:D} (r:Rep C I α v d) (h:scl d=some x):v=x:=by
 cases d <;> first | exact nos h | exact (show v=_ from r.inv).trans (F5 h)
def SclE (d e:D) (b:Bool):Prop:=∃ x y,scl d=some x/\scl e=some y/\scal x y=true/\decide (x=y)=b
def Zre {d e:D} {x:V} {b:Bool} (h1:scl d=some x) (h2:scl e=some y) (h3:scal x y=true) (hn:x≠y) (h:some false=some b):SclE d e b:=⟨x,y,h1,h2,h3,by rw [F3 hn]; exact F5 h⟩
def Znt {d e:D} {b:Bool} (h:eqS d e=some b):SclE d e b:=by
 cases d <;> first | exact nos h | (cases e <;> first | exact nos h | exact Zre rfl rfl rfl nofun h | exact ⟨_,_,rfl,rfl,rfl,Eq.trans (by simp) (F5 h)⟩)
def Zg6 {x:V} {d e:D} {b:Bool} (r1:Rep C I α x d) (r2:Rep C I α y e) (h:eqS d e=some b):scal x y=true/\decide (x=y)=b:=by
 obtain ⟨u,v,e1,e2,h⟩:=Znt h;rw [Ze8 r1 e1,Ze8 r2 e2];exact h
def s_eq:SimR C Z (rEqU C.k) eq3:=fun I α H M x y d e K Q R r1 r2 h k=>by
 rcases h with ⟨b,eb,h⟩ | ⟨p,q,h1,h2,h3,h4,h⟩
 ·obtain ⟨z1,z2⟩:=Zg6 r1 r2 eb;exact .inl ⟨z1,by rw [z2]; exact k.now R (.bl _) h⟩
 ·exact .inr ⟨p,q,Zfr R h1 r1,Zfr R h2 r2,h3,h4,k.now R (.bl _) h⟩
def s_ne:SimR C Z (rNeU C.k) ne3:=fun I α H M x y d e K Q R r1 r2 h k=>by
 rcases h with ⟨b,eb,h⟩ | ⟨p,q,h1,h2,h3,h4,h⟩
 ·obtain ⟨z1,z2⟩:=Zg6 r1 r2 eb;exact .inl ⟨z1,by rw [z2]; exact k.now R (.bl _) h⟩
 ·exact .inr ⟨p,q,Zfr R h1 r1,Zfr R h2 r2,h3,h4,k.now R (.bl _) h⟩
end
structure Enc (τ:Type) [DecidableEq τ] where
 e:τ->D
 py:τ->PyData
 n:Nat
 ok:∀ M a,PyR M (e a) (py a)
 shp:∀ a,Shp n (py a)
 eq:∀ a b,PyData.eqv (py a) (py b)=decide (a=b)
 hn:n<=60
theorem Zbf [DecidableEq τ] {f:τ->PyData} (h:∀ a b,PyData.eqv (f a) (f b)=decide (a=b)):∀ (a b:List τ),PyData.eqvAll (a.map f) (b.map f)=decide (a=b)
 | [],[]=>by simp [PyData.eqvAll]
 | [],_::_=>by simp [PyData.eqvAll]
 | _::_,[]=>by simp [PyData.eqvAll]
 | a::r,b::t=>by
  rw [Ju,Ju,PyData.eqvAll,h,Zbf h r t];simp
theorem T3 {e:τ->D} {py:τ->PyData} (h:∀ a,PyR M (e a) (py a)):∀ as:List τ,PyRs M (as.map e) (as.map py)
 | []=>.nil
 | a::r=>.cons (h a) (T3 h r)
def W5:Enc Int:=⟨.int,.int,0,fun _=>.int,Zah,fun a b=>by rw [PyData.eqv,Bool.beq_eq_decide_eq],nofun⟩
def Rw [DecidableEq τ] (E:Enc τ) (h:E.n<=50:=by decide):Enc (List τ) where
 e as:=.lst (as.map E.e)
 py as:=.list (as.map E.py)
 n:=E.n+1
 ok:=fun M as=>.seq rfl (T3 (E.ok M) as)
 shp:=fun as=>Ziq fun d hd=>by
  obtain ⟨a,_,rfl⟩:=Jo.mp hd;exact E.shp a
 eq:=fun a b=>by rw [PyData.eqv,Zbf E.eq]
 hn:=by lia
def Tc [DecidableEq τ] (E:Enc τ) (h:E.n<=50:=by decide):Enc (List τ) where
 e as:=.tup (as.map E.e)
 py as:=.tuple (as.map E.py)
 n:=E.n+1
 ok:=fun M as=>.tup (T3 (E.ok M) as)
 shp:=fun as=>Pm fun d hd=>by
  obtain ⟨a,_,rfl⟩:=Jo.mp hd;exact E.shp a
 eq:=fun a b=>by rw [PyData.eqv,Zbf E.eq]
 hn:=by lia
theorem Su [DecidableEq τ] (E:Enc τ) {a b:τ} {K:Bool->Prop} (h:K (decide (a=b))):eqV (E.e a) (E.e b) M K :=
 .inr ⟨_,_,E.ok M a,E.ok M b,(E.shp a).shaped (by have:=E.hn; lia),(E.shp b).shaped (by have:=E.hn; lia),by rw [E.eq]; exact h⟩
theorem Zbe [DecidableEq τ] (E:Enc τ) {d d':D} {a b:List τ} {K:Bool->Prop} (h1:Ys M d=some (a.map E.e)) (h2:Ys M d'=some (b.map E.e)) (h:K (decide (a=b))) (hn:E.n<=50:=by decide):eqV d d' M K :=
 .inr ⟨_,_,.seq h1 (T3 (E.ok M) a),.seq h2 (T3 (E.ok M) b),((Rw E hn).shp a).shaped (by have:=(Rw E hn).hn; lia),((Rw E hn).shp b).shaped (by have:=(Rw E hn).hn; lia),by
  have:=(Rw E hn).eq a b;rw [show PyData.eqv (PyData.list (a.map E.py)) (PyData.list (b.map E.py))=decide (a=b) from this];exact h⟩
inductive Ty3 where
 | non | bool | int | str | list | tuple | dict
 deriving DecidableEq
def tyOf (M:Mem):D->Option Ty3
 | .non=>some .non | .bl _=>some .bool | .int _=>some .int | .str _=>some .str | .lst _=>some .list | .tup _=>some .tuple | .dct _=>some .dict | .dcT _=>some .dict
 | .cell k=>match M[k]? with | some (.lst _)=>some .list | some (.dct _)=>some .dict | some (.dcT _)=>some .dict | _=>none
 | _=>none
section
def len3:List D->Mem->K3->Prop:=fun ds M K=>match ds with
 | [.str z]=>z.length<=sizeLine/\K (.int z.length) M
 | [d]=>∃ xs,Tf M d=some xs/\K (.int xs.length) M
 | _=>False
theorem Zsw:SimC C Z (rLen C.k) len3:=fun I α H M xs ds K Q R r h k=>by
 have go:∀ d v,Rep C I α v d->(∃ xs,Tf M d=some xs/\K (.int xs.length) M)->rLen C.k [v] H Q:=fun d v r h=>by
  obtain ⟨ys,e1,h⟩:=h;obtain ⟨a,vs,e,ea,ra⟩:=Zb4 R r e1;rw [<- ra.length] at h;exists _,·,e ▸ ea.elim (fun z=>.inl ⟨_,z,rfl⟩) fun z=>.inr ⟨_,z,rfl⟩,k.now R (.int _) h
 match ds,h with
 | [],h=>exact h.elim
 | [d],h =>
  refine Reps.e1 r fun v r1=>?_;cases d <;> first | exact go _ _ r1 h | skip;exact ⟨_,_,rfl,r1.inv ▸ ⟨h.1,rfl⟩,k.now R (.int _) h.2⟩
 | d::_::_,h=>cases d <;> exact h.elim
inductive list3 (ds:List D) (M:Mem) (K:K3):Prop
 | mk:∀ d xs,ds=[d]->Tf M d=some xs->K (.lst xs) M->list3 ds M K
inductive list3C (ds:List D) (M:Mem) (K:K3):Prop
 | mk:∀ d xs,ds=[d]->Tf M d=some xs->K (.cell M.length) (M++[.lst xs])->list3C ds M K
def Zpy:SimC C Z (Zaq C.k) list3:=fun I α H M xs ds K Q R r h k=>by
 obtain ⟨d,ys,rfl,e,h⟩:=h;refine Reps.e1 r fun _ r1=>?_;obtain ⟨a,vs,rfl,ea,ra⟩:=Zb4 R r1 e;exists a,vs,rfl,ea,fun p hp=>?_;obtain ⟨R2,s2,e2⟩:=R.new (o:=.lst vs) hp;exact k.on s2 R2 (.lst e2 (ra.mono s2 (Jk _))) h
def Zfc:SimC C Z (Zaq C.k) list3C:=fun I α H M xs ds K Q R r h k=>by
 obtain ⟨d,ys,rfl,e,h⟩:=h;refine Reps.e1 r fun _ r1=>?_;obtain ⟨a,vs,rfl,ea,ra⟩:=Zb4 R r1 e;exists a,vs,rfl,ea,fun p hp=>?_;obtain ⟨R2,p2,e2⟩:=R.cell (o:=.lst vs) (m:=.lst ys) hp fun H' e=>⟨vs,e,ra⟩;exact k _ _ I _ _ _ (.refl _) p2 R2 (.cell e2) h
inductive tuple3 (ds:List D) (M:Mem) (K:K3):Prop
 | mk:∀ d xs,ds=[d]->Tf M d=some xs->K (.tup xs) M->tuple3 ds M K
def Zl0:SimC C Z (Zfo C.k) tuple3:=fun I α H M xs ds K Q R r h k=>by
 obtain ⟨d,ys,rfl,e,h⟩:=h;refine Reps.e1 r fun _ r1=>?_
 by_cases ht:∃ zs,d=.tup zs
 ·obtain ⟨zs,rfl⟩:=ht;cases e;obtain ⟨a,vs,rfl,ea,_,ra⟩:=W7 R r1 rfl;exists a,vs,rfl,.inr ⟨SqT.of ea,k.now R r1 h⟩
 ·have e1':Ys M d=some ys:=by
   cases d with
   | tup ys=>exact Fs ⟨ys,rfl⟩ ht
   | _=>exact e
  obtain ⟨a,vs,rfl,ea,ra⟩:=W4 R r1 e1';exists a,vs,rfl,.inl ⟨ea,fun p hp=>?_⟩;obtain ⟨R2,s2,e2⟩:=R.new (o:=.tup vs) hp;exact k.on s2 R2 (.tup e2 (ra.mono s2 (Jk _))) h
inductive one3 (f:Int->D) (ds:List D) (M:Mem) (K:K3):Prop
 | mk:∀ i,ds=[.int i]->K (f i) M->one3 f ds M K
inductive two3 (f:Int->Int->D) (ds:List D) (M:Mem) (K:K3):Prop
 | mk:∀ i j,ds=[.int i,.int j]->K (f i j) M->two3 f ds M K
def Zs1:SimC C Z (fun xs H Q=>∃ i,xs=[.int i]/\Q (.int (if i<0 then -i else i)) H) (one3 fun i=>.int (if i<0 then -i else i)):=fun I α H M xs ds K Q R r h k=>by
 obtain ⟨i,rfl,h⟩:=h;refine Reps.e1 r fun _ r1=>?_;cases r1.inv;exists i,rfl,k.now R (.int _) h
def Zpw:SimC C Z (fun xs H Q=>∃ i j,xs=[.int i,.int j]/\Q (.int (if j > i then j else i)) H) (two3 fun i j=>.int (if j > i then j else i)):=fun I α H M xs ds K Q R r h k=>by
 obtain ⟨i,j,rfl,h⟩:=h;refine Reps.e2 r fun _ _ r1 r2=>?_;cases r1.inv;cases r2.inv;exists i,j,rfl,k.now R (.int _) h
def Zpv:SimC C Z (fun xs H Q=>∃ i j,xs=[.int i,.int j]/\Q (.int (if j<i then j else i)) H) (two3 fun i j=>.int (if j<i then j else i)):=fun I α H M xs ds K Q R r h k=>by
 obtain ⟨i,j,rfl,h⟩:=h;refine Reps.e2 r fun _ _ r1 r2=>?_;cases r1.inv;cases r2.inv;exists i,j,rfl,k.now R (.int _) h
def toI:D->Option Int
 | .int i=>some i
 | .bl b=>some (if b then 1 else 0)
 | _=>none
inductive intOf3 (ds:List D) (M:Mem) (K:K3):Prop
 | mk:∀ d i,ds=[d]->toI d=some i->K (.int i) M->intOf3 ds M K
def Uy:SimC C Z (fun xs H Q=>(∃ i,xs=[.int i]/\Q (.int i) H)\/∃ k,xs=[.bl k]/\Q (.int (if k then 1 else 0)) H) intOf3:=fun I α H M xs ds K Q R r h k=>by
 obtain ⟨d,i,rfl,e,h⟩:=h;refine Reps.e1 r fun _ r1=>?_;cases d <;> first | exact nos e | skip
 ·cases e; exact .inr ⟨_,by rw [r1.inv],k.now R (.int _) h⟩
 ·cases e; exact .inl ⟨_,by rw [r1.inv],k.now R (.int _) h⟩
def Rel.putL (R:Rel C Z I α H M) {k:Nat} {a:Addr} (ha:α[k]?=some a) (r:Reps C I α vs ds):Rel C Z I α (upd H a (.lst vs)) (M.set k (.lst ds)) :=
 R.put (m:=.lst ds) ha fun H' e=>⟨vs,e,r⟩
def Zek {a:Addr} (e:H a=some (.lst vs)):tyV C.k "list" (.ref a) H:=.inl ⟨rfl,vs,SqL.of e⟩
inductive app3 (d:D) (ds:List D) (M:Mem) (K:K3):Prop
 | mk:∀ k xs y,d=.cell k->ds=[y]->M[k]?=some (.lst xs)->xs.length<sizeLine->K .non (M.set k (.lst (xs++[y])))->app3 d ds M K
inductive ext3 (d:D) (ds:List D) (M:Mem) (K:K3):Prop
 | mk:∀ k e xs ys,d=.cell k->ds=[e]->M[k]?=some (.lst xs)->lsOf M e=some ys->xs.length+ys.length<=sizeLine->K .non (M.set k (.lst (xs++ys)))->ext3 d ds M K
variable {uo:TE3} {t:TA} {u:TA3}
abbrev Zov (r:D->List D->Mem->K3->Prop) (u:TA3) (ρ:Ev) (K:K3):D->Mem->Prop:=fun d M1=>lsOf M1 d≠none/\u ρ M1 (Zsk r K d)
def uBML (r:D->List D->Mem->K3->Prop) (uo:TE3) (u:TA3):TE3:=fun ρ M K=>uo ρ M (Zov r u ρ K)
def Zis (ho:SimE C Z to uo) (ha:SimA C Z t u):SimE C Z (tBM C.k "list" Zas to t) (uBML app3 uo u):=fun I α σ H ρ M K Q R E h k =>
 ho I α σ H ρ M _ _ R E h fun v d I1 α1 H1 M1 s1 p1 R1 r1 h1=>by
  obtain ⟨hn,h1⟩:=h1;cases hl:lsOf M1 d with
  | none=>exact Fs hl hn
  | some zs =>
   obtain ⟨a,vs,rfl,ea,ra⟩:=Qm R1 r1 hl;exists Zek ea,ha I1 α1 σ H1 ρ M1 _ _ R1 (E.mono s1 p1) h1 fun ws ds I2 α2 H2 M2 s2 p2 R2 r2 h2=>?_;obtain ⟨j,xs,y,rfl,rfl,e1,hz,h2⟩:=h2;refine Reps.e1 r2 fun _ ry=>?_;have ec:=(r1.mono s2 p2).cellI;obtain ⟨us,eu,ru⟩:=Q4 R2 ec e1;exists a,us,·,rfl,eu,by rw [ru.length]; exact hz,?_;exact k _ _ I2 α2 _ _ (s1.trans s2) (p1.trans p2) (R2.putL ec (ru.app (.one ry))) .non h2
def Zb7 (ho:SimE C Z to uo) (ha:SimA C Z t u):SimE C Z (tBM C.k "list" Zar to t) (uBML ext3 uo u):=fun I α σ H ρ M K Q R E h k =>
 ho I α σ H ρ M _ _ R E h fun v d I1 α1 H1 M1 s1 p1 R1 r1 h1=>by
  obtain ⟨hn,h1⟩:=h1;cases hl:lsOf M1 d with
  | none=>exact Fs hl hn
  | some zs =>
   obtain ⟨a,vs,rfl,ea,ra⟩:=Qm R1 r1 hl;exists Zek ea,ha I1 α1 σ H1 ρ M1 _ _ R1 (E.mono s1 p1) h1 fun ws ds I2 α2 H2 M2 s2 p2 R2 r2 h2=>?_;obtain ⟨j,e,xs,ys,rfl,rfl,e1,e2,hz,h2⟩:=h2;refine Reps.e1 r2 fun _ ry=>?_;obtain ⟨b,bs,rfl,eb,rb⟩:=Qm R2 ry e2;have ec:=(r1.mono s2 p2).cellI;obtain ⟨us,eu,ru⟩:=Q4 R2 ec e1;exists a,b,us,bs,rfl,rfl,eu,eb,by rw [ru.length,rb.length]; exact hz,?_;exact k _ _ I2 α2 _ _ (s1.trans s2) (p1.trans p2) (R2.putL ec (ru.app rb)) .non h2
end
def Yi (n:Nat) (d:D):Prop:=∀ C I α v,Rep C I α v d->Rep C I (α.take n) v d
def Xk (n:Nat) (m:MO):Prop:=∀ C I α H a,MoAt C I α H a m->MoAt C I (α.take n) H a m
inductive BelowE (n:Nat):Ev->Ev->Prop where
 | nil:BelowE n [] []
 | skip {o:Option D} {r r':Ev}:BelowE n r r'->BelowE n (o::r) (none::r')
 | keep {d:D} {r r':Ev}:Yi n d->BelowE n r r'->BelowE n (some d::r) (some d::r')
inductive BelS (n:Nat):Ev->Ev->Ev->Prop where
 | nil:BelS n [] [] []
 | skip {o0 o:Option D} {r0 r r':Ev}:BelS n r0 r r'->BelS n (o0::r0) (o::r) (none::r')
 | same {d:D} {r0 r r':Ev}:BelS n r0 r r'->BelS n (some d::r0) (some d::r) (some d::r')
 | keep {o0:Option D} {d:D} {r0 r r':Ev}:Yi n d->BelS n r0 r r'->BelS n (o0::r0) (some d::r) (some d::r')
def Dr (ρ0:Ev) (M0:Mem) (P:Ev->Mem->Prop) (ρ:Ev) (M:Mem):Prop:=P ρ M\/(∃ ρ',(∃ X,M=M0++X)/\BelS M0.length ρ0 ρ ρ'/\P ρ' M0)\/∃ n ρ',M0.length<=n/\BelowE n ρ ρ'/\(∀ m∈M.take n,Xk n m)/\P ρ' (M.take n)
def Dk (n0:Nat) (K:K3):K3:=fun d M=>K d M\/∃ n,n0<=n/\Yi n d/\(∀ m∈M.take n,Xk n m)/\K d (M.take n)
section
theorem BelowE.rep {n:Nat} {ρ':Ev} (b:BelowE n ρ ρ'):∀ {σ:St},RepE C I α σ ρ->RepE C I (α.take n) σ ρ':=by
 induction b with
 | nil=>exact fun h=>⟨h.1,fun i d e=>by simp at e⟩
 | @skip o r r' b ih =>
  intro σ h;cases σ with
  | nil=>cases h.1
  | cons s σ =>
   have h':RepE C I α σ r:=⟨by simpa using h.1,fun i d e=>by
    obtain ⟨v,a,b⟩:=h.2 (i+1) d (by simpa using e);exact ⟨v,by simpa using a,b⟩⟩
   obtain ⟨l,g⟩:=ih h';exists by rw [Jq,Jq,l],fun i d e=>?_;cases i with
   | zero=>simp at e
   | succ i =>
    obtain ⟨v,a,b⟩:=g i d (by simpa using e);exists v,by simpa using a,b
 | @keep d0 r r' hb b ih =>
  intro σ h;cases σ with
  | nil=>cases h.1
  | cons s σ =>
   have h':RepE C I α σ r:=⟨by simpa using h.1,fun i d e=>by
    obtain ⟨v,a,b⟩:=h.2 (i+1) d (by simpa using e);exact ⟨v,by simpa using a,b⟩⟩
   obtain ⟨l,g⟩:=ih h';exists by rw [Jq,Jq,l],fun i d e=>?_;cases i with
   | zero =>
    obtain ⟨v,a,b⟩:=h.2 0 d e;simp at e;subst e;exists v,a,hb _ _ _ _ b
   | succ i =>
    obtain ⟨v,a,b⟩:=g i d (by simpa using e);exists v,by simpa using a,b
def Tq {α0:List Addr} (p:α0<+:α) {n:Nat} (h:α0.length<=n):α0<+:α.take n:=by
 obtain ⟨t,rfl⟩:=p;rw [List.take_append,Gw h];exact Js _ _
def Rel.take (R:Rel C Z I α H M) (n:Nat) (hz:Z.a.length<=n) (hb:∀ m∈M.take n,Xk n m):Rel C Z I (α.take n) H (M.take n):=by
 refine ⟨R.ai,Tq R.aa hz,R.sub,by rw [Jt,Jt,R.len],R.nd.sublist (B9 _ _),fun k a m h1 h2=>?_⟩;have h1':α[k]?=some a:=by
  rw [List.getElem?_take] at h1
  split at h1
  ·exact h1
  ·cases h1
 have h2':M[k]?=some m:=by
  rw [List.getElem?_take] at h2
  split at h2
  ·exact h2
  ·cases h2
 obtain ⟨a1,a2⟩:=R.cel k a m h1' h2';exists hb m (Gv h2) _ _ _ _ _ a1,a2
theorem Fin.dk {K:K3} (k:Fin C Z I α K Q) {n0:Nat} (hn:α.length=n0) (ha:Z.a<+:α):Fin C Z I α (Dk n0 K) Q:=fun v d I' α' H' M' s p R r h=>by
 rcases h with h | ⟨n,hl,hb,hm,h⟩
 ·exact k v d I' α' H' M' s p R r h
 ·exact k v d I' (α'.take n) H' (M'.take n) s (Tq p (by lia)) (R.take n (by have:=ha.length_le; lia) hm) (hb _ _ _ _ r) h
end
def Zhx {n:Nat} {i:Int}:Yi n (.int i):=fun _ _ _ _ r=>by cases r.inv; exact .int _
def Zjx {n:Nat} {i:Bool}:Yi n (.bl i):=fun _ _ _ _ r=>by cases r.inv; exact .bl _
def Zhr {n:Nat} {i:Str}:Yi n (.str i):=fun _ _ _ _ r=>by cases r.inv; exact .str _
def Zht {n:Nat}:Yi n .non:=fun _ _ _ _ r=>by cases r.inv; exact .non
def Zd3 {n:Nat} :Yi n (.code S):=fun _ _ _ _ r=>by cases r with | code h=>exact .code h
def Zd4 {n k:Nat} (h:k<n):Yi n (.cell k):=fun _ _ α _ r=>by
 obtain ⟨_,rfl,e⟩:=r.inv;exact .cell (by rw [List.getElem?_take,F1 h]; exact e)
theorem Ut {n:Nat} (h:∀ d∈ds,Yi n d) :∀ {vs:List V},Reps C I α vs ds->Reps C I (α.take n) vs ds:=by
 induction ds with
 | nil=>intro vs r; cases r.inv; exact .nil
 | cons d ds ih =>
  intro vs r;cases r with
  | cons a b=>exact .cons (h d Jm _ _ _ _ a) (ih (fun x hx=>h x (Jg _ hx)) b)
def Zhv {n:Nat} (h:∀ d∈ds,Yi n d):Yi n (.lst ds):=fun _ _ _ _ r=>by cases r with | lst e r=>exact .lst e (Ut h r)
def Zhy {n:Nat} (h:∀ d∈ds,Yi n d):Yi n (.frz ds):=fun _ _ _ _ r=>by cases r with | frz e r=>exact .frz e (Ut h r)
def Zhq {n:Nat} (h:∀ d∈ds,Yi n d):Yi n (.tup ds):=fun _ _ _ _ r=>by cases r with | tup e r=>exact .tup e (Ut h r)
def Zhs {n:Nat} :Yi n (.nst ks):=fun _ _ _ _ r=>by cases r with | nst e=>exact .nst e
def Zhw {n:Nat} {x:List Int}:Yi n (.itp x):=fun _ _ _ _ r=>by cases r with | itp e=>exact .itp e
def Zhu {n:Nat}:∀ d∈([]:List D),Yi n d:=fun _ h=>nomatch h
def Zd2 {n:Nat} {d:D} (h:Yi n d) (r:∀ d∈ds,Yi n d):∀ x∈d::ds,Yi n x:=fun x hx=>by
 rcases Jy.mp hx with z | z
 ·rw [z]; exact h
 ·exact r x z
def Zny {n:Nat}:Xk n .hand:=fun _ _ _ _ _ h=>h
def Zrp {n:Nat} {P:Addr} {p:Pos} {q:Str}:Xk n (.tab P p q):=fun _ _ _ _ _ h=>h
def Zrq {n:Nat} (h:∀ d∈ds,Yi n d):Xk n (.lst ds):=fun _ _ _ _ _ x=>by
 obtain ⟨vs,e,r⟩:=x;exists vs,e,Ut h r
def WfM (M:Mem):Prop:=∀ m∈M,Xk M.length m
theorem Ur {n:Nat} {kvs:List (Key×D)} (h:∀ kv∈kvs,Yi n kv.2) :∀ {vs:List (Key×V)},RepK C I α vs kvs->RepK C I (α.take n) vs kvs:=by
 induction kvs with
 | nil=>intro vs r; cases r; exact .nil
 | cons d ds ih =>
  intro vs r;cases r with
  | cons a b=>exact .cons (h _ Jm _ _ _ _ a) (ih (fun x hx=>h x (Jg _ hx)) b)
theorem Us {n:Nat} {kvs:List (List Key×D)} (h:∀ kv∈kvs,Yi n kv.2) :∀ {vs:List (List Key×V)},RepT C I α vs kvs->RepT C I (α.take n) vs kvs:=by
 induction kvs with
 | nil=>intro vs r; cases r; exact .nil
 | cons d ds ih =>
  intro vs r;cases r with
  | cons a b=>exact .cons (h _ Jm _ _ _ _ a) (ih (fun x hx=>h x (Jg _ hx)) b)
theorem Zhz {n:Nat} {kvs:List (Str×D)} (h:∀ kv∈kvs,Yi n kv.2) :∀ {vs:List (Str×V)},RepF C I α vs kvs->RepF C I (α.take n) vs kvs:=by
 induction kvs with
 | nil=>intro vs r; cases r; exact .nil
 | cons d ds ih =>
  intro vs r;cases r with
  | cons a b=>exact .cons (h _ Jm _ _ _ _ a) (ih (fun x hx=>h x (Jg _ hx)) b)
mutual
theorem Rep.bel {C:Cf} {I:Hp} {α:List Addr}:∀ {v:V} {d:D},Rep C I α v d->Yi α.length d:=by
 intro _ _ h;cases h with
 | non=>exact Zht
 | bl b=>exact Zjx
 | int i=>exact Zhx
 | str x=>exact Zhr
 | ty n=>exact fun _ _ _ _ r=>by cases r.inv; exact .ty _
 | «at» a=>exact fun _ _ _ _ r=>by cases r.inv; exact .at _
 | tup e r=>exact Zhq (Reps.bel r)
 | lst e r=>exact Zhv (Reps.bel r)
 | frz e r=>exact Zhy (Reps.bel r)
 | dct e r=>exact fun _ _ _ _ q=>by cases q with | dct e q=>exact .dct e (Ur (RepK.bel r) q)
 | dcT e r=>exact fun _ _ _ _ q=>by cases q with | dcT e q=>exact .dcT e (Us (RepT.bel r) q)
 | code h=>exact Zd3
 | cell e=>exact Zd4 (Je.mp e).1
 | exc e f r=>exact fun _ _ _ _ q=>by cases q with | exc e f q=>exact .exc e f (Zhz (RepF.bel r) q)
 | nst e=>exact Zhs
 | itp e=>exact Zhw
theorem Reps.bel {C:Cf} {I:Hp} {α:List Addr}:∀ {vs:List V} {ds:List D},Reps C I α vs ds->∀ d∈ds,Yi α.length d:=by
 intro _ _ h;cases h with
 | nil=>exact Zhu
 | cons h r=>exact Zd2 (Rep.bel h) (Reps.bel r)
theorem RepK.bel {C:Cf} {I:Hp} {α:List Addr}:∀ {vs:List (Key×V)} {ds:List (Key×D)},RepK C I α vs ds->∀ kv∈ds,Yi α.length kv.2:=by
 intro _ _ h;cases h with
 | nil=>exact fun _ h=>nomatch h
 | cons h r =>
  exact fun kv hk=>by
   rcases Jy.mp hk with z | z
   ·rw [z]; exact Rep.bel h
   ·exact RepK.bel r kv z
theorem RepF.bel {C:Cf} {I:Hp} {α:List Addr}:∀ {vs:List (Str×V)} {ds:List (Str×D)},RepF C I α vs ds->∀ kv∈ds,Yi α.length kv.2:=by
 intro _ _ h;cases h with
 | nil=>exact fun _ h=>nomatch h
 | cons h r =>
  exact fun kv hk=>by
   rcases Jy.mp hk with z | z
   ·rw [z]; exact Rep.bel h
   ·exact RepF.bel r kv z
theorem RepT.bel {C:Cf} {I:Hp} {α:List Addr}:∀ {vs:List (List Key×V)} {ds:List (List Key×D)},RepT C I α vs ds->∀ kv∈ds,Yi α.length kv.2:=by
 intro _ _ h;cases h with
 | nil=>exact fun _ h=>nomatch h
 | cons h r =>
  exact fun kv hk=>by
   rcases Jy.mp hk with z | z
   ·rw [z]; exact Rep.bel h
   ·exact RepT.bel r kv z
end
def Zrw {n:Nat} {ds:List (Key×D)} (h:∀ d∈ds,Yi n d.2):Xk n (.dct ds):=fun _ _ _ _ _ x=>by
 obtain ⟨vs,e,r⟩:=x;exists vs,e,Ur h r
def Zrx {n:Nat} {ds:List (List Key×D)} (h:∀ d∈ds,Yi n d.2):Xk n (.dcT ds):=fun _ _ _ _ _ x=>by
 obtain ⟨vs,e,r⟩:=x;exists vs,e,Us h r
def Zrt {n:Nat} {ds:List (Key×D)} (h:∀ d∈ds,Yi n d.2):Xk n (.drK ds):=fun _ _ _ _ _ x=>by
 obtain ⟨vs,e,r⟩:=x;exists vs,e,Ur h r
def Zrs {n:Nat} {ds:List (List Key×D)} (h:∀ d∈ds,Yi n d.2):Xk n (.drT ds):=fun _ _ _ _ _ x=>by
 obtain ⟨vs,e,r⟩:=x;exists vs,e,Us h r
def Zru {n:Nat} {o:Obj} {vs:List (List Key×V)} {ds:List (List Key×D)} (h:∀ d∈ds,Yi n d.2):Xk n (.dfT o vs ds):=fun _ _ _ _ _ x=>⟨x.1,Us h x.2⟩
def Zrv {n:Nat} {o:Obj} {vs:List (Key×V)} {ds:List (Key×D)} (h:∀ d∈ds,Yi n d.2):Xk n (.dfK o vs ds):=fun _ _ _ _ _ x=>⟨x.1,Ur h x.2⟩
theorem RepN.bel {vs:List Nkv} {ds:List (List NI×D)} (r:RepN C I α vs ds):∀ kv∈ds,Yi α.length kv.2:=by
 induction r with
 | nil=>exact fun _ h=>nomatch h
 | cons h r ih=>exact fun kv hk=>(Jy.mp hk).elim (fun z=>by rw [z]; exact h.2.bel) (ih kv)
theorem Nx {n:Nat} {kvs:List (List NI×D)} (h:∀ kv∈kvs,Yi n kv.2) {vs:List Nkv} (r:RepN C I α vs kvs):RepN C I (α.take n) vs kvs:=by
 induction r with
 | nil=>exact .nil
 | cons a b ih=>exact .cons ⟨a.1,h _ Jm _ _ _ _ a.2⟩ (ih fun x hx=>h x (Jg _ hx))
theorem Zk9 {n:Nat} {sh:List Nat} {z:Option (Obj×List Nkv)} {ds:List (List NI×D)} (h:∀ d∈ds,Yi n d.2):Xk n (.dcN sh z ds):=fun _ _ _ _ _ x=>by
 cases z with
 | none=>obtain ⟨vs,e,k,r⟩:=x;exists vs,e,k,Nx h r
 | some z=>exact ⟨x.1,x.2.1,Nx h x.2.2⟩
theorem Zrr {n:Nat} {Cl:Addr} {fs:List (Str×D)} (h:∀ d∈fs,Yi n d.2):Xk n (.ins Cl fs):=fun C I α H a x=>by
 obtain ⟨dx,vs,e,r⟩:=x;exists dx,vs,e,?_;clear e
 induction fs generalizing vs with
 | nil=>cases r; exact .nil
 | cons d ds ih =>
  cases r with
  | cons a b=>exact .cons ⟨a.1,h _ Jm _ _ _ _ a.2⟩ (ih (fun x hx=>h x (Jg _ hx)) _ b)
theorem MoAt.bel {a:Addr} (h:MoAt C I α H a m):Xk α.length m:=by
 cases m with
 | lst ds=>obtain ⟨vs,e,r⟩:=h; exact Zrq r.bel
 | dct ds=>obtain ⟨vs,e,r⟩:=h; exact Zrw r.bel
 | dcT ds=>obtain ⟨vs,e,r⟩:=h; exact Zrx r.bel
 | drK ds=>obtain ⟨vs,e,r⟩:=h; exact Zrt r.bel
 | drT ds=>obtain ⟨vs,e,r⟩:=h; exact Zrs r.bel
 | dfT o vs ds=>exact Zru h.2.bel
 | dfK o vs ds=>exact Zrv h.2.bel
 | ins Cl fs =>
  obtain ⟨dx,vs,e,r⟩:=h;refine Zrr fun kv hk=>?_;clear e
  induction r with
  | nil=>cases hk
  | cons a b ih =>
   rcases Jy.mp hk with z | z
   ·rw [z]; exact a.2.bel
   ·exact ih z
 | hand=>exact Zny
 | tab P pos q=>exact Zrp
 | dcN sh z ds=>cases z with | none=>obtain ⟨vs,e,k,r⟩:=h; exact Zk9 r.bel | some z=>exact Zk9 h.2.2.bel
def Rel.wf (R:Rel C Z I α H M):WfM M:=fun m hm=>by
 obtain ⟨k,hk,rfl⟩:=Ge hm;have hk':k < α.length:=by rw [R.len]; exact hk
 have:=(R.cel k _ _ (Jb hk') (Jb hk)).1.bel;rwa [R.len] at this
theorem BelS.belowE {n:Nat} {ρ0 ρ':Ev} (b:BelS n ρ0 ρ ρ'):(∀ (i:Nat) (d:D),ρ0[i]?=some (some d)->Yi n d)->BelowE n ρ ρ':=by
 induction b with
 | nil=>exact fun _=>.nil
 | skip _ ih=>exact fun h=>.skip (ih fun i d e=>h (i+1) d (by simpa using e))
 | same _ ih=>exact fun h=>.keep (h 0 _ rfl) (ih fun i d e=>h (i+1) d (by simpa using e))
 | keep hb _ ih=>exact fun h=>.keep hb (ih fun i d e=>h (i+1) d (by simpa using e))
theorem Dr.out {I0:Hp} {α0:List Addr} {H0:Hp} {M0:Mem} {P:Ev->Mem->Prop} {σ0:St} {ρ0:Ev} (h:Dr ρ0 M0 P ρ M) (R0:Rel C Z I0 α0 H0 M0) (E0:RepE C I0 α0 σ0 ρ0) (p:α0<+:α) (R:Rel C Z I α H M) (E:RepE C I α σ ρ) :
  ∃ α' ρ' M',α0<+:α'/\Rel C Z I α' H M'/\RepE C I α' σ ρ'/\P ρ' M':=by
 rcases h with h | ⟨ρ',⟨X,rfl⟩,hb,h⟩ | ⟨n,ρ',hl,hb,hm,h⟩
 ·exists α,ρ,M,p,R,E,h
 ·have hb':=hb.belowE fun i d e=>by
   obtain ⟨v,_,r⟩:=E0.2 i d e;have:=r.bel;rwa [R0.len] at this
  have et:(M0++X).take M0.length=M0:=List.take_left ..;have R1:=R.take M0.length (by rw [<- R0.len]; exact R0.aa.length_le) (by rw [et]; exact R0.wf);rw [et] at R1;exists α.take M0.length,ρ',M0,Tq p (by rw [R0.len]; exact Jd _),R1,hb'.rep E,h
 ·exists α.take n,ρ',M.take n,Tq p (by rw [R0.len]; lia),R.take n (by have:=R0.aa.length_le; have:=R0.len; lia) hm,hb.rep E,h
section
variable {t t':TS} {u u':TS3} {ue:TE3} {tc:TT} {uc:TT3} {ug:TG3} {gs:TGs} {ugs:TGs3}
def uSeq (u u':TS3):TS3:=fun E ρ M=>u { E with nx:=u' E } ρ M
def Zx (h1:SimS C Z t u) (h2:SimS C Z t' u'):SimS C Z (tSeq t t') (uSeq u u'):=fun I α σ H ρ M E D' R RE h F =>
 h1 I α σ H ρ M { E with nx:=u' E } { D' with nx:=t' D' } R RE h ⟨fun I1 α1 σ1 H1 ρ1 M1 s p R1 RE1 h1=>h2 I1 α1 σ1 H1 ρ1 M1 E D' R1 RE1 h1 (F.mono s p),F.rt,F.bk,F.ct⟩
abbrev Zr9:TS3:=fun E ρ M=>E.nx ρ M
def Ro:SimS C Z Zo6 Zr9:=fun I α σ H ρ M E D' R RE h F=>F.nx I α σ H ρ M (.refl _) (Jk _) R RE h
def Zsi:TS3:=fun E ρ M=>E.ct ρ M
def Zp4:SimS C Z Zpe Zsi:=fun I α σ H ρ M E D' R RE h F=>F.ct I α σ H ρ M (.refl _) (Jk _) R RE h
abbrev Zlj (E:Ends3) (ρ:Ev):D->Mem->Prop:=fun _x0 M1=>E.nx ρ M1
def Zsg (ue:TE3):TS3:=fun E ρ M=>ue ρ M (Zlj E ρ)
def Zff (he:SimE C Z te ue):SimS C Z (Zpa te) (Zsg ue):=fun I α σ H ρ M E D' R RE h F =>
 he I α σ H ρ M _ _ R RE h fun v d I1 α1 H1 M1 s p R1 r h1=>F.nx I1 α1 σ H1 ρ M1 s p R1 (RE.mono s p) h1
def uRet (ue:TE3):TS3:=fun E ρ M=>ue ρ M E.rt
def Uf (he:SimE C Z te ue):SimS C Z (tRet te) (uRet ue):=fun I α σ H ρ M E D' R RE h F=>he I α σ H ρ M _ _ R RE h F.rt
abbrev Zop (u:TS3) (u':TS3) (E:Ends3) (ρ:Ev):Bool->Mem->Prop:=fun b M1=>if b=true then u E ρ M1 else u' E ρ M1
def uIfS (c:TT3) (u u':TS3):TS3:=fun E ρ M=>c ρ M (Zop u u' E ρ)
def Zao (hc:SimT C Z tc uc) (h1:SimS C Z t u) (h2:SimS C Z t' u'):SimS C Z (tIfS tc t t') (uIfS uc u u'):=fun I α σ H ρ M E D' R RE h F =>
 hc I α σ H ρ M _ _ R RE h fun b I1 α1 H1 M1 s p R1 h3=>by
  cases b with
  | true =>
   exact h1 I1 α1 σ H1 ρ M1 E D' R1 (RE.mono s p) h3 (F.mono s p)
  | false =>
   exact h2 I1 α1 σ H1 ρ M1 E D' R1 (RE.mono s p) h3 (F.mono s p)
abbrev Zj6 (ug:TG3) (E:Ends3) (ρ:Ev):D->Mem->Prop:=fun d M1=>ug d ρ M1 E.nx
def uAsg (ue:TE3) (ug:TG3):TS3:=fun E ρ M=>ue ρ M (Zj6 ug E ρ)
def Xr (he:SimE C Z te ue) (hg:SimG C Z g ug):SimS C Z (tAsg te g) (uAsg ue ug):=fun I α σ H ρ M E D' R RE h F =>
 he I α σ H ρ M _ _ R RE h fun v d I1 α1 H1 M1 s p R1 r h1=>hg I1 α1 σ H1 ρ M1 v d _ _ R1 (RE.mono s p) r h1 (F.nx.mono s p)
abbrev uG (i:Nat):TG3:=fun d ρ M K=>K (ρ.set i (some d)) M
def s_g (i:Nat):SimG C Z (Zbc i) (uG i):=fun I α σ H ρ M v d K Q R RE r h k=>k I α _ H _ M (.refl _) (Jk _) R (RE.set r i) h
abbrev Zsf:TGs3:=fun ds ρ M K=>ds=[]/\K ρ M
abbrev Zii (ugs:TGs3) (r:List D) (K:Ev->Mem->Prop):Ev->Mem->Prop:=fun ρ' M'=>ugs r ρ' M' K
inductive uGCons (ug:TG3) (ugs:TGs3) (ds:List D) (ρ:Ev) (M:Mem) (K:Ev->Mem->Prop):Prop
 | mk:∀ d r,ds=d::r->ug d ρ M (Zii ugs r K)->uGCons ug ugs ds ρ M K
def Zp2:Zh2 C Z gNil Zsf:=fun I α σ H ρ M vs ds K Q R RE r h k=>by
 obtain ⟨rfl,h⟩:=h;cases r.inv;exists rfl,k I α σ H ρ M (.refl _) (Jk _) R RE h
theorem Zl8 (h1:SimG C Z g ug) (h2:Zh2 C Z gs ugs):Zh2 C Z (Znn g gs) (uGCons ug ugs):=fun I α σ H ρ M vs ds K Q R RE r h k=>by
 obtain ⟨d,r',rfl,h⟩:=h;cases r with
 | cons a b=>exact ⟨_,_,rfl,h1 I α σ H ρ M _ d _ _ R RE a h fun I1 α1 σ1 H1 ρ1 M1 s p R1 RE1 h3=>h2 I1 α1 σ1 H1 ρ1 M1 _ _ _ _ R1 RE1 (b.mono s p) h3 (k.mono s p)⟩
inductive uGTup (n:Nat) (ugs:TGs3) (d:D) (ρ:Ev) (M:Mem) (K:Ev->Mem->Prop):Prop
 | mk:∀ ds,Zlq d=some ds->ds.length=n->ugs ds ρ M K->uGTup n ugs d ρ M K
def Zp1 {n:Nat} (h:Zh2 C Z gs ugs):SimG C Z (gTup C.k n gs) (uGTup n ugs):=fun I α σ H ρ M v d K Q R RE r hh k=>by
 obtain ⟨ds,e,hl,hh⟩:=hh;obtain ⟨a,vs,rfl,ea,_,ra⟩:=W7 R r e;exists a,vs,rfl,SqT.of ea,by rw [ra.length]; exact hl,h I α σ H ρ M vs ds K Q R RE ra hh k
inductive uAug_1 (i:Nat) (f:Int->Int->Int) (E:Ends3) (ρ:Ev) (x:Int) (d:D) (M1:Mem):Prop
 | mk:∀ y,d=.int y->E.nx (ρ.set i (some (.int (f x y)))) M1->uAug_1 i f E ρ x d M1
inductive uAug (i:Nat) (ue:TE3) (f:Int->Int->Int) (E:Ends3) (ρ:Ev) (M:Mem):Prop
 | mk:∀ x,ρ[i]?=some (some (.int x))->ue ρ M (uAug_1 i f E ρ x)->uAug i ue f E ρ M
def Zp5 {i:Nat} {f:Int->Int->Int} (he:SimE C Z te ue):SimS C Z (tAug i te (ipI f)) (uAug i ue f):=fun I α σ H ρ M E D' R RE h F=>by
 obtain ⟨x,e,h⟩:=h;obtain ⟨v,e2,r⟩:=RE.2 i _ e;cases r.inv;exists _,e2,he I α σ H ρ M _ _ R RE h fun v d I1 α1 H1 M1 s p R1 r h1=>?_;obtain ⟨y,rfl,h1⟩:=h1;cases r.inv;exists x,y,rfl,rfl,F.nx I1 α1 _ H1 _ M1 s p R1 ((RE.mono s p).set (.int _) i) h1
abbrev Zbt (P:Nat->Ev->Mem->Prop) (ρ:Ev) (M:Mem) (m:Nat):Ev->Mem->Prop:=fun ρ' M'=>∃ m',m'<m/\Dr ρ M (P m') ρ' M'
abbrev Zic (E:Ends3) (P:Nat->Ev->Mem->Prop) (ρ:Ev) (M:Mem) (m:Nat):Ends3:={ E with nx:=Zbt P ρ M m,ct:=Zbt P ρ M m,bk:=E.nx }
abbrev Zid (u:TS3) (E:Ends3) (ρ:Ev) (M:Mem) (P:Nat->Ev->Mem->Prop) (m:Nat) (ρ1:Ev):Bool->Mem->Prop:=fun b M2=>if b=true then u (Zic E P ρ M m) ρ1 M2 else E.nx ρ1 M2
inductive uWhile (uc:TT3) (u:TS3) (E:Ends3) (ρ:Ev) (M:Mem):Prop
 | mk:∀ P:Nat->Ev->Mem->Prop,(∃ m,P m ρ M)->(∀ m ρ1 M1,P m ρ1 M1->uc ρ1 M1 (Zid u E ρ M P m ρ1))->uWhile uc u E ρ M
theorem Zaj (hc:SimT C Z tc uc) (hb:SimS C Z t u):SimS C Z (Zep tc t) (uWhile uc u):=fun I α σ H ρ M E D' R RE h F=>by
 obtain ⟨P,⟨m0,h0⟩,hs⟩:=h;have hlen:=R.len;exists fun m σ1 H1=>∃ I1 α1 ρ1 M1,Same I I1/\α<+:α1/\Rel C Z I1 α1 H1 M1/\RepE C I1 α1 σ1 ρ1/\P m ρ1 M1,⟨m0,I,α,ρ,M,.refl _,Jk _,R,RE,h0⟩,?_;rintro m σ1 H1 ⟨I1,α1,ρ1,M1,s1,p1,R1,RE1,h1⟩;refine hc I1 α1 σ1 H1 ρ1 M1 _ _ R1 RE1 (hs m ρ1 M1 h1) fun b I2 α2 H2 M2 s2 p2 R2 h2=>?_;cases b with
 | false =>
  exact F.nx I2 α2 σ1 H2 ρ1 M2 (s1.trans s2) (p1.trans p2) R2 (RE1.mono s2 p2) h2
 | true =>
  refine ⟨fun σ' H'=>∃ m',m'<m/\∃ I1 α1 ρ1 M1,Same I I1/\α<+:α1/\Rel C Z I1 α1 H' M1/\RepE C I1 α1 σ' ρ1/\P m' ρ1 M1,fun σ' H' h=>h,?_⟩;have nx:FinS C Z I2 α2 (fun ρ' M'=>∃ m',m'<m/\Dr ρ M (P m') ρ' M') (fun σ' H'=>∃ m',m'<m/\∃ I1 α1 ρ1 M1,Same I I1/\α<+:α1/\Rel C Z I1 α1 H' M1/\RepE C I1 α1 σ' ρ1/\P m' ρ1 M1):=fun I3 α3 σ3 H3 ρ3 M3 s3 p3 R3 RE3 h3=>by
   obtain ⟨m',hm,h3⟩:=h3;obtain ⟨α4,ρ4,M4,p4,R4,RE4,h4⟩:=h3.out R RE (p1.trans (p2.trans p3)) R3 RE3;exists m',hm,I3,α4,ρ4,M4,s1.trans (s2.trans s3),p4,R4,RE4,h4
  exact hb I2 α2 σ1 H2 ρ1 M2 _ _ R2 (RE1.mono s2 p2) h2 ⟨nx,F.rt.mono (s1.trans s2) (p1.trans p2),F.nx.mono (s1.trans s2) (p1.trans p2),nx⟩
structure It3 where
 n:Nat
 item:Nat->D->Prop
 ok:Mem->Prop
abbrev TI3:=Ev->Mem->(It3->Mem->Prop)->Prop
def ItR (C:Cf) (Z:Anc) (I:Hp) (α:List Addr) (J:It) (j:It3):Prop:=∀ I' α' H' M',Same I I'->α<+:α'->Rel C Z I' α' H' M'->j.ok M' ->
 (∀ i,i<j.n->J.go i H'/\∀ x H2,J.yld i H' x H2->∃ I2 d,Same I' I2/\Rel C Z I2 α' H2 M'/\Rep C I2 α' x d/\j.item i d)/\J.stop j.n H'
def SimI (C:Cf) (Z:Anc) (w:TI) (u:TI3):Prop:=∀ I α σ H ρ M (K:It3->Mem->Prop) (R':It->Hp->Prop),Rel C Z I α H M->RepE C I α σ ρ->u ρ M K ->
 (∀ J j I' α' H' M',Same I I'->α<+:α'->Rel C Z I' α' H' M'->ItR C Z I' α' J j->K j M'->R' J H')->w σ H R'
inductive uIL_1 (K:It3->Mem->Prop) (d:D) (M1:Mem):Prop
 | mk:∀ ds,Ys M1 d=some ds->K ⟨ds.length,fun i x=>ds[i]?=some x,fun M=>Ys M d=some ds⟩ M1->uIL_1 K d M1
def uIL (ue:TE3):TI3:=fun ρ M K=>ue ρ M (uIL_1 K)
def s_il (he:SimE C Z te ue):SimI C Z (Znj C.k te) (uIL ue):=fun I α σ H ρ M K R' R RE h k =>
 he I α σ H ρ M _ _ R RE h fun v d I1 α1 H1 M1 s1 p1 R1 r1 h1=>by
  obtain ⟨ds,e,h1⟩:=h1;obtain ⟨a,vs,rfl,ea,ra⟩:=W4 R1 r1 e;exists a,rfl,⟨vs,ea⟩,k _ _ I1 α1 H1 M1 s1 p1 R1 (fun I2 α2 H2 M2 s2 p2 R2 ok=>?_) h1;obtain ⟨b,ws,eb,eq,rw'⟩:=W4 R2 (r1.mono s2 p2) ok;cases eb;exists fun i hi=>?_,⟨ws,eq,by rw [rw'.length]; exact Jd _⟩;have hi2:i<ws.length:=by rw [rw'.length]; exact hi
  exists ⟨ws,ws[i],eq,Jb hi2⟩,fun x H3 y=>?_;obtain ⟨rfl,y⟩:=y;have:=y ws eq;rw [Jb hi2] at this;cases this;exists I2,ds[i],.refl _,R2,rw'.at hi2 hi,Jb hi
inductive uIT_1 (K:It3->Mem->Prop) (d:D) (M1:Mem):Prop
 | mk:∀ ds,Zlq d=some ds->K ⟨ds.length,fun i x=>ds[i]?=some x,fun _=>True⟩ M1->uIT_1 K d M1
def uIT (ue:TE3):TI3:=fun ρ M K=>ue ρ M (uIT_1 K)
def Jan (he:SimE C Z te ue):SimI C Z (iTup C.k te) (uIT ue):=fun I α σ H ρ M K R' R RE h k =>
 he I α σ H ρ M _ _ R RE h fun v d I1 α1 H1 M1 s1 p1 R1 r1 h1=>by
  obtain ⟨ds,e,h1⟩:=h1;obtain ⟨a,vs,rfl,ea,ia,ra⟩:=W7 R1 r1 e;exists a,rfl,⟨vs,SqT.of ea⟩,k _ _ I1 α1 H1 M1 s1 p1 R1 (fun I2 α2 H2 M2 s2 p2 R2 ok=>?_) h1;have eq:SqT C.k H2 a vs:=SqT.of (R2.sub _ _ (s2 _ _ ia));have rw':=ra.mono s2 p2;exists fun i hi=>?_,⟨vs,eq,by rw [rw'.length]; exact Jd _⟩;have hi2:i<vs.length:=by rw [rw'.length]; exact hi
  exists ⟨vs,vs[i],eq,Jb hi2⟩,fun x H3 y=>?_;obtain ⟨rfl,y⟩:=y;have:=y vs eq;rw [Jb hi2] at this;cases this;exists I2,ds[i],.refl _,R2,rw'.at hi2 hi,Jb hi
def Zmd (lo:Int) (n:Nat):It3:=⟨n,fun i x=>x=.int (lo+i),fun _=>True⟩
def Ztc {lo:Int} {n:Nat}:ItR C Z I α (Itr lo n) (Zmd lo n):=fun I' α' H' M' s p R _=>⟨fun i hi=>⟨hi,fun x H2 y=>by
 obtain ⟨rfl,rfl⟩:=y;exact ⟨I',_,.refl _,R,.int _,rfl⟩⟩,Jd _⟩
variable {ta:TA} {ua:TA3}
inductive uIR1_1 (K:It3->Mem->Prop) (ds:List D) (M1:Mem):Prop
 | mk:∀ j:Int,ds=[.int j]->(-(2 ^ 62)<=j/\j<2 ^ 62)->K (Zmd 0 j.toNat) M1->uIR1_1 K ds M1
def uIR1 (ua:TA3):TI3:=fun ρ M K=>ua ρ M (uIR1_1 K)
def Zp0 (ha:SimA C Z ta ua):SimI C Z (Zq5 ta) (uIR1 ua):=fun I α σ H ρ M K R' R RE h k =>
 ha I α σ H ρ M _ _ R RE h fun vs ds I1 α1 H1 M1 s1 p1 R1 r1 h1=>by
  obtain ⟨j,rfl,⟨h2,h3⟩,h1⟩:=h1;refine Reps.e1 r1 fun _ a=>?_;cases a;exists j,rfl,h2,h3,k _ _ I1 α1 H1 M1 s1 p1 R1 Ztc h1
inductive uIE_1 (K:It3->Mem->Prop) (ds:List D) (M1:Mem):Prop
 | mk:∀ d xs,ds=[d]->Ys M1 d=some xs->K ⟨xs.length,fun i x=>∃ y,xs[i]?=some y/\x=.tup [.int i,y],fun M=>Ys M d=some xs⟩ M1->uIE_1 K ds M1
def uIE (ua:TA3):TI3:=fun ρ M K=>ua ρ M (uIE_1 K)
def s_ie (ha:SimA C Z ta ua):SimI C Z (Zq6 C.k ta) (uIE ua):=fun I α σ H ρ M K R' R RE h k =>
 ha I α σ H ρ M _ _ R RE h fun vs ds I1 α1 H1 M1 s1 p1 R1 r1 h1=>by
  obtain ⟨d,xs,rfl,e,h1⟩:=h1;refine Reps.e1 r1 fun _ r1=>?_;obtain ⟨a,vs,rfl,ea,ra⟩:=W4 R1 r1 e;exists a,rfl,⟨vs,ea⟩,k _ _ I1 α1 H1 M1 s1 p1 R1 (fun I2 α2 H2 M2 s2 p2 R2 ok=>?_) h1;obtain ⟨b,ws,eb,eq,rw'⟩:=W4 R2 (r1.mono s2 p2) ok;cases eb;exists fun i hi=>?_,⟨ws,eq,by rw [rw'.length]; exact Jd _⟩;have hi2:i<ws.length:=by rw [rw'.length]; exact hi
  exists ⟨ws,ws[i],eq,Jb hi2⟩,fun x H3 y=>?_;obtain ⟨t,y,rfl,ht,rfl,q⟩:=y;have q2:=q _ eq;rw [Jb hi2] at q2;cases q2;obtain ⟨R3,s3,e3⟩:=R2.new (o:=.tup [.int (i:Nat),ws[i]]) ht;exists _,.tup [.int (i:Nat),xs[i]],s3,R3,.tup e3 (.cons (.int _) (.one ((rw'.at hi2 hi).mono s3 (Jk _)))),_,Jb hi,rfl
abbrev Zoq (E:Ends3) (ρ:Ev) (M:Mem) (P:Nat->Ev->Mem->Prop) (i:Nat):Ends3:={ E with nx:=Dr ρ M (P (i+1)),ct:=Dr ρ M (P (i+1)),bk:=E.nx }
inductive uFor_1 (ug:TG3) (ub:TS3) (E:Ends3) (ρ:Ev) (j:It3) (M1:Mem):Prop
 | mk:∀ P:Nat->Ev->Mem->Prop,(∀ i ρ M,i<=j.n->P i ρ M->j.ok M)->P 0 ρ M1 ->
  (∀ i x ρ1 M',i<j.n->j.item i x->P i ρ1 M'->ug x ρ1 M' (ub (Zoq E ρ M1 P i)))->(∀ ρ M,P j.n ρ M->E.nx ρ M)->uFor_1 ug ub E ρ j M1
def uFor (ui:TI3) (ug:TG3) (ub:TS3):TS3:=fun E ρ M=>ui ρ M (uFor_1 ug ub E ρ)
theorem Zdk {ui:TI3} (hi:SimI C Z wi ui) (hg:SimG C Z g ug) (hb:SimS C Z t u):SimS C Z (tFor wi g t) (uFor ui ug u):=fun I α σ H ρ M E D' R RE h F =>
 hi I α σ H ρ M _ _ R RE h fun J j I1 α1 H1 M1 s1 p1 R1 IR h1=>by
  obtain ⟨P,hok,h0,hs,he⟩:=h1;have hlen:=R1.len;exists fun i m σ' H'=>m=j.n-i/\i<=j.n/\∃ I2 α2 ρ2 M2,Same I1 I2/\α1<+:α2/\Rel C Z I2 α2 H' M2/\RepE C I2 α2 σ' ρ2/\P i ρ2 M2,⟨j.n,rfl,Jz _,I1,α1,ρ,M1,.refl _,Jk _,R1,RE.mono s1 p1,h0⟩,?_;rintro i m σ' H' ⟨rfl,hi,I2,α2,ρ2,M2,s2,p2,R2,RE2,h2⟩;obtain ⟨go,stop⟩:=IR I2 α2 H' M2 s2 p2 R2 (hok i ρ2 M2 hi h2)
  by_cases hlt:i<j.n
  ·obtain ⟨g1,g2⟩:=go i hlt;refine .inr ⟨g1,fun σ3 H3=>∃ I3 α3 ρ3 M3,Same I1 I3/\α1<+:α3/\Rel C Z I3 α3 H3 M3/\RepE C I3 α3 σ3 ρ3/\P (i+1) ρ3 M3,fun σ3 H3 h3=>⟨j.n-(i+1),by lia,rfl,hlt,h3⟩,fun x H3 y=>?_⟩;obtain ⟨I3,d,s3,R3,r3,it⟩:=g2 x H3 y;refine hg I3 α2 σ' H3 ρ2 M2 x d _ _ R3 (RE2.mono s3 (Jk _)) r3 (hs i d ρ2 M2 hlt it h2) fun I4 α4 σ4 H4 ρ4 M4 s4 p4 R4 RE4 h4=>?_;have nx:FinS C Z I4 α4 (Dr ρ M1 (P (i+1))) (fun σ3 H3=>∃ I3 α3 ρ3 M3,Same I1 I3/\α1<+:α3/\Rel C Z I3 α3 H3 M3/\RepE C I3 α3 σ3 ρ3/\P (i+1) ρ3 M3):=fun I5 α5 σ5 H5 ρ5 M5 s5 p5 R5 RE5 h5=>by
    obtain ⟨α6,ρ6,M6,p6,R6,RE6,h6⟩:=h5.out R1 (RE.mono s1 p1) (p2.trans (p4.trans p5)) R5 RE5;exists I5,α6,ρ6,M6,s2.trans (s3.trans (s4.trans s5)),p6,R6,RE6,h6
   have F4:=F.mono (s1.trans (s2.trans (s3.trans s4))) (p1.trans (p2.trans p4));exact hb I4 α4 σ4 H4 ρ4 M4 _ _ R4 RE4 h4 ⟨nx,F4.rt,F4.nx,nx⟩
  ·have e:i=j.n:=by lia
   subst e;exact .inl ⟨stop,F.nx I2 α2 σ' H' ρ2 M2 (s1.trans s2) (p1.trans p2) R2 RE2 (he ρ2 M2 h2)⟩
def sg3 (ρ:Ev) (T:List Str) (cs:List Nat):Ev:=T.map (fun _=>none)++cs.map fun i=>ρ.getD i none
def RepE.sg (h:RepE C I α σ ρ) (T:List Str) (cs:List Nat):RepE C I α (sgOf σ T cs) (sg3 ρ T cs):=by
 exists by unfold sgOf sg3; simp,fun i d e=>?_;unfold sg3 at e;unfold sgOf
 by_cases hi:i<T.length
 ·rw [Jv (by simpa using hi),Gg,Jb hi] at e;simp at e
 ·rw [Go (by simpa using hi),Gg] at e;rw [Go (by simpa using hi),Gg];simp only [Ja] at e ⊢;cases hc:cs[i-T.length]? with
  | none=>rw [hc] at e; cases e
  | some c =>
   rw [hc] at e;simp only [B6,Option.some.injEq] at e ⊢;rw [Gk] at e ⊢;cases hr:ρ[c]? with
   | none=>rw [hr] at e; cases e
   | some o =>
    rw [hr] at e;cases e;obtain ⟨v,e2,r⟩:=h.2 c d hr;exists v,by rw [e2]; rfl,r
variable {tt:TT} {ut:TT3} {T:List Str} 
abbrev Zrm (P:Nat->List D->Mem->Prop) (i:Nat) (ys:List D):D->Mem->Prop:=fun y M4=>P (i+1) (ys++[y]) M4
abbrev Zrn (ue:TE3) (P:Nat->List D->Mem->Prop) (i:Nat) (ys:List D) (ρ2:Ev):Bool->Mem->Prop:=fun b M3=>if b=true then ue ρ2 M3 (Zrm P i ys) else P (i+1) ys M3
abbrev Zro (ut:TT3) (ue:TE3) (P:Nat->List D->Mem->Prop) (i:Nat) (ys:List D):Ev->Mem->Prop:=fun ρ2 M2=>ut ρ2 M2 (Zrn ue P i ys ρ2)
inductive cmp3_0 (ug:TG3) (ut:TT3) (ue:TE3) (T:List Str) (cs:List Nat) (ρ:Ev) (F:List D->Mem->Prop) (j:It3) (M1:Mem):Prop
 | mk:j.n<=sizeLine->∀ P:Nat->List D->Mem->Prop,(∀ i ys M,i<=j.n->P i ys M->j.ok M)->P 0 [] M1 ->
  (∀ i x ys M,i<j.n->j.item i x->P i ys M->ug x (sg3 ρ T cs) M (Zro ut ue P i ys))->(∀ ys M,P j.n ys M->F ys M)->cmp3_0 ug ut ue T cs ρ F j M1
def cmp3 (ui:TI3) (ug:TG3) (ut:TT3) (ue:TE3) (T:List Str) (cs:List Nat) (ρ:Ev) (M:Mem) (F:List D->Mem->Prop):Prop:=ui ρ M (cmp3_0 ug ut ue T cs ρ F)
abbrev Zlk (K:K3):List D->Mem->Prop:=fun ys M1=>K (.lst ys) M1
abbrev Zin (K:K3):List D->Mem->Prop:=fun ys M1=>K (.cell M1.length) (M1++[.lst ys])
def Zsj (ui:TI3) (ug:TG3) (ut:TT3) (ue:TE3) (T:List Str) (cs:List Nat):TE3:=fun ρ M K=>cmp3 ui ug ut ue T cs ρ M (Zlk K)
def Zou (ui:TI3) (ug:TG3) (ut:TT3) (ue:TE3) (T:List Str) (cs:List Nat):TE3:=fun ρ M K=>cmp3 ui ug ut ue T cs ρ M (Zin K)
theorem Zc9 {ui:TI3} (hi:SimI C Z wi ui) (hg:SimG C Z g ug) (ht:SimT C Z tt ut) (he:SimE C Z te ue) {F:List D->Mem->Prop} (R:Rel C Z I α H M) (RE:RepE C I α σ ρ) (h:cmp3 ui ug ut ue T cs ρ M F)
  (k:∀ ys vs I' α' H' M',Same I I'->α<+:α'->Rel C Z I' α' H' M'->Reps C I' α' vs ys->F ys M'->∀ p,H' p=none->Q (.ref p) (upd H' p (.lst vs))):Zet wi g tt te T cs σ H Q :=
 hi I α σ H ρ M _ _ R RE h fun J j I1 α1 H1 M1 s1 p1 R1 IR h1=>by
  obtain ⟨hz,P,hok,h0,hs,hd⟩:=h1;exists fun i m vs H'=>m=j.n-i/\i<=j.n/\∃ I2 α2 ys M2,Same I1 I2/\α1<+:α2/\Rel C Z I2 α2 H' M2/\Reps C I2 α2 vs ys/\ys.length<=i/\P i ys M2,⟨j.n,rfl,Jz _,I1,α1,[],M1,.refl _,Jk _,R1,.nil,Jd _,h0⟩,?_;rintro i m vs H' ⟨rfl,hi,I2,α2,ys,M2,s2,p2,R2,r2,hl,h2⟩;obtain ⟨go,stop⟩:=IR I2 α2 H' M2 s2 p2 R2 (hok i ys M2 hi h2);have hvl:=r2.length
  by_cases hlt:i<j.n
  ·obtain ⟨g1,g2⟩:=go i hlt;refine .inr ⟨g1,by lia,fun vs3 H3=>∃ I3 α3 ys3 M3,Same I1 I3/\α1<+:α3/\Rel C Z I3 α3 H3 M3/\Reps C I3 α3 vs3 ys3/\ys3.length<=i+1/\P (i+1) ys3 M3,fun vs3 H3 h3=>⟨j.n-(i+1),by lia,rfl,hlt,h3⟩,fun x H3 y=>?_⟩;obtain ⟨I3,d,s3,R3,r3,it⟩:=g2 x H3 y;have RE3:RepE C I3 α2 σ ρ:=RE.mono (s1.trans (s2.trans s3)) (p1.trans p2);refine hg I3 α2 _ H3 _ M2 x d _ _ R3 (RE3.sg T cs) r3 (hs i d ys M2 hlt it h2) fun I4 α4 σ4 H4 ρ4 M4 s4 p4 R4 RE4 h4=>?_;refine ht I4 α4 σ4 H4 ρ4 M4 _ _ R4 RE4 h4 fun b I5 α5 H5 M5 s5 p5 R5 h5=>?_;cases b with
   | true =>
    refine he I5 α5 σ4 H5 ρ4 M5 _ _ R5 (RE4.mono s5 p5) h5 fun v e I6 α6 H6 M6 s6 p6 R6 r6 h6=>?_;exists I6,α6,ys++[e],M6,s2.trans (s3.trans (s4.trans (s5.trans s6))),p2.trans (p4.trans (p5.trans p6)),R6,(r2.mono (s3.trans (s4.trans (s5.trans s6))) (p4.trans (p5.trans p6))).app (.one r6),?_,h6;rw [Jc,Jx];lia
   | false =>
    exists I5,α5,ys,M5,s2.trans (s3.trans (s4.trans s5)),p2.trans (p4.trans p5),R5,r2.mono (s3.trans (s4.trans s5)) (p4.trans p5),by lia,h5
  ·have e:i=j.n:=by lia
   subst e;exact .inl ⟨stop,by lia,k ys vs I2 α2 H' M2 (s1.trans s2) (p1.trans p2) R2 r2 (hd ys M2 h2)⟩
def Zke {ui:TI3} (hi:SimI C Z wi ui) (hg:SimG C Z g ug) (ht:SimT C Z tt ut) (he:SimE C Z te ue):SimE C Z (Zet wi g tt te T cs) (Zsj ui ug ut ue T cs):=fun I α σ H ρ M K Q R RE h k =>
 Zc9 hi hg ht he R RE h fun ys vs I' α' H' M' s p R' r hF q hq=>by
  obtain ⟨R2,s2,e2⟩:=R'.new (o:=.lst vs) hq;exact k _ _ _ α' _ M' (s.trans s2) p R2 (.lst e2 (r.mono s2 (Jk _))) hF
def Zmb {ui:TI3} (hi:SimI C Z wi ui) (hg:SimG C Z g ug) (ht:SimT C Z tt ut) (he:SimE C Z te ue):SimE C Z (Zet wi g tt te T cs) (Zou ui ug ut ue T cs):=fun I α σ H ρ M K Q R RE h k =>
 Zc9 hi hg ht he R RE h fun ys vs I' α' H' M' s p R' r hF q hq=>by
  obtain ⟨R2,p2,e2⟩:=R'.cell (o:=.lst vs) (m:=.lst ys) hq fun H' e=>⟨vs,e,r⟩;exact k _ _ I' _ _ _ s (p.trans p2) R2 (.cell e2) hF
abbrev Zr4:TT3:=fun _ M K=>K true M
def Zfa:SimT C Z Zo0 Zr4:=fun I α σ H ρ M K Q R E h k=>k true I α H M (.refl _) (Jk _) R h
abbrev Sp3:=List D->Mem->K3->Prop
def spOf (C:Cf) (sp:Sp3):Sp:=fun vs H Q _=>∃ Z I α M ds K,Rel C Z I α H M/\Reps C I α vs ds/\sp ds M K/\Fin C Z I α K Q
abbrev Zll (sp:Sp3) (K:K3):List D->Mem->Prop:=fun ds M1=>sp ds M1 K
def Zlm (sp:Sp3) (ua:TA3):TE3:=fun ρ M K=>ua ρ M (Zll sp K)
def Pp {sp:Sp3} {E0':XK} (ha:SimA C Z ta ua):SimE C Z (Zls (spOf C sp) [] E0' ta) (Zlm sp ua):=fun I α σ H ρ M K Q R RE h k =>
 ha I α σ H ρ M _ _ R RE h fun vs ds I1 α1 H1 M1 s1 p1 R1 r1 h1=>by
  rw [Gi];exists Z,I1,α1,M1,ds,K,R1,r1,h1,k.mono s1 p1
def Cal.imp {x:Str} {k:Nat} {sp':Sp} (c:Cal P w K mg base x k ps sp) (h:∀ vs H Q E,sp' vs H Q E->sp vs H Q E):Cal P w K mg base x k ps sp' :=
 let ⟨f,fd,a,b⟩:=c
 ⟨f,fd,a.imp h,b⟩
def Pk (N:List Str) (ds:List D):Ev:=ds.map some++List.replicate (N.length-ds.length) none
def Pu (r:Reps C I α vs ds) (N:List Str):RepE C I α (L2.Uc N vs) (Pk N ds):=by
 have hl:=r.length;exists by unfold L2.Uc Pk; simp [hl],fun i d e=>?_;unfold Pk at e;unfold L2.Uc
 by_cases hi:i<ds.length
 ·rw [Jv (by simpa using hi),Gg,Jb hi] at e;have e':ds[i]=d:=by simpa using e
  rw [Jv (by simpa [hl] using hi),Gg,Jb (by rw [hl]; exact hi)];exists ·,e' ▸ r.at (by rw [hl]; exact hi) hi
 ·rw [Go (by simpa using hi),List.getElem?_replicate] at e
  split at e <;> cases e
def Fun.ok3 {x:Str} {f:Addr} {k:Nat} {sp:Sp3} (F:Fun K x qual st f fd) (S:FnScope N ps (Zf st)) (len:∀ ds M K,sp ds M K->ds.length=ps.length)
  (hbody:∀ (cdv:Value) (A:Around) (outer:List Env) (s:Shared) (H:Hp) (E:XK),Room k (A.deeper (PyProof.Rows.envOfC qual (Zf st) s.heap.objs.size f cdv)) ->
   ∃ t u,PSs (cxOf CX0 P w K mg base N qual (Zf st) f cdv A outer s H E).nox (Yn st) t/\(∀ Z,SimS C Z t u)/\∀ ds M K,WfM M->(∀ d∈ds,Yi M.length d)->sp ds M K->u { nx:=fun _ M'=>Dk M.length K .non M',rt:=Dk M.length K } (Pk N ds) M):FnOk P w K mg base CX0 (k+1) f fd ps (spOf C sp):=by
 refine F.ok S (fun vs H Q E h=>?_) (fun cdv A outer s H vs Q E hr h=>?_)
 ·obtain ⟨Z,I,α,M,ds,K,R,r,h,_⟩:=h;rw [r.length];exact len ds M K h
 ·obtain ⟨t,u,h1,h2,h3⟩:=hbody cdv A outer s H E hr;obtain ⟨Z,I,α,M,ds,K,R,r,h,k⟩:=h;have kd:=k.dk R.len R.aa;exists t,h1,h2 Z I α _ H _ M _ _ R (Pu r N) (h3 ds M K R.wf (by rw [<- R.len]; exact r.bel) h) ⟨fun I1 α1 σ1 H1 ρ1 M1 s1 p1 R1 _ h1=>kd _ _ I1 α1 H1 M1 s1 p1 R1 .non h1,kd,fun _ _ _ _ _ _ _ _ _ _ h=>h.elim,fun _ _ _ _ _ _ _ _ _ _ h=>h.elim⟩
end
section
def Zsz {ue:TE3} (he:SimE C Z te ue) (h:K'=C.k):SimI C Z (Znj K' te) (uIL ue):=h ▸ s_il he
def Zsx {ue:TE3} (he:SimE C Z te ue) (h:K'=C.k):SimI C Z (iTup K' te) (uIT ue):=h ▸ Jan he
def Zl7 {n:Nat} {gs:TGs} {ugs:TGs3} (hg:Zh2 C Z gs ugs) (h:K'=C.k):SimG C Z (gTup K' n gs) (uGTup n ugs):=h ▸ Zp1 hg
def Zfi {uo:TE3} {t:TA} {u:TA3} (ho:SimE C Z to uo) (ha:SimA C Z t u) (h:K'=C.k):SimE C Z (tBM K' "list" Zas to t) (uBML app3 uo u):=h ▸ Zis ho ha
def Zfe {uo:TE3} {t:TA} {u:TA3} (ho:SimE C Z to uo) (ha:SimA C Z t u) (h:K'=C.k):SimE C Z (tBM K' "list" Zar to t) (uBML ext3 uo u):=h ▸ Zb7 ho ha
end
section
def Rel.full (R:Rel C Z I α H M):∃ I',Same I I'/\Rel C Z I' α H M/\∀ b o,H b=some o->b∉α->I' b=some o:=by
 have s:Same I (fun b=>if b∈α then none else H b):=fun b o e=>by
  have hb:b∉α:=fun hb=>by
   obtain ⟨k,hk,rfl⟩:=Ge hb;have hk':k<M.length:=by rw [<- R.len]; exact hk
   rw [(R.cel k _ _ (Jb hk) (Jb hk')).2] at e;cases e
  show (if b∈α then none else H b)=some o;rw [F0 hb];exact R.sub b o e
 exists _,s,⟨R.ai.trans s,R.aa,fun b o e=>?_,R.len,R.nd,fun k a m h1 h2=>?_⟩,fun b o e hb=>?_
 ·have e':(if b∈α then none else H b)=some o:=e
  split at e'
  ·cases e'
  ·exact e'
 ·exists (R.cel k a m h1 h2).1.mono s (Jk _) rfl,?_;show (if a∈α then none else H a)=none;rw [F1 (Gv h1)]
 ·show (if b∈α then none else H b)=some o;rw [F0 hb];exact e
def Rel.out (R:Rel C Z I α H M) (h:H l=none):l∉α:=fun hl=>by
 obtain ⟨k,hk,e⟩:=Ge hl;exact R.cellNe (Jb hk) h e
theorem Rel.tupOut (R:Rel C Z I α H M) (h:H l=some (.tup vs)):l∉α:=fun hl=>by
 obtain ⟨k,hk,rfl⟩:=Ge hl;have hk':k<M.length:=by rw [<- R.len]; exact hk
 have:=(R.cel k _ _ (Jb hk) (Jb hk')).1;cases hm:M[k] with
 | lst ds=>rw [hm] at this; obtain ⟨vs,e,_⟩:=this; rw [h] at e; cases e
 | dct ds=>rw [hm] at this; obtain ⟨vs,e,_⟩:=this; rw [h] at e; cases e
 | dcT ds=>rw [hm] at this; obtain ⟨vs,e,_⟩:=this; rw [h] at e; cases e
 | drK ds=>rw [hm] at this; obtain ⟨vs,e,_⟩:=this; rcases e with e | ⟨o,e⟩ <;> (rw [h] at e; cases e)
 | drT ds=>rw [hm] at this; obtain ⟨vs,e,_⟩:=this; rcases e with e | ⟨o,e⟩ <;> (rw [h] at e; cases e)
 | dfT o vs ds=>rw [hm] at this; have e:=this.1; rw [h] at e; cases e
 | dfK o vs ds=>rw [hm] at this; have e:=this.1; rw [h] at e; cases e
 | ins Cl fs=>rw [hm] at this; obtain ⟨dx,vs,e,_⟩:=this; rw [h] at e; cases e
 | hand=>rw [hm] at this; obtain ⟨d,k,c,cs,e,_⟩:=this; rw [h] at e; cases e
 | tab P pos q=>rw [hm] at this; obtain ⟨_,ps,e,_⟩:=this; rw [h] at e; cases e
 | dcN sh z ds=>rw [hm] at this; cases z with | none=>obtain ⟨vs,e,_⟩:=this; rw [h] at e; cases e | some z=>have e:=this.1; rw [h] at e; cases e
def Rel.same (R:Rel C Z I α H M) (s:Same H H'):Rel C Z I α H' M:=by
 exists R.ai,R.aa,R.sub.trans s,R.len,R.nd,fun k a m h1 h2=>?_;obtain ⟨a1,a2⟩:=R.cel k a m h1 h2;obtain ⟨o,e⟩:=a1.some;exists a1.mono (.refl _) (Jk _) ((s _ _ e).trans e.symm),a2
def Rel.grow (R:Rel C Z I α H M) {k:Nat} {p c:Addr} {cs:List Int} (ha:α[k]?=some p) (hm:M[k]?=some .hand) (hh:HandAt H' p c) (ic:I c=some (.lst (cs.map V.int))) (hc:cs≠[]/\cs.length<=63/\∀ c∈cs,0<=c) (g:Grow p H H'):Rel C Z I α H' M:=by
 have ip:I p=none:=(R.cel k p _ ha hm).2;exists R.ai,R.aa,fun b o e=>g b o (R.sub b o e) (fun z=>by rw [z,ip] at e; cases e),R.len,R.nd,fun j a m h1 h2=>?_;obtain ⟨a1,a2⟩:=R.cel j a m h1 h2
 by_cases e:k=j
 ·subst e;rw [ha] at h1;cases h1;rw [hm] at h2;cases h2;obtain ⟨d0,i0,cs',x1,x2,x3,x4,x5,x6,x7⟩:=hh.ex;exists ⟨d0,i0,c,cs,x1,ic,hc.1,hc.2.1,x5,x6,hc.2.2⟩,ip
 ·obtain ⟨o,eo⟩:=a1.some;have ne:a≠p:=fun z=>by
   obtain ⟨hj,ej⟩:=Je.mp h1;obtain ⟨hk,ek⟩:=Je.mp ha;rw [<- ej,<- ek] at z;exact e ((Bo R.nd).mp z).symm
  exists a1.mono (.refl _) (Jk _) ((g _ _ eo ne).trans eo.symm),a2
def Rel.hand (R:Rel C Z I α H M) {k:Nat} {p:Addr} (ha:α[k]?=some p) (hm:M[k]?=some .hand):∃ c cs,HandAt H p c/\I c=some (.lst (cs.map V.int))/\cs≠[]/\cs.length<=63/\∀ c∈cs,0<=c:=by
 obtain ⟨d,i,c,cs,e,ic,h1,h2,h3,h4,h5⟩:=(R.cel k p _ ha hm).1;exists c,cs,⟨d,i,cs,e,R.sub _ _ ic,h1,h2,h3,h4,h5⟩,ic,h1,h2,h5
theorem Rel.cellAt (R:Rel C Z I α H M) (il:I l=none) (hl:l∉α) (hm:MoAt C I α H l m):Rel C Z I (α++[l]) H (M++[m])/\α<+:(α++[l])/\(α++[l])[M.length]?=some l:=by
 refine ⟨⟨R.ai,R.aa.trans (Js _ _),R.sub,by rw [Jc,Jc,R.len]; rfl,?_,fun k a x h1 h2=>?_⟩,Js _ _,by rw [<- R.len]; simp⟩
 ·rw [Bv];exists R.nd,by simp,fun a ha b hb e=>hl (by rw [<- Jh.mp hb,<- e]; exact ha)
 ·by_cases hk:k < α.length
  ·rw [Jv hk] at h1;rw [Jv (by rw [<- R.len]; exact hk)] at h2;obtain ⟨a1,a2⟩:=R.cel k a x h1 h2;exists a1.mono (.refl _) (Js _ _) rfl,a2
  ·obtain ⟨hk2,_⟩:=Je.mp h1;rw [Jc,Jx] at hk2;have e:k=α.length:=by lia
   subst e;have e1:(α++[l])[α.length]?=some l:=by simp
   have e2:(M++[m])[α.length]?=some m:=by rw [R.len]; simp
   rw [e1] at h1;rw [e2] at h2;cases h1;cases h2;exists hm.mono (.refl _) (Js _ _) rfl,il
end
variable {ui:L3.TI3}
def wD (w:List Int):D:=.tup (w.map .int)
def pD (p:Pr):D:=.tup [.int p.1,wD p.2]
def oD:Option Int->D
 | some z=>.int z
 | none=>.non
section
def Zs4 (s:∀ b xs,H b=some (.tup xs)->I b=some (.tup xs)) {p:Pr} (h:Q6 H v p):Rep C I α v (pD p):=by
 obtain ⟨t,tw,rfl,e,e2⟩:=h;exact .tup (s _ _ e) (.cons (.int _) (.one (.tup (s _ _ e2) (.ints p.2))))
theorem Zca {F:V->τ->Prop} {f:τ->D} (h:∀ v a,F v a->Rep C I α v (f a)):∀ {vs:List V} {as:List τ},Paired F vs as->Reps C I α vs (as.map f):=by
 intro _ _ hz9;cases hz9 with
 | nil=>
  exact .nil
 | cons a b=>
  exact .cons (h _ _ a) (Zca h b)
theorem Zf6 {F:V->τ->Prop} {f:τ->D} (h:∀ v a,Rep C I α v (f a)->F v a):∀ {vs:List V} {as:List τ},Reps C I α vs (as.map f)->Paired F vs as
 | _,[],r=>by cases r.inv; exact .nil
 | _,a::as,r=>by
  cases r with
  | cons x y=>exact .cons (h _ _ x) (Zf6 h y)
def Zr3 (s:Same I H) {w:List Int} (h:Rep C I α v (wD w)):Zr0 H v w:=by
 obtain ⟨_,_,rfl,e,r⟩:=h.inv;rw [r.of_ints w] at e;exists ·,s _ _ e
theorem Zs8 (s:Same I H) {p:Pr} (h:Rep C I α v (pD p)):Q6 H v p:=by
 cases h with
 | tup e r =>
  cases r with
  | cons a b =>
   cases b with
   | cons b c =>
    cases c;cases a;obtain ⟨t,rfl,e2⟩:=Zr3 s b;exists _,t,rfl,s _ _ e,e2
theorem Zfl:∀ (os:List (Option Int)),Reps C I α (os.map oV) (os.map oD)
 | []=>.nil
 | none::r=>.cons .non (Zfl r)
 | some z::r=>.cons (.int z) (Zfl r)
end
section
inductive dDraw (ds:List D) (M:Mem) (K:K3):Prop
 | mk:∀ k n,ds=[.cell k,.int n]->(M[k]?=some .hand/\(0<n/\n<1073741824)/\∀ r,0<=r->r<n->K (.int r) M)->dDraw ds M K
def Zrz {E:XK} (h:spOf C dDraw vs H Q E):Zbx vs H Q E:=by
 obtain ⟨Z,I,α,M,ds,K,R,r,⟨k,n,rfl,hm,⟨n0,n1⟩,h⟩,kk⟩:=h;refine Reps.e2 r fun _ _ r1 r2=>?_;cases r2.inv;obtain ⟨p,rfl,ha⟩:=r1.inv;obtain ⟨c,cs,hh,ic,hc⟩:=R.hand ha hm;exists p,c,n,rfl,hh,n0,n1,fun z H' z0 z1 hh' g _=>kk _ _ I α H' M (.refl _) (Jk _) (R.grow ha hm hh' ic hc g) (.int z) (h z z0 z1)
inductive dOpen (ds:List D) (M:Mem) (K:K3):Prop
 | mk:∀ (ns:List Int) (i:Int),ds=[.frz (ns.map .int),.int i]->((ns.length<=63/\0<=i/\i<2 ^ 60)/\K (.cell M.length) (M++[.hand]))->dOpen ds M K
def Ng {k:Nat} {p c:Addr} {cs bs:List Int} {K:K3} (R:Rel C Z I α H M) (ha:α[k]?=some p) (hm:M[k]?=some .hand) (hh:HandAt H' p c) (ic:I c=some (.lst (cs.map V.int))) (hc:cs≠[]/\cs.length<=63/\∀ c∈cs,0<=c) (g:Grow p H H')
  (nl:H l=none) (el:H' l=some (.lst (bs.map V.int))) (kk:Fin C Z I α K Q) (h:K (.lst (bs.map .int)) M):Q (.ref l) H':=by
 obtain ⟨I',s,R',f⟩:=(R.grow ha hm hh ic hc g).full;exact kk _ _ I' α H' M s (Jk _) R' (.lst (f _ _ el (R.out nl)) (.ints bs)) h
inductive dSigns (ds:List D) (M:Mem) (K:K3):Prop
 | mk:∀ k m,ds=[.cell k,.int m]->(M[k]?=some .hand/\(0<=m/\m<=100)/\∀ ss:List Int,ss.Nodup->(ss.length:Int)=m->K (.lst (ss.map .int)) M)->dSigns ds M K
def Zn3 {E:XK} (h:spOf C dSigns vs H Q E):Zex vs H Q E:=by
 obtain ⟨Z,I,α,M,ds,K,R,r,⟨k,m,rfl,hm,⟨m0,m1⟩,h⟩,kk⟩:=h;refine Reps.e2 r fun _ _ r1 r2=>?_;cases r2.inv;obtain ⟨p,rfl,ha⟩:=r1.inv;obtain ⟨c,cs,hh,ic,hc⟩:=R.hand ha hm;exists p,c,m,rfl,hh,m0,m1,fun l bs H' nl _ el nd b2 hh' g=>Ng R ha hm hh' ic hc g nl el kk (h bs nd b2)
inductive dTable (ds:List D) (M:Mem) (K:K3):Prop
 | mk:∀ (k:Nat) (ws:List (List Int)) (ss:List Int),ds=[.cell k,.lst (ws.map wD),.lst (ss.map .int)]->(M[k]?=some .hand/\(WOk ws/\ws.length<=28/\ss.Nodup/\ws.length<=ss.length/\ss.length<=100)/\∀ L:List Pr,Free L->Fits L->(L.map (·.2)).Perm ws->K (.lst (L.map pD)) M)->dTable ds M K
end
section
variable {t:TA} {u:TA3}
inductive uRev_3 (K:K3) (d:D) (M2:Mem):Prop
 | mk:∀ xs,Ys M2 d=some xs->K (.lst xs.reverse) M2->uRev_3 K d M2
abbrev Zog (K:K3) (d:D):Option Int->Mem->Prop:=fun k M2=>k=some (-1)/\uRev_3 K d M2
abbrev Zoh (us:TO3) (ρ:Ev) (K:K3):D->Mem->Prop:=fun d M1=>us ρ M1 (Zog K d)
def uRev (ua:TE3) (us:TO3):TE3:=fun ρ M K=>ua ρ M (Zoh us ρ K)
def Zsq {ts:TO} {us:TO3} (ha:SimE C Z ta ua) (hs:SimO C Z ts us):SimE C Z (tRev C.k ta ts) (uRev ua us):=fun I α σ H ρ M K Q R E h k =>
 ha I α σ H ρ M _ _ R E h fun v d I1 α1 H1 M1 s1 p1 R1 r1 h1 =>
  hs I1 α1 σ H1 ρ M1 _ _ R1 (E.mono s1 p1) h1 fun o I2 α2 H2 M2 s2 p2 R2 h2=>by
   obtain ⟨ho,xs,e,h2⟩:=h2;obtain ⟨a,vs,rfl,ea,ra⟩:=W4 R2 (r1.mono s2 p2) e;exists ho,a,vs,rfl,ea,fun p hp=>?_;obtain ⟨R3,s3,e3⟩:=R2.new (o:=.lst vs.reverse) hp;exact k _ _ _ α2 _ M2 (s1.trans (s2.trans s3)) (p1.trans p2) R3 (.lst e3 (ra.rev.mono s3 (Jk _))) h2
def valD [DecidableEq κ] (kvs:List (κ×D)) (k:κ):Option D:=(kvs.find? fun kv=>decide (kv.1=k)).map (·.2)
def putD [DecidableEq κ] (kvs:List (κ×D)) (k:κ) (v:D):List (κ×D) :=
 if (kvs.any fun kv=>decide (kv.1=k))=true then kvs.map (fun kv=>if kv.1=k then (kv.1,v) else kv) else kvs++[(k,v)]
def Zng:D->Option Key
 | .int i=>some (.inl i)
 | .str s=>some (.inr s)
 | _=>none
section
theorem P7 {d:D} {k:Key} (r:Rep C I α v d) (h:Zng d=some k):v=kV k:=by
 cases r with
 | int i=>cases h; rfl
 | str i=>cases h; rfl
 | _=>cases h
theorem RepK.len:∀ {vs:List (Key×V)} {ds:List (Key×D)},RepK C I α vs ds->vs.length=ds.length:=by
 intro _ _ hz9;cases hz9 with
 | nil=>
  exact rfl
 | cons _ b=>
  exact by rw [Jq,Jq,RepK.len b]
def Zec [DecidableEq κ] {k k':κ} {d:D} {r:List (κ×D)}:valD ((k',d)::r) k=if k'=k then some d else valD r k:=by
 unfold valD;rw [Gq]
 by_cases h:k'=k
 ·simp [h]
 ·simp [h]
def Zeb [DecidableEq κ] {k k':κ} {d:V} {r:List (κ×V)}:valV ((k',d)::r) k=if k'=k then some d else valV r k:=by
 unfold valV;rw [Gq]
 by_cases h:k'=k
 ·simp [h]
 ·simp [h]
theorem RepK.val {k:Key}:∀ {vs:List (Key×V)} {ds:List (Key×D)},RepK C I α vs ds->(valD ds k=none/\valV vs k=none)\/∃ d v,valD ds k=some d/\valV vs k=some v/\Rep C I α v d
 | _,_,.nil=>.inl ⟨rfl,rfl⟩
 | _,_,.cons (k:=k') (v:=v) (d:=d) a b=>by
  rw [Zec,Zeb]
  by_cases h:k'=k
  ·rw [F1 h,F1 h]; exact .inr ⟨d,v,rfl,rfl,a⟩
  ·rw [F0 h,F0 h]; exact RepK.val b
theorem RepK.any {k:Key}:∀ {vs:List (Key×V)} {ds:List (Key×D)},RepK C I α vs ds->(vs.any fun kv=>decide (kv.1=k))=(ds.any fun kv=>decide (kv.1=k)):=by
 intro _ _ hz9;cases hz9 with
 | nil=>
  exact rfl
 | cons a b=>
  exact by rw [Bx,Bx,RepK.any b]
theorem RepK.app:∀ {vs ws:List (Key×V)} {ds es:List (Key×D)},RepK C I α vs ds->RepK C I α ws es->RepK C I α (vs++ws) (ds++es):=by
 intro _ _ _ _ hz9 s;cases hz9 with
 | nil=>
  exact s
 | cons r t=>
  exact .cons r (RepK.app t s)
theorem RepK.mapPut {k:Key} {d:D} (r:Rep C I α v d):∀ {vs:List ((Key)×V)} {ds:List ((Key)×D)},RepK C I α vs ds->RepK C I α (vs.map fun kv=>if kv.1=k then (kv.1,v) else kv) (ds.map fun kv=>if kv.1=k then (kv.1,d) else kv)
 | _,_,.nil=>.nil
 | _,_,.cons (k:=k') a b=>by
  rw [Ju,Ju]
  by_cases e:k'=k
  ·simp only [e,if_true]; exact .cons r (RepK.mapPut r b)
  ·simp only [e,if_false]; exact .cons a (RepK.mapPut r b)
def RepK.put {k:Key} {d:D} {vs:List ((Key)×V)} {ds:List ((Key)×D)} (h:RepK C I α vs ds) (r:Rep C I α v d):RepK C I α (putK vs k v) (putD ds k d):=by
 unfold putK putD;rw [h.any]
 split
 ·exact RepK.mapPut r h
 ·exact h.app (.cons r .nil)
def Nm (M:Mem):D->Option (List (Key×D))
 | .dct kvs=>some kvs
 | .cell k=>match M[k]? with | some (.dct kvs)=>some kvs | some (.drK kvs)=>some kvs | some (.dfK _ _ kvs)=>some kvs | _=>none
 | _=>none
def Zjo (M:Mem):D->Option (List (List Key×D))
 | .dcT kvs=>some kvs
 | .cell k=>match M[k]? with | some (.dcT kvs)=>some kvs | some (.drT kvs)=>some kvs | _=>none
 | _=>none
theorem Zk3 {d:D} {kvs:List (Key×D)} (R:Rel C Z I α H M) (r:Rep C I α v d) (h:Nm M d=some kvs):∃ a vs,v=.ref a/\Rd H a (.dK vs)/\RepK C I α vs kvs:=by
 cases r with
 | dct e r=>cases h;exists _,·,.inl (R.sub _ _ e),r
 | @cell a k e =>
  unfold Nm at h;cases hm:M[k]? with
  | none=>simp only [hm] at h; cases h
  | some m =>
   cases m with
   | dct es=>simp only [hm] at h; cases h; obtain ⟨vs,e1,r⟩:=(R.cel k a _ e hm).1;exists _,·,.inl e1,r
   | drK es=>simp only [hm] at h; cases h; obtain ⟨vs,e1,r⟩:=(R.cel k a _ e hm).1;exists _,·,e1,r
   | dfK o vs es=>simp only [hm] at h; cases h; obtain ⟨e1,r⟩:=(R.cel k a _ e hm).1;exists _,·,.inr ⟨o,e1⟩,r
   | _=>simp only [hm] at h; cases h
 | _=>cases h
theorem Zrg {d:D} {kvs:List (List Key×D)} (R:Rel C Z I α H M) (r:Rep C I α v d) (h:Zjo M d=some kvs):∃ a vs,v=.ref a/\Rd H a (.dT vs)/\RepT C I α vs kvs:=by
 cases r with
 | dcT e r=>cases h;exists _,·,.inl (R.sub _ _ e),r
 | @cell a k e =>
  unfold Zjo at h;cases hm:M[k]? with
  | none=>simp only [hm] at h; cases h
  | some m =>
   cases m with
   | dcT es=>simp only [hm] at h; cases h; obtain ⟨vs,e1,r⟩:=(R.cel k a _ e hm).1;exists _,·,.inl e1,r
   | drT es=>simp only [hm] at h; cases h; obtain ⟨vs,e1,r⟩:=(R.cel k a _ e hm).1;exists _,·,e1,r
   | _=>simp only [hm] at h; cases h
 | _=>cases h
end
def isD (M:Mem) (d:D):Prop:=Nm M d≠none\/Zjo M d≠none
def isD_at {d:D} (R:Rel C Z I α H M) (r:Rep C I α v d) (h:isD M d):∃ a,v=.ref a/\IsD H a:=by
 rcases h with h | h
 ·cases e:Nm M d with
  | none=>exact Fs e h
  | some kvs=>obtain ⟨a,vs,rfl,ea,_⟩:=Zk3 R r e;exists a,rfl,.inl ⟨vs,ea⟩
 ·cases e:Zjo M d with
  | none=>exact Fs e h
  | some kvs=>obtain ⟨a,vs,rfl,ea,_⟩:=Zrg R r e;exists a,rfl,.inr ⟨vs,ea⟩
abbrev noF (m:Str):Prop:=∀ a b c d e:V,List.lookup m [("pairs",a),("words_by_sign",b),("signs_by_word",c),("begun",d),("word_sizes",e)]=none
abbrev Zig (sp:Sp3) (K:K3) (d:D):List D->Mem->Prop:=fun ds M2=>sp (d::ds) M2 K
abbrev Zih (sp:Sp3) (u:TA3) (ρ:Ev) (K:K3):D->Mem->Prop:=fun d M1=>(∃ S,d=.code S)/\u ρ M1 (Zig sp K d)
def Zom (sp:Sp3) (ua:TE3) (u:TA3):TE3:=fun ρ M K=>ua ρ M (Zih sp u ρ K)
def Zan {m:Str} {sp:Sp3} (hm:noF m) (ha:SimE C Z ta ua) (hr:SimA C Z t u):SimE C Z (Zer C.c m (spOf C sp) [] E0 ta t) (Zom sp ua u):=fun I α σ H ρ M K Q R E h k =>
 ha I α σ H ρ M _ _ R E h fun v d I1 α1 H1 M1 s1 p1 R1 r1 h1=>by
  obtain ⟨⟨S,rfl⟩,h1⟩:=h1;cases r1 with
  | @code x _ hc =>
   obtain ⟨dx,tp,d1,d2,d3,d4,ex,ci⟩:=hc;exists x,dx,·,R1.sub _ _ ex,hm _ _ _ _ _,?_;refine hr I1 α1 σ H1 ρ M1 _ _ R1 (E.mono s1 p1) h1 fun vs ds I2 α2 H2 M2 s2 p2 R2 r2 h2=>?_;rw [Gi];exists Z,I2,α2,M2,_,K,R2,.cons (.code (Wl.same ⟨dx,tp,d1,d2,d3,d4,ex,ci⟩ s2)) r2,h2,k.mono (s1.trans s2) (p1.trans p2)
def Met.imp {C:Addr} {m:Str} {k:Nat} {sp':Sp} (c:Met P w K mg base C m k ps sp) (h:∀ vs H Q E,sp' vs H Q E->sp vs H Q E):Met P w K mg base C m k ps sp' :=
 let ⟨f,fd,a,b,e,d⟩:=c
 ⟨f,fd,a,b,e.imp h,d⟩
def Rel.made {k0:Nat} {x:Addr} {q:Str} (R:Rel C Z I α H M) (hk:M[k0]?=some (.tab Pt pos q)) (nx:H x=none) (tb:Wb Pt pos q H') (g:∀ b o,b≠x->b≠Pt->H b=some o->H' b=some o) :
  ∃ I',Same I I'/\Rel C Z I' α H' M/\∀ b o,H' b=some o->b∉α->I' b=some o:=by
 obtain ⟨P',eP,⟨rfl,ps0,e0,_⟩,iP⟩:=R.get hk;have hα:∀ b,b∈α->b≠x:=fun b hb=>by
  obtain ⟨k,hk,rfl⟩:=Ge hb;exact R.cellNe (Jb hk) nx
 have hI:∀ b o,I b=some o->b∉α:=fun b o e hb=>by
  obtain ⟨k,hk,rfl⟩:=Ge hb;have hk':k<M.length:=by rw [<- R.len]; exact hk
  rw [(R.cel k _ _ (Jb hk) (Jb hk')).2] at e;cases e
 have hS:∀ b o,I b=some o->H' b=some o:=fun b o e=>g b o (fun z=>by rw [z,R.sub.free nx] at e; cases e) (fun z=>by rw [z,iP] at e; cases e) (R.sub b o e);have s:Same I (fun b=>if b∈α then none else H' b):=fun b o e=>by
  show (if b∈α then none else H' b)=some o;rw [F0 (hI b o e)];exact hS b o e
 have hc:∀ (k:Nat) (a:Addr) (m:MO),k≠k0->α[k]?=some a->M[k]?=some m->H' a=H a:=fun k a m ne h1 h2=>by
  obtain ⟨o,eo⟩:=(R.cel k a m h1 h2).1.some;have n2:a≠P':=fun z=>by
   obtain ⟨hj,ej⟩:=Je.mp h1;obtain ⟨hk,ek⟩:=Je.mp eP;rw [<- ej,<- ek] at z;exact ne ((Bo R.nd).mp z)
  exact (g a o (hα a (Gv h1)) n2 eo).trans eo.symm
 exists _,s,⟨R.ai.trans s,R.aa,fun b o e=>?_,R.len,R.nd,fun k a m h1 h2=>?_⟩,fun b o e hb=>?_
 ·have e':(if b∈α then none else H' b)=some o:=e
  split at e'
  ·cases e'
  ·exact e'
 ·refine ⟨?_,by show (if a∈α then none else H' a)=none; rw [F1 (Gv h1)]⟩
  by_cases ne:k=k0
  ·subst ne;rw [eP] at h1;cases h1;rw [hk] at h2;cases h2;obtain ⟨ps,e1,t1,z⟩:=tb;exists rfl,ps,e1,t1,?_;rcases z with z | ⟨c,z1,z2⟩
   ·exact .inl z
   ·refine .inr ⟨c,z1,?_⟩;show (if c∈α then none else H' c)=_;rw [F0,z2];intro hcα;obtain ⟨j,hj,ec⟩:=Ge hcα;have hj':j<M.length:=by rw [<- R.len]; exact hj
    have h1:=Jb hj;have h2:=Jb hj';rw [ec] at h1
    by_cases nj:j=k
    ·subst nj;rw [eP] at h1;cases h1;rw [e1] at z2;cases z2
    ·have hh:=hc j c _ nj h1 h2;have mo:=(R.cel j c _ h1 h2).1;rw [z2] at hh;cases hm:M[j] with
     | lst ds=>rw [hm] at mo; obtain ⟨vs,e,_⟩:=mo; rw [e] at hh; cases hh
     | dct ds=>rw [hm] at mo; obtain ⟨vs,e,_⟩:=mo; rw [e] at hh; cases hh
     | dcT ds=>rw [hm] at mo; obtain ⟨vs,e,_⟩:=mo; rw [e] at hh; cases hh
     | drK ds=>rw [hm] at mo; obtain ⟨vs,e,_⟩:=mo; rcases e with e | ⟨o,e⟩ <;> (rw [e] at hh; cases hh)
     | drT ds=>rw [hm] at mo; obtain ⟨vs,e,_⟩:=mo; rcases e with e | ⟨o,e⟩ <;> (rw [e] at hh; cases hh)
     | dfT o vs ds=>rw [hm] at mo; rw [mo.1] at hh; cases hh
     | dfK o vs ds=>rw [hm] at mo; rw [mo.1] at hh; cases hh
     | ins Cl fs=>rw [hm] at mo; obtain ⟨dx,vs,e,_⟩:=mo; rw [e] at hh; cases hh
     | hand=>rw [hm] at mo; obtain ⟨d,k,c,cs,e,_⟩:=mo; rw [e] at hh; cases hh
     | tab P pos q=>rw [hm] at mo; obtain ⟨_,ps,e,_⟩:=mo; rw [e] at hh; cases hh
     | dcN sh z ds =>
      rw [hm] at mo;cases z with
      | none =>
       obtain ⟨vs,e,_⟩:=mo;rw [e] at hh;exact dnP.ne ⟨.none,none,.fields #[.none,.str q default],#[]⟩ rfl (fun h g=>⟨c,_,_,_,rfl,g,rfl,rfl⟩) (HO.ext.inj (F5 hh)).symm
      | some z=>rw [mo.1] at hh; cases hh
  ·exact (R.cel k a m h1 h2).1.mono s (Jk _) (hc k a m ne h1 h2)
 ·show (if b∈α then none else H' b)=some o;rw [F0 hb];exact e
def Zae (C Pt:Addr) (pos:Pos) (q:Str):Sp:=fun vs H Q _=>∃ x a dx L,vs=[.ref x,.ref a]/\H x=some (.ins C dx [])/\U4 H a L/\Free L/\Fits L/\Wb Pt pos q H /\
 ∀ (H':Hp) (S:List Pr),S.Perm L->Zbl S->(∃ dx tp d1 d2 d3 d4,H' x=some (.ins C dx [("pairs",.ref tp),("words_by_sign",.ref d1),("signs_by_word",.ref d2),("begun",.ref d3),("word_sizes",.ref d4)])/\CodeIn H' tp d1 d2 d3 d4 S/\H d1=none/\H d2=none/\H d3=none)->Wb Pt pos q H' ->
  (∀ b o,b≠x->b≠Pt->H b=some o->H' b=some o)->Q .non H'
def Zlh (Pt:Addr) (pos:Pos) (q:Str) (u:TA3):TE3:=fun ρ M K=>u ρ M fun ds M1=>∃ (k0:Nat) (d:D) (L:List Pr),M1[k0]?=some (.tab Pt pos q)/\ds=[d]/\lsOf M1 d=some (L.map pD)/\(Free L/\Fits L)/\∀ S:List Pr,S.Perm L->Zbl S->K (.code S) M1
def Zb6 {q:Str} (hr:SimA C Z t u):SimE C Z (Zlr C.c (Zae C.c Pt pos q) [] E0 t) (Zlh Pt pos q u):=fun I α σ H ρ M K Q R E h k =>
 hr I α σ H ρ M _ _ R E h fun vs ds I1 α1 H1 M1 s1 p1 R1 r1 h1=>by
  obtain ⟨k0,d,L,hk,rfl,e1,⟨fr,fi⟩,h1⟩:=h1;intro x dx nx ndx ne;refine Reps.e1 r1 fun _ r1=>?_;obtain ⟨a,vs,rfl,ea,ra⟩:=Qm R1 r1 e1;obtain ⟨P',eP,⟨eqP,ps,ep,tp,cp⟩,iP⟩:=R1.get hk;subst eqP;have sH:Same H1 (upd (upd H1 dx (.own x)) x (.ins C.c dx [])):=(Zp ndx).trans (Zp (by rw [Zm (Ne.symm ne)]; exact nx));have ta1:U4 H1 a L:=⟨vs,ea,Zf6 (F:=Q6 H1) (f:=pD) (fun v a z=>Zs8 R1.sub z) ra⟩;have tb1:Wb P' pos q H1:=⟨ps,ep,tp,by
   rcases cp with z | ⟨c,z1,z2⟩
   ·exact .inl z
   ·exact .inr ⟨c,z1,R1.sub _ _ z2⟩⟩
  exists x,a,dx,L,rfl,Zg,ta1.same sH,fr,fi,tb1.same sH,fun H' S pm ri ca tb g=>⟨rfl,?_⟩;obtain ⟨I',s',R',f⟩:=R1.made hk nx tb fun b o n1 n2 e=>g b o n1 n2 (sH b o e);have xα:x∉α1:=R1.out nx;obtain ⟨dx',tp',d1,d2,d3,d4,ex,⟨⟨vs',a1,a2⟩,⟨k1,b1,b2⟩,⟨k2,c1,c2⟩,⟨k3,f1,f2⟩,⟨k4,g1,g2⟩⟩,n1,n2,n3⟩:=ca;have tupI:∀ b xs,H' b=some (.tup xs)->I' b=some (.tup xs):=fun b xs e=>f b _ e (R'.tupOut e);have no:∀ b o,H' b=some o->(upd (upd H1 dx (.own x)) x (.ins C.c dx [])) b=none->I' b=some o:=fun b o e n=>f b o e (R1.out (sH.free n));refine k _ _ I' α1 H' M1 (s1.trans s') p1 R' (.code ⟨dx',tp',d1,d2,d3,d4,f _ _ ex xα,⟨vs',tupI _ _ a1,Paired.mapP a2 fun v p z=>?_⟩,⟨k1,no _ _ b1 n1,fun p hp=>?_,b2.2⟩,⟨k2,no _ _ c1 n2,c2⟩,⟨k3,no _ _ f1 n3,f2⟩,⟨k4,tupI _ _ g1,g2⟩⟩) (h1 S pm ri)
  ·obtain ⟨t,tw,e1,e2,e3⟩:=z;exists t,tw,e1,tupI _ _ e2,tupI _ _ e3
  ·obtain ⟨t,u1,u2⟩:=b2.1 p hp;exists t,u1,tupI _ _ u2
end
def Sx :(M++[m])[M.length]?=some m:=by simp
def Zb2 {m':MO}:(M++[m]).set M.length m'=M++[m']:=by simp
section
def Zhj (R:Rel C Z I α H M) (r:Rep C I α v (.code S)):∃ x,v=.ref x/\Wl C.c H x S:=by
 obtain ⟨_,rfl,h⟩:=r.inv;exists ·,h.same R.sub
def Zkz {d:D} (R:Rel C Z I α H M) (r:Rep C I α v d) (h:lsOf M d=some (ns.map .int)):∃ a,v=.ref a/\H a=some (.lst (ns.map V.int)):=by
 obtain ⟨a,vs,rfl,ea,ra⟩:=Qm R r h;rw [ra.of_ints ns] at ea;exists a,rfl,ea
end
def Zjd {i:Nat} {x:D} (h:(ns.map D.int)[i]?=some x):∃ hi:i<ns.length,x=.int ns[i]:=by
 obtain ⟨hi,e⟩:=Je.mp h;rw [Ja] at hi;exists hi,?_;rw [<- e,List.getElem_map]
def Yc {f:τ->D} {as:List τ} {i:Nat} {x:D} (h:(as.map f)[i]?=some x):∃ hi:i<as.length,x=f as[i]:=by
 obtain ⟨hi,e⟩:=Je.mp h;rw [Ja] at hi;exact ⟨hi,by rw [<- e,List.getElem_map]⟩
def V7 {f:τ->D} {as:List τ} {i:Int} (h:i=j) (hj:j<as.length):L2.atI (as.map f) i=some (f as[j]):=by
 subst h;exact Wa (by rw [Gg,Jb hj]; rfl)
def Zgm {xs:List D}:lsOf (M++[.lst xs]) (.cell M.length)=some xs:=by simp [lsOf]
def Zcp {xs:List D}:Ys (M++[.lst xs]) (.cell M.length)=some xs:=by simp [Ys]
def Ql {d:D} {xs:List D} (h:lsOf M d=some xs):lsOf M d≠none:=by rw [h]; exact fun z=>nomatch z
end L3
variable {C:L3.Cf} {M:L3.Mem} {Z:L3.Anc} {ds:List L3.D} {m:L3.MO} {ρ:L3.Ev} {ua ub:L3.TE3} {ui:L3.TI3}
namespace L3
def Zb3 {E:TE3} {ug:TG3} {u':TS3} {En:Ends3} (S:D->Mem->Prop) (h1:∀ K:K3,(∀ d M',S d M'->K d M')->E ρ M K) (h2:∀ d M',S d M'->ug d ρ M' (u' En)):uSeq (uAsg E ug) u' En ρ M:=h1 _ h2
def g_nx {i:Nat} {d:D} {K:Ev->Mem->Prop} (h:K (ρ.set i (some d)) M):uG i d ρ M K:=h
end L3
namespace L3
open PySem L2
def kD:Key->D
 | .inl i=>.int i
 | .inr s=>.str s
def Zg5 [DecidableEq κ] (kvs zs:List (κ×D)):List (κ×D):=zs.foldl (fun a z=>putD a z.1 z.2) kvs
section
theorem Zc0 :∀ {ws:List (Key×V)} {zs:List (Key×D)} {vs:List (Key×V)} {ds:List (Key×D)},RepK C I α ws zs->RepK C I α vs ds->RepK C I α (Wv vs ws) (Zg5 ds zs)
 | _,_,_,_,.nil,h=>h
 | _,_,vs,ds,.cons (k:=k) (v:=v) (d:=d) (vs:=ws) (ds:=zs) a b,h=>by
  show RepK C I α (Wv (putK vs k v) ws) (Zg5 (putD ds k d) zs);exact Zc0 b (h.put a)
theorem Zq0 {k:Key} (r:Rep C I α v (kD k)):v=kV k:=by
 cases k with
 | inl i=>cases r.inv; rfl
 | inr s=>cases r.inv; rfl
def Zqr {os:List (Option Int)} {K:K3} (R:Rel C Z I α H M) (nl:H l=none) (s:Same H H') (el:H' l=some (.lst (os.map oV))) (kk:Fin C Z I α K Q) (h:K (.cell M.length) (M++[.lst (os.map oD)])):Q (.ref l) H':=by
 obtain ⟨R2,p2,e2⟩:=(R.same s).cellAt (l:=l) (m:=.lst (os.map oD)) (R.sub.free nl) (R.out nl) ⟨_,el,Zfl os⟩;exact kk _ _ I _ H' _ (.refl _) p2 R2 (.cell e2) h
def osOf (R:List En):List (Option Int):=R.map fun e=>e.2
end
def R9 {u u':TS3} {En:Ends3} (S:Ev->Mem->Prop) (h1:∀ Kn:Ev->Mem->Prop,(∀ ρ' M',S ρ' M'->Kn ρ' M')->u { En with nx:=Kn } ρ M) (h2:∀ ρ' M',S ρ' M'->u' En ρ' M'):uSeq u u' En ρ M:=h1 _ h2
theorem Zgl {d:D} {xs:List D} (h:lsOf M d=some xs):lsOf (M++[m]) d=some xs:=by
 cases d with
 | lst ys=>exact h
 | cell k =>
  simp only [lsOf] at h ⊢
  by_cases hk:k<M.length
  ·rw [Jv hk]; exact h
  ·rw [List.getElem?_eq_none (Nat.le_of_not_lt hk)] at h;exact nomatch h
 | _=>exact nomatch h
theorem Zjp {ns:List τ} {m:Nat} (h:pl<=ns.length):cut ns (some (pl:Int)) (some ((pl:Int)+(m:Int)))=(ns.drop pl).take m:=by
 unfold cut;rw [<- G4,HT.sIx_nat,HT.sIx_nat,B7 h];refine List.take_eq_take_iff.mpr ?_;rw [Jj];lia
section
abbrev Live (S:List Pr) (ns:List Int):Prop:=∃ w∈S.map (fun q:Pr=>q.2),ns<+:w/\ns.length<w.length
end
theorem P3 {d:D} {xs:List D} (h:lsOf M d=some xs):tyOf M d=some .list/\Ys M d=some xs/\Tf M d=some xs:=by
 cases d with
 | lst ys=>cases h;exists rfl,rfl,rfl
 | cell k =>
  simp only [lsOf] at h;cases hm:M[k]? with
  | none=>rw [hm] at h; cases h
  | some m =>
   rw [hm] at h;cases m with
   | lst es=>cases h; exact ⟨by simp only [tyOf,hm],by simp only [Ys,hm],by simp only [Tf,Ys,hm]⟩
   | _=>cases h
 | _=>cases h
def Zhf {ns:List τ} (h:pl<=ns.length):cut ns (some (pl:Int)) none=ns.drop pl:=by
 unfold cut;rw [HT.sIx_nat,B7 h];show (ns.drop pl).take (ns.length-pl)=_;rw [Gw];rw [Jj];exact Jd _
theorem Qc {d:D} {xs:List D} {K:K3} (h:lsOf M d=some xs) (hk:K (.lst (cut xs lo hi)) M):sl3 d lo hi M K:=by
 cases d with
 | lst ys=>cases h;exists ·,hk
 | cell k=>exact ⟨_,(P3 h).2.1,hk⟩
 | _=>cases h
def Zgk {d:D} {xs:List D} (h:lsOf M d=some xs):lsOf M d≠none:=by rw [h]; exact fun z=>nomatch z
theorem Vy {d e:D} {xs ys:List D} {K:K3} (h1:lsOf M d=some xs) (h2:lsOf M e=some ys) (hl:xs.length+ys.length<=sizeLine) (hk:K (.lst (xs++ys)) M):add3 d e M K:=by
 cases d with
 | lst zs=>exact ⟨_,_,h1,h2,hl,hk⟩
 | cell k=>exact ⟨_,_,h1,h2,hl,hk⟩
 | _=>cases h1
theorem Znc {d:D} {xs:List D} {K:K3} (h:lsOf M d=some xs) (hk:K (.int xs.length) M):len3 [d] M K:=by
 cases d with
 | lst zs=>exact ⟨_,(P3 h).2.2,hk⟩
 | cell k=>exact ⟨_,(P3 h).2.2,hk⟩
 | _=>cases h
def Zcr {d:D} {xs:List D} {K:K3} (h:lsOf M d=some xs) (hk:K (.int xs.length) M):Zab uNil ρ (Zln len3 K) d M:=Znc h hk
def Q0 {m':MO} {r:Nat} (h:M[r]?=some m):(M++[m'])[r]?=some m:=by
 rw [Jv (Je.mp h).1];exact h
def add_int {i j:Int} {K:K3} (h:K (.int (i+j)) M):add3 (.int i) (.int j) M K:=h
end L3
namespace L2
open PySem
def Zby (C:Addr):Sp:=fun vs H Q _=>∃ (x:Addr) (S:List Pr),vs=[.ref x]/\Wl C H x S/\∀ l us,H l=none->Prs H us S->Q (.ref l) (upd H l (.lst us))
end L2
namespace L3
open PySem L2
section
inductive dCTable (ds:List D) (M:Mem) (K:K3):Prop
 | mk:∀ (S:List Pr),ds=[.code S]->K (.lst (S.map pD)) M->dCTable ds M K
def Zj0 {E:XK} (h:spOf C dCTable vs H Q E):Zby C.c vs H Q E:=by
 obtain ⟨Z,I,α,M,ds,K,R,r,⟨S,rfl,h⟩,kk⟩:=h;refine Reps.e1 r fun _ r1=>?_;obtain ⟨_,rfl,hc⟩:=r1.inv;exists _,S,rfl,hc.same R.sub,fun l us hl ps=>?_;obtain ⟨R2,s2,e2⟩:=R.new (o:=.lst us) hl;obtain ⟨I3,s3,R3,f⟩:=R2.full;exact kk _ _ I3 α _ M (s2.trans s3) (Jk _) R3 (.lst (s3 _ _ e2) (Zca (fun v a z=>Zs4 (fun b xs e=>f _ _ ((Zp hl) _ _ e) (R.tupOut e)) z) ps)) h
end
theorem Xg {ns:List τ} :cut ns none (some (pl:Int))=ns.take pl:=by
 unfold cut;rw [HT.sIx_nat];show (ns.drop 0).take (min pl ns.length-0)=_;rw [Nat.sub_zero,B0,List.take_eq_take_iff];lia
theorem Xv {ns:List τ} :cut ns (some (pl:Int)) none=ns.drop pl:=by
 by_cases h:pl<=ns.length
 ·exact Zhf h
 ·unfold cut;rw [HT.sIx_nat,Nat.min_eq_right (by lia),List.drop_length,List.drop_of_length_le (by lia),List.take_nil]
def encO:Enc (Option Int) where
 e:=oD
 py o:=match o with | some z=>.int z | none=>.none
 n:=0
 ok:=fun M o=>by cases o with | none=>exact .non | some z=>exact .int z
 shp:=fun o=>by
  cases o with
  | none=>exact ⟨by simp only [PyData.canLay0],by simp only [PyData.depth]; exact Jd _⟩
  | some z=>exact Zah z
 eq:=fun a b=>by cases a <;> cases b <;> simp [PyData.eqv,Bool.beq_eq_decide_eq]
 hn:=by decide
def Y5 {N:Mem} {r:Nat} (h:N[r]?=some m):r<N.length:=(Je.mp h).1
def T9 {N:Mem} {xs:List D} {t:Nat} (h:N[t]?=some (.lst xs)):lsOf N (.cell t)=some xs:=by simp only [lsOf,h]
end L3
namespace L2
open PySem
def Q5 (H:Hp) (r:Addr) (ns:List Int):Prop:=H r=some (.lst (ns.map V.int))\/H r=some (.tup (ns.map V.int))
def Q5.same {r:Addr} (h:Q5 H r ns) (s:Same H H'):Q5 H' r ns:=h.imp (s _ _) (s _ _)
def Zlp {r:Addr} (er:Q5 H r ns) (k:∀ (t:Addr) (H2:Hp),Same H H2->H2 t=some (.tup (cutV (ns.map V.int) lo hi))->Q (.ref t) H2) :
  L3.rSlU K (.ref r) lo hi H (fun v H1=>Zfo K [v] H1 Q):=by
 rcases er with er | er
 ·refine .inl ⟨r,_,rfl,SqL.of er,fun p hp=>⟨p,_,rfl,.inl ⟨SqL.of Zg,fun l hl=>?_⟩⟩⟩;exact k l _ ((Zp hp).trans (Zp hl)) Zg
 ·refine .inr (.inl ⟨r,_,rfl,SqT.of er,fun e=>⟨r,_,rfl,.inr ⟨SqT.of er,k r H (.refl _) (by rw [e]; exact er)⟩⟩,fun p hp=>⟨p,_,rfl,.inr ⟨SqT.of Zg,k p _ (Zp hp) Zg⟩⟩⟩)
def Zna {r:Addr} (er:Q5 H r ns):LenV K (.ref r) H (ns.map V.int).length:=by
 rcases er with er | er
 ·exact .inl ⟨_,SqL.of er,rfl⟩
 ·exact .inr ⟨_,SqT.of er,rfl⟩
def Tw (C:Addr):Sp:=fun vs H Q _=>∃ (x r:Addr) (S:List Pr) (ns:List Int) (pl:Nat),vs=[.ref x,.ref r,.int pl]/\Wl C H x S/\Fits S/\Q5 H r ns/\pl<=ns.length /\
 (∀ p∈S,p.2<+:ns.drop pl->∀ (t:Addr) (H':Hp),Same H H'->H' t=some (.tup (p.2.map V.int))->Q (.ref t) H')/\((∀ p∈S,¬ p.2<+:ns.drop pl)->∀ H',Same H H'->Q .non H')
def Zbv (C:Addr):Sp:=fun vs H Q _=>∃ (x r:Addr) (S:List Pr) (ns:List Int),vs=[.ref x,.ref r]/\Wl C H x S/\Fits S/\Q5 H r ns/\ns.length<=1000 /\
 ∀ (l:Addr) (ts:List V) (R:List En) (H':Hp),H l=none->Same H H'->H' l=some (.lst ts)->Ents H' ts R->Told S ns R->Q (.ref l) H'
end L2
namespace L3
open PySem L2
section
def rowD (M:Mem):D->Option (List D)
 | .tup xs=>some xs
 | d=>lsOf M d
theorem Zkj {d:D} (R:Rel C Z I α H M) (r:Rep C I α v d) (h:rowD M d=some (ns.map .int)):∃ a,v=.ref a/\Q5 H a ns:=by
 cases d with
 | tup xs =>
  cases h;cases r with
  | @tup a vs _ ea ra =>
   rw [Reps.of_ints ns ra] at ea;exists a,rfl,.inr (R.sub _ _ ea)
 | lst xs =>
  obtain ⟨a,rfl,e⟩:=Zkz R r h;exists a,rfl,.inl e
 | cell k =>
  obtain ⟨a,rfl,e⟩:=Zkz R r h;exists a,rfl,.inl e
 | _=>cases h
end
end L3
namespace L2
open PySem
def Zbz:Sp:=fun vs H Q _=>∃ (p a:Addr) (m:Int),vs=[.ref p,.int m]/\HandAt H p a/\2<=m/\m<=8 /\
 ∀ (l:Addr) (bs:List Int) (H':Hp),H l=none->l≠p->H' l=some (.lst (bs.map V.int))->bs.Nodup->2<=bs.length->(bs.length:Int)<=m->(∀ b∈bs,0<=b/\b<256)->HandAt H' p a->Grow p H H'->Q (.ref l) H'
theorem Pj {b s:Int} (hs:1<=s) (hs2:s<=60) {n:Nat} (hn:n<=8):((List.range n).map fun k:Nat=>(b+s*(k:Int)) % 256).Nodup:=by
 refine Gm.mpr ?_;rw [Be];intro i j hi hj hij;rw [List.getElem_range,List.getElem_range];rw [Bw] at hi hj;intro e;obtain ⟨d,rfl⟩:∃ d:Nat,j=i+d:=⟨j-i,by lia⟩;have e2:s*((i+d:Nat):Int)=s*(i:Int)+s*(d:Int):=by rw [G4,Int.mul_add]
 rw [e2] at e;generalize s*(i:Int)=t at e;have hd:d=1\/d=2\/d=3\/d=4\/d=5\/d=6\/d=7:=by lia
 rcases hd with rfl | rfl | rfl | rfl | rfl | rfl | rfl <;> lia
end L2
namespace L3
open PySem L2
section
inductive dBytes8 (ds:List D) (M:Mem) (K:K3):Prop
 | mk:∀ k m,ds=[.cell k,.int m]->(M[k]?=some .hand/\(2<=m/\m<=8)/\∀ bs:List Int,bs.Nodup->2<=bs.length->(bs.length:Int)<=m->(∀ b∈bs,0<=b/\b<256)->K (.lst (bs.map .int)) M)->dBytes8 ds M K
def Zj1 {E:XK} (h:spOf C dBytes8 vs H Q E):Zbz vs H Q E:=by
 obtain ⟨Z,I,α,M,ds,K,R,r,⟨k,m,rfl,hm,⟨m0,m1⟩,h⟩,kk⟩:=h;refine Reps.e2 r fun _ _ r1 r2=>?_;cases r2.inv;obtain ⟨p,rfl,ha⟩:=r1.inv;obtain ⟨c,cs,hh,ic,hc⟩:=R.hand ha hm;exists p,c,m,rfl,hh,m0,m1,fun l bs H' nl _ el nd b2 bm bb hh' g=>Ng R ha hm hh' ic hc g nl el kk (h bs nd b2 bm bb)
end
section
def Zqf (K:W.Frag):R2:=fun x y H Q=>Zqe K x y H Q\/Zmh K x y H Q
def Zed (h:X.K=K'):OpR X (binaryOp .Add) (Zqf K'):=by
 subst h;exact OpR.or Zm2 Zf5
end
theorem Zqt (z:Int) {n:Nat} (h:0<n):∃ j:Nat,z % (n:Int)=(j:Int)/\j<n:=by
 obtain ⟨j,ej⟩:=Gz (G3 z (by lia:(n:Int)≠0));have:=G1 z (by lia:(0:Int)<(n:Int));exact ⟨j,ej,by lia⟩
section
def Zei:List (TE3×TE3)->Ev->Mem->(List (D×D)->Mem->Prop)->Prop
 | [],_,M,K=>K [] M
 | (uk,uv)::r,ρ,M,K=>uk ρ M fun x M1=>uv ρ M1 fun y M2=>Zei r ρ M2 fun ps M3=>K ((x,y)::ps) M3
def Zj2 (C:Cf) (Z:Anc) (ts:List (TE×TE)) (us:List (TE3×TE3)):Prop:=∀ I α σ H ρ M (K:List (D×D)->Mem->Prop) (Q:List (V×V)->Hp->Prop),Rel C Z I α H M->RepE C I α σ ρ->Zei us ρ M K ->
 (∀ ps ds I' α' H' M',Same I I'->α<+:α'->Rel C Z I' α' H' M'->Paired (fun (p:V×V) (q:D×D)=>Rep C I' α' p.1 q.1/\Rep C I' α' p.2 q.2) ps ds->K ds M'->Q ps H')->Zbu ts σ H Q
def Zpo:Zj2 C Z [] []:=fun I α σ H ρ M K Q R E h k=>k [] [] I α H M (.refl _) (Jk _) R .nil h
def Zl3 {tk:TE} {uk uv:TE3} {ts:List (TE×TE)} {us:List (TE3×TE3)} (hk:SimE C Z tk uk) (hv:SimE C Z tv uv) (hr:Zj2 C Z ts us):Zj2 C Z ((tk,tv)::ts) ((uk,uv)::us):=fun I α σ H ρ M K Q R E h k =>
 hk I α σ H ρ M _ _ R E h fun x dx I1 α1 H1 M1 s1 p1 R1 r1 h1 =>
  hv I1 α1 σ H1 ρ M1 _ _ R1 (E.mono s1 p1) h1 fun y dy I2 α2 H2 M2 s2 p2 R2 r2 h2 =>
   hr I2 α2 σ H2 ρ M2 _ _ R2 (E.mono (s1.trans s2) (p1.trans p2)) h2 fun ps ds I3 α3 H3 M3 s3 p3 R3 r3 h3 =>
    k ((x,y)::ps) ((dx,dy)::ds) I3 α3 H3 M3 (s1.trans (s2.trans s3)) (p1.trans (p2.trans p3)) R3 (.cons ⟨r1.mono (s2.trans s3) (p2.trans p3),r2.mono s3 p3⟩ r3) h3
theorem Zc6 :∀ {ps:List (V×V)} (kvs:List (Key×D)),Paired (fun (p:V×V) (q:D×D)=>Rep C I α p.1 q.1/\Rep C I α p.2 q.2) ps (kvs.map fun kv=>(kD kv.1,kv.2))->∃ ws:List (Key×V),ps=ws.map (fun kv=>(kV kv.1,kv.2))/\RepK C I α ws kvs/\ws.length=kvs.length
 | _,[],h=>by cases h;exists [],rfl,.nil,rfl
 | _,(k,d)::r,h=>by
  cases h with
  | @cons p q ps qs h t =>
   obtain ⟨ws,e1,e2,e3⟩:=Zc6 r t;obtain ⟨p1,p2⟩:=p;obtain rfl:p1=kV k:=Zq0 h.1;exact ⟨(k,p2)::ws,by rw [e1]; rfl,.cons h.2 e2,by rw [Jq,Jq,e3]⟩
def Zsh (us:List (TE3×TE3)):TE3:=fun ρ M K=>Zei us ρ (M++[.dct []]) fun ps M2=>M2[M.length]?=some (.dct [])/\∃ kvs:List (Key×D),ps=kvs.map (fun kv=>(kD kv.1,kv.2))/\kvs.length<=15/\K (.cell M.length) (M2.set M.length (.dct (Zg5 [] kvs)))
theorem Zp3 {ts:List (TE×TE)} {us:List (TE3×TE3)} (h:Zj2 C Z ts us):SimE C Z (Zpb ts) (Zsh us):=fun I α σ H ρ M K Q R E q k p hp=>by
 obtain ⟨R2,p2,e2⟩:=R.cell (o:=.dK []) (m:=.dct []) hp fun H' e=>⟨[],e,.nil⟩;refine h I (α++[p]) σ _ ρ _ _ _ R2 (E.mono (.refl _) p2) q fun ps ds I3 α3 H3 M3 s3 p3 R3 r3 h3=>?_;obtain ⟨em,kvs,rfl,l15,h3⟩:=h3;have e3:=Zfw p3 e2;obtain ⟨vs,ev,rv⟩:=(R3.cel _ _ _ e3 em).1;cases rv;obtain ⟨ws,rfl,rw',lw⟩:=Zc6 kvs r3;exists ev,ws,rfl,by lia,k _ _ I3 α3 _ _ s3 (p2.trans p3) (R3.put (m:=.dct (Zg5 [] kvs)) e3 fun H' e'=>⟨_,e',Zc0 rw' .nil⟩) (.cell e3) h3
end
end L3
namespace L2
open PySem PySem.W PyProof.Rows HT PySem.Calls
section
theorem Zjl [DecidableEq τ] (N:L3.Enc τ) {x:V} {u v:Value} {a b:τ} (I:Inv X pq σ H s) (hu:A.units+100<cLine) (h1:DV X.K H x (N.py a)) (h2:DV X.K H y (N.py b)) (r1:RelV x u) (r2:RelV y v):SeqAt.EqAt A s u v (decide (a=b)):=by
 obtain ⟨as,ra⟩:=Ww I h1 r1;obtain ⟨bs,rb⟩:=Ww I h2 r2;have:=SeqAt.eqAt_reads _ _ A s _ _ as bs ra rb (N.shp a).1 (N.shp b).1 (by have:=N.hn; have:=(N.shp a).2; have:=Nat.min_le_left (N.py a).depth (N.py b).depth; lia);rwa [N.eq] at this
theorem Qj {a b:Addr} (I:Inv X pq σ H s) (hu:A.units+100<cLine) (h1:SqL X.K H a (ns.map V.int)) (h2:SqL X.K H b (ms.map V.int)):SeqAt.EqAt A s (.ref a) (.ref b) (decide (ns=ms))/\LtAt A s (.ref a) (.ref b) (HT.lexLt ns ms):=by
 refine ⟨Zjl (L3.Rw L3.W5) I hu (.lst h1 (Uq ns)) (.lst h2 (Uq ms)) rfl rfl,?_⟩;obtain ⟨its,rv,pl,_⟩:=I.list h1;obtain ⟨its2,rv2,pl2,_⟩:=I.list h2;have i1:=Ws rv;have i2:=Ws rv2;have:=LtAt.lst (A:=A) (z:=fun j=>(ns[j]? == ms[j]?,decide ((ns[j]?).getD 0<(ms[j]?).getD 0))) pl.isList pl2.isList (by lia) fun j g1 g2=>by
  simp only [List.getElem_toArray];exact Zgu i1 i2 j (by simpa using g1) (by simpa using g2)
 rwa [Jn,Jn,(Vc i1).1,(Vc i2).1,P4] at this
end
end L2
namespace L3
open PySem L2
theorem Zqu {d:D} {xs:List D} {X:Mem} (h:Ys M d=some xs):Ys (M++X) d=some xs:=by
 cases d with
 | lst ys=>exact h
 | frz ys=>exact h
 | cell k =>
  simp only [Ys] at h ⊢
  by_cases hk:k<M.length
  ·rw [Jv hk]; exact h
  ·rw [List.getElem?_eq_none (Nat.le_of_not_lt hk)] at h;exact nomatch h
 | _=>exact nomatch h
theorem Zcm [BEq τ] [LawfulBEq τ]:∀ {zs us:List τ},zs.Nodup->(∀ z∈zs,z∈us)->zs.length<=us.length
 | [],_,_,_=>Jz _
 | z::zs,us,nd,h=>by
  obtain ⟨h1,h2⟩:=Bs.mp nd;have hz:=h z Jm;have:=Zcm (us:=us.erase z) h2 fun y hy=>(List.mem_erase_of_ne (fun (e:y=z)=>h1 (by rw [<- e]; exact hy))).mpr (h y (Jg _ hy));rw [List.length_erase_of_mem hz] at this;have:=List.length_pos_of_mem hz;rw [Jq];lia
end L3
namespace L2
open PySem PySem.W PyProof.Rows HT PySem.Calls
section
theorem P5:∀ (ns ms:List Int),lexG (fun j=>(ns[j]? == ms[j]?,decide ((ns[j]?).getD 0 > (ms[j]?).getD 0))) ns.length ms.length=HT.lexLt ms ns
 | [],[]=>rfl
 | [],_::_=>rfl
 | _::_,[]=>rfl
 | n::ns,m::ms=>by
  have ih:=P5 ns ms;rw [Jq,Jq,lexG,HT.lexLt_cons];simp only [List.getElem?_cons_zero,List.getElem?_cons_succ,Option.getD_some];rw [ih]
  by_cases e:n=m
  ·rw [F1 e.symm,F1 (by rw [e]; exact beq_self_eq_true _)]
  ·rw [F0 (Ne.symm e),F0 (by simp [e])]
theorem Qk {a b:Addr} (I:Inv X pq σ H s) (hu:A.units+100<cLine) (h1:SqL X.K H a (ns.map V.int)) (h2:SqL X.K H b (ms.map V.int)):GtAt A s (.ref a) (.ref b) (HT.lexLt ms ns):=by
 obtain ⟨its,rv,pl,_⟩:=I.list h1;obtain ⟨its2,rv2,pl2,_⟩:=I.list h2;have i1:=Ws rv;have i2:=Ws rv2;have:=GtAt.lst (A:=A) (z:=fun j=>(ns[j]? == ms[j]?,decide ((ns[j]?).getD 0 > (ms[j]?).getD 0))) pl.isList pl2.isList (by lia) fun j g1 g2=>by
  simp only [List.getElem_toArray];have g1':j<its.length:=by simpa using g1
  have g2':j<its2.length:=by simpa using g2
  exists (Zgu (A:=A.in1) (s:=s) i1 i2 j g1' g2').1,?_;obtain ⟨t,e1⟩:=(Vc i1).2 j g1';obtain ⟨u,e2⟩:=(Vc i2).2 j g2';rw [e1,e2];exact .int _ _ _ _
 rwa [Jn,Jn,(Vc i1).1,(Vc i2).1,P5] at this
def nth2 (ns ms:List Int):Nat->List Int | 0=>ns | _=>ms
end
end L2
namespace L3
open PySem L2
def Zkd (K:W.Frag) (P1:Addr) (pos1:Pos) (q1:Str) (P2:Addr) (pos2:Pos) (q2:Str):Sp:=fun vs H Q _=>∃ (a:Addr) (ns:List Int),vs=[.ref a]/\SqL K H a (ns.map V.int)/\ns.length<=63/\Wb P1 pos1 q1 H/\Wb P2 pos2 q2 H/\P1≠P2/\∀ H',Q (.bl true) H'
inductive dLaw2 (P1:Addr) (pos1:Pos) (q1:Str) (P2:Addr) (pos2:Pos) (q2:Str) (ds:List D) (M:Mem) (K:K3):Prop
 | mk:∀ ns:List Int,ds=[.frz (ns.map .int)]->(M=[.tab P1 pos1 q1,.tab P2 pos2 q2]/\ns.length<=63/\∀ M',K (.bl true) M')->dLaw2 P1 pos1 q1 P2 pos2 q2 ds M K
def Znd {P1 P2:Addr} {pos1 pos2:Pos} {q1 q2:Str} {E:XK} (h:Zkd C.k P1 pos1 q1 P2 pos2 q2 vs H Q E):spOf C (dLaw2 P1 pos1 q1 P2 pos2 q2) vs H Q E:=by
 obtain ⟨a,ns,rfl,hS,hl,⟨ps,eP,tp,cp⟩,⟨ps2,eP2,tp2,cp2⟩,ne,k⟩:=h;have sI:Same (fun b=>if b=P1\/b=P2 then none else H b) H:=fun b o e=>by
  have e':(if b=P1\/b=P2 then none else H b)=some o:=e
  split at e'
  ·cases e'
  ·exact e'
 have out:∀ (b:Addr) (o),H b=some o->(∀ z,o≠.tbl z)->(if b=P1\/b=P2 then none else H b)=some o:=fun b o e n=>by
  rw [F0]
  ·exact e
  ·rintro (z | z)
   ·subst z; rw [eP] at e; cases e; exact n _ rfl
   ·subst z; rw [eP2] at e; cases e; exact n _ rfl
 exists ⟨fun _=>none,[],fun _ _ _=>False,fun _ _ _=>False⟩,fun b=>if b=P1\/b=P2 then none else H b,[P1,P2],[.tab P1 pos1 q1,.tab P2 pos2 q2],[.frz (ns.map .int)],fun d _=>d=.bl true,⟨(fun _ _ h=>nomatch h),List.nil_prefix,sI,rfl,by simp [ne],fun k' a' m h1 h2=>?_⟩,?_,⟨ns,rfl,rfl,hl,fun _=>rfl⟩,fun v d I' α' H' M' s p R r h=>?_
 ·match k',h1,h2 with
  | 0,h1,h2 =>
   simp at h1 h2;subst h1;subst h2;exists ⟨rfl,ps,eP,tp,?_⟩,F1 (.inl rfl);rcases cp with z | ⟨c,z1,z2⟩
   ·exact .inl z
   ·exact .inr ⟨c,z1,out c _ z2 fun _ z=>by cases z⟩
  | 1,h1,h2 =>
   simp at h1 h2;subst h1;subst h2;exists ⟨rfl,ps2,eP2,tp2,?_⟩,F1 (.inr rfl);rcases cp2 with z | ⟨c,z1,z2⟩
   ·exact .inl z
   ·exact .inr ⟨c,z1,out c _ z2 fun _ z=>by cases z⟩
  | n+2,h1,h2=>simp at h1
 ·refine .one (.frz ?_ (.ints ns));rcases hS with (hS | ⟨o,hS⟩) | hS
  ·exact .inl (.inl (out a _ hS fun _ z=>by cases z))
  ·exact .inl (.inr ⟨o,out a _ hS fun _ z=>by cases z⟩)
  ·exact .inr hS
 ·subst h;cases r.inv;exact k H'
section
def Fun.okC3 {x:Str} {f:Addr} {osl:Array (Option Value)} {kV:Value} {k:Nat} {sp:Sp3}
  (lk:K.lookup f=some ⟨oc,od,.func (W.fnOf x qual (Yv st) (Yn st) (Zf st) .none kV doc pm an cdv ct),osl⟩) (hcd:W.codeIn K cdv qual=true) (S:FnScope N ps (Zf st)) (len:∀ ds M K,sp ds M K->ds.length=ps.length)
  (hbody:∀ (A:Around) (outer:List Env) (s:Shared) (H:Hp) (E:XK),Room k (A.deeper (PyProof.Rows.envOfC qual (Zf st) s.heap.objs.size f cdv)) ->
   ∃ t u,PSs (cxOf CX0 P w K mg base N qual (Zf st) f cdv A outer s H E).nox (Yn st) t/\(∀ Z,SimS C Z t u)/\∀ ds M K,WfM M->(∀ d∈ds,Yi M.length d)->sp ds M K->u { nx:=fun _ M'=>Dk M.length K .non M',rt:=Dk M.length K } (Pk N ds) M) :
  FnOk P w K mg base CX0 (k+1) f (W.fnOf x qual (Yv st) (Yn st) (Zf st) .none kV doc pm an cdv ct) ps (spOf C sp):=by
 refine L2.Fun.okC lk hcd S (fun vs H Q E h=>?_) (fun A outer s H vs Q E hr h=>?_)
 ·obtain ⟨Z,I,α,M,ds,K,R,r,h,_⟩:=h;rw [r.length];exact len ds M K h
 ·obtain ⟨t,u,h1,h2,h3⟩:=hbody A outer s H E hr;obtain ⟨Z,I,α,M,ds,K,R,r,h,k⟩:=h;have kd:=k.dk R.len R.aa;exists t,h1,h2 Z I α _ H _ M _ _ R (Pu r N) (h3 ds M K R.wf (by rw [<- R.len]; exact r.bel) h) ⟨fun I1 α1 σ1 H1 ρ1 M1 s1 p1 R1 _ h1=>kd _ _ I1 α1 H1 M1 s1 p1 R1 .non h1,kd,fun _ _ _ _ _ _ _ _ _ _ h=>h.elim,fun _ _ _ _ _ _ _ _ _ _ h=>h.elim⟩
end
end L3
namespace L2
open PySem PySem.W
def AllL :Nat->(List τ->Prop)->Prop
 | 0,Q=>Q []
 | n+1,Q=>∀ a,AllL n fun l=>Q (a::l)
theorem allL :∀ {n:Nat} {Q:List τ->Prop},AllL n Q->∀ {us:List τ},us.length=n->Q us
 | 0,_,h,[],_=>h
 | n+1,_,h,a::l,e=>allL (h a) (Nat.succ.inj e)
def us2 {Q:List τ->Prop} (h:∀ a b,Q [a,b]) (us:List τ) (hl:us.length=2):Q us:=match us,hl with | [a,b],_=>h a b
def us4 {Q:List τ->Prop} (h:∀ a b c d,Q [a,b,c,d]) (us:List τ) (hl:us.length=4):Q us:=match us,hl with | [a,b,c,d],_=>h a b c d
structure FnG (K:Frag) (x:Str) (st:Stmt) (f:Addr) (fd:FuncData):Prop where
 g:nsIn K mainGlobals x=some (some (.ref f))
 F:Fun K x x st f fd
structure MtG (K:Frag) (C:Addr) (m q:Str) (st:Stmt) (f:Addr) (fd:FuncData):Prop where
 a:findIn K (.ref C) m=some (some (.ref f))
 n:isFn K (.ref f)=true
 F:Fun K m q st f fd
def Zkx (K:Frag) (xs:List Str):Bool:=xs.all fun x=>match nsIn K mainGlobals x with | some none=>true | _=>false
theorem Xo {K:Frag} {xs:List Str} (X:K.In h) (G:h.Ns mainGlobals mg) (z:Zkx K xs=true) (i:Nat) {x:Str} (e:xs[i]?=some x):mg x=none:=by
 have:=Ff.mp z x (Gv e);cases q:nsIn K mainGlobals x with
 | none=>rw [q] at this; cases this
 | some o =>
  cases o with
  | none=>exact mg_none_of X G q
  | some v=>rw [q] at this; cases this
structure MkG (K:Frag) (C:Addr):Prop where
 m:makesIn K C=true
 k:keepIn K (.ref C)=true
structure Tk (P:Program) (w:World) (K:Frag) (mg:Str->Option Value) (base:Heap):Prop where
 m:∀ {x:Str} {v:Value},nsIn K mainGlobals x=some (some v)->mg x=some v
section
variable {K:Frag} {x m q:Str} {f C:Addr} {k:Nat} 
abbrev Bnd (x q:Str) (st:Stmt) (ps:List Str):Prop:=∀ (kV doc pm:Value) (an:Option Addr) (cdv ct:Value) (us:List Value),us.length=ps.length->bindArgs (fnOf x q (Yv st) (Yn st) (Zf st) .none kV doc pm an cdv ct) ⟨us,[]⟩=pure (ps.zip us)
def bn (h:∀ (kV doc pm:Value) (an:Option Addr) (cdv ct:Value),AllL ps.length fun us=>bindArgs (fnOf x q (Yv st) (Yn st) (Zf st) .none kV doc pm an cdv ct) ⟨us,[]⟩=pure (ps.zip us)):Bnd x q st ps:=fun kV doc pm an cdv ct _ e=>allL (h kV doc pm an cdv ct) e
def Y3 (Y:Tk P w K mg base) (g:FnG K x st f fd) (ok:FnOk P w K mg base CX0 k f fd ps sp)
  (b:Bnd x x st ps:=by apply bn; (repeat intro _); exact rfl) :
  Cal P w K mg base x k ps sp:=Zk8 g.F ok (Y.m g.g) (g.F.binds b)
def Zm9 (Y:Tk P w K mg base) (cl:Cls K C) (g:MtG K C m q st f fd) (ok:FnOk P w K mg base CX0 k f fd ps sp)
  (b:Bnd m q st ps:=by apply bn; (repeat intro _); exact rfl) :
  Met P w K mg base C m k ps sp:=⟨f,fd,cl,⟨g.a,g.n,g.F.kp⟩,ok,g.F.binds b⟩
end
end L2
namespace L3
open PySem L2
section
def itOf:D->Option (List Int)
 | .itp x=>some x
 | .tup ds=>intsOf ds
 | _=>none
 where intsOf:List D->Option (List Int)
 | []=>some []
 | .int i::r=>(intsOf r).map (i::·)
 | _=>none
theorem Nc:∀ {ds:List D} {x:List Int},itOf.intsOf ds=some x->ds=x.map D.int
 | [],x,h=>by cases h; rfl
 | .int i::r,x,h=>by
  unfold itOf.intsOf at h;obtain ⟨y,hy,rfl⟩:=Option.map_eq_some_iff.mp h;rw [Nc hy];rfl
 | .non::_,_,h | .bl _::_,_,h | .str _::_,_,h | .ty _::_,_,h | .at _::_,_,h | .tup _::_,_,h | .lst _::_,_,h | .frz _::_,_,h | .dct _::_,_,h | .dcT _::_,_,h | .code _::_,_,h | .cell _::_,_,h | .exc _ _::_,_,h | .nst _::_,_,h | .itp _::_,_,h=>nomatch h
theorem Ru:∀ x:List Int,itOf.intsOf (x.map D.int)=some x
 | []=>rfl
 | i::r=>by show (itOf.intsOf (r.map D.int)).map (i::·)=_; rw [Ru r]; rfl
def Qr (x:List Int):itOf (.tup (x.map D.int))=some x:=Ru x
theorem Zje {d:D} {x:List Int} (r:Rep C I α v d) (h:itOf d=some x):∃ a,v=.ref a/\SqT C.k I a (x.map V.int):=by
 cases r with
 | itp e=>cases h;exists ·,e
 | tup e r=>obtain rfl:=Nc h; rw [Reps.of_ints x r] at e;exists ·,SqT.of e
 | _=>cases h
def niOf:D->Option NI
 | .int z=>some (.k z)
 | .bl t=>some (.b t)
 | .non=>some .n
 | d=>(itOf d).map .t
def Rh:List D->Option (List NI)
 | []=>some []
 | d::r=>match niOf d,Rh r with | some k,some ks=>some (k::ks) | _,_=>none
theorem Zqq {d:D} {k:NI} (r:Rep C I α v d) (h:niOf d=some k):NkV C.k I k v:=by
 have go:∀ {x:List Int},itOf d=some x->NkV C.k I (.t x) v:=fun hx=>by
  obtain ⟨a,rfl,e⟩:=Zje r hx;exists a,rfl,e
 cases r with
 | int i=>cases h; exact rfl
 | bl b=>cases h; exact rfl
 | non=>cases h; exact rfl
 | itp e=>cases h; exact go rfl
 | @tup a vs ds e r =>
  have h:(itOf (.tup ds)).map NI.t=some k:=h;obtain ⟨x,hx,rfl⟩:=Option.map_eq_some_iff.mp h;exact go hx
 | _=>cases h
theorem Zgc:∀ {vs:List V} {ds:List D} {ks:List NI},Reps C I α vs ds->Rh ds=some ks->Paired (NkV C.k I) ks vs
 | _,_,_,.nil,h=>by cases h; exact .nil
 | _,_,_,.cons (d:=d) (ds:=ds) r t,h=>by
  unfold Rh at h;cases h1:niOf d with
  | none=>rw [h1] at h; cases h
  | some k =>
   cases h2:Rh ds with
   | none=>rw [h1,h2] at h; cases h
   | some ks=>rw [h1,h2] at h; cases h; exact .cons (Zqq r h1) (Zgc t h2)
inductive addI3 (d:D) (e:D) (M:Mem) (K:K3):Prop
 | mk:∀ x y,itOf d=some x->e=.tup (y.map D.int)->x.length+y.length<=sizeLine->y≠[]->K (.tup ((x++y).map D.int)) M->addI3 d e M K
def Zkg:SimR C Z (Zqf C.k) addI3:=fun I α H M x y d e K Q R r1 r2 h k=>by
 obtain ⟨xs,ys,hx,rfl,hl,hy,h⟩:=h;obtain ⟨a,rfl,ia⟩:=Zje r1 hx;obtain ⟨b,ws,rfl,eb,ib,rb⟩:=W7 R r2 rfl
 by_cases hx:xs=[]
 ·subst hx;exact .inl ⟨a,b,ws,rfl,rfl,Ud R.sub ia,SqT.of eb,k.now R r2 h⟩
 ·have ew:=Reps.of_ints ys rb;refine .inr ⟨a,b,_,ws,rfl,rfl,Ud R.sub ia,SqT.of eb,fun z=>hx (by simpa using z),by rw [rb.length,Ja,Ja]; exact hl,fun z=>?_,fun _ p hp=>?_⟩
  ·rw [z] at ew;exact Fs (List.map_eq_nil_iff.mp ew.symm) hy
  ·obtain ⟨R2,s2,e2⟩:=R.new (o:=.tup (xs.map V.int++ws)) hp;refine k.on s2 R2 (.tup e2 ?_) h;rw [Jf,ew];exact (Reps.ints xs).app (Reps.ints ys)
def Tt (kvs:List (List NI×D)) (k:List NI):Option D:=(kvs.find? fun x=>decide (x.1=k)).map (·.2)
def Rf (kvs:List (List NI×D)) (k:List NI) (v:D):List (List NI×D):=if (kvs.any fun x=>decide (x.1=k)) then kvs.map (fun x=>if x.1=k then (x.1,v) else x) else kvs++[(k,v)]
def Nn (M:Mem):D->Option (List Nat×List (List NI×D))
 | .cell k=>match M[k]? with | some (.dcN sh _ kvs)=>some (sh,kvs) | _=>none
 | _=>none
theorem Zk4 {d:D} {sh:List Nat} {kvs:List (List NI×D)} (R:Rel C Z I α H M) (r:Rep C I α v d) (h:Nn M d=some (sh,kvs)):∃ a vs,v=.ref a/\Rd H a (.ext (dnP a vs))/\S0 C I sh vs/\RepN C I α vs kvs:=by
 cases r with
 | @cell a k e =>
  unfold Nn at h;cases hm:M[k]? with
  | none=>simp only [hm] at h; cases h
  | some m =>
   cases m with
   | dcN s z es =>
    simp only [hm] at h;cases h;have q:=(R.cel k a _ e hm).1;cases z with
    | none=>obtain ⟨vs,e1,n,r⟩:=q;exists _,·,.inl e1,n,r
    | some z=>exact ⟨_,z.2,rfl,.inr ⟨_,q.1⟩,q.2.1,q.2.2⟩
   | _=>simp only [hm] at h; cases h
 | _=>cases h
def S0.dn {sh:List Nat} {vs:List Nkv} {a:Addr} (h:S0 C I sh vs) (s:Same I H) (e:Rd H a (.ext (dnP a vs))):DnAt C.k H a sh vs:=⟨e,fun x hx=>⟨(h x hx).1.same s,(h x hx).2⟩⟩
theorem RepN.val {vs:List Nkv} {kvs:List (List NI×D)} (r:RepN C I α vs kvs) (k:List NI):(Tt kvs k=none/\valN vs k=none)\/∃ x y,Tt kvs k=some x/\valN vs k=some y/\Rep C I α y x:=by
 unfold Tt valN
 induction r with
 | nil=>exact .inl ⟨rfl,rfl⟩
 | @cons p q ps qs h t ih =>
  rw [Gq,Gq,h.1]
  by_cases e:q.1=k
  ·rw [F2 e];exact .inr ⟨_,_,rfl,rfl,h.2⟩
  ·rw [F3 e];exact ih
def RepN.put {vs:List Nkv} {kvs:List (List NI×D)} {d:D} (r:RepN C I α vs kvs) (k:List NI) (b:Addr) (rv:Rep C I α v d):RepN C I α (putN vs k b v) (Rf kvs k d):=by
 have ea:(vs.any fun x=>decide (x.1=k))=kvs.any fun x=>decide (x.1=k):=by
  induction r with
  | nil=>rfl
  | cons h t ih=>rw [Bx,Bx,h.1,ih]
 unfold putN Rf;rw [ea]
 split
 ·rename_i hh
  clear ea hh
  induction r with
  | nil=>exact .nil
  | @cons p q ps qs h t ih =>
   refine .cons ?_ ih;dsimp only;rw [h.1]
   by_cases e:q.1=k
   ·rw [F1 e,F1 e];exists rfl,rv
   ·rw [F0 e,F0 e];exact h
 ·exact Paired.snoc ⟨rfl,rv⟩ r
def S0.put {sh:List Nat} {vs:List Nkv} {k:List NI} {b:Addr} (h:S0 C I sh vs) (hk:NkAt C.k I k b) (hs:NI.shp k=sh):S0 C I sh (putN vs k b v):=fun x hx=>by
 unfold putN at hx
 split at hx
 ·obtain ⟨y,hy,rfl⟩:=Jo.mp hx
  split
  ·exact h y hy
  ·exact h y hy
 ·rcases J9.mp hx with z | z
  ·exact h x z
  ·rw [Jh.mp z];exists hk,hs
def RepN.len {vs:List Nkv} {kvs:List (List NI×D)} (r:RepN C I α vs kvs):vs.length=kvs.length:=Paired.length r
def nGet (M:Mem) (d e:D) (o:Option D):Prop:=∃ sh kvs ks,Nn M d=some (sh,kvs)/\e=.nst ks/\NI.shp ks=sh/\o=Tt kvs ks
def Zgg {w:V} {d e:D} {o:Option D} (R:Rel C Z I α H M) (r1:Rep C I α v d) (r2:Rep C I α w e) (h:nGet M d e o):∃ a o',v=.ref a/\NGet C.k H a w o'/\((o=none/\o'=none)\/∃ x y,o=some x/\o'=some y/\Rep C I α y x):=by
 obtain ⟨sh,kvs,ks,e1,rfl,es,rfl⟩:=h;obtain ⟨a,vs,rfl,ea,nk,ra⟩:=Zk4 R r1 e1;obtain ⟨_,rfl,n⟩:=r2.inv;exists a,valN vs ks,rfl,⟨_,sh,vs,ks,rfl,nk.dn R.sub ea,n.same R.sub,es,rfl⟩,?_;rcases ra.val ks with ⟨h1,h2⟩ | ⟨x,y,h1,h2,h3⟩
 ·exact .inl ⟨h1,h2⟩
 ·exact .inr ⟨x,y,h1,h2,h3⟩
end
section
variable {tc:TE} {uc:TE3}
def Zot (sh:List Nat):TE3:=fun _ M K=>K (.cell M.length) (M++[.dcN sh none []])
def Zfg {sh:List Nat}:SimE C Z Zkb (Zot sh):=fun I α σ H ρ M K Q R E h k p hp=>by
 obtain ⟨R2,p2,e2⟩:=R.cell (o:=.ext (dnP p [])) (m:=.dcN sh none []) hp fun H' e=>⟨[],e,(fun _ h=>nomatch h),Paired.nil⟩;exact k _ _ I _ _ _ (.refl _) p2 R2 (.cell e2) h
inductive uNGet_2 (K:K3) (d:D) (e:D) (M2:Mem):Prop
 | mk:∀ v,nGet M2 d e (some v)->K v M2->uNGet_2 K d e M2
abbrev Zlg (ub:TE3) (ρ:Ev) (K:K3):D->Mem->Prop:=fun d M1=>ub ρ M1 (uNGet_2 K d)
def Zsb (ua ub:TE3):TE3:=fun ρ M K=>ua ρ M (Zlg ub ρ K)
def Zpu (ha:SimE C Z ta ua) (hb:SimE C Z tb ub):SimE C Z (Zo8 C.k ta tb) (Zsb ua ub):=fun I α σ H ρ M K Q R E h k =>
 ha I α σ H ρ M _ _ R E h fun v d I1 α1 H1 M1 s1 p1 R1 r1 h1 =>
  hb I1 α1 σ H1 ρ M1 _ _ R1 (E.mono s1 p1) h1 fun w e I2 α2 H2 M2 s2 p2 R2 r2 h2=>by
   obtain ⟨x,g,h2⟩:=h2;obtain ⟨a,o',rfl,g2,z⟩:=Zgg R2 (r1.mono s2 p2) r2 g;rcases z with ⟨z,_⟩ | ⟨x',y,z1,z2,z3⟩
   ·cases z
   ·cases z1;subst z2;exists a,y,rfl,g2,k _ _ I2 α2 H2 M2 (s1.trans s2) (p1.trans p2) R2 z3 h2
inductive uNIn_2 (K:K3) (e:D) (d:D) (M2:Mem):Prop
 | mk:∀ o,nGet M2 d e o->K (.bl o.isSome) M2->uNIn_2 K e d M2
abbrev Zol (ua:TE3) (ρ:Ev) (K:K3):D->Mem->Prop:=fun e M1=>ua ρ M1 (uNIn_2 K e)
def uNIn (ub ua:TE3):TE3:=fun ρ M K=>ub ρ M (Zol ua ρ K)
def Zpt (hb:SimE C Z tb ub) (ha:SimE C Z ta ua):SimE C Z (tNIn C.k tb ta) (uNIn ub ua):=fun I α σ H ρ M K Q R E h k =>
 hb I α σ H ρ M _ _ R E h fun w e I1 α1 H1 M1 s1 p1 R1 r1 h1 =>
  ha I1 α1 σ H1 ρ M1 _ _ R1 (E.mono s1 p1) h1 fun v d I2 α2 H2 M2 s2 p2 R2 r2 h2=>by
   obtain ⟨o,g,h2⟩:=h2;obtain ⟨a,o',rfl,g2,z⟩:=Zgg R2 r2 (r1.mono s2 p2) g;have eo:o'.isSome=o.isSome:=by
    rcases z with ⟨rfl,rfl⟩ | ⟨x',y,rfl,rfl,_⟩ <;> rfl
   exact ⟨a,o',rfl,g2,by rw [eo]; exact k _ _ I2 α2 H2 M2 (s1.trans s2) (p1.trans p2) R2 (.bl _) h2⟩
inductive uNPut_3 (E:Ends3) (ρ:Ev) (v:D) (d:D) (e:D) (M3:Mem):Prop
 | mk:∀ j sh kvs ks,d=.cell j->M3[j]?=some (.dcN sh none kvs)->e=.nst ks->NI.shp ks=sh->kvs.length<sizeLine->E.nx ρ (M3.set j (.dcN sh none (Rf kvs ks v)))->uNPut_3 E ρ v d e M3
abbrev Zle (ub:TE3) (E:Ends3) (ρ:Ev) (v:D):D->Mem->Prop:=fun d M2=>ub ρ M2 (uNPut_3 E ρ v d)
abbrev Zlf (ua:TE3) (ub:TE3) (E:Ends3) (ρ:Ev):D->Mem->Prop:=fun v M1=>ua ρ M1 (Zle ub E ρ v)
def Zsa (ua ub uc:TE3):TS3:=fun E ρ M=>uc ρ M (Zlf ua ub E ρ)
def Zpq (ha:SimE C Z ta ua) (hb:SimE C Z tb ub) (hc:SimE C Z tc uc):SimS C Z (Zp7 C.k ta tb tc) (Zsa ua ub uc):=fun I α σ H ρ M E D' R RE h F =>
 hc I α σ H ρ M _ _ R RE h fun v d0 I1 α1 H1 M1 s1 p1 R1 r1 h1=>ha I1 α1 σ H1 ρ M1 _ _ R1 (RE.mono s1 p1) h1 fun x d I2 α2 H2 M2 s2 p2 R2 r2 h2 =>
  hb I2 α2 σ H2 ρ M2 _ _ R2 (RE.mono (s1.trans s2) (p1.trans p2)) h2 fun y e I3 α3 H3 M3 s3 p3 R3 r3 h3=>by
   obtain ⟨j,sh,kvs,ks,rfl,e1,rfl,es,hl,h3⟩:=h3;have rv:=r1.mono (s2.trans s3) (p2.trans p3);obtain ⟨a,rfl,ec⟩:=(r2.mono s3 p3).inv;obtain ⟨vs,ea,nk,ra⟩:=(R3.cel j a _ ec e1).1;cases r3 with
   | @nst b _ n =>
    exists a,b,sh,vs,ks,rfl,rfl,nk.dn R3.sub (.inl ea),ea,by rw [ra.len]; exact hl,n.same R3.sub,es,?_;exact F.nx I3 α3 σ _ ρ _ (s1.trans (s2.trans s3)) (p1.trans (p2.trans p3)) (R3.put (m:=.dcN sh none (Rf kvs ks d0)) ec fun H' e=>⟨_,e,nk.put n es,ra.put ks b rv⟩) (RE.mono (s1.trans (s2.trans s3)) (p1.trans (p2.trans p3))) h3
end
def NeW (P:List Pr):Prop:=∀ p∈P,p.2≠[]
def Free.nd {P:List Pr} (h:Free P):P.Nodup:=h.imp fun a e=>a.1 (by rw [e])
section
theorem Tv {f:τ->Nat} {n:Nat}:∀ {xs:List τ},(∀ x∈xs,f x<=n)->(xs.map f).sum<=xs.length*n
 | [],_=>Jz _
 | x::xs,h=>by
  rw [Ju,List.sum_cons,Jq,Nat.succ_mul];have:=Tv (fun y hy=>h y (Jg _ hy):∀ y∈xs,f y<=n);have:=h x Jm;lia
end
def Zez (C:Addr):Sp:=fun vs H Q _=>∃ (x r:Addr) (S:List Pr) (ns:List Int),vs=[.ref x,.ref r]/\Wl C H x S/\H r=some (.tup (ns.map V.int))/\Q (.bl (decide (Live S ns))) H
section
inductive dLiveT (ds:List D) (M:Mem) (K:K3):Prop
 | mk:∀ (S:List Pr) (ns:List Int),ds=[.code S,.tup (ns.map .int)]->K (.bl (decide (Live S ns))) M->dLiveT ds M K
def Zn4 {E:XK} (h:spOf C dLiveT vs H Q E):Zez C.c vs H Q E:=by
 obtain ⟨Z,I,α,M,ds,K,R,r,⟨S,ns,rfl,h⟩,kk⟩:=h;refine Reps.e2 r fun _ _ r1 r2=>?_;obtain ⟨_,rfl,hc⟩:=r1.inv;obtain ⟨a,va,rfl,ea,_,ra⟩:=W7 R r2 rfl;rw [ra.of_ints ns] at ea;exists _,a,S,ns,rfl,hc.same R.sub,ea,kk _ _ I α H M (.refl _) (Jk _) R (.bl _) h
end
theorem Zay {d:D} {x:List Int} (h:itOf d=some x):niOf d=some (.t x):=by
 cases d with
 | itp y=>cases h; rfl
 | tup ds=>show (itOf (.tup ds)).map NI.t=_; rw [h]; rfl
 | _=>cases h
section
theorem Zki (ne:NeW L):∀ {U:List Pr},(∀ p∈U,p∈L)->U.length<=(Z8 U).length
 | [],_=>Jd _
 | p::U,h=>by
  have:=Zki ne (U:=U) fun q hq=>h q (Jg _ hq);have:=Gj.mpr (ne p (h p Jm));rw [Wp,Jc,Jq];lia
end
end L3
namespace L3
open PySem PySem.W PyProof.Rows L2
section
variable {t:TA} {u:TA3}
inductive uHand_1 (K:K3) (ds:List D) (M:Mem):Prop
 | mk:∀ (d i:Int) (cs:List Int),ds=[.int d,.int i,.lst (cs.map .int)]->((cs≠[]/\cs.length<=63/\0<=d/\0<=i/\∀ c∈cs,0<=c)/\K (.cell M.length) (M++[.hand]))->uHand_1 K ds M
def Zse (u:TA3):TE3:=fun ρ M K=>u ρ M (uHand_1 K)
def Zpx (ha:SimA C Z t u):SimE C Z (tLst t) (Zse u):=fun I α σ H ρ M K Q R E h k =>
 ha I α σ H ρ M _ _ R E h fun vs ds I1 α1 H1 M1 s1 p1 R1 r1 h1=>by
  obtain ⟨d,i,cs,rfl,⟨x3,x4,x5,x6,x7⟩,h⟩:=h1;refine Reps.e3 r1 fun _ _ _ a b c=>?_;cases a.inv;cases b.inv;obtain ⟨q,vs,rfl,ec,rc⟩:=c.inv;rw [rc.of_ints cs] at ec;exists (show 3<=sizeLine by decide),fun p hp=>?_;obtain ⟨R2,p2,e2⟩:=R1.cell (o:=.lst [.int d,.int i,.ref q]) (m:=.hand) hp fun H' e=>⟨d,i,q,cs,e,ec,x3,x4,x5,x6,x7⟩;exact k _ _ I1 _ _ _ s1 (p1.trans p2) R2 (.cell e2) h
end
end L3
namespace L3
open PySem L2
def TxIn (L U:List Pr):Prop:=∀ p∈U,p∈L
section
inductive dWordAtT (ds:List D) (M:Mem) (K:K3):Prop
 | mk:∀ (S:List Pr) (ns:List Int) (pl:Nat),ds=[.code S,wD ns,.int pl]->((Fits S/\pl<=ns.length)/\(∀ p∈S,p.2<+:ns.drop pl->K (wD p.2) M)/\((∀ p∈S,¬ p.2<+:ns.drop pl)->K .non M))->dWordAtT ds M K
def Zh1 {E:XK} (h:spOf C dWordAtT vs H Q E):Tw C.c vs H Q E:=by
 obtain ⟨Z,I,α,M,ds,K,R,r,⟨S,ns,pl,rfl,⟨h1,h2⟩,hy,hn⟩,kk⟩:=h;refine Reps.e3 r fun _ _ _ r1 r2 r3=>?_;obtain ⟨x,rfl,ca⟩:=Zhj R r1;cases r3.inv;obtain ⟨a,rfl,ra⟩:=Zkj (ns:=ns) R r2 rfl;exists x,a,S,ns,pl,rfl,ca,h1,ra,h2,fun p hp hpre t H' sm et=>?_,fun hno H' sm=>?_
 ·obtain ⟨I2,s2,R2,f⟩:=(R.same sm).full;exact kk _ _ I2 α H' M s2 (Jk _) R2 (.tup (f _ _ et ((R.same sm).tupOut et)) (.ints _)) (hy p hp hpre)
 ·exact kk _ _ I α H' M (.refl _) (Jk _) (R.same sm) .non (hn hno)
end
def hdW (S:List Pr) (r:List Int):Option Pr:=S.find? fun p=>decide (p.2<+:r)
def kW (S:List Pr) (r:List Int):Nat:=match hdW S r with | some p=>p.2.length | none=>1
def entF (S:List Pr):Nat->List Int->List (Option Int)
 | 0,_=>[]
 | n+1,r=>if r=[] then [] else (hdW S r).map (·.1)::entF S n (r.drop (kW S r))
def E2 (S:List Pr) (r:List Int):List (Option Int):=entF S r.length r
def Yy {p:Pr} (h:hdW S r=some p):p∈S/\p.2<+:r:=⟨List.mem_of_find?_eq_some h,Fq (List.find?_some (p:=fun p:Pr=>decide (p.2<+:r)) h)⟩
def Qy (h:hdW S r=none):∀ p∈S,¬ p.2<+:r:=fun p hp z=>by
 unfold hdW at h;rw [List.find?_eq_none] at h;exact h p hp (F2 z)
theorem Zg2 (fr:Free S) {p:Pr} (hp:p∈S) (h:p.2<+:r):hdW S r=some p:=by
 cases e:hdW S r with
 | none=>exact Fs h (Qy e p hp)
 | some q =>
  obtain ⟨hq,h2⟩:=Yy e;rw [Zno fr hq hp h2 h]
theorem Zg1 (h:∀ p∈S,¬ p.2<+:r):hdW S r=none:=by
 cases e:hdW S r with
 | none=>rfl
 | some q=>exact Fs (Yy e).2 (h q (Yy e).1)
theorem P9 (ne:∀ p∈S,p.2≠[]) (h:r≠[]):0<kW S r/\kW S r<=r.length:=by
 unfold kW;cases e:hdW S r with
 | none=>exact ⟨Nat.one_pos,Gj.mpr h⟩
 | some p=>exact ⟨Gj.mpr (ne p (Yy e).1),(Yy e).2.length_le⟩
theorem Zc3 (ne:∀ p∈S,p.2≠[]):∀ (n m:Nat) (r:List Int),r.length<=n->r.length<=m->entF S n r=entF S m r
 | 0,0,_,_,_=>rfl
 | 0,m+1,r,h,_=>by rw [Gs.mp (Nat.le_zero.mp h)]; rfl
 | n+1,0,r,_,h=>by rw [Gs.mp (Nat.le_zero.mp h)]; rfl
 | n+1,m+1,r,h1,h2=>by
  unfold entF
  by_cases e:r=[]
  ·rw [F1 e,F1 e]
  ·rw [F0 e,F0 e,Zc3 ne n m (r.drop (kW S r)) (by have:=P9 ne e; rw [Jj]; lia) (by have:=P9 ne e; rw [Jj]; lia)]
def Zdd :E2 S []=[]:=rfl
theorem Xy (ne:∀ p∈S,p.2≠[]) (h:r≠[]):E2 S r=(hdW S r).map (·.1)::E2 S (r.drop (kW S r)):=by
 have hk:=P9 ne h;have hl:=Gj.mpr h;obtain ⟨n,e⟩:∃ n,r.length=n+1:=⟨r.length-1,by lia⟩
 conv=>lhs; unfold E2; rw [e]; unfold entF; rw [if_neg h]
 rw [show E2 S (r.drop (kW S r))=entF S n (r.drop (kW S r)) from Zc3 ne _ _ _ (Jd _) (by rw [Jj]; lia)]
theorem N6 (fr:Free S) (ne:∀ p∈S,p.2≠[]):∀ (n:Nat) {r r':List Int},r.length<=n->E2 S r=E2 S r'->r.length=r'.length
 | 0,r,r',h,e=>by
  have h0:=Gs.mp (Nat.le_zero.mp h);subst h0
  by_cases h':r'=[]
  ·rw [h']
  ·rw [Xy ne h',Zdd] at e; cases e
 | n+1,r,r',h,e=>by
  by_cases h0:r=[]
  ·subst h0
   by_cases h':r'=[]
   ·rw [h']
   ·rw [Xy ne h',Zdd] at e; cases e
  by_cases h':r'=[]
  ·subst h';rw [Xy ne h0,Zdd] at e; cases e
  rw [Xy ne h0,Xy ne h'] at e;injection e with e1 e2
  have k1:=P9 ne h0;have k2:=P9 ne h';have:=N6 fr ne n (r:=r.drop (kW S r)) (r':=r'.drop (kW S r')) (by rw [Jj]; lia) e2;rw [Jj,Jj] at this;have ek:kW S r=kW S r':=by
   unfold kW;cases a:hdW S r with
   | none =>
    cases b:hdW S r' with
    | none=>rfl
    | some q=>rw [a,b] at e1; cases e1
   | some p =>
    cases b:hdW S r' with
    | none=>rw [a,b] at e1; cases e1
    | some q =>
     rw [a,b] at e1;rw [So fr (Yy a).1 (Yy b).1 (F5 e1)]
  lia
theorem Zn6 (fr:Free S) (ne:∀ p∈S,p.2≠[]) (h:Went S ns R pl):E2 S ns=osOf R++E2 S (ns.drop pl):=by
 induction h with
 | nil=>rfl
 | @lost R pl g h1 h2 ih =>
  have h0:ns.drop pl≠[]:=fun e=>by have:=congrArg List.length e; rw [Jj] at this; simp at this; lia
  rw [ih,Xy ne h0,show kW S (ns.drop pl)=1 from by unfold kW; rw [Zg1 h2],Zg1 h2,List.drop_drop];unfold osOf;rw [Jf,Ga];rfl
 | @word R pl p g h1 h2 h3 ih =>
  have h0:ns.drop pl≠[]:=fun e=>by rw [e] at h2; exact h3 (List.prefix_nil.mp h2)
  have eh:=Zg2 fr h1 h2;rw [ih,Xy ne h0,show kW S (ns.drop pl)=p.2.length from by unfold kW; rw [eh],eh,List.drop_drop];unfold osOf;rw [Jf,Ga];rfl
def Zbm (fr:Free S) (ne:∀ p∈S,p.2≠[]) (h:Told S ns R):E2 S ns=osOf R:=by
 obtain ⟨pl,w,hl⟩:=h;rw [Zn6 fr ne w,List.drop_of_length_le hl,Zdd,Gi]
def swB (S:List Pr) (r:List Int):Bool:=(hdW S r).isNone && S.any fun p=>decide (r<+:p.2/\r.length<p.2.length)
theorem Zcx (fr:Free S) (h0:r≠[]) (h:swB S r=false) (x:List Int):hdW S (r++x)=hdW S r:=by
 cases e:hdW S r with
 | some p=>exact Zg2 fr (Yy e).1 ((Yy e).2.trans (Js _ _))
 | none =>
  refine Zg1 fun p hp z=>?_;rcases List.prefix_or_prefix_of_prefix z (Js r x) with y | y
  ·exact Qy e p hp y
  ·unfold swB at h;rw [e,Fm,Bool.true_and,List.any_eq_false] at h;have:=h p hp;rw [Fu] at this
   by_cases hl:r.length<p.2.length
   ·exact this ⟨y,hl⟩
   ·have:=y.eq_of_length (by have:=y.length_le; lia);exact Qy e p hp (by rw [this]; exact Jk _)
def csF (S:List Pr):Nat->List Int->List Int->Option Nat
 | 0,_,_=>some 0
 | n+1,l,r=>if l=[] then some 0 else if (swB S l || swB S r)=true then some 0 else if hdW S r≠hdW S l then none else (csF S n (l.drop (kW S l)) (r.drop (kW S l))).map (kW S l + ·)
theorem Zhh (fr:Free S) (ne:∀ p∈S,p.2≠[]):∀ (n:Nat) {l r:List Int} {k:Nat},l.length=r.length->l.length<=n->csF S n l r=some k ->
  k<=l.length/\(k=l.length\/swB S (l.drop k)=true\/swB S (r.drop k)=true)/\∃ es,∀ x y,E2 S (l++x)=es++E2 S (l.drop k++x)/\E2 S (r++y)=es++E2 S (r.drop k++y)
 | 0,l,r,k,hl,hn,h=>by
  cases h;exists Jz _,.inl (by lia),[],fun x y=>⟨rfl,rfl⟩
 | n+1,l,r,k,hl,hn,h=>by
  unfold csF at h
  by_cases h0:l=[]
  ·rw [F1 h0] at h;cases h;exists Jz _,.inl (by rw [h0]; rfl),[],fun x y=>⟨rfl,rfl⟩
  rw [F0 h0] at h
  by_cases hs:(swB S l || swB S r)=true
  ·rw [F1 hs] at h;cases h;exists Jz _,.inr (by rw [B0,B0]; exact Bool.or_eq_true_iff.mp hs),[],fun x y=>⟨rfl,rfl⟩
  rw [F0 hs] at h;have hs:swB S l=false/\swB S r=false:=by
   rw [Bc] at hs;exists Gu _ ▸ fun z=>hs (.inl z),Gu _ ▸ fun z=>hs (.inr z)
  by_cases hw:hdW S r≠hdW S l
  ·rw [F1 hw] at h; cases h
  rw [F0 hw] at h;have hw:hdW S r=hdW S l:=Classical.not_not.mp hw;have hr0:r≠[]:=fun e=>h0 (Gs.mp (by rw [hl,e]; rfl));have kl:=P9 ne h0;cases e:csF S n (l.drop (kW S l)) (r.drop (kW S l)) with
  | none=>rw [e] at h; cases h
  | some j =>
   rw [e] at h;obtain rfl:kW S l+j=k:=F5 h;obtain ⟨a,b,es,c⟩:=Zhh fr ne n (by rw [Jj,Jj,hl]) (by rw [Jj]; lia) e;rw [Jj] at a b;rw [Fc,Fc] at b;exists by lia,b.imp (fun z=>by lia) id,(hdW S l).map (·.1)::es,fun x y=>?_;obtain ⟨c1,c2⟩:=c x y;rw [Fc] at c1 c2;have el:=Zcx fr h0 hs.1 x;have er:=Zcx fr hr0 hs.2 y;have ekl:kW S (l++x)=kW S l:=by unfold kW; rw [el]
   have ekr:kW S (r++y)=kW S l:=by unfold kW; rw [er,hw]
   exists ?_,?_
   ·rw [Xy ne (fun z=>h0 (B4.mp z).1),el,ekl,G5 kl.2,c1]; rfl
   ·rw [Xy ne (fun z=>hr0 (B4.mp z).1),er,ekr,hw,G5 (by lia),c2]; rfl
theorem Zhi (fr:Free S) (ne:∀ p∈S,p.2≠[]):∀ (n:Nat) {l r:List Int},l.length=r.length->l.length<=n->csF S n l r=none->∀ x y,E2 S (l++x)≠E2 S (r++y)
 | 0,l,r,hl,hn,h=>by cases h
 | n+1,l,r,hl,hn,h=>by
  intro x y he;unfold csF at h
  by_cases h0:l=[]
  ·rw [F1 h0] at h; cases h
  rw [F0 h0] at h
  by_cases hs:(swB S l || swB S r)=true
  ·rw [F1 hs] at h; cases h
  rw [F0 hs] at h;have hs:swB S l=false/\swB S r=false:=by
   rw [Bc] at hs;exists Gu _ ▸ fun z=>hs (.inl z),Gu _ ▸ fun z=>hs (.inr z)
  have hr0:r≠[]:=fun e=>h0 (Gs.mp (by rw [hl,e]; rfl));have kl:=P9 ne h0;have el:=Zcx fr h0 hs.1 x;have er:=Zcx fr hr0 hs.2 y;rw [Xy ne (fun z=>h0 (B4.mp z).1),Xy ne (fun z=>hr0 (B4.mp z).1),el,er] at he;injection he with e1 e2
  have ep:hdW S r=hdW S l:=by
   cases a:hdW S l with
   | none =>
    cases b:hdW S r with
    | none=>rfl
    | some q=>rw [a,b] at e1; cases e1
   | some p =>
    cases b:hdW S r with
    | none=>rw [a,b] at e1; cases e1
    | some q =>
     rw [a,b] at e1;rw [So fr (Yy b).1 (Yy a).1 (F5 e1).symm]
  rw [F0 (fun z=>z ep)] at h;have ekl:kW S (l++x)=kW S l:=by unfold kW; rw [el]
  have ekr:kW S (r++y)=kW S l:=by unfold kW; rw [er,ep]
  rw [ekl,ekr,G5 kl.2,G5 (by lia)] at e2;cases e:csF S n (l.drop (kW S l)) (r.drop (kW S l)) with
  | none=>exact Zhi fr ne n (by rw [Jj,Jj,hl]) (by rw [Jj]; lia) e x y e2
  | some j=>rw [e] at h; cases h
abbrev Sd:=List Int×List Int
abbrev Cpl:=Sd×Sd×Bool
abbrev Tl:=List Int×List Int×Bool
variable {re:List L3.Tl}
def wsd (sd:Sd) (p:Pr):Sd:=(sd.1++p.2,sd.2++[p.1])
def csT (S:List Pr) (t u:List Int):Option Nat:=csF S (min t.length u.length) (t.take (min t.length u.length)) (u.take (min t.length u.length))
def sdLt (a b:List Int):Bool:=decide (b.length<a.length) || (decide (b.length=a.length) && HT.lexLt a b)
def ordC (a b:Sd) (u:Bool):Cpl:=if sdLt b.1 a.1 then (b,a,u) else (a,b,u)
def cpF (S:List Pr) (a b:Sd) (u:Bool):Option Cpl:=(csT S a.1 b.1).map fun k=>ordC (a.1.drop k,a.2) (b.1.drop k,b.2) u
def ptF (S1 S:List Pr) (c:Cpl):List (Option Cpl):=(List.range S1.length).flatMap fun i=>match S1[i]? with
 | some p=>cpF S (wsd c.1 p) (wsd c.1 p) false::(S1.take i).map fun q=>cpF S (wsd c.1 p) (wsd c.1 q) true
 | none=>[]
def stF2 (S1 S:List Pr) (c:Cpl):List (Option Cpl):=(S1.map fun p=>cpF S c.1 (wsd c.2.1 p) true)++if c.1.1.length=c.2.1.1.length then S1.map fun p=>cpF S (wsd c.1 p) c.2.1 true else []
def fuF (S1 S:List Pr) (c:Cpl):List Cpl:=(if c.2.2 then stF2 S1 S c else ptF S1 S c).filterMap id
def tlC (c:Cpl):Tl:=(c.1.1,c.2.1.1,c.2.2)
def zC (t:Tl):Cpl:=((t.1,[]),(t.2.1,[]),t.2.2)
def dlT (t:Tl):Nat:=if t.2.2 then 1 else 2
inductive Pth (S1 S:List Pr):Nat->Tl->Prop
 | zero:Pth S1 S 0 ([],[],false)
 | step {n:Nat} {t t':Tl}:Pth S1 S n t->t'∈(fuF S1 S (zC t)).map tlC->Pth S1 S (n+dlT t) t'
def endT (S:List Pr) (t:Tl):Prop:=t.2.2=true/\t.1.length=t.2.1.length/\E2 S t.1=E2 S t.2.1
theorem Zjt {a b a' b':Sd} {u:Bool} (h1:a.1=a'.1) (h2:b.1=b'.1):(cpF S a b u).map tlC=(cpF S a' b' u).map tlC:=by
 unfold cpF;rw [h1,h2];cases csT S a'.1 b'.1 with
 | none=>rfl
 | some k =>
  show some (tlC (ordC _ _ _))=some (tlC (ordC _ _ _));unfold ordC;dsimp only
  split <;> rfl
def Zoz {L L':List (Option Cpl)} (h:L.map (Option.map tlC)=L'.map (Option.map tlC)):(L.filterMap id).map tlC=(L'.filterMap id).map tlC:=by
 have e:∀ M:List (Option Cpl),(M.filterMap id).map tlC=(M.map (Option.map tlC)).filterMap id:=fun M=>by
  rw [List.map_filterMap,List.filterMap_map];rfl
 rw [e,e,h]
theorem Zq7 {c c':Cpl} (h:tlC c=tlC c'):(fuF S1 S c).map tlC=(fuF S1 S c').map tlC:=by
 have h1:c.1.1=c'.1.1:=congrArg (·.1) h;have h2:c.2.1.1=c'.2.1.1:=congrArg (·.2.1) h;have h3:c.2.2=c'.2.2:=congrArg (·.2.2) h;have w:∀ {a a':Sd} (p:Pr),a.1=a'.1->(wsd a p).1=(wsd a' p).1:=fun p e=>by show _++_=_++_; rw [e]
 unfold fuF;refine Zoz ?_;rw [h3];cases c'.2.2 with
 | true =>
  rw [F1 rfl,F1 rfl];unfold stF2;rw [Jf,Jf,Gd,Gd,h1,h2]
  congr 1
  ·exact Bn fun p _=>Zjt h1 (w p h2)
  ·split
   ·rw [Gd,Gd];exact Bn fun p _=>Zjt (w p h1) h2
   ·rfl
 | false =>
  rw [F0 Jp,F0 Jp];unfold ptF;rw [List.map_flatMap,List.map_flatMap]
  congr 1
  funext i
  cases S1[i]? with
  | none=>rfl
  | some p =>
   show _::_=_::_;rw [Zjt (w p h1) (w p h1),Gd,Gd]
   congr 1
   exact Bn fun q _=>Zjt (w p h1) (w q h1)
theorem Zk7 {t u:List Int}:(t.take (min t.length u.length)).length=(u.take (min t.length u.length)).length:=by rw [Jt,Jt]; lia
theorem Zc7 (fr:Free S) (ne:∀ p∈S,p.2≠[]) {t u:List Int} {k:Nat} (h:csT S t u=some k):k<=t.length/\k<=u.length /\
  (k=min t.length u.length\/swB S ((t.take (min t.length u.length)).drop k)=true\/swB S ((u.take (min t.length u.length)).drop k)=true)/\∀ x y,E2 S (t++x)=E2 S (u++y)↔E2 S (t.drop k++x)=E2 S (u.drop k++y):=by
 have ll:(t.take (min t.length u.length)).length=min t.length u.length:=by rw [Jt]; lia
 obtain ⟨a,b,es,c⟩:=Zhh fr ne _ Zk7 (by rw [ll]; exact Jd _) h;rw [ll] at a b;have split:∀ {v:List Int},k<=min t.length u.length->min t.length u.length<=v.length->∀ x,v++x=v.take (min t.length u.length)++(v.drop (min t.length u.length)++x):=fun _ _ x=>by rw [<- Ga,Gp]
 have drp:∀ {v:List Int},min t.length u.length<=v.length->∀ x,(v.take (min t.length u.length)).drop k++(v.drop (min t.length u.length)++x)=v.drop k++x:=fun {v} hv x=>by
  rw [<- Ga]
  congr 1
  have e:v.drop k=(v.take (min t.length u.length)++v.drop (min t.length u.length)).drop k:=by rw [Gp]
  rw [e,G5 (by rw [Jt]; lia)]
 exists by lia,by lia,b,fun x y=>?_;obtain ⟨c1,c2⟩:=c (t.drop (min t.length u.length)++x) (u.drop (min t.length u.length)++y);rw [split a (by lia) x,split a (by lia) y,c1,c2,drp (by lia),drp (by lia)];exact ⟨List.append_cancel_left,fun h=>by rw [h]⟩
theorem Zjr (fr:Free S) (ne:∀ p∈S,p.2≠[]) {t u:List Int} (h:csT S t u=none) (x y:List Int):E2 S (t++x)≠E2 S (u++y):=by
 have ll:(t.take (min t.length u.length)).length=min t.length u.length:=by rw [Jt]; lia
 have:=Zhi fr ne _ Zk7 (by rw [ll]; exact Jd _) h (t.drop (min t.length u.length)++x) (u.drop (min t.length u.length)++y);rwa [<- Ga,<- Ga,Gp,Gp] at this
theorem Q3 (fr:Free S) (ne:∀ p∈S,p.2≠[]) {a b:Sd} {u:Bool} {c:Cpl} (h:cpF S a b u=some c):c.2.2=u/\c.2.1.1.length<=c.1.1.length/\∃ k,(c.1=(a.1.drop k,a.2)/\c.2.1=(b.1.drop k,b.2)\/c.1=(b.1.drop k,b.2)/\c.2.1=(a.1.drop k,a.2))/\∀ x y,E2 S (a.1++x)=E2 S (b.1++y)↔E2 S (a.1.drop k++x)=E2 S (b.1.drop k++y):=by
 unfold cpF at h;cases e:csT S a.1 b.1 with
 | none=>rw [e] at h; cases h
 | some k =>
  rw [e] at h;obtain rfl:ordC (a.1.drop k,a.2) (b.1.drop k,b.2) u=c:=F5 h;obtain ⟨_,_,_,q⟩:=Zc7 fr ne e;unfold ordC
  by_cases hs:sdLt (b.1.drop k) (a.1.drop k)=true
  ·rw [F1 hs];exists rfl,?_,k,.inr ⟨rfl,rfl⟩,q;unfold sdLt at hs;rw [Bc,Gy,Fu,Fu] at hs;show (a.1.drop k).length<=(b.1.drop k).length;lia
  ·rw [F0 hs];exists rfl,?_,k,.inl ⟨rfl,rfl⟩,q;unfold sdLt at hs;rw [Bc,Fu] at hs;show (b.1.drop k).length<=(a.1.drop k).length;have:¬ (a.1.drop k).length<(b.1.drop k).length:=fun z=>hs (.inl z);lia
def Zcz {c:Cpl} {o:Cpl} (h:some o∈(if c.2.2 then stF2 S1 S c else ptF S1 S c)):o∈fuF S1 S c:=Fl.mpr ⟨_,h,rfl⟩
def Zq9 {c:Cpl} {o:Cpl} (h:o∈fuF S1 S c):some o∈(if c.2.2 then stF2 S1 S c else ptF S1 S c):=by
 obtain ⟨x,hx,e⟩:=Fl.mp h;have e:x=some o:=e;rwa [e] at hx
theorem Znv (fr:Free S) (ne:∀ p∈S,p.2≠[]) {a b:Sd} {u:Bool} {x y:List Int} (h:E2 S (a.1++x)=E2 S (b.1++y)):∃ c,cpF S a b u=some c:=by
 unfold cpF;cases e:csT S a.1 b.1 with
 | none=>exact Fs h (Zjr fr ne e x y)
 | some k=>exact ⟨_,rfl⟩
theorem Zf2 (fr:Free S) (ne:∀ p∈S,p.2≠[]) (ne1:∀ p∈S1,p.2≠[]):∀ (n:Nat) {t1 t2:List Int} {m:Nat} {X Y:List Pr},X.length+Y.length=n->TxIn S1 X->TxIn S1 Y->Pth S1 S m (t1,t2,true)->t2.length<=t1.length->E2 S (t1++Z8 X)=E2 S (t2++Z8 Y)->∃ e,Pth S1 S (m+n) e/\endT S e:=by
 intro n
 induction n with
 | zero =>
  intro t1 t2 m X Y hn _ _ hp _ he;have hX:X=[]:=Gs.mp (by lia);have hY:Y=[]:=Gs.mp (by lia);subst hX hY;have he:E2 S (t1++[])=E2 S (t2++[]):=he;rw [Gi,Gi] at he;exists _,hp,rfl,N6 fr ne _ (Jd _) he,he
 | succ n ih =>
  intro t1 t2 m X Y hn hX hY hp hl he;cases Y with
  | nil =>
   have:=N6 fr ne _ (Jd _) he;rw [Jc,Jc,show (Z8 []).length=0 from rfl] at this;have lx:=Zki (fun p hp=>ne1 p (hX p hp)) (fun p hp=>hp:∀ p∈X,p∈X);have:X.length=0:=by lia
   rw [this] at hn;cases hn
  | cons b Y =>
   have hb:=hY b Jm;have hY':TxIn S1 Y:=fun p hp=>hY p (Jg _ hp);have hn':X.length+Y.length=n:=by rw [Jq] at hn; lia
   have he':E2 S ((t1,([]:List Int)).1++Z8 X)=E2 S ((wsd (t2,[]) b).1++Z8 Y):=by
    rw [Wp,<- Ga] at he;exact he
   obtain ⟨c,ec⟩:=Znv (u:=true) fr ne he';obtain ⟨cu,cl,k,ck,q⟩:=Q3 fr ne ec;have hs:Pth S1 S (m+1) (tlC c):=hp.step (Jo.mpr ⟨c,Zcz (Gn _ (Jo.mpr ⟨b,hb,ec⟩)),rfl⟩);have et:tlC c=(c.1.1,c.2.1.1,true):=by unfold tlC; rw [cu]
   rw [et] at hs;have q:=(q _ _).mp he';rw [show m+(n+1)=m+1+n by lia];rcases ck with ⟨e1,e2⟩ | ⟨e1,e2⟩
   ·exact ih hn' hX hY' hs cl (by rw [e1,e2]; exact q)
   ·exact ih (by lia) hY' hX hs cl (by rw [e1,e2]; exact q.symm)
theorem T6 (fr1:Free S1) (fr:Free S) (ne:∀ p∈S,p.2≠[]) (ne1:∀ p∈S1,p.2≠[]):∀ {X Y:List Pr} {t:List Int} {m:Nat},TxIn S1 X->TxIn S1 Y->Pth S1 S m (t,t,false)->X≠Y->E2 S (t++Z8 X)=E2 S (t++Z8 Y)->∃ e,Pth S1 S (m+(X.length+Y.length)) e/\endT S e
 | [],[],_,_,_,_,_,hn,_=>Fs rfl hn
 | [],b::Y,t,m,_,hY,_,_,he=>by
  have:=N6 fr ne _ (Jd _) he;have lb:=Gj.mpr (ne1 b (hY b Jm));rw [Wp,Jc,Jc,Jc,show (Z8 []).length=0 from rfl] at this;lia
 | a::X,[],t,m,hX,_,_,_,he=>by
  have:=N6 fr ne _ (Jd _) he;have lb:=Gj.mpr (ne1 a (hX a Jm));rw [Wp,Jc,Jc,Jc,show (Z8 []).length=0 from rfl] at this;lia
 | a::X,b::Y,t,m,hX,hY,hp,hn,he=>by
  have ha:=hX a Jm;have hb:=hY b Jm;have hX':TxIn S1 X:=fun p hp=>hX p (Jg _ hp);have hY':TxIn S1 Y:=fun p hp=>hY p (Jg _ hp);rw [Wp,Wp,<- Ga,<- Ga] at he;obtain ⟨i,hi,ei⟩:=Ge ha;obtain ⟨j,hj,ej⟩:=Ge hb;have blk:∀ {i:Nat} (hi:i<S1.length) {o:Option Cpl},o∈cpF S (wsd (zC (t,t,false)).1 S1[i]) (wsd (zC (t,t,false)).1 S1[i]) false::(S1.take i).map (fun q=>cpF S (wsd (zC (t,t,false)).1 S1[i]) (wsd (zC (t,t,false)).1 q) true)->o∈ptF S1 S (zC (t,t,false)):=fun {i} hi o ho=>by
   refine Bp.mpr ⟨i,Fn.mpr hi,?_⟩;rw [Jb hi];exact ho
  by_cases e:a=b
  ·subst e;obtain ⟨c,ec⟩:=Znv (u:=false) (a:=wsd (t,[]) a) (b:=wsd (t,[]) a) fr ne (x:=[]) (y:=[]) rfl;obtain ⟨cu,cl,k,ck,q⟩:=Q3 fr ne ec;have hs:Pth S1 S (m+2) (tlC c):=hp.step (Jo.mpr ⟨c,Zcz (blk hi (by rw [ei]; exact ec ▸ Jm)),rfl⟩);have c1:c.1=((t++a.2).drop k,[]++[a.1])/\c.2.1=((t++a.2).drop k,[]++[a.1]):=ck.elim (fun z=>z) fun z=>z;have et:tlC c=((t++a.2).drop k,(t++a.2).drop k,false):=by unfold tlC; rw [cu,c1.1,c1.2]
   rw [et] at hs;obtain ⟨z,h1,h2⟩:=T6 fr1 fr ne ne1 hX' hY' hs (fun z=>hn (by rw [z])) ((q _ _).mp he);exists z,by rw [show m+((a::X).length+(a::Y).length)=m+2+(X.length+Y.length) by rw [Jq,Jq]; lia]; exact h1,h2
  ·have fin:∀ {a b:Pr} {X Y:List Pr},TxIn S1 X->TxIn S1 Y->E2 S (t++a.2++Z8 X)=E2 S (t++b.2++Z8 Y)->(∀ c,cpF S (wsd (t,[]) a) (wsd (t,[]) b) true=some c->c∈fuF S1 S (zC (t,t,false)))->∃ e,Pth S1 S (m+(X.length+1+(Y.length+1))) e/\endT S e:=fun {a b X Y} hX hY he hm=>by
    obtain ⟨c,ec⟩:=Znv (u:=true) (a:=wsd (t,[]) a) (b:=wsd (t,[]) b) fr ne he;obtain ⟨cu,cl,k,ck,q⟩:=Q3 fr ne ec;have hs:Pth S1 S (m+2) (tlC c):=hp.step (Jo.mpr ⟨c,hm c ec,rfl⟩);have et:tlC c=(c.1.1,c.2.1.1,true):=by unfold tlC; rw [cu]
    rw [et] at hs;have q:=(q _ _).mp he;rw [show m+(X.length+1+(Y.length+1))=m+2+(X.length+Y.length) by lia];rcases ck with ⟨e1,e2⟩ | ⟨e1,e2⟩
    ·exact Zf2 fr ne ne1 _ rfl hX hY hs cl (by rw [e1,e2]; exact q)
    ·rw [Fo X.length];exact Zf2 fr ne ne1 _ rfl hY hX hs cl (by rw [e1,e2]; exact q.symm)
   have take:∀ {i j:Nat} (hi:i<S1.length) (hj:j<S1.length),j<i->S1[j]∈S1.take i:=fun {i j} hi hj hij=>List.mem_take_iff_getElem.mpr ⟨j,by lia,rfl⟩;rcases Fa i j with h | h | h
   ·rw [show (a::X).length+(b::Y).length=Y.length+1+(X.length+1) by rw [Jq,Jq]; lia];refine fin hY' hX' he.symm fun c ec=>Zcz (blk hj (Jg _ (Jo.mpr ⟨a,ei ▸ take hj hi h,by rw [ej]; exact ec⟩)))
   ·subst h;exact Fs (ei.symm.trans ej) e
   ·exact fin hX' hY' he fun c ec=>Zcz (blk hi (Jg _ (Jo.mpr ⟨b,ej ▸ take hi hj h,by rw [ei]; exact ec⟩)))
def Dif (U V:List Pr):Prop:=∃ P a b A B,U=P++a::A/\V=P++b::B/\a.1≠b.1
def Dif.symm {V:List Pr} (h:Dif U V):Dif V U:=let ⟨P,a,b,A,B,e1,e2,n⟩:=h; ⟨P,b,a,B,A,e2,e1,n.symm⟩
def Dif.app {V:List Pr} (h:Dif U V) (X Y:List Pr):Dif (U++X) (V++Y):=let ⟨P,a,b,A,B,e1,e2,n⟩:=h; ⟨P,a,b,A++X,B++Y,by rw [e1,Ga]; rfl,by rw [e2,Ga]; rfl,n⟩
def Dif.signs {V:List Pr} (h:Dif U V):Yj U≠Yj V:=by
 obtain ⟨P,a,b,A,B,rfl,rfl,n⟩:=h;intro e;have e:(P++a::A).map (·.1)=(P++b::B).map (·.1):=e;rw [Jf,Jf,Ju,Ju] at e;have:=List.append_cancel_left e;injection this with h1
 exact n h1
structure CpOk (S1 S:List Pr) (n:Nat) (c:Cpl) (U V:List Pr):Prop where
 tu:TxIn S1 U
 tv:TxIn S1 V
 su:c.1.2=Yj U
 sv:c.2.1.2=Yj V
 ln:U.length+V.length=n
 lk:c.2.2=false->U=V/\c.1=c.2.1
 df:c.2.2=true->Dif U V
 eq:∀ x y,E2 S (Z8 U++x)=E2 S (Z8 V++y)↔E2 S (c.1.1++x)=E2 S (c.2.1.1++y)
 pt:Pth S1 S n (tlC c)
 le:c.2.1.1.length<=c.1.1.length
def Qg (U:List Pr) (p:Pr) (x:List Int):Z8 (U++[p])++x=Z8 U++(p.2++x):=by rw [Zmc,show Z8 [p]=p.2 from Gi _,Ga]
def Zb0 (U:List Pr) (p:Pr):Yj (U++[p])=Yj U++[p.1]:=by show List.map _ _=_; rw [Jf]; rfl
def Tu {p:Pr} (h:TxIn S1 U) (hp:p∈S1):TxIn S1 (U++[p]):=fun x hx=>(J9.mp hx).elim (h x) fun z=>by rw [Jh.mp z]; exact hp
theorem Jbp (fr:Free S) (ne:∀ p∈S,p.2≠[]) {n:Nat} {a b:Sd} {u:Bool} {c:Cpl} {V:List Pr} (tu:TxIn S1 U) (tv:TxIn S1 V) (su:a.2=Yj U) (sv:b.2=Yj V) (ln:U.length+V.length=n) (lk:u=false->U=V/\a=b) (df:u=true->Dif U V)
  (eq:∀ x y,E2 S (Z8 U++x)=E2 S (Z8 V++y)↔E2 S (a.1++x)=E2 S (b.1++y)) (h:cpF S a b u=some c) (pt:Pth S1 S n (tlC c)):∃ U' V',CpOk S1 S n c U' V':=by
 obtain ⟨cu,cl,k,ck,q⟩:=Q3 fr ne h;rcases ck with ⟨e1,e2⟩ | ⟨e1,e2⟩
 ·exists U,V,tu,tv,by rw [e1]; exact su,by rw [e2]; exact sv,ln,fun z=>?_,fun z=>df (cu ▸ z),fun x y=>?_,pt,cl
  ·obtain ⟨h1,h2⟩:=lk (cu ▸ z);exact ⟨h1,by rw [e1,e2,h2]⟩
  ·rw [eq,q,e1,e2]
 ·exists V,U,tv,tu,by rw [e1]; exact sv,by rw [e2]; exact su,by lia,fun z=>?_,fun z=>(df (cu ▸ z)).symm,fun x y=>?_,pt,cl
  ·obtain ⟨h1,h2⟩:=lk (cu ▸ z);exact ⟨h1.symm,by rw [e1,e2,h2]⟩
  ·rw [eq_comm,eq,q,e1,e2,eq_comm]
theorem Jbj (fr1:Free S1) (fr:Free S) (ne:∀ p∈S,p.2≠[]) {n:Nat} {c c':Cpl} {V:List Pr} (h:CpOk S1 S n c U V) (hc:c'∈fuF S1 S c):∃ U' V',CpOk S1 S (n+dlT (tlC c)) c' U' V':=by
 have hz:tlC c'∈(fuF S1 S (zC (tlC c))).map tlC:=by
  rw [<- Zq7 (c:=c) (c':=zC (tlC c)) rfl];exact Jo.mpr ⟨c',hc,rfl⟩
 have pt:=h.pt.step hz;have hin:=Zq9 hc;obtain ⟨tu,tv,su,sv,ln,lk,df,eq,_,_⟩:=h;cases hu:c.2.2 with
 | true =>
  have ed:dlT (tlC c)=1:=by show (if c.2.2=true then 1 else 2)=1; rw [hu]; rfl
  rw [ed] at pt ⊢;rw [F1 hu] at hin;have hdf:=df hu;rcases J9.mp hin with z | z
  ·obtain ⟨p,hp,e⟩:=Jo.mp z;exact Jbp (a:=c.1) (b:=wsd c.2.1 p) (u:=true) fr ne tu (Tu tv hp) su (by rw [Zb0,<- sv]; rfl) (by rw [Jc,Jx]; lia) (fun z=>by cases z) (fun _=>by have:=hdf.app [] [p]; rwa [Gi] at this) (fun x y=>by rw [Qg,eq,<- Ga]; rfl) e pt
  ·by_cases hl:c.1.1.length=c.2.1.1.length
   ·rw [F1 hl] at z;obtain ⟨p,hp,e⟩:=Jo.mp z;exact Jbp (a:=wsd c.1 p) (b:=c.2.1) (u:=true) fr ne (Tu tu hp) tv (by rw [Zb0,<- su]; rfl) sv (by rw [Jc,Jx]; lia) (fun z=>by cases z) (fun _=>by have:=hdf.app [p] []; rwa [Gi] at this) (fun x y=>by rw [Qg,eq,<- Ga]; rfl) e pt
   ·rw [F0 hl] at z;cases z
 | false =>
  have ed:dlT (tlC c)=2:=by show (if c.2.2=true then 1 else 2)=2; rw [hu]; rfl
  rw [ed] at pt ⊢;rw [F0 (by rw [hu]; exact Jp)] at hin;obtain ⟨rfl,e12⟩:=lk hu;obtain ⟨i,hi,hm⟩:=Bp.mp hin;have hi:=Fn.mp hi;rw [Jb hi] at hm;have hpi:=Jr hi;have eqq:∀ (p q:Pr) x y,E2 S (Z8 (U++[p])++x)=E2 S (Z8 (U++[q])++y)↔E2 S ((wsd c.1 p).1++x)=E2 S ((wsd c.1 q).1++y):=fun p q x y=>by
   rw [Qg,Qg,eq,<- e12,<- Ga,<- Ga];rfl
  have sgq:∀ p:Pr,(wsd c.1 p).2=Yj (U++[p]):=fun p=>by rw [Zb0,<- su]; rfl
  rcases Jy.mp hm with e | hm
  ·exact Jbp (a:=wsd c.1 S1[i]) (b:=wsd c.1 S1[i]) (u:=false) fr ne (Tu tu hpi) (Tu tu hpi) (sgq _) (sgq _) (by rw [Jc,Jx]; lia) (fun _=>⟨rfl,rfl⟩) (fun z=>by cases z) (eqq _ _) e.symm pt
  ·obtain ⟨q,hq,e⟩:=Jo.mp hm;have hq1:=G0 hq;refine Jbp (a:=wsd c.1 S1[i]) (b:=wsd c.1 q) (u:=true) fr ne (Tu tu hpi) (Tu tu hq1) (sgq _) (sgq _) (by rw [Jc,Jc,Jx,Jx]; lia) (fun z=>by cases z) (fun _=>⟨U,_,q,[],[],rfl,rfl,fun en=>?_⟩) (eqq _ _) e pt;have:=So fr1 hpi hq1 en;obtain ⟨j,hj,ej⟩:=List.mem_take_iff_getElem.mp hq;have hj2:j<S1.length:=by lia
   have a:=fr1.get hj2 hi (by lia:j<i);rw [ej] at a;exact a.1 en.symm
structure Wks where
 re:List Tl
 q1:Option (List Cpl)
 q2:Option (List Cpl)
def isE (S:List Pr) (t:Tl):Bool:=t.2.2 && (decide (t.1.drop t.2.1.length=[]) && decide (E2 S (t.1.take t.2.1.length)=E2 S t.2.1))
theorem Zgt {t:Tl} (le:t.2.1.length<=t.1.length):isE S t=true↔endT S t:=by
 unfold isE endT;rw [Gy,Gy,Fu,Fu,List.drop_eq_nil_iff]
 constructor
 ·rintro ⟨a,b,c⟩;rw [Gw b] at c;exists a,by lia,c
 ·rintro ⟨a,b,c⟩;exact ⟨a,by lia,by rw [Gw (by lia)]; exact c⟩
def putQ (q:Option (List Cpl)) (cs:List Cpl):Option (List Cpl):=some (q.getD []++cs)
def Vt (S1 S:List Pr) (w:Wks) (c:Cpl):Wks:=if c.2.2 then ⟨w.re++[tlC c],putQ w.q1 (fuF S1 S c),w.q2⟩ else ⟨w.re++[tlC c],w.q1,putQ w.q2 (fuF S1 S c)⟩
def stp1 (S1 S:List Pr) (w:Wks) (c:Cpl):Wks ⊕ Cpl:=if tlC c∈w.re then .inl w else if isE S (tlC c)=true then .inr c else .inl (Vt S1 S w c)
def lvl (S1 S:List Pr):List Cpl->Wks->Wks ⊕ Cpl
 | [],w=>.inl w
 | c::cs,w=>match stp1 S1 S w c with
  | .inl w'=>lvl S1 S cs w'
  | .inr e=>.inr e
theorem Zgi :∀ {cs ds:List Cpl} {w:Wks},lvl S1 S (cs++ds) w=match lvl S1 S cs w with | .inl w'=>lvl S1 S ds w' | .inr e=>.inr e
 | [],_,_=>rfl
 | c::cs,ds,w=>by
  show (match stp1 S1 S w c with | .inl w'=>lvl S1 S (cs++ds) w' | .inr e=>.inr e)=match (match stp1 S1 S w c with | .inl w'=>lvl S1 S cs w' | .inr e=>.inr e) with | .inl w'=>lvl S1 S ds w' | .inr e=>.inr e
  cases stp1 S1 S w c with
  | inl w'=>exact Zgi
  | inr e=>rfl
structure Hq where
 re:List Tl
 q0:Option (List Cpl)
 q1:Option (List Cpl)
def hq0:Hq:=⟨[],some [(([],[]),([],[]),false)],none⟩
inductive RunC (S1 S:List Pr):Nat->Hq->Prop
 | zero:RunC S1 S 0 hq0
 | step {T:Nat} {h:Hq} {w:Wks}:RunC S1 S T h->(h.q0.isSome || h.q1.isSome)=true->lvl S1 S (h.q0.getD []) ⟨h.re,h.q1,none⟩=.inl w->RunC S1 S (T+1) ⟨w.re,w.q1,w.q2⟩
inductive Wlk (S1 S:List Pr):List Tl->Option Cpl->Prop
 | none {T:Nat} {re:List Tl}:RunC S1 S T ⟨re,none,none⟩->Wlk S1 S re none
 | some {T:Nat} {h:Hq} {c:Cpl} {i:Nat} {w:Wks} (hi:i<(h.q0.getD []).length):RunC S1 S T h->lvl S1 S ((h.q0.getD []).take i) ⟨h.re,h.q1,none⟩=.inl w->stp1 S1 S w (h.q0.getD [])[i]=.inr c->Wlk S1 S w.re (some c)
structure Hd (S1 S:List Pr) (T:Nat) (h:Hq):Prop where
 a0:∀ c∈h.q0.getD [],∃ U V,CpOk S1 S T c U V
 a1:∀ c∈h.q1.getD [],∃ U V,CpOk S1 S (T+1) c U V
 nd:h.re.Nodup
 b:∀ t∈h.re,∃ n,n<T/\Pth S1 S n t/\¬ endT S t
 c:∀ n t,n<T->Pth S1 S n t->t∈h.re
 d:∀ t,Pth S1 S T t->t∈h.re\/∃ c∈h.q0.getD [],tlC c=t
 e:∀ n t t',n<T->Pth S1 S n t->t'∈(fuF S1 S (zC t)).map tlC->n+dlT t=T+1->t'∈h.re\/(∃ c∈h.q0.getD [],tlC c=t')\/∃ c∈h.q1.getD [],tlC c=t'
def Zk0 (t:Tl):0<dlT t:=by unfold dlT; split <;> decide
theorem Zs7 :∀ {n:Nat} {t:Tl},Pth S1 S n t->n=0->t=([],[],false):=fun h e=>by
 cases h with
 | zero=>rfl
 | @step n t _ _ _=>have:=Zk0 t; lia
theorem Zmk :∀ {n:Nat} {t:Tl},Pth S1 S n t->0<n->∃ m s,Pth S1 S m s/\t∈(fuF S1 S (zC s)).map tlC/\m+dlT s=n:=fun h e=>by
 cases h with
 | zero=>exact Fs e (G2 _)
 | @step m s _ hp hs=>exact ⟨m,s,hp,hs,rfl⟩
def hd_0 (S1 S:List Pr):Hd S1 S 0 hq0:=by
 exists fun c hc=>?_,fun c hc=>(nomatch hc),List.nodup_nil,fun t h=>(nomatch h),fun n t h=>Fs h (Gr _),fun t h=>.inr ⟨_,Jh.mpr rfl,?_⟩,fun n t t' h=>Fs h (Gr _)
 ·obtain rfl:=Jh.mp hc;exists [],[],fun _ h=>(nomatch h),fun _ h=>(nomatch h),rfl,rfl,rfl,fun _=>⟨rfl,rfl⟩,fun z=>(nomatch z),fun x y=>Iff.rfl,.zero,Jd _
 ·rw [Zs7 h rfl];rfl
structure Mid (S1 S:List Pr) (T:Nat) (h:Hq) (ps:List Cpl) (w:Wks):Prop where
 a1:∀ c∈w.q1.getD [],∃ U V,CpOk S1 S (T+1) c U V
 a2:∀ c∈w.q2.getD [],∃ U V,CpOk S1 S (T+2) c U V
 nd:w.re.Nodup
 b:∀ t∈w.re,∃ n,n<=T/\Pth S1 S n t/\¬ endT S t
 sub:∀ t∈h.re,t∈w.re
 dn:∀ c∈ps,tlC c∈w.re
 e:∀ n t t',n<T->Pth S1 S n t->t'∈(fuF S1 S (zC t)).map tlC->n+dlT t=T+1->t'∈w.re\/(∃ c∈h.q0.getD [],tlC c=t')\/∃ c∈w.q1.getD [],tlC c=t'
 f:∀ t∈w.re,t∉h.re->∀ t'∈(fuF S1 S (zC t)).map tlC,∃ c∈(if t.2.2 then w.q1 else w.q2).getD [],tlC c=t'
 g:h.re.length<=w.re.length/\(w.re.length=h.re.length->w=⟨h.re,h.q1,none⟩)
def Zm8 {T:Nat} {h:Hq} (hd:Hd S1 S T h):Mid S1 S T h [] ⟨h.re,h.q1,none⟩ :=
 ⟨hd.a1,fun _ h=>(nomatch h),hd.nd,fun t ht=>let ⟨n,a,b⟩:=hd.b t ht; ⟨n,Bt a,b⟩,fun _ h=>h,fun _ h=>(nomatch h),hd.e,fun t h1 h2=>Fs h1 h2,Jd _,fun _=>rfl⟩
def Uz {q:Option (List Cpl)} {cs:List Cpl} {c:Cpl}:c∈(putQ q cs).getD []↔c∈q.getD []\/c∈cs:=J9
theorem Mid.next (fr1:Free S1) (fr:Free S) (ne:∀ p∈S,p.2≠[]) {T:Nat} {h:Hq} {ps:List Cpl} {w w':Wks} {c:Cpl} (m:Mid S1 S T h ps w) (hc:∃ U V,CpOk S1 S T c U V) (e:stp1 S1 S w c=.inl w'):Mid S1 S T h (ps++[c]) w':=by
 obtain ⟨U,V,ok⟩:=hc;unfold stp1 at e
 by_cases hin:tlC c∈w.re
 ·rw [F1 hin] at e;cases e;exists m.a1,m.a2,m.nd,m.b,m.sub,fun x hx=>(J9.mp hx).elim (m.dn x) fun z=>by rw [Jh.mp z]; exact hin,m.e,m.f,m.g
 rw [F0 hin] at e
 by_cases he:isE S (tlC c)=true
 ·rw [F1 he] at e; cases e
 rw [F0 he] at e;cases e;have nend:¬ endT S (tlC c):=fun z=>he ((Zgt ok.le).mpr z);have nx:∀ o∈fuF S1 S c,∃ U V,CpOk S1 S (T+dlT (tlC c)) o U V:=fun o ho=>Jbj fr1 fr ne ok ho;have sc:∀ t'∈(fuF S1 S (zC (tlC c))).map tlC,∃ o∈fuF S1 S c,tlC o=t':=fun t' ht=>by
  rw [<- Zq7 (c:=c) (c':=zC (tlC c)) rfl] at ht;exact Jo.mp ht
 have ere:(Vt S1 S w c).re=w.re++[tlC c]:=by unfold Vt; split <;> rfl
 have m1:∀ x,x∈w.q1.getD []->x∈(Vt S1 S w c).q1.getD []:=fun x hx=>by
  unfold Vt
  split
  ·exact Uz.mpr (.inl hx)
  ·exact hx
 have m2:∀ x,x∈w.q2.getD []->x∈(Vt S1 S w c).q2.getD []:=fun x hx=>by
  unfold Vt
  split
  ·exact hx
  ·exact Uz.mpr (.inl hx)
 have up:∀ t∈w.re,t∈(Vt S1 S w c).re:=fun t ht=>by rw [ere]; exact Gn _ ht
 exists fun x hx=>?_,fun x hx=>?_,?_,fun t ht=>?_,fun t ht=>up t (m.sub t ht),fun x hx=>?_,fun n t t' h1 h2 h3 h4=>?_,fun t ht hn t' ht'=>?_,?_
 ·unfold Vt at hx
  by_cases hu:c.2.2=true
  ·rw [F1 hu] at hx;rcases Uz.mp hx with z | z
   ·exact m.a1 x z
   ·have:=nx x z;rwa [show dlT (tlC c)=1 by show (if c.2.2=true then 1 else 2)=1; rw [hu]; rfl] at this
  ·rw [F0 hu] at hx;exact m.a1 x hx
 ·unfold Vt at hx
  by_cases hu:c.2.2=true
  ·rw [F1 hu] at hx;exact m.a2 x hx
  ·rw [F0 hu] at hx;rcases Uz.mp hx with z | z
   ·exact m.a2 x z
   ·have:=nx x z;rwa [show dlT (tlC c)=2 by show (if c.2.2=true then 1 else 2)=2; rw [F0 hu]] at this
 ·rw [ere,Bv];exists m.nd,Bs.mpr ⟨List.not_mem_nil,List.nodup_nil⟩,fun a ha b hb e=>hin (by rw [<- Jh.mp hb,<- e]; exact ha)
 ·rw [ere] at ht;rcases J9.mp ht with z | z
  ·exact m.b t z
  ·rw [Jh.mp z];exists T,Jd _,ok.pt,nend
 ·rcases J9.mp hx with z | z
  ·exact up _ (m.dn x z)
  ·rw [Jh.mp z,ere];exact Jl _ (Jh.mpr rfl)
 ·rcases m.e n t t' h1 h2 h3 h4 with z | z | ⟨x,hx,ex⟩
  ·exact .inl (up _ z)
  ·exact .inr (.inl z)
  ·exact .inr (.inr ⟨x,m1 x hx,ex⟩)
 ·rw [ere] at ht;rcases J9.mp ht with z | z
  ·obtain ⟨x,hx,ex⟩:=m.f t z hn t' ht';exists x,?_,ex
   by_cases hu:t.2.2=true
   ·rw [F1 hu] at hx ⊢; exact m1 x hx
   ·rw [F0 hu] at hx ⊢; exact m2 x hx
  ·have z:=Jh.mp z;subst z;obtain ⟨o,ho,eo⟩:=sc t' ht';exists o,?_,eo;unfold Vt
   by_cases hu:c.2.2=true
   ·rw [F1 (show (tlC c).2.2=true from hu),F1 hu];exact Uz.mpr (.inr ho)
   ·rw [F0 (show ¬ (tlC c).2.2=true from hu),F0 hu];exact Uz.mpr (.inr ho)
 ·rw [ere,Jc,Jx];have:=m.g.1;exact ⟨by lia,fun z=>by lia⟩
theorem Mid.done {T:Nat} {h:Hq} {w:Wks} (hd:Hd S1 S T h) (m:Mid S1 S T h (h.q0.getD []) w):Hd S1 S (T+1) ⟨w.re,w.q1,w.q2⟩:=by
 have all:∀ t,Pth S1 S T t->t∈w.re:=fun t ht=>by
  rcases hd.d t ht with z | ⟨c,hc,rfl⟩
  ·exact m.sub t z
  ·exact m.dn c hc
 have me:∀ n t t',n<T->Pth S1 S n t->t'∈(fuF S1 S (zC t)).map tlC->n+dlT t=T+1->t'∈w.re\/∃ c∈w.q1.getD [],tlC c=t':=fun n t t' h1 h2 h3 h4=>by
  rcases m.e n t t' h1 h2 h3 h4 with z | ⟨c,hc,rfl⟩ | z
  ·exact .inl z
  ·exact .inl (m.dn c hc)
  ·exact .inr z
 have old:∀ n t t',n<=T->Pth S1 S n t->t∈h.re->t'∈(fuF S1 S (zC t)).map tlC->t'∈w.re\/∃ c∈w.q1.getD [],tlC c=t':=fun n t t' hn hp hin hs=>by
  obtain ⟨k,hk,pk,_⟩:=hd.b t hin;have:=pk.step hs;have hd2:dlT t<=2:=by unfold dlT; split <;> decide
  by_cases h1:k+dlT t<T
  ·exact .inl (m.sub _ (hd.c _ _ h1 this))
  ·by_cases h2:k+dlT t=T
   ·exact .inl (all _ (h2 ▸ this))
   ·exact me k t t' hk pk hs (by lia)
 exists m.a1,m.a2,m.nd,fun t ht=>let ⟨n,a,b⟩:=m.b t ht; ⟨n,Nat.lt_succ_of_le a,b⟩,fun n t hn hp=>?_,fun t ht=>?_,fun n t t' hn hp hs hd'=>?_
 ·by_cases e:n=T
  ·exact all t (e ▸ hp)
  ·exact m.sub t (hd.c n t (by lia) hp)
 ·obtain ⟨k,s,hp,hs,ek⟩:=Zmk ht (Fh _);have:=Zk0 s
  by_cases e:k=T
  ·subst e
   by_cases hin:s∈h.re
   ·exact old _ s t (Jd _) hp hin hs
   ·have hf:=m.f s (all s hp) hin t hs;have hu:s.2.2=true:=by
     have hd1:dlT s=1:=by lia
     unfold dlT at hd1
     split at hd1
     ·assumption
     ·cases hd1
    rw [F1 hu] at hf;exact .inr hf
  ·exact me k s t (by lia) hp hs ek
 ·have e:n=T:=by
   have hd2:dlT t<=2:=by unfold dlT; split <;> decide
   lia
  subst e
  by_cases hin:t∈h.re
  ·obtain ⟨k,hk,pk,_⟩:=hd.b t hin;have hd2:dlT t<=2:=by unfold dlT; split <;> decide
   have p1:=pk.step hs
   by_cases h1:k+dlT t=n+1
   ·exact (me k t t' hk pk hs h1).imp_right .inl
   ·by_cases h2:k+dlT t=n
    ·exact .inl (all _ (h2 ▸ p1))
    ·exact .inl (m.sub _ (hd.c _ _ (by lia) p1))
  ·have hf:=m.f t (all t hp) hin t' hs;have hu:¬ t.2.2=true:=fun z=>by
    unfold dlT at hd';rw [F1 z] at hd';lia
   rw [F0 hu] at hf;exact .inr (.inr hf)
theorem Qi (fr1:Free S1) (fr:Free S) (ne:∀ p∈S,p.2≠[]) {T:Nat} {h:Hq}:∀ {cs ps:List Cpl} {w w':Wks},Mid S1 S T h ps w->(∀ c∈cs,∃ U V,CpOk S1 S T c U V)->lvl S1 S cs w=.inl w'->Mid S1 S T h (ps++cs) w'
 | [],ps,w,w',m,_,e=>by cases e; rwa [Gi]
 | c::cs,ps,w,w',m,ok,e=>by
  unfold lvl at e;cases es:stp1 S1 S w c with
  | inr x=>rw [es] at e; cases e
  | inl w1 =>
   rw [es] at e;have:=Qi fr1 fr ne (m.next fr1 fr ne (ok c Jm) es) (fun x hx=>ok x (Jg _ hx)) e;rwa [Ga] at this
theorem RunC.hd (fr1:Free S1) (fr:Free S) (ne:∀ p∈S,p.2≠[]):∀ {T:Nat} {h:Hq},RunC S1 S T h->Hd S1 S T h
 | 0,_,.zero=>hd_0 _ _
 | T+1,_,.step r _ e=>by
  have hd:=RunC.hd fr1 fr ne r;exact (Qi fr1 fr ne (Zm8 hd) hd.a0 e).done hd
theorem Zs3 :∀ {T:Nat} {h:Hq},RunC S1 S T h->T=0->h=hq0
 | 0,_,.zero,_=>rfl
def Zth (t:Tl):dlT t<=2:=by unfold dlT; split <;> decide
theorem Zh8 (fr1:Free S1) (fr:Free S) (ne:∀ p∈S,p.2≠[]) (ne1:∀ p∈S1,p.2≠[]) (h:Wlk S1 S re none) {X Y:List Pr} (hX:TxIn S1 X) (hY:TxIn S1 Y) (hn:X≠Y):E2 S (Z8 X)≠E2 S (Z8 Y):=fun he=>by
 obtain ⟨T,r⟩:∃ T,RunC S1 S T ⟨re,none,none⟩:=by cases h with | none r=>exact ⟨_,r⟩
 have hd:=r.hd fr1 fr ne;have hT:0<T:=Nat.pos_of_ne_zero fun z=>by
  have:=congrArg Hq.q0 (Zs3 r z);cases this
 have all:∀ {n:Nat} {t:Tl},Pth S1 S n t->t∈re:=fun {n t} hp=>by
  induction hp with
  | zero=>exact hd.c 0 _ hT .zero
  | @step n t t' _ hs ih =>
   obtain ⟨k,hk,pk,_⟩:=hd.b t ih;have p1:=pk.step hs;have hd2:=Zth t
   by_cases h1:k+dlT t<T
   ·exact hd.c _ _ h1 p1
   by_cases h2:k+dlT t=T
   ·rcases hd.d t' (h2 ▸ p1) with z | ⟨c,hc,_⟩
    ·exact z
    ·cases hc
   ·rcases hd.e k t t' hk pk hs (by lia) with z | ⟨c,hc,_⟩ | ⟨c,hc,_⟩
    ·exact z
    ·cases hc
    ·cases hc
 obtain ⟨e,pe,ee⟩:=T6 fr1 fr ne ne1 hX hY (t:=[]) .zero hn he;obtain ⟨_,_,_,ne⟩:=hd.b e (all pe);exact ne ee
theorem Zbq (fr1:Free S1) (fr:Free S) (ne:∀ p∈S,p.2≠[]) (ne1:∀ p∈S1,p.2≠[]) {c:Cpl} (h:Wlk S1 S re (some c)):∃ U V,TxIn S1 U/\TxIn S1 V/\c.1.2=Yj U/\c.2.1.2=Yj V/\Dif U V/\E2 S (Z8 U)=E2 S (Z8 V) /\
  ∀ {X Y:List Pr},TxIn S1 X->TxIn S1 Y->X≠Y->E2 S (Z8 X)=E2 S (Z8 Y)->U.length+V.length<=X.length+Y.length:=by
 obtain ⟨T,g,i,w,hi,r,e1,e2⟩:∃ (T:Nat) (g:Hq) (i:Nat) (w:Wks),∃ hi:i<(g.q0.getD []).length,RunC S1 S T g/\lvl S1 S ((g.q0.getD []).take i) ⟨g.re,g.q1,none⟩=.inl w/\stp1 S1 S w (g.q0.getD [])[i]=.inr c:=by
  cases h with | some hi r e1 e2=>exact ⟨_,_,_,_,hi,r,e1,e2⟩
 have hd:=r.hd fr1 fr ne;unfold stp1 at e2
 by_cases hin:tlC (g.q0.getD [])[i]∈w.re
 ·rw [F1 hin] at e2; cases e2
 rw [F0 hin] at e2
 by_cases he:isE S (tlC (g.q0.getD [])[i])=true
 ·rw [F1 he] at e2;obtain rfl:=Sum.inr.inj e2;obtain ⟨U,V,ok⟩:=hd.a0 _ (Jr hi);obtain ⟨hu,hl,hE⟩:=(Zgt ok.le).mp he;exists U,V,ok.tu,ok.tv,ok.su,ok.sv,ok.df hu,?_,fun {X Y} hX hY hn hE=>Nat.not_lt.mp fun lt=>?_
  ·have:=(ok.eq [] []).mpr (by rw [Gi,Gi]; exact hE);rwa [Gi,Gi] at this
  ·obtain ⟨e,pe,ee⟩:=T6 fr1 fr ne ne1 hX hY (t:=[]) .zero hn hE;rw [ok.ln] at lt;obtain ⟨_,_,_,ne⟩:=hd.b e (hd.c _ _ (by lia) pe);exact ne ee
 ·rw [F0 he] at e2; cases e2
structure Fit (M D:Nat) (A:List Int) (t:Tl):Prop where
 s:t.2.1.length<=M
 d:t.1.length<=t.2.1.length+D
 o:t.2.1.length<=t.1.length
 a:∀ x∈t.1,x∈A
 b:∀ x∈t.2.1,x∈A
 k:t.2.2=false->t.1=t.2.1
theorem Zso {M:Nat} (hM:∀ p∈S,p.2.length<=M+1) (h:swB S r=true):r.length<=M:=by
 unfold swB at h;rw [Gy,List.any_eq_true] at h;obtain ⟨p,hp,z⟩:=h.2;have:=hM p hp;have:=(Fq z).2;lia
theorem Zc8 (fr:Free S) (ne:∀ p∈S,p.2≠[]) {M D:Nat} (hM:∀ p∈S,p.2.length<=M+1) {A:List Int} {a b:Sd} {u:Bool} {c:Cpl} (h:cpF S a b u=some c) (h1:a.1.length<=b.1.length+D) (h2:b.1.length<=a.1.length+D) (ha:∀ x∈a.1,x∈A) (hb:∀ x∈b.1,x∈A) (hk:u=false->a.1=b.1):Fit M D A (tlC c):=by
 unfold cpF at h;cases e:csT S a.1 b.1 with
 | none=>rw [e] at h; cases h
 | some k =>
  rw [e] at h;obtain rfl:ordC (a.1.drop k,a.2) (b.1.drop k,b.2) u=c:=F5 h;obtain ⟨ka,kb,km,_⟩:=Zc7 fr ne e;have hm:a.1.length-k<=M\/b.1.length-k<=M:=by
   have w:∀ v:List Int,swB S ((v.take (min a.1.length b.1.length)).drop k)=true->min a.1.length b.1.length<=v.length->min a.1.length b.1.length-k<=M:=fun v hv hl=>by
    have:=Zso hM hv;rw [Jj,Jt] at this;lia
   rcases km with z | z | z
   ·lia
   ·have:=w _ z (Nat.min_le_left _ _); lia
   ·have:=w _ z (Nat.min_le_right _ _); lia
  have dr:∀ {v:List Int},(∀ x∈v,x∈A)->∀ x∈v.drop k,x∈A:=fun h x hx=>h x (Fd hx);unfold ordC
  by_cases z:sdLt (b.1.drop k) (a.1.drop k)=true
  ·rw [F1 z];unfold sdLt at z;rw [Bc,Gy,Fu,Fu,Jj,Jj] at z;exists ?_,?_,?_,dr hb,dr ha,fun y=>?_
   ·show (a.1.drop k).length<=M; rw [Jj]; lia
   ·show (b.1.drop k).length<=(a.1.drop k).length+D; rw [Jj,Jj]; lia
   ·show (a.1.drop k).length<=(b.1.drop k).length; rw [Jj,Jj]; lia
   ·show b.1.drop k=a.1.drop k;rw [hk y]
  ·rw [F0 z];unfold sdLt at z;rw [Bc,Fu,Jj,Jj] at z;have z:¬ a.1.length-k<b.1.length-k:=fun y=>z (.inl y);exists ?_,?_,?_,dr ha,dr hb,fun y=>?_
   ·show (b.1.drop k).length<=M; rw [Jj]; lia
   ·show (a.1.drop k).length<=(b.1.drop k).length+D; rw [Jj,Jj]; lia
   ·show (b.1.drop k).length<=(a.1.drop k).length; rw [Jj,Jj]; lia
   ·show a.1.drop k=b.1.drop k;rw [hk y]
theorem Zjk (fr:Free S) (ne:∀ p∈S,p.2≠[]) {M D:Nat} (hM:∀ p∈S,p.2.length<=M+1) (hM1:∀ p∈S1,p.2.length<=D) {A:List Int} (hA:∀ p∈S1,∀ x∈p.2,x∈A) {c c':Cpl} (f:Fit M D A (tlC c)) (h:c'∈fuF S1 S c):Fit M D A (tlC c'):=by
 obtain ⟨fs,fd,fo,fa,fb,fk⟩:=f;have fs:c.2.1.1.length<=M:=fs;have fd:c.1.1.length<=c.2.1.1.length+D:=fd;have fo:c.2.1.1.length<=c.1.1.length:=fo;have wl:∀ (s:Sd) (p:Pr),(wsd s p).1.length=s.1.length+p.2.length:=fun s p=>Jc;have wa:∀ {s:Sd} {p:Pr},(∀ x∈s.1,x∈A)->p∈S1->∀ x∈(wsd s p).1,x∈A:=fun hs hp x hx=>(J9.mp hx).elim (hs x) (hA _ hp x);have hin:=Zq9 h;cases hu:c.2.2 with
 | true =>
  rw [F1 hu] at hin;rcases J9.mp hin with z | z
  ·obtain ⟨p,hp,e⟩:=Jo.mp z;have:=hM1 p hp;exact Zc8 fr ne hM e (by rw [wl]; lia) (by rw [wl]; lia) fa (wa fb hp) (fun z=>by cases z)
  ·by_cases hl:c.1.1.length=c.2.1.1.length
   ·rw [F1 hl] at z;obtain ⟨p,hp,e⟩:=Jo.mp z;have:=hM1 p hp;exact Zc8 fr ne hM e (by rw [wl]; lia) (by rw [wl]; lia) (wa fa hp) fb (fun z=>by cases z)
   ·rw [F0 hl] at z;cases z
 | false =>
  rw [F0 (by rw [hu]; exact Jp)] at hin;obtain ⟨i,hi,hm⟩:=Bp.mp hin;have hi:=Fn.mp hi;rw [Jb hi] at hm;have hpi:=Jr hi;have:=hM1 _ hpi;rcases Jy.mp hm with e | hm
  ·exact Zc8 fr ne hM e.symm (by lia) (by lia) (wa fa hpi) (wa fa hpi) (fun _=>rfl)
  ·obtain ⟨q,hq,e⟩:=Jo.mp hm;have hq1:=G0 hq;have:=hM1 _ hq1;exact Zc8 fr ne hM e (by rw [wl,wl]; lia) (by rw [wl,wl]; lia) (wa fa hpi) (wa fa hq1) (fun z=>by cases z)
theorem Zfu (fr:Free S) (ne:∀ p∈S,p.2≠[]) {M D:Nat} (hM:∀ p∈S,p.2.length<=M+1) (hM1:∀ p∈S1,p.2.length<=D) {A:List Int} (hA:∀ p∈S1,∀ x∈p.2,x∈A) {n:Nat} {t:Tl} (h:Pth S1 S n t):Fit M D A t:=by
 induction h with
 | zero=>exact ⟨Jz _,Jz _,Jd _,fun _ h=>(nomatch h),fun _ h=>(nomatch h),fun _=>rfl⟩
 | @step n t t' _ hs ih =>
  obtain ⟨c',hc,rfl⟩:=Jo.mp hs;exact Zjk (c:=zC t) fr ne hM hM1 hA ih hc
def lsA (A:List Int):Nat->List (List Int)
 | 0=>[[]]
 | n+1=>[]::A.flatMap fun a=>(lsA A n).map (a::·)
theorem Za3 {A:List Int}:∀ {n:Nat} {l:List Int},l.length<=n->(∀ x∈l,x∈A)->l∈lsA A n
 | 0,[],_,_=>Jh.mpr rfl
 | n+1,[],_,_=>Jm
 | n+1,a::l,h,g=>Jg _ (Bp.mpr ⟨a,g a Jm,Jo.mpr ⟨l,Za3 (Nat.le_of_succ_le_succ h) (fun x hx=>g x (Jg _ hx)),rfl⟩⟩)
def szA (q:Nat):Nat->Nat
 | 0=>1
 | n+1=>1+q*szA q n
theorem Za4 (A:List Int):∀ n,(lsA A n).length=szA A.length n
 | 0=>rfl
 | n+1=>by
  show (lsA A (n+1)).length=1+A.length*szA A.length n;unfold lsA;rw [Jq,Bz,Fo]
  congr 1
  rw [Bn (g:=fun _=>szA A.length n) fun a _=>by rw [Ja,Za4],List.map_const',List.sum_replicate_nat]
theorem Zml (fr:Free S) (ne:∀ p∈S,p.2≠[]) {M D:Nat} (hM:∀ p∈S,p.2.length<=M+1) (hM1:∀ p∈S1,p.2.length<=D) {A:List Int} (hA:∀ p∈S1,∀ x∈p.2,x∈A) {ts:List Tl} (nd:ts.Nodup) (h:∀ t∈ts,∃ n,Pth S1 S n t):ts.length<=szA A.length (M+D)*(szA A.length M*2):=by
 have:=Zcm (us:=(lsA A (M+D)).flatMap fun t=>(lsA A M).flatMap fun u=>[(t,u,true),(t,u,false)]) nd fun t ht=>by
  obtain ⟨n,hp⟩:=h t ht;have f:=Zfu fr ne hM hM1 hA hp;refine Bp.mpr ⟨t.1,Za3 (by have:=f.s; have:=f.d; lia) f.a,Bp.mpr ⟨t.2.1,Za3 f.s f.b,?_⟩⟩;obtain ⟨a,b,u⟩:=t;cases u with
  | true=>exact Jm
  | false=>exact Jg _ Jm
 refine J8 this (G9 ?_);have two:∀ (a:List Int) (us:List (List Int)),(us.flatMap fun u=>[(a,u,true),(a,u,false)]).length=us.length*2:=fun a us=>by
  induction us with
  | nil=>rfl
  | cons u us ih=>rw [List.flatMap_cons,Jc,ih,Jq (as:=us),Nat.add_mul,Nat.one_mul,Fo]; rfl
 rw [Bz,Bn (g:=fun _=>szA A.length M*2) fun a _=>by rw [two,Za4],List.map_const',List.sum_replicate_nat,Za4]
end L3
variable {re:List L3.Tl}
namespace L2
open PySem PySem.W PyProof.Rows HT PySem.Calls
section
def Zj7 (K:PySem.W.Frag) (P:Addr) (lpos:Pos) (qual:Str) (tb:TE) (ta:TA):TE:=fun σ H Q=>ta σ H fun vs H1=>∃ (l:Addr) (ys:List V) (ws:List (List Int)) (y0 y1:V) (z0 z1:List Int),vs=[.ref l]/\SqL K H1 l ys/\ys=[y0,y1]/\ws=[z0,z1]/\Wb P lpos qual H1 /\
 (∀ (H2 H3:Hp) (i:Nat) (h1:i<ys.length) (h2:i<ws.length),Uu P H1 H2->Same H2 H3->tb [some ys[i]] H3 fun v H'=>Same H3 H'/\KmAt K H' v ws[i]) /\
 ∀ (H2 H3:Hp) (y D:Addr),H1 y=none->Uu P H1 H2->Wb P lpos qual H2->Same H2 H3->H3 D=none->Q (.ref D) (upd H3 D (.lst (two (HT.lexLt z1 z0) y0 y1)))
theorem Ziy {e:Expr} {ta:TA} {c P:Addr} {x:Str} {params:Arguments} {scope:Scope} {p lpos kpos:Pos} (hr:Room 3 X.A) (hg:Gl X "sorted") (hm:X.mg "sorted"=none) (ha:PA X [e] ta) (hcode:X.env.code=.ref c)
  (C:CodeHd X.base c P) (B:Bm X.mg X.base) (hcl:closureFor scope X.env=pure []) (hdef:defaultsOf params X.env=([],[])) (S:FnScope [x] [x] scope)
  (hbind:∀ (pm cv ctv u:Value),bindArgs (kla_fn "<lambda>" (X.env.qual++"<lambda>") params body scope [] pm cv ctv) ⟨[u],[]⟩=pure [(x,u)])
  (hb:∀ (f c':Addr) (A:Around) (outer:List Env) (s:Shared) (H:Hp),PE (cxOf CX0 X.prog X.w X.K X.mg X.base [x] (X.env.qual++"<lambda>") scope f (.ref c') A outer s H E0) body tb)
  (he:starEach [e] X.env=[(false,eval e X.env)]:=by rfl) :
  PE X (.Call (.Name "sorted" p) [e] [⟨some "key",.Lambda params body scope lpos,kpos⟩] pos) (Zj7 X.K P lpos (X.env.qual++"<lambda>") tb ta):=by
 intro pq s σ H Q I h;refine wpAny_Call_Name_kw (Rt I hg hm PyProof.Rows.boot_sorted ?_);refine callWith_kw (thn (ha pos pq s σ H _ I h) fun us s1 hz=>?_) (by rw [he]; rfl) (by rw [he]; rfl);obtain ⟨vs,H1,I1,r1,l,ys,ws,y0,y1,z0,z1,ev,hl,ey,ew,T,hbo,q1⟩:=hz;subst ev;obtain ⟨u,rfl,ru⟩:=Vals.one r1;obtain rfl:u=Value.ref l:=ru;obtain ⟨ps,hP,_,_⟩:=id T;have l1:ys.length=2:=by rw [ey]; rfl
 have l2:ws.length=2:=by rw [ew]; rfl
 show wpAny _ _ (evalAll [do let v <- eval (.Lambda params body scope lpos) X.env; standAt pos; pure v]) _ _ s1;refine wpAny_evalAll_cons (Fv (Zcs I1 hcode C B T hcl hdef fun f c' pm ctv H2 s2 sT T2 hx I2=>Fv (wpAny_standAt (Fw (wpAny_evalAll_nil ?_)))));show wpAny _ _ (call (.builtin "sorted") [.ref l] [(Str.ofString "key",.ref f)]) _ _ s2;refine F7 (Zio (Q:=Q) (E:=X.xe) I2 (sT.sqL hP hl) (by lia) (by lia) (by have:=Pe hr; lia) ey ew (fun pins' s' H3 i hi hj u hp sm I' rv=>?cal) fun D H3 sm nD=>q1 H2 H3 s1.heap.objs.size D (I1.hok.fresh (Jd _)) sT T2 sm nD) (fun v s' ⟨v',H',J,rv,qq⟩=>⟨v',H',J.unpinned,rv,qq⟩) fun _ _ z=>z
 case cal =>
  have hpin:=I'.pin (f,Vx (X.env.qual++"<lambda>") params body scope pm (.ref c') ctv) (Jl _ (hp _ (Jl _ (Jh.mpr rfl))));refine wpAny_call (codeAny_mono (Zgo (I'.env0.in1.in1) hr.in1.in1 hpin.1 (I'.hok c' _ (sm _ _ hx)).1 S (hbind pm (.ref c') ctv u) rv (hb f c' _ _ _ _) (hbo H2 H3 i hi (by lia) sT sm)) fun r s'' hq'=>?_);cases r with
  | error e=>exact False.elim hq'
  | ok fl =>
   cases fl with
   | ret u =>
    obtain ⟨v,H',a,b,c2,d⟩:=I'.after hq';exists v,H',a,b,c2,d
   | next=>exact False.elim hq'
   | brk=>exact False.elim hq'
   | cont=>exact False.elim hq'
end
end L2
namespace L3
open PySem L2
section
variable {t:TA} {u:TA3}
abbrev tHd (K:W.Frag):TE:=tOp (rIxT K) (tVar 0) (tC (.int 0))
abbrev Zo9 (K:W.Frag):TE:=tTup (Zes (tUn (rU fun i=>.int (-i)) (tCB (rLen K) (Zes (tHd K) tNil))) (Zes (tHd K) tNil))
inductive HdRow:D->List Int->Prop
 | mk {d:D} {xs:List D} {t:List Int}:(d=wD t\/d=.itp t)->HdRow (.tup (d::xs)) t
def twoD (b:Bool) (x y:D):List D:=if b=true then [y,x] else [x,y]
inductive uSort2_1 (Pt:Addr) (pos:Pos) (q:Str) (K:K3) (ds:List D) (M1:Mem):Prop
 | mk:∀ (k0:Nat) (d x y:D) (t1 t2:List Int),ds=[d]->M1[k0]?=some (.tab Pt pos q)->Ys M1 d=some [x,y]->HdRow x t1->HdRow y t2->K (.lst (twoD (sdLt t2 t1) x y)) M1->uSort2_1 Pt pos q K ds M1
def Zoe (Pt:Addr) (pos:Pos) (q:Str) (u:TA3):TE3:=fun ρ M K=>u ρ M (uSort2_1 Pt pos q K)
theorem Zpm {t1 t2:List Int}:HT.lexLt (-(t2.length:Int)::t2) (-(t1.length:Int)::t1)=sdLt t2 t1:=by
 rw [HT.lexLt_cons];unfold sdLt
 by_cases e:(-(t2.length:Int)) = -(t1.length:Int)
 ·have e':t2.length=t1.length:=by lia
  rw [F1 e,F3 (by lia:¬ t1.length<t2.length),F2 e'.symm,Fp,Bool.true_and]
 ·rw [F0 e,F3 (by lia:¬ t1.length=t2.length),Bool.false_and,Bool.or_false];exact decide_eq_decide.mpr (by lia)
theorem Ztg {d:D} {t:List Int} (r:Rep C I α v d) (h:HdRow d t):∃ a b vs,v=.ref a/\I a=some (.tup (.ref b::vs))/\SqT C.k I b (t.map V.int):=by
 cases h with
 | @mk d0 xs _ h =>
  obtain ⟨a,vs,rfl,ea,rs⟩:=r.inv;cases rs with
  | @cons v0 _ ws _ r0 rs =>
   rcases h with rfl | rfl
   ·obtain ⟨b,us,rfl,eb,rb⟩:=r0.inv;rw [Reps.of_ints _ rb] at eb;exists a,b,ws,rfl,ea,SqT.of eb
   ·obtain ⟨b,rfl,sb⟩:=r0.inv;exists a,b,ws,rfl,ea,sb
def Zlo {b:Bool} {v0 v1:V} {x y:D} (m0:Rep C I α v0 x) (m1:Rep C I α v1 y):Reps C I α (two b v0 v1) (twoD b x y):=by
 unfold two twoD
 split
 ·exact .cons m1 (.one m0)
 ·exact .cons m0 (.one m1)
theorem Zl1 {q:Str} (hr:SimA C Z t u):SimE C Z (Zj7 C.k Pt pos q (Zo9 C.k) t) (Zoe Pt pos q u):=fun I α σ H ρ M K Q R E h k =>
 hr I α σ H ρ M _ _ R E h fun vs ds I1 α1 H1 M1 s1 p1 R1 r1 h1=>by
  obtain ⟨k0,d,x,y,t1,t2,rfl,hk,e1,hx,hy,h1⟩:=h1;refine Reps.e1 r1 fun _ r1=>?_;obtain ⟨a,ws,rfl,ea,ra⟩:=W4 R1 r1 e1;obtain ⟨P',eP,⟨eqP,ps,ep,tp,cp⟩,iP⟩:=R1.get hk;subst eqP;have tb1:Wb P' pos q H1:=⟨ps,ep,tp,by
   rcases cp with z | ⟨c,z1,z2⟩
   ·exact .inl z
   ·exact .inr ⟨c,z1,R1.sub _ _ z2⟩⟩
  cases ra with
  | @cons v0 _ _ _ r0 ra =>
  cases ra with
  | @cons v1 _ _ _ r2 ra =>
  cases ra;have key:∀ {v:V} {d:D} {t:List Int},Rep C I1 α1 v d->HdRow d t->∀ (H2 H3:Hp),Uu P' H1 H2->Same H2 H3->Zo9 C.k [some v] H3 fun v H'=>Same H3 H'/\KmAt C.k H' v (-(t.length:Int)::t):=fun {v d t} r h H2 H3 sT sm=>by
   obtain ⟨a,b,vs,rfl,ia,sb⟩:=Ztg r h;have ta:SqT C.k H3 a (.ref b::vs):=SqT.of (sm _ _ (sT _ _ (fun z=>by rw [z,iP] at ia; cases ia) (R1.sub _ _ ia)));have tb:SqT C.k H3 b (t.map V.int):=by
    rcases sb with z | z
    ·rcases z with z | ⟨o,z⟩
     ·exact .inl (.inl (sm _ _ (sT _ _ (fun y=>by rw [y,iP] at z; cases z) (R1.sub _ _ z))))
     ·exact .inl (.inr ⟨o,sm _ _ (sT _ _ (fun y=>by rw [y,iP] at z; cases z) (R1.sub _ _ z))⟩)
    ·exact .inr z
   have hd:∀ {Q:VK},Q (.ref b) H3->tHd C.k [some (.ref a)] H3 Q:=fun {Q} hQ=>⟨_,rfl,a,_,0,_,rfl,rfl,ta,Wa (j:=0) (xs:=.ref b::vs) rfl,hQ⟩;refine hd ⟨_,t.length,rfl,.inr ⟨_,tb,by rw [Ja]⟩,_,rfl,hd ⟨by show 2<=sizeLine; rw [sizeLine_eq]; lia,fun p hp=>?_⟩⟩;have sp:=Zp (o:=.tup [.int (-(t.length:Int)),.ref b]) hp;exists sp,p,b,_,t,rfl,SqT.of Zg,Qd sp tb,rfl
  exists a,_,_,v0,v1,-(t1.length:Int)::t1,-(t2.length:Int)::t2,rfl,ea,rfl,rfl,tb1,fun H2 H3 i h1 h2 sT sm=>?_,fun H2 H3 z Da hz sT tb sm nD=>?_
  ·match i,h1 with
   | 0,_=>exact key r0 hx H2 H3 sT sm
   | 1,_=>exact key r2 hy H2 H3 sT sm
  ·obtain ⟨I',s',R',f⟩:=R1.made hk hz tb fun b o n1 n2 e=>sT b o n2 e;obtain ⟨R4,s4,e4⟩:=(R'.same sm).new (o:=.lst (two (HT.lexLt (-(t2.length:Int)::t2) (-(t1.length:Int)::t1)) v0 v1)) nD;refine k _ _ _ α1 _ M1 (s1.trans (s'.trans s4)) p1 R4 (.lst e4 ?_) h1;have m0:=(r0.mono s' (Jk _)).mono s4 (Jk _);have m1:=(r2.mono s' (Jk _)).mono s4 (Jk _);rw [<- Zpm (t1:=t1) (t2:=t2)];exact Zlo m0 m1
end
end L3
namespace L2
open PySem
def Zen (K:W.Frag) (a:Addr):Option (List Value):=match K.lookup a with
 | some o=>(match o.cls,o.data with
  | .type t,.seq its _=>if t="tuple" then some its.toList else none
  | _,_=>none)
 | none=>none
def Zi7 (K:W.Frag):Value->Bool
 | .ref e=>(match Zen K e with | some []=>true | _=>false)
 | _=>false
def Zck (K:W.Frag):Value->Bool
 | .ref e=>(match Zen K e with | some [a,b]=>Zi7 K a && Zi7 K b | _=>false)
 | _=>false
def Zjs (K:W.Frag) (a:Addr):Bool:=match Zen K a with
 | some [x,y,.bool b]=>Zck K x && Zck K y && !b
 | _=>false
theorem Uw {a:Addr} {vs:List Value} (h:Zen K a=some vs) (hl:vs.length<=3) (hv:Vals xs vs):SqT K (fun _=>none) a xs:=by
 unfold Zen at h;cases e1:K.lookup a with
 | none=>rw [e1] at h; cases h
 | some o =>
  rw [e1] at h;dsimp only at h
  split at h
  ·rename_i t its n hc hd
   by_cases ht:t="tuple"
   ·rw [F1 ht] at h;have h:=F5 h;refine .inr ⟨o,its,n,e1,by rw [hc,ht],hd,?_,by rw [h]; exact hv⟩;rw [<- Ba,h];exact J8 hl nofun
   ·rw [F0 ht] at h; cases h
  ·cases h
theorem Rq {u:Value} (h:Zi7 K u=true):∃ e,u=.ref e/\SqT K (fun _=>none) e []:=by
 cases u with
 | ref e =>
  unfold Zi7 at h;dsimp only at h
  split at h
  ·rename_i e1
   exists e,rfl,Uw e1 nofun .nil
  ·cases h
 | _=>cases h
theorem T7 {u:Value} (h:Zck K u=true):∃ e a b,u=.ref e/\SqT K (fun _=>none) e [.ref a,.ref b]/\SqT K (fun _=>none) a []/\SqT K (fun _=>none) b []:=by
 cases u with
 | ref e =>
  unfold Zck at h;dsimp only at h
  split at h
  ·rename_i x y e1
   rw [Gy] at h;obtain ⟨a,rfl,ha⟩:=Rq h.1;obtain ⟨b,rfl,hb⟩:=Rq h.2;exists e,a,b,rfl,Uw e1 (show 2<=3 by decide) (.cons rfl (.cons rfl .nil)),ha,hb
  ·cases h
 | _=>cases h
end L2
namespace L3
open PySem L2
def sdD (s:Sd):D:=.tup [wD s.1,wD s.2]
def cpD (c:Cpl):D:=.tup [sdD c.1,sdD c.2.1,.bl c.2.2]
inductive SdD (k:W.Frag):D->Sd->Prop
 | tup (s:Sd):SdD k (sdD s) s
 | at {a e e':Addr}:SqT k (fun _=>none) a [.ref e,.ref e']->SqT k (fun _=>none) e []->SqT k (fun _=>none) e' []->SdD k (.at a) ([],[])
inductive CpD (k:W.Frag):D->Cpl->Prop
 | tup (c:Cpl):CpD k (cpD c) c
 | at {a x y:Addr}:SqT k (fun _=>none) a [.ref x,.ref y,.bl false]->SdD k (.at x) ([],[])->SdD k (.at y) ([],[])->CpD k (.at a) (([],[]),([],[]),false)
def Zrl {a:Addr} (h:Zjs K a=true):CpD K (.at a) (([],[]),([],[]),false):=by
 unfold Zjs at h
 split at h
 ·rename_i x y b e1
  rw [Gy,Gy] at h;obtain ⟨⟨h1,h2⟩,h3⟩:=h;obtain ⟨e,p,q,rfl,z1,z2,z3⟩:=T7 h1;obtain ⟨e',p',q',rfl,y1,y2,y3⟩:=T7 h2;have hb:b=false:=by cases b <;> first | rfl | cases h3
  subst hb;exact .at (Uw e1 (show 3<=3 by decide) (.cons rfl (.cons rfl (.cons rfl .nil)))) (.at z1 z2 z3) (.at y1 y2 y3)
 ·cases h
theorem CpD.un {k:W.Frag} {d:D} {c:Cpl} (h:CpD k d c) (u:c.2.2=true):d=cpD c:=by
 cases h with
 | tup=>rfl
 | «at»=>cases u
section
variable {t:TE} {u:TE3}
inductive ixC3 (k:W.Frag) (d:D) (e:D) (M:Mem) (K:K3):Prop
 | i0:∀ c,CpD k d c->e=.int 0->(∀ x,SdD k x c.1->(d=cpD c->x=sdD c.1)->K x M)->ixC3 k d e M K
 | i1:∀ c,CpD k d c->e=.int 1->(∀ x,SdD k x c.2.1->(d=cpD c->x=sdD c.2.1)->K x M)->ixC3 k d e M K
 | i2:∀ c,CpD k d c->e=.int 2->K (.bl c.2.2) M->ixC3 k d e M K
def Zax {a:Addr} (h:SqT K (fun _=>none) a xs):SqT K H a xs:=h.elim (fun z=>by rcases z with z | ⟨o,z⟩ <;> cases z) .inr
def Re:SimR C Z (rIx C.k) (ixC3 C.k):=fun I α H M x y d e K Q R r1 r2 h k=>by
 rcases h with ⟨c,hc,rfl,hK⟩ | ⟨c,hc,rfl,hK⟩ | ⟨c,hc,rfl,hK⟩
 ·cases hc with
  | tup=>exact s_ix I α H M x y _ _ K Q R r1 r2 ⟨_,0,_,rfl,rfl,rfl,hK _ (.tup _) fun _=>rfl⟩ k
  | @«at» a x y h1 h2 h3 =>
   cases r1.inv;cases r2.inv;exact .inr (.inl ⟨a,_,0,_,rfl,rfl,Zax h1,Wa (j:=0) (xs:=[V.ref x,.ref y,.bl false]) rfl,k.now R (.at x) (hK _ h2 fun z=>by cases z)⟩)
 ·cases hc with
  | tup=>exact s_ix I α H M x y _ _ K Q R r1 r2 ⟨_,1,_,rfl,rfl,rfl,hK _ (.tup _) fun _=>rfl⟩ k
  | @«at» a x y h1 h2 h3 =>
   cases r1.inv;cases r2.inv;exact .inr (.inl ⟨a,_,1,_,rfl,rfl,Zax h1,Wa (j:=1) (xs:=[V.ref x,.ref y,.bl false]) rfl,k.now R (.at y) (hK _ h3 fun z=>by cases z)⟩)
 ·cases hc with
  | tup=>exact s_ix I α H M x y _ _ K Q R r1 r2 ⟨_,2,_,rfl,rfl,rfl,hK⟩ k
  | @«at» a x y h1 h2 h3 =>
   cases r1.inv;cases r2.inv;exact .inr (.inl ⟨a,_,2,_,rfl,rfl,Zax h1,Wa (j:=2) (xs:=[V.ref x,.ref y,.bl false]) rfl,k.now R (.bl false) hK⟩)
inductive ixS3 (k:W.Frag) (d:D) (e:D) (M:Mem) (K:K3):Prop
 | i0:∀ s,SdD k d s->e=.int 0->(∀ x,itOf x=some s.1->(d=sdD s->x=wD s.1)->K x M)->ixS3 k d e M K
 | i1:∀ s,SdD k d s->e=.int 1->(∀ x,itOf x=some s.2->(d=sdD s->x=wD s.2)->K x M)->ixS3 k d e M K
def Zfd:SimR C Z (rIx C.k) (ixS3 C.k):=fun I α H M x y d e K Q R r1 r2 h k=>by
 rcases h with ⟨c,hc,rfl,hK⟩ | ⟨c,hc,rfl,hK⟩
 ·cases hc with
  | tup=>exact s_ix I α H M x y _ _ K Q R r1 r2 ⟨_,0,_,rfl,rfl,rfl,hK _ (Qr _) fun _=>rfl⟩ k
  | @«at» a x y h1 h2 h3 =>
   cases r1.inv;cases r2.inv;exact .inr (.inl ⟨a,_,0,_,rfl,rfl,Zax h1,Wa (j:=0) (xs:=[V.ref x,.ref y]) rfl,k.now R (.itp (x:=[]) (Zax h2)) (hK (.itp []) rfl fun z=>by cases z)⟩)
 ·cases hc with
  | tup=>exact s_ix I α H M x y _ _ K Q R r1 r2 ⟨_,1,_,rfl,rfl,rfl,hK _ (Qr _) fun _=>rfl⟩ k
  | @«at» a x y h1 h2 h3 =>
   cases r1.inv;cases r2.inv;exact .inr (.inl ⟨a,_,1,_,rfl,rfl,Zax h1,Wa (j:=1) (xs:=[V.ref x,.ref y]) rfl,k.now R (.itp (x:=[]) (Zax h3)) (hK (.itp []) rfl fun z=>by cases z)⟩)
inductive lenI3 (ds:List D) (M:Mem) (K:K3):Prop
 | mk:∀ d t,ds=[d]->itOf d=some t->K (.int t.length) M->lenI3 ds M K
def Zpz:SimC C Z (rLen C.k) lenI3:=fun I α H M xs ds K Q R r h k=>by
 obtain ⟨d,t,rfl,e,h⟩:=h;refine Reps.e1 r fun _ r1=>?_;obtain ⟨a,rfl,sq⟩:=Zje r1 e;exists _,t.length,rfl,.inr ⟨_,Ud R.sub sq,by rw [Ja]⟩,k.now R (.int _) h
inductive slI3 (d:D) (lo:Option Int) (hi:Option Int) (M:Mem) (K:K3):Prop
 | mk:∀ t,itOf d=some t->(∀ x,itOf x=some (cut t lo hi)->(d=wD t->x=wD (cut t lo hi))->K x M)->slI3 d lo hi M K
def Zpn:SimL C Z (rSlU C.k) slI3:=fun I α H M x d lo hi K Q R r1 h k=>by
 obtain ⟨t,e,h⟩:=h
 by_cases hd:d=wD t
 ·subst hd;refine Zl2 I α H M x _ lo hi K Q R r1 ?_ k;show K (.tup (cut (t.map D.int) lo hi)) M;rw [Vd];exact h _ (Qr _) fun _=>rfl
 obtain ⟨a,rfl,sq⟩:=Zje r1 e;have cm:cutV (t.map V.int) lo hi=(cut t lo hi).map V.int:=Vd V.int t lo hi;have h:=h (.itp (cut t lo hi)) rfl fun z=>Fs z hd;refine .inr (.inl ⟨a,_,rfl,Ud R.sub sq,fun z=>?_,fun p hp=>?_⟩)
 ·rw [cm] at z;exact k.now R (.itp (by rw [z]; exact sq)) h
 ·obtain ⟨R2,s2,e2⟩:=R.new (o:=.tup (cutV (t.map V.int) lo hi)) hp;refine k.on s2 R2 (.itp ?_) h;rw [<- cm];exact SqT.of e2
inductive uAsN_1 (K:K3) (d:D) (M:Mem):Prop
 | mk:∀ ds ks,d=.tup ds->Rh ds=some ks->K (.nst ks) M->uAsN_1 K d M
def uAsN (u:TE3):TE3:=fun ρ M K=>u ρ M (uAsN_1 K)
def Zfh (ha:SimE C Z t u):SimE C Z t (uAsN u):=fun I α σ H ρ M K Q R E h k =>
 ha I α σ H ρ M _ _ R E h fun v d I1 α1 H1 M1 s1 p1 R1 r1 h1=>by
  obtain ⟨ds,ks,rfl,hn,h1⟩:=h1;obtain ⟨a,vs,rfl,ea,ra⟩:=r1.inv;exact k _ _ I1 α1 H1 M1 s1 p1 R1 (.nst ⟨vs,SqT.of ea,Zgc ra hn⟩) h1
end
end L3
namespace L2
open PySem
def Zbw (C:Addr):Sp:=fun vs H Q _=>∃ (x r:Addr) (S:List Pr) (ns:List Int),vs=[.ref x,.ref r]/\Wl C H x S/\Fits S/\Q5 H r ns/\ns.length<=1000 /\
 ∀ (l:Addr) (R:List En) (H':Hp),H l=none->Same H H'->H' l=some (.lst (R.map fun e=>oV e.2))->Told S ns R->Q (.ref l) H'
end L2
namespace L3
open PySem L2
section
inductive dSpillT (ds:List D) (M:Mem) (K:K3):Prop
 | mk:∀ (S:List Pr) (ns:List Int),ds=[.code S,wD ns]->(Fits S/\ns.length<=1000/\∀ R:List En,Told S ns R->K (.cell M.length) (M++[.lst ((osOf R).map oD)]))->dSpillT ds M K
def Zjz {E:XK} (h:spOf C dSpillT vs H Q E):Zbw C.c vs H Q E:=by
 obtain ⟨Z,I,α,M,ds,K,R,r,⟨S,ts,rfl,h1,h3,h⟩,kk⟩:=h;refine Reps.e2 r fun _ _ r1 r2=>?_;obtain ⟨x,rfl,ca⟩:=Zhj R r1;obtain ⟨xa,rfl,ex⟩:=Zkj (ns:=ts) R r2 rfl;exists x,xa,S,ts,rfl,ca,h1,ex,h3,fun l Rr H' nl s el tl=>Zqr R nl s (by rw [el]; unfold osOf; rw [List.map_map]; rfl) kk (h Rr tl)
end
def ocD:Option Cpl->D
 | none=>.non
 | some c=>cpD c
def ownD:Option Nat->D
 | none=>.non
 | some k=>.int (k:Nat)
inductive dSways (ds:List D) (M:Mem) (K:K3):Prop
 | mk:∀ (S:List Pr) (r:List Int) (pl:Nat),ds=[.code S,wD r,.int pl]->((Free S/\Fits S/\pl<=r.length)/\K (.bl (swB S (r.drop pl))) M)->dSways ds M K
inductive dCSize (ds:List D) (M:Mem) (K:K3):Prop
 | mk:∀ (S:List Pr) (a b:List Int),ds=[.code S,wD a,wD b]->((Free S/\Fits S)/\K (ownD (csT S a b)) M)->dCSize ds M K
inductive dCoup (Pt:Addr) (pos:Pos) (q:Str) (ds:List D) (M:Mem) (K:K3):Prop
 | mk:∀ (k0:Nat) (S:List Pr) (a b:Sd) (u:Bool),ds=[.code S,sdD a,sdD b,.bl u]->(M[k0]?=some (.tab Pt pos q)/\(Free S/\Fits S)/\K (ocD (cpF S a b u)) M)->dCoup Pt pos q ds M K
inductive dWSign (k:W.Frag) (ds:List D) (M:Mem) (K:K3):Prop
 | mk:∀ (d:D) (s:Sd) (p:Pr),ds=[d,.int p.1,wD p.2]->(SdD k d s/\(p.2≠[]/\s.1.length+p.2.length<=sizeLine/\s.2.length+1<=sizeLine)/\K (sdD (wsd s p)) M)->dWSign k ds M K
def Sml (c:Cpl):Prop:=c.1.1.length<=100/\c.2.1.1.length<=100/\c.1.2.length<=1000000/\c.2.1.2.length<=1000000
inductive dPairsT (k:W.Frag) (Pt:Addr) (pos:Pos) (q:Str) (ds:List D) (M:Mem) (K:K3):Prop
 | mk:∀ (k0:Nat) (S1 S:List Pr) (d:D) (c:Cpl),ds=[.code S1,.code S,d]->(M[k0]?=some (.tab Pt pos q)/\CpD k d c/\(Fits S1/\Free S/\Fits S/\S1.length<=20/\Sml c)/\K (.cell M.length) (M++[.lst ((ptF S1 S c).map ocD)]))->dPairsT k Pt pos q ds M K
inductive dSignsT (Pt:Addr) (pos:Pos) (q:Str) (ds:List D) (M:Mem) (K:K3):Prop
 | mk:∀ (k0:Nat) (S1 S:List Pr) (c:Cpl),ds=[.code S1,.code S,cpD c]->(M[k0]?=some (.tab Pt pos q)/\(Fits S1/\Free S/\Fits S/\S1.length<=20/\Sml c)/\K (.cell M.length) (M++[.lst ((stF2 S1 S c).map ocD)]))->dSignsT Pt pos q ds M K
inductive StD:D->Tl->Prop
 | mk {x y z:D} {t:Tl}:itOf x=some (t.1.drop t.2.1.length)->itOf y=some (t.1.take t.2.1.length)->itOf z=some t.2.1->(t.2.2=true->x=wD (t.1.drop t.2.1.length)/\y=wD (t.1.take t.2.1.length)/\z=wD t.2.1)->StD (.tup [x,y,z,.bl t.2.2]) t
inductive dState (k:W.Frag) (ds:List D) (M:Mem) (K:K3):Prop
 | mk:∀ (d:D) (c:Cpl),ds=[d]->(CpD k d c/\∀ x,StD x (tlC c)->K x M)->dState k ds M K
inductive dIsEnd (ds:List D) (M:Mem) (K:K3):Prop
 | mk:∀ (S:List Pr) (d:D) (t:Tl),ds=[.code S,d]->(StD d t/\(Free S/\Fits S/\t.1.length<=100/\t.2.1.length<=100)/\∀ M',M<+:M'->K (.bl (isE S t)) M')->dIsEnd ds M K
def Zcw (fr:Free S) (fi:Fits S) :(∀ p∈S,p.2<+:r.drop pl->hdW S (r.drop pl)=some p)/\((∀ p∈S,¬ p.2<+:r.drop pl)->hdW S (r.drop pl)=none):=⟨fun p hp h=>Zg2 fr hp h,Zg1⟩
def Zlu (h:hdW S r=none):swB S r=decide (Live S r):=by
 unfold swB;rw [h,Fm,Bool.true_and,B5,List.any_eq_true,Fu]
 constructor
 ·rintro ⟨p,hp,z⟩;exists p.2,Jo.mpr ⟨p,hp,rfl⟩,Fq z
 ·rintro ⟨w,hw,z⟩;obtain ⟨p,hp,rfl⟩:=Jo.mp hw;exists p,hp,F2 z
def Zlt {p:Pr} (h:hdW S r=some p):swB S r=false:=by unfold swB; rw [h]; rfl
theorem sz82 (fi1:Fits S1) {p:Pr} {s:Sd} (hp:p∈S1) (h1:s.1.length<=100) (h2:s.2.length<=1000000):p.2≠[]/\s.1.length+p.2.length<=sizeLine/\s.2.length+1<=sizeLine:=by
 have:=fi1.2 p hp;have e:sizeLine=16777216:=by decide
 exact ⟨this.1,by lia,by lia⟩
def Zaw {f:τ->Option Cpl} {xs:List τ} {i:Nat} (hi:i<xs.length):((xs.take (i+1)).map fun p=>ocD (f p))=((xs.take i).map fun p=>ocD (f p))++[ocD (f xs[i])]:=by rw [Ji hi,Jf]; rfl
section
variable {tc:TE} {uc:TE3}
def Nj (kvs:List (Key×D)) (k:Key):List (Key×D):=kvs.filter fun kv=>!decide (kv.1=k)
theorem RepK.drop {k:Key}:∀ {vs:List (Key×V)} {kvs:List (Key×D)},RepK C I α vs kvs->RepK C I α (Zbg vs k) (Nj kvs k)
 | _,_,.nil=>.nil
 | _,_,.cons (k:=k') h r=>by
  have ih:=RepK.drop (k:=k) r;unfold Zbg Nj at *
  rw [List.filter_cons,List.filter_cons]
  by_cases e:k'=k
  ·rw [F0 (by simp [e]),F0 (by simp [e])];exact ih
  ·rw [F1 (by simp [e]),F1 (by simp [e])];exact .cons h ih
inductive uDPop2_3 (K:K3) (d:D) (e:D) (x:D) (M3:Mem):Prop
 | mk:∀ j kvs k,d=.cell j->M3[j]?=some (.dct kvs)->Zng e=some k->(∀ v,valD kvs k=some v->K v (M3.set j (.dct (Nj kvs k))))->(valD kvs k=none->K x M3)->uDPop2_3 K d e x M3
abbrev Zil (uc:TE3) (ρ:Ev) (K:K3) (d:D):D->Mem->Prop:=fun e M2=>uc ρ M2 (uDPop2_3 K d e)
abbrev Zim (ub:TE3) (uc:TE3) (ρ:Ev) (K:K3):D->Mem->Prop:=fun d M1=>isD M1 d/\ub ρ M1 (Zil uc ρ K d)
def Zos (ua ub uc:TE3):TE3:=fun ρ M K=>ua ρ M (Zim ub uc ρ K)
def Zma (ha:SimE C Z ta ua) (hb:SimE C Z tb ub) (hc:SimE C Z tc uc):SimE C Z (Zka ta tb tc) (Zos ua ub uc):=fun I α σ H ρ M K Q R E h k =>
 ha I α σ H ρ M _ _ R E h fun v d I1 α1 H1 M1 s1 p1 R1 r1 h1=>by
  obtain ⟨a,rfl,hd⟩:=isD_at R1 r1 h1.1;exists a,rfl,hd,hb I1 α1 σ H1 ρ M1 _ _ R1 (E.mono s1 p1) h1.2 fun w e I2 α2 H2 M2 s2 p2 R2 r2 h2=>?_;refine hc I2 α2 σ H2 ρ M2 _ _ R2 (E.mono (s1.trans s2) (p1.trans p2)) h2 fun x' x I3 α3 H3 M3 s3 p3 R3 r3 h3=>?_;obtain ⟨j,kvs,kk,rfl,e1,e2,hy,hn⟩:=h3;obtain ⟨b,eb,ec⟩:=(r1.mono (s2.trans s3) (p2.trans p3)).inv;cases eb;obtain ⟨vs,ea,ra⟩:=(R3.cel j a _ ec e1).1;exists vs,kk,ea,P7 (r2.mono s3 p3) e2,fun y l=>?_,fun l=>?_
  ·rcases ra.val (k:=kk) with ⟨h1,h2⟩ | ⟨x,y',h1,h2,h3⟩
   ·rw [l] at h2; cases h2
   ·rw [l] at h2;cases h2;exact k _ _ I3 α3 _ _ (s1.trans (s2.trans s3)) (p1.trans (p2.trans p3)) (R3.put (m:=.dct (Nj kvs kk)) ec fun H' e=>⟨_,e,ra.drop⟩) h3 (hy _ h1)
  ·rcases ra.val (k:=kk) with ⟨h1,h2⟩ | ⟨x,y',h1,h2,h3⟩
   ·exact k _ _ I3 α3 H3 M3 (s1.trans (s2.trans s3)) (p1.trans (p2.trans p3)) R3 r3 (hn h1)
   ·rw [l] at h2; cases h2
inductive uDSetD_3 (K:K3) (d:D) (e:D) (x:D) (M3:Mem):Prop
 | mk:∀ j kvs k,d=.cell j->M3[j]?=some (.dct kvs)->Zng e=some k->kvs.length<sizeLine->(∀ v,valD kvs k=some v->K v M3)->(valD kvs k=none->K x (M3.set j (.dct (putD kvs k x))))->uDSetD_3 K d e x M3
abbrev Zij (uc:TE3) (ρ:Ev) (K:K3) (d:D):D->Mem->Prop:=fun e M2=>uc ρ M2 (uDSetD_3 K d e)
abbrev Zik (ub:TE3) (uc:TE3) (ρ:Ev) (K:K3):D->Mem->Prop:=fun d M1=>isD M1 d/\ub ρ M1 (Zij uc ρ K d)
def Zor (ua ub uc:TE3):TE3:=fun ρ M K=>ua ρ M (Zik ub uc ρ K)
def Zl9 (ha:SimE C Z ta ua) (hb:SimE C Z tb ub) (hc:SimE C Z tc uc):SimE C Z (Zj9 ta tb tc) (Zor ua ub uc):=fun I α σ H ρ M K Q R E h k =>
 ha I α σ H ρ M _ _ R E h fun v d I1 α1 H1 M1 s1 p1 R1 r1 h1=>by
  obtain ⟨a,rfl,hd⟩:=isD_at R1 r1 h1.1;exists a,rfl,hd,hb I1 α1 σ H1 ρ M1 _ _ R1 (E.mono s1 p1) h1.2 fun w e I2 α2 H2 M2 s2 p2 R2 r2 h2=>?_;refine hc I2 α2 σ H2 ρ M2 _ _ R2 (E.mono (s1.trans s2) (p1.trans p2)) h2 fun x' x I3 α3 H3 M3 s3 p3 R3 r3 h3=>?_;obtain ⟨j,kvs,kk,rfl,e1,e2,hl,hy,hn⟩:=h3;obtain ⟨b,eb,ec⟩:=(r1.mono (s2.trans s3) (p2.trans p3)).inv;cases eb;obtain ⟨vs,ea,ra⟩:=(R3.cel j a _ ec e1).1;exists vs,kk,ea,P7 (r2.mono s3 p3) e2,by rw [ra.len]; exact hl,fun y l=>?_,fun l=>?_
  ·rcases ra.val (k:=kk) with ⟨h1,h2⟩ | ⟨x,y',h1,h2,h3⟩
   ·rw [l] at h2; cases h2
   ·rw [l] at h2;cases h2;exact k _ _ I3 α3 H3 M3 (s1.trans (s2.trans s3)) (p1.trans (p2.trans p3)) R3 h3 (hy _ h1)
  ·rcases ra.val (k:=kk) with ⟨h1,h2⟩ | ⟨x,y',h1,h2,h3⟩
   ·exact k _ _ I3 α3 _ _ (s1.trans (s2.trans s3)) (p1.trans (p2.trans p3)) (R3.put (m:=.dct (putD kvs kk _)) ec fun H' e=>⟨_,e,ra.put r3⟩) r3 (hn h1)
   ·rw [l] at h2; cases h2
inductive lenDK3 (ds:List D) (M:Mem) (K:K3):Prop
 | mk:∀ d kvs,ds=[d]->Nm M d=some kvs->K (.int (kvs.length:Nat)) M->lenDK3 ds M K
def Zl5:SimC C Z Zkk lenDK3:=fun I α H M xs ds K Q R r h k=>by
 obtain ⟨d,kvs,rfl,e,h⟩:=h;refine Reps.e1 r fun _ r1=>?_;obtain ⟨a,vs,rfl,ea,ra⟩:=Zk3 R r1 e;exact ⟨a,vs,rfl,ea,by rw [ra.len]; exact k.now R (.int _) h⟩
def Zs0 {a:Addr}:SimE C Z (tC (.ref a)) (uC (.at a)):=Jcd fun I α=>.at a
end
def FitS (S1 S:List Pr):Prop:=(Free S1/\Fits S1/\S1.length<=20)/\(Free S/\Fits S)/\∃ (M D:Nat) (A:List Int),(∀ p∈S,p.2.length<=M+1)/\(∀ p∈S1,p.2.length<=D)/\(∀ p∈S1,∀ x∈p.2,x∈A)/\M+D<=50/\szA A.length (M+D)*(szA A.length M*2)<=20000
def kyT (t:Tl):List NI:=[.t (t.1.drop t.2.1.length),.t (t.1.take t.2.1.length),.t t.2.1,.b t.2.2]
def reD (re:List Tl):MO:=.dcN [1,1,1,2] none (re.map fun t=>(kyT t,.bl true))
inductive dWalked (Pt:Addr) (pos:Pos) (q:Str) (ds:List D) (M:Mem) (K:K3):Prop
 | mk:∀ (k0:Nat) (S1 S:List Pr),ds=[.code S1,.code S]->(M[k0]?=some (.tab Pt pos q)/\FitS S1 S /\
  (∀ (M':Mem) (re:List Tl) (r:Nat),M<+:M'->M'[r]?=some (reD re)->Wlk S1 S re none->K (.tup [.cell r,.non]) M') /\
  ∀ (M':Mem) (re:List Tl) (c:Cpl) (r a b:Nat),M<+:M'->M.length<=a->M.length<=b->a≠b->M'[r]?=some (reD re)->M'[a]?=some (.lst (c.1.2.map .int))->M'[b]?=some (.lst (c.2.1.2.map .int))->Wlk S1 S re (some c)->K (.tup [.cell r,.tup [.cell a,.cell b]]) M')->dWalked Pt pos q ds M K
theorem Zfm (l1:S1.length<=20) (c:Cpl):(if c.2.2=true then stF2 S1 S c else ptF S1 S c).length<=420:=by
 cases hu:c.2.2 with
 | true =>
  rw [F1 rfl];unfold stF2;rw [Jc,Ja]
  split
  ·rw [Ja]; lia
  ·simp; lia
 | false =>
  rw [F0 Jp];unfold ptF;rw [Bz];have:∀ n,n<=S1.length->((List.range n).map fun i=>(match S1[i]? with | some p=>cpF S (wsd c.1 p) (wsd c.1 p) false::(S1.take i).map fun q=>cpF S (wsd c.1 p) (wsd c.1 q) true | none=>[]).length).sum<=n*21:=fun n=>by
   induction n with
   | zero=>intro _; exact Jd _
   | succ n ih =>
    intro h;rw [List.range_succ,Jf,List.sum_append];have:=ih (by lia);have e:([n].map fun i=>(match S1[i]? with | some p=>cpF S (wsd c.1 p) (wsd c.1 p) false::(S1.take i).map fun q=>cpF S (wsd c.1 p) (wsd c.1 q) true | none=>[]).length).sum<=21:=by
     simp only [Ju,List.map_nil,List.sum_cons,List.sum_nil,Nat.add_zero];rw [Jb (by lia:n<S1.length)];dsimp only;rw [Jq,Ja,Jt];lia
    lia
  exact J8 (this S1.length (Jd _)) (by lia)
def Zq8 (l1:S1.length<=20) (c:Cpl):(fuF S1 S c).length<=420:=J8 (List.length_filterMap_le _ _) (Zfm l1 c)
def Sz (w:Wks):Prop:=(w.q1.getD []).length+(w.q2.getD []).length<=1+420*w.re.length
theorem Zph (l1:S1.length<=20) {w w':Wks} {c:Cpl} (h:Sz w) (e:stp1 S1 S w c=.inl w'):Sz w':=by
 unfold stp1 at e
 by_cases hin:tlC c∈w.re
 ·rw [F1 hin] at e; cases e; exact h
 rw [F0 hin] at e
 by_cases he:isE S (tlC c)=true
 ·rw [F1 he] at e; cases e
 rw [F0 he] at e;cases e;have:=Zq8 (S:=S) l1 c;unfold Sz at h ⊢;unfold Vt
 split
 ·show ((w.q1.getD []++fuF S1 S c).length)+(w.q2.getD []).length<=1+420*(w.re++[tlC c]).length;rw [Jc,Jc,Jx];lia
 ·show (w.q1.getD []).length+((w.q2.getD []++fuF S1 S c).length)<=1+420*(w.re++[tlC c]).length;rw [Jc,Jc,Jx];lia
theorem Zgh (l1:S1.length<=20):∀ {cs:List Cpl} {w w':Wks},Sz w->lvl S1 S cs w=.inl w'->Sz w'
 | [],w,w',h,e=>by cases e; exact h
 | c::cs,w,w',h,e=>by
  unfold lvl at e;cases es:stp1 S1 S w c with
  | inr x=>rw [es] at e; cases e
  | inl w1=>rw [es] at e; exact Zgh l1 (Zph l1 h es) e
theorem Zkh (l1:S1.length<=20):∀ {T:Nat} {h:Hq},RunC S1 S T h->(h.q0.getD []).length+(h.q1.getD []).length<=1+420*h.re.length
 | 0,_,.zero=>Jd _
 | T+1,_,.step (h:=h) r _ e=>by
  have:=Zkh l1 r;exact Zgh l1 (w:=⟨h.re,h.q1,none⟩) (by show (h.q1.getD []).length+0<=1+420*h.re.length; lia) e
def Phi (h:Hq):Nat:=3*h.re.length+(if h.q1.isSome then 0 else if h.q0.isSome then 1 else 2)
theorem Zp9 (fr1:Free S1) (fr:Free S) (ne:∀ p∈S,p.2≠[]):∀ {T:Nat} {h:Hq},RunC S1 S T h->T<=Phi h
 | 0,_,.zero=>Jz _
 | T+1,_,.step (h:=h) (w:=w) r hs e=>by
  have ih:=Zp9 fr1 fr ne r;have hd:=r.hd fr1 fr ne;have m:=Qi fr1 fr ne (Zm8 hd) hd.a0 e;obtain ⟨g1,g2⟩:=m.g;unfold Phi at ih ⊢
  by_cases eq:w.re.length=h.re.length
  ·have ew:=g2 eq;rw [ew];cases e1:h.q1 with
   | some x=>rw [e1] at ih; simp at ih ⊢; lia
   | none =>
    rw [e1] at hs ih;have h0:h.q0.isSome=true:=by simpa using hs
    rw [h0] at ih;simp at ih ⊢;lia
  ·have b:(if h.q1.isSome then 0 else if h.q0.isSome then 1 else 2)<=2:=by split; lia; split <;> lia
   show T+1<=3*w.re.length+_;lia
structure Bd (S1 S:List Pr):Prop where
 re:∀ {ts:List Tl},ts.Nodup->(∀ t∈ts,∃ n,Pth S1 S n t)->ts.length<=20000
 tl:∀ {n:Nat} {t:Tl},Pth S1 S n t->t.1.length<=100/\t.2.1.length<=100
theorem FitS.bd (h:FitS S1 S):Bd S1 S:=by
 obtain ⟨_,⟨fr,fi⟩,M,D,A,h1,h2,h3,h4,h5⟩:=h;have ne:∀ p∈S,p.2≠[]:=fun p hp=>(fi.2 p hp).1;exists fun nd hp=>J8 (Zml fr ne h1 h2 h3 nd hp) h5,fun hp=>?_;have f:=Zfu fr ne h1 h2 h3 hp;have:=f.s;have:=f.d;lia
def Hd.few {T:Nat} {h:Hq} (bd:Bd S1 S) (hd:Hd S1 S T h):h.re.length<=20000:=bd.re hd.nd fun t ht=>let ⟨n,_,p,_⟩:=hd.b t ht; ⟨n,p⟩
def Mid.few {T:Nat} {h:Hq} {ps:List Cpl} {w:Wks} (bd:Bd S1 S) (m:Mid S1 S T h ps w):w.re.length<=20000:=bd.re m.nd fun t ht=>let ⟨n,_,p,_⟩:=m.b t ht; ⟨n,p⟩
theorem RunC.T_le (fs:FitS S1 S) {T:Nat} {h:Hq} (r:RunC S1 S T h):T<=60002:=by
 have ne:∀ p∈S,p.2≠[]:=fun p hp=>(fs.2.1.2.2 p hp).1;have a:=Zp9 fs.1.1 fs.2.1.1 ne r;have b:=(r.hd fs.1.1 fs.2.1.1 ne).few fs.bd;have:Phi h<=3*h.re.length+2:=by unfold Phi; split; lia; split <;> lia
 lia
theorem Jav (bd:Bd S1 S) {T:Nat} (hT:T<=60002) {c:Cpl} {V:List Pr} (ok:CpOk S1 S T c U V):Sml c:=by
 have t:=bd.tl ok.pt;have l:=ok.ln;exists t.1,t.2,?_,?_
 ·rw [ok.su,show (Yj U).length=U.length from Ja _]; lia
 ·rw [ok.sv,show (Yj V).length=V.length from Ja _]; lia
def oneK (a:Nat) (x:Option Nat):List (Key×D):=match x with
 | some c=>[(.inl (a:Int),.cell c)]
 | none=>[]
def Dk2 (kvs:List (Key×D)) (a b:Nat) (x y:Option Nat):Prop:=kvs=oneK a x++oneK b y\/kvs=oneK b y++oneK a x
section
variable {kvs:List (Key×D)} {a b:Nat} {x y:Option Nat}
def Dk2.swap (h:Dk2 kvs a b x y):Dk2 kvs b a y x:=Or.symm h
def Dk2.len (h:Dk2 kvs a b x y):kvs.length<=2/\(0<kvs.length↔(x.isSome || y.isSome)=true):=by
 rcases h with rfl | rfl <;> cases x <;> cases y <;> simp [oneK]
theorem Zdu {a b:Nat} (h:a≠b):((.inl (a:Int):Key)=.inl (b:Int))↔False:=⟨fun z=>h (by injection z with z; lia),False.elim⟩
def Dk2.val (h:Dk2 kvs a b x y) (ne:a≠b):valD kvs (.inl (a:Int))=x.map D.cell:=by
 have e1:=Zdu ne;have e2:=Zdu ne.symm;rcases h with rfl | rfl <;> cases x <;> cases y <;> simp [valD,oneK,e1,e2]
def Dk2.drop (h:Dk2 kvs a b x y) (ne:a≠b) (c:Nat):Dk2 (Nj kvs (.inl (a:Int))) b c y none:=by
 have e1:=Zdu ne;have e2:=Zdu ne.symm
 left
 rcases h with rfl | rfl <;> cases x <;> cases y <;> simp [Nj,oneK,e1,e2]
def Dk2.skip (h:Dk2 kvs a b none y) (c:Nat):Dk2 kvs b c y none:=by
 left
 rcases h with rfl | rfl <;> cases y <;> rfl
def Dk2.put (h:Dk2 kvs a b none y) (ne:a≠b) (c:Nat):Dk2 (putD kvs (.inl (a:Int)) (.cell c)) a b (some c) y:=by
 have e1:=Zdu ne;have e2:=Zdu ne.symm
 right
 rcases h with rfl | rfl <;> cases y <;> simp [putD,oneK,e1,e2]
end
def Zgp {t t':Tl} (h:kyT t=kyT t'):t=t':=by
 unfold kyT at h;injection h with h1 h
 injection h with h2 h
 injection h with h3 h
 injection h with h4 _
 injection h1 with h1
 injection h2 with h2
 injection h3 with h3
 injection h4 with h4
 have e:t.1=t'.1:=by rw [<- Gp t.2.1.length t.1,<- Gp t'.2.1.length t'.1,h1,h2]
 obtain ⟨p,q,r⟩:=t;obtain ⟨p',q',r'⟩:=t';dsimp only at e h3 h4;rw [e,h3,h4]
def reK (re:List Tl):List (List NI×D):=re.map fun t=>(kyT t,.bl true)
def Zqa {t:Tl}:(Tt (reK re) (kyT t)).isSome=decide (t∈re):=by
 unfold Tt reK;rw [Option.isSome_map,B5,List.find?_isSome,Fu]
 constructor
 ·rintro ⟨x,h,e⟩;obtain ⟨t',ht,rfl⟩:=Jo.mp h;rw [<- Zgp (Fq e)];exact ht
 ·intro h;exists _,Jo.mpr ⟨t,h,rfl⟩,F2 rfl
def Zqb {t:Tl} (h:t∉re):Rf (reK re) (kyT t) (.bl true)=reK (re++[t]):=by
 unfold Rf;have:((reK re).any fun x=>decide (x.1=kyT t))=false:=by
  rw [Bool.eq_false_iff];intro z;rw [List.any_eq_true] at z;obtain ⟨x,hx,e⟩:=z;obtain ⟨t',ht,rfl⟩:=Jo.mp hx;rw [Zgp (Fq e)] at ht;exact h ht
 rw [this,F0 Jp];unfold reK;rw [Jf];rfl
theorem StD.ky {d:D} {t:Tl} (h:StD d t):∃ ds,d=.tup ds/\Rh ds=some (kyT t):=by
 cases h with
 | @mk x y z t hx hy hz hu =>
  exists ·,?_;have e:niOf (.bl t.2.2)=some (.b t.2.2):=rfl;simp only [Rh,Zay hx,Zay hy,Zay hz,e];rfl
def QL (k:W.Frag) (M:Mem) (o:Option Nat) (q:Option (List Cpl)):Prop:=match o,q with
 | none,none=>True
 | some c,some cs=>∃ ds,M[c]?=some (.lst ds)/\Paired (CpD k) ds cs
 | _,_=>False
theorem QL.some_of {k:W.Frag} {c:Nat} {q:Option (List Cpl)} (h:QL k M (some c) q):∃ ds,M[c]?=some (.lst ds)/\Paired (CpD k) ds (q.getD [])/\q.isSome=true:=by
 cases q with
 | none=>exact h.elim
 | some cs=>obtain ⟨ds,a,b⟩:=h;exists ds,a,b,rfl
theorem QL.none_of {k:W.Frag} {q:Option (List Cpl)} (h:QL k M none q):q=none:=by
 cases q with
 | none=>rfl
 | some cs=>exact h.elim
def QL.sm {k:W.Frag} {o:Option Nat} {q:Option (List Cpl)} (h:QL k M o q):o.isSome=q.isSome:=by
 cases o <;> cases q <;> first | rfl | exact h.elim
def QL.mono {k:W.Frag} {M':Mem} {o:Option Nat} {q:Option (List Cpl)} (h:QL k M o q) (e:∀ c∈o,∀ x,M[c]?=some x->M'[c]?=some x):QL k M' o q:=by
 cases o <;> cases q
 ·trivial
 ·exact h.elim
 ·exact h.elim
 ·obtain ⟨ds,a,b⟩:=h;exists ds,e _ rfl _ a,b
structure LvM (k:W.Frag) (M0 M:Mem) (T:Nat) (h:Hq) (o0 o1:Option Nat) (kvs:List (Key×D)):Prop where
 pre:M0<+:M
 re:M[M0.length]?=some (reD h.re)
 wt:M[M0.length+1]?=some (.dct kvs)
 dk:Dk2 kvs T (T+1) o0 o1
 q0:QL k M o0 h.q0
 q1:QL k M o1 h.q1
 g0:∀ c∈o0,M0.length+2<=c
 g1:∀ c∈o1,M0.length+2<=c
 ne:∀ c∈o0,c∉o1
structure InM (k:W.Frag) (M0 M:Mem) (T c0:Nat) (ds:List D) (w:Wks) (o1 o2:Option Nat) (kvs:List (Key×D)):Prop where
 pre:M0<+:M
 re:M[M0.length]?=some (reD w.re)
 wt:M[M0.length+1]?=some (.dct kvs)
 cs:M[c0]?=some (.lst ds)
 dk:Dk2 kvs (T+1) (T+2) o1 o2
 q1:QL k M o1 w.q1
 q2:QL k M o2 w.q2
 gc:M0.length+2<=c0
 g1:∀ c∈o1,M0.length+2<=c/\c≠c0
 g2:∀ c∈o2,M0.length+2<=c/\c≠c0
 ne:∀ c∈o1,c∉o2
def InM.up {k:W.Frag} {M0 M':Mem} {T c0:Nat} {w:Wks} {o1 o2:Option Nat} {kvs:List (Key×D)} (h:InM k M0 M T c0 ds w o1 o2 kvs) (p:M<+:M'):InM k M0 M' T c0 ds w o1 o2 kvs :=
 have e:∀ {i:Nat} {x:MO},M[i]?=some x->M'[i]?=some x:=fun {i x} z=>by obtain ⟨t,rfl⟩:=p; rw [Jv (Y5 z)]; exact z
 ⟨h.pre.trans p,e h.re,e h.wt,e h.cs,h.dk,h.q1.mono fun c _ x z=>e z,h.q2.mono fun c _ x z=>e z,h.gc,h.g1,h.g2,h.ne⟩
section
variable {k:W.Frag} {M0 N:Mem} {T c0:Nat} {h:Hq} {w:Wks} {o0 o1 o2:Option Nat} {kvs:List (Key×D)} {K':K3}
def Ym {N:Mem} {i:Nat} {x:MO} {X:Mem} (z:N[i]?=some x):(N++X)[i]?=some x:=by rw [Jv (Y5 z)]; exact z
def Xe {N:Mem} {i:Nat} {x y:MO} (z:N[i]?=some x) (n:j≠i):(N.set j y)[i]?=some x:=by rw [Bi n]; exact z
def Xp {N:Mem} {y:MO} (p:M0<+:N) (h:M0.length<=j):M0<+:N.set j y:=by
 obtain ⟨t,rfl⟩:=p;rw [List.set_append_right _ _ h];exact Js _ _
theorem tn {a:Nat}:a≠a+1:=by lia
theorem Zqh (lv:LvM k M0 M T h o0 o1 kvs)
  (go:∀ (N:Mem) (c0:Nat) (ds0:List D) (kvs':List (Key×D)),InM k M0 N T c0 ds0 ⟨h.re,h.q1,none⟩ o1 none kvs'->Paired (CpD k) ds0 (h.q0.getD [])->K' (.cell c0) N) :
  uDPop2_3 K' (.cell (M0.length+1)) (.int (T:Nat)) (.cell M.length) (M++[.lst []]):=by
 have hw:=Y5 lv.wt;have hr:=Y5 lv.re;have sw:∀ y:MO,(M++[MO.lst []]).set (M0.length+1) y=M.set (M0.length+1) y++[.lst []]:=fun y=>List.set_append_left _ _ hw;refine .mk (M0.length+1) kvs (.inl (T:Int)) rfl (Ym lv.wt) rfl (fun v hv=>?_) (fun hv=>?_)
 ·rw [lv.dk.val tn] at hv;cases o0 with
  | none=>cases hv
  | some c =>
   obtain rfl:D.cell c=v:=F5 hv;obtain ⟨ds0,hc,pd,_⟩:=lv.q0.some_of;have gc:=lv.g0 c rfl;rw [sw];have e:∀ {i:Nat} {x:MO},M[i]?=some x->M0.length+1≠i->(M.set (M0.length+1) (.dct (Nj kvs (.inl (T:Int))))++[MO.lst []])[i]?=some x:=fun z n=>Ym (Xe z n);refine go _ c ds0 (Nj kvs (.inl (T:Int))) ⟨(Xp lv.pre (by lia)).trans (Js _ _),e lv.re (by lia),Ym (by rw [Gh hw]),e hc (by lia),lv.dk.drop tn (T+2),lv.q1.mono fun c1 h1 x z=>e z (by have:=lv.g1 c1 h1; lia),trivial,gc,fun c1 h1=>⟨lv.g1 c1 h1,fun z=>lv.ne c rfl (z ▸ h1)⟩,fun _ z=>(by cases z),fun _ _ z=>(by cases z)⟩ pd
 ·rw [lv.dk.val tn] at hv;cases o0 with
  | some c=>cases hv
  | none =>
   have e0:h.q0=none:=lv.q0.none_of;have hlen:M0.length+1<M.length:=hw;refine go _ M.length [] kvs ⟨lv.pre.trans (Js _ _),Ym lv.re,Ym lv.wt,Gx,lv.dk.skip (T+2),lv.q1.mono fun c1 h1 x z=>Ym z,trivial,by lia,fun c1 h1=>⟨lv.g1 c1 h1,fun z=>?_⟩,fun _ z=>(by cases z),fun _ _ z=>(by cases z)⟩ ?_
   ·subst z;have q:=lv.q1;cases o1 with
    | none=>cases h1
    | some c2 =>
     cases h1;obtain ⟨_,hc,_⟩:=q.some_of;have:=Y5 hc;lia
   ·rw [e0];exact .nil
structure Hole (k:W.Frag) (M0:Mem) (T c0:Nat) (ds:List D) (re:List Tl) (b:Bool) (q1 q2:Option (List Cpl)) (N:Mem) (c:Nat) (es:List D):Prop where
 at_:N[c]?=some (.lst es)
 pre:M0<+:N
 len:es.length<=((if b then q1 else q2).getD []).length
 fin:∀ (add:List D) (cs:List Cpl),Paired (CpD k) add cs->∃ kvs o1 o2,InM k M0 (N.set c (.lst (es++add))) T c0 ds (if b then ⟨re,putQ q1 cs,q2⟩ else ⟨re,q1,putQ q2 cs⟩) o1 o2 kvs
theorem Zcj {A:List D} {B:List Cpl} {A':List D} {B':List Cpl} (h:Paired (CpD k) A B) (h':Paired (CpD k) A' B'):Paired (CpD k) (A++A') (B++B'):=by
 induction h with
 | nil=>exact h'
 | cons a b ih=>exact .cons a ih
theorem Zqg (im:InM k M0 N T c0 ds w o1 o2 kvs) {b:Bool} {s:Nat} (hs:s=if b then T+1 else T+2)
  (go:∀ (N2:Mem) (c:Nat) (es:List D),(∀ i x,N[i]?=some x->M0.length+1≠i->N2[i]?=some x)->Hole k M0 T c0 ds w.re b w.q1 w.q2 N2 c es->K' (.cell c) N2) :
  uDSetD_3 K' (.cell (M0.length+1)) (.int (s:Nat)) (.cell N.length) (N++[.lst []]):=by
 have hw:=Y5 im.wt;have hc0:=Y5 im.cs;have hl:=im.dk.len.1;have big:(2:Nat)<sizeLine:=by decide
 cases b with
 | true =>
  have hs:s=T+1:=hs;subst hs;have n12:T+1≠T+2:=by lia
  refine .mk (M0.length+1) kvs (.inl ((T+1:Nat):Int)) rfl (Ym im.wt) rfl (by lia) (fun v hv=>?_) (fun hv=>?_)
  ·rw [im.dk.val n12] at hv;cases o1 with
   | none=>cases hv
   | some c =>
    obtain rfl:D.cell c=v:=F5 hv;obtain ⟨es,hc,pd,hq⟩:=im.q1.some_of;obtain ⟨g1,g1'⟩:=im.g1 c rfl;have lc:=Y5 hc;refine go _ c es (fun i x z _=>Ym z) ⟨Ym hc,im.pre.trans (Js _ _),G9 (Paired.length pd),fun add cs pa=>⟨kvs,some c,o2,?_⟩⟩;have e:∀ {i:Nat} {x:MO},N[i]?=some x->c≠i->((N++[MO.lst []]).set c (.lst (es++add)))[i]?=some x:=fun z n=>Xe (Ym z) n;exists Xp (im.pre.trans (Js _ _)) (by lia),e im.re (by lia),e im.wt (by lia),e im.cs g1',im.dk,⟨_,by rw [Gh (by rw [Jc]; lia)],Zcj pd pa⟩,im.q2.mono fun c2 h2 x z=>e z fun y=>im.ne c rfl (y ▸ h2),im.gc,im.g1,im.g2,im.ne
  ·rw [im.dk.val n12] at hv;cases o1 with
   | some c=>cases hv
   | none =>
    have e0:w.q1=none:=im.q1.none_of;have sw:(N++[MO.lst []]).set (M0.length+1) (.dct (putD kvs (.inl ((T+1:Nat):Int)) (.cell N.length)))=N.set (M0.length+1) (.dct (putD kvs (.inl ((T+1:Nat):Int)) (.cell N.length)))++[.lst []]:=List.set_append_left _ _ hw;rw [sw];have ll:(N.set (M0.length+1) (.dct (putD kvs (.inl ((T+1:Nat):Int)) (.cell N.length)))).length=N.length:=Bk;refine go _ N.length [] (fun i x z n=>Ym (Xe z n)) ⟨by rw [Go (by rw [ll]; exact Jd _),ll,Nat.sub_self]; rfl,(Xp im.pre (by lia)).trans (Js _ _),Jz _,fun add cs pa=>⟨putD kvs (.inl ((T+1:Nat):Int)) (.cell N.length),some N.length,o2,?_⟩⟩
    have e:∀ {i:Nat} {x:MO},N[i]?=some x->M0.length+1≠i->((N.set (M0.length+1) (.dct (putD kvs (.inl ((T+1:Nat):Int)) (.cell N.length)))++[MO.lst []]).set N.length (.lst ([]++add)))[i]?=some x:=fun z n=>Xe (Ym (Xe z n)) (by have:=Y5 z; lia);exists Xp ((Xp im.pre (by lia)).trans (Js _ _)) (by lia),e im.re (by lia),Xe (Ym (by rw [Gh hw])) (by lia),e im.cs (by have:=im.gc; lia),im.dk.put n12 N.length,⟨_,by rw [Gh (by rw [Jc,ll]; simp)],?_⟩,im.q2.mono fun c2 h2 x z=>e z (by have:=(im.g2 c2 h2).1; lia),im.gc,fun c h=>(by cases h; exact ⟨by lia,by lia⟩),im.g2,fun c h h2=>?_
    ·show Paired (CpD k) ([]++add) (w.q1.getD []++cs);rw [e0];exact pa
    ·cases h;cases o2 with
     | none=>cases h2
     | some c2 =>
      cases h2;obtain ⟨_,hc,_⟩:=im.q2.some_of;have:=Y5 hc;lia
 | false =>
  have hs:s=T+2:=hs;subst hs;have n12:T+2≠T+1:=by lia
  refine .mk (M0.length+1) kvs (.inl ((T+2:Nat):Int)) rfl (Ym im.wt) rfl (by lia) (fun v hv=>?_) (fun hv=>?_)
  ·rw [im.dk.swap.val n12] at hv;cases o2 with
   | none=>cases hv
   | some c =>
    obtain rfl:D.cell c=v:=F5 hv;obtain ⟨es,hc,pd,hq⟩:=im.q2.some_of;obtain ⟨g1,g1'⟩:=im.g2 c rfl;have lc:=Y5 hc;refine go _ c es (fun i x z _=>Ym z) ⟨Ym hc,im.pre.trans (Js _ _),G9 (Paired.length pd),fun add cs pa=>⟨kvs,o1,some c,?_⟩⟩;have e:∀ {i:Nat} {x:MO},N[i]?=some x->c≠i->((N++[MO.lst []]).set c (.lst (es++add)))[i]?=some x:=fun z n=>Xe (Ym z) n;exists Xp (im.pre.trans (Js _ _)) (by lia),e im.re (by lia),e im.wt (by lia),e im.cs g1',im.dk,im.q1.mono fun c2 h2 x z=>e z fun y=>im.ne c2 h2 (y ▸ rfl),⟨_,by rw [Gh (by rw [Jc]; lia)],Zcj pd pa⟩,im.gc,im.g1,im.g2,im.ne
  ·rw [im.dk.swap.val n12] at hv;cases o2 with
   | some c=>cases hv
   | none =>
    have e0:w.q2=none:=im.q2.none_of;have sw:(N++[MO.lst []]).set (M0.length+1) (.dct (putD kvs (.inl ((T+2:Nat):Int)) (.cell N.length)))=N.set (M0.length+1) (.dct (putD kvs (.inl ((T+2:Nat):Int)) (.cell N.length)))++[.lst []]:=List.set_append_left _ _ hw;rw [sw];have ll:(N.set (M0.length+1) (.dct (putD kvs (.inl ((T+2:Nat):Int)) (.cell N.length)))).length=N.length:=Bk;refine go _ N.length [] (fun i x z n=>Ym (Xe z n)) ⟨by rw [Go (by rw [ll]; exact Jd _),ll,Nat.sub_self]; rfl,(Xp im.pre (by lia)).trans (Js _ _),Jz _,fun add cs pa=>⟨putD kvs (.inl ((T+2:Nat):Int)) (.cell N.length),o1,some N.length,?_⟩⟩
    have e:∀ {i:Nat} {x:MO},N[i]?=some x->M0.length+1≠i->((N.set (M0.length+1) (.dct (putD kvs (.inl ((T+2:Nat):Int)) (.cell N.length)))++[MO.lst []]).set N.length (.lst ([]++add)))[i]?=some x:=fun z n=>Xe (Ym (Xe z n)) (by have:=Y5 z; lia);exists Xp ((Xp im.pre (by lia)).trans (Js _ _)) (by lia),e im.re (by lia),Xe (Ym (by rw [Gh hw])) (by lia),e im.cs (by have:=im.gc; lia),(im.dk.swap.put n12 N.length).swap,im.q1.mono fun c2 h2 x z=>e z (by have:=(im.g1 c2 h2).1; lia),⟨_,by rw [Gh (by rw [Jc,ll]; simp)],?_⟩,im.gc,im.g1,fun c h=>(by cases h; exact ⟨by lia,by lia⟩),fun c h h2=>?_
    ·show Paired (CpD k) ([]++add) (w.q2.getD []++cs);rw [e0];exact pa
    ·cases h2;cases o1 with
     | none=>cases h
     | some c2 =>
      cases h;obtain ⟨_,hc,_⟩:=im.q1.some_of;have:=Y5 hc;lia
theorem InM.tk (im:InM k M0 N T c0 ds w o1 o2 kvs) (t:Tl):InM k M0 (N.set M0.length (reD (w.re++[t]))) T c0 ds ⟨w.re++[t],w.q1,w.q2⟩ o1 o2 kvs :=
 have e:∀ {i:Nat} {x:MO},N[i]?=some x->M0.length≠i->(N.set M0.length (reD (w.re++[t])))[i]?=some x:=fun z n=>Xe z n
 ⟨Xp im.pre (Jd _),Gh (Y5 im.re),e im.wt (by lia),e im.cs (by have:=im.gc; lia),im.dk,im.q1.mono fun c h x z=>e z (by have:=(im.g1 c h).1; lia),im.q2.mono fun c h x z=>e z (by have:=(im.g2 c h).1; lia),im.gc,im.g1,im.g2,im.ne⟩
def InM.lv (im:InM k M0 N T c0 ds w o1 o2 kvs):LvM k M0 N (T+1) ⟨w.re,w.q1,w.q2⟩ o1 o2 kvs:=⟨im.pre,im.re,im.wt,im.dk,im.q1,im.q2,fun c h=>(im.g1 c h).1,fun c h=>(im.g2 c h).1,im.ne⟩
theorem Znq {L:List (Option Cpl)}:Paired (CpD k) ((L.filterMap id).map cpD) (L.filterMap id):=by
 generalize L.filterMap id=X
 induction X with
 | nil=>exact .nil
 | cons c X ih=>exact .cons (.tup c) ih
end
end L3
namespace L2
open PySem PySem.W PyProof.Rows HT PySem.Calls
section
def Zfp (K:PySem.W.Frag) (f:List Int->List Int->Bool):List V->Hp->VK->Prop:=fun xs H Q=>∃ (t a b:Addr) (ns ms:List Int),xs=[.ref t]/\SqT K H t [.ref a,.ref b]/\SqL K H a (ns.map V.int)/\SqL K H b (ms.map V.int)/\Q (.ref (if f ns ms then b else a)) H
theorem Zd0 {K:PySem.W.Frag} (hK:X.K=K) (hc:X.calm=true) (hu:X.A.units+200<cLine):Vj X (.builtin "min") (Zfp K fun ns ms=>HT.lexLt ms ns):=by
 intro pq s2 σ H2 xs us Q I2 r h;subst hK;obtain ⟨t,a,b,ns,ms,rfl,hl,h1,h2,q⟩:=h;obtain ⟨u,rfl,ru⟩:=Rc r;cases ru;have hname:(toString "min"++toString ".loop":String)="min.loop":=by decide
 have hlt:∀ (i j:Nat) (h1:i<2) (h2:j<2),LtsV X H2 ([V.ref a,V.ref b][i]) ([V.ref a,V.ref b][j]) (HT.lexLt (nth2 ns ms i) (nth2 ns ms j)):=fun i j hi hj=>by
  intro pq s σ A u v J hu' ru rv
  match i,j,hi,hj with
  | 0,0,_,_=>cases ru; cases rv; exact (Qj J (by lia) h1 h1).2
  | 0,1,_,_=>cases ru; cases rv; exact (Qj J (by lia) h1 h2).2
  | 1,0,_,_=>cases ru; cases rv; exact (Qj J (by lia) h2 h1).2
  | 1,1,_,_=>cases ru; cases rv; exact (Qj J (by lia) h2 h2).2
 refine call_function_tree PySem.F.kind_min PySem.F.plain_min PySem.F.entry_min (PySem.F.args_min1 _) ?_;show wpAny _ X.A.in1 (Builtin.Builtins.bindParams "min" ["key", "default"] 0 ⟨[],[]⟩ >>= _) _ _ s2;refine Fv (wpAny_of_eq (show Builtin.Builtins.bindParams "min" ["key", "default"] 0 ⟨[],[]⟩=pure [none,none] from rfl) ?_);refine Fv (Fw ?_);obtain ⟨its,rv,⟨o,eo,hcl,n,hda⟩,hz⟩:=I2.tuple hl;refine Fv (wpAny_pyIter_tuple (show Heap.IsTuple _ _ its.toArray from ⟨_,eo,hcl,n,hda⟩) ?_);refine Fv (wpAny_newList ?_ (Jz _));rw [hname];have I3:Inv X pq σ H2 { s2 with heap:=(s2.heap.push { cls:=.type "tuple_iterator",data:=.fields #[.ref t,.int 0 0] }).push (lst0 #[] 0) }:=I2.kept (t':=s2.toks) fun b o e=>Fx _ (Fx _ e)
 have hit:FpOk X pq H2 s2.heap.objs.size:=I2.fpOk (Jd _) (I2.hok.fresh (Jd _));have hle:s2.heap.objs.size<=(s2.heap.push { cls:=.type "tuple_iterator",data:=.fields #[.ref t,.int 0 0] }).objs.size:=by rw [Heap.size_push]; exact Bj _
 have hB:=I2.fpOk (H':=H2) hle (I2.hok.fresh hle);have nB:s2.heap.objs.size≠(s2.heap.push { cls:=.type "tuple_iterator",data:=.fields #[.ref t,.int 0 0] }).objs.size:=by rw [Heap.size_push]; exact Gf (Bf _)
 refine Fw ⟨plainId_quiet PySem.F.plain_min_loop _,Ui (A:=X.A) (lt:=fun i j=>HT.lexLt (nth2 ns ms i) (nth2 ns ms j)) (vs:=[.ref a,.ref b]) (p:=t) (I2.ok.hd hc) (by lia) nB hit hB hlt 2 0 none _ 0 rfl (show 0<2 by decide) I3 (.inr ⟨hl,⟨_,Fx _ (Fy _ rfl),rfl,rfl⟩⟩) (Fy _ rfl) rfl fun s' u I' hu'=>?_⟩;have e:Xz (fun i j=>HT.lexLt (nth2 ns ms i) (nth2 ns ms j)) ([V.ref a,V.ref b].length-1)=if (HT.lexLt ms ns)=true then 1 else 0:=rfl;have q:Q (.ref (if (HT.lexLt ms ns)=true then b else a)) H2:=q;cases hb:HT.lexLt ms ns with
 | true =>
  rw [hb] at e q;have:=hu' (by rw [e]; exact (show 1<2 by decide));simp only [e] at this;exists _,H2,I',this,q
 | false =>
  rw [hb] at e q;have:=hu' (by rw [e]; exact (show 0<2 by decide));simp only [e] at this;exists _,H2,I',this,q
theorem Zd1 {K:PySem.W.Frag} (hK:X.K=K) (hc:X.calm=true) (hu:X.A.units+200<cLine):Vj X (.builtin "max") (Zfp K fun ns ms=>HT.lexLt ns ms):=by
 intro pq s2 σ H2 xs us Q I2 r h;subst hK;obtain ⟨t,a,b,ns,ms,rfl,hl,h1,h2,q⟩:=h;obtain ⟨u,rfl,ru⟩:=Rc r;cases ru;have hname:(toString "max"++toString ".loop":String)="max.loop":=by decide
 have hlt:∀ (i j:Nat) (h1:i<2) (h2:j<2),GtsV X H2 ([V.ref a,V.ref b][i]) ([V.ref a,V.ref b][j]) (HT.lexLt (nth2 ns ms j) (nth2 ns ms i)):=fun i j hi hj=>by
  intro pq s σ A u v J hu' ru rv
  match i,j,hi,hj with
  | 0,0,_,_=>cases ru; cases rv; exact Qk J (by lia) h1 h1
  | 0,1,_,_=>cases ru; cases rv; exact Qk J (by lia) h1 h2
  | 1,0,_,_=>cases ru; cases rv; exact Qk J (by lia) h2 h1
  | 1,1,_,_=>cases ru; cases rv; exact Qk J (by lia) h2 h2
 refine call_function_tree PySem.F.kind_max PySem.F.plain_max PySem.F.entry_max (PySem.F.args_max1 _) ?_;show wpAny _ X.A.in1 (Builtin.Builtins.bindParams "max" ["key", "default"] 0 ⟨[],[]⟩ >>= _) _ _ s2;refine Fv (wpAny_of_eq (show Builtin.Builtins.bindParams "max" ["key", "default"] 0 ⟨[],[]⟩=pure [none,none] from rfl) ?_);refine Fv (Fw ?_);obtain ⟨its,rv,⟨o,eo,hcl,n,hda⟩,hz⟩:=I2.tuple hl;refine Fv (wpAny_pyIter_tuple (show Heap.IsTuple _ _ its.toArray from ⟨_,eo,hcl,n,hda⟩) ?_);refine Fv (wpAny_newList ?_ (Jz _));rw [hname];have I3:Inv X pq σ H2 { s2 with heap:=(s2.heap.push { cls:=.type "tuple_iterator",data:=.fields #[.ref t,.int 0 0] }).push (lst0 #[] 0) }:=I2.kept (t':=s2.toks) fun b o e=>Fx _ (Fx _ e)
 have hit:FpOk X pq H2 s2.heap.objs.size:=I2.fpOk (Jd _) (I2.hok.fresh (Jd _));have hle:s2.heap.objs.size<=(s2.heap.push { cls:=.type "tuple_iterator",data:=.fields #[.ref t,.int 0 0] }).objs.size:=by rw [Heap.size_push]; exact Bj _
 have hB:=I2.fpOk (H':=H2) hle (I2.hok.fresh hle);have nB:s2.heap.objs.size≠(s2.heap.push { cls:=.type "tuple_iterator",data:=.fields #[.ref t,.int 0 0] }).objs.size:=by rw [Heap.size_push]; exact Gf (Bf _)
 refine Fw ⟨plainId_quiet PySem.F.plain_max_loop _,Uj (A:=X.A) (lt:=fun i j=>HT.lexLt (nth2 ns ms j) (nth2 ns ms i)) (vs:=[.ref a,.ref b]) (p:=t) (I2.ok.hd hc) (by lia) nB hit hB hlt 2 0 none _ 0 rfl (show 0<2 by decide) I3 (.inr ⟨hl,⟨_,Fx _ (Fy _ rfl),rfl,rfl⟩⟩) (Fy _ rfl) rfl fun s' u I' hu'=>?_⟩;have e:Xz (fun i j=>HT.lexLt (nth2 ns ms j) (nth2 ns ms i)) ([V.ref a,V.ref b].length-1)=if (HT.lexLt ns ms)=true then 1 else 0:=rfl;have q:Q (.ref (if (HT.lexLt ns ms)=true then b else a)) H2:=q;cases hb:HT.lexLt ns ms with
 | true =>
  rw [hb] at e q;have:=hu' (by rw [e]; exact (show 1<2 by decide));simp only [e] at this;exists _,H2,I',this,q
 | false =>
  rw [hb] at e q;have:=hu' (by rw [e]; exact (show 0<2 by decide));simp only [e] at this;exists _,H2,I',this,q
end
end L2
namespace L3
open PySem L2
section
inductive tup2L3 (f:List Int->List Int->Bool) (ds:List D) (M:Mem) (K:K3):Prop
 | mk:∀ (d e:D) (ns ms:List Int),ds=[.tup [d,e]]->Ys M d=some (ns.map .int)->Ys M e=some (ms.map .int)->K (if f ns ms then e else d) M->tup2L3 f ds M K
theorem Ze9 {f:List Int->List Int->Bool}:SimC C Z (Zfp C.k f) (tup2L3 f):=fun I α H M xs ds K Q R r h k=>by
 obtain ⟨d,e,ns,ms,rfl,e1,e2,h⟩:=h;refine Reps.e1 r fun _ r0=>?_;obtain ⟨t,us,rfl,et,_,rt⟩:=W7 R r0 rfl
 revert et
 refine Reps.e2 rt fun _ _ r1 r2 et=>?_;obtain ⟨a,vs,rfl,ea,ra⟩:=W4 R r1 e1;obtain ⟨b,ws,rfl,eb,rb⟩:=W4 R r2 e2;rw [Reps.of_ints _ ra] at ea;rw [Reps.of_ints _ rb] at eb;exists t,a,b,ns,ms,rfl,SqT.of et,ea,eb,?_;cases hf:f ns ms with
 | true=>rw [hf] at h; exact k.now R r2 h
 | false=>rw [hf] at h; exact k.now R r1 h
end
inductive dMerg (Pt:Addr) (pos:Pos) (q:Str) (ds:List D) (M:Mem) (K:K3):Prop
 | mk:∀ (k0:Nat) (S1 S:List Pr),ds=[.code S1,.code S]->(M[k0]?=some (.tab Pt pos q)/\FitS S1 S /\
  (∀ (M':Mem) (re:List Tl),M<+:M'->Wlk S1 S re none->K .non M') /\
  ∀ (M':Mem) (re:List Tl) (c:Cpl) (a b:Nat) (u v:List Int),M<+:M'->M.length<=a->M.length<=b->a≠b->M'[a]?=some (.lst (u.map .int))->M'[b]?=some (.lst (v.map .int))->Wlk S1 S re (some c) ->
   ((u,v)=if HT.lexLt c.2.1.2 c.1.2 then (c.2.1.2,c.1.2) else (c.1.2,c.2.1.2))->K (.tup [.cell a,.cell b]) M')->dMerg Pt pos q ds M K
inductive dWordsD (ds:List D) (M:Mem) (K:K3):Prop
 | mk:∀ (k:Nat) (bs:List Int) (m lg:Int),ds=[.cell k,.lst (bs.map .int),.int m,.int lg]->(M[k]?=some .hand/\(bs.Nodup/\bs≠[]/\bs.length<=24/\0<=m/\m<=6/\1<=lg/\lg<=4)/\∀ ws:List (List Int),WOk ws->(∀ w∈ws,(∀ b∈w,b∈bs)/\(w.length:Int)<=lg)->(ws.length:Int)<=bs.length+m*(bs.length-1)->K (.lst (ws.map wD)) M)->dWordsD ds M K
def LgB (q:Nat) (n:Nat):Prop:=n<=(if q<=2 then 4 else if q=3 then 3 else 2)
theorem Ub {q q':Nat} (h:q<=q'):∀ n,szA q n<=szA q' n
 | 0=>Jd _
 | n+1=>by
  show 1+q*szA q n<=1+q'*szA q' n;exact Nat.add_le_add_left (Br h (Ub h n)) 1
theorem Znr {bs:List Int} (b8:bs.length<=8) (fr1:Free S1) (fi1:Fits S1) (l1:S1.length<=20) (fr:Free S) (fi:Fits S) (h1:∀ p∈S1,(∀ b∈p.2,b∈bs)/\LgB bs.length p.2.length) (h2:∀ p∈S,(∀ b∈p.2,b∈bs)/\LgB bs.length p.2.length):FitS S1 S:=by
 exists ⟨fr1,fi1,l1⟩,⟨fr,fi⟩,?_
 by_cases c2:bs.length<=2
 ·exists 3,4,bs,fun p hp=>?_,fun p hp=>?_,fun p hp x hx=>(h1 p hp).1 x hx,nofun,J8 (Br (Ub c2 7) (Br (Ub c2 3) (Jd 2))) nofun
  ·have:=(h2 p hp).2; unfold LgB at this; rw [if_pos c2] at this; lia
  ·have:=(h1 p hp).2; unfold LgB at this; rw [if_pos c2] at this; lia
 by_cases c3:bs.length=3
 ·refine ⟨2,3,bs,fun p hp=>?_,fun p hp=>?_,fun p hp x hx=>(h1 p hp).1 x hx,nofun,by rw [c3]; decide⟩
  ·have:=(h2 p hp).2; unfold LgB at this; rw [if_neg c2,if_pos c3] at this; lia
  ·have:=(h1 p hp).2; unfold LgB at this; rw [if_neg c2,if_pos c3] at this; lia
 ·exists 1,2,bs,fun p hp=>?_,fun p hp=>?_,fun p hp x hx=>(h1 p hp).1 x hx,nofun,J8 (Br (Ub b8 3) (Br (Ub b8 1) (Jd 2))) nofun
  ·have:=(h2 p hp).2; unfold LgB at this; rw [if_neg c2,if_neg c3] at this; lia
  ·have:=(h1 p hp).2; unfold LgB at this; rw [if_neg c2,if_neg c3] at this; lia
inductive dTwo82 (ds:List D) (M:Mem) (K:K3):Prop
 | mk:∀ (k:Nat),ds=[.cell k]->(M[k]?=some .hand/\∀ (L1 L2:List Pr) (bs:List Int),bs.length<=8->Free L1->Fits L1->L1.length<=10->Free L2->Fits L2->L2.length<=10->(∀ p∈L1,(∀ b∈p.2,b∈bs)/\LgB bs.length p.2.length)->(∀ p∈L2,(∀ b∈p.2,b∈bs)/\LgB bs.length p.2.length) ->
  K (.tup [.lst (L1.map pD),.lst (L2.map pD)]) M)->dTwo82 ds M K
def sgD (U:List Pr):List D:=(Yj U).map .int
theorem Zb9 (fi:Fits L):∀ {X:List Pr},TxIn L X->(Z8 X).length<=4*X.length
 | [],_=>Jz _
 | p::X,h=>by
  have:=Zb9 fi (X:=X) fun x hx=>h x (Jg _ hx);have:=(fi.2 p (h p Jm)).2;rw [Wp,Jc,Jq];lia
theorem Zg0 (fs:Free S) (pm:S.Perm L) (r:List Int):hdW S r=hdW L r:=by
 cases e:hdW L r with
 | some p=>exact Zg2 fs (pm.mem_iff.mpr (Yy e).1) (Yy e).2
 | none=>exact Zg1 fun p hp=>Qy e p (pm.mem_iff.mp hp)
def U5 (fs:Free S) (pm:S.Perm L) (r:List Int):E2 S r=E2 L r:=by
 have go:∀ (n:Nat) (r:List Int),entF S n r=entF L n r:=by
  intro n
  induction n with
  | zero=>intro r; rfl
  | succ n ih =>
   intro r;unfold entF;rw [Zg0 fs pm,show kW S r=kW L r from by unfold kW; rw [Zg0 fs pm],ih]
 exact go _ _
def FitS.perm {L1:List Pr} (h:FitS L1 L) (p1:S1.Perm L1) (p:S.Perm L) (f1:Free S1) (g1:Fits S1) (f:Free S) (g:Fits S):FitS S1 S:=by
 obtain ⟨⟨_,_,l1⟩,_,M,D,A,a,b,c,d,e⟩:=h;exists ⟨f1,g1,by rw [p1.length_eq]; exact l1⟩,⟨f,g⟩,M,D,A,fun x hx=>a x (p.mem_iff.mp hx),fun x hx=>b x (p1.mem_iff.mp hx),fun x hx=>c x (p1.mem_iff.mp hx),d,e
section
variable {tc:TE} {uc:TE3}
inductive uNSetD_3 (K:K3) (d:D) (e:D) (x:D) (M3:Mem):Prop
 | mk:∀ j sh kvs ks,d=.cell j->M3[j]?=some (.dcN sh none kvs)->e=.nst ks->NI.shp ks=sh->kvs.length<sizeLine->(∀ v,Tt kvs ks=some v->K v M3)->(Tt kvs ks=none->K x (M3.set j (.dcN sh none (Rf kvs ks x))))->uNSetD_3 K d e x M3
abbrev Zie (uc:TE3) (ρ:Ev) (K:K3) (d:D):D->Mem->Prop:=fun e M2=>uc ρ M2 (uNSetD_3 K d e)
abbrev Zif (ub:TE3) (uc:TE3) (ρ:Ev) (K:K3):D->Mem->Prop:=fun d M1=>Nn M1 d≠none/\ub ρ M1 (Zie uc ρ K d)
def Zok (ua ub uc:TE3):TE3:=fun ρ M K=>ua ρ M (Zif ub uc ρ K)
def Zl4 (ha:SimE C Z ta ua) (hb:SimE C Z tb ub) (hc:SimE C Z tc uc):SimE C Z (Zj8 C.k ta tb tc) (Zok ua ub uc):=fun I α σ H ρ M K Q R E h k =>
 ha I α σ H ρ M _ _ R E h fun v d I1 α1 H1 M1 s1 p1 R1 r1 h1=>by
  cases hd:Nn M1 d with
  | none=>exact Fs hd h1.1
  | some q =>
   obtain ⟨a,vs,rfl,ea,nk,ra⟩:=Zk4 R1 r1 hd;exists a,rfl,⟨_,_,nk.dn R1.sub ea⟩,hb I1 α1 σ H1 ρ M1 _ _ R1 (E.mono s1 p1) h1.2 fun w e I2 α2 H2 M2 s2 p2 R2 r2 h2=>?_;refine hc I2 α2 σ H2 ρ M2 _ _ R2 (E.mono (s1.trans s2) (p1.trans p2)) h2 fun x' x I3 α3 H3 M3 s3 p3 R3 r3 h3=>?_;obtain ⟨j,sh,kvs,ks,rfl,e1,rfl,es,hl,hy,hn⟩:=h3;obtain ⟨b,eb,ec⟩:=(r1.mono (s2.trans s3) (p2.trans p3)).inv;cases eb;obtain ⟨vs,ea,nk,ra⟩:=(R3.cel j a _ ec e1).1;obtain ⟨b,rfl,n⟩:=(r2.mono s3 p3).inv;exists b,sh,vs,ks,rfl,nk.dn R3.sub (.inl ea),ea,by rw [ra.len]; exact hl,n.same R3.sub,es,fun y l=>?_,fun l=>?_
   ·rcases ra.val ks with ⟨h1,h2⟩ | ⟨x,y',h1,h2,h3⟩
    ·rw [l] at h2; cases h2
    ·rw [l] at h2;cases h2;exact k _ _ I3 α3 H3 M3 (s1.trans (s2.trans s3)) (p1.trans (p2.trans p3)) R3 h3 (hy _ h1)
   ·rcases ra.val ks with ⟨h1,h2⟩ | ⟨x,y',h1,h2,h3⟩
    ·exact k _ _ I3 α3 _ _ (s1.trans (s2.trans s3)) (p1.trans (p2.trans p3)) (R3.put (m:=.dcN sh none (Rf kvs ks x)) ec fun H' e=>⟨_,e,nk.put n es,ra.put ks b r3⟩) r3 (hn h1)
    ·rw [l] at h2; cases h2
end
section
variable {t:TA} {u:TA3}
inductive uPar3_1 (i:Nat) (j:Nat) (k:Nat) (E:Ends3) (ρ:Ev) (ds:List D) (M1:Mem):Prop
 | mk:∀ d e f,ds=[d,e,f]->E.nx (((ρ.set i (some d)).set j (some e)).set k (some f)) M1->uPar3_1 i j k E ρ ds M1
def Zr6 (i j k:Nat) (u:TA3):TS3:=fun E ρ M=>u ρ M (uPar3_1 i j k E ρ)
def Zpp {i k:Nat} (ha:SimA C Z t u):SimS C Z (Zo4 i j k t) (Zr6 i j k u):=fun I α σ H ρ M E D' R RE h F =>
 ha I α σ H ρ M _ _ R RE h fun vs ds I1 α1 H1 M1 s p R1 r h1=>by
  obtain ⟨d,e,f,rfl,h1⟩:=h1;refine Reps.e3 r fun _ _ _ r1 r2 r3=>?_;exists _,_,·,F.nx I1 α1 _ H1 _ M1 s p R1 ((((RE.mono s p).set r1 i).set r2 j).set r3 k) h1
end
def oN:Option Int->NI
 | some z=>.k z
 | none=>.n
theorem Zqo:∀ {a b:Option Int},oN a=oN b->a=b
 | some _,some _,h=>by injection h with h; rw [h]
 | none,none,_=>rfl
theorem Zf9:∀ {a b:List (Option Int)},a.map oN=b.map oN->a=b
 | [],[],_=>rfl
 | x::a,y::b,h=>by
  injection h with h1 h2
  rw [Zqo h1,Zf9 h2]
theorem Zdo:∀ os:List (Option Int),Rh (os.map oD)=some (os.map oN)
 | []=>rfl
 | o::os=>by
  show Rh (oD o::os.map oD)=_;unfold Rh;rw [Zdo os];cases o <;> rfl
def Zlx (os:List (Option Int)):NI.shp (os.map oN)=[7]:=by
 unfold NI.shp;rw [show (os.map oN).all NI.num=true from by rw [List.all_map]; exact Ff.mpr fun o _=>by cases o <;> rfl];rfl
abbrev Szs:=List (List (Option Int)×Nat)
def szK (sz:Szs):List (List NI×D):=sz.map fun q=>(q.1.map oN,.int ((q.2:Nat):Int))
def szG (sz:Szs) (e:List (Option Int)):Option Nat:=(sz.find? fun q=>decide (q.1=e)).map (·.2)
theorem Ph:∀ (sz:Szs) (e:List (Option Int)),Tt (szK sz) (e.map oN)=(szG sz e).map fun n=>D.int ((n:Nat):Int)
 | [],e=>rfl
 | q::sz,e=>by
  have ih:=Ph sz e;unfold Tt szG szK at ih ⊢;rw [Ju,Gq,Gq]
  by_cases h:q.1=e
  ·rw [h,F2 rfl,F2 rfl];rfl
  ·rw [F3 h,F3 fun z=>h (Zf9 z)];exact ih
def Zpg {sz:Szs} {e:List (Option Int)} (h:szG sz e=none) (n:Nat):Rf (szK sz) (e.map oN) (.int ((n:Nat):Int))=szK (sz++[(e,n)]):=by
 have no:((szK sz).any fun x=>decide (x.1=e.map oN))=false:=by
  have h2:=Ph sz e;rw [h] at h2;unfold Tt at h2;have h2:=List.find?_eq_none.mp (Option.map_eq_none_iff.mp h2);exact List.any_eq_false.mpr h2
 unfold Rf;rw [no,F0 Jp];unfold szK;rw [Jf];rfl
theorem Zeu (sz:Szs) (e e':List (Option Int)) (n:Nat):szG (sz++[(e,n)]) e'=(szG sz e').or (if e=e' then some n else none):=by
 unfold szG;rw [List.find?_append];cases h:sz.find? fun q=>decide (q.1=e') with
 | some q=>rfl
 | none =>
  rw [Option.none_or,Gq]
  by_cases z:e=e'
  ·rw [F2 z,F1 z]; rfl
  ·rw [F3 z,F0 z]; rfl
structure FstS (f:List Pr->List (Option Int)) (Ts:List (List Pr)) (i:Nat) (sz:Szs) (o:Option Nat):Prop where
 a:∀ (e:List (Option Int)) (n:Nat),szG sz e=some n->∃ j T,j<i/\Ts[j]?=some T/\f T=e/\T.length=n
 b:∀ (j:Nat) (T:List Pr),j<i->Ts[j]?=some T->∃ n:Nat,szG sz (f T)=some n/\n<=T.length
 c:∀ n:Nat,o=some n->∃ (j k:Nat) (T U:List Pr),j<k/\Ts[j]?=some T/\Ts[k]?=some U/\f T=f U/\n=T.length+U.length
 d:∀ (j k:Nat) (T U:List Pr),j<k->k<i->Ts[j]?=some T->Ts[k]?=some U->f T=f U->∃ n,o=some n/\n<=T.length+U.length
 l:sz.length<=i
def Zra (f:List Pr->List (Option Int)) (Ts:List (List Pr)):FstS f Ts 0 [] none:=⟨fun _ _ h=>(nomatch h),fun _ _ h=>Fs h (Gr _),fun _ h=>(nomatch h),fun _ _ _ _ _ h=>Fs h (Gr _),Jd _⟩
def minO (o:Option Nat) (n:Nat):Option Nat:=match o with | none=>some n | some m=>if n<m then some n else some m
theorem FstS.hit {f:List Pr->List (Option Int)} {Ts:List (List Pr)} {i:Nat} {sz:Szs} {o:Option Nat} (h:FstS f Ts i sz o) (srt:∀ (j k:Nat) (T U:List Pr),j<=k->Ts[j]?=some T->Ts[k]?=some U->T.length<=U.length) {X:List Pr} (hX:Ts[i]?=some X) {n:Nat} (hn:szG sz (f X)=some n):FstS f Ts (i+1) sz (minO o (n+X.length)):=by
 obtain ⟨j0,T0,hj0,e0,f0,l0⟩:=h.a _ _ hn;have mle:∃ m,minO o (n+X.length)=some m/\m<=n+X.length/\(∀ m',o=some m'->m<=m')/\(m=n+X.length\/o=some m):=by
  cases o with
  | none=>exact ⟨_,rfl,Jd _,fun _ z=>(nomatch z),.inl rfl⟩
  | some m' =>
   show ∃ m,(if n+X.length<m' then some (n+X.length) else some m')=some m/\_
   by_cases z:n+X.length<m'
   ·rw [F1 z];exists ·,Jd _,fun m'' y=>by cases y; lia,.inl rfl
   ·rw [F0 z];exists ·,by lia,fun m'' y=>by cases y; exact Jd _,.inr rfl
 obtain ⟨m,em,m1,m2,m3⟩:=mle;exists fun e n' z=>?_,fun j T hj e=>?_,fun n' z=>?_,fun j k T U hjk hk e1 e2 e3=>?_,Nat.le_succ_of_le h.l
 ·obtain ⟨j,T,hj,r⟩:=h.a e n' z;exists j,T,by lia,r
 ·rcases Fi j i with z | z
  ·exact h.b j T z e
  ·have:j=i:=by lia
   subst this;rw [hX] at e;cases e;exact ⟨n,hn,by rw [<- l0]; exact srt j0 j _ _ (by lia) e0 hX⟩
 ·rw [em] at z;cases z;rcases m3 with rfl | m3
  ·exact ⟨j0,i,T0,X,hj0,e0,hX,f0,by rw [l0]⟩
  ·exact h.c m m3
 ·exists m,em,?_;rcases Fi k i with z | z
  ·obtain ⟨n',e4,le⟩:=h.d j k T U hjk z e1 e2 e3;exact J8 (m2 _ e4) le
  ·have:k=i:=by lia
   subst this;rw [hX] at e2;cases e2;obtain ⟨n',e4,le⟩:=h.b j T hjk e1;rw [e3,hn] at e4;cases e4;lia
theorem FstS.miss {f:List Pr->List (Option Int)} {Ts:List (List Pr)} {i:Nat} {sz:Szs} {o:Option Nat} (h:FstS f Ts i sz o) {X:List Pr} (hX:Ts[i]?=some X) (hn:szG sz (f X)=none):FstS f Ts (i+1) (sz++[(f X,X.length)]) o:=by
 refine ⟨fun e n' z=>?_,fun j T hj e=>?_,h.c,fun j k T U hjk hk e1 e2 e3=>?_,by rw [Jc]; exact Nat.succ_le_succ h.l⟩
 ·rw [Zeu] at z;cases y:szG sz e with
  | some m =>
   rw [y] at z;cases z;obtain ⟨j,T,hj,r⟩:=h.a e _ y;exists j,T,by lia,r
  | none =>
   rw [y,Option.none_or] at z
   by_cases w:f X=e
   ·rw [F1 w] at z;cases z;exists i,X,Bf _,hX,w,rfl
   ·rw [F0 w] at z; cases z
 ·rcases Fi j i with z | z
  ·obtain ⟨n,e1,le⟩:=h.b j T z e;exists n,by rw [Zeu,e1]; rfl,le
  ·have:j=i:=by lia
   subst this;rw [hX] at e;cases e;exists _,by rw [Zeu,hn,F1 rfl]; rfl,Jd _
 ·rcases Fi k i with z | z
  ·exact h.d j k T U hjk z e1 e2 e3
  ·have:k=i:=by lia
   subst this;rw [hX] at e2;cases e2;obtain ⟨n,e4,_⟩:=h.b j T hjk e1;rw [e3,hn] at e4;cases e4
def lvS (L:List Pr):Nat->List (List Pr)
 | 0=>[[]]
 | k+1=>(lvS L k).flatMap fun U=>L.map fun p=>U++[p]
def upS (L:List Pr):Nat->List (List Pr)
 | 0=>[[]]
 | k+1=>upS L k++lvS L (k+1)
theorem Wr :∀ {k:Nat} {U:List Pr},U∈lvS L k↔TxIn L U/\U.length=k
 | 0,U=>by
  show U∈[[]]↔_;rw [Jh];exists fun e=>by subst e; exact ⟨fun _ h=>(nomatch h),rfl⟩,fun h=>Gs.mp h.2
 | k+1,U=>by
  show U∈(lvS L k).flatMap _↔_;rw [Bp]
  constructor
  ·rintro ⟨V,hV,h⟩;obtain ⟨p,hp,rfl⟩:=Jo.mp h;obtain ⟨tV,lV⟩:=Wr.mp hV;exact ⟨Tu tV hp,by rw [Jc,lV]; rfl⟩
  ·rintro ⟨tU,lU⟩;have hne:U≠[]:=fun z=>by rw [z] at lU; cases lU
   exists U.dropLast,Wr.mpr ⟨fun x hx=>tU x (List.dropLast_subset U hx),by rw [List.length_dropLast,lU]; rfl⟩,Jo.mpr ⟨U.getLast hne,tU _ (List.getLast_mem hne),List.dropLast_concat_getLast hne⟩
theorem Zky (nd:L.Nodup):∀ k,(lvS L k).Nodup
 | 0=>B1 _ _
 | k+1=>by
  show ((lvS L k).flatMap fun U=>L.map fun p=>U++[p]).Nodup;unfold List.Nodup;rw [List.pairwise_flatMap];exists fun U _=>?_,?_
  ·refine Gm.mpr (nd.imp fun {a b} hn z=>hn ?_);have:=(List.append_cancel_left z:[a]=[b]);injection this
  ·refine (Zky nd k).imp fun {U V} hn x hx y hy z=>?_;obtain ⟨p,_,rfl⟩:=Jo.mp hx;obtain ⟨q,_,rfl⟩:=Jo.mp hy;exact hn (List.append_inj_left' z rfl)
theorem Y7 {b:Nat} (hb:L.length<=b):∀ k,(lvS L k).length<=b ^ k
 | 0=>Jd _
 | k+1=>by
  show ((lvS L k).flatMap fun U=>L.map fun p=>U++[p]).length<=_;rw [Bz];refine J8 (Tv (n:=b) fun U _=>by rw [Ja]; exact hb) ?_;rw [Nat.pow_succ];exact Nat.mul_le_mul_right _ (Y7 hb k)
theorem W6 :∀ {k:Nat} {U:List Pr},U∈upS L k↔TxIn L U/\U.length<=k
 | 0,U=>by
  rw [show U∈upS L 0↔U∈lvS L 0 from Iff.rfl,Wr,Nat.le_zero]
 | k+1,U=>by
  show U∈upS L k++lvS L (k+1)↔_;rw [J9,W6,Wr]
  constructor
  ·rintro (⟨a,b⟩ | ⟨a,b⟩)
   ·exact ⟨a,by lia⟩
   ·exact ⟨a,by lia⟩
  ·rintro ⟨a,b⟩;rcases Fi k U.length with z | z
   ·exact .inr ⟨a,by lia⟩
   ·exact .inl ⟨a,z⟩
theorem Zj5 (nd:L.Nodup):∀ k,(upS L k).Nodup
 | 0=>B1 _ _
 | k+1=>by
  show (upS L k++lvS L (k+1)).Nodup;rw [Bv];exists Zj5 nd k,Zky nd _,fun a ha b hb z=>?_;subst z;have h1:=(W6.mp ha).2;have h2:=(Wr.mp hb).2;lia
theorem Zef (L:List Pr):∀ k,(upS L k).Pairwise fun U V=>U.length<=V.length
 | 0=>B1 _ _
 | k+1=>by
  show (upS L k++lvS L (k+1)).Pairwise _;rw [Fb];exists Zef L k,?_,fun a ha b hb=>?_
  ·refine (List.pairwise_of_forall_mem_list fun a ha b hb=>?_);rw [(Wr.mp ha).2,(Wr.mp hb).2];exact Jd _
  ·have h1:=(W6.mp ha).2;have h2:=(Wr.mp hb).2;lia
theorem Zeg (hb:L.length<=10):∀ k,k<=4->(upS L k).length<=11111
 | 0,_=>by show 1<=11111; decide
 | 1,_=>by show ([[]]++lvS L 1).length<=_; have:=Y7 hb 1; rw [Jc]; simp at this ⊢; lia
 | 2,_=>by show (([[]]++lvS L 1)++lvS L 2).length<=_; have:=Y7 hb 1; have:=Y7 hb 2; simp only [Jc,Jx] at *; lia
 | 3,_=>by show ((([[]]++lvS L 1)++lvS L 2)++lvS L 3).length<=_; have:=Y7 hb 1; have:=Y7 hb 2; have:=Y7 hb 3; simp only [Jc,Jx] at *; lia
 | 4,_=>by show (((([[]]++lvS L 1)++lvS L 2)++lvS L 3)++lvS L 4).length<=_; have:=Y7 hb 1; have:=Y7 hb 2; have:=Y7 hb 3; have:=Y7 hb 4; simp only [Jc,Jx] at *; lia
 | k+5,h=>by lia
def mT (L:List Pr):Nat:=if L.length<4 then 4 else 3
structure FewT (L S:List Pr) (o:Option Nat):Prop where
 a:∀ n,o=some n->∃ X Y,TxIn L X/\TxIn L Y/\X≠Y/\E2 S (Z8 X)=E2 S (Z8 Y)/\n=X.length+Y.length
 b:∀ X Y,TxIn L X->TxIn L Y->X≠Y->E2 S (Z8 X)=E2 S (Z8 Y)->X.length<=mT L->Y.length<=mT L->∃ n,o=some n/\n<=X.length+Y.length
theorem Zrc (nd:L.Nodup) {sz:Szs} {o:Option Nat} (h:FstS (fun U=>E2 S (Z8 U)) (upS L (mT L)) (upS L (mT L)).length sz o):FewT L S o:=by
 have nd2:=Zj5 nd (mT L);exists fun n e=>?_,fun X Y tX tY hn he lX lY=>?_
 ·obtain ⟨j,k,T,U,hjk,e1,e2,e3,e4⟩:=h.c n e;exists T,U,(W6.mp (Gv e1)).1,(W6.mp (Gv e2)).1,fun z=>?_,e3,e4;subst z;have h1:=(Je.mp e1);obtain ⟨l1,g1⟩:=h1;obtain ⟨l2,g2⟩:=(Je.mp e2);have:=(Bo nd2).mp (g1.trans g2.symm);lia
 ·obtain ⟨j,hj,ej⟩:=Ge (W6.mpr ⟨tX,lX⟩);obtain ⟨k,hk,ek⟩:=Ge (W6.mpr ⟨tY,lY⟩);rcases Fa j k with z | z | z
  ·exact h.d j k X Y z hk (Je.mpr ⟨hj,ej⟩) (Je.mpr ⟨hk,ek⟩) he
  ·subst z; exact Fs (ej.symm.trans ek) hn
  ·obtain ⟨n,e,le⟩:=h.d k j Y X z hj (Je.mpr ⟨hk,ek⟩) (Je.mpr ⟨hj,ej⟩) he.symm;exact ⟨n,e,by lia⟩
def fD:Option Nat->D
 | none=>.non
 | some n=>.int ((n:Nat):Int)
inductive dTexts83 (ds:List D) (M:Mem) (K:K3):Prop
 | mk:∀ (L:List Pr),ds=[.lst (L.map pD)]->(L.length<=10/\K (.lst ((upS L (mT L)).map fun U=>.lst (sgD U))) M)->dTexts83 ds M K
inductive dFew83 (ds:List D) (M:Mem) (K:K3):Prop
 | mk:∀ (L1 L2:List Pr),ds=[.lst (L1.map pD),.lst (L2.map pD)]->(((Free L1/\Fits L1/\L1.length<=10)/\(Free L2/\Fits L2))/\∀ M' o,M<+:M'->FewT L1 L2 o->K (fD o) M')->dFew83 ds M K
inductive dDrawn83 (ds:List D) (M:Mem) (K:K3):Prop
 | mk:∀ (k:Nat),ds=[.cell k]->(M[k]?=some .hand/\∀ (L1 L2:List Pr) (bs:List Int),bs.length<=8->Free L1->Fits L1->L1.length<=10->Free L2->Fits L2->L2.length<=10->(∀ p∈L1,(∀ b∈p.2,b∈bs)/\LgB bs.length p.2.length)->(∀ p∈L2,(∀ b∈p.2,b∈bs)/\LgB bs.length p.2.length) ->
  K (.tup [.lst (L1.map pD),.lst (L2.map pD)]) M)->dDrawn83 ds M K
end L3
namespace K83
open PySem L2
def top (i:Nat):Stmt:=PySem.Challenge.pw_skewread_k83_fewest_signs.main.body.getD i (.Pass ⟨0,0,0,0⟩)
abbrev Dg:Stmt:=top 31
def Jbm:FnScope ["_law_hand", "_law_many", "_law_got", "_law_cell", "_law_number"] ["_law_hand", "_law_many"] (Zf Dg):=(by rfl')
abbrev Jbb:Stmt:=top 30
def Jbh:FnScope ["_law_script", "_law_place", "_law_cells", "_law_at", "_law_digits"] ["_law_script", "_law_place"] (Zf Jbb):=(by rfl')
abbrev Jam:Stmt:=top 32
def Jaw:FnScope ["_law_hand", "_law_most", "_law_begin", "_law_step"] ["_law_hand", "_law_most"] (Zf Jam):=(by rfl')
abbrev Jai:Stmt:=top 33
def Jby:FnScope ["_law_hand", "_law_some", "_law_most", "_law_longest", "_law_words_here", "_law_k", "_law_at"] ["_law_hand", "_law_some", "_law_most", "_law_longest"] (Zf Jai):=(by rfl')
abbrev Jas:Stmt:=top 34
def D2:FnScope ["_law_hand", "_law_many", "_law_begin", "_law_step", "_law_signs_here", "_law_at"] ["_law_hand", "_law_many"] (Zf Jas):=(by rfl')
abbrev Jaj:Stmt:=top 35
def Jbr:FnScope ["_law_hand", "_law_words_here", "_law_signs_here", "_law_at", "_law_spun", "_law_pairs"] ["_law_hand", "_law_words_here", "_law_signs_here"] (Zf Jaj):=(by rfl')
abbrev X7:Stmt:=top 25
def D0:FnScope ["one", "other", "shared"] ["one", "other"] (Zf X7):=(by rfl')
abbrev Zap:Stmt:=top 24
def F9:FnScope ["table", "second", "first", "odds"] ["table"] (Zf Zap):=(by rfl')
abbrev X6:Stmt:=top 26
def Jcb:FnScope ["table", "found"] ["table"] (Zf X6):=(by rfl')
abbrev W8:Stmt:=top 27
def Do:FnScope ["words", "found", "word", "size"] ["words"] (Zf W8):=(by rfl')
abbrev Zu:Stmt:=Qs (top 28) 0
def Jat:FnScope ["self", "table"] ["self", "table"] (Zf Zu):=(by rfl')
abbrev V0:Stmt:=Qs (top 28) 4
def Jao:FnScope ["self", "word"] ["self", "word"] (Zf V0):=(by rfl')
abbrev V1:Stmt:=Qs (top 28) 7
def Jab:FnScope ["self", "row"] ["self", "row"] (Zf V1):=(by rfl')
abbrev W9:Stmt:=Qs (top 28) 1
def Dw:FnScope ["self"] ["self"] (Zf W9):=(by rfl')
abbrev Ty:Stmt:=top 6
def Jaq:FnScope ["code", "row", "place", "size", "word"] ["code", "row", "place"] (Zf Ty):=(by rfl')
abbrev Zal:Stmt:=top 8
def D8:FnScope ["code", "row", "told", "place", "word"] ["code", "row"] (Zf Zal):=(by rfl')
abbrev Zam:Stmt:=top 9
def Jal:FnScope ["code", "row"] ["code", "row"] (Zf Zam):=(by rfl')
abbrev Zak:Stmt:=top 12
def Jbk:FnScope ["code", "row", "place"] ["code", "row", "place"] (Zf Zak):=(by rfl')
abbrev X8:Stmt:=top 13
def Jbz:FnScope ["code", "one", "other", "shared", "rows", "place", "word"] ["code", "one", "other"] (Zf X8):=(by rfl')
abbrev Yp:Stmt:=top 14
def D9:FnScope ["code", "one", "other", "unlike", "size", "sides", "ordered"] ["code", "one", "other", "unlike"] (Zf Yp):=(by rfl')
abbrev Vz:Stmt:=top 15
def Jcc:FnScope ["side", "sign", "word"] ["side", "sign", "word"] (Zf Vz):=(by rfl')
abbrev Wn:Stmt:=top 16
def Jbn:FnScope ["one", "other", "couple", "further", "table", "place", "pair", "first", "seconds"] ["one", "other", "couple"] (Zf Wn):=(by rfl')
abbrev Wm:Stmt:=top 17
def Jax:FnScope ["one", "other", "couple", "table", "shorter", "further", "longer"] ["one", "other", "couple"] (Zf Wm):=(by rfl')
abbrev Ux:Stmt:=top 18
def Jbl:FnScope ["couple", "tail", "size"] ["couple"] (Zf Ux):=(by rfl')
abbrev Qf:Stmt:=top 19
def Jbf:FnScope ["code", "state"] ["code", "state"] (Zf Qf):=(by rfl')
abbrev Qe:Stmt:=top 20
def Dn:FnScope ["one", "other", "reached", "waiting", "taken", "couples", "couple", "state", "further", "size"] ["one", "other"] (Zf Qe):=(by rfl')
abbrev Tz:Stmt:=top 22
def Jbs:FnScope ["one", "other", "texts"] ["one", "other"] (Zf Tz):=(by rfl')
abbrev Jay:Stmt:=top 36
def Jau:FnScope ["_law_hand", "_law_some", "_law_longest", "_law_words_here", "_law_others", "_law_way", "_law_at", "_law_signs_here", "_law_first"] ["_law_hand"] (Zf Jay):=(by rfl')
abbrev Di:Stmt:=top 37
def Dl:FnScope ["_law_table_here", "_law_row", "_law_at", "_law_sign", "_law_word"] ["_law_table_here", "_law_row", "_law_at"] (Zf Di):=(by rfl')
abbrev Jbd:Stmt:=top 38
def Dh:FnScope ["_law_table_here", "_law_row", "_law_told", "_law_at", "_law_sign", "_law_size"] ["_law_table_here", "_law_row"] (Zf Jbd):=(by rfl')
abbrev Jag:Stmt:=top 39
def Dj:FnScope ["_law_table_here", "_law_signs_here", "_law_row", "_law_sign", "_law_one", "_law_word"] ["_law_table_here", "_law_signs_here"] (Zf Jag):=(by rfl')
abbrev Jbc:Stmt:=top 40
def D1:FnScope ["_law_one", "_law_some", "_law_last", "_law_k", "_law_longer", "_law_text"] ["_law_one"] (Zf Jbc):=(by rfl')
abbrev Jbq:Stmt:=top 41
def Jbx:FnScope ["_law_one", "_law_other", "_law_sizes", "_law_fewest_here", "_law_text", "_law_entries_here", "_law_together"] ["_law_one", "_law_other"] (Zf Jbq):=(by rfl')
abbrev Jaf:Stmt:=top 42
def Jaz:FnScope ["_law_hand", "_law_begin", "_law_step", "_law_a", "_law_b", "_law_c", "_law_signs_here", "_law_first"] ["_law_hand"] (Zf Jaf):=(by rfl')
abbrev Zl6:Stmt:=top 43
def Dv:FnScope ["_law_script", "_law_place", "_law_one", "_law_other", "_law_found", "_law_fewest_here", "_law_together", "_law_short"] ["_law_script"] (Zf Zl6):=(by rfl')
structure Txt (mg:Str->Option Value):Prop where
 b_len:mg "len"=none
 b_abs:mg "abs"=none
 b_max:mg "max"=none
 b_min:mg "min"=none
 b_isinstance:mg "isinstance"=none
 b_all:mg "all"=none
 b_any:mg "any"=none
 b_range:mg "range"=none
 b_int:mg "int"=none
 b_bool:mg "bool"=none
 b_tuple:mg "tuple"=none
 b_list:mg "list"=none
 b_dict:mg "dict"=none
 b_sorted:mg "sorted"=none
 b_enumerate:mg "enumerate"=none
open L3
def No:Sp3:=fun ds M K=>∃ (L:List Pr) (d:D) (ns:List Int) (a:Nat),ds=[.lst (L.map pD),d,.int a]/\lsOf M d=some (ns.map .int)/\(Fits L/\ns.length<=1000000/\a<=ns.length)/\(∀ p∈L,p.2<+:ns.drop a->K (.tup [.int p.1,.int (p.2.length:Nat)]) M)/\((∀ p∈L,¬ p.2<+:ns.drop a)->K (.tup [.non,.int 1]) M)
def Zk5:Sp3:=fun ds M K=>∃ (L:List Pr) (d:D) (ns:List Int),ds=[.lst (L.map pD),d]/\lsOf M d=some (ns.map .int)/\(Fits L/\ns.length<=1000000)/\∀ R:List En,Told L ns R->K (.cell M.length) (M++[.lst ((osOf R).map oD)])
def Zhe:Sp3:=fun ds M K=>∃ (L:List Pr) (d:D) (ts:List Int) (U:List Pr),ds=[.lst (L.map pD),d]/\lsOf M d=some (ts.map .int)/\(Free L/\Fits L/\ts.length<=100000/\Ztl L U ts ts.length)/\K (.lst ((Z8 U).map .int)) M
section
local macro_rules | `(tactic| symm)=>`(tactic| repeat' first | with_reducible (first | apply Yg | apply s_g | apply Wo | apply Xq | apply Yq | apply s_op | apply Zx | apply Xr | apply s_cb | apply Pp | apply Uf | apply Zao | apply Zfb | apply s_b | apply Zsz | apply Zdj | apply Zl8 | apply Zb5 | apply Zdk | apply Zke | apply Zsv | apply s_sl | apply Zl7 | apply L3.s_not | apply Zp6 | apply s_or | apply Zsx | apply Zp0 | apply L3.s_ir2 | apply Zaj | apply Zff | apply Zsy | apply Zpr | apply s_un | apply s_if | apply Zfi | apply Zfe | apply Zkf | apply L3.s_orV | apply L3.s_notV | apply s_bl | apply Zps | apply L3.s_str | apply L3.s_ty | apply s_ix | apply Zfj | apply Zsp | apply Zsu | apply Zst | apply L3.s_fdiv | apply Zsr | apply s_lt | apply L3.s_le | apply s_gt | apply s_ge | apply s_eq | apply s_ne | apply Zsw | apply Zpy | apply Zl0 | apply L3.s_retN | apply Ro | apply L3.s_never | apply Zp2 | apply Tm | apply Zl2 | apply Zfa | apply Zss | apply Zpw | apply Zpv | apply Zs1) | rfl)
theorem Dt (T:Txt mg) {f:Addr} (F:Fun K "_law_draw" "_law_draw" Dg f fd):FnOk P w K mg base CX0 1 f fd ["_law_hand", "_law_many"] Zbx:=by
 refine F.ok Jbm (fun vs H Q E h=>?_) (fun cdv A outer s H vs Q E hr h=>?_)
 ·obtain ⟨p,a,n,rfl,_⟩:=h;rfl
 ·obtain ⟨p,a,n,rfl,hh,hn0,hn1,k⟩:=h;obtain ⟨d,i,cs,e1,e2,hne,hlen,hd,hi,hc⟩:=hh.ex;have npa:p≠a:=hh.ne;have SC:=Jbm;have fin:∀ (r d' i':Int),0<=r->r<n->0<=d'->0<=i'->Q (.int r) (upd H p (.lst [.int d',.int i',.ref a])):=fun r d' i' h1 h2 h3 h4 =>
   k r _ h1 h2 ⟨d',i',cs,Zg,by rw [Zm npa.symm]; exact e2,hne,hlen,h3,h4,hc⟩ (fun b o e nb=>by rw [Zm nb]; exact e) fun b nb=>by rw [Zm nb]
  refine ⟨_,(Zc (Yw (Z1 Qh (Zs Y8 (pv 0) Zd (fun _ _=>rfl)) Zd (Z2 _))
 (Zc (Zl (i:=2) SC.nd rfl (Or.inl rfl) (Zt Xi (Zs Y8 (pv 0) Zd (fun _ _=>rfl)) (pv 1)))
 (Zc (Zcf (Zt Zf4 (Zs Y8 (pv 0) Zd (fun _ _=>rfl)) (pv 1)) (Zqi (pv 0) Zd Zb1))
 (Ze (Zw (pv 2)))))
 Z4)
 (Zc (Zmq (pv 0) Zd Zfy Zd Na Zb1)
 (Zc (Zl (i:=3) SC.nd rfl (Or.inl rfl) (Zt Xi (Zs Y8 (Zs Y8 (pv 0) Zd (fun _ _=>rfl)) (Zt Xi (Zs Y8 (pv 0) Zd (fun _ _=>rfl)) (Zh X2 (by rfl) T.b_len F6 (Za (Zs Y8 (pv 0) Zd (fun _ _=>rfl)) Zb))) (fun _ _=>rfl)) Zd))
 (Zc (Zl (i:=4) SC.nd rfl (Or.inl rfl) (Zt Xi (Zt W3 (Zt W3 (Zt Vv (pv 3) Zd) (Zt Vv (Zs Y8 (pv 0) Zd (fun _ _=>rfl)) Zd)) Zd) Zd))
 (Zc (Zl (i:=4) SC.nd rfl (Or.inl rfl) (Zt Xi (Zt W3 (Zt Vv (pv 4) (pv 4)) (Zs Y8 (pv 0) Zd (fun _ _=>rfl))) Zd))
 (Zc (Zl (i:=4) SC.nd rfl (Or.inl rfl) (Zt Xi (Zt W3 (Zt Vv (pv 4) Zd) Zd) Zd))
 (Ze (Zw (Zt Xi (Zt Zf4 (Zt Xi (Zt Vv (pv 4) (pv 4)) Zd) Zd) (pv 1)))))))))),?_⟩
  exists ·,p,_,_,·,rfl,SqL.of e1,rfl,_,·,rfl,·,?_;refine ite2 (fun h0=>?_) (fun h0=>?_)
  ·exists ·,p,_,_,·,rfl,SqL.of e1,rfl,·,_,·,rfl,hn0,?_;exists ·,p,_,_,·,rfl,SqL.of e1,rfl,·,_,·,rfl,⟨hn0,hn1⟩,·,p,_,_,0,rfl,rfl,e1,rfl,?_;exists ·,?_;exact fin _ _ _ (G3 _ (by lia)) (G1 _ hn0) (Int.ediv_nonneg hd (by lia)) hi
  ·have e1':(upd H p (.lst [.int d,.int (i+1),.ref a])) p=some (.lst [.int d,.int (i+1),.ref a]):=Zg;have e2':(upd H p (.lst [.int d,.int (i+1),.ref a])) a=some (.lst (cs.map V.int)):=by rw [Zm npa.symm]; exact e2
   obtain ⟨c,hc1,hc2⟩:=Zn0 hne (i+1);have hlp:(0:Int)<(((cs.map V.int).length:Nat):Int):=by
    rw [Ja];have:=Gj.mpr hne;lia
   refine ⟨_,rfl,p,_,1,_,rfl,rfl,SqL.of e1,rfl,_,_,rfl,rfl,p,_,_,1,rfl,rfl,e1,rfl,?_⟩;refine ⟨_,rfl,p,_,_,_,rfl,rfl,SqL.of e1',rfl,_,rfl,p,_,_,_,rfl,rfl,SqL.of e1',rfl,_,rfl,p,_,_,_,rfl,rfl,SqL.of e1',rfl,_,_,rfl,.inl ⟨_,SqL.of e2',rfl⟩,_,_,rfl,rfl,hlp,
    a,_,_,_,rfl,rfl,SqL.of e2',hc2,_,_,rfl,rfl,(by show (0:Int)<_; decide),?_⟩
   exists ·,_,·,rfl,.inr ⟨nofun,nofun⟩,·,p,_,_,·,rfl,SqL.of e1',rfl,_,·,rfl,.inr ⟨nofun,nofun⟩,_,·,rfl,_,·,rfl,_,·,rfl,(by show (0:Int)<_; decide),?_;generalize hx:(c % 2147483647*48271+(i+1)*7368787+11) % 998244353=x;have x0:0<=x:=by rw [<- hx]; exact G3 _ nofun
   have x1:x<998244353:=by rw [<- hx]; exact G1 _ nofun
   exists ·,·,_,·,rfl,.inl ⟨by lia,by lia⟩,·,p,_,_,·,rfl,SqL.of e1',rfl,_,·,rfl,_,·,rfl,(by show (0:Int)<_; decide),?_;generalize hy:(x*x+(i+1)) % 998244353=y;exists ·,_,·,rfl,.inr ⟨nofun,nofun⟩,_,·,rfl,_,·,rfl,(by show (0:Int)<_; decide),?_;generalize hz:(y*40503203+12345) % 2147483647=z;have z0:0<=z:=by rw [<- hz]; exact G3 _ nofun
   have z1:z<2147483647:=by rw [<- hz]; exact G1 _ nofun
   exists ·,·,_,·,rfl,.inl ⟨by lia,by lia⟩,_,·,rfl,(by show (0:Int)<_; decide),_,·,rfl,⟨nofun,nofun⟩,·,_,·,rfl,hn0,?_;exact fin _ _ _ (G3 _ (by lia)) (G1 _ hn0) hd (by show 0<=i+1; lia)
open L3
theorem Db (T:Txt mg) {C:Addr}  {f:Addr} (F:Fun K "_law_open" "_law_open" Jbb f fd):FnOk P w K mg base CX0 1 f fd ["_law_script", "_law_place"] (spOf ⟨C,K⟩ dOpen):=by
 refine L3.Fun.ok3 F Jbh (fun ds M K3 h=>?_) (fun cdv A outer s H E hr=>?_)
 ·obtain ⟨ns,i,rfl,_⟩:=h;rfl
 ·have SC:=Jbh;have hu:=hr.units;have hu1:=Xl hr;refine ⟨_,_,(Zc (Vb (i:=2) SC.nd rfl rfl (T:=["_law_cell"]) (cs:=[]) rfl (CScope.ok (by kernel_rfl)) (Yk (Z0 (X5 (K':=K) rfl) (pv 0) Ya (Z5 Zd))) (fun _ _ _ _=>(Zn (i:=0) (Yz (by kernel_rfl)) rfl (Or.inl rfl) (Or.inr rfl))) (fun _ _ _ _=>Yo) (fun _ _ _ _=>(Zh Zjv (by rfl) T.b_abs PyProof.Rows.boot_abs (Za (pv 0) Zb))) (Xf nofun))
 (Zc (Yw (Z1 (Ua (K':=K) rfl hu) (pv 2) (Yr Zb) (Z2 _))
 (Ze (Zl (i:=2) SC.nd rfl (Or.inl rfl) (Yr (Za Zd Zb))))
 Z4)
 (Zc (Zl (i:=3) SC.nd rfl (Or.inl rfl) (Zt Xi (pv 1) (Zh (Z9 (K:=K) rfl) (by rfl) T.b_len F6 (Za (pv 2) Zb))))
 (Zc (Zl (i:=4) SC.nd rfl (Or.inl rfl) Zd)
 (Zc (Yw (PW.pt (T4 (Z1 Zta (Zs (Z6 (K':=K) rfl) (pv 2) (pv 3) (fun _ _=>rfl)) (Zt Zf3 Zd Zd) (Z2 _)) (V2 (Z1 Tg (pv 1) (Zh (Z9 (K:=K) rfl) (by rfl) T.b_len F6 (Za (pv 2) Zb)) (Z2 _)))))
 (Ze (Zl (i:=4) SC.nd rfl (Or.inl rfl) (Zs (Z6 (K':=K) rfl) (pv 2) (pv 3) (fun _ _=>rfl))))
 Z4)
 (Ze (Zw (Yr (Za (pv 4) (Za (Zt (Ye (K':=K) rfl) Zd (Zt Zj4 Zd (pv 1))) (Za (Zt (Ye (K':=K) rfl) (Z0 (X5 (K':=K) rfl) (pv 2) (Z5 (pv 3)) Ya) (Z0 (X5 (K':=K) rfl) (pv 2) Ya (Z5 (pv 3)))) Zb))))))))))),fun _=>(Zx (by symm) (Zx (by symm) (Zx (by symm) (Zx (by symm) (Zx (by symm) (Uf (Zpx (by symm)))))))),fun ds M Kk hM hD h=>?_⟩
  obtain ⟨ns,i,rfl,h⟩:=h;obtain ⟨⟨hl,i0,i1⟩,k⟩:=h;exists ·,·,ns.map .int,rfl,?_;rw [show (63:Int)=((63:Nat):Int) from rfl,Xg,<- G6];have lm:(ns.take 63).length<=63:=by rw [Jt]; lia
  generalize ns.take 63=ms at lm;have lms:(ms.map D.int).length=ms.length:=Ja _;exists ·,Zk (by show (ms.map D.int).length<=_; lia),fun j ys M'=>M=M'/\ys=((ms.take j).map fun z=>if z<0 then -z else z).map .int,fun _ _ _ _ _=>rfl,⟨rfl,rfl⟩,?_,?_
  ·rintro j x ys _ hj hx ⟨rfl,rfl⟩;obtain ⟨hj',rfl⟩:=Zjd hx;exists ·,·,rfl,?_;rw [Ji hj',Jf,Jf];rfl
  rintro ys _ ⟨rfl,rfl⟩;rw [show ms.take _=ms from by show ms.take (ms.map D.int).length=ms; rw [lms,Jw]];have nn:∀ c∈ms.map fun z:Int=>if z<0 then -z else z,0<=c:=fun c hc=>by
   obtain ⟨z,_,rfl⟩:=Jo.mp hc
   split <;> lia
  have lc:(ms.map fun z:Int=>if z<0 then -z else z).length<=63:=by rw [Ja]; exact lm
  generalize (ms.map fun z:Int=>if z<0 then -z else z)=cs at nn lc;refine R9 (fun ρ M'=>ρ=[some (.frz (ns.map .int)),some (.int i),some (.lst (cs.map .int)),none,none]/\M=M') (fun Kn hKn=>hKn _ _ ⟨rfl,rfl⟩) ?_;rintro _ _ ⟨rfl,rfl⟩;refine R9 (fun ρ M'=>∃ cs:List Int,ρ=[some (.frz (ns.map .int)),some (.int i),some (.lst (cs.map .int)),none,none]/\M=M'/\cs≠[]/\cs.length<=63/\∀ c∈cs,0<=c) (fun Kn hKn=>?_) ?_
  ·exists ·,Jz _,?_;refine Zbe W5 (a:=cs) (b:=[]) rfl rfl ⟨_,rfl,ite2 (fun e=>?_) fun e=>?_⟩
   ·exists Nat.succ_le_succ (Jz _),hKn _ _ ⟨[0],rfl,rfl,by simp,nofun,by simp⟩
   ·exact hKn _ _ ⟨cs,rfl,rfl,by simpa using e,lc,nn⟩
  rintro _ _ ⟨cs,rfl,rfl,ne,lc,nn⟩;have lp:=Gj.mpr ne;have lm2:(cs.map D.int).length=cs.length:=Ja _;obtain ⟨j,ej⟩:∃ j:Nat,i % ((cs.map D.int).length:Int)=(j:Int):=⟨(i % ((cs.map D.int).length:Int)).toNat,by rw [Int.toNat_of_nonneg (G3 _ (by lia))]⟩;have hj:j<cs.length:=by have:=G1 i (b:=((cs.map D.int).length:Int)) (by lia); lia
  exists ·,·,·,_,·,rfl,by lia,?_;rw [ej];have ec:=V7 (f:=D.int) (as:=cs) (i:=(j:Int)) (j:=j) rfl hj;have c0:=nn _ (Jr hj);refine R9 (fun ρ M'=>ρ=[some (.frz (ns.map .int)),some (.int i),some (.lst (cs.map .int)),some (.int j),none]/\M=M') (fun Kn hKn=>hKn _ _ ⟨rfl,rfl⟩) ?_;rintro _ _ ⟨rfl,rfl⟩;refine R9 (fun ρ M'=>ρ=[some (.frz (ns.map .int)),some (.int i),some (.lst (cs.map .int)),some (.int j),some (.int 0)]/\M=M') (fun Kn hKn=>hKn _ _ ⟨rfl,rfl⟩) ?_;rintro _ _ ⟨rfl,rfl⟩;refine R9 (fun ρ M'=>∃ d:Int,ρ=[some (.frz (ns.map .int)),some (.int i),some (.lst (cs.map .int)),some (.int j),some (.int d)]/\M=M'/\0<=d) (fun Kn hKn=>?_) ?_
  ·exists ·,·,_,_,·,rfl,ec,_,·,rfl,⟨nofun,nofun,nofun⟩,_,·,rfl,·,ite2 (fun _=>?_) fun _=>iteF (hKn _ _ ⟨0,rfl,rfl,nofun⟩);exists ·,·,·,_,·,rfl,·,ite2 (fun _=>⟨_,rfl,_,rfl,_,_,_,rfl,rfl,ec,hKn _ _ ⟨_,rfl,rfl,c0⟩⟩) fun _=>hKn _ _ ⟨0,rfl,rfl,nofun⟩
  rintro _ _ ⟨d,rfl,rfl,d0⟩;have ec2:cut (cs.map D.int) (some (j:Int)) none++cut (cs.map D.int) none (some (j:Int))=(cs.drop j++cs.take j).map D.int:=by rw [Xv,Xg,Jf,B8,G6]
  have lc2:(cs.drop j++cs.take j).length=cs.length:=by rw [Jc,Jj,Jt]; lia
  exists ·,·,.inl ⟨nofun,nofun⟩,·,·,·,cs.map .int,rfl,·,·,·,cs.map .int,rfl,_,·,rfl,?_,?_
  ·rw [<- Jc,ec2,Ja,lc2]; exact Zk (by lia)
  ·rw [ec2];exists _,_,·,⟨fun e=>by rw [e] at lc2; exact Fs lc2 (by simp; lia),by lia,d0,by lia,fun c hc=>nn c ((J9.mp hc).elim Fd G0)⟩,.inl k
theorem Jbv (T:Txt mg) (Zi:Cal P w K mg base "_law_draw" 1 ["_law_hand", "_law_many"] Zbx) {f:Addr} (F:Fun K "_law_bytes" "_law_bytes" Jam f fd):FnOk P w K mg base CX0 2 f fd ["_law_hand", "_law_most"] Zbz:=by
 refine F.ok Jaw (fun vs H Q E h=>?_) (fun cdv A outer s H vs Q E hr h=>?_)
 ·obtain ⟨p,a,m,rfl,_⟩:=h;rfl
 ·obtain ⟨p,a,m,rfl,hh,hm1,hm2,k⟩:=h;have SC:=Jaw;have Zj:Room 1 _:=hr.mono nofun;refine ⟨_,(Zc (Zl (i:=2) SC.nd rfl (Or.inr rfl) (Zo Zi Zj rfl (Za (pv 0) (Za Zd Zb))))
 (Zc (Zl (i:=3) SC.nd rfl (Or.inr rfl) (Zt W3 Zd (Zo Zi Zj rfl (Za (pv 0) (Za Zd Zb)))))
 (Ze (Zw (Y6 (T:=["_law_k"]) (cs:=[2,3]) rfl (CScope.ok (by kernel_rfl)) (Y2 rfl T.b_range (Za (Zt W3 Zd (Zo Zi Zj rfl (Za (pv 0) (Za (Zt Zku (pv 1) Zd) Zb)))) Zb)) (fun _ _ _ _=>(Zn (i:=0) (Yz (by kernel_rfl)) rfl (Or.inl rfl) (Or.inr rfl))) (fun _ _ _ _=>Yo) (fun _ _ _ _=>(Zt Xi (Zt W3 (pv 1) (Zt Vv (pv 2) (pv 0))) Zd)) (Xf nofun)))))),?_⟩
  refine ⟨_,rfl,p,a,_,rfl,hh,nofun,nofun,fun b0 H1 b00 b01 h1 g1 u1=>?_⟩;refine ⟨_,rfl,p,a,_,rfl,h1,nofun,nofun,fun s0 H2 s00 s01 h2 g2 u2=>⟨_,_,rfl,rfl,?_⟩⟩;refine ⟨_,rfl,_,rfl,_,_,rfl,rfl,p,a,_,rfl,h2,by lia,by lia,fun n0 H3 n00 n01 h3 g3 u3=>⟨_,_,rfl,rfl,(2+n0),rfl,by lia,by lia,U2 (n:=(2+n0).toNat)
   (fun j ys H'=>H'=H3/\ys=((List.range j).map fun k:Nat=>(b0+(1+s0)*(k:Int)) % 256).map V.int) ⟨rfl,rfl⟩ ?_ (Zk (by lia)) ?_ ?_ ?_ ?_⟩⟩
  ·rintro j ys H' ⟨rfl,rfl⟩;rw [Ja,Ja,Bw];exact Jd _
  ·rintro j ys H' hj _;exact hj
  ·rintro ys H' _;exact Jd _
  ·rintro j ys H' hj ⟨rfl,rfl⟩ x H4 ⟨rfl,rfl⟩;exists ·,·,·,_,·,rfl,.inl ⟨by lia,by lia⟩,_,·,rfl,_,·,rfl,(by show (0:Int)<_; decide),rfl,?_;rw [List.range_succ,Jf,Jf,Int.zero_add];rfl
  ·rintro ys H' ⟨rfl,rfl⟩ l hl;obtain ⟨_,_,_,ep,_⟩:=h3.ex;have nl:l≠p:=Ne.symm (Zq ep hl);have g:=(g1.trans g2).trans g3;refine k l _ _ (g.free hl nl) nl Zg (Pj (by lia) (by lia) (by lia)) ?_ ?_ (fun b hb=>?_) (h3.same (Zp hl)) (g.trans (Grow.same (Zp hl)))
   ·rw [Ja,Bw]; lia
   ·rw [Ja,Bw]; lia
   ·obtain ⟨i,_,rfl⟩:=Jo.mp hb;exists G3 _ nofun,G1 _ nofun
open L3
theorem Zhn {bs:List Int} {lg:Int} {n:Nat} (h:∀ w∈ws,(∀ b∈w,b∈bs)/\(w.length:Int)<=lg) (hn:n<ws.length) (hl:(ws[n].length:Int)<lg):∀ w∈ws.take n++(bs.map fun b=>ws[n]++[b])++ws.drop (n+1),(∀ b∈w,b∈bs)/\(w.length:Int)<=lg:=fun w hw=>by
 rcases J9.mp hw with z | z
 ·rcases J9.mp z with z | z
  ·exact h w (G0 z)
  ·obtain ⟨c,hc,rfl⟩:=Jo.mp z;refine ⟨fun b hb=>?_,by rw [Jc,Jx]; lia⟩;rcases J9.mp hb with y | y
   ·exact (h _ (Jr hn)).1 b y
   ·rw [Jh.mp y]; exact hc
 ·exact h w (Fd z)
theorem Df (T:Txt mg) {C:Addr} (Zi:Cal P w K mg base "_law_draw" 1 ["_law_hand", "_law_many"] (spOf ⟨C,K⟩ dDraw)) {f:Addr} (F:Fun K "_law_words" "_law_words" Jai f fd):FnOk P w K mg base CX0 2 f fd ["_law_hand", "_law_some", "_law_most", "_law_longest"] (spOf ⟨C,K⟩ dWordsD):=by
 refine L3.Fun.ok3 F Jby (fun ds M K3 h=>?_) (fun cdv A outer s H E hr=>?_)
 ·obtain ⟨k0,bs,m,lg,rfl,_⟩:=h;rfl
 ·have SC:=Jby
  have hu:=hr.units;have hu1:=Xl hr;have Zj:Room 1 _:=hr.mono nofun;refine ⟨_,_,(Zc (Zl (i:=4) SC.nd rfl (Or.inr rfl) (Y6 (T:=["_law_one"]) (cs:=[]) rfl (CScope.ok (by kernel_rfl)) (Yk (pv 1)) (fun _ _ _ _=>(Zn (i:=0) (Yz (by kernel_rfl)) rfl (Or.inl rfl) (Or.inr rfl))) (fun _ _ _ _=>Yo) (fun _ _ _ _=>(Z7 (Za (pv 0) Zb))) (Xf nofun)))
 (Zc (Xs PassesOwn.never rfl (Y2 rfl T.b_range (Za (Zo Zi Zj rfl (Za (pv 0) (Za (Zt (Ye (K':=K) rfl) (pv 2) Zd) Zb))) Zb)) (Zn (i:=5) SC.nd rfl (Or.inl rfl))
 (Zc (Zl (i:=6) SC.nd rfl (Or.inr rfl) (Zt Xi (Zo Zi Zj rfl (Za (pv 0) (Za Zd Zb))) (Zh (Z9 (K:=K) rfl) (by rfl) T.b_len F6 (Za (pv 4) Zb))))
 (Ze (Yw (Z1 Tg (Zh (Z9 (K:=K) rfl) (by rfl) T.b_len F6 (Za (Zs (Z6 (K':=K) rfl) (pv 4) (pv 6) (fun _ _=>rfl)) Zb)) (pv 3) (Z2 _))
 (Ze (Zl (i:=4) SC.nd rfl (Or.inr rfl) (Zt (Ye (K':=K) rfl) (Zt (Ye (K':=K) rfl) (Z0 (X5 (K':=K) rfl) (pv 4) Ya (Z5 (pv 6))) (Y6 (T:=["_law_one"]) (cs:=[4,6]) rfl (CScope.ok (by kernel_rfl)) (Yk (pv 1)) (fun _ _ _ _=>(Zn (i:=0) (Yz (by kernel_rfl)) rfl (Or.inl rfl) (Or.inr rfl))) (fun _ _ _ _=>Yo) (fun _ _ _ _=>(Zt (Ye (K':=K) rfl) (Zs (Z6 (K':=K) rfl) (pv 1) (pv 2) (fun _ _=>rfl)) (Z7 (Za (pv 0) Zb)))) (Xf nofun))) (Z0 (X5 (K':=K) rfl) (pv 4) (Z5 (Zt (Ye (K':=K) rfl) (pv 6) Zd)) Ya))))
 Z4))))
 (Ze (Zw (Y6 (T:=["_law_word"]) (cs:=[0]) rfl (CScope.ok (by kernel_rfl)) (Yk (pv 4)) (fun _ _ _ _=>(Zn (i:=0) (Yz (by kernel_rfl)) rfl (Or.inl rfl) (Or.inr rfl))) (fun _ _ _ _=>(Zft (Z1 Qh (Zo Zi Zj rfl (Za (pv 1) (Za Zd Zb))) Zd (Z2 _)))) (fun _ _ _ _=>(pv 0)) (Xf nofun)))))),fun _=>(by symm),fun ds M Kk hM hD h=>?_⟩
  obtain ⟨k0,bs,m,lg,rfl,h⟩:=h;obtain ⟨hh,⟨nd,ne,lb,m0,m1,g0,g1⟩,k⟩:=h;have hlp:0<bs.length:=Gj.mpr ne;have lm:(bs.map D.int).length=bs.length:=Ja _;exists ·,·,?_,fun j ys M'=>M=M'/\ys=(bs.take j).map fun b=>wD [b],fun _ _ _ _ h=>(by rw [<- h.1]; rfl),⟨rfl,rfl⟩,?_,?_
  ·show (bs.map D.int).length<=sizeLine;rw [lm]; exact Zk (by lia)
  ·rintro j x ys _ hj hx ⟨rfl,rfl⟩;obtain ⟨hj',rfl⟩:=Yc hx;exists ·,(show 1<=sizeLine by decide),rfl,?_;rw [Ji hj',Jf];rfl
  rintro ys _ ⟨rfl,rfl⟩;have e0:(bs.take (bs.map D.int).length).map (fun b=>wD [b])=(bs.map fun b=>[b]).map wD:=by rw [lm,Jw,Gd]; rfl
  rw [show List.map (fun b=>wD [b]) (List.take _ bs)=(bs.map fun b=>[b]).map wD from e0];exists ·,·,k0,m+1,rfl,hh,⟨by lia,by lia⟩,fun n0 n00 n01=>?_;exists n0,rfl,⟨by lia,by lia⟩,fun i ρ M'=>M=M'/\∃ (ws:List (List Int)) (v5 v6:Option D),ρ=[some (.cell k0),some (.lst (bs.map .int)),some (.int m),some (.int lg),some (.lst (ws.map wD)),v5,v6]/\WOk ws/\(∀ w∈ws,(∀ b∈w,b∈bs)/\(w.length:Int)<=lg)/\ws≠[]/\ws.length<=bs.length+i*(bs.length-1),fun _ _ _ _ _=>trivial,⟨rfl,bs.map (fun b=>[b]),_,_,rfl,Zm3 nd,?_,?_,?_⟩,?_,?_
  ·intro w hw;obtain ⟨c,hc,rfl⟩:=Jo.mp hw;exact ⟨fun b hb=>by rw [Jh.mp hb]; exact hc,by simpa using g0⟩
  ·simpa using ne
  ·rw [Ja]; lia
  ·rintro i x ρ M' hi rfl ⟨rfl,ws,v5,v6,rfl,ok,bn,nw,lw⟩;have hi:i<n0.toNat:=hi;have lp:0<ws.length:=Gj.mpr nw;have lw2:ws.length<=200:=by
    have:i*(bs.length-1)<=6*24:=Br (by lia) (by lia);lia
   have lmw:(ws.map wD).length=ws.length:=Ja _;exists ·,k0,60,rfl,hh,⟨nofun,nofun⟩,fun r r0 r1=>?_;exists ·,?_;refine Zcr (xs:=ws.map wD) rfl ?_;exists _,·,rfl,by lia,?_
   try dsimp only
   rw [lmw];obtain ⟨a,ea⟩:=Gz (G3 r (b:=((ws.length:Nat):Int)) (by lia));have ha:a<ws.length:=by have:=G1 r (b:=((ws.length:Nat):Int)) (by lia); lia
   rw [ea];have cA:cut (ws.map wD) none (some (a:Int))=(ws.take a).map wD:=by rw [Xg,G6]
   have cB:cut (ws.map wD) (some ((a:Int)+1)) none=(ws.drop (a+1)).map wD:=by rw [show (a:Int)+1=((a+1:Nat):Int) by lia,Xv,B8]
   have hwa:ws[a]∈ws:=Jr ha;have h4:=ok.2 ws[a] hwa;exists ·,·,_,_,·,rfl,V7 (f:=wD) (as:=ws) (j:=a) rfl ha,?_;exists ·,·,_,·,rfl,·,ite2 (fun hlt=>?_) (fun hlt=>?_)
   ·have hlt:((ws[a].map D.int).length:Int)<lg:=Fq hlt;rw [Ja] at hlt;exists ·,·,·,?_;refine Qc (d:=.lst (ws.map wD)) rfl ?_;rw [cA];exists ·,·,?_,fun j ys M'=>M=M'/\ys=(bs.take j).map fun b=>wD (ws[a]++[b]),fun _ _ _ _ h=>(by rw [<- h.1]; rfl),⟨rfl,rfl⟩,?_,?_
    ·show (bs.map D.int).length<=sizeLine;rw [lm]; exact Zk (by lia)
    ·rintro j x ys _ hj hx ⟨rfl,rfl⟩;obtain ⟨hj',rfl⟩:=Yc hx;exists ·,·,_,_,·,rfl,V7 (f:=wD) (as:=ws) (j:=a) rfl ha,·,(show 1<=sizeLine by decide),⟨(fun z=>h4.1 (List.map_eq_nil_iff.mp z)),(by rw [Ja]; exact Zk (by show ws[a].length+1<=_; lia))⟩,rfl,?_;rw [Ji hj',Jf];unfold wD;rw [Ju,Jf];rfl
    ·rintro ys _ ⟨rfl,rfl⟩;have e1:(bs.take (bs.map D.int).length).map (fun b=>wD (ws[a]++[b]))=(bs.map fun b=>ws[a]++[b]).map wD:=by rw [lm,Jw,Gd]; rfl
     rw [show List.map (fun b=>wD (ws[a]++[b])) (List.take _ bs)=(bs.map fun b=>ws[a]++[b]).map wD from e1];refine Vy (xs:=(ws.take a).map wD) (ys:=(bs.map fun b=>ws[a]++[b]).map wD) rfl rfl (by rw [Ja,Ja,Ja,Jt]; exact Zk (by lia)) ?_;refine ⟨_,rfl,_,rfl,_,rfl,?_⟩;refine Qc (d:=.lst (ws.map wD)) rfl ?_;rw [cB,<- Jf];refine Vy (xs:=(ws.take a++(bs.map fun b=>ws[a]++[b])).map wD) (ys:=(ws.drop (a+1)).map wD) rfl rfl (by rw [Ja,Ja,Jc,Jt,Ja,Jj]; exact Zk (by lia)) ?_;rw [<- Jf];have hsp:ws=ws.take a++ws[a]::ws.drop (a+1):=by
      rw [<- List.drop_eq_getElem_cons ha,Gp]
     have ok2:WOk (ws.take a++(bs.map fun b=>ws[a]++[b])++ws.drop (a+1)):=Zcg nd (hsp ▸ ok) (by lia);refine .inl ⟨rfl,_,_,_,rfl,ok2,Zhn bn ha hlt,?_,?_⟩
     ·intro z;have:=congrArg List.length z;simp only [Jc,Ja,Bl] at this;lia
     ·rw [Jc,Jc,Jt,Jj,Ja,Nat.add_mul,Nat.one_mul];lia
   ·refine .inl ⟨rfl,ws,_,_,rfl,ok,bn,nw,?_⟩;rw [Nat.add_mul];lia
  ·rintro ρ M' ⟨rfl,ws,v5,v6,rfl,ok,bn,nw,lw⟩;have lw:ws.length<=bs.length+n0.toNat*(bs.length-1):=lw;have lw2:ws.length<=200:=by
    have:n0.toNat*(bs.length-1)<=6*24:=Br (by lia) (by lia);lia
   have lmw:(ws.map wD).length=ws.length:=Ja _;exists ·,·,?_,fun j ys M'=>M=M'/\∃ us:List (List Int),ys=us.map wD/\us.Sublist (ws.take j),fun _ _ _ _ h=>(by rw [<- h.1]; rfl),⟨rfl,[],rfl,List.nil_sublist _⟩,?_,?_
   ·show (ws.map wD).length<=sizeLine;rw [lmw]; exact Zk (by lia)
   ·rintro j x ys _ hj hx ⟨rfl,us,rfl,sb⟩;obtain ⟨hj',rfl⟩:=Yc hx;have tk:(ws.take (j+1))=ws.take j++[ws[j]]:=Ji hj';exists ·,k0,5,rfl,hh,⟨nofun,nofun⟩,fun r r0 r1=>⟨_,_,rfl,rfl,_,rfl,ite2 (fun _=>?_) (fun _=>?_)⟩
    ·exact ⟨_,rfl,rfl,us++[ws[j]],by rw [Jf]; rfl,by rw [tk]; exact sb.append (List.Sublist.refl _)⟩
    ·exact ⟨rfl,us,rfl,by rw [tk]; exact sb.trans (List.sublist_append_left _ _)⟩
   ·rintro ys _ ⟨rfl,us,rfl,sb⟩;have sb:us.Sublist ws:=by
     have:us.Sublist (ws.take (ws.map wD).length):=sb;rwa [lmw,Jw] at this
    refine .inl (k us (ok.sub sb) (fun w hw=>bn w (sb.subset hw)) ?_);have l1:=sb.length_le;have l2:n0.toNat*(bs.length-1)<=m.toNat*(bs.length-1):=Br (by lia) (Jd _);have l3:((m.toNat*(bs.length-1):Nat):Int)=m*(bs.length-1):=by
     rw [Int.natCast_mul];have e1:(m.toNat:Int)=m:=by lia
     have e2:((bs.length-1:Nat):Int)=bs.length-1:=by lia
     rw [e1,e2]
    lia
theorem Jba (T:Txt mg) (Zi:Cal P w K mg base "_law_draw" 1 ["_law_hand", "_law_many"] Zbx) {f:Addr} (F:Fun K "_law_signs" "_law_signs" Jas f fd):FnOk P w K mg base CX0 2 f fd ["_law_hand", "_law_many"] Zex:=by
 refine F.ok D2 (fun vs H Q E h=>?_) (fun cdv A outer s H vs Q E hr h=>?_)
 ·obtain ⟨p,a,m,rfl,_⟩:=h;rfl
 ·obtain ⟨p,a,m,rfl,hh,hm0,hm1,k⟩:=h;have SC:=D2;have Zj:Room 1 _:=hr.mono nofun;refine ⟨_,(Zc (Zl (i:=2) SC.nd rfl (Or.inr rfl) (Zt Vv (Zy Xx (by rfl) T.b_int PyProof.Rows.boot_int (Za (Xu Qh (Zo Zi Zj rfl (Za (pv 0) (Za Zd Zb))) Zd (Z2 _)) Zb)) (Zt W3 (Zt Vv (Zo Zi Zj rfl (Za (pv 0) (Za Zd Zb))) (Zt Zf3 Zd Zd)) (Zo Zi Zj rfl (Za (pv 0) (Za Zd Zb))))))
 (Zc (Zl (i:=3) SC.nd rfl (Or.inr rfl) (Zt W3 Zd (Zs Y8 (Yr (Za Zd (Za (Zo Zi Zj rfl (Za (pv 0) (Za Zd Zb))) (Za (Zo Zi Zj rfl (Za (pv 0) (Za (Zt Zf3 Zd Zd) Zb))) Zb)))) (Zo Zi Zj rfl (Za (pv 0) (Za Zd Zb))) (fun _ _=>rfl))))
 (Zc (Vb (i:=4) SC.nd rfl rfl (T:=["_law_k"]) (cs:=[2,3]) rfl (CScope.ok (by kernel_rfl)) (Y2 rfl T.b_range (Za (pv 1) Zb)) (fun _ _ _ _=>(Zn (i:=0) (Yz (by kernel_rfl)) rfl (Or.inl rfl) (Or.inr rfl))) (fun _ _ _ _=>Yo) (fun _ _ _ _=>(Zt W3 (pv 1) (Zt Vv (pv 2) (pv 0)))) (Xf nofun))
 (Zc (Zl (i:=5) SC.nd rfl (Or.inl rfl) (Zt Xi (Zo Zi Zj rfl (Za (pv 0) (Za Zd Zb))) (Zh (Vf rfl) (by rfl) T.b_max PyProof.Rows.boot_max (Za Zd (Za (pv 1) Zb)))))
 (Zc (Zl (i:=4) SC.nd rfl (Or.inl rfl) (Zt Zkw (Z0 Zag (pv 4) (Z5 (pv 5)) Ya) (Z0 Zag (pv 4) Ya (Z5 (pv 5)))))
 (Zc (Yw (Z1 Zi6 (Zo Zi Zj rfl (Za (pv 0) (Za Zd Zb))) Zd (Z2 _))
 (Ze (Zw (Zkq (pv 4) (Z5 (Zmu Zeh Zd)) (fun _ _=>⟨_,rfl⟩))))
 Z4)
 (Ze (Zw (pv 4))))))))),?_⟩
  exists ·,p,a,·,hh,nofun,nofun,fun r1 H1 r10 r11 h1 g1 u1=>⟨_,_,rfl,rfl,.inr ⟨_,rfl,_,rfl,p,a,_,rfl,h1,nofun,nofun,fun r2 H2 r20 r21 h2 g2 u2=>⟨_,_,rfl,rfl,⟨nofun,nofun,nofun⟩,_,_,rfl,rfl,.inl ⟨by lia,by lia⟩,_,rfl,p,a,_,rfl,h2,nofun,nofun,fun r3 H3 r30 r31 h3 g3 u3=>⟨_,_,rfl,rfl,_,_,rfl,rfl,.inl ?_,?_⟩⟩⟩⟩
  ·split <;> exact ⟨nofun,nofun⟩
  obtain ⟨bg,hbg⟩:∃ bg:Int,bg=(if decide (0<r1)=true then (1:Int) else 0)*(r2*10 ^ Int.toNat 6+r3):=⟨_,rfl⟩;have g30:=(g1.trans g2).trans g3;exists ·,p,a,·,h3,nofun,nofun,fun r4 H4 r40 r41 h4 g4 u4=>⟨_,rfl,_,_,rfl,rfl,⟨nofun,nofun,nofun⟩,p,a,_,rfl,h4,nofun,nofun,fun r5 H5 r50 r51 h5 g5 u5=>⟨by show 3<=sizeLine; decide,fun lq hlq=>?_⟩⟩;have s6:=Zp (o:=.lst [.int 0,.int r4,.int r5]) hlq;obtain ⟨_,ep5⟩:=Qz h5;have nlq:lq≠p:=Ne.symm (Zq ep5 hlq);have elq:(upd H5 lq (.lst [.int 0,.int r4,.int r5])) lq=_:=Zg;have h6:=h5.same s6;have g60:=g30.trans (g4.trans (g5.trans (Grow.same s6)))
  generalize upd H5 lq (.lst [.int 0,.int r4,.int r5])=H6 at s6 elq h6 g60;exists ·,p,a,·,h6,nofun,nofun,fun r6 H7 r60 r61 h7 g7 u7=>?_;have elq7:H7 lq=some (.lst [.int 0,.int r4,.int r5]):=by rw [u7 lq nlq]; exact elq
  obtain ⟨v,hv,ev⟩:=Zjy (xs:=[V.int 0,.int r4,.int r5]) r60 (by simpa using r61);obtain ⟨c,rfl,hc⟩:∃ c:Int,v=.int c/\0<=c:=by
   simp only [Jy,List.mem_nil_iff,or_false] at hv;rcases hv with z | z | z <;> exact ⟨_,z,by lia⟩
  have r51':r5<10000000:=r51;have hc2:c<10000000:=by
   simp only [Jy,List.mem_nil_iff,or_false] at hv;rcases hv with z | z | z <;> injection z with z <;> lia
  exists lq,_,_,·,rfl,SqL.of elq7,ev,_,·,rfl,?_;exists ·,m,rfl,by lia,by lia,U2 (n:=m.toNat) (fun j ys H'=>H'=H7/\ys=((List.range j).map fun k:Nat=>bg+(1+c)*(k:Int)).map V.int) ⟨rfl,rfl⟩ ?_ (Zk (by lia)) ?_ ?_ ?_ ?_
  ·rintro j ys H' ⟨rfl,rfl⟩;rw [Ja,Ja,Bw];exact Jd _
  ·rintro j ys H' hj _;exact hj
  ·rintro ys H' _;exact Jd _
  ·rintro j ys H' hj ⟨rfl,rfl⟩ x H8 ⟨rfl,rfl⟩;exists ·,·,·,_,·,rfl,.inl ⟨by lia,by lia⟩,_,·,rfl,rfl,?_;rw [List.range_succ,Jf,Jf,Int.zero_add,hbg];rfl
  ·rintro ys H' ⟨rfl,rfl⟩ l hl;generalize hss:(List.range m.toNat).map (fun k:Nat=>bg+(1+c)*(k:Int))=ss;have nd:ss.Nodup:=by rw [<- hss]; exact Zev (by lia) _
   have ls:(ss.length:Int)=m:=by rw [<- hss,Ja,Bw]; lia
   have s8:=Zp (o:=.lst (ss.map V.int)) hl;have e8:(upd H' l (.lst (ss.map V.int))) l=_:=Zg;obtain ⟨_,ep7⟩:=Qz h7;have nl:l≠p:=Ne.symm (Zq ep7 hl);have h8:=h7.same s8;have g80:=(g60.trans g7).trans (Grow.same s8);generalize upd H' l (.lst (ss.map V.int))=H8 at s8 e8 h8 g80;exists ·,p,a,·,h8,nofun,nofun,fun r9 H9 r90 r91 h9 g9 u9=>⟨_,rfl,_,_,rfl,_,_,rfl,rfl,?_,?_⟩
   ·show (0:Int)<if m > 1 then m else 1
    split <;> lia
   have e9:H9 l=some (.lst (ss.map V.int)):=by rw [u9 l nl]; exact e8
   have z0:0<=r9 % (if m > 1 then m else 1):=G3 _ (by split <;> lia);have z1:r9 % (if m > 1 then m else 1)<=ss.length:=by
    rw [ls];have:=G1 r9 (show (0:Int)<if m > 1 then m else 1 by split <;> lia)
    by_cases hm:m > 1
    ·rw [F1 hm] at this ⊢; lia
    ·rw [F0 hm] at this ⊢; lia
   obtain ⟨n,en⟩:=Gz z0;have cut1:cutV (ss.map V.int) (some (r9 % (if m > 1 then m else 1))) none=(ss.drop n).map V.int:=by rw [en,Zjq (by lia) (by rw [Ja]; lia),B8]; rfl
   have cut2:cutV (ss.map V.int) none (some (r9 % (if m > 1 then m else 1)))=(ss.take n).map V.int:=by rw [en,Zk6 (by lia) (by rw [Ja]; lia),G6]; rfl
   exists ·,·,·,l,·,SqL.of e9,fun q1 hq1=>?_;rw [cut1];have sA:=Zp (o:=.lst ((ss.drop n).map V.int)) hq1;have eA:(upd H9 q1 (.lst ((ss.drop n).map V.int))) q1=_:=Zg;generalize upd H9 q1 (.lst ((ss.drop n).map V.int))=HA at sA eA;exists ·,·,·,l,·,SqL.of (sA _ _ e9),fun q2 hq2=>?_;rw [cut2];have sB:=sA.trans (Zp (o:=.lst ((ss.take n).map V.int)) hq2);have eB:(upd HA q2 (.lst ((ss.take n).map V.int))) q2=_:=Zg;have eB1:=Zp (o:=.lst ((ss.take n).map V.int)) hq2 _ _ eA;generalize upd HA q2 (.lst ((ss.take n).map V.int))=HB at sB eB eB1;exists q1,q2,_,·,rfl,eB1,eB,?_,fun q3 hq3=>?_
   ·rw [Ja,Ja,Jj,Jt]; exact Zk (by lia)
   rw [<- Jf];have nd2:=Zdg nd n;have ls2:((ss.drop n++ss.take n).length:Int)=m:=by rw [Jc,Jj,Jt]; lia
   generalize ss.drop n++ss.take n=tt at nd2 ls2;have sC:=sB.trans (Zp (o:=.lst (tt.map V.int)) hq3);have eC:(upd HB q3 (.lst (tt.map V.int))) q3=_:=Zg;obtain ⟨_,ep9⟩:=Qz h9;have nq3:q3≠p:=Ne.symm (Zq (sB _ _ ep9) hq3);have n30:H q3=none:=(g80.trans g9).free (sB.free hq3) nq3;have hC:=h9.same sC;have gC:=(g80.trans g9).trans (Grow.same sC);generalize upd HB q3 (.lst (tt.map V.int))=HC at sC eC hC gC;exists ·,p,a,·,hC,nofun,nofun,fun rd HD rd0 rd1 hD gD uD=>⟨rfl,_,rfl,?_⟩;have eD:HD q3=some (.lst (tt.map V.int)):=by rw [uD q3 nq3]; exact eC
   refine ite2 (fun _=>?_) (fun _=>?_)
   ·exists ·,·,·,rfl,q3,·,SqL.of eD,fun q4 hq4=>?_;rw [<- List.map_reverse];have sE:=Zp (o:=.lst (tt.reverse.map V.int)) hq4;obtain ⟨_,epD⟩:=Qz hD;have nq4:q4≠p:=Ne.symm (Zq epD hq4);exact k q4 tt.reverse _ ((gC.trans gD).free hq4 nq4) nq4 Zg ((List.reverse_perm tt).nodup_iff.mpr nd2) (by rw [List.length_reverse]; exact ls2) (hD.same sE) ((gC.trans gD).trans (Grow.same sE))
   ·exists ·,k q3 tt HD n30 nq3 eD nd2 ls2 hD (gC.trans gD)
open L3
theorem De (T:Txt mg) {C:Addr} (Zi:Cal P w K mg base "_law_draw" 1 ["_law_hand", "_law_many"] (spOf ⟨C,K⟩ dDraw)) {f:Addr} (F:Fun K "_law_table" "_law_table" Jaj f fd):FnOk P w K mg base CX0 2 f fd ["_law_hand", "_law_words_here", "_law_signs_here"] (spOf ⟨C,K⟩ dTable):=by
 refine L3.Fun.ok3 F Jbr (fun ds M K3 h=>?_) (fun cdv A outer s H E hr=>?_)
 ·obtain ⟨k0,ws,ss,rfl,_⟩:=h;rfl
 ·have SC:=Jbr;have hu:=hr.units;have hu1:=Xl hr;have Zj:Room 1 _:=hr.mono nofun;refine ⟨_,_,(Zc (Zl (i:=3) SC.nd rfl (Or.inl rfl) (Zt Xi (Zo Zi Zj rfl (Za (pv 0) (Za Zd Zb))) (Zh (Vf rfl) (by rfl) T.b_max PyProof.Rows.boot_max (Za Zd (Za (Zh (Z9 (K:=K) rfl) (by rfl) T.b_len F6 (Za (pv 2) Zb)) Zb)))))
 (Zc (Zl (i:=4) SC.nd rfl (Or.inr rfl) (Zt (Ye (K':=K) rfl) (Z0 (X5 (K':=K) rfl) (pv 2) (Z5 (pv 3)) Ya) (Z0 (X5 (K':=K) rfl) (pv 2) Ya (Z5 (pv 3)))))
 (Zc (Vb (i:=5) SC.nd rfl rfl (T:=["_law_k"]) (cs:=[4,1]) rfl (CScope.ok (by kernel_rfl)) (Y2 rfl T.b_range (Za (Zh (Z9 (K:=K) rfl) (by rfl) T.b_len F6 (Za (pv 1) Zb)) Zb)) (fun _ _ _ _=>(Zn (i:=0) (Yz (by kernel_rfl)) rfl (Or.inl rfl) (Or.inr rfl))) (fun _ _ _ _=>Yo) (fun _ _ _ _=>(Z7 (Za (Zs (Z6 (K':=K) rfl) (pv 1) (pv 0) (fun _ _=>rfl)) (Za (Zs (Z6 (K':=K) rfl) (pv 2) (pv 0) (fun _ _=>rfl)) Zb)))) (Xf nofun))
 (Zc (Yw (Z1 (Ua (K':=K) rfl hu) (Zo Zi Zj rfl (Za (pv 0) (Za Zd Zb))) Zd (Z2 _))
 (Ze (Zw (Zkq (pv 5) (Z5 (Zmu Zeh Zd)) (fun _ _=>⟨_,rfl⟩))))
 Z4)
 (Ze (Zw (pv 5))))))),fun _=>(Zx (by symm) (Zx (by symm) (Zx (by symm) (Zx (Zao (by symm) (Uf (Zsq (Yg 5) (by symm))) Ro) (Uf (Yg 5)))))),fun ds M Kk hM hD h=>?_⟩
  obtain ⟨k0,ws,ss,rfl,h⟩:=h;obtain ⟨hh,⟨ok,lw,nd,l1,l2⟩,k⟩:=h;have lm:(ws.map wD).length=ws.length:=Ja _;have lss:(ss.map D.int).length=ss.length:=Ja _;exists ·,k0,60,rfl,hh,⟨nofun,nofun⟩,fun r r0 r1=>?_;exists ·,?_;refine Zcr (xs:=ss.map .int) rfl ?_;exists _,·,_,·,rfl,?_,?_
  ·rw [lss]
   split <;> lia
  rw [lss];obtain ⟨a,ea⟩:=Gz (G3 r (b:=if ((ss.length:Nat):Int) > 1 then ((ss.length:Nat):Int) else 1) (by split <;> lia))
  try dsimp only
  rw [ea];refine ⟨_,rfl,_,rfl,_,rfl,?_⟩;refine ⟨_,rfl,_,rfl,_,rfl,?_⟩;refine ⟨_,rfl,?_⟩;refine Qc (d:=.lst (ss.map D.int)) (xs:=ss.map .int) rfl ?_;rw [Xv,Xg,<- B8,<- G6];refine Vy (xs:=(ss.drop a).map .int) (ys:=(ss.take a).map .int) rfl rfl (by rw [Ja,Ja,Jj,Jt]; exact Zk (by lia)) ?_;rw [<- Jf];have pm:(ss.drop a++ss.take a).Perm ss:=by
   have:=List.perm_append_comm (l₁:=ss.drop a) (l₂:=ss.take a);rwa [Gp] at this
  generalize ss.drop a++ss.take a=tt at pm;have nt:tt.Nodup:=pm.nodup_iff.mpr nd;have lt:tt.length=ss.length:=pm.length_eq;have lz:(tt.zip ws).length=ws.length:=by rw [List.length_zip]; lia
  have az:∀ j (h1:j<tt.length) (h2:j<ws.length),(tt.zip ws)[j]?=some (tt[j],ws[j]):=fun j h1 h2=>by rw [Jb (by lia),List.getElem_zip]
  have fr:Free (tt.zip ws):=ok.free nt;have sn:(tt.zip ws).map (·.2)=ws:=List.map_snd_zip (l₁:=tt) (l₂:=ws) (by lia);have fi:Fits (tt.zip ws):=⟨by lia,fun p hp=>ok.2 _ (by rw [<- sn]; exact Jo.mpr ⟨p,hp,rfl⟩)⟩;generalize tt.zip ws=L at lz az fr sn fi;exists ·,?_;refine Zcr (xs:=ws.map wD) rfl ?_;exists ·,⟨by lia,by lia⟩,?_,fun i ys M'=>M=M'/\ys=(L.take i).map pD,fun _ _ _ _ _=>trivial,⟨rfl,rfl⟩,?_,?_
  ·exact Zk (by show ((ws.map wD).length:Int).toNat<=_; lia)
  ·rintro i x ys _ hi rfl ⟨rfl,rfl⟩;have hi:i<ws.length:=by
    have:i<((ws.map wD).length:Int).toNat:=hi;lia
   exists ·,·,_,_,·,rfl,V7 (as:=tt) (j:=i) (by lia) (by lia),·,·,_,_,·,rfl,V7 (f:=wD) (as:=ws) (j:=i) (by lia) hi,(show 2<=sizeLine by decide),rfl,?_;have ea:=az i (by lia) hi;rw [Jb (by lia)] at ea;rw [Ji (by lia),Jf,F5 ea];rfl
  ·rintro ys _ ⟨rfl,rfl⟩;have eL:L.take (Zmd 0 ((ws.map wD).length:Int).toNat).n=L:=by
    show L.take ((ws.map wD).length:Int).toNat=L;rw [Ja,Int.toNat_natCast,<- lz,Jw]
   rw [eL];exists ·,k0,2,rfl,hh,⟨nofun,nofun⟩,fun z _ _=>.inl ⟨_,rfl,_,rfl,ite2 (fun _=>?_) (fun _=>?_)⟩
   ·exists ·,·,·,rfl,·,?_;rw [<- List.map_reverse];exact .inl (k L.reverse fr.rev ⟨by rw [List.length_reverse]; exact fi.1,fun p hp=>fi.2 p (List.mem_reverse.mp hp)⟩ (by rw [List.map_reverse,sn]; exact List.reverse_perm _))
   ·exists ·,.inl (k L fr fi (by rw [sn]))
theorem Jbo (T:Txt mg) {f:Addr} (F:Fun K "odds_between" "odds_between" X7 f fd):FnOk P w K mg base CX0 1 f fd ["one", "other"] Zkc:=by
 refine F.ok D0 (fun vs H Q E h=>?_) (fun cdv A outer s H vs Q E hr h=>?_)
 ·obtain ⟨v1,v2,p,q,rfl,_⟩:=h;rfl
 ·obtain ⟨v1,v2,p,q,rfl,⟨t1,w1,rfl,a1,b1⟩,⟨t2,w2,rfl,a2,b2⟩,l1,l2,k⟩:=h;have SC:=D0;have hu:=hr.units;refine ⟨_,(Zc (Yw (Z1 Zi6 (Zs Ul (pv 0) Zd (fun _ _=>rfl)) (Zs Ul (pv 1) Zd (fun _ _=>rfl)) (Z2 _))
 (Ze (Zw Zf0))
 Z4)
 (Zc (Zl (i:=2) SC.nd rfl (Or.inl rfl) (Zh (Sv rfl) (by rfl) T.b_min PyProof.Rows.boot_min (Za (Zh X2 (by rfl) T.b_len F6 (Za (Zs Ul (pv 0) Zd (fun _ _=>rfl)) Zb)) (Za (Zh X2 (by rfl) T.b_len F6 (Za (Zs Ul (pv 1) Zd (fun _ _=>rfl)) Zb)) Zb))))
 (Zc (Yw (Z1 (Zkv hu) (Z0 Zaf (Zs Ul (pv 0) Zd (fun _ _=>rfl)) Ya (Z5 (pv 2))) (Z0 Zaf (Zs Ul (pv 1) Zd (fun _ _=>rfl)) Ya (Z5 (pv 2))) (Z2 _))
 (Ze (Zw Zf0))
 Z4)
 (Ze (Zw Vu))))),?_⟩
  exists ·,t1,_,_,·,rfl,SqT.of a1,rfl,·,t2,_,_,·,rfl,SqT.of a2,rfl,rfl,·,?_;refine ite2 (fun h=>?_) (fun h=>?_)
  ·have e:p.1=q.1:=by simpa using h
   have o:Zf8 p q=.str (Str.ofString "twice"):=F1 e;have kk:=k H (.refl _);rw [o] at kk;exact kk
  ·have e:¬ p.1=q.1:=by simpa using h
   refine ⟨_,rfl,t1,_,_,_,rfl,rfl,SqT.of a1,rfl,_,_,rfl,.inr ⟨_,SqT.of b1,rfl⟩,_,rfl,t2,_,_,_,rfl,rfl,SqT.of a2,rfl,_,_,rfl,.inr ⟨_,SqT.of b2,rfl⟩,_,_,rfl,?_⟩;rw [Ja,Ja,Zm7];refine ⟨_,rfl,t1,_,_,_,rfl,rfl,SqT.of a1,rfl,_,rfl,_,rfl,Zfq b1 (Int.natCast_nonneg _) (by lia) fun u1 H1 s1 e1=>⟨_,rfl,t2,_,_,_,rfl,rfl,SqT.of (s1 _ _ a2),rfl,_,rfl,_,rfl,Zfq (s1 _ _ b2) (Int.natCast_nonneg _) (by lia) fun u2 H2 s2 e2 =>
    ⟨_,_,DV.tup (SqT.of (s2 _ _ e1)) (Uq _),DV.tup (SqT.of e2) (Uq _),(Pn _).shaped nofun,(Pn _).shaped nofun,_,rfl,?_⟩⟩⟩
   rw [Zns,Int.toNat_natCast];have kk:=k H2 (s1.trans s2);unfold Zf8 at kk;rw [F0 e] at kk;refine ite2 (fun h=>?_) (fun h=>?_)
   ·rw [F1 (Fq h)] at kk;exact kk
   ·rw [F0 (fun z=>h (F2 z))] at kk;exact kk
theorem Dp (T:Txt mg) (We:Cal P w K mg base "odds_between" 1 ["one", "other"] Zkc) {f:Addr} (F:Fun K "fault" "fault" Zap f fd):FnOk P w K mg base CX0 2 f fd ["table"] Ue:=by
 refine F.ok F9 (fun vs H Q E h=>?_) (fun cdv A outer s H vs Q E hr h=>?_)
 ·obtain ⟨a,L,rfl,_⟩:=h;rfl
 ·obtain ⟨a,L,rfl,⟨vs,ea,pa⟩,fr,⟨hl,hw⟩,k⟩:=h;have SC:=F9;have Sk:Room 1 _:=hr.mono nofun;have lv:=Paired.length pa;refine ⟨_,(Zc (Xs PassesOwn.never rfl (Y2 rfl T.b_range (Za (Zh X2 (by rfl) T.b_len F6 (Za (pv 0) Zb)) Zb)) (Zn (i:=1) SC.nd rfl (Or.inl rfl))
 (Ze (Xs PassesOwn.never rfl (Y2 rfl T.b_range (Za (pv 1) Zb)) (Zn (i:=2) SC.nd rfl (Or.inl rfl))
 (Zc (Zl (i:=3) SC.nd rfl (Or.inl rfl) (Zo We Sk rfl (Za (Zs Y8 (pv 0) (pv 2) (fun _ _=>rfl)) (Za (Zs Y8 (pv 0) (pv 1) (fun _ _=>rfl)) Zb))))
 (Ze (Yw (X1 (T5 (pv 3)))
 (Ze (Zw (Z7 (Za (pv 3) (Za (pv 2) (Za (pv 1) Zb))))))
 Z4))))))
 (Ze (Zw Vu))),?_⟩
  exists ·,_,·,.inl ⟨_,SqL.of ea,rfl⟩,(vs.length:Int),rfl,by lia,by lia,Sq (n:=vs.length) (fun j σ H'=>∃ v1 v2 v3,σ=[some (.ref a),v1,v2,v3]/\Same H H') ⟨_,_,_,rfl,.refl _⟩ ?_ ?_
  ·rintro j σ H1 hj ⟨v1,v2,v3,rfl,s1⟩;exists ·,(0+(j:Int)),rfl,by lia,by lia,Sq (n:=(0+(j:Int)).toNat) (fun i σ H'=>∃ v2 v3,σ=[some (.ref a),some (.int (0+(j:Int))),v2,v3]/\Same H H') ⟨_,_,rfl,s1⟩ ?_ ?_
   ·rintro i σ H2 hi ⟨v2,v3,rfl,s2⟩;have hij:i<j:=by lia
    have h1:=Paired.at pa (i:=i) (by lia) (by lia);have h2:=Paired.at pa (i:=j) hj (by lia);exists ·,·,a,_,_,·,rfl,SqL.of (s2 _ _ ea),(Zh0 (Jb (by lia:i<vs.length))),·,·,a,_,_,·,rfl,SqL.of (s2 _ _ ea),(Zh0 (Jb hj)),_,_,_,·,h1.tk s2.tk,h2.tk s2.tk,?_,?_,fun H3 s3=>?_
    ·exact J8 (hw _ (Jr _)).2 nofun
    ·exact J8 (hw _ (Jr _)).2 nofun
    ·rw [Zdn (fr.get (by lia) (by lia) hij)];exists ·,·,Zq4 rfl ?_;exists _,·,s2.trans s3
   ·rintro σ H2 ⟨v2,v3,rfl,s2⟩;exists _,_,·,s2
  ·rintro σ H1 ⟨v1,v2,v3,rfl,s1⟩;exact k H1 s1
def Jap (T:Txt mg) (Zbo:Cal P w K mg base "fault" 2 ["table"] Ue) {f:Addr} (F:Fun K "refuse_fault" "refuse_fault" X6 f fd):FnOk P w K mg base CX0 3 f fd ["table"] Ue:=by
 refine F.ok Jcb (fun vs H Q E h=>?_) (fun cdv A outer s H vs Q E hr h=>?_)
 ·obtain ⟨a,L,rfl,_⟩:=h;rfl
 ·obtain ⟨a,L,rfl,ta,fr,fi,k⟩:=h;have SC:=Jcb;have Zjg:Room 2 _:=hr.mono nofun;refine ⟨_,(Zc (Zl (i:=1) SC.nd rfl (Or.inl rfl) (Zo Zbo Zjg rfl (Za (pv 0) Zb)))
 (Zc (Yw (X1 (Tb (pv 1)))
 (Ze Zmm)
 Z4)
 (Zc (Yw (Z1 Zi6 (Zs Ul (pv 1) Zd (fun _ _=>rfl)) Zf0 (Z2 _))
 (Ze Zcd)
 Z4)
 (Ze Zcd)))),?_⟩
  exists ·,a,L,rfl,ta,fr,fi,fun H1 s1=>?_;exists ·,·,iteT (k H1 s1)
theorem D3 (T:Txt mg) {f:Addr} (F:Fun K "beginnings" "beginnings" W8 f fd):FnOk P w K mg base CX0 1 f fd ["words"] Ze0:=by
 refine F.ok Do (fun vs H Q E h=>?_) (fun cdv A outer s H vs Q E hr h=>?_)
 ·obtain ⟨a,vws,ws,rfl,_⟩:=h;rfl
 ·obtain ⟨a,vws,ws,rfl,ea,pa,hl,hw,k⟩:=h;have SC:=Do;have hu1:=Xl hr;have lv:=Paired.length pa;refine ⟨_,(Zc (Zl (i:=1) SC.nd rfl (Or.inl rfl) Zi3)
 (Zc (Xs PassesOwn.never rfl (Yk (pv 0)) (Zn (i:=2) SC.nd rfl (Or.inl rfl))
 (Ze (Xs PassesOwn.never rfl (Y2 rfl T.b_range (Za (Zh X2 (by rfl) T.b_len F6 (Za (pv 2) Zb)) Zb)) (Zn (i:=3) SC.nd rfl (Or.inl rfl))
 (Ze (Zmp hu1 (pv 1) (Z0 Zpk (pv 2) Ya (Z5 (pv 3))) Rg rfl)))))
 (Ze (Zw (pv 1))))),?_⟩
  refine fun d hd=>?_;have nad:a≠d:=Zq ea hd;have ea1:(upd H d (.dT [])) a=some (.lst vws):=by rw [Zm nad]; exact ea
  refine ⟨_,rfl,a,rfl,⟨_,SqL.of ea1⟩,Zjj (xs:=vws) (fun i σ H'=>∃ v2 v3 kvs,σ=[some (.ref a),some (.ref d),v2,v3]/\(∀ b o,H b=some o->H' b=some o)/\H' d=some (.dT kvs)/\kvs.length<=8*i/\U9 kvs (ws.take i) [] 0)
   ⟨_,_,[],rfl,Zp hd,Zg,Jd _,by rw [Fe]; exact U9.nil _⟩ ?_ ?_ ?_⟩
  ·rintro i σ H1 hi ⟨v2,v3,kvs,rfl,s1,ed,hk,hb⟩;exact SqL.of (s1 _ _ ea)
  ·rintro i x σ H1 hx ⟨v2,v3,kvs,rfl,s1,ed,hk,hb⟩;have hi:i<vws.length:=(Je.mp hx).1;have hi2:i<ws.length:=by lia
   obtain ⟨tw,ex,ew⟩:=Paired.at pa hi hi2;have ex2:x=V.ref tw:=by rw [<- ex]; exact (Je.mp hx).2.symm
   subst ex2;have hwl:ws[i].length<=4:=hw _ (Jr hi2);have en:(((ws[i].map V.int).length:Nat):Int).toNat=ws[i].length:=by rw [Ja]; exact Int.toNat_natCast _
   refine ⟨_,rfl,_,_,rfl,.inr ⟨_,SqT.of (s1 _ _ ew),rfl⟩,(((ws[i].map V.int).length:Nat):Int),rfl,by rw [Ja]; lia,by rw [Ja]; lia,
    Sq (n:=(((ws[i].map V.int).length:Nat):Int).toNat) (fun n σ H'=>∃ v3 kvs,σ=[some (.ref a),some (.ref d),some (.ref tw),v3]/\(∀ b o,H b=some o->H' b=some o)/\H' d=some (.dT kvs)/\kvs.length<=8*i+n/\U9 kvs (ws.take i) ws[i] n) ⟨_,kvs,rfl,s1,ed,hk,?_⟩ ?_ ?_⟩
   ·intro u;rw [hb u];refine decide_eq_decide.mpr ⟨fun z=>?_,fun z=>?_⟩
    ·rcases z with z | ⟨_,z⟩
     ·exact .inl z
     ·exact Fs z (Gr _)
    ·rcases z with z | ⟨_,z⟩
     ·exact .inl z
     ·exact Fs z (Gr _)
   ·rintro n σ H2 hn ⟨v3,kvs2,rfl,s2,ed2,hk2,hb2⟩;rw [en] at hn;have hcut:cutV (ws[i].map V.int) none (some (0+(n:Int)))=(wk (ws[i].take n)).map kV:=by
     rw [Zbj _ (by lia) (by lia),Zh9]
     congr 2
     lia
    exists ·,·,·,·,tw,·,SqT.of (s2 _ _ ew),?_,fun p hp=>?_
    ·rintro ⟨_,z⟩;rw [show (some (0+(n:Int)))=some ((n:Nat):Int) by congr 1; lia,HT.sIx_nat,Ja] at z;lia
    ·rw [hcut];have npd:d≠p:=Zq ed2 hp;have hz:kvs2.length<sizeLine:=Bg (J8 hk2 (by lia)) (show 1000<sizeLine by decide);exists d,·,DPut.t (k:=wk (ws[i].take n)) (by rw [Zm npd]; exact ed2) Zg hz,?_;exists _,·,fun b o e=>?_,Zg,?_,hb2.put (Bt hn)
     ·have nb:b≠d:=Zq e hd;rw [Zm nb];exact Zp hp b o (s2 b o e)
     ·have:=Yl kvs2 (wk (ws[i].take n)) (V.bl true);lia
   ·rintro σ H2 ⟨v3,kvs2,rfl,s2,ed2,hk2,hb2⟩;rw [en] at hk2 hb2;exists _,_,kvs2,rfl,s2,ed2,by lia,?_;rw [Ji hi2];exact hb2.next _
  ·rintro σ H1 ⟨v2,v3,kvs,rfl,s1,ed,hk,hb⟩;exists ·,k d kvs H1 s1 hd ed ?_;rw [lv,Jw] at hb;exact hb.done
abbrev lamQ:Str:=Str.ofString "Code.__init__"++".<locals>."++"<lambda>"
abbrev lamP:Pos:=⟨141,45,141,65⟩
structure CodeT (K:W.Frag) (C:Addr):Prop where
 cl:Cls K C
 n_pairs:Vh K C "pairs"
 n_words_by_sign:Vh K C "words_by_sign"
 n_signs_by_word:Vh K C "signs_by_word"
 n_begun:Vh K C "begun"
 n_word_sizes:Vh K C "word_sizes"
structure St5 (C Pt:Addr) (H Hc:Hp) (x dx tp:Addr) (fs:List (Str×V)) (M:List PK3) (D:List (Addr×HO)):Prop where
 g:∀ b o,b≠x->b≠Pt->H b=some o->Hc b=some o
 tb:Wb Pt lamP lamQ Hc
 ex:Hc x=some (.ins C dx fs)
 etp:Hc tp=some (.tup (M.map (·.v)))
 at_:∀ e∈M,e.At Hc
 d:∀ p∈D,Hc p.1=some p.2
 n:∀ p∈D,∀ a b c,p.2≠.ins a b c
abbrev fl1 (t:Addr):List (Str×V):=[("pairs",.ref t)]
abbrev fl2 (t a:Addr):List (Str×V):=[("pairs",.ref t),("words_by_sign",.ref a)]
abbrev fl3 (t a b:Addr):List (Str×V):=[("pairs",.ref t),("words_by_sign",.ref a),("signs_by_word",.ref b)]
abbrev fl4 (t a b c:Addr):List (Str×V):=[("pairs",.ref t),("words_by_sign",.ref a),("signs_by_word",.ref b),("begun",.ref c)]
abbrev fl5 (t a b c d:Addr):List (Str×V):=[("pairs",.ref t),("words_by_sign",.ref a),("signs_by_word",.ref b),("begun",.ref c),("word_sizes",.ref d)]
section
variable {C:Addr} {Hc:Hp} {x tp:Addr} {fs:List (Str×V)} {M:List PK3} {D:List (Addr×HO)}
def St5.same {Hn:Hp} (h:St5 C Pt H Hc x dx tp fs M D) (s:Same Hc Hn):St5 C Pt H Hn x dx tp fs M D :=
 ⟨fun b o n1 n2 e=>s _ _ (h.g b o n1 n2 e),h.tb.same s,s _ _ h.ex,s _ _ h.etp,fun e he=>(h.at_ e he).tk s.tk,fun p hp=>s _ _ (h.d p hp),h.n⟩
def St5.put (h:St5 C Pt H Hc x dx tp fs M D) {q:Addr} {o:HO} (e:Hc q=some o) (n:∀ a b c,o≠.ins a b c):St5 C Pt H Hc x dx tp fs M ((q,o)::D) :=
 ⟨h.g,h.tb,h.ex,h.etp,h.at_,fun _ hp=>(Jy.mp hp).elim (fun z=>by rw [z]; exact e) (h.d _),fun _ hp=>(Jy.mp hp).elim (fun z=>by rw [z]; exact n) (h.n _)⟩
def St5.fld {fs':List (Str×V)} (h:St5 C Pt H Hc x dx tp fs M D):St5 C Pt H (upd Hc x (.ins C dx fs')) x dx tp fs' M D:=by
 have gr:Grow x Hc (upd Hc x (.ins C dx fs')):=fun b o e n=>by rw [Zm n]; exact e
 exists fun b o n1 n2 e=>gr _ _ (h.g b o n1 n2 e) n1,h.tb.grow h.ex gr,Zg,gr _ _ h.etp (V3 h.etp h.ex fun z=>by cases z),fun e he=>(h.at_ e he).tk (gr.tkI h.ex),fun p hp=>gr _ _ (h.d p hp) (V3 (h.d p hp) h.ex (h.n p hp _ _ _)),h.n
theorem St5.new (h:St5 C Pt H Hc x dx tp fs M D) {d:Addr} (hd:Hc d=none):H d=none:=by
 cases e:H d with
 | none=>rfl
 | some o =>
  obtain ⟨ps,eP,_⟩:=h.tb;rw [h.g d o (fun z=>by rw [z,h.ex] at hd; cases hd) (fun z=>by rw [z,eP] at hd; cases hd) e] at hd;cases hd
end
theorem U1 {α γ:Type} {F:α->β->Prop} {f:γ->α} {g:γ->β}:∀ {M:List γ},(∀ e∈M,F (f e) (g e))->Paired F (M.map f) (M.map g)
 | [],_=>.nil
 | e::r,h=>.cons (h e Jm) (U1 fun x hx=>h x (Jg _ hx))
theorem U0 {α γ δ:Type} {F:α->γ->Prop} {G:β->δ->Prop} {f:α->β} {g:γ->δ} (h:∀ a c,F a c->G (f a) (g c)):∀ {l:List α} {m:List γ},Paired F l m->Paired G (l.map f) (m.map g):=by
 intro _ _ hz9;cases hz9 with
 | nil=>
  exact .nil
 | cons a r=>
  exact .cons (h _ _ a) (U0 h r)
theorem Dx (T:Txt mg) {C c:Addr} (CT:CodeT K C) (hCd:W.CodeHd base c Pt) (hBm:Bm mg base) (Wd:Cal P w K mg base "refuse_fault" 3 ["table"] Ue) (Vk:Cal P w K mg base "beginnings" 1 ["words"] Ze0)
  {f:Addr} {oc:Value} {od an:Option Addr} {osl:Array (Option Value)} {kW doc pm ct:Value}
  (lk:K.lookup f=some ⟨oc,od,.func (W.fnOf "__init__" "Code.__init__" (Yv Zu) (Yn Zu) (Zf Zu) .none kW doc pm an (.ref c) ct),osl⟩) (hcd:W.codeIn K (.ref c) "Code.__init__"=true) :
  FnOk P w K mg base CX0 4 f (W.fnOf "__init__" "Code.__init__" (Yv Zu) (Yn Zu) (Zf Zu) .none kW doc pm an (.ref c) ct) ["self", "table"] (Zae C Pt lamP lamQ):=by
 refine Fun.okC lk hcd Jat (fun vs H Q E h=>?_) (fun A outer s H vs Q E hr h=>?_)
 ·obtain ⟨x,a,dx,L,rfl,_⟩:=h;rfl
 ·obtain ⟨x,a,dx,L,rfl,ex,⟨vs,ea,pa⟩,fr,⟨hl,hw⟩,tb,k⟩:=h;have SC:=Jat;have Sj:Room 3 _:=hr.mono nofun;have Qu:Room 1 _:=hr.mono nofun;have Si:Room 3 _:=hr.mono nofun;have Zba:Room 3 _:=hr.mono nofun;have hcode:(cxOf CX0 P w K mg base ["self", "table"] "Code.__init__" (Zf Zu) f (.ref c) A outer s H E).nox.env.code=.ref c:=rfl;refine ⟨_,(Zc (Wq (Zo Wd Sj rfl (Za (pv 1) Zb)))
 (Zc (Pw (pv 0) (Zy Xm (by rfl) T.b_tuple PyProof.Rows.boot_tuple (Za (Zix Si rfl T.b_sorted (Za (pv 1) Zb) hcode hCd hBm rfl rfl (by rfl') (fun _ _ _ _=>rfl) (fun _ _ _ _ _ _=>(Zs (Zhp (K:=K) rfl) (pv 0) Zd (fun _ _=>rfl)))) Zb)) rfl)
 (Zc (Pw (pv 0) (Zy (Vg Zba rfl) (by rfl) T.b_dict PyProof.Rows.boot_dict (Za (Ta (pv 0) rfl) Zb)) rfl)
 (Zc (Pw (pv 0) (Zy (Vg Zba rfl) (by rfl) T.b_dict PyProof.Rows.boot_dict (Za (Y6 (T:=["sign", "word"]) (cs:=[]) rfl (CScope.ok (by kernel_rfl)) (Pz (Ta (pv 0) rfl)) (fun _ _ _ _=>(Xt (n:=2) rfl (Zv (Zn (i:=0) (Yz (by kernel_rfl)) rfl (Or.inl rfl) (Or.inr rfl)) (Zv (Zn (i:=1) (Yz (by kernel_rfl)) rfl (Or.inl rfl) (Or.inr rfl)) Yx)) (by rfl))) (fun _ _ _ _=>Yo) (fun _ _ _ _=>(Z7 (Za (pv 1) (Za (pv 0) Zb)))) (Uo (Yd nofun (Yd nofun Wu)))) Zb)) rfl)
 (Zc (Pw (pv 0) (Zo Vk Qu rfl (Za (Y6 (T:=["sign", "word"]) (cs:=[]) rfl (CScope.ok (by kernel_rfl)) (Pz (Ta (pv 0) rfl)) (fun _ _ _ _=>(Xt (n:=2) rfl (Zv (Zn (i:=0) (Yz (by kernel_rfl)) rfl (Or.inl rfl) (Or.inr rfl)) (Zv (Zn (i:=1) (Yz (by kernel_rfl)) rfl (Or.inl rfl) (Or.inr rfl)) Yx)) (by rfl))) (fun _ _ _ _=>Yo) (fun _ _ _ _=>(pv 1)) (Uo (Yd nofun (Yd nofun Wu)))) Zb)) rfl)
 (Ze (Pw (pv 0) (Zy Xm (by rfl) T.b_tuple PyProof.Rows.boot_tuple (Za (Zh (Zdz rfl) (by rfl) T.b_sorted PyProof.Rows.boot_sorted (Za (Zy (Vg Zba rfl) (by rfl) T.b_dict PyProof.Rows.boot_dict (Za (Y6 (T:=["sign", "word"]) (cs:=[]) rfl (CScope.ok (by kernel_rfl)) (Pz (Ta (pv 0) rfl)) (fun _ _ _ _=>(Xt (n:=2) rfl (Zv (Zn (i:=0) (Yz (by kernel_rfl)) rfl (Or.inl rfl) (Or.inr rfl)) (Zv (Zn (i:=1) (Yz (by kernel_rfl)) rfl (Or.inl rfl) (Or.inr rfl)) Yx)) (by rfl))) (fun _ _ _ _=>Yo) (fun _ _ _ _=>(Z7 (Za (Zh (Z9 (K:=K) rfl) (by rfl) T.b_len F6 (Za (pv 1) Zb)) (Za Rg Zb)))) (Uo (Yd nofun (Yd nofun Wu)))) Zb)) Zb)) Zb)) rfl))))))),?_⟩
  exists ·,a,L,rfl,⟨vs,ea,pa⟩,fr,⟨hl,hw⟩,fun H1 s1=>?_;obtain ⟨M,m1,m2,m3⟩:=Zkn (pa.tk s1.tk);obtain ⟨ps,hP,_,_⟩:=id tb;have hP1:=s1 _ _ hP;have lM:M.length=L.length:=by rw [<- m2,Ja]
  exists ·,a,M.map PK3.k,rfl,?_,?_,?_,?_,tb.same s1,?_,fun H2 D L' sT T2 hD pm pw=>?_
  ·have e1:(M.map PK3.k).map (·.1)=vs:=by rw [Gd,<- m1]; rfl
   rw [e1];exact SqL.of (s1 _ _ ea)
  ·rw [Ja]; lia
  ·intro q hq;obtain ⟨e,he,rfl⟩:=Jo.mp hq;obtain ⟨t,_,_,cw⟩:=m3 e he;exists SqT.of cw,(hw e.p (by rw [<- m2]; exact Jo.mpr ⟨e,he,rfl⟩)).1
  ·have e1:(M.map PK3.k).map (·.2.2)=L.map (·.2):=by rw [Gd,<- m2,Gd]; rfl
   rw [e1];exact Gm.mpr (fr.imp fun {a b} z e=>z.2.1 (by rw [e]; exact Jk _))
  ·intro H2 q sT hq;obtain ⟨e,he,rfl⟩:=Jo.mp hq;obtain ⟨t,ev,b,_⟩:=m3 e he;exists e.v,rfl,t,_,1,_,ev,rfl,SqT.of (sT _ _ (V3 b hP1 fun z=>by cases z) b),rfl,rfl,rfl
  ·obtain ⟨M',pM,rfl⟩:=Zfz pm rfl;have xP:x≠Pt:=V3 ex hP fun z=>by cases z
   have ex2:H2 x=some (.ins C dx []):=sT _ _ xP (s1 _ _ ex);have at2:∀ e∈M',e.At H2:=fun e he=>(m3 e (pM.mem_iff.mp he)).tk (sT.tk hP1);have vv:(M'.map PK3.k).map (·.1)=M'.map (·.v):=by rw [Gd]; rfl
   have hS:(M'.map (·.p)).Perm L:=by have:=pM.map (·.p); rw [m2] at this; exact this
   have lM':M'.length<64:=by have:=hS.length_eq; rw [Ja] at this; lia
   have hpL:∀ e∈M',e.p∈L:=fun e he=>hS.mem_iff.mp (Jo.mpr ⟨e,he,rfl⟩);have hri:Zbl (M'.map (·.p)):=Gm.mpr ((Gm.mp pw).imp fun z=>z);refine ⟨_,_,rfl,.inl ⟨SqL.of Zg,fun tp htp=>?_⟩⟩;rw [vv];rw [vv] at htp;have sA:Same H2 (upd (upd H2 D (.lst (M'.map (·.v)))) tp (.tup (M'.map (·.v)))):=(Zp hD).trans (Zp htp);have S3:St5 C Pt H (upd (upd H2 D (.lst (M'.map (·.v)))) tp (.tup (M'.map (·.v)))) x dx tp [] M' [] :=
    ⟨fun b o n1 n2 e=>sA _ _ (sT _ _ n2 (s1 _ _ e)),T2.same sA,sA _ _ ex2,Zg,fun e he=>(at2 e he).tk sA.tk,(fun _ h=>nomatch h),fun _ h=>nomatch h⟩
   generalize upd (upd H2 D (.lst (M'.map (·.v)))) tp (.tup (M'.map (·.v)))=H3 at S3;exists ·,x,C,dx,[],rfl,S3.ex,CT.cl,CT.n_pairs,nofun,?_;have S4:=S3.fld (fs':=(fl1 tp));show tSeq _ _ _ _ (upd H3 x (.ins C dx (fl1 tp)));generalize upd H3 x (.ins C dx (fl1 tp))=H4 at S4;exists ·,x,C,dx,_,·,S4.ex,CT.cl,CT.n_pairs,rfl,tp,_,(M'.map fun e=>((Sum.inl e.p.1:Key),V.ref e.tw)).map (fun z=>(kV z.1,z.2)),.dK [],rfl,.inr S4.etp,?_,.inl rfl,fun d1 hd1=>⟨_,Zbi _ [] ?_,?_⟩
   ·rw [Gd];exact U1 fun e he=>by
     obtain ⟨t,ev,b,_⟩:=S4.at_ e he;exists t,ev,SqT.of b
   ·rw [Bl,Ja]; exact Gb (by lia:0+M'.length<64) (show 64<=sizeLine by decide)
   have nd1:=S4.new hd1;have ndS:(M'.map fun e=>((Sum.inl e.p.1:Key))).Nodup:=by
    have h1:(L.map (·.1)).Nodup:=Gm.mpr (fr.imp fun {a b} z=>z.1);have h2:((M'.map (·.p)).map (·.1)).Nodup:=(hS.map (·.1)).nodup_iff.mpr h1;rw [Gd] at h2;exact Gm.mpr ((Gm.mp h2).imp fun z e=>z (Sum.inl.inj e))
   have wb:∀ Hx:Hp,(∀ e∈M',e.At Hx)->Zd8 Hx (Wv [] (M'.map fun e=>((Sum.inl e.p.1:Key),V.ref e.tw))) (M'.map (·.p)):=fun Hx ax=>by
    exists fun p hp=>?_,fun sg hsg=>?_
    ·obtain ⟨e,he,rfl⟩:=Jo.mp hp;obtain ⟨t,_,_,cw⟩:=ax e he;exists e.tw,Sr _ _ (by rw [Gd]; exact ndS) (Jo.mpr ⟨e,he,rfl⟩),cw
    ·rw [Up _ _ fun z hz=>?_]
     ·rfl
     ·obtain ⟨e,he,rfl⟩:=Jo.mp hz;exact fun q=>hsg e.p (Jo.mpr ⟨e,he,rfl⟩) (Sum.inl.inj q)
   generalize Wv [] (M'.map fun e=>((Sum.inl e.p.1:Key),V.ref e.tw))=kA at wb ⊢;have S5:=(S4.same (Zp (o:=.dK kA) hd1)).put Zg fun _ _ _ z=>nomatch z;generalize upd H4 d1 (.dK kA)=H5 at S5;exists ·,x,C,dx,·,S5.ex,CT.cl,CT.n_words_by_sign,(by show 1<1000; decide),?_;have S6:=S5.fld (fs':=(fl2 tp d1));show tSeq _ _ _ _ (upd H5 x (.ins C dx (fl2 tp d1)));generalize upd H5 x (.ins C dx (fl2 tp d1))=H6 at S6;have go6:∀ (Hx:Hp) (i:Nat),Hx tp=some (.tup (M'.map (·.v)))->i<M'.length->(Itt K tp).go i Hx:=fun Hx i e hi=>⟨_,_,SqT.of e,Jb (by rw [Ja]; exact hi)⟩;have stop6:∀ Hx:Hp,Hx tp=some (.tup (M'.map (·.v)))->(Itt K tp).stop M'.length Hx:=fun Hx e=>⟨_,SqT.of e,by rw [Ja]; exact Jd _⟩
   have yld6:∀ (Hx:Hp) (i:Nat) (y:V) (H':Hp) (hi:i<M'.length),Hx tp=some (.tup (M'.map (·.v)))->(Itt K tp).yld i Hx y H'->H'=Hx/\y=M'[i].v:=fun Hx i y H' hi e z=>by
    exists z.1,?_;have:=z.2 _ (SqT.of e);rw [Gg,Jb hi] at this;exact (F5 this).symm
   refine ⟨_,rfl,x,C,dx,_,_,rfl,S6.ex,CT.cl,CT.n_pairs,rfl,tp,rfl,⟨_,SqT.of S6.etp⟩,U2 (n:=M'.length)
    (fun j ys Hn=>∃ ts:List Addr,ys=ts.map V.ref/\ts.length=j/\Same H6 Hn/\Paired (fun t (e:PK3)=>Hn t=some (.tup [.ref e.tw,.int e.p.1])) ts (M'.take j)) ⟨[],rfl,rfl,.refl _,by rw [Fe]; exact .nil⟩ ?_ (Zk (by lia)) ?_ ?_ ?_ ?_⟩
   ·rintro j ys Hn ⟨ts,rfl,rfl,_⟩;rw [Ja];exact Jd _
   ·rintro j ys Hn hj ⟨ts,rfl,rfl,sn,_⟩;exact go6 _ _ (sn _ _ S6.etp) hj
   ·rintro ys Hn ⟨ts,rfl,_,sn,_⟩;exact stop6 _ (sn _ _ S6.etp)
   ·rintro j ys Hn hj ⟨ts,rfl,rfl,sn,pn⟩ y H' hy;obtain ⟨rfl,rfl⟩:=yld6 _ _ _ _ hj (sn _ _ S6.etp) hy;obtain ⟨t,ev,b,cw⟩:=(S6.at_ _ (Jr hj)).tk sn.tk;exists t,_,ev,SqT.of b,rfl,_,·,_,·,rfl,?_;exists ·,·,by show 2<=sizeLine; decide,fun q hq=>?_;exists ts++[q],by rw [Jf]; rfl,by rw [Jc]; rfl,sn.trans (Zp hq),?_;rw [Ji hj];refine L2.Paired.snoc ?_ ?_
    ·exact Zg
    ·exact L2.Paired.mapP pn fun _ _ z=>Zp hq _ _ z
   ·rintro ys Hn ⟨ts,rfl,lt,sn,pn⟩ q hq;rw [Jw] at pn;have sq:=sn.trans (Zp (o:=.lst (ts.map V.ref)) hq);have pn':=Paired.mapP pn fun _ _ z=>Zp (o:=.lst (ts.map V.ref)) hq _ _ z;have eq:(upd Hn q (.lst (ts.map V.ref))) q=_:=Zg;have S7:=S6.same sq;generalize upd Hn q (.lst (ts.map V.ref))=H7 at S7 pn' eq;exists q,_,(M'.map fun e=>(e.tw,wk e.p.2,V.int e.p.1)).map (fun z=>(.ref z.1,z.2.2)),.dT [],rfl,.inl eq,?_,.inr rfl,fun d2 hd2=>⟨_,Zg8 hd2 _ [] ?_ ?_,?_⟩
    ·rw [Gd];exact U0 (fun t e z=>⟨t,rfl,SqT.of z⟩) pn'
    ·rw [Bl,Ja]; exact Gb (by lia:0+M'.length<64) (show 64<=sizeLine by decide)
    ·intro z hz;obtain ⟨e,he,rfl⟩:=Jo.mp hz;obtain ⟨t,_,_,cw⟩:=S7.at_ e he;show H7 e.tw=some (.tup ((wk e.p.2).map kV));rw [Zh9];exact cw
    rw [Gd];have ndW:(M'.map fun e=>wk e.p.2).Nodup:=by
     have h1:(L.map (·.2)).Nodup:=Gm.mpr (fr.imp fun {a b} z e=>z.2.1 (by rw [e]; exact Jk _));have h2:((M'.map (·.p)).map (·.2)).Nodup:=(hS.map (·.2)).nodup_iff.mpr h1;rw [Gd] at h2;exact Gm.mpr ((Gm.mp h2).imp fun z e=>z (Zbr e))
    have sb:Ze4 (Wv [] (M'.map fun e=>(wk e.p.2,V.int e.p.1))) (M'.map (·.p)):=by
     exists fun p hp=>?_,fun u hu=>?_
     ·obtain ⟨e,he,rfl⟩:=Jo.mp hp;exact Sr _ _ (by rw [Gd]; exact ndW) (Jo.mpr ⟨e,he,rfl⟩)
     ·rw [Up _ _ fun z hz=>?_]
      ·rfl
      ·obtain ⟨e,he,rfl⟩:=Jo.mp hz;exact fun q=>hu e.p (Jo.mpr ⟨e,he,rfl⟩) (Zbr q)
    have nd2:=S7.new hd2;show tVar 0 _ (upd H7 d2 (.dT (Wv [] (M'.map fun e=>(wk e.p.2,V.int e.p.1))))) _;generalize Wv [] (M'.map fun e=>(wk e.p.2,V.int e.p.1))=kB at sb ⊢;have S8:=(S7.same (Zp (o:=.dT kB) hd2)).put Zg fun _ _ _ z=>nomatch z;generalize upd H7 d2 (.dT kB)=H8 at S8;refine ⟨_,rfl,x,C,dx,_,rfl,S8.ex,CT.cl,CT.n_signs_by_word,(by show 2<1000; decide),?_⟩;have S9:=S8.fld (fs':=(fl3 tp d1 d2));show tSeq _ _ _ _ (upd H8 x (.ins C dx (fl3 tp d1 d2)));generalize upd H8 x (.ins C dx (fl3 tp d1 d2))=H9 at S9;refine ⟨_,rfl,x,C,dx,_,_,rfl,S9.ex,CT.cl,CT.n_pairs,rfl,tp,rfl,⟨_,SqT.of S9.etp⟩,U2 (n:=M'.length)
     (fun j ys Hn=>ys=(M'.take j).map (fun e=>V.ref e.tw)/\Hn=H9) ⟨by rw [Fe]; rfl,rfl⟩ ?_ (Zk (by lia)) ?_ ?_ ?_ ?_⟩
    ·rintro j ys Hn ⟨rfl,rfl⟩;rw [Ja,Jt];exact Nat.min_le_left _ _
    ·rintro j ys Hn hj ⟨rfl,rfl⟩;exact go6 _ _ S9.etp hj
    ·rintro ys Hn ⟨rfl,rfl⟩;exact stop6 _ S9.etp
    ·rintro j ys Hn hj ⟨rfl,rfl⟩ y H' hy;obtain ⟨rfl,rfl⟩:=yld6 _ _ _ _ hj S9.etp hy;obtain ⟨t,ev,b,cw⟩:=S9.at_ _ (Jr hj);exists t,_,ev,SqT.of b,rfl,_,·,_,·,rfl,?_;exists ·,?_,rfl;rw [Ji hj,Jf];rfl
    ·rintro ys Hn ⟨rfl,rfl⟩ q2 hq2;rw [Jw];have sq2:=Zp (o:=.lst (M'.map fun e=>V.ref e.tw)) hq2;have eq2:(upd Hn q2 (.lst (M'.map fun e=>V.ref e.tw))) q2=_:=Zg;have S10:=S9.same sq2;generalize upd Hn q2 (.lst (M'.map fun e=>V.ref e.tw))=H10 at S10 eq2;exists q2,_,M'.map (·.p.2),rfl,eq2,U1 fun e he=>?_,by rw [Ja]; exact lM',?_,fun d3 k3 H11 s11 nd3 ed3 hb3=>?_
     ·obtain ⟨t,_,_,cw⟩:=S10.at_ e he;exists ·,cw
     ·intro u hu;obtain ⟨e,he,rfl⟩:=Jo.mp hu;exact (hw _ (hpL e he)).2
     have nd3':=S10.new nd3;have S11:=(S10.same s11).put ed3 fun _ _ _ z=>nomatch z;exists ·,x,C,dx,·,S11.ex,CT.cl,CT.n_begun,(by show 3<1000; decide),?_;have S12:=S11.fld (fs':=(fl4 tp d1 d2 d3));have pf:putF (Str.ofString "begun") (V.ref d3) (fl3 tp d1 d2)=((fl4 tp d1 d2 d3):List (Str×V)):=by rfl
     rw [pf];generalize upd H11 x (.ins C dx (fl4 tp d1 d2 d3))=H12 at S12;refine ⟨_,rfl,x,C,dx,_,_,rfl,S12.ex,CT.cl,CT.n_pairs,rfl,tp,rfl,⟨_,SqT.of S12.etp⟩,U2 (n:=M'.length)
      (fun j ys Hn=>∃ ts:List Addr,ys=ts.map V.ref/\ts.length=j/\Same H12 Hn/\Paired (fun t (e:PK3)=>Hn t=some (.tup [.int (e.p.2.length:Int),.bl true])) ts (M'.take j)) ⟨[],rfl,rfl,.refl _,by rw [Fe]; exact .nil⟩ ?_ (Zk (by lia)) ?_ ?_ ?_ ?_⟩
     ·rintro j ys Hn ⟨ts,rfl,rfl,_⟩;rw [Ja];exact Jd _
     ·rintro j ys Hn hj ⟨ts,rfl,rfl,sn,_⟩;exact go6 _ _ (sn _ _ S12.etp) hj
     ·rintro ys Hn ⟨ts,rfl,_,sn,_⟩;exact stop6 _ (sn _ _ S12.etp)
     ·rintro j ys Hn hj ⟨ts,rfl,rfl,sn,pn⟩ y H' hy;obtain ⟨rfl,rfl⟩:=yld6 _ _ _ _ hj (sn _ _ S12.etp) hy;obtain ⟨t,ev,b,cw⟩:=(S12.at_ _ (Jr hj)).tk sn.tk;exists t,_,ev,SqT.of b,rfl,_,·,_,·,rfl,?_;exists ·,_,·,.inr ⟨_,SqT.of cw,rfl⟩,by show 2<=sizeLine; decide,fun q hq=>?_;exists ts++[q],by rw [Jf]; rfl,by rw [Jc]; rfl,sn.trans (Zp hq),?_;rw [Ji hj];refine L2.Paired.snoc ?_ ?_
      ·rw [Ja]; exact Zg
      ·exact L2.Paired.mapP pn fun _ _ z=>Zp hq _ _ z
     ·rintro ys Hn ⟨ts,rfl,lt,sn,pn⟩ q3 hq3;rw [Jw] at pn;have sq3:=sn.trans (Zp (o:=.lst (ts.map V.ref)) hq3);have pn':=Paired.mapP pn fun _ _ z=>Zp (o:=.lst (ts.map V.ref)) hq3 _ _ z;have eq3:(upd Hn q3 (.lst (ts.map V.ref))) q3=_:=Zg;have S13:=S12.same sq3;generalize upd Hn q3 (.lst (ts.map V.ref))=H13 at S13 pn' eq3;exists q3,_,((M'.map fun e=>(e.p.2.length:Int)).map fun z=>((Sum.inl z:Key),V.bl true)).map (fun z=>(kV z.1,z.2)),.dK [],rfl,.inl eq3,?_,.inl rfl,fun d5 hd5=>⟨_,Zbi _ [] ?_,?_⟩
      ·rw [Gd,Gd];exact U0 (fun t e z=>⟨t,rfl,SqT.of z⟩) pn'
      ·rw [Bl,Ja,Ja]; exact Gb (by lia:0+M'.length<64) (show 64<=sizeLine by decide)
      obtain ⟨ns,ens,nd,mem⟩:=Ss (M'.map fun e=>(e.p.2.length:Int)) [] [] rfl .nil;have lk5:=Zc1 ((M'.map fun e=>(e.p.2.length:Int)).map fun z=>((Sum.inl z:Key),V.bl true)) [];generalize Wv [] ((M'.map fun e=>(e.p.2.length:Int)).map fun z=>((Sum.inl z:Key),V.bl true))=kC at ens lk5 ⊢;have S14:=S13.same (Zp (o:=.dK kC) hd5);have e5:(upd H13 d5 (.dK kC)) d5=_:=Zg;generalize upd H13 d5 (.dK kC)=H14 at S14 e5;exists d5,_,ns,rfl,e5,ens,by rw [Ja,Ja,Bl] at lk5; lia,fun D5 ns' hD5 pN riN=>?_;exists D5,·,.inl ⟨SqL.of Zg,fun d4 hd4=>?_⟩;have sz:=(Zp (o:=.lst (ns'.map V.int)) hD5).trans (Zp (o:=.tup (ns'.map V.int)) hd4)
      have S15:=(S14.same sz).put Zg fun _ _ _ z=>nomatch z;generalize upd (upd H14 D5 (.lst (ns'.map V.int))) d4 (.tup (ns'.map V.int))=H15 at S15;exists ·,x,C,dx,·,S15.ex,CT.cl,CT.n_word_sizes,(by show 4<1000; decide),?_;have S16:=S15.fld (fs':=(fl5 tp d1 d2 d3 d4));have pf2:putF (Str.ofString "word_sizes") (V.ref d4) (fl4 tp d1 d2 d3)=((fl5 tp d1 d2 d3 d4):List (Str×V)):=by rfl
      rw [pf2];refine k _ (M'.map (·.p)) hS hri ⟨dx,tp,d1,d2,d3,d4,S16.ex,⟨⟨_,S16.etp,Zkp S16.at_⟩,⟨_,S16.d (d1,_) (.tail _ (.tail _ (.tail _ (.head _)))),wb _ S16.at_⟩,⟨_,S16.d (d2,_) (.tail _ (.tail _ (.head _))),sb⟩,⟨k3,S16.d (d3,_) (.tail _ (.head _)),?_⟩,⟨ns',S16.d (d4,_) (.head _),Ze3 nd (fun n=>by rw [mem,Gd]; simp only [List.not_mem_nil,false_or]; rfl) pN riN⟩⟩,nd1,nd2,nd3'⟩ S16.tb S16.g;rw [Gd];exact hb3
def Dd (T:Txt mg) {C:Addr} (CT:CodeT K C) {f:Addr} (F:Fun K "sign" "Code.sign" V0 f fd):FnOk P w K mg base CX0 1 f fd ["self", "word"] (Zey C):=by
 refine F.ok Jao (fun vs H Q E h=>?_) (fun cdv A outer s H vs Q E hr h=>?_)
 ·obtain ⟨x,t,S,u,rfl,_⟩:=h;rfl
 ·obtain ⟨x,t,S,u,rfl,⟨dx,tp,d1,d2,d3,d4,ex,ci⟩,et,k1,k2⟩:=h;obtain ⟨k3,e3,hb1,hb2⟩:=ci.sb;have SC:=Jao;have hu1:=Xl hr;have et':H t=some (.tup ((wk u).map kV)):=by rw [Zh9]; exact et
  exists _,(Ze (Zw (Zi4 hu1 (Ta (pv 0) rfl) (pv 1) ⟨rfl,rfl,rfl,rfl⟩))),?_;exists ·,x,C,dx,_,·,ex,CT.cl,CT.n_signs_by_word,rfl,d2,rfl,.inr ⟨_,.inl e3⟩,·,_,DGet.t e3 et',?_
  by_cases hp:∃ p∈S,p.2=u
  ·obtain ⟨p,hp,e⟩:=hp;have:=hb1 p hp;rw [e] at this;rw [this];exact k1 p hp e
  ·rw [hb2 u fun p hq e=>hp ⟨p,hq,e⟩];exact k2 fun p hq e=>hp ⟨p,hq,e⟩
def Jar (T:Txt mg) {C:Addr} (CT:CodeT K C) {f:Addr} (F:Fun K "live" "Code.live" V1 f fd):FnOk P w K mg base CX0 1 f fd ["self", "row"] (Zez C):=by
 refine F.ok Jab (fun vs H Q E h=>?_) (fun cdv A outer s H vs Q E hr h=>?_)
 ·obtain ⟨x,r,S,ns,rfl,_⟩:=h;rfl
 ·obtain ⟨x,r,S,ns,rfl,⟨dx,tp,d1,d2,d3,d4,ex,ci⟩,er,k⟩:=h;obtain ⟨k3,e3,hb⟩:=ci.bg;have SC:=Jab;have hu1:=Xl hr;exists _,(Ze (Zw (Zks (Zql hu1 (Zy Xm (by rfl) T.b_tuple PyProof.Rows.boot_tuple (Za (pv 1) Zb)) (Ta (pv 0) rfl))))),?_;have et:H r=some (.tup ((wk ns).map kV)):=by rw [Zh9]; exact er
  exists ·,_,·,.inr ⟨SqT.of er,?_⟩;exists ·,x,C,dx,_,·,ex,CT.cl,CT.n_begun,rfl,d3,·,DGet.t e3 et,?_;rw [hb ns];exact k
def Jad (T:Txt mg) {C:Addr} (CT:CodeT K C) {f:Addr} (F:Fun K "table" "Code.table" W9 f fd):FnOk P w K mg base CX0 1 f fd ["self"] (Zby C):=by
 refine F.ok Dw (fun vs H Q E h=>?_) (fun cdv A outer s H vs Q E hr h=>?_)
 ·obtain ⟨x,S,rfl,_⟩:=h;rfl
 ·obtain ⟨x,S,rfl,⟨dx,tp,d1,d2,d3,d4,ex,ci⟩,k⟩:=h;obtain ⟨us,e1,ps⟩:=ci.pr;have SC:=Dw;exists _,(Ze (Zw (Zy Td (by rfl) T.b_list PyProof.Rows.boot_list (Za (Ta (pv 0) rfl) Zb)))),?_;exists ·,x,C,dx,_,·,ex,CT.cl,CT.n_pairs,rfl,_,·,.inr (SqT.of e1),fun l hl=>k l us hl ps
theorem Dc (T:Txt mg) {C:Addr} (CT:CodeT K C) (R7:Met P w K mg base C "sign" 1 ["self", "word"] (Zey C)) {f:Addr} (F:Fun K "word_at" "word_at" Ty f fd):FnOk P w K mg base CX0 2 f fd ["code", "row", "place"] (Tw C):=by
 refine F.ok Jaq (fun vs H Q E h=>?_) (fun cdv A outer s H vs Q E hr h=>?_)
 ·obtain ⟨x,r,S,ns,pl,rfl,_⟩:=h;rfl
 ·obtain ⟨x,r,S,ns,pl,rfl,ca,fi,er,hpl,k1,k2⟩:=h;have SC:=Jaq;have Za9:Room 1 _:=hr.mono nofun;obtain ⟨dx,tp,d1,d2,d3,d4,ex,ci⟩:=id ca;obtain ⟨zs,ez,hz⟩:=ci.sz;refine ⟨_,(Zc (Xs PassesOwn.never rfl (Pz (Ta (pv 0) rfl)) (Zn (i:=3) SC.nd rfl (Or.inl rfl))
 (Zc (Zl (i:=4) SC.nd rfl (Or.inl rfl) (Zy (Zho (K:=K) rfl) (by rfl) T.b_tuple PyProof.Rows.boot_tuple (Za (Z0 (X5 (K':=K) rfl) (pv 1) (Z5 (pv 2)) (Z5 (Zt W3 (pv 2) (pv 3)))) Zb)))
 (Ze (Yw (X1 (T5 (Zmw (pv 0) R7 Za9 (Za (pv 4) Zb))))
 (Ze (Zw (pv 4)))
 Z4))))
 (Ze (Zw Vu))),?_⟩
  exists ·,x,C,dx,_,·,ex,CT.cl,CT.n_word_sizes,rfl,d4,rfl,⟨_,SqT.of ez⟩,Znp (xs:=zs.map V.int) (fun i σ H'=>∃ v3 v4,σ=[some (.ref x),some (.ref r),some (.int pl),v3,v4]/\Same H H'/\∀ p∈S,∀ (j:Nat) (hj:j<zs.length),j<i->(p.2.length:Int)=zs[j]->¬ p.2<+:ns.drop pl) ⟨_,_,rfl,.refl _,fun p hp j hj h0=>Fs h0 (Gr _)⟩ ?_ ?_ ?_
  ·rintro i σ H1 hi ⟨v3,v4,rfl,s1,no⟩;exact SqT.of (s1 _ _ ez)
  ·rintro i y σ H1 hy ⟨v3,v4,rfl,s1,no⟩;have hi:i<zs.length:=by have:=(Je.mp hy).1; rw [Ja] at this; exact this
   rw [Gg,Jb hi] at hy;obtain rfl:=F5 hy;obtain ⟨p0,hp0,el⟩:=(hz.2 zs[i]).mp (Jr hi);refine ⟨_,rfl,_,rfl,_,rfl,_,rfl,_,rfl,_,_,rfl,rfl,_,rfl,?_⟩;dsimp only [tNil];refine Zlp (er.same s1) fun t H2 s12 et=>?_;have ec:cutV (ns.map V.int) (some (pl:Int)) (some ((pl:Int)+zs[i]))=((ns.drop pl).take p0.2.length).map V.int:=by
    rw [<- el];exact Znu ns (m:=p0.2.length) hpl
   rw [ec] at et;have pw:(ns.drop pl).take p0.2.length<+:ns.drop pl:=Fg _ _;have hw:∀ p∈S,p.2.length=p0.2.length->p.2<+:ns.drop pl->p.2=(ns.drop pl).take p0.2.length:=fun p hp hl hpre=>by
    rw [<- hl];exact List.prefix_iff_eq_take.mp hpre
   generalize (ns.drop pl).take p0.2.length=u at pw hw et;have s2:=s1.trans s12;have ca2:=ca.same s2;exists ·,x,dx,·,s2 _ _ ex,rfl,·,x,t,S,u,rfl,ca2,et,fun p hp e=>?_,fun hno=>?_
   ·subst e;exists ·,Ztd (fun z=>by cases z) ⟨_,rfl,k1 p hp pw t H2 s2 et⟩
   ·exists ·,Zq4 rfl ?_;exists _,·,s2,fun p hp j hj hji hl hpre=>?_
    by_cases e:j=i
    ·subst e;exact hno p hp (hw p hp (by rw [<- el] at hl; exact Int.ofNat.inj hl) hpre)
    ·exact no p hp j hj (by lia) hl hpre
  ·rintro σ H1 ⟨v3,v4,rfl,s1,no⟩;refine k2 (fun p hp=>?_) H1 s1;obtain ⟨j,hj,ej⟩:=Ge ((hz.2 _).mpr ⟨p,hp,rfl⟩);exact no p hp j hj (by rw [Ja]; exact hj) ej.symm
theorem Jah (T:Txt mg) {C:Addr} (R7:Met P w K mg base C "sign" 1 ["self", "word"] (Zey C)) (Y4:Cal P w K mg base "word_at" 2 ["code", "row", "place"] (Tw C)) {f:Addr} (F:Fun K "spilt" "spilt" Zal f fd):FnOk P w K mg base CX0 3 f fd ["code", "row"] (Zbv C):=by
 refine F.ok D8 (fun vs H Q E h=>?_) (fun cdv A outer s H vs Q E hr h=>?_)
 ·obtain ⟨x,r,S,ns,rfl,_⟩:=h;rfl
 ·obtain ⟨x,r,S,ns,rfl,ca,fi,er,lns,k⟩:=h;have SC:=D8;have Za9:Room 1 _:=hr.mono nofun;have Xn:Room 2 _:=hr.mono nofun;have lm:(ns.map V.int).length=ns.length:=Ja _;refine ⟨_,(Zc (Zl (i:=2) SC.nd rfl (Or.inl rfl) (Yr Zb))
 (Zc (Zl (i:=3) SC.nd rfl (Or.inl rfl) Zd)
 (Zc (Tp PassesOwn.never (Z1 Tg (pv 3) (Zh X2 (by rfl) T.b_len F6 (Za (pv 1) Zb)) (Z2 _))
 (Zc (Zl (i:=4) SC.nd rfl (Or.inl rfl) (Zo Y4 Xn rfl (Za (pv 0) (Za (pv 1) (Za (pv 3) Zb)))))
 (Ze (Yw (X1 (Tb (pv 4)))
 (Zc (Wq (Zav PySem.F.plainAttrs_list PySem.F.slot_list_append PySem.F.type_list_append Uh (pv 2) (Za (Z7 (Za (pv 3) (Za Vu Zb))) Zb)))
 (Ze (Zce (i:=3) SC.nd rfl (Or.inl rfl) Zd Na)))
 (Zc (Wq (Zav PySem.F.plainAttrs_list PySem.F.slot_list_append PySem.F.type_list_append Uh (pv 2) (Za (Z7 (Za (pv 3) (Za (Zmw (pv 0) R7 Za9 (Za (pv 4) Zb)) Zb))) Zb)))
 (Ze (Zce (i:=3) SC.nd rfl (Or.inl rfl) (Zh X2 (by rfl) T.b_len F6 (Za (pv 4) Zb)) Na)))))))
 (Ze (Zw (pv 2)))))),?_⟩
  refine ⟨by show 0<=sizeLine; decide,fun tx htx=>?_⟩;have s1:=Zp (o:=.lst []) htx;have etx:(upd H tx (.lst [])) tx=_:=Zg;generalize upd H tx (.lst [])=H1 at s1 etx;have ntx:∀ b o,H b=some o->b≠tx:=fun b o e=>Zq e htx;refine Zia (fun σ H'=>∃ (pl:Nat) (R:List En) (ts:List V) (v4:Option V),σ=[some (.ref x),some (.ref r),some (.ref tx),some (.int pl),v4]/\Same H H'/\H' tx=some (.lst ts)/\Ents H' ts R/\Went S ns R pl)
   (fun σ _=>match σ with | [_,_,_,some (.int z),_]=>(ns.length-z).toNat | _=>0) ⟨0,[],[],_,rfl,s1,etx,.nil,.nil⟩ ?_ ?_
  ·rintro σ H2 ⟨pl,R,ts,v4,rfl,s2,e2,en2,we⟩;have er2:=er.same s2;have lR:=we.len;have lt:=Paired.length en2;have hle:=we.le;exists ·,·,_,·,Zna er2,_,·,rfl,·,?_;refine ite2 (fun hlt=>?_) (fun hlt=>?_)
   ·have hlt':pl<ns.length:=by
     have:=Fq hlt;rw [lm] at this;lia
    exists ·,·,·,x,r,S,ns,pl,rfl,ca.same s2,fi,er2,hle,fun p hp pre t H3 s3 et=>?_,fun hno H3 s3=>?_
    ·have s23:=s2.trans s3;have ca3:=ca.same s23;obtain ⟨dx,tp,d1,d2,d3,d4,ex,_⟩:=id ca3;have e3:=s3 _ _ e2;exists ·,·,Ztf (fun z=>by cases z) ?_;exists ·,.inl ⟨rfl,_,SqL.of e3⟩,·,·,x,dx,·,ex,rfl,·,x,t,S,p.2,rfl,ca3,et,fun p' hp' e'=>?_,fun hno=>Fs rfl (hno _ hp);exists by show 2<=sizeLine; decide,fun tq htq=>?_;have sQ:=Zp (o:=.tup [.int pl,.int p'.1]) htq;have etq:(upd H3 tq (.tup [.int pl,.int p'.1])) tq=_:=Zg;have e4:=sQ _ _ e3;have et4:=sQ _ _ et;have s4:=s23.trans sQ;have en4:=Ents.tk en2 (s3.trans sQ).tk;generalize upd H3 tq (.tup [.int pl,.int p'.1])=H4 at sQ etq e4 et4 s4 en4
     have gL:Grow tx H4 (upd H4 tx (.lst (ts++[.ref tq]))):=fun b o e n=>by rw [Zm n]; exact e
     exists tx,_,·,rfl,e4,Bg (by lia:ts.length<=1000) nofun,?_;have hne:=(fi.2 _ hp).1;exists ·,·,_,·,.inr ⟨_,SqT.of (gL _ _ et4 (V3 et4 e4 fun z=>by cases z)),rfl⟩,_,·,rfl,⟨pl+p.2.length,R++[(pl,some p'.1)],ts++[.ref tq],some (.ref t),?_,fun b o e=>?_,Zg,?_,?_⟩,?_
     ·rw [Ja,G4];rfl
     ·rw [Zm (ntx b o e)];exact s4 b o e
     ·exact L2.Paired.snoc ⟨tq,rfl,gL _ _ etq (V3 etq e4 fun z=>by cases z)⟩ (Ents.tk en4 (gL.tk e4))
     ·have hw:=Went.word we hp' (by rw [e']; exact pre) (by rw [e']; exact hne);rw [e'] at hw;exact hw
     ·show ((ns.length:Int)-((pl:Int)+(((p.2.map V.int).length:Nat):Int))).toNat<((ns.length:Int)-(pl:Int)).toNat;rw [Ja];have:=Gj.mpr hne;lia
    ·have s23:=s2.trans s3;have e3:=s3 _ _ e2;exists ·,·,Zte rfl ?_;exists ·,.inl ⟨rfl,_,SqL.of e3⟩,·,by show 2<=sizeLine; decide,fun tq htq=>?_;have sQ:=Zp (o:=.tup [.int pl,.non]) htq;have etq:(upd H3 tq (.tup [.int pl,.non])) tq=_:=Zg;have e4:=sQ _ _ e3;have s4:=s23.trans sQ;have en4:=Ents.tk en2 (s3.trans sQ).tk;generalize upd H3 tq (.tup [.int pl,.non])=H4 at sQ etq e4 s4 en4;have gL:Grow tx H4 (upd H4 tx (.lst (ts++[.ref tq]))):=fun b o e n=>by rw [Zm n]; exact e
     exists tx,_,·,rfl,e4,Bg (by lia:ts.length<=1000) nofun,?_;exists ·,_,·,rfl,⟨pl+1,R++[(pl,none)],ts++[.ref tq],some .non,?_,fun b o e=>?_,Zg,?_,Went.lost we hlt' hno⟩,?_
     ·rw [G4];rfl
     ·rw [Zm (ntx b o e)];exact s4 b o e
     ·exact L2.Paired.snoc ⟨tq,rfl,gL _ _ etq (V3 etq e4 fun z=>by cases z)⟩ (Ents.tk en4 (gL.tk e4))
     ·show ((ns.length:Int)-((pl:Int)+1)).toNat<((ns.length:Int)-(pl:Int)).toNat;lia
   ·have hge:ns.length<=pl:=by
     have:=Ft (Gu _ ▸ hlt);rw [lm] at this;lia
    exists ·,k tx ts R H2 htx s2 e2 en2 ⟨pl,we,hge⟩
  ·rintro σ H2 Q1 Q2 hq ⟨a1,a2,a3,a4,a5,a6,a7,a8,a9,a10,a11,a12,a13,a14,z⟩;exists a1,a2,a3,a4,a5,a6,a7,a8,a9,a10,a11,a12,a13,a14,hq _ _ z
theorem Jbw (T:Txt mg) {C:Addr} (Zbn:Cal P w K mg base "spilt" 3 ["code", "row"] (Zbv C)) {f:Addr} (F:Fun K "spill" "spill" Zam f fd):FnOk P w K mg base CX0 4 f fd ["code", "row"] (Zbw C):=by
 refine F.ok Jal (fun vs H Q E h=>?_) (fun cdv A outer s H vs Q E hr h=>?_)
 ·obtain ⟨x,r,S,ns,rfl,_⟩:=h;rfl
 ·obtain ⟨x,r,S,ns,rfl,ca,fi,er,lns,k⟩:=h;have SC:=Jal;have Zjf:Room 3 _:=hr.mono nofun;exists _,(Ze (Zw (Y6 (T:=["place", "entry"]) (cs:=[]) rfl (CScope.ok (by kernel_rfl)) (Yk (Zo Zbn Zjf rfl (Za (pv 0) (Za (pv 1) Zb)))) (fun _ _ _ _=>(Xt (n:=2) rfl (Zv (Zn (i:=0) (Yz (by kernel_rfl)) rfl (Or.inl rfl) (Or.inr rfl)) (Zv (Zn (i:=1) (Yz (by kernel_rfl)) rfl (Or.inl rfl) (Or.inr rfl)) Yx)) (by rfl))) (fun _ _ _ _=>Yo) (fun _ _ _ _=>(pv 1)) (Uo (Yd nofun (Yd nofun Wu)))))),?_;exists ·,·,x,r,S,ns,rfl,ca,fi,er,lns,fun l ts R H1 nl s1 el en tol=>?_;have lt:=Paired.length en
  have lR:=tol.len;exists l,rfl,⟨_,SqL.of el⟩,U2 (n:=ts.length) (fun j ys H'=>H'=H1/\ys=(R.take j).map fun e=>oV e.2) ⟨rfl,by rw [Fe]; rfl⟩ ?_ (Zk (by lia)) ?_ ?_ ?_ ?_
  ·rintro j ys H' ⟨rfl,rfl⟩;rw [Ja,Jt];exact Nat.min_le_left _ _
  ·rintro j ys H' hj ⟨rfl,_⟩;exact Zq3 el hj
  ·rintro ys H' ⟨rfl,_⟩;exact Zjc el (Jd _)
  ·rintro j ys H' hj ⟨rfl,rfl⟩ y H'' hy;obtain ⟨rfl,rfl⟩:=Znh el hj hy;have hj2:j<R.length:=by lia
   obtain ⟨t,ev,et⟩:=L2.Paired.at en hj hj2;exists t,_,ev,SqT.of et,rfl,_,·,_,·,rfl,?_;exists ·,rfl,?_;rw [Ji hj2,Jf];rfl
  ·rintro ys H' ⟨rfl,rfl⟩ q hq;have ltk:R.take ts.length=R:=Gw (by lia);rw [ltk];exact k q R _ (s1.free hq) (s1.trans (Zp hq)) Zg tol
open L3
def Dy (T:Txt mg) {C:Addr} (Y4:Cal P w K mg base "word_at" 2 ["code", "row", "place"] (spOf ⟨C,K⟩ dWordAtT)) (Zh4:Met P w K mg base C "live" 1 ["self", "row"] (spOf ⟨C,K⟩ dLiveT)) {f:Addr} (F:Fun K "sways" "sways" Zak f fd):FnOk P w K mg base CX0 3 f fd ["code", "row", "place"] (spOf ⟨C,K⟩ dSways):=by
 refine L3.Fun.ok3 F Jbk (fun ds M K3 h=>?_) (fun cdv A outer s H E hr=>?_)
 ·obtain ⟨S,r,pl,rfl,_⟩:=h;rfl
 ·have SC:=Jbk;have hu:=hr.units;have hu1:=Xl hr;have Xn:Room 2 _:=hr.mono nofun;have Znk:Room 1 _:=hr.mono nofun;exists _,_,(Ze (Zw (Zci (Zks (Tb (Zo Y4 Xn rfl (Za (pv 0) (Za (pv 1) (Za (pv 2) Zb)))))) (Zf1 (Zmw (pv 0) Zh4 Znk (Za (Z0 (X5 (K':=K) rfl) (pv 1) (Z5 (pv 2)) Ya) Zb)))))),fun _=>(Uf (Zkf (by symm) (Zan (fun _ _ _ _ _=>rfl) (Yg 0) (by symm)))),fun ds M Kk hM hD h=>?_;obtain ⟨S,r,pl,rfl,h⟩:=h;obtain ⟨⟨fr,fi,hpl⟩,k⟩:=h;exists ·,·,·,S,r,pl,rfl,⟨fi,hpl⟩,fun p hp hpre=>?_,fun hno=>?_
  ·rw [Zlt ((Zcw fr fi).1 p hp hpre)] at k;exists ·,iteF (.inl k)
  ·rw [Zlu ((Zcw fr fi).2 hno)] at k;exists ·,iteT ⟨_,rfl,⟨_,rfl⟩,_,rfl,_,rfl,_,rfl,?_⟩;dsimp only [Uv,Zaa,N9,sl3,wD];rw [Vd,Xv];exists S,·,.inl k
open L3
theorem Zrk :∀ n,csF S n [] r=some 0
 | 0=>rfl
 | n+1=>by unfold csF; rw [if_pos rfl]
def oW:Option (List Int)->D
 | none=>.non
 | some t=>wD t
theorem Zrd {a b:Option (List Int)} {K:Bool->Prop} (h:K (decide (a=b))):eqV (oW a) (oW b) M K:=by
 cases a with
 | none =>
  cases b with
  | none=>exact .inl ⟨true,rfl,by rwa [F2 rfl] at h⟩
  | some t =>
   rw [F3 (fun z=>nomatch z)] at h;exact .inr ⟨.none,_,.non,(Tc W5).ok M t,rfl,((Tc W5).shp t).shaped nofun,h⟩
 | some s =>
  cases b with
  | none =>
   rw [F3 (fun z=>nomatch z)] at h;exact .inr ⟨_,.none,(Tc W5).ok M s,.non,((Tc W5).shp s).shaped nofun,rfl,h⟩
  | some t =>
   refine Su (Tc W5) (a:=s) (b:=t) ?_;rw [show decide (s=t)=decide (some s=some t) from decide_eq_decide.mpr ⟨fun e=>by rw [e],fun e=>F5 e⟩];exact h
def woD (o:Option Pr):D:=oW (o.map (·.2))
def Zr2 (fr:Free S) {l:List Int} {K:K3} (h:K (.bl (!decide (hdW S r=hdW S l))) M):ne3 (woD (hdW S r)) (woD (hdW S l)) M K:=by
 refine Zrd ?_;have e:decide ((hdW S r).map (·.2)=(hdW S l).map (·.2))=decide (hdW S r=hdW S l):=decide_eq_decide.mpr ⟨fun e=>by
  cases ea:hdW S l with
  | none=>cases eb:hdW S r with
   | none=>rfl
   | some q=>rw [ea,eb] at e; cases e
  | some p=>cases eb:hdW S r with
   | none=>rw [ea,eb] at e; cases e
   | some q =>
    rw [ea,eb] at e;have e:q.2=p.2:=F5 e;have:=Zg2 fr (Yy eb).1 (by rw [e]; exact (Yy ea).2);rw [<- this,ea],fun e=>by rw [e]⟩
 rw [e];exact h
def Zoa (fr:Free S) (fi:Fits S) (hpl:pl<=r.length) {K:K3} (h:K (woD (hdW S (r.drop pl))) M):dWordAtT [.code S,wD r,.int pl] M K:=by
 exists S,r,pl,rfl,⟨fi,hpl⟩,fun q hq hpre=>?_,fun hno=>?_
 ·rw [(Zcw fr fi).1 q hq hpre] at h; exact h
 ·rw [(Zcw fr fi).2 hno] at h; exact h
theorem D6 (T:Txt mg) {C:Addr} (Q9:Cal P w K mg base "sways" 3 ["code", "row", "place"] (spOf ⟨C,K⟩ dSways)) (Y4:Cal P w K mg base "word_at" 2 ["code", "row", "place"] (spOf ⟨C,K⟩ dWordAtT)) {f:Addr} (F:Fun K "certain_size" "certain_size" X8 f fd):FnOk P w K mg base CX0 4 f fd ["code", "one", "other"] (spOf ⟨C,K⟩ dCSize):=by
 refine L3.Fun.ok3 F Jbz (fun ds M K3 h=>?_) (fun cdv A outer s H E hr=>?_)
 ·obtain ⟨S,a,b,rfl,_⟩:=h;rfl
 ·have SC:=Jbz;have hu:=hr.units;have hu1:=Xl hr;have Zcu:Room 3 _:=hr.mono nofun;have Xn:Room 2 _:=hr.mono nofun;refine ⟨_,_,(Zc (Zl (i:=3) SC.nd rfl (Or.inl rfl) (Zh (Sv rfl) (by rfl) T.b_min PyProof.Rows.boot_min (Za (Zh (Z9 (K:=K) rfl) (by rfl) T.b_len F6 (Za (pv 1) Zb)) (Za (Zh (Z9 (K:=K) rfl) (by rfl) T.b_len F6 (Za (pv 2) Zb)) Zb))))
 (Zc (Zl (i:=4) SC.nd rfl (Or.inl rfl) (Z7 (Za (Z0 (X5 (K':=K) rfl) (pv 1) Ya (Z5 (pv 3))) (Za (Z0 (X5 (K':=K) rfl) (pv 2) Ya (Z5 (pv 3))) Zb))))
 (Zc (Zl (i:=5) SC.nd rfl (Or.inl rfl) Zd)
 (Zc (Tp PassesOwn.never (Z1 Tg (pv 5) (pv 3) (Z2 _))
 (Zc (Yw (PW.pt (Zmj (Rp (Zo Q9 Zcu rfl (Za (pv 0) (Za (Zs (Z6 (K':=K) rfl) (pv 4) Zd (fun _ _=>rfl)) (Za (pv 5) Zb))))) (Zfs (Rp (Zo Q9 Zcu rfl (Za (pv 0) (Za (Zs (Z6 (K':=K) rfl) (pv 4) Zd (fun _ _=>rfl)) (Za (pv 5) Zb))))))))
 (Ze (Zw (pv 5)))
 Z4)
 (Zc (Zl (i:=6) SC.nd rfl (Or.inl rfl) (Zo Y4 Xn rfl (Za (pv 0) (Za (Zs (Z6 (K':=K) rfl) (pv 4) Zd (fun _ _=>rfl)) (Za (pv 5) Zb)))))
 (Zc (Yw (Z1 (Zlc (K':=K) rfl hu) (Zo Y4 Xn rfl (Za (pv 0) (Za (Zs (Z6 (K':=K) rfl) (pv 4) Zd (fun _ _=>rfl)) (Za (pv 5) Zb)))) (pv 6) (Z2 _))
 (Ze (Zw Vu))
 Z4)
 (Ze (Zce (i:=5) SC.nd rfl (Or.inl rfl) (Tr (X1 (Tb (pv 6))) Zd (Zh (Z9 (K:=K) rfl) (by rfl) T.b_len F6 (Za (pv 6) Zb))) Na))))))
 (Ze (Zw (pv 5))))))),fun _=>(Zx (by symm) (Zx (by symm) (Zx (by symm) (Zx (Zaj (by symm) (Zx (by symm) (Zx (by symm) (Zx (by symm) (Zp5 (by symm)))))) (Uf (Yg 5)))))),fun ds M Kk hM hD h=>?_⟩
  obtain ⟨S,a,b,rfl,h⟩:=h;obtain ⟨⟨fr,fi⟩,k⟩:=h;have ne:∀ p∈S,p.2≠[]:=fun p hp=>(fi.2 p hp).1;have la:(a.map D.int).length=a.length:=Ja _;have lb:(b.map D.int).length=b.length:=Ja _;refine ⟨_,rfl,_,rfl,_,rfl,_,rfl,_,_,rfl,_,rfl,?_⟩;have eN:(if (((b.map D.int).length:Nat):Int)<((a.map D.int).length:Nat) then (((b.map D.int).length:Nat):Int) else ((a.map D.int).length:Nat))=((min a.length b.length:Nat):Int):=by
   rw [la,lb]
   split <;> lia
  rw [eN];unfold csT at k;have hA:(a.take (min a.length b.length)).length=min a.length b.length:=by rw [Jt]; lia
  have hB:(b.take (min a.length b.length)).length=min a.length b.length:=by rw [Jt]; lia
  exists ·,·,·,?_;dsimp only [Uv,Zaa,N9,sl3,wD];rw [Vd,Xg];exists ·,·,?_;dsimp only [Uv,Zaa,N9,sl3,wD];rw [Vd,Xg];exists by show 2<=sizeLine; decide,?_;generalize min a.length b.length=N at *
  generalize a.take N=A at *
  generalize b.take N=B at *
  obtain ⟨z,hz⟩:∃ z,z=csF S N A B:=⟨_,rfl⟩;rw [<- hz] at k;exists fun m ρ M'=>M=M'/\∃ (p n:Nat) (v6:Option D),ρ=[some (.code S),some (wD a),some (wD b),some (.int N),some (.tup [wD A,wD B]),some (.int p),v6]/\m=N-p/\p<=N/\N-p<=n/\z=(csF S n (A.drop p) (B.drop p)).map (p + ·),⟨N,rfl,0,N,_,rfl,by lia,Jz _,by lia,?_⟩,?_
  ·rw [B0,B0];rw [<- hz];cases z with
   | none=>rfl
   | some z=>show some z=some (0+z); rw [B2]
  rintro m ρ _ ⟨rfl,p,n,v6,rfl,rfl,hp,hn,hk⟩;exists ·,·,_,·,rfl,·,?_;refine ite2 (fun hlt=>?_) (fun hlt=>?_)
  ·have hlt:p<N:=by have:=Fq hlt; lia
   obtain ⟨n,rfl⟩:∃ j,n=j+1:=⟨n-1,by lia⟩;have h0:A.drop p≠[]:=fun e=>by have:=congrArg List.length e; rw [Jj,hA] at this; simp at this; lia
   have hB0:B.drop p≠[]:=fun e=>by have:=congrArg List.length e; rw [Jj,hB] at this; simp at this; lia
   exists ·,·,_,_,·,rfl,rfl,·,S,A,p,rfl,⟨fr,fi,by lia⟩,·,?_;unfold csF at hk;rw [F0 h0] at hk
   by_cases hs:(swB S (A.drop p) || swB S (B.drop p))=true
   ·rw [F1 hs] at hk;have hk:z=some p:=hk;rw [hk] at k;refine ite2 (fun h1=>⟨_,rfl,.inl k⟩) (fun h1=>?_);rw [(Gu _).mp h1,Fp] at hs;exists ·,·,_,_,·,rfl,rfl,·,S,B,p,rfl,⟨fr,fi,by lia⟩,·,?_;rw [hs];exact iteT ⟨_,rfl,.inl k⟩
   rw [F0 hs] at hk;rw [Bc] at hs;have hs1:swB S (A.drop p)=false:=(Gu _).mp fun z=>hs (.inl z);have hs2:swB S (B.drop p)=false:=(Gu _).mp fun z=>hs (.inr z);rw [hs1];refine iteF ⟨_,rfl,_,rfl,_,_,_,rfl,rfl,rfl,_,rfl,S,B,p,rfl,⟨fr,fi,by lia⟩,_,rfl,?_⟩;rw [hs2];refine iteF ?_;exists ·,·,_,_,·,rfl,rfl,·,Zoa fr fi (by lia) ?_;exists ·,·,_,_,·,rfl,rfl,·,Zoa fr fi (by lia) ⟨_,rfl,Zr2 fr ⟨_,rfl,?_⟩⟩
   by_cases hw:hdW S (B.drop p)=hdW S (A.drop p)
   ·rw [F2 hw];rw [F0 (fun z=>z hw)] at hk;refine iteF ?_;have go:∀ K':K3,K' (.int (kW S (A.drop p):Nat)) M->uIf (uB3 (uIsN (uVar 6))) (uC (.int 1)) (uCB len3 (Pf (uVar 6) uNil)) [some (.code S),some (wD a),some (wD b),some (.int N),some (.tup [wD A,wD B]),some (.int p),some (woD (hdW S (A.drop p)))] M K':=fun K' hK'=>by
     unfold kW at hK';cases e:hdW S (A.drop p) with
     | none=>rw [e] at hK';exists ·,·,iteT hK'
     | some q =>
      rw [e] at hK';exists ·,·,iteF ⟨_,rfl,_,rfl,?_⟩;rw [Ja];exact hK'
    have kl:=P9 ne h0;rw [Jj,hA] at kl;exists ·,go _ ⟨_,rfl,?_⟩;exists N-(p+kW S (A.drop p)),by lia,.inl ⟨rfl,p+kW S (A.drop p),n,some (woD (hdW S (A.drop p))),?_,rfl,by lia,by lia,?_⟩
    ·rw [G4];rfl
    ·have hk:z=((csF S n ((A.drop p).drop (kW S (A.drop p))) ((B.drop p).drop (kW S (A.drop p)))).map (kW S (A.drop p) + ·)).map (p + ·):=hk;rw [hk,Fc,Fc,Option.map_map]
     congr 1
     funext x
     show p+(kW S (A.drop p)+x)=p+kW S (A.drop p)+x;lia
   ·rw [F3 hw];rw [F1 hw] at hk;have hk:z=none:=hk;rw [hk] at k;exact iteT (.inl k)
  ·have hge:p=N:=by have:=Ft ((Gu _).mp hlt); lia
   subst hge;rw [List.drop_of_length_le (by lia:A.length<=p),Zrk] at hk;rw [hk] at k;exists ·,.inl k
open L3
abbrev cpP:Pos:=⟨60,32,60,69⟩
abbrev cpQ:Str:=Str.ofString "coupled"++".<locals>."++"<lambda>"
def Jbt (T:Txt mg) {C c:Addr} (hCd:W.CodeHd base c Pt) (hBm:Bm mg base) (Wf:Cal P w K mg base "certain_size" 4 ["code", "one", "other"] (spOf ⟨C,K⟩ dCSize))
  {f:Addr} {oc:Value} {od an:Option Addr} {osl:Array (Option Value)} {kW doc pm ct:Value}
  (lk:K.lookup f=some ⟨oc,od,.func (W.fnOf "coupled" "coupled" (Yv Yp) (Yn Yp) (Zf Yp) .none kW doc pm an (.ref c) ct),osl⟩) (hcd:W.codeIn K (.ref c) "coupled"=true) :
  FnOk P w K mg base CX0 5 f (W.fnOf "coupled" "coupled" (Yv Yp) (Yn Yp) (Zf Yp) .none kW doc pm an (.ref c) ct) ["code", "one", "other", "unlike"] (spOf ⟨C,K⟩ (dCoup Pt cpP cpQ)):=by
 refine L3.Fun.okC3 lk hcd D9 (fun ds M K3 h=>?_) (fun A outer s H E hr=>?_)
 ·obtain ⟨k0,S,a,b,u,rfl,_⟩:=h;rfl
 ·have SC:=D9;have hu:=hr.units;have hu1:=Xl hr;have hcode:(cxOf CX0 P w K mg base ["code", "one", "other", "unlike", "size", "sides", "ordered"] "coupled" (Zf Yp) f (.ref c) A outer s H E).nox.env.code=.ref c:=rfl;have Si:Room 3 _:=hr.mono nofun;have Sl:Room 4 _:=hr.mono nofun;refine ⟨_,_,(Zc (Zl (i:=4) SC.nd rfl (Or.inr rfl) (Zo Wf Sl rfl (Za (pv 0) (Za (Zs (Z6 (K':=K) rfl) (pv 1) Zd (fun _ _=>rfl)) (Za (Zs (Z6 (K':=K) rfl) (pv 2) Zd (fun _ _=>rfl)) Zb)))))
 (Zc (Yw (X1 (Tb (pv 4)))
 (Ze (Zw Vu))
 Z4)
 (Zc (Vb (i:=5) SC.nd rfl rfl (T:=["tail", "text"]) (cs:=[4]) rfl (CScope.ok (by kernel_rfl)) (Pz (Z7 (Za (pv 1) (Za (pv 2) Zb)))) (fun _ _ _ _=>(Xt (n:=2) rfl (Zv (Zn (i:=0) (Yz (by kernel_rfl)) rfl (Or.inl rfl) (Or.inr rfl)) (Zv (Zn (i:=1) (Yz (by kernel_rfl)) rfl (Or.inl rfl) (Or.inr rfl)) Yx)) (by rfl))) (fun _ _ _ _=>Yo) (fun _ _ _ _=>(Z7 (Za (Z0 (X5 (K':=K) rfl) (pv 0) (Z5 (pv 2)) Ya) (Za (pv 1) Zb)))) (Uo (Yd nofun (Yd nofun Wu))))
 (Zc (Zl (i:=6) SC.nd rfl (Or.inl rfl) (Ziy Si rfl T.b_sorted (Za (pv 5) Zb) hcode hCd hBm rfl rfl (by rfl') (fun _ _ _ _=>rfl) (fun _ _ _ _ _ _=>(Z7 (Za (Zmu Zeh (Zh (Z9 (K:=K) rfl) (by rfl) T.b_len F6 (Za (Zs (Zhp (K:=K) rfl) (pv 0) Zd (fun _ _=>rfl)) Zb))) (Za (Zs (Zhp (K:=K) rfl) (pv 0) Zd (fun _ _=>rfl)) Zb))))))
 (Ze (Zw (Z7 (Za (Zs (Z6 (K':=K) rfl) (pv 6) Zd (fun _ _=>rfl)) (Za (Zs (Z6 (K':=K) rfl) (pv 6) Zd (fun _ _=>rfl)) (Za (pv 3) Zb)))))))))),fun _=>(Zx (by symm) (Zx (by symm) (Zx (by symm) (Zx (Xr (Zl1 (by symm)) (s_g 6)) (by symm))))),fun ds M Kk hM hD h=>?_⟩
  obtain ⟨k0,S,a,b,u,rfl,h⟩:=h;obtain ⟨hk,⟨fr,fi⟩,k⟩:=h;exists ·,·,_,_,·,rfl,rfl,·,_,_,·,rfl,rfl,S,a.1,b.1,rfl,⟨fr,fi⟩,?_;have hsl:∀ {t:List Int} {j:Nat},cut (t.map D.int) (some (j:Int)) none=(t.drop j).map D.int:=fun {t j}=>by rw [Vd,Xv]
  unfold cpF at k;cases e:csT S a.1 b.1 with
  | none =>
   rw [e] at k;exists ·,·,iteT (.inl k)
  | some j =>
   rw [e] at k;exists ·,·,iteF ?_;exists ·,·,by show 2<=sizeLine; decide,·,?_,fun i ys M'=>M=M'/\ys=([sdD (a.1.drop j,a.2),sdD (b.1.drop j,b.2)]:List D).take i,fun _ _ _ _ _=>trivial,⟨rfl,rfl⟩,?_,?_
   ·show 2<=sizeLine
    decide
   ·rintro i x ys _ hi hx ⟨rfl,rfl⟩;have hi:i<2:=hi;obtain ⟨s,rfl,es⟩:∃ s:Sd,x=sdD s/\([sdD (a.1.drop j,a.2),sdD (b.1.drop j,b.2)]:List D).take (i+1)=([sdD (a.1.drop j,a.2),sdD (b.1.drop j,b.2)]:List D).take i++[sdD (s.1.drop j,s.2)]:=by
     match i,hi with
     | 0,_=>cases hx;exists a,rfl,rfl
     | 1,_=>cases hx;exists b,rfl,rfl
    exists ·,rfl,_,·,_,·,rfl,·,·,·,?_;dsimp only [Uv,Zaa,N9,sl3,wD];rw [hsl];exists ·,by show 2<=sizeLine; decide,rfl,es.symm
   ·rintro ys _ ⟨rfl,rfl⟩;exists ·,k0,_,sdD (a.1.drop j,a.2),sdD (b.1.drop j,b.2),a.1.drop j,b.1.drop j,rfl,hk,rfl,.mk (.inl rfl),.mk (.inl rfl),?_;have k:Kk (cpD (ordC (a.1.drop j,a.2) (b.1.drop j,b.2) u)) M:=k;unfold ordC at k;unfold twoD
    by_cases hl:sdLt (b.1.drop j) (a.1.drop j)=true
    ·rw [F1 hl] at k ⊢;exists ·,_,_,·,rfl,rfl,·,_,_,·,rfl,rfl,·,by show 3<=sizeLine; decide,.inl k
    ·rw [F0 hl] at k ⊢;exists ·,_,_,·,rfl,rfl,·,_,_,·,rfl,rfl,·,by show 3<=sizeLine; decide,.inl k
open L3
def Jac (T:Txt mg) {C:Addr}  {f:Addr} (F:Fun K "with_sign" "with_sign" Vz f fd):FnOk P w K mg base CX0 1 f fd ["side", "sign", "word"] (spOf ⟨C,K⟩ (dWSign K)):=by
 refine L3.Fun.ok3 F Jcc (fun ds M K3 h=>?_) (fun cdv A outer s H E hr=>?_)
 ·obtain ⟨d,s,p,rfl,_⟩:=h;rfl
 ·have SC:=Jcc;have hu:=hr.units;have hu1:=Xl hr;exists _,_,(Ze (Zw (Z7 (Za (Zt (Zed (K':=K) rfl) (Zs (Z6 (K':=K) rfl) (pv 0) Zd (fun _ _=>rfl)) (pv 2)) (Za (Zt (Zed (K':=K) rfl) (Zs (Z6 (K':=K) rfl) (pv 0) Zd (fun _ _=>rfl)) (Z7 (Za (pv 1) Zb))) Zb))))),fun _=>(Uf (Zdj (Yq (s_op Zkg (s_op Zfd (Yg 0) Xq) (Yg 2)) (Yq (s_op Zkg (s_op Zfd (Yg 0) Xq) (by symm)) Wo)))),fun ds M Kk hM hD h=>?_;obtain ⟨d,s,p,rfl,h⟩:=h;obtain ⟨hs,⟨hne,l1,l2⟩,k⟩:=h;exists ·,.i0 s hs rfl fun x hx _=>⟨_,rfl,s.1,p.2,hx,rfl,l1,hne,⟨_,rfl,.i1 s hs rfl fun y hy _=>⟨_,rfl,by show 1<=sizeLine; decide,s.2,[p.1],hy,rfl,l2,List.cons_ne_nil _ _,?_⟩⟩⟩
  exists by show 2<=sizeLine; decide,.inl k
open L3
def ptI (S1 S:List Pr) (c:Cpl) (i:Nat):List (Option Cpl):=match S1[i]? with
 | some p=>cpF S (wsd c.1 p) (wsd c.1 p) false::(S1.take i).map fun q=>cpF S (wsd c.1 p) (wsd c.1 q) true
 | none=>[]
def Zfv {c:Cpl} (i:Nat):(List.range (i+1)).flatMap (ptI S1 S c)=(List.range i).flatMap (ptI S1 S c)++ptI S1 S c i:=by rw [List.range_succ,List.flatMap_append]; simp
def Zkl {c:Cpl} {i:Nat} (h:i<S1.length):ptI S1 S c i=cpF S (wsd c.1 S1[i]) (wsd c.1 S1[i]) false::(S1.take i).map fun q=>cpF S (wsd c.1 S1[i]) (wsd c.1 q) true:=by
 unfold ptI;rw [Jb h]
theorem Zkm {c:Cpl} (l1:S1.length<=20):∀ i,i<=S1.length->((List.range i).flatMap (ptI S1 S c)).length<=i*21
 | 0,_=>Jd _
 | i+1,h=>by
  have:((List.range i).flatMap (ptI S1 S c)).length<=i*21:=Zkm l1 i (by lia);rw [Zfv,Jc,Zkl (by lia:i<S1.length),Jq,Ja,Jt];lia
theorem Jbe (T:Txt mg) {C:Addr} {q:Str} (Ra:Met P w K mg base C "table" 1 ["self"] (spOf ⟨C,K⟩ dCTable)) (Yt:Cal P w K mg base "with_sign" 1 ["side", "sign", "word"] (spOf ⟨C,K⟩ (dWSign K))) (Xc:Cal P w K mg base "coupled" 5 ["code", "one", "other", "unlike"] (spOf ⟨C,K⟩ (dCoup Pt pos q))) {f:Addr} (F:Fun K "pairs_taken" "pairs_taken" Wn f fd):FnOk P w K mg base CX0 6 f fd ["one", "other", "couple"] (spOf ⟨C,K⟩ (dPairsT K Pt pos q)):=by
 refine L3.Fun.ok3 F Jbn (fun ds M K3 h=>?_) (fun cdv A outer s H E hr=>?_)
 ·obtain ⟨k0,S1,S,d,c,rfl,_⟩:=h;rfl
 ·have SC:=Jbn;have hu:=hr.units;have hu1:=Xl hr;have Qt:Room 1 _:=hr.mono nofun;have Xa:Room 1 _:=hr.mono nofun;have Wj:Room 5 _:=hr.mono nofun;refine ⟨_,_,(Zc (Zl (i:=3) SC.nd rfl (Or.inl rfl) (Yr Zb))
 (Zc (Zl (i:=4) SC.nd rfl (Or.inl rfl) (Zkr (pv 0) Ra Qt))
 (Zc (Xs PassesOwn.never rfl (Zmt rfl T.b_enumerate (Za (pv 4) Zb)) (Xt (n:=2) rfl (Zv (Zn (i:=5) SC.nd rfl (Or.inl rfl)) (Zv (Zn (i:=6) SC.nd rfl (Or.inl rfl)) Yx)) (by rfl))
 (Zc (Zl (i:=7) SC.nd rfl (Or.inr rfl) (Zo Yt Xa rfl (Za (Zs (Z6 (K':=K) rfl) (pv 2) Zd (fun _ _=>rfl)) (Za (Zs (Z6 (K':=K) rfl) (pv 6) Zd (fun _ _=>rfl)) (Za (Zs (Z6 (K':=K) rfl) (pv 6) Zd (fun _ _=>rfl)) Zb)))))
 (Zc (Wq (Zav PySem.F.plainAttrs_list PySem.F.slot_list_append PySem.F.type_list_append Uh (pv 3) (Za (Zo Xc Wj rfl (Za (pv 1) (Za (pv 7) (Za (pv 7) (Za Rg Zb))))) Zb)))
 (Zc (Vb (i:=8) SC.nd rfl rfl (T:=["sign", "word"]) (cs:=[2]) rfl (CScope.ok (by kernel_rfl)) (Yk (Z0 (X5 (K':=K) rfl) (pv 4) Ya (Z5 (pv 5)))) (fun _ _ _ _=>(Xt (n:=2) rfl (Zv (Zn (i:=0) (Yz (by kernel_rfl)) rfl (Or.inl rfl) (Or.inr rfl)) (Zv (Zn (i:=1) (Yz (by kernel_rfl)) rfl (Or.inl rfl) (Or.inr rfl)) Yx)) (by rfl))) (fun _ _ _ _=>Yo) (fun _ _ _ _=>(Zo Yt Xa rfl (Za (Zs (Z6 (K':=K) rfl) (pv 2) Zd (fun _ _=>rfl)) (Za (pv 0) (Za (pv 1) Zb))))) (Uo (Yd nofun (Yd nofun Wu))))
 (Ze (Wq (Zav PySem.F.plainAttrs_list PySem.F.slot_list_extend PySem.F.type_list_extend T8 (pv 3) (Za (Y6 (T:=["second"]) (cs:=[1,7]) rfl (CScope.ok (by kernel_rfl)) (Yk (pv 8)) (fun _ _ _ _=>(Zn (i:=0) (Yz (by kernel_rfl)) rfl (Or.inl rfl) (Or.inr rfl))) (fun _ _ _ _=>Yo) (fun _ _ _ _=>(Zo Xc Wj rfl (Za (pv 1) (Za (pv 2) (Za (pv 0) (Za Rg Zb)))))) (Xf nofun)) Zb))))))))
 (Ze (Zw (pv 3)))))),fun _=>(Zx (Xr (Po Wo) (s_g 3)) (Zx (Xr (Zan (fun _ _ _ _ _=>rfl) (Yg 0) Wo) (s_g 4)) (Zx (Zdk (s_ie (by symm)) (by symm) (Zx (Xr (Pp (Yq (s_op Re (Yg 2) Xq) (by symm))) (s_g 7)) (Zx (by symm) (Zx (Xr (Zke (by symm) (by symm) Zfa (Pp (Yq (s_op Re (Yg 2) Xq) (by symm)))) (s_g 8)) (by symm))))) (Uf (Yg 3))))),fun ds M Kk hM hD h=>?_⟩
  obtain ⟨k0,S1,S,d,c,rfl,h⟩:=h;obtain ⟨hk,hc,⟨fi1,fr,fi,l1,sm⟩,k⟩:=h;have ll:(S1.map pD).length=S1.length:=Ja _;have k:Kk (.cell M.length) (M++[.lst (((List.range S1.length).flatMap (ptI S1 S c)).map ocD)]):=k;exists by show 0<=sizeLine; decide,·,⟨_,rfl⟩,S1,rfl,?_;exists ·,_,·,rfl,fun i ρ M'=>M++[.lst (((List.range i).flatMap (ptI S1 S c)).map ocD)]=M'/\∃ v5 v6 v7 v8,ρ=[some (.code S1),some (.code S),some d,some (.cell M.length),some (.lst (S1.map pD)),v5,v6,v7,v8],?_,?_,?_,?_
  ·rintro i ρ _ _ ⟨rfl,_⟩;rfl
  ·exists rfl,_,_,_,·
  ·rintro i x ρ _ hi ⟨y,hy,rfl⟩ ⟨rfl,v5,v6,v7,v8,rfl⟩;obtain ⟨hi',rfl⟩:=Yc hy;have hd20:i<=20:=by lia
   have hpl:=Zkm (S:=S) (c:=c) l1 i (by lia);have ep:=Zkl (S:=S) (c:=c) hi';have es:=Zfv (S1:=S1) (S:=S) (c:=c) i;generalize (List.range i).flatMap (ptI S1 S c)=os at hpl es ⊢;have hN:∀ xs:List D,(M++[MO.lst xs])[M.length]?=some (.lst xs):=fun xs=>by rw [Gx]
   have hk':∀ xs:List D,(M++[MO.lst xs])[k0]?=some (.tab Pt pos q):=fun xs=>by rw [Jv (Y5 hk)]; exact hk
   have hset:∀ xs ys:List D,(M++[MO.lst xs]).set M.length (.lst ys)=M++[.lst ys]:=fun xs ys=>by simp
   have lo:(os.map ocD).length=os.length:=Ja _;exists ·,rfl,_,·,_,·,rfl,·,.i0 c hc rfl fun x hx _=>⟨_,rfl,_,_,_,rfl,rfl,rfl,_,rfl,_,_,_,rfl,rfl,rfl,x,c.1,S1[i],rfl,hx,sz82 fi1 (Jr hi') sm.1 sm.2.2.1,?_⟩;exists ·,Ql (T9 (hN _)),·,·,·,k0,S,wsd c.1 S1[i],wsd c.1 S1[i],false,rfl,hk' _,⟨fr,fi⟩,?_;exists M.length,_,·,rfl,hN _,?_,?_
   ·rw [lo];exact Zk (by lia)
   rw [hset];exists ·,·,·,?_;dsimp only [Uv,Zaa,N9,sl3,Zoj,Zoi,Zoc,Zab,Zej,Zln,Zof,Zaa,N9,Zj6];exists ·,?_;rw [Vd,Xg];have lt:(S1.take i).length=i:=by rw [Jt]; lia
   have mt:∀ {j:Nat} (h:j<(S1.take i).length),(S1.take i)[j]∈S1:=fun h=>G0 (Jr h);generalize S1.take i=T1 at lt mt ep ⊢;have lt2:(T1.map pD).length=i:=by rw [Ja,lt]
   generalize eN:os.map ocD++[ocD (cpF S (wsd c.1 S1[i]) (wsd c.1 S1[i]) false)]=os2;have lo2:os2.length=os.length+1:=by rw [<- eN,Jc,lo]; rfl
   exists ·,?_,fun j ys M'=>M++[MO.lst os2]=M'/\ys=(T1.take j).map fun p=>sdD (wsd c.1 p),fun _ _ _ _ _=>rfl,⟨rfl,rfl⟩,?_,?_
   ·show (T1.map pD).length<=sizeLine;rw [lt2];exact Zk (by lia)
   ·rintro j x ys _ hj hx ⟨rfl,rfl⟩;obtain ⟨hj',rfl⟩:=Yc hx;exists ·,rfl,_,·,_,·,rfl,·,.i0 c hc rfl fun x hx _=>⟨_,rfl,_,rfl,x,c.1,T1[j],rfl,hx,sz82 fi1 (mt hj') sm.1 sm.2.2.1,rfl,?_⟩;rw [Ji hj',Jf];rfl
   rintro ys _ ⟨rfl,rfl⟩;rw [show T1.take _=T1 from by rw [show (T1.map pD).length=T1.length from Ja _]; exact Jw];exists ·,Ql (T9 (hN _)),·,·,?_,fun j ys M'=>M++[MO.lst os2]=M'/\ys=(T1.take j).map fun p=>ocD (cpF S (wsd c.1 S1[i]) (wsd c.1 p) true),fun _ _ _ _ _=>rfl,⟨rfl,rfl⟩,?_,?_
   ·show (T1.map fun p=>sdD (wsd c.1 p)).length<=sizeLine;rw [Ja,lt];exact Zk (by lia)
   ·rintro j x ys _ hj hx ⟨rfl,rfl⟩;obtain ⟨hj',rfl⟩:=Yc (f:=fun p=>sdD (wsd c.1 p)) hx;exists ·,·,·,k0,S,wsd c.1 S1[i],wsd c.1 T1[j],true,rfl,hk' _,⟨fr,fi⟩,rfl,?_;exact (Zaw hj').symm
   rintro ys _ ⟨rfl,rfl⟩;rw [show T1.take _=T1 from by rw [show (T1.map fun p=>sdD (wsd c.1 p)).length=T1.length from Ja _]; exact Jw];exists M.length,_,_,·,rfl,hN _,rfl,?_,?_
   ·rw [lo2,Ja,lt];exact Zk (by lia)
   rw [hset];refine .inl ⟨?_,_,_,_,_,rfl⟩;rw [es,ep,<- eN,Jf,Ju,Gd,Ga];rfl
  ·rintro ρ _ ⟨rfl,v5,v6,v7,v8,rfl⟩;rw [show (List.range _).flatMap (ptI S1 S c)=(List.range S1.length).flatMap (ptI S1 S c) from by rw [show (S1.map pD).length=S1.length from ll]];exists ·,.inl k
open L3
theorem Dm (T:Txt mg) {C:Addr} {q:Str} (Ra:Met P w K mg base C "table" 1 ["self"] (spOf ⟨C,K⟩ dCTable)) (Yt:Cal P w K mg base "with_sign" 1 ["side", "sign", "word"] (spOf ⟨C,K⟩ (dWSign K))) (Xc:Cal P w K mg base "coupled" 5 ["code", "one", "other", "unlike"] (spOf ⟨C,K⟩ (dCoup Pt pos q))) {f:Addr} (F:Fun K "signs_taken" "signs_taken" Wm f fd):FnOk P w K mg base CX0 6 f fd ["one", "other", "couple"] (spOf ⟨C,K⟩ (dSignsT Pt pos q)):=by
 refine L3.Fun.ok3 F Jax (fun ds M K3 h=>?_) (fun cdv A outer s H E hr=>?_)
 ·obtain ⟨k0,S1,S,c,rfl,_⟩:=h;rfl
 ·have SC:=Jax;have hu:=hr.units;have hu1:=Xl hr;have Qt:Room 1 _:=hr.mono nofun;have Xa:Room 1 _:=hr.mono nofun;have Wj:Room 5 _:=hr.mono nofun;refine ⟨_,_,(Zc (Zl (i:=3) SC.nd rfl (Or.inl rfl) (Zkr (pv 0) Ra Qt))
 (Zc (Vb (i:=4) SC.nd rfl rfl (T:=["sign", "word"]) (cs:=[2]) rfl (CScope.ok (by kernel_rfl)) (Yk (pv 3)) (fun _ _ _ _=>(Xt (n:=2) rfl (Zv (Zn (i:=0) (Yz (by kernel_rfl)) rfl (Or.inl rfl) (Or.inr rfl)) (Zv (Zn (i:=1) (Yz (by kernel_rfl)) rfl (Or.inl rfl) (Or.inr rfl)) Yx)) (by rfl))) (fun _ _ _ _=>Yo) (fun _ _ _ _=>(Zo Yt Xa rfl (Za (Zs (Z6 (K':=K) rfl) (pv 2) Zd (fun _ _=>rfl)) (Za (pv 0) (Za (pv 1) Zb))))) (Uo (Yd nofun (Yd nofun Wu))))
 (Zc (Vb (i:=5) SC.nd rfl rfl (T:=["side"]) (cs:=[1,2]) rfl (CScope.ok (by kernel_rfl)) (Yk (pv 4)) (fun _ _ _ _=>(Zn (i:=0) (Yz (by kernel_rfl)) rfl (Or.inl rfl) (Or.inr rfl))) (fun _ _ _ _=>Yo) (fun _ _ _ _=>(Zo Xc Wj rfl (Za (pv 1) (Za (Zs (Z6 (K':=K) rfl) (pv 2) Zd (fun _ _=>rfl)) (Za (pv 0) (Za Rg Zb)))))) (Xf nofun))
 (Zc (Yw (Z1 (Ua (K':=K) rfl hu) (Zh (Z9 (K:=K) rfl) (by rfl) T.b_len F6 (Za (Zs (Z6 (K':=K) rfl) (Zs (Z6 (K':=K) rfl) (pv 2) Zd (fun _ _=>rfl)) Zd (fun _ _=>rfl)) Zb)) (Zh (Z9 (K:=K) rfl) (by rfl) T.b_len F6 (Za (Zs (Z6 (K':=K) rfl) (Zs (Z6 (K':=K) rfl) (pv 2) Zd (fun _ _=>rfl)) Zd (fun _ _=>rfl)) Zb)) (Z2 _))
 (Zc (Vb (i:=6) SC.nd rfl rfl (T:=["sign", "word"]) (cs:=[2]) rfl (CScope.ok (by kernel_rfl)) (Yk (pv 3)) (fun _ _ _ _=>(Xt (n:=2) rfl (Zv (Zn (i:=0) (Yz (by kernel_rfl)) rfl (Or.inl rfl) (Or.inr rfl)) (Zv (Zn (i:=1) (Yz (by kernel_rfl)) rfl (Or.inl rfl) (Or.inr rfl)) Yx)) (by rfl))) (fun _ _ _ _=>Yo) (fun _ _ _ _=>(Zo Yt Xa rfl (Za (Zs (Z6 (K':=K) rfl) (pv 2) Zd (fun _ _=>rfl)) (Za (pv 0) (Za (pv 1) Zb))))) (Uo (Yd nofun (Yd nofun Wu))))
 (Ze (Wq (Zav PySem.F.plainAttrs_list PySem.F.slot_list_extend PySem.F.type_list_extend T8 (pv 5) (Za (Y6 (T:=["side"]) (cs:=[1,2]) rfl (CScope.ok (by kernel_rfl)) (Yk (pv 6)) (fun _ _ _ _=>(Zn (i:=0) (Yz (by kernel_rfl)) rfl (Or.inl rfl) (Or.inr rfl))) (fun _ _ _ _=>Yo) (fun _ _ _ _=>(Zo Xc Wj rfl (Za (pv 1) (Za (pv 0) (Za (Zs (Z6 (K':=K) rfl) (pv 2) Zd (fun _ _=>rfl)) (Za Rg Zb)))))) (Xf nofun)) Zb)))))
 Z4)
 (Ze (Zw (pv 5))))))),fun _=>(Zx (Xr (Zan (fun _ _ _ _ _=>rfl) (Yg 0) Wo) (s_g 3)) (Zx (by symm) (Zx (Xr (Zmb (s_il (Yg 4)) (s_g 0) Zfa (by symm)) (s_g 5)) (by symm)))),fun ds M Kk hM hD h=>?_⟩
  obtain ⟨k0,S1,S,c,rfl,h⟩:=h;obtain ⟨hk,⟨fi1,fr,fi,l1,sm⟩,k⟩:=h;have ll:(S1.map pD).length=S1.length:=Ja _;have lw:∀ s:Sd,(S1.map fun p=>sdD (wsd s p)).length=S1.length:=fun s=>Ja _;exists ·,⟨_,rfl⟩,S1,rfl,?_;exists ·,·,?_,fun i ys M'=>M=M'/\ys=(S1.take i).map fun p=>sdD (wsd c.2.1 p),fun _ _ _ _ _=>rfl,⟨rfl,rfl⟩,?_,?_
  ·show (S1.map pD).length<=sizeLine;rw [ll];exact Zk (by lia)
  ·rintro i x ys _ hi hx ⟨rfl,rfl⟩;obtain ⟨hi',rfl⟩:=Yc hx;exists ·,rfl,_,·,_,·,rfl,·,_,_,·,rfl,rfl,·,·,_,c.2.1,S1[i],rfl,.tup _,sz82 fi1 (Jr hi') sm.2.1 sm.2.2.2,rfl,?_;rw [Ji hi',Jf];rfl
  rintro ys _ ⟨rfl,rfl⟩;rw [show S1.take _=S1 from by rw [show (S1.map pD).length=S1.length from ll]; exact Jw];exists ·,·,?_,fun i ys M'=>M=M'/\ys=(S1.take i).map fun p=>ocD (cpF S c.1 (wsd c.2.1 p) true),fun _ _ _ _ _=>rfl,⟨rfl,rfl⟩,?_,?_
  ·show (S1.map fun p=>sdD (wsd c.2.1 p)).length<=sizeLine;rw [lw];exact Zk (by lia)
  ·rintro i x ys _ hi hx ⟨rfl,rfl⟩;obtain ⟨hi',rfl⟩:=Yc (f:=fun p=>sdD (wsd c.2.1 p)) hx;exists ·,·,_,_,·,rfl,rfl,·,k0,S,c.1,wsd c.2.1 S1[i],true,rfl,hk,⟨fr,fi⟩,rfl,?_;exact (Zaw hi').symm
  rintro ys _ ⟨rfl,rfl⟩;rw [show S1.take _=S1 from by rw [show (S1.map fun p=>sdD (wsd c.2.1 p)).length=S1.length from lw _]; exact Jw];unfold stF2 at k;have lt1:(c.1.1.map D.int).length=c.1.1.length:=Ja _;have lt2:(c.2.1.1.map D.int).length=c.2.1.1.length:=Ja _;exists ·,_,_,·,rfl,rfl,_,_,·,rfl,rfl,·,?_;exists ·,_,_,·,rfl,rfl,_,_,·,rfl,rfl,·,?_;refine Su W5 (a:=(((c.1.1.map D.int).length:Nat):Int)) (b:=(((c.2.1.1.map D.int).length:Nat):Int)) ⟨_,rfl,ite2 (fun h0=>?_) (fun h0=>?_)⟩
  ·have h0:c.1.1.length=c.2.1.1.length:=by have:=Fq h0; rw [lt1,lt2] at this; lia
   rw [F1 h0] at k;rw [Jf,Gd,Gd] at k;have k:Kk (.cell M.length) (M++[.lst ((S1.map fun p=>ocD (cpF S c.1 (wsd c.2.1 p) true))++S1.map fun p=>ocD (cpF S (wsd c.1 p) c.2.1 true))]):=k;generalize eN:(S1.map fun p=>ocD (cpF S c.1 (wsd c.2.1 p) true))=os at k ⊢;have los:os.length=S1.length:=by rw [<- eN,Ja]
   have hN:(M++[MO.lst os])[M.length]?=some (.lst os):=by rw [Gx]
   have hk':(M++[MO.lst os])[k0]?=some (.tab Pt pos q):=by rw [Jv (Y5 hk)]; exact hk
   exists ·,·,?_,fun i ys M'=>M++[MO.lst os]=M'/\ys=(S1.take i).map fun p=>sdD (wsd c.1 p),fun _ _ _ _ _=>rfl,⟨rfl,rfl⟩,?_,?_
   ·show (S1.map pD).length<=sizeLine;rw [ll];exact Zk (by lia)
   ·rintro i x ys _ hi hx ⟨rfl,rfl⟩;obtain ⟨hi',rfl⟩:=Yc hx;exists ·,rfl,_,·,_,·,rfl,·,_,_,·,rfl,rfl,·,·,_,c.1,S1[i],rfl,.tup _,sz82 fi1 (Jr hi') sm.1 sm.2.2.1,rfl,?_;rw [Ji hi',Jf];rfl
   rintro ys _ ⟨rfl,rfl⟩;rw [show S1.take _=S1 from by rw [show (S1.map pD).length=S1.length from ll]; exact Jw];exists ·,Ql (T9 hN),·,·,?_,fun i ys M'=>M++[MO.lst os]=M'/\ys=(S1.take i).map fun p=>ocD (cpF S (wsd c.1 p) c.2.1 true),fun _ _ _ _ _=>rfl,⟨rfl,rfl⟩,?_,?_
   ·show (S1.map fun p=>sdD (wsd c.1 p)).length<=sizeLine;rw [lw];exact Zk (by lia)
   ·rintro i x ys _ hi hx ⟨rfl,rfl⟩;obtain ⟨hi',rfl⟩:=Yc (f:=fun p=>sdD (wsd c.1 p)) hx;exists ·,·,·,_,_,·,rfl,rfl,k0,S,wsd c.1 S1[i],c.2.1,true,rfl,hk',⟨fr,fi⟩,rfl,?_;exact (Zaw hi').symm
   rintro ys _ ⟨rfl,rfl⟩;rw [show S1.take _=S1 from by rw [show (S1.map fun p=>sdD (wsd c.1 p)).length=S1.length from lw _]; exact Jw];exists M.length,_,_,·,rfl,hN,rfl,?_,?_
   ·rw [los,Ja];exact Zk (by lia)
   ·rw [show (M++[MO.lst os]).set M.length (.lst (os++S1.map fun p=>ocD (cpF S (wsd c.1 p) c.2.1 true)))=M++[.lst (os++S1.map fun p=>ocD (cpF S (wsd c.1 p) c.2.1 true))] from by simp];exists ·,.inl k
  ·have h0:¬ c.1.1.length=c.2.1.1.length:=fun e=>by have:=Ft ((Gu _).mp h0); rw [lt1,lt2] at this; exact this (by rw [e])
   rw [F0 h0,Gi,Gd] at k;exists ·,.inl k
open L3
def Jak (T:Txt mg) {C:Addr}  {f:Addr} (F:Fun K "state_of" "state_of" Ux f fd):FnOk P w K mg base CX0 1 f fd ["couple"] (spOf ⟨C,K⟩ (dState K)):=by
 refine L3.Fun.ok3 F Jbl (fun ds M K3 h=>?_) (fun cdv A outer s H E hr=>?_)
 ·obtain ⟨d,c,rfl,_⟩:=h;rfl
 ·have SC:=Jbl;have hu:=hr.units;have hu1:=Xl hr;refine ⟨_,_,(Zc (Zl (i:=1) SC.nd rfl (Or.inl rfl) (Zs (Z6 (K':=K) rfl) (Zs (Z6 (K':=K) rfl) (pv 0) Zd (fun _ _=>rfl)) Zd (fun _ _=>rfl)))
 (Zc (Zl (i:=2) SC.nd rfl (Or.inl rfl) (Zh (Z9 (K:=K) rfl) (by rfl) T.b_len F6 (Za (Zs (Z6 (K':=K) rfl) (Zs (Z6 (K':=K) rfl) (pv 0) Zd (fun _ _=>rfl)) Zd (fun _ _=>rfl)) Zb)))
 (Ze (Zw (Z7 (Za (Z0 (X5 (K':=K) rfl) (pv 1) (Z5 (pv 2)) Ya) (Za (Z0 (X5 (K':=K) rfl) (pv 1) Ya (Z5 (pv 2))) (Za (Zs (Z6 (K':=K) rfl) (Zs (Z6 (K':=K) rfl) (pv 0) Zd (fun _ _=>rfl)) Zd (fun _ _=>rfl)) (Za (Zs (Z6 (K':=K) rfl) (pv 0) Zd (fun _ _=>rfl)) Zb))))))))),fun _=>(Zx (Xr (s_op Zfd (s_op Re (Yg 0) Xq) Xq) (s_g 1)) (Zx (Xr (s_cb Zpz (Yq (s_op Zfd (s_op Re (Yg 0) Xq) Xq) Wo)) (s_g 2)) (Uf (Zdj (Yq (s_sl Zpn (Yg 1) (Zb5 (Yg 2)) Tm) (Yq (s_sl Zpn (Yg 1) Tm (Zb5 (Yg 2))) (Yq (s_op Zfd (s_op Re (Yg 0) Xq) Xq) (Yq (s_op Re (Yg 0) Xq) Wo)))))))),fun ds M Kk hM hD h=>?_⟩
  obtain ⟨d,c,rfl,h⟩:=h;obtain ⟨hc,k⟩:=h;exists ·,.i0 c hc rfl fun sd hsd esd=>.i0 c.1 hsd rfl fun tl htl etl=>⟨_,rfl,.i1 c hc rfl fun se hse ese=>.i0 c.2.1 hse rfl fun tr htr etr=>?_⟩;exists tr,c.2.1.1,rfl,htr,·,?_;exists ·,·,c.1.1,htl,fun a ha ea=>⟨_,rfl,_,rfl,_,rfl,c.1.1,htl,fun b hb eb=>?_⟩;exists ·,.i1 c hc rfl fun sf hsf esf=>.i0 c.2.1 hsf rfl fun tq htq etq=>⟨_,rfl,.i2 c hc rfl ?_⟩;rw [Xv] at ha ea;rw [Xg] at hb eb;exists by show 4<=sizeLine; decide,.inl (k _ (StD.mk (t:=tlC c) ha hb htq fun u=>?_));have ec:=hc.un u;have e1:=etl (esd ec);exists ea e1,eb e1,etq (esf ec)
open L3
theorem Jaa (T:Txt mg) {C:Addr} (Pa:Cal P w K mg base "spill" 4 ["code", "row"] (spOf ⟨C,K⟩ dSpillT)) {f:Addr} (F:Fun K "is_end" "is_end" Qf f fd):FnOk P w K mg base CX0 5 f fd ["code", "state"] (spOf ⟨C,K⟩ dIsEnd):=by
 refine L3.Fun.ok3 F Jbf (fun ds M K3 h=>?_) (fun cdv A outer s H E hr=>?_)
 ·obtain ⟨S,d,t,rfl,_⟩:=h;rfl
 ·have SC:=Jbf;have hu:=hr.units;have hu1:=Xl hr;have Zcv:Room 4 _:=hr.mono nofun;exists _,_,(Ze (Zw (Zci (Zs (Z6 (K':=K) rfl) (pv 1) Zd (fun _ _=>rfl)) (Zci (Xu (Ua (K':=K) rfl hu) (Zs (Z6 (K':=K) rfl) (pv 1) Zd (fun _ _=>rfl)) (Z7 Zb) (Z2 _)) (Zf1 (Xu (Ua (K':=K) rfl hu) (Zo Pa Zcv rfl (Za (pv 0) (Za (Zs (Z6 (K':=K) rfl) (pv 1) Zd (fun _ _=>rfl)) Zb))) (Zo Pa Zcv rfl (Za (pv 0) (Za (Zs (Z6 (K':=K) rfl) (pv 1) Zd (fun _ _=>rfl)) Zb))) (Z2 _))))))),fun _=>(by symm),fun ds M Kk hM hD h=>?_;obtain ⟨S,d,t,rfl,h⟩:=h;obtain ⟨hs,⟨fr,fi,l1,l2⟩,k⟩:=h;cases hs with
  | @mk x y z t hx hy hz hu =>
  exists ·,_,_,·,rfl,rfl,·,?_;cases he:t.2.2 with
  | false =>
   have e:isE S t=false:=by unfold isE; rw [he]; rfl
   rw [e] at k;exact iteF (.inl (k M (Jk _)))
  | true =>
   obtain ⟨rfl,rfl,rfl⟩:=hu he;refine iteT ⟨_,rfl,_,_,_,rfl,rfl,rfl,?_⟩;exists by show 0<=sizeLine; decide,Su (Tc W5) (a:=t.1.drop t.2.1.length) (b:=[]) ⟨_,rfl,ite2 (fun h0=>?_) (fun h0=>?_)⟩
   ·have h0:=Fq h0;exists ·,·,_,_,·,rfl,rfl,S,·,fi,by rw [Jt]; lia,fun R1 t1=>?_;exists ·,·,_,_,·,rfl,rfl,S,·,fi,by lia,fun R2 t2=>?_;refine Zbe encO (a:=osOf R1) (b:=osOf R2) (Zqu Zcp) Zcp (.inl ?_);rw [<- Zbm fr (fun p hp=>(fi.2 p hp).1) t1,<- Zbm fr (fun p hp=>(fi.2 p hp).1) t2];have e:isE S t=decide (E2 S (t.1.take t.2.1.length)=E2 S t.2.1):=by unfold isE; rw [he,h0,decide_eq_true rfl,Bool.true_and,Bool.true_and]
    rw [e] at k;exact k _ ((Js _ _).trans (Js _ _))
   ·have e:isE S t=false:=by unfold isE; rw [he,(Bool.not_eq_true _).mp h0]; rfl
    rw [e] at k;exact .inl (k M (Jk _))
open L3
theorem Dq (T:Txt mg) {C:Addr} {Yb:Addr} {q:Str} (Wc:mg "FIRST_COUPLE"=some (.ref Yb)) (fc:L2.Zjs K Yb=true) (U6:Cal P w K mg base "state_of" 1 ["couple"] (spOf ⟨C,K⟩ (dState K))) (Pb:Cal P w K mg base "is_end" 5 ["code", "state"] (spOf ⟨C,K⟩ dIsEnd)) (Wz:Cal P w K mg base "signs_taken" 6 ["one", "other", "couple"] (spOf ⟨C,K⟩ (dSignsT Pt pos q))) (W0:Cal P w K mg base "pairs_taken" 6 ["one", "other", "couple"] (spOf ⟨C,K⟩ (dPairsT K Pt pos q))) {f:Addr} (F:Fun K "walked" "walked" Qe f fd):FnOk P w K mg base CX0 7 f fd ["one", "other"] (spOf ⟨C,K⟩ (dWalked Pt pos q)):=by
 refine L3.Fun.ok3 F Dn (fun ds M K3 h=>?_) (fun cdv A outer s H E hr=>?_)
 ·obtain ⟨k0,S1,S,rfl,_⟩:=h;rfl
 ·have SC:=Dn;have hu:=hr.units;have hu1:=Xl hr;have Za8:Room 1 _:=hr.mono nofun;have Zgx:Room 5 _:=hr.mono nofun;have Rj:Room 6 _:=hr.mono nofun;have Rl:Room 6 _:=hr.mono nofun;refine ⟨_,_,(Zc (Zl (i:=2) SC.nd rfl (Or.inl rfl) Zch)
 (Zc (Zl (i:=3) SC.nd rfl (Or.inl rfl) (Zm0 (Ziv Zd (Yr (Za (Zmz (v:=.ref Yb) rfl Wc rfl) Zb)) Zmr) rfl rfl (fun z=>nomatch z) nofun))
 (Zc (Zl (i:=4) SC.nd rfl (Or.inl rfl) Zd)
 (Zc (Tp PassesOwn.never (Z1 Qh (Zh Zjw (by rfl) T.b_len F6 (Za (pv 3) Zb)) Zd (Z2 _))
 (Zc (Zl (i:=5) SC.nd rfl (Or.inl rfl) (Zi2 (pv 3) (pv 4) (Yr Zb) ⟨rfl,rfl,rfl,rfl⟩))
 (Zc (Xs PassesOwn.never rfl (Yk (pv 5)) (Zn (i:=6) SC.nd rfl (Or.inl rfl))
 (Zc (Zl (i:=7) SC.nd rfl (Or.inl rfl) (Zo U6 Za8 rfl (Za (pv 6) Zb)))
 (Zc (Yw (X1 (Zkt (K:=K) rfl (Pe hr) (pv 7) (pv 2)))
 (Ze Zat)
 Z4)
 (Zc (Yw (Rp (Zo Pb Zgx rfl (Za (pv 1) (Za (pv 7) Zb))))
 (Ze (Zw (Z7 (Za (pv 2) (Za (Z7 (Za (Zy (Sw (K:=K) rfl) (by rfl) T.b_list PyProof.Rows.boot_list (Za (Zs (Z6 (K':=K) rfl) (Zs (Z6 (K':=K) rfl) (pv 6) Zd (fun _ _=>rfl)) Zd (fun _ _=>rfl)) Zb)) (Za (Zy (Sw (K:=K) rfl) (by rfl) T.b_list PyProof.Rows.boot_list (Za (Zs (Z6 (K':=K) rfl) (Zs (Z6 (K':=K) rfl) (pv 6) Zd (fun _ _=>rfl)) Zd (fun _ _=>rfl)) Zb)) Zb))) Zb)))))
 Z4)
 (Zc (Zmo (K:=K) rfl (Pe hr) (pv 2) (pv 7) Rg rfl)
 (Zc (Zl (i:=8) SC.nd rfl (Or.inl rfl) (Tr (Rp (Zs (Z6 (K':=K) rfl) (pv 6) Zd (fun _ _=>rfl))) (Zo Wz Rj rfl (Za (pv 0) (Za (pv 1) (Za (pv 6) Zb)))) (Zo W0 Rl rfl (Za (pv 0) (Za (pv 1) (Za (pv 6) Zb))))))
 (Zc (Zl (i:=9) SC.nd rfl (Or.inl rfl) (Tr (Rp (Zs (Z6 (K':=K) rfl) (pv 6) Zd (fun _ _=>rfl))) (Zt (Ye (K':=K) rfl) (pv 4) Zd) (Zt (Ye (K':=K) rfl) (pv 4) Zd)))
 (Ze (Wq (Zav PySem.F.plainAttrs_list PySem.F.slot_list_extend PySem.F.type_list_extend T8 (Zi1 (pv 3) (pv 9) (Yr Zb) ⟨rfl,rfl,rfl,rfl⟩) (Za (Y6 (T:=["behind"]) (cs:=[]) rfl (CScope.ok (by kernel_rfl)) (Yk (pv 8)) (fun _ _ _ _=>(Zn (i:=0) (Yz (by kernel_rfl)) rfl (Or.inl rfl) (Or.inr rfl))) (fun _ _ _ _=>(Zft (X1 (T5 (pv 0))))) (fun _ _ _ _=>(pv 0)) (Xf nofun)) Zb)))))))))))
 (Ze (Zce (i:=4) SC.nd rfl (Or.inl rfl) Zd Na)))))
 (Ze (Zw (Z7 (Za (pv 2) (Za Vu Zb))))))))),fun _=>(Zx (Xr (Zfg (sh:=[1,1,1,2])) (s_g 2)) (Zx (Xr (Zp3 (Zl3 Xq (Po (Yq Zs0 Wo)) Zpo)) (s_g 3)) (Zx (by symm) (Zx (Zaj (Zfb (s_op s_gt (s_cb Zl5 (by symm)) Xq)) (Zx (Xr (Zma (Yg 3) (Yg 4) (Po Wo)) (s_g 5)) (Zx (Zdk (s_il (Yg 5)) (s_g 6) (Zx (by symm) (Zx (Zao (s_b (Zpt (Zfh (Yg 7)) (Yg 2))) Zp4 Ro) (Zx (Zao (by symm) (Uf (Zdj (Yq (Yg 2) (Yq (Zdj (Yq (s_cb Zfc (Yq (s_op s_ix (s_op Re (Yg 6) Xq) Xq) Wo)) (Yq (s_cb Zfc (Yq (s_op s_ix (s_op Re (Yg 6) Xq) Xq) Wo)) Wo))) Wo)))) Ro) (Zx (Zpq (Yg 2) (Zfh (Yg 7)) s_bl) (Zx (Xr (s_if (s_b (s_op Re (Yg 6) Xq)) (by symm) (by symm)) (s_g 8)) (Zx (Xr (s_if (s_b (s_op Re (Yg 6) Xq)) (by symm) (by symm)) (s_g 9)) (Zff (Zb7 (Zl9 (Yg 3) (Yg 9) (Po Wo)) (by symm)))))))))) (Zp5 Xq)))) (by symm))))),fun ds M Kk hM hD h=>?_⟩
  obtain ⟨k0,S1,S,rfl,h⟩:=h;obtain ⟨hk,fit,kN,kY⟩:=h;have bd:=FitS.bd fit;obtain ⟨⟨fr1,fi1,l1⟩,⟨fr,fi⟩,_⟩:=id fit;have ne:∀ p∈S,p.2≠[]:=fun p hp=>(fi.2 p hp).1;exists by show 1<=sizeLine; decide,?_;exists by rw [Jv (by simp)]; exact Gx,[(.inl 0,.cell (M.length+2))],by simp; rfl,by show 1<=15; decide,?_;have e1:(M++[MO.dcN [1,1,1,2] none []]).length=M.length+1:=by simp
  have e2:∀ d:D,(M++[MO.dcN [1,1,1,2] none []]++[MO.dct []]++[MO.lst [D.at Yb]]).set (M++[MO.dcN [1,1,1,2] none []]).length (.dct [(.inl 0,d)])=M++[.dcN [1,1,1,2] none [],.dct [(.inl 0,d)],.lst [D.at Yb]]:=fun d=>by simp
  exists fun m ρ M'=>∃ (T:Nat) (h:Hq) (o0 o1:Option Nat) (kvs:List (Key×D)) (v5 v6 v7 v8 v9:Option D),ρ=[some (.code S1),some (.code S),some (.cell M.length),some (.cell (M.length+1)),some (.int (T:Nat)),v5,v6,v7,v8,v9]/\m=60003-T/\RunC S1 S T h/\LvM K M M' T h o0 o1 kvs,⟨60003,0,hq0,some (M.length+2),none,[(.inl 0,.cell (M.length+2))],none,none,none,none,none,?_,rfl,.zero,?_⟩,?_
  ·rw [e1];rfl
  ·have g:∀ (a b c:MO) (i:Nat) (x:MO),[a,b,c][i]?=some x->(M++[a,b,c])[M.length+i]?=some x:=fun a b c i x h=>by rw [Go (by lia),show M.length+i-M.length=i by lia]; exact h
   have ef:Zg5 [] [((.inl 0:Key),D.cell (M.length+2))]=[(.inl 0,.cell (M.length+2))]:=rfl;rw [ef,e2];exists Js _ _,g _ _ _ 0 _ rfl,g _ _ _ 1 _ rfl,.inl rfl,⟨_,g _ _ _ 2 _ rfl,.cons (Zrl fc) .nil⟩,trivial,fun c h=>by cases h; exact Jd _,fun _ h=>(by cases h),fun _ _ h=>(by cases h)
  rintro m ρ M1 ⟨T,h,o0,o1,kvs,v5,v6,v7,v8,v9,rfl,rfl,run,lv⟩;have hlen:=lv.dk.len;have hT:=run.T_le fit;have hd:=run.hd fr1 fr ne;exists ·,_,kvs,rfl,by simp only [Nm,lv.wt],_,·,rfl,·,?_;refine ite2 (fun hpos=>?_) (fun hpos=>?_)
  ·have hpos:(h.q0.isSome || h.q1.isSome)=true:=by
    have:=hlen.2.mp (by have:=Fq hpos; lia);rw [lv.q0.sm,lv.q1.sm] at this;exact this
   exists ·,.inl (by simp only [Nm,lv.wt]; exact fun z=>nomatch z),·,by show 0<=sizeLine; decide,Zqh lv fun N c0 ds0 kvs' im pd=>?_;have lds:ds0.length=(h.q0.getD []).length:=Paired.length pd;exists ·,ds0,by simp only [Ys,im.cs],fun i ρ N'=>∃ (wk:Wks) (o1 o2:Option Nat) (kvs:List (Key×D)) (v6 v7 v8 v9:Option D),ρ=[some (.code S1),some (.code S),some (.cell M.length),some (.cell (M.length+1)),some (.int (T:Nat)),some (.cell c0),v6,v7,v8,v9]/\lvl S1 S ((h.q0.getD []).take i) ⟨h.re,h.q1,none⟩=.inl wk/\InM K M N' T c0 ds0 wk o1 o2 kvs,?_,⟨_,o1,none,kvs',v6,v7,v8,v9,rfl,rfl,im⟩,?_,?_
   ·rintro i ρ N' _ ⟨wk,o1,o2,kvs,v6,v7,v8,v9,_,_,im⟩;show Ys N' (.cell c0)=some ds0;simp only [Ys,im.cs]
   ·rintro i x ρ N1 hi hx ⟨wk,o1,o2,kvs1,v6,v7,v8,v9,rfl,hlv,im⟩;have hx:ds0[i]?=some x:=hx;obtain ⟨hi',rfl⟩:=Je.mp hx;have hq:i<(h.q0.getD []).length:=by lia
    have hcp:CpD K ds0[i] (h.q0.getD [])[i]:=L2.Paired.at pd hi' hq;obtain ⟨U,V,ok⟩:=hd.a0 _ (Jr hq);have mid:=Qi fr1 fr ne (Zm8 hd) (fun c hc=>hd.a0 c (G0 hc)) hlv;have hsz:=Zgh l1 (w:=⟨h.re,h.q1,none⟩) (by have:=Zkh l1 run; show (h.q1.getD []).length+0<=1+420*h.re.length; lia) hlv;have hfew:=mid.few bd;have nxt:∀ w',stp1 S1 S wk (h.q0.getD [])[i]=.inl w'->lvl S1 S ((h.q0.getD []).take (i+1)) ⟨h.re,h.q1,none⟩=.inl w':=fun w' e=>by
     rw [Ji hq,Zgi,hlv];show lvl S1 S [_] wk=_;unfold lvl;rw [e];rfl
    have hend:∀ e,stp1 S1 S wk (h.q0.getD [])[i]=.inr e->Wlk S1 S wk.re (some e):=fun e he=>.some hq run hlv he;generalize (h.q0.getD [])[i]=c at hcp ok nxt hend;generalize ds0[i]=x at hcp;have sml:=Jav bd hT ok;have tl:=bd.tl ok.pt;exists ·,x,c,rfl,hcp,fun st hst=>?_;obtain ⟨dst,ed,hn⟩:=hst.ky;exists ·,dst,kyT (tlC c),ed,hn,·,_,⟨[1,1,1,2],reK wk.re,kyT (tlC c),by simp only [Nn,im.re,reD]; rfl,rfl,rfl,rfl⟩,·,?_;rw [Zqa];refine ite2 (fun hin=>?_) (fun hin=>?_)
    ·have hin:=Fq hin;exact .inl ⟨wk,o1,o2,kvs1,_,_,_,_,rfl,nxt wk (by unfold stp1; rw [if_pos hin]),im⟩
    have hin:=Ft ((Gu _).mp hin);exists ·,·,S,st,tlC c,rfl,hst,⟨fr,fi,tl.1,tl.2⟩,fun N2 p2=>⟨_,rfl,?_⟩;have im2:=im.up p2;refine ite2 (fun he=>?_) (fun he=>?_)
    ·have hu:c.2.2=true:=by
      unfold isE at he;rw [Gy] at he;exact he.1
     have hW:=hend c (by unfold stp1; rw [if_neg hin,if_pos he]);obtain rfl:=hcp.un hu;exists ·,·,.i0 c (.tup c) rfl fun y _ ey=>?_;obtain rfl:=ey rfl;exists _,1,·,rfl,rfl,_,·,rfl,·,.i1 c (.tup c) rfl fun y _ ey=>?_;obtain rfl:=ey rfl;exists _,1,·,rfl,rfl,_,·,rfl,by show 2<=sizeLine; decide,by show 2<=sizeLine; decide,.inl (kY _ wk.re c M.length N2.length (N2++[MO.lst (c.1.2.map D.int)]).length ((im2.pre.trans (Js _ _)).trans (Js _ _)) im2.pre.length_le ?_ ?_ (Ym (Ym im2.re)) (Ym Gx) Gx hW)
     ·rw [Jc]; have:=im2.pre.length_le; lia
     ·rw [Jc]; simp
    have he:=(Gu _).mp he;exists ·,·,dst,kyT (tlC c),ed,hn,M.length,[1,1,1,2],reK wk.re,kyT (tlC c),rfl,im2.re,rfl,rfl,?_,?_
    ·unfold reK;rw [Ja];exact Bg hfew nofun
    rw [Zqb hin];have im3:InM K M (N2.set M.length (.dcN [1,1,1,2] none (reK (wk.re++[tlC c])))) T c0 ds0 ⟨wk.re++[tlC c],wk.q1,wk.q2⟩ o1 o2 kvs1:=im2.tk (tlC c);generalize N2.set M.length (.dcN [1,1,1,2] none (reK (wk.re++[tlC c])))=N3 at im3 ⊢;have hk3:N3[k0]?=some (.tab Pt pos q):=by obtain ⟨t,rfl⟩:=im3.pre; exact Ym hk
    have hst:=nxt (Vt S1 S wk c) (by unfold stp1; rw [if_neg hin,if_neg (by rw [he]; exact Bool.false_ne_true)]);generalize eL:(if c.2.2=true then stF2 S1 S c else ptF S1 S c)=L;have efu:L.filterMap id=fuF S1 S c:=by rw [<- eL]; rfl
    have goF:∀ (v7 v8 v9:Option D) (K':K3),K' (.cell N3.length) (N3++[.lst (L.map ocD)])->uIf (uB3 (uOp (ixC3 K) (uVar 6) (uC (.int 2)))) (Zlm (dSignsT Pt pos q) (Pf (uVar 0) (Pf (uVar 1) (Pf (uVar 6) uNil)))) (Zlm (dPairsT K Pt pos q) (Pf (uVar 0) (Pf (uVar 1) (Pf (uVar 6) uNil)))) [some (.code S1),some (.code S),some (.cell M.length),some (.cell (M.length+1)),some (.int (T:Nat)),some (.cell c0),some x,v7,v8,v9] N3 K':=fun v7 v8 v9 K' hK'=>by
     exists ·,.i2 c hcp rfl ⟨_,rfl,?_⟩;rw [<- eL] at hK';cases hu:c.2.2 with
     | true =>
      rw [hu,F1 rfl] at hK';obtain rfl:=hcp.un hu;exact iteT ⟨_,rfl,_,rfl,_,rfl,k0,S1,S,c,rfl,hk3,⟨fi1,fr,fi,l1,sml⟩,hK'⟩
     | false =>
      rw [hu,F0 Jp] at hK';exact iteF ⟨_,rfl,_,rfl,_,rfl,k0,S1,S,x,c,rfl,hk3,hcp,⟨fi1,fr,fi,l1,sml⟩,hK'⟩
    have goS:∀ (v7 v8 v9:Option D) (N4:Mem) (K':K3),K' (.int ((if c.2.2=true then T+1 else T+2:Nat):Nat)) N4->uIf (uB3 (uOp (ixC3 K) (uVar 6) (uC (.int 2)))) (uOp add3 (uVar 4) (uC (.int 1))) (uOp add3 (uVar 4) (uC (.int 2))) [some (.code S1),some (.code S),some (.cell M.length),some (.cell (M.length+1)),some (.int (T:Nat)),some (.cell c0),some x,v7,v8,v9] N4 K':=fun v7 v8 v9 N4 K' hK'=>by
     exists ·,.i2 c hcp rfl ⟨_,rfl,?_⟩;cases hu:c.2.2 with
     | true =>
      rw [hu,F1 rfl,G4] at hK';exact iteT ⟨_,rfl,hK'⟩
     | false =>
      rw [hu,F0 Jp,G4] at hK';exact iteF ⟨_,rfl,hK'⟩
    refine goF _ _ _ _ (goS _ _ _ _ _ ?_);have im4:=im3.up (M':=N3++[.lst (L.map ocD)]) (Js _ _);have hfc:(N3++[MO.lst (L.map ocD)])[N3.length]?=some (.lst (L.map ocD)):=Gx;have hwl:=Y5 im3.wt;exists ·,.inl (by simp only [Nm,im4.wt]; exact fun z=>nomatch z),·,by show 0<=sizeLine; decide,Zqg im4 (b:=c.2.2) rfl fun N5 c1 es kp ho=>?_;have hfc5:=kp _ _ hfc (by lia);have lL:L.length<=420:=by rw [<- eL]; exact Zfm l1 c
    exists Ql (T9 ho.at_),·,L.map ocD,by simp only [Ys,hfc5],?_,fun j ys M'=>N5=M'/\ys=((L.take j).filterMap id).map cpD,?_,⟨rfl,rfl⟩,?_,?_
    ·show (L.map ocD).length<=sizeLine;rw [Ja];exact Zk (by lia)
    ·rintro j ys _ _ ⟨rfl,_⟩;show Ys N5 (.cell N3.length)=some _;simp only [Ys,hfc5]
    ·rintro j y ys _ hj hy ⟨rfl,rfl⟩;obtain ⟨hj',rfl⟩:=Yc hy;have tk:(L.take (j+1)).filterMap id=(L.take j).filterMap id++[L[j]].filterMap id:=by rw [Ji hj',List.filterMap_append]
     exists ·,·,?_;cases eo:L[j] with
     | none=>exact iteF ⟨rfl,by rw [tk,eo]; simp⟩
     | some o=>exact iteT ⟨_,rfl,rfl,by rw [tk,eo,Jf]; rfl⟩
    rintro ys _ ⟨rfl,rfl⟩;rw [show L.take _=L from by rw [show (L.map ocD).length=L.length from Ja _]; exact Jw];obtain ⟨kvs2,p1,p2,im5⟩:=ho.fin _ _ (Znq (k:=K) (L:=L));have im5:InM K M (N5.set c1 (.lst (es++(L.filterMap id).map cpD))) T c0 ds0 (Vt S1 S wk c) p1 p2 kvs2:=by unfold Vt; rw [<- efu]; exact im5
    refine ⟨c1,_,es,_,rfl,rfl,ho.at_,rfl,?_,.inl ⟨Vt S1 S wk c,p1,p2,kvs2,_,_,_,_,rfl,hst,im5⟩⟩;have l5:=ho.len;have l6:(L.filterMap id).length<=L.length:=List.length_filterMap_le _ _;have l7:((if c.2.2=true then wk.q1 else wk.q2).getD []).length<=1+420*wk.re.length:=by
     unfold Sz at hsz
     split <;> lia
    have l8:es.length<=((if c.2.2=true then wk.q1 else wk.q2).getD []).length:=l5;rw [Ja];have e:sizeLine=16777216:=by decide
    lia
   ·rintro ρ N' ⟨wk,o1,o2,kvs,v6,v7,v8,v9,rfl,hlv,im⟩;have hlv:lvl S1 S ((h.q0.getD []).take ds0.length) ⟨h.re,h.q1,none⟩=.inl wk:=hlv;rw [lds,Jw] at hlv;have run':=RunC.step run hpos hlv;exists ·,·,60003-(T+1),by lia,.inl ⟨T+1,_,o1,o2,kvs,some (.cell c0),v6,v7,v8,v9,?_,rfl,run',im.lv⟩;rw [G4];rfl
  ·have hno:¬ (o0.isSome || o1.isSome)=true:=fun z=>by
    have:=hlen.2.mpr z;have:=Ft ((Gu _).mp hpos);lia
   rw [lv.q0.sm,lv.q1.sm,Bc] at hno;have h0:h.q0=none:=by
    cases e:h.q0 with
    | none=>rfl
    | some x=>exact Fs (.inl (by rw [e]; rfl)) hno
   have h1:h.q1=none:=by
    cases e:h.q1 with
    | none=>rfl
    | some x=>exact Fs (.inr (by rw [e]; rfl)) hno
   have hw:Wlk S1 S h.re none:=.none (T:=T) (by
    obtain ⟨re,q0,q1⟩:=h;dsimp only at h0 h1;rw [h0,h1] at run;exact run)
   exists ·,by show 2<=sizeLine; decide,.inl (kN M1 h.re M.length lv.pre lv.re hw)
open L3
def Jbu (T:Txt mg) {C:Addr} {q:Str} (Q8:Cal P w K mg base "walked" 7 ["one", "other"] (spOf ⟨C,K⟩ (dWalked Pt pos q))) {f:Addr} (F:Fun K "merging" "merging" Tz f fd):FnOk P w K mg base CX0 8 f fd ["one", "other"] (spOf ⟨C,K⟩ (dMerg Pt pos q)):=by
 refine L3.Fun.ok3 F Jbs (fun ds M K3 h=>?_) (fun cdv A outer s H E hr=>?_)
 ·obtain ⟨k0,S1,S,rfl,_⟩:=h;rfl
 ·have SC:=Jbs;have hu:=hr.units;have hu1:=Xl hr;have Zgw:Room 7 _:=hr.mono nofun;refine ⟨_,_,(Zc (Zl (i:=2) SC.nd rfl (Or.inl rfl) (Zs (Z6 (K':=K) rfl) (Zo Q8 Zgw rfl (Za (pv 0) (Za (pv 1) Zb))) Zd (fun _ _=>rfl)))
 (Ze (Zw (Tr (X1 (Tb (pv 2))) Vu (Z7 (Za (Zh (Zd0 (K:=K) rfl rfl (Pe hr)) (by rfl) T.b_min PyProof.Rows.boot_min (Za (pv 2) Zb)) (Za (Zh (Zd1 (K:=K) rfl rfl (Pe hr)) (by rfl) T.b_max PyProof.Rows.boot_max (Za (pv 2) Zb)) Zb))))))),fun _=>(Zx (by symm) (Uf (s_if (by symm) Zps (Zdj (Yq (s_cb Ze9 (by symm)) (Yq (s_cb Ze9 (by symm)) Wo)))))),fun ds M Kk hM hD h=>?_⟩
  obtain ⟨k0,S1,S,rfl,h⟩:=h;obtain ⟨hk,fit,kN,kY⟩:=h;exists ·,·,k0,S1,S,rfl,hk,fit,fun M' re r p hr hW=>?_,fun M' re c r a b p ga gb nab hr ha hb hW=>?_
  ·exists _,1,·,rfl,rfl,·,·,iteT (.inl (kN M' re p hW))
  ·have hne:c.1.2≠c.2.1.2:=by
    obtain ⟨U,V,_,_,e1,e2,df,_⟩:=Zbq fit.1.1 fit.2.1.1 (fun p hp=>(fit.2.1.2.2 p hp).1) (fun p hp=>(fit.1.2.1.2 p hp).1) hW;rw [e1,e2];exact df.signs
   have la:Ys M' (.cell a)=some (c.1.2.map .int):=by simp only [Ys,ha]
   have lb:Ys M' (.cell b)=some (c.2.1.2.map .int):=by simp only [Ys,hb]
   exists _,1,·,rfl,rfl,·,·,iteF ⟨_,rfl,_,_,_,_,rfl,la,lb,_,rfl,_,_,_,_,rfl,la,lb,by show 2<=sizeLine; decide,.inl ?_⟩;cases h1:HT.lexLt c.2.1.2 c.1.2 with
   | true =>
    have h2:HT.lexLt c.1.2 c.2.1.2=false:=by
     cases h2:HT.lexLt c.1.2 c.2.1.2 with
     | false=>rfl
     | true=>have:=Sb h1 h2; rw [Qo] at this; cases this
    rw [h2];exact kY M' re c b a _ _ p gb ga nab.symm hb ha hW (by rw [h1]; rfl)
   | false =>
    have h2:HT.lexLt c.1.2 c.2.1.2=true:=by
     cases h2:HT.lexLt c.1.2 c.2.1.2 with
     | true=>rfl
     | false=>exact Fs (Qn h1 h2).symm hne
    rw [h2];exact kY M' re c a b _ _ p ga gb nab ha hb hW (by rw [h1]; rfl)
open L3
def Zh6 {a b:List (List Int)} (h:WOk a) (p:a.Perm b):WOk b:=⟨(p.pairwise_iff fun z=>⟨z.2,z.1⟩).mp h.1,fun w hw=>h.2 w (p.mem_iff.mpr hw)⟩
def Zlb (h:WOk ws) (a:Nat):WOk (ws.take a++ws.drop (a+1)):=by
 refine h.sub ?_
 conv=>rhs; rw [<- Gp a ws]
 refine List.Sublist.append (List.Sublist.refl _) ?_;rw [<- Fc];exact List.drop_sublist _ _
def Zh7 (h:WOk ws) {a:Nat} (ha:a<ws.length) {bs:List Int} (nd:bs.Nodup) (hl:ws[a].length<4):WOk (ws.take a++ws.drop (a+1)++bs.map fun b=>ws[a]++[b]):=by
 have e:ws.take a++ws[a]::ws.drop (a+1)=ws:=by rw [<- List.drop_eq_getElem_cons ha,Gp]
 have:=Zcg nd (a:=ws.take a) (w:=ws[a]) (c:=ws.drop (a+1)) (by rw [e]; exact h) hl;refine Zh6 this ?_;rw [Ga,Ga];exact List.Perm.append_left _ List.perm_append_comm
def Zms (b:Bool) (x y:Int):L2.atI [D.int x,D.int y] (if b then (1:Int) else 0)=some (.int (if b then y else x)):=by cases b <;> rfl
structure W2 (bs:List Int) (ws:List (List Int)):Prop where
 ok:WOk ws
 wb:∀ w∈ws,(∀ b∈w,b∈bs)/\LgB bs.length w.length
def W2.sub {bs:List Int} {us:List (List Int)} (h:W2 bs ws) (s:us.Sublist ws):W2 bs us:=⟨h.ok.sub s,fun w hw=>h.wb w (s.subset hw)⟩
def Zj3 {bs:List Int} (h:W2 bs ws) (a:Nat):W2 bs (ws.take a++ws.drop (a+1)):=⟨Zlb h.ok a,fun w hw=>h.wb w ((J9.mp hw).elim (fun z=>G0 z) fun z=>Fd z)⟩
def Zea {bs:List Int} (h:W2 bs ws) {a:Nat} (ha:a<ws.length) {cs:List Int} (nd:cs.Nodup) (hc:∀ c∈cs,c∈bs) (hl:ws[a].length<4) (hl2:LgB bs.length (ws[a].length+1)):W2 bs (ws.take a++ws.drop (a+1)++cs.map fun b=>ws[a]++[b]):=⟨Zh7 h.ok ha nd hl,fun w hw=>by
 rcases J9.mp hw with z | z
 ·exact (Zj3 h a).wb w z
 ·obtain ⟨c,hcm,rfl⟩:=Jo.mp z;refine ⟨fun b hb=>?_,by rw [Jc,Jx]; exact hl2⟩;rcases J9.mp hb with y | y
  ·exact (h.wb _ (Jr ha)).1 b y
  ·rw [Jh.mp y]; exact hc c hcm⟩
theorem lg_b {q:Nat} {lg:Int} {n:Nat} (h:q=2/\lg<=4\/lg<=1\/q=3/\lg<=2) (b2:2<=q) (hn:(n:Int)<=lg):LgB q n/\(n<4->LgB q (n+1)):=by
 unfold LgB
 split
 ·exact ⟨by lia,fun _=>by lia⟩
 ·split
  ·exact ⟨by lia,fun _=>by lia⟩
  ·exact ⟨by lia,fun _=>by lia⟩
theorem Jae (T:Txt mg) {C:Addr} (Zi:Cal P w K mg base "_law_draw" 1 ["_law_hand", "_law_many"] (spOf ⟨C,K⟩ dDraw)) (Vn:Cal P w K mg base "_law_bytes" 2 ["_law_hand", "_law_most"] (spOf ⟨C,K⟩ dBytes8)) (X4:Cal P w K mg base "_law_words" 2 ["_law_hand", "_law_some", "_law_most", "_law_longest"] (spOf ⟨C,K⟩ dWordsD)) (Xd:Cal P w K mg base "_law_signs" 2 ["_law_hand", "_law_many"] (spOf ⟨C,K⟩ dSigns)) (Yh:Cal P w K mg base "_law_table" 2 ["_law_hand", "_law_words_here", "_law_signs_here"] (spOf ⟨C,K⟩ dTable)) {f:Addr} (F:Fun K "_law_two" "_law_two" Jay f fd):FnOk P w K mg base CX0 3 f fd ["_law_hand"] (spOf ⟨C,K⟩ dTwo82):=by
 refine L3.Fun.ok3 F Jau (fun ds M K3 h=>?_) (fun cdv A outer s H E hr=>?_)
 ·obtain ⟨k0,rfl,_⟩:=h;rfl
 ·have SC:=Jau;have hu:=hr.units;have hu1:=Xl hr;have Zj:Room 1 _:=hr.mono nofun;have Qx:Room 2 _:=hr.mono nofun;have Um:Room 2 _:=hr.mono nofun;have Wt:Room 2 _:=hr.mono nofun;have Yu:Room 2 _:=hr.mono nofun;refine ⟨_,_,(Zc (Zl (i:=1) SC.nd rfl (Or.inl rfl) (Zo Vn Qx rfl (Za (pv 0) (Za (Zs (Z6 (K':=K) rfl) (Yr (Za Zd (Za Zd Zb))) (Zy Xx (by rfl) T.b_int PyProof.Rows.boot_int (Za (Xu (Ua (K':=K) rfl hu) (Zo Zi Zj rfl (Za (pv 0) (Za Zd Zb))) Zd (Z2 _)) Zb)) (fun _ _=>rfl)) Zb))))
 (Zc (Zl (i:=2) SC.nd rfl (Or.inl rfl) (Zt (Ye (K':=K) rfl) (Zh (Vf rfl) (by rfl) T.b_max PyProof.Rows.boot_max (Za Zd (Za (Zt Zku Zd (Zh (Z9 (K:=K) rfl) (by rfl) T.b_len F6 (Za (pv 1) Zb))) Zb))) (Zy Xx (by rfl) T.b_int PyProof.Rows.boot_int (Za (Zci (Xu (Ua (K':=K) rfl hu) (Zh (Z9 (K:=K) rfl) (by rfl) T.b_len F6 (Za (pv 1) Zb)) Zd (Z2 _)) (Zf1 (Xu (Ua (K':=K) rfl hu) (Zo Zi Zj rfl (Za (pv 0) (Za Zd Zb))) Zd (Z2 _)))) Zb))))
 (Zc (Zl (i:=3) SC.nd rfl (Or.inr rfl) (Z0 (X5 (K':=K) rfl) (Zo X4 Um rfl (Za (pv 0) (Za (pv 1) (Za Zd (Za (pv 2) Zb))))) Ya (Z5 (Zs (Z6 (K':=K) rfl) (Yr (Za Zd (Za Zd Zb))) (Zy Xx (by rfl) T.b_int PyProof.Rows.boot_int (Za (Xu Qh (Zh (Z9 (K:=K) rfl) (by rfl) T.b_len F6 (Za (pv 1) Zb)) Zd (Z2 _)) Zb)) (fun _ _=>rfl)))))
 (Zc (Zl (i:=4) SC.nd rfl (Or.inl rfl) (Z0 (X5 (K':=K) rfl) (Zo X4 Um rfl (Za (pv 0) (Za (pv 1) (Za Zd (Za (pv 2) Zb))))) Ya (Z5 Zd)))
 (Zc (Zl (i:=5) SC.nd rfl (Or.inl rfl) (Zo Zi Zj rfl (Za (pv 0) (Za Zd Zb))))
 (Zc (Yw (PW.pt (T4 (Z1 (Zlc (K':=K) rfl hu) (pv 3) (Yr Zb) (Z2 _)) (V2 (Z1 Qh (pv 5) Zd (Z2 _)))))
 (Zc (Zl (i:=6) SC.nd rfl (Or.inr rfl) (Zt Xi (Zo Zi Zj rfl (Za (pv 0) (Za Zd Zb))) (Zh (Z9 (K:=K) rfl) (by rfl) T.b_len F6 (Za (pv 3) Zb))))
 (Zc (Zl (i:=4) SC.nd rfl (Or.inl rfl) (Zt (Ye (K':=K) rfl) (Z0 (X5 (K':=K) rfl) (pv 3) Ya (Z5 (pv 6))) (Z0 (X5 (K':=K) rfl) (pv 3) (Z5 (Zt (Ye (K':=K) rfl) (pv 6) Zd)) Ya)))
 (Zc (Yw (PW.pt (T4 (Z1 (Ua (K':=K) rfl hu) (pv 5) Zd (Z2 _)) (V2 (Z1 Tg (Zh (Z9 (K:=K) rfl) (by rfl) T.b_len F6 (Za (Zs (Z6 (K':=K) rfl) (pv 3) (pv 6) (fun _ _=>rfl)) Zb)) Zd (Z2 _)))))
 (Ze (Zl (i:=4) SC.nd rfl (Or.inl rfl) (Zt (Ye (K':=K) rfl) (pv 4) (Y6 (T:=["_law_one"]) (cs:=[3,6]) rfl (CScope.ok (by kernel_rfl)) (Yk (Z0 (X5 (K':=K) rfl) (pv 1) Ya (Z5 Zd))) (fun _ _ _ _=>(Zn (i:=0) (Yz (by kernel_rfl)) rfl (Or.inl rfl) (Or.inr rfl))) (fun _ _ _ _=>Yo) (fun _ _ _ _=>(Zt (Ye (K':=K) rfl) (Zs (Z6 (K':=K) rfl) (pv 1) (pv 2) (fun _ _=>rfl)) (Z7 (Za (pv 0) Zb)))) (Xf nofun)))))
 Z4)
 (Ze (Yw (PW.pt (T4 (Z1 (Ua (K':=K) rfl hu) (pv 5) Zd (Z2 _)) (V2 (Z1 Tg (Zh (Z9 (K:=K) rfl) (by rfl) T.b_len F6 (Za (Zs (Z6 (K':=K) rfl) (pv 3) (pv 6) (fun _ _=>rfl)) Zb)) Zd (Z2 _)))))
 (Ze (Zl (i:=4) SC.nd rfl (Or.inl rfl) (Zt (Ye (K':=K) rfl) (pv 4) (Yr (Za (Zt (Ye (K':=K) rfl) (Zs (Z6 (K':=K) rfl) (pv 3) (pv 6) (fun _ _=>rfl)) (Z7 (Za (Zs (Z6 (K':=K) rfl) (pv 1) Zd (fun _ _=>rfl)) Zb))) Zb)))))
 Z4)))))
 Z4)
 (Zc (Yw (PW.pt (T4 (Z1 Tg (Zh (Z9 (K:=K) rfl) (by rfl) T.b_len F6 (Za (pv 4) Zb)) (Zs (Z6 (K':=K) rfl) (Yr (Za Zd (Za Zd Zb))) (Zy Xx (by rfl) T.b_int PyProof.Rows.boot_int (Za (Xu Qh (Zh (Z9 (K:=K) rfl) (by rfl) T.b_len F6 (Za (pv 1) Zb)) Zd (Z2 _)) Zb)) (fun _ _=>rfl)) (Z2 _)) (V2 (Z1 (Ua (K':=K) rfl hu) (Zo Zi Zj rfl (Za (pv 0) (Za Zd Zb))) Zd (Z2 _)))))
 (Ze (Zcf (Z7 (Za (pv 4) (Za (pv 3) Zb))) (Xt (n:=2) rfl (Zv (Zn (i:=3) SC.nd rfl (Or.inr rfl)) (Zv (Zn (i:=4) SC.nd rfl (Or.inl rfl)) Yx)) (by rfl))))
 Z4)
 (Zc (Zl (i:=7) SC.nd rfl (Or.inl rfl) (Zo Xd Wt rfl (Za (pv 0) (Za Zd Zb))))
 (Zc (Zl (i:=8) SC.nd rfl (Or.inl rfl) (Zo Yh Yu rfl (Za (pv 0) (Za (pv 3) (Za (pv 7) Zb)))))
 (Zc (Yw (Z1 (Ua (K':=K) rfl hu) (pv 5) Zd (Z2 _))
 (Ze (Zw (Z7 (Za (pv 8) (Za (Zo Yh Yu rfl (Za (pv 0) (Za (pv 3) (Za (pv 7) Zb)))) Zb)))))
 Z4)
 (Ze (Zw (Z7 (Za (pv 8) (Za (Zo Yh Yu rfl (Za (pv 0) (Za (pv 4) (Za (pv 7) Zb)))) Zb))))))))))))))),fun _=>(Zx (Xr (Pp (Yq (Yg 0) (Yq (s_op s_ix (by symm) (s_cb Uy (by symm))) Wo))) (s_g 1)) (Zx (Xr (s_op Zfj (by symm) (s_cb Uy (by symm))) (s_g 2)) (Zx (Xr (s_sl Zl2 (by symm) Tm (Zb5 (s_op s_ix (by symm) (s_cb Uy (by symm))))) (s_g 3)) (Zx (by symm) (Zx (by symm) (Zx (by symm) (Zx (Zao (Zp6 (Zfb (s_op s_lt (by symm) (s_op s_ix (by symm) (s_cb Uy (by symm))))) (by symm)) (by symm) Ro) (by symm)))))))),fun ds M Kk hM hD h=>?_⟩
  obtain ⟨k0,rfl,h⟩:=h;obtain ⟨hk,k⟩:=h;refine Zb3 (fun d M'=>∃ bs:List Int,d=.lst (bs.map .int)/\bs.Nodup/\2<=bs.length/\bs.length<=8/\M=M') (fun Kq hq=>?_) ?_
  ·exists ·,(show 2<=sizeLine by decide),·,k0,8,rfl,hk,⟨nofun,nofun⟩,fun z z0 z1=>?_;refine .inl ⟨_,rfl,_,_,rfl,rfl,_,_,_,rfl,rfl,Zms _ 3 8,k0,_,rfl,hk,?_,fun bs nd b2 bm _=>hq _ _ ⟨bs,rfl,nd,b2,?_,rfl⟩⟩
   ·split <;> exact ⟨nofun,nofun⟩
   ·split at bm <;> lia
  rintro _ _ ⟨bs,rfl,nd,b2,b8,rfl⟩;have lb:(bs.map D.int).length=bs.length:=Ja _;refine g_nx ?_;refine Zb3 (fun d M'=>∃ lg:Int,d=.int lg/\1<=lg/\lg<=4/\(bs.length=2/\lg<=4\/lg<=1\/bs.length=3/\lg<=2)/\M=M') (fun Kq hq=>?_) ?_
  ·exists ·,·,_,·,rfl,_,·,·,·,.inl ⟨_,rfl,_,rfl,?_⟩;rw [lb];refine ite2 (fun h=>?_) (fun h=>?_)
   ·have h:(bs.length:Int)=2:=Fq h;refine ⟨_,rfl,k0,8,rfl,hk,⟨nofun,nofun⟩,fun z z0 z1=>.inl ⟨_,rfl,_,_,rfl,rfl,?_⟩⟩;refine add_int (hq _ _ ⟨_,rfl,?_,?_,?_,rfl⟩) <;> (rw [h]; split <;> split <;> lia)
   ·have h:¬ (bs.length:Int)=2:=fun z=>h (F2 z);refine ⟨_,_,rfl,rfl,?_⟩;refine add_int (hq _ _ ⟨_,rfl,?_,?_,?_,rfl⟩) <;> (simp only [Gc,if_false]; split <;> lia)
  rintro _ _ ⟨lg,rfl,lg1,lg4,hlg,rfl⟩;have bne:bs≠[]:=fun z=>by rw [z] at b2; simp at b2
  refine g_nx ?_;refine Zb3 (fun d M'=>∃ ws:List (List Int),d=.lst (ws.map wD)/\W2 bs ws/\(∀ w∈ws,(w.length:Int)<=lg)/\ws.length<=6/\M=M') (fun Kq hq=>?_) ?_
  ·refine ⟨_,rfl,_,rfl,_,rfl,k0,bs,2,lg,rfl,hk,⟨nd,bne,by lia,nofun,nofun,lg1,lg4⟩,fun ws ok bn _=>?_⟩;refine ⟨(show 2<=sizeLine by decide),_,rfl,_,rfl,_,_,rfl,rfl,_,_,rfl,rfl,_,_,_,rfl,rfl,Zms _ 4 6,_,rfl,?_⟩;refine Qc rfl ?_;obtain ⟨m,em,hm⟩:∃ m:Nat,(if decide ((3:Int)<((bs.map D.int).length:Int))=true then (6:Int) else 4)=(m:Int)/\m<=6:=by
    split
    ·exact ⟨6,rfl,nofun⟩
    ·exact ⟨4,rfl,nofun⟩
   rw [em,Xg,<- G6];exact hq _ _ ⟨ws.take m,rfl,W2.sub ⟨ok,fun w hw=>⟨(bn w hw).1,(lg_b hlg b2 (bn w hw).2).1⟩⟩ (B9 _ _),fun w hw=>(bn w (G0 hw)).2,by rw [Jt]; lia,rfl⟩
  rintro _ _ ⟨ws,rfl,ok,hlw,lw,rfl⟩;have lwm:(ws.map wD).length=ws.length:=Ja _;refine g_nx ?_;refine Zb3 (fun d M'=>∃ ws:List (List Int),d=.lst (ws.map wD)/\W2 bs ws/\ws.length<=8/\M=M') (fun Kq hq=>?_) ?_
  ·exists ·,·,·,k0,bs,2,lg,rfl,hk,⟨nd,bne,by lia,nofun,nofun,lg1,lg4⟩,fun ws ok bn _=>?_;exists ·,?_;refine Qc rfl ?_;rw [show (7:Int)=((7:Nat):Int) from rfl,Xg,<- G6];exact hq _ _ ⟨ws.take 7,rfl,W2.sub ⟨ok,fun w hw=>⟨(bn w hw).1,(lg_b hlg b2 (bn w hw).2).1⟩⟩ (B9 _ _),by rw [Jt]; lia,rfl⟩
  rintro _ _ ⟨ws0,rfl,ok0,lw0,rfl⟩;exists ·,k0,5,rfl,hk,⟨nofun,nofun⟩,fun way y0 y1=>?_;refine g_nx ?_
  try dsimp only
  refine R9 (fun ρ' M'=>∃ (ws2:List (List Int)) (v6:Option D),W2 bs ws2/\ws2.length<=8/\ρ'=[some (.cell k0),some (.lst (bs.map .int)),some (.int lg),some (.lst (ws.map wD)),some (.lst (ws2.map wD)),some (.int way),v6,none,none]/\M=M') (fun Kn hn=>?_) ?_
  ·exists ·,Jz _,Zbe (Tc W5) (a:=ws) (b:=[]) rfl rfl ⟨_,rfl,ite2 (fun hne=>?_) (fun hne=>iteF (hn _ _ ⟨ws0,_,ok0,lw0,rfl,rfl⟩))⟩;have hne:ws≠[]:=by simpa using hne
   have l0:0<ws.length:=Gj.mpr hne;exists ·,_,·,rfl,·,ite2 (fun hw=>?_) (fun hw=>hn _ _ ⟨ws0,_,ok0,lw0,rfl,rfl⟩);exists ·,k0,60,rfl,hk,⟨nofun,nofun⟩,fun z z0 z1=>?_;obtain ⟨a,ea,ha⟩:=Zqt z (n:=(ws.map wD).length) (by rw [lwm]; exact l0);rw [lwm] at ha;exists ·,·,_,·,rfl,(by rw [lwm]; lia:(0:Int)<((ws.map wD).length:Int)),?_
   try dsimp only
   rw [ea];have xa:L2.atI (ws.map wD) (a:Int)=some (wD ws[a]):=V7 rfl ha;exists ·,·,·,?_;refine Qc rfl ?_;rw [Xg,<- G6];exists ·,·,·,?_;refine Qc rfl ?_;rw [show (a:Int)+1=((a+1:Nat):Int) by lia,Xv,<- B8];have ll:(ws.take a).length+(ws.drop (a+1)).length<=5:=by rw [Jt,Jj]; lia
   refine Vy rfl rfl (by rw [Ja,Ja]; exact Zk (by lia)) ?_;rw [<- Jf];have ok1:=Zj3 ok a;have l5:(ws.take a++ws.drop (a+1)).length<=5:=by rw [Jc]; exact ll
   have lwa:=(ok.ok.2 _ (Jr ha)).2;have nwa:ws[a].map D.int≠[]:=fun z=>(ok.ok.2 _ (Jr ha)).1 (List.map_eq_nil_iff.mp z);have lwd:(ws[a].map D.int).length=ws[a].length:=Ja _;generalize hbase:ws.take a++ws.drop (a+1)=base at ok1 l5 ⊢;refine g_nx ?_
   try dsimp only
   refine R9 (u:=uIfS _ _ _) (fun ρ' M'=>∃ (ws2:List (List Int)),(way=3->ws2=base)/\W2 bs ws2/\ws2.length<=8/\ρ'=[some (.cell k0),some (.lst (bs.map .int)),some (.int lg),some (.lst (ws.map wD)),some (.lst (ws2.map wD)),some (.int way),some (.int a),none,none]/\M=M') (fun Kn hn2=>?_) ?_
   ·refine ⟨_,rfl,.inl ⟨_,rfl,_,rfl,ite2 (fun h2=>?_) (fun h2=>iteF (hn2 _ _ ⟨base,fun _=>rfl,ok1,by lia,rfl,rfl⟩))⟩⟩;have h2:way=2:=Fq h2;refine ⟨_,rfl,_,rfl,_,_,_,rfl,rfl,xa,_,rfl,_,_,rfl,rfl,_,rfl,ite2 (fun h4=>?_) (fun h4=>hn2 _ _ ⟨base,fun _=>rfl,ok1,by lia,rfl,rfl⟩)⟩;have h4:ws[a].length<4:=by
     have:((ws[a].map D.int).length:Int)<4:=Fq h4;rw [lwd] at this;lia
    exists ·,·,·,?_;refine Qc rfl ?_;rw [show (3:Int)=((3:Nat):Int) from rfl,Xg,<- G6];have l3m:((bs.take 3).map D.int).length=(bs.take 3).length:=Ja _;have l3:(bs.take 3).length<=3:=by rw [Jt]; lia
    exists ·,?_,fun j ys M'=>M=M'/\ys=(((bs.take 3).take j).map fun b=>ws[a]++[b]).map wD,fun _ _ _ _ _=>rfl,⟨rfl,rfl⟩,?_,?_
    ·show ((bs.take 3).map D.int).length<=sizeLine;rw [l3m];exact Zk (by lia)
    ·rintro j x ys _ hj hx ⟨rfl,rfl⟩;obtain ⟨hj',rfl⟩:=Yc hx;exists ·,·,_,_,·,rfl,xa,·,(show 1<=sizeLine by decide),⟨nwa,by rw [lwd]; exact Zk (by show _+1<=_; lia)⟩,rfl,?_;rw [Ji hj',Jf,Jf]
     congr 1
     show [D.tup (ws[a].map D.int++[D.int (bs.take 3)[j]])]=[wD (ws[a]++[(bs.take 3)[j]])];unfold wD;rw [Jf];rfl
    ·rintro ys _ ⟨rfl,rfl⟩;have er:(bs.take 3).take ((bs.take 3).map D.int).length=bs.take 3:=by rw [l3m,Jw]
     rw [er];refine Vy rfl rfl (by rw [Ja,Ja,Ja]; exact Zk (by lia)) ?_;rw [<- Jf];refine hn2 _ _ ⟨base++(bs.take 3).map fun b=>ws[a]++[b],fun z=>by lia,?_,by rw [Jc,Ja]; lia,rfl,rfl⟩;rw [<- hbase];exact Zea ok ha (nd.sublist (B9 _ _)) (fun c hc=>G0 hc) h4 ((lg_b hlg b2 (hlw _ (Jr ha))).2 h4)
   rintro _ _ ⟨ws2,h3b,ok2,l2,rfl,rfl⟩;refine ⟨_,rfl,.inl ⟨_,rfl,_,rfl,ite2 (fun h3=>?_) (fun h3=>iteF (hn _ _ ⟨ws2,_,ok2,l2,rfl,rfl⟩))⟩⟩;have h3:way=3:=Fq h3;obtain rfl:=h3b h3;refine ⟨_,rfl,_,rfl,_,_,_,rfl,rfl,xa,_,rfl,_,_,rfl,rfl,_,rfl,ite2 (fun h4=>?_) (fun h4=>hn _ _ ⟨ws2,_,ok2,l2,rfl,rfl⟩)⟩;have h4:ws[a].length<4:=by
    have:((ws[a].map D.int).length:Int)<4:=Fq h4;rw [lwd] at this;lia
   have x0:L2.atI (bs.map D.int) 0=some (.int (bs[0]'(by lia))):=V7 (as:=bs) (j:=0) rfl (by lia);refine ⟨_,rfl,_,rfl,_,rfl,_,_,_,rfl,rfl,xa,_,rfl,_,_,_,rfl,rfl,x0,(show 1<=sizeLine by decide),⟨nwa,by rw [lwd]; exact Zk (by show _+1<=_; lia)⟩,(show 1<=sizeLine by decide),?_⟩;refine Vy rfl (ys:=[ws[a]++[bs[0]'(by lia)]].map wD) (by
    show some [D.tup (ws[a].map D.int++[D.int (bs[0]'(by lia))])]=some [wD (ws[a]++[bs[0]'(by lia)])];unfold wD;rw [Jf];rfl) (by rw [Ja]; exact Zk (by show _+1<=_; lia)) ?_
   rw [<- Jf];refine hn _ _ ⟨ws2++[ws[a]++[bs[0]'(by lia)]],_,?_,by rw [Jc,Jx]; lia,rfl,rfl⟩;rw [<- hbase];exact Zea (cs:=[bs[0]'(by lia)]) ok ha (by simp) (fun c hc=>by rw [Jh.mp hc]; exact Jr _) h4 ((lg_b hlg b2 (hlw _ (Jr ha))).2 h4)
  rintro _ _ ⟨ws2,v6,ok2,l2,rfl,rfl⟩;refine R9 (fun ρ' M'=>∃ (wa wb:List (List Int)),W2 bs wa/\wa.length<=8/\W2 bs wb/\wb.length<=8/\ρ'=[some (.cell k0),some (.lst (bs.map .int)),some (.int lg),some (.lst (wa.map wD)),some (.lst (wb.map wD)),some (.int way),v6,none,none]/\M=M') (fun Kn hn=>?_) ?_
  ·exists ·,·,(show 2<=sizeLine by decide),·,·,_,·,rfl,_,·,rfl,_,_,·,rfl,Zms _ 7 9,_,·,rfl,·,ite2 (fun h=>?_) (fun h=>iteF (hn _ _ ⟨ws,ws2,ok,by lia,ok2,l2,rfl,rfl⟩));exists ·,k0,4,rfl,hk,⟨nofun,nofun⟩,fun z z0 z1=>.inl ⟨_,rfl,_,rfl,ite2 (fun h=>?_) (fun h=>hn _ _ ⟨ws,ws2,ok,by lia,ok2,l2,rfl,rfl⟩)⟩;exists ·,·,(show 2<=sizeLine by decide),·,rfl,_,·,_,·,rfl,hn _ _ ⟨ws2,ws,ok2,l2,ok,by lia,rfl,rfl⟩
  rintro _ _ ⟨wa,wb,oka,la,okb,lb',rfl,rfl⟩;exists ·,k0,10,rfl,hk,⟨nofun,nofun⟩,fun ss nds ls=>?_;exists ·,·,·,k0,wa,ss,rfl,hk,⟨oka.ok,by lia,nds,by lia,by lia⟩,fun L1 fr1 fi1 pm1=>?_;have wl:∀ {L:List Pr} {us:List (List Int)},(L.map (·.2)).Perm us->W2 bs us->us.length<=8->(∀ p∈L,(∀ b∈p.2,b∈bs)/\LgB bs.length p.2.length)/\L.length<=10:=fun {L us} pm w l=>⟨fun p hp=>w.wb _ (pm.mem_iff.mp (Jo.mpr ⟨p,hp,rfl⟩)),by have:=pm.length_eq; rw [Ja] at this; lia⟩;have w1:=wl pm1 oka la;exists ·,.inl ⟨_,rfl,_,rfl,ite2 (fun h=>?_) (fun h=>?_)⟩
  ·exists ·,·,·,·,k0,wa,ss,rfl,hk,⟨oka.ok,by lia,nds,by lia,by lia⟩,fun L2 fr2 fi2 pm2=>⟨(show 2<=sizeLine by decide),.inl (let w2:=wl pm2 oka la; k L1 L2 bs b8 fr1 fi1 w1.2 fr2 fi2 w2.2 w1.1 w2.1)⟩
  ·exists ·,·,·,·,k0,wb,ss,rfl,hk,⟨okb.ok,by lia,nds,by lia,by lia⟩,fun L2 fr2 fi2 pm2=>⟨(show 2<=sizeLine by decide),.inl (let w2:=wl pm2 okb lb'; k L1 L2 bs b8 fr1 fi1 w1.2 fr2 fi2 w2.2 w1.1 w2.1)⟩
open L3
theorem Jbg (T:Txt mg) {C:Addr}  {f:Addr} (F:Fun K "_law_word_at" "_law_word_at" Di f fd):FnOk P w K mg base CX0 1 f fd ["_law_table_here", "_law_row", "_law_at"] (spOf ⟨C,K⟩ No):=by
 refine L3.Fun.ok3 F Dl (fun ds M K3 h=>?_) (fun cdv A outer s H E hr=>?_)
 ·obtain ⟨L,d,ns,a,rfl,_⟩:=h;rfl
 ·have SC:=Dl;have hu:=hr.units;have hu1:=Xl hr;refine ⟨_,_,(Zc (Xs PassesOwn.never rfl (Yk (pv 0)) (Xt (n:=2) rfl (Zv (Zn (i:=3) SC.nd rfl (Or.inl rfl)) (Zv (Zn (i:=4) SC.nd rfl (Or.inl rfl)) Yx)) (by rfl))
 (Ze (Yw (Z1 (Ua (K':=K) rfl hu) (Zy (Zho (K:=K) rfl) (by rfl) T.b_tuple PyProof.Rows.boot_tuple (Za (Z0 (X5 (K':=K) rfl) (pv 1) (Z5 (pv 2)) (Z5 (Zt (Ye (K':=K) rfl) (pv 2) (Zh (Z9 (K:=K) rfl) (by rfl) T.b_len F6 (Za (pv 4) Zb))))) Zb)) (pv 4) (Z2 _))
 (Ze (Zw (Z7 (Za (pv 3) (Za (Zh (Z9 (K:=K) rfl) (by rfl) T.b_len F6 (Za (pv 4) Zb)) Zb)))))
 Z4)))
 (Ze (Zw (Z7 (Za Vu (Za Zd Zb)))))),fun _=>(by symm),fun ds M Kk hM hD h=>?_⟩
  obtain ⟨L,d,ns,a,rfl,h⟩:=h;obtain ⟨hd,⟨fi,ln,la⟩,k1,k2⟩:=h;have lS:=fi.1;have lm:(L.map pD).length=L.length:=Ja _;exists ·,·,fun i ρ M'=>∃ v3 v4:Option D,ρ=[some (.lst (L.map pD)),some d,some (.int a),v3,v4]/\M=M'/\∀ j (hj:j<L.length),j<i->¬ L[j].2<+:ns.drop a,fun _ _ _ _ _=>rfl,⟨_,_,rfl,rfl,fun j _ hj=>Fs hj (Gr _)⟩,?_,?_
  ·rintro i x ρ _ hi hx ⟨v3,v4,rfl,rfl,no⟩;obtain ⟨hi',rfl⟩:=Yc hx;have lw:(L[i].2.map D.int).length=L[i].2.length:=Ja _;exists ·,rfl,_,·,_,·,rfl,?_;exists ·,·,·,·,·,·,·,?_;refine Qc hd ?_;rw [lw,Vd,show (a:Int)+(L[i].2.length:Int)=(a:Int)+((L[i].2.length:Nat):Int) from rfl,Zjp la];exists _,·,rfl,·,?_;refine Su (Tc W5) (a:=(ns.drop a).take L[i].2.length) (b:=L[i].2) ⟨_,rfl,ite2 (fun h=>?_) (fun h=>?_)⟩
   ·have h:=Fq h;have pre:L[i].2<+:ns.drop a:=by
     have:=Fg L[i].2.length (ns.drop a);rwa [h] at this
    have:=k1 _ (Jr hi') pre;exists ·,·,·,(show 2<=sizeLine by decide),?_;rw [lw];exact .inl this
   ·refine .inl ⟨_,_,rfl,rfl,fun j hj hji pre=>?_⟩
    by_cases e:j=i
    ·subst e;exact h (F2 (List.prefix_iff_eq_take.mp pre).symm)
    ·exact no j hj (by lia) pre
  ·rintro ρ _ ⟨v3,v4,rfl,rfl,no⟩;exists (show 2<=sizeLine by decide),.inl (k2 fun p hp pre=>?_);obtain ⟨j,hj,rfl⟩:=Ge hp;exact no j hj (by show j<(L.map pD).length; rw [lm]; exact hj) pre
theorem Jbi (T:Txt mg) {C:Addr} (Wg:Cal P w K mg base "_law_word_at" 1 ["_law_table_here", "_law_row", "_law_at"] (spOf ⟨C,K⟩ No)) {f:Addr} (F:Fun K "_law_entries" "_law_entries" Jbd f fd):FnOk P w K mg base CX0 2 f fd ["_law_table_here", "_law_row"] (spOf ⟨C,K⟩ Zk5):=by
 refine L3.Fun.ok3 F Dh (fun ds M K3 h=>?_) (fun cdv A outer s H E hr=>?_)
 ·obtain ⟨L,d,ns,rfl,_⟩:=h;rfl
 ·have SC:=Dh;have hu:=hr.units;have hu1:=Xl hr;have Sm:Room 1 _:=hr.mono nofun;refine ⟨_,_,(Zc (Zl (i:=2) SC.nd rfl (Or.inl rfl) (Yr Zb))
 (Zc (Zl (i:=3) SC.nd rfl (Or.inl rfl) Zd)
 (Zc (Tp PassesOwn.never (Z1 Tg (pv 3) (Zh (Z9 (K:=K) rfl) (by rfl) T.b_len F6 (Za (pv 1) Zb)) (Z2 _))
 (Zc (Zcf (Zo Wg Sm rfl (Za (pv 0) (Za (pv 1) (Za (pv 3) Zb)))) (Xt (n:=2) rfl (Zv (Zn (i:=4) SC.nd rfl (Or.inl rfl)) (Zv (Zn (i:=5) SC.nd rfl (Or.inl rfl)) Yx)) (by rfl)))
 (Zc (Wq (Zav PySem.F.plainAttrs_list PySem.F.slot_list_append PySem.F.type_list_append Uh (pv 2) (Za (pv 4) Zb)))
 (Ze (Zl (i:=3) SC.nd rfl (Or.inl rfl) (Zt (Ye (K':=K) rfl) (pv 3) (pv 5)))))))
 (Ze (Zw (pv 2)))))),fun _=>(Zx (Xr (Po Wo) (s_g 2)) (by symm)),fun ds M Kk hM hD h=>?_⟩
  obtain ⟨L,d,ns,rfl,h⟩:=h;obtain ⟨hd,⟨fi,ln⟩,k⟩:=h;have lm:(ns.map D.int).length=ns.length:=Ja _;have lo:∀ R:List En,R.length<=1000000->((osOf R).map oD).length<sizeLine:=fun R h=>by
   unfold osOf;rw [Ja,Ja];exact Bg h nofun
  exists Jz _,?_;exists fun m ρ M'=>∃ (pl:Nat) (R:List En) (v4 v5:Option D),ρ=[some (.lst (L.map pD)),some d,some (.cell M.length),some (.int pl),v4,v5]/\M++[.lst ((osOf R).map oD)]=M'/\Went L ns R pl/\m=ns.length-pl,⟨_,0,[],_,_,rfl,rfl,.nil,rfl⟩,?_;rintro m _ _ ⟨pl,R,v4,v5,rfl,rfl,we,rfl⟩;exists ·,·,?_;refine Zcr (Zgl hd) ?_;exists _,·,rfl,·,?_;rw [lm];have lw:=we.le;have lR:=we.len;refine ite2 (fun hlt=>?_) (fun hlt=>?_)
  ·have hlt:pl<ns.length:=by have:=Fq hlt; lia
   exists ·,·,·,L,d,ns,pl,rfl,Zgl hd,⟨fi,ln,lw⟩,fun p hp pre=>?_,fun hn=>?_
   ·have ne:=(fi.2 p hp).1;have l0:=Gj.mpr ne;have lp:=(Zko pre ne).2;exists ·,rfl,_,·,_,·,rfl,?_;exists ·,Zgk Zgm,·,M.length,_,·,rfl,Sx,lo R (by lia),?_;rw [Zb2];exists ·,·,?_;refine add_int ?_;rw [<- G4];exists ns.length-(pl+p.2.length),by lia,.inl ⟨pl+p.2.length,R++[(pl,some p.1)],_,_,rfl,?_,.word we hp pre ne,rfl⟩;unfold osOf;rw [Jf,Jf];rfl
   ·exists ·,rfl,_,·,_,·,rfl,?_;exists ·,Zgk Zgm,·,M.length,_,·,rfl,Sx,lo R (by lia),?_;rw [Zb2];exists ·,·,?_;refine add_int ?_;exists ns.length-(pl+1),by lia,.inl ⟨pl+1,R++[(pl,none)],_,_,rfl,?_,.lost we hlt hn,rfl⟩;unfold osOf;rw [Jf,Jf];rfl
  ·have hge:ns.length<=pl:=by
    rcases Fi pl ns.length with z | z
    ·exact Fs (F2 (by lia)) hlt
    ·exact z
   exists ·,.inl (k R ⟨pl,we,hge⟩)
open L3
def Zb8 {i:Nat} (h:i<U.length):Z8 (U.take (i+1))=Z8 (U.take i)++U[i].2:=by
 unfold Z8;rw [Ji h,Jf,List.flatten_append];simp
theorem Pq (fi:Fits L) (hU:∀ p∈U,p∈L):∀ i,(Z8 (U.take i)).length<=4*i:=fun i=>by
 induction i with
 | zero=>rw [Fe]; exact Jz _
 | succ i ih =>
  by_cases h:i<U.length
  ·rw [Zb8 h,Jc];have:=(fi.2 _ (hU _ (Jr h))).2;lia
  ·rw [Gw (by lia)];rw [Gw (by lia)] at ih;lia
theorem Ds (T:Txt mg) {C:Addr}  {f:Addr} (F:Fun K "_law_laid" "_law_laid" Jag f fd):FnOk P w K mg base CX0 1 f fd ["_law_table_here", "_law_signs_here"] (spOf ⟨C,K⟩ Zhe):=by
 refine L3.Fun.ok3 F Dj (fun ds M K3 h=>?_) (fun cdv A outer s H E hr=>?_)
 ·obtain ⟨L,d,ts,U,rfl,_⟩:=h;rfl
 ·have SC:=Dj;have hu:=hr.units;have hu1:=Xl hr;refine ⟨_,_,(Zc (Zl (i:=2) SC.nd rfl (Or.inl rfl) (Yr Zb))
 (Zc (Xs PassesOwn.never rfl (Yk (pv 1)) (Zn (i:=3) SC.nd rfl (Or.inl rfl))
 (Ze (Xs PassesOwn.never rfl (Yk (pv 0)) (Xt (n:=2) rfl (Zv (Zn (i:=4) SC.nd rfl (Or.inl rfl)) (Zv (Zn (i:=5) SC.nd rfl (Or.inl rfl)) Yx)) (by rfl))
 (Ze (Yw (Z1 (Ua (K':=K) rfl hu) (pv 4) (pv 3) (Z2 _))
 (Ze (Zl (i:=2) SC.nd rfl (Or.inl rfl) (Zt (Ye (K':=K) rfl) (pv 2) (Zy (Sw (K:=K) rfl) (by rfl) T.b_list PyProof.Rows.boot_list (Za (pv 5) Zb)))))
 Z4)))))
 (Ze (Zw (pv 2))))),fun _=>(by symm),fun ds M Kk hM hD h=>?_⟩
  obtain ⟨L,d,ts,U,rfl,h⟩:=h;obtain ⟨hd,⟨fr,fi,lt,tx⟩,k⟩:=h;have lU:U.length=ts.length:=by
   have:=congrArg List.length tx.2;rw [Jw] at this;unfold Yj at this;rwa [Ja] at this
  have eU:∀ i (hi:i<U.length) (h2:i<ts.length),U[i].1=ts[i]:=fun i hi h2=>by
   have e:=tx.2;rw [Jw] at e;have:(Yj U)[i]?=ts[i]?:=by rw [e]
   unfold Yj at this;rw [Gg,Jb hi,Jb h2] at this;exact F5 this
  have lm:(ts.map D.int).length=ts.length:=Ja _;have lmL:(L.map pD).length=L.length:=Ja _;have lL:=fi.1;exists Jz _,?_;exists ·,_,(P3 hd).2.1,fun i ρ M'=>∃ v3 v4 v5:Option D,ρ=[some (.lst (L.map pD)),some d,some (.lst ((Z8 (U.take i)).map .int)),v3,v4,v5]/\M=M',fun _ _ _ _ h=>?_,⟨_,_,_,rfl,rfl⟩,?_,?_
  ·obtain ⟨_,_,_,_,rfl⟩:=h;exact (P3 hd).2.1
  ·rintro i x ρ _ hi hx ⟨v3,v4,v5,rfl,rfl⟩;obtain ⟨hi',rfl⟩:=Yc hx;have hiU:i<U.length:=by lia
   obtain ⟨m,hm,em⟩:=Ge (tx.1 _ (Jr hiU));have es:=eU i hiU hi';have lrow:=Pq fi tx.1 i;have lw:=(fi.2 _ (Jr hm)).2;exists ·,·,fun j ρ M'=>∃ v4 v5:Option D,ρ=[some (.lst (L.map pD)),some d,some (.lst ((Z8 (U.take i)++(if m<j then L[m].2 else [])).map .int)),some (.int ts[i]),v4,v5]/\M=M',fun _ _ _ _ _=>rfl,⟨_,_,by rw [F0 (Gr _),Gi]; rfl,rfl⟩,?_,?_
   ·rintro j x ρ _ hj hx ⟨v4,v5,rfl,rfl⟩;obtain ⟨hj',rfl⟩:=Yc hx;exists ·,rfl,_,·,_,·,rfl,?_;exists ·,·,.inl ⟨_,rfl,_,rfl,ite2 (fun h=>?_) (fun h=>?_)⟩
    ·have h:L[j].1=ts[i]:=Fq h;have e:j=m:=by
      rcases Fa j m with z | z | z
      ·exact Fs (by rw [h,em,es]) (fr.get hj' hm z).1
      ·exact z
      ·exact Fs (by rw [em,es,h]) (fr.get hm hj' z).1
     subst e;rw [F0 (G2 _),Gi];exists ·,·,_,·,rfl,?_;refine Vy rfl (ys:=L[j].2.map D.int) rfl (by rw [Ja,Ja]; have es:sizeLine=16777216:=nofun; lia) ?_;rw [<- Jf];exact .inl ⟨_,_,by rw [F1 (Bf _)]; rfl,rfl⟩
    ·refine .inl ⟨some (.int L[j].1),some (wD L[j].2),?_,rfl⟩;have ne:j≠m:=fun e=>h (F2 (by subst e; rw [em]; exact es));have:(if m<j then L[m].2 else [])=(if m<j+1 then L[m].2 else []):=by
      by_cases z:m<j
      ·rw [F1 z,F1 (by lia)]
      ·rw [F0 z,F0 (by lia)]
     rw [<- this];rfl
   ·rintro ρ _ ⟨v4,v5,rfl,rfl⟩;refine .inl ⟨some (.int ts[i]),v4,v5,?_,rfl⟩;have:m<(L.map pD).length:=by rw [lmL]; exact hm
    rw [F1 this,Zb8 hiU,em]
  ·rintro ρ _ ⟨v3,v4,v5,rfl,rfl⟩;exists ·,.inl ?_;have:U.take (ts.map D.int).length=U:=by rw [lm,<- lU,Jw]
   rw [this];exact k
open L3
def uD83 (U:List Pr):D:=.lst (sgD U)
def Zbd {G:List (List Pr)} {i:Nat} (hi:i<G.length):(G.take (i+1)).flatMap (fun U=>L.map fun p=>U++[p])=(G.take i).flatMap (fun U=>L.map fun p=>U++[p])++L.map fun p=>G[i]++[p]:=by
 rw [Ji hi,List.flatMap_append];simp
theorem Du (T:Txt mg) {C:Addr}  {f:Addr} (F:Fun K "_law_texts" "_law_texts" Jbc f fd):FnOk P w K mg base CX0 1 f fd ["_law_one"] (spOf ⟨C,K⟩ dTexts83):=by
 refine L3.Fun.ok3 F D1 (fun ds M K3 h=>?_) (fun cdv A outer s H E hr=>?_)
 ·obtain ⟨L,rfl,_⟩:=h;rfl
 ·have SC:=D1;have hu:=hr.units;have hu1:=Xl hr;refine ⟨_,_,(Zc (Zl (i:=1) SC.nd rfl (Or.inl rfl) (Yr (Za (Yr Zb) Zb)))
 (Zc (Zl (i:=2) SC.nd rfl (Or.inl rfl) (Yr (Za (Yr Zb) Zb)))
 (Zc (Xs PassesOwn.never rfl (Y2 rfl T.b_range (Za (Zt (Ye (K':=K) rfl) Zd (Zy Xx (by rfl) T.b_int PyProof.Rows.boot_int (Za (Xu Tg (Zh (Z9 (K:=K) rfl) (by rfl) T.b_len F6 (Za (pv 0) Zb)) Zd (Z2 _)) Zb))) Zb)) (Zn (i:=3) SC.nd rfl (Or.inl rfl))
 (Zc (Zl (i:=4) SC.nd rfl (Or.inl rfl) (Yr Zb))
 (Zc (Xs PassesOwn.never rfl (Yk (pv 2)) (Zn (i:=5) SC.nd rfl (Or.inr rfl))
 (Ze (Zl (i:=4) SC.nd rfl (Or.inl rfl) (Zt (Ye (K':=K) rfl) (pv 4) (Y6 (T:=["_law_sign", "_law_word"]) (cs:=[5]) rfl (CScope.ok (by kernel_rfl)) (Yk (pv 0)) (fun _ _ _ _=>(Xt (n:=2) rfl (Zv (Zn (i:=0) (Yz (by kernel_rfl)) rfl (Or.inl rfl) (Or.inr rfl)) (Zv (Zn (i:=1) (Yz (by kernel_rfl)) rfl (Or.inl rfl) (Or.inr rfl)) Yx)) (by rfl))) (fun _ _ _ _=>Yo) (fun _ _ _ _=>(Zt (Ye (K':=K) rfl) (pv 2) (Yr (Za (pv 0) Zb)))) (Uo (Yd nofun (Yd nofun Wu))))))))
 (Zc (Zl (i:=1) SC.nd rfl (Or.inl rfl) (Zt (Ye (K':=K) rfl) (pv 1) (pv 4)))
 (Ze (Zl (i:=2) SC.nd rfl (Or.inl rfl) (pv 4)))))))
 (Ze (Zw (pv 1)))))),fun _=>(Zx (by symm) (Zx (by symm) (Zx (Zdk (Zp0 (Yq (s_op Zfj Xq (s_cb Uy (by symm))) Wo)) (s_g 3) (by symm)) (Uf (Yg 1))))),fun ds M Kk hM hD h=>?_⟩
  obtain ⟨L,rfl,h⟩:=h;obtain ⟨hl,k⟩:=h;refine ⟨by show 0<=sizeLine; decide,by show 1<=sizeLine; decide,?_⟩;refine ⟨by show 0<=sizeLine; decide,by show 1<=sizeLine; decide,?_⟩;have lm:(L.map pD).length=L.length:=Ja _;refine ⟨_,rfl,_,rfl,_,_,rfl,rfl,_,_,rfl,rfl,?_⟩;refine add_int ?_;have hm:mT L<=4:=by unfold mT; split <;> lia
  exists ((mT L:Nat):Int),?_,⟨by lia,by lia⟩,fun i ρ M'=>∃ v3 v4 v5:Option D,ρ=[some (.lst (L.map pD)),some (.lst ((upS L i).map uD83)),some (.lst ((lvS L i).map uD83)),v3,v4,v5]/\M=M',fun _ _ _ _ _=>trivial,⟨_,_,_,rfl,rfl⟩,?_,?_
  ·rw [lm];unfold mT
   by_cases z:L.length<4
   ·rw [F1 z,F2 (by lia)]; rfl
   ·rw [F0 z,F3 (by lia)]; rfl
  ·rintro i x ρ _ hi rfl ⟨v3,v4,v5,rfl,rfl⟩;have hi:i<mT L:=by have:i<((mT L:Nat):Int).toNat:=hi; lia
   have llv:=Y7 hl i;have lp:10 ^ i<=10000:=J8 (Nat.pow_le_pow_right nofun (show i<=4 by lia)) nofun;have llm:((lvS L i).map uD83).length=(lvS L i).length:=Ja _;refine ⟨by show 0<=sizeLine; decide,?_⟩;have lfl:∀ j,((((lvS L i).take j).flatMap fun U=>L.map fun p=>U++[p])).length<=100000:=fun j=>by
    rw [Bz];refine J8 (Tv (n:=10) fun U _=>by rw [Ja]; exact hl) ?_;have:((lvS L i).take j).length<=(lvS L i).length:=List.length_take_le' _ _;lia
   exists ·,·,fun j ρ M'=>∃ v5:Option D,ρ=[some (.lst (L.map pD)),some (.lst ((upS L i).map uD83)),some (.lst ((lvS L i).map uD83)),some (.int (0+(i:Int))),some (.lst ((((lvS L i).take j).flatMap fun U=>L.map fun p=>U++[p]).map uD83)),v5]/\M=M',fun _ _ _ _ _=>rfl,⟨_,rfl,rfl⟩,?_,?_
   ·rintro j x ρ _ hj hx ⟨v5,rfl,rfl⟩;obtain ⟨hj',rfl⟩:=Yc hx;exists ·,·,·,?_,fun n ys M'=>M=M'/\ys=((L.take n).map fun p=>(lvS L i)[j]++[p]).map uD83,fun _ _ _ _ _=>rfl,⟨rfl,rfl⟩,?_,?_
    ·show (L.map pD).length<=sizeLine;rw [lm];exact Zk (by lia)
    ·rintro n x ys _ hn hx ⟨rfl,rfl⟩;obtain ⟨hn',rfl⟩:=Yc hx;exists ·,rfl,_,·,_,·,rfl,·,·,by show 1<=sizeLine; decide,?_;have lU:=(Wr.mp (Jr hj')).2;refine Vy rfl rfl (by show (sgD (lvS L i)[j]).length+1<=_; unfold sgD Yj; rw [List.length_map,List.length_map,lU]; exact Zk (by lia)) ?_;exists rfl,?_;rw [Ji hn',Jf,Jf]
     congr 1
     show [D.lst (sgD (lvS L i)[j]++[.int L[n].1])]=[uD83 ((lvS L i)[j]++[L[n]])];unfold uD83 sgD;rw [Zb0,Jf];rfl
    rintro ys _ ⟨rfl,rfl⟩;rw [show L.take _=L from by rw [show (L.map pD).length=L.length from lm]; exact Jw];refine Vy rfl rfl (by rw [Ja,Ja,Ja]; have:=lfl j; exact J8 (by lia:_<=200000) nofun) ?_;rw [<- Jf,<- Zbd hj'];exact .inl ⟨_,rfl,rfl⟩
   ·rintro ρ _ ⟨v5,rfl,rfl⟩;rw [show (lvS L i).take _=lvS L i from by rw [show ((lvS L i).map uD83).length=(lvS L i).length from llm]; exact Jw];have lu:=Zeg hl i (by lia);have lv1:=Y7 hl (i+1);exists ·,·,?_;refine Vy rfl rfl (by rw [Ja,Ja]; have:=lfl (lvS L i).length; rw [Jw] at this; exact J8 (by lia:_<=200000) nofun) ?_;rw [<- Jf];exists ·,.inl ⟨_,_,_,rfl,rfl⟩
  ·rintro ρ _ ⟨v3,v4,v5,rfl,rfl⟩;exists ·,.inl k
open L3
theorem Dz (T:Txt mg) {C:Addr} (Vl:Cal P w K mg base "_law_texts" 1 ["_law_one"] (spOf ⟨C,K⟩ dTexts83)) (Wh:Cal P w K mg base "_law_entries" 2 ["_law_table_here", "_law_row"] (spOf ⟨C,K⟩ Zk5)) (V9:Cal P w K mg base "_law_laid" 1 ["_law_table_here", "_law_signs_here"] (spOf ⟨C,K⟩ Zhe)) {f:Addr} (F:Fun K "_law_fewest" "_law_fewest" Jbq f fd):FnOk P w K mg base CX0 4 f fd ["_law_one", "_law_other"] (spOf ⟨C,K⟩ dFew83):=by
 refine L3.Fun.ok3 F Jbx (fun ds M K3 h=>?_) (fun cdv A outer s H E hr=>?_)
 ·obtain ⟨L1,L2,rfl,_⟩:=h;rfl
 ·have SC:=Jbx;have hu:=hr.units;have hu1:=Xl hr;have Qv:Room 1 _:=hr.mono nofun;have Sn:Room 2 _:=hr.mono nofun;have Nf:Room 1 _:=hr.mono nofun;refine ⟨_,_,(Zc (Zl (i:=2) SC.nd rfl (Or.inl rfl) Zch)
 (Zc (Zl (i:=3) SC.nd rfl (Or.inl rfl) Vu)
 (Zc (Xs PassesOwn.never rfl (Yk (Zo Vl Qv rfl (Za (pv 0) Zb))) (Zn (i:=4) SC.nd rfl (Or.inl rfl))
 (Zc (Zl (i:=5) SC.nd rfl (Or.inl rfl) (Zy (Zho (K:=K) rfl) (by rfl) T.b_tuple PyProof.Rows.boot_tuple (Za (Zo Wh Sn rfl (Za (pv 1) (Za (Zo V9 Nf rfl (Za (pv 0) (Za (pv 4) Zb))) Zb))) Zb)))
 (Zc (Yw (X1 (Zkt (K:=K) rfl (Pe hr) (pv 5) (pv 2)))
 (Zc (Zl (i:=6) SC.nd rfl (Or.inl rfl) (Zt (Ye (K':=K) rfl) (Zmv (K:=K) rfl (Pe hr) (pv 2) (pv 5) (fun _ _=>rfl)) (Zh (Z9 (K:=K) rfl) (by rfl) T.b_len F6 (Za (pv 4) Zb))))
 (Ze (Yw (PW.pt (Zmj (X1 (Tb (pv 3))) (Zfs (Z1 Tg (pv 6) (pv 3) (Z2 _)))))
 (Ze (Zl (i:=3) SC.nd rfl (Or.inl rfl) (pv 6)))
 Z4)))
 Z4)
 (Ze (Wq (Ziz (K:=K) rfl (Pe hr) (pv 2) (pv 5) (Zh (Z9 (K:=K) rfl) (by rfl) T.b_len F6 (Za (pv 4) Zb)) ⟨rfl,rfl,rfl,rfl⟩))))))
 (Ze (Zw (pv 3)))))),fun _=>(Zx (Xr (Zfg (sh:=[7])) (s_g 2)) (Zx (by symm) (Zx (Zdk (by symm) (s_g 4) (Zx (by symm) (Zx (Zao (s_b (Zpt (Zfh (Yg 5)) (Yg 2))) (Zx (Xr (s_op Zfj (Zpu (Yg 2) (Zfh (Yg 5))) (by symm)) (s_g 6)) (by symm)) Ro) (Zff (Zl4 (Yg 2) (Zfh (Yg 5)) (by symm)))))) (Uf (Yg 3))))),fun ds M Kk hM hD h=>?_⟩
  obtain ⟨L1,L2,rfl,h⟩:=h;obtain ⟨⟨⟨fr1,fi1,l1⟩,⟨fr,fi⟩⟩,k⟩:=h;have ne:∀ p∈L2,p.2≠[]:=fun p hp=>(fi.2 p hp).1;have hm:mT L1<=4:=by unfold mT; split <;> lia
  have lT:=Zeg l1 (mT L1) hm;have lm:((upS L1 (mT L1)).map uD83).length=(upS L1 (mT L1)).length:=Ja _;exists ·,L1,rfl,l1,?_;exists ·,fun i ρ M'=>∃ sz o,∃ v5 v6 v7:Option D,ρ=[some (.lst (L1.map pD)),some (.lst (L2.map pD)),some (.cell M.length),some (fD o),v5,v6,v7]/\M<+:M'/\M'[M.length]?=some (.dcN [7] none (szK sz))/\FstS (fun U=>E2 L2 (Z8 U)) (upS L1 (mT L1)) i sz o,fun _ _ _ _ _=>rfl,⟨[],none,_,_,_,rfl,Js _ _,Sx,Zra _ _⟩,?_,?_
  ·rintro i x ρ M1 hi hx ⟨sz,o,v5,v6,v7,rfl,p1,hc,fs⟩;obtain ⟨hi',rfl⟩:=Yc (f:=uD83) hx;obtain ⟨tU,lU⟩:=W6.mp (Jr hi');have lsU:(Yj (upS L1 (mT L1))[i]).length=(upS L1 (mT L1))[i].length:=Ja _;have rU:=Zb9 fi1 tU;exists ·,·,·,L1,_,Yj (upS L1 (mT L1))[i],(upS L1 (mT L1))[i],rfl,rfl,⟨fr1,fi1,by lia,⟨tU,by rw [Jw]⟩⟩,L2,_,Z8 (upS L1 (mT L1))[i],rfl,rfl,⟨fi,by lia⟩,fun R t=>?_;rw [<- Zbm fr ne t];have hX:(upS L1 (mT L1))[i]?=some (upS L1 (mT L1))[i]:=Jb hi';generalize (upS L1 (mT L1))[i]=X at hX tU lU lsU rU ⊢;have hc2:=Q0 (m':=MO.lst ((E2 L2 (Z8 X)).map oD)) hc;have p2:M<+:M1++[MO.lst ((E2 L2 (Z8 X)).map oD)]:=p1.trans (Js _ _)
   exists _,·,(P3 (T9 Sx)).2.2,?_;generalize M1++[MO.lst ((E2 L2 (Z8 X)).map oD)]=M2 at hc2 p2 ⊢;have hd:Nn M2 (.cell M.length)=some ([7],szK sz):=by simp only [Nn,hc2]
   have hg:nGet M2 (.cell M.length) (.nst ((E2 L2 (Z8 X)).map oN)) ((szG sz (E2 L2 (Z8 X))).map fun n=>D.int ((n:Nat):Int)):=⟨_,_,_,hd,rfl,Zlx _,(Ph _ _).symm⟩;have lsz:(szK sz).length<sizeLine:=by
    have:=fs.l;unfold szK;rw [Ja];exact Bg (by lia:_<=20000) nofun
   have lsg:(sgD X).length=X.length:=by unfold sgD; rw [List.length_map]; exact lsU
   refine g_nx ?_
   try dsimp only
   cases hn:szG sz (E2 L2 (Z8 X)) with
   | none =>
    rw [hn] at hg;exists ·,_,·,Zdo _,·,_,hg,·,iteF ?_;exists ·,(by rw [hd]; exact Option.some_ne_none _),·,_,·,Zdo _,·,·,_,_,_,·,hc2,rfl,Zlx _,lsz,fun v hv=>?_,fun _=>?_
    ·rw [Ph,hn] at hv; cases hv
    ·rw [Zpg hn,lsg];exact .inl ⟨_,o,_,_,_,rfl,Xp p2 (Jd _),Gh (Y5 hc2),fs.miss hX hn⟩
   | some n =>
    rw [hn] at hg;have fs2:=fs.hit (fun j k T U hjk e1 e2=>by
     obtain ⟨l1,g1⟩:=Je.mp e1;obtain ⟨l2,g2⟩:=Je.mp e2;rcases Fi j k with z | z
     ·have:=Be.mp (Zef L1 (mT L1)) j k l1 l2 z;rwa [g1,g2] at this
     ·have:j=k:=by lia
      subst this;rw [<- g1,<- g2];exact Jd _) hX hn
    refine R9 (fun ρ' M'=>∃ v7:Option D,ρ'=[some (.lst (L1.map pD)),some (.lst (L2.map pD)),some (.cell M.length),some (fD (minO o (n+X.length))),some (uD83 X),some (.tup ((E2 L2 (Z8 X)).map oD)),v7]/\M2=M') (fun Kn hnx=>?_) ?_
    ·exists ·,_,·,Zdo _,·,_,hg,·,iteT ?_;exists ·,·,_,·,Zdo _,_,hg,·,·,?_;rw [lsg];refine add_int ?_;rw [<- G4];refine g_nx ?_
     try dsimp only
     cases o with
     | none=>exact ⟨_,rfl,_,rfl,iteT (iteT ⟨_,rfl,hnx _ _ ⟨_,rfl,rfl⟩⟩)⟩
     | some m =>
      exists ·,·,iteF ⟨_,rfl,_,rfl,_,_,rfl,rfl,_,rfl,ite2 (fun z=>?_) (fun z=>?_)⟩
      ·have z:n+X.length<m:=by have:=Fq z; lia
       exists ·,hnx _ _ ⟨_,by rw [show minO (some m) (n+X.length)=some (n+X.length) from F1 z]; rfl,rfl⟩
      ·have z:¬ n+X.length<m:=fun y=>z (F2 (by lia));exact hnx _ _ ⟨_,by rw [show minO (some m) (n+X.length)=some m from F0 z]; rfl,rfl⟩
    rintro _ _ ⟨v7,rfl,rfl⟩;exists ·,(by rw [hd]; exact Option.some_ne_none _),·,_,·,Zdo _,·,·,_,_,_,·,hc2,rfl,Zlx _,lsz,fun v hv=>?_,fun hv=>?_
    ·exact .inl ⟨_,_,_,_,_,rfl,p2,hc2,fs2⟩
    ·rw [Ph,hn] at hv; cases hv
  ·rintro ρ M1 ⟨sz,o,v5,v6,v7,rfl,p1,hc,fs⟩;exists ·,.inl (k M1 o p1 (Zrc (Free.nd fr1) (by rw [<- lm]; exact fs)))
open L3
def Zn9 {bs:List Int} {a b c:Int} (h1:a≠b) (h2:a≠c) (h3:b≠c) (hb:bs=[a,b,c]) {w0:List Int} (h0:w0=[a]\/w0=[a,b]):WOk [w0,[b,a],[b,b],[c,c]]/\∀ w∈[w0,[b,a],[b,b],[c,c]],(∀ b∈w,b∈bs)/\LgB bs.length w.length:=by
 subst hb;exists ⟨?_,?_⟩,?_
 ·rcases h0 with rfl | rfl <;> simp [PF,List.cons_prefix_cons,h1,h1.symm,h2,h2.symm,h3,h3.symm]
 ·rcases h0 with rfl | rfl <;> simp
 ·rcases h0 with rfl | rfl <;> simp [LgB]
theorem D4 (T:Txt mg) {C:Addr} (Zi:Cal P w K mg base "_law_draw" 1 ["_law_hand", "_law_many"] (spOf ⟨C,K⟩ dDraw)) (U7:Cal P w K mg base "_law_two" 3 ["_law_hand"] (spOf ⟨C,K⟩ dTwo82)) (Xd:Cal P w K mg base "_law_signs" 2 ["_law_hand", "_law_many"] (spOf ⟨C,K⟩ dSigns)) (Yh:Cal P w K mg base "_law_table" 2 ["_law_hand", "_law_words_here", "_law_signs_here"] (spOf ⟨C,K⟩ dTable)) {f:Addr} (F:Fun K "_law_drawn" "_law_drawn" Jaf f fd):FnOk P w K mg base CX0 4 f fd ["_law_hand"] (spOf ⟨C,K⟩ dDrawn83):=by
 refine L3.Fun.ok3 F Jaz (fun ds M K3 h=>?_) (fun cdv A outer s H E hr=>?_)
 ·obtain ⟨k0,rfl,_⟩:=h;rfl
 ·have SC:=Jaz;have hu:=hr.units;have hu1:=Xl hr;have Zj:Room 1 _:=hr.mono nofun;have Zbb:Room 3 _:=hr.mono nofun;have Wt:Room 2 _:=hr.mono nofun;have Yu:Room 2 _:=hr.mono nofun;refine ⟨_,_,(Zc (Yw (Z1 Qh (Zo Zi Zj rfl (Za (pv 0) (Za Zd Zb))) Zd (Z2 _))
 (Ze (Zw (Zo U7 Zbb rfl (Za (pv 0) Zb))))
 Z4)
 (Zc (Zl (i:=1) SC.nd rfl (Or.inl rfl) (Zo Zi Zj rfl (Za (pv 0) (Za Zd Zb))))
 (Zc (Zl (i:=2) SC.nd rfl (Or.inl rfl) (Zt (Ye (K':=K) rfl) Zd (Zo Zi Zj rfl (Za (pv 0) (Za Zd Zb)))))
 (Zc (Zmn (i:=3) (j:=4) (k:=5) rfl SC.nd rfl rfl rfl nofun nofun nofun rfl rfl rfl (Za (pv 1) (Za (Zt Xi (Zt (Ye (K':=K) rfl) (pv 1) (pv 2)) Zd) (Za (Zt Xi (Zt (Ye (K':=K) rfl) (pv 1) (Zt Zj4 Zd (pv 2))) Zd) Zb))) rfl)
 (Zc (Zl (i:=6) SC.nd rfl (Or.inl rfl) (Zo Xd Wt rfl (Za (pv 0) (Za Zd Zb))))
 (Zc (Zl (i:=7) SC.nd rfl (Or.inl rfl) (Zo Yh Yu rfl (Za (pv 0) (Za (Yr (Za (Z7 (Za (pv 3) Zb)) (Za (Z7 (Za (pv 4) (Za (pv 3) Zb))) (Za (Z7 (Za (pv 4) (Za (pv 4) Zb))) (Za (Z7 (Za (pv 5) (Za (pv 5) Zb))) Zb))))) (Za (pv 6) Zb)))))
 (Ze (Zw (Z7 (Za (pv 7) (Za (Zo Yh Yu rfl (Za (pv 0) (Za (Yr (Za (Z7 (Za (pv 3) (Za (pv 4) Zb))) (Za (Z7 (Za (pv 4) (Za (pv 3) Zb))) (Za (Z7 (Za (pv 4) (Za (pv 4) Zb))) (Za (Z7 (Za (pv 5) (Za (pv 5) Zb))) Zb))))) (Za (pv 6) Zb)))) Zb))))))))))),fun _=>(Zx (by symm) (Zx (by symm) (Zx (by symm) (Zx (Zpp (i:=3) (j:=4) (k:=5) (by symm)) (by symm))))),fun ds M Kk hM hD h=>?_⟩
  obtain ⟨k0,rfl,h⟩:=h;obtain ⟨hk,k⟩:=h;exists ·,k0,8,rfl,hk,⟨nofun,nofun⟩,fun z z0 z1=>⟨_,_,rfl,rfl,_,rfl,ite2 (fun _=>?_) (fun _=>?_)⟩
  ·exists ·,k0,rfl,hk,fun L1 L2 bs b8 fr1 fi1 l1 fr2 fi2 l2 w1 w2=>.inl (k L1 L2 bs b8 fr1 fi1 l1 fr2 fi2 l2 w1 w2)
  exists ·,k0,256,rfl,hk,⟨nofun,nofun⟩,fun a a0 a1=>?_;exists ·,k0,60,rfl,hk,⟨nofun,nofun⟩,fun t t0 t1=>?_;refine add_int ?_;refine g_nx ?_
  try dsimp only
  exists ·,·,·,?_;refine add_int ?_;exists _,·,rfl,nofun,·,·,?_;show mul3 (.int 2) (.int (1+t)) M _;exists .inl ⟨nofun,nofun⟩,?_;refine add_int ?_;exists _,·,rfl,nofun,?_;exists _,_,·,?_;obtain ⟨b,eb⟩:∃ b,b=(a+(1+t)) % 256:=⟨_,rfl⟩;obtain ⟨c,ec⟩:∃ c,c=(a+2*(1+t)) % 256:=⟨_,rfl⟩;rw [<- eb,<- ec];have h1:a≠b:=by lia
  have h2:a≠c:=by lia
  have h3:b≠c:=by lia
  have k1:=Zn9 h1 h2 h3 rfl (.inl rfl);have k2:=Zn9 h1 h2 h3 rfl (.inr rfl);exists ·,k0,10,rfl,hk,⟨nofun,nofun⟩,fun ss nds ls=>?_;have s1:1<=sizeLine:=by decide
  have s2:2<=sizeLine:=by decide
  have s4:4<=sizeLine:=by decide
  exists ·,·,s1,·,·,s2,·,·,s2,·,·,s2,s4,·,k0,_,ss,rfl,hk,⟨k1.1,by show 4<=28; decide,nds,by show 4<=_; lia,by lia⟩,fun L1 fr1 fi1 pm1=>?_;exists ·,·,·,·,s2,·,·,s2,·,·,s2,·,·,s2,s4,·,k0,_,ss,rfl,hk,⟨k2.1,by show 4<=28; decide,nds,by show 4<=_; lia,by lia⟩,fun L2 fr2 fi2 pm2=>⟨s2,.inl (k L1 L2 [a,b,c] (by show 3<=8; decide) fr1 fi1 ?_ fr2 fi2 ?_ (fun p hp=>k1.2 _ (pm1.mem_iff.mp (Jo.mpr ⟨p,hp,rfl⟩))) fun p hp=>k2.2 _ (pm2.mem_iff.mp (Jo.mpr ⟨p,hp,rfl⟩)))⟩
  ·have:=pm1.length_eq; rw [Ja] at this; exact J8 (G9 this) (by show 4<=10; decide)
  ·have:=pm2.length_eq; rw [Ja] at this; exact J8 (G9 this) (by show 4<=10; decide)
open L3
def Wi {L1:List Pr} (p:S1.Perm L1) (h:TxIn S1 U):TxIn L1 U:=fun x hx=>p.mem_iff.mp (h x hx)
abbrev spLaw (K:W.Frag) (Pt P2:Addr):Sp:=Zkd K Pt lamP lamQ P2 cpP cpQ
theorem D7 (T:Txt mg) {C:Addr} {P2:Addr} (Zdc:Mkr P w K mg base "Code" C 4 ["self", "table"] (Zae C Pt lamP lamQ)) (V8:Cal P w K mg base "_law_open" 1 ["_law_script", "_law_place"] (spOf ⟨C,K⟩ dOpen)) (Vm:Cal P w K mg base "_law_drawn" 4 ["_law_hand"] (spOf ⟨C,K⟩ dDrawn83)) (Rb:Cal P w K mg base "merging" 8 ["one", "other"] (spOf ⟨C,K⟩ (dMerg P2 cpP cpQ))) (W1:Cal P w K mg base "_law_fewest" 4 ["_law_one", "_law_other"] (spOf ⟨C,K⟩ dFew83)) {f:Addr} (F:Fun K "law" "law" Zl6 f fd):FnOk P w K mg base CX0 11 f fd ["_law_script"] (spOf ⟨C,K⟩ (dLaw2 Pt lamP lamQ P2 cpP cpQ)):=by
 refine L3.Fun.ok3 F Dv (fun ds M K3 h=>?_) (fun cdv A outer s H E hr=>?_)
 ·obtain ⟨ns,rfl,_⟩:=h;rfl
 ·have SC:=Dv;have hu:=hr.units;have hu1:=Xl hr;have Zgy:Room 5 _:=hr.mono nofun;have Nd:Room 1 _:=hr.mono nofun;have Qw:Room 4 _:=hr.mono nofun;have Zdw:Room 8 _:=hr.mono nofun;have Rm:Room 4 _:=hr.mono nofun;refine ⟨_,_,(Zc (Xs PassesOwn.never rfl (Y2 rfl T.b_range (Za (Zh (Vf rfl) (by rfl) T.b_max PyProof.Rows.boot_max (Za Zd (Za (Zh (Sv rfl) (by rfl) T.b_min PyProof.Rows.boot_min (Za (Zh (Z9 (K:=K) rfl) (by rfl) T.b_len F6 (Za (pv 0) Zb)) (Za Zd Zb))) Zb))) Zb)) (Zn (i:=1) SC.nd rfl (Or.inl rfl))
 (Zc (Zcf (Zo Vm Qw rfl (Za (Zo V8 Nd rfl (Za (pv 0) (Za (pv 1) Zb))) Zb)) (Xt (n:=2) rfl (Zv (Zn (i:=2) SC.nd rfl (Or.inl rfl)) (Zv (Zn (i:=3) SC.nd rfl (Or.inl rfl)) Yx)) (by rfl)))
 (Zc (Zl (i:=4) SC.nd rfl (Or.inl rfl) (Zo Rb Zdw rfl (Za (Zqk Zdc Zgy rfl (Za (Zy (Sw (K:=K) rfl) (by rfl) T.b_list PyProof.Rows.boot_list (Za (pv 2) Zb)) Zb)) (Za (Zqk Zdc Zgy rfl (Za (Zy (Sw (K:=K) rfl) (by rfl) T.b_list PyProof.Rows.boot_list (Za (pv 3) Zb)) Zb)) Zb))))
 (Zc (Zl (i:=5) SC.nd rfl (Or.inl rfl) (Zo W1 Rm rfl (Za (pv 2) (Za (pv 3) Zb))))
 (Ze (Yw (X1 (Tb (pv 4)))
 (Ze (Yw (X1 (T5 (pv 5)))
 (Ze (Zw Rg))
 Z4))
 (Zc (Zl (i:=6) SC.nd rfl (Or.inl rfl) (Zt (Ye (K':=K) rfl) (Zh (Z9 (K:=K) rfl) (by rfl) T.b_len F6 (Za (Zs (Z6 (K':=K) rfl) (pv 4) Zd (fun _ _=>rfl)) Zb)) (Zh (Z9 (K:=K) rfl) (by rfl) T.b_len F6 (Za (Zs (Z6 (K':=K) rfl) (pv 4) Zd (fun _ _=>rfl)) Zb))))
 (Zc (Zl (i:=7) SC.nd rfl (Or.inl rfl) (Xu Tg (Zh (Vf rfl) (by rfl) T.b_max PyProof.Rows.boot_max (Za (Zh (Z9 (K:=K) rfl) (by rfl) T.b_len F6 (Za (Zs (Z6 (K':=K) rfl) (pv 4) Zd (fun _ _=>rfl)) Zb)) (Za (Zh (Z9 (K:=K) rfl) (by rfl) T.b_len F6 (Za (Zs (Z6 (K':=K) rfl) (pv 4) Zd (fun _ _=>rfl)) Zb)) Zb))) (Zt (Ye (K':=K) rfl) Zd (Zy Xx (by rfl) T.b_int PyProof.Rows.boot_int (Za (Xu Tg (Zh (Z9 (K:=K) rfl) (by rfl) T.b_len F6 (Za (pv 2) Zb)) Zd (Z2 _)) Zb))) (Z2 _)))
 (Ze (Yw (PW.pt (Zmj (PW.pt (T4 (X1 (T5 (pv 5))) (V2 (Z1 Qh (pv 6) (pv 5) (Z2 _))))) (Zfs (PW.pt (T4 (Rp (pv 7)) (V2 (Z1 (Zlc (K':=K) rfl hu) (pv 6) (pv 5) (Z2 _))))))))
 (Ze (Zw Rg))
 Z4))))))))))
 (Ze (Zw Rg))),fun _=>(Zx (Zdk (by symm) (s_g 1) (Zx (by symm) (Zx (Xr (Pp (Yq (Zb6 (by symm)) (Yq (Zb6 (by symm)) Wo))) (s_g 4)) (Zx (by symm) (Zao (by symm) (by symm) (Zx (by symm) (Zx (Xr (s_op s_lt (by symm) (s_op Zfj Xq (s_cb Uy (by symm)))) (s_g 7)) (by symm)))))))) (Uf s_bl)),fun ds M Kk hM hD h=>?_⟩
  obtain ⟨ns,rfl,h⟩:=h;obtain ⟨rfl,hlen,k⟩:=h;have lm:(ns.map D.int).length=ns.length:=Ja _;exists ·,·,_,·,_,·,·,?_,?_
  ·rw [lm];refine ⟨?_,?_⟩ <;> (split <;> (try split) <;> lia)
  generalize hN:(if (if (2:Int)<((ns.map D.int).length:Int) then (2:Int) else ((ns.map D.int).length:Int)) > 1 then (if (2:Int)<((ns.map D.int).length:Int) then (2:Int) else ((ns.map D.int).length:Int)) else 1).toNat=N;have hN:N<=2:=by
   rw [<- hN]
   split <;> (try split) <;> lia
  exists fun i ρ M'=>∃ (v1 v2 v3 v4 v5 v6 v7:Option D),ρ=[some (.frz (ns.map .int)),v1,v2,v3,v4,v5,v6,v7]/\M'[0]?=some (.tab Pt lamP lamQ)/\M'[1]?=some (.tab P2 cpP cpQ),fun _ _ _ _ _=>trivial,⟨_,_,_,_,_,_,_,rfl,rfl,rfl⟩,?_,?_
  ·rintro i x ρ M0 hi rfl ⟨v1,v2,v3,v4,v5,v6,v7,rfl,h0,h1⟩;have hi:i<N:=hi;exists ·,·,ns,·,⟨hlen,by lia,by lia⟩,?_;exists ·,Sx,fun L1 L2 bs b8 fr1 fi1 n1 fr2 fi2 n2 w1 w2=>?_;have h0':(M0++[MO.hand])[0]?=some (.tab Pt lamP lamQ):=Q0 h0;have h1':(M0++[MO.hand])[1]?=some (.tab P2 cpP cpQ):=Q0 h1;generalize M0++[MO.hand]=M1 at h0' h1' ⊢;exists ·,rfl,_,·,_,·,rfl,?_;exists ·,_,·,rfl,0,_,L1,h0',rfl,rfl,⟨fr1,fi1⟩,fun S1 pm1 ri1=>?_;exists ·,_,·,rfl,0,_,L2,h0',rfl,rfl,⟨fr2,fi2⟩,fun S2 pm2 ri2=>?_;have frS1:=fr1.perm pm1;have fiS1:=fi1.perm pm1;have frS2:=fr2.perm pm2
   have fiS2:=fi2.perm pm2;have neS1:∀ p∈S1,p.2≠[]:=fun p hp=>(fiS1.2 p hp).1;have neS2:∀ p∈S2,p.2≠[]:=fun p hp=>(fiS2.2 p hp).1;have fitS:=(Znr b8 fr1 fi1 (by lia) fr2 fi2 w1 w2).perm pm1 pm2 frS1 fiS1 frS2 fiS2;have get:∀ {M':Mem} {j:Nat} {x:MO},M1<+:M'->M1[j]?=some x->M'[j]?=some x:=fun p h=>by obtain ⟨t,rfl⟩:=p; exact Ym h
   exists 1,S1,S2,rfl,h1',fitS,fun M2 re p2 hW=>?_,fun M2 re c a b u v p2 ga gb nab ha hb hW huv=>?_
   ·refine ⟨_,rfl,_,rfl,L1,L2,rfl,⟨⟨fr1,fi1,n1⟩,⟨fr2,fi2⟩⟩,fun M3 o p3 fw=>?_⟩;have ho:o=none:=by
     cases o with
     | none=>rfl
     | some n =>
      obtain ⟨X,Y,tX,tY,hn,he,_⟩:=fw.a n rfl;have:=Zh8 frS1 frS2 neS2 neS1 hW (Wi pm1.symm tX) (Wi pm1.symm tY) hn;rw [U5 frS2 pm2,U5 frS2 pm2] at this;exact Fs he this
    subst ho;exists ·,·,iteT ⟨_,rfl,_,rfl,iteF (.inl ⟨_,_,_,_,_,_,_,rfl,get (p2.trans p3) h0',get (p2.trans p3) h1'⟩)⟩
   ·refine ⟨_,rfl,_,rfl,L1,L2,rfl,⟨⟨fr1,fi1,n1⟩,⟨fr2,fi2⟩⟩,fun M3 o p3 fw=>?_⟩;obtain ⟨U,V,tU,tV,eU,eV,df,hE,hmin⟩:=Zbq frS1 frS2 neS2 neS1 hW;have huv':(u.length=U.length/\v.length=V.length)\/(u.length=V.length/\v.length=U.length):=by
     rw [eU,eV] at huv
     split at huv
     ·obtain ⟨rfl,rfl⟩:=Prod.mk.inj huv;exact .inr ⟨Ja _,Ja _⟩
     ·obtain ⟨rfl,rfl⟩:=Prod.mk.inj huv;exact .inl ⟨Ja _,Ja _⟩
    have hne:U≠V:=fun z=>df.signs (by rw [z]);rw [U5 frS2 pm2,U5 frS2 pm2] at hE;have lo:∀ n,o=some n->u.length+v.length<=n:=fun n e=>by
     obtain ⟨X,Y,tX,tY,hn,he,rfl⟩:=fw.a n e;rw [<- U5 frS2 pm2,<- U5 frS2 pm2] at he;have:=hmin (Wi pm1.symm tX) (Wi pm1.symm tY) hn he;lia
    have hi':u.length<=mT L1->v.length<=mT L1->∃ n,o=some n/\n<=u.length+v.length:=fun a b=>by
     obtain ⟨n,e,le⟩:=fw.b U V (Wi pm1 tU) (Wi pm1 tV) hne hE (by lia) (by lia);exact ⟨n,e,by lia⟩
    have sa:Tf M3 (.cell a)=some (u.map .int):=(P3 (T9 (by obtain ⟨t,rfl⟩:=p3; exact Ym ha))).2.2;have sb:Tf M3 (.cell b)=some (v.map .int):=(P3 (T9 (by obtain ⟨t,rfl⟩:=p3; exact Ym hb))).2.2;have lu:(u.map D.int).length=u.length:=Ja _;have lv:(v.map D.int).length=v.length:=Ja _;have lL:(L1.map pD).length=L1.length:=Ja _;exists ·,·,iteF ⟨_,rfl,_,_,_,rfl,rfl,rfl,_,sa,_,rfl,_,_,_,rfl,rfl,rfl,_,sb,?_⟩;rw [lu,lv];refine add_int ?_;exists ·,_,_,·,rfl,rfl,_,sa,·,_,_,·,rfl,rfl,_,sb,_,·,·,·,_,·,rfl,_,·,rfl,?_;refine add_int ?_;exists _,·,rfl,?_;rw [lu,lv,lL]
    refine g_nx ?_
    try dsimp only
    have g0:=get (p2.trans p3) h0';have g1:=get (p2.trans p3) h1';have short:decide ((if (v.length:Int) > (u.length:Int) then (v.length:Int) else (u.length:Int))<4+(if decide ((L1.length:Int)<4)=true then (1:Int) else 0))=true->u.length<=mT L1/\v.length<=mT L1:=fun h=>by
     have h:=Fq h;unfold mT
     by_cases z:L1.length<4
     ·rw [F1 z];rw [F2 (by lia),F1 rfl] at h
      split at h <;> lia
     ·rw [F0 z];rw [F3 (by lia),F0 Jp] at h
      split at h <;> lia
    cases o with
    | none =>
     exists ·,·,iteF (iteF ⟨_,rfl,_,rfl,ite2 (fun hs=>?_) (fun _=>iteF (.inl ⟨_,_,_,_,_,_,_,rfl,g0,g1⟩))⟩);obtain ⟨s1,s2⟩:=short hs;obtain ⟨n,e,_⟩:=hi' s1 s2;cases e
    | some n =>
     have l1:=lo n rfl;exists ·,·,iteT ⟨_,rfl,_,rfl,_,_,rfl,rfl,_,rfl,ite2 (fun hgt=>?_) (fun _=>⟨_,rfl,_,rfl,ite2 (fun hs=>?_) (fun _=>iteF (.inl ⟨_,_,_,_,_,_,_,rfl,g0,g1⟩))⟩)⟩
     ·have hgt:=Fq hgt;lia
     ·obtain ⟨s1,s2⟩:=short hs;obtain ⟨m,e,l2⟩:=hi' s1 s2;cases e;exists ·,·,?_;refine Su W5 (a:=(u.length:Int)+(v.length:Int)) (b:=((n:Nat):Int)) ⟨_,rfl,?_⟩;rw [show decide ((u.length:Int)+(v.length:Int)=((n:Nat):Int))=true from F2 (by lia)];exact iteF (.inl ⟨_,_,_,_,_,_,_,rfl,g0,g1⟩)
  ·rintro ρ M' ⟨v1,v2,v3,v4,v5,v6,v7,rfl,_⟩;exact .inl (k M')
end
def all_mk {l:W.OpenLaw} {fa:Addr} (X:K.In h) (G:h.Ns mainGlobals mg) (hfa:mg "law"=some (.ref fa))
 {C:Addr}
    (aC:W.nsIn K mainGlobals "Code"=some (some (.ref C)))
    (gx_FIRST_COUPLE:W.nsIn K mainGlobals "FIRST_COUPLE"=some (some (.ref Yb)))
    (h0:FnG K "_law_draw" Dg f0 d0)
    (h1:FnG K "_law_open" Jbb f1 d1)
    (h2:FnG K "_law_bytes" Jam f2 d2)
    (h3:FnG K "_law_words" Jai f3 d3)
    (h4:FnG K "_law_signs" Jas f4 d4)
    (h5:FnG K "_law_table" Jaj f5 d5)
    (h6:FnG K "odds_between" X7 f6 d6)
    (h7:FnG K "fault" Zap f7 d7)
    (h8:FnG K "refuse_fault" X6 f8 d8)
    (h9:FnG K "beginnings" W8 f9 d9)
    (a10:W.findIn K (.ref C) "__init__"=some (some (.ref f10)))
    (l10:K.lookup f10=some ⟨oc10,od10,.func (W.fnOf "__init__" "Code.__init__" (Yv Zu) (Yn Zu) (Zf Zu) .none kV10 dc10 pm10 an10 (.ref c) ct10),sl10⟩)
    (c10:W.codeIn K (.ref c) "Code.__init__"=true)
    (k10:W.keepIn K (.ref f10)=true)
    (n10:W.isFn K (.ref f10)=true)
    (h11:MtG K C "sign" "Code.sign" V0 f11 d11)
    (h12:MtG K C "live" "Code.live" V1 f12 d12)
    (h13:MtG K C "table" "Code.table" W9 f13 d13)
    (h14:FnG K "word_at" Ty f14 d14)
    (h15:FnG K "spilt" Zal f15 d15)
    (h16:FnG K "spill" Zam f16 d16)
    (h17:FnG K "sways" Zak f17 d17)
    (h18:FnG K "certain_size" X8 f18 d18)
    (a19:W.nsIn K mainGlobals "coupled"=some (some (.ref f19)))
    (l19:K.lookup f19=some ⟨oc19,od19,.func (W.fnOf "coupled" "coupled" (Yv Yp) (Yn Yp) (Zf Yp) .none kV19 dc19 pm19 an19 (.ref cL) ct19),sl19⟩)
    (c19:W.codeIn K (.ref cL) "coupled"=true)
    (k19:W.keepIn K (.ref f19)=true)
    (h20:FnG K "with_sign" Vz f20 d20)
    (h21:FnG K "pairs_taken" Wn f21 d21)
    (h22:FnG K "signs_taken" Wm f22 d22)
    (h23:FnG K "state_of" Ux f23 d23)
    (h24:FnG K "is_end" Qf f24 d24)
    (h25:FnG K "walked" Qe f25 d25)
    (h26:FnG K "merging" Tz f26 d26)
    (h27:FnG K "_law_two" Jay f27 d27)
    (h28:FnG K "_law_word_at" Di f28 d28)
    (h29:FnG K "_law_entries" Jbd f29 d29)
    (h30:FnG K "_law_laid" Jag f30 d30)
    (h31:FnG K "_law_texts" Jbc f31 d31)
    (h32:FnG K "_law_fewest" Jbq f32 d32)
    (h33:FnG K "_law_drawn" Jaf f33 d33)
    (h34:FnG K "law" Zl6 f34 d34)
    (fc_FIRST_COUPLE:L2.Zjs K Yb=true)
    (hd:W.codeHdIn K c Pt=true)
    (hd2:W.codeHdIn K cL P2=true)
    (cl:Cls K C)
    (mk:MkG K C)
    (y_pairs:W.findIn K (.ref C) "pairs"=some none)
    (y_words_by_sign:W.findIn K (.ref C) "words_by_sign"=some none)
    (y_signs_by_word:W.findIn K (.ref C) "signs_by_word"=some none)
    (y_begun:W.findIn K (.ref C) "begun"=some none)
    (y_word_sizes:W.findIn K (.ref C) "word_sizes"=some none)
    (z:Zkx K ["len", "abs", "max", "min", "isinstance", "all", "any", "range", "int", "bool", "tuple", "list", "dict", "sorted", "enumerate"]=true)
   :∃ fd:FuncData,(∀ P∈[Pt,P2],∃ c,W.codeHdIn K c P=true)/\(∀ (s:Shared) (v:Value),BindsTo s fd ⟨[v],[]⟩ [("_law_script",v)])/\∀ base:Heap,K.In base->base.Ns mainGlobals mg->Bm mg base->FnOk l.prog w K mg base CX0 11 fa fd ["_law_script"] (spLaw K Pt P2):=by
  have e:=hfa.symm.trans (W.mg_of X G h34.g);cases e;have T:Txt mg:=⟨Xo X G z 0 rfl,Xo X G z 1 rfl,Xo X G z 2 rfl,Xo X G z 3 rfl,Xo X G z 4 rfl,Xo X G z 5 rfl,Xo X G z 6 rfl,Xo X G z 7 rfl,Xo X G z 8 rfl,Xo X G z 9 rfl,Xo X G z 10 rfl,Xo X G z 11 rfl,Xo X G z 12 rfl,Xo X G z 13 rfl,Xo X G z 14 rfl⟩;have CT:CodeT K C:=⟨cl,y_pairs,y_words_by_sign,y_signs_by_word,y_begun,y_word_sizes⟩;have F10:=Zcy (st:=Zu) l10 c10 k10;have b10:=F10.binds (ps:=["self", "table"]) fun _ _ _ _ _ _=>us2 fun _ _=>rfl;have F19:=Zcy (st:=Yp) l19 c19 k19;have b19:=F19.binds (ps:=["code", "one", "other", "unlike"]) fun _ _ _ _ _ _=>us4 fun _ _ _ _=>rfl
  have bl:∀ (s:Shared) (v:Value),BindsTo s d34 ⟨[v],[]⟩ [("_law_script",v)]:=by
    obtain ⟨_,_,_,_,_,_,_,_,_,rfl,_,_⟩:=h34.F.ex;exact fun s v=>.of_eq rfl
  exists d34,(fun P hp=>(Jy.mp hp).elim (fun z=>⟨c,z ▸ hd⟩) fun z=>⟨cL,(Jh.mp z) ▸ hd2⟩),bl,fun base kb _ hBm=>?_;have Y:Tk l.prog w K mg base:=⟨fun e=>W.mg_of X G e⟩;have hCd:=W.codeHd_of_K kb hd;have hCd2:=W.codeHd_of_K kb hd2;have Wc:=Y.m gx_FIRST_COUPLE;have Zi:=Y3 Y h0 (Dt T  h0.F);have Wy:=L3.Cal.imp Zi fun _ _ _ _ h=>Zrz (C:=⟨C,K⟩) h;have V8:=Y3 Y h1 (Db (C:=C) T  h1.F);have Vn:=Y3 Y h2 (Jbv T Zi h2.F);have N8:=L3.Cal.imp Vn fun _ _ _ _ h=>Zj1 (C:=⟨C,K⟩) h;have X4:=Y3 Y h3 (Df (C:=C) T Wy h3.F);have Xd:=Y3 Y h4 (Jba T Zi h4.F);have Te:=L3.Cal.imp Xd fun _ _ _ _ h=>Zn3 (C:=⟨C,K⟩) h;have Yh:=Y3 Y h5 (De (C:=C) T Wy h5.F)
  have We:=Y3 Y h6 (Jbo T  h6.F);have Zbo:=Y3 Y h7 (Dp T We h7.F);have Wd:=Y3 Y h8 (Jap T Zbo h8.F);have Vk:=Y3 Y h9 (D3 T  h9.F);have Zdc:Mkr l.prog w K mg base "Code" C 4 _ _:=⟨f10,_,⟨mk.m,a10,n10,mk.k⟩,Dx T CT hCd hBm Wd Vk l10 c10,Y.m aC,b10⟩;have R7:=Zm9 Y cl h11 (Dd T CT  h11.F);have Zh4:=Zm9 Y cl h12 (Jar T CT  h12.F);have Zr1:=L3.Met.imp Zh4 fun _ _ _ _ h=>Zn4 (C:=⟨C,K⟩) h;have Ra:=Zm9 Y cl h13 (Jad T CT  h13.F);have Zh5:=L3.Met.imp Ra fun _ _ _ _ h=>Zj0 (C:=⟨C,K⟩) h;have Y4:=Y3 Y h14 (Dc T CT R7 h14.F);have N7:=L3.Cal.imp Y4 fun _ _ _ _ h=>Zh1 (C:=⟨C,K⟩) h;have Zbn:=Y3 Y h15 (Jah T R7 Y4 h15.F)
  have Pa:=Y3 Y h16 (Jbw T Zbn h16.F);have Zn7:=L3.Cal.imp Pa fun _ _ _ _ h=>Zjz (C:=⟨C,K⟩) h;have Q9:=Y3 Y h17 (Dy (C:=C) T N7 Zr1 h17.F);have Wf:=Y3 Y h18 (D6 (C:=C) T Q9 N7 h18.F);have Xc:=Zk8 (P:=l.prog) (w:=w) (base:=base) F19 (Jbt (C:=C) T hCd2 hBm Wf l19 c19) (Y.m a19) b19;have Yt:=Y3 Y h20 (Jac (C:=C) T  h20.F);have W0:=Y3 Y h21 (Jbe (C:=C) T Zh5 Yt Xc h21.F);have Wz:=Y3 Y h22 (Dm (C:=C) T Zh5 Yt Xc h22.F);have U6:=Y3 Y h23 (Jak (C:=C) T  h23.F);have Pb:=Y3 Y h24 (Jaa (C:=C) T Zn7 h24.F);have Q8:=Y3 Y h25 (Dq (C:=C) T Wc fc_FIRST_COUPLE U6 Pb Wz W0 h25.F);have Rb:=Y3 Y h26 (Jbu (C:=C) T Q8 h26.F)
  have U7:=Y3 Y h27 (Jae (C:=C) T Wy N8 X4 Te Yh h27.F);have Wg:=Y3 Y h28 (Jbg (C:=C) T  h28.F);have Wh:=Y3 Y h29 (Jbi (C:=C) T Wg h29.F);have V9:=Y3 Y h30 (Ds (C:=C) T  h30.F);have Vl:=Y3 Y h31 (Du (C:=C) T  h31.F);have W1:=Y3 Y h32 (Dz (C:=C) T Vl Wh V9 h32.F);have Vm:=Y3 Y h33 (D4 (C:=C) T Wy U7 Te Yh h33.F);exact (D7 T Zdc V8 Vm Rb W1 h34.F).imp fun _ _ _ _ h=>Znd (C:=⟨C,K⟩) h
def walk {l:W.OpenLaw} {q:Program} {loose:List Str} {XP:(Str->Option Value)->Heap->Prop} {YP:World->Heap->Prop} {d:DefRec} {K:Params->W.Frag} {P2:Addr} (hn:l.most=some 63) (hdf:d.params.defaults=[])
  (hY:∀ (w:World) (h:Heap),YP w h->(K w.params).In h) (hYt:∀ (w:World) (h:Heap),YP w h->h.get? Pt=some (W.tabObj #[])) (hYt2:∀ (w:World) (h:Heap),YP w h->h.get? P2=some (W.tabObj #[])) (hPK:∀ w:World,(K w.params).lookup Pt=none) (hPK2:∀ w:World,(K w.params).lookup P2=none) (hne:Pt≠P2)
  (F:∀ (w:World) (mg:Str->Option Value) (fa:Addr) (h:Heap),(K w.params).In h->h.Ns mainGlobals mg->mg d.name=some (.ref fa) ->
   ∃ fd:FuncData,(∀ P∈[Pt,P2],∃ c,W.codeHdIn (K w.params) c P=true)/\(∀ (s:Shared) (u:Value),BindsTo s fd ⟨[u],[]⟩ [("_law_script",u)])/\∀ base:Heap,(K w.params).In base->base.Ns mainGlobals mg->Bm mg base->FnOk l.prog w (K w.params) mg base CX0 11 fa fd ["_law_script"] (spLaw (K w.params) Pt P2)) :
  W.WalkO q loose XP YP l.row.toRowW d [] (fun f vs=>PySem.call f vs) :=
 L2.Zd9 (Ps:=[Pt,P2]) (n:=63) (k:=11) (x:="_law_script") (CX:=fun _=>CX0) (sp:=fun w=>spLaw (K w.params) Pt P2) hn nofun hdf ⟨rfl,nofun,nofun⟩ hY (fun w h Y P hp=>(Jy.mp hp).elim (fun z=>by rw [z]; exact hYt w h Y) fun z=>by rw [Jh.mp z]; exact hYt2 w h Y) (fun w P hp=>(Jy.mp hp).elim (fun z=>by rw [z]; exact hPK w) fun z=>by rw [Jh.mp z]; exact hPK2 w) F (fun _ _ a ns hl hO hS=>⟨a,ns,rfl,hS,hl,hO.tab (by simp) _ _,hO.tab (by simp) _ _,hne,fun _=>rfl⟩) fun _ _ _ _ _ z=>z
end K83
namespace PySem.W.Fast
local macro_rules|`(universe $xs*)=>return Lean.mkNullNode (<-xs.mapM λ x=>`(def $(Lean.mkIdent (.mkSimple s!"tw{x.getId.toString.foldl (λ n c=>n*52+c.toNat-if c<'a' then 65 else 71) 0}")):ident:=0))
universe CyWGSKuzCmW IskXVRBQDJt BMlIOuIZDufY CSzaJnZhugep CEaaQCZAJdtO KtjtubjZeXB BhHoLFcKKknd ByKCCPZhLnVp PuiKIufWiEV JjnPUqXzdxr vqjrqrNOjlB BsMfcnwyumwr OHgTZEYOGgx KgIDHLZOqCD VOojfhkWhRK BoiMiyMDDAuS CExDEnJDndZR NvLfyEiOzAp DHjVThSNJXD BjRglIRmWEhn CKvfNTyARNsm mdOaIVYuzTT BMkwwbEEFLNL BnIFgGAowJgE BpVXzHObrHJr PntTOqNKKqi BMNEXMwkKyEJ lWQpXhQPhih BjqHHMIQEehc qaPNTibgtHE HIUthIOpehT CIevJnyvUvQR BIIeoJAXJpLG NuUhRvDooNN BPggVKyaeFoy eytCtAfvUff BMOKukHPxOtu HdRLrrEoVqY CSTskWRHkEHd OtRSoieDeWT DUZXzMHaGGO CCNDHbcdifdf BsMQRPNfUQcB CGfDiPgkOUSc CSFYeKVmDpwa NlnuLEHUoWh LgSweGWKDCG WadpoCKzgSf BPuYsvjyVnvE BWlweDoVDyJg BjsBXrVgfuxx BVIbTXxyYccH gGamfxEbzsg BBcsRrTENyNp BUoPREjvukfL BWcMdRBkhsJ BZoQMsdsvCJE RQlWNiynTqQ BZAieZsLMVEy CWcxWKZiZpor BMVLXBBOEICO CNrUZPamOyGy cONJjhdEIiF BqxoMpKSTxFM BHCAzVOOrJvu MAnndOZdPSZ LTrVYVQrrsH zbOPavljTCY BnSnSWPjLsPv BLEkCsgIoDlQ CIqiMiSxzind OsWLdOCnLNY kvPlfFkcaSc TbdkkexfRPm BCbRKJeNAJlf CSlcWLDioduB bvshnfjjtnd XBXGOWSWtsG CUSTnmQsRNJz BWGeOdZjbCQV BJSsCiMqmXZX CrUilYRTdqR CHfZjzUzmwfX BrDEnqWfRzbu CUdLplVMezev BrjTkvhrelcg COYPiOvkCghs BEDRrBvVIRPs fGjNipjzgEO BAzspSqLuSKg BJaVLLfAtaoC BqqlOgqqWnOt BwEjLyFgxxjn zjBBeRyhunj CIvrRgvxMdxb BtvqaeIKAqhh BmOEmExkrnkh BgadsPKUbZud mFSEPNEnecU CGPCoAWiRYOT BktCOPMAMJOf vnekQjvjmSh CKVVXChgkqqv kgusdbLSjak CJmICzWVUKNk CXXVxLDWGAHT BHxBNRkgeHPx BxFEHjippuWJ CIyieAOzmHva BmqzkoBNrKbi BnKIOiKdiqaH BDjZLKIglsEl BYHyfPccTEKn BXzVrcLzVTDo BULGLikBVRYL BJVzcfeAoygO BeJxMoajzeVJ BKDbauZhQRun vympHBRhnDK EJyVWXJVmvQ FqgaPAhUeXq hwOjRmhRljU lNklCToygqh CCmLEKHVKhxt BxKgxHhjYRSS elsLeCtXzya BbZvFFZMKwwv BeZNleoeFYlg BrjVepKwmiYv BoIsdNIJEqKI rxjOGtEkUuR BJpCypvzAfBU CPHYITBoEqIQ xriBmgopcmN BvDLeqYvKBvZ BdtlhKEpETbK xzTpduSyxfX CFlrMgDYOZWs CTaNCpUCxiqg CSrKXkrXmnop BhmDDDCeRvPN aYFwRnZHoOG CFsZoLWlOvRz CVCVuteMSWVa BakKPQQjGejH shswbDgPmnZ CCMIPlfaORGf BjGajAGsxmzf CPtepWqWckvr ZbYRIGEpyLd avpqUKmYDiH BakXpnFvebxk SaHmHEskfNT nRWYTYzahwZ eYiuPSMLuQQ KeIlRDpnlvN BtPgrYLDzuNT CWfUoMrslZBN CSxMQUdZPvFw BuPtevYkapYC azhsPtPmktj CUbcBVDvXYux hscyMXZhIum caOlcIqETug BPgEsxMAaDxE BaYVxFuIYWPG BkRdgEhxeLNs BuNUWkisKxil CGshynNbHqhk CHGCvpeITfmj BuDZCwQVXoEZ BCiIJKdvvzcP BzjTqXULbEQo BOQmdDQbAjvw CCPitONdHxqI hCtJdaArGkn IoLSebdhSTA BockvERCgHVk yDlTkEpknBG qIcSGYdzJaM BoXPEbksDAdS EeHLdclvSqY JHVLDgzoLJR BxUmwUiLuHyo CJhbwaRcxhNU BqcIxXLTbVQY XfWnpIVuWsf lRIfrgisnbw CUgwYBgUjbfs CEiMpJLPPhAf CRLamYcDOXub zHaUJSTmsDy BFXCzLtRJIXB BDxrOKlNfWer whDwxdbAMKB aUaITkHwNIj IshiKfrRMLW MkryfizvNjP BRdRuCjtnCmS BwEGDKsmxtUc BQMKrqVUbUyQ BPbrcPXyfDqY iFywBoWxRuh CHrdMWuLVfwP BDshlneiDuwO cRthQojuUG BsMAEZyWgmbN BzbezlZLFgDe CKYzUHPpiJEZ BmJEqolytbGh BrRVJTXSDHiF BrFPEgqpVUJv HqUTQmXxsNv ydWhGpIzMJY BEbVbRhVXhMC CJJJHsxMQdpL tBNysuecdCA fvYWeosQwBt CMejdhIZfXbh ByFilEwkUKHI BhpUCYEWjbCJ BkYVOYBYadkD CMvNzsVXbHbG tZnUFxHNgwj BvTQPqAqTWCD ZBOGxlqTjoP BQXwNVBcjqxg CSbxndcARTOn DkwXHsUmuSm BCsFpsvLPVNB BMnVBoSFYRFy BZrzWiLpMvcw weNvYDSSbUY CLAbAhgToYpW BbydqOKidlJo omMqXQiVIRA uZEdJIgoQSD GnAvJUgsKfO BiwshjvjeVPR CGtKtrWwUaSQ CQFcftWtNdho CUlnKaPpkkyZ BdyoTqgexTCj WFguRjWBJFD BzrldXwBpGVF BNUObTZFerji BNuPAuAcvIJS BcbLvIaydZx qkvFtngdohk CUcQcNZsLqbQ CHyJdeiSGPjF BVBNNOBpKApB cIHlVEQOUdn OHeusuABSjf kNVHpZsbZhL BISoKvzEONGj XhePKcrJlnE bIXZjBpUzuK RdRAsiiaElG MRVrLJMSKoO BsiahYoimtx lWzdLBqbHHy BGjzwSqUMKBt CIBlZZHZOtGN BrWURUTPOTqA pAIoygMLUEb BFMktYBVlkWU BSSYIfTfJOGF BZDasBDlAvsw FVlveSwyGOS BBycDjvDsjZN CHRLIUhsGCSB BmPOmfmogDXu bAufUEjhyJW CLvAMgYsJdzU BVTjpeMswudg CRhnJNznRDJt BInQfNoGtZPc CRrYnNyEITjU BniUjirJghyN CUJglrEcOJGC BbGOsuPMPlPj BFLIlyWBFShK CKkLVOjiNTDC ZhOFvdPTqtw BrRXRJvhFnGh BamtbbRLXLEh QUdwCAXweVU CHWpYLrWigDA BSdGVJQUTPnm iInepcfabpT BuLMlluMJNKw BVHXqbrfubue CLqdCBbOdwWy BbPkdqWrJOyY ucsbJpYwFbA CKshRdXRiJHI ByZzpjWCVgVs CSZNlzhfqMer iTvzAMRQhnM BidBWIecHpHp yiflygQjULH CIUMsJNefjml wgRsqKPbzGH CFGLbqqFPfRA CFFsoUcfPNvZ FgRIXAkrdFz BNXZuEzzygza VWsHKfwzvJs KKFSosguHjh BodEYDNesCpA BTyaTZYPWmVY BdSfSwTTZPnW uCxuCOUGmRj qUOJsJGkbOH
end PySem.W.Fast
open PySem PySem.W PyProof.Rows
set_option maxRecDepth 100000 in
set_option maxHeartbeats 0 in
theorem PySem.Challenge.cw_skewread_k83_fewest_signs_holds : PySem.Challenge.rw_skewread_k83_fewest_signs.Holds := by
  w_on; o_law; k_head; (case hw=>w_witness2)
  k_fill
  refine K83.walk (l:=PySem.Challenge.rw_skewread_k83_fewest_signs) rfl rfl (fun w h Y=>PySem.W.km_in_of Y) (fun w h Y=>PySem.W.km_tabs_of Y _ (List.Mem.head _)) (fun w h Y=>PySem.W.km_tabs_of Y _ (List.Mem.tail _ (List.Mem.head _))) ?hpk ?hpk2 ?hne ?F
  case hpk=>exact fun w=>by kernel_rfl
  case hpk2=>exact fun w=>by kernel_rfl
  case hne=>decide
  case F =>
    intro w mg fa h KX G hmg
    refine' K83.all_mk KX G hmg ?aC ?gx_FIRST_COUPLE ?h0 ?h1 ?h2 ?h3 ?h4 ?h5 ?h6 ?h7 ?h8 ?h9 ?a10 ?l10 ?c10 ?k10 ?n10 ?h11 ?h12 ?h13 ?h14 ?h15 ?h16 ?h17 ?h18 ?a19 ?l19 ?c19 ?k19 ?h20 ?h21 ?h22 ?h23 ?h24 ?h25 ?h26 ?h27 ?h28 ?h29 ?h30 ?h31 ?h32 ?h33 ?h34 ?fc_FIRST_COUPLE ?hd ?hd2 ?cl ?mk ?y_pairs ?y_words_by_sign ?y_signs_by_word ?y_begun ?y_word_sizes ?z
    any_goals first | (refine' ⟨?g,L2.Zcy ?l ?c ?k⟩; (case g=>k_is); (case l=>k_is); (case c=>k_is); case k=>k_is) | (refine' ⟨?g,?n,L2.Zcy ?l ?c ?k⟩; (case g=>k_is); (case n=>k_is); (case l=>k_is); (case c=>k_is); case k=>k_is) | k_is | kernel_rfl | (first | apply L2.Cls.mk | apply L2.MkG.mk) <;> first | k_is | kernel_rfl
#print axioms PySem.Challenge.cw_skewread_k83_fewest_signs_holds