import PyProof.Rows.All
import Wide.All
import OpenK.AllK
import Wide.FinOn
import Lean
import PyProof.EqAt
import PyProof.EqKinds
import PyProof.TupleCall
import PyProof.DictItems
import KE.KPairComp
import KE.KDictList
import PyProof.ListRange
import KE.KUnpack
import KE.KEqDict
import PyProof.DictFindH
import KE.KDictSum
import PyProof.AutoListH
import PyProof.SumAny
import PyProof.Rows.Range3
import KE.KStateDown
import KE.KSortTup
import KE.KLam
import KE.KNestM
import KE.KDictOf
import PyProof.AttrMissHeap
import KE.KRevSl
import PyProof.RaisesMany
import PyProof.ExcInit
import PyProof.ExcClass2
import PyProof.RulesTry
import PyProof.PassesOwn
import OpenK.KOwn
import PyProof.RulesDel
import KE.KIsAll
import PyProof.EnumMake
import PyProof.LayNew
import PyProof.ZipIter
import PyProof.Rows.ZipGen
import KE.KIntText
import KE.KMinKey
import PyProof.SetKind
import PyProof.TupleKey
import PyProof.IsRules
import PyProof.Rows.SetFrom
import PyProof.SetRoads
import PyProof.FactsAll.set
import PySem.Challenge.RW_skewread_k52_all_readings
set_option Elab.async false
set_option linter.all false
set_option maxRecDepth 100000
local macro_rules | `(def $n:declId $s:optDeclSig $v:declVal)=>`(noncomputable def $n:declId $s:optDeclSig $v:declVal)
local macro_rules | `(abbrev $n:declId $s:optDeclSig $v:declVal)=>`(noncomputable abbrev $n:declId $s:optDeclSig $v:declVal)
namespace L2
open PySem PySem.Spec PyProof.Rows
abbrev Key:=Sum Int Str
def keyIs:Key->Value->Bool
 | .inl k,v=>Value.isInt k v
 | .inr x,v=>Value.isStrOf x v
def keyH (w:World):Key->Int
 | .inl k=>hashInt k
 | .inr x=>hashStr w x
theorem keyIs_shape:∀ {k:Key} {v:Value},keyIs k v=true->(∃ i t,k=Sum.inl i/\v=Value.int i t)\/(∃ x t,k=Sum.inr x/\v=Value.str x t)
 | .inl i,v,h=>by
  obtain ⟨t,e⟩:=Value.isInt_shape (k:=i) (v:=v) h
  exact .inl ⟨i,t,rfl,e⟩
 | .inr x,v,h=>by
  obtain ⟨t,e⟩:=Value.isStrOf_shape (x:=x) (v:=v) h
  exact .inr ⟨x,t,rfl,e⟩
def key_ll (a b:Int):decide ((Sum.inl a:Key)=Sum.inl b)=(a == b):=by
 by_cases e:a=b
 ·subst e; simp
 ·have h:¬ (Sum.inl a:Key)=Sum.inl b:=fun q=>e (Sum.inl.inj q)
  rw [decide_eq_false h]
  exact (beq_eq_false_iff_ne.mpr e).symm
def key_rr (a b:Str):decide ((Sum.inr a:Key)=Sum.inr b)=decide (a=b):=by
 by_cases e:a=b
 ·subst e; simp
 ·have h:¬ (Sum.inr a:Key)=Sum.inr b:=fun q=>e (Sum.inr.inj q)
  rw [decide_eq_false h,decide_eq_false e]
def key_lr (a:Int) (b:Str):decide ((Sum.inl a:Key)=Sum.inr b)=false:=decide_eq_false (fun q=>nomatch q)
def key_rl (a:Str) (b:Int):decide ((Sum.inr a:Key)=Sum.inl b)=false:=decide_eq_false (fun q=>nomatch q)
def mixKind (prog:Program) (w:World):PySem.KeyKind prog w Key where
 is:=keyIs
 hash:=keyH w
 inj:=fun v a b ha hb=>by
  rcases keyIs_shape ha with ⟨i,t,rfl,rfl⟩ | ⟨x,t,rfl,rfl⟩
  ·rcases keyIs_shape hb with ⟨j,u,rfl,e⟩ | ⟨y,u,rfl,e⟩
   ·injection e with e1 _; rw [e1]
   ·exact nomatch e
  ·rcases keyIs_shape hb with ⟨j,u,rfl,e⟩ | ⟨y,u,rfl,e⟩
   ·exact nomatch e
   ·injection e with e1 _; rw [e1]
 byValue:=fun k v h=>by
  rcases keyIs_shape h with ⟨i,t,rfl,rfl⟩ | ⟨x,t,rfl,rfl⟩ <;> rfl
 pyHash:=fun hv h=>by
  rcases keyIs_shape hv with ⟨i,t,rfl,rfl⟩ | ⟨x,t,rfl,rfl⟩
  ·exact wpAny_pyHash_int h
  ·exact wpAny_pyHash_str h
 eqBool:=fun hu hv h=>by
  rcases keyIs_shape hu with ⟨i,t,rfl,rfl⟩ | ⟨x,t,rfl,rfl⟩
  ·rcases keyIs_shape hv with ⟨j,u,rfl,rfl⟩ | ⟨y,u,rfl,rfl⟩
   ·rw [key_ll] at h; exact wpAny_eqBool_int h
   ·rw [key_lr] at h; exact SeqAt.EqAt.int_str i t y u _ _ _ _ h
  ·rcases keyIs_shape hv with ⟨j,u,rfl,rfl⟩ | ⟨y,u,rfl,rfl⟩
   ·rw [key_rl] at h; exact SeqAt.EqAt.str_int x t j u _ _ _ _ h
   ·rw [key_rr] at h; exact wpAny_eqBool_str h
 «strs»:=fun k x t v h=>by
  rcases keyIs_shape h with ⟨i,u,rfl,e⟩ | ⟨y,u,rfl,e⟩
  ·exact nomatch e
  ·injection e with e1 _
   subst e1
   cases v <;> rfl
inductive V where
 | non | bl (b:Bool) | int (i:Int) | str (x:Str) | byt (b:Array UInt8) | flt (b:UInt64) | ref (a:Addr) | ty (n:String)
 deriving DecidableEq
def RelV:V->Value->Prop
 | .non,u=>u=Value.none
 | .bl b,u=>u=Value.bool b
 | .int i,u=>∃ t,u=Value.int i t
 | .str x,u=>∃ t,u=Value.str x t
 | .byt b,u=>∃ t,u=Value.bytes b t
 | .flt b,u=>∃ t,u=Value.float b t
 | .ref a,u=>u=Value.ref a
 | .ty n,u=>u=Value.type n
abbrev Vals:List V->List Value->Prop:=Paired RelV
def Vals.length {xs:List V} {us:List Value} (r:Vals xs us):xs.length=us.length:=Paired.length r
theorem Vals.get:∀ {xs:List V} {us:List Value} {i:Nat} {x:V},Vals xs us->xs[i]?=some x->∃ u,us[i]?=some u/\RelV x u
 | _,_,_,_,.nil,e=>by simp at e
 | _,_,0,_,.cons r _,e=>by simp at e; subst e; exact ⟨_,rfl,r⟩
 | _,_,i + 1,x,.cons _ t,e=>by
  obtain ⟨u,h1,h2⟩:=Vals.get (i:=i) (x:=x) t (by simpa using e)
  exact ⟨u,by simpa using h1,h2⟩
theorem Vals.set {x:V} {u:Value} (r:RelV x u):∀ {xs:List V} {us:List Value} (i:Nat),Vals xs us->Vals (xs.set i x) (us.set i u)
 | _,_,_,.nil=>.nil
 | _,_,0,.cons _ t=>.cons r t
 | _,_,i + 1,.cons q t=>.cons q (Vals.set r i t)
theorem Vals.append:∀ {xs ys:List V} {us ws:List Value},Vals xs us->Vals ys ws->Vals (xs++ys) (us++ws)
 | _,_,_,_,.nil,s=>s
 | _,_,_,_,.cons r t,s=>.cons r (Vals.append t s)
theorem Vals.take:∀ {xs:List V} {us:List Value} (n:Nat),Vals xs us->Vals (xs.take n) (us.take n)
 | _,_,0,_=>.nil
 | _,_,_ + 1,.nil=>.nil
 | _,_,n + 1,.cons r t=>.cons r (Vals.take n t)
theorem Vals.drop:∀ {xs:List V} {us:List Value} (n:Nat),Vals xs us->Vals (xs.drop n) (us.drop n)
 | _,_,0,r=>r
 | _,_,_ + 1,.nil=>.nil
 | _,_,n + 1,.cons _ t=>Vals.drop n t
def RelO:Option V->Option Value->Prop
 | some v,some u=>RelV v u
 | none,none=>True
 | _,_=>False
def KV {κ:Type}:List (κ×V)->List (κ×Value)->Prop:=Paired fun (p:κ×V) (q:κ×Value)=>p.1=q.1/\RelV p.2 q.2
def kV:Key->V
 | .inl i=>.int i
 | .inr x=>.str x
def IsTupD (h:Heap) (a:Addr) (items:Array Value):Prop:=∃ o,h.get? a=some o/\o.cls=.type "tuple"/\∃ n,o.data=.seq items n/\o.dict=none
def IsTupD.tup {h:Heap} {a:Addr} {items:Array Value} (x:IsTupD h a items):IsTup h a items:=let ⟨o,e,c,n,d,_⟩:=x; ⟨o,e,c,n,d⟩
def IsTupD.new (h:Heap) (items:Array Value):IsTupD (h.push { cls:=.type "tuple",data:=.seq items }) h.objs.size items:=⟨_,Heap.get?_push_size _ rfl,rfl,_,rfl,rfl⟩
def IsTupD.lt {h:Heap} {a:Addr} {items:Array Value} (x:IsTupD h a items):a < h.objs.size:=let ⟨_,e,_⟩:=x; Heap.lt_size e
inductive HO where
 | lst (xs:List V)
 | tup (xs:List V)
 | dK (kvs:List (Key×V)) | dT (kvs:List (List Key×V))
 | set (S:Int->Bool) (n:Nat)
 | ins (C dx:Addr) (fs:List (Str×V))
 | own (x:Addr)
 | xd (fs:List (Str×V))
 | met (f x:Addr)
 | rng (lo hi:Int)
 | frz (o:Obj) (u:HO)
 | tbl (ps:Array Value)
 | ext (φ:Heap->Prop)
abbrev Hp:=Addr->Option HO
def upd (H:Hp) (a:Addr) (o:HO):Hp:=fun b=>if b=a then some o else H b
def upd_same {H:Hp} {a:Addr} {o:HO}:upd H a o a=some o:=by unfold upd; rw [if_pos rfl]
def upd_ne {H:Hp} {a b:Addr} {o:HO} (h:b≠a):upd H a o b=H b:=by unfold upd; rw [if_neg h]
def ne_of {H:Hp} {a b:Addr} {o u:HO} (h:H a=some o) (h':H b=some u) (d:o≠u):a≠b:=by
 intro e; subst e; rw [h] at h'; exact d (Option.some.inj h')
def ne_of_none {H:Hp} {a b:Addr} {o:HO} (h:H a=some o) (h':H b=none):a≠b:=by
 intro e; subst e; rw [h] at h'; cases h'
section
variable (P:Program) (w:World)
def ObjOk (H:Hp) (h:Heap) (a:Addr):HO->Prop
 | .lst xs=>xs.length<=sizeLine/\∃ (its:List Value) (n:Nat),Vals xs its/\h.get? a=some { cls:=.type "list",data:=.seq its.toArray n }
 | .tup xs=>xs.length<=sizeLine/\∃ its:List Value,Vals xs its/\IsTupD h a its.toArray
 | .dK kvs=>kvs.length<=sizeLine/\(a == sysModules)=false/\∃ vs,KV kvs vs/\h.DictOf (mixKind P w) a vs
 | .dT kvs=>kvs.length<=sizeLine/\(a == sysModules)=false/\∃ xs:List (List Key×Addr×Value),
   Paired (fun (p:List Key×V) (q:List Key×Addr×Value)=>p.1=q.1/\H q.2.1=some (.tup (p.1.map kV))/\RelV p.2 q.2.2) kvs xs /\
   ∃ o es ep,h.get? a=some o/\o.ExactDict/\o.data=.dict es ep/\es.toList=xs.map (entryOfKey (tupleKind (mixKind P w)))/\(xs.map (·.1)).Nodup
 | .set S n=>h.SetOf (intKind P w) a S n
 | .ins C dx fs=>H dx=some (.own a)/\fs.length<=1000/\dx≠a/\h.get? a=some (W.instObj C dx) /\
   ∃ mA,h.Ns1 dx mA/\(∀ f,RelO (fs.lookup f) (mA f))/\PySem.Within mA (fs.map (·.1))
 | .own _=>∃ o,h.get? a=some o
 | .xd fs=>∃ mA,h.Ns1 a mA/\∀ f,RelO (fs.lookup f) (mA f)
 | .rng lo hi=>∃ t u v,h.get? a=some { cls:=.type "range",data:=.fields #[.int lo t,.int hi u,.int 1 v] }
 | .frz o u=>h.get? a=some o/\ObjOk H h a u
 | .tbl ps=>h.get? a=some { cls:=.none,data:=.fields ps }
 | .met f x=>h.get? a=some (W.methodObj (.ref f) (.ref x))
 | .ext φ=>φ h/\(∃ o,h.get? a=some o)/\∀ h1 h2:Heap,φ h1->(∀ o,h1.get? a=some o->h2.get? a=some o)->φ h2
def HOk (H:Hp) (h:Heap):Prop:=∀ a o,H a=some o->ObjOk P w H h a o
end
section
variable {P:Program} {w:World} {H H':Hp} {h h':Heap} {a:Addr} {o:HO}
theorem ObjOk.lt (x:ObjOk P w H h a o):a < h.objs.size:=by
 cases o with
 | lst xs=>obtain ⟨_,_,_,_,e⟩:=x; exact Heap.lt_size e
 | tup xs=>obtain ⟨_,_,_,p⟩:=x; exact p.lt
 | dK kvs=>obtain ⟨_,_,_,_,o,_,_,e,_⟩:=x; exact Heap.lt_size e
 | dT kvs=>obtain ⟨_,_,_,_,o,_,_,e,_⟩:=x; exact Heap.lt_size e
 | set S n=>obtain ⟨o,_,_,_,e,_⟩:=x; exact Heap.lt_size e
 | ins C dx fs=>obtain ⟨_,_,_,e,_⟩:=x; exact Heap.lt_size e
 | own y=>obtain ⟨_,e⟩:=x; exact Heap.lt_size e
 | xd fs=>obtain ⟨_,⟨_,_,_,e,_⟩,_⟩:=x; exact Heap.lt_size e
 | rng lo hi=>obtain ⟨_,_,_,e⟩:=x; exact Heap.lt_size e
 | frz ob u=>obtain ⟨e,_⟩:=x; exact Heap.lt_size e
 | tbl ps=>exact Heap.lt_size (show h.get? a=some _ from x)
 | met f y=>exact Heap.lt_size (show h.get? a=some _ from x)
 | ext φ=>obtain ⟨_,⟨_,e⟩,_⟩:=x; exact Heap.lt_size e
theorem Paired.mapP {α β:Type} {F G:α->β->Prop}:∀ {l₁:List α} {l₂:List β},Paired F l₁ l₂->(∀ a b,F a b->G a b)->Paired G l₁ l₂
 | _,_,.nil,_=>.nil
 | _,_,.cons r t,f=>.cons (f _ _ r) (Paired.mapP t f)
theorem ObjOk.stay (x:ObjOk P w H h a o) (k:∀ b u,(b=a\/H b=some (.own a))->h.get? b=some u->h'.get? b=some u)
  (ho:∀ b,H b=some (.own a)->H' b=some (.own a)) (ht:∀ b xs,H b=some (.tup xs)->H' b=some (.tup xs)):ObjOk P w H' h' a o:=by
 induction o with
 | lst xs=>obtain ⟨z,its,n,r,e⟩:=x; exact ⟨z,its,n,r,k _ _ (.inl rfl) e⟩
 | tup xs=>obtain ⟨z,its,r,ob,e,c⟩:=x; exact ⟨z,its,r,ob,k _ _ (.inl rfl) e,c⟩
 | dK kvs=>obtain ⟨z,y,vs,r,ob,es,ep,e,c⟩:=x; exact ⟨z,y,vs,r,ob,es,ep,k _ _ (.inl rfl) e,c⟩
 | dT kvs =>
  obtain ⟨z,y,xs,r,ob,es,ep,e,c⟩:=x
  exact ⟨z,y,xs,Paired.mapP r fun p q z=>⟨z.1,ht _ _ z.2.1,z.2.2⟩,ob,es,ep,k _ _ (.inl rfl) e,c⟩
 | set S n=>obtain ⟨ob,es,ep,t,e,c⟩:=x; exact ⟨ob,es,ep,t,k _ _ (.inl rfl) e,c⟩
 | ins C dx fs =>
  obtain ⟨d,z,ne,e,mA,⟨od,es,ep,e2,c⟩,r⟩:=x
  exact ⟨ho _ d,z,ne,k _ _ (.inl rfl) e,mA,⟨od,es,ep,k _ _ (.inr d) e2,c⟩,r⟩
 | own y=>obtain ⟨ob,e⟩:=x; exact ⟨ob,k _ _ (.inl rfl) e⟩
 | xd fs=>obtain ⟨mA,⟨od,es,ep,e,c⟩,r⟩:=x; exact ⟨mA,⟨od,es,ep,k _ _ (.inl rfl) e,c⟩,r⟩
 | rng lo hi=>obtain ⟨t,u,v,e⟩:=x; exact ⟨t,u,v,k _ _ (.inl rfl) e⟩
 | frz ob u ih=>obtain ⟨e,q⟩:=x; exact ⟨k _ _ (.inl rfl) e,ih q⟩
 | tbl ps =>
  have e:h.get? a=some { cls:=.none,data:=.fields ps }:=x
  show h'.get? a=some { cls:=.none,data:=.fields ps }
  exact k a _ (.inl rfl) e
 | met f y =>
  have e:h.get? a=some (W.methodObj (.ref f) (.ref y)):=x
  show h'.get? a=some (W.methodObj (.ref f) (.ref y))
  exact k a _ (.inl rfl) e
 | ext φ=>obtain ⟨p,⟨o,e⟩,st⟩:=x; exact ⟨st _ _ p fun o q=>k _ _ (.inl rfl) q,⟨o,k _ _ (.inl rfl) e⟩,st⟩
def HOk.lt (x:HOk P w H h) (e:H a=some o):a < h.objs.size:=(x a o e).lt
theorem HOk.fresh (x:HOk P w H h) (e:h.objs.size<=a):H a=none:=by
 cases q:H a with
 | none=>rfl
 | some u=>exact absurd (Nat.lt_of_lt_of_le (x.lt q) e) (Nat.lt_irrefl _)
def HOk.kept (x:HOk P w H h) (k:∀ b u,h.get? b=some u->h'.get? b=some u):HOk P w H h':=fun a o e =>
 (x a o e).stay (fun b u _ q=>k b u q) (fun _ q=>q) fun _ _ q=>q
def HOk.laid (x:HOk P w H h) (k:∀ b u,h.get? b=some u->h'.get? b=some u) (hp:h.objs.size<=a) (new:ObjOk P w (upd H a o) h' a o):HOk P w (upd H a o) h':=fun b u e=>by
 have hn:=x.fresh hp
 by_cases hb:b=a
 ·subst hb; rw [upd_same] at e; cases e; exact new
 ·rw [upd_ne hb] at e
  exact (x b u e).stay (fun c v _ q=>k c v q) (fun c q=>by rw [upd_ne (ne_of_none q hn)]; exact q) fun c xs q=>by rw [upd_ne (ne_of_none q hn)]; exact q
end
def Rd (H:Hp) (a:Addr) (u:HO):Prop:=H a=some u\/∃ o,H a=some (.frz o u)
def Rd.ok {P:Program} {w:World} {H:Hp} {h:Heap} {a:Addr} {u:HO} (r:Rd H a u) (x:HOk P w H h):ObjOk P w H h a u:=by
 rcases r with r | ⟨o,r⟩
 ·exact x a u r
 ·obtain ⟨_,q⟩:=x a _ r
  exact q
def Mut:Option HO->Prop
 | some (.lst _)=>True
 | some (.dK _)=>True
 | some (.dT _)=>True
 | some (.set _ _)=>True
 | some (.ins _ _ _)=>True
 | some (.ext _)=>True
 | _=>False
section
variable {P:Program} {w:World} {H:Hp} {h h':Heap} {x e:Addr} {o':HO}
def HOk.write (ok:HOk P w H h) (mu:Mut (H x)) (he:e=x\/H e=some (.own x)) (k:∀ b u,b≠e->h.get? b=some u->h'.get? b=some u) (heo:∃ u,h'.get? e=some u)
  (new:ObjOk P w (upd H x o') h' x o'):HOk P w (upd H x o') h':=fun b u q=>by
 have nown:∀ c y,H c=some (.own y)->c≠x:=fun c y r z=>by subst z; rw [r] at mu; exact mu
 have ntup:∀ c xs,H c=some (.tup xs)->c≠x:=fun c xs r z=>by subst z; rw [r] at mu; exact mu
 by_cases hb:b=x
 ·subst hb; rw [upd_same] at q; cases q; exact new
 ·rw [upd_ne hb] at q
  by_cases hbe:b=e
  ·have q':H b=some (.own x):=by
    rcases he with z | z
    ·exact absurd (hbe.trans z) hb
    ·rw [hbe]; exact z
   rw [q] at q'; cases q'
   obtain ⟨v,hv⟩:=heo
   exact ⟨v,by rw [hbe]; exact hv⟩
  ·refine (ok b u q).stay (fun c v hc r=>k c v ?_ r) (fun c r=>by rw [upd_ne (nown c b r)]; exact r) fun c xs r=>by rw [upd_ne (ntup c xs r)]; exact r
   rcases hc with rfl | hc
   ·exact hbe
   ·rintro rfl
    rcases he with z | z
    ·exact nown c b hc z
    ·rw [hc] at z; cases z; exact hb rfl
end
structure Un (fs ex:List Addr) (H H':Hp) (h h':Heap):Prop where
 keep:∀ b o,h.get? b=some o->H b=none->b∉fs->b∉ex->h'.get? b=some o
 slot:∀ b o,h.get? b=some o->H b=none->b∈fs->b∉ex->∃ sl,h'.get? b=some { o with slots:=sl }
 free:∀ b o,h.get? b=some o->H b=none->b∉ex->H' b=none
 there:∀ b o,h.get? b=some o->b∉ex->∃ o',h'.get? b=some o'
 tups:∀ b xs,H b=some (.tup xs)->H' b=some (.tup xs)
 frzs:∀ b o u,H b=some (.frz o u)->H' b=some (.frz o u)
 tbls:∀ b ps,H b=some (.tbl ps)->∃ more,H' b=some (.tbl (ps++more))
section
variable {fs ex:List Addr} {H H1:Hp} {h h1 h':Heap} {a x e:Addr} {o:HO}
def Un.any (u:Un fs ex H H1 h h1) {b:Addr} {ob:Obj} (q:h.get? b=some ob) (n:H b=none) (hx:b∉ex):∃ sl,h1.get? b=some { ob with slots:=sl }:=by
 by_cases hb:b∈fs
 ·exact u.slot b ob q n hb hx
 ·exact ⟨ob.slots,u.keep b ob q n hb hx⟩
def Un.kept (k:∀ b u,h.get? b=some u->h'.get? b=some u):Un fs ex H H h h' :=
 ⟨fun b ob q _ _ _=>k b ob q,fun b ob q _ _ _=>⟨ob.slots,k b ob q⟩,fun _ _ _ n _=>n,fun b ob q _=>⟨ob,k b ob q⟩,fun _ _ q=>q,fun _ _ _ q=>q,fun _ ps q=>⟨#[],by rw [q]; simp⟩⟩
def Un.refl:Un fs ex H H h h:=Un.kept fun _ _ q=>q
def Un.laid (k:∀ b u,h.get? b=some u->h'.get? b=some u) (hp:h.objs.size<=a) (hn:H a=none):Un fs ex H (upd H a o) h h' where
 keep:=fun b u q _ _ _=>k b u q
 slot:=fun b u q _ _ _=>⟨u.slots,k b u q⟩
 free:=fun b u q n _=>by rw [upd_ne (Nat.ne_of_lt (Nat.lt_of_lt_of_le (Heap.lt_size q) hp))]; exact n
 there:=fun b u q _=>⟨u,k b u q⟩
 tups:=fun b xs q=>by rw [upd_ne (ne_of_none q hn)]; exact q
 frzs:=fun b u xs q=>by rw [upd_ne (ne_of_none q hn)]; exact q
 tbls:=fun b ps q=>⟨#[],by rw [upd_ne (ne_of_none q hn),q]; simp⟩
def Un.write (mu:Mut (H x)) (he:e=x\/H e=some (.own x)) (k:∀ b u,b≠e->h.get? b=some u->h'.get? b=some u) (heo:∃ u,h'.get? e=some u):Un fs ex H (upd H x o) h h':=by
 have hx:∀ b,H b=none->b≠x:=fun b n z=>by subst z; rw [n] at mu; exact mu
 have hb:∀ b,H b=none->b≠e:=fun b n z=>by
  subst z
  rcases he with r | r
  ·exact hx b n r
  ·rw [n] at r; cases r
 have hm:∀ b u,H b=some u->¬ Mut (some u)->b≠x:=fun b u q nm z=>by subst z; rw [q] at mu; exact nm mu
 refine ⟨fun b u q n _ _=>k b u (hb b n) q,fun b u q n _ _=>⟨u.slots,k b u (hb b n) q⟩,fun b u q n _=>by rw [upd_ne (hx b n)]; exact n,fun b u q _=>?_,
  fun b xs q=>by rw [upd_ne (hm b _ q fun z=>z)]; exact q,fun b u xs q=>by rw [upd_ne (hm b _ q fun z=>z)]; exact q,fun b ps q=>⟨#[],by rw [upd_ne (hm b _ q fun z=>z),q]; simp⟩⟩
 by_cases hbe:b=e
 ·subst hbe; exact heo
 ·exact ⟨u,k b u hbe q⟩
end
def trk (h:Heap) (H:Hp):List Addr:=(List.range h.objs.size).filter fun a=>(H a).isSome
def hidT (h:Heap) (H:Hp):Heap:=W.hideAll h (trk h H)
def hidT_size (h:Heap) (H:Hp):(hidT h H).objs.size=h.objs.size:=W.hideAll_size _ _
def hidT_get {h:Heap} {H:Hp} {b:Addr} {o:Obj} (e:h.get? b=some o) (n:H b=none):(hidT h H).get? b=some o :=
 W.hideAll_get _ e fun hm=>by
  have q:(H b).isSome=true:=(List.mem_filter.mp hm).2
  rw [n] at q; simp at q
theorem of_hidT {h:Heap} {H:Hp} {b:Addr} {o:Obj} (e:(hidT h H).get? b=some o):h.get? b=some o/\H b=none:=by
 have e':h.get? b=some o:=W.of_hideAll (trk h H) e
 refine ⟨e',?_⟩
 cases q:H b with
 | none=>rfl
 | some x =>
  have hm:b∈trk h H:=List.mem_filter.mpr ⟨List.mem_range.mpr (Heap.lt_size e'),by simp [q]⟩
  have z:(hidT h H).get? b=none:=W.hideAll_none (trk h H) hm
  rw [z] at e; cases e
structure Mod (K:W.Frag) (mg:Str->Option Value) (base:Heap):Prop where
 kin:K.In base
 glob:base.Ns mainGlobals mg
 blt:∃ mb,base.Ns builtinsNs mb/\∀ x:Str,x≠"__name__"->mb x=bootBuiltins x
 nolimit:base.NoLimit
structure Cx where
 prog:Program
 w:World
 K:W.Frag
 mg:Str->Option Value
 base:Heap
 A:Around
 N:List Str
 s₀:Shared
 H₀:Hp
 env:Env
 outer:List Env
 stack:List Env
 ex:List Addr
 fn:Str->Bool
 calm:Bool
 pn:List (Addr×Obj)
 xe:Value->Shared->Prop
def frs (l:List Env):List Addr:=l.filterMap (·.frame)
abbrev Cx.fs (X:Cx):List Addr:=frs X.outer
def Vis (sc:Scope) (x:Str):Prop:=sc.names.lookup x=some .local\/sc.names.lookup x=some .cell\/sc.names.lookup x=some .free
def Loc (sc:Scope) (x:Str):Prop:=sc.names.lookup x=some .local\/sc.names.lookup x=some .cell
def Look (env:Env) (h:Heap) (m:Str->Option Value) (x:Str) (u:Value):Prop :=
 (env.kindOf x=some .local/\m x=some u)\/((env.kindOf x=some .cell\/env.kindOf x=some .free)/\∃ c,env.cells.lookup x=some c/\h.IsCell c (some u))
structure Cx.Ok (X:Cx):Prop where
 mod:Mod X.K X.mg X.base
 kind:X.env.scope.kind=.function
 glob:X.env.globals=mainGlobals
 blt:X.env.builtins=builtinsNs
 above:X.s₀.heap.objs.size<=X.env.locals
 inj:∀ x y c,X.env.cells.lookup x=some c->X.env.cells.lookup y=some c->x=y
 has:∀ x,(X.env.kindOf x=some .cell\/X.env.kindOf x=some .free)->∃ c,X.env.cells.lookup x=some c
 cab:∀ x c,X.fn x=true->X.env.cells.lookup x=some c->X.s₀.heap.objs.size<=c
 hd:X.calm=true->X.A.handled=none
 frames:X.A.frames=some X.stack
 stk:X.stack=X.outer\/(X.stack=X.env::X.outer/\X.env.frame=some X.env.locals)
 exf:∀ b∈X.ex,b≠X.env.locals/\∀ x c,X.env.cells.lookup x=some c->c≠b
 bs:∀ b o,X.base.get? b=some o->X.s₀.heap.get? b=some o/\X.H₀ b=none
 bsz:X.base.objs.size<=X.s₀.heap.objs.size
 noex:∀ b o,X.base.get? b=some o->b∉X.ex
 exfs:∀ b∈X.ex,b∉X.fs
 funs:X.s₀.heap.FunFrames X.base X.outer
 frf:∀ b∈X.fs,X.H₀ b=none
structure Inv (X:Cx) (pins:List (Addr×Obj)) (σ:List (Option V)) (H:Hp) (s:Shared):Prop where
 ok:X.Ok
 os:s.os=X.s₀.os
 bare:AllBare s.gens
 base:Un X.fs X.ex X.H₀ H X.s₀.heap s.heap
 loc:∃ m,s.heap.Ns X.env.locals m/\∀ (i:Nat) (x:Str) (v:V),X.N[i]?=some x->σ[i]?=some (some v)->Vis X.env.scope x->∃ u,RelV v u/\Look X.env s.heap m x u
 cell:∀ x c,X.env.cells.lookup x=some c->∃ v,s.heap.IsCell c v
 free:H X.env.locals=none
 freeC:∀ x c,X.env.cells.lookup x=some c->H c=none
 pin:∀ p∈X.pn++pins,s.heap.get? p.1=some p.2/\H p.1=none/\p.1≠X.env.locals/\p.1∉X.fs/\∀ v,p.2.data≠.cell v
 hok:HOk X.prog X.w H s.heap
 len:σ.length=X.N.length
section
variable {X:Cx} {pins:List (Addr×Obj)} {σ:List (Option V)} {H H':Hp} {s:Shared} {h':Heap}
def Cx.Ok.nofr (ok:X.Ok) {b:Addr} {o:Obj} (e:X.base.get? b=some o):b∉X.fs:=fun hb=>by
 have:=(ok.funs.mem hb).1
 rw [e] at this; cases this
def Inv.bs (I:Inv X pins σ H s):∀ b o,X.base.get? b=some o->s.heap.get? b=some o/\H b=none:=fun b o e =>
 ⟨I.base.keep b o (I.ok.bs b o e).1 (I.ok.bs b o e).2 (I.ok.nofr e) (I.ok.noex b o e),I.base.free b o (I.ok.bs b o e).1 (I.ok.bs b o e).2 (I.ok.noex b o e)⟩
def Inv.bk (I:Inv X pins σ H s):∀ b o,X.base.get? b=some o->s.heap.get? b=some o:=fun b o e=>(I.bs b o e).1
def Inv.mod (I:Inv X pins σ H s):Mod X.K X.mg X.base:=I.ok.mod
def Inv.kIn (I:Inv X pins σ H s):X.K.In s.heap:=I.ok.mod.kin.keeps I.bk
def Inv.lt (I:Inv X pins σ H s):X.env.locals < s.heap.objs.size:=let ⟨_,hn,_⟩:=I.loc; hn.lt
def Inv.sz (I:Inv X pins σ H s):X.s₀.heap.objs.size<=s.heap.objs.size:=Nat.le_trans I.ok.above (Nat.le_of_lt I.lt)
def Inv.nofs (I:Inv X pins σ H s) {a:Addr} (h:s.heap.objs.size<=a):a∉X.fs:=fun hb=>by
 obtain ⟨_,o,ho,_⟩:=I.ok.funs.mem hb
 exact absurd (Nat.lt_of_lt_of_le (Heap.lt_size ho) (Nat.le_trans I.sz h)) (Nat.lt_irrefl _)
def Inv.cne (I:Inv X pins σ H s):∀ x c,X.env.cells.lookup x=some c->c≠X.env.locals:=fun x c e z=>by
 obtain ⟨v,o,ho,hd⟩:=I.cell x c e
 obtain ⟨m,⟨o',es,ep,ho',hd',_⟩,_⟩:=I.loc
 rw [z,ho'] at ho; cases ho; rw [hd'] at hd; cases hd
def Inv.funs (I:Inv X pins σ H s):s.heap.FunFrames X.base X.outer:=by
 have all:∀ (l:List Env),(∀ b∈frs l,b∈X.fs)->X.s₀.heap.FunFrames X.base l->s.heap.FunFrames X.base l:=by
  intro l
  induction l with
  | nil=>intro _ _; trivial
  | cons env r ih =>
   intro hs hl
   obtain ⟨hk,⟨L,o,hf,hn,ho,hd⟩,hr⟩:=hl
   have hL:L∈X.fs:=hs L (by unfold frs; rw [List.filterMap_cons,hf]; exact List.mem_cons_self)
   obtain ⟨sl,e⟩:=I.base.slot L o ho (I.ok.frf L hL) hL fun z=>I.ok.exfs L z hL
   exact ⟨hk,⟨L,_,hf,hn,e,hd⟩,ih (fun b hb=>hs b (by unfold frs; rw [List.filterMap_cons,hf]; exact List.mem_cons_of_mem _ hb)) hr⟩
 exact all X.outer (fun _ hb=>hb) I.ok.funs
def Inv.stack (I:Inv X pins σ H s):s.heap.FunFrames X.base X.stack:=by
 rcases I.ok.stk with e | ⟨e,hf⟩
 ·rw [e]; exact I.funs
 ·rw [e]
  obtain ⟨m,hn,_⟩:=I.loc
  refine .cons (by rw [I.ok.kind]; decide) hf hn ?_ I.funs
  exact Heap.get?_none_of_le (Nat.le_trans I.ok.bsz I.ok.above)
def Inv.stkSub (I:Inv X pins σ H s):∀ b∈frs X.stack,b∈X.env.locals::X.fs:=fun b hb=>by
 rcases I.ok.stk with e | ⟨e,hf⟩
 ·rw [e] at hb; exact List.mem_cons_of_mem _ hb
 ·rw [e] at hb
  unfold frs at hb
  rw [List.filterMap_cons,hf] at hb
  exact hb
def Inv.stkFree (I:Inv X pins σ H s):∀ b∈frs X.stack,H b=none:=fun b hb=>by
 rcases List.mem_cons.mp (I.stkSub b hb) with e | hb
 ·rw [e]; exact I.free
 ·obtain ⟨_,o,ho,_⟩:=I.ok.funs.mem hb
  exact I.base.free b o ho (I.ok.frf b hb) fun z=>I.ok.exfs b z hb
def Inv.step {g':Array GenState} {t':Nat} {d':Drawn} {ch:List Addr} (I:Inv X pins σ H s)
  (hch:∀ b∈ch,(b∈X.ex\/X.s₀.heap.objs.size<=b)/\b≠X.env.locals/\(∀ x c,X.env.cells.lookup x=some c->c≠b)/\∀ p∈X.pn++pins,p.1≠b)
  (keep:∀ b o,b≠X.env.locals->b∉X.fs->b∉ch->s.heap.get? b=some o->H b=none->h'.get? b=some o)
  (slot:∀ b o,b≠X.env.locals->b∈X.fs->b∉ch->s.heap.get? b=some o->H b=none->∃ sl,h'.get? b=some { o with slots:=sl }) (free:∀ b o,b∉ch->s.heap.get? b=some o->H b=none->H' b=none)
  (there:∀ b o,b∉ch->s.heap.get? b=some o->∃ o',h'.get? b=some o')
  (tups:∀ b xs,H b=some (.tup xs)->H' b=some (.tup xs)) (frzs:∀ b o u,H b=some (.frz o u)->H' b=some (.frz o u)) (tbls:∀ b ps,H b=some (.tbl ps)->∃ more,H' b=some (.tbl (ps++more)))
  (ns:∀ m,s.heap.Ns X.env.locals m->h'.Ns X.env.locals m) (hok:HOk X.prog X.w H' h') (hg:AllBare g') :
  Inv X pins σ H' { s with heap:=h',gens:=g',drawn:=d',toks:=t' }:=by
 have neL:∀ b o,X.s₀.heap.get? b=some o->b≠X.env.locals:=fun b o e=>Nat.ne_of_lt (Nat.lt_of_lt_of_le (Heap.lt_size e) I.ok.above)
 have neC:∀ b o,X.s₀.heap.get? b=some o->b∉X.ex->b∉ch:=fun b o e hx hb=>by
  rcases (hch b hb).1 with z | z
  ·exact hx z
  ·exact absurd (Nat.lt_of_lt_of_le (Heap.lt_size e) z) (Nat.lt_irrefl _)
 have cellK:∀ x c,X.env.cells.lookup x=some c->∀ v,s.heap.IsCell c v->h'.IsCell c v:=fun x c e v ⟨o,ho,hd⟩=>by
  have nch:c∉ch:=fun z=>(hch c z).2.2.1 x c e rfl
  by_cases hc:c∈X.fs
  ·obtain ⟨sl,q⟩:=slot c o (I.cne x c e) hc nch ho (I.freeC x c e)
   exact ⟨_,q,hd⟩
  ·exact ⟨o,keep c o (I.cne x c e) hc nch ho (I.freeC x c e),hd⟩
 refine ⟨I.ok,I.os,hg,⟨fun b o e n hb hx=>?_,fun b o e n hb hx=>?_,fun b o e n hx=>?_,fun b o e hx=>?_,fun b xs e=>tups b xs (I.base.tups b xs e),fun b o xs e=>frzs b o xs (I.base.frzs b o xs e),fun b ps e=>?_⟩,?_,fun x c e=>?_,?_,fun x c e=>?_,fun p hp=>?_,hok,I.len⟩
 ·exact keep b o (neL b o e) hb (neC b o e hx) (I.base.keep b o e n hb hx) (I.base.free b o e n hx)
 ·obtain ⟨sl,e1⟩:=I.base.slot b o e n hb hx
  obtain ⟨sl',e2⟩:=slot b _ (neL b o e) hb (neC b o e hx) e1 (I.base.free b o e n hx)
  exact ⟨sl',e2⟩
 ·obtain ⟨o',e1⟩:=I.base.there b o e hx
  exact free b o' (neC b o e hx) e1 (I.base.free b o e n hx)
 ·obtain ⟨o',e1⟩:=I.base.there b o e hx
  exact there b o' (neC b o e hx) e1
 ·obtain ⟨m1,e1⟩:=I.base.tbls b ps e
  obtain ⟨m2,e2⟩:=tbls b _ e1
  exact ⟨m1++m2,by rw [e2,Array.append_assoc]⟩
 ·obtain ⟨m,hn,hl⟩:=I.loc
  refine ⟨m,ns m hn,fun i x v e1 e2 e3=>?_⟩
  obtain ⟨u,r,l⟩:=hl i x v e1 e2 e3
  refine ⟨u,r,?_⟩
  rcases l with l | ⟨k,c,e,z⟩
  ·exact .inl l
  ·exact .inr ⟨k,c,e,cellK x c e _ z⟩
 ·obtain ⟨v,z⟩:=I.cell x c e
  exact ⟨v,cellK x c e v z⟩
 ·obtain ⟨m,⟨o,_,_,ho,_⟩,_⟩:=I.loc
  exact free _ o (fun z=>(hch _ z).2.1 rfl) ho I.free
 ·obtain ⟨v,o,ho,hd⟩:=I.cell x c e
  exact free c o (fun z=>(hch c z).2.2.1 x c e rfl) ho (I.freeC x c e)
 ·obtain ⟨e,n,ne,nf,d⟩:=I.pin p hp
  have nch:p.1∉ch:=fun z=>(hch p.1 z).2.2.2 p hp rfl
  exact ⟨keep p.1 p.2 ne nf nch e n,free p.1 p.2 nch e n,ne,nf,d⟩
def Inv.un {t':Nat} (I:Inv X pins σ H s) (u:Un X.fs [] H H' s.heap h') (hok:HOk X.prog X.w H' h'):Inv X pins σ H' { s with heap:=h',toks:=t' }:=by
 obtain ⟨m,⟨o,es,ep,ho,r⟩,_⟩:=id I.loc
 obtain ⟨sl,hL⟩:=u.any ho I.free (by simp)
 exact I.step (g':=s.gens) (d':=s.drawn) (ch:=[]) (fun _ z=>nomatch z) (fun b o _ hb _ e n=>u.keep b o e n hb (by simp)) (fun b o _ hb _ e n=>u.slot b o e n hb (by simp)) (fun b o _ e n=>u.free b o e n (by simp)) (fun b o _ e=>u.there b o e (by simp)) u.tups u.frzs u.tbls (fun m' hm=>by
  obtain ⟨o',es',ep',ho',r'⟩:=hm
  rw [ho] at ho'; cases ho'
  exact ⟨_,es',ep',hL,r'⟩) hok I.bare
def Inv.call {g':Array GenState} {t':Nat} {d':Drawn} {ch:List Addr} (I:Inv X pins σ H s) (u:Un (frs X.stack) ch H H' s.heap h') (hok:HOk X.prog X.w H' h') (hg:AllBare g')
  (hch:∀ b∈ch,(b∈X.ex\/X.s₀.heap.objs.size<=b)/\b≠X.env.locals/\(∀ x c,X.env.cells.lookup x=some c->c≠b)/\∀ p∈X.pn++pins,p.1≠b) :
  Inv X pins σ H' { s with heap:=h',gens:=g',drawn:=d',toks:=t' }:=by
 obtain ⟨m,⟨o,es,ep,ho,r⟩,_⟩:=id I.loc
 obtain ⟨sl,hL⟩:=u.any ho I.free fun z=>(hch _ z).2.1 rfl
 exact I.step (ch:=ch) hch (fun b o hL hb hc e n=>u.keep b o e n (fun z=>(List.mem_cons.mp (I.stkSub b z)).elim hL hb) hc) (fun b o _ _ hc e n=>u.any e n hc) (fun b o hc e n=>u.free b o e n hc) (fun b o hc e=>u.there b o e hc) u.tups u.frzs u.tbls (fun m' hm=>by
  obtain ⟨o',es',ep',ho',r'⟩:=hm
  rw [ho] at ho'; cases ho'
  exact ⟨_,es',ep',hL,r'⟩) hok hg
def Inv.turned {t':Nat} {it:Addr} (I:Inv X pins σ H s) (k:∀ b o,b≠it->s.heap.get? b=some o->h'.get? b=some o) (hn:H it=none) (hL:it≠X.env.locals)
  (h1:it∈X.ex\/X.s₀.heap.objs.size<=it) (h2:∀ x c,X.env.cells.lookup x=some c->c≠it) (h3:∀ p∈X.pn++pins,p.1≠it):Inv X pins σ H { s with heap:=h',toks:=t' }:=by
 have nit:∀ b u,H b=some u->b≠it:=fun b u e z=>by rw [z,hn] at e; cases e
 refine I.step (g':=s.gens) (d':=s.drawn) (ch:=[it]) (fun b hb=>?_) (fun b o _ _ hc e _=>k b o (fun z=>hc (by simp [z])) e) (fun b o _ _ hc e _=>⟨o.slots,k b o (fun z=>hc (by simp [z])) e⟩) (fun _ _ _ _ n=>n)
  (fun b o hc e=>⟨o,k b o (fun z=>hc (by simp [z])) e⟩) (fun _ _ e=>e) (fun _ _ _ e=>e) (fun b ps e=>⟨#[],by rw [e]; simp⟩) (fun m hm=>?_) (fun b u e=>?_) I.bare
 ·have e:b=it:=by simpa using hb
  subst e
  exact ⟨h1,hL,h2,h3⟩
 ·obtain ⟨o,es,ep,ho,r⟩:=hm
  exact ⟨o,es,ep,k _ o (Ne.symm hL) ho,r⟩
 ·refine (I.hok b u e).stay (fun c v hc q=>k c v ?_ q) (fun _ q=>q) fun _ _ q=>q
  rcases hc with z | z
  ·rw [z]; exact nit b u e
  ·exact nit c _ z
def Inv.tok (I:Inv X pins σ H s) (t:Nat):Inv X pins σ H { s with toks:=t }:=I.un (h':=s.heap) (t':=t) Un.refl I.hok
def Inv.kept {t':Nat} (I:Inv X pins σ H s) (k:∀ b u,s.heap.get? b=some u->h'.get? b=some u):Inv X pins σ H { s with heap:=h',toks:=t' }:=I.un (Un.kept k) (I.hok.kept k)
def Inv.laid {a:Addr} {o:HO} {t':Nat} (I:Inv X pins σ H s) (k:∀ b u,s.heap.get? b=some u->h'.get? b=some u) (hp:s.heap.objs.size<=a) (new:ObjOk X.prog X.w (upd H a o) h' a o) :
  Inv X pins σ (upd H a o) { s with heap:=h',toks:=t' }:=I.un (Un.laid k hp (I.hok.fresh hp)) (I.hok.laid k hp new)
def Inv.write {x e:Addr} {o:HO} {t':Nat} (I:Inv X pins σ H s) (mu:Mut (H x)) (he:e=x\/H e=some (.own x)) (k:∀ b u,b≠e->s.heap.get? b=some u->h'.get? b=some u) (heo:∃ u,h'.get? e=some u)
  (new:ObjOk X.prog X.w (upd H x o) h' x o):Inv X pins σ (upd H x o) { s with heap:=h',toks:=t' }:=I.un (Un.write mu he k heo) (I.hok.write mu he k heo new)
def Inv.weak {σ':List (Option V)} (I:Inv X pins σ H s) (hl:σ'.length=σ.length) (w:∀ (i:Nat) v,σ'[i]?=some (some v)->σ[i]?=some (some v)):Inv X pins σ' H s :=
 ⟨I.ok,I.os,I.bare,I.base,let ⟨m,hn,hl'⟩:=I.loc; ⟨m,hn,fun i x v e1 e2 e3=>hl' i x v e1 (w i v e2) e3⟩,I.cell,I.free,I.freeC,I.pin,I.hok,hl.trans I.len⟩
def Inv.pins_of {pins':List (Addr×Obj)} (I:Inv X pins σ H s) (h:∀ p∈pins',s.heap.get? p.1=some p.2/\H p.1=none/\p.1≠X.env.locals/\p.1∉X.fs/\∀ v,p.2.data≠.cell v):Inv X pins' σ H s :=
 ⟨I.ok,I.os,I.bare,I.base,I.loc,I.cell,I.free,I.freeC,fun p hp=>(List.mem_append.mp hp).elim (fun z=>I.pin p (List.mem_append_left _ z)) (h p),I.hok,I.len⟩
def nodup_ix {N:List Str} (hN:N.Nodup) {i j:Nat} {x:Str} (a:N[i]?=some x) (b:N[j]?=some x):i=j:=by
 obtain ⟨h1,e1⟩:=List.getElem?_eq_some_iff.mp a
 obtain ⟨h2,e2⟩:=List.getElem?_eq_some_iff.mp b
 exact (List.getElem_inj hN).mp (e1.trans e2.symm)
def store_ok2 {M:Model} {A:Around} {E:Value->Shared->Prop} {i:Nat} {x:Str} {v:V} {u:Value} {Q:Unit->Shared->Prop} (I:Inv X pins σ H s) (hN:X.N.Nodup) (hi:X.N[i]?=some x) (hx:Loc X.env.scope x) (r:RelV v u)
  (h:∀ s',Inv X pins (σ.set i (some v)) H s'->(∃ a,Heap.SameBut a s.heap s'.heap/\(a=X.env.locals\/X.env.cells.lookup x=some a))->Q () s') (hf:X.fn x=true\/X.env.scope.names.lookup x=some .local:=by first | exact .inl rfl | exact .inr rfl | assumption):wpAny M A (storeName X.env x u) Q E s:=by
 obtain ⟨m,hn,hl⟩:=id I.loc
 have hcls:(X.env.scope.kind == .class || (X.env.scope.kind == .module && X.env.locals != X.env.globals))=false:=by rw [I.ok.kind]; rfl
 have hiσ:i < σ.length:=by rw [I.len]; exact (List.getElem?_eq_some_iff.mp hi).1
 have cne:=I.cne
 have tracked:∀ {a:Addr} {h':Heap},(∃ o,s.heap.get? a=some o/\H a=none)->Heap.SameBut a s.heap h'->HOk X.prog X.w H h':=fun {a h'} ha hs b ob e=>by
  obtain ⟨_,_,hfree⟩:=ha
  refine (I.hok b ob e).stay (fun c w' hc q=>(hs.2 c ?_).trans q) (fun _ q=>q) fun _ _ q=>q
  rintro rfl
  rcases hc with rfl | hc
  ·rw [hfree] at e; cases e
  ·rw [hfree] at hc; cases hc
 rcases hx with hk | hk
 ·refine wpAny_storeName_local hk hn (fun h' hn' hs=>?_) hcls
  obtain ⟨oL,_,_,hoL,_⟩:=id hn
  refine h _ ⟨I.ok,I.os,I.bare,⟨fun b o e n hb hx=>?_,fun b o e n hb hx=>?_,I.base.free,fun b o e hx=>?_,I.base.tups,I.base.frzs,I.base.tbls⟩,⟨_,hn',fun j y v' e1 e2 e3=>?_⟩,fun y c e=>?_,I.free,I.freeC,fun p hp=>?_,tracked ⟨oL,hoL,I.free⟩ hs,by simpa using I.len⟩ ⟨_,hs,.inl rfl⟩
  ·exact (hs.2 b (Nat.ne_of_lt (Nat.lt_of_lt_of_le (Heap.lt_size e) I.ok.above))).trans (I.base.keep b o e n hb hx)
  ·obtain ⟨sl,e1⟩:=I.base.slot b o e n hb hx
   exact ⟨sl,(hs.2 b (Nat.ne_of_lt (Nat.lt_of_lt_of_le (Heap.lt_size e) I.ok.above))).trans e1⟩
  ·obtain ⟨o',e1⟩:=I.base.there b o e hx
   exact ⟨o',(hs.2 b (Nat.ne_of_lt (Nat.lt_of_lt_of_le (Heap.lt_size e) I.ok.above))).trans e1⟩
  ·by_cases hj:j=i
   ·subst hj
    rw [hi] at e1; cases e1
    rw [List.getElem?_set_self hiσ] at e2
    cases e2
    exact ⟨u,r,.inl ⟨hk,by simp⟩⟩
   ·rw [List.getElem?_set_ne (Ne.symm hj)] at e2
    obtain ⟨u',r',q⟩:=hl j y v' e1 e2 e3
    refine ⟨u',r',?_⟩
    rcases q with ⟨k,e⟩ | ⟨k,c,e,z⟩
    ·refine .inl ⟨k,?_⟩
     have:y≠x:=fun e=>hj (nodup_ix hN e1 (e ▸ hi))
     simp [this,e]
    ·exact .inr ⟨k,c,e,z.sameBut hs (cne y c e)⟩
  ·obtain ⟨w',z⟩:=I.cell y c e
   exact ⟨w',z.sameBut hs (cne y c e)⟩
  ·obtain ⟨e,n,ne,nf,d⟩:=I.pin p hp
   exact ⟨(hs.2 p.1 ne).trans e,n,ne,nf,d⟩
 ·have hfn:X.fn x=true:=by
   rcases hf with z | z
   ·exact z
   ·rw [z] at hk; cases hk
  obtain ⟨c,hc⟩:=I.ok.has x (.inl hk)
  obtain ⟨w',z⟩:=I.cell x c hc
  refine wpAny_storeName_cell I.ok.kind hk hc z (fun h' hc' hs=>?_)
  obtain ⟨oc,hoc,hocd⟩:=id z
  refine h { s with heap:=h' } ⟨I.ok,I.os,I.bare,⟨fun b o e n hb hx=>?_,fun b o e n hb hx=>?_,I.base.free,fun b o e hx=>?_,I.base.tups,I.base.frzs,I.base.tbls⟩,⟨m,hn.sameBut hs (Ne.symm (cne x c hc)),fun j y v' e1 e2 e3=>?_⟩,fun y c' e=>?_,I.free,I.freeC,fun p hp=>?_,tracked ⟨oc,hoc,I.freeC x c hc⟩ hs,by simpa using I.len⟩ ⟨c,hs,.inr hc⟩
  ·exact (hs.2 b (Nat.ne_of_lt (Nat.lt_of_lt_of_le (Heap.lt_size e) (I.ok.cab x c hfn hc)))).trans (I.base.keep b o e n hb hx)
  ·obtain ⟨sl,e1⟩:=I.base.slot b o e n hb hx
   exact ⟨sl,(hs.2 b (Nat.ne_of_lt (Nat.lt_of_lt_of_le (Heap.lt_size e) (I.ok.cab x c hfn hc)))).trans e1⟩
  ·obtain ⟨o',e1⟩:=I.base.there b o e hx
   exact ⟨o',(hs.2 b (Nat.ne_of_lt (Nat.lt_of_lt_of_le (Heap.lt_size e) (I.ok.cab x c hfn hc)))).trans e1⟩
  ·by_cases hj:j=i
   ·subst hj
    rw [hi] at e1; cases e1
    rw [List.getElem?_set_self hiσ] at e2
    cases e2
    exact ⟨u,r,.inr ⟨.inl hk,c,hc,hc'⟩⟩
   ·rw [List.getElem?_set_ne (Ne.symm hj)] at e2
    obtain ⟨u',r',q⟩:=hl j y v' e1 e2 e3
    refine ⟨u',r',?_⟩
    rcases q with q | ⟨k,c',e,z'⟩
    ·exact .inl q
    ·refine .inr ⟨k,c',e,z'.sameBut hs ?_⟩
     rintro rfl
     exact hj (nodup_ix hN e1 (I.ok.inj _ _ _ e hc ▸ hi))
  ·by_cases hcc:c'=c
   ·subst hcc; exact ⟨_,hc'⟩
   ·obtain ⟨w2,z2⟩:=I.cell y c' e
    exact ⟨w2,z2.sameBut hs hcc⟩
  ·obtain ⟨e,n,ne,nf,d⟩:=I.pin p hp
   refine ⟨(hs.2 p.1 ?_).trans e,n,ne,nf,d⟩
   intro q
   rw [q,hoc] at e
   have q':oc=p.2:=Option.some.inj e
   exact d w' (by rw [<- q']; exact hocd)
def store_ok {M:Model} {A:Around} {E:Value->Shared->Prop} {i:Nat} {x:Str} {v:V} {u:Value} {Q:Unit->Shared->Prop} (I:Inv X pins σ H s) (hN:X.N.Nodup) (hi:X.N[i]?=some x) (hx:Loc X.env.scope x) (r:RelV v u)
  (h:∀ s',Inv X pins (σ.set i (some v)) H s'->Q () s') (hf:X.fn x=true\/X.env.scope.names.lookup x=some .local:=by first | exact .inl rfl | exact .inr rfl | assumption):wpAny M A (storeName X.env x u) Q E s :=
 store_ok2 I hN hi hx r (fun s' I' _=>h s' I') hf
def Inv.call' {s':Shared} {ch:List Addr} (I:Inv X pins σ H s) (ho:s'.os=s.os) (u:Un (frs X.stack) ch H H' s.heap s'.heap) (hok:HOk X.prog X.w H' s'.heap) (hg:AllBare s'.gens)
  (hch:∀ b∈ch,(b∈X.ex\/X.s₀.heap.objs.size<=b)/\b≠X.env.locals/\(∀ x c,X.env.cells.lookup x=some c->c≠b)/\∀ p∈X.pn++pins,p.1≠b):Inv X pins σ H' s':=by
 obtain ⟨h',g',d',t',o'⟩:=s'
 have e:o'=s.os:=ho
 subst e
 exact I.call (g':=g') (t':=t') (d':=d') u hok hg hch
end
abbrev XK:=Value->Option Addr->Hp->Prop
abbrev St:=List (Option V)
abbrev VK:=V->Hp->Prop
abbrev TE:=St->Hp->VK->Prop
abbrev TT:=St->Hp->(Bool->Hp->Prop)->Prop
abbrev TA:=St->Hp->(List V->Hp->Prop)->Prop
structure Ends where
 nx:St->Hp->Prop
 rt:VK
 bk:St->Hp->Prop:=fun _ _=>False
 ct:St->Hp->Prop:=fun _ _=>False
abbrev TS:=Ends->St->Hp->Prop
def EP (X:Cx) (pins:List (Addr×Obj)) (σ:St) (Q:VK) (u:Value) (s':Shared):Prop:=∃ v H',Inv X pins σ H' s'/\RelV v u/\Q v H'
def TP (X:Cx) (pins:List (Addr×Obj)) (σ:St) (Q:Bool->Hp->Prop) (b:Bool) (s':Shared):Prop:=∃ H',Inv X pins σ H' s'/\Q b H'
def AP (X:Cx) (pins:List (Addr×Obj)) (σ:St) (Q:List V->Hp->Prop) (us:List Value) (s':Shared):Prop:=∃ vs H',Inv X pins σ H' s'/\Vals vs us/\Q vs H'
def SP (X:Cx) (pins:List (Addr×Obj)) (D:Ends) (f:Flow) (s':Shared):Prop :=
 match f with
 | .next=>∃ σ' H',Inv X pins σ' H' s'/\D.nx σ' H'
 | .brk=>∃ σ' H',Inv X pins σ' H' s'/\D.bk σ' H'
 | .cont=>∃ σ' H',Inv X pins σ' H' s'/\D.ct σ' H'
 | .ret u=>∃ v σ' H',Inv X pins σ' H' s'/\RelV v u/\D.rt v H'
def PE (X:Cx) (e:Expr) (t:TE):Prop :=
 ∀ (pins:List (Addr×Obj)) (s:Shared) (σ:St) (H:Hp) (Q:VK),Inv X pins σ H s->t σ H Q->wpAny (model X.prog X.w) X.A (eval e X.env) (EP X pins σ Q) X.xe s
def PT (X:Cx) (e:Expr) (t:TT):Prop :=
 ∀ (pins:List (Addr×Obj)) (s:Shared) (σ:St) (H:Hp) (Q:Bool->Hp->Prop),Inv X pins σ H s->t σ H Q->wpAny (model X.prog X.w) X.A (isTrue e X.env (eval e X.env)) (TP X pins σ Q) X.xe s
def PW (X:Cx) (e:Expr) (t:TT):Prop :=
 ∀ (whole:Sem Value) (pins:List (Addr×Obj)) (s:Shared) (σ:St) (H:Hp) (Q:Bool->Hp->Prop),Inv X pins σ H s->t σ H Q->wpAny (model X.prog X.w) X.A (isTrue e X.env whole) (TP X pins σ Q) X.xe s
def PW.pt {X:Cx} {e:Expr} {t:TT} (h:PW X e t):PT X e t:=h _
def PA (X:Cx) (es:List Expr) (t:TA):Prop :=
 ∀ (pos:Pos) (pins:List (Addr×Obj)) (s:Shared) (σ:St) (H:Hp) (Q:List V->Hp->Prop),Inv X pins σ H s->t σ H Q->wpAny (model X.prog X.w) X.A (spliced (backTo pos (starEach es X.env))) (AP X pins σ Q) X.xe s
def PS (X:Cx) (st:Stmt) (t:TS):Prop :=
 ∀ (pins:List (Addr×Obj)) (s:Shared) (σ:St) (H:Hp) (D:Ends),Inv X pins σ H s->t D σ H->wpAny (model X.prog X.w) X.A (exec st X.env) (SP X pins D) X.xe s
def PSs (X:Cx) (st:List Stmt) (t:TS):Prop :=
 ∀ (pins:List (Addr×Obj)) (s:Shared) (σ:St) (H:Hp) (D:Ends),Inv X pins σ H s->t D σ H->wpAny (model X.prog X.w) X.A (execs st X.env) (SP X pins D) X.xe s
def thn {α:Type} {t:Sem α} {Q Q':α->Shared->Prop} {M:Model} {A:Around} {E:Value->Shared->Prop} {s:Shared} (h:wpAny M A t Q E s) (hQ:∀ a s,Q a s->Q' a s):wpAny M A t Q' E s:=wpAny_mono h hQ fun _ _ x=>x
section
variable {X:Cx}
def tVar (i:Nat):TE:=fun σ H Q=>∃ v,σ[i]?=some (some v)/\Q v H
def tC (v:V):TE:=fun _ H Q=>Q v H
def pe_var {i:Nat} {x:Str} {pos:Pos} (hN:X.N[i]?=some x) (hv:Vis X.env.scope x) (hd:(x == ("__debug__":Str))=false:=by decide) (hcd:(x == ("__classdict__":Str))=false:=by decide):PE X (.Name x pos) (tVar i):=by
 intro pins s σ H Q I h
 obtain ⟨v,e,h⟩:=h
 obtain ⟨m,hn,hl⟩:=I.loc
 obtain ⟨u,r,l⟩:=hl i x v hN e hv
 have fin:EP X pins σ Q u s:=⟨v,H,I,r,h⟩
 rcases l with ⟨hk,hm⟩ | ⟨hk,c,hc,hcell⟩
 ·exact wpAny_Name (wpAny_loadName_local I.ok.kind hk hn hm fin) hd
 ·rcases hk with hk | hk
  ·exact wpAny_Name (wpAny_loadName_cell I.ok.kind hk hc hcell fin) hd
  ·exact wpAny_Name (wpAny_loadName_free I.ok.kind hk hc hcell fin hcd) hd
def pe_int {i j pos}:PE X (.Constant (.int i) j pos) (tC (.int i)):=fun _ _ _ H _ I h=>wpAny_Constant_int ⟨.int i,H,I.tok _,⟨_,rfl⟩,h⟩
def pe_bl {b j pos}:PE X (.Constant (.bool b) j pos) (tC (.bl b)):=fun _ _ _ H _ I h=>Constant_bool ⟨.bl b,H,I,rfl,h⟩
def pe_non {j pos}:PE X (.Constant .none j pos) (tC .non):=fun _ _ _ H _ I h=>Constant_none ⟨.non,H,I,rfl,h⟩
def pe_str {x j pos}:PE X (.Constant (.str x) j pos) (tC (.str x)):=fun _ _ _ H _ I h=>Calls.Constant_str ⟨.str x,H,I.tok _,⟨_,rfl⟩,h⟩
def Gl (X:Cx) (x:Str):Prop:=X.env.kindOf x=some .globalImplicit
def ld_glob {E:Value->Shared->Prop} {pins:List (Addr×Obj)} {s:Shared} {σ:St} {H:Hp} {x:Str} {u:Value} {pos:Pos} {Q:Value->Shared->Prop} (I:Inv X pins σ H s) (hg:Gl X x) (hm:X.mg x=some u) (h:Q u s)
  (hd:(x == ("__debug__":Str))=false:=by decide):wpAny (model X.prog X.w) X.A (eval (.Name x pos) X.env) Q E s :=
 Calls.Name_function_global I.ok.kind hg (Calls.loadGlobal_global (by rw [I.ok.glob]; exact I.mod.glob.keeps I.bk) hm h) hd
def ld_blt {E:Value->Shared->Prop} {pins:List (Addr×Obj)} {s:Shared} {σ:St} {H:Hp} {x:Str} {u:Value} {pos:Pos} {Q:Value->Shared->Prop} (I:Inv X pins σ H s) (hg:Gl X x) (hm:X.mg x=none) (hv:bootBuiltins x=some u) (h:Q u s)
  (hn:x≠"__name__":=by decide) (hd:(x == ("__debug__":Str))=false:=by decide):wpAny (model X.prog X.w) X.A (eval (.Name x pos) X.env) Q E s:=by
 obtain ⟨mb,h1,h2⟩:=I.mod.blt
 exact Calls.Name_function_global I.ok.kind hg (Calls.loadGlobal_builtin (by rw [I.ok.glob]; exact I.mod.glob.keeps I.bk) hm (by rw [I.ok.blt]; exact h1.keeps I.bk) ((h2 x hn).trans hv) h) hd
def pe_glob {x:Str} {v:V} {u:Value} {pos:Pos} (hg:Gl X x) (hm:X.mg x=some u) (r:RelV v u) (hd:(x == ("__debug__":Str))=false:=by decide):PE X (.Name x pos) (tC v) :=
 fun _ _ _ H _ I h=>ld_glob I hg hm ⟨v,H,I,r,h⟩ hd
def pe_bltn {x:Str} {v:V} {u:Value} {pos:Pos} (hg:Gl X x) (hm:X.mg x=none) (hv:bootBuiltins x=some u) (r:RelV v u) (hn:x≠"__name__":=by decide) (hd:(x == ("__debug__":Str))=false:=by decide):PE X (.Name x pos) (tC v) :=
 fun _ _ _ H _ I h=>ld_blt I hg hm hv ⟨v,H,I,r,h⟩ hn hd
variable {a b:Expr} {ta tb:TE} {pos:Pos}
def tB (t:TE):TT:=fun σ H Q=>t σ H fun x H1=>∃ c,x=.bl c/\Q c H1
def pt_val {e:Expr} {t:TE} (h:PE X e t) (he:∀ whole,isTrue e X.env whole=(do let v <- whole; standAt e.pos; holding [v] (truthy v)):=by intro _; rfl):PT X e (tB t):=by
 intro pins s σ H Q I hw
 refine isTrue_plain (thn (h pins s σ H _ I hw) fun v s1 ⟨x,H1,I1,r1,q1⟩=>?_) (he _)
 obtain ⟨d,rfl,q⟩:=q1
 cases r1
 exact wpAny_truthy_bool ⟨H1,I1,q⟩
variable {tA tB':TT} {rest:List Expr}
def tAnd (t u:TT):TT:=fun σ H Q=>t σ H fun c H1=>if c=true then u σ H1 Q else Q false H1
def tOr (t u:TT):TT:=fun σ H Q=>t σ H fun c H1=>if c=true then Q true H1 else u σ H1 Q
def tNot (t:TT):TT:=fun σ H Q=>t σ H fun c H1=>Q (!c) H1
theorem pw_and1 (ha:PT X a tA):PW X (.BoolOp .And [a] pos) tA:=by
 intro wh pins s σ H Q I h
 refine isTrue_and (thn (ha pins s σ H Q I h) fun c s1 e=>?_)
 cases c with
 | true=>exact isTrue_and_nil e
 | false=>exact e
theorem pw_or1 (ha:PT X a tA):PW X (.BoolOp .Or [a] pos) tA:=by
 intro wh pins s σ H Q I h
 refine isTrue_or (thn (ha pins s σ H Q I h) fun c s1 e=>?_)
 cases c with
 | false=>exact isTrue_or_nil e
 | true=>exact e
theorem pw_and (ha:PT X a tA) (hb:PW X (.BoolOp .And (b::rest) pos) tB'):PW X (.BoolOp .And (a::b::rest) pos) (tAnd tA tB'):=by
 intro wh pins s σ H Q I h
 refine isTrue_and (thn (ha pins s σ H _ I h) fun c s1 ⟨H1,I1,q1⟩=>?_)
 cases c with
 | true=>exact hb wh pins s1 σ H1 Q I1 q1
 | false=>exact ⟨H1,I1,q1⟩
theorem pw_or (ha:PT X a tA) (hb:PW X (.BoolOp .Or (b::rest) pos) tB'):PW X (.BoolOp .Or (a::b::rest) pos) (tOr tA tB'):=by
 intro wh pins s σ H Q I h
 refine isTrue_or (thn (ha pins s σ H _ I h) fun c s1 ⟨H1,I1,q1⟩=>?_)
 cases c with
 | true=>exact ⟨H1,I1,q1⟩
 | false=>exact hb wh pins s1 σ H1 Q I1 q1
def pt_not (ha:PT X a tA):PT X (.UnaryOp .Not a pos) (tNot tA):=by
 intro pins s σ H Q I h
 exact isTrue_not (ha pins s σ H (fun c H1=>Q (!c) H1) I h)
def tAndV (ta tb:TE):TE:=fun σ H Q=>ta σ H fun x H1=>∃ c,x=.bl c/\if c=true then tb σ H1 Q else Q (.bl false) H1
def tNotV (ta:TE):TE:=fun σ H Q=>ta σ H fun x H1=>∃ c,x=.bl c/\Q (.bl (!c)) H1
def pe_one {op} {t:TE} (h:PE X a t):PE X (.BoolOp op [a] pos) t:=fun pins s σ H Q I hw=>BoolOp_one (h pins s σ H Q I hw)
theorem pe_and (ha:PE X a ta) (hb:PE X (.BoolOp .And (b::rest) pos) tb):PE X (.BoolOp .And (a::b::rest) pos) (tAndV ta tb):=by
 intro pins s σ H Q I h
 refine BoolOp_and (thn (ha pins s σ H _ I h) fun v s1 ⟨x,H1,I1,r1,q1⟩=>?_)
 obtain ⟨c,rfl,q1⟩:=q1
 cases r1
 refine wpAny_truthy_bool ?_
 cases c with
 | true=>exact hb pins s1 σ H1 Q I1 q1
 | false=>exact ⟨.bl false,H1,I1,rfl,q1⟩
def pe_not (ha:PE X a ta):PE X (.UnaryOp .Not a pos) (tNotV ta):=by
 intro pins s σ H Q I h
 refine UnaryOp_ (thn (ha pins s σ H _ I h) fun v s1 ⟨x,H1,I1,r1,q1⟩=>?_)
 obtain ⟨c,rfl,q1⟩:=q1
 cases r1
 exact not_of (wpAny_truthy_bool ⟨.bl (!c),H1,I1,rfl,q1⟩)
end
def SqL (K:W.Frag) (H:Hp) (a:Addr) (xs:List V):Prop :=
 Rd H a (.lst xs) \/
  ∃ (o:Obj) (its:Array Value) (n:Nat),K.lookup a=some o/\o.cls=.type "list"/\o.dict=none/\o.data=.seq its n/\its.size<=sizeLine/\Vals xs its.toList
def SqT (K:W.Frag) (H:Hp) (a:Addr) (xs:List V):Prop :=
 Rd H a (.tup xs) \/
  ∃ (o:Obj) (its:Array Value) (n:Nat),K.lookup a=some o/\o.cls=.type "tuple"/\o.data=.seq its n/\its.size<=sizeLine/\Vals xs its.toList
def absV:Value->Option V
 | .none=>some .non
 | .bool b=>some (.bl b)
 | .int i _=>some (.int i)
 | .str x _=>some (.str x)
 | .bytes b _=>some (.byt b)
 | .float b _=>some (.flt b)
 | .ref a=>some (.ref a)
 | .type n=>some (.ty n)
 | _=>none
theorem RelV.abs {x:V} {u:Value} (r:RelV x u):absV u=some x:=by
 cases x with
 | non=>cases r; rfl
 | bl _=>cases r; rfl
 | int _=>obtain ⟨t,rfl⟩:=r; rfl
 | str _=>obtain ⟨t,rfl⟩:=r; rfl
 | byt _=>obtain ⟨t,rfl⟩:=r; rfl
 | flt _=>obtain ⟨t,rfl⟩:=r; rfl
 | ref _=>cases r; rfl
 | ty _=>cases r; rfl
def RelV.inj {x y:V} {u:Value} (r:RelV x u) (q:RelV y u):x=y:=Option.some.inj (r.abs.symm.trans q.abs)
theorem Vals.inj:∀ {xs ys:List V} {us:List Value},Vals xs us->Vals ys us->xs=ys
 | _,_,_,.nil,.nil=>rfl
 | _,_,_,.cons r t,.cons r' t'=>by rw [r.inj r',Vals.inj t t']
section
variable {X:Cx} {pins:List (Addr×Obj)} {σ:St} {H:Hp} {s:Shared} {a:Addr} {xs ys:List V}
def SqL.of {K:W.Frag} (h:H a=some (.lst xs)):SqL K H a xs:=.inl (.inl h)
def SqT.of {K:W.Frag} (h:H a=some (.tup xs)):SqT K H a xs:=.inl (.inl h)
theorem Inv.list (I:Inv X pins σ H s) (h:SqL X.K H a xs):∃ its:List Value,Vals xs its/\PlainL s.heap a its.toArray/\xs.length<=sizeLine:=by
 rcases h with h | ⟨o,its,n,hk,hc,hd,hs,hz,r⟩
 ·obtain ⟨z,its,n,r,e⟩:=h.ok I.hok
  exact ⟨its,r,⟨_,n,e,rfl,rfl,rfl⟩,z⟩
 ·refine ⟨its.toList,r,⟨o,n,I.kIn a o hk,hc,hd,by simpa using hs⟩,?_⟩
  have e:=r.length
  simp only [Array.length_toList] at e
  omega
theorem Inv.tuple (I:Inv X pins σ H s) (h:SqT X.K H a xs):∃ its:List Value,Vals xs its/\IsTup s.heap a its.toArray/\xs.length<=sizeLine:=by
 rcases h with h | ⟨o,its,n,hk,hc,hs,hz,r⟩
 ·obtain ⟨z,its,r,p⟩:=h.ok I.hok
  exact ⟨its,r,p.tup,z⟩
 ·refine ⟨its.toList,r,⟨o,I.kIn a o hk,hc,n,by simpa using hs⟩,?_⟩
  have e:=r.length
  simp only [Array.length_toList] at e
  omega
def Inv.list_inj (I:Inv X pins σ H s) (h:SqL X.K H a xs) (h':SqL X.K H a ys):xs=ys:=by
 obtain ⟨its,r,⟨o,n,e,_,_,d⟩,_⟩:=I.list h
 obtain ⟨its',r',⟨o',n',e',_,_,d'⟩,_⟩:=I.list h'
 rw [e] at e'; cases e'
 rw [d] at d'
 injection d' with d1 _
 have:its=its':=by simpa using congrArg Array.toList d1
 subst this
 exact r.inj r'
end
abbrev Cx.wish (X:Cx) (E:Value->Shared->Prop):Cx:={ X with xe:=E }
abbrev Cx.nox (X:Cx):Cx:=X.wish fun _ _=>False
def Cx.Ok.wish {X:Cx} (ok:X.Ok) (E:Value->Shared->Prop):(X.wish E).Ok :=
 ⟨ok.mod,ok.kind,ok.glob,ok.blt,ok.above,ok.inj,ok.has,ok.cab,ok.hd,ok.frames,ok.stk,ok.exf,ok.bs,ok.bsz,ok.noex,ok.exfs,ok.funs,ok.frf⟩
def Cx.Ok.unwish {X:Cx} {E:Value->Shared->Prop} (ok:(X.wish E).Ok):X.Ok :=
 ⟨ok.mod,ok.kind,ok.glob,ok.blt,ok.above,ok.inj,ok.has,ok.cab,ok.hd,ok.frames,ok.stk,ok.exf,ok.bs,ok.bsz,ok.noex,ok.exfs,ok.funs,ok.frf⟩
section
variable {X:Cx} {pins:List (Addr×Obj)} {σ:St} {H:Hp} {s:Shared} {E:Value->Shared->Prop}
def Inv.wish (I:Inv X pins σ H s) (E:Value->Shared->Prop):Inv (X.wish E) pins σ H s:=⟨I.ok.wish E,I.os,I.bare,I.base,I.loc,I.cell,I.free,I.freeC,I.pin,I.hok,I.len⟩
def Inv.unwish (I:Inv (X.wish E) pins σ H s):Inv X pins σ H s:=⟨I.ok.unwish,I.os,I.bare,I.base,I.loc,I.cell,I.free,I.freeC,I.pin,I.hok,I.len⟩
theorem SP.unwish {D:Ends} {f:Flow} {s':Shared} (h:SP (X.wish E) pins D f s'):SP X pins D f s':=by
 cases f with
 | next=>obtain ⟨σ',H',I,q⟩:=h; exact ⟨σ',H',I.unwish,q⟩
 | brk=>obtain ⟨σ',H',I,q⟩:=h; exact ⟨σ',H',I.unwish,q⟩
 | cont=>obtain ⟨σ',H',I,q⟩:=h; exact ⟨σ',H',I.unwish,q⟩
 | ret u=>obtain ⟨v,σ',H',I,r,q⟩:=h; exact ⟨v,σ',H',I.unwish,r,q⟩
def PSs.nox {st:List Stmt} {t:TS} (h:PSs X.nox st t):PSs X st t:=fun pins s σ H D I hw =>
 wpAny_mono (h pins s σ H D (I.wish _) hw) (fun _ _ q=>q.unwish) fun _ _ z=>False.elim z
end
section
variable {X:Cx} {st:Stmt} {rest:List Stmt} {t u:TS} {e:Expr} {te:TE} {pos:Pos}
def tNext:TS:=fun D σ H=>D.nx σ H
def tSeq (t u:TS):TS:=fun D σ H=>t { D with nx:=u D } σ H
def pss_nil:PSs X [] tNext:=fun _ _ σ H _ I h=>wpAny_execs_nil ⟨σ,H,I,h⟩
theorem pss_cons (h1:PS X st t) (h2:PSs X rest u):PSs X (st::rest) (tSeq t u):=by
 intro pins s σ H D I h
 refine wpAny_execs_cons (thn (h1 pins s σ H { D with nx:=u D } I h) fun f s1 q=>?_)
 cases f with
 | next =>
  obtain ⟨σ',H',I',q⟩:=q
  exact h2 pins s1 σ' H' D I' q
 | ret v=>exact q
 | brk=>exact q
 | cont=>exact q
theorem pss_one (h1:PS X st t):PSs X [st] t:=by
 intro pins s σ H D I h
 refine wpAny_execs_cons (thn (h1 pins s σ H D I h) fun f s1 q=>?_)
 cases f with
 | next=>exact wpAny_execs_nil q
 | ret v=>exact q
 | brk=>exact q
 | cont=>exact q
def Inv.quiet {pins:List (Addr×Obj)} {σ:St} {H:Hp} {s:Shared} (I:Inv X pins σ H s):interactive X.env=false:=by simp [interactive,I.ok.kind]
def tDrop (te:TE):TS:=fun D σ H=>te σ H fun _ H1=>D.nx σ H1
def ps_expr (he:PE X e te) (hs:swapsWith e none pos.line X.env=pure false:=by rfl):PS X (.Expr e pos) (tDrop te):=by
 intro pins s σ H D I h
 exact wpAny_Expr_any (thn (he pins s σ H _ I h) fun v s1 ⟨x,H1,I1,r1,q1⟩=>⟨σ,H1,I1,q1⟩) I.quiet hs
def tRet (te:TE):TS:=fun D σ H=>te σ H D.rt
def ps_ret (he:PE X e te):PS X (.Return (some e) pos) (tRet te):=by
 intro pins s σ H D I h
 exact wpAny_Return_some (thn (he pins s σ H _ I h) fun v s1 ⟨x,H1,I1,r1,q1⟩=>⟨x,σ,H1,I1,r1,q1⟩)
def tIfS (c:TT) (t u:TS):TS:=fun D σ H=>c σ H fun b H1=>if b=true then t D σ H1 else u D σ H1
theorem ps_if {c:Expr} {a b:List Stmt} {tc:TT} (hc:PT X c tc) (ha:PSs X a t) (hb:PSs X b u):PS X (.If c a b pos) (tIfS tc t u):=by
 intro pins s σ H D I h
 refine wpAny_If (thn (hc pins s σ H _ I h) fun d s1 ⟨H1,I1,q1⟩=>?_)
 cases d with
 | true=>exact ha pins s1 σ H1 D I1 q1
 | false=>exact hb pins s1 σ H1 D I1 q1
end
abbrev TG:=V->St->Hp->(St->Hp->Prop)->Prop
abbrev TGs:=List V->St->Hp->(St->Hp->Prop)->Prop
def PG (X:Cx) (target:Expr) (t:TG):Prop :=
 ∀ (pins:List (Addr×Obj)) (s:Shared) (σ:St) (H:Hp) (v:V) (u:Value) (Q:St->Hp->Prop),Inv X pins σ H s->RelV v u->t v σ H Q ->
  wpAny (model X.prog X.w) X.A (assign target X.env u) (fun _ s'=>∃ σ' H',Inv X pins σ' H' s'/\Q σ' H') X.xe s
def PGs (X:Cx) (ts:List Expr) (t:TGs):Prop :=
 ∀ (pins:List (Addr×Obj)) (s:Shared) (σ:St) (H:Hp) (vs:List V) (us:List Value) (Q:St->Hp->Prop),Inv X pins σ H s->Vals vs us->t vs σ H Q ->
  wpAny (model X.prog X.w) X.A (assignInOrder ((assignEach ts X.env).map (·.2)) us) (fun _ s'=>∃ σ' H',Inv X pins σ' H' s'/\Q σ' H') X.xe s
abbrev TSet:=V->V->V->Hp->(Hp->Prop)->Prop
def PSet (X:Cx) (t:TSet):Prop :=
 ∀ (pins:List (Addr×Obj)) (s:Shared) (σ:St) (H:Hp) (o i v:V) (ov iv u:Value) (Q:Hp->Prop),Inv X pins σ H s->RelV o ov->RelV i iv->RelV v u->t o i v H Q ->
  wpAny (model X.prog X.w) X.A (setItem ov iv u) (fun _ s'=>∃ H',Inv X pins σ H' s'/\Q H') X.xe s
abbrev TIp:=V->V->Hp->VK->Prop
def PIp (X:Cx) (op:Operator) (t:TIp):Prop :=
 ∀ (pins:List (Addr×Obj)) (s:Shared) (σ:St) (H:Hp) (x y:V) (v u:Value) (Q:VK),Inv X pins σ H s->RelV x v->RelV y u->t x y H Q ->
  wpAny (model X.prog X.w) X.A (inplaceOp op v u) (EP X pins σ Q) X.xe s
section
variable {X:Cx} {pos:Pos}
def gName (i:Nat):TG:=fun v σ H Q=>Q (σ.set i (some v)) H
def pg_name {i:Nat} {x:Str} (hN:X.N.Nodup) (hi:X.N[i]?=some x) (hx:Loc X.env.scope x) (hf:X.fn x=true\/X.env.scope.names.lookup x=some .local:=by first | exact .inl rfl | exact .inr rfl | assumption):PG X (.Name x pos) (gName i):=by
 intro pins s σ H v u Q I r h
 exact wpAny_assign_Name (store_ok I hN hi hx r (fun s' I'=>⟨_,H,I',h⟩) hf)
def gNil:TGs:=fun vs σ H Q=>vs=[]/\Q σ H
def gCons (t:TG) (u:TGs):TGs:=fun vs σ H Q=>∃ v r,vs=v::r/\t v σ H fun σ' H'=>u r σ' H' Q
def pgs_nil:PGs X [] gNil:=by
 intro pins s σ H vs us Q I r h
 obtain ⟨e,h⟩:=h
 subst e
 cases r
 exact assignInOrder_nil ⟨σ,H,I,h⟩
theorem pgs_cons {e:Expr} {es:List Expr} {t:TG} {u:TGs} (h1:PG X e t) (h2:PGs X es u)
  (hs:(assignEach (e::es) X.env).map (·.2)=assign e X.env::(assignEach es X.env).map (·.2):=by rfl):PGs X (e::es) (gCons t u):=by
 intro pins s σ H vs us Q I r h
 obtain ⟨v,vr,e1,h⟩:=h
 subst e1
 cases r with
 | cons r rr =>
  rw [hs]
  refine assignInOrder_cons (thn (h1 pins s σ H _ _ _ I r h) fun _ s1 ⟨σ1,H1,I1,q1⟩=>?_)
  exact h2 pins s1 σ1 H1 _ _ Q I1 rr q1
def gTup (K:W.Frag) (n:Nat) (t:TGs):TG:=fun v σ H Q=>∃ a xs,v=.ref a/\SqT K H a xs/\xs.length=n/\t xs σ H Q
def pg_tup {es:List Expr} {k:Nat} {t:TGs} {n:Nat} (hc:X.calm=true) (h:PGs X es t)
  (hn:(assignEach es X.env).length=n:=by rfl) (hst:(assignEach es X.env).findIdx? (·.1)=none:=by rfl):PG X (.Tuple es k pos) (gTup X.K n t):=by
 intro pins s σ H v u Q I r hw
 obtain ⟨a,xs,e1,hq,hl,hw⟩:=hw
 subst e1
 cases r
 obtain ⟨its,rv,ht,hz⟩:=I.tuple hq
 refine assign_Tuple_tuple (I.ok.hd hc) ht (by simp [hn,<- hl,rv.length]) hst fun h' hx=>?_
 have I1:Inv X pins σ H { s with heap:=h' }:=I.kept (t':=s.toks) fun b o e=>hx b o (Nat.ne_of_lt (Heap.lt_size e)) e
 exact h pins _ σ H xs _ Q I1 (by simpa using rv) hw
def gSub (to ti:TE) (t:TSet):TG:=fun v σ H Q=>to σ H fun o H1=>ti σ H1 fun i H2=>t o i v H2 fun H3=>Q σ H3
def pg_sub {o i:Expr} {to ti:TE} {t:TSet} (ho:PE X o to) (hi:PE X i ti) (hs:PSet X t)
  (ha:∀ v,assign (.Subscript o i pos) X.env v=(do
   let ov <- holding [v] (eval o X.env)
   let iv <- holding [v,ov] (eval i X.env)
   standAt pos
   holding [v,ov,iv] (setItem ov iv v)
   release [v,ov,iv] []):=by intro _; rfl):PG X (.Subscript o i pos) (gSub to ti t):=by
 intro pins s σ H v u Q I r h
 rw [ha]
 refine wpAny_bind (wpAny_holding (thn (ho pins s σ H _ I h) fun ov s1 ⟨x,H1,I1,r1,q1⟩=>?_))
 refine wpAny_bind (wpAny_holding (thn (hi pins s1 σ H1 _ I1 q1) fun iv s2 ⟨y,H2,I2,r2,q2⟩=>?_))
 refine wpAny_bind (wpAny_standAt (wpAny_bind (wpAny_holding (thn (hs pins s2 σ H2 x y v ov iv u _ I2 r1 r2 r q2) fun _ s3 ⟨H3,I3,q3⟩=>?_))))
 exact wpAny_release ⟨σ,H3,I3,q3⟩
def tAsg (te:TE) (g:TG):TS:=fun D σ H=>te σ H fun x H1=>g x σ H1 D.nx
def ps_asg {tg e:Expr} {te:TE} {g:TG} (he:PE X e te) (hg:PG X tg g) (hs:swapsWithSole [tg] e pos.line X.env=pure false:=by rfl) (hw:swappedStores [tg] e X.env=pure none:=by rfl)
  (h1:(assignEach [tg] X.env).map (·.2)=[assign tg X.env]:=by rfl):PS X (.Assign [tg] e pos) (tAsg te g):=by
 intro pins s σ H D I h
 refine wpAny_Assign_stores (thn (he pins s σ H _ I h) fun v s1 ⟨x,H1,I1,r1,q1⟩=>?_) hs hw
 rw [h1]
 exact thn (hg pins s1 σ H1 x v _ I1 r1 q1) fun _ s2 q=>q
def ps_set {i:Nat} {x:Str} {e:Expr} {te:TE} {pos':Pos} (hN:X.N.Nodup) (hi:X.N[i]?=some x) (hx:Loc X.env.scope x) (he:PE X e te) (hs:swapsWith e (some (.Name x pos')) pos.line X.env=pure false:=by rfl) (hf:X.fn x=true\/X.env.scope.names.lookup x=some .local:=by first | exact .inl rfl | exact .inr rfl | assumption) :
  PS X (.Assign [.Name x pos'] e pos) (tAsg te (gName i)):=by
 intro pins s σ H D I h
 refine wpAny_Assign_Name (thn (he pins s σ H _ I h) fun v s1 ⟨y,H1,I1,r1,q1⟩=>?_) hs
 exact store_ok I1 hN hi hx r1 (fun s2 I2=>⟨_,H1,I2,q1⟩) hf
def tPar (i j:Nat) (ta:TA):TS:=fun D σ H=>ta σ H fun vs H1=>∃ v w,vs=[v,w]/\D.nx ((σ.set i (some v)).set j (some w)) H1
def ps_par {i j:Nat} {x y:Str} {a b:Expr} {ta:TA} {px py pt:Pos} {kt k2 pt2} (hc:X.calm=true) (hN:X.N.Nodup) (hi:X.N[i]?=some x) (hj:X.N[j]?=some y) (hij:i≠j)
  (hx:X.env.scope.names.lookup x=some .local) (hy:X.env.scope.names.lookup y=some .local) (ha:PA X [a,b] ta)
  (hw:swappedStores [.Tuple [.Name x px,.Name y py] kt pt] (.Tuple [a,b] k2 pt2) X.env=pure (some [x,y]))
  (hs:swapsWithSole [.Tuple [.Name x px,.Name y py] kt pt] (.Tuple [a,b] k2 pt2) pos.line X.env=pure false:=by rfl) :
  PS X (.Assign [.Tuple [.Name x px,.Name y py] kt pt] (.Tuple [a,b] k2 pt2) pos) (tPar i j ta):=by
 intro pins s σ H D I h
 rw [exec_Assign_arm]
 refine wpAny_bind (wpAny_standAt ?_)
 rw [hs]
 refine wpAny_bind (wpAny_pure ?_)
 rw [if_neg (by decide)]
 refine wpAny_bind (Tuple_ (thn (ha _ pins s σ H _ I h) fun us s1 ⟨vs,H1,I1,r1,q1⟩=>?_))
 obtain ⟨v,w,e1,q1⟩:=q1
 subst e1
 obtain ⟨u1,u2,rfl,rv,rw'⟩:∃ u1 u2,us=[u1,u2]/\RelV v u1/\RelV w u2:=by
  cases r1 with
  | cons p q =>
   cases q with
   | cons p' q' =>
    cases q'
    exact ⟨_,_,rfl,p,p'⟩
 refine wpAny_newObj_type ?_ (by show 2<=sizeLine; decide)
 have I2:Inv X pins σ H1 { s1 with heap:=s1.heap.push { cls:=.type "tuple",data:=.seq [u1,u2].toArray } }:=I1.kept (t':=s1.toks) fun b o e=>Heap.get?_push_of_some _ e
 rw [hw]
 refine wpAny_bind (wpAny_pure ?_)
 show wpAny (model X.prog X.w) X.A (do rule "assign.swapped-stores"; let items <- unpackItems (.ref s1.heap.objs.size) 2 none; assignInOrder [fun v=>bindName X.env y v,fun v=>bindName X.env x v] items.reverse; pure Flow.next) _ _ _
 refine wpAny_bind (wpAny_rule (wpAny_bind (unpackItems_tuple (items:=#[u1,u2]) (I.ok.hd hc) (IsTup.new s1.heap _) fun h' hx'=>?_)))
 have I3:=I2.kept (h':=h') (t':=s1.toks) fun b o e=>hx' b o (Nat.ne_of_lt (Heap.lt_size e)) e
 show wpAny _ _ (assignInOrder [fun v=>bindName X.env y v,fun v=>bindName X.env x v] [u2,u1] >>= fun _=>pure Flow.next) _ _ _
 refine wpAny_bind (assignInOrder_cons (wpAny_bindName (store_ok I3 hN hj (.inl hy) rw' (fun s2 I4=>?_) (.inr hy))))
 refine assignInOrder_cons (wpAny_bindName (store_ok I4 hN hi (.inl hx) rv (fun s3 I5=>assignInOrder_nil (wpAny_pure ?_)) (.inr hx)))
 rw [List.set_comm _ _ (Ne.symm hij)] at I5
 exact ⟨_,H1,I5,q1⟩
def tAugS (to ti te:TE) (tget:V->V->Hp->VK->Prop) (tip:TIp) (tset:TSet):TS:=fun D σ H=>to σ H fun o H1=>ti σ H1 fun i H2=>tget o i H2 fun x H3=>te σ H3 fun y H4=>tip x y H4 fun z H5=>tset o i z H5 fun H6=>D.nx σ H6
def PGet (X:Cx) (t:V->V->Hp->VK->Prop):Prop :=
 ∀ (pins:List (Addr×Obj)) (s:Shared) (σ:St) (H:Hp) (o i:V) (ov iv:Value) (Q:VK),Inv X pins σ H s->RelV o ov->RelV i iv->t o i H Q ->
  wpAny (model X.prog X.w) X.A (getItem ov iv) (EP X pins σ Q) X.xe s
def ps_augS {o i e:Expr} {to ti te:TE} {tget:V->V->Hp->VK->Prop} {tip:TIp} {tset:TSet} {op:Operator} {tpos:Pos} (ho:PE X o to) (hi:PE X i ti) (hg:PGet X tget) (he:PE X e te) (hp:PIp X op tip) (hs:PSet X tset)
  (ha:∀ ov iv new,augStore i ov iv new=(do holding [new,ov,iv] (setItem ov iv new); release [new,ov,iv] []; pure .next):=by intros; rfl):PS X (.AugAssign (.Subscript o i tpos) op e pos) (tAugS to ti te tget tip tset):=by
 intro pins s σ H D I h
 refine wpAny_AugAssign_SubscriptAny (thn (ho pins s σ H _ I h) fun ov s1 ⟨x1,H1,I1,r1,q1⟩=>?_) ha
 refine thn (hi pins s1 σ H1 _ I1 q1) fun iv s2 ⟨x2,H2,I2,r2,q2⟩=>?_
 refine thn (hg pins s2 σ H2 x1 x2 ov iv _ I2 r1 r2 q2) fun old s3 ⟨x3,H3,I3,r3,q3⟩=>?_
 refine thn (he pins s3 σ H3 _ I3 q3) fun v s4 ⟨x4,H4,I4,r4,q4⟩=>?_
 refine thn (hp pins s4 σ H4 x3 x4 old v _ I4 r3 r4 q4) fun new s5 ⟨x5,H5,I5,r5,q5⟩=>?_
 exact thn (hs pins s5 σ H5 x1 x2 x5 ov iv new _ I5 r1 r2 r5 q5) fun _ s6 ⟨H6,I6,q6⟩=>⟨σ,H6,I6,q6⟩
def ipI (f:Int->Int->Int):TIp:=fun x y H Q=>∃ i j,x=.int i/\y=.int j/\Q (.int (f i j)) H
def ip_add:PIp X .Add (ipI fun i j=>i + j):=by
 intro pins s σ H x y v u Q I r1 r2 h
 obtain ⟨i,j,e1,e2,q⟩:=h
 subst e1; subst e2
 obtain ⟨t,rfl⟩:=r1
 obtain ⟨t',rfl⟩:=r2
 exact iadd_int ⟨.int _,H,I.tok _,⟨_,rfl⟩,q⟩
end
section
variable {X:Cx} {pos:Pos}
def tWhile (c:TT) (tb:TS):TS:=fun D σ H=>∃ W:Nat->St->Hp->Prop,(∃ m,W m σ H)/\∀ m σ H,W m σ H ->
 c σ H fun b H1=>if b=true then ∃ N:St->Hp->Prop,(∀ σ' H',N σ' H'->∃ m',m' < m/\W m' σ' H')/\tb { D with nx:=N,ct:=N,bk:=D.nx } σ H1 else D.nx σ H1
theorem ps_while {c:Expr} {body:List Stmt} {tc:TT} {tb:TS} (hp:PassesOwn (model X.prog X.w) X.A X.env X.xe) (hc:PT X c tc) (hb:PSs X body tb):PS X (.While c body [] pos) (tWhile tc tb):=by
 intro pins s σ H D I h
 obtain ⟨W,⟨m0,w0⟩,turn⟩:=h
 refine wpAny_While (codeAny_whileLoop (fun n s'=>∃ σ' H',Inv X pins σ' H' s'/\W n σ' H') ?_ m0 ⟨σ,H,I,w0⟩)
 rintro n s1 ⟨σ1,H1,I1,w1⟩
 refine wpAny_passesOwn hp (thn (hc pins s1 σ1 H1 _ I1 (turn n σ1 H1 w1)) fun b s2 ⟨H2,I2,q2⟩=>?_)
 cases b with
 | true =>
  obtain ⟨N,hN,q2⟩:=q2
  rw [if_pos rfl]
  refine wpAny_passesOwn hp (thn (hb pins s2 σ1 H2 _ I2 q2) fun f s3 q3=>?_)
  cases f with
  | next =>
   obtain ⟨σ3,H3,I3,n3⟩:=q3
   obtain ⟨m',hm,w3⟩:=hN σ3 H3 n3
   exact ⟨m',hm,σ3,H3,I3,w3⟩
  | cont =>
   obtain ⟨σ3,H3,I3,n3⟩:=q3
   obtain ⟨m',hm,w3⟩:=hN σ3 H3 n3
   exact ⟨m',hm,σ3,H3,I3,w3⟩
  | brk=>exact q3
  | ret v=>exact q3
 | false =>
  rw [if_neg Bool.false_ne_true]
  exact wpAny_execs_nil ⟨σ1,H2,I2,q2⟩
end
structure It where
 go:Nat->Hp->Prop
 yld:Nat->Hp->V->Hp->Prop
 stop:Nat->Hp->Prop
def FpOk (X:Cx) (pins:List (Addr×Obj)) (H:Hp) (b:Addr):Prop :=
 H b=none/\b≠X.env.locals/\b∉X.fs/\(b∈X.ex\/X.s₀.heap.objs.size<=b)/\(∀ x c,X.env.cells.lookup x=some c->c≠b)/\∀ p∈X.pn++pins,p.1≠b
def Inv.fpOk {X:Cx} {pins:List (Addr×Obj)} {σ:St} {H H':Hp} {s:Shared} {b:Addr} (I:Inv X pins σ H s) (hb:s.heap.objs.size<=b) (hn:H' b=none):FpOk X pins H' b:=by
 refine ⟨hn,Nat.ne_of_gt (Nat.lt_of_lt_of_le I.lt hb),I.nofs hb,.inr (Nat.le_trans I.sz hb),fun x c e z=>?_,fun p hp z=>?_⟩
 ·obtain ⟨v,q⟩:=I.cell x c e
  exact absurd (Nat.lt_of_lt_of_le q.lt (by rw [z]; exact hb)) (Nat.lt_irrefl _)
 ·exact absurd (Nat.lt_of_lt_of_le (Heap.lt_size (I.pin p hp).1) (by rw [z]; exact hb)) (Nat.lt_irrefl _)
structure Turn (P:Program) (w:World) (K:W.Frag) (tg:Expr) (J:It) (fp:List Addr) (it:Addr) (tn:Nat->Heap->Prop):Prop where
 mem:it∈fp
 obj:∀ i h,tn i h->∀ b∈fp,∃ o,h.get? b=some o/\∀ v,o.data≠.cell v
 keep:∀ i h h',tn i h->(∀ b∈fp,∀ o,h.get? b=some o->h'.get? b=some o)->tn i h'
 item:∀ (X:Cx),X.prog=P->X.w=w->X.K=K->X.calm=true->∀ (i:Nat) (pins:List (Addr×Obj)) (s:Shared) (σ:St) (H:Hp) (E:Value->Shared->Prop),Inv X pins σ H s->(∀ b∈fp,FpOk X pins H b)->tn i s.heap->J.go i H ->
  wpAny (model P w) X.A (pyNext (.ref it)) (fun r s1=>∃ u,r=some u /\
   wpAny (model P w) X.A (letOwnedTupleGo tg (.ref it) u) (fun _ s2=>∃ x H',Inv X pins σ H' s2/\RelV x u/\J.yld i H x H'/\tn (i + 1) s2.heap/\∀ b∈fp,H' b=none) E s1) E s
 done:∀ (X:Cx),X.prog=P->X.w=w->X.K=K->X.calm=true->∀ (i:Nat) (pins:List (Addr×Obj)) (s:Shared) (σ:St) (H:Hp) (E:Value->Shared->Prop),Inv X pins σ H s->(∀ b∈fp,FpOk X pins H b)->tn i s.heap->J.stop i H ->
  wpAny (model P w) X.A (pyNext (.ref it)) (fun r s1=>r=none/\Inv X pins σ H s1) E s
 self:∀ (A:Around) (i:Nat) (s:Shared) (Q:Value->Shared->Prop) (E:Value->Shared->Prop),tn i s.heap->Q (.ref it) s->wpAny (model P w) A (pyIter (.ref it)) Q E s
abbrev TI:=St->Hp->(It->Hp->Prop)->Prop
def PIE (X:Cx) (pins:List (Addr×Obj)) (σ:St) (tg:Expr) (R:It->Hp->Prop) (itv:Value) (s2:Shared):Prop :=
 ∃ (it:Addr) (fp:List Addr) (tn:Nat->Heap->Prop) (J:It) (H':Hp),itv=.ref it/\Inv X pins σ H' s2/\Turn X.prog X.w X.K tg J fp it tn/\tn 0 s2.heap/\(∀ b∈fp,FpOk X pins H' b)/\R J H'
def PI (X:Cx) (tg iter:Expr) (wi:TI):Prop :=
 ∀ (pins:List (Addr×Obj)) (s:Shared) (σ:St) (H:Hp) (R:It->Hp->Prop),Inv X pins σ H s->wi σ H R ->
  wpAny (model X.prog X.w) X.A (eval iter X.env) (fun v s1=>wpAny (model X.prog X.w) X.A (pyIter v) (PIE X pins σ tg R) X.xe s1) X.xe s
def go_of {M:Model} {A:Around} {E:Value->Shared->Prop} {s:Shared} {tg:Expr} {it:Addr} {u:Value} {o:Obj} {n:String} {vs:Array Value} {Q:Unit->Shared->Prop} (ho:s.heap.get? it=some o) (hc:o.cls=.type n) (hd:o.data=.fields vs)
    (hn:["enumerate", "zip", "dict_itemiterator", "dict_reverseitemiterator", "odict_iterator", "itertools.zip_longest", "itertools.pairwise"].contains n=false) (hQ:Q () s):wpAny M A (letOwnedTupleGo tg (.ref it) u) Q E s:=by
  unfold letOwnedTupleGo
  cases tg <;> first
    | exact wpAny_pure hQ
    | (cases u <;> first
        | exact wpAny_pure hQ
        | (refine wpAny_bind (wpAny_load ho ?_)
           rw [hc,hd]
           show wpAny M A (if (["enumerate", "zip", "dict_itemiterator", "dict_reverseitemiterator", "odict_iterator", "itertools.zip_longest", "itertools.pairwise"].contains n && vs[0]? == some (rawInt _))=true then _ else _) Q E s
           rw [if_neg (by intro h; rw [hn,Bool.false_and] at h; cases h)]
           exact wpAny_pure hQ))
def Itl (K:W.Frag) (a:Addr):It :=
 ⟨fun i H=>∃ xs x,SqL K H a xs/\xs[i]?=some x,fun i H x H'=>H'=H/\∀ xs,SqL K H a xs->xs[i]?=some x,fun i H=>∃ xs,SqL K H a xs/\xs.length<=i⟩
def Itr (lo:Int) (n:Nat):It:=⟨fun i _=>i < n,fun i H x H'=>H'=H/\x=.int (lo + i),fun i _=>n<=i⟩
theorem turn_list {P:Program} {w:World} {K:W.Frag} {tg:Expr} (a it:Addr):Turn P w K tg (Itl K a) [it] it (fun i h=>h.IsListIter it a i) where
 mem:=by simp
 obj:=fun i h st b hb=>by
  have e:b=it:=by simpa using hb
  subst e
  obtain ⟨o,e,c,d⟩:=st
  exact ⟨o,e,fun v z=>by rw [d] at z; cases z⟩
 keep:=fun i h h' st k=>st.at fun o e=>k it (by simp) o e
 item:=by
  intro X hP hw hK hc i pins s σ H E I hf st hg
  subst hP hw hK
  obtain ⟨xs,x,hq,hx⟩:=hg
  obtain ⟨its,rv,p,hz⟩:=I.list hq
  obtain ⟨u,hu,ru⟩:=rv.get hx
  obtain ⟨f0,f1,f2,f3,f4,f5⟩:=hf it (by simp)
  refine wpAny_pyNext_list_item st p.isList (x:=u) (by simpa using hu) fun h' st' sb=>?_
  have I1:Inv X pins σ H { s with heap:=h' }:=I.turned (t':=s.toks) (fun b o hb e=>(sb.2 b hb).trans e) f0 f1 f3 f4 f5
  obtain ⟨o,e,c,d⟩:=id st'
  exact ⟨u,rfl,go_of (s:={ s with heap:=h' }) e c d (by decide) ⟨x,H,I1,ru,⟨rfl,fun ys hy=>by rw [I.list_inj hy hq]; exact hx⟩,st',fun b hb=>(hf b hb).1⟩⟩
 done:=by
  intro X hP hw hK hc i pins s σ H E I hf st hg
  subst hP hw hK
  obtain ⟨xs,hq,hx⟩:=hg
  obtain ⟨its,rv,p,hz⟩:=I.list hq
  obtain ⟨f0,f1,f2,f3,f4,f5⟩:=hf it (by simp)
  have hl:=rv.length
  exact wpAny_pyNext_list_end (I.ok.hd hc) st p.isList (by simp; omega) fun h' eb=>⟨rfl,I.turned (t':=s.toks) (fun b o hb e=>eb b o hb e) f0 f1 f3 f4 f5⟩
 self:=fun _ _ _ _ _ st h=>wpAny_pyIter_listiter st h
theorem turn_range {P:Program} {w:World} {K:W.Frag} {tg:Expr} (it:Addr) (lo:Int) (n:Nat):Turn P w K tg (Itr lo n) [it] it (fun i h=>IsRangeIter h it (lo + (i:Nat) * 1) ((n:Int) - (i:Nat)) 1) where
 mem:=by simp
 obj:=fun i h st b hb=>by
  have e:b=it:=by simpa using hb
  subst e
  exact ⟨_,st,fun v z=>by
   have z':Data.fields _=Data.cell v:=z
   cases z'⟩
 keep:=fun i h h' st k=>k it (by simp) _ st
 item:=by
  intro X hP hw hK hc i pins s σ H E I hf st hg
  subst hP hw hK
  obtain ⟨f0,f1,f2,f3,f4,f5⟩:=hf it (by simp)
  have W:=Walks.range (prog:=X.prog) (w:=X.w) (I.ok.hd hc) it lo 1 n
  refine W.item i s _ _ hg st fun v h' tk hv st' kk=>?_
  obtain ⟨t,rfl⟩:=hv
  have I1:Inv X pins σ H { s with heap:=h',toks:=tk }:=I.turned (fun b o hb e=>kk b o (by simpa using hb) e) f0 f1 f3 f4 f5
  refine ⟨_,rfl,go_of (s:={ s with heap:=h',toks:=tk }) (n:="range_iterator") st' rfl rfl (by decide) ⟨.int (lo + i),H,I1,⟨t,?_⟩,⟨rfl,rfl⟩,st',fun b hb=>(hf b hb).1⟩⟩
  rw [Int.mul_one]
 done:=by
  intro X hP hw hK hc i pins s σ H E I hf st hg
  subst hP hw hK
  obtain ⟨f0,f1,f2,f3,f4,f5⟩:=hf it (by simp)
  exact wpAny_pyNext_range_end (I.ok.hd hc) st (by have:n<=i:=hg; omega) fun h' eb=>⟨rfl,I.turned (t':=s.toks) (fun b o hb e=>eb b o hb e) f0 f1 f3 f4 f5⟩
 self:=fun _ _ _ _ _ st h=>wpAny_pyIter_rangeiter st h
section
variable {X:Cx} {tg:Expr}
def iList (K:W.Frag) (tl:TE):TI:=fun σ H R=>tl σ H fun x H1=>∃ a,x=.ref a/\(∃ xs,SqL K H1 a xs)/\R (Itl K a) H1
def pi_list {l:Expr} {tl:TE} (hl:PE X l tl):PI X tg l (iList X.K tl):=by
 intro pins s σ H R I h
 refine thn (hl pins s σ H _ I h) fun v s1 ⟨x,H1,I1,r1,q1⟩=>?_
 obtain ⟨a,e,⟨xs,hq⟩,q⟩:=q1
 subst e
 cases r1
 obtain ⟨its,rv,p,hz⟩:=I1.list hq
 refine wpAny_pyIter_list p.isList ?_
 refine ⟨s1.heap.objs.size,[s1.heap.objs.size],_,_,H1,rfl,I1.kept (t':=s1.toks) fun b o e=>Heap.get?_push_of_some _ e,turn_list a _,⟨_,Heap.get?_push_size _ rfl,rfl,rfl⟩,fun b hb=>?_,q⟩
 have e:b=s1.heap.objs.size:=by simpa using hb
 subst e
 exact I1.fpOk (Nat.le_refl _) (I1.hok.fresh (Nat.le_refl _))
theorem range_it {pins:List (Addr×Obj)} {σ:St} {H:Hp} {s:Shared} {R:It->Hp->Prop} {E:Value->Shared->Prop} {lo hi:Int} {t u v:Tok} {tk:Nat} (I:Inv X pins σ H s) (h1:-(2 ^ 62)<=lo) (h2:lo < 2 ^ 62) (h3:-(2 ^ 62)<=hi) (h4:hi < 2 ^ 62)
  (q:R (Itr lo (hi - lo).toNat) H):wpAny (model X.prog X.w) X.A (pyIter (.ref s.heap.objs.size)) (PIE X pins σ tg R) E { s with heap:=s.heap.push { cls:=.type "range",data:=.fields #[.int lo t,.int hi u,.int 1 v] },toks:=tk }:=by
 refine wpAny_pyIter_range (IsRange.new ..) (small_one h1 h2 h3 h4) ?_
 have I1:Inv X pins σ H { s with heap:=s.heap.push { cls:=.type "range",data:=.fields #[.int lo t,.int hi u,.int 1 v] },toks:=tk }:=I.kept fun b o e=>Heap.get?_push_of_some _ e
 refine ⟨(s.heap.push { cls:=.type "range",data:=.fields #[.int lo t,.int hi u,.int 1 v] }).objs.size,[(s.heap.push { cls:=.type "range",data:=.fields #[.int lo t,.int hi u,.int 1 v] }).objs.size],_,_,H,rfl,
  I1.kept (t':=tk) fun b o e=>Heap.get?_push_of_some _ e,turn_range _ lo (hi - lo).toNat,?_,fun b hb=>?_,q⟩
 ·have e1:lo + ((0:Nat):Int) * 1=lo:=by simp
  have e2:(((hi - lo).toNat:Nat):Int) - ((0:Nat):Int)=Builtin.Range.rangeSize lo hi 1:=by rw [rangeSize_one]; split <;> omega
  show IsRangeIter _ _ (lo + ((0:Nat):Int) * 1) ((((hi - lo).toNat:Nat):Int) - ((0:Nat):Int)) 1
  rw [e1,e2]
  exact Heap.get?_push_size _ rfl
 ·have e:b=(s.heap.push { cls:=.type "range",data:=.fields #[.int lo t,.int hi u,.int 1 v] }).objs.size:=by simpa using hb
  subst e
  exact I1.fpOk (Nat.le_refl _) (I1.hok.fresh (Nat.le_refl _))
def iRng1 (ta:TA):TI:=fun σ H R=>ta σ H fun vs H1=>∃ j:Int,vs=[.int j]/\-(2 ^ 62)<=j/\j < 2 ^ 62/\R (Itr 0 j.toNat) H1
def iRng2 (ta:TA):TI:=fun σ H R=>ta σ H fun vs H1=>∃ i j:Int,vs=[.int i,.int j]/\(-(2 ^ 62)<=i/\i < 2 ^ 62/\-(2 ^ 62)<=j/\j < 2 ^ 62)/\R (Itr i (j - i).toNat) H1
theorem pi_range1 {a:Expr} {ta:TA} {p pos:Pos} (hg:Gl X "range") (hm:X.mg "range"=none) (ha:PA X [a] ta) (hs:starEach [a] X.env=[(false,eval a X.env)]:=by rfl):PI X tg (.Call (.Name "range" p) [a] [] pos) (iRng1 ta):=by
 intro pins s σ H R I h
 refine Call_ (ld_blt I hg hm boot_range (PyProof.Rows.callWith_type1 (thn (ha pos pins s σ H _ I h) fun us s1 ⟨vs,H1,I1,r1,q1⟩=>?_) hs rfl))
 obtain ⟨j,e,q1,q2,q⟩:=q1
 subst e
 cases r1 with
 | cons r rr =>
  cases rr
  obtain ⟨t,rfl⟩:=r
  exact call_range_1 (range_it I1 (by omega) (by omega) q1 q2 (by simpa using q))
theorem pi_range2 {a b:Expr} {ta:TA} {p pos:Pos} (hg:Gl X "range") (hm:X.mg "range"=none) (ha:PA X [a,b] ta) (hs:starEach [a,b] X.env=[(false,eval a X.env),(false,eval b X.env)]:=by rfl) (hs2:starEach [b] X.env=[(false,eval b X.env)]:=by rfl) :
  PI X tg (.Call (.Name "range" p) [a,b] [] pos) (iRng2 ta):=by
 intro pins s σ H R I h
 refine Call_ (ld_blt I hg hm boot_range (PyProof.Rows.callWith_type1 (thn (ha pos pins s σ H _ I h) fun us s1 ⟨vs,H1,I1,r1,q1⟩=>?_) (by rw [hs,hs2]) (by rw [hs2]; rfl)))
 obtain ⟨i,j,e,⟨q1,q2,q3,q4⟩,q⟩:=q1
 subst e
 cases r1 with
 | cons r rr =>
  cases rr with
  | cons r' rr =>
   cases rr
   obtain ⟨t,rfl⟩:=r
   obtain ⟨t',rfl⟩:=r'
   exact call_range_2 (range_it I1 q1 q2 q3 q4 q)
def tFor (wi:TI) (g:TG) (tb:TS):TS:=fun D σ H=>wi σ H fun J H1=>∃ W:Nat->Nat->St->Hp->Prop,(∃ m,W 0 m σ H1)/\∀ i m σ H,W i m σ H ->
 (J.stop i H/\D.nx σ H)\/(J.go i H/\∃ N:St->Hp->Prop,(∀ σ' H',N σ' H'->∃ m',m' < m/\W (i + 1) m' σ' H')/\∀ x H',J.yld i H x H'->g x σ H' fun σ2 H2=>tb { D with nx:=N,ct:=N,bk:=D.nx } σ2 H2)
def pinsAt (fp:List Addr) (h:Heap):List (Addr×Obj):=fp.filterMap fun b=>(h.get? b).map fun o=>(b,o)
def mem_pinsAt {fp:List Addr} {h:Heap} {b:Addr} {o:Obj} (hb:b∈fp) (e:h.get? b=some o):(b,o)∈pinsAt fp h:=List.mem_filterMap.mpr ⟨b,hb,by rw [e]; rfl⟩
theorem of_pinsAt {fp:List Addr} {h:Heap} {p:Addr×Obj} (hp:p∈pinsAt fp h):p.1∈fp/\h.get? p.1=some p.2:=by
 obtain ⟨b,hb,e⟩:=List.mem_filterMap.mp hp
 cases q:h.get? b with
 | none=>rw [q] at e; cases e
 | some o =>
  rw [q] at e
  have e':(b,o)=p:=Option.some.inj e
  subst e'
  exact ⟨hb,q⟩
def Inv.pinned {pins:List (Addr×Obj)} {σ:St} {H:Hp} {s:Shared} {fp:List Addr} (I:Inv X pins σ H s) (hf:∀ b∈fp,FpOk X pins H b) (ho:∀ b∈fp,∃ o,s.heap.get? b=some o/\∀ v,o.data≠.cell v):Inv X (pins++pinsAt fp s.heap) σ H s :=
 I.pins_of fun p hp=>(List.mem_append.mp hp).elim (fun z=>I.pin p (List.mem_append_right _ z)) fun z=>by
  obtain ⟨hb,e⟩:=of_pinsAt z
  obtain ⟨f0,f1,f2,_⟩:=hf p.1 hb
  obtain ⟨o,e',d⟩:=ho p.1 hb
  rw [e] at e'; cases e'
  exact ⟨e,f0,f1,f2,d⟩
def Inv.unpinned {pins pl:List (Addr×Obj)} {σ:St} {H:Hp} {s:Shared} (I:Inv X (pins++pl) σ H s):Inv X pins σ H s:=I.pins_of fun p hp=>I.pin p (List.mem_append_right _ (List.mem_append_left _ hp))
def ps_for {iter:Expr} {body:List Stmt} {wi:TI} {g:TG} {tb:TS} {pos:Pos} (hp:PassesOwn (model X.prog X.w) X.A X.env X.xe) (hc:X.calm=true) (hi:PI X tg iter wi) (hg:PG X tg g) (hb:PSs X body tb)
  (hs:∀ x,foldedSetIterable iter X.env x=pure x:=by intro _; rfl):PS X (.For tg iter body [] pos) (tFor wi g tb):=by
 intro pins s σ H D I h
 refine wpAny_For (thn (hi pins s σ H _ I h) fun v s1 h1=>thn h1 fun itv s2 h2=>?_) hs
 obtain ⟨it,fp,tn,J,H2,e,I2,T,st2,f2,W,⟨m0,w0⟩,turn⟩:=h2
 subst e
 have stat:∀ {H':Hp},(∀ b∈fp,H' b=none)->∀ b∈fp,FpOk X pins H' b:=fun hn b hb=>⟨hn b hb,(f2 b hb).2⟩
 refine codeAny_forLoop_any (fun n s'=>∃ i σ' H',Inv X pins σ' H' s'/\tn i s'.heap/\(∀ b∈fp,H' b=none)/\W i n σ' H') ?_ m0 ⟨0,σ,H2,I2,st2,fun b hb=>(f2 b hb).1,w0⟩
 rintro n s3 ⟨i,σ3,H3,I3,st3,fr3,w3⟩
 rcases turn i n σ3 H3 w3 with ⟨stop,qn⟩ | ⟨go,N,hN,step⟩
 ·refine wpAny_passesOwn hp (thn (T.done X rfl rfl rfl hc i pins s3 σ3 H3 X.xe I3 (stat fr3) st3 stop) fun r s4 ⟨hr,I4⟩=>?_)
  subst hr
  exact wpAny_execs_nil ⟨σ3,H3,I4,qn⟩
 ·refine wpAny_passesOwn hp (thn (T.item X rfl rfl rfl hc i pins s3 σ3 H3 X.xe I3 (stat fr3) st3 go) fun r s4 ⟨u,hr,h4⟩=>?_)
  subst hr
  refine wpAny_passesOwn hp (thn h4 fun _ s5 ⟨x,H5,I5,r5,y5,st5,fr5⟩=>?_)
  have I5':=I5.pinned (stat fr5) (T.obj _ _ st5)
  refine wpAny_passesOwn hp (thn (hg _ s5 σ3 H5 x u _ I5' r5 (step x H5 y5)) fun _ s6 ⟨σ6,H6,I6,q6⟩=>?_)
  refine wpAny_passesOwn hp (thn (hb _ s6 σ6 H6 _ I6 q6) fun f s7 q7=>?_)
  have again:∀ {σ7:St} {H7:Hp},Inv X (pins++pinsAt fp s5.heap) σ7 H7 s7->N σ7 H7->∃ m,m < n/\∃ i σ' H',Inv X pins σ' H' s7/\tn i s7.heap/\(∀ b∈fp,H' b=none)/\W i m σ' H':=fun {σ7 H7} I7 n7=>by
   obtain ⟨m',hm,w7⟩:=hN σ7 H7 n7
   refine ⟨m',hm,i + 1,σ7,H7,I7.unpinned,T.keep _ _ _ st5 fun b hb o e=>(I7.pin (b,o) (List.mem_append_right _ (List.mem_append_right _ (mem_pinsAt hb e)))).1,fun b hb=>?_,w7⟩
   obtain ⟨o,e,d⟩:=T.obj _ _ st5 b hb
   exact (I7.pin (b,o) (List.mem_append_right _ (List.mem_append_right _ (mem_pinsAt hb e)))).2.1
  cases f with
  | next=>obtain ⟨σ7,H7,I7,n7⟩:=q7; exact again I7 n7
  | cont=>obtain ⟨σ7,H7,I7,n7⟩:=q7; exact again I7 n7
  | brk=>obtain ⟨σ7,H7,I7,q7⟩:=q7; exact ⟨σ7,H7,I7.unpinned,q7⟩
  | ret v=>obtain ⟨x7,σ7,H7,I7,r7,q7⟩:=q7; exact ⟨x7,σ7,H7,I7.unpinned,r7,q7⟩
end
theorem for_range {lo:Int} {n:Nat} {g:TG} {tb:TS} {D:Ends} {σ:St} {H:Hp} (Pv:Nat->St->Hp->Prop) (h0:Pv 0 σ H)
  (hs:∀ i σ H,i < n->Pv i σ H->g (.int (lo + i)) σ H fun σ2 H2=>tb { D with nx:=Pv (i + 1),ct:=Pv (i + 1),bk:=D.nx } σ2 H2) (hd:∀ σ H,Pv n σ H->D.nx σ H) :
  ∃ W:Nat->Nat->St->Hp->Prop,(∃ m,W 0 m σ H)/\∀ i m σ H,W i m σ H ->
   ((Itr lo n).stop i H/\D.nx σ H)\/((Itr lo n).go i H/\∃ N:St->Hp->Prop,(∀ σ' H',N σ' H'->∃ m',m' < m/\W (i + 1) m' σ' H')/\∀ x H',(Itr lo n).yld i H x H'->g x σ H' fun σ2 H2=>tb { D with nx:=N,ct:=N,bk:=D.nx } σ2 H2):=by
 refine ⟨fun i m σ H=>m=n - i/\i<=n/\Pv i σ H,⟨n,by simp,Nat.zero_le _,h0⟩,?_⟩
 rintro i m σ H ⟨rfl,hi,p⟩
 by_cases hlt:i < n
 ·refine .inr ⟨hlt,Pv (i + 1),fun σ' H' p'=>⟨n - (i + 1),by omega,rfl,hlt,p'⟩,fun x H' y=>?_⟩
  obtain ⟨e,y⟩:=y
  subst e y
  exact hs i σ _ hlt p
 ·have e:i=n:=by omega
  subst e
  exact .inl ⟨Nat.le_refl _,hd σ H p⟩
abbrev R2:=V->V->Hp->VK->Prop
def OpR (X:Cx) (f:Value->Value->Sem Value) (r:R2):Prop :=
 ∀ (pins:List (Addr×Obj)) (s:Shared) (σ:St) (H:Hp) (x y:V) (v u:Value) (Q:VK),Inv X pins σ H s->RelV x v->RelV y u->r x y H Q ->
  wpAny (model X.prog X.w) X.A (f v u) (EP X pins σ Q) X.xe s
def UnR (X:Cx) (f:Value->Sem Value) (r:V->Hp->VK->Prop):Prop :=
 ∀ (pins:List (Addr×Obj)) (s:Shared) (σ:St) (H:Hp) (x:V) (v:Value) (Q:VK),Inv X pins σ H s->RelV x v->r x H Q ->
  wpAny (model X.prog X.w) X.A (f v) (EP X pins σ Q) X.xe s
def CallR (X:Cx) (f:Value) (r:List V->Hp->VK->Prop):Prop :=
 ∀ (pins:List (Addr×Obj)) (s:Shared) (σ:St) (H:Hp) (xs:List V) (us:List Value) (Q:VK),Inv X pins σ H s->Vals xs us->r xs H Q ->
  wpAny (model X.prog X.w) X.A (call f us) (EP X pins σ Q) X.xe s
def tOp (r:R2) (ta tb:TE):TE:=fun σ H Q=>ta σ H fun x H1=>tb σ H1 fun y H2=>r x y H2 Q
def tUn (r:V->Hp->VK->Prop) (ta:TE):TE:=fun σ H Q=>ta σ H fun x H1=>r x H1 Q
def rI (C:Int->Int->Prop) (g:Int->Int->V):R2:=fun x y H Q=>∃ i j,x=.int i/\y=.int j/\C i j/\Q (g i j) H
def rI0 (g:Int->Int->V):R2:=fun x y H Q=>∃ i j,x=.int i/\y=.int j/\Q (g i j) H
def rU (g:Int->V):V->Hp->VK->Prop:=fun x H Q=>∃ i,x=.int i/\Q (g i) H
section
variable {X:Cx} {a b:Expr} {ta tb:TE} {pos:Pos}
def binT (ha:PE X a ta) (hb:PE X b tb) {pins:List (Addr×Obj)} {s:Shared} {σ:St} {H:Hp} {R:V->V->Hp->Prop} (I:Inv X pins σ H s)
  (h:ta σ H fun x H1=>tb σ H1 fun y H2=>R x y H2) {Q:Value->Shared->Prop} {f:Value->Value->Sem Value}
  (hf:∀ v u s2 x y H2,Inv X pins σ H2 s2->RelV x v->RelV y u->R x y H2->wpAny (model X.prog X.w) X.A (f v u) Q X.xe s2) :
  wpAny (model X.prog X.w) X.A (eval a X.env) (fun v s₁=>wpAny (model X.prog X.w) X.A (eval b X.env) (fun u s₂=>wpAny (model X.prog X.w) X.A (f v u) Q X.xe s₂) X.xe s₁) X.xe s:=by
 refine thn (ha pins s σ H _ I h) fun v s1 ⟨x,H1,I1,r1,q1⟩=>?_
 refine thn (hb pins s1 σ H1 _ I1 q1) fun u s2 ⟨y,H2,I2,r2,q2⟩=>?_
 exact hf v u s2 x y H2 I2 r1 r2 q2
def pe_op {op:Operator} {r:R2} (ho:OpR X (binaryOp op) r) (ha:PE X a ta) (hb:PE X b tb):PE X (.BinOp a op b pos) (tOp r ta tb):=by
 intro pins s σ H Q I h
 exact wpAny_BinOp (binT ha hb I h fun v u s2 x y H2 I2 rx ry q=>ho pins s2 σ H2 x y v u Q I2 rx ry q)
def pe_un {op:UnaryOp} {r:V->Hp->VK->Prop} (ho:UnR X (unaryOp op) r) (ha:PE X a ta):PE X (.UnaryOp op a pos) (tUn r ta):=by
 intro pins s σ H Q I h
 exact UnaryOp_ (thn (ha pins s σ H _ I h) fun v s1 ⟨x,H1,I1,r1,q1⟩=>ho pins s1 σ H1 x v Q I1 r1 q1)
def opI {f:Value->Value->Sem Value} {C:Int->Int->Prop} {g:Int->Int->Int}
  (rule:∀ (i j:Int) (t u:Tok) (s:Shared) (Q:Value->Shared->Prop) (E:Value->Shared->Prop),C i j->Q (.int (g i j) s.toks) { s with toks:=s.toks + 1 }->wpAny (model X.prog X.w) X.A (f (.int i t) (.int j u)) Q E s) :
  OpR X f (rI C fun i j=>.int (g i j)):=by
 intro pins s σ H x y v u Q I rx ry h
 obtain ⟨i,j,rfl,rfl,hc,q⟩:=h
 obtain ⟨t,rfl⟩:=rx
 obtain ⟨t',rfl⟩:=ry
 exact rule i j t t' s _ _ hc ⟨.int (g i j),H,I.tok _,⟨_,rfl⟩,q⟩
def opI0 {f:Value->Value->Sem Value} {g:Int->Int->Int}
  (rule:∀ (i j:Int) (t u:Tok) (s:Shared) (Q:Value->Shared->Prop) (E:Value->Shared->Prop),Q (.int (g i j) s.toks) { s with toks:=s.toks + 1 }->wpAny (model X.prog X.w) X.A (f (.int i t) (.int j u)) Q E s) :
  OpR X f (rI0 fun i j=>.int (g i j)):=by
 intro pins s σ H x y v u Q I rx ry h
 obtain ⟨i,j,rfl,rfl,q⟩:=h
 obtain ⟨t,rfl⟩:=rx
 obtain ⟨t',rfl⟩:=ry
 exact rule i j t t' s _ _ ⟨.int (g i j),H,I.tok _,⟨_,rfl⟩,q⟩
def opB0 {f:Value->Value->Sem Value} {g:Int->Int->Bool}
  (rule:∀ (i j:Int) (t u:Tok) (s:Shared) (Q:Value->Shared->Prop) (E:Value->Shared->Prop),Q (.bool (g i j)) s->wpAny (model X.prog X.w) X.A (f (.int i t) (.int j u)) Q E s) :
  OpR X f (rI0 fun i j=>.bl (g i j)):=by
 intro pins s σ H x y v u Q I rx ry h
 obtain ⟨i,j,rfl,rfl,q⟩:=h
 obtain ⟨t,rfl⟩:=rx
 obtain ⟨t',rfl⟩:=ry
 exact rule i j t t' s _ _ ⟨.bl (g i j),H,I,rfl,q⟩
def CDiv (i j:Int):Prop:=0 < j/\j < 1073741824
def CPow (i j:Int):Prop:=0<=j/\j<=1000000/\i.natAbs < 2 ^ 64
def CMul (i j:Int):Prop:=(-(2 ^ 64) < i/\i < 2 ^ 64)\/(-(2 ^ 64) < j/\j < 2 ^ 64)
def CMul.ok {i j:Int} (h:CMul i j):IntMulOk i j:=by
 rcases h with ⟨h1,h2⟩ | ⟨h1,h2⟩
 ·exact .of_left (intBits_le_64 h1 h2)
 ·exact .of_right (intBits_le_64 h1 h2)
def op_add:OpR X (binaryOp .Add) (rI0 fun i j=>.int (i + j)):=opI0 fun _ _ _ _ _ _ _ q=>add_int q
def op_sub:OpR X (binaryOp .Sub) (rI0 fun i j=>.int (i - j)):=opI0 fun _ _ _ _ _ _ _ q=>sub_int q
def op_mul:OpR X (binaryOp .Mult) (rI CMul fun i j=>.int (i * j)):=opI fun _ _ _ _ _ _ _ hc q=>mul_int q hc.ok
theorem op_fdiv:OpR X (binaryOp .FloorDiv) (rI CDiv fun i j=>.int (i / j)):=opI fun i j _ _ _ _ _ hc q=>by
 have h1:(0:Int) < j:=hc.1
 have h2:j < 1073741824:=hc.2
 exact floordiv_int (by omega) (by rw [Int.fdiv_eq_ediv_of_nonneg i (by omega)]; exact q) (.inl (PyProof.noPylong_small (by omega)))
theorem op_mod:OpR X (binaryOp .Mod) (rI (fun _ j=>0 < j) fun i j=>.int (i % j)):=opI fun i j _ _ _ _ _ hc q=>by
 have h1:(0:Int) < j:=hc
 exact mod_int' (by omega) (by rw [Int.fmod_eq_emod_of_nonneg i (by omega)]; exact q)
def op_pow:OpR X (binaryOp .Pow) (rI CPow fun i j=>.int (i ^ j.toNat)):=opI fun _ _ _ _ _ _ _ hc q=>pow_int_small hc.1 hc.2.1 hc.2.2 q
def unI {f:Value->Sem Value} {g:Int->Int}
  (rule:∀ (i:Int) (t:Tok) (s:Shared) (Q:Value->Shared->Prop) (E:Value->Shared->Prop),Q (.int (g i) s.toks) { s with toks:=s.toks + 1 }->wpAny (model X.prog X.w) X.A (f (.int i t)) Q E s) :
  UnR X f (rU fun i=>.int (g i)):=by
 intro pins s σ H x v Q I rx h
 obtain ⟨i,rfl,q⟩:=h
 obtain ⟨t,rfl⟩:=rx
 exact rule i t s _ _ ⟨.int (g i),H,I.tok _,⟨_,rfl⟩,q⟩
def un_neg:UnR X (unaryOp .USub) (rU fun i=>.int (-i)):=unI fun _ _ _ _ _ q=>neg_int q
end
def scal:V->V->Bool
 | .non,.non=>true | .non,.int _=>true | .int _,.non=>true | .non,.bl _=>true | .bl _,.non=>true | .non,.str _=>true | .str _,.non=>true
 | .int _,.int _=>true | .bl _,.bl _=>true | .str _,.str _=>true | .byt _,.byt _=>true
 | .int _,.str _=>true | .str _,.int _=>true | .bl _,.str _=>true | .str _,.bl _=>true
 | _,_=>false
def rEq:R2:=fun x y H Q=>scal x y=true/\Q (.bl (decide (x=y))) H
def rNe:R2:=fun x y H Q=>scal x y=true/\Q (.bl (!decide (x=y))) H
def dec_int {i j:Int}:decide (V.int i=V.int j)=(i == j):=by
 rw [Bool.eq_iff_iff]
 simp
def dec_bl {i j:Bool}:decide (V.bl i=V.bl j)=(i == j):=by
 rw [Bool.eq_iff_iff]
 simp
def dec_str {i j:Str}:decide (V.str i=V.str j)=(i == j):=by
 rw [Bool.eq_iff_iff]
 simp
def dec_byt {i j:Array UInt8}:decide (V.byt i=V.byt j)=(i.toList == j.toList):=by
 rw [Bool.eq_iff_iff]
 cases i
 cases j
 simp
section
variable {X:Cx} {a b c:Expr} {ta tb:TE} {pos:Pos}
def fin_bl {pins:List (Addr×Obj)} {σ:St} {H:Hp} {s:Shared} {Q:VK} {k k':Bool} (I:Inv X pins σ H s) (q:Q (.bl k) H) (e:k=k'):EP X pins σ Q (.bool k') s:=by
 subst e
 exact ⟨.bl k,H,I,rfl,q⟩
theorem op_eq:OpR X (compareOp .Eq) rEq:=by
 intro pins s σ H x y v u Q I rx ry h
 obtain ⟨hs,q⟩:=h
 cases x with
 | non =>
  cases rx
  cases y with
  | non=>cases ry; exact PySem.EqNone.eq_none_none (fin_bl I q (by simp))
  | bl j=>cases ry; exact PySem.EqNone.eq_none_bool (fin_bl I q (by simp))
  | int j=>obtain ⟨t',rfl⟩:=ry; exact PySem.EqNone.eq_none_int (fin_bl I q (by simp))
  | str j=>obtain ⟨t',rfl⟩:=ry; exact PySem.EqNone.eq_none_str (fin_bl I q (by simp))
  | _=>exact absurd (show false=true from hs) Bool.false_ne_true
 | bl i =>
  cases rx
  cases y with
  | non=>cases ry; exact PySem.EqNone.eq_bool_none (fin_bl I q (by simp))
  | bl j=>cases ry; exact eq_bool (fin_bl I q dec_bl)
  | str j=>obtain ⟨t',rfl⟩:=ry; exact PySem.EqMixed.eq_bool_str (fin_bl I q (by simp))
  | _=>exact absurd (show false=true from hs) Bool.false_ne_true
 | int i =>
  obtain ⟨t,rfl⟩:=rx
  cases y with
  | non=>cases ry; exact PySem.EqNone.eq_int_none (fin_bl I q (by simp))
  | int j=>obtain ⟨t',rfl⟩:=ry; exact eq_int (fin_bl I q dec_int)
  | str j=>obtain ⟨t',rfl⟩:=ry; exact PySem.EqMixed.eq_int_str (fin_bl I q (by simp))
  | _=>exact absurd (show false=true from hs) Bool.false_ne_true
 | str i =>
  obtain ⟨t,rfl⟩:=rx
  cases y with
  | non=>cases ry; exact PySem.EqNone.eq_str_none (fin_bl I q (by simp))
  | bl j=>cases ry; exact PySem.EqMixed.eq_str_bool (fin_bl I q (by simp))
  | int j=>obtain ⟨t',rfl⟩:=ry; exact PySem.EqMixed.eq_str_int (fin_bl I q (by simp))
  | str j=>obtain ⟨t',rfl⟩:=ry; exact eq_str (fin_bl I q dec_str)
  | _=>exact absurd (show false=true from hs) Bool.false_ne_true
 | byt i =>
  obtain ⟨t,rfl⟩:=rx
  cases y with
  | byt j=>obtain ⟨t',rfl⟩:=ry; exact W.eq_bytes (fin_bl I q dec_byt)
  | _=>exact absurd (show false=true from hs) Bool.false_ne_true
 | _=>cases y <;> exact absurd (show false=true from hs) Bool.false_ne_true
theorem op_ne:OpR X (compareOp .NotEq) rNe:=by
 intro pins s σ H x y v u Q I rx ry h
 obtain ⟨hs,q⟩:=h
 cases x with
 | non =>
  cases rx
  cases y with
  | non=>cases ry; exact PySem.EqNone.ne_none_none (fin_bl I q (by simp))
  | bl j=>cases ry; exact PySem.EqNone.ne_none_bool (fin_bl I q (by simp))
  | int j=>obtain ⟨t',rfl⟩:=ry; exact PySem.EqNone.ne_none_int (fin_bl I q (by simp))
  | str j=>obtain ⟨t',rfl⟩:=ry; exact PySem.EqNone.ne_none_str (fin_bl I q (by simp))
  | _=>exact absurd (show false=true from hs) Bool.false_ne_true
 | bl i =>
  cases rx
  cases y with
  | non=>cases ry; exact PySem.EqNone.ne_bool_none (fin_bl I q (by simp))
  | bl j=>cases ry; exact ne_bool (fin_bl I q (congrArg not dec_bl))
  | str j=>obtain ⟨t',rfl⟩:=ry; exact PySem.EqMixed.ne_bool_str (fin_bl I q (by simp))
  | _=>exact absurd (show false=true from hs) Bool.false_ne_true
 | int i =>
  obtain ⟨t,rfl⟩:=rx
  cases y with
  | non=>cases ry; exact PySem.EqNone.ne_int_none (fin_bl I q (by simp))
  | int j=>obtain ⟨t',rfl⟩:=ry; exact ne_int (fin_bl I q (congrArg not dec_int))
  | str j=>obtain ⟨t',rfl⟩:=ry; exact PySem.EqMixed.ne_int_str (fin_bl I q (by simp))
  | _=>exact absurd (show false=true from hs) Bool.false_ne_true
 | str i =>
  obtain ⟨t,rfl⟩:=rx
  cases y with
  | non=>cases ry; exact PySem.EqNone.ne_str_none (fin_bl I q (by simp))
  | bl j=>cases ry; exact PySem.EqMixed.ne_str_bool (fin_bl I q (by simp))
  | int j=>obtain ⟨t',rfl⟩:=ry; exact PySem.EqMixed.ne_str_int (fin_bl I q (by simp))
  | str j=>obtain ⟨t',rfl⟩:=ry; exact ne_str (fin_bl I q (congrArg not dec_str))
  | _=>exact absurd (show false=true from hs) Bool.false_ne_true
 | byt i =>
  obtain ⟨t,rfl⟩:=rx
  cases y with
  | byt j=>obtain ⟨t',rfl⟩:=ry; exact W.ne_bytes (fin_bl I q (congrArg not dec_byt))
  | _=>exact absurd (show false=true from hs) Bool.false_ne_true
 | _=>cases y <;> exact absurd (show false=true from hs) Bool.false_ne_true
def op_lt:OpR X (compareOp .Lt) (rI0 fun i j=>.bl (decide (i < j))):=opB0 fun _ _ _ _ _ _ _ q=>lt_int q
def op_le:OpR X (compareOp .LtE) (rI0 fun i j=>.bl (decide (i<=j))):=opB0 fun _ _ _ _ _ _ _ q=>le_int q
def op_gt:OpR X (compareOp .Gt) (rI0 fun i j=>.bl (decide (j < i))):=opB0 fun _ _ _ _ _ _ _ q=>gt_int q
def op_ge:OpR X (compareOp .GtE) (rI0 fun i j=>.bl (decide (j<=i))):=opB0 fun _ _ _ _ _ _ _ q=>ge_int q
def nomark (b:Expr) {op:CmpOp} (h:op≠.In:=by decide) (h2:op≠.NotIn:=by decide):behindInMarks op b=false:=by
 have e1:(op == CmpOp.In)=false:=by cases op <;> first | rfl | exact absurd rfl h
 have e2:(op == CmpOp.NotIn)=false:=by cases op <;> first | rfl | exact absurd rfl h2
 cases b <;> simp [behindInMarks,e1,e2]
def pe_cmpR {op:CmpOp} {r:R2} (ho:OpR X (compareOp op) r) (ha:PE X a ta) (hb:PE X b tb) (hm:behindInMarks op b=false):PE X (.Compare a [op] [b] pos) (tOp r ta tb):=by
 intro pins s σ H Q I h
 exact wpAny_Compare1 (binT ha hb I h fun v u s2 x y H2 I2 rx ry q=>ho pins s2 σ H2 x y v u Q I2 rx ry q) hm
def tTest (t:TE):TT:=fun σ H Q=>t σ H fun x H'=>∃ k,x=.bl k/\Q k H'
def pt_cmpR {op:CmpOp} {r:R2} (ho:OpR X (compareOp op) r) (ha:PE X a ta) (hb:PE X b tb) (hm:behindInMarks op b=false):PT X (.Compare a [op] [b] pos) (tTest (tOp r ta tb)):=by
 intro pins s σ H Q I h
 refine wpAny_isTrue_Compare1 (thn (ha pins s σ H _ I h) fun v s1 ⟨x,H1,I1,r1,q1⟩=>thn (hb pins s1 σ H1 _ I1 q1) fun u s2 ⟨y,H2,I2,r2,q2⟩ =>
  thn (ho pins s2 σ H2 x y v u _ I2 r1 r2 q2) fun c s3 ⟨z,H3,I3,r3,k,e,q3⟩=>?_) hm
 subst e
 cases r3
 exact wpAny_truthy_bool ⟨H3,I3,q3⟩
def line63:(sizeLine:Nat) < 2 ^ 63:=by rw [sizeLine_eq]; decide
def op_add_str:OpR X (binaryOp .Add) (fun x y H Q=>∃ i j,x=.str i/\y=.str j/\i.length + j.length<=sizeLine/\Q (.str (i++j)) H):=by
 intro pins s σ H x y v u Q I rx ry h
 obtain ⟨i,j,rfl,rfl,hz,q⟩:=h
 obtain ⟨t,rfl⟩:=rx
 obtain ⟨t',rfl⟩:=ry
 exact add_str (fun t' tk=>⟨.str (i++j),H,I.tok _,⟨_,rfl⟩,q⟩) hz
theorem vals1 {x:V} {us:List Value} (r:Vals [x] us):∃ u,us=[u]/\RelV x u:=by
 cases r with
 | cons r1 r2=>cases r2; exact ⟨_,rfl,r1⟩
theorem vals2 {x y:V} {us:List Value} (r:Vals [x,y] us):∃ u w',us=[u,w']/\RelV x u/\RelV y w':=by
 cases r with
 | cons r1 r2 =>
  cases r2 with
  | cons r3 r4=>cases r4; exact ⟨_,_,rfl,r1,r3⟩
def call_abs:CallR X (.builtin "abs") (fun xs H Q=>∃ i,xs=[.int i]/\Q (.int (if i < 0 then -i else i)) H):=by
 intro pins s σ H xs us Q I r h
 obtain ⟨i,rfl,q⟩:=h
 obtain ⟨u,rfl,t,rfl⟩:=vals1 r
 exact call_abs_int fun u tk=>⟨.int (if i < 0 then -i else i),H,I.tok _,⟨_,rfl⟩,q⟩
def call_max2 (hc:X.calm=true):CallR X (.builtin "max") (fun xs H Q=>∃ i j,xs=[.int i,.int j]/\Q (.int (if j > i then j else i)) H):=by
 intro pins s σ H xs us Q I r h
 obtain ⟨i,j,rfl,q⟩:=h
 obtain ⟨u,w',rfl,⟨t,rfl⟩,⟨t',rfl⟩⟩:=vals2 r
 refine max_two_ints (I.ok.hd hc) fun h' tk k=>⟨_,H,I.kept k,?_,q⟩
 by_cases hj:j > i
 ·rw [if_pos hj,if_pos hj]; exact ⟨_,rfl⟩
 ·rw [if_neg hj,if_neg hj]; exact ⟨_,rfl⟩
def call_min2 (hc:X.calm=true):CallR X (.builtin "min") (fun xs H Q=>∃ i j,xs=[.int i,.int j]/\Q (.int (if j < i then j else i)) H):=by
 intro pins s σ H xs us Q I r h
 obtain ⟨i,j,rfl,q⟩:=h
 obtain ⟨u,w',rfl,⟨t,rfl⟩,⟨t',rfl⟩⟩:=vals2 r
 refine min_two_ints (I.ok.hd hc) fun h' tk k=>⟨_,H,I.kept k,?_,q⟩
 by_cases hj:j < i
 ·rw [if_pos hj,if_pos hj]; exact ⟨_,rfl⟩
 ·rw [if_neg hj,if_neg hj]; exact ⟨_,rfl⟩
def call_int1:CallR X (.type "int") (fun xs H Q=>(∃ i,xs=[.int i]/\Q (.int i) H)\/∃ k,xs=[.bl k]/\Q (.int (if k then 1 else 0)) H):=by
 intro pins s σ H xs us Q I r h
 rcases h with ⟨i,rfl,q⟩ | ⟨k,rfl,q⟩
 ·obtain ⟨u,rfl,t,rfl⟩:=vals1 r
  exact call_int_int ⟨.int i,H,I,⟨_,rfl⟩,q⟩
 ·obtain ⟨u,rfl,r1⟩:=vals1 r
  cases r1
  exact call_int_bool ⟨.int (if k then 1 else 0),H,I.tok _,⟨_,rfl⟩,q⟩
def LenV (K:W.Frag) (x:V) (H:Hp) (n:Nat):Prop :=
 match x with
 | .str y=>y.length<=sizeLine/\n=y.length
 | .byt y=>y.size<=sizeLine/\n=y.size
 | .ref p=>(∃ xs,SqL K H p xs/\n=xs.length)\/∃ xs,SqT K H p xs/\n=xs.length
 | _=>False
theorem call_len:CallR X (.builtin "len") (fun xs H Q=>∃ x n,xs=[x]/\LenV X.K x H n/\Q (.int n) H):=by
 intro pins s σ H xs us Q I r h
 obtain ⟨x,n,rfl,e,q⟩:=h
 obtain ⟨u,rfl,rx⟩:=vals1 r
 have hl:=line63
 have hs:sizeLine=16777216:=sizeLine_eq
 cases x with
 | str y =>
  obtain ⟨t,rfl⟩:=rx
  obtain ⟨hy,e'⟩:y.length<=sizeLine/\n=y.length:=e
  subst e'
  exact len_str (by omega) ⟨.int _,H,I.tok _,⟨_,rfl⟩,q⟩
 | byt y =>
  obtain ⟨t,rfl⟩:=rx
  obtain ⟨hy,e'⟩:y.size<=sizeLine/\n=y.size:=e
  subst e'
  exact W.len_bytes (by omega) ⟨.int _,H,I.tok _,⟨_,rfl⟩,q⟩
 | ref p =>
  cases rx
  have e':(∃ xs,SqL X.K H p xs/\n=xs.length)\/∃ xs,SqT X.K H p xs/\n=xs.length:=e
  rcases e' with ⟨xs,hx,e'⟩ | ⟨xs,hx,e'⟩
  ·subst e'
   obtain ⟨its,r',pl,hz⟩:=I.list hx
   have hlen:=r'.length
   exact Calls.call_len_list pl.isList (by simp only [List.size_toArray]; omega) ⟨.int xs.length,H,I.tok _,⟨_,by simp only [List.size_toArray]; rw [hlen]⟩,q⟩
  ·subst e'
   obtain ⟨its,r',pl,hz⟩:=I.tuple hx
   have hlen:=r'.length
   exact len_tuple pl (by simp only [List.size_toArray]; omega) ⟨.int xs.length,H,I.tok _,⟨_,by simp only [List.size_toArray]; rw [hlen]⟩,q⟩
 | _=>exact (show False from e).elim
end
structure ObjM (h:Heap) (x dx C:Addr) (mA:Str->Option Value):Prop where
 obj:h.get? x=some (W.instObj C dx)
 ns:h.Ns1 dx mA
 ne:dx≠x
def lookIn_ns {h:Heap} {dx:Addr} {mA:Str->Option Value} (n:h.Ns1 dx mA):∃ od,h.get? dx=some od/\∀ name,W.lookIn name od=some (mA name):=by
 obtain ⟨o,es,ep,ho,hd,hk,_,hm⟩:=n
 refine ⟨o,ho,fun name=>?_⟩
 have e:=hm name
 unfold nsFind findBy at e
 rw [<- Array.find?_toList] at e
 unfold W.lookIn
 rw [hd]
 dsimp only
 split
 ·rename_i y q
  rw [q] at e
  exact congrArg some e
 ·rename_i q
  rw [q] at e
  have a:es.toList.any (·.refKey)=false:=by
   rw [List.any_eq_false]
   intro y hy
   obtain ⟨z,t,hkey⟩:=hk y (Array.mem_toList_iff.mp hy)
   simp [DictEntry.refKey,hkey]
  have a':¬ es.toList.any (·.refKey)=true:=by rw [a]; exact Bool.false_ne_true
  rw [if_neg a']
  exact congrArg some e
def ObjM.look {h:Heap} {x dx C:Addr} {mA:Str->Option Value} (I:ObjM h x dx C mA):∃ od,W.InstAt h x (W.instObj C dx) C (some od)/\∀ name,W.lookIn name od=some (mA name) :=
 let ⟨od,ho,hl⟩:=lookIn_ns I.ns
 ⟨od,⟨I.obj,rfl,rfl,ho⟩,hl⟩
def putF (f:Str) (v:V):List (Str×V)->List (Str×V)
 | []=>[(f,v)]
 | (g,x)::r=>if g=f then (g,v)::r else (g,x)::putF f v r
theorem lookup_putF (f g:Str) (v:V):∀ fs:List (Str×V),(putF f v fs).lookup g=if g=f then some v else fs.lookup g
 | []=>by
  show List.lookup g [(f,v)]=_
  by_cases h:g=f
  ·have hb:(g == f)=true:=beq_iff_eq.mpr h
   simp only [List.lookup,hb,if_pos h]
  ·have hb:(g == f)=false:=beq_eq_false_iff_ne.mpr h
   simp only [List.lookup,hb,if_neg h]
 | (k,x)::r=>by
  have ih:=lookup_putF f g v r
  rw [show putF f v ((k,x)::r)=(if k=f then (k,v)::r else (k,x)::putF f v r) from rfl]
  by_cases hk:k=f
  ·rw [if_pos hk]
   by_cases h:g=k
   ·have hb:(g == k)=true:=beq_iff_eq.mpr h
    simp only [List.lookup,hb,if_pos (h.trans hk)]
   ·have hb:(g == k)=false:=beq_eq_false_iff_ne.mpr h
    simp only [List.lookup,hb,if_neg (fun e:g=f=>h (e.trans hk.symm))]
  ·rw [if_neg hk]
   by_cases h:g=k
   ·have hb:(g == k)=true:=beq_iff_eq.mpr h
    simp only [List.lookup,hb,if_neg (fun e:g=f=>hk (h.symm.trans e))]
   ·have hb:(g == k)=false:=beq_eq_false_iff_ne.mpr h
    simp only [List.lookup,hb]
    exact ih
theorem keys_putF (f:Str) (v:V):∀ fs:List (Str×V),f∈(putF f v fs).map (·.1)/\∀ g,g∈fs.map (·.1)->g∈(putF f v fs).map (·.1)
 | []=>⟨by simp [putF],fun g h=>by simp at h⟩
 | (k,x)::r=>by
  obtain ⟨i1,i2⟩:=keys_putF f v r
  rw [show putF f v ((k,x)::r)=(if k=f then (k,v)::r else (k,x)::putF f v r) from rfl]
  by_cases hk:k=f
  ·rw [if_pos hk]
   subst hk
   exact ⟨by simp,fun g h=>by simpa using h⟩
  ·rw [if_neg hk]
   refine ⟨?_,fun g h=>?_⟩
   ·rw [List.map_cons]
    exact List.mem_cons_of_mem _ i1
   ·rw [List.map_cons] at h ⊢
    rcases List.mem_cons.mp h with e | e
    ·exact List.mem_cons.mpr (.inl e)
    ·exact List.mem_cons_of_mem _ (i2 g e)
theorem RelO.some_of {v:V} {o:Option Value} (r:RelO (some v) o):∃ u,o=some u/\RelV v u:=by
 cases o with
 | none=>exact (show False from r).elim
 | some u=>exact ⟨u,rfl,r⟩
theorem handed_of {v:V} {u:Value} (r:RelV v u):W.handedIn u=true:=by
 cases v with
 | non=>cases (show u=Value.none from r); rfl
 | bl b=>cases (show u=Value.bool b from r); rfl
 | int i=>obtain ⟨t,e⟩:=(show ∃ t,u=Value.int i t from r); cases e; rfl
 | str x=>obtain ⟨t,e⟩:=(show ∃ t,u=Value.str x t from r); cases e; rfl
 | byt b=>obtain ⟨t,e⟩:=(show ∃ t,u=Value.bytes b t from r); cases e; rfl
 | flt b=>obtain ⟨t,e⟩:=(show ∃ t,u=Value.float b t from r); cases e; rfl
 | ref a=>cases (show u=Value.ref a from r); rfl
 | ty n=>cases (show u=Value.type n from r); rfl
section
variable {P:Program} {w:World} {H:Hp} {h:Heap} {a C dx:Addr} {fs:List (Str×V)}
def ins_get (hok:HOk P w H h) (e:H a=some (.ins C dx fs)):∃ mA,ObjM h a dx C mA/\(∀ f,RelO (fs.lookup f) (mA f))/\PySem.Within mA (fs.map (·.1))/\fs.length<=1000/\H dx=some (.own a):=by
 obtain ⟨d,z,ne,ob,mA,n,r,q⟩:=(show ObjOk P w H h a (.ins C dx fs) from hok a _ e)
 exact ⟨mA,⟨ob,n,ne⟩,r,q,z,d⟩
end
structure Cls (K:W.Frag) (C:Addr):Prop where
 pg:W.plainGet K C Str.empty=true
 hd:W.hasDictIn K C=true
 po:W.plainOver K C=true
 sa:W.findIn K (.ref C) "__setattr__"=some (some (.builtin "object.__setattr__"))
def Cls.get {K:W.Frag} {C:Addr} (c:Cls K C) (f:Str):W.plainGet K C f=true:=c.pg
section
variable {s:Shared} {f:Str} {A:Around} {E:Value->Shared->Prop}
def attr_of {prog:Program} {w:World} {env:Env} {e:Expr} {f:Str} {pos:Pos} {s:Shared} {Q:Value->Shared->Prop} (hb:attributeBase e f env (eval e env)=eval e env)
  (h:wpAny (model prog w) A (eval e env) (fun o s₁=>wpAny (model prog w) A (getAttr o f true) Q E s₁) E s):wpAny (model prog w) A (eval (.Attribute e f pos) env) Q E s :=
 Attribute_any_ h (by rw [arm_eval_Attribute,hb])
end
section
variable {X:Cx} {pins:List (Addr×Obj)} {σ:St} {H:Hp} {s:Shared} {A:Around} {E:Value->Shared->Prop} {Q:Value->Shared->Prop} {c:Value} {b:Bool}
inductive TyOf (K:W.Frag) (H:Hp):V->Value->Prop where
 | non:TyOf K H .non (.type "NoneType")
 | bl (x:Bool):TyOf K H (.bl x) (.type "bool")
 | int (i:Int):TyOf K H (.int i) (.type "int")
 | str (x:Str):TyOf K H (.str x) (.type "str")
 | flt (x:UInt64):TyOf K H (.flt x) (.type "float")
 | lst {a:Addr} {xs:List V} (e:H a=some (.lst xs)):TyOf K H (.ref a) (.type "list")
 | frz {a:Addr} {o:Obj} {xs:List V} (e:H a=some (.frz o (.lst xs))):TyOf K H (.ref a) (.type "list")
 | tup {a:Addr} {xs:List V} (e:H a=some (.tup xs)):TyOf K H (.ref a) (.type "tuple")
 | dK {a:Addr} {kvs:List (Key×V)} (e:H a=some (.dK kvs)):TyOf K H (.ref a) (.type "dict")
 | dT {a:Addr} {kvs:List (List Key×V)} (e:H a=some (.dT kvs)):TyOf K H (.ref a) (.type "dict")
 | ins {a C dx:Addr} {fs:List (Str×V)} (e:H a=some (.ins C dx fs)) (cl:Cls K C) (ha:W.findIn K (.ref C) "__class__"=some (some (.builtin "object.__class__")))
   (hn:W.specialIn K (.builtin "object.__class__") "__get__"=some (some (.builtin "getset_descriptor.__get__"))) (htk:W.takesIn K (.builtin "object.__class__")=some true)
   (hm:W.mroIn K C (.type "object")=some true):TyOf K H (.ref a) (.ref C)
theorem isinst_ok {x:V} {u t:Value} (I:Inv X pins σ H s) (rx:RelV x u) (ty:TyOf X.K H x t) (e:W.kitOne X.K t c=some b) (h:∀ tk,Q (.bool b) { s with toks:=tk }) :
  wpAny (model X.prog X.w) A (call (.builtin "isinstance") [u,c]) Q E s:=by
 cases ty with
 | non=>cases (show u=Value.none from rx); exact W.kia_one W.kitx_none I.kIn True.intro e (fun z=>nomatch z) h
 | bl y=>cases (show u=Value.bool y from rx); exact W.kia_one W.kitx_bool I.kIn True.intro e (fun z=>nomatch z) h
 | int i=>obtain ⟨t,q⟩:=(show ∃ t,u=Value.int i t from rx); cases q; exact W.kia_one W.kitx_int I.kIn True.intro e (fun z=>nomatch z) h
 | str y=>obtain ⟨t,q⟩:=(show ∃ t,u=Value.str y t from rx); cases q; exact W.kia_one W.kitx_str I.kIn True.intro e (fun z=>nomatch z) h
 | flt y=>obtain ⟨t,q⟩:=(show ∃ t,u=Value.float y t from rx); cases q; exact W.kia_one W.kitx_float I.kIn True.intro e (fun z=>nomatch z) h
 | @lst a xs ea =>
  cases (show u=Value.ref a from rx)
  obtain ⟨_,_,n,_,h1⟩:=(show ObjOk X.prog X.w H s.heap a (.lst xs) from I.hok a _ ea)
  exact W.kia_one W.kitx_list I.kIn ⟨_,h1,rfl⟩ e (fun z=>nomatch z) h
 | @frz a ob xs ea =>
  cases (show u=Value.ref a from rx)
  obtain ⟨_,_,_,n,_,h1⟩:=(show ObjOk X.prog X.w H s.heap a (.frz ob (.lst xs)) from I.hok a _ ea)
  exact W.kia_one W.kitx_list I.kIn ⟨_,h1,rfl⟩ e (fun z=>nomatch z) h
 | @tup a xs ea =>
  cases (show u=Value.ref a from rx)
  obtain ⟨_,_,_,p⟩:=(show ObjOk X.prog X.w H s.heap a (.tup xs) from I.hok a _ ea)
  obtain ⟨o,h1,h2,_⟩:=p
  exact W.kia_one W.kitx_tuple I.kIn ⟨o,h1,h2⟩ e (fun z=>nomatch z) h
 | @dK a kvs ea =>
  cases (show u=Value.ref a from rx)
  obtain ⟨_,_,vs,_,p⟩:=(show ObjOk X.prog X.w H s.heap a (.dK kvs) from I.hok a _ ea)
  obtain ⟨o,es,ep,h1,h2,_⟩:=p
  exact W.kia_one W.kitx_dict I.kIn ⟨o,h1,h2.1⟩ e (fun z=>nomatch z) h
 | @dT a kvs ea =>
  cases (show u=Value.ref a from rx)
  obtain ⟨_,_,xs,_,o,es,ep,h1,h2,_⟩:=(show ObjOk X.prog X.w H s.heap a (.dT kvs) from I.hok a _ ea)
  exact W.kia_one W.kitx_dict I.kIn ⟨o,h1,h2.1⟩ e (fun z=>nomatch z) h
 | @ins a C dx fs ea cl ha hn htk hm =>
  cases (show u=Value.ref a from rx)
  obtain ⟨mA,O,_⟩:=ins_get I.hok ea
  obtain ⟨od,J,_⟩:=O.look
  exact W.kia_one (W.kitx_own (cl.get _) cl.hd ha hn htk hm) I.kIn J e (fun z=>nomatch z) h
end
structure Room (k:Nat) (A:Around):Prop where
 hd:A.handled=none
 dp:A.depth + 3 * k + 5 < recursionLimit
 un:A.units + 16 * k + 200 < cLine
theorem Room.mono {j k:Nat} {A:Around} (r:Room k A) (h:j<=k):Room j A:=⟨r.hd,by have:=r.dp; omega,by have:=r.un; omega⟩
theorem Room.deeper {k:Nat} {A:Around} (r:Room (k + 1) A) (env:Env):Room k (A.deeper env) :=
 ⟨r.hd,by have:=r.dp; show A.depth + 1 + 3 * k + 5 < _; omega,by have:=r.un; show A.units + 3 + 16 * k + 200 < _; omega⟩
def make_depth {A:Around} {C:Addr} {us:List Value} {kw:List (Str×Value)}:(A.under (.builtin "type.__call__" ⟨.ref C::us,kw⟩)).depth=A.depth + 1:=by
 first | rfl | simp [Around.under,Code.weight,Code.isCreation,Code.isGuard,Code.isCaller,Code.frames,Code.isFrame,guardIds]
def make_units {A:Around} {C:Addr} {us:List Value} {kw:List (Str×Value)}:(A.under (.builtin "type.__call__" ⟨.ref C::us,kw⟩)).units=A.units + 1:=by
 first | rfl | simp [Around.under,Code.cUnits,Code.frames,Code.isFrame]
theorem Room.make {k:Nat} {A:Around} (r:Room (k + 1) A) (C:Addr) (us:List Value) (kw:List (Str×Value)):Room k (A.under (.builtin "type.__call__" ⟨.ref C::us,kw⟩)) :=
 ⟨r.hd,by have:=r.dp; rw [make_depth]; omega,by have:=r.un; rw [make_units]; omega⟩
theorem Room.depth {k:Nat} {A:Around} (r:Room k A):A.depth < recursionLimit:=by have:=r.dp; omega
theorem Room.units {k:Nat} {A:Around} (r:Room k A):A.units + 64 < cLine:=by have:=r.un; omega
def tNil:TA:=fun _ H Q=>Q [] H
def tCons (ta:TE) (tr:TA):TA:=fun σ H Q=>ta σ H fun x H1=>tr σ H1 fun xs H2=>Q (x::xs) H2
section
variable {X:Cx} {e:Expr} {es:List Expr} {te:TE} {t:TA} {pos:Pos}
def pa_nil:PA X [] tNil:=fun _ _ _ _ H Q I h=>Calls.spliced_nil ⟨[],H,I,.nil,h⟩
def pa_cons (ha:PE X e te) (hr:PA X es t) (hs:starEach (e::es) X.env=(false,eval e X.env)::starEach es X.env:=by rfl):PA X (e::es) (tCons te t):=by
 intro pos pins s σ H Q I h
 rw [hs]
 show wpAny _ _ (spliced ((false,eval e X.env)::backTo pos (starEach es X.env))) _ _ s
 refine Calls.spliced_cons (thn (ha pins s σ H _ I h) fun u s1 ⟨x,H1,I1,r1,q1⟩=>?_)
 exact thn (hr pos pins s1 σ H1 _ I1 q1) fun us s2 ⟨xs,H2,I2,r2,q2⟩=>⟨x::xs,H2,I2,.cons r1 r2,q2⟩
def tTup (t:TA):TE:=fun σ H Q=>t σ H fun xs H1=>xs.length<=sizeLine/\∀ p,H1 p=none->Q (.ref p) (upd H1 p (.tup xs))
def tLst (t:TA):TE:=fun σ H Q=>t σ H fun xs H1=>xs.length<=sizeLine/\∀ p,H1 p=none->Q (.ref p) (upd H1 p (.lst xs))
def pe_tup {x1} (h:PA X es t):PE X (.Tuple es x1 pos) (tTup t):=by
 intro pins s σ H Q I hq
 refine wpAny_Tuple_spliced (thn (h pos pins s σ H _ I hq) fun us s1 ⟨xs,H1,I1,r,z,q⟩=>⟨by rw [<- r.length]; exact z,?_⟩)
 have hf:H1 s1.heap.objs.size=none:=I1.hok.fresh (Nat.le_refl _)
 refine ⟨.ref s1.heap.objs.size,upd H1 s1.heap.objs.size (.tup xs),I1.laid (t':=s1.toks) (fun b u e=>Heap.get?_push_of_some _ e) (Nat.le_refl _) ?_,rfl,q _ hf⟩
 exact ⟨z,us,r,⟨_,Heap.get?_push_size _ rfl,rfl,_,rfl,rfl⟩⟩
def pe_lst (h:PA X es t):PE X (.List es pos) (tLst t):=by
 intro pins s σ H Q I hq
 refine wpAny_List_spliced (thn (h pos pins s σ H _ I hq) fun us s1 ⟨xs,H1,I1,r,z,q⟩=>⟨by rw [<- r.length]; exact z,?_⟩)
 have hf:H1 s1.heap.objs.size=none:=I1.hok.fresh (Nat.le_refl _)
 refine ⟨.ref s1.heap.objs.size,upd H1 s1.heap.objs.size (.lst xs),I1.laid (t':=s1.toks) (fun b u e=>Heap.get?_push_of_some _ e) (Nat.le_refl _) ?_,rfl,q _ hf⟩
 exact ⟨z,us,0,r,Heap.get?_push_size _ rfl⟩
end
abbrev Sp:=List V->Hp->VK->XK->Prop
abbrev CXT:=List Env->Hp->Shared->XK->Value->Shared->Prop
structure Env0 (P:Program) (w:World) (K:W.Frag) (mg:Str->Option Value) (base:Heap) (A:Around) (outer:List Env) (s:Shared) (H:Hp):Prop where
 frames:A.frames=some outer
 mod:Mod K mg base
 bs:∀ b o,base.get? b=some o->s.heap.get? b=some o/\H b=none
 bsz:base.objs.size<=s.heap.objs.size
 funs:s.heap.FunFrames base outer
 frf:∀ b∈frs outer,H b=none
 hok:HOk P w H s.heap
 bare:AllBare s.gens
def CE (outer:List Env) (P:Program) (w:World) (H:Hp) (s:Shared) (Q:VK) (u:Value) (s':Shared):Prop :=
 ∃ v H',s'.os=s.os/\AllBare s'.gens/\Un (frs outer) [] H H' s.heap s'.heap/\HOk P w H' s'.heap/\RelV v u/\Q v H'
def CR (CX:CXT) (outer:List Env) (P:Program) (w:World) (H:Hp) (s:Shared) (Q:VK) (E:XK) (r:Result) (s':Shared):Prop :=
 match r with
 | .ok (.ret u)=>CE outer P w H s Q u s'
 | .ok _=>False
 | .error e=>CX outer H s E e s'
structure FnOk (P:Program) (w:World) (K:W.Frag) (mg:Str->Option Value) (base:Heap) (CX:CXT) (k:Nat) (f:Addr) (fd:FuncData) (ps:List Str) (sp:Sp):Prop where
 len:∀ vs H Q E,sp vs H Q E->vs.length=ps.length
 run:∀ (A:Around) (outer:List Env) (s:Shared) (H:Hp) (args:Args) (us:List Value) (vs:List V) (Q:VK) (E:XK),Room k A->Env0 P w K mg base A outer s H->BindsTo s fd args (ps.zip us)->Vals vs us->sp vs H Q E ->
  codeAny (model P w) A (.call (.ref f) args) (CR CX outer P w H s Q E) s
def FnOk.imp {P:Program} {w:World} {K:W.Frag} {mg:Str->Option Value} {base:Heap} {CX:CXT} {k:Nat} {f:Addr} {fd:FuncData} {ps:List Str} {sp sp':Sp} (F:FnOk P w K mg base CX k f fd ps sp)
  (h:∀ vs H Q E,sp' vs H Q E->sp vs H Q E):FnOk P w K mg base CX k f fd ps sp' :=
 ⟨fun vs H Q E q=>F.len vs H Q E (h _ _ _ _ q),fun A outer s H args us vs Q E hr he hb hv hs=>F.run A outer s H args us vs Q E hr he hb hv (h _ _ _ _ hs)⟩
def Env0.make {P:Program} {w:World} {K:W.Frag} {mg:Str->Option Value} {base:Heap} {A:Around} {outer:List Env} {s:Shared} {H:Hp} (e:Env0 P w K mg base A outer s H) (C:Addr) (us:List Value) (kw:List (Str×Value)) :
  Env0 P w K mg base (A.under (.builtin "type.__call__" ⟨.ref C::us,kw⟩)) outer s H:=⟨by first | exact e.frames | (simpa [Around.under,Code.envs,Code.isFrame,pushEnvs] using e.frames),e.mod,e.bs,e.bsz,e.funs,e.frf,e.hok,e.bare⟩
section
variable {X:Cx} {pins:List (Addr×Obj)} {σ:St} {H:Hp} {s s':Shared}
def Inv.env0 (I:Inv X pins σ H s):Env0 X.prog X.w X.K X.mg X.base X.A X.stack s H :=
 ⟨I.ok.frames,I.ok.mod,I.bs,Nat.le_trans I.ok.bsz I.sz,I.stack,I.stkFree,I.hok,I.bare⟩
def Inv.after {Q:VK} {u:Value} (I:Inv X pins σ H s) (h:CE X.stack X.prog X.w H s Q u s'):EP X pins σ Q u s':=by
 obtain ⟨v,H',os,bare,un,hok,r,q⟩:=h
 obtain ⟨hh,g,d,t,os'⟩:=s'
 obtain rfl:os'=s.os:=os
 exact ⟨v,H',I.call (h':=hh) (g':=g) (d':=d) (t':=t) (ch:=[]) un hok bare (fun b z=>absurd z (by simp)),r,q⟩
end
def tCall (sp:Sp) (dvs:List V) (E:XK) (t:TA):TE:=fun σ H Q=>t σ H fun vs H1=>sp (vs++dvs) H1 Q E
def Binds (K:W.Frag) (fd:FuncData) (ps:List Str) (ds:List Value):Prop :=
 ∀ (s:Shared) (us:List Value),K.In s.heap->(us++ds).length=ps.length->BindsTo s fd ⟨us,[]⟩ (ps.zip (us++ds))
def Binds.all {K:W.Frag} {fd:FuncData} {ps:List Str} (h:∀ us:List Value,us.length=ps.length->bindArgs fd ⟨us,[]⟩=pure (ps.zip us)):Binds K fd ps []:=fun s us _ hl=>by
 rw [List.append_nil] at hl ⊢
 exact .of_eq (h us hl)
def Passes (CX:CXT) (X:Cx) (E:XK):Prop:=∀ (pins:List (Addr×Obj)) (σ:St) (H:Hp) (s:Shared) (e:Value) (s':Shared),Inv X pins σ H s->CX X.stack H s E e s'->X.xe e s'
section
variable {X:Cx} {CX:CXT} {k:Nat} {f:Addr} {fd:FuncData} {ps:List Str} {sp:Sp} {dvs:List V} {ds:List Value} {E:XK} {x:Str} {p pos:Pos} {e:Expr} {es:List Expr} {t:TA}
theorem run_fn {pins:List (Addr×Obj)} {σ:St} {H:Hp} {s:Shared} {Q:VK} {us:List Value} {vs:List V} (F:FnOk X.prog X.w X.K X.mg X.base CX k f fd ps sp) (hr:Room k X.A) (hb:Binds X.K fd ps ds) (hd:Vals dvs ds) (hx:Passes CX X E)
  (I:Inv X pins σ H s) (r:Vals vs us) (h:sp (vs++dvs) H Q E):wpAny (model X.prog X.w) X.A (call (.ref f) us) (EP X pins σ Q) X.xe s:=by
 have r2:Vals (vs++dvs) (us++ds):=r.append hd
 have hl:(us++ds).length=ps.length:=by rw [<- r2.length]; exact F.len _ _ _ _ h
 refine wpAny_call (codeAny_mono (F.run X.A X.stack s H ⟨us,[]⟩ (us++ds) (vs++dvs) Q E hr I.env0 (hb s us I.kIn hl) r2 h) fun r s' hq=>?_)
 cases r with
 | error e=>exact hx pins σ H s e s' I hq
 | ok fl =>
  cases fl with
  | ret u=>exact I.after hq
  | next=>exact False.elim hq
  | brk=>exact False.elim hq
  | cont=>exact False.elim hq
def pe_call (F:FnOk X.prog X.w X.K X.mg X.base CX k f fd ps sp) (hr:Room k X.A) (hg:Gl X x) (hm:X.mg x=some (.ref f)) (hk:W.keepIn X.K (.ref f)=true) (hb:Binds X.K fd ps ds) (hd:Vals dvs ds) (hx:Passes CX X E)
  (ha:PA X (e::es) t) (hdb:(x == ("__debug__":Str))=false:=by decide) (he:starEach (e::es) X.env=(false,eval e X.env)::starEach es X.env:=by rfl) (hpl:(backTo pos (starEach es X.env)).any (·.1)=false:=by rfl) :
  PE X (.Call (.Name x p) (e::es) [] pos) (tCall sp dvs E t):=by
 intro pins s σ H Q I h
 refine wpAny_Call_Name_kw (ld_glob I hg hm ?_ hdb)
 refine W.callWith_K (h₀:=X.base) I.ok.mod.kin hk (thn (ha pos pins s σ H _ I h) fun us s1 ⟨vs,H1,I1,r,q⟩=>⟨I1.kIn,?_⟩) he hpl
 exact run_fn F hr hb hd hx I1 r q
end
structure FnScope (N P:List Str) (sc:Scope):Prop where
 kind:sc.kind=.function
 co:sc.isCoroutine=false
 gen:sc.isGenerator=false
 nd:N.Nodup
 pre:N.take P.length=P
 par:∀ x∈P,sc.names.lookup x=some .local\/sc.names.lookup x=some .cell
 nofree:∀ y∈sc.names,y.2≠.free
theorem bindL_out {kindOf:Str->Option NameKind} {x:Str}:∀ {binds:List (Str×Value)} {m:Str->Option Value},(∀ v,(x,v)∉binds)->bindL kindOf binds m x=m x
 | [],_,_=>rfl
 | (n,v)::r,m,h=>by
  unfold bindL
  rw [bindL_out fun w hw=>h w (List.mem_cons_of_mem _ hw)]
  split
  ·have:x≠n:=by rintro rfl; exact h v List.mem_cons_self
   simp [this]
  ·rfl
theorem bindC_out {kindOf:Str->Option NameKind} {x:Str}:∀ {binds:List (Str×Value)} {m:Str->Option Value},(∀ v,(x,v)∉binds)->bindC kindOf binds m x=m x
 | [],_,_=>rfl
 | (n,v)::r,m,h=>by
  unfold bindC
  rw [bindC_out fun w hw=>h w (List.mem_cons_of_mem _ hw)]
  split
  ·rfl
  ·have:x≠n:=by rintro rfl; exact h v List.mem_cons_self
   simp [this]
theorem bindL_get {kindOf:Str->Option NameKind} {x:Str} {v:Value}:∀ {P:List Str} {vs:List Value} {i:Nat} {m:Str->Option Value},P.Nodup->P[i]?=some x->vs[i]?=some v->kindOf x=some .local ->
  bindL kindOf (P.zip vs) m x=some v
 | [],_,_,_,_,h,_,_=>by simp at h
 | _::_,[],_,_,_,_,h,_=>by simp at h
 | p::P,w::vs,0,m,nd,h1,h2,hk=>by
  simp at h1 h2; subst h1; subst h2
  show bindL kindOf ((p,w)::P.zip vs) m p=_
  unfold bindL
  rw [bindL_out fun v hv=>(List.nodup_cons.mp nd).1 (List.of_mem_zip hv).1,if_pos hk]
  simp
 | p::P,w::vs,i + 1,m,nd,h1,h2,hk=>by
  show bindL kindOf ((p,w)::P.zip vs) m x=_
  unfold bindL
  exact bindL_get (i:=i) (List.nodup_cons.mp nd).2 (by simpa using h1) (by simpa using h2) hk
theorem bindC_get {kindOf:Str->Option NameKind} {x:Str} {v:Value}:∀ {P:List Str} {vs:List Value} {i:Nat} {m:Str->Option Value},P.Nodup->P[i]?=some x->vs[i]?=some v->kindOf x≠some .local ->
  bindC kindOf (P.zip vs) m x=some v
 | [],_,_,_,_,h,_,_=>by simp at h
 | _::_,[],_,_,_,_,h,_=>by simp at h
 | p::P,w::vs,0,m,nd,h1,h2,hk=>by
  simp at h1 h2; subst h1; subst h2
  show bindC kindOf ((p,w)::P.zip vs) m p=_
  unfold bindC
  rw [bindC_out fun v hv=>(List.nodup_cons.mp nd).1 (List.of_mem_zip hv).1,if_neg hk]
  simp
 | p::P,w::vs,i + 1,m,nd,h1,h2,hk=>by
  show bindC kindOf ((p,w)::P.zip vs) m x=_
  unfold bindC
  exact bindC_get (i:=i) (List.nodup_cons.mp nd).2 (by simpa using h1) (by simpa using h2) hk
def start (N:List Str) (vs:List V):St:=vs.map some++List.replicate (N.length - vs.length) none
def cxOf (CX:CXT) (P:Program) (w:World) (K:W.Frag) (mg:Str->Option Value) (base:Heap) (N:List Str) (qual:Str) (scope:Scope) (f:Addr) (cd:Value) (A:Around) (outer:List Env) (s:Shared) (H:Hp) (E:XK):Cx where
 prog:=P
 w:=w
 K:=K
 mg:=mg
 base:=base
 A:=A.deeper (envOfC qual scope s.heap.objs.size f cd)
 N:=N
 s₀:=s
 H₀:=H
 env:=envOfC qual scope s.heap.objs.size f cd
 outer:=outer
 stack:=envOfC qual scope s.heap.objs.size f cd::outer
 ex:=[]
 calm:=true
 fn:=fun _=>true
 pn:=[]
 xe:=fun e s'=>wpAny (model P w) (A.deeper (envOfC qual scope s.heap.objs.size f cd)) (leaving (envOfC qual scope s.heap.objs.size f cd) e) (fun _ s''=>CX outer H s E e s'') (fun e' s''=>CX outer H s E e' s'') s'
def cell_has {sc:Scope} {n:Nat} {x:Str} (h:sc.names.lookup x=some .cell):∃ c,(cellsFrom n sc.names []).lookup x=some c:=by
 have q:=W.cellsFrom_some sc.names n [] (.inl h)
 exact Option.isSome_iff_exists.mp q
theorem inv_start {CX:CXT} {P:Program} {w:World} {K:W.Frag} {mg:Str->Option Value} {base:Heap} {N ps:List Str} {qual:Str} {scope:Scope} {f:Addr} {cd:Value} {A:Around} {outer:List Env} {s s1:Shared} {H:Hp} {E:XK} {us:List Value} {vs:List V}
  (S:FnScope N ps scope) (hd:A.handled=none) (e0:Env0 P w K mg base A outer s H) (hl:vs.length=ps.length) (r:Vals vs us)
  (x:InCallC s s.heap.objs.size (bindL (envOfC qual scope s.heap.objs.size f cd).kindOf (ps.zip us) fun _=>none) (cellsFrom (s.heap.objs.size + 1) scope.names []) (bindC (envOfC qual scope s.heap.objs.size f cd).kindOf (ps.zip us) fun _=>none) s1) :
  Inv (cxOf CX P w K mg base N qual scope f cd A outer s H E) [] (start N vs) H s1:=by
 have hpl:ps.length<=N.length:=by have:=congrArg List.length S.pre; rw [List.length_take] at this; omega
 obtain ⟨h1,tk,rfl,hk⟩:=x.done
 have noA:∀ b:Addr,b∉(cxOf CX P w K mg base N qual scope f cd A outer s H E).ex:=fun b z=>absurd (show b∈([]:List Addr) from z) (by simp)
 refine ⟨⟨e0.mod,S.kind,rfl,rfl,Nat.le_refl _,fun y z c h1 h2=>?_,fun y hy=>?_,fun y c _ h=>?_,fun _=>hd,Around.frames_deeper e0.frames,.inr ⟨rfl,rfl⟩,fun b z=>absurd z (noA b),e0.bs,e0.bsz,fun b _ _=>noA b,fun b z=>absurd z (noA b),e0.funs,e0.frf⟩,
  rfl,e0.bare,Un.kept hk,⟨_,x.toInCall.ns,fun i y v h1 h2 h3=>?_⟩,fun y c h=>⟨_,x.cell y c h⟩,e0.hok.fresh (Nat.le_refl _),fun y c h=>?_,fun p hp=>absurd (show p∈([]:List (Addr×Obj)) from hp) (by simp),e0.hok.kept hk,?_⟩
 ·exact name_of_addr x.apart (PySem.mem_of_lookup h1) (PySem.mem_of_lookup h2)
 ·have hy:scope.names.lookup y=some .cell\/scope.names.lookup y=some .free:=hy
  rcases hy with hy | hy
  ·exact cell_has hy
  ·exact absurd rfl (S.nofree _ (PySem.mem_of_lookup hy))
 ·exact Nat.le_of_lt (x.above y c (PySem.mem_of_lookup h))
 ·have hi:i < vs.length:=by
   unfold start at h2
   by_cases hi:i < vs.length
   ·exact hi
   ·rw [List.getElem?_append_right (by simpa using hi)] at h2
    rw [List.getElem?_replicate] at h2
    split at h2 <;> cases h2
  have ha:vs[i]?=some v:=by
   unfold start at h2
   rw [List.getElem?_append_left (by simpa using hi),List.getElem?_map] at h2
   cases e:vs[i]? with
   | none=>rw [e] at h2; cases h2
   | some a=>rw [e] at h2; cases h2; rfl
  obtain ⟨u,hu,rv⟩:=r.get ha
  have hp:ps[i]?=some y:=by
   rw [<- S.pre,List.getElem?_take_of_lt (by omega)]; exact h1
  have ndP:ps.Nodup:=by rw [<- S.pre]; exact S.nd.sublist (List.take_sublist _ _)
  refine ⟨u,rv,?_⟩
  rcases S.par y (List.mem_of_getElem? hp) with k | k
  ·exact .inl ⟨k,bindL_get ndP hp hu k⟩
  ·obtain ⟨c,e⟩:=cell_has (n:=s.heap.objs.size + 1) k
   refine .inr ⟨.inl k,c,e,?_⟩
   have q:=x.cell y c e
   rw [bindC_get ndP hp hu (by show scope.names.lookup y≠_; rw [k]; decide)] at q
   exact q
 ·exact e0.hok.fresh (Nat.le_of_lt (x.above y c (PySem.mem_of_lookup h)))
 ·unfold start
  show _=N.length
  rw [List.length_append,List.length_map,List.length_replicate]
  omega
theorem fn_of {CX:CXT} {P:Program} {w:World} {K:W.Frag} {mg:Str->Option Value} {base:Heap} {k:Nat} {f:Addr} {name qual:Str} {params:Arguments} {body:List Stmt} {scope:Scope} {dV kV doc pm cdv ct oc:Value} {an od:Option Addr}
  {osl:Array (Option Value)} {N ps:List Str} {sp:Sp} (lk:K.lookup f=some ⟨oc,od,.func (W.fnOf name qual params body scope dV kV doc pm an cdv ct),osl⟩) (hcd:W.codeIn K cdv qual=true) (S:FnScope N ps scope)
  (len:∀ vs H Q E,sp vs H Q E->vs.length=ps.length)
  (hbody:∀ (A:Around) (outer:List Env) (s:Shared) (H:Hp) (vs:List V) (Q:VK) (E:XK),Room k (A.deeper (envOfC qual scope s.heap.objs.size f cdv))->sp vs H Q E ->
   ∃ t,PSs (cxOf CX P w K mg base N qual scope f cdv A outer s H E) body t/\t { nx:=fun _ H'=>Q .non H',rt:=Q } (start N vs) H) :
  FnOk P w K mg base CX (k + 1) f (W.fnOf name qual params body scope dV kV doc pm an cdv ct) ps sp:=by
 refine ⟨len,fun A outer s H args us vs Q E hr e0 hb r hsp=>?_⟩
 have hl:=len _ _ _ _ hsp
 have KX:K.In s.heap:=e0.mod.kin.keeps fun b o e=>(e0.bs b o e).1
 have lim:s.heap.NoLimit:=e0.mod.nolimit.keeps fun b o e=>(e0.bs b o e).1
 have hkind:∀ y∈ps.zip us,scope.names.lookup y.1=some .local\/(scope.names.lookup y.1=some .cell/\((cellsFrom (s.heap.objs.size + 1) scope.names []).lookup y.1).isSome=true):=fun ⟨n,v⟩ hy=>by
  rcases S.par n (List.of_mem_zip hy).1 with q | q
  ·exact .inl q
  ·exact .inr ⟨q,W.cellsFrom_some _ _ _ (.inl q)⟩
 refine codeAny_call_function hr.depth (KX _ _ lk) rfl S.co S.gen rfl (W.codeRec_of KX hcd) (hb _ _ _ _ ?_)
 refine wpAny_newFunctionEnv_cells S.kind hkind fun env he s1 x=>?_
 subst he
 refine ⟨lim.keeps x.toInCall.keep,codeAny_func ?_⟩
 obtain ⟨t,ht,hq⟩:=hbody A outer s H vs Q E (hr.deeper _) hsp
 have I:Inv (cxOf CX P w K mg base N qual scope f cdv A outer s H E) [] (start N vs) H s1:=inv_start S hr.hd e0 hl r x
 refine wpAny_mono (ht [] s1 (start N vs) H _ I hq) (fun fl s' hs=>?_) fun e s' hs=>hs
 have fin:∀ {σ':St} {H':Hp} {v:V} {u:Value},Inv (cxOf CX P w K mg base N qual scope f cdv A outer s H E) [] σ' H' s'->RelV v u->Q v H'->CE outer P w H s Q u s' :=
  fun {σ' H' v u} J rv q=>⟨v,H',J.os,J.bare,J.base,J.hok,rv,q⟩
 cases fl with
 | ret u =>
  obtain ⟨v,σ',H',J,rv,q⟩:=hs
  exact fin J rv q
 | next =>
  obtain ⟨σ',H',J,q⟩:=hs
  exact fin (v:=V.non) (u:=Value.none) J rfl q
 | brk =>
  obtain ⟨_,_,_,q⟩:=hs
  exact False.elim q
 | cont =>
  obtain ⟨_,_,_,q⟩:=hs
  exact False.elim q
section
variable {X:Cx} {x:Str} {p pos:Pos} {e:Expr} {es:List Expr} {t:TA} {id T:String} {r:List V->Hp->VK->Prop}
def tCB (r:List V->Hp->VK->Prop) (t:TA):TE:=fun σ H Q=>t σ H fun vs H1=>r vs H1 Q
def pe_callB (hc:CallR X (.builtin id) r) (hg:Gl X x) (hm:X.mg x=none) (hv:bootBuiltins x=some (.builtin id)) (ha:PA X (e::es) t) (hn:x≠"__name__":=by decide) (hdb:(x == ("__debug__":Str))=false:=by decide)
  (he:starEach (e::es) X.env=(false,eval e X.env)::starEach es X.env:=by rfl) (hpl:(backTo pos (starEach es X.env)).any (·.1)=false:=by rfl):PE X (.Call (.Name x p) (e::es) [] pos) (tCB r t):=by
 intro pins s σ H Q I h
 refine wpAny_Call_Name_kw (ld_blt I hg hm hv ?_ hn hdb)
 exact PyProof.Rows.callWith_builtin1 (thn (ha pos pins s σ H _ I h) fun us s1 ⟨vs,H1,I1,r1,q1⟩=>hc pins s1 σ H1 vs us Q I1 r1 q1) he hpl
def pe_callTy (hc:CallR X (.type T) r) (hg:Gl X x) (hm:X.mg x=none) (hv:bootBuiltins x=some (.type T)) (ha:PA X (e::es) t) (hn:x≠"__name__":=by decide) (hdb:(x == ("__debug__":Str))=false:=by decide)
  (he:starEach (e::es) X.env=(false,eval e X.env)::starEach es X.env:=by rfl) (hpl:(backTo pos (starEach es X.env)).any (·.1)=false:=by rfl):PE X (.Call (.Name x p) (e::es) [] pos) (tCB r t):=by
 intro pins s σ H Q I h
 refine wpAny_Call_Name_kw (ld_blt I hg hm hv ?_ hn hdb)
 exact PyProof.Rows.callWith_type1 (thn (ha pos pins s σ H _ I h) fun us s1 ⟨vs,H1,I1,r1,q1⟩=>hc pins s1 σ H1 vs us Q I1 r1 q1) he hpl
end
end L2
namespace HT
open PySem PyProof.Rows
def lexLt:List Int->List Int->Bool
 | [],[]=>false
 | [],_::_=>true
 | _::_,[]=>false
 | x::xs,y::ys=>if x=y then lexLt xs ys else decide (x < y)
def lexLt_cons (x y:Int) (xs ys:List Int):lexLt (x::xs) (y::ys)=if x=y then lexLt xs ys else decide (x < y):=rfl
def lexLt_nil_nil:lexLt [] []=false:=rfl
def lexLt_nil_cons (y:Int) (ys:List Int):lexLt [] (y::ys)=true:=rfl
def lexLt_cons_nil (x:Int) (xs:List Int):lexLt (x::xs) []=false:=rfl
section
variable {prog:Program} {w:World} {A:Around} {E:Value->Shared->Prop} {s:Shared}
def cat_tup {t b:Addr} {vs ws:List Value} {Q:Value->Shared->Prop} (ht:IsTup s.heap t vs.toArray) (hb:IsTup s.heap b ws.toArray) (hv:vs≠[])
  (h1:ws=[]->Q (.ref t) s) (h2:ws≠[]->Q (.ref s.heap.objs.size) { s with heap:=s.heap.push { cls:=.type "tuple",data:=.seq (vs++ws).toArray } })
  (hsz:vs.length + ws.length<=sizeLine):wpAny (model prog w) A (binaryOp .Add (.ref t) (.ref b)) Q E s:=by
 obtain ⟨⟨cls,dd,data,sl⟩,ho,hc,n,hd⟩:=id ht
 obtain ⟨⟨cls2,dd2,data2,sl2⟩,ho2,hc2,n2,hd2⟩:=id hb
 simp only at hc hd hc2 hd2
 subst hc hd hc2 hd2
 have e:vs.toArray++ws.toArray=(vs++ws).toArray:=by simp
 by_cases hw:ws=[]
 ·exact concat_meets ⟨_,ho,rfl⟩ ⟨_,ho2,rfl⟩ noFill_tuple_add seq_tuple_add PySem.F.slot_tuple_add PySem.F.entry_tuple_add (PySem.F.args_tuple_add_2 _ _)
   (tuple_addW1 t b vs.toArray ws.toArray n n2 dd dd2 sl sl2 (by simpa using hv) (by simp [hw])) ⟨ho,ho2,h1 hw⟩
 ·refine concat_meets ⟨_,ho,rfl⟩ ⟨_,ho2,rfl⟩ noFill_tuple_add seq_tuple_add PySem.F.slot_tuple_add PySem.F.entry_tuple_add (PySem.F.args_tuple_add_2 _ _)
   (tuple_addW2 t b vs.toArray ws.toArray n n2 dd dd2 sl sl2 (by simpa using hv) (by simpa using hw) (by rw [List.size_toArray,List.size_toArray]; exact hsz)) ⟨ho,ho2,?_⟩
  rw [e]
  exact h2 hw
def sIx (n d:Nat):Option Int->Nat
 | none=>d
 | some v=>if v < 0 then (v + (n:Int)).toNat else min v.toNat n
def sIx_none (n d:Nat):sIx n d none=d:=rfl
theorem sIx_nat (n d k:Nat):sIx n d (some (k:Int))=min k n:=by
 show (if (k:Int) < 0 then ((k:Int) + (n:Int)).toNat else min (k:Int).toNat n)=min k n
 rw [if_neg (by omega),Int.toNat_natCast]
theorem sIx_le (n d:Nat) (hd:d<=n) (o:Option Int):sIx n d o<=n:=by
 cases o with
 | none=>exact hd
 | some v =>
  show (if v < 0 then (v + (n:Int)).toNat else min v.toNat n)<=n
  by_cases hv:v < 0
  ·rw [if_pos hv]; omega
  ·rw [if_neg hv]; exact Nat.min_le_right _ _
theorem clip_eq (v:Int) (n d:Nat):(if v < 0 then max (v + (n:Int)) 0 else min v (n:Int))=((sIx n d (some v):Nat):Int):=by
 show (if v < 0 then max (v + (n:Int)) 0 else min v (n:Int))=(((if v < 0 then (v + (n:Int)).toNat else min v.toNat n):Nat):Int)
 by_cases hv:v < 0
 ·simp only [if_pos hv]; omega
 ·simp only [if_neg hv]; omega
theorem adjust_gen (lo hi:Option Int) (n:Nat):Builtin.Slice.sliceAdjust lo hi 1 (n:Int)=(((sIx n 0 lo:Nat):Int),((sIx n n hi:Nat):Int)):=by
 have h1:¬ ((1:Int) < 0):=by omega
 unfold Builtin.Slice.sliceAdjust
 simp only [h1,if_false]
 refine Prod.ext ?_ ?_
 ·cases lo with
  | none=>rfl
  | some v=>exact clip_eq v n 0
 ·cases hi with
  | none=>rfl
  | some v=>exact clip_eq v n n
theorem places_gen (i j:Nat):Builtin.Slice.slicePlaces (i:Int) (j:Int) 1=j - i:=by
 unfold Builtin.Slice.slicePlaces
 have h1:(1:Int) > 0:=by omega
 simp only [h1,if_true,Int.ediv_one]
 split <;> omega
theorem slicePart_ {v:Value} {o:Option Int} {Q:Option Int->Shared->Prop} (p:IsPart v o) (h:Q o s):wpAny (model prog w) A (Builtin.Slice.slicePartIndex v) Q E s:=by
 cases p with
 | none=>exact slicePart_none h
 | int i t=>exact slicePart_int h
def sliceApplied_gen {sl:Addr} {vl vu:Value} {lo hi:Option Int} {n:Nat} {Q:Int×Int×Nat->Shared->Prop} (hs:s.heap.IsSliceOf sl vl vu .none) (pl:IsPart vl lo) (pu:IsPart vu hi)
  (h:Q (((sIx n 0 lo:Nat):Int),1,sIx n n hi - sIx n 0 lo) s):wpAny (model prog w) A (Builtin.Slice.sliceApplied (.ref sl) (pure (n:Int))) Q E s:=by
 obtain ⟨os,hos,hcs,hds⟩:=id hs
 unfold Builtin.Slice.sliceApplied Builtin.Slice.sliceFields
 refine wpAny_bind (wpAny_bind (wpAny_field hos hds (x:=vl) rfl (wpAny_bind (wpAny_field hos hds (x:=vu) rfl (wpAny_bind (wpAny_field hos hds (x:=.none) rfl (wpAny_pure ?_)))))))
 refine wpAny_bind (slicePart_none ?_)
 show wpAny _ _ (if ((1:Int) == 0)=true then _ else _) _ _ s
 rw [if_neg (by decide)]
 refine wpAny_bind (slicePart_ pl (wpAny_bind (slicePart_ pu (wpAny_bind (wpAny_pure ?_)))))
 show wpAny _ _ (match Builtin.Slice.sliceAdjust lo hi 1 (n:Int) with | (lo,hi)=>pure (lo,(1:Int),Builtin.Slice.slicePlaces lo hi 1)) _ _ s
 rw [adjust_gen lo hi n]
 show wpAny _ _ (pure (((sIx n 0 lo:Nat):Int),(1:Int),Builtin.Slice.slicePlaces ((sIx n 0 lo:Nat):Int) ((sIx n n hi:Nat):Int) 1)) _ _ s
 rw [places_gen]
 exact wpAny_pure h
theorem pick_gen (xs:Array Value) (i k:Nat):((List.range k).filterMap fun (m:Nat)=>xs[((i:Int) + (m:Int) * 1).toNat]?).toArray=((xs.toList.drop i).take k).toArray:=by
 have e:(fun (m:Nat)=>xs[((i:Int) + (m:Int) * 1).toNat]?)=fun m=>xs[i + m]?:=by
  funext m
  have:((i:Int) + (m:Int) * 1).toNat=i + m:=by omega
  rw [this]
 rw [e]
 have:=pick_run xs i k
 rw [List.filterMap_map] at this
 have e2:((fun x=>xs[x]?) ∘ fun x=>i + x)=fun m=>xs[i + m]?:=rfl
 rw [e2] at this
 rw [this]
theorem getItem_tuple_cut {t sl:Addr} {items:Array Value} {vl vu:Value} {lo hi:Option Int} {Q:Value->Shared->Prop} (ht:IsTup s.heap t items) (hs:s.heap.IsSliceOf sl vl vu .none) (pl:IsPart vl lo) (pu:IsPart vu hi)
  (hw:¬ (sIx items.size 0 lo=0/\sIx items.size items.size hi=items.size))
  (h:Q (.ref s.heap.objs.size) { s with heap:=s.heap.push { cls:=.type "tuple",data:=.seq ((items.toList.drop (sIx items.size 0 lo)).take (sIx items.size items.size hi - sIx items.size 0 lo)).toArray } })
  (hsz:items.size<=sizeLine):wpAny (model prog w) A (getItem (.ref t) (.ref sl)) Q E s:=by
 have htake:sizeOk (.seq ((items.toList.drop (sIx items.size 0 lo)).take (sIx items.size items.size hi - sIx items.size 0 lo)).toArray):=by
  show ((items.toList.drop (sIx items.size 0 lo)).take (sIx items.size items.size hi - sIx items.size 0 lo)).toArray.size<=sizeLine
  rw [List.size_toArray,List.length_take,List.length_drop,Array.length_toList]
  omega
 have hj:sIx items.size items.size hi<=items.size:=sIx_le _ _ (Nat.le_refl _) hi
 obtain ⟨os,hos,hcs,hds⟩:=id hs
 have hTs:s.TypeIs (.ref sl) "slice":=⟨os,hos,hcs⟩
 unfold getItem
 try with_reducible refine wpAny_holding ?_
 first | refine wpAny_bind (wpAny_pure ?_) | skip
 refine wpAny_bind (wpAny_sequenceKey ht.typeIs (by decide) ?_)
 refine wpAny_bind (wpAny_callSpecial?_slot (name:=Str.ofString "__getitem__") ht.typeIs PyProof.Rows.slot_tuple_getitem
  (wpAny_call_entry PyProof.Rows.slot_tuple_getitem ht.typeIs entry_tuple_getitem ?_ (args_tuple_getitem _ _)))
 show wpAny _ _ (Builtin.Tuple.tupleItemsOf (.ref t) >>= _) _ _ s
 refine wpAny_bind (tupleItemsOf_ ht ?_)
 refine wpAny_bind (wpAny_typeOf hTs ?_)
 rw [if_pos (by decide)]
 refine wpAny_bind (sliceApplied_gen hs pl pu ?_)
 have hno:¬ ((((sIx items.size 0 lo:Nat):Int) == 0 && (1:Int) == 1 && (sIx items.size items.size hi - sIx items.size 0 lo) == items.size)=true):=by
  intro q
  rw [Bool.and_eq_true,Bool.and_eq_true] at q
  have q1:((sIx items.size 0 lo:Nat):Int)=0:=eq_of_beq q.1.1
  have q2:sIx items.size items.size hi - sIx items.size 0 lo=items.size:=eq_of_beq q.2
  exact hw ⟨by omega,by omega⟩
 show wpAny _ _ (if (((sIx items.size 0 lo:Nat):Int) == 0 && (1:Int) == 1 && (sIx items.size items.size hi - sIx items.size 0 lo) == items.size)=true then _ else _) _ _ s
 rw [if_neg hno,pick_gen]
 first
  | exact wpAny_bind (m:=Builtin.Tuple.tupleExact _) (wpAny_newObj_type (wpAny_pure ⟨_,rfl,wpAny_pure h⟩) htake)
  | exact wpAny_bind (m:=Builtin.Tuple.tupleExact _) (wpAny_newObj_type (wpAny_bind (wpAny_pure (wpAny_pure ⟨_,rfl,wpAny_pure h⟩))) htake)
  | exact wpAny_bind (wpAny_bind (m:=Builtin.Tuple.tupleExact _) (wpAny_newObj_type (wpAny_pure (wpAny_pure ⟨_,rfl,wpAny_pure h⟩)) htake))
  | exact wpAny_bind (wpAny_bind (m:=Builtin.Tuple.tupleExact _) (wpAny_newObj_type (wpAny_pure ⟨_,rfl,wpAny_pure h⟩) htake))
end
end HT
namespace L2
open PySem PySem.Spec PyProof.Rows
abbrev TO:=St->Hp->(Option Int->Hp->Prop)->Prop
def PO (X:Cx) (e:Option Expr) (t:TO):Prop :=
 ∀ (pins:List (Addr×Obj)) (s:Shared) (σ:St) (H:Hp) (Q:Option Int->Hp->Prop),Inv X pins σ H s->t σ H Q ->
  wpAny (model X.prog X.w) X.A (evalPart e X.env) (fun u s'=>∃ o H',Inv X pins σ H' s'/\IsPart u o/\Q o H') X.xe s
def tNoPart:TO:=fun _ H Q=>Q none H
def tPart (t:TE):TO:=fun σ H Q=>t σ H fun x H1=>∃ i,x=.int i/\Q (some i) H1
section
variable {X:Cx} {e:Expr} {te:TE} {lo hi:Option Expr} {tl th:TO} {pos p2:Pos}
def po_none:PO X none tNoPart:=by
 intro pins s σ H Q I h
 rw [evalPart_none]
 exact wpAny_pure ⟨none,H,I,.none,h⟩
def po_some (h:PE X e te):PO X (some e) (tPart te):=by
 intro pins s σ H Q I hw
 rw [evalPart_some]
 refine thn (h pins s σ H _ I hw) fun u s1 ⟨x,H1,I1,r1,q1⟩=>?_
 obtain ⟨i,rfl,q⟩:=q1
 obtain ⟨t,rfl⟩:=r1
 exact ⟨some i,H1,I1,.int i t,q⟩
def SlR (X:Cx) (r:V->Option Int->Option Int->Hp->VK->Prop):Prop :=
 ∀ (pins:List (Addr×Obj)) (s:Shared) (σ:St) (H:Hp) (x:V) (v vl vu:Value) (lo hi:Option Int) (sl:Addr) (Q:VK),Inv X pins σ H s->RelV x v->s.heap.IsSliceOf sl vl vu .none->IsPart vl lo->IsPart vu hi->r x lo hi H Q ->
  ∃ T id,typeLookup (.type T) "__getitem__"=pure (some (.builtin id))/\s.TypeIs v T/\wpAny (model X.prog X.w) X.A (getItem v (.ref sl)) (EP X pins σ Q) X.xe s
def tSl (r:V->Option Int->Option Int->Hp->VK->Prop) (te:TE) (tl th:TO):TE:=fun σ H Q=>te σ H fun x H1=>tl σ H1 fun l H2=>th σ H2 fun u H3=>r x l u H3 Q
def pe_slice {r:V->Option Int->Option Int->Hp->VK->Prop} (hr:SlR X r) (he:PE X e te) (hl:PO X lo tl) (hu:PO X hi th):PE X (.Subscript e (.Slice lo hi none p2) pos) (tSl r te tl th):=by
 intro pins s σ H Q I h
 refine Subscript_ (thn (he pins s σ H _ I h) fun v s1 ⟨x,H1,I1,r1,q1⟩=>?_)
 refine wpAny_Slice (thn (hl pins s1 σ H1 _ I1 q1) fun vl s2 ⟨l,H2,I2,pl,q2⟩=>thn (hu pins s2 σ H2 _ I2 q2) fun vu s3 ⟨u,H3,I3,pu,q3⟩=>?_)
 rw [evalPart_none]
 refine wpAny_pure ?_
 have I4:Inv X pins σ H3 { s3 with heap:=s3.heap.push { cls:=.type "slice",data:=.fields #[vl,vu,.none] } }:=I3.kept (t':=s3.toks) fun b ob q=>Heap.get?_push_of_some _ q
 obtain ⟨T,id,hT,ht,hg⟩:=hr pins { s3 with heap:=s3.heap.push { cls:=.type "slice",data:=.fields #[vl,vu,.none] } } σ H3 x v vl vu l u s3.heap.objs.size Q I4 r1 (Heap.IsSliceOf.new ..) pl pu q3
 show wpAny (model X.prog X.w) X.A (subscriptTail e (.Slice lo hi none p2) v (.ref s3.heap.objs.size)) (EP X pins σ Q) X.xe { s3 with heap:=s3.heap.push { cls:=.type "slice",data:=.fields #[vl,vu,.none] } }
 exact tail_any (ops:=[.ref s3.heap.objs.size,v]) ht hT hg (by with_unfolding_all rfl)
def cutV (xs:List V) (lo hi:Option Int):List V:=(xs.drop (HT.sIx xs.length 0 lo)).take (HT.sIx xs.length xs.length hi - HT.sIx xs.length 0 lo)
theorem cutV_length (xs:List V) (lo hi:Option Int):(cutV xs lo hi).length<=xs.length:=by
 unfold cutV
 rw [List.length_take,List.length_drop]
 omega
def rCatT (K:W.Frag):R2:=fun x y H Q=>∃ a b xs ys,x=.ref a/\y=.ref b/\SqT K H a xs/\SqT K H b ys/\xs≠[]/\xs.length + ys.length<=sizeLine /\
 (ys=[]->Q (.ref a) H)/\(ys≠[]->∀ p,H p=none->Q (.ref p) (upd H p (.tup (xs++ys))))
theorem Vals.nil_iff {xs:List V} {us:List Value} (r:Vals xs us):us=[]↔xs=[]:=by
 cases r with
 | nil=>simp
 | cons _ _=>simp
def op_catT:OpR X (binaryOp .Add) (rCatT X.K):=by
 intro pins s σ H x y v u Q I rx ry h
 obtain ⟨a,b,xs,ys,rfl,rfl,ha,hb,hx,hz,q1,q2⟩:=h
 cases rx
 cases ry
 obtain ⟨its,r1,p1,_⟩:=I.tuple ha
 obtain ⟨its2,r2,p2,_⟩:=I.tuple hb
 refine HT.cat_tup p1 p2 (fun z=>hx (r1.nil_iff.mp z)) (fun z=>⟨.ref a,H,I,rfl,q1 (r2.nil_iff.mp z)⟩) (fun z=>?_) (by rw [<- r1.length,<- r2.length]; exact hz)
 refine ⟨.ref s.heap.objs.size,_,I.laid (t':=s.toks) (o:=.tup (xs++ys)) (fun b ob q=>Heap.get?_push_of_some _ q) (Nat.le_refl _) ?_,rfl,q2 (fun w=>z (r2.nil_iff.mpr w)) _ (I.hok.fresh (Nat.le_refl _))⟩
 exact ⟨by rw [List.length_append]; exact hz,_,r1.append r2,IsTupD.new _ _⟩
end
def ixN (n:Nat) (i:Int):Option Nat:=if 0<=i then (if i < n then some i.toNat else none) else if -(n:Int)<=i then some (i + n).toNat else none
def atI {α:Type} (xs:List α) (i:Int):Option α:=(ixN xs.length i).bind fun j=>xs[j]?
theorem ixN_seq {n:Nat} {i:Int} {j:Nat} (h:ixN n i=some j):seqIndex? i n=some j/\j < n/\-(n:Int)<=i/\i < n:=by
 unfold ixN at h
 by_cases h0:0<=i
 ·rw [if_pos h0] at h
  by_cases h1:i < n
  ·rw [if_pos h1] at h
   have e:i.toNat=j:=Option.some.inj h
   exact ⟨by rw [seqIndex_of h0 h1,e],by omega,by omega,h1⟩
  ·rw [if_neg h1] at h; cases h
 ·rw [if_neg h0] at h
  by_cases h1:-(n:Int)<=i
  ·rw [if_pos h1] at h
   have e:(i + n).toNat=j:=Option.some.inj h
   exact ⟨by rw [seqIndex_neg (by omega) h1,e],by omega,h1,by omega⟩
  ·rw [if_neg h1] at h; cases h
theorem atI_get {α:Type} {xs:List α} {i:Int} {v:α} (h:atI xs i=some v):∃ j,seqIndex? i xs.length=some j/\xs[j]?=some v/\j < xs.length/\-(xs.length:Int)<=i/\i < xs.length:=by
 unfold atI at h
 cases e:ixN xs.length i with
 | none=>rw [e] at h; cases h
 | some j =>
  rw [e] at h
  obtain ⟨h1,h2,h3,h4⟩:=ixN_seq e
  exact ⟨j,h1,h,h2,h3,h4⟩
theorem atI_nat {α:Type} {xs:List α} {j:Nat} {v:α} (h:xs[j]?=some v):atI xs (j:Int)=some v:=by
 have hj:j < xs.length:=(List.getElem?_eq_some_iff.mp h).1
 have e:ixN xs.length (j:Int)=some j:=by
  unfold ixN
  rw [if_pos (by omega),if_pos (by omega)]; simp
 unfold atI; rw [e]; exact h
def PlainIx (b:Expr):Prop:=∀ o i,subscripted b false o i=operate [o,i] (getItem o i)
def IxR (X:Cx) (r:R2):Prop :=
 ∀ (value slice:Expr) (pins:List (Addr×Obj)) (s:Shared) (σ:St) (H:Hp) (x y:V) (v u:Value) (Q:VK),Inv X pins σ H s->RelV x v->RelV y u->r x y H Q ->
  subscripted slice false v u=operate [v,u] (getItem v u)->wpAny (model X.prog X.w) X.A (subscriptTail value slice v u) (EP X pins σ Q) X.xe s
def MtR (X:Cx) (id:String) (r:V->List V->Hp->VK->Prop):Prop :=
 ∀ (pins:List (Addr×Obj)) (s:Shared) (σ:St) (H:Hp) (x:V) (xs:List V) (v:Value) (us:List Value) (Q:VK),Inv X pins σ H s->RelV x v->Vals xs us->r x xs H Q ->
  wpAny (model X.prog X.w) X.A (call (.builtin id) (v::us)) (EP X pins σ Q) X.xe s
section
variable {X:Cx} {a b:Expr} {ta tb:TE} {pos:Pos}
def IxR.or {r r':R2} (h:IxR X r) (h':IxR X r'):IxR X (fun x y H Q=>r x y H Q\/r' x y H Q):=by
 intro value slice pins s σ H x y v u Q I rx ry q hs
 rcases q with q | q
 ·exact h value slice pins s σ H x y v u Q I rx ry q hs
 ·exact h' value slice pins s σ H x y v u Q I rx ry q hs
def pe_ix {r:R2} (hr:IxR X r) (ha:PE X a ta) (hb:PE X b tb) (hs:PlainIx b):PE X (.Subscript a b pos) (tOp r ta tb):=by
 intro pins s σ H Q I h
 exact Subscript_ (binT ha hb I h fun v u s2 x y H2 I2 rx ry q=>hr a b pins s2 σ H2 x y v u Q I2 rx ry q (hs _ _))
def rIxL (K:W.Frag):R2:=fun x y H Q=>∃ p xs i v,x=.ref p/\y=.int i/\SqL K H p xs/\atI xs i=some v/\Q v H
def rIxT (K:W.Frag):R2:=fun x y H Q=>∃ p xs i v,x=.ref p/\y=.int i/\SqT K H p xs/\atI xs i=some v/\Q v H
def rIxS:R2:=fun x y H Q=>∃ z i c,x=.str z/\y=.int i/\z.length<=sizeLine/\atI z.cps.toList i=some c/\Q (.str ⟨#[c]⟩) H
theorem ix_list:IxR X (rIxL X.K):=by
 intro value slice pins s σ H x y v u Q I rx ry h hs
 obtain ⟨p,xs,i,z,rfl,rfl,hq,he,q⟩:=h
 cases rx
 obtain ⟨t,rfl⟩:=ry
 obtain ⟨its,r,pl,hz⟩:=I.list hq
 obtain ⟨j,h1,h2,h3,h4,h5⟩:=atI_get he
 obtain ⟨w,ew,rw'⟩:=r.get h2
 have hl:=r.length
 have hn:=line63
 have fin:EP X pins σ Q w s:=⟨z,H,I,rw',q⟩
 by_cases h0:0<=i
 ·have hj:i.toNat=j:=by
   rw [seqIndex_of h0 h5] at h1
   exact Option.some.inj h1
  exact item_listR pl.isList h0 (by omega) (by rw [hj]; simpa using ew) fin hs
 ·have hj:(i + (its.toArray.size:Int)).toNat=j:=by
   rw [seqIndex_neg (by omega) h4] at h1
   rw [List.size_toArray,<- hl]
   exact Option.some.inj h1
  exact subscriptTail_builtinR (x:=w) pl.isList.typeIs slot_list_getitem.lookup
   (wpAny_getItem_list_neg (Q:=fun r s'=>r=w/\EP X pins σ Q r s') pl.isList (by omega) (by rw [List.size_toArray] <;> omega) (by omega) (by rw [hj]; simpa using ew) ⟨rfl,fin⟩) hs
theorem ix_tup:IxR X (rIxT X.K):=by
 intro value slice pins s σ H x y v u Q I rx ry h hs
 obtain ⟨p,xs,i,z,rfl,rfl,hq,he,q⟩:=h
 cases rx
 obtain ⟨t,rfl⟩:=ry
 obtain ⟨its,r,pl,hz⟩:=I.tuple hq
 obtain ⟨j,h1,h2,h3,h4,h5⟩:=atI_get he
 obtain ⟨w,ew,rw'⟩:=r.get h2
 have hl:=r.length
 have hn:=line63
 have fin:EP X pins σ Q w s:=⟨z,H,I,rw',q⟩
 exact subscriptTail_builtinR (x:=w) pl.typeIs slot_tuple_getitem.lookup
  (getItem_tuple (j:=j) (Q:=fun r s'=>r=w/\EP X pins σ Q r s') pl (by omega) (by omega) (by rw [List.size_toArray,<- hl]; exact h1) (by simpa using ew) ⟨rfl,fin⟩) hs
theorem ix_str:IxR X rIxS:=by
 intro value slice pins s σ H x y v u Q I rx ry h hs
 obtain ⟨z,i,c,rfl,rfl,hz,he,q⟩:=h
 obtain ⟨t,rfl⟩:=rx
 obtain ⟨t',rfl⟩:=ry
 obtain ⟨j,h1,h2,h3,h4,h5⟩:=atI_get he
 have hl:z.cps.toList.length=z.length:=by simp [Str.length]
 rw [hl] at h1 h4 h5
 have hn:=line63
 exact tail_any (typeIs_str s z t) slot_str_getitem.lookup (getItem_str (c:=c) (by
  have e1:decide (i < -(2 ^ 63:Int))=false:=decide_eq_false (by omega)
  have e2:decide (i≥2 ^ 63)=false:=decide_eq_false (by omega)
  rw [e1,e2,Bool.or_false]) (by rw [h1]; simpa using h2) ⟨.str ⟨#[c]⟩,H,I.tok _,⟨_,rfl⟩,q⟩) hs
def rIx (K:W.Frag):R2:=fun x y H Q=>rIxL K x y H Q\/rIxT K x y H Q\/rIxS x y H Q
def ix_seq:IxR X (rIx X.K):=ix_list.or (ix_tup.or ix_str)
def mapSeq_set (its:List Value) (n j:Nat) (u:Value):Obj.mapSeq (·.setIfInBounds j u) { cls:=.type "list",data:=.seq its.toArray n }={ cls:=.type "list",data:=.seq (its.set j u).toArray n }:=by
 simp [Obj.mapSeq]
def Inv.lst {pins:List (Addr×Obj)} {σ:St} {H:Hp} {s:Shared} {p:Addr} {xs:List V} (I:Inv X pins σ H s) (h:H p=some (.lst xs)) :
  ∃ (its:List Value) (n:Nat),Vals xs its/\s.heap.get? p=some { cls:=.type "list",data:=.seq its.toArray n }/\xs.length<=sizeLine:=by
 obtain ⟨z,its,n,r,e⟩:=I.hok p _ h
 exact ⟨its,n,r,e,z⟩
def Inv.lstUpd {pins:List (Addr×Obj)} {σ:St} {H:Hp} {s:Shared} {p:Addr} {xs ys:List V} {its its':List Value} {n n':Nat} {f:Obj->Obj} (I:Inv X pins σ H s) (h:H p=some (.lst xs))
  (ho:s.heap.get? p=some { cls:=.type "list",data:=.seq its.toArray n }) (hf:f { cls:=.type "list",data:=.seq its.toArray n }={ cls:=.type "list",data:=.seq its'.toArray n' }) (r:Vals ys its') (hz:ys.length<=sizeLine) (t:Nat) :
  Inv X pins σ (upd H p (.lst ys)) { s with heap:=s.heap.update p f,toks:=t }:=by
 have e:(s.heap.update p f).get? p=some { cls:=.type "list",data:=.seq its'.toArray n' }:=by
  rw [Heap.get?_update_self f ho (by rw [hf] <;> rfl),hf]
 refine I.write (x:=p) (e:=p) (by rw [h]; trivial) (.inl rfl) (fun b u hb q=>(Heap.get?_update_other _ _ (Ne.symm hb)).trans q) ⟨_,e⟩ ?_
 exact ⟨hz,its',n',r,e⟩
def rSetL:V->V->V->Hp->(Hp->Prop)->Prop:=fun o i v H Q=>∃ p xs k j,o=.ref p/\i=.int k/\H p=some (.lst xs)/\ixN xs.length k=some j/\Q (upd H p (.lst (xs.set j v)))
theorem set_list:PSet X rSetL:=by
 intro pins s σ H o i v ov iv u Q I ro ri rv h
 obtain ⟨p,xs,k,j,rfl,rfl,hp,hj,q⟩:=h
 cases ro
 obtain ⟨t,rfl⟩:=ri
 obtain ⟨its,n,r,ho,hz⟩:=I.lst hp
 obtain ⟨h1,h2,h3,h4⟩:=ixN_seq hj
 have hl:=r.length
 have hn:=line63
 have I':Inv X pins σ (upd H p (.lst (xs.set j v))) { s with heap:=s.heap.update p (Obj.mapSeq (·.setIfInBounds j u)) } :=
  I.lstUpd hp ho (mapSeq_set its n j u) (r.set rv j) (by rw [List.length_set]; exact hz) s.toks
 by_cases h0:0<=k
 ·have hk:k.toNat=j:=by
   rw [seqIndex_of h0 h4] at h1
   exact Option.some.inj h1
  exact W.ki_setAt ho h0 (by omega) (by rw [List.size_toArray,<- hl]; exact h4) (by rw [hk]; exact ⟨_,I',q⟩)
 ·have hk:(k + (its.toArray.size:Int)).toNat=j:=by
   rw [seqIndex_neg (by omega) h3] at h1
   rw [List.size_toArray,<- hl]
   exact Option.some.inj h1
  exact W.ki_setBack ho (by omega) (by rw [List.size_toArray,<- hl]; exact h3) (by omega) (by rw [hk]; exact ⟨_,I',q⟩)
theorem slice_bounds (lo hi:Option Int) (n:Nat):(sliceBounds lo hi none n).1=((HT.sIx n 0 lo:Nat):Int)/\(sliceBounds lo hi none n).2.1=((HT.sIx n n hi:Nat):Int)/\(sliceBounds lo hi none n).2.2=1:=by
 refine ⟨?_,?_,rfl⟩
 ·cases lo with
  | none=>simp [sliceBounds,HT.sIx]
  | some i =>
   simp only [sliceBounds,HT.sIx,Option.getD_none,show (1:Int) > 0 by decide,if_true]
   by_cases h:i < 0
   ·simp only [h,if_true] <;> omega
   ·simp only [h,if_false] <;> omega
 ·cases hi with
  | none=>simp [sliceBounds,HT.sIx]
  | some i =>
   simp only [sliceBounds,HT.sIx,Option.getD_none,show (1:Int) > 0 by decide,if_true]
   by_cases h:i < 0
   ·simp only [h,if_true] <;> omega
   ·simp only [h,if_false] <;> omega
def slicePick_cut (its:List Value) (lo hi:Option Int):slicePick its.toArray lo hi none=((its.drop (HT.sIx its.length 0 lo)).take (HT.sIx its.length its.length hi - HT.sIx its.length 0 lo)).toArray:=by
 obtain ⟨h1,h2,h3⟩:=slice_bounds lo hi its.toArray.size
 unfold slicePick
 rw [h1,h2,h3]
 simp only [sliceRange_one,pick_run,List.size_toArray] <;> rfl
def rSlL (K:W.Frag):V->Option Int->Option Int->Hp->VK->Prop:=fun x lo hi H Q=>∃ a xs,x=.ref a/\SqL K H a xs/\∀ p,H p=none->Q (.ref p) (upd H p (.lst (cutV xs lo hi)))
theorem sl_list:SlR X (rSlL X.K):=by
 intro pins s σ H x v vl vu lo hi sl Q I rx hs pl pu h
 obtain ⟨a,xs,rfl,hx,q⟩:=h
 cases rx
 obtain ⟨its,r,ht,hz⟩:=I.list hx
 have hlen:=r.length
 refine ⟨"list",_,slot_list_getitem.lookup,ht.isList.typeIs,?_⟩
 refine wpAny_getItem_list_slice ht.isList hs pl pu .none (by simp) ?_ (by rw [List.size_toArray] <;> omega)
 rw [slicePick_cut,<- hlen]
 refine ⟨.ref s.heap.objs.size,_,I.laid (t':=s.toks) (o:=.lst (cutV xs lo hi)) (fun b ob q=>Heap.get?_push_of_some _ q) (Nat.le_refl _) ?_,rfl,q _ (I.hok.fresh (Nat.le_refl _))⟩
 exact ⟨Nat.le_trans (cutV_length xs lo hi) hz,_,0,(r.drop (HT.sIx xs.length 0 lo)).take (HT.sIx xs.length xs.length hi - HT.sIx xs.length 0 lo),Heap.get?_push_size _ rfl⟩
theorem call_list_of:CallR X (.type "list") (fun xs H Q=>∃ p ys,xs=[.ref p]/\(SqL X.K H p ys\/SqT X.K H p ys)/\∀ l,H l=none->Q (.ref l) (upd H l (.lst ys))):=by
 intro pins s σ H xs us Q I r h
 obtain ⟨p,ys,rfl,hq,q⟩:=h
 obtain ⟨u,rfl,rx⟩:=vals1 r
 cases rx
 have fin:∀ (its:List Value),Vals ys its->ys.length<=sizeLine->∀ (h':Heap) (c':Nat),(∀ b o',s.heap.get? b=some o'->h'.get? b=some o') ->
   h'.get? s.heap.objs.size=some { cls:=.type "list",dict:=none,data:=.seq its.toArray c',slots:=#[] }->EP X pins σ Q (.ref s.heap.objs.size) { s with heap:=h' }:=fun its r' hz h' c' kp e =>
  ⟨.ref s.heap.objs.size,_,I.laid (t':=s.toks) kp (Nat.le_refl _) (show ObjOk X.prog X.w _ h' _ (.lst ys) from ⟨hz,its,c',r',e⟩),rfl,q _ (I.hok.fresh (Nat.le_refl _))⟩
 rcases hq with hq | hq
 ·obtain ⟨its,r',pl,hz⟩:=I.list hq
  have hlen:=r'.length
  obtain ⟨o,ho,hc,n,hd⟩:=pl.isList
  exact call_list_seq p (.inl rfl) ho hc hd (fun h' c' kp e=>fin its r' hz h' c' kp e) (by simp only [List.size_toArray] <;> omega)
 ·obtain ⟨its,r',pl,hz⟩:=I.tuple hq
  have hlen:=r'.length
  obtain ⟨o,ho,hc,n,hd⟩:=pl
  exact call_list_seq p (.inr rfl) ho hc hd (fun h' c' kp e=>fin its r' hz h' c' kp e) (by simp only [List.size_toArray] <;> omega)
theorem call_tuple_of:CallR X (.type "tuple") (fun xs H Q=>∃ p ys,xs=[.ref p]/\((SqL X.K H p ys/\∀ l,H l=none->Q (.ref l) (upd H l (.tup ys)))\/(SqT X.K H p ys/\Q (.ref p) H))):=by
 intro pins s σ H xs us Q I r h
 obtain ⟨p,ys,rfl,h⟩:=h
 obtain ⟨u,rfl,rx⟩:=vals1 r
 cases rx
 rcases h with ⟨hq,q⟩ | ⟨hq,q⟩
 ·obtain ⟨its,r',pl,hz⟩:=I.list hq
  have hlen:=r'.length
  refine call_tuple_list pl.isList (fun h' kp=>?_) (by simp only [List.size_toArray] <;> omega)
  have I1:Inv X pins σ H { s with heap:=h' }:=I.kept (t':=s.toks) kp
  have I2:Inv X pins σ (upd H h'.objs.size (.tup ys)) { s with heap:=h'.push { cls:=.type "tuple",data:=.seq its.toArray } } :=
   I1.laid (t':=s.toks) (fun b o e=>Heap.get?_push_of_some _ e) (Nat.le_refl _) (show ObjOk X.prog X.w _ _ _ (.tup ys) from ⟨hz,its,r',IsTupD.new _ _⟩)
  exact ⟨.ref h'.objs.size,_,I2,rfl,q _ (I1.hok.fresh (Nat.le_refl _))⟩
 ·obtain ⟨its,r',pl,hz⟩:=I.tuple hq
  exact call_tuple_same pl ⟨.ref p,H,I,rfl,q⟩
def tyV (K:W.Frag) (T:String) (x:V) (H:Hp):Prop:=match x with
 | .str _=>T="str"
 | .int _=>T="int"
 | .ref p=>(T="list"/\∃ xs,SqL K H p xs)\/(T="tuple"/\∃ o,K.lookup p=some o/\o.cls=.type "tuple"/\o.dict=none) \/
   (T="dict"/\((∃ kvs,H p=some (.dK kvs))\/∃ kvs,H p=some (.dT kvs)))\/(T="set"/\∃ S n,H p=some (.set S n))
 | _=>False
theorem tyV_is {pins:List (Addr×Obj)} {σ:St} {H:Hp} {s:Shared} {T:String} {x:V} {v:Value} (I:Inv X pins σ H s) (r:RelV x v) (ty:tyV X.K T x H) :
  s.TypeIs v T/\∀ a,v=.ref a->∃ ob,s.heap.get? a=some ob/\ob.dict=none:=by
 cases x with
 | str z =>
  obtain ⟨t,rfl⟩:=r
  cases (show T="str" from ty)
  exact ⟨typeIs_str s z t,fun _ e=>nomatch e⟩
 | int i =>
  obtain ⟨t,rfl⟩:=r
  cases (show T="int" from ty)
  exact ⟨typeIs_int s i t,fun _ e=>nomatch e⟩
 | ref p =>
  cases r
  rcases ty with ⟨rfl,xs,hq⟩ | ⟨rfl,o,hk,hc,hd⟩ | ⟨rfl,hk⟩ | ⟨rfl,S,n,hk⟩
  ·obtain ⟨its,_,pl,_⟩:=I.list hq
   refine ⟨pl.isList.typeIs,fun a e=>?_⟩
   cases e
   obtain ⟨o,n,e,c,hd,_⟩:=pl
   exact ⟨o,e,hd⟩
  ·refine ⟨⟨o,I.kIn p o hk,hc⟩,fun a e=>?_⟩
   cases e
   exact ⟨o,I.kIn _ o hk,hd⟩
  ·have z:∃ o,s.heap.get? p=some o/\o.ExactDict:=by
    rcases hk with ⟨kvs,hk⟩ | ⟨kvs,hk⟩
    ·obtain ⟨_,_,_,_,o,_,_,e,ex,_⟩:=I.hok p _ hk
     exact ⟨o,e,ex⟩
    ·obtain ⟨_,_,_,_,o,_,_,e,ex,_⟩:=I.hok p _ hk
     exact ⟨o,e,ex⟩
   obtain ⟨o,e,ex⟩:=z
   refine ⟨⟨o,e,ex.1⟩,fun a e2=>?_⟩
   cases e2
   exact ⟨o,e,ex.2.1⟩
  ·obtain ⟨o,_,_,_,e,ex,_⟩:=I.hok p _ hk
   refine ⟨⟨o,e,ex.1⟩,fun a e2=>?_⟩
   cases e2
   exact ⟨o,e,ex.2.1⟩
 | _=>exact False.elim ty
def tBM0 (K:W.Frag) (T:String) (r:V->List V->Hp->VK->Prop) (to:TE):TE:=fun σ H Q=>to σ H fun x H1=>tyV K T x H1/\r x [] H1 Q
def tBM (K:W.Frag) (T:String) (r:V->List V->Hp->VK->Prop) (to:TE) (t:TA):TE:=fun σ H Q=>to σ H fun x H1=>tyV K T x H1/\t σ H1 fun xs H2=>r x xs H2 Q
variable {o e:Expr} {es:List Expr} {to:TE} {t:TA} {name:Str} {apos cpos:Pos} {T id:String} {r:V->List V->Hp->VK->Prop}
def pe_bm0 (pa:PlainAttrs T) (slot:Slot T name id) (hty:typeOf (.builtin id)=pure (.type "method_descriptor")) (hm:MtR X id r) (ho:PE X o to)
  (hbase:attributeBase o name X.env (eval o X.env)=eval o X.env:=by rfl) (hline:(apos.endLine == cpos.line)=true:=by rfl):PE X (.Call (.Attribute o name apos) [] [] cpos) (tBM0 X.K T r to):=by
 intro pins s σ H Q I h
 refine wpAny_Call_method0_late hbase hline (thn (ho pins s σ H _ I h) fun v s1 ⟨x,H1,I1,r1,ty,q1⟩=>?_)
 obtain ⟨h1,h2⟩:=tyV_is I1 r1 ty
 exact ⟨T,id,pa,slot,hty,h1,h2,Calls.callWith_builtin rfl (PySem.evalArgs_none (hm pins s1 σ H1 x [] v [] Q I1 r1 .nil q1))⟩
def pe_bm (pa:PlainAttrs T) (slot:Slot T name id) (hty:typeOf (.builtin id)=pure (.type "method_descriptor")) (hm:MtR X id r) (ho:PE X o to) (ha:PA X (e::es) t)
  (hbase:attributeBase o name X.env (eval o X.env)=eval o X.env:=by rfl)
  (hfew:((backTo cpos (starEach (e::es) X.env)).all (fun x=>!x.1) && (backToKw cpos (keywordEach [] X.env)).all (fun x=>x.1.isSome)
   && decide ((e::es).length + ([]:List Keyword).length + (if ([]:List Keyword).isEmpty then 0 else 1) < 30))=true:=by rfl)
  (hline:(apos.endLine == cpos.line)=true:=by rfl) (hs:starEach (e::es) X.env=(false,eval e X.env)::starEach es X.env:=by rfl) (hplain:(backTo cpos (starEach es X.env)).any (·.1)=false:=by rfl) :
  PE X (.Call (.Attribute o name apos) (e::es) [] cpos) (tBM X.K T r to t):=by
 intro pins s σ H Q I h
 refine wpAny_Call_method_late hbase hfew hline rfl (thn (ho pins s σ H _ I h) fun v s1 ⟨x,H1,I1,r1,ty,q1⟩=>?_)
 obtain ⟨h1,h2⟩:=tyV_is I1 r1 ty
 refine ⟨T,id,pa,slot,hty,h1,h2,?_⟩
 have hA:=ha cpos pins s1 σ H1 _ I1 q1
 rw [hs] at hA ⊢
 refine Calls.callWith_builtin (by show (false || (backTo cpos (starEach es X.env)).any (·.1))=false; rw [hplain] <;> rfl) (Calls.evalArgs_plain ?_)
 exact thn hA fun us s2 ⟨vs,H2,I2,r2,q2⟩=>hm pins s2 σ H2 x vs v us Q I2 r1 r2 q2
end
def MtM (X:Cx) (id:String) (r:V->List V->Hp->VK->Prop):Prop :=
 ∀ (pins:List (Addr×Obj)) (s:Shared) (σ:St) (H:Hp) (x:V) (xs:List V) (v:Value) (us:List Value) (Q:VK),Inv X pins σ H s->RelV x v->Vals xs us->r x xs H Q ->
  wpAny (model X.prog X.w) X.A (call (.builtin id) (v::us)) (EP X pins σ Q) X.xe s
theorem Vals.one:∀ {x:V} {us:List Value},Vals [x] us->∃ u,us=[u]/\RelV x u
 | _,_,.cons r .nil=>⟨_,rfl,r⟩
theorem Vals.zero:∀ {us:List Value},Vals [] us->us=[]
 | _,.nil=>rfl
theorem Vals.reverse {xs:List V} {us:List Value} (h:Vals xs us):Vals xs.reverse us.reverse:=by
 induction h with
 | nil=>exact .nil
 | cons r t ih=>rw [List.reverse_cons,List.reverse_cons]; exact Vals.append ih (.cons r .nil)
theorem Vals.rep {xs:List V} {us:List Value} (h:Vals xs us):∀ k:Nat,Vals (List.replicate k xs).flatten (List.replicate k us).flatten
 | 0=>.nil
 | k + 1=>by
  rw [List.replicate_succ,List.replicate_succ,List.flatten_cons,List.flatten_cons]
  exact Vals.append h (Vals.rep h k)
theorem foldl_rep (its:List Value):∀ (k:Nat) (acc:List Value),
  List.foldl (fun x1 x2=>x1++x2) acc.toArray (List.replicate k its.toArray)=(acc++(List.replicate k its).flatten).toArray
 | 0,acc=>by simp
 | k + 1,acc=>by
  have e:acc.toArray++its.toArray=(acc++its).toArray:=by simp
  have e2:(acc++its)++(List.replicate k its).flatten=acc++(List.replicate (k + 1) its).flatten:=by
   rw [List.replicate_succ,List.flatten_cons,List.append_assoc]
  rw [<- e2,<- foldl_rep its k (acc++its),<- e,List.replicate_succ,List.foldl_cons]
section
variable {X:Cx} {pins:List (Addr×Obj)} {σ:St} {H:Hp} {s:Shared} {l:Addr} {xs ys:List V}
def Inv.lset {its its':List Value} {n:Nat} {f:Array Value->Array Value} {t':Nat} (I:Inv X pins σ H s) (hH:H l=some (.lst xs))
  (e:s.heap.get? l=some { cls:=.type "list",data:=.seq its.toArray n }) (hf:f its.toArray=its'.toArray) (hv:Vals ys its') (hz:ys.length<=sizeLine) :
  Inv X pins σ (upd H l (.lst ys)) { s with heap:=s.heap.update l (Obj.mapSeq f),toks:=t' }:=by
 have q:=PySem.IsL.update e f
 rw [hf] at q
 refine I.write (x:=l) (e:=l) (by rw [hH]; exact trivial) (.inl rfl) (fun b' u hb hu=>(Heap.get?_update_other s.heap (Obj.mapSeq f) (Ne.symm hb)).trans hu) ⟨_,q⟩ ?_
 exact ⟨hz,its',_,hv,q⟩
def Inv.lnew {its:List Value} {t':Nat} (I:Inv X pins σ H s) (hv:Vals ys its) (hz:ys.length<=sizeLine) :
  Inv X pins σ (upd H s.heap.objs.size (.lst ys)) { s with heap:=s.heap.push { cls:=.type "list",data:=.seq its.toArray },toks:=t' } :=
 I.laid (fun _ _ q=>Heap.get?_push_of_some _ q) (Nat.le_refl _) ⟨hz,its,0,hv,Heap.get?_push_size _ rfl⟩
def Inv.fresh (I:Inv X pins σ H s):H s.heap.objs.size=none:=I.hok.fresh (Nat.le_refl _)
def Inv.lstM (I:Inv X pins σ H s) (hH:H l=some (.lst xs)):xs.length<=sizeLine/\∃ (its:List Value) (n:Nat),Vals xs its/\xs.length=its.length/\s.heap.get? l=some { cls:=.type "list",data:=.seq its.toArray n }:=by
 obtain ⟨z,its,n,r,e⟩:=I.hok l _ hH
 exact ⟨z,its,n,r,r.length,e⟩
theorem notLongL {n:Nat} (h:n<=sizeLine):Builtin.List.listTooLong n=false:=by
 unfold Builtin.List.listTooLong
 exact decide_eq_false (by omega)
end
section
variable {X:Cx}
def rAppend:V->List V->Hp->VK->Prop:=fun x vs H Q=>∃ l xs y,x=.ref l/\vs=[y]/\H l=some (.lst xs)/\xs.length < sizeLine/\Q .non (upd H l (.lst (xs++[y])))
theorem mt_append:MtM X "list.append" rAppend:=by
 intro pins s σ H x vs v us Q I rx rv h
 obtain ⟨l,xs,y,rfl,rfl,hH,hz,q⟩:=h
 cases rx
 obtain ⟨u,rfl,ru⟩:=rv.one
 obtain ⟨z,its,n,r,hl,e⟩:=I.lstM hH
 refine call_meets F.slot_list_append ⟨_,e,rfl⟩ F.entry_list_append (F.args_list_append_2 _ _) (PySem.list_append l its.toArray n u (by rw [List.size_toArray]; omega)) ⟨e,?_⟩
 refine ⟨.non,_,I.lset (its':=its++[u]) hH e (by simp) (r.append (.cons ru .nil)) ?_,rfl,q⟩
 rw [List.length_append,List.length_singleton]
 omega
def rExtend:V->List V->Hp->VK->Prop:=fun x vs H Q=>∃ l b xs zs,x=.ref l/\vs=[.ref b]/\H l=some (.lst xs)/\H b=some (.lst zs)/\xs.length + zs.length<=sizeLine/\Q .non (upd H l (.lst (xs++zs)))
theorem mt_extend:MtM X "list.extend" rExtend:=by
 intro pins s σ H x vs v us Q I rx rv h
 obtain ⟨l,b,xs,zs,rfl,rfl,hH,hB,hz,q⟩:=h
 cases rx
 obtain ⟨u,rfl,ru⟩:=rv.one
 cases ru
 obtain ⟨z,its,n,r,hl,e⟩:=I.lstM hH
 obtain ⟨z2,its2,n2,r2,hl2,e2⟩:=I.lstM hB
 have hsz:its.toArray.size + its2.toArray.size<=sizeLine:=by rw [List.size_toArray,List.size_toArray]; omega
 have hlong:¬ (!its.toArray.isEmpty && Builtin.List.listTooLong (its.toArray.size + its2.toArray.size))=true:=by
  rw [notLongL hsz,Bool.and_false]
  exact Bool.false_ne_true
 refine call_meets F.slot_list_extend ⟨_,e,rfl⟩ F.entry_list_extend (F.args_list_extend_2 _ _)
  (AutoSeq1.list_extend_list_list_0 l its.toArray n b its2.toArray n2 hlong (by rw [List.size_toArray]; omega) (by omega)) ⟨e,e2,?_⟩
 refine ⟨.non,_,I.lset (its':=its++its2) hH e (by simp) (r.append r2) ?_,rfl,q⟩
 rw [List.length_append]
 omega
def rClear:V->List V->Hp->VK->Prop:=fun x vs H Q=>∃ l xs,x=.ref l/\vs=[]/\H l=some (.lst xs)/\Q .non (upd H l (.lst []))
theorem mt_clear:MtM X "list.clear" rClear:=by
 intro pins s σ H x vs v us Q I rx rv h
 obtain ⟨l,xs,rfl,rfl,hH,q⟩:=h
 cases rx
 have hus:=rv.zero
 subst hus
 obtain ⟨z,its,n,r,hl,e⟩:=I.lstM hH
 refine call_meets F.slot_list_clear ⟨_,e,rfl⟩ F.entry_list_clear (F.args_list_clear_1 _) (AutoSeq1.list_clear_list_0 l its.toArray n (by rw [List.size_toArray]; omega)) ⟨e,?_⟩
 exact ⟨.non,_,I.lset (its':=[]) (ys:=[]) hH e rfl .nil (Nat.zero_le _),rfl,q⟩
def rCat:R2:=fun x y H Q=>∃ l b xs zs,x=.ref l/\y=.ref b/\H l=some (.lst xs)/\H b=some (.lst zs)/\xs.length + zs.length<=sizeLine/\∀ p,H p=none->Q (.ref p) (upd H p (.lst (xs++zs)))
theorem op_cat:OpR X (binaryOp .Add) rCat:=by
 intro pins s σ H x y v u Q I rx ry h
 obtain ⟨l,b,xs,zs,rfl,rfl,hH,hB,hz,q⟩:=h
 cases rx
 cases ry
 obtain ⟨z,its,n,r,hl,e⟩:=I.lstM hH
 obtain ⟨z2,its2,n2,r2,hl2,e2⟩:=I.lstM hB
 refine PySem.P.add_list e e2 ?_ (by rw [List.size_toArray,List.size_toArray]; omega)
 have ea:its.toArray++its2.toArray=(its++its2).toArray:=by simp
 rw [ea]
 exact ⟨.ref _,_,I.lnew (t':=s.toks) (r.append r2) (by rw [List.length_append]; omega),rfl,q _ I.fresh⟩
def rRep:R2:=fun x y H Q=>∃ l k xs,x=.ref l/\y=.int k/\H l=some (.lst xs)/\-(2 ^ 63)<=k/\k < 2 ^ 63/\xs.length * k.toNat<=sizeLine /\
 ∀ p,H p=none->Q (.ref p) (upd H p (.lst (List.replicate k.toNat xs).flatten))
theorem len_rep {α:Type} (xs:List α) (k:Nat):(List.replicate k xs).flatten.length=k * xs.length:=by
 induction k with
 | zero=>simp
 | succ k ih=>rw [List.replicate_succ,List.flatten_cons,List.length_append,ih,Nat.succ_mul,Nat.add_comm]
theorem op_rep:OpR X (binaryOp .Mult) rRep:=by
 intro pins s σ H x y v u Q I rx ry h
 obtain ⟨l,k,xs,rfl,rfl,hH,h1,h2,hz,q⟩:=h
 cases rx
 obtain ⟨t,rfl⟩:=ry
 obtain ⟨z,its,n,r,hl,e⟩:=I.lstM hH
 have hlen:its.toArray.size * k.toNat<=sizeLine:=by rw [List.size_toArray,<- hl]; exact hz
 have hcap:¬ its.toArray.size * k.toNat > (2 ^ 63 - 1) / 8:=by
  have:(sizeLine:Nat)<=(2 ^ 63 - 1) / 8:=by decide
  omega
 have hfit:¬ (!Builtin.List.listFitsIndex k)=true:=by
  rw [fitsIndex_both h1 h2]
  exact Bool.false_ne_true
 have hlong:¬ Builtin.List.listTooLong (its.toArray.size * k.toNat)=true:=by
  rw [notLongL hlen]
  exact Bool.false_ne_true
 have hnew:List.foldl (fun x1 x2=>x1++x2) #[] (List.replicate (if its.toArray.isEmpty=true then 0 else k.toNat) its.toArray)=(List.replicate k.toNat its).flatten.toArray:=by
  have f0:∀ m:Nat,List.foldl (fun x1 x2=>x1++x2) #[] (List.replicate m its.toArray)=(List.replicate m its).flatten.toArray:=fun m=>by
   have:=foldl_rep its m []
   rw [List.nil_append] at this
   exact this
  rw [f0]
  cases its with
  | nil=>simp
  | cons a r'=>rw [if_neg (by simp)]
 refine wpAny_binaryOp_repeat_ref (T:="list") (U:="int") (by decide) ⟨_,e,rfl⟩ (fun s'=>typeIs_int s' k t) noFill_list_mul F.fills_int_mul F.slot_int_rmul repeat_list F.slot_int_index.lookup
  (call_meets F.slot_int_rmul (typeIs_int s k t) F.entry_int_rmul (F.args_int_rmul_2 _ _) (int___rmul___int_list k t l its.toArray n)
   ⟨e,rfl,⟨_,e,rfl⟩,call_meets F.slot_list_mul ⟨_,e,rfl⟩ F.entry_list_mul (F.args_list_mul_2 _ _) (AutoListH.list___mul___list_int_3 l its.toArray n k t hfit hcap hlong) ⟨e,?_⟩⟩)
 rw [hnew]
 exact ⟨.ref _,_,I.lnew (t':=s.toks) (r.rep k.toNat) (by rw [len_rep,Nat.mul_comm]; exact hz),rfl,q _ I.fresh⟩
end
section
variable {κ:Type} [DecidableEq κ]
def valV (kvs:List (κ×V)) (k:κ):Option V:=(kvs.find? fun kv=>decide (kv.1=k)).map (·.2)
end
end L2
namespace Att
open PySem PySem.W PySem.Calls PyProof.Rows
theorem ints_of_wellAll {P:Params} {h:Heap}:∀ (ns:List Int) (vs:List Value),WellAll P h vs (ns.map WData.int)->IntsAre vs ns:=by
 intro ns
 induction ns with
 | nil =>
  intro vs w
  rw [List.map_nil] at w
  cases w
  exact .nil
 | cons n ns ih =>
  intro vs w
  rw [List.map_cons] at w
  cases w with
  | cons a b =>
   cases a
   exact .cons _ _ (ih _ b)
theorem script_of {l:OpenLaw} {n:Nat} (hn:l.most=some n) {P:Params} {h:Heap} {args:List WData} {vals:List Value}
  (hpre:l.row.toRowW.claim.pre args=true) (hwl:WellAll P h vals args) :
  ∃ a vs ns,vals=[Value.ref a]/\args=[WData.list (ns.map WData.int)]/\h.get? a=some { cls:=.type "list",data:=.seq vs.toArray }/\IntsAre vs ns/\ns.length<=n:=by
 have hsh:WShape.hasAll [] args [.list .int]=true:=(pre_splitW hpre).1
 have hc:l.pre.holds [] { args:=args }=true:=(pre_splitW hpre).2
 obtain ⟨d,r,rfl,h1,h2⟩:=hasAllW_cons hsh
 obtain rfl:=hasAllW_nil h2
 obtain ⟨xs,rfl,h3⟩:=hasW_list h1
 obtain ⟨ns,rfl⟩:=items_int h3
 have hlen:ns.length<=n:=by
  unfold OpenLaw.pre at hc
  have h4:(WTm.not (.lt (.lit (.int (n:Int))) (.len (.arg 0)))).holds [] { args:=[.list (ns.map .int)] }=true:=by
   have h4:=(holds_andW hc).1
   rw [hn] at h4
   exact h4
  have h5:=condW_of h4 (w_not (w_lt w_lit (w_len_list (w_arg rfl))))
  rw [List.length_map] at h5
  refine Nat.le_of_not_lt fun q=>?_
  have q':(n:Int) < ((ns.length:Nat):Int):=by omega
  first
   | (rw [decide_eq_true q'] at h5; exact absurd h5 (by decide))
   | (simp at h5; omega)
 cases hwl with
 | cons w1 w2 =>
  cases w2
  cases w1 with
  | list ho hall=>exact ⟨_,_,ns,rfl,rfl,ho,ints_of_wellAll ns _ hall,hlen⟩
def post_true (l:OpenLaw) (args:List WData):l.row.toRowW.claim.post args (.bool true) args=true :=
 postW_of (r:=l.row.toRowW) (X:=(true == true))
  (show WShape.has [] (.bool true) .bool=true by first | rfl | decide | simp [WShape.has,WShape.arms,WShape.armsAll])
  (show (WTm.eq .res (.lit (.bool true))).value [] { args:=args,res:=some (.bool true),after:=args }=some (.bool (true == true)) from w_eq_bool (w_res rfl) w_lit) rfl
def attach_call {l:OpenLaw} {n:Nat} {q:Program} {loose:List Str} {XP:(Str->Option Value)->Heap->Prop} {YP:World->Heap->Prop} {d:DefRec}
  (hn:l.most=some n) (hdf:d.params.defaults=[])
  (call:∀ (w:World) (s₀ s₁:Shared) (mg mb:Str->Option Value) (fa:Addr) (o:Obj) (pm cd doc:Value) (a:Addr) (vs:List Value) (ns:List Int),
   Ground q loose [] XP w s₀ mg mb s₁.heap->YP w s₁.heap ->
   s₁.heap.get? fa=some o->o.data=.func (docDef d.name d.params d.body d.scope pm cd doc)->s₁.heap.CodeRec cd d.name->mg d.name=some (.ref fa) ->
   s₁.heap.get? a=some { cls:=.type "list",data:=.seq vs.toArray }->IntsAre vs ns->ns.length<=n->s₁.gens=#[] ->
   codeAny (model l.prog w) callerA (.call (.ref fa) ⟨[.ref a],[]⟩) (fun r s'=>r=.ok (.ret (.bool true))/\OldK s₁.heap s'.heap/\s'.os=s₁.os/\AllBare s'.gens) s₁) :
  WalkO q loose XP YP l.row.toRowW d [] (fun f vs=>PySem.call f vs):=by
 intro w s₀ s₁ mg mb G Y fa o pm cd doc dV kV ho hd hcd hD hmg hg args vals as hpre hlay hrd hwl hlo
 obtain rfl:dV=.none:=Dflts.none hD hdf
 obtain rfl:kV=.none:=Dflts.noKw hD
 obtain ⟨a,vs,ns,rfl,rfl,hobj,hints,hlen⟩:=script_of hn hpre hwl
 refine enter_call (codeAny_mono (call w s₀ s₁ mg mb fa o pm cd doc a vs ns G Y ho (fd_plain hd) hcd hmg hobj hints hlen hg) fun r s' hq=>?_)
 obtain ⟨rfl,h2,h3,h4⟩:=hq
 exact ⟨.inl ⟨.bool true,.bool true,[],rfl,fun _=>rfl,.bool true,post_true l _,fun _=>⟨List.Pairwise.nil,fun _ hm=>(nomatch hm)⟩⟩,h2,h3,h4⟩
end Att
namespace L2
open PySem PySem.Spec PyProof.Rows
theorem vals_ints:∀ {vs:List Value} {ns:List Int},IntsAre vs ns->Vals (ns.map V.int) vs
 | _,_,.nil=>.nil
 | _,_,.cons n t h=>.cons ⟨t,rfl⟩ (vals_ints h)
def Only (H:Hp):Prop:=∀ b,H b=none\/∃ o xs,H b=some (.frz o (.lst xs))
theorem law_call {P:Program} {w:World} {K:W.Frag} {mg mb:Str->Option Value} {CX:CXT} {k:Nat} {fa a:Addr} {fd:FuncData} {x:Str} {sp:Sp} {s₁:Shared} {vs:List Value} {ns:List Int}
  (KX:K.In s₁.heap) (hns:s₁.heap.Ns mainGlobals mg) (hb:s₁.heap.Ns builtinsNs mb) (hbb:∀ x:Str,x≠"__name__"->mb x=bootBuiltins x) (hlim:s₁.heap.NoLimit) (hg:s₁.gens=#[])
  (ha:s₁.heap.get? a=some { cls:=.type "list",data:=.seq vs.toArray }) (hi:IntsAre vs ns) (hl:ns.length<=sizeLine) (hr:Room k callerA)
  (F:∀ base:Heap,K.In base->base.Ns mainGlobals mg->FnOk P w K mg base CX k fa fd [x] sp) (hbind:∀ (s:Shared) (u:Value),BindsTo s fd ⟨[u],[]⟩ [(x,u)])
  (hsp:∀ H:Hp,Only H->SqL K H a (ns.map V.int)->sp [.ref a] H (fun v _=>v=.bl true) fun _ _ _=>False)
  (hCX:∀ H e s',CX [] H s₁ (fun _ _ _=>False) e s'->False) :
  codeAny (model P w) callerA (.call (.ref fa) ⟨[.ref a],[]⟩) (fun r s'=>r=.ok (.ret (.bool true))/\OldK s₁.heap s'.heap/\s'.os=s₁.os/\AllBare s'.gens) s₁:=by
 have rv:=vals_ints hi
 have lenV:=hi.length
 have core:∀ H:Hp,Only H->SqL K H a (ns.map V.int)->HOk P w H s₁.heap->(∀ b,H b≠none->b=a)->(H a≠none->K.lookup a=none) ->
   codeAny (model P w) callerA (.call (.ref fa) ⟨[.ref a],[]⟩) (fun r s'=>r=.ok (.ret (.bool true))/\OldK s₁.heap s'.heap/\s'.os=s₁.os/\AllBare s'.gens) s₁:=by
  intro H hO hS hok hA hK
  have base_of:∀ {b:Addr} {o:Obj},s₁.heap.get? b=some o->H b=none->(hidT s₁.heap H).get? b=some o:=fun e n=>hidT_get e n
  have noA:∀ {b:Addr} {o:Obj} {es:Array DictEntry} {ep:Nat},s₁.heap.get? b=some o->o.data=.dict es ep->H b=none:=fun {b o es ep} e d=>by
   cases q:H b with
   | none=>rfl
   | some u =>
    have e':b=a:=hA b (by rw [q]; simp)
    subst e'
    rw [ha] at e; cases e
    have d':Data.seq vs.toArray _=Data.dict es ep:=d
    cases d'
  have nsK:∀ {b:Addr} {m:Str->Option Value},s₁.heap.Ns b m->(hidT s₁.heap H).Ns b m:=fun {b m} ⟨o,es,ep,e,d,r⟩=>⟨o,es,ep,base_of e (noA e d),d,r⟩
  have hKb:K.In (hidT s₁.heap H):=fun b o e=>base_of (KX b o e) (by
   cases q:H b with
   | none=>rfl
   | some u =>
    have e':b=a:=hA b (by rw [q]; simp)
    subst e'
    rw [hK (by rw [q]; simp)] at e; cases e)
  have hM:Mod K mg (hidT s₁.heap H):=⟨hKb,nsK hns,⟨mb,nsK hb,hbb⟩,let ⟨mc,h1,h2⟩:=hlim; ⟨mc,nsK h1,h2⟩⟩
  have e0:Env0 P w K mg (hidT s₁.heap H) callerA [] s₁ H:=⟨rfl,hM,fun b o e=>of_hidT e,Nat.le_of_eq (hidT_size _ _),trivial,fun b hb=>absurd (show b∈([]:List Addr) from hb) (by simp),hok,.of_eq hg⟩
  refine codeAny_mono ((F _ hKb (nsK hns)).run callerA [] s₁ H ⟨[.ref a],[]⟩ [.ref a] [.ref a] _ _ hr e0 (hbind s₁ (.ref a)) (.cons rfl .nil) (hsp H hO hS)) fun r s' h=>?_
  cases r with
  | error e=>exact (hCX H e s' h).elim
  | ok fl =>
   cases fl with
   | next=>exact False.elim h
   | brk=>exact False.elim h
   | cont=>exact False.elim h
   | ret u =>
    obtain ⟨v,H',os,bare,un,hok',r',q⟩:=h
    have q':v=.bl true:=q
    subst q'
    obtain rfl:u=Value.bool true:=r'
    refine ⟨rfl,OldK.of_keep fun b o e=>?_,os,bare⟩
    cases q:H b with
    | none=>exact un.keep b o e q (by intro z; exact absurd (show b∈([]:List Addr) from z) (by simp)) (by simp)
    | some u =>
     rcases hO b with z | ⟨ob,xs,z⟩
     ·rw [q] at z; cases z
     ·have z2:=un.frzs b ob _ z
      obtain ⟨e1,_⟩:=hok b _ z
      obtain ⟨e2,_⟩:=hok' b _ z2
      rw [e] at e1; cases e1
      exact e2
 cases hk:K.lookup a with
 | some o =>
  have e:=KX a o hk
  rw [ha] at e
  cases e
  refine core (fun _=>none) (fun _=>.inl rfl) (.inr ⟨_,vs.toArray,_,hk,rfl,rfl,rfl,by rw [List.size_toArray,lenV]; exact hl,by simpa using rv⟩) (fun b u z=>by have z':(none:Option HO)=some u:=z; cases z') (fun b z=>absurd rfl z) fun z=>absurd rfl z
 | none =>
  refine core (fun b=>if b=a then some (.frz { cls:=.type "list",data:=.seq vs.toArray } (.lst (ns.map V.int))) else none) (fun b=>?_) (.inl (.inr ⟨{ cls:=.type "list",data:=.seq vs.toArray },if_pos rfl⟩)) (fun b u z=>?_) (fun b z=>?_) fun _=>hk
  ·by_cases hb:b=a
   ·exact .inr ⟨_,_,if_pos hb⟩
   ·exact .inl (if_neg hb)
  ·by_cases hb:b=a
   ·have z':=(if_pos hb).symm.trans z
    cases z'
    subst hb
    exact ⟨ha,by rw [List.length_map]; exact hl,vs,_,rv,ha⟩
   ·have z':=(if_neg hb).symm.trans z
    cases z'
  ·by_cases hb:b=a
   ·exact hb
   ·exact absurd (if_neg hb) z
def walk_of {l:W.OpenLaw} {n k:Nat} {q:Program} {loose:List Str} {XP:(Str->Option Value)->Heap->Prop} {YP:World->Heap->Prop} {d:DefRec} {K:Params->W.Frag} {CX:World->CXT} {sp:World->Sp} {x:Str}
  (hn:l.most=some n) (hn2:n<=sizeLine) (hdf:d.params.defaults=[]) (hr:Room k callerA)
  (hY:∀ (w:World) (h:Heap),YP w h->(K w.params).In h)
  (F:∀ (w:World) (mg:Str->Option Value) (fa:Addr) (h:Heap),(K w.params).In h->h.Ns mainGlobals mg->mg d.name=some (.ref fa) ->
   ∃ fd:FuncData,(∀ (s:Shared) (u:Value),BindsTo s fd ⟨[u],[]⟩ [(x,u)]) /\
    ∀ base:Heap,(K w.params).In base->base.Ns mainGlobals mg->FnOk l.prog w (K w.params) mg base (CX w) k fa fd [x] (sp w))
  (hsp:∀ (w:World) (H:Hp) (a:Addr) (ns:List Int),ns.length<=n->Only H->SqL (K w.params) H a (ns.map V.int)->sp w [.ref a] H (fun v _=>v=.bl true) fun _ _ _=>False)
  (hCX:∀ (w:World) (H:Hp) (s:Shared) (e:Value) (s':Shared),CX w [] H s (fun _ _ _=>False) e s'->False) :
  W.WalkO q loose XP YP l.row.toRowW d [] (fun f vs=>PySem.call f vs):=by
 refine Att.attach_call hn hdf fun w s₀ s₁ mg mb fa o pm cd doc a vs ns G Y ho hd hcd hmg hobj hints hlen hg=>?_
 have KX:=hY w _ Y
 obtain ⟨fd,hb,hF⟩:=F w mg fa _ KX G.T.g hmg
 exact law_call KX G.T.g G.T.b G.T.builtins G.T.nolimit hg hobj hints (Nat.le_trans hlen hn2) hr hF hb (fun H hO hS=>hsp w H a ns hlen hO hS) fun H e s'=>hCX w H s₁ e s'
def inClass (s:Stmt) (j:Nat):Stmt:=match s with
 | .ClassDef _ _ _ body _ _ _ _ _ _ _=>body.getD j (.Pass ⟨0,0,0,0⟩)
 | _=>.Pass ⟨0,0,0,0⟩
def defArgs (s:Stmt):Arguments:=match s with
 | .FunctionDef _ a _ _ _ _ _ _ _ _=>a
 | _=>{ posonlyargs:=[],args:=[],vararg:=none,kwonlyargs:=[],kw_defaults:=[],kwarg:=none,defaults:=[] }
def defBody (s:Stmt):List Stmt:=match s with
 | .FunctionDef _ _ b _ _ _ _ _ _ _=>b
 | _=>[]
def defScope (s:Stmt):Scope:=match s with
 | .FunctionDef _ _ _ _ _ _ sc _ _ _=>sc
 | _=>{ kind:=.function,names:=[],isGenerator:=false,isCoroutine:=false }
abbrev CX0:CXT:=fun _ _ _ _ _ _=>False
abbrev E0:XK:=fun _ _ _=>False
def pass0 {X:Cx}:Passes CX0 X E0:=fun _ _ _ _ _ _ _ h=>h.elim
structure Fun (K:W.Frag) (x qual:Str) (st:Stmt) (f:Addr) (fd:FuncData):Prop where
 ex:∃ (oc:Value) (od:Option Addr) (kV doc pm:Value) (an:Option Addr) (cdv ct:Value) (osl:Array (Option Value)),
  fd=W.fnOf x qual (defArgs st) (defBody st) (defScope st) .none kV doc pm an cdv ct/\K.lookup f=some ⟨oc,od,.func fd,osl⟩/\W.codeIn K cdv qual=true
 kp:W.keepIn K (.ref f)=true
section
variable {P:Program} {w:World} {K:W.Frag} {mg:Str->Option Value} {base:Heap}
def Fun.ok {x qual:Str} {st:Stmt} {f:Addr} {fd:FuncData} {N ps:List Str} {k:Nat} {sp:Sp} (F:Fun K x qual st f fd) (S:FnScope N ps (defScope st)) (len:∀ vs H Q E,sp vs H Q E->vs.length=ps.length)
  (hbody:∀ (cdv:Value) (A:Around) (outer:List Env) (s:Shared) (H:Hp) (vs:List V) (Q:VK) (E:XK),Room k (A.deeper (envOfC qual (defScope st) s.heap.objs.size f cdv))->sp vs H Q E ->
   ∃ t,PSs (cxOf CX0 P w K mg base N qual (defScope st) f cdv A outer s H E).nox (defBody st) t/\t { nx:=fun _ H'=>Q .non H',rt:=Q } (start N vs) H):FnOk P w K mg base CX0 (k + 1) f fd ps sp:=by
 obtain ⟨oc,od,kV,doc,pm,an,cdv,ct,osl,rfl,lk,hcd⟩:=F.ex
 refine fn_of lk hcd S len fun A outer s H vs Q E hr hsp=>?_
 obtain ⟨t,h,q⟩:=hbody cdv A outer s H vs Q E hr hsp
 exact ⟨t,h.nox,q⟩
def Fun.binds {x qual:Str} {st:Stmt} {f:Addr} {fd:FuncData} {ps:List Str} (F:Fun K x qual st f fd)
  (h:∀ (kV doc pm:Value) (an:Option Addr) (cdv ct:Value) (us:List Value),us.length=ps.length->bindArgs (W.fnOf x qual (defArgs st) (defBody st) (defScope st) .none kV doc pm an cdv ct) ⟨us,[]⟩=pure (ps.zip us)):Binds K fd ps []:=by
 obtain ⟨oc,od,kV,doc,pm,an,cdv,ct,osl,rfl,lk,hcd⟩:=F.ex
 exact .all (h kV doc pm an cdv ct)
def fun_mk {x qual:Str} {st:Stmt} {f:Addr} {oc:Value} {od an:Option Addr} {osl:Array (Option Value)} {kV doc pm cdv ct:Value} (l:K.lookup f=some ⟨oc,od,.func (W.fnOf x qual (defArgs st) (defBody st) (defScope st) .none kV doc pm an cdv ct),osl⟩)
  (c:W.codeIn K cdv qual=true) (k:W.keepIn K (.ref f)=true):Fun K x qual st f (W.fnOf x qual (defArgs st) (defBody st) (defScope st) .none kV doc pm an cdv ct):=⟨⟨oc,od,kV,doc,pm,an,cdv,ct,osl,rfl,l,c⟩,k⟩
end
def hu_of {A:Around} {k:Nat} (hr:Room k A):A.units + 1 < cLine:=Nat.lt_of_le_of_lt (Nat.add_le_add_left (by decide:1<=64) _) hr.units
section
variable {X:Cx}
def pv (i:Nat) {x:Str} {pos:Pos} (hN:X.N[i]?=some x:=by rfl) (hv:Vis X.env.scope x:=by first | exact Or.inl rfl | exact Or.inr (Or.inl rfl) | exact Or.inr (Or.inr rfl)) (hd:(x == ("__debug__":Str))=false:=by decide)
  (hcd:(x == ("__classdict__":Str))=false:=by decide):PE X (.Name x pos) (tVar i):=pe_var hN hv hd hcd
end
def iteF {A B:Prop} (h:B):if false=true then A else B:=by
 rw [if_neg Bool.false_ne_true]
 exact h
def iteT {A B:Prop} (h:A):if true=true then A else B:=by
 rw [if_pos rfl]
 exact h
def ite2 {c A B:Prop} [Decidable c] (h1:c->A) (h2:¬ c->B):if c then A else B:=by
 by_cases h:c
 ·rw [if_pos h]
  exact h1 h
 ·rw [if_neg h]
  exact h2 h
def Same (H H':Hp):Prop:=∀ b o,H b=some o->H' b=some o
def Same.refl (H:Hp):Same H H:=fun _ _ h=>h
def Same.trans {H H1 H2:Hp} (a:Same H H1) (b:Same H1 H2):Same H H2:=fun c o h=>b c o (a c o h)
theorem Same.free {H H':Hp} (e:Same H H') {l:Addr} (h:H' l=Option.none):H l=Option.none:=by
 cases q:H l with
 | none=>rfl
 | some o =>
  rw [e l o q] at h
  cases h
def Same.seq {K:W.Frag} {H H':Hp} {a:Addr} {xs:List V} (e:Same H H') (h:SqL K H a xs):SqL K H' a xs:=by
 rcases h with (h | ⟨o,h⟩) | h
 ·exact .inl (.inl (e _ _ h))
 ·exact .inl (.inr ⟨o,e _ _ h⟩)
 ·exact .inr h
end L2
namespace L2
open PySem
def cloAcc (cells:List (Str×Addr)):List (Str×NameKind)->List (Str×Addr)->List (Str×Addr)
 | [],acc=>acc
 | (n,k)::r,acc=>if k == .free then cloAcc cells r ((n,(cells.lookup n).getD 0)::acc) else cloAcc cells r acc
def cloLoop (env:Env) (l:List (Str×NameKind)) (acc:List (Str×Addr)):Sem (List (Str×Addr)):=do
 let mut cs:=acc
 for (name,kind) in l do
  if kind == .free then cs:=(name,<- cellOf env name)::cs
 return cs
theorem cloLoop_is {env:Env}:∀ (l:List (Str×NameKind)) (acc:List (Str×Addr)),(∀ y∈l,y.2=.free->∃ c,env.cells.lookup y.1=some c) ->
  cloLoop env l acc=pure (cloAcc env.cells l acc)
 | [],acc,_=>rfl
 | (n,k)::r,acc,h=>by
  have ih:=fun acc=>cloLoop_is r acc fun y hy=>h y (List.mem_cons_of_mem _ hy)
  unfold cloLoop at ih ⊢
  rw [cloAcc]
  cases hk:(k == NameKind.free) with
  | false =>
   simp only [List.forIn_cons,hk,Bool.false_eq_true,if_false,pure_bind] at ih ⊢
   exact ih acc
  | true =>
   obtain ⟨c,hc⟩:=h (n,k) List.mem_cons_self (by simpa using hk)
   have hc':env.cells.lookup n=some c:=hc
   simp only [List.forIn_cons,hk,if_true,cellOf,hc',pure_bind,Option.getD_some] at ih ⊢
   exact ih _
def closure_is {scope:Scope} {env:Env} (h:∀ y∈scope.names,y.2=.free->∃ c,env.cells.lookup y.1=some c):closureFor scope env=pure (cloAcc env.cells scope.names []) :=
 cloLoop_is scope.names [] h
theorem cloAcc_from {cells:List (Str×Addr)} {x:Str} {c:Addr}:∀ {l:List (Str×NameKind)} {acc:List (Str×Addr)},(∀ y∈l,y.2=.free->∃ c,cells.lookup y.1=some c) ->
  (cloAcc cells l acc).lookup x=some c->acc.lookup x=some c\/cells.lookup x=some c
 | [],acc,_,h=>.inl h
 | (n,k)::r,acc,hl,h=>by
  rw [cloAcc] at h
  by_cases hk:(k == NameKind.free)=true
  ·rw [if_pos hk] at h
   obtain ⟨c',hc⟩:=hl (n,k) List.mem_cons_self (by simpa using hk)
   have hc':cells.lookup n=some c':=hc
   rcases cloAcc_from (fun y hy=>hl y (List.mem_cons_of_mem _ hy)) h with z | z
   ·rw [List.lookup_cons,hc'] at z
    cases hx:(x == n) with
    | true =>
     rw [hx] at z
     have e:x=n:=by simpa using hx
     subst e
     have z':c'=c:=by simpa using z
     subst z'
     exact .inr hc'
    | false=>rw [hx] at z; exact .inl z
   ·exact .inr z
  ·rw [if_neg hk] at h
   exact cloAcc_from (fun y hy=>hl y (List.mem_cons_of_mem _ hy)) h
theorem cloAcc_keeps {cells:List (Str×Addr)} {x:Str}:∀ {l:List (Str×NameKind)} {acc:List (Str×Addr)},(∃ c,acc.lookup x=some c)->∃ c,(cloAcc cells l acc).lookup x=some c
 | [],acc,h=>h
 | (n,k)::r,acc,h=>by
  rw [cloAcc]
  by_cases hk:(k == NameKind.free)=true
  ·rw [if_pos hk]
   refine cloAcc_keeps ?_
   rw [List.lookup_cons]
   cases hx:(x == n) with
   | true=>exact ⟨_,rfl⟩
   | false=>exact h
  ·rw [if_neg hk]
   exact cloAcc_keeps h
theorem cloAcc_has {cells:List (Str×Addr)} {x:Str}:∀ {l:List (Str×NameKind)} {acc:List (Str×Addr)},(x,NameKind.free)∈l->∃ c,(cloAcc cells l acc).lookup x=some c
 | [],acc,h=>nomatch h
 | (n,k)::r,acc,h=>by
  rw [cloAcc]
  rcases List.mem_cons.mp h with e | h
  ·cases e
   rw [if_pos (by rfl)]
   refine cloAcc_keeps ?_
   rw [List.lookup_cons,beq_self_eq_true]
   exact ⟨_,rfl⟩
  ·by_cases hk:(k == NameKind.free)=true
   ·rw [if_pos hk]; exact cloAcc_has h
   ·rw [if_neg hk]; exact cloAcc_has h
def relabel_seen {scope:Scope} {env:Env} (nc:∀ y∈scope.names,y.2≠.cell) {x:Str} (h:(relabel scope env).names.lookup x=some .cell\/(relabel scope env).names.lookup x=some .free):(x,NameKind.free)∈scope.names:=by
  have go:∀ (l:List (Str×NameKind)),(∀ y∈l,y.2≠.cell) ->
      ((l.map fun (n,k)=>if (k == NameKind.free && env.scope.kind == .function && env.kindOf n == some .cell) then (n,NameKind.cell) else (n,k)).lookup x=some .cell \/
       (l.map fun (n,k)=>if (k == NameKind.free && env.scope.kind == .function && env.kindOf n == some .cell) then (n,NameKind.cell) else (n,k)).lookup x=some .free)->(x,NameKind.free)∈l:=by
    intro l
    induction l with
    | nil=>intro _ h; rcases h with h | h <;> cases h
    | cons a r ih =>
      obtain ⟨n,k⟩:=a
      intro nc h
      have nck:k≠.cell:=nc (n,k) List.mem_cons_self
      simp only [List.map_cons] at h
      by_cases hx:(x == n)=true
      · have e:x=n:=by simpa using hx
        subst e
        by_cases hk:k=.free
        · subst hk; exact List.mem_cons_self
        · have hb:(k == NameKind.free)=false:=by simpa using hk
          simp only [hb,Bool.false_and,Bool.false_eq_true,if_false,List.lookup_cons,beq_self_eq_true] at h
          rcases h with h | h
          · exact absurd (Option.some.inj h) nck
          · exact absurd (Option.some.inj h) hk
      · have hx':(x == n)=false:=by simpa using hx
        refine List.mem_cons_of_mem _ (ih (fun y hy=>nc y (List.mem_cons_of_mem _ hy)) ?_)
        have el:∀ (p:Str×NameKind) (t:List (Str×NameKind)),p.1=n->(p::t).lookup x=t.lookup x:=by
          intro p t e
          obtain ⟨a,b⟩:=p
          have e':a=n:=e
          subst e'
          rw [List.lookup_cons,hx']
        rw [el _ _ (by split <;> rfl)] at h
        exact h
  exact go scope.names nc h
def relabel_local {scope:Scope} {env:Env} {x:Str} (h:(relabel scope env).names.lookup x=some .local):scope.names.lookup x=some .local:=by
 have go:∀ (l:List (Str×NameKind)),
   (l.map fun (n,k)=>if (k == NameKind.free && env.scope.kind == .function && env.kindOf n == some .cell) then (n,NameKind.cell) else (n,k)).lookup x=some .local->l.lookup x=some .local:=by
  intro l
  induction l with
  | nil=>intro h; cases h
  | cons a r ih =>
   obtain ⟨n,k⟩:=a
   intro h
   simp only [List.map_cons] at h
   by_cases hx:(x == n)=true
   ·have e:x=n:=by simpa using hx
    subst e
    by_cases hc:(k == NameKind.free && env.scope.kind == .function && env.kindOf x == some .cell)=true
    ·rw [if_pos hc,List.lookup_cons,beq_self_eq_true] at h
     cases h
    ·rw [if_neg hc,List.lookup_cons,beq_self_eq_true] at h
     rw [List.lookup_cons,beq_self_eq_true]
     exact h
   ·have hx':(x == n)=false:=by simpa using hx
    have el:∀ (p:Str×NameKind) (t:List (Str×NameKind)),p.1=n->(p::t).lookup x=t.lookup x:=by
     intro p t e
     obtain ⟨a,b⟩:=p
     have e':a=n:=e
     subst e'
     rw [List.lookup_cons,hx']
    rw [el _ _ (by split <;> rfl)] at h
    rw [el _ _ rfl]
    exact ih h
 exact go scope.names h
end L2
namespace L2
open PySem PySem.Spec PyProof.Rows
def nbOf (N T:List Str) (cs:List Nat):List Str:=T++cs.map fun i=>N.getD i Str.empty
def sgOf (σ:St) (T:List Str) (cs:List Nat):St:=T.map (fun _=>none)++cs.map fun i=>σ.getD i none
structure CScope (outer scope:Scope) (N T:List Str) (cs:List Nat):Prop where
 kind:scope.kind=.function
 nocell:∀ y∈scope.names,y.2≠.cell
 names:∀ y∈scope.names,y.2=.local->scope.names.lookup y.1=some .local
 free:∀ y∈scope.names,y.2=.free->outer.names.lookup y.1=some .cell\/outer.names.lookup y.1=some .free
 cap:∀ i∈cs,scope.names.lookup (N.getD i Str.empty)≠some .local
def cscopeB (outer scope:Scope) (N:List Str) (cs:List Nat):Bool :=
 decide (scope.kind=.function) && (scope.names.all (fun y=>!decide (y.2=NameKind.cell)) && (scope.names.all (fun y=>!decide (y.2=NameKind.local) || decide (scope.names.lookup y.1=some NameKind.local)) &&
  (scope.names.all (fun y=>!decide (y.2=NameKind.free) || (decide (outer.names.lookup y.1=some NameKind.cell) || decide (outer.names.lookup y.1=some NameKind.free))) && cs.all (fun i=>!decide (scope.names.lookup (N.getD i Str.empty)=some NameKind.local)))))
def CScope.ok {outer scope:Scope} {N T:List Str} {cs:List Nat} (h:cscopeB outer scope N cs=true):CScope outer scope N T cs:=by
 unfold cscopeB at h
 simp only [Bool.and_eq_true,List.all_eq_true,Bool.or_eq_true,decide_eq_true_eq,Bool.not_eq_true',decide_eq_false_iff_not] at h
 obtain ⟨h1,h2,h3,h4,h5⟩:=h
 exact ⟨h1,h2,fun y hy e=>(h3 y hy).resolve_left (fun q=>q e),fun y hy e=>(h4 y hy).resolve_left (fun q=>q e),h5⟩
def nd_of {l:List Str} (h:decide l.Nodup=true):l.Nodup:=of_decide_eq_true h
def blk (X:Cx) (T:List Str) (cs:List Nat) (scope:Scope) (C:Addr) (s₀:Shared) (H₀:Hp) (ex:List Addr):Cx where
 prog:=X.prog
 w:=X.w
 K:=X.K
 mg:=X.mg
 base:=X.base
 A:=X.A
 N:=nbOf X.N T cs
 s₀:=s₀
 H₀:=H₀
 env:=compEnvC scope (cloAcc X.env.cells scope.names []) C X.env
 outer:=X.stack
 stack:=X.stack
 ex:=ex
 fn:=fun _=>false
 calm:=X.calm
 pn:=[]
 xe:=fun _ _=>False
section
variable {X:Cx} {pins:List (Addr×Obj)} {σ:St} {H:Hp} {s:Shared} {scope:Scope} {T:List Str} {cs:List Nat} {fp:List Addr}
def Inv.hl (I:Inv X pins σ H s) (S:CScope X.env.scope scope X.N T cs):∀ y∈scope.names,y.2=.free->∃ c,X.env.cells.lookup y.1=some c :=
 fun y hy e=>I.ok.has y.1 (S.free y hy e)
def Inv.clo (I:Inv X pins σ H s) (S:CScope X.env.scope scope X.N T cs) {x:Str} {c:Addr} (h:(cloAcc X.env.cells scope.names []).lookup x=some c):X.env.cells.lookup x=some c :=
 (cloAcc_from (I.hl S) h).resolve_left (by simp)
theorem inv_blk (I:Inv X pins σ H s) (S:CScope X.env.scope scope X.N T cs) (hf:∀ b∈fp,FpOk X pins H b) (hfe:∀ b∈fp,∃ o,s.heap.get? b=some o) {C:Addr} {h1:Heap} {m:Str->Option Value} {tk:Nat}
  (hC:s.heap.objs.size<=C) (ns:h1.Ns C m) (k:∀ b o,s.heap.get? b=some o->h1.get? b=some o) :
  Inv (blk X T cs scope C s H fp) [] (sgOf σ T cs) H { s with heap:=h1,toks:=tk }:=by
 have fr:H C=none:=I.hok.fresh hC
 have cellS:∀ {c:Addr} {v:Option Value},s.heap.IsCell c v->h1.IsCell c v:=fun ⟨o,e,d⟩=>⟨o,k _ o e,d⟩
 refine ⟨⟨I.ok.mod,S.kind,I.ok.glob,I.ok.blt,hC,fun x y c e1 e2=>I.ok.inj x y c (I.clo S e1) (I.clo S e2),fun x hx=>cloAcc_has (relabel_seen S.nocell hx),fun x c h _=>absurd (show false=true from h) Bool.false_ne_true,
  I.ok.hd,I.ok.frames,.inl rfl,fun b hb=>⟨?_,fun x c e=>(hf b hb).2.2.2.2.1 x c (I.clo S e)⟩,I.bs,Nat.le_trans I.ok.bsz I.sz,fun b o e hb=>?_,fun b hb z=>?_,I.stack,I.stkFree⟩,
  rfl,I.bare,Un.kept k,⟨m,ns,fun i x v h1' h2' h3'=>?_⟩,fun x c e=>?_,fr,fun x c e=>I.freeC x c (I.clo S e),fun p hp=>absurd (show p∈([]:List (Addr×Obj)) from hp) (by simp),I.hok.kept k,?_⟩
 ·obtain ⟨o,e⟩:=hfe b hb
  exact Nat.ne_of_lt (Nat.lt_of_lt_of_le (Heap.lt_size e) hC)
 ·rcases (hf b hb).2.2.2.1 with z | z
  ·exact I.ok.noex b o e z
  ·exact absurd (Nat.lt_of_lt_of_le (Nat.lt_of_lt_of_le (Heap.lt_size e) I.ok.bsz) z) (Nat.lt_irrefl _)
 ·rcases List.mem_cons.mp (I.stkSub b z) with e | e
  ·exact (hf b hb).2.1 e
  ·exact (hf b hb).2.2.1 e
 ·have h2:(sgOf σ T cs)[i]?=some (some v):=h2'
  have h1'':(nbOf X.N T cs)[i]?=some x:=h1'
  unfold sgOf at h2
  unfold nbOf at h1''
  by_cases hi:i < T.length
  ·rw [List.getElem?_append_left (by simpa using hi),List.getElem?_map] at h2
   cases e:T[i]? with
   | none=>rw [e] at h2; cases h2
   | some a=>rw [e] at h2; cases h2
  ·rw [List.getElem?_append_right (by simpa using hi),List.getElem?_map,List.length_map] at h2
   rw [List.getElem?_append_right (by omega),List.getElem?_map] at h1''
   cases e:cs[i - T.length]? with
   | none=>rw [e] at h2; cases h2
   | some c0 =>
    rw [e] at h2 h1''
    have ex:X.N.getD c0 Str.empty=x:=Option.some.inj h1''
    have ev:σ.getD c0 none=some v:=Option.some.inj h2
    have eσ:σ[c0]?=some (some v):=by
     rw [List.getD_eq_getElem?_getD] at ev
     cases q:σ[c0]? with
     | none=>rw [q] at ev; cases ev
     | some z=>rw [q] at ev; exact congrArg some ev
    have hlt:c0 < X.N.length:=by
     have:=(List.getElem?_eq_some_iff.mp eσ).1
     rw [I.len] at this
     exact this
    have eN:X.N[c0]?=some x:=by
     rw [List.getD_eq_getElem?_getD,List.getElem?_eq_getElem hlt] at ex
     rw [List.getElem?_eq_getElem hlt]
     exact congrArg some ex
    have hfree:(x,NameKind.free)∈scope.names:=by
     rcases h3' with z | z | z
     ·exact absurd (relabel_local z) (by rw [<- ex]; exact S.cap c0 (List.mem_of_getElem? e))
     ·exact relabel_seen S.nocell (.inl z)
     ·exact relabel_seen S.nocell (.inr z)
    have ok:=S.free _ hfree rfl
    obtain ⟨m',hn',hl'⟩:=I.loc
    obtain ⟨u,r,l⟩:=hl' c0 x v eN eσ (.inr ok)
    refine ⟨u,r,?_⟩
    rcases l with ⟨kd,_⟩ | ⟨_,c,ec,z⟩
    ·have kd':X.env.scope.names.lookup x=some .local:=kd
     rcases ok with q | q <;> (rw [show X.env.scope.names.lookup x=_ from q] at kd'; cases kd')
    ·obtain ⟨c',ec'⟩:=cloAcc_has (cells:=X.env.cells) (acc:=[]) hfree
     have:c'=c:=by
      have q:=I.clo S ec'
      rw [ec] at q
      exact (Option.some.inj q).symm
     subst this
     refine .inr ⟨?_,c',ec',cellS z⟩
     rcases h3' with q | q | q
     ·exact absurd (relabel_local q) (by rw [<- ex]; exact S.cap c0 (List.mem_of_getElem? e))
     ·exact .inl q
     ·exact .inr q
 ·obtain ⟨v,z⟩:=I.cell x c (I.clo S e)
  exact ⟨v,cellS z⟩
 ·show (sgOf σ T cs).length=(nbOf X.N T cs).length
  simp [sgOf,nbOf]
def Inv.track {D:Addr} {its:List Value} {n:Nat} {ys:List V} (I:Inv X pins σ H s) (hD:s.heap.get? D=some { cls:=.type "list",data:=.seq its.toArray n }) (f:FpOk X pins H D) (rv:Vals ys its) (hz:ys.length<=sizeLine) :
  Inv X pins σ (upd H D (.lst ys)) s:=by
 obtain ⟨f0,f1,f2,f3,f4,f5⟩:=f
 have hok:HOk X.prog X.w (upd H D (.lst ys)) s.heap:=fun b u e=>by
  by_cases hb:b=D
  ·subst hb
   rw [upd_same] at e
   cases e
   exact ⟨hz,its,n,rv,hD⟩
  ·rw [upd_ne hb] at e
   exact (I.hok b u e).stay (fun _ _ _ q=>q) (fun c q=>by rw [upd_ne (ne_of_none q f0)]; exact q) fun c xs q=>by rw [upd_ne (ne_of_none q f0)]; exact q
 have st:=I.step (H':=upd H D (.lst ys)) (h':=s.heap) (g':=s.gens) (t':=s.toks) (d':=s.drawn) (ch:=[D])
  (fun b hb=>by
   have e:b=D:=by simpa using hb
   subst e
   exact ⟨f3,f1,f4,f5⟩)
  (fun b o _ _ _ e _=>e) (fun b o _ _ _ e _=>⟨o.slots,e⟩) (fun b o hc e n=>by rw [upd_ne (fun z=>hc (by simp [z]))]; exact n) (fun b o _ e=>⟨o,e⟩)
  (fun b xs e=>by rw [upd_ne (ne_of_none e f0)]; exact e) (fun b o u e=>by rw [upd_ne (ne_of_none e f0)]; exact e) (fun b ps e=>⟨#[],by rw [upd_ne (ne_of_none e f0),e]; simp⟩) (fun m h=>h) hok I.bare
 exact st
end
section
variable {prog:Program} {w:World} {A:Around} {R:Result->Shared->Prop} {s:Shared}
abbrev tstTree (ifs:List Expr) (env:Env):Sem Bool:=forIn ifs true fun c r=>if r=true then do let ok <- isTrue c env (eval c env); pure (ForInStep.yield ok) else pure (ForInStep.yield r)
theorem compLoop_gen {elt target iter:Expr} {ifs:List Expr} {scope:Scope} {pos:Pos} {it acc:Value} {env:Env} (I:Nat->Shared->Prop)
  (turn:∀ n s,I n s->wpAny (model prog w) A (pyNext it) (fun r s₁=>match r with
   | none=>R (.ok .next) s₁
   | some v=>wpAny (model prog w) A (letOwnedTupleGo target it v) (fun _ s₂=>wpAny (model prog w) A (assign target env v) (fun _ s₃ =>
     wpAny (model prog w) A (tstTree ifs env) (fun ok s₄ =>
      if ok=true then wpAny (model prog w) A (eval elt env) (fun x s₅ =>
       wpAny (model prog w) A (call (.builtin "list.append") [acc,x]) (fun _ s₆=>∃ m,m < n/\I m s₆) (fun _ _=>False) s₅) (fun _ _=>False) s₄
      else ∃ m,m < n/\I m s₄) (fun _ _=>False) s₃) (fun _ _=>False) s₂) (fun _ _=>False) s₁) (fun _ _=>False) s)
  (n:Nat) (h:I n s) :
  codeAny (model prog w) A (.compLoop (.ListComp elt [⟨target,iter,ifs,0⟩] scope pos) 0 it acc env) R s:=by
 refine codeAny_loop rfl I (fun n s hI=>?_) n h
 show wpAny _ A ((compTurn (.ListComp elt [⟨target,iter,ifs,0⟩] scope pos) 0 it acc env).onRaise (fun x=>do noteFrame x env; theTreesLotGoes x)) _ _ s
 refine wpAny_noted ?_
 rw [compTurn_list]
 refine wpAny_bind (wpAny_standAt (wpAny_bind (wpAny_mono (turn n s hI) (fun r s₁ h₁=>?_) fun _ _ h'=>False.elim h')))
 cases r with
 | none=>exact wpAny_pure h₁
 | some v =>
  refine wpAny_bind (wpAny_mono h₁ (fun _ s₂ h₂=>?_) fun _ _ h'=>False.elim h')
  refine wpAny_bind (wpAny_mono h₂ (fun _ s₃ h₃=>wpAny_bind (wpAny_mono h₃ (fun ok s₄ h₄=>?_) fun _ _ h'=>False.elim h')) fun _ _ h'=>False.elim h')
  cases ok with
  | false=>exact wpAny_pure ⟨rfl,h₄⟩
  | true =>
   exact wpAny_bind (wpAny_bind (wpAny_mono h₄ (fun x s₅ h₅=>wpAny_bind (wpAny_mono h₅ (fun _ s₆ h₆=>wpAny_pure (wpAny_pure ⟨rfl,h₆⟩)) fun _ _ h'=>False.elim h')) fun _ _ h'=>False.elim h'))
end
def PTs (X:Cx) (ifs:List Expr) (t:TT):Prop :=
 ∀ (pins:List (Addr×Obj)) (s:Shared) (σ:St) (H:Hp) (Q:Bool->Hp->Prop),Inv X pins σ H s->t σ H Q->wpAny (model X.prog X.w) X.A (tstTree ifs X.env) (TP X pins σ Q) X.xe s
def tTrue:TT:=fun _ H Q=>Q true H
def pts_nil {X:Cx}:PTs X [] tTrue:=fun pins s σ H Q I h=>wpAny_tests_nil ⟨H,I,h⟩
def pts_one {X:Cx} {c:Expr} {t:TT} (hc:PT X c t):PTs X [c] t:=fun pins s σ H Q I h=>wpAny_tests_one (hc pins s σ H Q I h)
def Ag (n:Nat) (σ σ0:St):Prop:=σ.length=σ0.length/\∀ i,n<=i->σ[i]?=σ0[i]?
def GKeeps (g:TG) (n:Nat):Prop:=∀ σ0 x σ H R,Ag n σ σ0->g x σ H R->g x σ H fun σ2 H2=>R σ2 H2/\Ag n σ2 σ0
def GsKeeps (g:TGs) (n:Nat):Prop:=∀ σ0 xs σ H R,Ag n σ σ0->g xs σ H R->g xs σ H fun σ2 H2=>R σ2 H2/\Ag n σ2 σ0
theorem Ag.set {n i:Nat} {σ σ0:St} (a:Ag n σ σ0) (h:i < n) (v:Option V):Ag n (σ.set i v) σ0 :=
 ⟨by rw [List.length_set]; exact a.1,fun j hj=>(List.getElem?_set_ne (by omega)).trans (a.2 j hj)⟩
def gk_name {i n:Nat} (h:i < n):GKeeps (gName i) n:=fun σ0 x σ H R a q=>⟨q,a.set h _⟩
def gks_nil {n:Nat}:GsKeeps gNil n:=fun σ0 xs σ H R a q=>⟨q.1,q.2,a⟩
def gks_cons {i n:Nat} {u:TGs} (h:i < n) (h2:GsKeeps u n):GsKeeps (gCons (gName i) u) n:=fun σ0 xs σ H R a q=>by
 obtain ⟨v,r,e,q⟩:=q
 exact ⟨v,r,e,h2 σ0 r _ _ _ (a.set h _) q⟩
def gk_tup {K:W.Frag} {m n:Nat} {t:TGs} (h:GsKeeps t n):GKeeps (gTup K m t) n:=fun σ0 x σ H R ag q=>by
 obtain ⟨a,xs,e,hq,hl,q⟩:=q
 exact ⟨a,xs,e,hq,hl,h σ0 xs σ H R ag q⟩
section
variable {X:Cx} {scope:Scope} {T:List Str} {cs:List Nat} {elt tg iter:Expr} {ifs:List Expr} {g:TG} {tt:TT} {te:TE} {pos:Pos}
theorem comp_core {RR:Value->Addr->Result->Shared->Prop} {E:Value->Shared->Prop} {Fin:List V->Hp->Prop} {pins:List (Addr×Obj)} {σ:St} {H:Hp} {s:Shared} {J:It} {fp:List Addr} {it:Addr} {tn:Nat->Heap->Prop}
  (I:Inv X pins σ H s) (hc:X.calm=true) (S:CScope X.env.scope scope X.N T cs) (Tn:Turn X.prog X.w X.K tg J fp it tn) (st:tn 0 s.heap) (hf:∀ b∈fp,FpOk X pins H b)
  (hg:∀ C s₀ H₀ ex,PG (blk X T cs scope C s₀ H₀ ex) tg g) (ht:∀ C s₀ H₀ ex,PTs (blk X T cs scope C s₀ H₀ ex) ifs tt) (he:∀ C s₀ H₀ ex,PE (blk X T cs scope C s₀ H₀ ex) elt te) (hk:GKeeps g T.length)
  (W:Nat->Nat->List V->Hp->Prop) (w0:∃ m,W 0 m [] H)
  (turn:∀ i m ys H,W i m ys H->(J.stop i H/\ys.length<=sizeLine/\Fin ys H)\/(J.go i H/\ys.length < sizeLine/\∃ N:List V->Hp->Prop,(∀ ys' H',N ys' H'->∃ m',m' < m/\W (i + 1) m' ys' H') /\
   ∀ x H',J.yld i H x H'->g x (sgOf σ T cs) H' fun σ2 H2=>tt σ2 H2 fun b H3=>if b=true then te σ2 H3 fun y H4=>N (ys++[y]) H4 else N ys H3))
  (fin:∀ (D C:Addr) (s':Shared) (m:Str->Option Value) (ys:List V) (H':Hp),Fin ys H'->H' D=none->s'.heap.Ns C m->FpOk X pins H' C->C≠D->Inv X pins σ (upd H' D (.lst ys)) s'->RR (.ref D) C (.ok .next) s') :
  wpAny (model X.prog X.w) X.A (newList []) (fun acc s₃=>wpAny (model X.prog X.w) X.A (newFunctionEnv scope X.env.globals (cloAcc X.env.cells scope.names []) [] X.env.qual none .none (some X.env)) (fun cenv s₄ =>
   codeAny (model X.prog X.w) X.A (.compStart (.ListComp elt [⟨tg,iter,ifs,0⟩] scope pos) 0 (.ref it) acc { cenv with scope:=relabel scope X.env }) (RR acc cenv.locals) s₄) E s₃) E s:=by
 refine wpAny_newObj_type (wpAny_newFunctionEnv S.nocell (by intro y hy; simp at hy) (fun h₁ hns₁ hsb₁=>?_) S.kind)
 dsimp only at hns₁ hsb₁ ⊢
 generalize hH2:s.heap.push { cls:=.type "list",dict:=none,data:=.seq ([]:List Value).toArray }=H2 at hns₁ hsb₁ ⊢
 have hCe:H2.objs.size=s.heap.objs.size + 1:=by rw [<- hH2,Heap.size_push]
 have hDC:s.heap.objs.size≠H2.objs.size:=by rw [hCe]; exact Nat.ne_of_lt (Nat.lt_succ_self _)
 have hCle:s.heap.objs.size<=H2.objs.size:=by rw [hCe]; exact Nat.le_succ _
 have old:∀ b o,s.heap.get? b=some o->h₁.get? b=some o:=fun b o e =>
  hsb₁.extBut b o (by rw [hCe]; exact Nat.ne_of_lt (Nat.lt_succ_of_lt (Heap.lt_size e))) (Heap.get?_push_of_some _ (hH2 ▸ Heap.get?_push_of_some _ e))
 have hacc:h₁.get? s.heap.objs.size=some { cls:=.type "list",data:=.seq ([]:List Value).toArray 0 }:=hsb₁.extBut _ _ hDC (Heap.get?_push_of_some _ (hH2 ▸ Heap.get?_push_size _ rfl))
 have hfe:∀ b∈fp,∃ o,s.heap.get? b=some o:=fun b hb=>let ⟨o,e,_⟩:=Tn.obj _ _ st b hb; ⟨o,e⟩
 have hlt:∀ b∈fp,b < s.heap.objs.size:=fun b hb=>let ⟨o,e⟩:=hfe b hb; Heap.lt_size e
 have st₁:tn 0 h₁:=Tn.keep _ _ _ st fun b _ o e=>old b o e
 generalize hDD:s.heap.objs.size=D at *
 generalize hCC:H2.objs.size=C at *
 have hnD:H D=none:=I.hok.fresh (Nat.le_of_eq hDD)
 have stat:∀ {H':Hp} {its:List Value} {n:Nat},(∀ b∈fp,H' b=none)->∀ b∈fp,FpOk (blk X T cs scope C s H fp) [(D,({ cls:=.type "list",data:=.seq its.toArray n }:Obj))] H' b:=fun hn b hb=>by
  obtain ⟨f0,f1,f2,f3,f4,f5⟩:=hf b hb
  refine ⟨hn b hb,Nat.ne_of_lt (Nat.lt_of_lt_of_le (hlt b hb) hCle),fun z=>?_,.inl hb,fun x c e=>f4 x c (I.clo S e),fun p hp z=>?_⟩
  ·rcases List.mem_cons.mp (I.stkSub b z) with e | e
   ·exact f1 e
   ·exact f2 e
  ·have e:p.1=D:=by
    rcases List.mem_append.mp hp with q | q
    ·exact absurd (show p∈([]:List (Addr×Obj)) from q) (by simp)
    ·rw [List.mem_singleton.mp q]
   exact absurd (hlt b hb) (by rw [<- z,e]; exact Nat.lt_irrefl _)
 have loop:∀ tk:Nat,codeAny (model X.prog X.w) X.A (.compLoop (.ListComp elt [⟨tg,iter,ifs,0⟩] scope pos) 0 (.ref it) (.ref D) (compEnvC scope (cloAcc X.env.cells scope.names []) C X.env)) (RR (.ref D) C) { s with heap:=h₁,toks:=tk }:=by
  intro tk
  have I1:Inv (blk X T cs scope C s H fp) [] (sgOf σ T cs) H { s with heap:=h₁,toks:=tk }:=inv_blk I S hf hfe (by rw [hDD]; exact hCle) hns₁ old
  obtain ⟨m0,w0⟩:=w0
  have pinD:∀ {σ':St} {H':Hp} {s':Shared} {its:List Value} {n:Nat} {pl:List (Addr×Obj)},Inv (blk X T cs scope C s H fp) pl σ' H' s'->s'.heap.get? D=some { cls:=.type "list",data:=.seq its.toArray n }->H' D=none ->
    Inv (blk X T cs scope C s H fp) [(D,({ cls:=.type "list",data:=.seq its.toArray n }:Obj))] σ' H' s':=fun {σ' H' s' its n pl} J e hn=>J.pins_of fun p hp=>by
   obtain rfl:=List.mem_singleton.mp hp
   refine ⟨e,hn,hDC,fun z=>?_,fun v q=>by cases q⟩
   have z':D∈frs X.stack:=z
   obtain ⟨_,o,ho,_⟩:=I.stack.mem z'
   exact absurd (Heap.lt_size ho) (by rw [hDD]; exact Nat.lt_irrefl _)
  refine compLoop_gen (fun n s'=>∃ (i:Nat) (ys:List V) (its:List Value) (k:Nat) (H':Hp),Inv (blk X T cs scope C s H fp) [(D,({ cls:=.type "list",data:=.seq its.toArray k }:Obj))] (sgOf σ T cs) H' s'/\Vals ys its/\tn i s'.heap/\(∀ b∈fp,H' b=none)/\W i n ys H') ?_ m0
   ⟨0,[],[],0,H,pinD I1 hacc hnD,.nil,st₁,fun b hb=>(hf b hb).1,w0⟩
  rintro n s1 ⟨i,ys,its,k,H1,J1,rv,st1,fr1,w1⟩
  rcases turn i n ys H1 w1 with ⟨stop,hz,fq⟩ | ⟨go,hz,N,hN,step⟩
  ·refine wpAny_mono (Tn.done (blk X T cs scope C s H fp) rfl rfl rfl hc i _ s1 _ H1 (fun _ _=>False) J1 (stat fr1) st1 stop) (fun r s2 ⟨hr,J2⟩=>?_) fun _ _ z=>z
   subst hr
   obtain ⟨eD,nD,_⟩:=J2.pin (D,({ cls:=.type "list",data:=.seq its.toArray k }:Obj)) (List.mem_append_right _ (List.mem_singleton.mpr rfl))
   have J3:Inv X pins σ H1 s2:=I.call' (ch:=fp) J2.os J2.base J2.hok J2.bare fun b hb=>by
    obtain ⟨f0,f1,f2,f3,f4,f5⟩:=hf b hb
    exact ⟨f3,f1,f4,f5⟩
   obtain ⟨mC,hnC,_⟩:=J2.loc
   have fC:FpOk X pins H1 C:=I.fpOk (by rw [hDD]; exact hCle) J2.free
   have fD:FpOk X pins H1 D:=I.fpOk (Nat.le_of_eq hDD) nD
   exact fin D C s2 mC ys H1 fq nD hnC fC (Ne.symm hDC) (J3.track eD fD rv hz)
  ·refine wpAny_mono (Tn.item (blk X T cs scope C s H fp) rfl rfl rfl hc i _ s1 _ H1 (fun _ _=>False) J1 (stat fr1) st1 go) (fun r s2 ⟨u,hr,h2⟩=>?_) fun _ _ z=>z
   subst hr
   refine wpAny_mono h2 (fun _ s3 ⟨x,H3,J3,r3,y3,st3,fr3⟩=>?_) fun _ _ z=>z
   have J3':=J3.pinned (stat fr3) (Tn.obj _ _ st3)
   refine wpAny_mono (hg C s H fp _ s3 _ H3 x u _ J3' r3 (hk (sgOf σ T cs) x _ H3 _ ⟨rfl,fun _ _=>rfl⟩ (step x H3 y3))) (fun _ s4 ⟨σ4,H4,J4,q4,l4,k4⟩=>?_) fun _ _ z=>z
   refine wpAny_mono (ht C s H fp _ s4 σ4 H4 _ J4 q4) (fun b s5 ⟨H5,J5,q5⟩=>?_) fun _ _ z=>z
   have wk:∀ {pl:List (Addr×Obj)} {H':Hp} {s':Shared},Inv (blk X T cs scope C s H fp) pl σ4 H' s'->Inv (blk X T cs scope C s H fp) pl (sgOf σ T cs) H' s':=fun J=>J.weak l4.symm fun j v e=>by
    by_cases hj:T.length<=j
    ·rw [k4 j hj]; exact e
    ·exfalso
     unfold sgOf at e
     rw [List.getElem?_append_left (by simp; omega),List.getElem?_map] at e
     cases q:T[j]? with
     | none=>rw [q] at e; cases e
     | some a=>rw [q] at e; cases e
   have tnk:∀ {H':Hp} {s':Shared} {σ':St},Inv (blk X T cs scope C s H fp) ([(D,({ cls:=.type "list",data:=.seq its.toArray k }:Obj))]++pinsAt fp s3.heap) σ' H' s'->tn (i + 1) s'.heap/\∀ b∈fp,H' b=none:=fun {H' s' σ'} J=>by
    refine ⟨Tn.keep _ _ _ st3 fun b hb o e=>(J.pin (b,o) (List.mem_append_right _ (List.mem_append_right _ (mem_pinsAt hb e)))).1,fun b hb=>?_⟩
    obtain ⟨o,e,d⟩:=Tn.obj _ _ st3 b hb
    exact (J.pin (b,o) (List.mem_append_right _ (List.mem_append_right _ (mem_pinsAt hb e)))).2.1
   cases b with
   | false =>
    rw [if_neg Bool.false_ne_true] at q5 ⊢
    obtain ⟨m',hm,w5⟩:=hN _ _ q5
    obtain ⟨t5,f5⟩:=tnk J5
    exact ⟨m',hm,i + 1,ys,its,k,H5,wk J5.unpinned,rv,t5,f5,w5⟩
   | true =>
    rw [if_pos rfl] at q5 ⊢
    refine wpAny_mono (he C s H fp _ s5 σ4 H5 _ J5 q5) (fun uy s6 ⟨y,H6,J6,ry,n6⟩=>?_) fun _ _ z=>z
    obtain ⟨m',hm,w6⟩:=hN _ _ n6
    obtain ⟨t6,f6⟩:=tnk J6
    obtain ⟨eD,nD,_⟩:=J6.pin (D,({ cls:=.type "list",data:=.seq its.toArray k }:Obj)) (List.mem_append_right _ (List.mem_append_left _ (List.mem_singleton.mpr rfl)))
    have hsz:its.toArray.size<=sizeLine:=by rw [List.size_toArray,<- rv.length]; omega
    refine append_at (hsz:=hsz) eD fun h7 sb hD7=>?_
    have J6':Inv (blk X T cs scope C s H fp) [] σ4 H6 s6:=J6.pins_of fun p hp=>absurd hp (by simp)
    have J7:Inv (blk X T cs scope C s H fp) [] σ4 H6 { s6 with heap:=h7 }:=J6'.turned (t':=s6.toks) (it:=D) (fun b o hb e=>(sb.2 b hb).trans e) nD hDC (.inr (Nat.le_of_eq hDD))
     (fun x c e z=>by
      obtain ⟨v,q⟩:=I.cell x c (I.clo S e)
      exact absurd q.lt (by rw [z,hDD]; exact Nat.lt_irrefl _))
     (fun p hp=>absurd hp (by simp [blk]))
    have hD7':h7.get? D=some { cls:=.type "list",data:=.seq (its++[uy]).toArray (k + 1) }:=by
     rw [hD7,List.push_toArray]
    refine ⟨m',hm,i + 1,ys++[y],its++[uy],k + 1,H6,wk (pinD J7 hD7' nD),rv.append (.cons ry .nil),Tn.keep _ _ _ t6 fun b hb o e=>(sb.2 b (Nat.ne_of_lt (hlt b hb))).trans e,f6,w6⟩
 exact codeAny_compStart_list (loop _) (Tn.self _ 0 _ _ _ st₁ (loop _))
def tComp (wi:TI) (g:TG) (tt:TT) (te:TE) (T:List Str) (cs:List Nat):TE:=fun σ H Q=>wi σ H fun J H1=>∃ W:Nat->Nat->List V->Hp->Prop,(∃ m,W 0 m [] H1) /\
 ∀ i m ys H,W i m ys H->(J.stop i H/\ys.length<=sizeLine/\∀ p,H p=none->Q (.ref p) (upd H p (.lst ys)))\/(J.go i H/\ys.length < sizeLine/\∃ N:List V->Hp->Prop,(∀ ys' H',N ys' H'->∃ m',m' < m/\W (i + 1) m' ys' H') /\
  ∀ x H',J.yld i H x H'->g x (sgOf σ T cs) H' fun σ2 H2=>tt σ2 H2 fun b H3=>if b=true then te σ2 H3 fun y H4=>N (ys++[y]) H4 else N ys H3)
def pe_comp {wi:TI} (hc:X.calm=true) (S:CScope X.env.scope scope X.N T cs) (hi:PI X tg iter wi) (hg:∀ C s₀ H₀ ex,PG (blk X T cs scope C s₀ H₀ ex) tg g) (ht:∀ C s₀ H₀ ex,PTs (blk X T cs scope C s₀ H₀ ex) ifs tt)
  (he:∀ C s₀ H₀ ex,PE (blk X T cs scope C s₀ H₀ ex) elt te) (hk:GKeeps g T.length) (hs:∀ x,foldedSetIterable iter X.env x=pure x:=by intro _; rfl):PE X (.ListComp elt [⟨tg,iter,ifs,0⟩] scope pos) (tComp wi g tt te T cs):=by
 intro pins s σ H Q I h
 rw [eval_ListComp]
 refine wpAny_comprehension_free (use:=none) rfl hs (closure_is (I.hl S)) S.kind S.names (thn (hi pins s σ H _ I h) fun v s1 h1=>thn h1 fun itv s2 h2=>?_)
 obtain ⟨it,fp,tn,J,H2,e,I2,Tn,st,hf,W,w0,turn⟩:=h2
 subst e
 refine comp_core (RR:=fun acc C=>compPost (model X.prog X.w) X.A X.xe none (EP X pins σ Q) acc C) (Fin:=fun ys H=>∀ p,H p=none->Q (.ref p) (upd H p (.lst ys))) I2 hc S Tn st hf hg ht he hk W w0 turn ?_
 intro D C s' m ys H' q nD hn fC hCD I'
 refine ⟨m,hn,fun h' sb=>⟨.ref D,_,I'.turned (t':=s'.toks) (it:=C) (fun b o hb e=>(sb.2 b hb).trans e) ?_ fC.2.1 fC.2.2.2.1 fC.2.2.2.2.1 fC.2.2.2.2.2,rfl,q D nD⟩⟩
 rw [upd_ne hCD]
 exact fC.1
def ps_comp {wi:TI} {i:Nat} {y:Str} {py spos:Pos} (hN:X.N.Nodup) (hy:X.N[i]?=some y) (hl:X.env.scope.names.lookup y=some .local) (hc:X.calm=true) (S:CScope X.env.scope scope X.N T cs) (hi:PI X tg iter wi) (hg:∀ C s₀ H₀ ex,PG (blk X T cs scope C s₀ H₀ ex) tg g)
  (ht:∀ C s₀ H₀ ex,PTs (blk X T cs scope C s₀ H₀ ex) ifs tt) (he:∀ C s₀ H₀ ex,PE (blk X T cs scope C s₀ H₀ ex) elt te) (hk:GKeeps g T.length) (hs:∀ x,foldedSetIterable iter X.env x=pure x:=by intro _; rfl)
  (hsw:swapsWith (.ListComp elt [⟨tg,iter,ifs,0⟩] scope pos) (some (.Name y py)) spos.line X.env=pure true:=by rfl):PS X (.Assign [.Name y py] (.ListComp elt [⟨tg,iter,ifs,0⟩] scope pos) spos) (tAsg (tComp wi g tt te T cs) (gName i)):=by
 intro pins s σ H D I h
 rw [exec_Assign_Name_used _ _ _ _ hsw]
 refine wpAny_bind (wpAny_standAt (wpAny_bind ?_))
 show wpAny _ X.A (do let _ <- comprehension (.ListComp elt [⟨tg,iter,ifs,0⟩] scope pos) scope X.env _ (newList []) false (eval iter X.env) (some (assign (.Name y py) X.env))) _ _ s
 refine wpAny_bind (wpAny_mono (wpAny_comprehension_free (use:=some (assign (.Name y py) X.env)) (Q:=fun _ s'=>SP X pins D .next s') rfl hs (closure_is (I.hl S)) S.kind S.names
  (thn (hi pins s σ H _ I h) fun v s1 h1=>thn h1 fun itv s2 h2=>?_)) (fun _ s' hq=>wpAny_pure (wpAny_pure hq)) fun _ _ e=>e)
 obtain ⟨it,fp,tn,J,H2,e,I2,Tn,st,hf,W,w0,turn⟩:=h2
 subst e
 refine comp_core (RR:=fun acc C=>compPost (model X.prog X.w) X.A X.xe (some (assign (.Name y py) X.env)) (fun _ s'=>SP X pins D .next s') acc C) (Fin:=fun ys H=>∀ p,H p=none->gName i (.ref p) σ (upd H p (.lst ys)) D.nx) I2 hc S Tn st hf hg ht he hk W w0 turn ?_
 intro B C s' m ys H' q nB hn fC hCB I'
 show wpAny _ X.A (assign (.Name y py) X.env (.ref B)) _ _ s'
 refine wpAny_assign_Name (store_ok2 (v:=.ref B) I' hN hy (.inl hl) rfl (fun s'' I'' ⟨a,sb,ha⟩=>?_) (.inr hl))
 have nC:C≠a:=by
  rcases ha with z | z
  ·rw [z]; exact fC.2.1
  ·exact Ne.symm (fC.2.2.2.2.1 y a z)
 refine ⟨m,hn.sameBut sb nC,fun h' sb'=>⟨_,_,I''.turned (t':=s''.toks) (it:=C) (fun b o hb e=>(sb'.2 b hb).trans e) ?_ fC.2.1 fC.2.2.2.1 fC.2.2.2.2.1 fC.2.2.2.2.2,q B nB⟩⟩
 rw [upd_ne hCB]
 exact fC.1
end
theorem comp_by {J:It} {n:Nat} {g:TG} {tt:TT} {te:TE} {σB:St} {H1:Hp} {F:List V->Hp->Prop} (Pv:Nat->List V->Hp->Prop) (h0:Pv 0 [] H1) (hn:∀ i ys H,Pv i ys H->ys.length<=i) (hz:n<=sizeLine)
  (hgo:∀ i ys H,i < n->Pv i ys H->J.go i H) (hstop:∀ ys H,Pv n ys H->J.stop n H)
  (hs:∀ i ys H,i < n->Pv i ys H->∀ x H',J.yld i H x H'->g x σB H' fun σ2 H2=>tt σ2 H2 fun b H3=>if b=true then te σ2 H3 fun y H4=>Pv (i + 1) (ys++[y]) H4 else Pv (i + 1) ys H3)
  (hd:∀ ys H,Pv n ys H->F ys H) :
  ∃ W:Nat->Nat->List V->Hp->Prop,(∃ m,W 0 m [] H1)/\∀ i m ys H,W i m ys H->(J.stop i H/\ys.length<=sizeLine/\F ys H)\/(J.go i H/\ys.length < sizeLine/\∃ N:List V->Hp->Prop,(∀ ys' H',N ys' H'->∃ m',m' < m/\W (i + 1) m' ys' H') /\
   ∀ x H',J.yld i H x H'->g x σB H' fun σ2 H2=>tt σ2 H2 fun b H3=>if b=true then te σ2 H3 fun y H4=>N (ys++[y]) H4 else N ys H3):=by
 refine ⟨fun i m ys H=>m=n - i/\i<=n/\Pv i ys H,⟨n,rfl,Nat.zero_le _,h0⟩,?_⟩
 rintro i m ys H ⟨rfl,hi,p⟩
 have hl:=hn i ys H p
 by_cases hlt:i < n
 ·exact .inr ⟨hgo i ys H hlt p,by omega,Pv (i + 1),fun ys' H' q=>⟨n - (i + 1),by omega,rfl,hlt,q⟩,hs i ys H hlt p⟩
 ·have e:i=n:=by omega
  subst e
  exact .inl ⟨hstop ys H p,by omega,hd ys H p⟩
section
variable {X:Cx}
def rGetL (K:W.Frag):V->V->Hp->VK->Prop:=fun o i H Q=>∃ p xs k v,o=.ref p/\i=.int ((k:Nat):Int)/\SqL K H p xs/\xs[k]?=some v/\Q v H
theorem pget_list:PGet X (rGetL X.K):=by
 intro pins s σ H o i ov iv Q I ro ri h
 obtain ⟨p,xs,k,v,rfl,rfl,hq,hx,q⟩:=h
 cases ro
 obtain ⟨t,rfl⟩:=ri
 obtain ⟨its,rv,pl,hz⟩:=I.list hq
 obtain ⟨u,hu,ru⟩:=rv.get hx
 have hk:k < xs.length:=(List.getElem?_eq_some_iff.mp hx).1
 have hn:=line63
 exact wpAny_getItem_list pl.isList (by omega) (by omega) (by simpa using hu) ⟨v,H,I,ru,q⟩
theorem Vals.bl_get {bs:List Bool} {us:List Value} (r:Vals (bs.map V.bl) us) {i:Nat} {v:Value} (e:us[i]?=some v):∃ b,bs[i]?=some b/\v=.bool b:=by
 have hi:i < us.length:=(List.getElem?_eq_some_iff.mp e).1
 have hl:=r.length
 rw [List.length_map] at hl
 have hb:i < bs.length:=by omega
 have eb:(bs.map V.bl)[i]?=some (V.bl bs[i]):=by rw [List.getElem?_map,List.getElem?_eq_getElem hb]; rfl
 obtain ⟨u,hu,ru⟩:=r.get eb
 rw [e] at hu
 cases hu
 exact ⟨bs[i],List.getElem?_eq_getElem hb,ru⟩
def all_of (bs:List Bool):((List.range bs.length).all fun i=>(bs[i]?).getD true)=bs.all id:=by
 rw [Bool.eq_iff_iff]
 simp only [List.all_eq_true,List.mem_range,id]
 constructor
 ·intro h b hb
  obtain ⟨i,hi,e⟩:=List.mem_iff_getElem.mp hb
  have:=h i hi
  rw [List.getElem?_eq_getElem hi,e] at this
  exact this
 ·intro h i hi
  rw [List.getElem?_eq_getElem hi]
  exact h _ (List.getElem_mem hi)
def call_all (hc:X.calm=true):CallR X (.builtin "all") (fun xs H Q=>∃ (p:Addr) (bs:List Bool),xs=[.ref p]/\SqL X.K H p (bs.map V.bl)/\Q (.bl (bs.all id)) H):=by
 intro pins s σ H xs us Q I r h
 obtain ⟨p,bs,rfl,hq,q⟩:=h
 obtain ⟨u,rfl,ru⟩:=vals1 r
 cases ru
 obtain ⟨its,rv,pl,hz⟩:=I.list hq
 have hlen:=rv.length
 rw [List.length_map] at hlen
 have hlt:p < s.heap.objs.size:=by obtain ⟨_,e,_⟩:=pl.isList; exact Heap.lt_size e
 refine call_all_walk (wpAny_pyIter_list pl.isList ?_)
 refine ⟨s.heap.objs.size,[s.heap.objs.size,p],[s.heap.objs.size],its.toArray.size,_,_,fun i=>(bs[i]?).getD true,rfl,Walks.list (A:=X.A.in1) (I.ok.hd hc) _ p (Nat.ne_of_lt hlt) its.toArray,
  ⟨⟨_,Heap.get?_push_size _ rfl,rfl,rfl⟩,pl.isList.push _⟩,fun i v s' Q' E' hP hQ=>?_,fun h' tk hk=>?_⟩
 ·obtain ⟨b,e,rfl⟩:=rv.bl_get (by simpa using hP)
  simp only [e,Option.getD_some] at hQ
  exact wpAny_truthy_bool hQ
 ·rw [List.size_toArray,<- hlen,all_of]
  exact ⟨.bl (bs.all id),H,I.kept (t':=tk) (PyProof.Rows.LSm.kept_iter hk),rfl,q⟩
def call_isi:CallR X (.builtin "isinstance") (fun xs H Q=>∃ x T t b,xs=[x,.ty T]/\TyOf X.K H x t/\W.kitOne X.K t (.type T)=some b/\Q (.bl b) H):=by
 intro pins s σ H xs us Q I r h
 obtain ⟨x,T,t,b,rfl,ty,e,q⟩:=h
 obtain ⟨u,w',rfl,ru,rw'⟩:=vals2 r
 cases rw'
 exact isinst_ok I ru ty e fun tk=>⟨.bl b,H,I.tok tk,rfl,q⟩
def rSlS:V->Option Int->Option Int->Hp->VK->Prop:=fun x lo hi H Q=>∃ z,x=.str z/\z.length<=sizeLine/\Q (.str (Txt.slice z lo hi)) H
theorem sl_str:SlR X rSlS:=by
 intro pins s σ H x v vl vu lo hi sl Q I rx hs pl pu h
 obtain ⟨z,rfl,hz,q⟩:=h
 obtain ⟨t,rfl⟩:=rx
 refine ⟨"str",_,F.slot_str_getitem.lookup,typeIs_str _ _ _,?_⟩
 cases pl with
 | none =>
  cases pu with
  | none=>exact wpAny_getItem_str_slice (l:=none) (u:=none) (st:=none) hs rfl (post_val_or_str ⟨Nat.le_trans (Txt.slice_le z _ _) hz,fun t' k=>⟨.str _,H,I.tok _,⟨_,rfl⟩,q⟩⟩)
  | int j tj=>exact wpAny_getItem_str_slice (l:=none) (u:=some (j,tj)) (st:=none) hs rfl (post_val_or_str ⟨Nat.le_trans (Txt.slice_le z _ _) hz,fun t' k=>⟨.str _,H,I.tok _,⟨_,rfl⟩,q⟩⟩)
 | int i ti =>
  cases pu with
  | none=>exact wpAny_getItem_str_slice (l:=some (i,ti)) (u:=none) (st:=none) hs rfl (post_val_or_str ⟨Nat.le_trans (Txt.slice_le z _ _) hz,fun t' k=>⟨.str _,H,I.tok _,⟨_,rfl⟩,q⟩⟩)
  | int j tj=>exact wpAny_getItem_str_slice (l:=some (i,ti)) (u:=some (j,tj)) (st:=none) hs rfl (post_val_or_str ⟨Nat.le_trans (Txt.slice_le z _ _) hz,fun t' k=>⟨.str _,H,I.tok _,⟨_,rfl⟩,q⟩⟩)
end
mutual
inductive DV (K:W.Frag) (H:Hp):V->PyData->Prop
 | non:DV K H .non .none
 | bl (b:Bool):DV K H (.bl b) (.bool b)
 | int (i:Int):DV K H (.int i) (.int i)
 | str (x:Str):DV K H (.str x) (.str x)
 | lst {a:Addr} {xs:List V} {ds:List PyData} (h:SqL K H a xs) (r:DVs K H xs ds):DV K H (.ref a) (.list ds)
 | tup {a:Addr} {xs:List V} {ds:List PyData} (h:SqT K H a xs) (r:DVs K H xs ds):DV K H (.ref a) (.tuple ds)
inductive DVs (K:W.Frag) (H:Hp):List V->List PyData->Prop
 | nil:DVs K H [] []
 | cons {x:V} {d:PyData} {xs:List V} {ds:List PyData} (h:DV K H x d) (r:DVs K H xs ds):DVs K H (x::xs) (d::ds)
end
section
variable {X:Cx} {pins:List (Addr×Obj)} {σ:St} {H:Hp} {s:Shared}
mutual
theorem dv_reads (I:Inv X pins σ H s):∀ {x:V} {d:PyData} {u:Value},DV X.K H x d->RelV x u->∃ as,Reads s.heap u d as
 | _,_,u,.non,r=>by obtain rfl:u=Value.none:=r; exact ⟨_,Reads.none⟩
 | _,_,u,.bl b,r=>by obtain rfl:u=Value.bool b:=r; exact ⟨_,Reads.bool b⟩
 | _,_,u,.int i,r=>by obtain ⟨t,rfl⟩:=(show ∃ t,u=Value.int i t from r); exact ⟨_,Reads.int i t⟩
 | _,_,u,.str x,r=>by obtain ⟨t,rfl⟩:=(show ∃ t,u=Value.str x t from r); exact ⟨_,Reads.str x t⟩
 | _,_,u,.lst (a:=a) h q,r=>by
  obtain rfl:u=Value.ref a:=r
  obtain ⟨its,rv,⟨o,n,e,c,d,dt⟩,_⟩:=I.list h
  obtain ⟨as,ra⟩:=dvs_reads I q rv
  exact ⟨_,reads_list_at e c dt (by simpa using ra)⟩
 | _,_,u,.tup (a:=a) h q,r=>by
  obtain rfl:u=Value.ref a:=r
  obtain ⟨its,rv,⟨o,e,c,n,dt⟩,_⟩:=I.tuple h
  obtain ⟨as,ra⟩:=dvs_reads I q rv
  exact ⟨_,reads_tuple_at e c dt (by simpa using ra)⟩
theorem dvs_reads (I:Inv X pins σ H s):∀ {xs:List V} {ds:List PyData} {us:List Value},DVs X.K H xs ds->Vals xs us->∃ as,ReadsAll s.heap us ds as
 | _,_,_,.nil,.nil=>⟨_,ReadsAll.nil⟩
 | _,_,_,.cons h q,.cons r rr=>by
  obtain ⟨as,ra⟩:=dv_reads I h r
  obtain ⟨bs,rb⟩:=dvs_reads I q rr
  exact ⟨_,ReadsAll.cons ra rb⟩
end
def rEqD (K:W.Frag):R2:=fun x y H Q=>∃ dx dy,DV K H x dx/\DV K H y dy/\SeqAt.shaped dx=true/\SeqAt.shaped dy=true/\Q (.bl (PyData.eqv dx dy)) H
def rNeD (K:W.Frag):R2:=fun x y H Q=>∃ dx dy,DV K H x dx/\DV K H y dy/\SeqAt.shaped dx=true/\SeqAt.shaped dy=true/\Q (.bl (!PyData.eqv dx dy)) H
def op_eqD (hu:X.A.units + 64 < cLine):OpR X (compareOp .Eq) (rEqD X.K):=by
 intro pins s σ H x y v u Q I rx ry h
 obtain ⟨dx,dy,hx,hy,sx,sy,q⟩:=h
 obtain ⟨as,ra⟩:=dv_reads I hx rx
 obtain ⟨bs,rb⟩:=dv_reads I hy ry
 exact eq_dataH ra rb sx sy hu ⟨.bl _,H,I,rfl,q⟩
def op_neD (hu:X.A.units + 64 < cLine):OpR X (compareOp .NotEq) (rNeD X.K):=by
 intro pins s σ H x y v u Q I rx ry h
 obtain ⟨dx,dy,hx,hy,sx,sy,q⟩:=h
 obtain ⟨as,ra⟩:=dv_reads I hx rx
 obtain ⟨bs,rb⟩:=dv_reads I hy ry
 exact ne_dataH ra rb sx sy hu ⟨.bl _,H,I,rfl,q⟩
end
theorem dvs_ints {K:W.Frag} {H:Hp}:∀ ns:List Int,DVs K H (ns.map V.int) (ns.map PyData.int)
 | []=>.nil
 | n::r=>.cons (.int n) (dvs_ints r)
def Cal (P:Program) (w:World) (K:W.Frag) (mg:Str->Option Value) (base:Heap) (x:Str) (k:Nat) (ps:List Str) (sp:Sp):Prop :=
 ∃ (f:Addr) (fd:FuncData),FnOk P w K mg base CX0 k f fd ps sp/\mg x=some (.ref f)/\W.keepIn K (.ref f)=true/\Binds K fd ps []
section
variable {X:Cx} {x:Str} {k:Nat} {ps:List Str} {sp:Sp} {e:Expr} {es:List Expr} {t:TA} {p pos:Pos}
def pe_cal (C:Cal X.prog X.w X.K X.mg X.base x k ps sp) (hr:Room k X.A) (hg:Gl X x) (ha:PA X (e::es) t) (hdb:(x == ("__debug__":Str))=false:=by decide)
  (he:starEach (e::es) X.env=(false,eval e X.env)::starEach es X.env:=by rfl) (hpl:(backTo pos (starEach es X.env)).any (·.1)=false:=by rfl):PE X (.Call (.Name x p) (e::es) [] pos) (tCall sp [] E0 t):=by
 obtain ⟨f,fd,F,hm,hk,hb⟩:=C
 exact pe_call F hr hg hm hk hb .nil pass0 ha hdb he hpl
end
def Grow (p:Addr) (H H':Hp):Prop:=∀ b o,H b=some o->b≠p->H' b=some o
def Grow.refl (p:Addr) (H:Hp):Grow p H H:=fun _ _ e _=>e
def Grow.trans {p:Addr} {H H1 H2:Hp} (a:Grow p H H1) (b:Grow p H1 H2):Grow p H H2:=fun c o e n=>b c o (a c o e n) n
def Grow.same {p:Addr} {H H':Hp} (s:Same H H'):Grow p H H':=fun b o e _=>s b o e
theorem Grow.free {p:Addr} {H H':Hp} (g:Grow p H H') {l:Addr} (h:H' l=none) (n:l≠p):H l=none:=by
 cases q:H l with
 | none=>rfl
 | some o=>rw [g l o q n] at h; cases h
def same_upd {H:Hp} {p:Addr} {o:HO} (h:H p=none):Same H (upd H p o):=fun b u e=>by rw [upd_ne (ne_of_none e h)]; exact e
structure HandAt (H:Hp) (p a:Addr):Prop where
 ex:∃ (d k:Int) (cs:List Int),H p=some (.lst [.int d,.int k,.ref a])/\H a=some (.lst (cs.map V.int))/\cs≠[]/\cs.length<=63/\0<=d/\0<=k/\∀ c∈cs,0<=c
theorem HandAt.ne {H:Hp} {p a:Addr} (h:HandAt H p a):p≠a:=by
 obtain ⟨d,k,cs,e1,e2,_⟩:=h.ex
 refine ne_of e1 e2 fun z=>?_
 injection z with z
 cases cs with
 | nil=>cases z
 | cons c r =>
  rw [List.map_cons] at z
  injection z with _ z
  cases r with
  | nil=>cases z
  | cons c2 r =>
   rw [List.map_cons] at z
   injection z with _ z
   cases r with
   | nil=>cases z
   | cons c3 r=>rw [List.map_cons] at z; injection z with z _; cases z
def HandAt.same {H H':Hp} {p a:Addr} (h:HandAt H p a) (g:Same H H'):HandAt H' p a:=by
 obtain ⟨d,k,cs,e1,e2,r⟩:=h.ex
 exact ⟨d,k,cs,g _ _ e1,g _ _ e2,r⟩
def spDraw:Sp:=fun vs H Q _=>∃ (p a:Addr) (n:Int),vs=[.ref p,.int n]/\HandAt H p a/\0 < n/\n < 1073741824 /\
 ∀ (r:Int) (H':Hp),0<=r->r < n->HandAt H' p a->Grow p H H'->(∀ b,b≠p->H' b=H b)->Q (.int r) H'
def spOpen (K:W.Frag):Sp:=fun vs H Q _=>∃ (s:Addr) (ns:List Int) (i:Int),vs=[.ref s,.int i]/\SqL K H s (ns.map V.int)/\ns.length<=63/\0<=i/\i < 2 ^ 60 /\
 ∀ (p a:Addr) (H':Hp),H p=none->H a=none->HandAt H' p a->Same H H'->Q (.ref p) H'
theorem at_rest {cs:List Int} (h:cs≠[]) (z:Int):∃ c,c∈cs/\atI (cs.map V.int) (z % ((cs.map V.int).length:Nat))=some (.int c):=by
 have hl:0 < cs.length:=List.length_pos_iff.mpr h
 have h0:0<=z % ((cs.map V.int).length:Nat):=Int.emod_nonneg _ (by rw [List.length_map]; omega)
 have h1:z % ((cs.map V.int).length:Nat) < ((cs.map V.int).length:Nat):=Int.emod_lt_of_pos _ (by rw [List.length_map]; omega)
 generalize z % ((cs.map V.int).length:Nat)=m at h0 h1
 rw [List.length_map] at h1
 have hm:m.toNat < cs.length:=by omega
 obtain ⟨k,rfl⟩:=Int.eq_ofNat_of_zero_le h0
 have hm:k < cs.length:=hm
 refine ⟨cs[k],List.getElem_mem hm,atI_nat ?_⟩
 rw [List.getElem?_map,List.getElem?_eq_getElem hm]
 rfl
def Shp (n:Nat) (d:PyData):Prop:=d.canLay0=true/\d.depth<=n
def Shp.shaped {n:Nat} {d:PyData} (h:Shp n d) (hn:n<=64):SeqAt.shaped d=true:=by
 unfold SeqAt.shaped
 rw [h.1,Bool.true_and]
 exact decide_eq_true (Nat.le_trans h.2 hn)
theorem shp_all {n:Nat}:∀ {ds:List PyData},(∀ d∈ds,Shp n d)->PyData.canLayAll0 ds=true/\PyData.depthAll ds<=n
 | [],_=>⟨by simp only [PyData.canLayAll0],by simp only [PyData.depthAll]; exact Nat.zero_le _⟩
 | d::r,h=>by
  obtain ⟨h1,h2⟩:=h d List.mem_cons_self
  obtain ⟨h3,h4⟩:=shp_all (n:=n) fun x hx=>h x (List.mem_cons_of_mem _ hx)
  refine ⟨by simp only [PyData.canLayAll0,h1,h3,Bool.and_self],?_⟩
  simp only [PyData.depthAll]
  omega
theorem shp_list {n:Nat} {ds:List PyData} (h:∀ d∈ds,Shp n d):Shp (n + 1) (.list ds):=by
 obtain ⟨h1,h2⟩:=shp_all h
 exact ⟨by simp only [PyData.canLay0,h1],by simp only [PyData.depth]; omega⟩
theorem shp_tuple {n:Nat} {ds:List PyData} (h:∀ d∈ds,Shp n d):Shp (n + 1) (.tuple ds):=by
 obtain ⟨h1,h2⟩:=shp_all h
 exact ⟨by simp only [PyData.canLay0,h1],by simp only [PyData.depth]; omega⟩
def shp_int (i:Int):Shp 0 (.int i):=⟨by simp only [PyData.canLay0],by simp only [PyData.depth]; exact Nat.le_refl _⟩
def shp_ints (ns:List Int):Shp 1 (.list (ns.map PyData.int)):=shp_list fun d hd=>by
 obtain ⟨i,_,rfl⟩:=List.mem_map.mp hd
 exact shp_int i
theorem eqv_nil (ns:List Int):PyData.eqv (.list (ns.map PyData.int)) (.list [])=decide (ns=[]):=by
 cases ns with
 | nil=>simp [PyData.eqv,PyData.eqvAll]
 | cons n r=>simp [PyData.eqv,PyData.eqvAll]
theorem cut_ints (ns:List Int) (lo hi:Option Int):∃ ms:List Int,cutV (ns.map V.int) lo hi=ms.map V.int/\ms.length<=ns.length/\∀ c∈ms,c∈ns:=by
 refine ⟨(ns.drop (HT.sIx (ns.map V.int).length 0 lo)).take (HT.sIx (ns.map V.int).length (ns.map V.int).length hi - HT.sIx (ns.map V.int).length 0 lo),?_,?_,?_⟩
 ·unfold cutV
  rw [List.map_take,List.map_drop]
 ·rw [List.length_take,List.length_drop]
  omega
 ·intro c hc
  exact List.mem_of_mem_drop (List.mem_of_mem_take hc)
def small_line {n:Nat} (h:n<=100000):n<=sizeLine:=Nat.le_trans h (by decide)
theorem cut_from {as:List V} {j:Int} (h0:0<=j) (h1:j<=as.length):cutV as (some j) none=as.drop j.toNat:=by
 obtain ⟨m,rfl⟩:=Int.eq_ofNat_of_zero_le h0
 unfold cutV
 rw [HT.sIx_nat,HT.sIx_none,Nat.min_eq_left (by omega),List.take_of_length_le (by rw [List.length_drop]; exact Nat.le_refl _)]
 rfl
theorem cut_to {as:List V} {j:Int} (h0:0<=j) (h1:j<=as.length):cutV as none (some j)=as.take j.toNat:=by
 obtain ⟨m,rfl⟩:=Int.eq_ofNat_of_zero_le h0
 unfold cutV
 rw [HT.sIx_nat,HT.sIx_none,Nat.min_eq_left (by omega),List.drop_zero,Nat.sub_zero]
 rfl
def HC (H H4:Hp) (cl:Addr):Prop:=∃ as:List Int,Same H H4/\H cl=none/\H4 cl=some (.lst (as.map V.int))/\as≠[]/\as.length<=63/\∀ c∈as,0<=c
theorem spun {as:List Int} (hne:as≠[]) (i:Int):∃ cs:List Int,cutV (as.map V.int) (some (i % ((as.map V.int).length:Nat))) none++cutV (as.map V.int) none (some (i % ((as.map V.int).length:Nat)))=cs.map V.int/\cs≠[]/\cs.length=as.length/\∀ c∈cs,c∈as:=by
 have hl:0 < as.length:=List.length_pos_iff.mpr hne
 have h0:0<=i % ((as.map V.int).length:Nat):=Int.emod_nonneg _ (by rw [List.length_map]; omega)
 have h1:i % ((as.map V.int).length:Nat) < ((as.map V.int).length:Nat):=Int.emod_lt_of_pos _ (by rw [List.length_map]; omega)
 generalize i % ((as.map V.int).length:Nat)=j at h0 h1
 rw [cut_from h0 (by omega),cut_to h0 (by omega)]
 rw [List.length_map] at h1
 refine ⟨as.drop j.toNat++as.take j.toNat,by rw [List.map_append,List.map_drop,List.map_take],?_,?_,?_⟩
 ·intro e
  have:=congrArg List.length e
  rw [List.length_append,List.length_drop,List.length_take] at this
  simp at this
  omega
 ·rw [List.length_append,List.length_drop,List.length_take]
  omega
 ·intro c hc
  rcases List.mem_append.mp hc with z | z
  ·exact List.mem_of_mem_drop z
  ·exact List.mem_of_mem_take z
theorem atI_some {α:Type} {xs:List α} {r:Int} (h0:0<=r) (h1:r < xs.length):∃ v,v∈xs/\atI xs r=some v:=by
 have hm:r.toNat < xs.length:=by omega
 obtain ⟨k,rfl⟩:=Int.eq_ofNat_of_zero_le h0
 have hm:k < xs.length:=hm
 exact ⟨xs[k],List.getElem_mem hm,atI_nat (List.getElem?_eq_getElem hm)⟩
def cal_mk {P:Program} {w:World} {K:W.Frag} {mg:Str->Option Value} {base:Heap} {x:Str} {st:Stmt} {f:Addr} {fd:FuncData} {k:Nat} {ps:List Str} {sp:Sp} (F:Fun K x x st f fd) (G:FnOk P w K mg base CX0 k f fd ps sp) (m:mg x=some (.ref f)) (b:Binds K fd ps []) :
  Cal P w K mg base x k ps sp:=⟨f,fd,G,m,F.kp,b⟩
end L2
namespace L2
open PySem
def ixN_of {n:Nat} {k:Int} (h0:0<=k) (h1:k < n):ixN n k=some k.toNat:=by
 unfold ixN
 rw [if_pos h0,if_pos h1]
end L2
set_option maxHeartbeats 4000000
namespace L2
open PySem PySem.W PyProof.Rows
def Rk (rk:Nat->Int) (p:Array Nat) (i:Nat):Int:=rk (p.getD i 0)
def SrtR (rk:Nat->Int) (p:Array Nat) (k:Nat):Prop:=∀ i j,i<=j->j < k->Rk rk p i<=Rk rk p j
structure GoodP (n:Nat) (p:Array Nat):Prop where
 perm:p.Perm (List.range n).toArray
def GoodP.size {n:Nat} {p:Array Nat} (g:GoodP n p):p.size=n:=by have:=g.perm.size_eq; simpa using this
def GoodP.lt {n:Nat} {p:Array Nat} (g:GoodP n p) (i:Nat) (hi:i < n):p.getD i 0 < n:=by
 have hi':i < p.size:=by rw [g.size]; exact hi
 have e:p.getD i 0=p[i]:=by simp [Array.getD,hi']
 rw [e]
 have hm:p[i]∈p.toList:=by simp
 have:=(Array.perm_iff_toList_perm.mp g.perm).mem_iff.mp hm
 simpa using this
def GoodP.ne {n:Nat} {p:Array Nat} (g:GoodP n p) {i j:Nat} (hi:i < n) (hj:j < n) (h:i≠j):p.getD i 0≠p.getD j 0:=by
 have nd:p.toList.Nodup:=(Array.perm_iff_toList_perm.mp g.perm).nodup_iff.mpr (by simpa using List.nodup_range)
 have hi':i < p.size:=by rw [g.size]; exact hi
 have hj':j < p.size:=by rw [g.size]; exact hj
 have e:p.getD i 0=p[i]:=by simp [Array.getD,hi']
 have e2:p.getD j 0=p[j]:=by simp [Array.getD,hj']
 rw [e,e2]
 intro z
 have:=(List.getElem_inj (h₀:=by simpa using hi') (h₁:=by simpa using hj') nd).mp (by simpa using z)
 exact h this
section
variable {rk:Nat->Int} {n:Nat} {cmp:Nat->Nat->(Bool->Shared->Prop)->Shared->Prop} {s:Shared}
def CmpR (rk:Nat->Int) (n:Nat) (cmp:Nat->Nat->(Bool->Shared->Prop)->Shared->Prop) (s:Shared):Prop :=
 ∀ i j (C:Bool->Shared->Prop),i < n->j < n->C (decide (rk i < rk j)) s->cmp i j C s
end
end L2
namespace L2
open PySem PySem.W PyProof.Rows HT
theorem lex_irr:∀ a:List Int,lexLt a a=false
 | []=>rfl
 | x::r=>by rw [lexLt_cons,if_pos rfl]; exact lex_irr r
theorem lex_trans:∀ {a b c:List Int},lexLt a b=true->lexLt b c=true->lexLt a c=true
 | [],[],_,h,_=>by rw [lexLt_nil_nil] at h; cases h
 | [],_::_,[],_,h=>by rw [lexLt_cons_nil] at h; cases h
 | [],_::_,_::_,_,_=>rfl
 | _::_,[],_,h,_=>by rw [lexLt_cons_nil] at h; cases h
 | _::_,_::_,[],_,h=>by rw [lexLt_cons_nil] at h; cases h
 | x::a,y::b,z::c,h1,h2=>by
  rw [lexLt_cons] at h1 h2 ⊢
  by_cases e1:x=y
  ·subst e1
   rw [if_pos rfl] at h1
   by_cases e2:x=z
   ·rw [if_pos e2] at h2 ⊢; exact lex_trans h1 h2
   ·rw [if_neg e2] at h2 ⊢; exact h2
  ·rw [if_neg e1] at h1
   have l1:x < y:=of_decide_eq_true h1
   by_cases e2:y=z
   ·subst e2; rw [if_neg e1]; exact h1
   ·rw [if_neg e2] at h2
    have l2:y < z:=of_decide_eq_true h2
    rw [if_neg (by omega)]
    exact decide_eq_true (by omega)
theorem lex_tot:∀ {a b:List Int},lexLt a b=false->lexLt b a=false->a=b
 | [],[],_,_=>rfl
 | [],_::_,h,_=>by rw [lexLt_nil_cons] at h; cases h
 | _::_,[],_,h=>by rw [lexLt_nil_cons] at h; cases h
 | x::a,y::b,h1,h2=>by
  rw [lexLt_cons] at h1 h2
  by_cases e:x=y
  ·subst e
   rw [if_pos rfl] at h1 h2
   rw [lex_tot h1 h2]
  ·rw [if_neg e] at h1
   rw [if_neg (fun z=>e z.symm)] at h2
   have:=of_decide_eq_false h1
   have:=of_decide_eq_false h2
   omega
theorem countP_lt {α:Type} {p q:α->Bool}:∀ {l:List α},(∀ x∈l,p x=true->q x=true)->(∃ x∈l,q x=true/\p x=false)->l.countP p < l.countP q
 | [],_,⟨_,h,_⟩=>nomatch h
 | a::l,h1,⟨x,hx,hq,hp⟩=>by
  have le:l.countP p<=l.countP q:=List.countP_mono_left fun y hy=>h1 y (List.mem_cons_of_mem _ hy)
  rw [List.countP_cons,List.countP_cons]
  rcases List.mem_cons.mp hx with e | hx
  ·subst e
   rw [hq,hp]
   simp
   omega
  ·have lt:=countP_lt (fun y hy=>h1 y (List.mem_cons_of_mem _ hy)) ⟨x,hx,hq,hp⟩
   have:=h1 a List.mem_cons_self
   cases ha:p a <;> cases hb:q a <;> simp_all <;> omega
def rankOf (ks:List (List Int)) (i:Nat):Int:=((List.range ks.length).countP fun j=>lexLt (ks.getD j []) (ks.getD i []):Nat)
theorem rank_lt {ks:List (List Int)} {i j:Nat} (hi:i < ks.length) (h:lexLt (ks.getD i []) (ks.getD j [])=true):rankOf ks i < rankOf ks j:=by
 unfold rankOf
 have:=countP_lt (l:=List.range ks.length) (p:=fun x=>lexLt (ks.getD x []) (ks.getD i [])) (q:=fun x=>lexLt (ks.getD x []) (ks.getD j [])) (fun x _ hx=>lex_trans hx h) ⟨i,List.mem_range.mpr hi,h,lex_irr _⟩
 omega
theorem rank_dec {ks:List (List Int)} (nd:ks.Nodup) {i j:Nat} (hi:i < ks.length) (hj:j < ks.length):decide (rankOf ks i < rankOf ks j)=lexLt (ks.getD i []) (ks.getD j []):=by
 cases e:lexLt (ks.getD i []) (ks.getD j []) with
 | true=>exact decide_eq_true (rank_lt hi e)
 | false =>
  refine decide_eq_false fun z=>?_
  cases e2:lexLt (ks.getD j []) (ks.getD i []) with
  | true=>have:=rank_lt hj e2; omega
  | false =>
   have e3:=lex_tot e e2
   unfold rankOf at z
   rw [e3] at z
   exact absurd z (Int.lt_irrefl _)
theorem rank_inj {ks:List (List Int)} (nd:ks.Nodup) {i j:Nat} (hi:i < ks.length) (hj:j < ks.length) (h:rankOf ks i=rankOf ks j):i=j:=by
 have e1:lexLt (ks.getD i []) (ks.getD j [])=false:=by rw [<- rank_dec nd hi hj]; exact decide_eq_false (by omega)
 have e2:lexLt (ks.getD j []) (ks.getD i [])=false:=by rw [<- rank_dec nd hj hi]; exact decide_eq_false (by omega)
 have e3:=lex_tot e1 e2
 rw [List.getD_eq_getElem?_getD,List.getD_eq_getElem?_getD,List.getElem?_eq_getElem hi,List.getElem?_eq_getElem hj] at e3
 exact (List.getElem_inj (h₀:=hi) (h₁:=hj) nd).mp (by simpa using e3)
abbrev KIt:=V×Addr×List Int
section
variable {X:Cx} {pins:List (Addr×Obj)} {σ:St} {H:Hp} {s:Shared}
def Inv.pin1 {b:Addr} {o:Obj} (I:Inv X pins σ H s) (f:FpOk X pins H b) (e:s.heap.get? b=some o) (hd:∀ v,o.data≠.cell v):Inv X (pins++[(b,o)]) σ H s :=
 I.pins_of fun p hp=>(List.mem_append.mp hp).elim (fun z=>I.pin p (List.mem_append_right _ z)) fun z=>by
  rw [List.mem_singleton.mp z]
  exact ⟨e,f.1,f.2.1,f.2.2.1,hd⟩
def Inv.turn1 {b:Addr} {h':Heap} (I:Inv X pins σ H s) (f:FpOk X pins H b) (hs:Heap.SameBut b s.heap h'):Inv X pins σ H { s with heap:=h' } :=
 I.turned (t':=s.toks) (fun c o hc e=>(hs.2 c hc).trans e) f.1 f.2.1 f.2.2.2.1 f.2.2.2.2.1 f.2.2.2.2.2
def keyVals (L:List KIt):List Value:=L.map fun q=>Value.ref q.2.1
def getD_map' {α β:Type} {f:α->β} {l:List α} {i:Nat} {d:β} (h:i < l.length):(l.map f).getD i d=f l[i]:=by
 rw [List.getD_eq_getElem?_getD,List.getElem?_map,List.getElem?_eq_getElem h]; rfl
end
section
abbrev PD (D:Addr) (e1:Nat):Addr×Obj:=(D,seqObj "list" #[] e1)
end
def codeφ (c:Addr) (q:Str):HO:=.ext fun h=>h.CodeRec (.ref c) q
end L2
namespace L2
open PySem PySem.Spec PyProof.Rows
section
variable {X:Cx} {e:Expr} {st:Option Expr} {te:TE} {ts:TO} {p2 pos:Pos}
def tRev (K:W.Frag) (te:TE) (ts:TO):TE:=fun σ H Q=>te σ H fun x H1=>ts σ H1 fun k H2=>k=some (-1)/\∃ a xs,x=.ref a/\SqL K H2 a xs/\∀ p,H2 p=none->Q (.ref p) (upd H2 p (.lst xs.reverse))
theorem pe_rev (he:PE X e te) (hs:PO X st ts) (hsub:∀ o i,∃ ops,subscripted (.Slice none none st p2) false o i=operate ops (getItem o i)):PE X (.Subscript e (.Slice none none st p2) pos) (tRev X.K te ts):=by
 intro pins s σ H Q I h
 refine Subscript_ (thn (he pins s σ H _ I h) fun v s1 ⟨x,H1,I1,r1,q1⟩=>?_)
 refine wpAny_Slice ?_
 rw [evalPart_none]
 refine wpAny_pure ?_
 refine wpAny_pure ?_
 refine thn (hs pins s1 σ H1 _ I1 q1) fun vk s3 ⟨k,H3,I3,pk,ek,a,xs,ex,hx,q⟩=>?_
 subst ek
 subst ex
 cases r1
 have I4:Inv X pins σ H3 { s3 with heap:=s3.heap.push { cls:=.type "slice",data:=.fields #[.none,.none,vk] } }:=I3.kept (t':=s3.toks) fun b ob q=>Heap.get?_push_of_some _ q
 obtain ⟨its,r,ht,hz⟩:=I4.list hx
 have hlen:=r.length
 show wpAny (model X.prog X.w) X.A (subscriptTail e (.Slice none none st p2) (.ref a) (.ref s3.heap.objs.size)) (EP X pins σ Q) X.xe { s3 with heap:=s3.heap.push { cls:=.type "slice",data:=.fields #[.none,.none,vk] } }
 obtain ⟨ops,hop⟩:=hsub (.ref a) (.ref s3.heap.objs.size)
 refine tail_any (ops:=ops) ht.isList.typeIs slot_list_getitem.lookup ?_ hop
 refine wpAny_getItem_list_slice ht.isList (Heap.IsSliceOf.new ..) .none .none pk (by decide) ?_ (by rw [List.size_toArray] <;> omega)
 rw [W.krv_pick]
 refine ⟨.ref _,_,I4.laid (t':=s3.toks) (o:=.lst xs.reverse) (fun b ob q=>Heap.get?_push_of_some _ q) (Nat.le_refl _) ?_,rfl,q _ (I4.hok.fresh (Nat.le_refl _))⟩
 refine ⟨by rw [List.length_reverse]; exact hz,its.reverse,0,?_,?_⟩
 ·have rev:∀ {a:List V} {b:List Value},Vals a b->Vals a.reverse b.reverse:=by
   intro a b h
   induction h with
   | nil=>exact .nil
   | cons h1 h2 ih=>rw [List.reverse_cons,List.reverse_cons]; exact ih.append (.cons h1 .nil)
  exact rev r
 ·exact Heap.get?_push_size _ rfl
end
section
variable {prog:Program} {w:World} {A:Around} {E:Value->Shared->Prop} {s:Shared}
def getItem_tuple_whole {t sl:Addr} {items:Array Value} {vl vu:Value} {lo hi:Option Int} {Q:Value->Shared->Prop} (ht:IsTup s.heap t items) (hs:s.heap.IsSliceOf sl vl vu .none) (pl:IsPart vl lo) (pu:IsPart vu hi)
  (hw:HT.sIx items.size 0 lo=0/\HT.sIx items.size items.size hi=items.size) (h:Q (.ref t) s):wpAny (model prog w) A (getItem (.ref t) (.ref sl)) Q E s:=by
 obtain ⟨os,hos,hcs,hds⟩:=id hs
 have hTs:s.TypeIs (.ref sl) "slice":=⟨os,hos,hcs⟩
 unfold getItem
 try with_reducible refine wpAny_holding ?_
 first | refine wpAny_bind (wpAny_pure ?_) | skip
 refine wpAny_bind (wpAny_sequenceKey ht.typeIs (by decide) ?_)
 refine wpAny_bind (wpAny_callSpecial?_slot (name:=Str.ofString "__getitem__") ht.typeIs PyProof.Rows.slot_tuple_getitem
  (wpAny_call_entry PyProof.Rows.slot_tuple_getitem ht.typeIs entry_tuple_getitem ?_ (args_tuple_getitem _ _)))
 show wpAny _ _ (Builtin.Tuple.tupleItemsOf (.ref t) >>= _) _ _ s
 refine wpAny_bind (tupleItemsOf_ ht ?_)
 refine wpAny_bind (wpAny_typeOf hTs ?_)
 rw [if_pos (by decide)]
 refine wpAny_bind (HT.sliceApplied_gen hs pl pu ?_)
 show wpAny _ _ (if (((HT.sIx items.size 0 lo:Nat):Int) == 0 && (1:Int) == 1 && (HT.sIx items.size items.size hi - HT.sIx items.size 0 lo) == items.size)=true then _ else _) _ _ s
 have hyes:((((HT.sIx items.size 0 lo:Nat):Int) == 0 && (1:Int) == 1 && (HT.sIx items.size items.size hi - HT.sIx items.size 0 lo) == items.size)=true):=by
  rw [hw.1,hw.2]; simp
 rw [if_pos hyes]
 unfold Builtin.Tuple.tupleIsExact
 refine wpAny_bind ?_
 first
  | exact wpAny_bind (wpAny_typeOf ht.typeIs (wpAny_pure (by rw [if_pos (by decide)]; exact wpAny_bind (wpAny_rule (wpAny_pure ⟨_,rfl,wpAny_pure h⟩)))))
  | exact wpAny_bind (wpAny_typeOf ht.typeIs (wpAny_pure (by simp; exact wpAny_bind (wpAny_rule (wpAny_pure ⟨_,rfl,wpAny_pure h⟩)))))
end
section
variable {X:Cx}
def rSlW (K:W.Frag):V->Option Int->Option Int->Hp->VK->Prop:=fun x lo hi H Q=>∃ a xs,x=.ref a/\SqT K H a xs /\
 ((cutV xs lo hi=xs->Q (.ref a) H)/\∀ p,H p=none->Q (.ref p) (upd H p (.tup (cutV xs lo hi))))
def sl_tupW:SlR X (rSlW X.K):=by
 intro pins s σ H x v vl vu lo hi sl Q I rx hs pl pu h
 obtain ⟨a,xs,rfl,hx,q0,q⟩:=h
 cases rx
 obtain ⟨its,r,ht,hz⟩:=I.tuple hx
 have hlen:its.toArray.size=xs.length:=by rw [List.size_toArray]; exact r.length.symm
 refine ⟨"tuple",_,PyProof.Rows.slot_tuple_getitem.lookup,ht.typeIs,?_⟩
 by_cases hw:HT.sIx xs.length 0 lo=0/\HT.sIx xs.length xs.length hi=xs.length
 ·refine getItem_tuple_whole ht hs pl pu (by rw [hlen]; exact hw) ⟨.ref a,H,I,rfl,q0 ?_⟩
  unfold cutV
  rw [hw.1,hw.2]
  simp
 ·refine HT.getItem_tuple_cut ht hs pl pu (by rw [hlen]; exact hw) ?_ (by rw [hlen]; exact hz)
  rw [hlen]
  refine ⟨.ref s.heap.objs.size,_,I.laid (t':=s.toks) (o:=.tup (cutV xs lo hi)) (fun b ob q=>Heap.get?_push_of_some _ q) (Nat.le_refl _) ?_,rfl,q _ (I.hok.fresh (Nat.le_refl _))⟩
  exact ⟨Nat.le_trans (cutV_length xs lo hi) hz,_,(r.drop (HT.sIx xs.length 0 lo)).take (HT.sIx xs.length xs.length hi - HT.sIx xs.length 0 lo),IsTupD.new _ _⟩
end
abbrev Pr:=Int×List Int
def TupK (H H':Hp):Prop:=∀ b xs,H b=some (.tup xs)->H' b=some (.tup xs)
def TupK.trans {H H1 H2:Hp} (a:TupK H H1) (b:TupK H1 H2):TupK H H2:=fun c xs h=>b c xs (a c xs h)
def Same.tk {H H':Hp} (s:Same H H'):TupK H H':=fun b xs h=>s b _ h
def Grow.tk {p:Addr} {H H':Hp} (g:Grow p H H') {xs:List V} (e:H p=some (.lst xs)):TupK H H':=fun b ys h=>g b _ h (ne_of h e fun z=>by cases z)
def WordV (H:Hp) (v:V) (w:List Int):Prop:=∃ t,v=.ref t/\H t=some (.tup (w.map V.int))
def PairV (H:Hp) (v:V) (p:Pr):Prop:=∃ t tw,v=.ref t/\H t=some (.tup [.int p.1,.ref tw])/\H tw=some (.tup (p.2.map V.int))
def WordV.tk {H H':Hp} {v:V} {w:List Int} (h:WordV H v w) (s:TupK H H'):WordV H' v w:=by
 obtain ⟨t,e,a⟩:=h
 exact ⟨t,e,s _ _ a⟩
def PairV.tk {H H':Hp} {v:V} {p:Pr} (h:PairV H v p) (s:TupK H H'):PairV H' v p:=by
 obtain ⟨t,tw,e,a,b⟩:=h
 exact ⟨t,tw,e,s _ _ a,s _ _ b⟩
abbrev Words (H:Hp):List V->List (List Int)->Prop:=Paired (WordV H)
abbrev Prs (H:Hp):List V->List Pr->Prop:=Paired (PairV H)
def Words.tk {H H':Hp} {vs:List V} {ws:List (List Int)} (h:Words H vs ws) (s:TupK H H'):Words H' vs ws:=Paired.mapP h fun _ _ z=>z.tk s
def Prs.tk {H H':Hp} {vs:List V} {L:List Pr} (h:Prs H vs L) (s:TupK H H'):Prs H' vs L:=Paired.mapP h fun _ _ z=>z.tk s
theorem Paired.at {α β:Type} {F:α->β->Prop}:∀ {l:List α} {m:List β},Paired F l m->∀ {i:Nat} (h1:i < l.length) (h2:i < m.length),F l[i] m[i]
 | _,_,.nil,_,h,_=>absurd h (Nat.not_lt_zero _)
 | _,_,.cons a r,0,_,_=>a
 | _,_,.cons a r,i + 1,h1,h2=>Paired.at r (i:=i) (by simpa using h1) (by simpa using h2)
theorem Paired.snoc {α β:Type} {F:α->β->Prop} {x:α} {y:β} (h:F x y):∀ {l:List α} {m:List β},Paired F l m->Paired F (l++[x]) (m++[y])
 | _,_,.nil=>.cons h .nil
 | _,_,.cons a r=>.cons a (Paired.snoc h r)
theorem Paired.app {α β:Type} {F:α->β->Prop} {l':List α} {m':List β} (h:Paired F l' m'):∀ {l:List α} {m:List β},Paired F l m->Paired F (l++l') (m++m')
 | _,_,.nil=>h
 | _,_,.cons a r=>.cons a (Paired.app h r)
theorem Paired.tak {α β:Type} {F:α->β->Prop}:∀ {l:List α} {m:List β} (n:Nat),Paired F l m->Paired F (l.take n) (m.take n)
 | _,_,0,_=>by rw [List.take_zero,List.take_zero]; exact .nil
 | _,_,n + 1,.nil=>.nil
 | _,_,n + 1,.cons a r=>.cons a (Paired.tak n r)
theorem Paired.drp {α β:Type} {F:α->β->Prop}:∀ {l:List α} {m:List β} (n:Nat),Paired F l m->Paired F (l.drop n) (m.drop n)
 | _,_,0,h=>h
 | _,_,n + 1,.nil=>.nil
 | _,_,n + 1,.cons a r=>Paired.drp n r
abbrev wk (w:List Int):List Key:=w.map Sum.inl
def BegunIs (kvs:List (List Key×V)) (ws:List (List Int)):Prop:=∀ u:List Int,(valV kvs (wk u)).isSome=decide (∃ w∈ws,u<+:w/\u.length < w.length)
def wordsBy (H:Hp) (k1:List (Key×V)) (S:List Pr):Prop:=(∀ p∈S,∃ t,valV k1 (Sum.inl p.1)=some (.ref t)/\H t=some (.tup (p.2.map V.int)))/\∀ s:Int,(∀ p∈S,p.1≠s)->valV k1 (Sum.inl s)=none
def signsBy (k2:List (List Key×V)) (S:List Pr):Prop:=(∀ p∈S,valV k2 (wk p.2)=some (.int p.1))/\∀ u:List Int,(∀ p∈S,p.2≠u)->valV k2 (wk u)=none
def SizesAre (ns:List Int) (S:List Pr):Prop:=ns.Pairwise (· < ·)/\∀ n:Int,n∈ns↔∃ p∈S,(p.2.length:Int)=n
structure CodeIn (H:Hp) (tp d1 d2 d3 d4:Addr) (S:List Pr):Prop where
 pr:∃ vs,H tp=some (.tup vs)/\Prs H vs S
 wb:∃ k1,H d1=some (.dK k1)/\wordsBy H k1 S
 sb:∃ k2,H d2=some (.dT k2)/\signsBy k2 S
 bg:∃ k3,H d3=some (.dT k3)/\BegunIs k3 (S.map (·.2))
 sz:∃ ns:List Int,H d4=some (.tup (ns.map V.int))/\SizesAre ns S
def CodeAt (C:Addr) (H:Hp) (x:Addr) (S:List Pr):Prop:=∃ dx tp d1 d2 d3 d4,H x=some (.ins C dx [("pairs",.ref tp),("words_by_sign",.ref d1),("signs_by_word",.ref d2),("begun",.ref d3),("word_sizes",.ref d4)])/\CodeIn H tp d1 d2 d3 d4 S
section
variable {X:Cx} {K:W.Frag}
def rLen (K:W.Frag):List V->Hp->VK->Prop:=fun xs H Q=>∃ x n,xs=[x]/\LenV K x H n/\Q (.int n) H
def bk_len (h:X.K=K):CallR X (.builtin "len") (rLen K):=by subst h; exact call_len
def bk_ixl (h:X.K=K):IxR X (rIxL K):=by subst h; exact ix_list
def bk_catT (h:X.K=K):OpR X (binaryOp .Add) (rCatT K):=by subst h; exact op_catT
end
def spBytes:Sp:=fun vs H Q _=>∃ (p a:Addr) (m:Int),vs=[.ref p,.int m]/\HandAt H p a/\2<=m/\m<=4 /\
 ∀ (l:Addr) (bs:List Int) (H':Hp),H l=none->l≠p->H' l=some (.lst (bs.map V.int))->bs.Nodup->2<=bs.length->(bs.length:Int)<=m->(∀ b∈bs,0<=b/\b < 256)->HandAt H' p a->Grow p H H'->Q (.ref l) H'
theorem steps_nodup {b s:Int} (hs:1<=s) {n:Nat} (hn:s * n<=255 + s):((List.range n).map fun k:Nat=>(b + s * (k:Int)) % 256).Nodup:=by
 refine List.pairwise_map.mpr ?_
 refine List.pairwise_iff_getElem.mpr fun i j hi hj hij=>?_
 simp only [List.length_range] at hi hj
 simp only [List.getElem_range]
 intro e
 have h2:s * ((j:Int) - (i:Int))=s * (j:Int) - s * (i:Int):=Int.mul_sub _ _ _
 have h3:0 < s * ((j:Int) - (i:Int)):=Int.mul_pos (by omega) (by omega)
 have h4:s * ((j:Int) - (i:Int))<=s * ((n:Int) - 1):=Int.mul_le_mul_of_nonneg_left (by omega) (by omega)
 have h5:s * ((n:Int) - 1)<=255:=by rw [Int.mul_sub,Int.mul_one]; omega
 rw [h2] at h3 h4
 generalize s * (j:Int)=X at *
 generalize s * (i:Int)=Y at *
 omega
def PF (ws:List (List Int)):Prop:=ws.Pairwise fun a b=>¬ a<+:b/\¬ b<+:a
def WOk (ws:List (List Int)):Prop:=PF ws/\∀ w∈ws,w≠[]/\w.length<=4
def PF.sub {a b:List (List Int)} (h:PF b) (s:a.Sublist b):PF a:=List.Pairwise.sublist s h
def WOk.sub {a b:List (List Int)} (h:WOk b) (s:a.Sublist b):WOk a:=⟨h.1.sub s,fun w hw=>h.2 w (s.subset hw)⟩
def snoc_apart {w:List Int} {a b:Int} (h:a≠b):¬ (w++[a])<+:(w++[b]):=fun e=>by
 have:=List.IsPrefix.eq_of_length e (by simp)
 simp at this
 exact h this
def ones_pf {bs:List Int} (nd:bs.Nodup):WOk (bs.map fun b=>[b]):=by
 refine ⟨List.pairwise_map.mpr (nd.imp fun z=>⟨snoc_apart (w:=[]) z,snoc_apart (w:=[]) z.symm⟩),fun w hw=>?_⟩
 obtain ⟨b,_,rfl⟩:=List.mem_map.mp hw
 exact ⟨by simp,by simp⟩
theorem pf_split {a c:List (List Int)} {w:List Int} {bs:List Int} (nd:bs.Nodup) (h:WOk (a++w::c)) (hw:w.length < 4):WOk (a++(bs.map fun b=>w++[b])++c):=by
 obtain ⟨h1,h2⟩:=h
 have hk:∀ x,(¬ x<+:w/\¬ w<+:x)->∀ b,¬ x<+:w++[b]/\¬ (w++[b])<+:x:=fun x hx b=>by
  refine ⟨fun z=>?_,fun z=>hx.2 ((List.prefix_append _ _).trans z)⟩
  rcases List.prefix_concat_iff.mp z with e | e
  ·exact hx.2 (e ▸ List.prefix_append _ _)
  ·exact hx.1 e
 unfold PF at h1
 rw [List.pairwise_append] at h1
 obtain ⟨pa,pwc,pac⟩:=h1
 rw [List.pairwise_cons] at pwc
 obtain ⟨pw,pc⟩:=pwc
 refine ⟨?_,fun x hx=>?_⟩
 ·unfold PF
  rw [List.append_assoc,List.pairwise_append]
  refine ⟨pa,?_,fun x hx y hy=>?_⟩
  ·rw [List.pairwise_append]
   refine ⟨List.pairwise_map.mpr (nd.imp fun z=>⟨snoc_apart z,snoc_apart z.symm⟩),pc,fun x hx y hy=>?_⟩
   obtain ⟨b,_,rfl⟩:=List.mem_map.mp hx
   have:=hk y ⟨(pw y hy).2,(pw y hy).1⟩ b
   exact ⟨this.2,this.1⟩
  ·rcases List.mem_append.mp hy with hy | hy
   ·obtain ⟨b,_,rfl⟩:=List.mem_map.mp hy
    exact hk x (pac x hx w List.mem_cons_self) b
   ·exact pac x hx y (List.mem_cons_of_mem _ hy)
 ·rcases List.mem_append.mp hx with hx | hx
  ·rcases List.mem_append.mp hx with hx | hx
   ·exact h2 x (List.mem_append_left _ hx)
   ·obtain ⟨b,_,rfl⟩:=List.mem_map.mp hx
    exact ⟨by simp,by rw [List.length_append,List.length_singleton]; omega⟩
  ·exact h2 x (List.mem_append_right _ (List.mem_cons_of_mem _ hx))
def WordsAt (H:Hp) (a:Addr) (ws:List (List Int)):Prop:=∃ vs,H a=some (.lst vs)/\Words H vs ws
section
variable {K:W.Frag} {H H':Hp} {a:Addr} {xs:List V} {i:Nat} {y:V}
def itl_go (e:H a=some (.lst xs)) (hi:i < xs.length):(Itl K a).go i H:=⟨_,_,SqL.of e,List.getElem?_eq_getElem hi⟩
def itl_stop (e:H a=some (.lst xs)) (hi:xs.length<=i):(Itl K a).stop i H:=⟨_,SqL.of e,hi⟩
def itl_yld (e:H a=some (.lst xs)) (hi:i < xs.length) (z:(Itl K a).yld i H y H'):H'=H/\y=xs[i]:=by
 refine ⟨z.1,?_⟩
 have:=z.2 _ (SqL.of e)
 rw [List.getElem?_eq_getElem hi] at this
 exact (Option.some.inj this).symm
end
def hand_of {H:Hp} {p a:Addr} (h:HandAt H p a):∃ xs,H p=some (.lst xs):=let ⟨_,_,_,e,_⟩:=h.ex; ⟨_,e⟩
def Words.take1 {H:Hp} {vs:List V} {ws:List (List Int)} (h:Words H vs ws) {i:Nat} (hi:i < vs.length):∃ (hj:i < ws.length) (t:Addr),vs[i]=.ref t/\H t=some (.tup (ws[i].map V.int)):=by
 have hj:i < ws.length:=by rw [<- Paired.length h]; exact hi
 obtain ⟨t,e,z⟩:=L2.Paired.at h hi hj
 exact ⟨hj,t,e,z⟩
def spSigns:Sp:=fun vs H Q _=>∃ (p a:Addr) (m:Int),vs=[.ref p,.int m]/\HandAt H p a/\0<=m/\m<=100 /\
 ∀ (l:Addr) (ss:List Int) (H':Hp),H l=none->l≠p->H' l=some (.lst (ss.map V.int))->ss.Nodup->(ss.length:Int)=m->HandAt H' p a->Grow p H H'->Q (.ref l) H'
theorem steps_inj {b s:Int} (hs:1<=s) (n:Nat):((List.range n).map fun k:Nat=>b + s * (k:Int)).Nodup:=by
 refine List.pairwise_map.mpr (List.pairwise_iff_getElem.mpr fun i j hi hj hij=>?_)
 simp only [List.getElem_range]
 intro e
 have h3:0 < s * ((j:Int) - (i:Int)):=Int.mul_pos (by omega) (by omega)
 rw [Int.mul_sub] at h3
 omega
def spin_nodup {ss:List Int} (h:ss.Nodup) (n:Nat):(ss.drop n++ss.take n).Nodup:=by
 have:(ss.take n++ss.drop n).Nodup:=by rw [List.take_append_drop]; exact h
 exact (List.perm_append_comm.nodup_iff).mp this
def CodeAt.same {C x:Addr} {H H':Hp} {S:List Pr} (h:CodeAt C H x S) (s:Same H H'):CodeAt C H' x S:=by
 obtain ⟨dx,tp,d1,d2,d3,d4,ex,⟨⟨vs,a1,a2⟩,⟨k1,b1,b2⟩,⟨k2,c1,c2⟩,⟨k3,f1,f2⟩,⟨k4,g1,g2⟩⟩⟩:=h
 refine ⟨dx,tp,d1,d2,d3,d4,s _ _ ex,⟨vs,s _ _ a1,Prs.tk a2 s.tk⟩,⟨k1,s _ _ b1,fun p hp=>?_,b2.2⟩,⟨k2,s _ _ c1,c2⟩,⟨k3,s _ _ f1,f2⟩,⟨k4,s _ _ g1,g2⟩⟩
 obtain ⟨t,u,v⟩:=b2.1 p hp
 exact ⟨t,u,s _ _ v⟩
section
variable {X:Cx} {K:W.Frag}
def rListOf (K:W.Frag):List V->Hp->VK->Prop:=fun xs H Q=>∃ p ys,xs=[.ref p]/\(SqL K H p ys\/SqT K H p ys)/\∀ l,H l=none->Q (.ref l) (upd H l (.lst ys))
def bk_list (h:X.K=K):CallR X (.type "list") (rListOf K):=by subst h; exact call_list_of
def rTupOf (K:W.Frag):List V->Hp->VK->Prop:=fun xs H Q=>∃ p ys,xs=[.ref p]/\((SqL K H p ys/\∀ l,H l=none->Q (.ref l) (upd H l (.tup ys)))\/(SqT K H p ys/\Q (.ref p) H))
def bk_tup (h:X.K=K):CallR X (.type "tuple") (rTupOf K):=by subst h; exact call_tuple_of
def rIsi (K:W.Frag):List V->Hp->VK->Prop:=fun xs H Q=>∃ x T t b,xs=[x,.ty T]/\TyOf K H x t/\W.kitOne K t (.type T)=some b/\Q (.bl b) H
def bk_isi (h:X.K=K):CallR X (.builtin "isinstance") (rIsi K):=by subst h; exact call_isi
end
section
variable {M:Model} {A:Around} {Ex:Value->Shared->Prop} {s:Shared}
structure Noted (fs:List Addr) (ea T:Addr) (oe:Obj) (fl:Value) (h h':Heap):Prop where
 keep:∀ b o,b∉fs->b≠ea->h.get? b=some o->h'.get? b=some o
 slot:∀ b o,b≠ea->h.get? b=some o->∃ sl,h'.get? b=some { o with slots:=sl }
 new:h.objs.size<=T
 exc:h'.get? ea=some (oe.mapFields (·.setIfInBounds 1 (.ref T)))
 tb:∃ ob ts,h'.get? T=some ob/\ob.data=.fields ts/\ts[3]?=some fl
 ne:T≠ea
def not_frame {base:Heap} {l:List Env} {h:Heap} {ea:Addr} {oe:Obj} {vs:Array Value} (ff:h.FunFrames base l) (eo:h.get? ea=some oe) (od:oe.data=.fields vs):ea∉frs l:=fun z=>by
 obtain ⟨_,o,ho,hnf⟩:=ff.mem z
 rw [eo] at ho
 cases ho
 exact hnf vs od
def tb_entry {base:Heap} {env:Env} {outer:List Env} {L ea:Addr} {oe:Obj} {vs:Array Value} {head:Value} {flag:Bool} {Q:Unit->Shared->Prop} (fr:A.frames=some (env::outer)) (ff:s.heap.FunFrames base (env::outer)) (ef:env.frame=some L)
  (eo:s.heap.get? ea=some oe) (od:oe.data=.fields vs) (sz:1 < vs.size) (k:∀ h' T,Noted (frs (env::outer)) ea T oe (rawInt L) s.heap h'->Q () { s with heap:=h' }) :
  wpAny M A (do let a <- frameOf env; let pl <- entryPlaceOf L flag; let b <- EntryCells.newEntry head a .none (rawInt L) .none pl; setField (.ref ea) 1 b) Q Ex s:=by
 have nf:ea∉frs (env::outer):=not_frame ff eo od
 refine wpAny_bind (wpAny_frameOf_fun fr ff ef fun g1 sl1=>?_)
 refine wpAny_bind (wpAny_entryPlaceOf fun pl hpl=>?_)
 unfold EntryCells.newEntry newFields
 refine wpAny_bind (wpAny_newObj_type ?_ (hpl.sizeOk5 _ _ _ _ _))
 have e1:g1.get? ea=some oe:=(sl1.2.1 ea nf).trans eo
 generalize hO:({ cls:=.type "traceback",dict:=none,data:=.fields ([head,.ref L,.none,rawInt L,.none]++(if pl.isEmpty then List.replicate 6 Value.none else pl)).toArray }:Obj)=tbo
 have e2:(g1.push tbo).get? ea=some oe:=Heap.get?_push_of_some _ e1
 have lt:ea < g1.objs.size:=Heap.lt_size e1
 have nT:g1.objs.size≠ea:=Nat.ne_of_gt lt
 refine wpAny_setField e2 od sz (k _ g1.objs.size ?_)
 have td:tbo.data=.fields ([head,.ref L,.none,rawInt L,.none]++(if pl.isEmpty then List.replicate 6 Value.none else pl)).toArray:=by rw [<- hO]
 have gT:(g1.push tbo).get? g1.objs.size=some tbo:=Heap.get?_push_size g1 (Obj.isFreed_of_fields td)
 have ed:=Obj.data_mapFields od (·.setIfInBounds 1 (Value.ref g1.objs.size))
 refine ⟨fun b o hb hne q=>?_,fun b o hne q=>?_,Nat.le_of_eq sl1.1.symm,Heap.get?_update_self _ e2 (Obj.isFreed_of_fields ed),⟨tbo,_,?_,td,?_⟩,nT⟩
 ·rw [Heap.get?_update_other _ _ (Ne.symm hne)]
  exact Heap.get?_push_of_some _ ((sl1.2.1 b hb).trans q)
 ·obtain ⟨sl,e⟩:=sl1.2.2 b o q
  exact ⟨sl,by rw [Heap.get?_update_other _ _ (Ne.symm hne)]; exact Heap.get?_push_of_some _ e⟩
 ·rw [Heap.get?_update_other _ _ (Ne.symm nT)]
  exact gT
 ·simp
structure Gone (fs:List Addr) (ea:Addr) (T0:Option Addr) (oe:Obj) (vs:Array Value) (h h':Heap):Prop where
 keep:∀ b o,b∉fs->b≠ea->some b≠T0->h.get? b=some o->h'.get? b=some o
 slot:∀ b o,b≠ea->some b≠T0->h.get? b=some o->∃ sl,h'.get? b=some { o with slots:=sl }
 flow:∃ T vs' ob ts,h.objs.size<=T/\h'.get? ea=some { oe with data:=.fields vs' }/\vs'.size=vs.size/\vs'[1]?=some (.ref T)/\h'.get? T=some ob/\ob.data=.fields ts/\ts[3]?=some .none/\T≠ea
def mapF {oe:Obj} {vs:Array Value} (od:oe.data=.fields vs) (f:Array Value->Array Value):oe.mapFields f={ oe with data:=.fields (f vs) }:=by
 obtain ⟨c,d,dt,sl⟩:=oe
 cases od
 rfl
def flight_off {fs:List Addr} {ea T:Addr} {oe:Obj} {vs:Array Value} {L:Addr} {h0:Heap} {Q:Unit->Shared->Prop} (od:oe.data=.fields vs) (sz:1 < vs.size) (nt:Noted fs ea T oe (rawInt L) h0 s.heap)
  (k:∀ h',Gone fs ea none oe vs h0 h'->Q () { s with heap:=h' }):wpAny M A (setFlight (.ref ea) none) Q Ex s:=by
 have ex:=nt.exc
 rw [mapF od] at ex
 obtain ⟨ob,ts,eT,dT,h3⟩:=nt.tb
 have s3:3 < ts.size:=(Array.getElem?_eq_some_iff.mp h3).1
 refine wpAny_setFlight_none ex rfl (by rw [Array.getElem?_setIfInBounds_self,if_pos sz]) eT dT s3 (k _ ?_)
 have dd:=Obj.data_mapFields dT (·.setIfInBounds 3 Value.none)
 have lt0:∀ b o,h0.get? b=some o->T≠b:=fun b o q z=>absurd (Heap.lt_size q) (Nat.not_lt.mpr (by rw [<- z]; exact nt.new))
 refine ⟨fun b o hb hne _ q=>?_,fun b o hne _ q=>?_,T,vs.setIfInBounds 1 (.ref T),_,_,nt.new,?_,?_,?_,Heap.get?_update_self _ eT (Obj.isFreed_of_fields dd),dd,?_,nt.ne⟩
 ·rw [Heap.get?_update_other _ _ (lt0 b o q)]
  exact nt.keep b o hb hne q
 ·obtain ⟨sl,e⟩:=nt.slot b o hne q
  exact ⟨sl,by rw [Heap.get?_update_other _ _ (lt0 b o q)]; exact e⟩
 ·rw [Heap.get?_update_other _ _ nt.ne]
  exact ex
 ·simp
 ·rw [Array.getElem?_setIfInBounds_self,if_pos sz]
 ·rw [Array.getElem?_setIfInBounds_self,if_pos s3]
def noted_first {base:Heap} {env:Env} {outer:List Env} {L ea:Addr} {oe:Obj} {vs:Array Value} {Q:Unit->Shared->Prop} (fr:A.frames=some (env::outer)) (ff:s.heap.FunFrames base (env::outer)) (ef:env.frame=some L)
  (eo:s.heap.get? ea=some oe) (od:oe.data=.fields vs) (v1:vs[1]?=some .none) (k:∀ h',Gone (frs (env::outer)) ea none oe vs s.heap h'->Q () { s with heap:=h' }) :
  wpAny M A (noteFrame (.ref ea) env) (fun _ s2=>wpAny M A (setFlight (.ref ea) none) Q Ex s2) Ex s:=by
 have sz:1 < vs.size:=(Array.getElem?_eq_some_iff.mp v1).1
 unfold noteFrame
 simp only [ef]
 refine wpAny_bind (wpAny_field eo od v1 ?_)
 rw [if_neg (by decide)]
 exact tb_entry fr ff ef eo od sz fun h' T nt=>flight_off (s:={ s with heap:=h' }) od sz nt fun h2 g=>k h2 g
def noted_next {base:Heap} {env:Env} {outer:List Env} {L ea T0:Addr} {oe oT:Obj} {vs ts:Array Value} {Q:Unit->Shared->Prop} (fr:A.frames=some (env::outer)) (ff:s.heap.FunFrames base (env::outer)) (ef:env.frame=some L)
  (eo:s.heap.get? ea=some oe) (od:oe.data=.fields vs) (v1:vs[1]?=some (.ref T0)) (eT:s.heap.get? T0=some oT) (dT:oT.data=.fields ts) (t3:ts[3]?=some .none) (ne:T0≠ea)
  (k:∀ h',Gone (frs (env::outer)) ea (some T0) oe vs s.heap h'->Q () { s with heap:=h' }) :
  wpAny M A (noteFrame (.ref ea) env) (fun _ s2=>wpAny M A (setFlight (.ref ea) none) Q Ex s2) Ex s:=by
 have sz:1 < vs.size:=(Array.getElem?_eq_some_iff.mp v1).1
 unfold noteFrame
 simp only [ef]
 refine wpAny_bind (wpAny_field eo od v1 ?_)
 rw [if_pos (show (Value.ref T0 != Value.none)=true by simp)]
 refine wpAny_bind (wpAny_field eT dT t3 ?_)
 rw [if_neg (show ¬ ((Value.none == rawInt L)=true) by simp [rawInt])]
 refine wpAny_bind (wpAny_setField eT dT (Array.getElem?_eq_some_iff.mp t3).1 ?_)
 have oth:∀ b,b≠T0->(s.heap.update T0 (Obj.mapFields (·.setIfInBounds 3 Value.none))).get? b=s.heap.get? b:=fun b hb=>Heap.get?_update_other _ _ (Ne.symm hb)
 have nfT:T0∉frs (env::outer):=not_frame ff eT dT
 have ff2:(s.heap.update T0 (Obj.mapFields (·.setIfInBounds 3 Value.none))).FunFrames base (env::outer):=ff.of_keeps fun b o hb hnf=>⟨o,(oth b fun z=>by
  rw [z,eT] at hb
  cases hb
  exact hnf ts dT).trans hb,rfl⟩
 refine tb_entry (s:={ s with heap:=s.heap.update T0 (Obj.mapFields (·.setIfInBounds 3 Value.none)) }) fr ff2 ef ((oth ea (Ne.symm ne)).trans eo) od sz fun h' T nt=>flight_off (s:={ s with heap:=h' }) od sz nt fun h2 g=>k h2 ?_
 have szU:(s.heap.update T0 (Obj.mapFields (·.setIfInBounds 3 Value.none))).objs.size=s.heap.objs.size:=Heap.size_after_update ..
 obtain ⟨T1,vs1,ob1,ts1,z1,zr⟩:=g.flow
 exact ⟨fun b o hb hne hT q=>g.keep b o hb hne (by simp) ((oth b fun z=>hT (by rw [z])).trans q),fun b o hne hT q=>g.slot b o hne (by simp) ((oth b fun z=>hT (by rw [z])).trans q),T1,vs1,ob1,ts1,by rw [<- szU]; exact z1,zr⟩
def leaving_of {env:Env} {e:Value} {Q:Unit->Shared->Prop} (h:wpAny M A (noteFrame e env) (fun _ s2=>wpAny M A (setFlight e none) Q Ex s2) Ex s):wpAny M A (leaving env e) Q Ex s:=by
 unfold leaving
 exact wpAny_bind h
end
def excP (ea C:Addr) (d:Option Addr) (h:Heap):Prop:=∃ oe vs,h.get? ea=some oe/\oe.cls=.ref C/\oe.dict=d/\oe.data=.fields vs/\vs.size=6
def excP.ok {P:Program} {w:World} {H:Hp} {h:Heap} {ea C:Addr} {d:Option Addr} (x:excP ea C d h):ObjOk P w H h ea (.ext (excP ea C d)):=by
 obtain ⟨oe,vs,e,r⟩:=id x
 exact ⟨x,⟨oe,e⟩,fun h1 h2 ⟨o1,v1,e1,r1⟩ k=>⟨o1,v1,k _ e1,r1⟩⟩
def Flies (ea T:Addr) (h:Heap):Prop:=∃ oe vs oT ts,h.get? ea=some oe/\oe.data=.fields vs/\vs[1]?=some (.ref T)/\h.get? T=some oT/\oT.data=.fields ts/\ts[3]?=some .none/\T≠ea
def CXE (P:Program) (w:World):CXT:=fun outer H s E e s'=>∃ (ea C T:Addr) (d:Option Addr) (H':Hp),e=.ref ea/\s'.os=s.os/\AllBare s'.gens/\Un (frs outer) [] H H' s.heap s'.heap/\HOk P w H' s'.heap /\
 H' ea=some (.ext (excP ea C d))/\s.heap.objs.size<=ea/\H' T=none/\s.heap.objs.size<=T/\Flies ea T s'.heap/\E (.ref C) d H'
section
variable {X:Cx} {pins:List (Addr×Obj)} {σ:St} {H:Hp} {s:Shared}
def Inv.gone {ea C:Addr} {d:Option Addr} {T0:Option Addr} {oe:Obj} {vs:Array Value} {h':Heap} (I:Inv X pins σ H s) (hx:X.ex=[]) (hst:∀ b∈frs X.stack,b∈X.fs\/X.s₀.heap.objs.size<=b) (hea:H ea=some (.ext (excP ea C d))) (eo:s.heap.get? ea=some oe) (od:oe.data=.fields vs)
  (hT:∀ T,T0=some T->H T=none/\X.s₀.heap.objs.size<=T) (g:Gone (frs X.stack) ea T0 oe vs s.heap h'):Un X.fs [] X.H₀ H X.s₀.heap h'/\HOk X.prog X.w H h':=by
 have u:=I.base
 rw [hx] at u
 have ub:∀ b o,X.s₀.heap.get? b=some o->some b≠T0:=fun b o q z=>by
  have:=(hT b z.symm).2
  exact absurd (Heap.lt_size q) (Nat.not_lt.mpr this)
 refine ⟨⟨fun b o q n hb _=>?_,fun b o q n hb _=>?_,fun b o q n _=>u.free b o q n (by simp),fun b o q _=>?_,u.tups,u.frzs,u.tbls⟩,fun b o q=>?_⟩
 ·have n2:=u.free b o q n (by simp)
  have ne:b≠ea:=fun z=>by rw [z,hea] at n2; cases n2
  refine g.keep b o (fun z=>?_) ne (ub b o q) (u.keep b o q n hb (by simp))
  rcases hst b z with z | z
  ·exact hb z
  ·exact absurd (Heap.lt_size q) (Nat.not_lt.mpr z)
 ·have n2:=u.free b o q n (by simp)
  have ne:b≠ea:=fun z=>by rw [z,hea] at n2; cases n2
  obtain ⟨sl,e⟩:=u.slot b o q n hb (by simp)
  obtain ⟨sl2,e2⟩:=g.slot b _ ne (ub b o q) e
  exact ⟨sl2,e2⟩
 ·obtain ⟨o',e⟩:=u.there b o q (by simp)
  by_cases ne:b=ea
  ·subst ne
   obtain ⟨_,_,_,_,_,e3,_⟩:=g.flow
   exact ⟨_,e3⟩
  ·obtain ⟨sl,e2⟩:=g.slot b o' ne (ub b o q) e
   exact ⟨_,e2⟩
 ·have nfr:∀ c y,H c=some y->c∉frs X.stack:=fun c y r z=>by rw [I.stkFree c z] at r; cases r
  have nT:∀ c y,H c=some y->some c≠T0:=fun c y r z=>by rw [(hT c z.symm).1] at r; cases r
  by_cases ne:b=ea
  ·subst ne
   rw [hea] at q
   cases q
   obtain ⟨⟨o1,v1,a1,a2,a3,a4,a5⟩,_,_⟩:=I.hok b _ hea
   obtain ⟨T,vs',ob,ts,_,e3,e4,_⟩:=g.flow
   rw [eo] at a1
   cases a1
   rw [od] at a4
   cases a4
   exact excP.ok ⟨_,vs',e3,a2,a3,rfl,by rw [e4]; exact a5⟩
  ·refine (I.hok b o q).stay (fun c v hc r=>?_) (fun _ z=>z) fun _ _ z=>z
   rcases hc with hc | hc
   ·rw [hc] at r ⊢
    exact g.keep b v (nfr b o q) ne (nT b o q) r
   ·have ne2:c≠ea:=fun z=>by rw [z,hea] at hc; cases hc
    exact g.keep c v (nfr c _ hc) ne2 (nT c _ hc) r
end
section
variable {P:Program} {w:World} {K:W.Frag} {mg:Str->Option Value} {base:Heap} {N:List Str} {qual:Str} {scope:Scope} {f:Addr} {cd:Value} {A:Around} {outer:List Env} {s:Shared} {H:Hp} {E:XK}
abbrev cxE (P:Program) (w:World) (K:W.Frag) (mg:Str->Option Value) (base:Heap) (N:List Str) (qual:Str) (scope:Scope) (f:Addr) (cd:Value) (A:Around) (outer:List Env) (s:Shared) (H:Hp) (E:XK):Cx:=cxOf (CXE P w) P w K mg base N qual scope f cd A outer s H E
def cxE_stack:∀ b∈frs (cxE P w K mg base N qual scope f cd A outer s H E).stack,b∈(cxE P w K mg base N qual scope f cd A outer s H E).fs\/(cxE P w K mg base N qual scope f cd A outer s H E).s₀.heap.objs.size<=b:=fun b hb=>by
 rcases List.mem_cons.mp (show b∈s.heap.objs.size::frs outer from hb) with z | z
 ·exact .inr (Nat.le_of_eq z.symm)
 ·exact .inl z
def Lies (ea:Addr) (T0:Option Addr) (h:Heap):Prop:=match T0 with
 | none=>∃ oe vs,h.get? ea=some oe/\oe.data=.fields vs/\vs[1]?=some .none
 | some T=>Flies ea T h
theorem xe_of {pins:List (Addr×Obj)} {σ:St} {H2:Hp} {s2:Shared} {ea C:Addr} {d T0:Option Addr} (I:Inv (cxE P w K mg base N qual scope f cd A outer s H E) pins σ H2 s2) (hea:H2 ea=some (.ext (excP ea C d))) (lea:s.heap.objs.size<=ea)
  (hT:∀ T,T0=some T->H2 T=none/\s.heap.objs.size<=T) (fl:Lies ea T0 s2.heap) (q:E (.ref C) d H2):(cxE P w K mg base N qual scope f cd A outer s H E).xe (.ref ea) s2:=by
 have fin:∀ (oe:Obj) (vs:Array Value) (h':Heap),s2.heap.get? ea=some oe->oe.data=.fields vs->Gone (frs (cxE P w K mg base N qual scope f cd A outer s H E).stack) ea T0 oe vs s2.heap h'->CXE P w outer H s E (.ref ea) { s2 with heap:=h' }:=fun oe vs h' eo od g=>by
  obtain ⟨un,hok⟩:=I.gone rfl cxE_stack hea eo od hT g
  obtain ⟨T,vs',ob,ts,z1,z2,z3,z4,z5,z6,z7,z8⟩:=g.flow
  exact ⟨ea,C,T,d,H2,rfl,I.os,I.bare,un,hok,hea,lea,I.hok.fresh z1,Nat.le_trans I.sz z1,⟨_,vs',ob,ts,z2,rfl,z4,z5,z6,z7,z8⟩,q⟩
 show wpAny (model P w) _ (leaving _ _) _ _ _
 cases T0 with
 | none =>
  obtain ⟨oe,vs,eo,od,v1⟩:=fl
  exact leaving_of (noted_first (base:=base) I.ok.frames I.stack rfl eo od v1 fun h' g=>fin oe vs h' eo od g)
 | some T =>
  obtain ⟨oe,vs,oT,ts,eo,od,v1,eT,dT,t3,ne⟩:=fl
  exact leaving_of (noted_next (base:=base) I.ok.frames I.stack rfl eo od v1 eT dT t3 ne fun h' g=>fin oe vs h' eo od g)
end
def CalE (P:Program) (w:World) (K:W.Frag) (mg:Str->Option Value) (base:Heap) (x:Str) (k:Nat) (ps:List Str) (sp:Sp):Prop :=
 ∃ f fd,FnOk P w K mg base (CXE P w) k f fd ps sp/\mg x=some (.ref f)/\W.keepIn K (.ref f)=true/\Binds K fd ps []
section
variable {P:Program} {w:World} {K:W.Frag} {mg:Str->Option Value} {base:Heap}
def Fun.okE {x qual:Str} {st:Stmt} {f:Addr} {fd:FuncData} {N ps:List Str} {k:Nat} {sp:Sp} (F:Fun K x qual st f fd) (S:FnScope N ps (defScope st)) (len:∀ vs H Q E,sp vs H Q E->vs.length=ps.length)
  (hbody:∀ (cdv:Value) (A:Around) (outer:List Env) (s:Shared) (H:Hp) (vs:List V) (Q:VK) (E:XK),Room k (A.deeper (envOfC qual (defScope st) s.heap.objs.size f cdv))->sp vs H Q E ->
   ∃ t,PSs (cxE P w K mg base N qual (defScope st) f cdv A outer s H E) (defBody st) t/\t { nx:=fun _ H'=>Q .non H',rt:=Q } (start N vs) H):FnOk P w K mg base (CXE P w) (k + 1) f fd ps sp:=by
 obtain ⟨oc,od,kV,doc,pm,an,cdv,ct,osl,rfl,lk,hcd⟩:=F.ex
 exact fn_of lk hcd S len fun A outer s H vs Q E hr hsp=>hbody cdv A outer s H vs Q E hr hsp
end
end L2
namespace L2
open PySem PySem.Spec PyProof.Rows PySem.W
abbrev veB:List Value:=[.type "ValueError",.type "Exception",.type "BaseException",.type "object"]
def excI (K:Frag) (C fI:Addr):Bool:=match K.lookup C with
 | some ⟨.type "type",_,.cls cd,sl⟩=>(match cd.mro,sl.toList with
  | .ref C'::bm,[_,_,_,_,some (.builtin n),_]=>C' == C && (n == "ValueError.__new__" && (!cd.hasDel && (tailIn K veB bm && (nsOkIn K cd.ns && cd.hasDict))))
  | _,_=>false)
 | _=>false
def iniOf (K:Frag) (C:Addr):Option (Option Value):=match K.lookup C with
 | some ⟨_,_,.cls cd,_⟩=>nsIn K cd.ns "__init__"
 | _=>none
def ExcA (h:Heap) (C:Addr) (o:Option (Option Value)):Prop:=∃ bm N nm q bs sn sub ab col dd k0 k1 k2 k3 k5 mN,h.get? C=some (excClassObj nm q C N bs bm true sn sub ab col dd k0 k1 k2 k3 k5 "ValueError.__new__")/\h.Ns N mN/\(∀ z,o=some z->mN "__init__"=z)/\OwnTail h veB bm
def ExcI (h:Heap) (C fI:Addr):Prop:=∃ bm N nm q bs sn sub ab col dd k0 k1 k2 k3 k5 mN,h.get? C=some (excClassObj nm q C N bs bm true sn sub ab col dd k0 k1 k2 k3 k5 "ValueError.__new__")/\h.Ns N mN/\mN "__init__"=some (.ref fI)/\OwnTail h veB bm
def ns_some_of {K:Frag} {h:Heap} {N:Addr} {mg:Str->Option Value} {n:Str} {v:Value} (X:K.In h) (G:h.Ns N mg) (e:nsIn K N n=some (some v)):mg n=some v:=by
 obtain ⟨o,es,ep,ho,hd,_,hf⟩:=G
 unfold nsIn at e
 split at e
 ·rename_i c d es' n' sl q
  have z:=X _ _ q
  rw [ho] at z
  cases z
  cases hd
  split at e
  ·rename_i y he
   injection e with e
   rw [<- hf]
   unfold nsFind findBy
   rw [<- Array.find?_toList,he]
   exact e
  ·rename_i he
   split at e <;> cases e
 ·cases e
def ns_none_of {K:Frag} {h:Heap} {N:Addr} {mg:Str->Option Value} {n:Str} (X:K.In h) (G:h.Ns N mg) (e:nsIn K N n=some none):mg n=none:=by
 obtain ⟨o,es,ep,ho,hd,_,hf⟩:=G
 unfold nsIn at e
 split at e
 ·rename_i c d es' n' sl q
  have z:=X _ _ q
  rw [ho] at z
  cases z
  cases hd
  split at e
  ·cases e
  ·rename_i he
   rw [<- hf]
   unfold nsFind findBy
   rw [<- Array.find?_toList,he]
   rfl
 ·cases e
def excA_of {K:Frag} {h:Heap} {C fI:Addr} (X:K.In h) (q:excI K C fI=true):ExcA h C (iniOf K C):=by
 unfold excI at q
 split at q
 ·rename_i dd cd sl ho
  split at q
  ·rename_i C' bm k0 k1 k2 k3 n k5 hm hs
   have hin:iniOf K C=nsIn K cd.ns "__init__":=by unfold iniOf; rw [ho]
   simp only [Bool.and_eq_true,beq_iff_eq,Bool.not_eq_true'] at q
   obtain ⟨rfl,rfl,hdel,ht,hok,hdi⟩:=q
   obtain ⟨nm,bs,mro,ns,qn,hd,sn,sub,ab,col,del⟩:=cd
   dsimp only at hm hdel hok hdi hin
   subst hm hdel hdi
   have hsl:sl=#[k0,k1,k2,k3,some (.builtin "ValueError.__new__"),k5]:=by
    obtain ⟨l⟩:=sl
    simp only at hs
    rw [hs]
   subst hsl
   refine ⟨bm,ns,nm,qn,bs,sn,sub,ab,col,dd,k0,k1,k2,k3,k5,_,X _ _ ho,.of_isNs (isNs_of_in X hok),fun z hz=>?_,tail_of_in X ht⟩
   rw [hin] at hz
   cases z with
   | none=>exact ns_none_of X (.of_isNs (isNs_of_in X hok)) hz
   | some v=>exact ns_some_of X (.of_isNs (isNs_of_in X hok)) hz
  ·cases q
 ·cases q
def excI_of {K:Frag} {h:Heap} {C fI:Addr} (X:K.In h) (q:excI K C fI=true) (hi:iniOf K C=some (some (.ref fI))):ExcI h C fI:=by
 obtain ⟨bm,N,nm,q,bs,sn,sub,ab,col,dd,k0,k1,k2,k3,k5,mN,cO,cN,cI,T⟩:=excA_of X q
 exact ⟨bm,N,nm,q,bs,sn,sub,ab,col,dd,k0,k1,k2,k3,k5,mN,cO,cN,cI _ hi,T⟩
section
variable {prog:Program} {w:World} {A:Around} {E:Value->Shared->Prop} {h:Heap} {g:Array GenState} {d:Drawn} {t:Nat} {os:OsState}
def tcall_exc {C fI:Addr} {oI:Obj} {rest:List Value} {Q:PySem.Fin->Shared->Prop} (x:ExcI h C fI) (fo:h.get? fI=some oI) (fc:oI.cls=.type "function") (sz:rest.length<=sizeLine)
  (k:∀ h',Heap.MadeExcOf h h' (h.objs.size + 1) (.ref C) rest->wpAny (model prog w) A (call (.ref fI) (.ref (h.objs.size + 1)::rest)) (fun r s'=>r=.none/\Q (.done (.ret (.ref (h.objs.size + 1)))) s') E ⟨h',g,d,t,os⟩) :
  wpAny (model prog w) A (Builtin.«type.__call__» ⟨.ref C::rest,[]⟩) Q E ⟨h,g,d,t,os⟩:=by
 obtain ⟨bm,N,nm,q,bs,sn,sub,ab,col,dd,k0,k1,k2,k3,k5,mN,cO,cN,cI,T⟩:=x
 have F:=PySem.F.excBase_ValueError
 repeat (first | wp_step | with_reducible refine wpAny_loadPart_at cO ?_ | with_reducible refine wpAny_madeBy_exc cO ?_)
 refine codeAny_call_builtin_code (Code.quiet_builtin _ F.quiet) (wpAny_check_new_subT F T cO ?_)
 refine codeAny_exc_new_subT F T cO ?_ sz
 show wpAny _ _ _ _ _ _
 generalize hO1:({ cls:=.type "tuple",data:=.seq rest.toArray }:Obj)=o1
 generalize hO2:({ cls:=.ref C,data:=.fields #[.ref h.objs.size,.none,.none,.none,.bool false,.none] }:Obj)=o2
 have kp:∀ b o,h.get? b=some o->((h.push o1).push o2).get? b=some o:=fun b o e=>Heap.get?_push_of_some _ (Heap.get?_push_of_some _ e)
 have f1:o1.isFreed=false:=by rw [<- hO1]; rfl
 have f2:o2.isFreed=false:=by rw [<- hO2]; rfl
 have at2:((h.push o1).push o2).get? (h.objs.size + 1)=some o2:=by
  have:=Heap.get?_push_size (h.push o1) f2
  rwa [Heap.size_push] at this
 have c2:o2.cls=.ref C:=by rw [<- hO2]
 have self:(Value.ref C::bm).contains (.ref C)=true:=by simp
 have cO1:=kp _ _ cO
 have cN1:=cN.keeps kp
 have T1:=T.keeps kp
 unfold isInstance
 repeat (first | (with_reducible refine wpAny_loadPart_at at2 ?_; rw [c2]) | (with_reducible refine wpAny_isSubtype_exc cO1 ?_; rw [self]) | wp_step)
 show wpAny _ _ (typeLookup (.ref C) _) _ _ _
 refine wpAny_typeLookup_tail cO1 cN1 T1 F.mroIs F.init.lookup ?_
 rw [cI]
 refine wpAny_holding (wpAny_bind ?_)
 unfold bindSpecial
 refine wpAny_bind (wpAny_typeOf (T:="function") ⟨_,kp _ _ fo,fc⟩ ?_)
 rw [if_pos (by decide)]
 have made:Heap.MadeExcOf h ((h.push o1).push o2) (h.objs.size + 1) (.ref C) rest:=⟨kp,Heap.get?_none_of_le (Nat.le_succ _),h.objs.size,by rw [at2,<- hO2],Heap.get?_none_of_le (Nat.le_refl _),by rw [hO1]; exact Heap.get?_push_of_some _ (Heap.get?_push_size h f1)⟩
 refine wpAny_pure (wpAny_bind (wpAny_mono (k _ made) (fun r s' hr=>?_) fun _ _ z=>z))
 obtain ⟨rfl,hQ⟩:=hr
 wp_walk
 exact hQ
def call_exc {C fI:Addr} {oI:Obj} {rest:List Value} {Q:Value->Shared->Prop} (x:ExcI h C fI) (fo:h.get? fI=some oI) (fc:oI.cls=.type "function") (sz:rest.length<=sizeLine)
  (k:∀ h',Heap.MadeExcOf h h' (h.objs.size + 1) (.ref C) rest->wpAny (model prog w) (A.under (.builtin "type.__call__" ⟨.ref C::rest,[]⟩)) (call (.ref fI) (.ref (h.objs.size + 1)::rest)) (fun r s'=>r=.none/\Q (.ref (h.objs.size + 1)) s') E ⟨h',g,d,t,os⟩) :
  wpAny (model prog w) A (call (.ref C) rest) Q E ⟨h,g,d,t,os⟩:=by
 obtain ⟨bm,N,nm,q,bs,sn,sub,ab,col,dd,k0,k1,k2,k3,k5,mN,cO,cN,cI,T⟩:=id x
 have z1:=tc_lookup
 have z2:=tc_bind (.ref C)
 have ty:(⟨h,g,d,t,os⟩:Shared).TypeIs (.ref C) "type":=⟨_,cO,rfl⟩
 refine wpAny_call (codeAny_of_tree ?_)
 show wpAny _ _ (callAny (.ref C) _) _ _ _
 repeat (any_goals (first | assumption | wp_step | with_reducible refine wpAny_loadPart_at cO ?_))
 refine ⟨rfl,?_⟩
 exact codeAny_call_builtin_at (Code.quiet_builtin _ (by decide +kernel)) entry_typeCall (wpAny_check_type_call_sub cO (tcall_exc x fo fc sz k))
end
end L2
namespace L2
open PySem PySem.Spec PyProof.Rows PySem.W PySem.Builtin PySem.Builtin.ObjectAttr
def refuse_ve (self:Value):refuseLoop self "__setattr__" veB=pure ():=by kernel_rfl
theorem refuse_tail {h:Heap} (self:Value) {bm:List Value} (T:OwnTail h veB bm):refuseLoop self "__setattr__" bm=pure ():=by
 induction T with
 | base=>exact refuse_ve self
 | own _ _ _ _ ih=>rw [refuseLoop_ref]; exact ih
section
variable {prog:Program} {w:World} {A:Around} {E:Value->Shared->Prop} {s:Shared} {K:Frag} {C fI a:Addr}
def osa_exc {ox:Obj} {od:Option Obj} {name:Str} {tk:Tok} {v:Value} {R:Result->Shared->Prop} (X:K.In s.heap) (q:excI K C fI=true) (I:InstAt s.heap a ox C od) (ho:mroIn K C (.type "object")=some true) (ht:findIn K (.ref C) name=some none)
  (k:wpAny (model prog w) A.in1 (storeInOwnDict (.ref a) (.ref C) (.str name tk) name v false) (fun fin s'=>match fin with | .done f=>R (.ok f) s' | .again c'=>c'.quiet=true/\codeAny (model prog w) A c' R s') (fun e s'=>R (.error e) s') s) :
  codeAny (model prog w) A (.call (.builtin "object.__setattr__") ⟨[.ref a,.str name tk,v],[]⟩) R s:=by
 have SF:=PySem.F.store_object
 have sub:Looks (model prog w) s.heap (isInstance (.ref a) (.type "object")) true:=I.type.andThen (looks_mroIn X ho)
 refine codeAny_call_builtin SF.slot.plain SF.entry (@check_slot (model prog w) _ _ s "object.__setattr__" "object" "__setattr__" (.ref a) [.str name tk,v] [] _ SF.kind SF.split sub (SF.args (.ref a) (.str name tk) v) ?_)
 obtain ⟨bm,N,nm,qn,bs,sn,sub',ab,col,dd,k0,k1,k2,k3,k5,mN,cO,cN,cI,T⟩:=excA_of X q
 rw [osa_eq,refuse_eq]
 refine wpAny_bind (wpAny_bind (I.type.here (wpAny_bind ?_)))
 obtain ⟨hh,g,d,t,os⟩:=s
 refine wpAny_mroOf_exc cO ?_
 rw [refuseLoop_ref,refuse_tail _ T]
 refine wpAny_pure (wpAny_bind (I.type.here (wpAny_bind ((looks_findIn X ht).here (wpAny_bind ?_)))))
 show wpAny _ _ (pure none) _ _ _
 refine wpAny_pure ?_
 exact k
theorem set_exc0 {ox:Obj} {vs:Array Value} {name:Str} {v:Value} {Q:Unit->Shared->Prop} (X:K.In s.heap) (q:excI K C fI=true) (ho:mroIn K C (.type "object")=some true) (ht:findIn K (.ref C) name=some none)
  (hs:findIn K (.ref C) "__setattr__"=some (some (.builtin "object.__setattr__"))) (ao:s.heap.get? a=some ox) (cl:ox.cls=.ref C) (dn:ox.dict=none) (od:ox.data=.fields vs)
  (k:∀ h',h'.Ns1 s.heap.objs.size (fun y=>if y=name then some v else none)->h'.get? a=some { ox with dict:=some s.heap.objs.size }->(∀ b o,b≠a->s.heap.get? b=some o->h'.get? b=some o)->Q () { s with heap:=h',toks:=s.toks + 2 }) :
  wpAny (model prog w) A (setAttr (.ref a) name v) Q E s:=by
 have I:InstAt s.heap a ox C none:=⟨ao,cl,by obtain ⟨c,dd,dt,sl⟩:=ox; cases od; rfl,by rw [dn]; trivial⟩
 refine W.set_plain X I hs (osa_exc (s:={ s with toks:=s.toks + 1 }) X q I ho ht ?_)
 obtain ⟨bm,N,nm,qn,bs,sn,sub',ab,col,dd,k0,k1,k2,k3,k5,mN,cO,cN,cI,T⟩:=excA_of X q
 obtain ⟨c,di,dt,sl⟩:=ox
 dsimp only at cl dn od
 subst cl dn od
 refine wpAny_bind (wpAny_pure (wpAny_bind (wpAny_bind (wpAny_loadPart ao (wpAny_bind ?_)))))
 unfold classData
 refine wpAny_bind (wpAny_load cO (wpAny_pure ?_))
 show wpAny _ _ (alloc { cls:=.type "dict",data:=.dict #[] } >>= fun d=>update a (fun o=>{ o with dict:=some d }) >>= fun _=>dictMade (.ref C) a d) _ _ _
 refine wpAny_bind (wpAny_alloc ?_)
 have ao2:(s.heap.push { cls:=.type "dict",data:=.dict #[] }).get? a=some _:=Heap.get?_push_of_some _ ao
 refine wpAny_bind (wpAny_update ao2 ?_)
 refine wpAny_pure ?_
 refine wpAny_bind (wpAny_pure (wpAny_bind ?_))
 have fz:(s.heap.push { cls:=.type "dict",data:=.dict #[] }).objs.size=s.heap.objs.size + 1:=Heap.size_push ..
 have ne:a≠s.heap.objs.size:=Nat.ne_of_lt (Heap.lt_size ao)
 generalize hU:(s.heap.push { cls:=.type "dict",data:=.dict #[] }).update a (fun o=>{ o with dict:=some s.heap.objs.size })=hp
 have aU:hp.get? a=some { cls:=.ref C,dict:=some s.heap.objs.size,data:=.fields vs,slots:=sl }:=by
  rw [<- hU]
  exact Heap.get?_update_self _ ao2 rfl
 have oU:∀ b o,b≠a->(s.heap.push { cls:=.type "dict",data:=.dict #[] }).get? b=some o->hp.get? b=some o:=fun b o hb e=>by
  rw [<- hU,Heap.get?_update_other _ _ (Ne.symm hb)]
  exact e
 have dU:hp.get? s.heap.objs.size=some { cls:=.type "dict",data:=.dict #[] }:=oU _ _ (Ne.symm ne) (Heap.get?_push_size s.heap rfl)
 have hn0:hp.Ns1 s.heap.objs.size (fun _=>none):=⟨_,#[],_,dU,rfl,(fun e he=>absurd he (by simp)),by first | trivial | exact List.Pairwise.nil | (intro x; simp),fun _=>rfl⟩
 have w0:PySem.Within (fun _:Str=>(none:Option Value)) []:=fun n hn=>absurd rfl hn
 refine wpAny_nsSet1 (s:={ s with heap:=hp,toks:=s.toks + 1 }) hn0 fun h' hn2 hs2=>?_
 obtain ⟨oD,esD,epD,hoD,hdD,hcD⟩:=hn2.count (PySem.Within.cons name v w0)
 refine wpAny_bind (wpAny_lookBehind hoD (by rw [hdD]; exact pastItsLine_dict (Nat.le_trans hcD (by show 1<=sizeLine + 1; omega))) ?_)
 exact wpAny_pure (k h' hn2 ((hs2.2 _ ne).trans aU) fun b o hb e=>(hs2.2 b (fun z=>by
  rw [z] at e
  exact absurd (Heap.lt_size e) (Nat.lt_irrefl _))).trans (oU b o hb (Heap.get?_push_of_some _ e)))
theorem set_exc1 {ox:Obj} {vs:Array Value} {name:Str} {v:Value} {dx:Addr} {mA:Str->Option Value} {ns:List Str} {Q:Unit->Shared->Prop} (X:K.In s.heap) (q:excI K C fI=true) (ho:mroIn K C (.type "object")=some true) (ht:findIn K (.ref C) name=some none)
  (hs:findIn K (.ref C) "__setattr__"=some (some (.builtin "object.__setattr__"))) (ao:s.heap.get? a=some ox) (cl:ox.cls=.ref C) (dn:ox.dict=some dx) (od:ox.data=.fields vs) (hn:s.heap.Ns1 dx mA) (ne:dx≠a) (hw:PySem.Within mA ns) (sz:ns.length<=1000)
  (k:∀ h',h'.Ns1 dx (fun y=>if y=name then some v else mA y)->Heap.SameBut dx s.heap h'->Q () { s with heap:=h',toks:=s.toks + 2 }) :
  wpAny (model prog w) A (setAttr (.ref a) name v) Q E s:=by
 obtain ⟨odx,_,_,edx,_⟩:=id hn
 have I:InstAt s.heap a ox C (some odx):=⟨ao,cl,by obtain ⟨c,dd,dt,sl⟩:=ox; cases od; rfl,by rw [dn]; exact edx⟩
 refine W.set_plain X I hs (osa_exc (s:={ s with toks:=s.toks + 1 }) X q I ho ht ?_)
 obtain ⟨bm,N,nm,qn,bs,sn,sub',ab,col,dd,k0,k1,k2,k3,k5,mN,cO,cN,cI,T⟩:=excA_of X q
 obtain ⟨c,di,dt,sl⟩:=ox
 dsimp only at cl dn od
 subst cl dn od
 refine wpAny_bind (wpAny_pure (wpAny_bind (wpAny_bind (wpAny_loadPart ao (wpAny_bind ?_)))))
 unfold classData
 refine wpAny_bind (wpAny_load cO (wpAny_pure ?_))
 refine wpAny_pure (a:=some dx) (wpAny_bind (wpAny_pure (wpAny_bind ?_)))
 refine wpAny_nsSet1 (s:={ s with toks:=s.toks + 1 }) hn fun h' hn2 hs2=>?_
 obtain ⟨oD,esD,epD,hoD,hdD,hcD⟩:=hn2.count (PySem.Within.cons name v hw)
 refine wpAny_bind (wpAny_lookBehind hoD (by rw [hdD]; exact pastItsLine_dict (Nat.le_trans hcD (by rw [List.length_cons,sizeLine_eq]; omega))) ?_)
 exact wpAny_pure (k h' hn2 hs2)
end
section
variable {prog:Program} {w:World} {A:Around} {E:Value->Shared->Prop} {s:Shared} {K:Frag} {C a:Addr}
def get_exc {expr:Bool} {ox:Obj} {vs:Array Value} {name:Str} {v:Value} {dx:Addr} {mA:Str->Option Value} {Q:Value->Shared->Prop} (X:K.In s.heap) (hh:hasDictIn K C=true) (hb:mroIn K C (.type "BaseException")=some true)
  (g1:findIn K (.ref C) "__getattribute__"=some (some (.builtin "BaseException.__getattribute__"))) (g2:findIn K (.ref C) "__getattr__"=some none) (ht:findIn K (.ref C) name=some none)
  (ao:s.heap.get? a=some ox) (cl:ox.cls=.ref C) (dn:ox.dict=some dx) (od:ox.data=.fields vs) (hn:s.heap.Ns1 dx mA) (hv:mA name=some v) (hv':handedIn v=true) (k:Q v { s with toks:=s.toks + 1 }) :
  wpAny (model prog w) A (getAttr (.ref a) name expr) Q E s:=by
 obtain ⟨odx,eo,hl⟩:=lookIn_ns hn
 have I:InstAt s.heap a ox C (some odx):=⟨ao,cl,by obtain ⟨c,dd,dt,sl⟩:=ox; cases od; rfl,by rw [dn]; exact eo⟩
 have L0:=I.type (M:=model prog w)
 have L1:=looks_findIn (M:=model prog w) X g1
 have L2:=looks_findIn (M:=model prog w) X g2
 have L3:=looks_find (M:=model prog w) X I (findObj_own hh ht rfl (by rw [hl,hv]))
 have L4:Looks (model prog w) s.heap (isInstance (.ref a) (.type "BaseException")) true:=I.type.andThen (looks_mroIn X hb)
 obtain ⟨hp,g,d,t,os⟩:=s
 unfold getAttr getAttrBy
 refine wpAny_bind (wpAny_mkText (wpAny_holding (wpAny_bind (L0.at (wpAny_bind (L1.at ?_))))))
 show wpAny _ _ (getAttrByItsOwn (.ref a) (.str name t) (.ref C) (.builtin "BaseException.__getattribute__") true expr) _ _ _
 unfold getAttrByItsOwn hookBefore
 rw [if_pos (show onTheHeap (Value.ref C)=true from rfl)]
 refine wpAny_bind (L2.at (wpAny_bind (wpAny_attempt (wpAny_holding ?_))))
 unfold callGetattribute
 rw [if_neg (show ¬ ((expr && onTheHeap (Value.builtin "BaseException.__getattribute__"))=true) by cases expr <;> exact Bool.false_ne_true)]
 unfold boundAndCalled
 have ga:=PySem.F.attrBase_ValueError.ga
 rw [ga.bind]
 refine wpAny_bind (wpAny_pure ?_)
 show wpAny _ _ (call (Value.builtin "BaseException.__getattribute__") [.ref a,.str name t]) _ _ _
 refine wpAny_call (codeAny_call_builtin ga.plain F.entry_bexc_ga ?_)
 have hk:builtinKind "BaseException.__getattribute__"=some .slot:=by decide +kernel
 have hsp:splitId "BaseException.__getattribute__"=some ("BaseException", "__getattribute__"):=by decide +kernel
 refine @check_slot (model prog w) _ _ _ "BaseException.__getattribute__" "BaseException" "__getattribute__" (.ref a) [.str name t] [] _ hk hsp L4 (F.args_bexc_ga (.ref a) (.str name t)) ?_
 unfold Builtin.«object.__getattribute__»
 refine wpAny_bind (wpAny_pure (wpAny_bind (wpAny_pure (wpAny_bind (L0.at (wpAny_bind (L3.at ?_)))))))
 refine wpAny_pure ?_
 show wpAny _ _ (handedOut v) _ _ _
 rw [handedOut_of hv']
 exact wpAny_pure k
end
end L2
namespace L2
open PySem PySem.Spec PyProof.Rows PySem.W
structure XCl (K:Frag) (C fI:Addr):Prop where
 ei:excI K C fI=true
 ob:mroIn K C (.type "object")=some true
 bx:mroIn K C (.type "BaseException")=some true
 sa:findIn K (.ref C) "__setattr__"=some (some (.builtin "object.__setattr__"))
 ga:findIn K (.ref C) "__getattribute__"=some (some (.builtin "BaseException.__getattribute__"))
 gt:findIn K (.ref C) "__getattr__"=some none
 hd:hasDictIn K C=true
 kp:keepIn K (.ref C)=true
 fn:typeIn K (.ref fI)=some (.type "function")
 cc:findIn K (.ref C) "__class__"=some (some (.builtin "object.__class__"))
 cg:specialIn K (.builtin "object.__class__") "__get__"=some (some (.builtin "getset_descriptor.__get__"))
 ct:takesIn K (.builtin "object.__class__")=some true
def excN (ea C:Addr) (d:Option Addr) (h:Heap):Prop:=∃ oe vs,h.get? ea=some oe/\oe.cls=.ref C/\oe.dict=d/\oe.data=.fields vs/\vs.size=6/\vs[1]?=some .none
def excN.ok {P:Program} {w:World} {H:Hp} {h:Heap} {ea C:Addr} {d:Option Addr} (x:excN ea C d h):ObjOk P w H h ea (.ext (excN ea C d)):=by
 obtain ⟨oe,vs,e,r⟩:=id x
 exact ⟨x,⟨oe,e⟩,fun h1 h2 ⟨o1,v1,e1,r1⟩ k=>⟨o1,v1,k _ e1,r1⟩⟩
def xdP (d:Addr) (fs:List (Str×V)) (h:Heap):Prop:=∃ mA,h.Ns1 d mA/\(∀ f,RelO (fs.lookup f) (mA f))/\PySem.Within mA (fs.map (·.1))
def xdP.ok {P:Program} {w:World} {H:Hp} {h:Heap} {d:Addr} {fs:List (Str×V)} (x:xdP d fs h):ObjOk P w H h d (.ext (xdP d fs)):=by
 obtain ⟨mA,⟨o,es,ep,e,r⟩,q⟩:=id x
 exact ⟨x,⟨o,e⟩,fun h1 h2 ⟨m1,n1,q1⟩ k=>⟨m1,n1.at k,q1⟩⟩
section
variable {X:Cx} {pins:List (Addr×Obj)} {σ:St} {H:Hp} {s:Shared}
def Inv.two {ea d:Addr} {φ ψ o1:HO} {h':Heap} {t':Nat} (I:Inv X pins σ H s) (hea:H ea=some φ) (mu:Mut (some φ)) (hd:s.heap.objs.size<=d) (k:∀ b o,b≠ea->s.heap.get? b=some o->h'.get? b=some o) (te:∃ o,h'.get? ea=some o)
  (n1:∀ H2,ObjOk X.prog X.w H2 h' ea o1) (n2:∀ H2,ObjOk X.prog X.w H2 h' d ψ):Inv X pins σ (upd (upd H ea o1) d ψ) { s with heap:=h',toks:=t' }:=by
 have nd:H d=none:=I.hok.fresh hd
 have ed:d≠ea:=fun z=>by rw [z,hea] at nd; cases nd
 have ld:∀ b o,s.heap.get? b=some o->b≠d:=fun b o q z=>by rw [z] at q; exact absurd (Heap.lt_size q) (Nat.not_lt.mpr hd)
 have at':∀ b u,b≠ea->H b=some u->upd (upd H ea o1) d ψ b=some u:=fun b u h1 e=>by rw [upd_ne (fun z=>by rw [z,nd] at e; cases e),upd_ne h1]; exact e
 have own:∀ c y,H c=some (.own y)->c≠ea:=fun c y e z=>by rw [z,hea] at e; cases e; exact mu
 have tup:∀ c y,H c=some (.tup y)->c≠ea:=fun c y e z=>by rw [z,hea] at e; cases e; exact mu
 have frz:∀ c y u,H c=some (.frz y u)->c≠ea:=fun c y u e z=>by rw [z,hea] at e; cases e; exact mu
 have tbl:∀ c y,H c=some (.tbl y)->c≠ea:=fun c y e z=>by rw [z,hea] at e; cases e; exact mu
 refine I.un ⟨fun b o q n _ _=>?_,fun b o q n _ _=>?_,fun b o q n _=>?_,fun b o q _=>?_,fun b xs e=>at' _ _ (tup _ _ e) e,fun b o u e=>at' _ _ (frz _ _ _ e) e,fun b ps e=>⟨#[],by rw [at' _ _ (tbl _ _ e) e]; simp⟩⟩ (fun b o q=>?_)
 ·exact k b o (fun z=>by rw [z,hea] at n; cases n) q
 ·exact ⟨o.slots,k b o (fun z=>by rw [z,hea] at n; cases n) q⟩
 ·rw [upd_ne (ld b o q),upd_ne (fun z=>by rw [z,hea] at n; cases n)]
  exact n
 ·by_cases z:b=ea
  ·rw [z]; exact te
  ·exact ⟨o,k b o z q⟩
 ·by_cases z:b=d
  ·subst z
   rw [upd_same] at q
   cases q
   exact n2 _
  ·rw [upd_ne z] at q
   by_cases z2:b=ea
   ·subst z2
    rw [upd_same] at q
    cases q
    exact n1 _
   ·rw [upd_ne z2] at q
    refine (I.hok b o q).stay (fun c v hc r=>?_) (fun c e=>at' _ _ (own _ _ e) e) fun c xs e=>at' _ _ (tup _ _ e) e
    rcases hc with hc | hc
    ·rw [hc] at r ⊢
     exact k b v z2 r
    ·exact k c v (own _ _ hc) r
end
def sXFld (K:Frag) (ta tv:TE) (f:Str):TS:=fun D σ H=>tv σ H fun y H1=>ta σ H1 fun x H2=>∃ ea C fI,x=.ref ea/\XCl K C fI/\findIn K (.ref C) f=some none /\
  ((H2 ea=some (.ext (excN ea C none))/\∀ d,H2 d=none->d≠ea->D.nx σ (upd (upd H2 ea (.ext (excN ea C (some d)))) d (.ext (xdP d [(f,y)])))) \/
   ∃ d fs,H2 ea=some (.ext (excN ea C (some d)))/\H2 d=some (.ext (xdP d fs))/\fs.length < 1000/\D.nx σ (upd H2 d (.ext (xdP d (putF f y fs)))))
def tXFld (K:Frag) (ta:TE) (f:Str):TE:=fun σ H Q=>ta σ H fun x H1=>∃ ea C fI d fs v,x=.ref ea/\XCl K C fI/\findIn K (.ref C) f=some none/\H1 ea=some (.ext (excP ea C (some d)))/\H1 d=some (.ext (xdP d fs))/\fs.lookup f=some v/\Q v H1
section
variable {X:Cx} {o value:Expr} {f:Str} {pos pos':Pos} {ta tv:TE}
def relo_put {fs:List (Str×V)} {mA:Str->Option Value} {f:Str} {y:V} {u:Value} (r:∀ g,RelO (fs.lookup g) (mA g)) (ry:RelV y u) (g:Str):RelO ((putF f y fs).lookup g) (if g=f then some u else mA g):=by
 rw [lookup_putF]
 by_cases q:g=f
 ·rw [if_pos q,if_pos q]; exact ry
 ·rw [if_neg q,if_neg q]; exact r g
def within_put {fs:List (Str×V)} {mA:Str->Option Value} {f:Str} {y:V} {u:Value} (wi:PySem.Within mA (fs.map (·.1))):PySem.Within (fun g=>if g=f then some u else mA g) ((putF f y fs).map (·.1)):=fun g hg=>by
 by_cases q:g=f
 ·rw [q]; exact (keys_putF f y fs).1
 ·refine (keys_putF f y fs).2 g (wi g fun z=>hg ?_)
  show (if g=f then some u else mA g)=none
  rw [if_neg q]; exact z
theorem ps_xfld (ha:PE X o ta) (hv:PE X value tv) (hs:swapsWith value (some (.Attribute o f pos')) pos.line X.env=pure false):PS X (.Assign [.Attribute o f pos'] value pos) (sXFld X.K ta tv f):=by
 intro pins s σ H D I h
 refine plainObj_wpAny_Assign_Attribute (thn (hv pins s σ H _ I h) fun u s1 ⟨y,H1,I1,ry,q⟩=>thn (ha pins s1 σ H1 _ I1 q) fun ov s2 ⟨x,H2,I2,rx,ea,C,fI,ex,xc,hf,q2⟩=>?_) hs
 subst ex
 obtain rfl:ov=Value.ref ea:=rx
 rcases q2 with ⟨hea,q2⟩ | ⟨d,fs,hea,hd,hl,q2⟩
 ·obtain ⟨⟨oe,vs,e1,e2,e3,e4,e5,e6⟩,_,_⟩:=I2.hok ea _ hea
  refine set_exc0 I2.kIn xc.ei xc.ob hf xc.sa e1 e2 e3 e4 fun h' hn ha' hk=>?_
  have nd:=I2.hok.fresh (Nat.le_refl s2.heap.objs.size)
  refine ⟨σ,_,I2.two (d:=s2.heap.objs.size) (ψ:=.ext (xdP s2.heap.objs.size [(f,y)])) (o1:=.ext (excN ea C (some s2.heap.objs.size))) hea True.intro (Nat.le_refl _) hk ⟨_,ha'⟩ (fun _=>excN.ok ⟨_,vs,ha',e2,rfl,e4,e5,e6⟩) (fun _=>xdP.ok ⟨_,hn,relo_put (fs:=[]) (fun _=>True.intro) ry,within_put (fs:=[]) (y:=y) fun g hg=>absurd rfl hg⟩),q2 _ nd fun z=>by rw [z,hea] at nd; cases nd⟩
 ·obtain ⟨⟨oe,vs,e1,e2,e3,e4,e5,e6⟩,_,_⟩:=I2.hok ea _ hea
  obtain ⟨⟨mA,n1,r1,w1⟩,_,_⟩:=I2.hok d _ hd
  have ne:d≠ea:=fun z=>by
   rw [z] at n1
   obtain ⟨o',_,_,a1,a2,_⟩:=n1
   rw [e1] at a1
   cases a1
   rw [e4] at a2
   cases a2
  refine set_exc1 I2.kIn xc.ei xc.ob hf xc.sa e1 e2 e3 e4 n1 ne w1 (by rw [List.length_map]; omega) fun h' hn sb=>?_
  obtain ⟨od',_,_,ed',_⟩:=id hn
  exact ⟨σ,_,I2.write (x:=d) (e:=d) (by rw [hd]; exact True.intro) (.inl rfl) (fun b u hb e=>(sb.2 b hb).trans e) ⟨od',ed'⟩ (xdP.ok ⟨_,hn,relo_put r1 ry,within_put w1⟩),q2⟩
def pe_xfld (ha:PE X o ta) (hb:attributeBase o f X.env (eval o X.env)=eval o X.env):PE X (.Attribute o f pos) (tXFld X.K ta f):=by
 intro pins s σ H Q I h
 refine attr_of hb (thn (ha pins s σ H _ I h) fun u s1 ⟨x,H1,I1,rx,ea,C,fI,d,fs,v,ex,xc,hf,hea,hd,l,q⟩=>?_)
 subst ex
 obtain rfl:u=Value.ref ea:=rx
 obtain ⟨⟨oe,vs,e1,e2,e3,e4,e5⟩,_,_⟩:=I1.hok ea _ hea
 obtain ⟨⟨mA,n1,r1,w1⟩,_,_⟩:=I1.hok d _ hd
 obtain ⟨u',hu,ru⟩:=RelO.some_of (v:=v) (o:=mA f) (by rw [<- l]; exact r1 f)
 exact get_exc I1.kIn xc.hd xc.bx xc.ga xc.gt hf e1 e2 e3 e4 n1 hu (handed_of ru) ⟨v,H1,I1.tok _,ru,q⟩
end
def Rx (P:Program) (w:World) (K:Frag) (mg:Str->Option Value) (base:Heap) (x:Str) (C:Addr) (k:Nat) (ps:List Str) (sp:Sp):Prop :=
 ∃ fI fd,XCl K C fI/\iniOf K C=some (some (.ref fI))/\FnOk P w K mg base CX0 k fI fd ps sp/\mg x=some (.ref C)/\Binds K fd ps []
section
variable {X:Cx} {C fI:Addr} {k:Nat} {fd:FuncData} {ps:List Str} {sp:Sp}
theorem run_exc {pins:List (Addr×Obj)} {σ:St} {H:Hp} {s:Shared} {us:List Value} {vs:List V} {R:Addr->Hp->Prop} (xc:XCl X.K C fI) (xi:iniOf X.K C=some (some (.ref fI))) (F:FnOk X.prog X.w X.K X.mg X.base CX0 k fI fd ps sp) (hr:Room (k + 1) X.A) (hb:Binds X.K fd ps []) (I:Inv X pins σ H s) (r:Vals vs us) (sz:us.length<=sizeLine)
  (h:∀ ea,H ea=none->sp (.ref ea::vs) (upd H ea (.ext (excN ea C none))) (fun v H2=>v=.non/\R ea H2) E0) :
  wpAny (model X.prog X.w) X.A (call (.ref C) us) (fun u s'=>∃ ea H2,u=.ref ea/\Inv X pins σ H2 s'/\s.heap.objs.size<=ea/\R ea H2) X.xe s:=by
 have hq:=h (s.heap.objs.size + 1) (I.hok.fresh (Nat.le_succ _))
 obtain ⟨oI,lI,tI⟩:∃ o,X.K.lookup fI=some o/\o.cls=.type "function":=by
  have z:Option.map (fun x=>x.cls) (X.K.lookup fI)=some (.type "function"):=xc.fn
  obtain ⟨o,e,c⟩:=Option.map_eq_some_iff.mp z
  exact ⟨o,e,c⟩
 have fo:=I.kIn _ _ lI
 obtain ⟨hp,g,d,t,os⟩:=s
 refine call_exc (excI_of I.kIn xc.ei xi) fo tI sz fun h' hm=>?_
 obtain ⟨tt,h1,h2,h3⟩:=hm.there
 have I2:Inv X pins σ (upd H (hp.objs.size + 1) (.ext (excN (hp.objs.size + 1) C none))) ⟨h',g,d,t,os⟩:=I.laid (a:=hp.objs.size + 1) (h':=h') (t':=t) hm.keeps (Nat.le_succ _) (excN.ok ⟨_,_,h1,rfl,rfl,rfl,rfl,rfl⟩)
 have r2:Vals (V.ref (hp.objs.size + 1)::vs) (Value.ref (hp.objs.size + 1)::us):=.cons rfl r
 have hl:(Value.ref (hp.objs.size + 1)::us++[]).length=ps.length:=by
  have e:=r2.length
  rw [F.len _ _ _ _ hq] at e
  rw [List.append_nil]
  exact e.symm
 have bb:=hb ⟨h',g,d,t,os⟩ (Value.ref (hp.objs.size + 1)::us) I2.kIn hl
 rw [List.append_nil] at bb
 refine wpAny_call (codeAny_mono (F.run _ X.stack _ _ ⟨Value.ref (hp.objs.size + 1)::us,[]⟩ (Value.ref (hp.objs.size + 1)::us) _ _ E0 (hr.make C us []) (I2.env0.make C us []) bb r2 hq) fun r s' hq'=>?_)
 cases r with
 | error e=>exact False.elim hq'
 | ok fl =>
  cases fl with
  | ret u =>
   obtain ⟨v,H',I3,rv,hv,q⟩:=I2.after hq'
   subst hv
   obtain rfl:u=Value.none:=rv
   exact ⟨rfl,_,H',rfl,I3,Nat.le_succ _,q⟩
  | next=>exact False.elim hq'
  | brk=>exact False.elim hq'
  | cont=>exact False.elim hq'
end
section
variable {M:Model} {A:Around} {Ex:Value->Shared->Prop} {env:Env}
def raise_made {s:Shared} {x:Sem Value} {Q:Flow->Shared->Prop} {C:Addr} {oi:Option (Option Value)} (hh:A.handled=none)
  (h:wpAny M A x (fun v s1=>∃ e oe vs,v=.ref e/\ExcA s1.heap C oi/\s1.heap.get? e=some oe/\oe.cls=.ref C/\oe.data=.fields vs/\vs[1]?=some .none/\Ex (.ref e) s1) Ex s) :
  wpAny M A (raiseStmt env (some x) none) Q Ex s:=by
 unfold raiseStmt
 refine wpAny_bind (wpAny_mono h (fun v s1 h1=>?_) fun _ _ z=>z)
 obtain ⟨e,oe,vs,rfl,⟨bm,N,nm,q,bs,sn,sub,ab,col,dd,k0,k1,k2,k3,k5,mN,cO,cN,cI,T⟩,he,hc,hd,v1,hE⟩:=h1
 have hB:(Value.ref C::bm).contains (.type "BaseException")=true:=by rw [List.contains_cons,T.hasType PySem.F.excBase_ValueError.hasBase,Bool.or_true]
 obtain ⟨hp,g,d,tk,os⟩:=s1
 repeat (first | (with_reducible refine wpAny_loadPart_at he ?_; rw [hc]) | with_reducible refine wpAny_field he hd v1 ?_ | with_reducible refine wpAny_loadPart_at cO ?_ | (with_reducible refine wpAny_isSubtype_exc cO ?_; rw [hB]) | wp_step)
 exact wpAny_raiseNew_none hh hE
end
def tRaise (C:Addr) (sp:Sp) (E:XK) (t:TA):TS:=fun _ σ H=>t σ H fun vs H1=>vs.length<=10/\∀ ea,H1 ea=none->sp (.ref ea::vs) (upd H1 ea (.ext (excN ea C none))) (fun v H2=>v=.non/\∃ d,H2 ea=some (.ext (excN ea C (some d)))/\E (.ref C) (some d) (upd H2 ea (.ext (excP ea C (some d))))) E0
section
variable {P:Program} {w:World} {K:Frag} {mg:Str->Option Value} {base:Heap} {N:List Str} {qual:Str} {scope:Scope} {f:Addr} {cd:Value} {A:Around} {outer:List Env} {s:Shared} {H:Hp} {E:XK}
def ps_raise {C:Addr} {k:Nat} {ps:List Str} {sp:Sp} {x:Str} {np cpos pos:Pos} {e:Expr} {es:List Expr} {t:TA} (R:Rx P w K mg base x C k ps sp) (hr:Room (k + 1) (cxE P w K mg base N qual scope f cd A outer s H E).A) (hg:Gl (cxE P w K mg base N qual scope f cd A outer s H E) x)
  (ha:PA (cxE P w K mg base N qual scope f cd A outer s H E) (e::es) t) (hdb:(x == ("__debug__":Str))=false:=by decide)
  (he:starEach (e::es) (cxE P w K mg base N qual scope f cd A outer s H E).env=(false,eval e (cxE P w K mg base N qual scope f cd A outer s H E).env)::starEach es (cxE P w K mg base N qual scope f cd A outer s H E).env:=by rfl) (hpl:(backTo cpos (starEach es (cxE P w K mg base N qual scope f cd A outer s H E).env)).any (·.1)=false:=by rfl) :
  PS (cxE P w K mg base N qual scope f cd A outer s H E) (.Raise (some (.Call (.Name x np) (e::es) [] cpos)) none pos) (tRaise C sp E t):=by
 intro pins s1 σ H1 D I h
 obtain ⟨fI,fd,xc,xi,F,hm,hb⟩:=R
 rw [arm_exec_Raise]
 refine wpAny_bind (wpAny_standAt (raise_made (C:=C) (oi:=iniOf K C) (I.ok.hd rfl) ?_))
 refine wpAny_bind (wpAny_mono ?_ (fun v s3 h3=>wpAny_bind (wpAny_standAt (wpAny_pure h3))) fun _ _ z=>z)
 refine wpAny_Call_Name_kw (ld_glob I hg hm ?_ hdb)
 refine W.callWith_K (h₀:=base) I.ok.mod.kin xc.kp (thn (ha cpos pins s1 σ H1 _ I h) fun us s2 ⟨vs,H2,I2,r,l10,q⟩=>⟨I2.kIn,?_⟩) he hpl
 refine wpAny_mono (run_exc (R:=fun ea H2=>∃ d,H2 ea=some (.ext (excN ea C (some d)))/\E (.ref C) (some d) (upd H2 ea (.ext (excP ea C (some d))))) xc xi F hr hb I2 r (by show us.length<=sizeLine; rw [<- r.length]; exact Nat.le_trans l10 (by decide)) q) (fun u s3 hu=>?_) fun _ _ z=>z
 obtain ⟨ea,H3,rfl,I3,lea,d,hea,qE⟩:=hu
 obtain ⟨⟨oe,ws,e1,e2,e3,e4,e5,e6⟩,_,_⟩:=I3.hok ea _ hea
 refine ⟨ea,oe,ws,rfl,excA_of I3.kIn xc.ei,e1,e2,e4,e6,?_⟩
 have I4:Inv (cxE P w K mg base N qual scope f cd A outer s H E) pins σ (upd H3 ea (.ext (excP ea C (some d)))) { s3 with heap:=s3.heap,toks:=s3.toks }:=I3.write (x:=ea) (e:=ea) (by rw [hea]; exact True.intro) (.inl rfl) (fun b u _ z=>z) ⟨_,e1⟩ (excP.ok ⟨oe,ws,e1,e2,e3,e4,e5⟩)
 exact xe_of (T0:=none) I4 upd_same (Nat.le_trans I2.sz lea) (fun T z=>by cases z) ⟨oe,ws,e1,e4,e6⟩ qE
end
section
variable {X:Cx} {pins:List (Addr×Obj)} {σ:St} {H:Hp} {s:Shared}
def Caught (X:Cx) (pins:List (Addr×Obj)) (σ:St) (Ex:XK) (e:Value) (s':Shared):Prop:=∃ (ea C T:Addr) (d:Option Addr) (H':Hp),e=.ref ea/\Inv X pins σ H' s'/\H' ea=some (.ext (excP ea C d))/\Flies ea T s'.heap/\FpOk X pins H' T/\Ex (.ref C) d H'
def PassesF (CX:CXT) (X:Cx) (pins:List (Addr×Obj)) (σ:St) (E:XK):Prop:=∀ (H:Hp) (s:Shared) (e:Value) (s':Shared),Inv X pins σ H s->CX X.stack H s E e s'->X.xe e s'
def passF {Ex:XK}:PassesF (CXE X.prog X.w) (X.wish (Caught X pins σ Ex)) pins σ Ex:=by
 intro H s e s' I hx
 obtain ⟨ea,C,T,d,H2,rfl,os,bare,un,hok,hea,lea,nT,lT,fl,q⟩:=hx
 have I':=I.unwish
 have I2:Inv X pins σ H2 s':=I'.call' os un hok bare (ch:=[]) fun b z=>absurd z (by simp)
 exact ⟨ea,C,T,d,H2,rfl,I2,hea,fl,I'.fpOk lT nT,q⟩
def Inv.noted {ea C:Addr} {d T0:Option Addr} {oe:Obj} {vs:Array Value} {h':Heap} (I:Inv X pins σ H s) (hea:H ea=some (.ext (excP ea C d))) (eo:s.heap.get? ea=some oe) (od:oe.data=.fields vs) (hT:∀ T,T0=some T->FpOk X pins H T)
  (g:Gone (frs X.stack) ea T0 oe vs s.heap h'):Inv X pins σ H { s with heap:=h' }:=by
 have nfr:∀ c y,H c=some y->c∉frs X.stack:=fun c y r z=>by rw [I.stkFree c z] at r; cases r
 have nT:∀ c y,H c=some y->some c≠T0:=fun c y r z=>by rw [(hT c z.symm).1] at r; cases r
 have hok:HOk X.prog X.w H h':=fun b o q=>by
  by_cases ne:b=ea
  ·subst ne
   rw [hea] at q
   cases q
   obtain ⟨⟨o1,v1,a1,a2,a3,a4,a5⟩,_,_⟩:=I.hok b _ hea
   obtain ⟨T,vs',ob,ts,_,e3,e4,_⟩:=g.flow
   rw [eo] at a1
   cases a1
   rw [od] at a4
   cases a4
   exact excP.ok ⟨_,vs',e3,a2,a3,rfl,by rw [e4]; exact a5⟩
  ·refine (I.hok b o q).stay (fun c v hc r=>?_) (fun _ z=>z) fun _ _ z=>z
   rcases hc with hc | hc
   ·rw [hc] at r ⊢
    exact g.keep b v (nfr b o q) ne (nT b o q) r
   ·have ne2:c≠ea:=fun z=>by rw [z,hea] at hc; cases hc
    exact g.keep c v (nfr c _ hc) ne2 (nT c _ hc) r
 have un:Un (frs X.stack) T0.toList H H s.heap h':=by
  have tl:∀ b,b∉T0.toList->some b≠T0:=fun b hb z=>hb (by rw [<- z]; simp)
  refine ⟨fun b o q n hb hx=>?_,fun b o q n hb hx=>?_,fun b o q n _=>n,fun b o q hx=>?_,fun _ _ e=>e,fun _ _ _ e=>e,fun b ps e=>⟨#[],by rw [e]; simp⟩⟩
  ·exact g.keep b o hb (fun z=>by rw [z,hea] at n; cases n) (tl b hx) q
  ·exact g.slot b o (fun z=>by rw [z,hea] at n; cases n) (tl b hx) q
  ·by_cases ne:b=ea
   ·obtain ⟨_,_,_,_,_,e3,_⟩:=g.flow
    exact ⟨_,by rw [ne]; exact e3⟩
   ·obtain ⟨sl,e2⟩:=g.slot b o ne (tl b hx) q
    exact ⟨_,e2⟩
 have:=I.call (g':=s.gens) (d':=s.drawn) (t':=s.toks) un hok I.bare fun b hb=>by
  have z:T0=some b:=by
   cases T0 with
   | none=>simp at hb
   | some T=>simp at hb; rw [hb]
  obtain ⟨_,f1,f2,f3,f4,f5⟩:=hT b z
  exact ⟨f3,f1,f4,f5⟩
 exact this
def Gone.flies {fs:List Addr} {ea:Addr} {T0:Option Addr} {oe:Obj} {vs:Array Value} {h h':Heap} (g:Gone fs ea T0 oe vs h h'):∃ T,h.objs.size<=T/\Flies ea T h':=by
 obtain ⟨T,vs',ob,ts,z1,z2,z3,z4,z5,z6,z7,z8⟩:=g.flow
 exact ⟨T,z1,_,vs',ob,ts,z2,rfl,z4,z5,z6,z7,z8⟩
def unset_ok {M:Model} {A:Around} {E:Value->Shared->Prop} {i:Nat} {x:Str} {v:V} {Q:Unit->Shared->Prop} (I:Inv X pins (σ.set i (some v)) H s) (hiσ:i < σ.length) (hi:X.N[i]?=some x) (hN:X.N.Nodup) (hk:X.env.scope.names.lookup x=some .local)
  (h:∀ s',Inv X pins (σ.set i none) H s'->Q () s'):wpAny M A (unbindName X.env x) Q E s:=by
 obtain ⟨m,hn,hl⟩:=id I.loc
 have hcls:(X.env.scope.kind == .class || (X.env.scope.kind == .module && X.env.locals != X.env.globals))=false:=by rw [I.ok.kind]; rfl
 obtain ⟨u0,_,lk⟩:=hl i x v hi (by rw [List.getElem?_set_self hiσ]) (.inl hk)
 have hv:m x=some u0:=by
  rcases lk with ⟨_,z⟩ | ⟨z,_⟩
  ·exact z
  ·have hk':X.env.kindOf x=some .local:=hk
   rw [hk'] at z
   rcases z with z | z <;> cases z
 refine wpAny_unbindName_local hk hn hv hcls fun h' u hn' hs=>h _ ?_
 obtain ⟨oL,_,_,hoL,_⟩:=id hn
 have ab:∀ b o,X.s₀.heap.get? b=some o->b≠X.env.locals:=fun b o e=>Nat.ne_of_lt (Nat.lt_of_lt_of_le (Heap.lt_size e) I.ok.above)
 refine ⟨I.ok,I.os,I.bare,⟨fun b o e n hb hx=>(hs.2 b (ab b o e)).trans (I.base.keep b o e n hb hx),fun b o e n hb hx=>?_,I.base.free,fun b o e hx=>?_,I.base.tups,I.base.frzs,I.base.tbls⟩,⟨_,hn',fun j y v' e1 e2 e3=>?_⟩,fun y c e=>?_,I.free,I.freeC,fun p hp=>?_,fun b ob e=>?_,?_⟩
 ·obtain ⟨sl,e1⟩:=I.base.slot b o e n hb hx
  exact ⟨sl,(hs.2 b (ab b o e)).trans e1⟩
 ·obtain ⟨o',e1⟩:=I.base.there b o e hx
  exact ⟨o',(hs.2 b (ab b o e)).trans e1⟩
 ·by_cases hj:j=i
  ·subst hj
   rw [List.getElem?_set_self hiσ] at e2
   cases e2
  ·rw [List.getElem?_set_ne (Ne.symm hj)] at e2
   obtain ⟨u',r',q⟩:=hl j y v' e1 (by rw [List.getElem?_set_ne (Ne.symm hj)]; exact e2) e3
   have yx:y≠x:=fun z=>by
    subst z
    exact hj ((List.getElem?_inj (List.getElem?_eq_some_iff.mp e1).1 hN).mp (e1.trans hi.symm))
   refine ⟨u',r',?_⟩
   rcases q with ⟨q1,q2⟩ | ⟨q1,c,q2,q3⟩
   ·exact .inl ⟨q1,by show (if y=x then u else m y)=some u'; rw [if_neg yx]; exact q2⟩
   ·refine .inr ⟨q1,c,q2,?_⟩
    obtain ⟨o3,e3',d3⟩:=q3
    exact ⟨o3,(hs.2 c (I.cne y c q2)).trans e3',d3⟩
 ·obtain ⟨v3,o3,e3',d3⟩:=I.cell y c e
  exact ⟨v3,o3,(hs.2 c (I.cne y c e)).trans e3',d3⟩
 ·obtain ⟨p1,p2,p3,p4,p5⟩:=I.pin p hp
  exact ⟨(hs.2 _ p3).trans p1,p2,p3,p4,p5⟩
 ·refine (I.hok b ob e).stay (fun c w' hc q=>(hs.2 c ?_).trans q) (fun _ q=>q) fun _ _ q=>q
  rintro rfl
  rcases hc with hc | hc
  ·rw [<- hc,I.free] at e; cases e
  ·rw [I.free] at hc; cases hc
 ·have:=I.len
  rw [List.length_set] at this ⊢
  exact this
end
abbrev Cx.mrk (X:Cx) (e:Value):Cx:={ X with A:=X.A.mark (some e),calm:=false,xe:=fun _ _=>False }
section
variable {X:Cx} {pins:List (Addr×Obj)} {σ:St} {H:Hp} {s:Shared} {e:Value}
def Inv.mrk (I:Inv X pins σ H s) (e:Value):Inv (X.mrk e) pins σ H s :=
 ⟨⟨I.ok.mod,I.ok.kind,I.ok.glob,I.ok.blt,I.ok.above,I.ok.inj,I.ok.has,I.ok.cab,(fun z=>by cases z),I.ok.frames,I.ok.stk,I.ok.exf,I.ok.bs,I.ok.bsz,I.ok.noex,I.ok.exfs,I.ok.funs,I.ok.frf⟩,I.os,I.bare,I.base,I.loc,I.cell,I.free,I.freeC,I.pin,I.hok,I.len⟩
def Inv.unmrk (ok:X.Ok) (I:Inv (X.mrk e) pins σ H s):Inv X pins σ H s:=⟨ok,I.os,I.bare,I.base,I.loc,I.cell,I.free,I.freeC,I.pin,I.hok,I.len⟩
theorem SP.unmrk {D:Ends} {f:Flow} (ok:X.Ok) (h:SP (X.mrk e) pins D f s):SP X pins D f s:=by
 cases f with
 | next=>obtain ⟨σ',H',I,q⟩:=h; exact ⟨σ',H',I.unmrk ok,q⟩
 | brk=>obtain ⟨σ',H',I,q⟩:=h; exact ⟨σ',H',I.unmrk ok,q⟩
 | cont=>obtain ⟨σ',H',I,q⟩:=h; exact ⟨σ',H',I.unmrk ok,q⟩
 | ret u=>obtain ⟨v,σ',H',I,r,q⟩:=h; exact ⟨v,σ',H',I.unmrk ok,r,q⟩
end
section
variable {M:Model} {A:Around} {E:Value->Shared->Prop} {K:Frag} {C D ea:Addr}
def ty_type {K:Frag} {s:Shared} {D:Addr} (X:K.In s.heap) (ht:typeIn K (.ref D)=some (.type "type")):s.TypeIs (.ref D) "type":=by
 have z:Option.map (fun x=>x.cls) (K.lookup D)=some (.type "type"):=ht
 obtain ⟨o,e,c⟩:=Option.map_eq_some_iff.mp z
 exact ⟨o,X _ _ e,c⟩
def exc_matches {s:Shared} {oe:Obj} {b:Bool} {Q:Bool->Shared->Prop} (X:K.In s.heap) (ht:typeIn K (.ref D)=some (.type "type")) (hb:mroIn K D (.type "BaseException")=some true) (he:s.heap.get? ea=some oe) (hc:oe.cls=.ref C) (hm:mroIn K C (.ref D)=some b) (k:Q b s) :
  wpAny M A (excMatches (.ref ea) (.ref D)) Q E s:=by
 have hT:=ty_type X ht
 have L1:=looks_mroIn (M:=M) X hb
 have L2:=looks_mroIn (M:=M) X hm
 have n1:=tc_notTuple
 have n2:=tc_sub
 obtain ⟨oD,cd,lD,dD⟩:∃ (oD:Obj) (cd:ClassData),K.lookup D=some oD/\oD.data=.cls cd:=by
  have z:=hb
  unfold mroIn at z
  obtain ⟨cd,z,_⟩:=Option.bind_eq_some_iff.mp z
  unfold clsIn at z
  split at z
  ·rename_i e
   exact ⟨_,_,e,rfl⟩
  ·cases z
 have dO:=X _ _ lD
 obtain ⟨c0,dd0,dt0,sl0⟩:=oD
 dsimp only at dD
 subst dD
 obtain ⟨hp,g,d,t,os⟩:=s
 unfold excMatches
 repeat (first | (with_reducible refine wpAny_loadPart_at he ?_; rw [hc]) | with_reducible refine wpAny_loadPart_at dO ?_ | with_reducible refine L1.at ?_ | with_reducible refine L2.at ?_ | wp_step)
 cases b <;> (wp_walk; exact k)
end
section
variable {prog:Program} {w:World} {A:Around} {s:Shared} {env:Env} {R:Result->Shared->Prop}
def suite_as {e:Value} {n:Str} {b0:Stmt} {body:List Stmt} {pos:Pos}
  (h:wpAny (model prog w) A (setFlight e none) (fun _ s1=>wpAny (model prog w) A (bindName env n e) (fun _ s2=>wpAny (model prog w) A (execs (b0::body) env) (fun f s3=>R (.ok f) s3) (fun _ _=>False) s2) (fun _ _=>False) s1) (fun _ _=>False) s) :
  codeAny (model prog w) A (.handlers e [.ExceptHandler none (some n) (b0::body) pos] env) R s:=by
 refine codeAny_of_tree ?_
 show wpAny _ A (do return Fin.done (<- (handleWith e env [.ExceptHandler none (some n) (b0::body) pos]).onRaise (fun x=>do noteFrame x env; theTreesLotGoes x))) _ _ s
 refine wpAny_bind (wpAny_noted ?_)
 unfold handleWith
 refine wpAny_bind (wpAny_standAt (wpAny_bind (wpAny_mono h (fun _ s1 h1=>?_) fun _ _ z=>z.elim)))
 refine wpAny_bind (wpAny_mono h1 (fun _ s2 h2=>?_) fun _ _ z=>z.elim)
 exact wpAny_bind (wpAny_attempt (wpAny_mono h2 (fun f s3 h3=>wpAny_pure (wpAny_pure h3)) fun _ _ z=>z.elim))
end
abbrev TH:=Addr->Option Addr->Addr->TS
def HS (X:Cx) (hs:List ExceptHandler) (th:TH):Prop:=∀ (pins:List (Addr×Obj)) (s:Shared) (σ:St) (H:Hp) (ea C T:Addr) (d:Option Addr) (D:Ends),Inv X pins σ H s->H ea=some (.ext (excP ea C d))->Flies ea T s.heap->FpOk X pins H T->th C d ea D σ H ->
 wpAny (model X.prog X.w) X.A (handleBy (.ref ea) X.env hs) (SP X pins D) X.xe s
def thNil:TH:=fun _ _ _ _ _ _=>False
def hs_nil {X:Cx}:HS X [] thNil:=fun _ _ _ _ _ _ _ _ _ _ _ _ _ h=>h.elim
def offD (i:Nat) (D:Ends):Ends:={ nx:=fun σ H=>D.nx (σ.set i none) H,rt:=D.rt,bk:=fun σ H=>D.bk (σ.set i none) H,ct:=fun σ H=>D.ct (σ.set i none) H }
def thAs (K:Frag) (Dc:Addr) (i:Nat) (ts:TS) (thr:TH):TH:=fun C d ea D σ H=>∃ b,mroIn K C (.ref Dc)=some b/\if b=true then ts (offD i D) (σ.set i (some (.ref ea))) H else thr C d ea D σ H
structure Cau (K:Frag) (mg:Str->Option Value) (x:Str) (Dc:Addr):Prop where
 mg:mg x=some (.ref Dc)
 ty:typeIn K (.ref Dc)=some (.type "type")
 bx:mroIn K Dc (.type "BaseException")=some true
section
variable {X:Cx} {c n:Str} {Dc:Addr} {i:Nat} {b0:Stmt} {body:List Stmt} {rest:List ExceptHandler} {np pos:Pos} {ts:TS} {thr:TH}
def flight_again {pins:List (Addr×Obj)} {σ:St} {H:Hp} {s:Shared} {ea T:Addr} {M:Model} {A:Around} {E:Value->Shared->Prop} {Q:Unit->Shared->Prop} (I:Inv X pins σ H s) (fl:Flies ea T s.heap) (fp:FpOk X pins H T) (k:∀ s',Inv X pins σ H s'->Q () s'):wpAny M A (setFlight (.ref ea) none) Q E s:=by
 obtain ⟨oe,vs,oT,ts,e1,d1,v1,e2,d2,t3,ne⟩:=fl
 obtain ⟨f0,f1,f2,f3,f4,f5⟩:=fp
 refine wpAny_setFlight_none e1 d1 v1 e2 d2 (Array.getElem?_eq_some_iff.mp t3).1 (k _ ?_)
 exact I.turned (t':=s.toks) (fun b o hb e=>by rw [Heap.get?_update_other _ _ (Ne.symm hb)]; exact e) f0 f1 f3 f4 f5
theorem sp_off {pins:List (Addr×Obj)} {s:Shared} {D:Ends} {f:Flow} {Q:Flow->Shared->Prop} {E:Value->Shared->Prop} (hN:X.N.Nodup) (hi:X.N[i]?=some n) (hk:X.env.scope.names.lookup n=some .local) (h:SP X pins (offD i D) f s) :
  wpAny (model X.prog X.w) X.A (do bindName X.env n .none; unbindBehindTheSuite X.env n pos) (fun _ s'=>SP X pins D f s') E s:=by
 have go:∀ (σ:St) (H:Hp),Inv X pins σ H s->(∀ s',Inv X pins (σ.set i none) H s'->SP X pins D f s')->wpAny (model X.prog X.w) X.A (do bindName X.env n .none; unbindBehindTheSuite X.env n pos) (fun _ s'=>SP X pins D f s') E s:=fun σ H I k=>by
  have hiσ:i < σ.length:=by rw [I.len]; exact (List.getElem?_eq_some_iff.mp hi).1
  refine wpAny_bind (wpAny_bindName (store_ok (v:=.non) I hN hi (.inl hk) rfl (fun s1 I1=>?_) (.inr hk)))
  unfold unbindBehindTheSuite
  exact wpAny_onRaise (unset_ok I1 hiσ hi hN hk k)
 cases f with
 | next=>obtain ⟨σ',H',I,q⟩:=h; exact go σ' H' I fun s' I'=>⟨_,H',I',q⟩
 | brk=>obtain ⟨σ',H',I,q⟩:=h; exact go σ' H' I fun s' I'=>⟨_,H',I',q⟩
 | cont=>obtain ⟨σ',H',I,q⟩:=h; exact go σ' H' I fun s' I'=>⟨_,H',I',q⟩
 | ret u=>obtain ⟨v,σ',H',I,r,q⟩:=h; exact go σ' H' I fun s' I'=>⟨v,_,H',I',r,q⟩
theorem hs_as (ca:Cau X.K X.mg c Dc) (hg:Gl X c) (hN:X.N.Nodup) (hi:X.N[i]?=some n) (hk:X.env.scope.names.lookup n=some .local) (hs:∀ e,PSs (X.mrk e) (b0::body) ts) (hr:HS X rest thr) (hd:(c == ("__debug__":Str))=false:=by decide) :
  HS X (.ExceptHandler (some (.Name c np)) (some n) (b0::body) pos::rest) (thAs X.K Dc i ts thr):=by
 intro pins s σ H ea C T d D I hea fl fp h
 obtain ⟨b,hb,h⟩:=h
 refine wpAny_handleBy_cons (codeAny_handlers_test ?_) (by intro q; cases q)
 have J:=I.mrk (.ref ea)
 refine ld_glob (X:=X.mrk (.ref ea)) J hg ca.mg ?_ hd
 obtain ⟨⟨oe,vs,e1,e2,e3,e4,e5⟩,_,_⟩:=I.hok ea _ hea
 refine exc_matches I.kIn ca.ty ca.bx e1 e2 hb ?_
 cases b with
 | false=>exact hr pins s σ H ea C T d D I hea fl fp h
 | true =>
  refine suite_as (flight_again J fl fp fun s1 J1=>?_)
  refine wpAny_bindName (store_ok (X:=X.mrk (.ref ea)) (v:=.ref ea) J1 hN hi (.inl hk) rfl (fun s2 J2=>?_) (.inr hk))
  refine wpAny_mono (hs (.ref ea) pins s2 _ H _ J2 h) (fun f s3 h3=>?_) fun _ _ z=>z
  exact sp_off (Q:=fun _ _=>True) hN hi hk (h3.unmrk I.ok)
def PSF (X:Cx) (pins:List (Addr×Obj)) (σ:St) (st:List Stmt) (t:TS):Prop:=∀ (s:Shared) (H:Hp) (D:Ends),Inv X pins σ H s->t D σ H->wpAny (model X.prog X.w) X.A (execs st X.env) (SP X pins D) X.xe s
def tTry (tb:XK->TS) (th:TH):TS:=fun D σ H=>tb (fun cls d H'=>∃ C,cls=.ref C/\∀ ea,H' ea=some (.ext (excP ea C d))->th C d ea D σ H') D σ H
def ps_try {bd:List Stmt} {h0:ExceptHandler} {hs:List ExceptHandler} {tb:XK->TS} {th:TH} {L:Addr} (hst:X.stack=X.env::X.outer) (hf:X.env.frame=some L)
  (hb:∀ (pins:List (Addr×Obj)) (σ:St) (xe:Value->Shared->Prop) (Ex:XK),PassesF (CXE X.prog X.w) (X.wish xe) pins σ Ex->PSF (X.wish xe) pins σ bd (tb Ex)) (hh:HS X (h0::hs) th) :
  PS X (.Try bd (h0::hs) [] [] pos) (tTry tb th):=by
 intro pins s σ H D I h
 refine wpAny_Try_except (wpAny_mono (hb pins σ _ _ passF s H D (I.wish _) h) (fun f s1 h1=>?_) fun e s1 h1=>?_)
 ·have h2:=h1.unwish
  cases f with
  | next=>exact wpAny_execs_nil h2
  | brk=>exact h2
  | cont=>exact h2
  | ret u=>exact h2
 ·obtain ⟨ea,C,T,d,H1,rfl,I1,hea,fl,fp,C',hC,k⟩:=h1
  cases hC
  obtain ⟨oe,vs,oT,ts,e1,d1,v1,e2,d2,t3,ne⟩:=fl
  refine noted_next (base:=X.base) (by rw [I1.ok.frames,hst]) (by have:=I1.stack; rw [hst] at this; exact this) hf e1 d1 v1 e2 d2 t3 ne fun h' g=>?_
  rw [<- hst] at g
  have I2:=I1.noted hea e1 d1 (fun T' z=>by cases z; exact fp) g
  obtain ⟨T',lT,fl'⟩:=g.flies
  exact hh pins _ σ H1 ea C T' d D I2 hea fl' (I1.fpOk lT (I1.hok.fresh lT)) (k ea hea)
end
end L2
namespace L2
open PySem PySem.Spec PyProof.Rows PySem.W PySem.Builtin PySem.Builtin.ObjectAttr
section
variable {prog:Program} {w:World} {A:Around} {E:Value->Shared->Prop} {s:Shared} {K:Frag} {C fI a:Addr}
theorem found_dat {od:Option Obj} {n:Str} {va vg:Value} (h0:(clsIn K C).isSome=true) (h1:findIn K (.ref C) n=some (some va)) (h2:specialIn K va "__get__"=some (some vg)) (h3:takesIn K va=some true):findObj K C od n=some (.bind vg va):=by
 cases e:clsIn K C with
 | none=>rw [e] at h0; cases h0
 | some cd =>
  simp only [findObj,e,Option.bind_some,h1,h2,h3]
def exc_class {ox:Obj} {od:Option Obj} {Q:Option Value->Shared->Prop} (X:K.In s.heap) (xc:XCl K C fI) (I:InstAt s.heap a ox C od) (k:Q (some (.ref C)) { s with toks:=s.toks + 1 }) :
  wpAny (model prog w) A (getAttr? (.ref a) "__class__") Q E s:=by
 have L0:=I.type (M:=model prog w)
 have L1:=looks_findIn (M:=model prog w) X xc.ga
 have L2:=looks_findIn (M:=model prog w) X xc.gt
 have hf:findObj K C od "__class__"=some (.bind (.builtin "getset_descriptor.__get__") (.builtin "object.__class__")):=found_dat (by obtain ⟨cd,hc,_⟩:=any_some xc.hd; rw [hc]; rfl) xc.cc xc.cg xc.ct
 have L3:=looks_find (M:=model prog w) X I hf
 have L4:Looks (model prog w) s.heap (isInstance (.ref a) (.type "BaseException")) true:=I.type.andThen (looks_mroIn X xc.bx)
 obtain ⟨hp,g,d,t,os⟩:=s
 unfold getAttr? getAttrBy?
 refine wpAny_bind (wpAny_mkText (wpAny_bind (wpAny_attempt ?_)))
 unfold getAttrBy
 refine wpAny_holding (wpAny_bind (L0.at (wpAny_bind (L1.at ?_))))
 show wpAny _ _ (getAttrByItsOwn (.ref a) (.str "__class__" t) (.ref C) (.builtin "BaseException.__getattribute__") false false) _ _ _
 unfold getAttrByItsOwn hookBefore
 rw [if_pos (show onTheHeap (Value.ref C)=true from rfl)]
 refine wpAny_bind (L2.at (wpAny_bind (wpAny_attempt (wpAny_holding ?_))))
 unfold callGetattribute
 rw [if_neg (by exact Bool.false_ne_true)]
 unfold boundAndCalled
 have ga:=PySem.F.attrBase_ValueError.ga
 rw [ga.bind]
 refine wpAny_bind (wpAny_pure ?_)
 show wpAny _ _ (call (Value.builtin "BaseException.__getattribute__") [.ref a,.str "__class__" t]) _ _ _
 refine wpAny_call (codeAny_call_builtin ga.plain F.entry_bexc_ga ?_)
 have hk:builtinKind "BaseException.__getattribute__"=some .slot:=by decide +kernel
 have hsp:splitId "BaseException.__getattribute__"=some ("BaseException", "__getattribute__"):=by decide +kernel
 refine @check_slot (model prog w) _ _ _ "BaseException.__getattribute__" "BaseException" "__getattribute__" (.ref a) [.str "__class__" t] [] _ hk hsp L4 (F.args_bexc_ga (.ref a) (.str "__class__" t)) ?_
 unfold Builtin.«object.__getattribute__»
 refine wpAny_bind (wpAny_pure (wpAny_bind (wpAny_pure (wpAny_bind (L0.at (wpAny_bind (L3.at ?_)))))))
 show wpAny _ _ (bindTo (.builtin "getset_descriptor.__get__") (.builtin "object.__class__") (.ref a) (.ref C)) _ _ _
 unfold bindTo
 refine wpAny_bind (wpAny_holding (wpAny_call (class_get (ox:=ox) (od:=od) X I xc.ob ?_)))
 refine wpAny_pure ?_
 show wpAny _ _ (handedOut (.ref C)) _ _ _
 rw [handedOut_of rfl]
 exact wpAny_pure (wpAny_pure k)
def kitx_exc {x:Addr} (xc:XCl K C fI):KitX K (.ref x) (.ref C) (fun h=>∃ ox od,InstAt h x ox C od) where
 ty:=fun _ _ _ ⟨_,_,I⟩=>I.type
 it:=fun _ _ X _=>by
  obtain ⟨cdD,hcD,_⟩:=any_some xc.hd
  unfold clsIn at hcD
  split at hcD
  ·rename_i ho
   intro A' Q' E' s' k q
   unfold isType loadHead
   exact wpAny_bind (wpAny_loadPart (k _ _ (X _ _ ho)) (wpAny_pure q))
  ·cases hcD
 ne:=fun h tp dd its n sl X htp=>by
  obtain ⟨cdD,hcD,_⟩:=any_some xc.hd
  refine Bool.eq_false_iff.mpr fun q=>?_
  obtain rfl:C=tp:=Value.ref.inj (beq_iff_eq.mp q)
  unfold clsIn at hcD
  split at hcD
  ·rename_i ho
   have z:=(X _ _ ho).symm.trans htp
   cases z
  ·cases hcD
 ca:=fun X ⟨_,_,I⟩ k=>exc_class X xc I k
end
section
variable {X:Cx}
def XD (H:Hp):Option Addr->List (Str×V)->Prop
 | some d,fs=>H d=some (.ext (xdP d fs))
 | none,fs=>fs=[]
theorem XD.mono {H H':Hp} (s:Same H H'):∀ {o:Option Addr} {fs:List (Str×V)},XD H o fs->XD H' o fs
 | some _,_,h=>s _ _ h
 | none,_,h=>h
def ExcV (H:Hp) (x:V) (C:Addr) (fs:List (Str×V)):Prop:=∃ ea d,x=.ref ea/\H ea=some (.ext (excP ea C d))/\XD H d fs
theorem inst_of {pins:List (Addr×Obj)} {σ:St} {H:Hp} {s:Shared} {ea C:Addr} {d:Option Addr} {fs:List (Str×V)} (I:Inv X pins σ H s) (hea:H ea=some (.ext (excP ea C d))) (hd:XD H d fs):∃ ox od,InstAt s.heap ea ox C od:=by
 obtain ⟨⟨oe,vs,e1,e2,e3,e4,e5⟩,_,_⟩:=I.hok ea _ hea
 cases d with
 | some d =>
  obtain ⟨⟨mA,⟨o,es,ep,e,r⟩,_⟩,_,_⟩:=I.hok d _ hd
  exact ⟨oe,some o,e1,e2,by obtain ⟨c,dd,dt,sl⟩:=oe; cases e4; rfl,by rw [e3]; exact e⟩
 | none=>exact ⟨oe,none,e1,e2,by obtain ⟨c,dd,dt,sl⟩:=oe; cases e4; rfl,by rw [e3]; trivial⟩
def rIsiX (K:Frag):List V->Hp->VK->Prop:=fun xs H Q=>∃ x C fI fs c b,xs=[x,c]/\XCl K C fI/\ExcV H x C fs/\((∃ T,c=.ty T/\kitOne K (.ref C) (.type T)=some b)\/(∃ D,c=.ref D/\kitOne K (.ref C) (.ref D)=some b)\/∃ (tp:Addr) (cs:List Addr),c=.ref tp/\H tp=some (.tup (cs.map V.ref))/\kitAny K (.ref C) (cs.map Value.ref)=some b)/\Q (.bl b) H
theorem vals_refs:∀ {cs:List Addr} {us:List Value},Vals (cs.map V.ref) us->us=cs.map Value.ref
 | [],_,.nil=>rfl
 | _::_,_,.cons h r=>by rw [show _=Value.ref _ from h,vals_refs r]; rfl
def call_isiX {K:Frag} (hK:X.K=K):CallR X (.builtin "isinstance") (rIsiX K):=by
 subst hK
 intro pins s σ H xs us Q I r h
 obtain ⟨x,C,fI,fs,c,b,rfl,xc,⟨ea,d,rfl,hea,hd⟩,hc,q⟩:=h
 obtain ⟨u,w',rfl,ru,rw'⟩:=vals2 r
 obtain rfl:u=Value.ref ea:=ru
 have J:=inst_of I hea hd
 rcases hc with ⟨T,rfl,e⟩ | ⟨D,rfl,e⟩ | ⟨tp,cs,rfl,ht,e⟩
 ·cases rw'
  exact kia_one (kitx_exc xc) I.kIn J e (fun z=>nomatch z) fun tk=>⟨.bl b,H,I.tok tk,rfl,q⟩
 ·cases rw'
  exact kia_one (kitx_exc xc) I.kIn J e (fun z=>nomatch z) fun tk=>⟨.bl b,H,I.tok tk,rfl,q⟩
 ·cases rw'
  obtain ⟨_,its,rv,o,h1,h2,n,h3,h4⟩:=I.hok tp _ ht
  have hi:=vals_refs rv
  subst hi
  obtain ⟨oc,od,oda,osl⟩:=o
  dsimp only at h2 h3 h4
  subst h2 h3 h4
  exact kia_tup (kitx_exc xc) I.kIn J h1 e (fun z=>nomatch z) fun tk=>⟨.bl b,H,I.tok tk,rfl,q⟩
end
section
variable {X:Cx} {pins:List (Addr×Obj)} {σ:St} {e:Expr} {es:List Expr} {te:TE} {t:TA} {ts us:TS} {st:Stmt} {pos:Pos}
def PEF (X:Cx) (pins:List (Addr×Obj)) (σ:St) (e:Expr) (t:TE):Prop:=∀ (s:Shared) (H:Hp) (Q:VK),Inv X pins σ H s->t σ H Q->wpAny (model X.prog X.w) X.A (eval e X.env) (EP X pins σ Q) X.xe s
def PAF (X:Cx) (pins:List (Addr×Obj)) (σ:St) (es:List Expr) (t:TA):Prop:=∀ (pos:Pos) (s:Shared) (H:Hp) (Q:List V->Hp->Prop),Inv X pins σ H s->t σ H Q->wpAny (model X.prog X.w) X.A (spliced (backTo pos (starEach es X.env))) (AP X pins σ Q) X.xe s
def pef_of (h:PE X e te):PEF X pins σ e te:=fun s H Q I q=>h pins s σ H Q I q
def paf_of (h:PA X es t):PAF X pins σ es t:=fun pos s H Q I q=>h pos pins s σ H Q I q
def paf_cons (ha:PEF X pins σ e te) (hr:PAF X pins σ es t) (hs:starEach (e::es) X.env=(false,eval e X.env)::starEach es X.env:=by rfl):PAF X pins σ (e::es) (tCons te t):=by
 intro pos s H Q I h
 rw [hs]
 show wpAny _ _ (spliced ((false,eval e X.env)::backTo pos (starEach es X.env))) _ _ s
 exact Calls.spliced_cons (thn (ha s H _ I h) fun u s1 ⟨x,H1,I1,r1,q1⟩=>thn (hr pos s1 H1 _ I1 q1) fun us s2 ⟨xs,H2,I2,r2,q2⟩=>⟨x::xs,H2,I2,.cons r1 r2,q2⟩)
theorem run_fnF {CX:CXT} {k:Nat} {f:Addr} {fd:FuncData} {ps:List Str} {sp:Sp} {E:XK} {H:Hp} {s:Shared} {Q:VK} {us:List Value} {vs:List V} (F:FnOk X.prog X.w X.K X.mg X.base CX k f fd ps sp) (hr:Room k X.A) (hb:Binds X.K fd ps []) (hx:PassesF CX X pins σ E)
  (I:Inv X pins σ H s) (r:Vals vs us) (h:sp vs H Q E):wpAny (model X.prog X.w) X.A (call (.ref f) us) (EP X pins σ Q) X.xe s:=by
 have hl:(us++[]).length=ps.length:=by rw [List.append_nil,<- r.length]; exact F.len _ _ _ _ h
 have bb:=hb s us I.kIn hl
 rw [List.append_nil] at bb
 refine wpAny_call (codeAny_mono (F.run X.A X.stack s H ⟨us,[]⟩ us vs Q E hr I.env0 bb r h) fun r s' hq=>?_)
 cases r with
 | error e=>exact hx H s e s' I hq
 | ok fl =>
  cases fl with
  | ret u=>exact I.after hq
  | next=>exact False.elim hq
  | brk=>exact False.elim hq
  | cont=>exact False.elim hq
def pef_cal {k:Nat} {ps:List Str} {sp:Sp} {x:Str} {p:Pos} {E:XK} (C:CalE X.prog X.w X.K X.mg X.base x k ps sp) (hr:Room k X.A) (hg:Gl X x) (hx:PassesF (CXE X.prog X.w) X pins σ E) (ha:PA X (e::es) t) (hdb:(x == ("__debug__":Str))=false:=by decide)
  (he:starEach (e::es) X.env=(false,eval e X.env)::starEach es X.env:=by rfl) (hpl:(backTo pos (starEach es X.env)).any (·.1)=false:=by rfl):PEF X pins σ (.Call (.Name x p) (e::es) [] pos) (tCall sp [] E t):=by
 intro s H Q I h
 obtain ⟨f,fd,F,hm,hk,hb⟩:=C
 refine wpAny_Call_Name_kw (ld_glob I hg hm ?_ hdb)
 refine W.callWith_K (h₀:=X.base) I.ok.mod.kin hk (thn (ha pos pins s σ H _ I h) fun us s1 ⟨vs,H1,I1,r,q⟩=>⟨I1.kIn,?_⟩) he hpl
 exact run_fnF F hr hb hx I1 r (by have q':sp (vs++[]) H1 Q E:=q; rw [List.append_nil] at q'; exact q')
def PSF1 (X:Cx) (pins:List (Addr×Obj)) (σ:St) (st:Stmt) (t:TS):Prop:=∀ (s:Shared) (H:Hp) (D:Ends),Inv X pins σ H s->t D σ H->wpAny (model X.prog X.w) X.A (exec st X.env) (SP X pins D) X.xe s
theorem psf_one (h:PSF1 X pins σ st ts):PSF X pins σ [st] ts:=by
 intro s H D I q
 refine wpAny_execs_cons (wpAny_mono (h s H D I q) (fun f s1 h1=>?_) fun _ _ z=>z)
 cases f with
 | next=>exact wpAny_execs_nil h1
 | brk=>exact h1
 | cont=>exact h1
 | ret u=>exact h1
def psf_ret (he:PEF X pins σ e te):PSF1 X pins σ (.Return (some e) pos) (tRet te):=by
 intro s H D I h
 exact wpAny_Return_some (thn (he s H _ I h) fun v s1 ⟨y,H1,I1,r1,q1⟩=>⟨y,σ,H1,I1,r1,q1⟩)
end
end L2
namespace L2
open PySem PySem.Spec PyProof.Rows PySem.W
def spX1 (C:Addr) (f:Str):Sp:=fun vs H Q _=>∃ (ea:Addr) (y:V),vs=[.ref ea,y]/\H ea=some (.ext (excN ea C none))/\∀ d,H d=none->d≠ea->Q .non (upd (upd H ea (.ext (excN ea C (some d)))) d (.ext (xdP d [(f,y)])))
def cale_mk {P:Program} {w:World} {K:Frag} {mg:Str->Option Value} {base:Heap} {x:Str} {st:Stmt} {f:Addr} {fd:FuncData} {k:Nat} {ps:List Str} {sp:Sp} (F:Fun K x x st f fd) (G:FnOk P w K mg base (CXE P w) k f fd ps sp) (m:mg x=some (.ref f)) (b:Binds K fd ps []) :
  CalE P w K mg base x k ps sp:=⟨f,fd,G,m,F.kp,b⟩
def boot_ValueError:bootBuiltins "ValueError"=some (.type "ValueError"):=by kernel_rfl
def bk_xfld {X:Cx} {K:Frag} {o:Expr} {f:Str} {pos:Pos} {ta:TE} (h:X.K=K) (ha:PE X o ta) (hb:attributeBase o f X.env (eval o X.env)=eval o X.env):PE X (.Attribute o f pos) (tXFld K ta f):=by subst h; exact pe_xfld ha hb
end L2
namespace L2
open PySem PySem.Spec PyProof.Rows
def Itw (lo:Int) (n:Nat):It:=⟨fun i _=>i < n,fun i H x H'=>H'=H/\x=.int (lo - i),fun i _=>n<=i⟩
theorem turn_down {P:Program} {w:World} {K:W.Frag} {tg:Expr} (it:Addr) (lo:Int) (n:Nat):Turn P w K tg (Itw lo n) [it] it (fun i h=>IsRangeIter h it (lo + (i:Nat) * (-1)) ((n:Int) - (i:Nat)) (-1)) where
 mem:=by simp
 obj:=fun i h st b hb=>by
  have e:b=it:=by simpa using hb
  subst e
  exact ⟨_,st,fun v z=>by
   have z':Data.fields _=Data.cell v:=z
   cases z'⟩
 keep:=fun i h h' st k=>k it (by simp) _ st
 item:=by
  intro X hP hw hK hc i pins s σ H E I hf st hg
  subst hP hw hK
  obtain ⟨f0,f1,f2,f3,f4,f5⟩:=hf it (by simp)
  have W:=Walks.range (prog:=X.prog) (w:=X.w) (I.ok.hd hc) it lo (-1) n
  refine W.item i s _ _ hg st fun v h' tk hv st' kk=>?_
  obtain ⟨t,rfl⟩:=hv
  have I1:Inv X pins σ H { s with heap:=h',toks:=tk }:=I.turned (fun b o hb e=>kk b o (by simpa using hb) e) f0 f1 f3 f4 f5
  refine ⟨_,rfl,go_of (s:={ s with heap:=h',toks:=tk }) (n:="range_iterator") st' rfl rfl (by decide) ⟨.int (lo - i),H,I1,⟨t,?_⟩,⟨rfl,rfl⟩,st',fun b hb=>(hf b hb).1⟩⟩
  rw [show lo - (i:Int)=lo + (i:Int) * (-1) by omega]
 done:=by
  intro X hP hw hK hc i pins s σ H E I hf st hg
  subst hP hw hK
  obtain ⟨f0,f1,f2,f3,f4,f5⟩:=hf it (by simp)
  exact wpAny_pyNext_range_end (I.ok.hd hc) st (by have:n<=i:=hg; omega) fun h' eb=>⟨rfl,I.turned (t':=s.toks) (fun b o hb e=>eb b o hb e) f0 f1 f3 f4 f5⟩
 self:=fun _ _ _ _ _ st h=>wpAny_pyIter_rangeiter st h
section
variable {X:Cx} {tg:Expr}
def range_itD {pins:List (Addr×Obj)} {σ:St} {H:Hp} {s:Shared} {R:It->Hp->Prop} {E:Value->Shared->Prop} {lo hi:Int} {t u v:Tok} {tk:Nat} (I:Inv X pins σ H s) (h1:-(2 ^ 62)<=lo) (h2:lo < 2 ^ 62) (h3:-(2 ^ 62)<=hi) (h4:hi < 2 ^ 62)
  (q:R (Itw lo (lo - hi).toNat) H):wpAny (model X.prog X.w) X.A (pyIter (.ref s.heap.objs.size)) (PIE X pins σ tg R) E { s with heap:=s.heap.push { cls:=.type "range",data:=.fields #[.int lo t,.int hi u,.int (-1) v] },toks:=tk }:=by
 refine wpAny_pyIter_range (IsRange.new ..) (W.small_down h1 h2 h3 h4) ?_
 have I1:Inv X pins σ H { s with heap:=s.heap.push { cls:=.type "range",data:=.fields #[.int lo t,.int hi u,.int (-1) v] },toks:=tk }:=I.kept fun b o e=>Heap.get?_push_of_some _ e
 refine ⟨(s.heap.push { cls:=.type "range",data:=.fields #[.int lo t,.int hi u,.int (-1) v] }).objs.size,[(s.heap.push { cls:=.type "range",data:=.fields #[.int lo t,.int hi u,.int (-1) v] }).objs.size],_,_,H,rfl,
  I1.kept (t':=tk) fun b o e=>Heap.get?_push_of_some _ e,turn_down _ lo (lo - hi).toNat,?_,fun b hb=>?_,q⟩
 ·have e1:lo + ((0:Nat):Int) * (-1)=lo:=by simp
  have e2:(((lo - hi).toNat:Nat):Int) - ((0:Nat):Int)=Builtin.Range.rangeSize lo hi (-1):=by rw [W.rangeSize_downNat]; simp
  show IsRangeIter _ _ (lo + ((0:Nat):Int) * (-1)) ((((lo - hi).toNat:Nat):Int) - ((0:Nat):Int)) (-1)
  rw [e1,e2]
  exact Heap.get?_push_size _ rfl
 ·have e:b=(s.heap.push { cls:=.type "range",data:=.fields #[.int lo t,.int hi u,.int (-1) v] }).objs.size:=by simpa using hb
  subst e
  exact I1.fpOk (Nat.le_refl _) (I1.hok.fresh (Nat.le_refl _))
def iRngD (ta:TA):TI:=fun σ H R=>ta σ H fun vs H1=>∃ i j:Int,vs=[.int i,.int j,.int (-1)]/\(-(2 ^ 62)<=i/\i < 2 ^ 62/\-(2 ^ 62)<=j/\j < 2 ^ 62)/\R (Itw i (i - j).toNat) H1
theorem pi_rangeD {a b c:Expr} {ta:TA} {p pos:Pos} (hg:Gl X "range") (hm:X.mg "range"=none) (ha:PA X [a,b,c] ta) (hs:starEach [a,b,c] X.env=[(false,eval a X.env),(false,eval b X.env),(false,eval c X.env)]:=by rfl) (hs2:starEach [b,c] X.env=[(false,eval b X.env),(false,eval c X.env)]:=by rfl) :
  PI X tg (.Call (.Name "range" p) [a,b,c] [] pos) (iRngD ta):=by
 intro pins s σ H R I h
 refine Call_ (ld_blt I hg hm boot_range (PyProof.Rows.callWith_type1 (thn (ha pos pins s σ H _ I h) fun us s1 ⟨vs,H1,I1,r1,q1⟩=>?_) (by rw [hs,hs2]) (by rw [hs2]; rfl)))
 obtain ⟨i,j,e,⟨q1,q2,q3,q4⟩,q⟩:=q1
 subst e
 cases r1 with
 | cons r rr =>
  cases rr with
  | cons r' rr =>
   cases rr with
   | cons r'' rr =>
    cases rr
    obtain ⟨t,rfl⟩:=r
    obtain ⟨t',rfl⟩:=r'
    obtain ⟨t'',rfl⟩:=r''
    exact call_range_3 (by decide) (range_itD I1 q1 q2 q3 q4 q) (.inl (PyProof.noPylong_small (by omega)))
end
theorem preSum_of {ns:List Int}:∀ k,k<=ns.length->preSum (fun i=>(ns[i]?).getD 0) k=(ns.take k).sum
 | 0,_=>rfl
 | k + 1,h=>by
  have hk:k < ns.length:=by omega
  rw [preSum,preSum_of k (by omega),List.take_succ_eq_append_getElem hk,List.sum_append,List.getElem?_eq_getElem hk]
  simp
section
variable {X:Cx}
theorem Vals.int_get {ns:List Int}:∀ {us:List Value} {i:Nat} {v:Value},Vals (ns.map V.int) us->us[i]?=some v->∃ t,v=.int ((ns[i]?).getD 0) t:=by
 induction ns with
 | nil=>intro us i v r e; cases r; simp at e
 | cons n r ih =>
  intro us i v rv e
  rw [List.map_cons] at rv
  cases rv with
  | cons r1 r2 =>
   cases i with
   | zero =>
    obtain ⟨t,rfl⟩:=r1
    simp at e
    exact ⟨t,by rw [<- e]; rfl⟩
   | succ i=>simpa using ih r2 (by simpa using e)
def call_sum (hc:X.calm=true):CallR X (.builtin "sum") (fun xs H Q=>∃ (p:Addr) (ns:List Int),xs=[.ref p]/\SqL X.K H p (ns.map V.int)/\Q (.int ns.sum) H):=by
 intro pins s σ H xs us Q I r h
 obtain ⟨p,ns,rfl,hq,q⟩:=h
 obtain ⟨u,rfl,ru⟩:=vals1 r
 cases ru
 obtain ⟨its,rv,pl,hz⟩:=I.list hq
 have hlen:=rv.length
 rw [List.length_map] at hlen
 have hlt:p < s.heap.objs.size:=by obtain ⟨_,e,_⟩:=pl.isList; exact Heap.lt_size e
 refine call_sum_walkAnyS (wpAny_pyIter_list pl.isList ?_)
 refine ⟨s.heap.objs.size,[s.heap.objs.size,p],[s.heap.objs.size],_,its.toArray.size,_,_,fun i=>(ns[i]?).getD 0,rfl,(Walks.list (A:=X.A.in1) (I.ok.hd hc) _ p (Nat.ne_of_lt hlt) its.toArray).toS,
  ⟨⟨_,Heap.get?_push_size _ rfl,rfl,rfl⟩,pl.isList.push _⟩,fun b hb=>?_,fun i v hP=>?_,fun s' t' hm=>?_⟩
 ·rcases List.mem_cons.mp hb with e | hb
  ·rw [e]; show _ < (s.heap.push _).objs.size; simp [Heap.push]
  ·rw [List.mem_singleton.mp hb]; show _ < (s.heap.push _).objs.size; simp only [Heap.push,Array.size_push]; exact Nat.lt_succ_of_lt hlt
 ·exact Vals.int_get rv (by simpa using hP)
 ·rw [List.size_toArray,<- hlen,preSum_of _ (Nat.le_refl _),List.take_length]
  obtain ⟨h1,h2,h3,h4,h5⟩:=hm
  have e:s'={ s with heap:=s'.heap,toks:=s'.toks }:=by
   obtain ⟨a1,a2,a3,a4,a5⟩:=s'
   simp only at h2 h3 h4
   subst h2 h3 h4
   rfl
  rw [e]
  exact ⟨.int _,H,I.kept (t':=s'.toks) (PyProof.Rows.LSm.kept_iter h1),⟨t',rfl⟩,q⟩
end
end L2
namespace HT
open PySem PySem.Spec PyProof.Rows
section
variable {prog:Program} {w:World} {A:Around} {E:Value->Shared->Prop} {s:Shared}
def adjust_rev (n:Nat):Builtin.Slice.sliceAdjust none none (-1) (n:Int)=((n:Int) - 1,-1):=by
 unfold Builtin.Slice.sliceAdjust
 simp
theorem places_rev (n:Nat):Builtin.Slice.slicePlaces ((n:Int) - 1) (-1) (-1)=n:=by
 unfold Builtin.Slice.slicePlaces
 simp
 split <;> omega
theorem fm_congr {α β:Type} {f g:α->Option β}:∀ {l:List α},(∀ x∈l,f x=g x)->l.filterMap f=l.filterMap g
 | [],_=>rfl
 | a::r,h=>by
  rw [List.filterMap_cons,List.filterMap_cons,h a (List.mem_cons_self ..),fm_congr fun x hx=>h x (List.mem_cons_of_mem _ hx)]
def sliceApplied_rev {sl:Addr} {vk:Value} {n:Nat} {Q:Int×Int×Nat->Shared->Prop} (hs:s.heap.IsSliceOf sl .none .none vk) (pk:IsPart vk (some (-1)))
  (h:Q ((n:Int) - 1,-1,n) s):wpAny (model prog w) A (Builtin.Slice.sliceApplied (.ref sl) (pure (n:Int))) Q E s:=by
 obtain ⟨os,hos,hcs,hds⟩:=id hs
 unfold Builtin.Slice.sliceApplied Builtin.Slice.sliceFields
 refine wpAny_bind (wpAny_bind (wpAny_field hos hds (x:=.none) rfl (wpAny_bind (wpAny_field hos hds (x:=.none) rfl (wpAny_bind (wpAny_field hos hds (x:=vk) rfl (wpAny_pure ?_)))))))
 refine wpAny_bind (slicePart_ pk ?_)
 show wpAny _ _ (if ((-1:Int) == 0)=true then _ else _) _ _ s
 rw [if_neg (by decide)]
 refine wpAny_bind (slicePart_none (wpAny_bind (slicePart_none (wpAny_bind (wpAny_pure ?_)))))
 show wpAny _ _ (match Builtin.Slice.sliceAdjust none none (-1) (n:Int) with | (lo,hi)=>pure (lo,(-1:Int),Builtin.Slice.slicePlaces lo hi (-1))) _ _ s
 rw [adjust_rev n]
 show wpAny _ _ (pure ((n:Int) - 1,(-1:Int),Builtin.Slice.slicePlaces ((n:Int) - 1) (-1) (-1))) _ _ s
 rw [places_rev]
 exact wpAny_pure h
theorem pick_rev (xs:Array Value):((List.range xs.size).filterMap fun (m:Nat)=>xs[(((xs.size:Int) - 1) + (m:Int) * (-1)).toNat]?).toArray=xs.toList.reverse.toArray:=by
 have e:∀ m∈List.range xs.size,xs[(((xs.size:Int) - 1) + (m:Int) * (-1)).toNat]?=xs.toList.reverse[m]?:=fun m hm=>by
  have hm:=List.mem_range.mp hm
  rw [List.getElem?_reverse (by simpa using hm)]
  have:(((xs.size:Int) - 1) + (m:Int) * (-1)).toNat=xs.toList.length - 1 - m:=by rw [Array.length_toList]; omega
  rw [this,Array.getElem?_toList]
 congr 1
 rw [fm_congr e]
 have:xs.size=xs.toList.reverse.length:=by simp
 rw [this]
 generalize xs.toList.reverse=l
 induction l with
 | nil=>rfl
 | cons a r ih=>rw [List.length_cons,List.range_succ_eq_map,List.filterMap_cons]; simp only [List.getElem?_cons_zero,List.filterMap_map]; congr 1
def getItem_tuple_rev {t sl:Addr} {items:Array Value} {vk:Value} {Q:Value->Shared->Prop} (ht:IsTup s.heap t items) (hs:s.heap.IsSliceOf sl .none .none vk) (pk:IsPart vk (some (-1)))
  (h:Q (.ref s.heap.objs.size) { s with heap:=s.heap.push { cls:=.type "tuple",data:=.seq items.toList.reverse.toArray } })
  (hsz:items.size<=sizeLine):wpAny (model prog w) A (getItem (.ref t) (.ref sl)) Q E s:=by
 have htake:sizeOk (.seq items.toList.reverse.toArray):=by
  show items.toList.reverse.toArray.size<=sizeLine
  rw [List.size_toArray,List.length_reverse,Array.length_toList]
  exact hsz
 obtain ⟨os,hos,hcs,hds⟩:=id hs
 have hTs:s.TypeIs (.ref sl) "slice":=⟨os,hos,hcs⟩
 unfold getItem
 try with_reducible refine wpAny_holding ?_
 first | refine wpAny_bind (wpAny_pure ?_) | skip
 refine wpAny_bind (wpAny_sequenceKey ht.typeIs (by decide) ?_)
 refine wpAny_bind (wpAny_callSpecial?_slot (name:=Str.ofString "__getitem__") ht.typeIs PyProof.Rows.slot_tuple_getitem
  (wpAny_call_entry PyProof.Rows.slot_tuple_getitem ht.typeIs entry_tuple_getitem ?_ (args_tuple_getitem _ _)))
 show wpAny _ _ (Builtin.Tuple.tupleItemsOf (.ref t) >>= _) _ _ s
 refine wpAny_bind (tupleItemsOf_ ht ?_)
 refine wpAny_bind (wpAny_typeOf hTs ?_)
 rw [if_pos (by decide)]
 refine wpAny_bind (sliceApplied_rev hs pk ?_)
 have hno:¬ ((((items.size:Int) - 1) == 0 && (-1:Int) == 1 && items.size == items.size)=true):=by simp
 show wpAny _ _ (if (((items.size:Int) - 1) == 0 && (-1:Int) == 1 && items.size == items.size)=true then _ else _) _ _ s
 rw [if_neg hno,pick_rev]
 first
  | exact wpAny_bind (m:=Builtin.Tuple.tupleExact _) (wpAny_newObj_type (wpAny_pure ⟨_,rfl,wpAny_pure h⟩) htake)
  | exact wpAny_bind (m:=Builtin.Tuple.tupleExact _) (wpAny_newObj_type (wpAny_bind (wpAny_pure (wpAny_pure ⟨_,rfl,wpAny_pure h⟩))) htake)
  | exact wpAny_bind (wpAny_bind (m:=Builtin.Tuple.tupleExact _) (wpAny_newObj_type (wpAny_pure (wpAny_pure ⟨_,rfl,wpAny_pure h⟩)) htake))
  | exact wpAny_bind (wpAny_bind (m:=Builtin.Tuple.tupleExact _) (wpAny_newObj_type (wpAny_pure ⟨_,rfl,wpAny_pure h⟩) htake))
end
end HT
namespace L2
open PySem PySem.Spec PyProof.Rows
section
variable {X:Cx} {e:Expr} {st:Option Expr} {te:TE} {ts:TO} {p2 pos:Pos}
def tRevT (K:W.Frag) (te:TE) (ts:TO):TE:=fun σ H Q=>te σ H fun x H1=>ts σ H1 fun k H2=>k=some (-1)/\∃ a xs,x=.ref a/\SqT K H2 a xs/\∀ p,H2 p=none->Q (.ref p) (upd H2 p (.tup xs.reverse))
theorem pe_revT (he:PE X e te) (hs:PO X st ts) (hsub:∀ o i,∃ ops,subscripted (.Slice none none st p2) false o i=operate ops (getItem o i)):PE X (.Subscript e (.Slice none none st p2) pos) (tRevT X.K te ts):=by
 intro pins s σ H Q I h
 refine Subscript_ (thn (he pins s σ H _ I h) fun v s1 ⟨x,H1,I1,r1,q1⟩=>?_)
 refine wpAny_Slice ?_
 rw [evalPart_none]
 refine wpAny_pure ?_
 refine wpAny_pure ?_
 refine thn (hs pins s1 σ H1 _ I1 q1) fun vk s3 ⟨k,H3,I3,pk,ek,a,xs,ex,hx,q⟩=>?_
 subst ek
 subst ex
 cases r1
 have I4:Inv X pins σ H3 { s3 with heap:=s3.heap.push { cls:=.type "slice",data:=.fields #[.none,.none,vk] } }:=I3.kept (t':=s3.toks) fun b ob q=>Heap.get?_push_of_some _ q
 obtain ⟨its,r,ht,hz⟩:=I4.tuple hx
 have hlen:=r.length
 show wpAny (model X.prog X.w) X.A (subscriptTail e (.Slice none none st p2) (.ref a) (.ref s3.heap.objs.size)) (EP X pins σ Q) X.xe { s3 with heap:=s3.heap.push { cls:=.type "slice",data:=.fields #[.none,.none,vk] } }
 obtain ⟨ops,hop⟩:=hsub (.ref a) (.ref s3.heap.objs.size)
 refine tail_any (ops:=ops) ht.typeIs PyProof.Rows.slot_tuple_getitem.lookup ?_ hop
 refine HT.getItem_tuple_rev ht (Heap.IsSliceOf.new ..) pk ?_ (by rw [List.size_toArray] <;> omega)
 refine ⟨.ref _,_,I4.laid (t':=s3.toks) (o:=.tup xs.reverse) (fun b ob q=>Heap.get?_push_of_some _ q) (Nat.le_refl _) ?_,rfl,q _ (I4.hok.fresh (Nat.le_refl _))⟩
 exact ⟨by rw [List.length_reverse]; exact hz,its.reverse,r.reverse,IsTupD.new _ _⟩
end
end L2
namespace L2
open PySem PySem.W PyProof.Rows HT PySem.Calls
section
theorem refs_of:∀ {L:List KIt} {us:List Value},Vals (L.map fun q=>V.ref q.2.1) us->us=keyVals L
 | [],_,h=>by cases h; rfl
 | q::L,_,h=>by
  cases h with
  | cons a b=>rw [refs_of b,show _=Value.ref q.2.1 from a]; rfl
end
section
theorem ints_are:∀ {ns:List Int} {vs:List Value},Vals (ns.map V.int) vs->IntsAre vs ns
 | [],_,h=>by cases h; exact .nil
 | a::r,_,h=>by
  cases h with
  | cons h1 h2=>obtain ⟨t,e⟩:=h1; subst e; exact .cons a t (ints_are h2)
end
end L2
namespace L2
open PySem PySem.Spec PyProof.Rows
section
variable {X:Cx} {pins:List (Addr×Obj)} {σ:St} {H:Hp} {s:Shared} {h':Heap}
def Inv.turnedL {t':Nat} {ch:List Addr} (I:Inv X pins σ H s) (k:∀ b o,b∉ch->s.heap.get? b=some o->h'.get? b=some o) (f:∀ b∈ch,FpOk X pins H b):Inv X pins σ H { s with heap:=h',toks:=t' }:=by
 have ne:∀ b u,H b=some u->b∉ch:=fun b u q z=>by rw [(f b z).1] at q; cases q
 refine I.step (g':=s.gens) (d':=s.drawn) (ch:=ch) (fun b hb=>?_) (fun b o _ _ hc q _=>k b o hc q) (fun b o _ _ hc q _=>⟨o.slots,k b o hc q⟩) (fun _ _ _ _ n=>n)
  (fun b o hc q=>⟨o,k b o hc q⟩) (fun _ _ q=>q) (fun _ _ _ q=>q) (fun b ps q=>⟨#[],by rw [q]; simp⟩) (fun m hm=>?_) (fun b u q=>?_) I.bare
 ·obtain ⟨f0,f1,f2,f3,f4,f5⟩:=f b hb
  exact ⟨f3,f1,f4,f5⟩
 ·obtain ⟨o,es,ep,ho,r⟩:=hm
  exact ⟨o,es,ep,k _ o (fun z=>(f _ z).2.1 rfl) ho,r⟩
 ·refine (I.hok b u q).stay (fun c v hc q'=>k c v ?_ q') (fun _ q=>q) fun _ _ q=>q
  rcases hc with z | z
  ·rw [z]; exact ne b u q
  ·exact ne c _ z
end
def Itz (K:W.Frag) (a b:Addr):It :=
  ⟨fun i H=>∃ xs ys x y,SqL K H a xs/\SqL K H b ys/\xs[i]?=some x/\ys[i]?=some y,
   fun i H v H'=>∃ (t:Addr) (x y:V),v=.ref t/\H t=none/\H'=upd H t (.tup [x,y])/\(∀ xs,SqL K H a xs->xs[i]?=some x)/\∀ ys,SqL K H b ys->ys[i]?=some y,
   fun i H=>∃ xs ys,SqL K H a xs/\SqL K H b ys/\(xs.length<=i\/ys.length<=i)⟩
theorem turn_zip {P:Program} {w:World} {K:W.Frag} {elts:List Expr} {x1:Nat} {pos:Pos} (a b z TI TO i1 i2:Addr) (D:ZipApart z TI TO i1 i2 a b):Turn P w K (.Tuple elts x1 pos) (Itz K a b) [z,TI,TO,i1,i2] z
  (fun i h=>IsZip h z TI TO .none/\IsPair h TI (.ref i1) (.ref i2)/\(∃ u v,IsPair h TO u v)/\h.IsListIter i1 a i/\h.IsListIter i2 b i) where
 mem:=by simp
 obj:=fun i h st c hc=>by
  obtain ⟨hz,hTI,⟨u,v,hTO⟩,⟨o1,e1,c1,d1⟩,⟨o2,e2,c2,d2⟩⟩:=st
  simp only [List.mem_cons,List.not_mem_nil,or_false] at hc
  rcases hc with rfl | rfl | rfl | rfl | rfl
  ·exact ⟨_,hz,fun v z=>by cases z⟩
  ·exact ⟨_,hTI,fun v z=>by cases z⟩
  ·exact ⟨_,hTO,fun v z=>by cases z⟩
  ·exact ⟨o1,e1,fun v z=>by rw [d1] at z; cases z⟩
  ·exact ⟨o2,e2,fun v z=>by rw [d2] at z; cases z⟩
 keep:=fun i h h' st k=>by
  obtain ⟨hz,hTI,⟨u,v,hTO⟩,h1,h2⟩:=st
  exact ⟨k z (by simp) _ hz,k TI (by simp) _ hTI,⟨u,v,k TO (by simp) _ hTO⟩,h1.at fun o q=>k i1 (by simp) o q,h2.at fun o q=>k i2 (by simp) o q⟩
 item:=by
  intro X hP hw hK hc i pins s σ H E I hf st hg
  subst hP hw hK
  obtain ⟨hz,hTI,⟨u,v,hTO⟩,h1,h2⟩:=st
  obtain ⟨xs,ys,x,y,hq,hr,hx,hy⟩:=hg
  obtain ⟨its,rv,p,_⟩:=I.list hq
  obtain ⟨its2,rv2,p2,_⟩:=I.list hr
  obtain ⟨ux,hu,ru⟩:=rv.get hx
  obtain ⟨uy,hu2,ru2⟩:=rv2.get hy
  refine wpAny_pyNext_zip_item D hz hTI hTO h1 h2 p.isList p2.isList (x:=ux) (y:=uy) (by simpa using hu) (by simpa using hu2) fun hp1 a1 a2 a3 a4 a5 a6 a7=>?_
  refine ⟨_,rfl,wpAny_letOwnedTupleGo_zip a1 fun hp2 b1 sb=>?_⟩
  replace sb:Heap.SameBut z hp1 hp2:=sb
  have lt:∀ c∈[z,TI,TO,i1,i2],c < s.heap.objs.size:=fun c hc=>by
   simp only [List.mem_cons,List.not_mem_nil,or_false] at hc
   rcases hc with rfl | rfl | rfl | rfl | rfl
   ·exact Heap.lt_size hz
   ·exact Heap.lt_size hTI
   ·exact Heap.lt_size hTO
   ·obtain ⟨_,q,_⟩:=h1; exact Heap.lt_size q
   ·obtain ⟨_,q,_⟩:=h2; exact Heap.lt_size q
  have fr:H s.heap.objs.size=none:=I.fresh
  have Il:Inv X pins σ (upd H s.heap.objs.size (.tup [x,y])) { s with heap:=s.heap.push { cls:=.type "tuple",data:=.seq #[ux,uy] },toks:=s.toks }:=I.laid (fun b o q=>Heap.get?_push_of_some _ q) (Nat.le_refl _)
   ⟨by show 2<=sizeLine; decide,[ux,uy],.cons ru (.cons ru2 .nil),⟨_,Heap.get?_push_size _ rfl,rfl,_,rfl,rfl⟩⟩
  have up:∀ c∈[z,TI,TO,i1,i2],FpOk X pins (upd H s.heap.objs.size (.tup [x,y])) c:=fun c hc=>by
   obtain ⟨f0,f⟩:=hf c hc
   refine ⟨?_,f⟩
   rw [upd_ne (Nat.ne_of_lt (lt c hc))]
   exact f0
  have I2:Inv X pins σ (upd H s.heap.objs.size (.tup [x,y])) { s with heap:=hp2,toks:=s.toks }:=by
   refine Inv.turnedL (s:={ s with heap:=s.heap.push { cls:=.type "tuple",data:=.seq #[ux,uy] },toks:=s.toks }) (h':=hp2) (t':=s.toks) (ch:=[z,TI,TO,i1,i2]) Il (fun c o hc q=>?_) up
   simp only [List.mem_cons,List.not_mem_nil,or_false,not_or] at hc
   rcases Heap.get?_push_cases q with ⟨z1,z2⟩ | q
   ·subst z1 z2
    exact (sb.2 _ hc.1).trans a5
   ·exact (sb.2 _ hc.1).trans (a7 c o hc.1 hc.2.2.1 hc.2.2.2.1 hc.2.2.2.2 q)
  refine ⟨.ref s.heap.objs.size,_,I2,rfl,⟨_,x,y,rfl,fr,rfl,fun zs hz'=>by rw [I.list_inj hz' hq]; exact hx,fun zs hz'=>by rw [I.list_inj hz' hr]; exact hy⟩,
   ⟨b1,(sb.2 TI D.TIz).trans (a7 _ _ D.TIz D.TITO D.TIi1 D.TIi2 hTI),⟨_,_,(sb.2 TO D.TOz).trans a2⟩,a3.at fun o q=>(sb.2 i1 D.i1z).trans q,a4.at fun o q=>(sb.2 i2 D.i2z).trans q⟩,fun c hc=>(up c hc).1⟩
 done:=by
  intro X hP hw hK hc i pins s σ H E I hf st hg
  subst hP hw hK
  obtain ⟨hz,hTI,⟨u,v,hTO⟩,h1,h2⟩:=st
  obtain ⟨xs,ys,hq,hr,hx⟩:=hg
  obtain ⟨its,rv,p,_⟩:=I.list hq
  obtain ⟨its2,rv2,p2,_⟩:=I.list hr
  have l1:=rv.length
  have l2:=rv2.length
  refine wpAny_pyNext_zip_end (I.ok.hd hc) D hz hTI hTO h1 h2 p.isList p2.isList (by simp; omega) fun hp1 kp=>⟨rfl,?_⟩
  refine I.turnedL (t':=s.toks) (ch:=[z,TI,TO,i1,i2]) (fun c o hc q=>?_) hf
  simp only [List.mem_cons,List.not_mem_nil,or_false,not_or] at hc
  exact kp c o hc.1 hc.2.2.1 hc.2.2.2.1 hc.2.2.2.2 q
 self:=fun _ _ _ _ _ st h=>wpAny_pyIter_zip st.1 h
section
variable {X:Cx}
def iZip (K:W.Frag) (tl:TA):TI:=fun σ H R=>tl σ H fun vs H1=>∃ a b,vs=[.ref a,.ref b]/\(∃ xs,SqL K H1 a xs)/\(∃ ys,SqL K H1 b ys)/\R (Itz K a b) H1
theorem pi_zip {elts:List Expr} {x1:Nat} {pt:Pos} {l r:Expr} {tl:TA} {p pos:Pos} (hg:Gl X "zip") (hm:X.mg "zip"=none) (ha:PA X [l,r] tl) (hs:starEach [l,r] X.env=[(false,eval l X.env),(false,eval r X.env)]:=by rfl) (hs2:starEach [r] X.env=[(false,eval r X.env)]:=by rfl):PI X (.Tuple elts x1 pt) (.Call (.Name "zip" p) [l,r] [] pos) (iZip X.K tl):=by
 intro pins s σ H R I h
 refine Call_ (ld_blt I hg hm boot_zip (PyProof.Rows.callWith_type1 (thn (ha pos pins s σ H _ I h) fun us s1 ⟨vs,H1,I1,r1,q1⟩=>?_) (by rw [hs,hs2]) (by rw [hs2]; rfl)))
 obtain ⟨a,b,e,⟨xs,hq⟩,⟨ys,hr⟩,q⟩:=q1
 subst e
 cases r1 with
 | cons r rr =>
  cases rr with
  | cons r' rr =>
   cases rr
   cases r
   cases r'
   obtain ⟨its,rv,pl,_⟩:=I1.list hq
   obtain ⟨its2,rv2,pl2,_⟩:=I1.list hr
   refine call_zip_2 pl.isList pl2.isList fun hp1 c1 c2 c3 c4 c5 c6 c7=>?_
   have I2:Inv X pins σ H1 { s1 with heap:=hp1,toks:=s1.toks }:=I1.kept c7
   refine wpAny_pyIter_zip c1 ?_
   have la:a < s1.heap.objs.size:=by obtain ⟨o,e,_⟩:=pl.isList; exact Heap.lt_size e
   have lb:b < s1.heap.objs.size:=by obtain ⟨o,e,_⟩:=pl2.isList; exact Heap.lt_size e
   refine ⟨s1.heap.objs.size + 4,[s1.heap.objs.size + 4,s1.heap.objs.size + 2,s1.heap.objs.size + 3,s1.heap.objs.size,s1.heap.objs.size + 1],_,_,H1,rfl,I2,turn_zip a b _ _ _ _ _ (zipApart_new la lb),⟨c1,c2,⟨_,_,c3⟩,c4,c5⟩,fun c hc=>?_,q⟩
   have hle:s1.heap.objs.size<=c:=by
    simp only [List.mem_cons,List.not_mem_nil,or_false] at hc
    rcases hc with rfl | rfl | rfl | rfl | rfl <;> omega
   exact I1.fpOk hle (I1.hok.fresh hle)
end
end L2
namespace L2
open PySem PySem.W PyProof.Rows HT PySem.Calls
def LtAt (A:Around) (s:Shared) (u v:Value) (b:Bool):Prop:=∀ (prog:Program) (w:World) (E:Value->Shared->Prop) (Q:Value->Shared->Prop),Q (.bool b) s->wpAny (model prog w) A (compareOp .Lt u v) Q E s
def lexN:(Nat->Bool×Bool)->Nat->Nat->Bool
 | _,0,n=>decide (0 < n)
 | _,_ + 1,0=>false
 | z,m + 1,n + 1=>if (z 0).1 then lexN (fun j=>z (j + 1)) m n else (z 0).2
section
variable {prog:Program} {w:World} {A:Around} {E:Value->Shared->Prop} {s:Shared}
def LtAt.int (i j:Int) (t u:Tok):LtAt A s (.int i t) (.int j u) (decide (i < j)):=fun prog w E Q h=>wpAny_lt_int h
end
end L2
namespace PySem.SeqAt
open AutoSeq1 (wpAny_loadPart')
open MeetsSeq MeetsSeq2 MeetsSeq3 SeqRoads2
theorem lt_loopAt (l b:Addr) (items items2:Array Value) (n n2:Nat) (dd dd2:Option Addr) (sl sl2:Array (Option Value)) (k:Nat) :
  ∀ (i:Nat) (z:Nat->Bool×Bool),items.size - i=k->i<=items.size->i<=items2.size->Meets (Builtin.«list.__eq__.loop» ⟨[.ref l,.ref b,rawInt i,rawInt 0],[]⟩)
   (fun A R s=>s.heap.get? l=some { cls:=.type "list",dict:=dd,data:=.seq items n,slots:=sl }/\s.heap.get? b=some { cls:=.type "list",dict:=dd2,data:=.seq items2 n2,slots:=sl2 } /\
    (∀ j (h1:i + j < items.size) (h2:i + j < items2.size),EqAt A.in1 s items[i + j] items2[i + j] (z j).1/\L2.LtAt A.in1 s items[i + j] items2[i + j] (z j).2) /\
    R (.ok (.ret (.bool (L2.lexN z (items.size - i) (items2.size - i))))) s):=by
 induction k with
 | zero =>
  intro i z hk hi hi' prog w A R s h
  obtain ⟨hp,g,d,tk,os⟩:=s; obtain ⟨hl,hb,he,h⟩:=h
  wp_walk using wpAny_loadPart' hl,wpAny_loadPart' hb
  have hi1:items[((i:Nat):Int).toNat]?=none:=by simp; omega
  rw [hi1]
  wp_walk using wpAny_loadPart' hl,wpAny_loadPart' hb
  show R (.ok (.ret (.bool (decide (items.size < items2.size))))) _
  rw [show items.size - i=0 by omega,L2.lexN] at h
  rw [show decide (items.size < items2.size)=decide (0 < items2.size - i) from decide_eq_decide.mpr (by omega)]
  exact h
 | succ k ih =>
  intro i z hk hi hi' prog w A R s h
  obtain ⟨hp,g,d,tk,os⟩:=s; obtain ⟨hl,hb,he,h⟩:=h
  wp_walk using wpAny_loadPart' hl,wpAny_loadPart' hb
  have hlt:i < items.size:=by omega
  have hi1:items[((i:Nat):Int).toNat]?=some items[i]:=by simp [hlt]
  have hc:((i:Int) + 1)=((i + 1:Nat):Int):=by push_cast; rfl
  by_cases hlt2:i < items2.size
  ·have hi2:items2[((i:Nat):Int).toNat]?=some items2[i]:=by simp [hlt2]
   rw [show items.size - i=(items.size - (i + 1)) + 1 by omega,show items2.size - i=(items2.size - (i + 1)) + 1 by omega,L2.lexN] at h
   obtain ⟨h1,h2⟩:=he 0 hlt hlt2
   rw [hi1,hi2]
   refine wpAny_bind (h1 prog w _ _ ?_)
   cases hb':(z 0).1 with
   | true =>
    rw [hb',if_pos rfl] at h
    wp_walk
    rw [hc]
    exact ⟨plainId_quiet plain_eq_loop _,codeAny_builtin entry_eq_loop (by
     rw [Around.under_plainId plain_eq_loop _]
     exact ih (i + 1) (fun j=>z (j + 1)) (by omega) (by omega) (by omega) prog w A R _ ⟨hl,hb,fun j g1 g2=>by
      have:=he (j + 1) (by omega) (by omega)
      simpa only [Nat.add_comm 1 j,<- Nat.add_assoc,Nat.add_right_comm i 1 j] using this,h⟩)⟩
   | false =>
    rw [hb',if_neg (by decide)] at h
    wp_walk using wpAny_loadPart' hl,wpAny_loadPart' hb
    rw [hi1,hi2]
    refine wpAny_bind (h2 prog w _ _ ?_)
    wp_walk
    exact h
  ·have hi2:items2[((i:Nat):Int).toNat]?=none:=by simp; omega
   rw [hi1,hi2]
   wp_walk using wpAny_loadPart' hl,wpAny_loadPart' hb
   show R (.ok (.ret (.bool (decide (items.size < items2.size))))) _
   rw [show items.size - i=(items.size - (i + 1)) + 1 by omega,show items2.size - i=0 by omega,L2.lexN] at h
   rw [decide_eq_false (show ¬ items.size < items2.size by omega)]
   exact h
theorem list_ltAt (l b:Addr) (items items2:Array Value) (n n2:Nat) (dd dd2:Option Addr) (sl sl2:Array (Option Value)) (z:Nat->Bool×Bool) :
  Meets (Builtin.«list.__lt__» ⟨[.ref l,.ref b],[]⟩)
   (fun A R s=>s.heap.get? l=some { cls:=.type "list",dict:=dd,data:=.seq items n,slots:=sl }/\s.heap.get? b=some { cls:=.type "list",dict:=dd2,data:=.seq items2 n2,slots:=sl2 } /\
    (∀ j (h1:j < items.size) (h2:j < items2.size),EqAt A.in1 s items[j] items2[j] (z j).1/\L2.LtAt A.in1 s items[j] items2[j] (z j).2) /\
    R (.ok (.ret (.bool (L2.lexN z items.size items2.size)))) s):=by
 intro prog w A R s h
 obtain ⟨hp,g,d,tk,os⟩:=s; obtain ⟨hl,hb,he,h⟩:=h
 have f3:=AutoSeq1.sub_list_list
 wp_walk using wpAny_loadPart' hl,wpAny_loadPart' hb
 exact ⟨plainId_quiet plain_eq_loop _,codeAny_builtin entry_eq_loop (by
  rw [Around.under_plainId plain_eq_loop _]
  refine lt_loopAt l b items items2 n n2 dd dd2 sl sl2 _ 0 z rfl (Nat.zero_le _) (Nat.zero_le _) prog w A R _ ⟨hl,hb,fun j h1 h2=>?_,h⟩
  have:=he j (by omega) (by omega)
  simpa only [Nat.zero_add] using this)⟩
end PySem.SeqAt
namespace L2
open PySem PySem.W PyProof.Rows HT PySem.Calls
section
variable {s:Shared} {A:Around}
theorem un_of {k:Nat} (hr:Room k A):A.units + 200 < cLine:=by have:=hr.un; omega
theorem lexN_ints:∀ (ns ms:List Int),lexN (fun j=>(ns[j]? == ms[j]?,decide ((ns[j]?).getD 0 < (ms[j]?).getD 0))) ns.length ms.length=HT.lexLt ns ms
 | [],[]=>rfl
 | [],_::_=>rfl
 | _::_,[]=>rfl
 | n::ns,m::ms=>by
  have ih:=lexN_ints ns ms
  rw [List.length_cons,List.length_cons,lexN,HT.lexLt_cons]
  simp only [List.getElem?_cons_zero,List.getElem?_cons_succ,Option.getD_some]
  rw [ih]
  by_cases e:n=m
  ·rw [if_pos e,if_pos (by rw [e]; exact beq_self_eq_true _)]
  ·rw [if_neg e,if_neg (by simp [e])]
theorem ints_at {us:List Value} {ns:List Int} (h:IntsAre us ns):us.length=ns.length/\∀ (j:Nat) (hj:j < us.length),∃ t,us[j]=.int ((ns[j]?).getD 0) t:=by
 induction h with
 | nil=>exact ⟨rfl,fun j hj=>absurd hj (Nat.not_lt_zero _)⟩
 | cons n t h ih =>
  refine ⟨by rw [List.length_cons,List.length_cons,ih.1],fun j hj=>?_⟩
  cases j with
  | zero=>exact ⟨t,rfl⟩
  | succ j=>exact ih.2 j (Nat.lt_of_succ_lt_succ hj)
theorem ints_lt {us vs:List Value} {ns ms:List Int} (h1:IntsAre us ns) (h2:IntsAre vs ms) (j:Nat) (g1:j < us.length) (g2:j < vs.length):SeqAt.EqAt A s us[j] vs[j] (ns[j]? == ms[j]?)/\LtAt A s us[j] vs[j] (decide ((ns[j]?).getD 0 < (ms[j]?).getD 0)):=by
 obtain ⟨l1,a1⟩:=ints_at h1
 obtain ⟨l2,a2⟩:=ints_at h2
 obtain ⟨t,e1⟩:=a1 j g1
 obtain ⟨u,e2⟩:=a2 j g2
 rw [e1,e2]
 refine ⟨?_,.int _ _ _ _⟩
 have:=SeqAt.EqAt.int_int (A:=A) (s:=s) ((ns[j]?).getD 0) t ((ms[j]?).getD 0) u
 rw [List.getElem?_eq_getElem (by omega),List.getElem?_eq_getElem (by omega)] at this ⊢
 exact this
end
section
variable {X:Cx} {pins:List (Addr×Obj)} {σ:St} {H:Hp} {s:Shared} {E:Value->Shared->Prop} {A:Around}
theorem list_kind {L:List KIt} (I:Inv X pins σ H s) (hk:∀ q∈L,SqL X.K H q.2.1 (q.2.2.map V.int)) (h2:0 < L.length) {Q:SortKind->Shared->Prop} (h:Q oneType' s) :
  wpAny (model X.prog X.w) A (keyKind' (keyVals L).toArray) Q E s:=by
 have ty:∀ v∈keyVals L,Looks (model X.prog X.w) s.heap (typeOf v) (.type "list"):=fun v hv=>by
  obtain ⟨q,hq,rfl⟩:=List.mem_map.mp hv
  obtain ⟨its,rv,pl,_⟩:=I.list (hk q hq)
  obtain ⟨o,ho,hc,n,hd⟩:=pl.isList
  have:=(show Looks (model X.prog X.w) s.heap (typeOf (.ref q.2.1)) o.cls from (Looks.ld ho).andThen .now)
  rwa [hc] at this
 have firsts:∀ (vs:List Value),(∀ v∈vs,Looks (model X.prog X.w) s.heap (typeOf v) (.type "list"))->∀ {Q:List (Option Value)->Shared->Prop},Q (vs.map fun _=>none) s->wpAny (model X.prog X.w) A (vs.mapM firstOfTuple') Q E s:=by
  intro vs
  induction vs with
  | nil=>intro _ Q h; rw [List.mapM_nil]; exact wpAny_pure h
  | cons v vs ih =>
   intro hv Q h
   rw [List.mapM_cons]
   refine wpAny_bind ?_
   rw [kas_first_eq]
   refine wpAny_bind (Looks.here (hv v List.mem_cons_self) ?_)
   rw [if_pos (by decide)]
   refine wpAny_pure ?_
   exact wpAny_bind (ih (fun x hx=>hv x (List.mem_cons_of_mem _ hx)) (Q:=fun bs s'=>wpAny (model X.prog X.w) A (pure (none::bs)) Q E s') (wpAny_pure h))
 have hl:(keyVals L).length=L.length:=by simp [keyVals]
 generalize keyVals L=vs at ty hl
 match vs,ty,hl with
 | [],_,hl=>simp at hl; omega
 | v::vs,ty,_ =>
  rw [kat_kind_eq,List.mapM_toArray,map_eq_pure_bind]
  refine wpAny_bind (wpAny_bind (firsts _ ty (wpAny_pure ?_)))
  rw [if_neg (by simp),if_neg (by simp)]
  rw [oneTypeOnly'_eq,List.mapM_toArray,map_eq_pure_bind]
  refine wpAny_bind (wpAny_bind (wpAny_bind (kas_mapM (r:=.type "list") _ (fun v hv Q' hq=>(ty v hv).here hq) (wpAny_pure ?_))))
  have hall2:((List.map (fun _=>Value.type "list") (v::vs)).toArray.all fun x=>x == Value.type "list")=true:=by
   simp only [List.all_toArray,List.all_map,List.all_eq_true]
   intro _ _
   rfl
  have h0:(List.map (fun _=>Value.type "list") (v::vs)).toArray[0]?=some (Value.type "list"):=by simp
  rw [h0]
  simp only [hall2,if_true]
  exact wpAny_pure (wpAny_pure h)
theorem list_lt {a b:Addr} {ns ms:List Int} {Q:Bool->Shared->Prop} (I:Inv X pins σ H s) (hu:A.units + 120 < cLine) (h1:SqL X.K H a (ns.map V.int)) (h2:SqL X.K H b (ms.map V.int)) (h:Q (HT.lexLt ns ms) s):wpAny (model X.prog X.w) A (oneLt' true (.ref a) (.ref b)) Q E s:=by
 obtain ⟨its,rv,pl,_⟩:=I.list h1
 obtain ⟨its2,rv2,pl2,_⟩:=I.list h2
 have i1:=ints_are rv
 have i2:=ints_are rv2
 rw [oneLt'_eq]
 simp only [if_true]
 refine wpAny_bind (wpAny_cRoomFor (by omega) ?_)
 obtain ⟨⟨cls,dd,data,sl⟩,ho,hc,n,hd⟩:=id pl.isList
 obtain ⟨⟨cls2,dd2,data2,sl2⟩,ho2,hc2,n2,hd2⟩:=id pl2.isList
 simp only at hc hd hc2 hd2
 subst hc hd hc2 hd2
 refine wpAny_bind (wpAny_callSpecialIfBound?_slot ⟨_,ho,rfl⟩ F.slot_list_lt (call_meets F.slot_list_lt ⟨_,ho,rfl⟩ F.entry_list_lt (F.args_list_lt_2 _ _) (SeqAt.list_ltAt a b its.toArray its2.toArray n n2 dd dd2 sl sl2 (fun j=>(ns[j]? == ms[j]?,decide ((ns[j]?).getD 0 < (ms[j]?).getD 0)))) ⟨ho,ho2,fun j g1 g2=>?_,?_⟩))
 ·simp only [List.getElem_toArray]
  exact ints_lt i1 i2 j (by simpa using g1) (by simpa using g2)
 ·rw [List.size_toArray,List.size_toArray,(ints_at i1).1,(ints_at i2).1,lexN_ints]
  exact wpAny_truthy_bool h
end
end L2
namespace L2
open PySem PySem.SetTable PyProof.Rows PySem.W
section
theorem lift_perm {α β:Type} {f:β->α} {l m:List α} (p:l.Perm m):∀ {qs:List β},m=qs.map f->∃ qs':List β,qs'.Perm qs/\l=qs'.map f:=by
 induction p with
 | nil=>exact fun {qs} e=>⟨qs,.refl _,e⟩
 | cons x _ ih =>
  intro qs e
  cases qs with
  | nil=>cases e
  | cons b r =>
   rw [List.map_cons] at e
   injection e with e1 e2
   obtain ⟨r',p1,p2⟩:=ih e2
   exact ⟨b::r',p1.cons _,by rw [List.map_cons,e1,p2]⟩
 | swap x y t =>
  intro qs e
  match qs,e with
  | [],e=>cases e
  | [b],e=>cases e
  | b::c::r,e =>
   rw [List.map_cons,List.map_cons] at e
   injection e with e1 e2
   injection e2 with e2 e3
   exact ⟨c::b::r,.swap _ _ _,by rw [List.map_cons,List.map_cons,e1,e2,e3]⟩
 | trans _ _ ih1 ih2 =>
  intro qs e
  obtain ⟨q2,p2,e2⟩:=ih2 e
  obtain ⟨q1,p1,e1⟩:=ih1 e2
  exact ⟨q1,p1.trans p2,e1⟩
end
end L2
namespace L2
open PySem PyProof.Rows
def gallop':Bool->Keyed->Array Keyed->Nat->Nat->Nat->StateT SortSt Sem (Option Nat):=sortPriv% PySem.Builtin.gallop
def beyond' (left:Bool) (key:Keyed) (arr:Array Keyed) (base i:Nat):StateT SortSt Sem (Option Bool):=do
 let x <- elem' arr (base + i)
 if left then lt' x key else return (<- lt' key x).map (!·)
def gallop'_eq (left:Bool) (key:Keyed) (arr:Array Keyed) (base n hint:Nat):gallop' left key arr base n hint=(do
 let mut lastofs:=0
 let mut ofs:=1
 let mut lo:=0
 let mut hi:=0
 let some right <- beyond' left key arr base hint | return none
 if right then
  let maxofs:=n - hint
  for _ in [0:n] do
   if ofs≥maxofs then break
   let some more <- beyond' left key arr base (hint + ofs) | return none
   if !more then break
   lastofs:=ofs
   ofs:=2 * ofs + 1
  lo:=hint + lastofs + 1
  hi:=hint + min ofs maxofs
 else
  let maxofs:=hint + 1
  for _ in [0:n] do
   if ofs≥maxofs then break
   let some found <- beyond' left key arr base (hint - ofs) | return none
   if found then break
   lastofs:=ofs
   ofs:=2 * ofs + 1
  lo:=hint + 1 - min ofs maxofs
  hi:=hint - lastofs
 for _ in [0:n] do
  if lo≥hi then break
  let m:=lo + (hi - lo) / 2
  let some more <- beyond' left key arr base m | return none
  if more then lo:=m + 1 else hi:=m
 return some hi):=rfl
section
variable {M:Model} {A:Around} {E:Value->Shared->Prop} {s:Shared} {κ:SortKind} {S:Keyed->Prop} {R:Keyed->Int}
def LtS (M:Model) (A:Around) (E:Value->Shared->Prop) (s:Shared) (κ:SortKind) (S:Keyed->Prop) (R:Keyed->Int):Prop:=∀ (x y:Keyed) (st:SortSt) (Q:Option Bool->SortSt->Prop),S x->S y->kindOf st=κ->Q (some (decide (R x < R y))) st->wpS M A E s (lt' x y) Q st
def wpS_elem {arr:Array Keyed} {i:Nat} {p:Keyed} {Q:Keyed->SortSt->Prop} {st:SortSt} (h:arr[i]?=some p) (hq:Q p st):wpS M A E s (elem' arr i) Q st:=by
 rw [elem'_eq,h]
 exact wpS_pure hq
theorem wpS_beyond (HL:LtS M A E s κ S R) {left:Bool} {key:Keyed} {arr:Array Keyed} {base i:Nat} {st:SortSt} {Q:Option Bool->SortSt->Prop} {x:Keyed} (hk:S key) (hst:kindOf st=κ) (hx:arr[base + i]?=some x) (sx:S x) (ne:R x≠R key) (h:Q (some (decide (R x < R key))) st):wpS M A E s (beyond' left key arr base i) Q st:=by
 unfold beyond'
 refine wpS_bind (wpS_elem hx ?_)
 cases left with
 | true=>exact HL _ _ _ _ sx hk hst h
 | false =>
  refine wpS_bind (HL _ _ _ _ hk sx hst (wpS_pure ?_))
  show Q (some (!decide (R key < R x))) st
  rw [show (!decide (R key < R x))=decide (R x < R key) from ?_]
  ·exact h
  ·by_cases z:R x < R key
   ·rw [decide_eq_true z,decide_eq_false (by omega)]; rfl
   ·rw [decide_eq_false z,decide_eq_true (by omega)]; rfl
theorem bin_loop {left:Bool} {key:Keyed} {arr:Array Keyed} {base n:Nat} {st:SortSt} {Q:Option Nat->SortSt->Prop} {B:Nat->Bool} (mono:∀ i j,i<=j->j < n->B j=true->B i=true) (ask:∀ {i:Nat} {Q:Option Bool->SortSt->Prop},i < n->Q (some (B i)) st->wpS M A E s (beyond' left key arr base i) Q st)
  (fin:∀ k,k<=n->(∀ i,i < k->B i=true)->(∀ i,k<=i->i < n->B i=false)->Q (some k) st) {lo hi:Nat} (h1:lo<=hi) (h2:hi<=n) (h3:∀ i,i < lo->B i=true) (h4:∀ i,hi<=i->i < n->B i=false):wpS M A E s (do
   let mut lo:=lo
   let mut hi:=hi
   for _ in [0:n] do
    if lo≥hi then break
    let m:=lo + (hi - lo) / 2
    let some more <- beyond' left key arr base m | return none
    if more then lo:=m + 1 else hi:=m
   return some hi) Q st:=by
 refine wpS_bind (wpS_mono (wpS_forRange (I:=fun x c st'=>st'=st/\∃ l r,c=(none,l,r)/\l<=r/\r<=n/\r - l<=n - x/\(∀ i,i < l->B i=true)/\∀ i,r<=i->i < n->B i=false) (Q:=fun c st'=>st'=st/\∃ r,c=(none,r,r)/\r<=n/\(∀ i,i < r->B i=true)/\∀ i,r<=i->i < n->B i=false) ?step ?fin ?init) ?post)
 case init=>exact ⟨rfl,lo,hi,rfl,h1,h2,by omega,h3,h4⟩
 case fin =>
  rintro c st' ⟨rfl,l,r,rfl,a1,a2,a3,a4,a5⟩
  have:l=r:=by omega
  subst this
  exact ⟨rfl,l,rfl,a2,a4,a5⟩
 case step =>
  rintro x c st' _ hx ⟨rfl,l,r,rfl,a1,a2,a3,a4,a5⟩
  dsimp only
  by_cases hge:l≥r
  ·rw [if_pos hge]
   have:l=r:=by omega
   subst this
   exact wpS_pure ⟨rfl,l,rfl,a2,a4,a5⟩
  ·rw [if_neg hge]
   refine wpS_bind (ask (by omega) ?_)
   cases hb:B (l + (r - l) / 2) with
   | true =>
    simp only [if_true]
    exact wpS_pure ⟨rfl,_,_,rfl,by omega,a2,by omega,fun i hi=>mono i _ (by omega) (by omega) hb,a5⟩
   | false =>
    simp only [Bool.false_eq_true,if_false]
    refine wpS_pure ⟨rfl,_,_,rfl,by omega,by omega,by omega,a4,fun i hi hi2=>?_⟩
    cases hq:B i with
    | false=>rfl
    | true=>rw [mono _ i hi hi2 hq] at hb; cases hb
 case post =>
  rintro c st' ⟨rfl,r,rfl,a2,a4,a5⟩
  exact wpS_pure (fin r a2 a4 a5)
theorem wpS_gallop (HL:LtS M A E s κ S R) {left:Bool} {key:Keyed} {arr:Array Keyed} {base n hint:Nat} {st:SortSt} {Q:Option Nat->SortSt->Prop} (hk:S key) (hst:kindOf st=κ) (hn:hint < n) (he:∀ i,i < n->∃ x,arr[base + i]?=some x/\S x/\R x≠R key)
  (hs:∀ i j x y,i < j->j < n->arr[base + i]?=some x->arr[base + j]?=some y->R x < R y)
  (h:∀ k,k<=n->(∀ i x,i < k->arr[base + i]?=some x->R x < R key)->(∀ i x,k<=i->i < n->arr[base + i]?=some x->R key < R x)->Q (some k) st):wpS M A E s (gallop' left key arr base n hint) Q st:=by
 let B:Nat->Bool:=fun i=>match arr[base + i]? with | some x=>decide (R x < R key) | none=>false
 have mono:∀ i j,i<=j->j < n->B j=true->B i=true:=fun i j hij hj hb=>by
  rcases Nat.lt_or_ge i j with z | z
  ·obtain ⟨x,ex,_,_⟩:=he i (by omega)
   obtain ⟨y,ey,_,_⟩:=he j hj
   have:=hs i j x y z hj ex ey
   simp only [B,ey,ex,decide_eq_true_eq] at hb ⊢
   omega
  ·have:i=j:=by omega
   rw [this]; exact hb
 have ask:∀ {i:Nat} {Q:Option Bool->SortSt->Prop},i < n->Q (some (B i)) st->wpS M A E s (beyond' left key arr base i) Q st:=fun {i Q} hi hq=>by
  obtain ⟨x,ex,sx,nx⟩:=he i hi
  refine wpS_beyond HL hk hst ex sx nx ?_
  simpa only [B,ex] using hq
 have fin:∀ k,k<=n->(∀ i,i < k->B i=true)->(∀ i,k<=i->i < n->B i=false)->Q (some k) st:=fun k hkn h1 h2=>h k hkn (fun i x hi ex=>by
  have:=h1 i hi
  simpa only [B,ex,decide_eq_true_eq] using this) fun i x hi hi2 ex=>by
  have:=h2 i hi hi2
  obtain ⟨y,ey,_,ny⟩:=he i hi2
  rw [ex] at ey
  cases ey
  simp only [B,ex,decide_eq_false_iff_not] at this
  omega
 clear_value B
 rw [gallop'_eq]
 refine wpS_bind (ask hn ?_)
 dsimp only
 cases hB:B hint with
 | true =>
  simp only [if_true]
  refine wpS_bind (wpS_mono (wpS_forRange (I:=fun x c st'=>st'=st/\∃ l o,c=(none,l,o)/\l < o/\x + 1<=o/\hint + l < n/\B (hint + l)=true) (Q:=fun c st'=>st'=st/\∃ l o,c=(none,l,o)/\l < o/\hint + l < n/\B (hint + l)=true/\(n - hint<=o\/(hint + o < n/\B (hint + o)=false))) ?step ?fin ?init) ?post)
  case init=>exact ⟨rfl,0,1,rfl,by decide,by decide,hn,hB⟩
  case fin =>
   rintro c st' ⟨rfl,l,o,rfl,a1,a2,a3,a4⟩
   exact ⟨rfl,l,o,rfl,a1,a3,a4,.inl (by omega)⟩
  case step =>
   rintro x c st' _ hx ⟨rfl,l,o,rfl,a1,a2,a3,a4⟩
   dsimp only
   by_cases hge:o≥n - hint
   ·rw [if_pos hge]
    exact wpS_pure ⟨rfl,l,o,rfl,a1,a3,a4,.inl hge⟩
   ·rw [if_neg hge]
    refine wpS_bind (ask (by omega) ?_)
    cases hb:B (hint + o) with
    | true =>
     simp only [Bool.not_true,Bool.false_eq_true,if_false]
     exact wpS_pure ⟨rfl,_,_,rfl,by omega,by omega,by omega,hb⟩
    | false =>
     simp only [Bool.not_false,if_true]
     exact wpS_pure ⟨rfl,l,o,rfl,a1,a3,a4,.inr ⟨by omega,hb⟩⟩
  case post =>
   rintro c st' ⟨rfl,l,o,rfl,a1,a3,a4,a5⟩
   refine bin_loop mono ask fin ?_ ?_ (fun i hi=>mono i (hint + l) (by have hi:i < hint + l + 1:=hi; omega) a3 a4) fun i hi hi2=>?_
   ·show hint + l + 1<=hint + min o (n - hint); omega
   ·show hint + min o (n - hint)<=n; omega
   ·have hi:hint + min o (n - hint)<=i:=hi
    rcases a5 with z | ⟨z1,z2⟩
    ·omega
    ·cases hq:B i with
     | false=>rfl
     | true=>rw [mono (hint + o) i (by omega) hi2 hq] at z2; cases z2
 | false =>
  simp only [Bool.false_eq_true,if_false]
  refine wpS_bind (wpS_mono (wpS_forRange (I:=fun x c st'=>st'=st/\∃ l o,c=(none,l,o)/\l < o/\x + 1<=o/\l<=hint/\B (hint - l)=false) (Q:=fun c st'=>st'=st/\∃ l o,c=(none,l,o)/\l < o/\l<=hint/\B (hint - l)=false/\(hint + 1<=o\/(o<=hint/\B (hint - o)=true))) ?step2 ?fin2 ?init2) ?post2)
  case init2=>exact ⟨rfl,0,1,rfl,by decide,by decide,Nat.zero_le _,hB⟩
  case fin2 =>
   rintro c st' ⟨rfl,l,o,rfl,a1,a2,a3,a4⟩
   exact ⟨rfl,l,o,rfl,a1,a3,a4,.inl (by omega)⟩
  case step2 =>
   rintro x c st' _ hx ⟨rfl,l,o,rfl,a1,a2,a3,a4⟩
   dsimp only
   by_cases hge:o≥hint + 1
   ·rw [if_pos hge]
    exact wpS_pure ⟨rfl,l,o,rfl,a1,a3,a4,.inl hge⟩
   ·rw [if_neg hge]
    refine wpS_bind (ask (by omega) ?_)
    cases hb:B (hint - o) with
    | true =>
     simp only [if_true]
     exact wpS_pure ⟨rfl,l,o,rfl,a1,a3,a4,.inr ⟨by omega,hb⟩⟩
    | false =>
     simp only [Bool.false_eq_true,if_false]
     exact wpS_pure ⟨rfl,_,_,rfl,by omega,by omega,by omega,hb⟩
  case post2 =>
   rintro c st' ⟨rfl,l,o,rfl,a1,a3,a4,a5⟩
   refine bin_loop mono ask fin ?_ ?_ (fun i hi=>?_) fun i hi hi2=>?_
   ·show hint + 1 - min o (hint + 1)<=hint - l; omega
   ·show hint - l<=n; omega
   ·have hi:i < hint + 1 - min o (hint + 1):=hi
    rcases a5 with z | ⟨z1,z2⟩
    ·omega
    ·exact mono i (hint - o) (by omega) (by omega) z2
   ·have hi:hint - l<=i:=hi
    cases hq:B i with
    | false=>rfl
    | true=>rw [mono (hint - l) i hi hi2 hq] at a4; cases a4
end
def setMinGallop':Nat->StateT SortSt Sem Unit:=sortPriv% PySem.Builtin.setMinGallop
abbrev setGallop (st:SortSt) (g:Nat):SortSt:=SortSt.mk' (kindOf st) (arrOf st) (pendingOf st) g (failedOf st)
def setMinGallop'_eq (g:Nat):setMinGallop' g=modify fun st=>setGallop st g:=rfl
def mergeLo':Array Keyed->Array Keyed->StateT SortSt Sem (Array Keyed):=sortPriv% PySem.Builtin.mergeLo
def mergeLo'_eq (a b:Array Keyed):mergeLo' a b=(do
 rule "list.sort.merge-lo"
 let total:=a.size + b.size
 let done (out:Array Keyed) (ia ib:Nat):=out++a.extract ia a.size++b.extract ib b.size
 let lastOfA (out:Array Keyed) (ia ib:Nat):=out++b.extract ib b.size++a.extract ia a.size
 let mut out:Array Keyed:=#[<- elem' b 0]
 let mut ia:=0
 let mut ib:=1
 if ib == b.size then return done out ia ib
 if ia + 1 == a.size then return lastOfA out ia ib
 let mut minGallop:=gallopOf (<- get)
 for _ in [0:total] do
  let mut acount:=0
  let mut bcount:=0
  for _ in [0:total] do
   let some bWins <- lt' (<- elem' b ib) (<- elem' a ia) | return done out ia ib
   if bWins then
    out:=out.push (<- elem' b ib); ib:=ib + 1; bcount:=bcount + 1; acount:=0
    if ib == b.size then return done out ia ib
    if bcount≥minGallop then break
   else
    out:=out.push (<- elem' a ia); ia:=ia + 1; acount:=acount + 1; bcount:=0
    if ia + 1 == a.size then return lastOfA out ia ib
    if acount≥minGallop then break
  rule "list.sort.gallop"
  minGallop:=minGallop + 1
  for _ in [0:total] do
   if minGallop > 1 then minGallop:=minGallop - 1
   setMinGallop' minGallop
   let some k <- gallop' false (<- elem' b ib) a ia (a.size - ia) 0 | return done out ia ib
   acount:=k
   if k > 0 then
    out:=out++a.extract ia (ia + k); ia:=ia + k
    if ia + 1 == a.size then return lastOfA out ia ib
    if ia == a.size then return done out ia ib
   out:=out.push (<- elem' b ib); ib:=ib + 1
   if ib == b.size then return done out ia ib
   let some k <- gallop' true (<- elem' a ia) b ib (b.size - ib) 0 | return done out ia ib
   bcount:=k
   if k > 0 then
    out:=out++b.extract ib (ib + k); ib:=ib + k
    if ib == b.size then return done out ia ib
   out:=out.push (<- elem' a ia); ia:=ia + 1
   if ia + 1 == a.size then return lastOfA out ia ib
   if acount < 7 && bcount < 7 then break
  minGallop:=minGallop + 1
  setMinGallop' minGallop
 unsupported "internal:list.sort.merge-bound"):=rfl
abbrev LoSt:=Option (Array Keyed)×Array Keyed×Nat×Nat×Nat×Nat×Nat
abbrev loDone (a b out:Array Keyed) (ia ib:Nat):Array Keyed:=out++a.extract ia a.size++b.extract ib b.size
abbrev loLast (a b out:Array Keyed) (ia ib:Nat):Array Keyed:=out++b.extract ib b.size++a.extract ia a.size
def lo4 (a b:Array Keyed) (mg ac bc:Nat) (out:Array Keyed) (ia ib:Nat):StateT SortSt Sem (ForInStep LoSt):=do
 let y <- elem' a ia
 if ia + 1 + 1 == a.size then pure (.done (some (loLast a b (out.push y) (ia + 1) ib),out.push y,ia + 1,ib,mg,ac,bc))
 else if decide (ac < 7) && decide (bc < 7) then pure (.done (none,out.push y,ia + 1,ib,mg,ac,bc)) else pure (.yield (none,out.push y,ia + 1,ib,mg,ac,bc))
def lo3 (a b:Array Keyed) (mg ac bc0:Nat) (out:Array Keyed) (ia ib:Nat):StateT SortSt Sem (ForInStep LoSt):=do
 let y <- elem' a ia
 let x <- gallop' true y b ib (b.size - ib) 0
 match x with
 | some k =>
  if k > 0 then
   if ib + k == b.size then pure (.done (some (loDone a b (out++b.extract ib (ib + k)) ia (ib + k)),out++b.extract ib (ib + k),ia,ib + k,mg,ac,k))
   else lo4 a b mg ac k (out++b.extract ib (ib + k)) ia (ib + k)
  else lo4 a b mg ac k out ia ib
 | _=>pure (.done (some (loDone a b out ia ib),out,ia,ib,mg,ac,bc0))
def lo2 (a b:Array Keyed) (mg ac bc0:Nat) (out:Array Keyed) (ia ib:Nat):StateT SortSt Sem (ForInStep LoSt):=do
 let y <- elem' b ib
 if ib + 1 == b.size then pure (.done (some (loDone a b (out.push y) ia (ib + 1)),out.push y,ia,ib + 1,mg,ac,bc0))
 else lo3 a b mg ac bc0 (out.push y) ia (ib + 1)
def lo1 (a b:Array Keyed) (mg ac0 bc0:Nat) (out:Array Keyed) (ia ib:Nat):StateT SortSt Sem (ForInStep LoSt):=do
 setMinGallop' mg
 let y <- elem' b ib
 let x <- gallop' false y a ia (a.size - ia) 0
 match x with
 | some k =>
  if k > 0 then
   if ia + k + 1 == a.size then pure (.done (some (loLast a b (out++a.extract ia (ia + k)) (ia + k) ib),out++a.extract ia (ia + k),ia + k,ib,mg,k,bc0))
   else if ia + k == a.size then pure (.done (some (loDone a b (out++a.extract ia (ia + k)) (ia + k) ib),out++a.extract ia (ia + k),ia + k,ib,mg,k,bc0))
   else lo2 a b mg k bc0 (out++a.extract ia (ia + k)) (ia + k) ib
  else lo2 a b mg k bc0 out ia ib
 | _=>pure (.done (some (loDone a b out ia ib),out,ia,ib,mg,ac0,bc0))
def loF (a b:Array Keyed):Nat->LoSt->StateT SortSt Sem (ForInStep LoSt):=fun _ c=>if c.2.2.2.2.1 > 1 then lo1 a b (c.2.2.2.2.1 - 1) c.2.2.2.2.2.1 c.2.2.2.2.2.2 c.2.1 c.2.2.1 c.2.2.2.1 else lo1 a b c.2.2.2.2.1 c.2.2.2.2.2.1 c.2.2.2.2.2.2 c.2.1 c.2.2.1 c.2.2.2.1
abbrev LoS1:=Option (Array Keyed)×Array Keyed×Nat×Nat×Nat×Nat
def loG (a b:Array Keyed) (mg:Nat):Nat->LoS1->StateT SortSt Sem (ForInStep LoS1):=fun _ c=>do
 let x <- elem' b c.2.2.2.1
 let y <- elem' a c.2.2.1
 let z <- lt' x y
 match z with
 | some bWins =>
  if bWins=true then do
   let x <- elem' b c.2.2.2.1
   if c.2.2.2.1 + 1 == b.size then pure (.done (some (loDone a b (c.2.1.push x) c.2.2.1 (c.2.2.2.1 + 1)),c.2.1.push x,c.2.2.1,c.2.2.2.1 + 1,0,c.2.2.2.2.2 + 1))
   else if c.2.2.2.2.2 + 1≥mg then pure (.done (none,c.2.1.push x,c.2.2.1,c.2.2.2.1 + 1,0,c.2.2.2.2.2 + 1)) else pure (.yield (none,c.2.1.push x,c.2.2.1,c.2.2.2.1 + 1,0,c.2.2.2.2.2 + 1))
  else do
   let y <- elem' a c.2.2.1
   if c.2.2.1 + 1 + 1 == a.size then pure (.done (some (loLast a b (c.2.1.push y) (c.2.2.1 + 1) c.2.2.2.1),c.2.1.push y,c.2.2.1 + 1,c.2.2.2.1,c.2.2.2.2.1 + 1,0))
   else if c.2.2.2.2.1 + 1≥mg then pure (.done (none,c.2.1.push y,c.2.2.1 + 1,c.2.2.2.1,c.2.2.2.2.1 + 1,0)) else pure (.yield (none,c.2.1.push y,c.2.2.1 + 1,c.2.2.2.1,c.2.2.2.2.1 + 1,0))
 | _=>pure (.done (some (loDone a b c.2.1 c.2.2.1 c.2.2.2.1),c.2.1,c.2.2.1,c.2.2.2.1,c.2.2.2.2.1,c.2.2.2.2.2))
abbrev LoS0:=Option (Array Keyed)×Array Keyed×Nat×Nat×Nat
def loH (a b:Array Keyed):Nat->LoS0->StateT SortSt Sem (ForInStep LoS0):=fun _ c=>do
 let d <- forIn [0:a.size + b.size] ((none,c.2.1,c.2.2.1,c.2.2.2.1,0,0):LoS1) (loG a b c.2.2.2.2)
 match d.1 with
 | some r=>pure (.done (some r,d.2.1,d.2.2.1,d.2.2.2.1,c.2.2.2.2))
 | none=>do
  liftM (rule "list.sort.gallop")
  let e <- forIn [0:a.size + b.size] ((none,d.2.1,d.2.2.1,d.2.2.2.1,c.2.2.2.2 + 1,d.2.2.2.2.1,d.2.2.2.2.2):LoSt) (loF a b)
  match e.1 with
  | some r=>pure (.done (some r,e.2.1,e.2.2.1,e.2.2.2.1,e.2.2.2.2.1))
  | none=>do
   setMinGallop' (e.2.2.2.2.1 + 1)
   pure (.yield (none,e.2.1,e.2.2.1,e.2.2.2.1,e.2.2.2.2.1 + 1))
def mergeLo'_pcs (a b:Array Keyed):mergeLo' a b=(do
 liftM (rule "list.sort.merge-lo")
 let x <- elem' b 0
 if 1 == b.size then pure (loDone a b #[x] 0 1)
 else if 0 + 1 == a.size then pure (loLast a b #[x] 0 1)
 else do
  let st <- get
  let c <- forIn [0:a.size + b.size] ((none,#[x],0,1,gallopOf st):LoS0) (loH a b)
  match c.1 with
  | some r=>pure r
  | none=>liftM (unsupported "internal:list.sort.merge-bound")):=by
 rw [mergeLo'_eq]
 refine congrArg (bind _) (funext fun _=>?_)
 refine congrArg (bind _) (funext fun x=>?_)
 dsimp only
 by_cases h1:(1 == b.size)=true
 ·rw [if_pos h1,if_pos h1]
 rw [if_neg h1,if_neg h1]
 by_cases h2:(0 + 1 == a.size)=true
 ·rw [if_pos h2,if_pos h2]
 rw [if_neg h2,if_neg h2]
 refine congrArg (bind _) (funext fun st=>?_)
 refine congr (congrArg bind ?_) (funext fun c=>?_)
 ·refine congrArg (forIn _ _) (funext fun i=>funext fun c=>?_)
  unfold loH
  refine congr (congrArg bind ?_) (funext fun d=>?_)
  ·refine congrArg (forIn _ _) (funext fun i=>funext fun c=>?_)
   unfold loG
   refine congrArg (bind _) (funext fun x=>congrArg (bind _) (funext fun y=>congrArg (bind _) (funext fun z=>?_)))
   cases z <;> rfl
  ·obtain ⟨r,d⟩:=d
   cases r with
   | some r=>rfl
   | none =>
    refine congrArg (bind _) (funext fun _=>?_)
    refine congr (congrArg bind ?_) (funext fun e=>?_)
    ·refine congrArg (forIn _ _) (funext fun i=>funext fun c=>?_)
     unfold loF lo1 lo2 lo3 lo4
     refine ite_congr rfl (fun _=>?_) (fun _=>?_)
     all_goals
      refine congrArg (bind _) (funext fun _=>congrArg (bind _) (funext fun y=>congrArg (bind _) (funext fun z=>?_)))
      cases z with
      | none=>rfl
      | some k =>
       refine ite_congr rfl (fun _=>ite_congr rfl (fun _=>rfl) (fun _=>ite_congr rfl (fun _=>rfl) (fun _=>?_))) (fun _=>?_)
       all_goals
        refine congrArg (bind _) (funext fun y=>?_)
        refine ite_congr rfl (fun _=>rfl) (fun _=>?_)
        refine congrArg (bind _) (funext fun y=>congrArg (bind _) (funext fun z=>?_))
        cases z with
        | none=>rfl
        | some k=>rfl
    ·obtain ⟨r,e⟩:=e
     cases r <;> rfl
 ·obtain ⟨r,c⟩:=c
  cases r <;> rfl
section
variable {R:Keyed->Int} {la lb:List Keyed}
abbrev Up (R:Keyed->Int) (l:List Keyed):Prop:=l.Pairwise fun x y=>R x < R y
structure MI (R:Keyed->Int) (la lb:List Keyed) (ia ib:Nat) (out:List Keyed):Prop where
 al:ia<=la.length
 bl:ib<=lb.length
 pm:out.Perm (la.take ia++lb.take ib)
 pa:Up R (out++la.drop ia)
 pb:Up R (out++lb.drop ib)
def MRes (R:Keyed->Int) (la lb r:List Keyed):Prop:=r.Perm (la++lb)/\Up R r
def up_app {l m:List Keyed}:Up R (l++m)↔Up R l/\Up R m/\∀ x∈l,∀ y∈m,R x < R y:=List.pairwise_append
def MI.a {ia ib k:Nat} {out:List Keyed} (h:MI R la lb ia ib out) (hk:ia + k<=la.length) (hx:∀ x∈(la.drop ia).take k,∀ y∈lb.drop ib,R x < R y):MI R la lb (ia + k) ib (out++(la.drop ia).take k):=by
 have e:(la.drop ia).take k++la.drop (ia + k)=la.drop ia:=by rw [<- List.drop_drop,List.take_append_drop]
 obtain ⟨p1,p2,p3⟩:=up_app.mp h.pa
 obtain ⟨q1,q2,q3⟩:=up_app.mp h.pb
 refine ⟨hk,h.bl,?_,by rw [List.append_assoc,e]; exact h.pa,?_⟩
 ·rw [List.take_add]
  refine (h.pm.append_right _).trans ?_
  rw [List.append_assoc,List.append_assoc]
  exact List.Perm.append_left _ List.perm_append_comm
 ·refine up_app.mpr ⟨up_app.mpr ⟨p1,p2.sublist (List.take_sublist _ _),fun x hx y hy=>p3 x hx y (List.mem_of_mem_take hy)⟩,q2,fun x hx' y hy=>?_⟩
  rcases List.mem_append.mp hx' with z | z
  ·exact q3 x z y hy
  ·exact hx x z y hy
def MI.b {ia ib k:Nat} {out:List Keyed} (h:MI R la lb ia ib out) (hk:ib + k<=lb.length) (hx:∀ y∈(lb.drop ib).take k,∀ x∈la.drop ia,R y < R x):MI R la lb ia (ib + k) (out++(lb.drop ib).take k):=by
 have e:(lb.drop ib).take k++lb.drop (ib + k)=lb.drop ib:=by rw [<- List.drop_drop,List.take_append_drop]
 obtain ⟨p1,p2,p3⟩:=up_app.mp h.pa
 obtain ⟨q1,q2,q3⟩:=up_app.mp h.pb
 refine ⟨h.al,hk,?_,?_,by rw [List.append_assoc,e]; exact h.pb⟩
 ·rw [List.take_add]
  refine (h.pm.append_right _).trans ?_
  rw [List.append_assoc]
 ·refine up_app.mpr ⟨up_app.mpr ⟨p1,q2.sublist (List.take_sublist _ _),fun x hx y hy=>q3 x hx y (List.mem_of_mem_take hy)⟩,p2,fun x hx' y hy=>?_⟩
  rcases List.mem_append.mp hx' with z | z
  ·exact p3 x z y hy
  ·exact hx x z y hy
def MI.doneB {ia ib:Nat} {out:List Keyed} (h:MI R la lb ia ib out) (e:ib=lb.length):MRes R la lb (out++la.drop ia++lb.drop ib):=by
 subst e
 rw [List.drop_length,List.append_nil]
 refine ⟨(h.pm.append_right _).trans ?_,h.pa⟩
 rw [List.take_length,List.append_assoc]
 refine (List.Perm.append_left _ List.perm_append_comm).trans ?_
 rw [<- List.append_assoc,List.take_append_drop]
def MI.doneA {ia ib:Nat} {out:List Keyed} (h:MI R la lb ia ib out) (e:ia=la.length):MRes R la lb (out++la.drop ia++lb.drop ib):=by
 subst e
 rw [List.drop_length,List.append_nil]
 refine ⟨(h.pm.append_right _).trans ?_,h.pb⟩
 rw [List.take_length,List.append_assoc,List.take_append_drop]
def MI.last {ia ib:Nat} {out:List Keyed} (h:MI R la lb ia ib out) (hl:∀ x∈la.drop ia,∀ y∈lb.drop ib,R y < R x):MRes R la lb (out++lb.drop ib++la.drop ia):=by
 obtain ⟨p1,p2,p3⟩:=up_app.mp h.pa
 refine ⟨?_,up_app.mpr ⟨h.pb,p2,fun x hx y hy=>?_⟩⟩
 ·refine ((h.pm.append_right _).append_right _).trans ?_
  rw [List.append_assoc (la.take ia),List.take_append_drop,List.append_assoc]
  refine (List.Perm.append_left _ List.perm_append_comm).trans ?_
  rw [<- List.append_assoc,List.take_append_drop]
 ·rcases List.mem_append.mp hx with z | z
  ·exact p3 x z y hy
  ·exact hl y hy x z
def one_take {l:List Keyed} {i:Nat} {x:Keyed} (h:l[i]?=some x):(l.drop i).take 1=[x]:=by
 obtain ⟨hi,e⟩:=List.getElem?_eq_some_iff.mp h
 rw [List.drop_eq_getElem_cons hi,e]
 rfl
def up_head {l:List Keyed} {i:Nat} {x:Keyed} (u:Up R l) (h:l[i]?=some x):∀ y∈l.drop i,R x<=R y:=fun y hy=>by
 obtain ⟨hi,e⟩:=List.getElem?_eq_some_iff.mp h
 have u2:=u.sublist (List.drop_sublist i l)
 rw [List.drop_eq_getElem_cons hi] at u2 hy
 rcases List.mem_cons.mp hy with z | z
 ·rw [z,e]; exact Int.le_refl _
 ·rw [e] at u2
  exact Int.le_of_lt ((List.pairwise_cons.mp u2).1 y z)
end
section
variable {S:Keyed->Prop} {R:Keyed->Int} {a b:Array Keyed}
def Keep (st st':SortSt):Prop:=kindOf st'=kindOf st/\arrOf st'=arrOf st/\pendingOf st'=pendingOf st/\failedOf st'=failedOf st
def Keep.refl (st:SortSt):Keep st st:=⟨rfl,rfl,rfl,rfl⟩
def Keep.trans {x y z:SortSt} (h:Keep x y) (k:Keep y z):Keep x z:=⟨k.1.trans h.1,k.2.1.trans h.2.1,k.2.2.1.trans h.2.2.1,k.2.2.2.trans h.2.2.2⟩
def Keep.gal (st:SortSt) (g:Nat):Keep st (setGallop st g):=⟨rfl,rfl,rfl,rfl⟩
structure Lo (S:Keyed->Prop) (R:Keyed->Int) (a b:Array Keyed):Prop where
 sa:∀ x∈a.toList,S x
 sb:∀ x∈b.toList,S x
 ua:Up R a.toList
 ub:Up R b.toList
 dj:∀ x∈a.toList,∀ y∈b.toList,R x≠R y
 ends:∀ x,a.toList[a.size - 1]?=some x->∀ y∈b.toList,R y < R x
def GoodL (R:Keyed->Int) (a b:Array Keyed) (base:Nat) (r:Option (Array Keyed)) (out:Array Keyed) (ia ib:Nat):Prop:=(∃ z,r=some z/\MRes R a.toList b.toList z.toList)\/(r=none/\MI R a.toList b.toList ia ib out.toList/\ia + 1 < a.size/\ib < b.size/\base<=ia + ib)
def ext_to (xs:Array Keyed) (i:Nat):(xs.extract i xs.size).toList=xs.toList.drop i:=by
 rw [Array.toList_extract]
 show ((xs.toList.drop i).take (xs.size - i))=_
 exact List.take_of_length_le (by rw [List.length_drop,Array.length_toList]; exact Nat.le_refl _)
def ext_k (xs:Array Keyed) (i k:Nat):(xs.extract i (i + k)).toList=(xs.toList.drop i).take k:=by
 rw [Array.toList_extract]
 show ((xs.toList.drop i).take (i + k - i))=_
 rw [Nat.add_sub_cancel_left]
theorem lo_last {ia ib:Nat} {out:Array Keyed} (L:Lo S R a b) (h:MI R a.toList b.toList ia ib out.toList) (e:ia + 1=a.size):MRes R a.toList b.toList (loLast a b out ia ib).toList:=by
 unfold loLast
 rw [Array.toList_append,Array.toList_append,ext_to,ext_to]
 refine h.last fun x hx y hy=>?_
 have hl:ia < a.toList.length:=by rw [Array.length_toList]; omega
 rw [List.drop_eq_getElem_cons hl,List.drop_of_length_le (by rw [Array.length_toList]; omega)] at hx
 rw [List.mem_singleton.mp hx]
 refine L.ends _ ?_ y (List.mem_of_mem_drop hy)
 rw [show a.size - 1=ia by omega]
 exact List.getElem?_eq_getElem hl
def lo_doneB {ia ib:Nat} {out:Array Keyed} (h:MI R a.toList b.toList ia ib out.toList) (e:ib=b.size):MRes R a.toList b.toList (loDone a b out ia ib).toList:=by
 unfold loDone
 rw [Array.toList_append,Array.toList_append,ext_to,ext_to]
 exact h.doneB (by rw [Array.length_toList]; exact e)
def lo_doneA {ia ib:Nat} {out:Array Keyed} (h:MI R a.toList b.toList ia ib out.toList) (e:ia=a.size):MRes R a.toList b.toList (loDone a b out ia ib).toList:=by
 unfold loDone
 rw [Array.toList_append,Array.toList_append,ext_to,ext_to]
 exact h.doneA (by rw [Array.length_toList]; exact e)
theorem MI.pushA {ia ib:Nat} {out:Array Keyed} {x:Keyed} (h:MI R a.toList b.toList ia ib out.toList) (hx:a[ia]?=some x) (hl:∀ y∈b.toList.drop ib,R x < R y):MI R a.toList b.toList (ia + 1) ib (out.push x).toList:=by
 have hx':a.toList[ia]?=some x:=by rw [Array.getElem?_toList]; exact hx
 have:=h.a (k:=1) (by have:=(List.getElem?_eq_some_iff.mp hx').1; omega) (by rw [one_take hx']; intro z hz; rw [List.mem_singleton.mp hz]; exact hl)
 rw [one_take hx'] at this
 rw [Array.toList_push]
 exact this
theorem MI.pushB {ia ib:Nat} {out:Array Keyed} {x:Keyed} (h:MI R a.toList b.toList ia ib out.toList) (hx:b[ib]?=some x) (hl:∀ y∈a.toList.drop ia,R x < R y):MI R a.toList b.toList ia (ib + 1) (out.push x).toList:=by
 have hx':b.toList[ib]?=some x:=by rw [Array.getElem?_toList]; exact hx
 have:=h.b (k:=1) (by have:=(List.getElem?_eq_some_iff.mp hx').1; omega) (by rw [one_take hx']; intro z hz; rw [List.mem_singleton.mp hz]; exact hl)
 rw [one_take hx'] at this
 rw [Array.toList_push]
 exact this
end
section
variable {M:Model} {A:Around} {E:Value->Shared->Prop} {s:Shared} {κ:SortKind} {S:Keyed->Prop} {R:Keyed->Int} {a b:Array Keyed}
def up_at {xs:Array Keyed} (u:Up R xs.toList) {i j:Nat} {x y:Keyed} (hij:i < j) (hx:xs[i]?=some x) (hy:xs[j]?=some y):R x < R y:=by
 rw [<- Array.getElem?_toList] at hx hy
 obtain ⟨h1,e1⟩:=List.getElem?_eq_some_iff.mp hx
 obtain ⟨h2,e2⟩:=List.getElem?_eq_some_iff.mp hy
 have:=(List.pairwise_iff_getElem.mp u) i j h1 h2 hij
 rwa [e1,e2] at this
theorem gal_all (HL:LtS M A E s κ S R) {left:Bool} {key:Keyed} {xs:Array Keyed} {base hint:Nat} {st:SortSt} {Q:Option Nat->SortSt->Prop} (hk:S key) (hst:kindOf st=κ) (sS:∀ x∈xs.toList,S x) (u:Up R xs.toList) (dj:∀ x∈xs.toList,R x≠R key) (hh:hint < xs.size - base)
  (h:∀ k,base + k<=xs.size->(∀ x∈(xs.toList.drop base).take k,R x < R key)->(∀ x∈xs.toList.drop (base + k),R key < R x)->Q (some k) st):wpS M A E s (gallop' left key xs base (xs.size - base) hint) Q st:=by
 refine wpS_gallop HL hk hst hh (fun i hi=>?_) (fun i j x y hij hj hx hy=>up_at u (by omega) hx hy) fun k hkn h1 h2=>h k (by omega) (fun x hx=>?_) fun x hx=>?_
 ·have hl:base + i < xs.size:=by omega
  refine ⟨xs[base + i],Array.getElem?_eq_getElem hl,sS _ ?_,dj _ ?_⟩ <;> simp
 ·obtain ⟨i,hi,e⟩:=List.getElem_of_mem hx
  rw [List.length_take,List.length_drop,Array.length_toList] at hi
  refine h1 i x (by omega) ?_
  rw [List.getElem_take,List.getElem_drop] at e
  rw [<- Array.getElem?_toList,List.getElem?_eq_getElem (by rw [Array.length_toList]; omega),e]
 ·obtain ⟨i,hi,e⟩:=List.getElem_of_mem hx
  rw [List.length_drop,Array.length_toList] at hi
  rw [List.getElem_drop] at e
  refine h2 (k + i) x (by omega) (by omega) ?_
  rw [<- Array.getElem?_toList,List.getElem?_eq_getElem (by rw [Array.length_toList]; omega)]
  rw [<- e]
  congr 2
  omega
def get_in {xs:Array Keyed} {i:Nat} (h:i < xs.size):∃ x,xs[i]?=some x/\x∈xs.toList:=⟨xs[i],Array.getElem?_eq_getElem h,by simp⟩
theorem wpS_lo4 (L:Lo S R a b) {mg ac bc base ia ib:Nat} {out:Array Keyed} {st:SortSt} {Q:ForInStep LoSt->SortSt->Prop} {y:Keyed} (h:MI R a.toList b.toList ia ib out.toList) (ha:ia + 1 < a.size) (hb:ib < b.size) (hbase:base<=ia + ib) (hy:a[ia]?=some y) (lt:∀ x∈b.toList.drop ib,R y < R x)
  (q:∀ r o i j mg' ac' bc',GoodL R a b base r o i j->Q (.done (r,o,i,j,mg',ac',bc')) st/\(r=none->Q (.yield (r,o,i,j,mg',ac',bc')) st)):wpS M A E s (lo4 a b mg ac bc out ia ib) Q st:=by
 unfold lo4
 refine wpS_bind (wpS_elem hy ?_)
 have h2:=h.pushA hy lt
 by_cases e:(ia + 1 + 1 == a.size)=true
 ·rw [if_pos e]
  exact wpS_pure (q _ _ _ _ _ _ _ (.inl ⟨_,rfl,lo_last L h2 (by simpa using e)⟩)).1
 ·rw [if_neg e]
  have g:GoodL R a b base none (out.push y) (ia + 1) ib:=.inr ⟨rfl,h2,by have:¬ ia + 1 + 1=a.size:=(by simpa using e); omega,hb,by omega⟩
  split
  ·exact wpS_pure (q _ _ _ _ _ _ _ g).1
  ·exact wpS_pure ((q _ _ _ _ _ _ _ g).2 rfl)
theorem wpS_lo3 (HL:LtS M A E s κ S R) (L:Lo S R a b) {mg ac bc base ia ib:Nat} {out:Array Keyed} {st:SortSt} {Q:ForInStep LoSt->SortSt->Prop} (hst:kindOf st=κ) (h:MI R a.toList b.toList ia ib out.toList) (ha:ia + 1 < a.size) (hb:ib < b.size) (hbase:base<=ia + ib)
  (q:∀ r o i j mg' ac' bc',GoodL R a b base r o i j->Q (.done (r,o,i,j,mg',ac',bc')) st/\(r=none->Q (.yield (r,o,i,j,mg',ac',bc')) st)):wpS M A E s (lo3 a b mg ac bc out ia ib) Q st:=by
 unfold lo3
 obtain ⟨y,hy,my⟩:=get_in (xs:=a) (i:=ia) (by omega)
 refine wpS_bind (wpS_elem hy (wpS_bind (gal_all HL (L.sa _ my) hst L.sb L.ub (fun x hx e=>L.dj y my x hx e.symm) (by omega) fun k hk h1 h2=>?_)))
 dsimp only
 by_cases k0:k > 0
 ·rw [if_pos k0]
  have h3:=h.b (k:=k) (by rw [Array.length_toList]; exact hk) fun x hx z hz=>by
   have l1:=h1 x hx
   have l2:=up_head L.ua (by rw [Array.getElem?_toList]; exact hy) z hz
   omega
  rw [<- ext_k,<- Array.toList_append] at h3
  by_cases e:(ib + k == b.size)=true
  ·rw [if_pos e]
   exact wpS_pure (q _ _ _ _ _ _ _ (.inl ⟨_,rfl,lo_doneB h3 (by simpa using e)⟩)).1
  ·rw [if_neg e]
   exact wpS_lo4 L h3 ha (by have:¬ ib + k=b.size:=(by simpa using e); omega) (by omega) hy h2 q
 ·rw [if_neg k0]
  have:k=0:=by omega
  subst this
  exact wpS_lo4 L h ha hb hbase hy h2 q
theorem wpS_lo2 (HL:LtS M A E s κ S R) (L:Lo S R a b) {mg ac bc base ia ib:Nat} {out:Array Keyed} {st:SortSt} {Q:ForInStep LoSt->SortSt->Prop} {y:Keyed} (hst:kindOf st=κ) (h:MI R a.toList b.toList ia ib out.toList) (ha:ia + 1 < a.size) (hb:ib < b.size) (hbase:base<=ia + ib) (hy:b[ib]?=some y) (lt:∀ x∈a.toList.drop ia,R y < R x)
  (q:∀ r o i j mg' ac' bc',GoodL R a b base r o i j->Q (.done (r,o,i,j,mg',ac',bc')) st/\(r=none->Q (.yield (r,o,i,j,mg',ac',bc')) st)):wpS M A E s (lo2 a b mg ac bc out ia ib) Q st:=by
 unfold lo2
 refine wpS_bind (wpS_elem hy ?_)
 have h2:=h.pushB hy lt
 by_cases e:(ib + 1 == b.size)=true
 ·rw [if_pos e]
  exact wpS_pure (q _ _ _ _ _ _ _ (.inl ⟨_,rfl,lo_doneB h2 (by simpa using e)⟩)).1
 ·rw [if_neg e]
  exact wpS_lo3 HL L hst h2 ha (by have:¬ ib + 1=b.size:=(by simpa using e); omega) (by omega) q
theorem wpS_lo1 (HL:LtS M A E s κ S R) (L:Lo S R a b) {mg ac bc base ia ib:Nat} {out:Array Keyed} {st:SortSt} {Q:ForInStep LoSt->SortSt->Prop} (hst:kindOf st=κ) (h:MI R a.toList b.toList ia ib out.toList) (ha:ia + 1 < a.size) (hb:ib < b.size) (hbase:base<=ia + ib)
  (q:∀ r o i j mg' ac' bc' st',Keep st st'->GoodL R a b base r o i j->Q (.done (r,o,i,j,mg',ac',bc')) st'/\(r=none->Q (.yield (r,o,i,j,mg',ac',bc')) st')):wpS M A E s (lo1 a b mg ac bc out ia ib) Q st:=by
 unfold lo1
 rw [setMinGallop'_eq]
 refine wpS_bind (wpS_modify ?_)
 have q':=fun r o i j mg' ac' bc'=>q r o i j mg' ac' bc' (setGallop st mg) (Keep.gal st mg)
 obtain ⟨y,hy,my⟩:=get_in (xs:=b) (i:=ib) hb
 refine wpS_bind (wpS_elem hy (wpS_bind (gal_all HL (L.sb _ my) hst L.sa L.ua (fun x hx=>L.dj x hx y my) (by omega) fun k hk h1 h2=>?_)))
 dsimp only
 by_cases k0:k > 0
 ·rw [if_pos k0]
  have h3:=h.a (k:=k) (by rw [Array.length_toList]; exact hk) fun x hx z hz=>by
   have l1:=h1 x hx
   have l2:=up_head L.ub (by rw [Array.getElem?_toList]; exact hy) z hz
   omega
  rw [<- ext_k,<- Array.toList_append] at h3
  by_cases e:(ia + k + 1 == a.size)=true
  ·rw [if_pos e]
   exact wpS_pure (q' _ _ _ _ _ _ _ (.inl ⟨_,rfl,lo_last L h3 (by simpa using e)⟩)).1
  ·rw [if_neg e]
   by_cases e2:(ia + k == a.size)=true
   ·rw [if_pos e2]
    exact wpS_pure (q' _ _ _ _ _ _ _ (.inl ⟨_,rfl,lo_doneA h3 (by simpa using e2)⟩)).1
   ·rw [if_neg e2]
    refine wpS_lo2 HL L hst h3 ?_ hb (by omega) hy h2 q'
    have:¬ ia + k + 1=a.size:=by simpa using e
    have:¬ ia + k=a.size:=by simpa using e2
    omega
 ·rw [if_neg k0]
  have:k=0:=by omega
  subst this
  exact wpS_lo2 HL L hst h ha hb hbase hy h2 q'
def wpS_loF (HL:LtS M A E s κ S R) (L:Lo S R a b) {mg ac bc base ia ib:Nat} {out:Array Keyed} {st:SortSt} {Q:LoSt->SortSt->Prop} (hst:kindOf st=κ) (h:MI R a.toList b.toList ia ib out.toList) (ha:ia + 1 < a.size) (hb:ib < b.size) (hbase:base<=ia + ib)
  (q:∀ r o i j mg' ac' bc' st',Keep st st'->GoodL R a b base r o i j->Q (r,o,i,j,mg',ac',bc') st'):wpS M A E s (forIn [0:a.size + b.size] ((none,out,ia,ib,mg,ac,bc):LoSt) (loF a b)) Q st:=by
 refine wpS_forRange (I:=fun _ c st'=>Keep st st'/\c.1=none/\GoodL R a b base c.1 c.2.1 c.2.2.1 c.2.2.2.1) ?_ ?_ ⟨.refl _,rfl,.inr ⟨rfl,h,ha,hb,hbase⟩⟩
 ·rintro i ⟨r,o,i',j',mg',ac',bc'⟩ st' _ _ ⟨kp,er,g⟩
  have er:r=none:=er
  subst er
  rcases g with ⟨z,ez,_⟩ | ⟨_,g1,g2,g3,g4⟩
  ·cases ez
  ·unfold loF
   dsimp only
   split
   ·exact wpS_lo1 HL L (kp.1.trans hst) g1 g2 g3 g4 fun r o i j mg' ac' bc' st'' k2 gg=>⟨q _ _ _ _ _ _ _ _ (kp.trans k2) gg,fun e=>⟨kp.trans k2,e,gg⟩⟩
   ·exact wpS_lo1 HL L (kp.1.trans hst) g1 g2 g3 g4 fun r o i j mg' ac' bc' st'' k2 gg=>⟨q _ _ _ _ _ _ _ _ (kp.trans k2) gg,fun e=>⟨kp.trans k2,e,gg⟩⟩
 ·rintro ⟨r,o,i',j',mg',ac',bc'⟩ st' ⟨kp,er,g⟩
  exact q _ _ _ _ _ _ _ _ kp g
theorem wpS_loG (HL:LtS M A E s κ S R) (L:Lo S R a b) {mg ac bc base ia ib:Nat} {out:Array Keyed} {st:SortSt} {Q:LoS1->SortSt->Prop} (hst:kindOf st=κ) (h:MI R a.toList b.toList ia ib out.toList) (ha:ia + 1 < a.size) (hb:ib < b.size) (hbase:base<=ia + ib)
  (q:∀ r o i j ac' bc',GoodL R a b (base + 1) r o i j->Q (r,o,i,j,ac',bc') st):wpS M A E s (forIn [0:a.size + b.size] ((none,out,ia,ib,ac,bc):LoS1) (loG a b mg)) Q st:=by
 refine wpS_forRange (I:=fun x c st'=>st'=st/\c.1=none/\GoodL R a b (base + min x 1) c.1 c.2.1 c.2.2.1 c.2.2.2.1) ?_ ?_ ⟨rfl,rfl,.inr ⟨rfl,h,ha,hb,hbase⟩⟩
 ·rintro x ⟨r,o,i,j,ac',bc'⟩ st' _ _ ⟨rfl,er,g⟩
  have er:r=none:=er
  subst er
  rcases g with ⟨z,ez,_⟩ | ⟨_,g1,g2,g3,g4⟩
  ·cases ez
  ·have g4:base + min x 1<=i + j:=g4
   have g1:MI R a.toList b.toList i j o.toList:=g1
   have g2:i + 1 < a.size:=g2
   have g3:j < b.size:=g3
   obtain ⟨p,hp,mp⟩:=get_in (xs:=b) (i:=j) g3
   obtain ⟨y,hy,my⟩:=get_in (xs:=a) (i:=i) (by omega)
   have pa:=up_head L.ua (i:=i) (by rw [Array.getElem?_toList]; exact hy)
   have pb:=up_head L.ub (i:=j) (by rw [Array.getElem?_toList]; exact hp)
   have nd:=L.dj y my p mp
   unfold loG
   refine wpS_bind (wpS_elem hp (wpS_bind (wpS_elem hy (wpS_bind (HL _ _ _ _ (L.sb _ mp) (L.sa _ my) hst ?_)))))
   dsimp only
   by_cases lt:R p < R y
   ·rw [decide_eq_true lt,if_pos rfl]
    refine wpS_bind (wpS_elem hp ?_)
    have h2:=g1.pushB hp fun z hz=>by have:=pa z hz; omega
    by_cases e:(j + 1 == b.size)=true
    ·rw [if_pos e]
     exact wpS_pure (q _ _ _ _ _ _ (.inl ⟨_,rfl,lo_doneB h2 (by simpa using e)⟩))
    ·rw [if_neg e]
     have:¬ j + 1=b.size:=by simpa using e
     split
     ·exact wpS_pure (q _ _ _ _ _ _ (.inr ⟨rfl,h2,g2,by omega,by omega⟩))
     ·exact wpS_pure ⟨rfl,rfl,.inr ⟨rfl,h2,g2,by show j + 1 < b.size; omega,by show base + min (x + 1) 1<=i + (j + 1); omega⟩⟩
   ·rw [decide_eq_false lt,if_neg (by decide)]
    refine wpS_bind (wpS_elem hy ?_)
    have h2:=g1.pushA hy fun z hz=>by have:=pb z hz; omega
    by_cases e:(i + 1 + 1 == a.size)=true
    ·rw [if_pos e]
     exact wpS_pure (q _ _ _ _ _ _ (.inl ⟨_,rfl,lo_last L h2 (by simpa using e)⟩))
    ·rw [if_neg e]
     have:¬ i + 1 + 1=a.size:=by simpa using e
     split
     ·exact wpS_pure (q _ _ _ _ _ _ (.inr ⟨rfl,h2,by omega,g3,by omega⟩))
     ·exact wpS_pure ⟨rfl,rfl,.inr ⟨rfl,h2,by show i + 1 + 1 < a.size; omega,g3,by show base + min (x + 1) 1<=i + 1 + j; omega⟩⟩
 ·rintro ⟨r,o,i,j,ac',bc'⟩ st' ⟨rfl,er,g⟩
  refine q _ _ _ _ _ _ ?_
  rcases g with g | ⟨g0,g1,g2,g3,g4⟩
  ·exact .inl g
  ·exact .inr ⟨g0,g1,g2,g3,by
    have g4:base + min (max 0 (a.size + b.size)) 1<=i + j:=g4
    omega⟩
theorem wpS_mergeLo (HL:LtS M A E s κ S R) (L:Lo S R a b) {st:SortSt} {Q:Array Keyed->SortSt->Prop} (hst:kindOf st=κ) (hb:0 < b.size) (ha:0 < a.size) (h0:∀ p,b[0]?=some p->∀ x∈a.toList,R p < R x) (q:∀ r st',Keep st st'->MRes R a.toList b.toList r.toList->Q r st'):wpS M A E s (mergeLo' a b) Q st:=by
 rw [mergeLo'_pcs]
 refine wpS_bind (wpS_lift (wpAny_rule ⟨rfl,?_⟩))
 obtain ⟨p,hp,mp⟩:=get_in (xs:=b) (i:=0) hb
 refine wpS_bind (wpS_elem hp ?_)
 have h1:MI R a.toList b.toList 0 1 #[p].toList:=by
  have hp':b.toList[0]?=some p:=by rw [Array.getElem?_toList]; exact hp
  have base:MI R a.toList b.toList 0 0 (#[]:Array Keyed).toList:=⟨Nat.zero_le _,Nat.zero_le _,.refl _,by simpa using L.ua,by simpa using L.ub⟩
  exact base.pushB hp (h0 p hp)
 by_cases e:(1 == b.size)=true
 ·rw [if_pos e]
  exact wpS_pure (q _ _ (.refl _) (lo_doneB h1 (by simpa using e)))
 rw [if_neg e]
 by_cases e2:(0 + 1 == a.size)=true
 ·rw [if_pos e2]
  exact wpS_pure (q _ _ (.refl _) (lo_last L h1 (by simpa using e2)))
 rw [if_neg e2]
 have n1:¬ 1=b.size:=by simpa using e
 have n2:¬ 0 + 1=a.size:=by simpa using e2
 refine wpS_bind (wpS_get ?_)
 refine wpS_bind (wpS_mono (wpS_forRange (I:=fun x c st'=>Keep st st'/\c.1=none/\GoodL R a b (x + 1) c.1 c.2.1 c.2.2.1 c.2.2.2.1) (Q:=fun c st'=>Keep st st'/\∃ r,c.1=some r/\MRes R a.toList b.toList r.toList) ?_ ?_ ⟨.refl _,rfl,.inr ⟨rfl,h1,by show 0 + 1 < a.size; omega,by show 1 < b.size; omega,Nat.le_refl _⟩⟩) ?_)
 ·rintro x ⟨r,o,i,j,mg⟩ st' _ _ ⟨kp,er,g⟩
  have er:r=none:=er
  subst er
  rcases g with ⟨z,ez,_⟩ | ⟨_,g1,g2,g3,g4⟩
  ·cases ez
  ·unfold loH
   refine wpS_bind (wpS_loG HL L (kp.1.trans hst) g1 g2 g3 g4 fun r o i j ac bc gg=>?_)
   rcases gg with ⟨z,rfl,hz⟩ | ⟨rfl,f1,f2,f3,f4⟩
   ·exact wpS_pure ⟨kp,z,rfl,hz⟩
   ·refine wpS_bind (wpS_lift (wpAny_rule ⟨rfl,?_⟩))
    refine wpS_bind (wpS_loF HL L (kp.1.trans hst) f1 f2 f3 f4 fun r o i j mg' ac bc st'' k2 gg=>?_)
    rcases gg with ⟨z,rfl,hz⟩ | ⟨rfl,d1,d2,d3,d4⟩
    ·exact wpS_pure ⟨kp.trans k2,z,rfl,hz⟩
    ·dsimp only
     rw [setMinGallop'_eq]
     exact wpS_bind (wpS_modify (wpS_pure ⟨(kp.trans k2).trans (Keep.gal _ _),rfl,.inr ⟨rfl,d1,d2,d3,d4⟩⟩))
 ·rintro ⟨r,o,i,j,mg⟩ st' ⟨kp,er,g⟩
  rcases g with ⟨z,ez,hz⟩ | ⟨_,g1,g2,g3,g4⟩
  ·exact ⟨kp,z,ez,hz⟩
  ·have g2:i + 1 < a.size:=g2
   have g3:j < b.size:=g3
   have g4:max 0 (a.size + b.size) + 1<=i + j:=g4
   omega
 ·rintro ⟨r,o,i,j,mg⟩ st' ⟨kp,z,ez,hz⟩
  have ez:r=some z:=ez
  subst ez
  exact wpS_pure (q _ _ kp hz)
end
def mergeHi':Array Keyed->Array Keyed->StateT SortSt Sem (Array Keyed):=sortPriv% PySem.Builtin.mergeHi
def mergeHi'_eq (a b:Array Keyed):mergeHi' a b=(do
 rule "list.sort.merge-hi"
 let total:=a.size + b.size
 let done (out:Array Keyed) (na nb:Nat):=a.extract 0 na++b.extract 0 nb++out.reverse
 let firstOfB (out:Array Keyed) (na nb:Nat):=b.extract 0 nb++a.extract 0 na++out.reverse
 let mut na:=a.size - 1
 let mut nb:=b.size
 let mut out:Array Keyed:=#[<- elem' a na]
 if na == 0 then return done out na nb
 if nb == 1 then return firstOfB out na nb
 let mut minGallop:=gallopOf (<- get)
 for _ in [0:total] do
  let mut acount:=0
  let mut bcount:=0
  for _ in [0:total] do
   let some aWins <- lt' (<- elem' b (nb - 1)) (<- elem' a (na - 1)) | return done out na nb
   if aWins then
    na:=na - 1; out:=out.push (<- elem' a na); acount:=acount + 1; bcount:=0
    if na == 0 then return done out na nb
    if acount≥minGallop then break
   else
    nb:=nb - 1; out:=out.push (<- elem' b nb); bcount:=bcount + 1; acount:=0
    if nb == 1 then return firstOfB out na nb
    if bcount≥minGallop then break
  rule "list.sort.gallop"
  minGallop:=minGallop + 1
  for _ in [0:total] do
   if minGallop > 1 then minGallop:=minGallop - 1
   setMinGallop' minGallop
   let some at_ <- gallop' false (<- elem' b (nb - 1)) a 0 na (na - 1) | return done out na nb
   let k:=na - at_
   acount:=k
   if k > 0 then
    out:=out++(a.extract at_ na).reverse; na:=at_
    if na == 0 then return done out na nb
   nb:=nb - 1; out:=out.push (<- elem' b nb)
   if nb == 1 then return firstOfB out na nb
   let some at_ <- gallop' true (<- elem' a (na - 1)) b 0 nb (nb - 1) | return done out na nb
   let k:=nb - at_
   bcount:=k
   if k > 0 then
    out:=out++(b.extract at_ nb).reverse; nb:=at_
    if nb == 1 then return firstOfB out na nb
    if nb == 0 then return done out na nb
   na:=na - 1; out:=out.push (<- elem' a na)
   if na == 0 then return done out na nb
   if acount < 7 && bcount < 7 then break
  minGallop:=minGallop + 1
  setMinGallop' minGallop
 unsupported "internal:list.sort.merge-bound"):=rfl
abbrev hiDone (a b out:Array Keyed) (na nb:Nat):Array Keyed:=a.extract 0 na++b.extract 0 nb++out.reverse
abbrev hiFirst (a b out:Array Keyed) (na nb:Nat):Array Keyed:=b.extract 0 nb++a.extract 0 na++out.reverse
abbrev HiSt:=Option (Array Keyed)×Nat×Nat×Array Keyed×Nat×Nat×Nat
def hi4 (a b:Array Keyed) (mg ac bc:Nat) (out:Array Keyed) (na nb:Nat):StateT SortSt Sem (ForInStep HiSt):=do
 let y <- elem' a (na - 1)
 if na - 1 == 0 then pure (.done (some (hiDone a b (out.push y) (na - 1) nb),na - 1,nb,out.push y,mg,ac,bc))
 else if decide (ac < 7) && decide (bc < 7) then pure (.done (none,na - 1,nb,out.push y,mg,ac,bc)) else pure (.yield (none,na - 1,nb,out.push y,mg,ac,bc))
def hi3 (a b:Array Keyed) (mg ac bc0:Nat) (out:Array Keyed) (na nb:Nat):StateT SortSt Sem (ForInStep HiSt):=do
 let y <- elem' a (na - 1)
 let x <- gallop' true y b 0 nb (nb - 1)
 match x with
 | some k =>
  if nb - k > 0 then
   if k == 1 then pure (.done (some (hiFirst a b (out++(b.extract k nb).reverse) na k),na,k,out++(b.extract k nb).reverse,mg,ac,nb - k))
   else if k == 0 then pure (.done (some (hiDone a b (out++(b.extract k nb).reverse) na k),na,k,out++(b.extract k nb).reverse,mg,ac,nb - k))
   else hi4 a b mg ac (nb - k) (out++(b.extract k nb).reverse) na k
  else hi4 a b mg ac (nb - k) out na nb
 | _=>pure (.done (some (hiDone a b out na nb),na,nb,out,mg,ac,bc0))
def hi2 (a b:Array Keyed) (mg ac bc0:Nat) (out:Array Keyed) (na nb:Nat):StateT SortSt Sem (ForInStep HiSt):=do
 let y <- elem' b (nb - 1)
 if nb - 1 == 1 then pure (.done (some (hiFirst a b (out.push y) na (nb - 1)),na,nb - 1,out.push y,mg,ac,bc0))
 else hi3 a b mg ac bc0 (out.push y) na (nb - 1)
def hi1 (a b:Array Keyed) (mg ac0 bc0:Nat) (out:Array Keyed) (na nb:Nat):StateT SortSt Sem (ForInStep HiSt):=do
 setMinGallop' mg
 let y <- elem' b (nb - 1)
 let x <- gallop' false y a 0 na (na - 1)
 match x with
 | some k =>
  if na - k > 0 then
   if k == 0 then pure (.done (some (hiDone a b (out++(a.extract k na).reverse) k nb),k,nb,out++(a.extract k na).reverse,mg,na - k,bc0))
   else hi2 a b mg (na - k) bc0 (out++(a.extract k na).reverse) k nb
  else hi2 a b mg (na - k) bc0 out na nb
 | _=>pure (.done (some (hiDone a b out na nb),na,nb,out,mg,ac0,bc0))
def hiF (a b:Array Keyed):Nat->HiSt->StateT SortSt Sem (ForInStep HiSt):=fun _ c=>if c.2.2.2.2.1 > 1 then hi1 a b (c.2.2.2.2.1 - 1) c.2.2.2.2.2.1 c.2.2.2.2.2.2 c.2.2.2.1 c.2.1 c.2.2.1 else hi1 a b c.2.2.2.2.1 c.2.2.2.2.2.1 c.2.2.2.2.2.2 c.2.2.2.1 c.2.1 c.2.2.1
abbrev HiS1:=Option (Array Keyed)×Nat×Nat×Array Keyed×Nat×Nat
def hiG (a b:Array Keyed) (mg:Nat):Nat->HiS1->StateT SortSt Sem (ForInStep HiS1):=fun _ c=>do
 let x <- elem' b (c.2.2.1 - 1)
 let y <- elem' a (c.2.1 - 1)
 let z <- lt' x y
 match z with
 | some aWins =>
  if aWins=true then do
   let x <- elem' a (c.2.1 - 1)
   if c.2.1 - 1 == 0 then pure (.done (some (hiDone a b (c.2.2.2.1.push x) (c.2.1 - 1) c.2.2.1),c.2.1 - 1,c.2.2.1,c.2.2.2.1.push x,c.2.2.2.2.1 + 1,0))
   else if c.2.2.2.2.1 + 1≥mg then pure (.done (none,c.2.1 - 1,c.2.2.1,c.2.2.2.1.push x,c.2.2.2.2.1 + 1,0)) else pure (.yield (none,c.2.1 - 1,c.2.2.1,c.2.2.2.1.push x,c.2.2.2.2.1 + 1,0))
  else do
   let y <- elem' b (c.2.2.1 - 1)
   if c.2.2.1 - 1 == 1 then pure (.done (some (hiFirst a b (c.2.2.2.1.push y) c.2.1 (c.2.2.1 - 1)),c.2.1,c.2.2.1 - 1,c.2.2.2.1.push y,0,c.2.2.2.2.2 + 1))
   else if c.2.2.2.2.2 + 1≥mg then pure (.done (none,c.2.1,c.2.2.1 - 1,c.2.2.2.1.push y,0,c.2.2.2.2.2 + 1)) else pure (.yield (none,c.2.1,c.2.2.1 - 1,c.2.2.2.1.push y,0,c.2.2.2.2.2 + 1))
 | _=>pure (.done (some (hiDone a b c.2.2.2.1 c.2.1 c.2.2.1),c.2.1,c.2.2.1,c.2.2.2.1,c.2.2.2.2.1,c.2.2.2.2.2))
abbrev HiS0:=Option (Array Keyed)×Nat×Nat×Array Keyed×Nat
def hiH (a b:Array Keyed):Nat->HiS0->StateT SortSt Sem (ForInStep HiS0):=fun _ c=>do
 let d <- forIn [0:a.size + b.size] ((none,c.2.1,c.2.2.1,c.2.2.2.1,0,0):HiS1) (hiG a b c.2.2.2.2)
 match d.1 with
 | some r=>pure (.done (some r,d.2.1,d.2.2.1,d.2.2.2.1,c.2.2.2.2))
 | none=>do
  liftM (rule "list.sort.gallop")
  let e <- forIn [0:a.size + b.size] ((none,d.2.1,d.2.2.1,d.2.2.2.1,c.2.2.2.2 + 1,d.2.2.2.2.1,d.2.2.2.2.2):HiSt) (hiF a b)
  match e.1 with
  | some r=>pure (.done (some r,e.2.1,e.2.2.1,e.2.2.2.1,e.2.2.2.2.1))
  | none=>do
   setMinGallop' (e.2.2.2.2.1 + 1)
   pure (.yield (none,e.2.1,e.2.2.1,e.2.2.2.1,e.2.2.2.2.1 + 1))
def mergeHi'_pcs (a b:Array Keyed):mergeHi' a b=(do
 liftM (rule "list.sort.merge-hi")
 let x <- elem' a (a.size - 1)
 if a.size - 1 == 0 then pure (hiDone a b #[x] (a.size - 1) b.size)
 else if b.size == 1 then pure (hiFirst a b #[x] (a.size - 1) b.size)
 else do
  let st <- get
  let c <- forIn [0:a.size + b.size] ((none,a.size - 1,b.size,#[x],gallopOf st):HiS0) (hiH a b)
  match c.1 with
  | some r=>pure r
  | none=>liftM (unsupported "internal:list.sort.merge-bound")):=by
 rw [mergeHi'_eq]
 refine congrArg (bind _) (funext fun _=>?_)
 refine congrArg (bind _) (funext fun x=>?_)
 refine ite_congr rfl (fun _=>rfl) (fun _=>ite_congr rfl (fun _=>rfl) (fun _=>?_))
 refine congrArg (bind _) (funext fun st=>?_)
 refine congr (congrArg bind ?_) (funext fun c=>?_)
 ·refine congrArg (forIn _ _) (funext fun i=>funext fun c=>?_)
  unfold hiH
  refine congr (congrArg bind ?_) (funext fun d=>?_)
  ·refine congrArg (forIn _ _) (funext fun i=>funext fun c=>?_)
   unfold hiG
   refine congrArg (bind _) (funext fun x=>congrArg (bind _) (funext fun y=>congrArg (bind _) (funext fun z=>?_)))
   cases z <;> rfl
  ·obtain ⟨r,d⟩:=d
   cases r with
   | some r=>rfl
   | none =>
    refine congrArg (bind _) (funext fun _=>?_)
    refine congr (congrArg bind ?_) (funext fun e=>?_)
    ·refine congrArg (forIn _ _) (funext fun i=>funext fun c=>?_)
     unfold hiF hi1 hi2 hi3 hi4
     refine ite_congr rfl (fun _=>?_) (fun _=>?_)
     all_goals
      refine congrArg (bind _) (funext fun _=>congrArg (bind _) (funext fun y=>congrArg (bind _) (funext fun z=>?_)))
      cases z with
      | none=>rfl
      | some k =>
       refine ite_congr rfl (fun _=>ite_congr rfl (fun _=>rfl) (fun _=>?_)) (fun _=>?_)
       all_goals
        refine congrArg (bind _) (funext fun y=>?_)
        refine ite_congr rfl (fun _=>rfl) (fun _=>?_)
        refine congrArg (bind _) (funext fun y=>congrArg (bind _) (funext fun z=>?_))
        cases z with
        | none=>rfl
        | some k=>rfl
    ·obtain ⟨r,e⟩:=e
     cases r <;> rfl
 ·obtain ⟨r,c⟩:=c
  cases r <;> rfl
section
variable {R:Keyed->Int} {la lb:List Keyed}
structure MH (R:Keyed->Int) (la lb:List Keyed) (na nb:Nat) (o:List Keyed):Prop where
 al:na<=la.length
 bl:nb<=lb.length
 pm:o.Perm (la.drop na++lb.drop nb)
 pa:Up R (la.take na++o)
 pb:Up R (lb.take nb++o)
def take_cut {l:List Keyed} {i n:Nat} (h:i<=n):l.take i++(l.take n).drop i=l.take n:=by
 have:=List.take_append_drop i (l.take n)
 rw [List.take_take,Nat.min_eq_left h] at this
 exact this
theorem drop_cut {l:List Keyed} {i n:Nat} (h:i<=n):(l.take n).drop i++l.drop n=l.drop i:=by
 rw [List.drop_take]
 have:=List.take_append_drop (n - i) (l.drop i)
 rw [List.drop_drop,show i + (n - i)=n by omega] at this
 exact this
def MH.a {na nb i:Nat} {o:List Keyed} (h:MH R la lb na nb o) (hi:i<=na) (hx:∀ x∈(la.take na).drop i,∀ y∈lb.take nb,R y < R x):MH R la lb i nb ((la.take na).drop i++o):=by
 obtain ⟨p1,p2,p3⟩:=up_app.mp h.pa
 obtain ⟨q1,q2,q3⟩:=up_app.mp h.pb
 refine ⟨Nat.le_trans hi h.al,h.bl,?_,by rw [<- List.append_assoc,take_cut hi]; exact h.pa,?_⟩
 ·refine (h.pm.append_left _).trans ?_
  rw [<- List.append_assoc,drop_cut hi]
 ·refine up_app.mpr ⟨q1,up_app.mpr ⟨p1.sublist (List.drop_sublist _ _),p2,fun x hx y hy=>p3 x (List.mem_of_mem_drop hx) y hy⟩,fun y hy x hx'=>?_⟩
  rcases List.mem_append.mp hx' with z | z
  ·exact hx x z y hy
  ·exact q3 y hy x z
def MH.b {na nb i:Nat} {o:List Keyed} (h:MH R la lb na nb o) (hi:i<=nb) (hx:∀ y∈(lb.take nb).drop i,∀ x∈la.take na,R x < R y):MH R la lb na i ((lb.take nb).drop i++o):=by
 obtain ⟨p1,p2,p3⟩:=up_app.mp h.pa
 obtain ⟨q1,q2,q3⟩:=up_app.mp h.pb
 refine ⟨h.al,Nat.le_trans hi h.bl,?_,?_,by rw [<- List.append_assoc,take_cut hi]; exact h.pb⟩
 ·refine (h.pm.append_left _).trans ?_
  rw [<- List.append_assoc]
  refine (List.perm_append_comm.append_right _).trans ?_
  rw [List.append_assoc,drop_cut hi]
 ·refine up_app.mpr ⟨p1,up_app.mpr ⟨q1.sublist (List.drop_sublist _ _),p2,fun x hx y hy=>q3 x (List.mem_of_mem_drop hx) y hy⟩,fun y hy x hx'=>?_⟩
  rcases List.mem_append.mp hx' with z | z
  ·exact hx x z y hy
  ·exact p3 y hy x z
def MH.doneA {na nb:Nat} {o:List Keyed} (h:MH R la lb na nb o) (e:na=0):MRes R la lb (la.take na++lb.take nb++o):=by
 subst e
 refine ⟨?_,h.pb⟩
 show (lb.take nb++o).Perm _
 refine (h.pm.append_left _).trans ?_
 rw [List.drop_zero,<- List.append_assoc]
 refine (List.perm_append_comm.append_right _).trans ?_
 rw [List.append_assoc,List.take_append_drop]
def MH.doneB {na nb:Nat} {o:List Keyed} (h:MH R la lb na nb o) (e:nb=0):MRes R la lb (la.take na++lb.take nb++o):=by
 subst e
 rw [List.take_zero,List.append_nil]
 refine ⟨?_,h.pa⟩
 refine (h.pm.append_left _).trans ?_
 rw [List.drop_zero,<- List.append_assoc,List.take_append_drop]
def MH.first {na nb:Nat} {o:List Keyed} (h:MH R la lb na nb o) (hl:∀ y∈lb.take nb,∀ x∈la.take na,R y < R x):MRes R la lb (lb.take nb++la.take na++o):=by
 obtain ⟨q1,q2,q3⟩:=up_app.mp h.pb
 refine ⟨?_,?_⟩
 ·refine (h.pm.append_left _).trans ?_
  rw [List.append_assoc]
  refine List.perm_append_comm.trans ?_
  rw [List.append_assoc,List.append_assoc]
  rw [<- List.append_assoc (la.take na),List.take_append_drop]
  refine List.Perm.append_left _ ?_
  refine List.perm_append_comm.trans ?_
  rw [List.take_append_drop]
 ·rw [List.append_assoc]
  refine up_app.mpr ⟨q1,h.pa,fun y hy x hx=>?_⟩
  rcases List.mem_append.mp hx with z | z
  ·exact hl y hy x z
  ·exact q3 y hy x z
theorem up_lastT {l:List Keyed} {n:Nat} {x:Keyed} (u:Up R l) (hn:0 < n) (h:l[n - 1]?=some x):∀ y∈l.take n,R y<=R x:=fun y hy=>by
 obtain ⟨hi,e⟩:=List.getElem?_eq_some_iff.mp h
 obtain ⟨i,hi2,e2⟩:=List.getElem_of_mem hy
 rw [List.length_take] at hi2
 rw [List.getElem_take] at e2
 rcases Nat.lt_or_ge i (n - 1) with z | z
 ·have:=(List.pairwise_iff_getElem.mp u) i (n - 1) (by omega) hi z
  rw [e,e2] at this
  omega
 ·have:i=n - 1:=by omega
  subst this
  rw [<- e2,e]
  exact Int.le_refl _
theorem one_last {l:List Keyed} {n:Nat} {x:Keyed} (hn:0 < n) (h:l[n - 1]?=some x):(l.take n).drop (n - 1)=[x]:=by
 rw [List.drop_take,show n - (n - 1)=1 by omega]
 exact one_take h
end
section
variable {M:Model} {A:Around} {E:Value->Shared->Prop} {s:Shared} {κ:SortKind} {S:Keyed->Prop} {R:Keyed->Int} {a b:Array Keyed}
structure Hi (S:Keyed->Prop) (R:Keyed->Int) (a b:Array Keyed):Prop where
 sa:∀ x∈a.toList,S x
 sb:∀ x∈b.toList,S x
 ua:Up R a.toList
 ub:Up R b.toList
 dj:∀ x∈a.toList,∀ y∈b.toList,R x≠R y
 begs:∀ y,b.toList[0]?=some y->∀ x∈a.toList,R y < R x
theorem gal_pre (HL:LtS M A E s κ S R) {left:Bool} {key:Keyed} {xs:Array Keyed} {n hint:Nat} {st:SortSt} {Q:Option Nat->SortSt->Prop} (hk:S key) (hst:kindOf st=κ) (sS:∀ x∈xs.toList,S x) (u:Up R xs.toList) (dj:∀ x∈xs.toList,R x≠R key) (hn:n<=xs.size) (hh:hint < n)
  (h:∀ k,k<=n->(∀ x∈xs.toList.take k,R x < R key)->(∀ x∈(xs.toList.take n).drop k,R key < R x)->Q (some k) st):wpS M A E s (gallop' left key xs 0 n hint) Q st:=by
 refine wpS_gallop HL hk hst hh (fun i hi=>?_) (fun i j x y hij hj hx hy=>up_at u (by omega) hx hy) fun k hkn h1 h2=>h k hkn (fun x hx=>?_) fun x hx=>?_
 ·have hl:0 + i < xs.size:=by omega
  refine ⟨xs[0 + i],Array.getElem?_eq_getElem hl,sS _ ?_,dj _ ?_⟩ <;> simp
 ·obtain ⟨i,hi,e⟩:=List.getElem_of_mem hx
  rw [List.length_take,Array.length_toList] at hi
  refine h1 i x (by omega) ?_
  rw [List.getElem_take] at e
  rw [Nat.zero_add,<- Array.getElem?_toList,List.getElem?_eq_getElem (by rw [Array.length_toList]; omega),e]
 ·obtain ⟨i,hi,e⟩:=List.getElem_of_mem hx
  rw [List.length_drop,List.length_take,Array.length_toList] at hi
  rw [List.getElem_drop,List.getElem_take] at e
  refine h2 (k + i) x (by omega) (by omega) ?_
  rw [Nat.zero_add,<- Array.getElem?_toList,List.getElem?_eq_getElem (by rw [Array.length_toList]; omega),e]
def GoodH (R:Keyed->Int) (a b:Array Keyed) (base:Nat) (r:Option (Array Keyed)) (out:Array Keyed) (na nb:Nat):Prop:=(∃ z,r=some z/\MRes R a.toList b.toList z.toList)\/(r=none/\MH R a.toList b.toList na nb out.toList.reverse/\0 < na/\1 < nb/\na + nb + base<=a.size + b.size)
def ext_0 (xs:Array Keyed) (n:Nat):(xs.extract 0 n).toList=xs.toList.take n:=by
 rw [Array.toList_extract]
 show ((xs.toList.drop 0).take (n - 0))=_
 rfl
def ext_n (xs:Array Keyed) (i n:Nat):(xs.extract i n).toList=(xs.toList.take n).drop i:=by
 rw [Array.toList_extract,List.drop_take]
theorem hi_first {na nb:Nat} {out:Array Keyed} (L:Hi S R a b) (h:MH R a.toList b.toList na nb out.toList.reverse) (e:nb=1):MRes R a.toList b.toList (hiFirst a b out na nb).toList:=by
 unfold hiFirst
 rw [Array.toList_append,Array.toList_append,ext_0,ext_0,Array.toList_reverse]
 refine h.first fun y hy x hx=>?_
 subst e
 obtain ⟨i,hi,ey⟩:=List.getElem_of_mem hy
 rw [List.length_take] at hi
 have:i=0:=by omega
 subst this
 rw [List.getElem_take] at ey
 exact L.begs y (by rw [List.getElem?_eq_getElem (by omega),ey]) x (List.mem_of_mem_take hx)
def hi_doneA {na nb:Nat} {out:Array Keyed} (h:MH R a.toList b.toList na nb out.toList.reverse) (e:na=0):MRes R a.toList b.toList (hiDone a b out na nb).toList:=by
 unfold hiDone
 rw [Array.toList_append,Array.toList_append,ext_0,ext_0,Array.toList_reverse]
 exact h.doneA e
def hi_doneB {na nb:Nat} {out:Array Keyed} (h:MH R a.toList b.toList na nb out.toList.reverse) (e:nb=0):MRes R a.toList b.toList (hiDone a b out na nb).toList:=by
 unfold hiDone
 rw [Array.toList_append,Array.toList_append,ext_0,ext_0,Array.toList_reverse]
 exact h.doneB e
theorem MH.pushA {na nb:Nat} {out:Array Keyed} {x:Keyed} (h:MH R a.toList b.toList na nb out.toList.reverse) (hn:0 < na) (hx:a[na - 1]?=some x) (hl:∀ y∈b.toList.take nb,R y < R x):MH R a.toList b.toList (na - 1) nb (out.push x).toList.reverse:=by
 have hx':a.toList[na - 1]?=some x:=by rw [Array.getElem?_toList]; exact hx
 have:=h.a (i:=na - 1) (by omega) (by rw [one_last hn hx']; intro z hz; rw [List.mem_singleton.mp hz]; exact hl)
 rw [one_last hn hx'] at this
 rw [Array.toList_push,List.reverse_append]
 exact this
theorem MH.pushB {na nb:Nat} {out:Array Keyed} {x:Keyed} (h:MH R a.toList b.toList na nb out.toList.reverse) (hn:0 < nb) (hx:b[nb - 1]?=some x) (hl:∀ y∈a.toList.take na,R y < R x):MH R a.toList b.toList na (nb - 1) (out.push x).toList.reverse:=by
 have hx':b.toList[nb - 1]?=some x:=by rw [Array.getElem?_toList]; exact hx
 have:=h.b (i:=nb - 1) (by omega) (by rw [one_last hn hx']; intro z hz; rw [List.mem_singleton.mp hz]; exact hl)
 rw [one_last hn hx'] at this
 rw [Array.toList_push,List.reverse_append]
 exact this
def rev_app (out xs:Array Keyed):(out++xs.reverse).toList.reverse=xs.toList++out.toList.reverse:=by
 rw [Array.toList_append,Array.toList_reverse,List.reverse_append,List.reverse_reverse]
abbrev QH (R:Keyed->Int) (a b:Array Keyed) (base:Nat) (st:SortSt) (Q:ForInStep HiSt->SortSt->Prop):Prop:=∀ r o i j mg' ac' bc',GoodH R a b base r o i j->Q (.done (r,i,j,o,mg',ac',bc')) st/\(r=none->Q (.yield (r,i,j,o,mg',ac',bc')) st)
theorem wpS_hi4 (L:Hi S R a b) {mg ac bc base na nb:Nat} {out:Array Keyed} {st:SortSt} {Q:ForInStep HiSt->SortSt->Prop} {y:Keyed} (h:MH R a.toList b.toList na nb out.toList.reverse) (ha:0 < na) (hb:1 < nb) (hbase:na + nb + base<=a.size + b.size) (hy:a[na - 1]?=some y) (lt:∀ x∈b.toList.take nb,R x < R y) (q:QH R a b base st Q):wpS M A E s (hi4 a b mg ac bc out na nb) Q st:=by
 unfold hi4
 refine wpS_bind (wpS_elem hy ?_)
 have h2:=h.pushA ha hy lt
 by_cases e:(na - 1 == 0)=true
 ·rw [if_pos e]
  exact wpS_pure (q _ _ _ _ _ _ _ (.inl ⟨_,rfl,hi_doneA h2 (by simpa using e)⟩)).1
 ·rw [if_neg e]
  have g:GoodH R a b base none (out.push y) (na - 1) nb:=.inr ⟨rfl,h2,by have:¬ na - 1=0:=(by simpa using e); omega,hb,by omega⟩
  split
  ·exact wpS_pure (q _ _ _ _ _ _ _ g).1
  ·exact wpS_pure ((q _ _ _ _ _ _ _ g).2 rfl)
theorem wpS_hi3 (HL:LtS M A E s κ S R) (L:Hi S R a b) {mg ac bc base na nb:Nat} {out:Array Keyed} {st:SortSt} {Q:ForInStep HiSt->SortSt->Prop} (hst:kindOf st=κ) (h:MH R a.toList b.toList na nb out.toList.reverse) (ha:0 < na) (hb:1 < nb) (hbase:na + nb + base<=a.size + b.size) (q:QH R a b base st Q):wpS M A E s (hi3 a b mg ac bc out na nb) Q st:=by
 unfold hi3
 have al:na<=a.size:=by have:=h.al; rwa [Array.length_toList] at this
 have bl:nb<=b.size:=by have:=h.bl; rwa [Array.length_toList] at this
 obtain ⟨y,hy,my⟩:=get_in (xs:=a) (i:=na - 1) (by omega)
 have pa:=up_lastT L.ua ha (by rw [Array.getElem?_toList]; exact hy)
 refine wpS_bind (wpS_elem hy (wpS_bind (gal_pre HL (L.sa _ my) hst L.sb L.ub (fun x hx e=>L.dj y my x hx e.symm) bl (by omega) fun k hk h1 h2=>?_)))
 dsimp only
 by_cases k0:nb - k > 0
 ·rw [if_pos k0]
  have h3:=h.b (i:=k) (by omega) fun x hx z hz=>by
   have l1:=h2 x hx
   have l2:=pa z hz
   omega
  rw [<- ext_n,<- rev_app] at h3
  by_cases e:(k == 1)=true
  ·rw [if_pos e]
   exact wpS_pure (q _ _ _ _ _ _ _ (.inl ⟨_,rfl,hi_first L h3 (by simpa using e)⟩)).1
  ·rw [if_neg e]
   by_cases e2:(k == 0)=true
   ·rw [if_pos e2]
    exact wpS_pure (q _ _ _ _ _ _ _ (.inl ⟨_,rfl,hi_doneB h3 (by simpa using e2)⟩)).1
   ·rw [if_neg e2]
    have:¬ k=1:=by simpa using e
    have:¬ k=0:=by simpa using e2
    exact wpS_hi4 L h3 ha (by omega) (by omega) hy h1 q
 ·rw [if_neg k0]
  have:k=nb:=by omega
  subst this
  exact wpS_hi4 L h ha hb hbase hy h1 q
theorem wpS_hi2 (HL:LtS M A E s κ S R) (L:Hi S R a b) {mg ac bc base na nb:Nat} {out:Array Keyed} {st:SortSt} {Q:ForInStep HiSt->SortSt->Prop} {y:Keyed} (hst:kindOf st=κ) (h:MH R a.toList b.toList na nb out.toList.reverse) (ha:0 < na) (hb:1 < nb) (hbase:na + nb + base<=a.size + b.size) (hy:b[nb - 1]?=some y) (lt:∀ x∈a.toList.take na,R x < R y) (q:QH R a b base st Q):wpS M A E s (hi2 a b mg ac bc out na nb) Q st:=by
 unfold hi2
 refine wpS_bind (wpS_elem hy ?_)
 have h2:=h.pushB (by omega) hy lt
 by_cases e:(nb - 1 == 1)=true
 ·rw [if_pos e]
  exact wpS_pure (q _ _ _ _ _ _ _ (.inl ⟨_,rfl,hi_first L h2 (by simpa using e)⟩)).1
 ·rw [if_neg e]
  have:¬ nb - 1=1:=by simpa using e
  exact wpS_hi3 HL L hst h2 ha (by omega) (by omega) q
theorem wpS_hi1 (HL:LtS M A E s κ S R) (L:Hi S R a b) {mg ac bc base na nb:Nat} {out:Array Keyed} {st:SortSt} {Q:ForInStep HiSt->SortSt->Prop} (hst:kindOf st=κ) (h:MH R a.toList b.toList na nb out.toList.reverse) (ha:0 < na) (hb:1 < nb) (hbase:na + nb + base<=a.size + b.size) (q:∀ st',Keep st st'->QH R a b base st' Q):wpS M A E s (hi1 a b mg ac bc out na nb) Q st:=by
 unfold hi1
 rw [setMinGallop'_eq]
 refine wpS_bind (wpS_modify ?_)
 have q':=q (setGallop st mg) (Keep.gal st mg)
 have al:na<=a.size:=by have:=h.al; rwa [Array.length_toList] at this
 have bl:nb<=b.size:=by have:=h.bl; rwa [Array.length_toList] at this
 obtain ⟨y,hy,my⟩:=get_in (xs:=b) (i:=nb - 1) (by omega)
 have pb:=up_lastT L.ub (n:=nb) (by omega) (by rw [Array.getElem?_toList]; exact hy)
 refine wpS_bind (wpS_elem hy (wpS_bind (gal_pre HL (L.sb _ my) hst L.sa L.ua (fun x hx=>L.dj x hx y my) al (by omega) fun k hk h1 h2=>?_)))
 dsimp only
 by_cases k0:na - k > 0
 ·rw [if_pos k0]
  have h3:=h.a (i:=k) (by omega) fun x hx z hz=>by
   have l1:=h2 x hx
   have l2:=pb z hz
   omega
  rw [<- ext_n,<- rev_app] at h3
  by_cases e:(k == 0)=true
  ·rw [if_pos e]
   exact wpS_pure (q' _ _ _ _ _ _ _ (.inl ⟨_,rfl,hi_doneA h3 (by simpa using e)⟩)).1
  ·rw [if_neg e]
   have:¬ k=0:=by simpa using e
   exact wpS_hi2 HL L hst h3 (by omega) hb (by omega) hy h1 q'
 ·rw [if_neg k0]
  have:k=na:=by omega
  subst this
  exact wpS_hi2 HL L hst h ha hb hbase hy h1 q'
def wpS_hiF (HL:LtS M A E s κ S R) (L:Hi S R a b) {mg ac bc base na nb:Nat} {out:Array Keyed} {st:SortSt} {Q:HiSt->SortSt->Prop} (hst:kindOf st=κ) (h:MH R a.toList b.toList na nb out.toList.reverse) (ha:0 < na) (hb:1 < nb) (hbase:na + nb + base<=a.size + b.size)
  (q:∀ r o i j mg' ac' bc' st',Keep st st'->GoodH R a b base r o i j->Q (r,i,j,o,mg',ac',bc') st'):wpS M A E s (forIn [0:a.size + b.size] ((none,na,nb,out,mg,ac,bc):HiSt) (hiF a b)) Q st:=by
 refine wpS_forRange (I:=fun _ c st'=>Keep st st'/\c.1=none/\GoodH R a b base c.1 c.2.2.2.1 c.2.1 c.2.2.1) ?_ ?_ ⟨.refl _,rfl,.inr ⟨rfl,h,ha,hb,hbase⟩⟩
 ·rintro i ⟨r,i',j',o,mg',ac',bc'⟩ st' _ _ ⟨kp,er,g⟩
  have er:r=none:=er
  subst er
  rcases g with ⟨z,ez,_⟩ | ⟨_,g1,g2,g3,g4⟩
  ·cases ez
  ·unfold hiF
   dsimp only
   split
   ·exact wpS_hi1 HL L (kp.1.trans hst) g1 g2 g3 g4 fun st'' k2 r o i j mg' ac' bc' gg=>⟨q _ _ _ _ _ _ _ _ (kp.trans k2) gg,fun e=>⟨kp.trans k2,e,gg⟩⟩
   ·exact wpS_hi1 HL L (kp.1.trans hst) g1 g2 g3 g4 fun st'' k2 r o i j mg' ac' bc' gg=>⟨q _ _ _ _ _ _ _ _ (kp.trans k2) gg,fun e=>⟨kp.trans k2,e,gg⟩⟩
 ·rintro ⟨r,i',j',o,mg',ac',bc'⟩ st' ⟨kp,er,g⟩
  exact q _ _ _ _ _ _ _ _ kp g
theorem wpS_hiG (HL:LtS M A E s κ S R) (L:Hi S R a b) {mg ac bc base na nb:Nat} {out:Array Keyed} {st:SortSt} {Q:HiS1->SortSt->Prop} (hst:kindOf st=κ) (h:MH R a.toList b.toList na nb out.toList.reverse) (ha:0 < na) (hb:1 < nb) (hbase:na + nb + base<=a.size + b.size)
  (q:∀ r o i j ac' bc',GoodH R a b (base + 1) r o i j->Q (r,i,j,o,ac',bc') st):wpS M A E s (forIn [0:a.size + b.size] ((none,na,nb,out,ac,bc):HiS1) (hiG a b mg)) Q st:=by
 have al:na<=a.size:=by have:=h.al; rwa [Array.length_toList] at this
 refine wpS_forRange (I:=fun x c st'=>st'=st/\c.1=none/\GoodH R a b (base + min x 1) c.1 c.2.2.2.1 c.2.1 c.2.2.1) ?_ ?_ ⟨rfl,rfl,.inr ⟨rfl,h,ha,hb,hbase⟩⟩
 ·rintro x ⟨r,i,j,o,ac',bc'⟩ st' _ _ ⟨rfl,er,g⟩
  have er:r=none:=er
  subst er
  rcases g with ⟨z,ez,_⟩ | ⟨_,g1,g2,g3,g4⟩
  ·cases ez
  ·have g4:i + j + (base + min x 1)<=a.size + b.size:=g4
   have g1:MH R a.toList b.toList i j o.toList.reverse:=g1
   have g2:0 < i:=g2
   have g3:1 < j:=g3
   have al:i<=a.size:=by have:=g1.al; rwa [Array.length_toList] at this
   have bl:j<=b.size:=by have:=g1.bl; rwa [Array.length_toList] at this
   obtain ⟨p,hp,mp⟩:=get_in (xs:=b) (i:=j - 1) (by omega)
   obtain ⟨y,hy,my⟩:=get_in (xs:=a) (i:=i - 1) (by omega)
   have pa:=up_lastT L.ua (n:=i) g2 (by rw [Array.getElem?_toList]; exact hy)
   have pb:=up_lastT L.ub (n:=j) (by omega) (by rw [Array.getElem?_toList]; exact hp)
   have nd:=L.dj y my p mp
   unfold hiG
   refine wpS_bind (wpS_elem hp (wpS_bind (wpS_elem hy (wpS_bind (HL _ _ _ _ (L.sb _ mp) (L.sa _ my) hst ?_)))))
   dsimp only
   by_cases lt:R p < R y
   ·rw [decide_eq_true lt,if_pos rfl]
    refine wpS_bind (wpS_elem hy ?_)
    have h2:=g1.pushA g2 hy fun z hz=>by have:=pb z hz; omega
    by_cases e:(i - 1 == 0)=true
    ·rw [if_pos e]
     exact wpS_pure (q _ _ _ _ _ _ (.inl ⟨_,rfl,hi_doneA h2 (by simpa using e)⟩))
    ·rw [if_neg e]
     have:¬ i - 1=0:=by simpa using e
     split
     ·exact wpS_pure (q _ _ _ _ _ _ (.inr ⟨rfl,h2,by omega,g3,by omega⟩))
     ·exact wpS_pure ⟨rfl,rfl,.inr ⟨rfl,h2,by show 0 < i - 1; omega,g3,by show i - 1 + j + (base + min (x + 1) 1)<=_; omega⟩⟩
   ·rw [decide_eq_false lt,if_neg (by decide)]
    refine wpS_bind (wpS_elem hp ?_)
    have h2:=g1.pushB (by omega) hp fun z hz=>by have:=pa z hz; omega
    by_cases e:(j - 1 == 1)=true
    ·rw [if_pos e]
     exact wpS_pure (q _ _ _ _ _ _ (.inl ⟨_,rfl,hi_first L h2 (by simpa using e)⟩))
    ·rw [if_neg e]
     have:¬ j - 1=1:=by simpa using e
     split
     ·exact wpS_pure (q _ _ _ _ _ _ (.inr ⟨rfl,h2,g2,by omega,by omega⟩))
     ·exact wpS_pure ⟨rfl,rfl,.inr ⟨rfl,h2,g2,by show 1 < j - 1; omega,by show i + (j - 1) + (base + min (x + 1) 1)<=_; omega⟩⟩
 ·rintro ⟨r,i,j,o,ac',bc'⟩ st' ⟨rfl,er,g⟩
  refine q _ _ _ _ _ _ ?_
  rcases g with g | ⟨g0,g1,g2,g3,g4⟩
  ·exact .inl g
  ·exact .inr ⟨g0,g1,g2,g3,by
    have g4:i + j + (base + min (max 0 (a.size + b.size)) 1)<=a.size + b.size:=g4
    omega⟩
theorem wpS_mergeHi (HL:LtS M A E s κ S R) (L:Hi S R a b) {st:SortSt} {Q:Array Keyed->SortSt->Prop} (hst:kindOf st=κ) (hb:0 < b.size) (ha:0 < a.size) (h0:∀ p,a[a.size - 1]?=some p->∀ x∈b.toList,R x < R p) (q:∀ r st',Keep st st'->MRes R a.toList b.toList r.toList->Q r st'):wpS M A E s (mergeHi' a b) Q st:=by
 rw [mergeHi'_pcs]
 refine wpS_bind (wpS_lift (wpAny_rule ⟨rfl,?_⟩))
 obtain ⟨p,hp,mp⟩:=get_in (xs:=a) (i:=a.size - 1) (by omega)
 refine wpS_bind (wpS_elem hp ?_)
 have h1:MH R a.toList b.toList (a.size - 1) b.size #[p].toList.reverse:=by
  have base:MH R a.toList b.toList a.size b.size (#[]:Array Keyed).toList.reverse:=by
   have e1:a.toList.take a.size=a.toList:=List.take_of_length_le (by rw [Array.length_toList]; exact Nat.le_refl _)
   have e2:b.toList.take b.size=b.toList:=List.take_of_length_le (by rw [Array.length_toList]; exact Nat.le_refl _)
   have e3:a.toList.drop a.size=[]:=List.drop_of_length_le (by rw [Array.length_toList]; exact Nat.le_refl _)
   have e4:b.toList.drop b.size=[]:=List.drop_of_length_le (by rw [Array.length_toList]; exact Nat.le_refl _)
   refine ⟨by rw [Array.length_toList]; exact Nat.le_refl _,by rw [Array.length_toList]; exact Nat.le_refl _,by rw [e3,e4]; exact .refl _,by rw [e1]; simpa using L.ua,by rw [e2]; simpa using L.ub⟩
  exact base.pushA ha hp fun y hy=>h0 p hp y (List.mem_of_mem_take hy)
 by_cases e:(a.size - 1 == 0)=true
 ·rw [if_pos e]
  exact wpS_pure (q _ _ (.refl _) (hi_doneA h1 (by simpa using e)))
 rw [if_neg e]
 by_cases e2:(b.size == 1)=true
 ·rw [if_pos e2]
  exact wpS_pure (q _ _ (.refl _) (hi_first L h1 (by simpa using e2)))
 rw [if_neg e2]
 have n1:¬ a.size - 1=0:=by simpa using e
 have n2:¬ b.size=1:=by simpa using e2
 refine wpS_bind (wpS_get ?_)
 refine wpS_bind (wpS_mono (wpS_forRange (I:=fun x c st'=>Keep st st'/\c.1=none/\GoodH R a b (x + 1) c.1 c.2.2.2.1 c.2.1 c.2.2.1) (Q:=fun c st'=>Keep st st'/\∃ r,c.1=some r/\MRes R a.toList b.toList r.toList) ?_ ?_ ⟨.refl _,rfl,.inr ⟨rfl,h1,by show 0 < a.size - 1; omega,by show 1 < b.size; omega,by show a.size - 1 + b.size + (0 + 1)<=_; omega⟩⟩) ?_)
 ·rintro x ⟨r,i,j,o,mg⟩ st' _ _ ⟨kp,er,g⟩
  have er:r=none:=er
  subst er
  rcases g with ⟨z,ez,_⟩ | ⟨_,g1,g2,g3,g4⟩
  ·cases ez
  ·unfold hiH
   refine wpS_bind (wpS_hiG HL L (kp.1.trans hst) g1 g2 g3 g4 fun r o i j ac bc gg=>?_)
   rcases gg with ⟨z,rfl,hz⟩ | ⟨rfl,f1,f2,f3,f4⟩
   ·exact wpS_pure ⟨kp,z,rfl,hz⟩
   ·refine wpS_bind (wpS_lift (wpAny_rule ⟨rfl,?_⟩))
    refine wpS_bind (wpS_hiF HL L (kp.1.trans hst) f1 f2 f3 f4 fun r o i j mg' ac bc st'' k2 gg=>?_)
    rcases gg with ⟨z,rfl,hz⟩ | ⟨rfl,d1,d2,d3,d4⟩
    ·exact wpS_pure ⟨kp.trans k2,z,rfl,hz⟩
    ·dsimp only
     rw [setMinGallop'_eq]
     exact wpS_bind (wpS_modify (wpS_pure ⟨(kp.trans k2).trans (Keep.gal _ _),rfl,.inr ⟨rfl,d1,d2,d3,d4⟩⟩))
 ·rintro ⟨r,i,j,o,mg⟩ st' ⟨kp,er,g⟩
  rcases g with ⟨z,ez,hz⟩ | ⟨_,g1,g2,g3,g4⟩
  ·exact ⟨kp,z,ez,hz⟩
  ·have g2:0 < i:=g2
   have g3:1 < j:=g3
   have g4:i + j + (max 0 (a.size + b.size) + 1)<=a.size + b.size:=g4
   omega
 ·rintro ⟨r,i,j,o,mg⟩ st' ⟨kp,z,ez,hz⟩
  have ez:r=some z:=ez
  subst ez
  exact wpS_pure (q _ _ kp hz)
end
def mergeAt'_eq (i:Nat):mergeAt' i=(do
 let s <- get
 let (some (sa,na,power),some (sb,nb,_)):=((pendingOf s)[i]?,(pendingOf s)[i + 1]?) | unsupported "internal:list.sort.pending"
 set (setPending s (((pendingOf s).setIfInBounds i (sa,na + nb,power)).eraseIdxIfInBounds (i + 1)))
 let some k <- gallop' false (<- elem' (arrOf s) sb) (arrOf s) sa na 0 | return false
 let (sa,na):=(sa + k,na - k)
 if na == 0 then return true
 let some nb <- gallop' true (<- elem' (arrOf s) (sa + na - 1)) (arrOf s) sb nb (nb - 1) | return false
 if nb == 0 then return true
 let x:=(arrOf s).extract sa sb
 let y:=(arrOf s).extract sb (sb + nb)
 let merged <- if na<=nb then mergeLo' x y else mergeHi' x y
 modify fun s=>setArr s (merged.toList.zipIdx.foldl (fun a (p,j)=>a.setIfInBounds (sa + j) p) (arrOf s))
 return (failedOf (<- get)).isNone):=rfl
theorem lay_back:∀ (l:List Keyed) (n o:Nat) (arr:Array Keyed) (P W T:List Keyed),arr.toList=P++W++T->P.length=o + n->W.length=l.length->((l.zipIdx n).foldl (fun a (x:Keyed×Nat)=>a.setIfInBounds (o + x.2) x.1) arr).toList=P++l++T
 | [],n,o,arr,P,W,T,e,hP,hW=>by
  have:W=[]:=List.length_eq_zero_iff.mp hW
  subst this
  exact e
 | x::l,n,o,arr,P,[],T,e,hP,hW=>by cases hW
 | x::l,n,o,arr,P,w::W,T,e,hP,hW=>by
  rw [List.zipIdx_cons,List.foldl_cons]
  have e1:(arr.setIfInBounds (o + n) x).toList=(P++[x])++W++T:=by
   rw [Array.toList_setIfInBounds,e,<- hP,List.append_assoc,List.set_append_right _ _ (Nat.le_refl _),Nat.sub_self]
   simp
  have:=lay_back l (n + 1) o _ (P++[x]) W T e1 (by rw [List.length_append,hP]; rfl) (Nat.succ.inj hW)
  rw [this]
  simp
section
variable {M:Model} {A:Around} {E:Value->Shared->Prop} {s:Shared} {κ:SortKind} {S:Keyed->Prop} {R:Keyed->Int}
theorem seg_at {arr:Array Keyed} {P X T:List Keyed} (e:arr.toList=P++X++T) {i:Nat} (hi:i < X.length):arr[P.length + i]?=some X[i]:=by
 rw [<- Array.getElem?_toList,e,List.append_assoc,List.getElem?_append_right (by omega),Nat.add_sub_cancel_left,List.getElem?_append_left hi,List.getElem?_eq_getElem hi]
def seg_ext {arr:Array Keyed} {P X T:List Keyed} (e:arr.toList=P++X++T) {o n:Nat} (ho:P.length=o) (hn:o + X.length=n):(arr.extract o n).toList=X:=by
 rw [Array.toList_extract,e]
 show ((P++X++T).drop o).take (n - o)=X
 rw [<- ho,List.append_assoc,List.drop_left,<- hn,ho,Nat.add_sub_cancel_left,List.take_left]
theorem gal_seg (HL:LtS M A E s κ S R) {left:Bool} {key:Keyed} {arr:Array Keyed} {P X T:List Keyed} {o n hint:Nat} {st:SortSt} {Q:Option Nat->SortSt->Prop} (e:arr.toList=P++X++T) (ho:P.length=o) (hn:X.length=n) (hk:S key) (hst:kindOf st=κ) (sS:∀ x∈X,S x) (u:Up R X) (dj:∀ x∈X,R x≠R key) (hh:hint < n)
  (h:∀ k,k<=n->(∀ x∈X.take k,R x < R key)->(∀ x∈X.drop k,R key < R x)->Q (some k) st):wpS M A E s (gallop' left key arr o n hint) Q st:=by
 subst ho
 subst hn
 refine wpS_gallop HL hk hst hh (fun i hi=>⟨X[i],seg_at e hi,sS _ (List.getElem_mem hi),dj _ (List.getElem_mem hi)⟩) (fun i j x y hij hj hx hy=>?_) fun k hkn h1 h2=>h k hkn (fun x hx=>?_) fun x hx=>?_
 ·rw [seg_at e (by omega)] at hx
  rw [seg_at e hj] at hy
  cases hx
  cases hy
  exact (List.pairwise_iff_getElem.mp u) i j (by omega) hj hij
 ·obtain ⟨i,hi,ex⟩:=List.getElem_of_mem hx
  rw [List.length_take] at hi
  rw [List.getElem_take] at ex
  exact h1 i x (by omega) (by rw [seg_at e (by omega),ex])
 ·obtain ⟨i,hi,ex⟩:=List.getElem_of_mem hx
  rw [List.length_drop] at hi
  rw [List.getElem_drop] at ex
  exact h2 (k + i) x (by omega) (by omega) (by rw [seg_at e (by omega),ex])
def up_hd {X:List Keyed} (u:Up R X) (h:0 < X.length):∀ x∈X,R X[0]<=R x:=fun x hx=>by
 have:=up_head u (i:=0) (List.getElem?_eq_getElem h) x (by rw [List.drop_zero]; exact hx)
 exact this
theorem up_ls {X:List Keyed} (u:Up R X) (h:0 < X.length):∀ x∈X,R x<=R (X[X.length - 1]'(by omega)):=fun x hx=>up_lastT u h (List.getElem?_eq_getElem (by omega)) x (by rw [List.take_length]; exact hx)
theorem wpS_mergeAt (HL:LtS M A E s κ S R) {st:SortSt} {i sa na pw sb nb pw2:Nat} {P X Y T:List Keyed} {Q:Bool->SortSt->Prop} (hp1:(pendingOf st)[i]?=some (sa,na,pw)) (hp2:(pendingOf st)[i + 1]?=some (sb,nb,pw2)) (e:(arrOf st).toList=P++X++Y++T) (lP:P.length=sa) (lX:X.length=na) (lY:Y.length=nb) (hb:sb=sa + na) (hna:0 < na) (hnb:0 < nb) (uX:Up R X) (uY:Up R Y) (sX:∀ x∈X,S x) (sY:∀ x∈Y,S x) (dj:∀ x∈X,∀ y∈Y,R x≠R y) (hst:kindOf st=κ) (hf:failedOf st=none)
  (q:∀ st' Z,kindOf st'=κ->failedOf st'=none->pendingOf st'=((pendingOf st).setIfInBounds i (sa,na + nb,pw)).eraseIdxIfInBounds (i + 1)->(arrOf st').toList=P++Z++T->Z.Perm (X++Y)->Up R Z->Q true st'):wpS M A E s (mergeAt' i) Q st:=by
 rw [mergeAt'_eq]
 refine wpS_bind (wpS_get ?_)
 rw [hp1,hp2]
 dsimp only
 generalize eP:((pendingOf st).setIfInBounds i (sa,na + nb,pw)).eraseIdxIfInBounds (i + 1)=pn at q
 have hx0:0 < X.length:=by omega
 have hy0:0 < Y.length:=by omega
 have eX:(arrOf st).toList=P++X++(Y++T):=by rw [e]; simp
 have eY:(arrOf st).toList=(P++X)++Y++T:=e
 have lPX:(P++X).length=sb:=by rw [List.length_append,lP,lX,hb]
 have aY:(arrOf st)[sb]?=some Y[0]:=by
  have:=seg_at eY hy0
  rw [lPX,Nat.add_zero] at this
  exact this
 have aX:(arrOf st)[sb - 1]?=some (X[X.length - 1]'(by omega)):=by
  have:=seg_at eX (i:=X.length - 1) (by omega)
  rw [<- this]
  congr 1
  omega
 refine wpS_bind ?_
 show wpS M A E s (set _) _ st
 have wset:∀ {st1:SortSt} {Q:PUnit->SortSt->Prop},Q ⟨⟩ st1->wpS M A E s (set st1:StateT SortSt Sem PUnit) Q st:=fun {st1 Q} h=>by
  unfold wpS
  rw [StateT.run_set]
  exact wpAny_pure ⟨rfl,h⟩
 refine wset ?_
 have whole:Up R (X++Y)->Q true (setPending st pn):=fun u=>q (setPending st pn) (X++Y) hst hf rfl (by rw [show (arrOf (setPending st pn)).toList=(arrOf st).toList from rfl,e]; simp) (.refl _) u
 refine wpS_bind (wpS_elem aY (wpS_bind (gal_seg HL eX lP lX (sY _ (List.getElem_mem hy0)) hst sX uX (fun x hx=>dj x hx _ (List.getElem_mem hy0)) hna fun k hk h1 h2=>?_)))
 dsimp only
 have hd:=up_hd uY hy0
 have ls:=up_ls uX hx0
 by_cases e0:(na - k == 0)=true
 ·rw [if_pos e0]
  have ek:na - k=0:=by simpa using e0
  refine wpS_pure (whole (up_app.mpr ⟨uX,uY,fun x hx y hy=>?_⟩))
  have:=h1 x (by rw [List.take_of_length_le (by omega)]; exact hx)
  have:=hd y hy
  omega
 rw [if_neg e0]
 have nk:¬ na - k=0:=by simpa using e0
 rw [show sa + k + (na - k) - 1=sb - 1 by omega]
 refine wpS_bind (wpS_elem aX (wpS_bind (gal_seg HL eY lPX lY (sX _ (List.getElem_mem _)) hst sY uY (fun y hy z=>dj _ (List.getElem_mem _) y hy z.symm) (by omega) fun m hm g1 g2=>?_)))
 dsimp only
 by_cases e1:(m == 0)=true
 ·rw [if_pos e1]
  have em:m=0:=by simpa using e1
  subst em
  refine wpS_pure (whole (up_app.mpr ⟨uX,uY,fun x hx y hy=>?_⟩))
  have:=g2 y hy
  have:=ls x hx
  omega
 rw [if_neg e1]
 have nm:¬ m=0:=by simpa using e1
 have eXs:X=X.take k++X.drop k:=(List.take_append_drop _ _).symm
 have eYs:Y=Y.take m++Y.drop m:=(List.take_append_drop _ _).symm
 have e5:(arrOf st).toList=(P++X.take k)++X.drop k++(Y++T):=by rw [eX]; simp
 have eYT:Y++T=Y.take m++(Y.drop m++T):=by rw [<- List.append_assoc,List.take_append_drop]
 have e6:(arrOf st).toList=(P++X)++Y.take m++(Y.drop m++T):=by rw [eX,eYT]; simp only [List.append_assoc]
 have lPk:(P++X.take k).length=sa + k:=by rw [List.length_append,List.length_take]; omega
 have ex:((arrOf st).extract (sa + k) sb).toList=X.drop k:=seg_ext e5 lPk (by rw [List.length_drop]; omega)
 have ey:((arrOf st).extract sb (sb + m)).toList=Y.take m:=seg_ext e6 lPX (by rw [List.length_take]; omega)
 have sx:((arrOf st).extract (sa + k) sb).size=X.length - k:=by rw [<- Array.length_toList,ex,List.length_drop]
 have sy:((arrOf st).extract sb (sb + m)).size=m:=by rw [<- Array.length_toList,ey,List.length_take]; omega
 have lastX:(X.drop k)[X.length - k - 1]?=some (X[X.length - 1]'(by omega)):=by
  rw [List.getElem?_drop,List.getElem?_eq_getElem (by omega)]
  congr 2
  omega
 have firstY:(Y.take m)[0]?=some Y[0]:=by
  rw [List.getElem?_take_of_lt (by omega),List.getElem?_eq_getElem hy0]
 have fin:∀ (r:Array Keyed) (st':SortSt),Keep (setPending st pn) st'->MRes R (X.drop k) (Y.take m) r.toList->wpS M A E s (do
   modify fun s=>setArr s (r.toList.zipIdx.foldl (fun a (p,j)=>a.setIfInBounds (sa + k + j) p) (arrOf s))
   return (failedOf (<- get)).isNone) Q st':=fun r st' kp ⟨rp,ru⟩=>by
  refine wpS_bind (wpS_modify (wpS_bind (wpS_get (wpS_pure ?_))))
  rw [show failedOf (setArr st' _)=failedOf st' from rfl,kp.2.2.2,show failedOf (setPending st pn)=failedOf st from rfl,hf]
  have ea:(arrOf st').toList=(P++X.take k)++(X.drop k++Y.take m)++(Y.drop m++T):=by
   rw [kp.2.1,show arrOf (setPending st pn)=arrOf st from rfl,e5,eYT]
   simp only [List.append_assoc]
  have lb:=lay_back r.toList 0 (sa + k) (arrOf st') (P++X.take k) (X.drop k++Y.take m) (Y.drop m++T) ea lPk rp.length_eq.symm
  refine q _ (X.take k++r.toList++Y.drop m) (kp.1.trans hst) (by rw [show failedOf (setArr st' _)=failedOf st' from rfl,kp.2.2.2]; exact hf) (by rw [show pendingOf (setArr st' _)=pendingOf st' from rfl,kp.2.2.1]) ?_ ?_ ?_
  ·refine Eq.trans lb ?_
   simp
  ·refine ((rp.append_left _).append_right _).trans ?_
   rw [<- List.append_assoc,List.take_append_drop,List.append_assoc,List.take_append_drop]
  ·have mem:∀ z∈r.toList,z∈X.drop k\/z∈Y.take m:=fun z hz=>List.mem_append.mp (rp.mem_iff.mp hz)
   refine up_app.mpr ⟨up_app.mpr ⟨uX.sublist (List.take_sublist _ _),ru,fun x hx z hz=>?_⟩,uY.sublist (List.drop_sublist _ _),fun x hx y hy=>?_⟩
   ·have l1:=h1 x hx
    rcases mem z hz with q' | q'
    ·have:=h2 z q'; omega
    ·have:=hd z (List.mem_of_mem_take q'); omega
   ·have l2:=g2 y hy
    rcases List.mem_append.mp hx with q' | q'
    ·have:=ls x (List.mem_of_mem_take q'); omega
    ·rcases mem x q' with q' | q'
     ·have:=ls x (List.mem_of_mem_drop q'); omega
     ·have:=g1 x q'; omega
 have dj2:∀ x∈X.drop k,∀ y∈Y.take m,R x≠R y:=fun x hx y hy=>dj x (List.mem_of_mem_drop hx) y (List.mem_of_mem_take hy)
 split
 ·refine wpS_bind (wpS_mergeLo HL ⟨fun x hx=>sX x (List.mem_of_mem_drop (by rwa [ex] at hx)),fun x hx=>sY x (List.mem_of_mem_take (by rwa [ey] at hx)),by rw [ex]; exact uX.sublist (List.drop_sublist _ _),by rw [ey]; exact uY.sublist (List.take_sublist _ _),by rw [ex,ey]; exact dj2,fun x hx y hy=>?_⟩ hst (by omega) (by omega) (fun p hp x hx=>?_) fun r st' kp hr=>fin r st' kp (by rw [ex,ey] at hr; exact hr))
  ·rw [ex,sx,lastX] at hx
   cases hx
   rw [ey] at hy
   exact g1 y hy
  ·rw [<- Array.getElem?_toList,ey,firstY] at hp
   cases hp
   rw [ex] at hx
   exact h2 x hx
 ·refine wpS_bind (wpS_mergeHi HL ⟨fun x hx=>sX x (List.mem_of_mem_drop (by rwa [ex] at hx)),fun x hx=>sY x (List.mem_of_mem_take (by rwa [ey] at hx)),by rw [ex]; exact uX.sublist (List.drop_sublist _ _),by rw [ey]; exact uY.sublist (List.take_sublist _ _),by rw [ex,ey]; exact dj2,fun y hy x hx=>?_⟩ hst (by omega) (by omega) (fun p hp x hx=>?_) fun r st' kp hr=>fin r st' kp (by rw [ex,ey] at hr; exact hr))
  ·rw [ey,firstY] at hy
   cases hy
   rw [ex] at hx
   exact h2 x hx
  ·rw [<- Array.getElem?_toList,ex,sx,lastX] at hp
   cases hp
   rw [ey] at hx
   exact g1 x hx
end
section
variable {M:Model} {A:Around} {E:Value->Shared->Prop} {s:Shared} {κ:SortKind} {S:Keyed->Prop} {R:Keyed->Int} {N:Nat}
def rkA (R:Keyed->Int) (xs:Array Keyed) (i:Nat):Int:=match xs[i]? with | some x=>R x | none=>0
structure B0 (κ:SortKind) (S:Keyed->Prop) (R:Keyed->Int) (N:Nat) (st:SortSt):Prop where
 kind:kindOf st=κ
 fail:failedOf st=none
 size:(arrOf st).size=N
 s:∀ x∈(arrOf st).toList,S x
 nd:((arrOf st).toList.map R).Nodup
def B0.at {st:SortSt} (B:B0 κ S R N st) {i:Nat} (hi:i < N):∃ x,(arrOf st)[i]?=some x/\S x/\R x=rkA R (arrOf st) i:=by
 have hi':i < (arrOf st).size:=by rw [B.size]; exact hi
 have e:(arrOf st)[i]?=some (arrOf st)[i]:=Array.getElem?_eq_getElem hi'
 refine ⟨(arrOf st)[i],e,B.s _ (by simp),?_⟩
 unfold rkA
 rw [e]
theorem B0.ne {st:SortSt} (B:B0 κ S R N st) {i j:Nat} (hi:i < N) (hj:j < N) (h:i≠j):rkA R (arrOf st) i≠rkA R (arrOf st) j:=fun z=>by
 obtain ⟨x,ex,_,rx⟩:=B.at hi
 obtain ⟨y,ey,_,ry⟩:=B.at hj
 rw [<- rx,<- ry] at z
 have sz:=B.size
 have li:i < ((arrOf st).toList.map R).length:=by simp; omega
 have lj:j < ((arrOf st).toList.map R).length:=by simp; omega
 rw [<- Array.getElem?_toList] at ex ey
 obtain ⟨_,e1⟩:=List.getElem?_eq_some_iff.mp ex
 obtain ⟨_,e2⟩:=List.getElem?_eq_some_iff.mp ey
 exact h ((List.getElem_inj (h₀:=li) (h₁:=lj) B.nd).mp (by rw [List.getElem_map,List.getElem_map,e1,e2,z]))
def B0.perm {st:SortSt} (B:B0 κ S R N st) {xs:Array Keyed} (p:xs.Perm (arrOf st)):B0 κ S R N (setArr st xs):=by
 have pl:=Array.perm_iff_toList_perm.mp p
 exact ⟨B.kind,B.fail,by show xs.size=N; rw [<- B.size]; exact p.size_eq,fun x hx=>B.s x (pl.mem_iff.mp hx),(pl.map R).nodup_iff.mpr B.nd⟩
def wpS_ltI (HL:LtS M A E s κ S R) {st:SortSt} {i j:Nat} {Q:Option Bool->SortSt->Prop} (B:B0 κ S R N st) (hi:i < N) (hj:j < N) (h:Q (some (decide (rkA R (arrOf st) i < rkA R (arrOf st) j))) st):wpS M A E s (ltAt' i j) Q st:=by
 obtain ⟨x,ex,sx,rx⟩:=B.at hi
 obtain ⟨y,ey,sy,ry⟩:=B.at hj
 rw [ltAt'_eq]
 refine wpS_bind (wpS_get (wpS_bind (wpS_elem ex (wpS_bind (wpS_elem ey (HL _ _ _ _ sx sy B.kind ?_))))))
 rw [rx,ry]
 exact h
def SegUp (R:Keyed->Int) (xs:Array Keyed) (lo n:Nat):Prop:=∀ i j,lo<=i->i < j->j < lo + n->rkA R xs i < rkA R xs j
theorem SegUp.more {xs:Array Keyed} {lo n:Nat} (h:SegUp R xs lo n) (h1:1<=n) (l:rkA R xs (lo + n - 1) < rkA R xs (lo + n)):SegUp R xs lo (n + 1):=fun i j hi hij hj=>by
 rcases Nat.lt_or_ge j (lo + n) with z | z
 ·exact h i j hi hij z
 ·have:j=lo + n:=by omega
  subst this
  rcases Nat.lt_or_ge i (lo + n - 1) with y | y
  ·exact Int.lt_trans (h i (lo + n - 1) hi y (by omega)) l
  ·have:i=lo + n - 1:=by omega
   subst this
   exact l
theorem asc_loop (HL:LtS M A E s κ S R) {st:SortSt} {lo nrem a:Nat} {Q:Option (Option Nat)×Nat->SortSt->Prop} (B:B0 κ S R N st) (hN:lo + nrem=N) (h1:1<=a) (ha:a<=nrem) (su:SegUp R (arrOf st) lo a)
  (q:∀ n,a<=n->n<=nrem->SegUp R (arrOf st) lo n->(n=nrem\/(n < nrem/\rkA R (arrOf st) (lo + n) < rkA R (arrOf st) (lo + n - 1)))->Q (none,n) st) :
  wpS M A E s (forIn [a:nrem] ((none,a):Option (Option Nat)×Nat) fun _ __s=>do
   let __x <- ltAt' (lo + __s.snd) (lo + __s.snd - 1)
   match __x with
   | some smaller=>if smaller=true then pure (ForInStep.done (none,__s.snd)) else pure (ForInStep.yield (none,__s.snd + 1))
   | _=>pure (ForInStep.done (some none,__s.snd))) Q st:=by
 refine wpS_forRange (I:=fun x c st'=>st'=st/\∃ n,c=(none,n)/\n=x/\SegUp R (arrOf st) lo n) ?_ ?_ ⟨rfl,a,rfl,rfl,su⟩
 ·rintro x c st' hx hx2 ⟨rfl,n,rfl,rfl,su⟩
  dsimp only
  refine wpS_bind (wpS_ltI HL B (by omega) (by omega) ?_)
  by_cases l:rkA R (arrOf st') (lo + n) < rkA R (arrOf st') (lo + n - 1)
  ·simp only [l,decide_true,if_true]
   exact wpS_pure (q n hx (by omega) su (.inr ⟨hx2,l⟩))
  ·simp only [l,decide_false,Bool.false_eq_true,if_false]
   have ne:=B.ne (i:=lo + n) (j:=lo + n - 1) (by omega) (by omega) (by omega)
   exact wpS_pure ⟨rfl,_,rfl,rfl,su.more (by omega) (by omega)⟩
 ·rintro c st' ⟨rfl,n,rfl,e,su⟩
  exact q n (by omega) (by omega) su (.inl (by omega))
def rk_mirror {xs:Array Keyed} {i j:Nat} (hj:j<=xs.size) (k:Nat):rkA R (mirror xs i j ((j - i) / 2)) k=if i<=k/\k < j then rkA R xs (i + j - 1 - k) else rkA R xs k:=by
 unfold rkA
 rw [getElem?_mirror_all hj]
 by_cases h:i<=k/\k < j
 ·rw [if_pos h,if_pos h]
 ·rw [if_neg h,if_neg h]
theorem wpS_countRun (HL:LtS M A E s κ S R) {st:SortSt} {lo nrem:Nat} {Q:Option Nat->SortSt->Prop} (B:B0 κ S R N st) (hN:lo + nrem=N) (h1:1<=nrem)
  (q:∀ xs n,1<=n->n<=nrem->xs.Perm (arrOf st)->(∀ k,k < lo->xs[k]?=(arrOf st)[k]?)->SegUp R xs lo n->Q (some n) (setArr st xs)):wpS M A E s (countRun' lo nrem) Q st:=by
 rw [countRun'_eq]
 dsimp only
 have q0:∀ n,1<=n->n<=nrem->SegUp R (arrOf st) lo n->Q (some n) st:=fun n a1 a2 a3=>q (arrOf st) n a1 a2 (Array.Perm.refl _) (fun _ _=>rfl) a3
 refine wpS_bind (wpS_mono (asc_loop HL B hN (Nat.le_refl 1) h1 (fun i j hi hij hj=>absurd hj (by omega)) (Q:=fun c st'=>st'=st/\∃ n,c=(none,n)/\1<=n/\n<=nrem/\SegUp R (arrOf st) lo n/\(n=nrem\/(n < nrem/\rkA R (arrOf st) (lo + n) < rkA R (arrOf st) (lo + n - 1)))) fun n a1 a2 a3 a4=>⟨rfl,n,rfl,a1,a2,a3,a4⟩) ?_)
 rintro c st' ⟨rfl,n,rfl,a1,a2,a3,a4⟩
 dsimp only
 by_cases e:(n == nrem)=true
 ·rw [if_pos e]
  exact wpS_pure (q0 n a1 a2 a3)
 rw [if_neg e]
 have ne:¬ n=nrem:=by simpa using e
 have lt4:=(a4.resolve_left ne).2
 by_cases n1:n > 1
 ·rw [if_pos n1]
  refine wpS_bind (wpS_ltI HL B (by omega) (by omega) ?_)
  rw [decide_eq_true (a3 lo (lo + n - 1) (Nat.le_refl _) (by omega) (by omega))]
  exact wpS_pure (q0 n a1 a2 a3)
 rw [if_neg n1]
 have e1:n=1:=by omega
 subst e1
 refine wpS_bind (wpS_lift (wpAny_rule ⟨rfl,?_⟩))
 refine wpS_bind (wpS_mono (wpS_forRange (I:=fun x c st''=>st''=st'/\c=(none,x,0)/\∀ i j,lo<=i->i < j->j < lo + x->rkA R (arrOf st') j < rkA R (arrOf st') i) (Q:=fun c st''=>st''=st'/\∃ n,c=(none,n,0)/\2<=n/\n<=nrem/\∀ i j,lo<=i->i < j->j < lo + n->rkA R (arrOf st') j < rkA R (arrOf st') i) ?step ?fin ?init) ?post)
 case init =>
  refine ⟨rfl,rfl,fun i j hi hij hj=>?_⟩
  have:i=lo:=by omega
  have:j=lo + 1:=by omega
  subst i
  subst j
  exact lt4
 case fin =>
  rintro c st'' ⟨rfl,rfl,hd⟩
  exact ⟨rfl,_,rfl,by omega,by omega,hd⟩
 case step =>
  rintro x c st'' hx hx2 ⟨rfl,rfl,hd⟩
  dsimp only
  refine wpS_bind (wpS_ltI HL B (by omega) (by omega) ?_)
  by_cases l:rkA R (arrOf st'') (lo + x) < rkA R (arrOf st'') (lo + x - 1)
  ·simp only [l,decide_true,if_true,Nat.lt_irrefl,gt_iff_lt,if_false]
   refine wpS_pure ⟨rfl,rfl,fun i j hi hij hj=>?_⟩
   rcases Nat.lt_or_ge j (lo + x) with z | z
   ·exact hd i j hi hij z
   ·have:j=lo + x:=by omega
    subst this
    rcases Nat.lt_or_ge i (lo + x - 1) with y | y
    ·exact Int.lt_trans l (hd i (lo + x - 1) hi y (by omega))
    ·have:i=lo + x - 1:=by omega
     subst this
     exact l
  ·simp only [l,decide_false,Bool.false_eq_true,if_false]
   have ne:=B.ne (i:=lo + x) (j:=lo + x - 1) (by omega) (by omega) (by omega)
   refine wpS_bind (wpS_ltI HL B (by omega) (by omega) ?_)
   rw [decide_eq_true (show rkA R (arrOf st'') (lo + x - 1) < rkA R (arrOf st'') (lo + x) by omega)]
   exact wpS_pure ⟨rfl,x,rfl,by omega,by omega,hd⟩
 case post =>
  rintro c st'' ⟨rfl,n,rfl,b1,b2,hd⟩
  dsimp only
  rw [if_neg (by decide),reverseSlice'_eq]
  refine wpS_bind (wpS_modify ?_)
  have sz:=B.size
  have Bm:=B.perm (mirror_perm (arrOf st'') lo (lo + n) ((lo + n - lo) / 2))
  have rm:=fun k=>rk_mirror (R:=R) (xs:=arrOf st'') (i:=lo) (j:=lo + n) (by omega) k
  have low:∀ k,k < lo->(mirror (arrOf st'') lo (lo + n) ((lo + n - lo) / 2))[k]?=(arrOf st'')[k]?:=fun k hk=>by
   rw [getElem?_mirror_all (by omega),if_neg (by omega)]
  have pm:=mirror_perm (arrOf st'') lo (lo + n) ((lo + n - lo) / 2)
  generalize mirror (arrOf st'') lo (lo + n) ((lo + n - lo) / 2)=xs at Bm rm low pm
  have su:SegUp R xs lo n:=fun i j hi hij hj=>by
   rw [rm,rm,if_pos (by omega),if_pos (by omega)]
   exact hd _ _ (by omega) (by omega) (by omega)
  refine wpS_bind (wpS_mono (asc_loop HL Bm hN (by omega) b2 su (Q:=fun c st3=>st3=setArr st'' xs/\∃ n,c=(none,n)/\1<=n/\n<=nrem/\SegUp R xs lo n) fun n a1 a2 a3 a4=>⟨rfl,n,rfl,by omega,a2,a3⟩) ?_)
  rintro c st3 ⟨rfl,n',rfl,c1,c2,c3⟩
  exact wpS_pure (q xs n' c1 c2 pm low c3)
def rk_bubble {xs:Array Keyed} {src d:Nat} (hs:src < xs.size) (hd:d<=src) (k:Nat):rkA R (bubble xs src d) k=if k=src - d then rkA R xs src else if src - d < k/\k<=src then rkA R xs (k - 1) else rkA R xs k:=by
 unfold rkA
 rw [getElem?_bubble hs d hd]
 by_cases h:k=src - d
 ·rw [if_pos h,if_pos h]
 ·rw [if_neg h,if_neg h]
  by_cases h2:src - d < k/\k<=src
  ·rw [if_pos h2,if_pos h2]
  ·rw [if_neg h2,if_neg h2]
theorem wpS_binary (HL:LtS M A E s κ S R) {st:SortSt} {lo n ok:Nat} {Q:Bool->SortSt->Prop} (B:B0 κ S R N st) (hN:lo + n<=N) (h1:1<=n) (hok:ok<=n) (su:SegUp R (arrOf st) lo ok)
  (q:∀ xs,xs.Perm (arrOf st)->(∀ k,k < lo->xs[k]?=(arrOf st)[k]?)->SegUp R xs lo n->Q true (setArr st xs)):wpS M A E s (binarySort' lo n ok) Q st:=by
 rw [binarySort'_eq]
 refine wpS_bind (wpS_mono (wpS_forRange (I:=fun k c st'=>c=(none,())/\∃ xs,st'=setArr st xs/\xs.Perm (arrOf st)/\(∀ k,k < lo->xs[k]?=(arrOf st)[k]?)/\SegUp R xs lo (min k n)) (Q:=fun c st'=>c=(none,())/\∃ xs,st'=setArr st xs/\xs.Perm (arrOf st)/\(∀ k,k < lo->xs[k]?=(arrOf st)[k]?)/\SegUp R xs lo n) ?step ?fin ?init) ?post)
 case init =>
  refine ⟨rfl,arrOf st,rfl,Array.Perm.refl _,fun _ _=>rfl,fun i j hi hij hj=>?_⟩
  by_cases z:ok=0
  ·omega
  ·exact su i j hi hij (by omega)
 case fin =>
  rintro c st' ⟨rfl,xs,rfl,p,lw,su⟩
  rw [show min (max (max ok 1) n) n=n by omega] at su
  exact ⟨rfl,xs,rfl,p,lw,su⟩
 case post =>
  rintro c st' ⟨rfl,xs,rfl,p,lw,su⟩
  exact wpS_pure (q xs p lw su)
 case step =>
  rintro k c st' hk hkn ⟨rfl,xs,rfl,p,lw,su⟩
  rw [show min k n=k by omega] at su
  have B':=B.perm p
  have sz:xs.size=N:=B'.size
  refine wpS_bind (wpS_mono (wpS_forRange (I:=fun x c st''=>st''=setArr st xs/\∃ l r,c=(none,l,r)/\l<=r/\r<=k/\r - l<=k - x/\(∀ i,i < l->rkA R xs (lo + i) < rkA R xs (lo + k))/\∀ i,r<=i->i < k->rkA R xs (lo + k) < rkA R xs (lo + i)) (Q:=fun c st''=>st''=setArr st xs/\∃ l,c=(none,l,l)/\l<=k/\(∀ i,i < l->rkA R xs (lo + i) < rkA R xs (lo + k))/\∀ i,l<=i->i < k->rkA R xs (lo + k) < rkA R xs (lo + i)) ?istep ?ifin ?iinit) ?ipost)
  case iinit=>exact ⟨rfl,0,k,rfl,Nat.zero_le _,Nat.le_refl _,Nat.le_refl _,fun i hi=>absurd hi (Nat.not_lt_zero _),fun i a b=>by omega⟩
  case ifin =>
   rintro c st'' ⟨rfl,l,r,rfl,a1,a2,a3,a4,a5⟩
   have:l=r:=by omega
   subst this
   exact ⟨rfl,l,rfl,a2,a4,a5⟩
  case istep =>
   rintro x c st'' _ hx ⟨rfl,l,r,rfl,a1,a2,a3,a4,a5⟩
   dsimp only
   by_cases hge:l≥r
   ·rw [if_pos hge]
    have:l=r:=by omega
    subst this
    exact wpS_pure ⟨rfl,l,rfl,a2,a4,a5⟩
   ·rw [if_neg hge]
    refine wpS_bind (wpS_ltI HL B' (by omega) (by omega) ?_)
    by_cases l2:rkA R xs (lo + k) < rkA R xs (lo + (l + r) / 2)
    ·simp only [l2,decide_true,if_true]
     refine wpS_pure ⟨rfl,l,(l + r) / 2,rfl,by omega,by omega,by omega,a4,fun i b1 b2=>?_⟩
     rcases Nat.lt_or_ge ((l + r) / 2) i with z | z
     ·exact Int.lt_trans l2 (su _ _ (by omega) (by omega) (by omega))
     ·have:i=(l + r) / 2:=by omega
      subst this
      exact l2
    ·simp only [l2,decide_false,Bool.false_eq_true,if_false]
     have ne:=B'.ne (i:=lo + k) (j:=lo + (l + r) / 2) (by omega) (by omega) (by omega)
     have l3:rkA R xs (lo + (l + r) / 2) < rkA R xs (lo + k):=by
      have ne:rkA R xs (lo + k)≠rkA R xs (lo + (l + r) / 2):=ne
      omega
     refine wpS_pure ⟨rfl,(l + r) / 2 + 1,r,rfl,by omega,by omega,by omega,fun i b1=>?_,a5⟩
     rcases Nat.lt_or_ge i ((l + r) / 2) with z | z
     ·exact Int.lt_trans (su _ _ (by omega) (by omega) (by omega)) l3
     ·have:i=(l + r) / 2:=by omega
      subst this
      exact l3
  case ipost =>
   rintro c st'' ⟨rfl,l,rfl,a2,a4,a5⟩
   show wpS _ _ _ _ (do moveDown' (lo + k) (lo + l); pure (ForInStep.yield (none,()))) _ _
   rw [moveDown'_eq]
   have rb:=fun i=>rk_bubble (R:=R) (xs:=xs) (src:=lo + k) (d:=lo + k - (lo + l)) (by omega) (by omega) i
   refine wpS_bind (wpS_modify (wpS_pure ⟨rfl,bubble xs (lo + k) (lo + k - (lo + l)),rfl,(bubble_perm _ _ _).trans p,fun i hi=>?_,?_⟩))
   ·rw [getElem?_bubble (by omega) _ (by omega),if_neg (by omega),if_neg (by omega)]
    exact lw i hi
   ·rw [show min (k + 1) n=k + 1 by omega]
    intro i j hi hij hj
    rw [rb,rb,show lo + k - (lo + k - (lo + l))=lo + l by omega]
    have s1:∀ i,lo<=i->i < lo + l->rkA R xs i < rkA R xs (lo + k):=fun i h1 h2=>by have:=a4 (i - lo) (by omega); rwa [show lo + (i - lo)=i by omega] at this
    have s2:∀ i,lo + l<=i->i < lo + k->rkA R xs (lo + k) < rkA R xs i:=fun i h1 h2=>by have:=a5 (i - lo) (by omega) (by omega); rwa [show lo + (i - lo)=i by omega] at this
    repeat' split
    all_goals first
     | (exfalso; omega)
     | exact s1 _ (by omega) (by omega)
     | exact s2 _ (by omega) (by omega)
     | exact su _ _ (by omega) (by omega) (by omega)
end
section
variable {M:Model} {A:Around} {E:Value->Shared->Prop} {s:Shared} {κ:SortKind} {S:Keyed->Prop} {R:Keyed->Int} {N:Nat} {a₀:Array Keyed}
def Pd:Nat->List (List Keyed)->List (Nat×Nat×Nat)->Prop
 | _,[],[]=>True
 | o,g::gs,p::ps=>p.1=o/\p.2.1=g.length/\Pd (o + g.length) gs ps
 | _,_,_=>False
theorem Pd.len:∀ {o:Nat} {gs:List (List Keyed)} {ps:List (Nat×Nat×Nat)},Pd o gs ps->ps.length=gs.length
 | _,[],[],_=>rfl
 | _,_::_,_::_,h=>congrArg (· + 1) (Pd.len h.2.2)
 | _,[],_::_,h=>h.elim
 | _,_::_,[],h=>h.elim
theorem pd_app:∀ {o:Nat} {gs hs:List (List Keyed)} {ps:List (Nat×Nat×Nat)},Pd o (gs++hs) ps->∃ p1 p2,ps=p1++p2/\Pd o gs p1/\Pd (o + gs.flatten.length) hs p2
 | _,[],_,ps,h=>⟨[],ps,rfl,trivial,by simpa using h⟩
 | _,_::_,_,[],h=>h.elim
 | o,g::gs,hs,p::ps,h=>by
  obtain ⟨p1,p2,e,h1,h2⟩:=pd_app (gs:=gs) (hs:=hs) h.2.2
  refine ⟨p::p1,p2,by rw [e]; rfl,⟨h.1,h.2.1,h1⟩,?_⟩
  rw [List.flatten_cons,List.length_append,<- Nat.add_assoc]
  exact h2
theorem pd_join:∀ {o:Nat} {gs hs:List (List Keyed)} {p1 p2:List (Nat×Nat×Nat)},Pd o gs p1->Pd (o + gs.flatten.length) hs p2->Pd o (gs++hs) (p1++p2)
 | _,[],_,[],_,_,h=>by simpa using h
 | _,[],_,_::_,_,h,_=>h.elim
 | _,_::_,_,[],_,h,_=>h.elim
 | o,g::gs,hs,p::p1,p2,h1,h2=>by
  rw [List.flatten_cons,List.length_append,<- Nat.add_assoc] at h2
  exact ⟨h1.1,h1.2.1,pd_join h1.2.2 h2⟩
theorem pd_mod {pw:Nat}:∀ {o i:Nat} {gs:List (List Keyed)} {ps:List (Nat×Nat×Nat)},Pd o gs ps->Pd o gs (ps.modify i fun x=>(x.1,x.2.1,pw))
 | _,_,[],[],h=>by simpa using h
 | _,0,g::gs,p::ps,h=>by
  rw [List.modify_zero_cons]
  exact h
 | _,i + 1,g::gs,p::ps,h=>by
  rw [List.modify_succ_cons]
  exact ⟨h.1,h.2.1,pd_mod h.2.2⟩
 | _,_,[],_::_,h=>h.elim
 | _,_,_::_,[],h=>h.elim
structure TmS (κ:SortKind) (R:Keyed->Int) (a₀:Array Keyed) (st:SortSt) (gs:List (List Keyed)) (rest:List Keyed):Prop where
 kind:kindOf st=κ
 fail:failedOf st=none
 perm:(arrOf st).toList.Perm a₀.toList
 arr:(arrOf st).toList=gs.flatten++rest
 up:∀ g∈gs,g≠[]/\Up R g
 pend:Pd 0 gs (pendingOf st).toList
variable {gs:List (List Keyed)} {rest:List Keyed}
def TmS.size {st:SortSt} (T:TmS κ R a₀ st gs rest):(arrOf st).size=a₀.size:=by
 have:=T.perm.length_eq
 simpa using this
def TmS.len {st:SortSt} (T:TmS κ R a₀ st gs rest):gs.flatten.length + rest.length=a₀.size:=by
 rw [<- List.length_append,<- T.arr,Array.length_toList,T.size]
def TmS.b0 {st:SortSt} (T:TmS κ R a₀ st gs rest) (hS:∀ x∈a₀.toList,S x) (nd:(a₀.toList.map R).Nodup):B0 κ S R a₀.size st :=
 ⟨T.kind,T.fail,T.size,fun x hx=>hS x (T.perm.mem_iff.mp hx),(T.perm.map R).nodup_iff.mpr nd⟩
theorem gs_len:∀ {gs:List (List Keyed)},(∀ g∈gs,g≠[]/\Up R g)->gs.length<=gs.flatten.length
 | [],_=>Nat.le_refl _
 | g::gs,h=>by
  have:=gs_len fun g hg=>h g (List.mem_cons_of_mem _ hg)
  have:=List.length_pos_iff.mpr (h g List.mem_cons_self).1
  rw [List.flatten_cons,List.length_append,List.length_cons]
  omega
theorem TmS.merge (HL:LtS M A E s κ S R) (hS:∀ x∈a₀.toList,S x) (nd:(a₀.toList.map R).Nodup) {st:SortSt} {i:Nat} {Q:Bool->SortSt->Prop} (T:TmS κ R a₀ st gs rest) (hi:i + 1 < gs.length)
  (q:∀ st' hs,TmS κ R a₀ st' hs rest->hs.length + 1=gs.length->hs.flatten.length=gs.flatten.length->Q true st'):wpS M A E s (mergeAt' i) Q st:=by
 have eg:gs=gs.take i++gs[i]::gs[i + 1]::gs.drop (i + 2):=by
  rw [<- List.drop_eq_getElem_cons,<- List.drop_eq_getElem_cons,List.take_append_drop]
 have lG:(gs.take i).length=i:=by rw [List.length_take]; omega
 generalize gs.take i=G at eg lG
 generalize gs[i]=X at eg
 generalize gs[i + 1]=Y at eg
 generalize gs.drop (i + 2)=H at eg
 subst eg
 obtain ⟨p1,p2,ep,h1,h2⟩:=pd_app T.pend
 match p2,h2 with
 | [],h2=>exact h2.elim
 | [_],h2=>exact h2.2.2.elim
 | (sa,na,pw)::(sb,nb,pw2)::pH,⟨ea,en,eb,em,h3⟩ =>
 have ea:sa=0 + G.flatten.length:=ea
 have en:na=X.length:=en
 have eb:sb=0 + G.flatten.length + X.length:=eb
 have em:nb=Y.length:=em
 have l1:p1.length=i:=h1.len.trans lG
 have hX:=T.up X (by simp)
 have hY:=T.up Y (by simp)
 have arr:(arrOf st).toList=G.flatten++X++Y++(H.flatten++rest):=by
  rw [T.arr]
  simp
 have mem:∀ x∈X,x∈(arrOf st).toList:=fun x hx=>by rw [arr]; simp [hx]
 have memY:∀ x∈Y,x∈(arrOf st).toList:=fun x hx=>by rw [arr]; simp [hx]
 have nd2:((arrOf st).toList.map R).Nodup:=(T.perm.map R).nodup_iff.mpr nd
 have dj:∀ x∈X,∀ y∈Y,R x≠R y:=fun x hx y hy z=>by
  rw [arr,show G.flatten++X++Y++(H.flatten++rest)=G.flatten++((X++Y)++(H.flatten++rest)) by simp,List.map_append,List.map_append,List.map_append] at nd2
  have n3:=(List.nodup_append.mp (List.nodup_append.mp nd2).2.1).1
  exact (List.nodup_append.mp n3).2.2 _ (List.mem_map_of_mem hx) _ (List.mem_map_of_mem hy) z
 refine wpS_mergeAt HL (sa:=sa) (na:=na) (pw:=pw) (sb:=sb) (nb:=nb) (pw2:=pw2) ?_ ?_ arr (by omega) en.symm em.symm (by omega) (by rw [en]; exact List.length_pos_iff.mpr hX.1) (by rw [em]; exact List.length_pos_iff.mpr hY.1) hX.2 hY.2 (fun x hx=>hS x (T.perm.mem_iff.mp (mem x hx))) (fun x hx=>hS x (T.perm.mem_iff.mp (memY x hx))) dj T.kind T.fail ?_
 ·rw [<- Array.getElem?_toList,ep,List.getElem?_append_right (by omega),l1,Nat.sub_self]
  rfl
 ·rw [<- Array.getElem?_toList,ep,List.getElem?_append_right (by omega),l1,Nat.add_sub_cancel_left]
  rfl
 ·intro st' Z k1 k2 k3 k4 k5 k6
  have zl:Z.length=X.length + Y.length:=by rw [k5.length_eq,List.length_append]
  refine q st' (G++Z::H) ⟨k1,k2,?_,?_,?_,?_⟩ (by simp; omega) (by simp; omega)
  ·refine List.Perm.trans ?_ T.perm
   rw [k4,arr]
   refine List.Perm.append_right _ ?_
   rw [List.append_assoc]
   exact List.Perm.append_left _ k5
  ·rw [k4]
   simp
  ·intro g hg
   rcases List.mem_append.mp hg with z | z
   ·exact T.up g (List.mem_append_left _ z)
   ·rcases List.mem_cons.mp z with rfl | z
    ·exact ⟨fun e0=>hX.1 (List.length_eq_zero_iff.mp (by rw [e0] at zl; simp at zl; omega)),k6⟩
    ·exact T.up g (by simp [z])
  ·rw [k3]
   have:(((pendingOf st).setIfInBounds i (sa,na + nb,pw)).eraseIdxIfInBounds (i + 1)).toList=p1++(sa,na + nb,pw)::pH:=by
    rw [Array.toList_eraseIdxIfInBounds,Array.toList_setIfInBounds,ep,<- l1]
    simp [List.eraseIdx_append]
    intro h
    omega
   rw [this]
   refine pd_join h1 ⟨ea,?_,?_⟩
   ·show na + nb=Z.length
    omega
   ·rw [zl,<- Nat.add_assoc]
    exact h3
def rk_get {xs:Array Keyed} {i:Nat} (h:i < xs.toList.length):rkA R xs i=R xs.toList[i]:=by
 unfold rkA
 rw [<- Array.getElem?_toList,List.getElem?_eq_getElem h]
theorem seg_up {xs:Array Keyed} {lo n:Nat} (h:SegUp R xs lo n):Up R ((xs.toList.drop lo).take n):=by
 refine List.pairwise_iff_getElem.mpr fun i j hi hj hij=>?_
 have hi':=hi
 have hj':=hj
 rw [List.length_take,List.length_drop] at hi' hj'
 have:=h (lo + i) (lo + j) (by omega) (by omega) (by omega)
 rw [rk_get (by omega),rk_get (by omega)] at this
 rw [List.getElem_take,List.getElem_take,List.getElem_drop,List.getElem_drop]
 exact this
theorem TmS.move {st:SortSt} {xs:Array Keyed} (T:TmS κ R a₀ st gs rest) (p:xs.Perm (arrOf st)) (lw:∀ k,k < gs.flatten.length->xs[k]?=(arrOf st)[k]?):TmS κ R a₀ (setArr st xs) gs (xs.toList.drop gs.flatten.length):=by
 refine ⟨T.kind,T.fail,(Array.perm_iff_toList_perm.mp p).trans T.perm,?_,T.up,T.pend⟩
 show xs.toList=_
 refine (List.take_append_drop gs.flatten.length xs.toList).symm.trans (congrArg (·++_) ?_)
 refine List.ext_getElem? fun k=>?_
 rw [List.getElem?_take]
 by_cases hk:k < gs.flatten.length
 ·rw [if_pos hk,Array.getElem?_toList,lw k hk,<- Array.getElem?_toList,T.arr,List.getElem?_append_left hk]
 ·rw [if_neg hk,List.getElem?_eq_none (by omega)]
def tsTail (N lo n:Nat):StateT SortSt Sem (ForInStep (Option Unit×Nat)):=do
 match (pendingOf (<- get)).back? with
 | some (s1,n1,_)=>do
  let __s <- forIn [:N] ((none,()):Option Unit×Unit) fun _ _=>do
   let p:=pendingOf (<- get)
   match (if p.size > 1 then p[p.size - 2]? else none) with
   | some (_,_,older) =>
    if older<=power' N (2 * s1 + n1) (2 * s1 + n1 + n1 + n) N then pure (ForInStep.done (none,()))
    else do
     let b <- mergeAt' (p.size - 2)
     if (!b)=true then pure (ForInStep.done (some (),())) else pure (ForInStep.yield (none,()))
   | _=>pure (ForInStep.done (none,()))
  match __s.1 with
  | some r=>pure (ForInStep.done (some r,lo))
  | none=>do
   modify fun s=>setPending s ((pendingOf s).modify ((pendingOf s).size - 1) fun x=>(x.1,x.2.1,power' N (2 * s1 + n1) (2 * s1 + n1 + n1 + n) N))
   modify fun s=>setPending s ((pendingOf s).push (lo,n,0))
   pure (ForInStep.yield (none,lo + n))
 | _=>do
  modify fun s=>setPending s ((pendingOf s).push (lo,n,0))
  pure (ForInStep.yield (none,lo + n))
theorem TmS.push {st:SortSt} {n:Nat} (T:TmS κ R a₀ st gs rest) (h1:1<=n) (hn:n<=rest.length) (u:Up R (rest.take n)):TmS κ R a₀ (setPending st ((pendingOf st).push (gs.flatten.length,n,0))) (gs++[rest.take n]) (rest.drop n):=by
 have ln:(rest.take n).length=n:=by rw [List.length_take]; omega
 refine ⟨T.kind,T.fail,T.perm,?_,fun g hg=>?_,?_⟩
 ·refine T.arr.trans ?_
  rw [List.flatten_append,List.flatten_singleton,List.append_assoc,List.take_append_drop]
 ·rcases List.mem_append.mp hg with z | z
  ·exact T.up g z
  ·rw [List.mem_singleton] at z
   subst z
   exact ⟨fun e=>by rw [e] at ln; simp at ln; omega,u⟩
 ·show Pd 0 _ ((pendingOf st).push _).toList
  rw [Array.toList_push]
  exact pd_join T.pend ⟨by simp,ln.symm,trivial⟩
theorem ts_tail (HL:LtS M A E s κ S R) (hS:∀ x∈a₀.toList,S x) (nd:(a₀.toList.map R).Nodup) {st:SortSt} {n:Nat} (T:TmS κ R a₀ st gs rest) (h1:1<=n) (hn:n<=rest.length) (u:Up R (rest.take n)) :
  wpS M A E s (tsTail a₀.size gs.flatten.length n) (fun r st'=>∃ hs rest',r=ForInStep.yield (none,hs.flatten.length)/\TmS κ R a₀ st' hs rest'/\gs.flatten.length + 1<=hs.flatten.length) st:=by
 have ln:(rest.take n).length=n:=by rw [List.length_take]; omega
 have fin:∀ {st':SortSt} {hs:List (List Keyed)},TmS κ R a₀ st' hs rest->hs.flatten.length=gs.flatten.length->wpS M A E s (do
   modify fun s=>setPending s ((pendingOf s).push (gs.flatten.length,n,0))
   pure (ForInStep.yield ((none,gs.flatten.length + n):Option Unit×Nat))) (fun r st'=>∃ hs rest',r=ForInStep.yield (none,hs.flatten.length)/\TmS κ R a₀ st' hs rest'/\gs.flatten.length + 1<=hs.flatten.length) st':=fun {st' hs} T' e=>by
  rw [<- e]
  refine wpS_bind (wpS_modify (wpS_pure ⟨hs++[rest.take n],rest.drop n,?_,T'.push h1 hn u,?_⟩))
  ·rw [List.flatten_append,List.flatten_singleton,List.length_append,ln]
  ·rw [List.flatten_append,List.flatten_singleton,List.length_append,ln]
   omega
 unfold tsTail
 refine wpS_bind (wpS_get ?_)
 cases (pendingOf st).back? with
 | none=>exact fin T rfl
 | some p =>
  obtain ⟨s1,n1,p1⟩:=p
  dsimp only
  refine wpS_bind (wpS_mono (wpS_forRange (I:=fun _ c st'=>c=(none,())/\∃ hs,TmS κ R a₀ st' hs rest/\hs.flatten.length=gs.flatten.length) (Q:=fun c st'=>c=(none,())/\∃ hs,TmS κ R a₀ st' hs rest/\hs.flatten.length=gs.flatten.length) ?_ (fun _ _ h=>h) ⟨rfl,gs,T,rfl⟩) ?_)
  ·rintro x c st' _ _ ⟨rfl,hs,T',e⟩
   refine wpS_bind (wpS_get ?_)
   have pl:(pendingOf st').size=hs.length:=by rw [<- Array.length_toList]; exact T'.pend.len
   by_cases h2:(pendingOf st').size > 1
   ·rw [if_pos h2]
    cases (pendingOf st')[(pendingOf st').size - 2]? with
    | none=>exact wpS_pure ⟨rfl,hs,T',e⟩
    | some p =>
     obtain ⟨a,b,older⟩:=p
     dsimp only
     split
     ·exact wpS_pure ⟨rfl,hs,T',e⟩
     ·refine wpS_bind (T'.merge HL hS nd (by omega) fun st3 hs3 T3 l3 l4=>?_)
      simp only [Bool.not_true,Bool.false_eq_true,if_false]
      exact wpS_pure ⟨rfl,hs3,T3,l4.trans e⟩
   ·rw [if_neg h2]
    exact wpS_pure ⟨rfl,hs,T',e⟩
  ·rintro c st' ⟨rfl,hs,T',e⟩
   dsimp only
   refine wpS_bind (wpS_modify (fin (hs:=hs) ⟨T'.kind,T'.fail,T'.perm,T'.arr,T'.up,?_⟩ e))
   show Pd 0 hs ((pendingOf st').modify _ _).toList
   rw [Array.toList_modify]
   exact pd_mod T'.pend
def wpS_same {α:Type} {f g:StateT SortSt Sem α} {Q:α->SortSt->Prop} {st:SortSt} (e:f=g) (h:wpS M A E s g Q st):wpS M A E s f Q st:=e ▸ h
theorem wpS_sortRunsT (HL:LtS M A E s κ S R) (hS:∀ x∈a₀.toList,S x) (nd:(a₀.toList.map R).Nodup) {st:SortSt} {Q:Unit->SortSt->Prop} (e0:arrOf st=a₀) (hp:pendingOf st=#[]) (hk:kindOf st=κ) (hf:failedOf st=none)
  (q:∀ st',(arrOf st').toList.Perm a₀.toList->kindOf st'=κ->failedOf st'=none->Up R (arrOf st').toList->Q () st'):wpS M A E s sortRuns' Q st:=by
 rw [sortRuns'_eq]
 refine wpS_bind (wpS_get ?_)
 dsimp only
 rw [e0]
 generalize minRun' a₀.size a₀.size 0=mr
 have T0:TmS κ R a₀ st [] a₀.toList:=⟨hk,hf,by rw [e0],by rw [e0]; rfl,fun g hg=>absurd hg List.not_mem_nil,by rw [hp]; exact trivial⟩
 refine wpS_bind (wpS_mono (wpS_forRange
  (I:=fun x c st'=>∃ gs rest,c=(none,gs.flatten.length)/\TmS κ R a₀ st' gs rest/\x<=gs.flatten.length)
  (Q:=fun c st'=>∃ gs,c=(none,a₀.size)/\TmS κ R a₀ st' gs []) ?step ?fin ⟨[],_,rfl,T0,Nat.le_refl _⟩) ?post)
 case fin =>
  rintro c st' ⟨gs,rest,rfl,T,hx⟩
  have l:=T.len
  rw [show max 0 a₀.size=a₀.size by omega] at hx
  have:rest=[]:=List.length_eq_zero_iff.mp (by omega)
  subst this
  exact ⟨gs,by rw [show gs.flatten.length=a₀.size by simpa using l],T⟩
 case step =>
  rintro x c st' _ hx ⟨gs,rest,rfl,T,hx2⟩
  have l:=T.len
  dsimp only
  by_cases hlo:gs.flatten.length≥a₀.size
  ·rw [if_pos hlo]
   have:rest=[]:=List.length_eq_zero_iff.mp (by omega)
   subst this
   exact wpS_pure ⟨gs,by rw [show gs.flatten.length=a₀.size by simpa using l],T⟩
  rw [if_neg hlo]
  have B:=T.b0 hS nd
  refine wpS_bind (wpS_countRun HL B (by omega) (by omega) fun xs n n1 n2 p lw su=>?_)
  dsimp only
  have T2:=T.move p lw
  have xl:xs.toList.length=a₀.size:=by rw [Array.length_toList,p.size_eq,T.size]
  by_cases hm:n < mr
  ·rw [if_pos hm]
   refine wpS_bind (wpS_lift (wpAny_rule ⟨rfl,?_⟩))
   refine wpS_bind (wpS_binary HL (B.perm p) (by omega) (by omega) (by omega) su fun ys p2 lw2 su2=>?_)
   have T3:=T2.move p2 lw2
   have yl:ys.toList.length=a₀.size:=by rw [Array.length_toList,p2.size_eq]; rw [<- xl]; rfl
   simp only [Bool.not_true,Bool.false_eq_true,if_false]
   refine wpS_mono (wpS_same ?same (ts_tail HL hS nd (n:=min (a₀.size - gs.flatten.length) mr) T3 (by omega) (by rw [List.length_drop]; omega) (seg_up su2))) ?_
   case same =>
     unfold tsTail
     refine congrArg (bind _) (funext fun st => ?_)
     cases (pendingOf st).back? with
     | none => rfl
     | some p =>
       obtain ⟨s1, n1, p1⟩ := p
       dsimp only
       refine congr (congrArg bind ?_) (funext fun e => ?_)
       · refine congrArg (forIn _ _) (funext fun i => funext fun c => congrArg (bind _) (funext fun w => ?_))
         generalize (if (pendingOf w).size > 1 then (pendingOf w)[(pendingOf w).size - 2]? else none) = z
         cases z <;> rfl
       · obtain ⟨r, e⟩ := e
         cases r <;> rfl
   rintro r st4 ⟨hs,rest',rfl,T4,l4⟩
   exact ⟨hs,rest',rfl,T4,by omega⟩
  ·rw [if_neg hm]
   refine wpS_mono (wpS_same ?same (ts_tail HL hS nd (n:=n) T2 (by omega) (by rw [List.length_drop]; omega) (seg_up su))) ?_
   case same =>
     unfold tsTail
     refine congrArg (bind _) (funext fun st => ?_)
     cases (pendingOf st).back? with
     | none => rfl
     | some p =>
       obtain ⟨s1, n1, p1⟩ := p
       dsimp only
       refine congr (congrArg bind ?_) (funext fun e => ?_)
       · refine congrArg (forIn _ _) (funext fun i => funext fun c => congrArg (bind _) (funext fun w => ?_))
         generalize (if (pendingOf w).size > 1 then (pendingOf w)[(pendingOf w).size - 2]? else none) = z
         cases z <;> rfl
       · obtain ⟨r, e⟩ := e
         cases r <;> rfl
   rintro r st4 ⟨hs,rest',rfl,T4,l4⟩
   exact ⟨hs,rest',rfl,T4,by omega⟩
 case post =>
  rintro c st' ⟨gs,rfl,T⟩
  dsimp only
  refine wpS_bind (wpS_mono (wpS_forRange (I:=fun x c st''=>c=(none,())/\∃ hs,TmS κ R a₀ st'' hs []/\hs.length + x<=a₀.size) (Q:=fun c st''=>c=(none,())/\∃ hs,TmS κ R a₀ st'' hs []/\hs.length<=1) ?fstep ?ffin ?finit) ?fpost)
  case finit =>
   have:=gs_len T.up
   have l:=T.len
   exact ⟨rfl,gs,T,by rw [List.length_nil] at l; omega⟩
  case ffin =>
   rintro c st'' ⟨rfl,hs,T,h⟩
   exact ⟨rfl,hs,T,by omega⟩
  case fstep =>
   rintro x c st'' _ hx ⟨rfl,hs,T,h⟩
   refine wpS_bind (wpS_get ?_)
   have pl:(pendingOf st'').size=hs.length:=by rw [<- Array.length_toList]; exact T.pend.len
   rw [pl]
   by_cases h1:hs.length<=1
   ·rw [if_pos h1]
    exact wpS_pure ⟨rfl,hs,T,h1⟩
   rw [if_neg h1]
   refine wpS_bind (T.merge HL hS nd (by split <;> split <;> omega) fun st3 hs3 T3 l3 _=>?_)
   simp only [Bool.not_true,Bool.false_eq_true,if_false]
   exact wpS_pure ⟨rfl,hs3,T3,by omega⟩
  case fpost =>
   rintro c st'' ⟨rfl,hs,T,h⟩
   refine wpS_pure (q st'' T.perm T.kind T.fail ?_)
   rw [T.arr,List.append_nil]
   match hs,h with
   | [],_=>exact List.Pairwise.nil
   | [g],_ =>
    rw [List.flatten_singleton]
    exact (T.up g (by simp)).2
end
end L2
namespace L2
open PySem PySem.W PyProof.Rows HT PySem.Calls
section
variable {prog:Program} {w:World} {A:Around} {E:Value->Shared->Prop} {s:Shared} {κ:SortKind} {vs ks:List Value} {rk:Nat->Int} {n:Nat}
open Classical in
noncomputable def ixK (ks:List Value) (x:Keyed):Nat:=if h:∃ i,i < ks.length/\ks.getD i Value.none=x.1 then h.choose else 0
def ixK_lt {x:Keyed} {i:Nat} (hi:i < ks.length) (e:ks.getD i Value.none=x.1):ixK ks x < ks.length/\ks.getD (ixK ks x) Value.none=x.1:=by
 unfold ixK
 have h:∃ i,i < ks.length/\ks.getD i Value.none=x.1:=⟨i,hi,e⟩
 rw [dif_pos h]
 exact h.choose_spec
def ixK_eq (nk:ks.Nodup) {x:Keyed} {i:Nat} (hi:i < ks.length) (e:ks.getD i Value.none=x.1):ixK ks x=i:=by
 obtain ⟨h1,h2⟩:=ixK_lt hi e
 rw [<- e,List.getD_eq_getElem?_getD,List.getD_eq_getElem?_getD,List.getElem?_eq_getElem h1,List.getElem?_eq_getElem hi] at h2
 exact (List.getElem_inj (h₀:=h1) (h₁:=hi) nk).mp h2
def lts_of (hc:CmpR rk n (kas_ask prog w A κ ks) s) (hn:ks.length=n) (nk:ks.Nodup):LtS (model prog w) A E s κ (fun x=>∃ i,i < n/\ks.getD i Value.none=x.1) (fun x=>rk (ixK ks x)):=by
 subst hn
 rintro x y st Q ⟨i,hi,ei⟩ ⟨j,hj,ej⟩ hk h
 rw [lt'_eq]
 refine wpS_bind (wpS_get ?_)
 rw [hk]
 have h:Q (some (decide (rk (ixK ks x) < rk (ixK ks y)))) st:=h
 rw [ixK_eq nk hi ei,ixK_eq nk hj ej] at h
 have c:=hc i j (fun b s'=>s'=s/\b=decide (rk i < rk j)) hi hj ⟨rfl,rfl⟩
 unfold kas_ask at c
 rw [ei,ej] at c
 refine wpS_bind (wpS_lift (wpAny_attempt (wpAny_mono c ?_ fun _ _ f=>f.elim)))
 rintro b s' ⟨rfl,rfl⟩
 exact ⟨rfl,wpS_pure h⟩
theorem kat_runT (hl:ks.length=vs.length) (hn:ks.length=n) (nk:ks.Nodup) (hc:CmpR rk n (kas_ask prog w A κ ks) s) (inj:∀ i j,i < n->j < n->rk i=rk j->i=j) :
  wpAny (model prog w) A ((sortRuns').run (SortSt.mk' κ (ks.toArray.zip vs.toArray) #[] 7 none)) (fun r s'=>∃ p:Array Nat,s'=s/\GoodP n p/\SrtR rk p n/\arrOf r.2=p.map (kas_item (ks.toArray.zip vs.toArray))/\failedOf r.2=none) E s:=by
 have er:=kas_range (ks.toArray.zip vs.toArray)
 have hz:(ks.toArray.zip vs.toArray).size=n:=by simp [hl]; omega
 rw [hz] at er
 have el:(ks.toArray.zip vs.toArray).toList=(List.range n).map (kas_item (ks.toArray.zip vs.toArray)):=by
  have:=congrArg Array.toList er
  rw [Array.toList_map] at this
  exact this.symm
 have it:=fun i=>kat_item hl i
 have ei:∀ i,i < n->ixK ks (kas_item (ks.toArray.zip vs.toArray) i)=i:=fun i hi=>ixK_eq nk (by omega) (by rw [it])
 have hS:∀ x∈(ks.toArray.zip vs.toArray).toList,∃ i,i < n/\ks.getD i Value.none=x.1:=fun x hx=>by
  rw [el] at hx
  obtain ⟨i,hi,rfl⟩:=List.mem_map.mp hx
  exact ⟨i,List.mem_range.mp hi,by rw [it]⟩
 have em:(ks.toArray.zip vs.toArray).toList.map (ixK ks)=List.range n:=by
  rw [el,List.map_map]
  refine (List.map_congr_left fun i hi=>?_).trans (List.map_id _)
  exact ei i (List.mem_range.mp hi)
 have nd:((ks.toArray.zip vs.toArray).toList.map fun x=>rk (ixK ks x)).Nodup:=by
  have e:((ks.toArray.zip vs.toArray).toList.map fun x=>rk (ixK ks x))=(List.range n).map rk:=by
   rw [<- em,List.map_map]
   rfl
  rw [e]
  refine List.pairwise_map.mpr ?_
  refine List.Pairwise.imp_of_mem (fun {a b} ha hb h z=>h (inj a b (List.mem_range.mp ha) (List.mem_range.mp hb) z)) List.nodup_range
 have run:=wpS_sortRunsT (E:=E) (lts_of (E:=E) hc hn nk) hS nd (st:=SortSt.mk' κ (ks.toArray.zip vs.toArray) #[] 7 none) (Q:=fun _ st'=>(arrOf st').toList.Perm (ks.toArray.zip vs.toArray).toList/\failedOf st'=none/\Up (fun x=>rk (ixK ks x)) (arrOf st').toList) rfl rfl rfl rfl fun st' a1 a2 a3 a4=>⟨a1,a3,a4⟩
 unfold wpS at run
 refine wpAny_mono run ?_ fun _ _ x=>x
 rintro ⟨⟨⟩,st'⟩ s' ⟨rfl,pm,hf,up⟩
 dsimp only at pm hf up ⊢
 have mem:∀ x∈(arrOf st').toList,∃ i,i < n/\x=kas_item (ks.toArray.zip vs.toArray) i:=fun x hx=>by
  have:=pm.mem_iff.mp hx
  rw [el] at this
  obtain ⟨i,hi,e⟩:=List.mem_map.mp this
  exact ⟨i,List.mem_range.mp hi,e.symm⟩
 have lp:(arrOf st').toList.length=n:=by rw [pm.length_eq,Array.length_toList,hz]
 refine ⟨((arrOf st').toList.map (ixK ks)).toArray,rfl,⟨?_⟩,?_,?_,hf⟩
 ·refine Array.perm_iff_toList_perm.mpr ?_
  show ((arrOf st').toList.map (ixK ks)).Perm (List.range n)
  rw [<- em]
  exact pm.map _
 ·intro i j hij hj
  have gd:∀ k,(h:k < n)->(((arrOf st').toList.map (ixK ks)).toArray).getD k 0=ixK ks ((arrOf st').toList[k]'(by omega)):=fun k h=>by
   have:k < (((arrOf st').toList.map (ixK ks)).toArray).size:=by simp; simpa using (by omega:k < (arrOf st').toList.length)
   rw [Array.getD,dif_pos this]
   simp
  unfold Rk
  rw [gd i (by omega),gd j hj]
  rcases Nat.lt_or_ge i j with z | z
  ·exact Int.le_of_lt (List.pairwise_iff_getElem.mp up i j (by omega) (by omega) z)
  ·have:i=j:=by omega
   subst this
   exact Int.le_refl _
 ·apply Array.toList_inj.mp
  rw [Array.toList_map,List.map_map]
  refine ((List.map_id _).symm.trans (List.map_congr_left fun x hx=>?_))
  obtain ⟨i,hi,rfl⟩:=mem x hx
  show _=kas_item _ (ixK ks _)
  rw [ei i hi]
  rfl
end
section
variable {X:Cx} {pins:List (Addr×Obj)} {σ:St} {H:Hp} {s:Shared} {E:Value->Shared->Prop} {A:Around}
theorem sortedM {κ:SortKind} {l:Addr} {L:List KIt} {Q:VK} (I:Inv X pins σ H s)
  (hcol:∀ {A:Around} {R:List Value->Shared->Prop} {E:Value->Shared->Prop},A.handled=X.A.handled->(∀ (h':Heap) (tk:Nat),(∀ b o,s.heap.get? b=some o->h'.get? b=some o)->R (keyVals L) { s with heap:=h',toks:=tk })->wpAny (model X.prog X.w) A (collect (.ref l)) R E s) (h64:L.length < 65536) (na:(L.map (·.2.1)).Nodup) (nd:(L.map (·.2.2)).Nodup)
  (hkind:∀ (pins':List (Addr×Obj)) (s':Shared),Inv X pins' σ H s'->1 < L.length->∀ {E:Value->Shared->Prop} {A:Around} {Q:SortKind->Shared->Prop},Q κ s'->wpAny (model X.prog X.w) A (keyKind' (keyVals L).toArray) Q E s')
  (hcmp:∀ (pins':List (Addr×Obj)) (s':Shared),1 < L.length->Inv X pins' σ H s'->CmpR (rankOf (L.map (·.2.2))) L.length (kas_ask X.prog X.w X.A.in1.in1 κ (keyVals L)) s')
  (h:∀ (D:Addr) (L':List KIt),H D=none->L'.Perm L->L'.Pairwise (fun a b=>HT.lexLt a.2.2 b.2.2=true)->Q (.ref D) (upd H D (.lst (L'.map fun q=>V.ref q.2.1)))) :
  wpAny (model X.prog X.w) X.A (call (.builtin "sorted") [.ref l]) (EP X pins σ Q) E s:=by
 have el:(keyVals L).length=L.length:=by simp [keyVals]
 refine call_function_entry kind_sorted plain_sorted entry_sorted (args_sorted1 _) ?_
 unfold Builtin.«sorted»
 refine wpAny_bind (m:=checkCount "sorted" 1 1 _) (wpAny_pure ?_)
 refine wpAny_bind (hcol rfl fun h1 tk1 keep1=>?_)
 refine wpAny_bind (wpAny_newList ?_ (by rw [sizeLine_eq]; omega))
 have sz:=I.fpOk (H':=H) (Nat.le_refl _) (I.hok.fresh (Nat.le_refl _))
 have J:Inv X pins σ H { s with heap:=h1,toks:=tk1 }:=I.kept (t':=tk1) keep1
 have hoL:(h1.push (seqObj "list" (keyVals L).toArray 0)).get? h1.objs.size=some (seqObj "list" (keyVals L).toArray 0):=Heap.get?_push_size _ rfl
 have fD:FpOk X pins H h1.objs.size:=J.fpOk (Nat.le_refl _) (J.hok.fresh (Nat.le_refl _))
 have I1:Inv X pins σ H { s with heap:=h1.push (seqObj "list" (keyVals L).toArray 0),toks:=tk1 }:=J.kept (t':=tk1) fun b o e=>Heap.get?_push_of_some _ e
 generalize hD:h1.objs.size=D at *
 generalize hh:h1.push (seqObj "list" (keyVals L).toArray 0)=hp at *
 refine wpAny_bind (wpAny_holding (wpAny_call_entry PyProof.Rows.slot_list_sort ⟨_,hoL,rfl⟩ PyProof.Rows.entry_list_sort ?body (args_list_sort _)))
 case body =>
  show wpAny (model X.prog X.w) X.A.in1.in1 (Builtin.«list.sort» ⟨[.ref D],[]⟩) _ _ _
  have s1:=Heap.SameBut.update hp D (Obj.mapSeq fun _=>(#[]:Array Value))
  obtain ⟨e1,ho1⟩:∃ e1,(hp.update D (Obj.mapSeq fun _=>(#[]:Array Value))).get? D=some (seqObj "list" #[] e1):=⟨_,get?_update_seq hoL fun _=>#[]⟩
  have I2:=(I1.turn1 fD s1).pin1 fD ho1 (by intro v; simp)
  have I3:Inv X (pins++[PD D e1]) σ H { s with toks:=tk1,heap:=((hp.update D (Obj.mapSeq fun _=>(#[]:Array Value))).push (seqObj "tuple" (keyVals L).toArray 0)).push (seqObj "list" #[] 0) } :=
   I2.kept (t':=tk1) fun b o e=>Heap.get?_push_of_some _ (Heap.get?_push_of_some _ e)
  have fin:∀ (s':Shared) (L':List KIt) (st:SortSt),Inv X (pins++[PD D e1]) σ H s'->L'.Perm L->∃ c2,(s'.heap.update D (Obj.mapSeq fun _=>(keyVals L').toArray)).get? D=some (seqObj "list" (keyVals L').toArray c2)/\Inv X pins σ (upd H D (.lst (L'.map fun q=>V.ref q.2.1))) { s' with heap:=s'.heap.update D (Obj.mapSeq fun _=>(keyVals L').toArray) }:=fun s' L' st J pm=>by
   have pd:=J.pin (PD D e1) (List.mem_append_right _ (List.mem_append_right _ (List.mem_singleton.mpr rfl)))
   have s2:=Heap.SameBut.update s'.heap D (Obj.mapSeq fun _=>(keyVals L').toArray)
   obtain ⟨c2,hc2⟩:∃ c2,(s'.heap.update D (Obj.mapSeq fun _=>(keyVals L').toArray)).get? D=some (seqObj "list" (keyVals L').toArray c2):=⟨_,get?_update_seq pd.1 fun _=>(keyVals L').toArray⟩
   have J2:=(J.unpinned (pl:=[PD D e1])).turn1 fD s2
   have go:∀ M:List KIt,Vals (M.map fun q=>V.ref q.2.1) (keyVals M):=fun M=>by
    induction M with
    | nil=>exact .nil
    | cons y r ih=>exact .cons rfl ih
   exact ⟨c2,hc2,J2.track (its:=keyVals L') (n:=c2) hc2 fD (go L') (by rw [List.length_map,pm.length_eq,sizeLine_eq]; omega)⟩
  rw [list_sort_plain]
  refine wpAny_bind (listItems_at hoL rfl ?_)
  refine wpAny_bind (listUpdate_at hoL rfl ?_ (by rw [List.size_toArray,sizeLine_eq]; omega) (Nat.zero_le _))
  refine wpAny_bind (seqEpoch_at ho1 rfl ?_)
  refine wpAny_bind (wpAny_newTuple ?_ (by show (keyVals L).length<=_; rw [sizeLine_eq]; omega))
  refine wpAny_bind (wpAny_newList ?_ (Nat.zero_le _))
  refine wpAny_holding ?_
  show wpAny (model X.prog X.w) _ _ _ _ { s with toks:=tk1,heap:=((hp.update D (Obj.mapSeq fun _=>(#[]:Array Value))).push (seqObj "tuple" (keyVals L).toArray 0)).push (seqObj "list" #[] 0) }
  dsimp only
  have pd:=I3.pin (PD D e1) (List.mem_append_right _ (List.mem_append_right _ (List.mem_singleton.mpr rfl)))
  by_cases h2:(keyVals L).toArray.size < 2
  ·rw [if_pos h2]
   refine wpAny_bind (wpAny_pure ?_)
   rw [if_pos h2]
   refine wpAny_bind (m:=(pure ():StateT SortSt Sem Unit).run _) (wpAny_pure ?_)
   have h2':L.length < 2:=by simpa [keyVals] using h2
   have ea:(((keyVals L).toArray.zip (keyVals L).toArray).map (·.2))=(keyVals L).toArray:=by
    apply Array.toList_inj.mp
    rw [Array.toList_map,ksk_zip]
    simp only [List.map_snd_zip (Nat.le_refl _)]
   obtain ⟨c2,hc2,I4⟩:=fin _ L (SortSt.mk' general' #[] #[] 7 none) I3 (List.Perm.refl _)
   refine wpAny_bind (seqEpoch_at pd.1 rfl ?_)
   refine wpAny_bind (listUpdate_at pd.1 rfl ?_ (Nat.zero_le _) (by show (((keyVals L).toArray.zip (keyVals L).toArray).map (·.2)).size<=_; rw [ea,List.size_toArray,sizeLine_eq]; omega))
   show wpAny (model X.prog X.w) _ (if (e1 != e1)=true then _ else ret Value.none) _ _ _
   simp only [bne_self_eq_false,Bool.false_eq_true,if_false]
   refine wpAny_pure ⟨_,rfl,wpAny_pure ⟨_,rfl,.ref D,_,?_,rfl,h D L fD.1 (List.Perm.refl _) ?_⟩⟩
   ·have e2:Array.map (fun x=>x.snd) (arrOf (SortSt.mk' general' ((keyVals L).toArray.zip (keyVals L).toArray) #[] 7 none))=(keyVals L).toArray:=ea
    rw [e2]
    exact I4
   ·match L,h2' with
    | [],_=>exact .nil
    | [q],_=>exact List.pairwise_singleton _ _
    | _::_::_,h2'=>simp only [List.length_cons] at h2'; omega
  ·rw [if_neg h2,if_neg h2]
   have h2':2<=(keyVals L).length:=by simpa using h2
   refine wpAny_bind (hkind _ _ I3 (by omega) ?_)
   have nk:(keyVals L).Nodup:=by
    have e:keyVals L=(L.map (·.2.1)).map Value.ref:=by simp [keyVals]
    rw [e]
    exact List.Pairwise.map _ (fun a b h z=>h (Value.ref.inj z)) na
   refine wpAny_bind (wpAny_mono (kat_runT (vs:=keyVals L) (ks:=keyVals L) (rk:=rankOf (L.map (·.2.2))) (n:=L.length) rfl el nk (hcmp _ _ (by omega) I3) fun i j hi hj z=>rank_inj nd (by simpa using hi) (by simpa using hj) z) ?_ fun _ _ x=>x)
   rintro ⟨⟨⟩,st'⟩ s' ⟨p,rfl,g,hs,har,hf⟩
   have hp2:∀ i∈p.toList,i < L.length:=fun i hi=>by
    have:=(Array.perm_iff_toList_perm.mp g.perm).mem_iff.mp hi
    simpa using this
   have pl2:p.toList.Perm (List.range L.length):=by have:=Array.perm_iff_toList_perm.mp g.perm; simpa using this
   have rangeL:(List.range L.length).map (fun i=>L.getD i (.non,0,[]))=L:=by
    apply List.ext_getElem
    ·simp
    ·intro i h1 h2; simp [List.getD_eq_getElem?_getD,h2]
   have pm:(p.toList.map fun i=>L.getD i (.non,0,[])).Perm L:=by
    have:=pl2.map fun i=>L.getD i (.non,0,[])
    rwa [rangeL] at this
   have ea:(arrOf st').map (·.2)=(keyVals (p.toList.map fun i=>L.getD i (.non,0,[]))).toArray:=by
    rw [kat_snds rfl har]
    congr 1
    show _=((p.toList.map fun i=>L.getD i (.non,0,[])).map fun q=>Value.ref q.2.1)
    rw [List.map_map]
    refine List.map_congr_left fun i hi=>?_
    have hi:=hp2 i hi
    show (keyVals L).getD i Value.none=Value.ref (L.getD i (.non,0,[])).2.1
    rw [show (keyVals L).getD i Value.none=Value.ref L[i].2.1 from getD_map' hi,List.getD_eq_getElem?_getD,List.getElem?_eq_getElem hi]
    rfl
   obtain ⟨c2,hc2,I4⟩:=fin _ _ st' I3 pm
   refine wpAny_bind (seqEpoch_at pd.1 rfl ?_)
   refine wpAny_bind (listUpdate_at pd.1 rfl ?_ (Nat.zero_le _) (by show ((arrOf st').map (·.2)).size<=_; rw [ea,List.size_toArray,sizeLine_eq,show (keyVals (p.toList.map fun i=>L.getD i (.non,0,[]))).length=L.length by simp [keyVals,g.size]]; omega))
   dsimp only
   rw [hf]
   simp only [bne_self_eq_false,Bool.false_eq_true,if_false]
   refine wpAny_pure ⟨_,rfl,wpAny_pure ⟨_,rfl,.ref D,_,?_,rfl,h D _ fD.1 pm ?_⟩⟩
   ·rw [ea]
    exact I4
   ·rw [List.pairwise_iff_getElem]
    intro i j hi hj hij
    simp only [List.length_map,Array.length_toList,g.size] at hi hj
    have gi:=g.lt i hi
    have gj:=g.lt j hj
    have hle:=hs i j (Nat.le_of_lt hij) hj
    have hne:=g.ne hi hj (Nat.ne_of_lt hij)
    unfold Rk at hle
    have hlt:rankOf (L.map (·.2.2)) (p.getD i 0) < rankOf (L.map (·.2.2)) (p.getD j 0):=by
     rcases Int.lt_or_eq_of_le hle with z | z
     ·exact z
     ·exact absurd (rank_inj nd (by simpa using gi) (by simpa using gj) z) hne
    have hd:=rank_dec nd (i:=p.getD i 0) (j:=p.getD j 0) (by simpa using gi) (by simpa using gj)
    rw [decide_eq_true hlt,getD_map' gi,getD_map' gj] at hd
    have ei:p.getD i 0=p[i]'(by rw [g.size]; exact hi):=by simp [Array.getD,g.size,hi]
    have ej:p.getD j 0=p[j]'(by rw [g.size]; exact hj):=by simp [Array.getD,g.size,hj]
    simp only [List.getElem_map,Array.getElem_toList,List.getD_eq_getElem?_getD]
    have gi':=gi
    have gj':=gj
    rw [ei] at gi'
    rw [ej] at gj'
    rw [List.getElem?_eq_getElem gi',List.getElem?_eq_getElem gj']
    simp only [ei,ej] at hd
    exact hd.symm
end
section
variable {X:Cx}
theorem ints_uniq:∀ {vs:List Value} {ns ms:List Int},IntsAre vs ns->IntsAre vs ms->ns=ms
 | _,_,_,.nil,.nil=>rfl
 | _,_,_,.cons a t h,.cons _ _ k=>by rw [ints_uniq h k]
def rSortLM (K:PySem.W.Frag):List V->Hp->VK->Prop:=fun xs H Q=>∃ (l:Addr) (L:List KIt),xs=[.ref l]/\SqL K H l (L.map fun q=>V.ref q.2.1)/\L.length < 65536/\(∀ q∈L,SqL K H q.2.1 (q.2.2.map V.int))/\(L.map (·.2.2)).Nodup /\
 ∀ (D:Addr) (L':List KIt),H D=none->L'.Perm L->L'.Pairwise (fun a b=>HT.lexLt a.2.2 b.2.2=true)->Q (.ref D) (upd H D (.lst (L'.map fun q=>V.ref q.2.1)))
theorem call_sortLM {K:PySem.W.Frag} (hK:X.K=K) (hu:X.A.units + 200 < cLine):CallR X (.builtin "sorted") (rSortLM K):=by
 intro pins s σ H xs us Q I r h
 obtain ⟨l,L,rfl,hl,h64,hk,nd,q⟩:=h
 obtain ⟨u,rfl,rx⟩:=vals1 r
 cases rx
 subst hK
 have na:(L.map (·.2.1)).Nodup:=by
  refine List.pairwise_map.mpr ((List.pairwise_map.mp nd).imp_of_mem fun {a b} ha hb h z=>h ?_)
  obtain ⟨i1,v1,p1,_⟩:=I.list (hk a ha)
  obtain ⟨i2,v2,p2,_⟩:=I.list (hk b hb)
  obtain ⟨o1,g1,_,n1,d1⟩:=id p1.isList
  obtain ⟨o2,g2,_,n2,d2⟩:=id p2.isList
  rw [z,g2] at g1
  cases g1
  rw [d1] at d2
  injection d2 with e1 e2
  have e:i1=i2:=by simpa using e1
  subst e
  exact ints_uniq (ints_are v1) (ints_are v2)
 obtain ⟨its,rv,pl,_⟩:=I.list hl
 have eI:its=keyVals L:=refs_of rv
 subst eI
 refine sortedM (κ:=oneType') I (fun {A R E} _ hR=>?_) h64 na nd (fun _ _ J h0 {_ _ _} q=>list_kind J hk (by omega) q) (fun _ _ _ J=>?_) q
 ·refine collect_list pl.isList ?_ (by simp [keyVals]; rw [sizeLine_eq]; omega)
  refine hR _ s.toks fun b o e=>?_
  have hlt:b < s.heap.objs.size:=Heap.lt_size e
  rw [Heap.get?_update_ne _ _ _ _ (Nat.ne_of_lt hlt),Heap.get?_push_ne _ _ _ (Nat.ne_of_lt hlt)]
  exact e
 ·intro i j C hi hj h
  rw [rank_dec nd (by simpa using hi) (by simpa using hj),getD_map' hi,getD_map' hj] at h
  unfold kas_ask
  rw [show (keyVals L).getD i Value.none=Value.ref L[i].2.1 from getD_map' hi,show (keyVals L).getD j Value.none=Value.ref L[j].2.1 from getD_map' hj,keyLt'_oneType]
  exact list_lt J (by show X.A.units + 1 + 1 + 120 < cLine; omega) (hk _ (List.getElem_mem hi)) (hk _ (List.getElem_mem hj)) h
end
end L2
namespace L3
open PySem L2
structure Cf where
 c:Addr
 k:W.Frag
inductive D where
 | non | bl (b:Bool) | int (i:Int) | str (x:Str) | ty (n:String) | at (a:Addr)
 | tup (xs:List D) | lst (xs:List D) | frz (xs:List D) | dct (kvs:List (Key×D)) | dcT (kvs:List (List Key×D))
 | code (S:List Pr) | cell (k:Nat) | exc (C:Addr) (fs:List (Str×D))
inductive MO where
 | lst (xs:List D) | dct (kvs:List (Key×D)) | dcT (kvs:List (List Key×D)) | drK (kvs:List (Key×D)) | drT (kvs:List (List Key×D)) | dfT (o:Obj) (vs:List (List Key×V)) (kvs:List (List Key×D)) | dfK (o:Obj) (vs:List (Key×V)) (kvs:List (Key×D)) | ins (C:Addr) (fs:List (Str×D)) | hand | tab (P:Addr) (pos:Pos) (q:Str)
abbrev Mem:=List MO
mutual
inductive Rep (C:Cf) (I:Hp) (α:List Addr):V->D->Prop where
 | non:Rep C I α .non .non
 | bl (b:Bool):Rep C I α (.bl b) (.bl b)
 | int (i:Int):Rep C I α (.int i) (.int i)
 | str (x:Str):Rep C I α (.str x) (.str x)
 | ty (n:String):Rep C I α (.ty n) (.ty n)
 | at (a:Addr):Rep C I α (.ref a) (.at a)
 | tup {a:Addr} {vs:List V} {ds:List D}:I a=some (.tup vs)->Reps C I α vs ds->Rep C I α (.ref a) (.tup ds)
 | lst {a:Addr} {vs:List V} {ds:List D}:I a=some (.lst vs)->Reps C I α vs ds->Rep C I α (.ref a) (.lst ds)
 | frz {a:Addr} {vs:List V} {ds:List D}:SqL C.k I a vs->Reps C I α vs ds->Rep C I α (.ref a) (.frz ds)
 | dct {a:Addr} {vs:List (Key×V)} {ds:List (Key×D)}:I a=some (.dK vs)->RepK C I α vs ds->Rep C I α (.ref a) (.dct ds)
 | dcT {a:Addr} {vs:List (List Key×V)} {ds:List (List Key×D)}:I a=some (.dT vs)->RepT C I α vs ds->Rep C I α (.ref a) (.dcT ds)
 | code {x:Addr} {S:List Pr}:CodeAt C.c I x S->Rep C I α (.ref x) (.code S)
 | cell {a:Addr} {k:Nat}:α[k]?=some a->Rep C I α (.ref a) (.cell k)
 | exc {ea Ce:Addr} {d:Option Addr} {vs:List (Str×V)} {fs:List (Str×D)}:I ea=some (.ext (excP ea Ce d))->XD I d vs->RepF C I α vs fs->Rep C I α (.ref ea) (.exc Ce fs)
inductive Reps (C:Cf) (I:Hp) (α:List Addr):List V->List D->Prop where
 | nil:Reps C I α [] []
 | cons {v:V} {d:D} {vs:List V} {ds:List D}:Rep C I α v d->Reps C I α vs ds->Reps C I α (v::vs) (d::ds)
inductive RepK (C:Cf) (I:Hp) (α:List Addr):List (Key×V)->List (Key×D)->Prop where
 | nil:RepK C I α [] []
 | cons {k:Key} {v:V} {d:D} {vs:List (Key×V)} {ds:List (Key×D)}:Rep C I α v d->RepK C I α vs ds->RepK C I α ((k,v)::vs) ((k,d)::ds)
inductive RepF (C:Cf) (I:Hp) (α:List Addr):List (Str×V)->List (Str×D)->Prop where
 | nil:RepF C I α [] []
 | cons {k:Str} {v:V} {d:D} {vs:List (Str×V)} {ds:List (Str×D)}:Rep C I α v d->RepF C I α vs ds->RepF C I α ((k,v)::vs) ((k,d)::ds)
inductive RepT (C:Cf) (I:Hp) (α:List Addr):List (List Key×V)->List (List Key×D)->Prop where
 | nil:RepT C I α [] []
 | cons {k:List Key} {v:V} {d:D} {vs:List (List Key×V)} {ds:List (List Key×D)}:Rep C I α v d->RepT C I α vs ds->RepT C I α ((k,v)::vs) ((k,d)::ds)
end
section
variable {C:Cf} {I I':Hp} {α α':List Addr}
def pre_get {k:Nat} {a:Addr} (p:α<+:α') (h:α[k]?=some a):α'[k]?=some a:=by
 obtain ⟨t,rfl⟩:=p
 obtain ⟨hk,_⟩:=List.getElem?_eq_some_iff.mp h
 rw [List.getElem?_append_left hk]
 exact h
mutual
theorem Rep.mono (s:Same I I') (p:α<+:α'):∀ {v:V} {d:D},Rep C I α v d->Rep C I' α' v d:=by
 intro _ _ h
 cases h with
 | non=>exact .non
 | bl b=>exact .bl b
 | int i=>exact .int i
 | str x=>exact .str x
 | ty n=>exact .ty n
 | «at» a=>exact .at a
 | tup e r=>exact .tup (s _ _ e) (Reps.mono s p r)
 | lst e r=>exact .lst (s _ _ e) (Reps.mono s p r)
 | frz e r=>exact .frz (s.seq e) (Reps.mono s p r)
 | dct e r=>exact .dct (s _ _ e) (RepK.mono s p r)
 | dcT e r=>exact .dcT (s _ _ e) (RepT.mono s p r)
 | code h=>exact .code (h.same s)
 | cell e=>exact .cell (pre_get p e)
 | exc e f r=>exact .exc (s _ _ e) (f.mono s) (RepF.mono s p r)
theorem Reps.mono (s:Same I I') (p:α<+:α'):∀ {vs:List V} {ds:List D},Reps C I α vs ds->Reps C I' α' vs ds:=by
 intro _ _ h
 cases h with
 | nil=>exact .nil
 | cons h r=>exact .cons (Rep.mono s p h) (Reps.mono s p r)
theorem RepK.mono (s:Same I I') (p:α<+:α'):∀ {vs:List (Key×V)} {ds:List (Key×D)},RepK C I α vs ds->RepK C I' α' vs ds:=by
 intro _ _ h
 cases h with
 | nil=>exact .nil
 | cons h r=>exact .cons (Rep.mono s p h) (RepK.mono s p r)
theorem RepF.mono (s:Same I I') (p:α<+:α'):∀ {vs:List (Str×V)} {ds:List (Str×D)},RepF C I α vs ds->RepF C I' α' vs ds:=by
 intro _ _ h
 cases h with
 | nil=>exact .nil
 | cons h r=>exact .cons (Rep.mono s p h) (RepF.mono s p r)
theorem RepT.mono (s:Same I I') (p:α<+:α'):∀ {vs:List (List Key×V)} {ds:List (List Key×D)},RepT C I α vs ds->RepT C I' α' vs ds:=by
 intro _ _ h
 cases h with
 | nil=>exact .nil
 | cons h r=>exact .cons (Rep.mono s p h) (RepT.mono s p r)
end
theorem Reps.length:∀ {vs:List V} {ds:List D},Reps C I α vs ds->vs.length=ds.length
 | _,_,.nil=>rfl
 | _,_,.cons _ r=>by rw [List.length_cons,List.length_cons,Reps.length r]
theorem Reps.get:∀ {vs:List V} {ds:List D} {i:Nat} {d:D},Reps C I α vs ds->ds[i]?=some d->∃ v,vs[i]?=some v/\Rep C I α v d
 | _,_,_,_,.nil,e=>by simp at e
 | _,_,0,_,.cons r _,e=>by simp at e; subst e; exact ⟨_,rfl,r⟩
 | _,_,i + 1,d,.cons _ t,e=>by
  obtain ⟨u,h1,h2⟩:=Reps.get (i:=i) (d:=d) t (by simpa using e)
  exact ⟨u,by simpa using h1,h2⟩
theorem Reps.at:∀ {vs:List V} {ds:List D} {i:Nat},Reps C I α vs ds->(h1:i < vs.length)->(h2:i < ds.length)->Rep C I α vs[i] ds[i]:=fun {vs ds i} r h1 h2=>by
 obtain ⟨v,e,z⟩:=r.get (List.getElem?_eq_getElem h2)
 rw [List.getElem?_eq_getElem h1] at e
 cases e
 exact z
theorem Reps.app:∀ {vs ws:List V} {ds es:List D},Reps C I α vs ds->Reps C I α ws es->Reps C I α (vs++ws) (ds++es)
 | _,_,_,_,.nil,s=>s
 | _,_,_,_,.cons r t,s=>.cons r (Reps.app t s)
def Reps.one {v:V} {d:D} (h:Rep C I α v d):Reps C I α [v] [d]:=.cons h .nil
theorem Reps.take:∀ {vs:List V} {ds:List D} (n:Nat),Reps C I α vs ds->Reps C I α (vs.take n) (ds.take n)
 | _,_,0,_=>.nil
 | _,_,_ + 1,.nil=>.nil
 | _,_,n + 1,.cons r t=>.cons r (Reps.take n t)
theorem Reps.drop:∀ {vs:List V} {ds:List D} (n:Nat),Reps C I α vs ds->Reps C I α (vs.drop n) (ds.drop n)
 | _,_,0,r=>r
 | _,_,_ + 1,.nil=>.nil
 | _,_,n + 1,.cons _ t=>Reps.drop n t
theorem Reps.set {v:V} {d:D} (r:Rep C I α v d):∀ {vs:List V} {ds:List D} (i:Nat),Reps C I α vs ds->Reps C I α (vs.set i v) (ds.set i d)
 | _,_,_,.nil=>.nil
 | _,_,0,.cons _ t=>.cons r t
 | _,_,i + 1,.cons q t=>.cons q (Reps.set r i t)
def Reps.rev {vs:List V} {ds:List D} (h:Reps C I α vs ds):Reps C I α vs.reverse ds.reverse:=by
 have go:∀ {vs ws:List V} {ds es:List D},Reps C I α vs ds->Reps C I α ws es->Reps C I α (vs.reverse++ws) (ds.reverse++es):=by
  intro vs
  induction vs with
  | nil=>intro ws ds es h1 h2; cases h1; exact h2
  | cons v vs ih =>
   intro ws ds es h1 h2
   cases h1 with
   | cons a b =>
    rw [List.reverse_cons,List.append_assoc,List.reverse_cons,List.append_assoc]
    exact ih b (.cons a h2)
 have:=go h .nil
 rwa [List.append_nil,List.append_nil] at this
theorem Reps.ints:∀ (ns:List Int),Reps C I α (ns.map V.int) (ns.map D.int)
 | []=>.nil
 | n::r=>.cons (.int n) (Reps.ints r)
theorem Reps.of_ints:∀ {vs:List V} (ns:List Int),Reps C I α vs (ns.map D.int)->vs=ns.map V.int
 | _,[],h=>by cases h; rfl
 | _,n::r,h=>by
  cases h with
  | cons a b =>
   cases a
   rw [Reps.of_ints r b]
   rfl
end
def MoAt (C:Cf) (I:Hp) (α:List Addr) (H:Hp) (a:Addr):MO->Prop
 | .lst ds=>∃ vs,H a=some (.lst vs)/\Reps C I α vs ds
 | .dct ds=>∃ vs,H a=some (.dK vs)/\RepK C I α vs ds
 | .dcT ds=>∃ vs,H a=some (.dT vs)/\RepT C I α vs ds
 | .drK ds=>∃ vs,Rd H a (.dK vs)/\RepK C I α vs ds
 | .drT ds=>∃ vs,Rd H a (.dT vs)/\RepT C I α vs ds
 | .dfT o vs ds=>H a=some (.frz o (.dT vs))/\RepT C I α vs ds
 | .dfK o vs ds=>H a=some (.frz o (.dK vs))/\RepK C I α vs ds
 | .ins Cl fs=>∃ dx vs,H a=some (.ins Cl dx vs)/\Paired (fun (p:Str×V) (q:Str×D)=>p.1=q.1/\Rep C I α p.2 q.2) vs fs
 | .hand=>∃ (d k:Int) (c:Addr) (cs:List Int),H a=some (.lst [.int d,.int k,.ref c])/\I c=some (.lst (cs.map V.int))/\cs≠[]/\cs.length<=63/\0<=d/\0<=k/\∀ c∈cs,0<=c
 | .tab P pos q=>a=P/\∃ ps,H a=some (.tbl ps)/\TriplesOk ps.toList/\(codeAmong pos ps.toList=none\/∃ c,codeAmong pos ps.toList=some (.ref c)/\I c=some (codeφ c q))
theorem MoAt.some {C:Cf} {I:Hp} {α:List Addr} {H:Hp} {a:Addr} {m:MO} (h:MoAt C I α H a m):∃ o,H a=some o:=by
 cases m with
 | lst ds=>obtain ⟨vs,e,_⟩:=h; exact ⟨_,e⟩
 | dct ds=>obtain ⟨vs,e,_⟩:=h; exact ⟨_,e⟩
 | dcT ds=>obtain ⟨vs,e,_⟩:=h; exact ⟨_,e⟩
 | drK ds=>obtain ⟨vs,e,_⟩:=h; rcases e with e | ⟨o,e⟩ <;> exact ⟨_,e⟩
 | drT ds=>obtain ⟨vs,e,_⟩:=h; rcases e with e | ⟨o,e⟩ <;> exact ⟨_,e⟩
 | dfT o vs ds=>exact ⟨_,h.1⟩
 | dfK o vs ds=>exact ⟨_,h.1⟩
 | ins Cl fs=>obtain ⟨dx,vs,e,_⟩:=h; exact ⟨_,e⟩
 | hand=>obtain ⟨d,k,c,cs,e,_⟩:=h; exact ⟨_,e⟩
 | tab P pos q=>obtain ⟨_,ps,e,_⟩:=h; exact ⟨_,e⟩
theorem MoAt.mono {C:Cf} {I I':Hp} {α α':List Addr} {H H':Hp} {a:Addr} {m:MO} (h:MoAt C I α H a m) (s:Same I I') (p:α<+:α') (e:H' a=H a):MoAt C I' α' H' a m:=by
 cases m with
 | lst ds=>obtain ⟨vs,e1,r⟩:=h; exact ⟨vs,e.trans e1,r.mono s p⟩
 | dct ds=>obtain ⟨vs,e1,r⟩:=h; exact ⟨vs,e.trans e1,r.mono s p⟩
 | dcT ds=>obtain ⟨vs,e1,r⟩:=h; exact ⟨vs,e.trans e1,r.mono s p⟩
 | drK ds=>obtain ⟨vs,e1,r⟩:=h; exact ⟨vs,e1.imp (fun z=>e.trans z) (fun ⟨o,z⟩=>⟨o,e.trans z⟩),r.mono s p⟩
 | drT ds=>obtain ⟨vs,e1,r⟩:=h; exact ⟨vs,e1.imp (fun z=>e.trans z) (fun ⟨o,z⟩=>⟨o,e.trans z⟩),r.mono s p⟩
 | dfT o vs ds=>exact ⟨e.trans h.1,h.2.mono s p⟩
 | dfK o vs ds=>exact ⟨e.trans h.1,h.2.mono s p⟩
 | ins Cl fs=>obtain ⟨dx,vs,e1,r⟩:=h; exact ⟨dx,vs,e.trans e1,Paired.mapP r fun _ _ z=>⟨z.1,z.2.mono s p⟩⟩
 | hand=>obtain ⟨d,k,c,cs,e1,e2,r⟩:=h; exact ⟨d,k,c,cs,e.trans e1,s _ _ e2,r⟩
 | tab P pos q =>
  obtain ⟨eP,ps,e1,t,r⟩:=h
  refine ⟨eP,ps,e.trans e1,t,?_⟩
  rcases r with r | ⟨c,r1,r2⟩
  ·exact .inl r
  ·exact .inr ⟨c,r1,s _ _ r2⟩
abbrev X3:=Addr->List (Str×D)->Mem->Prop
structure Anc where
 i:Hp
 a:List Addr
 xe:XK
 kx:X3
structure Rel (C:Cf) (Z:Anc) (I:Hp) (α:List Addr) (H:Hp) (M:Mem):Prop where
 ai:Same Z.i I
 aa:Z.a<+:α
 sub:Same I H
 len:α.length=M.length
 nd:α.Nodup
 cel:∀ (k:Nat) (a:Addr) (m:MO),α[k]?=some a->M[k]?=some m->MoAt C I α H a m/\I a=none
section
variable {C:Cf} {Z:Anc} {I:Hp} {α:List Addr} {H H':Hp} {M:Mem}
def Rel.cellNe (R:Rel C Z I α H M) {k:Nat} {a p:Addr} (h:α[k]?=some a) (hp:H p=none):a≠p:=by
 obtain ⟨hk,_⟩:=List.getElem?_eq_some_iff.mp h
 have hk':k < M.length:=by rw [<- R.len]; exact hk
 obtain ⟨o,e⟩:=(R.cel k a _ h (List.getElem?_eq_getElem hk')).1.some
 exact ne_of_none e hp
def Rel.new (R:Rel C Z I α H M) {p:Addr} {o:HO} (hp:H p=none):Rel C Z (upd I p o) α (upd H p o) M/\Same I (upd I p o)/\(upd I p o) p=some o:=by
 have ip:I p=none:=R.sub.free hp
 have s:Same I (upd I p o):=same_upd ip
 refine ⟨⟨R.ai.trans s,R.aa,fun b u h=>?_,R.len,R.nd,fun k a m h1 h2=>?_⟩,s,upd_same⟩
 ·by_cases e:b=p
  ·subst e
   rw [upd_same] at h ⊢
   exact h
  ·rw [upd_ne e] at h ⊢
   exact R.sub b u h
 ·obtain ⟨a1,a2⟩:=R.cel k a m h1 h2
  have ne:=R.cellNe h1 hp
  exact ⟨a1.mono s (List.prefix_refl _) (upd_ne ne),by rw [upd_ne ne]; exact a2⟩
theorem Rel.cell (R:Rel C Z I α H M) {p:Addr} {o:HO} {m:MO} (hp:H p=none) (hm:∀ H',H' p=some o->MoAt C I α H' p m):Rel C Z I (α++[p]) (upd H p o) (M++[m])/\α<+:(α++[p])/\(α++[p])[M.length]?=some p:=by
 have ip:I p=none:=R.sub.free hp
 refine ⟨⟨R.ai,R.aa.trans (List.prefix_append _ _),fun b u h=>?_,by rw [List.length_append,List.length_append,R.len]; rfl,?_,fun k a x h1 h2=>?_⟩,List.prefix_append _ _,by rw [<- R.len]; simp⟩
 ·have ne:b≠p:=fun e=>by rw [e,ip] at h; cases h
  rw [upd_ne ne]
  exact R.sub b u h
 ·rw [List.nodup_append]
  refine ⟨R.nd,by simp,fun a ha b hb=>?_⟩
  obtain ⟨k,hk,rfl⟩:=List.getElem_of_mem ha
  rw [List.mem_singleton.mp hb]
  exact R.cellNe (List.getElem?_eq_getElem hk) hp
 ·by_cases hk:k < α.length
  ·rw [List.getElem?_append_left hk] at h1
   rw [List.getElem?_append_left (by rw [<- R.len]; exact hk)] at h2
   obtain ⟨a1,a2⟩:=R.cel k a x h1 h2
   exact ⟨a1.mono (.refl _) (List.prefix_append _ _) (upd_ne (R.cellNe h1 hp)),a2⟩
  ·obtain ⟨hk2,_⟩:=List.getElem?_eq_some_iff.mp h1
   rw [List.length_append,List.length_singleton] at hk2
   have e:k=α.length:=by omega
   subst e
   have e1:(α++[p])[α.length]?=some p:=by simp
   have e2:(M++[m])[α.length]?=some m:=by rw [R.len]; simp
   rw [e1] at h1
   rw [e2] at h2
   cases h1
   cases h2
   exact ⟨(hm _ upd_same).mono (.refl _) (List.prefix_append _ _) rfl,ip⟩
def Rel.put (R:Rel C Z I α H M) {k:Nat} {a:Addr} {o:HO} {m:MO} (ha:α[k]?=some a) (hm:∀ H',H' a=some o->MoAt C I α H' a m):Rel C Z I α (upd H a o) (M.set k m):=by
 obtain ⟨hk,ea⟩:=List.getElem?_eq_some_iff.mp ha
 have hkM:k < M.length:=by rw [<- R.len]; exact hk
 have ia:I a=none:=(R.cel k a _ ha (List.getElem?_eq_getElem hkM)).2
 refine ⟨R.ai,R.aa,fun b u h=>?_,by rw [List.length_set]; exact R.len,R.nd,fun j b x h1 h2=>?_⟩
 ·have ne:b≠a:=fun e=>by rw [e,ia] at h; cases h
  rw [upd_ne ne]
  exact R.sub b u h
 ·by_cases e:k=j
  ·subst e
   rw [ha] at h1
   cases h1
   rw [List.getElem?_set_self hkM] at h2
   cases h2
   exact ⟨hm _ upd_same,ia⟩
  ·rw [List.getElem?_set_ne e] at h2
   obtain ⟨a1,a2⟩:=R.cel j b x h1 h2
   obtain ⟨hj,eb⟩:=List.getElem?_eq_some_iff.mp h1
   have ne:b≠a:=fun z=>e (by
    rw [<- ea,<- eb] at z
    exact ((List.getElem_inj R.nd).mp z).symm)
   exact ⟨a1.mono (.refl _) (List.prefix_refl _) (upd_ne ne),a2⟩
end
abbrev Ev:=List (Option D)
abbrev K3:=D->Mem->Prop
abbrev TE3:=Ev->Mem->K3->Prop
abbrev TT3:=Ev->Mem->(Bool->Mem->Prop)->Prop
abbrev TA3:=Ev->Mem->(List D->Mem->Prop)->Prop
abbrev TO3:=Ev->Mem->(Option Int->Mem->Prop)->Prop
abbrev R3:=D->D->Mem->K3->Prop
structure Ends3 where
 nx:Ev->Mem->Prop
 rt:K3
 bk:Ev->Mem->Prop:=fun _ _=>False
 ct:Ev->Mem->Prop:=fun _ _=>False
abbrev TS3:=Ends3->Ev->Mem->Prop
abbrev TG3:=D->Ev->Mem->(Ev->Mem->Prop)->Prop
abbrev TGs3:=List D->Ev->Mem->(Ev->Mem->Prop)->Prop
def RepE (C:Cf) (I:Hp) (α:List Addr) (σ:St) (ρ:Ev):Prop:=σ.length=ρ.length/\∀ (i:Nat) (d:D),ρ[i]?=some (some d)->∃ v,σ[i]?=some (some v)/\Rep C I α v d
def RepE.mono {C:Cf} {I I':Hp} {α α':List Addr} {σ:St} {ρ:Ev} (h:RepE C I α σ ρ) (s:Same I I') (p:α<+:α'):RepE C I' α' σ ρ :=
 ⟨h.1,fun i d e=>let ⟨v,a,b⟩:=h.2 i d e; ⟨v,a,b.mono s p⟩⟩
theorem RepE.set {C:Cf} {I:Hp} {α:List Addr} {σ:St} {ρ:Ev} (h:RepE C I α σ ρ) {v:V} {d:D} (r:Rep C I α v d) (i:Nat):RepE C I α (σ.set i (some v)) (ρ.set i (some d)):=by
 refine ⟨by rw [List.length_set,List.length_set]; exact h.1,fun j e q=>?_⟩
 by_cases z:i=j
 ·subst z
  by_cases hl:i < ρ.length
  ·rw [List.getElem?_set_self hl] at q
   cases q
   exact ⟨v,List.getElem?_set_self (by rw [h.1]; exact hl),r⟩
  ·rw [List.getElem?_eq_none (by rw [List.length_set]; omega)] at q
   cases q
 ·rw [List.getElem?_set_ne z] at q ⊢
  exact h.2 j e q
def Fin (C:Cf) (Z:Anc) (I:Hp) (α:List Addr) (K:K3) (Q:VK):Prop:=∀ v d I' α' H' M',Same I I'->α<+:α'->Rel C Z I' α' H' M'->Rep C I' α' v d->K d M'->Q v H'
def Fin.mono {C:Cf} {Z:Anc} {I I':Hp} {α α':List Addr} {K:K3} {Q:VK} (h:Fin C Z I α K Q) (s:Same I I') (p:α<+:α'):Fin C Z I' α' K Q:=fun v d I2 α2 H2 M2 s2 p2=>h v d I2 α2 H2 M2 (s.trans s2) (p.trans p2)
def SimE (C:Cf) (Z:Anc) (t:TE) (u:TE3):Prop:=∀ I α σ H ρ M (K:K3) (Q:VK),Rel C Z I α H M->RepE C I α σ ρ->u ρ M K->Fin C Z I α K Q->t σ H Q
def SimT (C:Cf) (Z:Anc) (t:TT) (u:TT3):Prop:=∀ I α σ H ρ M (K:Bool->Mem->Prop) (Q:Bool->Hp->Prop),Rel C Z I α H M->RepE C I α σ ρ->u ρ M K ->
 (∀ b I' α' H' M',Same I I'->α<+:α'->Rel C Z I' α' H' M'->K b M'->Q b H')->t σ H Q
def SimA (C:Cf) (Z:Anc) (t:TA) (u:TA3):Prop:=∀ I α σ H ρ M (K:List D->Mem->Prop) (Q:List V->Hp->Prop),Rel C Z I α H M->RepE C I α σ ρ->u ρ M K ->
 (∀ vs ds I' α' H' M',Same I I'->α<+:α'->Rel C Z I' α' H' M'->Reps C I' α' vs ds->K ds M'->Q vs H')->t σ H Q
def SimO (C:Cf) (Z:Anc) (t:TO) (u:TO3):Prop:=∀ I α σ H ρ M (K:Option Int->Mem->Prop) (Q:Option Int->Hp->Prop),Rel C Z I α H M->RepE C I α σ ρ->u ρ M K ->
 (∀ b I' α' H' M',Same I I'->α<+:α'->Rel C Z I' α' H' M'->K b M'->Q b H')->t σ H Q
def SimR (C:Cf) (Z:Anc) (r:R2) (u:R3):Prop:=∀ I α H M x y d e (K:K3) (Q:VK),Rel C Z I α H M->Rep C I α x d->Rep C I α y e->u d e M K->Fin C Z I α K Q->r x y H Q
def SimU (C:Cf) (Z:Anc) (r:V->Hp->VK->Prop) (u:D->Mem->K3->Prop):Prop:=∀ I α H M x d (K:K3) (Q:VK),Rel C Z I α H M->Rep C I α x d->u d M K->Fin C Z I α K Q->r x H Q
def SimC (C:Cf) (Z:Anc) (r:List V->Hp->VK->Prop) (u:List D->Mem->K3->Prop):Prop:=∀ I α H M xs ds (K:K3) (Q:VK),Rel C Z I α H M->Reps C I α xs ds->u ds M K->Fin C Z I α K Q->r xs H Q
def SimL (C:Cf) (Z:Anc) (r:V->Option Int->Option Int->Hp->VK->Prop) (u:D->Option Int->Option Int->Mem->K3->Prop):Prop:=∀ I α H M x d lo hi (K:K3) (Q:VK),Rel C Z I α H M->Rep C I α x d->u d lo hi M K->Fin C Z I α K Q->r x lo hi H Q
def FinS (C:Cf) (Z:Anc) (I:Hp) (α:List Addr) (K:Ev->Mem->Prop) (Q:St->Hp->Prop):Prop:=∀ I' α' σ' H' ρ' M',Same I I'->α<+:α'->Rel C Z I' α' H' M'->RepE C I' α' σ' ρ'->K ρ' M'->Q σ' H'
def FinS.mono {C:Cf} {Z:Anc} {I I':Hp} {α α':List Addr} {K:Ev->Mem->Prop} {Q:St->Hp->Prop} (h:FinS C Z I α K Q) (s:Same I I') (p:α<+:α'):FinS C Z I' α' K Q:=fun I2 α2 σ2 H2 ρ2 M2 s2 p2=>h I2 α2 σ2 H2 ρ2 M2 (s.trans s2) (p.trans p2)
structure FinD (C:Cf) (Z:Anc) (I:Hp) (α:List Addr) (E:Ends3) (D':Ends):Prop where
 nx:FinS C Z I α E.nx D'.nx
 rt:Fin C Z I α E.rt D'.rt
 bk:FinS C Z I α E.bk D'.bk
 ct:FinS C Z I α E.ct D'.ct
def FinD.mono {C:Cf} {Z:Anc} {I I':Hp} {α α':List Addr} {E:Ends3} {D':Ends} (h:FinD C Z I α E D') (s:Same I I') (p:α<+:α'):FinD C Z I' α' E D':=⟨h.nx.mono s p,h.rt.mono s p,h.bk.mono s p,h.ct.mono s p⟩
def SimS (C:Cf) (Z:Anc) (t:TS) (u:TS3):Prop:=∀ I α σ H ρ M (E:Ends3) (D':Ends),Rel C Z I α H M->RepE C I α σ ρ->u E ρ M->FinD C Z I α E D'->t D' σ H
def SimG (C:Cf) (Z:Anc) (t:TG) (u:TG3):Prop:=∀ I α σ H ρ M v d (K:Ev->Mem->Prop) (Q:St->Hp->Prop),Rel C Z I α H M->RepE C I α σ ρ->Rep C I α v d->u d ρ M K->FinS C Z I α K Q->t v σ H Q
def SimGs (C:Cf) (Z:Anc) (t:TGs) (u:TGs3):Prop:=∀ I α σ H ρ M vs ds (K:Ev->Mem->Prop) (Q:St->Hp->Prop),Rel C Z I α H M->RepE C I α σ ρ->Reps C I α vs ds->u ds ρ M K->FinS C Z I α K Q->t vs σ H Q
section
variable {C:Cf} {Z:Anc} {ta tb:TE} {ua ub:TE3} {tA tB':TT} {uA uB:TT3} {t:TA} {u:TA3}
def uVar (i:Nat):TE3:=fun ρ M K=>∃ d,ρ[i]?=some (some d)/\K d M
def s_var (i:Nat):SimE C Z (tVar i) (uVar i):=fun I α σ H ρ M K Q R E h k=>by
 obtain ⟨d,e,h⟩:=h
 obtain ⟨v,e2,r⟩:=E.2 i d e
 exact ⟨v,e2,k v d I α H M (.refl _) (List.prefix_refl _) R r h⟩
def uC (d:D):TE3:=fun _ M K=>K d M
def s_c {v:V} {d:D} (r:∀ I α,Rep C I α v d):SimE C Z (tC v) (uC d):=fun I α σ H ρ M K Q R E h k=>k v d I α H M (.refl _) (List.prefix_refl _) R (r I α) h
def s_int {i:Int}:SimE C Z (tC (.int i)) (uC (.int i)):=s_c fun _ _=>.int i
def s_bl {i:Bool}:SimE C Z (tC (.bl i)) (uC (.bl i)):=s_c fun _ _=>.bl i
def s_non:SimE C Z (tC .non) (uC .non):=s_c fun _ _=>.non
def s_str {i:Str}:SimE C Z (tC (.str i)) (uC (.str i)):=s_c fun _ _=>.str i
def s_ty {i:String}:SimE C Z (tC (.ty i)) (uC (.ty i)):=s_c fun _ _=>.ty i
def s_at {a:Addr}:SimE C Z (tC (.ref a)) (uC (.at a)):=s_c fun _ _=>.at a
def uOp (u:R3) (ua ub:TE3):TE3:=fun ρ M K=>ua ρ M fun d M1=>ub ρ M1 fun e M2=>u d e M2 K
def s_op {r:R2} {u:R3} (hr:SimR C Z r u) (ha:SimE C Z ta ua) (hb:SimE C Z tb ub):SimE C Z (tOp r ta tb) (uOp u ua ub):=fun I α σ H ρ M K Q R E h k =>
 ha I α σ H ρ M _ _ R E h fun v d I1 α1 H1 M1 s1 p1 R1 r1 h1 =>
  hb I1 α1 σ H1 ρ M1 _ _ R1 (E.mono s1 p1) h1 fun w e I2 α2 H2 M2 s2 p2 R2 r2 h2 =>
   hr I2 α2 H2 M2 v w d e K Q R2 (r1.mono s2 p2) r2 h2 (k.mono (s1.trans s2) (p1.trans p2))
def uUn (u:D->Mem->K3->Prop) (ua:TE3):TE3:=fun ρ M K=>ua ρ M fun d M1=>u d M1 K
def s_un {r:V->Hp->VK->Prop} {u:D->Mem->K3->Prop} (hr:SimU C Z r u) (ha:SimE C Z ta ua):SimE C Z (tUn r ta) (uUn u ua):=fun I α σ H ρ M K Q R E h k =>
 ha I α σ H ρ M _ _ R E h fun v d I1 α1 H1 M1 s1 p1 R1 r1 h1=>hr I1 α1 H1 M1 v d K Q R1 r1 h1 (k.mono s1 p1)
def uB3 (ua:TE3):TT3:=fun ρ M K=>ua ρ M fun d M1=>∃ c,d=.bl c/\K c M1
def s_b (ha:SimE C Z ta ua):SimT C Z (tB ta) (uB3 ua):=fun I α σ H ρ M K Q R E h k =>
 ha I α σ H ρ M _ _ R E h fun v d I1 α1 H1 M1 s1 p1 R1 r1 h1=>by
  obtain ⟨c,e,h1⟩:=h1
  subst e
  cases r1
  exact ⟨c,rfl,k c I1 α1 H1 M1 s1 p1 R1 h1⟩
def s_test (ha:SimE C Z ta ua):SimT C Z (tTest ta) (uB3 ua):=s_b ha
def uAnd (uA uB:TT3):TT3:=fun ρ M K=>uA ρ M fun c M1=>if c=true then uB ρ M1 K else K false M1
def uOr (uA uB:TT3):TT3:=fun ρ M K=>uA ρ M fun c M1=>if c=true then K true M1 else uB ρ M1 K
def uNot (uA:TT3):TT3:=fun ρ M K=>uA ρ M fun c M1=>K (!c) M1
def s_and (ha:SimT C Z tA uA) (hb:SimT C Z tB' uB):SimT C Z (tAnd tA tB') (uAnd uA uB):=fun I α σ H ρ M K Q R E h k =>
 ha I α σ H ρ M _ _ R E h fun c I1 α1 H1 M1 s1 p1 R1 h1=>by
  cases c with
  | true =>
   rw [if_pos rfl] at h1 ⊢
   exact hb I1 α1 σ H1 ρ M1 _ _ R1 (E.mono s1 p1) h1 fun b I2 α2 H2 M2 s2 p2 R2 h2=>k b I2 α2 H2 M2 (s1.trans s2) (p1.trans p2) R2 h2
  | false =>
   rw [if_neg Bool.false_ne_true] at h1 ⊢
   exact k false I1 α1 H1 M1 s1 p1 R1 h1
def s_or (ha:SimT C Z tA uA) (hb:SimT C Z tB' uB):SimT C Z (tOr tA tB') (uOr uA uB):=fun I α σ H ρ M K Q R E h k =>
 ha I α σ H ρ M _ _ R E h fun c I1 α1 H1 M1 s1 p1 R1 h1=>by
  cases c with
  | false =>
   rw [if_neg Bool.false_ne_true] at h1 ⊢
   exact hb I1 α1 σ H1 ρ M1 _ _ R1 (E.mono s1 p1) h1 fun b I2 α2 H2 M2 s2 p2 R2 h2=>k b I2 α2 H2 M2 (s1.trans s2) (p1.trans p2) R2 h2
  | true =>
   rw [if_pos rfl] at h1 ⊢
   exact k true I1 α1 H1 M1 s1 p1 R1 h1
def s_not (ha:SimT C Z tA uA):SimT C Z (tNot tA) (uNot uA):=fun I α σ H ρ M K Q R E h k =>
 ha I α σ H ρ M _ _ R E h fun c I1 α1 H1 M1 s1 p1 R1 h1=>k _ I1 α1 H1 M1 s1 p1 R1 h1
def uAndV (ua ub:TE3):TE3:=fun ρ M K=>ua ρ M fun d M1=>∃ c,d=.bl c/\if c=true then ub ρ M1 K else K (.bl false) M1
def uNotV (ua:TE3):TE3:=fun ρ M K=>ua ρ M fun d M1=>∃ c,d=.bl c/\K (.bl (!c)) M1
def s_andV (ha:SimE C Z ta ua) (hb:SimE C Z tb ub):SimE C Z (tAndV ta tb) (uAndV ua ub):=fun I α σ H ρ M K Q R E h k =>
 ha I α σ H ρ M _ _ R E h fun v d I1 α1 H1 M1 s1 p1 R1 r1 h1=>by
  obtain ⟨c,e,h1⟩:=h1
  subst e
  cases r1
  refine ⟨c,rfl,?_⟩
  cases c with
  | true =>
   rw [if_pos rfl] at h1 ⊢
   exact hb I1 α1 σ H1 ρ M1 _ _ R1 (E.mono s1 p1) h1 (k.mono s1 p1)
  | false =>
   rw [if_neg Bool.false_ne_true] at h1 ⊢
   exact k _ _ I1 α1 H1 M1 s1 p1 R1 (.bl _) h1
def s_notV (ha:SimE C Z ta ua):SimE C Z (tNotV ta) (uNotV ua):=fun I α σ H ρ M K Q R E h k =>
 ha I α σ H ρ M _ _ R E h fun v d I1 α1 H1 M1 s1 p1 R1 r1 h1=>by
  obtain ⟨c,e,h1⟩:=h1
  subst e
  cases r1
  exact ⟨c,rfl,k _ _ I1 α1 H1 M1 s1 p1 R1 (.bl _) h1⟩
def uNil:TA3:=fun _ M K=>K [] M
def uCons (ua:TE3) (u:TA3):TA3:=fun ρ M K=>ua ρ M fun d M1=>u ρ M1 fun ds M2=>K (d::ds) M2
def s_nil:SimA C Z tNil uNil:=fun I α σ H ρ M K Q R E h k=>k [] [] I α H M (.refl _) (List.prefix_refl _) R .nil h
def s_cons (ha:SimE C Z ta ua) (hr:SimA C Z t u):SimA C Z (tCons ta t) (uCons ua u):=fun I α σ H ρ M K Q R E h k =>
 ha I α σ H ρ M _ _ R E h fun v d I1 α1 H1 M1 s1 p1 R1 r1 h1 =>
  hr I1 α1 σ H1 ρ M1 _ _ R1 (E.mono s1 p1) h1 fun vs ds I2 α2 H2 M2 s2 p2 R2 r2 h2 =>
   k (v::vs) (d::ds) I2 α2 H2 M2 (s1.trans s2) (p1.trans p2) R2 (.cons (r1.mono s2 p2) r2) h2
def uTup (u:TA3):TE3:=fun ρ M K=>u ρ M fun ds M1=>ds.length<=sizeLine/\K (.tup ds) M1
def s_tup (ha:SimA C Z t u):SimE C Z (tTup t) (uTup u):=fun I α σ H ρ M K Q R E h k =>
 ha I α σ H ρ M _ _ R E h fun vs ds I1 α1 H1 M1 s1 p1 R1 r1 h1=>by
  refine ⟨by rw [r1.length]; exact h1.1,fun p hp=>?_⟩
  obtain ⟨R2,s2,e2⟩:=R1.new (o:=.tup vs) hp
  exact k _ _ _ α1 _ M1 (s1.trans s2) p1 R2 (.tup e2 (r1.mono s2 (List.prefix_refl _))) h1.2
def uLst (u:TA3):TE3:=fun ρ M K=>u ρ M fun ds M1=>ds.length<=sizeLine/\K (.lst ds) M1
def s_lst (ha:SimA C Z t u):SimE C Z (tLst t) (uLst u):=fun I α σ H ρ M K Q R E h k =>
 ha I α σ H ρ M _ _ R E h fun vs ds I1 α1 H1 M1 s1 p1 R1 r1 h1=>by
  refine ⟨by rw [r1.length]; exact h1.1,fun p hp=>?_⟩
  obtain ⟨R2,s2,e2⟩:=R1.new (o:=.lst vs) hp
  exact k _ _ _ α1 _ M1 (s1.trans s2) p1 R2 (.lst e2 (r1.mono s2 (List.prefix_refl _))) h1.2
def uLstC (u:TA3):TE3:=fun ρ M K=>u ρ M fun ds M1=>ds.length<=sizeLine/\K (.cell M1.length) (M1++[.lst ds])
def s_lstC (ha:SimA C Z t u):SimE C Z (tLst t) (uLstC u):=fun I α σ H ρ M K Q R E h k =>
 ha I α σ H ρ M _ _ R E h fun vs ds I1 α1 H1 M1 s1 p1 R1 r1 h1=>by
  refine ⟨by rw [r1.length]; exact h1.1,fun p hp=>?_⟩
  obtain ⟨R2,p2,e2⟩:=R1.cell (o:=.lst vs) (m:=.lst ds) hp fun H' e=>⟨vs,e,r1⟩
  exact k _ _ I1 _ _ _ s1 (p1.trans p2) R2 (.cell e2) h1.2
def uCB (r:List D->Mem->K3->Prop) (u:TA3):TE3:=fun ρ M K=>u ρ M fun ds M1=>r ds M1 K
def s_cb {r:List V->Hp->VK->Prop} {r3:List D->Mem->K3->Prop} (hr:SimC C Z r r3) (ha:SimA C Z t u):SimE C Z (tCB r t) (uCB r3 u):=fun I α σ H ρ M K Q R E h k =>
 ha I α σ H ρ M _ _ R E h fun vs ds I1 α1 H1 M1 s1 p1 R1 r1 h1=>hr I1 α1 H1 M1 vs ds K Q R1 r1 h1 (k.mono s1 p1)
def uNoPart:TO3:=fun _ M K=>K none M
def uPart (ua:TE3):TO3:=fun ρ M K=>ua ρ M fun d M1=>∃ i,d=.int i/\K (some i) M1
def s_noPart:SimO C Z tNoPart uNoPart:=fun I α σ H ρ M K Q R E h k=>k none I α H M (.refl _) (List.prefix_refl _) R h
def s_part (ha:SimE C Z ta ua):SimO C Z (tPart ta) (uPart ua):=fun I α σ H ρ M K Q R E h k =>
 ha I α σ H ρ M _ _ R E h fun v d I1 α1 H1 M1 s1 p1 R1 r1 h1=>by
  obtain ⟨i,e,h1⟩:=h1
  subst e
  cases r1
  exact ⟨i,rfl,k (some i) I1 α1 H1 M1 s1 p1 R1 h1⟩
def uSl (r:D->Option Int->Option Int->Mem->K3->Prop) (ua:TE3) (ul uh:TO3):TE3:=fun ρ M K=>ua ρ M fun d M1=>ul ρ M1 fun l M2=>uh ρ M2 fun g M3=>r d l g M3 K
def s_sl {r:V->Option Int->Option Int->Hp->VK->Prop} {r3:D->Option Int->Option Int->Mem->K3->Prop} {tl th:TO} {ul uh:TO3} (hr:SimL C Z r r3) (ha:SimE C Z ta ua) (hl:SimO C Z tl ul) (hh:SimO C Z th uh):SimE C Z (tSl r ta tl th) (uSl r3 ua ul uh):=fun I α σ H ρ M K Q R E h k =>
 ha I α σ H ρ M _ _ R E h fun v d I1 α1 H1 M1 s1 p1 R1 r1 h1 =>
  hl I1 α1 σ H1 ρ M1 _ _ R1 (E.mono s1 p1) h1 fun lo I2 α2 H2 M2 s2 p2 R2 h2 =>
   hh I2 α2 σ H2 ρ M2 _ _ R2 (E.mono (s1.trans s2) (p1.trans p2)) h2 fun hi I3 α3 H3 M3 s3 p3 R3 h3 =>
    hr I3 α3 H3 M3 v d lo hi K Q R3 (r1.mono (s2.trans s3) (p2.trans p3)) h3 (k.mono (s1.trans (s2.trans s3)) (p1.trans (p2.trans p3)))
end
def lstOf (M:Mem):D->Option (List D)
 | .lst ds=>some ds
 | .frz ds=>some ds
 | .cell k=>match M[k]? with | some (.lst ds)=>some ds | _=>none
 | _=>none
def lsOf (M:Mem):D->Option (List D)
 | .lst ds=>some ds
 | .cell k=>match M[k]? with | some (.lst ds)=>some ds | _=>none
 | _=>none
def tupOf:D->Option (List D)
 | .tup ds=>some ds
 | _=>none
def seqOf (M:Mem):D->Option (List D)
 | .tup ds=>some ds
 | d=>lstOf M d
section
variable {C:Cf} {Z:Anc} {I:Hp} {α:List Addr} {H:Hp} {M:Mem} {v:V} {d:D} {ds:List D}
def cell_lst (R:Rel C Z I α H M) {k:Nat} {a:Addr} (e:α[k]?=some a) (h:M[k]?=some (.lst ds)):∃ vs,H a=some (.lst vs)/\Reps C I α vs ds:=(R.cel k a _ e h).1
theorem lst_at (R:Rel C Z I α H M) (r:Rep C I α v d) (h:lstOf M d=some ds):∃ a vs,v=.ref a/\SqL C.k H a vs/\Reps C I α vs ds:=by
 cases r with
 | lst e r=>cases h; exact ⟨_,_,rfl,SqL.of (R.sub _ _ e),r⟩
 | frz e r=>cases h; exact ⟨_,_,rfl,R.sub.seq e,r⟩
 | @cell a k e =>
  unfold lstOf at h
  cases hm:M[k]? with
  | none=>simp only [hm] at h; cases h
  | some m =>
   cases m with
   | lst es =>
    simp only [hm] at h
    cases h
    obtain ⟨vs,e1,r⟩:=cell_lst R e hm
    exact ⟨_,_,rfl,SqL.of e1,r⟩
   | _=>simp only [hm] at h; cases h
 | _=>cases h
theorem ls_at (R:Rel C Z I α H M) (r:Rep C I α v d) (h:lsOf M d=some ds):∃ a vs,v=.ref a/\H a=some (.lst vs)/\Reps C I α vs ds:=by
 cases r with
 | lst e r=>cases h; exact ⟨_,_,rfl,R.sub _ _ e,r⟩
 | @cell a k e =>
  unfold lsOf at h
  cases hm:M[k]? with
  | none=>simp only [hm] at h; cases h
  | some m =>
   cases m with
   | lst es =>
    simp only [hm] at h
    cases h
    obtain ⟨vs,e1,r⟩:=cell_lst R e hm
    exact ⟨_,_,rfl,e1,r⟩
   | _=>simp only [hm] at h; cases h
 | _=>cases h
theorem tup_at (R:Rel C Z I α H M) (r:Rep C I α v d) (h:tupOf d=some ds):∃ a vs,v=.ref a/\H a=some (.tup vs)/\I a=some (.tup vs)/\Reps C I α vs ds:=by
 cases r with
 | tup e r=>cases h; exact ⟨_,_,rfl,R.sub _ _ e,e,r⟩
 | _=>cases h
end
def cut {τ:Type} (xs:List τ) (lo hi:Option Int):List τ:=(xs.drop (HT.sIx xs.length 0 lo)).take (HT.sIx xs.length xs.length hi - HT.sIx xs.length 0 lo)
theorem Reps.cut {C:Cf} {I:Hp} {α:List Addr} {vs:List V} {ds:List D} (r:Reps C I α vs ds) (lo hi:Option Int):Reps C I α (cutV vs lo hi) (cut ds lo hi):=by
 unfold cutV L3.cut
 rw [r.length]
 exact (r.drop _).take _
def cut_map {τ υ:Type} (f:τ->υ) (xs:List τ) (lo hi:Option Int):cut (xs.map f) lo hi=(cut xs lo hi).map f:=by
 unfold cut
 rw [List.length_map,List.map_take,List.map_drop]
theorem Reps.atI {C:Cf} {I:Hp} {α:List Addr} {vs:List V} {ds:List D} {i:Int} {d:D} (r:Reps C I α vs ds) (h:atI ds i=some d):∃ v,L2.atI vs i=some v/\Rep C I α v d:=by
 unfold L2.atI at h ⊢
 rw [r.length]
 cases e:ixN ds.length i with
 | none=>rw [e] at h; cases h
 | some j =>
  rw [e] at h
  exact r.get (i:=j) h
section
variable {C:Cf} {Z:Anc} {K':W.Frag} {X:Cx}
def OpR.or {f:Value->Value->Sem Value} {r r':R2} (h:OpR X f r) (h':OpR X f r'):OpR X f (fun x y H Q=>r x y H Q\/r' x y H Q):=by
 intro pins s σ H x y v u Q I rx ry q
 rcases q with q | q
 ·exact h pins s σ H x y v u Q I rx ry q
 ·exact h' pins s σ H x y v u Q I rx ry q
def SlR.or {r r':V->Option Int->Option Int->Hp->VK->Prop} (h:SlR X r) (h':SlR X r'):SlR X (fun x l u H Q=>r x l u H Q\/r' x l u H Q):=by
 intro pins s σ H x v vl vu lo hi sl Q I rx hs pl pu q
 rcases q with q | q
 ·exact h pins s σ H x v vl vu lo hi sl Q I rx hs pl pu q
 ·exact h' pins s σ H x v vl vu lo hi sl Q I rx hs pl pu q
def rStrAdd:R2:=fun x y H Q=>∃ i j,x=.str i/\y=.str j/\i.length + j.length<=sizeLine/\Q (.str (i++j)) H
def rAddU (K:W.Frag):R2:=fun x y H Q=>rI0 (fun i j=>.int (i + j)) x y H Q\/rStrAdd x y H Q\/rCat x y H Q\/rCatT K x y H Q
def ux_add (h:X.K=K'):OpR X (binaryOp .Add) (rAddU K'):=by
 subst h
 exact OpR.or op_add (OpR.or op_add_str (OpR.or op_cat op_catT))
def add3:R3:=fun d e M K=>match d,e with
 | .int i,.int j=>K (.int (i + j)) M
 | .str a,.str b=>a.length + b.length<=sizeLine/\K (.str (a++b)) M
 | .tup xs,.tup ys=>(xs≠[]/\xs.length + ys.length<=sizeLine)/\K (.tup (xs++ys)) M
 | d,e=>∃ xs ys,lsOf M d=some xs/\lsOf M e=some ys/\xs.length + ys.length<=sizeLine/\K (.lst (xs++ys)) M
def add_lst {I:Hp} {α:List Addr} {H:Hp} {M:Mem} {x y:V} {d e:D} {K:K3} {Q:VK} (R:Rel C Z I α H M) (r1:Rep C I α x d) (r2:Rep C I α y e)
  (h:∃ xs ys,lsOf M d=some xs/\lsOf M e=some ys/\xs.length + ys.length<=sizeLine/\K (.lst (xs++ys)) M) (k:Fin C Z I α K Q):rAddU C.k x y H Q:=by
 obtain ⟨xs,ys,e1,e2,hl,h⟩:=h
 obtain ⟨a,vs,rfl,ea,ra⟩:=ls_at R r1 e1
 obtain ⟨b,ws,rfl,eb,rb⟩:=ls_at R r2 e2
 refine .inr (.inr (.inl ⟨a,b,vs,ws,rfl,rfl,ea,eb,by rw [ra.length,rb.length]; exact hl,fun p hp=>?_⟩))
 obtain ⟨R2,s2,e2⟩:=R.new (o:=.lst (vs++ws)) hp
 exact k _ _ _ α _ M s2 (List.prefix_refl _) R2 (.lst e2 ((ra.app rb).mono s2 (List.prefix_refl _))) h
theorem s_add:SimR C Z (rAddU C.k) add3:=fun I α H M x y d e K Q R r1 r2 h k=>by
 have go:=fun h=>add_lst R r1 r2 h k
 cases d with
 | int i =>
  cases e with
  | int j=>cases r1; cases r2; exact .inl ⟨i,j,rfl,rfl,k _ _ I α H M (.refl _) (List.prefix_refl _) R (.int _) h⟩
  | _=>exact go h
 | str a =>
  cases e with
  | str b=>cases r1; cases r2; exact .inr (.inl ⟨a,b,rfl,rfl,h.1,k _ _ I α H M (.refl _) (List.prefix_refl _) R (.str _) h.2⟩)
  | _=>exact go h
 | tup xs =>
  cases e with
  | tup ys =>
   obtain ⟨⟨h1,h2⟩,h⟩:=h
   obtain ⟨a,vs,rfl,ea,ia,ra⟩:=tup_at R r1 rfl
   obtain ⟨b,ws,rfl,eb,ib,rb⟩:=tup_at R r2 rfl
   refine .inr (.inr (.inr ⟨a,b,vs,ws,rfl,rfl,SqT.of ea,SqT.of eb,fun z=>?_,by rw [ra.length,rb.length]; exact h2,fun z=>?_,fun _ p hp=>?_⟩))
   ·subst z
    cases ra
    exact h1 rfl
   ·subst z
    cases rb
    rw [List.append_nil] at h
    exact k _ _ I α H M (.refl _) (List.prefix_refl _) R r1 h
   ·obtain ⟨R2,s2,e2⟩:=R.new (o:=.tup (vs++ws)) hp
    exact k _ _ _ α _ M s2 (List.prefix_refl _) R2 (.tup e2 ((ra.app rb).mono s2 (List.prefix_refl _))) h
  | _=>exact go h
 | _=>exact go h
def int3 (c:Int->Int->Prop) (g:Int->Int->D):R3:=fun d e M K=>∃ i j,d=.int i/\e=.int j/\c i j/\K (g i j) M
def int30 (g:Int->Int->D):R3:=fun d e M K=>∃ i j,d=.int i/\e=.int j/\K (g i j) M
def s_rI {c:Int->Int->Prop} {g:Int->Int->V} {g3:Int->Int->D} (hg:∀ I α i j,Rep C I α (g i j) (g3 i j)):SimR C Z (rI c g) (int3 c g3):=fun I α H M x y d e K Q R r1 r2 h k=>by
 obtain ⟨i,j,rfl,rfl,hc,h⟩:=h
 cases r1
 cases r2
 exact ⟨i,j,rfl,rfl,hc,k _ _ I α H M (.refl _) (List.prefix_refl _) R (hg _ _ _ _) h⟩
def s_rI0 {g:Int->Int->V} {g3:Int->Int->D} (hg:∀ I α i j,Rep C I α (g i j) (g3 i j)):SimR C Z (rI0 g) (int30 g3):=fun I α H M x y d e K Q R r1 r2 h k=>by
 obtain ⟨i,j,rfl,rfl,h⟩:=h
 cases r1
 cases r2
 exact ⟨i,j,rfl,rfl,k _ _ I α H M (.refl _) (List.prefix_refl _) R (hg _ _ _ _) h⟩
def s_sub:SimR C Z (rI0 fun i j=>.int (i - j)) (int30 fun i j=>.int (i - j)):=s_rI0 fun _ _ _ _=>.int _
def s_mod:SimR C Z (rI (fun _ j=>0 < j) fun i j=>.int (i % j)) (int3 (fun _ j=>0 < j) fun i j=>.int (i % j)):=s_rI fun _ _ _ _=>.int _
def s_lt:SimR C Z (rI0 fun i j=>.bl (decide (i < j))) (int30 fun i j=>.bl (decide (i < j))):=s_rI0 fun _ _ _ _=>.bl _
def s_le:SimR C Z (rI0 fun i j=>.bl (decide (i<=j))) (int30 fun i j=>.bl (decide (i<=j))):=s_rI0 fun _ _ _ _=>.bl _
def s_gt:SimR C Z (rI0 fun i j=>.bl (decide (j < i))) (int30 fun i j=>.bl (decide (j < i))):=s_rI0 fun _ _ _ _=>.bl _
def neg3:D->Mem->K3->Prop:=fun d M K=>∃ i,d=.int i/\K (.int (-i)) M
def s_neg:SimU C Z (rU fun i=>.int (-i)) neg3:=fun I α H M x d K Q R r h k=>by
 obtain ⟨i,rfl,h⟩:=h
 cases r
 exact ⟨i,rfl,k _ _ I α H M (.refl _) (List.prefix_refl _) R (.int _) h⟩
def rMulU:R2:=fun x y H Q=>rI CMul (fun i j=>.int (i * j)) x y H Q\/rRep x y H Q
def ux_mul:OpR X (binaryOp .Mult) rMulU:=OpR.or op_mul op_rep
def mul3:R3:=fun d e M K=>match d,e with
 | .int i,.int j=>CMul i j/\K (.int (i * j)) M
 | d,e=>∃ xs k,lsOf M d=some xs/\e=.int k/\(-(2 ^ 63)<=k/\k < 2 ^ 63/\xs.length * k.toNat<=sizeLine)/\K (.lst (List.replicate k.toNat xs).flatten) M
theorem Reps.rep {I:Hp} {α:List Addr} {vs:List V} {ds:List D} (r:Reps C I α vs ds):∀ n,Reps C I α (List.replicate n vs).flatten (List.replicate n ds).flatten
 | 0=>.nil
 | n + 1=>by
  rw [List.replicate_succ,List.replicate_succ,List.flatten_cons,List.flatten_cons]
  exact r.app (Reps.rep r n)
theorem s_mul:SimR C Z rMulU mul3:=fun I α H M x y d e K Q R r1 r2 h k=>by
 have go:(∃ xs k,lsOf M d=some xs/\e=.int k/\(-(2 ^ 63)<=k/\k < 2 ^ 63/\xs.length * k.toNat<=sizeLine)/\K (.lst (List.replicate k.toNat xs).flatten) M)->rMulU x y H Q:=fun h=>by
  obtain ⟨xs,j,e1,rfl,⟨h1,h2,h3⟩,h⟩:=h
  cases r2
  obtain ⟨a,vs,rfl,ea,ra⟩:=ls_at R r1 e1
  refine .inr ⟨a,j,vs,rfl,rfl,ea,h1,h2,by rw [ra.length]; exact h3,fun p hp=>?_⟩
  obtain ⟨R2,s2,e2⟩:=R.new (o:=.lst (List.replicate j.toNat vs).flatten) hp
  exact k _ _ _ α _ M s2 (List.prefix_refl _) R2 (.lst e2 ((ra.rep _).mono s2 (List.prefix_refl _))) h
 cases d with
 | int i =>
  cases e with
  | int j=>cases r1; cases r2; exact .inl ⟨i,j,rfl,rfl,h.1,k _ _ I α H M (.refl _) (List.prefix_refl _) R (.int _) h.2⟩
  | _=>exact go h
 | _=>exact go h
def ux_ix (h:X.K=K'):IxR X (rIx K'):=by subst h; exact ix_seq
def ix3:R3:=fun d e M K=>match d with
 | .str z=>∃ i c,e=.int i/\z.length<=sizeLine/\L2.atI z.cps.toList i=some c/\K (.str ⟨#[c]⟩) M
 | d=>∃ xs i v,seqOf M d=some xs/\e=.int i/\L2.atI xs i=some v/\K v M
theorem s_ix:SimR C Z (rIx C.k) ix3:=fun I α H M x y d e K Q R r1 r2 h k=>by
 have go:(∃ xs i v,seqOf M d=some xs/\e=.int i/\L2.atI xs i=some v/\K v M)->rIx C.k x y H Q:=fun h=>by
  obtain ⟨xs,i,w,e1,rfl,e3,hk⟩:=h
  cases r2
  by_cases ht:∃ ys,d=.tup ys
  ·obtain ⟨ys,rfl⟩:=ht
   cases e1
   obtain ⟨a,vs,rfl,ea,_,ra⟩:=tup_at R r1 rfl
   obtain ⟨v,e4,rv⟩:=ra.atI e3
   exact .inr (.inl ⟨a,vs,i,v,rfl,rfl,SqT.of ea,e4,k _ _ I α H M (.refl _) (List.prefix_refl _) R rv hk⟩)
  ·have e1':lstOf M d=some xs:=by
    cases d with
    | tup ys=>exact absurd ⟨ys,rfl⟩ ht
    | _=>exact e1
   obtain ⟨a,vs,rfl,ea,ra⟩:=lst_at R r1 e1'
   obtain ⟨v,e4,rv⟩:=ra.atI e3
   exact .inl ⟨a,vs,i,v,rfl,rfl,ea,e4,k _ _ I α H M (.refl _) (List.prefix_refl _) R rv hk⟩
 cases d with
 | str z =>
  obtain ⟨i,c,rfl,h1,h2,h⟩:=h
  cases r1
  cases r2
  exact .inr (.inr ⟨z,i,c,rfl,rfl,h1,h2,k _ _ I α H M (.refl _) (List.prefix_refl _) R (.str _) h⟩)
 | _=>exact go h
def rSlU (K:W.Frag):V->Option Int->Option Int->Hp->VK->Prop:=fun x l u H Q=>rSlL K x l u H Q\/rSlW K x l u H Q\/rSlS x l u H Q
def ux_sl (h:X.K=K'):SlR X (rSlU K'):=by subst h; exact SlR.or sl_list (SlR.or sl_tupW sl_str)
def sl3:D->Option Int->Option Int->Mem->K3->Prop:=fun d lo hi M K=>match d with
 | .str z=>z.length<=sizeLine/\K (.str (Txt.slice z lo hi)) M
 | .tup xs=>K (.tup (cut xs lo hi)) M
 | d=>∃ xs,lstOf M d=some xs/\K (.lst (cut xs lo hi)) M
theorem Reps.inj_cut {I:Hp} {α:List Addr} {vs:List V} {ds:List D} (r:Reps C I α vs ds) {lo hi:Option Int} (h:cutV vs lo hi=vs):L3.cut ds lo hi=ds:=by
 have hl:(cutV vs lo hi).length=vs.length:=by rw [h]
 unfold cutV at hl
 rw [List.length_take,List.length_drop] at hl
 unfold L3.cut
 rw [r.length] at hl
 generalize HT.sIx ds.length 0 lo=a at *
 generalize HT.sIx ds.length ds.length hi=b at *
 by_cases hd:ds.length=0
 ·rw [List.length_eq_zero_iff.mp hd]; simp
 ·have:a=0:=by omega
  subst this
  rw [List.drop_zero,List.take_of_length_le]
  omega
theorem s_sl3:SimL C Z (rSlU C.k) sl3:=fun I α H M x d lo hi K Q R r1 h k=>by
 have go:(∃ xs,lstOf M d=some xs/\K (.lst (cut xs lo hi)) M)->rSlU C.k x lo hi H Q:=fun h=>by
  obtain ⟨xs,e1,h⟩:=h
  obtain ⟨a,vs,rfl,ea,ra⟩:=lst_at R r1 e1
  refine .inl ⟨a,vs,rfl,ea,fun p hp=>?_⟩
  obtain ⟨R2,s2,e2⟩:=R.new (o:=.lst (cutV vs lo hi)) hp
  exact k _ _ _ α _ M s2 (List.prefix_refl _) R2 (.lst e2 ((ra.cut lo hi).mono s2 (List.prefix_refl _))) h
 cases d with
 | str z=>cases r1; exact .inr (.inr ⟨z,rfl,h.1,k _ _ I α H M (.refl _) (List.prefix_refl _) R (.str _) h.2⟩)
 | tup xs =>
  obtain ⟨a,vs,rfl,ea,ia,ra⟩:=tup_at R r1 rfl
  refine .inr (.inl ⟨a,vs,rfl,SqT.of ea,fun z=>?_,fun p hp=>?_⟩)
  ·have h2:K (.tup (cut xs lo hi)) M:=h
   rw [ra.inj_cut z] at h2
   exact k _ _ I α H M (.refl _) (List.prefix_refl _) R r1 h2
  ·obtain ⟨R2,s2,e2⟩:=R.new (o:=.tup (cutV vs lo hi)) hp
   exact k _ _ _ α _ M s2 (List.prefix_refl _) R2 (.tup e2 ((ra.cut lo hi).mono s2 (List.prefix_refl _))) h
 | _=>exact go h
end
mutual
inductive PyR (M:Mem):D->PyData->Prop where
 | non:PyR M .non .none
 | bl (b:Bool):PyR M (.bl b) (.bool b)
 | int (i:Int):PyR M (.int i) (.int i)
 | str (x:Str):PyR M (.str x) (.str x)
 | seq {d:D} {ds:List D} {ps:List PyData}:lstOf M d=some ds->PyRs M ds ps->PyR M d (.list ps)
 | tup {ds:List D} {ps:List PyData}:PyRs M ds ps->PyR M (.tup ds) (.tuple ps)
inductive PyRs (M:Mem):List D->List PyData->Prop where
 | nil:PyRs M [] []
 | cons {d:D} {p:PyData} {ds:List D} {ps:List PyData}:PyR M d p->PyRs M ds ps->PyRs M (d::ds) (p::ps)
end
section
variable {C:Cf} {Z:Anc} {I:Hp} {α:List Addr} {H:Hp} {M:Mem}
mutual
theorem py_dv (R:Rel C Z I α H M):∀ {v:V} {d:D} {p:PyData},PyR M d p->Rep C I α v d->DV C.k H v p
 | _,_,_,.non,r=>by cases r; exact .non
 | _,_,_,.bl b,r=>by cases r; exact .bl b
 | _,_,_,.int b,r=>by cases r; exact .int b
 | _,_,_,.str b,r=>by cases r; exact .str b
 | _,_,_,.seq e q,r=>by
  obtain ⟨a,vs,rfl,ea,ra⟩:=lst_at R r e
  exact .lst ea (pys_dv R q ra)
 | _,_,_,.tup q,r=>by
  obtain ⟨a,vs,rfl,ea,_,ra⟩:=tup_at R r rfl
  exact .tup (SqT.of ea) (pys_dv R q ra)
theorem pys_dv (R:Rel C Z I α H M):∀ {vs:List V} {ds:List D} {ps:List PyData},PyRs M ds ps->Reps C I α vs ds->DVs C.k H vs ps
 | _,_,_,.nil,r=>by cases r; exact .nil
 | _,_,_,.cons a b,r=>by
  cases r with
  | cons r1 r2=>exact .cons (py_dv R a r1) (pys_dv R b r2)
end
end
def eqS:D->D->Option Bool
 | .non,.non=>some true | .non,.int _=>some false | .int _,.non=>some false | .non,.bl _=>some false | .bl _,.non=>some false | .non,.str _=>some false | .str _,.non=>some false
 | .int i,.int j=>some (decide (i=j)) | .bl i,.bl j=>some (decide (i=j)) | .str i,.str j=>some (decide (i=j))
 | .int _,.str _=>some false | .str _,.int _=>some false | .bl _,.str _=>some false | .str _,.bl _=>some false
 | _,_=>none
def eqV (d e:D) (M:Mem) (K:Bool->Prop):Prop:=(∃ b,eqS d e=some b/\K b)\/∃ p q,PyR M d p/\PyR M e q/\SeqAt.shaped p=true/\SeqAt.shaped q=true/\K (PyData.eqv p q)
def eq3:R3:=fun d e M K=>eqV d e M fun b=>K (.bl b) M
def ne3:R3:=fun d e M K=>eqV d e M fun b=>K (.bl (!b)) M
section
variable {C:Cf} {Z:Anc} {K':W.Frag} {X:Cx}
def rEqU (K:W.Frag):R2:=fun x y H Q=>rEq x y H Q\/rEqD K x y H Q
def rNeU (K:W.Frag):R2:=fun x y H Q=>rNe x y H Q\/rNeD K x y H Q
def ux_eq (h:X.K=K') (hu:X.A.units + 64 < cLine):OpR X (compareOp .Eq) (rEqU K'):=by subst h; exact OpR.or op_eq (op_eqD hu)
def ux_ne (h:X.K=K') (hu:X.A.units + 64 < cLine):OpR X (compareOp .NotEq) (rNeU K'):=by subst h; exact OpR.or op_ne (op_neD hu)
def eqS_rep {I:Hp} {α:List Addr} {x y:V} {d e:D} {b:Bool} (r1:Rep C I α x d) (r2:Rep C I α y e) (h:eqS d e=some b):scal x y=true/\decide (x=y)=b:=by
 cases r1 <;> first | (cases h; done) | (cases r2 <;> first | (cases h; done) | (injection h with h; subst h; refine ⟨rfl,?_⟩; simp))
def s_eq:SimR C Z (rEqU C.k) eq3:=fun I α H M x y d e K Q R r1 r2 h k=>by
 rcases h with ⟨b,eb,h⟩ | ⟨p,q,h1,h2,h3,h4,h⟩
 ·obtain ⟨z1,z2⟩:=eqS_rep r1 r2 eb
  exact .inl ⟨z1,by rw [z2]; exact k _ _ I α H M (.refl _) (List.prefix_refl _) R (.bl _) h⟩
 ·exact .inr ⟨p,q,py_dv R h1 r1,py_dv R h2 r2,h3,h4,k _ _ I α H M (.refl _) (List.prefix_refl _) R (.bl _) h⟩
def s_ne:SimR C Z (rNeU C.k) ne3:=fun I α H M x y d e K Q R r1 r2 h k=>by
 rcases h with ⟨b,eb,h⟩ | ⟨p,q,h1,h2,h3,h4,h⟩
 ·obtain ⟨z1,z2⟩:=eqS_rep r1 r2 eb
  exact .inl ⟨z1,by rw [z2]; exact k _ _ I α H M (.refl _) (List.prefix_refl _) R (.bl _) h⟩
 ·exact .inr ⟨p,q,py_dv R h1 r1,py_dv R h2 r2,h3,h4,k _ _ I α H M (.refl _) (List.prefix_refl _) R (.bl _) h⟩
end
structure Enc (τ:Type) [DecidableEq τ] where
 e:τ->D
 py:τ->PyData
 n:Nat
 ok:∀ M a,PyR M (e a) (py a)
 shp:∀ a,Shp n (py a)
 eq:∀ a b,PyData.eqv (py a) (py b)=decide (a=b)
 hn:n<=60
theorem eqv_all {τ:Type} [DecidableEq τ] {f:τ->PyData} (h:∀ a b,PyData.eqv (f a) (f b)=decide (a=b)):∀ (a b:List τ),PyData.eqvAll (a.map f) (b.map f)=decide (a=b)
 | [],[]=>by simp [PyData.eqvAll]
 | [],_::_=>by simp [PyData.eqvAll]
 | _::_,[]=>by simp [PyData.eqvAll]
 | a::r,b::t=>by
  rw [List.map_cons,List.map_cons,PyData.eqvAll,h,eqv_all h r t]
  simp
theorem pys_map {τ:Type} {M:Mem} {e:τ->D} {py:τ->PyData} (h:∀ a,PyR M (e a) (py a)):∀ as:List τ,PyRs M (as.map e) (as.map py)
 | []=>.nil
 | a::r=>.cons (h a) (pys_map h r)
def encInt:Enc Int:=⟨.int,.int,0,fun _=>.int,shp_int,fun a b=>by rw [PyData.eqv,Bool.beq_eq_decide_eq],by decide⟩
def encLst {τ:Type} [DecidableEq τ] (E:Enc τ) (h:E.n<=50:=by decide):Enc (List τ) where
 e as:=.lst (as.map E.e)
 py as:=.list (as.map E.py)
 n:=E.n + 1
 ok:=fun M as=>.seq rfl (pys_map (E.ok M) as)
 shp:=fun as=>shp_list fun d hd=>by
  obtain ⟨a,_,rfl⟩:=List.mem_map.mp hd
  exact E.shp a
 eq:=fun a b=>by rw [PyData.eqv,eqv_all E.eq]
 hn:=by omega
def encTup {τ:Type} [DecidableEq τ] (E:Enc τ) (h:E.n<=50:=by decide):Enc (List τ) where
 e as:=.tup (as.map E.e)
 py as:=.tuple (as.map E.py)
 n:=E.n + 1
 ok:=fun M as=>.tup (pys_map (E.ok M) as)
 shp:=fun as=>shp_tuple fun d hd=>by
  obtain ⟨a,_,rfl⟩:=List.mem_map.mp hd
  exact E.shp a
 eq:=fun a b=>by rw [PyData.eqv,eqv_all E.eq]
 hn:=by omega
def shp_up {n m:Nat} {d:PyData} (h:Shp n d) (l:n<=m):Shp m d:=⟨h.1,Nat.le_trans h.2 l⟩
def encPr {τ υ:Type} [DecidableEq τ] [DecidableEq υ] (E:Enc τ) (F:Enc υ) (h:E.n<=50:=by decide) (h':F.n<=50:=by decide):Enc (τ×υ) where
 e p:=.tup [E.e p.1,F.e p.2]
 py p:=.tuple [E.py p.1,F.py p.2]
 n:=max E.n F.n + 1
 ok:=fun M p=>.tup (.cons (E.ok M _) (.cons (F.ok M _) .nil))
 shp:=fun p=>shp_tuple fun d hd=>by
  rcases List.mem_cons.mp hd with z | hd
  ·rw [z]; exact shp_up (E.shp _) (Nat.le_max_left _ _)
  ·rw [List.mem_singleton.mp hd]; exact shp_up (F.shp _) (Nat.le_max_right _ _)
 eq:=fun a b=>by
  obtain ⟨a1,a2⟩:=a
  obtain ⟨b1,b2⟩:=b
  rw [PyData.eqv,PyData.eqvAll,PyData.eqvAll,PyData.eqvAll,E.eq,F.eq]
  simp
 hn:=by omega
theorem eqv_enc {τ:Type} [DecidableEq τ] (E:Enc τ) {a b:τ} {M:Mem} {K:Bool->Prop} (h:K (decide (a=b))):eqV (E.e a) (E.e b) M K :=
 .inr ⟨_,_,E.ok M a,E.ok M b,(E.shp a).shaped (by have:=E.hn; omega),(E.shp b).shaped (by have:=E.hn; omega),by rw [E.eq]; exact h⟩
theorem eqv_seq {τ:Type} [DecidableEq τ] (E:Enc τ) {d d':D} {a b:List τ} {M:Mem} {K:Bool->Prop} (h1:lstOf M d=some (a.map E.e)) (h2:lstOf M d'=some (b.map E.e)) (h:K (decide (a=b))) (hn:E.n<=50:=by decide):eqV d d' M K :=
 .inr ⟨_,_,.seq h1 (pys_map (E.ok M) a),.seq h2 (pys_map (E.ok M) b),((encLst E hn).shp a).shaped (by have:=(encLst E hn).hn; omega),((encLst E hn).shp b).shaped (by have:=(encLst E hn).hn; omega),by
  have:=(encLst E hn).eq a b
  rw [show PyData.eqv (PyData.list (a.map E.py)) (PyData.list (b.map E.py))=decide (a=b) from this]
  exact h⟩
inductive Ty3 where
 | non | bool | int | str | list | tuple | dict
 deriving DecidableEq
def tyN:Ty3->String
 | .non=>"NoneType" | .bool=>"bool" | .int=>"int" | .str=>"str" | .list=>"list" | .tuple=>"tuple" | .dict=>"dict"
def tyOf (M:Mem):D->Option Ty3
 | .non=>some .non | .bl _=>some .bool | .int _=>some .int | .str _=>some .str | .lst _=>some .list | .tup _=>some .tuple | .dct _=>some .dict | .dcT _=>some .dict
 | .cell k=>match M[k]? with | some (.lst _)=>some .list | some (.dct _)=>some .dict | some (.dcT _)=>some .dict | _=>none
 | _=>none
def isS:Ty3->Ty3->Bool
 | .bool,.int=>true
 | a,b=>decide (a=b)
section
variable {C:Cf} {Z:Anc}
theorem isS_kit (s t:Ty3) (ht:t≠.non):W.kitOne C.k (.type (tyN s)) (.type (tyN t))=some (isS s t):=by
 cases t with
 | non=>exact absurd rfl ht
 | _=>cases s <;> rfl
theorem ty_rep {I:Hp} {α:List Addr} {H:Hp} {M:Mem} {v:V} {d:D} {s:Ty3} (R:Rel C Z I α H M) (r:Rep C I α v d) (h:tyOf M d=some s):TyOf C.k H v (.type (tyN s)):=by
 cases r with
 | non=>cases h; exact .non
 | bl b=>cases h; exact .bl b
 | int b=>cases h; exact .int b
 | str b=>cases h; exact .str b
 | lst e r=>cases h; exact .lst (R.sub _ _ e)
 | frz e r=>cases h
 | tup e r=>cases h; exact .tup (R.sub _ _ e)
 | dct e r=>cases h; exact .dK (R.sub _ _ e)
 | dcT e r=>cases h; exact .dT (R.sub _ _ e)
 | @cell a k e =>
  unfold tyOf at h
  cases hm:M[k]? with
  | none=>simp only [hm] at h; cases h
  | some m =>
   cases m with
   | lst es=>simp only [hm] at h; cases h; obtain ⟨vs,e1,r⟩:=(R.cel k a _ e hm).1; exact .lst e1
   | dct es=>simp only [hm] at h; cases h; obtain ⟨vs,e1,r⟩:=(R.cel k a _ e hm).1; exact .dK e1
   | dcT es=>simp only [hm] at h; cases h; obtain ⟨vs,e1,r⟩:=(R.cel k a _ e hm).1; exact .dT e1
   | _=>simp only [hm] at h; cases h
 | _=>cases h
def isi3 (T:Ty3):List D->Mem->K3->Prop:=fun ds M K=>∃ d s,ds=[d,.ty (tyN T)]/\tyOf M d=some s/\K (.bl (isS s T)) M
theorem s_isi {T:Ty3} (hT:T≠.non:=by decide):SimC C Z (rIsi C.k) (isi3 T):=fun I α H M xs ds K Q R r h k=>by
 obtain ⟨d,s,rfl,e,h⟩:=h
 cases r with
 | cons r1 r2 =>
  cases r2 with
  | cons r2 r3 =>
   cases r3
   cases r2
   exact ⟨_,_,_,_,rfl,ty_rep R r1 e,isS_kit s T hT,k _ _ I α H M (.refl _) (List.prefix_refl _) R (.bl _) h⟩
def len3:List D->Mem->K3->Prop:=fun ds M K=>match ds with
 | [.str z]=>z.length<=sizeLine/\K (.int z.length) M
 | [d]=>∃ xs,seqOf M d=some xs/\K (.int xs.length) M
 | _=>False
theorem s_len:SimC C Z (rLen C.k) len3:=fun I α H M xs ds K Q R r h k=>by
 have go:∀ d v,Rep C I α v d->(∃ xs,seqOf M d=some xs/\K (.int xs.length) M)->rLen C.k [v] H Q:=fun d v r h=>by
  obtain ⟨ys,e1,h⟩:=h
  by_cases ht:∃ zs,d=.tup zs
  ·obtain ⟨zs,rfl⟩:=ht
   cases e1
   obtain ⟨a,vs,rfl,ea,_,ra⟩:=tup_at R r rfl
   exact ⟨_,_,rfl,.inr ⟨_,SqT.of ea,rfl⟩,by rw [ra.length]; exact k _ _ I α H M (.refl _) (List.prefix_refl _) R (.int _) h⟩
  ·have e1':lstOf M d=some ys:=by
    cases d with
    | tup ys=>exact absurd ⟨ys,rfl⟩ ht
    | _=>exact e1
   obtain ⟨a,vs,rfl,ea,ra⟩:=lst_at R r e1'
   exact ⟨_,_,rfl,.inl ⟨_,ea,rfl⟩,by rw [ra.length]; exact k _ _ I α H M (.refl _) (List.prefix_refl _) R (.int _) h⟩
 cases r with
 | nil=>exact h.elim
 | cons r1 r2 =>
  cases r2 with
  | nil =>
   rename_i v d
   cases d with
   | str z=>cases r1; exact ⟨_,_,rfl,⟨h.1,rfl⟩,k _ _ I α H M (.refl _) (List.prefix_refl _) R (.int _) h.2⟩
   | _=>exact go _ _ r1 h
  | cons _ _ =>
   rename_i v d _ _ _ _ _ _
   cases d <;> exact h.elim
def list3:List D->Mem->K3->Prop:=fun ds M K=>∃ d xs,ds=[d]/\seqOf M d=some xs/\K (.lst xs) M
def seq_at {I:Hp} {α:List Addr} {H:Hp} {M:Mem} {v:V} {d:D} {xs:List D} (R:Rel C Z I α H M) (r:Rep C I α v d) (h:seqOf M d=some xs):∃ a vs,v=.ref a/\(SqL C.k H a vs\/SqT C.k H a vs)/\Reps C I α vs xs:=by
 by_cases ht:∃ zs,d=.tup zs
 ·obtain ⟨zs,rfl⟩:=ht
  cases h
  obtain ⟨a,vs,rfl,ea,_,ra⟩:=tup_at R r rfl
  exact ⟨a,vs,rfl,.inr (SqT.of ea),ra⟩
 ·have e1':lstOf M d=some xs:=by
   cases d with
   | tup ys=>exact absurd ⟨ys,rfl⟩ ht
   | _=>exact h
  obtain ⟨a,vs,rfl,ea,ra⟩:=lst_at R r e1'
  exact ⟨a,vs,rfl,.inl ea,ra⟩
theorem s_list:SimC C Z (rListOf C.k) list3:=fun I α H M xs ds K Q R r h k=>by
 obtain ⟨d,ys,rfl,e,h⟩:=h
 cases r with
 | cons r1 r2 =>
  cases r2
  obtain ⟨a,vs,rfl,ea,ra⟩:=seq_at R r1 e
  refine ⟨a,vs,rfl,ea,fun p hp=>?_⟩
  obtain ⟨R2,s2,e2⟩:=R.new (o:=.lst vs) hp
  exact k _ _ _ α _ M s2 (List.prefix_refl _) R2 (.lst e2 (ra.mono s2 (List.prefix_refl _))) h
def tuple3:List D->Mem->K3->Prop:=fun ds M K=>∃ d xs,ds=[d]/\seqOf M d=some xs/\K (.tup xs) M
theorem s_tuple:SimC C Z (rTupOf C.k) tuple3:=fun I α H M xs ds K Q R r h k=>by
 obtain ⟨d,ys,rfl,e,h⟩:=h
 cases r with
 | cons r1 r2 =>
  cases r2
  by_cases ht:∃ zs,d=.tup zs
  ·obtain ⟨zs,rfl⟩:=ht
   cases e
   obtain ⟨a,vs,rfl,ea,_,ra⟩:=tup_at R r1 rfl
   exact ⟨a,vs,rfl,.inr ⟨SqT.of ea,k _ _ I α H M (.refl _) (List.prefix_refl _) R r1 h⟩⟩
  ·have e1':lstOf M d=some ys:=by
    cases d with
    | tup ys=>exact absurd ⟨ys,rfl⟩ ht
    | _=>exact e
   obtain ⟨a,vs,rfl,ea,ra⟩:=lst_at R r1 e1'
   refine ⟨a,vs,rfl,.inl ⟨ea,fun p hp=>?_⟩⟩
   obtain ⟨R2,s2,e2⟩:=R.new (o:=.tup vs) hp
   exact k _ _ _ α _ M s2 (List.prefix_refl _) R2 (.tup e2 (ra.mono s2 (List.prefix_refl _))) h
def two3 (f:Int->Int->D):List D->Mem->K3->Prop:=fun ds M K=>∃ i j,ds=[.int i,.int j]/\K (f i j) M
theorem s_max2:SimC C Z (fun xs H Q=>∃ i j,xs=[.int i,.int j]/\Q (.int (if j > i then j else i)) H) (two3 fun i j=>.int (if j > i then j else i)):=fun I α H M xs ds K Q R r h k=>by
 obtain ⟨i,j,rfl,h⟩:=h
 cases r with
 | cons r1 r2 =>
  cases r2 with
  | cons r2 r3 =>
   cases r3
   cases r1
   cases r2
   exact ⟨i,j,rfl,k _ _ I α H M (.refl _) (List.prefix_refl _) R (.int _) h⟩
theorem s_min2:SimC C Z (fun xs H Q=>∃ i j,xs=[.int i,.int j]/\Q (.int (if j < i then j else i)) H) (two3 fun i j=>.int (if j < i then j else i)):=fun I α H M xs ds K Q R r h k=>by
 obtain ⟨i,j,rfl,h⟩:=h
 cases r with
 | cons r1 r2 =>
  cases r2 with
  | cons r2 r3 =>
   cases r3
   cases r1
   cases r2
   exact ⟨i,j,rfl,k _ _ I α H M (.refl _) (List.prefix_refl _) R (.int _) h⟩
def toI:D->Option Int
 | .int i=>some i
 | .bl b=>some (if b then 1 else 0)
 | _=>none
def intOf3:List D->Mem->K3->Prop:=fun ds M K=>∃ d i,ds=[d]/\toI d=some i/\K (.int i) M
theorem s_intOf:SimC C Z (fun xs H Q=>(∃ i,xs=[.int i]/\Q (.int i) H)\/∃ k,xs=[.bl k]/\Q (.int (if k then 1 else 0)) H) intOf3:=fun I α H M xs ds K Q R r h k=>by
 obtain ⟨d,i,rfl,e,h⟩:=h
 cases r with
 | cons r1 r2 =>
  cases r2
  cases r1 with
  | int j=>cases e; exact .inl ⟨_,rfl,k _ _ I α H M (.refl _) (List.prefix_refl _) R (.int _) h⟩
  | bl b=>cases e; exact .inr ⟨_,rfl,k _ _ I α H M (.refl _) (List.prefix_refl _) R (.int _) h⟩
  | _=>cases e
theorem Reps.of_bls {I:Hp} {α:List Addr}:∀ {vs:List V} (bs:List Bool),Reps C I α vs (bs.map D.bl)->vs=bs.map V.bl
 | _,[],h=>by cases h; rfl
 | _,n::r,h=>by
  cases h with
  | cons a b =>
   cases a
   rw [Reps.of_bls r b]
   rfl
def all3:List D->Mem->K3->Prop:=fun ds M K=>∃ (d:D) (bs:List Bool),ds=[d]/\lstOf M d=some (bs.map D.bl)/\K (.bl (bs.all id)) M
theorem s_all:SimC C Z (fun xs H Q=>∃ (p:Addr) (bs:List Bool),xs=[.ref p]/\SqL C.k H p (bs.map V.bl)/\Q (.bl (bs.all id)) H) all3:=fun I α H M xs ds K Q R r h k=>by
 obtain ⟨d,bs,rfl,e,h⟩:=h
 cases r with
 | cons r1 r2 =>
  cases r2
  obtain ⟨a,vs,rfl,ea,ra⟩:=lst_at R r1 e
  rw [ra.of_bls bs] at ea
  exact ⟨a,bs,rfl,ea,k _ _ I α H M (.refl _) (List.prefix_refl _) R (.bl _) h⟩
def Rel.putL {I:Hp} {α:List Addr} {H:Hp} {M:Mem} (R:Rel C Z I α H M) {k:Nat} {a:Addr} {vs:List V} {ds:List D} (ha:α[k]?=some a) (r:Reps C I α vs ds):Rel C Z I α (upd H a (.lst vs)) (M.set k (.lst ds)) :=
 R.put (m:=.lst ds) ha fun H' e=>⟨vs,e,r⟩
def tyV_lst {H:Hp} {a:Addr} {vs:List V} (e:H a=some (.lst vs)):tyV C.k "list" (.ref a) H:=.inl ⟨rfl,vs,SqL.of e⟩
def app3:D->List D->Mem->K3->Prop:=fun d ds M K=>∃ k xs y,d=.cell k/\ds=[y]/\M[k]?=some (.lst xs)/\xs.length < sizeLine/\K .non (M.set k (.lst (xs++[y])))
def ext3:D->List D->Mem->K3->Prop:=fun d ds M K=>∃ k e xs ys,d=.cell k/\ds=[e]/\M[k]?=some (.lst xs)/\lsOf M e=some ys/\xs.length + ys.length<=sizeLine/\K .non (M.set k (.lst (xs++ys)))
def clr3:D->List D->Mem->K3->Prop:=fun d ds M K=>∃ k xs,d=.cell k/\ds=[]/\M[k]?=some (.lst xs)/\K .non (M.set k (.lst []))
variable {to:TE} {uo:TE3} {t:TA} {u:TA3}
def s_append (ho:SimE C Z to uo) (ha:SimA C Z t u):SimE C Z (tBM C.k "list" rAppend to t) (fun ρ M K=>uo ρ M fun d M1=>lsOf M1 d≠none/\u ρ M1 fun ds M2=>app3 d ds M2 K):=fun I α σ H ρ M K Q R E h k =>
 ho I α σ H ρ M _ _ R E h fun v d I1 α1 H1 M1 s1 p1 R1 r1 h1=>by
  obtain ⟨hn,h1⟩:=h1
  cases hl:lsOf M1 d with
  | none=>exact absurd hl hn
  | some zs =>
   obtain ⟨a,vs,rfl,ea,ra⟩:=ls_at R1 r1 hl
   refine ⟨tyV_lst ea,ha I1 α1 σ H1 ρ M1 _ _ R1 (E.mono s1 p1) h1 fun ws ds I2 α2 H2 M2 s2 p2 R2 r2 h2=>?_⟩
   obtain ⟨j,xs,y,rfl,rfl,e1,hz,h2⟩:=h2
   cases r2 with
   | cons ry rn =>
    cases rn
    cases (r1.mono s2 p2) with
    | cell ec =>
     obtain ⟨us,eu,ru⟩:=cell_lst R2 ec e1
     refine ⟨a,us,_,rfl,rfl,eu,by rw [ru.length]; exact hz,?_⟩
     exact k _ _ I2 α2 _ _ (s1.trans s2) (p1.trans p2) (R2.putL ec (ru.app (.one ry))) .non h2
def s_extend (ho:SimE C Z to uo) (ha:SimA C Z t u):SimE C Z (tBM C.k "list" rExtend to t) (fun ρ M K=>uo ρ M fun d M1=>lsOf M1 d≠none/\u ρ M1 fun ds M2=>ext3 d ds M2 K):=fun I α σ H ρ M K Q R E h k =>
 ho I α σ H ρ M _ _ R E h fun v d I1 α1 H1 M1 s1 p1 R1 r1 h1=>by
  obtain ⟨hn,h1⟩:=h1
  cases hl:lsOf M1 d with
  | none=>exact absurd hl hn
  | some zs =>
   obtain ⟨a,vs,rfl,ea,ra⟩:=ls_at R1 r1 hl
   refine ⟨tyV_lst ea,ha I1 α1 σ H1 ρ M1 _ _ R1 (E.mono s1 p1) h1 fun ws ds I2 α2 H2 M2 s2 p2 R2 r2 h2=>?_⟩
   obtain ⟨j,e,xs,ys,rfl,rfl,e1,e2,hz,h2⟩:=h2
   cases r2 with
   | cons ry rn =>
    cases rn
    obtain ⟨b,bs,rfl,eb,rb⟩:=ls_at R2 ry e2
    cases (r1.mono s2 p2) with
    | cell ec =>
     obtain ⟨us,eu,ru⟩:=cell_lst R2 ec e1
     refine ⟨a,b,us,bs,rfl,rfl,eu,eb,by rw [ru.length,rb.length]; exact hz,?_⟩
     exact k _ _ I2 α2 _ _ (s1.trans s2) (p1.trans p2) (R2.putL ec (ru.app rb)) .non h2
def s_clear (ho:SimE C Z to uo):SimE C Z (tBM0 C.k "list" rClear to) (fun ρ M K=>uo ρ M fun d M1=>clr3 d [] M1 K):=fun I α σ H ρ M K Q R E h k =>
 ho I α σ H ρ M _ _ R E h fun v d I1 α1 H1 M1 s1 p1 R1 r1 h1=>by
  obtain ⟨j,xs,rfl,_,e1,h1⟩:=h1
  cases r1 with
  | @cell a _ ec =>
   obtain ⟨us,eu,ru⟩:=cell_lst R1 ec e1
   exact ⟨tyV_lst eu,a,us,rfl,rfl,eu,k _ _ I1 α1 _ _ s1 p1 (R1.putL ec (.nil)) .non h1⟩
end
def Below (n:Nat) (d:D):Prop:=∀ C I α v,Rep C I α v d->Rep C I (α.take n) v d
def BelowM (n:Nat) (m:MO):Prop:=∀ C I α H a,MoAt C I α H a m->MoAt C I (α.take n) H a m
inductive BelowE (n:Nat):Ev->Ev->Prop where
 | nil:BelowE n [] []
 | skip {o:Option D} {r r':Ev}:BelowE n r r'->BelowE n (o::r) (none::r')
 | keep {d:D} {r r':Ev}:Below n d->BelowE n r r'->BelowE n (some d::r) (some d::r')
inductive BelS (n:Nat):Ev->Ev->Ev->Prop where
 | nil:BelS n [] [] []
 | skip {o0 o:Option D} {r0 r r':Ev}:BelS n r0 r r'->BelS n (o0::r0) (o::r) (none::r')
 | same {d:D} {r0 r r':Ev}:BelS n r0 r r'->BelS n (some d::r0) (some d::r) (some d::r')
 | keep {o0:Option D} {d:D} {r0 r r':Ev}:Below n d->BelS n r0 r r'->BelS n (o0::r0) (some d::r) (some d::r')
def Dr (ρ0:Ev) (M0:Mem) (P:Ev->Mem->Prop) (ρ:Ev) (M:Mem):Prop:=P ρ M\/(∃ ρ',(∃ X,M=M0++X)/\BelS M0.length ρ0 ρ ρ'/\P ρ' M0)\/∃ n ρ',M0.length<=n/\BelowE n ρ ρ'/\(∀ m∈M.take n,BelowM n m)/\P ρ' (M.take n)
def Dk (n0:Nat) (K:K3):K3:=fun d M=>K d M\/∃ n,n0<=n/\Below n d/\(∀ m∈M.take n,BelowM n m)/\K d (M.take n)
section
variable {C:Cf} {Z:Anc} {I I':Hp} {α α':List Addr} {H H':Hp} {M:Mem}
theorem BelowE.rep {n:Nat} {ρ ρ':Ev} (b:BelowE n ρ ρ'):∀ {σ:St},RepE C I α σ ρ->RepE C I (α.take n) σ ρ':=by
 induction b with
 | nil=>exact fun h=>⟨h.1,fun i d e=>by simp at e⟩
 | @skip o r r' b ih =>
  intro σ h
  cases σ with
  | nil=>cases h.1
  | cons s σ =>
   have h':RepE C I α σ r:=⟨by simpa using h.1,fun i d e=>by
    obtain ⟨v,a,b⟩:=h.2 (i + 1) d (by simpa using e)
    exact ⟨v,by simpa using a,b⟩⟩
   obtain ⟨l,g⟩:=ih h'
   refine ⟨by rw [List.length_cons,List.length_cons,l],fun i d e=>?_⟩
   cases i with
   | zero=>simp at e
   | succ i =>
    obtain ⟨v,a,b⟩:=g i d (by simpa using e)
    exact ⟨v,by simpa using a,b⟩
 | @keep d0 r r' hb b ih =>
  intro σ h
  cases σ with
  | nil=>cases h.1
  | cons s σ =>
   have h':RepE C I α σ r:=⟨by simpa using h.1,fun i d e=>by
    obtain ⟨v,a,b⟩:=h.2 (i + 1) d (by simpa using e)
    exact ⟨v,by simpa using a,b⟩⟩
   obtain ⟨l,g⟩:=ih h'
   refine ⟨by rw [List.length_cons,List.length_cons,l],fun i d e=>?_⟩
   cases i with
   | zero =>
    obtain ⟨v,a,b⟩:=h.2 0 d e
    simp at e
    subst e
    exact ⟨v,a,hb _ _ _ _ b⟩
   | succ i =>
    obtain ⟨v,a,b⟩:=g i d (by simpa using e)
    exact ⟨v,by simpa using a,b⟩
def pre_take {α0:List Addr} (p:α0<+:α) {n:Nat} (h:α0.length<=n):α0<+:α.take n:=by
 obtain ⟨t,rfl⟩:=p
 rw [List.take_append,List.take_of_length_le h]
 exact List.prefix_append _ _
def Rel.take (R:Rel C Z I α H M) (n:Nat) (hz:Z.a.length<=n) (hb:∀ m∈M.take n,BelowM n m):Rel C Z I (α.take n) H (M.take n):=by
 refine ⟨R.ai,pre_take R.aa hz,R.sub,by rw [List.length_take,List.length_take,R.len],R.nd.sublist (List.take_sublist _ _),fun k a m h1 h2=>?_⟩
 have h1':α[k]?=some a:=by
  rw [List.getElem?_take] at h1
  split at h1
  ·exact h1
  ·cases h1
 have h2':M[k]?=some m:=by
  rw [List.getElem?_take] at h2
  split at h2
  ·exact h2
  ·cases h2
 obtain ⟨a1,a2⟩:=R.cel k a m h1' h2'
 exact ⟨hb m (List.mem_of_getElem? h2) _ _ _ _ _ a1,a2⟩
theorem Fin.dk {K:K3} {Q:VK} (k:Fin C Z I α K Q) {n0:Nat} (hn:α.length=n0) (ha:Z.a<+:α):Fin C Z I α (Dk n0 K) Q:=fun v d I' α' H' M' s p R r h=>by
 rcases h with h | ⟨n,hl,hb,hm,h⟩
 ·exact k v d I' α' H' M' s p R r h
 ·exact k v d I' (α'.take n) H' (M'.take n) s (pre_take p (by omega)) (R.take n (by have:=ha.length_le; omega) hm) (hb _ _ _ _ r) h
end
def below_int {n:Nat} {i:Int}:Below n (.int i):=fun _ _ _ _ r=>by cases r; exact .int _
def below_bl {n:Nat} {i:Bool}:Below n (.bl i):=fun _ _ _ _ r=>by cases r; exact .bl _
def below_str {n:Nat} {i:Str}:Below n (.str i):=fun _ _ _ _ r=>by cases r; exact .str _
def below_non {n:Nat}:Below n .non:=fun _ _ _ _ r=>by cases r; exact .non
def below_code {n:Nat} {S:List Pr}:Below n (.code S):=fun _ _ _ _ r=>by cases r with | code h=>exact .code h
theorem below_cell {n k:Nat} (h:k < n):Below n (.cell k):=fun _ _ α _ r=>by
 cases r with
 | cell e=>exact .cell (by rw [List.getElem?_take,if_pos h]; exact e)
theorem below_all {n:Nat} {ds:List D} (h:∀ d∈ds,Below n d) {C:Cf} {I:Hp} {α:List Addr}:∀ {vs:List V},Reps C I α vs ds->Reps C I (α.take n) vs ds:=by
 induction ds with
 | nil=>intro vs r; cases r; exact .nil
 | cons d ds ih =>
  intro vs r
  cases r with
  | cons a b=>exact .cons (h d List.mem_cons_self _ _ _ _ a) (ih (fun x hx=>h x (List.mem_cons_of_mem _ hx)) b)
def below_lst {n:Nat} {ds:List D} (h:∀ d∈ds,Below n d):Below n (.lst ds):=fun _ _ _ _ r=>by cases r with | lst e r=>exact .lst e (below_all h r)
def below_frz {n:Nat} {ds:List D} (h:∀ d∈ds,Below n d):Below n (.frz ds):=fun _ _ _ _ r=>by cases r with | frz e r=>exact .frz e (below_all h r)
def below_tup {n:Nat} {ds:List D} (h:∀ d∈ds,Below n d):Below n (.tup ds):=fun _ _ _ _ r=>by cases r with | tup e r=>exact .tup e (below_all h r)
def below_map {τ:Type} {n:Nat} {f:τ->D} (h:∀ a,Below n (f a)) (as:List τ):∀ d∈as.map f,Below n d:=fun d hd=>by
 obtain ⟨a,_,rfl⟩:=List.mem_map.mp hd
 exact h a
def below_nil {n:Nat}:∀ d∈([]:List D),Below n d:=fun _ h=>nomatch h
def below_cons {n:Nat} {d:D} {ds:List D} (h:Below n d) (r:∀ d∈ds,Below n d):∀ x∈d::ds,Below n x:=fun x hx=>by
 rcases List.mem_cons.mp hx with z | z
 ·rw [z]; exact h
 ·exact r x z
def bm_hand {n:Nat}:BelowM n .hand:=fun _ _ _ _ _ h=>h
def bm_tab {n:Nat} {P:Addr} {p:Pos} {q:Str}:BelowM n (.tab P p q):=fun _ _ _ _ _ h=>h
def bm_lst {n:Nat} {ds:List D} (h:∀ d∈ds,Below n d):BelowM n (.lst ds):=fun _ _ _ _ _ x=>by
 obtain ⟨vs,e,r⟩:=x
 exact ⟨vs,e,below_all h r⟩
def WfM (M:Mem):Prop:=∀ m∈M,BelowM M.length m
theorem below_dct {n:Nat} {kvs:List (Key×D)} (h:∀ kv∈kvs,Below n kv.2) {C:Cf} {I:Hp} {α:List Addr}:∀ {vs:List (Key×V)},RepK C I α vs kvs->RepK C I (α.take n) vs kvs:=by
 induction kvs with
 | nil=>intro vs r; cases r; exact .nil
 | cons d ds ih =>
  intro vs r
  cases r with
  | cons a b=>exact .cons (h _ List.mem_cons_self _ _ _ _ a) (ih (fun x hx=>h x (List.mem_cons_of_mem _ hx)) b)
theorem below_dcT {n:Nat} {kvs:List (List Key×D)} (h:∀ kv∈kvs,Below n kv.2) {C:Cf} {I:Hp} {α:List Addr}:∀ {vs:List (List Key×V)},RepT C I α vs kvs->RepT C I (α.take n) vs kvs:=by
 induction kvs with
 | nil=>intro vs r; cases r; exact .nil
 | cons d ds ih =>
  intro vs r
  cases r with
  | cons a b=>exact .cons (h _ List.mem_cons_self _ _ _ _ a) (ih (fun x hx=>h x (List.mem_cons_of_mem _ hx)) b)
theorem below_exc {n:Nat} {kvs:List (Str×D)} (h:∀ kv∈kvs,Below n kv.2) {C:Cf} {I:Hp} {α:List Addr}:∀ {vs:List (Str×V)},RepF C I α vs kvs->RepF C I (α.take n) vs kvs:=by
 induction kvs with
 | nil=>intro vs r; cases r; exact .nil
 | cons d ds ih =>
  intro vs r
  cases r with
  | cons a b=>exact .cons (h _ List.mem_cons_self _ _ _ _ a) (ih (fun x hx=>h x (List.mem_cons_of_mem _ hx)) b)
mutual
theorem Rep.bel {C:Cf} {I:Hp} {α:List Addr}:∀ {v:V} {d:D},Rep C I α v d->Below α.length d:=by
 intro _ _ h
 cases h with
 | non=>exact below_non
 | bl b=>exact below_bl
 | int i=>exact below_int
 | str x=>exact below_str
 | ty n=>exact fun _ _ _ _ r=>by cases r; exact .ty _
 | «at» a=>exact fun _ _ _ _ r=>by cases r; exact .at _
 | tup e r=>exact below_tup (Reps.bel r)
 | lst e r=>exact below_lst (Reps.bel r)
 | frz e r=>exact below_frz (Reps.bel r)
 | dct e r=>exact fun _ _ _ _ q=>by cases q with | dct e q=>exact .dct e (below_dct (RepK.bel r) q)
 | dcT e r=>exact fun _ _ _ _ q=>by cases q with | dcT e q=>exact .dcT e (below_dcT (RepT.bel r) q)
 | code h=>exact below_code
 | cell e=>exact below_cell (List.getElem?_eq_some_iff.mp e).1
 | exc e f r=>exact fun _ _ _ _ q=>by cases q with | exc e f q=>exact .exc e f (below_exc (RepF.bel r) q)
theorem Reps.bel {C:Cf} {I:Hp} {α:List Addr}:∀ {vs:List V} {ds:List D},Reps C I α vs ds->∀ d∈ds,Below α.length d:=by
 intro _ _ h
 cases h with
 | nil=>exact below_nil
 | cons h r=>exact below_cons (Rep.bel h) (Reps.bel r)
theorem RepK.bel {C:Cf} {I:Hp} {α:List Addr}:∀ {vs:List (Key×V)} {ds:List (Key×D)},RepK C I α vs ds->∀ kv∈ds,Below α.length kv.2:=by
 intro _ _ h
 cases h with
 | nil=>exact fun _ h=>nomatch h
 | cons h r =>
  exact fun kv hk=>by
   rcases List.mem_cons.mp hk with z | z
   ·rw [z]; exact Rep.bel h
   ·exact RepK.bel r kv z
theorem RepF.bel {C:Cf} {I:Hp} {α:List Addr}:∀ {vs:List (Str×V)} {ds:List (Str×D)},RepF C I α vs ds->∀ kv∈ds,Below α.length kv.2:=by
 intro _ _ h
 cases h with
 | nil=>exact fun _ h=>nomatch h
 | cons h r =>
  exact fun kv hk=>by
   rcases List.mem_cons.mp hk with z | z
   ·rw [z]; exact Rep.bel h
   ·exact RepF.bel r kv z
theorem RepT.bel {C:Cf} {I:Hp} {α:List Addr}:∀ {vs:List (List Key×V)} {ds:List (List Key×D)},RepT C I α vs ds->∀ kv∈ds,Below α.length kv.2:=by
 intro _ _ h
 cases h with
 | nil=>exact fun _ h=>nomatch h
 | cons h r =>
  exact fun kv hk=>by
   rcases List.mem_cons.mp hk with z | z
   ·rw [z]; exact Rep.bel h
   ·exact RepT.bel r kv z
end
def bm_dct {n:Nat} {ds:List (Key×D)} (h:∀ d∈ds,Below n d.2):BelowM n (.dct ds):=fun _ _ _ _ _ x=>by
 obtain ⟨vs,e,r⟩:=x
 exact ⟨vs,e,below_dct h r⟩
def bm_dcT {n:Nat} {ds:List (List Key×D)} (h:∀ d∈ds,Below n d.2):BelowM n (.dcT ds):=fun _ _ _ _ _ x=>by
 obtain ⟨vs,e,r⟩:=x
 exact ⟨vs,e,below_dcT h r⟩
def bm_drK {n:Nat} {ds:List (Key×D)} (h:∀ d∈ds,Below n d.2):BelowM n (.drK ds):=fun _ _ _ _ _ x=>by
 obtain ⟨vs,e,r⟩:=x
 exact ⟨vs,e,below_dct h r⟩
def bm_drT {n:Nat} {ds:List (List Key×D)} (h:∀ d∈ds,Below n d.2):BelowM n (.drT ds):=fun _ _ _ _ _ x=>by
 obtain ⟨vs,e,r⟩:=x
 exact ⟨vs,e,below_dcT h r⟩
def bm_dfT {n:Nat} {o:Obj} {vs:List (List Key×V)} {ds:List (List Key×D)} (h:∀ d∈ds,Below n d.2):BelowM n (.dfT o vs ds):=fun _ _ _ _ _ x=>⟨x.1,below_dcT h x.2⟩
def bm_dfK {n:Nat} {o:Obj} {vs:List (Key×V)} {ds:List (Key×D)} (h:∀ d∈ds,Below n d.2):BelowM n (.dfK o vs ds):=fun _ _ _ _ _ x=>⟨x.1,below_dct h x.2⟩
theorem bm_ins {n:Nat} {Cl:Addr} {fs:List (Str×D)} (h:∀ d∈fs,Below n d.2):BelowM n (.ins Cl fs):=fun C I α H a x=>by
 obtain ⟨dx,vs,e,r⟩:=x
 refine ⟨dx,vs,e,?_⟩
 clear e
 induction fs generalizing vs with
 | nil=>cases r; exact .nil
 | cons d ds ih =>
  cases r with
  | cons a b=>exact .cons ⟨a.1,h _ List.mem_cons_self _ _ _ _ a.2⟩ (ih (fun x hx=>h x (List.mem_cons_of_mem _ hx)) _ b)
theorem MoAt.bel {C:Cf} {I:Hp} {α:List Addr} {H:Hp} {a:Addr} {m:MO} (h:MoAt C I α H a m):BelowM α.length m:=by
 cases m with
 | lst ds=>obtain ⟨vs,e,r⟩:=h; exact bm_lst r.bel
 | dct ds=>obtain ⟨vs,e,r⟩:=h; exact bm_dct r.bel
 | dcT ds=>obtain ⟨vs,e,r⟩:=h; exact bm_dcT r.bel
 | drK ds=>obtain ⟨vs,e,r⟩:=h; exact bm_drK r.bel
 | drT ds=>obtain ⟨vs,e,r⟩:=h; exact bm_drT r.bel
 | dfT o vs ds=>exact bm_dfT h.2.bel
 | dfK o vs ds=>exact bm_dfK h.2.bel
 | ins Cl fs =>
  obtain ⟨dx,vs,e,r⟩:=h
  refine bm_ins fun kv hk=>?_
  clear e
  induction r with
  | nil=>cases hk
  | cons a b ih =>
   rcases List.mem_cons.mp hk with z | z
   ·rw [z]; exact a.2.bel
   ·exact ih z
 | hand=>exact bm_hand
 | tab P pos q=>exact bm_tab
def Rel.wf {C:Cf} {Z:Anc} {I:Hp} {α:List Addr} {H:Hp} {M:Mem} (R:Rel C Z I α H M):WfM M:=fun m hm=>by
 obtain ⟨k,hk,rfl⟩:=List.getElem_of_mem hm
 have hk':k < α.length:=by rw [R.len]; exact hk
 have:=(R.cel k _ _ (List.getElem?_eq_getElem hk') (List.getElem?_eq_getElem hk)).1.bel
 rwa [R.len] at this
theorem BelS.belowE {n:Nat} {ρ0 ρ ρ':Ev} (b:BelS n ρ0 ρ ρ'):(∀ (i:Nat) (d:D),ρ0[i]?=some (some d)->Below n d)->BelowE n ρ ρ':=by
 induction b with
 | nil=>exact fun _=>.nil
 | skip _ ih=>exact fun h=>.skip (ih fun i d e=>h (i + 1) d (by simpa using e))
 | same _ ih=>exact fun h=>.keep (h 0 _ rfl) (ih fun i d e=>h (i + 1) d (by simpa using e))
 | keep hb _ ih=>exact fun h=>.keep hb (ih fun i d e=>h (i + 1) d (by simpa using e))
theorem Dr.out {C:Cf} {Z:Anc} {I I0:Hp} {α0 α:List Addr} {H H0:Hp} {M M0:Mem} {P:Ev->Mem->Prop} {σ σ0:St} {ρ ρ0:Ev} (h:Dr ρ0 M0 P ρ M) (R0:Rel C Z I0 α0 H0 M0) (E0:RepE C I0 α0 σ0 ρ0) (p:α0<+:α) (R:Rel C Z I α H M) (E:RepE C I α σ ρ) :
  ∃ α' ρ' M',α0<+:α'/\Rel C Z I α' H M'/\RepE C I α' σ ρ'/\P ρ' M':=by
 rcases h with h | ⟨ρ',⟨X,rfl⟩,hb,h⟩ | ⟨n,ρ',hl,hb,hm,h⟩
 ·exact ⟨α,ρ,M,p,R,E,h⟩
 ·have hb':=hb.belowE fun i d e=>by
   obtain ⟨v,_,r⟩:=E0.2 i d e
   have:=r.bel
   rwa [R0.len] at this
  have et:(M0++X).take M0.length=M0:=List.take_left ..
  have R1:=R.take M0.length (by rw [<- R0.len]; exact R0.aa.length_le) (by rw [et]; exact R0.wf)
  rw [et] at R1
  exact ⟨α.take M0.length,ρ',M0,pre_take p (by rw [R0.len]; exact Nat.le_refl _),R1,hb'.rep E,h⟩
 ·exact ⟨α.take n,ρ',M.take n,pre_take p (by rw [R0.len]; omega),R.take n (by have:=R0.aa.length_le; have:=R0.len; omega) hm,hb.rep E,h⟩
section
variable {C:Cf} {Z:Anc} {t t':TS} {u u':TS3} {te:TE} {ue:TE3} {tc:TT} {uc:TT3} {g:TG} {ug:TG3} {gs:TGs} {ugs:TGs3}
def uSeq (u u':TS3):TS3:=fun E ρ M=>u { E with nx:=u' E } ρ M
def s_seq (h1:SimS C Z t u) (h2:SimS C Z t' u'):SimS C Z (tSeq t t') (uSeq u u'):=fun I α σ H ρ M E D' R RE h F =>
 h1 I α σ H ρ M { E with nx:=u' E } { D' with nx:=t' D' } R RE h ⟨fun I1 α1 σ1 H1 ρ1 M1 s p R1 RE1 h1=>h2 I1 α1 σ1 H1 ρ1 M1 E D' R1 RE1 h1 (F.mono s p),F.rt,F.bk,F.ct⟩
def uNext:TS3:=fun E ρ M=>E.nx ρ M
def s_next:SimS C Z tNext uNext:=fun I α σ H ρ M E D' R RE h F=>F.nx I α σ H ρ M (.refl _) (List.prefix_refl _) R RE h
def uDrop (ue:TE3):TS3:=fun E ρ M=>ue ρ M fun _ M1=>E.nx ρ M1
def s_drop (he:SimE C Z te ue):SimS C Z (tDrop te) (uDrop ue):=fun I α σ H ρ M E D' R RE h F =>
 he I α σ H ρ M _ _ R RE h fun v d I1 α1 H1 M1 s p R1 r h1=>F.nx I1 α1 σ H1 ρ M1 s p R1 (RE.mono s p) h1
def uRet (ue:TE3):TS3:=fun E ρ M=>ue ρ M E.rt
def s_ret (he:SimE C Z te ue):SimS C Z (tRet te) (uRet ue):=fun I α σ H ρ M E D' R RE h F=>he I α σ H ρ M _ _ R RE h F.rt
def uIfS (c:TT3) (u u':TS3):TS3:=fun E ρ M=>c ρ M fun b M1=>if b=true then u E ρ M1 else u' E ρ M1
def s_ifS (hc:SimT C Z tc uc) (h1:SimS C Z t u) (h2:SimS C Z t' u'):SimS C Z (tIfS tc t t') (uIfS uc u u'):=fun I α σ H ρ M E D' R RE h F =>
 hc I α σ H ρ M _ _ R RE h fun b I1 α1 H1 M1 s p R1 h3=>by
  cases b with
  | true =>
   rw [if_pos rfl] at h3 ⊢
   exact h1 I1 α1 σ H1 ρ M1 E D' R1 (RE.mono s p) h3 (F.mono s p)
  | false =>
   rw [if_neg Bool.false_ne_true] at h3 ⊢
   exact h2 I1 α1 σ H1 ρ M1 E D' R1 (RE.mono s p) h3 (F.mono s p)
def uAsg (ue:TE3) (ug:TG3):TS3:=fun E ρ M=>ue ρ M fun d M1=>ug d ρ M1 E.nx
def s_asg (he:SimE C Z te ue) (hg:SimG C Z g ug):SimS C Z (tAsg te g) (uAsg ue ug):=fun I α σ H ρ M E D' R RE h F =>
 he I α σ H ρ M _ _ R RE h fun v d I1 α1 H1 M1 s p R1 r h1=>hg I1 α1 σ H1 ρ M1 v d _ _ R1 (RE.mono s p) r h1 (F.nx.mono s p)
def uG (i:Nat):TG3:=fun d ρ M K=>K (ρ.set i (some d)) M
def s_g (i:Nat):SimG C Z (gName i) (uG i):=fun I α σ H ρ M v d K Q R RE r h k=>k I α _ H _ M (.refl _) (List.prefix_refl _) R (RE.set r i) h
def uGNil:TGs3:=fun ds ρ M K=>ds=[]/\K ρ M
def uGCons (ug:TG3) (ugs:TGs3):TGs3:=fun ds ρ M K=>∃ d r,ds=d::r/\ug d ρ M fun ρ' M'=>ugs r ρ' M' K
def s_gnil:SimGs C Z gNil uGNil:=fun I α σ H ρ M vs ds K Q R RE r h k=>by
 obtain ⟨rfl,h⟩:=h
 cases r
 exact ⟨rfl,k I α σ H ρ M (.refl _) (List.prefix_refl _) R RE h⟩
theorem s_gcons (h1:SimG C Z g ug) (h2:SimGs C Z gs ugs):SimGs C Z (gCons g gs) (uGCons ug ugs):=fun I α σ H ρ M vs ds K Q R RE r h k=>by
 obtain ⟨d,r',rfl,h⟩:=h
 cases r with
 | cons a b=>exact ⟨_,_,rfl,h1 I α σ H ρ M _ d _ _ R RE a h fun I1 α1 σ1 H1 ρ1 M1 s p R1 RE1 h3=>h2 I1 α1 σ1 H1 ρ1 M1 _ _ _ _ R1 RE1 (b.mono s p) h3 (k.mono s p)⟩
def uGTup (n:Nat) (ugs:TGs3):TG3:=fun d ρ M K=>∃ ds,tupOf d=some ds/\ds.length=n/\ugs ds ρ M K
def s_gtup {n:Nat} (h:SimGs C Z gs ugs):SimG C Z (gTup C.k n gs) (uGTup n ugs):=fun I α σ H ρ M v d K Q R RE r hh k=>by
 obtain ⟨ds,e,hl,hh⟩:=hh
 obtain ⟨a,vs,rfl,ea,_,ra⟩:=tup_at R r e
 exact ⟨a,vs,rfl,SqT.of ea,by rw [ra.length]; exact hl,h I α σ H ρ M vs ds K Q R RE ra hh k⟩
def uGSub (uo ui:TE3):TG3:=fun d ρ M K=>uo ρ M fun o M1=>ui ρ M1 fun i M2=>∃ k xs z j,o=.cell k/\i=.int z/\M2[k]?=some (.lst xs)/\ixN xs.length z=some j/\K ρ (M2.set k (.lst (xs.set j d)))
def s_gsub {to ti:TE} {uo ui:TE3} (ho:SimE C Z to uo) (hi:SimE C Z ti ui):SimG C Z (gSub to ti rSetL) (uGSub uo ui):=fun I α σ H ρ M v d K Q R RE r hh k =>
 ho I α σ H ρ M _ _ R RE hh fun ov o I1 α1 H1 M1 s1 p1 R1 r1 h1=>hi I1 α1 σ H1 ρ M1 _ _ R1 (RE.mono s1 p1) h1 fun iv i I2 α2 H2 M2 s2 p2 R2 r2 h2=>by
  obtain ⟨kk,xs,z,j,rfl,rfl,e1,e2,h2⟩:=h2
  cases r2
  cases (r1.mono s2 p2) with
  | cell ec =>
   obtain ⟨us,eu,ru⟩:=cell_lst R2 ec e1
   refine ⟨_,us,z,j,rfl,rfl,eu,by rw [ru.length]; exact e2,?_⟩
   exact k I2 α2 σ _ ρ _ (s1.trans s2) (p1.trans p2) (R2.putL ec (ru.set (r.mono (s1.trans s2) (p1.trans p2)) j)) (RE.mono (s1.trans s2) (p1.trans p2)) h2
def uWhile (uc:TT3) (u:TS3):TS3:=fun E ρ M=>∃ P:Nat->Ev->Mem->Prop,(∃ m,P m ρ M)/\∀ m ρ1 M1,P m ρ1 M1->uc ρ1 M1 fun b M2=>if b=true then u { E with nx:=fun ρ' M'=>∃ m',m' < m/\Dr ρ M (P m') ρ' M',ct:=fun ρ' M'=>∃ m',m' < m/\Dr ρ M (P m') ρ' M',bk:=E.nx } ρ1 M2 else E.nx ρ1 M2
theorem s_while (hc:SimT C Z tc uc) (hb:SimS C Z t u):SimS C Z (tWhile tc t) (uWhile uc u):=fun I α σ H ρ M E D' R RE h F=>by
 obtain ⟨P,⟨m0,h0⟩,hs⟩:=h
 have hlen:=R.len
 refine ⟨fun m σ1 H1=>∃ I1 α1 ρ1 M1,Same I I1/\α<+:α1/\Rel C Z I1 α1 H1 M1/\RepE C I1 α1 σ1 ρ1/\P m ρ1 M1,⟨m0,I,α,ρ,M,.refl _,List.prefix_refl _,R,RE,h0⟩,?_⟩
 rintro m σ1 H1 ⟨I1,α1,ρ1,M1,s1,p1,R1,RE1,h1⟩
 refine hc I1 α1 σ1 H1 ρ1 M1 _ _ R1 RE1 (hs m ρ1 M1 h1) fun b I2 α2 H2 M2 s2 p2 R2 h2=>?_
 cases b with
 | false =>
  rw [if_neg Bool.false_ne_true] at h2 ⊢
  exact F.nx I2 α2 σ1 H2 ρ1 M2 (s1.trans s2) (p1.trans p2) R2 (RE1.mono s2 p2) h2
 | true =>
  rw [if_pos rfl] at h2 ⊢
  refine ⟨fun σ' H'=>∃ m',m' < m/\∃ I1 α1 ρ1 M1,Same I I1/\α<+:α1/\Rel C Z I1 α1 H' M1/\RepE C I1 α1 σ' ρ1/\P m' ρ1 M1,fun σ' H' h=>h,?_⟩
  have nx:FinS C Z I2 α2 (fun ρ' M'=>∃ m',m' < m/\Dr ρ M (P m') ρ' M') (fun σ' H'=>∃ m',m' < m/\∃ I1 α1 ρ1 M1,Same I I1/\α<+:α1/\Rel C Z I1 α1 H' M1/\RepE C I1 α1 σ' ρ1/\P m' ρ1 M1):=fun I3 α3 σ3 H3 ρ3 M3 s3 p3 R3 RE3 h3=>by
   obtain ⟨m',hm,h3⟩:=h3
   obtain ⟨α4,ρ4,M4,p4,R4,RE4,h4⟩:=h3.out R RE (p1.trans (p2.trans p3)) R3 RE3
   exact ⟨m',hm,I3,α4,ρ4,M4,s1.trans (s2.trans s3),p4,R4,RE4,h4⟩
  exact hb I2 α2 σ1 H2 ρ1 M2 _ _ R2 (RE1.mono s2 p2) h2 ⟨nx,F.rt.mono (s1.trans s2) (p1.trans p2),F.nx.mono (s1.trans s2) (p1.trans p2),nx⟩
structure It3 where
 n:Nat
 item:Nat->D->Prop
 ok:Mem->Prop
abbrev TI3:=Ev->Mem->(It3->Mem->Prop)->Prop
def ItR (C:Cf) (Z:Anc) (I:Hp) (α:List Addr) (J:It) (j:It3):Prop:=∀ I' α' H' M',Same I I'->α<+:α'->Rel C Z I' α' H' M'->j.ok M' ->
 (∀ i,i < j.n->J.go i H'/\∀ x H2,J.yld i H' x H2->∃ I2 d,Same I' I2/\Rel C Z I2 α' H2 M'/\Rep C I2 α' x d/\j.item i d)/\J.stop j.n H'
def SimI (C:Cf) (Z:Anc) (w:TI) (u:TI3):Prop:=∀ I α σ H ρ M (K:It3->Mem->Prop) (R':It->Hp->Prop),Rel C Z I α H M->RepE C I α σ ρ->u ρ M K ->
 (∀ J j I' α' H' M',Same I I'->α<+:α'->Rel C Z I' α' H' M'->ItR C Z I' α' J j->K j M'->R' J H')->w σ H R'
def uIL (ue:TE3):TI3:=fun ρ M K=>ue ρ M fun d M1=>∃ ds,lstOf M1 d=some ds/\K ⟨ds.length,fun i x=>ds[i]?=some x,fun M=>lstOf M d=some ds⟩ M1
def s_il (he:SimE C Z te ue):SimI C Z (iList C.k te) (uIL ue):=fun I α σ H ρ M K R' R RE h k =>
 he I α σ H ρ M _ _ R RE h fun v d I1 α1 H1 M1 s1 p1 R1 r1 h1=>by
  obtain ⟨ds,e,h1⟩:=h1
  obtain ⟨a,vs,rfl,ea,ra⟩:=lst_at R1 r1 e
  refine ⟨a,rfl,⟨vs,ea⟩,k _ _ I1 α1 H1 M1 s1 p1 R1 (fun I2 α2 H2 M2 s2 p2 R2 ok=>?_) h1⟩
  obtain ⟨b,ws,eb,eq,rw'⟩:=lst_at R2 (r1.mono s2 p2) ok
  cases eb
  refine ⟨fun i hi=>?_,⟨ws,eq,by rw [rw'.length]; exact Nat.le_refl _⟩⟩
  have hi2:i < ws.length:=by rw [rw'.length]; exact hi
  refine ⟨⟨ws,ws[i],eq,List.getElem?_eq_getElem hi2⟩,fun x H3 y=>?_⟩
  obtain ⟨rfl,y⟩:=y
  have:=y ws eq
  rw [List.getElem?_eq_getElem hi2] at this
  cases this
  exact ⟨I2,ds[i],.refl _,R2,rw'.at hi2 hi,List.getElem?_eq_getElem hi⟩
def rngIt (lo:Int) (n:Nat):It3:=⟨n,fun i x=>x=.int (lo + i),fun _=>True⟩
def itr_r {I:Hp} {α:List Addr} {lo:Int} {n:Nat}:ItR C Z I α (Itr lo n) (rngIt lo n):=fun I' α' H' M' s p R _=>⟨fun i hi=>⟨hi,fun x H2 y=>by
 obtain ⟨rfl,rfl⟩:=y
 exact ⟨I',_,.refl _,R,.int _,rfl⟩⟩,Nat.le_refl _⟩
variable {ta:TA} {ua:TA3}
def uIR1 (ua:TA3):TI3:=fun ρ M K=>ua ρ M fun ds M1=>∃ j:Int,ds=[.int j]/\(-(2 ^ 62)<=j/\j < 2 ^ 62)/\K (rngIt 0 j.toNat) M1
def s_ir1 (ha:SimA C Z ta ua):SimI C Z (iRng1 ta) (uIR1 ua):=fun I α σ H ρ M K R' R RE h k =>
 ha I α σ H ρ M _ _ R RE h fun vs ds I1 α1 H1 M1 s1 p1 R1 r1 h1=>by
  obtain ⟨j,rfl,⟨h2,h3⟩,h1⟩:=h1
  cases r1 with
  | cons a b =>
   cases b
   cases a
   exact ⟨j,rfl,h2,h3,k _ _ I1 α1 H1 M1 s1 p1 R1 itr_r h1⟩
def uIR2 (ua:TA3):TI3:=fun ρ M K=>ua ρ M fun ds M1=>∃ i j:Int,ds=[.int i,.int j]/\(-(2 ^ 62)<=i/\i < 2 ^ 62/\-(2 ^ 62)<=j/\j < 2 ^ 62)/\K (rngIt i (j - i).toNat) M1
def s_ir2 (ha:SimA C Z ta ua):SimI C Z (iRng2 ta) (uIR2 ua):=fun I α σ H ρ M K R' R RE h k =>
 ha I α σ H ρ M _ _ R RE h fun vs ds I1 α1 H1 M1 s1 p1 R1 r1 h1=>by
  obtain ⟨i,j,rfl,h2,h1⟩:=h1
  cases r1 with
  | cons a b =>
   cases b with
   | cons b c =>
    cases c
    cases a
    cases b
    exact ⟨i,j,rfl,h2,k _ _ I1 α1 H1 M1 s1 p1 R1 itr_r h1⟩
def uFor (ui:TI3) (ug:TG3) (ub:TS3):TS3:=fun E ρ M=>ui ρ M fun j M1=>∃ P:Nat->Ev->Mem->Prop,(∀ i ρ M,i<=j.n->P i ρ M->j.ok M)/\P 0 ρ M1 /\
 (∀ i x ρ1 M',i < j.n->j.item i x->P i ρ1 M'->ug x ρ1 M' fun ρ2 M2=>ub { E with nx:=Dr ρ M1 (P (i + 1)),ct:=Dr ρ M1 (P (i + 1)),bk:=E.nx } ρ2 M2)/\∀ ρ M,P j.n ρ M->E.nx ρ M
theorem s_for {wi:TI} {ui:TI3} (hi:SimI C Z wi ui) (hg:SimG C Z g ug) (hb:SimS C Z t u):SimS C Z (tFor wi g t) (uFor ui ug u):=fun I α σ H ρ M E D' R RE h F =>
 hi I α σ H ρ M _ _ R RE h fun J j I1 α1 H1 M1 s1 p1 R1 IR h1=>by
  obtain ⟨P,hok,h0,hs,he⟩:=h1
  have hlen:=R1.len
  refine ⟨fun i m σ' H'=>m=j.n - i/\i<=j.n/\∃ I2 α2 ρ2 M2,Same I1 I2/\α1<+:α2/\Rel C Z I2 α2 H' M2/\RepE C I2 α2 σ' ρ2/\P i ρ2 M2,⟨j.n,rfl,Nat.zero_le _,I1,α1,ρ,M1,.refl _,List.prefix_refl _,R1,RE.mono s1 p1,h0⟩,?_⟩
  rintro i m σ' H' ⟨rfl,hi,I2,α2,ρ2,M2,s2,p2,R2,RE2,h2⟩
  obtain ⟨go,stop⟩:=IR I2 α2 H' M2 s2 p2 R2 (hok i ρ2 M2 hi h2)
  by_cases hlt:i < j.n
  ·obtain ⟨g1,g2⟩:=go i hlt
   refine .inr ⟨g1,fun σ3 H3=>∃ I3 α3 ρ3 M3,Same I1 I3/\α1<+:α3/\Rel C Z I3 α3 H3 M3/\RepE C I3 α3 σ3 ρ3/\P (i + 1) ρ3 M3,fun σ3 H3 h3=>⟨j.n - (i + 1),by omega,rfl,hlt,h3⟩,fun x H3 y=>?_⟩
   obtain ⟨I3,d,s3,R3,r3,it⟩:=g2 x H3 y
   refine hg I3 α2 σ' H3 ρ2 M2 x d _ _ R3 (RE2.mono s3 (List.prefix_refl _)) r3 (hs i d ρ2 M2 hlt it h2) fun I4 α4 σ4 H4 ρ4 M4 s4 p4 R4 RE4 h4=>?_
   have nx:FinS C Z I4 α4 (Dr ρ M1 (P (i + 1))) (fun σ3 H3=>∃ I3 α3 ρ3 M3,Same I1 I3/\α1<+:α3/\Rel C Z I3 α3 H3 M3/\RepE C I3 α3 σ3 ρ3/\P (i + 1) ρ3 M3):=fun I5 α5 σ5 H5 ρ5 M5 s5 p5 R5 RE5 h5=>by
    obtain ⟨α6,ρ6,M6,p6,R6,RE6,h6⟩:=h5.out R1 (RE.mono s1 p1) (p2.trans (p4.trans p5)) R5 RE5
    exact ⟨I5,α6,ρ6,M6,s2.trans (s3.trans (s4.trans s5)),p6,R6,RE6,h6⟩
   have F4:=F.mono (s1.trans (s2.trans (s3.trans s4))) (p1.trans (p2.trans p4))
   exact hb I4 α4 σ4 H4 ρ4 M4 _ _ R4 RE4 h4 ⟨nx,F4.rt,F4.nx,nx⟩
  ·have e:i=j.n:=by omega
   subst e
   exact .inl ⟨stop,F.nx I2 α2 σ' H' ρ2 M2 (s1.trans s2) (p1.trans p2) R2 RE2 (he ρ2 M2 h2)⟩
def sg3 (ρ:Ev) (T:List Str) (cs:List Nat):Ev:=T.map (fun _=>none)++cs.map fun i=>ρ.getD i none
def RepE.sg {I:Hp} {α:List Addr} {σ:St} {ρ:Ev} (h:RepE C I α σ ρ) (T:List Str) (cs:List Nat):RepE C I α (sgOf σ T cs) (sg3 ρ T cs):=by
 refine ⟨by unfold sgOf sg3; simp,fun i d e=>?_⟩
 unfold sg3 at e
 unfold sgOf
 by_cases hi:i < T.length
 ·rw [List.getElem?_append_left (by simpa using hi),List.getElem?_map,List.getElem?_eq_getElem hi] at e
  simp at e
 ·rw [List.getElem?_append_right (by simpa using hi),List.getElem?_map] at e
  rw [List.getElem?_append_right (by simpa using hi),List.getElem?_map]
  simp only [List.length_map] at e ⊢
  cases hc:cs[i - T.length]? with
  | none=>rw [hc] at e; cases e
  | some c =>
   rw [hc] at e
   simp only [Option.map_some,Option.some.injEq] at e ⊢
   rw [List.getD_eq_getElem?_getD] at e ⊢
   cases hr:ρ[c]? with
   | none=>rw [hr] at e; cases e
   | some o =>
    rw [hr] at e
    cases e
    obtain ⟨v,e2,r⟩:=h.2 c d hr
    exact ⟨v,by rw [e2]; rfl,r⟩
variable {tt:TT} {ut:TT3} {T:List Str} {cs:List Nat}
def cmp3 (ui:TI3) (ug:TG3) (ut:TT3) (ue:TE3) (T:List Str) (cs:List Nat) (ρ:Ev) (M:Mem) (F:List D->Mem->Prop):Prop:=ui ρ M fun j M1=>j.n<=sizeLine/\∃ P:Nat->List D->Mem->Prop,(∀ i ys M,i<=j.n->P i ys M->j.ok M)/\P 0 [] M1 /\
 (∀ i x ys M,i < j.n->j.item i x->P i ys M->ug x (sg3 ρ T cs) M fun ρ2 M2=>ut ρ2 M2 fun b M3=>if b=true then ue ρ2 M3 fun y M4=>P (i + 1) (ys++[y]) M4 else P (i + 1) ys M3)/\∀ ys M,P j.n ys M->F ys M
def uComp (ui:TI3) (ug:TG3) (ut:TT3) (ue:TE3) (T:List Str) (cs:List Nat):TE3:=fun ρ M K=>cmp3 ui ug ut ue T cs ρ M fun ys M1=>K (.lst ys) M1
def uCompC (ui:TI3) (ug:TG3) (ut:TT3) (ue:TE3) (T:List Str) (cs:List Nat):TE3:=fun ρ M K=>cmp3 ui ug ut ue T cs ρ M fun ys M1=>K (.cell M1.length) (M1++[.lst ys])
theorem comp_sim {wi:TI} {ui:TI3} (hi:SimI C Z wi ui) (hg:SimG C Z g ug) (ht:SimT C Z tt ut) (he:SimE C Z te ue) {I:Hp} {α:List Addr} {σ:St} {H:Hp} {ρ:Ev} {M:Mem} {F:List D->Mem->Prop} {Q:VK} (R:Rel C Z I α H M) (RE:RepE C I α σ ρ) (h:cmp3 ui ug ut ue T cs ρ M F)
  (k:∀ ys vs I' α' H' M',Same I I'->α<+:α'->Rel C Z I' α' H' M'->Reps C I' α' vs ys->F ys M'->∀ p,H' p=none->Q (.ref p) (upd H' p (.lst vs))):tComp wi g tt te T cs σ H Q :=
 hi I α σ H ρ M _ _ R RE h fun J j I1 α1 H1 M1 s1 p1 R1 IR h1=>by
  obtain ⟨hz,P,hok,h0,hs,hd⟩:=h1
  refine ⟨fun i m vs H'=>m=j.n - i/\i<=j.n/\∃ I2 α2 ys M2,Same I1 I2/\α1<+:α2/\Rel C Z I2 α2 H' M2/\Reps C I2 α2 vs ys/\ys.length<=i/\P i ys M2,⟨j.n,rfl,Nat.zero_le _,I1,α1,[],M1,.refl _,List.prefix_refl _,R1,.nil,Nat.le_refl _,h0⟩,?_⟩
  rintro i m vs H' ⟨rfl,hi,I2,α2,ys,M2,s2,p2,R2,r2,hl,h2⟩
  obtain ⟨go,stop⟩:=IR I2 α2 H' M2 s2 p2 R2 (hok i ys M2 hi h2)
  have hvl:=r2.length
  by_cases hlt:i < j.n
  ·obtain ⟨g1,g2⟩:=go i hlt
   refine .inr ⟨g1,by omega,fun vs3 H3=>∃ I3 α3 ys3 M3,Same I1 I3/\α1<+:α3/\Rel C Z I3 α3 H3 M3/\Reps C I3 α3 vs3 ys3/\ys3.length<=i + 1/\P (i + 1) ys3 M3,fun vs3 H3 h3=>⟨j.n - (i + 1),by omega,rfl,hlt,h3⟩,fun x H3 y=>?_⟩
   obtain ⟨I3,d,s3,R3,r3,it⟩:=g2 x H3 y
   have RE3:RepE C I3 α2 σ ρ:=RE.mono (s1.trans (s2.trans s3)) (p1.trans p2)
   refine hg I3 α2 _ H3 _ M2 x d _ _ R3 (RE3.sg T cs) r3 (hs i d ys M2 hlt it h2) fun I4 α4 σ4 H4 ρ4 M4 s4 p4 R4 RE4 h4=>?_
   refine ht I4 α4 σ4 H4 ρ4 M4 _ _ R4 RE4 h4 fun b I5 α5 H5 M5 s5 p5 R5 h5=>?_
   cases b with
   | true =>
    rw [if_pos rfl] at h5 ⊢
    refine he I5 α5 σ4 H5 ρ4 M5 _ _ R5 (RE4.mono s5 p5) h5 fun v e I6 α6 H6 M6 s6 p6 R6 r6 h6=>?_
    refine ⟨I6,α6,ys++[e],M6,s2.trans (s3.trans (s4.trans (s5.trans s6))),p2.trans (p4.trans (p5.trans p6)),R6,(r2.mono (s3.trans (s4.trans (s5.trans s6))) (p4.trans (p5.trans p6))).app (.one r6),?_,h6⟩
    rw [List.length_append,List.length_singleton]
    omega
   | false =>
    rw [if_neg Bool.false_ne_true] at h5 ⊢
    exact ⟨I5,α5,ys,M5,s2.trans (s3.trans (s4.trans s5)),p2.trans (p4.trans p5),R5,r2.mono (s3.trans (s4.trans s5)) (p4.trans p5),by omega,h5⟩
  ·have e:i=j.n:=by omega
   subst e
   exact .inl ⟨stop,by omega,k ys vs I2 α2 H' M2 (s1.trans s2) (p1.trans p2) R2 r2 (hd ys M2 h2)⟩
def s_comp {wi:TI} {ui:TI3} (hi:SimI C Z wi ui) (hg:SimG C Z g ug) (ht:SimT C Z tt ut) (he:SimE C Z te ue):SimE C Z (tComp wi g tt te T cs) (uComp ui ug ut ue T cs):=fun I α σ H ρ M K Q R RE h k =>
 comp_sim hi hg ht he R RE h fun ys vs I' α' H' M' s p R' r hF q hq=>by
  obtain ⟨R2,s2,e2⟩:=R'.new (o:=.lst vs) hq
  exact k _ _ _ α' _ M' (s.trans s2) p R2 (.lst e2 (r.mono s2 (List.prefix_refl _))) hF
def s_compC {wi:TI} {ui:TI3} (hi:SimI C Z wi ui) (hg:SimG C Z g ug) (ht:SimT C Z tt ut) (he:SimE C Z te ue):SimE C Z (tComp wi g tt te T cs) (uCompC ui ug ut ue T cs):=fun I α σ H ρ M K Q R RE h k =>
 comp_sim hi hg ht he R RE h fun ys vs I' α' H' M' s p R' r hF q hq=>by
  obtain ⟨R2,p2,e2⟩:=R'.cell (o:=.lst vs) (m:=.lst ys) hq fun H' e=>⟨vs,e,r⟩
  exact k _ _ I' _ _ _ s (p.trans p2) R2 (.cell e2) hF
def uTrue:TT3:=fun _ M K=>K true M
def s_true:SimT C Z tTrue uTrue:=fun I α σ H ρ M K Q R E h k=>k true I α H M (.refl _) (List.prefix_refl _) R h
abbrev Sp3:=List D->Mem->K3->Prop
def spOf (C:Cf) (sp:Sp3):Sp:=fun vs H Q _=>∃ Z I α M ds K,Rel C Z I α H M/\Reps C I α vs ds/\sp ds M K/\Fin C Z I α K Q
def uCall (sp:Sp3) (ua:TA3):TE3:=fun ρ M K=>ua ρ M fun ds M1=>sp ds M1 K
def s_call {sp:Sp3} {E0':XK} (ha:SimA C Z ta ua):SimE C Z (tCall (spOf C sp) [] E0' ta) (uCall sp ua):=fun I α σ H ρ M K Q R RE h k =>
 ha I α σ H ρ M _ _ R RE h fun vs ds I1 α1 H1 M1 s1 p1 R1 r1 h1=>by
  rw [List.append_nil]
  exact ⟨Z,I1,α1,M1,ds,K,R1,r1,h1,k.mono s1 p1⟩
def Cal.imp {P:Program} {w:World} {K:W.Frag} {mg:Str->Option Value} {base:Heap} {x:Str} {k:Nat} {ps:List Str} {sp sp':Sp} (c:Cal P w K mg base x k ps sp) (h:∀ vs H Q E,sp' vs H Q E->sp vs H Q E):Cal P w K mg base x k ps sp' :=
 let ⟨f,fd,a,b⟩:=c
 ⟨f,fd,a.imp h,b⟩
def start3 (N:List Str) (ds:List D):Ev:=ds.map some++List.replicate (N.length - ds.length) none
def rep_start {I:Hp} {α:List Addr} {vs:List V} {ds:List D} (r:Reps C I α vs ds) (N:List Str):RepE C I α (L2.start N vs) (start3 N ds):=by
 have hl:=r.length
 refine ⟨by unfold L2.start start3; simp [hl],fun i d e=>?_⟩
 unfold start3 at e
 unfold L2.start
 by_cases hi:i < ds.length
 ·rw [List.getElem?_append_left (by simpa using hi),List.getElem?_map,List.getElem?_eq_getElem hi] at e
  have e':ds[i]=d:=by simpa using e
  rw [List.getElem?_append_left (by simpa [hl] using hi),List.getElem?_map,List.getElem?_eq_getElem (by rw [hl]; exact hi)]
  exact ⟨_,rfl,e' ▸ r.at (by rw [hl]; exact hi) hi⟩
 ·rw [List.getElem?_append_right (by simpa using hi),List.getElem?_replicate] at e
  split at e <;> cases e
def Fun.ok3 {P:Program} {w:World} {K:W.Frag} {mg:Str->Option Value} {base:Heap} {x qual:Str} {st:Stmt} {f:Addr} {fd:FuncData} {N ps:List Str} {k:Nat} {sp:Sp3} (F:Fun K x qual st f fd) (S:FnScope N ps (defScope st)) (len:∀ ds M K,sp ds M K->ds.length=ps.length)
  (hbody:∀ (cdv:Value) (A:Around) (outer:List Env) (s:Shared) (H:Hp) (E:XK),Room k (A.deeper (PyProof.Rows.envOfC qual (defScope st) s.heap.objs.size f cdv)) ->
   ∃ t u,PSs (cxOf CX0 P w K mg base N qual (defScope st) f cdv A outer s H E).nox (defBody st) t/\(∀ Z,SimS C Z t u)/\∀ ds M K,WfM M->(∀ d∈ds,Below M.length d)->sp ds M K->u { nx:=fun _ M'=>Dk M.length K .non M',rt:=Dk M.length K } (start3 N ds) M):FnOk P w K mg base CX0 (k + 1) f fd ps (spOf C sp):=by
 refine F.ok S (fun vs H Q E h=>?_) (fun cdv A outer s H vs Q E hr h=>?_)
 ·obtain ⟨Z,I,α,M,ds,K,R,r,h,_⟩:=h
  rw [r.length]
  exact len ds M K h
 ·obtain ⟨t,u,h1,h2,h3⟩:=hbody cdv A outer s H E hr
  obtain ⟨Z,I,α,M,ds,K,R,r,h,k⟩:=h
  have kd:=k.dk R.len R.aa
  exact ⟨t,h1,h2 Z I α _ H _ M _ _ R (rep_start r N) (h3 ds M K R.wf (by rw [<- R.len]; exact r.bel) h) ⟨fun I1 α1 σ1 H1 ρ1 M1 s1 p1 R1 _ h1=>kd _ _ I1 α1 H1 M1 s1 p1 R1 .non h1,kd,fun _ _ _ _ _ _ _ _ _ _ h=>h.elim,fun _ _ _ _ _ _ _ _ _ _ h=>h.elim⟩⟩
end
section
variable {C:Cf} {Z:Anc} {I:Hp} {α:List Addr} {H H':Hp} {M:Mem}
def Rel.full (R:Rel C Z I α H M):∃ I',Same I I'/\Rel C Z I' α H M/\∀ b o,H b=some o->b∉α->I' b=some o:=by
 have s:Same I (fun b=>if b∈α then none else H b):=fun b o e=>by
  have hb:b∉α:=fun hb=>by
   obtain ⟨k,hk,rfl⟩:=List.getElem_of_mem hb
   have hk':k < M.length:=by rw [<- R.len]; exact hk
   rw [(R.cel k _ _ (List.getElem?_eq_getElem hk) (List.getElem?_eq_getElem hk')).2] at e
   cases e
  show (if b∈α then none else H b)=some o
  rw [if_neg hb]
  exact R.sub b o e
 refine ⟨_,s,⟨R.ai.trans s,R.aa,fun b o e=>?_,R.len,R.nd,fun k a m h1 h2=>?_⟩,fun b o e hb=>?_⟩
 ·have e':(if b∈α then none else H b)=some o:=e
  split at e'
  ·cases e'
  ·exact e'
 ·refine ⟨(R.cel k a m h1 h2).1.mono s (List.prefix_refl _) rfl,?_⟩
  show (if a∈α then none else H a)=none
  rw [if_pos (List.mem_of_getElem? h1)]
 ·show (if b∈α then none else H b)=some o
  rw [if_neg hb]
  exact e
def Rel.out (R:Rel C Z I α H M) {l:Addr} (h:H l=none):l∉α:=fun hl=>by
 obtain ⟨k,hk,e⟩:=List.getElem_of_mem hl
 exact R.cellNe (List.getElem?_eq_getElem hk) h e
theorem Rel.tupOut (R:Rel C Z I α H M) {l:Addr} {vs:List V} (h:H l=some (.tup vs)):l∉α:=fun hl=>by
 obtain ⟨k,hk,rfl⟩:=List.getElem_of_mem hl
 have hk':k < M.length:=by rw [<- R.len]; exact hk
 have:=(R.cel k _ _ (List.getElem?_eq_getElem hk) (List.getElem?_eq_getElem hk')).1
 cases hm:M[k] with
 | lst ds=>rw [hm] at this; obtain ⟨vs,e,_⟩:=this; rw [h] at e; cases e
 | dct ds=>rw [hm] at this; obtain ⟨vs,e,_⟩:=this; rw [h] at e; cases e
 | dcT ds=>rw [hm] at this; obtain ⟨vs,e,_⟩:=this; rw [h] at e; cases e
 | drK ds=>rw [hm] at this; obtain ⟨vs,e,_⟩:=this; rcases e with e | ⟨o,e⟩ <;> (rw [h] at e; cases e)
 | drT ds=>rw [hm] at this; obtain ⟨vs,e,_⟩:=this; rcases e with e | ⟨o,e⟩ <;> (rw [h] at e; cases e)
 | dfT o vs ds=>rw [hm] at this; have e:=this.1; rw [h] at e; cases e
 | dfK o vs ds=>rw [hm] at this; have e:=this.1; rw [h] at e; cases e
 | ins Cl fs=>rw [hm] at this; obtain ⟨dx,vs,e,_⟩:=this; rw [h] at e; cases e
 | hand=>rw [hm] at this; obtain ⟨d,k,c,cs,e,_⟩:=this; rw [h] at e; cases e
 | tab P pos q=>rw [hm] at this; obtain ⟨_,ps,e,_⟩:=this; rw [h] at e; cases e
def Rel.same (R:Rel C Z I α H M) (s:Same H H'):Rel C Z I α H' M:=by
 refine ⟨R.ai,R.aa,R.sub.trans s,R.len,R.nd,fun k a m h1 h2=>?_⟩
 obtain ⟨a1,a2⟩:=R.cel k a m h1 h2
 obtain ⟨o,e⟩:=a1.some
 exact ⟨a1.mono (.refl _) (List.prefix_refl _) ((s _ _ e).trans e.symm),a2⟩
def Rel.grow (R:Rel C Z I α H M) {k:Nat} {p c:Addr} {cs:List Int} (ha:α[k]?=some p) (hm:M[k]?=some .hand) (hh:HandAt H' p c) (ic:I c=some (.lst (cs.map V.int))) (hc:cs≠[]/\cs.length<=63/\∀ c∈cs,0<=c) (g:Grow p H H'):Rel C Z I α H' M:=by
 have ip:I p=none:=(R.cel k p _ ha hm).2
 refine ⟨R.ai,R.aa,fun b o e=>g b o (R.sub b o e) (fun z=>by rw [z,ip] at e; cases e),R.len,R.nd,fun j a m h1 h2=>?_⟩
 obtain ⟨a1,a2⟩:=R.cel j a m h1 h2
 by_cases e:k=j
 ·subst e
  rw [ha] at h1
  cases h1
  rw [hm] at h2
  cases h2
  obtain ⟨d0,i0,cs',x1,x2,x3,x4,x5,x6,x7⟩:=hh.ex
  exact ⟨⟨d0,i0,c,cs,x1,ic,hc.1,hc.2.1,x5,x6,hc.2.2⟩,ip⟩
 ·obtain ⟨o,eo⟩:=a1.some
  have ne:a≠p:=fun z=>by
   obtain ⟨hj,ej⟩:=List.getElem?_eq_some_iff.mp h1
   obtain ⟨hk,ek⟩:=List.getElem?_eq_some_iff.mp ha
   rw [<- ej,<- ek] at z
   exact e ((List.getElem_inj R.nd).mp z).symm
  exact ⟨a1.mono (.refl _) (List.prefix_refl _) ((g _ _ eo ne).trans eo.symm),a2⟩
def Rel.hand (R:Rel C Z I α H M) {k:Nat} {p:Addr} (ha:α[k]?=some p) (hm:M[k]?=some .hand):∃ c cs,HandAt H p c/\I c=some (.lst (cs.map V.int))/\cs≠[]/\cs.length<=63/\∀ c∈cs,0<=c:=by
 obtain ⟨d,i,c,cs,e,ic,h1,h2,h3,h4,h5⟩:=(R.cel k p _ ha hm).1
 exact ⟨c,cs,⟨d,i,cs,e,R.sub _ _ ic,h1,h2,h3,h4,h5⟩,ic,h1,h2,h5⟩
theorem Rel.cellAt (R:Rel C Z I α H M) {l:Addr} {m:MO} (il:I l=none) (hl:l∉α) (hm:MoAt C I α H l m):Rel C Z I (α++[l]) H (M++[m])/\α<+:(α++[l])/\(α++[l])[M.length]?=some l:=by
 refine ⟨⟨R.ai,R.aa.trans (List.prefix_append _ _),R.sub,by rw [List.length_append,List.length_append,R.len]; rfl,?_,fun k a x h1 h2=>?_⟩,List.prefix_append _ _,by rw [<- R.len]; simp⟩
 ·rw [List.nodup_append]
  exact ⟨R.nd,by simp,fun a ha b hb e=>hl (by rw [<- List.mem_singleton.mp hb,<- e]; exact ha)⟩
 ·by_cases hk:k < α.length
  ·rw [List.getElem?_append_left hk] at h1
   rw [List.getElem?_append_left (by rw [<- R.len]; exact hk)] at h2
   obtain ⟨a1,a2⟩:=R.cel k a x h1 h2
   exact ⟨a1.mono (.refl _) (List.prefix_append _ _) rfl,a2⟩
  ·obtain ⟨hk2,_⟩:=List.getElem?_eq_some_iff.mp h1
   rw [List.length_append,List.length_singleton] at hk2
   have e:k=α.length:=by omega
   subst e
   have e1:(α++[l])[α.length]?=some l:=by simp
   have e2:(M++[m])[α.length]?=some m:=by rw [R.len]; simp
   rw [e1] at h1
   rw [e2] at h2
   cases h1
   cases h2
   exact ⟨hm.mono (.refl _) (List.prefix_append _ _) rfl,il⟩
end
def wD (w:List Int):D:=.tup (w.map .int)
def pD (p:Pr):D:=.tup [.int p.1,wD p.2]
section
variable {C:Cf} {I:Hp} {α:List Addr} {H:Hp}
def rep_w (s:∀ b xs,H b=some (.tup xs)->I b=some (.tup xs)) {v:V} {w:List Int} (h:WordV H v w):Rep C I α v (wD w):=by
 obtain ⟨t,rfl,e⟩:=h
 exact .tup (s _ _ e) (.ints w)
theorem reps_map {τ:Type} {F:V->τ->Prop} {f:τ->D} (h:∀ v a,F v a->Rep C I α v (f a)):∀ {vs:List V} {as:List τ},Paired F vs as->Reps C I α vs (as.map f)
 | _,_,.nil=>.nil
 | _,_,.cons a b=>.cons (h _ _ a) (reps_map h b)
end
section
variable {C:Cf} {Z:Anc}
def dDraw:Sp3:=fun ds M K=>∃ k n,ds=[.cell k,.int n]/\M[k]?=some .hand/\(0 < n/\n < 1073741824)/\∀ r,0<=r->r < n->K (.int r) M
theorem a_draw {vs:List V} {H:Hp} {Q:VK} {E:XK} (h:spOf C dDraw vs H Q E):spDraw vs H Q E:=by
 obtain ⟨Z,I,α,M,ds,K,R,r,⟨k,n,rfl,hm,⟨n0,n1⟩,h⟩,kk⟩:=h
 cases r with
 | cons r1 r2 =>
  cases r2 with
  | cons r2 r3 =>
   cases r3
   cases r2
   cases r1 with
   | @cell p _ ha =>
    obtain ⟨c,cs,hh,ic,hc⟩:=R.hand ha hm
    exact ⟨p,c,n,rfl,hh,n0,n1,fun z H' z0 z1 hh' g _=>kk _ _ I α H' M (.refl _) (List.prefix_refl _) (R.grow ha hm hh' ic hc g) (.int z) (h z z0 z1)⟩
def dOpen:Sp3:=fun ds M K=>∃ (ns:List Int) (i:Int),ds=[.frz (ns.map .int),.int i]/\(ns.length<=63/\0<=i/\i < 2 ^ 60)/\K (.cell M.length) (M++[.hand])
theorem frz_at {I:Hp} {α:List Addr} {H:Hp} {M:Mem} {v:V} {ns:List Int} (R:Rel C Z I α H M) (r:Rep C I α v (.frz (ns.map .int))):∃ a,v=.ref a/\SqL C.k H a (ns.map V.int):=by
 cases r with
 | frz e r =>
  rw [r.of_ints ns] at e
  exact ⟨_,rfl,R.sub.seq e⟩
theorem a_open {vs:List V} {H:Hp} {Q:VK} {E:XK} (h:spOf C dOpen vs H Q E):spOpen C.k vs H Q E:=by
 obtain ⟨Z,I,α,M,ds,K,R,r,⟨ns,i,rfl,⟨hl,i0,i1⟩,h⟩,kk⟩:=h
 cases r with
 | cons r1 r2 =>
  cases r2 with
  | cons r2 r3 =>
   cases r3
   cases r2
   obtain ⟨a,rfl,hS⟩:=frz_at R r1
   refine ⟨a,ns,i,rfl,hS,hl,i0,i1,fun p c H' np nc hh s=>?_⟩
   have R1:=R.same s
   have pc:p≠c:=hh.ne
   obtain ⟨d0,i0',cs,x1,x2,x3,x4,x5,x6,x7⟩:=hh.ex
   have ipn:I p=none:=R.sub.free np
   have icn:I c=none:=R.sub.free nc
   have R2:Rel C Z (upd I c (.lst (cs.map V.int))) α H' M:=by
    refine ⟨R1.ai.trans (same_upd icn),R1.aa,fun b o e=>?_,R1.len,R1.nd,fun k a m h1 h2=>?_⟩
    ·by_cases z:b=c
     ·subst z; rw [upd_same] at e; cases e; exact x2
     ·rw [upd_ne z] at e; exact R1.sub b o e
    ·obtain ⟨a1,a2⟩:=R1.cel k a m h1 h2
     have ne:a≠c:=R.cellNe h1 nc
     exact ⟨a1.mono (same_upd icn) (List.prefix_refl _) rfl,by rw [upd_ne ne]; exact a2⟩
   obtain ⟨R3,p3,e3⟩:=R2.cellAt (l:=p) (m:=.hand) (by rw [upd_ne pc]; exact ipn) (R.out np) ⟨d0,i0',c,cs,x1,upd_same,x3,x4,x5,x6,x7⟩
   exact kk _ _ _ _ H' _ (same_upd icn) p3 R3 (.cell e3) h
def hand_ints {I:Hp} {α:List Addr} {H H':Hp} {M:Mem} {k:Nat} {p c l:Addr} {cs bs:List Int} {K:K3} {Q:VK} (R:Rel C Z I α H M) (ha:α[k]?=some p) (hm:M[k]?=some .hand) (hh:HandAt H' p c) (ic:I c=some (.lst (cs.map V.int))) (hc:cs≠[]/\cs.length<=63/\∀ c∈cs,0<=c) (g:Grow p H H')
  (nl:H l=none) (el:H' l=some (.lst (bs.map V.int))) (kk:Fin C Z I α K Q) (h:K (.lst (bs.map .int)) M):Q (.ref l) H':=by
 obtain ⟨I',s,R',f⟩:=(R.grow ha hm hh ic hc g).full
 exact kk _ _ I' α H' M s (List.prefix_refl _) R' (.lst (f _ _ el (R.out nl)) (.ints bs)) h
def dBytes:Sp3:=fun ds M K=>∃ k m,ds=[.cell k,.int m]/\M[k]?=some .hand/\(2<=m/\m<=4)/\∀ bs:List Int,bs.Nodup->2<=bs.length->(bs.length:Int)<=m->(∀ b∈bs,0<=b/\b < 256)->K (.lst (bs.map .int)) M
theorem a_bytes {vs:List V} {H:Hp} {Q:VK} {E:XK} (h:spOf C dBytes vs H Q E):spBytes vs H Q E:=by
 obtain ⟨Z,I,α,M,ds,K,R,r,⟨k,m,rfl,hm,⟨m0,m1⟩,h⟩,kk⟩:=h
 cases r with
 | cons r1 r2 =>
  cases r2 with
  | cons r2 r3 =>
   cases r3
   cases r2
   cases r1 with
   | @cell p _ ha =>
    obtain ⟨c,cs,hh,ic,hc⟩:=R.hand ha hm
    exact ⟨p,c,m,rfl,hh,m0,m1,fun l bs H' nl _ el nd b2 bm bb hh' g=>hand_ints R ha hm hh' ic hc g nl el kk (h bs nd b2 bm bb)⟩
def dSigns:Sp3:=fun ds M K=>∃ k m,ds=[.cell k,.int m]/\M[k]?=some .hand/\(0<=m/\m<=100)/\∀ ss:List Int,ss.Nodup->(ss.length:Int)=m->K (.lst (ss.map .int)) M
theorem a_signs {vs:List V} {H:Hp} {Q:VK} {E:XK} (h:spOf C dSigns vs H Q E):spSigns vs H Q E:=by
 obtain ⟨Z,I,α,M,ds,K,R,r,⟨k,m,rfl,hm,⟨m0,m1⟩,h⟩,kk⟩:=h
 cases r with
 | cons r1 r2 =>
  cases r2 with
  | cons r2 r3 =>
   cases r3
   cases r2
   cases r1 with
   | @cell p _ ha =>
    obtain ⟨c,cs,hh,ic,hc⟩:=R.hand ha hm
    exact ⟨p,c,m,rfl,hh,m0,m1,fun l bs H' nl _ el nd b2 hh' g=>hand_ints R ha hm hh' ic hc g nl el kk (h bs nd b2)⟩
theorem ints_at {I:Hp} {α:List Addr} {H:Hp} {M:Mem} {v:V} {ns:List Int} (R:Rel C Z I α H M) (r:Rep C I α v (.lst (ns.map .int))):∃ a,v=.ref a/\H a=some (.lst (ns.map V.int))/\I a=some (.lst (ns.map V.int)):=by
 cases r with
 | lst e r =>
  rw [r.of_ints ns] at e
  exact ⟨_,rfl,R.sub _ _ e,e⟩
def ne_hand {I:Hp} {α:List Addr} {H:Hp} {M:Mem} {k:Nat} {p a:Addr} {o:HO} (R:Rel C Z I α H M) (ha:α[k]?=some p) (hm:M[k]?=some .hand) (e:I a=some o):a≠p:=fun z=>by
 rw [z,(R.cel k p _ ha hm).2] at e
 cases e
def hand_words {I:Hp} {α:List Addr} {H H':Hp} {M:Mem} {k:Nat} {p c l:Addr} {cs:List Int} {ws:List (List Int)} {K:K3} {Q:VK} (R:Rel C Z I α H M) (ha:α[k]?=some p) (hm:M[k]?=some .hand) (hh:HandAt H' p c) (ic:I c=some (.lst (cs.map V.int))) (hc:cs≠[]/\cs.length<=63/\∀ c∈cs,0<=c) (g:Grow p H H')
  (nl:H l=none) (wa:WordsAt H' l ws) (kk:Fin C Z I α K Q) (h:K (.lst (ws.map wD)) M):Q (.ref l) H':=by
 have R1:=R.grow ha hm hh ic hc g
 obtain ⟨I',s,R',f⟩:=R1.full
 obtain ⟨us,eu,pu⟩:=wa
 exact kk _ _ I' α H' M s (List.prefix_refl _) R' (.lst (f _ _ eu (R.out nl)) (reps_map (fun v a z=>rep_w (fun b xs e=>f _ _ e (R1.tupOut e)) z) pu)) h
end
section
variable {C:Cf} {Z:Anc} {ta:TE} {ua:TE3}
def uRev (ua:TE3) (us:TO3):TE3:=fun ρ M K=>ua ρ M fun d M1=>us ρ M1 fun k M2=>k=some (-1)/\∃ xs,lstOf M2 d=some xs/\K (.lst xs.reverse) M2
def s_rev {ts:TO} {us:TO3} (ha:SimE C Z ta ua) (hs:SimO C Z ts us):SimE C Z (tRev C.k ta ts) (uRev ua us):=fun I α σ H ρ M K Q R E h k =>
 ha I α σ H ρ M _ _ R E h fun v d I1 α1 H1 M1 s1 p1 R1 r1 h1 =>
  hs I1 α1 σ H1 ρ M1 _ _ R1 (E.mono s1 p1) h1 fun o I2 α2 H2 M2 s2 p2 R2 h2=>by
   obtain ⟨ho,xs,e,h2⟩:=h2
   obtain ⟨a,vs,rfl,ea,ra⟩:=lst_at R2 (r1.mono s2 p2) e
   refine ⟨ho,a,vs,rfl,ea,fun p hp=>?_⟩
   obtain ⟨R3,s3,e3⟩:=R2.new (o:=.lst vs.reverse) hp
   exact k _ _ _ α2 _ M2 (s1.trans (s2.trans s3)) (p1.trans p2) R3 (.lst e3 (ra.rev.mono s3 (List.prefix_refl _))) h2
end
def frzOf:MO->Option D
 | .lst xs=>some (.lst xs)
 | .dct kvs=>some (.dct kvs)
 | .dcT kvs=>some (.dcT kvs)
 | _=>none
def frzK (n0:Nat) (K:K3):K3:=fun d M'=>∃ m d',d=.cell n0/\M'.length=n0 + 1/\M'[n0]?=some m/\frzOf m=some d'/\(∀ m∈M',BelowM n0 m)/\K d' (M'.take n0)
theorem frz_rep {C:Cf} {I:Hp} {α:List Addr} {H:Hp} {a:Addr} {m:MO} {d:D} (h:MoAt C I α H a m) (e:frzOf m=some d) (ia:I a=none):∃ o,H a=some o/\Rep C (upd I a o) α (.ref a) d:=by
 have pr:=List.prefix_refl α
 cases m with
 | lst ds=>cases e; obtain ⟨vs,e,r⟩:=h; exact ⟨_,e,.lst upd_same (r.mono (same_upd ia) pr)⟩
 | dct ds=>cases e; obtain ⟨vs,e,r⟩:=h; exact ⟨_,e,.dct upd_same (r.mono (same_upd ia) pr)⟩
 | dcT ds=>cases e; obtain ⟨vs,e,r⟩:=h; exact ⟨_,e,.dcT upd_same (r.mono (same_upd ia) pr)⟩
 | _=>cases e
theorem Fin.frz {C:Cf} {Z:Anc} {I:Hp} {α:List Addr} {K:K3} {Q:VK} (k:Fin C Z I α K Q) {n0:Nat} (hn:α.length=n0) (ha:Z.a<+:α):Fin C Z I α (frzK n0 K) Q:=fun v d I' α' H' M' s p R r h=>by
 obtain ⟨m,d',rfl,hl,e,ed,hm,h⟩:=h
 cases r with
 | @cell a _ ec =>
  obtain ⟨mo,ia⟩:=R.cel n0 a _ ec e
  have mo':=hm m (List.mem_of_getElem? e) _ _ _ _ _ mo
  obtain ⟨o,ea,ra⟩:=frz_rep mo' ed ia
  have R1:=R.take n0 (by have:=ha.length_le; omega) fun x hx=>hm x (List.mem_of_mem_take hx)
  have an:a∉α'.take n0:=fun ha=>by
   obtain ⟨j,hj,ej⟩:=List.getElem_of_mem ha
   rw [List.length_take] at hj
   rw [List.getElem_take] at ej
   obtain ⟨hn0,en⟩:=List.getElem?_eq_some_iff.mp ec
   rw [<- en] at ej
   have:=(List.getElem_inj R.nd).mp ej
   omega
  have s2:Same I' (upd I' a o):=same_upd ia
  have R2:Rel C Z (upd I' a o) (α'.take n0) H' (M'.take n0):=by
   refine ⟨R1.ai.trans s2,R1.aa,fun b u eb=>?_,R1.len,R1.nd,fun k b m h1 h2=>?_⟩
   ·by_cases z:b=a
    ·subst z; rw [upd_same] at eb; cases eb; exact ea
    ·rw [upd_ne z] at eb; exact R1.sub b u eb
   ·obtain ⟨a1,a2⟩:=R1.cel k b m h1 h2
    have ne:b≠a:=fun z=>an (z ▸ List.mem_of_getElem? h1)
    exact ⟨a1.mono s2 (List.prefix_refl _) rfl,by rw [upd_ne ne]; exact a2⟩
  exact k _ _ _ (α'.take n0) H' _ (s.trans s2) (pre_take p (by omega)) R2 ra h
def uFrz (u:TE3):TE3:=fun ρ M K=>u ρ M (frzK M.length K)
def s_frz {C:Cf} {Z:Anc} {t:TE} {u:TE3} (h:SimE C Z t u):SimE C Z t (uFrz u):=fun I α σ H ρ M K Q R E hh k=>h I α σ H ρ M _ _ R E hh (k.frz R.len R.aa)
def frz_of {M:Mem} {m:MO} {d:D} {K:K3} (hd:frzOf m=some d) (hm:WfM M) (hx:BelowM M.length m) (h:K d M):frzK M.length K (.cell M.length) (M++[m]) :=
 ⟨m,d,rfl,by simp,by simp,hd,fun x hx'=>by
  rcases List.mem_append.mp hx' with z | z
  ·exact hm x z
  ·rw [List.mem_singleton.mp z]; exact hx,by rw [List.take_left]; exact h⟩
def at_last {M:Mem} {m:MO}:(M++[m])[M.length]?=some m:=by simp
def set_last {M:Mem} {m m':MO}:(M++[m]).set M.length m'=M++[m']:=by simp
def bk_all {X:Cx} {K:W.Frag} (h:X.K=K) (hc:X.calm=true):CallR X (.builtin "all") (fun xs H Q=>∃ (p:Addr) (bs:List Bool),xs=[.ref p]/\SqL K H p (bs.map V.bl)/\Q (.bl (bs.all id)) H):=by subst h; exact call_all hc
def item_int {ns:List Int} {i:Nat} {x:D} (h:(ns.map D.int)[i]?=some x):∃ hi:i < ns.length,x=.int ns[i]:=by
 obtain ⟨hi,e⟩:=List.getElem?_eq_some_iff.mp h
 rw [List.length_map] at hi
 refine ⟨hi,?_⟩
 rw [<- e,List.getElem_map]
def item_map {τ:Type} {f:τ->D} {as:List τ} {i:Nat} {x:D} (h:(as.map f)[i]?=some x):∃ hi:i < as.length,x=f as[i]:=by
 obtain ⟨hi,e⟩:=List.getElem?_eq_some_iff.mp h
 rw [List.length_map] at hi
 exact ⟨hi,by rw [<- e,List.getElem_map]⟩
def atI_map {τ:Type} {f:τ->D} {as:List τ} {i:Int} {j:Nat} (h:i=j) (hj:j < as.length):L2.atI (as.map f) i=some (f as[j]):=by
 subst h
 exact atI_nat (by rw [List.getElem?_map,List.getElem?_eq_getElem hj]; rfl)
def ls_last {M:Mem} {xs:List D}:lsOf (M++[.lst xs]) (.cell M.length)=some xs:=by simp [lsOf]
def lst_last {M:Mem} {xs:List D}:lstOf (M++[.lst xs]) (.cell M.length)=some xs:=by simp [lstOf]
def ls_some {M:Mem} {d:D} {xs:List D} (h:lsOf M d=some xs):lsOf M d≠none:=by rw [h]; exact fun z=>nomatch z
def dk_drop {M M':Mem} {d:D} {K:K3} (p:M<+:M') (hM:WfM M) (hb:Below M.length d) (h:K d M):Dk M.length K d M':=by
 obtain ⟨t,rfl⟩:=p
 exact .inr ⟨M.length,Nat.le_refl _,hb,by rw [List.take_left]; exact hM,by rw [List.take_left]; exact h⟩
def pre1 {M:Mem} {a:List MO}:M<+:M++a:=List.prefix_append _ _
def eqI {ns ms:List Int} {M:Mem} {K:Bool->Prop} (h:K (decide (ns=ms))):eqV (.lst (ns.map .int)) (.lst (ms.map .int)) M K:=eqv_seq encInt rfl rfl h
theorem item2 {a b:D} {r:Int} (h0:0<=r) (h1:r < 2):∃ d,L2.atI [a,b] r=some d/\(d=a\/d=b):=by
 have:r=0\/r=1:=by omega
 rcases this with rfl | rfl
 ·exact ⟨a,rfl,.inl rfl⟩
 ·exact ⟨b,rfl,.inr rfl⟩
theorem item3 {a b c:D} {r:Int} (h0:0<=r) (h1:r < 3):∃ d,L2.atI [a,b,c] r=some d/\(d=a\/d=b\/d=c):=by
 have:r=0\/r=1\/r=2:=by omega
 rcases this with rfl | rfl | rfl
 ·exact ⟨a,rfl,.inl rfl⟩
 ·exact ⟨b,rfl,.inr (.inl rfl)⟩
 ·exact ⟨c,rfl,.inr (.inr rfl)⟩
def below_w {n:Nat} {w:List Int}:Below n (wD w):=below_tup (below_map (fun _=>below_int) w)
end L3
namespace L3
def seq_by {E:TE3} {ug:TG3} {u':TS3} {En:Ends3} {ρ:Ev} {M:Mem} (S:D->Mem->Prop) (h1:∀ K:K3,(∀ d M',S d M'->K d M')->E ρ M K) (h2:∀ d M',S d M'->ug d ρ M' (u' En)):uSeq (uAsg E ug) u' En ρ M:=h1 _ h2
def g_nx {i:Nat} {d:D} {ρ:Ev} {M:Mem} {K:Ev->Mem->Prop} (h:K (ρ.set i (some d)) M):uG i d ρ M K:=h
end L3
namespace L3
open PySem L2
def FinX (C:Cf) (Z:Anc):Prop:=∀ Ce d vs fs I' α' H' M',Rel C Z I' α' H' M'->XD I' d vs->RepF C I' α' vs fs->Z.kx Ce fs M'->Z.xe (.ref Ce) d H'
abbrev Sp3X:=List D->Mem->K3->X3->Prop
def spOfX (C:Cf) (sp:Sp3X):Sp:=fun vs H Q E=>∃ Z I α M ds K KX,Rel C Z I α H M/\Reps C I α vs ds/\sp ds M K KX/\Fin C Z I α K Q /\
 ∀ Ce d vs fs I' α' H' M',Same I I'->α<+:α'->Rel C Z I' α' H' M'->XD I' d vs->RepF C I' α' vs fs->KX Ce fs M'->E (.ref Ce) d H'
section
variable {C:Cf} {Z:Anc} {ta tb:TE} {ua ub:TE3} {t:TA} {u:TA3}
def Rel.re {Z':Anc} {I I':Hp} {α α':List Addr} {H H':Hp} {M M':Mem} (R':Rel C Z' I' α' H' M') (R:Rel C Z I α H M) (s:Same I I') (p:α<+:α'):Rel C Z I' α' H' M':=⟨R.ai.trans s,R.aa.trans p,R'.sub,R'.len,R'.nd,R'.cel⟩
def Rel.here {I:Hp} {α:List Addr} {H:Hp} {M:Mem} (R:Rel C Z I α H M) (E:XK) (k:X3):Rel C ⟨I,α,E,k⟩ I α H M:=⟨.refl _,List.prefix_refl _,R.sub,R.len,R.nd,R.cel⟩
def Fin.re {Z':Anc} {I:Hp} {α:List Addr} {H:Hp} {M:Mem} {K:K3} {Q:VK} (k:Fin C Z I α K Q) (R:Rel C Z I α H M):Fin C Z' I α K Q:=fun v d I' α' H' M' s p R' r h=>k v d I' α' H' M' s p (R'.re R s p) r h
def FinS.re {Z':Anc} {I:Hp} {α:List Addr} {H:Hp} {M:Mem} {K:Ev->Mem->Prop} {Q:St->Hp->Prop} (k:FinS C Z I α K Q) (R:Rel C Z I α H M):FinS C Z' I α K Q:=fun I' α' σ' H' ρ' M' s p R' E h=>k I' α' σ' H' ρ' M' s p (R'.re R s p) E h
def FinD.re {Z':Anc} {I:Hp} {α:List Addr} {H:Hp} {M:Mem} {E:Ends3} {D':Ends} (k:FinD C Z I α E D') (R:Rel C Z I α H M):FinD C Z' I α E D':=⟨k.nx.re R,k.rt.re R,k.bk.re R,k.ct.re R⟩
def uCallX (sp:Sp3X) (kx:X3) (u:TA3):TE3:=fun ρ M K=>u ρ M fun ds M1=>sp ds M1 K kx
def s_callX {sp:Sp3X} {E:XK} {kx:X3} (he:Z.xe=E) (hk:Z.kx=kx) (hx:FinX C Z) (ha:SimA C Z t u):SimE C Z (tCall (spOfX C sp) [] E t) (uCallX sp kx u):=fun I α σ H ρ M K Q R RE h k =>
 ha I α σ H ρ M _ _ R RE h fun vs ds I1 α1 H1 M1 s1 p1 R1 r1 h1=>by
  subst he hk
  rw [List.append_nil]
  exact ⟨Z,I1,α1,M1,ds,K,Z.kx,R1,r1,h1,k.mono s1 p1,fun Ce d vs fs I' α' H' M' s p R' e f g=>hx Ce d vs fs I' α' H' M' R' e f g⟩
def uRaise1 (Cx:Addr) (f:Str) (kx:X3) (u:TA3):TS3:=fun _ ρ M=>u ρ M fun ds M1=>∃ d,ds=[d]/\kx Cx [(f,d)] M1
def s_raise1 {Cx:Addr} {f:Str} {E:XK} {kx:X3} (he:Z.xe=E) (hk:Z.kx=kx) (hx:FinX C Z) (ha:SimA C Z t u):SimS C Z (tRaise Cx (spX1 Cx f) E t) (uRaise1 Cx f kx u):=fun I α σ H ρ M E3 D' R RE h F =>
 ha I α σ H ρ M _ _ R RE h fun vs ds I1 α1 H1 M1 s1 p1 R1 r1 h1=>by
  subst he hk
  obtain ⟨d0,rfl,h1⟩:=h1
  cases r1 with
  | cons r1 r2 =>
   cases r2
   rename_i y
   refine ⟨by simp,fun ea hea=>⟨ea,y,rfl,upd_same,fun d hd hne=>⟨rfl,d,?_,?_⟩⟩⟩
   ·rw [upd_ne (Ne.symm hne),upd_same]
   ·have hd1:H1 d=none:=by rw [upd_ne hne] at hd; exact hd
    have sH:Same H1 (upd (upd (upd (upd H1 ea (.ext (excN ea Cx none))) ea (.ext (excN ea Cx (some d)))) d (.ext (xdP d [(f,y)]))) ea (.ext (excP ea Cx (some d)))):=fun b o e=>by
     have n1:b≠ea:=ne_of_none e hea
     have n2:b≠d:=ne_of_none e hd1
     rw [upd_ne n1,upd_ne n2,upd_ne n1,upd_ne n1]
     exact e
    obtain ⟨I',s',R',fl⟩:=(R1.same sH).full
    refine hx Cx (some d) [(f,y)] [(f,d0)] I' α1 _ M1 R' (fl d _ ?_ (R1.out hd1)) (.cons (r1.mono s' (List.prefix_refl _)) .nil) h1
    rw [upd_ne hne,upd_same]
abbrev TH3:=Addr->List (Str×D)->TS3
def SimH (C:Cf) (Z:Anc) (th:TH) (uh:TH3):Prop:=∀ I α σ H ρ M (E:Ends3) (D':Ends) Ce d ea fs vs,Rel C Z I α H M->RepE C I α σ ρ->I ea=some (.ext (excP ea Ce d))->XD I d vs->RepF C I α vs fs->uh Ce fs E ρ M->FinD C Z I α E D'->th Ce d ea D' σ H
def uhNil:TH3:=fun _ _ _ _ _=>False
def s_hnil:SimH C Z thNil uhNil:=fun _ _ _ _ _ _ _ _ _ _ _ _ _ _ _ _ _ _ h _=>h.elim
def off3 (i:Nat) (E:Ends3):Ends3:={ nx:=fun ρ M=>E.nx (ρ.set i none) M,rt:=E.rt,bk:=fun ρ M=>E.bk (ρ.set i none) M,ct:=fun ρ M=>E.ct (ρ.set i none) M }
theorem RepE.unset {I:Hp} {α:List Addr} {σ:St} {ρ:Ev} (h:RepE C I α σ ρ) (i:Nat):RepE C I α (σ.set i none) (ρ.set i none):=by
 refine ⟨by rw [List.length_set,List.length_set]; exact h.1,fun j e q=>?_⟩
 by_cases z:i=j
 ·subst z
  by_cases hl:i < ρ.length
  ·rw [List.getElem?_set_self hl] at q
   cases q
  ·rw [List.getElem?_eq_none (by rw [List.length_set]; omega)] at q
   cases q
 ·rw [List.getElem?_set_ne z] at q ⊢
  exact h.2 j e q
def FinS.off {I:Hp} {α:List Addr} {K:Ev->Mem->Prop} {Q:St->Hp->Prop} (k:FinS C Z I α K Q) (i:Nat):FinS C Z I α (fun ρ M=>K (ρ.set i none) M) (fun σ H=>Q (σ.set i none) H):=fun I' α' σ' H' ρ' M' s p R E h=>k I' α' _ H' _ M' s p R (E.unset i) h
def FinD.off {I:Hp} {α:List Addr} {E:Ends3} {D':Ends} (k:FinD C Z I α E D') (i:Nat):FinD C Z I α (off3 i E) (offD i D'):=⟨k.nx.off i,k.rt,k.bk.off i,k.ct.off i⟩
variable {ts:TS} {us:TS3} {thr:TH} {ur:TH3}
def uhAs (K:W.Frag) (Dc:Addr) (i:Nat) (us:TS3) (ur:TH3):TH3:=fun Ce fs E ρ M=>∃ b,W.mroIn K Ce (.ref Dc)=some b/\if b=true then us (off3 i E) (ρ.set i (some (.exc Ce fs))) M else ur Ce fs E ρ M
theorem s_has {K:W.Frag} {Dc:Addr} {i:Nat} (hs:SimS C Z ts us) (hr:SimH C Z thr ur):SimH C Z (thAs K Dc i ts thr) (uhAs K Dc i us ur):=fun I α σ H ρ M E D' Ce d ea fs vs R RE e1 e2 rf h F=>by
 obtain ⟨b,eb,h⟩:=h
 refine ⟨b,eb,?_⟩
 cases b with
 | true =>
  rw [if_pos rfl] at h ⊢
  exact hs I α _ H _ M _ _ R (RE.set (.exc e1 e2 rf) i) h (F.off i)
 | false =>
  rw [if_neg Bool.false_ne_true] at h ⊢
  exact hr I α σ H ρ M E D' Ce d ea fs vs R RE e1 e2 rf h F
def uTry (ub:X3->TS3) (uh:TH3):TS3:=fun E ρ M=>ub (fun Ce fs M'=>uh Ce fs E ρ M') E ρ M
theorem Rel.extOut {I:Hp} {α:List Addr} {H:Hp} {M:Mem} (R:Rel C Z I α H M) {l:Addr} {φ:Heap->Prop} (h:H l=some (.ext φ)):l∉α:=fun hl=>by
 obtain ⟨k,hk,rfl⟩:=List.getElem_of_mem hl
 have hk':k < M.length:=by rw [<- R.len]; exact hk
 have:=(R.cel k _ _ (List.getElem?_eq_getElem hk) (List.getElem?_eq_getElem hk')).1
 cases hm:M[k] with
 | lst ds=>rw [hm] at this; obtain ⟨vs,e,_⟩:=this; rw [h] at e; cases e
 | dct ds=>rw [hm] at this; obtain ⟨vs,e,_⟩:=this; rw [h] at e; cases e
 | dcT ds=>rw [hm] at this; obtain ⟨vs,e,_⟩:=this; rw [h] at e; cases e
 | drK ds=>rw [hm] at this; obtain ⟨vs,e,_⟩:=this; rcases e with e | ⟨o,e⟩ <;> (rw [h] at e; cases e)
 | drT ds=>rw [hm] at this; obtain ⟨vs,e,_⟩:=this; rcases e with e | ⟨o,e⟩ <;> (rw [h] at e; cases e)
 | dfT o vs ds=>rw [hm] at this; have e:=this.1; rw [h] at e; cases e
 | dfK o vs ds=>rw [hm] at this; have e:=this.1; rw [h] at e; cases e
 | ins Cl fs=>rw [hm] at this; obtain ⟨dx,vs,e,_⟩:=this; rw [h] at e; cases e
 | hand=>rw [hm] at this; obtain ⟨d,k,c,cs,e,_⟩:=this; rw [h] at e; cases e
 | tab P pos q=>rw [hm] at this; obtain ⟨_,ps,e,_⟩:=this; rw [h] at e; cases e
def s_try {tb:XK->TS} {th:TH} {ub:X3->TS3} {uh:TH3} (hb:∀ (E:XK) (kx:X3) (Z:Anc),Z.xe=E->Z.kx=kx->FinX C Z->SimS C Z (tb E) (ub kx)) (hh:SimH C Z th uh):SimS C Z (tTry tb th) (uTry ub uh):=fun I α σ H ρ M E D' R RE h F=>by
 refine hb _ _ ⟨I,α,_,_⟩ rfl rfl ?_ I α σ H ρ M E D' (R.here _ _) RE h (F.re R)
 intro Ce d vs fs I' α' H' M' R' e f g
 refine ⟨Ce,rfl,fun ea hea=>?_⟩
 have R2:=R'.re R R'.ai R'.aa
 obtain ⟨I2,s2,R3,fl⟩:=R2.full
 exact hh I2 α' σ H' ρ M' E D' Ce d ea fs vs R3 (RE.mono (Same.trans R'.ai s2) R'.aa) (fl _ _ hea (R2.extOut hea)) (e.mono s2) (f.mono s2 (List.prefix_refl _)) g (F.mono (Same.trans R'.ai s2) R'.aa)
def isiX3 (K:W.Frag):List D->Mem->K3->Prop:=fun ds M Kk=>∃ (Ce:Addr) (fs:List (Str×D)) (c:D) (b:Bool) (fI:Addr),ds=[.exc Ce fs,c]/\XCl K Ce fI /\
 ((∃ T,c=.ty T/\W.kitOne K (.ref Ce) (.type T)=some b)\/(∃ D,c=.at D/\W.kitOne K (.ref Ce) (.ref D)=some b)\/∃ cs:List Addr,c=.tup (cs.map .at)/\W.kitAny K (.ref Ce) (cs.map Value.ref)=some b)/\Kk (.bl b) M
theorem Reps.of_ats {I:Hp} {α:List Addr}:∀ {vs:List V} (cs:List Addr),Reps C I α vs (cs.map D.at)->vs=cs.map V.ref
 | _,[],h=>by cases h; rfl
 | _,n::r,h=>by
  cases h with
  | cons a b =>
   cases a
   rw [Reps.of_ats r b]
   rfl
theorem s_isiX {K:W.Frag}:SimC C Z (rIsiX K) (isiX3 K):=fun I α H M xs ds Kk Q R r h k=>by
 obtain ⟨Ce,fs,c,b,fI,rfl,xc,hc,h⟩:=h
 cases r with
 | cons r1 r2 =>
  cases r2 with
  | cons r2 r3 =>
   cases r3
   cases r1 with
   | @exc ea _ d vs _ e1 e2 rf =>
    have fin:=k _ _ I α H M (.refl _) (List.prefix_refl _) R (.bl b) h
    rcases hc with ⟨T,rfl,hc⟩ | ⟨D,rfl,hc⟩ | ⟨cs,rfl,hc⟩
    ·cases r2
     exact ⟨_,Ce,fI,vs,_,b,rfl,xc,⟨ea,d,rfl,R.sub _ _ e1,e2.mono R.sub⟩,.inl ⟨T,rfl,hc⟩,fin⟩
    ·cases r2
     exact ⟨_,Ce,fI,vs,_,b,rfl,xc,⟨ea,d,rfl,R.sub _ _ e1,e2.mono R.sub⟩,.inr (.inl ⟨D,rfl,hc⟩),fin⟩
    ·cases r2 with
     | @tup tp us _ et rt =>
      rw [Reps.of_ats cs rt] at et
      exact ⟨_,Ce,fI,vs,_,b,rfl,xc,⟨ea,d,rfl,R.sub _ _ e1,e2.mono R.sub⟩,.inr (.inr ⟨tp,cs,rfl,R.sub _ _ et,hc⟩),fin⟩
theorem RepF.lookup {I:Hp} {α:List Addr} {f:Str}:∀ {vs:List (Str×V)} {ds:List (Str×D)} {d:D},RepF C I α vs ds->ds.lookup f=some d->∃ v,vs.lookup f=some v/\Rep C I α v d
 | _,_,_,.nil,h=>by cases h
 | _,_,d,.cons (k:=k) (v:=v) (d:=d') a b,h=>by
  rw [List.lookup_cons] at h ⊢
  cases e:(f == k) with
  | true=>rw [e] at h; cases h; exact ⟨v,rfl,a⟩
  | false=>rw [e] at h; exact RepF.lookup b h
def uXFld (K:W.Frag) (f:Str) (ua:TE3):TE3:=fun ρ M Kk=>ua ρ M fun d M1=>∃ Ce fs fI v,d=.exc Ce fs/\XCl K Ce fI/\W.findIn K (.ref Ce) f=some none/\fs.lookup f=some v/\Kk v M1
def s_xfld {K:W.Frag} {f:Str} (ha:SimE C Z ta ua):SimE C Z (tXFld K ta f) (uXFld K f ua):=fun I α σ H ρ M Kk Q R RE h k =>
 ha I α σ H ρ M _ _ R RE h fun v d I1 α1 H1 M1 s1 p1 R1 r1 h1=>by
  obtain ⟨Ce,fs,fI,w,rfl,xc,na,el,h1⟩:=h1
  cases r1 with
  | @exc ea _ d vs _ e1 e2 rf =>
   obtain ⟨v,ev,rv⟩:=rf.lookup el
   cases d with
   | none =>
    have e2:vs=[]:=e2
    subst e2
    cases ev
   | some d=>exact ⟨ea,Ce,fI,d,vs,v,rfl,xc,na,R1.sub _ _ e1,R1.sub _ _ e2,ev,k _ _ I1 α1 H1 M1 s1 p1 R1 rv h1⟩
def Fun.okX3 {P:Program} {w:World} {K:W.Frag} {mg:Str->Option Value} {base:Heap} {x qual:Str} {st:Stmt} {f:Addr} {fd:FuncData} {N ps:List Str} {k:Nat} {sp:Sp3X} (F:Fun K x qual st f fd) (S:FnScope N ps (defScope st)) (len:∀ ds M K KX,sp ds M K KX->ds.length=ps.length)
  (hbody:∀ (cdv:Value) (A:Around) (outer:List Env) (s:Shared) (H:Hp) (E:XK),Room k (A.deeper (PyProof.Rows.envOfC qual (defScope st) s.heap.objs.size f cdv)) ->
   ∃ (t:TS) (u:X3->TS3),PSs (cxE P w K mg base N qual (defScope st) f cdv A outer s H E) (defBody st) t/\(∀ (kx:X3) (Z:Anc),Z.xe=E->Z.kx=kx->FinX C Z->SimS C Z t (u kx))/\∀ ds M K KX,WfM M->(∀ d∈ds,Below M.length d)->sp ds M K KX->u KX { nx:=fun _ M'=>Dk M.length K .non M',rt:=Dk M.length K } (start3 N ds) M):FnOk P w K mg base (CXE P w) (k + 1) f fd ps (spOfX C sp):=by
 refine F.okE S (fun vs H Q E h=>?_) (fun cdv A outer s H vs Q E hr h=>?_)
 ·obtain ⟨Z,I,α,M,ds,K,KX,R,r,h,_⟩:=h
  rw [r.length]
  exact len ds M K KX h
 ·obtain ⟨t,u,h1,h2,h3⟩:=hbody cdv A outer s H E hr
  obtain ⟨Z,I,α,M,ds,K,KX,R,r,h,k,kx⟩:=h
  have R1:=R.here E KX
  have kd:=(k.re (Z':=⟨I,α,E,KX⟩) R).dk R1.len R1.aa
  refine ⟨t,h1,h2 KX ⟨I,α,E,KX⟩ rfl rfl (fun Ce d vs fs I' α' H' M' R' e f g=>kx Ce d vs fs I' α' H' M' R'.ai R'.aa (R'.re R R'.ai R'.aa) e f g) I α _ H _ M _ _ R1 (rep_start r N) (h3 ds M K KX R.wf (by rw [<- R.len]; exact r.bel) h) ⟨fun I1 α1 σ1 H1 ρ1 M1 s1 p1 R1 _ h1=>kd _ _ I1 α1 H1 M1 s1 p1 R1 .non h1,kd,fun _ _ _ _ _ _ _ _ _ _ h=>h.elim,fun _ _ _ _ _ _ _ _ _ _ h=>h.elim⟩⟩
end
def st_by {u u':TS3} {En:Ends3} {ρ:Ev} {M:Mem} (S:Ev->Mem->Prop) (h1:∀ Kn:Ev->Mem->Prop,(∀ ρ' M',S ρ' M'->Kn ρ' M')->u { En with nx:=Kn } ρ M) (h2:∀ ρ' M',S ρ' M'->u' En ρ' M'):uSeq u u' En ρ M:=h1 _ h2
theorem cut_len {τ:Type} (xs:List τ) (lo hi:Option Int):(cut xs lo hi).length<=xs.length:=by
 unfold cut
 rw [List.length_take,List.length_drop]
 omega
section
variable {C:Cf} {Z:Anc} {t:TA} {u:TA3}
def uPar (i j:Nat) (u:TA3):TS3:=fun E ρ M=>u ρ M fun ds M1=>∃ d e,ds=[d,e]/\E.nx ((ρ.set i (some d)).set j (some e)) M1
def s_par {i j:Nat} (ha:SimA C Z t u):SimS C Z (tPar i j t) (uPar i j u):=fun I α σ H ρ M E D' R RE h F =>
 ha I α σ H ρ M _ _ R RE h fun vs ds I1 α1 H1 M1 s p R1 r h1=>by
  obtain ⟨d,e,rfl,h1⟩:=h1
  cases r with
  | cons r1 r2 =>
   cases r2 with
   | cons r2 r3 =>
    cases r3
    exact ⟨_,_,rfl,F.nx I1 α1 _ H1 _ M1 s p R1 (((RE.mono s p).set r1 i).set r2 j) h1⟩
end
section
variable {C:Cf} {Z:Anc} {K':W.Frag} {ta to ti te:TE} {ua uo ui ue:TE3} {t:TA} {u:TA3}
def rngDn (lo:Int) (n:Nat):It3:=⟨n,fun i x=>x=.int (lo - i),fun _=>True⟩
def itw_r {I:Hp} {α:List Addr} {lo:Int} {n:Nat}:ItR C Z I α (Itw lo n) (rngDn lo n):=fun I' α' H' M' s p R _=>⟨fun i hi=>⟨hi,fun x H2 y=>by
 obtain ⟨rfl,rfl⟩:=y
 exact ⟨I',_,.refl _,R,.int _,rfl⟩⟩,Nat.le_refl _⟩
def uIRD (ua:TA3):TI3:=fun ρ M K=>ua ρ M fun ds M1=>∃ i j:Int,ds=[.int i,.int j,.int (-1)]/\(-(2 ^ 62)<=i/\i < 2 ^ 62/\-(2 ^ 62)<=j/\j < 2 ^ 62)/\K (rngDn i (i - j).toNat) M1
def s_irD (ha:SimA C Z t u):SimI C Z (iRngD t) (uIRD u):=fun I α σ H ρ M K R' R RE h k =>
 ha I α σ H ρ M _ _ R RE h fun vs ds I1 α1 H1 M1 s1 p1 R1 r1 h1=>by
  obtain ⟨i,j,rfl,h2,h1⟩:=h1
  cases r1 with
  | cons a b =>
   cases b with
   | cons b c =>
    cases c with
    | cons c d =>
     cases d
     cases a
     cases b
     cases c
     exact ⟨i,j,rfl,h2,k _ _ I1 α1 H1 M1 s1 p1 R1 itw_r h1⟩
def sum3:List D->Mem->K3->Prop:=fun ds M K=>∃ (d:D) (ns:List Int),ds=[d]/\lstOf M d=some (ns.map .int)/\K (.int ns.sum) M
def rSum (K:W.Frag):List V->Hp->VK->Prop:=fun xs H Q=>∃ (p:Addr) (ns:List Int),xs=[.ref p]/\SqL K H p (ns.map V.int)/\Q (.int ns.sum) H
def bk_sum {X:Cx} (h:X.K=K') (hc:X.calm=true):CallR X (.builtin "sum") (rSum K'):=by subst h; exact call_sum hc
theorem s_sum:SimC C Z (rSum C.k) sum3:=fun I α H M xs ds K Q R r h k=>by
 obtain ⟨d,bs,rfl,e,h⟩:=h
 cases r with
 | cons r1 r2 =>
  cases r2
  obtain ⟨a,vs,rfl,ea,ra⟩:=lst_at R r1 e
  rw [ra.of_ints bs] at ea
  exact ⟨a,bs,rfl,ea,k _ _ I α H M (.refl _) (List.prefix_refl _) R (.int _) h⟩
def uRevT (ua:TE3) (us:TO3):TE3:=fun ρ M K=>ua ρ M fun d M1=>us ρ M1 fun k M2=>k=some (-1)/\∃ xs,d=.tup xs/\K (.tup xs.reverse) M2
def s_revT {ts:TO} {us:TO3} (ha:SimE C Z ta ua) (hs:SimO C Z ts us):SimE C Z (tRevT C.k ta ts) (uRevT ua us):=fun I α σ H ρ M K Q R E h k =>
 ha I α σ H ρ M _ _ R E h fun v d I1 α1 H1 M1 s1 p1 R1 r1 h1 =>
  hs I1 α1 σ H1 ρ M1 _ _ R1 (E.mono s1 p1) h1 fun o I2 α2 H2 M2 s2 p2 R2 h2=>by
   obtain ⟨ho,xs,rfl,h2⟩:=h2
   cases (r1.mono s2 p2) with
   | tup e r =>
    refine ⟨ho,_,_,rfl,SqT.of (R2.sub _ _ e),fun p hp=>?_⟩
    obtain ⟨R3,s3,e3⟩:=R2.new (o:=.tup _) hp
    exact k _ _ _ α2 _ M2 (s1.trans (s2.trans s3)) (p1.trans p2) R3 (.tup e3 (r.rev.mono s3 (List.prefix_refl _))) h2
def uAugS (uo ui ue:TE3) (f:Int->Int->Int):TS3:=fun E ρ M=>uo ρ M fun o M1=>ui ρ M1 fun i M2=>∃ (k n:Nat) (xs:List D) (x:Int),o=.cell k/\i=.int (n:Int)/\M2[k]?=some (.lst xs)/\xs[n]?=some (.int x) /\
 ue ρ M2 fun d M3=>∃ (y:Int) (xs':List D) (j:Nat),d=.int y/\M3[k]?=some (.lst xs')/\ixN xs'.length (n:Int)=some j/\E.nx ρ (M3.set k (.lst (xs'.set j (.int (f x y)))))
def s_augS {f:Int->Int->Int} (ho:SimE C Z to uo) (hi:SimE C Z ti ui) (he:SimE C Z te ue):SimS C Z (tAugS to ti te (rGetL C.k) (ipI f) rSetL) (uAugS uo ui ue f):=fun I α σ H ρ M E D' R RE h F =>
 ho I α σ H ρ M _ _ R RE h fun ov o I1 α1 H1 M1 s1 p1 R1 r1 h1=>hi I1 α1 σ H1 ρ M1 _ _ R1 (RE.mono s1 p1) h1 fun iv i I2 α2 H2 M2 s2 p2 R2 r2 h2=>by
  obtain ⟨k,n,xs,x,rfl,rfl,e1,e2,h2⟩:=h2
  cases r2
  cases (r1.mono s2 p2) with
  | @cell a _ ec =>
   obtain ⟨us,eu,ru⟩:=cell_lst R2 ec e1
   have hn:n < xs.length:=(List.getElem?_eq_some_iff.mp e2).1
   have hn':n < us.length:=by rw [ru.length]; exact hn
   have ri:=ru.at hn' hn
   rw [List.getElem?_eq_getElem hn] at e2
   rw [Option.some.inj e2] at ri
   refine ⟨a,us,n,us[n],rfl,rfl,SqL.of eu,List.getElem?_eq_getElem hn',?_⟩
   generalize us[n]=w at ri
   cases ri
   refine he I2 α2 σ H2 ρ M2 _ _ R2 (RE.mono (s1.trans s2) (p1.trans p2)) h2 fun ev d I3 α3 H3 M3 s3 p3 R3 r3 h3=>?_
   obtain ⟨y,xs',j,rfl,e3,e4,h3⟩:=h3
   cases r3
   have ec3:α3[k]?=some a:=by
    obtain ⟨t,rfl⟩:=p3
    rw [List.getElem?_append_left (List.getElem?_eq_some_iff.mp ec).1]; exact ec
   obtain ⟨us3,eu3,ru3⟩:=cell_lst R3 ec3 e3
   exact ⟨x,y,rfl,rfl,a,us3,_,j,rfl,rfl,eu3,by rw [ru3.length]; exact e4,F.nx I3 α3 σ _ ρ _ (s1.trans (s2.trans s3)) (p1.trans (p2.trans p3)) (R3.putL ec3 (ru3.set (.int _) j)) (RE.mono (s1.trans (s2.trans s3)) (p1.trans (p2.trans p3))) h3⟩
end
def spLaw0 (K:W.Frag):Sp:=fun vs H Q _=>∃ (a:Addr) (ns:List Int),vs=[.ref a]/\SqL K H a (ns.map V.int)/\ns.length<=63/\∀ H',Q (.bl true) H'
def dLaw0:Sp3:=fun ds M K=>∃ ns:List Int,ds=[.frz (ns.map .int)]/\M=[]/\ns.length<=63/\∀ M',K (.bl true) M'
def law_in0 {C:Cf} {vs:List V} {H:Hp} {Q:VK} {E:XK} (h:spLaw0 C.k vs H Q E):spOf C dLaw0 vs H Q E:=by
 obtain ⟨a,ns,rfl,hS,hl,k⟩:=h
 refine ⟨⟨fun _=>none,[],fun _ _ _=>False,fun _ _ _=>False⟩,H,[],[],[.frz (ns.map .int)],fun d _=>d=.bl true,⟨(fun _ _ h=>nomatch h),List.nil_prefix,.refl _,rfl,by simp,fun k' a' m h1 h2=>by simp at h1⟩,?_,⟨ns,rfl,rfl,hl,fun _=>rfl⟩,fun v d I' α' H' M' _ _ _ r h=>?_⟩
 ·exact .one (.frz hS (.ints ns))
 ·subst h
  cases r
  exact k H'
section
variable {C:Cf} {Z:Anc}
def add3C:R3:=fun d e M K=>∃ xs ys,lsOf M d=some xs/\lsOf M e=some ys/\xs.length + ys.length<=sizeLine/\K (.cell M.length) (M++[.lst (xs++ys)])
def s_addC:SimR C Z (rAddU C.k) add3C:=fun I α H M x y d e K Q R r1 r2 h k=>by
 obtain ⟨xs,ys,e1,e2,hl,h⟩:=h
 obtain ⟨a,vs,rfl,ea,ra⟩:=ls_at R r1 e1
 obtain ⟨b,ws,rfl,eb,rb⟩:=ls_at R r2 e2
 refine .inr (.inr (.inl ⟨a,b,vs,ws,rfl,rfl,ea,eb,by rw [ra.length,rb.length]; exact hl,fun p hp=>?_⟩))
 obtain ⟨R2,p2,e2⟩:=R.cell (o:=.lst (vs++ws)) (m:=.lst (xs++ys)) hp fun H' e=>⟨_,e,ra.app rb⟩
 exact k _ _ I _ _ _ (.refl _) p2 R2 (.cell e2) h
def mul3C:R3:=fun d e M K=>∃ xs k,lsOf M d=some xs/\e=.int k/\(-(2 ^ 63)<=k/\k < 2 ^ 63/\xs.length * k.toNat<=sizeLine)/\K (.cell M.length) (M++[.lst (List.replicate k.toNat xs).flatten])
def s_mulC:SimR C Z rMulU mul3C:=fun I α H M x y d e K Q R r1 r2 h k=>by
 obtain ⟨xs,j,e1,rfl,⟨h1,h2,h3⟩,h⟩:=h
 cases r2
 obtain ⟨a,vs,rfl,ea,ra⟩:=ls_at R r1 e1
 refine .inr ⟨a,j,vs,rfl,rfl,ea,h1,h2,by rw [ra.length]; exact h3,fun p hp=>?_⟩
 obtain ⟨R2,p2,e2⟩:=R.cell (o:=.lst (List.replicate j.toNat vs).flatten) (m:=.lst (List.replicate j.toNat xs).flatten) hp fun H' e=>⟨_,e,ra.rep _⟩
 exact k _ _ I _ _ _ (.refl _) p2 R2 (.cell e2) h
end
def hit (ns:List Int) (pl:Nat) (p:Pr):Bool:=decide ((ns.drop pl).take p.2.length=p.2)
def cstep (L:List Pr) (ns:List Int) (c:List Int) (j:Nat):Int:=((L.filter (hit ns (ns.length - 1 - j))).map fun p=>(c[p.2.length - 1]?).getD 0).sum
def tailC (L:List Pr) (ns:List Int):Nat->List Int
 | 0=>[1]
 | j + 1=>cstep L ns (tailC L ns j) j::tailC L ns j
theorem tailC_len (L:List Pr) (ns:List Int):∀ j,(tailC L ns j).length=j + 1
 | 0=>rfl
 | j + 1=>by rw [tailC,List.length_cons,tailC_len L ns j]
def cntOf (L:List Pr) (ns:List Int):Int:=((tailC L ns ns.length)[0]?).getD 0
def cnts (L:List Pr) (ns:List Int) (j:Nat):List Int:=List.replicate (ns.length - j) 0++tailC L ns j
theorem cnts_len {L:List Pr} {ns:List Int} {j:Nat} (h:j<=ns.length):(cnts L ns j).length=ns.length + 1:=by
 unfold cnts
 rw [List.length_append,List.length_replicate,tailC_len]
 omega
theorem hit_len {ns:List Int} {pl:Nat} {p:Pr} (h:hit ns pl p=true) (hn:p.2≠[]):pl + p.2.length<=ns.length:=by
 have e:=congrArg List.length (of_decide_eq_true h)
 rw [List.length_take,List.length_drop] at e
 have:=List.length_pos_iff.mpr hn
 omega
theorem cnts_at {L:List Pr} {ns:List Int} {j:Nat} (hj:j < ns.length) {p:Pr} (h:hit ns (ns.length - 1 - j) p=true) (hn:p.2≠[]) :
  (cnts L ns j)[ns.length - 1 - j + p.2.length]?=some (((tailC L ns j)[p.2.length - 1]?).getD 0):=by
 have h1:=hit_len h hn
 have h2:=List.length_pos_iff.mpr hn
 have h3:=tailC_len L ns j
 unfold cnts
 rw [List.getElem?_append_right (by rw [List.length_replicate]; omega),List.length_replicate]
 have e:ns.length - 1 - j + p.2.length - (ns.length - j)=p.2.length - 1:=by omega
 rw [e,List.getElem?_eq_getElem (by omega)]
 rfl
theorem cnts_set {L:List Pr} {ns:List Int} {j:Nat} (hj:j < ns.length):(cnts L ns j).set (ns.length - 1 - j) (cstep L ns (tailC L ns j) j)=cnts L ns (j + 1):=by
 unfold cnts
 have e:ns.length - j=(ns.length - (j + 1)) + 1:=by omega
 rw [e,List.replicate_succ',List.append_assoc,List.set_append_right _ _ (by rw [List.length_replicate]; omega),List.length_replicate]
 have e2:ns.length - 1 - j - (ns.length - (j + 1))=0:=by omega
 rw [e2]
 rfl
theorem cnts_all {L:List Pr} {ns:List Int}:(cnts L ns ns.length)[0]?=some (cntOf L ns):=by
 unfold cnts cntOf
 rw [Nat.sub_self,List.replicate_zero,List.nil_append]
 have:=tailC_len L ns ns.length
 rw [List.getElem?_eq_getElem (by omega)]
 rfl
theorem cut_midI {τ:Type} {ns:List τ} {pl m:Nat} (h:pl<=ns.length):cut ns (some (pl:Int)) (some ((pl:Int) + (m:Int)))=(ns.drop pl).take m:=by
 unfold cut
 rw [<- Int.natCast_add,HT.sIx_nat,HT.sIx_nat,Nat.min_eq_left h]
 refine List.take_eq_take_iff.mpr ?_
 rw [List.length_drop]
 omega
theorem ls_ty {M:Mem} {d:D} {xs:List D} (h:lsOf M d=some xs):tyOf M d=some .list/\lstOf M d=some xs/\seqOf M d=some xs:=by
 cases d with
 | lst ys=>cases h; exact ⟨rfl,rfl,rfl⟩
 | cell k =>
  simp only [lsOf] at h
  cases hm:M[k]? with
  | none=>rw [hm] at h; cases h
  | some m =>
   rw [hm] at h
   cases m with
   | lst es=>cases h; exact ⟨by simp only [tyOf,hm],by simp only [lstOf,hm],by simp only [seqOf,lstOf,hm]⟩
   | _=>cases h
 | _=>cases h
end L3
namespace L2
open PySem
def spWordsB:Sp:=fun vs H Q _=>∃ (p a sa:Addr) (m lg:Int) (bs:List Int),vs=[.ref p,.ref sa,.int m,.int lg]/\HandAt H p a/\H sa=some (.lst (bs.map V.int))/\sa≠p/\bs.Nodup/\bs≠[]/\bs.length<=24/\0<=m/\m<=6/\1<=lg/\lg<=4 /\
 ∀ (l:Addr) (ws:List (List Int)) (H':Hp),H l=none->l≠p->WordsAt H' l ws->WOk ws->(∀ w∈ws,∀ b∈w,b∈bs)->(ws.length:Int)<=bs.length + m * bs.length->HandAt H' p a->Grow p H H'->Q (.ref l) H'
end L2
namespace L3
open PySem L2
section
variable {C:Cf} {Z:Anc}
def dWordsB:Sp3:=fun ds M K=>∃ (k:Nat) (bs:List Int) (m lg:Int),ds=[.cell k,.lst (bs.map .int),.int m,.int lg]/\M[k]?=some .hand/\(bs.Nodup/\bs≠[]/\bs.length<=24/\0<=m/\m<=6/\1<=lg/\lg<=4)/\∀ ws:List (List Int),WOk ws->(∀ w∈ws,∀ b∈w,b∈bs)->(ws.length:Int)<=bs.length + m * bs.length->K (.lst (ws.map wD)) M
theorem a_wordsB {vs:List V} {H:Hp} {Q:VK} {E:XK} (h:spOf C dWordsB vs H Q E):spWordsB vs H Q E:=by
 obtain ⟨Z,I,α,M,ds,K,R,r,⟨k,bs,m,lg,rfl,hm,⟨h1,h2,h3,h4,h5,h6,h7⟩,h⟩,kk⟩:=h
 cases r with
 | cons r1 r2 =>
  cases r2 with
  | cons r2 r3 =>
   cases r3 with
   | cons r3 r4 =>
    cases r4 with
    | cons r4 r5 =>
     cases r5
     cases r3
     cases r4
     cases r1 with
     | @cell p _ ha =>
      obtain ⟨c,cs,hh,ic,hc⟩:=R.hand ha hm
      obtain ⟨sa,rfl,es,is⟩:=ints_at R r2
      exact ⟨p,c,sa,m,lg,bs,rfl,hh,es,ne_hand R ha hm is,h1,h2,h3,h4,h5,h6,h7,fun l ws H' nl _ wa wo wb wl hh' g=>hand_words R ha hm hh' ic hc g nl wa kk (h ws wo wb wl)⟩
end
def pre_set {M N:Mem} {m:MO} {t:Nat} (h:M<+:N) (ht:M.length<=t):M<+:N.set t m:=by
 obtain ⟨X,rfl⟩:=h
 rw [List.set_append_right _ _ ht]
 exact List.prefix_append _ _
def ls_at_ {N:Mem} {xs:List D} {t:Nat} (h:N[t]?=some (.lst xs)):lsOf N (.cell t)=some xs:=by simp only [lsOf,h]
end L3
namespace L2
open PySem PySem.Spec PyProof.Rows
section
variable {X:Cx} {pos:Pos}
def gLst (K:W.Frag) (n:Nat) (t:TGs):TG:=fun v σ H Q=>∃ a xs,v=.ref a/\SqL K H a xs/\xs.length=n/\t xs σ H Q
def pg_lst {es:List Expr} {k:Nat} {t:TGs} {n:Nat} (hc:X.calm=true) (h:PGs X es t)
  (hn:(assignEach es X.env).length=n:=by rfl) (hst:(assignEach es X.env).findIdx? (·.1)=none:=by rfl):PG X (.Tuple es k pos) (gLst X.K n t):=by
 intro pins s σ H v u Q I r hw
 obtain ⟨a,xs,e1,hq,hl,hw⟩:=hw
 subst e1
 cases r
 obtain ⟨its,rv,pl,hz⟩:=I.list hq
 have hs:(assignEach es X.env).length=its.toArray.size:=by rw [hn,<- hl,rv.length]; simp
 rw [assign_Tuple]
 refine wpAny_bind (wpAny_standAt ?_)
 unfold unpack
 rw [hs,hst]
 refine wpAny_bind (wpAny_holding (W.kun_itemsOf (I.ok.hd hc) pl.isList fun h' hx=>?_))
 have I1:Inv X pins σ H { s with heap:=h' }:=I.kept (t':=s.toks) fun b o e=>hx b o (Nat.ne_of_lt (Heap.lt_size e)) e
 exact h pins _ σ H xs _ Q I1 (by simpa using rv) hw
end
end L2
namespace L3
open PySem L2
section
variable {C:Cf} {Z:Anc} {gs:TGs} {ugs:TGs3}
def uGLst (n:Nat) (ugs:TGs3):TG3:=fun d ρ M K=>∃ ds,lstOf M d=some ds/\ds.length=n/\ugs ds ρ M K
def s_glst {n:Nat} (h:SimGs C Z gs ugs):SimG C Z (gLst C.k n gs) (uGLst n ugs):=fun I α σ H ρ M v d K Q R RE r hh k=>by
 obtain ⟨ds,e,hl,hh⟩:=hh
 obtain ⟨a,vs,rfl,ea,ra⟩:=lst_at R r e
 exact ⟨a,vs,rfl,ea,by rw [ra.length]; exact hl,h I α σ H ρ M vs ds K Q R RE ra hh k⟩
end
def encPD:Enc Pr:=encPr encInt (encTup encInt)
section
variable {C:Cf} {Z:Anc} {ta:TA} {ua:TA3}
def zIt (d e:D) (xs ys:List D):It3:=⟨min xs.length ys.length,fun i v=>∃ x y,xs[i]?=some x/\ys[i]?=some y/\v=.tup [x,y],fun M=>lstOf M d=some xs/\lstOf M e=some ys⟩
def uIZ (ua:TA3):TI3:=fun ρ M K=>ua ρ M fun ds M1=>∃ d e xs ys,ds=[d,e]/\lstOf M1 d=some xs/\lstOf M1 e=some ys/\K (zIt d e xs ys) M1
theorem s_iz (ha:SimA C Z ta ua):SimI C Z (iZip C.k ta) (uIZ ua):=fun I α σ H ρ M K R' R RE h k =>
 ha I α σ H ρ M _ _ R RE h fun vs ds I1 α1 H1 M1 s1 p1 R1 r1 h1=>by
  obtain ⟨d,e,xs,ys,rfl,ed,ee,h1⟩:=h1
  cases r1 with
  | cons r1 b =>
   cases b with
   | cons r2 b =>
    cases b
    obtain ⟨a,vs,rfl,ea,ra⟩:=lst_at R1 r1 ed
    obtain ⟨a2,ws,rfl,ea2,ra2⟩:=lst_at R1 r2 ee
    refine ⟨a,a2,rfl,⟨vs,ea⟩,⟨ws,ea2⟩,k _ _ I1 α1 H1 M1 s1 p1 R1 (fun I2 α2 H2 M2 s2 p2 R2 ok=>?_) h1⟩
    obtain ⟨b,vs',eb,eq,rw'⟩:=lst_at R2 (r1.mono s2 p2) ok.1
    obtain ⟨b2,ws',eb2,eq2,rw2⟩:=lst_at R2 (r2.mono s2 p2) ok.2
    cases eb
    cases eb2
    have l1:=rw'.length
    have l2:=rw2.length
    refine ⟨fun i hi=>?_,⟨vs',ws',eq,eq2,by show _<=min _ _\/_<=min _ _; omega⟩⟩
    have hi:i < min xs.length ys.length:=hi
    have hx:i < xs.length:=by omega
    have hy:i < ys.length:=by omega
    have hi1:i < vs'.length:=by omega
    have hi2:i < ws'.length:=by omega
    refine ⟨⟨vs',ws',_,_,eq,eq2,List.getElem?_eq_getElem hi1,List.getElem?_eq_getElem hi2⟩,fun v H3 y=>?_⟩
    obtain ⟨t,x,y,rfl,ht,rfl,q1,q2⟩:=y
    have z1:=q1 _ eq
    have z2:=q2 _ eq2
    rw [List.getElem?_eq_getElem hi1] at z1
    rw [List.getElem?_eq_getElem hi2] at z2
    cases z1
    cases z2
    obtain ⟨R3,s3,e3⟩:=R2.new (o:=.tup [vs'[i],ws'[i]]) ht
    exact ⟨_,.tup [xs[i],ys[i]],s3,R3,.tup e3 (.cons ((rw'.at hi1 hx).mono s3 (List.prefix_refl _)) (.one ((rw2.at hi2 hy).mono s3 (List.prefix_refl _)))),_,_,List.getElem?_eq_getElem hx,List.getElem?_eq_getElem hy,rfl⟩
end
end L3
namespace L2
open PySem PySem.Spec PyProof.Rows
def pef_lst {X:Cx} {pins:List (Addr×Obj)} {σ:St} {es:List Expr} {t:TA} {pos:Pos} (h:PAF X pins σ es t):PEF X pins σ (.List es pos) (tLst t):=by
 intro s H Q I hq
 refine wpAny_List_spliced (thn (h pos s H _ I hq) fun us s1 ⟨xs,H1,I1,r,z,q⟩=>⟨by rw [<- r.length]; exact z,?_⟩)
 have hf:H1 s1.heap.objs.size=none:=I1.hok.fresh (Nat.le_refl _)
 refine ⟨.ref s1.heap.objs.size,upd H1 s1.heap.objs.size (.lst xs),I1.laid (t':=s1.toks) (fun b u e=>Heap.get?_push_of_some _ e) (Nat.le_refl _) ?_,rfl,q _ hf⟩
 exact ⟨z,us,0,r,Heap.get?_push_size _ rfl⟩
end L2
namespace L3
open PySem L2
theorem lst_up {M:Mem} {d:D} {xs:List D} {X:Mem} (h:lstOf M d=some xs):lstOf (M++X) d=some xs:=by
 cases d with
 | lst ys=>exact h
 | frz ys=>exact h
 | cell k =>
  simp only [lstOf] at h ⊢
  by_cases hk:k < M.length
  ·rw [List.getElem?_append_left hk]; exact h
  ·rw [List.getElem?_eq_none (Nat.le_of_not_lt hk)] at h
   exact nomatch h
 | _=>exact nomatch h
section
variable {M:Mem} {x y z:MO}
def two0:(M++[x,y])[M.length]?=some x:=by simp
theorem two1:(M++[x,y])[M.length + 1]?=some y:=by rw [List.getElem?_append_right (by omega)]; simp
theorem set21:(M++[x,y]).set (M.length + 1) z=M++[x,z]:=by rw [List.set_append_right _ _ (by omega),Nat.add_sub_cancel_left]; rfl
end
def cAt (L:List Pr) (ns:List Int) (q:Nat):Int:=((tailC L ns (ns.length - q))[0]?).getD 0
theorem tailC_at {L:List Pr} {ns:List Int} {j i:Nat}:∀ k,(tailC L ns (j + k))[k + i]?=(tailC L ns j)[i]?
 | 0=>by rw [Nat.zero_add]; rfl
 | k + 1=>by
  rw [show j + (k + 1)=(j + k) + 1 from rfl,tailC,show k + 1 + i=(k + i) + 1 by omega,List.getElem?_cons_succ]
  exact tailC_at k
theorem cnts_cAt {L:List Pr} {ns:List Int} {q:Nat} (h:q<=ns.length):(cnts L ns ns.length)[q]?=some (cAt L ns q):=by
 unfold cnts cAt
 rw [Nat.sub_self,List.replicate_zero,List.nil_append]
 have e:=tailC_at (L:=L) (ns:=ns) (j:=ns.length - q) (i:=0) q
 rw [Nat.sub_add_cancel h,Nat.add_zero] at e
 rw [e]
 have:=tailC_len L ns (ns.length - q)
 rw [List.getElem?_eq_getElem (by omega)]
 rfl
def cAt_end {L:List Pr} {ns:List Int}:cAt L ns ns.length=1:=by unfold cAt; rw [Nat.sub_self]; rfl
theorem cAt_step {L:List Pr} {ns:List Int} {q:Nat} (h:q < ns.length) (hW:∀ p∈L,p.2≠[]):cAt L ns q=((L.filter (hit ns q)).map fun p=>cAt L ns (q + p.2.length)).sum:=by
 have e:ns.length - q=(ns.length - 1 - q) + 1:=by omega
 show ((tailC L ns (ns.length - q))[0]?).getD 0=_
 rw [e,tailC,List.getElem?_cons_zero,Option.getD_some,cstep,show ns.length - 1 - (ns.length - 1 - q)=q by omega]
 congr 1
 refine List.map_congr_left fun p hp=>?_
 obtain ⟨h1,h2⟩:=List.mem_filter.mp hp
 have l1:=hit_len h2 (hW p h1)
 have l2:=List.length_pos_iff.mpr (hW p h1)
 have:=tailC_at (L:=L) (ns:=ns) (j:=ns.length - (q + p.2.length)) (i:=0) (p.2.length - 1)
 rw [Nat.add_zero,show ns.length - (q + p.2.length) + (p.2.length - 1)=ns.length - 1 - q by omega] at this
 rw [this]
 rfl
inductive Rdg (L:List Pr):List Int->List Int->Prop where
 | nil:Rdg L [] []
 | cons {p:Pr} {r t:List Int}:p∈L->Rdg L r t->Rdg L (p.2++r) (p.1::t)
def hit_drop {ns:List Int} {q:Nat} {p:Pr} (h:hit ns q p=true):ns.drop q=p.2++ns.drop (q + p.2.length):=by
 have e:=of_decide_eq_true h
 have:=List.take_append_drop p.2.length (ns.drop q)
 rw [e,List.drop_drop] at this
 exact this.symm
def drop_hit {ns r:List Int} {q:Nat} {p:Pr} (h:ns.drop q=p.2++r):hit ns q p=true/\r=ns.drop (q + p.2.length):=by
 refine ⟨decide_eq_true ?_,?_⟩
 ·rw [h,List.take_left']; rfl
 ·rw [<- List.drop_drop,h,List.drop_left']; rfl
theorem sum_pos {τ:Type} {f:τ->Int}:∀ {l:List τ},(∀ x∈l,0<=f x)->0<=(l.map f).sum/\(l.map f).sum=((l.filter fun x=>decide (0 < f x)).map f).sum/\((l.filter fun x=>decide (0 < f x)).length:Int)<=(l.map f).sum
 | [],_=>⟨Int.le_refl _,rfl,Int.le_refl _⟩
 | x::l,h=>by
  obtain ⟨a,b,c⟩:=sum_pos (l:=l) fun y hy=>h y (List.mem_cons_of_mem _ hy)
  have hx:=h x List.mem_cons_self
  rw [List.map_cons,List.sum_cons,List.filter_cons]
  by_cases e:0 < f x
  ·rw [if_pos (decide_eq_true e),List.map_cons,List.sum_cons,List.length_cons]
   exact ⟨by omega,by omega,by omega⟩
  ·rw [if_neg (by rw [decide_eq_true_iff]; exact e)]
   exact ⟨by omega,by omega,by omega⟩
theorem cAt_pos {L:List Pr} {ns:List Int} (hW:∀ p∈L,p.2≠[]):∀ (d q:Nat),q<=ns.length->ns.length - q<=d->0<=cAt L ns q:=by
 intro d
 induction d with
 | zero=>intro q h e; rw [show q=ns.length by omega,cAt_end]; decide
 | succ d ih =>
  intro q h e
  by_cases hq:q=ns.length
  ·rw [hq,cAt_end]; decide
  rw [cAt_step (by omega) hW]
  refine (sum_pos fun p hp=>?_).1
  obtain ⟨h1,h2⟩:=List.mem_filter.mp hp
  have l1:=hit_len h2 (hW p h1)
  have l2:=List.length_pos_iff.mpr (hW p h1)
  exact ih _ l1 (by omega)
theorem cAt_read {L:List Pr} {ns:List Int} (hW:∀ p∈L,p.2≠[]):∀ (d q:Nat),q<=ns.length->ns.length - q<=d->(1<=cAt L ns q↔∃ t,Rdg L (ns.drop q) t):=by
 intro d
 have atEnd:1<=cAt L ns ns.length↔∃ t,Rdg L (ns.drop ns.length) t:=by
  rw [cAt_end,List.drop_length]
  exact ⟨fun _=>⟨[],.nil⟩,fun _=>by decide⟩
 induction d with
 | zero=>intro q h e; rw [show q=ns.length by omega]; exact atEnd
 | succ d ih =>
  intro q h e
  by_cases hq:q=ns.length
  ·rw [hq]; exact atEnd
  have pos:∀ p∈L.filter (hit ns q),0<=cAt L ns (q + p.2.length):=fun p hp=>by
   obtain ⟨h1,h2⟩:=List.mem_filter.mp hp
   exact cAt_pos hW _ _ (hit_len h2 (hW p h1)) (Nat.le_refl _)
  obtain ⟨a,b,c⟩:=sum_pos pos
  rw [cAt_step (by omega) hW]
  constructor
  ·intro h1
   rw [b] at h1
   cases hF:(L.filter (hit ns q)).filter fun p=>decide (0 < cAt L ns (q + p.2.length)) with
   | nil=>rw [hF,List.map_nil] at h1; exact absurd h1 (by decide)
   | cons p r =>
    have hp:p∈(L.filter (hit ns q)).filter fun p=>decide (0 < cAt L ns (q + p.2.length)):=by rw [hF]; exact List.mem_cons_self
    obtain ⟨h2,h3⟩:=List.mem_filter.mp hp
    obtain ⟨h4,h5⟩:=List.mem_filter.mp h2
    have l1:=hit_len h5 (hW p h4)
    have l2:=List.length_pos_iff.mpr (hW p h4)
    obtain ⟨t,ht⟩:=(ih _ l1 (by omega)).mp (of_decide_eq_true h3)
    exact ⟨p.1::t,by rw [hit_drop h5]; exact .cons h4 ht⟩
  ·rintro ⟨t,ht⟩
   generalize hr:ns.drop q=r at ht
   cases ht with
   | nil=>have:=congrArg List.length hr; rw [List.length_drop] at this; simp at this; omega
   | @cons p r t hp ht =>
    obtain ⟨h5,er⟩:=drop_hit hr
    have l1:=hit_len h5 (hW p hp)
    have l2:=List.length_pos_iff.mpr (hW p hp)
    have h6:=(ih _ l1 (by omega)).mpr ⟨t,er ▸ ht⟩
    have hm:p∈(L.filter (hit ns q)).filter fun p=>decide (0 < cAt L ns (q + p.2.length)):=List.mem_filter.mpr ⟨List.mem_filter.mpr ⟨hp,h5⟩,decide_eq_true (by omega)⟩
    have:=List.length_pos_of_mem hm
    omega
abbrev Bg:=List Int×Nat
def osn1 (L:List Pr) (ns:List Int) (b:Bg):List Bg:=((L.filter (hit ns b.2)).filter fun p=>decide (0 < cAt L ns (b.2 + p.2.length))).map fun p=>(b.1++[p.1],b.2 + p.2.length)
def osn (L:List Pr) (ns:List Int) (bs:List Bg):List Bg:=bs.flatMap (osn1 L ns)
theorem len_any {M:Mem} {d:D} {xs:List D} {K:K3} (h:lstOf M d=some xs) (k:K (.int xs.length) M):len3 [d] M K:=by
 cases d with
 | lst ys=>exact ⟨_,h,k⟩
 | frz ys=>exact ⟨_,h,k⟩
 | cell c=>exact ⟨_,h,k⟩
 | _=>exact nomatch h
def get_moreX {M X:Mem} {m:MO} {r:Nat} (h:M[r]?=some m):(M++X)[r]?=some m:=by
 rw [List.getElem?_append_left (List.getElem?_eq_some_iff.mp h).1]; exact h
theorem lst_set {M:Mem} {e:D} {xs:List D} {c:Nat} {m:MO} (h:lstOf M e=some xs) (ne:e≠.cell c):lstOf (M.set c m) e=some xs:=by
 cases e with
 | lst ys=>exact h
 | frz ys=>exact h
 | cell k =>
  simp only [lstOf] at h ⊢
  rw [List.getElem?_set_ne (fun z=>ne (by rw [z]))]
  exact h
 | _=>exact nomatch h
def Wb (bs:List Int) (ws:List (List Int)):Prop:=∀ w∈ws,(w≠[]/\w.length<=4)/\∀ b∈w,b∈bs
def tx2 (t:List Int):D:=.lst (t.map .int)
structure Rs (L:List Pr) (ns:List Int) (k:Nat) (ts:List (List Int)) (bs:List Bg):Prop where
 b:∀ b∈bs,b.2<=ns.length/\b.1.length=k/\k<=b.2/\∀ t',Rdg L (ns.drop b.2) t'->Rdg L ns (b.1++t')
 nb:(bs.map (·.1)).Nodup
 nt:ts.Nodup
 t:∀ t∈ts,Rdg L ns t/\t.length < k
 c:∀ t,Rdg L ns t->t∈ts\/∃ b∈bs,∃ t',t=b.1++t'/\Rdg L (ns.drop b.2) t'
 n:(bs.map fun b=>cAt L ns b.2).sum + ts.length=cAt L ns 0
def Rs.start {L:List Pr} {ns:List Int}:Rs L ns 0 [] [([],0)]:=⟨fun b hb=>by rw [List.mem_singleton.mp hb]; exact ⟨Nat.zero_le _,rfl,Nat.le_refl _,fun t' h=>h⟩,List.nodup_cons.mpr ⟨(fun z=>nomatch z),List.nodup_nil⟩,List.nodup_nil,(fun _ h=>nomatch h),fun t h=>.inr ⟨_,List.mem_singleton.mpr rfl,t,rfl,h⟩,by simp⟩
def osn1_mem {L:List Pr} {ns:List Int} {b c:Bg}:c∈osn1 L ns b↔∃ p∈L,hit ns b.2 p=true/\0 < cAt L ns (b.2 + p.2.length)/\c=(b.1++[p.1],b.2 + p.2.length):=by
 unfold osn1
 constructor
 ·intro h
  obtain ⟨p,hp,e⟩:=List.mem_map.mp h
  obtain ⟨h1,h2⟩:=List.mem_filter.mp hp
  obtain ⟨h3,h4⟩:=List.mem_filter.mp h1
  exact ⟨p,h3,h4,of_decide_eq_true h2,e.symm⟩
 ·rintro ⟨p,h1,h2,h3,rfl⟩
  exact List.mem_map.mpr ⟨p,List.mem_filter.mpr ⟨List.mem_filter.mpr ⟨h1,h2⟩,decide_eq_true h3⟩,rfl⟩
theorem osn1_sum {L:List Pr} {ns:List Int} (hW:∀ p∈L,p.2≠[]) {b:Bg} (hb:b.2<=ns.length):((osn1 L ns b).map fun c=>cAt L ns c.2).sum + (if b.2=ns.length then 1 else 0)=cAt L ns b.2/\(b.2=ns.length->osn1 L ns b=[]):=by
 by_cases z:b.2=ns.length
 ·have e0:osn1 L ns b=[]:=List.eq_nil_iff_forall_not_mem.mpr fun c hc=>by
   obtain ⟨p,hp,h,_⟩:=osn1_mem.mp hc
   have:=hit_len h (hW p hp)
   have:=List.length_pos_iff.mpr (hW p hp)
   omega
  rw [e0,if_pos z,z,cAt_end]
  exact ⟨rfl,fun _=>rfl⟩
 ·rw [if_neg z,Int.add_zero]
  refine ⟨?_,fun h=>absurd h z⟩
  rw [cAt_step (by omega) hW,(sum_pos (f:=fun p:Pr=>cAt L ns (b.2 + p.2.length)) fun p hp=>by
   obtain ⟨h1,h2⟩:=List.mem_filter.mp hp
   exact cAt_pos hW _ _ (hit_len h2 (hW p h1)) (Nat.le_refl _)).2.1]
  unfold osn1
  rw [List.map_map]
  rfl
theorem Rs.next {L:List Pr} {ns:List Int} (hW:∀ p∈L,p.2≠[]) (nd:(L.map (·.1)).Nodup) {k:Nat} {ts:List (List Int)} {bs:List Bg} (r:Rs L ns k ts bs) :
  Rs L ns (k + 1) (ts++(bs.filter fun b=>decide (b.2=ns.length)).map (·.1)) (osn L ns bs)/\∀ c∈osn L ns bs,1<=cAt L ns c.2:=by
 have mem:∀ c∈osn L ns bs,∃ b∈bs,∃ p∈L,hit ns b.2 p=true/\0 < cAt L ns (b.2 + p.2.length)/\c=(b.1++[p.1],b.2 + p.2.length):=fun c hc=>by
  obtain ⟨b,hb,h⟩:=List.mem_flatMap.mp hc
  obtain ⟨p,h1,h2,h3,h4⟩:=osn1_mem.mp h
  exact ⟨b,hb,p,h1,h2,h3,h4⟩
 refine ⟨⟨fun c hc=>?_,?_,?_,fun t ht=>?_,fun t ht=>?_,?_⟩,fun c hc=>?_⟩
 ·obtain ⟨b,hb,p,hp,h1,h2,rfl⟩:=mem c hc
  obtain ⟨b1,b2,b3,b4⟩:=r.b b hb
  have l1:=hit_len h1 (hW p hp)
  have l2:=List.length_pos_iff.mpr (hW p hp)
  refine ⟨l1,by rw [List.length_append,b2]; rfl,by show k + 1<=b.2 + _; omega,fun t' ht=>?_⟩
  rw [List.append_assoc]
  exact b4 _ (by rw [hit_drop h1]; exact .cons hp ht)
 ·unfold osn
  rw [List.map_flatMap,List.nodup_iff_pairwise_ne,List.pairwise_flatMap]
  refine ⟨fun b hb=>?_,?_⟩
  ·unfold osn1
   rw [List.map_map,List.pairwise_map]
   have nf:(((L.filter (hit ns b.2)).filter fun p=>decide (0 < cAt L ns (b.2 + p.2.length))).map (·.1)).Nodup:=nd.sublist (((List.filter_sublist).trans List.filter_sublist).map _)
   rw [List.nodup_iff_pairwise_ne,List.pairwise_map] at nf
   exact nf.imp fun h e=>h (by
    have e:b.1++[_]=b.1++[_]:=e
    exact (List.cons.inj (List.append_cancel_left e)).1)
  ·have nb:=r.nb
   rw [List.nodup_iff_pairwise_ne,List.pairwise_map] at nb
   refine nb.imp_of_mem fun {b b'} hb hb' ne x hx y hy e=>?_
   obtain ⟨c,hc,rfl⟩:=List.mem_map.mp hx
   obtain ⟨c',hc',rfl⟩:=List.mem_map.mp hy
   obtain ⟨p,_,_,_,rfl⟩:=osn1_mem.mp hc
   obtain ⟨p',_,_,_,rfl⟩:=osn1_mem.mp hc'
   have e:b.1++[p.1]=b'.1++[p'.1]:=e
   exact ne (List.append_inj_left e (by rw [(r.b b hb).2.1,(r.b b' hb').2.1]))
 ·refine List.nodup_append.mpr ⟨r.nt,r.nb.sublist (List.filter_sublist.map _),fun a ha c hc e=>?_⟩
  obtain ⟨b,hb,rfl⟩:=List.mem_map.mp hc
  have l1:=(r.t a ha).2
  have l2:=(r.b b (List.mem_filter.mp hb).1).2.1
  rw [e] at l1
  omega
 ·rcases List.mem_append.mp ht with h | h
  ·obtain ⟨h1,h2⟩:=r.t t h
   exact ⟨h1,by omega⟩
  ·obtain ⟨b,hb,rfl⟩:=List.mem_map.mp h
   obtain ⟨h1,h2⟩:=List.mem_filter.mp hb
   obtain ⟨b1,b2,b3,b4⟩:=r.b b h1
   refine ⟨?_,by omega⟩
   have:=b4 [] (by rw [of_decide_eq_true h2,List.drop_length]; exact .nil)
   rwa [List.append_nil] at this
 ·rcases r.c t ht with h | ⟨b,hb,t',e,h⟩
  ·exact .inl (List.mem_append_left _ h)
  ·obtain ⟨b1,b2,b3,b4⟩:=r.b b hb
   generalize hr:ns.drop b.2=s at h
   cases h with
   | nil =>
    left
    have:b.2=ns.length:=by have:=congrArg List.length hr; rw [List.length_drop] at this; simp at this; omega
    rw [e,List.append_nil]
    exact List.mem_append_right _ (List.mem_map.mpr ⟨b,List.mem_filter.mpr ⟨hb,decide_eq_true this⟩,rfl⟩)
   | @cons p r' t'' hp h =>
    right
    obtain ⟨h5,er⟩:=drop_hit hr
    have l1:=hit_len h5 (hW p hp)
    have c1:=(cAt_read (ns:=ns) hW _ _ l1 (Nat.le_refl _)).mpr ⟨t'',er ▸ h⟩
    exact ⟨(b.1++[p.1],b.2 + p.2.length),List.mem_flatMap.mpr ⟨b,hb,osn1_mem.mpr ⟨p,hp,h5,by omega,rfl⟩⟩,t'',by rw [e,List.append_assoc]; rfl,er ▸ h⟩
 ·have go:∀ bs:List Bg,(∀ b∈bs,b.2<=ns.length)->((osn L ns bs).map fun b=>cAt L ns b.2).sum + ((bs.filter fun b=>decide (b.2=ns.length)).length:Int)=(bs.map fun b=>cAt L ns b.2).sum:=by
   intro bs
   induction bs with
   | nil=>intro _; rfl
   | cons b bs ih =>
    intro h
    have i1:=ih fun x hx=>h x (List.mem_cons_of_mem _ hx)
    have i2:=(osn1_sum hW (h b List.mem_cons_self)).1
    unfold osn at i1 ⊢
    rw [List.flatMap_cons,List.map_append,List.sum_append,List.map_cons,List.sum_cons,List.filter_cons]
    by_cases z:b.2=ns.length
    ·rw [if_pos z] at i2
     rw [if_pos (decide_eq_true z),List.length_cons]
     omega
    ·rw [if_neg z] at i2
     rw [if_neg (by rw [decide_eq_true_iff]; exact z)]
     omega
  have h1:=go bs fun b hb=>(r.b b hb).1
  have h2:=r.n
  rw [List.length_append,List.length_map]
  omega
 ·obtain ⟨b,hb,p,hp,h1,h2,rfl⟩:=mem c hc
  exact h2
theorem sum_len {bs:List Bg} {f:Bg->Int} (h:∀ b∈bs,1<=f b):(bs.length:Int)<=(bs.map f).sum:=by
 induction bs with
 | nil=>exact Int.le_refl _
 | cons b bs ih =>
  have:=ih fun x hx=>h x (List.mem_cons_of_mem _ hx)
  have:=h b List.mem_cons_self
  rw [List.length_cons,List.map_cons,List.sum_cons]
  omega
theorem all_rs {L:List Pr} {ns:List Int} (hW:∀ p∈L,p.2≠[]) (nd:(L.map (·.1)).Nodup):∀ (m k:Nat) {ts:List (List Int)} {bs:List Bg},ns.length + 2 - k=m->Rs L ns k ts bs->∃ us:List (List Int),us.Nodup/\(∀ t,t∈us↔Rdg L ns t)/\(us.length:Int)=cAt L ns 0:=by
 intro m
 induction m with
 | zero =>
  intro k ts bs e r
  have eb:bs=[]:=List.eq_nil_iff_forall_not_mem.mpr fun b hb=>by obtain ⟨h1,_,h3,_⟩:=r.b b hb; omega
  subst eb
  refine ⟨ts,r.nt,fun t=>⟨fun h=>(r.t t h).1,fun h=>(r.c t h).elim id fun ⟨b,hb,_⟩=>nomatch hb⟩,?_⟩
  have:=r.n
  rw [List.map_nil,List.sum_nil] at this
  omega
 | succ m ih =>
  intro k ts bs e r
  by_cases eb:bs=[]
  ·subst eb
   refine ⟨ts,r.nt,fun t=>⟨fun h=>(r.t t h).1,fun h=>(r.c t h).elim id fun ⟨b,hb,_⟩=>nomatch hb⟩,?_⟩
   have:=r.n
   rw [List.map_nil,List.sum_nil] at this
   omega
  ·exact ih (k + 1) (by omega) (r.next hW nd).1
def all_ways {L:List Pr} {ns:List Int} (hW:∀ p∈L,p.2≠[]) (nd:(L.map (·.1)).Nodup):∃ us:List (List Int),us.Nodup/\(∀ t,t∈us↔Rdg L ns t)/\(us.length:Int)=cntOf L ns:=all_rs hW nd _ 0 rfl .start
theorem lex_same:∀ {a b:List (List Int)},a.Pairwise (fun x y=>HT.lexLt x y=true)->b.Pairwise (fun x y=>HT.lexLt x y=true)->(∀ t,t∈a↔t∈b)->a=b
 | [],[],_,_,_=>rfl
 | [],y::b,_,_,h=>absurd ((h y).mpr List.mem_cons_self) (fun z=>nomatch z)
 | x::a,[],_,_,h=>absurd ((h x).mp List.mem_cons_self) (fun z=>nomatch z)
 | x::a,y::b,ha,hb,h=>by
  have asy:∀ {u v:List Int},HT.lexLt u v=true->HT.lexLt v u=true->False:=fun p q=>by have:=lex_trans p q; rw [lex_irr] at this; cases this
  obtain ⟨a1,a2⟩:=List.pairwise_cons.mp ha
  obtain ⟨b1,b2⟩:=List.pairwise_cons.mp hb
  have e:x=y:=by
   rcases List.mem_cons.mp ((h x).mp List.mem_cons_self) with z | z
   ·exact z
   ·rcases List.mem_cons.mp ((h y).mpr List.mem_cons_self) with w | w
    ·exact w.symm
    ·exact (asy (b1 x z) (a1 y w)).elim
  subst e
  have:a=b:=lex_same a2 b2 fun t=>by
   constructor
   ·intro ht
    rcases List.mem_cons.mp ((h t).mp (List.mem_cons_of_mem _ ht)) with z | z
    ·rw [z] at ht; have:=a1 x ht; rw [lex_irr] at this; cases this
    ·exact z
   ·intro ht
    rcases List.mem_cons.mp ((h t).mpr (List.mem_cons_of_mem _ ht)) with z | z
    ·rw [z] at ht; have:=b1 x ht; rw [lex_irr] at this; cases this
    ·exact z
  rw [this]
def tx (t:List Int):MO:=.lst (t.map .int)
def get_up {M X:Mem} {k:Nat} {m:MO} (h:M[k]?=some m):(M++X)[k]?=some m:=by rw [List.getElem?_append_left (List.getElem?_eq_some_iff.mp h).1]; exact h
section
variable {C:Cf} {Z:Anc}
theorem lay_itT {I:Hp} {α:List Addr} {H:Hp} {M:Mem} (R:Rel C Z I α H M):∀ {vs:List V} (zs:List (D×List Int)),Reps C I α vs (zs.map (·.1))->(∀ z∈zs,lstOf M z.1=some (z.2.map .int))->∃ P:List (KIt×D×List Int),(P.map fun q=>V.ref q.1.2.1)=vs/\P.map (·.2)=zs/\∀ q∈P,SqL C.k H q.1.2.1 (q.1.2.2.map V.int)/\q.1.2.2=q.2.2/\Rep C I α (.ref q.1.2.1) q.2.1
 | _,[],r,_=>by cases r; exact ⟨[],rfl,rfl,fun _ h=>nomatch h⟩
 | _,z::zs,r,hz=>by
  cases r with
  | cons a b =>
   obtain ⟨P,e1,e2,e3⟩:=lay_itT R zs b fun z h=>hz z (List.mem_cons_of_mem _ h)
   obtain ⟨c,vs,rfl,ec,rc⟩:=lst_at R a (hz z List.mem_cons_self)
   rw [Reps.of_ints _ rc] at ec
   refine ⟨((.non,c,z.2),z)::P,by rw [List.map_cons,e1],by rw [List.map_cons,e2],fun q hq=>?_⟩
   rcases List.mem_cons.mp hq with y | y
   ·rw [y]; exact ⟨ec,rfl,a⟩
   ·exact e3 q y
theorem reps_itT {I:Hp} {α:List Addr}:∀ (P:List (KIt×D×List Int)),(∀ q∈P,Rep C I α (.ref q.1.2.1) q.2.1)->Reps C I α (P.map fun q=>V.ref q.1.2.1) (P.map fun q=>q.2.1)
 | [],_=>.nil
 | q::P,h=>.cons (h q List.mem_cons_self) (reps_itT P fun x hx=>h x (List.mem_cons_of_mem _ hx))
def sortM3:List D->Mem->K3->Prop:=fun ds M K=>∃ (d:D) (zs:List (D×List Int)),ds=[d]/\lstOf M d=some (zs.map (·.1))/\(zs.length < 65536/\(∀ z∈zs,lstOf M z.1=some (z.2.map .int))/\(zs.map (·.2)).Nodup)/\∀ ys:List (D×List Int),ys.Perm zs->ys.Pairwise (fun a b=>HT.lexLt a.2 b.2=true)->K (.lst (ys.map (·.1))) M
def sortMC3:List D->Mem->K3->Prop:=fun ds M K=>∃ (d:D) (zs:List (D×List Int)),ds=[d]/\lstOf M d=some (zs.map (·.1))/\(zs.length < 65536/\(∀ z∈zs,lstOf M z.1=some (z.2.map .int))/\(zs.map (·.2)).Nodup)/\∀ ys:List (D×List Int),ys.Perm zs->ys.Pairwise (fun a b=>HT.lexLt a.2 b.2=true)->K (.cell M.length) (M++[.lst (ys.map (·.1))])
theorem sortM_in {I:Hp} {α:List Addr} {H:Hp} {M:Mem} {xs:List V} {d:D} {zs:List (D×List Int)} {Q:VK} (R:Rel C Z I α H M) (r:Reps C I α xs [d]) (e:lstOf M d=some (zs.map (·.1))) (h64:zs.length < 65536) (hz:∀ z∈zs,lstOf M z.1=some (z.2.map .int)) (nd:(zs.map (·.2)).Nodup)
  (h:∀ (Da:Addr) (P':List (KIt×D×List Int)),H Da=none->(P'.map (·.2)).Perm zs->(P'.map (·.2)).Pairwise (fun a b=>HT.lexLt a.2 b.2=true)->Reps C I α (P'.map fun q=>V.ref q.1.2.1) (P'.map fun q=>q.2.1)->Q (.ref Da) (upd H Da (.lst (P'.map fun q=>V.ref q.1.2.1)))):rSortLM C.k xs H Q:=by
 cases r with
 | cons r1 r2 =>
  cases r2
  obtain ⟨a,vs,rfl,ea,ra⟩:=lst_at R r1 e
  obtain ⟨P,e1,e2,e3⟩:=lay_itT R zs ra hz
  have ll:P.length=zs.length:=by have:=congrArg List.length e2; simpa using this
  have e4:(P.map (·.1)).map (·.2.2)=zs.map (·.2):=by
   rw [<- e2,List.map_map,List.map_map]
   exact List.map_congr_left fun q hq=>(e3 q hq).2.1
  refine ⟨a,P.map (·.1),rfl,by rw [List.map_map]; rw [<- e1] at ea; exact ea,by rw [List.length_map]; omega,fun q hq=>?_,by rw [e4]; exact nd,fun Da L' hD pm pw=>?_⟩
  ·obtain ⟨p,hp,rfl⟩:=List.mem_map.mp hq
   exact (e3 p hp).1
  ·obtain ⟨P',pP,rfl⟩:=lift_perm pm rfl
   rw [List.map_map]
   refine h Da P' hD (by rw [<- e2]; exact pP.map _) ?_ (reps_itT P' fun q hq=>(e3 q (pP.mem_iff.mp hq)).2.2)
   rw [List.pairwise_map] at pw ⊢
   refine pw.imp_of_mem fun {a b} ha hb hl=>?_
   rw [<- (e3 a (pP.mem_iff.mp ha)).2.1,<- (e3 b (pP.mem_iff.mp hb)).2.1]
   exact hl
def s_sortM:SimC C Z (rSortLM C.k) sortM3:=fun I α H M xs ds K Q R r h k=>by
 obtain ⟨d,zs,rfl,e,⟨h64,hz,nd⟩,h⟩:=h
 refine sortM_in R r e h64 hz nd fun Da P' hD pm pw rp=>?_
 obtain ⟨R4,s4,e4⟩:=R.new (o:=.lst (P'.map fun q=>V.ref q.1.2.1)) hD
 refine k _ _ _ α _ M s4 (List.prefix_refl _) R4 (.lst e4 ?_) (h _ pm pw)
 rw [List.map_map]
 exact rp.mono s4 (List.prefix_refl _)
def s_sortMC:SimC C Z (rSortLM C.k) sortMC3:=fun I α H M xs ds K Q R r h k=>by
 obtain ⟨d,zs,rfl,e,⟨h64,hz,nd⟩,h⟩:=h
 refine sortM_in R r e h64 hz nd fun Da P' hD pm pw rp=>?_
 obtain ⟨R4,p4,e4⟩:=R.cell (o:=.lst (P'.map fun q=>V.ref q.1.2.1)) (m:=.lst ((P'.map (·.2)).map (·.1))) hD fun H' e=>⟨_,e,by rw [List.map_map]; exact rp⟩
 exact k _ _ I _ _ _ (.refl _) p4 R4 (.cell e4) (h _ pm pw)
end
end L3
namespace K52
open PySem L2
def top (i:Nat):Stmt:=PySem.Challenge.pw_skewread_k52_all_readings.main.body.getD i (.Pass ⟨0,0,0,0⟩)
abbrev s__law_draw:Stmt:=top 11
def sc__law_draw:FnScope ["_law_hand", "_law_many", "_law_got", "_law_cell", "_law_number"] ["_law_hand", "_law_many"] (defScope s__law_draw):=⟨rfl,rfl,rfl,by decide +kernel,rfl,by decide +kernel,by decide +kernel⟩
abbrev s__law_open:Stmt:=top 10
def sc__law_open:FnScope ["_law_script", "_law_place", "_law_cells", "_law_at", "_law_digits"] ["_law_script", "_law_place"] (defScope s__law_open):=⟨rfl,rfl,rfl,by decide +kernel,rfl,by decide +kernel,by decide +kernel⟩
abbrev s__law_bytes:Stmt:=top 12
def sc__law_bytes:FnScope ["_law_hand", "_law_most", "_law_begin", "_law_step"] ["_law_hand", "_law_most"] (defScope s__law_bytes):=⟨rfl,rfl,rfl,by decide +kernel,rfl,by decide +kernel,by decide +kernel⟩
abbrev s__law_words:Stmt:=top 13
def sc__law_words:FnScope ["_law_hand", "_law_some", "_law_most", "_law_longest", "_law_words_here", "_law_k", "_law_at"] ["_law_hand", "_law_some", "_law_most", "_law_longest"] (defScope s__law_words):=⟨rfl,rfl,rfl,by decide +kernel,rfl,by decide +kernel,by decide +kernel⟩
abbrev s__law_signs:Stmt:=top 14
def sc__law_signs:FnScope ["_law_hand", "_law_many", "_law_begin", "_law_step", "_law_signs_here", "_law_at"] ["_law_hand", "_law_many"] (defScope s__law_signs):=⟨rfl,rfl,rfl,by decide +kernel,rfl,by decide +kernel,by decide +kernel⟩
abbrev s_TooMany___init__:Stmt:=inClass (top 3) 0
def sc_TooMany___init__:FnScope ["self", "most"] ["self", "most"] (defScope s_TooMany___init__):=⟨rfl,rfl,rfl,by decide +kernel,rfl,by decide +kernel,by decide +kernel⟩
abbrev s__law_any_words:Stmt:=top 15
def sc__law_any_words:FnScope ["_law_hand", "_law_some", "_law_words_here", "_law_k"] ["_law_hand", "_law_some"] (defScope s__law_any_words):=⟨rfl,rfl,rfl,by decide +kernel,rfl,by decide +kernel,by decide +kernel⟩
abbrev s__law_loose:Stmt:=top 16
def sc__law_loose:FnScope ["_law_hand", "_law_most", "_law_longest", "_law_some", "_law_way", "_law_words_here", "_law_one", "_law_other", "_law_more", "_law_at", "_law_signs_here"] ["_law_hand", "_law_most", "_law_longest"] (defScope s__law_loose):=⟨rfl,rfl,rfl,by decide +kernel,rfl,by decide +kernel,by decide +kernel⟩
abbrev s__law_wide:Stmt:=top 25
def sc__law_wide:FnScope ["_law_hand", "_law_begin", "_law_some", "_law_words_here", "_law_k", "_law_signs_here"] ["_law_hand"] (defScope s__law_wide):=⟨rfl,rfl,rfl,by decide +kernel,rfl,by decide +kernel,by decide +kernel⟩
abbrev s__law_rows:Stmt:=top 17
def sc__law_rows:FnScope ["_law_hand", "_law_table", "_law_most", "_law_row", "_law_k", "_law_way", "_law_at"] ["_law_hand", "_law_table", "_law_most"] (defScope s__law_rows):=⟨rfl,rfl,rfl,by decide +kernel,rfl,by decide +kernel,by decide +kernel⟩
abbrev s_pairs_at:Stmt:=top 5
def sc_pairs_at:FnScope ["table", "row", "place"] ["table", "row", "place"] (defScope s_pairs_at):=⟨rfl,rfl,rfl,by decide +kernel,rfl,by decide +kernel,by decide +kernel⟩
abbrev s_counts_from:Stmt:=top 6
def sc_counts_from:FnScope ["table", "row", "counts", "place"] ["table", "row"] (defScope s_counts_from):=⟨rfl,rfl,rfl,by decide +kernel,rfl,by decide +kernel,by decide +kernel⟩
abbrev s_one_sign_on:Stmt:=top 8
def sc_one_sign_on:FnScope ["table", "row", "begun", "counts", "further", "text", "place", "sign", "word"] ["table", "row", "begun", "counts"] (defScope s_one_sign_on):=⟨rfl,rfl,rfl,by decide +kernel,rfl,by decide +kernel,by decide +kernel⟩
abbrev s_all_readings:Stmt:=top 7
def sc_all_readings:FnScope ["table", "row", "most", "bytes_read", "counts", "told", "begun"] ["table", "row", "most"] (defScope s_all_readings):=⟨rfl,rfl,rfl,by decide +kernel,rfl,by decide +kernel,by decide +kernel⟩
abbrev s__law_whole:Stmt:=top 18
def sc__law_whole:FnScope ["_law_one"] ["_law_one"] (defScope s__law_whole):=⟨rfl,rfl,rfl,by decide +kernel,rfl,by decide +kernel,by decide +kernel⟩
abbrev s__law_texts:Stmt:=top 19
def sc__law_texts:FnScope ["_law_told_here", "_law_due", "_law_text", "_law_other"] ["_law_told_here", "_law_due"] (defScope s__law_texts):=⟨rfl,rfl,rfl,by decide +kernel,rfl,by decide +kernel,by decide +kernel⟩
abbrev s__law_counts:Stmt:=top 20
def sc__law_counts:FnScope ["_law_table", "_law_row", "_law_ways", "_law_at", "_law_sign", "_law_word"] ["_law_table", "_law_row"] (defScope s__law_counts):=⟨rfl,rfl,rfl,by decide +kernel,rfl,by decide +kernel,by decide +kernel⟩
abbrev s__law_all:Stmt:=top 21
def sc__law_all:FnScope ["_law_table", "_law_row", "_law_ways", "_law_texts_here", "_law_full", "_law_more", "_law_text", "_law_at", "_law_sign", "_law_word"] ["_law_table", "_law_row", "_law_ways"] (defScope s__law_all):=⟨rfl,rfl,rfl,by decide +kernel,rfl,by decide +kernel,by decide +kernel⟩
abbrev s__law_told:Stmt:=top 22
def sc__law_told:FnScope ["_law_table", "_law_row", "_law_most", "e"] ["_law_table", "_law_row", "_law_most"] (defScope s__law_told):=⟨rfl,rfl,rfl,by decide +kernel,rfl,by decide +kernel,by decide +kernel⟩
abbrev s__law_right:Stmt:=top 23
def sc__law_right:FnScope ["_law_table", "_law_row", "_law_most", "_law_count", "_law_due", "_law_pairs", "_law_handed", "_law_word", "_law_found", "_law_text"] ["_law_table", "_law_row", "_law_most", "_law_count", "_law_due"] (defScope s__law_right):=⟨rfl,rfl,rfl,by decide +kernel,rfl,by decide +kernel,by decide +kernel⟩
abbrev s__law_row_right:Stmt:=top 24
def sc__law_row_right:FnScope ["_law_hand", "_law_table", "_law_row", "_law_limit", "_law_ways", "_law_due", "_law_mosts", "_law_most"] ["_law_hand", "_law_table", "_law_row", "_law_limit"] (defScope s__law_row_right):=⟨rfl,rfl,rfl,by decide +kernel,rfl,by decide +kernel,by decide +kernel⟩
abbrev s_law:Stmt:=top 26
def sc_law:FnScope ["_law_script", "_law_tables", "_law_hand", "_law_one", "_law_many", "_law_lone", "_law_place", "_law_at", "_law_row", "_law_limit"] ["_law_script"] (defScope s_law):=⟨rfl,rfl,rfl,by decide +kernel,rfl,by decide +kernel,by decide +kernel⟩
structure Txt (mg:Str->Option Value):Prop where
 b_len:mg "len"=none
 b_abs:mg "abs"=none
 b_max:mg "max"=none
 b_min:mg "min"=none
 b_isinstance:mg "isinstance"=none
 b_all:mg "all"=none
 b_range:mg "range"=none
 b_int:mg "int"=none
 b_bool:mg "bool"=none
 b_tuple:mg "tuple"=none
 b_list:mg "list"=none
 b_sum:mg "sum"=none
 b_sorted:mg "sorted"=none
 b_zip:mg "zip"=none
 b_ValueError:mg "ValueError"=none
section
variable {P:Program} {w:World} {K:W.Frag} {mg:Str->Option Value} {base:Heap}
theorem ok__law_draw (T:Txt mg) {f:Addr} {fd:FuncData} (F:Fun K "_law_draw" "_law_draw" s__law_draw f fd):FnOk P w K mg base CX0 1 f fd ["_law_hand", "_law_many"] spDraw:=by
 refine F.ok sc__law_draw (fun vs H Q E h=>?_) (fun cdv A outer s H vs Q E hr h=>?_)
 ·obtain ⟨p,a,n,rfl,_⟩:=h
  rfl
 ·obtain ⟨p,a,n,rfl,hh,hn0,hn1,k⟩:=h
  obtain ⟨d,i,cs,e1,e2,hne,hlen,hd,hi,hc⟩:=hh.ex
  have npa:p≠a:=hh.ne
  have SC:=sc__law_draw
  have fin:∀ (r d' i':Int),0<=r->r < n->0<=d'->0<=i'->Q (.int r) (upd H p (.lst [.int d',.int i',.ref a])):=fun r d' i' h1 h2 h3 h4 =>
   k r _ h1 h2 ⟨d',i',cs,upd_same,by rw [upd_ne npa.symm]; exact e2,hne,hlen,h3,h4,hc⟩ (fun b o e nb=>by rw [upd_ne nb]; exact e) fun b nb=>by rw [upd_ne nb]
  refine ⟨_,(pss_cons (ps_if (pt_cmpR op_gt (pe_ix ix_list (pv 0) pe_int (fun _ _=>rfl)) pe_int (nomark _))
 (pss_cons (ps_set (i:=2) SC.nd rfl (Or.inl rfl) (pe_op op_mod (pe_ix ix_list (pv 0) pe_int (fun _ _=>rfl)) (pv 1)))
 (pss_cons (ps_asg (pe_op op_fdiv (pe_ix ix_list (pv 0) pe_int (fun _ _=>rfl)) (pv 1)) (pg_sub (pv 0) pe_int set_list))
 (pss_one (ps_ret (pv 2)))))
 pss_nil)
 (pss_cons (ps_augS (pv 0) pe_int pget_list pe_int ip_add set_list)
 (pss_cons (ps_set (i:=3) SC.nd rfl (Or.inl rfl) (pe_op op_mod (pe_ix ix_list (pe_ix ix_list (pv 0) pe_int (fun _ _=>rfl)) (pe_op op_mod (pe_ix ix_list (pv 0) pe_int (fun _ _=>rfl)) (pe_callB call_len (by rfl) T.b_len PySem.boot_len (pa_cons (pe_ix ix_list (pv 0) pe_int (fun _ _=>rfl)) pa_nil))) (fun _ _=>rfl)) pe_int))
 (pss_cons (ps_set (i:=4) SC.nd rfl (Or.inl rfl) (pe_op op_mod (pe_op op_add (pe_op op_add (pe_op op_mul (pv 3) pe_int) (pe_op op_mul (pe_ix ix_list (pv 0) pe_int (fun _ _=>rfl)) pe_int)) pe_int) pe_int))
 (pss_cons (ps_set (i:=4) SC.nd rfl (Or.inl rfl) (pe_op op_mod (pe_op op_add (pe_op op_mul (pv 4) (pv 4)) (pe_ix ix_list (pv 0) pe_int (fun _ _=>rfl))) pe_int))
 (pss_cons (ps_set (i:=4) SC.nd rfl (Or.inl rfl) (pe_op op_mod (pe_op op_add (pe_op op_mul (pv 4) pe_int) pe_int) pe_int))
 (pss_one (ps_ret (pe_op op_mod (pe_op op_fdiv (pe_op op_mod (pe_op op_mul (pv 4) (pv 4)) pe_int) pe_int) (pv 1)))))))))),?_⟩
  refine ⟨_,rfl,p,_,_,_,rfl,rfl,SqL.of e1,rfl,_,_,rfl,rfl,_,rfl,?_⟩
  refine ite2 (fun h0=>?_) (fun h0=>?_)
  ·refine ⟨_,rfl,p,_,_,_,rfl,rfl,SqL.of e1,rfl,_,rfl,_,_,rfl,rfl,hn0,?_⟩
   refine ⟨_,rfl,p,_,_,_,rfl,rfl,SqL.of e1,rfl,_,rfl,_,_,rfl,rfl,⟨hn0,hn1⟩,_,rfl,p,_,_,0,rfl,rfl,e1,rfl,?_⟩
   refine ⟨_,rfl,?_⟩
   exact fin _ _ _ (Int.emod_nonneg _ (by omega)) (Int.emod_lt_of_pos _ hn0) (Int.ediv_nonneg hd (by omega)) hi
  ·have e1':(upd H p (.lst [.int d,.int (i + 1),.ref a])) p=some (.lst [.int d,.int (i + 1),.ref a]):=upd_same
   have e2':(upd H p (.lst [.int d,.int (i + 1),.ref a])) a=some (.lst (cs.map V.int)):=by rw [upd_ne npa.symm]; exact e2
   obtain ⟨c,hc1,hc2⟩:=at_rest hne (i + 1)
   have hlp:(0:Int) < (((cs.map V.int).length:Nat):Int):=by
    rw [List.length_map]
    have:=List.length_pos_iff.mpr hne
    omega
   refine ⟨_,rfl,p,_,1,_,rfl,rfl,SqL.of e1,rfl,_,_,rfl,rfl,p,_,_,1,rfl,rfl,e1,rfl,?_⟩
   refine ⟨_,rfl,p,_,_,_,rfl,rfl,SqL.of e1',rfl,_,rfl,p,_,_,_,rfl,rfl,SqL.of e1',rfl,_,rfl,p,_,_,_,rfl,rfl,SqL.of e1',rfl,_,_,rfl,.inl ⟨_,SqL.of e2',rfl⟩,_,_,rfl,rfl,hlp,
    a,_,_,_,rfl,rfl,SqL.of e2',hc2,_,_,rfl,rfl,(by show (0:Int) < _; decide),?_⟩
   refine ⟨_,rfl,_,_,rfl,rfl,.inr ⟨by decide,by decide⟩,_,rfl,p,_,_,_,rfl,rfl,SqL.of e1',rfl,_,_,rfl,rfl,.inr ⟨by decide,by decide⟩,_,_,rfl,rfl,_,_,rfl,rfl,_,_,rfl,rfl,(by show (0:Int) < _; decide),?_⟩
   generalize hx:(c % 2147483647 * 48271 + (i + 1) * 7368787 + 11) % 998244353=x
   have x0:0<=x:=by rw [<- hx]; exact Int.emod_nonneg _ (by decide)
   have x1:x < 998244353:=by rw [<- hx]; exact Int.emod_lt_of_pos _ (by decide)
   refine ⟨_,rfl,_,rfl,_,_,rfl,rfl,.inl ⟨by omega,by omega⟩,_,rfl,p,_,_,_,rfl,rfl,SqL.of e1',rfl,_,_,rfl,rfl,_,_,rfl,rfl,(by show (0:Int) < _; decide),?_⟩
   generalize hy:(x * x + (i + 1)) % 998244353=y
   refine ⟨_,rfl,_,_,rfl,rfl,.inr ⟨by decide,by decide⟩,_,_,rfl,rfl,_,_,rfl,rfl,(by show (0:Int) < _; decide),?_⟩
   generalize hz:(y * 40503203 + 12345) % 2147483647=z
   have z0:0<=z:=by rw [<- hz]; exact Int.emod_nonneg _ (by decide)
   have z1:z < 2147483647:=by rw [<- hz]; exact Int.emod_lt_of_pos _ (by decide)
   refine ⟨_,rfl,_,rfl,_,_,rfl,rfl,.inl ⟨by omega,by omega⟩,_,_,rfl,rfl,(by show (0:Int) < _; decide),_,_,rfl,rfl,⟨by decide,by decide⟩,_,rfl,_,_,rfl,rfl,hn0,?_⟩
   exact fin _ _ _ (Int.emod_nonneg _ (by omega)) (Int.emod_lt_of_pos _ hn0) hd (by show 0<=i + 1; omega)
theorem ok__law_open (T:Txt mg) {f:Addr} {fd:FuncData} (F:Fun K "_law_open" "_law_open" s__law_open f fd):FnOk P w K mg base CX0 1 f fd ["_law_script", "_law_place"] (spOpen K):=by
 refine F.ok sc__law_open (fun vs H Q E h=>?_) (fun cdv A outer s H vs Q E hr h=>?_)
 ·obtain ⟨s,ns,i,rfl,_⟩:=h
  rfl
 ·obtain ⟨s0,ns,i,rfl,hS,hlen,hi0,hi1,k⟩:=h
  have SC:=sc__law_open
  have hu:=hr.units
  refine ⟨_,(pss_cons (ps_comp (i:=2) SC.nd rfl rfl (T:=["_law_cell"]) (cs:=[]) rfl (CScope.ok (by kernel_rfl)) (pi_list (pe_slice sl_list (pv 0) po_none (po_some pe_int))) (fun _ _ _ _=>(pg_name (i:=0) (nd_of (by kernel_rfl)) rfl (Or.inl rfl) (Or.inr rfl))) (fun _ _ _ _=>pts_nil) (fun _ _ _ _=>(pe_callB call_abs (by rfl) T.b_abs PyProof.Rows.boot_abs (pa_cons (pv 0) pa_nil))) (gk_name (by decide)))
 (pss_cons (ps_if (pt_cmpR (op_eqD hu) (pv 2) (pe_lst pa_nil) (nomark _))
 (pss_one (ps_set (i:=2) SC.nd rfl (Or.inl rfl) (pe_lst (pa_cons pe_int pa_nil))))
 pss_nil)
 (pss_cons (ps_set (i:=3) SC.nd rfl (Or.inl rfl) (pe_op op_mod (pv 1) (pe_callB call_len (by rfl) T.b_len PySem.boot_len (pa_cons (pv 2) pa_nil))))
 (pss_cons (ps_set (i:=4) SC.nd rfl (Or.inl rfl) pe_int)
 (pss_cons (ps_if (PW.pt (pw_and (pt_cmpR op_ge (pe_ix ix_list (pv 2) (pv 3) (fun _ _=>rfl)) (pe_op op_pow pe_int pe_int) (nomark _)) (pw_and1 (pt_cmpR op_lt (pv 1) (pe_callB call_len (by rfl) T.b_len PySem.boot_len (pa_cons (pv 2) pa_nil)) (nomark _)))))
 (pss_one (ps_set (i:=4) SC.nd rfl (Or.inl rfl) (pe_ix ix_list (pv 2) (pv 3) (fun _ _=>rfl))))
 pss_nil)
 (pss_one (ps_ret (pe_lst (pa_cons (pv 4) (pa_cons (pe_op op_add pe_int (pe_op op_mul pe_int (pv 1))) (pa_cons (pe_op op_cat (pe_slice sl_list (pv 2) (po_some (pv 3)) po_none) (pe_slice sl_list (pv 2) po_none (po_some (pv 3)))) pa_nil))))))))))),?_⟩
  obtain ⟨ms,ems,lms,_⟩:=cut_ints ns none (some 63)
  refine ⟨_,rfl,_,rfl,s0,_,rfl,hS,fun q hq=>⟨q,rfl,⟨_,SqL.of upd_same⟩,comp_by (n:=ms.length) (fun j ys H'=>∃ as:List Int,ys=as.map V.int/\as.length=j/\(∀ c∈as,0<=c)/\H'=upd H q (.lst (cutV (ns.map V.int) none (some 63))))
   ⟨[],rfl,rfl,fun _ h=>(nomatch h),rfl⟩ ?_ (small_line (by omega)) ?_ ?_ ?_ ?_⟩⟩
  ·rintro j ys H' ⟨as,rfl,rfl,_⟩
   rw [List.length_map]
   exact Nat.le_refl _
  ·rintro j ys H' hj ⟨as,rfl,rfl,_,rfl⟩
   refine ⟨_,.int (ms[as.length]'hj),SqL.of upd_same,?_⟩
   rw [ems,List.getElem?_map,List.getElem?_eq_getElem hj]
   rfl
  ·rintro ys H' ⟨as,rfl,hl,_,rfl⟩
   exact ⟨_,SqL.of upd_same,by rw [ems,List.length_map]; exact Nat.le_refl _⟩
  ·rintro j ys H' hj ⟨as,rfl,rfl,hp,rfl⟩ x H2 ⟨rfl,y⟩
   have hx:=y _ (SqL.of upd_same)
   rw [ems,List.getElem?_map,List.getElem?_eq_getElem hj] at hx
   cases hx
   refine ⟨_,rfl,_,rfl,as++[_],by rw [List.map_append]; rfl,by rw [List.length_append]; rfl,fun c hc=>?_,rfl⟩
   rcases List.mem_append.mp hc with z | z
   ·exact hp c z
   ·rw [List.mem_singleton.mp z]
    split <;> omega
  ·rintro ys H' ⟨as,rfl,hl,hp,rfl⟩ c0 hc0
   have s1:Same H (upd H q (.lst (cutV (ns.map V.int) none (some 63)))):=same_upd hq
   generalize upd H q (.lst (cutV (ns.map V.int) none (some 63)))=H1 at hc0 s1
   have s2:Same H (upd H1 c0 (.lst (as.map V.int))):=s1.trans (same_upd hc0)
   have n0:H c0=none:=s1.free hc0
   have e0:(upd H1 c0 (.lst (as.map V.int))) c0=some (.lst (as.map V.int)):=upd_same
   generalize upd H1 c0 (.lst (as.map V.int))=H2 at s2 e0
   have hla:as.length<=63:=by omega
   refine ⟨_,rfl,Nat.zero_le _,fun l hl=>⟨_,_,DV.lst (SqL.of ((same_upd hl) _ _ e0)) (dvs_ints as),DV.lst (SqL.of upd_same) .nil,(shp_ints as).shaped (by decide),(shp_ints []).shaped (by decide),_,rfl,?_⟩⟩
   rw [eqv_nil]
   have s3:Same H (upd H2 l (.lst [])):=s2.trans (same_upd hl)
   have e1:(upd H2 l (.lst [])) c0=some (.lst (as.map V.int)):=(same_upd hl) _ _ e0
   generalize upd H2 l (.lst [])=H3 at s3 e1
   refine ite2 (fun h0=>?_) (fun h0=>?_)
   ·refine ⟨by show 1<=sizeLine; decide,fun c1 hc1=>?_⟩
    have W:HC H (upd H3 c1 (.lst [.int 0])) c1:=⟨[0],s3.trans (same_upd hc1),s3.free hc1,upd_same,by simp,by decide,by simp⟩
    revert W
    generalize upd H3 c1 (.lst [.int 0])=H4
    intro W
    obtain ⟨as4,s4,n4,e4,hne,hl4,hp4⟩:=W
    obtain ⟨c,hc1,hc2⟩:=at_rest hne i
    obtain ⟨cs,ecs,ncs,lcs,mcs⟩:=spun hne i
    have hlp:(0:Int) < (((as4.map V.int).length:Nat):Int):=by
     rw [List.length_map]
     have:=List.length_pos_iff.mpr hne
     omega
    refine ⟨_,rfl,_,rfl,_,_,rfl,.inl ⟨_,SqL.of e4,rfl⟩,_,_,rfl,rfl,hlp,?_⟩
    refine ⟨_,rfl,_,rfl,_,_,_,_,rfl,rfl,SqL.of e4,hc2,_,_,rfl,rfl,⟨by decide,by decide,by decide⟩,_,_,rfl,rfl,_,rfl,?_⟩
    refine ite2 (fun _=>?_) (fun _=>?_)
    ·refine ⟨_,rfl,_,rfl,_,_,rfl,.inl ⟨_,SqL.of e4,rfl⟩,_,_,rfl,rfl,_,rfl,?_⟩
     refine ite2 (fun _=>?_) (fun _=>?_)
     ·refine ⟨_,rfl,_,rfl,_,_,_,_,rfl,rfl,SqL.of e4,hc2,?_⟩
      exact ⟨_,rfl,_,rfl,_,_,rfl,rfl,.inl ⟨by decide,by decide⟩,_,_,rfl,rfl,_,rfl,_,rfl,_,rfl,_,_,rfl,SqL.of e4,fun l1 hl1=>⟨_,rfl,_,rfl,_,rfl,_,_,rfl,SqL.of ((same_upd hl1) _ _ e4),fun l2 hl2 =>
       ⟨l1,l2,_,_,rfl,rfl,(same_upd hl2) _ _ upd_same,upd_same,by rw [<- List.length_append,ecs,List.length_map]; exact small_line (by omega),fun l3 hl3=>⟨by show 3<=sizeLine; decide,fun p hp =>
        k p l3 _ (s4.free ((same_upd hl1).free ((same_upd hl2).free ((same_upd hl3).free hp)))) (s4.free ((same_upd hl1).free ((same_upd hl2).free hl3)))
         ⟨_,_,cs,upd_same,by rw [<- ecs]; exact (same_upd hp) _ _ upd_same,ncs,by omega,by first | exact hp4 _ hc1 | decide,by omega,fun x hx=>hp4 x (mcs x hx)⟩
         (((s4.trans (same_upd hl1)).trans (same_upd hl2)).trans ((same_upd hl3).trans (same_upd hp)))⟩⟩⟩⟩
     ·exact ⟨_,rfl,_,rfl,_,_,rfl,rfl,.inl ⟨by decide,by decide⟩,_,_,rfl,rfl,_,rfl,_,rfl,_,rfl,_,_,rfl,SqL.of e4,fun l1 hl1=>⟨_,rfl,_,rfl,_,rfl,_,_,rfl,SqL.of ((same_upd hl1) _ _ e4),fun l2 hl2 =>
       ⟨l1,l2,_,_,rfl,rfl,(same_upd hl2) _ _ upd_same,upd_same,by rw [<- List.length_append,ecs,List.length_map]; exact small_line (by omega),fun l3 hl3=>⟨by show 3<=sizeLine; decide,fun p hp =>
        k p l3 _ (s4.free ((same_upd hl1).free ((same_upd hl2).free ((same_upd hl3).free hp)))) (s4.free ((same_upd hl1).free ((same_upd hl2).free hl3)))
         ⟨_,_,cs,upd_same,by rw [<- ecs]; exact (same_upd hp) _ _ upd_same,ncs,by omega,by first | exact hp4 _ hc1 | decide,by omega,fun x hx=>hp4 x (mcs x hx)⟩
         (((s4.trans (same_upd hl1)).trans (same_upd hl2)).trans ((same_upd hl3).trans (same_upd hp)))⟩⟩⟩⟩
    ·refine iteF ?_
     exact ⟨_,rfl,_,rfl,_,_,rfl,rfl,.inl ⟨by decide,by decide⟩,_,_,rfl,rfl,_,rfl,_,rfl,_,rfl,_,_,rfl,SqL.of e4,fun l1 hl1=>⟨_,rfl,_,rfl,_,rfl,_,_,rfl,SqL.of ((same_upd hl1) _ _ e4),fun l2 hl2 =>
       ⟨l1,l2,_,_,rfl,rfl,(same_upd hl2) _ _ upd_same,upd_same,by rw [<- List.length_append,ecs,List.length_map]; exact small_line (by omega),fun l3 hl3=>⟨by show 3<=sizeLine; decide,fun p hp =>
        k p l3 _ (s4.free ((same_upd hl1).free ((same_upd hl2).free ((same_upd hl3).free hp)))) (s4.free ((same_upd hl1).free ((same_upd hl2).free hl3)))
         ⟨_,_,cs,upd_same,by rw [<- ecs]; exact (same_upd hp) _ _ upd_same,ncs,by omega,by first | exact hp4 _ hc1 | decide,by omega,fun x hx=>hp4 x (mcs x hx)⟩
         (((s4.trans (same_upd hl1)).trans (same_upd hl2)).trans ((same_upd hl3).trans (same_upd hp)))⟩⟩⟩⟩
   ·have W:HC H H3 c0:=⟨as,s3,n0,e1,by simpa using h0,hla,hp⟩
    obtain ⟨as4,s4,n4,e4,hne,hl4,hp4⟩:=W
    obtain ⟨c,hc1,hc2⟩:=at_rest hne i
    obtain ⟨cs,ecs,ncs,lcs,mcs⟩:=spun hne i
    have hlp:(0:Int) < (((as4.map V.int).length:Nat):Int):=by
     rw [List.length_map]
     have:=List.length_pos_iff.mpr hne
     omega
    refine ⟨_,rfl,_,rfl,_,_,rfl,.inl ⟨_,SqL.of e4,rfl⟩,_,_,rfl,rfl,hlp,?_⟩
    refine ⟨_,rfl,_,rfl,_,_,_,_,rfl,rfl,SqL.of e4,hc2,_,_,rfl,rfl,⟨by decide,by decide,by decide⟩,_,_,rfl,rfl,_,rfl,?_⟩
    refine ite2 (fun _=>?_) (fun _=>?_)
    ·refine ⟨_,rfl,_,rfl,_,_,rfl,.inl ⟨_,SqL.of e4,rfl⟩,_,_,rfl,rfl,_,rfl,?_⟩
     refine ite2 (fun _=>?_) (fun _=>?_)
     ·refine ⟨_,rfl,_,rfl,_,_,_,_,rfl,rfl,SqL.of e4,hc2,?_⟩
      exact ⟨_,rfl,_,rfl,_,_,rfl,rfl,.inl ⟨by decide,by decide⟩,_,_,rfl,rfl,_,rfl,_,rfl,_,rfl,_,_,rfl,SqL.of e4,fun l1 hl1=>⟨_,rfl,_,rfl,_,rfl,_,_,rfl,SqL.of ((same_upd hl1) _ _ e4),fun l2 hl2 =>
       ⟨l1,l2,_,_,rfl,rfl,(same_upd hl2) _ _ upd_same,upd_same,by rw [<- List.length_append,ecs,List.length_map]; exact small_line (by omega),fun l3 hl3=>⟨by show 3<=sizeLine; decide,fun p hp =>
        k p l3 _ (s4.free ((same_upd hl1).free ((same_upd hl2).free ((same_upd hl3).free hp)))) (s4.free ((same_upd hl1).free ((same_upd hl2).free hl3)))
         ⟨_,_,cs,upd_same,by rw [<- ecs]; exact (same_upd hp) _ _ upd_same,ncs,by omega,by first | exact hp4 _ hc1 | decide,by omega,fun x hx=>hp4 x (mcs x hx)⟩
         (((s4.trans (same_upd hl1)).trans (same_upd hl2)).trans ((same_upd hl3).trans (same_upd hp)))⟩⟩⟩⟩
     ·exact ⟨_,rfl,_,rfl,_,_,rfl,rfl,.inl ⟨by decide,by decide⟩,_,_,rfl,rfl,_,rfl,_,rfl,_,rfl,_,_,rfl,SqL.of e4,fun l1 hl1=>⟨_,rfl,_,rfl,_,rfl,_,_,rfl,SqL.of ((same_upd hl1) _ _ e4),fun l2 hl2 =>
       ⟨l1,l2,_,_,rfl,rfl,(same_upd hl2) _ _ upd_same,upd_same,by rw [<- List.length_append,ecs,List.length_map]; exact small_line (by omega),fun l3 hl3=>⟨by show 3<=sizeLine; decide,fun p hp =>
        k p l3 _ (s4.free ((same_upd hl1).free ((same_upd hl2).free ((same_upd hl3).free hp)))) (s4.free ((same_upd hl1).free ((same_upd hl2).free hl3)))
         ⟨_,_,cs,upd_same,by rw [<- ecs]; exact (same_upd hp) _ _ upd_same,ncs,by omega,by first | exact hp4 _ hc1 | decide,by omega,fun x hx=>hp4 x (mcs x hx)⟩
         (((s4.trans (same_upd hl1)).trans (same_upd hl2)).trans ((same_upd hl3).trans (same_upd hp)))⟩⟩⟩⟩
    ·refine iteF ?_
     exact ⟨_,rfl,_,rfl,_,_,rfl,rfl,.inl ⟨by decide,by decide⟩,_,_,rfl,rfl,_,rfl,_,rfl,_,rfl,_,_,rfl,SqL.of e4,fun l1 hl1=>⟨_,rfl,_,rfl,_,rfl,_,_,rfl,SqL.of ((same_upd hl1) _ _ e4),fun l2 hl2 =>
       ⟨l1,l2,_,_,rfl,rfl,(same_upd hl2) _ _ upd_same,upd_same,by rw [<- List.length_append,ecs,List.length_map]; exact small_line (by omega),fun l3 hl3=>⟨by show 3<=sizeLine; decide,fun p hp =>
        k p l3 _ (s4.free ((same_upd hl1).free ((same_upd hl2).free ((same_upd hl3).free hp)))) (s4.free ((same_upd hl1).free ((same_upd hl2).free hl3)))
         ⟨_,_,cs,upd_same,by rw [<- ecs]; exact (same_upd hp) _ _ upd_same,ncs,by omega,by first | exact hp4 _ hc1 | decide,by omega,fun x hx=>hp4 x (mcs x hx)⟩
         (((s4.trans (same_upd hl1)).trans (same_upd hl2)).trans ((same_upd hl3).trans (same_upd hp)))⟩⟩⟩⟩
theorem ok__law_bytes (T:Txt mg) (C__law_draw:Cal P w K mg base "_law_draw" 1 ["_law_hand", "_law_many"] spDraw) {f:Addr} {fd:FuncData} (F:Fun K "_law_bytes" "_law_bytes" s__law_bytes f fd):FnOk P w K mg base CX0 2 f fd ["_law_hand", "_law_most"] spBytes:=by
 refine F.ok sc__law_bytes (fun vs H Q E h=>?_) (fun cdv A outer s H vs Q E hr h=>?_)
 ·obtain ⟨p,a,m,rfl,_⟩:=h
  rfl
 ·obtain ⟨p,a,m,rfl,hh,hm1,hm2,k⟩:=h
  have SC:=sc__law_bytes
  have hr__law_draw:Room 1 _:=hr.mono (by decide)
  refine ⟨_,(pss_cons (ps_set (i:=2) SC.nd rfl (Or.inr rfl) (pe_cal C__law_draw hr__law_draw rfl (pa_cons (pv 0) (pa_cons pe_int pa_nil))))
 (pss_cons (ps_set (i:=3) SC.nd rfl (Or.inr rfl) (pe_op op_add pe_int (pe_cal C__law_draw hr__law_draw rfl (pa_cons (pv 0) (pa_cons pe_int pa_nil)))))
 (pss_one (ps_ret (pe_comp (T:=["_law_k"]) (cs:=[2,3]) rfl (CScope.ok (by kernel_rfl)) (pi_range1 rfl T.b_range (pa_cons (pe_op op_add pe_int (pe_cal C__law_draw hr__law_draw rfl (pa_cons (pv 0) (pa_cons (pe_op op_sub (pv 1) pe_int) pa_nil)))) pa_nil)) (fun _ _ _ _=>(pg_name (i:=0) (nd_of (by kernel_rfl)) rfl (Or.inl rfl) (Or.inr rfl))) (fun _ _ _ _=>pts_nil) (fun _ _ _ _=>(pe_op op_mod (pe_op op_add (pv 1) (pe_op op_mul (pv 2) (pv 0))) pe_int)) (gk_name (by decide))))))),?_⟩
  refine ⟨_,rfl,p,a,_,rfl,hh,by decide,by decide,fun b0 H1 b00 b01 h1 g1 u1=>?_⟩
  refine ⟨_,rfl,p,a,_,rfl,h1,by decide,by decide,fun s0 H2 s00 s01 h2 g2 u2=>⟨_,_,rfl,rfl,?_⟩⟩
  refine ⟨_,rfl,_,rfl,_,_,rfl,rfl,p,a,_,rfl,h2,by omega,by omega,fun n0 H3 n00 n01 h3 g3 u3=>⟨_,_,rfl,rfl,(2 + n0),rfl,by omega,by omega,comp_by (n:=(2 + n0).toNat)
   (fun j ys H'=>H'=H3/\ys=((List.range j).map fun k:Nat=>(b0 + (1 + s0) * (k:Int)) % 256).map V.int) ⟨rfl,rfl⟩ ?_ (small_line (by omega)) ?_ ?_ ?_ ?_⟩⟩
  ·rintro j ys H' ⟨rfl,rfl⟩
   rw [List.length_map,List.length_map,List.length_range]
   exact Nat.le_refl _
  ·rintro j ys H' hj _
   exact hj
  ·rintro ys H' _
   exact Nat.le_refl _
  ·rintro j ys H' hj ⟨rfl,rfl⟩ x H4 ⟨rfl,rfl⟩
   refine ⟨_,rfl,_,rfl,_,rfl,_,_,rfl,rfl,.inl ⟨by omega,by omega⟩,_,_,rfl,rfl,_,_,rfl,rfl,(by show (0:Int) < _; decide),rfl,?_⟩
   rw [List.range_succ,List.map_append,List.map_append,Int.zero_add]
   rfl
  ·rintro ys H' ⟨rfl,rfl⟩ l hl
   obtain ⟨_,_,_,ep,_⟩:=h3.ex
   have nl:l≠p:=Ne.symm (ne_of_none ep hl)
   have g:=(g1.trans g2).trans g3
   refine k l _ _ (g.free hl nl) nl upd_same (steps_nodup (by omega) ?_) ?_ ?_ (fun b hb=>?_) (h3.same (same_upd hl)) (g.trans (Grow.same (same_upd hl)))
   ·have:((2 + n0).toNat:Int)=2 + n0:=by omega
    rw [this]
    have h4:(1 + s0) * (2 + n0)<=(1 + s0) * 4:=Int.mul_le_mul_of_nonneg_left (by omega) (by omega)
    omega
   ·rw [List.length_map,List.length_range]; omega
   ·rw [List.length_map,List.length_range]; omega
   ·obtain ⟨i,_,rfl⟩:=List.mem_map.mp hb
    exact ⟨Int.emod_nonneg _ (by decide),Int.emod_lt_of_pos _ (by decide)⟩
def bn_split {bs:List Int} {ws:List (List Int)} {n:Nat} (h:∀ w∈ws,∀ b∈w,b∈bs) (hn:n < ws.length):∀ w∈ws.take n++(bs.map fun b=>ws[n]++[b])++ws.drop (n + 1),∀ b∈w,b∈bs:=fun w hw b hb=>by
 rcases List.mem_append.mp hw with z | z
 ·rcases List.mem_append.mp z with z | z
  ·exact h w (List.mem_of_mem_take z) b hb
  ·obtain ⟨c,hc,rfl⟩:=List.mem_map.mp z
   rcases List.mem_append.mp hb with y | y
   ·exact h _ (List.getElem_mem hn) b y
   ·rw [List.mem_singleton.mp y]; exact hc
 ·exact h w (List.mem_of_mem_drop z) b hb
theorem ok__law_words (T:Txt mg) (C__law_draw:Cal P w K mg base "_law_draw" 1 ["_law_hand", "_law_many"] spDraw) {f:Addr} {fd:FuncData} (F:Fun K "_law_words" "_law_words" s__law_words f fd):FnOk P w K mg base CX0 2 f fd ["_law_hand", "_law_some", "_law_most", "_law_longest"] spWordsB:=by
 refine F.ok sc__law_words (fun vs H Q E h=>?_) (fun cdv A outer s H vs Q E hr h=>?_)
 ·obtain ⟨p,a,sa,m,lg,bs,rfl,_⟩:=h
  rfl
 ·obtain ⟨p,a,sa,m,lg,bs,rfl,hh,es,nsp,nd,hne,hl,hm1,hm2,hg1,hg2,k⟩:=h
  have SC:=sc__law_words
  have hr__law_draw:Room 1 _:=hr.mono (by decide)
  have hlp:0 < bs.length:=List.length_pos_iff.mpr hne
  refine ⟨_,(pss_cons (ps_set (i:=4) SC.nd rfl (Or.inr rfl) (pe_comp (T:=["_law_one"]) (cs:=[]) rfl (CScope.ok (by kernel_rfl)) (pi_list (pv 1)) (fun _ _ _ _=>(pg_name (i:=0) (nd_of (by kernel_rfl)) rfl (Or.inl rfl) (Or.inr rfl))) (fun _ _ _ _=>pts_nil) (fun _ _ _ _=>(pe_tup (pa_cons (pv 0) pa_nil))) (gk_name (by decide))))
 (pss_cons (ps_for PassesOwn.never rfl (pi_range1 rfl T.b_range (pa_cons (pe_cal C__law_draw hr__law_draw rfl (pa_cons (pv 0) (pa_cons (pe_op op_add (pv 2) pe_int) pa_nil))) pa_nil)) (pg_name (i:=5) SC.nd rfl (Or.inl rfl))
 (pss_cons (ps_set (i:=6) SC.nd rfl (Or.inr rfl) (pe_op op_mod (pe_cal C__law_draw hr__law_draw rfl (pa_cons (pv 0) (pa_cons pe_int pa_nil))) (pe_callB call_len (by rfl) T.b_len PySem.boot_len (pa_cons (pv 4) pa_nil))))
 (pss_one (ps_if (pt_cmpR op_lt (pe_callB call_len (by rfl) T.b_len PySem.boot_len (pa_cons (pe_ix ix_list (pv 4) (pv 6) (fun _ _=>rfl)) pa_nil)) (pv 3) (nomark _))
 (pss_one (ps_set (i:=4) SC.nd rfl (Or.inr rfl) (pe_op op_cat (pe_op op_cat (pe_slice sl_list (pv 4) po_none (po_some (pv 6))) (pe_comp (T:=["_law_one"]) (cs:=[4,6]) rfl (CScope.ok (by kernel_rfl)) (pi_list (pv 1)) (fun _ _ _ _=>(pg_name (i:=0) (nd_of (by kernel_rfl)) rfl (Or.inl rfl) (Or.inr rfl))) (fun _ _ _ _=>pts_nil) (fun _ _ _ _=>(pe_op (bk_catT (K:=K) rfl) (pe_ix (bk_ixl (K:=K) rfl) (pv 1) (pv 2) (fun _ _=>rfl)) (pe_tup (pa_cons (pv 0) pa_nil)))) (gk_name (by decide)))) (pe_slice sl_list (pv 4) (po_some (pe_op op_add (pv 6) pe_int)) po_none))))
 pss_nil))))
 (pss_one (ps_ret (pe_comp (T:=["_law_word"]) (cs:=[0]) rfl (CScope.ok (by kernel_rfl)) (pi_list (pv 4)) (fun _ _ _ _=>(pg_name (i:=0) (nd_of (by kernel_rfl)) rfl (Or.inl rfl) (Or.inr rfl))) (fun _ _ _ _=>(pts_one (pt_cmpR op_gt (pe_cal C__law_draw hr__law_draw rfl (pa_cons (pv 1) (pa_cons pe_int pa_nil))) pe_int (nomark _)))) (fun _ _ _ _=>(pv 0)) (gk_name (by decide))))))),?_⟩
  refine ⟨_,rfl,sa,rfl,⟨_,SqL.of es⟩,comp_by (n:=bs.length) (fun j ys H'=>ys.length=j/\Same H H'/\Words H' ys ((bs.map fun b=>[b]).take j)) ⟨rfl,.refl _,by rw [List.take_zero]; exact .nil⟩ ?_ (small_line (by omega)) ?_ ?_ ?_ ?_⟩
  ·rintro j ys H' ⟨e,_⟩
   exact Nat.le_of_eq e
  ·rintro j ys H' hj ⟨_,s1,_⟩
   exact itl_go (s1 _ _ es) (by rw [List.length_map]; exact hj)
  ·rintro ys H' ⟨_,s1,_⟩
   exact itl_stop (s1 _ _ es) (by rw [List.length_map]; exact Nat.le_refl _)
  ·rintro j ys H' hj ⟨e,s1,w1⟩ y H'' hy
   obtain ⟨rfl,rfl⟩:=itl_yld (s1 _ _ es) (by rw [List.length_map]; exact hj) hy
   refine ⟨_,rfl,by show 1<=sizeLine; decide,fun q hq=>⟨by rw [List.length_append,e]; rfl,s1.trans (same_upd hq),?_⟩⟩
   rw [List.take_succ_eq_append_getElem (by rw [List.length_map]; exact hj)]
   refine L2.Paired.snoc ⟨q,rfl,?_⟩ (Words.tk w1 (same_upd hq).tk)
   rw [upd_same,List.getElem_map,List.getElem_map]
   rfl
  ·rintro ys H1 ⟨e,s1,w1⟩ wl hwl
   rw [<- List.length_map (f:=fun b:Int=>[b]),List.take_length] at w1
   have s2:=s1.trans (same_upd (o:=.lst ys) hwl)
   have w2:=Words.tk w1 (same_upd (o:=.lst ys) hwl).tk
   have e2:(upd H1 wl (.lst ys)) wl=some (.lst ys):=upd_same
   obtain ⟨_,ep⟩:=hand_of hh
   have nwp:wl≠p:=Ne.symm (ne_of_none (s1 _ _ ep) hwl)
   have nw0:H wl=none:=s1.free hwl
   generalize upd H1 wl (.lst ys)=H2 at s2 w2 e2
   refine ⟨_,rfl,_,rfl,_,_,rfl,rfl,p,a,_,rfl,hh.same s2,by omega,by omega,fun n0 H3 n00 n01 h3 g3 u3=>?_⟩
   have inv0:WOk (bs.map fun b=>[b]):=ones_pf nd
   refine ⟨n0,rfl,by omega,by omega,for_range (n:=n0.toNat) (fun j σ H'=>∃ wl ws v1 v2,σ=[some (.ref p),some (.ref sa),some (.int m),some (.int lg),some (.ref wl),v1,v2]/\H wl=none/\wl≠p/\WordsAt H' wl ws/\WOk ws/\(∀ w∈ws,∀ b∈w,b∈bs)/\ws≠[]/\ws.length<=bs.length + j * bs.length/\HandAt H' p a/\Grow p H H')
    ⟨wl,_,_,_,rfl,nw0,nwp,⟨ys,by rw [u3 wl nwp]; exact e2,Words.tk w2 (g3.tk (s2 _ _ ep))⟩,inv0,(fun w hw b hb=>by obtain ⟨c,hc,rfl⟩:=List.mem_map.mp hw; rw [List.mem_singleton.mp hb]; exact hc),by simpa using hne,by rw [List.length_map]; omega,h3,(Grow.same s2).trans g3⟩ ?_ ?_⟩
   ·rintro j σ H4 hj ⟨wl,ws,v1,v2,rfl,nw0,nwp,⟨vs,e4,w4⟩,ok4,bn4,ne4,l4,h4,g4⟩
    have lv:=Paired.length w4
    have lp:0 < vs.length:=by rw [lv]; exact List.length_pos_iff.mpr ne4
    have hjb:j * bs.length<=6 * 24:=Nat.mul_le_mul (by omega) hl
    refine ⟨_,rfl,p,a,_,rfl,h4,by decide,by decide,fun r H5 r0 r1 h5 g5 u5=>?_⟩
    have e5:H5 wl=some (.lst vs):=by rw [u5 wl nwp]; exact e4
    obtain ⟨_,ep4⟩:=hand_of h4
    have w5:=Words.tk w4 (g5.tk ep4)
    have es5:H5 sa=some (.lst (bs.map V.int)):=(g4.trans g5) _ _ es nsp
    refine ⟨_,rfl,_,_,rfl,.inl ⟨_,SqL.of e5,rfl⟩,_,_,rfl,rfl,(by show (0:Int) < _; omega),?_⟩
    have r2:0<=r % (vs.length:Int):=Int.emod_nonneg _ (by omega)
    have r3:r % (vs.length:Int) < vs.length:=Int.emod_lt_of_pos _ (by omega)
    obtain ⟨n,en0⟩:=Int.eq_ofNat_of_zero_le r2
    have hn:n < vs.length:=by omega
    obtain ⟨hn2,t,ev,et⟩:=Words.take1 w5 hn
    have atn:atI vs (r % (vs.length:Int))=some (.ref t):=by rw [en0,<- ev]; exact atI_nat (List.getElem?_eq_getElem hn)
    have cut1:cutV vs none (some (r % (vs.length:Int)))=vs.take n:=by rw [en0,cut_to (by omega) (by omega),Int.toNat_natCast]
    have cut2:cutV vs (some (r % (vs.length:Int) + 1)) none=vs.drop (n + 1):=by rw [en0,cut_from (by omega) (by omega)]; congr 1
    refine ⟨_,rfl,_,rfl,wl,_,_,_,rfl,rfl,SqL.of e5,atn,_,_,rfl,.inr ⟨_,SqT.of et,rfl⟩,_,rfl,_,_,rfl,rfl,_,rfl,?_⟩
    refine ite2 (fun hlt=>?_) (fun hlt=>?_)
    ·have hlt':((ws[n].map V.int).length:Int) < lg:=of_decide_eq_true hlt
     rw [List.length_map] at hlt'
     refine ⟨_,rfl,_,rfl,_,rfl,wl,_,rfl,SqL.of e5,fun q1 hq1=>?_⟩
     rw [cut1]
     have s6:=same_upd (o:=.lst (vs.take n)) hq1
     have e61:(upd H5 q1 (.lst (vs.take n))) q1=_:=upd_same
     have nq1:q1≠p:=by obtain ⟨_,ep5⟩:=hand_of h5; exact Ne.symm (ne_of_none ep5 hq1)
     generalize upd H5 q1 (.lst (vs.take n))=H6 at s6 e61
     refine ⟨_,rfl,sa,rfl,⟨_,SqL.of (s6 _ _ es5)⟩,comp_by (n:=bs.length) (fun j ys H'=>ys.length=j/\Same H6 H'/\Words H' ys ((bs.map fun b=>ws[n]++[b]).take j)) ⟨rfl,.refl _,by rw [List.take_zero]; exact .nil⟩ ?_ (small_line (by omega)) ?_ ?_ ?_ ?_⟩
     ·rintro j ys H' ⟨e,_⟩
      exact Nat.le_of_eq e
     ·rintro j ys H' hj ⟨_,s1,_⟩
      exact itl_go (s1 _ _ (s6 _ _ es5)) (by rw [List.length_map]; exact hj)
     ·rintro ys H' ⟨_,s1,_⟩
      exact itl_stop (s1 _ _ (s6 _ _ es5)) (by rw [List.length_map]; exact Nat.le_refl _)
     ·rintro j ys H' hj ⟨e,s1,w1⟩ y H'' hy
      obtain ⟨rfl,rfl⟩:=itl_yld (s1 _ _ (s6 _ _ es5)) (by rw [List.length_map]; exact hj) hy
      have et':=s1 _ _ (s6 _ _ et)
      refine ⟨_,rfl,_,rfl,wl,_,_,_,rfl,rfl,SqL.of (s1 _ _ (s6 _ _ e5)),atn,_,rfl,by show 1<=sizeLine; decide,fun q hq=>?_⟩
      have sq:=same_upd (o:=.tup [(bs.map V.int)[j]'(by rw [List.length_map]; exact hj)]) hq
      refine ⟨t,q,_,_,rfl,rfl,SqT.of (sq _ _ et'),SqT.of upd_same,?_,?_,fun z=>absurd z (by simp),fun _ q2 hq2=>?_⟩
      ·have:=(ok4.2 ws[n] (List.getElem_mem hn2)).1
       simpa using this
      ·rw [List.length_map]; show ws[n].length + 1<=sizeLine; exact Nat.le_trans (by omega:ws[n].length + 1<=10) (by decide)
      ·refine ⟨by rw [List.length_append,e]; rfl,(s1.trans sq).trans (same_upd hq2),?_⟩
       rw [List.take_succ_eq_append_getElem (by rw [List.length_map]; exact hj)]
       refine L2.Paired.snoc ⟨q2,rfl,?_⟩ (Words.tk w1 (sq.tk.trans (same_upd hq2).tk))
       rw [upd_same,List.getElem_map,List.getElem_map,List.map_append]
       rfl
     ·rintro ys H7 ⟨e,s7,w7⟩ q3 hq3
      rw [<- List.length_map (f:=fun b:Int=>ws[n]++[b]),List.take_length] at w7
      have s8:=s6.trans (s7.trans (same_upd (o:=.lst ys) hq3))
      have e8:(upd H7 q3 (.lst ys)) q3=some (.lst ys):=upd_same
      have e81:=(s7.trans (same_upd (o:=.lst ys) hq3)) _ _ e61
      have w8:=Words.tk w7 (same_upd (o:=.lst ys) hq3).tk
      generalize upd H7 q3 (.lst ys)=H8 at s8 e8 e81 w8
      have ly:ys.length=bs.length:=by rw [Paired.length w8,List.length_map]
      refine ⟨q1,q3,_,_,rfl,rfl,e81,e8,?_,fun q4 hq4=>?_⟩
      ·rw [List.length_take,ly]; exact small_line (by omega)
      have s9:=s8.trans (same_upd (o:=.lst (vs.take n++ys)) hq4)
      have e9:(upd H8 q4 (.lst (vs.take n++ys))) q4=_:=upd_same
      have w9:=Words.tk w8 (same_upd (o:=.lst (vs.take n++ys)) hq4).tk
      generalize upd H8 q4 (.lst (vs.take n++ys))=H9 at s9 e9 w9
      refine ⟨_,rfl,_,rfl,_,_,rfl,rfl,_,rfl,wl,_,rfl,SqL.of (s9 _ _ e5),fun q5 hq5=>?_⟩
      rw [cut2]
      have s10:=s9.trans (same_upd (o:=.lst (vs.drop (n + 1))) hq5)
      have e10:(upd H9 q5 (.lst (vs.drop (n + 1)))) q5=_:=upd_same
      have e104:=same_upd (o:=.lst (vs.drop (n + 1))) hq5 _ _ e9
      have w10:=Words.tk w9 (same_upd (o:=.lst (vs.drop (n + 1))) hq5).tk
      generalize upd H9 q5 (.lst (vs.drop (n + 1)))=H10 at s10 e10 e104 w10
      refine ⟨q4,q5,_,_,rfl,rfl,e104,e10,?_,fun q6 hq6=>?_⟩
      ·rw [List.length_append,List.length_take,List.length_drop,ly]; exact small_line (by omega)
      have s11:=s10.trans (same_upd (o:=.lst (vs.take n++ys++vs.drop (n + 1))) hq6)
      have w11:=Words.tk w10 (same_upd (o:=.lst (vs.take n++ys++vs.drop (n + 1))) hq6).tk
      have hsp:ws=ws.take n++ws[n]::ws.drop (n + 1):=by
       rw [<- List.drop_eq_getElem_cons hn2,List.take_append_drop]
      have ok11:WOk (ws.take n++(bs.map fun b=>ws[n]++[b])++ws.drop (n + 1)):=pf_split nd (hsp ▸ ok4) (by omega)
      have ws5:=Words.tk w5 s11.tk
      obtain ⟨_,ep5⟩:=hand_of h5
      have nq6:q6≠p:=Ne.symm (ne_of_none (s10 _ _ ep5) hq6)
      refine ⟨q6,_,_,_,rfl,?_,nq6,⟨_,upd_same,L2.Paired.app (L2.Paired.drp (n + 1) ws5) (L2.Paired.app w11 (L2.Paired.tak n ws5))⟩,ok11,bn_split bn4 hn2,?_,?_,h5.same s11,(g4.trans g5).trans (Grow.same s11)⟩
      ·exact (g4.trans g5).free (s10.free hq6) nq6
      ·intro z
       have:=congrArg List.length z
       simp only [List.length_append,List.length_map,List.length_nil] at this
       omega
      ·rw [List.length_append,List.length_append,List.length_take,List.length_drop,List.length_map,Nat.add_mul,Nat.one_mul]
       omega
    ·refine ⟨wl,ws,_,_,rfl,nw0,nwp,⟨vs,e5,w5⟩,ok4,bn4,ne4,?_,h5,g4.trans g5⟩
     rw [Nat.add_mul]
     omega
   ·rintro σ H4 ⟨wl,ws,v1,v2,rfl,nw0,nwp,⟨vs,e4,w4⟩,ok4,bn4,ne4,l4,h4,g4⟩
    have lv:=Paired.length w4
    have lb:ws.length<=200:=by
     have:n0.toNat * bs.length<=6 * 24:=Nat.mul_le_mul (by omega) hl
     omega
    refine ⟨_,rfl,wl,rfl,⟨_,SqL.of e4⟩,comp_by (n:=vs.length) (fun j ys H'=>∃ us:List (List Int),Words H' ys us/\us.Sublist (ws.take j)/\HandAt H' p a/\Grow p H4 H') ⟨[],.nil,List.nil_sublist _,h4,Grow.refl _ _⟩ ?_ (small_line (by omega)) ?_ ?_ ?_ ?_⟩
    ·rintro j ys H' ⟨us,w1,sb,_⟩
     have:=sb.length_le
     rw [List.length_take] at this
     rw [Paired.length w1]
     omega
    ·rintro j ys H' hj ⟨us,w1,sb,h1,g1⟩
     exact itl_go (g1 _ _ e4 nwp) hj
    ·rintro ys H' ⟨us,w1,sb,h1,g1⟩
     exact itl_stop (g1 _ _ e4 nwp) (Nat.le_refl _)
    ·rintro j ys H' hj ⟨us,w1,sb,h1,g1⟩ y H'' hy
     obtain ⟨rfl,rfl⟩:=itl_yld (g1 _ _ e4 nwp) hj hy
     refine ⟨_,rfl,p,a,_,rfl,h1,by decide,by decide,fun r H6 r0 r1 h6 g6 u6=>⟨_,_,rfl,rfl,_,rfl,?_⟩⟩
     obtain ⟨_,ep1⟩:=hand_of h1
     have hj2:j < ws.length:=by omega
     have tk:(ws.take (j + 1))=ws.take j++[ws[j]]:=List.take_succ_eq_append_getElem hj2
     refine ite2 (fun _=>?_) (fun _=>?_)
     ·refine ⟨_,rfl,us++[ws[j]],L2.Paired.snoc ?_ (Words.tk w1 (g6.tk ep1)),by rw [tk]; exact sb.append (List.Sublist.refl _),h6,g1.trans g6⟩
      obtain ⟨_,ep4⟩:=hand_of h4
      exact (L2.Paired.at w4 hj hj2).tk ((g1.trans g6).tk ep4)
     ·exact ⟨us,Words.tk w1 (g6.tk ep1),by rw [tk]; exact sb.trans (List.sublist_append_left _ _),h6,g1.trans g6⟩
    ·rintro ys H5 ⟨us,w1,sb,h5,g5⟩ q hq
     rw [lv,List.take_length] at sb
     obtain ⟨_,ep5⟩:=hand_of h5
     have nq:q≠p:=Ne.symm (ne_of_none ep5 hq)
     have g:=g4.trans g5
     refine k q us _ (g.free hq nq) nq ⟨ys,upd_same,Words.tk w1 (same_upd hq).tk⟩ (ok4.sub sb) (fun w hw=>bn4 w (sb.subset hw)) ?_ (h5.same (same_upd hq)) (g.trans (Grow.same (same_upd hq)))
     have l1:=sb.length_le
     have l2:n0.toNat * bs.length<=m.toNat * bs.length:=Nat.mul_le_mul (by omega) (Nat.le_refl _)
     have l3:((m.toNat * bs.length:Nat):Int)=m * bs.length:=by rw [Int.natCast_mul]; congr 1; omega
     omega
theorem ok__law_signs (T:Txt mg) (C__law_draw:Cal P w K mg base "_law_draw" 1 ["_law_hand", "_law_many"] spDraw) {f:Addr} {fd:FuncData} (F:Fun K "_law_signs" "_law_signs" s__law_signs f fd):FnOk P w K mg base CX0 2 f fd ["_law_hand", "_law_many"] spSigns:=by
 refine F.ok sc__law_signs (fun vs H Q E h=>?_) (fun cdv A outer s H vs Q E hr h=>?_)
 ·obtain ⟨p,a,m,rfl,_⟩:=h
  rfl
 ·obtain ⟨p,a,m,rfl,hh,hm0,hm1,k⟩:=h
  have SC:=sc__law_signs
  have hr__law_draw:Room 1 _:=hr.mono (by decide)
  refine ⟨_,(pss_cons (ps_set (i:=2) SC.nd rfl (Or.inr rfl) (pe_op op_mul (pe_callTy call_int1 (by rfl) T.b_int PyProof.Rows.boot_int (pa_cons (pe_cmpR op_gt (pe_cal C__law_draw hr__law_draw rfl (pa_cons (pv 0) (pa_cons pe_int pa_nil))) pe_int (nomark _)) pa_nil)) (pe_op op_add (pe_op op_mul (pe_cal C__law_draw hr__law_draw rfl (pa_cons (pv 0) (pa_cons pe_int pa_nil))) (pe_op op_pow pe_int pe_int)) (pe_cal C__law_draw hr__law_draw rfl (pa_cons (pv 0) (pa_cons pe_int pa_nil))))))
 (pss_cons (ps_set (i:=3) SC.nd rfl (Or.inr rfl) (pe_op op_add pe_int (pe_ix ix_list (pe_lst (pa_cons pe_int (pa_cons (pe_cal C__law_draw hr__law_draw rfl (pa_cons (pv 0) (pa_cons pe_int pa_nil))) (pa_cons (pe_cal C__law_draw hr__law_draw rfl (pa_cons (pv 0) (pa_cons (pe_op op_pow pe_int pe_int) pa_nil))) pa_nil)))) (pe_cal C__law_draw hr__law_draw rfl (pa_cons (pv 0) (pa_cons pe_int pa_nil))) (fun _ _=>rfl))))
 (pss_cons (ps_comp (i:=4) SC.nd rfl rfl (T:=["_law_k"]) (cs:=[2,3]) rfl (CScope.ok (by kernel_rfl)) (pi_range1 rfl T.b_range (pa_cons (pv 1) pa_nil)) (fun _ _ _ _=>(pg_name (i:=0) (nd_of (by kernel_rfl)) rfl (Or.inl rfl) (Or.inr rfl))) (fun _ _ _ _=>pts_nil) (fun _ _ _ _=>(pe_op op_add (pv 1) (pe_op op_mul (pv 2) (pv 0)))) (gk_name (by decide)))
 (pss_cons (ps_set (i:=5) SC.nd rfl (Or.inl rfl) (pe_op op_mod (pe_cal C__law_draw hr__law_draw rfl (pa_cons (pv 0) (pa_cons pe_int pa_nil))) (pe_callB (call_max2 rfl) (by rfl) T.b_max PyProof.Rows.boot_max (pa_cons pe_int (pa_cons (pv 1) pa_nil)))))
 (pss_cons (ps_set (i:=4) SC.nd rfl (Or.inl rfl) (pe_op op_cat (pe_slice sl_list (pv 4) (po_some (pv 5)) po_none) (pe_slice sl_list (pv 4) po_none (po_some (pv 5)))))
 (pss_cons (ps_if (pt_cmpR op_eq (pe_cal C__law_draw hr__law_draw rfl (pa_cons (pv 0) (pa_cons pe_int pa_nil))) pe_int (nomark _))
 (pss_one (ps_ret (pe_rev (pv 4) (po_some (pe_un un_neg pe_int)) (fun _ _=>⟨_,rfl⟩))))
 pss_nil)
 (pss_one (ps_ret (pv 4))))))))),?_⟩
  refine ⟨_,rfl,p,a,_,rfl,hh,by decide,by decide,fun r1 H1 r10 r11 h1 g1 u1=>⟨_,_,rfl,rfl,.inr ⟨_,rfl,_,rfl,p,a,_,rfl,h1,by decide,by decide,fun r2 H2 r20 r21 h2 g2 u2=>⟨_,_,rfl,rfl,⟨by decide,by decide,by decide⟩,_,_,rfl,rfl,.inl ⟨by omega,by omega⟩,_,rfl,p,a,_,rfl,h2,by decide,by decide,fun r3 H3 r30 r31 h3 g3 u3=>⟨_,_,rfl,rfl,_,_,rfl,rfl,.inl ?_,?_⟩⟩⟩⟩⟩
  ·split <;> exact ⟨by decide,by decide⟩
  obtain ⟨bg,hbg⟩:∃ bg:Int,bg=(if decide (0 < r1)=true then (1:Int) else 0) * (r2 * 10 ^ Int.toNat 6 + r3):=⟨_,rfl⟩
  have g30:=(g1.trans g2).trans g3
  refine ⟨_,rfl,p,a,_,rfl,h3,by decide,by decide,fun r4 H4 r40 r41 h4 g4 u4=>⟨_,rfl,_,_,rfl,rfl,⟨by decide,by decide,by decide⟩,p,a,_,rfl,h4,by decide,by decide,fun r5 H5 r50 r51 h5 g5 u5=>⟨by show 3<=sizeLine; decide,fun lq hlq=>?_⟩⟩⟩
  have s6:=same_upd (o:=.lst [.int 0,.int r4,.int r5]) hlq
  obtain ⟨_,ep5⟩:=hand_of h5
  have nlq:lq≠p:=Ne.symm (ne_of_none ep5 hlq)
  have elq:(upd H5 lq (.lst [.int 0,.int r4,.int r5])) lq=_:=upd_same
  have h6:=h5.same s6
  have g60:=g30.trans (g4.trans (g5.trans (Grow.same s6)))
  generalize upd H5 lq (.lst [.int 0,.int r4,.int r5])=H6 at s6 elq h6 g60
  refine ⟨_,rfl,p,a,_,rfl,h6,by decide,by decide,fun r6 H7 r60 r61 h7 g7 u7=>?_⟩
  have elq7:H7 lq=some (.lst [.int 0,.int r4,.int r5]):=by rw [u7 lq nlq]; exact elq
  obtain ⟨v,hv,ev⟩:=atI_some (xs:=[V.int 0,.int r4,.int r5]) r60 (by simpa using r61)
  obtain ⟨c,rfl,hc⟩:∃ c:Int,v=.int c/\0<=c:=by
   simp only [List.mem_cons,List.mem_nil_iff,or_false] at hv
   rcases hv with z | z | z <;> exact ⟨_,z,by omega⟩
  have r51':r5 < 10000000:=r51
  have hc2:c < 10000000:=by
   simp only [List.mem_cons,List.mem_nil_iff,or_false] at hv
   rcases hv with z | z | z <;> injection z with z <;> omega
  refine ⟨lq,_,_,_,rfl,rfl,SqL.of elq7,ev,_,_,rfl,rfl,?_⟩
  refine ⟨_,rfl,m,rfl,by omega,by omega,comp_by (n:=m.toNat) (fun j ys H'=>H'=H7/\ys=((List.range j).map fun k:Nat=>bg + (1 + c) * (k:Int)).map V.int) ⟨rfl,rfl⟩ ?_ (small_line (by omega)) ?_ ?_ ?_ ?_⟩
  ·rintro j ys H' ⟨rfl,rfl⟩
   rw [List.length_map,List.length_map,List.length_range]
   exact Nat.le_refl _
  ·rintro j ys H' hj _
   exact hj
  ·rintro ys H' _
   exact Nat.le_refl _
  ·rintro j ys H' hj ⟨rfl,rfl⟩ x H8 ⟨rfl,rfl⟩
   refine ⟨_,rfl,_,rfl,_,rfl,_,_,rfl,rfl,.inl ⟨by omega,by omega⟩,_,_,rfl,rfl,rfl,?_⟩
   rw [List.range_succ,List.map_append,List.map_append,Int.zero_add,hbg]
   rfl
  ·rintro ys H' ⟨rfl,rfl⟩ l hl
   generalize hss:(List.range m.toNat).map (fun k:Nat=>bg + (1 + c) * (k:Int))=ss
   have nd:ss.Nodup:=by rw [<- hss]; exact steps_inj (by omega) _
   have ls:(ss.length:Int)=m:=by rw [<- hss,List.length_map,List.length_range]; omega
   have s8:=same_upd (o:=.lst (ss.map V.int)) hl
   have e8:(upd H' l (.lst (ss.map V.int))) l=_:=upd_same
   obtain ⟨_,ep7⟩:=hand_of h7
   have nl:l≠p:=Ne.symm (ne_of_none ep7 hl)
   have h8:=h7.same s8
   have g80:=(g60.trans g7).trans (Grow.same s8)
   generalize upd H' l (.lst (ss.map V.int))=H8 at s8 e8 h8 g80
   refine ⟨_,rfl,p,a,_,rfl,h8,by decide,by decide,fun r9 H9 r90 r91 h9 g9 u9=>⟨_,rfl,_,_,rfl,_,_,rfl,rfl,?_,?_⟩⟩
   ·show (0:Int) < if m > 1 then m else 1
    split <;> omega
   have e9:H9 l=some (.lst (ss.map V.int)):=by rw [u9 l nl]; exact e8
   have z0:0<=r9 % (if m > 1 then m else 1):=Int.emod_nonneg _ (by split <;> omega)
   have z1:r9 % (if m > 1 then m else 1)<=ss.length:=by
    rw [ls]
    have:=Int.emod_lt_of_pos r9 (show (0:Int) < if m > 1 then m else 1 by split <;> omega)
    by_cases hm:m > 1
    ·rw [if_pos hm] at this ⊢; omega
    ·rw [if_neg hm] at this ⊢; omega
   obtain ⟨n,en⟩:=Int.eq_ofNat_of_zero_le z0
   have cut1:cutV (ss.map V.int) (some (r9 % (if m > 1 then m else 1))) none=(ss.drop n).map V.int:=by rw [en,cut_from (by omega) (by rw [List.length_map]; omega),List.map_drop]; rfl
   have cut2:cutV (ss.map V.int) none (some (r9 % (if m > 1 then m else 1)))=(ss.take n).map V.int:=by rw [en,cut_to (by omega) (by rw [List.length_map]; omega),List.map_take]; rfl
   refine ⟨_,rfl,_,rfl,_,rfl,l,_,rfl,SqL.of e9,fun q1 hq1=>?_⟩
   rw [cut1]
   have sA:=same_upd (o:=.lst ((ss.drop n).map V.int)) hq1
   have eA:(upd H9 q1 (.lst ((ss.drop n).map V.int))) q1=_:=upd_same
   generalize upd H9 q1 (.lst ((ss.drop n).map V.int))=HA at sA eA
   refine ⟨_,rfl,_,rfl,_,rfl,l,_,rfl,SqL.of (sA _ _ e9),fun q2 hq2=>?_⟩
   rw [cut2]
   have sB:=sA.trans (same_upd (o:=.lst ((ss.take n).map V.int)) hq2)
   have eB:(upd HA q2 (.lst ((ss.take n).map V.int))) q2=_:=upd_same
   have eB1:=same_upd (o:=.lst ((ss.take n).map V.int)) hq2 _ _ eA
   generalize upd HA q2 (.lst ((ss.take n).map V.int))=HB at sB eB eB1
   refine ⟨q1,q2,_,_,rfl,rfl,eB1,eB,?_,fun q3 hq3=>?_⟩
   ·rw [List.length_map,List.length_map,List.length_drop,List.length_take]; exact small_line (by omega)
   rw [<- List.map_append]
   have nd2:=spin_nodup nd n
   have ls2:((ss.drop n++ss.take n).length:Int)=m:=by rw [List.length_append,List.length_drop,List.length_take]; omega
   generalize ss.drop n++ss.take n=tt at nd2 ls2
   have sC:=sB.trans (same_upd (o:=.lst (tt.map V.int)) hq3)
   have eC:(upd HB q3 (.lst (tt.map V.int))) q3=_:=upd_same
   obtain ⟨_,ep9⟩:=hand_of h9
   have nq3:q3≠p:=Ne.symm (ne_of_none (sB _ _ ep9) hq3)
   have n30:H q3=none:=(g80.trans g9).free (sB.free hq3) nq3
   have hC:=h9.same sC
   have gC:=(g80.trans g9).trans (Grow.same sC)
   generalize upd HB q3 (.lst (tt.map V.int))=HC at sC eC hC gC
   refine ⟨_,rfl,p,a,_,rfl,hC,by decide,by decide,fun rd HD rd0 rd1 hD gD uD=>⟨rfl,_,rfl,?_⟩⟩
   have eD:HD q3=some (.lst (tt.map V.int)):=by rw [uD q3 nq3]; exact eC
   refine ite2 (fun _=>?_) (fun _=>?_)
   ·refine ⟨_,rfl,_,rfl,_,rfl,rfl,q3,_,rfl,SqL.of eD,fun q4 hq4=>?_⟩
    rw [<- List.map_reverse]
    have sE:=same_upd (o:=.lst (tt.reverse.map V.int)) hq4
    obtain ⟨_,epD⟩:=hand_of hD
    have nq4:q4≠p:=Ne.symm (ne_of_none epD hq4)
    exact k q4 tt.reverse _ ((gC.trans gD).free hq4 nq4) nq4 upd_same ((List.reverse_perm tt).nodup_iff.mpr nd2) (by rw [List.length_reverse]; exact ls2) (hD.same sE) ((gC.trans gD).trans (Grow.same sE))
   ·exact ⟨_,rfl,k q3 tt HD n30 nq3 eD nd2 ls2 hD (gC.trans gD)⟩
def ok_TooMany___init__ (T:Txt mg) {C:Addr} {f:Addr} {fd:FuncData} (xc:XCl K C f) (na:W.findIn K (.ref C) "most"=some none) (F:Fun K "__init__" "TooMany.__init__" s_TooMany___init__ f fd):FnOk P w K mg base CX0 1 f fd ["self", "most"] (spX1 C "most"):=by
 refine F.ok sc_TooMany___init__ (fun vs H Q E h=>?_) (fun cdv A outer s H vs Q E hr h=>?_)
 ·obtain ⟨ea,y,rfl,_⟩:=h
  rfl
 ·obtain ⟨ea,y,rfl,hea,k⟩:=h
  have SC:=sc_TooMany___init__
  refine ⟨_,(pss_one (ps_xfld (pv 0) (pv 1) rfl)),?_⟩
  exact ⟨_,rfl,_,rfl,ea,C,f,rfl,xc,na,.inl ⟨hea,fun d hd ne=>k d hd ne⟩⟩
open L3
def Wd4 (ws:List (List Int)):Prop:=∀ w∈ws,w≠[]/\w.length<=4
def Wd4.snoc {ws:List (List Int)} (h:Wd4 ws) {w:List Int} (h1:w≠[]) (h2:w.length<=4):Wd4 (ws++[w]):=fun x hx=>by
 rcases List.mem_append.mp hx with hx | hx
 ·exact h x hx
 ·rw [List.mem_singleton.mp hx]; exact ⟨h1,h2⟩
def hand_more {M:Mem} {m m':MO} {k:Nat} (h:M[k]?=some m):(M++[m'])[k]?=some m:=by
 have hk:k < M.length:=(List.getElem?_eq_some_iff.mp h).1
 rw [List.getElem?_append_left hk]; exact h
theorem at_mod {τ:Type} {f:τ->D} {as:List τ} (z:Int) (h:as≠[]):∃ a∈as,L2.atI (as.map f) (z % ((as.map f).length:Int))=some (f a):=by
 have h0:0 < as.length:=List.length_pos_iff.mpr h
 have h1:(0:Int)<=z % (as.length:Int):=Int.emod_nonneg _ (by omega)
 have h2:z % (as.length:Int) < as.length:=Int.emod_lt_of_pos _ (by omega)
 have h3:(z % (as.length:Int)).toNat < as.length:=by omega
 refine ⟨as[(z % (as.length:Int)).toNat],List.getElem_mem h3,?_⟩
 rw [List.length_map]
 exact atI_map (by omega) h3
theorem len_pos {τ:Type} {f:τ->D} {as:List τ} (h:as≠[]):(0:Int) < ((as.map f).length:Int):=by
 rw [List.length_map]
 have:=List.length_pos_iff.mpr h
 omega
open L3
def dAnyB:Sp3:=fun ds M K=>∃ (k:Nat) (bs:List Int),ds=[.cell k,.lst (bs.map .int)]/\(M[k]?=some .hand/\bs≠[]/\bs.length<=1000)/\∀ ws:List (List Int),ws.length<=7->Wb bs ws->K (.cell M.length) (M++[.lst (ws.map wD)])
theorem ok__law_any_words (T:Txt mg) {C:Addr} (C__law_draw:Cal P w K mg base "_law_draw" 1 ["_law_hand", "_law_many"] (L3.spOf ⟨C,K⟩ dDraw)) {f:Addr} {fd:FuncData} (F:Fun K "_law_any_words" "_law_any_words" s__law_any_words f fd):FnOk P w K mg base CX0 2 f fd ["_law_hand", "_law_some"] (L3.spOf ⟨C,K⟩ dAnyB):=by
 refine L3.Fun.ok3 F sc__law_any_words (fun ds M K3 h=>?_) (fun cdv A outer s H E hr=>?_)
 ·obtain ⟨hd,bs,rfl,_⟩:=h
  rfl
 ·have SC:=sc__law_any_words
  have hu:=hr.units
  have hu1:=hu_of hr
  have hr__law_draw:Room 1 _:=hr.mono (by first | decide | omega)
  refine ⟨_,_,(pss_cons (ps_set (i:=2) SC.nd rfl (Or.inl rfl) (pe_lst pa_nil))
 (pss_cons (ps_for PassesOwn.never rfl (pi_range1 rfl T.b_range (pa_cons (pe_cal C__law_draw hr__law_draw rfl (pa_cons (pv 0) (pa_cons pe_int pa_nil))) pa_nil)) (pg_name (i:=3) SC.nd rfl (Or.inl rfl))
 (pss_one (ps_expr (pe_bm PySem.F.plainAttrs_list PySem.F.slot_list_append PySem.F.type_list_append mt_append (pv 2) (pa_cons (pe_callTy (bk_tup (K:=K) rfl) (by rfl) T.b_tuple PyProof.Rows.boot_tuple (pa_cons (pe_comp (T:=["_law_at"]) (cs:=[1,0]) rfl (CScope.ok (by kernel_rfl)) (pi_range1 rfl T.b_range (pa_cons (pe_op (L3.ux_add (K':=K) rfl) pe_int (pe_cal C__law_draw hr__law_draw rfl (pa_cons (pv 0) (pa_cons pe_int pa_nil)))) pa_nil)) (fun _ _ _ _=>(pg_name (i:=0) (nd_of (by kernel_rfl)) rfl (Or.inl rfl) (Or.inr rfl))) (fun _ _ _ _=>pts_nil) (fun _ _ _ _=>(pe_ix (L3.ux_ix (K':=K) rfl) (pv 1) (pe_op op_mod (pe_cal C__law_draw hr__law_draw rfl (pa_cons (pv 2) (pa_cons pe_int pa_nil))) (pe_callB (bk_len (K:=K) rfl) (by rfl) T.b_len PySem.boot_len (pa_cons (pv 1) pa_nil))) (fun _ _=>rfl))) (gk_name (by decide))) pa_nil)) pa_nil)))))
 (pss_one (ps_ret (pv 2))))),fun _=>(L3.s_seq (L3.s_asg (L3.s_lstC L3.s_nil) (L3.s_g 2))
 (L3.s_seq (L3.s_for (L3.s_ir1 (L3.s_cons (L3.s_call (L3.s_cons (L3.s_var 0) (L3.s_cons L3.s_int L3.s_nil))) L3.s_nil)) (L3.s_g 3)
 (L3.s_drop (L3.s_append (L3.s_var 2) (L3.s_cons (L3.s_cb L3.s_tuple (L3.s_cons (L3.s_comp (L3.s_ir1 (L3.s_cons (L3.s_op L3.s_add L3.s_int (L3.s_call (L3.s_cons (L3.s_var 0) (L3.s_cons L3.s_int L3.s_nil)))) L3.s_nil)) (L3.s_g 0) L3.s_true (L3.s_op L3.s_ix (L3.s_var 1) (L3.s_op L3.s_mod (L3.s_call (L3.s_cons (L3.s_var 2) (L3.s_cons L3.s_int L3.s_nil))) (L3.s_cb L3.s_len (L3.s_cons (L3.s_var 1) L3.s_nil))))) L3.s_nil)) L3.s_nil))))
 (L3.s_ret (L3.s_var 2)))),fun ds M Kk hM hD h=>?_⟩
  obtain ⟨hd,bs,rfl,h⟩:=h
  obtain ⟨⟨hh,hne,hlb⟩,k⟩:=h
  have hb0:0 < bs.length:=List.length_pos_iff.mpr hne
  refine ⟨Nat.zero_le _,?_⟩
  refine ⟨_,rfl,hd,8,rfl,hand_more hh,⟨by decide,by decide⟩,fun q q0 q1=>?_⟩
  refine ⟨q,rfl,⟨by omega,by omega⟩,fun j ρ M'=>∃ (ws:List (List Int)) (v3:Option D),ρ=[some (.cell hd),some (.lst (bs.map .int)),some (.cell M.length),v3]/\M'=M++[.lst (ws.map wD)]/\ws.length=j/\Wb bs ws,fun _ _ _ _ _=>trivial,⟨[],_,rfl,rfl,rfl,fun _ h=>nomatch h⟩,?_,?_⟩
  ·rintro j x ρ M' hj rfl ⟨ws,v3,rfl,rfl,lw,hw⟩
   have hj:j < 8:=by
    have:j < q.toNat:=hj
    omega
   refine ⟨_,rfl,ls_some ls_last,_,rfl,hd,4,rfl,hand_more hh,⟨by decide,by decide⟩,fun r r0 r1=>?_⟩
   refine ⟨_,rfl,⟨by omega,by omega⟩,?_,fun i ys M'=>M++[.lst (ws.map wD)]=M'/\∃ w:List Int,ys=w.map .int/\w.length=i/\∀ b∈w,b∈bs,fun _ _ _ _ _=>trivial,⟨rfl,[],rfl,rfl,fun _ h=>nomatch h⟩,?_,?_⟩
   ·exact small_line (by show (1 + r).toNat<=_; omega)
   ·rintro i x ys _ hi rfl ⟨rfl,w,rfl,rfl,hwb⟩
    refine ⟨_,rfl,_,rfl,hd,60,rfl,hand_more hh,⟨by decide,by decide⟩,fun z z0 z1=>?_⟩
    obtain ⟨a,ha,ea⟩:=at_mod (f:=D.int) z hne
    exact ⟨_,rfl,_,rfl,_,_,rfl,rfl,len_pos hne,_,_,_,rfl,rfl,ea,rfl,w++[a],by rw [List.map_append]; rfl,by rw [List.length_append]; rfl,fun b hb=>(List.mem_append.mp hb).elim (hwb b) fun z=>by rw [List.mem_singleton.mp z]; exact ha⟩
   ·rintro ys _ ⟨rfl,w,rfl,lw',hwb⟩
    have lw':w.length=(1 + r).toNat:=lw'
    refine ⟨_,_,rfl,rfl,M.length,_,_,rfl,rfl,at_last,?_,?_⟩
    ·rw [List.length_map]
     exact Nat.lt_of_le_of_lt (by omega:_<=1000) (by decide)
    rw [set_last]
    exact .inl ⟨ws++[w],_,rfl,by rw [List.map_append]; rfl,by rw [List.length_append,lw]; rfl,fun x hx=>(List.mem_append.mp hx).elim (hw x) fun z=>by rw [List.mem_singleton.mp z]; exact ⟨⟨fun e=>by rw [e] at lw'; simp at lw'; omega,by omega⟩,hwb⟩⟩
  ·rintro ρ M' ⟨ws,v3,rfl,rfl,lw,hw⟩
   have lw:ws.length=q.toNat:=lw
   exact ⟨_,rfl,.inl (k ws (by omega) hw)⟩
open L3
def dLooseB:Sp3:=fun ds M K=>∃ (k:Nat) (m lg:Int),ds=[.cell k,.int m,.int lg]/\(M[k]?=some .hand/\1<=m/\m<=6/\1<=lg/\lg<=4)/\∀ (L:List Pr) (bs:List Int),L.length<=40->(L.map (·.1)).Nodup->bs.length<=3->Wb bs (L.map (·.2))->K (.lst (L.map pD)) M
def w_cat {a b:List Int}:(a++b).map D.int=a.map D.int++b.map D.int:=List.map_append ..
theorem cut_ne {w:List Int} (h:w≠[]):cut w none (some 4)≠[]/\(cut w none (some 4)).length<=4:=by
 have e:cut w none (some 4)=w.take (min 4 w.length):=by
  unfold cut
  rw [show (4:Int)=((4:Nat):Int) from rfl,HT.sIx_nat,HT.sIx_none,List.drop_zero,Nat.sub_zero]
 have h0:0 < w.length:=List.length_pos_iff.mpr h
 rw [e]
 refine ⟨fun z=>?_,by rw [List.length_take]; omega⟩
 have:=congrArg List.length z
 rw [List.length_take,List.length_nil] at this
 omega
def cut_mem {τ:Type} {xs:List τ} {lo hi:Option Int} {x:τ} (h:x∈cut xs lo hi):x∈xs:=List.mem_of_mem_drop (List.mem_of_mem_take h)
theorem cut_both {ws:List (List Int)} {a:Int} (h:0<=a):(cut ws none (some a)++cut ws (some a) none).length<=ws.length:=by
 obtain ⟨m,rfl⟩:=Int.eq_ofNat_of_zero_le h
 rw [List.length_append]
 unfold cut
 rw [HT.sIx_nat,HT.sIx_nat,HT.sIx_none,HT.sIx_none]
 simp only [List.length_take,List.length_drop]
 omega
theorem ok__law_loose (T:Txt mg) {C:Addr} (C__law_bytes:Cal P w K mg base "_law_bytes" 2 ["_law_hand", "_law_most"] (L3.spOf ⟨C,K⟩ dBytes)) (C__law_draw:Cal P w K mg base "_law_draw" 1 ["_law_hand", "_law_many"] (L3.spOf ⟨C,K⟩ dDraw)) (C__law_words:Cal P w K mg base "_law_words" 2 ["_law_hand", "_law_some", "_law_most", "_law_longest"] (L3.spOf ⟨C,K⟩ dWordsB)) (C__law_any_words:Cal P w K mg base "_law_any_words" 2 ["_law_hand", "_law_some"] (L3.spOf ⟨C,K⟩ dAnyB)) (C__law_signs:Cal P w K mg base "_law_signs" 2 ["_law_hand", "_law_many"] (L3.spOf ⟨C,K⟩ dSigns)) {f:Addr} {fd:FuncData} (F:Fun K "_law_loose" "_law_loose" s__law_loose f fd):FnOk P w K mg base CX0 3 f fd ["_law_hand", "_law_most", "_law_longest"] (L3.spOf ⟨C,K⟩ dLooseB):=by
 refine L3.Fun.ok3 F sc__law_loose (fun ds M K3 h=>?_) (fun cdv A outer s H E hr=>?_)
 ·obtain ⟨hd,m,lg,rfl,_⟩:=h
  rfl
 ·have SC:=sc__law_loose
  have hu:=hr.units
  have hu1:=hu_of hr
  have hr__law_bytes:Room 2 _:=hr.mono (by first | decide | omega)
  have hr__law_draw:Room 1 _:=hr.mono (by first | decide | omega)
  have hr__law_words:Room 2 _:=hr.mono (by first | decide | omega)
  have hr__law_any_words:Room 2 _:=hr.mono (by first | decide | omega)
  have hr__law_signs:Room 2 _:=hr.mono (by first | decide | omega)
  refine ⟨_,_,(pss_cons (ps_set (i:=3) SC.nd rfl (Or.inl rfl) (pe_cal C__law_bytes hr__law_bytes rfl (pa_cons (pv 0) (pa_cons pe_int pa_nil))))
 (pss_cons (ps_set (i:=4) SC.nd rfl (Or.inl rfl) (pe_cal C__law_draw hr__law_draw rfl (pa_cons (pv 0) (pa_cons pe_int pa_nil))))
 (pss_cons (ps_set (i:=5) SC.nd rfl (Or.inr rfl) (pe_cal C__law_words hr__law_words rfl (pa_cons (pv 0) (pa_cons (pv 3) (pa_cons (pv 1) (pa_cons (pv 2) pa_nil))))))
 (pss_cons (ps_if (pt_cmpR (L3.ux_eq (K':=K) rfl hu) (pv 4) pe_int (nomark _))
 (pss_one (ps_set (i:=5) SC.nd rfl (Or.inr rfl) (pe_cal C__law_any_words hr__law_any_words rfl (pa_cons (pv 0) (pa_cons (pv 3) pa_nil)))))
 pss_nil)
 (pss_cons (ps_if (pt_cmpR op_gt (pv 4) pe_int (nomark _))
 (pss_one (ps_set (i:=5) SC.nd rfl (Or.inr rfl) (pe_comp (T:=["_law_word"]) (cs:=[]) rfl (CScope.ok (by kernel_rfl)) (pi_list (pv 5)) (fun _ _ _ _=>(pg_name (i:=0) (nd_of (by kernel_rfl)) rfl (Or.inl rfl) (Or.inr rfl))) (fun _ _ _ _=>pts_nil) (fun _ _ _ _=>(pe_revT (pv 0) (po_some (pe_un un_neg pe_int)) (fun _ _=>⟨_,rfl⟩))) (gk_name (by decide)))))
 pss_nil)
 (pss_cons (ps_if (PW.pt (pw_and (pt_cmpR op_gt (pv 4) pe_int (nomark _)) (pw_and1 (pt_cmpR (L3.ux_ne (K':=K) rfl hu) (pv 5) (pe_lst pa_nil) (nomark _)))))
 (pss_cons (ps_set (i:=6) SC.nd rfl (Or.inl rfl) (pe_ix (L3.ux_ix (K':=K) rfl) (pv 5) (pe_op op_mod (pe_cal C__law_draw hr__law_draw rfl (pa_cons (pv 0) (pa_cons pe_int pa_nil))) (pe_callB (bk_len (K:=K) rfl) (by rfl) T.b_len PySem.boot_len (pa_cons (pv 5) pa_nil))) (fun _ _=>rfl)))
 (pss_cons (ps_set (i:=7) SC.nd rfl (Or.inl rfl) (pe_ix (L3.ux_ix (K':=K) rfl) (pv 5) (pe_op op_mod (pe_cal C__law_draw hr__law_draw rfl (pa_cons (pv 0) (pa_cons pe_int pa_nil))) (pe_callB (bk_len (K:=K) rfl) (by rfl) T.b_len PySem.boot_len (pa_cons (pv 5) pa_nil))) (fun _ _=>rfl)))
 (pss_cons (ps_set (i:=8) SC.nd rfl (Or.inl rfl) (pe_ix (L3.ux_ix (K':=K) rfl) (pe_lst (pa_cons (pe_slice (L3.ux_sl (K':=K) rfl) (pe_op (L3.ux_add (K':=K) rfl) (pv 6) (pv 7)) po_none (po_some pe_int)) (pa_cons (pe_slice (L3.ux_sl (K':=K) rfl) (pe_op (L3.ux_add (K':=K) rfl) (pv 7) (pe_revT (pv 6) (po_some (pe_un un_neg pe_int)) (fun _ _=>⟨_,rfl⟩))) po_none (po_some pe_int)) (pa_cons (pv 6) pa_nil)))) (pe_cal C__law_draw hr__law_draw rfl (pa_cons (pv 0) (pa_cons pe_int pa_nil))) (fun _ _=>rfl)))
 (pss_cons (ps_set (i:=9) SC.nd rfl (Or.inl rfl) (pe_op op_mod (pe_cal C__law_draw hr__law_draw rfl (pa_cons (pv 0) (pa_cons pe_int pa_nil))) (pe_op (L3.ux_add (K':=K) rfl) (pe_callB (bk_len (K:=K) rfl) (by rfl) T.b_len PySem.boot_len (pa_cons (pv 5) pa_nil)) pe_int)))
 (pss_one (ps_set (i:=5) SC.nd rfl (Or.inr rfl) (pe_op (L3.ux_add (K':=K) rfl) (pe_op (L3.ux_add (K':=K) rfl) (pe_slice (L3.ux_sl (K':=K) rfl) (pv 5) po_none (po_some (pv 9))) (pe_lst (pa_cons (pv 8) pa_nil))) (pe_slice (L3.ux_sl (K':=K) rfl) (pv 5) (po_some (pv 9)) po_none))))))))
 pss_nil)
 (pss_cons (ps_set (i:=10) SC.nd rfl (Or.inr rfl) (pe_cal C__law_signs hr__law_signs rfl (pa_cons (pv 0) (pa_cons (pe_callB (bk_len (K:=K) rfl) (by rfl) T.b_len PySem.boot_len (pa_cons (pv 5) pa_nil)) pa_nil))))
 (pss_one (ps_ret (pe_comp (T:=["_law_k"]) (cs:=[10,5]) rfl (CScope.ok (by kernel_rfl)) (pi_range1 rfl T.b_range (pa_cons (pe_callB (bk_len (K:=K) rfl) (by rfl) T.b_len PySem.boot_len (pa_cons (pv 5) pa_nil)) pa_nil)) (fun _ _ _ _=>(pg_name (i:=0) (nd_of (by kernel_rfl)) rfl (Or.inl rfl) (Or.inr rfl))) (fun _ _ _ _=>pts_nil) (fun _ _ _ _=>(pe_tup (pa_cons (pe_ix (L3.ux_ix (K':=K) rfl) (pv 1) (pv 0) (fun _ _=>rfl)) (pa_cons (pe_ix (L3.ux_ix (K':=K) rfl) (pv 2) (pv 0) (fun _ _=>rfl)) pa_nil)))) (gk_name (by decide)))))))))))),fun _=>(L3.s_seq (L3.s_asg (L3.s_call (L3.s_cons (L3.s_var 0) (L3.s_cons L3.s_int L3.s_nil))) (L3.s_g 3))
 (L3.s_seq (L3.s_asg (L3.s_call (L3.s_cons (L3.s_var 0) (L3.s_cons L3.s_int L3.s_nil))) (L3.s_g 4))
 (L3.s_seq (L3.s_asg (L3.s_call (L3.s_cons (L3.s_var 0) (L3.s_cons (L3.s_var 3) (L3.s_cons (L3.s_var 1) (L3.s_cons (L3.s_var 2) L3.s_nil))))) (L3.s_g 5))
 (L3.s_seq (L3.s_ifS (L3.s_test (L3.s_op L3.s_eq (L3.s_var 4) L3.s_int))
 (L3.s_asg (L3.s_frz (L3.s_call (L3.s_cons (L3.s_var 0) (L3.s_cons (L3.s_var 3) L3.s_nil)))) (L3.s_g 5))
 L3.s_next)
 (L3.s_seq (L3.s_ifS (L3.s_test (L3.s_op L3.s_gt (L3.s_var 4) L3.s_int))
 (L3.s_asg (L3.s_comp (L3.s_il (L3.s_var 5)) (L3.s_g 0) L3.s_true (L3.s_revT (L3.s_var 0) (L3.s_part (L3.s_un L3.s_neg L3.s_int)))) (L3.s_g 5))
 L3.s_next)
 (L3.s_seq (L3.s_ifS (L3.s_and (L3.s_test (L3.s_op L3.s_gt (L3.s_var 4) L3.s_int)) (L3.s_test (L3.s_op L3.s_ne (L3.s_var 5) (L3.s_lst L3.s_nil))))
 (L3.s_seq (L3.s_asg (L3.s_op L3.s_ix (L3.s_var 5) (L3.s_op L3.s_mod (L3.s_call (L3.s_cons (L3.s_var 0) (L3.s_cons L3.s_int L3.s_nil))) (L3.s_cb L3.s_len (L3.s_cons (L3.s_var 5) L3.s_nil)))) (L3.s_g 6))
 (L3.s_seq (L3.s_asg (L3.s_op L3.s_ix (L3.s_var 5) (L3.s_op L3.s_mod (L3.s_call (L3.s_cons (L3.s_var 0) (L3.s_cons L3.s_int L3.s_nil))) (L3.s_cb L3.s_len (L3.s_cons (L3.s_var 5) L3.s_nil)))) (L3.s_g 7))
 (L3.s_seq (L3.s_asg (L3.s_op L3.s_ix (L3.s_lst (L3.s_cons (L3.s_sl L3.s_sl3 (L3.s_op L3.s_add (L3.s_var 6) (L3.s_var 7)) L3.s_noPart (L3.s_part L3.s_int)) (L3.s_cons (L3.s_sl L3.s_sl3 (L3.s_op L3.s_add (L3.s_var 7) (L3.s_revT (L3.s_var 6) (L3.s_part (L3.s_un L3.s_neg L3.s_int)))) L3.s_noPart (L3.s_part L3.s_int)) (L3.s_cons (L3.s_var 6) L3.s_nil)))) (L3.s_call (L3.s_cons (L3.s_var 0) (L3.s_cons L3.s_int L3.s_nil)))) (L3.s_g 8))
 (L3.s_seq (L3.s_asg (L3.s_op L3.s_mod (L3.s_call (L3.s_cons (L3.s_var 0) (L3.s_cons L3.s_int L3.s_nil))) (L3.s_op L3.s_add (L3.s_cb L3.s_len (L3.s_cons (L3.s_var 5) L3.s_nil)) L3.s_int)) (L3.s_g 9))
 (L3.s_asg (L3.s_op L3.s_add (L3.s_op L3.s_add (L3.s_sl L3.s_sl3 (L3.s_var 5) L3.s_noPart (L3.s_part (L3.s_var 9))) (L3.s_lst (L3.s_cons (L3.s_var 8) L3.s_nil))) (L3.s_sl L3.s_sl3 (L3.s_var 5) (L3.s_part (L3.s_var 9)) L3.s_noPart)) (L3.s_g 5))))))
 L3.s_next)
 (L3.s_seq (L3.s_asg (L3.s_call (L3.s_cons (L3.s_var 0) (L3.s_cons (L3.s_cb L3.s_len (L3.s_cons (L3.s_var 5) L3.s_nil)) L3.s_nil))) (L3.s_g 10))
 (L3.s_ret (L3.s_comp (L3.s_ir1 (L3.s_cons (L3.s_cb L3.s_len (L3.s_cons (L3.s_var 5) L3.s_nil)) L3.s_nil)) (L3.s_g 0) L3.s_true (L3.s_tup (L3.s_cons (L3.s_op L3.s_ix (L3.s_var 1) (L3.s_var 0)) (L3.s_cons (L3.s_op L3.s_ix (L3.s_var 2) (L3.s_var 0)) L3.s_nil)))))))))))),fun ds M Kk hM hD h=>?_⟩
  obtain ⟨hd,m,lg,rfl,h⟩:=h
  obtain ⟨⟨hh,m1,m2,g1,g2⟩,k⟩:=h
  refine ⟨_,rfl,hd,3,rfl,hh,⟨by decide,by decide⟩,fun bs nd b2 b3 _=>?_⟩
  have bne:bs≠[]:=fun e=>by rw [e] at b2; simp at b2
  refine ⟨_,rfl,hd,5,rfl,hh,⟨by decide,by decide⟩,fun way y0 y1=>?_⟩
  refine ⟨_,rfl,_,rfl,_,rfl,_,rfl,hd,bs,m,lg,rfl,hh,⟨nd,bne,by omega,by omega,m2,g1,g2⟩,fun ws wo wb wl=>?_⟩
  have hw:Wb bs ws:=fun w h=>⟨wo.2 w h,wb w h⟩
  have lw:ws.length<=21:=by
   rcases (by omega:bs.length=2\/bs.length=3) with e | e <;> rw [e] at wl <;> omega
  refine g_nx ?_
  dsimp only
  refine st_by (fun ρ' M'=>∃ (ws:List (List Int)),ws.length<=21/\Wb bs ws/\ρ'=[some (.cell hd),some (.int m),some (.int lg),some (.lst (bs.map .int)),some (.int way),some (.lst (ws.map wD)),none,none,none,none,none]/\M=M') (fun Kn hn=>?_) ?_
  ·refine ⟨_,rfl,.inl ⟨_,rfl,_,rfl,ite2 (fun h=>?_) (fun h=>?_)⟩⟩
   ·exact ⟨_,rfl,_,rfl,hd,bs,rfl,⟨hh,bne,by omega⟩,fun ws l1 h1=>frz_of rfl hM (bm_lst (below_map (fun _=>below_w) _)) (hn _ _ ⟨ws,by omega,h1,rfl,rfl⟩)⟩
   ·exact hn _ _ ⟨ws,lw,hw,rfl,rfl⟩
  rintro _ _ ⟨ws,lw,hw,rfl,rfl⟩
  refine st_by (fun ρ' M'=>∃ (ws:List (List Int)),ws.length<=21/\Wb bs ws/\ρ'=[some (.cell hd),some (.int m),some (.int lg),some (.lst (bs.map .int)),some (.int way),some (.lst (ws.map wD)),none,none,none,none,none]/\M=M') (fun Kn hn=>?_) ?_
  ·refine ⟨_,rfl,_,_,rfl,rfl,_,rfl,ite2 (fun h=>?_) (fun h=>?_)⟩
   ·refine ⟨_,rfl,_,rfl,?_,fun i ys M'=>M=M'/\ys=(ws.take i).map fun w=>wD w.reverse,fun _ _ _ _ _=>rfl,⟨rfl,rfl⟩,?_,?_⟩
    ·show (ws.map wD).length<=sizeLine
     rw [List.length_map]
     exact small_line (by omega)
    ·rintro i x ys _ hi hx ⟨rfl,rfl⟩
     obtain ⟨hi',rfl⟩:=item_map hx
     refine ⟨_,rfl,_,rfl,_,rfl,rfl,_,rfl,rfl,?_⟩
     rw [List.take_succ_eq_append_getElem hi',List.map_append]
     show _=_++[D.tup ((ws[i]).reverse.map .int)]
     rw [List.map_reverse]
    ·rintro ys _ ⟨rfl,rfl⟩
     have et:ws.take (ws.map wD).length=ws:=by rw [List.length_map,List.take_length]
     rw [show List.take _ ws=ws from et]
     refine hn _ _ ⟨ws.map List.reverse,by rw [List.length_map]; exact lw,fun w hx=>?_,by rw [List.map_map]; rfl,rfl⟩
     obtain ⟨v,hv,rfl⟩:=List.mem_map.mp hx
     exact ⟨⟨fun z=>(hw v hv).1.1 (List.reverse_eq_nil_iff.mp z),by rw [List.length_reverse]; exact (hw v hv).1.2⟩,fun b hb=>(hw v hv).2 b (List.mem_reverse.mp hb)⟩
   ·exact hn _ _ ⟨ws,lw,hw,rfl,rfl⟩
  rintro _ _ ⟨ws,lw,hw,rfl,rfl⟩
  refine st_by (fun ρ' M'=>∃ (ws:List (List Int)) (v6 v7 v8 v9:Option D),ws.length<=22/\Wb bs ws/\ρ'=[some (.cell hd),some (.int m),some (.int lg),some (.lst (bs.map .int)),some (.int way),some (.lst (ws.map wD)),v6,v7,v8,v9,none]/\M=M') (fun Kn hn=>?_) ?_
  ·refine ⟨_,rfl,_,_,rfl,rfl,_,rfl,ite2 (fun h=>?_) (fun h=>?_)⟩
   ·refine ⟨_,rfl,Nat.zero_le _,eqv_seq (encTup encInt) (a:=ws) (b:=[]) rfl rfl ⟨_,rfl,?_⟩⟩
    by_cases e:ws=[]
    ·rw [decide_eq_true e]
     exact iteF (hn _ _ ⟨ws,_,_,_,_,by omega,hw,rfl,rfl⟩)
    rw [decide_eq_false e]
    refine iteT ?_
    refine ⟨_,rfl,_,rfl,hd,60,rfl,hh,⟨by decide,by decide⟩,fun z z0 z1=>?_⟩
    obtain ⟨one,ho,eo⟩:=at_mod (f:=wD) z e
    refine ⟨_,rfl,_,rfl,_,_,rfl,rfl,len_pos e,_,_,_,rfl,rfl,eo,?_⟩
    refine ⟨_,rfl,_,rfl,hd,60,rfl,hh,⟨by decide,by decide⟩,fun z z0 z1=>?_⟩
    obtain ⟨oth,hoth,eoth⟩:=at_mod (f:=wD) z e
    refine ⟨_,rfl,_,rfl,_,_,rfl,rfl,len_pos e,_,_,_,rfl,rfl,eoth,?_⟩
    obtain ⟨⟨ho1,ho2⟩,ho3⟩:=hw one ho
    obtain ⟨⟨hq1,hq2⟩,hq3⟩:=hw oth hoth
    refine g_nx ?_
    dsimp only
    refine seq_by (fun d M'=>∃ w:List Int,d=wD w/\((w≠[]/\w.length<=4)/\∀ b∈w,b∈bs)/\M=M') (fun Kq hq=>?_) ?_
    ·have n1:(one.map D.int)≠[]:=fun z=>ho1 (List.map_eq_nil_iff.mp z)
     have n2:(oth.map D.int)≠[]:=fun z=>hq1 (List.map_eq_nil_iff.mp z)
     refine ⟨_,rfl,_,rfl,⟨n1,?_⟩,_,rfl,_,rfl,_,rfl,_,rfl,_,rfl,rfl,_,rfl,⟨n2,?_⟩,_,rfl,_,rfl,(show 3<=sizeLine by decide),_,rfl,hd,3,rfl,hh,⟨by decide,by decide⟩,fun r r0 r1=>?_⟩
     ·rw [List.length_map,List.length_map]; exact small_line (by omega)
     ·rw [List.length_reverse,List.length_map,List.length_map]; exact small_line (by omega)
     rw [<- List.map_reverse,<- w_cat,<- w_cat,cut_map,cut_map]
     obtain ⟨d,ed,hd'⟩:=item3 (a:=wD (cut (one++oth) none (some 4))) (b:=wD (cut (oth++one.reverse) none (some 4))) (c:=wD one) r0 r1
     refine ⟨_,_,_,rfl,rfl,ed,?_⟩
     rcases hd' with rfl | rfl | rfl
     ·exact hq _ _ ⟨_,rfl,⟨cut_ne (fun z=>ho1 (List.append_eq_nil_iff.mp z).1),fun b hb=>(List.mem_append.mp (cut_mem hb)).elim (ho3 b) (hq3 b)⟩,rfl⟩
     ·exact hq _ _ ⟨_,rfl,⟨cut_ne (fun z=>hq1 (List.append_eq_nil_iff.mp z).1),fun b hb=>(List.mem_append.mp (cut_mem hb)).elim (hq3 b) fun z=>ho3 b (List.mem_reverse.mp z)⟩,rfl⟩
     ·exact hq _ _ ⟨_,rfl,⟨⟨ho1,ho2⟩,ho3⟩,rfl⟩
    rintro _ _ ⟨mo,rfl,hmo,rfl⟩
    refine g_nx ?_
    refine seq_by (fun d M'=>∃ a:Int,d=.int a/\0<=a/\M=M') (fun Kq hq=>?_) ?_
    ·exact ⟨_,rfl,hd,60,rfl,hh,⟨by decide,by decide⟩,fun q q0 q1=>⟨_,rfl,_,rfl,_,_,rfl,rfl,(by omega),hq _ _ ⟨_,rfl,Int.emod_nonneg _ (by omega),rfl⟩⟩⟩
    rintro _ _ ⟨a,rfl,ha,rfl⟩
    have c3:=cut_both (ws:=ws) ha
    rw [List.length_append] at c3
    refine ⟨_,rfl,_,rfl,_,rfl,_,rfl,_,rfl,(show 1<=sizeLine by decide),_,_,rfl,rfl,?_,?_⟩
    ·simp only [cut_map,List.length_map]
     exact small_line (by show _ + 1<=_; omega)
    refine ⟨_,rfl,_,rfl,_,rfl,_,rfl,_,_,rfl,rfl,?_,?_⟩
    ·simp only [cut_map,List.length_append,List.length_map,List.length_singleton]
     exact small_line (by omega)
    simp only [cut_map]
    refine hn _ _ ⟨cut ws none (some a)++[mo]++cut ws (some a) none,_,_,_,_,by rw [List.length_append,List.length_append]; show _ + 1 + _<=_; omega,fun w hx=>?_,by rw [List.map_append,List.map_append]; rfl,rfl⟩
    rcases List.mem_append.mp hx with hx | hx
    ·rcases List.mem_append.mp hx with hx | hx
     ·exact hw w (cut_mem hx)
     ·rw [List.mem_singleton.mp hx]; exact hmo
    ·exact hw w (cut_mem hx)
   ·exact iteF (hn _ _ ⟨ws,_,_,_,_,by omega,hw,rfl,rfl⟩)
  rintro _ _ ⟨ws,v6,v7,v8,v9,lw,hw,rfl,rfl⟩
  have lm:(ws.map wD).length=ws.length:=List.length_map _
  refine ⟨_,rfl,_,rfl,_,rfl,hd,_,rfl,hh,⟨by omega,by omega⟩,fun ss nds ls=>?_⟩
  have ls:ss.length=ws.length:=by rw [lm] at ls; omega
  have lz:(ss.zip ws).length=ws.length:=by rw [List.length_zip]; omega
  have az:∀ j (h1:j < ss.length) (h2:j < ws.length),(ss.zip ws)[j]?=some (ss[j],ws[j]):=fun j h1 h2=>by rw [List.getElem?_eq_getElem (by omega),List.getElem_zip]
  have k':=k (ss.zip ws) bs (by omega) (by rw [List.map_fst_zip (by omega)]; exact nds) (by omega) (by rw [List.map_snd_zip (by omega)]; exact hw)
  generalize ss.zip ws=L at lz az k'
  refine ⟨_,rfl,_,rfl,_,rfl,⟨by omega,by omega⟩,?_,fun i ys M'=>M=M'/\ys=(L.take i).map pD,fun _ _ _ _ _=>trivial,⟨rfl,rfl⟩,?_,?_⟩
  ·exact small_line (by show ((ws.map wD).length:Int).toNat<=_; omega)
  ·rintro i x ys _ hi rfl ⟨rfl,rfl⟩
   have hi:i < ws.length:=by
    have:i < ((ws.map wD).length:Int).toNat:=hi
    omega
   refine ⟨_,rfl,_,rfl,_,_,_,rfl,rfl,atI_map (as:=ss) (j:=i) (by omega) (by omega),_,rfl,_,rfl,_,_,_,rfl,rfl,atI_map (f:=wD) (as:=ws) (j:=i) (by omega) hi,(show 2<=sizeLine by decide),rfl,?_⟩
   have ea:=az i (by omega) hi
   rw [List.getElem?_eq_getElem (by omega)] at ea
   rw [List.take_succ_eq_append_getElem (by omega),List.map_append,Option.some.inj ea]
   rfl
  ·rintro ys _ ⟨rfl,rfl⟩
   have eL:L.take (rngIt 0 ((ws.map wD).length:Int).toNat).n=L:=by
    show L.take ((ws.map wD).length:Int).toNat=L
    rw [List.length_map,Int.toNat_natCast,<- lz,List.take_length]
   rw [eL]
   exact .inl k'
open L3
def below_pw {n:Nat} {p:Pr}:Below n (pD p):=below_tup fun d hd=>by
 rcases List.mem_cons.mp hd with z | hd
 ·rw [z]; exact below_int
 ·rw [List.mem_singleton.mp hd]; exact below_w
def dWide52:Sp3:=fun ds M K=>∃ (k:Nat),ds=[.cell k]/\(M[k]?=some .hand)/\∀ L:List Pr,L.length<=40->(L.map (·.1)).Nodup->Wd4 (L.map (·.2))->K (.lst (L.map pD)) M
theorem ok__law_wide (T:Txt mg) {C:Addr} (C__law_draw:Cal P w K mg base "_law_draw" 1 ["_law_hand", "_law_many"] (L3.spOf ⟨C,K⟩ dDraw)) (C__law_signs:Cal P w K mg base "_law_signs" 2 ["_law_hand", "_law_many"] (L3.spOf ⟨C,K⟩ dSigns)) {f:Addr} {fd:FuncData} (F:Fun K "_law_wide" "_law_wide" s__law_wide f fd):FnOk P w K mg base CX0 3 f fd ["_law_hand"] (L3.spOf ⟨C,K⟩ dWide52):=by
 refine L3.Fun.ok3 F sc__law_wide (fun ds M K3 h=>?_) (fun cdv A outer s H E hr=>?_)
 ·obtain ⟨hd,rfl,_⟩:=h
  rfl
 ·have SC:=sc__law_wide
  have hu:=hr.units
  have hu1:=hu_of hr
  have hr__law_draw:Room 1 _:=hr.mono (by first | decide | omega)
  have hr__law_signs:Room 2 _:=hr.mono (by first | decide | omega)
  refine ⟨_,_,(pss_cons (ps_set (i:=1) SC.nd rfl (Or.inr rfl) (pe_cal C__law_draw hr__law_draw rfl (pa_cons (pv 0) (pa_cons pe_int pa_nil))))
 (pss_cons (ps_comp (i:=2) SC.nd rfl rfl (T:=["_law_k"]) (cs:=[1]) rfl (CScope.ok (by kernel_rfl)) (pi_range1 rfl T.b_range (pa_cons pe_int pa_nil)) (fun _ _ _ _=>(pg_name (i:=0) (nd_of (by kernel_rfl)) rfl (Or.inl rfl) (Or.inr rfl))) (fun _ _ _ _=>pts_nil) (fun _ _ _ _=>(pe_op op_mod (pe_op (L3.ux_add (K':=K) rfl) (pv 1) (pe_op L3.ux_mul pe_int (pv 0))) pe_int)) (gk_name (by decide)))
 (pss_cons (ps_set (i:=3) SC.nd rfl (Or.inr rfl) (pe_comp (T:=["_law_one"]) (cs:=[]) rfl (CScope.ok (by kernel_rfl)) (pi_list (pv 2)) (fun _ _ _ _=>(pg_name (i:=0) (nd_of (by kernel_rfl)) rfl (Or.inl rfl) (Or.inr rfl))) (fun _ _ _ _=>pts_nil) (fun _ _ _ _=>(pe_tup (pa_cons (pv 0) pa_nil))) (gk_name (by decide))))
 (pss_cons (ps_for PassesOwn.never rfl (pi_range1 rfl T.b_range (pa_cons pe_int pa_nil)) (pg_name (i:=4) SC.nd rfl (Or.inl rfl))
 (pss_one (ps_expr (pe_bm PySem.F.plainAttrs_list PySem.F.slot_list_append PySem.F.type_list_append mt_append (pv 3) (pa_cons (pe_tup (pa_cons (pe_ix (L3.ux_ix (K':=K) rfl) (pv 2) (pe_cal C__law_draw hr__law_draw rfl (pa_cons (pv 0) (pa_cons pe_int pa_nil))) (fun _ _=>rfl)) (pa_cons (pe_ix (L3.ux_ix (K':=K) rfl) (pv 2) (pe_cal C__law_draw hr__law_draw rfl (pa_cons (pv 0) (pa_cons pe_int pa_nil))) (fun _ _=>rfl)) pa_nil))) pa_nil)))))
 (pss_cons (ps_set (i:=5) SC.nd rfl (Or.inr rfl) (pe_cal C__law_signs hr__law_signs rfl (pa_cons (pv 0) (pa_cons pe_int pa_nil))))
 (pss_one (ps_ret (pe_comp (T:=["_law_k"]) (cs:=[5,3]) rfl (CScope.ok (by kernel_rfl)) (pi_range1 rfl T.b_range (pa_cons pe_int pa_nil)) (fun _ _ _ _=>(pg_name (i:=0) (nd_of (by kernel_rfl)) rfl (Or.inl rfl) (Or.inr rfl))) (fun _ _ _ _=>pts_nil) (fun _ _ _ _=>(pe_tup (pa_cons (pe_ix (L3.ux_ix (K':=K) rfl) (pv 1) (pv 0) (fun _ _=>rfl)) (pa_cons (pe_ix (L3.ux_ix (K':=K) rfl) (pv 2) (pv 0) (fun _ _=>rfl)) pa_nil)))) (gk_name (by decide)))))))))),fun _=>(L3.s_seq (L3.s_asg (L3.s_call (L3.s_cons (L3.s_var 0) (L3.s_cons L3.s_int L3.s_nil))) (L3.s_g 1))
 (L3.s_seq (L3.s_asg (L3.s_comp (L3.s_ir1 (L3.s_cons L3.s_int L3.s_nil)) (L3.s_g 0) L3.s_true (L3.s_op L3.s_mod (L3.s_op L3.s_add (L3.s_var 1) (L3.s_op L3.s_mul L3.s_int (L3.s_var 0))) L3.s_int)) (L3.s_g 2))
 (L3.s_seq (L3.s_asg (L3.s_compC (L3.s_il (L3.s_var 2)) (L3.s_g 0) L3.s_true (L3.s_tup (L3.s_cons (L3.s_var 0) L3.s_nil))) (L3.s_g 3))
 (L3.s_seq (L3.s_for (L3.s_ir1 (L3.s_cons L3.s_int L3.s_nil)) (L3.s_g 4)
 (L3.s_drop (L3.s_append (L3.s_var 3) (L3.s_cons (L3.s_tup (L3.s_cons (L3.s_op L3.s_ix (L3.s_var 2) (L3.s_call (L3.s_cons (L3.s_var 0) (L3.s_cons L3.s_int L3.s_nil)))) (L3.s_cons (L3.s_op L3.s_ix (L3.s_var 2) (L3.s_call (L3.s_cons (L3.s_var 0) (L3.s_cons L3.s_int L3.s_nil)))) L3.s_nil))) L3.s_nil))))
 (L3.s_seq (L3.s_asg (L3.s_call (L3.s_cons (L3.s_var 0) (L3.s_cons L3.s_int L3.s_nil))) (L3.s_g 5))
 (L3.s_ret (L3.s_comp (L3.s_ir1 (L3.s_cons L3.s_int L3.s_nil)) (L3.s_g 0) L3.s_true (L3.s_tup (L3.s_cons (L3.s_op L3.s_ix (L3.s_var 1) (L3.s_var 0)) (L3.s_cons (L3.s_op L3.s_ix (L3.s_var 2) (L3.s_var 0)) L3.s_nil)))))))))),fun ds M Kk hM hD h=>?_⟩
  obtain ⟨hd,rfl,h⟩:=h
  obtain ⟨hh,k⟩:=h
  refine ⟨_,rfl,hd,256,rfl,hh,⟨by decide,by decide⟩,fun b b0 b1=>?_⟩
  refine ⟨20,rfl,⟨by decide,by decide⟩,by decide,fun i ys M'=>M=M'/\∃ bs:List Int,ys=bs.map .int/\bs.length=i,fun _ _ _ _ _=>trivial,⟨rfl,[],rfl,rfl⟩,?_,?_⟩
  ·rintro i x ys _ hi rfl ⟨rfl,bs,rfl,rfl⟩
   exact ⟨_,rfl,_,rfl,.inl ⟨by decide,by decide⟩,_,_,rfl,rfl,(show (0:Int) < 256 by decide),rfl,bs++[_],by rw [List.map_append]; rfl,by rw [List.length_append]; rfl⟩
  rintro ys _ ⟨rfl,bs,rfl,lb⟩
  have lb:bs.length=20:=lb
  refine ⟨_,rfl,_,rfl,?_,fun i ys M'=>M=M'/\ys=(bs.take i).map fun b=>wD [b],fun _ _ _ _ _=>rfl,⟨rfl,rfl⟩,?_,?_⟩
  ·show (bs.map D.int).length<=sizeLine
   rw [List.length_map]
   exact small_line (by omega)
  ·rintro i x ys _ hi hx ⟨rfl,rfl⟩
   obtain ⟨hi',rfl⟩:=item_int hx
   refine ⟨_,rfl,(show 1<=sizeLine by decide),rfl,?_⟩
   rw [List.take_succ_eq_append_getElem hi',List.map_append]
   rfl
  rintro ys _ ⟨rfl,rfl⟩
  obtain ⟨ws,ew,lw,hw⟩:∃ ws:List (List Int),((bs.take (bs.map D.int).length).map fun b=>wD [b])=ws.map wD/\ws.length=20/\Wd4 ws:=by
   refine ⟨bs.map fun b=>[b],?_,by rw [List.length_map]; exact lb,fun w h=>?_⟩
   ·rw [List.length_map,List.take_length,List.map_map]; rfl
   ·obtain ⟨b,_,rfl⟩:=List.mem_map.mp h
    exact ⟨List.cons_ne_nil _ _,(show 1<=4 by decide)⟩
  rw [show List.map (fun b=>wD [b]) (List.take _ bs)=ws.map wD from ew]
  refine ⟨4,rfl,⟨by decide,by decide⟩,fun j ρ M'=>∃ (ws:List (List Int)) (v4 v5:Option D),ρ=[some (.cell hd),some (.int b),some (.lst (bs.map .int)),some (.cell M.length),v4,v5]/\M'=M++[.lst (ws.map wD)]/\ws.length=20 + j/\Wd4 ws,fun _ _ _ _ _=>trivial,⟨ws,_,_,rfl,rfl,lw,hw⟩,?_,?_⟩
  ·rintro j x ρ M' hj rfl ⟨ws,v4,v5,rfl,rfl,lw,hw⟩
   have hj:j < 4:=hj
   refine ⟨_,rfl,ls_some ls_last,_,rfl,_,rfl,hd,20,rfl,hand_more hh,⟨by decide,by decide⟩,fun y y0 y1=>?_⟩
   refine ⟨_,_,_,rfl,rfl,atI_map (as:=bs) (j:=y.toNat) (by omega) (by omega),?_⟩
   refine ⟨_,rfl,_,rfl,hd,20,rfl,hand_more hh,⟨by decide,by decide⟩,fun z z0 z1=>?_⟩
   refine ⟨_,_,_,rfl,rfl,atI_map (as:=bs) (j:=z.toNat) (by omega) (by omega),(show 2<=sizeLine by decide),M.length,_,_,rfl,rfl,at_last,?_,?_⟩
   ·rw [List.length_map]
    exact Nat.lt_of_le_of_lt (by omega:_<=1000) (by decide)
   rw [set_last]
   exact .inl ⟨ws++[[bs[y.toNat]'(by omega),bs[z.toNat]'(by omega)]],_,_,rfl,by rw [List.map_append]; rfl,by rw [List.length_append,lw]; rfl,hw.snoc (List.cons_ne_nil _ _) (show 2<=4 by decide)⟩
  rintro ρ M' ⟨ws,v4,v5,rfl,rfl,lw,hw⟩
  have lw:ws.length=24:=lw
  refine ⟨_,rfl,hd,24,rfl,hand_more hh,⟨by decide,by decide⟩,fun ss nds ls=>?_⟩
  refine ⟨24,rfl,⟨by decide,by decide⟩,by decide,fun i ys M'=>M++[.lst (ws.map wD)]=M'/\∃ L:List Pr,ys=L.map pD/\L.length=i/\L.map (·.1)=ss.take i/\Wd4 (L.map (·.2)),fun _ _ _ _ _=>trivial,⟨rfl,[],rfl,rfl,rfl,fun _ h=>nomatch h⟩,?_,?_⟩
  ·rintro i x ys _ hi rfl ⟨rfl,L,rfl,rfl,eL,hL⟩
   have hi:L.length < 24:=hi
   refine ⟨_,rfl,_,rfl,_,_,_,rfl,rfl,atI_map (as:=ss) (j:=L.length) (by omega) (by omega),_,rfl,_,rfl,_,_,_,lst_last,rfl,atI_map (f:=wD) (as:=ws) (j:=L.length) (by omega) (by omega),(show 2<=sizeLine by decide),rfl,L++[(ss[L.length]'(by omega),ws[L.length]'(by omega))],by rw [List.map_append]; rfl,by rw [List.length_append]; rfl,by rw [List.map_append,eL,List.take_succ_eq_append_getElem (by omega)]; rfl,?_⟩
   rw [List.map_append]
   exact hL.snoc (hw _ (List.getElem_mem _)).1 (hw _ (List.getElem_mem _)).2
  ·rintro ys _ ⟨rfl,L,rfl,lL,eL,hL⟩
   have lL:L.length=24:=lL
   exact dk_drop pre1 hM (below_lst (below_map (fun _=>below_pw) L)) (k L (by omega) (by rw [eL]; exact nds.sublist (List.take_sublist _ _)) hL)
open L3
def dRows:Sp3:=fun ds M K=>∃ (k:Nat) (L:List Pr) (m:Int),ds=[.cell k,.lst (L.map pD),.int m]/\(M[k]?=some .hand/\L.length<=40/\Wd4 (L.map (·.2))/\0<=m/\m<=40)/\∀ ns:List Int,ns.length<=400->K (.lst (ns.map .int)) M
def encPD:Enc Pr:=encPr encInt (encTup encInt)
theorem ok__law_rows (T:Txt mg) {C:Addr} (C__law_draw:Cal P w K mg base "_law_draw" 1 ["_law_hand", "_law_many"] (L3.spOf ⟨C,K⟩ dDraw)) {f:Addr} {fd:FuncData} (F:Fun K "_law_rows" "_law_rows" s__law_rows f fd):FnOk P w K mg base CX0 2 f fd ["_law_hand", "_law_table", "_law_most"] (L3.spOf ⟨C,K⟩ dRows):=by
 refine L3.Fun.ok3 F sc__law_rows (fun ds M K3 h=>?_) (fun cdv A outer s H E hr=>?_)
 ·obtain ⟨hd,L,m,rfl,_⟩:=h
  rfl
 ·have SC:=sc__law_rows
  have hu:=hr.units
  have hu1:=hu_of hr
  have hr__law_draw:Room 1 _:=hr.mono (by first | decide | omega)
  refine ⟨_,_,(pss_cons (ps_set (i:=3) SC.nd rfl (Or.inl rfl) (pe_lst pa_nil))
 (pss_cons (ps_if (pt_cmpR (L3.ux_ne (K':=K) rfl hu) (pv 1) (pe_lst pa_nil) (nomark _))
 (pss_one (ps_for PassesOwn.never rfl (pi_range1 rfl T.b_range (pa_cons (pe_cal C__law_draw hr__law_draw rfl (pa_cons (pv 0) (pa_cons (pe_op (L3.ux_add (K':=K) rfl) (pv 2) pe_int) pa_nil))) pa_nil)) (pg_name (i:=4) SC.nd rfl (Or.inl rfl))
 (pss_one (ps_set (i:=3) SC.nd rfl (Or.inl rfl) (pe_op (L3.ux_add (K':=K) rfl) (pv 3) (pe_callTy (bk_list (K:=K) rfl) (by rfl) T.b_list PyProof.Rows.boot_list (pa_cons (pe_ix (L3.ux_ix (K':=K) rfl) (pe_ix (L3.ux_ix (K':=K) rfl) (pv 1) (pe_op op_mod (pe_cal C__law_draw hr__law_draw rfl (pa_cons (pv 0) (pa_cons pe_int pa_nil))) (pe_callB (bk_len (K:=K) rfl) (by rfl) T.b_len PySem.boot_len (pa_cons (pv 1) pa_nil))) (fun _ _=>rfl)) pe_int (fun _ _=>rfl)) pa_nil)))))))
 pss_nil)
 (pss_cons (ps_set (i:=5) SC.nd rfl (Or.inl rfl) (pe_cal C__law_draw hr__law_draw rfl (pa_cons (pv 0) (pa_cons pe_int pa_nil))))
 (pss_cons (ps_set (i:=6) SC.nd rfl (Or.inl rfl) (pe_op op_mod (pe_cal C__law_draw hr__law_draw rfl (pa_cons (pv 0) (pa_cons pe_int pa_nil))) (pe_op (L3.ux_add (K':=K) rfl) (pe_callB (bk_len (K:=K) rfl) (by rfl) T.b_len PySem.boot_len (pa_cons (pv 3) pa_nil)) pe_int)))
 (pss_cons (ps_if (pt_cmpR (L3.ux_eq (K':=K) rfl hu) (pv 5) pe_int (nomark _))
 (pss_one (ps_ret (pe_op (L3.ux_add (K':=K) rfl) (pe_op (L3.ux_add (K':=K) rfl) (pe_slice (L3.ux_sl (K':=K) rfl) (pv 3) po_none (po_some (pv 6))) (pe_lst (pa_cons (pe_cal C__law_draw hr__law_draw rfl (pa_cons (pv 0) (pa_cons pe_int pa_nil))) pa_nil))) (pe_slice (L3.ux_sl (K':=K) rfl) (pv 3) (po_some (pv 6)) po_none))))
 pss_nil)
 (pss_cons (ps_if (pt_cmpR (L3.ux_eq (K':=K) rfl hu) (pv 5) pe_int (nomark _))
 (pss_one (ps_ret (pe_op (L3.ux_add (K':=K) rfl) (pe_slice (L3.ux_sl (K':=K) rfl) (pv 3) po_none (po_some (pv 6))) (pe_slice (L3.ux_sl (K':=K) rfl) (pv 3) (po_some (pe_op (L3.ux_add (K':=K) rfl) (pv 6) pe_int)) po_none))))
 pss_nil)
 (pss_cons (ps_if (pt_cmpR (L3.ux_eq (K':=K) rfl hu) (pv 5) pe_int (nomark _))
 (pss_one (ps_ret (pe_rev (pv 3) (po_some (pe_un un_neg pe_int)) (fun _ _=>⟨_,rfl⟩))))
 pss_nil)
 (pss_one (ps_ret (pv 3)))))))))),fun _=>(L3.s_seq (L3.s_asg (L3.s_lst L3.s_nil) (L3.s_g 3))
 (L3.s_seq (L3.s_ifS (L3.s_test (L3.s_op L3.s_ne (L3.s_var 1) (L3.s_lst L3.s_nil)))
 (L3.s_for (L3.s_ir1 (L3.s_cons (L3.s_call (L3.s_cons (L3.s_var 0) (L3.s_cons (L3.s_op L3.s_add (L3.s_var 2) L3.s_int) L3.s_nil))) L3.s_nil)) (L3.s_g 4)
 (L3.s_asg (L3.s_op L3.s_add (L3.s_var 3) (L3.s_cb L3.s_list (L3.s_cons (L3.s_op L3.s_ix (L3.s_op L3.s_ix (L3.s_var 1) (L3.s_op L3.s_mod (L3.s_call (L3.s_cons (L3.s_var 0) (L3.s_cons L3.s_int L3.s_nil))) (L3.s_cb L3.s_len (L3.s_cons (L3.s_var 1) L3.s_nil)))) L3.s_int) L3.s_nil))) (L3.s_g 3)))
 L3.s_next)
 (L3.s_seq (L3.s_asg (L3.s_call (L3.s_cons (L3.s_var 0) (L3.s_cons L3.s_int L3.s_nil))) (L3.s_g 5))
 (L3.s_seq (L3.s_asg (L3.s_op L3.s_mod (L3.s_call (L3.s_cons (L3.s_var 0) (L3.s_cons L3.s_int L3.s_nil))) (L3.s_op L3.s_add (L3.s_cb L3.s_len (L3.s_cons (L3.s_var 3) L3.s_nil)) L3.s_int)) (L3.s_g 6))
 (L3.s_seq (L3.s_ifS (L3.s_test (L3.s_op L3.s_eq (L3.s_var 5) L3.s_int))
 (L3.s_ret (L3.s_op L3.s_add (L3.s_op L3.s_add (L3.s_sl L3.s_sl3 (L3.s_var 3) L3.s_noPart (L3.s_part (L3.s_var 6))) (L3.s_lst (L3.s_cons (L3.s_call (L3.s_cons (L3.s_var 0) (L3.s_cons L3.s_int L3.s_nil))) L3.s_nil))) (L3.s_sl L3.s_sl3 (L3.s_var 3) (L3.s_part (L3.s_var 6)) L3.s_noPart)))
 L3.s_next)
 (L3.s_seq (L3.s_ifS (L3.s_test (L3.s_op L3.s_eq (L3.s_var 5) L3.s_int))
 (L3.s_ret (L3.s_op L3.s_add (L3.s_sl L3.s_sl3 (L3.s_var 3) L3.s_noPart (L3.s_part (L3.s_var 6))) (L3.s_sl L3.s_sl3 (L3.s_var 3) (L3.s_part (L3.s_op L3.s_add (L3.s_var 6) L3.s_int)) L3.s_noPart)))
 L3.s_next)
 (L3.s_seq (L3.s_ifS (L3.s_test (L3.s_op L3.s_eq (L3.s_var 5) L3.s_int))
 (L3.s_ret (L3.s_rev (L3.s_var 3) (L3.s_part (L3.s_un L3.s_neg L3.s_int))))
 L3.s_next)
 (L3.s_ret (L3.s_var 3))))))))),fun ds M Kk hM hD h=>?_⟩
  obtain ⟨hd,L,m,rfl,h⟩:=h
  obtain ⟨⟨hh,lL,hL,m0,m1⟩,k⟩:=h
  refine ⟨Nat.zero_le _,?_⟩
  refine g_nx ?_
  dsimp only
  refine st_by (fun ρ' M'=>∃ (ns:List Int) (v4:Option D),ns.length<=160/\ρ'=[some (.cell hd),some (.lst (L.map pD)),some (.int m),some (.lst (ns.map .int)),v4,none,none]/\M=M') (fun Kn hn=>?_) ?_
  ·refine ⟨_,rfl,Nat.zero_le _,eqv_seq encPD (a:=L) (b:=[]) rfl rfl ⟨_,rfl,?_⟩⟩
   by_cases e:L=[]
   ·rw [decide_eq_true e]
    exact iteF (hn _ _ ⟨[],_,Nat.zero_le _,rfl,rfl⟩)
   rw [decide_eq_false e]
   refine iteT ?_
   refine ⟨_,rfl,_,rfl,hd,_,rfl,hh,⟨by omega,by omega⟩,fun q q0 q1=>?_⟩
   refine ⟨q,rfl,⟨by omega,by omega⟩,fun j ρ M'=>∃ (ns:List Int) (v4:Option D),ρ=[some (.cell hd),some (.lst (L.map pD)),some (.int m),some (.lst (ns.map .int)),v4,none,none]/\M=M'/\ns.length<=4 * j,fun _ _ _ _ _=>trivial,⟨[],_,rfl,rfl,Nat.zero_le _⟩,?_,?_⟩
   ·rintro j x ρ _ hj rfl ⟨ns,v4,rfl,rfl,ln⟩
    have hj:j < 40:=by
     have:j < q.toNat:=hj
     omega
    refine ⟨_,rfl,_,rfl,_,rfl,hd,60,rfl,hh,⟨by decide,by decide⟩,fun z z0 z1=>?_⟩
    obtain ⟨p,hp,ep⟩:=at_mod (f:=pD) z e
    have hp2:=hL _ (List.mem_map_of_mem hp)
    refine ⟨_,rfl,_,rfl,_,_,rfl,rfl,len_pos e,_,_,_,rfl,rfl,ep,_,_,_,rfl,rfl,rfl,_,_,rfl,rfl,_,_,rfl,rfl,?_,.inl ⟨ns++p.2,_,by rw [List.map_append]; rfl,rfl,by rw [List.length_append]; have:=hp2.2; omega⟩⟩
    rw [List.length_map,List.length_map]
    exact small_line (by have:=hp2.2; omega)
   ·rintro ρ _ ⟨ns,v4,rfl,rfl,ln⟩
    have ln:ns.length<=4 * q.toNat:=ln
    exact hn _ _ ⟨ns,_,by omega,rfl,rfl⟩
  rintro _ _ ⟨ns,v4,ln,rfl,rfl⟩
  refine ⟨_,rfl,hd,6,rfl,hh,⟨by decide,by decide⟩,fun way y0 y1=>?_⟩
  refine g_nx ?_
  dsimp only
  refine seq_by (fun d M'=>∃ a:Int,d=.int a/\0<=a/\M=M') (fun Kq hq=>?_) ?_
  ·exact ⟨_,rfl,hd,60,rfl,hh,⟨by decide,by decide⟩,fun q q0 q1=>⟨_,rfl,_,rfl,_,_,rfl,rfl,(by omega),hq _ _ ⟨_,rfl,Int.emod_nonneg _ (by omega),rfl⟩⟩⟩
  rintro _ _ ⟨a,rfl,ha,rfl⟩
  have c1:∀ lo hi,(cut ns lo hi).length<=ns.length:=cut_len ns
  refine ⟨_,rfl,.inl ⟨_,rfl,_,rfl,ite2 (fun h=>?_) (fun h=>?_)⟩⟩
  ·refine ⟨_,rfl,_,rfl,_,rfl,_,rfl,_,rfl,hd,256,rfl,hh,⟨by decide,by decide⟩,fun z z0 z1=>?_⟩
   refine ⟨(show 1<=sizeLine by decide),_,_,rfl,rfl,?_,?_⟩
   ·simp only [cut_map,List.length_map]
    exact small_line (Nat.le_trans (Nat.add_le_add_right (c1 _ _) 1) (by omega))
   refine ⟨_,rfl,_,rfl,_,rfl,_,rfl,_,_,rfl,rfl,?_,?_⟩
   ·simp only [cut_map,List.length_append,List.length_map,List.length_singleton]
    exact small_line (Nat.le_trans (Nat.add_le_add (Nat.add_le_add_right (c1 _ _) 1) (c1 _ _)) (by omega))
   simp only [cut_map]
   refine .inl ?_
   have:=k (cut ns none (some a)++[z]++cut ns (some a) none) (by rw [List.length_append,List.length_append]; exact Nat.le_trans (Nat.add_le_add (Nat.add_le_add_right (c1 _ _) 1) (c1 _ _)) (by omega))
   rw [List.map_append,List.map_append] at this
   exact this
  refine ⟨_,rfl,.inl ⟨_,rfl,_,rfl,ite2 (fun h=>?_) (fun h=>?_)⟩⟩
  ·refine ⟨_,rfl,_,rfl,_,rfl,_,rfl,_,rfl,_,rfl,_,rfl,_,rfl,_,_,rfl,rfl,?_,?_⟩
   ·simp only [cut_map,List.length_map]
    exact small_line (Nat.le_trans (Nat.add_le_add (c1 _ _) (c1 _ _)) (by omega))
   simp only [cut_map]
   refine .inl ?_
   have:=k (cut ns none (some a)++cut ns (some (a + 1)) none) (by rw [List.length_append]; exact Nat.le_trans (Nat.add_le_add (c1 _ _) (c1 _ _)) (by omega))
   rw [List.map_append] at this
   exact this
  refine ⟨_,rfl,.inl ⟨_,rfl,_,rfl,ite2 (fun h=>?_) (fun h=>?_)⟩⟩
  ·refine ⟨_,rfl,_,rfl,_,rfl,rfl,_,rfl,.inl ?_⟩
   have:=k ns.reverse (by rw [List.length_reverse]; omega)
   rw [List.map_reverse] at this
   exact this
  exact ⟨_,rfl,.inl (k ns (by omega))⟩
open L3
def sl_hit {ns w:List Int} {pl:Nat} (h:pl<=ns.length) {M:Mem} {K:K3} (hk:K (.tup (((ns.drop pl).take w.length).map .int)) M):sl3 (.tup (ns.map .int)) (some (pl:Int)) (some ((pl:Int) + ((w.map D.int).length:Int))) M K:=by
 show K (.tup (cut (ns.map .int) _ _)) M
 rw [cut_map,List.length_map,cut_midI h]
 exact hk
theorem rep_flat {n:Nat} {d:D}:(List.replicate n [d]).flatten=List.replicate n d:=by
 induction n with
 | zero=>rfl
 | succ n ih=>rw [List.replicate_succ,List.flatten_cons,ih,List.replicate_succ]; rfl
theorem lst_more {M:Mem} {d:D} {xs:List D} {m:MO} (h:lstOf M d=some xs):lstOf (M++[m]) d=some xs:=by
 cases d with
 | lst ys=>exact h
 | frz ys=>exact h
 | cell k =>
  simp only [lstOf] at h ⊢
  by_cases hk:k < M.length
  ·rw [List.getElem?_append_left hk]; exact h
  ·rw [List.getElem?_eq_none (Nat.le_of_not_lt hk)] at h
   exact nomatch h
 | _=>exact nomatch h
def dPairs:Sp3:=fun ds M K=>∃ (d:D) (L:List Pr) (ns:List Int) (pl:Nat),ds=[d,.tup (ns.map .int),.int pl]/\lstOf M d=some (L.map pD)/\(pl<=ns.length/\L.length<=100)/\K (.lst ((L.filter (hit ns pl)).map pD)) M
theorem ok_pairs_at (T:Txt mg) {C:Addr}  {f:Addr} {fd:FuncData} (F:Fun K "pairs_at" "pairs_at" s_pairs_at f fd):FnOk P w K mg base CX0 1 f fd ["table", "row", "place"] (L3.spOf ⟨C,K⟩ dPairs):=by
 refine L3.Fun.ok3 F sc_pairs_at (fun ds M K3 h=>?_) (fun cdv A outer s H E hr=>?_)
 ·obtain ⟨d,L,ns,pl,rfl,_⟩:=h
  rfl
 ·have SC:=sc_pairs_at
  have hu:=hr.units
  have hu1:=hu_of hr
  refine ⟨_,_,(pss_one (ps_ret (pe_comp (T:=["sign", "word"]) (cs:=[1,2]) rfl (CScope.ok (by kernel_rfl)) (pi_list (pv 0)) (fun _ _ _ _=>(pg_tup (n:=2) rfl (pgs_cons (pg_name (i:=0) (nd_of (by kernel_rfl)) rfl (Or.inl rfl) (Or.inr rfl)) (pgs_cons (pg_name (i:=1) (nd_of (by kernel_rfl)) rfl (Or.inl rfl) (Or.inr rfl)) pgs_nil)) (by rfl))) (fun _ _ _ _=>(pts_one (pt_cmpR (L3.ux_eq (K':=K) rfl hu) (pe_slice (L3.ux_sl (K':=K) rfl) (pv 2) (po_some (pv 3)) (po_some (pe_op (L3.ux_add (K':=K) rfl) (pv 3) (pe_callB (bk_len (K:=K) rfl) (by rfl) T.b_len PySem.boot_len (pa_cons (pv 1) pa_nil))))) (pv 1) (nomark _)))) (fun _ _ _ _=>(pe_tup (pa_cons (pv 0) (pa_cons (pv 1) pa_nil)))) (gk_tup (gks_cons (by decide) (gks_cons (by decide) gks_nil)))))),fun _=>(L3.s_ret (L3.s_comp (L3.s_il (L3.s_var 0)) (L3.s_gtup (L3.s_gcons (L3.s_g 0) (L3.s_gcons (L3.s_g 1) L3.s_gnil))) (L3.s_test (L3.s_op L3.s_eq (L3.s_sl L3.s_sl3 (L3.s_var 2) (L3.s_part (L3.s_var 3)) (L3.s_part (L3.s_op L3.s_add (L3.s_var 3) (L3.s_cb L3.s_len (L3.s_cons (L3.s_var 1) L3.s_nil))))) (L3.s_var 1))) (L3.s_tup (L3.s_cons (L3.s_var 0) (L3.s_cons (L3.s_var 1) L3.s_nil))))),fun ds M Kk hM hD h=>?_⟩
  obtain ⟨d,L,ns,pl,rfl,h⟩:=h
  obtain ⟨e1,⟨hpl,hl⟩,k⟩:=h
  refine ⟨_,rfl,_,e1,?_,fun i ys M'=>M=M'/\ys=((L.take i).filter (hit ns pl)).map pD,fun M' _ _ _ z=>by rw [<- z.1]; exact e1,⟨rfl,rfl⟩,?_,?_⟩
  ·show (L.map pD).length<=sizeLine
   rw [List.length_map]
   exact small_line (by omega)
  ·rintro i x ys _ hi hx ⟨rfl,rfl⟩
   obtain ⟨hi',rfl⟩:=item_map hx
   refine ⟨_,rfl,rfl,_,_,rfl,_,_,rfl,rfl,?_⟩
   refine ⟨_,rfl,_,rfl,_,rfl,_,rfl,_,rfl,_,rfl,_,rfl,?_⟩
   refine sl_hit hpl ⟨_,rfl,eqv_enc (encTup encInt) (a:=(ns.drop pl).take (L[i]).2.length) (b:=(L[i]).2) ⟨_,rfl,?_⟩⟩
   by_cases z:hit ns pl L[i]=true
   ·rw [show decide ((ns.drop pl).take (L[i]).2.length=(L[i]).2)=true from z]
    refine iteT ⟨_,rfl,_,rfl,(show 2<=sizeLine by decide),rfl,?_⟩
    rw [List.take_succ_eq_append_getElem hi',List.filter_append,List.map_append,List.filter_cons_of_pos z]
    rfl
   ·rw [show decide ((ns.drop pl).take (L[i]).2.length=(L[i]).2)=false from Bool.eq_false_iff.mpr z]
    refine iteF ⟨rfl,?_⟩
    rw [List.take_succ_eq_append_getElem hi',List.filter_append,List.map_append,List.filter_cons_of_neg z]
    exact (List.append_nil _).symm
  ·rintro ys _ ⟨rfl,rfl⟩
   have e:L.take (L.map pD).length=L:=by rw [List.length_map,List.take_length]
   rw [show List.take _ L=L from e]
   exact .inl k
def Tb (L:List Pr):Prop:=L.length<=40/\Wd4 (L.map (·.2))
def dCounts:Sp3:=fun ds M K=>∃ (d:D) (L:List Pr) (ns:List Int),ds=[d,.tup (ns.map .int)]/\lstOf M d=some (L.map pD)/\(ns.length<=1000/\Tb L)/\K (.cell M.length) (M++[.lst ((cnts L ns ns.length).map .int)])
theorem ok_counts_from (T:Txt mg) {C:Addr} (C_pairs_at:Cal P w K mg base "pairs_at" 1 ["table", "row", "place"] (L3.spOf ⟨C,K⟩ dPairs)) {f:Addr} {fd:FuncData} (F:Fun K "counts_from" "counts_from" s_counts_from f fd):FnOk P w K mg base CX0 2 f fd ["table", "row"] (L3.spOf ⟨C,K⟩ dCounts):=by
 refine L3.Fun.ok3 F sc_counts_from (fun ds M K3 h=>?_) (fun cdv A outer s H E hr=>?_)
 ·obtain ⟨d,L,ns,rfl,_⟩:=h
  rfl
 ·have SC:=sc_counts_from
  have hu:=hr.units
  have hu1:=hu_of hr
  have hr_pairs_at:Room 1 _:=hr.mono (by first | decide | omega)
  refine ⟨_,_,(pss_cons (ps_set (i:=2) SC.nd rfl (Or.inr rfl) (pe_op (L3.ux_add (K':=K) rfl) (pe_op L3.ux_mul (pe_lst (pa_cons pe_int pa_nil)) (pe_callB (bk_len (K:=K) rfl) (by rfl) T.b_len PySem.boot_len (pa_cons (pv 1) pa_nil))) (pe_lst (pa_cons pe_int pa_nil))))
 (pss_cons (ps_for PassesOwn.never rfl (pi_rangeD rfl T.b_range (pa_cons (pe_op op_sub (pe_callB (bk_len (K:=K) rfl) (by rfl) T.b_len PySem.boot_len (pa_cons (pv 1) pa_nil)) pe_int) (pa_cons (pe_un un_neg pe_int) (pa_cons (pe_un un_neg pe_int) pa_nil)))) (pg_name (i:=3) SC.nd rfl (Or.inr rfl))
 (pss_one (ps_asg (pe_callB (L3.bk_sum (K':=K) rfl rfl) (by rfl) T.b_sum PyProof.Rows.boot_sum (pa_cons (pe_comp (T:=["sign", "word"]) (cs:=[2,3]) rfl (CScope.ok (by kernel_rfl)) (pi_list (pe_cal C_pairs_at hr_pairs_at rfl (pa_cons (pv 0) (pa_cons (pv 1) (pa_cons (pv 3) pa_nil))))) (fun _ _ _ _=>(pg_tup (n:=2) rfl (pgs_cons (pg_name (i:=0) (nd_of (by kernel_rfl)) rfl (Or.inl rfl) (Or.inr rfl)) (pgs_cons (pg_name (i:=1) (nd_of (by kernel_rfl)) rfl (Or.inl rfl) (Or.inr rfl)) pgs_nil)) (by rfl))) (fun _ _ _ _=>pts_nil) (fun _ _ _ _=>(pe_ix (L3.ux_ix (K':=K) rfl) (pv 2) (pe_op (L3.ux_add (K':=K) rfl) (pv 3) (pe_callB (bk_len (K:=K) rfl) (by rfl) T.b_len PySem.boot_len (pa_cons (pv 1) pa_nil))) (fun _ _=>rfl))) (gk_tup (gks_cons (by decide) (gks_cons (by decide) gks_nil)))) pa_nil)) (pg_sub (pv 2) (pv 3) set_list))))
 (pss_one (ps_ret (pv 2))))),fun _=>(L3.s_seq (L3.s_asg (L3.s_op L3.s_addC (L3.s_op L3.s_mul (L3.s_lst (L3.s_cons L3.s_int L3.s_nil)) (L3.s_cb L3.s_len (L3.s_cons (L3.s_var 1) L3.s_nil))) (L3.s_lst (L3.s_cons L3.s_int L3.s_nil))) (L3.s_g 2))
 (L3.s_seq (L3.s_for (L3.s_irD (L3.s_cons (L3.s_op L3.s_sub (L3.s_cb L3.s_len (L3.s_cons (L3.s_var 1) L3.s_nil)) L3.s_int) (L3.s_cons (L3.s_un L3.s_neg L3.s_int) (L3.s_cons (L3.s_un L3.s_neg L3.s_int) L3.s_nil)))) (L3.s_g 3)
 (L3.s_asg (L3.s_cb L3.s_sum (L3.s_cons (L3.s_comp (L3.s_il (L3.s_call (L3.s_cons (L3.s_var 0) (L3.s_cons (L3.s_var 1) (L3.s_cons (L3.s_var 3) L3.s_nil))))) (L3.s_gtup (L3.s_gcons (L3.s_g 0) (L3.s_gcons (L3.s_g 1) L3.s_gnil))) L3.s_true (L3.s_op L3.s_ix (L3.s_var 2) (L3.s_op L3.s_add (L3.s_var 3) (L3.s_cb L3.s_len (L3.s_cons (L3.s_var 1) L3.s_nil))))) L3.s_nil)) (L3.s_gsub (L3.s_var 2) (L3.s_var 3))))
 (L3.s_ret (L3.s_var 2)))),fun ds M Kk hM hD h=>?_⟩
  obtain ⟨d,L,ns,rfl,h⟩:=h
  obtain ⟨e1,⟨hl,hL,hW⟩,k⟩:=h
  have lm:(ns.map D.int).length=ns.length:=List.length_map _
  refine ⟨(show 1<=sizeLine by decide),_,rfl,_,rfl,_,_,rfl,rfl,⟨by omega,by omega,?_⟩,(show 1<=sizeLine by decide),_,_,rfl,rfl,?_,?_⟩
  ·show 1 * _<=sizeLine
   rw [lm,Int.toNat_natCast,Nat.one_mul]
   exact small_line (by omega)
  ·rw [rep_flat,List.length_replicate,lm,Int.toNat_natCast]
   exact small_line (by show _ + 1<=_; omega)
  have e0:(List.replicate ((ns.map D.int).length:Int).toNat [D.int 0]).flatten++[D.int 1]=(cnts L ns 0).map .int:=by
   rw [rep_flat,lm,Int.toNat_natCast]
   unfold cnts tailC
   rw [Nat.sub_zero,List.map_append,List.map_replicate]
   rfl
  rw [e0]
  refine ⟨_,rfl,_,rfl,_,_,rfl,rfl,_,rfl,_,rfl,_,_,rfl,⟨by omega,by omega,by omega,by omega⟩,?_⟩
  refine ⟨fun j ρ M'=>∃ v3,ρ=[some d,some (.tup (ns.map .int)),some (.cell M.length),v3]/\M'=M++[.lst ((cnts L ns j).map .int)],fun _ _ _ _ _=>trivial,⟨_,rfl,rfl⟩,?_,?_⟩
  ·rintro j x ρ M' hj hx ⟨v3,rfl,rfl⟩
   have hj:j < ns.length:=by
    have:j < (((ns.map D.int).length:Int) - 1 - -1).toNat:=hj
    omega
   obtain rfl:x=.int ((ns.length - 1 - j:Nat):Int):=hx.trans (by congr 1; omega)
   have e1':lstOf (M++[.lst ((cnts L ns j).map .int)]) d=some (L.map pD):=lst_more e1
   refine ⟨_,rfl,_,rfl,_,rfl,d,L,ns,ns.length - 1 - j,rfl,e1',⟨by omega,by omega⟩,?_⟩
   generalize hF:L.filter (hit ns (ns.length - 1 - j))=F
   have hFl:F.length<=40:=by rw [<- hF]; exact Nat.le_trans (List.length_filter_le _ _) hL
   refine ⟨_,rfl,?_,fun i ys M'=>M++[.lst ((cnts L ns j).map .int)]=M'/\ys=((F.take i).map fun p=>D.int (((tailC L ns j)[p.2.length - 1]?).getD 0)),fun _ _ _ _ _=>rfl,⟨rfl,rfl⟩,?_,?_⟩
   ·show (F.map pD).length<=sizeLine
    rw [List.length_map]
    exact small_line (by omega)
   ·rintro i x ys _ hi hx ⟨rfl,rfl⟩
    obtain ⟨hi',rfl⟩:=item_map hx
    have hm:F[i]∈L.filter (hit ns (ns.length - 1 - j)):=by rw [hF]; exact List.getElem_mem hi'
    obtain ⟨hm1,hm2⟩:=List.mem_filter.mp hm
    have hne:=(hW _ (List.mem_map_of_mem hm1)).1
    have hv:=cnts_at (L:=L) hj hm2 hne
    refine ⟨_,rfl,rfl,_,_,rfl,_,_,rfl,rfl,?_⟩
    refine ⟨_,rfl,_,rfl,_,rfl,_,rfl,_,_,.int (((tailC L ns j)[(F[i]).2.length - 1]?).getD 0),lst_last,rfl,?_,rfl,?_⟩
    rotate_left
    ·rw [List.take_succ_eq_append_getElem hi',List.map_append]; rfl
    ·rw [List.length_map,<- Int.natCast_add]
     exact atI_nat (by rw [List.getElem?_map,hv]; rfl)
   ·rintro ys _ ⟨rfl,rfl⟩
    have e:F.take (F.map pD).length=F:=by rw [List.length_map,List.take_length]
    rw [show List.take _ F=F from e]
    have hs:(F.map fun p=>D.int (((tailC L ns j)[p.2.length - 1]?).getD 0))=(F.map fun p=>((tailC L ns j)[p.2.length - 1]?).getD 0).map .int:=by rw [List.map_map]; rfl
    refine ⟨_,F.map fun p=>((tailC L ns j)[p.2.length - 1]?).getD 0,rfl,by rw [hs]; rfl,?_⟩
    have hcs:(F.map fun p=>((tailC L ns j)[p.2.length - 1]?).getD 0).sum=cstep L ns (tailC L ns j) j:=by unfold cstep; rw [hF]
    rw [hcs]
    refine ⟨_,rfl,_,rfl,M.length,_,_,ns.length - 1 - j,rfl,rfl,at_last,?_,.inl ⟨_,rfl,?_⟩⟩
    ·rw [List.length_map,cnts_len (by omega)]
     exact (ixN_of (by omega) (by omega)).trans (by rw [Int.toNat_natCast])
    ·rw [set_last,<- List.map_set,cnts_set hj]
  ·rintro ρ M' ⟨v3,rfl,rfl⟩
   have en:(((ns.map D.int).length:Int) - 1 - -1).toNat=ns.length:=by omega
   refine ⟨_,rfl,.inl ?_⟩
   rw [show (rngDn (((ns.map D.int).length:Int) - 1) (((ns.map D.int).length:Int) - 1 - -1).toNat).n=ns.length from en]
   exact k
open L3
abbrev Cb:=Nat×Bg
def cbD (x:Cb):D:=.tup [.cell x.1,.int x.2.2]
def CbAt (n0:Nat) (M:Mem) (xs:List Cb):Prop:=∀ x∈xs,M[x.1]?=some (tx x.2.1)/\n0<=x.1
def CbAt.up {n0:Nat} {M X:Mem} {xs:List Cb} (h:CbAt n0 M xs):CbAt n0 (M++X) xs:=fun x hx=>⟨get_up (h x hx).1,(h x hx).2⟩
def CbAt.app {n0:Nat} {M:Mem} {xs ys:List Cb} (h:CbAt n0 M xs) (k:CbAt n0 M ys):CbAt n0 M (xs++ys):=fun x hx=>(List.mem_append.mp hx).elim (h x) (k x)
theorem CbAt.set {n0 k:Nat} {M:Mem} {m:MO} {xs:List Cb} (h:CbAt n0 M xs) (hk:k < n0):CbAt n0 (M.set k m) xs:=fun x hx=>⟨by rw [List.getElem?_set_ne (by have:=(h x hx).2; omega)]; exact (h x hx).1,(h x hx).2⟩
def set_one {M R:Mem} {m m':MO}:(M++[m]++R).set M.length m'=M++[m']++R:=by
 rw [List.append_assoc,List.set_append_right _ _ (Nat.le_refl _),Nat.sub_self,List.append_assoc]
 rfl
def at_one {M R:Mem} {m:MO}:(M++[m]++R)[M.length]?=some m:=get_up at_last
def dOsnC:Sp3:=fun ds M K=>∃ (d e:D) (c:Nat) (L:List Pr) (ns:List Int) (xs:List Cb),ds=[d,.tup (ns.map .int),e,.cell c]/\lstOf M d=some (L.map pD)/\lstOf M e=some (xs.map cbD)/\M[c]?=some (.lst ((cnts L ns ns.length).map .int))/\(ns.length<=1000/\Tb L/\xs.length<=1000/\CbAt 0 M xs/\∀ x∈xs,x.2.2<=ns.length/\x.2.1.length<=1000) /\
 ∀ (J:List MO) (ys:List Cb),ys.map (·.2)=osn L ns (xs.map (·.2))->CbAt (M.length + 1) (M++[.lst (ys.map cbD)]++J) ys->K (.cell M.length) (M++[.lst (ys.map cbD)]++J)
def osn_len {L:List Pr} {ns:List Int} (h:L.length<=40) (b:Bg):(osn1 L ns b).length<=40:=by
 unfold osn1
 rw [List.length_map]
 exact Nat.le_trans (List.length_filter_le _ _) (Nat.le_trans (List.length_filter_le _ _) h)
theorem osns_len {L:List Pr} {ns:List Int} (h:L.length<=40):∀ bs:List Bg,(osn L ns bs).length<=40 * bs.length
 | []=>Nat.le_refl _
 | b::bs=>by
  have h1:=osn_len (ns:=ns) h b
  have h2:=osns_len h bs (ns:=ns)
  unfold osn at h2 ⊢
  rw [List.flatMap_cons,List.length_append,List.length_cons]
  omega
theorem ok_one_sign_on (T:Txt mg) {C:Addr} (C_pairs_at:Cal P w K mg base "pairs_at" 1 ["table", "row", "place"] (L3.spOf ⟨C,K⟩ dPairs)) {f:Addr} {fd:FuncData} (F:Fun K "one_sign_on" "one_sign_on" s_one_sign_on f fd):FnOk P w K mg base CX0 2 f fd ["table", "row", "begun", "counts"] (L3.spOf ⟨C,K⟩ dOsnC):=by
 refine L3.Fun.ok3 F sc_one_sign_on (fun ds M K3 h=>?_) (fun cdv A outer s H E hr=>?_)
 ·obtain ⟨d,e,c,L,ns,xs,rfl,_⟩:=h
  rfl
 ·have SC:=sc_one_sign_on
  have hu:=hr.units
  have hu1:=hu_of hr
  have hr_pairs_at:Room 1 _:=hr.mono (by first | decide | omega)
  refine ⟨_,_,(pss_cons (ps_set (i:=4) SC.nd rfl (Or.inl rfl) (pe_lst pa_nil))
 (pss_cons (ps_for PassesOwn.never rfl (pi_list (pv 2)) (pg_tup (n:=2) rfl (pgs_cons (pg_name (i:=5) SC.nd rfl (Or.inl rfl)) (pgs_cons (pg_name (i:=6) SC.nd rfl (Or.inl rfl)) pgs_nil)) (by rfl))
 (pss_one (ps_for PassesOwn.never rfl (pi_list (pe_cal C_pairs_at hr_pairs_at rfl (pa_cons (pv 0) (pa_cons (pv 1) (pa_cons (pv 6) pa_nil))))) (pg_tup (n:=2) rfl (pgs_cons (pg_name (i:=7) SC.nd rfl (Or.inl rfl)) (pgs_cons (pg_name (i:=8) SC.nd rfl (Or.inl rfl)) pgs_nil)) (by rfl))
 (pss_one (ps_if (pt_cmpR op_gt (pe_ix (L3.ux_ix (K':=K) rfl) (pv 3) (pe_op (L3.ux_add (K':=K) rfl) (pv 6) (pe_callB (bk_len (K:=K) rfl) (by rfl) T.b_len PySem.boot_len (pa_cons (pv 8) pa_nil))) (fun _ _=>rfl)) pe_int (nomark _))
 (pss_one (ps_expr (pe_bm PySem.F.plainAttrs_list PySem.F.slot_list_append PySem.F.type_list_append mt_append (pv 4) (pa_cons (pe_tup (pa_cons (pe_op (L3.ux_add (K':=K) rfl) (pv 5) (pe_lst (pa_cons (pv 7) pa_nil))) (pa_cons (pe_op (L3.ux_add (K':=K) rfl) (pv 6) (pe_callB (bk_len (K:=K) rfl) (by rfl) T.b_len PySem.boot_len (pa_cons (pv 8) pa_nil))) pa_nil))) pa_nil))))
 pss_nil)))))
 (pss_one (ps_ret (pv 4))))),fun _=>(L3.s_seq (L3.s_asg (L3.s_lstC L3.s_nil) (L3.s_g 4))
 (L3.s_seq (L3.s_for (L3.s_il (L3.s_var 2)) (L3.s_gtup (L3.s_gcons (L3.s_g 5) (L3.s_gcons (L3.s_g 6) L3.s_gnil)))
 (L3.s_for (L3.s_il (L3.s_call (L3.s_cons (L3.s_var 0) (L3.s_cons (L3.s_var 1) (L3.s_cons (L3.s_var 6) L3.s_nil))))) (L3.s_gtup (L3.s_gcons (L3.s_g 7) (L3.s_gcons (L3.s_g 8) L3.s_gnil)))
 (L3.s_ifS (L3.s_test (L3.s_op L3.s_gt (L3.s_op L3.s_ix (L3.s_var 3) (L3.s_op L3.s_add (L3.s_var 6) (L3.s_cb L3.s_len (L3.s_cons (L3.s_var 8) L3.s_nil)))) L3.s_int))
 (L3.s_drop (L3.s_append (L3.s_var 4) (L3.s_cons (L3.s_tup (L3.s_cons (L3.s_op L3.s_addC (L3.s_var 5) (L3.s_lst (L3.s_cons (L3.s_var 7) L3.s_nil))) (L3.s_cons (L3.s_op L3.s_add (L3.s_var 6) (L3.s_cb L3.s_len (L3.s_cons (L3.s_var 8) L3.s_nil))) L3.s_nil))) L3.s_nil)))
 L3.s_next)))
 (L3.s_ret (L3.s_var 4)))),fun ds M Kk hM hD h=>?_⟩
  obtain ⟨d,e,c,L,ns,xs,rfl,h⟩:=h
  obtain ⟨e1,e2,e3,⟨ln,tb,lb,hC,hb⟩,k⟩:=h
  refine ⟨Nat.zero_le _,?_⟩
  refine ⟨_,rfl,_,lst_up e2,fun j ρ M'=>∃ (v5 v6 v7 v8:Option D) (J:List MO) (ys:List Cb),ρ=[some d,some (.tup (ns.map .int)),some e,some (.cell c),some (.cell M.length),v5,v6,v7,v8]/\M'=M++[.lst (ys.map cbD)]++J/\ys.map (·.2)=osn L ns ((xs.take j).map (·.2))/\CbAt (M.length + 1) M' ys,fun _ _ _ _ z=>by obtain ⟨_,_,_,_,_,_,_,rfl,_⟩:=z; exact lst_up (lst_up e2),⟨_,_,_,_,[],[],rfl,(List.append_nil _).symm,rfl,fun _ h=>nomatch h⟩,?_,?_⟩
  ·rintro j x ρ M' hj hx ⟨v5,v6,v7,v8,J,acc,rfl,rfl,ea,hA⟩
   obtain ⟨hj',rfl⟩:=item_map hx
   obtain ⟨b1,b2⟩:=hb _ (List.getElem_mem hj')
   have hc:=hC _ (List.getElem_mem hj')
   refine ⟨_,rfl,rfl,_,_,rfl,_,_,rfl,rfl,?_⟩
   refine ⟨_,rfl,_,rfl,_,rfl,d,L,ns,_,rfl,lst_up (lst_up e1),⟨b1,Nat.le_trans tb.1 (by decide)⟩,?_⟩
   have eT:osn L ns ((xs.take (j + 1)).map (·.2))=osn L ns ((xs.take j).map (·.2))++osn1 L ns xs[j].2:=by
    rw [List.take_succ_eq_append_getElem hj',List.map_append]
    unfold osn
    rw [List.flatMap_append]
    show _++(osn1 L ns xs[j].2++[])=_
    rw [List.append_nil]
   have la:=osns_len (ns:=ns) tb.1 ((xs.take j).map (·.2))
   have lt:((xs.take j).map (·.2)).length<=1000:=by rw [List.length_map,List.length_take]; omega
   rw [<- ea] at la eT
   rw [List.length_map] at la
   generalize xs[j]=b at b1 b2 eT hc
   have hF:∀ p∈L.filter (hit ns b.2.2),p∈L/\hit ns b.2.2 p=true:=fun p hp=>List.mem_filter.mp hp
   have lF:(L.filter (hit ns b.2.2)).length<=40:=Nat.le_trans (List.length_filter_le _ _) tb.1
   unfold osn1 at eT
   generalize L.filter (hit ns b.2.2)=F at hF lF eT
   refine ⟨_,rfl,fun i ρ M'=>∃ (v7 v8:Option D) (J:List MO) (ys:List Cb),ρ=[some d,some (.tup (ns.map .int)),some e,some (.cell c),some (.cell M.length),some (.cell b.1),some (.int b.2.2),v7,v8]/\M'=M++[.lst (ys.map cbD)]++J/\ys.map (·.2)=acc.map (·.2)++((F.take i).filter fun p=>decide (0 < cAt L ns (b.2.2 + p.2.length))).map (fun p=>(b.2.1++[p.1],b.2.2 + p.2.length))/\CbAt (M.length + 1) M' ys,fun _ _ _ _ _=>rfl,⟨_,_,J,acc,rfl,rfl,(List.append_nil _).symm,hA⟩,?_,?_⟩
   ·rintro i x ρ M' hi hx ⟨v7,v8,J,ys,rfl,rfl,ey,hY⟩
    obtain ⟨hi',rfl⟩:=item_map hx
    obtain ⟨p1,p2⟩:=hF _ (List.getElem_mem hi')
    have l1:=hit_len p2 (tb.2 _ (List.mem_map_of_mem p1)).1
    have ec:lstOf (M++[.lst (ys.map cbD)]++J) (.cell c)=some ((cnts L ns ns.length).map .int):=lst_up (lst_up (ls_ty (ls_at_ e3)).2.2)
    refine ⟨_,rfl,rfl,_,_,rfl,_,_,rfl,rfl,?_⟩
    refine ⟨_,rfl,_,rfl,_,rfl,_,rfl,_,_,D.int (cAt L ns (b.2.2 + F[i].2.length)),ec,rfl,?_,?_⟩
    ·rw [List.length_map,<- Int.natCast_add]
     exact atI_nat (by rw [List.getElem?_map,cnts_cAt l1]; rfl)
    refine ⟨_,_,rfl,rfl,_,rfl,?_⟩
    have lf:((F.take i).filter fun p=>decide (0 < cAt L ns (b.2.2 + p.2.length))).length<=40:=Nat.le_trans (List.length_filter_le _ _) (by rw [List.length_take]; omega)
    have ly:ys.length<=50000:=by have:=congrArg List.length ey; rw [List.length_map,List.length_append,List.length_map,List.length_map] at this; omega
    have eF:F.take (i + 1)=F.take i++[F[i]]:=List.take_succ_eq_append_getElem hi'
    by_cases z:0 < cAt L ns (b.2.2 + F[i].2.length)
    ·rw [decide_eq_true z]
     refine iteT ?_
     refine ⟨_,rfl,ls_some (ls_at_ at_one),_,rfl,_,rfl,(show 1<=sizeLine by decide),_,_,ls_at_ (get_up (get_up hc.1)),rfl,?_,_,rfl,_,rfl,_,rfl,(show 2<=sizeLine by decide),M.length,_,_,rfl,rfl,get_up at_one,?_,?_⟩
     ·rw [List.length_map]
      exact small_line (by show _ + 1<=_; omega)
     ·rw [List.length_map]
      exact Nat.lt_of_le_of_lt (by omega:_<=90000) (by decide)
     generalize eN:(M++[MO.lst (ys.map cbD)]++J).length=N
     have hN:M.length + 1<=N:=by rw [<- eN,List.length_append,List.length_append]; show _<=_ + 1 + _; omega
     have hY2:=(((hY.up (X:=[tx (b.2.1++[F[i].1])])).app (ys:=[(N,(b.2.1++[F[i].1],b.2.2 + F[i].2.length))]) fun x hx=>by
      rw [List.mem_singleton] at hx
      subst hx
      exact ⟨by show (_++[_])[N]?=_; rw [<- eN]; exact at_last,hN⟩).set (k:=M.length) (m:=.lst ((ys++[(N,(b.2.1++[F[i].1],b.2.2 + F[i].2.length))]).map cbD)) (Nat.lt_succ_self _))
     have et:MO.lst (b.2.1.map D.int++[D.int F[i].1])=tx (b.2.1++[F[i].1]):=by unfold tx; rw [List.map_append]; rfl
     rw [show MO.lst (List.map D.int b.2.1++[D.int (F[i]).1])=tx (b.2.1++[F[i].1]) from et]
     rw [List.append_assoc (M++_)] at hY2 ⊢
     rw [set_one] at hY2 ⊢
     have em:List.map cbD ys++[D.tup [D.cell N,D.int ((b.2.2:Int) + ((F[i].2.map D.int).length:Int))]]=(ys++[(N,(b.2.1++[F[i].1],b.2.2 + F[i].2.length))]).map cbD:=by
      rw [List.map_append,List.length_map]
      rfl
     rw [show List.map cbD ys++[D.tup [D.cell N,D.int ((b.2.2:Int) + ((F[i].2.map D.int).length:Int))]]=_ from em]
     refine .inl ⟨_,_,_,_,rfl,rfl,?_,hY2⟩
     ·rw [eF,List.filter_append,List.filter_cons,if_pos (decide_eq_true z),List.filter_nil,List.map_append,List.map_append,ey,List.append_assoc]
      rfl
    ·rw [decide_eq_false z]
     refine iteF (.inl ⟨_,_,J,ys,rfl,rfl,?_,hY⟩)
     rw [eF,List.filter_append,List.filter_cons,if_neg (by rw [decide_eq_true_iff]; exact z),List.filter_nil,List.append_nil]
     exact ey
   ·rintro ρ M' ⟨v7,v8,J,ys,rfl,rfl,ey,hY⟩
    have e:F.take (F.map pD).length=F:=by rw [List.length_map,List.take_length]
    rw [show List.take _ F=F from e] at ey
    exact .inl ⟨_,_,_,_,J,ys,rfl,rfl,by rw [eT]; exact ey,hY⟩
  ·rintro ρ M' ⟨v5,v6,v7,v8,J,ys,rfl,rfl,ey,hY⟩
   rw [show xs.take _=xs from (by rw [show (It3.n _)=(xs.map cbD).length from rfl,List.length_map,List.take_length])] at ey
   exact ⟨_,rfl,.inl (k J ys ey hY)⟩
open L3
def clD (x:Cb):D:=.cell x.1
def dAllX (XT:Addr):Sp3X:=fun ds M K KX=>∃ (d d2:D) (L:List Pr) (ns:List Int) (mo:Int),ds=[d,d2,.int mo]/\lstOf M d=some (L.map pD)/\lstOf M d2=some (ns.map .int)/\(ns.length<=1000/\Tb L/\(L.map (·.1)).Nodup/\mo<=200) /\
 (cntOf L ns<=mo->∀ (M':Mem) (c:Nat) (zs:List Cb),M<+:M'->M.length<=c->M'[c]?=some (.lst (zs.map clD))->(∀ z∈zs,M'[z.1]?=some (tx z.2.1)/\M.length<=z.1/\z.1≠c)->zs.length<=200->(zs.map (·.2.1)).Pairwise (fun a b=>HT.lexLt a b=true)->(∀ t,t∈zs.map (·.2.1)↔Rdg L ns t)->K (.cell c) M') /\
 (mo < cntOf L ns->∀ M',M<+:M'->KX XT [("most",.int mo)] M')
theorem ok_all_readings (T:Txt mg) {C:Addr} {X_TooMany:Addr} (RX_TooMany:Rx P w K mg base "TooMany" X_TooMany 1 ["self", "most"] (spX1 X_TooMany "most")) (C_counts_from:Cal P w K mg base "counts_from" 2 ["table", "row"] (L3.spOf ⟨C,K⟩ dCounts)) (C_one_sign_on:Cal P w K mg base "one_sign_on" 2 ["table", "row", "begun", "counts"] (L3.spOf ⟨C,K⟩ dOsnC)) {f:Addr} {fd:FuncData} (F:Fun K "all_readings" "all_readings" s_all_readings f fd):FnOk P w K mg base (CXE P w) 3 f fd ["table", "row", "most"] (L3.spOfX ⟨C,K⟩ (dAllX X_TooMany)):=by
 refine L3.Fun.okX3 F sc_all_readings (fun ds M K3 KX h=>?_) (fun cdv A outer s H E hr=>?_)
 ·obtain ⟨d,d2,L,ns,mo,rfl,_⟩:=h
  rfl
 ·have SC:=sc_all_readings
  have hu:=hr.units
  have hu1:=hu_of hr
  have hr_TooMany:Room 2 _:=hr.mono (by first | decide | omega)
  have hr_counts_from:Room 2 _:=hr.mono (by first | decide | omega)
  have hr_one_sign_on:Room 2 _:=hr.mono (by first | decide | omega)
  refine ⟨_,_,(pss_cons (ps_set (i:=3) SC.nd rfl (Or.inl rfl) (pe_callTy (bk_tup (K:=K) rfl) (by rfl) T.b_tuple PyProof.Rows.boot_tuple (pa_cons (pv 1) pa_nil)))
 (pss_cons (ps_set (i:=4) SC.nd rfl (Or.inl rfl) (pe_cal C_counts_from hr_counts_from rfl (pa_cons (pv 0) (pa_cons (pv 3) pa_nil))))
 (pss_cons (ps_if (pt_cmpR op_gt (pe_ix (L3.ux_ix (K':=K) rfl) (pv 4) pe_int (fun _ _=>rfl)) (pv 2) (nomark _))
 (pss_one (ps_raise RX_TooMany hr_TooMany rfl (pa_cons (pv 2) pa_nil)))
 pss_nil)
 (pss_cons (ps_set (i:=5) SC.nd rfl (Or.inl rfl) (pe_lst pa_nil))
 (pss_cons (ps_set (i:=6) SC.nd rfl (Or.inl rfl) (pe_lst (pa_cons (pe_tup (pa_cons (pe_lst pa_nil) (pa_cons pe_int pa_nil))) pa_nil)))
 (pss_cons (ps_while PassesOwn.leaving (pt_cmpR op_gt (pe_callB (bk_len (K:=K) rfl) (by rfl) T.b_len PySem.boot_len (pa_cons (pv 6) pa_nil)) pe_int (nomark _))
 (pss_cons (ps_expr (pe_bm PySem.F.plainAttrs_list PySem.F.slot_list_extend PySem.F.type_list_extend mt_extend (pv 5) (pa_cons (pe_comp (T:=["text", "place"]) (cs:=[1]) rfl (CScope.ok (by kernel_rfl)) (pi_list (pv 6)) (fun _ _ _ _=>(pg_tup (n:=2) rfl (pgs_cons (pg_name (i:=0) (nd_of (by kernel_rfl)) rfl (Or.inl rfl) (Or.inr rfl)) (pgs_cons (pg_name (i:=1) (nd_of (by kernel_rfl)) rfl (Or.inl rfl) (Or.inr rfl)) pgs_nil)) (by rfl))) (fun _ _ _ _=>(pts_one (pt_cmpR (L3.ux_eq (K':=K) rfl hu) (pv 1) (pe_callB (bk_len (K:=K) rfl) (by rfl) T.b_len PySem.boot_len (pa_cons (pv 2) pa_nil)) (nomark _)))) (fun _ _ _ _=>(pv 0)) (gk_tup (gks_cons (by decide) (gks_cons (by decide) gks_nil)))) pa_nil)))
 (pss_one (ps_set (i:=6) SC.nd rfl (Or.inl rfl) (pe_cal C_one_sign_on hr_one_sign_on rfl (pa_cons (pv 0) (pa_cons (pv 3) (pa_cons (pv 6) (pa_cons (pv 4) pa_nil)))))))))
 (pss_one (ps_ret (pe_callB (call_sortLM (K:=K) rfl (un_of hr)) (by rfl) T.b_sorted PyProof.Rows.boot_sorted (pa_cons (pv 5) pa_nil)))))))))),fun _ _ he hk hx=>(L3.s_seq (L3.s_asg (L3.s_cb L3.s_tuple (L3.s_cons (L3.s_var 1) L3.s_nil)) (L3.s_g 3))
 (L3.s_seq (L3.s_asg (L3.s_call (L3.s_cons (L3.s_var 0) (L3.s_cons (L3.s_var 3) L3.s_nil))) (L3.s_g 4))
 (L3.s_seq (L3.s_ifS (L3.s_test (L3.s_op L3.s_gt (L3.s_op L3.s_ix (L3.s_var 4) L3.s_int) (L3.s_var 2)))
 (L3.s_raise1 he hk hx (L3.s_cons (L3.s_var 2) L3.s_nil))
 L3.s_next)
 (L3.s_seq (L3.s_asg (L3.s_lstC L3.s_nil) (L3.s_g 5))
 (L3.s_seq (L3.s_asg (L3.s_lst (L3.s_cons (L3.s_tup (L3.s_cons (L3.s_lstC L3.s_nil) (L3.s_cons L3.s_int L3.s_nil))) L3.s_nil)) (L3.s_g 6))
 (L3.s_seq (L3.s_while (L3.s_test (L3.s_op L3.s_gt (L3.s_cb L3.s_len (L3.s_cons (L3.s_var 6) L3.s_nil)) L3.s_int))
 (L3.s_seq (L3.s_drop (L3.s_extend (L3.s_var 5) (L3.s_cons (L3.s_comp (L3.s_il (L3.s_var 6)) (L3.s_gtup (L3.s_gcons (L3.s_g 0) (L3.s_gcons (L3.s_g 1) L3.s_gnil))) (L3.s_test (L3.s_op L3.s_eq (L3.s_var 1) (L3.s_cb L3.s_len (L3.s_cons (L3.s_var 2) L3.s_nil)))) (L3.s_var 0)) L3.s_nil)))
 (L3.s_asg (L3.s_call (L3.s_cons (L3.s_var 0) (L3.s_cons (L3.s_var 3) (L3.s_cons (L3.s_var 6) (L3.s_cons (L3.s_var 4) L3.s_nil))))) (L3.s_g 6))))
 (L3.s_ret (L3.s_cb L3.s_sortMC (L3.s_cons (L3.s_var 5) L3.s_nil))))))))),fun ds M Kk KX hM hD h=>?_⟩
  obtain ⟨d,d2,L,ns,mo,rfl,h⟩:=h
  obtain ⟨e1,e2,⟨ln,tb,nd,m1⟩,kY,kN⟩:=h
  have hW:∀ p∈L,p.2≠[]:=fun p hp=>(tb.2 _ (List.mem_map_of_mem hp)).1
  have e2':seqOf M d2=some (ns.map .int):=by
   cases d2 with
   | tup _=>exact nomatch e2
   | _=>exact e2
  refine ⟨_,rfl,_,_,rfl,e2',?_⟩
  refine ⟨_,rfl,_,rfl,d,L,ns,rfl,e1,⟨ln,tb⟩,?_⟩
  refine ⟨_,rfl,_,_,_,lst_last,rfl,atI_nat (j:=0) (by rw [List.getElem?_map,cnts_all]; rfl),_,rfl,_,_,rfl,rfl,_,rfl,?_⟩
  refine ite2 (fun hz=>?_) (fun hz=>?_)
  ·have hz:=of_decide_eq_true hz
   exact ⟨_,rfl,_,rfl,kN (by omega) _ (List.prefix_append _ _)⟩
  have hz:cntOf L ns<=mo:=by have:=of_decide_eq_false (Bool.not_eq_true _ ▸ hz); omega
  have c1:cAt L ns 0<=mo:=hz
  refine ⟨Nat.zero_le _,?_⟩
  have el:(M++[MO.lst ((cnts L ns ns.length).map D.int)]).length=M.length + 1:=by rw [List.length_append]; rfl
  rw [el,List.append_assoc]
  refine ⟨Nat.zero_le _,?_⟩
  have el2:(M++([MO.lst ((cnts L ns ns.length).map D.int)]++[MO.lst []])).length=M.length + 2:=by rw [List.length_append]; rfl
  rw [el2]
  refine ⟨(show 2<=sizeLine by decide),(show 1<=sizeLine by decide),?_⟩
  refine ⟨fun m ρ' M'=>∃ (tc xs:List Cb) (e:D) (X:Mem) (k:Nat),ρ'=[some d,some d2,some (.int mo),some (.tup (ns.map .int)),some (.cell M.length),some (.cell (M.length + 1)),some e]/\M'=M++[.lst ((cnts L ns ns.length).map .int),.lst (tc.map clD)]++X/\(lstOf M' e=some (xs.map cbD)/\e≠.cell (M.length + 1))/\(CbAt (M.length + 2) M' xs/\CbAt (M.length + 2) M' tc)/\Rs L ns k (tc.map (·.2.1)) (xs.map (·.2))/\(xs.length<=200/\tc.length<=200)/\m=ns.length + 2 - k,
   ⟨_,[],[(M.length + 2,([],0))],_,[tx []],0,rfl,rfl,⟨rfl,fun z=>nomatch z⟩,⟨fun x hx=>?_,fun x hx=>nomatch hx⟩,.start,⟨(show 1<=200 by decide),(show 0<=200 by decide)⟩,rfl⟩,?_⟩
  ·rw [List.mem_singleton] at hx
   subst hx
   refine ⟨?_,Nat.le_refl _⟩
   show (_++[_])[M.length + 2]?=_
   rw [<- el2]
   exact at_last
  rintro m ρ1 M1 ⟨tc,xs,e,X,kk,rfl,rfl,⟨eb,ne⟩,⟨hx,ht⟩,rs,⟨lb,lts⟩,em⟩
  have up:∀ (X:Mem) (m1 m2:MO) {d:D} {xs:List D},lstOf M d=some xs->lstOf (M++[m1,m2]++X) d=some xs:=fun X _ _ _ _ h=>lst_up (lst_up h)
  have c0:∀ (X:Mem) (m:MO),(M++[MO.lst ((cnts L ns ns.length).map .int),m]++X)[M.length]?=some (.lst ((cnts L ns ns.length).map .int)):=fun X ts=>get_moreX two0
  have t0:∀ (X:Mem) (m m2:MO),(M++[m2,m]++X)[M.length + 1]?=some m:=fun X _ _=>get_moreX two1
  have s0:∀ (X:Mem) (m m2 m3:MO),(M++[m2,m]++X).set (M.length + 1) m3=M++[m2,m3]++X:=fun X _ _ _=>by
   rw [List.set_append_left _ _ (by rw [List.length_append]; show M.length + 1 < M.length + 2; omega),set21]
  refine ⟨_,rfl,?_⟩
  dsimp only [uNil]
  refine len_any eb ⟨_,_,rfl,rfl,_,rfl,?_⟩
  by_cases be:xs=[]
  ·subst be
   refine iteF ?_
   refine ⟨_,rfl,_,tc.map fun x=>(clD x,x.2.1),rfl,by rw [List.map_map]; exact (ls_ty (ls_at_ (t0 _ _ _))).2.1,⟨by rw [List.length_map]; omega,fun z hz=>?_,by rw [List.map_map]; exact rs.nt⟩,fun ys pm pw=>?_⟩
   ·obtain ⟨x,hx',rfl⟩:=List.mem_map.mp hz
    show lstOf _ (.cell x.1)=_
    simp only [lstOf,(ht x hx').1,tx]
   obtain ⟨tc',pm',rfl⟩:=L2.lift_perm pm rfl
   rw [List.map_map]
   rw [List.pairwise_map] at pw
   refine .inl (kY hz _ _ tc' ?_ ?_ List.getElem?_concat_length (fun z hz=>?_) (by rw [pm'.length_eq]; exact lts) (by rw [List.pairwise_map]; exact pw) fun t=>⟨fun h=>(rs.t t ((pm'.map _).mem_iff.mp h)).1,fun h=>(pm'.map _).mem_iff.mpr ?_⟩)
   ·rw [List.append_assoc,List.append_assoc]
    exact List.prefix_append _ _
   ·rw [List.append_assoc,List.length_append]
    exact Nat.le_add_right _ _
   ·obtain ⟨g1,g2⟩:=ht z (pm'.mem_iff.mp hz)
    have:=(List.getElem?_eq_some_iff.mp g1).1
    exact ⟨get_up g1,by omega,by omega⟩
   ·rcases rs.c t h with z | ⟨b,hb,_⟩
    ·exact z
    ·cases hb
  have bp:=List.length_pos_iff.mpr be
  rw [decide_eq_true (by rw [List.length_map]; omega)]
  refine iteT ?_
  have kn:kk<=ns.length:=by
   obtain ⟨b,hb⟩:=List.exists_mem_of_ne_nil xs be
   obtain ⟨h1,_,h3,_⟩:=rs.b b.2 (List.mem_map_of_mem hb)
   omega
  generalize eM1:M++[MO.lst ((cnts L ns ns.length).map D.int),MO.lst (tc.map clD)]++X=M1 at eb hx ht
  refine ⟨_,rfl,ls_some (ls_at_ (by rw [<- eM1]; exact t0 _ _ _)),_,rfl,_,eb,?_,fun i ys M'=>M'=M1/\ys=((xs.take i).filter fun b=>decide (b.2.2=ns.length)).map clD,fun _ _ _ _ z=>by rw [z.1]; exact eb,⟨rfl,rfl⟩,?_,?_⟩
  ·show (xs.map cbD).length<=sizeLine
   rw [List.length_map]
   exact small_line (by omega)
  ·rintro i x ys _ hi hx' ⟨rfl,rfl⟩
   obtain ⟨hi',rfl⟩:=item_map hx'
   refine ⟨_,rfl,rfl,_,_,rfl,_,_,rfl,rfl,?_⟩
   refine ⟨_,rfl,_,rfl,?_⟩
   dsimp only [uNil]
   refine len_any (by rw [<- eM1]; exact up _ _ _ e2) (.inl ⟨_,rfl,_,rfl,?_⟩)
   by_cases z:xs[i].2.2=ns.length
   ·rw [decide_eq_true (by rw [List.length_map,z])]
    refine iteT ⟨_,rfl,rfl,?_⟩
    rw [List.take_succ_eq_append_getElem hi',List.filter_append,List.filter_cons,if_pos (decide_eq_true z),List.filter_nil,List.map_append]
    rfl
   ·rw [decide_eq_false (by rw [List.length_map]; omega)]
    refine iteF ⟨rfl,?_⟩
    rw [List.take_succ_eq_append_getElem hi',List.filter_append,List.filter_cons,if_neg (by rw [decide_eq_true_iff]; exact z),List.filter_nil,List.append_nil]
  rintro ys _ ⟨rfl,rfl⟩
  have eB:xs.take (xs.map cbD).length=xs:=by rw [List.length_map,List.take_length]
  rw [show List.take _ xs=xs from eB]
  obtain ⟨rs2,pos2⟩:=rs.next hW nd
  have n2:=rs2.n
  have sl:=sum_len (f:=fun b=>cAt L ns b.2) pos2
  have eU:((xs.map (·.2)).filter fun b=>decide (b.2=ns.length)).map (·.1)=(xs.filter fun b=>decide (b.2.2=ns.length)).map (·.2.1):=by
   rw [List.filter_map,List.map_map]
   rfl
  rw [eU,<- List.map_append] at rs2 n2
  have hus:CbAt (M.length + 2) _ (xs.filter fun b=>decide (b.2.2=ns.length)):=fun x h=>hx x (List.mem_filter.mp h).1
  have lus:(xs.filter fun b=>decide (b.2.2=ns.length)).length<=200:=Nat.le_trans (List.length_filter_le _ _) lb
  generalize (xs.filter fun b=>decide (b.2.2=ns.length))=us at rs2 n2 hus lus
  subst eM1
  refine ⟨M.length + 1,_,_,_,rfl,rfl,t0 _ _ _,rfl,?_,?_⟩
  ·rw [List.length_map,List.length_map]
   exact small_line (by omega)
  rw [<- List.map_append,s0]
  have eb2:=lst_set (m:=.lst ((tc++us).map clD)) eb ne
  have hx2:=hx.set (k:=M.length + 1) (m:=.lst ((tc++us).map clD)) (Nat.lt_succ_self _)
  have ht2:=(ht.app hus).set (k:=M.length + 1) (m:=.lst ((tc++us).map clD)) (Nat.lt_succ_self _)
  rw [s0] at eb2 hx2 ht2
  refine ⟨_,rfl,_,rfl,_,rfl,_,rfl,d,e,M.length,L,ns,xs,rfl,up _ _ _ e1,eb2,c0 _ _,⟨ln,tb,by omega,fun x h=>⟨(hx2 x h).1,Nat.zero_le _⟩,fun x h=>by obtain ⟨h1,h2,h3,_⟩:=rs.b x.2 (List.mem_map_of_mem h); exact ⟨h1,by omega⟩⟩,fun J ys ey hY=>?_⟩
  have lX:(M++[MO.lst ((cnts L ns ns.length).map .int),.lst ((tc++us).map clD)]++X).length≥M.length + 2:=by rw [List.length_append,List.length_append]; show _<=M.length + 2 + X.length; omega
  have ly:ys.length=(osn L ns (xs.map (·.2))).length:=by rw [<- ey,List.length_map]
  rw [List.length_map,List.length_append] at n2
  have sp:0<=((osn L ns (xs.map (·.2))).map fun b=>cAt L ns b.2).sum:=by omega
  rw [<- ey] at rs2
  have f1:lstOf (M++[MO.lst ((cnts L ns ns.length).map .int),.lst ((tc++us).map clD)]++X++[.lst (ys.map cbD)]++J) (.cell (M++[MO.lst ((cnts L ns ns.length).map .int),.lst ((tc++us).map clD)]++X).length)=some (ys.map cbD):=(ls_ty (ls_at_ at_one)).2.1
  have f2:CbAt (M.length + 2) _ ys:=fun x h=>⟨(hY x h).1,by have:=(hY x h).2; omega⟩
  have f3:=(ht2.up (X:=[.lst (ys.map cbD)])).up (X:=J)
  rw [List.append_assoc (M++_),List.append_assoc (M++_)] at f1 f2 f3 ⊢
  exact ⟨ns.length + 2 - (kk + 1),by omega,.inl ⟨tc++us,ys,_,X++[.lst (ys.map cbD)]++J,kk + 1,rfl,rfl,⟨f1,fun z=>by have:=D.cell.inj z; omega⟩,⟨f2,f3⟩,rs2,⟨by omega,by rw [List.length_append]; omega⟩,rfl⟩⟩
open L3
def dWhole:Sp3:=fun ds M K=>∃ i:Int,ds=[.int i]/\K (.bl true) M
def ok__law_whole (T:Txt mg) {C:Addr}  {f:Addr} {fd:FuncData} (F:Fun K "_law_whole" "_law_whole" s__law_whole f fd):FnOk P w K mg base CX0 1 f fd ["_law_one"] (L3.spOf ⟨C,K⟩ dWhole):=by
 refine L3.Fun.ok3 F sc__law_whole (fun ds M K3 h=>?_) (fun cdv A outer s H E hr=>?_)
 ·obtain ⟨i,rfl,_⟩:=h
  rfl
 ·have SC:=sc__law_whole
  have hu:=hr.units
  have hu1:=hu_of hr
  refine ⟨_,_,(pss_one (ps_ret (pe_and (pe_callB (bk_isi (K:=K) rfl) (by rfl) T.b_isinstance PyProof.Rows.boot_isinstance (pa_cons (pv 0) (pa_cons (pe_bltn (v:=.ty "int") rfl T.b_int PyProof.Rows.boot_int rfl) pa_nil))) (pe_one (pe_not (pe_callB (bk_isi (K:=K) rfl) (by rfl) T.b_isinstance PyProof.Rows.boot_isinstance (pa_cons (pv 0) (pa_cons (pe_bltn (v:=.ty "bool") rfl T.b_bool PyProof.Rows.boot_bool rfl) pa_nil)))))))),fun _=>(L3.s_ret (L3.s_andV (L3.s_cb (L3.s_isi (T:=.int)) (L3.s_cons (L3.s_var 0) (L3.s_cons L3.s_ty L3.s_nil))) (L3.s_notV (L3.s_cb (L3.s_isi (T:=.bool)) (L3.s_cons (L3.s_var 0) (L3.s_cons L3.s_ty L3.s_nil)))))),fun ds M Kk hM hD h=>?_⟩
  obtain ⟨i,rfl,h⟩:=h
  refine ⟨_,rfl,_,_,rfl,rfl,_,rfl,iteT ⟨_,rfl,_,_,rfl,rfl,_,rfl,.inl h⟩⟩
def dTexts52:Sp3:=fun ds M K=>∃ (c:Nat) (d:D) (zs:List Cb),ds=[.cell c,d]/\(M[c]?=some (.lst (zs.map clD))/\lstOf M d=some ((zs.map (·.2.1)).map tx2))/\(zs.length<=200/\∀ z∈zs,M[z.1]?=some (tx z.2.1)/\z.2.1.length<=1000)/\K (.bl true) M
theorem ok__law_texts (T:Txt mg) {C:Addr} (C__law_whole:Cal P w K mg base "_law_whole" 1 ["_law_one"] (L3.spOf ⟨C,K⟩ dWhole)) {f:Addr} {fd:FuncData} (F:Fun K "_law_texts" "_law_texts" s__law_texts f fd):FnOk P w K mg base CX0 2 f fd ["_law_told_here", "_law_due"] (L3.spOf ⟨C,K⟩ dTexts52):=by
 refine L3.Fun.ok3 F sc__law_texts (fun ds M K3 h=>?_) (fun cdv A outer s H E hr=>?_)
 ·obtain ⟨c,d,zs,rfl,_⟩:=h
  rfl
 ·have SC:=sc__law_texts
  have hu:=hr.units
  have hu1:=hu_of hr
  have hr__law_whole:Room 1 _:=hr.mono (by first | decide | omega)
  refine ⟨_,_,(pss_cons (ps_if (PW.pt (pw_or (pt_not (pt_val (pe_callB (bk_isi (K:=K) rfl) (by rfl) T.b_isinstance PyProof.Rows.boot_isinstance (pa_cons (pv 0) (pa_cons (pe_bltn (v:=.ty "list") rfl T.b_list PyProof.Rows.boot_list rfl) pa_nil))))) (pw_or1 (pt_cmpR (L3.ux_ne (K':=K) rfl hu) (pe_callB (bk_len (K:=K) rfl) (by rfl) T.b_len PySem.boot_len (pa_cons (pv 0) pa_nil)) (pe_callB (bk_len (K:=K) rfl) (by rfl) T.b_len PySem.boot_len (pa_cons (pv 1) pa_nil)) (nomark _)))))
 (pss_one (ps_ret pe_bl))
 pss_nil)
 (pss_cons (ps_for PassesOwn.never rfl (pi_zip rfl T.b_zip (pa_cons (pv 0) (pa_cons (pv 1) pa_nil))) (pg_tup (n:=2) rfl (pgs_cons (pg_name (i:=2) SC.nd rfl (Or.inl rfl)) (pgs_cons (pg_name (i:=3) SC.nd rfl (Or.inl rfl)) pgs_nil)) (by rfl))
 (pss_one (ps_if (PW.pt (pw_or (pt_not (pt_val (pe_callB (bk_isi (K:=K) rfl) (by rfl) T.b_isinstance PyProof.Rows.boot_isinstance (pa_cons (pv 2) (pa_cons (pe_bltn (v:=.ty "list") rfl T.b_list PyProof.Rows.boot_list rfl) pa_nil))))) (pw_or (pt_cmpR (L3.ux_ne (K':=K) rfl hu) (pv 2) (pv 3) (nomark _)) (pw_or1 (pt_not (pt_val (pe_callB (L3.bk_all (K:=K) rfl rfl) (by rfl) T.b_all PyProof.Rows.boot_all (pa_cons (pe_comp (T:=["_law_sign"]) (cs:=[]) rfl (CScope.ok (by kernel_rfl)) (pi_list (pv 2)) (fun _ _ _ _=>(pg_name (i:=0) (nd_of (by kernel_rfl)) rfl (Or.inl rfl) (Or.inr rfl))) (fun _ _ _ _=>pts_nil) (fun _ _ _ _=>(pe_cal C__law_whole hr__law_whole rfl (pa_cons (pv 0) pa_nil))) (gk_name (by decide))) pa_nil))))))))
 (pss_one (ps_ret pe_bl))
 pss_nil)))
 (pss_one (ps_ret pe_bl)))),fun _=>(L3.s_seq (L3.s_ifS (L3.s_or (L3.s_not (L3.s_b (L3.s_cb (L3.s_isi (T:=.list)) (L3.s_cons (L3.s_var 0) (L3.s_cons L3.s_ty L3.s_nil))))) (L3.s_test (L3.s_op L3.s_ne (L3.s_cb L3.s_len (L3.s_cons (L3.s_var 0) L3.s_nil)) (L3.s_cb L3.s_len (L3.s_cons (L3.s_var 1) L3.s_nil)))))
 (L3.s_ret L3.s_bl)
 L3.s_next)
 (L3.s_seq (L3.s_for (L3.s_iz (L3.s_cons (L3.s_var 0) (L3.s_cons (L3.s_var 1) L3.s_nil))) (L3.s_gtup (L3.s_gcons (L3.s_g 2) (L3.s_gcons (L3.s_g 3) L3.s_gnil)))
 (L3.s_ifS (L3.s_or (L3.s_not (L3.s_b (L3.s_cb (L3.s_isi (T:=.list)) (L3.s_cons (L3.s_var 2) (L3.s_cons L3.s_ty L3.s_nil))))) (L3.s_or (L3.s_test (L3.s_op L3.s_ne (L3.s_var 2) (L3.s_var 3))) (L3.s_not (L3.s_b (L3.s_cb L3.s_all (L3.s_cons (L3.s_comp (L3.s_il (L3.s_var 2)) (L3.s_g 0) L3.s_true (L3.s_call (L3.s_cons (L3.s_var 0) L3.s_nil))) L3.s_nil))))))
 (L3.s_ret L3.s_bl)
 L3.s_next))
 (L3.s_ret L3.s_bl))),fun ds M Kk hM hD h=>?_⟩
  obtain ⟨c,d,zs,rfl,h⟩:=h
  obtain ⟨⟨e1,e2⟩,⟨lz,hz⟩,k⟩:=h
  have l1:lstOf M (.cell c)=some (zs.map clD):=(ls_ty (ls_at_ e1)).2.1
  refine ⟨_,rfl,_,_,rfl,(ls_ty (ls_at_ e1)).1,_,rfl,iteF ?_⟩
  refine ⟨_,rfl,?_⟩
  dsimp only [uNil]
  refine len_any l1 ⟨_,rfl,?_⟩
  dsimp only [uNil]
  refine len_any e2 (eqv_enc encInt (a:=_) (b:=_) ⟨_,rfl,?_⟩)
  rw [decide_eq_true (by rw [List.length_map,List.length_map,List.length_map])]
  refine iteF ?_
  refine ⟨_,rfl,_,rfl,_,_,_,_,rfl,l1,e2,fun i ρ' M'=>∃ v2 v3:Option D,ρ'=[some (.cell c),some d,v2,v3]/\M=M',fun _ _ _ _ h=>by obtain ⟨_,_,_,rfl⟩:=h; exact ⟨l1,e2⟩,⟨_,_,rfl,rfl⟩,?_,?_⟩
  ·rintro i _ ρ' _ hi ⟨p,q,ep,eq,rfl⟩ ⟨v2,v3,rfl,rfl⟩
   obtain ⟨hi',rfl⟩:=item_map ep
   rw [List.getElem?_map,List.getElem?_map,List.getElem?_eq_getElem hi'] at eq
   cases eq
   obtain ⟨g1,g2⟩:=hz _ (List.getElem_mem hi')
   generalize zs[i]=z at g1 g2
   have g3:lsOf M (.cell z.1)=some (z.2.1.map .int):=ls_at_ g1
   obtain ⟨t1,l1,_⟩:=ls_ty g3
   refine ⟨_,rfl,rfl,_,_,rfl,_,_,rfl,rfl,?_⟩
   refine ⟨_,rfl,_,_,rfl,t1,_,rfl,iteF ?_⟩
   refine ⟨_,rfl,_,rfl,eqv_seq encInt (a:=z.2.1) (b:=z.2.1) l1 rfl ⟨_,rfl,?_⟩⟩
   rw [decide_eq_true rfl]
   refine iteF ?_
   refine ⟨_,rfl,_,l1,?_,fun i ys M'=>M=M'/\ys=(List.replicate i true).map D.bl,fun _ _ _ _ h=>by rw [<- h.1]; exact l1,⟨rfl,rfl⟩,?_,?_⟩
   ·show (z.2.1.map D.int).length<=sizeLine
    rw [List.length_map]
    exact small_line (by omega)
   ·rintro j u ys _ hj hx ⟨rfl,rfl⟩
    obtain ⟨hj',rfl⟩:=item_int hx
    refine ⟨_,rfl,_,rfl,rfl,?_⟩
    rw [List.replicate_succ',List.map_append]
    rfl
   ·rintro ys _ ⟨rfl,rfl⟩
    refine ⟨_,_,rfl,rfl,_,rfl,?_⟩
    rw [show (List.replicate _ true).all id=true from List.all_eq_true.mpr fun x hx=>by rw [(List.mem_replicate.mp hx).2]; rfl]
    exact iteF (.inl ⟨_,_,rfl,rfl⟩)
  ·rintro ρ' _ ⟨v2,v3,rfl,rfl⟩
   exact .inl k
open L3
def set_self {xs:List Int} {i:Nat} {a:Int} (h:xs[i]?=some a):xs.set i a=xs:=by
 apply List.ext_getElem?
 intro k
 rw [List.getElem?_set]
 by_cases e:i=k
 ·subst e
  have hi:=(List.getElem?_eq_some_iff.mp h).1
  rw [if_pos rfl,if_pos hi,h]
 ·rw [if_neg e]
theorem cnts_zero {L:List Pr} {ns:List Int} {j:Nat} (hj:j < ns.length):(cnts L ns j)[ns.length - 1 - j]?=some 0:=by
 unfold cnts
 rw [List.getElem?_append_left (by rw [List.length_replicate]; omega),List.getElem?_replicate,if_pos (by omega)]
def cnts_first {L:List Pr} {ns:List Int}:(List.replicate (ns.length + 1) (0:Int)).set ns.length 1=cnts L ns 0:=by
 unfold cnts tailC
 rw [Nat.sub_zero,List.replicate_succ',List.set_append_right _ _ (by rw [List.length_replicate]; exact Nat.le_refl _),List.length_replicate,Nat.sub_self]
 rfl
def gOf (L:List Pr) (ns:List Int) (j:Nat) (p:Pr):Int:=((tailC L ns j)[p.2.length - 1]?).getD 0
def partC (L:List Pr) (ns:List Int) (j i:Nat):Int:=(((L.take i).filter (hit ns (ns.length - 1 - j))).map (gOf L ns j)).sum
def partC_succ {L:List Pr} {ns:List Int} {j i:Nat} (hi:i < L.length):partC L ns j (i + 1)=if hit ns (ns.length - 1 - j) L[i]=true then partC L ns j i + gOf L ns j L[i] else partC L ns j i:=by
 unfold partC
 rw [List.take_succ_eq_append_getElem hi,List.filter_append,List.map_append,List.sum_append]
 by_cases z:hit ns (ns.length - 1 - j) L[i]=true
 ·rw [if_pos z,List.filter_cons_of_pos z]; simp
 ·rw [if_neg z,List.filter_cons_of_neg z]; simp
def partC_all {L:List Pr} {ns:List Int} {j:Nat}:partC L ns j L.length=cstep L ns (tailC L ns j) j:=by
 unfold partC cstep
 rw [List.take_length]
 rfl
def sl_hitL {ns w:List Int} {pl:Nat} (h:pl<=ns.length) {M:Mem} {K:K3} (hk:K (.lst (((ns.drop pl).take w.length).map .int)) M):sl3 (.lst (ns.map .int)) (some (pl:Int)) (some ((pl:Int) + ((w.map D.int).length:Int))) M K:=by
 refine ⟨_,rfl,?_⟩
 rw [cut_map,List.length_map,cut_midI h]
 exact hk
def dCounts52:Sp3:=fun ds M K=>∃ (L:List Pr) (ns:List Int),ds=[.lst (L.map pD),.lst (ns.map .int)]/\(ns.length<=1000/\Tb L)/\K (.cell M.length) (M++[.lst ((cnts L ns ns.length).map .int)])
theorem ok__law_counts (T:Txt mg) {C:Addr}  {f:Addr} {fd:FuncData} (F:Fun K "_law_counts" "_law_counts" s__law_counts f fd):FnOk P w K mg base CX0 1 f fd ["_law_table", "_law_row"] (L3.spOf ⟨C,K⟩ dCounts52):=by
 refine L3.Fun.ok3 F sc__law_counts (fun ds M K3 h=>?_) (fun cdv A outer s H E hr=>?_)
 ·obtain ⟨L,ns,rfl,_⟩:=h
  rfl
 ·have SC:=sc__law_counts
  have hu:=hr.units
  have hu1:=hu_of hr
  refine ⟨_,_,(pss_cons (ps_set (i:=2) SC.nd rfl (Or.inl rfl) (pe_op L3.ux_mul (pe_lst (pa_cons pe_int pa_nil)) (pe_op (L3.ux_add (K':=K) rfl) (pe_callB (bk_len (K:=K) rfl) (by rfl) T.b_len PySem.boot_len (pa_cons (pv 1) pa_nil)) pe_int)))
 (pss_cons (ps_asg pe_int (pg_sub (pv 2) (pe_callB (bk_len (K:=K) rfl) (by rfl) T.b_len PySem.boot_len (pa_cons (pv 1) pa_nil)) set_list))
 (pss_cons (ps_for PassesOwn.never rfl (pi_rangeD rfl T.b_range (pa_cons (pe_op op_sub (pe_callB (bk_len (K:=K) rfl) (by rfl) T.b_len PySem.boot_len (pa_cons (pv 1) pa_nil)) pe_int) (pa_cons (pe_un un_neg pe_int) (pa_cons (pe_un un_neg pe_int) pa_nil)))) (pg_name (i:=3) SC.nd rfl (Or.inl rfl))
 (pss_one (ps_for PassesOwn.never rfl (pi_list (pv 0)) (pg_tup (n:=2) rfl (pgs_cons (pg_name (i:=4) SC.nd rfl (Or.inl rfl)) (pgs_cons (pg_name (i:=5) SC.nd rfl (Or.inl rfl)) pgs_nil)) (by rfl))
 (pss_one (ps_if (pt_cmpR (L3.ux_eq (K':=K) rfl hu) (pe_slice (L3.ux_sl (K':=K) rfl) (pv 1) (po_some (pv 3)) (po_some (pe_op (L3.ux_add (K':=K) rfl) (pv 3) (pe_callB (bk_len (K:=K) rfl) (by rfl) T.b_len PySem.boot_len (pa_cons (pv 5) pa_nil))))) (pe_callTy (bk_list (K:=K) rfl) (by rfl) T.b_list PyProof.Rows.boot_list (pa_cons (pv 5) pa_nil)) (nomark _))
 (pss_one (ps_augS (pv 2) (pv 3) pget_list (pe_ix (L3.ux_ix (K':=K) rfl) (pv 2) (pe_op (L3.ux_add (K':=K) rfl) (pv 3) (pe_callB (bk_len (K:=K) rfl) (by rfl) T.b_len PySem.boot_len (pa_cons (pv 5) pa_nil))) (fun _ _=>rfl)) ip_add set_list))
 pss_nil)))))
 (pss_one (ps_ret (pv 2)))))),fun _=>(L3.s_seq (L3.s_asg (L3.s_op L3.s_mulC (L3.s_lst (L3.s_cons L3.s_int L3.s_nil)) (L3.s_op L3.s_add (L3.s_cb L3.s_len (L3.s_cons (L3.s_var 1) L3.s_nil)) L3.s_int)) (L3.s_g 2))
 (L3.s_seq (L3.s_asg L3.s_int (L3.s_gsub (L3.s_var 2) (L3.s_cb L3.s_len (L3.s_cons (L3.s_var 1) L3.s_nil))))
 (L3.s_seq (L3.s_for (L3.s_irD (L3.s_cons (L3.s_op L3.s_sub (L3.s_cb L3.s_len (L3.s_cons (L3.s_var 1) L3.s_nil)) L3.s_int) (L3.s_cons (L3.s_un L3.s_neg L3.s_int) (L3.s_cons (L3.s_un L3.s_neg L3.s_int) L3.s_nil)))) (L3.s_g 3)
 (L3.s_for (L3.s_il (L3.s_var 0)) (L3.s_gtup (L3.s_gcons (L3.s_g 4) (L3.s_gcons (L3.s_g 5) L3.s_gnil)))
 (L3.s_ifS (L3.s_test (L3.s_op L3.s_eq (L3.s_sl L3.s_sl3 (L3.s_var 1) (L3.s_part (L3.s_var 3)) (L3.s_part (L3.s_op L3.s_add (L3.s_var 3) (L3.s_cb L3.s_len (L3.s_cons (L3.s_var 5) L3.s_nil))))) (L3.s_cb L3.s_list (L3.s_cons (L3.s_var 5) L3.s_nil))))
 (L3.s_augS (L3.s_var 2) (L3.s_var 3) (L3.s_op L3.s_ix (L3.s_var 2) (L3.s_op L3.s_add (L3.s_var 3) (L3.s_cb L3.s_len (L3.s_cons (L3.s_var 5) L3.s_nil)))))
 L3.s_next)))
 (L3.s_ret (L3.s_var 2))))),fun ds M Kk hM hD h=>?_⟩
  obtain ⟨L,ns,rfl,h⟩:=h
  obtain ⟨⟨hl,hL,hW⟩,k⟩:=h
  have lm:(ns.map D.int).length=ns.length:=List.length_map _
  refine ⟨(show 1<=sizeLine by decide),_,rfl,_,rfl,_,_,rfl,rfl,⟨by omega,by omega,?_⟩,?_⟩
  ·show 1 * _<=sizeLine
   exact small_line (by omega)
  have e0:(List.replicate (((ns.map D.int).length:Int) + 1).toNat [D.int 0]).flatten=(List.replicate (ns.length + 1) (0:Int)).map .int:=by
   rw [rep_flat,lm,List.map_replicate]
   congr 1
  rw [e0]
  refine ⟨_,rfl,_,rfl,_,rfl,M.length,_,_,ns.length,rfl,rfl,at_last,?_,?_⟩
  ·rw [List.length_map,List.length_replicate]
   exact (ixN_of (by omega) (by omega)).trans (by rw [lm,Int.toNat_natCast])
  rw [set_last,show D.int 1=(.int:Int->D) 1 from rfl,<- List.map_set,cnts_first (L:=L)]
  refine ⟨_,rfl,_,rfl,_,_,rfl,rfl,_,rfl,_,rfl,_,_,rfl,⟨by omega,by omega,by omega,by omega⟩,?_⟩
  refine ⟨fun j ρ M'=>∃ v3 v4 v5,ρ=[some (.lst (L.map pD)),some (.lst (ns.map .int)),some (.cell M.length),v3,v4,v5]/\M'=M++[.lst ((cnts L ns j).map .int)],fun _ _ _ _ _=>trivial,⟨_,_,_,rfl,rfl⟩,?_,?_⟩
  ·rintro j x ρ M' hj hx ⟨v3,v4,v5,rfl,rfl⟩
   have hj:j < ns.length:=by
    have:j < (((ns.map D.int).length:Int) - 1 - -1).toNat:=hj
    omega
   obtain rfl:x=.int ((ns.length - 1 - j:Nat):Int):=hx.trans (by congr 1; omega)
   refine ⟨_,rfl,_,rfl,fun i ρ M'=>∃ v4 v5,ρ=[some (.lst (L.map pD)),some (.lst (ns.map .int)),some (.cell M.length),some (.int ((ns.length - 1 - j:Nat):Int)),v4,v5]/\M'=M++[.lst (((cnts L ns j).set (ns.length - 1 - j) (partC L ns j i)).map .int)],fun _ _ _ _ _=>rfl,⟨_,_,rfl,by rw [show partC L ns j 0=0 from rfl,set_self (cnts_zero hj)]⟩,?_,?_⟩
   ·rintro i x ρ M' hi hx ⟨v4,v5,rfl,rfl⟩
    obtain ⟨hi',rfl⟩:=item_map hx
    have hne:=(hW _ (List.mem_map_of_mem (List.getElem_mem hi'))).1
    have hpos:=List.length_pos_iff.mpr hne
    refine ⟨_,rfl,rfl,_,_,rfl,_,_,rfl,rfl,?_⟩
    have hcl:=cnts_len (L:=L) (Nat.le_of_lt hj)
    refine ⟨_,rfl,_,rfl,_,rfl,_,rfl,_,rfl,_,rfl,_,rfl,?_⟩
    refine sl_hitL (by omega) ⟨_,rfl,_,_,rfl,rfl,eqI ⟨_,rfl,?_⟩⟩
    by_cases z:hit ns (ns.length - 1 - j) L[i]=true
    ·rw [show decide ((ns.drop (ns.length - 1 - j)).take (L[i]).2.length=(L[i]).2)=true from z]
     have hv:=cnts_at (L:=L) hj z hne
     have hln:=hit_len z hne
     refine iteT ⟨_,rfl,_,rfl,M.length,ns.length - 1 - j,_,partC L ns j i,rfl,rfl,at_last,?_,?_⟩
     ·rw [List.getElem?_map,List.getElem?_set_self (by omega)]; rfl
     refine ⟨_,rfl,_,rfl,_,rfl,_,rfl,_,_,.int (gOf L ns j L[i]),lst_last,rfl,?_,_,_,ns.length - 1 - j,rfl,at_last,?_,.inl ⟨_,_,rfl,?_⟩⟩
     ·rw [List.length_map,<- Int.natCast_add]
      refine atI_nat ?_
      rw [List.getElem?_map,List.getElem?_set_ne (by omega),hv]
      rfl
     ·rw [List.length_map,List.length_set,hcl]
      exact (ixN_of (by omega) (by omega)).trans (by rw [Int.toNat_natCast])
     ·rw [set_last,<- List.map_set,List.set_set,partC_succ hi',if_pos z]
    ·rw [show decide ((ns.drop (ns.length - 1 - j)).take (L[i]).2.length=(L[i]).2)=false from Bool.eq_false_iff.mpr z]
     exact iteF (.inl ⟨_,_,rfl,by rw [partC_succ hi',if_neg z]⟩)
   ·rintro ρ M' ⟨v4,v5,rfl,rfl⟩
    refine .inl ⟨_,_,_,rfl,?_⟩
    rw [show partC L ns j (L.map pD).length=partC L ns j L.length by rw [List.length_map],partC_all,cnts_set hj]
  ·rintro ρ M' ⟨v3,v4,v5,rfl,rfl⟩
   have en:(((ns.map D.int).length:Int) - 1 - -1).toNat=ns.length:=by omega
   rw [show (rngDn (((ns.map D.int).length:Int) - 1) (((ns.map D.int).length:Int) - 1 - -1).toNat).n=ns.length from en]
   exact ⟨_,rfl,.inl k⟩
open L3
def bgL (b:Bg):D:=.lst [.lst (b.1.map .int),.int b.2]
def encPrL {τ υ:Type} [DecidableEq τ] [DecidableEq υ] (E:Enc τ) (F:Enc υ) (h:E.n<=50:=by decide) (h':F.n<=50:=by decide):Enc (τ×υ) where
 e p:=.lst [E.e p.1,F.e p.2]
 py p:=.list [E.py p.1,F.py p.2]
 n:=max E.n F.n + 1
 ok:=fun M p=>.seq rfl (.cons (E.ok M _) (.cons (F.ok M _) .nil))
 shp:=fun p=>shp_list fun d hd=>by
  rcases List.mem_cons.mp hd with z | hd
  ·rw [z]; exact shp_up (E.shp _) (Nat.le_max_left _ _)
  ·rw [List.mem_singleton.mp hd]; exact shp_up (F.shp _) (Nat.le_max_right _ _)
 eq:=fun a b=>by
  obtain ⟨a1,a2⟩:=a
  obtain ⟨b1,b2⟩:=b
  rw [PyData.eqv,PyData.eqvAll,PyData.eqvAll,PyData.eqvAll,E.eq,F.eq]
  simp
 hn:=by omega
def encNat:Enc Nat:=⟨fun n=>.int n,fun n=>.int n,0,fun _ _=>.int _,fun _=>shp_int _,fun a b=>by rw [PyData.eqv,Bool.beq_eq_decide_eq,decide_eq_decide]; exact Int.ofNat_inj,by decide⟩
def encBg:Enc Bg:=encPrL (encLst encInt) encNat
def dLAll52:Sp3:=fun ds M K=>∃ (c:Nat) (L:List Pr) (ns:List Int),ds=[.lst (L.map pD),.lst (ns.map .int),.cell c]/\M[c]?=some (.lst ((cnts L ns ns.length).map .int))/\(ns.length<=1000/\Tb L/\(L.map (·.1)).Nodup/\cntOf L ns<=200) /\
 ∀ us:List (List Int),us.length<=200->us.Pairwise (fun a b=>HT.lexLt a b=true)->(∀ t,t∈us↔Rdg L ns t)->K (.lst (us.map tx2)) M
theorem ok__law_all (T:Txt mg) {C:Addr}  {f:Addr} {fd:FuncData} (F:Fun K "_law_all" "_law_all" s__law_all f fd):FnOk P w K mg base CX0 1 f fd ["_law_table", "_law_row", "_law_ways"] (L3.spOf ⟨C,K⟩ dLAll52):=by
 refine L3.Fun.ok3 F sc__law_all (fun ds M K3 h=>?_) (fun cdv A outer s H E hr=>?_)
 ·obtain ⟨c,L,ns,rfl,_⟩:=h
  rfl
 ·have SC:=sc__law_all
  have hu:=hr.units
  have hu1:=hu_of hr
  refine ⟨_,_,(pss_cons (ps_set (i:=3) SC.nd rfl (Or.inl rfl) (pe_lst (pa_cons (pe_lst (pa_cons (pe_lst pa_nil) (pa_cons pe_int pa_nil))) pa_nil)))
 (pss_cons (ps_set (i:=4) SC.nd rfl (Or.inl rfl) (pe_lst pa_nil))
 (pss_cons (ps_while PassesOwn.never (pt_cmpR (L3.ux_ne (K':=K) rfl hu) (pv 3) (pe_lst pa_nil) (nomark _))
 (pss_cons (ps_set (i:=5) SC.nd rfl (Or.inl rfl) (pe_lst pa_nil))
 (pss_cons (ps_for PassesOwn.never rfl (pi_list (pv 3)) (pg_lst (n:=2) rfl (pgs_cons (pg_name (i:=6) SC.nd rfl (Or.inl rfl)) (pgs_cons (pg_name (i:=7) SC.nd rfl (Or.inl rfl)) pgs_nil)) (by rfl))
 (pss_cons (ps_if (pt_cmpR (L3.ux_eq (K':=K) rfl hu) (pv 7) (pe_callB (bk_len (K:=K) rfl) (by rfl) T.b_len PySem.boot_len (pa_cons (pv 1) pa_nil)) (nomark _))
 (pss_one (ps_expr (pe_bm PySem.F.plainAttrs_list PySem.F.slot_list_append PySem.F.type_list_append mt_append (pv 4) (pa_cons (pv 6) pa_nil))))
 pss_nil)
 (pss_one (ps_for PassesOwn.never rfl (pi_list (pv 0)) (pg_tup (n:=2) rfl (pgs_cons (pg_name (i:=8) SC.nd rfl (Or.inl rfl)) (pgs_cons (pg_name (i:=9) SC.nd rfl (Or.inl rfl)) pgs_nil)) (by rfl))
 (pss_one (ps_if (PW.pt (pw_and (pt_cmpR (L3.ux_eq (K':=K) rfl hu) (pe_slice (L3.ux_sl (K':=K) rfl) (pv 1) (po_some (pv 7)) (po_some (pe_op (L3.ux_add (K':=K) rfl) (pv 7) (pe_callB (bk_len (K:=K) rfl) (by rfl) T.b_len PySem.boot_len (pa_cons (pv 9) pa_nil))))) (pe_callTy (bk_list (K:=K) rfl) (by rfl) T.b_list PyProof.Rows.boot_list (pa_cons (pv 9) pa_nil)) (nomark _)) (pw_and1 (pt_cmpR op_gt (pe_ix (L3.ux_ix (K':=K) rfl) (pv 2) (pe_op (L3.ux_add (K':=K) rfl) (pv 7) (pe_callB (bk_len (K:=K) rfl) (by rfl) T.b_len PySem.boot_len (pa_cons (pv 9) pa_nil))) (fun _ _=>rfl)) pe_int (nomark _)))))
 (pss_one (ps_expr (pe_bm PySem.F.plainAttrs_list PySem.F.slot_list_append PySem.F.type_list_append mt_append (pv 5) (pa_cons (pe_lst (pa_cons (pe_op (L3.ux_add (K':=K) rfl) (pv 6) (pe_lst (pa_cons (pv 8) pa_nil))) (pa_cons (pe_op (L3.ux_add (K':=K) rfl) (pv 7) (pe_callB (bk_len (K:=K) rfl) (by rfl) T.b_len PySem.boot_len (pa_cons (pv 9) pa_nil))) pa_nil))) pa_nil))))
 pss_nil))))))
 (pss_one (ps_set (i:=3) SC.nd rfl (Or.inl rfl) (pv 5))))))
 (pss_one (ps_ret (pe_callB (call_sortLM (K:=K) rfl (un_of hr)) (by rfl) T.b_sorted PyProof.Rows.boot_sorted (pa_cons (pv 4) pa_nil))))))),fun _=>(L3.s_seq (L3.s_asg (L3.s_lst (L3.s_cons (L3.s_lst (L3.s_cons (L3.s_lst L3.s_nil) (L3.s_cons L3.s_int L3.s_nil))) L3.s_nil)) (L3.s_g 3))
 (L3.s_seq (L3.s_asg (L3.s_lstC L3.s_nil) (L3.s_g 4))
 (L3.s_seq (L3.s_while (L3.s_test (L3.s_op L3.s_ne (L3.s_var 3) (L3.s_lst L3.s_nil)))
 (L3.s_seq (L3.s_asg (L3.s_lstC L3.s_nil) (L3.s_g 5))
 (L3.s_seq (L3.s_for (L3.s_il (L3.s_var 3)) (L3.s_glst (L3.s_gcons (L3.s_g 6) (L3.s_gcons (L3.s_g 7) L3.s_gnil)))
 (L3.s_seq (L3.s_ifS (L3.s_test (L3.s_op L3.s_eq (L3.s_var 7) (L3.s_cb L3.s_len (L3.s_cons (L3.s_var 1) L3.s_nil))))
 (L3.s_drop (L3.s_append (L3.s_var 4) (L3.s_cons (L3.s_var 6) L3.s_nil)))
 L3.s_next)
 (L3.s_for (L3.s_il (L3.s_var 0)) (L3.s_gtup (L3.s_gcons (L3.s_g 8) (L3.s_gcons (L3.s_g 9) L3.s_gnil)))
 (L3.s_ifS (L3.s_and (L3.s_test (L3.s_op L3.s_eq (L3.s_sl L3.s_sl3 (L3.s_var 1) (L3.s_part (L3.s_var 7)) (L3.s_part (L3.s_op L3.s_add (L3.s_var 7) (L3.s_cb L3.s_len (L3.s_cons (L3.s_var 9) L3.s_nil))))) (L3.s_cb L3.s_list (L3.s_cons (L3.s_var 9) L3.s_nil)))) (L3.s_test (L3.s_op L3.s_gt (L3.s_op L3.s_ix (L3.s_var 2) (L3.s_op L3.s_add (L3.s_var 7) (L3.s_cb L3.s_len (L3.s_cons (L3.s_var 9) L3.s_nil)))) L3.s_int)))
 (L3.s_drop (L3.s_append (L3.s_var 5) (L3.s_cons (L3.s_lst (L3.s_cons (L3.s_op L3.s_add (L3.s_var 6) (L3.s_lst (L3.s_cons (L3.s_var 8) L3.s_nil))) (L3.s_cons (L3.s_op L3.s_add (L3.s_var 7) (L3.s_cb L3.s_len (L3.s_cons (L3.s_var 9) L3.s_nil))) L3.s_nil))) L3.s_nil)))
 L3.s_next))))
 (L3.s_asg (L3.s_var 5) (L3.s_g 3)))))
 (L3.s_ret (L3.s_cb L3.s_sortM (L3.s_cons (L3.s_var 4) L3.s_nil)))))),fun ds M Kk hM hD h=>?_⟩
  obtain ⟨c,L,ns,rfl,h⟩:=h
  obtain ⟨e3,⟨ln,tb,nd,c1⟩,k⟩:=h
  have hW:∀ p∈L,p.2≠[]:=fun p hp=>(tb.2 _ (List.mem_map_of_mem hp)).1
  have c1:cAt L ns 0<=200:=c1
  refine ⟨Nat.zero_le _,(show 2<=sizeLine by decide),(show 1<=sizeLine by decide),Nat.zero_le _,?_⟩
  refine ⟨fun m ρ' M'=>∃ (ts:List (List Int)) (bs:List Bg) (e:D) (X:Mem) (v5 v6 v7 v8 v9:Option D) (k:Nat),ρ'=[some (.lst (L.map pD)),some (.lst (ns.map .int)),some (.cell c),some e,some (.cell M.length),v5,v6,v7,v8,v9]/\M'=M++[.lst (ts.map tx2)]++X/\(lstOf M' e=some (bs.map bgL)/\e≠.cell M.length)/\Rs L ns k ts bs/\(bs.length<=200/\ts.length<=200)/\m=ns.length + 2 - k,
   ⟨_,[],[([],0)],_,[],_,_,_,_,_,0,rfl,(List.append_nil _).symm,⟨rfl,fun z=>nomatch z⟩,.start,⟨(show 1<=200 by decide),(show 0<=200 by decide)⟩,rfl⟩,?_⟩
  rintro m ρ1 M1 ⟨ts,bs,e,X,v5,v6,v7,v8,v9,kk,rfl,rfl,⟨eb,ne⟩,rs,⟨lb,lts⟩,em⟩
  have mem:∀ (T:List (List Int)) (Y:Mem),M++[MO.lst (T.map tx2)]++X++Y=(M++[MO.lst (ts.map tx2)]++X).set M.length (.lst (T.map tx2))++Y:=fun T Y=>by rw [set_one]
  have eb':∀ (T:List (List Int)) (Y:Mem),lstOf (M++[MO.lst (T.map tx2)]++X++Y) e=some (bs.map bgL):=fun T Y=>by
   rw [mem]
   exact lst_up (lst_set eb ne)
  have ec:∀ (m:MO) (Y:Mem),lstOf (M++[m]++Y) (.cell c)=some ((cnts L ns ns.length).map .int):=fun m Y=>lst_up (lst_up (ls_ty (ls_at_ e3)).2.2)
  have ec2:∀ (m:MO) (Y Y2:Mem),lstOf (M++[m]++Y++Y2) (.cell c)=some ((cnts L ns ns.length).map .int):=fun m Y Y2=>lst_up (ec m Y)
  refine ⟨_,rfl,Nat.zero_le _,eqv_seq encBg (a:=bs) (b:=[]) eb rfl ⟨_,rfl,?_⟩⟩
  by_cases be:bs=[]
  ·subst be
   refine iteF ?_
   refine ⟨_,rfl,_,ts.map fun t=>(tx2 t,t),rfl,by rw [List.map_map]; exact (ls_ty (ls_at_ at_one)).2.1,⟨by rw [List.length_map]; omega,fun z hz=>?_,by rw [List.map_map]; exact (List.map_id _).symm ▸ rs.nt⟩,fun ys pm pw=>?_⟩
   ·obtain ⟨x,hx',rfl⟩:=List.mem_map.mp hz
    rfl
   obtain ⟨us,pm',rfl⟩:=L2.lift_perm pm rfl
   rw [List.map_map]
   rw [List.pairwise_map] at pw
   rw [List.append_assoc]
   refine dk_drop pre1 hM (below_lst (below_map (fun t=>below_lst (below_map (fun _=>below_int) t)) us)) (k us (by rw [pm'.length_eq]; omega) pw fun t=>⟨fun h=>(rs.t t (pm'.mem_iff.mp h)).1,fun h=>pm'.mem_iff.mpr ?_⟩)
   rcases rs.c t h with z | ⟨b,hb,_⟩
   ·exact z
   ·cases hb
  rw [decide_eq_false be]
  refine iteT ?_
  have kn:kk<=ns.length:=by
   obtain ⟨b,hb⟩:=List.exists_mem_of_ne_nil bs be
   obtain ⟨h1,_,h3,_⟩:=rs.b b hb
   omega
  refine ⟨Nat.zero_le _,?_⟩
  obtain ⟨N,eN⟩:∃ N,N=(M++[MO.lst (ts.map tx2)]++X).length:=⟨_,rfl⟩
  have eN':∀ T:List (List Int),(M++[MO.lst (T.map tx2)]++X).length=N:=fun T=>by rw [eN]; simp only [List.length_append]; rfl
  rw [eN']
  refine ⟨_,rfl,_,lst_up eb,fun j ρ M'=>∃ v6 v7 v8 v9:Option D,ρ=[some (.lst (L.map pD)),some (.lst (ns.map .int)),some (.cell c),some e,some (.cell M.length),some (.cell N),v6,v7,v8,v9]/\M'=M++[.lst ((ts++((bs.take j).filter fun b=>decide (b.2=ns.length)).map (·.1)).map tx2)]++X++[.lst ((osn L ns (bs.take j)).map bgL)],fun _ _ _ _ z=>by obtain ⟨_,_,_,_,_,rfl⟩:=z; exact eb' _ _,⟨_,_,_,_,rfl,?_⟩,?_,?_⟩
  ·rw [List.take_zero,List.filter_nil,List.map_nil,List.append_nil]
   rfl
  ·rintro j x ρ M' hj hx ⟨v6,v7,v8,v9,rfl,rfl⟩
   obtain ⟨hj',rfl⟩:=item_map hx
   obtain ⟨b1,b2,b3,_⟩:=rs.b _ (List.getElem_mem hj')
   refine ⟨_,rfl,rfl,_,_,rfl,_,_,rfl,rfl,?_⟩
   have eT:osn L ns (bs.take (j + 1))=osn L ns (bs.take j)++osn1 L ns bs[j]:=by
    rw [List.take_succ_eq_append_getElem hj']
    unfold osn
    rw [List.flatMap_append,List.flatMap_cons,List.flatMap_nil,List.append_nil]
   have la:=osns_len (ns:=ns) tb.1 (bs.take j)
   have lt:(bs.take j).length<=200:=by rw [List.length_take]; omega
   have eF:ts++((bs.take (j + 1)).filter fun b=>decide (b.2=ns.length)).map (·.1)=(ts++((bs.take j).filter fun b=>decide (b.2=ns.length)).map (·.1))++if bs[j].2=ns.length then [bs[j].1] else []:=by
    rw [List.take_succ_eq_append_getElem hj',List.filter_append,List.map_append,List.append_assoc]
    congr 2
    by_cases z:bs[j].2=ns.length
    ·rw [List.filter_cons,if_pos (decide_eq_true z),if_pos z]; rfl
    ·rw [List.filter_cons,if_neg (by rw [decide_eq_true_iff]; exact z),if_neg z]; rfl
   have lfl:(ts++((bs.take j).filter fun b=>decide (b.2=ns.length)).map (·.1)).length<=400:=by
    have:=List.length_filter_le (fun b:Bg=>decide (b.2=ns.length)) (bs.take j)
    rw [List.length_append,List.length_map]
    omega
   generalize ts++((bs.take j).filter fun b=>decide (b.2=ns.length)).map (·.1)=T at lfl eF ⊢
   generalize osn L ns (bs.take j)=acc at la eT ⊢
   generalize bs[j]=b at b1 b2 b3 eF eT ⊢
   refine st_by (fun ρ' M'=>ρ'=[some (.lst (L.map pD)),some (.lst (ns.map .int)),some (.cell c),some e,some (.cell M.length),some (.cell N),some (tx2 b.1),some (.int b.2),v8,v9]/\M'=M++[.lst ((T++if b.2=ns.length then [b.1] else []).map tx2)]++X++[.lst (acc.map bgL)]) (fun Kn hn=>?_) ?_
   ·refine ⟨_,rfl,_,rfl,?_⟩
    dsimp only [uNil]
    refine len_any rfl (.inl ⟨_,rfl,_,rfl,?_⟩)
    by_cases z:b.2=ns.length
    ·rw [decide_eq_true (by rw [List.length_map,z])]
     refine iteT ⟨_,rfl,ls_some (ls_at_ (get_up at_one)),_,rfl,M.length,_,_,rfl,rfl,get_up at_one,?_,hn _ _ ⟨rfl,?_⟩⟩
     ·rw [List.length_map]
      exact Nat.lt_of_le_of_lt (by omega:_<=90000) (by decide)
     ·rw [if_pos z,List.append_assoc (M++_),set_one,<- List.append_assoc,List.map_append]
      rfl
    ·rw [decide_eq_false (by rw [List.length_map]; omega)]
     exact iteF (hn _ _ ⟨rfl,by rw [if_neg z,List.append_nil]⟩)
   rintro _ _ ⟨rfl,rfl⟩
   generalize (T++if b.2=ns.length then [b.1] else [])=T' at eF ⊢
   unfold osn1 at eT
   refine ⟨_,rfl,_,rfl,fun i ρ M'=>∃ v8 v9:Option D,ρ=[some (.lst (L.map pD)),some (.lst (ns.map .int)),some (.cell c),some e,some (.cell M.length),some (.cell N),some (tx2 b.1),some (.int b.2),v8,v9]/\M'=M++[.lst (T'.map tx2)]++X++[.lst ((acc++(((L.take i).filter (hit ns b.2)).filter fun p=>decide (0 < cAt L ns (b.2 + p.2.length))).map fun p=>(b.1++[p.1],b.2 + p.2.length)).map bgL)],fun _ _ _ _ _=>rfl,⟨_,_,rfl,?_⟩,?_,?_⟩
   ·rw [List.take_zero,List.filter_nil,List.filter_nil,List.map_nil,List.append_nil]
   ·rintro i x ρ M' hi hx ⟨v8,v9,rfl,rfl⟩
    obtain ⟨hi',rfl⟩:=item_map hx
    have hne:=(tb.2 _ (List.mem_map_of_mem (List.getElem_mem hi'))).1
    have et:L.take (i + 1)=L.take i++[L[i]]:=List.take_succ_eq_append_getElem hi'
    refine ⟨_,rfl,rfl,_,_,rfl,_,_,rfl,rfl,?_⟩
    refine ⟨_,rfl,_,rfl,_,rfl,_,rfl,_,rfl,_,rfl,_,rfl,?_⟩
    refine sl_hitL b1 ⟨_,rfl,_,_,rfl,rfl,eqI ⟨_,rfl,?_⟩⟩
    by_cases z:hit ns b.2 L[i]=true
    ·rw [show decide ((ns.drop b.2).take (L[i]).2.length=(L[i]).2)=true from z]
     have l1:=hit_len z hne
     refine iteT ⟨_,rfl,_,rfl,_,rfl,_,rfl,_,_,D.int (cAt L ns (b.2 + L[i].2.length)),ec2 _ _ _,rfl,?_,?_⟩
     ·rw [List.length_map,<- Int.natCast_add]
      exact atI_nat (by rw [List.getElem?_map,cnts_cAt l1]; rfl)
     refine ⟨_,_,rfl,rfl,_,rfl,?_⟩
     by_cases y:0 < cAt L ns (b.2 + L[i].2.length)
     ·rw [decide_eq_true y]
      refine iteT ?_
      have hat:∀ G:List D,(M++[MO.lst (T'.map tx2)]++X++[MO.lst G])[N]?=some (.lst G):=fun G=>by rw [<- eN' T']; exact at_last
      have hst:∀ (G:List D) (m:MO),(M++[MO.lst (T'.map tx2)]++X++[MO.lst G]).set N m=M++[MO.lst (T'.map tx2)]++X++[m]:=fun G m=>by rw [<- eN' T']; exact set_last
      have lf:(((L.take i).filter (hit ns b.2)).filter fun p=>decide (0 < cAt L ns (b.2 + p.2.length))).length<=40:=Nat.le_trans (List.length_filter_le _ _) (Nat.le_trans (List.length_filter_le _ _) (by rw [List.length_take]; have:=tb.1; omega))
      refine ⟨_,rfl,ls_some (ls_at_ (hat _)),_,rfl,_,rfl,(show 1<=sizeLine by decide),_,_,rfl,rfl,?_,_,rfl,_,rfl,_,rfl,(show 2<=sizeLine by decide),N,_,_,rfl,rfl,hat _,?_,?_⟩
      ·rw [List.length_map]
       exact small_line (by show _ + 1<=_; omega)
      ·rw [List.length_map,List.length_append,List.length_map]
       exact Nat.lt_of_le_of_lt (by omega:_<=90000) (by decide)
      rw [hst]
      refine .inl ⟨_,_,rfl,?_⟩
      rw [et,List.filter_append,List.filter_append,List.filter_cons_of_pos z,List.filter_nil,List.filter_cons,if_pos (decide_eq_true y),List.filter_nil,List.map_append (l₁:=List.filter _ _),<- List.append_assoc,List.map_append (l₂:=List.map _ [L[i]])]
      congr 3
      refine congrArg (fun z=>_++z) ?_
      show [D.lst [D.lst (b.1.map D.int++[D.int L[i].1]),D.int ((b.2:Int) + ((L[i].2.map D.int).length:Int))]]=[D.lst [D.lst ((b.1++[L[i].1]).map D.int),D.int ((b.2 + L[i].2.length:Nat):Int)]]
      rw [List.map_append,List.length_map,Int.natCast_add]
      rfl
     ·rw [decide_eq_false y]
      refine iteF (.inl ⟨_,_,rfl,?_⟩)
      rw [et,List.filter_append,List.filter_append,List.filter_cons_of_pos z,List.filter_nil,List.filter_cons,if_neg (by rw [decide_eq_true_iff]; exact y),List.filter_nil,List.append_nil]
    ·rw [show decide ((ns.drop b.2).take (L[i]).2.length=(L[i]).2)=false from Bool.eq_false_iff.mpr z]
     refine iteF (.inl ⟨_,_,rfl,?_⟩)
     rw [et,List.filter_append,List.filter_append,List.filter_cons_of_neg z,List.filter_nil,List.filter_nil,List.append_nil]
   ·rintro ρ M' ⟨v8,v9,rfl,rfl⟩
    have e:L.take (L.map pD).length=L:=by rw [List.length_map,List.take_length]
    rw [show List.take _ L=L from e]
    exact .inl ⟨_,_,_,_,rfl,by rw [eF,eT]⟩
  ·rintro ρ M' ⟨v6,v7,v8,v9,rfl,rfl⟩
   rw [show bs.take _=bs from (by rw [show (It3.n _)=(bs.map bgL).length from rfl,List.length_map,List.take_length])]
   obtain ⟨rs2,pos2⟩:=rs.next hW nd
   have n2:=rs2.n
   have sl:=sum_len (f:=fun b=>cAt L ns b.2) pos2
   generalize ts++(bs.filter fun b=>decide (b.2=ns.length)).map (·.1)=T at rs2 n2
   have sp:0<=((osn L ns bs).map fun b=>cAt L ns b.2).sum:=by omega
   have f1:lstOf (M++[MO.lst (T.map tx2)]++X++[.lst ((osn L ns bs).map bgL)]) (.cell N)=some ((osn L ns bs).map bgL):=by
    rw [<- eN' T]
    exact lst_last
   have hN:N≠M.length:=by rw [eN,List.length_append,List.length_append]; show M.length + 1 + _≠_; omega
   rw [List.append_assoc (M++_)] at f1 ⊢
   exact ⟨_,rfl,ns.length + 2 - (kk + 1),by omega,.inl ⟨T,osn L ns bs,_,X++[.lst ((osn L ns bs).map bgL)],_,_,_,_,_,kk + 1,rfl,rfl,⟨f1,fun z=>hN (D.cell.inj z)⟩,rs2,⟨by omega,by omega⟩,rfl⟩⟩
open L3
def dTold52:Sp3:=fun ds M K=>∃ (d d2:D) (L:List Pr) (ns:List Int) (mo:Int),ds=[d,d2,.int mo]/\lstOf M d=some (L.map pD)/\lstOf M d2=some (ns.map .int)/\(ns.length<=1000/\Tb L/\(L.map (·.1)).Nodup/\mo<=200) /\
 (cntOf L ns<=mo->∀ (M':Mem) (c:Nat) (zs:List Cb),M<+:M'->M.length<=c->M'[c]?=some (.lst (zs.map clD))->(∀ z∈zs,M'[z.1]?=some (tx z.2.1)/\M.length<=z.1/\z.1≠c)->zs.length<=200->(zs.map (·.2.1)).Pairwise (fun a b=>HT.lexLt a b=true)->(∀ t,t∈zs.map (·.2.1)↔Rdg L ns t)->K (.lst [.str "list",.cell c]) M') /\
 (mo < cntOf L ns->∀ M',M<+:M'->K (.lst [.str "many",.int mo]) M')
theorem ok__law_told (T:Txt mg) {C:Addr} {X_TooMany X_NoReading X_SkewError fW:Addr} (G_TooMany:mg "TooMany"=some (.ref X_TooMany)) (G_NoReading:mg "NoReading"=some (.ref X_NoReading)) (xc_TooMany:XCl K X_TooMany fW) (xna_most_TooMany:W.findIn K (.ref X_TooMany) "most"=some none) (CA_SkewError:Cau K mg "SkewError" X_SkewError) (mts:W.mroIn K X_TooMany (.ref X_SkewError)=some true) (ktt:W.kitOne K (.ref X_TooMany) (.ref X_TooMany)=some true) (ktv:W.kitOne K (.ref X_TooMany) (.type "ValueError")=some true) (ktn:W.kitOne K (.ref X_TooMany) (.ref X_NoReading)=some false) (C_all_readings:CalE P w K mg base "all_readings" 3 ["table", "row", "most"] (L3.spOfX ⟨C,K⟩ (dAllX X_TooMany))) {f:Addr} {fd:FuncData} (F:Fun K "_law_told" "_law_told" s__law_told f fd):FnOk P w K mg base CX0 4 f fd ["_law_table", "_law_row", "_law_most"] (L3.spOf ⟨C,K⟩ dTold52):=by
 refine L3.Fun.ok3 F sc__law_told (fun ds M K3 h=>?_) (fun cdv A outer s H E hr=>?_)
 ·obtain ⟨d,d2,L,ns,mo,rfl,_⟩:=h
  rfl
 ·have SC:=sc__law_told
  have hu:=hr.units
  have hu1:=hu_of hr
  have hr_all_readings:Room 3 _:=hr.mono (by first | decide | omega)
  refine ⟨_,_,(pss_cons (ps_try rfl rfl (fun _ _ _ _ hx=>psf_one (psf_ret (pef_lst (paf_cons (pef_of pe_str) (paf_cons (pef_cal C_all_readings hr_all_readings rfl hx (pa_cons (pv 0) (pa_cons (pv 1) (pa_cons (pv 2) pa_nil)))) (paf_of pa_nil)))))) (hs_as (i:=3) CA_SkewError rfl SC.nd rfl rfl (fun _=>(pss_one (ps_if (PW.pt (pw_and (pt_val (pe_callB (call_isiX (K:=K) rfl) (by rfl) T.b_isinstance PyProof.Rows.boot_isinstance (pa_cons (pv 3) (pa_cons (pe_glob (v:=.ref X_TooMany) rfl G_TooMany rfl) pa_nil)))) (pw_and (pt_val (pe_callB (call_isiX (K:=K) rfl) (by rfl) T.b_isinstance PyProof.Rows.boot_isinstance (pa_cons (pv 3) (pa_cons (pe_bltn (v:=.ty "ValueError") rfl T.b_ValueError boot_ValueError rfl) pa_nil)))) (pw_and1 (pt_not (pt_val (pe_callB (call_isiX (K:=K) rfl) (by rfl) T.b_isinstance PyProof.Rows.boot_isinstance (pa_cons (pv 3) (pa_cons (pe_glob (v:=.ref X_NoReading) rfl G_NoReading rfl) pa_nil)))))))))
 (pss_one (ps_ret (pe_lst (pa_cons pe_str (pa_cons (bk_xfld (K:=K) rfl (pv 3) rfl) pa_nil)))))
 pss_nil))) hs_nil))
 (pss_one (ps_ret (pe_lst (pa_cons pe_str (pa_cons pe_non pa_nil)))))),fun _=>(L3.s_seq (L3.s_try (fun _ _ _ he hk hx=>(L3.s_ret (L3.s_lst (L3.s_cons L3.s_str (L3.s_cons (L3.s_callX he hk hx (L3.s_cons (L3.s_var 0) (L3.s_cons (L3.s_var 1) (L3.s_cons (L3.s_var 2) L3.s_nil)))) L3.s_nil))))) (L3.s_has (L3.s_ifS (L3.s_and (L3.s_b (L3.s_cb L3.s_isiX (L3.s_cons (L3.s_var 3) (L3.s_cons L3.s_at L3.s_nil)))) (L3.s_and (L3.s_b (L3.s_cb L3.s_isiX (L3.s_cons (L3.s_var 3) (L3.s_cons L3.s_ty L3.s_nil)))) (L3.s_not (L3.s_b (L3.s_cb L3.s_isiX (L3.s_cons (L3.s_var 3) (L3.s_cons L3.s_at L3.s_nil)))))))
 (L3.s_ret (L3.s_lst (L3.s_cons L3.s_str (L3.s_cons (L3.s_xfld (L3.s_var 3)) L3.s_nil))))
 L3.s_next) L3.s_hnil))
 (L3.s_ret (L3.s_lst (L3.s_cons L3.s_str (L3.s_cons L3.s_non L3.s_nil))))),fun ds M Kk hM hD h=>?_⟩
  obtain ⟨d,d2,L,ns,mo,rfl,h⟩:=h
  obtain ⟨e1,e2,hh,kY,kN⟩:=h
  refine ⟨_,rfl,_,rfl,_,rfl,d,d2,L,ns,mo,rfl,e1,e2,hh,fun hz M' c zs a1 a2 a3 a4 a5 a6 a7=>?_,fun hz M' pm=>?_⟩
  ·exact ⟨(show 2<=sizeLine by decide),.inl (kY hz M' c zs a1 a2 a3 a4 a5 a6 a7)⟩
  ·refine ⟨true,mts,?_⟩
   rw [if_pos rfl]
   refine ⟨_,rfl,X_TooMany,_,_,true,fW,rfl,xc_TooMany,.inr (.inl ⟨_,rfl,ktt⟩),_,rfl,iteT ?_⟩
   refine ⟨_,rfl,X_TooMany,_,_,true,fW,rfl,xc_TooMany,.inl ⟨_,rfl,ktv⟩,_,rfl,iteT ?_⟩
   refine ⟨_,rfl,X_TooMany,_,_,false,fW,rfl,xc_TooMany,.inr (.inl ⟨_,rfl,ktn⟩),_,rfl,iteT ?_⟩
   exact ⟨_,rfl,X_TooMany,_,_,_,rfl,xc_TooMany,xna_most_TooMany,rfl,(show 2<=sizeLine by decide),.inl (kN hz M' pm)⟩
open L3
theorem rdg_le {L:List Pr} (hw:∀ p∈L,p.2≠[]) {r t:List Int} (h:Rdg L r t):t.length<=r.length:=by
 induction h with
 | nil=>exact Nat.le_refl _
 | @cons p r t hp _ ih =>
  have:=List.length_pos_iff.mpr (hw p hp)
  rw [List.length_append,List.length_cons]
  omega
def Due52 (M:Mem) (d:D) (L:List Pr) (ns:List Int):Prop:=∃ us:List (List Int),lstOf M d=some (us.map tx2)/\us.Pairwise (fun a b=>HT.lexLt a b=true)/\∀ t,t∈us↔Rdg L ns t
def dRight52:Sp3:=fun ds M K=>∃ (L:List Pr) (ns:List Int) (mo:Int) (d:D),ds=[.lst (L.map pD),.lst (ns.map .int),.int mo,.int (cntOf L ns),d]/\(ns.length<=1000/\Tb L/\(L.map (·.1)).Nodup/\mo<=200)/\(cntOf L ns<=mo->Due52 M d L ns)/\K (.bl true) M
theorem ok__law_right (T:Txt mg) {C:Addr} (C__law_told:Cal P w K mg base "_law_told" 4 ["_law_table", "_law_row", "_law_most"] (L3.spOf ⟨C,K⟩ dTold52)) (C__law_texts:Cal P w K mg base "_law_texts" 2 ["_law_told_here", "_law_due"] (L3.spOf ⟨C,K⟩ dTexts52)) {f:Addr} {fd:FuncData} (F:Fun K "_law_right" "_law_right" s__law_right f fd):FnOk P w K mg base CX0 5 f fd ["_law_table", "_law_row", "_law_most", "_law_count", "_law_due"] (L3.spOf ⟨C,K⟩ dRight52):=by
 refine L3.Fun.ok3 F sc__law_right (fun ds M K3 h=>?_) (fun cdv A outer s H E hr=>?_)
 ·obtain ⟨L,ns,mo,d,rfl,_⟩:=h
  rfl
 ·have SC:=sc__law_right
  have hu:=hr.units
  have hu1:=hu_of hr
  have hr__law_told:Room 4 _:=hr.mono (by first | decide | omega)
  have hr__law_texts:Room 2 _:=hr.mono (by first | decide | omega)
  refine ⟨_,_,(pss_cons (ps_par (i:=5) (j:=6) rfl SC.nd rfl rfl (by decide) rfl rfl (pa_cons (pe_callTy (bk_list (K:=K) rfl) (by rfl) T.b_list PyProof.Rows.boot_list (pa_cons (pv 0) pa_nil)) (pa_cons (pe_callTy (bk_list (K:=K) rfl) (by rfl) T.b_list PyProof.Rows.boot_list (pa_cons (pv 1) pa_nil)) pa_nil)) rfl)
 (pss_cons (ps_asg (pe_cal C__law_told hr__law_told rfl (pa_cons (pv 5) (pa_cons (pv 6) (pa_cons (pv 2) pa_nil)))) (pg_lst (n:=2) rfl (pgs_cons (pg_name (i:=7) SC.nd rfl (Or.inl rfl)) (pgs_cons (pg_name (i:=8) SC.nd rfl (Or.inl rfl)) pgs_nil)) (by rfl)))
 (pss_cons (ps_if (PW.pt (pw_or (pt_cmpR (L3.ux_ne (K':=K) rfl hu) (pv 5) (pv 0) (nomark _)) (pw_or1 (pt_cmpR (L3.ux_ne (K':=K) rfl hu) (pv 6) (pv 1) (nomark _)))))
 (pss_one (ps_ret pe_bl))
 pss_nil)
 (pss_cons (ps_if (pt_cmpR op_gt (pv 3) (pv 2) (nomark _))
 (pss_one (ps_ret (pe_and (pe_cmpR (L3.ux_eq (K':=K) rfl hu) (pv 7) pe_str (nomark _)) (pe_and (pe_not (pe_callB (bk_isi (K:=K) rfl) (by rfl) T.b_isinstance PyProof.Rows.boot_isinstance (pa_cons (pv 8) (pa_cons (pe_bltn (v:=.ty "bool") rfl T.b_bool PyProof.Rows.boot_bool rfl) pa_nil)))) (pe_one (pe_cmpR (L3.ux_eq (K':=K) rfl hu) (pv 8) (pv 2) (nomark _)))))))
 pss_nil)
 (pss_cons (ps_if (PW.pt (pw_or (pt_cmpR (L3.ux_ne (K':=K) rfl hu) (pv 7) pe_str (nomark _)) (pw_or1 (pt_not (pt_val (pe_cal C__law_texts hr__law_texts rfl (pa_cons (pv 8) (pa_cons (pv 4) pa_nil))))))))
 (pss_one (ps_ret pe_bl))
 pss_nil)
 (pss_cons (ps_for PassesOwn.never rfl (pi_list (pv 8)) (pg_name (i:=9) SC.nd rfl (Or.inl rfl))
 (pss_one (ps_expr (pe_bm PySem.F.plainAttrs_list PySem.F.slot_list_append PySem.F.type_list_append mt_append (pv 9) (pa_cons pe_int pa_nil)))))
 (pss_cons (ps_expr (pe_bm0 PySem.F.plainAttrs_list PySem.F.slot_list_clear PySem.F.type_list_clear mt_clear (pv 8)))
 (pss_one (ps_ret pe_bl))))))))),fun _=>(L3.s_seq (L3.s_par (i:=5) (j:=6) (L3.s_cons (L3.s_cb L3.s_list (L3.s_cons (L3.s_var 0) L3.s_nil)) (L3.s_cons (L3.s_cb L3.s_list (L3.s_cons (L3.s_var 1) L3.s_nil)) L3.s_nil)))
 (L3.s_seq (L3.s_asg (L3.s_call (L3.s_cons (L3.s_var 5) (L3.s_cons (L3.s_var 6) (L3.s_cons (L3.s_var 2) L3.s_nil)))) (L3.s_glst (L3.s_gcons (L3.s_g 7) (L3.s_gcons (L3.s_g 8) L3.s_gnil))))
 (L3.s_seq (L3.s_ifS (L3.s_or (L3.s_test (L3.s_op L3.s_ne (L3.s_var 5) (L3.s_var 0))) (L3.s_test (L3.s_op L3.s_ne (L3.s_var 6) (L3.s_var 1))))
 (L3.s_ret L3.s_bl)
 L3.s_next)
 (L3.s_seq (L3.s_ifS (L3.s_test (L3.s_op L3.s_gt (L3.s_var 3) (L3.s_var 2)))
 (L3.s_ret (L3.s_andV (L3.s_op L3.s_eq (L3.s_var 7) L3.s_str) (L3.s_andV (L3.s_notV (L3.s_cb (L3.s_isi (T:=.bool)) (L3.s_cons (L3.s_var 8) (L3.s_cons L3.s_ty L3.s_nil)))) (L3.s_op L3.s_eq (L3.s_var 8) (L3.s_var 2)))))
 L3.s_next)
 (L3.s_seq (L3.s_ifS (L3.s_or (L3.s_test (L3.s_op L3.s_ne (L3.s_var 7) L3.s_str)) (L3.s_not (L3.s_b (L3.s_call (L3.s_cons (L3.s_var 8) (L3.s_cons (L3.s_var 4) L3.s_nil))))))
 (L3.s_ret L3.s_bl)
 L3.s_next)
 (L3.s_seq (L3.s_for (L3.s_il (L3.s_var 8)) (L3.s_g 9)
 (L3.s_drop (L3.s_append (L3.s_var 9) (L3.s_cons L3.s_int L3.s_nil))))
 (L3.s_seq (L3.s_drop (L3.s_clear (L3.s_var 8)))
 (L3.s_ret L3.s_bl)))))))),fun ds M Kk hM hD h=>?_⟩
  obtain ⟨L,ns,mo,d,rfl,h⟩:=h
  obtain ⟨⟨ln,tb,nd,m1⟩,hd,k⟩:=h
  have hW:∀ p∈L,p.2≠[]:=fun p hp=>(tb.2 _ (List.mem_map_of_mem hp)).1
  refine ⟨_,rfl,_,_,rfl,rfl,_,rfl,_,_,rfl,rfl,_,_,rfl,?_⟩
  refine ⟨_,rfl,_,rfl,_,rfl,_,_,L,ns,mo,rfl,rfl,rfl,⟨ln,tb,nd,m1⟩,fun hz M' c zs a1 a2 a3 a4 a5 a6 a7=>?_,fun hz M' pm=>?_⟩
  ·refine ⟨_,rfl,rfl,_,_,rfl,_,_,rfl,rfl,?_⟩
   refine ⟨_,rfl,_,rfl,eqv_seq encPD (a:=L) (b:=L) rfl rfl ⟨_,rfl,?_⟩⟩
   rw [show decide (L=L)=true from decide_eq_true rfl]
   refine iteF ?_
   refine ⟨_,rfl,_,rfl,eqv_seq encInt (a:=ns) (b:=ns) rfl rfl ⟨_,rfl,?_⟩⟩
   rw [show decide (ns=ns)=true from decide_eq_true rfl]
   refine iteF ?_
   refine ⟨_,rfl,_,rfl,_,_,rfl,rfl,_,rfl,?_⟩
   rw [decide_eq_false (by omega)]
   refine iteF ?_
   obtain ⟨us,u1,u2,u3⟩:=hd hz
   have eu:zs.map (·.2.1)=us:=lex_same a6 u2 fun t=>(a7 t).trans (u3 t).symm
   have u1':lstOf M' d=some ((zs.map (·.2.1)).map tx2):=by
    obtain ⟨Y,rfl⟩:=a1
    rw [eu]
    exact lst_up u1
   have tl:∀ z∈zs,z.2.1.length<=1000:=fun z hz=>Nat.le_trans (rdg_le hW ((a7 _).mp (List.mem_map_of_mem hz))) ln
   refine ⟨_,rfl,.inl ⟨_,rfl,_,rfl,iteF ?_⟩⟩
   refine ⟨_,rfl,_,rfl,c,d,zs,rfl,⟨a3,u1'⟩,⟨a5,fun z hz=>⟨(a4 z hz).1,tl z hz⟩⟩,_,rfl,iteF ?_⟩
   refine ⟨_,rfl,_,(ls_ty (ls_at_ a3)).2.1,fun i ρ' M2=>∃ v9:Option D,ρ'=[some (.lst (L.map pD)),some (.lst (ns.map .int)),some (.int mo),some (.int (cntOf L ns)),some d,some (.lst (L.map pD)),some (.lst (ns.map .int)),some (.str "list"),some (.cell c),v9]/\M<+:M2/\M2[c]?=some (.lst (zs.map clD))/\∀ z∈zs,∃ l,M2[z.1]?=some (.lst l)/\l.length<=1000 + i,fun _ _ _ _ h=>by obtain ⟨_,_,_,h3,_⟩:=h; exact (ls_ty (ls_at_ h3)).2.1,⟨_,rfl,a1,a3,fun z hz=>⟨_,(a4 z hz).1,by rw [List.length_map]; exact tl z hz⟩⟩,?_,?_⟩
   ·rintro i x ρ' M2 hi hx ⟨v9,rfl,q1,q2,q3⟩
    obtain ⟨hi',rfl⟩:=item_map hx
    have hz:=List.getElem_mem hi'
    obtain ⟨l,g1,g2⟩:=q3 _ hz
    obtain ⟨_,g3,g4⟩:=a4 _ hz
    generalize zs[i]=z at g1 g3 g4
    refine ⟨_,rfl,ls_some (ls_at_ g1),z.1,_,_,rfl,rfl,g1,Nat.lt_of_le_of_lt (by omega:_<=90000) (by decide),.inl ⟨_,rfl,pre_set q1 g3,?_,fun y hy=>?_⟩⟩
    ·rw [List.getElem?_set_ne g4]
     exact q2
    ·obtain ⟨l2,f1,f2⟩:=q3 y hy
     by_cases e:z.1=y.1
     ·rw [<- e,List.getElem?_set_self (List.getElem?_eq_some_iff.mp g1).1]
      exact ⟨_,rfl,by rw [List.length_append]; show _ + 1<=_; omega⟩
     ·rw [List.getElem?_set_ne e]
      exact ⟨l2,f1,by omega⟩
   ·rintro ρ' M2 ⟨v9,rfl,q1,q2,q3⟩
    exact ⟨_,rfl,c,_,rfl,rfl,q2,dk_drop (pre_set q1 a2) hM below_bl k⟩
  ·refine ⟨_,rfl,rfl,_,_,rfl,_,_,rfl,rfl,?_⟩
   refine ⟨_,rfl,_,rfl,eqv_seq encPD (a:=L) (b:=L) rfl rfl ⟨_,rfl,?_⟩⟩
   rw [show decide (L=L)=true from decide_eq_true rfl]
   refine iteF ?_
   refine ⟨_,rfl,_,rfl,eqv_seq encInt (a:=ns) (b:=ns) rfl rfl ⟨_,rfl,?_⟩⟩
   rw [show decide (ns=ns)=true from decide_eq_true rfl]
   refine iteF ?_
   refine ⟨_,rfl,_,rfl,_,_,rfl,rfl,_,rfl,?_⟩
   rw [decide_eq_true hz]
   refine iteT ?_
   refine ⟨_,rfl,.inl ⟨_,rfl,_,rfl,iteT ?_⟩⟩
   refine ⟨_,rfl,_,_,rfl,rfl,_,rfl,_,rfl,iteT ?_⟩
   refine ⟨_,rfl,_,rfl,.inl ⟨_,rfl,?_⟩⟩
   rw [decide_eq_true rfl]
   exact dk_drop pm hM below_bl k
open L3
def dRowR52:Sp3:=fun ds M K=>∃ (hd:Nat) (L:List Pr) (ns:List Int) (lim:Int),ds=[.cell hd,.lst (L.map pD),.lst (ns.map .int),.int lim]/\(M[hd]?=some .hand/\ns.length<=1000/\Tb L/\(L.map (·.1)).Nodup/\lim<=200)/\K (.bl true) M
theorem ok__law_row_right (T:Txt mg) {C:Addr} (C__law_counts:Cal P w K mg base "_law_counts" 1 ["_law_table", "_law_row"] (L3.spOf ⟨C,K⟩ dCounts52)) (C__law_all:Cal P w K mg base "_law_all" 1 ["_law_table", "_law_row", "_law_ways"] (L3.spOf ⟨C,K⟩ dLAll52)) (C__law_draw:Cal P w K mg base "_law_draw" 1 ["_law_hand", "_law_many"] (L3.spOf ⟨C,K⟩ dDraw)) (C__law_right:Cal P w K mg base "_law_right" 5 ["_law_table", "_law_row", "_law_most", "_law_count", "_law_due"] (L3.spOf ⟨C,K⟩ dRight52)) {f:Addr} {fd:FuncData} (F:Fun K "_law_row_right" "_law_row_right" s__law_row_right f fd):FnOk P w K mg base CX0 6 f fd ["_law_hand", "_law_table", "_law_row", "_law_limit"] (L3.spOf ⟨C,K⟩ dRowR52):=by
 refine L3.Fun.ok3 F sc__law_row_right (fun ds M K3 h=>?_) (fun cdv A outer s H E hr=>?_)
 ·obtain ⟨hd,L,ns,lim,rfl,_⟩:=h
  rfl
 ·have SC:=sc__law_row_right
  have hu:=hr.units
  have hu1:=hu_of hr
  have hr__law_counts:Room 1 _:=hr.mono (by first | decide | omega)
  have hr__law_all:Room 1 _:=hr.mono (by first | decide | omega)
  have hr__law_draw:Room 1 _:=hr.mono (by first | decide | omega)
  have hr__law_right:Room 5 _:=hr.mono (by first | decide | omega)
  refine ⟨_,_,(pss_cons (ps_set (i:=4) SC.nd rfl (Or.inl rfl) (pe_cal C__law_counts hr__law_counts rfl (pa_cons (pv 1) (pa_cons (pv 2) pa_nil))))
 (pss_cons (ps_set (i:=5) SC.nd rfl (Or.inl rfl) (pe_lst pa_nil))
 (pss_cons (ps_if (pt_cmpR op_le (pe_ix (L3.ux_ix (K':=K) rfl) (pv 4) pe_int (fun _ _=>rfl)) (pv 3) (nomark _))
 (pss_one (ps_set (i:=5) SC.nd rfl (Or.inl rfl) (pe_cal C__law_all hr__law_all rfl (pa_cons (pv 1) (pa_cons (pv 2) (pa_cons (pv 4) pa_nil))))))
 pss_nil)
 (pss_cons (ps_set (i:=6) SC.nd rfl (Or.inl rfl) (pe_lst (pa_cons (pe_callB (call_min2 rfl) (by rfl) T.b_min PyProof.Rows.boot_min (pa_cons pe_int (pa_cons (pe_ix (L3.ux_ix (K':=K) rfl) (pv 4) pe_int (fun _ _=>rfl)) pa_nil))) (pa_cons (pe_callB (call_max2 rfl) (by rfl) T.b_max PyProof.Rows.boot_max (pa_cons pe_int (pa_cons (pe_callB (call_min2 rfl) (by rfl) T.b_min PyProof.Rows.boot_min (pa_cons pe_int (pa_cons (pe_op op_sub (pe_ix (L3.ux_ix (K':=K) rfl) (pv 4) pe_int (fun _ _=>rfl)) pe_int) pa_nil))) pa_nil))) (pa_cons (pe_ix (L3.ux_ix (K':=K) rfl) (pe_lst (pa_cons pe_int (pa_cons pe_int pa_nil))) (pe_cal C__law_draw hr__law_draw rfl (pa_cons (pv 0) (pa_cons pe_int pa_nil))) (fun _ _=>rfl)) pa_nil)))))
 (pss_cons (ps_for PassesOwn.never rfl (pi_list (pe_op (L3.ux_add (K':=K) rfl) (pv 6) (pe_slice (L3.ux_sl (K':=K) rfl) (pv 6) po_none (po_some pe_int)))) (pg_name (i:=7) SC.nd rfl (Or.inl rfl))
 (pss_one (ps_if (PW.pt (pw_or (pt_cmpR op_le (pe_ix (L3.ux_ix (K':=K) rfl) (pv 4) pe_int (fun _ _=>rfl)) (pv 3) (nomark _)) (pw_or1 (pt_cmpR op_lt (pv 7) (pe_ix (L3.ux_ix (K':=K) rfl) (pv 4) pe_int (fun _ _=>rfl)) (nomark _)))))
 (pss_one (ps_if (pt_not (pt_val (pe_cal C__law_right hr__law_right rfl (pa_cons (pv 1) (pa_cons (pv 2) (pa_cons (pv 7) (pa_cons (pe_ix (L3.ux_ix (K':=K) rfl) (pv 4) pe_int (fun _ _=>rfl)) (pa_cons (pv 5) pa_nil))))))))
 (pss_one (ps_ret pe_bl))
 pss_nil))
 pss_nil)))
 (pss_one (ps_ret pe_bl))))))),fun _=>(L3.s_seq (L3.s_asg (L3.s_call (L3.s_cons (L3.s_var 1) (L3.s_cons (L3.s_var 2) L3.s_nil))) (L3.s_g 4))
 (L3.s_seq (L3.s_asg (L3.s_lst L3.s_nil) (L3.s_g 5))
 (L3.s_seq (L3.s_ifS (L3.s_test (L3.s_op L3.s_le (L3.s_op L3.s_ix (L3.s_var 4) L3.s_int) (L3.s_var 3)))
 (L3.s_asg (L3.s_call (L3.s_cons (L3.s_var 1) (L3.s_cons (L3.s_var 2) (L3.s_cons (L3.s_var 4) L3.s_nil)))) (L3.s_g 5))
 L3.s_next)
 (L3.s_seq (L3.s_asg (L3.s_lst (L3.s_cons (L3.s_cb L3.s_min2 (L3.s_cons L3.s_int (L3.s_cons (L3.s_op L3.s_ix (L3.s_var 4) L3.s_int) L3.s_nil))) (L3.s_cons (L3.s_cb L3.s_max2 (L3.s_cons L3.s_int (L3.s_cons (L3.s_cb L3.s_min2 (L3.s_cons L3.s_int (L3.s_cons (L3.s_op L3.s_sub (L3.s_op L3.s_ix (L3.s_var 4) L3.s_int) L3.s_int) L3.s_nil))) L3.s_nil))) (L3.s_cons (L3.s_op L3.s_ix (L3.s_lst (L3.s_cons L3.s_int (L3.s_cons L3.s_int L3.s_nil))) (L3.s_call (L3.s_cons (L3.s_var 0) (L3.s_cons L3.s_int L3.s_nil)))) L3.s_nil)))) (L3.s_g 6))
 (L3.s_seq (L3.s_for (L3.s_il (L3.s_op L3.s_add (L3.s_var 6) (L3.s_sl L3.s_sl3 (L3.s_var 6) L3.s_noPart (L3.s_part L3.s_int)))) (L3.s_g 7)
 (L3.s_ifS (L3.s_or (L3.s_test (L3.s_op L3.s_le (L3.s_op L3.s_ix (L3.s_var 4) L3.s_int) (L3.s_var 3))) (L3.s_test (L3.s_op L3.s_lt (L3.s_var 7) (L3.s_op L3.s_ix (L3.s_var 4) L3.s_int))))
 (L3.s_ifS (L3.s_not (L3.s_b (L3.s_call (L3.s_cons (L3.s_var 1) (L3.s_cons (L3.s_var 2) (L3.s_cons (L3.s_var 7) (L3.s_cons (L3.s_op L3.s_ix (L3.s_var 4) L3.s_int) (L3.s_cons (L3.s_var 5) L3.s_nil))))))))
 (L3.s_ret L3.s_bl)
 L3.s_next)
 L3.s_next))
 (L3.s_ret L3.s_bl)))))),fun ds M Kk hM hD h=>?_⟩
  obtain ⟨hd,L,ns,lim,rfl,h⟩:=h
  obtain ⟨⟨hh,ln,tb,nd,l1⟩,k⟩:=h
  have hc:∀ d:D,L2.atI ((cnts L ns ns.length).map D.int) 0=some d↔d=.int (cntOf L ns):=fun d=>by
   have:=atI_nat (xs:=(cnts L ns ns.length).map D.int) (j:=0) (v:=.int (cntOf L ns)) (by rw [List.getElem?_map,cnts_all]; rfl)
   rw [show ((0:Nat):Int)=0 from rfl] at this
   rw [this]
   exact ⟨fun h=>(Option.some.inj h).symm,fun h=>by rw [h]⟩
  have ix:L2.atI ((cnts L ns ns.length).map D.int) 0=some (.int (cntOf L ns)):=(hc _).mpr rfl
  refine ⟨_,rfl,_,rfl,L,ns,rfl,⟨ln,tb⟩,?_⟩
  refine ⟨Nat.zero_le _,g_nx ?_⟩
  dsimp only
  have hM1:∀ {m:MO},(M++[m])[hd]?=some .hand:=get_up hh
  refine st_by (fun ρ' M'=>∃ d,(cntOf L ns<=lim->Due52 (M++[.lst ((cnts L ns ns.length).map .int)]) d L ns)/\ρ'=[some (.cell hd),some (.lst (L.map pD)),some (.lst (ns.map .int)),some (.int lim),some (.cell M.length),some d,none,none]/\M'=M++[.lst ((cnts L ns ns.length).map .int)]) (fun Kn hn=>?_) ?_
  ·refine ⟨_,rfl,_,_,_,lst_last,rfl,ix,_,rfl,_,_,rfl,rfl,_,rfl,?_⟩
   refine ite2 (fun hz=>?_) (fun hz=>?_)
   ·have hz:=of_decide_eq_true hz
    refine ⟨_,rfl,_,rfl,_,rfl,M.length,L,ns,rfl,at_last,⟨ln,tb,nd,by omega⟩,fun us a1 a2 a3=>hn _ _ ⟨_,fun _=>⟨us,rfl,a2,a3⟩,rfl,rfl⟩⟩
   ·have hz:=of_decide_eq_false (Bool.not_eq_true _ ▸ hz)
    exact hn _ _ ⟨_,fun z=>by omega,rfl,rfl⟩
  rintro _ _ ⟨d,du,rfl,rfl⟩
  refine ⟨_,rfl,_,_,_,lst_last,rfl,ix,_,_,rfl,?_⟩
  refine ⟨_,rfl,_,_,_,lst_last,rfl,ix,_,_,rfl,rfl,_,_,rfl,_,_,rfl,?_⟩
  refine ⟨(show 2<=sizeLine by decide),_,rfl,hd,2,rfl,hM1,⟨by decide,by decide⟩,fun x x0 x1=>?_⟩
  obtain ⟨y,ey,hy⟩:∃ y:Int,L2.atI [D.int 0,D.int 200] x=some (.int y)/\y<=200:=by
   rcases (show x=0\/x=1 by omega) with rfl | rfl
   ·exact ⟨0,rfl,by decide⟩
   ·exact ⟨200,rfl,by decide⟩
  refine ⟨_,_,_,rfl,rfl,ey,(show 3<=sizeLine by decide),g_nx ?_⟩
  dsimp only
  generalize ea:(if cntOf L ns < 200 then cntOf L ns else 200)=a
  have ha:a<=200:=by rw [<- ea]; split <;> omega
  generalize eb:(if (if cntOf L ns - 1 < 200 then cntOf L ns - 1 else 200) > 0 then if cntOf L ns - 1 < 200 then cntOf L ns - 1 else 200 else 0)=b
  have hb:b<=200:=by
   rw [<- eb]
   repeat' split
   all_goals omega
  have all:∀ v∈[a,b,y,a],v<=200:=fun v hv=>by
   simp only [List.mem_cons,List.not_mem_nil,or_false] at hv
   rcases hv with rfl | rfl | rfl | rfl <;> assumption
  refine ⟨_,rfl,_,rfl,_,rfl,_,rfl,_,_,rfl,rfl,(show 4<=sizeLine by decide),?_⟩
  refine ⟨_,rfl,fun j ρ' M'=>∃ v7:Option D,ρ'=[some (.cell hd),some (.lst (L.map pD)),some (.lst (ns.map .int)),some (.int lim),some (.cell M.length),some d,some (.lst [.int a,.int b,.int y]),v7]/\M'=M++[.lst ((cnts L ns ns.length).map .int)],fun _ _ _ _ _=>rfl,⟨_,rfl,rfl⟩,?_,?_⟩
  ·rintro j x ρ' M' hj hx ⟨v7,rfl,rfl⟩
   obtain ⟨hj',rfl⟩:=item_map (f:=D.int) (as:=[a,b,y,a]) hx
   have hv:=all _ (List.getElem_mem hj')
   generalize ([a,b,y,a]:List Int)[j]=v at hv
   refine ⟨_,rfl,_,_,_,lst_last,rfl,ix,_,rfl,_,_,rfl,rfl,_,rfl,ite2 (fun hz=>?_) (fun hz=>?_)⟩
   ·have hz:=of_decide_eq_true hz
    refine ⟨_,rfl,_,rfl,_,rfl,_,rfl,_,_,_,lst_last,rfl,ix,_,rfl,L,ns,v,d,rfl,⟨ln,tb,nd,hv⟩,(fun _=>du hz),_,rfl,iteF (.inl ⟨_,rfl,rfl⟩)⟩
   ·have hz:=of_decide_eq_false (Bool.not_eq_true _ ▸ hz)
    refine ⟨_,rfl,_,rfl,_,_,_,lst_last,rfl,ix,_,_,rfl,rfl,_,rfl,ite2 (fun hy=>?_) (fun hy=>?_)⟩
    ·have hy:=of_decide_eq_true hy
     refine ⟨_,rfl,_,rfl,_,rfl,_,rfl,_,_,_,lst_last,rfl,ix,_,rfl,L,ns,v,d,rfl,⟨ln,tb,nd,hv⟩,(fun z=>absurd hy (by omega)),_,rfl,iteF (.inl ⟨_,rfl,rfl⟩)⟩
    ·exact .inl ⟨_,rfl,rfl⟩
  ·rintro ρ' M' ⟨v7,rfl,rfl⟩
   exact dk_drop pre1 hM below_bl k
open L3
abbrev spLaw (K:W.Frag):Sp:=L3.spLaw0 K
abbrev tD (L:List Pr):D:=.lst (L.map pD)
abbrev mm (L0 L1:List Pr) (X:Mem):Mem:=.hand::.hand::.lst [tD L0,tD L1]::X
def T52 (L:List Pr):Prop:=Tb L/\(L.map (·.1)).Nodup
def t52w {L:List Pr} (h:T52 L):∀ p∈L,p.2≠[]:=fun p hp=>(h.1.2 _ (List.mem_map_of_mem hp)).1
theorem cnt_one {L:List Pr} {ns t:List Int} (h:T52 L) (hu:∀ s,Rdg L ns s↔s=t):cntOf L ns=1:=by
 obtain ⟨us,nu,hm,hl⟩:=all_ways (ns:=ns) (t52w h) h.2
 have ht:t∈us:=(hm t).mpr ((hu t).mpr rfl)
 have ha:∀ s∈us,s=t:=fun s hs=>(hu s).mp ((hm s).mp hs)
 match us,nu,ht,ha,hl with
 | [],_,ht,_,_=>cases ht
 | [_],_,_,_,hl=>exact hl.symm
 | a::b::r,nu,_,ha,_ =>
  have e1:=ha a (by simp)
  have e2:=ha b (by simp)
  rw [e1,e2] at nu
  simp at nu
def rdg_nil {L:List Pr} (h:T52 L) (s:List Int):Rdg L [] s↔s=[]:=by
 constructor
 ·intro k
  have:=rdg_le (t52w h) k
  exact List.length_eq_zero_iff.mp (Nat.le_zero.mp this)
 ·rintro rfl
  exact .nil
def lone (a b:Int):List Pr:=[(7,[a]),(3,[b,a])]
def lone_ok {a b:Int}:T52 (lone a b):=⟨⟨by show 2<=40; decide,fun w hw=>by
 rcases List.mem_cons.mp hw with z | hw
 ·rw [z]; exact ⟨List.cons_ne_nil _ _,(show 1<=4 by decide)⟩
 ·rw [List.mem_singleton.mp hw]; exact ⟨List.cons_ne_nil _ _,(show 2<=4 by decide)⟩⟩,by show [(7:Int),3].Nodup; decide⟩
theorem lone_rdg {a b:Int} (h:b≠a):∀ (n:Nat) (s:List Int),Rdg (lone a b) (List.replicate n a) s↔s=List.replicate n 7
 | 0,s=>rdg_nil lone_ok s
 | n + 1,s=>by
  constructor
  ·generalize er:List.replicate (n + 1) a=r
   intro k
   cases k with
   | nil=>cases er
   | @cons p r t hp k =>
    rcases List.mem_cons.mp hp with z | hp
    ·subst z
     have er:a::List.replicate n a=a::r:=er
     injection er with _ e2
     subst e2
     rw [(lone_rdg h n t).mp k]
     rfl
    ·rw [List.mem_singleton.mp hp] at er
     have er:a::List.replicate n a=b::a::r:=er
     injection er with e1 _
     exact absurd e1.symm h
  ·rintro rfl
   exact Rdg.cons (p:=(7,[a])) (r:=List.replicate n a) (t:=List.replicate n 7) (by simp [lone]) ((lone_rdg h n _).mpr rfl)
theorem ok_law (T:Txt mg) {C:Addr} (C__law_open:Cal P w K mg base "_law_open" 1 ["_law_script", "_law_place"] (L3.spOf ⟨C,K⟩ dOpen)) (C__law_draw:Cal P w K mg base "_law_draw" 1 ["_law_hand", "_law_many"] (L3.spOf ⟨C,K⟩ dDraw)) (C__law_loose:Cal P w K mg base "_law_loose" 3 ["_law_hand", "_law_most", "_law_longest"] (L3.spOf ⟨C,K⟩ dLooseB)) (C__law_wide:Cal P w K mg base "_law_wide" 3 ["_law_hand"] (L3.spOf ⟨C,K⟩ dWide52)) (C__law_right:Cal P w K mg base "_law_right" 5 ["_law_table", "_law_row", "_law_most", "_law_count", "_law_due"] (L3.spOf ⟨C,K⟩ dRight52)) (C__law_rows:Cal P w K mg base "_law_rows" 2 ["_law_hand", "_law_table", "_law_most"] (L3.spOf ⟨C,K⟩ dRows)) (C__law_row_right:Cal P w K mg base "_law_row_right" 6 ["_law_hand", "_law_table", "_law_row", "_law_limit"] (L3.spOf ⟨C,K⟩ dRowR52)) {f:Addr} {fd:FuncData} (F:Fun K "law" "law" s_law f fd):FnOk P w K mg base CX0 7 f fd ["_law_script"] (L3.spOf ⟨C,K⟩ dLaw0):=by
 refine L3.Fun.ok3 F sc_law (fun ds M K3 h=>?_) (fun cdv A outer s H E hr=>?_)
 ·obtain ⟨ns,rfl,_⟩:=h
  rfl
 ·have SC:=sc_law
  have hu:=hr.units
  have hu1:=hu_of hr
  have hr__law_open:Room 1 _:=hr.mono (by first | decide | omega)
  have hr__law_draw:Room 1 _:=hr.mono (by first | decide | omega)
  have hr__law_loose:Room 3 _:=hr.mono (by first | decide | omega)
  have hr__law_wide:Room 3 _:=hr.mono (by first | decide | omega)
  have hr__law_right:Room 5 _:=hr.mono (by first | decide | omega)
  have hr__law_rows:Room 2 _:=hr.mono (by first | decide | omega)
  have hr__law_row_right:Room 6 _:=hr.mono (by first | decide | omega)
  refine ⟨_,_,(pss_cons (ps_set (i:=1) SC.nd rfl (Or.inl rfl) (pe_lst (pa_cons (pe_cal C__law_loose hr__law_loose rfl (pa_cons (pe_cal C__law_open hr__law_open rfl (pa_cons (pv 0) (pa_cons pe_int pa_nil))) (pa_cons pe_int (pa_cons pe_int pa_nil)))) (pa_cons (pe_cal C__law_loose hr__law_loose rfl (pa_cons (pe_cal C__law_open hr__law_open rfl (pa_cons (pv 0) (pa_cons pe_int pa_nil))) (pa_cons pe_int (pa_cons pe_int pa_nil)))) pa_nil))))
 (pss_cons (ps_set (i:=2) SC.nd rfl (Or.inl rfl) (pe_cal C__law_open hr__law_open rfl (pa_cons (pv 0) (pa_cons pe_int pa_nil))))
 (pss_cons (ps_if (pt_cmpR (L3.ux_eq (K':=K) rfl hu) (pe_cal C__law_draw hr__law_draw rfl (pa_cons (pv 2) (pa_cons pe_int pa_nil))) pe_int (nomark _))
 (pss_one (ps_asg (pe_cal C__law_wide hr__law_wide rfl (pa_cons (pv 2) pa_nil)) (pg_sub (pv 1) pe_int set_list)))
 pss_nil)
 (pss_cons (ps_if (pt_cmpR (L3.ux_eq (K':=K) rfl hu) (pe_cal C__law_draw hr__law_draw rfl (pa_cons (pv 2) (pa_cons pe_int pa_nil))) pe_int (nomark _))
 (pss_cons (ps_par (i:=3) (j:=4) rfl SC.nd rfl rfl (by decide) rfl rfl (pa_cons (pe_cal C__law_draw hr__law_draw rfl (pa_cons (pv 2) (pa_cons pe_int pa_nil))) (pa_cons (pe_op (L3.ux_add (K':=K) rfl) pe_int (pe_cal C__law_draw hr__law_draw rfl (pa_cons (pv 2) (pa_cons pe_int pa_nil)))) pa_nil)) rfl)
 (pss_cons (ps_set (i:=5) SC.nd rfl (Or.inl rfl) (pe_lst (pa_cons (pe_tup (pa_cons pe_int (pa_cons (pe_tup (pa_cons (pv 3) pa_nil)) pa_nil))) (pa_cons (pe_tup (pa_cons pe_int (pa_cons (pe_tup (pa_cons (pe_op op_mod (pe_op (L3.ux_add (K':=K) rfl) (pv 3) pe_int) pe_int) (pa_cons (pv 3) pa_nil))) pa_nil))) pa_nil))))
 (pss_one (ps_if (pt_not (pt_val (pe_cal C__law_right hr__law_right rfl (pa_cons (pv 5) (pa_cons (pe_op L3.ux_mul (pe_lst (pa_cons (pv 3) pa_nil)) (pv 4)) (pa_cons pe_int (pa_cons pe_int (pa_cons (pe_lst (pa_cons (pe_op L3.ux_mul (pe_lst (pa_cons pe_int pa_nil)) (pv 4)) pa_nil)) pa_nil))))))))
 (pss_one (ps_ret pe_bl))
 pss_nil))))
 pss_nil)
 (pss_cons (ps_if (PW.pt (pw_or (pt_not (pt_val (pe_cal C__law_right hr__law_right rfl (pa_cons (pe_ix (L3.ux_ix (K':=K) rfl) (pv 1) pe_int (fun _ _=>rfl)) (pa_cons (pe_lst pa_nil) (pa_cons pe_int (pa_cons pe_int (pa_cons (pe_lst (pa_cons (pe_lst pa_nil) pa_nil)) pa_nil)))))))) (pw_or1 (pt_not (pt_val (pe_cal C__law_right hr__law_right rfl (pa_cons (pe_ix (L3.ux_ix (K':=K) rfl) (pv 1) pe_int (fun _ _=>rfl)) (pa_cons (pe_lst pa_nil) (pa_cons pe_int (pa_cons pe_int (pa_cons (pe_lst (pa_cons (pe_lst pa_nil) pa_nil)) pa_nil)))))))))))
 (pss_one (ps_ret pe_bl))
 pss_nil)
 (pss_cons (ps_for PassesOwn.never rfl (pi_range2 rfl T.b_range (pa_cons pe_int (pa_cons (pe_op (L3.ux_add (K':=K) rfl) pe_int (pe_callB (call_max2 rfl) (by rfl) T.b_max PyProof.Rows.boot_max (pa_cons pe_int (pa_cons (pe_callB (call_min2 rfl) (by rfl) T.b_min PyProof.Rows.boot_min (pa_cons (pe_callB (bk_len (K:=K) rfl) (by rfl) T.b_len PySem.boot_len (pa_cons (pv 0) pa_nil)) (pa_cons pe_int pa_nil))) pa_nil)))) pa_nil))) (pg_name (i:=6) SC.nd rfl (Or.inl rfl))
 (pss_cons (ps_set (i:=2) SC.nd rfl (Or.inl rfl) (pe_cal C__law_open hr__law_open rfl (pa_cons (pv 0) (pa_cons (pv 6) pa_nil))))
 (pss_cons (ps_set (i:=7) SC.nd rfl (Or.inl rfl) (pe_cal C__law_draw hr__law_draw rfl (pa_cons (pv 2) (pa_cons pe_int pa_nil))))
 (pss_cons (ps_set (i:=8) SC.nd rfl (Or.inl rfl) (pe_cal C__law_rows hr__law_rows rfl (pa_cons (pv 2) (pa_cons (pe_ix (L3.ux_ix (K':=K) rfl) (pv 1) (pv 7) (fun _ _=>rfl)) (pa_cons pe_int pa_nil)))))
 (pss_cons (ps_set (i:=9) SC.nd rfl (Or.inl rfl) (pe_ix (L3.ux_ix (K':=K) rfl) (pe_lst (pa_cons pe_int (pa_cons pe_int pa_nil))) (pe_callTy call_int1 (by rfl) T.b_int PyProof.Rows.boot_int (pa_cons (pe_cmpR (L3.ux_eq (K':=K) rfl hu) (pv 6) pe_int (nomark _)) pa_nil)) (fun _ _=>rfl)))
 (pss_cons (ps_if (pt_not (pt_val (pe_cal C__law_row_right hr__law_row_right rfl (pa_cons (pv 2) (pa_cons (pe_ix (L3.ux_ix (K':=K) rfl) (pv 1) (pv 7) (fun _ _=>rfl)) (pa_cons (pv 8) (pa_cons (pv 9) pa_nil)))))))
 (pss_one (ps_ret pe_bl))
 pss_nil)
 (pss_one (ps_if (pt_not (pt_val (pe_cal C__law_row_right hr__law_row_right rfl (pa_cons (pv 2) (pa_cons (pe_ix (L3.ux_ix (K':=K) rfl) (pv 1) (pe_op op_sub pe_int (pv 7)) (fun _ _=>rfl)) (pa_cons (pv 8) (pa_cons pe_int pa_nil)))))))
 (pss_one (ps_ret pe_bl))
 pss_nil))))))))
 (pss_one (ps_ret pe_bl)))))))),fun _=>(L3.s_seq (L3.s_asg (L3.s_lstC (L3.s_cons (L3.s_call (L3.s_cons (L3.s_call (L3.s_cons (L3.s_var 0) (L3.s_cons L3.s_int L3.s_nil))) (L3.s_cons L3.s_int (L3.s_cons L3.s_int L3.s_nil)))) (L3.s_cons (L3.s_call (L3.s_cons (L3.s_call (L3.s_cons (L3.s_var 0) (L3.s_cons L3.s_int L3.s_nil))) (L3.s_cons L3.s_int (L3.s_cons L3.s_int L3.s_nil)))) L3.s_nil))) (L3.s_g 1))
 (L3.s_seq (L3.s_asg (L3.s_call (L3.s_cons (L3.s_var 0) (L3.s_cons L3.s_int L3.s_nil))) (L3.s_g 2))
 (L3.s_seq (L3.s_ifS (L3.s_test (L3.s_op L3.s_eq (L3.s_call (L3.s_cons (L3.s_var 2) (L3.s_cons L3.s_int L3.s_nil))) L3.s_int))
 (L3.s_asg (L3.s_call (L3.s_cons (L3.s_var 2) L3.s_nil)) (L3.s_gsub (L3.s_var 1) L3.s_int))
 L3.s_next)
 (L3.s_seq (L3.s_ifS (L3.s_test (L3.s_op L3.s_eq (L3.s_call (L3.s_cons (L3.s_var 2) (L3.s_cons L3.s_int L3.s_nil))) L3.s_int))
 (L3.s_seq (L3.s_par (i:=3) (j:=4) (L3.s_cons (L3.s_call (L3.s_cons (L3.s_var 2) (L3.s_cons L3.s_int L3.s_nil))) (L3.s_cons (L3.s_op L3.s_add L3.s_int (L3.s_call (L3.s_cons (L3.s_var 2) (L3.s_cons L3.s_int L3.s_nil)))) L3.s_nil)))
 (L3.s_seq (L3.s_asg (L3.s_lst (L3.s_cons (L3.s_tup (L3.s_cons L3.s_int (L3.s_cons (L3.s_tup (L3.s_cons (L3.s_var 3) L3.s_nil)) L3.s_nil))) (L3.s_cons (L3.s_tup (L3.s_cons L3.s_int (L3.s_cons (L3.s_tup (L3.s_cons (L3.s_op L3.s_mod (L3.s_op L3.s_add (L3.s_var 3) L3.s_int) L3.s_int) (L3.s_cons (L3.s_var 3) L3.s_nil))) L3.s_nil))) L3.s_nil))) (L3.s_g 5))
 (L3.s_ifS (L3.s_not (L3.s_b (L3.s_call (L3.s_cons (L3.s_var 5) (L3.s_cons (L3.s_op L3.s_mul (L3.s_lst (L3.s_cons (L3.s_var 3) L3.s_nil)) (L3.s_var 4)) (L3.s_cons L3.s_int (L3.s_cons L3.s_int (L3.s_cons (L3.s_lst (L3.s_cons (L3.s_op L3.s_mul (L3.s_lst (L3.s_cons L3.s_int L3.s_nil)) (L3.s_var 4)) L3.s_nil)) L3.s_nil))))))))
 (L3.s_ret L3.s_bl)
 L3.s_next)))
 L3.s_next)
 (L3.s_seq (L3.s_ifS (L3.s_or (L3.s_not (L3.s_b (L3.s_call (L3.s_cons (L3.s_op L3.s_ix (L3.s_var 1) L3.s_int) (L3.s_cons (L3.s_lst L3.s_nil) (L3.s_cons L3.s_int (L3.s_cons L3.s_int (L3.s_cons (L3.s_lst (L3.s_cons (L3.s_lst L3.s_nil) L3.s_nil)) L3.s_nil)))))))) (L3.s_not (L3.s_b (L3.s_call (L3.s_cons (L3.s_op L3.s_ix (L3.s_var 1) L3.s_int) (L3.s_cons (L3.s_lst L3.s_nil) (L3.s_cons L3.s_int (L3.s_cons L3.s_int (L3.s_cons (L3.s_lst (L3.s_cons (L3.s_lst L3.s_nil) L3.s_nil)) L3.s_nil)))))))))
 (L3.s_ret L3.s_bl)
 L3.s_next)
 (L3.s_seq (L3.s_for (L3.s_ir2 (L3.s_cons L3.s_int (L3.s_cons (L3.s_op L3.s_add L3.s_int (L3.s_cb L3.s_max2 (L3.s_cons L3.s_int (L3.s_cons (L3.s_cb L3.s_min2 (L3.s_cons (L3.s_cb L3.s_len (L3.s_cons (L3.s_var 0) L3.s_nil)) (L3.s_cons L3.s_int L3.s_nil))) L3.s_nil)))) L3.s_nil))) (L3.s_g 6)
 (L3.s_seq (L3.s_asg (L3.s_call (L3.s_cons (L3.s_var 0) (L3.s_cons (L3.s_var 6) L3.s_nil))) (L3.s_g 2))
 (L3.s_seq (L3.s_asg (L3.s_call (L3.s_cons (L3.s_var 2) (L3.s_cons L3.s_int L3.s_nil))) (L3.s_g 7))
 (L3.s_seq (L3.s_asg (L3.s_call (L3.s_cons (L3.s_var 2) (L3.s_cons (L3.s_op L3.s_ix (L3.s_var 1) (L3.s_var 7)) (L3.s_cons L3.s_int L3.s_nil)))) (L3.s_g 8))
 (L3.s_seq (L3.s_asg (L3.s_op L3.s_ix (L3.s_lst (L3.s_cons L3.s_int (L3.s_cons L3.s_int L3.s_nil))) (L3.s_cb L3.s_intOf (L3.s_cons (L3.s_op L3.s_eq (L3.s_var 6) L3.s_int) L3.s_nil))) (L3.s_g 9))
 (L3.s_seq (L3.s_ifS (L3.s_not (L3.s_b (L3.s_call (L3.s_cons (L3.s_var 2) (L3.s_cons (L3.s_op L3.s_ix (L3.s_var 1) (L3.s_var 7)) (L3.s_cons (L3.s_var 8) (L3.s_cons (L3.s_var 9) L3.s_nil)))))))
 (L3.s_ret L3.s_bl)
 L3.s_next)
 (L3.s_ifS (L3.s_not (L3.s_b (L3.s_call (L3.s_cons (L3.s_var 2) (L3.s_cons (L3.s_op L3.s_ix (L3.s_var 1) (L3.s_op L3.s_sub L3.s_int (L3.s_var 7))) (L3.s_cons (L3.s_var 8) (L3.s_cons L3.s_int L3.s_nil)))))))
 (L3.s_ret L3.s_bl)
 L3.s_next)))))))
 (L3.s_ret L3.s_bl))))))),fun ds M Kk hM hD h=>?_⟩
  obtain ⟨ns,rfl,h⟩:=h
  obtain ⟨rfl,hlen,k⟩:=h
  have lm:∀ ns:List Int,(ns.map D.int).length=ns.length:=fun ns=>List.length_map _
  refine ⟨_,rfl,ns,0,rfl,⟨hlen,by decide,by decide⟩,0,6,4,rfl,⟨rfl,by decide,by decide,by decide,by decide⟩,fun L0 bs0 l0 n0 _ h0=>?_⟩
  refine ⟨_,rfl,ns,20,rfl,⟨hlen,by decide,by decide⟩,1,3,3,rfl,⟨rfl,by decide,by decide,by decide,by decide⟩,fun L1 bs1 l1 n1 _ h1=>?_⟩
  have t0:T52 L0:=⟨⟨l0,fun w hw=>(h0 w hw).1⟩,n0⟩
  have t1':T52 L1:=⟨⟨l1,fun w hw=>(h1 w hw).1⟩,n1⟩
  refine ⟨(show 2<=sizeLine by decide),?_⟩
  refine ⟨_,rfl,ns,21,rfl,⟨hlen,by decide,by decide⟩,?_⟩
  refine g_nx ?_
  dsimp only
  refine st_by (fun ρ' M'=>∃ L1,T52 L1/\ρ'=[some (.frz (ns.map .int)),some (.cell 2),some (.cell 3),none,none,none,none,none,none,none]/\mm L0 L1 [.hand]=M') (fun Kn hn=>?_) ?_
  ·refine ⟨_,rfl,3,8,rfl,rfl,⟨by decide,by decide⟩,fun q q0 q1=>.inl ⟨_,rfl,_,rfl,ite2 (fun h=>?_) (fun h=>?_)⟩⟩
   ·exact ⟨_,rfl,3,rfl,rfl,fun L l n h=>⟨_,rfl,2,_,_,1,rfl,rfl,rfl,rfl,hn _ _ ⟨L,⟨⟨l,h⟩,n⟩,rfl,rfl⟩⟩⟩
   ·exact hn _ _ ⟨L1,t1',rfl,rfl⟩
  rintro _ _ ⟨L1,t1,rfl,rfl⟩
  refine st_by (fun ρ' M'=>∃ v3 v4 v5:Option D,ρ'=[some (.frz (ns.map .int)),some (.cell 2),some (.cell 3),v3,v4,v5,none,none,none,none]/\mm L0 L1 [.hand]=M') (fun Kn hn=>?_) ?_
  ·refine ⟨_,rfl,3,4,rfl,rfl,⟨by decide,by decide⟩,fun q q0 q1=>.inl ⟨_,rfl,_,rfl,ite2 (fun h=>?_) (fun h=>?_)⟩⟩
   rotate_left
   ·exact hn _ _ ⟨_,_,_,rfl,rfl⟩
   refine ⟨_,rfl,3,256,rfl,rfl,⟨by decide,by decide⟩,fun o o0 o1=>?_⟩
   refine ⟨_,rfl,3,101,rfl,rfl,⟨by decide,by decide⟩,fun m m0 m1=>?_⟩
   refine ⟨_,_,rfl,?_⟩
   refine ⟨_,rfl,(show 1<=sizeLine by decide),(show 2<=sizeLine by decide),_,rfl,_,_,rfl,rfl,(show (0:Int) < 256 by decide),_,rfl,(show 2<=sizeLine by decide),(show 2<=sizeLine by decide),(show 2<=sizeLine by decide),?_⟩
   have ne:(o + 1) % 256≠o:=by omega
   refine ⟨_,rfl,_,rfl,(show 1<=sizeLine by decide),_,rfl,_,_,rfl,rfl,⟨by omega,by omega,?_⟩,?_⟩
   ·show 1 * _<=sizeLine
    exact small_line (by omega)
   have er:∀ (n:Nat) (z:Int),(List.replicate n [D.int z]).flatten=(List.replicate n z).map .int:=fun n z=>by rw [rep_flat,List.map_replicate]
   rw [er]
   refine ⟨(show 1<=sizeLine by decide),_,rfl,_,_,rfl,rfl,⟨by omega,by omega,?_⟩,(show 1<=sizeLine by decide),lone o ((o + 1) % 256),List.replicate (700 + m).toNat o,1,.lst [.lst ((List.replicate (700 + m).toNat 7).map .int)],?_,⟨by rw [List.length_replicate]; omega,lone_ok.1,lone_ok.2,by decide⟩,fun _=>⟨[List.replicate (700 + m).toNat 7],rfl,List.pairwise_singleton _ _,fun t=>List.mem_singleton.trans (lone_rdg ne _ t).symm⟩,_,rfl,iteF (hn _ _ ⟨_,_,_,rfl,rfl⟩)⟩
   ·show 1 * _<=sizeLine
    exact small_line (by omega)
   ·rw [cnt_one lone_ok (lone_rdg ne _),er]
    rfl
  rintro _ _ ⟨v3,v4,v5,rfl,rfl⟩
  have c0:=cnt_one t0 (rdg_nil t0)
  have c1:=cnt_one t1 (rdg_nil t1)
  have du:∀ {L:List Pr},T52 L->∀ M:Mem,Due52 M (.lst [.lst []]) L []:=fun h M=>⟨[[]],rfl,List.pairwise_singleton _ _,fun t=>List.mem_singleton.trans (rdg_nil h t).symm⟩
  refine ⟨_,rfl,_,_,_,rfl,rfl,rfl,Nat.zero_le _,Nat.zero_le _,(show 1<=sizeLine by decide),L0,[],1,.lst [.lst []],?_,⟨Nat.zero_le _,t0.1,t0.2,by decide⟩,fun _=>du t0 _,_,rfl,iteF ?_⟩
  ·rw [c0]; rfl
  refine ⟨_,rfl,_,_,_,rfl,rfl,rfl,Nat.zero_le _,Nat.zero_le _,(show 1<=sizeLine by decide),L1,[],0,.lst [.lst []],?_,⟨Nat.zero_le _,t1.1,t1.2,by decide⟩,fun z=>absurd z (by omega),_,rfl,iteF ?_⟩
  ·rw [c1]; rfl
  refine ⟨_,rfl,_,rfl,_,_,rfl,_,_,rfl,_,_,rfl,?_,?_⟩
  ·rw [lm]
   refine ⟨by decide,by decide,?_,?_⟩ <;> (split <;> (try split) <;> omega)
  refine ⟨fun j ρ M'=>∃ (X:Mem) (v2 v3 v4 v5 v6 v7 v8 v9:Option D),ρ=[some (.frz (ns.map .int)),some (.cell 2),v2,v3,v4,v5,v6,v7,v8,v9]/\M'=mm L0 L1 X,fun _ _ _ _ _=>trivial,⟨_,_,_,_,_,_,_,_,_,rfl,rfl⟩,?_,?_⟩
  ·rintro j x ρ M' hj rfl ⟨X,v2,v3,v4,v5,v6,v7,v8,v9,rfl,rfl⟩
   have hb:j < 63:=by
    have h1:j < (1 + _ - 1:Int).toNat:=hj
    rw [lm] at h1
    revert h1
    split <;> (try split) <;> omega
   refine ⟨_,rfl,_,rfl,ns,_,rfl,⟨hlen,by omega,by omega⟩,?_⟩
   refine ⟨_,rfl,_,2,rfl,at_last,⟨by decide,by decide⟩,fun r r0 r1=>?_⟩
   have tt:∀ {r:Int},0<=r->r < 2->∃ L,T52 L/\L2.atI [tD L0,tD L1] r=some (tD L):=fun {r} r0 r1=>by
    obtain ⟨d,ed,hd'⟩:=item2 (a:=tD L0) (b:=tD L1) r0 r1
    rcases hd' with rfl | rfl
    ·exact ⟨L0,t0,ed⟩
    ·exact ⟨L1,t1,ed⟩
   obtain ⟨L,tL,eL⟩:=tt r0 r1
   obtain ⟨L',tL',eL'⟩:=tt (r:=1 - r) (by omega) (by omega)
   refine ⟨_,rfl,_,rfl,_,rfl,_,_,_,rfl,rfl,eL,_,L,12,rfl,⟨at_last,tL.1.1,tL.1.2,by decide,by decide⟩,fun rn ln=>?_⟩
   obtain ⟨li,hli,eli⟩:∃ li:Int,li<=200/\L2.atI [D.int 40,D.int 200] (if decide ((1:Int) + j=1)=true then 1 else 0)=some (.int li):=by
    by_cases z:(1:Int) + j=1
    ·rw [if_pos (decide_eq_true z)]; exact ⟨200,by decide,rfl⟩
    ·rw [if_neg (by rw [decide_eq_true_iff]; exact z)]; exact ⟨40,by decide,rfl⟩
   refine ⟨(show 2<=sizeLine by decide),_,rfl,.inl ⟨_,rfl,_,_,rfl,rfl,_,_,_,rfl,rfl,eli,?_⟩⟩
   refine ⟨_,rfl,_,rfl,_,rfl,_,_,_,rfl,rfl,eL,_,rfl,_,rfl,_,L,rn,li,rfl,⟨at_last,by omega,tL.1,tL.2,hli⟩,_,rfl,iteF ?_⟩
   exact ⟨_,rfl,_,rfl,_,rfl,_,_,rfl,rfl,_,_,_,rfl,rfl,eL',_,rfl,_,L',rn,40,rfl,⟨at_last,by omega,tL'.1,tL'.2,by decide⟩,_,rfl,iteF (.inl ⟨X++[.hand],_,_,_,_,_,_,_,_,rfl,rfl⟩)⟩
  ·rintro ρ M' ⟨X,v2,v3,v4,v5,v6,v7,v8,v9,rfl,rfl⟩
   exact .inl (k _)
end
def len1 {τ:Type} {Q:List τ->Prop} (h:∀ a,Q [a]) (us:List τ) (hl:us.length=1):Q us:=match us,hl with | [a],_=>h a
def len2 {τ:Type} {Q:List τ->Prop} (h:∀ a b,Q [a,b]) (us:List τ) (hl:us.length=2):Q us:=match us,hl with | [a,b],_=>h a b
def len3 {τ:Type} {Q:List τ->Prop} (h:∀ a b c,Q [a,b,c]) (us:List τ) (hl:us.length=3):Q us:=match us,hl with | [a,b,c],_=>h a b c
def len4 {τ:Type} {Q:List τ->Prop} (h:∀ a b c d,Q [a,b,c,d]) (us:List τ) (hl:us.length=4):Q us:=match us,hl with | [a,b,c,d],_=>h a b c d
def len5 {τ:Type} {Q:List τ->Prop} (h:∀ a b c d e,Q [a,b,c,d,e]) (us:List τ) (hl:us.length=5):Q us:=match us,hl with | [a,b,c,d,e],_=>h a b c d e
def all_mk {l:W.OpenLaw} {w:World} {K:W.Frag} {h:Heap} {mg:Str->Option Value} {fa:Addr} (X:K.In h) (G:h.Ns mainGlobals mg) (hfa:mg "law"=some (.ref fa))
    {X_TooMany:Addr}
    {X_SkewError:Addr}
    {X_NoReading:Addr}
    {f0:Addr} {od0 an0:Option Addr} {sl0:Array (Option Value)} {oc0 kV0 dc0 pm0 cd0 ct0:Value}
    {f1:Addr} {od1 an1:Option Addr} {sl1:Array (Option Value)} {oc1 kV1 dc1 pm1 cd1 ct1:Value}
    {f2:Addr} {od2 an2:Option Addr} {sl2:Array (Option Value)} {oc2 kV2 dc2 pm2 cd2 ct2:Value}
    {f3:Addr} {od3 an3:Option Addr} {sl3:Array (Option Value)} {oc3 kV3 dc3 pm3 cd3 ct3:Value}
    {f4:Addr} {od4 an4:Option Addr} {sl4:Array (Option Value)} {oc4 kV4 dc4 pm4 cd4 ct4:Value}
    {f5:Addr} {od5 an5:Option Addr} {sl5:Array (Option Value)} {oc5 kV5 dc5 pm5 cd5 ct5:Value}
    {f6:Addr} {od6 an6:Option Addr} {sl6:Array (Option Value)} {oc6 kV6 dc6 pm6 cd6 ct6:Value}
    {f7:Addr} {od7 an7:Option Addr} {sl7:Array (Option Value)} {oc7 kV7 dc7 pm7 cd7 ct7:Value}
    {f8:Addr} {od8 an8:Option Addr} {sl8:Array (Option Value)} {oc8 kV8 dc8 pm8 cd8 ct8:Value}
    {f9:Addr} {od9 an9:Option Addr} {sl9:Array (Option Value)} {oc9 kV9 dc9 pm9 cd9 ct9:Value}
    {f10:Addr} {od10 an10:Option Addr} {sl10:Array (Option Value)} {oc10 kV10 dc10 pm10 cd10 ct10:Value}
    {f11:Addr} {od11 an11:Option Addr} {sl11:Array (Option Value)} {oc11 kV11 dc11 pm11 cd11 ct11:Value}
    {f12:Addr} {od12 an12:Option Addr} {sl12:Array (Option Value)} {oc12 kV12 dc12 pm12 cd12 ct12:Value}
    {f13:Addr} {od13 an13:Option Addr} {sl13:Array (Option Value)} {oc13 kV13 dc13 pm13 cd13 ct13:Value}
    {f14:Addr} {od14 an14:Option Addr} {sl14:Array (Option Value)} {oc14 kV14 dc14 pm14 cd14 ct14:Value}
    {f15:Addr} {od15 an15:Option Addr} {sl15:Array (Option Value)} {oc15 kV15 dc15 pm15 cd15 ct15:Value}
    {f16:Addr} {od16 an16:Option Addr} {sl16:Array (Option Value)} {oc16 kV16 dc16 pm16 cd16 ct16:Value}
    {f17:Addr} {od17 an17:Option Addr} {sl17:Array (Option Value)} {oc17 kV17 dc17 pm17 cd17 ct17:Value}
    {f18:Addr} {od18 an18:Option Addr} {sl18:Array (Option Value)} {oc18 kV18 dc18 pm18 cd18 ct18:Value}
    {f19:Addr} {od19 an19:Option Addr} {sl19:Array (Option Value)} {oc19 kV19 dc19 pm19 cd19 ct19:Value}
    {f20:Addr} {od20 an20:Option Addr} {sl20:Array (Option Value)} {oc20 kV20 dc20 pm20 cd20 ct20:Value}
    {f21:Addr} {od21 an21:Option Addr} {sl21:Array (Option Value)} {oc21 kV21 dc21 pm21 cd21 ct21:Value}
    (gx_TooMany:W.nsIn K mainGlobals "TooMany"=some (some (.ref X_TooMany)))
    (gx_SkewError:W.nsIn K mainGlobals "SkewError"=some (some (.ref X_SkewError)))
    (gx_NoReading:W.nsIn K mainGlobals "NoReading"=some (some (.ref X_NoReading)))
    (a0:W.nsIn K mainGlobals "_law_draw"=some (some (.ref f0)))
    (l0:K.lookup f0=some ⟨oc0,od0,.func (W.fnOf "_law_draw" "_law_draw" (defArgs s__law_draw) (defBody s__law_draw) (defScope s__law_draw) .none kV0 dc0 pm0 an0 cd0 ct0),sl0⟩)
    (c0:W.codeIn K cd0 "_law_draw"=true) (k0:W.keepIn K (.ref f0)=true)
    (a1:W.nsIn K mainGlobals "_law_open"=some (some (.ref f1)))
    (l1:K.lookup f1=some ⟨oc1,od1,.func (W.fnOf "_law_open" "_law_open" (defArgs s__law_open) (defBody s__law_open) (defScope s__law_open) .none kV1 dc1 pm1 an1 cd1 ct1),sl1⟩)
    (c1:W.codeIn K cd1 "_law_open"=true) (k1:W.keepIn K (.ref f1)=true)
    (a2:W.nsIn K mainGlobals "_law_bytes"=some (some (.ref f2)))
    (l2:K.lookup f2=some ⟨oc2,od2,.func (W.fnOf "_law_bytes" "_law_bytes" (defArgs s__law_bytes) (defBody s__law_bytes) (defScope s__law_bytes) .none kV2 dc2 pm2 an2 cd2 ct2),sl2⟩)
    (c2:W.codeIn K cd2 "_law_bytes"=true) (k2:W.keepIn K (.ref f2)=true)
    (a3:W.nsIn K mainGlobals "_law_words"=some (some (.ref f3)))
    (l3:K.lookup f3=some ⟨oc3,od3,.func (W.fnOf "_law_words" "_law_words" (defArgs s__law_words) (defBody s__law_words) (defScope s__law_words) .none kV3 dc3 pm3 an3 cd3 ct3),sl3⟩)
    (c3:W.codeIn K cd3 "_law_words"=true) (k3:W.keepIn K (.ref f3)=true)
    (a4:W.nsIn K mainGlobals "_law_signs"=some (some (.ref f4)))
    (l4:K.lookup f4=some ⟨oc4,od4,.func (W.fnOf "_law_signs" "_law_signs" (defArgs s__law_signs) (defBody s__law_signs) (defScope s__law_signs) .none kV4 dc4 pm4 an4 cd4 ct4),sl4⟩)
    (c4:W.codeIn K cd4 "_law_signs"=true) (k4:W.keepIn K (.ref f4)=true)
    (a5:W.findIn K (.ref X_TooMany) "__init__"=some (some (.ref f5)))
    (l5:K.lookup f5=some ⟨oc5,od5,.func (W.fnOf "__init__" "TooMany.__init__" (defArgs s_TooMany___init__) (defBody s_TooMany___init__) (defScope s_TooMany___init__) .none kV5 dc5 pm5 an5 cd5 ct5),sl5⟩)
    (c5:W.codeIn K cd5 "TooMany.__init__"=true) (k5:W.keepIn K (.ref f5)=true)
    (n5:W.isFn K (.ref f5)=true)
    (a6:W.nsIn K mainGlobals "_law_any_words"=some (some (.ref f6)))
    (l6:K.lookup f6=some ⟨oc6,od6,.func (W.fnOf "_law_any_words" "_law_any_words" (defArgs s__law_any_words) (defBody s__law_any_words) (defScope s__law_any_words) .none kV6 dc6 pm6 an6 cd6 ct6),sl6⟩)
    (c6:W.codeIn K cd6 "_law_any_words"=true) (k6:W.keepIn K (.ref f6)=true)
    (a7:W.nsIn K mainGlobals "_law_loose"=some (some (.ref f7)))
    (l7:K.lookup f7=some ⟨oc7,od7,.func (W.fnOf "_law_loose" "_law_loose" (defArgs s__law_loose) (defBody s__law_loose) (defScope s__law_loose) .none kV7 dc7 pm7 an7 cd7 ct7),sl7⟩)
    (c7:W.codeIn K cd7 "_law_loose"=true) (k7:W.keepIn K (.ref f7)=true)
    (a8:W.nsIn K mainGlobals "_law_wide"=some (some (.ref f8)))
    (l8:K.lookup f8=some ⟨oc8,od8,.func (W.fnOf "_law_wide" "_law_wide" (defArgs s__law_wide) (defBody s__law_wide) (defScope s__law_wide) .none kV8 dc8 pm8 an8 cd8 ct8),sl8⟩)
    (c8:W.codeIn K cd8 "_law_wide"=true) (k8:W.keepIn K (.ref f8)=true)
    (a9:W.nsIn K mainGlobals "_law_rows"=some (some (.ref f9)))
    (l9:K.lookup f9=some ⟨oc9,od9,.func (W.fnOf "_law_rows" "_law_rows" (defArgs s__law_rows) (defBody s__law_rows) (defScope s__law_rows) .none kV9 dc9 pm9 an9 cd9 ct9),sl9⟩)
    (c9:W.codeIn K cd9 "_law_rows"=true) (k9:W.keepIn K (.ref f9)=true)
    (a10:W.nsIn K mainGlobals "pairs_at"=some (some (.ref f10)))
    (l10:K.lookup f10=some ⟨oc10,od10,.func (W.fnOf "pairs_at" "pairs_at" (defArgs s_pairs_at) (defBody s_pairs_at) (defScope s_pairs_at) .none kV10 dc10 pm10 an10 cd10 ct10),sl10⟩)
    (c10:W.codeIn K cd10 "pairs_at"=true) (k10:W.keepIn K (.ref f10)=true)
    (a11:W.nsIn K mainGlobals "counts_from"=some (some (.ref f11)))
    (l11:K.lookup f11=some ⟨oc11,od11,.func (W.fnOf "counts_from" "counts_from" (defArgs s_counts_from) (defBody s_counts_from) (defScope s_counts_from) .none kV11 dc11 pm11 an11 cd11 ct11),sl11⟩)
    (c11:W.codeIn K cd11 "counts_from"=true) (k11:W.keepIn K (.ref f11)=true)
    (a12:W.nsIn K mainGlobals "one_sign_on"=some (some (.ref f12)))
    (l12:K.lookup f12=some ⟨oc12,od12,.func (W.fnOf "one_sign_on" "one_sign_on" (defArgs s_one_sign_on) (defBody s_one_sign_on) (defScope s_one_sign_on) .none kV12 dc12 pm12 an12 cd12 ct12),sl12⟩)
    (c12:W.codeIn K cd12 "one_sign_on"=true) (k12:W.keepIn K (.ref f12)=true)
    (a13:W.nsIn K mainGlobals "all_readings"=some (some (.ref f13)))
    (l13:K.lookup f13=some ⟨oc13,od13,.func (W.fnOf "all_readings" "all_readings" (defArgs s_all_readings) (defBody s_all_readings) (defScope s_all_readings) .none kV13 dc13 pm13 an13 cd13 ct13),sl13⟩)
    (c13:W.codeIn K cd13 "all_readings"=true) (k13:W.keepIn K (.ref f13)=true)
    (a14:W.nsIn K mainGlobals "_law_whole"=some (some (.ref f14)))
    (l14:K.lookup f14=some ⟨oc14,od14,.func (W.fnOf "_law_whole" "_law_whole" (defArgs s__law_whole) (defBody s__law_whole) (defScope s__law_whole) .none kV14 dc14 pm14 an14 cd14 ct14),sl14⟩)
    (c14:W.codeIn K cd14 "_law_whole"=true) (k14:W.keepIn K (.ref f14)=true)
    (a15:W.nsIn K mainGlobals "_law_texts"=some (some (.ref f15)))
    (l15:K.lookup f15=some ⟨oc15,od15,.func (W.fnOf "_law_texts" "_law_texts" (defArgs s__law_texts) (defBody s__law_texts) (defScope s__law_texts) .none kV15 dc15 pm15 an15 cd15 ct15),sl15⟩)
    (c15:W.codeIn K cd15 "_law_texts"=true) (k15:W.keepIn K (.ref f15)=true)
    (a16:W.nsIn K mainGlobals "_law_counts"=some (some (.ref f16)))
    (l16:K.lookup f16=some ⟨oc16,od16,.func (W.fnOf "_law_counts" "_law_counts" (defArgs s__law_counts) (defBody s__law_counts) (defScope s__law_counts) .none kV16 dc16 pm16 an16 cd16 ct16),sl16⟩)
    (c16:W.codeIn K cd16 "_law_counts"=true) (k16:W.keepIn K (.ref f16)=true)
    (a17:W.nsIn K mainGlobals "_law_all"=some (some (.ref f17)))
    (l17:K.lookup f17=some ⟨oc17,od17,.func (W.fnOf "_law_all" "_law_all" (defArgs s__law_all) (defBody s__law_all) (defScope s__law_all) .none kV17 dc17 pm17 an17 cd17 ct17),sl17⟩)
    (c17:W.codeIn K cd17 "_law_all"=true) (k17:W.keepIn K (.ref f17)=true)
    (a18:W.nsIn K mainGlobals "_law_told"=some (some (.ref f18)))
    (l18:K.lookup f18=some ⟨oc18,od18,.func (W.fnOf "_law_told" "_law_told" (defArgs s__law_told) (defBody s__law_told) (defScope s__law_told) .none kV18 dc18 pm18 an18 cd18 ct18),sl18⟩)
    (c18:W.codeIn K cd18 "_law_told"=true) (k18:W.keepIn K (.ref f18)=true)
    (a19:W.nsIn K mainGlobals "_law_right"=some (some (.ref f19)))
    (l19:K.lookup f19=some ⟨oc19,od19,.func (W.fnOf "_law_right" "_law_right" (defArgs s__law_right) (defBody s__law_right) (defScope s__law_right) .none kV19 dc19 pm19 an19 cd19 ct19),sl19⟩)
    (c19:W.codeIn K cd19 "_law_right"=true) (k19:W.keepIn K (.ref f19)=true)
    (a20:W.nsIn K mainGlobals "_law_row_right"=some (some (.ref f20)))
    (l20:K.lookup f20=some ⟨oc20,od20,.func (W.fnOf "_law_row_right" "_law_row_right" (defArgs s__law_row_right) (defBody s__law_row_right) (defScope s__law_row_right) .none kV20 dc20 pm20 an20 cd20 ct20),sl20⟩)
    (c20:W.codeIn K cd20 "_law_row_right"=true) (k20:W.keepIn K (.ref f20)=true)
    (a21:W.nsIn K mainGlobals "law"=some (some (.ref f21)))
    (l21:K.lookup f21=some ⟨oc21,od21,.func (W.fnOf "law" "law" (defArgs s_law) (defBody s_law) (defScope s_law) .none kV21 dc21 pm21 an21 cd21 ct21),sl21⟩)
    (c21:W.codeIn K cd21 "law"=true) (k21:W.keepIn K (.ref f21)=true)
    (xei_TooMany:L2.excI K X_TooMany f5=true)
    (xin_TooMany:L2.iniOf K X_TooMany=some (some (.ref f5)))
    (xob_TooMany:W.mroIn K X_TooMany (.type "object")=some true)
    (xbx_TooMany:W.mroIn K X_TooMany (.type "BaseException")=some true)
    (xsa_TooMany:W.findIn K (.ref X_TooMany) "__setattr__"=some (some (.builtin "object.__setattr__")))
    (xga_TooMany:W.findIn K (.ref X_TooMany) "__getattribute__"=some (some (.builtin "BaseException.__getattribute__")))
    (xgt_TooMany:W.findIn K (.ref X_TooMany) "__getattr__"=some none)
    (xdd_TooMany:W.hasDictIn K X_TooMany=true)
    (xkp_TooMany:W.keepIn K (.ref X_TooMany)=true)
    (xfn_TooMany:W.typeIn K (.ref f5)=some (.type "function"))
    (xcc_TooMany:W.findIn K (.ref X_TooMany) "__class__"=some (some (.builtin "object.__class__")))
    (xcg_TooMany:W.specialIn K (.builtin "object.__class__") "__get__"=some (some (.builtin "getset_descriptor.__get__")))
    (xct_TooMany:W.takesIn K (.builtin "object.__class__")=some true)
    (xna_most_TooMany:W.findIn K (.ref X_TooMany) "most"=some none)
    (xty_SkewError:W.typeIn K (.ref X_SkewError)=some (.type "type"))
    (xbb_SkewError:W.mroIn K X_SkewError (.type "BaseException")=some true)
    (mts:W.mroIn K X_TooMany (.ref X_SkewError)=some true)
    (ktt:W.kitOne K (.ref X_TooMany) (.ref X_TooMany)=some true)
    (ktv:W.kitOne K (.ref X_TooMany) (.type "ValueError")=some true)
    (ktn:W.kitOne K (.ref X_TooMany) (.ref X_NoReading)=some false)
    (z_len:W.nsIn K mainGlobals "len"=some none)
    (z_abs:W.nsIn K mainGlobals "abs"=some none)
    (z_max:W.nsIn K mainGlobals "max"=some none)
    (z_min:W.nsIn K mainGlobals "min"=some none)
    (z_isinstance:W.nsIn K mainGlobals "isinstance"=some none)
    (z_all:W.nsIn K mainGlobals "all"=some none)
    (z_range:W.nsIn K mainGlobals "range"=some none)
    (z_int:W.nsIn K mainGlobals "int"=some none)
    (z_bool:W.nsIn K mainGlobals "bool"=some none)
    (z_tuple:W.nsIn K mainGlobals "tuple"=some none)
    (z_list:W.nsIn K mainGlobals "list"=some none)
    (z_sum:W.nsIn K mainGlobals "sum"=some none)
    (z_sorted:W.nsIn K mainGlobals "sorted"=some none)
    (z_zip:W.nsIn K mainGlobals "zip"=some none)
    (z_ValueError:W.nsIn K mainGlobals "ValueError"=some none)
   :∃ fd:FuncData,(∀ (s:Shared) (v:Value),BindsTo s fd ⟨[v],[]⟩ [("_law_script",v)])/\∀ base:Heap,K.In base->base.Ns mainGlobals mg->FnOk l.prog w K mg base CX0 7 fa fd ["_law_script"] (spLaw K):=by
  have e:=hfa.symm.trans (W.mg_of X G a21)
  cases e
  have T:Txt mg:=⟨W.mg_none_of X G z_len,W.mg_none_of X G z_abs,W.mg_none_of X G z_max,W.mg_none_of X G z_min,W.mg_none_of X G z_isinstance,W.mg_none_of X G z_all,W.mg_none_of X G z_range,W.mg_none_of X G z_int,W.mg_none_of X G z_bool,W.mg_none_of X G z_tuple,W.mg_none_of X G z_list,W.mg_none_of X G z_sum,W.mg_none_of X G z_sorted,W.mg_none_of X G z_zip,W.mg_none_of X G z_ValueError⟩
  have F0:=fun_mk (st:=s__law_draw) l0 c0 k0
  have b0:=F0.binds (ps:=["_law_hand", "_law_many"]) fun _ _ _ _ _ _=>len2 fun _ _=>rfl
  have F1:=fun_mk (st:=s__law_open) l1 c1 k1
  have b1:=F1.binds (ps:=["_law_script", "_law_place"]) fun _ _ _ _ _ _=>len2 fun _ _=>rfl
  have F2:=fun_mk (st:=s__law_bytes) l2 c2 k2
  have b2:=F2.binds (ps:=["_law_hand", "_law_most"]) fun _ _ _ _ _ _=>len2 fun _ _=>rfl
  have F3:=fun_mk (st:=s__law_words) l3 c3 k3
  have b3:=F3.binds (ps:=["_law_hand", "_law_some", "_law_most", "_law_longest"]) fun _ _ _ _ _ _=>len4 fun _ _ _ _=>rfl
  have F4:=fun_mk (st:=s__law_signs) l4 c4 k4
  have b4:=F4.binds (ps:=["_law_hand", "_law_many"]) fun _ _ _ _ _ _=>len2 fun _ _=>rfl
  have F5:=fun_mk (st:=s_TooMany___init__) l5 c5 k5
  have b5:=F5.binds (ps:=["self", "most"]) fun _ _ _ _ _ _=>len2 fun _ _=>rfl
  have F6:=fun_mk (st:=s__law_any_words) l6 c6 k6
  have b6:=F6.binds (ps:=["_law_hand", "_law_some"]) fun _ _ _ _ _ _=>len2 fun _ _=>rfl
  have F7:=fun_mk (st:=s__law_loose) l7 c7 k7
  have b7:=F7.binds (ps:=["_law_hand", "_law_most", "_law_longest"]) fun _ _ _ _ _ _=>len3 fun _ _ _=>rfl
  have F8:=fun_mk (st:=s__law_wide) l8 c8 k8
  have b8:=F8.binds (ps:=["_law_hand"]) fun _ _ _ _ _ _=>len1 fun _=>rfl
  have F9:=fun_mk (st:=s__law_rows) l9 c9 k9
  have b9:=F9.binds (ps:=["_law_hand", "_law_table", "_law_most"]) fun _ _ _ _ _ _=>len3 fun _ _ _=>rfl
  have F10:=fun_mk (st:=s_pairs_at) l10 c10 k10
  have b10:=F10.binds (ps:=["table", "row", "place"]) fun _ _ _ _ _ _=>len3 fun _ _ _=>rfl
  have F11:=fun_mk (st:=s_counts_from) l11 c11 k11
  have b11:=F11.binds (ps:=["table", "row"]) fun _ _ _ _ _ _=>len2 fun _ _=>rfl
  have F12:=fun_mk (st:=s_one_sign_on) l12 c12 k12
  have b12:=F12.binds (ps:=["table", "row", "begun", "counts"]) fun _ _ _ _ _ _=>len4 fun _ _ _ _=>rfl
  have F13:=fun_mk (st:=s_all_readings) l13 c13 k13
  have b13:=F13.binds (ps:=["table", "row", "most"]) fun _ _ _ _ _ _=>len3 fun _ _ _=>rfl
  have F14:=fun_mk (st:=s__law_whole) l14 c14 k14
  have b14:=F14.binds (ps:=["_law_one"]) fun _ _ _ _ _ _=>len1 fun _=>rfl
  have F15:=fun_mk (st:=s__law_texts) l15 c15 k15
  have b15:=F15.binds (ps:=["_law_told_here", "_law_due"]) fun _ _ _ _ _ _=>len2 fun _ _=>rfl
  have F16:=fun_mk (st:=s__law_counts) l16 c16 k16
  have b16:=F16.binds (ps:=["_law_table", "_law_row"]) fun _ _ _ _ _ _=>len2 fun _ _=>rfl
  have F17:=fun_mk (st:=s__law_all) l17 c17 k17
  have b17:=F17.binds (ps:=["_law_table", "_law_row", "_law_ways"]) fun _ _ _ _ _ _=>len3 fun _ _ _=>rfl
  have F18:=fun_mk (st:=s__law_told) l18 c18 k18
  have b18:=F18.binds (ps:=["_law_table", "_law_row", "_law_most"]) fun _ _ _ _ _ _=>len3 fun _ _ _=>rfl
  have F19:=fun_mk (st:=s__law_right) l19 c19 k19
  have b19:=F19.binds (ps:=["_law_table", "_law_row", "_law_most", "_law_count", "_law_due"]) fun _ _ _ _ _ _=>len5 fun _ _ _ _ _=>rfl
  have F20:=fun_mk (st:=s__law_row_right) l20 c20 k20
  have b20:=F20.binds (ps:=["_law_hand", "_law_table", "_law_row", "_law_limit"]) fun _ _ _ _ _ _=>len4 fun _ _ _ _=>rfl
  have F21:=fun_mk (st:=s_law) l21 c21 k21
  refine ⟨W.fnOf "law" "law" (defArgs s_law) (defBody s_law) (defScope s_law) .none kV21 dc21 pm21 an21 cd21 ct21,fun s v=>.of_eq rfl,fun base _ _=>?_⟩
  have G_TooMany:=W.mg_of X G gx_TooMany
  have G_SkewError:=W.mg_of X G gx_SkewError
  have G_NoReading:=W.mg_of X G gx_NoReading
  have xc_TooMany:XCl K X_TooMany _:=⟨xei_TooMany,xob_TooMany,xbx_TooMany,xsa_TooMany,xga_TooMany,xgt_TooMany,xdd_TooMany,xkp_TooMany,xfn_TooMany,xcc_TooMany,xcg_TooMany,xct_TooMany⟩
  have CA_SkewError:Cau K mg "SkewError" X_SkewError:=⟨G_SkewError,xty_SkewError,xbb_SkewError⟩
  have C__law_draw:=cal_mk (P:=l.prog) (w:=w) (base:=base) F0 (ok__law_draw T  F0) (W.mg_of X G a0) b0
  have D__law_draw:=L3.Cal.imp C__law_draw fun _ _ _ _ h=>L3.a_draw (C:=⟨0,K⟩) h
  have C__law_open:=cal_mk (P:=l.prog) (w:=w) (base:=base) F1 (ok__law_open T  F1) (W.mg_of X G a1) b1
  have D__law_open:=L3.Cal.imp C__law_open fun _ _ _ _ h=>L3.a_open (C:=⟨0,K⟩) h
  have C__law_bytes:=cal_mk (P:=l.prog) (w:=w) (base:=base) F2 (ok__law_bytes T C__law_draw F2) (W.mg_of X G a2) b2
  have D__law_bytes:=L3.Cal.imp C__law_bytes fun _ _ _ _ h=>L3.a_bytes (C:=⟨0,K⟩) h
  have C__law_words:=cal_mk (P:=l.prog) (w:=w) (base:=base) F3 (ok__law_words T C__law_draw F3) (W.mg_of X G a3) b3
  have D__law_words:=L3.Cal.imp C__law_words fun _ _ _ _ h=>L3.a_wordsB (C:=⟨0,K⟩) h
  have C__law_signs:=cal_mk (P:=l.prog) (w:=w) (base:=base) F4 (ok__law_signs T C__law_draw F4) (W.mg_of X G a4) b4
  have D__law_signs:=L3.Cal.imp C__law_signs fun _ _ _ _ h=>L3.a_signs (C:=⟨0,K⟩) h
  have RX_TooMany:Rx l.prog w K mg base "TooMany" X_TooMany 1 _ _:=⟨f5,_,xc_TooMany,xin_TooMany,ok_TooMany___init__ T xc_TooMany xna_most_TooMany F5,G_TooMany,b5⟩
  have C__law_any_words:=cal_mk (P:=l.prog) (w:=w) (base:=base) F6 (ok__law_any_words (C:=0) T D__law_draw F6) (W.mg_of X G a6) b6
  have C__law_loose:=cal_mk (P:=l.prog) (w:=w) (base:=base) F7 (ok__law_loose (C:=0) T D__law_bytes D__law_draw D__law_words C__law_any_words D__law_signs F7) (W.mg_of X G a7) b7
  have C__law_wide:=cal_mk (P:=l.prog) (w:=w) (base:=base) F8 (ok__law_wide (C:=0) T D__law_draw D__law_signs F8) (W.mg_of X G a8) b8
  have C__law_rows:=cal_mk (P:=l.prog) (w:=w) (base:=base) F9 (ok__law_rows (C:=0) T D__law_draw F9) (W.mg_of X G a9) b9
  have C_pairs_at:=cal_mk (P:=l.prog) (w:=w) (base:=base) F10 (ok_pairs_at (C:=0) T  F10) (W.mg_of X G a10) b10
  have C_counts_from:=cal_mk (P:=l.prog) (w:=w) (base:=base) F11 (ok_counts_from (C:=0) T C_pairs_at F11) (W.mg_of X G a11) b11
  have C_one_sign_on:=cal_mk (P:=l.prog) (w:=w) (base:=base) F12 (ok_one_sign_on (C:=0) T C_pairs_at F12) (W.mg_of X G a12) b12
  have C_all_readings:=cale_mk (P:=l.prog) (w:=w) (base:=base) F13 (ok_all_readings (C:=0) T RX_TooMany C_counts_from C_one_sign_on F13) (W.mg_of X G a13) b13
  have C__law_whole:=cal_mk (P:=l.prog) (w:=w) (base:=base) F14 (ok__law_whole (C:=0) T  F14) (W.mg_of X G a14) b14
  have C__law_texts:=cal_mk (P:=l.prog) (w:=w) (base:=base) F15 (ok__law_texts (C:=0) T C__law_whole F15) (W.mg_of X G a15) b15
  have C__law_counts:=cal_mk (P:=l.prog) (w:=w) (base:=base) F16 (ok__law_counts (C:=0) T  F16) (W.mg_of X G a16) b16
  have C__law_all:=cal_mk (P:=l.prog) (w:=w) (base:=base) F17 (ok__law_all (C:=0) T  F17) (W.mg_of X G a17) b17
  have C__law_told:=cal_mk (P:=l.prog) (w:=w) (base:=base) F18 (ok__law_told (C:=0) T G_TooMany G_NoReading xc_TooMany xna_most_TooMany CA_SkewError mts ktt ktv ktn C_all_readings F18) (W.mg_of X G a18) b18
  have C__law_right:=cal_mk (P:=l.prog) (w:=w) (base:=base) F19 (ok__law_right (C:=0) T C__law_told C__law_texts F19) (W.mg_of X G a19) b19
  have C__law_row_right:=cal_mk (P:=l.prog) (w:=w) (base:=base) F20 (ok__law_row_right (C:=0) T C__law_counts C__law_all D__law_draw C__law_right F20) (W.mg_of X G a20) b20
  exact (ok_law (C:=0) T D__law_open D__law_draw C__law_loose C__law_wide C__law_right C__law_rows C__law_row_right F21).imp fun _ _ _ _ h=>L3.law_in0 (C:=⟨0,K⟩) h
def walk {l:W.OpenLaw} {q:Program} {loose:List Str} {XP:(Str->Option Value)->Heap->Prop} {YP:World->Heap->Prop} {d:DefRec} {K:Params->W.Frag} (hn:l.most=some 63) (hdf:d.params.defaults=[])
  (hY:∀ (w:World) (h:Heap),YP w h->(K w.params).In h)
  (F:∀ (w:World) (mg:Str->Option Value) (fa:Addr) (h:Heap),(K w.params).In h->h.Ns mainGlobals mg->mg d.name=some (.ref fa) ->
   ∃ fd:FuncData,(∀ (s:Shared) (u:Value),BindsTo s fd ⟨[u],[]⟩ [("_law_script",u)])/\∀ base:Heap,(K w.params).In base->base.Ns mainGlobals mg->FnOk l.prog w (K w.params) mg base CX0 7 fa fd ["_law_script"] (spLaw (K w.params))) :
  W.WalkO q loose XP YP l.row.toRowW d [] (fun f vs=>PySem.call f vs) :=
 L2.walk_of (n:=63) (k:=7) (x:="_law_script") (CX:=fun _=>CX0) (sp:=fun w=>spLaw (K w.params)) hn (by decide) hdf ⟨rfl,by decide,by decide⟩ hY F (fun _ _ a ns hl _ hS=>⟨a,ns,rfl,hS,hl,fun _=>rfl⟩) fun _ _ _ _ _ z=>z
end K52
def PySem.W.Fast.tw787049569210320357:Nat:=0
def PySem.W.Fast.tw12994783138998363430:Nat:=0
def PySem.W.Fast.tw11322761680747274376:Nat:=0
def PySem.W.Fast.tw14329823185573237661:Nat:=0
def PySem.W.Fast.tw13755029020678744228:Nat:=0
def PySem.W.Fast.tw12788580988797643661:Nat:=0
def PySem.W.Fast.tw14997589250258091896:Nat:=0
def PySem.W.Fast.tw4825203005680702757:Nat:=0
def PySem.W.Fast.tw11918046827978315048:Nat:=0
def PySem.W.Fast.tw5328269502799082164:Nat:=0
def PySem.W.Fast.tw18440774539678394200:Nat:=0
def PySem.W.Fast.tw7963088867142301187:Nat:=0
def PySem.W.Fast.tw6232209595076335466:Nat:=0
def PySem.W.Fast.tw16444514205041593333:Nat:=0
def PySem.W.Fast.tw9948000886332755318:Nat:=0
def PySem.W.Fast.tw13361144276311833517:Nat:=0
def PySem.W.Fast.tw15889381406922930486:Nat:=0
def PySem.W.Fast.tw11201453394674783386:Nat:=0
def PySem.W.Fast.tw4902619623216388668:Nat:=0
def PySem.W.Fast.tw12980085689941709602:Nat:=0
def PySem.W.Fast.tw14591865746412981710:Nat:=0
def PySem.W.Fast.tw7005969267366003553:Nat:=0
def PySem.W.Fast.tw10253543649481534135:Nat:=0
def PySem.W.Fast.tw12183914899902861174:Nat:=0
def PySem.W.Fast.tw3281268425199636381:Nat:=0
def PySem.W.Fast.tw16767605014748538403:Nat:=0
def PySem.W.Fast.tw17177179361774594859:Nat:=0
def PySem.W.Fast.tw8875668144475871468:Nat:=0
def PySem.W.Fast.tw2539102671914084480:Nat:=0
def PySem.W.Fast.tw14311175983807449838:Nat:=0
def PySem.W.Fast.tw10134609284133062355:Nat:=0
def PySem.W.Fast.tw13579160535746919332:Nat:=0
def PySem.W.Fast.tw11912068345276433108:Nat:=0
def PySem.W.Fast.tw2426974698845912197:Nat:=0
def PySem.W.Fast.tw15955560174914549934:Nat:=0
def PySem.W.Fast.tw16763984164003667809:Nat:=0
def PySem.W.Fast.tw7221511910415430246:Nat:=0
def PySem.W.Fast.tw12105149651225093033:Nat:=0
def PySem.W.Fast.tw12553455628139288679:Nat:=0
def PySem.W.Fast.tw3641681880369661541:Nat:=0
def PySem.W.Fast.tw1125449229974157934:Nat:=0
def PySem.W.Fast.tw10027468719426222748:Nat:=0
def PySem.W.Fast.tw6214826003029941589:Nat:=0
def PySem.W.Fast.tw234292692305568091:Nat:=0
def PySem.W.Fast.tw7859732221511186653:Nat:=0
def PySem.W.Fast.tw9199738486854347120:Nat:=0
def PySem.W.Fast.tw11498274888997435330:Nat:=0
def PySem.W.Fast.tw15682358831316866605:Nat:=0
def PySem.W.Fast.tw4697973802164665351:Nat:=0
def PySem.W.Fast.tw18223798634650688952:Nat:=0
def PySem.W.Fast.tw3219489709672158517:Nat:=0
def PySem.W.Fast.tw9263830024758793892:Nat:=0
open PySem PySem.W PyProof.Rows
set_option maxRecDepth 100000 in
set_option maxHeartbeats 0 in
theorem PySem.Challenge.cw_skewread_k52_all_readings_holds : PySem.Challenge.rw_skewread_k52_all_readings.Holds := by
  w_on; o_law; k_head; (case hw=>w_witness2)
  k_fill
  refine K52.walk (l:=PySem.Challenge.rw_skewread_k52_all_readings) rfl rfl (fun w h Y=>PySem.W.kIn_of Y) ?F
  case F =>
    intro w mg fa h KX G hmg
    refine' K52.all_mk KX G hmg ?gx_TooMany ?gx_SkewError ?gx_NoReading ?a0 ?l0 ?c0 ?k0 ?a1 ?l1 ?c1 ?k1 ?a2 ?l2 ?c2 ?k2 ?a3 ?l3 ?c3 ?k3 ?a4 ?l4 ?c4 ?k4 ?a5 ?l5 ?c5 ?k5 ?n5 ?a6 ?l6 ?c6 ?k6 ?a7 ?l7 ?c7 ?k7 ?a8 ?l8 ?c8 ?k8 ?a9 ?l9 ?c9 ?k9 ?a10 ?l10 ?c10 ?k10 ?a11 ?l11 ?c11 ?k11 ?a12 ?l12 ?c12 ?k12 ?a13 ?l13 ?c13 ?k13 ?a14 ?l14 ?c14 ?k14 ?a15 ?l15 ?c15 ?k15 ?a16 ?l16 ?c16 ?k16 ?a17 ?l17 ?c17 ?k17 ?a18 ?l18 ?c18 ?k18 ?a19 ?l19 ?c19 ?k19 ?a20 ?l20 ?c20 ?k20 ?a21 ?l21 ?c21 ?k21 ?xei_TooMany ?xin_TooMany ?xob_TooMany ?xbx_TooMany ?xsa_TooMany ?xga_TooMany ?xgt_TooMany ?xdd_TooMany ?xkp_TooMany ?xfn_TooMany ?xcc_TooMany ?xcg_TooMany ?xct_TooMany ?xna_most_TooMany ?xty_SkewError ?xbb_SkewError ?mts ?ktt ?ktv ?ktn ?z_len ?z_abs ?z_max ?z_min ?z_isinstance ?z_all ?z_range ?z_int ?z_bool ?z_tuple ?z_list ?z_sum ?z_sorted ?z_zip ?z_ValueError
    (case gx_TooMany=>k_is); (case gx_SkewError=>k_is); (case gx_NoReading=>k_is); (case a0=>k_is); (case l0=>k_is); (case c0=>k_is)
    (case k0=>k_is); (case a1=>k_is); (case l1=>k_is); (case c1=>k_is); (case k1=>k_is); (case a2=>k_is)
    (case l2=>k_is); (case c2=>k_is); (case k2=>k_is); (case a3=>k_is); (case l3=>k_is); (case c3=>k_is)
    (case k3=>k_is); (case a4=>k_is); (case l4=>k_is); (case c4=>k_is); (case k4=>k_is); (case a5=>k_is)
    (case l5=>k_is); (case c5=>k_is); (case k5=>k_is); (case n5=>k_is); (case a6=>k_is); (case l6=>k_is)
    (case c6=>k_is); (case k6=>k_is); (case a7=>k_is); (case l7=>k_is); (case c7=>k_is); (case k7=>k_is)
    (case a8=>k_is); (case l8=>k_is); (case c8=>k_is); (case k8=>k_is); (case a9=>k_is); (case l9=>k_is)
    (case c9=>k_is); (case k9=>k_is); (case a10=>k_is); (case l10=>k_is); (case c10=>k_is); (case k10=>k_is)
    (case a11=>k_is); (case l11=>k_is); (case c11=>k_is); (case k11=>k_is); (case a12=>k_is); (case l12=>k_is)
    (case c12=>k_is); (case k12=>k_is); (case a13=>k_is); (case l13=>k_is); (case c13=>k_is); (case k13=>k_is)
    (case a14=>k_is); (case l14=>k_is); (case c14=>k_is); (case k14=>k_is); (case a15=>k_is); (case l15=>k_is)
    (case c15=>k_is); (case k15=>k_is); (case a16=>k_is); (case l16=>k_is); (case c16=>k_is); (case k16=>k_is)
    (case a17=>k_is); (case l17=>k_is); (case c17=>k_is); (case k17=>k_is); (case a18=>k_is); (case l18=>k_is)
    (case c18=>k_is); (case k18=>k_is); (case a19=>k_is); (case l19=>k_is); (case c19=>k_is); (case k19=>k_is)
    (case a20=>k_is); (case l20=>k_is); (case c20=>k_is); (case k20=>k_is); (case a21=>k_is); (case l21=>k_is)
    (case c21=>k_is); (case k21=>k_is); (case xei_TooMany=>first | k_is | kernel_rfl); (case xin_TooMany=>first | k_is | kernel_rfl); (case xob_TooMany=>first | k_is | kernel_rfl); (case xbx_TooMany=>first | k_is | kernel_rfl)
    (case xsa_TooMany=>first | k_is | kernel_rfl); (case xga_TooMany=>first | k_is | kernel_rfl); (case xgt_TooMany=>first | k_is | kernel_rfl); (case xdd_TooMany=>first | k_is | kernel_rfl); (case xkp_TooMany=>first | k_is | kernel_rfl); (case xfn_TooMany=>first | k_is | kernel_rfl)
    (case xcc_TooMany=>first | k_is | kernel_rfl); (case xcg_TooMany=>first | k_is | kernel_rfl); (case xct_TooMany=>first | k_is | kernel_rfl); (case xna_most_TooMany=>first | k_is | kernel_rfl); (case xty_SkewError=>first | k_is | kernel_rfl); (case xbb_SkewError=>first | k_is | kernel_rfl)
    (case mts=>first | k_is | kernel_rfl); (case ktt=>first | k_is | kernel_rfl); (case ktv=>first | k_is | kernel_rfl); (case ktn=>first | k_is | kernel_rfl); (case z_len=>k_is); (case z_abs=>k_is)
    (case z_max=>k_is); (case z_min=>k_is); (case z_isinstance=>k_is); (case z_all=>k_is); (case z_range=>k_is); (case z_int=>k_is)
    (case z_bool=>k_is); (case z_tuple=>k_is); (case z_list=>k_is); (case z_sum=>k_is); (case z_sorted=>k_is); (case z_zip=>k_is)
    (case z_ValueError=>k_is)
#print axioms PySem.Challenge.cw_skewread_k52_all_readings_holds