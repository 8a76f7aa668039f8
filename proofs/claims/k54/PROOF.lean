import PyProof.Rows.All
import Wide.All
import OpenK.AllK
import Wide.FinOn
import Lean
import PyProof.EqAt
import PyProof.EqKinds
import PyProof.TupleCall
import PyProof.DictItems
import KE.KPairComp
import KE.KDictList
import PyProof.ListRange
import KE.KUnpack
import KE.KEqDict
import PyProof.DictFindH
import KE.KDictSum
import PyProof.AutoListH
import PyProof.SumAny
import PyProof.Rows.Range3
import KE.KStateDown
import KE.KSortTup
import KE.KLam
import KE.KNestM
import KE.KDictOf
import PyProof.AttrMissHeap
import KE.KRevSl
import PyProof.RaisesMany
import PyProof.ExcInit
import PyProof.ExcClass2
import PyProof.RulesTry
import PyProof.PassesOwn
import OpenK.KOwn
import PyProof.RulesDel
import KE.KIsAll
import PyProof.EnumMake
import PyProof.LayNew
import PyProof.ZipIter
import PyProof.Rows.ZipGen
import KE.KIntText
import KE.KMinKey
import PyProof.SetKind
import PyProof.TupleKey
import PyProof.IsRules
import PyProof.Rows.SetFrom
import PyProof.SetRoads
import PyProof.FactsAll.set
import PySem.Challenge.RW_skewread_k54_papers_looked_at
set_option Elab.async false
set_option linter.all false
set_option maxRecDepth 100000
local macro_rules | `(def $n:declId $s:optDeclSig $v:declVal)=>`(noncomputable def $n:declId $s:optDeclSig $v:declVal)
local macro_rules | `(abbrev $n:declId $s:optDeclSig $v:declVal)=>`(noncomputable abbrev $n:declId $s:optDeclSig $v:declVal)
namespace L2
open PySem PySem.Spec PyProof.Rows
abbrev Key:=Sum Int Str
def keyIs:Key->Value->Bool
 | .inl k,v=>Value.isInt k v
 | .inr x,v=>Value.isStrOf x v
def keyH (w:World):Key->Int
 | .inl k=>hashInt k
 | .inr x=>hashStr w x
theorem keyIs_shape:∀ {k:Key} {v:Value},keyIs k v=true->(∃ i t,k=Sum.inl i/\v=Value.int i t)\/(∃ x t,k=Sum.inr x/\v=Value.str x t)
 | .inl i,v,h=>by
  obtain ⟨t,e⟩:=Value.isInt_shape (k:=i) (v:=v) h
  exact .inl ⟨i,t,rfl,e⟩
 | .inr x,v,h=>by
  obtain ⟨t,e⟩:=Value.isStrOf_shape (x:=x) (v:=v) h
  exact .inr ⟨x,t,rfl,e⟩
def keyIs_int (i:Int) (t:Tok):keyIs (.inl i) (.int i t)=true:=by simp [keyIs,Value.isInt]
def keyIs_str (x:Str) (t:Tok):keyIs (.inr x) (.str x t)=true:=by simp [keyIs,Value.isStrOf]
def key_ll (a b:Int):decide ((Sum.inl a:Key)=Sum.inl b)=(a == b):=by
 by_cases e:a=b
 ·subst e; simp
 ·have h:¬ (Sum.inl a:Key)=Sum.inl b:=fun q=>e (Sum.inl.inj q)
  rw [decide_eq_false h]
  exact (beq_eq_false_iff_ne.mpr e).symm
def key_rr (a b:Str):decide ((Sum.inr a:Key)=Sum.inr b)=decide (a=b):=by
 by_cases e:a=b
 ·subst e; simp
 ·have h:¬ (Sum.inr a:Key)=Sum.inr b:=fun q=>e (Sum.inr.inj q)
  rw [decide_eq_false h,decide_eq_false e]
def key_lr (a:Int) (b:Str):decide ((Sum.inl a:Key)=Sum.inr b)=false:=decide_eq_false (fun q=>nomatch q)
def key_rl (a:Str) (b:Int):decide ((Sum.inr a:Key)=Sum.inl b)=false:=decide_eq_false (fun q=>nomatch q)
def mixKind (prog:Program) (w:World):PySem.KeyKind prog w Key where
 is:=keyIs
 hash:=keyH w
 inj:=fun v a b ha hb=>by
  rcases keyIs_shape ha with ⟨i,t,rfl,rfl⟩ | ⟨x,t,rfl,rfl⟩
  ·rcases keyIs_shape hb with ⟨j,u,rfl,e⟩ | ⟨y,u,rfl,e⟩
   ·injection e with e1 _; rw [e1]
   ·exact nomatch e
  ·rcases keyIs_shape hb with ⟨j,u,rfl,e⟩ | ⟨y,u,rfl,e⟩
   ·exact nomatch e
   ·injection e with e1 _; rw [e1]
 byValue:=fun k v h=>by
  rcases keyIs_shape h with ⟨i,t,rfl,rfl⟩ | ⟨x,t,rfl,rfl⟩ <;> rfl
 pyHash:=fun hv h=>by
  rcases keyIs_shape hv with ⟨i,t,rfl,rfl⟩ | ⟨x,t,rfl,rfl⟩
  ·exact wpAny_pyHash_int h
  ·exact wpAny_pyHash_str h
 eqBool:=fun hu hv h=>by
  rcases keyIs_shape hu with ⟨i,t,rfl,rfl⟩ | ⟨x,t,rfl,rfl⟩
  ·rcases keyIs_shape hv with ⟨j,u,rfl,rfl⟩ | ⟨y,u,rfl,rfl⟩
   ·rw [key_ll] at h; exact wpAny_eqBool_int h
   ·rw [key_lr] at h; exact SeqAt.EqAt.int_str i t y u _ _ _ _ h
  ·rcases keyIs_shape hv with ⟨j,u,rfl,rfl⟩ | ⟨y,u,rfl,rfl⟩
   ·rw [key_rl] at h; exact SeqAt.EqAt.str_int x t j u _ _ _ _ h
   ·rw [key_rr] at h; exact wpAny_eqBool_str h
 «strs»:=fun k x t v h=>by
  rcases keyIs_shape h with ⟨i,u,rfl,e⟩ | ⟨y,u,rfl,e⟩
  ·exact nomatch e
  ·injection e with e1 _
   subst e1
   cases v <;> rfl
def mixKind_int (prog:Program) (w:World) (i:Int) (t:Tok):(mixKind prog w).is (.inl i) (.int i t)=true:=keyIs_int i t
def mixKind_str (prog:Program) (w:World) (x:Str) (t:Tok):(mixKind prog w).is (.inr x) (.str x t)=true:=keyIs_str x t
inductive V where
 | non | bl (b:Bool) | int (i:Int) | str (x:Str) | byt (b:Array UInt8) | flt (b:UInt64) | ref (a:Addr) | ty (n:String)
 deriving DecidableEq
def RelV:V->Value->Prop
 | .non,u=>u=Value.none
 | .bl b,u=>u=Value.bool b
 | .int i,u=>∃ t,u=Value.int i t
 | .str x,u=>∃ t,u=Value.str x t
 | .byt b,u=>∃ t,u=Value.bytes b t
 | .flt b,u=>∃ t,u=Value.float b t
 | .ref a,u=>u=Value.ref a
 | .ty n,u=>u=Value.type n
abbrev Vals:List V->List Value->Prop:=Paired RelV
def Vals.length {xs:List V} {us:List Value} (r:Vals xs us):xs.length=us.length:=Paired.length r
theorem Vals.get:∀ {xs:List V} {us:List Value} {i:Nat} {x:V},Vals xs us->xs[i]?=some x->∃ u,us[i]?=some u/\RelV x u
 | _,_,_,_,.nil,e=>by simp at e
 | _,_,0,_,.cons r _,e=>by simp at e; subst e; exact ⟨_,rfl,r⟩
 | _,_,i + 1,x,.cons _ t,e=>by
  obtain ⟨u,h1,h2⟩:=Vals.get (i:=i) (x:=x) t (by simpa using e)
  exact ⟨u,by simpa using h1,h2⟩
theorem Vals.set {x:V} {u:Value} (r:RelV x u):∀ {xs:List V} {us:List Value} (i:Nat),Vals xs us->Vals (xs.set i x) (us.set i u)
 | _,_,_,.nil=>.nil
 | _,_,0,.cons _ t=>.cons r t
 | _,_,i + 1,.cons q t=>.cons q (Vals.set r i t)
theorem Vals.append:∀ {xs ys:List V} {us ws:List Value},Vals xs us->Vals ys ws->Vals (xs++ys) (us++ws)
 | _,_,_,_,.nil,s=>s
 | _,_,_,_,.cons r t,s=>.cons r (Vals.append t s)
theorem Vals.take:∀ {xs:List V} {us:List Value} (n:Nat),Vals xs us->Vals (xs.take n) (us.take n)
 | _,_,0,_=>.nil
 | _,_,_ + 1,.nil=>.nil
 | _,_,n + 1,.cons r t=>.cons r (Vals.take n t)
theorem Vals.drop:∀ {xs:List V} {us:List Value} (n:Nat),Vals xs us->Vals (xs.drop n) (us.drop n)
 | _,_,0,r=>r
 | _,_,_ + 1,.nil=>.nil
 | _,_,n + 1,.cons _ t=>Vals.drop n t
def RelO:Option V->Option Value->Prop
 | some v,some u=>RelV v u
 | none,none=>True
 | _,_=>False
def KV {κ:Type}:List (κ×V)->List (κ×Value)->Prop:=Paired fun (p:κ×V) (q:κ×Value)=>p.1=q.1/\RelV p.2 q.2
def kV:Key->V
 | .inl i=>.int i
 | .inr x=>.str x
def IsTupD (h:Heap) (a:Addr) (items:Array Value):Prop:=∃ o,h.get? a=some o/\o.cls=.type "tuple"/\∃ n,o.data=.seq items n/\o.dict=none
def IsTupD.tup {h:Heap} {a:Addr} {items:Array Value} (x:IsTupD h a items):IsTup h a items:=let ⟨o,e,c,n,d,_⟩:=x; ⟨o,e,c,n,d⟩
def IsTupD.new (h:Heap) (items:Array Value):IsTupD (h.push { cls:=.type "tuple",data:=.seq items }) h.objs.size items:=⟨_,Heap.get?_push_size _ rfl,rfl,_,rfl,rfl⟩
def IsTupD.lt {h:Heap} {a:Addr} {items:Array Value} (x:IsTupD h a items):a < h.objs.size:=let ⟨_,e,_⟩:=x; Heap.lt_size e
inductive HO where
 | lst (xs:List V)
 | tup (xs:List V)
 | dK (kvs:List (Key×V)) | dT (kvs:List (List Key×V))
 | set (S:Int->Bool) (n:Nat)
 | ins (C dx:Addr) (fs:List (Str×V))
 | own (x:Addr)
 | xd (fs:List (Str×V))
 | met (f x:Addr)
 | rng (lo hi:Int)
 | frz (o:Obj) (u:HO)
 | tbl (ps:Array Value)
 | ext (φ:Heap->Prop)
abbrev Hp:=Addr->Option HO
def upd (H:Hp) (a:Addr) (o:HO):Hp:=fun b=>if b=a then some o else H b
def upd_same {H:Hp} {a:Addr} {o:HO}:upd H a o a=some o:=by unfold upd; rw [if_pos rfl]
def upd_ne {H:Hp} {a b:Addr} {o:HO} (h:b≠a):upd H a o b=H b:=by unfold upd; rw [if_neg h]
def ne_of {H:Hp} {a b:Addr} {o u:HO} (h:H a=some o) (h':H b=some u) (d:o≠u):a≠b:=by
 intro e; subst e; rw [h] at h'; exact d (Option.some.inj h')
def ne_of_none {H:Hp} {a b:Addr} {o:HO} (h:H a=some o) (h':H b=none):a≠b:=by
 intro e; subst e; rw [h] at h'; cases h'
section
variable (P:Program) (w:World)
def ObjOk (H:Hp) (h:Heap) (a:Addr):HO->Prop
 | .lst xs=>xs.length<=sizeLine/\∃ (its:List Value) (n:Nat),Vals xs its/\h.get? a=some { cls:=.type "list",data:=.seq its.toArray n }
 | .tup xs=>xs.length<=sizeLine/\∃ its:List Value,Vals xs its/\IsTupD h a its.toArray
 | .dK kvs=>kvs.length<=sizeLine/\(a == sysModules)=false/\∃ vs,KV kvs vs/\h.DictOf (mixKind P w) a vs
 | .dT kvs=>kvs.length<=sizeLine/\(a == sysModules)=false/\∃ xs:List (List Key×Addr×Value),
   Paired (fun (p:List Key×V) (q:List Key×Addr×Value)=>p.1=q.1/\H q.2.1=some (.tup (p.1.map kV))/\RelV p.2 q.2.2) kvs xs /\
   ∃ o es ep,h.get? a=some o/\o.ExactDict/\o.data=.dict es ep/\es.toList=xs.map (entryOfKey (tupleKind (mixKind P w)))/\(xs.map (·.1)).Nodup
 | .set S n=>h.SetOf (intKind P w) a S n
 | .ins C dx fs=>H dx=some (.own a)/\fs.length<=1000/\dx≠a/\h.get? a=some (W.instObj C dx) /\
   ∃ mA,h.Ns1 dx mA/\(∀ f,RelO (fs.lookup f) (mA f))/\PySem.Within mA (fs.map (·.1))
 | .own _=>∃ o,h.get? a=some o
 | .xd fs=>∃ mA,h.Ns1 a mA/\∀ f,RelO (fs.lookup f) (mA f)
 | .rng lo hi=>∃ t u v,h.get? a=some { cls:=.type "range",data:=.fields #[.int lo t,.int hi u,.int 1 v] }
 | .frz o u=>h.get? a=some o/\ObjOk H h a u
 | .tbl ps=>h.get? a=some { cls:=.none,data:=.fields ps }
 | .met f x=>h.get? a=some (W.methodObj (.ref f) (.ref x))
 | .ext φ=>φ h/\(∃ o,h.get? a=some o)/\∀ h1 h2:Heap,φ h1->(∀ o,h1.get? a=some o->h2.get? a=some o)->φ h2
def HOk (H:Hp) (h:Heap):Prop:=∀ a o,H a=some o->ObjOk P w H h a o
end
section
variable {P:Program} {w:World} {H H':Hp} {h h':Heap} {a:Addr} {o:HO}
theorem ObjOk.lt (x:ObjOk P w H h a o):a < h.objs.size:=by
 cases o with
 | lst xs=>obtain ⟨_,_,_,_,e⟩:=x; exact Heap.lt_size e
 | tup xs=>obtain ⟨_,_,_,p⟩:=x; exact p.lt
 | dK kvs=>obtain ⟨_,_,_,_,o,_,_,e,_⟩:=x; exact Heap.lt_size e
 | dT kvs=>obtain ⟨_,_,_,_,o,_,_,e,_⟩:=x; exact Heap.lt_size e
 | set S n=>obtain ⟨o,_,_,_,e,_⟩:=x; exact Heap.lt_size e
 | ins C dx fs=>obtain ⟨_,_,_,e,_⟩:=x; exact Heap.lt_size e
 | own y=>obtain ⟨_,e⟩:=x; exact Heap.lt_size e
 | xd fs=>obtain ⟨_,⟨_,_,_,e,_⟩,_⟩:=x; exact Heap.lt_size e
 | rng lo hi=>obtain ⟨_,_,_,e⟩:=x; exact Heap.lt_size e
 | frz ob u=>obtain ⟨e,_⟩:=x; exact Heap.lt_size e
 | tbl ps=>exact Heap.lt_size (show h.get? a=some _ from x)
 | met f y=>exact Heap.lt_size (show h.get? a=some _ from x)
 | ext φ=>obtain ⟨_,⟨_,e⟩,_⟩:=x; exact Heap.lt_size e
theorem Paired.mapP {α β:Type} {F G:α->β->Prop}:∀ {l₁:List α} {l₂:List β},Paired F l₁ l₂->(∀ a b,F a b->G a b)->Paired G l₁ l₂
 | _,_,.nil,_=>.nil
 | _,_,.cons r t,f=>.cons (f _ _ r) (Paired.mapP t f)
theorem ObjOk.stay (x:ObjOk P w H h a o) (k:∀ b u,(b=a\/H b=some (.own a))->h.get? b=some u->h'.get? b=some u)
  (ho:∀ b,H b=some (.own a)->H' b=some (.own a)) (ht:∀ b xs,H b=some (.tup xs)->H' b=some (.tup xs)):ObjOk P w H' h' a o:=by
 induction o with
 | lst xs=>obtain ⟨z,its,n,r,e⟩:=x; exact ⟨z,its,n,r,k _ _ (.inl rfl) e⟩
 | tup xs=>obtain ⟨z,its,r,ob,e,c⟩:=x; exact ⟨z,its,r,ob,k _ _ (.inl rfl) e,c⟩
 | dK kvs=>obtain ⟨z,y,vs,r,ob,es,ep,e,c⟩:=x; exact ⟨z,y,vs,r,ob,es,ep,k _ _ (.inl rfl) e,c⟩
 | dT kvs =>
  obtain ⟨z,y,xs,r,ob,es,ep,e,c⟩:=x
  exact ⟨z,y,xs,Paired.mapP r fun p q z=>⟨z.1,ht _ _ z.2.1,z.2.2⟩,ob,es,ep,k _ _ (.inl rfl) e,c⟩
 | set S n=>obtain ⟨ob,es,ep,t,e,c⟩:=x; exact ⟨ob,es,ep,t,k _ _ (.inl rfl) e,c⟩
 | ins C dx fs =>
  obtain ⟨d,z,ne,e,mA,⟨od,es,ep,e2,c⟩,r⟩:=x
  exact ⟨ho _ d,z,ne,k _ _ (.inl rfl) e,mA,⟨od,es,ep,k _ _ (.inr d) e2,c⟩,r⟩
 | own y=>obtain ⟨ob,e⟩:=x; exact ⟨ob,k _ _ (.inl rfl) e⟩
 | xd fs=>obtain ⟨mA,⟨od,es,ep,e,c⟩,r⟩:=x; exact ⟨mA,⟨od,es,ep,k _ _ (.inl rfl) e,c⟩,r⟩
 | rng lo hi=>obtain ⟨t,u,v,e⟩:=x; exact ⟨t,u,v,k _ _ (.inl rfl) e⟩
 | frz ob u ih=>obtain ⟨e,q⟩:=x; exact ⟨k _ _ (.inl rfl) e,ih q⟩
 | tbl ps =>
  have e:h.get? a=some { cls:=.none,data:=.fields ps }:=x
  show h'.get? a=some { cls:=.none,data:=.fields ps }
  exact k a _ (.inl rfl) e
 | met f y =>
  have e:h.get? a=some (W.methodObj (.ref f) (.ref y)):=x
  show h'.get? a=some (W.methodObj (.ref f) (.ref y))
  exact k a _ (.inl rfl) e
 | ext φ=>obtain ⟨p,⟨o,e⟩,st⟩:=x; exact ⟨st _ _ p fun o q=>k _ _ (.inl rfl) q,⟨o,k _ _ (.inl rfl) e⟩,st⟩
def HOk.lt (x:HOk P w H h) (e:H a=some o):a < h.objs.size:=(x a o e).lt
theorem HOk.fresh (x:HOk P w H h) (e:h.objs.size<=a):H a=none:=by
 cases q:H a with
 | none=>rfl
 | some u=>exact absurd (Nat.lt_of_lt_of_le (x.lt q) e) (Nat.lt_irrefl _)
def HOk.kept (x:HOk P w H h) (k:∀ b u,h.get? b=some u->h'.get? b=some u):HOk P w H h':=fun a o e =>
 (x a o e).stay (fun b u _ q=>k b u q) (fun _ q=>q) fun _ _ q=>q
def HOk.laid (x:HOk P w H h) (k:∀ b u,h.get? b=some u->h'.get? b=some u) (hp:h.objs.size<=a) (new:ObjOk P w (upd H a o) h' a o):HOk P w (upd H a o) h':=fun b u e=>by
 have hn:=x.fresh hp
 by_cases hb:b=a
 ·subst hb; rw [upd_same] at e; cases e; exact new
 ·rw [upd_ne hb] at e
  exact (x b u e).stay (fun c v _ q=>k c v q) (fun c q=>by rw [upd_ne (ne_of_none q hn)]; exact q) fun c xs q=>by rw [upd_ne (ne_of_none q hn)]; exact q
end
def Rd (H:Hp) (a:Addr) (u:HO):Prop:=H a=some u\/∃ o,H a=some (.frz o u)
def Rd.ok {P:Program} {w:World} {H:Hp} {h:Heap} {a:Addr} {u:HO} (r:Rd H a u) (x:HOk P w H h):ObjOk P w H h a u:=by
 rcases r with r | ⟨o,r⟩
 ·exact x a u r
 ·obtain ⟨_,q⟩:=x a _ r
  exact q
def Mut:Option HO->Prop
 | some (.lst _)=>True
 | some (.dK _)=>True
 | some (.dT _)=>True
 | some (.set _ _)=>True
 | some (.ins _ _ _)=>True
 | some (.ext _)=>True
 | _=>False
section
variable {P:Program} {w:World} {H:Hp} {h h':Heap} {x e:Addr} {o':HO}
def HOk.write (ok:HOk P w H h) (mu:Mut (H x)) (he:e=x\/H e=some (.own x)) (k:∀ b u,b≠e->h.get? b=some u->h'.get? b=some u) (heo:∃ u,h'.get? e=some u)
  (new:ObjOk P w (upd H x o') h' x o'):HOk P w (upd H x o') h':=fun b u q=>by
 have nown:∀ c y,H c=some (.own y)->c≠x:=fun c y r z=>by subst z; rw [r] at mu; exact mu
 have ntup:∀ c xs,H c=some (.tup xs)->c≠x:=fun c xs r z=>by subst z; rw [r] at mu; exact mu
 by_cases hb:b=x
 ·subst hb; rw [upd_same] at q; cases q; exact new
 ·rw [upd_ne hb] at q
  by_cases hbe:b=e
  ·have q':H b=some (.own x):=by
    rcases he with z | z
    ·exact absurd (hbe.trans z) hb
    ·rw [hbe]; exact z
   rw [q] at q'; cases q'
   obtain ⟨v,hv⟩:=heo
   exact ⟨v,by rw [hbe]; exact hv⟩
  ·refine (ok b u q).stay (fun c v hc r=>k c v ?_ r) (fun c r=>by rw [upd_ne (nown c b r)]; exact r) fun c xs r=>by rw [upd_ne (ntup c xs r)]; exact r
   rcases hc with rfl | hc
   ·exact hbe
   ·rintro rfl
    rcases he with z | z
    ·exact nown c b hc z
    ·rw [hc] at z; cases z; exact hb rfl
end
structure Un (fs ex:List Addr) (H H':Hp) (h h':Heap):Prop where
 keep:∀ b o,h.get? b=some o->H b=none->b∉fs->b∉ex->h'.get? b=some o
 slot:∀ b o,h.get? b=some o->H b=none->b∈fs->b∉ex->∃ sl,h'.get? b=some { o with slots:=sl }
 free:∀ b o,h.get? b=some o->H b=none->b∉ex->H' b=none
 there:∀ b o,h.get? b=some o->b∉ex->∃ o',h'.get? b=some o'
 tups:∀ b xs,H b=some (.tup xs)->H' b=some (.tup xs)
 frzs:∀ b o u,H b=some (.frz o u)->H' b=some (.frz o u)
 tbls:∀ b ps,H b=some (.tbl ps)->∃ more,H' b=some (.tbl (ps++more))
section
variable {fs ex:List Addr} {H H1:Hp} {h h1 h':Heap} {a x e:Addr} {o:HO}
def Un.any (u:Un fs ex H H1 h h1) {b:Addr} {ob:Obj} (q:h.get? b=some ob) (n:H b=none) (hx:b∉ex):∃ sl,h1.get? b=some { ob with slots:=sl }:=by
 by_cases hb:b∈fs
 ·exact u.slot b ob q n hb hx
 ·exact ⟨ob.slots,u.keep b ob q n hb hx⟩
def Un.kept (k:∀ b u,h.get? b=some u->h'.get? b=some u):Un fs ex H H h h' :=
 ⟨fun b ob q _ _ _=>k b ob q,fun b ob q _ _ _=>⟨ob.slots,k b ob q⟩,fun _ _ _ n _=>n,fun b ob q _=>⟨ob,k b ob q⟩,fun _ _ q=>q,fun _ _ _ q=>q,fun _ ps q=>⟨#[],by rw [q]; simp⟩⟩
def Un.refl:Un fs ex H H h h:=Un.kept fun _ _ q=>q
def Un.laid (k:∀ b u,h.get? b=some u->h'.get? b=some u) (hp:h.objs.size<=a) (hn:H a=none):Un fs ex H (upd H a o) h h' where
 keep:=fun b u q _ _ _=>k b u q
 slot:=fun b u q _ _ _=>⟨u.slots,k b u q⟩
 free:=fun b u q n _=>by rw [upd_ne (Nat.ne_of_lt (Nat.lt_of_lt_of_le (Heap.lt_size q) hp))]; exact n
 there:=fun b u q _=>⟨u,k b u q⟩
 tups:=fun b xs q=>by rw [upd_ne (ne_of_none q hn)]; exact q
 frzs:=fun b u xs q=>by rw [upd_ne (ne_of_none q hn)]; exact q
 tbls:=fun b ps q=>⟨#[],by rw [upd_ne (ne_of_none q hn),q]; simp⟩
def Un.write (mu:Mut (H x)) (he:e=x\/H e=some (.own x)) (k:∀ b u,b≠e->h.get? b=some u->h'.get? b=some u) (heo:∃ u,h'.get? e=some u):Un fs ex H (upd H x o) h h':=by
 have hx:∀ b,H b=none->b≠x:=fun b n z=>by subst z; rw [n] at mu; exact mu
 have hb:∀ b,H b=none->b≠e:=fun b n z=>by
  subst z
  rcases he with r | r
  ·exact hx b n r
  ·rw [n] at r; cases r
 have hm:∀ b u,H b=some u->¬ Mut (some u)->b≠x:=fun b u q nm z=>by subst z; rw [q] at mu; exact nm mu
 refine ⟨fun b u q n _ _=>k b u (hb b n) q,fun b u q n _ _=>⟨u.slots,k b u (hb b n) q⟩,fun b u q n _=>by rw [upd_ne (hx b n)]; exact n,fun b u q _=>?_,
  fun b xs q=>by rw [upd_ne (hm b _ q fun z=>z)]; exact q,fun b u xs q=>by rw [upd_ne (hm b _ q fun z=>z)]; exact q,fun b ps q=>⟨#[],by rw [upd_ne (hm b _ q fun z=>z),q]; simp⟩⟩
 by_cases hbe:b=e
 ·subst hbe; exact heo
 ·exact ⟨u,k b u hbe q⟩
end
def trk (h:Heap) (H:Hp):List Addr:=(List.range h.objs.size).filter fun a=>(H a).isSome
def hidT (h:Heap) (H:Hp):Heap:=W.hideAll h (trk h H)
def hidT_size (h:Heap) (H:Hp):(hidT h H).objs.size=h.objs.size:=W.hideAll_size _ _
def hidT_get {h:Heap} {H:Hp} {b:Addr} {o:Obj} (e:h.get? b=some o) (n:H b=none):(hidT h H).get? b=some o :=
 W.hideAll_get _ e fun hm=>by
  have q:(H b).isSome=true:=(List.mem_filter.mp hm).2
  rw [n] at q; simp at q
theorem of_hidT {h:Heap} {H:Hp} {b:Addr} {o:Obj} (e:(hidT h H).get? b=some o):h.get? b=some o/\H b=none:=by
 have e':h.get? b=some o:=W.of_hideAll (trk h H) e
 refine ⟨e',?_⟩
 cases q:H b with
 | none=>rfl
 | some x =>
  have hm:b∈trk h H:=List.mem_filter.mpr ⟨List.mem_range.mpr (Heap.lt_size e'),by simp [q]⟩
  have z:(hidT h H).get? b=none:=W.hideAll_none (trk h H) hm
  rw [z] at e; cases e
structure Mod (K:W.Frag) (mg:Str->Option Value) (base:Heap):Prop where
 kin:K.In base
 glob:base.Ns mainGlobals mg
 blt:∃ mb,base.Ns builtinsNs mb/\∀ x:Str,x≠"__name__"->mb x=bootBuiltins x
 nolimit:base.NoLimit
structure Cx where
 prog:Program
 w:World
 K:W.Frag
 mg:Str->Option Value
 base:Heap
 A:Around
 N:List Str
 s₀:Shared
 H₀:Hp
 env:Env
 outer:List Env
 stack:List Env
 ex:List Addr
 fn:Str->Bool
 calm:Bool
 pn:List (Addr×Obj)
 xe:Value->Shared->Prop
def frs (l:List Env):List Addr:=l.filterMap (·.frame)
abbrev Cx.fs (X:Cx):List Addr:=frs X.outer
def Vis (sc:Scope) (x:Str):Prop:=sc.names.lookup x=some .local\/sc.names.lookup x=some .cell\/sc.names.lookup x=some .free
def Loc (sc:Scope) (x:Str):Prop:=sc.names.lookup x=some .local\/sc.names.lookup x=some .cell
def Look (env:Env) (h:Heap) (m:Str->Option Value) (x:Str) (u:Value):Prop :=
 (env.kindOf x=some .local/\m x=some u)\/((env.kindOf x=some .cell\/env.kindOf x=some .free)/\∃ c,env.cells.lookup x=some c/\h.IsCell c (some u))
structure Cx.Ok (X:Cx):Prop where
 mod:Mod X.K X.mg X.base
 kind:X.env.scope.kind=.function
 glob:X.env.globals=mainGlobals
 blt:X.env.builtins=builtinsNs
 above:X.s₀.heap.objs.size<=X.env.locals
 inj:∀ x y c,X.env.cells.lookup x=some c->X.env.cells.lookup y=some c->x=y
 has:∀ x,(X.env.kindOf x=some .cell\/X.env.kindOf x=some .free)->∃ c,X.env.cells.lookup x=some c
 cab:∀ x c,X.fn x=true->X.env.cells.lookup x=some c->X.s₀.heap.objs.size<=c
 hd:X.calm=true->X.A.handled=none
 frames:X.A.frames=some X.stack
 stk:X.stack=X.outer\/(X.stack=X.env::X.outer/\X.env.frame=some X.env.locals)
 exf:∀ b∈X.ex,b≠X.env.locals/\∀ x c,X.env.cells.lookup x=some c->c≠b
 bs:∀ b o,X.base.get? b=some o->X.s₀.heap.get? b=some o/\X.H₀ b=none
 bsz:X.base.objs.size<=X.s₀.heap.objs.size
 noex:∀ b o,X.base.get? b=some o->b∉X.ex
 exfs:∀ b∈X.ex,b∉X.fs
 funs:X.s₀.heap.FunFrames X.base X.outer
 frf:∀ b∈X.fs,X.H₀ b=none
structure Inv (X:Cx) (pins:List (Addr×Obj)) (σ:List (Option V)) (H:Hp) (s:Shared):Prop where
 ok:X.Ok
 os:s.os=X.s₀.os
 bare:AllBare s.gens
 base:Un X.fs X.ex X.H₀ H X.s₀.heap s.heap
 loc:∃ m,s.heap.Ns X.env.locals m/\∀ (i:Nat) (x:Str) (v:V),X.N[i]?=some x->σ[i]?=some (some v)->Vis X.env.scope x->∃ u,RelV v u/\Look X.env s.heap m x u
 cell:∀ x c,X.env.cells.lookup x=some c->∃ v,s.heap.IsCell c v
 free:H X.env.locals=none
 freeC:∀ x c,X.env.cells.lookup x=some c->H c=none
 pin:∀ p∈X.pn++pins,s.heap.get? p.1=some p.2/\H p.1=none/\p.1≠X.env.locals/\p.1∉X.fs/\∀ v,p.2.data≠.cell v
 hok:HOk X.prog X.w H s.heap
 len:σ.length=X.N.length
section
variable {X:Cx} {pins:List (Addr×Obj)} {σ:List (Option V)} {H H':Hp} {s:Shared} {h':Heap}
def Cx.Ok.nofr (ok:X.Ok) {b:Addr} {o:Obj} (e:X.base.get? b=some o):b∉X.fs:=fun hb=>by
 have:=(ok.funs.mem hb).1
 rw [e] at this; cases this
def Inv.bs (I:Inv X pins σ H s):∀ b o,X.base.get? b=some o->s.heap.get? b=some o/\H b=none:=fun b o e =>
 ⟨I.base.keep b o (I.ok.bs b o e).1 (I.ok.bs b o e).2 (I.ok.nofr e) (I.ok.noex b o e),I.base.free b o (I.ok.bs b o e).1 (I.ok.bs b o e).2 (I.ok.noex b o e)⟩
def Inv.bk (I:Inv X pins σ H s):∀ b o,X.base.get? b=some o->s.heap.get? b=some o:=fun b o e=>(I.bs b o e).1
def Inv.mod (I:Inv X pins σ H s):Mod X.K X.mg X.base:=I.ok.mod
def Inv.kIn (I:Inv X pins σ H s):X.K.In s.heap:=I.ok.mod.kin.keeps I.bk
def Inv.lt (I:Inv X pins σ H s):X.env.locals < s.heap.objs.size:=let ⟨_,hn,_⟩:=I.loc; hn.lt
def Inv.sz (I:Inv X pins σ H s):X.s₀.heap.objs.size<=s.heap.objs.size:=Nat.le_trans I.ok.above (Nat.le_of_lt I.lt)
def Inv.nofs (I:Inv X pins σ H s) {a:Addr} (h:s.heap.objs.size<=a):a∉X.fs:=fun hb=>by
 obtain ⟨_,o,ho,_⟩:=I.ok.funs.mem hb
 exact absurd (Nat.lt_of_lt_of_le (Heap.lt_size ho) (Nat.le_trans I.sz h)) (Nat.lt_irrefl _)
def Inv.cne (I:Inv X pins σ H s):∀ x c,X.env.cells.lookup x=some c->c≠X.env.locals:=fun x c e z=>by
 obtain ⟨v,o,ho,hd⟩:=I.cell x c e
 obtain ⟨m,⟨o',es,ep,ho',hd',_⟩,_⟩:=I.loc
 rw [z,ho'] at ho; cases ho; rw [hd'] at hd; cases hd
def Inv.funs (I:Inv X pins σ H s):s.heap.FunFrames X.base X.outer:=by
 have all:∀ (l:List Env),(∀ b∈frs l,b∈X.fs)->X.s₀.heap.FunFrames X.base l->s.heap.FunFrames X.base l:=by
  intro l
  induction l with
  | nil=>intro _ _; trivial
  | cons env r ih =>
   intro hs hl
   obtain ⟨hk,⟨L,o,hf,hn,ho,hd⟩,hr⟩:=hl
   have hL:L∈X.fs:=hs L (by unfold frs; rw [List.filterMap_cons,hf]; exact List.mem_cons_self)
   obtain ⟨sl,e⟩:=I.base.slot L o ho (I.ok.frf L hL) hL fun z=>I.ok.exfs L z hL
   exact ⟨hk,⟨L,_,hf,hn,e,hd⟩,ih (fun b hb=>hs b (by unfold frs; rw [List.filterMap_cons,hf]; exact List.mem_cons_of_mem _ hb)) hr⟩
 exact all X.outer (fun _ hb=>hb) I.ok.funs
def Inv.stack (I:Inv X pins σ H s):s.heap.FunFrames X.base X.stack:=by
 rcases I.ok.stk with e | ⟨e,hf⟩
 ·rw [e]; exact I.funs
 ·rw [e]
  obtain ⟨m,hn,_⟩:=I.loc
  refine .cons (by rw [I.ok.kind]; decide) hf hn ?_ I.funs
  exact Heap.get?_none_of_le (Nat.le_trans I.ok.bsz I.ok.above)
def Inv.stkSub (I:Inv X pins σ H s):∀ b∈frs X.stack,b∈X.env.locals::X.fs:=fun b hb=>by
 rcases I.ok.stk with e | ⟨e,hf⟩
 ·rw [e] at hb; exact List.mem_cons_of_mem _ hb
 ·rw [e] at hb
  unfold frs at hb
  rw [List.filterMap_cons,hf] at hb
  exact hb
def Inv.stkFree (I:Inv X pins σ H s):∀ b∈frs X.stack,H b=none:=fun b hb=>by
 rcases List.mem_cons.mp (I.stkSub b hb) with e | hb
 ·rw [e]; exact I.free
 ·obtain ⟨_,o,ho,_⟩:=I.ok.funs.mem hb
  exact I.base.free b o ho (I.ok.frf b hb) fun z=>I.ok.exfs b z hb
def Inv.step {g':Array GenState} {t':Nat} {d':Drawn} {ch:List Addr} (I:Inv X pins σ H s)
  (hch:∀ b∈ch,(b∈X.ex\/X.s₀.heap.objs.size<=b)/\b≠X.env.locals/\(∀ x c,X.env.cells.lookup x=some c->c≠b)/\∀ p∈X.pn++pins,p.1≠b)
  (keep:∀ b o,b≠X.env.locals->b∉X.fs->b∉ch->s.heap.get? b=some o->H b=none->h'.get? b=some o)
  (slot:∀ b o,b≠X.env.locals->b∈X.fs->b∉ch->s.heap.get? b=some o->H b=none->∃ sl,h'.get? b=some { o with slots:=sl }) (free:∀ b o,b∉ch->s.heap.get? b=some o->H b=none->H' b=none)
  (there:∀ b o,b∉ch->s.heap.get? b=some o->∃ o',h'.get? b=some o')
  (tups:∀ b xs,H b=some (.tup xs)->H' b=some (.tup xs)) (frzs:∀ b o u,H b=some (.frz o u)->H' b=some (.frz o u)) (tbls:∀ b ps,H b=some (.tbl ps)->∃ more,H' b=some (.tbl (ps++more)))
  (ns:∀ m,s.heap.Ns X.env.locals m->h'.Ns X.env.locals m) (hok:HOk X.prog X.w H' h') (hg:AllBare g') :
  Inv X pins σ H' { s with heap:=h',gens:=g',drawn:=d',toks:=t' }:=by
 have neL:∀ b o,X.s₀.heap.get? b=some o->b≠X.env.locals:=fun b o e=>Nat.ne_of_lt (Nat.lt_of_lt_of_le (Heap.lt_size e) I.ok.above)
 have neC:∀ b o,X.s₀.heap.get? b=some o->b∉X.ex->b∉ch:=fun b o e hx hb=>by
  rcases (hch b hb).1 with z | z
  ·exact hx z
  ·exact absurd (Nat.lt_of_lt_of_le (Heap.lt_size e) z) (Nat.lt_irrefl _)
 have cellK:∀ x c,X.env.cells.lookup x=some c->∀ v,s.heap.IsCell c v->h'.IsCell c v:=fun x c e v ⟨o,ho,hd⟩=>by
  have nch:c∉ch:=fun z=>(hch c z).2.2.1 x c e rfl
  by_cases hc:c∈X.fs
  ·obtain ⟨sl,q⟩:=slot c o (I.cne x c e) hc nch ho (I.freeC x c e)
   exact ⟨_,q,hd⟩
  ·exact ⟨o,keep c o (I.cne x c e) hc nch ho (I.freeC x c e),hd⟩
 refine ⟨I.ok,I.os,hg,⟨fun b o e n hb hx=>?_,fun b o e n hb hx=>?_,fun b o e n hx=>?_,fun b o e hx=>?_,fun b xs e=>tups b xs (I.base.tups b xs e),fun b o xs e=>frzs b o xs (I.base.frzs b o xs e),fun b ps e=>?_⟩,?_,fun x c e=>?_,?_,fun x c e=>?_,fun p hp=>?_,hok,I.len⟩
 ·exact keep b o (neL b o e) hb (neC b o e hx) (I.base.keep b o e n hb hx) (I.base.free b o e n hx)
 ·obtain ⟨sl,e1⟩:=I.base.slot b o e n hb hx
  obtain ⟨sl',e2⟩:=slot b _ (neL b o e) hb (neC b o e hx) e1 (I.base.free b o e n hx)
  exact ⟨sl',e2⟩
 ·obtain ⟨o',e1⟩:=I.base.there b o e hx
  exact free b o' (neC b o e hx) e1 (I.base.free b o e n hx)
 ·obtain ⟨o',e1⟩:=I.base.there b o e hx
  exact there b o' (neC b o e hx) e1
 ·obtain ⟨m1,e1⟩:=I.base.tbls b ps e
  obtain ⟨m2,e2⟩:=tbls b _ e1
  exact ⟨m1++m2,by rw [e2,Array.append_assoc]⟩
 ·obtain ⟨m,hn,hl⟩:=I.loc
  refine ⟨m,ns m hn,fun i x v e1 e2 e3=>?_⟩
  obtain ⟨u,r,l⟩:=hl i x v e1 e2 e3
  refine ⟨u,r,?_⟩
  rcases l with l | ⟨k,c,e,z⟩
  ·exact .inl l
  ·exact .inr ⟨k,c,e,cellK x c e _ z⟩
 ·obtain ⟨v,z⟩:=I.cell x c e
  exact ⟨v,cellK x c e v z⟩
 ·obtain ⟨m,⟨o,_,_,ho,_⟩,_⟩:=I.loc
  exact free _ o (fun z=>(hch _ z).2.1 rfl) ho I.free
 ·obtain ⟨v,o,ho,hd⟩:=I.cell x c e
  exact free c o (fun z=>(hch c z).2.2.1 x c e rfl) ho (I.freeC x c e)
 ·obtain ⟨e,n,ne,nf,d⟩:=I.pin p hp
  have nch:p.1∉ch:=fun z=>(hch p.1 z).2.2.2 p hp rfl
  exact ⟨keep p.1 p.2 ne nf nch e n,free p.1 p.2 nch e n,ne,nf,d⟩
def Inv.un {t':Nat} (I:Inv X pins σ H s) (u:Un X.fs [] H H' s.heap h') (hok:HOk X.prog X.w H' h'):Inv X pins σ H' { s with heap:=h',toks:=t' }:=by
 obtain ⟨m,⟨o,es,ep,ho,r⟩,_⟩:=id I.loc
 obtain ⟨sl,hL⟩:=u.any ho I.free (by simp)
 exact I.step (g':=s.gens) (d':=s.drawn) (ch:=[]) (fun _ z=>nomatch z) (fun b o _ hb _ e n=>u.keep b o e n hb (by simp)) (fun b o _ hb _ e n=>u.slot b o e n hb (by simp)) (fun b o _ e n=>u.free b o e n (by simp)) (fun b o _ e=>u.there b o e (by simp)) u.tups u.frzs u.tbls (fun m' hm=>by
  obtain ⟨o',es',ep',ho',r'⟩:=hm
  rw [ho] at ho'; cases ho'
  exact ⟨_,es',ep',hL,r'⟩) hok I.bare
def Inv.call {g':Array GenState} {t':Nat} {d':Drawn} {ch:List Addr} (I:Inv X pins σ H s) (u:Un (frs X.stack) ch H H' s.heap h') (hok:HOk X.prog X.w H' h') (hg:AllBare g')
  (hch:∀ b∈ch,(b∈X.ex\/X.s₀.heap.objs.size<=b)/\b≠X.env.locals/\(∀ x c,X.env.cells.lookup x=some c->c≠b)/\∀ p∈X.pn++pins,p.1≠b) :
  Inv X pins σ H' { s with heap:=h',gens:=g',drawn:=d',toks:=t' }:=by
 obtain ⟨m,⟨o,es,ep,ho,r⟩,_⟩:=id I.loc
 obtain ⟨sl,hL⟩:=u.any ho I.free fun z=>(hch _ z).2.1 rfl
 exact I.step (ch:=ch) hch (fun b o hL hb hc e n=>u.keep b o e n (fun z=>(List.mem_cons.mp (I.stkSub b z)).elim hL hb) hc) (fun b o _ _ hc e n=>u.any e n hc) (fun b o hc e n=>u.free b o e n hc) (fun b o hc e=>u.there b o e hc) u.tups u.frzs u.tbls (fun m' hm=>by
  obtain ⟨o',es',ep',ho',r'⟩:=hm
  rw [ho] at ho'; cases ho'
  exact ⟨_,es',ep',hL,r'⟩) hok hg
def Inv.turned {t':Nat} {it:Addr} (I:Inv X pins σ H s) (k:∀ b o,b≠it->s.heap.get? b=some o->h'.get? b=some o) (hn:H it=none) (hL:it≠X.env.locals)
  (h1:it∈X.ex\/X.s₀.heap.objs.size<=it) (h2:∀ x c,X.env.cells.lookup x=some c->c≠it) (h3:∀ p∈X.pn++pins,p.1≠it):Inv X pins σ H { s with heap:=h',toks:=t' }:=by
 have nit:∀ b u,H b=some u->b≠it:=fun b u e z=>by rw [z,hn] at e; cases e
 refine I.step (g':=s.gens) (d':=s.drawn) (ch:=[it]) (fun b hb=>?_) (fun b o _ _ hc e _=>k b o (fun z=>hc (by simp [z])) e) (fun b o _ _ hc e _=>⟨o.slots,k b o (fun z=>hc (by simp [z])) e⟩) (fun _ _ _ _ n=>n)
  (fun b o hc e=>⟨o,k b o (fun z=>hc (by simp [z])) e⟩) (fun _ _ e=>e) (fun _ _ _ e=>e) (fun b ps e=>⟨#[],by rw [e]; simp⟩) (fun m hm=>?_) (fun b u e=>?_) I.bare
 ·have e:b=it:=by simpa using hb
  subst e
  exact ⟨h1,hL,h2,h3⟩
 ·obtain ⟨o,es,ep,ho,r⟩:=hm
  exact ⟨o,es,ep,k _ o (Ne.symm hL) ho,r⟩
 ·refine (I.hok b u e).stay (fun c v hc q=>k c v ?_ q) (fun _ q=>q) fun _ _ q=>q
  rcases hc with z | z
  ·rw [z]; exact nit b u e
  ·exact nit c _ z
def Inv.tok (I:Inv X pins σ H s) (t:Nat):Inv X pins σ H { s with toks:=t }:=I.un (h':=s.heap) (t':=t) Un.refl I.hok
def Inv.kept {t':Nat} (I:Inv X pins σ H s) (k:∀ b u,s.heap.get? b=some u->h'.get? b=some u):Inv X pins σ H { s with heap:=h',toks:=t' }:=I.un (Un.kept k) (I.hok.kept k)
def Inv.laid {a:Addr} {o:HO} {t':Nat} (I:Inv X pins σ H s) (k:∀ b u,s.heap.get? b=some u->h'.get? b=some u) (hp:s.heap.objs.size<=a) (new:ObjOk X.prog X.w (upd H a o) h' a o) :
  Inv X pins σ (upd H a o) { s with heap:=h',toks:=t' }:=I.un (Un.laid k hp (I.hok.fresh hp)) (I.hok.laid k hp new)
def Inv.write {x e:Addr} {o:HO} {t':Nat} (I:Inv X pins σ H s) (mu:Mut (H x)) (he:e=x\/H e=some (.own x)) (k:∀ b u,b≠e->s.heap.get? b=some u->h'.get? b=some u) (heo:∃ u,h'.get? e=some u)
  (new:ObjOk X.prog X.w (upd H x o) h' x o):Inv X pins σ (upd H x o) { s with heap:=h',toks:=t' }:=I.un (Un.write mu he k heo) (I.hok.write mu he k heo new)
def Inv.weak {σ':List (Option V)} (I:Inv X pins σ H s) (hl:σ'.length=σ.length) (w:∀ (i:Nat) v,σ'[i]?=some (some v)->σ[i]?=some (some v)):Inv X pins σ' H s :=
 ⟨I.ok,I.os,I.bare,I.base,let ⟨m,hn,hl'⟩:=I.loc; ⟨m,hn,fun i x v e1 e2 e3=>hl' i x v e1 (w i v e2) e3⟩,I.cell,I.free,I.freeC,I.pin,I.hok,hl.trans I.len⟩
def Inv.pins_of {pins':List (Addr×Obj)} (I:Inv X pins σ H s) (h:∀ p∈pins',s.heap.get? p.1=some p.2/\H p.1=none/\p.1≠X.env.locals/\p.1∉X.fs/\∀ v,p.2.data≠.cell v):Inv X pins' σ H s :=
 ⟨I.ok,I.os,I.bare,I.base,I.loc,I.cell,I.free,I.freeC,fun p hp=>(List.mem_append.mp hp).elim (fun z=>I.pin p (List.mem_append_left _ z)) (h p),I.hok,I.len⟩
def nodup_ix {N:List Str} (hN:N.Nodup) {i j:Nat} {x:Str} (a:N[i]?=some x) (b:N[j]?=some x):i=j:=by
 obtain ⟨h1,e1⟩:=List.getElem?_eq_some_iff.mp a
 obtain ⟨h2,e2⟩:=List.getElem?_eq_some_iff.mp b
 exact (List.getElem_inj hN).mp (e1.trans e2.symm)
def store_ok2 {M:Model} {A:Around} {E:Value->Shared->Prop} {i:Nat} {x:Str} {v:V} {u:Value} {Q:Unit->Shared->Prop} (I:Inv X pins σ H s) (hN:X.N.Nodup) (hi:X.N[i]?=some x) (hx:Loc X.env.scope x) (r:RelV v u)
  (h:∀ s',Inv X pins (σ.set i (some v)) H s'->(∃ a,Heap.SameBut a s.heap s'.heap/\(a=X.env.locals\/X.env.cells.lookup x=some a))->Q () s') (hf:X.fn x=true\/X.env.scope.names.lookup x=some .local:=by first | exact .inl rfl | exact .inr rfl | assumption):wpAny M A (storeName X.env x u) Q E s:=by
 obtain ⟨m,hn,hl⟩:=id I.loc
 have hcls:(X.env.scope.kind == .class || (X.env.scope.kind == .module && X.env.locals != X.env.globals))=false:=by rw [I.ok.kind]; rfl
 have hiσ:i < σ.length:=by rw [I.len]; exact (List.getElem?_eq_some_iff.mp hi).1
 have cne:=I.cne
 have tracked:∀ {a:Addr} {h':Heap},(∃ o,s.heap.get? a=some o/\H a=none)->Heap.SameBut a s.heap h'->HOk X.prog X.w H h':=fun {a h'} ha hs b ob e=>by
  obtain ⟨_,_,hfree⟩:=ha
  refine (I.hok b ob e).stay (fun c w' hc q=>(hs.2 c ?_).trans q) (fun _ q=>q) fun _ _ q=>q
  rintro rfl
  rcases hc with rfl | hc
  ·rw [hfree] at e; cases e
  ·rw [hfree] at hc; cases hc
 rcases hx with hk | hk
 ·refine wpAny_storeName_local hk hn (fun h' hn' hs=>?_) hcls
  obtain ⟨oL,_,_,hoL,_⟩:=id hn
  refine h _ ⟨I.ok,I.os,I.bare,⟨fun b o e n hb hx=>?_,fun b o e n hb hx=>?_,I.base.free,fun b o e hx=>?_,I.base.tups,I.base.frzs,I.base.tbls⟩,⟨_,hn',fun j y v' e1 e2 e3=>?_⟩,fun y c e=>?_,I.free,I.freeC,fun p hp=>?_,tracked ⟨oL,hoL,I.free⟩ hs,by simpa using I.len⟩ ⟨_,hs,.inl rfl⟩
  ·exact (hs.2 b (Nat.ne_of_lt (Nat.lt_of_lt_of_le (Heap.lt_size e) I.ok.above))).trans (I.base.keep b o e n hb hx)
  ·obtain ⟨sl,e1⟩:=I.base.slot b o e n hb hx
   exact ⟨sl,(hs.2 b (Nat.ne_of_lt (Nat.lt_of_lt_of_le (Heap.lt_size e) I.ok.above))).trans e1⟩
  ·obtain ⟨o',e1⟩:=I.base.there b o e hx
   exact ⟨o',(hs.2 b (Nat.ne_of_lt (Nat.lt_of_lt_of_le (Heap.lt_size e) I.ok.above))).trans e1⟩
  ·by_cases hj:j=i
   ·subst hj
    rw [hi] at e1; cases e1
    rw [List.getElem?_set_self hiσ] at e2
    cases e2
    exact ⟨u,r,.inl ⟨hk,by simp⟩⟩
   ·rw [List.getElem?_set_ne (Ne.symm hj)] at e2
    obtain ⟨u',r',q⟩:=hl j y v' e1 e2 e3
    refine ⟨u',r',?_⟩
    rcases q with ⟨k,e⟩ | ⟨k,c,e,z⟩
    ·refine .inl ⟨k,?_⟩
     have:y≠x:=fun e=>hj (nodup_ix hN e1 (e ▸ hi))
     simp [this,e]
    ·exact .inr ⟨k,c,e,z.sameBut hs (cne y c e)⟩
  ·obtain ⟨w',z⟩:=I.cell y c e
   exact ⟨w',z.sameBut hs (cne y c e)⟩
  ·obtain ⟨e,n,ne,nf,d⟩:=I.pin p hp
   exact ⟨(hs.2 p.1 ne).trans e,n,ne,nf,d⟩
 ·have hfn:X.fn x=true:=by
   rcases hf with z | z
   ·exact z
   ·rw [z] at hk; cases hk
  obtain ⟨c,hc⟩:=I.ok.has x (.inl hk)
  obtain ⟨w',z⟩:=I.cell x c hc
  refine wpAny_storeName_cell I.ok.kind hk hc z (fun h' hc' hs=>?_)
  obtain ⟨oc,hoc,hocd⟩:=id z
  refine h { s with heap:=h' } ⟨I.ok,I.os,I.bare,⟨fun b o e n hb hx=>?_,fun b o e n hb hx=>?_,I.base.free,fun b o e hx=>?_,I.base.tups,I.base.frzs,I.base.tbls⟩,⟨m,hn.sameBut hs (Ne.symm (cne x c hc)),fun j y v' e1 e2 e3=>?_⟩,fun y c' e=>?_,I.free,I.freeC,fun p hp=>?_,tracked ⟨oc,hoc,I.freeC x c hc⟩ hs,by simpa using I.len⟩ ⟨c,hs,.inr hc⟩
  ·exact (hs.2 b (Nat.ne_of_lt (Nat.lt_of_lt_of_le (Heap.lt_size e) (I.ok.cab x c hfn hc)))).trans (I.base.keep b o e n hb hx)
  ·obtain ⟨sl,e1⟩:=I.base.slot b o e n hb hx
   exact ⟨sl,(hs.2 b (Nat.ne_of_lt (Nat.lt_of_lt_of_le (Heap.lt_size e) (I.ok.cab x c hfn hc)))).trans e1⟩
  ·obtain ⟨o',e1⟩:=I.base.there b o e hx
   exact ⟨o',(hs.2 b (Nat.ne_of_lt (Nat.lt_of_lt_of_le (Heap.lt_size e) (I.ok.cab x c hfn hc)))).trans e1⟩
  ·by_cases hj:j=i
   ·subst hj
    rw [hi] at e1; cases e1
    rw [List.getElem?_set_self hiσ] at e2
    cases e2
    exact ⟨u,r,.inr ⟨.inl hk,c,hc,hc'⟩⟩
   ·rw [List.getElem?_set_ne (Ne.symm hj)] at e2
    obtain ⟨u',r',q⟩:=hl j y v' e1 e2 e3
    refine ⟨u',r',?_⟩
    rcases q with q | ⟨k,c',e,z'⟩
    ·exact .inl q
    ·refine .inr ⟨k,c',e,z'.sameBut hs ?_⟩
     rintro rfl
     exact hj (nodup_ix hN e1 (I.ok.inj _ _ _ e hc ▸ hi))
  ·by_cases hcc:c'=c
   ·subst hcc; exact ⟨_,hc'⟩
   ·obtain ⟨w2,z2⟩:=I.cell y c' e
    exact ⟨w2,z2.sameBut hs hcc⟩
  ·obtain ⟨e,n,ne,nf,d⟩:=I.pin p hp
   refine ⟨(hs.2 p.1 ?_).trans e,n,ne,nf,d⟩
   intro q
   rw [q,hoc] at e
   have q':oc=p.2:=Option.some.inj e
   exact d w' (by rw [<- q']; exact hocd)
def store_ok {M:Model} {A:Around} {E:Value->Shared->Prop} {i:Nat} {x:Str} {v:V} {u:Value} {Q:Unit->Shared->Prop} (I:Inv X pins σ H s) (hN:X.N.Nodup) (hi:X.N[i]?=some x) (hx:Loc X.env.scope x) (r:RelV v u)
  (h:∀ s',Inv X pins (σ.set i (some v)) H s'->Q () s') (hf:X.fn x=true\/X.env.scope.names.lookup x=some .local:=by first | exact .inl rfl | exact .inr rfl | assumption):wpAny M A (storeName X.env x u) Q E s :=
 store_ok2 I hN hi hx r (fun s' I' _=>h s' I') hf
def Inv.call' {s':Shared} {ch:List Addr} (I:Inv X pins σ H s) (ho:s'.os=s.os) (u:Un (frs X.stack) ch H H' s.heap s'.heap) (hok:HOk X.prog X.w H' s'.heap) (hg:AllBare s'.gens)
  (hch:∀ b∈ch,(b∈X.ex\/X.s₀.heap.objs.size<=b)/\b≠X.env.locals/\(∀ x c,X.env.cells.lookup x=some c->c≠b)/\∀ p∈X.pn++pins,p.1≠b):Inv X pins σ H' s':=by
 obtain ⟨h',g',d',t',o'⟩:=s'
 have e:o'=s.os:=ho
 subst e
 exact I.call (g':=g') (t':=t') (d':=d') u hok hg hch
end
abbrev XK:=Value->Option Addr->Hp->Prop
abbrev St:=List (Option V)
abbrev VK:=V->Hp->Prop
abbrev TE:=St->Hp->VK->Prop
abbrev TT:=St->Hp->(Bool->Hp->Prop)->Prop
abbrev TA:=St->Hp->(List V->Hp->Prop)->Prop
structure Ends where
 nx:St->Hp->Prop
 rt:VK
 bk:St->Hp->Prop:=fun _ _=>False
 ct:St->Hp->Prop:=fun _ _=>False
abbrev TS:=Ends->St->Hp->Prop
def EP (X:Cx) (pins:List (Addr×Obj)) (σ:St) (Q:VK) (u:Value) (s':Shared):Prop:=∃ v H',Inv X pins σ H' s'/\RelV v u/\Q v H'
def TP (X:Cx) (pins:List (Addr×Obj)) (σ:St) (Q:Bool->Hp->Prop) (b:Bool) (s':Shared):Prop:=∃ H',Inv X pins σ H' s'/\Q b H'
def AP (X:Cx) (pins:List (Addr×Obj)) (σ:St) (Q:List V->Hp->Prop) (us:List Value) (s':Shared):Prop:=∃ vs H',Inv X pins σ H' s'/\Vals vs us/\Q vs H'
def SP (X:Cx) (pins:List (Addr×Obj)) (D:Ends) (f:Flow) (s':Shared):Prop :=
 match f with
 | .next=>∃ σ' H',Inv X pins σ' H' s'/\D.nx σ' H'
 | .brk=>∃ σ' H',Inv X pins σ' H' s'/\D.bk σ' H'
 | .cont=>∃ σ' H',Inv X pins σ' H' s'/\D.ct σ' H'
 | .ret u=>∃ v σ' H',Inv X pins σ' H' s'/\RelV v u/\D.rt v H'
def PE (X:Cx) (e:Expr) (t:TE):Prop :=
 ∀ (pins:List (Addr×Obj)) (s:Shared) (σ:St) (H:Hp) (Q:VK),Inv X pins σ H s->t σ H Q->wpAny (model X.prog X.w) X.A (eval e X.env) (EP X pins σ Q) X.xe s
def PT (X:Cx) (e:Expr) (t:TT):Prop :=
 ∀ (pins:List (Addr×Obj)) (s:Shared) (σ:St) (H:Hp) (Q:Bool->Hp->Prop),Inv X pins σ H s->t σ H Q->wpAny (model X.prog X.w) X.A (isTrue e X.env (eval e X.env)) (TP X pins σ Q) X.xe s
def PW (X:Cx) (e:Expr) (t:TT):Prop :=
 ∀ (whole:Sem Value) (pins:List (Addr×Obj)) (s:Shared) (σ:St) (H:Hp) (Q:Bool->Hp->Prop),Inv X pins σ H s->t σ H Q->wpAny (model X.prog X.w) X.A (isTrue e X.env whole) (TP X pins σ Q) X.xe s
def PW.pt {X:Cx} {e:Expr} {t:TT} (h:PW X e t):PT X e t:=h _
def PA (X:Cx) (es:List Expr) (t:TA):Prop :=
 ∀ (pos:Pos) (pins:List (Addr×Obj)) (s:Shared) (σ:St) (H:Hp) (Q:List V->Hp->Prop),Inv X pins σ H s->t σ H Q->wpAny (model X.prog X.w) X.A (spliced (backTo pos (starEach es X.env))) (AP X pins σ Q) X.xe s
def PS (X:Cx) (st:Stmt) (t:TS):Prop :=
 ∀ (pins:List (Addr×Obj)) (s:Shared) (σ:St) (H:Hp) (D:Ends),Inv X pins σ H s->t D σ H->wpAny (model X.prog X.w) X.A (exec st X.env) (SP X pins D) X.xe s
def PSs (X:Cx) (st:List Stmt) (t:TS):Prop :=
 ∀ (pins:List (Addr×Obj)) (s:Shared) (σ:St) (H:Hp) (D:Ends),Inv X pins σ H s->t D σ H->wpAny (model X.prog X.w) X.A (execs st X.env) (SP X pins D) X.xe s
def thn {α:Type} {t:Sem α} {Q Q':α->Shared->Prop} {M:Model} {A:Around} {E:Value->Shared->Prop} {s:Shared} (h:wpAny M A t Q E s) (hQ:∀ a s,Q a s->Q' a s):wpAny M A t Q' E s:=wpAny_mono h hQ fun _ _ x=>x
section
variable {X:Cx}
def tVar (i:Nat):TE:=fun σ H Q=>∃ v,σ[i]?=some (some v)/\Q v H
def tC (v:V):TE:=fun _ H Q=>Q v H
def pe_var {i:Nat} {x:Str} {pos:Pos} (hN:X.N[i]?=some x) (hv:Vis X.env.scope x) (hd:(x == ("__debug__":Str))=false:=by decide) (hcd:(x == ("__classdict__":Str))=false:=by decide):PE X (.Name x pos) (tVar i):=by
 intro pins s σ H Q I h
 obtain ⟨v,e,h⟩:=h
 obtain ⟨m,hn,hl⟩:=I.loc
 obtain ⟨u,r,l⟩:=hl i x v hN e hv
 have fin:EP X pins σ Q u s:=⟨v,H,I,r,h⟩
 rcases l with ⟨hk,hm⟩ | ⟨hk,c,hc,hcell⟩
 ·exact wpAny_Name (wpAny_loadName_local I.ok.kind hk hn hm fin) hd
 ·rcases hk with hk | hk
  ·exact wpAny_Name (wpAny_loadName_cell I.ok.kind hk hc hcell fin) hd
  ·exact wpAny_Name (wpAny_loadName_free I.ok.kind hk hc hcell fin hcd) hd
def pe_int {i j pos}:PE X (.Constant (.int i) j pos) (tC (.int i)):=fun _ _ _ H _ I h=>wpAny_Constant_int ⟨.int i,H,I.tok _,⟨_,rfl⟩,h⟩
def pe_bl {b j pos}:PE X (.Constant (.bool b) j pos) (tC (.bl b)):=fun _ _ _ H _ I h=>Constant_bool ⟨.bl b,H,I,rfl,h⟩
def pe_non {j pos}:PE X (.Constant .none j pos) (tC .non):=fun _ _ _ H _ I h=>Constant_none ⟨.non,H,I,rfl,h⟩
def pe_str {x j pos}:PE X (.Constant (.str x) j pos) (tC (.str x)):=fun _ _ _ H _ I h=>Calls.Constant_str ⟨.str x,H,I.tok _,⟨_,rfl⟩,h⟩
def Gl (X:Cx) (x:Str):Prop:=X.env.kindOf x=some .globalImplicit
def ld_glob {E:Value->Shared->Prop} {pins:List (Addr×Obj)} {s:Shared} {σ:St} {H:Hp} {x:Str} {u:Value} {pos:Pos} {Q:Value->Shared->Prop} (I:Inv X pins σ H s) (hg:Gl X x) (hm:X.mg x=some u) (h:Q u s)
  (hd:(x == ("__debug__":Str))=false:=by decide):wpAny (model X.prog X.w) X.A (eval (.Name x pos) X.env) Q E s :=
 Calls.Name_function_global I.ok.kind hg (Calls.loadGlobal_global (by rw [I.ok.glob]; exact I.mod.glob.keeps I.bk) hm h) hd
def ld_blt {E:Value->Shared->Prop} {pins:List (Addr×Obj)} {s:Shared} {σ:St} {H:Hp} {x:Str} {u:Value} {pos:Pos} {Q:Value->Shared->Prop} (I:Inv X pins σ H s) (hg:Gl X x) (hm:X.mg x=none) (hv:bootBuiltins x=some u) (h:Q u s)
  (hn:x≠"__name__":=by decide) (hd:(x == ("__debug__":Str))=false:=by decide):wpAny (model X.prog X.w) X.A (eval (.Name x pos) X.env) Q E s:=by
 obtain ⟨mb,h1,h2⟩:=I.mod.blt
 exact Calls.Name_function_global I.ok.kind hg (Calls.loadGlobal_builtin (by rw [I.ok.glob]; exact I.mod.glob.keeps I.bk) hm (by rw [I.ok.blt]; exact h1.keeps I.bk) ((h2 x hn).trans hv) h) hd
variable {a b:Expr} {ta tb:TE} {pos:Pos}
def PC (X:Cx) (op:CmpOp) (a b:Expr) (t:TE):Prop :=
 ∀ (pins:List (Addr×Obj)) (s:Shared) (σ:St) (H:Hp) (Q:VK),Inv X pins σ H s->t σ H Q ->
  wpAny (model X.prog X.w) X.A (eval a X.env) (fun v s₁=>wpAny (model X.prog X.w) X.A (eval b X.env) (fun u s₂=>wpAny (model X.prog X.w) X.A (compareOp op v u) (EP X pins σ Q) X.xe s₂) X.xe s₁) X.xe s
def nobehind (b:Expr) {op:CmpOp} (h:op≠.In) (h2:op≠.NotIn):behindInMarks op b=false:=by
 have e1:(op == CmpOp.In)=false:=by cases op <;> first | rfl | exact absurd rfl h
 have e2:(op == CmpOp.NotIn)=false:=by cases op <;> first | rfl | exact absurd rfl h2
 cases b <;> simp [behindInMarks,e1,e2]
def tNotN (ta:TE):TE:=fun σ H Q=>ta σ H fun x H1=>Q (.bl (!decide (x=.non))) H1
theorem RelV.none_iff {x:V} {v:Value} (r:RelV x v):(v == Value.none)=decide (x=.non):=by
 cases x with
 | non=>cases r; rfl
 | bl _=>cases r; rfl
 | int _=>obtain ⟨t,rfl⟩:=r; rfl
 | str _=>obtain ⟨t,rfl⟩:=r; rfl
 | byt _=>obtain ⟨t,rfl⟩:=r; rfl
 | flt _=>obtain ⟨t,rfl⟩:=r; rfl
 | ref _=>cases r; rfl
 | ty _=>cases r; rfl
def pc_notN {j pos'} (ha:PE X a ta):PC X .IsNot a (.Constant .none j pos') (tNotN ta):=by
 intro pins s σ H Q I h
 refine thn (ha pins s σ H _ I h) fun v s1 ⟨x,H1,I1,r1,q1⟩=>?_
 exact Constant_none (isnot_none_gen ⟨.bl _,H1,I1,by rw [r1.none_iff]; rfl,q1⟩)
def tB (t:TE):TT:=fun σ H Q=>t σ H fun x H1=>∃ c,x=.bl c/\Q c H1
def pt_cmp {op:CmpOp} {t:TE} (h:PC X op a b t) (h1:behindInMarks op b=false:=by first | exact nobehind _ (by decide) (by decide) | rfl):PT X (.Compare a [op] [b] pos) (tB t):=by
 intro pins s σ H Q I hw
 refine wpAny_isTrue_Compare1 (thn (h pins s σ H _ I hw) fun v s1 h1=>thn h1 fun u s2 h2=>thn h2 fun c s3 ⟨x,H1,I1,r1,q1⟩=>?_) h1
 obtain ⟨d,rfl,q⟩:=q1
 cases r1
 exact wpAny_truthy_bool ⟨H1,I1,q⟩
def pt_val {e:Expr} {t:TE} (h:PE X e t) (he:∀ whole,isTrue e X.env whole=(do let v <- whole; standAt e.pos; holding [v] (truthy v)):=by intro _; rfl):PT X e (tB t):=by
 intro pins s σ H Q I hw
 refine isTrue_plain (thn (h pins s σ H _ I hw) fun v s1 ⟨x,H1,I1,r1,q1⟩=>?_) (he _)
 obtain ⟨d,rfl,q⟩:=q1
 cases r1
 exact wpAny_truthy_bool ⟨H1,I1,q⟩
variable {tA tB':TT} {rest:List Expr}
def tAnd (t u:TT):TT:=fun σ H Q=>t σ H fun c H1=>if c=true then u σ H1 Q else Q false H1
def tOr (t u:TT):TT:=fun σ H Q=>t σ H fun c H1=>if c=true then Q true H1 else u σ H1 Q
def tNot (t:TT):TT:=fun σ H Q=>t σ H fun c H1=>Q (!c) H1
theorem pw_and1 (ha:PT X a tA):PW X (.BoolOp .And [a] pos) tA:=by
 intro wh pins s σ H Q I h
 refine isTrue_and (thn (ha pins s σ H Q I h) fun c s1 e=>?_)
 cases c with
 | true=>exact isTrue_and_nil e
 | false=>exact e
theorem pw_or1 (ha:PT X a tA):PW X (.BoolOp .Or [a] pos) tA:=by
 intro wh pins s σ H Q I h
 refine isTrue_or (thn (ha pins s σ H Q I h) fun c s1 e=>?_)
 cases c with
 | false=>exact isTrue_or_nil e
 | true=>exact e
theorem pw_and (ha:PT X a tA) (hb:PW X (.BoolOp .And (b::rest) pos) tB'):PW X (.BoolOp .And (a::b::rest) pos) (tAnd tA tB'):=by
 intro wh pins s σ H Q I h
 refine isTrue_and (thn (ha pins s σ H _ I h) fun c s1 ⟨H1,I1,q1⟩=>?_)
 cases c with
 | true=>exact hb wh pins s1 σ H1 Q I1 q1
 | false=>exact ⟨H1,I1,q1⟩
theorem pw_or (ha:PT X a tA) (hb:PW X (.BoolOp .Or (b::rest) pos) tB'):PW X (.BoolOp .Or (a::b::rest) pos) (tOr tA tB'):=by
 intro wh pins s σ H Q I h
 refine isTrue_or (thn (ha pins s σ H _ I h) fun c s1 ⟨H1,I1,q1⟩=>?_)
 cases c with
 | true=>exact ⟨H1,I1,q1⟩
 | false=>exact hb wh pins s1 σ H1 Q I1 q1
def pt_not (ha:PT X a tA):PT X (.UnaryOp .Not a pos) (tNot tA):=by
 intro pins s σ H Q I h
 exact isTrue_not (ha pins s σ H (fun c H1=>Q (!c) H1) I h)
def tAndV (ta tb:TE):TE:=fun σ H Q=>ta σ H fun x H1=>∃ c,x=.bl c/\if c=true then tb σ H1 Q else Q (.bl false) H1
def pe_one {op} {t:TE} (h:PE X a t):PE X (.BoolOp op [a] pos) t:=fun pins s σ H Q I hw=>BoolOp_one (h pins s σ H Q I hw)
theorem pe_and (ha:PE X a ta) (hb:PE X (.BoolOp .And (b::rest) pos) tb):PE X (.BoolOp .And (a::b::rest) pos) (tAndV ta tb):=by
 intro pins s σ H Q I h
 refine BoolOp_and (thn (ha pins s σ H _ I h) fun v s1 ⟨x,H1,I1,r1,q1⟩=>?_)
 obtain ⟨c,rfl,q1⟩:=q1
 cases r1
 refine wpAny_truthy_bool ?_
 cases c with
 | true=>exact hb pins s1 σ H1 Q I1 q1
 | false=>exact ⟨.bl false,H1,I1,rfl,q1⟩
end
def SqL (K:W.Frag) (H:Hp) (a:Addr) (xs:List V):Prop :=
 Rd H a (.lst xs) \/
  ∃ (o:Obj) (its:Array Value) (n:Nat),K.lookup a=some o/\o.cls=.type "list"/\o.dict=none/\o.data=.seq its n/\its.size<=sizeLine/\Vals xs its.toList
def SqT (K:W.Frag) (H:Hp) (a:Addr) (xs:List V):Prop :=
 Rd H a (.tup xs) \/
  ∃ (o:Obj) (its:Array Value) (n:Nat),K.lookup a=some o/\o.cls=.type "tuple"/\o.data=.seq its n/\its.size<=sizeLine/\Vals xs its.toList
def absV:Value->Option V
 | .none=>some .non
 | .bool b=>some (.bl b)
 | .int i _=>some (.int i)
 | .str x _=>some (.str x)
 | .bytes b _=>some (.byt b)
 | .float b _=>some (.flt b)
 | .ref a=>some (.ref a)
 | .type n=>some (.ty n)
 | _=>none
theorem RelV.abs {x:V} {u:Value} (r:RelV x u):absV u=some x:=by
 cases x with
 | non=>cases r; rfl
 | bl _=>cases r; rfl
 | int _=>obtain ⟨t,rfl⟩:=r; rfl
 | str _=>obtain ⟨t,rfl⟩:=r; rfl
 | byt _=>obtain ⟨t,rfl⟩:=r; rfl
 | flt _=>obtain ⟨t,rfl⟩:=r; rfl
 | ref _=>cases r; rfl
 | ty _=>cases r; rfl
def RelV.inj {x y:V} {u:Value} (r:RelV x u) (q:RelV y u):x=y:=Option.some.inj (r.abs.symm.trans q.abs)
theorem Vals.inj:∀ {xs ys:List V} {us:List Value},Vals xs us->Vals ys us->xs=ys
 | _,_,_,.nil,.nil=>rfl
 | _,_,_,.cons r t,.cons r' t'=>by rw [r.inj r',Vals.inj t t']
section
variable {X:Cx} {pins:List (Addr×Obj)} {σ:St} {H:Hp} {s:Shared} {a:Addr} {xs ys:List V}
def SqL.of {K:W.Frag} (h:H a=some (.lst xs)):SqL K H a xs:=.inl (.inl h)
def SqT.of {K:W.Frag} (h:H a=some (.tup xs)):SqT K H a xs:=.inl (.inl h)
theorem Inv.list (I:Inv X pins σ H s) (h:SqL X.K H a xs):∃ its:List Value,Vals xs its/\PlainL s.heap a its.toArray/\xs.length<=sizeLine:=by
 rcases h with h | ⟨o,its,n,hk,hc,hd,hs,hz,r⟩
 ·obtain ⟨z,its,n,r,e⟩:=h.ok I.hok
  exact ⟨its,r,⟨_,n,e,rfl,rfl,rfl⟩,z⟩
 ·refine ⟨its.toList,r,⟨o,n,I.kIn a o hk,hc,hd,by simpa using hs⟩,?_⟩
  have e:=r.length
  simp only [Array.length_toList] at e
  omega
theorem Inv.tuple (I:Inv X pins σ H s) (h:SqT X.K H a xs):∃ its:List Value,Vals xs its/\IsTup s.heap a its.toArray/\xs.length<=sizeLine:=by
 rcases h with h | ⟨o,its,n,hk,hc,hs,hz,r⟩
 ·obtain ⟨z,its,r,p⟩:=h.ok I.hok
  exact ⟨its,r,p.tup,z⟩
 ·refine ⟨its.toList,r,⟨o,I.kIn a o hk,hc,n,by simpa using hs⟩,?_⟩
  have e:=r.length
  simp only [Array.length_toList] at e
  omega
def Inv.list_inj (I:Inv X pins σ H s) (h:SqL X.K H a xs) (h':SqL X.K H a ys):xs=ys:=by
 obtain ⟨its,r,⟨o,n,e,_,_,d⟩,_⟩:=I.list h
 obtain ⟨its',r',⟨o',n',e',_,_,d'⟩,_⟩:=I.list h'
 rw [e] at e'; cases e'
 rw [d] at d'
 injection d' with d1 _
 have:its=its':=by simpa using congrArg Array.toList d1
 subst this
 exact r.inj r'
end
abbrev Cx.wish (X:Cx) (E:Value->Shared->Prop):Cx:={ X with xe:=E }
abbrev Cx.nox (X:Cx):Cx:=X.wish fun _ _=>False
def Cx.Ok.wish {X:Cx} (ok:X.Ok) (E:Value->Shared->Prop):(X.wish E).Ok :=
 ⟨ok.mod,ok.kind,ok.glob,ok.blt,ok.above,ok.inj,ok.has,ok.cab,ok.hd,ok.frames,ok.stk,ok.exf,ok.bs,ok.bsz,ok.noex,ok.exfs,ok.funs,ok.frf⟩
def Cx.Ok.unwish {X:Cx} {E:Value->Shared->Prop} (ok:(X.wish E).Ok):X.Ok :=
 ⟨ok.mod,ok.kind,ok.glob,ok.blt,ok.above,ok.inj,ok.has,ok.cab,ok.hd,ok.frames,ok.stk,ok.exf,ok.bs,ok.bsz,ok.noex,ok.exfs,ok.funs,ok.frf⟩
section
variable {X:Cx} {pins:List (Addr×Obj)} {σ:St} {H:Hp} {s:Shared} {E:Value->Shared->Prop}
def Inv.wish (I:Inv X pins σ H s) (E:Value->Shared->Prop):Inv (X.wish E) pins σ H s:=⟨I.ok.wish E,I.os,I.bare,I.base,I.loc,I.cell,I.free,I.freeC,I.pin,I.hok,I.len⟩
def Inv.unwish (I:Inv (X.wish E) pins σ H s):Inv X pins σ H s:=⟨I.ok.unwish,I.os,I.bare,I.base,I.loc,I.cell,I.free,I.freeC,I.pin,I.hok,I.len⟩
theorem SP.unwish {D:Ends} {f:Flow} {s':Shared} (h:SP (X.wish E) pins D f s'):SP X pins D f s':=by
 cases f with
 | next=>obtain ⟨σ',H',I,q⟩:=h; exact ⟨σ',H',I.unwish,q⟩
 | brk=>obtain ⟨σ',H',I,q⟩:=h; exact ⟨σ',H',I.unwish,q⟩
 | cont=>obtain ⟨σ',H',I,q⟩:=h; exact ⟨σ',H',I.unwish,q⟩
 | ret u=>obtain ⟨v,σ',H',I,r,q⟩:=h; exact ⟨v,σ',H',I.unwish,r,q⟩
def PSs.nox {st:List Stmt} {t:TS} (h:PSs X.nox st t):PSs X st t:=fun pins s σ H D I hw =>
 wpAny_mono (h pins s σ H D (I.wish _) hw) (fun _ _ q=>q.unwish) fun _ _ z=>False.elim z
end
section
variable {X:Cx} {st:Stmt} {rest:List Stmt} {t u:TS} {e:Expr} {te:TE} {pos:Pos}
def tNext:TS:=fun D σ H=>D.nx σ H
def tSeq (t u:TS):TS:=fun D σ H=>t { D with nx:=u D } σ H
def pss_nil:PSs X [] tNext:=fun _ _ σ H _ I h=>wpAny_execs_nil ⟨σ,H,I,h⟩
theorem pss_cons (h1:PS X st t) (h2:PSs X rest u):PSs X (st::rest) (tSeq t u):=by
 intro pins s σ H D I h
 refine wpAny_execs_cons (thn (h1 pins s σ H { D with nx:=u D } I h) fun f s1 q=>?_)
 cases f with
 | next =>
  obtain ⟨σ',H',I',q⟩:=q
  exact h2 pins s1 σ' H' D I' q
 | ret v=>exact q
 | brk=>exact q
 | cont=>exact q
theorem pss_one (h1:PS X st t):PSs X [st] t:=by
 intro pins s σ H D I h
 refine wpAny_execs_cons (thn (h1 pins s σ H D I h) fun f s1 q=>?_)
 cases f with
 | next=>exact wpAny_execs_nil q
 | ret v=>exact q
 | brk=>exact q
 | cont=>exact q
def Inv.quiet {pins:List (Addr×Obj)} {σ:St} {H:Hp} {s:Shared} (I:Inv X pins σ H s):interactive X.env=false:=by simp [interactive,I.ok.kind]
def tDrop (te:TE):TS:=fun D σ H=>te σ H fun _ H1=>D.nx σ H1
def ps_expr (he:PE X e te) (hs:swapsWith e none pos.line X.env=pure false:=by rfl):PS X (.Expr e pos) (tDrop te):=by
 intro pins s σ H D I h
 exact wpAny_Expr_any (thn (he pins s σ H _ I h) fun v s1 ⟨x,H1,I1,r1,q1⟩=>⟨σ,H1,I1,q1⟩) I.quiet hs
def tRet (te:TE):TS:=fun D σ H=>te σ H D.rt
def ps_ret (he:PE X e te):PS X (.Return (some e) pos) (tRet te):=by
 intro pins s σ H D I h
 exact wpAny_Return_some (thn (he pins s σ H _ I h) fun v s1 ⟨x,H1,I1,r1,q1⟩=>⟨x,σ,H1,I1,r1,q1⟩)
def tIfS (c:TT) (t u:TS):TS:=fun D σ H=>c σ H fun b H1=>if b=true then t D σ H1 else u D σ H1
theorem ps_if {c:Expr} {a b:List Stmt} {tc:TT} (hc:PT X c tc) (ha:PSs X a t) (hb:PSs X b u):PS X (.If c a b pos) (tIfS tc t u):=by
 intro pins s σ H D I h
 refine wpAny_If (thn (hc pins s σ H _ I h) fun d s1 ⟨H1,I1,q1⟩=>?_)
 cases d with
 | true=>exact ha pins s1 σ H1 D I1 q1
 | false=>exact hb pins s1 σ H1 D I1 q1
end
abbrev TG:=V->St->Hp->(St->Hp->Prop)->Prop
abbrev TGs:=List V->St->Hp->(St->Hp->Prop)->Prop
def PG (X:Cx) (target:Expr) (t:TG):Prop :=
 ∀ (pins:List (Addr×Obj)) (s:Shared) (σ:St) (H:Hp) (v:V) (u:Value) (Q:St->Hp->Prop),Inv X pins σ H s->RelV v u->t v σ H Q ->
  wpAny (model X.prog X.w) X.A (assign target X.env u) (fun _ s'=>∃ σ' H',Inv X pins σ' H' s'/\Q σ' H') X.xe s
def PGs (X:Cx) (ts:List Expr) (t:TGs):Prop :=
 ∀ (pins:List (Addr×Obj)) (s:Shared) (σ:St) (H:Hp) (vs:List V) (us:List Value) (Q:St->Hp->Prop),Inv X pins σ H s->Vals vs us->t vs σ H Q ->
  wpAny (model X.prog X.w) X.A (assignInOrder ((assignEach ts X.env).map (·.2)) us) (fun _ s'=>∃ σ' H',Inv X pins σ' H' s'/\Q σ' H') X.xe s
abbrev TSet:=V->V->V->Hp->(Hp->Prop)->Prop
def PSet (X:Cx) (t:TSet):Prop :=
 ∀ (pins:List (Addr×Obj)) (s:Shared) (σ:St) (H:Hp) (o i v:V) (ov iv u:Value) (Q:Hp->Prop),Inv X pins σ H s->RelV o ov->RelV i iv->RelV v u->t o i v H Q ->
  wpAny (model X.prog X.w) X.A (setItem ov iv u) (fun _ s'=>∃ H',Inv X pins σ H' s'/\Q H') X.xe s
abbrev TIp:=V->V->Hp->VK->Prop
def PIp (X:Cx) (op:Operator) (t:TIp):Prop :=
 ∀ (pins:List (Addr×Obj)) (s:Shared) (σ:St) (H:Hp) (x y:V) (v u:Value) (Q:VK),Inv X pins σ H s->RelV x v->RelV y u->t x y H Q ->
  wpAny (model X.prog X.w) X.A (inplaceOp op v u) (EP X pins σ Q) X.xe s
section
variable {X:Cx} {pos:Pos}
def gName (i:Nat):TG:=fun v σ H Q=>Q (σ.set i (some v)) H
def pg_name {i:Nat} {x:Str} (hN:X.N.Nodup) (hi:X.N[i]?=some x) (hx:Loc X.env.scope x) (hf:X.fn x=true\/X.env.scope.names.lookup x=some .local:=by first | exact .inl rfl | exact .inr rfl | assumption):PG X (.Name x pos) (gName i):=by
 intro pins s σ H v u Q I r h
 exact wpAny_assign_Name (store_ok I hN hi hx r (fun s' I'=>⟨_,H,I',h⟩) hf)
def gNil:TGs:=fun vs σ H Q=>vs=[]/\Q σ H
def gCons (t:TG) (u:TGs):TGs:=fun vs σ H Q=>∃ v r,vs=v::r/\t v σ H fun σ' H'=>u r σ' H' Q
def pgs_nil:PGs X [] gNil:=by
 intro pins s σ H vs us Q I r h
 obtain ⟨e,h⟩:=h
 subst e
 cases r
 exact assignInOrder_nil ⟨σ,H,I,h⟩
theorem pgs_cons {e:Expr} {es:List Expr} {t:TG} {u:TGs} (h1:PG X e t) (h2:PGs X es u)
  (hs:(assignEach (e::es) X.env).map (·.2)=assign e X.env::(assignEach es X.env).map (·.2):=by rfl):PGs X (e::es) (gCons t u):=by
 intro pins s σ H vs us Q I r h
 obtain ⟨v,vr,e1,h⟩:=h
 subst e1
 cases r with
 | cons r rr =>
  rw [hs]
  refine assignInOrder_cons (thn (h1 pins s σ H _ _ _ I r h) fun _ s1 ⟨σ1,H1,I1,q1⟩=>?_)
  exact h2 pins s1 σ1 H1 _ _ Q I1 rr q1
def gTup (K:W.Frag) (n:Nat) (t:TGs):TG:=fun v σ H Q=>∃ a xs,v=.ref a/\SqT K H a xs/\xs.length=n/\t xs σ H Q
def pg_tup {es:List Expr} {k:Nat} {t:TGs} {n:Nat} (hc:X.calm=true) (h:PGs X es t)
  (hn:(assignEach es X.env).length=n:=by rfl) (hst:(assignEach es X.env).findIdx? (·.1)=none:=by rfl):PG X (.Tuple es k pos) (gTup X.K n t):=by
 intro pins s σ H v u Q I r hw
 obtain ⟨a,xs,e1,hq,hl,hw⟩:=hw
 subst e1
 cases r
 obtain ⟨its,rv,ht,hz⟩:=I.tuple hq
 refine assign_Tuple_tuple (I.ok.hd hc) ht (by simp [hn,<- hl,rv.length]) hst fun h' hx=>?_
 have I1:Inv X pins σ H { s with heap:=h' }:=I.kept (t':=s.toks) fun b o e=>hx b o (Nat.ne_of_lt (Heap.lt_size e)) e
 exact h pins _ σ H xs _ Q I1 (by simpa using rv) hw
def gSub (to ti:TE) (t:TSet):TG:=fun v σ H Q=>to σ H fun o H1=>ti σ H1 fun i H2=>t o i v H2 fun H3=>Q σ H3
def pg_sub {o i:Expr} {to ti:TE} {t:TSet} (ho:PE X o to) (hi:PE X i ti) (hs:PSet X t)
  (ha:∀ v,assign (.Subscript o i pos) X.env v=(do
   let ov <- holding [v] (eval o X.env)
   let iv <- holding [v,ov] (eval i X.env)
   standAt pos
   holding [v,ov,iv] (setItem ov iv v)
   release [v,ov,iv] []):=by intro _; rfl):PG X (.Subscript o i pos) (gSub to ti t):=by
 intro pins s σ H v u Q I r h
 rw [ha]
 refine wpAny_bind (wpAny_holding (thn (ho pins s σ H _ I h) fun ov s1 ⟨x,H1,I1,r1,q1⟩=>?_))
 refine wpAny_bind (wpAny_holding (thn (hi pins s1 σ H1 _ I1 q1) fun iv s2 ⟨y,H2,I2,r2,q2⟩=>?_))
 refine wpAny_bind (wpAny_standAt (wpAny_bind (wpAny_holding (thn (hs pins s2 σ H2 x y v ov iv u _ I2 r1 r2 r q2) fun _ s3 ⟨H3,I3,q3⟩=>?_))))
 exact wpAny_release ⟨σ,H3,I3,q3⟩
def tAsg (te:TE) (g:TG):TS:=fun D σ H=>te σ H fun x H1=>g x σ H1 D.nx
def ps_asg {tg e:Expr} {te:TE} {g:TG} (he:PE X e te) (hg:PG X tg g) (hs:swapsWithSole [tg] e pos.line X.env=pure false:=by rfl) (hw:swappedStores [tg] e X.env=pure none:=by rfl)
  (h1:(assignEach [tg] X.env).map (·.2)=[assign tg X.env]:=by rfl):PS X (.Assign [tg] e pos) (tAsg te g):=by
 intro pins s σ H D I h
 refine wpAny_Assign_stores (thn (he pins s σ H _ I h) fun v s1 ⟨x,H1,I1,r1,q1⟩=>?_) hs hw
 rw [h1]
 exact thn (hg pins s1 σ H1 x v _ I1 r1 q1) fun _ s2 q=>q
def ps_set {i:Nat} {x:Str} {e:Expr} {te:TE} {pos':Pos} (hN:X.N.Nodup) (hi:X.N[i]?=some x) (hx:Loc X.env.scope x) (he:PE X e te) (hs:swapsWith e (some (.Name x pos')) pos.line X.env=pure false:=by rfl) (hf:X.fn x=true\/X.env.scope.names.lookup x=some .local:=by first | exact .inl rfl | exact .inr rfl | assumption) :
  PS X (.Assign [.Name x pos'] e pos) (tAsg te (gName i)):=by
 intro pins s σ H D I h
 refine wpAny_Assign_Name (thn (he pins s σ H _ I h) fun v s1 ⟨y,H1,I1,r1,q1⟩=>?_) hs
 exact store_ok I1 hN hi hx r1 (fun s2 I2=>⟨_,H1,I2,q1⟩) hf
def tPar (i j:Nat) (ta:TA):TS:=fun D σ H=>ta σ H fun vs H1=>∃ v w,vs=[v,w]/\D.nx ((σ.set i (some v)).set j (some w)) H1
def ps_par {i j:Nat} {x y:Str} {a b:Expr} {ta:TA} {px py pt:Pos} {kt k2 pt2} (hc:X.calm=true) (hN:X.N.Nodup) (hi:X.N[i]?=some x) (hj:X.N[j]?=some y) (hij:i≠j)
  (hx:X.env.scope.names.lookup x=some .local) (hy:X.env.scope.names.lookup y=some .local) (ha:PA X [a,b] ta)
  (hw:swappedStores [.Tuple [.Name x px,.Name y py] kt pt] (.Tuple [a,b] k2 pt2) X.env=pure (some [x,y]))
  (hs:swapsWithSole [.Tuple [.Name x px,.Name y py] kt pt] (.Tuple [a,b] k2 pt2) pos.line X.env=pure false:=by rfl) :
  PS X (.Assign [.Tuple [.Name x px,.Name y py] kt pt] (.Tuple [a,b] k2 pt2) pos) (tPar i j ta):=by
 intro pins s σ H D I h
 rw [exec_Assign_arm]
 refine wpAny_bind (wpAny_standAt ?_)
 rw [hs]
 refine wpAny_bind (wpAny_pure ?_)
 rw [if_neg (by decide)]
 refine wpAny_bind (Tuple_ (thn (ha _ pins s σ H _ I h) fun us s1 ⟨vs,H1,I1,r1,q1⟩=>?_))
 obtain ⟨v,w,e1,q1⟩:=q1
 subst e1
 obtain ⟨u1,u2,rfl,rv,rw'⟩:∃ u1 u2,us=[u1,u2]/\RelV v u1/\RelV w u2:=by
  cases r1 with
  | cons p q =>
   cases q with
   | cons p' q' =>
    cases q'
    exact ⟨_,_,rfl,p,p'⟩
 refine wpAny_newObj_type ?_ (by show 2<=sizeLine; decide)
 have I2:Inv X pins σ H1 { s1 with heap:=s1.heap.push { cls:=.type "tuple",data:=.seq [u1,u2].toArray } }:=I1.kept (t':=s1.toks) fun b o e=>Heap.get?_push_of_some _ e
 rw [hw]
 refine wpAny_bind (wpAny_pure ?_)
 show wpAny (model X.prog X.w) X.A (do rule "assign.swapped-stores"; let items <- unpackItems (.ref s1.heap.objs.size) 2 none; assignInOrder [fun v=>bindName X.env y v,fun v=>bindName X.env x v] items.reverse; pure Flow.next) _ _ _
 refine wpAny_bind (wpAny_rule (wpAny_bind (unpackItems_tuple (items:=#[u1,u2]) (I.ok.hd hc) (IsTup.new s1.heap _) fun h' hx'=>?_)))
 have I3:=I2.kept (h':=h') (t':=s1.toks) fun b o e=>hx' b o (Nat.ne_of_lt (Heap.lt_size e)) e
 show wpAny _ _ (assignInOrder [fun v=>bindName X.env y v,fun v=>bindName X.env x v] [u2,u1] >>= fun _=>pure Flow.next) _ _ _
 refine wpAny_bind (assignInOrder_cons (wpAny_bindName (store_ok I3 hN hj (.inl hy) rw' (fun s2 I4=>?_) (.inr hy))))
 refine assignInOrder_cons (wpAny_bindName (store_ok I4 hN hi (.inl hx) rv (fun s3 I5=>assignInOrder_nil (wpAny_pure ?_)) (.inr hx)))
 rw [List.set_comm _ _ (Ne.symm hij)] at I5
 exact ⟨_,H1,I5,q1⟩
def tAugS (to ti te:TE) (tget:V->V->Hp->VK->Prop) (tip:TIp) (tset:TSet):TS:=fun D σ H=>to σ H fun o H1=>ti σ H1 fun i H2=>tget o i H2 fun x H3=>te σ H3 fun y H4=>tip x y H4 fun z H5=>tset o i z H5 fun H6=>D.nx σ H6
def PGet (X:Cx) (t:V->V->Hp->VK->Prop):Prop :=
 ∀ (pins:List (Addr×Obj)) (s:Shared) (σ:St) (H:Hp) (o i:V) (ov iv:Value) (Q:VK),Inv X pins σ H s->RelV o ov->RelV i iv->t o i H Q ->
  wpAny (model X.prog X.w) X.A (getItem ov iv) (EP X pins σ Q) X.xe s
def ps_augS {o i e:Expr} {to ti te:TE} {tget:V->V->Hp->VK->Prop} {tip:TIp} {tset:TSet} {op:Operator} {tpos:Pos} (ho:PE X o to) (hi:PE X i ti) (hg:PGet X tget) (he:PE X e te) (hp:PIp X op tip) (hs:PSet X tset)
  (ha:∀ ov iv new,augStore i ov iv new=(do holding [new,ov,iv] (setItem ov iv new); release [new,ov,iv] []; pure .next):=by intros; rfl):PS X (.AugAssign (.Subscript o i tpos) op e pos) (tAugS to ti te tget tip tset):=by
 intro pins s σ H D I h
 refine wpAny_AugAssign_SubscriptAny (thn (ho pins s σ H _ I h) fun ov s1 ⟨x1,H1,I1,r1,q1⟩=>?_) ha
 refine thn (hi pins s1 σ H1 _ I1 q1) fun iv s2 ⟨x2,H2,I2,r2,q2⟩=>?_
 refine thn (hg pins s2 σ H2 x1 x2 ov iv _ I2 r1 r2 q2) fun old s3 ⟨x3,H3,I3,r3,q3⟩=>?_
 refine thn (he pins s3 σ H3 _ I3 q3) fun v s4 ⟨x4,H4,I4,r4,q4⟩=>?_
 refine thn (hp pins s4 σ H4 x3 x4 old v _ I4 r3 r4 q4) fun new s5 ⟨x5,H5,I5,r5,q5⟩=>?_
 exact thn (hs pins s5 σ H5 x1 x2 x5 ov iv new _ I5 r1 r2 r5 q5) fun _ s6 ⟨H6,I6,q6⟩=>⟨σ,H6,I6,q6⟩
def ipI (f:Int->Int->Int):TIp:=fun x y H Q=>∃ i j,x=.int i/\y=.int j/\Q (.int (f i j)) H
def ip_add:PIp X .Add (ipI fun i j=>i + j):=by
 intro pins s σ H x y v u Q I r1 r2 h
 obtain ⟨i,j,e1,e2,q⟩:=h
 subst e1; subst e2
 obtain ⟨t,rfl⟩:=r1
 obtain ⟨t',rfl⟩:=r2
 exact iadd_int ⟨.int _,H,I.tok _,⟨_,rfl⟩,q⟩
end
section
variable {X:Cx} {pos:Pos}
def tWhile (c:TT) (tb:TS):TS:=fun D σ H=>∃ W:Nat->St->Hp->Prop,(∃ m,W m σ H)/\∀ m σ H,W m σ H ->
 c σ H fun b H1=>if b=true then ∃ N:St->Hp->Prop,(∀ σ' H',N σ' H'->∃ m',m' < m/\W m' σ' H')/\tb { D with nx:=N,ct:=N,bk:=D.nx } σ H1 else D.nx σ H1
theorem ps_while {c:Expr} {body:List Stmt} {tc:TT} {tb:TS} (hp:PassesOwn (model X.prog X.w) X.A X.env X.xe) (hc:PT X c tc) (hb:PSs X body tb):PS X (.While c body [] pos) (tWhile tc tb):=by
 intro pins s σ H D I h
 obtain ⟨W,⟨m0,w0⟩,turn⟩:=h
 refine wpAny_While (codeAny_whileLoop (fun n s'=>∃ σ' H',Inv X pins σ' H' s'/\W n σ' H') ?_ m0 ⟨σ,H,I,w0⟩)
 rintro n s1 ⟨σ1,H1,I1,w1⟩
 refine wpAny_passesOwn hp (thn (hc pins s1 σ1 H1 _ I1 (turn n σ1 H1 w1)) fun b s2 ⟨H2,I2,q2⟩=>?_)
 cases b with
 | true =>
  obtain ⟨N,hN,q2⟩:=q2
  rw [if_pos rfl]
  refine wpAny_passesOwn hp (thn (hb pins s2 σ1 H2 _ I2 q2) fun f s3 q3=>?_)
  cases f with
  | next =>
   obtain ⟨σ3,H3,I3,n3⟩:=q3
   obtain ⟨m',hm,w3⟩:=hN σ3 H3 n3
   exact ⟨m',hm,σ3,H3,I3,w3⟩
  | cont =>
   obtain ⟨σ3,H3,I3,n3⟩:=q3
   obtain ⟨m',hm,w3⟩:=hN σ3 H3 n3
   exact ⟨m',hm,σ3,H3,I3,w3⟩
  | brk=>exact q3
  | ret v=>exact q3
 | false =>
  rw [if_neg Bool.false_ne_true]
  exact wpAny_execs_nil ⟨σ1,H2,I2,q2⟩
end
structure It where
 go:Nat->Hp->Prop
 yld:Nat->Hp->V->Hp->Prop
 stop:Nat->Hp->Prop
def FpOk (X:Cx) (pins:List (Addr×Obj)) (H:Hp) (b:Addr):Prop :=
 H b=none/\b≠X.env.locals/\b∉X.fs/\(b∈X.ex\/X.s₀.heap.objs.size<=b)/\(∀ x c,X.env.cells.lookup x=some c->c≠b)/\∀ p∈X.pn++pins,p.1≠b
def Inv.fpOk {X:Cx} {pins:List (Addr×Obj)} {σ:St} {H H':Hp} {s:Shared} {b:Addr} (I:Inv X pins σ H s) (hb:s.heap.objs.size<=b) (hn:H' b=none):FpOk X pins H' b:=by
 refine ⟨hn,Nat.ne_of_gt (Nat.lt_of_lt_of_le I.lt hb),I.nofs hb,.inr (Nat.le_trans I.sz hb),fun x c e z=>?_,fun p hp z=>?_⟩
 ·obtain ⟨v,q⟩:=I.cell x c e
  exact absurd (Nat.lt_of_lt_of_le q.lt (by rw [z]; exact hb)) (Nat.lt_irrefl _)
 ·exact absurd (Nat.lt_of_lt_of_le (Heap.lt_size (I.pin p hp).1) (by rw [z]; exact hb)) (Nat.lt_irrefl _)
structure Turn (P:Program) (w:World) (K:W.Frag) (tg:Expr) (J:It) (fp:List Addr) (it:Addr) (tn:Nat->Heap->Prop):Prop where
 mem:it∈fp
 obj:∀ i h,tn i h->∀ b∈fp,∃ o,h.get? b=some o/\∀ v,o.data≠.cell v
 keep:∀ i h h',tn i h->(∀ b∈fp,∀ o,h.get? b=some o->h'.get? b=some o)->tn i h'
 item:∀ (X:Cx),X.prog=P->X.w=w->X.K=K->X.calm=true->∀ (i:Nat) (pins:List (Addr×Obj)) (s:Shared) (σ:St) (H:Hp) (E:Value->Shared->Prop),Inv X pins σ H s->(∀ b∈fp,FpOk X pins H b)->tn i s.heap->J.go i H ->
  wpAny (model P w) X.A (pyNext (.ref it)) (fun r s1=>∃ u,r=some u /\
   wpAny (model P w) X.A (letOwnedTupleGo tg (.ref it) u) (fun _ s2=>∃ x H',Inv X pins σ H' s2/\RelV x u/\J.yld i H x H'/\tn (i + 1) s2.heap/\∀ b∈fp,H' b=none) E s1) E s
 done:∀ (X:Cx),X.prog=P->X.w=w->X.K=K->X.calm=true->∀ (i:Nat) (pins:List (Addr×Obj)) (s:Shared) (σ:St) (H:Hp) (E:Value->Shared->Prop),Inv X pins σ H s->(∀ b∈fp,FpOk X pins H b)->tn i s.heap->J.stop i H ->
  wpAny (model P w) X.A (pyNext (.ref it)) (fun r s1=>r=none/\Inv X pins σ H s1) E s
 self:∀ (A:Around) (i:Nat) (s:Shared) (Q:Value->Shared->Prop) (E:Value->Shared->Prop),tn i s.heap->Q (.ref it) s->wpAny (model P w) A (pyIter (.ref it)) Q E s
abbrev TI:=St->Hp->(It->Hp->Prop)->Prop
def PIE (X:Cx) (pins:List (Addr×Obj)) (σ:St) (tg:Expr) (R:It->Hp->Prop) (itv:Value) (s2:Shared):Prop :=
 ∃ (it:Addr) (fp:List Addr) (tn:Nat->Heap->Prop) (J:It) (H':Hp),itv=.ref it/\Inv X pins σ H' s2/\Turn X.prog X.w X.K tg J fp it tn/\tn 0 s2.heap/\(∀ b∈fp,FpOk X pins H' b)/\R J H'
def PI (X:Cx) (tg iter:Expr) (wi:TI):Prop :=
 ∀ (pins:List (Addr×Obj)) (s:Shared) (σ:St) (H:Hp) (R:It->Hp->Prop),Inv X pins σ H s->wi σ H R ->
  wpAny (model X.prog X.w) X.A (eval iter X.env) (fun v s1=>wpAny (model X.prog X.w) X.A (pyIter v) (PIE X pins σ tg R) X.xe s1) X.xe s
def go_of {M:Model} {A:Around} {E:Value->Shared->Prop} {s:Shared} {tg:Expr} {it:Addr} {u:Value} {o:Obj} {n:String} {vs:Array Value} {Q:Unit->Shared->Prop} (ho:s.heap.get? it=some o) (hc:o.cls=.type n) (hd:o.data=.fields vs)
    (hn:["enumerate", "zip", "dict_itemiterator", "dict_reverseitemiterator", "odict_iterator", "itertools.zip_longest", "itertools.pairwise"].contains n=false) (hQ:Q () s):wpAny M A (letOwnedTupleGo tg (.ref it) u) Q E s:=by
  unfold letOwnedTupleGo
  cases tg <;> first
    | exact wpAny_pure hQ
    | (cases u <;> first
        | exact wpAny_pure hQ
        | (refine wpAny_bind (wpAny_load ho ?_)
           rw [hc,hd]
           show wpAny M A (if (["enumerate", "zip", "dict_itemiterator", "dict_reverseitemiterator", "odict_iterator", "itertools.zip_longest", "itertools.pairwise"].contains n && vs[0]? == some (rawInt _))=true then _ else _) Q E s
           rw [if_neg (by intro h; rw [hn,Bool.false_and] at h; cases h)]
           exact wpAny_pure hQ))
def Itl (K:W.Frag) (a:Addr):It :=
 ⟨fun i H=>∃ xs x,SqL K H a xs/\xs[i]?=some x,fun i H x H'=>H'=H/\∀ xs,SqL K H a xs->xs[i]?=some x,fun i H=>∃ xs,SqL K H a xs/\xs.length<=i⟩
def Itr (lo:Int) (n:Nat):It:=⟨fun i _=>i < n,fun i H x H'=>H'=H/\x=.int (lo + i),fun i _=>n<=i⟩
theorem turn_list {P:Program} {w:World} {K:W.Frag} {tg:Expr} (a it:Addr):Turn P w K tg (Itl K a) [it] it (fun i h=>h.IsListIter it a i) where
 mem:=by simp
 obj:=fun i h st b hb=>by
  have e:b=it:=by simpa using hb
  subst e
  obtain ⟨o,e,c,d⟩:=st
  exact ⟨o,e,fun v z=>by rw [d] at z; cases z⟩
 keep:=fun i h h' st k=>st.at fun o e=>k it (by simp) o e
 item:=by
  intro X hP hw hK hc i pins s σ H E I hf st hg
  subst hP hw hK
  obtain ⟨xs,x,hq,hx⟩:=hg
  obtain ⟨its,rv,p,hz⟩:=I.list hq
  obtain ⟨u,hu,ru⟩:=rv.get hx
  obtain ⟨f0,f1,f2,f3,f4,f5⟩:=hf it (by simp)
  refine wpAny_pyNext_list_item st p.isList (x:=u) (by simpa using hu) fun h' st' sb=>?_
  have I1:Inv X pins σ H { s with heap:=h' }:=I.turned (t':=s.toks) (fun b o hb e=>(sb.2 b hb).trans e) f0 f1 f3 f4 f5
  obtain ⟨o,e,c,d⟩:=id st'
  exact ⟨u,rfl,go_of (s:={ s with heap:=h' }) e c d (by decide) ⟨x,H,I1,ru,⟨rfl,fun ys hy=>by rw [I.list_inj hy hq]; exact hx⟩,st',fun b hb=>(hf b hb).1⟩⟩
 done:=by
  intro X hP hw hK hc i pins s σ H E I hf st hg
  subst hP hw hK
  obtain ⟨xs,hq,hx⟩:=hg
  obtain ⟨its,rv,p,hz⟩:=I.list hq
  obtain ⟨f0,f1,f2,f3,f4,f5⟩:=hf it (by simp)
  have hl:=rv.length
  exact wpAny_pyNext_list_end (I.ok.hd hc) st p.isList (by simp; omega) fun h' eb=>⟨rfl,I.turned (t':=s.toks) (fun b o hb e=>eb b o hb e) f0 f1 f3 f4 f5⟩
 self:=fun _ _ _ _ _ st h=>wpAny_pyIter_listiter st h
theorem turn_range {P:Program} {w:World} {K:W.Frag} {tg:Expr} (it:Addr) (lo:Int) (n:Nat):Turn P w K tg (Itr lo n) [it] it (fun i h=>IsRangeIter h it (lo + (i:Nat) * 1) ((n:Int) - (i:Nat)) 1) where
 mem:=by simp
 obj:=fun i h st b hb=>by
  have e:b=it:=by simpa using hb
  subst e
  exact ⟨_,st,fun v z=>by
   have z':Data.fields _=Data.cell v:=z
   cases z'⟩
 keep:=fun i h h' st k=>k it (by simp) _ st
 item:=by
  intro X hP hw hK hc i pins s σ H E I hf st hg
  subst hP hw hK
  obtain ⟨f0,f1,f2,f3,f4,f5⟩:=hf it (by simp)
  have W:=Walks.range (prog:=X.prog) (w:=X.w) (I.ok.hd hc) it lo 1 n
  refine W.item i s _ _ hg st fun v h' tk hv st' kk=>?_
  obtain ⟨t,rfl⟩:=hv
  have I1:Inv X pins σ H { s with heap:=h',toks:=tk }:=I.turned (fun b o hb e=>kk b o (by simpa using hb) e) f0 f1 f3 f4 f5
  refine ⟨_,rfl,go_of (s:={ s with heap:=h',toks:=tk }) (n:="range_iterator") st' rfl rfl (by decide) ⟨.int (lo + i),H,I1,⟨t,?_⟩,⟨rfl,rfl⟩,st',fun b hb=>(hf b hb).1⟩⟩
  rw [Int.mul_one]
 done:=by
  intro X hP hw hK hc i pins s σ H E I hf st hg
  subst hP hw hK
  obtain ⟨f0,f1,f2,f3,f4,f5⟩:=hf it (by simp)
  exact wpAny_pyNext_range_end (I.ok.hd hc) st (by have:n<=i:=hg; omega) fun h' eb=>⟨rfl,I.turned (t':=s.toks) (fun b o hb e=>eb b o hb e) f0 f1 f3 f4 f5⟩
 self:=fun _ _ _ _ _ st h=>wpAny_pyIter_rangeiter st h
section
variable {X:Cx} {tg:Expr}
def iList (K:W.Frag) (tl:TE):TI:=fun σ H R=>tl σ H fun x H1=>∃ a,x=.ref a/\(∃ xs,SqL K H1 a xs)/\R (Itl K a) H1
def pi_list {l:Expr} {tl:TE} (hl:PE X l tl):PI X tg l (iList X.K tl):=by
 intro pins s σ H R I h
 refine thn (hl pins s σ H _ I h) fun v s1 ⟨x,H1,I1,r1,q1⟩=>?_
 obtain ⟨a,e,⟨xs,hq⟩,q⟩:=q1
 subst e
 cases r1
 obtain ⟨its,rv,p,hz⟩:=I1.list hq
 refine wpAny_pyIter_list p.isList ?_
 refine ⟨s1.heap.objs.size,[s1.heap.objs.size],_,_,H1,rfl,I1.kept (t':=s1.toks) fun b o e=>Heap.get?_push_of_some _ e,turn_list a _,⟨_,Heap.get?_push_size _ rfl,rfl,rfl⟩,fun b hb=>?_,q⟩
 have e:b=s1.heap.objs.size:=by simpa using hb
 subst e
 exact I1.fpOk (Nat.le_refl _) (I1.hok.fresh (Nat.le_refl _))
theorem range_it {pins:List (Addr×Obj)} {σ:St} {H:Hp} {s:Shared} {R:It->Hp->Prop} {E:Value->Shared->Prop} {lo hi:Int} {t u v:Tok} {tk:Nat} (I:Inv X pins σ H s) (h1:-(2 ^ 62)<=lo) (h2:lo < 2 ^ 62) (h3:-(2 ^ 62)<=hi) (h4:hi < 2 ^ 62)
  (q:R (Itr lo (hi - lo).toNat) H):wpAny (model X.prog X.w) X.A (pyIter (.ref s.heap.objs.size)) (PIE X pins σ tg R) E { s with heap:=s.heap.push { cls:=.type "range",data:=.fields #[.int lo t,.int hi u,.int 1 v] },toks:=tk }:=by
 refine wpAny_pyIter_range (IsRange.new ..) (small_one h1 h2 h3 h4) ?_
 have I1:Inv X pins σ H { s with heap:=s.heap.push { cls:=.type "range",data:=.fields #[.int lo t,.int hi u,.int 1 v] },toks:=tk }:=I.kept fun b o e=>Heap.get?_push_of_some _ e
 refine ⟨(s.heap.push { cls:=.type "range",data:=.fields #[.int lo t,.int hi u,.int 1 v] }).objs.size,[(s.heap.push { cls:=.type "range",data:=.fields #[.int lo t,.int hi u,.int 1 v] }).objs.size],_,_,H,rfl,
  I1.kept (t':=tk) fun b o e=>Heap.get?_push_of_some _ e,turn_range _ lo (hi - lo).toNat,?_,fun b hb=>?_,q⟩
 ·have e1:lo + ((0:Nat):Int) * 1=lo:=by simp
  have e2:(((hi - lo).toNat:Nat):Int) - ((0:Nat):Int)=Builtin.Range.rangeSize lo hi 1:=by rw [rangeSize_one]; split <;> omega
  show IsRangeIter _ _ (lo + ((0:Nat):Int) * 1) ((((hi - lo).toNat:Nat):Int) - ((0:Nat):Int)) 1
  rw [e1,e2]
  exact Heap.get?_push_size _ rfl
 ·have e:b=(s.heap.push { cls:=.type "range",data:=.fields #[.int lo t,.int hi u,.int 1 v] }).objs.size:=by simpa using hb
  subst e
  exact I1.fpOk (Nat.le_refl _) (I1.hok.fresh (Nat.le_refl _))
def iRng1 (ta:TA):TI:=fun σ H R=>ta σ H fun vs H1=>∃ j:Int,vs=[.int j]/\-(2 ^ 62)<=j/\j < 2 ^ 62/\R (Itr 0 j.toNat) H1
theorem pi_range1 {a:Expr} {ta:TA} {p pos:Pos} (hg:Gl X "range") (hm:X.mg "range"=none) (ha:PA X [a] ta) (hs:starEach [a] X.env=[(false,eval a X.env)]:=by rfl):PI X tg (.Call (.Name "range" p) [a] [] pos) (iRng1 ta):=by
 intro pins s σ H R I h
 refine Call_ (ld_blt I hg hm boot_range (PyProof.Rows.callWith_type1 (thn (ha pos pins s σ H _ I h) fun us s1 ⟨vs,H1,I1,r1,q1⟩=>?_) hs rfl))
 obtain ⟨j,e,q1,q2,q⟩:=q1
 subst e
 cases r1 with
 | cons r rr =>
  cases rr
  obtain ⟨t,rfl⟩:=r
  exact call_range_1 (range_it I1 (by omega) (by omega) q1 q2 (by simpa using q))
def tFor (wi:TI) (g:TG) (tb:TS):TS:=fun D σ H=>wi σ H fun J H1=>∃ W:Nat->Nat->St->Hp->Prop,(∃ m,W 0 m σ H1)/\∀ i m σ H,W i m σ H ->
 (J.stop i H/\D.nx σ H)\/(J.go i H/\∃ N:St->Hp->Prop,(∀ σ' H',N σ' H'->∃ m',m' < m/\W (i + 1) m' σ' H')/\∀ x H',J.yld i H x H'->g x σ H' fun σ2 H2=>tb { D with nx:=N,ct:=N,bk:=D.nx } σ2 H2)
def pinsAt (fp:List Addr) (h:Heap):List (Addr×Obj):=fp.filterMap fun b=>(h.get? b).map fun o=>(b,o)
def mem_pinsAt {fp:List Addr} {h:Heap} {b:Addr} {o:Obj} (hb:b∈fp) (e:h.get? b=some o):(b,o)∈pinsAt fp h:=List.mem_filterMap.mpr ⟨b,hb,by rw [e]; rfl⟩
theorem of_pinsAt {fp:List Addr} {h:Heap} {p:Addr×Obj} (hp:p∈pinsAt fp h):p.1∈fp/\h.get? p.1=some p.2:=by
 obtain ⟨b,hb,e⟩:=List.mem_filterMap.mp hp
 cases q:h.get? b with
 | none=>rw [q] at e; cases e
 | some o =>
  rw [q] at e
  have e':(b,o)=p:=Option.some.inj e
  subst e'
  exact ⟨hb,q⟩
def Inv.pinned {pins:List (Addr×Obj)} {σ:St} {H:Hp} {s:Shared} {fp:List Addr} (I:Inv X pins σ H s) (hf:∀ b∈fp,FpOk X pins H b) (ho:∀ b∈fp,∃ o,s.heap.get? b=some o/\∀ v,o.data≠.cell v):Inv X (pins++pinsAt fp s.heap) σ H s :=
 I.pins_of fun p hp=>(List.mem_append.mp hp).elim (fun z=>I.pin p (List.mem_append_right _ z)) fun z=>by
  obtain ⟨hb,e⟩:=of_pinsAt z
  obtain ⟨f0,f1,f2,_⟩:=hf p.1 hb
  obtain ⟨o,e',d⟩:=ho p.1 hb
  rw [e] at e'; cases e'
  exact ⟨e,f0,f1,f2,d⟩
def Inv.unpinned {pins pl:List (Addr×Obj)} {σ:St} {H:Hp} {s:Shared} (I:Inv X (pins++pl) σ H s):Inv X pins σ H s:=I.pins_of fun p hp=>I.pin p (List.mem_append_right _ (List.mem_append_left _ hp))
def ps_for {iter:Expr} {body:List Stmt} {wi:TI} {g:TG} {tb:TS} {pos:Pos} (hp:PassesOwn (model X.prog X.w) X.A X.env X.xe) (hc:X.calm=true) (hi:PI X tg iter wi) (hg:PG X tg g) (hb:PSs X body tb)
  (hs:∀ x,foldedSetIterable iter X.env x=pure x:=by intro _; rfl):PS X (.For tg iter body [] pos) (tFor wi g tb):=by
 intro pins s σ H D I h
 refine wpAny_For (thn (hi pins s σ H _ I h) fun v s1 h1=>thn h1 fun itv s2 h2=>?_) hs
 obtain ⟨it,fp,tn,J,H2,e,I2,T,st2,f2,W,⟨m0,w0⟩,turn⟩:=h2
 subst e
 have stat:∀ {H':Hp},(∀ b∈fp,H' b=none)->∀ b∈fp,FpOk X pins H' b:=fun hn b hb=>⟨hn b hb,(f2 b hb).2⟩
 refine codeAny_forLoop_any (fun n s'=>∃ i σ' H',Inv X pins σ' H' s'/\tn i s'.heap/\(∀ b∈fp,H' b=none)/\W i n σ' H') ?_ m0 ⟨0,σ,H2,I2,st2,fun b hb=>(f2 b hb).1,w0⟩
 rintro n s3 ⟨i,σ3,H3,I3,st3,fr3,w3⟩
 rcases turn i n σ3 H3 w3 with ⟨stop,qn⟩ | ⟨go,N,hN,step⟩
 ·refine wpAny_passesOwn hp (thn (T.done X rfl rfl rfl hc i pins s3 σ3 H3 X.xe I3 (stat fr3) st3 stop) fun r s4 ⟨hr,I4⟩=>?_)
  subst hr
  exact wpAny_execs_nil ⟨σ3,H3,I4,qn⟩
 ·refine wpAny_passesOwn hp (thn (T.item X rfl rfl rfl hc i pins s3 σ3 H3 X.xe I3 (stat fr3) st3 go) fun r s4 ⟨u,hr,h4⟩=>?_)
  subst hr
  refine wpAny_passesOwn hp (thn h4 fun _ s5 ⟨x,H5,I5,r5,y5,st5,fr5⟩=>?_)
  have I5':=I5.pinned (stat fr5) (T.obj _ _ st5)
  refine wpAny_passesOwn hp (thn (hg _ s5 σ3 H5 x u _ I5' r5 (step x H5 y5)) fun _ s6 ⟨σ6,H6,I6,q6⟩=>?_)
  refine wpAny_passesOwn hp (thn (hb _ s6 σ6 H6 _ I6 q6) fun f s7 q7=>?_)
  have again:∀ {σ7:St} {H7:Hp},Inv X (pins++pinsAt fp s5.heap) σ7 H7 s7->N σ7 H7->∃ m,m < n/\∃ i σ' H',Inv X pins σ' H' s7/\tn i s7.heap/\(∀ b∈fp,H' b=none)/\W i m σ' H':=fun {σ7 H7} I7 n7=>by
   obtain ⟨m',hm,w7⟩:=hN σ7 H7 n7
   refine ⟨m',hm,i + 1,σ7,H7,I7.unpinned,T.keep _ _ _ st5 fun b hb o e=>(I7.pin (b,o) (List.mem_append_right _ (List.mem_append_right _ (mem_pinsAt hb e)))).1,fun b hb=>?_,w7⟩
   obtain ⟨o,e,d⟩:=T.obj _ _ st5 b hb
   exact (I7.pin (b,o) (List.mem_append_right _ (List.mem_append_right _ (mem_pinsAt hb e)))).2.1
  cases f with
  | next=>obtain ⟨σ7,H7,I7,n7⟩:=q7; exact again I7 n7
  | cont=>obtain ⟨σ7,H7,I7,n7⟩:=q7; exact again I7 n7
  | brk=>obtain ⟨σ7,H7,I7,q7⟩:=q7; exact ⟨σ7,H7,I7.unpinned,q7⟩
  | ret v=>obtain ⟨x7,σ7,H7,I7,r7,q7⟩:=q7; exact ⟨x7,σ7,H7,I7.unpinned,r7,q7⟩
end
theorem for_range {lo:Int} {n:Nat} {g:TG} {tb:TS} {D:Ends} {σ:St} {H:Hp} (Pv:Nat->St->Hp->Prop) (h0:Pv 0 σ H)
  (hs:∀ i σ H,i < n->Pv i σ H->g (.int (lo + i)) σ H fun σ2 H2=>tb { D with nx:=Pv (i + 1),ct:=Pv (i + 1),bk:=D.nx } σ2 H2) (hd:∀ σ H,Pv n σ H->D.nx σ H) :
  ∃ W:Nat->Nat->St->Hp->Prop,(∃ m,W 0 m σ H)/\∀ i m σ H,W i m σ H ->
   ((Itr lo n).stop i H/\D.nx σ H)\/((Itr lo n).go i H/\∃ N:St->Hp->Prop,(∀ σ' H',N σ' H'->∃ m',m' < m/\W (i + 1) m' σ' H')/\∀ x H',(Itr lo n).yld i H x H'->g x σ H' fun σ2 H2=>tb { D with nx:=N,ct:=N,bk:=D.nx } σ2 H2):=by
 refine ⟨fun i m σ H=>m=n - i/\i<=n/\Pv i σ H,⟨n,by simp,Nat.zero_le _,h0⟩,?_⟩
 rintro i m σ H ⟨rfl,hi,p⟩
 by_cases hlt:i < n
 ·refine .inr ⟨hlt,Pv (i + 1),fun σ' H' p'=>⟨n - (i + 1),by omega,rfl,hlt,p'⟩,fun x H' y=>?_⟩
  obtain ⟨e,y⟩:=y
  subst e y
  exact hs i σ _ hlt p
 ·have e:i=n:=by omega
  subst e
  exact .inl ⟨Nat.le_refl _,hd σ H p⟩
abbrev R2:=V->V->Hp->VK->Prop
def OpR (X:Cx) (f:Value->Value->Sem Value) (r:R2):Prop :=
 ∀ (pins:List (Addr×Obj)) (s:Shared) (σ:St) (H:Hp) (x y:V) (v u:Value) (Q:VK),Inv X pins σ H s->RelV x v->RelV y u->r x y H Q ->
  wpAny (model X.prog X.w) X.A (f v u) (EP X pins σ Q) X.xe s
def UnR (X:Cx) (f:Value->Sem Value) (r:V->Hp->VK->Prop):Prop :=
 ∀ (pins:List (Addr×Obj)) (s:Shared) (σ:St) (H:Hp) (x:V) (v:Value) (Q:VK),Inv X pins σ H s->RelV x v->r x H Q ->
  wpAny (model X.prog X.w) X.A (f v) (EP X pins σ Q) X.xe s
def CallR (X:Cx) (f:Value) (r:List V->Hp->VK->Prop):Prop :=
 ∀ (pins:List (Addr×Obj)) (s:Shared) (σ:St) (H:Hp) (xs:List V) (us:List Value) (Q:VK),Inv X pins σ H s->Vals xs us->r xs H Q ->
  wpAny (model X.prog X.w) X.A (call f us) (EP X pins σ Q) X.xe s
def tOp (r:R2) (ta tb:TE):TE:=fun σ H Q=>ta σ H fun x H1=>tb σ H1 fun y H2=>r x y H2 Q
def tUn (r:V->Hp->VK->Prop) (ta:TE):TE:=fun σ H Q=>ta σ H fun x H1=>r x H1 Q
def rI (C:Int->Int->Prop) (g:Int->Int->V):R2:=fun x y H Q=>∃ i j,x=.int i/\y=.int j/\C i j/\Q (g i j) H
def rI0 (g:Int->Int->V):R2:=fun x y H Q=>∃ i j,x=.int i/\y=.int j/\Q (g i j) H
def rU (g:Int->V):V->Hp->VK->Prop:=fun x H Q=>∃ i,x=.int i/\Q (g i) H
section
variable {X:Cx} {a b:Expr} {ta tb:TE} {pos:Pos}
def binT (ha:PE X a ta) (hb:PE X b tb) {pins:List (Addr×Obj)} {s:Shared} {σ:St} {H:Hp} {R:V->V->Hp->Prop} (I:Inv X pins σ H s)
  (h:ta σ H fun x H1=>tb σ H1 fun y H2=>R x y H2) {Q:Value->Shared->Prop} {f:Value->Value->Sem Value}
  (hf:∀ v u s2 x y H2,Inv X pins σ H2 s2->RelV x v->RelV y u->R x y H2->wpAny (model X.prog X.w) X.A (f v u) Q X.xe s2) :
  wpAny (model X.prog X.w) X.A (eval a X.env) (fun v s₁=>wpAny (model X.prog X.w) X.A (eval b X.env) (fun u s₂=>wpAny (model X.prog X.w) X.A (f v u) Q X.xe s₂) X.xe s₁) X.xe s:=by
 refine thn (ha pins s σ H _ I h) fun v s1 ⟨x,H1,I1,r1,q1⟩=>?_
 refine thn (hb pins s1 σ H1 _ I1 q1) fun u s2 ⟨y,H2,I2,r2,q2⟩=>?_
 exact hf v u s2 x y H2 I2 r1 r2 q2
def pe_op {op:Operator} {r:R2} (ho:OpR X (binaryOp op) r) (ha:PE X a ta) (hb:PE X b tb):PE X (.BinOp a op b pos) (tOp r ta tb):=by
 intro pins s σ H Q I h
 exact wpAny_BinOp (binT ha hb I h fun v u s2 x y H2 I2 rx ry q=>ho pins s2 σ H2 x y v u Q I2 rx ry q)
def pe_un {op:UnaryOp} {r:V->Hp->VK->Prop} (ho:UnR X (unaryOp op) r) (ha:PE X a ta):PE X (.UnaryOp op a pos) (tUn r ta):=by
 intro pins s σ H Q I h
 exact UnaryOp_ (thn (ha pins s σ H _ I h) fun v s1 ⟨x,H1,I1,r1,q1⟩=>ho pins s1 σ H1 x v Q I1 r1 q1)
def opI {f:Value->Value->Sem Value} {C:Int->Int->Prop} {g:Int->Int->Int}
  (rule:∀ (i j:Int) (t u:Tok) (s:Shared) (Q:Value->Shared->Prop) (E:Value->Shared->Prop),C i j->Q (.int (g i j) s.toks) { s with toks:=s.toks + 1 }->wpAny (model X.prog X.w) X.A (f (.int i t) (.int j u)) Q E s) :
  OpR X f (rI C fun i j=>.int (g i j)):=by
 intro pins s σ H x y v u Q I rx ry h
 obtain ⟨i,j,rfl,rfl,hc,q⟩:=h
 obtain ⟨t,rfl⟩:=rx
 obtain ⟨t',rfl⟩:=ry
 exact rule i j t t' s _ _ hc ⟨.int (g i j),H,I.tok _,⟨_,rfl⟩,q⟩
def opI0 {f:Value->Value->Sem Value} {g:Int->Int->Int}
  (rule:∀ (i j:Int) (t u:Tok) (s:Shared) (Q:Value->Shared->Prop) (E:Value->Shared->Prop),Q (.int (g i j) s.toks) { s with toks:=s.toks + 1 }->wpAny (model X.prog X.w) X.A (f (.int i t) (.int j u)) Q E s) :
  OpR X f (rI0 fun i j=>.int (g i j)):=by
 intro pins s σ H x y v u Q I rx ry h
 obtain ⟨i,j,rfl,rfl,q⟩:=h
 obtain ⟨t,rfl⟩:=rx
 obtain ⟨t',rfl⟩:=ry
 exact rule i j t t' s _ _ ⟨.int (g i j),H,I.tok _,⟨_,rfl⟩,q⟩
def opB0 {f:Value->Value->Sem Value} {g:Int->Int->Bool}
  (rule:∀ (i j:Int) (t u:Tok) (s:Shared) (Q:Value->Shared->Prop) (E:Value->Shared->Prop),Q (.bool (g i j)) s->wpAny (model X.prog X.w) X.A (f (.int i t) (.int j u)) Q E s) :
  OpR X f (rI0 fun i j=>.bl (g i j)):=by
 intro pins s σ H x y v u Q I rx ry h
 obtain ⟨i,j,rfl,rfl,q⟩:=h
 obtain ⟨t,rfl⟩:=rx
 obtain ⟨t',rfl⟩:=ry
 exact rule i j t t' s _ _ ⟨.bl (g i j),H,I,rfl,q⟩
def CDiv (i j:Int):Prop:=0 < j/\j < 1073741824
def CPow (i j:Int):Prop:=0<=j/\j<=1000000/\i.natAbs < 2 ^ 64
def CMul (i j:Int):Prop:=(-(2 ^ 64) < i/\i < 2 ^ 64)\/(-(2 ^ 64) < j/\j < 2 ^ 64)
def CMul.ok {i j:Int} (h:CMul i j):IntMulOk i j:=by
 rcases h with ⟨h1,h2⟩ | ⟨h1,h2⟩
 ·exact .of_left (intBits_le_64 h1 h2)
 ·exact .of_right (intBits_le_64 h1 h2)
def op_add:OpR X (binaryOp .Add) (rI0 fun i j=>.int (i + j)):=opI0 fun _ _ _ _ _ _ _ q=>add_int q
def op_sub:OpR X (binaryOp .Sub) (rI0 fun i j=>.int (i - j)):=opI0 fun _ _ _ _ _ _ _ q=>sub_int q
def op_mul:OpR X (binaryOp .Mult) (rI CMul fun i j=>.int (i * j)):=opI fun _ _ _ _ _ _ _ hc q=>mul_int q hc.ok
theorem op_fdiv:OpR X (binaryOp .FloorDiv) (rI CDiv fun i j=>.int (i / j)):=opI fun i j _ _ _ _ _ hc q=>by
 have h1:(0:Int) < j:=hc.1
 have h2:j < 1073741824:=hc.2
 exact floordiv_int (by omega) (by rw [Int.fdiv_eq_ediv_of_nonneg i (by omega)]; exact q) (.inl (PyProof.noPylong_small (by omega)))
theorem op_mod:OpR X (binaryOp .Mod) (rI (fun _ j=>0 < j) fun i j=>.int (i % j)):=opI fun i j _ _ _ _ _ hc q=>by
 have h1:(0:Int) < j:=hc
 exact mod_int' (by omega) (by rw [Int.fmod_eq_emod_of_nonneg i (by omega)]; exact q)
def op_pow:OpR X (binaryOp .Pow) (rI CPow fun i j=>.int (i ^ j.toNat)):=opI fun _ _ _ _ _ _ _ hc q=>pow_int_small hc.1 hc.2.1 hc.2.2 q
def unI {f:Value->Sem Value} {g:Int->Int}
  (rule:∀ (i:Int) (t:Tok) (s:Shared) (Q:Value->Shared->Prop) (E:Value->Shared->Prop),Q (.int (g i) s.toks) { s with toks:=s.toks + 1 }->wpAny (model X.prog X.w) X.A (f (.int i t)) Q E s) :
  UnR X f (rU fun i=>.int (g i)):=by
 intro pins s σ H x v Q I rx h
 obtain ⟨i,rfl,q⟩:=h
 obtain ⟨t,rfl⟩:=rx
 exact rule i t s _ _ ⟨.int (g i),H,I.tok _,⟨_,rfl⟩,q⟩
def un_neg:UnR X (unaryOp .USub) (rU fun i=>.int (-i)):=unI fun _ _ _ _ _ q=>neg_int q
end
def scal:V->V->Bool
 | .non,.non=>true | .non,.int _=>true | .int _,.non=>true | .non,.bl _=>true | .bl _,.non=>true | .non,.str _=>true | .str _,.non=>true
 | .int _,.int _=>true | .bl _,.bl _=>true | .str _,.str _=>true | .byt _,.byt _=>true
 | .int _,.str _=>true | .str _,.int _=>true | .bl _,.str _=>true | .str _,.bl _=>true
 | _,_=>false
def rEq:R2:=fun x y H Q=>scal x y=true/\Q (.bl (decide (x=y))) H
def rNe:R2:=fun x y H Q=>scal x y=true/\Q (.bl (!decide (x=y))) H
def dec_int {i j:Int}:decide (V.int i=V.int j)=(i == j):=by
 rw [Bool.eq_iff_iff]
 simp
def dec_bl {i j:Bool}:decide (V.bl i=V.bl j)=(i == j):=by
 rw [Bool.eq_iff_iff]
 simp
def dec_str {i j:Str}:decide (V.str i=V.str j)=(i == j):=by
 rw [Bool.eq_iff_iff]
 simp
def dec_byt {i j:Array UInt8}:decide (V.byt i=V.byt j)=(i.toList == j.toList):=by
 rw [Bool.eq_iff_iff]
 cases i
 cases j
 simp
section
variable {X:Cx} {a b c:Expr} {ta tb:TE} {pos:Pos}
def fin_bl {pins:List (Addr×Obj)} {σ:St} {H:Hp} {s:Shared} {Q:VK} {k k':Bool} (I:Inv X pins σ H s) (q:Q (.bl k) H) (e:k=k'):EP X pins σ Q (.bool k') s:=by
 subst e
 exact ⟨.bl k,H,I,rfl,q⟩
theorem op_eq:OpR X (compareOp .Eq) rEq:=by
 intro pins s σ H x y v u Q I rx ry h
 obtain ⟨hs,q⟩:=h
 cases x with
 | non =>
  cases rx
  cases y with
  | non=>cases ry; exact PySem.EqNone.eq_none_none (fin_bl I q (by simp))
  | bl j=>cases ry; exact PySem.EqNone.eq_none_bool (fin_bl I q (by simp))
  | int j=>obtain ⟨t',rfl⟩:=ry; exact PySem.EqNone.eq_none_int (fin_bl I q (by simp))
  | str j=>obtain ⟨t',rfl⟩:=ry; exact PySem.EqNone.eq_none_str (fin_bl I q (by simp))
  | _=>exact absurd (show false=true from hs) Bool.false_ne_true
 | bl i =>
  cases rx
  cases y with
  | non=>cases ry; exact PySem.EqNone.eq_bool_none (fin_bl I q (by simp))
  | bl j=>cases ry; exact eq_bool (fin_bl I q dec_bl)
  | str j=>obtain ⟨t',rfl⟩:=ry; exact PySem.EqMixed.eq_bool_str (fin_bl I q (by simp))
  | _=>exact absurd (show false=true from hs) Bool.false_ne_true
 | int i =>
  obtain ⟨t,rfl⟩:=rx
  cases y with
  | non=>cases ry; exact PySem.EqNone.eq_int_none (fin_bl I q (by simp))
  | int j=>obtain ⟨t',rfl⟩:=ry; exact eq_int (fin_bl I q dec_int)
  | str j=>obtain ⟨t',rfl⟩:=ry; exact PySem.EqMixed.eq_int_str (fin_bl I q (by simp))
  | _=>exact absurd (show false=true from hs) Bool.false_ne_true
 | str i =>
  obtain ⟨t,rfl⟩:=rx
  cases y with
  | non=>cases ry; exact PySem.EqNone.eq_str_none (fin_bl I q (by simp))
  | bl j=>cases ry; exact PySem.EqMixed.eq_str_bool (fin_bl I q (by simp))
  | int j=>obtain ⟨t',rfl⟩:=ry; exact PySem.EqMixed.eq_str_int (fin_bl I q (by simp))
  | str j=>obtain ⟨t',rfl⟩:=ry; exact eq_str (fin_bl I q dec_str)
  | _=>exact absurd (show false=true from hs) Bool.false_ne_true
 | byt i =>
  obtain ⟨t,rfl⟩:=rx
  cases y with
  | byt j=>obtain ⟨t',rfl⟩:=ry; exact W.eq_bytes (fin_bl I q dec_byt)
  | _=>exact absurd (show false=true from hs) Bool.false_ne_true
 | _=>cases y <;> exact absurd (show false=true from hs) Bool.false_ne_true
theorem op_ne:OpR X (compareOp .NotEq) rNe:=by
 intro pins s σ H x y v u Q I rx ry h
 obtain ⟨hs,q⟩:=h
 cases x with
 | non =>
  cases rx
  cases y with
  | non=>cases ry; exact PySem.EqNone.ne_none_none (fin_bl I q (by simp))
  | bl j=>cases ry; exact PySem.EqNone.ne_none_bool (fin_bl I q (by simp))
  | int j=>obtain ⟨t',rfl⟩:=ry; exact PySem.EqNone.ne_none_int (fin_bl I q (by simp))
  | str j=>obtain ⟨t',rfl⟩:=ry; exact PySem.EqNone.ne_none_str (fin_bl I q (by simp))
  | _=>exact absurd (show false=true from hs) Bool.false_ne_true
 | bl i =>
  cases rx
  cases y with
  | non=>cases ry; exact PySem.EqNone.ne_bool_none (fin_bl I q (by simp))
  | bl j=>cases ry; exact ne_bool (fin_bl I q (congrArg not dec_bl))
  | str j=>obtain ⟨t',rfl⟩:=ry; exact PySem.EqMixed.ne_bool_str (fin_bl I q (by simp))
  | _=>exact absurd (show false=true from hs) Bool.false_ne_true
 | int i =>
  obtain ⟨t,rfl⟩:=rx
  cases y with
  | non=>cases ry; exact PySem.EqNone.ne_int_none (fin_bl I q (by simp))
  | int j=>obtain ⟨t',rfl⟩:=ry; exact ne_int (fin_bl I q (congrArg not dec_int))
  | str j=>obtain ⟨t',rfl⟩:=ry; exact PySem.EqMixed.ne_int_str (fin_bl I q (by simp))
  | _=>exact absurd (show false=true from hs) Bool.false_ne_true
 | str i =>
  obtain ⟨t,rfl⟩:=rx
  cases y with
  | non=>cases ry; exact PySem.EqNone.ne_str_none (fin_bl I q (by simp))
  | bl j=>cases ry; exact PySem.EqMixed.ne_str_bool (fin_bl I q (by simp))
  | int j=>obtain ⟨t',rfl⟩:=ry; exact PySem.EqMixed.ne_str_int (fin_bl I q (by simp))
  | str j=>obtain ⟨t',rfl⟩:=ry; exact ne_str (fin_bl I q (congrArg not dec_str))
  | _=>exact absurd (show false=true from hs) Bool.false_ne_true
 | byt i =>
  obtain ⟨t,rfl⟩:=rx
  cases y with
  | byt j=>obtain ⟨t',rfl⟩:=ry; exact W.ne_bytes (fin_bl I q (congrArg not dec_byt))
  | _=>exact absurd (show false=true from hs) Bool.false_ne_true
 | _=>cases y <;> exact absurd (show false=true from hs) Bool.false_ne_true
def op_lt:OpR X (compareOp .Lt) (rI0 fun i j=>.bl (decide (i < j))):=opB0 fun _ _ _ _ _ _ _ q=>lt_int q
def op_gt:OpR X (compareOp .Gt) (rI0 fun i j=>.bl (decide (j < i))):=opB0 fun _ _ _ _ _ _ _ q=>gt_int q
def op_ge:OpR X (compareOp .GtE) (rI0 fun i j=>.bl (decide (j<=i))):=opB0 fun _ _ _ _ _ _ _ q=>ge_int q
def nomark (b:Expr) {op:CmpOp} (h:op≠.In:=by decide) (h2:op≠.NotIn:=by decide):behindInMarks op b=false:=by
 have e1:(op == CmpOp.In)=false:=by cases op <;> first | rfl | exact absurd rfl h
 have e2:(op == CmpOp.NotIn)=false:=by cases op <;> first | rfl | exact absurd rfl h2
 cases b <;> simp [behindInMarks,e1,e2]
def pe_cmpR {op:CmpOp} {r:R2} (ho:OpR X (compareOp op) r) (ha:PE X a ta) (hb:PE X b tb) (hm:behindInMarks op b=false):PE X (.Compare a [op] [b] pos) (tOp r ta tb):=by
 intro pins s σ H Q I h
 exact wpAny_Compare1 (binT ha hb I h fun v u s2 x y H2 I2 rx ry q=>ho pins s2 σ H2 x y v u Q I2 rx ry q) hm
def tTest (t:TE):TT:=fun σ H Q=>t σ H fun x H'=>∃ k,x=.bl k/\Q k H'
def pt_cmpR {op:CmpOp} {r:R2} (ho:OpR X (compareOp op) r) (ha:PE X a ta) (hb:PE X b tb) (hm:behindInMarks op b=false):PT X (.Compare a [op] [b] pos) (tTest (tOp r ta tb)):=by
 intro pins s σ H Q I h
 refine wpAny_isTrue_Compare1 (thn (ha pins s σ H _ I h) fun v s1 ⟨x,H1,I1,r1,q1⟩=>thn (hb pins s1 σ H1 _ I1 q1) fun u s2 ⟨y,H2,I2,r2,q2⟩ =>
  thn (ho pins s2 σ H2 x y v u _ I2 r1 r2 q2) fun c s3 ⟨z,H3,I3,r3,k,e,q3⟩=>?_) hm
 subst e
 cases r3
 exact wpAny_truthy_bool ⟨H3,I3,q3⟩
def line63:(sizeLine:Nat) < 2 ^ 63:=by rw [sizeLine_eq]; decide
def op_add_str:OpR X (binaryOp .Add) (fun x y H Q=>∃ i j,x=.str i/\y=.str j/\i.length + j.length<=sizeLine/\Q (.str (i++j)) H):=by
 intro pins s σ H x y v u Q I rx ry h
 obtain ⟨i,j,rfl,rfl,hz,q⟩:=h
 obtain ⟨t,rfl⟩:=rx
 obtain ⟨t',rfl⟩:=ry
 exact add_str (fun t' tk=>⟨.str (i++j),H,I.tok _,⟨_,rfl⟩,q⟩) hz
theorem vals1 {x:V} {us:List Value} (r:Vals [x] us):∃ u,us=[u]/\RelV x u:=by
 cases r with
 | cons r1 r2=>cases r2; exact ⟨_,rfl,r1⟩
theorem vals2 {x y:V} {us:List Value} (r:Vals [x,y] us):∃ u w',us=[u,w']/\RelV x u/\RelV y w':=by
 cases r with
 | cons r1 r2 =>
  cases r2 with
  | cons r3 r4=>cases r4; exact ⟨_,_,rfl,r1,r3⟩
def call_abs:CallR X (.builtin "abs") (fun xs H Q=>∃ i,xs=[.int i]/\Q (.int (if i < 0 then -i else i)) H):=by
 intro pins s σ H xs us Q I r h
 obtain ⟨i,rfl,q⟩:=h
 obtain ⟨u,rfl,t,rfl⟩:=vals1 r
 exact call_abs_int fun u tk=>⟨.int (if i < 0 then -i else i),H,I.tok _,⟨_,rfl⟩,q⟩
def call_max2 (hc:X.calm=true):CallR X (.builtin "max") (fun xs H Q=>∃ i j,xs=[.int i,.int j]/\Q (.int (if j > i then j else i)) H):=by
 intro pins s σ H xs us Q I r h
 obtain ⟨i,j,rfl,q⟩:=h
 obtain ⟨u,w',rfl,⟨t,rfl⟩,⟨t',rfl⟩⟩:=vals2 r
 refine max_two_ints (I.ok.hd hc) fun h' tk k=>⟨_,H,I.kept k,?_,q⟩
 by_cases hj:j > i
 ·rw [if_pos hj,if_pos hj]; exact ⟨_,rfl⟩
 ·rw [if_neg hj,if_neg hj]; exact ⟨_,rfl⟩
def call_min2 (hc:X.calm=true):CallR X (.builtin "min") (fun xs H Q=>∃ i j,xs=[.int i,.int j]/\Q (.int (if j < i then j else i)) H):=by
 intro pins s σ H xs us Q I r h
 obtain ⟨i,j,rfl,q⟩:=h
 obtain ⟨u,w',rfl,⟨t,rfl⟩,⟨t',rfl⟩⟩:=vals2 r
 refine min_two_ints (I.ok.hd hc) fun h' tk k=>⟨_,H,I.kept k,?_,q⟩
 by_cases hj:j < i
 ·rw [if_pos hj,if_pos hj]; exact ⟨_,rfl⟩
 ·rw [if_neg hj,if_neg hj]; exact ⟨_,rfl⟩
def call_int1:CallR X (.type "int") (fun xs H Q=>(∃ i,xs=[.int i]/\Q (.int i) H)\/∃ k,xs=[.bl k]/\Q (.int (if k then 1 else 0)) H):=by
 intro pins s σ H xs us Q I r h
 rcases h with ⟨i,rfl,q⟩ | ⟨k,rfl,q⟩
 ·obtain ⟨u,rfl,t,rfl⟩:=vals1 r
  exact call_int_int ⟨.int i,H,I,⟨_,rfl⟩,q⟩
 ·obtain ⟨u,rfl,r1⟩:=vals1 r
  cases r1
  exact call_int_bool ⟨.int (if k then 1 else 0),H,I.tok _,⟨_,rfl⟩,q⟩
def LenV (K:W.Frag) (x:V) (H:Hp) (n:Nat):Prop :=
 match x with
 | .str y=>y.length<=sizeLine/\n=y.length
 | .byt y=>y.size<=sizeLine/\n=y.size
 | .ref p=>(∃ xs,SqL K H p xs/\n=xs.length)\/∃ xs,SqT K H p xs/\n=xs.length
 | _=>False
theorem call_len:CallR X (.builtin "len") (fun xs H Q=>∃ x n,xs=[x]/\LenV X.K x H n/\Q (.int n) H):=by
 intro pins s σ H xs us Q I r h
 obtain ⟨x,n,rfl,e,q⟩:=h
 obtain ⟨u,rfl,rx⟩:=vals1 r
 have hl:=line63
 have hs:sizeLine=16777216:=sizeLine_eq
 cases x with
 | str y =>
  obtain ⟨t,rfl⟩:=rx
  obtain ⟨hy,e'⟩:y.length<=sizeLine/\n=y.length:=e
  subst e'
  exact len_str (by omega) ⟨.int _,H,I.tok _,⟨_,rfl⟩,q⟩
 | byt y =>
  obtain ⟨t,rfl⟩:=rx
  obtain ⟨hy,e'⟩:y.size<=sizeLine/\n=y.size:=e
  subst e'
  exact W.len_bytes (by omega) ⟨.int _,H,I.tok _,⟨_,rfl⟩,q⟩
 | ref p =>
  cases rx
  have e':(∃ xs,SqL X.K H p xs/\n=xs.length)\/∃ xs,SqT X.K H p xs/\n=xs.length:=e
  rcases e' with ⟨xs,hx,e'⟩ | ⟨xs,hx,e'⟩
  ·subst e'
   obtain ⟨its,r',pl,hz⟩:=I.list hx
   have hlen:=r'.length
   exact Calls.call_len_list pl.isList (by simp only [List.size_toArray]; omega) ⟨.int xs.length,H,I.tok _,⟨_,by simp only [List.size_toArray]; rw [hlen]⟩,q⟩
  ·subst e'
   obtain ⟨its,r',pl,hz⟩:=I.tuple hx
   have hlen:=r'.length
   exact len_tuple pl (by simp only [List.size_toArray]; omega) ⟨.int xs.length,H,I.tok _,⟨_,by simp only [List.size_toArray]; rw [hlen]⟩,q⟩
 | _=>exact (show False from e).elim
end
structure Room (k:Nat) (A:Around):Prop where
 hd:A.handled=none
 dp:A.depth + 3 * k + 5 < recursionLimit
 un:A.units + 16 * k + 200 < cLine
theorem Room.mono {j k:Nat} {A:Around} (r:Room k A) (h:j<=k):Room j A:=⟨r.hd,by have:=r.dp; omega,by have:=r.un; omega⟩
theorem Room.deeper {k:Nat} {A:Around} (r:Room (k + 1) A) (env:Env):Room k (A.deeper env) :=
 ⟨r.hd,by have:=r.dp; show A.depth + 1 + 3 * k + 5 < _; omega,by have:=r.un; show A.units + 3 + 16 * k + 200 < _; omega⟩
theorem Room.depth {k:Nat} {A:Around} (r:Room k A):A.depth < recursionLimit:=by have:=r.dp; omega
theorem Room.units {k:Nat} {A:Around} (r:Room k A):A.units + 64 < cLine:=by have:=r.un; omega
def tNil:TA:=fun _ H Q=>Q [] H
def tCons (ta:TE) (tr:TA):TA:=fun σ H Q=>ta σ H fun x H1=>tr σ H1 fun xs H2=>Q (x::xs) H2
section
variable {X:Cx} {e:Expr} {es:List Expr} {te:TE} {t:TA} {pos:Pos}
def pa_nil:PA X [] tNil:=fun _ _ _ _ H Q I h=>Calls.spliced_nil ⟨[],H,I,.nil,h⟩
def pa_cons (ha:PE X e te) (hr:PA X es t) (hs:starEach (e::es) X.env=(false,eval e X.env)::starEach es X.env:=by rfl):PA X (e::es) (tCons te t):=by
 intro pos pins s σ H Q I h
 rw [hs]
 show wpAny _ _ (spliced ((false,eval e X.env)::backTo pos (starEach es X.env))) _ _ s
 refine Calls.spliced_cons (thn (ha pins s σ H _ I h) fun u s1 ⟨x,H1,I1,r1,q1⟩=>?_)
 exact thn (hr pos pins s1 σ H1 _ I1 q1) fun us s2 ⟨xs,H2,I2,r2,q2⟩=>⟨x::xs,H2,I2,.cons r1 r2,q2⟩
def tTup (t:TA):TE:=fun σ H Q=>t σ H fun xs H1=>xs.length<=sizeLine/\∀ p,H1 p=none->Q (.ref p) (upd H1 p (.tup xs))
def tLst (t:TA):TE:=fun σ H Q=>t σ H fun xs H1=>xs.length<=sizeLine/\∀ p,H1 p=none->Q (.ref p) (upd H1 p (.lst xs))
def pe_tup {x1} (h:PA X es t):PE X (.Tuple es x1 pos) (tTup t):=by
 intro pins s σ H Q I hq
 refine wpAny_Tuple_spliced (thn (h pos pins s σ H _ I hq) fun us s1 ⟨xs,H1,I1,r,z,q⟩=>⟨by rw [<- r.length]; exact z,?_⟩)
 have hf:H1 s1.heap.objs.size=none:=I1.hok.fresh (Nat.le_refl _)
 refine ⟨.ref s1.heap.objs.size,upd H1 s1.heap.objs.size (.tup xs),I1.laid (t':=s1.toks) (fun b u e=>Heap.get?_push_of_some _ e) (Nat.le_refl _) ?_,rfl,q _ hf⟩
 exact ⟨z,us,r,⟨_,Heap.get?_push_size _ rfl,rfl,_,rfl,rfl⟩⟩
def pe_lst (h:PA X es t):PE X (.List es pos) (tLst t):=by
 intro pins s σ H Q I hq
 refine wpAny_List_spliced (thn (h pos pins s σ H _ I hq) fun us s1 ⟨xs,H1,I1,r,z,q⟩=>⟨by rw [<- r.length]; exact z,?_⟩)
 have hf:H1 s1.heap.objs.size=none:=I1.hok.fresh (Nat.le_refl _)
 refine ⟨.ref s1.heap.objs.size,upd H1 s1.heap.objs.size (.lst xs),I1.laid (t':=s1.toks) (fun b u e=>Heap.get?_push_of_some _ e) (Nat.le_refl _) ?_,rfl,q _ hf⟩
 exact ⟨z,us,0,r,Heap.get?_push_size _ rfl⟩
end
abbrev Sp:=List V->Hp->VK->XK->Prop
abbrev CXT:=List Env->Hp->Shared->XK->Value->Shared->Prop
structure Env0 (P:Program) (w:World) (K:W.Frag) (mg:Str->Option Value) (base:Heap) (A:Around) (outer:List Env) (s:Shared) (H:Hp):Prop where
 frames:A.frames=some outer
 mod:Mod K mg base
 bs:∀ b o,base.get? b=some o->s.heap.get? b=some o/\H b=none
 bsz:base.objs.size<=s.heap.objs.size
 funs:s.heap.FunFrames base outer
 frf:∀ b∈frs outer,H b=none
 hok:HOk P w H s.heap
 bare:AllBare s.gens
def CE (outer:List Env) (P:Program) (w:World) (H:Hp) (s:Shared) (Q:VK) (u:Value) (s':Shared):Prop :=
 ∃ v H',s'.os=s.os/\AllBare s'.gens/\Un (frs outer) [] H H' s.heap s'.heap/\HOk P w H' s'.heap/\RelV v u/\Q v H'
def CR (CX:CXT) (outer:List Env) (P:Program) (w:World) (H:Hp) (s:Shared) (Q:VK) (E:XK) (r:Result) (s':Shared):Prop :=
 match r with
 | .ok (.ret u)=>CE outer P w H s Q u s'
 | .ok _=>False
 | .error e=>CX outer H s E e s'
structure FnOk (P:Program) (w:World) (K:W.Frag) (mg:Str->Option Value) (base:Heap) (CX:CXT) (k:Nat) (f:Addr) (fd:FuncData) (ps:List Str) (sp:Sp):Prop where
 len:∀ vs H Q E,sp vs H Q E->vs.length=ps.length
 run:∀ (A:Around) (outer:List Env) (s:Shared) (H:Hp) (args:Args) (us:List Value) (vs:List V) (Q:VK) (E:XK),Room k A->Env0 P w K mg base A outer s H->BindsTo s fd args (ps.zip us)->Vals vs us->sp vs H Q E ->
  codeAny (model P w) A (.call (.ref f) args) (CR CX outer P w H s Q E) s
def FnOk.imp {P:Program} {w:World} {K:W.Frag} {mg:Str->Option Value} {base:Heap} {CX:CXT} {k:Nat} {f:Addr} {fd:FuncData} {ps:List Str} {sp sp':Sp} (F:FnOk P w K mg base CX k f fd ps sp)
  (h:∀ vs H Q E,sp' vs H Q E->sp vs H Q E):FnOk P w K mg base CX k f fd ps sp' :=
 ⟨fun vs H Q E q=>F.len vs H Q E (h _ _ _ _ q),fun A outer s H args us vs Q E hr he hb hv hs=>F.run A outer s H args us vs Q E hr he hb hv (h _ _ _ _ hs)⟩
section
variable {X:Cx} {pins:List (Addr×Obj)} {σ:St} {H:Hp} {s s':Shared}
def Inv.env0 (I:Inv X pins σ H s):Env0 X.prog X.w X.K X.mg X.base X.A X.stack s H :=
 ⟨I.ok.frames,I.ok.mod,I.bs,Nat.le_trans I.ok.bsz I.sz,I.stack,I.stkFree,I.hok,I.bare⟩
def Inv.after {Q:VK} {u:Value} (I:Inv X pins σ H s) (h:CE X.stack X.prog X.w H s Q u s'):EP X pins σ Q u s':=by
 obtain ⟨v,H',os,bare,un,hok,r,q⟩:=h
 obtain ⟨hh,g,d,t,os'⟩:=s'
 obtain rfl:os'=s.os:=os
 exact ⟨v,H',I.call (h':=hh) (g':=g) (d':=d) (t':=t) (ch:=[]) un hok bare (fun b z=>absurd z (by simp)),r,q⟩
end
def tCall (sp:Sp) (dvs:List V) (E:XK) (t:TA):TE:=fun σ H Q=>t σ H fun vs H1=>sp (vs++dvs) H1 Q E
def Binds (K:W.Frag) (fd:FuncData) (ps:List Str) (ds:List Value):Prop :=
 ∀ (s:Shared) (us:List Value),K.In s.heap->(us++ds).length=ps.length->BindsTo s fd ⟨us,[]⟩ (ps.zip (us++ds))
def Binds.all {K:W.Frag} {fd:FuncData} {ps:List Str} (h:∀ us:List Value,us.length=ps.length->bindArgs fd ⟨us,[]⟩=pure (ps.zip us)):Binds K fd ps []:=fun s us _ hl=>by
 rw [List.append_nil] at hl ⊢
 exact .of_eq (h us hl)
def Passes (CX:CXT) (X:Cx) (E:XK):Prop:=∀ (pins:List (Addr×Obj)) (σ:St) (H:Hp) (s:Shared) (e:Value) (s':Shared),Inv X pins σ H s->CX X.stack H s E e s'->X.xe e s'
section
variable {X:Cx} {CX:CXT} {k:Nat} {f:Addr} {fd:FuncData} {ps:List Str} {sp:Sp} {dvs:List V} {ds:List Value} {E:XK} {x:Str} {p pos:Pos} {e:Expr} {es:List Expr} {t:TA}
theorem run_fn {pins:List (Addr×Obj)} {σ:St} {H:Hp} {s:Shared} {Q:VK} {us:List Value} {vs:List V} (F:FnOk X.prog X.w X.K X.mg X.base CX k f fd ps sp) (hr:Room k X.A) (hb:Binds X.K fd ps ds) (hd:Vals dvs ds) (hx:Passes CX X E)
  (I:Inv X pins σ H s) (r:Vals vs us) (h:sp (vs++dvs) H Q E):wpAny (model X.prog X.w) X.A (call (.ref f) us) (EP X pins σ Q) X.xe s:=by
 have r2:Vals (vs++dvs) (us++ds):=r.append hd
 have hl:(us++ds).length=ps.length:=by rw [<- r2.length]; exact F.len _ _ _ _ h
 refine wpAny_call (codeAny_mono (F.run X.A X.stack s H ⟨us,[]⟩ (us++ds) (vs++dvs) Q E hr I.env0 (hb s us I.kIn hl) r2 h) fun r s' hq=>?_)
 cases r with
 | error e=>exact hx pins σ H s e s' I hq
 | ok fl =>
  cases fl with
  | ret u=>exact I.after hq
  | next=>exact False.elim hq
  | brk=>exact False.elim hq
  | cont=>exact False.elim hq
def pe_call (F:FnOk X.prog X.w X.K X.mg X.base CX k f fd ps sp) (hr:Room k X.A) (hg:Gl X x) (hm:X.mg x=some (.ref f)) (hk:W.keepIn X.K (.ref f)=true) (hb:Binds X.K fd ps ds) (hd:Vals dvs ds) (hx:Passes CX X E)
  (ha:PA X (e::es) t) (hdb:(x == ("__debug__":Str))=false:=by decide) (he:starEach (e::es) X.env=(false,eval e X.env)::starEach es X.env:=by rfl) (hpl:(backTo pos (starEach es X.env)).any (·.1)=false:=by rfl) :
  PE X (.Call (.Name x p) (e::es) [] pos) (tCall sp dvs E t):=by
 intro pins s σ H Q I h
 refine wpAny_Call_Name_kw (ld_glob I hg hm ?_ hdb)
 refine W.callWith_K (h₀:=X.base) I.ok.mod.kin hk (thn (ha pos pins s σ H _ I h) fun us s1 ⟨vs,H1,I1,r,q⟩=>⟨I1.kIn,?_⟩) he hpl
 exact run_fn F hr hb hd hx I1 r q
end
structure FnScope (N P:List Str) (sc:Scope):Prop where
 kind:sc.kind=.function
 co:sc.isCoroutine=false
 gen:sc.isGenerator=false
 nd:N.Nodup
 pre:N.take P.length=P
 par:∀ x∈P,sc.names.lookup x=some .local\/sc.names.lookup x=some .cell
 nofree:∀ y∈sc.names,y.2≠.free
theorem bindL_out {kindOf:Str->Option NameKind} {x:Str}:∀ {binds:List (Str×Value)} {m:Str->Option Value},(∀ v,(x,v)∉binds)->bindL kindOf binds m x=m x
 | [],_,_=>rfl
 | (n,v)::r,m,h=>by
  unfold bindL
  rw [bindL_out fun w hw=>h w (List.mem_cons_of_mem _ hw)]
  split
  ·have:x≠n:=by rintro rfl; exact h v List.mem_cons_self
   simp [this]
  ·rfl
theorem bindC_out {kindOf:Str->Option NameKind} {x:Str}:∀ {binds:List (Str×Value)} {m:Str->Option Value},(∀ v,(x,v)∉binds)->bindC kindOf binds m x=m x
 | [],_,_=>rfl
 | (n,v)::r,m,h=>by
  unfold bindC
  rw [bindC_out fun w hw=>h w (List.mem_cons_of_mem _ hw)]
  split
  ·rfl
  ·have:x≠n:=by rintro rfl; exact h v List.mem_cons_self
   simp [this]
theorem bindL_get {kindOf:Str->Option NameKind} {x:Str} {v:Value}:∀ {P:List Str} {vs:List Value} {i:Nat} {m:Str->Option Value},P.Nodup->P[i]?=some x->vs[i]?=some v->kindOf x=some .local ->
  bindL kindOf (P.zip vs) m x=some v
 | [],_,_,_,_,h,_,_=>by simp at h
 | _::_,[],_,_,_,_,h,_=>by simp at h
 | p::P,w::vs,0,m,nd,h1,h2,hk=>by
  simp at h1 h2; subst h1; subst h2
  show bindL kindOf ((p,w)::P.zip vs) m p=_
  unfold bindL
  rw [bindL_out fun v hv=>(List.nodup_cons.mp nd).1 (List.of_mem_zip hv).1,if_pos hk]
  simp
 | p::P,w::vs,i + 1,m,nd,h1,h2,hk=>by
  show bindL kindOf ((p,w)::P.zip vs) m x=_
  unfold bindL
  exact bindL_get (i:=i) (List.nodup_cons.mp nd).2 (by simpa using h1) (by simpa using h2) hk
theorem bindC_get {kindOf:Str->Option NameKind} {x:Str} {v:Value}:∀ {P:List Str} {vs:List Value} {i:Nat} {m:Str->Option Value},P.Nodup->P[i]?=some x->vs[i]?=some v->kindOf x≠some .local ->
  bindC kindOf (P.zip vs) m x=some v
 | [],_,_,_,_,h,_,_=>by simp at h
 | _::_,[],_,_,_,_,h,_=>by simp at h
 | p::P,w::vs,0,m,nd,h1,h2,hk=>by
  simp at h1 h2; subst h1; subst h2
  show bindC kindOf ((p,w)::P.zip vs) m p=_
  unfold bindC
  rw [bindC_out fun v hv=>(List.nodup_cons.mp nd).1 (List.of_mem_zip hv).1,if_neg hk]
  simp
 | p::P,w::vs,i + 1,m,nd,h1,h2,hk=>by
  show bindC kindOf ((p,w)::P.zip vs) m x=_
  unfold bindC
  exact bindC_get (i:=i) (List.nodup_cons.mp nd).2 (by simpa using h1) (by simpa using h2) hk
def start (N:List Str) (vs:List V):St:=vs.map some++List.replicate (N.length - vs.length) none
def cxOf (CX:CXT) (P:Program) (w:World) (K:W.Frag) (mg:Str->Option Value) (base:Heap) (N:List Str) (qual:Str) (scope:Scope) (f:Addr) (cd:Value) (A:Around) (outer:List Env) (s:Shared) (H:Hp) (E:XK):Cx where
 prog:=P
 w:=w
 K:=K
 mg:=mg
 base:=base
 A:=A.deeper (envOfC qual scope s.heap.objs.size f cd)
 N:=N
 s₀:=s
 H₀:=H
 env:=envOfC qual scope s.heap.objs.size f cd
 outer:=outer
 stack:=envOfC qual scope s.heap.objs.size f cd::outer
 ex:=[]
 calm:=true
 fn:=fun _=>true
 pn:=[]
 xe:=fun e s'=>wpAny (model P w) (A.deeper (envOfC qual scope s.heap.objs.size f cd)) (leaving (envOfC qual scope s.heap.objs.size f cd) e) (fun _ s''=>CX outer H s E e s'') (fun e' s''=>CX outer H s E e' s'') s'
def cell_has {sc:Scope} {n:Nat} {x:Str} (h:sc.names.lookup x=some .cell):∃ c,(cellsFrom n sc.names []).lookup x=some c:=by
 have q:=W.cellsFrom_some sc.names n [] (.inl h)
 exact Option.isSome_iff_exists.mp q
theorem inv_start {CX:CXT} {P:Program} {w:World} {K:W.Frag} {mg:Str->Option Value} {base:Heap} {N ps:List Str} {qual:Str} {scope:Scope} {f:Addr} {cd:Value} {A:Around} {outer:List Env} {s s1:Shared} {H:Hp} {E:XK} {us:List Value} {vs:List V}
  (S:FnScope N ps scope) (hd:A.handled=none) (e0:Env0 P w K mg base A outer s H) (hl:vs.length=ps.length) (r:Vals vs us)
  (x:InCallC s s.heap.objs.size (bindL (envOfC qual scope s.heap.objs.size f cd).kindOf (ps.zip us) fun _=>none) (cellsFrom (s.heap.objs.size + 1) scope.names []) (bindC (envOfC qual scope s.heap.objs.size f cd).kindOf (ps.zip us) fun _=>none) s1) :
  Inv (cxOf CX P w K mg base N qual scope f cd A outer s H E) [] (start N vs) H s1:=by
 have hpl:ps.length<=N.length:=by have:=congrArg List.length S.pre; rw [List.length_take] at this; omega
 obtain ⟨h1,tk,rfl,hk⟩:=x.done
 have noA:∀ b:Addr,b∉(cxOf CX P w K mg base N qual scope f cd A outer s H E).ex:=fun b z=>absurd (show b∈([]:List Addr) from z) (by simp)
 refine ⟨⟨e0.mod,S.kind,rfl,rfl,Nat.le_refl _,fun y z c h1 h2=>?_,fun y hy=>?_,fun y c _ h=>?_,fun _=>hd,Around.frames_deeper e0.frames,.inr ⟨rfl,rfl⟩,fun b z=>absurd z (noA b),e0.bs,e0.bsz,fun b _ _=>noA b,fun b z=>absurd z (noA b),e0.funs,e0.frf⟩,
  rfl,e0.bare,Un.kept hk,⟨_,x.toInCall.ns,fun i y v h1 h2 h3=>?_⟩,fun y c h=>⟨_,x.cell y c h⟩,e0.hok.fresh (Nat.le_refl _),fun y c h=>?_,fun p hp=>absurd (show p∈([]:List (Addr×Obj)) from hp) (by simp),e0.hok.kept hk,?_⟩
 ·exact name_of_addr x.apart (PySem.mem_of_lookup h1) (PySem.mem_of_lookup h2)
 ·have hy:scope.names.lookup y=some .cell\/scope.names.lookup y=some .free:=hy
  rcases hy with hy | hy
  ·exact cell_has hy
  ·exact absurd rfl (S.nofree _ (PySem.mem_of_lookup hy))
 ·exact Nat.le_of_lt (x.above y c (PySem.mem_of_lookup h))
 ·have hi:i < vs.length:=by
   unfold start at h2
   by_cases hi:i < vs.length
   ·exact hi
   ·rw [List.getElem?_append_right (by simpa using hi)] at h2
    rw [List.getElem?_replicate] at h2
    split at h2 <;> cases h2
  have ha:vs[i]?=some v:=by
   unfold start at h2
   rw [List.getElem?_append_left (by simpa using hi),List.getElem?_map] at h2
   cases e:vs[i]? with
   | none=>rw [e] at h2; cases h2
   | some a=>rw [e] at h2; cases h2; rfl
  obtain ⟨u,hu,rv⟩:=r.get ha
  have hp:ps[i]?=some y:=by
   rw [<- S.pre,List.getElem?_take_of_lt (by omega)]; exact h1
  have ndP:ps.Nodup:=by rw [<- S.pre]; exact S.nd.sublist (List.take_sublist _ _)
  refine ⟨u,rv,?_⟩
  rcases S.par y (List.mem_of_getElem? hp) with k | k
  ·exact .inl ⟨k,bindL_get ndP hp hu k⟩
  ·obtain ⟨c,e⟩:=cell_has (n:=s.heap.objs.size + 1) k
   refine .inr ⟨.inl k,c,e,?_⟩
   have q:=x.cell y c e
   rw [bindC_get ndP hp hu (by show scope.names.lookup y≠_; rw [k]; decide)] at q
   exact q
 ·exact e0.hok.fresh (Nat.le_of_lt (x.above y c (PySem.mem_of_lookup h)))
 ·unfold start
  show _=N.length
  rw [List.length_append,List.length_map,List.length_replicate]
  omega
theorem fn_of {CX:CXT} {P:Program} {w:World} {K:W.Frag} {mg:Str->Option Value} {base:Heap} {k:Nat} {f:Addr} {name qual:Str} {params:Arguments} {body:List Stmt} {scope:Scope} {dV kV doc pm cdv ct oc:Value} {an od:Option Addr}
  {osl:Array (Option Value)} {N ps:List Str} {sp:Sp} (lk:K.lookup f=some ⟨oc,od,.func (W.fnOf name qual params body scope dV kV doc pm an cdv ct),osl⟩) (hcd:W.codeIn K cdv qual=true) (S:FnScope N ps scope)
  (len:∀ vs H Q E,sp vs H Q E->vs.length=ps.length)
  (hbody:∀ (A:Around) (outer:List Env) (s:Shared) (H:Hp) (vs:List V) (Q:VK) (E:XK),Room k (A.deeper (envOfC qual scope s.heap.objs.size f cdv))->sp vs H Q E ->
   ∃ t,PSs (cxOf CX P w K mg base N qual scope f cdv A outer s H E) body t/\t { nx:=fun _ H'=>Q .non H',rt:=Q } (start N vs) H) :
  FnOk P w K mg base CX (k + 1) f (W.fnOf name qual params body scope dV kV doc pm an cdv ct) ps sp:=by
 refine ⟨len,fun A outer s H args us vs Q E hr e0 hb r hsp=>?_⟩
 have hl:=len _ _ _ _ hsp
 have KX:K.In s.heap:=e0.mod.kin.keeps fun b o e=>(e0.bs b o e).1
 have lim:s.heap.NoLimit:=e0.mod.nolimit.keeps fun b o e=>(e0.bs b o e).1
 have hkind:∀ y∈ps.zip us,scope.names.lookup y.1=some .local\/(scope.names.lookup y.1=some .cell/\((cellsFrom (s.heap.objs.size + 1) scope.names []).lookup y.1).isSome=true):=fun ⟨n,v⟩ hy=>by
  rcases S.par n (List.of_mem_zip hy).1 with q | q
  ·exact .inl q
  ·exact .inr ⟨q,W.cellsFrom_some _ _ _ (.inl q)⟩
 refine codeAny_call_function hr.depth (KX _ _ lk) rfl S.co S.gen rfl (W.codeRec_of KX hcd) (hb _ _ _ _ ?_)
 refine wpAny_newFunctionEnv_cells S.kind hkind fun env he s1 x=>?_
 subst he
 refine ⟨lim.keeps x.toInCall.keep,codeAny_func ?_⟩
 obtain ⟨t,ht,hq⟩:=hbody A outer s H vs Q E (hr.deeper _) hsp
 have I:Inv (cxOf CX P w K mg base N qual scope f cdv A outer s H E) [] (start N vs) H s1:=inv_start S hr.hd e0 hl r x
 refine wpAny_mono (ht [] s1 (start N vs) H _ I hq) (fun fl s' hs=>?_) fun e s' hs=>hs
 have fin:∀ {σ':St} {H':Hp} {v:V} {u:Value},Inv (cxOf CX P w K mg base N qual scope f cdv A outer s H E) [] σ' H' s'->RelV v u->Q v H'->CE outer P w H s Q u s' :=
  fun {σ' H' v u} J rv q=>⟨v,H',J.os,J.bare,J.base,J.hok,rv,q⟩
 cases fl with
 | ret u =>
  obtain ⟨v,σ',H',J,rv,q⟩:=hs
  exact fin J rv q
 | next =>
  obtain ⟨σ',H',J,q⟩:=hs
  exact fin (v:=V.non) (u:=Value.none) J rfl q
 | brk =>
  obtain ⟨_,_,_,q⟩:=hs
  exact False.elim q
 | cont =>
  obtain ⟨_,_,_,q⟩:=hs
  exact False.elim q
section
variable {X:Cx} {x:Str} {p pos:Pos} {e:Expr} {es:List Expr} {t:TA} {id T:String} {r:List V->Hp->VK->Prop}
def tCB (r:List V->Hp->VK->Prop) (t:TA):TE:=fun σ H Q=>t σ H fun vs H1=>r vs H1 Q
def pe_callB (hc:CallR X (.builtin id) r) (hg:Gl X x) (hm:X.mg x=none) (hv:bootBuiltins x=some (.builtin id)) (ha:PA X (e::es) t) (hn:x≠"__name__":=by decide) (hdb:(x == ("__debug__":Str))=false:=by decide)
  (he:starEach (e::es) X.env=(false,eval e X.env)::starEach es X.env:=by rfl) (hpl:(backTo pos (starEach es X.env)).any (·.1)=false:=by rfl):PE X (.Call (.Name x p) (e::es) [] pos) (tCB r t):=by
 intro pins s σ H Q I h
 refine wpAny_Call_Name_kw (ld_blt I hg hm hv ?_ hn hdb)
 exact PyProof.Rows.callWith_builtin1 (thn (ha pos pins s σ H _ I h) fun us s1 ⟨vs,H1,I1,r1,q1⟩=>hc pins s1 σ H1 vs us Q I1 r1 q1) he hpl
def pe_callTy (hc:CallR X (.type T) r) (hg:Gl X x) (hm:X.mg x=none) (hv:bootBuiltins x=some (.type T)) (ha:PA X (e::es) t) (hn:x≠"__name__":=by decide) (hdb:(x == ("__debug__":Str))=false:=by decide)
  (he:starEach (e::es) X.env=(false,eval e X.env)::starEach es X.env:=by rfl) (hpl:(backTo pos (starEach es X.env)).any (·.1)=false:=by rfl):PE X (.Call (.Name x p) (e::es) [] pos) (tCB r t):=by
 intro pins s σ H Q I h
 refine wpAny_Call_Name_kw (ld_blt I hg hm hv ?_ hn hdb)
 exact PyProof.Rows.callWith_type1 (thn (ha pos pins s σ H _ I h) fun us s1 ⟨vs,H1,I1,r1,q1⟩=>hc pins s1 σ H1 vs us Q I1 r1 q1) he hpl
end
end L2
namespace HT
open PySem PyProof.Rows
def lexLt:List Int->List Int->Bool
 | [],[]=>false
 | [],_::_=>true
 | _::_,[]=>false
 | x::xs,y::ys=>if x=y then lexLt xs ys else decide (x < y)
def lexLt_cons (x y:Int) (xs ys:List Int):lexLt (x::xs) (y::ys)=if x=y then lexLt xs ys else decide (x < y):=rfl
def lexLt_nil_nil:lexLt [] []=false:=rfl
def lexLt_nil_cons (y:Int) (ys:List Int):lexLt [] (y::ys)=true:=rfl
def lexLt_cons_nil (x:Int) (xs:List Int):lexLt (x::xs) []=false:=rfl
section
variable {prog:Program} {w:World} {A:Around} {E:Value->Shared->Prop} {s:Shared}
def cat_tup {t b:Addr} {vs ws:List Value} {Q:Value->Shared->Prop} (ht:IsTup s.heap t vs.toArray) (hb:IsTup s.heap b ws.toArray) (hv:vs≠[])
  (h1:ws=[]->Q (.ref t) s) (h2:ws≠[]->Q (.ref s.heap.objs.size) { s with heap:=s.heap.push { cls:=.type "tuple",data:=.seq (vs++ws).toArray } })
  (hsz:vs.length + ws.length<=sizeLine):wpAny (model prog w) A (binaryOp .Add (.ref t) (.ref b)) Q E s:=by
 obtain ⟨⟨cls,dd,data,sl⟩,ho,hc,n,hd⟩:=id ht
 obtain ⟨⟨cls2,dd2,data2,sl2⟩,ho2,hc2,n2,hd2⟩:=id hb
 simp only at hc hd hc2 hd2
 subst hc hd hc2 hd2
 have e:vs.toArray++ws.toArray=(vs++ws).toArray:=by simp
 by_cases hw:ws=[]
 ·exact concat_meets ⟨_,ho,rfl⟩ ⟨_,ho2,rfl⟩ noFill_tuple_add seq_tuple_add PySem.F.slot_tuple_add PySem.F.entry_tuple_add (PySem.F.args_tuple_add_2 _ _)
   (tuple_addW1 t b vs.toArray ws.toArray n n2 dd dd2 sl sl2 (by simpa using hv) (by simp [hw])) ⟨ho,ho2,h1 hw⟩
 ·refine concat_meets ⟨_,ho,rfl⟩ ⟨_,ho2,rfl⟩ noFill_tuple_add seq_tuple_add PySem.F.slot_tuple_add PySem.F.entry_tuple_add (PySem.F.args_tuple_add_2 _ _)
   (tuple_addW2 t b vs.toArray ws.toArray n n2 dd dd2 sl sl2 (by simpa using hv) (by simpa using hw) (by rw [List.size_toArray,List.size_toArray]; exact hsz)) ⟨ho,ho2,?_⟩
  rw [e]
  exact h2 hw
def sIx (n d:Nat):Option Int->Nat
 | none=>d
 | some v=>if v < 0 then (v + (n:Int)).toNat else min v.toNat n
def sIx_none (n d:Nat):sIx n d none=d:=rfl
theorem sIx_nat (n d k:Nat):sIx n d (some (k:Int))=min k n:=by
 show (if (k:Int) < 0 then ((k:Int) + (n:Int)).toNat else min (k:Int).toNat n)=min k n
 rw [if_neg (by omega),Int.toNat_natCast]
theorem sIx_le (n d:Nat) (hd:d<=n) (o:Option Int):sIx n d o<=n:=by
 cases o with
 | none=>exact hd
 | some v =>
  show (if v < 0 then (v + (n:Int)).toNat else min v.toNat n)<=n
  by_cases hv:v < 0
  ·rw [if_pos hv]; omega
  ·rw [if_neg hv]; exact Nat.min_le_right _ _
theorem clip_eq (v:Int) (n d:Nat):(if v < 0 then max (v + (n:Int)) 0 else min v (n:Int))=((sIx n d (some v):Nat):Int):=by
 show (if v < 0 then max (v + (n:Int)) 0 else min v (n:Int))=(((if v < 0 then (v + (n:Int)).toNat else min v.toNat n):Nat):Int)
 by_cases hv:v < 0
 ·simp only [if_pos hv]; omega
 ·simp only [if_neg hv]; omega
theorem adjust_gen (lo hi:Option Int) (n:Nat):Builtin.Slice.sliceAdjust lo hi 1 (n:Int)=(((sIx n 0 lo:Nat):Int),((sIx n n hi:Nat):Int)):=by
 have h1:¬ ((1:Int) < 0):=by omega
 unfold Builtin.Slice.sliceAdjust
 simp only [h1,if_false]
 refine Prod.ext ?_ ?_
 ·cases lo with
  | none=>rfl
  | some v=>exact clip_eq v n 0
 ·cases hi with
  | none=>rfl
  | some v=>exact clip_eq v n n
theorem places_gen (i j:Nat):Builtin.Slice.slicePlaces (i:Int) (j:Int) 1=j - i:=by
 unfold Builtin.Slice.slicePlaces
 have h1:(1:Int) > 0:=by omega
 simp only [h1,if_true,Int.ediv_one]
 split <;> omega
theorem slicePart_ {v:Value} {o:Option Int} {Q:Option Int->Shared->Prop} (p:IsPart v o) (h:Q o s):wpAny (model prog w) A (Builtin.Slice.slicePartIndex v) Q E s:=by
 cases p with
 | none=>exact slicePart_none h
 | int i t=>exact slicePart_int h
def sliceApplied_gen {sl:Addr} {vl vu:Value} {lo hi:Option Int} {n:Nat} {Q:Int×Int×Nat->Shared->Prop} (hs:s.heap.IsSliceOf sl vl vu .none) (pl:IsPart vl lo) (pu:IsPart vu hi)
  (h:Q (((sIx n 0 lo:Nat):Int),1,sIx n n hi - sIx n 0 lo) s):wpAny (model prog w) A (Builtin.Slice.sliceApplied (.ref sl) (pure (n:Int))) Q E s:=by
 obtain ⟨os,hos,hcs,hds⟩:=id hs
 unfold Builtin.Slice.sliceApplied Builtin.Slice.sliceFields
 refine wpAny_bind (wpAny_bind (wpAny_field hos hds (x:=vl) rfl (wpAny_bind (wpAny_field hos hds (x:=vu) rfl (wpAny_bind (wpAny_field hos hds (x:=.none) rfl (wpAny_pure ?_)))))))
 refine wpAny_bind (slicePart_none ?_)
 show wpAny _ _ (if ((1:Int) == 0)=true then _ else _) _ _ s
 rw [if_neg (by decide)]
 refine wpAny_bind (slicePart_ pl (wpAny_bind (slicePart_ pu (wpAny_bind (wpAny_pure ?_)))))
 show wpAny _ _ (match Builtin.Slice.sliceAdjust lo hi 1 (n:Int) with | (lo,hi)=>pure (lo,(1:Int),Builtin.Slice.slicePlaces lo hi 1)) _ _ s
 rw [adjust_gen lo hi n]
 show wpAny _ _ (pure (((sIx n 0 lo:Nat):Int),(1:Int),Builtin.Slice.slicePlaces ((sIx n 0 lo:Nat):Int) ((sIx n n hi:Nat):Int) 1)) _ _ s
 rw [places_gen]
 exact wpAny_pure h
theorem pick_gen (xs:Array Value) (i k:Nat):((List.range k).filterMap fun (m:Nat)=>xs[((i:Int) + (m:Int) * 1).toNat]?).toArray=((xs.toList.drop i).take k).toArray:=by
 have e:(fun (m:Nat)=>xs[((i:Int) + (m:Int) * 1).toNat]?)=fun m=>xs[i + m]?:=by
  funext m
  have:((i:Int) + (m:Int) * 1).toNat=i + m:=by omega
  rw [this]
 rw [e]
 have:=pick_run xs i k
 rw [List.filterMap_map] at this
 have e2:((fun x=>xs[x]?) ∘ fun x=>i + x)=fun m=>xs[i + m]?:=rfl
 rw [e2] at this
 rw [this]
theorem getItem_tuple_cut {t sl:Addr} {items:Array Value} {vl vu:Value} {lo hi:Option Int} {Q:Value->Shared->Prop} (ht:IsTup s.heap t items) (hs:s.heap.IsSliceOf sl vl vu .none) (pl:IsPart vl lo) (pu:IsPart vu hi)
  (hw:¬ (sIx items.size 0 lo=0/\sIx items.size items.size hi=items.size))
  (h:Q (.ref s.heap.objs.size) { s with heap:=s.heap.push { cls:=.type "tuple",data:=.seq ((items.toList.drop (sIx items.size 0 lo)).take (sIx items.size items.size hi - sIx items.size 0 lo)).toArray } })
  (hsz:items.size<=sizeLine):wpAny (model prog w) A (getItem (.ref t) (.ref sl)) Q E s:=by
 have htake:sizeOk (.seq ((items.toList.drop (sIx items.size 0 lo)).take (sIx items.size items.size hi - sIx items.size 0 lo)).toArray):=by
  show ((items.toList.drop (sIx items.size 0 lo)).take (sIx items.size items.size hi - sIx items.size 0 lo)).toArray.size<=sizeLine
  rw [List.size_toArray,List.length_take,List.length_drop,Array.length_toList]
  omega
 have hj:sIx items.size items.size hi<=items.size:=sIx_le _ _ (Nat.le_refl _) hi
 obtain ⟨os,hos,hcs,hds⟩:=id hs
 have hTs:s.TypeIs (.ref sl) "slice":=⟨os,hos,hcs⟩
 unfold getItem
 try with_reducible refine wpAny_holding ?_
 first | refine wpAny_bind (wpAny_pure ?_) | skip
 refine wpAny_bind (wpAny_sequenceKey ht.typeIs (by decide) ?_)
 refine wpAny_bind (wpAny_callSpecial?_slot (name:=Str.ofString "__getitem__") ht.typeIs PyProof.Rows.slot_tuple_getitem
  (wpAny_call_entry PyProof.Rows.slot_tuple_getitem ht.typeIs entry_tuple_getitem ?_ (args_tuple_getitem _ _)))
 show wpAny _ _ (Builtin.Tuple.tupleItemsOf (.ref t) >>= _) _ _ s
 refine wpAny_bind (tupleItemsOf_ ht ?_)
 refine wpAny_bind (wpAny_typeOf hTs ?_)
 rw [if_pos (by decide)]
 refine wpAny_bind (sliceApplied_gen hs pl pu ?_)
 have hno:¬ ((((sIx items.size 0 lo:Nat):Int) == 0 && (1:Int) == 1 && (sIx items.size items.size hi - sIx items.size 0 lo) == items.size)=true):=by
  intro q
  rw [Bool.and_eq_true,Bool.and_eq_true] at q
  have q1:((sIx items.size 0 lo:Nat):Int)=0:=eq_of_beq q.1.1
  have q2:sIx items.size items.size hi - sIx items.size 0 lo=items.size:=eq_of_beq q.2
  exact hw ⟨by omega,by omega⟩
 show wpAny _ _ (if (((sIx items.size 0 lo:Nat):Int) == 0 && (1:Int) == 1 && (sIx items.size items.size hi - sIx items.size 0 lo) == items.size)=true then _ else _) _ _ s
 rw [if_neg hno,pick_gen]
 first
  | exact wpAny_bind (m:=Builtin.Tuple.tupleExact _) (wpAny_newObj_type (wpAny_pure ⟨_,rfl,wpAny_pure h⟩) htake)
  | exact wpAny_bind (m:=Builtin.Tuple.tupleExact _) (wpAny_newObj_type (wpAny_bind (wpAny_pure (wpAny_pure ⟨_,rfl,wpAny_pure h⟩))) htake)
  | exact wpAny_bind (wpAny_bind (m:=Builtin.Tuple.tupleExact _) (wpAny_newObj_type (wpAny_pure (wpAny_pure ⟨_,rfl,wpAny_pure h⟩)) htake))
  | exact wpAny_bind (wpAny_bind (m:=Builtin.Tuple.tupleExact _) (wpAny_newObj_type (wpAny_pure ⟨_,rfl,wpAny_pure h⟩) htake))
end
end HT
namespace L2
open PySem PySem.Spec PyProof.Rows
abbrev TO:=St->Hp->(Option Int->Hp->Prop)->Prop
def PO (X:Cx) (e:Option Expr) (t:TO):Prop :=
 ∀ (pins:List (Addr×Obj)) (s:Shared) (σ:St) (H:Hp) (Q:Option Int->Hp->Prop),Inv X pins σ H s->t σ H Q ->
  wpAny (model X.prog X.w) X.A (evalPart e X.env) (fun u s'=>∃ o H',Inv X pins σ H' s'/\IsPart u o/\Q o H') X.xe s
def tNoPart:TO:=fun _ H Q=>Q none H
def tPart (t:TE):TO:=fun σ H Q=>t σ H fun x H1=>∃ i,x=.int i/\Q (some i) H1
section
variable {X:Cx} {e:Expr} {te:TE} {lo hi:Option Expr} {tl th:TO} {pos p2:Pos}
def po_none:PO X none tNoPart:=by
 intro pins s σ H Q I h
 rw [evalPart_none]
 exact wpAny_pure ⟨none,H,I,.none,h⟩
def po_some (h:PE X e te):PO X (some e) (tPart te):=by
 intro pins s σ H Q I hw
 rw [evalPart_some]
 refine thn (h pins s σ H _ I hw) fun u s1 ⟨x,H1,I1,r1,q1⟩=>?_
 obtain ⟨i,rfl,q⟩:=q1
 obtain ⟨t,rfl⟩:=r1
 exact ⟨some i,H1,I1,.int i t,q⟩
def SlR (X:Cx) (r:V->Option Int->Option Int->Hp->VK->Prop):Prop :=
 ∀ (pins:List (Addr×Obj)) (s:Shared) (σ:St) (H:Hp) (x:V) (v vl vu:Value) (lo hi:Option Int) (sl:Addr) (Q:VK),Inv X pins σ H s->RelV x v->s.heap.IsSliceOf sl vl vu .none->IsPart vl lo->IsPart vu hi->r x lo hi H Q ->
  ∃ T id,typeLookup (.type T) "__getitem__"=pure (some (.builtin id))/\s.TypeIs v T/\wpAny (model X.prog X.w) X.A (getItem v (.ref sl)) (EP X pins σ Q) X.xe s
def tSl (r:V->Option Int->Option Int->Hp->VK->Prop) (te:TE) (tl th:TO):TE:=fun σ H Q=>te σ H fun x H1=>tl σ H1 fun l H2=>th σ H2 fun u H3=>r x l u H3 Q
def pe_slice {r:V->Option Int->Option Int->Hp->VK->Prop} (hr:SlR X r) (he:PE X e te) (hl:PO X lo tl) (hu:PO X hi th):PE X (.Subscript e (.Slice lo hi none p2) pos) (tSl r te tl th):=by
 intro pins s σ H Q I h
 refine Subscript_ (thn (he pins s σ H _ I h) fun v s1 ⟨x,H1,I1,r1,q1⟩=>?_)
 refine wpAny_Slice (thn (hl pins s1 σ H1 _ I1 q1) fun vl s2 ⟨l,H2,I2,pl,q2⟩=>thn (hu pins s2 σ H2 _ I2 q2) fun vu s3 ⟨u,H3,I3,pu,q3⟩=>?_)
 rw [evalPart_none]
 refine wpAny_pure ?_
 have I4:Inv X pins σ H3 { s3 with heap:=s3.heap.push { cls:=.type "slice",data:=.fields #[vl,vu,.none] } }:=I3.kept (t':=s3.toks) fun b ob q=>Heap.get?_push_of_some _ q
 obtain ⟨T,id,hT,ht,hg⟩:=hr pins { s3 with heap:=s3.heap.push { cls:=.type "slice",data:=.fields #[vl,vu,.none] } } σ H3 x v vl vu l u s3.heap.objs.size Q I4 r1 (Heap.IsSliceOf.new ..) pl pu q3
 show wpAny (model X.prog X.w) X.A (subscriptTail e (.Slice lo hi none p2) v (.ref s3.heap.objs.size)) (EP X pins σ Q) X.xe { s3 with heap:=s3.heap.push { cls:=.type "slice",data:=.fields #[vl,vu,.none] } }
 exact tail_any (ops:=[.ref s3.heap.objs.size,v]) ht hT hg (by with_unfolding_all rfl)
def cutV (xs:List V) (lo hi:Option Int):List V:=(xs.drop (HT.sIx xs.length 0 lo)).take (HT.sIx xs.length xs.length hi - HT.sIx xs.length 0 lo)
theorem cutV_length (xs:List V) (lo hi:Option Int):(cutV xs lo hi).length<=xs.length:=by
 unfold cutV
 rw [List.length_take,List.length_drop]
 omega
def rCatT (K:W.Frag):R2:=fun x y H Q=>∃ a b xs ys,x=.ref a/\y=.ref b/\SqT K H a xs/\SqT K H b ys/\xs≠[]/\xs.length + ys.length<=sizeLine /\
 (ys=[]->Q (.ref a) H)/\(ys≠[]->∀ p,H p=none->Q (.ref p) (upd H p (.tup (xs++ys))))
theorem Vals.nil_iff {xs:List V} {us:List Value} (r:Vals xs us):us=[]↔xs=[]:=by
 cases r with
 | nil=>simp
 | cons _ _=>simp
def op_catT:OpR X (binaryOp .Add) (rCatT X.K):=by
 intro pins s σ H x y v u Q I rx ry h
 obtain ⟨a,b,xs,ys,rfl,rfl,ha,hb,hx,hz,q1,q2⟩:=h
 cases rx
 cases ry
 obtain ⟨its,r1,p1,_⟩:=I.tuple ha
 obtain ⟨its2,r2,p2,_⟩:=I.tuple hb
 refine HT.cat_tup p1 p2 (fun z=>hx (r1.nil_iff.mp z)) (fun z=>⟨.ref a,H,I,rfl,q1 (r2.nil_iff.mp z)⟩) (fun z=>?_) (by rw [<- r1.length,<- r2.length]; exact hz)
 refine ⟨.ref s.heap.objs.size,_,I.laid (t':=s.toks) (o:=.tup (xs++ys)) (fun b ob q=>Heap.get?_push_of_some _ q) (Nat.le_refl _) ?_,rfl,q2 (fun w=>z (r2.nil_iff.mpr w)) _ (I.hok.fresh (Nat.le_refl _))⟩
 exact ⟨by rw [List.length_append]; exact hz,_,r1.append r2,IsTupD.new _ _⟩
end
def ixN (n:Nat) (i:Int):Option Nat:=if 0<=i then (if i < n then some i.toNat else none) else if -(n:Int)<=i then some (i + n).toNat else none
def atI {α:Type} (xs:List α) (i:Int):Option α:=(ixN xs.length i).bind fun j=>xs[j]?
theorem ixN_seq {n:Nat} {i:Int} {j:Nat} (h:ixN n i=some j):seqIndex? i n=some j/\j < n/\-(n:Int)<=i/\i < n:=by
 unfold ixN at h
 by_cases h0:0<=i
 ·rw [if_pos h0] at h
  by_cases h1:i < n
  ·rw [if_pos h1] at h
   have e:i.toNat=j:=Option.some.inj h
   exact ⟨by rw [seqIndex_of h0 h1,e],by omega,by omega,h1⟩
  ·rw [if_neg h1] at h; cases h
 ·rw [if_neg h0] at h
  by_cases h1:-(n:Int)<=i
  ·rw [if_pos h1] at h
   have e:(i + n).toNat=j:=Option.some.inj h
   exact ⟨by rw [seqIndex_neg (by omega) h1,e],by omega,h1,by omega⟩
  ·rw [if_neg h1] at h; cases h
theorem atI_get {α:Type} {xs:List α} {i:Int} {v:α} (h:atI xs i=some v):∃ j,seqIndex? i xs.length=some j/\xs[j]?=some v/\j < xs.length/\-(xs.length:Int)<=i/\i < xs.length:=by
 unfold atI at h
 cases e:ixN xs.length i with
 | none=>rw [e] at h; cases h
 | some j =>
  rw [e] at h
  obtain ⟨h1,h2,h3,h4⟩:=ixN_seq e
  exact ⟨j,h1,h,h2,h3,h4⟩
theorem atI_nat {α:Type} {xs:List α} {j:Nat} {v:α} (h:xs[j]?=some v):atI xs (j:Int)=some v:=by
 have hj:j < xs.length:=(List.getElem?_eq_some_iff.mp h).1
 have e:ixN xs.length (j:Int)=some j:=by
  unfold ixN
  rw [if_pos (by omega),if_pos (by omega)]; simp
 unfold atI; rw [e]; exact h
def PlainIx (b:Expr):Prop:=∀ o i,subscripted b false o i=operate [o,i] (getItem o i)
def IxR (X:Cx) (r:R2):Prop :=
 ∀ (value slice:Expr) (pins:List (Addr×Obj)) (s:Shared) (σ:St) (H:Hp) (x y:V) (v u:Value) (Q:VK),Inv X pins σ H s->RelV x v->RelV y u->r x y H Q ->
  subscripted slice false v u=operate [v,u] (getItem v u)->wpAny (model X.prog X.w) X.A (subscriptTail value slice v u) (EP X pins σ Q) X.xe s
def MtR (X:Cx) (id:String) (r:V->List V->Hp->VK->Prop):Prop :=
 ∀ (pins:List (Addr×Obj)) (s:Shared) (σ:St) (H:Hp) (x:V) (xs:List V) (v:Value) (us:List Value) (Q:VK),Inv X pins σ H s->RelV x v->Vals xs us->r x xs H Q ->
  wpAny (model X.prog X.w) X.A (call (.builtin id) (v::us)) (EP X pins σ Q) X.xe s
section
variable {X:Cx} {a b:Expr} {ta tb:TE} {pos:Pos}
def IxR.or {r r':R2} (h:IxR X r) (h':IxR X r'):IxR X (fun x y H Q=>r x y H Q\/r' x y H Q):=by
 intro value slice pins s σ H x y v u Q I rx ry q hs
 rcases q with q | q
 ·exact h value slice pins s σ H x y v u Q I rx ry q hs
 ·exact h' value slice pins s σ H x y v u Q I rx ry q hs
def pe_ix {r:R2} (hr:IxR X r) (ha:PE X a ta) (hb:PE X b tb) (hs:PlainIx b):PE X (.Subscript a b pos) (tOp r ta tb):=by
 intro pins s σ H Q I h
 exact Subscript_ (binT ha hb I h fun v u s2 x y H2 I2 rx ry q=>hr a b pins s2 σ H2 x y v u Q I2 rx ry q (hs _ _))
def rIxL (K:W.Frag):R2:=fun x y H Q=>∃ p xs i v,x=.ref p/\y=.int i/\SqL K H p xs/\atI xs i=some v/\Q v H
def rIxT (K:W.Frag):R2:=fun x y H Q=>∃ p xs i v,x=.ref p/\y=.int i/\SqT K H p xs/\atI xs i=some v/\Q v H
def rIxS:R2:=fun x y H Q=>∃ z i c,x=.str z/\y=.int i/\z.length<=sizeLine/\atI z.cps.toList i=some c/\Q (.str ⟨#[c]⟩) H
theorem ix_list:IxR X (rIxL X.K):=by
 intro value slice pins s σ H x y v u Q I rx ry h hs
 obtain ⟨p,xs,i,z,rfl,rfl,hq,he,q⟩:=h
 cases rx
 obtain ⟨t,rfl⟩:=ry
 obtain ⟨its,r,pl,hz⟩:=I.list hq
 obtain ⟨j,h1,h2,h3,h4,h5⟩:=atI_get he
 obtain ⟨w,ew,rw'⟩:=r.get h2
 have hl:=r.length
 have hn:=line63
 have fin:EP X pins σ Q w s:=⟨z,H,I,rw',q⟩
 by_cases h0:0<=i
 ·have hj:i.toNat=j:=by
   rw [seqIndex_of h0 h5] at h1
   exact Option.some.inj h1
  exact item_listR pl.isList h0 (by omega) (by rw [hj]; simpa using ew) fin hs
 ·have hj:(i + (its.toArray.size:Int)).toNat=j:=by
   rw [seqIndex_neg (by omega) h4] at h1
   rw [List.size_toArray,<- hl]
   exact Option.some.inj h1
  exact subscriptTail_builtinR (x:=w) pl.isList.typeIs slot_list_getitem.lookup
   (wpAny_getItem_list_neg (Q:=fun r s'=>r=w/\EP X pins σ Q r s') pl.isList (by omega) (by rw [List.size_toArray] <;> omega) (by omega) (by rw [hj]; simpa using ew) ⟨rfl,fin⟩) hs
theorem ix_tup:IxR X (rIxT X.K):=by
 intro value slice pins s σ H x y v u Q I rx ry h hs
 obtain ⟨p,xs,i,z,rfl,rfl,hq,he,q⟩:=h
 cases rx
 obtain ⟨t,rfl⟩:=ry
 obtain ⟨its,r,pl,hz⟩:=I.tuple hq
 obtain ⟨j,h1,h2,h3,h4,h5⟩:=atI_get he
 obtain ⟨w,ew,rw'⟩:=r.get h2
 have hl:=r.length
 have hn:=line63
 have fin:EP X pins σ Q w s:=⟨z,H,I,rw',q⟩
 exact subscriptTail_builtinR (x:=w) pl.typeIs slot_tuple_getitem.lookup
  (getItem_tuple (j:=j) (Q:=fun r s'=>r=w/\EP X pins σ Q r s') pl (by omega) (by omega) (by rw [List.size_toArray,<- hl]; exact h1) (by simpa using ew) ⟨rfl,fin⟩) hs
theorem ix_str:IxR X rIxS:=by
 intro value slice pins s σ H x y v u Q I rx ry h hs
 obtain ⟨z,i,c,rfl,rfl,hz,he,q⟩:=h
 obtain ⟨t,rfl⟩:=rx
 obtain ⟨t',rfl⟩:=ry
 obtain ⟨j,h1,h2,h3,h4,h5⟩:=atI_get he
 have hl:z.cps.toList.length=z.length:=by simp [Str.length]
 rw [hl] at h1 h4 h5
 have hn:=line63
 exact tail_any (typeIs_str s z t) slot_str_getitem.lookup (getItem_str (c:=c) (by
  have e1:decide (i < -(2 ^ 63:Int))=false:=decide_eq_false (by omega)
  have e2:decide (i≥2 ^ 63)=false:=decide_eq_false (by omega)
  rw [e1,e2,Bool.or_false]) (by rw [h1]; simpa using h2) ⟨.str ⟨#[c]⟩,H,I.tok _,⟨_,rfl⟩,q⟩) hs
def rIx (K:W.Frag):R2:=fun x y H Q=>rIxL K x y H Q\/rIxT K x y H Q\/rIxS x y H Q
def ix_seq:IxR X (rIx X.K):=ix_list.or (ix_tup.or ix_str)
def mapSeq_set (its:List Value) (n j:Nat) (u:Value):Obj.mapSeq (·.setIfInBounds j u) { cls:=.type "list",data:=.seq its.toArray n }={ cls:=.type "list",data:=.seq (its.set j u).toArray n }:=by
 simp [Obj.mapSeq]
def Inv.lst {pins:List (Addr×Obj)} {σ:St} {H:Hp} {s:Shared} {p:Addr} {xs:List V} (I:Inv X pins σ H s) (h:H p=some (.lst xs)) :
  ∃ (its:List Value) (n:Nat),Vals xs its/\s.heap.get? p=some { cls:=.type "list",data:=.seq its.toArray n }/\xs.length<=sizeLine:=by
 obtain ⟨z,its,n,r,e⟩:=I.hok p _ h
 exact ⟨its,n,r,e,z⟩
def Inv.lstUpd {pins:List (Addr×Obj)} {σ:St} {H:Hp} {s:Shared} {p:Addr} {xs ys:List V} {its its':List Value} {n n':Nat} {f:Obj->Obj} (I:Inv X pins σ H s) (h:H p=some (.lst xs))
  (ho:s.heap.get? p=some { cls:=.type "list",data:=.seq its.toArray n }) (hf:f { cls:=.type "list",data:=.seq its.toArray n }={ cls:=.type "list",data:=.seq its'.toArray n' }) (r:Vals ys its') (hz:ys.length<=sizeLine) (t:Nat) :
  Inv X pins σ (upd H p (.lst ys)) { s with heap:=s.heap.update p f,toks:=t }:=by
 have e:(s.heap.update p f).get? p=some { cls:=.type "list",data:=.seq its'.toArray n' }:=by
  rw [Heap.get?_update_self f ho (by rw [hf] <;> rfl),hf]
 refine I.write (x:=p) (e:=p) (by rw [h]; trivial) (.inl rfl) (fun b u hb q=>(Heap.get?_update_other _ _ (Ne.symm hb)).trans q) ⟨_,e⟩ ?_
 exact ⟨hz,its',n',r,e⟩
def rSetL:V->V->V->Hp->(Hp->Prop)->Prop:=fun o i v H Q=>∃ p xs k j,o=.ref p/\i=.int k/\H p=some (.lst xs)/\ixN xs.length k=some j/\Q (upd H p (.lst (xs.set j v)))
theorem set_list:PSet X rSetL:=by
 intro pins s σ H o i v ov iv u Q I ro ri rv h
 obtain ⟨p,xs,k,j,rfl,rfl,hp,hj,q⟩:=h
 cases ro
 obtain ⟨t,rfl⟩:=ri
 obtain ⟨its,n,r,ho,hz⟩:=I.lst hp
 obtain ⟨h1,h2,h3,h4⟩:=ixN_seq hj
 have hl:=r.length
 have hn:=line63
 have I':Inv X pins σ (upd H p (.lst (xs.set j v))) { s with heap:=s.heap.update p (Obj.mapSeq (·.setIfInBounds j u)) } :=
  I.lstUpd hp ho (mapSeq_set its n j u) (r.set rv j) (by rw [List.length_set]; exact hz) s.toks
 by_cases h0:0<=k
 ·have hk:k.toNat=j:=by
   rw [seqIndex_of h0 h4] at h1
   exact Option.some.inj h1
  exact W.ki_setAt ho h0 (by omega) (by rw [List.size_toArray,<- hl]; exact h4) (by rw [hk]; exact ⟨_,I',q⟩)
 ·have hk:(k + (its.toArray.size:Int)).toNat=j:=by
   rw [seqIndex_neg (by omega) h3] at h1
   rw [List.size_toArray,<- hl]
   exact Option.some.inj h1
  exact W.ki_setBack ho (by omega) (by rw [List.size_toArray,<- hl]; exact h3) (by omega) (by rw [hk]; exact ⟨_,I',q⟩)
theorem slice_bounds (lo hi:Option Int) (n:Nat):(sliceBounds lo hi none n).1=((HT.sIx n 0 lo:Nat):Int)/\(sliceBounds lo hi none n).2.1=((HT.sIx n n hi:Nat):Int)/\(sliceBounds lo hi none n).2.2=1:=by
 refine ⟨?_,?_,rfl⟩
 ·cases lo with
  | none=>simp [sliceBounds,HT.sIx]
  | some i =>
   simp only [sliceBounds,HT.sIx,Option.getD_none,show (1:Int) > 0 by decide,if_true]
   by_cases h:i < 0
   ·simp only [h,if_true] <;> omega
   ·simp only [h,if_false] <;> omega
 ·cases hi with
  | none=>simp [sliceBounds,HT.sIx]
  | some i =>
   simp only [sliceBounds,HT.sIx,Option.getD_none,show (1:Int) > 0 by decide,if_true]
   by_cases h:i < 0
   ·simp only [h,if_true] <;> omega
   ·simp only [h,if_false] <;> omega
def slicePick_cut (its:List Value) (lo hi:Option Int):slicePick its.toArray lo hi none=((its.drop (HT.sIx its.length 0 lo)).take (HT.sIx its.length its.length hi - HT.sIx its.length 0 lo)).toArray:=by
 obtain ⟨h1,h2,h3⟩:=slice_bounds lo hi its.toArray.size
 unfold slicePick
 rw [h1,h2,h3]
 simp only [sliceRange_one,pick_run,List.size_toArray] <;> rfl
def rSlL (K:W.Frag):V->Option Int->Option Int->Hp->VK->Prop:=fun x lo hi H Q=>∃ a xs,x=.ref a/\SqL K H a xs/\∀ p,H p=none->Q (.ref p) (upd H p (.lst (cutV xs lo hi)))
theorem sl_list:SlR X (rSlL X.K):=by
 intro pins s σ H x v vl vu lo hi sl Q I rx hs pl pu h
 obtain ⟨a,xs,rfl,hx,q⟩:=h
 cases rx
 obtain ⟨its,r,ht,hz⟩:=I.list hx
 have hlen:=r.length
 refine ⟨"list",_,slot_list_getitem.lookup,ht.isList.typeIs,?_⟩
 refine wpAny_getItem_list_slice ht.isList hs pl pu .none (by simp) ?_ (by rw [List.size_toArray] <;> omega)
 rw [slicePick_cut,<- hlen]
 refine ⟨.ref s.heap.objs.size,_,I.laid (t':=s.toks) (o:=.lst (cutV xs lo hi)) (fun b ob q=>Heap.get?_push_of_some _ q) (Nat.le_refl _) ?_,rfl,q _ (I.hok.fresh (Nat.le_refl _))⟩
 exact ⟨Nat.le_trans (cutV_length xs lo hi) hz,_,0,(r.drop (HT.sIx xs.length 0 lo)).take (HT.sIx xs.length xs.length hi - HT.sIx xs.length 0 lo),Heap.get?_push_size _ rfl⟩
theorem call_list_of:CallR X (.type "list") (fun xs H Q=>∃ p ys,xs=[.ref p]/\(SqL X.K H p ys\/SqT X.K H p ys)/\∀ l,H l=none->Q (.ref l) (upd H l (.lst ys))):=by
 intro pins s σ H xs us Q I r h
 obtain ⟨p,ys,rfl,hq,q⟩:=h
 obtain ⟨u,rfl,rx⟩:=vals1 r
 cases rx
 have fin:∀ (its:List Value),Vals ys its->ys.length<=sizeLine->∀ (h':Heap) (c':Nat),(∀ b o',s.heap.get? b=some o'->h'.get? b=some o') ->
   h'.get? s.heap.objs.size=some { cls:=.type "list",dict:=none,data:=.seq its.toArray c',slots:=#[] }->EP X pins σ Q (.ref s.heap.objs.size) { s with heap:=h' }:=fun its r' hz h' c' kp e =>
  ⟨.ref s.heap.objs.size,_,I.laid (t':=s.toks) kp (Nat.le_refl _) (show ObjOk X.prog X.w _ h' _ (.lst ys) from ⟨hz,its,c',r',e⟩),rfl,q _ (I.hok.fresh (Nat.le_refl _))⟩
 rcases hq with hq | hq
 ·obtain ⟨its,r',pl,hz⟩:=I.list hq
  have hlen:=r'.length
  obtain ⟨o,ho,hc,n,hd⟩:=pl.isList
  exact call_list_seq p (.inl rfl) ho hc hd (fun h' c' kp e=>fin its r' hz h' c' kp e) (by simp only [List.size_toArray] <;> omega)
 ·obtain ⟨its,r',pl,hz⟩:=I.tuple hq
  have hlen:=r'.length
  obtain ⟨o,ho,hc,n,hd⟩:=pl
  exact call_list_seq p (.inr rfl) ho hc hd (fun h' c' kp e=>fin its r' hz h' c' kp e) (by simp only [List.size_toArray] <;> omega)
theorem call_tuple_of:CallR X (.type "tuple") (fun xs H Q=>∃ p ys,xs=[.ref p]/\((SqL X.K H p ys/\∀ l,H l=none->Q (.ref l) (upd H l (.tup ys)))\/(SqT X.K H p ys/\Q (.ref p) H))):=by
 intro pins s σ H xs us Q I r h
 obtain ⟨p,ys,rfl,h⟩:=h
 obtain ⟨u,rfl,rx⟩:=vals1 r
 cases rx
 rcases h with ⟨hq,q⟩ | ⟨hq,q⟩
 ·obtain ⟨its,r',pl,hz⟩:=I.list hq
  have hlen:=r'.length
  refine call_tuple_list pl.isList (fun h' kp=>?_) (by simp only [List.size_toArray] <;> omega)
  have I1:Inv X pins σ H { s with heap:=h' }:=I.kept (t':=s.toks) kp
  have I2:Inv X pins σ (upd H h'.objs.size (.tup ys)) { s with heap:=h'.push { cls:=.type "tuple",data:=.seq its.toArray } } :=
   I1.laid (t':=s.toks) (fun b o e=>Heap.get?_push_of_some _ e) (Nat.le_refl _) (show ObjOk X.prog X.w _ _ _ (.tup ys) from ⟨hz,its,r',IsTupD.new _ _⟩)
  exact ⟨.ref h'.objs.size,_,I2,rfl,q _ (I1.hok.fresh (Nat.le_refl _))⟩
 ·obtain ⟨its,r',pl,hz⟩:=I.tuple hq
  exact call_tuple_same pl ⟨.ref p,H,I,rfl,q⟩
def tyV (K:W.Frag) (T:String) (x:V) (H:Hp):Prop:=match x with
 | .str _=>T="str"
 | .int _=>T="int"
 | .ref p=>(T="list"/\∃ xs,SqL K H p xs)\/(T="tuple"/\∃ o,K.lookup p=some o/\o.cls=.type "tuple"/\o.dict=none) \/
   (T="dict"/\((∃ kvs,H p=some (.dK kvs))\/∃ kvs,H p=some (.dT kvs)))\/(T="set"/\∃ S n,H p=some (.set S n))
 | _=>False
theorem tyV_is {pins:List (Addr×Obj)} {σ:St} {H:Hp} {s:Shared} {T:String} {x:V} {v:Value} (I:Inv X pins σ H s) (r:RelV x v) (ty:tyV X.K T x H) :
  s.TypeIs v T/\∀ a,v=.ref a->∃ ob,s.heap.get? a=some ob/\ob.dict=none:=by
 cases x with
 | str z =>
  obtain ⟨t,rfl⟩:=r
  cases (show T="str" from ty)
  exact ⟨typeIs_str s z t,fun _ e=>nomatch e⟩
 | int i =>
  obtain ⟨t,rfl⟩:=r
  cases (show T="int" from ty)
  exact ⟨typeIs_int s i t,fun _ e=>nomatch e⟩
 | ref p =>
  cases r
  rcases ty with ⟨rfl,xs,hq⟩ | ⟨rfl,o,hk,hc,hd⟩ | ⟨rfl,hk⟩ | ⟨rfl,S,n,hk⟩
  ·obtain ⟨its,_,pl,_⟩:=I.list hq
   refine ⟨pl.isList.typeIs,fun a e=>?_⟩
   cases e
   obtain ⟨o,n,e,c,hd,_⟩:=pl
   exact ⟨o,e,hd⟩
  ·refine ⟨⟨o,I.kIn p o hk,hc⟩,fun a e=>?_⟩
   cases e
   exact ⟨o,I.kIn _ o hk,hd⟩
  ·have z:∃ o,s.heap.get? p=some o/\o.ExactDict:=by
    rcases hk with ⟨kvs,hk⟩ | ⟨kvs,hk⟩
    ·obtain ⟨_,_,_,_,o,_,_,e,ex,_⟩:=I.hok p _ hk
     exact ⟨o,e,ex⟩
    ·obtain ⟨_,_,_,_,o,_,_,e,ex,_⟩:=I.hok p _ hk
     exact ⟨o,e,ex⟩
   obtain ⟨o,e,ex⟩:=z
   refine ⟨⟨o,e,ex.1⟩,fun a e2=>?_⟩
   cases e2
   exact ⟨o,e,ex.2.1⟩
  ·obtain ⟨o,_,_,_,e,ex,_⟩:=I.hok p _ hk
   refine ⟨⟨o,e,ex.1⟩,fun a e2=>?_⟩
   cases e2
   exact ⟨o,e,ex.2.1⟩
 | _=>exact False.elim ty
def tBM0 (K:W.Frag) (T:String) (r:V->List V->Hp->VK->Prop) (to:TE):TE:=fun σ H Q=>to σ H fun x H1=>tyV K T x H1/\r x [] H1 Q
def tBM (K:W.Frag) (T:String) (r:V->List V->Hp->VK->Prop) (to:TE) (t:TA):TE:=fun σ H Q=>to σ H fun x H1=>tyV K T x H1/\t σ H1 fun xs H2=>r x xs H2 Q
variable {o e:Expr} {es:List Expr} {to:TE} {t:TA} {name:Str} {apos cpos:Pos} {T id:String} {r:V->List V->Hp->VK->Prop}
def pe_bm0 (pa:PlainAttrs T) (slot:Slot T name id) (hty:typeOf (.builtin id)=pure (.type "method_descriptor")) (hm:MtR X id r) (ho:PE X o to)
  (hbase:attributeBase o name X.env (eval o X.env)=eval o X.env:=by rfl) (hline:(apos.endLine == cpos.line)=true:=by rfl):PE X (.Call (.Attribute o name apos) [] [] cpos) (tBM0 X.K T r to):=by
 intro pins s σ H Q I h
 refine wpAny_Call_method0_late hbase hline (thn (ho pins s σ H _ I h) fun v s1 ⟨x,H1,I1,r1,ty,q1⟩=>?_)
 obtain ⟨h1,h2⟩:=tyV_is I1 r1 ty
 exact ⟨T,id,pa,slot,hty,h1,h2,Calls.callWith_builtin rfl (PySem.evalArgs_none (hm pins s1 σ H1 x [] v [] Q I1 r1 .nil q1))⟩
def pe_bm (pa:PlainAttrs T) (slot:Slot T name id) (hty:typeOf (.builtin id)=pure (.type "method_descriptor")) (hm:MtR X id r) (ho:PE X o to) (ha:PA X (e::es) t)
  (hbase:attributeBase o name X.env (eval o X.env)=eval o X.env:=by rfl)
  (hfew:((backTo cpos (starEach (e::es) X.env)).all (fun x=>!x.1) && (backToKw cpos (keywordEach [] X.env)).all (fun x=>x.1.isSome)
   && decide ((e::es).length + ([]:List Keyword).length + (if ([]:List Keyword).isEmpty then 0 else 1) < 30))=true:=by rfl)
  (hline:(apos.endLine == cpos.line)=true:=by rfl) (hs:starEach (e::es) X.env=(false,eval e X.env)::starEach es X.env:=by rfl) (hplain:(backTo cpos (starEach es X.env)).any (·.1)=false:=by rfl) :
  PE X (.Call (.Attribute o name apos) (e::es) [] cpos) (tBM X.K T r to t):=by
 intro pins s σ H Q I h
 refine wpAny_Call_method_late hbase hfew hline rfl (thn (ho pins s σ H _ I h) fun v s1 ⟨x,H1,I1,r1,ty,q1⟩=>?_)
 obtain ⟨h1,h2⟩:=tyV_is I1 r1 ty
 refine ⟨T,id,pa,slot,hty,h1,h2,?_⟩
 have hA:=ha cpos pins s1 σ H1 _ I1 q1
 rw [hs] at hA ⊢
 refine Calls.callWith_builtin (by show (false || (backTo cpos (starEach es X.env)).any (·.1))=false; rw [hplain] <;> rfl) (Calls.evalArgs_plain ?_)
 exact thn hA fun us s2 ⟨vs,H2,I2,r2,q2⟩=>hm pins s2 σ H2 x vs v us Q I2 r1 r2 q2
end
def MtM (X:Cx) (id:String) (r:V->List V->Hp->VK->Prop):Prop :=
 ∀ (pins:List (Addr×Obj)) (s:Shared) (σ:St) (H:Hp) (x:V) (xs:List V) (v:Value) (us:List Value) (Q:VK),Inv X pins σ H s->RelV x v->Vals xs us->r x xs H Q ->
  wpAny (model X.prog X.w) X.A (call (.builtin id) (v::us)) (EP X pins σ Q) X.xe s
theorem Vals.one:∀ {x:V} {us:List Value},Vals [x] us->∃ u,us=[u]/\RelV x u
 | _,_,.cons r .nil=>⟨_,rfl,r⟩
theorem Vals.zero:∀ {us:List Value},Vals [] us->us=[]
 | _,.nil=>rfl
theorem Vals.dropLast {xs:List V} {us:List Value} (h:Vals xs us):Vals xs.dropLast us.dropLast:=by
 induction h with
 | nil=>exact .nil
 | cons r t ih =>
  cases t with
  | nil=>exact .nil
  | cons q t'=>exact .cons r ih
theorem Vals.reverse {xs:List V} {us:List Value} (h:Vals xs us):Vals xs.reverse us.reverse:=by
 induction h with
 | nil=>exact .nil
 | cons r t ih=>rw [List.reverse_cons,List.reverse_cons]; exact Vals.append ih (.cons r .nil)
theorem Vals.rep {xs:List V} {us:List Value} (h:Vals xs us):∀ k:Nat,Vals (List.replicate k xs).flatten (List.replicate k us).flatten
 | 0=>.nil
 | k + 1=>by
  rw [List.replicate_succ,List.replicate_succ,List.flatten_cons,List.flatten_cons]
  exact Vals.append h (Vals.rep h k)
theorem erase_last {α:Type} (l:List α):l.eraseIdx (l.length - 1)=l.dropLast:=by
 induction l with
 | nil=>rfl
 | cons a r ih =>
  cases r with
  | nil=>rfl
  | cons b r =>
   have e:(a::b::r).length - 1=((b::r).length - 1) + 1:=by
    have h1:(a::b::r).length=r.length + 2:=rfl
    have h2:(b::r).length=r.length + 1:=rfl
    omega
   rw [e,List.eraseIdx_cons_succ,ih]
   all_goals rfl
theorem foldl_rep (its:List Value):∀ (k:Nat) (acc:List Value),
  List.foldl (fun x1 x2=>x1++x2) acc.toArray (List.replicate k its.toArray)=(acc++(List.replicate k its).flatten).toArray
 | 0,acc=>by simp
 | k + 1,acc=>by
  have e:acc.toArray++its.toArray=(acc++its).toArray:=by simp
  have e2:(acc++its)++(List.replicate k its).flatten=acc++(List.replicate (k + 1) its).flatten:=by
   rw [List.replicate_succ,List.flatten_cons,List.append_assoc]
  rw [<- e2,<- foldl_rep its k (acc++its),<- e,List.replicate_succ,List.foldl_cons]
section
variable {X:Cx} {pins:List (Addr×Obj)} {σ:St} {H:Hp} {s:Shared} {l:Addr} {xs ys:List V}
def Inv.lset {its its':List Value} {n:Nat} {f:Array Value->Array Value} {t':Nat} (I:Inv X pins σ H s) (hH:H l=some (.lst xs))
  (e:s.heap.get? l=some { cls:=.type "list",data:=.seq its.toArray n }) (hf:f its.toArray=its'.toArray) (hv:Vals ys its') (hz:ys.length<=sizeLine) :
  Inv X pins σ (upd H l (.lst ys)) { s with heap:=s.heap.update l (Obj.mapSeq f),toks:=t' }:=by
 have q:=PySem.IsL.update e f
 rw [hf] at q
 refine I.write (x:=l) (e:=l) (by rw [hH]; exact trivial) (.inl rfl) (fun b' u hb hu=>(Heap.get?_update_other s.heap (Obj.mapSeq f) (Ne.symm hb)).trans hu) ⟨_,q⟩ ?_
 exact ⟨hz,its',_,hv,q⟩
def Inv.lnew {its:List Value} {t':Nat} (I:Inv X pins σ H s) (hv:Vals ys its) (hz:ys.length<=sizeLine) :
  Inv X pins σ (upd H s.heap.objs.size (.lst ys)) { s with heap:=s.heap.push { cls:=.type "list",data:=.seq its.toArray },toks:=t' } :=
 I.laid (fun _ _ q=>Heap.get?_push_of_some _ q) (Nat.le_refl _) ⟨hz,its,0,hv,Heap.get?_push_size _ rfl⟩
def Inv.fresh (I:Inv X pins σ H s):H s.heap.objs.size=none:=I.hok.fresh (Nat.le_refl _)
def Inv.lstM (I:Inv X pins σ H s) (hH:H l=some (.lst xs)):xs.length<=sizeLine/\∃ (its:List Value) (n:Nat),Vals xs its/\xs.length=its.length/\s.heap.get? l=some { cls:=.type "list",data:=.seq its.toArray n }:=by
 obtain ⟨z,its,n,r,e⟩:=I.hok l _ hH
 exact ⟨z,its,n,r,r.length,e⟩
theorem notLongL {n:Nat} (h:n<=sizeLine):Builtin.List.listTooLong n=false:=by
 unfold Builtin.List.listTooLong
 exact decide_eq_false (by omega)
end
section
variable {X:Cx}
def rAppend:V->List V->Hp->VK->Prop:=fun x vs H Q=>∃ l xs y,x=.ref l/\vs=[y]/\H l=some (.lst xs)/\xs.length < sizeLine/\Q .non (upd H l (.lst (xs++[y])))
theorem mt_append:MtM X "list.append" rAppend:=by
 intro pins s σ H x vs v us Q I rx rv h
 obtain ⟨l,xs,y,rfl,rfl,hH,hz,q⟩:=h
 cases rx
 obtain ⟨u,rfl,ru⟩:=rv.one
 obtain ⟨z,its,n,r,hl,e⟩:=I.lstM hH
 refine call_meets F.slot_list_append ⟨_,e,rfl⟩ F.entry_list_append (F.args_list_append_2 _ _) (PySem.list_append l its.toArray n u (by rw [List.size_toArray]; omega)) ⟨e,?_⟩
 refine ⟨.non,_,I.lset (its':=its++[u]) hH e (by simp) (r.append (.cons ru .nil)) ?_,rfl,q⟩
 rw [List.length_append,List.length_singleton]
 omega
def rExtend:V->List V->Hp->VK->Prop:=fun x vs H Q=>∃ l b xs zs,x=.ref l/\vs=[.ref b]/\H l=some (.lst xs)/\H b=some (.lst zs)/\xs.length + zs.length<=sizeLine/\Q .non (upd H l (.lst (xs++zs)))
theorem mt_extend:MtM X "list.extend" rExtend:=by
 intro pins s σ H x vs v us Q I rx rv h
 obtain ⟨l,b,xs,zs,rfl,rfl,hH,hB,hz,q⟩:=h
 cases rx
 obtain ⟨u,rfl,ru⟩:=rv.one
 cases ru
 obtain ⟨z,its,n,r,hl,e⟩:=I.lstM hH
 obtain ⟨z2,its2,n2,r2,hl2,e2⟩:=I.lstM hB
 have hsz:its.toArray.size + its2.toArray.size<=sizeLine:=by rw [List.size_toArray,List.size_toArray]; omega
 have hlong:¬ (!its.toArray.isEmpty && Builtin.List.listTooLong (its.toArray.size + its2.toArray.size))=true:=by
  rw [notLongL hsz,Bool.and_false]
  exact Bool.false_ne_true
 refine call_meets F.slot_list_extend ⟨_,e,rfl⟩ F.entry_list_extend (F.args_list_extend_2 _ _)
  (AutoSeq1.list_extend_list_list_0 l its.toArray n b its2.toArray n2 hlong (by rw [List.size_toArray]; omega) (by omega)) ⟨e,e2,?_⟩
 refine ⟨.non,_,I.lset (its':=its++its2) hH e (by simp) (r.append r2) ?_,rfl,q⟩
 rw [List.length_append]
 omega
def rPop:V->List V->Hp->VK->Prop:=fun x vs H Q=>∃ l xs y,x=.ref l/\vs=[]/\H l=some (.lst xs)/\xs[xs.length - 1]?=some y/\Q y (upd H l (.lst xs.dropLast))
theorem mt_pop:MtM X "list.pop" rPop:=by
 intro pins s σ H x vs v us Q I rx rv h
 obtain ⟨l,xs,y,rfl,rfl,hH,hy,q⟩:=h
 cases rx
 have hus:=rv.zero
 subst hus
 obtain ⟨z,its,n,r,hl,e⟩:=I.lstM hH
 obtain ⟨u,hu,ru⟩:=r.get hy
 have hy':its.toArray[its.toArray.size - 1]?=some u:=by
  show its.toArray[its.length - 1]?=some u
  rw [<- Array.getElem?_toList,<- hl]
  exact hu
 refine call_meets F.slot_list_pop ⟨_,e,rfl⟩ F.entry_list_pop (F.args_list_pop_1 _) (MeetsSeq.list_pop_last l its.toArray n u hy' (by rw [List.size_toArray]; omega)) ⟨e,?_⟩
 refine ⟨y,_,I.lset (its':=its.dropLast) hH e ?_ r.dropLast ?_,ru,q⟩
 ·show its.toArray.eraseIdxIfInBounds (its.toArray.size - 1)=its.dropLast.toArray
  rw [List.size_toArray,List.eraseIdxIfInBounds_toArray,erase_last]
 ·rw [List.length_dropLast]
  omega
def rCat:R2:=fun x y H Q=>∃ l b xs zs,x=.ref l/\y=.ref b/\H l=some (.lst xs)/\H b=some (.lst zs)/\xs.length + zs.length<=sizeLine/\∀ p,H p=none->Q (.ref p) (upd H p (.lst (xs++zs)))
theorem op_cat:OpR X (binaryOp .Add) rCat:=by
 intro pins s σ H x y v u Q I rx ry h
 obtain ⟨l,b,xs,zs,rfl,rfl,hH,hB,hz,q⟩:=h
 cases rx
 cases ry
 obtain ⟨z,its,n,r,hl,e⟩:=I.lstM hH
 obtain ⟨z2,its2,n2,r2,hl2,e2⟩:=I.lstM hB
 refine PySem.P.add_list e e2 ?_ (by rw [List.size_toArray,List.size_toArray]; omega)
 have ea:its.toArray++its2.toArray=(its++its2).toArray:=by simp
 rw [ea]
 exact ⟨.ref _,_,I.lnew (t':=s.toks) (r.append r2) (by rw [List.length_append]; omega),rfl,q _ I.fresh⟩
def rRep:R2:=fun x y H Q=>∃ l k xs,x=.ref l/\y=.int k/\H l=some (.lst xs)/\-(2 ^ 63)<=k/\k < 2 ^ 63/\xs.length * k.toNat<=sizeLine /\
 ∀ p,H p=none->Q (.ref p) (upd H p (.lst (List.replicate k.toNat xs).flatten))
theorem len_rep {α:Type} (xs:List α) (k:Nat):(List.replicate k xs).flatten.length=k * xs.length:=by
 induction k with
 | zero=>simp
 | succ k ih=>rw [List.replicate_succ,List.flatten_cons,List.length_append,ih,Nat.succ_mul,Nat.add_comm]
theorem op_rep:OpR X (binaryOp .Mult) rRep:=by
 intro pins s σ H x y v u Q I rx ry h
 obtain ⟨l,k,xs,rfl,rfl,hH,h1,h2,hz,q⟩:=h
 cases rx
 obtain ⟨t,rfl⟩:=ry
 obtain ⟨z,its,n,r,hl,e⟩:=I.lstM hH
 have hlen:its.toArray.size * k.toNat<=sizeLine:=by rw [List.size_toArray,<- hl]; exact hz
 have hcap:¬ its.toArray.size * k.toNat > (2 ^ 63 - 1) / 8:=by
  have:(sizeLine:Nat)<=(2 ^ 63 - 1) / 8:=by decide
  omega
 have hfit:¬ (!Builtin.List.listFitsIndex k)=true:=by
  rw [fitsIndex_both h1 h2]
  exact Bool.false_ne_true
 have hlong:¬ Builtin.List.listTooLong (its.toArray.size * k.toNat)=true:=by
  rw [notLongL hlen]
  exact Bool.false_ne_true
 have hnew:List.foldl (fun x1 x2=>x1++x2) #[] (List.replicate (if its.toArray.isEmpty=true then 0 else k.toNat) its.toArray)=(List.replicate k.toNat its).flatten.toArray:=by
  have f0:∀ m:Nat,List.foldl (fun x1 x2=>x1++x2) #[] (List.replicate m its.toArray)=(List.replicate m its).flatten.toArray:=fun m=>by
   have:=foldl_rep its m []
   rw [List.nil_append] at this
   exact this
  rw [f0]
  cases its with
  | nil=>simp
  | cons a r'=>rw [if_neg (by simp)]
 refine wpAny_binaryOp_repeat_ref (T:="list") (U:="int") (by decide) ⟨_,e,rfl⟩ (fun s'=>typeIs_int s' k t) noFill_list_mul F.fills_int_mul F.slot_int_rmul repeat_list F.slot_int_index.lookup
  (call_meets F.slot_int_rmul (typeIs_int s k t) F.entry_int_rmul (F.args_int_rmul_2 _ _) (int___rmul___int_list k t l its.toArray n)
   ⟨e,rfl,⟨_,e,rfl⟩,call_meets F.slot_list_mul ⟨_,e,rfl⟩ F.entry_list_mul (F.args_list_mul_2 _ _) (AutoListH.list___mul___list_int_3 l its.toArray n k t hfit hcap hlong) ⟨e,?_⟩⟩)
 rw [hnew]
 exact ⟨.ref _,_,I.lnew (t':=s.toks) (r.rep k.toNat) (by rw [len_rep,Nat.mul_comm]; exact hz),rfl,q _ I.fresh⟩
end
section
variable {κ:Type} [DecidableEq κ]
def valV (kvs:List (κ×V)) (k:κ):Option V:=(kvs.find? fun kv=>decide (kv.1=k)).map (·.2)
def putK (kvs:List (κ×V)) (k:κ) (v:V):List (κ×V) :=
 if (kvs.any fun kv=>decide (kv.1=k))=true then kvs.map (fun kv=>if kv.1=k then (kv.1,v) else kv) else kvs++[(k,v)]
def valV_pos {p:κ×V} {r:List (κ×V)} {k:κ} (e:p.1=k):valV (p::r) k=some p.2:=by simp [valV,List.find?_cons,e]
def valV_neg {p:κ×V} {r:List (κ×V)} {k:κ} (e:¬ p.1=k):valV (p::r) k=valV r k:=by simp [valV,List.find?_cons,e]
theorem valV_any (k:κ):∀ kvs:List (κ×V),(kvs.any fun kv=>decide (kv.1=k))=(valV kvs k).isSome
 | []=>rfl
 | p::r=>by
  rw [List.any_cons]
  by_cases e:p.1=k
  ·simp only [valV_pos e,decide_eq_true e,Bool.true_or,Option.isSome_some]
  ·rw [valV_neg e,decide_eq_false e,Bool.false_or]; exact valV_any k r
theorem length_putK (kvs:List (κ×V)) (k:κ) (v:V):(putK kvs k v).length<=kvs.length + 1:=by
 unfold putK
 split
 ·rw [List.length_map]; omega
 ·rw [List.length_append,List.length_cons,List.length_nil]; omega
theorem RelO.isSome_eq {o:Option V} {u:Option Value} (r:RelO o u):o.isSome=u.isSome:=by
 cases o with
 | none=>cases u with
  | none=>rfl
  | some _=>exact (show False from r).elim
 | some _=>cases u with
  | none=>exact (show False from r).elim
  | some _=>rfl
theorem KV.val {kvs:List (κ×V)} {vs:List (κ×Value)} (r:KV kvs vs) (k:κ):RelO (valV kvs k) (valueAt vs k):=by
 unfold KV at r
 induction r with
 | nil=>exact True.intro
 | @cons p q ps qs h t ih =>
  obtain ⟨h1,h2⟩:=h
  by_cases e:p.1=k
  ·have e':q.1=k:=h1.symm.trans e
   have b:valueAt (q::qs) k=some q.2:=by simp [valueAt,List.find?_cons,e']
   rw [valV_pos e,b]; exact h2
  ·have e':¬ q.1=k:=fun z=>e (h1.trans z)
   have b:valueAt (q::qs) k=valueAt qs k:=by simp [valueAt,List.find?_cons,e']
   rw [valV_neg e,b]; exact ih
theorem KV.any {kvs:List (κ×V)} {vs:List (κ×Value)} (r:KV kvs vs) (k:κ):(kvs.any fun kv=>decide (kv.1=k))=vs.any fun kv=>decide (kv.1=k):=by
 unfold KV at r
 induction r with
 | nil=>rfl
 | cons h t ih=>rw [List.any_cons,List.any_cons,ih,h.1]
theorem KV.repl {kvs:List (κ×V)} {vs:List (κ×Value)} (r:KV kvs vs) (k:κ) {y:V} {u:Value} (ry:RelV y u) :
  KV (kvs.map fun kv=>if kv.1=k then (kv.1,y) else kv) (vs.map fun kv=>if kv.1=k then (kv.1,u) else kv):=by
 unfold KV at r ⊢
 induction r with
 | nil=>exact .nil
 | @cons p q ps qs h t ih =>
  rw [List.map_cons,List.map_cons]
  refine .cons ?_ ih
  obtain ⟨h1,h2⟩:=h
  by_cases e:p.1=k
  ·rw [if_pos e,if_pos (h1.symm.trans e)]; exact ⟨h1,ry⟩
  ·rw [if_neg e,if_neg (fun z=>e (h1.trans z))]; exact ⟨h1,h2⟩
def KV.put {kvs:List (κ×V)} {vs:List (κ×Value)} (r:KV kvs vs) (k:κ) {y:V} {u:Value} (ry:RelV y u):KV (putK kvs k y) (stored vs k u):=by
 unfold putK stored
 rw [r.any k]
 by_cases e:(vs.any fun kv=>decide (kv.1=k))=true
 ·rw [if_pos e,if_pos e]; exact r.repl k ry
 ·rw [if_neg e,if_neg e]; exact Paired.snoc r ⟨rfl,ry⟩
def KV.length {kvs:List (κ×V)} {vs:List (κ×Value)} (r:KV kvs vs):kvs.length=vs.length:=Paired.length r
end
theorem kV_is {P:Program} {w:World} {k:Key} {u:Value} (r:RelV (kV k) u):(mixKind P w).is k u=true:=by
 cases k with
 | inl i=>obtain ⟨t,e⟩:=(show ∃ t,u=Value.int i t from r); subst e; exact mixKind_int P w i t
 | inr x=>obtain ⟨t,e⟩:=(show ∃ t,u=Value.str x t from r); subst e; exact mixKind_str P w x t
theorem items_are {P:Program} {w:World}:∀ {ks:List Key} {us:List Value},Vals (ks.map kV) us->ItemsAre (mixKind P w) ks us
 | [],_,r=>by rw [List.map_nil] at r; cases r; exact .nil
 | k::ks,_,r=>by
  rw [List.map_cons] at r
  cases r with
  | cons h t=>exact .cons (kV_is h) (items_are t)
abbrev KT (H:Hp):List (List Key×V)->List (List Key×Addr×Value)->Prop:=Paired fun p q=>p.1=q.1/\H q.2.1=some (.tup (p.1.map kV))/\RelV p.2 q.2.2
theorem KT.val {H:Hp} {kvs:List (List Key×V)} {xs:List (List Key×Addr×Value)} (r:KT H kvs xs) (k:List Key):RelO (valV kvs k) ((atKey xs k).map (·.2)):=by
 induction r with
 | nil=>exact True.intro
 | @cons p q ps qs h t ih =>
  obtain ⟨h1,_,h2⟩:=h
  by_cases e:p.1=k
  ·have e':q.1=k:=h1.symm.trans e
   have b:atKey (q::qs) k=some q.2:=by simp [atKey,List.find?_cons,e']
   rw [valV_pos e,b]; exact h2
  ·have e':¬ q.1=k:=fun z=>e (h1.trans z)
   have b:atKey (q::qs) k=atKey qs k:=by simp [atKey,List.find?_cons,e']
   rw [valV_neg e,b]; exact ih
theorem KT.repl {H:Hp} {kvs:List (List Key×V)} {xs:List (List Key×Addr×Value)} (r:KT H kvs xs) (k:List Key) {y:V} {u:Value} (ry:RelV y u) :
  KT H (kvs.map fun kv=>if kv.1=k then (kv.1,y) else kv) (xs.map (putAt k u)):=by
 induction r with
 | nil=>exact .nil
 | @cons p q ps qs h t ih =>
  rw [List.map_cons,List.map_cons]
  refine .cons ?_ ih
  obtain ⟨h1,h2,h3⟩:=h
  unfold putAt
  by_cases e:p.1=k
  ·rw [if_pos e,if_pos (h1.symm.trans e)]; exact ⟨h1,h2,ry⟩
  ·rw [if_neg e,if_neg (fun z=>e (h1.trans z))]; exact ⟨h1,h2,h3⟩
def KT.put {H:Hp} {kvs:List (List Key×V)} {xs:List (List Key×Addr×Value)} (r:KT H kvs xs) (k:List Key) {b:Addr} {y:V} {u:Value} (hb:H b=some (.tup (k.map kV))) (ry:RelV y u) :
  KT H (putK kvs k y) (storedH xs k b u):=by
 have e:(kvs.any fun kv=>decide (kv.1=k))=(atKey xs k).isSome:=by
  rw [valV_any,(r.val k).isSome_eq,Option.isSome_map]
 unfold putK storedH
 rw [e]
 by_cases q:(atKey xs k).isSome=true
 ·rw [if_pos q,if_pos q]; exact r.repl k ry
 ·rw [if_neg q,if_neg q]; exact Paired.snoc r ⟨rfl,hb,ry⟩
def KT.keeps {H H':Hp} {kvs:List (List Key×V)} {xs:List (List Key×Addr×Value)} (r:KT H kvs xs) (ht:∀ b ys,H b=some (.tup ys)->H' b=some (.tup ys)):KT H' kvs xs :=
 Paired.mapP r fun _ _ z=>⟨z.1,ht _ _ z.2.1,z.2.2⟩
section
variable {P:Program} {w:World} {H:Hp} {h:Heap} {a:Addr}
def rd_of {u:HO} (ok:HOk P w H h) (e:Rd H a u):ObjOk P w H h a u:=e.ok ok
def dk_rd {kvs:List (Key×V)} (ok:HOk P w H h) (e:Rd H a (.dK kvs)):kvs.length<=sizeLine/\(a == sysModules)=false/\∃ vs,KV kvs vs/\h.DictOf (mixKind P w) a vs :=
 show ObjOk P w H h a (.dK kvs) from rd_of ok e
def dk_of {kvs:List (Key×V)} (ok:HOk P w H h) (e:H a=some (.dK kvs)):kvs.length<=sizeLine/\(a == sysModules)=false/\∃ vs,KV kvs vs/\h.DictOf (mixKind P w) a vs:=dk_rd ok (.inl e)
def key_of {ks:List Key} (ok:HOk P w H h) (e:H a=some (.tup (ks.map kV))):(tupleKind (mixKind P w)).is h ks a:=by
 obtain ⟨_,its,r,o,h1,h2,n,h3,_⟩:=(show ObjOk P w H h a (.tup (ks.map kV)) from ok a _ e)
 exact ⟨o,its.toArray,n,h1,h2,h3,by simpa using items_are r⟩
def dt_rd {kvs:List (List Key×V)} (ok:HOk P w H h) (e:Rd H a (.dT kvs)):kvs.length<=sizeLine/\(a == sysModules)=false /\
  ∃ xs,KT H kvs xs/\h.DictOfH (tupleKind (mixKind P w)) a xs:=by
 obtain ⟨z,y,xs,r,o,es,ep,h1,h2,h3,h4,h5⟩:=(show ObjOk P w H h a (.dT kvs) from rd_of ok e)
 refine ⟨z,y,xs,r,o,es,ep,h1,h2,h3,h4,fun x hx=>?_,h5⟩
 have all:∀ {l:List (List Key×V)} {m:List (List Key×Addr×Value)},KT H l m->∀ x∈m,(tupleKind (mixKind P w)).is h x.1 x.2.1:=by
  intro l m q
  induction q with
  | nil=>intro x hx; exact nomatch hx
  | @cons p q ps qs hq t ih =>
   intro x hx
   rcases List.mem_cons.mp hx with e | hx
   ·subst e
    exact key_of ok (by rw [<- hq.1]; exact hq.2.1)
   ·exact ih x hx
 exact all r x hx
def dt_of {kvs:List (List Key×V)} (ok:HOk P w H h) (e:H a=some (.dT kvs)):kvs.length<=sizeLine/\(a == sysModules)=false /\
  ∃ xs,KT H kvs xs/\h.DictOfH (tupleKind (mixKind P w)) a xs:=dt_rd ok (.inl e)
end
def DGet (H:Hp) (a:Addr) (y:V) (r:Option V):Prop :=
 (∃ kvs k,Rd H a (.dK kvs)/\y=kV k/\r=valV kvs k)\/∃ kvs k b,Rd H a (.dT kvs)/\y=.ref b/\H b=some (.tup (k.map kV))/\r=valV kvs k
def DPut (H:Hp) (a:Addr) (y v:V) (H':Hp):Prop :=
 (∃ kvs k,H a=some (.dK kvs)/\y=kV k/\kvs.length < sizeLine/\H'=upd H a (.dK (putK kvs k v))) \/
 ∃ kvs k b,H a=some (.dT kvs)/\y=.ref b/\H b=some (.tup (k.map kV))/\kvs.length < sizeLine/\H'=upd H a (.dT (putK kvs k v))
theorem DPut.k {H:Hp} {a:Addr} {kvs:List (Key×V)} {k:Key} {v:V} (e:H a=some (.dK kvs)) (hl:kvs.length < sizeLine):DPut H a (kV k) v (upd H a (.dK (putK kvs k v))):=.inl ⟨kvs,k,e,rfl,hl,rfl⟩
def DPut.t {H:Hp} {a b:Addr} {kvs:List (List Key×V)} {k:List Key} {v:V} (e:H a=some (.dT kvs)) (eb:H b=some (.tup (k.map kV))) (hl:kvs.length < sizeLine) :
  DPut H a (.ref b) v (upd H a (.dT (putK kvs k v))):=.inr ⟨kvs,k,b,e,rfl,eb,hl,rfl⟩
section
variable {X:Cx} {pins:List (Addr×Obj)} {σ:St} {H:Hp} {s:Shared} {a:Addr} {y v:V} {u r:Value} {o:Option V} {A:Around} {E:Value->Shared->Prop}
def Inv.big (I:Inv X pins σ H s):sysModules < s.heap.objs.size:=by
 have h:mainGlobals < s.heap.objs.size:=(I.mod.glob.keeps I.bk).lt
 exact Nat.lt_trans (by decide) h
def d_notIn {Q:Value->Shared->Prop} (hu:A.units + 1 < cLine) (I:Inv X pins σ H s) (g:DGet H a y o) (ry:RelV y u) (h:∀ s',Inv X pins σ H s'->Q (.bool (!o.isSome)) s') :
  wpAny (model X.prog X.w) A (compareOp .NotIn u (.ref a)) Q E s:=by
 rcases g with ⟨kvs,k,e,ey,l⟩ | ⟨kvs,k,b,e,ey,eb,l⟩
 ·subst ey
  obtain ⟨z,hd,vs,rel,dd⟩:=dk_rd I.hok e
  refine wpAny_notIn_of (kV_is ry) hd dd.mapOf ?_
  rw [<- (rel.val k).isSome_eq,<- l]
  exact h _ (I.tok _)
 ·subst ey
  cases (show u=Value.ref b from ry)
  obtain ⟨z,hd,xs,rel,dd⟩:=dt_rd I.hok e
  refine wpAny_notIn_heap (tupleKind_room_in1 hu) (key_of I.hok eb) hd dd ?_
  have q:=(rel.val k).isSome_eq
  rw [Option.isSome_map] at q
  rw [<- q,<- l]
  exact h _ (I.tok _)
def d_write {h':Heap} {t':Nat} {ob:HO} (I:Inv X pins σ H s) (mu:Mut (H a)) (hs:Heap.SameBut a s.heap h') (he:∃ q,h'.get? a=some q) (new:ObjOk X.prog X.w (upd H a ob) h' a ob) :
  Inv X pins σ (upd H a ob) { s with heap:=h',toks:=t' } :=
 I.write (x:=a) (e:=a) mu (.inl rfl) (fun b q hb z=>(hs.2 b hb).trans z) he new
def dk_new {P:Program} {w:World} {H':Hp} {h':Heap} {kvs:List (Key×V)} {vs:List (Key×Value)} (z:kvs.length<=sizeLine) (hd:(a == sysModules)=false) (rel:KV kvs vs) (dd:h'.DictOf (mixKind P w) a vs) :
  ObjOk P w H' h' a (.dK kvs):=⟨z,hd,vs,rel,dd⟩
theorem d_setItem {H':Hp} {Q:Unit->Shared->Prop} (hu:A.units + 1 < cLine) (I:Inv X pins σ H s) (g:DPut H a y v H') (ry:RelV y u) (rv:RelV v r) (h:∀ s',Inv X pins σ H' s'->Q () s') :
  wpAny (model X.prog X.w) A (setItem (.ref a) u r) Q E s:=by
 rcases g with ⟨kvs,k,e,ey,l,eH⟩ | ⟨kvs,k,b,e,ey,eb,l,eH⟩
 ·subst ey eH
  obtain ⟨z,hd,vs,rel,dd⟩:=dk_of I.hok e
  have hz:vs.length<=sizeLine:=by rw [<- rel.length]; exact z
  have hl:(putK kvs k v).length<=sizeLine:=by have:=length_putK kvs k v; omega
  refine wpAny_setItem_pairs (hsz:=hz) (kV_is ry) dd fun h' dd' hs=>h _ ?_
  have he:∃ q,h'.get? a=some q:=let ⟨q,_,_,hq,_⟩:=dd'; ⟨q,hq⟩
  exact d_write I (by rw [e]; exact True.intro) hs he (dk_new hl hd (rel.put k rv) dd')
 ·subst ey eH
  cases (show u=Value.ref b from ry)
  obtain ⟨z,hd,xs,rel,dd⟩:=dt_of I.hok e
  have hz:xs.length<=sizeLine:=by rw [<- Paired.length rel]; exact z
  have hl:(putK kvs k v).length<=sizeLine:=by have:=length_putK kvs k v; omega
  refine wpAny_setItem_heap (hsz:=hz) (tupleKind_room_in1 hu) (key_of I.hok eb) dd fun h' dd' hs=>h _ ?_
  obtain ⟨q,es,ep,hq,h2,h3,h4,_,h5⟩:=dd'
  refine d_write I (by rw [e]; exact True.intro) hs ⟨q,hq⟩ ⟨hl,hd,_,(rel.put k eb rv).keeps fun c ys ec=>?_,q,es,ep,hq,h2,h3,h4,h5⟩
  rw [upd_ne (ne_of ec e (fun z=>nomatch z))]
  exact ec
end
def tDNotIn (ty td:TE):TE:=fun σ H Q=>ty σ H fun y H1=>td σ H1 fun x H2=>∃ a o,x=.ref a/\DGet H2 a y o/\Q (.bl (!o.isSome)) H2
def sDPut (td ty tv:TE):TS:=fun D σ H=>tv σ H fun v H1=>td σ H1 fun x H2=>ty σ H2 fun y H3=>∃ a H4,x=.ref a/\DPut H3 a y v H4/\D.nx σ H4
section
variable {X:Cx} {o i value:Expr} {pos pos':Pos} {td ty tv:TE}
def pc_dnotin (hu:X.A.units + 1 < cLine) (hi:PE X i ty) (ho:PE X o td):PC X .NotIn i o (tDNotIn ty td):=by
 intro pins s σ H Q I h
 refine thn (hi pins s σ H _ I h) fun iv s1 ⟨y,H1,I1,ry,q1⟩=>thn (ho pins s1 σ H1 _ I1 q1) fun u s2 ⟨x,H2,I2,rx,a,ov,ex,g,q2⟩=>?_
 subst ex
 obtain rfl:u=Value.ref a:=rx
 exact d_notIn hu I2 g ry fun s3 I3=>⟨.bl (!ov.isSome),H2,I3,rfl,q2⟩
def ps_dput (hu:X.A.units + 1 < cLine) (ho:PE X o td) (hi:PE X i ty) (hv:PE X value tv) (hs:swapsWith value (some (.Subscript o i pos')) pos.line X.env=pure false) :
  PS X (.Assign [.Subscript o i pos'] value pos) (sDPut td ty tv):=by
 intro pins s σ H D I h
 refine wpAny_Assign_Subscript (thn (hv pins s σ H _ I h) fun r s1 ⟨v,H1,I1,rv,q1⟩=>thn (ho pins s1 σ H1 _ I1 q1) fun u s2 ⟨x,H2,I2,rx,q2⟩=>thn (hi pins s2 σ H2 _ I2 q2) fun iv s3 ⟨y,H3,I3,ry,a,H4,ex,g,q3⟩=>?_) hs
 subst ex
 obtain rfl:u=Value.ref a:=rx
 exact d_setItem hu I3 g ry rv fun s4 I4=>⟨σ,H4,I4,q3⟩
end
def dt_empty {P:Program} {w:World} {H:Hp} (h:Heap) (hb:sysModules < h.objs.size):ObjOk P w H (h.push { cls:=.type "dict",data:=.dict #[] }) h.objs.size (.dT []) :=
 ⟨Nat.zero_le _,beq_eq_false_iff_ne.mpr (Ne.symm (Nat.ne_of_lt hb)),[],.nil,_,#[],0,Heap.get?_push_size _ rfl,⟨rfl,rfl,rfl⟩,rfl,rfl,List.nodup_nil⟩
def tDNewT:TE:=fun _ H Q=>∀ p,H p=none->Q (.ref p) (upd H p (.dT []))
section
variable {X:Cx} {pos:Pos}
def pe_dnewT:PE X (.Dict [] [] pos) tDNewT:=fun pins s σ H Q I h =>
 wpAny_Dict_empty ⟨.ref s.heap.objs.size,_,I.laid (a:=s.heap.objs.size) (o:=.dT []) (t':=s.toks) (fun _ _ q=>Heap.get?_push_of_some _ q) (Nat.le_refl _) (dt_empty s.heap I.big),rfl,h _ (I.hok.fresh (Nat.le_refl _))⟩
end
def IsD (H:Hp) (a:Addr):Prop:=(∃ kvs,Rd H a (.dK kvs))\/∃ kvs,Rd H a (.dT kvs)
end L2
namespace Att
open PySem PySem.W PySem.Calls PyProof.Rows
theorem ints_of_wellAll {P:Params} {h:Heap}:∀ (ns:List Int) (vs:List Value),WellAll P h vs (ns.map WData.int)->IntsAre vs ns:=by
 intro ns
 induction ns with
 | nil =>
  intro vs w
  rw [List.map_nil] at w
  cases w
  exact .nil
 | cons n ns ih =>
  intro vs w
  rw [List.map_cons] at w
  cases w with
  | cons a b =>
   cases a
   exact .cons _ _ (ih _ b)
theorem script_of {l:OpenLaw} {n:Nat} (hn:l.most=some n) {P:Params} {h:Heap} {args:List WData} {vals:List Value}
  (hpre:l.row.toRowW.claim.pre args=true) (hwl:WellAll P h vals args) :
  ∃ a vs ns,vals=[Value.ref a]/\args=[WData.list (ns.map WData.int)]/\h.get? a=some { cls:=.type "list",data:=.seq vs.toArray }/\IntsAre vs ns/\ns.length<=n:=by
 have hsh:WShape.hasAll [] args [.list .int]=true:=(pre_splitW hpre).1
 have hc:l.pre.holds [] { args:=args }=true:=(pre_splitW hpre).2
 obtain ⟨d,r,rfl,h1,h2⟩:=hasAllW_cons hsh
 obtain rfl:=hasAllW_nil h2
 obtain ⟨xs,rfl,h3⟩:=hasW_list h1
 obtain ⟨ns,rfl⟩:=items_int h3
 have hlen:ns.length<=n:=by
  unfold OpenLaw.pre at hc
  have h4:(WTm.not (.lt (.lit (.int (n:Int))) (.len (.arg 0)))).holds [] { args:=[.list (ns.map .int)] }=true:=by
   have h4:=(holds_andW hc).1
   rw [hn] at h4
   exact h4
  have h5:=condW_of h4 (w_not (w_lt w_lit (w_len_list (w_arg rfl))))
  rw [List.length_map] at h5
  refine Nat.le_of_not_lt fun q=>?_
  have q':(n:Int) < ((ns.length:Nat):Int):=by omega
  first
   | (rw [decide_eq_true q'] at h5; exact absurd h5 (by decide))
   | (simp at h5; omega)
 cases hwl with
 | cons w1 w2 =>
  cases w2
  cases w1 with
  | list ho hall=>exact ⟨_,_,ns,rfl,rfl,ho,ints_of_wellAll ns _ hall,hlen⟩
def post_true (l:OpenLaw) (args:List WData):l.row.toRowW.claim.post args (.bool true) args=true :=
 postW_of (r:=l.row.toRowW) (X:=(true == true))
  (show WShape.has [] (.bool true) .bool=true by first | rfl | decide | simp [WShape.has,WShape.arms,WShape.armsAll])
  (show (WTm.eq .res (.lit (.bool true))).value [] { args:=args,res:=some (.bool true),after:=args }=some (.bool (true == true)) from w_eq_bool (w_res rfl) w_lit) rfl
def attach_call {l:OpenLaw} {n:Nat} {q:Program} {loose:List Str} {XP:(Str->Option Value)->Heap->Prop} {YP:World->Heap->Prop} {d:DefRec}
  (hn:l.most=some n) (hdf:d.params.defaults=[])
  (call:∀ (w:World) (s₀ s₁:Shared) (mg mb:Str->Option Value) (fa:Addr) (o:Obj) (pm cd doc:Value) (a:Addr) (vs:List Value) (ns:List Int),
   Ground q loose [] XP w s₀ mg mb s₁.heap->YP w s₁.heap ->
   s₁.heap.get? fa=some o->o.data=.func (docDef d.name d.params d.body d.scope pm cd doc)->s₁.heap.CodeRec cd d.name->mg d.name=some (.ref fa) ->
   s₁.heap.get? a=some { cls:=.type "list",data:=.seq vs.toArray }->IntsAre vs ns->ns.length<=n->s₁.gens=#[] ->
   codeAny (model l.prog w) callerA (.call (.ref fa) ⟨[.ref a],[]⟩) (fun r s'=>r=.ok (.ret (.bool true))/\OldK s₁.heap s'.heap/\s'.os=s₁.os/\AllBare s'.gens) s₁) :
  WalkO q loose XP YP l.row.toRowW d [] (fun f vs=>PySem.call f vs):=by
 intro w s₀ s₁ mg mb G Y fa o pm cd doc dV kV ho hd hcd hD hmg hg args vals as hpre hlay hrd hwl hlo
 obtain rfl:dV=.none:=Dflts.none hD hdf
 obtain rfl:kV=.none:=Dflts.noKw hD
 obtain ⟨a,vs,ns,rfl,rfl,hobj,hints,hlen⟩:=script_of hn hpre hwl
 refine enter_call (codeAny_mono (call w s₀ s₁ mg mb fa o pm cd doc a vs ns G Y ho (fd_plain hd) hcd hmg hobj hints hlen hg) fun r s' hq=>?_)
 obtain ⟨rfl,h2,h3,h4⟩:=hq
 exact ⟨.inl ⟨.bool true,.bool true,[],rfl,fun _=>rfl,.bool true,post_true l _,fun _=>⟨List.Pairwise.nil,fun _ hm=>(nomatch hm)⟩⟩,h2,h3,h4⟩
end Att
namespace L2
open PySem PySem.Spec PyProof.Rows
theorem vals_ints:∀ {vs:List Value} {ns:List Int},IntsAre vs ns->Vals (ns.map V.int) vs
 | _,_,.nil=>.nil
 | _,_,.cons n t h=>.cons ⟨t,rfl⟩ (vals_ints h)
def Only (H:Hp):Prop:=∀ b,H b=none\/∃ o xs,H b=some (.frz o (.lst xs))
theorem law_call {P:Program} {w:World} {K:W.Frag} {mg mb:Str->Option Value} {CX:CXT} {k:Nat} {fa a:Addr} {fd:FuncData} {x:Str} {sp:Sp} {s₁:Shared} {vs:List Value} {ns:List Int}
  (KX:K.In s₁.heap) (hns:s₁.heap.Ns mainGlobals mg) (hb:s₁.heap.Ns builtinsNs mb) (hbb:∀ x:Str,x≠"__name__"->mb x=bootBuiltins x) (hlim:s₁.heap.NoLimit) (hg:s₁.gens=#[])
  (ha:s₁.heap.get? a=some { cls:=.type "list",data:=.seq vs.toArray }) (hi:IntsAre vs ns) (hl:ns.length<=sizeLine) (hr:Room k callerA)
  (F:∀ base:Heap,K.In base->base.Ns mainGlobals mg->FnOk P w K mg base CX k fa fd [x] sp) (hbind:∀ (s:Shared) (u:Value),BindsTo s fd ⟨[u],[]⟩ [(x,u)])
  (hsp:∀ H:Hp,Only H->SqL K H a (ns.map V.int)->sp [.ref a] H (fun v _=>v=.bl true) fun _ _ _=>False)
  (hCX:∀ H e s',CX [] H s₁ (fun _ _ _=>False) e s'->False) :
  codeAny (model P w) callerA (.call (.ref fa) ⟨[.ref a],[]⟩) (fun r s'=>r=.ok (.ret (.bool true))/\OldK s₁.heap s'.heap/\s'.os=s₁.os/\AllBare s'.gens) s₁:=by
 have rv:=vals_ints hi
 have lenV:=hi.length
 have core:∀ H:Hp,Only H->SqL K H a (ns.map V.int)->HOk P w H s₁.heap->(∀ b,H b≠none->b=a)->(H a≠none->K.lookup a=none) ->
   codeAny (model P w) callerA (.call (.ref fa) ⟨[.ref a],[]⟩) (fun r s'=>r=.ok (.ret (.bool true))/\OldK s₁.heap s'.heap/\s'.os=s₁.os/\AllBare s'.gens) s₁:=by
  intro H hO hS hok hA hK
  have base_of:∀ {b:Addr} {o:Obj},s₁.heap.get? b=some o->H b=none->(hidT s₁.heap H).get? b=some o:=fun e n=>hidT_get e n
  have noA:∀ {b:Addr} {o:Obj} {es:Array DictEntry} {ep:Nat},s₁.heap.get? b=some o->o.data=.dict es ep->H b=none:=fun {b o es ep} e d=>by
   cases q:H b with
   | none=>rfl
   | some u =>
    have e':b=a:=hA b (by rw [q]; simp)
    subst e'
    rw [ha] at e; cases e
    have d':Data.seq vs.toArray _=Data.dict es ep:=d
    cases d'
  have nsK:∀ {b:Addr} {m:Str->Option Value},s₁.heap.Ns b m->(hidT s₁.heap H).Ns b m:=fun {b m} ⟨o,es,ep,e,d,r⟩=>⟨o,es,ep,base_of e (noA e d),d,r⟩
  have hKb:K.In (hidT s₁.heap H):=fun b o e=>base_of (KX b o e) (by
   cases q:H b with
   | none=>rfl
   | some u =>
    have e':b=a:=hA b (by rw [q]; simp)
    subst e'
    rw [hK (by rw [q]; simp)] at e; cases e)
  have hM:Mod K mg (hidT s₁.heap H):=⟨hKb,nsK hns,⟨mb,nsK hb,hbb⟩,let ⟨mc,h1,h2⟩:=hlim; ⟨mc,nsK h1,h2⟩⟩
  have e0:Env0 P w K mg (hidT s₁.heap H) callerA [] s₁ H:=⟨rfl,hM,fun b o e=>of_hidT e,Nat.le_of_eq (hidT_size _ _),trivial,fun b hb=>absurd (show b∈([]:List Addr) from hb) (by simp),hok,.of_eq hg⟩
  refine codeAny_mono ((F _ hKb (nsK hns)).run callerA [] s₁ H ⟨[.ref a],[]⟩ [.ref a] [.ref a] _ _ hr e0 (hbind s₁ (.ref a)) (.cons rfl .nil) (hsp H hO hS)) fun r s' h=>?_
  cases r with
  | error e=>exact (hCX H e s' h).elim
  | ok fl =>
   cases fl with
   | next=>exact False.elim h
   | brk=>exact False.elim h
   | cont=>exact False.elim h
   | ret u =>
    obtain ⟨v,H',os,bare,un,hok',r',q⟩:=h
    have q':v=.bl true:=q
    subst q'
    obtain rfl:u=Value.bool true:=r'
    refine ⟨rfl,OldK.of_keep fun b o e=>?_,os,bare⟩
    cases q:H b with
    | none=>exact un.keep b o e q (by intro z; exact absurd (show b∈([]:List Addr) from z) (by simp)) (by simp)
    | some u =>
     rcases hO b with z | ⟨ob,xs,z⟩
     ·rw [q] at z; cases z
     ·have z2:=un.frzs b ob _ z
      obtain ⟨e1,_⟩:=hok b _ z
      obtain ⟨e2,_⟩:=hok' b _ z2
      rw [e] at e1; cases e1
      exact e2
 cases hk:K.lookup a with
 | some o =>
  have e:=KX a o hk
  rw [ha] at e
  cases e
  refine core (fun _=>none) (fun _=>.inl rfl) (.inr ⟨_,vs.toArray,_,hk,rfl,rfl,rfl,by rw [List.size_toArray,lenV]; exact hl,by simpa using rv⟩) (fun b u z=>by have z':(none:Option HO)=some u:=z; cases z') (fun b z=>absurd rfl z) fun z=>absurd rfl z
 | none =>
  refine core (fun b=>if b=a then some (.frz { cls:=.type "list",data:=.seq vs.toArray } (.lst (ns.map V.int))) else none) (fun b=>?_) (.inl (.inr ⟨{ cls:=.type "list",data:=.seq vs.toArray },if_pos rfl⟩)) (fun b u z=>?_) (fun b z=>?_) fun _=>hk
  ·by_cases hb:b=a
   ·exact .inr ⟨_,_,if_pos hb⟩
   ·exact .inl (if_neg hb)
  ·by_cases hb:b=a
   ·have z':=(if_pos hb).symm.trans z
    cases z'
    subst hb
    exact ⟨ha,by rw [List.length_map]; exact hl,vs,_,rv,ha⟩
   ·have z':=(if_neg hb).symm.trans z
    cases z'
  ·by_cases hb:b=a
   ·exact hb
   ·exact absurd (if_neg hb) z
def walk_of {l:W.OpenLaw} {n k:Nat} {q:Program} {loose:List Str} {XP:(Str->Option Value)->Heap->Prop} {YP:World->Heap->Prop} {d:DefRec} {K:Params->W.Frag} {CX:World->CXT} {sp:World->Sp} {x:Str}
  (hn:l.most=some n) (hn2:n<=sizeLine) (hdf:d.params.defaults=[]) (hr:Room k callerA)
  (hY:∀ (w:World) (h:Heap),YP w h->(K w.params).In h)
  (F:∀ (w:World) (mg:Str->Option Value) (fa:Addr) (h:Heap),(K w.params).In h->h.Ns mainGlobals mg->mg d.name=some (.ref fa) ->
   ∃ fd:FuncData,(∀ (s:Shared) (u:Value),BindsTo s fd ⟨[u],[]⟩ [(x,u)]) /\
    ∀ base:Heap,(K w.params).In base->base.Ns mainGlobals mg->FnOk l.prog w (K w.params) mg base (CX w) k fa fd [x] (sp w))
  (hsp:∀ (w:World) (H:Hp) (a:Addr) (ns:List Int),ns.length<=n->Only H->SqL (K w.params) H a (ns.map V.int)->sp w [.ref a] H (fun v _=>v=.bl true) fun _ _ _=>False)
  (hCX:∀ (w:World) (H:Hp) (s:Shared) (e:Value) (s':Shared),CX w [] H s (fun _ _ _=>False) e s'->False) :
  W.WalkO q loose XP YP l.row.toRowW d [] (fun f vs=>PySem.call f vs):=by
 refine Att.attach_call hn hdf fun w s₀ s₁ mg mb fa o pm cd doc a vs ns G Y ho hd hcd hmg hobj hints hlen hg=>?_
 have KX:=hY w _ Y
 obtain ⟨fd,hb,hF⟩:=F w mg fa _ KX G.T.g hmg
 exact law_call KX G.T.g G.T.b G.T.builtins G.T.nolimit hg hobj hints (Nat.le_trans hlen hn2) hr hF hb (fun H hO hS=>hsp w H a ns hlen hO hS) fun H e s'=>hCX w H s₁ e s'
def defArgs (s:Stmt):Arguments:=match s with
 | .FunctionDef _ a _ _ _ _ _ _ _ _=>a
 | _=>{ posonlyargs:=[],args:=[],vararg:=none,kwonlyargs:=[],kw_defaults:=[],kwarg:=none,defaults:=[] }
def defBody (s:Stmt):List Stmt:=match s with
 | .FunctionDef _ _ b _ _ _ _ _ _ _=>b
 | _=>[]
def defScope (s:Stmt):Scope:=match s with
 | .FunctionDef _ _ _ _ _ _ sc _ _ _=>sc
 | _=>{ kind:=.function,names:=[],isGenerator:=false,isCoroutine:=false }
abbrev CX0:CXT:=fun _ _ _ _ _ _=>False
abbrev E0:XK:=fun _ _ _=>False
def pass0 {X:Cx}:Passes CX0 X E0:=fun _ _ _ _ _ _ _ h=>h.elim
structure Fun (K:W.Frag) (x qual:Str) (st:Stmt) (f:Addr) (fd:FuncData):Prop where
 ex:∃ (oc:Value) (od:Option Addr) (kV doc pm:Value) (an:Option Addr) (cdv ct:Value) (osl:Array (Option Value)),
  fd=W.fnOf x qual (defArgs st) (defBody st) (defScope st) .none kV doc pm an cdv ct/\K.lookup f=some ⟨oc,od,.func fd,osl⟩/\W.codeIn K cdv qual=true
 kp:W.keepIn K (.ref f)=true
section
variable {P:Program} {w:World} {K:W.Frag} {mg:Str->Option Value} {base:Heap}
def Fun.ok {x qual:Str} {st:Stmt} {f:Addr} {fd:FuncData} {N ps:List Str} {k:Nat} {sp:Sp} (F:Fun K x qual st f fd) (S:FnScope N ps (defScope st)) (len:∀ vs H Q E,sp vs H Q E->vs.length=ps.length)
  (hbody:∀ (cdv:Value) (A:Around) (outer:List Env) (s:Shared) (H:Hp) (vs:List V) (Q:VK) (E:XK),Room k (A.deeper (envOfC qual (defScope st) s.heap.objs.size f cdv))->sp vs H Q E ->
   ∃ t,PSs (cxOf CX0 P w K mg base N qual (defScope st) f cdv A outer s H E).nox (defBody st) t/\t { nx:=fun _ H'=>Q .non H',rt:=Q } (start N vs) H):FnOk P w K mg base CX0 (k + 1) f fd ps sp:=by
 obtain ⟨oc,od,kV,doc,pm,an,cdv,ct,osl,rfl,lk,hcd⟩:=F.ex
 refine fn_of lk hcd S len fun A outer s H vs Q E hr hsp=>?_
 obtain ⟨t,h,q⟩:=hbody cdv A outer s H vs Q E hr hsp
 exact ⟨t,h.nox,q⟩
def Fun.binds {x qual:Str} {st:Stmt} {f:Addr} {fd:FuncData} {ps:List Str} (F:Fun K x qual st f fd)
  (h:∀ (kV doc pm:Value) (an:Option Addr) (cdv ct:Value) (us:List Value),us.length=ps.length->bindArgs (W.fnOf x qual (defArgs st) (defBody st) (defScope st) .none kV doc pm an cdv ct) ⟨us,[]⟩=pure (ps.zip us)):Binds K fd ps []:=by
 obtain ⟨oc,od,kV,doc,pm,an,cdv,ct,osl,rfl,lk,hcd⟩:=F.ex
 exact .all (h kV doc pm an cdv ct)
def fun_mk {x qual:Str} {st:Stmt} {f:Addr} {oc:Value} {od an:Option Addr} {osl:Array (Option Value)} {kV doc pm cdv ct:Value} (l:K.lookup f=some ⟨oc,od,.func (W.fnOf x qual (defArgs st) (defBody st) (defScope st) .none kV doc pm an cdv ct),osl⟩)
  (c:W.codeIn K cdv qual=true) (k:W.keepIn K (.ref f)=true):Fun K x qual st f (W.fnOf x qual (defArgs st) (defBody st) (defScope st) .none kV doc pm an cdv ct):=⟨⟨oc,od,kV,doc,pm,an,cdv,ct,osl,rfl,l,c⟩,k⟩
end
def hu_of {A:Around} {k:Nat} (hr:Room k A):A.units + 1 < cLine:=Nat.lt_of_le_of_lt (Nat.add_le_add_left (by decide:1<=64) _) hr.units
section
variable {X:Cx}
def pv (i:Nat) {x:Str} {pos:Pos} (hN:X.N[i]?=some x:=by rfl) (hv:Vis X.env.scope x:=by first | exact Or.inl rfl | exact Or.inr (Or.inl rfl) | exact Or.inr (Or.inr rfl)) (hd:(x == ("__debug__":Str))=false:=by decide)
  (hcd:(x == ("__classdict__":Str))=false:=by decide):PE X (.Name x pos) (tVar i):=pe_var hN hv hd hcd
end
def iteF {A B:Prop} (h:B):if false=true then A else B:=by
 rw [if_neg Bool.false_ne_true]
 exact h
def iteT {A B:Prop} (h:A):if true=true then A else B:=by
 rw [if_pos rfl]
 exact h
def ite2 {c A B:Prop} [Decidable c] (h1:c->A) (h2:¬ c->B):if c then A else B:=by
 by_cases h:c
 ·rw [if_pos h]
  exact h1 h
 ·rw [if_neg h]
  exact h2 h
def Same (H H':Hp):Prop:=∀ b o,H b=some o->H' b=some o
def Same.refl (H:Hp):Same H H:=fun _ _ h=>h
def Same.trans {H H1 H2:Hp} (a:Same H H1) (b:Same H1 H2):Same H H2:=fun c o h=>b c o (a c o h)
theorem Same.free {H H':Hp} (e:Same H H') {l:Addr} (h:H' l=Option.none):H l=Option.none:=by
 cases q:H l with
 | none=>rfl
 | some o =>
  rw [e l o q] at h
  cases h
def Same.seq {K:W.Frag} {H H':Hp} {a:Addr} {xs:List V} (e:Same H H') (h:SqL K H a xs):SqL K H' a xs:=by
 rcases h with (h | ⟨o,h⟩) | h
 ·exact .inl (.inl (e _ _ h))
 ·exact .inl (.inr ⟨o,e _ _ h⟩)
 ·exact .inr h
end L2
namespace L2
open PySem
def cloAcc (cells:List (Str×Addr)):List (Str×NameKind)->List (Str×Addr)->List (Str×Addr)
 | [],acc=>acc
 | (n,k)::r,acc=>if k == .free then cloAcc cells r ((n,(cells.lookup n).getD 0)::acc) else cloAcc cells r acc
def cloLoop (env:Env) (l:List (Str×NameKind)) (acc:List (Str×Addr)):Sem (List (Str×Addr)):=do
 let mut cs:=acc
 for (name,kind) in l do
  if kind == .free then cs:=(name,<- cellOf env name)::cs
 return cs
theorem cloLoop_is {env:Env}:∀ (l:List (Str×NameKind)) (acc:List (Str×Addr)),(∀ y∈l,y.2=.free->∃ c,env.cells.lookup y.1=some c) ->
  cloLoop env l acc=pure (cloAcc env.cells l acc)
 | [],acc,_=>rfl
 | (n,k)::r,acc,h=>by
  have ih:=fun acc=>cloLoop_is r acc fun y hy=>h y (List.mem_cons_of_mem _ hy)
  unfold cloLoop at ih ⊢
  rw [cloAcc]
  cases hk:(k == NameKind.free) with
  | false =>
   simp only [List.forIn_cons,hk,Bool.false_eq_true,if_false,pure_bind] at ih ⊢
   exact ih acc
  | true =>
   obtain ⟨c,hc⟩:=h (n,k) List.mem_cons_self (by simpa using hk)
   have hc':env.cells.lookup n=some c:=hc
   simp only [List.forIn_cons,hk,if_true,cellOf,hc',pure_bind,Option.getD_some] at ih ⊢
   exact ih _
def closure_is {scope:Scope} {env:Env} (h:∀ y∈scope.names,y.2=.free->∃ c,env.cells.lookup y.1=some c):closureFor scope env=pure (cloAcc env.cells scope.names []) :=
 cloLoop_is scope.names [] h
theorem cloAcc_from {cells:List (Str×Addr)} {x:Str} {c:Addr}:∀ {l:List (Str×NameKind)} {acc:List (Str×Addr)},(∀ y∈l,y.2=.free->∃ c,cells.lookup y.1=some c) ->
  (cloAcc cells l acc).lookup x=some c->acc.lookup x=some c\/cells.lookup x=some c
 | [],acc,_,h=>.inl h
 | (n,k)::r,acc,hl,h=>by
  rw [cloAcc] at h
  by_cases hk:(k == NameKind.free)=true
  ·rw [if_pos hk] at h
   obtain ⟨c',hc⟩:=hl (n,k) List.mem_cons_self (by simpa using hk)
   have hc':cells.lookup n=some c':=hc
   rcases cloAcc_from (fun y hy=>hl y (List.mem_cons_of_mem _ hy)) h with z | z
   ·rw [List.lookup_cons,hc'] at z
    cases hx:(x == n) with
    | true =>
     rw [hx] at z
     have e:x=n:=by simpa using hx
     subst e
     have z':c'=c:=by simpa using z
     subst z'
     exact .inr hc'
    | false=>rw [hx] at z; exact .inl z
   ·exact .inr z
  ·rw [if_neg hk] at h
   exact cloAcc_from (fun y hy=>hl y (List.mem_cons_of_mem _ hy)) h
theorem cloAcc_keeps {cells:List (Str×Addr)} {x:Str}:∀ {l:List (Str×NameKind)} {acc:List (Str×Addr)},(∃ c,acc.lookup x=some c)->∃ c,(cloAcc cells l acc).lookup x=some c
 | [],acc,h=>h
 | (n,k)::r,acc,h=>by
  rw [cloAcc]
  by_cases hk:(k == NameKind.free)=true
  ·rw [if_pos hk]
   refine cloAcc_keeps ?_
   rw [List.lookup_cons]
   cases hx:(x == n) with
   | true=>exact ⟨_,rfl⟩
   | false=>exact h
  ·rw [if_neg hk]
   exact cloAcc_keeps h
theorem cloAcc_has {cells:List (Str×Addr)} {x:Str}:∀ {l:List (Str×NameKind)} {acc:List (Str×Addr)},(x,NameKind.free)∈l->∃ c,(cloAcc cells l acc).lookup x=some c
 | [],acc,h=>nomatch h
 | (n,k)::r,acc,h=>by
  rw [cloAcc]
  rcases List.mem_cons.mp h with e | h
  ·cases e
   rw [if_pos (by rfl)]
   refine cloAcc_keeps ?_
   rw [List.lookup_cons,beq_self_eq_true]
   exact ⟨_,rfl⟩
  ·by_cases hk:(k == NameKind.free)=true
   ·rw [if_pos hk]; exact cloAcc_has h
   ·rw [if_neg hk]; exact cloAcc_has h
def relabel_seen {scope:Scope} {env:Env} (nc:∀ y∈scope.names,y.2≠.cell) {x:Str} (h:(relabel scope env).names.lookup x=some .cell\/(relabel scope env).names.lookup x=some .free):(x,NameKind.free)∈scope.names:=by
  have go:∀ (l:List (Str×NameKind)),(∀ y∈l,y.2≠.cell) ->
      ((l.map fun (n,k)=>if (k == NameKind.free && env.scope.kind == .function && env.kindOf n == some .cell) then (n,NameKind.cell) else (n,k)).lookup x=some .cell \/
       (l.map fun (n,k)=>if (k == NameKind.free && env.scope.kind == .function && env.kindOf n == some .cell) then (n,NameKind.cell) else (n,k)).lookup x=some .free)->(x,NameKind.free)∈l:=by
    intro l
    induction l with
    | nil=>intro _ h; rcases h with h | h <;> cases h
    | cons a r ih =>
      obtain ⟨n,k⟩:=a
      intro nc h
      have nck:k≠.cell:=nc (n,k) List.mem_cons_self
      simp only [List.map_cons] at h
      by_cases hx:(x == n)=true
      · have e:x=n:=by simpa using hx
        subst e
        by_cases hk:k=.free
        · subst hk; exact List.mem_cons_self
        · have hb:(k == NameKind.free)=false:=by simpa using hk
          simp only [hb,Bool.false_and,Bool.false_eq_true,if_false,List.lookup_cons,beq_self_eq_true] at h
          rcases h with h | h
          · exact absurd (Option.some.inj h) nck
          · exact absurd (Option.some.inj h) hk
      · have hx':(x == n)=false:=by simpa using hx
        refine List.mem_cons_of_mem _ (ih (fun y hy=>nc y (List.mem_cons_of_mem _ hy)) ?_)
        have el:∀ (p:Str×NameKind) (t:List (Str×NameKind)),p.1=n->(p::t).lookup x=t.lookup x:=by
          intro p t e
          obtain ⟨a,b⟩:=p
          have e':a=n:=e
          subst e'
          rw [List.lookup_cons,hx']
        rw [el _ _ (by split <;> rfl)] at h
        exact h
  exact go scope.names nc h
def relabel_local {scope:Scope} {env:Env} {x:Str} (h:(relabel scope env).names.lookup x=some .local):scope.names.lookup x=some .local:=by
 have go:∀ (l:List (Str×NameKind)),
   (l.map fun (n,k)=>if (k == NameKind.free && env.scope.kind == .function && env.kindOf n == some .cell) then (n,NameKind.cell) else (n,k)).lookup x=some .local->l.lookup x=some .local:=by
  intro l
  induction l with
  | nil=>intro h; cases h
  | cons a r ih =>
   obtain ⟨n,k⟩:=a
   intro h
   simp only [List.map_cons] at h
   by_cases hx:(x == n)=true
   ·have e:x=n:=by simpa using hx
    subst e
    by_cases hc:(k == NameKind.free && env.scope.kind == .function && env.kindOf x == some .cell)=true
    ·rw [if_pos hc,List.lookup_cons,beq_self_eq_true] at h
     cases h
    ·rw [if_neg hc,List.lookup_cons,beq_self_eq_true] at h
     rw [List.lookup_cons,beq_self_eq_true]
     exact h
   ·have hx':(x == n)=false:=by simpa using hx
    have el:∀ (p:Str×NameKind) (t:List (Str×NameKind)),p.1=n->(p::t).lookup x=t.lookup x:=by
     intro p t e
     obtain ⟨a,b⟩:=p
     have e':a=n:=e
     subst e'
     rw [List.lookup_cons,hx']
    rw [el _ _ (by split <;> rfl)] at h
    rw [el _ _ rfl]
    exact ih h
 exact go scope.names h
end L2
namespace L2
open PySem PySem.Spec PyProof.Rows
def nbOf (N T:List Str) (cs:List Nat):List Str:=T++cs.map fun i=>N.getD i Str.empty
def sgOf (σ:St) (T:List Str) (cs:List Nat):St:=T.map (fun _=>none)++cs.map fun i=>σ.getD i none
structure CScope (outer scope:Scope) (N T:List Str) (cs:List Nat):Prop where
 kind:scope.kind=.function
 nocell:∀ y∈scope.names,y.2≠.cell
 names:∀ y∈scope.names,y.2=.local->scope.names.lookup y.1=some .local
 free:∀ y∈scope.names,y.2=.free->outer.names.lookup y.1=some .cell\/outer.names.lookup y.1=some .free
 cap:∀ i∈cs,scope.names.lookup (N.getD i Str.empty)≠some .local
def cscopeB (outer scope:Scope) (N:List Str) (cs:List Nat):Bool :=
 decide (scope.kind=.function) && (scope.names.all (fun y=>!decide (y.2=NameKind.cell)) && (scope.names.all (fun y=>!decide (y.2=NameKind.local) || decide (scope.names.lookup y.1=some NameKind.local)) &&
  (scope.names.all (fun y=>!decide (y.2=NameKind.free) || (decide (outer.names.lookup y.1=some NameKind.cell) || decide (outer.names.lookup y.1=some NameKind.free))) && cs.all (fun i=>!decide (scope.names.lookup (N.getD i Str.empty)=some NameKind.local)))))
def CScope.ok {outer scope:Scope} {N T:List Str} {cs:List Nat} (h:cscopeB outer scope N cs=true):CScope outer scope N T cs:=by
 unfold cscopeB at h
 simp only [Bool.and_eq_true,List.all_eq_true,Bool.or_eq_true,decide_eq_true_eq,Bool.not_eq_true',decide_eq_false_iff_not] at h
 obtain ⟨h1,h2,h3,h4,h5⟩:=h
 exact ⟨h1,h2,fun y hy e=>(h3 y hy).resolve_left (fun q=>q e),fun y hy e=>(h4 y hy).resolve_left (fun q=>q e),h5⟩
def nd_of {l:List Str} (h:decide l.Nodup=true):l.Nodup:=of_decide_eq_true h
def blk (X:Cx) (T:List Str) (cs:List Nat) (scope:Scope) (C:Addr) (s₀:Shared) (H₀:Hp) (ex:List Addr):Cx where
 prog:=X.prog
 w:=X.w
 K:=X.K
 mg:=X.mg
 base:=X.base
 A:=X.A
 N:=nbOf X.N T cs
 s₀:=s₀
 H₀:=H₀
 env:=compEnvC scope (cloAcc X.env.cells scope.names []) C X.env
 outer:=X.stack
 stack:=X.stack
 ex:=ex
 fn:=fun _=>false
 calm:=X.calm
 pn:=[]
 xe:=fun _ _=>False
section
variable {X:Cx} {pins:List (Addr×Obj)} {σ:St} {H:Hp} {s:Shared} {scope:Scope} {T:List Str} {cs:List Nat} {fp:List Addr}
def Inv.hl (I:Inv X pins σ H s) (S:CScope X.env.scope scope X.N T cs):∀ y∈scope.names,y.2=.free->∃ c,X.env.cells.lookup y.1=some c :=
 fun y hy e=>I.ok.has y.1 (S.free y hy e)
def Inv.clo (I:Inv X pins σ H s) (S:CScope X.env.scope scope X.N T cs) {x:Str} {c:Addr} (h:(cloAcc X.env.cells scope.names []).lookup x=some c):X.env.cells.lookup x=some c :=
 (cloAcc_from (I.hl S) h).resolve_left (by simp)
theorem inv_blk (I:Inv X pins σ H s) (S:CScope X.env.scope scope X.N T cs) (hf:∀ b∈fp,FpOk X pins H b) (hfe:∀ b∈fp,∃ o,s.heap.get? b=some o) {C:Addr} {h1:Heap} {m:Str->Option Value} {tk:Nat}
  (hC:s.heap.objs.size<=C) (ns:h1.Ns C m) (k:∀ b o,s.heap.get? b=some o->h1.get? b=some o) :
  Inv (blk X T cs scope C s H fp) [] (sgOf σ T cs) H { s with heap:=h1,toks:=tk }:=by
 have fr:H C=none:=I.hok.fresh hC
 have cellS:∀ {c:Addr} {v:Option Value},s.heap.IsCell c v->h1.IsCell c v:=fun ⟨o,e,d⟩=>⟨o,k _ o e,d⟩
 refine ⟨⟨I.ok.mod,S.kind,I.ok.glob,I.ok.blt,hC,fun x y c e1 e2=>I.ok.inj x y c (I.clo S e1) (I.clo S e2),fun x hx=>cloAcc_has (relabel_seen S.nocell hx),fun x c h _=>absurd (show false=true from h) Bool.false_ne_true,
  I.ok.hd,I.ok.frames,.inl rfl,fun b hb=>⟨?_,fun x c e=>(hf b hb).2.2.2.2.1 x c (I.clo S e)⟩,I.bs,Nat.le_trans I.ok.bsz I.sz,fun b o e hb=>?_,fun b hb z=>?_,I.stack,I.stkFree⟩,
  rfl,I.bare,Un.kept k,⟨m,ns,fun i x v h1' h2' h3'=>?_⟩,fun x c e=>?_,fr,fun x c e=>I.freeC x c (I.clo S e),fun p hp=>absurd (show p∈([]:List (Addr×Obj)) from hp) (by simp),I.hok.kept k,?_⟩
 ·obtain ⟨o,e⟩:=hfe b hb
  exact Nat.ne_of_lt (Nat.lt_of_lt_of_le (Heap.lt_size e) hC)
 ·rcases (hf b hb).2.2.2.1 with z | z
  ·exact I.ok.noex b o e z
  ·exact absurd (Nat.lt_of_lt_of_le (Nat.lt_of_lt_of_le (Heap.lt_size e) I.ok.bsz) z) (Nat.lt_irrefl _)
 ·rcases List.mem_cons.mp (I.stkSub b z) with e | e
  ·exact (hf b hb).2.1 e
  ·exact (hf b hb).2.2.1 e
 ·have h2:(sgOf σ T cs)[i]?=some (some v):=h2'
  have h1'':(nbOf X.N T cs)[i]?=some x:=h1'
  unfold sgOf at h2
  unfold nbOf at h1''
  by_cases hi:i < T.length
  ·rw [List.getElem?_append_left (by simpa using hi),List.getElem?_map] at h2
   cases e:T[i]? with
   | none=>rw [e] at h2; cases h2
   | some a=>rw [e] at h2; cases h2
  ·rw [List.getElem?_append_right (by simpa using hi),List.getElem?_map,List.length_map] at h2
   rw [List.getElem?_append_right (by omega),List.getElem?_map] at h1''
   cases e:cs[i - T.length]? with
   | none=>rw [e] at h2; cases h2
   | some c0 =>
    rw [e] at h2 h1''
    have ex:X.N.getD c0 Str.empty=x:=Option.some.inj h1''
    have ev:σ.getD c0 none=some v:=Option.some.inj h2
    have eσ:σ[c0]?=some (some v):=by
     rw [List.getD_eq_getElem?_getD] at ev
     cases q:σ[c0]? with
     | none=>rw [q] at ev; cases ev
     | some z=>rw [q] at ev; exact congrArg some ev
    have hlt:c0 < X.N.length:=by
     have:=(List.getElem?_eq_some_iff.mp eσ).1
     rw [I.len] at this
     exact this
    have eN:X.N[c0]?=some x:=by
     rw [List.getD_eq_getElem?_getD,List.getElem?_eq_getElem hlt] at ex
     rw [List.getElem?_eq_getElem hlt]
     exact congrArg some ex
    have hfree:(x,NameKind.free)∈scope.names:=by
     rcases h3' with z | z | z
     ·exact absurd (relabel_local z) (by rw [<- ex]; exact S.cap c0 (List.mem_of_getElem? e))
     ·exact relabel_seen S.nocell (.inl z)
     ·exact relabel_seen S.nocell (.inr z)
    have ok:=S.free _ hfree rfl
    obtain ⟨m',hn',hl'⟩:=I.loc
    obtain ⟨u,r,l⟩:=hl' c0 x v eN eσ (.inr ok)
    refine ⟨u,r,?_⟩
    rcases l with ⟨kd,_⟩ | ⟨_,c,ec,z⟩
    ·have kd':X.env.scope.names.lookup x=some .local:=kd
     rcases ok with q | q <;> (rw [show X.env.scope.names.lookup x=_ from q] at kd'; cases kd')
    ·obtain ⟨c',ec'⟩:=cloAcc_has (cells:=X.env.cells) (acc:=[]) hfree
     have:c'=c:=by
      have q:=I.clo S ec'
      rw [ec] at q
      exact (Option.some.inj q).symm
     subst this
     refine .inr ⟨?_,c',ec',cellS z⟩
     rcases h3' with q | q | q
     ·exact absurd (relabel_local q) (by rw [<- ex]; exact S.cap c0 (List.mem_of_getElem? e))
     ·exact .inl q
     ·exact .inr q
 ·obtain ⟨v,z⟩:=I.cell x c (I.clo S e)
  exact ⟨v,cellS z⟩
 ·show (sgOf σ T cs).length=(nbOf X.N T cs).length
  simp [sgOf,nbOf]
def Inv.track {D:Addr} {its:List Value} {n:Nat} {ys:List V} (I:Inv X pins σ H s) (hD:s.heap.get? D=some { cls:=.type "list",data:=.seq its.toArray n }) (f:FpOk X pins H D) (rv:Vals ys its) (hz:ys.length<=sizeLine) :
  Inv X pins σ (upd H D (.lst ys)) s:=by
 obtain ⟨f0,f1,f2,f3,f4,f5⟩:=f
 have hok:HOk X.prog X.w (upd H D (.lst ys)) s.heap:=fun b u e=>by
  by_cases hb:b=D
  ·subst hb
   rw [upd_same] at e
   cases e
   exact ⟨hz,its,n,rv,hD⟩
  ·rw [upd_ne hb] at e
   exact (I.hok b u e).stay (fun _ _ _ q=>q) (fun c q=>by rw [upd_ne (ne_of_none q f0)]; exact q) fun c xs q=>by rw [upd_ne (ne_of_none q f0)]; exact q
 have st:=I.step (H':=upd H D (.lst ys)) (h':=s.heap) (g':=s.gens) (t':=s.toks) (d':=s.drawn) (ch:=[D])
  (fun b hb=>by
   have e:b=D:=by simpa using hb
   subst e
   exact ⟨f3,f1,f4,f5⟩)
  (fun b o _ _ _ e _=>e) (fun b o _ _ _ e _=>⟨o.slots,e⟩) (fun b o hc e n=>by rw [upd_ne (fun z=>hc (by simp [z]))]; exact n) (fun b o _ e=>⟨o,e⟩)
  (fun b xs e=>by rw [upd_ne (ne_of_none e f0)]; exact e) (fun b o u e=>by rw [upd_ne (ne_of_none e f0)]; exact e) (fun b ps e=>⟨#[],by rw [upd_ne (ne_of_none e f0),e]; simp⟩) (fun m h=>h) hok I.bare
 exact st
end
section
variable {prog:Program} {w:World} {A:Around} {R:Result->Shared->Prop} {s:Shared}
abbrev tstTree (ifs:List Expr) (env:Env):Sem Bool:=forIn ifs true fun c r=>if r=true then do let ok <- isTrue c env (eval c env); pure (ForInStep.yield ok) else pure (ForInStep.yield r)
theorem compLoop_gen {elt target iter:Expr} {ifs:List Expr} {scope:Scope} {pos:Pos} {it acc:Value} {env:Env} (I:Nat->Shared->Prop)
  (turn:∀ n s,I n s->wpAny (model prog w) A (pyNext it) (fun r s₁=>match r with
   | none=>R (.ok .next) s₁
   | some v=>wpAny (model prog w) A (letOwnedTupleGo target it v) (fun _ s₂=>wpAny (model prog w) A (assign target env v) (fun _ s₃ =>
     wpAny (model prog w) A (tstTree ifs env) (fun ok s₄ =>
      if ok=true then wpAny (model prog w) A (eval elt env) (fun x s₅ =>
       wpAny (model prog w) A (call (.builtin "list.append") [acc,x]) (fun _ s₆=>∃ m,m < n/\I m s₆) (fun _ _=>False) s₅) (fun _ _=>False) s₄
      else ∃ m,m < n/\I m s₄) (fun _ _=>False) s₃) (fun _ _=>False) s₂) (fun _ _=>False) s₁) (fun _ _=>False) s)
  (n:Nat) (h:I n s) :
  codeAny (model prog w) A (.compLoop (.ListComp elt [⟨target,iter,ifs,0⟩] scope pos) 0 it acc env) R s:=by
 refine codeAny_loop rfl I (fun n s hI=>?_) n h
 show wpAny _ A ((compTurn (.ListComp elt [⟨target,iter,ifs,0⟩] scope pos) 0 it acc env).onRaise (fun x=>do noteFrame x env; theTreesLotGoes x)) _ _ s
 refine wpAny_noted ?_
 rw [compTurn_list]
 refine wpAny_bind (wpAny_standAt (wpAny_bind (wpAny_mono (turn n s hI) (fun r s₁ h₁=>?_) fun _ _ h'=>False.elim h')))
 cases r with
 | none=>exact wpAny_pure h₁
 | some v =>
  refine wpAny_bind (wpAny_mono h₁ (fun _ s₂ h₂=>?_) fun _ _ h'=>False.elim h')
  refine wpAny_bind (wpAny_mono h₂ (fun _ s₃ h₃=>wpAny_bind (wpAny_mono h₃ (fun ok s₄ h₄=>?_) fun _ _ h'=>False.elim h')) fun _ _ h'=>False.elim h')
  cases ok with
  | false=>exact wpAny_pure ⟨rfl,h₄⟩
  | true =>
   exact wpAny_bind (wpAny_bind (wpAny_mono h₄ (fun x s₅ h₅=>wpAny_bind (wpAny_mono h₅ (fun _ s₆ h₆=>wpAny_pure (wpAny_pure ⟨rfl,h₆⟩)) fun _ _ h'=>False.elim h')) fun _ _ h'=>False.elim h'))
end
def PTs (X:Cx) (ifs:List Expr) (t:TT):Prop :=
 ∀ (pins:List (Addr×Obj)) (s:Shared) (σ:St) (H:Hp) (Q:Bool->Hp->Prop),Inv X pins σ H s->t σ H Q->wpAny (model X.prog X.w) X.A (tstTree ifs X.env) (TP X pins σ Q) X.xe s
def tTrue:TT:=fun _ H Q=>Q true H
def pts_nil {X:Cx}:PTs X [] tTrue:=fun pins s σ H Q I h=>wpAny_tests_nil ⟨H,I,h⟩
def pts_one {X:Cx} {c:Expr} {t:TT} (hc:PT X c t):PTs X [c] t:=fun pins s σ H Q I h=>wpAny_tests_one (hc pins s σ H Q I h)
def Ag (n:Nat) (σ σ0:St):Prop:=σ.length=σ0.length/\∀ i,n<=i->σ[i]?=σ0[i]?
def GKeeps (g:TG) (n:Nat):Prop:=∀ σ0 x σ H R,Ag n σ σ0->g x σ H R->g x σ H fun σ2 H2=>R σ2 H2/\Ag n σ2 σ0
def GsKeeps (g:TGs) (n:Nat):Prop:=∀ σ0 xs σ H R,Ag n σ σ0->g xs σ H R->g xs σ H fun σ2 H2=>R σ2 H2/\Ag n σ2 σ0
theorem Ag.set {n i:Nat} {σ σ0:St} (a:Ag n σ σ0) (h:i < n) (v:Option V):Ag n (σ.set i v) σ0 :=
 ⟨by rw [List.length_set]; exact a.1,fun j hj=>(List.getElem?_set_ne (by omega)).trans (a.2 j hj)⟩
def gk_name {i n:Nat} (h:i < n):GKeeps (gName i) n:=fun σ0 x σ H R a q=>⟨q,a.set h _⟩
def gks_nil {n:Nat}:GsKeeps gNil n:=fun σ0 xs σ H R a q=>⟨q.1,q.2,a⟩
def gks_cons {i n:Nat} {u:TGs} (h:i < n) (h2:GsKeeps u n):GsKeeps (gCons (gName i) u) n:=fun σ0 xs σ H R a q=>by
 obtain ⟨v,r,e,q⟩:=q
 exact ⟨v,r,e,h2 σ0 r _ _ _ (a.set h _) q⟩
def gk_tup {K:W.Frag} {m n:Nat} {t:TGs} (h:GsKeeps t n):GKeeps (gTup K m t) n:=fun σ0 x σ H R ag q=>by
 obtain ⟨a,xs,e,hq,hl,q⟩:=q
 exact ⟨a,xs,e,hq,hl,h σ0 xs σ H R ag q⟩
section
variable {X:Cx} {scope:Scope} {T:List Str} {cs:List Nat} {elt tg iter:Expr} {ifs:List Expr} {g:TG} {tt:TT} {te:TE} {pos:Pos}
theorem comp_core {RR:Value->Addr->Result->Shared->Prop} {E:Value->Shared->Prop} {Fin:List V->Hp->Prop} {pins:List (Addr×Obj)} {σ:St} {H:Hp} {s:Shared} {J:It} {fp:List Addr} {it:Addr} {tn:Nat->Heap->Prop}
  (I:Inv X pins σ H s) (hc:X.calm=true) (S:CScope X.env.scope scope X.N T cs) (Tn:Turn X.prog X.w X.K tg J fp it tn) (st:tn 0 s.heap) (hf:∀ b∈fp,FpOk X pins H b)
  (hg:∀ C s₀ H₀ ex,PG (blk X T cs scope C s₀ H₀ ex) tg g) (ht:∀ C s₀ H₀ ex,PTs (blk X T cs scope C s₀ H₀ ex) ifs tt) (he:∀ C s₀ H₀ ex,PE (blk X T cs scope C s₀ H₀ ex) elt te) (hk:GKeeps g T.length)
  (W:Nat->Nat->List V->Hp->Prop) (w0:∃ m,W 0 m [] H)
  (turn:∀ i m ys H,W i m ys H->(J.stop i H/\ys.length<=sizeLine/\Fin ys H)\/(J.go i H/\ys.length < sizeLine/\∃ N:List V->Hp->Prop,(∀ ys' H',N ys' H'->∃ m',m' < m/\W (i + 1) m' ys' H') /\
   ∀ x H',J.yld i H x H'->g x (sgOf σ T cs) H' fun σ2 H2=>tt σ2 H2 fun b H3=>if b=true then te σ2 H3 fun y H4=>N (ys++[y]) H4 else N ys H3))
  (fin:∀ (D C:Addr) (s':Shared) (m:Str->Option Value) (ys:List V) (H':Hp),Fin ys H'->H' D=none->s'.heap.Ns C m->FpOk X pins H' C->C≠D->Inv X pins σ (upd H' D (.lst ys)) s'->RR (.ref D) C (.ok .next) s') :
  wpAny (model X.prog X.w) X.A (newList []) (fun acc s₃=>wpAny (model X.prog X.w) X.A (newFunctionEnv scope X.env.globals (cloAcc X.env.cells scope.names []) [] X.env.qual none .none (some X.env)) (fun cenv s₄ =>
   codeAny (model X.prog X.w) X.A (.compStart (.ListComp elt [⟨tg,iter,ifs,0⟩] scope pos) 0 (.ref it) acc { cenv with scope:=relabel scope X.env }) (RR acc cenv.locals) s₄) E s₃) E s:=by
 refine wpAny_newObj_type (wpAny_newFunctionEnv S.nocell (by intro y hy; simp at hy) (fun h₁ hns₁ hsb₁=>?_) S.kind)
 dsimp only at hns₁ hsb₁ ⊢
 generalize hH2:s.heap.push { cls:=.type "list",dict:=none,data:=.seq ([]:List Value).toArray }=H2 at hns₁ hsb₁ ⊢
 have hCe:H2.objs.size=s.heap.objs.size + 1:=by rw [<- hH2,Heap.size_push]
 have hDC:s.heap.objs.size≠H2.objs.size:=by rw [hCe]; exact Nat.ne_of_lt (Nat.lt_succ_self _)
 have hCle:s.heap.objs.size<=H2.objs.size:=by rw [hCe]; exact Nat.le_succ _
 have old:∀ b o,s.heap.get? b=some o->h₁.get? b=some o:=fun b o e =>
  hsb₁.extBut b o (by rw [hCe]; exact Nat.ne_of_lt (Nat.lt_succ_of_lt (Heap.lt_size e))) (Heap.get?_push_of_some _ (hH2 ▸ Heap.get?_push_of_some _ e))
 have hacc:h₁.get? s.heap.objs.size=some { cls:=.type "list",data:=.seq ([]:List Value).toArray 0 }:=hsb₁.extBut _ _ hDC (Heap.get?_push_of_some _ (hH2 ▸ Heap.get?_push_size _ rfl))
 have hfe:∀ b∈fp,∃ o,s.heap.get? b=some o:=fun b hb=>let ⟨o,e,_⟩:=Tn.obj _ _ st b hb; ⟨o,e⟩
 have hlt:∀ b∈fp,b < s.heap.objs.size:=fun b hb=>let ⟨o,e⟩:=hfe b hb; Heap.lt_size e
 have st₁:tn 0 h₁:=Tn.keep _ _ _ st fun b _ o e=>old b o e
 generalize hDD:s.heap.objs.size=D at *
 generalize hCC:H2.objs.size=C at *
 have hnD:H D=none:=I.hok.fresh (Nat.le_of_eq hDD)
 have stat:∀ {H':Hp} {its:List Value} {n:Nat},(∀ b∈fp,H' b=none)->∀ b∈fp,FpOk (blk X T cs scope C s H fp) [(D,({ cls:=.type "list",data:=.seq its.toArray n }:Obj))] H' b:=fun hn b hb=>by
  obtain ⟨f0,f1,f2,f3,f4,f5⟩:=hf b hb
  refine ⟨hn b hb,Nat.ne_of_lt (Nat.lt_of_lt_of_le (hlt b hb) hCle),fun z=>?_,.inl hb,fun x c e=>f4 x c (I.clo S e),fun p hp z=>?_⟩
  ·rcases List.mem_cons.mp (I.stkSub b z) with e | e
   ·exact f1 e
   ·exact f2 e
  ·have e:p.1=D:=by
    rcases List.mem_append.mp hp with q | q
    ·exact absurd (show p∈([]:List (Addr×Obj)) from q) (by simp)
    ·rw [List.mem_singleton.mp q]
   exact absurd (hlt b hb) (by rw [<- z,e]; exact Nat.lt_irrefl _)
 have loop:∀ tk:Nat,codeAny (model X.prog X.w) X.A (.compLoop (.ListComp elt [⟨tg,iter,ifs,0⟩] scope pos) 0 (.ref it) (.ref D) (compEnvC scope (cloAcc X.env.cells scope.names []) C X.env)) (RR (.ref D) C) { s with heap:=h₁,toks:=tk }:=by
  intro tk
  have I1:Inv (blk X T cs scope C s H fp) [] (sgOf σ T cs) H { s with heap:=h₁,toks:=tk }:=inv_blk I S hf hfe (by rw [hDD]; exact hCle) hns₁ old
  obtain ⟨m0,w0⟩:=w0
  have pinD:∀ {σ':St} {H':Hp} {s':Shared} {its:List Value} {n:Nat} {pl:List (Addr×Obj)},Inv (blk X T cs scope C s H fp) pl σ' H' s'->s'.heap.get? D=some { cls:=.type "list",data:=.seq its.toArray n }->H' D=none ->
    Inv (blk X T cs scope C s H fp) [(D,({ cls:=.type "list",data:=.seq its.toArray n }:Obj))] σ' H' s':=fun {σ' H' s' its n pl} J e hn=>J.pins_of fun p hp=>by
   obtain rfl:=List.mem_singleton.mp hp
   refine ⟨e,hn,hDC,fun z=>?_,fun v q=>by cases q⟩
   have z':D∈frs X.stack:=z
   obtain ⟨_,o,ho,_⟩:=I.stack.mem z'
   exact absurd (Heap.lt_size ho) (by rw [hDD]; exact Nat.lt_irrefl _)
  refine compLoop_gen (fun n s'=>∃ (i:Nat) (ys:List V) (its:List Value) (k:Nat) (H':Hp),Inv (blk X T cs scope C s H fp) [(D,({ cls:=.type "list",data:=.seq its.toArray k }:Obj))] (sgOf σ T cs) H' s'/\Vals ys its/\tn i s'.heap/\(∀ b∈fp,H' b=none)/\W i n ys H') ?_ m0
   ⟨0,[],[],0,H,pinD I1 hacc hnD,.nil,st₁,fun b hb=>(hf b hb).1,w0⟩
  rintro n s1 ⟨i,ys,its,k,H1,J1,rv,st1,fr1,w1⟩
  rcases turn i n ys H1 w1 with ⟨stop,hz,fq⟩ | ⟨go,hz,N,hN,step⟩
  ·refine wpAny_mono (Tn.done (blk X T cs scope C s H fp) rfl rfl rfl hc i _ s1 _ H1 (fun _ _=>False) J1 (stat fr1) st1 stop) (fun r s2 ⟨hr,J2⟩=>?_) fun _ _ z=>z
   subst hr
   obtain ⟨eD,nD,_⟩:=J2.pin (D,({ cls:=.type "list",data:=.seq its.toArray k }:Obj)) (List.mem_append_right _ (List.mem_singleton.mpr rfl))
   have J3:Inv X pins σ H1 s2:=I.call' (ch:=fp) J2.os J2.base J2.hok J2.bare fun b hb=>by
    obtain ⟨f0,f1,f2,f3,f4,f5⟩:=hf b hb
    exact ⟨f3,f1,f4,f5⟩
   obtain ⟨mC,hnC,_⟩:=J2.loc
   have fC:FpOk X pins H1 C:=I.fpOk (by rw [hDD]; exact hCle) J2.free
   have fD:FpOk X pins H1 D:=I.fpOk (Nat.le_of_eq hDD) nD
   exact fin D C s2 mC ys H1 fq nD hnC fC (Ne.symm hDC) (J3.track eD fD rv hz)
  ·refine wpAny_mono (Tn.item (blk X T cs scope C s H fp) rfl rfl rfl hc i _ s1 _ H1 (fun _ _=>False) J1 (stat fr1) st1 go) (fun r s2 ⟨u,hr,h2⟩=>?_) fun _ _ z=>z
   subst hr
   refine wpAny_mono h2 (fun _ s3 ⟨x,H3,J3,r3,y3,st3,fr3⟩=>?_) fun _ _ z=>z
   have J3':=J3.pinned (stat fr3) (Tn.obj _ _ st3)
   refine wpAny_mono (hg C s H fp _ s3 _ H3 x u _ J3' r3 (hk (sgOf σ T cs) x _ H3 _ ⟨rfl,fun _ _=>rfl⟩ (step x H3 y3))) (fun _ s4 ⟨σ4,H4,J4,q4,l4,k4⟩=>?_) fun _ _ z=>z
   refine wpAny_mono (ht C s H fp _ s4 σ4 H4 _ J4 q4) (fun b s5 ⟨H5,J5,q5⟩=>?_) fun _ _ z=>z
   have wk:∀ {pl:List (Addr×Obj)} {H':Hp} {s':Shared},Inv (blk X T cs scope C s H fp) pl σ4 H' s'->Inv (blk X T cs scope C s H fp) pl (sgOf σ T cs) H' s':=fun J=>J.weak l4.symm fun j v e=>by
    by_cases hj:T.length<=j
    ·rw [k4 j hj]; exact e
    ·exfalso
     unfold sgOf at e
     rw [List.getElem?_append_left (by simp; omega),List.getElem?_map] at e
     cases q:T[j]? with
     | none=>rw [q] at e; cases e
     | some a=>rw [q] at e; cases e
   have tnk:∀ {H':Hp} {s':Shared} {σ':St},Inv (blk X T cs scope C s H fp) ([(D,({ cls:=.type "list",data:=.seq its.toArray k }:Obj))]++pinsAt fp s3.heap) σ' H' s'->tn (i + 1) s'.heap/\∀ b∈fp,H' b=none:=fun {H' s' σ'} J=>by
    refine ⟨Tn.keep _ _ _ st3 fun b hb o e=>(J.pin (b,o) (List.mem_append_right _ (List.mem_append_right _ (mem_pinsAt hb e)))).1,fun b hb=>?_⟩
    obtain ⟨o,e,d⟩:=Tn.obj _ _ st3 b hb
    exact (J.pin (b,o) (List.mem_append_right _ (List.mem_append_right _ (mem_pinsAt hb e)))).2.1
   cases b with
   | false =>
    rw [if_neg Bool.false_ne_true] at q5 ⊢
    obtain ⟨m',hm,w5⟩:=hN _ _ q5
    obtain ⟨t5,f5⟩:=tnk J5
    exact ⟨m',hm,i + 1,ys,its,k,H5,wk J5.unpinned,rv,t5,f5,w5⟩
   | true =>
    rw [if_pos rfl] at q5 ⊢
    refine wpAny_mono (he C s H fp _ s5 σ4 H5 _ J5 q5) (fun uy s6 ⟨y,H6,J6,ry,n6⟩=>?_) fun _ _ z=>z
    obtain ⟨m',hm,w6⟩:=hN _ _ n6
    obtain ⟨t6,f6⟩:=tnk J6
    obtain ⟨eD,nD,_⟩:=J6.pin (D,({ cls:=.type "list",data:=.seq its.toArray k }:Obj)) (List.mem_append_right _ (List.mem_append_left _ (List.mem_singleton.mpr rfl)))
    have hsz:its.toArray.size<=sizeLine:=by rw [List.size_toArray,<- rv.length]; omega
    refine append_at (hsz:=hsz) eD fun h7 sb hD7=>?_
    have J6':Inv (blk X T cs scope C s H fp) [] σ4 H6 s6:=J6.pins_of fun p hp=>absurd hp (by simp)
    have J7:Inv (blk X T cs scope C s H fp) [] σ4 H6 { s6 with heap:=h7 }:=J6'.turned (t':=s6.toks) (it:=D) (fun b o hb e=>(sb.2 b hb).trans e) nD hDC (.inr (Nat.le_of_eq hDD))
     (fun x c e z=>by
      obtain ⟨v,q⟩:=I.cell x c (I.clo S e)
      exact absurd q.lt (by rw [z,hDD]; exact Nat.lt_irrefl _))
     (fun p hp=>absurd hp (by simp [blk]))
    have hD7':h7.get? D=some { cls:=.type "list",data:=.seq (its++[uy]).toArray (k + 1) }:=by
     rw [hD7,List.push_toArray]
    refine ⟨m',hm,i + 1,ys++[y],its++[uy],k + 1,H6,wk (pinD J7 hD7' nD),rv.append (.cons ry .nil),Tn.keep _ _ _ t6 fun b hb o e=>(sb.2 b (Nat.ne_of_lt (hlt b hb))).trans e,f6,w6⟩
 exact codeAny_compStart_list (loop _) (Tn.self _ 0 _ _ _ st₁ (loop _))
def tComp (wi:TI) (g:TG) (tt:TT) (te:TE) (T:List Str) (cs:List Nat):TE:=fun σ H Q=>wi σ H fun J H1=>∃ W:Nat->Nat->List V->Hp->Prop,(∃ m,W 0 m [] H1) /\
 ∀ i m ys H,W i m ys H->(J.stop i H/\ys.length<=sizeLine/\∀ p,H p=none->Q (.ref p) (upd H p (.lst ys)))\/(J.go i H/\ys.length < sizeLine/\∃ N:List V->Hp->Prop,(∀ ys' H',N ys' H'->∃ m',m' < m/\W (i + 1) m' ys' H') /\
  ∀ x H',J.yld i H x H'->g x (sgOf σ T cs) H' fun σ2 H2=>tt σ2 H2 fun b H3=>if b=true then te σ2 H3 fun y H4=>N (ys++[y]) H4 else N ys H3)
def pe_comp {wi:TI} (hc:X.calm=true) (S:CScope X.env.scope scope X.N T cs) (hi:PI X tg iter wi) (hg:∀ C s₀ H₀ ex,PG (blk X T cs scope C s₀ H₀ ex) tg g) (ht:∀ C s₀ H₀ ex,PTs (blk X T cs scope C s₀ H₀ ex) ifs tt)
  (he:∀ C s₀ H₀ ex,PE (blk X T cs scope C s₀ H₀ ex) elt te) (hk:GKeeps g T.length) (hs:∀ x,foldedSetIterable iter X.env x=pure x:=by intro _; rfl):PE X (.ListComp elt [⟨tg,iter,ifs,0⟩] scope pos) (tComp wi g tt te T cs):=by
 intro pins s σ H Q I h
 rw [eval_ListComp]
 refine wpAny_comprehension_free (use:=none) rfl hs (closure_is (I.hl S)) S.kind S.names (thn (hi pins s σ H _ I h) fun v s1 h1=>thn h1 fun itv s2 h2=>?_)
 obtain ⟨it,fp,tn,J,H2,e,I2,Tn,st,hf,W,w0,turn⟩:=h2
 subst e
 refine comp_core (RR:=fun acc C=>compPost (model X.prog X.w) X.A X.xe none (EP X pins σ Q) acc C) (Fin:=fun ys H=>∀ p,H p=none->Q (.ref p) (upd H p (.lst ys))) I2 hc S Tn st hf hg ht he hk W w0 turn ?_
 intro D C s' m ys H' q nD hn fC hCD I'
 refine ⟨m,hn,fun h' sb=>⟨.ref D,_,I'.turned (t':=s'.toks) (it:=C) (fun b o hb e=>(sb.2 b hb).trans e) ?_ fC.2.1 fC.2.2.2.1 fC.2.2.2.2.1 fC.2.2.2.2.2,rfl,q D nD⟩⟩
 rw [upd_ne hCD]
 exact fC.1
def ps_comp {wi:TI} {i:Nat} {y:Str} {py spos:Pos} (hN:X.N.Nodup) (hy:X.N[i]?=some y) (hl:X.env.scope.names.lookup y=some .local) (hc:X.calm=true) (S:CScope X.env.scope scope X.N T cs) (hi:PI X tg iter wi) (hg:∀ C s₀ H₀ ex,PG (blk X T cs scope C s₀ H₀ ex) tg g)
  (ht:∀ C s₀ H₀ ex,PTs (blk X T cs scope C s₀ H₀ ex) ifs tt) (he:∀ C s₀ H₀ ex,PE (blk X T cs scope C s₀ H₀ ex) elt te) (hk:GKeeps g T.length) (hs:∀ x,foldedSetIterable iter X.env x=pure x:=by intro _; rfl)
  (hsw:swapsWith (.ListComp elt [⟨tg,iter,ifs,0⟩] scope pos) (some (.Name y py)) spos.line X.env=pure true:=by rfl):PS X (.Assign [.Name y py] (.ListComp elt [⟨tg,iter,ifs,0⟩] scope pos) spos) (tAsg (tComp wi g tt te T cs) (gName i)):=by
 intro pins s σ H D I h
 rw [exec_Assign_Name_used _ _ _ _ hsw]
 refine wpAny_bind (wpAny_standAt (wpAny_bind ?_))
 show wpAny _ X.A (do let _ <- comprehension (.ListComp elt [⟨tg,iter,ifs,0⟩] scope pos) scope X.env _ (newList []) false (eval iter X.env) (some (assign (.Name y py) X.env))) _ _ s
 refine wpAny_bind (wpAny_mono (wpAny_comprehension_free (use:=some (assign (.Name y py) X.env)) (Q:=fun _ s'=>SP X pins D .next s') rfl hs (closure_is (I.hl S)) S.kind S.names
  (thn (hi pins s σ H _ I h) fun v s1 h1=>thn h1 fun itv s2 h2=>?_)) (fun _ s' hq=>wpAny_pure (wpAny_pure hq)) fun _ _ e=>e)
 obtain ⟨it,fp,tn,J,H2,e,I2,Tn,st,hf,W,w0,turn⟩:=h2
 subst e
 refine comp_core (RR:=fun acc C=>compPost (model X.prog X.w) X.A X.xe (some (assign (.Name y py) X.env)) (fun _ s'=>SP X pins D .next s') acc C) (Fin:=fun ys H=>∀ p,H p=none->gName i (.ref p) σ (upd H p (.lst ys)) D.nx) I2 hc S Tn st hf hg ht he hk W w0 turn ?_
 intro B C s' m ys H' q nB hn fC hCB I'
 show wpAny _ X.A (assign (.Name y py) X.env (.ref B)) _ _ s'
 refine wpAny_assign_Name (store_ok2 (v:=.ref B) I' hN hy (.inl hl) rfl (fun s'' I'' ⟨a,sb,ha⟩=>?_) (.inr hl))
 have nC:C≠a:=by
  rcases ha with z | z
  ·rw [z]; exact fC.2.1
  ·exact Ne.symm (fC.2.2.2.2.1 y a z)
 refine ⟨m,hn.sameBut sb nC,fun h' sb'=>⟨_,_,I''.turned (t':=s''.toks) (it:=C) (fun b o hb e=>(sb'.2 b hb).trans e) ?_ fC.2.1 fC.2.2.2.1 fC.2.2.2.2.1 fC.2.2.2.2.2,q B nB⟩⟩
 rw [upd_ne hCB]
 exact fC.1
end
theorem comp_by {J:It} {n:Nat} {g:TG} {tt:TT} {te:TE} {σB:St} {H1:Hp} {F:List V->Hp->Prop} (Pv:Nat->List V->Hp->Prop) (h0:Pv 0 [] H1) (hn:∀ i ys H,Pv i ys H->ys.length<=i) (hz:n<=sizeLine)
  (hgo:∀ i ys H,i < n->Pv i ys H->J.go i H) (hstop:∀ ys H,Pv n ys H->J.stop n H)
  (hs:∀ i ys H,i < n->Pv i ys H->∀ x H',J.yld i H x H'->g x σB H' fun σ2 H2=>tt σ2 H2 fun b H3=>if b=true then te σ2 H3 fun y H4=>Pv (i + 1) (ys++[y]) H4 else Pv (i + 1) ys H3)
  (hd:∀ ys H,Pv n ys H->F ys H) :
  ∃ W:Nat->Nat->List V->Hp->Prop,(∃ m,W 0 m [] H1)/\∀ i m ys H,W i m ys H->(J.stop i H/\ys.length<=sizeLine/\F ys H)\/(J.go i H/\ys.length < sizeLine/\∃ N:List V->Hp->Prop,(∀ ys' H',N ys' H'->∃ m',m' < m/\W (i + 1) m' ys' H') /\
   ∀ x H',J.yld i H x H'->g x σB H' fun σ2 H2=>tt σ2 H2 fun b H3=>if b=true then te σ2 H3 fun y H4=>N (ys++[y]) H4 else N ys H3):=by
 refine ⟨fun i m ys H=>m=n - i/\i<=n/\Pv i ys H,⟨n,rfl,Nat.zero_le _,h0⟩,?_⟩
 rintro i m ys H ⟨rfl,hi,p⟩
 have hl:=hn i ys H p
 by_cases hlt:i < n
 ·exact .inr ⟨hgo i ys H hlt p,by omega,Pv (i + 1),fun ys' H' q=>⟨n - (i + 1),by omega,rfl,hlt,q⟩,hs i ys H hlt p⟩
 ·have e:i=n:=by omega
  subst e
  exact .inl ⟨hstop ys H p,by omega,hd ys H p⟩
section
variable {X:Cx}
def rGetL (K:W.Frag):V->V->Hp->VK->Prop:=fun o i H Q=>∃ p xs k v,o=.ref p/\i=.int ((k:Nat):Int)/\SqL K H p xs/\xs[k]?=some v/\Q v H
theorem pget_list:PGet X (rGetL X.K):=by
 intro pins s σ H o i ov iv Q I ro ri h
 obtain ⟨p,xs,k,v,rfl,rfl,hq,hx,q⟩:=h
 cases ro
 obtain ⟨t,rfl⟩:=ri
 obtain ⟨its,rv,pl,hz⟩:=I.list hq
 obtain ⟨u,hu,ru⟩:=rv.get hx
 have hk:k < xs.length:=(List.getElem?_eq_some_iff.mp hx).1
 have hn:=line63
 exact wpAny_getItem_list pl.isList (by omega) (by omega) (by simpa using hu) ⟨v,H,I,ru,q⟩
theorem Vals.bl_get {bs:List Bool} {us:List Value} (r:Vals (bs.map V.bl) us) {i:Nat} {v:Value} (e:us[i]?=some v):∃ b,bs[i]?=some b/\v=.bool b:=by
 have hi:i < us.length:=(List.getElem?_eq_some_iff.mp e).1
 have hl:=r.length
 rw [List.length_map] at hl
 have hb:i < bs.length:=by omega
 have eb:(bs.map V.bl)[i]?=some (V.bl bs[i]):=by rw [List.getElem?_map,List.getElem?_eq_getElem hb]; rfl
 obtain ⟨u,hu,ru⟩:=r.get eb
 rw [e] at hu
 cases hu
 exact ⟨bs[i],List.getElem?_eq_getElem hb,ru⟩
def all_of (bs:List Bool):((List.range bs.length).all fun i=>(bs[i]?).getD true)=bs.all id:=by
 rw [Bool.eq_iff_iff]
 simp only [List.all_eq_true,List.mem_range,id]
 constructor
 ·intro h b hb
  obtain ⟨i,hi,e⟩:=List.mem_iff_getElem.mp hb
  have:=h i hi
  rw [List.getElem?_eq_getElem hi,e] at this
  exact this
 ·intro h i hi
  rw [List.getElem?_eq_getElem hi]
  exact h _ (List.getElem_mem hi)
def call_all (hc:X.calm=true):CallR X (.builtin "all") (fun xs H Q=>∃ (p:Addr) (bs:List Bool),xs=[.ref p]/\SqL X.K H p (bs.map V.bl)/\Q (.bl (bs.all id)) H):=by
 intro pins s σ H xs us Q I r h
 obtain ⟨p,bs,rfl,hq,q⟩:=h
 obtain ⟨u,rfl,ru⟩:=vals1 r
 cases ru
 obtain ⟨its,rv,pl,hz⟩:=I.list hq
 have hlen:=rv.length
 rw [List.length_map] at hlen
 have hlt:p < s.heap.objs.size:=by obtain ⟨_,e,_⟩:=pl.isList; exact Heap.lt_size e
 refine call_all_walk (wpAny_pyIter_list pl.isList ?_)
 refine ⟨s.heap.objs.size,[s.heap.objs.size,p],[s.heap.objs.size],its.toArray.size,_,_,fun i=>(bs[i]?).getD true,rfl,Walks.list (A:=X.A.in1) (I.ok.hd hc) _ p (Nat.ne_of_lt hlt) its.toArray,
  ⟨⟨_,Heap.get?_push_size _ rfl,rfl,rfl⟩,pl.isList.push _⟩,fun i v s' Q' E' hP hQ=>?_,fun h' tk hk=>?_⟩
 ·obtain ⟨b,e,rfl⟩:=rv.bl_get (by simpa using hP)
  simp only [e,Option.getD_some] at hQ
  exact wpAny_truthy_bool hQ
 ·rw [List.size_toArray,<- hlen,all_of]
  exact ⟨.bl (bs.all id),H,I.kept (t':=tk) (PyProof.Rows.LSm.kept_iter hk),rfl,q⟩
def rSlS:V->Option Int->Option Int->Hp->VK->Prop:=fun x lo hi H Q=>∃ z,x=.str z/\z.length<=sizeLine/\Q (.str (Txt.slice z lo hi)) H
theorem sl_str:SlR X rSlS:=by
 intro pins s σ H x v vl vu lo hi sl Q I rx hs pl pu h
 obtain ⟨z,rfl,hz,q⟩:=h
 obtain ⟨t,rfl⟩:=rx
 refine ⟨"str",_,F.slot_str_getitem.lookup,typeIs_str _ _ _,?_⟩
 cases pl with
 | none =>
  cases pu with
  | none=>exact wpAny_getItem_str_slice (l:=none) (u:=none) (st:=none) hs rfl (post_val_or_str ⟨Nat.le_trans (Txt.slice_le z _ _) hz,fun t' k=>⟨.str _,H,I.tok _,⟨_,rfl⟩,q⟩⟩)
  | int j tj=>exact wpAny_getItem_str_slice (l:=none) (u:=some (j,tj)) (st:=none) hs rfl (post_val_or_str ⟨Nat.le_trans (Txt.slice_le z _ _) hz,fun t' k=>⟨.str _,H,I.tok _,⟨_,rfl⟩,q⟩⟩)
 | int i ti =>
  cases pu with
  | none=>exact wpAny_getItem_str_slice (l:=some (i,ti)) (u:=none) (st:=none) hs rfl (post_val_or_str ⟨Nat.le_trans (Txt.slice_le z _ _) hz,fun t' k=>⟨.str _,H,I.tok _,⟨_,rfl⟩,q⟩⟩)
  | int j tj=>exact wpAny_getItem_str_slice (l:=some (i,ti)) (u:=some (j,tj)) (st:=none) hs rfl (post_val_or_str ⟨Nat.le_trans (Txt.slice_le z _ _) hz,fun t' k=>⟨.str _,H,I.tok _,⟨_,rfl⟩,q⟩⟩)
end
mutual
inductive DV (K:W.Frag) (H:Hp):V->PyData->Prop
 | non:DV K H .non .none
 | bl (b:Bool):DV K H (.bl b) (.bool b)
 | int (i:Int):DV K H (.int i) (.int i)
 | str (x:Str):DV K H (.str x) (.str x)
 | lst {a:Addr} {xs:List V} {ds:List PyData} (h:SqL K H a xs) (r:DVs K H xs ds):DV K H (.ref a) (.list ds)
 | tup {a:Addr} {xs:List V} {ds:List PyData} (h:SqT K H a xs) (r:DVs K H xs ds):DV K H (.ref a) (.tuple ds)
inductive DVs (K:W.Frag) (H:Hp):List V->List PyData->Prop
 | nil:DVs K H [] []
 | cons {x:V} {d:PyData} {xs:List V} {ds:List PyData} (h:DV K H x d) (r:DVs K H xs ds):DVs K H (x::xs) (d::ds)
end
section
variable {X:Cx} {pins:List (Addr×Obj)} {σ:St} {H:Hp} {s:Shared}
mutual
theorem dv_reads (I:Inv X pins σ H s):∀ {x:V} {d:PyData} {u:Value},DV X.K H x d->RelV x u->∃ as,Reads s.heap u d as
 | _,_,u,.non,r=>by obtain rfl:u=Value.none:=r; exact ⟨_,Reads.none⟩
 | _,_,u,.bl b,r=>by obtain rfl:u=Value.bool b:=r; exact ⟨_,Reads.bool b⟩
 | _,_,u,.int i,r=>by obtain ⟨t,rfl⟩:=(show ∃ t,u=Value.int i t from r); exact ⟨_,Reads.int i t⟩
 | _,_,u,.str x,r=>by obtain ⟨t,rfl⟩:=(show ∃ t,u=Value.str x t from r); exact ⟨_,Reads.str x t⟩
 | _,_,u,.lst (a:=a) h q,r=>by
  obtain rfl:u=Value.ref a:=r
  obtain ⟨its,rv,⟨o,n,e,c,d,dt⟩,_⟩:=I.list h
  obtain ⟨as,ra⟩:=dvs_reads I q rv
  exact ⟨_,reads_list_at e c dt (by simpa using ra)⟩
 | _,_,u,.tup (a:=a) h q,r=>by
  obtain rfl:u=Value.ref a:=r
  obtain ⟨its,rv,⟨o,e,c,n,dt⟩,_⟩:=I.tuple h
  obtain ⟨as,ra⟩:=dvs_reads I q rv
  exact ⟨_,reads_tuple_at e c dt (by simpa using ra)⟩
theorem dvs_reads (I:Inv X pins σ H s):∀ {xs:List V} {ds:List PyData} {us:List Value},DVs X.K H xs ds->Vals xs us->∃ as,ReadsAll s.heap us ds as
 | _,_,_,.nil,.nil=>⟨_,ReadsAll.nil⟩
 | _,_,_,.cons h q,.cons r rr=>by
  obtain ⟨as,ra⟩:=dv_reads I h r
  obtain ⟨bs,rb⟩:=dvs_reads I q rr
  exact ⟨_,ReadsAll.cons ra rb⟩
end
def rEqD (K:W.Frag):R2:=fun x y H Q=>∃ dx dy,DV K H x dx/\DV K H y dy/\SeqAt.shaped dx=true/\SeqAt.shaped dy=true/\Q (.bl (PyData.eqv dx dy)) H
def rNeD (K:W.Frag):R2:=fun x y H Q=>∃ dx dy,DV K H x dx/\DV K H y dy/\SeqAt.shaped dx=true/\SeqAt.shaped dy=true/\Q (.bl (!PyData.eqv dx dy)) H
def op_eqD (hu:X.A.units + 64 < cLine):OpR X (compareOp .Eq) (rEqD X.K):=by
 intro pins s σ H x y v u Q I rx ry h
 obtain ⟨dx,dy,hx,hy,sx,sy,q⟩:=h
 obtain ⟨as,ra⟩:=dv_reads I hx rx
 obtain ⟨bs,rb⟩:=dv_reads I hy ry
 exact eq_dataH ra rb sx sy hu ⟨.bl _,H,I,rfl,q⟩
def op_neD (hu:X.A.units + 64 < cLine):OpR X (compareOp .NotEq) (rNeD X.K):=by
 intro pins s σ H x y v u Q I rx ry h
 obtain ⟨dx,dy,hx,hy,sx,sy,q⟩:=h
 obtain ⟨as,ra⟩:=dv_reads I hx rx
 obtain ⟨bs,rb⟩:=dv_reads I hy ry
 exact ne_dataH ra rb sx sy hu ⟨.bl _,H,I,rfl,q⟩
end
theorem dvs_ints {K:W.Frag} {H:Hp}:∀ ns:List Int,DVs K H (ns.map V.int) (ns.map PyData.int)
 | []=>.nil
 | n::r=>.cons (.int n) (dvs_ints r)
def Cal (P:Program) (w:World) (K:W.Frag) (mg:Str->Option Value) (base:Heap) (x:Str) (k:Nat) (ps:List Str) (sp:Sp):Prop :=
 ∃ (f:Addr) (fd:FuncData),FnOk P w K mg base CX0 k f fd ps sp/\mg x=some (.ref f)/\W.keepIn K (.ref f)=true/\Binds K fd ps []
section
variable {X:Cx} {x:Str} {k:Nat} {ps:List Str} {sp:Sp} {e:Expr} {es:List Expr} {t:TA} {p pos:Pos}
def pe_cal (C:Cal X.prog X.w X.K X.mg X.base x k ps sp) (hr:Room k X.A) (hg:Gl X x) (ha:PA X (e::es) t) (hdb:(x == ("__debug__":Str))=false:=by decide)
  (he:starEach (e::es) X.env=(false,eval e X.env)::starEach es X.env:=by rfl) (hpl:(backTo pos (starEach es X.env)).any (·.1)=false:=by rfl):PE X (.Call (.Name x p) (e::es) [] pos) (tCall sp [] E0 t):=by
 obtain ⟨f,fd,F,hm,hk,hb⟩:=C
 exact pe_call F hr hg hm hk hb .nil pass0 ha hdb he hpl
end
def Grow (p:Addr) (H H':Hp):Prop:=∀ b o,H b=some o->b≠p->H' b=some o
def Grow.refl (p:Addr) (H:Hp):Grow p H H:=fun _ _ e _=>e
def Grow.trans {p:Addr} {H H1 H2:Hp} (a:Grow p H H1) (b:Grow p H1 H2):Grow p H H2:=fun c o e n=>b c o (a c o e n) n
def Grow.same {p:Addr} {H H':Hp} (s:Same H H'):Grow p H H':=fun b o e _=>s b o e
theorem Grow.free {p:Addr} {H H':Hp} (g:Grow p H H') {l:Addr} (h:H' l=none) (n:l≠p):H l=none:=by
 cases q:H l with
 | none=>rfl
 | some o=>rw [g l o q n] at h; cases h
def same_upd {H:Hp} {p:Addr} {o:HO} (h:H p=none):Same H (upd H p o):=fun b u e=>by rw [upd_ne (ne_of_none e h)]; exact e
structure HandAt (H:Hp) (p a:Addr):Prop where
 ex:∃ (d k:Int) (cs:List Int),H p=some (.lst [.int d,.int k,.ref a])/\H a=some (.lst (cs.map V.int))/\cs≠[]/\cs.length<=63/\0<=d/\0<=k/\∀ c∈cs,0<=c
theorem HandAt.ne {H:Hp} {p a:Addr} (h:HandAt H p a):p≠a:=by
 obtain ⟨d,k,cs,e1,e2,_⟩:=h.ex
 refine ne_of e1 e2 fun z=>?_
 injection z with z
 cases cs with
 | nil=>cases z
 | cons c r =>
  rw [List.map_cons] at z
  injection z with _ z
  cases r with
  | nil=>cases z
  | cons c2 r =>
   rw [List.map_cons] at z
   injection z with _ z
   cases r with
   | nil=>cases z
   | cons c3 r=>rw [List.map_cons] at z; injection z with z _; cases z
def HandAt.same {H H':Hp} {p a:Addr} (h:HandAt H p a) (g:Same H H'):HandAt H' p a:=by
 obtain ⟨d,k,cs,e1,e2,r⟩:=h.ex
 exact ⟨d,k,cs,g _ _ e1,g _ _ e2,r⟩
def spDraw:Sp:=fun vs H Q _=>∃ (p a:Addr) (n:Int),vs=[.ref p,.int n]/\HandAt H p a/\0 < n/\n < 1073741824 /\
 ∀ (r:Int) (H':Hp),0<=r->r < n->HandAt H' p a->Grow p H H'->(∀ b,b≠p->H' b=H b)->Q (.int r) H'
def spOpen (K:W.Frag):Sp:=fun vs H Q _=>∃ (s:Addr) (ns:List Int) (i:Int),vs=[.ref s,.int i]/\SqL K H s (ns.map V.int)/\ns.length<=63/\0<=i/\i < 2 ^ 60 /\
 ∀ (p a:Addr) (H':Hp),H p=none->H a=none->HandAt H' p a->Same H H'->Q (.ref p) H'
theorem at_rest {cs:List Int} (h:cs≠[]) (z:Int):∃ c,c∈cs/\atI (cs.map V.int) (z % ((cs.map V.int).length:Nat))=some (.int c):=by
 have hl:0 < cs.length:=List.length_pos_iff.mpr h
 have h0:0<=z % ((cs.map V.int).length:Nat):=Int.emod_nonneg _ (by rw [List.length_map]; omega)
 have h1:z % ((cs.map V.int).length:Nat) < ((cs.map V.int).length:Nat):=Int.emod_lt_of_pos _ (by rw [List.length_map]; omega)
 generalize z % ((cs.map V.int).length:Nat)=m at h0 h1
 rw [List.length_map] at h1
 have hm:m.toNat < cs.length:=by omega
 obtain ⟨k,rfl⟩:=Int.eq_ofNat_of_zero_le h0
 have hm:k < cs.length:=hm
 refine ⟨cs[k],List.getElem_mem hm,atI_nat ?_⟩
 rw [List.getElem?_map,List.getElem?_eq_getElem hm]
 rfl
def Shp (n:Nat) (d:PyData):Prop:=d.canLay0=true/\d.depth<=n
def Shp.shaped {n:Nat} {d:PyData} (h:Shp n d) (hn:n<=64):SeqAt.shaped d=true:=by
 unfold SeqAt.shaped
 rw [h.1,Bool.true_and]
 exact decide_eq_true (Nat.le_trans h.2 hn)
theorem shp_all {n:Nat}:∀ {ds:List PyData},(∀ d∈ds,Shp n d)->PyData.canLayAll0 ds=true/\PyData.depthAll ds<=n
 | [],_=>⟨by simp only [PyData.canLayAll0],by simp only [PyData.depthAll]; exact Nat.zero_le _⟩
 | d::r,h=>by
  obtain ⟨h1,h2⟩:=h d List.mem_cons_self
  obtain ⟨h3,h4⟩:=shp_all (n:=n) fun x hx=>h x (List.mem_cons_of_mem _ hx)
  refine ⟨by simp only [PyData.canLayAll0,h1,h3,Bool.and_self],?_⟩
  simp only [PyData.depthAll]
  omega
theorem shp_list {n:Nat} {ds:List PyData} (h:∀ d∈ds,Shp n d):Shp (n + 1) (.list ds):=by
 obtain ⟨h1,h2⟩:=shp_all h
 exact ⟨by simp only [PyData.canLay0,h1],by simp only [PyData.depth]; omega⟩
theorem shp_tuple {n:Nat} {ds:List PyData} (h:∀ d∈ds,Shp n d):Shp (n + 1) (.tuple ds):=by
 obtain ⟨h1,h2⟩:=shp_all h
 exact ⟨by simp only [PyData.canLay0,h1],by simp only [PyData.depth]; omega⟩
def shp_int (i:Int):Shp 0 (.int i):=⟨by simp only [PyData.canLay0],by simp only [PyData.depth]; exact Nat.le_refl _⟩
def shp_ints (ns:List Int):Shp 1 (.list (ns.map PyData.int)):=shp_list fun d hd=>by
 obtain ⟨i,_,rfl⟩:=List.mem_map.mp hd
 exact shp_int i
theorem eqv_nil (ns:List Int):PyData.eqv (.list (ns.map PyData.int)) (.list [])=decide (ns=[]):=by
 cases ns with
 | nil=>simp [PyData.eqv,PyData.eqvAll]
 | cons n r=>simp [PyData.eqv,PyData.eqvAll]
theorem cut_ints (ns:List Int) (lo hi:Option Int):∃ ms:List Int,cutV (ns.map V.int) lo hi=ms.map V.int/\ms.length<=ns.length/\∀ c∈ms,c∈ns:=by
 refine ⟨(ns.drop (HT.sIx (ns.map V.int).length 0 lo)).take (HT.sIx (ns.map V.int).length (ns.map V.int).length hi - HT.sIx (ns.map V.int).length 0 lo),?_,?_,?_⟩
 ·unfold cutV
  rw [List.map_take,List.map_drop]
 ·rw [List.length_take,List.length_drop]
  omega
 ·intro c hc
  exact List.mem_of_mem_drop (List.mem_of_mem_take hc)
def small_line {n:Nat} (h:n<=100000):n<=sizeLine:=Nat.le_trans h (by decide)
theorem cut_from {as:List V} {j:Int} (h0:0<=j) (h1:j<=as.length):cutV as (some j) none=as.drop j.toNat:=by
 obtain ⟨m,rfl⟩:=Int.eq_ofNat_of_zero_le h0
 unfold cutV
 rw [HT.sIx_nat,HT.sIx_none,Nat.min_eq_left (by omega),List.take_of_length_le (by rw [List.length_drop]; exact Nat.le_refl _)]
 rfl
theorem cut_to {as:List V} {j:Int} (h0:0<=j) (h1:j<=as.length):cutV as none (some j)=as.take j.toNat:=by
 obtain ⟨m,rfl⟩:=Int.eq_ofNat_of_zero_le h0
 unfold cutV
 rw [HT.sIx_nat,HT.sIx_none,Nat.min_eq_left (by omega),List.drop_zero,Nat.sub_zero]
 rfl
def HC (H H4:Hp) (cl:Addr):Prop:=∃ as:List Int,Same H H4/\H cl=none/\H4 cl=some (.lst (as.map V.int))/\as≠[]/\as.length<=63/\∀ c∈as,0<=c
theorem spun {as:List Int} (hne:as≠[]) (i:Int):∃ cs:List Int,cutV (as.map V.int) (some (i % ((as.map V.int).length:Nat))) none++cutV (as.map V.int) none (some (i % ((as.map V.int).length:Nat)))=cs.map V.int/\cs≠[]/\cs.length=as.length/\∀ c∈cs,c∈as:=by
 have hl:0 < as.length:=List.length_pos_iff.mpr hne
 have h0:0<=i % ((as.map V.int).length:Nat):=Int.emod_nonneg _ (by rw [List.length_map]; omega)
 have h1:i % ((as.map V.int).length:Nat) < ((as.map V.int).length:Nat):=Int.emod_lt_of_pos _ (by rw [List.length_map]; omega)
 generalize i % ((as.map V.int).length:Nat)=j at h0 h1
 rw [cut_from h0 (by omega),cut_to h0 (by omega)]
 rw [List.length_map] at h1
 refine ⟨as.drop j.toNat++as.take j.toNat,by rw [List.map_append,List.map_drop,List.map_take],?_,?_,?_⟩
 ·intro e
  have:=congrArg List.length e
  rw [List.length_append,List.length_drop,List.length_take] at this
  simp at this
  omega
 ·rw [List.length_append,List.length_drop,List.length_take]
  omega
 ·intro c hc
  rcases List.mem_append.mp hc with z | z
  ·exact List.mem_of_mem_drop z
  ·exact List.mem_of_mem_take z
theorem atI_some {α:Type} {xs:List α} {r:Int} (h0:0<=r) (h1:r < xs.length):∃ v,v∈xs/\atI xs r=some v:=by
 have hm:r.toNat < xs.length:=by omega
 obtain ⟨k,rfl⟩:=Int.eq_ofNat_of_zero_le h0
 have hm:k < xs.length:=hm
 exact ⟨xs[k],List.getElem_mem hm,atI_nat (List.getElem?_eq_getElem hm)⟩
def cal_mk {P:Program} {w:World} {K:W.Frag} {mg:Str->Option Value} {base:Heap} {x:Str} {st:Stmt} {f:Addr} {fd:FuncData} {k:Nat} {ps:List Str} {sp:Sp} (F:Fun K x x st f fd) (G:FnOk P w K mg base CX0 k f fd ps sp) (m:mg x=some (.ref f)) (b:Binds K fd ps []) :
  Cal P w K mg base x k ps sp:=⟨f,fd,G,m,F.kp,b⟩
end L2
set_option maxHeartbeats 4000000
namespace L2
open PySem PySem.W PyProof.Rows
def Rk (rk:Nat->Int) (p:Array Nat) (i:Nat):Int:=rk (p.getD i 0)
def SrtR (rk:Nat->Int) (p:Array Nat) (k:Nat):Prop:=∀ i j,i<=j->j < k->Rk rk p i<=Rk rk p j
structure GoodP (n:Nat) (p:Array Nat):Prop where
 perm:p.Perm (List.range n).toArray
def GoodP.size {n:Nat} {p:Array Nat} (g:GoodP n p):p.size=n:=by have:=g.perm.size_eq; simpa using this
def GoodP.lt {n:Nat} {p:Array Nat} (g:GoodP n p) (i:Nat) (hi:i < n):p.getD i 0 < n:=by
 have hi':i < p.size:=by rw [g.size]; exact hi
 have e:p.getD i 0=p[i]:=by simp [Array.getD,hi']
 rw [e]
 have hm:p[i]∈p.toList:=by simp
 have:=(Array.perm_iff_toList_perm.mp g.perm).mem_iff.mp hm
 simpa using this
def GoodP.ne {n:Nat} {p:Array Nat} (g:GoodP n p) {i j:Nat} (hi:i < n) (hj:j < n) (h:i≠j):p.getD i 0≠p.getD j 0:=by
 have nd:p.toList.Nodup:=(Array.perm_iff_toList_perm.mp g.perm).nodup_iff.mpr (by simpa using List.nodup_range)
 have hi':i < p.size:=by rw [g.size]; exact hi
 have hj':j < p.size:=by rw [g.size]; exact hj
 have e:p.getD i 0=p[i]:=by simp [Array.getD,hi']
 have e2:p.getD j 0=p[j]:=by simp [Array.getD,hj']
 rw [e,e2]
 intro z
 have:=(List.getElem_inj (h₀:=by simpa using hi') (h₁:=by simpa using hj') nd).mp (by simpa using z)
 exact h this
def getD_of_eq {p q:Array Nat} {i j:Nat} (h:p[i]?=q[j]?):p.getD i 0=q.getD j 0:=by
 rw [Array.getD_eq_getD_getElem?,Array.getD_eq_getD_getElem?,h]
def Rk_bubble {rk:Nat->Int} {xs:Array Nat} {src d:Nat} (hs:src < xs.size) (hd:d<=src) (k:Nat) :
  Rk rk (bubble xs src d) k=if k=src - d then Rk rk xs src else if src - d < k/\k<=src then Rk rk xs (k - 1) else Rk rk xs k:=by
 have e:=getElem?_bubble hs d hd k
 unfold Rk
 by_cases h1:k=src - d
 ·rw [if_pos h1] at e ⊢; rw [getD_of_eq e]
 ·rw [if_neg h1] at e ⊢
  by_cases h2:src - d < k/\k<=src
  ·rw [if_pos h2] at e ⊢; rw [getD_of_eq e]
  ·rw [if_neg h2] at e ⊢; rw [getD_of_eq e]
def Rk_rev {rk:Nat->Int} {xs:Array Nat} {j:Nat} (hj:j<=xs.size) (k:Nat) :
  Rk rk (kas_rev xs 0 j) k=if k < j then Rk rk xs (j - 1 - k) else Rk rk xs k:=by
 have e:=getElem?_mirror_all (xs:=xs) (i:=0) hj k
 unfold Rk kas_rev
 by_cases h1:k < j
 ·rw [if_pos ⟨Nat.zero_le _,h1⟩] at e
  rw [if_pos h1,getD_of_eq e,Nat.zero_add]
 ·rw [if_neg (fun z=>h1 z.2)] at e
  rw [if_neg h1,getD_of_eq e]
section
variable {rk:Nat->Int} {n:Nat} {cmp:Nat->Nat->(Bool->Shared->Prop)->Shared->Prop} {s:Shared}
def CmpR (rk:Nat->Int) (n:Nat) (cmp:Nat->Nat->(Bool->Shared->Prop)->Shared->Prop) (s:Shared):Prop :=
 ∀ i j (C:Bool->Shared->Prop),i < n->j < n->C (decide (rk i < rk j)) s->cmp i j C s
theorem asc_R (hc:CmpR rk n cmp s) {p:Array Nat} (g:GoodP n p) {G:Nat->Shared->Prop}:∀ (f m:Nat),1<=m->m + f<=n->SrtR rk p m ->
  (∀ m',m<=m'->m'<=m + f->SrtR rk p m'->(m'=m + f\/(m' < n/\Rk rk p m' < Rk rk p (m' - 1)))->G m' s)->(kas_asc p f m).kasWp cmp G s
 | 0,m,_,_,hs,h=>h m (Nat.le_refl _) (Nat.le_refl _) hs (.inl rfl)
 | f + 1,m,h1,h2,hs,h=>by
  show cmp (p.getD m 0) (p.getD (m - 1) 0) _ s
  refine hc _ _ _ (g.lt _ (by omega)) (g.lt _ (by omega)) ?_
  by_cases q:rk (p.getD m 0) < rk (p.getD (m - 1) 0)
  ·simp only [q,decide_true,if_true]
   exact h m (Nat.le_refl _) (by omega) hs (.inr ⟨by omega,q⟩)
  ·simp only [q,decide_false,Bool.false_eq_true,if_false]
   refine asc_R hc g f (m + 1) (by omega) (by omega) (fun i j hij hj=>?_) fun m' a b c d=>h m' (by omega) (by omega) c (by
    rcases d with d | d
    ·exact .inl (by omega)
    ·exact .inr d)
   by_cases hjm:j=m
   ·subst hjm
    by_cases him:i=j
    ·subst him; exact Int.le_refl _
    ·exact Int.le_trans (hs i (j - 1) (by omega) (by omega)) (Int.not_lt.mp q)
   ·exact hs i j hij (by omega)
theorem desc_R (hc:CmpR rk n cmp s) (inj:∀ i j,i < n->j < n->rk i=rk j->i=j) {p:Array Nat} (g:GoodP n p) {G:Array Nat×Nat×Nat->Shared->Prop}:∀ (f m:Nat),1<=m->m + f<=n ->
  (∀ i j,i < j->j < m->Rk rk p j < Rk rk p i) ->
  (∀ m',m<=m'->m'<=m + f->(∀ i j,i < j->j < m'->Rk rk p j < Rk rk p i)->G (p,m',0) s)->(kas_desc f p m 0).kasWp cmp G s
 | 0,m,_,_,hs,h=>h m (Nat.le_refl _) (Nat.le_refl _) hs
 | f + 1,m,h1,h2,hs,h=>by
  show cmp (p.getD m 0) (p.getD (m - 1) 0) _ s
  refine hc _ _ _ (g.lt _ (by omega)) (g.lt _ (by omega)) ?_
  by_cases q:rk (p.getD m 0) < rk (p.getD (m - 1) 0)
  ·simp only [q,decide_true,if_true,Nat.lt_irrefl,if_false,gt_iff_lt]
   refine desc_R hc inj g f (m + 1) (by omega) (by omega) (fun i j hij hj=>?_) fun m' a b c=>h m' (by omega) (by omega) c
   by_cases hjm:j=m
   ·subst hjm
    by_cases him:i=j - 1
    ·subst him; exact q
    ·exact Int.lt_trans q (hs i (j - 1) (by omega) (by omega))
   ·exact hs i j hij (by omega)
  ·simp only [q,decide_false,Bool.false_eq_true,if_false]
   show cmp (p.getD (m - 1) 0) (p.getD m 0) _ s
   refine hc _ _ _ (g.lt _ (by omega)) (g.lt _ (by omega)) ?_
   have lt2:rk (p.getD (m - 1) 0) < rk (p.getD m 0):=by
    have ne:rk (p.getD (m - 1) 0)≠rk (p.getD m 0):=fun z=>g.ne (by omega) (by omega) (by omega:m - 1≠m) (inj _ _ (g.lt _ (by omega)) (g.lt _ (by omega)) z)
    omega
   simp only [lt2,decide_true,if_true]
   exact h m (Nat.le_refl _) (by omega) hs
def GoodP.rev {p:Array Nat} (g:GoodP n p) (i j:Nat):GoodP n (kas_rev p i j):=⟨(mirror_perm _ _ _ _).trans g.perm⟩
theorem count_R (hc:CmpR rk n cmp s) (inj:∀ i j,i < n->j < n->rk i=rk j->i=j) (h2:2<=n) {p:Array Nat} (g:GoodP n p) {G:Nat×Array Nat->Shared->Prop}
  (h:∀ m p',1<=m->m<=n->GoodP n p'->SrtR rk p' m->G (m,p') s):(kas_count n p).kasWp cmp G s:=by
 unfold kas_count
 rw [KasT.kasWp_bind]
 refine asc_R hc g (n - 1) 1 (Nat.le_refl _) (by omega) (fun i j hij hj=>by rw [show i=j by omega]; exact Int.le_refl _) fun m a b c d=>?_
 by_cases e:m=n
 ·subst e
  simp only [beq_self_eq_true,if_true]
  exact h m p (by omega) (Nat.le_refl _) g c
 ·have hb:(m == n)=false:=by simpa using e
  simp only [hb,Bool.false_eq_true,if_false]
  have hd:m < n/\Rk rk p m < Rk rk p (m - 1):=by
   rcases d with d | d
   ·omega
   ·exact d
  by_cases hm:m > 1
  ·rw [if_pos hm]
   show cmp (p.getD 0 0) (p.getD (m - 1) 0) _ s
   refine hc _ _ _ (g.lt _ (by omega)) (g.lt _ (by omega)) ?_
   have lt2:rk (p.getD 0 0) < rk (p.getD (m - 1) 0):=by
    have ne:rk (p.getD 0 0)≠rk (p.getD (m - 1) 0):=fun z=>g.ne (by omega) (by omega) (by omega:0≠m - 1) (inj _ _ (g.lt _ (by omega)) (g.lt _ (by omega)) z)
    have le:=c 0 (m - 1) (by omega) (by omega)
    unfold Rk at le
    omega
   simp only [lt2,decide_true,if_true]
   exact h m p (by omega) (by omega) g c
  ·rw [if_neg hm]
   have hm1:m=1:=by omega
   subst hm1
   unfold kas_descPart
   rw [KasT.kasWp_bind]
   refine desc_R hc inj g (n - 2) 2 (by omega) (by omega) (fun i j hij hj=>?_) fun m' a' b' c'=>?_
   ·have:j=1:=by omega
    have:i=0:=by omega
    subst i; subst j
    exact hd.2
   ·simp only [gt_iff_lt,Nat.lt_irrefl,if_false]
    unfold kas_tail3
    rw [KasT.kasWp_bind]
    have hm':m'<=n:=by omega
    refine asc_R hc (g.rev 0 m') (n - m') m' (by omega) (by omega) (fun i j hij hj=>?_) fun k a2 b2 c2 _=>?_
    ·rw [Rk_rev (by rw [g.size]; exact hm'),Rk_rev (by rw [g.size]; exact hm'),if_pos (by omega),if_pos hj]
     by_cases hij2:i=j
     ·subst hij2; exact Int.le_refl _
     ·exact Int.le_of_lt (c' _ _ (by omega) (by omega))
    ·show G (k,kas_rev p 0 m') s
     exact h k _ (by omega) (by omega) (g.rev 0 m') c2
theorem place_R (hc:CmpR rk n cmp s) {p:Array Nat} (g:GoodP n p) {k:Nat} (hk:k < n) (hs:SrtR rk p k) {G:Nat->Shared->Prop}
  (h:∀ l,l<=k->(∀ i,i < l->Rk rk p i<=Rk rk p k)->(∀ i,l<=i->i < k->Rk rk p k < Rk rk p i)->G l s):∀ (f l r:Nat),l<=r->r<=k->r - l<=f ->
  (∀ i,i < l->Rk rk p i<=Rk rk p k)->(∀ i,r<=i->i < k->Rk rk p k < Rk rk p i)->(kas_place p k f l r).kasWp cmp G s
 | 0,l,r,h1,h2,h3,lo,hi=>by
  have:l=r:=by omega
  subst this
  exact h l h2 lo hi
 | f + 1,l,r,h1,h2,h3,lo,hi=>by
  unfold kas_place
  by_cases hge:l≥r
  ·rw [if_pos hge]
   have:l=r:=by omega
   subst this
   exact h l h2 lo hi
  ·rw [if_neg hge]
   show cmp (p.getD k 0) (p.getD ((l + r) / 2) 0) _ s
   refine hc _ _ _ (g.lt _ hk) (g.lt _ (by omega)) ?_
   by_cases q:rk (p.getD k 0) < rk (p.getD ((l + r) / 2) 0)
   ·simp only [q,decide_true,if_true]
    exact place_R hc g hk hs h f l ((l + r) / 2) (by omega) (by omega) (by omega) lo fun i a b=>Int.lt_of_lt_of_le q (hs _ _ a b)
   ·simp only [q,decide_false,Bool.false_eq_true,if_false]
    exact place_R hc g hk hs h f ((l + r) / 2 + 1) r (by omega) (by omega) (by omega) (fun i a=>Int.le_trans (hs i ((l + r) / 2) (by omega) (by omega)) (Int.not_lt.mp q)) hi
theorem bin_R (hc:CmpR rk n cmp s) {G:Array Nat->Shared->Prop} (h:∀ p,GoodP n p->SrtR rk p n->G p s):∀ (f:Nat) (p:Array Nat) (k:Nat),k + f=n->GoodP n p->SrtR rk p k->(kas_bin f p k).kasWp cmp G s
 | 0,p,k,e,g,hs=>h p g (by rw [<- e]; exact hs)
 | f + 1,p,k,e,g,hs=>by
  unfold kas_bin
  rw [KasT.kasWp_bind]
  refine place_R hc g (by omega) hs (fun l hl lo hi=>?_) k 0 k (Nat.zero_le _) (Nat.le_refl _) (by omega) (fun i z=>absurd z (Nat.not_lt_zero _)) (fun i a b=>by omega)
  refine bin_R hc h f _ (k + 1) (by omega) ⟨(bubble_perm _ _ _).trans g.perm⟩ fun i j hij hj=>?_
  have hks:k < p.size:=by rw [g.size]; omega
  rw [Rk_bubble hks (by omega),Rk_bubble hks (by omega),show k - (k - l)=l by omega]
  repeat' split
  all_goals first
   | (exfalso; omega)
   | exact Int.le_refl _
   | exact lo _ (by omega)
   | exact Int.le_of_lt (hi _ (by omega) (by omega))
   | exact hs _ _ (by omega) (by omega)
theorem sort_R (hc:CmpR rk n cmp s) (inj:∀ i j,i < n->j < n->rk i=rk j->i=j) (h2:2<=n) {G:Array Nat->Shared->Prop} (h:∀ p,GoodP n p->SrtR rk p n->G p s):(kas_sort n).kasWp cmp G s:=by
 unfold kas_sort
 rw [KasT.kasWp_bind]
 refine count_R hc inj h2 ⟨Array.Perm.refl _⟩ fun m p' a b g hs=>?_
 by_cases hm:m < n
 ·rw [if_pos hm]
  have e:max m 1=m:=by omega
  rw [e]
  exact bin_R hc h (n - m) p' m (by omega) g hs
 ·rw [if_neg hm]
  have:m=n:=by omega
  subst this
  exact h p' g hs
end
end L2
namespace L2
open PySem PySem.W PyProof.Rows HT
theorem lex_irr:∀ a:List Int,lexLt a a=false
 | []=>rfl
 | x::r=>by rw [lexLt_cons,if_pos rfl]; exact lex_irr r
theorem lex_trans:∀ {a b c:List Int},lexLt a b=true->lexLt b c=true->lexLt a c=true
 | [],[],_,h,_=>by rw [lexLt_nil_nil] at h; cases h
 | [],_::_,[],_,h=>by rw [lexLt_cons_nil] at h; cases h
 | [],_::_,_::_,_,_=>rfl
 | _::_,[],_,h,_=>by rw [lexLt_cons_nil] at h; cases h
 | _::_,_::_,[],_,h=>by rw [lexLt_cons_nil] at h; cases h
 | x::a,y::b,z::c,h1,h2=>by
  rw [lexLt_cons] at h1 h2 ⊢
  by_cases e1:x=y
  ·subst e1
   rw [if_pos rfl] at h1
   by_cases e2:x=z
   ·rw [if_pos e2] at h2 ⊢; exact lex_trans h1 h2
   ·rw [if_neg e2] at h2 ⊢; exact h2
  ·rw [if_neg e1] at h1
   have l1:x < y:=of_decide_eq_true h1
   by_cases e2:y=z
   ·subst e2; rw [if_neg e1]; exact h1
   ·rw [if_neg e2] at h2
    have l2:y < z:=of_decide_eq_true h2
    rw [if_neg (by omega)]
    exact decide_eq_true (by omega)
theorem lex_tot:∀ {a b:List Int},lexLt a b=false->lexLt b a=false->a=b
 | [],[],_,_=>rfl
 | [],_::_,h,_=>by rw [lexLt_nil_cons] at h; cases h
 | _::_,[],_,h=>by rw [lexLt_nil_cons] at h; cases h
 | x::a,y::b,h1,h2=>by
  rw [lexLt_cons] at h1 h2
  by_cases e:x=y
  ·subst e
   rw [if_pos rfl] at h1 h2
   rw [lex_tot h1 h2]
  ·rw [if_neg e] at h1
   rw [if_neg (fun z=>e z.symm)] at h2
   have:=of_decide_eq_false h1
   have:=of_decide_eq_false h2
   omega
theorem countP_lt {α:Type} {p q:α->Bool}:∀ {l:List α},(∀ x∈l,p x=true->q x=true)->(∃ x∈l,q x=true/\p x=false)->l.countP p < l.countP q
 | [],_,⟨_,h,_⟩=>nomatch h
 | a::l,h1,⟨x,hx,hq,hp⟩=>by
  have le:l.countP p<=l.countP q:=List.countP_mono_left fun y hy=>h1 y (List.mem_cons_of_mem _ hy)
  rw [List.countP_cons,List.countP_cons]
  rcases List.mem_cons.mp hx with e | hx
  ·subst e
   rw [hq,hp]
   simp
   omega
  ·have lt:=countP_lt (fun y hy=>h1 y (List.mem_cons_of_mem _ hy)) ⟨x,hx,hq,hp⟩
   have:=h1 a List.mem_cons_self
   cases ha:p a <;> cases hb:q a <;> simp_all <;> omega
def rankOf (ks:List (List Int)) (i:Nat):Int:=((List.range ks.length).countP fun j=>lexLt (ks.getD j []) (ks.getD i []):Nat)
theorem rank_lt {ks:List (List Int)} {i j:Nat} (hi:i < ks.length) (h:lexLt (ks.getD i []) (ks.getD j [])=true):rankOf ks i < rankOf ks j:=by
 unfold rankOf
 have:=countP_lt (l:=List.range ks.length) (p:=fun x=>lexLt (ks.getD x []) (ks.getD i [])) (q:=fun x=>lexLt (ks.getD x []) (ks.getD j [])) (fun x _ hx=>lex_trans hx h) ⟨i,List.mem_range.mpr hi,h,lex_irr _⟩
 omega
theorem rank_dec {ks:List (List Int)} (nd:ks.Nodup) {i j:Nat} (hi:i < ks.length) (hj:j < ks.length):decide (rankOf ks i < rankOf ks j)=lexLt (ks.getD i []) (ks.getD j []):=by
 cases e:lexLt (ks.getD i []) (ks.getD j []) with
 | true=>exact decide_eq_true (rank_lt hi e)
 | false =>
  refine decide_eq_false fun z=>?_
  cases e2:lexLt (ks.getD j []) (ks.getD i []) with
  | true=>have:=rank_lt hj e2; omega
  | false =>
   have e3:=lex_tot e e2
   unfold rankOf at z
   rw [e3] at z
   exact absurd z (Int.lt_irrefl _)
theorem rank_inj {ks:List (List Int)} (nd:ks.Nodup) {i j:Nat} (hi:i < ks.length) (hj:j < ks.length) (h:rankOf ks i=rankOf ks j):i=j:=by
 have e1:lexLt (ks.getD i []) (ks.getD j [])=false:=by rw [<- rank_dec nd hi hj]; exact decide_eq_false (by omega)
 have e2:lexLt (ks.getD j []) (ks.getD i [])=false:=by rw [<- rank_dec nd hj hi]; exact decide_eq_false (by omega)
 have e3:=lex_tot e1 e2
 rw [List.getD_eq_getElem?_getD,List.getD_eq_getElem?_getD,List.getElem?_eq_getElem hi,List.getElem?_eq_getElem hj] at e3
 exact (List.getElem_inj (h₀:=hi) (h₁:=hj) nd).mp (by simpa using e3)
section
variable {prog:Program} {w:World} {A:Around} {s:Shared}
theorem lex_walk {Q:Bool->Shared->Prop}:∀ {vs ws:List Value} {ns ms:List Int} {fin:Bool} {i:Nat},IntsAre vs ns->IntsAre ws ms->(fin=decide (ns.length < ms.length))->Q (lexLt ns ms) s->KatLex prog w A true fin Q (vs.zip ws) i s
 | _,_,_,_,fin,i,.nil,.nil,e,h=>by
  subst e
  exact kat_nil h
 | _,_,_,_,fin,i,.nil,.cons _ _ r,e,h=>by
  subst e
  exact kat_nil (by simpa [HT.lexLt] using h)
 | _,_,_,_,fin,i,.cons _ _ r,.nil,e,h=>by
  subst e
  exact kat_nil (by simpa [HT.lexLt] using h)
 | _,_,_,_,fin,i,.cons a t r,.cons c u r2,e,h=>by
  rw [List.zip_cons_cons]
  refine kat_cons (wpAny_eqBool_int ?_)
  rw [lexLt_cons] at h
  by_cases z:a=c
  ·subst z
   rw [if_pos rfl] at h
   rw [beq_self_eq_true]
   exact kat_yes (lex_walk r r2 (by rw [e]; simp) h)
  ·rw [if_neg z] at h
   have hb:(a == c)=false:=by simpa using z
   rw [hb]
   refine kat_no ?_
   cases hi:(true && i == 0) with
   | true=>exact oneLt_int h
   | false=>exact kat_one _ _ (PyProof.Rows.lt_int (show PySem.W.BoolBack Q (.bool (decide (a < c))) s from h))
end
abbrev KIt:=V×Addr×List Int
section
variable {X:Cx} {pins:List (Addr×Obj)} {σ:St} {H:Hp} {s:Shared}
def Inv.pin1 {b:Addr} {o:Obj} (I:Inv X pins σ H s) (f:FpOk X pins H b) (e:s.heap.get? b=some o) (hd:∀ v,o.data≠.cell v):Inv X (pins++[(b,o)]) σ H s :=
 I.pins_of fun p hp=>(List.mem_append.mp hp).elim (fun z=>I.pin p (List.mem_append_right _ z)) fun z=>by
  rw [List.mem_singleton.mp z]
  exact ⟨e,f.1,f.2.1,f.2.2.1,hd⟩
def Inv.turn1 {b:Addr} {h':Heap} (I:Inv X pins σ H s) (f:FpOk X pins H b) (hs:Heap.SameBut b s.heap h'):Inv X pins σ H { s with heap:=h' } :=
 I.turned (t':=s.toks) (fun c o hc e=>(hs.2 c hc).trans e) f.1 f.2.1 f.2.2.2.1 f.2.2.2.2.1 f.2.2.2.2.2
def keyVals (L:List KIt):List Value:=L.map fun q=>Value.ref q.2.1
def getD_map' {α β:Type} {f:α->β} {l:List α} {i:Nat} {d:β} (h:i < l.length):(l.map f).getD i d=f l[i]:=by
 rw [List.getD_eq_getElem?_getD,List.getElem?_map,List.getElem?_eq_getElem h]; rfl
theorem key_kind {L:List KIt} (I:Inv X pins σ H s) (hk:∀ q∈L,SqT X.K H q.2.1 (q.2.2.map V.int)/\q.2.2≠[]) (h2:0 < L.length) {E:Value->Shared->Prop} {A:Around} {Q:SortKind->Shared->Prop} (h:Q (tuples' true) s) :
  wpAny (model X.prog X.w) A (keyKind' (keyVals L).toArray) Q E s:=by
 have tk:∀ L':List KIt,(∀ q∈L',q∈L)->∃ fs:List Value,KatTups s.heap (keyVals L') fs/\fs.length=L'.length/\∀ v∈fs,∃ n t,v=.int n t:=by
  intro L'
  induction L' with
  | nil=>intro _; exact ⟨[],.nil,rfl,fun v hv=>nomatch hv⟩
  | cons q r ih =>
   intro hm
   obtain ⟨fs,a,b,c⟩:=ih fun x hx=>hm x (List.mem_cons_of_mem _ hx)
   obtain ⟨sq,ne⟩:=hk q (hm q List.mem_cons_self)
   obtain ⟨its,rv,⟨o,e,hc,n,hd⟩,_⟩:=I.tuple sq
   match hq:q.2.2,ne with
   | z::zs,_ =>
    rw [hq] at rv
    cases rv with
    | cons rv1 rv2 =>
     obtain ⟨t,et⟩:=rv1
     refine ⟨.int z t::fs,KatTups.cons e hc hd ?_ a,by simp [b],fun v hv=>?_⟩
     ·rw [et]; simp
     ·rcases List.mem_cons.mp hv with e | hv
      ·exact ⟨z,t,e⟩
      ·exact c v hv
 obtain ⟨fs,a,b,c⟩:=tk L fun _ h=>h
 exact kat_kind (T:=.type "int") a (by omega) (fun v hv=>by obtain ⟨n,t,e⟩:=c v hv; subst e; exact .now) (by decide) h
def key_cmp {L:List KIt} (I:Inv X pins σ H s) (hk:∀ q∈L,SqT X.K H q.2.1 (q.2.2.map V.int)/\q.2.2≠[]) (nd:(L.map (·.2.2)).Nodup) {A:Around} :
  CmpR (rankOf (L.map (·.2.2))) L.length (kas_ask X.prog X.w A (tuples' true) (keyVals L)) s:=by
 intro i j C hi hj h
 rw [rank_dec nd (by simpa using hi) (by simpa using hj),getD_map' hi,getD_map' hj] at h
 unfold kas_ask
 rw [show (keyVals L).getD i Value.none=Value.ref L[i].2.1 from getD_map' hi,show (keyVals L).getD j Value.none=Value.ref L[j].2.1 from getD_map' hj]
 obtain ⟨its,rv,⟨o,e,hc,n,hd⟩,_⟩:=I.tuple (hk _ (List.getElem_mem hi)).1
 obtain ⟨its2,rv2,⟨o2,e2,hc2,n2,hd2⟩,_⟩:=I.tuple (hk _ (List.getElem_mem hj)).1
 have ia:∀ {ns:List Int} {vs:List Value},Vals (ns.map V.int) vs->IntsAre vs ns:=by
  intro ns
  induction ns with
  | nil=>intro vs h; cases h; exact .nil
  | cons a r ih =>
   intro vs h
   cases h with
   | cons h1 h2=>obtain ⟨t,e⟩:=h1; subst e; exact .cons a t (ih h2)
 refine kat_lt e hd e2 hd2 ?_
 have i1:=ia rv
 have i2:=ia rv2
 exact lex_walk i1 i2 (by rw [<- i1.length,<- i2.length]; simp) h
end
section
abbrev PD (D:Addr) (e1:Nat):Addr×Obj:=(D,seqObj "list" #[] e1)
end
def codeφ (c:Addr) (q:Str):HO:=.ext fun h=>h.CodeRec (.ref c) q
end L2
namespace L2
open PySem PySem.Spec PyProof.Rows
section
variable {X:Cx} {e:Expr} {st:Option Expr} {te:TE} {ts:TO} {p2 pos:Pos}
def tRev (K:W.Frag) (te:TE) (ts:TO):TE:=fun σ H Q=>te σ H fun x H1=>ts σ H1 fun k H2=>k=some (-1)/\∃ a xs,x=.ref a/\SqL K H2 a xs/\∀ p,H2 p=none->Q (.ref p) (upd H2 p (.lst xs.reverse))
theorem pe_rev (he:PE X e te) (hs:PO X st ts) (hsub:∀ o i,∃ ops,subscripted (.Slice none none st p2) false o i=operate ops (getItem o i)):PE X (.Subscript e (.Slice none none st p2) pos) (tRev X.K te ts):=by
 intro pins s σ H Q I h
 refine Subscript_ (thn (he pins s σ H _ I h) fun v s1 ⟨x,H1,I1,r1,q1⟩=>?_)
 refine wpAny_Slice ?_
 rw [evalPart_none]
 refine wpAny_pure ?_
 refine wpAny_pure ?_
 refine thn (hs pins s1 σ H1 _ I1 q1) fun vk s3 ⟨k,H3,I3,pk,ek,a,xs,ex,hx,q⟩=>?_
 subst ek
 subst ex
 cases r1
 have I4:Inv X pins σ H3 { s3 with heap:=s3.heap.push { cls:=.type "slice",data:=.fields #[.none,.none,vk] } }:=I3.kept (t':=s3.toks) fun b ob q=>Heap.get?_push_of_some _ q
 obtain ⟨its,r,ht,hz⟩:=I4.list hx
 have hlen:=r.length
 show wpAny (model X.prog X.w) X.A (subscriptTail e (.Slice none none st p2) (.ref a) (.ref s3.heap.objs.size)) (EP X pins σ Q) X.xe { s3 with heap:=s3.heap.push { cls:=.type "slice",data:=.fields #[.none,.none,vk] } }
 obtain ⟨ops,hop⟩:=hsub (.ref a) (.ref s3.heap.objs.size)
 refine tail_any (ops:=ops) ht.isList.typeIs slot_list_getitem.lookup ?_ hop
 refine wpAny_getItem_list_slice ht.isList (Heap.IsSliceOf.new ..) .none .none pk (by decide) ?_ (by rw [List.size_toArray] <;> omega)
 rw [W.krv_pick]
 refine ⟨.ref _,_,I4.laid (t':=s3.toks) (o:=.lst xs.reverse) (fun b ob q=>Heap.get?_push_of_some _ q) (Nat.le_refl _) ?_,rfl,q _ (I4.hok.fresh (Nat.le_refl _))⟩
 refine ⟨by rw [List.length_reverse]; exact hz,its.reverse,0,?_,?_⟩
 ·have rev:∀ {a:List V} {b:List Value},Vals a b->Vals a.reverse b.reverse:=by
   intro a b h
   induction h with
   | nil=>exact .nil
   | cons h1 h2 ih=>rw [List.reverse_cons,List.reverse_cons]; exact ih.append (.cons h1 .nil)
  exact rev r
 ·exact Heap.get?_push_size _ rfl
end
section
variable {prog:Program} {w:World} {A:Around} {E:Value->Shared->Prop} {s:Shared}
def getItem_tuple_whole {t sl:Addr} {items:Array Value} {vl vu:Value} {lo hi:Option Int} {Q:Value->Shared->Prop} (ht:IsTup s.heap t items) (hs:s.heap.IsSliceOf sl vl vu .none) (pl:IsPart vl lo) (pu:IsPart vu hi)
  (hw:HT.sIx items.size 0 lo=0/\HT.sIx items.size items.size hi=items.size) (h:Q (.ref t) s):wpAny (model prog w) A (getItem (.ref t) (.ref sl)) Q E s:=by
 obtain ⟨os,hos,hcs,hds⟩:=id hs
 have hTs:s.TypeIs (.ref sl) "slice":=⟨os,hos,hcs⟩
 unfold getItem
 try with_reducible refine wpAny_holding ?_
 first | refine wpAny_bind (wpAny_pure ?_) | skip
 refine wpAny_bind (wpAny_sequenceKey ht.typeIs (by decide) ?_)
 refine wpAny_bind (wpAny_callSpecial?_slot (name:=Str.ofString "__getitem__") ht.typeIs PyProof.Rows.slot_tuple_getitem
  (wpAny_call_entry PyProof.Rows.slot_tuple_getitem ht.typeIs entry_tuple_getitem ?_ (args_tuple_getitem _ _)))
 show wpAny _ _ (Builtin.Tuple.tupleItemsOf (.ref t) >>= _) _ _ s
 refine wpAny_bind (tupleItemsOf_ ht ?_)
 refine wpAny_bind (wpAny_typeOf hTs ?_)
 rw [if_pos (by decide)]
 refine wpAny_bind (HT.sliceApplied_gen hs pl pu ?_)
 show wpAny _ _ (if (((HT.sIx items.size 0 lo:Nat):Int) == 0 && (1:Int) == 1 && (HT.sIx items.size items.size hi - HT.sIx items.size 0 lo) == items.size)=true then _ else _) _ _ s
 have hyes:((((HT.sIx items.size 0 lo:Nat):Int) == 0 && (1:Int) == 1 && (HT.sIx items.size items.size hi - HT.sIx items.size 0 lo) == items.size)=true):=by
  rw [hw.1,hw.2]; simp
 rw [if_pos hyes]
 unfold Builtin.Tuple.tupleIsExact
 refine wpAny_bind ?_
 first
  | exact wpAny_bind (wpAny_typeOf ht.typeIs (wpAny_pure (by rw [if_pos (by decide)]; exact wpAny_bind (wpAny_rule (wpAny_pure ⟨_,rfl,wpAny_pure h⟩)))))
  | exact wpAny_bind (wpAny_typeOf ht.typeIs (wpAny_pure (by simp; exact wpAny_bind (wpAny_rule (wpAny_pure ⟨_,rfl,wpAny_pure h⟩)))))
end
section
variable {X:Cx}
def rSlW (K:W.Frag):V->Option Int->Option Int->Hp->VK->Prop:=fun x lo hi H Q=>∃ a xs,x=.ref a/\SqT K H a xs /\
 ((cutV xs lo hi=xs->Q (.ref a) H)/\∀ p,H p=none->Q (.ref p) (upd H p (.tup (cutV xs lo hi))))
def sl_tupW:SlR X (rSlW X.K):=by
 intro pins s σ H x v vl vu lo hi sl Q I rx hs pl pu h
 obtain ⟨a,xs,rfl,hx,q0,q⟩:=h
 cases rx
 obtain ⟨its,r,ht,hz⟩:=I.tuple hx
 have hlen:its.toArray.size=xs.length:=by rw [List.size_toArray]; exact r.length.symm
 refine ⟨"tuple",_,PyProof.Rows.slot_tuple_getitem.lookup,ht.typeIs,?_⟩
 by_cases hw:HT.sIx xs.length 0 lo=0/\HT.sIx xs.length xs.length hi=xs.length
 ·refine getItem_tuple_whole ht hs pl pu (by rw [hlen]; exact hw) ⟨.ref a,H,I,rfl,q0 ?_⟩
  unfold cutV
  rw [hw.1,hw.2]
  simp
 ·refine HT.getItem_tuple_cut ht hs pl pu (by rw [hlen]; exact hw) ?_ (by rw [hlen]; exact hz)
  rw [hlen]
  refine ⟨.ref s.heap.objs.size,_,I.laid (t':=s.toks) (o:=.tup (cutV xs lo hi)) (fun b ob q=>Heap.get?_push_of_some _ q) (Nat.le_refl _) ?_,rfl,q _ (I.hok.fresh (Nat.le_refl _))⟩
  exact ⟨Nat.le_trans (cutV_length xs lo hi) hz,_,(r.drop (HT.sIx xs.length 0 lo)).take (HT.sIx xs.length xs.length hi - HT.sIx xs.length 0 lo),IsTupD.new _ _⟩
end
abbrev Pr:=Int×List Int
def TupK (H H':Hp):Prop:=∀ b xs,H b=some (.tup xs)->H' b=some (.tup xs)
def TupK.trans {H H1 H2:Hp} (a:TupK H H1) (b:TupK H1 H2):TupK H H2:=fun c xs h=>b c xs (a c xs h)
def Same.tk {H H':Hp} (s:Same H H'):TupK H H':=fun b xs h=>s b _ h
def Grow.tk {p:Addr} {H H':Hp} (g:Grow p H H') {xs:List V} (e:H p=some (.lst xs)):TupK H H':=fun b ys h=>g b _ h (ne_of h e fun z=>by cases z)
def WordV (H:Hp) (v:V) (w:List Int):Prop:=∃ t,v=.ref t/\H t=some (.tup (w.map V.int))
def PairV (H:Hp) (v:V) (p:Pr):Prop:=∃ t tw,v=.ref t/\H t=some (.tup [.int p.1,.ref tw])/\H tw=some (.tup (p.2.map V.int))
def WordV.tk {H H':Hp} {v:V} {w:List Int} (h:WordV H v w) (s:TupK H H'):WordV H' v w:=by
 obtain ⟨t,e,a⟩:=h
 exact ⟨t,e,s _ _ a⟩
def PairV.tk {H H':Hp} {v:V} {p:Pr} (h:PairV H v p) (s:TupK H H'):PairV H' v p:=by
 obtain ⟨t,tw,e,a,b⟩:=h
 exact ⟨t,tw,e,s _ _ a,s _ _ b⟩
abbrev Words (H:Hp):List V->List (List Int)->Prop:=Paired (WordV H)
abbrev Prs (H:Hp):List V->List Pr->Prop:=Paired (PairV H)
def Words.tk {H H':Hp} {vs:List V} {ws:List (List Int)} (h:Words H vs ws) (s:TupK H H'):Words H' vs ws:=Paired.mapP h fun _ _ z=>z.tk s
def Prs.tk {H H':Hp} {vs:List V} {L:List Pr} (h:Prs H vs L) (s:TupK H H'):Prs H' vs L:=Paired.mapP h fun _ _ z=>z.tk s
theorem Paired.at {α β:Type} {F:α->β->Prop}:∀ {l:List α} {m:List β},Paired F l m->∀ {i:Nat} (h1:i < l.length) (h2:i < m.length),F l[i] m[i]
 | _,_,.nil,_,h,_=>absurd h (Nat.not_lt_zero _)
 | _,_,.cons a r,0,_,_=>a
 | _,_,.cons a r,i + 1,h1,h2=>Paired.at r (i:=i) (by simpa using h1) (by simpa using h2)
theorem Paired.snoc {α β:Type} {F:α->β->Prop} {x:α} {y:β} (h:F x y):∀ {l:List α} {m:List β},Paired F l m->Paired F (l++[x]) (m++[y])
 | _,_,.nil=>.cons h .nil
 | _,_,.cons a r=>.cons a (Paired.snoc h r)
theorem Paired.app {α β:Type} {F:α->β->Prop} {l':List α} {m':List β} (h:Paired F l' m'):∀ {l:List α} {m:List β},Paired F l m->Paired F (l++l') (m++m')
 | _,_,.nil=>h
 | _,_,.cons a r=>.cons a (Paired.app h r)
theorem Paired.tak {α β:Type} {F:α->β->Prop}:∀ {l:List α} {m:List β} (n:Nat),Paired F l m->Paired F (l.take n) (m.take n)
 | _,_,0,_=>by rw [List.take_zero,List.take_zero]; exact .nil
 | _,_,n + 1,.nil=>.nil
 | _,_,n + 1,.cons a r=>.cons a (Paired.tak n r)
theorem Paired.drp {α β:Type} {F:α->β->Prop}:∀ {l:List α} {m:List β} (n:Nat),Paired F l m->Paired F (l.drop n) (m.drop n)
 | _,_,0,h=>h
 | _,_,n + 1,.nil=>.nil
 | _,_,n + 1,.cons a r=>Paired.drp n r
abbrev wk (w:List Int):List Key:=w.map Sum.inl
def BegunIs (kvs:List (List Key×V)) (ws:List (List Int)):Prop:=∀ u:List Int,(valV kvs (wk u)).isSome=decide (∃ w∈ws,u<+:w/\u.length < w.length)
theorem wk_inj:∀ {u v:List Int},wk u=wk v->u=v
 | [],[],_=>rfl
 | [],_::_,h=>nomatch h
 | _::_,[],h=>nomatch h
 | x::u,y::v,h=>by
  have h':(Sum.inl x:Key)::wk u=Sum.inl y::wk v:=h
  injection h' with a b
  rw [Sum.inl.inj a,wk_inj b]
def wordsBy (H:Hp) (k1:List (Key×V)) (S:List Pr):Prop:=(∀ p∈S,∃ t,valV k1 (Sum.inl p.1)=some (.ref t)/\H t=some (.tup (p.2.map V.int)))/\∀ s:Int,(∀ p∈S,p.1≠s)->valV k1 (Sum.inl s)=none
def signsBy (k2:List (List Key×V)) (S:List Pr):Prop:=(∀ p∈S,valV k2 (wk p.2)=some (.int p.1))/\∀ u:List Int,(∀ p∈S,p.2≠u)->valV k2 (wk u)=none
def SizesAre (ns:List Int) (S:List Pr):Prop:=ns.Pairwise (· < ·)/\∀ n:Int,n∈ns↔∃ p∈S,(p.2.length:Int)=n
structure CodeIn (H:Hp) (tp d1 d2 d3 d4:Addr) (S:List Pr):Prop where
 pr:∃ vs,H tp=some (.tup vs)/\Prs H vs S
 wb:∃ k1,H d1=some (.dK k1)/\wordsBy H k1 S
 sb:∃ k2,H d2=some (.dT k2)/\signsBy k2 S
 bg:∃ k3,H d3=some (.dT k3)/\BegunIs k3 (S.map (·.2))
 sz:∃ ns:List Int,H d4=some (.tup (ns.map V.int))/\SizesAre ns S
def CodeAt (C:Addr) (H:Hp) (x:Addr) (S:List Pr):Prop:=∃ dx tp d1 d2 d3 d4,H x=some (.ins C dx [("pairs",.ref tp),("words_by_sign",.ref d1),("signs_by_word",.ref d2),("begun",.ref d3),("word_sizes",.ref d4)])/\CodeIn H tp d1 d2 d3 d4 S
section
variable {X:Cx} {K:W.Frag}
def rLen (K:W.Frag):List V->Hp->VK->Prop:=fun xs H Q=>∃ x n,xs=[x]/\LenV K x H n/\Q (.int n) H
def bk_len (h:X.K=K):CallR X (.builtin "len") (rLen K):=by subst h; exact call_len
def bk_ixl (h:X.K=K):IxR X (rIxL K):=by subst h; exact ix_list
def bk_catT (h:X.K=K):OpR X (binaryOp .Add) (rCatT K):=by subst h; exact op_catT
end
def spBytes:Sp:=fun vs H Q _=>∃ (p a:Addr) (m:Int),vs=[.ref p,.int m]/\HandAt H p a/\2<=m/\m<=4 /\
 ∀ (l:Addr) (bs:List Int) (H':Hp),H l=none->l≠p->H' l=some (.lst (bs.map V.int))->bs.Nodup->2<=bs.length->(bs.length:Int)<=m->(∀ b∈bs,0<=b/\b < 256)->HandAt H' p a->Grow p H H'->Q (.ref l) H'
theorem steps_nodup {b s:Int} (hs:1<=s) {n:Nat} (hn:s * n<=255 + s):((List.range n).map fun k:Nat=>(b + s * (k:Int)) % 256).Nodup:=by
 refine List.pairwise_map.mpr ?_
 refine List.pairwise_iff_getElem.mpr fun i j hi hj hij=>?_
 simp only [List.length_range] at hi hj
 simp only [List.getElem_range]
 intro e
 have h2:s * ((j:Int) - (i:Int))=s * (j:Int) - s * (i:Int):=Int.mul_sub _ _ _
 have h3:0 < s * ((j:Int) - (i:Int)):=Int.mul_pos (by omega) (by omega)
 have h4:s * ((j:Int) - (i:Int))<=s * ((n:Int) - 1):=Int.mul_le_mul_of_nonneg_left (by omega) (by omega)
 have h5:s * ((n:Int) - 1)<=255:=by rw [Int.mul_sub,Int.mul_one]; omega
 rw [h2] at h3 h4
 generalize s * (j:Int)=X at *
 generalize s * (i:Int)=Y at *
 omega
def PF (ws:List (List Int)):Prop:=ws.Pairwise fun a b=>¬ a<+:b/\¬ b<+:a
def WOk (ws:List (List Int)):Prop:=PF ws/\∀ w∈ws,w≠[]/\w.length<=4
def PF.sub {a b:List (List Int)} (h:PF b) (s:a.Sublist b):PF a:=List.Pairwise.sublist s h
def WOk.sub {a b:List (List Int)} (h:WOk b) (s:a.Sublist b):WOk a:=⟨h.1.sub s,fun w hw=>h.2 w (s.subset hw)⟩
def snoc_apart {w:List Int} {a b:Int} (h:a≠b):¬ (w++[a])<+:(w++[b]):=fun e=>by
 have:=List.IsPrefix.eq_of_length e (by simp)
 simp at this
 exact h this
def ones_pf {bs:List Int} (nd:bs.Nodup):WOk (bs.map fun b=>[b]):=by
 refine ⟨List.pairwise_map.mpr (nd.imp fun z=>⟨snoc_apart (w:=[]) z,snoc_apart (w:=[]) z.symm⟩),fun w hw=>?_⟩
 obtain ⟨b,_,rfl⟩:=List.mem_map.mp hw
 exact ⟨by simp,by simp⟩
theorem pf_split {a c:List (List Int)} {w:List Int} {bs:List Int} (nd:bs.Nodup) (h:WOk (a++w::c)) (hw:w.length < 4):WOk (a++(bs.map fun b=>w++[b])++c):=by
 obtain ⟨h1,h2⟩:=h
 have hk:∀ x,(¬ x<+:w/\¬ w<+:x)->∀ b,¬ x<+:w++[b]/\¬ (w++[b])<+:x:=fun x hx b=>by
  refine ⟨fun z=>?_,fun z=>hx.2 ((List.prefix_append _ _).trans z)⟩
  rcases List.prefix_concat_iff.mp z with e | e
  ·exact hx.2 (e ▸ List.prefix_append _ _)
  ·exact hx.1 e
 unfold PF at h1
 rw [List.pairwise_append] at h1
 obtain ⟨pa,pwc,pac⟩:=h1
 rw [List.pairwise_cons] at pwc
 obtain ⟨pw,pc⟩:=pwc
 refine ⟨?_,fun x hx=>?_⟩
 ·unfold PF
  rw [List.append_assoc,List.pairwise_append]
  refine ⟨pa,?_,fun x hx y hy=>?_⟩
  ·rw [List.pairwise_append]
   refine ⟨List.pairwise_map.mpr (nd.imp fun z=>⟨snoc_apart z,snoc_apart z.symm⟩),pc,fun x hx y hy=>?_⟩
   obtain ⟨b,_,rfl⟩:=List.mem_map.mp hx
   have:=hk y ⟨(pw y hy).2,(pw y hy).1⟩ b
   exact ⟨this.2,this.1⟩
  ·rcases List.mem_append.mp hy with hy | hy
   ·obtain ⟨b,_,rfl⟩:=List.mem_map.mp hy
    exact hk x (pac x hx w List.mem_cons_self) b
   ·exact pac x hx y (List.mem_cons_of_mem _ hy)
 ·rcases List.mem_append.mp hx with hx | hx
  ·rcases List.mem_append.mp hx with hx | hx
   ·exact h2 x (List.mem_append_left _ hx)
   ·obtain ⟨b,_,rfl⟩:=List.mem_map.mp hx
    exact ⟨by simp,by rw [List.length_append,List.length_singleton]; omega⟩
  ·exact h2 x (List.mem_append_right _ (List.mem_cons_of_mem _ hx))
def WordsAt (H:Hp) (a:Addr) (ws:List (List Int)):Prop:=∃ vs,H a=some (.lst vs)/\Words H vs ws
section
variable {K:W.Frag} {H H':Hp} {a:Addr} {xs:List V} {i:Nat} {y:V}
def itl_go (e:H a=some (.lst xs)) (hi:i < xs.length):(Itl K a).go i H:=⟨_,_,SqL.of e,List.getElem?_eq_getElem hi⟩
def itl_stop (e:H a=some (.lst xs)) (hi:xs.length<=i):(Itl K a).stop i H:=⟨_,SqL.of e,hi⟩
def itl_yld (e:H a=some (.lst xs)) (hi:i < xs.length) (z:(Itl K a).yld i H y H'):H'=H/\y=xs[i]:=by
 refine ⟨z.1,?_⟩
 have:=z.2 _ (SqL.of e)
 rw [List.getElem?_eq_getElem hi] at this
 exact (Option.some.inj this).symm
end
def hand_of {H:Hp} {p a:Addr} (h:HandAt H p a):∃ xs,H p=some (.lst xs):=let ⟨_,_,_,e,_⟩:=h.ex; ⟨_,e⟩
def Words.take1 {H:Hp} {vs:List V} {ws:List (List Int)} (h:Words H vs ws) {i:Nat} (hi:i < vs.length):∃ (hj:i < ws.length) (t:Addr),vs[i]=.ref t/\H t=some (.tup (ws[i].map V.int)):=by
 have hj:i < ws.length:=by rw [<- Paired.length h]; exact hi
 obtain ⟨t,e,z⟩:=L2.Paired.at h hi hj
 exact ⟨hj,t,e,z⟩
def spSigns:Sp:=fun vs H Q _=>∃ (p a:Addr) (m:Int),vs=[.ref p,.int m]/\HandAt H p a/\0<=m/\m<=100 /\
 ∀ (l:Addr) (ss:List Int) (H':Hp),H l=none->l≠p->H' l=some (.lst (ss.map V.int))->ss.Nodup->(ss.length:Int)=m->HandAt H' p a->Grow p H H'->Q (.ref l) H'
theorem steps_inj {b s:Int} (hs:1<=s) (n:Nat):((List.range n).map fun k:Nat=>b + s * (k:Int)).Nodup:=by
 refine List.pairwise_map.mpr (List.pairwise_iff_getElem.mpr fun i j hi hj hij=>?_)
 simp only [List.getElem_range]
 intro e
 have h3:0 < s * ((j:Int) - (i:Int)):=Int.mul_pos (by omega) (by omega)
 rw [Int.mul_sub] at h3
 omega
def spin_nodup {ss:List Int} (h:ss.Nodup) (n:Nat):(ss.drop n++ss.take n).Nodup:=by
 have:(ss.take n++ss.drop n).Nodup:=by rw [List.take_append_drop]; exact h
 exact (List.perm_append_comm.nodup_iff).mp this
def CodeAt.same {C x:Addr} {H H':Hp} {S:List Pr} (h:CodeAt C H x S) (s:Same H H'):CodeAt C H' x S:=by
 obtain ⟨dx,tp,d1,d2,d3,d4,ex,⟨⟨vs,a1,a2⟩,⟨k1,b1,b2⟩,⟨k2,c1,c2⟩,⟨k3,f1,f2⟩,⟨k4,g1,g2⟩⟩⟩:=h
 refine ⟨dx,tp,d1,d2,d3,d4,s _ _ ex,⟨vs,s _ _ a1,Prs.tk a2 s.tk⟩,⟨k1,s _ _ b1,fun p hp=>?_,b2.2⟩,⟨k2,s _ _ c1,c2⟩,⟨k3,s _ _ f1,f2⟩,⟨k4,s _ _ g1,g2⟩⟩
 obtain ⟨t,u,v⟩:=b2.1 p hp
 exact ⟨t,u,s _ _ v⟩
section
variable {X:Cx} {K:W.Frag}
def rListOf (K:W.Frag):List V->Hp->VK->Prop:=fun xs H Q=>∃ p ys,xs=[.ref p]/\(SqL K H p ys\/SqT K H p ys)/\∀ l,H l=none->Q (.ref l) (upd H l (.lst ys))
def bk_list (h:X.K=K):CallR X (.type "list") (rListOf K):=by subst h; exact call_list_of
def rTupOf (K:W.Frag):List V->Hp->VK->Prop:=fun xs H Q=>∃ p ys,xs=[.ref p]/\((SqL K H p ys/\∀ l,H l=none->Q (.ref l) (upd H l (.tup ys)))\/(SqT K H p ys/\Q (.ref p) H))
def bk_tup (h:X.K=K):CallR X (.type "tuple") (rTupOf K):=by subst h; exact call_tuple_of
end
def excP (ea C:Addr) (d:Option Addr) (h:Heap):Prop:=∃ oe vs,h.get? ea=some oe/\oe.cls=.ref C/\oe.dict=d/\oe.data=.fields vs/\vs.size=6
end L2
namespace L2
open PySem PySem.Spec PyProof.Rows PySem.W
def xdP (d:Addr) (fs:List (Str×V)) (h:Heap):Prop:=∃ mA,h.Ns1 d mA/\(∀ f,RelO (fs.lookup f) (mA f))/\PySem.Within mA (fs.map (·.1))
end L2
namespace L2
open PySem PySem.Spec PyProof.Rows PySem.W PySem.Builtin PySem.Builtin.ObjectAttr
section
def XD (H:Hp):Option Addr->List (Str×V)->Prop
 | some d,fs=>H d=some (.ext (xdP d fs))
 | none,fs=>fs=[]
theorem XD.mono {H H':Hp} (s:Same H H'):∀ {o:Option Addr} {fs:List (Str×V)},XD H o fs->XD H' o fs
 | some _,_,h=>s _ _ h
 | none,_,h=>h
end
end L2
namespace L2
open PySem PySem.Spec PyProof.Rows
section
variable {X:Cx} {pins:List (Addr×Obj)} {σ:St} {H:Hp} {s:Shared} {h':Heap}
def Inv.turned2 {t':Nat} {e it:Addr} (I:Inv X pins σ H s) (k:∀ b o,b≠e->b≠it->s.heap.get? b=some o->h'.get? b=some o) (f:FpOk X pins H e) (g:FpOk X pins H it):Inv X pins σ H { s with heap:=h',toks:=t' }:=by
 obtain ⟨f0,f1,f2,f3,f4,f5⟩:=f
 obtain ⟨g0,g1,g2,g3,g4,g5⟩:=g
 have ne:∀ b u,H b=some u->b≠e:=fun b u q z=>by rw [z,f0] at q; cases q
 have nit:∀ b u,H b=some u->b≠it:=fun b u q z=>by rw [z,g0] at q; cases q
 refine I.step (g':=s.gens) (d':=s.drawn) (ch:=[e,it]) (fun b hb=>?_) (fun b o _ _ hc q _=>k b o (fun z=>hc (by simp [z])) (fun z=>hc (by simp [z])) q) (fun b o _ _ hc q _=>⟨o.slots,k b o (fun z=>hc (by simp [z])) (fun z=>hc (by simp [z])) q⟩) (fun _ _ _ _ n=>n)
  (fun b o hc q=>⟨o,k b o (fun z=>hc (by simp [z])) (fun z=>hc (by simp [z])) q⟩) (fun _ _ q=>q) (fun _ _ _ q=>q) (fun b ps q=>⟨#[],by rw [q]; simp⟩) (fun m hm=>?_) (fun b u q=>?_) I.bare
 ·rcases List.mem_cons.mp hb with z | hb
  ·subst z
   exact ⟨f3,f1,f4,f5⟩
  ·have z:b=it:=by simpa using hb
   subst z
   exact ⟨g3,g1,g4,g5⟩
 ·obtain ⟨o,es,ep,ho,r⟩:=hm
  exact ⟨o,es,ep,k _ o (Ne.symm f1) (Ne.symm g1) ho,r⟩
 ·refine (I.hok b u q).stay (fun c v hc q'=>k c v ?_ ?_ q') (fun _ q=>q) fun _ _ q=>q
  ·rcases hc with z | z
   ·rw [z]; exact ne b u q
   ·exact ne c _ z
  ·rcases hc with z | z
   ·rw [z]; exact nit b u q
   ·exact nit c _ z
end
def Ite (K:W.Frag) (a:Addr):It :=
 ⟨fun i H=>∃ xs x,SqL K H a xs/\xs[i]?=some x,fun i H x H'=>∃ (t:Addr) (y:V),x=.ref t/\H t=none/\H'=upd H t (.tup [.int i,y])/\∀ xs,SqL K H a xs->xs[i]?=some y,fun i H=>∃ xs,SqL K H a xs/\xs.length<=i⟩
theorem turn_enum {P:Program} {w:World} {K:W.Frag} {elts:List Expr} {x1:Nat} {pos:Pos} (a e it:Addr) (hne:e≠it):Turn P w K (.Tuple elts x1 pos) (Ite K a) [e,it] e (fun i h=>(∃ old,IsEnum h e it i old)/\h.IsListIter it a i) where
 mem:=by simp
 obj:=fun i h st b hb=>by
  obtain ⟨⟨old,st1⟩,o,e2,c2,d2⟩:=st
  rcases List.mem_cons.mp hb with z | hb
  ·subst z
   exact ⟨_,st1,fun v z=>by
    have z':Data.fields _=Data.cell v:=z
    cases z'⟩
  ·have z:b=it:=by simpa using hb
   subst z
   exact ⟨o,e2,fun v z=>by rw [d2] at z; cases z⟩
 keep:=fun i h h' st k=>by
  obtain ⟨⟨old,st1⟩,st2⟩:=st
  exact ⟨⟨old,k e (by simp) _ st1⟩,st2.at fun o q=>k it (by simp) o q⟩
 item:=by
  intro X hP hw hK hc i pins s σ H E I hf st hg
  subst hP hw hK
  obtain ⟨⟨old,st1⟩,st2⟩:=st
  obtain ⟨xs,x,hq,hx⟩:=hg
  obtain ⟨its,rv,p,hz⟩:=I.list hq
  obtain ⟨u,hu,ru⟩:=rv.get hx
  refine wpAny_pyNext_enum_item st1 st2 p.isList (x:=u) (by simpa using hu) hne fun h1 eo st2' et hsz hk=>?_
  have he:e < s.heap.objs.size:=Heap.lt_size st1
  have hi:it < s.heap.objs.size:=by obtain ⟨_,q,_⟩:=st2; exact Heap.lt_size q
  refine ⟨_,rfl,wpAny_letOwnedTupleGo_enum eo fun h2 en2 sb=>?_⟩
  replace sb:Heap.SameBut e h1 h2:=sb
  have fr:H s.heap.objs.size=none:=I.fresh
  have Il:Inv X pins σ (upd H s.heap.objs.size (.tup [.int i,x])) { s with heap:=s.heap.push { cls:=.type "tuple",data:=.seq #[.int i s.toks,u] },toks:=s.toks }:=I.laid (fun b o q=>Heap.get?_push_of_some _ q) (Nat.le_refl _)
   ⟨by show 2<=sizeLine; decide,[.int i s.toks,u],.cons ⟨_,rfl⟩ (.cons ru .nil),⟨_,Heap.get?_push_size _ rfl,rfl,_,rfl,rfl⟩⟩
  have up:∀ b,b∈[e,it]->FpOk X pins (upd H s.heap.objs.size (.tup [.int i,x])) b:=fun b hb=>by
   obtain ⟨f0,f⟩:=hf b hb
   refine ⟨?_,f⟩
   have hlt:b < s.heap.objs.size:=by
    rcases List.mem_cons.mp hb with z | hb
    ·rw [z]; exact he
    ·have z:b=it:=by simpa using hb
     rw [z]; exact hi
   rw [upd_ne (Nat.ne_of_lt hlt)]
   exact f0
  have I2:Inv X pins σ (upd H s.heap.objs.size (.tup [.int i,x])) { s with heap:=h2,toks:=s.toks + 1 }:=by
   refine Inv.turned2 (s:={ s with heap:=s.heap.push { cls:=.type "tuple",data:=.seq #[.int i s.toks,u] },toks:=s.toks }) (h':=h2) (t':=s.toks + 1) (e:=e) (it:=it) Il (fun b o be bi q=>?_) (up e (by simp)) (up it (by simp))
   rcases Heap.get?_push_cases q with ⟨z1,z2⟩ | q
   ·subst z1 z2
    exact (sb.2 _ (Nat.ne_of_gt he)).trans et
   ·exact (sb.2 _ be).trans (hk b o be bi q)
  refine ⟨.ref s.heap.objs.size,_,I2,rfl,⟨_,x,rfl,fr,rfl,fun ys hy=>by rw [I.list_inj hy hq]; exact hx⟩,⟨⟨u,?_⟩,st2'.at fun o q=>(sb.2 it hne.symm).trans q⟩,fun b hb=>(up b hb).1⟩
  ·have z:((i + 1:Nat):Int)=(i:Int) + 1:=by push_cast; rfl
   rw [z]
   exact en2
 done:=by
  intro X hP hw hK hc i pins s σ H E I hf st hg
  subst hP hw hK
  obtain ⟨⟨old,st1⟩,st2⟩:=st
  obtain ⟨xs,hq,hx⟩:=hg
  obtain ⟨its,rv,p,hz⟩:=I.list hq
  obtain ⟨f0,f1,f2,f3,f4,f5⟩:=hf it (by simp)
  have hl:=rv.length
  exact wpAny_pyNext_enum_end (I.ok.hd hc) st1 st2 p.isList (by simp; omega) fun h' eb=>⟨rfl,I.turned (t':=s.toks) (fun b o hb e=>eb b o hb e) f0 f1 f3 f4 f5⟩
 self:=fun _ _ _ _ _ st h=>let ⟨⟨_,q⟩,_⟩:=st; wpAny_pyIter_enum q h
section
variable {X:Cx}
def iEnum (K:W.Frag) (tl:TA):TI:=fun σ H R=>tl σ H fun vs H1=>∃ a,vs=[.ref a]/\(∃ xs,SqL K H1 a xs)/\R (Ite K a) H1
theorem pi_enum {elts:List Expr} {x1:Nat} {pt:Pos} {l:Expr} {tl:TA} {p pos:Pos} (hg:Gl X "enumerate") (hm:X.mg "enumerate"=none) (ha:PA X [l] tl) (hs:starEach [l] X.env=[(false,eval l X.env)]:=by rfl):PI X (.Tuple elts x1 pt) (.Call (.Name "enumerate" p) [l] [] pos) (iEnum X.K tl):=by
 intro pins s σ H R I h
 refine Call_ (ld_blt I hg hm boot_enumerate (PyProof.Rows.callWith_type1 (thn (ha pos pins s σ H _ I h) fun us s1 ⟨vs,H1,I1,r1,q1⟩=>?_) hs rfl))
 obtain ⟨a,e,⟨xs,hq⟩,q⟩:=q1
 subst e
 cases r1 with
 | cons r rr =>
  cases rr
  cases r
  obtain ⟨its,rv,pl,hz⟩:=I1.list hq
  refine call_enumerate_list pl.isList fun h' he hit hsz hk=>?_
  have I2:Inv X pins σ H1 { s1 with heap:=h',toks:=s1.toks }:=I1.kept hk
  refine wpAny_pyIter_enum he ?_
  refine ⟨s1.heap.objs.size + 1,[s1.heap.objs.size + 1,s1.heap.objs.size],_,_,H1,rfl,I2,turn_enum a _ _ (Nat.succ_ne_self _),⟨⟨_,he⟩,hit⟩,fun b hb=>?_,q⟩
  rcases List.mem_cons.mp hb with z | hb
  ·subst z
   exact I1.fpOk (Nat.le_succ _) (I1.hok.fresh (Nat.le_succ _))
  ·have z:b=s1.heap.objs.size:=by simpa using hb
   subst z
   exact I1.fpOk (Nat.le_refl _) (I1.hok.fresh (Nat.le_refl _))
end
end L2
namespace HT
open PySem PySem.Spec PyProof.Rows
section
variable {prog:Program} {w:World} {A:Around} {E:Value->Shared->Prop} {s:Shared}
def adjust_rev (n:Nat):Builtin.Slice.sliceAdjust none none (-1) (n:Int)=((n:Int) - 1,-1):=by
 unfold Builtin.Slice.sliceAdjust
 simp
theorem places_rev (n:Nat):Builtin.Slice.slicePlaces ((n:Int) - 1) (-1) (-1)=n:=by
 unfold Builtin.Slice.slicePlaces
 simp
 split <;> omega
theorem fm_congr {α β:Type} {f g:α->Option β}:∀ {l:List α},(∀ x∈l,f x=g x)->l.filterMap f=l.filterMap g
 | [],_=>rfl
 | a::r,h=>by
  rw [List.filterMap_cons,List.filterMap_cons,h a (List.mem_cons_self ..),fm_congr fun x hx=>h x (List.mem_cons_of_mem _ hx)]
def sliceApplied_rev {sl:Addr} {vk:Value} {n:Nat} {Q:Int×Int×Nat->Shared->Prop} (hs:s.heap.IsSliceOf sl .none .none vk) (pk:IsPart vk (some (-1)))
  (h:Q ((n:Int) - 1,-1,n) s):wpAny (model prog w) A (Builtin.Slice.sliceApplied (.ref sl) (pure (n:Int))) Q E s:=by
 obtain ⟨os,hos,hcs,hds⟩:=id hs
 unfold Builtin.Slice.sliceApplied Builtin.Slice.sliceFields
 refine wpAny_bind (wpAny_bind (wpAny_field hos hds (x:=.none) rfl (wpAny_bind (wpAny_field hos hds (x:=.none) rfl (wpAny_bind (wpAny_field hos hds (x:=vk) rfl (wpAny_pure ?_)))))))
 refine wpAny_bind (slicePart_ pk ?_)
 show wpAny _ _ (if ((-1:Int) == 0)=true then _ else _) _ _ s
 rw [if_neg (by decide)]
 refine wpAny_bind (slicePart_none (wpAny_bind (slicePart_none (wpAny_bind (wpAny_pure ?_)))))
 show wpAny _ _ (match Builtin.Slice.sliceAdjust none none (-1) (n:Int) with | (lo,hi)=>pure (lo,(-1:Int),Builtin.Slice.slicePlaces lo hi (-1))) _ _ s
 rw [adjust_rev n]
 show wpAny _ _ (pure ((n:Int) - 1,(-1:Int),Builtin.Slice.slicePlaces ((n:Int) - 1) (-1) (-1))) _ _ s
 rw [places_rev]
 exact wpAny_pure h
theorem pick_rev (xs:Array Value):((List.range xs.size).filterMap fun (m:Nat)=>xs[(((xs.size:Int) - 1) + (m:Int) * (-1)).toNat]?).toArray=xs.toList.reverse.toArray:=by
 have e:∀ m∈List.range xs.size,xs[(((xs.size:Int) - 1) + (m:Int) * (-1)).toNat]?=xs.toList.reverse[m]?:=fun m hm=>by
  have hm:=List.mem_range.mp hm
  rw [List.getElem?_reverse (by simpa using hm)]
  have:(((xs.size:Int) - 1) + (m:Int) * (-1)).toNat=xs.toList.length - 1 - m:=by rw [Array.length_toList]; omega
  rw [this,Array.getElem?_toList]
 congr 1
 rw [fm_congr e]
 have:xs.size=xs.toList.reverse.length:=by simp
 rw [this]
 generalize xs.toList.reverse=l
 induction l with
 | nil=>rfl
 | cons a r ih=>rw [List.length_cons,List.range_succ_eq_map,List.filterMap_cons]; simp only [List.getElem?_cons_zero,List.filterMap_map]; congr 1
def getItem_tuple_rev {t sl:Addr} {items:Array Value} {vk:Value} {Q:Value->Shared->Prop} (ht:IsTup s.heap t items) (hs:s.heap.IsSliceOf sl .none .none vk) (pk:IsPart vk (some (-1)))
  (h:Q (.ref s.heap.objs.size) { s with heap:=s.heap.push { cls:=.type "tuple",data:=.seq items.toList.reverse.toArray } })
  (hsz:items.size<=sizeLine):wpAny (model prog w) A (getItem (.ref t) (.ref sl)) Q E s:=by
 have htake:sizeOk (.seq items.toList.reverse.toArray):=by
  show items.toList.reverse.toArray.size<=sizeLine
  rw [List.size_toArray,List.length_reverse,Array.length_toList]
  exact hsz
 obtain ⟨os,hos,hcs,hds⟩:=id hs
 have hTs:s.TypeIs (.ref sl) "slice":=⟨os,hos,hcs⟩
 unfold getItem
 try with_reducible refine wpAny_holding ?_
 first | refine wpAny_bind (wpAny_pure ?_) | skip
 refine wpAny_bind (wpAny_sequenceKey ht.typeIs (by decide) ?_)
 refine wpAny_bind (wpAny_callSpecial?_slot (name:=Str.ofString "__getitem__") ht.typeIs PyProof.Rows.slot_tuple_getitem
  (wpAny_call_entry PyProof.Rows.slot_tuple_getitem ht.typeIs entry_tuple_getitem ?_ (args_tuple_getitem _ _)))
 show wpAny _ _ (Builtin.Tuple.tupleItemsOf (.ref t) >>= _) _ _ s
 refine wpAny_bind (tupleItemsOf_ ht ?_)
 refine wpAny_bind (wpAny_typeOf hTs ?_)
 rw [if_pos (by decide)]
 refine wpAny_bind (sliceApplied_rev hs pk ?_)
 have hno:¬ ((((items.size:Int) - 1) == 0 && (-1:Int) == 1 && items.size == items.size)=true):=by simp
 show wpAny _ _ (if (((items.size:Int) - 1) == 0 && (-1:Int) == 1 && items.size == items.size)=true then _ else _) _ _ s
 rw [if_neg hno,pick_rev]
 first
  | exact wpAny_bind (m:=Builtin.Tuple.tupleExact _) (wpAny_newObj_type (wpAny_pure ⟨_,rfl,wpAny_pure h⟩) htake)
  | exact wpAny_bind (m:=Builtin.Tuple.tupleExact _) (wpAny_newObj_type (wpAny_bind (wpAny_pure (wpAny_pure ⟨_,rfl,wpAny_pure h⟩))) htake)
  | exact wpAny_bind (wpAny_bind (m:=Builtin.Tuple.tupleExact _) (wpAny_newObj_type (wpAny_pure (wpAny_pure ⟨_,rfl,wpAny_pure h⟩)) htake))
  | exact wpAny_bind (wpAny_bind (m:=Builtin.Tuple.tupleExact _) (wpAny_newObj_type (wpAny_pure ⟨_,rfl,wpAny_pure h⟩) htake))
end
end HT
namespace L2
open PySem PySem.Spec PyProof.Rows
section
variable {X:Cx} {e:Expr} {st:Option Expr} {te:TE} {ts:TO} {p2 pos:Pos}
def tRevT (K:W.Frag) (te:TE) (ts:TO):TE:=fun σ H Q=>te σ H fun x H1=>ts σ H1 fun k H2=>k=some (-1)/\∃ a xs,x=.ref a/\SqT K H2 a xs/\∀ p,H2 p=none->Q (.ref p) (upd H2 p (.tup xs.reverse))
theorem pe_revT (he:PE X e te) (hs:PO X st ts) (hsub:∀ o i,∃ ops,subscripted (.Slice none none st p2) false o i=operate ops (getItem o i)):PE X (.Subscript e (.Slice none none st p2) pos) (tRevT X.K te ts):=by
 intro pins s σ H Q I h
 refine Subscript_ (thn (he pins s σ H _ I h) fun v s1 ⟨x,H1,I1,r1,q1⟩=>?_)
 refine wpAny_Slice ?_
 rw [evalPart_none]
 refine wpAny_pure ?_
 refine wpAny_pure ?_
 refine thn (hs pins s1 σ H1 _ I1 q1) fun vk s3 ⟨k,H3,I3,pk,ek,a,xs,ex,hx,q⟩=>?_
 subst ek
 subst ex
 cases r1
 have I4:Inv X pins σ H3 { s3 with heap:=s3.heap.push { cls:=.type "slice",data:=.fields #[.none,.none,vk] } }:=I3.kept (t':=s3.toks) fun b ob q=>Heap.get?_push_of_some _ q
 obtain ⟨its,r,ht,hz⟩:=I4.tuple hx
 have hlen:=r.length
 show wpAny (model X.prog X.w) X.A (subscriptTail e (.Slice none none st p2) (.ref a) (.ref s3.heap.objs.size)) (EP X pins σ Q) X.xe { s3 with heap:=s3.heap.push { cls:=.type "slice",data:=.fields #[.none,.none,vk] } }
 obtain ⟨ops,hop⟩:=hsub (.ref a) (.ref s3.heap.objs.size)
 refine tail_any (ops:=ops) ht.typeIs PyProof.Rows.slot_tuple_getitem.lookup ?_ hop
 refine HT.getItem_tuple_rev ht (Heap.IsSliceOf.new ..) pk ?_ (by rw [List.size_toArray] <;> omega)
 refine ⟨.ref _,_,I4.laid (t':=s3.toks) (o:=.tup xs.reverse) (fun b ob q=>Heap.get?_push_of_some _ q) (Nat.le_refl _) ?_,rfl,q _ (I4.hok.fresh (Nat.le_refl _))⟩
 exact ⟨by rw [List.length_reverse]; exact hz,its.reverse,r.reverse,IsTupD.new _ _⟩
end
section
variable {prog:Program} {w:World} {A:Around} {E:Value->Shared->Prop} {s:Shared} {it d:Addr} {i ep:Nat} {od:Obj} {tab:Array DictEntry} {Q:Option Value->Shared->Prop}
theorem nx_entry (ki:s.heap.IsKeyIter it d i tab.size ep) (gd:s.heap.get? d=some od) (dd:od.data=.dict tab ep) (lt:i < tab.size)
  (fin:∀ h',h'.IsKeyIter it d (i + 1) tab.size ep->Heap.SameBut it s.heap h'->Q (some tab[i].key) { s with heap:=h' }):wpAny (model prog w) A (pyNext (.ref it)) Q E s:=by
 obtain ⟨oi,gi,ci,di⟩:=id ki
 have own0:Builtin.Dict_items.ownsTuple "dict_keyiterator"=false:=by decide
 have ng:¬ ((i:Int) < 0):=by omega
 unfold pyNext
 refine wpAny_bind (wpAny_attempt (wpAny_callSpecial?_slot (name:=Str.ofString "__next__") ki.typeIs F.slot_dict_keyiterator_next (wpAny_call_entry F.slot_dict_keyiterator_next ki.typeIs F.entry_dict_keyiterator_next ?_ (F.args_dict_keyiterator_next_1 _))))
 refine wpAny_bind (wpAny_pure (wpAny_bind (wpAny_bind ?_)))
 first | refine wpAny_bind (wpAny_typeNameOfWhole_keyiter ki.typeIs (wpAny_pure ?_)) | refine wpAny_bind (wpAny_typeNameOf_keyiter ki.typeIs (wpAny_pure ?_))
 refine wpAny_bind (wpAny_fieldsOf gi di ?_)
 simp only [own0,Bool.false_eq_true,if_false]
 have nn:¬ ((Value.ref d == Value.none)=true):=Bool.false_ne_true
 refine Eq.mpr (congrArg (fun z=>wpAny (model prog w) _ z _ _ s) (if_neg nn)) ?_
 refine wpAny_bind (wpAny_pure (wpAny_bind (wpAny_dictEntries gd dd ?_)))
 rw [if_neg (by simp)]
 refine wpAny_bind (wpAny_pure (wpAny_bind (wpAny_dictEpoch gd dd ?_)))
 rw [if_neg (by simp)]
 refine wpAny_pure ?_
 simp only [ng,if_false,Int.toNat_natCast,Array.getElem?_eq_getElem lt]
 refine wpAny_bind ?_
 first | refine wpAny_bind (wpAny_typeNameOfWhole_keyiter ki.typeIs (wpAny_pure ?_)) | refine wpAny_bind (wpAny_typeNameOf_keyiter ki.typeIs (wpAny_pure ?_))
 refine wpAny_bind (wpAny_isOneOf_keyiter ki.typeIs ?_)
 refine wpAny_bind (m:=setField (.ref it) 1 (rawInt ((i:Int) + 1))) (wpAny_setField gi di (by simp) ?_)
 have ki2:(s.heap.update it (Obj.mapFields (·.setIfInBounds 1 (rawInt ((i:Int) + 1))))).IsKeyIter it d (i + 1) tab.size ep :=
  ⟨_,Heap.get?_update_self _ gi (Obj.isFreed_of_fields (Obj.data_mapFields di _)),(Obj.cls_mapFields ..).trans ci,by rw [Obj.data_mapFields di]; simp [rawInt]⟩
 refine wpAny_bind (wpAny_holding (wpAny_bind (wpAny_isOneOf_keyiter (s:={ s with heap:=s.heap.update it (Obj.mapFields (·.setIfInBounds 1 (rawInt ((i:Int) + 1)))) }) ki2.typeIs ?_)))
 show wpAny _ _ (pure tab[i].key) _ _ _
 exact wpAny_pure (wpAny_pure ⟨_,rfl,wpAny_pure (fin _ ki2 (Heap.SameBut.update ..))⟩)
theorem nx_done (calm:A.handled=none) (ki:s.heap.IsKeyIter it d i tab.size ep) (gd:s.heap.get? d=some od) (dd:od.data=.dict tab ep) (ge:tab.size<=i)
  (fin:∀ h',Heap.ExtBut it s.heap h'->Q none { s with heap:=h' }):wpAny (model prog w) A (pyNext (.ref it)) Q E s:=by
 obtain ⟨oi,gi,ci,di⟩:=id ki
 have own0:Builtin.Dict_items.ownsTuple "dict_keyiterator"=false:=by decide
 have ng:¬ ((i:Int) < 0):=by omega
 have nn:¬ ((Value.ref d == Value.none)=true):=Bool.false_ne_true
 unfold pyNext
 refine wpAny_bind (wpAny_attempt (wpAny_callSpecial?_slot (name:=Str.ofString "__next__") ki.typeIs F.slot_dict_keyiterator_next (wpAny_call_entry F.slot_dict_keyiterator_next ki.typeIs F.entry_dict_keyiterator_next ?_ (F.args_dict_keyiterator_next_1 _))))
 refine wpAny_bind (wpAny_pure (wpAny_bind (wpAny_bind ?_)))
 first | refine wpAny_bind (wpAny_typeNameOfWhole_keyiter ki.typeIs (wpAny_pure ?_)) | refine wpAny_bind (wpAny_typeNameOf_keyiter ki.typeIs (wpAny_pure ?_))
 refine wpAny_bind (wpAny_fieldsOf gi di ?_)
 simp only [own0,Bool.false_eq_true,if_false]
 refine Eq.mpr (congrArg (fun z=>wpAny (model prog w) _ z _ _ s) (if_neg nn)) ?_
 refine wpAny_bind (wpAny_pure (wpAny_bind (wpAny_dictEntries gd dd ?_)))
 rw [if_neg (by simp)]
 refine wpAny_bind (wpAny_pure (wpAny_bind (wpAny_dictEpoch gd dd ?_)))
 rw [if_neg (by simp)]
 refine wpAny_pure ?_
 simp only [ng,if_false,Int.toNat_natCast,Array.getElem?_eq_none ge]
 refine wpAny_bind ?_
 first | refine wpAny_bind (wpAny_typeNameOfWhole_keyiter ki.typeIs (wpAny_pure ?_)) | refine wpAny_bind (wpAny_typeNameOf_keyiter ki.typeIs (wpAny_pure ?_))
 refine wpAny_bind (m:=setField (.ref it) 0 .none) (wpAny_setField gi di (by simp) ?_)
 refine wpAny_bind (m:=newExc (.type "StopIteration") []) ?_
 simp only [newExc,newTuple]
 refine wpAny_bind (wpAny_newObj_type (wpAny_bind (m:=firstArgMember _ _) (wpAny_of_eq (a:=Value.none) (by first | rfl | (simp only [firstArgMember]; rfl)) (wpAny_newObj_type ?_ (by size_fits)))) (by size_fits))
 simp only [raiseNew]
 refine wpAny_bind (wpAny_handled ?_)
 rw [show A.in1.handled=none from calm]
 refine wpAny_bind (m:=_) (wpAny_pure (wpAny_throw ?_))
 refine wpAny_bind (m:=_) (wpAny_isInstance (T:="StopIteration") (b:=true) ⟨_,Heap.get?_push_size _ rfl,rfl⟩ isSubtype_stop ?_)
 exact wpAny_pure (fin _ (((Heap.SameBut.update ..).extBut.push _).push _))
end
def it_dict {prog:Program} {w:World} {A:Around} {E:Value->Shared->Prop} {s:Shared} {d:Addr} {ep:Nat} {od:Obj} {tab:Array DictEntry} {Q:Value->Shared->Prop} (hd:(d == sysModules)=false) (gd:s.heap.get? d=some od) (ex:od.ExactDict) (dd:od.data=.dict tab ep)
  (fin:Q (.ref s.heap.objs.size) { s with heap:=s.heap.push { cls:=.type "dict_keyiterator",data:=.fields #[.ref d,.int 0 0,.int tab.size 0,.int ep 0] } }):wpAny (model prog w) A (pyIter (.ref d)) Q E s:=by
 have ty:s.TypeIs (.ref d) "dict":=⟨od,gd,ex.1⟩
 refine wpAny_pyIter_slot ty F.slot_dict_iter (wpAny_call_entry F.slot_dict_iter ty F.entry_dict_iter ?_ (F.args_dict_iter_1 _))
 unfold Builtin.«dict.__iter__»
 refine wpAny_bind (m:=Builtin.Dict.dictSlotNone _ _) ?_
 unfold Builtin.Dict.dictSlotNone
 refine wpAny_bind (wpAny_notOrdered_dict ty (wpAny_pure (a:=Value.ref d) ?_))
 refine wpAny_bind (m:=Builtin.Dict.showsAll d) ?_
 unfold Builtin.Dict.showsAll
 rw [if_neg (by rw [hd]; exact Bool.false_ne_true)]
 refine wpAny_pure (wpAny_bind (wpAny_dictEntries gd dd ?_))
 refine wpAny_bind (wpAny_dictEpoch gd dd ?_)
 refine wpAny_bind (wpAny_newObj_type (wpAny_pure ⟨_,rfl, "dict_keyiterator",_,⟨_,Heap.get?_push_size _ rfl,rfl⟩,F.slot_dict_keyiterator_next.lookup,?_⟩))
 simpa [rawInt] using fin
def kdl_any {prog:Program} {w:World} {d:Addr} {od:Obj} {tab:Array DictEntry} {ep:Nat} (lo:(d == sysModules)=false) (ex:od.ExactDict) (dd:od.data=.dict tab ep) :
  W.KdlSrc prog w "dict" d d tab.size (fun i v=>∃ h:i < tab.size,v=tab[i].key) (fun h=>h.get? d=some od) where
 type:=fun _ ok=>⟨od,ok,ex.1⟩
 there:=fun _ ok=>⟨Heap.lt_size ok,Heap.lt_size ok⟩
 keep:=fun _ _ ok hk=>hk d (.inl rfl) od ok
 notList:=by decide
 notTuple:=by decide
 hint:=fun _ _ _ _ ok hq=>W.kdl_hint_dict ⟨od,ok,ex.1⟩ hq
 iter:=fun A s hh ok=>⟨{ cls:=.type "dict_keyiterator",data:=.fields #[.ref d,.int 0 0,.int tab.size 0,.int ep 0] },fun i h=>h.IsKeyIter s.heap.objs.size d i tab.size ep/\h.get? d=some od,
  fun _ _ hq=>it_dict lo ok ex dd hq,
  {
   sub:=fun b hb=>by rw [List.mem_singleton.mp hb]; exact List.mem_cons_self
   frame:=fun i h h' st k=>⟨by obtain ⟨⟨o,e,r⟩,_⟩:=st; exact ⟨o,k _ List.mem_cons_self o e,r⟩,k d (List.mem_cons_of_mem _ List.mem_cons_self) od st.2⟩
   item:=fun i s' Q E hi st hQ=>nx_entry st.1 st.2 dd hi fun h' ki sb=>by
    have:=hQ tab[i].key h' s'.toks ⟨hi,rfl⟩ ⟨ki,(sb.2 d (Nat.ne_of_lt (Heap.lt_size ok))).trans st.2⟩ fun b o hb e=>(sb.2 b (fun z=>hb (by rw [z]; exact List.mem_singleton.mpr rfl))).trans e
    exact this
   done:=fun s' Q E st hQ=>nx_done hh st.1 st.2 dd (Nat.le_refl _) fun h' eb=>hQ h' s'.toks fun b o hb e=>eb b o (fun z=>hb (by rw [z]; exact List.mem_singleton.mpr rfl)) e
   self:=fun i s' Q E st hq=>wpAny_pyIter_keyiter st.1 hq },
  ⟨⟨_,Heap.get?_push_size _ rfl,rfl,rfl⟩,Heap.get?_push_of_some _ ok⟩⟩
end L2
namespace L2
open PySem PySem.W PyProof.Rows HT PySem.Calls
section
theorem ints_are:∀ {ns:List Int} {vs:List Value},Vals (ns.map V.int) vs->IntsAre vs ns
 | [],_,h=>by cases h; exact .nil
 | a::r,_,h=>by
  cases h with
  | cons h1 h2=>obtain ⟨t,e⟩:=h1; subst e; exact .cons a t (ints_are h2)
end
end L2
namespace L2
open PySem PySem.W PySem.Spec PyProof.Rows
section
variable {X:Cx}
def rCatE (K:W.Frag):R2:=fun x y H Q=>∃ a b ys,x=.ref a/\y=.ref b/\SqT K H a []/\SqT K H b ys/\Q (.ref b) H
def op_catE:OpR X (binaryOp .Add) (rCatE X.K):=by
 intro pins s σ H x y v u Q I rx ry h
 obtain ⟨a,b,ys,rfl,rfl,ha,hb,q⟩:=h
 cases rx
 cases ry
 obtain ⟨its,r1,p1,_⟩:=I.tuple ha
 obtain ⟨its2,r2,p2,_⟩:=I.tuple hb
 cases r1
 obtain ⟨⟨cls,dd,data,sl⟩,ho,hc,n,hd⟩:=id p1
 obtain ⟨⟨cls2,dd2,data2,sl2⟩,ho2,hc2,n2,hd2⟩:=id p2
 simp only at hc hd hc2 hd2
 subst hc hd hc2 hd2
 exact concat_meets ⟨_,ho,rfl⟩ ⟨_,ho2,rfl⟩ noFill_tuple_add seq_tuple_add PySem.F.slot_tuple_add PySem.F.entry_tuple_add (PySem.F.args_tuple_add_2 _ _)
  (tuple_addW0 a b _ its2.toArray n n2 dd dd2 sl sl2 rfl) ⟨ho,ho2,⟨.ref b,H,I,rfl,q⟩⟩
end
end L2
namespace L2
open PySem PySem.Spec PyProof.Rows
section
variable {X:Cx}
def rInD (K:W.Frag):R2:=fun x y H Q=>∃ (p:Addr) (ys:List V) (ds:List PyData) (d:PyData),y=.ref p/\SqL K H p ys/\DVs K H ys ds/\DV K H x d/\PyData.canLayAll0 ds=true/\d.canLay0=true/\d.depth<=60/\Q (.bl (ds.any fun z=>PyData.eqv z d)) H
theorem op_inD (hu:X.A.units + 64 < cLine):OpR X (compareOp .In) (rInD X.K):=by
 intro pins s σ H x y v u Q I rx ry h
 obtain ⟨p,ys,ds,d,rfl,hq,hd,hy,c1,c2,dd,q⟩:=h
 cases ry
 obtain ⟨its,rv,pl,_⟩:=I.list hq
 obtain ⟨as,ra⟩:=dvs_reads I hd rv
 obtain ⟨bs,rb⟩:=dv_reads I hy rx
 refine SeqAt.in_listAt (fun y=>PyData.eqv (SeqAt.readOf s.heap y) d) pl.isList (SeqAt.items_eqAt (by simpa using ra) rb c1 c2 (by have:=Nat.min_le_right (PyData.depthAll ds) d.depth; omega)) ⟨.bl _,H,I,rfl,?_⟩
 have em:=SeqAt.readsAll_map ds its as c1 ra
 have ec:its.any (fun y=>PyData.eqv (SeqAt.readOf s.heap y) d)=ds.any fun z=>PyData.eqv z d:=by
  rw [<- em,List.any_map]
  rfl
 rw [show its.toArray.any (fun y=>PyData.eqv (SeqAt.readOf s.heap y) d)=its.any (fun y=>PyData.eqv (SeqAt.readOf s.heap y) d) by simp,ec]
 exact q
end
end L2
namespace L2
open PySem PySem.W PyProof.Rows HT PySem.Calls
def LtAt (A:Around) (s:Shared) (u v:Value) (b:Bool):Prop:=∀ (prog:Program) (w:World) (E:Value->Shared->Prop) (Q:Value->Shared->Prop),Q (.bool b) s->wpAny (model prog w) A (compareOp .Lt u v) Q E s
def lexN:(Nat->Bool×Bool)->Nat->Nat->Bool
 | _,0,n=>decide (0 < n)
 | _,_ + 1,0=>false
 | z,m + 1,n + 1=>if (z 0).1 then lexN (fun j=>z (j + 1)) m n else (z 0).2
section
variable {prog:Program} {w:World} {A:Around} {E:Value->Shared->Prop} {s:Shared}
def LtAt.int (i j:Int) (t u:Tok):LtAt A s (.int i t) (.int j u) (decide (i < j)):=fun prog w E Q h=>wpAny_lt_int h
def tupLt_tree {xs ys:List Value} {z:Nat->Bool×Bool} {a b:Addr} {oa ob:Obj} {na nb:Nat} {P:PySem.Fin->Shared->Prop} (ha:s.heap.get? a=some oa) (da:oa.data=.seq xs.toArray na) (hb:s.heap.get? b=some ob) (cb:ob.cls=.type "tuple") (db:ob.data=.seq ys.toArray nb)
  (hz:∀ (j:Nat) (h1:j < xs.length) (h2:j < ys.length),SeqAt.EqAt A s xs[j] ys[j] (z j).1/\LtAt A s xs[j] ys[j] (z j).2) (h:P (.done (.ret (.bool (lexN z xs.length ys.length)))) s):wpAny (model prog w) A (Builtin.«tuple.__lt__» ⟨[.ref a,.ref b],[]⟩) P E s:=by
 show wpAny _ _ (isInstance (.ref b) (.type "tuple") >>= _) _ _ s
 refine wpAny_bind (wpAny_isInstance ⟨ob,hb,cb⟩ isSubtype_tuple_tuple ?_)
 simp only [Bool.not_true,Bool.false_eq_true,if_false]
 refine wpAny_bind (wpAny_tupleItemsOf ha da ?_)
 refine wpAny_bind (wpAny_tupleItemsOf hb db ?_)
 refine wpAny_bind ?_
 simp only [List.toList_toArray]
 refine wpAny_forIn_list _
  (fun rest r s'=>r.1=none/\s'=s/\∃ (xs' ys':List Value) (z':Nat->Bool×Bool),rest=List.zip xs' ys'/\(∀ (j:Nat) (h1:j < xs'.length) (h2:j < ys'.length),SeqAt.EqAt A s xs'[j] ys'[j] (z' j).1/\LtAt A s xs'[j] ys'[j] (z' j).2)/\lexN z' xs'.length ys'.length=lexN z xs.length ys.length/\decide (xs'.length < ys'.length)=decide (xs.length < ys.length))
  _ ?_ ?_ _ _ ⟨rfl,rfl,xs,ys,z,rfl,hz,rfl,rfl⟩
 ·rintro ⟨u,v⟩ rest r s' ⟨hr,rfl,xs',ys',z',hq,hz',hdec,hlen⟩
  cases xs' with
  | nil=>simp at hq
  | cons x xs'' =>
   cases ys' with
   | nil=>simp at hq
   | cons y ys'' =>
    simp only [List.zip_cons_cons,List.cons.injEq,Prod.mk.injEq] at hq
    obtain ⟨⟨rfl,rfl⟩,rfl⟩:=hq
    obtain ⟨h1,h2⟩:=hz' 0 (Nat.succ_pos _) (Nat.succ_pos _)
    refine wpAny_bind (h1 _ _ _ _ ?_)
    rw [List.length_cons,List.length_cons,lexN] at hdec
    cases e:(z' 0).1 with
    | true =>
     rw [e,if_pos rfl] at hdec
     simp only [Bool.not_true,Bool.false_eq_true,if_false]
     exact wpAny_pure ⟨rfl,rfl,_,_,fun j=>z' (j + 1),rfl,fun j g1 g2=>hz' (j + 1) (Nat.succ_lt_succ g1) (Nat.succ_lt_succ g2),hdec,by simpa using hlen⟩
    | false =>
     rw [e,if_neg (by decide)] at hdec
     simp only [Bool.not_false,if_true]
     refine wpAny_bind (wpAny_rule ?_)
     refine wpAny_bind (h2 _ _ _ _ ?_)
     rw [<- hdec] at h
     exact wpAny_bind (wpAny_pure (wpAny_pure (wpAny_pure h)))
 ·rintro ⟨r1,r2⟩ s' ⟨hr,rfl,xs',ys',z',hq,hz',hdec,hlen⟩
  simp only at hr
  subst hr
  refine wpAny_pure ?_
  have hfin:Builtin.Tuple.tupleCompareSizes CmpOp.Lt xs.toArray.size ys.toArray.size=.bool (lexN z xs.length ys.length):=by
   show Value.bool (decide (xs.toArray.size < ys.toArray.size))=_
   rw [List.size_toArray,List.size_toArray,<- hlen,<- hdec]
   cases xs' with
   | nil=>rfl
   | cons _ _ =>
    cases ys' with
    | nil=>rw [List.length_cons,List.length_nil,lexN]; simp
    | cons _ _=>simp at hq
  rw [hfin]
  exact h
end
section
variable {s:Shared} {A:Around}
theorem un_of {k:Nat} (hr:Room k A):A.units + 200 < cLine:=by have:=hr.un; omega
theorem lexN_ints:∀ (ns ms:List Int),lexN (fun j=>(ns[j]? == ms[j]?,decide ((ns[j]?).getD 0 < (ms[j]?).getD 0))) ns.length ms.length=HT.lexLt ns ms
 | [],[]=>rfl
 | [],_::_=>rfl
 | _::_,[]=>rfl
 | n::ns,m::ms=>by
  have ih:=lexN_ints ns ms
  rw [List.length_cons,List.length_cons,lexN,HT.lexLt_cons]
  simp only [List.getElem?_cons_zero,List.getElem?_cons_succ,Option.getD_some]
  rw [ih]
  by_cases e:n=m
  ·rw [if_pos e,if_pos (by rw [e]; exact beq_self_eq_true _)]
  ·rw [if_neg e,if_neg (by simp [e])]
theorem ints_at {us:List Value} {ns:List Int} (h:IntsAre us ns):us.length=ns.length/\∀ (j:Nat) (hj:j < us.length),∃ t,us[j]=.int ((ns[j]?).getD 0) t:=by
 induction h with
 | nil=>exact ⟨rfl,fun j hj=>absurd hj (Nat.not_lt_zero _)⟩
 | cons n t h ih =>
  refine ⟨by rw [List.length_cons,List.length_cons,ih.1],fun j hj=>?_⟩
  cases j with
  | zero=>exact ⟨t,rfl⟩
  | succ j=>exact ih.2 j (Nat.lt_of_succ_lt_succ hj)
theorem ints_lt {us vs:List Value} {ns ms:List Int} (h1:IntsAre us ns) (h2:IntsAre vs ms) (j:Nat) (g1:j < us.length) (g2:j < vs.length):SeqAt.EqAt A s us[j] vs[j] (ns[j]? == ms[j]?)/\LtAt A s us[j] vs[j] (decide ((ns[j]?).getD 0 < (ms[j]?).getD 0)):=by
 obtain ⟨l1,a1⟩:=ints_at h1
 obtain ⟨l2,a2⟩:=ints_at h2
 obtain ⟨t,e1⟩:=a1 j g1
 obtain ⟨u,e2⟩:=a2 j g2
 rw [e1,e2]
 refine ⟨?_,.int _ _ _ _⟩
 have:=SeqAt.EqAt.int_int (A:=A) (s:=s) ((ns[j]?).getD 0) t ((ms[j]?).getD 0) u
 rw [List.getElem?_eq_getElem (by omega),List.getElem?_eq_getElem (by omega)] at this ⊢
 exact this
end
section
variable {X:Cx} {pins:List (Addr×Obj)} {σ:St} {H:Hp} {s:Shared} {E:Value->Shared->Prop} {A:Around}
theorem sortedC {κ:SortKind} {l:Addr} {L:List KIt} {Q:VK} (I:Inv X pins σ H s)
  (hcol:∀ {A:Around} {R:List Value->Shared->Prop} {E:Value->Shared->Prop},A.handled=X.A.handled->(∀ (h':Heap) (tk:Nat),(∀ b o,s.heap.get? b=some o->h'.get? b=some o)->R (keyVals L) { s with heap:=h',toks:=tk })->wpAny (model X.prog X.w) A (collect (.ref l)) R E s) (h64:L.length < 64) (nd:(L.map (·.2.2)).Nodup)
  (hkind:∀ (pins':List (Addr×Obj)) (s':Shared),Inv X pins' σ H s'->1 < L.length->∀ {E:Value->Shared->Prop} {A:Around} {Q:SortKind->Shared->Prop},Q κ s'->wpAny (model X.prog X.w) A (keyKind' (keyVals L).toArray) Q E s')
  (hcmp:∀ (pins':List (Addr×Obj)) (s':Shared),1 < L.length->Inv X pins' σ H s'->CmpR (rankOf (L.map (·.2.2))) L.length (kas_ask X.prog X.w X.A.in1.in1 κ (keyVals L)) s')
  (h:∀ (D:Addr) (L':List KIt),H D=none->L'.Perm L->L'.Pairwise (fun a b=>HT.lexLt a.2.2 b.2.2=true)->Q (.ref D) (upd H D (.lst (L'.map fun q=>V.ref q.2.1)))) :
  wpAny (model X.prog X.w) X.A (call (.builtin "sorted") [.ref l]) (EP X pins σ Q) E s:=by
 have el:(keyVals L).length=L.length:=by simp [keyVals]
 refine call_function_entry kind_sorted plain_sorted entry_sorted (args_sorted1 _) ?_
 unfold Builtin.«sorted»
 refine wpAny_bind (m:=checkCount "sorted" 1 1 _) (wpAny_pure ?_)
 refine wpAny_bind (hcol rfl fun h1 tk1 keep1=>?_)
 refine wpAny_bind (wpAny_newList ?_ (by rw [sizeLine_eq]; omega))
 have sz:=I.fpOk (H':=H) (Nat.le_refl _) (I.hok.fresh (Nat.le_refl _))
 have J:Inv X pins σ H { s with heap:=h1,toks:=tk1 }:=I.kept (t':=tk1) keep1
 have hoL:(h1.push (seqObj "list" (keyVals L).toArray 0)).get? h1.objs.size=some (seqObj "list" (keyVals L).toArray 0):=Heap.get?_push_size _ rfl
 have fD:FpOk X pins H h1.objs.size:=J.fpOk (Nat.le_refl _) (J.hok.fresh (Nat.le_refl _))
 have I1:Inv X pins σ H { s with heap:=h1.push (seqObj "list" (keyVals L).toArray 0),toks:=tk1 }:=J.kept (t':=tk1) fun b o e=>Heap.get?_push_of_some _ e
 generalize hD:h1.objs.size=D at *
 generalize hh:h1.push (seqObj "list" (keyVals L).toArray 0)=hp at *
 refine wpAny_bind (wpAny_holding (wpAny_call_entry PyProof.Rows.slot_list_sort ⟨_,hoL,rfl⟩ PyProof.Rows.entry_list_sort ?body (args_list_sort _)))
 case body =>
  show wpAny (model X.prog X.w) X.A.in1.in1 (Builtin.«list.sort» ⟨[.ref D],[]⟩) _ _ _
  have s1:=Heap.SameBut.update hp D (Obj.mapSeq fun _=>(#[]:Array Value))
  obtain ⟨e1,ho1⟩:∃ e1,(hp.update D (Obj.mapSeq fun _=>(#[]:Array Value))).get? D=some (seqObj "list" #[] e1):=⟨_,get?_update_seq hoL fun _=>#[]⟩
  have I2:=(I1.turn1 fD s1).pin1 fD ho1 (by intro v; simp)
  have I3:Inv X (pins++[PD D e1]) σ H { s with toks:=tk1,heap:=((hp.update D (Obj.mapSeq fun _=>(#[]:Array Value))).push (seqObj "tuple" (keyVals L).toArray 0)).push (seqObj "list" #[] 0) } :=
   I2.kept (t':=tk1) fun b o e=>Heap.get?_push_of_some _ (Heap.get?_push_of_some _ e)
  have fin:∀ (s':Shared) (L':List KIt) (st:SortSt),Inv X (pins++[PD D e1]) σ H s'->L'.Perm L->∃ c2,(s'.heap.update D (Obj.mapSeq fun _=>(keyVals L').toArray)).get? D=some (seqObj "list" (keyVals L').toArray c2)/\Inv X pins σ (upd H D (.lst (L'.map fun q=>V.ref q.2.1))) { s' with heap:=s'.heap.update D (Obj.mapSeq fun _=>(keyVals L').toArray) }:=fun s' L' st J pm=>by
   have pd:=J.pin (PD D e1) (List.mem_append_right _ (List.mem_append_right _ (List.mem_singleton.mpr rfl)))
   have s2:=Heap.SameBut.update s'.heap D (Obj.mapSeq fun _=>(keyVals L').toArray)
   obtain ⟨c2,hc2⟩:∃ c2,(s'.heap.update D (Obj.mapSeq fun _=>(keyVals L').toArray)).get? D=some (seqObj "list" (keyVals L').toArray c2):=⟨_,get?_update_seq pd.1 fun _=>(keyVals L').toArray⟩
   have J2:=(J.unpinned (pl:=[PD D e1])).turn1 fD s2
   have go:∀ M:List KIt,Vals (M.map fun q=>V.ref q.2.1) (keyVals M):=fun M=>by
    induction M with
    | nil=>exact .nil
    | cons y r ih=>exact .cons rfl ih
   exact ⟨c2,hc2,J2.track (its:=keyVals L') (n:=c2) hc2 fD (go L') (by rw [List.length_map,pm.length_eq,sizeLine_eq]; omega)⟩
  rw [list_sort_plain]
  refine wpAny_bind (listItems_at hoL rfl ?_)
  refine wpAny_bind (listUpdate_at hoL rfl ?_ (by rw [List.size_toArray,sizeLine_eq]; omega) (Nat.zero_le _))
  refine wpAny_bind (seqEpoch_at ho1 rfl ?_)
  refine wpAny_bind (wpAny_newTuple ?_ (by show (keyVals L).length<=_; rw [sizeLine_eq]; omega))
  refine wpAny_bind (wpAny_newList ?_ (Nat.zero_le _))
  refine wpAny_holding ?_
  show wpAny (model X.prog X.w) _ _ _ _ { s with toks:=tk1,heap:=((hp.update D (Obj.mapSeq fun _=>(#[]:Array Value))).push (seqObj "tuple" (keyVals L).toArray 0)).push (seqObj "list" #[] 0) }
  dsimp only
  have pd:=I3.pin (PD D e1) (List.mem_append_right _ (List.mem_append_right _ (List.mem_singleton.mpr rfl)))
  by_cases h2:(keyVals L).toArray.size < 2
  ·rw [if_pos h2]
   refine wpAny_bind (wpAny_pure ?_)
   rw [if_pos h2]
   refine wpAny_bind (m:=(pure ():StateT SortSt Sem Unit).run _) (wpAny_pure ?_)
   have h2':L.length < 2:=by simpa [keyVals] using h2
   have ea:(((keyVals L).toArray.zip (keyVals L).toArray).map (·.2))=(keyVals L).toArray:=by
    apply Array.toList_inj.mp
    rw [Array.toList_map,ksk_zip]
    simp only [List.map_snd_zip (Nat.le_refl _)]
   obtain ⟨c2,hc2,I4⟩:=fin _ L (SortSt.mk' general' #[] #[] 7 none) I3 (List.Perm.refl _)
   refine wpAny_bind (seqEpoch_at pd.1 rfl ?_)
   refine wpAny_bind (listUpdate_at pd.1 rfl ?_ (Nat.zero_le _) (by show (((keyVals L).toArray.zip (keyVals L).toArray).map (·.2)).size<=_; rw [ea,List.size_toArray,sizeLine_eq]; omega))
   show wpAny (model X.prog X.w) _ (if (e1 != e1)=true then _ else ret Value.none) _ _ _
   simp only [bne_self_eq_false,Bool.false_eq_true,if_false]
   refine wpAny_pure ⟨_,rfl,wpAny_pure ⟨_,rfl,.ref D,_,?_,rfl,h D L fD.1 (List.Perm.refl _) ?_⟩⟩
   ·have e2:Array.map (fun x=>x.snd) (arrOf (SortSt.mk' general' ((keyVals L).toArray.zip (keyVals L).toArray) #[] 7 none))=(keyVals L).toArray:=ea
    rw [e2]
    exact I4
   ·match L,h2' with
    | [],_=>exact .nil
    | [q],_=>exact List.pairwise_singleton _ _
    | _::_::_,h2'=>simp only [List.length_cons] at h2'; omega
  ·rw [if_neg h2,if_neg h2]
   have h2':2<=(keyVals L).length:=by simpa using h2
   refine wpAny_bind (hkind _ _ I3 (by omega) ?_)
   refine wpAny_bind (wpAny_mono (kat_run (vs:=keyVals L) (ks:=keyVals L) (G:=fun p s'=>s'=_/\GoodP L.length p/\SrtR (rankOf (L.map (·.2.2))) p L.length) (Q:=fun st' s'=>∃ p:Array Nat,s'=_/\GoodP L.length p/\SrtR (rankOf (L.map (·.2.2))) p L.length/\arrOf st'=p.map (kas_item ((keyVals L).toArray.zip (keyVals L).toArray))/\failedOf st'=none) rfl h2' (by omega)
    (fun p st' s' a1 a2 a3 a4=>⟨p,a4.1,a4.2.1,a4.2.2,a2,a3⟩)
    (by
     rw [el]
     exact sort_R (hcmp _ _ (by omega) I3) (fun i j hi hj z=>rank_inj nd (by simpa using hi) (by simpa using hj) z) (by omega) (G:=fun p s'=>s'=_/\GoodP L.length p/\SrtR (rankOf (L.map (·.2.2))) p L.length) fun p g hs=>⟨rfl,g,hs⟩)) ?_ fun _ _ x=>x)
   rintro ⟨⟨⟩,st'⟩ s' ⟨p,rfl,g,hs,har,hf⟩
   have hp2:∀ i∈p.toList,i < L.length:=fun i hi=>by
    have:=(Array.perm_iff_toList_perm.mp g.perm).mem_iff.mp hi
    simpa using this
   have pl2:p.toList.Perm (List.range L.length):=by have:=Array.perm_iff_toList_perm.mp g.perm; simpa using this
   have rangeL:(List.range L.length).map (fun i=>L.getD i (.non,0,[]))=L:=by
    apply List.ext_getElem
    ·simp
    ·intro i h1 h2; simp [List.getD_eq_getElem?_getD,h2]
   have pm:(p.toList.map fun i=>L.getD i (.non,0,[])).Perm L:=by
    have:=pl2.map fun i=>L.getD i (.non,0,[])
    rwa [rangeL] at this
   have ea:(arrOf st').map (·.2)=(keyVals (p.toList.map fun i=>L.getD i (.non,0,[]))).toArray:=by
    rw [kat_snds rfl har]
    congr 1
    show _=((p.toList.map fun i=>L.getD i (.non,0,[])).map fun q=>Value.ref q.2.1)
    rw [List.map_map]
    refine List.map_congr_left fun i hi=>?_
    have hi:=hp2 i hi
    show (keyVals L).getD i Value.none=Value.ref (L.getD i (.non,0,[])).2.1
    rw [show (keyVals L).getD i Value.none=Value.ref L[i].2.1 from getD_map' hi,List.getD_eq_getElem?_getD,List.getElem?_eq_getElem hi]
    rfl
   obtain ⟨c2,hc2,I4⟩:=fin _ _ st' I3 pm
   refine wpAny_bind (seqEpoch_at pd.1 rfl ?_)
   refine wpAny_bind (listUpdate_at pd.1 rfl ?_ (Nat.zero_le _) (by show ((arrOf st').map (·.2)).size<=_; rw [ea,List.size_toArray,sizeLine_eq,show (keyVals (p.toList.map fun i=>L.getD i (.non,0,[]))).length=L.length by simp [keyVals,g.size]]; omega))
   dsimp only
   rw [hf]
   simp only [bne_self_eq_false,Bool.false_eq_true,if_false]
   refine wpAny_pure ⟨_,rfl,wpAny_pure ⟨_,rfl,.ref D,_,?_,rfl,h D _ fD.1 pm ?_⟩⟩
   ·rw [ea]
    exact I4
   ·rw [List.pairwise_iff_getElem]
    intro i j hi hj hij
    simp only [List.length_map,Array.length_toList,g.size] at hi hj
    have gi:=g.lt i hi
    have gj:=g.lt j hj
    have hle:=hs i j (Nat.le_of_lt hij) hj
    have hne:=g.ne hi hj (Nat.ne_of_lt hij)
    unfold Rk at hle
    have hlt:rankOf (L.map (·.2.2)) (p.getD i 0) < rankOf (L.map (·.2.2)) (p.getD j 0):=by
     rcases Int.lt_or_eq_of_le hle with z | z
     ·exact z
     ·exact absurd (rank_inj nd (by simpa using gi) (by simpa using gj) z) hne
    have hd:=rank_dec nd (i:=p.getD i 0) (j:=p.getD j 0) (by simpa using gi) (by simpa using gj)
    rw [decide_eq_true hlt,getD_map' gi,getD_map' gj] at hd
    have ei:p.getD i 0=p[i]'(by rw [g.size]; exact hi):=by simp [Array.getD,g.size,hi]
    have ej:p.getD j 0=p[j]'(by rw [g.size]; exact hj):=by simp [Array.getD,g.size,hj]
    simp only [List.getElem_map,Array.getElem_toList,List.getD_eq_getElem?_getD]
    have gi':=gi
    have gj':=gj
    rw [ei] at gi'
    rw [ej] at gj'
    rw [List.getElem?_eq_getElem gi',List.getElem?_eq_getElem gj']
    simp only [ei,ej] at hd
    exact hd.symm
end
end L2
namespace L2
open PySem PySem.Spec PyProof.Rows
section
variable {X:Cx}
def rNotInD (K:W.Frag):R2:=fun x y H Q=>∃ (p:Addr) (ys:List V) (ds:List PyData) (d:PyData),y=.ref p/\SqL K H p ys/\DVs K H ys ds/\DV K H x d/\PyData.canLayAll0 ds=true/\d.canLay0=true/\d.depth<=60/\Q (.bl (!ds.any fun z=>PyData.eqv z d)) H
theorem op_notinD (hu:X.A.units + 64 < cLine):OpR X (compareOp .NotIn) (rNotInD X.K):=by
 intro pins s σ H x y v u Q I rx ry h
 obtain ⟨p,ys,ds,d,rfl,hq,hd,hy,c1,c2,dd,q⟩:=h
 cases ry
 obtain ⟨its,rv,pl,_⟩:=I.list hq
 obtain ⟨as,ra⟩:=dvs_reads I hd rv
 obtain ⟨bs,rb⟩:=dv_reads I hy rx
 refine SeqAt.notIn_listAt (fun y=>PyData.eqv (SeqAt.readOf s.heap y) d) pl.isList (SeqAt.items_eqAt (by simpa using ra) rb c1 c2 (by have:=Nat.min_le_right (PyData.depthAll ds) d.depth; omega)) ⟨.bl _,H,I,rfl,?_⟩
 have em:=SeqAt.readsAll_map ds its as c1 ra
 have ec:its.any (fun y=>PyData.eqv (SeqAt.readOf s.heap y) d)=ds.any fun z=>PyData.eqv z d:=by
  rw [<- em,List.any_map]
  rfl
 rw [show its.toArray.any (fun y=>PyData.eqv (SeqAt.readOf s.heap y) d)=its.any (fun y=>PyData.eqv (SeqAt.readOf s.heap y) d) by simp,ec]
 exact q
end
end L2
namespace L2
open PySem PySem.SetTable
theorem runEnd_le (mask i:Nat) (h:i<=mask):runEnd mask i<=mask/\i<=runEnd mask i/\runEnd mask i<=i + 9:=by
 unfold runEnd
 split <;> omega
def run (mask:Nat) (b:Nat):Nat->Nat×Nat
 | 0=>(b % (mask + 1),b)
 | m + 1=>leap mask (run mask b m).1 (run mask b m).2
theorem run_lt (mask b:Nat):∀ m,(run mask b m).1<=mask
 | 0=>by show b % (mask + 1)<=mask; have:=Nat.mod_lt b (show 0 < mask + 1 by omega); omega
 | m + 1=>by
  show ((run mask b m).1 * 5 + 1 + (run mask b m).2 / 32) % (mask + 1)<=mask
  have:=Nat.mod_lt ((run mask b m).1 * 5 + 1 + (run mask b m).2 / 32) (show 0 < mask + 1 by omega)
  omega
theorem run_rest (mask b:Nat):∀ m,(run mask b m).2=b / 32 ^ m
 | 0=>by show b=b / 1; rw [Nat.div_one]
 | m + 1=>by
  show (run mask b m).2 / 32=_
  rw [run_rest mask b m,Nat.div_div_eq_div_mul,Nat.pow_succ]
def stepL (N i:Nat):Nat:=(i * 5 + 1) % N
def itL (N:Nat):Nat->Nat->Nat
 | 0,i=>i
 | m + 1,i=>stepL N (itL N m i)
theorem itL_add (N:Nat):∀ m r i,itL N m (itL N r i)=itL N (r + m) i
 | 0,_,_=>rfl
 | m + 1,r,i=>by show stepL N (itL N m (itL N r i))=stepL N (itL N (r + m) i); rw [itL_add N m r i]
def full (N:Nat):Bool:=let l:=(List.range N).map fun r=>itL N r 0; itL N N 0 == 0 && (List.range N).all fun b=>l.contains b
def full_at {N:Nat} (h:full N=true):itL N N 0=0/\∀ b,b < N->∃ r,r < N/\itL N r 0=b:=by
 unfold full at h
 rw [Bool.and_eq_true] at h
 refine ⟨beq_iff_eq.mp h.1,fun b hb=>?_⟩
 have:=List.all_eq_true.mp h.2 b (List.mem_range.mpr hb)
 rw [List.contains_iff_mem] at this
 obtain ⟨r,hr,e⟩:=List.mem_map.mp this
 exact ⟨r,List.mem_range.mp hr,e⟩
theorem full_go {N:Nat} (h:full N=true) {a b:Nat} (ha:a < N) (hb:b < N):∃ r,r < N/\itL N r a=b:=by
 obtain ⟨h0,hf⟩:=full_at h
 obtain ⟨r1,l1,rfl⟩:=hf a ha
 obtain ⟨r2,l2,rfl⟩:=hf b hb
 by_cases hr:r1<=r2
 ·exact ⟨r2 - r1,by omega,by rw [itL_add,show r1 + (r2 - r1)=r2 by omega]⟩
 ·refine ⟨N - r1 + r2,by omega,?_⟩
  rw [itL_add,show r1 + (N - r1 + r2)=N + r2 by omega,<- itL_add,h0]
theorem run_far {mask b:Nat} (hb:b < 2 ^ 64):∀ m,(run mask b (13 + m)).1=itL (mask + 1) m (run mask b 13).1
 | 0=>rfl
 | m + 1=>by
  show ((run mask b (13 + m)).1 * 5 + 1 + (run mask b (13 + m)).2 / 32) % (mask + 1)=((itL (mask + 1) m (run mask b 13).1) * 5 + 1) % (mask + 1)
  have z:(run mask b (13 + m)).2 / 32=0:=by
   rw [run_rest,Nat.div_div_eq_div_mul,<- Nat.pow_succ]
   refine Nat.div_eq_of_lt (Nat.lt_of_lt_of_le hb ?_)
   have:(32:Nat) ^ 13<=32 ^ (13 + m + 1):=Nat.pow_le_pow_right (by decide) (by omega)
   exact Nat.le_trans (by decide) this
  rw [z,Nat.add_zero,run_far hb m]
theorem run_all {mask b:Nat} (hf:full (mask + 1)=true) (hb:b < 2 ^ 64) {j:Nat} (hj:j<=mask):∃ m,m<=mask + 13/\(run mask b m).1=j:=by
 obtain ⟨r,hr,e⟩:=full_go hf (a:=(run mask b 13).1) (b:=j) (by have:=run_lt mask b 13; omega) (by omega)
 exact ⟨13 + r,by omega,by rw [run_far hb]; exact e⟩
def adv (mask:Nat) (p:Probe):Probe :=
 if p.more > 0 then { p with j:=p.j + 1,more:=p.more - 1 } else
 let (i,perturb):=leap mask p.i p.perturb
 { p with j:=i,more:=runEnd mask i - i,i,perturb }
def adv_is (t:SetTable) (p:Probe):t.advance p=adv t.mask p:=rfl
def at0 (mask:Nat) (x:Nat×Nat) (d:Nat):Probe:={ j:=x.1 + d,more:=runEnd mask x.1 - x.1 - d,i:=x.1,perturb:=x.2,dummy:=none }
def seqP (mask b:Nat):Nat->Probe
 | 0=>at0 mask (run mask b 0) 0
 | k + 1=>adv mask (seqP mask b k)
theorem seq_in {mask b k m:Nat} (h:seqP mask b k=at0 mask (run mask b m) 0):∀ d,d<=runEnd mask (run mask b m).1 - (run mask b m).1->seqP mask b (k + d)=at0 mask (run mask b m) d
 | 0,_=>h
 | d + 1,hd=>by
  show adv mask (seqP mask b (k + d))=_
  rw [seq_in h d (by omega)]
  unfold adv at0
  rw [if_pos (by show _ > 0; dsimp only; omega)]
  dsimp only
  congr 1
theorem seq_run (mask b:Nat):∀ m,∃ k,k<=10 * m/\seqP mask b k=at0 mask (run mask b m) 0
 | 0=>⟨0,by omega,rfl⟩
 | m + 1=>by
  obtain ⟨k,hk,e⟩:=seq_run mask b m
  have hr:=run_lt mask b m
  obtain ⟨h1,h2,h3⟩:=runEnd_le mask _ hr
  refine ⟨k + (runEnd mask (run mask b m).1 - (run mask b m).1) + 1,by omega,?_⟩
  show adv mask (seqP mask b (k + _))=_
  rw [seq_in e _ (Nat.le_refl _)]
  unfold adv at0
  rw [if_neg (by dsimp only; omega)]
  rfl
theorem seq_at (mask b:Nat):∀ k,∃ m d,d<=runEnd mask (run mask b m).1 - (run mask b m).1/\seqP mask b k=at0 mask (run mask b m) d
 | 0=>⟨0,0,Nat.zero_le _,rfl⟩
 | k + 1=>by
  obtain ⟨m,d,hd,e⟩:=seq_at mask b k
  by_cases h:d < runEnd mask (run mask b m).1 - (run mask b m).1
  ·refine ⟨m,d + 1,by omega,?_⟩
   show adv mask (seqP mask b k)=_
   rw [e]
   unfold adv at0
   rw [if_pos (by dsimp only; omega)]
   dsimp only
   congr 1
  ·refine ⟨m + 1,0,Nat.zero_le _,?_⟩
   show adv mask (seqP mask b k)=_
   rw [e]
   unfold adv at0
   rw [if_neg (by dsimp only; omega)]
   rfl
def sl (mask b k:Nat):Nat:=(seqP mask b k).j
theorem sl_le (mask b k:Nat):sl mask b k<=mask:=by
 obtain ⟨m,d,hd,e⟩:=seq_at mask b k
 obtain ⟨h1,h2,h3⟩:=runEnd_le mask _ (run_lt mask b m)
 unfold sl
 rw [e]
 show (run mask b m).1 + d<=mask
 omega
theorem sl_all {mask b:Nat} (hf:full (mask + 1)=true) (hb:b < 2 ^ 64) {j:Nat} (hj:j<=mask):∃ k,k<=10 * (mask + 13)/\sl mask b k=j:=by
 obtain ⟨m,hm,e⟩:=run_all hf hb hj
 obtain ⟨k,hk,e2⟩:=seq_run mask b m
 refine ⟨k,by omega,?_⟩
 unfold sl
 rw [e2]
 show (run mask b m).1 + 0=j
 rw [e,Nat.add_zero]
def seq_dummy (mask b k:Nat):(seqP mask b k).dummy=none:=by
 obtain ⟨m,d,hd,e⟩:=seq_at mask b k
 rw [e]; rfl
theorem bits_lt (h:Int):bits h < 2 ^ 64:=by
 unfold bits
 omega
theorem below_go (xs:Array Nat) (ri:xs.toList.Pairwise (· < ·)) (j:Nat):∀ (fuel lo hi:Nat),hi - lo<=fuel->lo<=hi->hi<=xs.size->(∀ m (h:m < xs.size),m < lo->xs[m] < j)->(∀ m (h:m < xs.size),hi<=m->j<=xs[m]) ->
  let i:=below.go xs j fuel lo hi
  i<=xs.size/\(∀ m (h:m < xs.size),m < i->xs[m] < j)/\∀ m (h:m < xs.size),i<=m->j<=xs[m]
 | 0,lo,hi,hf,hl,hh,h1,h2=>by
  have e:lo=hi:=by omega
  subst e
  exact ⟨hh,h1,h2⟩
 | fuel + 1,lo,hi,hf,hl,hh,h1,h2=>by
  have rise:∀ a b (ha:a < xs.size) (hb:b < xs.size),a < b->xs[a] < xs[b]:=fun a b ha hb hab=>by
   have:=List.pairwise_iff_getElem.mp ri a b (by simpa using ha) (by simpa using hb) hab
   simpa using this
  dsimp only
  rw [below.go]
  by_cases hlt:lo < hi
  ·rw [if_pos hlt]
   have hm:(lo + hi) / 2 < xs.size:=by omega
   have eg:xs.getD ((lo + hi) / 2) j=xs[(lo + hi) / 2]:=by simp [Array.getD,hm]
   dsimp only
   rw [eg]
   by_cases hc:xs[(lo + hi) / 2] < j
   ·rw [if_pos hc]
    refine below_go xs ri j fuel _ _ (by omega) (by omega) hh (fun m h hlt'=>?_) h2
    by_cases e:m=(lo + hi) / 2
    ·subst e; exact hc
    ·exact Nat.lt_trans (rise m _ h hm (by omega)) hc
   ·rw [if_neg hc]
    refine below_go xs ri j fuel _ _ (by omega) (by omega) (by omega) h1 (fun m h hle=>?_)
    by_cases e:m=(lo + hi) / 2
    ·subst e; omega
    ·have:=rise _ m hm h (by omega); omega
  ·rw [if_neg hlt]
   have e:lo=hi:=by omega
   subst e
   exact ⟨hh,h1,h2⟩
theorem below_is (xs:Array Nat) (ri:xs.toList.Pairwise (· < ·)) (j:Nat):below xs j<=xs.size/\(∀ m (h:m < xs.size),m < below xs j->xs[m] < j)/\∀ m (h:m < xs.size),below xs j<=m->j<=xs[m] :=
 below_go xs ri j xs.size 0 xs.size (by omega) (by omega) (Nat.le_refl _) (fun m h hm=>absurd hm (by omega)) (fun m h hm=>absurd h (by omega))
theorem below_at {xs:Array Nat} (ri:xs.toList.Pairwise (· < ·)) {i j:Nat} (h:xs[i]?=some j):below xs j=i:=by
 obtain ⟨hi,e⟩:=Array.getElem?_eq_some_iff.mp h
 obtain ⟨b1,b2,b3⟩:=below_is xs ri j
 have rise:∀ a b (ha:a < xs.size) (hb:b < xs.size),a < b->xs[a] < xs[b]:=fun a b ha hb hab=>by
  have:=List.pairwise_iff_getElem.mp ri a b (by simpa using ha) (by simpa using hb) hab
  simpa using this
 rcases Nat.lt_trichotomy (below xs j) i with z | z | z
 ·have h1:=b3 (below xs j) (by omega) (Nat.le_refl _)
  have:=rise _ i (by omega) hi z
  omega
 ·exact z
 ·have:=b2 i hi z
  omega
theorem least {P:Nat->Prop} (n:Nat) (h:P n):∃ m,m<=n/\P m/\∀ k,k < m->¬ P k:=by
 induction n using Nat.strongRecOn with
 | ind n ih =>
  by_cases q:∃ k,k < n/\P k
  ·obtain ⟨k,hk,p⟩:=q
   obtain ⟨m,h1,h2,h3⟩:=ih k hk p
   exact ⟨m,by omega,h2,h3⟩
  ·exact ⟨n,Nat.le_refl _,h,fun k hk p=>q ⟨k,hk,p⟩⟩
theorem nd_len:∀ {A B:List Nat},A.Nodup->(∀ x∈A,x∈B)->A.length<=B.length
 | [],_,_,_=>Nat.zero_le _
 | a::A,B,nd,h=>by
  obtain ⟨n1,n2⟩:=List.nodup_cons.mp nd
  have hb:a∈B:=h a List.mem_cons_self
  have:=nd_len (B:=B.erase a) n2 fun x hx=>by
   have ne:x≠a:=fun e=>n1 (e ▸ hx)
   rw [List.mem_erase_of_ne ne]
   exact h x (List.mem_cons_of_mem _ hx)
  rw [List.length_erase_of_mem hb] at this
  have:=List.length_pos_of_mem hb
  rw [List.length_cons]
  omega
theorem hole {l:List Nat} {N:Nat} (h:l.length < N):∃ j,j < N/\j∉l:=by
 by_cases q:∃ j,j < N/\j∉l
 ·exact q
 ·have:=nd_len (A:=List.range N) (B:=l) List.nodup_range fun x hx=>by
   by_cases z:x∈l
   ·exact z
   ·exact absurd ⟨x,List.mem_range.mp hx,z⟩ q
  rw [List.length_range] at this
  omega
abbrev TL:=List (Nat×(Int×Value))
structure TOk (t:SetTable) (L:TL):Prop where
 place:t.place=(L.map (·.1)).toArray
 dum:t.dummies=#[]
 rise:(L.map (·.1)).Pairwise (· < ·)
 top:∀ e∈L,e.1<=t.mask
 ful:full (t.mask + 1)=true
 odd:t.mask % 2=1
 room:L.length<=t.mask
 reach:∀ e∈L,∃ k,k<=10 * (t.mask + 13)/\sl t.mask (bits e.2.1) k=e.1/\∀ m,m < k->sl t.mask (bits e.2.1) m∈L.map (·.1)
section
variable {t:SetTable} {L:TL}
def TOk.ri (T:TOk t L):t.place.toList.Pairwise (· < ·):=by rw [T.place]; exact T.rise
def TOk.live (T:TOk t L) {i:Nat} {e:Nat×(Int×Value)} (h:L[i]?=some e):t.slot e.1=.live i:=by
 have hp:t.place[i]?=some e.1:=by
  rw [T.place,List.getElem?_toArray,List.getElem?_map,h]
  rfl
 unfold slot
 dsimp only
 rw [below_at T.ri hp,hp,beq_self_eq_true,if_pos rfl]
def TOk.empty (T:TOk t L) {j:Nat} (h:j∉L.map (·.1)):t.slot j=.empty:=by
 unfold slot
 dsimp only
 rw [if_neg,if_neg]
 ·intro q
  unfold has at q
  rw [T.dum] at q
  cases q
 ·intro q
  have q:=eq_of_beq q
  refine h ?_
  rw [T.place,List.getElem?_toArray] at q
  exact List.mem_of_getElem? q
def TOk.at_of (T:TOk t L) {j:Nat} (h:j∈L.map (·.1)):∃ (i:Nat) (e:Nat×(Int×Value)),L[i]?=some e/\e.1=j:=by
 obtain ⟨e,he,rfl⟩:=List.mem_map.mp h
 obtain ⟨i,hi,rfl⟩:=List.getElem_of_mem he
 exact ⟨i,_,List.getElem?_eq_getElem hi,rfl⟩
theorem TOk.free (T:TOk t L) (b:Nat) (hb:b < 2 ^ 64):∃ k,k<=10 * (t.mask + 13)/\sl t.mask b k∉L.map (·.1)/\∀ m,m < k->sl t.mask b m∈L.map (·.1):=by
 obtain ⟨j,hj,hn⟩:=hole (l:=L.map (·.1)) (N:=t.mask + 1) (by rw [List.length_map]; have:=T.room; omega)
 obtain ⟨k,hk,e⟩:=sl_all T.ful hb (j:=j) (by omega)
 obtain ⟨m,h1,h2,h3⟩:=least (P:=fun k=>sl t.mask b k∉L.map (·.1)) k (by rw [e]; exact hn)
 exact ⟨m,by omega,h2,fun q hq=>by
  have:=h3 q hq
  by_cases z:sl t.mask b q∈L.map (·.1)
  ·exact z
  ·exact absurd z this⟩
def seq_j (mask b k:Nat):(seqP mask b k).j=sl mask b k:=rfl
theorem probe_over {ha:Nat->Int} {h:Int} {b:Nat}:∀ (d k f:Nat),(∀ m,k<=m->m < k + d->∃ i,t.slot (sl t.mask b m)=.live i/\(ha i == h)=false)->d<=f->probe.go t ha h f (seqP t.mask b k)=probe.go t ha h (f - d) (seqP t.mask b (k + d))
 | 0,k,f,_,_=>rfl
 | d + 1,k,0,_,hf=>absurd hf (by omega)
 | d + 1,k,f + 1,hh,hf=>by
  obtain ⟨i,e1,e2⟩:=hh k (Nat.le_refl _) (by omega)
  rw [probe.go,seq_j,e1]
  dsimp only
  rw [e2,if_neg Bool.false_ne_true,adv_is]
  have:=probe_over d (k + 1) f (fun m h1 h2=>hh m (by omega) (by omega)) (by omega)
  rw [show k + 1 + d=k + (d + 1) by omega] at this
  rw [show f + 1 - (d + 1)=f - d by omega]
  exact this
def probe_empty {ha:Nat->Int} {h:Int} {b k f:Nat} (e:t.slot (sl t.mask b k)=.empty):probe.go t ha h (f + 1) (seqP t.mask b k)=some (.empty (sl t.mask b k) none):=by
 rw [probe.go,seq_j,e]
 dsimp only
 rw [seq_dummy]
def probe_hit {ha:Nat->Int} {h:Int} {b k f i:Nat} (e:t.slot (sl t.mask b k)=.live i) (q:(ha i == h)=true):probe.go t ha h (f + 1) (seqP t.mask b k)=some (.candidate (sl t.mask b k) i (seqP t.mask b (k + 1))):=by
 rw [probe.go,seq_j,e]
 dsimp only
 rw [q,if_pos rfl,adv_is]
 rfl
theorem TOk.met (T:TOk t L) {ha:Nat->Int} {h:Int} {b k k0:Nat} (hk:k<=k0) (h0:k0<=10 * (t.mask + 13)) (fr:sl t.mask b k0∉L.map (·.1)) (tk:∀ m,m < k0->sl t.mask b m∈L.map (·.1)) :
  (t.probe ha h (seqP t.mask b k)=some (.empty (sl t.mask b k0) none)/\∀ m,k<=m->m < k0->∃ i,t.slot (sl t.mask b m)=.live i/\(ha i == h)=false) \/
  ∃ m i e,k<=m/\m < k0/\L[i]?=some e/\e.1=sl t.mask b m/\(ha i == h)=true/\t.probe ha h (seqP t.mask b k)=some (.candidate (sl t.mask b m) i (seqP t.mask b (m + 1)))/\∀ q,k<=q->q < m->∃ i,t.slot (sl t.mask b q)=.live i/\(ha i == h)=false:=by
 have lv:∀ m,m < k0->∃ i e,L[i]?=some e/\e.1=sl t.mask b m/\t.slot (sl t.mask b m)=.live i:=fun m hm=>by
  obtain ⟨i,e,h1,h2⟩:=T.at_of (tk m hm)
  exact ⟨i,e,h1,h2,by rw [<- h2]; exact T.live h1⟩
 by_cases q:∃ m,k<=m/\m < k0/\∃ i,t.slot (sl t.mask b m)=.live i/\(ha i == h)=true
 ·obtain ⟨m',h1,h2,h3⟩:=q
  obtain ⟨m,g1,⟨g2,g3,i,g4,g5⟩,g6⟩:=least (P:=fun m=>k<=m/\m < k0/\∃ i,t.slot (sl t.mask b m)=.live i/\(ha i == h)=true) m' ⟨h1,h2,h3⟩
  have ov:∀ q,k<=q->q < m->∃ i,t.slot (sl t.mask b q)=.live i/\(ha i == h)=false:=fun q hq hm=>by
   obtain ⟨i',e',z1,z2,z3⟩:=lv q (by omega)
   refine ⟨i',z3,?_⟩
   cases z:ha i' == h with
   | false=>rfl
   | true=>exact absurd ⟨hq,by omega,i',z3,z⟩ (g6 q hm)
  obtain ⟨i',e',z1,z2,z3⟩:=lv m g3
  have ei:i'=i:=by rw [g4] at z3; cases z3; rfl
  subst ei
  refine .inr ⟨m,i',e',g2,g3,z1,z2,g5,?_,ov⟩
  unfold probe
  rw [probe_over (b:=b) (m - k) k _ (fun q h1 h2=>ov q h1 (by omega)) (by unfold turns; omega),show k + (m - k)=m by omega]
  obtain ⟨f,hf⟩:∃ f,10 * turns t.mask - (m - k)=f + 1:=⟨10 * turns t.mask - (m - k) - 1,by unfold turns; omega⟩
  rw [hf]
  exact probe_hit g4 g5
 ·have ov:∀ m,k<=m->m < k0->∃ i,t.slot (sl t.mask b m)=.live i/\(ha i == h)=false:=fun m h1 h2=>by
   obtain ⟨i',e',z1,z2,z3⟩:=lv m h2
   refine ⟨i',z3,?_⟩
   cases z:ha i' == h with
   | false=>rfl
   | true=>exact absurd ⟨m,h1,h2,i',z3,z⟩ q
  refine .inl ⟨?_,ov⟩
  unfold probe
  rw [probe_over (b:=b) (k0 - k) k _ (fun q h1 h2=>ov q h1 (by omega)) (by unfold turns; omega),show k + (k0 - k)=k0 by omega]
  obtain ⟨f,hf⟩:∃ f,10 * turns t.mask - (k0 - k)=f + 1:=⟨10 * turns t.mask - (k0 - k) - 1,by unfold turns; omega⟩
  rw [hf]
  exact probe_empty (T.empty fr)
end
section
variable {t:SetTable} {L:TL}
def ins_is {α:Type} (l:List α) {p:Nat} (hp:p<=l.length) (x:α):insertAt l.toArray p x=(l.take p++x::l.drop p).toArray:=by
 unfold insertAt
 apply Array.ext'
 simp
 rw [List.take_of_length_le (by simp)]
def insL (L:TL) (p:Nat) (e:Nat×(Int×Value)):TL:=L.take p++e::L.drop p
def insL_mem {p:Nat} {e x:Nat×(Int×Value)}:x∈insL L p e↔x=e\/x∈L:=by
 unfold insL
 rw [List.mem_append,List.mem_cons]
 conv=>rhs; rw [<- List.take_append_drop p L,List.mem_append]
 constructor
 ·rintro (h | h | h)
  ·exact .inr (.inl h)
  ·exact .inl h
  ·exact .inr (.inr h)
 ·rintro (h | h | h)
  ·exact .inr (.inl h)
  ·exact .inl h
  ·exact .inr (.inr h)
def insL_perm {p:Nat} {e:Nat×(Int×Value)}:(insL L p e).Perm (e::L):=by
 unfold insL
 refine List.perm_middle.trans ?_
 rw [List.take_append_drop]
theorem TOk.put (T:TOk t L) {h:Int} {x:Value} {k:Nat} (hk:k<=10 * (t.mask + 13)) (fr:sl t.mask (bits h) k∉L.map (·.1)) (tk:∀ m,m < k->sl t.mask (bits h) m∈L.map (·.1)) (ro:L.length + 1<=t.mask) {t':SetTable} (em:t'.mask=t.mask) (ep:t'.place=(t.put (sl t.mask (bits h) k)).1.place) (ed:t'.dummies=(t.put (sl t.mask (bits h) k)).1.dummies) :
  ∃ p,(t.put (sl t.mask (bits h) k)).2=p/\insertAt (L.map (·.2)).toArray p (h,x)=((insL L p (sl t.mask (bits h) k,(h,x))).map (·.2)).toArray/\TOk t' (insL L p (sl t.mask (bits h) k,(h,x))):=by
 generalize ej:sl t.mask (bits h) k=j at *
 obtain ⟨b1,b2,b3⟩:=below_is t.place T.ri j
 have lp:t.place.size=L.length:=by rw [T.place,List.size_toArray,List.length_map]
 rw [lp] at b1
 have e1:∀ {α:Type} (f:Nat×(Int×Value)->α) (e:Nat×(Int×Value)),insertAt (L.map f).toArray (below t.place j) (f e)=((insL L (below t.place j) e).map f).toArray:=fun f e=>by
  rw [ins_is _ (by rw [List.length_map]; exact b1)]
  unfold insL
  rw [List.map_append,List.map_cons,List.map_take,List.map_drop]
 have at_:∀ (m:Nat) (hm:m < L.length),∃ hm':m < t.place.size,t.place[m]=(L[m]).1:=fun m hm=>⟨by omega,by
  have:t.place[m]?=(L.map (·.1))[m]?:=by rw [T.place,List.getElem?_toArray]
  rw [Array.getElem?_eq_getElem (by omega),List.getElem?_map,List.getElem?_eq_getElem hm] at this
  exact Option.some.inj this⟩
 refine ⟨below t.place j,rfl,e1 (·.2) (j,(h,x)),?_⟩
 have memF:∀ {i:Nat},i∈L.map (·.1)->i∈(insL L (below t.place j) (j,(h,x))).map (·.1):=fun {i} hi=>by
  obtain ⟨e,he,rfl⟩:=List.mem_map.mp hi
  exact List.mem_map.mpr ⟨e,insL_mem.mpr (.inr he),rfl⟩
 refine ⟨?_,?_,?_,?_,by rw [em]; exact T.ful,by rw [em]; exact T.odd,?_,?_⟩
 ·rw [ep]
  show insertAt t.place (below t.place j) j=_
  have:=e1 (·.1) (j,(h,x))
  rw [<- T.place] at this
  exact this
 ·rw [ed]
  show (if has t.dummies j=true then _ else t.dummies)=#[]
  rw [if_neg,T.dum]
  unfold has
  rw [T.dum]
  exact fun q=>by cases q
 ·unfold insL
  rw [List.map_append,List.map_cons,List.map_take,List.map_drop]
  refine List.pairwise_append.mpr ⟨T.rise.sublist (List.take_sublist _ _),List.pairwise_cons.mpr ⟨fun i hi=>?_,T.rise.sublist (List.drop_sublist _ _)⟩,fun a ha c hc=>?_⟩
  ·obtain ⟨m,hm,rfl⟩:=List.getElem_of_mem hi
   rw [List.length_drop,List.length_map] at hm
   rw [List.getElem_drop,List.getElem_map]
   obtain ⟨hm',e⟩:=at_ (below t.place j + m) (by omega)
   have:=b3 (below t.place j + m) hm' (by omega)
   rw [e] at this
   have ne:j≠(L[below t.place j + m]'(by omega)).1:=fun q=>fr (List.mem_map.mpr ⟨_,List.getElem_mem (by omega),q.symm⟩)
   show j < (L[below t.place j + m]'(by omega)).1
   omega
  ·have ha':a < j:=by
    obtain ⟨m,hm,rfl⟩:=List.getElem_of_mem ha
    rw [List.length_take,List.length_map] at hm
    rw [List.getElem_take,List.getElem_map]
    obtain ⟨hm',e⟩:=at_ m (by omega)
    have:=b2 m hm' (by omega)
    rw [e] at this
    exact this
   rcases List.mem_cons.mp hc with rfl | hc
   ·exact ha'
   ·obtain ⟨m,hm,rfl⟩:=List.getElem_of_mem hc
    rw [List.length_drop,List.length_map] at hm
    rw [List.getElem_drop,List.getElem_map]
    obtain ⟨hm',e⟩:=at_ (below t.place j + m) (by omega)
    have:=b3 (below t.place j + m) hm' (by omega)
    rw [e] at this
    show a < (L[below t.place j + m]'(by omega)).1
    omega
 ·intro e he
  rw [em]
  rcases insL_mem.mp he with rfl | he
  ·show j<=t.mask
   rw [<- ej]
   exact sl_le _ _ _
  ·exact T.top e he
 ·rw [insL_perm.length_eq,List.length_cons,em]
  exact ro
 ·intro e he
  rw [em]
  rcases insL_mem.mp he with rfl | he
  ·exact ⟨k,hk,ej,fun m hm=>memF (tk m hm)⟩
  ·obtain ⟨q,h1,h2,h3⟩:=T.reach e he
   exact ⟨q,h1,h2,fun m hm=>memF (h3 m hm)⟩
end
def tkn (ow:Array (Option Nat)) (j:Nat):Bool:=!(ow.getD j (some 0)).isNone
theorem free_is {ow:Array (Option Nat)} {mask b:Nat} (hf:full (mask + 1)=true) (hb:b < 2 ^ 64) (ho:∃ j,j<=mask/\tkn ow j=false):∀ (f m k:Nat),m + f=mask + 15->seqP mask b k=at0 mask (run mask b m) 0->(∀ q,q < k->tkn ow (sl mask b q)=true)->(∀ q,q < m->tkn ow (run mask b q).1=true) ->
  ∃ k',layClean.free mask ow f (run mask b m).1 (run mask b m).2=some (sl mask b k')/\tkn ow (sl mask b k')=false/\∀ q,q < k'->tkn ow (sl mask b q)=true
 | 0,m,k,hm,_,_,hr=>by
  obtain ⟨j,hj,hn⟩:=ho
  obtain ⟨q,hq,e⟩:=run_all hf hb hj
  have:=hr q (by omega)
  rw [e,hn] at this
  cases this
 | f + 1,m,k,hm,hs,ht,hr=>by
  obtain ⟨g1,g2,g3⟩:=runEnd_le mask _ (run_lt mask b m)
  have at_:∀ d,d<=runEnd mask (run mask b m).1 - (run mask b m).1->sl mask b (k + d)=(run mask b m).1 + d:=fun d hd=>by
   unfold sl
   rw [seq_in hs d hd]
   rfl
  rw [layClean.free]
  cases e:(List.range (runEnd mask (run mask b m).1 + 1 - (run mask b m).1)).find? (fun k=>(ow.getD ((run mask b m).1 + k) (some 0)).isNone) with
  | some d =>
   obtain ⟨h1,h2,h3⟩:=List.find?_range_eq_some.mp e
   have hd:=List.mem_range.mp h2
   refine ⟨k + d,by rw [at_ d (by omega)],?_,fun q hq=>?_⟩
   ·rw [at_ d (by omega)]
    unfold tkn
    rw [h1]
    rfl
   ·by_cases z:q < k
    ·exact ht q z
    ·have:=h3 (q - k) (by omega)
     rw [<- at_ (q - k) (by omega),show k + (q - k)=q by omega] at this
     exact this
  | none =>
   have h1:=List.find?_range_eq_none.mp e
   have all:∀ d,d<=runEnd mask (run mask b m).1 - (run mask b m).1->tkn ow ((run mask b m).1 + d)=true:=fun d hd=>h1 d (by omega)
   refine free_is hf hb ho f (m + 1) (k + (runEnd mask (run mask b m).1 - (run mask b m).1) + 1) (by omega) ?_ (fun q hq=>?_) fun q hq=>?_
   ·show adv mask (seqP mask b (k + _))=_
    rw [seq_in hs _ (Nat.le_refl _)]
    unfold adv at0
    rw [if_neg (by dsimp only; omega)]
    rfl
   ·by_cases z:q < k
    ·exact ht q z
    ·have:=all (q - k) (by omega)
     rw [<- at_ (q - k) (by omega),show k + (q - k)=q by omega] at this
     exact this
   ·by_cases z:q < m
    ·exact hr q z
    ·have:=all 0 (Nat.zero_le _)
     rw [Nat.add_zero] at this
     rw [show q=m by omega]
     exact this
structure LayInv (mask:Nat) (hs:List Int) (ow:Array (Option Nat)) (js:List Nat):Prop where
 len:js.length=hs.length
 size:ow.size=mask + 1
 nd:js.Nodup
 top:∀ j∈js,j<=mask
 own:∀ (j i:Nat),j<=mask->(ow.getD j none=some i↔js[i]?=some j)
 reach:∀ (i:Nat) (h:Int) (j:Nat),hs[i]?=some h->js[i]?=some j->∃ k,k<=10 * (mask + 13)/\sl mask (bits h) k=j/\∀ q,q < k->sl mask (bits h) q∈js
section
variable {mask:Nat} {hs:List Int} {ow:Array (Option Nat)} {js:List Nat}
theorem LayInv.tk (I:LayInv mask hs ow js) {j:Nat} (hj:j<=mask):tkn ow j=true↔j∈js:=by
 have hz:j < ow.size:=by rw [I.size]; omega
 have e1:ow.getD j (some 0)=ow[j]:=by rw [Array.getD_eq_getD_getElem?,Array.getElem?_eq_getElem hz]; rfl
 have e2:ow.getD j none=ow[j]:=by rw [Array.getD_eq_getD_getElem?,Array.getElem?_eq_getElem hz]; rfl
 unfold tkn
 rw [e1]
 constructor
 ·intro h
  cases q:ow[j] with
  | none=>rw [q] at h; cases h
  | some i=>exact List.mem_of_getElem? ((I.own j i hj).mp (by rw [e2,q]))
 ·intro h
  obtain ⟨i,hi,e⟩:=List.getElem_of_mem h
  have:=(I.own j i hj).mpr (by rw [List.getElem?_eq_getElem hi,e])
  rw [e2] at this
  rw [this]
  rfl
theorem LayInv.more (I:LayInv mask hs ow js) (hf:full (mask + 1)=true) (hl:hs.length + 1<=mask) (h:Int):∃ j,layClean.free mask ow (turns mask) (bits h % (mask + 1)) (bits h)=some j/\LayInv mask (hs++[h]) (ow.setIfInBounds j (some hs.length)) (js++[j]):=by
 obtain ⟨jh,hj1,hj2⟩:=hole (l:=js) (N:=mask + 1) (by rw [I.len]; omega)
 have hn:tkn ow jh=false:=by
  cases z:tkn ow jh with
  | false=>rfl
  | true=>exact absurd ((I.tk (by omega)).mp z) hj2
 obtain ⟨k,e,fr,tk⟩:=free_is (b:=bits h) hf (bits_lt h) ⟨jh,by omega,hn⟩ (mask + 15) 0 0 (by omega) rfl (fun q hq=>absurd hq (by omega)) fun q hq=>absurd hq (by omega)
 have hk:k<=10 * (mask + 13):=by
  obtain ⟨k1,h1,h2⟩:=sl_all hf (bits_lt h) (j:=jh) (by omega)
  by_cases z:k<=k1
  ·omega
  ·have:=tk k1 (by omega)
   rw [h2,hn] at this
   cases this
 have hle:=sl_le mask (bits h) k
 have hnew:sl mask (bits h) k∉js:=fun z=>by
  rw [(I.tk hle).mpr z] at fr
  cases fr
 refine ⟨sl mask (bits h) k,e,?_,?_,?_,?_,?_,?_⟩
 ·rw [List.length_append,List.length_append,I.len]; rfl
 ·rw [Array.size_setIfInBounds]; exact I.size
 ·refine List.nodup_append.mpr ⟨I.nd,List.nodup_cons.mpr ⟨List.not_mem_nil,List.nodup_nil⟩,fun a ha b hb q=>?_⟩
  rw [List.mem_singleton.mp hb] at q
  exact hnew (q ▸ ha)
 ·intro j hj
  rcases List.mem_append.mp hj with z | z
  ·exact I.top j z
  ·rw [List.mem_singleton.mp z]; exact hle
 ·intro j i hj
  have hz:j < ow.size:=by rw [I.size]; omega
  rw [Array.getD_eq_getD_getElem?,Array.getElem?_setIfInBounds]
  by_cases q:sl mask (bits h) k=j
  ·rw [if_pos q,if_pos (by rw [q]; exact hz)]
   subst q
   show some hs.length=some i↔_
   constructor
   ·intro z
    cases z
    rw [<- I.len,List.getElem?_concat_length]
   ·intro z
    by_cases y:i < js.length
    ·rw [List.getElem?_append_left y] at z
     exact absurd (List.mem_of_getElem? z) hnew
    ·have:i < (js++[sl mask (bits h) k]).length:=(List.getElem?_eq_some_iff.mp z).1
     rw [List.length_append,List.length_singleton] at this
     rw [show i=hs.length by rw [<- I.len]; omega]
  ·rw [if_neg q]
   have:=I.own j i hj
   rw [Array.getD_eq_getD_getElem?] at this
   rw [this]
   by_cases y:i < js.length
   ·rw [List.getElem?_append_left y]
   ·constructor
    ·intro z
     have:=(List.getElem?_eq_some_iff.mp z).1
     omega
    ·intro z
     have h1:i < (js++[sl mask (bits h) k]).length:=(List.getElem?_eq_some_iff.mp z).1
     rw [List.length_append,List.length_singleton] at h1
     rw [show i=js.length by omega,List.getElem?_concat_length] at z
     exact absurd (Option.some.inj z) q
 ·intro i h' j h1 h2
  by_cases y:i < js.length
  ·rw [List.getElem?_append_left y] at h2
   rw [List.getElem?_append_left (by rw [<- I.len]; exact y)] at h1
   obtain ⟨k',z1,z2,z3⟩:=I.reach i h' j h1 h2
   exact ⟨k',z1,z2,fun q hq=>List.mem_append_left _ (z3 q hq)⟩
  ·have hi:i < (js++[sl mask (bits h) k]).length:=(List.getElem?_eq_some_iff.mp h2).1
   rw [List.length_append,List.length_singleton] at hi
   rw [show i=js.length by omega,List.getElem?_concat_length] at h2
   rw [show i=hs.length by rw [<- I.len]; omega,List.getElem?_concat_length] at h1
   cases h1
   cases h2
   exact ⟨k,hk,rfl,fun q hq=>List.mem_append_left _ ((I.tk (sl_le _ _ _)).mp (tk q hq))⟩
def stepC (mask:Nat) (acc:Option (Array (Option Nat)×Nat)) (h:Int):Option (Array (Option Nat)×Nat):=do
 let (owner,k) <- acc
 let j <- layClean.free mask owner (turns mask) (bits h % (mask + 1)) (bits h)
 pure (owner.setIfInBounds j (some k),k + 1)
theorem lay_fold (hf:full (mask + 1)=true):∀ (r hs:List Int) (ow:Array (Option Nat)) (js:List Nat),LayInv mask hs ow js->hs.length + r.length<=mask->∃ ow' js',r.foldl (stepC mask) (some (ow,hs.length))=some (ow',hs.length + r.length)/\LayInv mask (hs++r) ow' js'
 | [],hs,ow,js,I,_=>⟨ow,js,rfl,by rw [List.append_nil]; exact I⟩
 | h::r,hs,ow,js,I,hl=>by
  rw [List.length_cons] at hl
  obtain ⟨j,e,I'⟩:=I.more hf (by omega) h
  obtain ⟨ow',js',e',J⟩:=lay_fold hf r (hs++[h]) _ _ I' (by rw [List.length_append,List.length_singleton]; omega)
  refine ⟨ow',js',?_,by rw [List.append_assoc] at J; exact J⟩
  rw [List.foldl_cons]
  rw [List.length_append,List.length_singleton] at e'
  have:stepC mask (some (ow,hs.length)) h=some (ow.setIfInBounds j (some hs.length),hs.length + 1):=by
   unfold stepC
   rw [Option.bind_eq_bind,Option.bind_some]
   dsimp only
   rw [e]
   rfl
  rw [this,e',List.length_cons]
  congr 2
  omega
theorem lay_is (hf:full (mask + 1)=true) (hashes:Array Int) (hl:hashes.size<=mask):∃ ow js,layClean mask hashes=some ow/\LayInv mask hashes.toList ow js:=by
 have I0:LayInv mask [] (Array.replicate (mask + 1) none) []:=by
  refine ⟨rfl,Array.size_replicate,List.nodup_nil,fun j hj=>(List.not_mem_nil hj).elim,fun j i hj=>?_,fun i h j h1=>?_⟩
  ·rw [Array.getD_eq_getD_getElem?,Array.getElem?_replicate,if_pos (by omega)]
   exact ⟨fun z=>(by cases z),fun z=>(by cases z)⟩
  ·cases h1
 obtain ⟨ow,js,e,J⟩:=lay_fold hf hashes.toList [] _ _ I0 (by simpa using hl)
 refine ⟨ow,js,?_,J⟩
 unfold layClean
 rw [<- Array.foldl_toList]
 show Option.map _ (hashes.toList.foldl (stepC mask) (some (Array.replicate (mask + 1) none,0)))=_
 rw [show (0:Nat)=([]:List Int).length from rfl,e]
 rfl
end
theorem filterMap_all {α β:Type} {f:α->Option β} {g:α->β}:∀ {l:List α},(∀ x∈l,f x=some (g x))->l.filterMap f=l.map g
 | [],_=>rfl
 | x::l,h=>by
  rw [List.filterMap_cons,h x List.mem_cons_self,List.map_cons,filterMap_all fun y hy=>h y (List.mem_cons_of_mem _ hy)]
theorem tag_fst {g:Nat->Option Nat}:∀ {l:List Nat},(l.filterMap fun j=>(g j).map (j,·)).map (·.1)=l.filter fun j=>(g j).isSome
 | []=>rfl
 | j::l=>by
  rw [List.filterMap_cons,List.filter_cons]
  cases e:g j with
  | none=>exact tag_fst
  | some i =>
   rw [Option.map_some,Option.isSome_some,if_pos rfl]
   dsimp only
   rw [List.map_cons,tag_fst]
theorem laid_ok {mask finger moves:Nat} {led plain:Bool} (hf:full (mask + 1)=true) (od:mask % 2=1) {es:List (Int×Value)} (hl:es.length<=mask) :
  ∃ (t':SetTable) (order:Array Nat) (L':TL),laid mask finger moves led plain (es.toArray.map (·.1))=some (t',order)/\order.filterMap (es.toArray[·]?)=(L'.map (·.2)).toArray/\TOk t' L'/\(L'.map (·.2)).Perm es/\t'.mask=mask/\t'.led=led/\t'.plain=plain:=by
 obtain ⟨ow,js,e,I⟩:=lay_is hf (es.toArray.map (·.1)) (by simpa using hl)
 have eh:(es.toArray.map (·.1)).toList=es.map (·.1):=by simp
 rw [eh] at I
 let live:List (Nat×Nat):=(List.range (mask + 1)).filterMap fun j=>(ow.getD j none).map (j,·)
 have hlive:live=(List.range (mask + 1)).filterMap fun j=>(ow.getD j none).map (j,·):=rfl
 have lm:∀ (j i:Nat),(j,i)∈live↔js[i]?=some j:=fun j i=>by
  rw [hlive,List.mem_filterMap]
  constructor
  ·rintro ⟨j',h1,h2⟩
   cases q:ow.getD j' none with
   | none=>rw [q] at h2; cases h2
   | some i' =>
    rw [q] at h2
    cases h2
    exact (I.own j i (by have:=List.mem_range.mp h1; omega)).mp q
  ·intro h
   have hj:=I.top j (List.mem_of_getElem? h)
   exact ⟨j,List.mem_range.mpr (by omega),by rw [(I.own j i hj).mpr h]; rfl⟩
 have nlen:js.length=es.length:=by rw [I.len,List.length_map]
 have ix:∀ p∈live,p.2 < es.length:=fun p hp=>by
  have:=(List.getElem?_eq_some_iff.mp ((lm p.1 p.2).mp hp)).1
  omega
 have gt:∀ p∈live,es[p.2]?=some (es.getD p.2 (0,.none)):=fun p hp=>by
  rw [List.getD_eq_getElem?_getD,List.getElem?_eq_getElem (ix p hp)]
  rfl
 let L':TL:=live.map fun p=>(p.1,es.getD p.2 (0,.none))
 have hL':L'=live.map fun p=>(p.1,es.getD p.2 (0,.none)):=rfl
 have f1:L'.map (·.1)=live.map (·.1):=by rw [hL',List.map_map]; rfl
 have f2:L'.map (·.2)=(live.map (·.2)).map fun i=>es.getD i (0,.none):=by rw [hL',List.map_map,List.map_map]; rfl
 have ri:(live.map (·.1)).Pairwise (· < ·):=by
  rw [hlive,tag_fst]
  exact List.pairwise_lt_range.sublist List.filter_sublist
 have nd2:(live.map (·.2)).Nodup:=by
  refine List.pairwise_map.mpr ((List.pairwise_map.mp ri).imp_of_mem fun {a b} ha hb hab q=>?_)
  have h1:=(lm a.1 a.2).mp ha
  have h2:=(lm b.1 b.2).mp hb
  rw [q,h2] at h1
  have:=Option.some.inj h1
  omega
 have pm:(live.map (·.2)).Perm (List.range es.length):=(List.perm_ext_iff_of_nodup nd2 List.nodup_range).mpr fun i=>by
  rw [List.mem_map,List.mem_range]
  constructor
  ·rintro ⟨p,hp,rfl⟩
   exact ix p hp
  ·intro hi
   exact ⟨(js[i]'(by omega),i),(lm _ _).mpr (List.getElem?_eq_getElem (by omega)),rfl⟩
 have er:(List.range es.length).map (fun i=>es.getD i (0,.none))=es:=by
  apply List.ext_getElem
  ·rw [List.length_map,List.length_range]
  ·intro i h1 h2
   rw [List.getElem_map,List.getElem_range,List.getD_eq_getElem?_getD,List.getElem?_eq_getElem h2]
   rfl
 have pe:(L'.map (·.2)).Perm es:=by
  rw [f2]
  have:=pm.map fun i=>es.getD i (0,.none)
  rw [er] at this
  exact this
 have mj:∀ j,j∈L'.map (·.1)↔j∈js:=fun j=>by
  rw [f1,List.mem_map]
  constructor
  ·rintro ⟨p,hp,rfl⟩
   exact List.mem_of_getElem? ((lm p.1 p.2).mp hp)
  ·intro hj
   obtain ⟨i,hi,q⟩:=List.getElem_of_mem hj
   exact ⟨(j,i),(lm j i).mpr (by rw [List.getElem?_eq_getElem hi,q]),rfl⟩
 refine ⟨{ mask,place:=(live.map (·.1)).toArray,dummies:=#[],finger,led,moves,plain },(live.map (·.2)).toArray,L',?_,?_,⟨?_,rfl,?_,?_,hf,od,?_,?_⟩,pe,rfl,rfl,rfl⟩
 ·unfold laid
  rw [e]
  rfl
 ·rw [f2,List.filterMap_toArray,filterMap_all (g:=fun i=>es.getD i (0,.none))]
  intro i hi
  obtain ⟨p,hp,rfl⟩:=List.mem_map.mp hi
  rw [List.getElem?_toArray]
  exact gt p hp
 ·show (live.map (·.1)).toArray=_
  rw [f1]
 ·rw [f1]; exact ri
 ·intro x hx
  exact I.top _ ((mj _).mp (List.mem_map.mpr ⟨x,hx,rfl⟩))
 ·show L'.length<=mask
  rw [<- List.length_map (f:=(·.2)) (as:=L'),pe.length_eq]
  exact hl
 ·intro x hx
  rw [hL'] at hx
  obtain ⟨p,hp,rfl⟩:=List.mem_map.mp hx
  have h1:=(lm p.1 p.2).mp hp
  obtain ⟨k,z1,z2,z3⟩:=I.reach p.2 (es.getD p.2 (0,.none)).1 p.1 (by rw [List.getElem?_map,gt p hp]; rfl) h1
  exact ⟨k,z1,z2,fun m hm=>(mj _).mpr (z3 m hm)⟩
def full8:full 8=true:=by decide +kernel
def full32:full 32=true:=by decide +kernel
def full128:full 128=true:=by decide +kernel
section
variable {prog:Program} {w:World} {K:Type} [DecidableEq K] {knd:KeyKind prog w K} {A:Around} {E:Value->Shared->Prop} {s:Shared}
theorem ofClass_byValue (n:Nat) {v:Value} (h:carriedByValue v=true):ofAClassStatement n v=pure false:=by
 cases v with
 | ref a=>simp [carriedByValue] at h
 | _=>first | rfl | simp [ofAClassStatement] | (unfold ofAClassStatement; rfl)
def ofClass_tuple {ks:List K} {a:Addr} {Q:Bool->Shared->Prop} (hk:IsTupleKey knd s.heap ks a) (h:Q false s):wpAny (model prog w) A (ofAClassStatement 8 (.ref a)) Q E s:=by
 have hT:=hk.typeIs
 obtain ⟨o,items,n,ho,_,hd,hi⟩:=hk
 unfold ofAClassStatement
 refine wpAny_bind (wpAny_typeOf hT ?_)
 dsimp only
 rw [if_pos (by decide)]
 refine wpAny_bind (wpAny_pure ?_)
 simp only [Bool.not_true,Bool.false_eq_true,if_false]
 refine wpAny_bind (wpAny_seqItems ho hd ?_)
 dsimp only
 refine wpAny_bind ?_
 rw [<- Array.forIn_toList]
 refine wpAny_forIn_list _ (fun rest r s'=>r.1=none/\s'=s/\∀ v∈rest,carriedByValue v=true) _ ?_ ?_ _ _ ⟨rfl,rfl,hi.byValue⟩
 ·rintro v rest r s' ⟨hr,rfl,hall⟩
  rw [ofClass_byValue _ (hall v List.mem_cons_self)]
  refine wpAny_bind (wpAny_pure ?_)
  simp only [Bool.false_eq_true,if_false]
  exact wpAny_pure ⟨rfl,rfl,fun u hu'=>hall u (List.mem_cons_of_mem _ hu')⟩
 ·rintro ⟨r1,r2⟩ s' ⟨hr,rfl,_⟩
  simp only at hr
  subst hr
  exact wpAny_pure h
def hashBy_tuple {ks:List K} {a:Addr} {Q:Bool->Shared->Prop} (hb:∀ (k:K) (v:Value) (n:Nat),knd.is k v=true->hashByValue n v=pure true) (hk:IsTupleKey knd s.heap ks a) (h:Q true s):wpAny (model prog w) A (hashByValue 8 (.ref a)) Q E s:=by
 have hT:=hk.typeIs
 obtain ⟨o,items,n,ho,_,hd,hi⟩:=hk
 unfold hashByValue
 refine wpAny_bind (wpAny_specialOf hT F.slot_tuple_hash.lookup ?_)
 show wpAny _ _ (seqItems? (.ref a) >>= _) _ _ s
 refine wpAny_bind (wpAny_seqItems ho hd ?_)
 refine wpAny_bind ?_
 show wpAny _ _ (forIn items _ _) _ _ s
 rw [<- Array.forIn_toList]
 refine wpAny_forIn_list _ (fun rest r s'=>r.1=none/\s'=s/\∃ left,ItemsAre knd left rest) _ ?_ ?_ _ _ ⟨rfl,rfl,ks,hi⟩
 ·rintro v rest r s' ⟨hr,rfl,left,hall⟩
  cases hall with
  | cons h1 h2 =>
   rw [hb _ _ _ h1]
   refine wpAny_bind (wpAny_pure ?_)
   simp only [Bool.not_true,Bool.false_eq_true,if_false]
   exact wpAny_pure ⟨rfl,rfl,_,h2⟩
 ·rintro ⟨r1,r2⟩ s' ⟨hr,rfl,_⟩
  simp only at hr
  subst hr
  exact wpAny_pure h
def unseen {kx:List K} {xb:Addr} {stored:List Value} {Q:Bool->Shared->Prop} (hx:IsTupleKey knd s.heap kx xb) (hs:∀ y∈stored,∃ ky yb,y=.ref yb/\IsTupleKey knd s.heap ky yb) (h:Q false s):wpAny (model prog w) A (searchCouldBeSeen (.ref xb) stored) Q E s:=by
 unfold searchCouldBeSeen
 refine wpAny_bind ?_
 refine wpAny_forIn_list _ (fun rest r s'=>r.1=none/\s'=s/\∀ y∈rest,∃ ky yb,y=.ref yb/\IsTupleKey knd s.heap ky yb) _ ?_ ?_ _ _ ⟨rfl,rfl,hs⟩
 ·rintro y rest r s' ⟨hr,rfl,hall⟩
  obtain ⟨ky,yb,rfl,hy⟩:=hall y List.mem_cons_self
  dsimp only
  split
  ·exact wpAny_pure ⟨rfl,rfl,fun u hu=>hall u (List.mem_cons_of_mem _ hu)⟩
  ·refine wpAny_bind (wpAny_eqIsQuiet_tuple hx ?_)
   simp only [Bool.not_true,Bool.false_eq_true,if_false]
   refine wpAny_bind (wpAny_eqIsQuiet_tuple hy ?_)
   simp only [Bool.not_true,Bool.false_eq_true,if_false]
   refine wpAny_bind (ofClass_tuple hx ?_)
   simp only [Bool.false_eq_true,if_false]
   refine wpAny_bind (ofClass_tuple hy ?_)
   simp only [Bool.false_eq_true,if_false]
   exact wpAny_pure ⟨rfl,rfl,fun u hu=>hall u (List.mem_cons_of_mem _ hu)⟩
 ·rintro ⟨r1,r2⟩ s' ⟨hr,rfl,_⟩
  simp only at hr
  subst hr
  exact wpAny_pure h
end
section
variable {prog:Program} {w:World} {K:Type} [DecidableEq K] {knd:KeyKind prog w K} {G:List K->Addr->Prop} {A:Around} {E:Value->Shared->Prop} {s:Shared}
def KeyIs (G:List K->Addr->Prop) (knd:KeyKind prog w K) (h:Heap) (ks:List K) (e:Int×Value):Prop:=∃ b,e.2=.ref b/\IsTupleKey knd h ks b/\e.1=tupleKeyHash knd ks/\G ks b
def KeyIs.inj {h:Heap} {x y:List K} {e:Int×Value} (a:KeyIs G knd h x e) (b:KeyIs G knd h y e):x=y:=by
 obtain ⟨p,e1,h1,_⟩:=a
 obtain ⟨q,e2,h2,_⟩:=b
 rw [e1] at e2
 cases e2
 exact h1.inj h2
def TOk.fits {t:SetTable} {L:TL} (T:TOk t L):t.fits (L.map (·.2)).toArray.size=true:=by
 unfold SetTable.fits fill
 rw [T.place,T.dum,List.size_toArray,List.size_toArray,List.length_map,List.length_map,beq_self_eq_true,Bool.true_and,decide_eq_true_eq]
 exact T.room
def haL (L:TL) (i:Nat):Int:=(((L.map (·.2)).toArray)[i]?.map (·.1)).getD 0
def haL_at {L:TL} {i:Nat} {e:Nat×(Int×Value)} (h:L[i]?=some e):haL L i=e.2.1:=by
 unfold haL
 rw [List.getElem?_toArray,List.getElem?_map,h]
 rfl
theorem search_to {a:Addr} {o:Obj} {ep:Nat} {t:SetTable} {L:TL} {kx:List K} {xb:Addr} (ho:s.heap.get? a=some o) (hd:o.data=.set (L.map (·.2)).toArray ep t) (T:TOk t L) (el:∀ e∈L,∃ ks,KeyIs G knd s.heap ks e.2)
  (hx:IsTupleKey knd s.heap kx xb) (hu:A.units < cLine) {k0:Nat} (h0:k0<=10 * (t.mask + 13)) (fr:sl t.mask (bits (tupleKeyHash knd kx)) k0∉L.map (·.1)) (tk:∀ m,m < k0->sl t.mask (bits (tupleKeyHash knd kx)) m∈L.map (·.1)) {Q:SetFound->Shared->Prop}
  (hF:(∃ e∈L,KeyIs G knd s.heap kx e.2)->Q (.there none) s) (hN:(∀ e∈L,¬ KeyIs G knd s.heap kx e.2)->Q (.free (sl t.mask (bits (tupleKeyHash knd kx)) k0) false) s) :
  ∀ (f k:Nat) (stand:Option Probe),k<=k0->k0 - k < f->stand.getD (t.probeStart (tupleKeyHash knd kx))=seqP t.mask (bits (tupleKeyHash knd kx)) k->(∀ (m:Nat) (e:Nat×(Int×Value)),m < k->e∈L->e.1=sl t.mask (bits (tupleKeyHash knd kx)) m->¬ KeyIs G knd s.heap kx e.2) ->
   wpAny (model prog w) A (setSearchFrom a (.ref xb) (tupleKeyHash knd kx) true f stand) Q E s
 | 0,k,stand,_,hf,_,_=>absurd hf (by omega)
 | f + 1,k,stand,hk,hf,hs,hn=>by
  have gw:t.gaveWay=false:=by
   unfold SetTable.gaveWay
   rw [T.odd]
   rfl
  unfold setSearchFrom
  refine wpAny_bind (wpAny_setState_of ho hd T.fits ?_)
  dsimp only
  rw [gw,if_neg Bool.false_ne_true]
  have hmet:=T.met (ha:=haL L) (h:=tupleKeyHash knd kx) hk h0 fr tk
  generalize hp:t.probe _ (tupleKeyHash knd kx) (stand.getD (t.probeStart (tupleKeyHash knd kx)))=pr
  have hp:t.probe (haL L) (tupleKeyHash knd kx) (stand.getD (t.probeStart (tupleKeyHash knd kx)))=pr:=hp
  rw [hs] at hp
  rcases hmet with ⟨e1,ov⟩ | ⟨m,i,e,h1,h2,h3,h4,h5,h6,ov⟩
  ·rw [hp] at e1
   subst e1
   dsimp only
   refine wpAny_pure (hN fun e he ke=>?_)
   have eh:e.2.1=tupleKeyHash knd kx:=let ⟨_,_,_,q,_⟩:=ke; q
   obtain ⟨k1,_,r2,r3⟩:=T.reach e he
   rw [eh] at r2 r3
   have l1:k1 < k0:=by
    rcases Nat.lt_trichotomy k1 k0 with z | z | z
    ·exact z
    ·rw [<- z,r2] at fr
     exact absurd (List.mem_map.mpr ⟨e,he,rfl⟩) fr
    ·exact absurd (r3 k0 z) fr
   by_cases z:k1 < k
   ·exact hn k1 e z he r2.symm ke
   ·obtain ⟨i,q1,q2⟩:=ov k1 (by omega) l1
    rw [r2] at q1
    obtain ⟨j,hj,q⟩:=List.getElem_of_mem he
    have hj':L[j]?=some e:=by rw [List.getElem?_eq_getElem hj,q]
    rw [T.live hj'] at q1
    cases q1
    rw [haL_at hj',eh,beq_self_eq_true] at q2
    cases q2
  ·rw [hp] at h6
   subst h6
   dsimp only
   have pre:∀ {X:Sem SetFound},wpAny (model prog w) A X Q E s->wpAny (model prog w) A (if (!t.led)=true then (do
     let b <- searchCouldBeSeen (Value.ref xb) (List.map (fun x=>x.snd) (Array.filter (fun x=>x.fst == tupleKeyHash knd kx) (List.map (fun x=>x.snd) L).toArray).toList)
     if b=true then (do unsupported "set:the-search-would-show-the-table"; X) else X) else X) Q E s:=fun {X} hX=>by
    split
    ·refine wpAny_bind (unseen hx (fun y hy=>?_) ?_)
     ·obtain ⟨z,hz,rfl⟩:=List.mem_map.mp hy
      have hz:=Array.mem_toList_iff.mp hz
      have hz:=(Array.mem_filter.mp hz).1
      rw [List.mem_toArray] at hz
      obtain ⟨e',he',rfl⟩:=List.mem_map.mp hz
      obtain ⟨ks,b,q1,q2,_⟩:=el e' he'
      exact ⟨ks,b,q1,q2⟩
     ·rw [if_neg Bool.false_ne_true]
      exact hX
    ·exact hX
   refine pre ?_
   have he:e∈L:=List.mem_of_getElem? h3
   obtain ⟨ky,yb,y1,y2,y3,y4⟩:=el e he
   have ei:(L.map (·.2)).toArray[i]?=some (e.2.1,Value.ref yb):=by
    rw [List.getElem?_toArray,List.getElem?_map,h3,<- y1]
    rfl
   rw [ei]
   dsimp only
   refine wpAny_bind (wpAny_holding (wpAny_eqBool_tuple hu y2 hx ?_))
   refine wpAny_bind (wpAny_setState_of ho hd T.fits ?_)
   dsimp only
   by_cases eq:ky=kx
   ·rw [decide_eq_true eq,if_pos (show (true && true)=true from rfl)]
    exact wpAny_pure (hF ⟨e,he,yb,y1,eq ▸ y2,eq ▸ y3,eq ▸ y4⟩)
   ·rw [decide_eq_false eq,if_neg (by decide)]
    rw [show t.sameMemory t.moves t.mask=some true from by unfold sameMemory; rw [beq_self_eq_true,if_pos rfl]]
    dsimp only
    rw [if_pos rfl,<- h4,T.live h3]
    dsimp only
    rw [ei]
    dsimp only
    refine wpAny_bind (wpAny_isSame_ref_self ?_)
    rw [if_pos rfl]
    refine wpAny_bind (wpAny_pure ?_)
    dsimp only
    rw [if_neg Bool.false_ne_true]
    refine search_to ho hd T el hx hu h0 fr tk hF hN f (m + 1) (some _) (by omega) (by omega) rfl fun m' e' hm' he' q ke=>?_
    have eh:e'.2.1=tupleKeyHash knd kx:=let ⟨_,_,_,q,_⟩:=ke; q
    obtain ⟨j,hj,qj⟩:=List.getElem_of_mem he'
    have hj':L[j]?=some e':=by rw [List.getElem?_eq_getElem hj,qj]
    by_cases z1:m' < k
    ·exact hn m' e' z1 he' q ke
    by_cases z2:m' < m
    ·obtain ⟨i',q1,q2⟩:=ov m' (by omega) z2
     rw [<- q,T.live hj'] at q1
     cases q1
     rw [haL_at hj',eh,beq_self_eq_true] at q2
     cases q2
    ·have:m'=m:=by omega
     subst this
     have:=T.live hj'
     rw [q,<- h4,T.live h3] at this
     cases this
     rw [h3] at hj'
     cases hj'
     exact eq (KeyIs.inj ⟨yb,y1,y2,y3,y4⟩ ke)
end
section
variable {prog:Program} {w:World} {K:Type} [DecidableEq K] {knd:KeyKind prog w K} {G:List K->Addr->Prop} {A:Around} {E:Value->Shared->Prop} {s:Shared}
inductive KeysAre (G:List K->Addr->Prop) (knd:KeyKind prog w K) (h:Heap):List (Int×Value)->List (List K)->Prop
 | nil:KeysAre G knd h [] []
 | cons {e:Int×Value} {ks:List K} {es:List (Int×Value)} {kss:List (List K)}:KeyIs G knd h ks e->KeysAre G knd h es kss->KeysAre G knd h (e::es) (ks::kss)
theorem KeysAre.len {h:Heap} {es:List (Int×Value)} {kss:List (List K)} (x:KeysAre G knd h es kss):es.length=kss.length:=by
 induction x with
 | nil=>rfl
 | cons _ _ ih=>rw [List.length_cons,List.length_cons,ih]
theorem KeysAre.at_ {h:Heap} {es:List (Int×Value)} {kss:List (List K)} (x:KeysAre G knd h es kss):∀ e∈es,∃ ks∈kss,KeyIs G knd h ks e:=by
 induction x with
 | nil=>exact fun e he=>(List.not_mem_nil he).elim
 | cons a _ ih =>
  intro e he
  rcases List.mem_cons.mp he with rfl | he
  ·exact ⟨_,List.mem_cons_self,a⟩
  ·obtain ⟨ks,h1,h2⟩:=ih e he
   exact ⟨ks,List.mem_cons_of_mem _ h1,h2⟩
theorem KeysAre.of {h:Heap} {es:List (Int×Value)} {kss:List (List K)} (x:KeysAre G knd h es kss):∀ ks∈kss,∃ e∈es,KeyIs G knd h ks e:=by
 induction x with
 | nil=>exact fun e he=>(List.not_mem_nil he).elim
 | cons a _ ih =>
  intro e he
  rcases List.mem_cons.mp he with rfl | he
  ·exact ⟨_,List.mem_cons_self,a⟩
  ·obtain ⟨ks,h1,h2⟩:=ih e he
   exact ⟨ks,List.mem_cons_of_mem _ h1,h2⟩
theorem KeysAre.perm {h:Heap} {es es':List (Int×Value)} (p:es.Perm es'):∀ {kss:List (List K)},KeysAre G knd h es kss->∃ kss',KeysAre G knd h es' kss'/\kss'.Perm kss:=by
 induction p with
 | nil=>exact fun x=>⟨_,x,.refl _⟩
 | cons e _ ih =>
  intro kss x
  cases x with
  | cons a b =>
   obtain ⟨k',h1,h2⟩:=ih b
   exact ⟨_,.cons a h1,h2.cons _⟩
 | swap e1 e2 l =>
  intro kss x
  cases x with
  | cons a b =>
   cases b with
   | cons b c=>exact ⟨_,.cons b (.cons a c),.swap _ _ _⟩
 | trans _ _ ih1 ih2 =>
  intro kss x
  obtain ⟨k1,h1,h2⟩:=ih1 x
  obtain ⟨k2,h3,h4⟩:=ih2 h1
  exact ⟨k2,h3,h4.trans h2⟩
theorem KeysAre.to {h h':Heap} (hk:∀ (ks:List K) (b:Addr),IsTupleKey knd h ks b->IsTupleKey knd h' ks b) {es:List (Int×Value)} {kss:List (List K)} (x:KeysAre G knd h es kss):KeysAre G knd h' es kss:=by
 induction x with
 | nil=>exact .nil
 | cons a _ ih=>exact .cons (let ⟨b,h1,h2,h3⟩:=a; ⟨b,h1,hk _ _ h2,h3⟩) ih
def tkey_keeps {h h':Heap} {ks:List K} {a d:Addr} {o:Obj} {es ep t} (x:IsTupleKey knd h ks a) (ho:h.get? d=some o) (hd:o.data=.set es ep t) (hs:Heap.SameBut d h h'):IsTupleKey knd h' ks a:=by
 obtain ⟨o',items,n,ho',hc,hd',hi⟩:=x
 have hne:a≠d:=by
  rintro rfl
  obtain rfl:o'=o:=Option.some.inj (ho'.symm.trans ho)
  rw [hd] at hd'; exact nomatch hd'
 exact ⟨o',items,n,(hs.2 a hne).trans ho',hc,hd',hi⟩
def maskOk (m:Nat):Prop:=m=7\/m=31\/m=127
def byText (w:World):Bool:=w.params.followText "set-order"
def SetAt (G:List K->Addr->Prop) (knd:KeyKind prog w K) (h:Heap) (a:Addr) (S:List (List K)):Prop :=
 ∃ (o:Obj) (ep:Nat) (t:SetTable) (L:TL) (kss:List (List K)),h.get? a=some o/\o.ExactSet/\o.data=.set (L.map (·.2)).toArray ep t/\TOk t L/\maskOk t.mask/\5 * L.length < 3 * t.mask/\KeysAre G knd h (L.map (·.2)) kss/\kss.Perm S/\S.Nodup/\t.led = !byText w/\t.plain=true
def set_put {o:Obj} {es:Array (Int×Value)} {ep:Nat} {t:SetTable} (hd:o.data=.set es ep t) (es':Array (Int×Value)) (t':SetTable):Obj.putSet es' t' o={ o with data:=.set es' (ep + 1) t' }:=by
 obtain ⟨c,d,dt,sl⟩:=o; cases dt <;> simp at hd; obtain ⟨rfl,rfl,rfl⟩:=hd; rfl
theorem relay_to {a:Addr} {o:Obj} {ep:Nat} {t:SetTable} {L:TL} {n mask:Nat} {Q:Unit->Shared->Prop} (ho:s.heap.get? a=some o) (hd:o.data=.set (L.map (·.2)).toArray ep t) (T:TOk t L) (hm:sizeAbove n - 1=mask) (hz:sizeAbove n<=sizeLine) (hf:full (mask + 1)=true) (od:mask % 2=1) (hl:L.length<=mask)
  (h:∀ (t':SetTable) (L':TL),TOk t' L'->t'.mask=mask->t'.led=t.led->t'.plain=t.plain->(L'.map (·.2)).Perm (L.map (·.2))->Q () { s with heap:=s.heap.update a (Obj.putSet (L'.map (·.2)).toArray t') }) :
  wpAny (model prog w) A (setRelay a n) Q E s:=by
 unfold setRelay
 refine wpAny_bind (wpAny_setState_of ho hd T.fits ?_)
 dsimp only
 rw [if_neg (Nat.not_lt.mpr hz)]
 obtain ⟨t',order,L',e1,e2,T',pm,em,el,ep'⟩:=laid_ok (finger:=t.finger) (moves:=t.movedTo mask) (led:=t.led) (plain:=t.plain) hf od (es:=L.map (·.2)) (by rw [List.length_map]; exact hl)
 have er:t.relaid ((L.map (·.2)).toArray.map (·.1)) n=some (t',order):=by
  unfold relaid
  rw [hm]
  exact e1
 rw [er]
 show wpAny _ _ ((do
  if (order.filterMap ((L.map (·.2)).toArray[·]?)).size != (L.map (·.2)).toArray.size then unsupported "internal:set-table-lost-an-element"
  pure (order.filterMap ((L.map (·.2)).toArray[·]?),t'):Sem (Array (Int×Value)×SetTable)) >>= _) _ _ s
 rw [e2]
 have sz:((L'.map (·.2)).toArray.size != (L.map (·.2)).toArray.size)=false:=by
  rw [List.size_toArray,List.size_toArray,pm.length_eq,bne_self_eq_false]
 rw [sz,if_neg Bool.false_ne_true]
 refine wpAny_bind (wpAny_pure ?_)
 dsimp only
 refine wpAny_storeSet_of ho hd (h t' L' T' em el ep' pm) ?_
 rw [List.size_toArray,pm.length_eq,List.length_map,sizeLine_eq]
 rw [sizeLine_eq] at hz
 omega
end
section
variable {prog:Program} {w:World} {K:Type} [DecidableEq K] {knd:KeyKind prog w K} {G:List K->Addr->Prop} {A:Around} {E:Value->Shared->Prop} {s:Shared}
theorem KeysAre.app {h:Heap}:∀ {l l':List (Int×Value)} {k k':List (List K)},KeysAre G knd h l k->KeysAre G knd h l' k'->KeysAre G knd h (l++l') (k++k')
 | _,_,_,_,.nil,b=>b
 | _,_,_,_,.cons a c,b=>.cons a (KeysAre.app c b)
theorem KeysAre.split {h:Heap}:∀ (p:Nat) {l:List (Int×Value)} {k:List (List K)},KeysAre G knd h l k->KeysAre G knd h (l.take p) (k.take p)/\KeysAre G knd h (l.drop p) (k.drop p)
 | 0,_,_,x=>⟨.nil,x⟩
 | _ + 1,_,_,.nil=>⟨.nil,.nil⟩
 | p + 1,_,_,.cons a c=>⟨.cons a (KeysAre.split p c).1,(KeysAre.split p c).2⟩
def KeysAre.ins {h:Heap} {L:TL} {kss:List (List K)} (x:KeysAre G knd h (L.map (·.2)) kss) {p j:Nat} {e:Int×Value} {ks:List K} (q:KeyIs G knd h ks e):∃ kss',KeysAre G knd h ((insL L p (j,e)).map (·.2)) kss'/\kss'.Perm (ks::kss):=by
 obtain ⟨h1,h2⟩:=x.split p
 refine ⟨kss.take p++ks::kss.drop p,?_,?_⟩
 ·unfold insL
  rw [List.map_append,List.map_cons,List.map_take,List.map_drop]
  exact h1.app (.cons q h2)
 ·refine List.perm_middle.trans ?_
  rw [List.take_append_drop]
theorem mask_ful {m:Nat} (h:maskOk m):full (m + 1)=true/\m % 2=1/\m<=127:=by
 rcases h with rfl | rfl | rfl
 ·exact ⟨full8,rfl,by omega⟩
 ·exact ⟨full32,rfl,by omega⟩
 ·exact ⟨full128,rfl,by omega⟩
def addS (S:List (List K)) (kx:List K):List (List K):=if kx∈S then S else S++[kx]
def addS_nd {S:List (List K)} {kx:List K} (nd:S.Nodup):(addS S kx).Nodup:=by
 unfold addS
 split
 ·exact nd
 ·exact List.nodup_append.mpr ⟨nd,List.nodup_cons.mpr ⟨List.not_mem_nil,List.nodup_nil⟩,fun a ha b hb q=>by
   rw [List.mem_singleton.mp hb] at q
   exact absurd (q ▸ ha) ‹_›⟩
def upd_get {h:Heap} {a:Addr} {o:Obj} {es:Array (Int×Value)} {ep:Nat} {t:SetTable} (ho:h.get? a=some o) (hd:o.data=.set es ep t) (es':Array (Int×Value)) (t':SetTable):(h.update a (Obj.putSet es' t')).get? a=some { o with data:=.set es' (ep + 1) t' }:=by
 have:=Heap.get?_update_self (Obj.putSet es' t') ho (by rw [set_put hd es' t']; rfl)
 rw [set_put hd es' t'] at this
 exact this
theorem add_tuple {a xb:Addr} {S:List (List K)} {kx:List K} {Q:Bool->Shared->Prop} (hbv:∀ (k:K) (v:Value) (n:Nat),knd.is k v=true->hashByValue n v=pure true) (hS:SetAt G knd s.heap a S) (hx:IsTupleKey knd s.heap kx xb) (hg:G kx xb) (hu:A.units < cLine) (hl:S.length + 1 < 77)
  (h:∀ h',Heap.SameBut a s.heap h'->SetAt G knd h' a (addS S kx)->Q (decide (kx∉S)) { s with heap:=h' }) :
  wpAny (model prog w) A (setAddHashed a (.ref xb) (tupleKeyHash knd kx)) Q E s:=by
 obtain ⟨o,ep,t,L,kss,ho,hex,hd,T,mo,nf,ka,pm,nd,ld,pl⟩:=hS
 have hlen:L.length=S.length:=by rw [<- pm.length_eq,<- ka.len,List.length_map]
 obtain ⟨mf,md,ml⟩:=mask_ful mo
 obtain ⟨k0,h0,fr,tk⟩:=T.free (bits (tupleKeyHash knd kx)) (bits_lt _)
 have el:∀ e∈L,∃ ks,KeyIs G knd s.heap ks e.2:=fun e he=>by
  obtain ⟨ks,_,q⟩:=ka.at_ e.2 (List.mem_map.mpr ⟨e,he,rfl⟩)
  exact ⟨ks,q⟩
 have isin:(∃ e∈L,KeyIs G knd s.heap kx e.2)↔kx∈S:=by
  constructor
  ·rintro ⟨e,he,q⟩
   obtain ⟨ks,h1,h2⟩:=ka.at_ e.2 (List.mem_map.mpr ⟨e,he,rfl⟩)
   rw [q.inj h2]
   exact pm.mem_iff.mp h1
  ·intro hk
   obtain ⟨e,he,q⟩:=ka.of kx (pm.mem_iff.mpr hk)
   obtain ⟨e',he',rfl⟩:=List.mem_map.mp he
   exact ⟨e',he',q⟩
 unfold setAddHashed setAddHashedIn
 refine wpAny_holding (wpAny_bind (wpAny_setState_of ho hd T.fits ?_))
 dsimp only
 rw [show byScan (Value.ref xb) (L.map (·.2)).toArray=false from rfl,if_neg Bool.false_ne_true]
 unfold setSearch
 refine wpAny_bind (search_to ho hd T el hx hu h0 fr tk (fun fo=>?_) (fun nf'=>?_) 100000 0 none (Nat.zero_le _) (by omega) rfl fun m e hm=>absurd hm (by omega))
 ·have hk:=isin.mp fo
  dsimp only
  refine wpAny_pure ?_
  have:=h s.heap (Heap.SameBut.refl a s.heap) ⟨o,ep,t,L,kss,ho,hex,hd,T,mo,nf,ka,by unfold addS; rw [if_pos hk]; exact pm,by unfold addS; rw [if_pos hk]; exact nd,ld,pl⟩
  rw [decide_eq_false (fun z=>z hk)] at this
  have e:s={ s with heap:=s.heap }:=by cases s; rfl
  rw [e]
  exact this
 ·have hk:kx∉S:=fun z=>by
   obtain ⟨e,he,q⟩:=isin.mpr z
   exact nf' e he q
  dsimp only
  refine wpAny_bind (wpAny_setState_of ho hd T.fits ?_)
  dsimp only
  generalize ej:sl t.mask (bits (tupleKeyHash knd kx)) k0=j
  subst ej
  have rest:∀ t1:SetTable,t1.mask=t.mask->t1.place=(t.put (sl t.mask (bits (tupleKeyHash knd kx)) k0)).1.place->t1.dummies=(t.put (sl t.mask (bits (tupleKeyHash knd kx)) k0)).1.dummies->t1.led=t.led->t1.plain=t.plain ->
    wpAny (model prog w) A (do
     storeSet a (insertAt (L.map (·.2)).toArray (t.put (sl t.mask (bits (tupleKeyHash knd kx)) k0)).2 (tupleKeyHash knd kx,Value.ref xb)) t1
     if (!false && t1.tooFull)=true then do
       setRelay a (grown ((L.map (·.2)).toArray.size + 1))
       pure true
      else pure true) Q E s:=fun t1 em ep' ed el1 pl1=>by
   have ro:L.length + 1<=t.mask:=by rcases mo with z | z | z <;> omega
   obtain ⟨p,e1,e2,T1⟩:=T.put (x:=Value.ref xb) h0 fr tk ro em ep' ed
   rw [e1,e2]
   generalize eL:insL L p (sl t.mask (bits (tupleKeyHash knd kx)) k0,(tupleKeyHash knd kx,Value.ref xb))=L1 at *
   have len1:L1.length=L.length + 1:=by rw [<- eL,insL_perm.length_eq,List.length_cons]
   have kp:∀ h',Heap.SameBut a s.heap h'->∀ (ks:List K) (b:Addr),IsTupleKey knd s.heap ks b->IsTupleKey knd h' ks b:=fun h' sb ks b x=>tkey_keeps x ho hd sb
   obtain ⟨kss1,ka1,pm1⟩:=ka.ins (p:=p) (j:=sl t.mask (bits (tupleKeyHash knd kx)) k0) (e:=(tupleKeyHash knd kx,Value.ref xb)) (ks:=kx) ⟨xb,rfl,hx,rfl,hg⟩
   rw [eL] at ka1
   have pmS:kss1.Perm (addS S kx):=by
    unfold addS
    rw [if_neg hk]
    exact pm1.trans ((pm.cons _).trans (List.perm_append_singleton _ _).symm)
   refine wpAny_bind (wpAny_storeSet_of ho hd ?_ (by rw [List.size_toArray,List.length_map,len1,sizeLine_eq]; omega))
   have sb1:=Heap.SameBut.update s.heap a (Obj.putSet (L1.map (·.2)).toArray t1)
   have ho1:=upd_get ho hd (L1.map (·.2)).toArray t1
   generalize s.heap.update a (Obj.putSet (L1.map (·.2)).toArray t1)=g1 at *
   have tf:t1.tooFull=decide ((L.length + 1) * 5≥t.mask * 3):=by
    unfold tooFull fill
    rw [T1.place,T1.dum,List.size_toArray,List.length_map,len1,em]
    rfl
   have qq:decide (kx∉S)=true:=decide_eq_true hk
   split
   ·rename_i hfull
    have hge:(L.length + 1) * 5≥t.mask * 3:=by
     rw [tf] at hfull
     simpa using hfull
    have two:(L.length + 1=5/\t.mask=7)\/(L.length + 1=19/\t.mask=31):=by
     rcases mo with z | z | z <;> omega
    have rel:∃ m,sizeAbove (grown (L.length + 1)) - 1=m/\sizeAbove (grown (L.length + 1))<=sizeLine/\maskOk m/\5 * (L.length + 1) < 3 * m:=by
     rcases two with ⟨z,_⟩ | ⟨z,_⟩
     ·rw [z]
      exact ⟨31,by decide +kernel,by decide +kernel,.inr (.inl rfl),by omega⟩
     ·rw [z]
      exact ⟨127,by decide +kernel,by decide +kernel,.inr (.inr rfl),by omega⟩
    obtain ⟨m,r1,r2,r3,r4⟩:=rel
    obtain ⟨f1,f2,f3⟩:=mask_ful r3
    rw [List.size_toArray,List.length_map]
    refine wpAny_bind (relay_to (s:={ s with heap:=g1 }) (o:={ o with data:=.set (L1.map (·.2)).toArray (ep + 1) t1 }) ho1 rfl T1 r1 r2 f1 f2 (by omega) fun t' L' T' em' el' epl pm'=>wpAny_pure ?_)
    have sb2:Heap.SameBut a g1 (g1.update a (Obj.putSet (L'.map (·.2)).toArray t')):=Heap.SameBut.update g1 a _
    have ho2:=upd_get (o:={ o with data:=.set (L1.map (·.2)).toArray (ep + 1) t1 }) ho1 rfl (L'.map (·.2)).toArray t'
    have sb:=sb1.trans sb2
    obtain ⟨kss2,ka2,pm2⟩:=KeysAre.perm pm'.symm ka1
    have:=h _ sb ⟨_,_,t',L',kss2,ho2,hex,rfl,T',by rw [em']; exact r3,by rw [<- List.length_map (f:=(·.2)) (as:=L'),pm'.length_eq,List.length_map,len1,em']; exact r4,ka2.to (kp _ sb),pm2.trans pmS,addS_nd nd,by rw [el',el1]; exact ld,by rw [epl,pl1]; exact pl⟩
    rw [qq] at this
    exact this
   ·rename_i hfull
    refine wpAny_pure ?_
    have:=h _ sb1 ⟨_,_,t1,L1,kss1,ho1,hex,rfl,T1,by rw [em]; exact mo,by
     rw [tf] at hfull
     rw [len1,em]
     have:¬ ((L.length + 1) * 5≥t.mask * 3):=by simpa using hfull
     omega,ka1.to (kp _ sb1),pmS,addS_nd nd,by rw [el1]; exact ld,by rw [pl1]; exact pl⟩
    rw [qq] at this
    exact this
  split
  ·exact wpAny_bind (hashBy_tuple hbv hx (rest _ rfl rfl rfl rfl rfl))
  ·exact wpAny_bind (wpAny_pure (rest _ rfl rfl rfl rfl rfl))
end
end L2
namespace L2
open PySem PySem.SetTable PyProof.Rows
section
variable {prog:Program} {w:World} {K:Type} [DecidableEq K] {knd:KeyKind prog w K} {G:List K->Addr->Prop} {A:Around} {s:Shared}
def foldS (val:Nat->List K):Nat->List (List K)
 | 0=>[]
 | i + 1=>addS (foldS val i) (val i)
def addS_len (S:List (List K)) (k:List K):S.length<=(addS S k).length:=by
 unfold addS
 split
 ·exact Nat.le_refl _
 ·rw [List.length_append]; exact Nat.le_add_right _ _
theorem foldS_len (val:Nat->List K) (i:Nat):∀ d,(foldS val i).length<=(foldS val (i + d)).length
 | 0=>Nat.le_refl _
 | d + 1=>Nat.le_trans (foldS_len val i d) (addS_len _ _)
def SetAt.to {h h':Heap} {a:Addr} {S:List (List K)} (x:SetAt G knd h a S) (ha:∀ o,h.get? a=some o->h'.get? a=some o) (hk:∀ (ks:List K) (b:Addr),IsTupleKey knd h ks b->IsTupleKey knd h' ks b):SetAt G knd h' a S:=by
 obtain ⟨o,ep,t,L,kss,ho,hex,hd,T,mo,nf,ka,pm,nd,lp⟩:=x
 exact ⟨o,ep,t,L,kss,ha o ho,hex,hd,T,mo,nf,ka.to hk,pm,nd,lp⟩
def tkey_to {h h':Heap} {ks:List K} {b:Addr} (x:IsTupleKey knd h ks b) (hb:∀ o,h.get? b=some o->h'.get? b=some o):IsTupleKey knd h' ks b:=by
 obtain ⟨o,items,n,ho,q⟩:=x
 exact ⟨o,items,n,hb o ho,q⟩
def tkey_ne {h:Heap} {ks:List K} {b I l:Addr} {i:Nat} (x:IsTupleKey knd h ks b) (st:h.IsListIter I l i):b≠I:=by
 rintro rfl
 obtain ⟨o,items,n,ho,hc,_⟩:=x
 obtain ⟨o',ho',hc',_⟩:=st
 rw [ho] at ho'
 cases ho'
 rw [hc] at hc'
 injection hc' with q
 exact absurd q (by decide)
theorem set_loopT (hbv:∀ (k:K) (v:Value) (n:Nat),knd.is k v=true->hashByValue n v=pure true) {I l S:Addr} {items:Array Value} {val:Nat->List K} {R:Result->Shared->Prop} (hh:A.in1.handled=none) (hne:l≠I) (hSI:S≠I) (hSl:S≠l) (hu:A.in1.units < cLine) (hb:(foldS val items.size).length < 76) :
  ∀ (k i:Nat) (s:Shared),items.size - i=k->i<=items.size->(s.heap.IsListIter I l i/\s.heap.IsList l items)->SetAt G knd s.heap S (foldS val i)->(∀ (j:Nat) (v:Value),items[j]?=some v->∃ b,v=.ref b/\IsTupleKey knd s.heap (val j) b/\G (val j) b) ->
   (∀ s',Moved [S,I] (fun g g'=>g'=g) s s'->SetAt G knd s'.heap S (foldS val items.size)->R (.ok (.ret .none)) s') ->
   codeAny (model prog w) A (.builtin "set.update.loop" ⟨[.ref S,.ref I],[]⟩) R s:=by
 have W:=(Walks.list (prog:=prog) (w:=w) hh I l hne items).toS
 intro k
 induction k with
 | zero =>
  intro i s hk hi st hS hv hR
  obtain rfl:i=items.size:=by omega
  refine codeAny_builtin F.entry_set_update_loop ?_
  rw [Around.under_plainId F.plain_set_update_loop]
  refine wpAny_bind (m:=pyNext (.ref I)) (W.done s _ _ st fun s' hm=>?_)
  refine wpAny_pure (hR s' ⟨fun b o hb e=>hm.heap b o (fun z=>hb (List.mem_cons_of_mem _ z)) e,hm.gens,hm.drawn,hm.os,hm.toks⟩ (hS.to (fun o e=>hm.heap S o (fun z=>hSI (List.mem_singleton.mp z)) e) fun ks b x=>tkey_to x fun o e=>hm.heap b o (fun z=>tkey_ne x st.1 (List.mem_singleton.mp z)) e))
 | succ k ih =>
  intro i s hk hi st hS hv hR
  have hlt:i < items.size:=by omega
  refine codeAny_builtin F.entry_set_update_loop ?_
  rw [Around.under_plainId F.plain_set_update_loop]
  refine wpAny_bind (m:=pyNext (.ref I)) (W.item i s _ _ hlt st fun v s' hP st' hm=>?_)
  obtain ⟨b,rfl,hx,hg⟩:=hv i v hP
  have kp:∀ (ks:List K) (b:Addr),IsTupleKey knd s.heap ks b->IsTupleKey knd s'.heap ks b:=fun ks b x=>tkey_to x fun o e=>hm.heap b o (fun z=>tkey_ne x st.1 (List.mem_singleton.mp z)) e
  have hS':=hS.to (fun o e=>hm.heap S o (fun z=>hSI (List.mem_singleton.mp z)) e) kp
  dsimp only
  refine wpAny_bind (wpAny_holding ?_)
  unfold setAdd
  refine wpAny_holding (wpAny_bind (wpAny_pyHash_tuple hu (kp _ _ hx) ?_))
  have hl:(foldS val i).length + 1 < 77:=by
   have:=foldS_len val i (items.size - i)
   rw [show i + (items.size - i)=items.size by omega] at this
   omega
  refine add_tuple hbv (s:={ s' with toks:=_ }) hS' (kp _ _ hx) hg hu hl fun h' sb hS2=>wpAny_pure ⟨plainId_quiet F.plain_set_update_loop _,?_⟩
  have kS:∀ b,b≠S->∀ o,s'.heap.get? b=some o->h'.get? b=some o:=fun b hb o e=>(sb.2 b hb).trans e
  obtain ⟨o1,ep1,t1,L1,kss1,ho1,_,hd1,_⟩:=id hS'
  have kp2:∀ (ks:List K) (b:Addr),IsTupleKey knd s'.heap ks b->IsTupleKey knd h' ks b:=fun ks b x=>tkey_keeps x ho1 hd1 sb
  refine ih (i + 1) _ (by omega) hlt (W.frame (i + 1) s' h' _ st' (Nat.le_add_right _ _) fun b hb o e=>kS b (fun z=>?_) o e) hS2 (fun j v hj=>?_) fun s'' hm' hS3=>hR s'' ⟨fun b o hb e=>hm'.heap b o hb (kS b (fun z=>hb (z ▸ List.mem_cons_self)) o (hm.heap b o (fun z=>hb (List.mem_cons_of_mem _ z)) e)),hm'.gens.trans hm.gens,hm'.drawn.trans hm.drawn,hm'.os.trans hm.os,Nat.le_trans hm.toks (Nat.le_trans (Nat.le_add_right _ _) hm'.toks)⟩ hS3
  ·rcases List.mem_cons.mp hb with q | q
   ·exact hSI (z ▸ q)
   ·exact hSl (z ▸ List.mem_singleton.mp q)
  ·obtain ⟨b',q1,q2,q3⟩:=hv j v hj
   exact ⟨b',q1,kp2 _ _ (kp _ _ q2),q3⟩
end
section
variable {prog:Program} {w:World} {K:Type} [DecidableEq K] {knd:KeyKind prog w K} {G:List K->Addr->Prop} {A:Around} {E:Value->Shared->Prop} {s:Shared}
abbrev newSet (led:Bool):Obj:={ cls:=.type "set",dict:=none,data:=.set #[] 0 (.fresh 0 0 led) }
def SetAt.new {h:Heap} {a:Addr} (e:h.get? a=some (newSet (!byText w))):SetAt G knd h a []:=by
 refine ⟨_,0,.fresh 0 0 (!byText w),[],[],e,⟨rfl,rfl,rfl⟩,rfl,⟨rfl,rfl,.nil,fun e he=>(List.not_mem_nil he).elim,full8,(show 7 % 2=1 from rfl),Nat.zero_le _,fun e he=>(List.not_mem_nil he).elim⟩,.inl rfl,(show 5 * 0 < 3 * 7 by decide),.nil,.nil,List.nodup_nil,rfl,rfl⟩
def new_set1 (x:Value) {Q1:Value->Shared->Prop} (k:Q1 (.ref s.heap.objs.size) { s with heap:=s.heap.push (newSet (!byText w)) }) :
  codeAny (model prog w) A (.call (.builtin "set.__new__") ⟨[.type "set",x],[]⟩) (wants Q1 E) s:=by
 refine codeAny_of_tree ?_
 show wpAny _ A.in1 (checkBuiltinCall "set.__new__" ⟨[.type "set",x],[]⟩ >>= fun _=>again (.builtin "set.__new__" ⟨[.type "set",x],[]⟩)) _ _ s
 refine wpAny_bind (wpAny_of_eq (F.newCall_set_1 x) (wpAny_pure ⟨plainId_quiet F.plain_set_new _,codeAny_builtin F.entry_set_new ?_⟩))
 rw [Around.under_plainId F.plain_set_new]
 unfold Builtin.«set.__new__»
 unfold Builtin.Frozenset.newClass
 have z:=sub_set_self
 obtain ⟨g1,g2,g3,g4,g5⟩:=s
 dsimp only
 wp_walk
 refine wpAny_askSetting (wpAny_pure ?_)
 dsimp only
 simp only [newObj]
 exact wpAny_bind (wpAny_alloc (wpAny_pure (wpAny_pure k)))
theorem call_setT (hbv:∀ (k:K) (v:Value) (n:Nat),knd.is k v=true->hashByValue n v=pure true) {l:Addr} {items:Array Value} {val:Nat->List K} {Q:Value->Shared->Prop} (hh:A.handled=none) (hu:A.in1.in1.in1.units < cLine) (hl:s.heap.IsList l items) (hv:∀ (j:Nat) (v:Value),items[j]?=some v->∃ b,v=.ref b/\IsTupleKey knd s.heap (val j) b/\G (val j) b) (hb:(foldS val items.size).length < 76)
  (h:∀ (h':Heap) (tk:Nat),SetAt G knd h' s.heap.objs.size (foldS val items.size)->(∀ b o,b < s.heap.objs.size->s.heap.get? b=some o->h'.get? b=some o)->Q (.ref s.heap.objs.size) { s with heap:=h',toks:=tk }) :
  wpAny (model prog w) A (call (.type "set") [.ref l]) Q E s:=by
 have cs:=F.called_set
 obtain ⟨c,tl,hmro⟩:=cs.mro
 have m1:=cs.made
 have m2:=cs.sub
 refine wpAny_call (codeAny_of_tree ?_)
 show wpAny _ _ (callAny (.type "set") _) _ _ _
 refine wpAny_pure ⟨Code.quiet_builtin _ (by decide +kernel),codeAny_builtin F.entry_type_call ?_⟩
 rw [Around.under_plain (weight_type_call_type "set" [.ref l] []) rfl]
 have n1:=cs.notType
 have n2:=cs.canCreate
 have n3:=F.typeCall_set_1 (.ref l)
 repeat (any_goals (first | assumption | wp_step))
 refine codeAny_mono (new_set1 (.ref l) (E:=E) (Q1:=fun x s1=>x=.ref s.heap.objs.size/\s1={ s with heap:=s.heap.push (newSet (!byText w)) }) ⟨rfl,rfl⟩) fun r s1 hr=>?_
 cases r with
 | error e=>exact hr
 | ok fl =>
  cases fl with
  | ret obj =>
   obtain ⟨rfl,rfl⟩:=hr
   have eS:(s.heap.push (newSet (!byText w))).get? s.heap.objs.size=some (newSet (!byText w)):=Heap.get?_push_size _ rfl
   have tS:Shared.TypeIs { s with heap:=s.heap.push (newSet (!byText w)) } (.ref s.heap.objs.size) "set":=⟨_,eS,rfl⟩
   have i1:=cs.init.lookup
   have i2:=cs.init.bind (.ref s.heap.objs.size)
   repeat (any_goals (first | assumption | wp_step))
   refine codeAny_mono (codeAny_call_builtin (R:=wants (fun r s2=>r=.none/\∃ g tk,s2={ s with heap:=g,toks:=tk }/\SetAt G knd g s.heap.objs.size (foldS val items.size)/\∀ b o,b < s.heap.objs.size->s.heap.get? b=some o->g.get? b=some o) E) cs.init.plain F.entry_set_init (check_set_init_1 tS ?_)) fun r2 s2 hr2=>?_
   ·have l1:(s.heap.push (newSet (!byText w))).IsList l items:=hl.push _
    have lS:l < s.heap.objs.size:=let ⟨_,e,_⟩:=hl; Heap.lt_size e
    obtain ⟨ol,eol,cl,nl,dl⟩:=id l1
    obtain ⟨oc,od,oD,os⟩:=ol
    simp only at cl dl
    subst cl
    subst dl
    have z1:=F.sub_list_set
    have z2:=F.sub_list_frozenset
    have z3:(Value.type "list" == Value.type "dict")=false:=by decide
    unfold Builtin.«set.__init__» noKeywords Builtin.Frozenset.updateFrom
    generalize ePI:pyIter=PI
    wp_walk
    subst ePI
    refine wpAny_pyIter_list l1 (wpAny_bind (wpAny_runValue ?_))
    have zz:(s.heap.push (newSet (!byText w))).objs.size=s.heap.objs.size + 1:=Heap.size_push _ _
    refine set_loopT hbv (A:=A.in1.in1) (G:=G) (knd:=knd) (val:=val) (l:=l) (items:=items) (by simp [hh]) (by rw [zz]; exact Nat.ne_of_lt (Nat.lt_succ_of_lt lS)) (by rw [zz]; exact Nat.ne_of_lt (Nat.lt_succ_self _)) (Nat.ne_of_gt lS) hu hb (items.size - 0) 0 _ rfl (Nat.zero_le _) ⟨⟨_,Heap.get?_push_size _ rfl,rfl,rfl⟩,l1.push _⟩ (SetAt.new (Heap.get?_push_of_some _ eS)) (fun j v hj=>?_) fun s' hm hS'=>?_
    ·obtain ⟨b,q1,q2,q3⟩:=hv j v hj
     exact ⟨b,q1,tkey_to q2 fun o e=>Heap.get?_push_of_some _ (Heap.get?_push_of_some _ e),q3⟩
    ·obtain ⟨g,gs,dr,tk,so⟩:=s'
     obtain rfl:gs=s.gens:=hm.gens
     obtain rfl:dr=s.drawn:=hm.drawn
     obtain rfl:so=s.os:=hm.os
     refine wpAny_pure (wpAny_pure ⟨rfl,g,tk,rfl,hS',fun b o hb e=>hm.heap b o (fun z=>?_) (Heap.get?_push_of_some _ (Heap.get?_push_of_some _ e))⟩)
     rcases List.mem_cons.mp z with q | q
     ·exact Nat.ne_of_lt hb q
     ·rw [List.mem_singleton,zz] at q
      exact Nat.ne_of_lt (Nat.lt_succ_of_lt hb) q
   ·cases r2 with
    | error e=>exact hr2
    | ok f2 =>
     cases f2 with
     | ret r =>
      obtain ⟨rfl,g,tk,rfl,hS',hk'⟩:=hr2
      repeat (any_goals (first | assumption | wp_step))
      exact h _ _ hS' hk'
     | _=>exact hr2.elim
  | _=>exact hr.elim
end
end L2
namespace L2
open PySem PySem.SetTable PyProof.Rows PySem.W
def si_next:Slot "set_iterator" "__next__" "set_iterator.__next__":=.of (owner:="set_iterator") (n:="__next__") (by rw [typeLookup_type,builtinLookup_eq_fast]; kernel_rfl) (by decide +kernel) (by decide +kernel) (by decide +kernel) (by first | exact .inl (by decide +kernel) | exact .inr (by decide +kernel)) (by rw [isSubtype_type]; kernel_rfl)
def si_entry:entryFor table "set_iterator.__next__"=some Builtin.«set_iterator.__next__»:=entryFor_of_tree (by kernel_rfl)
def si_iter:entryFor table "set.__iter__"=some Builtin.«frozenset.__iter__»:=entryFor_alias (id':="frozenset.__iter__") (by kernel_rfl) rfl (by decide +kernel) (by kernel_rfl)
def si_owner:Manifest.owners.lookup (String.ofList ['r','o','t','a','r','e','t','i','_','t','e','s'].reverse)=some Manifest.sig_set_iterator:=by kernel_rfl
def si_args (a:Value):argsOk "set_iterator.__next__" ⟨[a],[]⟩:=by
 unfold argsOk; rw [signature?_of (id:="set_iterator.__next__") (n:=['_','_','t','x','e','n','_','_']) (o:=['r','o','t','a','r','e','t','i','_','t','e','s']) (by kernel_rfl) si_owner]; kernel_rfl
def si_self:Slot "set_iterator" "__iter__" "set_iterator.__iter__":=.of (owner:="set_iterator") (n:="__iter__") (by rw [typeLookup_type,builtinLookup_eq_fast]; kernel_rfl) (by decide +kernel) (by decide +kernel) (by decide +kernel) (by first | exact .inl (by decide +kernel) | exact .inr (by decide +kernel)) (by rw [isSubtype_type]; kernel_rfl)
def si_selfE:entryFor table "set_iterator.__iter__"=some Builtin.«dict_keyiterator.__iter__»:=entryFor_alias (id':="dict_keyiterator.__iter__") (by kernel_rfl) rfl (by decide +kernel) (by kernel_rfl)
def si_selfA (a:Value):argsOk "set_iterator.__iter__" ⟨[a],[]⟩:=by
 unfold argsOk; rw [signature?_of (id:="set_iterator.__iter__") (n:=['_','_','r','e','t','i','_','_']) (o:=['r','o','t','a','r','e','t','i','_','t','e','s']) (by kernel_rfl) si_owner]; kernel_rfl
section
variable {prog:Program} {w:World} {A:Around} {E:Value->Shared->Prop} {s:Shared}
def hint_set {r:Addr} {Q:Bool->Shared->Prop} (hT:s.TypeIs (.ref r) "set") (h:Q false s):wpAny (model prog w) A (Builtin.List.listLengthHint (.ref r)) Q E s:=by
 unfold Builtin.List.listLengthHint
 refine wpAny_bind (wpAny_specialOf hT PySem.F.slot_set_len.lookup ?_)
 generalize hx:("set.__len__":String)=x
 wp_delta
 rw [show splitId x=some ("set", "__len__") from by subst hx; decide +kernel]
 subst hx
 refine wpAny_bind (wpAny_isInstance (T:="set") (b:=true) hT sub_set_self ?_)
 refine wpAny_ite_split (fun z=>absurd z (by decide)) fun _=>wpAny_ite_split (fun _=>?_) fun z=>absurd (by decide +kernel) z
 exact wpAny_bind (wpAny_typeOf hT (wpAny_pure h))
def iter_set {a:Addr} {o:Obj} {es:Array (Int×Value)} {ep:Nat} {t:SetTable} {Q:Value->Shared->Prop} (ho:s.heap.get? a=some o) (hc:o.cls=.type "set") (hd:o.data=.set es ep t) (hf:t.fits es.size=true) (pl:t.plain=true)
  (h:Q (.ref s.heap.objs.size) { s with heap:=s.heap.push { cls:=.type "set_iterator",data:=.fields #[.int 0 0,.int 0 0,.ref a,.int es.size 0,.int ep 0] } }) :
  wpAny (model prog w) A (pyIter (.ref a)) Q E s:=by
 have hT:s.TypeIs (.ref a) "set":=⟨o,ho,hc⟩
 refine wpAny_pyIter_slot hT PySem.F.slot_set_iter (wpAny_call_entry PySem.F.slot_set_iter hT si_iter ?_ (PySem.F.args_set_iter_1 _))
 unfold Builtin.«frozenset.__iter__» Builtin.Frozenset.slot0 slotArgs
 simp only [List.isEmpty_nil,Bool.not_true,Bool.false_eq_true,if_false,bind_assoc,List.length_nil,bne_self_eq_false]
 unfold Builtin.Frozenset.addrOf Builtin.Frozenset.sizeOf
 refine wpAny_bind (wpAny_pure ?_)
 try dsimp only
 refine wpAny_bind (wpAny_pure (wpAny_bind (wpAny_bind (wpAny_setEntries_of ho hd hf (wpAny_pure ?_)))))
 unfold setDrawn setsByText
 simp only [bind_assoc]
 refine wpAny_bind (wpAny_setState_of ho hd hf ?_)
 dsimp only
 refine wpAny_bind (wpAny_askSetting (wpAny_bind (wpAny_pure (wpAny_bind (wpAny_pure ?_)))))
 rw [if_neg fun z=>?_]
 ·refine wpAny_bind (wpAny_pure (wpAny_bind (wpAny_setEpoch_of ho hd hf (wpAny_bind ?_))))
  exact wpAny_newObj_type (wpAny_pure ⟨_,rfl, "set_iterator",_,⟨_,Heap.get?_push_size _ rfl,rfl⟩,si_next.lookup,h⟩)
 ·have z2:(!t.plain && decide (es.size > 1))=true:=(Bool.and_eq_true_iff.mp z).2
  rw [pl] at z2
  cases z2
def walkS (w:World) (a:Addr) (es:Array (Int×Value)) (ep:Nat):Array (Int×Value):=if byText w then pickOrder (w.params.setOrder a ep) es else es
def SetIter (h:Heap) (I a:Addr) (es:Array (Int×Value)) (ep:Nat) (t:SetTable) (w:World) (i:Nat):Prop :=
 ∃ (o:Obj) (sl:Nat),h.get? I=some o/\o.cls=.type "set_iterator"/\o.data=.fields #[.int sl 0,.int i 0,.ref a,.int es.size 0,.int ep 0]/\(byText w=false->below t.place sl=i)
theorem below_next {xs:Array Nat} (ri:xs.toList.Pairwise (· < ·)) {i j:Nat} (h:xs[i]?=some j):below xs (j + 1)=i + 1:=by
 obtain ⟨hi,e⟩:=Array.getElem?_eq_some_iff.mp h
 obtain ⟨b1,b2,b3⟩:=below_is xs ri (j + 1)
 rcases Nat.lt_trichotomy (below xs (j + 1)) (i + 1) with z | z | z
 ·have:=b3 i hi (by omega)
  omega
 ·exact z
 ·have h1:=b2 (i + 1) (by omega) z
  have:=List.pairwise_iff_getElem.mp ri i (i + 1) (by simpa using hi) (by simp; omega) (by omega)
  simp at this
  omega
theorem set_next {a:Addr} {o:Obj} {es:Array (Int×Value)} {ep i sl:Nat} {t:SetTable} {L:TL} {Q:Option (Value×Nat)->Shared->Prop} (ho:s.heap.get? a=some o) (hd:o.data=.set es ep t) (hes:es=(L.map (·.2)).toArray) (T:TOk t L) (pl:t.plain=true) (ld:t.led = !byText w) (hb:byText w=false->below t.place sl=i)
  (h:∀ n,(byText w=false->i < es.size->below t.place n=i + 1)->Q (((walkS w a es ep)[i]?).map fun e=>(e.2,n)) s):wpAny (model prog w) A (setNext a sl i ep) Q E s:=by
 have hf:t.fits es.size=true:=by rw [hes]; exact T.fits
 unfold setNext setsByText
 refine wpAny_bind (wpAny_setState_of ho hd hf ?_)
 dsimp only
 refine wpAny_bind (wpAny_bind (wpAny_askSetting (wpAny_pure ?_)))
 have et:(model prog w).w.params.followText "set-order"=byText w:=rfl
 rw [et]
 unfold walkS at h
 cases hbt:byText w with
 | true =>
  rw [hbt] at h
  rw [if_pos rfl] at h ⊢
  rw [show (ep != ep)=false from bne_self_eq_false ep,if_neg Bool.false_ne_true]
  unfold setWalk setsByText
  refine wpAny_bind (wpAny_bind (wpAny_setState_of ho hd hf ?_))
  dsimp only
  refine wpAny_bind (wpAny_bind (wpAny_askSetting (wpAny_pure ?_)))
  rw [et,hbt,if_pos rfl]
  exact wpAny_bind (wpAny_askSetting (wpAny_pure (wpAny_pure (h sl fun z=>(by cases z)))))
 | false =>
  rw [hbt] at h ld
  rw [if_neg Bool.false_ne_true] at h ⊢
  rw [if_neg fun z=>?_]
  ·rw [hb hbt]
   refine wpAny_bind (show wpAny _ _ (if (!t.led && !es.isEmpty)=true then unsupported "set:maker-not-led" else pure ()) _ _ s from ?_)
   rw [ld,if_neg (by simp)]
   refine wpAny_pure (wpAny_pure ?_)
   by_cases hi:i < es.size
   ·have hz:t.place.size=es.size:=by rw [T.place,hes,List.size_toArray,List.size_toArray,List.length_map,List.length_map]
    have h1:es[i]?=some es[i]:=Array.getElem?_eq_getElem hi
    have h2:t.place[i]?=some (t.place[i]'(by omega)):=Array.getElem?_eq_getElem (by omega)
    have:=h (t.place[i]'(by omega) + 1) fun _ _=>below_next T.ri h2
    rw [h1] at this ⊢
    rw [h2]
    exact this
   ·have h1:es[i]?=none:=Array.getElem?_eq_none (by omega)
    have:=h 0 fun _ z=>absurd z hi
    rw [h1] at this ⊢
    exact this
  ·have z2:(!t.plain && decide (es.size > 1))=true:=z
   rw [pl] at z2
   cases z2
def next_set {I a:Addr} {o:Obj} {es:Array (Int×Value)} {ep i:Nat} {t:SetTable} {v:Value} {L:TL} {Q:Option Value->Shared->Prop} (hI:SetIter s.heap I a es ep t w i) (ho:s.heap.get? a=some o) (hd:o.data=.set es ep t) (hes:es=(L.map (·.2)).toArray) (T:TOk t L) (pl:t.plain=true) (ld:t.led = !byText w) (hi:i < es.size) (hv:((walkS w a es ep)[i]?).map (·.2)=some v)
  (h:∀ h',SetIter h' I a es ep t w (i + 1)->Heap.SameBut I s.heap h'->Q (some v) { s with heap:=h' }):wpAny (model prog w) A (pyNext (.ref I)) Q E s:=by
 obtain ⟨oI,sl,hoI,hcI,hdI,hb⟩:=hI
 have hT:s.TypeIs (.ref I) "set_iterator":=⟨oI,hoI,hcI⟩
 have hf:t.fits es.size=true:=by rw [hes]; exact T.fits
 unfold pyNext
 refine wpAny_bind (wpAny_attempt (wpAny_callSpecial?_slot (name:=Str.ofString "__next__") hT si_next (wpAny_call_entry si_next hT si_entry ?_ (si_args _))))
 unfold Builtin.«set_iterator.__next__» slotArgs
 simp only [List.isEmpty_nil,Bool.not_true,Bool.false_eq_true,if_false,List.length_nil,bne_self_eq_false]
 refine wpAny_bind (wpAny_pure ?_)
 dsimp only
 refine wpAny_bind (wpAny_fieldsOf hoI hdI ?_)
 dsimp only
 refine wpAny_bind (wpAny_setEntries_of ho hd hf ?_)
 rw [show ((es.size:Int) != (es.size:Int))=false from bne_self_eq_false _,if_neg Bool.false_ne_true]
 simp only [Int.toNat_natCast]
 refine wpAny_bind (set_next ho hd hes T pl ld hb fun n hn=>?_)
 obtain ⟨e,he⟩:∃ e,(walkS w a es ep)[i]?=some e:=by
  cases z:(walkS w a es ep)[i]? with
  | none=>rw [z] at hv; cases hv
  | some e=>exact ⟨e,rfl⟩
 rw [he] at hv ⊢
 cases hv
 dsimp only [Option.map]
 refine wpAny_bind (wpAny_setField hoI hdI (by simp) ?_)
 have g1:=Heap.get?_update_self (Obj.mapFields fun vs=>vs.setIfInBounds 0 (rawInt (n:Int))) hoI (Obj.isFreed_of_fields (Obj.data_mapFields hdI _))
 have d1:=Obj.data_mapFields hdI fun vs=>vs.setIfInBounds 0 (rawInt (n:Int))
 refine wpAny_bind (wpAny_setField (s:={ s with heap:=_ }) g1 d1 (by simp) (wpAny_pure ⟨_,rfl,wpAny_pure (h _ ?_ ?_)⟩))
 ·refine ⟨_,n,Heap.get?_update_self _ g1 (Obj.isFreed_of_fields (Obj.data_mapFields d1 _)),?_,?_,fun z=>hn z hi⟩
  ·rw [Obj.cls_mapFields,Obj.cls_mapFields]
   exact hcI
  ·rw [Obj.data_mapFields d1]
   simp [rawInt]
 ·exact (Heap.SameBut.update ..).trans (Heap.SameBut.update ..)
def end_set {I a:Addr} {o:Obj} {es:Array (Int×Value)} {ep i:Nat} {t:SetTable} {L:TL} {Q:Option Value->Shared->Prop} (hh:A.handled=none) (hI:SetIter s.heap I a es ep t w i) (ho:s.heap.get? a=some o) (hd:o.data=.set es ep t) (hes:es=(L.map (·.2)).toArray) (T:TOk t L) (pl:t.plain=true) (ld:t.led = !byText w) (hv:(walkS w a es ep)[i]?=none)
  (h:∀ h',Heap.ExtBut I s.heap h'->Q none { s with heap:=h' }):wpAny (model prog w) A (pyNext (.ref I)) Q E s:=by
 obtain ⟨oI,sl,hoI,hcI,hdI,hb⟩:=hI
 have hT:s.TypeIs (.ref I) "set_iterator":=⟨oI,hoI,hcI⟩
 have hf:t.fits es.size=true:=by rw [hes]; exact T.fits
 unfold pyNext
 refine wpAny_bind (wpAny_attempt (wpAny_callSpecial?_slot (name:=Str.ofString "__next__") hT si_next (wpAny_call_entry si_next hT si_entry ?_ (si_args _))))
 unfold Builtin.«set_iterator.__next__» slotArgs
 simp only [List.isEmpty_nil,Bool.not_true,Bool.false_eq_true,if_false,List.length_nil,bne_self_eq_false]
 refine wpAny_bind (wpAny_pure ?_)
 dsimp only
 refine wpAny_bind (wpAny_fieldsOf hoI hdI ?_)
 dsimp only
 refine wpAny_bind (wpAny_setEntries_of ho hd hf ?_)
 rw [show ((es.size:Int) != (es.size:Int))=false from bne_self_eq_false _,if_neg Bool.false_ne_true]
 simp only [Int.toNat_natCast]
 refine wpAny_bind (set_next ho hd hes T pl ld hb fun n hn=>?_)
 rw [hv]
 dsimp only [Option.map]
 refine wpAny_bind (wpAny_setField hoI hdI (by simp) ?_)
 refine wpAny_bind (m:=newExc _ _) ?_
 simp only [newExc,newTuple]
 refine wpAny_bind (wpAny_newObj_type ?_ (by size_fits))
 refine wpAny_bind (m:=firstArgMember _ _) (wpAny_of_eq (a:=Value.none) (by first | rfl | (simp only [firstArgMember]; rfl)) (wpAny_newObj_type ?_ (by size_fits)))
 simp only [raiseNew]
 refine wpAny_bind (wpAny_handled ?_)
 rw [show A.in1.handled=none from hh]
 refine wpAny_bind (wpAny_pure (wpAny_throw ?_))
 refine wpAny_bind (wpAny_isInstance (T:="StopIteration") (b:=true) ⟨_,Heap.get?_push_size _ rfl,rfl⟩ isSubtype_stop ?_)
 exact wpAny_pure (h _ (((Heap.SameBut.update ..).extBut.push _).push _))
theorem pick_perm {α:Type} (next:Nat->Nat):∀ (f k:Nat) (l:List α) (out:Array α),l.length=f->(pickOrder.go next f k l out).toList.Perm (out.toList++l)
 | 0,k,l,out,h=>by
  rw [List.length_eq_zero_iff.mp h,List.append_nil,pickOrder.go]
 | f + 1,k,l,out,h=>by
  have hlt:next k % l.length < l.length:=Nat.mod_lt _ (by omega)
  rw [pickOrder.go,List.getElem?_eq_getElem hlt]
  dsimp only
  refine (pick_perm next f (k + 1) _ _ (by rw [List.length_eraseIdx_of_lt hlt]; omega)).trans ?_
  rw [Array.toList_push,List.append_assoc]
  refine List.Perm.append_left _ ?_
  rw [List.eraseIdx_eq_take_drop_succ]
  have p:(l[next k % l.length]::(l.take (next k % l.length)++l.drop (next k % l.length + 1))).Perm (l.take (next k % l.length)++l[next k % l.length]::l.drop (next k % l.length + 1)):=List.perm_middle.symm
  rw [<- List.drop_eq_getElem_cons hlt,List.take_append_drop] at p
  exact p
def walk_perm {a:Addr} {es:Array (Int×Value)} {ep:Nat}:(walkS w a es ep).toList.Perm es.toList:=by
 unfold walkS
 split
 ·have:=pick_perm (w.params.setOrder a ep) es.size 0 es.toList #[] (by simp)
  unfold pickOrder
  simpa using this
 ·exact .refl _
theorem set_src {a:Addr} {o:Obj} {ep:Nat} {t:SetTable} {L:TL} (hc:o.cls=.type "set") (hd:o.data=.set (L.map (·.2)).toArray ep t) (T:TOk t L) (pl:t.plain=true) (ld:t.led = !byText w) :
  KdlSrc prog w "set" a a L.length (fun i v=>((walkS w a (L.map (·.2)).toArray ep)[i]?).map (·.2)=some v) (fun h=>h.get? a=some o) where
 type:=fun s h=>⟨o,h,hc⟩
 there:=fun h e=>⟨Heap.lt_size e,Heap.lt_size e⟩
 keep:=fun h h' e k=>k a (.inl rfl) o e
 notList:=by decide
 notTuple:=by decide
 hint:=fun A E s Q e h=>hint_set ⟨o,e,hc⟩ h
 iter:=fun A s hh e=>by
  have wl:(walkS w a (L.map (·.2)).toArray ep).size=L.length:=by
   have:=(walk_perm (w:=w) (a:=a) (es:=(L.map (·.2)).toArray) (ep:=ep)).length_eq
   simpa using this
  refine ⟨{ cls:=.type "set_iterator",data:=.fields #[.int 0 0,.int 0 0,.ref a,.int (L.map (·.2)).toArray.size 0,.int ep 0] },fun i h=>SetIter h s.heap.objs.size a (L.map (·.2)).toArray ep t w i/\h.get? a=some o,fun E Q hQ=>iter_set e hc hd T.fits pl hQ,?_,⟨⟨_,0,Heap.get?_push_size _ rfl,rfl,rfl,fun _=>?_⟩,Heap.get?_push_of_some _ e⟩⟩
  ·have sz:(L.map (·.2)).toArray.size=L.length:=by simp
   exact {
    sub:=fun b hb=>List.mem_cons.mpr (.inl (List.mem_singleton.mp hb))
    frame:=fun i h h' st hk=>⟨let ⟨o',sl,e1,q⟩:=st.1; ⟨o',sl,hk _ List.mem_cons_self o' e1,q⟩,hk a (List.mem_cons_of_mem _ List.mem_cons_self) o st.2⟩
    item:=fun i s' Q E hi st hQ=>by
     have hlt:i < (walkS w a (L.map (·.2)).toArray ep).size:=by omega
     have hv:((walkS w a (L.map (·.2)).toArray ep)[i]?).map (·.2)=some (walkS w a (L.map (·.2)).toArray ep)[i].2:=by rw [Array.getElem?_eq_getElem hlt]; rfl
     refine next_set st.1 st.2 hd rfl T pl ld (by omega) hv fun h' it' sb=>hQ _ h' s'.toks hv ⟨it',(sb.2 a (Nat.ne_of_lt (Heap.lt_size e))).trans st.2⟩ fun b o' hb e'=>(sb.2 b fun z=>hb (List.mem_singleton.mpr z)).trans e'
    done:=fun s' Q E st hQ=>end_set hh st.1 st.2 hd rfl T pl ld (Array.getElem?_eq_none (by omega)) fun h' eb=>hQ h' s'.toks fun b o' hb e'=>eb b o' (fun z=>hb (List.mem_singleton.mpr z)) e'
    self:=fun i s' Q E st hQ=>by
     obtain ⟨oI,sl,e1,e2,_⟩:=st.1
     have hT:s'.TypeIs (.ref s.heap.objs.size) "set_iterator":=⟨oI,e1,e2⟩
     refine wpAny_pyIter_slot hT si_self (wpAny_call_entry si_self hT si_selfE ?_ (si_selfA _))
     exact wpAny_pure ⟨_,rfl, "set_iterator",_,hT,si_next.lookup,hQ⟩ }
  ·obtain ⟨b1,b2,b3⟩:=below_is t.place T.ri 0
   by_cases z:below t.place 0=0
   ·exact z
   ·have:=b2 0 (by omega) (by omega)
    omega
end
section
variable {X:Cx}
def SetO (a:Addr) (L:TL) (ep:Nat) (t:SetTable):HO:=.ext fun h=>∃ o,h.get? a=some o/\o.ExactSet/\o.data=.set (L.map (·.2)).toArray ep t
abbrev fsW (ps:List (Addr×List Int)):List (List Int):=foldS (fun i=>(ps.getD i (0,[])).2) ps.length
def rSetT (X:Cx):List V->Hp->VK->Prop:=fun xs H Q=>∃ (l:Addr) (ps:List (Addr×List Int)),xs=[.ref l]/\SqL X.K H l (ps.map fun p=>V.ref p.1)/\(∀ p∈ps,SqT X.K H p.1 (p.2.map V.int))/\(fsW ps).length < 76 /\
 ∀ (a:Addr) (L:TL) (ep:Nat) (t:SetTable) (qs:List (Addr×List Int)),H a=none->TOk t L->t.plain=true->t.led=(!byText X.w)->L.map (·.2.2)=qs.map (fun q=>Value.ref q.1)->(qs.map (·.2)).Perm (fsW ps)->(fsW ps).Nodup->(∀ q∈qs,q∈ps)->Q (.ref a) (upd H a (SetO a L ep t))
theorem int_items {P:Program} {w:World}:∀ {zs:List Int} {its:List Value},Vals (zs.map V.int) its->ItemsAre (intKind P w) zs its
 | [],_,.nil=>.nil
 | z::zs,_,.cons a b=>.cons (by obtain ⟨t,rfl⟩:=a; exact intKind_is _ _ _ _) (int_items b)
theorem keys_laid {G:List Int->Addr->Prop} {h:Heap}:∀ {es:List (Int×Value)} {kss:List (List Int)},KeysAre G (intKind X.prog X.w) h es kss->∃ qs:List (Addr×List Int),es.map (·.2)=qs.map (fun q=>Value.ref q.1)/\qs.map (·.2)=kss/\∀ q∈qs,G q.2 q.1
 | _,_,.nil=>⟨[],rfl,rfl,fun _ h=>(List.not_mem_nil h).elim⟩
 | _,_,.cons (e:=e) (ks:=ks) a b=>by
  obtain ⟨qs,h1,h2,h3⟩:=keys_laid b
  obtain ⟨p,e1,_,_,g⟩:=a
  refine ⟨(p,ks)::qs,by rw [List.map_cons,List.map_cons,h1,e1],by rw [List.map_cons,h2],fun q hq=>?_⟩
  rcases List.mem_cons.mp hq with rfl | hq
  ·exact g
  ·exact h3 q hq
theorem call_setR (hc:X.calm=true) (hu:X.A.units + 200 < cLine):CallR X (.type "set") (rSetT X):=by
 intro pins s σ H xs us Q I r h
 obtain ⟨l,ps,rfl,hl,ht,hb,q⟩:=h
 obtain ⟨u,rfl,rx⟩:=vals1 r
 cases rx
 obtain ⟨its,rv,pl,_⟩:=I.list hl
 have len:its.length=ps.length:=by have:=Paired.length rv; simpa using this.symm
 refine call_setT (knd:=intKind X.prog X.w) (G:=fun ks b=>(b,ks)∈ps) (val:=fun i=>(ps.getD i (0,[])).2) (fun k v n hk=>?_) (I.ok.hd hc) ?_ pl.isList (fun j v hj=>?_) ?_ fun h' tk hS hk=>?_
 ·cases v with
  | int z t=>cases n <;> rfl
  | _=>simp [intKind,Value.isInt] at hk
 ·show X.A.units + 1 + 1 + 1 < cLine
  omega
 ·rw [List.getElem?_toArray] at hj
  obtain ⟨hj',rfl⟩:=List.getElem?_eq_some_iff.mp hj
  have hp:j < ps.length:=by omega
  have e1:ps.getD j (0,[])=ps[j]:=by rw [List.getD_eq_getElem?_getD,List.getElem?_eq_getElem hp]; rfl
  have rr:=Paired.at rv (i:=j) (by rw [List.length_map]; exact hp) hj'
  rw [List.getElem_map] at rr
  have hm:ps[j]∈ps:=List.getElem_mem hp
  obtain ⟨it2,rv2,⟨o,e,cl,m,dt⟩,_⟩:=I.tuple (ht _ hm)
  refine ⟨ps[j].1,?_,?_,?_⟩
  ·first | exact rr | exact rr.symm | exact Eq.symm rr
  ·rw [e1]
   exact ⟨o,it2.toArray,m,e,cl,dt,int_items rv2⟩
  ·rw [e1]
   exact hm
 ·rw [List.size_toArray,len]
  exact hb
 ·rw [show its.toArray.size=ps.length by rw [List.size_toArray,len]] at hS
  obtain ⟨o,ep,t,L,kss,ho,hex,hd,T,mo,nf,ka,pm,nd,ld,pp⟩:=hS
  obtain ⟨qs,h1,h2,h3⟩:=keys_laid ka
  refine ⟨.ref s.heap.objs.size,upd H s.heap.objs.size (SetO s.heap.objs.size L ep t),I.laid (fun b u e=>hk b u (Heap.lt_size e) e) (Nat.le_refl _) ⟨⟨o,ho,hex,hd⟩,⟨o,ho⟩,fun g1 g2 ⟨o',e1,e2⟩ k=>⟨o',k o' e1,e2⟩⟩,rfl,q _ L ep t qs (I.hok.fresh (Nat.le_refl _)) T pp ld (by rw [<- h1,List.map_map]; rfl) (by rw [h2]; exact pm) nd h3⟩
theorem lift_perm {α β:Type} {f:β->α} {l m:List α} (p:l.Perm m):∀ {qs:List β},m=qs.map f->∃ qs':List β,qs'.Perm qs/\l=qs'.map f:=by
 induction p with
 | nil=>exact fun {qs} e=>⟨qs,.refl _,e⟩
 | cons x _ ih =>
  intro qs e
  cases qs with
  | nil=>cases e
  | cons b r =>
   rw [List.map_cons] at e
   injection e with e1 e2
   obtain ⟨r',p1,p2⟩:=ih e2
   exact ⟨b::r',p1.cons _,by rw [List.map_cons,e1,p2]⟩
 | swap x y t =>
  intro qs e
  match qs,e with
  | [],e=>cases e
  | [b],e=>cases e
  | b::c::r,e =>
   rw [List.map_cons,List.map_cons] at e
   injection e with e1 e2
   injection e2 with e2 e3
   exact ⟨c::b::r,.swap _ _ _,by rw [List.map_cons,List.map_cons,e1,e2,e3]⟩
 | trans _ _ ih1 ih2 =>
  intro qs e
  obtain ⟨q2,p2,e2⟩:=ih2 e
  obtain ⟨q1,p1,e1⟩:=ih1 e2
  exact ⟨q1,p1.trans p2,e1⟩
theorem collect_set {pins:List (Addr×Obj)} {σ:St} {H:Hp} {s:Shared} {a:Addr} {L:TL} {ep:Nat} {t:SetTable} {qs:List (Addr×List Int)} (I:Inv X pins σ H s) (ha:H a=some (SetO a L ep t)) (T:TOk t L) (pp:t.plain=true) (ld:t.led=(!byText X.w)) (eq:L.map (·.2.2)=qs.map fun q=>Value.ref q.1) (hz:L.length < 64) :
  ∃ rs:List (Addr×List Int),rs.Perm qs/\∀ {A:Around} {R:List Value->Shared->Prop} {E:Value->Shared->Prop},A.handled=none->(∀ (h':Heap) (tk:Nat),(∀ b o,s.heap.get? b=some o->h'.get? b=some o)->R (rs.map fun q=>Value.ref q.1) { s with heap:=h',toks:=tk })->wpAny (model X.prog X.w) A (collect (.ref a)) R E s:=by
 obtain ⟨⟨o,ho,hex,hd⟩,_⟩:=I.hok a _ ha
 have wp:=walk_perm (w:=X.w) (a:=a) (es:=(L.map (·.2)).toArray) (ep:=ep)
 obtain ⟨rs,p1,e1⟩:=lift_perm (wp.map (·.2)) (qs:=qs) (f:=fun q=>Value.ref q.1) (by rw [<- eq]; simp)
 refine ⟨rs,p1,fun {A R E} hh hR=>?_⟩
 refine kdu_collect (set_src hex.1 hd T pp ld) hh ho (by rw [sizeLine_eq]; omega) fun h' tk acc hk hacc=>?_
 have:acc.toList=rs.map fun q=>Value.ref q.1:=by
  rw [<- e1]
  apply List.ext_getElem?
  intro j
  rw [Array.getElem?_toList,List.getElem?_map,Array.getElem?_toList]
  by_cases hj:j < acc.size
  ·have:=hacc.2 j acc[j] (Array.getElem?_eq_getElem hj)
   rw [Array.getElem?_eq_getElem hj]
   exact this.symm
  ·have ws:(walkS X.w a (L.map (·.2)).toArray ep).size=L.length:=by
    have:=wp.length_eq
    simpa using this
   rw [Array.getElem?_eq_none (by omega),Array.getElem?_eq_none (by rw [ws,<- hacc.1]; omega)]
   rfl
 rw [this]
 exact hR h' tk hk
end
end L2
namespace L2
open PySem PySem.W PyProof.Rows HT PySem.Calls
section
variable {X:Cx} {pins:List (Addr×Obj)} {σ:St} {H:Hp} {s:Shared} {E:Value->Shared->Prop} {A:Around}
theorem tupE_lt {b:Bool} {p q:Addr} {ns ms:List Int} {Q:Bool->Shared->Prop} (I:Inv X pins σ H s) (hu:A.units + 120 < cLine) (h1:SqT X.K H p (ns.map V.int)) (h2:SqT X.K H q (ms.map V.int)) (h:Q (HT.lexLt ns ms) s):wpAny (model X.prog X.w) A (oneLt' b (.ref p) (.ref q)) Q E s:=by
 obtain ⟨its,rv,⟨o,e,cl,m,dt⟩,_⟩:=I.tuple h1
 obtain ⟨its2,rv2,⟨o2,e2,cl2,m2,dt2⟩,_⟩:=I.tuple h2
 have i1:=ints_are rv
 have i2:=ints_are rv2
 have hz:∀ {A:Around} (j:Nat) (g1:j < its.length) (g2:j < its2.length),SeqAt.EqAt A s its[j] its2[j] (ns[j]? == ms[j]?)/\LtAt A s its[j] its2[j] (decide ((ns[j]?).getD 0 < (ms[j]?).getD 0)):=fun {A} j g1 g2=>ints_lt i1 i2 j g1 g2
 have el:lexN (fun j=>(ns[j]? == ms[j]?,decide ((ns[j]?).getD 0 < (ms[j]?).getD 0))) its.length its2.length=HT.lexLt ns ms:=by
  rw [(ints_at i1).1,(ints_at i2).1,lexN_ints]
 rw [oneLt'_eq]
 cases b with
 | true =>
  simp only [if_true]
  refine wpAny_bind (wpAny_cRoomFor (by omega) ?_)
  refine wpAny_bind (wpAny_callSpecialIfBound?_slot ⟨_,e,cl⟩ F.slot_tuple_lt (wpAny_call_entry F.slot_tuple_lt ⟨_,e,cl⟩ F.entry_tuple_lt (tupLt_tree (z:=fun j=>(ns[j]? == ms[j]?,decide ((ns[j]?).getD 0 < (ms[j]?).getD 0))) e dt e2 cl2 dt2 (fun j g1 g2=>hz j g1 g2) ⟨_,rfl,?_⟩) (F.args_tuple_lt_2 _ _)))
  rw [el]
  exact wpAny_truthy_bool h
 | false =>
  simp only [Bool.false_eq_true,if_false]
  refine wpAny_bind (wpAny_richCompare_same_room (op:=.Lt) ⟨_,e,cl⟩ ⟨_,e2,cl2⟩ F.slot_tuple_lt (wpAny_call_entry F.slot_tuple_lt ⟨_,e,cl⟩ F.entry_tuple_lt (tupLt_tree (z:=fun j=>(ns[j]? == ms[j]?,decide ((ns[j]?).getD 0 < (ms[j]?).getD 0))) e dt e2 cl2 dt2 (fun j g1 g2=>hz j g1 g2) ⟨_,rfl,(fun z=>nomatch z),?_⟩) (F.args_tuple_lt_2 _ _)) (by omega))
  rw [el]
  unfold truthOfDropped
  first | exact wpAny_truthy_bool h | exact wpAny_holding (wpAny_truthy_bool h)
end
section
variable {X:Cx} {pins:List (Addr×Obj)} {σ:St} {H:Hp} {s:Shared}
def kOf (L:List KIt):SortKind:=if (L.all fun q=>!q.2.2.isEmpty) then tuples' true else if (L.head?.any fun q=>!q.2.2.isEmpty) then general' else oneType'
theorem tupE_kind {L:List KIt} (I:Inv X pins σ H s) (hk:∀ q∈L,SqT X.K H q.2.1 (q.2.2.map V.int)) (h2:0 < L.length) {E:Value->Shared->Prop} {A:Around} {Q:SortKind->Shared->Prop} (h:Q (kOf L) s) :
  wpAny (model X.prog X.w) A (keyKind' (keyVals L).toArray) Q E s:=by
 by_cases ha:(L.all fun q=>!q.2.2.isEmpty)=true
 ·rw [kOf,if_pos ha] at h
  refine key_kind I (fun q hq=>⟨hk q hq,fun e=>?_⟩) h2 h
  have:=List.all_eq_true.mp ha q hq
  rw [e] at this
  exact absurd this (by decide)
 rw [kOf,if_neg ha] at h
 have ty:∀ v∈keyVals L,Looks (model X.prog X.w) s.heap (typeOf v) (.type "tuple"):=fun v hv=>by
  obtain ⟨q,hq,rfl⟩:=List.mem_map.mp hv
  obtain ⟨its,rv,⟨o,ho,hc,n,hd⟩,_⟩:=I.tuple (hk q hq)
  have:=(show Looks (model X.prog X.w) s.heap (typeOf (.ref q.2.1)) o.cls from (Looks.ld ho).andThen .now)
  rwa [hc] at this
 have firsts:∀ (L':List KIt),(∀ q∈L',q∈L)->∃ fs:List (Option Value),fs.map Option.isSome=L'.map (fun q=>!q.2.2.isEmpty)/\∀ {Q:List (Option Value)->Shared->Prop},Q fs s->wpAny (model X.prog X.w) A ((keyVals L').mapM firstOfTuple') Q E s:=by
  intro L'
  induction L' with
  | nil=>intro _; exact ⟨[],rfl,fun {Q} h=>by show wpAny _ _ (List.mapM _ []) _ _ _; rw [List.mapM_nil]; exact wpAny_pure h⟩
  | cons q r ih =>
   intro hm
   obtain ⟨fs,e1,go⟩:=ih fun x hx=>hm x (List.mem_cons_of_mem _ hx)
   obtain ⟨its,rv,⟨o,ho,hc,n,hd⟩,_⟩:=I.tuple (hk q (hm q List.mem_cons_self))
   have hl:its.length=q.2.2.length:=by have:=Paired.length rv; simpa using this.symm
   refine ⟨its.toArray[0]?::fs,?_,fun {Q} h=>?_⟩
   ·rw [List.map_cons,List.map_cons,e1]
    congr 1
    cases hq:q.2.2 with
    | nil =>
     rw [hq] at hl
     rw [List.length_eq_zero_iff.mp hl]
     rfl
    | cons z zs =>
     rw [hq] at hl
     match its,hl with
     | [],hl=>cases hl
     | _::_,_=>simp
   ·show wpAny _ _ (List.mapM _ (Value.ref q.2.1::keyVals r)) _ _ _
    rw [List.mapM_cons]
    refine wpAny_bind ?_
    rw [kas_first_eq]
    refine wpAny_bind (Looks.here (show Looks (model X.prog X.w) s.heap (typeOf (.ref q.2.1)) o.cls from (Looks.ld ho).andThen .now) ?_)
    rw [hc,if_neg (by first | decide | simp)]
    refine wpAny_bind (listItems_at ho hd (wpAny_pure ?_))
    exact wpAny_bind (go (Q:=fun bs s'=>wpAny (model X.prog X.w) A (pure (its.toArray[0]?::bs)) Q E s') (wpAny_pure h))
 obtain ⟨fs,e1,go⟩:=firsts L fun _ h=>h
 rw [kat_kind_eq,List.mapM_toArray,map_eq_pure_bind]
 refine wpAny_bind (wpAny_bind (go (wpAny_pure ?_)))
 have hna:¬ (fs.toArray.all fun x=>x.isSome)=true:=by
  intro z
  apply ha
  have:(fs.map Option.isSome).all id=true:=by
   rw [List.all_map]
   simpa using z
  rw [e1,List.all_map] at this
  exact this
 rw [if_neg hna]
 cases L with
 | nil=>exact absurd h2 (by simp)
 | cons q L =>
  cases fs with
  | nil=>cases e1
  | cons f fs =>
   rw [List.map_cons,List.map_cons] at e1
   injection e1 with e1 e2
   have h0:((f::fs).toArray[0]?.bind id)=f:=by simp
   rw [h0]
   have hh:((q::L).head?.any fun q=>!q.2.2.isEmpty)=f.isSome:=e1.symm
   by_cases hf:f.isSome=true
   ·rw [if_pos (hh.trans hf)] at h
    rw [if_pos hf]
    exact wpAny_pure h
   ·rw [if_neg (fun z=>hf (hh.symm.trans z))] at h
    rw [if_neg hf]
    rw [oneTypeOnly'_eq,List.mapM_toArray,map_eq_pure_bind]
    refine wpAny_bind (wpAny_bind (wpAny_bind (kas_mapM (r:=.type "tuple") _ (fun v hv Q' hq=>(ty v hv).here hq) (wpAny_pure ?_))))
    have hall2:((List.map (fun _=>Value.type "tuple") (keyVals (q::L))).toArray.all fun x=>x == Value.type "tuple")=true:=by
     simp only [List.all_toArray,List.all_map,List.all_eq_true]
     intro _ _
     rfl
    have h0:(List.map (fun _=>Value.type "tuple") (keyVals (q::L))).toArray[0]?=some (Value.type "tuple"):=by simp [keyVals]
    rw [h0]
    simp only [hall2,if_true]
    exact wpAny_pure (wpAny_pure h)
def keyLt'_general (x y:Value):keyLt' general' x y=oneLt' false x y:=rfl
theorem tupE_cmp {L:List KIt} (I:Inv X pins σ H s) (hk:∀ q∈L,SqT X.K H q.2.1 (q.2.2.map V.int)) (nd:(L.map (·.2.2)).Nodup) {A:Around} (hu:A.units + 120 < cLine) :
  CmpR (rankOf (L.map (·.2.2))) L.length (kas_ask X.prog X.w A (kOf L) (keyVals L)) s:=by
 by_cases ha:(L.all fun q=>!q.2.2.isEmpty)=true
 ·rw [kOf,if_pos ha]
  refine key_cmp I (fun q hq=>⟨hk q hq,fun e=>?_⟩) nd
  have:=List.all_eq_true.mp ha q hq
  rw [e] at this
  exact absurd this (by decide)
 rw [kOf,if_neg ha]
 have go:∀ (κ:SortKind) (b:Bool),(∀ x y,keyLt' κ x y=oneLt' b x y)->CmpR (rankOf (L.map (·.2.2))) L.length (kas_ask X.prog X.w A κ (keyVals L)) s:=by
  intro κ b hb i j C hi hj h
  rw [rank_dec nd (by simpa using hi) (by simpa using hj),getD_map' hi,getD_map' hj] at h
  unfold kas_ask
  rw [show (keyVals L).getD i Value.none=Value.ref L[i].2.1 from getD_map' hi,show (keyVals L).getD j Value.none=Value.ref L[j].2.1 from getD_map' hj,hb]
  exact tupE_lt I hu (hk _ (List.getElem_mem hi)) (hk _ (List.getElem_mem hj)) h
 generalize (L.head?.any fun q=>!q.2.2.isEmpty)=c
 cases c with
 | true=>exact go _ false fun x y=>keyLt'_general x y
 | false=>exact go _ true fun x y=>keyLt'_oneType x y
end
section
variable {X:Cx}
def rSortS (X:Cx):List V->Hp->VK->Prop:=fun xs H Q=>∃ (a:Addr) (L:TL) (ep:Nat) (t:SetTable) (qs:List (Addr×List Int)),xs=[.ref a]/\H a=some (SetO a L ep t)/\TOk t L/\t.plain=true/\t.led=(!byText X.w)/\L.map (·.2.2)=qs.map (fun q=>Value.ref q.1)/\(qs.map (·.2)).Nodup/\(∀ q∈qs,SqT X.K H q.1 (q.2.map V.int))/\qs.length < 64 /\
 ∀ (D:Addr) (L':List (Addr×List Int)),H D=none->L'.Perm qs->L'.Pairwise (fun a b=>HT.lexLt a.2 b.2=true)->Q (.ref D) (upd H D (.lst (L'.map fun q=>V.ref q.1)))
theorem call_sortS (hc:X.calm=true) (hu:X.A.units + 200 < cLine):CallR X (.builtin "sorted") (rSortS X):=by
 intro pins s σ H xs us Q I r h
 obtain ⟨a,L,ep,t,qs,rfl,ha,T,pp,ld,eq,nd,hk,h64,q⟩:=h
 obtain ⟨u,rfl,rx⟩:=vals1 r
 cases rx
 have ll:L.length=qs.length:=by have:=congrArg List.length eq; simpa using this
 obtain ⟨rs,pm,col⟩:=collect_set I ha T pp ld eq (by omega)
 have hR:∀ q∈(rs.map fun q=>((.non,q.1,q.2):KIt)),SqT X.K H q.2.1 (q.2.2.map V.int):=fun q hq=>by
  obtain ⟨x,hx,rfl⟩:=List.mem_map.mp hq
  exact hk x (pm.mem_iff.mp hx)
 have e2:(rs.map fun q=>((.non,q.1,q.2):KIt)).map (·.2.2)=rs.map (·.2):=by rw [List.map_map]; rfl
 have nd2:((rs.map fun q=>((.non,q.1,q.2):KIt)).map (·.2.2)).Nodup:=by
  rw [e2]
  exact ((pm.map _).nodup_iff).mpr nd
 have kv:keyVals (rs.map fun q=>((.non,q.1,q.2):KIt))=rs.map fun q=>Value.ref q.1:=by
  show List.map _ (List.map _ _)=_
  rw [List.map_map]
  rfl
 refine sortedC I (κ:=kOf (rs.map fun q=>((.non,q.1,q.2):KIt))) (L:=rs.map fun q=>((.non,q.1,q.2):KIt)) (fun {A R E} hA hR=>?_) (by rw [List.length_map,pm.length_eq]; exact h64) nd2 (fun _ _ J h0 {_ _ _} q=>tupE_kind J hR (by omega) q) (fun _ _ _ J=>tupE_cmp J hR nd2 (by show X.A.units + 1 + 1 + 120 < cLine; omega)) fun D L' hD pm2 pw=>?_
 ·rw [kv] at hR
  exact col (hA.trans (I.ok.hd hc)) hR
 ·have:=q D (L'.map fun z=>(z.2.1,z.2.2)) hD ?_ ?_
  ·rw [List.map_map] at this
   exact this
  ·refine List.Perm.trans ?_ pm
   have:=pm2.map fun z:KIt=>(z.2.1,z.2.2)
   rw [List.map_map,show ((fun z:KIt=>(z.2.1,z.2.2)) ∘ fun q:Addr×List Int=>((.non,q.1,q.2):KIt))=id from rfl,List.map_id] at this
   exact this
  ·exact List.pairwise_map.mpr pw
end
end L2
namespace L3
open PySem L2
structure Cf where
 c:Addr
 k:W.Frag
inductive D where
 | non | bl (b:Bool) | int (i:Int) | str (x:Str) | ty (n:String) | at (a:Addr)
 | tup (xs:List D) | lst (xs:List D) | frz (xs:List D) | dct (kvs:List (Key×D)) | dcT (kvs:List (List Key×D))
 | code (S:List Pr) | cell (k:Nat) | exc (C:Addr) (fs:List (Str×D))
inductive MO where
 | lst (xs:List D) | dct (kvs:List (Key×D)) | dcT (kvs:List (List Key×D)) | drK (kvs:List (Key×D)) | drT (kvs:List (List Key×D)) | dfT (o:Obj) (vs:List (List Key×V)) (kvs:List (List Key×D)) | dfK (o:Obj) (vs:List (Key×V)) (kvs:List (Key×D)) | ins (C:Addr) (fs:List (Str×D)) | hand | tab (P:Addr) (pos:Pos) (q:Str)
abbrev Mem:=List MO
mutual
inductive Rep (C:Cf) (I:Hp) (α:List Addr):V->D->Prop where
 | non:Rep C I α .non .non
 | bl (b:Bool):Rep C I α (.bl b) (.bl b)
 | int (i:Int):Rep C I α (.int i) (.int i)
 | str (x:Str):Rep C I α (.str x) (.str x)
 | ty (n:String):Rep C I α (.ty n) (.ty n)
 | at (a:Addr):Rep C I α (.ref a) (.at a)
 | tup {a:Addr} {vs:List V} {ds:List D}:I a=some (.tup vs)->Reps C I α vs ds->Rep C I α (.ref a) (.tup ds)
 | lst {a:Addr} {vs:List V} {ds:List D}:I a=some (.lst vs)->Reps C I α vs ds->Rep C I α (.ref a) (.lst ds)
 | frz {a:Addr} {vs:List V} {ds:List D}:SqL C.k I a vs->Reps C I α vs ds->Rep C I α (.ref a) (.frz ds)
 | dct {a:Addr} {vs:List (Key×V)} {ds:List (Key×D)}:I a=some (.dK vs)->RepK C I α vs ds->Rep C I α (.ref a) (.dct ds)
 | dcT {a:Addr} {vs:List (List Key×V)} {ds:List (List Key×D)}:I a=some (.dT vs)->RepT C I α vs ds->Rep C I α (.ref a) (.dcT ds)
 | code {x:Addr} {S:List Pr}:CodeAt C.c I x S->Rep C I α (.ref x) (.code S)
 | cell {a:Addr} {k:Nat}:α[k]?=some a->Rep C I α (.ref a) (.cell k)
 | exc {ea Ce:Addr} {d:Option Addr} {vs:List (Str×V)} {fs:List (Str×D)}:I ea=some (.ext (excP ea Ce d))->XD I d vs->RepF C I α vs fs->Rep C I α (.ref ea) (.exc Ce fs)
inductive Reps (C:Cf) (I:Hp) (α:List Addr):List V->List D->Prop where
 | nil:Reps C I α [] []
 | cons {v:V} {d:D} {vs:List V} {ds:List D}:Rep C I α v d->Reps C I α vs ds->Reps C I α (v::vs) (d::ds)
inductive RepK (C:Cf) (I:Hp) (α:List Addr):List (Key×V)->List (Key×D)->Prop where
 | nil:RepK C I α [] []
 | cons {k:Key} {v:V} {d:D} {vs:List (Key×V)} {ds:List (Key×D)}:Rep C I α v d->RepK C I α vs ds->RepK C I α ((k,v)::vs) ((k,d)::ds)
inductive RepF (C:Cf) (I:Hp) (α:List Addr):List (Str×V)->List (Str×D)->Prop where
 | nil:RepF C I α [] []
 | cons {k:Str} {v:V} {d:D} {vs:List (Str×V)} {ds:List (Str×D)}:Rep C I α v d->RepF C I α vs ds->RepF C I α ((k,v)::vs) ((k,d)::ds)
inductive RepT (C:Cf) (I:Hp) (α:List Addr):List (List Key×V)->List (List Key×D)->Prop where
 | nil:RepT C I α [] []
 | cons {k:List Key} {v:V} {d:D} {vs:List (List Key×V)} {ds:List (List Key×D)}:Rep C I α v d->RepT C I α vs ds->RepT C I α ((k,v)::vs) ((k,d)::ds)
end
section
variable {C:Cf} {I I':Hp} {α α':List Addr}
def pre_get {k:Nat} {a:Addr} (p:α<+:α') (h:α[k]?=some a):α'[k]?=some a:=by
 obtain ⟨t,rfl⟩:=p
 obtain ⟨hk,_⟩:=List.getElem?_eq_some_iff.mp h
 rw [List.getElem?_append_left hk]
 exact h
mutual
theorem Rep.mono (s:Same I I') (p:α<+:α'):∀ {v:V} {d:D},Rep C I α v d->Rep C I' α' v d:=by
 intro _ _ h
 cases h with
 | non=>exact .non
 | bl b=>exact .bl b
 | int i=>exact .int i
 | str x=>exact .str x
 | ty n=>exact .ty n
 | «at» a=>exact .at a
 | tup e r=>exact .tup (s _ _ e) (Reps.mono s p r)
 | lst e r=>exact .lst (s _ _ e) (Reps.mono s p r)
 | frz e r=>exact .frz (s.seq e) (Reps.mono s p r)
 | dct e r=>exact .dct (s _ _ e) (RepK.mono s p r)
 | dcT e r=>exact .dcT (s _ _ e) (RepT.mono s p r)
 | code h=>exact .code (h.same s)
 | cell e=>exact .cell (pre_get p e)
 | exc e f r=>exact .exc (s _ _ e) (f.mono s) (RepF.mono s p r)
theorem Reps.mono (s:Same I I') (p:α<+:α'):∀ {vs:List V} {ds:List D},Reps C I α vs ds->Reps C I' α' vs ds:=by
 intro _ _ h
 cases h with
 | nil=>exact .nil
 | cons h r=>exact .cons (Rep.mono s p h) (Reps.mono s p r)
theorem RepK.mono (s:Same I I') (p:α<+:α'):∀ {vs:List (Key×V)} {ds:List (Key×D)},RepK C I α vs ds->RepK C I' α' vs ds:=by
 intro _ _ h
 cases h with
 | nil=>exact .nil
 | cons h r=>exact .cons (Rep.mono s p h) (RepK.mono s p r)
theorem RepF.mono (s:Same I I') (p:α<+:α'):∀ {vs:List (Str×V)} {ds:List (Str×D)},RepF C I α vs ds->RepF C I' α' vs ds:=by
 intro _ _ h
 cases h with
 | nil=>exact .nil
 | cons h r=>exact .cons (Rep.mono s p h) (RepF.mono s p r)
theorem RepT.mono (s:Same I I') (p:α<+:α'):∀ {vs:List (List Key×V)} {ds:List (List Key×D)},RepT C I α vs ds->RepT C I' α' vs ds:=by
 intro _ _ h
 cases h with
 | nil=>exact .nil
 | cons h r=>exact .cons (Rep.mono s p h) (RepT.mono s p r)
end
theorem Reps.length:∀ {vs:List V} {ds:List D},Reps C I α vs ds->vs.length=ds.length
 | _,_,.nil=>rfl
 | _,_,.cons _ r=>by rw [List.length_cons,List.length_cons,Reps.length r]
theorem Reps.get:∀ {vs:List V} {ds:List D} {i:Nat} {d:D},Reps C I α vs ds->ds[i]?=some d->∃ v,vs[i]?=some v/\Rep C I α v d
 | _,_,_,_,.nil,e=>by simp at e
 | _,_,0,_,.cons r _,e=>by simp at e; subst e; exact ⟨_,rfl,r⟩
 | _,_,i + 1,d,.cons _ t,e=>by
  obtain ⟨u,h1,h2⟩:=Reps.get (i:=i) (d:=d) t (by simpa using e)
  exact ⟨u,by simpa using h1,h2⟩
theorem Reps.at:∀ {vs:List V} {ds:List D} {i:Nat},Reps C I α vs ds->(h1:i < vs.length)->(h2:i < ds.length)->Rep C I α vs[i] ds[i]:=fun {vs ds i} r h1 h2=>by
 obtain ⟨v,e,z⟩:=r.get (List.getElem?_eq_getElem h2)
 rw [List.getElem?_eq_getElem h1] at e
 cases e
 exact z
theorem Reps.app:∀ {vs ws:List V} {ds es:List D},Reps C I α vs ds->Reps C I α ws es->Reps C I α (vs++ws) (ds++es)
 | _,_,_,_,.nil,s=>s
 | _,_,_,_,.cons r t,s=>.cons r (Reps.app t s)
def Reps.one {v:V} {d:D} (h:Rep C I α v d):Reps C I α [v] [d]:=.cons h .nil
theorem Reps.take:∀ {vs:List V} {ds:List D} (n:Nat),Reps C I α vs ds->Reps C I α (vs.take n) (ds.take n)
 | _,_,0,_=>.nil
 | _,_,_ + 1,.nil=>.nil
 | _,_,n + 1,.cons r t=>.cons r (Reps.take n t)
theorem Reps.drop:∀ {vs:List V} {ds:List D} (n:Nat),Reps C I α vs ds->Reps C I α (vs.drop n) (ds.drop n)
 | _,_,0,r=>r
 | _,_,_ + 1,.nil=>.nil
 | _,_,n + 1,.cons _ t=>Reps.drop n t
def Reps.rev {vs:List V} {ds:List D} (h:Reps C I α vs ds):Reps C I α vs.reverse ds.reverse:=by
 have go:∀ {vs ws:List V} {ds es:List D},Reps C I α vs ds->Reps C I α ws es->Reps C I α (vs.reverse++ws) (ds.reverse++es):=by
  intro vs
  induction vs with
  | nil=>intro ws ds es h1 h2; cases h1; exact h2
  | cons v vs ih =>
   intro ws ds es h1 h2
   cases h1 with
   | cons a b =>
    rw [List.reverse_cons,List.append_assoc,List.reverse_cons,List.append_assoc]
    exact ih b (.cons a h2)
 have:=go h .nil
 rwa [List.append_nil,List.append_nil] at this
theorem Reps.ints:∀ (ns:List Int),Reps C I α (ns.map V.int) (ns.map D.int)
 | []=>.nil
 | n::r=>.cons (.int n) (Reps.ints r)
theorem Reps.of_ints:∀ {vs:List V} (ns:List Int),Reps C I α vs (ns.map D.int)->vs=ns.map V.int
 | _,[],h=>by cases h; rfl
 | _,n::r,h=>by
  cases h with
  | cons a b =>
   cases a
   rw [Reps.of_ints r b]
   rfl
end
def MoAt (C:Cf) (I:Hp) (α:List Addr) (H:Hp) (a:Addr):MO->Prop
 | .lst ds=>∃ vs,H a=some (.lst vs)/\Reps C I α vs ds
 | .dct ds=>∃ vs,H a=some (.dK vs)/\RepK C I α vs ds
 | .dcT ds=>∃ vs,H a=some (.dT vs)/\RepT C I α vs ds
 | .drK ds=>∃ vs,Rd H a (.dK vs)/\RepK C I α vs ds
 | .drT ds=>∃ vs,Rd H a (.dT vs)/\RepT C I α vs ds
 | .dfT o vs ds=>H a=some (.frz o (.dT vs))/\RepT C I α vs ds
 | .dfK o vs ds=>H a=some (.frz o (.dK vs))/\RepK C I α vs ds
 | .ins Cl fs=>∃ dx vs,H a=some (.ins Cl dx vs)/\Paired (fun (p:Str×V) (q:Str×D)=>p.1=q.1/\Rep C I α p.2 q.2) vs fs
 | .hand=>∃ (d k:Int) (c:Addr) (cs:List Int),H a=some (.lst [.int d,.int k,.ref c])/\I c=some (.lst (cs.map V.int))/\cs≠[]/\cs.length<=63/\0<=d/\0<=k/\∀ c∈cs,0<=c
 | .tab P pos q=>a=P/\∃ ps,H a=some (.tbl ps)/\TriplesOk ps.toList/\(codeAmong pos ps.toList=none\/∃ c,codeAmong pos ps.toList=some (.ref c)/\I c=some (codeφ c q))
theorem MoAt.some {C:Cf} {I:Hp} {α:List Addr} {H:Hp} {a:Addr} {m:MO} (h:MoAt C I α H a m):∃ o,H a=some o:=by
 cases m with
 | lst ds=>obtain ⟨vs,e,_⟩:=h; exact ⟨_,e⟩
 | dct ds=>obtain ⟨vs,e,_⟩:=h; exact ⟨_,e⟩
 | dcT ds=>obtain ⟨vs,e,_⟩:=h; exact ⟨_,e⟩
 | drK ds=>obtain ⟨vs,e,_⟩:=h; rcases e with e | ⟨o,e⟩ <;> exact ⟨_,e⟩
 | drT ds=>obtain ⟨vs,e,_⟩:=h; rcases e with e | ⟨o,e⟩ <;> exact ⟨_,e⟩
 | dfT o vs ds=>exact ⟨_,h.1⟩
 | dfK o vs ds=>exact ⟨_,h.1⟩
 | ins Cl fs=>obtain ⟨dx,vs,e,_⟩:=h; exact ⟨_,e⟩
 | hand=>obtain ⟨d,k,c,cs,e,_⟩:=h; exact ⟨_,e⟩
 | tab P pos q=>obtain ⟨_,ps,e,_⟩:=h; exact ⟨_,e⟩
theorem MoAt.mono {C:Cf} {I I':Hp} {α α':List Addr} {H H':Hp} {a:Addr} {m:MO} (h:MoAt C I α H a m) (s:Same I I') (p:α<+:α') (e:H' a=H a):MoAt C I' α' H' a m:=by
 cases m with
 | lst ds=>obtain ⟨vs,e1,r⟩:=h; exact ⟨vs,e.trans e1,r.mono s p⟩
 | dct ds=>obtain ⟨vs,e1,r⟩:=h; exact ⟨vs,e.trans e1,r.mono s p⟩
 | dcT ds=>obtain ⟨vs,e1,r⟩:=h; exact ⟨vs,e.trans e1,r.mono s p⟩
 | drK ds=>obtain ⟨vs,e1,r⟩:=h; exact ⟨vs,e1.imp (fun z=>e.trans z) (fun ⟨o,z⟩=>⟨o,e.trans z⟩),r.mono s p⟩
 | drT ds=>obtain ⟨vs,e1,r⟩:=h; exact ⟨vs,e1.imp (fun z=>e.trans z) (fun ⟨o,z⟩=>⟨o,e.trans z⟩),r.mono s p⟩
 | dfT o vs ds=>exact ⟨e.trans h.1,h.2.mono s p⟩
 | dfK o vs ds=>exact ⟨e.trans h.1,h.2.mono s p⟩
 | ins Cl fs=>obtain ⟨dx,vs,e1,r⟩:=h; exact ⟨dx,vs,e.trans e1,Paired.mapP r fun _ _ z=>⟨z.1,z.2.mono s p⟩⟩
 | hand=>obtain ⟨d,k,c,cs,e1,e2,r⟩:=h; exact ⟨d,k,c,cs,e.trans e1,s _ _ e2,r⟩
 | tab P pos q =>
  obtain ⟨eP,ps,e1,t,r⟩:=h
  refine ⟨eP,ps,e.trans e1,t,?_⟩
  rcases r with r | ⟨c,r1,r2⟩
  ·exact .inl r
  ·exact .inr ⟨c,r1,s _ _ r2⟩
abbrev X3:=Addr->List (Str×D)->Mem->Prop
structure Anc where
 i:Hp
 a:List Addr
 xe:XK
 kx:X3
structure Rel (C:Cf) (Z:Anc) (I:Hp) (α:List Addr) (H:Hp) (M:Mem):Prop where
 ai:Same Z.i I
 aa:Z.a<+:α
 sub:Same I H
 len:α.length=M.length
 nd:α.Nodup
 cel:∀ (k:Nat) (a:Addr) (m:MO),α[k]?=some a->M[k]?=some m->MoAt C I α H a m/\I a=none
section
variable {C:Cf} {Z:Anc} {I:Hp} {α:List Addr} {H H':Hp} {M:Mem}
def Rel.cellNe (R:Rel C Z I α H M) {k:Nat} {a p:Addr} (h:α[k]?=some a) (hp:H p=none):a≠p:=by
 obtain ⟨hk,_⟩:=List.getElem?_eq_some_iff.mp h
 have hk':k < M.length:=by rw [<- R.len]; exact hk
 obtain ⟨o,e⟩:=(R.cel k a _ h (List.getElem?_eq_getElem hk')).1.some
 exact ne_of_none e hp
def Rel.new (R:Rel C Z I α H M) {p:Addr} {o:HO} (hp:H p=none):Rel C Z (upd I p o) α (upd H p o) M/\Same I (upd I p o)/\(upd I p o) p=some o:=by
 have ip:I p=none:=R.sub.free hp
 have s:Same I (upd I p o):=same_upd ip
 refine ⟨⟨R.ai.trans s,R.aa,fun b u h=>?_,R.len,R.nd,fun k a m h1 h2=>?_⟩,s,upd_same⟩
 ·by_cases e:b=p
  ·subst e
   rw [upd_same] at h ⊢
   exact h
  ·rw [upd_ne e] at h ⊢
   exact R.sub b u h
 ·obtain ⟨a1,a2⟩:=R.cel k a m h1 h2
  have ne:=R.cellNe h1 hp
  exact ⟨a1.mono s (List.prefix_refl _) (upd_ne ne),by rw [upd_ne ne]; exact a2⟩
theorem Rel.cell (R:Rel C Z I α H M) {p:Addr} {o:HO} {m:MO} (hp:H p=none) (hm:∀ H',H' p=some o->MoAt C I α H' p m):Rel C Z I (α++[p]) (upd H p o) (M++[m])/\α<+:(α++[p])/\(α++[p])[M.length]?=some p:=by
 have ip:I p=none:=R.sub.free hp
 refine ⟨⟨R.ai,R.aa.trans (List.prefix_append _ _),fun b u h=>?_,by rw [List.length_append,List.length_append,R.len]; rfl,?_,fun k a x h1 h2=>?_⟩,List.prefix_append _ _,by rw [<- R.len]; simp⟩
 ·have ne:b≠p:=fun e=>by rw [e,ip] at h; cases h
  rw [upd_ne ne]
  exact R.sub b u h
 ·rw [List.nodup_append]
  refine ⟨R.nd,by simp,fun a ha b hb=>?_⟩
  obtain ⟨k,hk,rfl⟩:=List.getElem_of_mem ha
  rw [List.mem_singleton.mp hb]
  exact R.cellNe (List.getElem?_eq_getElem hk) hp
 ·by_cases hk:k < α.length
  ·rw [List.getElem?_append_left hk] at h1
   rw [List.getElem?_append_left (by rw [<- R.len]; exact hk)] at h2
   obtain ⟨a1,a2⟩:=R.cel k a x h1 h2
   exact ⟨a1.mono (.refl _) (List.prefix_append _ _) (upd_ne (R.cellNe h1 hp)),a2⟩
  ·obtain ⟨hk2,_⟩:=List.getElem?_eq_some_iff.mp h1
   rw [List.length_append,List.length_singleton] at hk2
   have e:k=α.length:=by omega
   subst e
   have e1:(α++[p])[α.length]?=some p:=by simp
   have e2:(M++[m])[α.length]?=some m:=by rw [R.len]; simp
   rw [e1] at h1
   rw [e2] at h2
   cases h1
   cases h2
   exact ⟨(hm _ upd_same).mono (.refl _) (List.prefix_append _ _) rfl,ip⟩
def Rel.put (R:Rel C Z I α H M) {k:Nat} {a:Addr} {o:HO} {m:MO} (ha:α[k]?=some a) (hm:∀ H',H' a=some o->MoAt C I α H' a m):Rel C Z I α (upd H a o) (M.set k m):=by
 obtain ⟨hk,ea⟩:=List.getElem?_eq_some_iff.mp ha
 have hkM:k < M.length:=by rw [<- R.len]; exact hk
 have ia:I a=none:=(R.cel k a _ ha (List.getElem?_eq_getElem hkM)).2
 refine ⟨R.ai,R.aa,fun b u h=>?_,by rw [List.length_set]; exact R.len,R.nd,fun j b x h1 h2=>?_⟩
 ·have ne:b≠a:=fun e=>by rw [e,ia] at h; cases h
  rw [upd_ne ne]
  exact R.sub b u h
 ·by_cases e:k=j
  ·subst e
   rw [ha] at h1
   cases h1
   rw [List.getElem?_set_self hkM] at h2
   cases h2
   exact ⟨hm _ upd_same,ia⟩
  ·rw [List.getElem?_set_ne e] at h2
   obtain ⟨a1,a2⟩:=R.cel j b x h1 h2
   obtain ⟨hj,eb⟩:=List.getElem?_eq_some_iff.mp h1
   have ne:b≠a:=fun z=>e (by
    rw [<- ea,<- eb] at z
    exact ((List.getElem_inj R.nd).mp z).symm)
   exact ⟨a1.mono (.refl _) (List.prefix_refl _) (upd_ne ne),a2⟩
end
abbrev Ev:=List (Option D)
abbrev K3:=D->Mem->Prop
abbrev TE3:=Ev->Mem->K3->Prop
abbrev TT3:=Ev->Mem->(Bool->Mem->Prop)->Prop
abbrev TA3:=Ev->Mem->(List D->Mem->Prop)->Prop
abbrev TO3:=Ev->Mem->(Option Int->Mem->Prop)->Prop
abbrev R3:=D->D->Mem->K3->Prop
structure Ends3 where
 nx:Ev->Mem->Prop
 rt:K3
 bk:Ev->Mem->Prop:=fun _ _=>False
 ct:Ev->Mem->Prop:=fun _ _=>False
abbrev TS3:=Ends3->Ev->Mem->Prop
abbrev TG3:=D->Ev->Mem->(Ev->Mem->Prop)->Prop
abbrev TGs3:=List D->Ev->Mem->(Ev->Mem->Prop)->Prop
def RepE (C:Cf) (I:Hp) (α:List Addr) (σ:St) (ρ:Ev):Prop:=σ.length=ρ.length/\∀ (i:Nat) (d:D),ρ[i]?=some (some d)->∃ v,σ[i]?=some (some v)/\Rep C I α v d
def RepE.mono {C:Cf} {I I':Hp} {α α':List Addr} {σ:St} {ρ:Ev} (h:RepE C I α σ ρ) (s:Same I I') (p:α<+:α'):RepE C I' α' σ ρ :=
 ⟨h.1,fun i d e=>let ⟨v,a,b⟩:=h.2 i d e; ⟨v,a,b.mono s p⟩⟩
theorem RepE.set {C:Cf} {I:Hp} {α:List Addr} {σ:St} {ρ:Ev} (h:RepE C I α σ ρ) {v:V} {d:D} (r:Rep C I α v d) (i:Nat):RepE C I α (σ.set i (some v)) (ρ.set i (some d)):=by
 refine ⟨by rw [List.length_set,List.length_set]; exact h.1,fun j e q=>?_⟩
 by_cases z:i=j
 ·subst z
  by_cases hl:i < ρ.length
  ·rw [List.getElem?_set_self hl] at q
   cases q
   exact ⟨v,List.getElem?_set_self (by rw [h.1]; exact hl),r⟩
  ·rw [List.getElem?_eq_none (by rw [List.length_set]; omega)] at q
   cases q
 ·rw [List.getElem?_set_ne z] at q ⊢
  exact h.2 j e q
def Fin (C:Cf) (Z:Anc) (I:Hp) (α:List Addr) (K:K3) (Q:VK):Prop:=∀ v d I' α' H' M',Same I I'->α<+:α'->Rel C Z I' α' H' M'->Rep C I' α' v d->K d M'->Q v H'
def Fin.mono {C:Cf} {Z:Anc} {I I':Hp} {α α':List Addr} {K:K3} {Q:VK} (h:Fin C Z I α K Q) (s:Same I I') (p:α<+:α'):Fin C Z I' α' K Q:=fun v d I2 α2 H2 M2 s2 p2=>h v d I2 α2 H2 M2 (s.trans s2) (p.trans p2)
def SimE (C:Cf) (Z:Anc) (t:TE) (u:TE3):Prop:=∀ I α σ H ρ M (K:K3) (Q:VK),Rel C Z I α H M->RepE C I α σ ρ->u ρ M K->Fin C Z I α K Q->t σ H Q
def SimT (C:Cf) (Z:Anc) (t:TT) (u:TT3):Prop:=∀ I α σ H ρ M (K:Bool->Mem->Prop) (Q:Bool->Hp->Prop),Rel C Z I α H M->RepE C I α σ ρ->u ρ M K ->
 (∀ b I' α' H' M',Same I I'->α<+:α'->Rel C Z I' α' H' M'->K b M'->Q b H')->t σ H Q
def SimA (C:Cf) (Z:Anc) (t:TA) (u:TA3):Prop:=∀ I α σ H ρ M (K:List D->Mem->Prop) (Q:List V->Hp->Prop),Rel C Z I α H M->RepE C I α σ ρ->u ρ M K ->
 (∀ vs ds I' α' H' M',Same I I'->α<+:α'->Rel C Z I' α' H' M'->Reps C I' α' vs ds->K ds M'->Q vs H')->t σ H Q
def SimO (C:Cf) (Z:Anc) (t:TO) (u:TO3):Prop:=∀ I α σ H ρ M (K:Option Int->Mem->Prop) (Q:Option Int->Hp->Prop),Rel C Z I α H M->RepE C I α σ ρ->u ρ M K ->
 (∀ b I' α' H' M',Same I I'->α<+:α'->Rel C Z I' α' H' M'->K b M'->Q b H')->t σ H Q
def SimR (C:Cf) (Z:Anc) (r:R2) (u:R3):Prop:=∀ I α H M x y d e (K:K3) (Q:VK),Rel C Z I α H M->Rep C I α x d->Rep C I α y e->u d e M K->Fin C Z I α K Q->r x y H Q
def SimU (C:Cf) (Z:Anc) (r:V->Hp->VK->Prop) (u:D->Mem->K3->Prop):Prop:=∀ I α H M x d (K:K3) (Q:VK),Rel C Z I α H M->Rep C I α x d->u d M K->Fin C Z I α K Q->r x H Q
def SimC (C:Cf) (Z:Anc) (r:List V->Hp->VK->Prop) (u:List D->Mem->K3->Prop):Prop:=∀ I α H M xs ds (K:K3) (Q:VK),Rel C Z I α H M->Reps C I α xs ds->u ds M K->Fin C Z I α K Q->r xs H Q
def SimL (C:Cf) (Z:Anc) (r:V->Option Int->Option Int->Hp->VK->Prop) (u:D->Option Int->Option Int->Mem->K3->Prop):Prop:=∀ I α H M x d lo hi (K:K3) (Q:VK),Rel C Z I α H M->Rep C I α x d->u d lo hi M K->Fin C Z I α K Q->r x lo hi H Q
def FinS (C:Cf) (Z:Anc) (I:Hp) (α:List Addr) (K:Ev->Mem->Prop) (Q:St->Hp->Prop):Prop:=∀ I' α' σ' H' ρ' M',Same I I'->α<+:α'->Rel C Z I' α' H' M'->RepE C I' α' σ' ρ'->K ρ' M'->Q σ' H'
def FinS.mono {C:Cf} {Z:Anc} {I I':Hp} {α α':List Addr} {K:Ev->Mem->Prop} {Q:St->Hp->Prop} (h:FinS C Z I α K Q) (s:Same I I') (p:α<+:α'):FinS C Z I' α' K Q:=fun I2 α2 σ2 H2 ρ2 M2 s2 p2=>h I2 α2 σ2 H2 ρ2 M2 (s.trans s2) (p.trans p2)
structure FinD (C:Cf) (Z:Anc) (I:Hp) (α:List Addr) (E:Ends3) (D':Ends):Prop where
 nx:FinS C Z I α E.nx D'.nx
 rt:Fin C Z I α E.rt D'.rt
 bk:FinS C Z I α E.bk D'.bk
 ct:FinS C Z I α E.ct D'.ct
def FinD.mono {C:Cf} {Z:Anc} {I I':Hp} {α α':List Addr} {E:Ends3} {D':Ends} (h:FinD C Z I α E D') (s:Same I I') (p:α<+:α'):FinD C Z I' α' E D':=⟨h.nx.mono s p,h.rt.mono s p,h.bk.mono s p,h.ct.mono s p⟩
def SimS (C:Cf) (Z:Anc) (t:TS) (u:TS3):Prop:=∀ I α σ H ρ M (E:Ends3) (D':Ends),Rel C Z I α H M->RepE C I α σ ρ->u E ρ M->FinD C Z I α E D'->t D' σ H
def SimG (C:Cf) (Z:Anc) (t:TG) (u:TG3):Prop:=∀ I α σ H ρ M v d (K:Ev->Mem->Prop) (Q:St->Hp->Prop),Rel C Z I α H M->RepE C I α σ ρ->Rep C I α v d->u d ρ M K->FinS C Z I α K Q->t v σ H Q
def SimGs (C:Cf) (Z:Anc) (t:TGs) (u:TGs3):Prop:=∀ I α σ H ρ M vs ds (K:Ev->Mem->Prop) (Q:St->Hp->Prop),Rel C Z I α H M->RepE C I α σ ρ->Reps C I α vs ds->u ds ρ M K->FinS C Z I α K Q->t vs σ H Q
section
variable {C:Cf} {Z:Anc} {ta tb:TE} {ua ub:TE3} {tA tB':TT} {uA uB:TT3} {t:TA} {u:TA3}
def uVar (i:Nat):TE3:=fun ρ M K=>∃ d,ρ[i]?=some (some d)/\K d M
def s_var (i:Nat):SimE C Z (tVar i) (uVar i):=fun I α σ H ρ M K Q R E h k=>by
 obtain ⟨d,e,h⟩:=h
 obtain ⟨v,e2,r⟩:=E.2 i d e
 exact ⟨v,e2,k v d I α H M (.refl _) (List.prefix_refl _) R r h⟩
def uC (d:D):TE3:=fun _ M K=>K d M
def s_c {v:V} {d:D} (r:∀ I α,Rep C I α v d):SimE C Z (tC v) (uC d):=fun I α σ H ρ M K Q R E h k=>k v d I α H M (.refl _) (List.prefix_refl _) R (r I α) h
def s_int {i:Int}:SimE C Z (tC (.int i)) (uC (.int i)):=s_c fun _ _=>.int i
def s_bl {i:Bool}:SimE C Z (tC (.bl i)) (uC (.bl i)):=s_c fun _ _=>.bl i
def s_non:SimE C Z (tC .non) (uC .non):=s_c fun _ _=>.non
def s_str {i:Str}:SimE C Z (tC (.str i)) (uC (.str i)):=s_c fun _ _=>.str i
def uOp (u:R3) (ua ub:TE3):TE3:=fun ρ M K=>ua ρ M fun d M1=>ub ρ M1 fun e M2=>u d e M2 K
def s_op {r:R2} {u:R3} (hr:SimR C Z r u) (ha:SimE C Z ta ua) (hb:SimE C Z tb ub):SimE C Z (tOp r ta tb) (uOp u ua ub):=fun I α σ H ρ M K Q R E h k =>
 ha I α σ H ρ M _ _ R E h fun v d I1 α1 H1 M1 s1 p1 R1 r1 h1 =>
  hb I1 α1 σ H1 ρ M1 _ _ R1 (E.mono s1 p1) h1 fun w e I2 α2 H2 M2 s2 p2 R2 r2 h2 =>
   hr I2 α2 H2 M2 v w d e K Q R2 (r1.mono s2 p2) r2 h2 (k.mono (s1.trans s2) (p1.trans p2))
def uUn (u:D->Mem->K3->Prop) (ua:TE3):TE3:=fun ρ M K=>ua ρ M fun d M1=>u d M1 K
def s_un {r:V->Hp->VK->Prop} {u:D->Mem->K3->Prop} (hr:SimU C Z r u) (ha:SimE C Z ta ua):SimE C Z (tUn r ta) (uUn u ua):=fun I α σ H ρ M K Q R E h k =>
 ha I α σ H ρ M _ _ R E h fun v d I1 α1 H1 M1 s1 p1 R1 r1 h1=>hr I1 α1 H1 M1 v d K Q R1 r1 h1 (k.mono s1 p1)
def D.isN:D->Bool | .non=>true | _=>false
def isN_rep {I:Hp} {α:List Addr} {v:V} {d:D} (h:Rep C I α v d):decide (v=.non)=d.isN:=by cases h <;> simp [D.isN]
def uNotN (ua:TE3):TE3:=fun ρ M K=>ua ρ M fun d M1=>K (.bl (!d.isN)) M1
def s_notN (ha:SimE C Z ta ua):SimE C Z (tNotN ta) (uNotN ua):=fun I α σ H ρ M K Q R E h k =>
 ha I α σ H ρ M _ _ R E h fun v d I1 α1 H1 M1 s1 p1 R1 r1 h1=>by
  rw [isN_rep r1]
  exact k _ _ I1 α1 H1 M1 s1 p1 R1 (.bl _) h1
def uB3 (ua:TE3):TT3:=fun ρ M K=>ua ρ M fun d M1=>∃ c,d=.bl c/\K c M1
def s_b (ha:SimE C Z ta ua):SimT C Z (tB ta) (uB3 ua):=fun I α σ H ρ M K Q R E h k =>
 ha I α σ H ρ M _ _ R E h fun v d I1 α1 H1 M1 s1 p1 R1 r1 h1=>by
  obtain ⟨c,e,h1⟩:=h1
  subst e
  cases r1
  exact ⟨c,rfl,k c I1 α1 H1 M1 s1 p1 R1 h1⟩
def s_test (ha:SimE C Z ta ua):SimT C Z (tTest ta) (uB3 ua):=s_b ha
def uAnd (uA uB:TT3):TT3:=fun ρ M K=>uA ρ M fun c M1=>if c=true then uB ρ M1 K else K false M1
def uOr (uA uB:TT3):TT3:=fun ρ M K=>uA ρ M fun c M1=>if c=true then K true M1 else uB ρ M1 K
def uNot (uA:TT3):TT3:=fun ρ M K=>uA ρ M fun c M1=>K (!c) M1
def s_and (ha:SimT C Z tA uA) (hb:SimT C Z tB' uB):SimT C Z (tAnd tA tB') (uAnd uA uB):=fun I α σ H ρ M K Q R E h k =>
 ha I α σ H ρ M _ _ R E h fun c I1 α1 H1 M1 s1 p1 R1 h1=>by
  cases c with
  | true =>
   rw [if_pos rfl] at h1 ⊢
   exact hb I1 α1 σ H1 ρ M1 _ _ R1 (E.mono s1 p1) h1 fun b I2 α2 H2 M2 s2 p2 R2 h2=>k b I2 α2 H2 M2 (s1.trans s2) (p1.trans p2) R2 h2
  | false =>
   rw [if_neg Bool.false_ne_true] at h1 ⊢
   exact k false I1 α1 H1 M1 s1 p1 R1 h1
def s_or (ha:SimT C Z tA uA) (hb:SimT C Z tB' uB):SimT C Z (tOr tA tB') (uOr uA uB):=fun I α σ H ρ M K Q R E h k =>
 ha I α σ H ρ M _ _ R E h fun c I1 α1 H1 M1 s1 p1 R1 h1=>by
  cases c with
  | false =>
   rw [if_neg Bool.false_ne_true] at h1 ⊢
   exact hb I1 α1 σ H1 ρ M1 _ _ R1 (E.mono s1 p1) h1 fun b I2 α2 H2 M2 s2 p2 R2 h2=>k b I2 α2 H2 M2 (s1.trans s2) (p1.trans p2) R2 h2
  | true =>
   rw [if_pos rfl] at h1 ⊢
   exact k true I1 α1 H1 M1 s1 p1 R1 h1
def s_not (ha:SimT C Z tA uA):SimT C Z (tNot tA) (uNot uA):=fun I α σ H ρ M K Q R E h k =>
 ha I α σ H ρ M _ _ R E h fun c I1 α1 H1 M1 s1 p1 R1 h1=>k _ I1 α1 H1 M1 s1 p1 R1 h1
def uAndV (ua ub:TE3):TE3:=fun ρ M K=>ua ρ M fun d M1=>∃ c,d=.bl c/\if c=true then ub ρ M1 K else K (.bl false) M1
def s_andV (ha:SimE C Z ta ua) (hb:SimE C Z tb ub):SimE C Z (tAndV ta tb) (uAndV ua ub):=fun I α σ H ρ M K Q R E h k =>
 ha I α σ H ρ M _ _ R E h fun v d I1 α1 H1 M1 s1 p1 R1 r1 h1=>by
  obtain ⟨c,e,h1⟩:=h1
  subst e
  cases r1
  refine ⟨c,rfl,?_⟩
  cases c with
  | true =>
   rw [if_pos rfl] at h1 ⊢
   exact hb I1 α1 σ H1 ρ M1 _ _ R1 (E.mono s1 p1) h1 (k.mono s1 p1)
  | false =>
   rw [if_neg Bool.false_ne_true] at h1 ⊢
   exact k _ _ I1 α1 H1 M1 s1 p1 R1 (.bl _) h1
def uNil:TA3:=fun _ M K=>K [] M
def uCons (ua:TE3) (u:TA3):TA3:=fun ρ M K=>ua ρ M fun d M1=>u ρ M1 fun ds M2=>K (d::ds) M2
def s_nil:SimA C Z tNil uNil:=fun I α σ H ρ M K Q R E h k=>k [] [] I α H M (.refl _) (List.prefix_refl _) R .nil h
def s_cons (ha:SimE C Z ta ua) (hr:SimA C Z t u):SimA C Z (tCons ta t) (uCons ua u):=fun I α σ H ρ M K Q R E h k =>
 ha I α σ H ρ M _ _ R E h fun v d I1 α1 H1 M1 s1 p1 R1 r1 h1 =>
  hr I1 α1 σ H1 ρ M1 _ _ R1 (E.mono s1 p1) h1 fun vs ds I2 α2 H2 M2 s2 p2 R2 r2 h2 =>
   k (v::vs) (d::ds) I2 α2 H2 M2 (s1.trans s2) (p1.trans p2) R2 (.cons (r1.mono s2 p2) r2) h2
def uTup (u:TA3):TE3:=fun ρ M K=>u ρ M fun ds M1=>ds.length<=sizeLine/\K (.tup ds) M1
def s_tup (ha:SimA C Z t u):SimE C Z (tTup t) (uTup u):=fun I α σ H ρ M K Q R E h k =>
 ha I α σ H ρ M _ _ R E h fun vs ds I1 α1 H1 M1 s1 p1 R1 r1 h1=>by
  refine ⟨by rw [r1.length]; exact h1.1,fun p hp=>?_⟩
  obtain ⟨R2,s2,e2⟩:=R1.new (o:=.tup vs) hp
  exact k _ _ _ α1 _ M1 (s1.trans s2) p1 R2 (.tup e2 (r1.mono s2 (List.prefix_refl _))) h1.2
def uLst (u:TA3):TE3:=fun ρ M K=>u ρ M fun ds M1=>ds.length<=sizeLine/\K (.lst ds) M1
def s_lst (ha:SimA C Z t u):SimE C Z (tLst t) (uLst u):=fun I α σ H ρ M K Q R E h k =>
 ha I α σ H ρ M _ _ R E h fun vs ds I1 α1 H1 M1 s1 p1 R1 r1 h1=>by
  refine ⟨by rw [r1.length]; exact h1.1,fun p hp=>?_⟩
  obtain ⟨R2,s2,e2⟩:=R1.new (o:=.lst vs) hp
  exact k _ _ _ α1 _ M1 (s1.trans s2) p1 R2 (.lst e2 (r1.mono s2 (List.prefix_refl _))) h1.2
def uLstC (u:TA3):TE3:=fun ρ M K=>u ρ M fun ds M1=>ds.length<=sizeLine/\K (.cell M1.length) (M1++[.lst ds])
def s_lstC (ha:SimA C Z t u):SimE C Z (tLst t) (uLstC u):=fun I α σ H ρ M K Q R E h k =>
 ha I α σ H ρ M _ _ R E h fun vs ds I1 α1 H1 M1 s1 p1 R1 r1 h1=>by
  refine ⟨by rw [r1.length]; exact h1.1,fun p hp=>?_⟩
  obtain ⟨R2,p2,e2⟩:=R1.cell (o:=.lst vs) (m:=.lst ds) hp fun H' e=>⟨vs,e,r1⟩
  exact k _ _ I1 _ _ _ s1 (p1.trans p2) R2 (.cell e2) h1.2
def uCB (r:List D->Mem->K3->Prop) (u:TA3):TE3:=fun ρ M K=>u ρ M fun ds M1=>r ds M1 K
def s_cb {r:List V->Hp->VK->Prop} {r3:List D->Mem->K3->Prop} (hr:SimC C Z r r3) (ha:SimA C Z t u):SimE C Z (tCB r t) (uCB r3 u):=fun I α σ H ρ M K Q R E h k =>
 ha I α σ H ρ M _ _ R E h fun vs ds I1 α1 H1 M1 s1 p1 R1 r1 h1=>hr I1 α1 H1 M1 vs ds K Q R1 r1 h1 (k.mono s1 p1)
def uNoPart:TO3:=fun _ M K=>K none M
def uPart (ua:TE3):TO3:=fun ρ M K=>ua ρ M fun d M1=>∃ i,d=.int i/\K (some i) M1
def s_noPart:SimO C Z tNoPart uNoPart:=fun I α σ H ρ M K Q R E h k=>k none I α H M (.refl _) (List.prefix_refl _) R h
def s_part (ha:SimE C Z ta ua):SimO C Z (tPart ta) (uPart ua):=fun I α σ H ρ M K Q R E h k =>
 ha I α σ H ρ M _ _ R E h fun v d I1 α1 H1 M1 s1 p1 R1 r1 h1=>by
  obtain ⟨i,e,h1⟩:=h1
  subst e
  cases r1
  exact ⟨i,rfl,k (some i) I1 α1 H1 M1 s1 p1 R1 h1⟩
def uSl (r:D->Option Int->Option Int->Mem->K3->Prop) (ua:TE3) (ul uh:TO3):TE3:=fun ρ M K=>ua ρ M fun d M1=>ul ρ M1 fun l M2=>uh ρ M2 fun g M3=>r d l g M3 K
def s_sl {r:V->Option Int->Option Int->Hp->VK->Prop} {r3:D->Option Int->Option Int->Mem->K3->Prop} {tl th:TO} {ul uh:TO3} (hr:SimL C Z r r3) (ha:SimE C Z ta ua) (hl:SimO C Z tl ul) (hh:SimO C Z th uh):SimE C Z (tSl r ta tl th) (uSl r3 ua ul uh):=fun I α σ H ρ M K Q R E h k =>
 ha I α σ H ρ M _ _ R E h fun v d I1 α1 H1 M1 s1 p1 R1 r1 h1 =>
  hl I1 α1 σ H1 ρ M1 _ _ R1 (E.mono s1 p1) h1 fun lo I2 α2 H2 M2 s2 p2 R2 h2 =>
   hh I2 α2 σ H2 ρ M2 _ _ R2 (E.mono (s1.trans s2) (p1.trans p2)) h2 fun hi I3 α3 H3 M3 s3 p3 R3 h3 =>
    hr I3 α3 H3 M3 v d lo hi K Q R3 (r1.mono (s2.trans s3) (p2.trans p3)) h3 (k.mono (s1.trans (s2.trans s3)) (p1.trans (p2.trans p3)))
end
def lstOf (M:Mem):D->Option (List D)
 | .lst ds=>some ds
 | .frz ds=>some ds
 | .cell k=>match M[k]? with | some (.lst ds)=>some ds | _=>none
 | _=>none
def lsOf (M:Mem):D->Option (List D)
 | .lst ds=>some ds
 | .cell k=>match M[k]? with | some (.lst ds)=>some ds | _=>none
 | _=>none
def tupOf:D->Option (List D)
 | .tup ds=>some ds
 | _=>none
def seqOf (M:Mem):D->Option (List D)
 | .tup ds=>some ds
 | d=>lstOf M d
section
variable {C:Cf} {Z:Anc} {I:Hp} {α:List Addr} {H:Hp} {M:Mem} {v:V} {d:D} {ds:List D}
def cell_lst (R:Rel C Z I α H M) {k:Nat} {a:Addr} (e:α[k]?=some a) (h:M[k]?=some (.lst ds)):∃ vs,H a=some (.lst vs)/\Reps C I α vs ds:=(R.cel k a _ e h).1
theorem lst_at (R:Rel C Z I α H M) (r:Rep C I α v d) (h:lstOf M d=some ds):∃ a vs,v=.ref a/\SqL C.k H a vs/\Reps C I α vs ds:=by
 cases r with
 | lst e r=>cases h; exact ⟨_,_,rfl,SqL.of (R.sub _ _ e),r⟩
 | frz e r=>cases h; exact ⟨_,_,rfl,R.sub.seq e,r⟩
 | @cell a k e =>
  unfold lstOf at h
  cases hm:M[k]? with
  | none=>simp only [hm] at h; cases h
  | some m =>
   cases m with
   | lst es =>
    simp only [hm] at h
    cases h
    obtain ⟨vs,e1,r⟩:=cell_lst R e hm
    exact ⟨_,_,rfl,SqL.of e1,r⟩
   | _=>simp only [hm] at h; cases h
 | _=>cases h
theorem ls_at (R:Rel C Z I α H M) (r:Rep C I α v d) (h:lsOf M d=some ds):∃ a vs,v=.ref a/\H a=some (.lst vs)/\Reps C I α vs ds:=by
 cases r with
 | lst e r=>cases h; exact ⟨_,_,rfl,R.sub _ _ e,r⟩
 | @cell a k e =>
  unfold lsOf at h
  cases hm:M[k]? with
  | none=>simp only [hm] at h; cases h
  | some m =>
   cases m with
   | lst es =>
    simp only [hm] at h
    cases h
    obtain ⟨vs,e1,r⟩:=cell_lst R e hm
    exact ⟨_,_,rfl,e1,r⟩
   | _=>simp only [hm] at h; cases h
 | _=>cases h
theorem tup_at (R:Rel C Z I α H M) (r:Rep C I α v d) (h:tupOf d=some ds):∃ a vs,v=.ref a/\H a=some (.tup vs)/\I a=some (.tup vs)/\Reps C I α vs ds:=by
 cases r with
 | tup e r=>cases h; exact ⟨_,_,rfl,R.sub _ _ e,e,r⟩
 | _=>cases h
end
def cut {τ:Type} (xs:List τ) (lo hi:Option Int):List τ:=(xs.drop (HT.sIx xs.length 0 lo)).take (HT.sIx xs.length xs.length hi - HT.sIx xs.length 0 lo)
theorem Reps.cut {C:Cf} {I:Hp} {α:List Addr} {vs:List V} {ds:List D} (r:Reps C I α vs ds) (lo hi:Option Int):Reps C I α (cutV vs lo hi) (cut ds lo hi):=by
 unfold cutV L3.cut
 rw [r.length]
 exact (r.drop _).take _
def cut_map {τ υ:Type} (f:τ->υ) (xs:List τ) (lo hi:Option Int):cut (xs.map f) lo hi=(cut xs lo hi).map f:=by
 unfold cut
 rw [List.length_map,List.map_take,List.map_drop]
theorem Reps.atI {C:Cf} {I:Hp} {α:List Addr} {vs:List V} {ds:List D} {i:Int} {d:D} (r:Reps C I α vs ds) (h:atI ds i=some d):∃ v,L2.atI vs i=some v/\Rep C I α v d:=by
 unfold L2.atI at h ⊢
 rw [r.length]
 cases e:ixN ds.length i with
 | none=>rw [e] at h; cases h
 | some j =>
  rw [e] at h
  exact r.get (i:=j) h
section
variable {C:Cf} {Z:Anc} {K':W.Frag} {X:Cx}
def OpR.or {f:Value->Value->Sem Value} {r r':R2} (h:OpR X f r) (h':OpR X f r'):OpR X f (fun x y H Q=>r x y H Q\/r' x y H Q):=by
 intro pins s σ H x y v u Q I rx ry q
 rcases q with q | q
 ·exact h pins s σ H x y v u Q I rx ry q
 ·exact h' pins s σ H x y v u Q I rx ry q
def SlR.or {r r':V->Option Int->Option Int->Hp->VK->Prop} (h:SlR X r) (h':SlR X r'):SlR X (fun x l u H Q=>r x l u H Q\/r' x l u H Q):=by
 intro pins s σ H x v vl vu lo hi sl Q I rx hs pl pu q
 rcases q with q | q
 ·exact h pins s σ H x v vl vu lo hi sl Q I rx hs pl pu q
 ·exact h' pins s σ H x v vl vu lo hi sl Q I rx hs pl pu q
def rStrAdd:R2:=fun x y H Q=>∃ i j,x=.str i/\y=.str j/\i.length + j.length<=sizeLine/\Q (.str (i++j)) H
def rAddU (K:W.Frag):R2:=fun x y H Q=>rI0 (fun i j=>.int (i + j)) x y H Q\/rStrAdd x y H Q\/rCat x y H Q\/rCatT K x y H Q
def ux_add (h:X.K=K'):OpR X (binaryOp .Add) (rAddU K'):=by
 subst h
 exact OpR.or op_add (OpR.or op_add_str (OpR.or op_cat op_catT))
def add3:R3:=fun d e M K=>match d,e with
 | .int i,.int j=>K (.int (i + j)) M
 | .str a,.str b=>a.length + b.length<=sizeLine/\K (.str (a++b)) M
 | .tup xs,.tup ys=>(xs≠[]/\xs.length + ys.length<=sizeLine)/\K (.tup (xs++ys)) M
 | d,e=>∃ xs ys,lsOf M d=some xs/\lsOf M e=some ys/\xs.length + ys.length<=sizeLine/\K (.lst (xs++ys)) M
def add_lst {I:Hp} {α:List Addr} {H:Hp} {M:Mem} {x y:V} {d e:D} {K:K3} {Q:VK} (R:Rel C Z I α H M) (r1:Rep C I α x d) (r2:Rep C I α y e)
  (h:∃ xs ys,lsOf M d=some xs/\lsOf M e=some ys/\xs.length + ys.length<=sizeLine/\K (.lst (xs++ys)) M) (k:Fin C Z I α K Q):rAddU C.k x y H Q:=by
 obtain ⟨xs,ys,e1,e2,hl,h⟩:=h
 obtain ⟨a,vs,rfl,ea,ra⟩:=ls_at R r1 e1
 obtain ⟨b,ws,rfl,eb,rb⟩:=ls_at R r2 e2
 refine .inr (.inr (.inl ⟨a,b,vs,ws,rfl,rfl,ea,eb,by rw [ra.length,rb.length]; exact hl,fun p hp=>?_⟩))
 obtain ⟨R2,s2,e2⟩:=R.new (o:=.lst (vs++ws)) hp
 exact k _ _ _ α _ M s2 (List.prefix_refl _) R2 (.lst e2 ((ra.app rb).mono s2 (List.prefix_refl _))) h
theorem s_add:SimR C Z (rAddU C.k) add3:=fun I α H M x y d e K Q R r1 r2 h k=>by
 have go:=fun h=>add_lst R r1 r2 h k
 cases d with
 | int i =>
  cases e with
  | int j=>cases r1; cases r2; exact .inl ⟨i,j,rfl,rfl,k _ _ I α H M (.refl _) (List.prefix_refl _) R (.int _) h⟩
  | _=>exact go h
 | str a =>
  cases e with
  | str b=>cases r1; cases r2; exact .inr (.inl ⟨a,b,rfl,rfl,h.1,k _ _ I α H M (.refl _) (List.prefix_refl _) R (.str _) h.2⟩)
  | _=>exact go h
 | tup xs =>
  cases e with
  | tup ys =>
   obtain ⟨⟨h1,h2⟩,h⟩:=h
   obtain ⟨a,vs,rfl,ea,ia,ra⟩:=tup_at R r1 rfl
   obtain ⟨b,ws,rfl,eb,ib,rb⟩:=tup_at R r2 rfl
   refine .inr (.inr (.inr ⟨a,b,vs,ws,rfl,rfl,SqT.of ea,SqT.of eb,fun z=>?_,by rw [ra.length,rb.length]; exact h2,fun z=>?_,fun _ p hp=>?_⟩))
   ·subst z
    cases ra
    exact h1 rfl
   ·subst z
    cases rb
    rw [List.append_nil] at h
    exact k _ _ I α H M (.refl _) (List.prefix_refl _) R r1 h
   ·obtain ⟨R2,s2,e2⟩:=R.new (o:=.tup (vs++ws)) hp
    exact k _ _ _ α _ M s2 (List.prefix_refl _) R2 (.tup e2 ((ra.app rb).mono s2 (List.prefix_refl _))) h
  | _=>exact go h
 | _=>exact go h
def int3 (c:Int->Int->Prop) (g:Int->Int->D):R3:=fun d e M K=>∃ i j,d=.int i/\e=.int j/\c i j/\K (g i j) M
def int30 (g:Int->Int->D):R3:=fun d e M K=>∃ i j,d=.int i/\e=.int j/\K (g i j) M
def s_rI {c:Int->Int->Prop} {g:Int->Int->V} {g3:Int->Int->D} (hg:∀ I α i j,Rep C I α (g i j) (g3 i j)):SimR C Z (rI c g) (int3 c g3):=fun I α H M x y d e K Q R r1 r2 h k=>by
 obtain ⟨i,j,rfl,rfl,hc,h⟩:=h
 cases r1
 cases r2
 exact ⟨i,j,rfl,rfl,hc,k _ _ I α H M (.refl _) (List.prefix_refl _) R (hg _ _ _ _) h⟩
def s_rI0 {g:Int->Int->V} {g3:Int->Int->D} (hg:∀ I α i j,Rep C I α (g i j) (g3 i j)):SimR C Z (rI0 g) (int30 g3):=fun I α H M x y d e K Q R r1 r2 h k=>by
 obtain ⟨i,j,rfl,rfl,h⟩:=h
 cases r1
 cases r2
 exact ⟨i,j,rfl,rfl,k _ _ I α H M (.refl _) (List.prefix_refl _) R (hg _ _ _ _) h⟩
def s_mod:SimR C Z (rI (fun _ j=>0 < j) fun i j=>.int (i % j)) (int3 (fun _ j=>0 < j) fun i j=>.int (i % j)):=s_rI fun _ _ _ _=>.int _
def s_gt:SimR C Z (rI0 fun i j=>.bl (decide (j < i))) (int30 fun i j=>.bl (decide (j < i))):=s_rI0 fun _ _ _ _=>.bl _
def neg3:D->Mem->K3->Prop:=fun d M K=>∃ i,d=.int i/\K (.int (-i)) M
def s_neg:SimU C Z (rU fun i=>.int (-i)) neg3:=fun I α H M x d K Q R r h k=>by
 obtain ⟨i,rfl,h⟩:=h
 cases r
 exact ⟨i,rfl,k _ _ I α H M (.refl _) (List.prefix_refl _) R (.int _) h⟩
def rMulU:R2:=fun x y H Q=>rI CMul (fun i j=>.int (i * j)) x y H Q\/rRep x y H Q
def ux_mul:OpR X (binaryOp .Mult) rMulU:=OpR.or op_mul op_rep
def mul3:R3:=fun d e M K=>match d,e with
 | .int i,.int j=>CMul i j/\K (.int (i * j)) M
 | d,e=>∃ xs k,lsOf M d=some xs/\e=.int k/\(-(2 ^ 63)<=k/\k < 2 ^ 63/\xs.length * k.toNat<=sizeLine)/\K (.lst (List.replicate k.toNat xs).flatten) M
theorem Reps.rep {I:Hp} {α:List Addr} {vs:List V} {ds:List D} (r:Reps C I α vs ds):∀ n,Reps C I α (List.replicate n vs).flatten (List.replicate n ds).flatten
 | 0=>.nil
 | n + 1=>by
  rw [List.replicate_succ,List.replicate_succ,List.flatten_cons,List.flatten_cons]
  exact r.app (Reps.rep r n)
theorem s_mul:SimR C Z rMulU mul3:=fun I α H M x y d e K Q R r1 r2 h k=>by
 have go:(∃ xs k,lsOf M d=some xs/\e=.int k/\(-(2 ^ 63)<=k/\k < 2 ^ 63/\xs.length * k.toNat<=sizeLine)/\K (.lst (List.replicate k.toNat xs).flatten) M)->rMulU x y H Q:=fun h=>by
  obtain ⟨xs,j,e1,rfl,⟨h1,h2,h3⟩,h⟩:=h
  cases r2
  obtain ⟨a,vs,rfl,ea,ra⟩:=ls_at R r1 e1
  refine .inr ⟨a,j,vs,rfl,rfl,ea,h1,h2,by rw [ra.length]; exact h3,fun p hp=>?_⟩
  obtain ⟨R2,s2,e2⟩:=R.new (o:=.lst (List.replicate j.toNat vs).flatten) hp
  exact k _ _ _ α _ M s2 (List.prefix_refl _) R2 (.lst e2 ((ra.rep _).mono s2 (List.prefix_refl _))) h
 cases d with
 | int i =>
  cases e with
  | int j=>cases r1; cases r2; exact .inl ⟨i,j,rfl,rfl,h.1,k _ _ I α H M (.refl _) (List.prefix_refl _) R (.int _) h.2⟩
  | _=>exact go h
 | _=>exact go h
def ux_ix (h:X.K=K'):IxR X (rIx K'):=by subst h; exact ix_seq
def ix3:R3:=fun d e M K=>match d with
 | .str z=>∃ i c,e=.int i/\z.length<=sizeLine/\L2.atI z.cps.toList i=some c/\K (.str ⟨#[c]⟩) M
 | d=>∃ xs i v,seqOf M d=some xs/\e=.int i/\L2.atI xs i=some v/\K v M
theorem s_ix:SimR C Z (rIx C.k) ix3:=fun I α H M x y d e K Q R r1 r2 h k=>by
 have go:(∃ xs i v,seqOf M d=some xs/\e=.int i/\L2.atI xs i=some v/\K v M)->rIx C.k x y H Q:=fun h=>by
  obtain ⟨xs,i,w,e1,rfl,e3,hk⟩:=h
  cases r2
  by_cases ht:∃ ys,d=.tup ys
  ·obtain ⟨ys,rfl⟩:=ht
   cases e1
   obtain ⟨a,vs,rfl,ea,_,ra⟩:=tup_at R r1 rfl
   obtain ⟨v,e4,rv⟩:=ra.atI e3
   exact .inr (.inl ⟨a,vs,i,v,rfl,rfl,SqT.of ea,e4,k _ _ I α H M (.refl _) (List.prefix_refl _) R rv hk⟩)
  ·have e1':lstOf M d=some xs:=by
    cases d with
    | tup ys=>exact absurd ⟨ys,rfl⟩ ht
    | _=>exact e1
   obtain ⟨a,vs,rfl,ea,ra⟩:=lst_at R r1 e1'
   obtain ⟨v,e4,rv⟩:=ra.atI e3
   exact .inl ⟨a,vs,i,v,rfl,rfl,ea,e4,k _ _ I α H M (.refl _) (List.prefix_refl _) R rv hk⟩
 cases d with
 | str z =>
  obtain ⟨i,c,rfl,h1,h2,h⟩:=h
  cases r1
  cases r2
  exact .inr (.inr ⟨z,i,c,rfl,rfl,h1,h2,k _ _ I α H M (.refl _) (List.prefix_refl _) R (.str _) h⟩)
 | _=>exact go h
def rSlU (K:W.Frag):V->Option Int->Option Int->Hp->VK->Prop:=fun x l u H Q=>rSlL K x l u H Q\/rSlW K x l u H Q\/rSlS x l u H Q
def ux_sl (h:X.K=K'):SlR X (rSlU K'):=by subst h; exact SlR.or sl_list (SlR.or sl_tupW sl_str)
def sl3:D->Option Int->Option Int->Mem->K3->Prop:=fun d lo hi M K=>match d with
 | .str z=>z.length<=sizeLine/\K (.str (Txt.slice z lo hi)) M
 | .tup xs=>K (.tup (cut xs lo hi)) M
 | d=>∃ xs,lstOf M d=some xs/\K (.lst (cut xs lo hi)) M
theorem Reps.inj_cut {I:Hp} {α:List Addr} {vs:List V} {ds:List D} (r:Reps C I α vs ds) {lo hi:Option Int} (h:cutV vs lo hi=vs):L3.cut ds lo hi=ds:=by
 have hl:(cutV vs lo hi).length=vs.length:=by rw [h]
 unfold cutV at hl
 rw [List.length_take,List.length_drop] at hl
 unfold L3.cut
 rw [r.length] at hl
 generalize HT.sIx ds.length 0 lo=a at *
 generalize HT.sIx ds.length ds.length hi=b at *
 by_cases hd:ds.length=0
 ·rw [List.length_eq_zero_iff.mp hd]; simp
 ·have:a=0:=by omega
  subst this
  rw [List.drop_zero,List.take_of_length_le]
  omega
theorem s_sl3:SimL C Z (rSlU C.k) sl3:=fun I α H M x d lo hi K Q R r1 h k=>by
 have go:(∃ xs,lstOf M d=some xs/\K (.lst (cut xs lo hi)) M)->rSlU C.k x lo hi H Q:=fun h=>by
  obtain ⟨xs,e1,h⟩:=h
  obtain ⟨a,vs,rfl,ea,ra⟩:=lst_at R r1 e1
  refine .inl ⟨a,vs,rfl,ea,fun p hp=>?_⟩
  obtain ⟨R2,s2,e2⟩:=R.new (o:=.lst (cutV vs lo hi)) hp
  exact k _ _ _ α _ M s2 (List.prefix_refl _) R2 (.lst e2 ((ra.cut lo hi).mono s2 (List.prefix_refl _))) h
 cases d with
 | str z=>cases r1; exact .inr (.inr ⟨z,rfl,h.1,k _ _ I α H M (.refl _) (List.prefix_refl _) R (.str _) h.2⟩)
 | tup xs =>
  obtain ⟨a,vs,rfl,ea,ia,ra⟩:=tup_at R r1 rfl
  refine .inr (.inl ⟨a,vs,rfl,SqT.of ea,fun z=>?_,fun p hp=>?_⟩)
  ·have h2:K (.tup (cut xs lo hi)) M:=h
   rw [ra.inj_cut z] at h2
   exact k _ _ I α H M (.refl _) (List.prefix_refl _) R r1 h2
  ·obtain ⟨R2,s2,e2⟩:=R.new (o:=.tup (cutV vs lo hi)) hp
   exact k _ _ _ α _ M s2 (List.prefix_refl _) R2 (.tup e2 ((ra.cut lo hi).mono s2 (List.prefix_refl _))) h
 | _=>exact go h
end
mutual
inductive PyR (M:Mem):D->PyData->Prop where
 | non:PyR M .non .none
 | bl (b:Bool):PyR M (.bl b) (.bool b)
 | int (i:Int):PyR M (.int i) (.int i)
 | str (x:Str):PyR M (.str x) (.str x)
 | seq {d:D} {ds:List D} {ps:List PyData}:lstOf M d=some ds->PyRs M ds ps->PyR M d (.list ps)
 | tup {ds:List D} {ps:List PyData}:PyRs M ds ps->PyR M (.tup ds) (.tuple ps)
inductive PyRs (M:Mem):List D->List PyData->Prop where
 | nil:PyRs M [] []
 | cons {d:D} {p:PyData} {ds:List D} {ps:List PyData}:PyR M d p->PyRs M ds ps->PyRs M (d::ds) (p::ps)
end
section
variable {C:Cf} {Z:Anc} {I:Hp} {α:List Addr} {H:Hp} {M:Mem}
mutual
theorem py_dv (R:Rel C Z I α H M):∀ {v:V} {d:D} {p:PyData},PyR M d p->Rep C I α v d->DV C.k H v p
 | _,_,_,.non,r=>by cases r; exact .non
 | _,_,_,.bl b,r=>by cases r; exact .bl b
 | _,_,_,.int b,r=>by cases r; exact .int b
 | _,_,_,.str b,r=>by cases r; exact .str b
 | _,_,_,.seq e q,r=>by
  obtain ⟨a,vs,rfl,ea,ra⟩:=lst_at R r e
  exact .lst ea (pys_dv R q ra)
 | _,_,_,.tup q,r=>by
  obtain ⟨a,vs,rfl,ea,_,ra⟩:=tup_at R r rfl
  exact .tup (SqT.of ea) (pys_dv R q ra)
theorem pys_dv (R:Rel C Z I α H M):∀ {vs:List V} {ds:List D} {ps:List PyData},PyRs M ds ps->Reps C I α vs ds->DVs C.k H vs ps
 | _,_,_,.nil,r=>by cases r; exact .nil
 | _,_,_,.cons a b,r=>by
  cases r with
  | cons r1 r2=>exact .cons (py_dv R a r1) (pys_dv R b r2)
end
end
def eqS:D->D->Option Bool
 | .non,.non=>some true | .non,.int _=>some false | .int _,.non=>some false | .non,.bl _=>some false | .bl _,.non=>some false | .non,.str _=>some false | .str _,.non=>some false
 | .int i,.int j=>some (decide (i=j)) | .bl i,.bl j=>some (decide (i=j)) | .str i,.str j=>some (decide (i=j))
 | .int _,.str _=>some false | .str _,.int _=>some false | .bl _,.str _=>some false | .str _,.bl _=>some false
 | _,_=>none
def eqV (d e:D) (M:Mem) (K:Bool->Prop):Prop:=(∃ b,eqS d e=some b/\K b)\/∃ p q,PyR M d p/\PyR M e q/\SeqAt.shaped p=true/\SeqAt.shaped q=true/\K (PyData.eqv p q)
def eq3:R3:=fun d e M K=>eqV d e M fun b=>K (.bl b) M
def ne3:R3:=fun d e M K=>eqV d e M fun b=>K (.bl (!b)) M
section
variable {C:Cf} {Z:Anc} {K':W.Frag} {X:Cx}
def rEqU (K:W.Frag):R2:=fun x y H Q=>rEq x y H Q\/rEqD K x y H Q
def rNeU (K:W.Frag):R2:=fun x y H Q=>rNe x y H Q\/rNeD K x y H Q
def ux_eq (h:X.K=K') (hu:X.A.units + 64 < cLine):OpR X (compareOp .Eq) (rEqU K'):=by subst h; exact OpR.or op_eq (op_eqD hu)
def ux_ne (h:X.K=K') (hu:X.A.units + 64 < cLine):OpR X (compareOp .NotEq) (rNeU K'):=by subst h; exact OpR.or op_ne (op_neD hu)
def eqS_rep {I:Hp} {α:List Addr} {x y:V} {d e:D} {b:Bool} (r1:Rep C I α x d) (r2:Rep C I α y e) (h:eqS d e=some b):scal x y=true/\decide (x=y)=b:=by
 cases r1 <;> first | (cases h; done) | (cases r2 <;> first | (cases h; done) | (injection h with h; subst h; refine ⟨rfl,?_⟩; simp))
def s_eq:SimR C Z (rEqU C.k) eq3:=fun I α H M x y d e K Q R r1 r2 h k=>by
 rcases h with ⟨b,eb,h⟩ | ⟨p,q,h1,h2,h3,h4,h⟩
 ·obtain ⟨z1,z2⟩:=eqS_rep r1 r2 eb
  exact .inl ⟨z1,by rw [z2]; exact k _ _ I α H M (.refl _) (List.prefix_refl _) R (.bl _) h⟩
 ·exact .inr ⟨p,q,py_dv R h1 r1,py_dv R h2 r2,h3,h4,k _ _ I α H M (.refl _) (List.prefix_refl _) R (.bl _) h⟩
def s_ne:SimR C Z (rNeU C.k) ne3:=fun I α H M x y d e K Q R r1 r2 h k=>by
 rcases h with ⟨b,eb,h⟩ | ⟨p,q,h1,h2,h3,h4,h⟩
 ·obtain ⟨z1,z2⟩:=eqS_rep r1 r2 eb
  exact .inl ⟨z1,by rw [z2]; exact k _ _ I α H M (.refl _) (List.prefix_refl _) R (.bl _) h⟩
 ·exact .inr ⟨p,q,py_dv R h1 r1,py_dv R h2 r2,h3,h4,k _ _ I α H M (.refl _) (List.prefix_refl _) R (.bl _) h⟩
end
structure Enc (τ:Type) [DecidableEq τ] where
 e:τ->D
 py:τ->PyData
 n:Nat
 ok:∀ M a,PyR M (e a) (py a)
 shp:∀ a,Shp n (py a)
 eq:∀ a b,PyData.eqv (py a) (py b)=decide (a=b)
 hn:n<=60
theorem eqv_all {τ:Type} [DecidableEq τ] {f:τ->PyData} (h:∀ a b,PyData.eqv (f a) (f b)=decide (a=b)):∀ (a b:List τ),PyData.eqvAll (a.map f) (b.map f)=decide (a=b)
 | [],[]=>by simp [PyData.eqvAll]
 | [],_::_=>by simp [PyData.eqvAll]
 | _::_,[]=>by simp [PyData.eqvAll]
 | a::r,b::t=>by
  rw [List.map_cons,List.map_cons,PyData.eqvAll,h,eqv_all h r t]
  simp
theorem pys_map {τ:Type} {M:Mem} {e:τ->D} {py:τ->PyData} (h:∀ a,PyR M (e a) (py a)):∀ as:List τ,PyRs M (as.map e) (as.map py)
 | []=>.nil
 | a::r=>.cons (h a) (pys_map h r)
def encInt:Enc Int:=⟨.int,.int,0,fun _=>.int,shp_int,fun a b=>by rw [PyData.eqv,Bool.beq_eq_decide_eq],by decide⟩
def encLst {τ:Type} [DecidableEq τ] (E:Enc τ) (h:E.n<=50:=by decide):Enc (List τ) where
 e as:=.lst (as.map E.e)
 py as:=.list (as.map E.py)
 n:=E.n + 1
 ok:=fun M as=>.seq rfl (pys_map (E.ok M) as)
 shp:=fun as=>shp_list fun d hd=>by
  obtain ⟨a,_,rfl⟩:=List.mem_map.mp hd
  exact E.shp a
 eq:=fun a b=>by rw [PyData.eqv,eqv_all E.eq]
 hn:=by omega
def encTup {τ:Type} [DecidableEq τ] (E:Enc τ) (h:E.n<=50:=by decide):Enc (List τ) where
 e as:=.tup (as.map E.e)
 py as:=.tuple (as.map E.py)
 n:=E.n + 1
 ok:=fun M as=>.tup (pys_map (E.ok M) as)
 shp:=fun as=>shp_tuple fun d hd=>by
  obtain ⟨a,_,rfl⟩:=List.mem_map.mp hd
  exact E.shp a
 eq:=fun a b=>by rw [PyData.eqv,eqv_all E.eq]
 hn:=by omega
def shp_up {n m:Nat} {d:PyData} (h:Shp n d) (l:n<=m):Shp m d:=⟨h.1,Nat.le_trans h.2 l⟩
def encPr {τ υ:Type} [DecidableEq τ] [DecidableEq υ] (E:Enc τ) (F:Enc υ) (h:E.n<=50:=by decide) (h':F.n<=50:=by decide):Enc (τ×υ) where
 e p:=.tup [E.e p.1,F.e p.2]
 py p:=.tuple [E.py p.1,F.py p.2]
 n:=max E.n F.n + 1
 ok:=fun M p=>.tup (.cons (E.ok M _) (.cons (F.ok M _) .nil))
 shp:=fun p=>shp_tuple fun d hd=>by
  rcases List.mem_cons.mp hd with z | hd
  ·rw [z]; exact shp_up (E.shp _) (Nat.le_max_left _ _)
  ·rw [List.mem_singleton.mp hd]; exact shp_up (F.shp _) (Nat.le_max_right _ _)
 eq:=fun a b=>by
  obtain ⟨a1,a2⟩:=a
  obtain ⟨b1,b2⟩:=b
  rw [PyData.eqv,PyData.eqvAll,PyData.eqvAll,PyData.eqvAll,E.eq,F.eq]
  simp
 hn:=by omega
theorem eqv_enc {τ:Type} [DecidableEq τ] (E:Enc τ) {a b:τ} {M:Mem} {K:Bool->Prop} (h:K (decide (a=b))):eqV (E.e a) (E.e b) M K :=
 .inr ⟨_,_,E.ok M a,E.ok M b,(E.shp a).shaped (by have:=E.hn; omega),(E.shp b).shaped (by have:=E.hn; omega),by rw [E.eq]; exact h⟩
theorem eqv_seq {τ:Type} [DecidableEq τ] (E:Enc τ) {d d':D} {a b:List τ} {M:Mem} {K:Bool->Prop} (h1:lstOf M d=some (a.map E.e)) (h2:lstOf M d'=some (b.map E.e)) (h:K (decide (a=b))) (hn:E.n<=50:=by decide):eqV d d' M K :=
 .inr ⟨_,_,.seq h1 (pys_map (E.ok M) a),.seq h2 (pys_map (E.ok M) b),((encLst E hn).shp a).shaped (by have:=(encLst E hn).hn; omega),((encLst E hn).shp b).shaped (by have:=(encLst E hn).hn; omega),by
  have:=(encLst E hn).eq a b
  rw [show PyData.eqv (PyData.list (a.map E.py)) (PyData.list (b.map E.py))=decide (a=b) from this]
  exact h⟩
inductive Ty3 where
 | non | bool | int | str | list | tuple | dict
 deriving DecidableEq
def tyOf (M:Mem):D->Option Ty3
 | .non=>some .non | .bl _=>some .bool | .int _=>some .int | .str _=>some .str | .lst _=>some .list | .tup _=>some .tuple | .dct _=>some .dict | .dcT _=>some .dict
 | .cell k=>match M[k]? with | some (.lst _)=>some .list | some (.dct _)=>some .dict | some (.dcT _)=>some .dict | _=>none
 | _=>none
section
variable {C:Cf} {Z:Anc}
def len3:List D->Mem->K3->Prop:=fun ds M K=>match ds with
 | [.str z]=>z.length<=sizeLine/\K (.int z.length) M
 | [d]=>∃ xs,seqOf M d=some xs/\K (.int xs.length) M
 | _=>False
theorem s_len:SimC C Z (rLen C.k) len3:=fun I α H M xs ds K Q R r h k=>by
 have go:∀ d v,Rep C I α v d->(∃ xs,seqOf M d=some xs/\K (.int xs.length) M)->rLen C.k [v] H Q:=fun d v r h=>by
  obtain ⟨ys,e1,h⟩:=h
  by_cases ht:∃ zs,d=.tup zs
  ·obtain ⟨zs,rfl⟩:=ht
   cases e1
   obtain ⟨a,vs,rfl,ea,_,ra⟩:=tup_at R r rfl
   exact ⟨_,_,rfl,.inr ⟨_,SqT.of ea,rfl⟩,by rw [ra.length]; exact k _ _ I α H M (.refl _) (List.prefix_refl _) R (.int _) h⟩
  ·have e1':lstOf M d=some ys:=by
    cases d with
    | tup ys=>exact absurd ⟨ys,rfl⟩ ht
    | _=>exact e1
   obtain ⟨a,vs,rfl,ea,ra⟩:=lst_at R r e1'
   exact ⟨_,_,rfl,.inl ⟨_,ea,rfl⟩,by rw [ra.length]; exact k _ _ I α H M (.refl _) (List.prefix_refl _) R (.int _) h⟩
 cases r with
 | nil=>exact h.elim
 | cons r1 r2 =>
  cases r2 with
  | nil =>
   rename_i v d
   cases d with
   | str z=>cases r1; exact ⟨_,_,rfl,⟨h.1,rfl⟩,k _ _ I α H M (.refl _) (List.prefix_refl _) R (.int _) h.2⟩
   | _=>exact go _ _ r1 h
  | cons _ _ =>
   rename_i v d _ _ _ _ _ _
   cases d <;> exact h.elim
def list3:List D->Mem->K3->Prop:=fun ds M K=>∃ d xs,ds=[d]/\seqOf M d=some xs/\K (.lst xs) M
def seq_at {I:Hp} {α:List Addr} {H:Hp} {M:Mem} {v:V} {d:D} {xs:List D} (R:Rel C Z I α H M) (r:Rep C I α v d) (h:seqOf M d=some xs):∃ a vs,v=.ref a/\(SqL C.k H a vs\/SqT C.k H a vs)/\Reps C I α vs xs:=by
 by_cases ht:∃ zs,d=.tup zs
 ·obtain ⟨zs,rfl⟩:=ht
  cases h
  obtain ⟨a,vs,rfl,ea,_,ra⟩:=tup_at R r rfl
  exact ⟨a,vs,rfl,.inr (SqT.of ea),ra⟩
 ·have e1':lstOf M d=some xs:=by
   cases d with
   | tup ys=>exact absurd ⟨ys,rfl⟩ ht
   | _=>exact h
  obtain ⟨a,vs,rfl,ea,ra⟩:=lst_at R r e1'
  exact ⟨a,vs,rfl,.inl ea,ra⟩
theorem s_list:SimC C Z (rListOf C.k) list3:=fun I α H M xs ds K Q R r h k=>by
 obtain ⟨d,ys,rfl,e,h⟩:=h
 cases r with
 | cons r1 r2 =>
  cases r2
  obtain ⟨a,vs,rfl,ea,ra⟩:=seq_at R r1 e
  refine ⟨a,vs,rfl,ea,fun p hp=>?_⟩
  obtain ⟨R2,s2,e2⟩:=R.new (o:=.lst vs) hp
  exact k _ _ _ α _ M s2 (List.prefix_refl _) R2 (.lst e2 (ra.mono s2 (List.prefix_refl _))) h
def tuple3:List D->Mem->K3->Prop:=fun ds M K=>∃ d xs,ds=[d]/\seqOf M d=some xs/\K (.tup xs) M
theorem s_tuple:SimC C Z (rTupOf C.k) tuple3:=fun I α H M xs ds K Q R r h k=>by
 obtain ⟨d,ys,rfl,e,h⟩:=h
 cases r with
 | cons r1 r2 =>
  cases r2
  by_cases ht:∃ zs,d=.tup zs
  ·obtain ⟨zs,rfl⟩:=ht
   cases e
   obtain ⟨a,vs,rfl,ea,_,ra⟩:=tup_at R r1 rfl
   exact ⟨a,vs,rfl,.inr ⟨SqT.of ea,k _ _ I α H M (.refl _) (List.prefix_refl _) R r1 h⟩⟩
  ·have e1':lstOf M d=some ys:=by
    cases d with
    | tup ys=>exact absurd ⟨ys,rfl⟩ ht
    | _=>exact e
   obtain ⟨a,vs,rfl,ea,ra⟩:=lst_at R r1 e1'
   refine ⟨a,vs,rfl,.inl ⟨ea,fun p hp=>?_⟩⟩
   obtain ⟨R2,s2,e2⟩:=R.new (o:=.tup vs) hp
   exact k _ _ _ α _ M s2 (List.prefix_refl _) R2 (.tup e2 (ra.mono s2 (List.prefix_refl _))) h
def two3 (f:Int->Int->D):List D->Mem->K3->Prop:=fun ds M K=>∃ i j,ds=[.int i,.int j]/\K (f i j) M
theorem s_max2:SimC C Z (fun xs H Q=>∃ i j,xs=[.int i,.int j]/\Q (.int (if j > i then j else i)) H) (two3 fun i j=>.int (if j > i then j else i)):=fun I α H M xs ds K Q R r h k=>by
 obtain ⟨i,j,rfl,h⟩:=h
 cases r with
 | cons r1 r2 =>
  cases r2 with
  | cons r2 r3 =>
   cases r3
   cases r1
   cases r2
   exact ⟨i,j,rfl,k _ _ I α H M (.refl _) (List.prefix_refl _) R (.int _) h⟩
theorem s_min2:SimC C Z (fun xs H Q=>∃ i j,xs=[.int i,.int j]/\Q (.int (if j < i then j else i)) H) (two3 fun i j=>.int (if j < i then j else i)):=fun I α H M xs ds K Q R r h k=>by
 obtain ⟨i,j,rfl,h⟩:=h
 cases r with
 | cons r1 r2 =>
  cases r2 with
  | cons r2 r3 =>
   cases r3
   cases r1
   cases r2
   exact ⟨i,j,rfl,k _ _ I α H M (.refl _) (List.prefix_refl _) R (.int _) h⟩
theorem Reps.of_bls {I:Hp} {α:List Addr}:∀ {vs:List V} (bs:List Bool),Reps C I α vs (bs.map D.bl)->vs=bs.map V.bl
 | _,[],h=>by cases h; rfl
 | _,n::r,h=>by
  cases h with
  | cons a b =>
   cases a
   rw [Reps.of_bls r b]
   rfl
def all3:List D->Mem->K3->Prop:=fun ds M K=>∃ (d:D) (bs:List Bool),ds=[d]/\lstOf M d=some (bs.map D.bl)/\K (.bl (bs.all id)) M
theorem s_all:SimC C Z (fun xs H Q=>∃ (p:Addr) (bs:List Bool),xs=[.ref p]/\SqL C.k H p (bs.map V.bl)/\Q (.bl (bs.all id)) H) all3:=fun I α H M xs ds K Q R r h k=>by
 obtain ⟨d,bs,rfl,e,h⟩:=h
 cases r with
 | cons r1 r2 =>
  cases r2
  obtain ⟨a,vs,rfl,ea,ra⟩:=lst_at R r1 e
  rw [ra.of_bls bs] at ea
  exact ⟨a,bs,rfl,ea,k _ _ I α H M (.refl _) (List.prefix_refl _) R (.bl _) h⟩
def Rel.putL {I:Hp} {α:List Addr} {H:Hp} {M:Mem} (R:Rel C Z I α H M) {k:Nat} {a:Addr} {vs:List V} {ds:List D} (ha:α[k]?=some a) (r:Reps C I α vs ds):Rel C Z I α (upd H a (.lst vs)) (M.set k (.lst ds)) :=
 R.put (m:=.lst ds) ha fun H' e=>⟨vs,e,r⟩
def tyV_lst {H:Hp} {a:Addr} {vs:List V} (e:H a=some (.lst vs)):tyV C.k "list" (.ref a) H:=.inl ⟨rfl,vs,SqL.of e⟩
def app3:D->List D->Mem->K3->Prop:=fun d ds M K=>∃ k xs y,d=.cell k/\ds=[y]/\M[k]?=some (.lst xs)/\xs.length < sizeLine/\K .non (M.set k (.lst (xs++[y])))
def ext3:D->List D->Mem->K3->Prop:=fun d ds M K=>∃ k e xs ys,d=.cell k/\ds=[e]/\M[k]?=some (.lst xs)/\lsOf M e=some ys/\xs.length + ys.length<=sizeLine/\K .non (M.set k (.lst (xs++ys)))
def pop3:D->List D->Mem->K3->Prop:=fun d ds M K=>∃ k xs y,d=.cell k/\ds=[]/\M[k]?=some (.lst xs)/\xs[xs.length - 1]?=some y/\K y (M.set k (.lst xs.dropLast))
def Reps.dropLast {I:Hp} {α:List Addr} {vs:List V} {ds:List D} (r:Reps C I α vs ds):Reps C I α vs.dropLast ds.dropLast:=by
 rw [List.dropLast_eq_take,List.dropLast_eq_take,r.length]
 exact r.take _
variable {to:TE} {uo:TE3} {t:TA} {u:TA3}
def s_append (ho:SimE C Z to uo) (ha:SimA C Z t u):SimE C Z (tBM C.k "list" rAppend to t) (fun ρ M K=>uo ρ M fun d M1=>lsOf M1 d≠none/\u ρ M1 fun ds M2=>app3 d ds M2 K):=fun I α σ H ρ M K Q R E h k =>
 ho I α σ H ρ M _ _ R E h fun v d I1 α1 H1 M1 s1 p1 R1 r1 h1=>by
  obtain ⟨hn,h1⟩:=h1
  cases hl:lsOf M1 d with
  | none=>exact absurd hl hn
  | some zs =>
   obtain ⟨a,vs,rfl,ea,ra⟩:=ls_at R1 r1 hl
   refine ⟨tyV_lst ea,ha I1 α1 σ H1 ρ M1 _ _ R1 (E.mono s1 p1) h1 fun ws ds I2 α2 H2 M2 s2 p2 R2 r2 h2=>?_⟩
   obtain ⟨j,xs,y,rfl,rfl,e1,hz,h2⟩:=h2
   cases r2 with
   | cons ry rn =>
    cases rn
    cases (r1.mono s2 p2) with
    | cell ec =>
     obtain ⟨us,eu,ru⟩:=cell_lst R2 ec e1
     refine ⟨a,us,_,rfl,rfl,eu,by rw [ru.length]; exact hz,?_⟩
     exact k _ _ I2 α2 _ _ (s1.trans s2) (p1.trans p2) (R2.putL ec (ru.app (.one ry))) .non h2
def s_extend (ho:SimE C Z to uo) (ha:SimA C Z t u):SimE C Z (tBM C.k "list" rExtend to t) (fun ρ M K=>uo ρ M fun d M1=>lsOf M1 d≠none/\u ρ M1 fun ds M2=>ext3 d ds M2 K):=fun I α σ H ρ M K Q R E h k =>
 ho I α σ H ρ M _ _ R E h fun v d I1 α1 H1 M1 s1 p1 R1 r1 h1=>by
  obtain ⟨hn,h1⟩:=h1
  cases hl:lsOf M1 d with
  | none=>exact absurd hl hn
  | some zs =>
   obtain ⟨a,vs,rfl,ea,ra⟩:=ls_at R1 r1 hl
   refine ⟨tyV_lst ea,ha I1 α1 σ H1 ρ M1 _ _ R1 (E.mono s1 p1) h1 fun ws ds I2 α2 H2 M2 s2 p2 R2 r2 h2=>?_⟩
   obtain ⟨j,e,xs,ys,rfl,rfl,e1,e2,hz,h2⟩:=h2
   cases r2 with
   | cons ry rn =>
    cases rn
    obtain ⟨b,bs,rfl,eb,rb⟩:=ls_at R2 ry e2
    cases (r1.mono s2 p2) with
    | cell ec =>
     obtain ⟨us,eu,ru⟩:=cell_lst R2 ec e1
     refine ⟨a,b,us,bs,rfl,rfl,eu,eb,by rw [ru.length,rb.length]; exact hz,?_⟩
     exact k _ _ I2 α2 _ _ (s1.trans s2) (p1.trans p2) (R2.putL ec (ru.app rb)) .non h2
def s_pop (ho:SimE C Z to uo):SimE C Z (tBM0 C.k "list" rPop to) (fun ρ M K=>uo ρ M fun d M1=>pop3 d [] M1 K):=fun I α σ H ρ M K Q R E h k =>
 ho I α σ H ρ M _ _ R E h fun v d I1 α1 H1 M1 s1 p1 R1 r1 h1=>by
  obtain ⟨j,xs,y,rfl,_,e1,e2,h1⟩:=h1
  cases r1 with
  | @cell a _ ec =>
   obtain ⟨us,eu,ru⟩:=cell_lst R1 ec e1
   obtain ⟨w,ew,rw'⟩:=ru.get e2
   exact ⟨tyV_lst eu,a,us,w,rfl,rfl,eu,by rw [ru.length]; exact ew,k _ _ I1 α1 _ _ s1 p1 (R1.putL ec (ru.dropLast)) rw' h1⟩
end
def Below (n:Nat) (d:D):Prop:=∀ C I α v,Rep C I α v d->Rep C I (α.take n) v d
def BelowM (n:Nat) (m:MO):Prop:=∀ C I α H a,MoAt C I α H a m->MoAt C I (α.take n) H a m
inductive BelowE (n:Nat):Ev->Ev->Prop where
 | nil:BelowE n [] []
 | skip {o:Option D} {r r':Ev}:BelowE n r r'->BelowE n (o::r) (none::r')
 | keep {d:D} {r r':Ev}:Below n d->BelowE n r r'->BelowE n (some d::r) (some d::r')
inductive BelS (n:Nat):Ev->Ev->Ev->Prop where
 | nil:BelS n [] [] []
 | skip {o0 o:Option D} {r0 r r':Ev}:BelS n r0 r r'->BelS n (o0::r0) (o::r) (none::r')
 | same {d:D} {r0 r r':Ev}:BelS n r0 r r'->BelS n (some d::r0) (some d::r) (some d::r')
 | keep {o0:Option D} {d:D} {r0 r r':Ev}:Below n d->BelS n r0 r r'->BelS n (o0::r0) (some d::r) (some d::r')
def Dr (ρ0:Ev) (M0:Mem) (P:Ev->Mem->Prop) (ρ:Ev) (M:Mem):Prop:=P ρ M\/(∃ ρ',(∃ X,M=M0++X)/\BelS M0.length ρ0 ρ ρ'/\P ρ' M0)\/∃ n ρ',M0.length<=n/\BelowE n ρ ρ'/\(∀ m∈M.take n,BelowM n m)/\P ρ' (M.take n)
def Dk (n0:Nat) (K:K3):K3:=fun d M=>K d M\/∃ n,n0<=n/\Below n d/\(∀ m∈M.take n,BelowM n m)/\K d (M.take n)
section
variable {C:Cf} {Z:Anc} {I I':Hp} {α α':List Addr} {H H':Hp} {M:Mem}
theorem BelowE.rep {n:Nat} {ρ ρ':Ev} (b:BelowE n ρ ρ'):∀ {σ:St},RepE C I α σ ρ->RepE C I (α.take n) σ ρ':=by
 induction b with
 | nil=>exact fun h=>⟨h.1,fun i d e=>by simp at e⟩
 | @skip o r r' b ih =>
  intro σ h
  cases σ with
  | nil=>cases h.1
  | cons s σ =>
   have h':RepE C I α σ r:=⟨by simpa using h.1,fun i d e=>by
    obtain ⟨v,a,b⟩:=h.2 (i + 1) d (by simpa using e)
    exact ⟨v,by simpa using a,b⟩⟩
   obtain ⟨l,g⟩:=ih h'
   refine ⟨by rw [List.length_cons,List.length_cons,l],fun i d e=>?_⟩
   cases i with
   | zero=>simp at e
   | succ i =>
    obtain ⟨v,a,b⟩:=g i d (by simpa using e)
    exact ⟨v,by simpa using a,b⟩
 | @keep d0 r r' hb b ih =>
  intro σ h
  cases σ with
  | nil=>cases h.1
  | cons s σ =>
   have h':RepE C I α σ r:=⟨by simpa using h.1,fun i d e=>by
    obtain ⟨v,a,b⟩:=h.2 (i + 1) d (by simpa using e)
    exact ⟨v,by simpa using a,b⟩⟩
   obtain ⟨l,g⟩:=ih h'
   refine ⟨by rw [List.length_cons,List.length_cons,l],fun i d e=>?_⟩
   cases i with
   | zero =>
    obtain ⟨v,a,b⟩:=h.2 0 d e
    simp at e
    subst e
    exact ⟨v,a,hb _ _ _ _ b⟩
   | succ i =>
    obtain ⟨v,a,b⟩:=g i d (by simpa using e)
    exact ⟨v,by simpa using a,b⟩
def pre_take {α0:List Addr} (p:α0<+:α) {n:Nat} (h:α0.length<=n):α0<+:α.take n:=by
 obtain ⟨t,rfl⟩:=p
 rw [List.take_append,List.take_of_length_le h]
 exact List.prefix_append _ _
def Rel.take (R:Rel C Z I α H M) (n:Nat) (hz:Z.a.length<=n) (hb:∀ m∈M.take n,BelowM n m):Rel C Z I (α.take n) H (M.take n):=by
 refine ⟨R.ai,pre_take R.aa hz,R.sub,by rw [List.length_take,List.length_take,R.len],R.nd.sublist (List.take_sublist _ _),fun k a m h1 h2=>?_⟩
 have h1':α[k]?=some a:=by
  rw [List.getElem?_take] at h1
  split at h1
  ·exact h1
  ·cases h1
 have h2':M[k]?=some m:=by
  rw [List.getElem?_take] at h2
  split at h2
  ·exact h2
  ·cases h2
 obtain ⟨a1,a2⟩:=R.cel k a m h1' h2'
 exact ⟨hb m (List.mem_of_getElem? h2) _ _ _ _ _ a1,a2⟩
theorem Fin.dk {K:K3} {Q:VK} (k:Fin C Z I α K Q) {n0:Nat} (hn:α.length=n0) (ha:Z.a<+:α):Fin C Z I α (Dk n0 K) Q:=fun v d I' α' H' M' s p R r h=>by
 rcases h with h | ⟨n,hl,hb,hm,h⟩
 ·exact k v d I' α' H' M' s p R r h
 ·exact k v d I' (α'.take n) H' (M'.take n) s (pre_take p (by omega)) (R.take n (by have:=ha.length_le; omega) hm) (hb _ _ _ _ r) h
end
def below_int {n:Nat} {i:Int}:Below n (.int i):=fun _ _ _ _ r=>by cases r; exact .int _
def below_bl {n:Nat} {i:Bool}:Below n (.bl i):=fun _ _ _ _ r=>by cases r; exact .bl _
def below_str {n:Nat} {i:Str}:Below n (.str i):=fun _ _ _ _ r=>by cases r; exact .str _
def below_non {n:Nat}:Below n .non:=fun _ _ _ _ r=>by cases r; exact .non
def below_code {n:Nat} {S:List Pr}:Below n (.code S):=fun _ _ _ _ r=>by cases r with | code h=>exact .code h
theorem below_cell {n k:Nat} (h:k < n):Below n (.cell k):=fun _ _ α _ r=>by
 cases r with
 | cell e=>exact .cell (by rw [List.getElem?_take,if_pos h]; exact e)
theorem below_all {n:Nat} {ds:List D} (h:∀ d∈ds,Below n d) {C:Cf} {I:Hp} {α:List Addr}:∀ {vs:List V},Reps C I α vs ds->Reps C I (α.take n) vs ds:=by
 induction ds with
 | nil=>intro vs r; cases r; exact .nil
 | cons d ds ih =>
  intro vs r
  cases r with
  | cons a b=>exact .cons (h d List.mem_cons_self _ _ _ _ a) (ih (fun x hx=>h x (List.mem_cons_of_mem _ hx)) b)
def below_lst {n:Nat} {ds:List D} (h:∀ d∈ds,Below n d):Below n (.lst ds):=fun _ _ _ _ r=>by cases r with | lst e r=>exact .lst e (below_all h r)
def below_frz {n:Nat} {ds:List D} (h:∀ d∈ds,Below n d):Below n (.frz ds):=fun _ _ _ _ r=>by cases r with | frz e r=>exact .frz e (below_all h r)
def below_tup {n:Nat} {ds:List D} (h:∀ d∈ds,Below n d):Below n (.tup ds):=fun _ _ _ _ r=>by cases r with | tup e r=>exact .tup e (below_all h r)
def below_map {τ:Type} {n:Nat} {f:τ->D} (h:∀ a,Below n (f a)) (as:List τ):∀ d∈as.map f,Below n d:=fun d hd=>by
 obtain ⟨a,_,rfl⟩:=List.mem_map.mp hd
 exact h a
def below_nil {n:Nat}:∀ d∈([]:List D),Below n d:=fun _ h=>nomatch h
def below_cons {n:Nat} {d:D} {ds:List D} (h:Below n d) (r:∀ d∈ds,Below n d):∀ x∈d::ds,Below n x:=fun x hx=>by
 rcases List.mem_cons.mp hx with z | z
 ·rw [z]; exact h
 ·exact r x z
def bm_hand {n:Nat}:BelowM n .hand:=fun _ _ _ _ _ h=>h
def bm_tab {n:Nat} {P:Addr} {p:Pos} {q:Str}:BelowM n (.tab P p q):=fun _ _ _ _ _ h=>h
def bm_lst {n:Nat} {ds:List D} (h:∀ d∈ds,Below n d):BelowM n (.lst ds):=fun _ _ _ _ _ x=>by
 obtain ⟨vs,e,r⟩:=x
 exact ⟨vs,e,below_all h r⟩
def WfM (M:Mem):Prop:=∀ m∈M,BelowM M.length m
theorem below_dct {n:Nat} {kvs:List (Key×D)} (h:∀ kv∈kvs,Below n kv.2) {C:Cf} {I:Hp} {α:List Addr}:∀ {vs:List (Key×V)},RepK C I α vs kvs->RepK C I (α.take n) vs kvs:=by
 induction kvs with
 | nil=>intro vs r; cases r; exact .nil
 | cons d ds ih =>
  intro vs r
  cases r with
  | cons a b=>exact .cons (h _ List.mem_cons_self _ _ _ _ a) (ih (fun x hx=>h x (List.mem_cons_of_mem _ hx)) b)
theorem below_dcT {n:Nat} {kvs:List (List Key×D)} (h:∀ kv∈kvs,Below n kv.2) {C:Cf} {I:Hp} {α:List Addr}:∀ {vs:List (List Key×V)},RepT C I α vs kvs->RepT C I (α.take n) vs kvs:=by
 induction kvs with
 | nil=>intro vs r; cases r; exact .nil
 | cons d ds ih =>
  intro vs r
  cases r with
  | cons a b=>exact .cons (h _ List.mem_cons_self _ _ _ _ a) (ih (fun x hx=>h x (List.mem_cons_of_mem _ hx)) b)
theorem below_exc {n:Nat} {kvs:List (Str×D)} (h:∀ kv∈kvs,Below n kv.2) {C:Cf} {I:Hp} {α:List Addr}:∀ {vs:List (Str×V)},RepF C I α vs kvs->RepF C I (α.take n) vs kvs:=by
 induction kvs with
 | nil=>intro vs r; cases r; exact .nil
 | cons d ds ih =>
  intro vs r
  cases r with
  | cons a b=>exact .cons (h _ List.mem_cons_self _ _ _ _ a) (ih (fun x hx=>h x (List.mem_cons_of_mem _ hx)) b)
mutual
theorem Rep.bel {C:Cf} {I:Hp} {α:List Addr}:∀ {v:V} {d:D},Rep C I α v d->Below α.length d:=by
 intro _ _ h
 cases h with
 | non=>exact below_non
 | bl b=>exact below_bl
 | int i=>exact below_int
 | str x=>exact below_str
 | ty n=>exact fun _ _ _ _ r=>by cases r; exact .ty _
 | «at» a=>exact fun _ _ _ _ r=>by cases r; exact .at _
 | tup e r=>exact below_tup (Reps.bel r)
 | lst e r=>exact below_lst (Reps.bel r)
 | frz e r=>exact below_frz (Reps.bel r)
 | dct e r=>exact fun _ _ _ _ q=>by cases q with | dct e q=>exact .dct e (below_dct (RepK.bel r) q)
 | dcT e r=>exact fun _ _ _ _ q=>by cases q with | dcT e q=>exact .dcT e (below_dcT (RepT.bel r) q)
 | code h=>exact below_code
 | cell e=>exact below_cell (List.getElem?_eq_some_iff.mp e).1
 | exc e f r=>exact fun _ _ _ _ q=>by cases q with | exc e f q=>exact .exc e f (below_exc (RepF.bel r) q)
theorem Reps.bel {C:Cf} {I:Hp} {α:List Addr}:∀ {vs:List V} {ds:List D},Reps C I α vs ds->∀ d∈ds,Below α.length d:=by
 intro _ _ h
 cases h with
 | nil=>exact below_nil
 | cons h r=>exact below_cons (Rep.bel h) (Reps.bel r)
theorem RepK.bel {C:Cf} {I:Hp} {α:List Addr}:∀ {vs:List (Key×V)} {ds:List (Key×D)},RepK C I α vs ds->∀ kv∈ds,Below α.length kv.2:=by
 intro _ _ h
 cases h with
 | nil=>exact fun _ h=>nomatch h
 | cons h r =>
  exact fun kv hk=>by
   rcases List.mem_cons.mp hk with z | z
   ·rw [z]; exact Rep.bel h
   ·exact RepK.bel r kv z
theorem RepF.bel {C:Cf} {I:Hp} {α:List Addr}:∀ {vs:List (Str×V)} {ds:List (Str×D)},RepF C I α vs ds->∀ kv∈ds,Below α.length kv.2:=by
 intro _ _ h
 cases h with
 | nil=>exact fun _ h=>nomatch h
 | cons h r =>
  exact fun kv hk=>by
   rcases List.mem_cons.mp hk with z | z
   ·rw [z]; exact Rep.bel h
   ·exact RepF.bel r kv z
theorem RepT.bel {C:Cf} {I:Hp} {α:List Addr}:∀ {vs:List (List Key×V)} {ds:List (List Key×D)},RepT C I α vs ds->∀ kv∈ds,Below α.length kv.2:=by
 intro _ _ h
 cases h with
 | nil=>exact fun _ h=>nomatch h
 | cons h r =>
  exact fun kv hk=>by
   rcases List.mem_cons.mp hk with z | z
   ·rw [z]; exact Rep.bel h
   ·exact RepT.bel r kv z
end
def bm_dct {n:Nat} {ds:List (Key×D)} (h:∀ d∈ds,Below n d.2):BelowM n (.dct ds):=fun _ _ _ _ _ x=>by
 obtain ⟨vs,e,r⟩:=x
 exact ⟨vs,e,below_dct h r⟩
def bm_dcT {n:Nat} {ds:List (List Key×D)} (h:∀ d∈ds,Below n d.2):BelowM n (.dcT ds):=fun _ _ _ _ _ x=>by
 obtain ⟨vs,e,r⟩:=x
 exact ⟨vs,e,below_dcT h r⟩
def bm_drK {n:Nat} {ds:List (Key×D)} (h:∀ d∈ds,Below n d.2):BelowM n (.drK ds):=fun _ _ _ _ _ x=>by
 obtain ⟨vs,e,r⟩:=x
 exact ⟨vs,e,below_dct h r⟩
def bm_drT {n:Nat} {ds:List (List Key×D)} (h:∀ d∈ds,Below n d.2):BelowM n (.drT ds):=fun _ _ _ _ _ x=>by
 obtain ⟨vs,e,r⟩:=x
 exact ⟨vs,e,below_dcT h r⟩
def bm_dfT {n:Nat} {o:Obj} {vs:List (List Key×V)} {ds:List (List Key×D)} (h:∀ d∈ds,Below n d.2):BelowM n (.dfT o vs ds):=fun _ _ _ _ _ x=>⟨x.1,below_dcT h x.2⟩
def bm_dfK {n:Nat} {o:Obj} {vs:List (Key×V)} {ds:List (Key×D)} (h:∀ d∈ds,Below n d.2):BelowM n (.dfK o vs ds):=fun _ _ _ _ _ x=>⟨x.1,below_dct h x.2⟩
theorem bm_ins {n:Nat} {Cl:Addr} {fs:List (Str×D)} (h:∀ d∈fs,Below n d.2):BelowM n (.ins Cl fs):=fun C I α H a x=>by
 obtain ⟨dx,vs,e,r⟩:=x
 refine ⟨dx,vs,e,?_⟩
 clear e
 induction fs generalizing vs with
 | nil=>cases r; exact .nil
 | cons d ds ih =>
  cases r with
  | cons a b=>exact .cons ⟨a.1,h _ List.mem_cons_self _ _ _ _ a.2⟩ (ih (fun x hx=>h x (List.mem_cons_of_mem _ hx)) _ b)
theorem MoAt.bel {C:Cf} {I:Hp} {α:List Addr} {H:Hp} {a:Addr} {m:MO} (h:MoAt C I α H a m):BelowM α.length m:=by
 cases m with
 | lst ds=>obtain ⟨vs,e,r⟩:=h; exact bm_lst r.bel
 | dct ds=>obtain ⟨vs,e,r⟩:=h; exact bm_dct r.bel
 | dcT ds=>obtain ⟨vs,e,r⟩:=h; exact bm_dcT r.bel
 | drK ds=>obtain ⟨vs,e,r⟩:=h; exact bm_drK r.bel
 | drT ds=>obtain ⟨vs,e,r⟩:=h; exact bm_drT r.bel
 | dfT o vs ds=>exact bm_dfT h.2.bel
 | dfK o vs ds=>exact bm_dfK h.2.bel
 | ins Cl fs =>
  obtain ⟨dx,vs,e,r⟩:=h
  refine bm_ins fun kv hk=>?_
  clear e
  induction r with
  | nil=>cases hk
  | cons a b ih =>
   rcases List.mem_cons.mp hk with z | z
   ·rw [z]; exact a.2.bel
   ·exact ih z
 | hand=>exact bm_hand
 | tab P pos q=>exact bm_tab
def Rel.wf {C:Cf} {Z:Anc} {I:Hp} {α:List Addr} {H:Hp} {M:Mem} (R:Rel C Z I α H M):WfM M:=fun m hm=>by
 obtain ⟨k,hk,rfl⟩:=List.getElem_of_mem hm
 have hk':k < α.length:=by rw [R.len]; exact hk
 have:=(R.cel k _ _ (List.getElem?_eq_getElem hk') (List.getElem?_eq_getElem hk)).1.bel
 rwa [R.len] at this
theorem BelS.belowE {n:Nat} {ρ0 ρ ρ':Ev} (b:BelS n ρ0 ρ ρ'):(∀ (i:Nat) (d:D),ρ0[i]?=some (some d)->Below n d)->BelowE n ρ ρ':=by
 induction b with
 | nil=>exact fun _=>.nil
 | skip _ ih=>exact fun h=>.skip (ih fun i d e=>h (i + 1) d (by simpa using e))
 | same _ ih=>exact fun h=>.keep (h 0 _ rfl) (ih fun i d e=>h (i + 1) d (by simpa using e))
 | keep hb _ ih=>exact fun h=>.keep hb (ih fun i d e=>h (i + 1) d (by simpa using e))
theorem Dr.out {C:Cf} {Z:Anc} {I I0:Hp} {α0 α:List Addr} {H H0:Hp} {M M0:Mem} {P:Ev->Mem->Prop} {σ σ0:St} {ρ ρ0:Ev} (h:Dr ρ0 M0 P ρ M) (R0:Rel C Z I0 α0 H0 M0) (E0:RepE C I0 α0 σ0 ρ0) (p:α0<+:α) (R:Rel C Z I α H M) (E:RepE C I α σ ρ) :
  ∃ α' ρ' M',α0<+:α'/\Rel C Z I α' H M'/\RepE C I α' σ ρ'/\P ρ' M':=by
 rcases h with h | ⟨ρ',⟨X,rfl⟩,hb,h⟩ | ⟨n,ρ',hl,hb,hm,h⟩
 ·exact ⟨α,ρ,M,p,R,E,h⟩
 ·have hb':=hb.belowE fun i d e=>by
   obtain ⟨v,_,r⟩:=E0.2 i d e
   have:=r.bel
   rwa [R0.len] at this
  have et:(M0++X).take M0.length=M0:=List.take_left ..
  have R1:=R.take M0.length (by rw [<- R0.len]; exact R0.aa.length_le) (by rw [et]; exact R0.wf)
  rw [et] at R1
  exact ⟨α.take M0.length,ρ',M0,pre_take p (by rw [R0.len]; exact Nat.le_refl _),R1,hb'.rep E,h⟩
 ·exact ⟨α.take n,ρ',M.take n,pre_take p (by rw [R0.len]; omega),R.take n (by have:=R0.aa.length_le; have:=R0.len; omega) hm,hb.rep E,h⟩
section
variable {C:Cf} {Z:Anc} {t t':TS} {u u':TS3} {te:TE} {ue:TE3} {tc:TT} {uc:TT3} {g:TG} {ug:TG3} {gs:TGs} {ugs:TGs3}
def uSeq (u u':TS3):TS3:=fun E ρ M=>u { E with nx:=u' E } ρ M
def s_seq (h1:SimS C Z t u) (h2:SimS C Z t' u'):SimS C Z (tSeq t t') (uSeq u u'):=fun I α σ H ρ M E D' R RE h F =>
 h1 I α σ H ρ M { E with nx:=u' E } { D' with nx:=t' D' } R RE h ⟨fun I1 α1 σ1 H1 ρ1 M1 s p R1 RE1 h1=>h2 I1 α1 σ1 H1 ρ1 M1 E D' R1 RE1 h1 (F.mono s p),F.rt,F.bk,F.ct⟩
def uNext:TS3:=fun E ρ M=>E.nx ρ M
def s_next:SimS C Z tNext uNext:=fun I α σ H ρ M E D' R RE h F=>F.nx I α σ H ρ M (.refl _) (List.prefix_refl _) R RE h
def uDrop (ue:TE3):TS3:=fun E ρ M=>ue ρ M fun _ M1=>E.nx ρ M1
def s_drop (he:SimE C Z te ue):SimS C Z (tDrop te) (uDrop ue):=fun I α σ H ρ M E D' R RE h F =>
 he I α σ H ρ M _ _ R RE h fun v d I1 α1 H1 M1 s p R1 r h1=>F.nx I1 α1 σ H1 ρ M1 s p R1 (RE.mono s p) h1
def uRet (ue:TE3):TS3:=fun E ρ M=>ue ρ M E.rt
def s_ret (he:SimE C Z te ue):SimS C Z (tRet te) (uRet ue):=fun I α σ H ρ M E D' R RE h F=>he I α σ H ρ M _ _ R RE h F.rt
def uIfS (c:TT3) (u u':TS3):TS3:=fun E ρ M=>c ρ M fun b M1=>if b=true then u E ρ M1 else u' E ρ M1
def s_ifS (hc:SimT C Z tc uc) (h1:SimS C Z t u) (h2:SimS C Z t' u'):SimS C Z (tIfS tc t t') (uIfS uc u u'):=fun I α σ H ρ M E D' R RE h F =>
 hc I α σ H ρ M _ _ R RE h fun b I1 α1 H1 M1 s p R1 h3=>by
  cases b with
  | true =>
   rw [if_pos rfl] at h3 ⊢
   exact h1 I1 α1 σ H1 ρ M1 E D' R1 (RE.mono s p) h3 (F.mono s p)
  | false =>
   rw [if_neg Bool.false_ne_true] at h3 ⊢
   exact h2 I1 α1 σ H1 ρ M1 E D' R1 (RE.mono s p) h3 (F.mono s p)
def uAsg (ue:TE3) (ug:TG3):TS3:=fun E ρ M=>ue ρ M fun d M1=>ug d ρ M1 E.nx
def s_asg (he:SimE C Z te ue) (hg:SimG C Z g ug):SimS C Z (tAsg te g) (uAsg ue ug):=fun I α σ H ρ M E D' R RE h F =>
 he I α σ H ρ M _ _ R RE h fun v d I1 α1 H1 M1 s p R1 r h1=>hg I1 α1 σ H1 ρ M1 v d _ _ R1 (RE.mono s p) r h1 (F.nx.mono s p)
def uG (i:Nat):TG3:=fun d ρ M K=>K (ρ.set i (some d)) M
def s_g (i:Nat):SimG C Z (gName i) (uG i):=fun I α σ H ρ M v d K Q R RE r h k=>k I α _ H _ M (.refl _) (List.prefix_refl _) R (RE.set r i) h
def uGNil:TGs3:=fun ds ρ M K=>ds=[]/\K ρ M
def uGCons (ug:TG3) (ugs:TGs3):TGs3:=fun ds ρ M K=>∃ d r,ds=d::r/\ug d ρ M fun ρ' M'=>ugs r ρ' M' K
def s_gnil:SimGs C Z gNil uGNil:=fun I α σ H ρ M vs ds K Q R RE r h k=>by
 obtain ⟨rfl,h⟩:=h
 cases r
 exact ⟨rfl,k I α σ H ρ M (.refl _) (List.prefix_refl _) R RE h⟩
theorem s_gcons (h1:SimG C Z g ug) (h2:SimGs C Z gs ugs):SimGs C Z (gCons g gs) (uGCons ug ugs):=fun I α σ H ρ M vs ds K Q R RE r h k=>by
 obtain ⟨d,r',rfl,h⟩:=h
 cases r with
 | cons a b=>exact ⟨_,_,rfl,h1 I α σ H ρ M _ d _ _ R RE a h fun I1 α1 σ1 H1 ρ1 M1 s p R1 RE1 h3=>h2 I1 α1 σ1 H1 ρ1 M1 _ _ _ _ R1 RE1 (b.mono s p) h3 (k.mono s p)⟩
def uGTup (n:Nat) (ugs:TGs3):TG3:=fun d ρ M K=>∃ ds,tupOf d=some ds/\ds.length=n/\ugs ds ρ M K
def s_gtup {n:Nat} (h:SimGs C Z gs ugs):SimG C Z (gTup C.k n gs) (uGTup n ugs):=fun I α σ H ρ M v d K Q R RE r hh k=>by
 obtain ⟨ds,e,hl,hh⟩:=hh
 obtain ⟨a,vs,rfl,ea,_,ra⟩:=tup_at R r e
 exact ⟨a,vs,rfl,SqT.of ea,by rw [ra.length]; exact hl,h I α σ H ρ M vs ds K Q R RE ra hh k⟩
def uWhile (uc:TT3) (u:TS3):TS3:=fun E ρ M=>∃ P:Nat->Ev->Mem->Prop,(∃ m,P m ρ M)/\∀ m ρ1 M1,P m ρ1 M1->uc ρ1 M1 fun b M2=>if b=true then u { E with nx:=fun ρ' M'=>∃ m',m' < m/\Dr ρ M (P m') ρ' M',ct:=fun ρ' M'=>∃ m',m' < m/\Dr ρ M (P m') ρ' M',bk:=E.nx } ρ1 M2 else E.nx ρ1 M2
theorem s_while (hc:SimT C Z tc uc) (hb:SimS C Z t u):SimS C Z (tWhile tc t) (uWhile uc u):=fun I α σ H ρ M E D' R RE h F=>by
 obtain ⟨P,⟨m0,h0⟩,hs⟩:=h
 have hlen:=R.len
 refine ⟨fun m σ1 H1=>∃ I1 α1 ρ1 M1,Same I I1/\α<+:α1/\Rel C Z I1 α1 H1 M1/\RepE C I1 α1 σ1 ρ1/\P m ρ1 M1,⟨m0,I,α,ρ,M,.refl _,List.prefix_refl _,R,RE,h0⟩,?_⟩
 rintro m σ1 H1 ⟨I1,α1,ρ1,M1,s1,p1,R1,RE1,h1⟩
 refine hc I1 α1 σ1 H1 ρ1 M1 _ _ R1 RE1 (hs m ρ1 M1 h1) fun b I2 α2 H2 M2 s2 p2 R2 h2=>?_
 cases b with
 | false =>
  rw [if_neg Bool.false_ne_true] at h2 ⊢
  exact F.nx I2 α2 σ1 H2 ρ1 M2 (s1.trans s2) (p1.trans p2) R2 (RE1.mono s2 p2) h2
 | true =>
  rw [if_pos rfl] at h2 ⊢
  refine ⟨fun σ' H'=>∃ m',m' < m/\∃ I1 α1 ρ1 M1,Same I I1/\α<+:α1/\Rel C Z I1 α1 H' M1/\RepE C I1 α1 σ' ρ1/\P m' ρ1 M1,fun σ' H' h=>h,?_⟩
  have nx:FinS C Z I2 α2 (fun ρ' M'=>∃ m',m' < m/\Dr ρ M (P m') ρ' M') (fun σ' H'=>∃ m',m' < m/\∃ I1 α1 ρ1 M1,Same I I1/\α<+:α1/\Rel C Z I1 α1 H' M1/\RepE C I1 α1 σ' ρ1/\P m' ρ1 M1):=fun I3 α3 σ3 H3 ρ3 M3 s3 p3 R3 RE3 h3=>by
   obtain ⟨m',hm,h3⟩:=h3
   obtain ⟨α4,ρ4,M4,p4,R4,RE4,h4⟩:=h3.out R RE (p1.trans (p2.trans p3)) R3 RE3
   exact ⟨m',hm,I3,α4,ρ4,M4,s1.trans (s2.trans s3),p4,R4,RE4,h4⟩
  exact hb I2 α2 σ1 H2 ρ1 M2 _ _ R2 (RE1.mono s2 p2) h2 ⟨nx,F.rt.mono (s1.trans s2) (p1.trans p2),F.nx.mono (s1.trans s2) (p1.trans p2),nx⟩
structure It3 where
 n:Nat
 item:Nat->D->Prop
 ok:Mem->Prop
abbrev TI3:=Ev->Mem->(It3->Mem->Prop)->Prop
def ItR (C:Cf) (Z:Anc) (I:Hp) (α:List Addr) (J:It) (j:It3):Prop:=∀ I' α' H' M',Same I I'->α<+:α'->Rel C Z I' α' H' M'->j.ok M' ->
 (∀ i,i < j.n->J.go i H'/\∀ x H2,J.yld i H' x H2->∃ I2 d,Same I' I2/\Rel C Z I2 α' H2 M'/\Rep C I2 α' x d/\j.item i d)/\J.stop j.n H'
def SimI (C:Cf) (Z:Anc) (w:TI) (u:TI3):Prop:=∀ I α σ H ρ M (K:It3->Mem->Prop) (R':It->Hp->Prop),Rel C Z I α H M->RepE C I α σ ρ->u ρ M K ->
 (∀ J j I' α' H' M',Same I I'->α<+:α'->Rel C Z I' α' H' M'->ItR C Z I' α' J j->K j M'->R' J H')->w σ H R'
def uIL (ue:TE3):TI3:=fun ρ M K=>ue ρ M fun d M1=>∃ ds,lstOf M1 d=some ds/\K ⟨ds.length,fun i x=>ds[i]?=some x,fun M=>lstOf M d=some ds⟩ M1
def s_il (he:SimE C Z te ue):SimI C Z (iList C.k te) (uIL ue):=fun I α σ H ρ M K R' R RE h k =>
 he I α σ H ρ M _ _ R RE h fun v d I1 α1 H1 M1 s1 p1 R1 r1 h1=>by
  obtain ⟨ds,e,h1⟩:=h1
  obtain ⟨a,vs,rfl,ea,ra⟩:=lst_at R1 r1 e
  refine ⟨a,rfl,⟨vs,ea⟩,k _ _ I1 α1 H1 M1 s1 p1 R1 (fun I2 α2 H2 M2 s2 p2 R2 ok=>?_) h1⟩
  obtain ⟨b,ws,eb,eq,rw'⟩:=lst_at R2 (r1.mono s2 p2) ok
  cases eb
  refine ⟨fun i hi=>?_,⟨ws,eq,by rw [rw'.length]; exact Nat.le_refl _⟩⟩
  have hi2:i < ws.length:=by rw [rw'.length]; exact hi
  refine ⟨⟨ws,ws[i],eq,List.getElem?_eq_getElem hi2⟩,fun x H3 y=>?_⟩
  obtain ⟨rfl,y⟩:=y
  have:=y ws eq
  rw [List.getElem?_eq_getElem hi2] at this
  cases this
  exact ⟨I2,ds[i],.refl _,R2,rw'.at hi2 hi,List.getElem?_eq_getElem hi⟩
def rngIt (lo:Int) (n:Nat):It3:=⟨n,fun i x=>x=.int (lo + i),fun _=>True⟩
def itr_r {I:Hp} {α:List Addr} {lo:Int} {n:Nat}:ItR C Z I α (Itr lo n) (rngIt lo n):=fun I' α' H' M' s p R _=>⟨fun i hi=>⟨hi,fun x H2 y=>by
 obtain ⟨rfl,rfl⟩:=y
 exact ⟨I',_,.refl _,R,.int _,rfl⟩⟩,Nat.le_refl _⟩
variable {ta:TA} {ua:TA3}
def uIR1 (ua:TA3):TI3:=fun ρ M K=>ua ρ M fun ds M1=>∃ j:Int,ds=[.int j]/\(-(2 ^ 62)<=j/\j < 2 ^ 62)/\K (rngIt 0 j.toNat) M1
def s_ir1 (ha:SimA C Z ta ua):SimI C Z (iRng1 ta) (uIR1 ua):=fun I α σ H ρ M K R' R RE h k =>
 ha I α σ H ρ M _ _ R RE h fun vs ds I1 α1 H1 M1 s1 p1 R1 r1 h1=>by
  obtain ⟨j,rfl,⟨h2,h3⟩,h1⟩:=h1
  cases r1 with
  | cons a b =>
   cases b
   cases a
   exact ⟨j,rfl,h2,h3,k _ _ I1 α1 H1 M1 s1 p1 R1 itr_r h1⟩
def uIE (ua:TA3):TI3:=fun ρ M K=>ua ρ M fun ds M1=>∃ d xs,ds=[d]/\lstOf M1 d=some xs/\K ⟨xs.length,fun i x=>∃ y,xs[i]?=some y/\x=.tup [.int i,y],fun M=>lstOf M d=some xs⟩ M1
def s_ie (ha:SimA C Z ta ua):SimI C Z (iEnum C.k ta) (uIE ua):=fun I α σ H ρ M K R' R RE h k =>
 ha I α σ H ρ M _ _ R RE h fun vs ds I1 α1 H1 M1 s1 p1 R1 r1 h1=>by
  obtain ⟨d,xs,rfl,e,h1⟩:=h1
  cases r1 with
  | cons r1 b =>
   cases b
   obtain ⟨a,vs,rfl,ea,ra⟩:=lst_at R1 r1 e
   refine ⟨a,rfl,⟨vs,ea⟩,k _ _ I1 α1 H1 M1 s1 p1 R1 (fun I2 α2 H2 M2 s2 p2 R2 ok=>?_) h1⟩
   obtain ⟨b,ws,eb,eq,rw'⟩:=lst_at R2 (r1.mono s2 p2) ok
   cases eb
   refine ⟨fun i hi=>?_,⟨ws,eq,by rw [rw'.length]; exact Nat.le_refl _⟩⟩
   have hi2:i < ws.length:=by rw [rw'.length]; exact hi
   refine ⟨⟨ws,ws[i],eq,List.getElem?_eq_getElem hi2⟩,fun x H3 y=>?_⟩
   obtain ⟨t,y,rfl,ht,rfl,q⟩:=y
   have q2:=q _ eq
   rw [List.getElem?_eq_getElem hi2] at q2
   cases q2
   obtain ⟨R3,s3,e3⟩:=R2.new (o:=.tup [.int (i:Nat),ws[i]]) ht
   exact ⟨_,.tup [.int (i:Nat),xs[i]],s3,R3,.tup e3 (.cons (.int _) (.one ((rw'.at hi2 hi).mono s3 (List.prefix_refl _)))),_,List.getElem?_eq_getElem hi,rfl⟩
def uFor (ui:TI3) (ug:TG3) (ub:TS3):TS3:=fun E ρ M=>ui ρ M fun j M1=>∃ P:Nat->Ev->Mem->Prop,(∀ i ρ M,i<=j.n->P i ρ M->j.ok M)/\P 0 ρ M1 /\
 (∀ i x ρ1 M',i < j.n->j.item i x->P i ρ1 M'->ug x ρ1 M' fun ρ2 M2=>ub { E with nx:=Dr ρ M1 (P (i + 1)),ct:=Dr ρ M1 (P (i + 1)),bk:=E.nx } ρ2 M2)/\∀ ρ M,P j.n ρ M->E.nx ρ M
theorem s_for {wi:TI} {ui:TI3} (hi:SimI C Z wi ui) (hg:SimG C Z g ug) (hb:SimS C Z t u):SimS C Z (tFor wi g t) (uFor ui ug u):=fun I α σ H ρ M E D' R RE h F =>
 hi I α σ H ρ M _ _ R RE h fun J j I1 α1 H1 M1 s1 p1 R1 IR h1=>by
  obtain ⟨P,hok,h0,hs,he⟩:=h1
  have hlen:=R1.len
  refine ⟨fun i m σ' H'=>m=j.n - i/\i<=j.n/\∃ I2 α2 ρ2 M2,Same I1 I2/\α1<+:α2/\Rel C Z I2 α2 H' M2/\RepE C I2 α2 σ' ρ2/\P i ρ2 M2,⟨j.n,rfl,Nat.zero_le _,I1,α1,ρ,M1,.refl _,List.prefix_refl _,R1,RE.mono s1 p1,h0⟩,?_⟩
  rintro i m σ' H' ⟨rfl,hi,I2,α2,ρ2,M2,s2,p2,R2,RE2,h2⟩
  obtain ⟨go,stop⟩:=IR I2 α2 H' M2 s2 p2 R2 (hok i ρ2 M2 hi h2)
  by_cases hlt:i < j.n
  ·obtain ⟨g1,g2⟩:=go i hlt
   refine .inr ⟨g1,fun σ3 H3=>∃ I3 α3 ρ3 M3,Same I1 I3/\α1<+:α3/\Rel C Z I3 α3 H3 M3/\RepE C I3 α3 σ3 ρ3/\P (i + 1) ρ3 M3,fun σ3 H3 h3=>⟨j.n - (i + 1),by omega,rfl,hlt,h3⟩,fun x H3 y=>?_⟩
   obtain ⟨I3,d,s3,R3,r3,it⟩:=g2 x H3 y
   refine hg I3 α2 σ' H3 ρ2 M2 x d _ _ R3 (RE2.mono s3 (List.prefix_refl _)) r3 (hs i d ρ2 M2 hlt it h2) fun I4 α4 σ4 H4 ρ4 M4 s4 p4 R4 RE4 h4=>?_
   have nx:FinS C Z I4 α4 (Dr ρ M1 (P (i + 1))) (fun σ3 H3=>∃ I3 α3 ρ3 M3,Same I1 I3/\α1<+:α3/\Rel C Z I3 α3 H3 M3/\RepE C I3 α3 σ3 ρ3/\P (i + 1) ρ3 M3):=fun I5 α5 σ5 H5 ρ5 M5 s5 p5 R5 RE5 h5=>by
    obtain ⟨α6,ρ6,M6,p6,R6,RE6,h6⟩:=h5.out R1 (RE.mono s1 p1) (p2.trans (p4.trans p5)) R5 RE5
    exact ⟨I5,α6,ρ6,M6,s2.trans (s3.trans (s4.trans s5)),p6,R6,RE6,h6⟩
   have F4:=F.mono (s1.trans (s2.trans (s3.trans s4))) (p1.trans (p2.trans p4))
   exact hb I4 α4 σ4 H4 ρ4 M4 _ _ R4 RE4 h4 ⟨nx,F4.rt,F4.nx,nx⟩
  ·have e:i=j.n:=by omega
   subst e
   exact .inl ⟨stop,F.nx I2 α2 σ' H' ρ2 M2 (s1.trans s2) (p1.trans p2) R2 RE2 (he ρ2 M2 h2)⟩
def sg3 (ρ:Ev) (T:List Str) (cs:List Nat):Ev:=T.map (fun _=>none)++cs.map fun i=>ρ.getD i none
def RepE.sg {I:Hp} {α:List Addr} {σ:St} {ρ:Ev} (h:RepE C I α σ ρ) (T:List Str) (cs:List Nat):RepE C I α (sgOf σ T cs) (sg3 ρ T cs):=by
 refine ⟨by unfold sgOf sg3; simp,fun i d e=>?_⟩
 unfold sg3 at e
 unfold sgOf
 by_cases hi:i < T.length
 ·rw [List.getElem?_append_left (by simpa using hi),List.getElem?_map,List.getElem?_eq_getElem hi] at e
  simp at e
 ·rw [List.getElem?_append_right (by simpa using hi),List.getElem?_map] at e
  rw [List.getElem?_append_right (by simpa using hi),List.getElem?_map]
  simp only [List.length_map] at e ⊢
  cases hc:cs[i - T.length]? with
  | none=>rw [hc] at e; cases e
  | some c =>
   rw [hc] at e
   simp only [Option.map_some,Option.some.injEq] at e ⊢
   rw [List.getD_eq_getElem?_getD] at e ⊢
   cases hr:ρ[c]? with
   | none=>rw [hr] at e; cases e
   | some o =>
    rw [hr] at e
    cases e
    obtain ⟨v,e2,r⟩:=h.2 c d hr
    exact ⟨v,by rw [e2]; rfl,r⟩
variable {tt:TT} {ut:TT3} {T:List Str} {cs:List Nat}
def cmp3 (ui:TI3) (ug:TG3) (ut:TT3) (ue:TE3) (T:List Str) (cs:List Nat) (ρ:Ev) (M:Mem) (F:List D->Mem->Prop):Prop:=ui ρ M fun j M1=>j.n<=sizeLine/\∃ P:Nat->List D->Mem->Prop,(∀ i ys M,i<=j.n->P i ys M->j.ok M)/\P 0 [] M1 /\
 (∀ i x ys M,i < j.n->j.item i x->P i ys M->ug x (sg3 ρ T cs) M fun ρ2 M2=>ut ρ2 M2 fun b M3=>if b=true then ue ρ2 M3 fun y M4=>P (i + 1) (ys++[y]) M4 else P (i + 1) ys M3)/\∀ ys M,P j.n ys M->F ys M
def uComp (ui:TI3) (ug:TG3) (ut:TT3) (ue:TE3) (T:List Str) (cs:List Nat):TE3:=fun ρ M K=>cmp3 ui ug ut ue T cs ρ M fun ys M1=>K (.lst ys) M1
def uCompC (ui:TI3) (ug:TG3) (ut:TT3) (ue:TE3) (T:List Str) (cs:List Nat):TE3:=fun ρ M K=>cmp3 ui ug ut ue T cs ρ M fun ys M1=>K (.cell M1.length) (M1++[.lst ys])
theorem comp_sim {wi:TI} {ui:TI3} (hi:SimI C Z wi ui) (hg:SimG C Z g ug) (ht:SimT C Z tt ut) (he:SimE C Z te ue) {I:Hp} {α:List Addr} {σ:St} {H:Hp} {ρ:Ev} {M:Mem} {F:List D->Mem->Prop} {Q:VK} (R:Rel C Z I α H M) (RE:RepE C I α σ ρ) (h:cmp3 ui ug ut ue T cs ρ M F)
  (k:∀ ys vs I' α' H' M',Same I I'->α<+:α'->Rel C Z I' α' H' M'->Reps C I' α' vs ys->F ys M'->∀ p,H' p=none->Q (.ref p) (upd H' p (.lst vs))):tComp wi g tt te T cs σ H Q :=
 hi I α σ H ρ M _ _ R RE h fun J j I1 α1 H1 M1 s1 p1 R1 IR h1=>by
  obtain ⟨hz,P,hok,h0,hs,hd⟩:=h1
  refine ⟨fun i m vs H'=>m=j.n - i/\i<=j.n/\∃ I2 α2 ys M2,Same I1 I2/\α1<+:α2/\Rel C Z I2 α2 H' M2/\Reps C I2 α2 vs ys/\ys.length<=i/\P i ys M2,⟨j.n,rfl,Nat.zero_le _,I1,α1,[],M1,.refl _,List.prefix_refl _,R1,.nil,Nat.le_refl _,h0⟩,?_⟩
  rintro i m vs H' ⟨rfl,hi,I2,α2,ys,M2,s2,p2,R2,r2,hl,h2⟩
  obtain ⟨go,stop⟩:=IR I2 α2 H' M2 s2 p2 R2 (hok i ys M2 hi h2)
  have hvl:=r2.length
  by_cases hlt:i < j.n
  ·obtain ⟨g1,g2⟩:=go i hlt
   refine .inr ⟨g1,by omega,fun vs3 H3=>∃ I3 α3 ys3 M3,Same I1 I3/\α1<+:α3/\Rel C Z I3 α3 H3 M3/\Reps C I3 α3 vs3 ys3/\ys3.length<=i + 1/\P (i + 1) ys3 M3,fun vs3 H3 h3=>⟨j.n - (i + 1),by omega,rfl,hlt,h3⟩,fun x H3 y=>?_⟩
   obtain ⟨I3,d,s3,R3,r3,it⟩:=g2 x H3 y
   have RE3:RepE C I3 α2 σ ρ:=RE.mono (s1.trans (s2.trans s3)) (p1.trans p2)
   refine hg I3 α2 _ H3 _ M2 x d _ _ R3 (RE3.sg T cs) r3 (hs i d ys M2 hlt it h2) fun I4 α4 σ4 H4 ρ4 M4 s4 p4 R4 RE4 h4=>?_
   refine ht I4 α4 σ4 H4 ρ4 M4 _ _ R4 RE4 h4 fun b I5 α5 H5 M5 s5 p5 R5 h5=>?_
   cases b with
   | true =>
    rw [if_pos rfl] at h5 ⊢
    refine he I5 α5 σ4 H5 ρ4 M5 _ _ R5 (RE4.mono s5 p5) h5 fun v e I6 α6 H6 M6 s6 p6 R6 r6 h6=>?_
    refine ⟨I6,α6,ys++[e],M6,s2.trans (s3.trans (s4.trans (s5.trans s6))),p2.trans (p4.trans (p5.trans p6)),R6,(r2.mono (s3.trans (s4.trans (s5.trans s6))) (p4.trans (p5.trans p6))).app (.one r6),?_,h6⟩
    rw [List.length_append,List.length_singleton]
    omega
   | false =>
    rw [if_neg Bool.false_ne_true] at h5 ⊢
    exact ⟨I5,α5,ys,M5,s2.trans (s3.trans (s4.trans s5)),p2.trans (p4.trans p5),R5,r2.mono (s3.trans (s4.trans s5)) (p4.trans p5),by omega,h5⟩
  ·have e:i=j.n:=by omega
   subst e
   exact .inl ⟨stop,by omega,k ys vs I2 α2 H' M2 (s1.trans s2) (p1.trans p2) R2 r2 (hd ys M2 h2)⟩
def s_comp {wi:TI} {ui:TI3} (hi:SimI C Z wi ui) (hg:SimG C Z g ug) (ht:SimT C Z tt ut) (he:SimE C Z te ue):SimE C Z (tComp wi g tt te T cs) (uComp ui ug ut ue T cs):=fun I α σ H ρ M K Q R RE h k =>
 comp_sim hi hg ht he R RE h fun ys vs I' α' H' M' s p R' r hF q hq=>by
  obtain ⟨R2,s2,e2⟩:=R'.new (o:=.lst vs) hq
  exact k _ _ _ α' _ M' (s.trans s2) p R2 (.lst e2 (r.mono s2 (List.prefix_refl _))) hF
def s_compC {wi:TI} {ui:TI3} (hi:SimI C Z wi ui) (hg:SimG C Z g ug) (ht:SimT C Z tt ut) (he:SimE C Z te ue):SimE C Z (tComp wi g tt te T cs) (uCompC ui ug ut ue T cs):=fun I α σ H ρ M K Q R RE h k =>
 comp_sim hi hg ht he R RE h fun ys vs I' α' H' M' s p R' r hF q hq=>by
  obtain ⟨R2,p2,e2⟩:=R'.cell (o:=.lst vs) (m:=.lst ys) hq fun H' e=>⟨vs,e,r⟩
  exact k _ _ I' _ _ _ s (p.trans p2) R2 (.cell e2) hF
def uTrue:TT3:=fun _ M K=>K true M
def s_true:SimT C Z tTrue uTrue:=fun I α σ H ρ M K Q R E h k=>k true I α H M (.refl _) (List.prefix_refl _) R h
abbrev Sp3:=List D->Mem->K3->Prop
def spOf (C:Cf) (sp:Sp3):Sp:=fun vs H Q _=>∃ Z I α M ds K,Rel C Z I α H M/\Reps C I α vs ds/\sp ds M K/\Fin C Z I α K Q
def uCall (sp:Sp3) (ua:TA3):TE3:=fun ρ M K=>ua ρ M fun ds M1=>sp ds M1 K
def s_call {sp:Sp3} {E0':XK} (ha:SimA C Z ta ua):SimE C Z (tCall (spOf C sp) [] E0' ta) (uCall sp ua):=fun I α σ H ρ M K Q R RE h k =>
 ha I α σ H ρ M _ _ R RE h fun vs ds I1 α1 H1 M1 s1 p1 R1 r1 h1=>by
  rw [List.append_nil]
  exact ⟨Z,I1,α1,M1,ds,K,R1,r1,h1,k.mono s1 p1⟩
def Cal.imp {P:Program} {w:World} {K:W.Frag} {mg:Str->Option Value} {base:Heap} {x:Str} {k:Nat} {ps:List Str} {sp sp':Sp} (c:Cal P w K mg base x k ps sp) (h:∀ vs H Q E,sp' vs H Q E->sp vs H Q E):Cal P w K mg base x k ps sp' :=
 let ⟨f,fd,a,b⟩:=c
 ⟨f,fd,a.imp h,b⟩
def start3 (N:List Str) (ds:List D):Ev:=ds.map some++List.replicate (N.length - ds.length) none
def rep_start {I:Hp} {α:List Addr} {vs:List V} {ds:List D} (r:Reps C I α vs ds) (N:List Str):RepE C I α (L2.start N vs) (start3 N ds):=by
 have hl:=r.length
 refine ⟨by unfold L2.start start3; simp [hl],fun i d e=>?_⟩
 unfold start3 at e
 unfold L2.start
 by_cases hi:i < ds.length
 ·rw [List.getElem?_append_left (by simpa using hi),List.getElem?_map,List.getElem?_eq_getElem hi] at e
  have e':ds[i]=d:=by simpa using e
  rw [List.getElem?_append_left (by simpa [hl] using hi),List.getElem?_map,List.getElem?_eq_getElem (by rw [hl]; exact hi)]
  exact ⟨_,rfl,e' ▸ r.at (by rw [hl]; exact hi) hi⟩
 ·rw [List.getElem?_append_right (by simpa using hi),List.getElem?_replicate] at e
  split at e <;> cases e
def Fun.ok3 {P:Program} {w:World} {K:W.Frag} {mg:Str->Option Value} {base:Heap} {x qual:Str} {st:Stmt} {f:Addr} {fd:FuncData} {N ps:List Str} {k:Nat} {sp:Sp3} (F:Fun K x qual st f fd) (S:FnScope N ps (defScope st)) (len:∀ ds M K,sp ds M K->ds.length=ps.length)
  (hbody:∀ (cdv:Value) (A:Around) (outer:List Env) (s:Shared) (H:Hp) (E:XK),Room k (A.deeper (PyProof.Rows.envOfC qual (defScope st) s.heap.objs.size f cdv)) ->
   ∃ t u,PSs (cxOf CX0 P w K mg base N qual (defScope st) f cdv A outer s H E).nox (defBody st) t/\(∀ Z,SimS C Z t u)/\∀ ds M K,WfM M->(∀ d∈ds,Below M.length d)->sp ds M K->u { nx:=fun _ M'=>Dk M.length K .non M',rt:=Dk M.length K } (start3 N ds) M):FnOk P w K mg base CX0 (k + 1) f fd ps (spOf C sp):=by
 refine F.ok S (fun vs H Q E h=>?_) (fun cdv A outer s H vs Q E hr h=>?_)
 ·obtain ⟨Z,I,α,M,ds,K,R,r,h,_⟩:=h
  rw [r.length]
  exact len ds M K h
 ·obtain ⟨t,u,h1,h2,h3⟩:=hbody cdv A outer s H E hr
  obtain ⟨Z,I,α,M,ds,K,R,r,h,k⟩:=h
  have kd:=k.dk R.len R.aa
  exact ⟨t,h1,h2 Z I α _ H _ M _ _ R (rep_start r N) (h3 ds M K R.wf (by rw [<- R.len]; exact r.bel) h) ⟨fun I1 α1 σ1 H1 ρ1 M1 s1 p1 R1 _ h1=>kd _ _ I1 α1 H1 M1 s1 p1 R1 .non h1,kd,fun _ _ _ _ _ _ _ _ _ _ h=>h.elim,fun _ _ _ _ _ _ _ _ _ _ h=>h.elim⟩⟩
end
section
variable {C:Cf} {Z:Anc} {I:Hp} {α:List Addr} {H H':Hp} {M:Mem}
def Rel.full (R:Rel C Z I α H M):∃ I',Same I I'/\Rel C Z I' α H M/\∀ b o,H b=some o->b∉α->I' b=some o:=by
 have s:Same I (fun b=>if b∈α then none else H b):=fun b o e=>by
  have hb:b∉α:=fun hb=>by
   obtain ⟨k,hk,rfl⟩:=List.getElem_of_mem hb
   have hk':k < M.length:=by rw [<- R.len]; exact hk
   rw [(R.cel k _ _ (List.getElem?_eq_getElem hk) (List.getElem?_eq_getElem hk')).2] at e
   cases e
  show (if b∈α then none else H b)=some o
  rw [if_neg hb]
  exact R.sub b o e
 refine ⟨_,s,⟨R.ai.trans s,R.aa,fun b o e=>?_,R.len,R.nd,fun k a m h1 h2=>?_⟩,fun b o e hb=>?_⟩
 ·have e':(if b∈α then none else H b)=some o:=e
  split at e'
  ·cases e'
  ·exact e'
 ·refine ⟨(R.cel k a m h1 h2).1.mono s (List.prefix_refl _) rfl,?_⟩
  show (if a∈α then none else H a)=none
  rw [if_pos (List.mem_of_getElem? h1)]
 ·show (if b∈α then none else H b)=some o
  rw [if_neg hb]
  exact e
def Rel.out (R:Rel C Z I α H M) {l:Addr} (h:H l=none):l∉α:=fun hl=>by
 obtain ⟨k,hk,e⟩:=List.getElem_of_mem hl
 exact R.cellNe (List.getElem?_eq_getElem hk) h e
theorem Rel.tupOut (R:Rel C Z I α H M) {l:Addr} {vs:List V} (h:H l=some (.tup vs)):l∉α:=fun hl=>by
 obtain ⟨k,hk,rfl⟩:=List.getElem_of_mem hl
 have hk':k < M.length:=by rw [<- R.len]; exact hk
 have:=(R.cel k _ _ (List.getElem?_eq_getElem hk) (List.getElem?_eq_getElem hk')).1
 cases hm:M[k] with
 | lst ds=>rw [hm] at this; obtain ⟨vs,e,_⟩:=this; rw [h] at e; cases e
 | dct ds=>rw [hm] at this; obtain ⟨vs,e,_⟩:=this; rw [h] at e; cases e
 | dcT ds=>rw [hm] at this; obtain ⟨vs,e,_⟩:=this; rw [h] at e; cases e
 | drK ds=>rw [hm] at this; obtain ⟨vs,e,_⟩:=this; rcases e with e | ⟨o,e⟩ <;> (rw [h] at e; cases e)
 | drT ds=>rw [hm] at this; obtain ⟨vs,e,_⟩:=this; rcases e with e | ⟨o,e⟩ <;> (rw [h] at e; cases e)
 | dfT o vs ds=>rw [hm] at this; have e:=this.1; rw [h] at e; cases e
 | dfK o vs ds=>rw [hm] at this; have e:=this.1; rw [h] at e; cases e
 | ins Cl fs=>rw [hm] at this; obtain ⟨dx,vs,e,_⟩:=this; rw [h] at e; cases e
 | hand=>rw [hm] at this; obtain ⟨d,k,c,cs,e,_⟩:=this; rw [h] at e; cases e
 | tab P pos q=>rw [hm] at this; obtain ⟨_,ps,e,_⟩:=this; rw [h] at e; cases e
def Rel.same (R:Rel C Z I α H M) (s:Same H H'):Rel C Z I α H' M:=by
 refine ⟨R.ai,R.aa,R.sub.trans s,R.len,R.nd,fun k a m h1 h2=>?_⟩
 obtain ⟨a1,a2⟩:=R.cel k a m h1 h2
 obtain ⟨o,e⟩:=a1.some
 exact ⟨a1.mono (.refl _) (List.prefix_refl _) ((s _ _ e).trans e.symm),a2⟩
def Rel.grow (R:Rel C Z I α H M) {k:Nat} {p c:Addr} {cs:List Int} (ha:α[k]?=some p) (hm:M[k]?=some .hand) (hh:HandAt H' p c) (ic:I c=some (.lst (cs.map V.int))) (hc:cs≠[]/\cs.length<=63/\∀ c∈cs,0<=c) (g:Grow p H H'):Rel C Z I α H' M:=by
 have ip:I p=none:=(R.cel k p _ ha hm).2
 refine ⟨R.ai,R.aa,fun b o e=>g b o (R.sub b o e) (fun z=>by rw [z,ip] at e; cases e),R.len,R.nd,fun j a m h1 h2=>?_⟩
 obtain ⟨a1,a2⟩:=R.cel j a m h1 h2
 by_cases e:k=j
 ·subst e
  rw [ha] at h1
  cases h1
  rw [hm] at h2
  cases h2
  obtain ⟨d0,i0,cs',x1,x2,x3,x4,x5,x6,x7⟩:=hh.ex
  exact ⟨⟨d0,i0,c,cs,x1,ic,hc.1,hc.2.1,x5,x6,hc.2.2⟩,ip⟩
 ·obtain ⟨o,eo⟩:=a1.some
  have ne:a≠p:=fun z=>by
   obtain ⟨hj,ej⟩:=List.getElem?_eq_some_iff.mp h1
   obtain ⟨hk,ek⟩:=List.getElem?_eq_some_iff.mp ha
   rw [<- ej,<- ek] at z
   exact e ((List.getElem_inj R.nd).mp z).symm
  exact ⟨a1.mono (.refl _) (List.prefix_refl _) ((g _ _ eo ne).trans eo.symm),a2⟩
def Rel.hand (R:Rel C Z I α H M) {k:Nat} {p:Addr} (ha:α[k]?=some p) (hm:M[k]?=some .hand):∃ c cs,HandAt H p c/\I c=some (.lst (cs.map V.int))/\cs≠[]/\cs.length<=63/\∀ c∈cs,0<=c:=by
 obtain ⟨d,i,c,cs,e,ic,h1,h2,h3,h4,h5⟩:=(R.cel k p _ ha hm).1
 exact ⟨c,cs,⟨d,i,cs,e,R.sub _ _ ic,h1,h2,h3,h4,h5⟩,ic,h1,h2,h5⟩
theorem Rel.cellAt (R:Rel C Z I α H M) {l:Addr} {m:MO} (il:I l=none) (hl:l∉α) (hm:MoAt C I α H l m):Rel C Z I (α++[l]) H (M++[m])/\α<+:(α++[l])/\(α++[l])[M.length]?=some l:=by
 refine ⟨⟨R.ai,R.aa.trans (List.prefix_append _ _),R.sub,by rw [List.length_append,List.length_append,R.len]; rfl,?_,fun k a x h1 h2=>?_⟩,List.prefix_append _ _,by rw [<- R.len]; simp⟩
 ·rw [List.nodup_append]
  exact ⟨R.nd,by simp,fun a ha b hb e=>hl (by rw [<- List.mem_singleton.mp hb,<- e]; exact ha)⟩
 ·by_cases hk:k < α.length
  ·rw [List.getElem?_append_left hk] at h1
   rw [List.getElem?_append_left (by rw [<- R.len]; exact hk)] at h2
   obtain ⟨a1,a2⟩:=R.cel k a x h1 h2
   exact ⟨a1.mono (.refl _) (List.prefix_append _ _) rfl,a2⟩
  ·obtain ⟨hk2,_⟩:=List.getElem?_eq_some_iff.mp h1
   rw [List.length_append,List.length_singleton] at hk2
   have e:k=α.length:=by omega
   subst e
   have e1:(α++[l])[α.length]?=some l:=by simp
   have e2:(M++[m])[α.length]?=some m:=by rw [R.len]; simp
   rw [e1] at h1
   rw [e2] at h2
   cases h1
   cases h2
   exact ⟨hm.mono (.refl _) (List.prefix_append _ _) rfl,il⟩
end
def wD (w:List Int):D:=.tup (w.map .int)
def pD (p:Pr):D:=.tup [.int p.1,wD p.2]
section
variable {C:Cf} {I:Hp} {α:List Addr} {H:Hp}
def rep_w (s:∀ b xs,H b=some (.tup xs)->I b=some (.tup xs)) {v:V} {w:List Int} (h:WordV H v w):Rep C I α v (wD w):=by
 obtain ⟨t,rfl,e⟩:=h
 exact .tup (s _ _ e) (.ints w)
theorem reps_map {τ:Type} {F:V->τ->Prop} {f:τ->D} (h:∀ v a,F v a->Rep C I α v (f a)):∀ {vs:List V} {as:List τ},Paired F vs as->Reps C I α vs (as.map f)
 | _,_,.nil=>.nil
 | _,_,.cons a b=>.cons (h _ _ a) (reps_map h b)
end
section
variable {C:Cf} {Z:Anc}
def dDraw:Sp3:=fun ds M K=>∃ k n,ds=[.cell k,.int n]/\M[k]?=some .hand/\(0 < n/\n < 1073741824)/\∀ r,0<=r->r < n->K (.int r) M
theorem a_draw {vs:List V} {H:Hp} {Q:VK} {E:XK} (h:spOf C dDraw vs H Q E):spDraw vs H Q E:=by
 obtain ⟨Z,I,α,M,ds,K,R,r,⟨k,n,rfl,hm,⟨n0,n1⟩,h⟩,kk⟩:=h
 cases r with
 | cons r1 r2 =>
  cases r2 with
  | cons r2 r3 =>
   cases r3
   cases r2
   cases r1 with
   | @cell p _ ha =>
    obtain ⟨c,cs,hh,ic,hc⟩:=R.hand ha hm
    exact ⟨p,c,n,rfl,hh,n0,n1,fun z H' z0 z1 hh' g _=>kk _ _ I α H' M (.refl _) (List.prefix_refl _) (R.grow ha hm hh' ic hc g) (.int z) (h z z0 z1)⟩
def dOpen:Sp3:=fun ds M K=>∃ (ns:List Int) (i:Int),ds=[.frz (ns.map .int),.int i]/\(ns.length<=63/\0<=i/\i < 2 ^ 60)/\K (.cell M.length) (M++[.hand])
theorem frz_at {I:Hp} {α:List Addr} {H:Hp} {M:Mem} {v:V} {ns:List Int} (R:Rel C Z I α H M) (r:Rep C I α v (.frz (ns.map .int))):∃ a,v=.ref a/\SqL C.k H a (ns.map V.int):=by
 cases r with
 | frz e r =>
  rw [r.of_ints ns] at e
  exact ⟨_,rfl,R.sub.seq e⟩
theorem a_open {vs:List V} {H:Hp} {Q:VK} {E:XK} (h:spOf C dOpen vs H Q E):spOpen C.k vs H Q E:=by
 obtain ⟨Z,I,α,M,ds,K,R,r,⟨ns,i,rfl,⟨hl,i0,i1⟩,h⟩,kk⟩:=h
 cases r with
 | cons r1 r2 =>
  cases r2 with
  | cons r2 r3 =>
   cases r3
   cases r2
   obtain ⟨a,rfl,hS⟩:=frz_at R r1
   refine ⟨a,ns,i,rfl,hS,hl,i0,i1,fun p c H' np nc hh s=>?_⟩
   have R1:=R.same s
   have pc:p≠c:=hh.ne
   obtain ⟨d0,i0',cs,x1,x2,x3,x4,x5,x6,x7⟩:=hh.ex
   have ipn:I p=none:=R.sub.free np
   have icn:I c=none:=R.sub.free nc
   have R2:Rel C Z (upd I c (.lst (cs.map V.int))) α H' M:=by
    refine ⟨R1.ai.trans (same_upd icn),R1.aa,fun b o e=>?_,R1.len,R1.nd,fun k a m h1 h2=>?_⟩
    ·by_cases z:b=c
     ·subst z; rw [upd_same] at e; cases e; exact x2
     ·rw [upd_ne z] at e; exact R1.sub b o e
    ·obtain ⟨a1,a2⟩:=R1.cel k a m h1 h2
     have ne:a≠c:=R.cellNe h1 nc
     exact ⟨a1.mono (same_upd icn) (List.prefix_refl _) rfl,by rw [upd_ne ne]; exact a2⟩
   obtain ⟨R3,p3,e3⟩:=R2.cellAt (l:=p) (m:=.hand) (by rw [upd_ne pc]; exact ipn) (R.out np) ⟨d0,i0',c,cs,x1,upd_same,x3,x4,x5,x6,x7⟩
   exact kk _ _ _ _ H' _ (same_upd icn) p3 R3 (.cell e3) h
def hand_ints {I:Hp} {α:List Addr} {H H':Hp} {M:Mem} {k:Nat} {p c l:Addr} {cs bs:List Int} {K:K3} {Q:VK} (R:Rel C Z I α H M) (ha:α[k]?=some p) (hm:M[k]?=some .hand) (hh:HandAt H' p c) (ic:I c=some (.lst (cs.map V.int))) (hc:cs≠[]/\cs.length<=63/\∀ c∈cs,0<=c) (g:Grow p H H')
  (nl:H l=none) (el:H' l=some (.lst (bs.map V.int))) (kk:Fin C Z I α K Q) (h:K (.lst (bs.map .int)) M):Q (.ref l) H':=by
 obtain ⟨I',s,R',f⟩:=(R.grow ha hm hh ic hc g).full
 exact kk _ _ I' α H' M s (List.prefix_refl _) R' (.lst (f _ _ el (R.out nl)) (.ints bs)) h
def dBytes:Sp3:=fun ds M K=>∃ k m,ds=[.cell k,.int m]/\M[k]?=some .hand/\(2<=m/\m<=4)/\∀ bs:List Int,bs.Nodup->2<=bs.length->(bs.length:Int)<=m->(∀ b∈bs,0<=b/\b < 256)->K (.lst (bs.map .int)) M
theorem a_bytes {vs:List V} {H:Hp} {Q:VK} {E:XK} (h:spOf C dBytes vs H Q E):spBytes vs H Q E:=by
 obtain ⟨Z,I,α,M,ds,K,R,r,⟨k,m,rfl,hm,⟨m0,m1⟩,h⟩,kk⟩:=h
 cases r with
 | cons r1 r2 =>
  cases r2 with
  | cons r2 r3 =>
   cases r3
   cases r2
   cases r1 with
   | @cell p _ ha =>
    obtain ⟨c,cs,hh,ic,hc⟩:=R.hand ha hm
    exact ⟨p,c,m,rfl,hh,m0,m1,fun l bs H' nl _ el nd b2 bm bb hh' g=>hand_ints R ha hm hh' ic hc g nl el kk (h bs nd b2 bm bb)⟩
def dSigns:Sp3:=fun ds M K=>∃ k m,ds=[.cell k,.int m]/\M[k]?=some .hand/\(0<=m/\m<=100)/\∀ ss:List Int,ss.Nodup->(ss.length:Int)=m->K (.lst (ss.map .int)) M
theorem a_signs {vs:List V} {H:Hp} {Q:VK} {E:XK} (h:spOf C dSigns vs H Q E):spSigns vs H Q E:=by
 obtain ⟨Z,I,α,M,ds,K,R,r,⟨k,m,rfl,hm,⟨m0,m1⟩,h⟩,kk⟩:=h
 cases r with
 | cons r1 r2 =>
  cases r2 with
  | cons r2 r3 =>
   cases r3
   cases r2
   cases r1 with
   | @cell p _ ha =>
    obtain ⟨c,cs,hh,ic,hc⟩:=R.hand ha hm
    exact ⟨p,c,m,rfl,hh,m0,m1,fun l bs H' nl _ el nd b2 hh' g=>hand_ints R ha hm hh' ic hc g nl el kk (h bs nd b2)⟩
theorem ints_at {I:Hp} {α:List Addr} {H:Hp} {M:Mem} {v:V} {ns:List Int} (R:Rel C Z I α H M) (r:Rep C I α v (.lst (ns.map .int))):∃ a,v=.ref a/\H a=some (.lst (ns.map V.int))/\I a=some (.lst (ns.map V.int)):=by
 cases r with
 | lst e r =>
  rw [r.of_ints ns] at e
  exact ⟨_,rfl,R.sub _ _ e,e⟩
def ne_hand {I:Hp} {α:List Addr} {H:Hp} {M:Mem} {k:Nat} {p a:Addr} {o:HO} (R:Rel C Z I α H M) (ha:α[k]?=some p) (hm:M[k]?=some .hand) (e:I a=some o):a≠p:=fun z=>by
 rw [z,(R.cel k p _ ha hm).2] at e
 cases e
def hand_words {I:Hp} {α:List Addr} {H H':Hp} {M:Mem} {k:Nat} {p c l:Addr} {cs:List Int} {ws:List (List Int)} {K:K3} {Q:VK} (R:Rel C Z I α H M) (ha:α[k]?=some p) (hm:M[k]?=some .hand) (hh:HandAt H' p c) (ic:I c=some (.lst (cs.map V.int))) (hc:cs≠[]/\cs.length<=63/\∀ c∈cs,0<=c) (g:Grow p H H')
  (nl:H l=none) (wa:WordsAt H' l ws) (kk:Fin C Z I α K Q) (h:K (.lst (ws.map wD)) M):Q (.ref l) H':=by
 have R1:=R.grow ha hm hh ic hc g
 obtain ⟨I',s,R',f⟩:=R1.full
 obtain ⟨us,eu,pu⟩:=wa
 exact kk _ _ I' α H' M s (List.prefix_refl _) R' (.lst (f _ _ eu (R.out nl)) (reps_map (fun v a z=>rep_w (fun b xs e=>f _ _ e (R1.tupOut e)) z) pu)) h
end
section
variable {C:Cf} {Z:Anc} {ta tb tc:TE} {ua ub uc:TE3} {t:TA}
def uRev (ua:TE3) (us:TO3):TE3:=fun ρ M K=>ua ρ M fun d M1=>us ρ M1 fun k M2=>k=some (-1)/\∃ xs,lstOf M2 d=some xs/\K (.lst xs.reverse) M2
def s_rev {ts:TO} {us:TO3} (ha:SimE C Z ta ua) (hs:SimO C Z ts us):SimE C Z (tRev C.k ta ts) (uRev ua us):=fun I α σ H ρ M K Q R E h k =>
 ha I α σ H ρ M _ _ R E h fun v d I1 α1 H1 M1 s1 p1 R1 r1 h1 =>
  hs I1 α1 σ H1 ρ M1 _ _ R1 (E.mono s1 p1) h1 fun o I2 α2 H2 M2 s2 p2 R2 h2=>by
   obtain ⟨ho,xs,e,h2⟩:=h2
   obtain ⟨a,vs,rfl,ea,ra⟩:=lst_at R2 (r1.mono s2 p2) e
   refine ⟨ho,a,vs,rfl,ea,fun p hp=>?_⟩
   obtain ⟨R3,s3,e3⟩:=R2.new (o:=.lst vs.reverse) hp
   exact k _ _ _ α2 _ M2 (s1.trans (s2.trans s3)) (p1.trans p2) R3 (.lst e3 (ra.rev.mono s3 (List.prefix_refl _))) h2
def valD {κ:Type} [DecidableEq κ] (kvs:List (κ×D)) (k:κ):Option D:=(kvs.find? fun kv=>decide (kv.1=k)).map (·.2)
def putD {κ:Type} [DecidableEq κ] (kvs:List (κ×D)) (k:κ) (v:D):List (κ×D) :=
 if (kvs.any fun kv=>decide (kv.1=k))=true then kvs.map (fun kv=>if kv.1=k then (kv.1,v) else kv) else kvs++[(k,v)]
def keyOf:D->Option Key
 | .int i=>some (.inl i)
 | .str s=>some (.inr s)
 | _=>none
def keysOf:List D->Option (List Key)
 | []=>some []
 | d::r=>match keyOf d,keysOf r with | some k,some ks=>some (k::ks) | _,_=>none
def tkOf:D->Option (List Key)
 | .tup ds=>keysOf ds
 | _=>none
section
variable {I:Hp} {α:List Addr} {H:Hp} {M:Mem}
theorem keyOf_rep {v:V} {d:D} {k:Key} (r:Rep C I α v d) (h:keyOf d=some k):v=kV k:=by
 cases r with
 | int i=>cases h; rfl
 | str i=>cases h; rfl
 | _=>cases h
theorem keysOf_rep:∀ {vs:List V} {ds:List D} {ks:List Key},Reps C I α vs ds->keysOf ds=some ks->vs=ks.map kV
 | _,_,_,.nil,h=>by cases h; rfl
 | _,_,ks,.cons (d:=d) (ds:=ds) a b,h=>by
  unfold keysOf at h
  cases h1:keyOf d with
  | none=>simp only [h1] at h; cases h
  | some k =>
   cases h2:keysOf ds with
   | none=>simp only [h1,h2] at h; cases h
   | some r =>
    simp only [h1,h2] at h
    cases h
    rw [keyOf_rep a h1,keysOf_rep b h2]
    rfl
theorem RepK.len:∀ {vs:List (Key×V)} {ds:List (Key×D)},RepK C I α vs ds->vs.length=ds.length
 | _,_,.nil=>rfl
 | _,_,.cons _ b=>by rw [List.length_cons,List.length_cons,RepK.len b]
theorem RepT.len:∀ {vs:List (List Key×V)} {ds:List (List Key×D)},RepT C I α vs ds->vs.length=ds.length
 | _,_,.nil=>rfl
 | _,_,.cons _ b=>by rw [List.length_cons,List.length_cons,RepT.len b]
def valD_cons {κ:Type} [DecidableEq κ] {k k':κ} {d:D} {r:List (κ×D)}:valD ((k',d)::r) k=if k'=k then some d else valD r k:=by
 unfold valD
 rw [List.find?_cons]
 by_cases h:k'=k
 ·simp [h]
 ·simp [h]
def valV_cons {κ:Type} [DecidableEq κ] {k k':κ} {d:V} {r:List (κ×V)}:valV ((k',d)::r) k=if k'=k then some d else valV r k:=by
 unfold valV
 rw [List.find?_cons]
 by_cases h:k'=k
 ·simp [h]
 ·simp [h]
theorem RepK.val {k:Key}:∀ {vs:List (Key×V)} {ds:List (Key×D)},RepK C I α vs ds->(valD ds k=none/\valV vs k=none)\/∃ d v,valD ds k=some d/\valV vs k=some v/\Rep C I α v d
 | _,_,.nil=>.inl ⟨rfl,rfl⟩
 | _,_,.cons (k:=k') (v:=v) (d:=d) a b=>by
  rw [valD_cons,valV_cons]
  by_cases h:k'=k
  ·rw [if_pos h,if_pos h]; exact .inr ⟨d,v,rfl,rfl,a⟩
  ·rw [if_neg h,if_neg h]; exact RepK.val b
theorem RepT.val {k:List Key}:∀ {vs:List (List Key×V)} {ds:List (List Key×D)},RepT C I α vs ds->(valD ds k=none/\valV vs k=none)\/∃ d v,valD ds k=some d/\valV vs k=some v/\Rep C I α v d
 | _,_,.nil=>.inl ⟨rfl,rfl⟩
 | _,_,.cons (k:=k') (v:=v) (d:=d) a b=>by
  rw [valD_cons,valV_cons]
  by_cases h:k'=k
  ·rw [if_pos h,if_pos h]; exact .inr ⟨d,v,rfl,rfl,a⟩
  ·rw [if_neg h,if_neg h]; exact RepT.val b
theorem RepK.any {k:Key}:∀ {vs:List (Key×V)} {ds:List (Key×D)},RepK C I α vs ds->(vs.any fun kv=>decide (kv.1=k))=(ds.any fun kv=>decide (kv.1=k))
 | _,_,.nil=>rfl
 | _,_,.cons a b=>by rw [List.any_cons,List.any_cons,RepK.any b]
theorem RepT.any {k:List Key}:∀ {vs:List (List Key×V)} {ds:List (List Key×D)},RepT C I α vs ds->(vs.any fun kv=>decide (kv.1=k))=(ds.any fun kv=>decide (kv.1=k))
 | _,_,.nil=>rfl
 | _,_,.cons a b=>by rw [List.any_cons,List.any_cons,RepT.any b]
theorem RepK.app:∀ {vs ws:List (Key×V)} {ds es:List (Key×D)},RepK C I α vs ds->RepK C I α ws es->RepK C I α (vs++ws) (ds++es)
 | _,_,_,_,.nil,s=>s
 | _,_,_,_,.cons r t,s=>.cons r (RepK.app t s)
theorem RepT.app:∀ {vs ws:List (List Key×V)} {ds es:List (List Key×D)},RepT C I α vs ds->RepT C I α ws es->RepT C I α (vs++ws) (ds++es)
 | _,_,_,_,.nil,s=>s
 | _,_,_,_,.cons r t,s=>.cons r (RepT.app t s)
theorem RepK.mapPut {k:Key} {v:V} {d:D} (r:Rep C I α v d):∀ {vs:List ((Key)×V)} {ds:List ((Key)×D)},RepK C I α vs ds->RepK C I α (vs.map fun kv=>if kv.1=k then (kv.1,v) else kv) (ds.map fun kv=>if kv.1=k then (kv.1,d) else kv)
 | _,_,.nil=>.nil
 | _,_,.cons (k:=k') a b=>by
  rw [List.map_cons,List.map_cons]
  by_cases e:k'=k
  ·simp only [e,if_true]; exact .cons r (RepK.mapPut r b)
  ·simp only [e,if_false]; exact .cons a (RepK.mapPut r b)
def RepK.put {k:Key} {v:V} {d:D} {vs:List ((Key)×V)} {ds:List ((Key)×D)} (h:RepK C I α vs ds) (r:Rep C I α v d):RepK C I α (putK vs k v) (putD ds k d):=by
 unfold putK putD
 rw [h.any]
 split
 ·exact RepK.mapPut r h
 ·exact h.app (.cons r .nil)
theorem RepT.mapPut {k:List Key} {v:V} {d:D} (r:Rep C I α v d):∀ {vs:List ((List Key)×V)} {ds:List ((List Key)×D)},RepT C I α vs ds->RepT C I α (vs.map fun kv=>if kv.1=k then (kv.1,v) else kv) (ds.map fun kv=>if kv.1=k then (kv.1,d) else kv)
 | _,_,.nil=>.nil
 | _,_,.cons (k:=k') a b=>by
  rw [List.map_cons,List.map_cons]
  by_cases e:k'=k
  ·simp only [e,if_true]; exact .cons r (RepT.mapPut r b)
  ·simp only [e,if_false]; exact .cons a (RepT.mapPut r b)
def RepT.put {k:List Key} {v:V} {d:D} {vs:List ((List Key)×V)} {ds:List ((List Key)×D)} (h:RepT C I α vs ds) (r:Rep C I α v d):RepT C I α (putK vs k v) (putD ds k d):=by
 unfold putK putD
 rw [h.any]
 split
 ·exact RepT.mapPut r h
 ·exact h.app (.cons r .nil)
def dctOf (M:Mem):D->Option (List (Key×D))
 | .dct kvs=>some kvs
 | .cell k=>match M[k]? with | some (.dct kvs)=>some kvs | some (.drK kvs)=>some kvs | some (.dfK _ _ kvs)=>some kvs | _=>none
 | _=>none
def dcTOf (M:Mem):D->Option (List (List Key×D))
 | .dcT kvs=>some kvs
 | .cell k=>match M[k]? with | some (.dcT kvs)=>some kvs | some (.drT kvs)=>some kvs | _=>none
 | _=>none
theorem dct_at {v:V} {d:D} {kvs:List (Key×D)} (R:Rel C Z I α H M) (r:Rep C I α v d) (h:dctOf M d=some kvs):∃ a vs,v=.ref a/\Rd H a (.dK vs)/\RepK C I α vs kvs:=by
 cases r with
 | dct e r=>cases h; exact ⟨_,_,rfl,.inl (R.sub _ _ e),r⟩
 | @cell a k e =>
  unfold dctOf at h
  cases hm:M[k]? with
  | none=>simp only [hm] at h; cases h
  | some m =>
   cases m with
   | dct es=>simp only [hm] at h; cases h; obtain ⟨vs,e1,r⟩:=(R.cel k a _ e hm).1; exact ⟨_,_,rfl,.inl e1,r⟩
   | drK es=>simp only [hm] at h; cases h; obtain ⟨vs,e1,r⟩:=(R.cel k a _ e hm).1; exact ⟨_,_,rfl,e1,r⟩
   | dfK o vs es=>simp only [hm] at h; cases h; obtain ⟨e1,r⟩:=(R.cel k a _ e hm).1; exact ⟨_,_,rfl,.inr ⟨o,e1⟩,r⟩
   | _=>simp only [hm] at h; cases h
 | _=>cases h
theorem dcT_at {v:V} {d:D} {kvs:List (List Key×D)} (R:Rel C Z I α H M) (r:Rep C I α v d) (h:dcTOf M d=some kvs):∃ a vs,v=.ref a/\Rd H a (.dT vs)/\RepT C I α vs kvs:=by
 cases r with
 | dcT e r=>cases h; exact ⟨_,_,rfl,.inl (R.sub _ _ e),r⟩
 | @cell a k e =>
  unfold dcTOf at h
  cases hm:M[k]? with
  | none=>simp only [hm] at h; cases h
  | some m =>
   cases m with
   | dcT es=>simp only [hm] at h; cases h; obtain ⟨vs,e1,r⟩:=(R.cel k a _ e hm).1; exact ⟨_,_,rfl,.inl e1,r⟩
   | drT es=>simp only [hm] at h; cases h; obtain ⟨vs,e1,r⟩:=(R.cel k a _ e hm).1; exact ⟨_,_,rfl,e1,r⟩
   | _=>simp only [hm] at h; cases h
 | _=>cases h
def dGet (M:Mem) (d e:D) (o:Option D):Prop:=(∃ kvs k,dctOf M d=some kvs/\keyOf e=some k/\o=valD kvs k)\/∃ kvs k,dcTOf M d=some kvs/\tkOf e=some k/\o=valD kvs k
def dGet_at {v w:V} {d e:D} {o:Option D} (R:Rel C Z I α H M) (r1:Rep C I α v d) (r2:Rep C I α w e) (h:dGet M d e o):∃ a o',v=.ref a/\IsD H a/\DGet H a w o'/\((o=none/\o'=none)\/∃ x y,o=some x/\o'=some y/\Rep C I α y x):=by
 rcases h with ⟨kvs,k,e1,e2,rfl⟩ | ⟨kvs,k,e1,e2,rfl⟩
 ·obtain ⟨a,vs,rfl,ea,ra⟩:=dct_at R r1 e1
  refine ⟨a,valV vs k,rfl,.inl ⟨vs,ea⟩,by rw [keyOf_rep r2 e2]; exact .inl ⟨vs,k,ea,rfl,rfl⟩,?_⟩
  rcases ra.val (k:=k) with ⟨h1,h2⟩ | ⟨x,y,h1,h2,h3⟩
  ·exact .inl ⟨h1,h2⟩
  ·exact .inr ⟨x,y,h1,h2,h3⟩
 ·obtain ⟨a,vs,rfl,ea,ra⟩:=dcT_at R r1 e1
  cases r2 with
  | @tup b bs ds eb rb =>
   have hb:H b=some (.tup (k.map kV)):=by rw [<- keysOf_rep rb e2]; exact R.sub _ _ eb
   refine ⟨a,valV vs k,rfl,.inr ⟨vs,ea⟩,.inr ⟨vs,k,b,ea,rfl,hb,rfl⟩,?_⟩
   rcases ra.val (k:=k) with ⟨h1,h2⟩ | ⟨x,y,h1,h2,h3⟩
   ·exact .inl ⟨h1,h2⟩
   ·exact .inr ⟨x,y,h1,h2,h3⟩
  | _=>cases e2
end
def uDNotIn (ub ua:TE3):TE3:=fun ρ M K=>ub ρ M fun e M1=>ua ρ M1 fun d M2=>∃ o,dGet M2 d e o/\K (.bl (!o.isSome)) M2
def s_dnotin (hb:SimE C Z tb ub) (ha:SimE C Z ta ua):SimE C Z (tDNotIn tb ta) (uDNotIn ub ua):=fun I α σ H ρ M K Q R E h k =>
 hb I α σ H ρ M _ _ R E h fun w e I1 α1 H1 M1 s1 p1 R1 r1 h1 =>
  ha I1 α1 σ H1 ρ M1 _ _ R1 (E.mono s1 p1) h1 fun v d I2 α2 H2 M2 s2 p2 R2 r2 h2=>by
   obtain ⟨o,g,h2⟩:=h2
   obtain ⟨a,o',rfl,_,g2,z⟩:=dGet_at R2 r2 (r1.mono s2 p2) g
   have eo:o'.isSome=o.isSome:=by
    rcases z with ⟨rfl,rfl⟩ | ⟨x',y,rfl,rfl,_⟩ <;> rfl
   exact ⟨a,o',rfl,g2,by rw [eo]; exact k _ _ I2 α2 H2 M2 (s1.trans s2) (p1.trans p2) R2 (.bl _) h2⟩
def uDNewT:TE3:=fun _ M K=>K (.cell M.length) (M++[.dcT []])
def s_dnewT:SimE C Z tDNewT uDNewT:=fun I α σ H ρ M K Q R E h k p hp=>by
 obtain ⟨R2,p2,e2⟩:=R.cell (o:=.dT []) (m:=.dcT []) hp fun H' e=>⟨[],e,.nil⟩
 exact k _ _ I _ _ _ (.refl _) p2 R2 (.cell e2) h
def dPut (M:Mem) (d e v:D) (M':Mem):Prop:=(∃ j kvs k,d=.cell j/\M[j]?=some (.dct kvs)/\keyOf e=some k/\kvs.length < sizeLine/\M'=M.set j (.dct (putD kvs k v))) \/
 ∃ j kvs k,d=.cell j/\M[j]?=some (.dcT kvs)/\tkOf e=some k/\kvs.length < sizeLine/\M'=M.set j (.dcT (putD kvs k v))
def uDPut (ua ub uc:TE3):TS3:=fun E ρ M=>uc ρ M fun v M1=>ua ρ M1 fun d M2=>ub ρ M2 fun e M3=>∃ M4,dPut M3 d e v M4/\E.nx ρ M4
def s_dput (ha:SimE C Z ta ua) (hb:SimE C Z tb ub) (hc:SimE C Z tc uc):SimS C Z (sDPut ta tb tc) (uDPut ua ub uc):=fun I α σ H ρ M E D' R RE h F =>
 hc I α σ H ρ M _ _ R RE h fun v d0 I1 α1 H1 M1 s1 p1 R1 r1 h1=>ha I1 α1 σ H1 ρ M1 _ _ R1 (RE.mono s1 p1) h1 fun x d I2 α2 H2 M2 s2 p2 R2 r2 h2 =>
  hb I2 α2 σ H2 ρ M2 _ _ R2 (RE.mono (s1.trans s2) (p1.trans p2)) h2 fun y e I3 α3 H3 M3 s3 p3 R3 r3 h3=>by
   obtain ⟨M4,g,h3⟩:=h3
   have rv:=r1.mono (s2.trans s3) (p2.trans p3)
   have RE3:=RE.mono (s1.trans (s2.trans s3)) (p1.trans (p2.trans p3))
   rcases g with ⟨j,kvs,kk,rfl,e1,e2,hl,rfl⟩ | ⟨j,kvs,kk,rfl,e1,e2,hl,rfl⟩
   ·cases (r2.mono s3 p3) with
    | @cell a _ ec =>
     obtain ⟨vs,ea,ra⟩:=(R3.cel j a _ ec e1).1
     refine ⟨a,_,rfl,by rw [keyOf_rep r3 e2]; exact DPut.k ea (by rw [ra.len]; exact hl),?_⟩
     exact F.nx I3 α3 σ _ ρ _ (s1.trans (s2.trans s3)) (p1.trans (p2.trans p3)) (R3.put (m:=.dct (putD kvs kk d0)) ec fun H' e=>⟨_,e,ra.put rv⟩) RE3 h3
   ·cases (r2.mono s3 p3) with
    | @cell a _ ec =>
     obtain ⟨vs,ea,ra⟩:=(R3.cel j a _ ec e1).1
     cases r3 with
     | @tup b bs ds eb rb =>
      have hb:H3 b=some (.tup (kk.map kV)):=by rw [<- keysOf_rep rb e2]; exact R3.sub _ _ eb
      refine ⟨a,_,rfl,DPut.t ea hb (by rw [ra.len]; exact hl),?_⟩
      exact F.nx I3 α3 σ _ ρ _ (s1.trans (s2.trans s3)) (p1.trans (p2.trans p3)) (R3.put (m:=.dcT (putD kvs kk d0)) ec fun H' e=>⟨_,e,ra.put rv⟩) RE3 h3
     | _=>cases e2
end
def frzOf:MO->Option D
 | .lst xs=>some (.lst xs)
 | .dct kvs=>some (.dct kvs)
 | .dcT kvs=>some (.dcT kvs)
 | _=>none
def frzK (n0:Nat) (K:K3):K3:=fun d M'=>∃ m d',d=.cell n0/\M'.length=n0 + 1/\M'[n0]?=some m/\frzOf m=some d'/\(∀ m∈M',BelowM n0 m)/\K d' (M'.take n0)
theorem frz_rep {C:Cf} {I:Hp} {α:List Addr} {H:Hp} {a:Addr} {m:MO} {d:D} (h:MoAt C I α H a m) (e:frzOf m=some d) (ia:I a=none):∃ o,H a=some o/\Rep C (upd I a o) α (.ref a) d:=by
 have pr:=List.prefix_refl α
 cases m with
 | lst ds=>cases e; obtain ⟨vs,e,r⟩:=h; exact ⟨_,e,.lst upd_same (r.mono (same_upd ia) pr)⟩
 | dct ds=>cases e; obtain ⟨vs,e,r⟩:=h; exact ⟨_,e,.dct upd_same (r.mono (same_upd ia) pr)⟩
 | dcT ds=>cases e; obtain ⟨vs,e,r⟩:=h; exact ⟨_,e,.dcT upd_same (r.mono (same_upd ia) pr)⟩
 | _=>cases e
theorem Fin.frz {C:Cf} {Z:Anc} {I:Hp} {α:List Addr} {K:K3} {Q:VK} (k:Fin C Z I α K Q) {n0:Nat} (hn:α.length=n0) (ha:Z.a<+:α):Fin C Z I α (frzK n0 K) Q:=fun v d I' α' H' M' s p R r h=>by
 obtain ⟨m,d',rfl,hl,e,ed,hm,h⟩:=h
 cases r with
 | @cell a _ ec =>
  obtain ⟨mo,ia⟩:=R.cel n0 a _ ec e
  have mo':=hm m (List.mem_of_getElem? e) _ _ _ _ _ mo
  obtain ⟨o,ea,ra⟩:=frz_rep mo' ed ia
  have R1:=R.take n0 (by have:=ha.length_le; omega) fun x hx=>hm x (List.mem_of_mem_take hx)
  have an:a∉α'.take n0:=fun ha=>by
   obtain ⟨j,hj,ej⟩:=List.getElem_of_mem ha
   rw [List.length_take] at hj
   rw [List.getElem_take] at ej
   obtain ⟨hn0,en⟩:=List.getElem?_eq_some_iff.mp ec
   rw [<- en] at ej
   have:=(List.getElem_inj R.nd).mp ej
   omega
  have s2:Same I' (upd I' a o):=same_upd ia
  have R2:Rel C Z (upd I' a o) (α'.take n0) H' (M'.take n0):=by
   refine ⟨R1.ai.trans s2,R1.aa,fun b u eb=>?_,R1.len,R1.nd,fun k b m h1 h2=>?_⟩
   ·by_cases z:b=a
    ·subst z; rw [upd_same] at eb; cases eb; exact ea
    ·rw [upd_ne z] at eb; exact R1.sub b u eb
   ·obtain ⟨a1,a2⟩:=R1.cel k b m h1 h2
    have ne:b≠a:=fun z=>an (z ▸ List.mem_of_getElem? h1)
    exact ⟨a1.mono s2 (List.prefix_refl _) rfl,by rw [upd_ne ne]; exact a2⟩
  exact k _ _ _ (α'.take n0) H' _ (s.trans s2) (pre_take p (by omega)) R2 ra h
def uFrz (u:TE3):TE3:=fun ρ M K=>u ρ M (frzK M.length K)
def s_frz {C:Cf} {Z:Anc} {t:TE} {u:TE3} (h:SimE C Z t u):SimE C Z t (uFrz u):=fun I α σ H ρ M K Q R E hh k=>h I α σ H ρ M _ _ R E hh (k.frz R.len R.aa)
def frz_of {M:Mem} {m:MO} {d:D} {K:K3} (hd:frzOf m=some d) (hm:WfM M) (hx:BelowM M.length m) (h:K d M):frzK M.length K (.cell M.length) (M++[m]) :=
 ⟨m,d,rfl,by simp,by simp,hd,fun x hx'=>by
  rcases List.mem_append.mp hx' with z | z
  ·exact hm x z
  ·rw [List.mem_singleton.mp z]; exact hx,by rw [List.take_left]; exact h⟩
def at_last {M:Mem} {m:MO}:(M++[m])[M.length]?=some m:=by simp
def set_last {M:Mem} {m m':MO}:(M++[m]).set M.length m'=M++[m']:=by simp
def bk_all {X:Cx} {K:W.Frag} (h:X.K=K) (hc:X.calm=true):CallR X (.builtin "all") (fun xs H Q=>∃ (p:Addr) (bs:List Bool),xs=[.ref p]/\SqL K H p (bs.map V.bl)/\Q (.bl (bs.all id)) H):=by subst h; exact call_all hc
def item_int {ns:List Int} {i:Nat} {x:D} (h:(ns.map D.int)[i]?=some x):∃ hi:i < ns.length,x=.int ns[i]:=by
 obtain ⟨hi,e⟩:=List.getElem?_eq_some_iff.mp h
 rw [List.length_map] at hi
 refine ⟨hi,?_⟩
 rw [<- e,List.getElem_map]
def item_map {τ:Type} {f:τ->D} {as:List τ} {i:Nat} {x:D} (h:(as.map f)[i]?=some x):∃ hi:i < as.length,x=f as[i]:=by
 obtain ⟨hi,e⟩:=List.getElem?_eq_some_iff.mp h
 rw [List.length_map] at hi
 exact ⟨hi,by rw [<- e,List.getElem_map]⟩
def atI_map {τ:Type} {f:τ->D} {as:List τ} {i:Int} {j:Nat} (h:i=j) (hj:j < as.length):L2.atI (as.map f) i=some (f as[j]):=by
 subst h
 exact atI_nat (by rw [List.getElem?_map,List.getElem?_eq_getElem hj]; rfl)
def ls_last {M:Mem} {xs:List D}:lsOf (M++[.lst xs]) (.cell M.length)=some xs:=by simp [lsOf]
def lst_last {M:Mem} {xs:List D}:lstOf (M++[.lst xs]) (.cell M.length)=some xs:=by simp [lstOf]
def ls_some {M:Mem} {d:D} {xs:List D} (h:lsOf M d=some xs):lsOf M d≠none:=by rw [h]; exact fun z=>nomatch z
def dk_drop {M M':Mem} {d:D} {K:K3} (p:M<+:M') (hM:WfM M) (hb:Below M.length d) (h:K d M):Dk M.length K d M':=by
 obtain ⟨t,rfl⟩:=p
 exact .inr ⟨M.length,Nat.le_refl _,hb,by rw [List.take_left]; exact hM,by rw [List.take_left]; exact h⟩
def pre1 {M:Mem} {a:List MO}:M<+:M++a:=List.prefix_append _ _
def pre2 {M:Mem} {a b:List MO}:M<+:M++a++b:=(List.prefix_append _ _).trans (List.prefix_append _ _)
theorem item3 {a b c:D} {r:Int} (h0:0<=r) (h1:r < 3):∃ d,L2.atI [a,b,c] r=some d/\(d=a\/d=b\/d=c):=by
 have:r=0\/r=1\/r=2:=by omega
 rcases this with rfl | rfl | rfl
 ·exact ⟨a,rfl,.inl rfl⟩
 ·exact ⟨b,rfl,.inr (.inl rfl)⟩
 ·exact ⟨c,rfl,.inr (.inr rfl)⟩
def below_w {n:Nat} {w:List Int}:Below n (wD w):=below_tup (below_map (fun _=>below_int) w)
end L3
namespace L3
def seq_by {E:TE3} {ug:TG3} {u':TS3} {En:Ends3} {ρ:Ev} {M:Mem} (S:D->Mem->Prop) (h1:∀ K:K3,(∀ d M',S d M'->K d M')->E ρ M K) (h2:∀ d M',S d M'->ug d ρ M' (u' En)):uSeq (uAsg E ug) u' En ρ M:=h1 _ h2
def g_nx {i:Nat} {d:D} {ρ:Ev} {M:Mem} {K:Ev->Mem->Prop} (h:K (ρ.set i (some d)) M):uG i d ρ M K:=h
end L3
namespace L3
open PySem L2
def st_by {u u':TS3} {En:Ends3} {ρ:Ev} {M:Mem} (S:Ev->Mem->Prop) (h1:∀ Kn:Ev->Mem->Prop,(∀ ρ' M',S ρ' M'->Kn ρ' M')->u { En with nx:=Kn } ρ M) (h2:∀ ρ' M',S ρ' M'->u' En ρ' M'):uSeq u u' En ρ M:=h1 _ h2
theorem cut_len {τ:Type} (xs:List τ) (lo hi:Option Int):(cut xs lo hi).length<=xs.length:=by
 unfold cut
 rw [List.length_take,List.length_drop]
 omega
section
variable {C:Cf} {Z:Anc} {t:TA} {u:TA3}
def uPar (i j:Nat) (u:TA3):TS3:=fun E ρ M=>u ρ M fun ds M1=>∃ d e,ds=[d,e]/\E.nx ((ρ.set i (some d)).set j (some e)) M1
def s_par {i j:Nat} (ha:SimA C Z t u):SimS C Z (tPar i j t) (uPar i j u):=fun I α σ H ρ M E D' R RE h F =>
 ha I α σ H ρ M _ _ R RE h fun vs ds I1 α1 H1 M1 s p R1 r h1=>by
  obtain ⟨d,e,rfl,h1⟩:=h1
  cases r with
  | cons r1 r2 =>
   cases r2 with
   | cons r2 r3 =>
    cases r3
    exact ⟨_,_,rfl,F.nx I1 α1 _ H1 _ M1 s p R1 (((RE.mono s p).set r1 i).set r2 j) h1⟩
end
section
variable {C:Cf} {Z:Anc} {ta:TE} {ua:TE3}
def uRevT (ua:TE3) (us:TO3):TE3:=fun ρ M K=>ua ρ M fun d M1=>us ρ M1 fun k M2=>k=some (-1)/\∃ xs,d=.tup xs/\K (.tup xs.reverse) M2
def s_revT {ts:TO} {us:TO3} (ha:SimE C Z ta ua) (hs:SimO C Z ts us):SimE C Z (tRevT C.k ta ts) (uRevT ua us):=fun I α σ H ρ M K Q R E h k =>
 ha I α σ H ρ M _ _ R E h fun v d I1 α1 H1 M1 s1 p1 R1 r1 h1 =>
  hs I1 α1 σ H1 ρ M1 _ _ R1 (E.mono s1 p1) h1 fun o I2 α2 H2 M2 s2 p2 R2 h2=>by
   obtain ⟨ho,xs,rfl,h2⟩:=h2
   cases (r1.mono s2 p2) with
   | tup e r =>
    refine ⟨ho,_,_,rfl,SqT.of (R2.sub _ _ e),fun p hp=>?_⟩
    obtain ⟨R3,s3,e3⟩:=R2.new (o:=.tup _) hp
    exact k _ _ _ α2 _ M2 (s1.trans (s2.trans s3)) (p1.trans p2) R3 (.tup e3 (r.rev.mono s3 (List.prefix_refl _))) h2
end
def spLaw0 (K:W.Frag):Sp:=fun vs H Q _=>∃ (a:Addr) (ns:List Int),vs=[.ref a]/\SqL K H a (ns.map V.int)/\ns.length<=63/\∀ H',Q (.bl true) H'
def dLaw0:Sp3:=fun ds M K=>∃ ns:List Int,ds=[.frz (ns.map .int)]/\M=[]/\ns.length<=63/\∀ M',K (.bl true) M'
def law_in0 {C:Cf} {vs:List V} {H:Hp} {Q:VK} {E:XK} (h:spLaw0 C.k vs H Q E):spOf C dLaw0 vs H Q E:=by
 obtain ⟨a,ns,rfl,hS,hl,k⟩:=h
 refine ⟨⟨fun _=>none,[],fun _ _ _=>False,fun _ _ _=>False⟩,H,[],[],[.frz (ns.map .int)],fun d _=>d=.bl true,⟨(fun _ _ h=>nomatch h),List.nil_prefix,.refl _,rfl,by simp,fun k' a' m h1 h2=>by simp at h1⟩,?_,⟨ns,rfl,rfl,hl,fun _=>rfl⟩,fun v d I' α' H' M' _ _ _ r h=>?_⟩
 ·exact .one (.frz hS (.ints ns))
 ·subst h
  cases r
  exact k H'
section
variable {C:Cf} {Z:Anc}
def add3C:R3:=fun d e M K=>∃ xs ys,lsOf M d=some xs/\lsOf M e=some ys/\xs.length + ys.length<=sizeLine/\K (.cell M.length) (M++[.lst (xs++ys)])
def s_addC:SimR C Z (rAddU C.k) add3C:=fun I α H M x y d e K Q R r1 r2 h k=>by
 obtain ⟨xs,ys,e1,e2,hl,h⟩:=h
 obtain ⟨a,vs,rfl,ea,ra⟩:=ls_at R r1 e1
 obtain ⟨b,ws,rfl,eb,rb⟩:=ls_at R r2 e2
 refine .inr (.inr (.inl ⟨a,b,vs,ws,rfl,rfl,ea,eb,by rw [ra.length,rb.length]; exact hl,fun p hp=>?_⟩))
 obtain ⟨R2,p2,e2⟩:=R.cell (o:=.lst (vs++ws)) (m:=.lst (xs++ys)) hp fun H' e=>⟨_,e,ra.app rb⟩
 exact k _ _ I _ _ _ (.refl _) p2 R2 (.cell e2) h
end
end L3
namespace L2
open PySem PySem.Spec PyProof.Rows
section
variable {X:Cx}
def op_isB:OpR X (compareOp .Is) (fun x y H Q=>∃ c d,x=.bl c/\y=.bl d/\Q (.bl (c == d)) H):=by
 intro pins s σ H x y v u Q I rx ry h
 obtain ⟨c,d,rfl,rfl,q⟩:=h
 cases rx
 cases ry
 exact is_bool (fin_bl I q rfl)
end
end L2
namespace L3
open PySem L2
section
variable {C:Cf} {Z:Anc}
def bl3 (g:Bool->Bool->Bool):R3:=fun d e M K=>∃ c b,d=.bl c/\e=.bl b/\K (.bl (g c b)) M
def s_isB:SimR C Z (fun x y H Q=>∃ c d,x=.bl c/\y=.bl d/\Q (.bl (c == d)) H) (bl3 fun c d=>c == d):=fun I α H M x y d e K Q R r1 r2 h k=>by
 obtain ⟨i,j,rfl,rfl,h⟩:=h
 cases r1
 cases r2
 exact ⟨i,j,rfl,rfl,k _ _ I α H M (.refl _) (List.prefix_refl _) R (.bl _) h⟩
end
theorem ls_ty {M:Mem} {d:D} {xs:List D} (h:lsOf M d=some xs):tyOf M d=some .list/\lstOf M d=some xs/\seqOf M d=some xs:=by
 cases d with
 | lst ys=>cases h; exact ⟨rfl,rfl,rfl⟩
 | cell k =>
  simp only [lsOf] at h
  cases hm:M[k]? with
  | none=>rw [hm] at h; cases h
  | some m =>
   rw [hm] at h
   cases m with
   | lst es=>cases h; exact ⟨by simp only [tyOf,hm],by simp only [lstOf,hm],by simp only [seqOf,lstOf,hm]⟩
   | _=>cases h
 | _=>cases h
def putD_new {κ:Type} [DecidableEq κ] {k:κ} {v:D} {kvs:List (κ×D)} (h:∀ kv∈kvs,kv.1≠k):putD kvs k v=kvs++[(k,v)]:=by
 unfold putD
 rw [if_neg]
 intro z
 obtain ⟨kv,hk,e⟩:=List.any_eq_true.mp z
 exact h kv hk (of_decide_eq_true e)
theorem len_ls {M:Mem} {d:D} {xs:List D} {K:K3} (h:lsOf M d=some xs) (hk:K (.int xs.length) M):len3 [d] M K:=by
 cases d with
 | lst zs=>exact ⟨_,(ls_ty h).2.2,hk⟩
 | cell k=>exact ⟨_,(ls_ty h).2.2,hk⟩
 | _=>cases h
theorem keys_wk:∀ ns:List Int,keysOf (ns.map D.int)=some (wk ns)
 | []=>rfl
 | x::r=>by
  show (match keyOf (D.int x),keysOf (r.map D.int) with | some k,some ks=>some (k::ks) | _,_=>none)=_
  rw [keys_wk r]
  rfl
end L3
namespace L2
open PySem
def spWordsB:Sp:=fun vs H Q _=>∃ (p a sa:Addr) (m lg:Int) (bs:List Int),vs=[.ref p,.ref sa,.int m,.int lg]/\HandAt H p a/\H sa=some (.lst (bs.map V.int))/\sa≠p/\bs.Nodup/\bs≠[]/\bs.length<=24/\0<=m/\m<=6/\1<=lg/\lg<=4 /\
 ∀ (l:Addr) (ws:List (List Int)) (H':Hp),H l=none->l≠p->WordsAt H' l ws->WOk ws->(∀ w∈ws,∀ b∈w,b∈bs)->(ws.length:Int)<=bs.length + m * bs.length->HandAt H' p a->Grow p H H'->Q (.ref l) H'
end L2
namespace L3
open PySem L2
section
variable {C:Cf} {Z:Anc}
def dWordsB:Sp3:=fun ds M K=>∃ (k:Nat) (bs:List Int) (m lg:Int),ds=[.cell k,.lst (bs.map .int),.int m,.int lg]/\M[k]?=some .hand/\(bs.Nodup/\bs≠[]/\bs.length<=24/\0<=m/\m<=6/\1<=lg/\lg<=4)/\∀ ws:List (List Int),WOk ws->(∀ w∈ws,∀ b∈w,b∈bs)->(ws.length:Int)<=bs.length + m * bs.length->K (.lst (ws.map wD)) M
theorem a_wordsB {vs:List V} {H:Hp} {Q:VK} {E:XK} (h:spOf C dWordsB vs H Q E):spWordsB vs H Q E:=by
 obtain ⟨Z,I,α,M,ds,K,R,r,⟨k,bs,m,lg,rfl,hm,⟨h1,h2,h3,h4,h5,h6,h7⟩,h⟩,kk⟩:=h
 cases r with
 | cons r1 r2 =>
  cases r2 with
  | cons r2 r3 =>
   cases r3 with
   | cons r3 r4 =>
    cases r4 with
    | cons r4 r5 =>
     cases r5
     cases r3
     cases r4
     cases r1 with
     | @cell p _ ha =>
      obtain ⟨c,cs,hh,ic,hc⟩:=R.hand ha hm
      obtain ⟨sa,rfl,es,is⟩:=ints_at R r2
      exact ⟨p,c,sa,m,lg,bs,rfl,hh,es,ne_hand R ha hm is,h1,h2,h3,h4,h5,h6,h7,fun l ws H' nl _ wa wo wb wl hh' g=>hand_words R ha hm hh' ic hc g nl wa kk (h ws wo wb wl)⟩
end
def ls_at_ {N:Mem} {xs:List D} {t:Nat} (h:N[t]?=some (.lst xs)):lsOf N (.cell t)=some xs:=by simp only [lsOf,h]
end L3
namespace L2
open PySem PySem.Spec PyProof.Rows
section
variable {X:Cx} {pos:Pos}
def gLst (K:W.Frag) (n:Nat) (t:TGs):TG:=fun v σ H Q=>∃ a xs,v=.ref a/\SqL K H a xs/\xs.length=n/\t xs σ H Q
def pg_lst {es:List Expr} {k:Nat} {t:TGs} {n:Nat} (hc:X.calm=true) (h:PGs X es t)
  (hn:(assignEach es X.env).length=n:=by rfl) (hst:(assignEach es X.env).findIdx? (·.1)=none:=by rfl):PG X (.Tuple es k pos) (gLst X.K n t):=by
 intro pins s σ H v u Q I r hw
 obtain ⟨a,xs,e1,hq,hl,hw⟩:=hw
 subst e1
 cases r
 obtain ⟨its,rv,pl,hz⟩:=I.list hq
 have hs:(assignEach es X.env).length=its.toArray.size:=by rw [hn,<- hl,rv.length]; simp
 rw [assign_Tuple]
 refine wpAny_bind (wpAny_standAt ?_)
 unfold unpack
 rw [hs,hst]
 refine wpAny_bind (wpAny_holding (W.kun_itemsOf (I.ok.hd hc) pl.isList fun h' hx=>?_))
 have I1:Inv X pins σ H { s with heap:=h' }:=I.kept (t':=s.toks) fun b o e=>hx b o (Nat.ne_of_lt (Heap.lt_size e)) e
 exact h pins _ σ H xs _ Q I1 (by simpa using rv) hw
end
end L2
namespace L3
open PySem L2
section
variable {C:Cf} {Z:Anc} {gs:TGs} {ugs:TGs3}
def uGLst (n:Nat) (ugs:TGs3):TG3:=fun d ρ M K=>∃ ds,lstOf M d=some ds/\ds.length=n/\ugs ds ρ M K
def s_glst {n:Nat} (h:SimGs C Z gs ugs):SimG C Z (gLst C.k n gs) (uGLst n ugs):=fun I α σ H ρ M v d K Q R RE r hh k=>by
 obtain ⟨ds,e,hl,hh⟩:=hh
 obtain ⟨a,vs,rfl,ea,ra⟩:=lst_at R r e
 exact ⟨a,vs,rfl,ea,by rw [ra.length]; exact hl,h I α σ H ρ M vs ds K Q R RE ra hh k⟩
end
section
variable {C:Cf} {Z:Anc} {K':W.Frag} {X:Cx}
def rAddT (K:W.Frag):R2:=fun x y H Q=>rCatE K x y H Q\/rCatT K x y H Q
def ux_addT (h:X.K=K'):OpR X (binaryOp .Add) (rAddT K'):=by
 subst h
 exact OpR.or op_catE op_catT
def addT3:R3:=fun d e M K=>∃ xs ys,d=.tup xs/\e=.tup ys/\xs.length + ys.length<=sizeLine/\K (.tup (xs++ys)) M
def s_addT:SimR C Z (rAddT C.k) addT3:=fun I α H M x y d e K Q R r1 r2 h k=>by
 obtain ⟨xs,ys,rfl,rfl,hl,h⟩:=h
 obtain ⟨a,vs,rfl,ea,ia,ra⟩:=tup_at R r1 rfl
 obtain ⟨b,ws,rfl,eb,ib,rb⟩:=tup_at R r2 rfl
 by_cases hx:xs=[]
 ·subst hx
  cases ra
  exact .inl ⟨a,b,ws,rfl,rfl,SqT.of ea,SqT.of eb,k _ _ I α H M (.refl _) (List.prefix_refl _) R r2 h⟩
 ·refine .inr ⟨a,b,vs,ws,rfl,rfl,SqT.of ea,SqT.of eb,fun z=>?_,by rw [ra.length,rb.length]; exact hl,fun z=>?_,fun _ p hp=>?_⟩
  ·subst z
   cases ra
   exact hx rfl
  ·subst z
   cases rb
   rw [List.append_nil] at h
   exact k _ _ I α H M (.refl _) (List.prefix_refl _) R r1 h
  ·obtain ⟨R2,s2,e2⟩:=R.new (o:=.tup (vs++ws)) hp
   exact k _ _ _ α _ M s2 (List.prefix_refl _) R2 (.tup e2 ((ra.app rb).mono s2 (List.prefix_refl _))) h
end
theorem atI_back {τ:Type} {xs:List τ} {j:Nat} (h:j < xs.length):L2.atI xs (-1 - (j:Int))=xs.reverse[j]?:=by
 unfold L2.atI ixN
 rw [if_neg (by omega),if_pos (by omega),List.getElem?_reverse h]
 show xs[(-1 - (j:Int) + (xs.length:Int)).toNat]?=_
 congr 1
 omega
def shp_lays {n:Nat} {ds:List PyData} (h:∀ d∈ds,Shp n d):PyData.canLayAll0 ds=true:=(shp_all h).1
theorem at_neg1 {τ:Type} {xs:List τ} {n:Nat} (h:xs.length=n + 1):L2.atI xs (-1)=xs[n]?:=by
 have:=atI_back (xs:=xs) (j:=0) (by omega)
 rw [show (-1:Int) - ((0:Nat):Int) = -1 from rfl] at this
 rw [this,List.getElem?_reverse (by omega),h]
 rfl
theorem flat_len {α β:Type} {l:List α} {f:α->List β} {b:Nat} (h:∀ x∈l,(f x).length<=b):(l.flatMap f).length<=l.length * b:=by
 induction l with
 | nil=>simp
 | cons a r ih =>
  have:=ih fun x hx=>h x (List.mem_cons_of_mem _ hx)
  have:=h a List.mem_cons_self
  rw [List.flatMap_cons,List.length_append,List.length_cons,Nat.succ_mul]
  omega
section
variable {C:Cf} {Z:Anc} {X:Cx} {K':W.Frag}
def ux_inD (h:X.K=K') (hu:X.A.units + 64 < cLine):OpR X (compareOp .In) (L2.rInD K'):=by subst h; exact op_inD hu
def inD3:R3:=fun d e M K=>∃ (xs:List D) (ps:List PyData) (p:PyData),lstOf M e=some xs/\PyRs M xs ps/\PyR M d p/\PyData.canLayAll0 ps=true/\p.canLay0=true/\p.depth<=60/\K (.bl (ps.any fun z=>PyData.eqv z p)) M
def s_inD:SimR C Z (L2.rInD C.k) inD3:=fun I α H M x y d e K Q R r1 r2 h k=>by
 obtain ⟨xs,ps,p,el,hx,hd,c1,c2,dd,h⟩:=h
 obtain ⟨a,vs,rfl,ea,ra⟩:=lst_at R r2 el
 exact ⟨a,vs,ps,p,rfl,ea,pys_dv R hx ra,py_dv R hd r1,c1,c2,dd,k _ _ I α H M (.refl _) (List.prefix_refl _) R (.bl _) h⟩
end
section
variable {C:Cf} {Z:Anc} {X:Cx} {K':W.Frag}
def ux_notinD (h:X.K=K') (hu:X.A.units + 64 < cLine):OpR X (compareOp .NotIn) (L2.rNotInD K'):=by subst h; exact op_notinD hu
def notinD3:R3:=fun d e M K=>∃ (xs:List D) (ps:List PyData) (p:PyData),lstOf M e=some xs/\PyRs M xs ps/\PyR M d p/\PyData.canLayAll0 ps=true/\p.canLay0=true/\p.depth<=60/\K (.bl (!ps.any fun z=>PyData.eqv z p)) M
def s_notinD:SimR C Z (L2.rNotInD C.k) notinD3:=fun I α H M x y d e K Q R r1 r2 h k=>by
 obtain ⟨xs,ps,p,el,hx,hd,c1,c2,dd,h⟩:=h
 obtain ⟨a,vs,rfl,ea,ra⟩:=lst_at R r2 el
 exact ⟨a,vs,ps,p,rfl,ea,pys_dv R hx ra,py_dv R hd r1,c1,c2,dd,k _ _ I α H M (.refl _) (List.prefix_refl _) R (.bl _) h⟩
def any_enc {τ:Type} [DecidableEq τ] (N:Enc τ) (xs:List τ) (t:τ):((xs.map N.py).any fun z=>PyData.eqv z (N.py t))=decide (t∈xs):=by
 rw [List.any_map]
 refine Bool.eq_iff_iff.mpr ⟨fun z=>decide_eq_true ?_,fun hx=>?_⟩
 ·obtain ⟨x,hx,e⟩:=List.any_eq_true.mp z
  have e:PyData.eqv (N.py x) (N.py t)=true:=e
  rw [N.eq,decide_eq_true_iff] at e
  exact e ▸ hx
 ·refine List.any_eq_true.mpr ⟨t,of_decide_eq_true hx,?_⟩
  show PyData.eqv (N.py t) (N.py t)=true
  rw [N.eq]
  exact decide_eq_true rfl
def lays_enc {τ:Type} [DecidableEq τ] (N:Enc τ) (xs:List τ):PyData.canLayAll0 (xs.map N.py)=true:=shp_lays (n:=N.n) fun d hd=>by
 obtain ⟨x,_,rfl⟩:=List.mem_map.mp hd
 exact N.shp x
def in_enc {τ:Type} [DecidableEq τ] (N:Enc τ) {xs:List τ} {t:τ} {d e:D} {M:Mem} {K:K3} (h1:PyR M d (N.py t)) (h2:lstOf M e=some (xs.map N.e)) (h:∀ b:Bool,(b=true↔t∈xs)->K (.bl b) M):inD3 d e M K :=
 ⟨_,xs.map N.py,N.py t,h2,pys_map (N.ok M) xs,h1,lays_enc N xs,(N.shp t).1,Nat.le_trans (N.shp t).2 N.hn,h _ (by rw [any_enc,decide_eq_true_iff])⟩
def notin_enc {τ:Type} [DecidableEq τ] (N:Enc τ) {xs:List τ} {t:τ} {d e:D} {M:Mem} {K:K3} (h1:PyR M d (N.py t)) (h2:lstOf M e=some (xs.map N.e)) (h:∀ b:Bool,(b=true↔t∈xs)->K (.bl (!b)) M):notinD3 d e M K :=
 ⟨_,xs.map N.py,N.py t,h2,pys_map (N.ok M) xs,h1,lays_enc N xs,(N.shp t).1,Nat.le_trans (N.shp t).2 N.hn,h _ (by rw [any_enc,decide_eq_true_iff])⟩
theorem repT_keys {I:Hp} {α:List Addr}:∀ {kvs:List (List Key×V)} (zs:List (List Int×D)),RepT C I α kvs (zs.map fun z=>(wk z.1,z.2))->kvs.map (·.1)=(zs.map (·.1)).map wk
 | _,[],r=>by cases r; rfl
 | _,z::zs,r=>by
  cases r with
  | cons r1 r2=>rw [List.map_cons,repT_keys zs r2]; rfl
end
def rb (a b:List Int):Option (List Int):=if a.take (min a.length b.length)=b.take (min a.length b.length) then some (a.drop (min a.length b.length)++b.drop (min a.length b.length)) else none
theorem rb_some {a b r:List Int} (h:rb a b=some r):a=b++r\/b=a++r:=by
 unfold rb at h
 split at h
 ·rename_i e
  have h:=Option.some.inj h
  by_cases hl:a.length<=b.length
  ·rw [Nat.min_eq_left hl] at h e
   rw [List.take_length] at e
   rw [List.drop_length,List.nil_append] at h
   right
   rw [<- h]
   have:=List.take_append_drop a.length b
   rw [<- e] at this
   exact this.symm
  ·rw [Nat.min_eq_right (by omega)] at h e
   rw [List.take_length] at e
   rw [List.drop_length,List.append_nil] at h
   left
   rw [<- h]
   have:=List.take_append_drop b.length a
   rw [e] at this
   exact this.symm
 ·cases h
inductive Ov (ws:List (List Int)):List Int->Prop where
 | first {i j:Nat} {a b r:List Int}:i < j->ws[i]?=some a->ws[j]?=some b->rb b a=some r->Ov ws r
 | more {r w q:List Int}:Ov ws r->r≠[]->w∈ws->rb r w=some q->Ov ws q
def fr1 (ws:List (List Int)) (j:Nat):List (List Int):=(ws.take j).filterMap (rb (ws[j]?.getD []))
def frs (ws:List (List Int)):Nat->List (List Int)
 | 0=>[]
 | j + 1=>frs ws j++fr1 ws j
theorem mem_frs {ws:List (List Int)} {r:List Int}:∀ {n:Nat},n<=ws.length->r∈frs ws n->Ov ws r
 | 0,_,h=>nomatch h
 | n + 1,hn,h=>by
  rcases List.mem_append.mp h with h | h
  ·exact mem_frs (by omega) h
  ·obtain ⟨a,ha,e⟩:=List.mem_filterMap.mp h
   obtain ⟨i,hi,rfl⟩:=List.getElem_of_mem ha
   have hi':i < n:=by rw [List.length_take] at hi; omega
   rw [List.getElem?_eq_getElem (by omega:n < ws.length),Option.getD_some] at e
   rw [List.getElem_take] at e
   exact .first hi' (List.getElem?_eq_getElem (by omega)) (List.getElem?_eq_getElem (by omega)) e
theorem frs_mem {ws:List (List Int)} {i j:Nat} {a b r:List Int} (hij:i < j) (h1:ws[i]?=some a) (h2:ws[j]?=some b) (e:rb b a=some r):∀ {n:Nat},j < n->r∈frs ws n
 | 0,h=>absurd h (Nat.not_lt_zero _)
 | n + 1,h=>by
  by_cases hj:j < n
  ·exact List.mem_append_left _ (frs_mem hij h1 h2 e hj)
  ·have:j=n:=by omega
   subst this
   refine List.mem_append_right _ (List.mem_filterMap.mpr ⟨a,?_,by rw [h2]; exact e⟩)
   exact List.mem_of_getElem? (i:=i) (by rw [List.getElem?_take_of_lt hij]; exact h1)
theorem frs_len {ws:List (List Int)} (hw:ws.length<=40):∀ {n:Nat},(frs ws n).length<=40 * n
 | 0=>Nat.le_refl _
 | n + 1=>by
  rw [frs,List.length_append]
  have h1:=frs_len hw (n:=n)
  have h2:(fr1 ws n).length<=40:=Nat.le_trans (List.length_filterMap_le _ _) (by rw [List.length_take]; omega)
  omega
structure OvSt (ws zs ps:List (List Int)):Prop where
 nd:zs.Nodup
 z:∀ z∈zs,Ov ws z
 p:∀ p∈ps,Ov ws p
 f:∀ r∈frs ws ws.length,r∈zs\/r∈ps
 c:∀ z∈zs,z≠[]->∀ w∈ws,∀ q,rb z w=some q->q∈zs\/q∈ps
def OvSt.start {ws:List (List Int)}:OvSt ws [] (frs ws ws.length):=⟨List.nodup_nil,(fun _ h=>nomatch h),fun p h=>mem_frs (Nat.le_refl _) h,fun r h=>.inr h,fun _ h=>nomatch h⟩
def OvSt.old {ws zs ps:List (List Int)} {r:List Int} (h:OvSt ws zs (ps++[r])) (hr:r∈zs):OvSt ws zs ps:=by
 have go:∀ q,q∈zs\/q∈ps++[r]->q∈zs\/q∈ps:=fun q hq=>by
  rcases hq with y | y
  ·exact .inl y
  ·rcases List.mem_append.mp y with y | y
   ·exact .inr y
   ·rw [List.mem_singleton.mp y]; exact .inl hr
 exact ⟨h.nd,h.z,fun p hp=>h.p p (List.mem_append_left _ hp),fun q hq=>go q (h.f q hq),fun z hz ne w hw q e=>go q (h.c z hz ne w hw q e)⟩
def OvSt.new {ws zs ps ms:List (List Int)} {r:List Int} (h:OvSt ws zs (ps++[r])) (hr:r∉zs) (hm:r≠[]->ms=ws.filterMap (rb r)) (hm0:r=[]->ms=[]):OvSt ws (zs++[r]) (ps++ms):=by
 have ovr:Ov ws r:=h.p r (List.mem_append_right _ (List.mem_singleton.mpr rfl))
 have go:∀ q,q∈zs\/q∈ps++[r]->q∈zs++[r]\/q∈ps++ms:=fun q hq=>by
  rcases hq with y | y
  ·exact .inl (List.mem_append_left _ y)
  ·rcases List.mem_append.mp y with y | y
   ·exact .inr (List.mem_append_left _ y)
   ·exact .inl (List.mem_append_right _ y)
 refine ⟨List.nodup_append.mpr ⟨h.nd,by simp,fun a ha b hb e=>?_⟩,fun z hz=>?_,fun p hp=>?_,fun q hq=>go q (h.f q hq),fun z hz ne w hw q e=>?_⟩
 ·rw [e,List.mem_singleton.mp hb] at ha; exact hr ha
 ·rcases List.mem_append.mp hz with y | y
  ·exact h.z z y
  ·rw [List.mem_singleton.mp y]; exact ovr
 ·rcases List.mem_append.mp hp with y | y
  ·exact h.p p (List.mem_append_left _ y)
  ·by_cases e:r=[]
   ·rw [hm0 e] at y; cases y
   ·rw [hm e] at y
    obtain ⟨w,hw,ew⟩:=List.mem_filterMap.mp y
    exact .more ovr e hw ew
 ·rcases List.mem_append.mp hz with y | y
  ·exact go q (h.c z y ne w hw q e)
  ·have ez:=List.mem_singleton.mp y
   rw [ez] at ne e
   right
   rw [hm ne]
   exact List.mem_append_right _ (List.mem_filterMap.mpr ⟨w,hw,e⟩)
theorem OvSt.all {ws zs:List (List Int)} (h:OvSt ws zs []) {r:List Int} (o:Ov ws r):r∈zs:=by
 induction o with
 | first hij h1 h2 e =>
  have hj:=(List.getElem?_eq_some_iff.mp h2).1
  exact (h.f _ (frs_mem hij h1 h2 e hj)).elim id fun z=>nomatch z
 | more _ ne hw e ih=>exact (h.c _ ih ne _ hw _ e).elim id fun z=>nomatch z
def opW:Option (List Int)->D
 | none=>.non
 | some r=>wD r
def dRestB:Sp3:=fun ds M K=>∃ a b:List Int,ds=[wD a,wD b]/\(a.length<=1000/\b.length<=1000)/\K (opW (rb a b)) M
def dRests:Sp3:=fun ds M K=>∃ (a:List Int) (ws:List (List Int)),ds=[wD a,.lst (ws.map wD)]/\(ws.length<=40/\a.length<=4/\∀ w∈ws,w.length<=4)/\K (.lst ((ws.filterMap (rb a)).map wD)) M
def dFirstR:Sp3:=fun ds M K=>∃ (ws:List (List Int)),ds=[.lst (ws.map wD)]/\(ws.length<=40/\∀ w∈ws,w.length<=4)/\K (.cell M.length) (M++[.lst ((frs ws ws.length).map wD)])
theorem ov_len {ws:List (List Int)} (h:∀ w∈ws,w.length<=4) {r:List Int} (o:Ov ws r):r.length<=4:=by
 have cut:∀ {a b r:List Int},a.length<=4->b.length<=4->rb a b=some r->r.length<=4:=fun ha hb e=>by
  rcases rb_some e with z | z
  ·rw [z,List.length_append] at ha; omega
  ·rw [z,List.length_append] at hb; omega
 induction o with
 | first _ h1 h2 e=>exact cut (h _ (List.mem_of_getElem? h2)) (h _ (List.mem_of_getElem? h1)) e
 | more _ _ hw e ih=>exact cut ih (h _ hw) e
theorem lst_up {M:Mem} {d:D} {xs:List D} {X:Mem} (h:lstOf M d=some xs):lstOf (M++X) d=some xs:=by
 cases d with
 | lst ys=>exact h
 | frz ys=>exact h
 | cell k =>
  simp only [lstOf] at h ⊢
  by_cases hk:k < M.length
  ·rw [List.getElem?_append_left hk]; exact h
  ·rw [List.getElem?_eq_none (Nat.le_of_not_lt hk)] at h
   exact nomatch h
 | _=>exact nomatch h
def seen (zs:List (List Int)):List (List Key×D):=zs.map fun z=>(wk z,D.bl true)
theorem seen_val {zs:List (List Int)} {r:List Int}:(valD (seen zs) (wk r)).isSome=decide (r∈zs):=by
 unfold valD seen
 induction zs with
 | nil=>rfl
 | cons z zs ih =>
  rw [List.map_cons,List.find?_cons]
  by_cases e:z=r
  ·rw [show decide (((wk z,D.bl true):List Key×D).1=wk r)=true from decide_eq_true (by rw [e])]
   rw [decide_eq_true (by rw [e]; exact List.mem_cons_self)]
   rfl
  ·rw [show decide (((wk z,D.bl true):List Key×D).1=wk r)=false from decide_eq_false fun h=>e (wk_inj h)]
   have:decide (r∈z::zs)=decide (r∈zs):=decide_eq_decide.mpr ⟨fun h=>(List.mem_cons.mp h).elim (fun h=>absurd h.symm e) id,List.mem_cons_of_mem _⟩
   rw [this]
   exact ih
def seen_put {zs:List (List Int)} {r:List Int} (h:r∉zs):putD (seen zs) (wk r) (D.bl true)=seen (zs++[r]):=by
 rw [putD_new fun kv hkv e=>by obtain ⟨z,hz,rfl⟩:=List.mem_map.mp hkv; exact h (wk_inj e ▸ hz)]
 unfold seen
 rw [List.map_append]
 rfl
section
variable {M:Mem} {x y z:MO}
def two0:(M++[x,y])[M.length]?=some x:=by simp
theorem two1:(M++[x,y])[M.length + 1]?=some y:=by rw [List.getElem?_append_right (by omega)]; simp
def set20:(M++[x,y]).set M.length z=M++[z,y]:=by rw [List.set_append_right _ _ (Nat.le_refl _),Nat.sub_self]; rfl
theorem set21:(M++[x,y]).set (M.length + 1) z=M++[x,z]:=by rw [List.set_append_right _ _ (by omega),Nat.add_sub_cancel_left]; rfl
end
theorem nodup_le {τ:Type} [BEq τ] [LawfulBEq τ]:∀ {zs us:List τ},zs.Nodup->(∀ z∈zs,z∈us)->zs.length<=us.length
 | [],_,_,_=>Nat.zero_le _
 | z::zs,us,nd,h=>by
  obtain ⟨h1,h2⟩:=List.nodup_cons.mp nd
  have hz:=h z List.mem_cons_self
  have:=nodup_le (us:=us.erase z) h2 fun y hy=>(List.mem_erase_of_ne (fun (e:y=z)=>h1 (by rw [<- e]; exact hy))).mpr (h y (List.mem_cons_of_mem _ hy))
  rw [List.length_erase_of_mem hz] at this
  have:=List.length_pos_of_mem hz
  rw [List.length_cons]
  omega
def Wb (bs:List Int) (ws:List (List Int)):Prop:=∀ w∈ws,(w≠[]/\w.length<=4)/\∀ b∈w,b∈bs
def FewN (ws:List (List Int)):Prop:=∀ zs:List (List Int),zs.Nodup->(∀ z∈zs,Ov ws z)->zs.length < 64
theorem ov_three {bs:List Int} {ws:List (List Int)} (h:Wb bs ws) {r:List Int} (o:Ov ws r):r.length<=3/\∀ b∈r,b∈bs:=by
 have go:∀ {a b r:List Int},a≠[]->(∀ x∈b,x∈bs)->b.length<=4->b=a++r->r.length<=3/\∀ x∈r,x∈bs:=fun {a b r} ne hb lb e=>by
  subst e
  have:=List.length_pos_iff.mpr ne
  rw [List.length_append] at lb
  exact ⟨by omega,fun x hx=>hb x (List.mem_append_right _ hx)⟩
 induction o with
 | first _ h1 h2 e =>
  have ha:=h _ (List.mem_of_getElem? h1)
  have hb:=h _ (List.mem_of_getElem? h2)
  rcases rb_some e with z | z
  ·exact go ha.1.1 hb.2 hb.1.2 z
  ·exact go hb.1.1 ha.2 ha.1.2 z
 | more _ ne hw e ih =>
  have hv:=h _ hw
  rcases rb_some e with z | z
  ·exact go hv.1.1 ih.2 (by omega) z
  ·exact go ne hv.2 hv.1.2 z
theorem few_three {bs:List Int} {ws:List (List Int)} (h:Wb bs ws) (lb:bs.length<=3):FewN ws:=fun zs nd hz=>by
 have:=nodup_le (us:=[[]]++(bs.map fun b=>[b])++(bs.flatMap fun a=>bs.map fun b=>[a,b])++bs.flatMap fun a=>bs.flatMap fun b=>bs.map fun c=>[a,b,c]) nd fun z hz'=>?_
 ·have l2:(bs.flatMap fun a=>bs.map fun b=>[a,b]).length<=9:=by
   refine Nat.le_trans (flat_len (b:=bs.length) fun a _=>by rw [List.length_map]; exact Nat.le_refl _) ?_
   exact Nat.le_trans (Nat.mul_le_mul lb lb) (by decide)
  have l3:(bs.flatMap fun a=>bs.flatMap fun b=>bs.map fun c=>[a,b,c]).length<=27:=by
   refine Nat.le_trans (flat_len (b:=9) fun a _=>?_) (Nat.le_trans (Nat.mul_le_mul lb (Nat.le_refl _)) (by decide))
   refine Nat.le_trans (flat_len (b:=bs.length) fun a _=>by rw [List.length_map]; exact Nat.le_refl _) ?_
   exact Nat.le_trans (Nat.mul_le_mul lb lb) (by decide)
  simp only [List.length_append,List.length_map,List.length_cons,List.length_nil] at this
  omega
 obtain ⟨l,hm⟩:=ov_three h (hz z hz')
 match z,l,hm with
 | [],_,_=>exact List.mem_append_left _ (List.mem_append_left _ (List.mem_append_left _ (List.mem_singleton.mpr rfl)))
 | [a],_,hm=>exact List.mem_append_left _ (List.mem_append_left _ (List.mem_append_right _ (List.mem_map.mpr ⟨a,hm a (by simp),rfl⟩)))
 | [a,b],_,hm=>exact List.mem_append_left _ (List.mem_append_right _ (List.mem_flatMap.mpr ⟨a,hm a (by simp),List.mem_map.mpr ⟨b,hm b (by simp),rfl⟩⟩))
 | [a,b,c],_,hm=>exact List.mem_append_right _ (List.mem_flatMap.mpr ⟨a,hm a (by simp),List.mem_flatMap.mpr ⟨b,hm b (by simp),List.mem_map.mpr ⟨c,hm c (by simp),rfl⟩⟩⟩)
 | _::_::_::_::_,l,_=>simp only [List.length_cons] at l; omega
end L3
namespace L2
open PySem PySem.W PyProof.Rows HT PySem.Calls
section
variable {X:Cx}
def rSortDE:List V->Hp->VK->Prop:=fun xs H Q=>∃ (d:Addr) (kvs:List (List Key×V)) (ws:List (List Int)),xs=[.ref d]/\Rd H d (.dT kvs)/\kvs.map (·.1)=ws.map wk/\ws.length < 64/\ws.Nodup /\
 ∀ (D:Addr) (L':List KIt),H D=none->(L'.map (·.2.2)).Perm ws->L'.Pairwise (fun a b=>HT.lexLt a.2.2 b.2.2=true)->(∀ q∈L',H q.2.1=some (.tup (q.2.2.map V.int)))->Q (.ref D) (upd H D (.lst (L'.map fun q=>V.ref q.2.1)))
theorem call_sortDE (hc:X.calm=true) (hu:X.A.units + 200 < cLine):CallR X (.builtin "sorted") rSortDE:=by
 intro pins s σ H xs us Q I r h
 obtain ⟨d,kvs,ws,rfl,rd,ek,h64,nd,q⟩:=h
 obtain ⟨u,rfl,rx⟩:=vals1 r
 cases rx
 obtain ⟨z,lo,xs,rel,o,es,ep,h1,h2,h3,h4,h5⟩:=(show ObjOk X.prog X.w H s.heap d (.dT kvs) from rd_of I.hok rd)
 have lr:=Paired.length rel
 have ls:es.size=xs.length:=size_of_entries h4
 have lk:kvs.length=ws.length:=by have:=congrArg List.length ek; simpa using this
 have lay:∃ L:List KIt,(L.map fun q=>Value.ref q.2.1)=(xs.map fun q=>q.2.1).map Value.ref/\L.map (·.2.2)=ws/\∀ q∈L,H q.2.1=some (.tup (q.2.2.map V.int)):=by
  clear h4 ls q rd z lr h5 h64 nd lk
  induction rel generalizing ws with
  | nil =>
   cases ws with
   | nil=>exact ⟨[],rfl,rfl,fun _ h=>nomatch h⟩
   | cons _ _=>cases ek
  | @cons kv x _ _ a b ih =>
   cases ws with
   | nil=>cases ek
   | cons w ws =>
    rw [List.map_cons,List.map_cons] at ek
    injection ek with ek1 ek2
    obtain ⟨L,e1,e2,e3⟩:=ih ws ek2
    refine ⟨(.non,x.2.1,w)::L,by rw [List.map_cons,List.map_cons,List.map_cons,e1],by rw [List.map_cons,e2],fun q hq=>?_⟩
    rcases List.mem_cons.mp hq with y | y
    ·rw [y]
     have:=a.2.1
     rw [ek1] at this
     have ew:(wk w).map kV=w.map V.int:=by rw [List.map_map]; rfl
     rw [ew] at this
     exact this
    ·exact e3 q y
 obtain ⟨L,e1,e2,e3⟩:=lay
 have ll:L.length=ws.length:=by have:=congrArg List.length e2; simpa using this
 have hk:∀ q∈L,SqT X.K H q.2.1 (q.2.2.map V.int):=fun q hq=>.inl (.inl (e3 q hq))
 have nd2:(L.map (·.2.2)).Nodup:=by rw [e2]; exact nd
 refine sortedC I (κ:=kOf L) (fun {A R E} hA hR=>?_) (by omega) nd2 (fun _ _ J h0 {_ _ _} q=>tupE_kind J hk (by omega) q) (fun _ _ _ J=>tupE_cmp J hk nd2 (by show X.A.units + 1 + 1 + 120 < cLine; omega)) fun D L' hD pm pw=>q D L' hD (by rw [<- e2]; exact pm.map _) pw fun q hq=>e3 q (pm.mem_iff.mp hq)
 refine kdu_collect (A:=A) (kdl_any lo h2 h3) (hA.trans (I.ok.hd hc)) h1 (by rw [ls,<- lr]; exact z) fun h' tk acc hk' hacc=>?_
 have hal:acc.toList=keyVals L:=by
  show _=(L.map fun q=>Value.ref q.2.1)
  rw [e1]
  apply List.ext_getElem?
  intro j
  rw [List.map_map]
  by_cases hj:j < xs.length
  ·have hj2:j < acc.size:=by rw [hacc.1,ls]; exact hj
   obtain ⟨hj3,ev⟩:=hacc.2 j acc[j] (by rw [Array.getElem?_eq_getElem hj2])
   have:=entry_at h4 j
   rw [Array.getElem?_eq_getElem hj3,List.getElem?_eq_getElem hj] at this
   have:=Option.some.inj this
   rw [Array.getElem?_toList,Array.getElem?_eq_getElem hj2,ev,this,List.getElem?_map,List.getElem?_eq_getElem hj]
   rfl
  ·rw [Array.getElem?_toList,Array.getElem?_eq_none (by rw [hacc.1,ls]; omega),List.getElem?_eq_none (by rw [List.length_map]; omega)]
 rw [hal]
 exact hR h' tk hk'
theorem mem_foldS (val:Nat->List Int) (r:List Int):∀ n,r∈foldS val n↔∃ i,i < n/\val i=r
 | 0=>⟨(fun h=>nomatch h),fun ⟨_,h,_⟩=>absurd h (Nat.not_lt_zero _)⟩
 | n + 1=>by
  have ih:=mem_foldS val r n
  rw [foldS]
  unfold addS
  have step:(∃ i,i < n + 1/\val i=r)↔(∃ i,i < n/\val i=r)\/val n=r:=by
   refine ⟨fun ⟨i,h1,h2⟩=>?_,fun h=>?_⟩
   ·rcases Nat.lt_or_ge i n with z | z
    ·exact .inl ⟨i,z,h2⟩
    ·have:i=n:=by omega
     exact .inr (this ▸ h2)
   ·rcases h with ⟨i,h1,h2⟩ | h
    ·exact ⟨i,by omega,h2⟩
    ·exact ⟨n,by omega,h⟩
  rw [step,<- ih]
  split
  ·rename_i hm
   refine ⟨.inl,fun h=>h.elim id fun h=>?_⟩
   rw [<- h]
   first | exact hm | simpa using hm
  ·rw [List.mem_append,List.mem_singleton]
   exact ⟨fun h=>h.imp id Eq.symm,fun h=>h.imp id Eq.symm⟩
def mem_fsW {ps:List (Addr×List Int)} {r:List Int}:r∈fsW ps↔r∈ps.map (·.2):=by
 rw [mem_foldS,List.mem_map]
 refine ⟨fun ⟨i,hi,e⟩=>?_,fun ⟨p,hp,e⟩=>?_⟩
 ·rw [List.getD_eq_getElem?_getD,List.getElem?_eq_getElem hi] at e
  exact ⟨ps[i],List.getElem_mem hi,e⟩
 ·obtain ⟨i,hi,rfl⟩:=List.getElem_of_mem hp
  refine ⟨i,hi,?_⟩
  rw [List.getD_eq_getElem?_getD,List.getElem?_eq_getElem hi]
  exact e
def addS_nodup {S:List (List Int)} (h:S.Nodup) (k:List Int):(addS S k).Nodup:=by
 unfold addS
 split
 ·exact h
 ·rename_i hk
  refine List.nodup_append.mpr ⟨h,by simp,fun a ha b hb e=>?_⟩
  rw [e,List.mem_singleton.mp hb] at ha
  first | exact hk ha | exact hk (by simpa using ha)
theorem fsW_nodup (val:Nat->List Int):∀ n,(foldS val n).Nodup
 | 0=>List.nodup_nil
 | n + 1=>addS_nodup (fsW_nodup val n) _
end
end L2
namespace L3
open PySem L2
section
variable {C:Cf} {Z:Anc} {ta:TA} {ua:TA3}
def sortDE3C:List D->Mem->K3->Prop:=fun ds M K=>∃ (d:D) (zs:List (List Int×D)),ds=[d]/\dcTOf M d=some (zs.map fun z=>(wk z.1,z.2))/\(zs.length < 64/\(zs.map (·.1)).Nodup) /\
 ∀ ws:List (List Int),ws.Perm (zs.map (·.1))->ws.Pairwise (fun a b=>HT.lexLt a b=true)->K (.cell M.length) (M++[.lst (ws.map wD)])
theorem s_sortDEC:SimC C Z rSortDE sortDE3C:=fun I α H M xs ds K Q R r h k=>by
 obtain ⟨d,zs,rfl,e,⟨h64,nd⟩,h⟩:=h
 cases r with
 | cons r1 r2 =>
  cases r2
  obtain ⟨b,kvs,rfl,rd,rt⟩:=dcT_at R r1 e
  obtain ⟨I2,s2,R2,f⟩:=R.full
  refine ⟨b,kvs,zs.map (·.1),rfl,rd,repT_keys zs rt,by rw [List.length_map]; exact h64,nd,fun D L' hD pm pw hk=>?_⟩
  have go:∀ N:List KIt,(∀ q∈N,q∈L')->Reps C I2 α (N.map fun q=>V.ref q.2.1) ((N.map (·.2.2)).map wD):=fun N=>by
   induction N with
   | nil=>intro _; exact .nil
   | cons q r ih =>
    intro hm
    have eq:=hk q (hm q List.mem_cons_self)
    exact .cons (.tup (f _ _ eq (R.tupOut eq)) (Reps.ints _)) (ih fun x hx=>hm x (List.mem_cons_of_mem _ hx))
  obtain ⟨R4,p4,e4⟩:=R2.cell (o:=.lst (L'.map fun q=>V.ref q.2.1)) (m:=.lst ((L'.map (·.2.2)).map wD)) hD fun H' e=>⟨_,e,go L' fun q hq=>hq⟩
  exact k _ _ I2 _ _ _ s2 p4 R4 (.cell e4) (h (L'.map (·.2.2)) pm (by rw [List.pairwise_map]; exact pw))
def uSS (ua:TA3):TE3:=fun ρ M K=>ua ρ M fun ds M1=>∃ (d:D) (ws:List (List Int)),ds=[d]/\lstOf M1 d=some (ws.map wD)/\(∀ zs:List (List Int),zs.Nodup->(∀ z∈zs,z∈ws)->zs.length < 64) /\
 ∀ us:List (List Int),us.Pairwise (fun a b=>HT.lexLt a b=true)->(∀ r,r∈us↔r∈ws)->K (.lst (us.map wD)) M1
theorem lay_words {I:Hp} {α:List Addr}:∀ {vs:List V} (ws:List (List Int)),Reps C I α vs (ws.map wD)->∃ ps:List (Addr×List Int),(ps.map fun p=>V.ref p.1)=vs/\ps.map (·.2)=ws/\∀ p∈ps,I p.1=some (.tup (p.2.map V.int))
 | _,[],r=>by cases r; exact ⟨[],rfl,rfl,fun _ h=>nomatch h⟩
 | _,t::ts,r=>by
  cases r with
  | cons a b =>
   obtain ⟨L,e1,e2,e3⟩:=lay_words ts b
   cases a with
   | @tup c _ _ ec rc =>
    rw [Reps.of_ints _ rc] at ec
    refine ⟨(c,t)::L,by rw [List.map_cons,e1],by rw [List.map_cons,e2],fun q hq=>?_⟩
    rcases List.mem_cons.mp hq with z | z
    ·rw [z]; exact ec
    ·exact e3 q z
theorem s_sortSet {X:Cx} (hK:X.K=C.k) (ha:SimA C Z ta ua):SimE C Z (tCB (rSortS X) (tCons (tCB (rSetT X) ta) tNil)) (uSS ua):=fun I α σ H ρ M K Q R E h k =>
 ha I α σ H ρ M _ _ R E h fun vs ds I1 α1 H1 M1 s1 p1 R1 r1 h1=>by
  obtain ⟨d,ws,rfl,e,few,h1⟩:=h1
  cases r1 with
  | cons a b =>
   cases b
   obtain ⟨l,vs,rfl,el,ra⟩:=lst_at R1 a e
   obtain ⟨ps,e1,e2,e3⟩:=lay_words ws ra
   have fl:(fsW ps).length < 64:=few _ (fsW_nodup _ _) fun z hz=>by rw [<- e2]; exact mem_fsW.mp hz
   refine ⟨l,ps,rfl,by rw [e1,hK]; exact el,fun p hp=>.inl (.inl (R1.sub _ _ (e3 p hp))),by omega,fun a L ep t qs ha T pp ld eq pm nd hq=>?_⟩
   have ql:qs.length < 64:=by have:=pm.length_eq; rw [List.length_map] at this; omega
   have hI:∀ q∈qs,I1 q.1=some (.tup (q.2.map V.int)):=fun q h=>e3 q (hq q h)
   refine ⟨a,L,ep,t,qs,rfl,upd_same,T,pp,ld,eq,(pm.nodup_iff).mpr nd,fun q h=>.inl (.inl (same_upd ha _ _ (R1.sub _ _ (hI q h)))),ql,fun D L' hD pm2 pw=>?_⟩
   have R3:=R1.same (same_upd (o:=SetO a L ep t) ha)
   obtain ⟨R4,s4,e4⟩:=R3.new (o:=.lst (L'.map fun q=>V.ref q.1)) hD
   refine k _ _ _ α1 _ M1 (s1.trans s4) p1 R4 (.lst e4 ?_) (h1 (L'.map (·.2)) (by rw [List.pairwise_map]; exact pw) fun r=>?_)
   ·have go:∀ N:List (Addr×List Int),(∀ q∈N,q∈L')->Reps C (upd I1 D (.lst (L'.map fun q=>V.ref q.1))) α1 (N.map fun q=>V.ref q.1) ((N.map (·.2)).map wD):=fun N=>by
     induction N with
     | nil=>intro _; exact .nil
     | cons q r ih =>
      intro hm
      exact .cons (.tup (s4 _ _ (hI q (pm2.mem_iff.mp (hm q List.mem_cons_self)))) (Reps.ints _)) (ih fun x hx=>hm x (List.mem_cons_of_mem _ hx))
    exact go L' fun q hq=>hq
   ·rw [((pm2.map (·.2)).trans pm).mem_iff,mem_fsW,e2]
end
def rs2 (a b:List Int):List (List Int):=if a.take b.length=b then [a.drop b.length] else []
def mem_rs2 {a b r:List Int}:r∈rs2 a b↔a=b++r:=by
 unfold rs2
 split
 ·rename_i e
  rw [List.mem_singleton]
  refine ⟨fun h=>?_,fun h=>?_⟩
  ·have:=List.take_append_drop b.length a
   rw [e,<- h] at this
   exact this.symm
  ·rw [h,List.drop_left]
 ·rename_i e
  refine ⟨(fun h=>nomatch h),fun h=>absurd ?_ e⟩
  rw [h,List.take_left]
theorem rb_iff {a b r:List Int}:rb a b=some r↔a=b++r\/b=a++r:=by
 refine ⟨rb_some,fun h=>?_⟩
 unfold rb
 rcases h with rfl | rfl
 ·have e:min (b++r).length b.length=b.length:=by rw [List.length_append]; omega
  rw [e,List.take_left,List.take_length,if_pos rfl,List.drop_left,List.drop_length,List.append_nil]
 ·have e:min a.length (a++r).length=a.length:=by rw [List.length_append]; omega
  rw [e,List.take_left,List.take_length,if_pos rfl,List.drop_left,List.drop_length,List.nil_append]
theorem rb_comm (a b:List Int):rb a b=rb b a:=by
 have h:∀ r,rb a b=some r↔rb b a=some r:=fun r=>by rw [rb_iff,rb_iff,or_comm]
 cases e:rb a b with
 | some r=>exact ((h r).mp e).symm
 | none =>
  cases e2:rb b a with
  | none=>rfl
  | some r=>rw [(h r).mpr e2] at e; cases e
def mem_rs22 {a b r:List Int}:r∈rs2 a b++rs2 b a↔rb a b=some r:=by rw [List.mem_append,mem_rs2,mem_rs2,rb_iff]
def Ov.pair {ws:List (List Int)} {i j:Nat} {a b r:List Int} (hij:i≠j) (h1:ws[i]?=some a) (h2:ws[j]?=some b) (e:rb a b=some r):Ov ws r:=by
 rcases Nat.lt_or_gt_of_ne hij with z | z
 ·exact .first z h1 h2 (by rw [rb_comm]; exact e)
 ·exact .first z h2 h1 e
theorem ov_lt {ws:List (List Int)} {m:Nat} (h:∀ w∈ws,w≠[]/\w.length<=m + 1) {r:List Int} (o:Ov ws r):r.length<=m/\∀ b∈r,∃ w∈ws,b∈w:=by
 have pos:∀ w∈ws,0 < w.length:=fun w hw=>List.length_pos_iff.mpr (h w hw).1
 induction o with
 | @first i j a b r _ h1 h2 e =>
  have ma:=List.mem_of_getElem? h1
  have mb:=List.mem_of_getElem? h2
  have p1:=pos _ ma
  have p2:=pos _ mb
  have l1:=(h _ ma).2
  have l2:=(h _ mb).2
  rcases rb_iff.mp e with z | z
  ·refine ⟨?_,fun y hy=>⟨b,mb,by rw [z]; exact List.mem_append_right _ hy⟩⟩
   rw [z,List.length_append] at l2; omega
  ·refine ⟨?_,fun y hy=>⟨a,ma,by rw [z]; exact List.mem_append_right _ hy⟩⟩
   rw [z,List.length_append] at l1; omega
 | @more r w q _ ne hw e ih =>
  have p1:=pos _ hw
  have l1:=(h _ hw).2
  have p2:0 < r.length:=List.length_pos_iff.mpr ne
  rcases rb_iff.mp e with z | z
  ·refine ⟨?_,fun y hy=>ih.2 y (by rw [z]; exact List.mem_append_right _ hy)⟩
   have:=ih.1
   rw [z,List.length_append] at this; omega
  ·refine ⟨?_,fun y hy=>⟨w,hw,by rw [z]; exact List.mem_append_right _ hy⟩⟩
   rw [z,List.length_append] at l1; omega
theorem nd_sub {τ:Type} [DecidableEq τ]:∀ {zs us:List τ},zs.Nodup->(∀ z∈zs,z∈us)->zs.length<=us.length
 | [],_,_,_=>Nat.zero_le _
 | z::zs,us,nd,h=>by
  have n2:=List.nodup_cons.mp nd
  have hz:=h z List.mem_cons_self
  have:=nd_sub (us:=us.erase z) n2.2 fun y hy=>(List.mem_erase_of_ne (fun e:y=z=>n2.1 (by rw [<- e]; exact hy))).mpr (h y (List.mem_cons_of_mem _ hy))
  rw [List.length_erase_of_mem hz] at this
  have:=List.length_pos_of_mem hz
  rw [List.length_cons]
  omega
theorem few_two {bs:List Int} {ws:List (List Int)} (h:∀ w∈ws,(w≠[]/\w.length<=2)/\∀ b∈w,b∈bs) (lb:bs.length<=40):FewN ws:=fun zs nd hz=>by
 have:=nd_sub (us:=[]::bs.map fun b=>[b]) nd fun z hz'=>by
  obtain ⟨h1,h2⟩:=ov_lt (m:=1) (fun w hw=>(h w hw).1) (hz z hz')
  match z,h1,h2 with
  | [],_,_=>exact List.mem_cons_self
  | [y],_,h2 =>
   obtain ⟨w,hw,hy⟩:=h2 y List.mem_cons_self
   exact List.mem_cons_of_mem _ (List.mem_map.mpr ⟨y,(h w hw).2 y hy,rfl⟩)
  | _::_::_,h1,_=>exact absurd h1 (by simp)
 rw [List.length_cons,List.length_map] at this
 omega
structure Tf (L:List Pr):Prop where
 len:L.length<=40
 w:∀ p∈L,p.2≠[]/\p.2.length<=4
 nd:(L.map (·.1)).Nodup
 few:FewN (L.map (·.2))
def Tf.words {L:List Pr} (h:Tf L):(L.map (·.2)).length<=40/\∀ w∈L.map (·.2),w≠[]/\w.length<=4:=⟨by rw [List.length_map]; exact h.len,fun w hw=>by obtain ⟨p,hp,rfl⟩:=List.mem_map.mp hw; exact h.w p hp⟩
structure ClSt (ws fs ms ns:List (List Int)) (b:Bool):Prop where
 nd:ns.Nodup
 ov:∀ z∈fs++ns,Ov ws z
 le:ms.length<=ns.length
 f:b=false->ns=ms
 t:b=true->ms.length < ns.length
theorem ClSt.put {ws fs ms ns:List (List Int)} {b:Bool} {r:List Int} (h:ClSt ws fs ms ns b) (o:Ov ws r) (hr:r∉fs++ns):ClSt ws fs ms (ns++[r]) true:=by
 have l:=h.le
 refine ⟨List.nodup_append.mpr ⟨h.nd,by simp,fun a ha b hb e=>?_⟩,fun z hz=>?_,?_,(fun e=>nomatch e),fun _=>?_⟩
 ·rw [e,List.mem_singleton.mp hb] at ha; exact hr (List.mem_append_right _ ha)
 ·rw [<- List.append_assoc] at hz
  rcases List.mem_append.mp hz with y | y
  ·exact h.ov z y
  ·rw [List.mem_singleton.mp y]; exact o
 ·rw [List.length_append]; omega
 ·rw [List.length_append]; show _ < _ + 1; omega
theorem cl_all {ws ks:List (List Int)} (f:∀ {i j:Nat} {a b r:List Int},i≠j->ws[i]?=some a->ws[j]?=some b->a=b++r->r∈ks) (c:∀ z∈ks,z≠[]->∀ w∈ws,∀ q,rb z w=some q->q∈ks) {r:List Int} (o:Ov ws r):r∈ks:=by
 induction o with
 | first hij h1 h2 e =>
  rcases rb_iff.mp e with z | z
  ·exact f (Nat.ne_of_gt hij) h2 h1 z
  ·exact f (Nat.ne_of_lt hij) h1 h2 z
 | more _ ne hw e ih=>exact c _ ih ne _ hw _ e
end L3
namespace K54
open PySem L2
def top (i:Nat):Stmt:=PySem.Challenge.pw_skewread_k54_papers_looked_at.main.body.getD i (.Pass ⟨0,0,0,0⟩)
abbrev s__law_draw:Stmt:=top 8
def sc__law_draw:FnScope ["_law_hand", "_law_many", "_law_got", "_law_cell", "_law_number"] ["_law_hand", "_law_many"] (defScope s__law_draw):=⟨rfl,rfl,rfl,by decide +kernel,rfl,by decide +kernel,by decide +kernel⟩
abbrev s__law_open:Stmt:=top 7
def sc__law_open:FnScope ["_law_script", "_law_place", "_law_cells", "_law_at", "_law_digits"] ["_law_script", "_law_place"] (defScope s__law_open):=⟨rfl,rfl,rfl,by decide +kernel,rfl,by decide +kernel,by decide +kernel⟩
abbrev s__law_bytes:Stmt:=top 9
def sc__law_bytes:FnScope ["_law_hand", "_law_most", "_law_begin", "_law_step"] ["_law_hand", "_law_most"] (defScope s__law_bytes):=⟨rfl,rfl,rfl,by decide +kernel,rfl,by decide +kernel,by decide +kernel⟩
abbrev s__law_words:Stmt:=top 10
def sc__law_words:FnScope ["_law_hand", "_law_some", "_law_most", "_law_longest", "_law_words_here", "_law_k", "_law_at"] ["_law_hand", "_law_some", "_law_most", "_law_longest"] (defScope s__law_words):=⟨rfl,rfl,rfl,by decide +kernel,rfl,by decide +kernel,by decide +kernel⟩
abbrev s__law_signs:Stmt:=top 11
def sc__law_signs:FnScope ["_law_hand", "_law_many", "_law_begin", "_law_step", "_law_signs_here", "_law_at"] ["_law_hand", "_law_many"] (defScope s__law_signs):=⟨rfl,rfl,rfl,by decide +kernel,rfl,by decide +kernel,by decide +kernel⟩
abbrev s__law_any_words:Stmt:=top 12
def sc__law_any_words:FnScope ["_law_hand", "_law_some", "_law_words_here", "_law_k"] ["_law_hand", "_law_some"] (defScope s__law_any_words):=⟨rfl,rfl,rfl,by decide +kernel,rfl,by decide +kernel,by decide +kernel⟩
abbrev s__law_loose:Stmt:=top 13
def sc__law_loose:FnScope ["_law_hand", "_law_most", "_law_longest", "_law_some", "_law_way", "_law_words_here", "_law_one", "_law_other", "_law_more", "_law_at", "_law_signs_here"] ["_law_hand", "_law_most", "_law_longest"] (defScope s__law_loose):=⟨rfl,rfl,rfl,by decide +kernel,rfl,by decide +kernel,by decide +kernel⟩
abbrev s_rest_between:Stmt:=top 1
def sc_rest_between:FnScope ["one", "other", "shared"] ["one", "other"] (defScope s_rest_between):=⟨rfl,rfl,rfl,by decide +kernel,rfl,by decide +kernel,by decide +kernel⟩
abbrev s_rests_between:Stmt:=top 3
def sc_rests_between:FnScope ["part", "words", "rests"] ["part", "words"] (defScope s_rests_between):=⟨rfl,rfl,rfl,by decide +kernel,rfl,by decide +kernel,by decide +kernel⟩
abbrev s_first_rests:Stmt:=top 2
def sc_first_rests:FnScope ["words", "found", "place", "word"] ["words"] (defScope s_first_rests):=⟨rfl,rfl,rfl,by decide +kernel,rfl,by decide +kernel,by decide +kernel⟩
abbrev s_overhangs:Stmt:=top 4
def sc_overhangs:FnScope ["table", "words", "found", "waiting", "rest"] ["table"] (defScope s_overhangs):=⟨rfl,rfl,rfl,by decide +kernel,rfl,by decide +kernel,by decide +kernel⟩
abbrev s_shows_one_way:Stmt:=top 5
def sc_shows_one_way:FnScope ["table", "some", "asked"] ["table", "some"] (defScope s_shows_one_way):=⟨rfl,rfl,rfl,by decide +kernel,rfl,by decide +kernel,by decide +kernel⟩
abbrev s__law_rest:Stmt:=top 14
def sc__law_rest:FnScope ["_law_longer", "_law_shorter"] ["_law_longer", "_law_shorter"] (defScope s__law_rest):=⟨rfl,rfl,rfl,by decide +kernel,rfl,by decide +kernel,by decide +kernel⟩
abbrev s__law_closing:Stmt:=top 15
def sc__law_closing:FnScope ["_law_table", "_law_known", "_law_i", "_law_j", "_law_again", "_law_member", "_law_sign", "_law_word", "_law_rest_here"] ["_law_table"] (defScope s__law_closing):=⟨rfl,rfl,rfl,by decide +kernel,rfl,by decide +kernel,by decide +kernel⟩
abbrev s__law_papers:Stmt:=top 16
def sc__law_papers:FnScope ["_law_hand", "_law_table", "_law_due", "_law_at", "_law_more", "_law_papers_here", "_law_gone"] ["_law_hand", "_law_table", "_law_due"] (defScope s__law_papers):=⟨rfl,rfl,rfl,by decide +kernel,rfl,by decide +kernel,by decide +kernel⟩
abbrev s__law_right:Stmt:=top 17
def sc__law_right:FnScope ["_law_table", "_law_due", "_law_paper", "_law_pairs", "_law_handed", "_law_told"] ["_law_table", "_law_due", "_law_paper"] (defScope s__law_right):=⟨rfl,rfl,rfl,by decide +kernel,rfl,by decide +kernel,by decide +kernel⟩
abbrev s__law_wide:Stmt:=top 18
def sc__law_wide:FnScope ["_law_hand", "_law_begin", "_law_some", "_law_words_here", "_law_k", "_law_signs_here"] ["_law_hand"] (defScope s__law_wide):=⟨rfl,rfl,rfl,by decide +kernel,rfl,by decide +kernel,by decide +kernel⟩
abbrev s_law:Stmt:=top 19
def sc_law:FnScope ["_law_script", "_law_tables", "_law_place", "_law_hand", "_law_table", "_law_due", "_law_paper", "_law_other", "_law_closed"] ["_law_script"] (defScope s_law):=⟨rfl,rfl,rfl,by decide +kernel,rfl,by decide +kernel,by decide +kernel⟩
structure Txt (mg:Str->Option Value):Prop where
 b_len:mg "len"=none
 b_abs:mg "abs"=none
 b_max:mg "max"=none
 b_min:mg "min"=none
 b_all:mg "all"=none
 b_range:mg "range"=none
 b_int:mg "int"=none
 b_tuple:mg "tuple"=none
 b_list:mg "list"=none
 b_set:mg "set"=none
 b_sorted:mg "sorted"=none
 b_enumerate:mg "enumerate"=none
section
variable {P:Program} {w:World} {K:W.Frag} {mg:Str->Option Value} {base:Heap}
theorem ok__law_draw (T:Txt mg) {f:Addr} {fd:FuncData} (F:Fun K "_law_draw" "_law_draw" s__law_draw f fd):FnOk P w K mg base CX0 1 f fd ["_law_hand", "_law_many"] spDraw:=by
 refine F.ok sc__law_draw (fun vs H Q E h=>?_) (fun cdv A outer s H vs Q E hr h=>?_)
 ·obtain ⟨p,a,n,rfl,_⟩:=h
  rfl
 ·obtain ⟨p,a,n,rfl,hh,hn0,hn1,k⟩:=h
  obtain ⟨d,i,cs,e1,e2,hne,hlen,hd,hi,hc⟩:=hh.ex
  have npa:p≠a:=hh.ne
  have SC:=sc__law_draw
  have fin:∀ (r d' i':Int),0<=r->r < n->0<=d'->0<=i'->Q (.int r) (upd H p (.lst [.int d',.int i',.ref a])):=fun r d' i' h1 h2 h3 h4 =>
   k r _ h1 h2 ⟨d',i',cs,upd_same,by rw [upd_ne npa.symm]; exact e2,hne,hlen,h3,h4,hc⟩ (fun b o e nb=>by rw [upd_ne nb]; exact e) fun b nb=>by rw [upd_ne nb]
  refine ⟨_,(pss_cons (ps_if (pt_cmpR op_gt (pe_ix ix_list (pv 0) pe_int (fun _ _=>rfl)) pe_int (nomark _))
 (pss_cons (ps_set (i:=2) SC.nd rfl (Or.inl rfl) (pe_op op_mod (pe_ix ix_list (pv 0) pe_int (fun _ _=>rfl)) (pv 1)))
 (pss_cons (ps_asg (pe_op op_fdiv (pe_ix ix_list (pv 0) pe_int (fun _ _=>rfl)) (pv 1)) (pg_sub (pv 0) pe_int set_list))
 (pss_one (ps_ret (pv 2)))))
 pss_nil)
 (pss_cons (ps_augS (pv 0) pe_int pget_list pe_int ip_add set_list)
 (pss_cons (ps_set (i:=3) SC.nd rfl (Or.inl rfl) (pe_op op_mod (pe_ix ix_list (pe_ix ix_list (pv 0) pe_int (fun _ _=>rfl)) (pe_op op_mod (pe_ix ix_list (pv 0) pe_int (fun _ _=>rfl)) (pe_callB call_len (by rfl) T.b_len PySem.boot_len (pa_cons (pe_ix ix_list (pv 0) pe_int (fun _ _=>rfl)) pa_nil))) (fun _ _=>rfl)) pe_int))
 (pss_cons (ps_set (i:=4) SC.nd rfl (Or.inl rfl) (pe_op op_mod (pe_op op_add (pe_op op_add (pe_op op_mul (pv 3) pe_int) (pe_op op_mul (pe_ix ix_list (pv 0) pe_int (fun _ _=>rfl)) pe_int)) pe_int) pe_int))
 (pss_cons (ps_set (i:=4) SC.nd rfl (Or.inl rfl) (pe_op op_mod (pe_op op_add (pe_op op_mul (pv 4) (pv 4)) (pe_ix ix_list (pv 0) pe_int (fun _ _=>rfl))) pe_int))
 (pss_cons (ps_set (i:=4) SC.nd rfl (Or.inl rfl) (pe_op op_mod (pe_op op_add (pe_op op_mul (pv 4) pe_int) pe_int) pe_int))
 (pss_one (ps_ret (pe_op op_mod (pe_op op_fdiv (pe_op op_mod (pe_op op_mul (pv 4) (pv 4)) pe_int) pe_int) (pv 1)))))))))),?_⟩
  refine ⟨_,rfl,p,_,_,_,rfl,rfl,SqL.of e1,rfl,_,_,rfl,rfl,_,rfl,?_⟩
  refine ite2 (fun h0=>?_) (fun h0=>?_)
  ·refine ⟨_,rfl,p,_,_,_,rfl,rfl,SqL.of e1,rfl,_,rfl,_,_,rfl,rfl,hn0,?_⟩
   refine ⟨_,rfl,p,_,_,_,rfl,rfl,SqL.of e1,rfl,_,rfl,_,_,rfl,rfl,⟨hn0,hn1⟩,_,rfl,p,_,_,0,rfl,rfl,e1,rfl,?_⟩
   refine ⟨_,rfl,?_⟩
   exact fin _ _ _ (Int.emod_nonneg _ (by omega)) (Int.emod_lt_of_pos _ hn0) (Int.ediv_nonneg hd (by omega)) hi
  ·have e1':(upd H p (.lst [.int d,.int (i + 1),.ref a])) p=some (.lst [.int d,.int (i + 1),.ref a]):=upd_same
   have e2':(upd H p (.lst [.int d,.int (i + 1),.ref a])) a=some (.lst (cs.map V.int)):=by rw [upd_ne npa.symm]; exact e2
   obtain ⟨c,hc1,hc2⟩:=at_rest hne (i + 1)
   have hlp:(0:Int) < (((cs.map V.int).length:Nat):Int):=by
    rw [List.length_map]
    have:=List.length_pos_iff.mpr hne
    omega
   refine ⟨_,rfl,p,_,1,_,rfl,rfl,SqL.of e1,rfl,_,_,rfl,rfl,p,_,_,1,rfl,rfl,e1,rfl,?_⟩
   refine ⟨_,rfl,p,_,_,_,rfl,rfl,SqL.of e1',rfl,_,rfl,p,_,_,_,rfl,rfl,SqL.of e1',rfl,_,rfl,p,_,_,_,rfl,rfl,SqL.of e1',rfl,_,_,rfl,.inl ⟨_,SqL.of e2',rfl⟩,_,_,rfl,rfl,hlp,
    a,_,_,_,rfl,rfl,SqL.of e2',hc2,_,_,rfl,rfl,(by show (0:Int) < _; decide),?_⟩
   refine ⟨_,rfl,_,_,rfl,rfl,.inr ⟨by decide,by decide⟩,_,rfl,p,_,_,_,rfl,rfl,SqL.of e1',rfl,_,_,rfl,rfl,.inr ⟨by decide,by decide⟩,_,_,rfl,rfl,_,_,rfl,rfl,_,_,rfl,rfl,(by show (0:Int) < _; decide),?_⟩
   generalize hx:(c % 2147483647 * 48271 + (i + 1) * 7368787 + 11) % 998244353=x
   have x0:0<=x:=by rw [<- hx]; exact Int.emod_nonneg _ (by decide)
   have x1:x < 998244353:=by rw [<- hx]; exact Int.emod_lt_of_pos _ (by decide)
   refine ⟨_,rfl,_,rfl,_,_,rfl,rfl,.inl ⟨by omega,by omega⟩,_,rfl,p,_,_,_,rfl,rfl,SqL.of e1',rfl,_,_,rfl,rfl,_,_,rfl,rfl,(by show (0:Int) < _; decide),?_⟩
   generalize hy:(x * x + (i + 1)) % 998244353=y
   refine ⟨_,rfl,_,_,rfl,rfl,.inr ⟨by decide,by decide⟩,_,_,rfl,rfl,_,_,rfl,rfl,(by show (0:Int) < _; decide),?_⟩
   generalize hz:(y * 40503203 + 12345) % 2147483647=z
   have z0:0<=z:=by rw [<- hz]; exact Int.emod_nonneg _ (by decide)
   have z1:z < 2147483647:=by rw [<- hz]; exact Int.emod_lt_of_pos _ (by decide)
   refine ⟨_,rfl,_,rfl,_,_,rfl,rfl,.inl ⟨by omega,by omega⟩,_,_,rfl,rfl,(by show (0:Int) < _; decide),_,_,rfl,rfl,⟨by decide,by decide⟩,_,rfl,_,_,rfl,rfl,hn0,?_⟩
   exact fin _ _ _ (Int.emod_nonneg _ (by omega)) (Int.emod_lt_of_pos _ hn0) hd (by show 0<=i + 1; omega)
theorem ok__law_open (T:Txt mg) {f:Addr} {fd:FuncData} (F:Fun K "_law_open" "_law_open" s__law_open f fd):FnOk P w K mg base CX0 1 f fd ["_law_script", "_law_place"] (spOpen K):=by
 refine F.ok sc__law_open (fun vs H Q E h=>?_) (fun cdv A outer s H vs Q E hr h=>?_)
 ·obtain ⟨s,ns,i,rfl,_⟩:=h
  rfl
 ·obtain ⟨s0,ns,i,rfl,hS,hlen,hi0,hi1,k⟩:=h
  have SC:=sc__law_open
  have hu:=hr.units
  refine ⟨_,(pss_cons (ps_comp (i:=2) SC.nd rfl rfl (T:=["_law_cell"]) (cs:=[]) rfl (CScope.ok (by kernel_rfl)) (pi_list (pe_slice sl_list (pv 0) po_none (po_some pe_int))) (fun _ _ _ _=>(pg_name (i:=0) (nd_of (by kernel_rfl)) rfl (Or.inl rfl) (Or.inr rfl))) (fun _ _ _ _=>pts_nil) (fun _ _ _ _=>(pe_callB call_abs (by rfl) T.b_abs PyProof.Rows.boot_abs (pa_cons (pv 0) pa_nil))) (gk_name (by decide)))
 (pss_cons (ps_if (pt_cmpR (op_eqD hu) (pv 2) (pe_lst pa_nil) (nomark _))
 (pss_one (ps_set (i:=2) SC.nd rfl (Or.inl rfl) (pe_lst (pa_cons pe_int pa_nil))))
 pss_nil)
 (pss_cons (ps_set (i:=3) SC.nd rfl (Or.inl rfl) (pe_op op_mod (pv 1) (pe_callB call_len (by rfl) T.b_len PySem.boot_len (pa_cons (pv 2) pa_nil))))
 (pss_cons (ps_set (i:=4) SC.nd rfl (Or.inl rfl) pe_int)
 (pss_cons (ps_if (PW.pt (pw_and (pt_cmpR op_ge (pe_ix ix_list (pv 2) (pv 3) (fun _ _=>rfl)) (pe_op op_pow pe_int pe_int) (nomark _)) (pw_and1 (pt_cmpR op_lt (pv 1) (pe_callB call_len (by rfl) T.b_len PySem.boot_len (pa_cons (pv 2) pa_nil)) (nomark _)))))
 (pss_one (ps_set (i:=4) SC.nd rfl (Or.inl rfl) (pe_ix ix_list (pv 2) (pv 3) (fun _ _=>rfl))))
 pss_nil)
 (pss_one (ps_ret (pe_lst (pa_cons (pv 4) (pa_cons (pe_op op_add pe_int (pe_op op_mul pe_int (pv 1))) (pa_cons (pe_op op_cat (pe_slice sl_list (pv 2) (po_some (pv 3)) po_none) (pe_slice sl_list (pv 2) po_none (po_some (pv 3)))) pa_nil))))))))))),?_⟩
  obtain ⟨ms,ems,lms,_⟩:=cut_ints ns none (some 63)
  refine ⟨_,rfl,_,rfl,s0,_,rfl,hS,fun q hq=>⟨q,rfl,⟨_,SqL.of upd_same⟩,comp_by (n:=ms.length) (fun j ys H'=>∃ as:List Int,ys=as.map V.int/\as.length=j/\(∀ c∈as,0<=c)/\H'=upd H q (.lst (cutV (ns.map V.int) none (some 63))))
   ⟨[],rfl,rfl,fun _ h=>(nomatch h),rfl⟩ ?_ (small_line (by omega)) ?_ ?_ ?_ ?_⟩⟩
  ·rintro j ys H' ⟨as,rfl,rfl,_⟩
   rw [List.length_map]
   exact Nat.le_refl _
  ·rintro j ys H' hj ⟨as,rfl,rfl,_,rfl⟩
   refine ⟨_,.int (ms[as.length]'hj),SqL.of upd_same,?_⟩
   rw [ems,List.getElem?_map,List.getElem?_eq_getElem hj]
   rfl
  ·rintro ys H' ⟨as,rfl,hl,_,rfl⟩
   exact ⟨_,SqL.of upd_same,by rw [ems,List.length_map]; exact Nat.le_refl _⟩
  ·rintro j ys H' hj ⟨as,rfl,rfl,hp,rfl⟩ x H2 ⟨rfl,y⟩
   have hx:=y _ (SqL.of upd_same)
   rw [ems,List.getElem?_map,List.getElem?_eq_getElem hj] at hx
   cases hx
   refine ⟨_,rfl,_,rfl,as++[_],by rw [List.map_append]; rfl,by rw [List.length_append]; rfl,fun c hc=>?_,rfl⟩
   rcases List.mem_append.mp hc with z | z
   ·exact hp c z
   ·rw [List.mem_singleton.mp z]
    split <;> omega
  ·rintro ys H' ⟨as,rfl,hl,hp,rfl⟩ c0 hc0
   have s1:Same H (upd H q (.lst (cutV (ns.map V.int) none (some 63)))):=same_upd hq
   generalize upd H q (.lst (cutV (ns.map V.int) none (some 63)))=H1 at hc0 s1
   have s2:Same H (upd H1 c0 (.lst (as.map V.int))):=s1.trans (same_upd hc0)
   have n0:H c0=none:=s1.free hc0
   have e0:(upd H1 c0 (.lst (as.map V.int))) c0=some (.lst (as.map V.int)):=upd_same
   generalize upd H1 c0 (.lst (as.map V.int))=H2 at s2 e0
   have hla:as.length<=63:=by omega
   refine ⟨_,rfl,Nat.zero_le _,fun l hl=>⟨_,_,DV.lst (SqL.of ((same_upd hl) _ _ e0)) (dvs_ints as),DV.lst (SqL.of upd_same) .nil,(shp_ints as).shaped (by decide),(shp_ints []).shaped (by decide),_,rfl,?_⟩⟩
   rw [eqv_nil]
   have s3:Same H (upd H2 l (.lst [])):=s2.trans (same_upd hl)
   have e1:(upd H2 l (.lst [])) c0=some (.lst (as.map V.int)):=(same_upd hl) _ _ e0
   generalize upd H2 l (.lst [])=H3 at s3 e1
   refine ite2 (fun h0=>?_) (fun h0=>?_)
   ·refine ⟨by show 1<=sizeLine; decide,fun c1 hc1=>?_⟩
    have W:HC H (upd H3 c1 (.lst [.int 0])) c1:=⟨[0],s3.trans (same_upd hc1),s3.free hc1,upd_same,by simp,by decide,by simp⟩
    revert W
    generalize upd H3 c1 (.lst [.int 0])=H4
    intro W
    obtain ⟨as4,s4,n4,e4,hne,hl4,hp4⟩:=W
    obtain ⟨c,hc1,hc2⟩:=at_rest hne i
    obtain ⟨cs,ecs,ncs,lcs,mcs⟩:=spun hne i
    have hlp:(0:Int) < (((as4.map V.int).length:Nat):Int):=by
     rw [List.length_map]
     have:=List.length_pos_iff.mpr hne
     omega
    refine ⟨_,rfl,_,rfl,_,_,rfl,.inl ⟨_,SqL.of e4,rfl⟩,_,_,rfl,rfl,hlp,?_⟩
    refine ⟨_,rfl,_,rfl,_,_,_,_,rfl,rfl,SqL.of e4,hc2,_,_,rfl,rfl,⟨by decide,by decide,by decide⟩,_,_,rfl,rfl,_,rfl,?_⟩
    refine ite2 (fun _=>?_) (fun _=>?_)
    ·refine ⟨_,rfl,_,rfl,_,_,rfl,.inl ⟨_,SqL.of e4,rfl⟩,_,_,rfl,rfl,_,rfl,?_⟩
     refine ite2 (fun _=>?_) (fun _=>?_)
     ·refine ⟨_,rfl,_,rfl,_,_,_,_,rfl,rfl,SqL.of e4,hc2,?_⟩
      exact ⟨_,rfl,_,rfl,_,_,rfl,rfl,.inl ⟨by decide,by decide⟩,_,_,rfl,rfl,_,rfl,_,rfl,_,rfl,_,_,rfl,SqL.of e4,fun l1 hl1=>⟨_,rfl,_,rfl,_,rfl,_,_,rfl,SqL.of ((same_upd hl1) _ _ e4),fun l2 hl2 =>
       ⟨l1,l2,_,_,rfl,rfl,(same_upd hl2) _ _ upd_same,upd_same,by rw [<- List.length_append,ecs,List.length_map]; exact small_line (by omega),fun l3 hl3=>⟨by show 3<=sizeLine; decide,fun p hp =>
        k p l3 _ (s4.free ((same_upd hl1).free ((same_upd hl2).free ((same_upd hl3).free hp)))) (s4.free ((same_upd hl1).free ((same_upd hl2).free hl3)))
         ⟨_,_,cs,upd_same,by rw [<- ecs]; exact (same_upd hp) _ _ upd_same,ncs,by omega,by first | exact hp4 _ hc1 | decide,by omega,fun x hx=>hp4 x (mcs x hx)⟩
         (((s4.trans (same_upd hl1)).trans (same_upd hl2)).trans ((same_upd hl3).trans (same_upd hp)))⟩⟩⟩⟩
     ·exact ⟨_,rfl,_,rfl,_,_,rfl,rfl,.inl ⟨by decide,by decide⟩,_,_,rfl,rfl,_,rfl,_,rfl,_,rfl,_,_,rfl,SqL.of e4,fun l1 hl1=>⟨_,rfl,_,rfl,_,rfl,_,_,rfl,SqL.of ((same_upd hl1) _ _ e4),fun l2 hl2 =>
       ⟨l1,l2,_,_,rfl,rfl,(same_upd hl2) _ _ upd_same,upd_same,by rw [<- List.length_append,ecs,List.length_map]; exact small_line (by omega),fun l3 hl3=>⟨by show 3<=sizeLine; decide,fun p hp =>
        k p l3 _ (s4.free ((same_upd hl1).free ((same_upd hl2).free ((same_upd hl3).free hp)))) (s4.free ((same_upd hl1).free ((same_upd hl2).free hl3)))
         ⟨_,_,cs,upd_same,by rw [<- ecs]; exact (same_upd hp) _ _ upd_same,ncs,by omega,by first | exact hp4 _ hc1 | decide,by omega,fun x hx=>hp4 x (mcs x hx)⟩
         (((s4.trans (same_upd hl1)).trans (same_upd hl2)).trans ((same_upd hl3).trans (same_upd hp)))⟩⟩⟩⟩
    ·refine iteF ?_
     exact ⟨_,rfl,_,rfl,_,_,rfl,rfl,.inl ⟨by decide,by decide⟩,_,_,rfl,rfl,_,rfl,_,rfl,_,rfl,_,_,rfl,SqL.of e4,fun l1 hl1=>⟨_,rfl,_,rfl,_,rfl,_,_,rfl,SqL.of ((same_upd hl1) _ _ e4),fun l2 hl2 =>
       ⟨l1,l2,_,_,rfl,rfl,(same_upd hl2) _ _ upd_same,upd_same,by rw [<- List.length_append,ecs,List.length_map]; exact small_line (by omega),fun l3 hl3=>⟨by show 3<=sizeLine; decide,fun p hp =>
        k p l3 _ (s4.free ((same_upd hl1).free ((same_upd hl2).free ((same_upd hl3).free hp)))) (s4.free ((same_upd hl1).free ((same_upd hl2).free hl3)))
         ⟨_,_,cs,upd_same,by rw [<- ecs]; exact (same_upd hp) _ _ upd_same,ncs,by omega,by first | exact hp4 _ hc1 | decide,by omega,fun x hx=>hp4 x (mcs x hx)⟩
         (((s4.trans (same_upd hl1)).trans (same_upd hl2)).trans ((same_upd hl3).trans (same_upd hp)))⟩⟩⟩⟩
   ·have W:HC H H3 c0:=⟨as,s3,n0,e1,by simpa using h0,hla,hp⟩
    obtain ⟨as4,s4,n4,e4,hne,hl4,hp4⟩:=W
    obtain ⟨c,hc1,hc2⟩:=at_rest hne i
    obtain ⟨cs,ecs,ncs,lcs,mcs⟩:=spun hne i
    have hlp:(0:Int) < (((as4.map V.int).length:Nat):Int):=by
     rw [List.length_map]
     have:=List.length_pos_iff.mpr hne
     omega
    refine ⟨_,rfl,_,rfl,_,_,rfl,.inl ⟨_,SqL.of e4,rfl⟩,_,_,rfl,rfl,hlp,?_⟩
    refine ⟨_,rfl,_,rfl,_,_,_,_,rfl,rfl,SqL.of e4,hc2,_,_,rfl,rfl,⟨by decide,by decide,by decide⟩,_,_,rfl,rfl,_,rfl,?_⟩
    refine ite2 (fun _=>?_) (fun _=>?_)
    ·refine ⟨_,rfl,_,rfl,_,_,rfl,.inl ⟨_,SqL.of e4,rfl⟩,_,_,rfl,rfl,_,rfl,?_⟩
     refine ite2 (fun _=>?_) (fun _=>?_)
     ·refine ⟨_,rfl,_,rfl,_,_,_,_,rfl,rfl,SqL.of e4,hc2,?_⟩
      exact ⟨_,rfl,_,rfl,_,_,rfl,rfl,.inl ⟨by decide,by decide⟩,_,_,rfl,rfl,_,rfl,_,rfl,_,rfl,_,_,rfl,SqL.of e4,fun l1 hl1=>⟨_,rfl,_,rfl,_,rfl,_,_,rfl,SqL.of ((same_upd hl1) _ _ e4),fun l2 hl2 =>
       ⟨l1,l2,_,_,rfl,rfl,(same_upd hl2) _ _ upd_same,upd_same,by rw [<- List.length_append,ecs,List.length_map]; exact small_line (by omega),fun l3 hl3=>⟨by show 3<=sizeLine; decide,fun p hp =>
        k p l3 _ (s4.free ((same_upd hl1).free ((same_upd hl2).free ((same_upd hl3).free hp)))) (s4.free ((same_upd hl1).free ((same_upd hl2).free hl3)))
         ⟨_,_,cs,upd_same,by rw [<- ecs]; exact (same_upd hp) _ _ upd_same,ncs,by omega,by first | exact hp4 _ hc1 | decide,by omega,fun x hx=>hp4 x (mcs x hx)⟩
         (((s4.trans (same_upd hl1)).trans (same_upd hl2)).trans ((same_upd hl3).trans (same_upd hp)))⟩⟩⟩⟩
     ·exact ⟨_,rfl,_,rfl,_,_,rfl,rfl,.inl ⟨by decide,by decide⟩,_,_,rfl,rfl,_,rfl,_,rfl,_,rfl,_,_,rfl,SqL.of e4,fun l1 hl1=>⟨_,rfl,_,rfl,_,rfl,_,_,rfl,SqL.of ((same_upd hl1) _ _ e4),fun l2 hl2 =>
       ⟨l1,l2,_,_,rfl,rfl,(same_upd hl2) _ _ upd_same,upd_same,by rw [<- List.length_append,ecs,List.length_map]; exact small_line (by omega),fun l3 hl3=>⟨by show 3<=sizeLine; decide,fun p hp =>
        k p l3 _ (s4.free ((same_upd hl1).free ((same_upd hl2).free ((same_upd hl3).free hp)))) (s4.free ((same_upd hl1).free ((same_upd hl2).free hl3)))
         ⟨_,_,cs,upd_same,by rw [<- ecs]; exact (same_upd hp) _ _ upd_same,ncs,by omega,by first | exact hp4 _ hc1 | decide,by omega,fun x hx=>hp4 x (mcs x hx)⟩
         (((s4.trans (same_upd hl1)).trans (same_upd hl2)).trans ((same_upd hl3).trans (same_upd hp)))⟩⟩⟩⟩
    ·refine iteF ?_
     exact ⟨_,rfl,_,rfl,_,_,rfl,rfl,.inl ⟨by decide,by decide⟩,_,_,rfl,rfl,_,rfl,_,rfl,_,rfl,_,_,rfl,SqL.of e4,fun l1 hl1=>⟨_,rfl,_,rfl,_,rfl,_,_,rfl,SqL.of ((same_upd hl1) _ _ e4),fun l2 hl2 =>
       ⟨l1,l2,_,_,rfl,rfl,(same_upd hl2) _ _ upd_same,upd_same,by rw [<- List.length_append,ecs,List.length_map]; exact small_line (by omega),fun l3 hl3=>⟨by show 3<=sizeLine; decide,fun p hp =>
        k p l3 _ (s4.free ((same_upd hl1).free ((same_upd hl2).free ((same_upd hl3).free hp)))) (s4.free ((same_upd hl1).free ((same_upd hl2).free hl3)))
         ⟨_,_,cs,upd_same,by rw [<- ecs]; exact (same_upd hp) _ _ upd_same,ncs,by omega,by first | exact hp4 _ hc1 | decide,by omega,fun x hx=>hp4 x (mcs x hx)⟩
         (((s4.trans (same_upd hl1)).trans (same_upd hl2)).trans ((same_upd hl3).trans (same_upd hp)))⟩⟩⟩⟩
theorem ok__law_bytes (T:Txt mg) (C__law_draw:Cal P w K mg base "_law_draw" 1 ["_law_hand", "_law_many"] spDraw) {f:Addr} {fd:FuncData} (F:Fun K "_law_bytes" "_law_bytes" s__law_bytes f fd):FnOk P w K mg base CX0 2 f fd ["_law_hand", "_law_most"] spBytes:=by
 refine F.ok sc__law_bytes (fun vs H Q E h=>?_) (fun cdv A outer s H vs Q E hr h=>?_)
 ·obtain ⟨p,a,m,rfl,_⟩:=h
  rfl
 ·obtain ⟨p,a,m,rfl,hh,hm1,hm2,k⟩:=h
  have SC:=sc__law_bytes
  have hr__law_draw:Room 1 _:=hr.mono (by decide)
  refine ⟨_,(pss_cons (ps_set (i:=2) SC.nd rfl (Or.inr rfl) (pe_cal C__law_draw hr__law_draw rfl (pa_cons (pv 0) (pa_cons pe_int pa_nil))))
 (pss_cons (ps_set (i:=3) SC.nd rfl (Or.inr rfl) (pe_op op_add pe_int (pe_cal C__law_draw hr__law_draw rfl (pa_cons (pv 0) (pa_cons pe_int pa_nil)))))
 (pss_one (ps_ret (pe_comp (T:=["_law_k"]) (cs:=[2,3]) rfl (CScope.ok (by kernel_rfl)) (pi_range1 rfl T.b_range (pa_cons (pe_op op_add pe_int (pe_cal C__law_draw hr__law_draw rfl (pa_cons (pv 0) (pa_cons (pe_op op_sub (pv 1) pe_int) pa_nil)))) pa_nil)) (fun _ _ _ _=>(pg_name (i:=0) (nd_of (by kernel_rfl)) rfl (Or.inl rfl) (Or.inr rfl))) (fun _ _ _ _=>pts_nil) (fun _ _ _ _=>(pe_op op_mod (pe_op op_add (pv 1) (pe_op op_mul (pv 2) (pv 0))) pe_int)) (gk_name (by decide))))))),?_⟩
  refine ⟨_,rfl,p,a,_,rfl,hh,by decide,by decide,fun b0 H1 b00 b01 h1 g1 u1=>?_⟩
  refine ⟨_,rfl,p,a,_,rfl,h1,by decide,by decide,fun s0 H2 s00 s01 h2 g2 u2=>⟨_,_,rfl,rfl,?_⟩⟩
  refine ⟨_,rfl,_,rfl,_,_,rfl,rfl,p,a,_,rfl,h2,by omega,by omega,fun n0 H3 n00 n01 h3 g3 u3=>⟨_,_,rfl,rfl,(2 + n0),rfl,by omega,by omega,comp_by (n:=(2 + n0).toNat)
   (fun j ys H'=>H'=H3/\ys=((List.range j).map fun k:Nat=>(b0 + (1 + s0) * (k:Int)) % 256).map V.int) ⟨rfl,rfl⟩ ?_ (small_line (by omega)) ?_ ?_ ?_ ?_⟩⟩
  ·rintro j ys H' ⟨rfl,rfl⟩
   rw [List.length_map,List.length_map,List.length_range]
   exact Nat.le_refl _
  ·rintro j ys H' hj _
   exact hj
  ·rintro ys H' _
   exact Nat.le_refl _
  ·rintro j ys H' hj ⟨rfl,rfl⟩ x H4 ⟨rfl,rfl⟩
   refine ⟨_,rfl,_,rfl,_,rfl,_,_,rfl,rfl,.inl ⟨by omega,by omega⟩,_,_,rfl,rfl,_,_,rfl,rfl,(by show (0:Int) < _; decide),rfl,?_⟩
   rw [List.range_succ,List.map_append,List.map_append,Int.zero_add]
   rfl
  ·rintro ys H' ⟨rfl,rfl⟩ l hl
   obtain ⟨_,_,_,ep,_⟩:=h3.ex
   have nl:l≠p:=Ne.symm (ne_of_none ep hl)
   have g:=(g1.trans g2).trans g3
   refine k l _ _ (g.free hl nl) nl upd_same (steps_nodup (by omega) ?_) ?_ ?_ (fun b hb=>?_) (h3.same (same_upd hl)) (g.trans (Grow.same (same_upd hl)))
   ·have:((2 + n0).toNat:Int)=2 + n0:=by omega
    rw [this]
    have h4:(1 + s0) * (2 + n0)<=(1 + s0) * 4:=Int.mul_le_mul_of_nonneg_left (by omega) (by omega)
    omega
   ·rw [List.length_map,List.length_range]; omega
   ·rw [List.length_map,List.length_range]; omega
   ·obtain ⟨i,_,rfl⟩:=List.mem_map.mp hb
    exact ⟨Int.emod_nonneg _ (by decide),Int.emod_lt_of_pos _ (by decide)⟩
def bn_split {bs:List Int} {ws:List (List Int)} {n:Nat} (h:∀ w∈ws,∀ b∈w,b∈bs) (hn:n < ws.length):∀ w∈ws.take n++(bs.map fun b=>ws[n]++[b])++ws.drop (n + 1),∀ b∈w,b∈bs:=fun w hw b hb=>by
 rcases List.mem_append.mp hw with z | z
 ·rcases List.mem_append.mp z with z | z
  ·exact h w (List.mem_of_mem_take z) b hb
  ·obtain ⟨c,hc,rfl⟩:=List.mem_map.mp z
   rcases List.mem_append.mp hb with y | y
   ·exact h _ (List.getElem_mem hn) b y
   ·rw [List.mem_singleton.mp y]; exact hc
 ·exact h w (List.mem_of_mem_drop z) b hb
theorem ok__law_words (T:Txt mg) (C__law_draw:Cal P w K mg base "_law_draw" 1 ["_law_hand", "_law_many"] spDraw) {f:Addr} {fd:FuncData} (F:Fun K "_law_words" "_law_words" s__law_words f fd):FnOk P w K mg base CX0 2 f fd ["_law_hand", "_law_some", "_law_most", "_law_longest"] spWordsB:=by
 refine F.ok sc__law_words (fun vs H Q E h=>?_) (fun cdv A outer s H vs Q E hr h=>?_)
 ·obtain ⟨p,a,sa,m,lg,bs,rfl,_⟩:=h
  rfl
 ·obtain ⟨p,a,sa,m,lg,bs,rfl,hh,es,nsp,nd,hne,hl,hm1,hm2,hg1,hg2,k⟩:=h
  have SC:=sc__law_words
  have hr__law_draw:Room 1 _:=hr.mono (by decide)
  have hlp:0 < bs.length:=List.length_pos_iff.mpr hne
  refine ⟨_,(pss_cons (ps_set (i:=4) SC.nd rfl (Or.inr rfl) (pe_comp (T:=["_law_one"]) (cs:=[]) rfl (CScope.ok (by kernel_rfl)) (pi_list (pv 1)) (fun _ _ _ _=>(pg_name (i:=0) (nd_of (by kernel_rfl)) rfl (Or.inl rfl) (Or.inr rfl))) (fun _ _ _ _=>pts_nil) (fun _ _ _ _=>(pe_tup (pa_cons (pv 0) pa_nil))) (gk_name (by decide))))
 (pss_cons (ps_for PassesOwn.never rfl (pi_range1 rfl T.b_range (pa_cons (pe_cal C__law_draw hr__law_draw rfl (pa_cons (pv 0) (pa_cons (pe_op op_add (pv 2) pe_int) pa_nil))) pa_nil)) (pg_name (i:=5) SC.nd rfl (Or.inl rfl))
 (pss_cons (ps_set (i:=6) SC.nd rfl (Or.inr rfl) (pe_op op_mod (pe_cal C__law_draw hr__law_draw rfl (pa_cons (pv 0) (pa_cons pe_int pa_nil))) (pe_callB call_len (by rfl) T.b_len PySem.boot_len (pa_cons (pv 4) pa_nil))))
 (pss_one (ps_if (pt_cmpR op_lt (pe_callB call_len (by rfl) T.b_len PySem.boot_len (pa_cons (pe_ix ix_list (pv 4) (pv 6) (fun _ _=>rfl)) pa_nil)) (pv 3) (nomark _))
 (pss_one (ps_set (i:=4) SC.nd rfl (Or.inr rfl) (pe_op op_cat (pe_op op_cat (pe_slice sl_list (pv 4) po_none (po_some (pv 6))) (pe_comp (T:=["_law_one"]) (cs:=[4,6]) rfl (CScope.ok (by kernel_rfl)) (pi_list (pv 1)) (fun _ _ _ _=>(pg_name (i:=0) (nd_of (by kernel_rfl)) rfl (Or.inl rfl) (Or.inr rfl))) (fun _ _ _ _=>pts_nil) (fun _ _ _ _=>(pe_op (bk_catT (K:=K) rfl) (pe_ix (bk_ixl (K:=K) rfl) (pv 1) (pv 2) (fun _ _=>rfl)) (pe_tup (pa_cons (pv 0) pa_nil)))) (gk_name (by decide)))) (pe_slice sl_list (pv 4) (po_some (pe_op op_add (pv 6) pe_int)) po_none))))
 pss_nil))))
 (pss_one (ps_ret (pe_comp (T:=["_law_word"]) (cs:=[0]) rfl (CScope.ok (by kernel_rfl)) (pi_list (pv 4)) (fun _ _ _ _=>(pg_name (i:=0) (nd_of (by kernel_rfl)) rfl (Or.inl rfl) (Or.inr rfl))) (fun _ _ _ _=>(pts_one (pt_cmpR op_gt (pe_cal C__law_draw hr__law_draw rfl (pa_cons (pv 1) (pa_cons pe_int pa_nil))) pe_int (nomark _)))) (fun _ _ _ _=>(pv 0)) (gk_name (by decide))))))),?_⟩
  refine ⟨_,rfl,sa,rfl,⟨_,SqL.of es⟩,comp_by (n:=bs.length) (fun j ys H'=>ys.length=j/\Same H H'/\Words H' ys ((bs.map fun b=>[b]).take j)) ⟨rfl,.refl _,by rw [List.take_zero]; exact .nil⟩ ?_ (small_line (by omega)) ?_ ?_ ?_ ?_⟩
  ·rintro j ys H' ⟨e,_⟩
   exact Nat.le_of_eq e
  ·rintro j ys H' hj ⟨_,s1,_⟩
   exact itl_go (s1 _ _ es) (by rw [List.length_map]; exact hj)
  ·rintro ys H' ⟨_,s1,_⟩
   exact itl_stop (s1 _ _ es) (by rw [List.length_map]; exact Nat.le_refl _)
  ·rintro j ys H' hj ⟨e,s1,w1⟩ y H'' hy
   obtain ⟨rfl,rfl⟩:=itl_yld (s1 _ _ es) (by rw [List.length_map]; exact hj) hy
   refine ⟨_,rfl,by show 1<=sizeLine; decide,fun q hq=>⟨by rw [List.length_append,e]; rfl,s1.trans (same_upd hq),?_⟩⟩
   rw [List.take_succ_eq_append_getElem (by rw [List.length_map]; exact hj)]
   refine L2.Paired.snoc ⟨q,rfl,?_⟩ (Words.tk w1 (same_upd hq).tk)
   rw [upd_same,List.getElem_map,List.getElem_map]
   rfl
  ·rintro ys H1 ⟨e,s1,w1⟩ wl hwl
   rw [<- List.length_map (f:=fun b:Int=>[b]),List.take_length] at w1
   have s2:=s1.trans (same_upd (o:=.lst ys) hwl)
   have w2:=Words.tk w1 (same_upd (o:=.lst ys) hwl).tk
   have e2:(upd H1 wl (.lst ys)) wl=some (.lst ys):=upd_same
   obtain ⟨_,ep⟩:=hand_of hh
   have nwp:wl≠p:=Ne.symm (ne_of_none (s1 _ _ ep) hwl)
   have nw0:H wl=none:=s1.free hwl
   generalize upd H1 wl (.lst ys)=H2 at s2 w2 e2
   refine ⟨_,rfl,_,rfl,_,_,rfl,rfl,p,a,_,rfl,hh.same s2,by omega,by omega,fun n0 H3 n00 n01 h3 g3 u3=>?_⟩
   have inv0:WOk (bs.map fun b=>[b]):=ones_pf nd
   refine ⟨n0,rfl,by omega,by omega,for_range (n:=n0.toNat) (fun j σ H'=>∃ wl ws v1 v2,σ=[some (.ref p),some (.ref sa),some (.int m),some (.int lg),some (.ref wl),v1,v2]/\H wl=none/\wl≠p/\WordsAt H' wl ws/\WOk ws/\(∀ w∈ws,∀ b∈w,b∈bs)/\ws≠[]/\ws.length<=bs.length + j * bs.length/\HandAt H' p a/\Grow p H H')
    ⟨wl,_,_,_,rfl,nw0,nwp,⟨ys,by rw [u3 wl nwp]; exact e2,Words.tk w2 (g3.tk (s2 _ _ ep))⟩,inv0,(fun w hw b hb=>by obtain ⟨c,hc,rfl⟩:=List.mem_map.mp hw; rw [List.mem_singleton.mp hb]; exact hc),by simpa using hne,by rw [List.length_map]; omega,h3,(Grow.same s2).trans g3⟩ ?_ ?_⟩
   ·rintro j σ H4 hj ⟨wl,ws,v1,v2,rfl,nw0,nwp,⟨vs,e4,w4⟩,ok4,bn4,ne4,l4,h4,g4⟩
    have lv:=Paired.length w4
    have lp:0 < vs.length:=by rw [lv]; exact List.length_pos_iff.mpr ne4
    have hjb:j * bs.length<=6 * 24:=Nat.mul_le_mul (by omega) hl
    refine ⟨_,rfl,p,a,_,rfl,h4,by decide,by decide,fun r H5 r0 r1 h5 g5 u5=>?_⟩
    have e5:H5 wl=some (.lst vs):=by rw [u5 wl nwp]; exact e4
    obtain ⟨_,ep4⟩:=hand_of h4
    have w5:=Words.tk w4 (g5.tk ep4)
    have es5:H5 sa=some (.lst (bs.map V.int)):=(g4.trans g5) _ _ es nsp
    refine ⟨_,rfl,_,_,rfl,.inl ⟨_,SqL.of e5,rfl⟩,_,_,rfl,rfl,(by show (0:Int) < _; omega),?_⟩
    have r2:0<=r % (vs.length:Int):=Int.emod_nonneg _ (by omega)
    have r3:r % (vs.length:Int) < vs.length:=Int.emod_lt_of_pos _ (by omega)
    obtain ⟨n,en0⟩:=Int.eq_ofNat_of_zero_le r2
    have hn:n < vs.length:=by omega
    obtain ⟨hn2,t,ev,et⟩:=Words.take1 w5 hn
    have atn:atI vs (r % (vs.length:Int))=some (.ref t):=by rw [en0,<- ev]; exact atI_nat (List.getElem?_eq_getElem hn)
    have cut1:cutV vs none (some (r % (vs.length:Int)))=vs.take n:=by rw [en0,cut_to (by omega) (by omega),Int.toNat_natCast]
    have cut2:cutV vs (some (r % (vs.length:Int) + 1)) none=vs.drop (n + 1):=by rw [en0,cut_from (by omega) (by omega)]; congr 1
    refine ⟨_,rfl,_,rfl,wl,_,_,_,rfl,rfl,SqL.of e5,atn,_,_,rfl,.inr ⟨_,SqT.of et,rfl⟩,_,rfl,_,_,rfl,rfl,_,rfl,?_⟩
    refine ite2 (fun hlt=>?_) (fun hlt=>?_)
    ·have hlt':((ws[n].map V.int).length:Int) < lg:=of_decide_eq_true hlt
     rw [List.length_map] at hlt'
     refine ⟨_,rfl,_,rfl,_,rfl,wl,_,rfl,SqL.of e5,fun q1 hq1=>?_⟩
     rw [cut1]
     have s6:=same_upd (o:=.lst (vs.take n)) hq1
     have e61:(upd H5 q1 (.lst (vs.take n))) q1=_:=upd_same
     have nq1:q1≠p:=by obtain ⟨_,ep5⟩:=hand_of h5; exact Ne.symm (ne_of_none ep5 hq1)
     generalize upd H5 q1 (.lst (vs.take n))=H6 at s6 e61
     refine ⟨_,rfl,sa,rfl,⟨_,SqL.of (s6 _ _ es5)⟩,comp_by (n:=bs.length) (fun j ys H'=>ys.length=j/\Same H6 H'/\Words H' ys ((bs.map fun b=>ws[n]++[b]).take j)) ⟨rfl,.refl _,by rw [List.take_zero]; exact .nil⟩ ?_ (small_line (by omega)) ?_ ?_ ?_ ?_⟩
     ·rintro j ys H' ⟨e,_⟩
      exact Nat.le_of_eq e
     ·rintro j ys H' hj ⟨_,s1,_⟩
      exact itl_go (s1 _ _ (s6 _ _ es5)) (by rw [List.length_map]; exact hj)
     ·rintro ys H' ⟨_,s1,_⟩
      exact itl_stop (s1 _ _ (s6 _ _ es5)) (by rw [List.length_map]; exact Nat.le_refl _)
     ·rintro j ys H' hj ⟨e,s1,w1⟩ y H'' hy
      obtain ⟨rfl,rfl⟩:=itl_yld (s1 _ _ (s6 _ _ es5)) (by rw [List.length_map]; exact hj) hy
      have et':=s1 _ _ (s6 _ _ et)
      refine ⟨_,rfl,_,rfl,wl,_,_,_,rfl,rfl,SqL.of (s1 _ _ (s6 _ _ e5)),atn,_,rfl,by show 1<=sizeLine; decide,fun q hq=>?_⟩
      have sq:=same_upd (o:=.tup [(bs.map V.int)[j]'(by rw [List.length_map]; exact hj)]) hq
      refine ⟨t,q,_,_,rfl,rfl,SqT.of (sq _ _ et'),SqT.of upd_same,?_,?_,fun z=>absurd z (by simp),fun _ q2 hq2=>?_⟩
      ·have:=(ok4.2 ws[n] (List.getElem_mem hn2)).1
       simpa using this
      ·rw [List.length_map]; show ws[n].length + 1<=sizeLine; exact Nat.le_trans (by omega:ws[n].length + 1<=10) (by decide)
      ·refine ⟨by rw [List.length_append,e]; rfl,(s1.trans sq).trans (same_upd hq2),?_⟩
       rw [List.take_succ_eq_append_getElem (by rw [List.length_map]; exact hj)]
       refine L2.Paired.snoc ⟨q2,rfl,?_⟩ (Words.tk w1 (sq.tk.trans (same_upd hq2).tk))
       rw [upd_same,List.getElem_map,List.getElem_map,List.map_append]
       rfl
     ·rintro ys H7 ⟨e,s7,w7⟩ q3 hq3
      rw [<- List.length_map (f:=fun b:Int=>ws[n]++[b]),List.take_length] at w7
      have s8:=s6.trans (s7.trans (same_upd (o:=.lst ys) hq3))
      have e8:(upd H7 q3 (.lst ys)) q3=some (.lst ys):=upd_same
      have e81:=(s7.trans (same_upd (o:=.lst ys) hq3)) _ _ e61
      have w8:=Words.tk w7 (same_upd (o:=.lst ys) hq3).tk
      generalize upd H7 q3 (.lst ys)=H8 at s8 e8 e81 w8
      have ly:ys.length=bs.length:=by rw [Paired.length w8,List.length_map]
      refine ⟨q1,q3,_,_,rfl,rfl,e81,e8,?_,fun q4 hq4=>?_⟩
      ·rw [List.length_take,ly]; exact small_line (by omega)
      have s9:=s8.trans (same_upd (o:=.lst (vs.take n++ys)) hq4)
      have e9:(upd H8 q4 (.lst (vs.take n++ys))) q4=_:=upd_same
      have w9:=Words.tk w8 (same_upd (o:=.lst (vs.take n++ys)) hq4).tk
      generalize upd H8 q4 (.lst (vs.take n++ys))=H9 at s9 e9 w9
      refine ⟨_,rfl,_,rfl,_,_,rfl,rfl,_,rfl,wl,_,rfl,SqL.of (s9 _ _ e5),fun q5 hq5=>?_⟩
      rw [cut2]
      have s10:=s9.trans (same_upd (o:=.lst (vs.drop (n + 1))) hq5)
      have e10:(upd H9 q5 (.lst (vs.drop (n + 1)))) q5=_:=upd_same
      have e104:=same_upd (o:=.lst (vs.drop (n + 1))) hq5 _ _ e9
      have w10:=Words.tk w9 (same_upd (o:=.lst (vs.drop (n + 1))) hq5).tk
      generalize upd H9 q5 (.lst (vs.drop (n + 1)))=H10 at s10 e10 e104 w10
      refine ⟨q4,q5,_,_,rfl,rfl,e104,e10,?_,fun q6 hq6=>?_⟩
      ·rw [List.length_append,List.length_take,List.length_drop,ly]; exact small_line (by omega)
      have s11:=s10.trans (same_upd (o:=.lst (vs.take n++ys++vs.drop (n + 1))) hq6)
      have w11:=Words.tk w10 (same_upd (o:=.lst (vs.take n++ys++vs.drop (n + 1))) hq6).tk
      have hsp:ws=ws.take n++ws[n]::ws.drop (n + 1):=by
       rw [<- List.drop_eq_getElem_cons hn2,List.take_append_drop]
      have ok11:WOk (ws.take n++(bs.map fun b=>ws[n]++[b])++ws.drop (n + 1)):=pf_split nd (hsp ▸ ok4) (by omega)
      have ws5:=Words.tk w5 s11.tk
      obtain ⟨_,ep5⟩:=hand_of h5
      have nq6:q6≠p:=Ne.symm (ne_of_none (s10 _ _ ep5) hq6)
      refine ⟨q6,_,_,_,rfl,?_,nq6,⟨_,upd_same,L2.Paired.app (L2.Paired.drp (n + 1) ws5) (L2.Paired.app w11 (L2.Paired.tak n ws5))⟩,ok11,bn_split bn4 hn2,?_,?_,h5.same s11,(g4.trans g5).trans (Grow.same s11)⟩
      ·exact (g4.trans g5).free (s10.free hq6) nq6
      ·intro z
       have:=congrArg List.length z
       simp only [List.length_append,List.length_map,List.length_nil] at this
       omega
      ·rw [List.length_append,List.length_append,List.length_take,List.length_drop,List.length_map,Nat.add_mul,Nat.one_mul]
       omega
    ·refine ⟨wl,ws,_,_,rfl,nw0,nwp,⟨vs,e5,w5⟩,ok4,bn4,ne4,?_,h5,g4.trans g5⟩
     rw [Nat.add_mul]
     omega
   ·rintro σ H4 ⟨wl,ws,v1,v2,rfl,nw0,nwp,⟨vs,e4,w4⟩,ok4,bn4,ne4,l4,h4,g4⟩
    have lv:=Paired.length w4
    have lb:ws.length<=200:=by
     have:n0.toNat * bs.length<=6 * 24:=Nat.mul_le_mul (by omega) hl
     omega
    refine ⟨_,rfl,wl,rfl,⟨_,SqL.of e4⟩,comp_by (n:=vs.length) (fun j ys H'=>∃ us:List (List Int),Words H' ys us/\us.Sublist (ws.take j)/\HandAt H' p a/\Grow p H4 H') ⟨[],.nil,List.nil_sublist _,h4,Grow.refl _ _⟩ ?_ (small_line (by omega)) ?_ ?_ ?_ ?_⟩
    ·rintro j ys H' ⟨us,w1,sb,_⟩
     have:=sb.length_le
     rw [List.length_take] at this
     rw [Paired.length w1]
     omega
    ·rintro j ys H' hj ⟨us,w1,sb,h1,g1⟩
     exact itl_go (g1 _ _ e4 nwp) hj
    ·rintro ys H' ⟨us,w1,sb,h1,g1⟩
     exact itl_stop (g1 _ _ e4 nwp) (Nat.le_refl _)
    ·rintro j ys H' hj ⟨us,w1,sb,h1,g1⟩ y H'' hy
     obtain ⟨rfl,rfl⟩:=itl_yld (g1 _ _ e4 nwp) hj hy
     refine ⟨_,rfl,p,a,_,rfl,h1,by decide,by decide,fun r H6 r0 r1 h6 g6 u6=>⟨_,_,rfl,rfl,_,rfl,?_⟩⟩
     obtain ⟨_,ep1⟩:=hand_of h1
     have hj2:j < ws.length:=by omega
     have tk:(ws.take (j + 1))=ws.take j++[ws[j]]:=List.take_succ_eq_append_getElem hj2
     refine ite2 (fun _=>?_) (fun _=>?_)
     ·refine ⟨_,rfl,us++[ws[j]],L2.Paired.snoc ?_ (Words.tk w1 (g6.tk ep1)),by rw [tk]; exact sb.append (List.Sublist.refl _),h6,g1.trans g6⟩
      obtain ⟨_,ep4⟩:=hand_of h4
      exact (L2.Paired.at w4 hj hj2).tk ((g1.trans g6).tk ep4)
     ·exact ⟨us,Words.tk w1 (g6.tk ep1),by rw [tk]; exact sb.trans (List.sublist_append_left _ _),h6,g1.trans g6⟩
    ·rintro ys H5 ⟨us,w1,sb,h5,g5⟩ q hq
     rw [lv,List.take_length] at sb
     obtain ⟨_,ep5⟩:=hand_of h5
     have nq:q≠p:=Ne.symm (ne_of_none ep5 hq)
     have g:=g4.trans g5
     refine k q us _ (g.free hq nq) nq ⟨ys,upd_same,Words.tk w1 (same_upd hq).tk⟩ (ok4.sub sb) (fun w hw=>bn4 w (sb.subset hw)) ?_ (h5.same (same_upd hq)) (g.trans (Grow.same (same_upd hq)))
     have l1:=sb.length_le
     have l2:n0.toNat * bs.length<=m.toNat * bs.length:=Nat.mul_le_mul (by omega) (Nat.le_refl _)
     have l3:((m.toNat * bs.length:Nat):Int)=m * bs.length:=by rw [Int.natCast_mul]; congr 1; omega
     omega
theorem ok__law_signs (T:Txt mg) (C__law_draw:Cal P w K mg base "_law_draw" 1 ["_law_hand", "_law_many"] spDraw) {f:Addr} {fd:FuncData} (F:Fun K "_law_signs" "_law_signs" s__law_signs f fd):FnOk P w K mg base CX0 2 f fd ["_law_hand", "_law_many"] spSigns:=by
 refine F.ok sc__law_signs (fun vs H Q E h=>?_) (fun cdv A outer s H vs Q E hr h=>?_)
 ·obtain ⟨p,a,m,rfl,_⟩:=h
  rfl
 ·obtain ⟨p,a,m,rfl,hh,hm0,hm1,k⟩:=h
  have SC:=sc__law_signs
  have hr__law_draw:Room 1 _:=hr.mono (by decide)
  refine ⟨_,(pss_cons (ps_set (i:=2) SC.nd rfl (Or.inr rfl) (pe_op op_mul (pe_callTy call_int1 (by rfl) T.b_int PyProof.Rows.boot_int (pa_cons (pe_cmpR op_gt (pe_cal C__law_draw hr__law_draw rfl (pa_cons (pv 0) (pa_cons pe_int pa_nil))) pe_int (nomark _)) pa_nil)) (pe_op op_add (pe_op op_mul (pe_cal C__law_draw hr__law_draw rfl (pa_cons (pv 0) (pa_cons pe_int pa_nil))) (pe_op op_pow pe_int pe_int)) (pe_cal C__law_draw hr__law_draw rfl (pa_cons (pv 0) (pa_cons pe_int pa_nil))))))
 (pss_cons (ps_set (i:=3) SC.nd rfl (Or.inr rfl) (pe_op op_add pe_int (pe_ix ix_list (pe_lst (pa_cons pe_int (pa_cons (pe_cal C__law_draw hr__law_draw rfl (pa_cons (pv 0) (pa_cons pe_int pa_nil))) (pa_cons (pe_cal C__law_draw hr__law_draw rfl (pa_cons (pv 0) (pa_cons (pe_op op_pow pe_int pe_int) pa_nil))) pa_nil)))) (pe_cal C__law_draw hr__law_draw rfl (pa_cons (pv 0) (pa_cons pe_int pa_nil))) (fun _ _=>rfl))))
 (pss_cons (ps_comp (i:=4) SC.nd rfl rfl (T:=["_law_k"]) (cs:=[2,3]) rfl (CScope.ok (by kernel_rfl)) (pi_range1 rfl T.b_range (pa_cons (pv 1) pa_nil)) (fun _ _ _ _=>(pg_name (i:=0) (nd_of (by kernel_rfl)) rfl (Or.inl rfl) (Or.inr rfl))) (fun _ _ _ _=>pts_nil) (fun _ _ _ _=>(pe_op op_add (pv 1) (pe_op op_mul (pv 2) (pv 0)))) (gk_name (by decide)))
 (pss_cons (ps_set (i:=5) SC.nd rfl (Or.inl rfl) (pe_op op_mod (pe_cal C__law_draw hr__law_draw rfl (pa_cons (pv 0) (pa_cons pe_int pa_nil))) (pe_callB (call_max2 rfl) (by rfl) T.b_max PyProof.Rows.boot_max (pa_cons pe_int (pa_cons (pv 1) pa_nil)))))
 (pss_cons (ps_set (i:=4) SC.nd rfl (Or.inl rfl) (pe_op op_cat (pe_slice sl_list (pv 4) (po_some (pv 5)) po_none) (pe_slice sl_list (pv 4) po_none (po_some (pv 5)))))
 (pss_cons (ps_if (pt_cmpR op_eq (pe_cal C__law_draw hr__law_draw rfl (pa_cons (pv 0) (pa_cons pe_int pa_nil))) pe_int (nomark _))
 (pss_one (ps_ret (pe_rev (pv 4) (po_some (pe_un un_neg pe_int)) (fun _ _=>⟨_,rfl⟩))))
 pss_nil)
 (pss_one (ps_ret (pv 4))))))))),?_⟩
  refine ⟨_,rfl,p,a,_,rfl,hh,by decide,by decide,fun r1 H1 r10 r11 h1 g1 u1=>⟨_,_,rfl,rfl,.inr ⟨_,rfl,_,rfl,p,a,_,rfl,h1,by decide,by decide,fun r2 H2 r20 r21 h2 g2 u2=>⟨_,_,rfl,rfl,⟨by decide,by decide,by decide⟩,_,_,rfl,rfl,.inl ⟨by omega,by omega⟩,_,rfl,p,a,_,rfl,h2,by decide,by decide,fun r3 H3 r30 r31 h3 g3 u3=>⟨_,_,rfl,rfl,_,_,rfl,rfl,.inl ?_,?_⟩⟩⟩⟩⟩
  ·split <;> exact ⟨by decide,by decide⟩
  obtain ⟨bg,hbg⟩:∃ bg:Int,bg=(if decide (0 < r1)=true then (1:Int) else 0) * (r2 * 10 ^ Int.toNat 6 + r3):=⟨_,rfl⟩
  have g30:=(g1.trans g2).trans g3
  refine ⟨_,rfl,p,a,_,rfl,h3,by decide,by decide,fun r4 H4 r40 r41 h4 g4 u4=>⟨_,rfl,_,_,rfl,rfl,⟨by decide,by decide,by decide⟩,p,a,_,rfl,h4,by decide,by decide,fun r5 H5 r50 r51 h5 g5 u5=>⟨by show 3<=sizeLine; decide,fun lq hlq=>?_⟩⟩⟩
  have s6:=same_upd (o:=.lst [.int 0,.int r4,.int r5]) hlq
  obtain ⟨_,ep5⟩:=hand_of h5
  have nlq:lq≠p:=Ne.symm (ne_of_none ep5 hlq)
  have elq:(upd H5 lq (.lst [.int 0,.int r4,.int r5])) lq=_:=upd_same
  have h6:=h5.same s6
  have g60:=g30.trans (g4.trans (g5.trans (Grow.same s6)))
  generalize upd H5 lq (.lst [.int 0,.int r4,.int r5])=H6 at s6 elq h6 g60
  refine ⟨_,rfl,p,a,_,rfl,h6,by decide,by decide,fun r6 H7 r60 r61 h7 g7 u7=>?_⟩
  have elq7:H7 lq=some (.lst [.int 0,.int r4,.int r5]):=by rw [u7 lq nlq]; exact elq
  obtain ⟨v,hv,ev⟩:=atI_some (xs:=[V.int 0,.int r4,.int r5]) r60 (by simpa using r61)
  obtain ⟨c,rfl,hc⟩:∃ c:Int,v=.int c/\0<=c:=by
   simp only [List.mem_cons,List.mem_nil_iff,or_false] at hv
   rcases hv with z | z | z <;> exact ⟨_,z,by omega⟩
  have r51':r5 < 10000000:=r51
  have hc2:c < 10000000:=by
   simp only [List.mem_cons,List.mem_nil_iff,or_false] at hv
   rcases hv with z | z | z <;> injection z with z <;> omega
  refine ⟨lq,_,_,_,rfl,rfl,SqL.of elq7,ev,_,_,rfl,rfl,?_⟩
  refine ⟨_,rfl,m,rfl,by omega,by omega,comp_by (n:=m.toNat) (fun j ys H'=>H'=H7/\ys=((List.range j).map fun k:Nat=>bg + (1 + c) * (k:Int)).map V.int) ⟨rfl,rfl⟩ ?_ (small_line (by omega)) ?_ ?_ ?_ ?_⟩
  ·rintro j ys H' ⟨rfl,rfl⟩
   rw [List.length_map,List.length_map,List.length_range]
   exact Nat.le_refl _
  ·rintro j ys H' hj _
   exact hj
  ·rintro ys H' _
   exact Nat.le_refl _
  ·rintro j ys H' hj ⟨rfl,rfl⟩ x H8 ⟨rfl,rfl⟩
   refine ⟨_,rfl,_,rfl,_,rfl,_,_,rfl,rfl,.inl ⟨by omega,by omega⟩,_,_,rfl,rfl,rfl,?_⟩
   rw [List.range_succ,List.map_append,List.map_append,Int.zero_add,hbg]
   rfl
  ·rintro ys H' ⟨rfl,rfl⟩ l hl
   generalize hss:(List.range m.toNat).map (fun k:Nat=>bg + (1 + c) * (k:Int))=ss
   have nd:ss.Nodup:=by rw [<- hss]; exact steps_inj (by omega) _
   have ls:(ss.length:Int)=m:=by rw [<- hss,List.length_map,List.length_range]; omega
   have s8:=same_upd (o:=.lst (ss.map V.int)) hl
   have e8:(upd H' l (.lst (ss.map V.int))) l=_:=upd_same
   obtain ⟨_,ep7⟩:=hand_of h7
   have nl:l≠p:=Ne.symm (ne_of_none ep7 hl)
   have h8:=h7.same s8
   have g80:=(g60.trans g7).trans (Grow.same s8)
   generalize upd H' l (.lst (ss.map V.int))=H8 at s8 e8 h8 g80
   refine ⟨_,rfl,p,a,_,rfl,h8,by decide,by decide,fun r9 H9 r90 r91 h9 g9 u9=>⟨_,rfl,_,_,rfl,_,_,rfl,rfl,?_,?_⟩⟩
   ·show (0:Int) < if m > 1 then m else 1
    split <;> omega
   have e9:H9 l=some (.lst (ss.map V.int)):=by rw [u9 l nl]; exact e8
   have z0:0<=r9 % (if m > 1 then m else 1):=Int.emod_nonneg _ (by split <;> omega)
   have z1:r9 % (if m > 1 then m else 1)<=ss.length:=by
    rw [ls]
    have:=Int.emod_lt_of_pos r9 (show (0:Int) < if m > 1 then m else 1 by split <;> omega)
    by_cases hm:m > 1
    ·rw [if_pos hm] at this ⊢; omega
    ·rw [if_neg hm] at this ⊢; omega
   obtain ⟨n,en⟩:=Int.eq_ofNat_of_zero_le z0
   have cut1:cutV (ss.map V.int) (some (r9 % (if m > 1 then m else 1))) none=(ss.drop n).map V.int:=by rw [en,cut_from (by omega) (by rw [List.length_map]; omega),List.map_drop]; rfl
   have cut2:cutV (ss.map V.int) none (some (r9 % (if m > 1 then m else 1)))=(ss.take n).map V.int:=by rw [en,cut_to (by omega) (by rw [List.length_map]; omega),List.map_take]; rfl
   refine ⟨_,rfl,_,rfl,_,rfl,l,_,rfl,SqL.of e9,fun q1 hq1=>?_⟩
   rw [cut1]
   have sA:=same_upd (o:=.lst ((ss.drop n).map V.int)) hq1
   have eA:(upd H9 q1 (.lst ((ss.drop n).map V.int))) q1=_:=upd_same
   generalize upd H9 q1 (.lst ((ss.drop n).map V.int))=HA at sA eA
   refine ⟨_,rfl,_,rfl,_,rfl,l,_,rfl,SqL.of (sA _ _ e9),fun q2 hq2=>?_⟩
   rw [cut2]
   have sB:=sA.trans (same_upd (o:=.lst ((ss.take n).map V.int)) hq2)
   have eB:(upd HA q2 (.lst ((ss.take n).map V.int))) q2=_:=upd_same
   have eB1:=same_upd (o:=.lst ((ss.take n).map V.int)) hq2 _ _ eA
   generalize upd HA q2 (.lst ((ss.take n).map V.int))=HB at sB eB eB1
   refine ⟨q1,q2,_,_,rfl,rfl,eB1,eB,?_,fun q3 hq3=>?_⟩
   ·rw [List.length_map,List.length_map,List.length_drop,List.length_take]; exact small_line (by omega)
   rw [<- List.map_append]
   have nd2:=spin_nodup nd n
   have ls2:((ss.drop n++ss.take n).length:Int)=m:=by rw [List.length_append,List.length_drop,List.length_take]; omega
   generalize ss.drop n++ss.take n=tt at nd2 ls2
   have sC:=sB.trans (same_upd (o:=.lst (tt.map V.int)) hq3)
   have eC:(upd HB q3 (.lst (tt.map V.int))) q3=_:=upd_same
   obtain ⟨_,ep9⟩:=hand_of h9
   have nq3:q3≠p:=Ne.symm (ne_of_none (sB _ _ ep9) hq3)
   have n30:H q3=none:=(g80.trans g9).free (sB.free hq3) nq3
   have hC:=h9.same sC
   have gC:=(g80.trans g9).trans (Grow.same sC)
   generalize upd HB q3 (.lst (tt.map V.int))=HC at sC eC hC gC
   refine ⟨_,rfl,p,a,_,rfl,hC,by decide,by decide,fun rd HD rd0 rd1 hD gD uD=>⟨rfl,_,rfl,?_⟩⟩
   have eD:HD q3=some (.lst (tt.map V.int)):=by rw [uD q3 nq3]; exact eC
   refine ite2 (fun _=>?_) (fun _=>?_)
   ·refine ⟨_,rfl,_,rfl,_,rfl,rfl,q3,_,rfl,SqL.of eD,fun q4 hq4=>?_⟩
    rw [<- List.map_reverse]
    have sE:=same_upd (o:=.lst (tt.reverse.map V.int)) hq4
    obtain ⟨_,epD⟩:=hand_of hD
    have nq4:q4≠p:=Ne.symm (ne_of_none epD hq4)
    exact k q4 tt.reverse _ ((gC.trans gD).free hq4 nq4) nq4 upd_same ((List.reverse_perm tt).nodup_iff.mpr nd2) (by rw [List.length_reverse]; exact ls2) (hD.same sE) ((gC.trans gD).trans (Grow.same sE))
   ·exact ⟨_,rfl,k q3 tt HD n30 nq3 eD nd2 ls2 hD (gC.trans gD)⟩
open L3
def hand_more {M:Mem} {m m':MO} {k:Nat} (h:M[k]?=some m):(M++[m'])[k]?=some m:=by
 have hk:k < M.length:=(List.getElem?_eq_some_iff.mp h).1
 rw [List.getElem?_append_left hk]; exact h
theorem at_mod {τ:Type} {f:τ->D} {as:List τ} (z:Int) (h:as≠[]):∃ a∈as,L2.atI (as.map f) (z % ((as.map f).length:Int))=some (f a):=by
 have h0:0 < as.length:=List.length_pos_iff.mpr h
 have h1:(0:Int)<=z % (as.length:Int):=Int.emod_nonneg _ (by omega)
 have h2:z % (as.length:Int) < as.length:=Int.emod_lt_of_pos _ (by omega)
 have h3:(z % (as.length:Int)).toNat < as.length:=by omega
 refine ⟨as[(z % (as.length:Int)).toNat],List.getElem_mem h3,?_⟩
 rw [List.length_map]
 exact atI_map (by omega) h3
theorem len_pos {τ:Type} {f:τ->D} {as:List τ} (h:as≠[]):(0:Int) < ((as.map f).length:Int):=by
 rw [List.length_map]
 have:=List.length_pos_iff.mpr h
 omega
open L3
def dAnyB:Sp3:=fun ds M K=>∃ (k:Nat) (bs:List Int),ds=[.cell k,.lst (bs.map .int)]/\(M[k]?=some .hand/\bs≠[]/\bs.length<=1000)/\∀ ws:List (List Int),ws.length<=7->Wb bs ws->K (.cell M.length) (M++[.lst (ws.map wD)])
theorem ok__law_any_words (T:Txt mg) {C:Addr} (C__law_draw:Cal P w K mg base "_law_draw" 1 ["_law_hand", "_law_many"] (L3.spOf ⟨C,K⟩ dDraw)) {f:Addr} {fd:FuncData} (F:Fun K "_law_any_words" "_law_any_words" s__law_any_words f fd):FnOk P w K mg base CX0 2 f fd ["_law_hand", "_law_some"] (L3.spOf ⟨C,K⟩ dAnyB):=by
 refine L3.Fun.ok3 F sc__law_any_words (fun ds M K3 h=>?_) (fun cdv A outer s H E hr=>?_)
 ·obtain ⟨hd,bs,rfl,_⟩:=h
  rfl
 ·have SC:=sc__law_any_words
  have hu:=hr.units
  have hu1:=hu_of hr
  have hr__law_draw:Room 1 _:=hr.mono (by first | decide | omega)
  refine ⟨_,_,(pss_cons (ps_set (i:=2) SC.nd rfl (Or.inl rfl) (pe_lst pa_nil))
 (pss_cons (ps_for PassesOwn.never rfl (pi_range1 rfl T.b_range (pa_cons (pe_cal C__law_draw hr__law_draw rfl (pa_cons (pv 0) (pa_cons pe_int pa_nil))) pa_nil)) (pg_name (i:=3) SC.nd rfl (Or.inl rfl))
 (pss_one (ps_expr (pe_bm PySem.F.plainAttrs_list PySem.F.slot_list_append PySem.F.type_list_append mt_append (pv 2) (pa_cons (pe_callTy (bk_tup (K:=K) rfl) (by rfl) T.b_tuple PyProof.Rows.boot_tuple (pa_cons (pe_comp (T:=["_law_at"]) (cs:=[1,0]) rfl (CScope.ok (by kernel_rfl)) (pi_range1 rfl T.b_range (pa_cons (pe_op (L3.ux_add (K':=K) rfl) pe_int (pe_cal C__law_draw hr__law_draw rfl (pa_cons (pv 0) (pa_cons pe_int pa_nil)))) pa_nil)) (fun _ _ _ _=>(pg_name (i:=0) (nd_of (by kernel_rfl)) rfl (Or.inl rfl) (Or.inr rfl))) (fun _ _ _ _=>pts_nil) (fun _ _ _ _=>(pe_ix (L3.ux_ix (K':=K) rfl) (pv 1) (pe_op op_mod (pe_cal C__law_draw hr__law_draw rfl (pa_cons (pv 2) (pa_cons pe_int pa_nil))) (pe_callB (bk_len (K:=K) rfl) (by rfl) T.b_len PySem.boot_len (pa_cons (pv 1) pa_nil))) (fun _ _=>rfl))) (gk_name (by decide))) pa_nil)) pa_nil)))))
 (pss_one (ps_ret (pv 2))))),fun _=>(L3.s_seq (L3.s_asg (L3.s_lstC L3.s_nil) (L3.s_g 2))
 (L3.s_seq (L3.s_for (L3.s_ir1 (L3.s_cons (L3.s_call (L3.s_cons (L3.s_var 0) (L3.s_cons L3.s_int L3.s_nil))) L3.s_nil)) (L3.s_g 3)
 (L3.s_drop (L3.s_append (L3.s_var 2) (L3.s_cons (L3.s_cb L3.s_tuple (L3.s_cons (L3.s_comp (L3.s_ir1 (L3.s_cons (L3.s_op L3.s_add L3.s_int (L3.s_call (L3.s_cons (L3.s_var 0) (L3.s_cons L3.s_int L3.s_nil)))) L3.s_nil)) (L3.s_g 0) L3.s_true (L3.s_op L3.s_ix (L3.s_var 1) (L3.s_op L3.s_mod (L3.s_call (L3.s_cons (L3.s_var 2) (L3.s_cons L3.s_int L3.s_nil))) (L3.s_cb L3.s_len (L3.s_cons (L3.s_var 1) L3.s_nil))))) L3.s_nil)) L3.s_nil))))
 (L3.s_ret (L3.s_var 2)))),fun ds M Kk hM hD h=>?_⟩
  obtain ⟨hd,bs,rfl,h⟩:=h
  obtain ⟨⟨hh,hne,hlb⟩,k⟩:=h
  have hb0:0 < bs.length:=List.length_pos_iff.mpr hne
  refine ⟨Nat.zero_le _,?_⟩
  refine ⟨_,rfl,hd,8,rfl,hand_more hh,⟨by decide,by decide⟩,fun q q0 q1=>?_⟩
  refine ⟨q,rfl,⟨by omega,by omega⟩,fun j ρ M'=>∃ (ws:List (List Int)) (v3:Option D),ρ=[some (.cell hd),some (.lst (bs.map .int)),some (.cell M.length),v3]/\M'=M++[.lst (ws.map wD)]/\ws.length=j/\Wb bs ws,fun _ _ _ _ _=>trivial,⟨[],_,rfl,rfl,rfl,fun _ h=>nomatch h⟩,?_,?_⟩
  ·rintro j x ρ M' hj rfl ⟨ws,v3,rfl,rfl,lw,hw⟩
   have hj:j < 8:=by
    have:j < q.toNat:=hj
    omega
   refine ⟨_,rfl,ls_some ls_last,_,rfl,hd,4,rfl,hand_more hh,⟨by decide,by decide⟩,fun r r0 r1=>?_⟩
   refine ⟨_,rfl,⟨by omega,by omega⟩,?_,fun i ys M'=>M++[.lst (ws.map wD)]=M'/\∃ w:List Int,ys=w.map .int/\w.length=i/\∀ b∈w,b∈bs,fun _ _ _ _ _=>trivial,⟨rfl,[],rfl,rfl,fun _ h=>nomatch h⟩,?_,?_⟩
   ·exact small_line (by show (1 + r).toNat<=_; omega)
   ·rintro i x ys _ hi rfl ⟨rfl,w,rfl,rfl,hwb⟩
    refine ⟨_,rfl,_,rfl,hd,60,rfl,hand_more hh,⟨by decide,by decide⟩,fun z z0 z1=>?_⟩
    obtain ⟨a,ha,ea⟩:=at_mod (f:=D.int) z hne
    exact ⟨_,rfl,_,rfl,_,_,rfl,rfl,len_pos hne,_,_,_,rfl,rfl,ea,rfl,w++[a],by rw [List.map_append]; rfl,by rw [List.length_append]; rfl,fun b hb=>(List.mem_append.mp hb).elim (hwb b) fun z=>by rw [List.mem_singleton.mp z]; exact ha⟩
   ·rintro ys _ ⟨rfl,w,rfl,lw',hwb⟩
    have lw':w.length=(1 + r).toNat:=lw'
    refine ⟨_,_,rfl,rfl,M.length,_,_,rfl,rfl,at_last,?_,?_⟩
    ·rw [List.length_map]
     exact Nat.lt_of_le_of_lt (by omega:_<=1000) (by decide)
    rw [set_last]
    exact .inl ⟨ws++[w],_,rfl,by rw [List.map_append]; rfl,by rw [List.length_append,lw]; rfl,fun x hx=>(List.mem_append.mp hx).elim (hw x) fun z=>by rw [List.mem_singleton.mp z]; exact ⟨⟨fun e=>by rw [e] at lw'; simp at lw'; omega,by omega⟩,hwb⟩⟩
  ·rintro ρ M' ⟨ws,v3,rfl,rfl,lw,hw⟩
   have lw:ws.length=q.toNat:=lw
   exact ⟨_,rfl,.inl (k ws (by omega) hw)⟩
open L3
def dLooseB:Sp3:=fun ds M K=>∃ (k:Nat) (m lg:Int),ds=[.cell k,.int m,.int lg]/\(M[k]?=some .hand/\1<=m/\m<=6/\1<=lg/\lg<=4)/\∀ (L:List Pr) (bs:List Int),L.length<=40->(L.map (·.1)).Nodup->bs.length<=3->Wb bs (L.map (·.2))->K (.lst (L.map pD)) M
def w_cat {a b:List Int}:(a++b).map D.int=a.map D.int++b.map D.int:=List.map_append ..
theorem cut_ne {w:List Int} (h:w≠[]):cut w none (some 4)≠[]/\(cut w none (some 4)).length<=4:=by
 have e:cut w none (some 4)=w.take (min 4 w.length):=by
  unfold cut
  rw [show (4:Int)=((4:Nat):Int) from rfl,HT.sIx_nat,HT.sIx_none,List.drop_zero,Nat.sub_zero]
 have h0:0 < w.length:=List.length_pos_iff.mpr h
 rw [e]
 refine ⟨fun z=>?_,by rw [List.length_take]; omega⟩
 have:=congrArg List.length z
 rw [List.length_take,List.length_nil] at this
 omega
def cut_mem {τ:Type} {xs:List τ} {lo hi:Option Int} {x:τ} (h:x∈cut xs lo hi):x∈xs:=List.mem_of_mem_drop (List.mem_of_mem_take h)
theorem cut_both {ws:List (List Int)} {a:Int} (h:0<=a):(cut ws none (some a)++cut ws (some a) none).length<=ws.length:=by
 obtain ⟨m,rfl⟩:=Int.eq_ofNat_of_zero_le h
 rw [List.length_append]
 unfold cut
 rw [HT.sIx_nat,HT.sIx_nat,HT.sIx_none,HT.sIx_none]
 simp only [List.length_take,List.length_drop]
 omega
theorem ok__law_loose (T:Txt mg) {C:Addr} (C__law_bytes:Cal P w K mg base "_law_bytes" 2 ["_law_hand", "_law_most"] (L3.spOf ⟨C,K⟩ dBytes)) (C__law_draw:Cal P w K mg base "_law_draw" 1 ["_law_hand", "_law_many"] (L3.spOf ⟨C,K⟩ dDraw)) (C__law_words:Cal P w K mg base "_law_words" 2 ["_law_hand", "_law_some", "_law_most", "_law_longest"] (L3.spOf ⟨C,K⟩ dWordsB)) (C__law_any_words:Cal P w K mg base "_law_any_words" 2 ["_law_hand", "_law_some"] (L3.spOf ⟨C,K⟩ dAnyB)) (C__law_signs:Cal P w K mg base "_law_signs" 2 ["_law_hand", "_law_many"] (L3.spOf ⟨C,K⟩ dSigns)) {f:Addr} {fd:FuncData} (F:Fun K "_law_loose" "_law_loose" s__law_loose f fd):FnOk P w K mg base CX0 3 f fd ["_law_hand", "_law_most", "_law_longest"] (L3.spOf ⟨C,K⟩ dLooseB):=by
 refine L3.Fun.ok3 F sc__law_loose (fun ds M K3 h=>?_) (fun cdv A outer s H E hr=>?_)
 ·obtain ⟨hd,m,lg,rfl,_⟩:=h
  rfl
 ·have SC:=sc__law_loose
  have hu:=hr.units
  have hu1:=hu_of hr
  have hr__law_bytes:Room 2 _:=hr.mono (by first | decide | omega)
  have hr__law_draw:Room 1 _:=hr.mono (by first | decide | omega)
  have hr__law_words:Room 2 _:=hr.mono (by first | decide | omega)
  have hr__law_any_words:Room 2 _:=hr.mono (by first | decide | omega)
  have hr__law_signs:Room 2 _:=hr.mono (by first | decide | omega)
  refine ⟨_,_,(pss_cons (ps_set (i:=3) SC.nd rfl (Or.inl rfl) (pe_cal C__law_bytes hr__law_bytes rfl (pa_cons (pv 0) (pa_cons pe_int pa_nil))))
 (pss_cons (ps_set (i:=4) SC.nd rfl (Or.inl rfl) (pe_cal C__law_draw hr__law_draw rfl (pa_cons (pv 0) (pa_cons pe_int pa_nil))))
 (pss_cons (ps_set (i:=5) SC.nd rfl (Or.inr rfl) (pe_cal C__law_words hr__law_words rfl (pa_cons (pv 0) (pa_cons (pv 3) (pa_cons (pv 1) (pa_cons (pv 2) pa_nil))))))
 (pss_cons (ps_if (pt_cmpR (L3.ux_eq (K':=K) rfl hu) (pv 4) pe_int (nomark _))
 (pss_one (ps_set (i:=5) SC.nd rfl (Or.inr rfl) (pe_cal C__law_any_words hr__law_any_words rfl (pa_cons (pv 0) (pa_cons (pv 3) pa_nil)))))
 pss_nil)
 (pss_cons (ps_if (pt_cmpR op_gt (pv 4) pe_int (nomark _))
 (pss_one (ps_set (i:=5) SC.nd rfl (Or.inr rfl) (pe_comp (T:=["_law_word"]) (cs:=[]) rfl (CScope.ok (by kernel_rfl)) (pi_list (pv 5)) (fun _ _ _ _=>(pg_name (i:=0) (nd_of (by kernel_rfl)) rfl (Or.inl rfl) (Or.inr rfl))) (fun _ _ _ _=>pts_nil) (fun _ _ _ _=>(pe_revT (pv 0) (po_some (pe_un un_neg pe_int)) (fun _ _=>⟨_,rfl⟩))) (gk_name (by decide)))))
 pss_nil)
 (pss_cons (ps_if (PW.pt (pw_and (pt_cmpR op_gt (pv 4) pe_int (nomark _)) (pw_and1 (pt_cmpR (L3.ux_ne (K':=K) rfl hu) (pv 5) (pe_lst pa_nil) (nomark _)))))
 (pss_cons (ps_set (i:=6) SC.nd rfl (Or.inl rfl) (pe_ix (L3.ux_ix (K':=K) rfl) (pv 5) (pe_op op_mod (pe_cal C__law_draw hr__law_draw rfl (pa_cons (pv 0) (pa_cons pe_int pa_nil))) (pe_callB (bk_len (K:=K) rfl) (by rfl) T.b_len PySem.boot_len (pa_cons (pv 5) pa_nil))) (fun _ _=>rfl)))
 (pss_cons (ps_set (i:=7) SC.nd rfl (Or.inl rfl) (pe_ix (L3.ux_ix (K':=K) rfl) (pv 5) (pe_op op_mod (pe_cal C__law_draw hr__law_draw rfl (pa_cons (pv 0) (pa_cons pe_int pa_nil))) (pe_callB (bk_len (K:=K) rfl) (by rfl) T.b_len PySem.boot_len (pa_cons (pv 5) pa_nil))) (fun _ _=>rfl)))
 (pss_cons (ps_set (i:=8) SC.nd rfl (Or.inl rfl) (pe_ix (L3.ux_ix (K':=K) rfl) (pe_lst (pa_cons (pe_slice (L3.ux_sl (K':=K) rfl) (pe_op (L3.ux_add (K':=K) rfl) (pv 6) (pv 7)) po_none (po_some pe_int)) (pa_cons (pe_slice (L3.ux_sl (K':=K) rfl) (pe_op (L3.ux_add (K':=K) rfl) (pv 7) (pe_revT (pv 6) (po_some (pe_un un_neg pe_int)) (fun _ _=>⟨_,rfl⟩))) po_none (po_some pe_int)) (pa_cons (pv 6) pa_nil)))) (pe_cal C__law_draw hr__law_draw rfl (pa_cons (pv 0) (pa_cons pe_int pa_nil))) (fun _ _=>rfl)))
 (pss_cons (ps_set (i:=9) SC.nd rfl (Or.inl rfl) (pe_op op_mod (pe_cal C__law_draw hr__law_draw rfl (pa_cons (pv 0) (pa_cons pe_int pa_nil))) (pe_op (L3.ux_add (K':=K) rfl) (pe_callB (bk_len (K:=K) rfl) (by rfl) T.b_len PySem.boot_len (pa_cons (pv 5) pa_nil)) pe_int)))
 (pss_one (ps_set (i:=5) SC.nd rfl (Or.inr rfl) (pe_op (L3.ux_add (K':=K) rfl) (pe_op (L3.ux_add (K':=K) rfl) (pe_slice (L3.ux_sl (K':=K) rfl) (pv 5) po_none (po_some (pv 9))) (pe_lst (pa_cons (pv 8) pa_nil))) (pe_slice (L3.ux_sl (K':=K) rfl) (pv 5) (po_some (pv 9)) po_none))))))))
 pss_nil)
 (pss_cons (ps_set (i:=10) SC.nd rfl (Or.inr rfl) (pe_cal C__law_signs hr__law_signs rfl (pa_cons (pv 0) (pa_cons (pe_callB (bk_len (K:=K) rfl) (by rfl) T.b_len PySem.boot_len (pa_cons (pv 5) pa_nil)) pa_nil))))
 (pss_one (ps_ret (pe_comp (T:=["_law_k"]) (cs:=[10,5]) rfl (CScope.ok (by kernel_rfl)) (pi_range1 rfl T.b_range (pa_cons (pe_callB (bk_len (K:=K) rfl) (by rfl) T.b_len PySem.boot_len (pa_cons (pv 5) pa_nil)) pa_nil)) (fun _ _ _ _=>(pg_name (i:=0) (nd_of (by kernel_rfl)) rfl (Or.inl rfl) (Or.inr rfl))) (fun _ _ _ _=>pts_nil) (fun _ _ _ _=>(pe_tup (pa_cons (pe_ix (L3.ux_ix (K':=K) rfl) (pv 1) (pv 0) (fun _ _=>rfl)) (pa_cons (pe_ix (L3.ux_ix (K':=K) rfl) (pv 2) (pv 0) (fun _ _=>rfl)) pa_nil)))) (gk_name (by decide)))))))))))),fun _=>(L3.s_seq (L3.s_asg (L3.s_call (L3.s_cons (L3.s_var 0) (L3.s_cons L3.s_int L3.s_nil))) (L3.s_g 3))
 (L3.s_seq (L3.s_asg (L3.s_call (L3.s_cons (L3.s_var 0) (L3.s_cons L3.s_int L3.s_nil))) (L3.s_g 4))
 (L3.s_seq (L3.s_asg (L3.s_call (L3.s_cons (L3.s_var 0) (L3.s_cons (L3.s_var 3) (L3.s_cons (L3.s_var 1) (L3.s_cons (L3.s_var 2) L3.s_nil))))) (L3.s_g 5))
 (L3.s_seq (L3.s_ifS (L3.s_test (L3.s_op L3.s_eq (L3.s_var 4) L3.s_int))
 (L3.s_asg (L3.s_frz (L3.s_call (L3.s_cons (L3.s_var 0) (L3.s_cons (L3.s_var 3) L3.s_nil)))) (L3.s_g 5))
 L3.s_next)
 (L3.s_seq (L3.s_ifS (L3.s_test (L3.s_op L3.s_gt (L3.s_var 4) L3.s_int))
 (L3.s_asg (L3.s_comp (L3.s_il (L3.s_var 5)) (L3.s_g 0) L3.s_true (L3.s_revT (L3.s_var 0) (L3.s_part (L3.s_un L3.s_neg L3.s_int)))) (L3.s_g 5))
 L3.s_next)
 (L3.s_seq (L3.s_ifS (L3.s_and (L3.s_test (L3.s_op L3.s_gt (L3.s_var 4) L3.s_int)) (L3.s_test (L3.s_op L3.s_ne (L3.s_var 5) (L3.s_lst L3.s_nil))))
 (L3.s_seq (L3.s_asg (L3.s_op L3.s_ix (L3.s_var 5) (L3.s_op L3.s_mod (L3.s_call (L3.s_cons (L3.s_var 0) (L3.s_cons L3.s_int L3.s_nil))) (L3.s_cb L3.s_len (L3.s_cons (L3.s_var 5) L3.s_nil)))) (L3.s_g 6))
 (L3.s_seq (L3.s_asg (L3.s_op L3.s_ix (L3.s_var 5) (L3.s_op L3.s_mod (L3.s_call (L3.s_cons (L3.s_var 0) (L3.s_cons L3.s_int L3.s_nil))) (L3.s_cb L3.s_len (L3.s_cons (L3.s_var 5) L3.s_nil)))) (L3.s_g 7))
 (L3.s_seq (L3.s_asg (L3.s_op L3.s_ix (L3.s_lst (L3.s_cons (L3.s_sl L3.s_sl3 (L3.s_op L3.s_add (L3.s_var 6) (L3.s_var 7)) L3.s_noPart (L3.s_part L3.s_int)) (L3.s_cons (L3.s_sl L3.s_sl3 (L3.s_op L3.s_add (L3.s_var 7) (L3.s_revT (L3.s_var 6) (L3.s_part (L3.s_un L3.s_neg L3.s_int)))) L3.s_noPart (L3.s_part L3.s_int)) (L3.s_cons (L3.s_var 6) L3.s_nil)))) (L3.s_call (L3.s_cons (L3.s_var 0) (L3.s_cons L3.s_int L3.s_nil)))) (L3.s_g 8))
 (L3.s_seq (L3.s_asg (L3.s_op L3.s_mod (L3.s_call (L3.s_cons (L3.s_var 0) (L3.s_cons L3.s_int L3.s_nil))) (L3.s_op L3.s_add (L3.s_cb L3.s_len (L3.s_cons (L3.s_var 5) L3.s_nil)) L3.s_int)) (L3.s_g 9))
 (L3.s_asg (L3.s_op L3.s_add (L3.s_op L3.s_add (L3.s_sl L3.s_sl3 (L3.s_var 5) L3.s_noPart (L3.s_part (L3.s_var 9))) (L3.s_lst (L3.s_cons (L3.s_var 8) L3.s_nil))) (L3.s_sl L3.s_sl3 (L3.s_var 5) (L3.s_part (L3.s_var 9)) L3.s_noPart)) (L3.s_g 5))))))
 L3.s_next)
 (L3.s_seq (L3.s_asg (L3.s_call (L3.s_cons (L3.s_var 0) (L3.s_cons (L3.s_cb L3.s_len (L3.s_cons (L3.s_var 5) L3.s_nil)) L3.s_nil))) (L3.s_g 10))
 (L3.s_ret (L3.s_comp (L3.s_ir1 (L3.s_cons (L3.s_cb L3.s_len (L3.s_cons (L3.s_var 5) L3.s_nil)) L3.s_nil)) (L3.s_g 0) L3.s_true (L3.s_tup (L3.s_cons (L3.s_op L3.s_ix (L3.s_var 1) (L3.s_var 0)) (L3.s_cons (L3.s_op L3.s_ix (L3.s_var 2) (L3.s_var 0)) L3.s_nil)))))))))))),fun ds M Kk hM hD h=>?_⟩
  obtain ⟨hd,m,lg,rfl,h⟩:=h
  obtain ⟨⟨hh,m1,m2,g1,g2⟩,k⟩:=h
  refine ⟨_,rfl,hd,3,rfl,hh,⟨by decide,by decide⟩,fun bs nd b2 b3 _=>?_⟩
  have bne:bs≠[]:=fun e=>by rw [e] at b2; simp at b2
  refine ⟨_,rfl,hd,5,rfl,hh,⟨by decide,by decide⟩,fun way y0 y1=>?_⟩
  refine ⟨_,rfl,_,rfl,_,rfl,_,rfl,hd,bs,m,lg,rfl,hh,⟨nd,bne,by omega,by omega,m2,g1,g2⟩,fun ws wo wb wl=>?_⟩
  have hw:Wb bs ws:=fun w h=>⟨wo.2 w h,wb w h⟩
  have lw:ws.length<=21:=by
   rcases (by omega:bs.length=2\/bs.length=3) with e | e <;> rw [e] at wl <;> omega
  refine g_nx ?_
  dsimp only
  refine st_by (fun ρ' M'=>∃ (ws:List (List Int)),ws.length<=21/\Wb bs ws/\ρ'=[some (.cell hd),some (.int m),some (.int lg),some (.lst (bs.map .int)),some (.int way),some (.lst (ws.map wD)),none,none,none,none,none]/\M=M') (fun Kn hn=>?_) ?_
  ·refine ⟨_,rfl,.inl ⟨_,rfl,_,rfl,ite2 (fun h=>?_) (fun h=>?_)⟩⟩
   ·exact ⟨_,rfl,_,rfl,hd,bs,rfl,⟨hh,bne,by omega⟩,fun ws l1 h1=>frz_of rfl hM (bm_lst (below_map (fun _=>below_w) _)) (hn _ _ ⟨ws,by omega,h1,rfl,rfl⟩)⟩
   ·exact hn _ _ ⟨ws,lw,hw,rfl,rfl⟩
  rintro _ _ ⟨ws,lw,hw,rfl,rfl⟩
  refine st_by (fun ρ' M'=>∃ (ws:List (List Int)),ws.length<=21/\Wb bs ws/\ρ'=[some (.cell hd),some (.int m),some (.int lg),some (.lst (bs.map .int)),some (.int way),some (.lst (ws.map wD)),none,none,none,none,none]/\M=M') (fun Kn hn=>?_) ?_
  ·refine ⟨_,rfl,_,_,rfl,rfl,_,rfl,ite2 (fun h=>?_) (fun h=>?_)⟩
   ·refine ⟨_,rfl,_,rfl,?_,fun i ys M'=>M=M'/\ys=(ws.take i).map fun w=>wD w.reverse,fun _ _ _ _ _=>rfl,⟨rfl,rfl⟩,?_,?_⟩
    ·show (ws.map wD).length<=sizeLine
     rw [List.length_map]
     exact small_line (by omega)
    ·rintro i x ys _ hi hx ⟨rfl,rfl⟩
     obtain ⟨hi',rfl⟩:=item_map hx
     refine ⟨_,rfl,_,rfl,_,rfl,rfl,_,rfl,rfl,?_⟩
     rw [List.take_succ_eq_append_getElem hi',List.map_append]
     show _=_++[D.tup ((ws[i]).reverse.map .int)]
     rw [List.map_reverse]
    ·rintro ys _ ⟨rfl,rfl⟩
     have et:ws.take (ws.map wD).length=ws:=by rw [List.length_map,List.take_length]
     rw [show List.take _ ws=ws from et]
     refine hn _ _ ⟨ws.map List.reverse,by rw [List.length_map]; exact lw,fun w hx=>?_,by rw [List.map_map]; rfl,rfl⟩
     obtain ⟨v,hv,rfl⟩:=List.mem_map.mp hx
     exact ⟨⟨fun z=>(hw v hv).1.1 (List.reverse_eq_nil_iff.mp z),by rw [List.length_reverse]; exact (hw v hv).1.2⟩,fun b hb=>(hw v hv).2 b (List.mem_reverse.mp hb)⟩
   ·exact hn _ _ ⟨ws,lw,hw,rfl,rfl⟩
  rintro _ _ ⟨ws,lw,hw,rfl,rfl⟩
  refine st_by (fun ρ' M'=>∃ (ws:List (List Int)) (v6 v7 v8 v9:Option D),ws.length<=22/\Wb bs ws/\ρ'=[some (.cell hd),some (.int m),some (.int lg),some (.lst (bs.map .int)),some (.int way),some (.lst (ws.map wD)),v6,v7,v8,v9,none]/\M=M') (fun Kn hn=>?_) ?_
  ·refine ⟨_,rfl,_,_,rfl,rfl,_,rfl,ite2 (fun h=>?_) (fun h=>?_)⟩
   ·refine ⟨_,rfl,Nat.zero_le _,eqv_seq (encTup encInt) (a:=ws) (b:=[]) rfl rfl ⟨_,rfl,?_⟩⟩
    by_cases e:ws=[]
    ·rw [decide_eq_true e]
     exact iteF (hn _ _ ⟨ws,_,_,_,_,by omega,hw,rfl,rfl⟩)
    rw [decide_eq_false e]
    refine iteT ?_
    refine ⟨_,rfl,_,rfl,hd,60,rfl,hh,⟨by decide,by decide⟩,fun z z0 z1=>?_⟩
    obtain ⟨one,ho,eo⟩:=at_mod (f:=wD) z e
    refine ⟨_,rfl,_,rfl,_,_,rfl,rfl,len_pos e,_,_,_,rfl,rfl,eo,?_⟩
    refine ⟨_,rfl,_,rfl,hd,60,rfl,hh,⟨by decide,by decide⟩,fun z z0 z1=>?_⟩
    obtain ⟨oth,hoth,eoth⟩:=at_mod (f:=wD) z e
    refine ⟨_,rfl,_,rfl,_,_,rfl,rfl,len_pos e,_,_,_,rfl,rfl,eoth,?_⟩
    obtain ⟨⟨ho1,ho2⟩,ho3⟩:=hw one ho
    obtain ⟨⟨hq1,hq2⟩,hq3⟩:=hw oth hoth
    refine g_nx ?_
    dsimp only
    refine seq_by (fun d M'=>∃ w:List Int,d=wD w/\((w≠[]/\w.length<=4)/\∀ b∈w,b∈bs)/\M=M') (fun Kq hq=>?_) ?_
    ·have n1:(one.map D.int)≠[]:=fun z=>ho1 (List.map_eq_nil_iff.mp z)
     have n2:(oth.map D.int)≠[]:=fun z=>hq1 (List.map_eq_nil_iff.mp z)
     refine ⟨_,rfl,_,rfl,⟨n1,?_⟩,_,rfl,_,rfl,_,rfl,_,rfl,_,rfl,rfl,_,rfl,⟨n2,?_⟩,_,rfl,_,rfl,(show 3<=sizeLine by decide),_,rfl,hd,3,rfl,hh,⟨by decide,by decide⟩,fun r r0 r1=>?_⟩
     ·rw [List.length_map,List.length_map]; exact small_line (by omega)
     ·rw [List.length_reverse,List.length_map,List.length_map]; exact small_line (by omega)
     rw [<- List.map_reverse,<- w_cat,<- w_cat,cut_map,cut_map]
     obtain ⟨d,ed,hd'⟩:=item3 (a:=wD (cut (one++oth) none (some 4))) (b:=wD (cut (oth++one.reverse) none (some 4))) (c:=wD one) r0 r1
     refine ⟨_,_,_,rfl,rfl,ed,?_⟩
     rcases hd' with rfl | rfl | rfl
     ·exact hq _ _ ⟨_,rfl,⟨cut_ne (fun z=>ho1 (List.append_eq_nil_iff.mp z).1),fun b hb=>(List.mem_append.mp (cut_mem hb)).elim (ho3 b) (hq3 b)⟩,rfl⟩
     ·exact hq _ _ ⟨_,rfl,⟨cut_ne (fun z=>hq1 (List.append_eq_nil_iff.mp z).1),fun b hb=>(List.mem_append.mp (cut_mem hb)).elim (hq3 b) fun z=>ho3 b (List.mem_reverse.mp z)⟩,rfl⟩
     ·exact hq _ _ ⟨_,rfl,⟨⟨ho1,ho2⟩,ho3⟩,rfl⟩
    rintro _ _ ⟨mo,rfl,hmo,rfl⟩
    refine g_nx ?_
    refine seq_by (fun d M'=>∃ a:Int,d=.int a/\0<=a/\M=M') (fun Kq hq=>?_) ?_
    ·exact ⟨_,rfl,hd,60,rfl,hh,⟨by decide,by decide⟩,fun q q0 q1=>⟨_,rfl,_,rfl,_,_,rfl,rfl,(by omega),hq _ _ ⟨_,rfl,Int.emod_nonneg _ (by omega),rfl⟩⟩⟩
    rintro _ _ ⟨a,rfl,ha,rfl⟩
    have c3:=cut_both (ws:=ws) ha
    rw [List.length_append] at c3
    refine ⟨_,rfl,_,rfl,_,rfl,_,rfl,_,rfl,(show 1<=sizeLine by decide),_,_,rfl,rfl,?_,?_⟩
    ·simp only [cut_map,List.length_map]
     exact small_line (by show _ + 1<=_; omega)
    refine ⟨_,rfl,_,rfl,_,rfl,_,rfl,_,_,rfl,rfl,?_,?_⟩
    ·simp only [cut_map,List.length_append,List.length_map,List.length_singleton]
     exact small_line (by omega)
    simp only [cut_map]
    refine hn _ _ ⟨cut ws none (some a)++[mo]++cut ws (some a) none,_,_,_,_,by rw [List.length_append,List.length_append]; show _ + 1 + _<=_; omega,fun w hx=>?_,by rw [List.map_append,List.map_append]; rfl,rfl⟩
    rcases List.mem_append.mp hx with hx | hx
    ·rcases List.mem_append.mp hx with hx | hx
     ·exact hw w (cut_mem hx)
     ·rw [List.mem_singleton.mp hx]; exact hmo
    ·exact hw w (cut_mem hx)
   ·exact iteF (hn _ _ ⟨ws,_,_,_,_,by omega,hw,rfl,rfl⟩)
  rintro _ _ ⟨ws,v6,v7,v8,v9,lw,hw,rfl,rfl⟩
  have lm:(ws.map wD).length=ws.length:=List.length_map _
  refine ⟨_,rfl,_,rfl,_,rfl,hd,_,rfl,hh,⟨by omega,by omega⟩,fun ss nds ls=>?_⟩
  have ls:ss.length=ws.length:=by rw [lm] at ls; omega
  have lz:(ss.zip ws).length=ws.length:=by rw [List.length_zip]; omega
  have az:∀ j (h1:j < ss.length) (h2:j < ws.length),(ss.zip ws)[j]?=some (ss[j],ws[j]):=fun j h1 h2=>by rw [List.getElem?_eq_getElem (by omega),List.getElem_zip]
  have k':=k (ss.zip ws) bs (by omega) (by rw [List.map_fst_zip (by omega)]; exact nds) (by omega) (by rw [List.map_snd_zip (by omega)]; exact hw)
  generalize ss.zip ws=L at lz az k'
  refine ⟨_,rfl,_,rfl,_,rfl,⟨by omega,by omega⟩,?_,fun i ys M'=>M=M'/\ys=(L.take i).map pD,fun _ _ _ _ _=>trivial,⟨rfl,rfl⟩,?_,?_⟩
  ·exact small_line (by show ((ws.map wD).length:Int).toNat<=_; omega)
  ·rintro i x ys _ hi rfl ⟨rfl,rfl⟩
   have hi:i < ws.length:=by
    have:i < ((ws.map wD).length:Int).toNat:=hi
    omega
   refine ⟨_,rfl,_,rfl,_,_,_,rfl,rfl,atI_map (as:=ss) (j:=i) (by omega) (by omega),_,rfl,_,rfl,_,_,_,rfl,rfl,atI_map (f:=wD) (as:=ws) (j:=i) (by omega) hi,(show 2<=sizeLine by decide),rfl,?_⟩
   have ea:=az i (by omega) hi
   rw [List.getElem?_eq_getElem (by omega)] at ea
   rw [List.take_succ_eq_append_getElem (by omega),List.map_append,Option.some.inj ea]
   rfl
  ·rintro ys _ ⟨rfl,rfl⟩
   have eL:L.take (rngIt 0 ((ws.map wD).length:Int).toNat).n=L:=by
    show L.take ((ws.map wD).length:Int).toNat=L
    rw [List.length_map,Int.toNat_natCast,<- lz,List.take_length]
   rw [eL]
   exact .inl k'
open L3
def dOverN:Sp3:=fun ds M K=>∃ (d:D) (L:List Pr),ds=[d]/\lstOf M d=some (L.map pD)/\Tf L/\∀ (rs:List (List Int)) (J:List MO),rs.Pairwise (fun a b=>HT.lexLt a b=true)->(∀ r,r∈rs↔Ov (L.map (·.2)) r)->K (.cell (M++J).length) (M++J++[.lst (rs.map wD)])
def cut_pre {τ:Type} {xs:List τ} {m:Nat} (h:m<=xs.length):cut xs none (some (m:Int))=xs.take m:=by
 unfold cut
 rw [HT.sIx_nat,HT.sIx_none,List.drop_zero,Nat.sub_zero,Nat.min_eq_left h]
def cut_suf {τ:Type} {xs:List τ} {m:Nat} (h:m<=xs.length):cut xs (some (m:Int)) none=xs.drop m:=by
 unfold cut
 rw [HT.sIx_nat,HT.sIx_none,Nat.min_eq_left h]
 exact List.take_of_length_le (by rw [List.length_drop]; exact Nat.le_refl _)
theorem ok_rest_between (T:Txt mg) {C:Addr}  {f:Addr} {fd:FuncData} (F:Fun K "rest_between" "rest_between" s_rest_between f fd):FnOk P w K mg base CX0 1 f fd ["one", "other"] (L3.spOf ⟨C,K⟩ dRestB):=by
 refine L3.Fun.ok3 F sc_rest_between (fun ds M K3 h=>?_) (fun cdv A outer s H E hr=>?_)
 ·obtain ⟨a,b,rfl,_⟩:=h
  rfl
 ·have SC:=sc_rest_between
  have hu:=hr.units
  have hu1:=hu_of hr
  refine ⟨_,_,(pss_cons (ps_set (i:=2) SC.nd rfl (Or.inl rfl) (pe_callB (call_min2 rfl) (by rfl) T.b_min PyProof.Rows.boot_min (pa_cons (pe_callB (bk_len (K:=K) rfl) (by rfl) T.b_len PySem.boot_len (pa_cons (pv 0) pa_nil)) (pa_cons (pe_callB (bk_len (K:=K) rfl) (by rfl) T.b_len PySem.boot_len (pa_cons (pv 1) pa_nil)) pa_nil))))
 (pss_cons (ps_if (pt_cmpR (L3.ux_ne (K':=K) rfl hu) (pe_slice (L3.ux_sl (K':=K) rfl) (pv 0) po_none (po_some (pv 2))) (pe_slice (L3.ux_sl (K':=K) rfl) (pv 1) po_none (po_some (pv 2))) (nomark _))
 (pss_one (ps_ret pe_non))
 pss_nil)
 (pss_one (ps_ret (pe_op (L3.ux_addT (K':=K) rfl) (pe_slice (L3.ux_sl (K':=K) rfl) (pv 0) (po_some (pv 2)) po_none) (pe_slice (L3.ux_sl (K':=K) rfl) (pv 1) (po_some (pv 2)) po_none)))))),fun _=>(L3.s_seq (L3.s_asg (L3.s_cb L3.s_min2 (L3.s_cons (L3.s_cb L3.s_len (L3.s_cons (L3.s_var 0) L3.s_nil)) (L3.s_cons (L3.s_cb L3.s_len (L3.s_cons (L3.s_var 1) L3.s_nil)) L3.s_nil))) (L3.s_g 2))
 (L3.s_seq (L3.s_ifS (L3.s_test (L3.s_op L3.s_ne (L3.s_sl L3.s_sl3 (L3.s_var 0) L3.s_noPart (L3.s_part (L3.s_var 2))) (L3.s_sl L3.s_sl3 (L3.s_var 1) L3.s_noPart (L3.s_part (L3.s_var 2)))))
 (L3.s_ret L3.s_non)
 L3.s_next)
 (L3.s_ret (L3.s_op L3.s_addT (L3.s_sl L3.s_sl3 (L3.s_var 0) (L3.s_part (L3.s_var 2)) L3.s_noPart) (L3.s_sl L3.s_sl3 (L3.s_var 1) (L3.s_part (L3.s_var 2)) L3.s_noPart))))),fun ds M Kk hM hD h=>?_⟩
  obtain ⟨a,b,rfl,h⟩:=h
  obtain ⟨⟨la,lb⟩,k⟩:=h
  refine seq_by (fun d M'=>d=.int ((min a.length b.length:Nat):Int)/\M=M') (fun Kq hq=>?_) ?_
  ·refine ⟨_,rfl,_,rfl,_,rfl,_,rfl,_,_,rfl,hq _ _ ⟨?_,rfl⟩⟩
   show D.int (if ((b.map D.int).length:Int) < ((a.map D.int).length:Int) then ((b.map D.int).length:Int) else ((a.map D.int).length:Int))=_
   rw [List.length_map,List.length_map]
   congr 1
   split <;> omega
  rintro _ _ ⟨rfl,rfl⟩
  have hm:min a.length b.length<=a.length/\min a.length b.length<=b.length:=⟨by omega,by omega⟩
  have er:rb a b=if a.take (min a.length b.length)=b.take (min a.length b.length) then some (a.drop (min a.length b.length)++b.drop (min a.length b.length)) else none:=rfl
  generalize min a.length b.length=m at hm er
  refine ⟨_,rfl,_,rfl,_,rfl,_,rfl,_,rfl,_,rfl,?_⟩
  show eqV (.tup (cut (a.map .int) none (some (m:Int)))) (.tup (cut (b.map .int) none (some (m:Int)))) M _
  rw [cut_map,cut_map,cut_pre hm.1,cut_pre hm.2]
  refine eqv_enc (encTup encInt) (a:=a.take m) (b:=b.take m) ⟨_,rfl,?_⟩
  by_cases e:a.take m=b.take m
  ·rw [decide_eq_true e]
   rw [if_pos e] at er
   refine iteF ⟨_,rfl,_,rfl,_,rfl,_,rfl,_,rfl,_,rfl,?_⟩
   show addT3 (.tup (cut (a.map .int) (some (m:Int)) none)) (.tup (cut (b.map .int) (some (m:Int)) none)) M _
   rw [cut_map,cut_map,cut_suf hm.1,cut_suf hm.2]
   refine ⟨_,_,rfl,rfl,?_,.inl ?_⟩
   ·rw [List.length_map,List.length_map,List.length_drop,List.length_drop]
    exact small_line (by omega)
   ·rw [<- List.map_append]
    rw [er] at k
    exact k
  ·rw [decide_eq_false e]
   rw [if_neg e] at er
   rw [er] at k
   exact iteT (.inl k)
theorem ok_rests_between (T:Txt mg) {C:Addr} (C_rest_between:Cal P w K mg base "rest_between" 1 ["one", "other"] (L3.spOf ⟨C,K⟩ dRestB)) {f:Addr} {fd:FuncData} (F:Fun K "rests_between" "rests_between" s_rests_between f fd):FnOk P w K mg base CX0 2 f fd ["part", "words"] (L3.spOf ⟨C,K⟩ dRests):=by
 refine L3.Fun.ok3 F sc_rests_between (fun ds M K3 h=>?_) (fun cdv A outer s H E hr=>?_)
 ·obtain ⟨a,ws,rfl,_⟩:=h
  rfl
 ·have SC:=sc_rests_between
  have hu:=hr.units
  have hu1:=hu_of hr
  have hr_rest_between:Room 1 _:=hr.mono (by first | decide | omega)
  refine ⟨_,_,(pss_cons (ps_comp (i:=2) SC.nd rfl rfl (T:=["word"]) (cs:=[0]) rfl (CScope.ok (by kernel_rfl)) (pi_list (pv 1)) (fun _ _ _ _=>(pg_name (i:=0) (nd_of (by kernel_rfl)) rfl (Or.inl rfl) (Or.inr rfl))) (fun _ _ _ _=>pts_nil) (fun _ _ _ _=>(pe_cal C_rest_between hr_rest_between rfl (pa_cons (pv 1) (pa_cons (pv 0) pa_nil)))) (gk_name (by decide)))
 (pss_one (ps_ret (pe_comp (T:=["rest"]) (cs:=[]) rfl (CScope.ok (by kernel_rfl)) (pi_list (pv 2)) (fun _ _ _ _=>(pg_name (i:=0) (nd_of (by kernel_rfl)) rfl (Or.inl rfl) (Or.inr rfl))) (fun _ _ _ _=>(pts_one (pt_cmp (pc_notN (pv 0))))) (fun _ _ _ _=>(pv 0)) (gk_name (by decide)))))),fun _=>(L3.s_seq (L3.s_asg (L3.s_comp (L3.s_il (L3.s_var 1)) (L3.s_g 0) L3.s_true (L3.s_call (L3.s_cons (L3.s_var 1) (L3.s_cons (L3.s_var 0) L3.s_nil)))) (L3.s_g 2))
 (L3.s_ret (L3.s_comp (L3.s_il (L3.s_var 2)) (L3.s_g 0) (L3.s_b (L3.s_notN (L3.s_var 0))) (L3.s_var 0)))),fun ds M Kk hM hD h=>?_⟩
  obtain ⟨a,ws,rfl,h⟩:=h
  obtain ⟨⟨lw,la,hw⟩,k⟩:=h
  refine ⟨_,rfl,_,rfl,?_,fun i ys M'=>M=M'/\ys=(ws.take i).map fun w=>opW (rb a w),fun _ _ _ _ _=>rfl,⟨rfl,rfl⟩,?_,?_⟩
  ·show (ws.map wD).length<=sizeLine
   rw [List.length_map]
   exact small_line (by omega)
  ·rintro i x ys _ hi hx ⟨rfl,rfl⟩
   obtain ⟨hi',rfl⟩:=item_map hx
   have l4:=hw _ (List.getElem_mem hi')
   refine ⟨_,rfl,_,rfl,a,ws[i],rfl,⟨by omega,by omega⟩,rfl,?_⟩
   rw [List.take_succ_eq_append_getElem hi',List.map_append]
   rfl
  rintro ys _ ⟨rfl,rfl⟩
  have e:ws.take (ws.map wD).length=ws:=by rw [List.length_map,List.take_length]
  rw [show List.take _ ws=ws from e]
  refine ⟨_,rfl,_,rfl,?_,fun i ys M'=>M=M'/\ys=((ws.take i).filterMap (rb a)).map wD,fun _ _ _ _ _=>rfl,⟨rfl,rfl⟩,?_,?_⟩
  ·show (ws.map fun w=>opW (rb a w)).length<=sizeLine
   rw [List.length_map]
   exact small_line (by omega)
  ·rintro i x ys _ hi hx ⟨rfl,rfl⟩
   obtain ⟨hi',rfl⟩:=item_map (f:=fun w=>opW (rb a w)) hx
   cases er:rb a ws[i] with
   | none =>
    refine ⟨_,rfl,_,rfl,iteF ⟨rfl,?_⟩⟩
    rw [List.take_succ_eq_append_getElem hi',List.filterMap_append,List.map_append,List.filterMap_cons_none er]
    exact (List.append_nil _).symm
   | some r =>
    refine ⟨_,rfl,_,rfl,iteT ⟨_,rfl,rfl,?_⟩⟩
    rw [List.take_succ_eq_append_getElem hi',List.filterMap_append,List.map_append,List.filterMap_cons_some er]
    rfl
  rintro ys _ ⟨rfl,rfl⟩
  have e:ws.take (ws.map fun w=>opW (rb a w)).length=ws:=by rw [List.length_map,List.take_length]
  rw [show List.take _ ws=ws from e]
  exact .inl k
theorem ok_first_rests (T:Txt mg) {C:Addr} (C_rests_between:Cal P w K mg base "rests_between" 2 ["part", "words"] (L3.spOf ⟨C,K⟩ dRests)) {f:Addr} {fd:FuncData} (F:Fun K "first_rests" "first_rests" s_first_rests f fd):FnOk P w K mg base CX0 3 f fd ["words"] (L3.spOf ⟨C,K⟩ dFirstR):=by
 refine L3.Fun.ok3 F sc_first_rests (fun ds M K3 h=>?_) (fun cdv A outer s H E hr=>?_)
 ·obtain ⟨ws,rfl,_⟩:=h
  rfl
 ·have SC:=sc_first_rests
  have hu:=hr.units
  have hu1:=hu_of hr
  have hr_rests_between:Room 2 _:=hr.mono (by first | decide | omega)
  refine ⟨_,_,(pss_cons (ps_set (i:=1) SC.nd rfl (Or.inl rfl) (pe_lst pa_nil))
 (pss_cons (ps_for PassesOwn.never rfl (pi_enum rfl T.b_enumerate (pa_cons (pv 0) pa_nil)) (pg_tup (n:=2) rfl (pgs_cons (pg_name (i:=2) SC.nd rfl (Or.inl rfl)) (pgs_cons (pg_name (i:=3) SC.nd rfl (Or.inl rfl)) pgs_nil)) (by rfl))
 (pss_one (ps_expr (pe_bm PySem.F.plainAttrs_list PySem.F.slot_list_extend PySem.F.type_list_extend mt_extend (pv 1) (pa_cons (pe_cal C_rests_between hr_rests_between rfl (pa_cons (pv 3) (pa_cons (pe_slice (L3.ux_sl (K':=K) rfl) (pv 0) po_none (po_some (pv 2))) pa_nil))) pa_nil)))))
 (pss_one (ps_ret (pv 1))))),fun _=>(L3.s_seq (L3.s_asg (L3.s_lstC L3.s_nil) (L3.s_g 1))
 (L3.s_seq (L3.s_for (L3.s_ie (L3.s_cons (L3.s_var 0) L3.s_nil)) (L3.s_gtup (L3.s_gcons (L3.s_g 2) (L3.s_gcons (L3.s_g 3) L3.s_gnil)))
 (L3.s_drop (L3.s_extend (L3.s_var 1) (L3.s_cons (L3.s_call (L3.s_cons (L3.s_var 3) (L3.s_cons (L3.s_sl L3.s_sl3 (L3.s_var 0) L3.s_noPart (L3.s_part (L3.s_var 2))) L3.s_nil))) L3.s_nil))))
 (L3.s_ret (L3.s_var 1)))),fun ds M Kk hM hD h=>?_⟩
  obtain ⟨ws,rfl,h⟩:=h
  obtain ⟨⟨lw,hw⟩,k⟩:=h
  refine ⟨Nat.zero_le _,?_⟩
  refine ⟨_,rfl,_,_,rfl,rfl,fun j ρ M'=>∃ v2 v3:Option D,ρ=[some (.lst (ws.map wD)),some (.cell M.length),v2,v3]/\M'=M++[.lst ((frs ws j).map wD)],fun _ _ _ _ _=>rfl,⟨_,_,rfl,rfl⟩,?_,?_⟩
  ·rintro j x ρ M' hj ⟨y,hy,rfl⟩ ⟨v2,v3,rfl,rfl⟩
   obtain ⟨hj',rfl⟩:=item_map hy
   refine ⟨_,rfl,rfl,_,_,rfl,_,_,rfl,rfl,?_⟩
   refine ⟨_,rfl,ls_some ls_last,_,rfl,_,rfl,_,rfl,_,rfl,_,rfl,?_⟩
   rw [cut_map,cut_pre (Nat.le_of_lt hj')]
   refine ⟨ws[j],ws.take j,rfl,⟨by rw [List.length_take]; omega,hw _ (List.getElem_mem hj'),fun w h=>hw w (List.mem_of_mem_take h)⟩,?_⟩
   have ef:(ws.take j).filterMap (rb ws[j])=fr1 ws j:=by unfold fr1; rw [List.getElem?_eq_getElem hj']; rfl
   rw [ef]
   have l1:=frs_len lw (n:=j)
   have l2:(fr1 ws j).length<=40:=by rw [<- ef]; exact Nat.le_trans (List.length_filterMap_le _ _) (by rw [List.length_take]; omega)
   refine ⟨M.length,_,_,_,rfl,rfl,at_last,rfl,?_,.inl ⟨_,_,rfl,?_⟩⟩
   ·rw [List.length_map,List.length_map]
    exact small_line (by omega)
   ·rw [set_last,<- List.map_append]
    rfl
  ·rintro ρ M' ⟨v2,v3,rfl,rfl⟩
   rw [show (ws.map wD).length=ws.length from List.length_map _]
   exact ⟨_,rfl,.inl k⟩
theorem ok_overhangs (T:Txt mg) {C:Addr} (C_first_rests:Cal P w K mg base "first_rests" 3 ["words"] (L3.spOf ⟨C,K⟩ dFirstR)) (C_rests_between:Cal P w K mg base "rests_between" 2 ["part", "words"] (L3.spOf ⟨C,K⟩ dRests)) {f:Addr} {fd:FuncData} (F:Fun K "overhangs" "overhangs" s_overhangs f fd):FnOk P w K mg base CX0 4 f fd ["table"] (L3.spOf ⟨C,K⟩ dOverN):=by
 refine L3.Fun.ok3 F sc_overhangs (fun ds M K3 h=>?_) (fun cdv A outer s H E hr=>?_)
 ·obtain ⟨d,L,rfl,_⟩:=h
  rfl
 ·have SC:=sc_overhangs
  have hu:=hr.units
  have hu1:=hu_of hr
  have hr_first_rests:Room 3 _:=hr.mono (by first | decide | omega)
  have hr_rests_between:Room 2 _:=hr.mono (by first | decide | omega)
  refine ⟨_,_,(pss_cons (ps_comp (i:=1) SC.nd rfl rfl (T:=["sign", "word"]) (cs:=[]) rfl (CScope.ok (by kernel_rfl)) (pi_list (pv 0)) (fun _ _ _ _=>(pg_tup (n:=2) rfl (pgs_cons (pg_name (i:=0) (nd_of (by kernel_rfl)) rfl (Or.inl rfl) (Or.inr rfl)) (pgs_cons (pg_name (i:=1) (nd_of (by kernel_rfl)) rfl (Or.inl rfl) (Or.inr rfl)) pgs_nil)) (by rfl))) (fun _ _ _ _=>pts_nil) (fun _ _ _ _=>(pv 1)) (gk_tup (gks_cons (by decide) (gks_cons (by decide) gks_nil))))
 (pss_cons (ps_set (i:=2) SC.nd rfl (Or.inl rfl) pe_dnewT)
 (pss_cons (ps_set (i:=3) SC.nd rfl (Or.inl rfl) (pe_cal C_first_rests hr_first_rests rfl (pa_cons (pv 1) pa_nil)))
 (pss_cons (ps_while PassesOwn.never (pt_cmpR op_gt (pe_callB (bk_len (K:=K) rfl) (by rfl) T.b_len PySem.boot_len (pa_cons (pv 3) pa_nil)) pe_int (nomark _))
 (pss_cons (ps_set (i:=4) SC.nd rfl (Or.inl rfl) (pe_bm0 PySem.F.plainAttrs_list PySem.F.slot_list_pop PySem.F.type_list_pop mt_pop (pv 3)))
 (pss_one (ps_if (pt_cmp (pc_dnotin hu1 (pv 4) (pv 2)))
 (pss_cons (ps_dput hu1 (pv 2) (pv 4) pe_bl rfl)
 (pss_one (ps_if (pt_cmpR (L3.ux_ne (K':=K) rfl hu) (pv 4) (pe_tup pa_nil) (nomark _))
 (pss_one (ps_expr (pe_bm PySem.F.plainAttrs_list PySem.F.slot_list_extend PySem.F.type_list_extend mt_extend (pv 3) (pa_cons (pe_cal C_rests_between hr_rests_between rfl (pa_cons (pv 4) (pa_cons (pv 1) pa_nil))) pa_nil))))
 pss_nil)))
 pss_nil))))
 (pss_one (ps_ret (pe_callB (call_sortDE rfl (un_of hr)) (by rfl) T.b_sorted PyProof.Rows.boot_sorted (pa_cons (pv 2) pa_nil)))))))),fun _=>(L3.s_seq (L3.s_asg (L3.s_comp (L3.s_il (L3.s_var 0)) (L3.s_gtup (L3.s_gcons (L3.s_g 0) (L3.s_gcons (L3.s_g 1) L3.s_gnil))) L3.s_true (L3.s_var 1)) (L3.s_g 1))
 (L3.s_seq (L3.s_asg L3.s_dnewT (L3.s_g 2))
 (L3.s_seq (L3.s_asg (L3.s_call (L3.s_cons (L3.s_var 1) L3.s_nil)) (L3.s_g 3))
 (L3.s_seq (L3.s_while (L3.s_test (L3.s_op L3.s_gt (L3.s_cb L3.s_len (L3.s_cons (L3.s_var 3) L3.s_nil)) L3.s_int))
 (L3.s_seq (L3.s_asg (L3.s_pop (L3.s_var 3)) (L3.s_g 4))
 (L3.s_ifS (L3.s_b (L3.s_dnotin (L3.s_var 4) (L3.s_var 2)))
 (L3.s_seq (L3.s_dput (L3.s_var 2) (L3.s_var 4) L3.s_bl)
 (L3.s_ifS (L3.s_test (L3.s_op L3.s_ne (L3.s_var 4) (L3.s_tup L3.s_nil)))
 (L3.s_drop (L3.s_extend (L3.s_var 3) (L3.s_cons (L3.s_call (L3.s_cons (L3.s_var 4) (L3.s_cons (L3.s_var 1) L3.s_nil))) L3.s_nil)))
 L3.s_next))
 L3.s_next)))
 (L3.s_ret (L3.s_cb L3.s_sortDEC (L3.s_cons (L3.s_var 2) L3.s_nil))))))),fun ds M Kk hM hD h=>?_⟩
  obtain ⟨d,L,rfl,h⟩:=h
  obtain ⟨e1,tf,k⟩:=h
  have lL:=tf.len
  have hL:∀ p∈L,p.2.length<=4:=fun p hp=>(tf.w p hp).2
  have few:=tf.few
  refine ⟨_,rfl,_,e1,?_,fun i ys M'=>M=M'/\ys=(L.take i).map fun p=>wD p.2,fun _ _ _ _ z=>by rw [<- z.1]; exact e1,⟨rfl,rfl⟩,?_,?_⟩
  ·show (L.map pD).length<=sizeLine
   rw [List.length_map]
   exact small_line (by omega)
  ·rintro i x ys _ hi hx ⟨rfl,rfl⟩
   obtain ⟨hi',rfl⟩:=item_map hx
   refine ⟨_,rfl,rfl,_,_,rfl,_,_,rfl,rfl,_,rfl,rfl,?_⟩
   rw [List.take_succ_eq_append_getElem hi',List.map_append]
   rfl
  rintro ys _ ⟨rfl,rfl⟩
  have e:((L.take (L.map pD).length).map fun p=>wD p.2)=(L.map (·.2)).map wD:=by rw [List.length_map,List.take_length,List.map_map]; rfl
  rw [show List.map (fun p=>wD p.2) (List.take _ L)=(L.map (·.2)).map wD from e]
  have lw:(L.map (·.2)).length<=40:=by rw [List.length_map]; exact lL
  have hw:∀ w∈L.map (·.2),w.length<=4:=fun w h=>by obtain ⟨p,hp,rfl⟩:=List.mem_map.mp h; exact hL p hp
  clear tf
  generalize L.map (·.2)=ws at lw hw few k
  refine g_nx ?_
  dsimp only
  refine ⟨_,rfl,ws,rfl,⟨lw,hw⟩,?_⟩
  have el:(M++[MO.dcT []]).length=M.length + 1:=by rw [List.length_append]; rfl
  rw [el,List.append_assoc]
  refine ⟨fun m ρ' M'=>∃ (zs ps:List (List Int)) (v4:Option D),ρ'=[some d,some (.lst (ws.map wD)),some (.cell M.length),some (.cell (M.length + 1)),v4]/\M'=M++[.dcT (seen zs),.lst (ps.map wD)]/\OvSt ws zs ps/\ps.length<=1600 + 40 * zs.length/\m=(64 - zs.length) * 41 + ps.length,⟨_,[],frs ws ws.length,_,rfl,rfl,.start,?_,rfl⟩,?_⟩
  ·have:=frs_len lw (n:=ws.length)
   show _<=1600 + 0
   omega
  rintro m ρ1 M1 ⟨zs,ps,v4,rfl,rfl,st,lp,em⟩
  have zl:=few zs st.nd st.z
  refine ⟨_,rfl,?_⟩
  dsimp only [uNil]
  refine len_ls (ls_at_ two1) ⟨_,_,rfl,rfl,_,rfl,?_⟩
  have dc:∀ ps:List (List Int),dcTOf (M++[MO.dcT (seen zs),MO.lst (ps.map wD)]) (.cell M.length)=some (seen zs):=fun ps=>by simp only [dcTOf,two0]
  rcases (show ps=[]\/∃ ps' r,ps=ps'++[r] by rcases List.eq_nil_or_concat ps with h | ⟨a,b,h⟩; exact .inl h; exact .inr ⟨a,b,by rw [h,List.concat_eq_append]⟩) with rfl | ⟨ps',r,rfl⟩
  ·refine iteF ?_
   refine ⟨_,rfl,_,zs.map fun z=>(z,D.bl true),rfl,(dc _).trans (by rw [List.map_map]; rfl),⟨by rw [List.length_map]; exact zl,by rw [List.map_map]; exact (List.map_id _).symm ▸ st.nd⟩,fun rs pm pw=>?_⟩
   have em:(zs.map fun z=>(z,D.bl true)).map (·.1)=zs:=by rw [List.map_map]; exact List.map_id _
   rw [em] at pm
   exact .inl (k rs _ pw fun r=>⟨fun h=>st.z r (pm.mem_iff.mp h),fun h=>pm.mem_iff.mpr (st.all h)⟩)
  ·rw [decide_eq_true (by rw [List.length_map,List.length_append]; show (0:Int) < ((ps'.length + 1:Nat):Int); omega)]
   refine iteT ?_
   have lp':ps'.length + 1<=1600 + 40 * zs.length:=by rw [List.length_append] at lp; exact lp
   refine ⟨_,rfl,M.length + 1,_,wD r,rfl,rfl,two1,by rw [List.map_append,List.length_append]; simp,?_⟩
   rw [List.map_append,show (ps'.map wD++[r].map wD).dropLast=ps'.map wD from List.dropLast_concat,set21]
   refine ⟨_,rfl,_,rfl,_,.inr ⟨_,_,dc _,keys_wk _,rfl⟩,_,rfl,?_⟩
   rw [seen_val]
   by_cases hr:r∈zs
   ·rw [decide_eq_true hr]
    refine iteF ⟨_,?_,.inl ⟨zs,ps',_,rfl,rfl,st.old hr,by omega,rfl⟩⟩
    rw [em,List.length_append]
    show _ < _ + (ps'.length + 1)
    omega
   ·rw [decide_eq_false hr]
    refine iteT ?_
    have ovr:Ov ws r:=st.p r (List.mem_append_right _ (List.mem_singleton.mpr rfl))
    refine ⟨_,rfl,_,rfl,_,.inr ⟨M.length,_,_,rfl,two0,keys_wk _,?_,rfl⟩,?_⟩
    ·unfold seen
     rw [List.length_map]
     exact Nat.lt_of_lt_of_le zl (by decide)
    rw [set20,seen_put hr]
    refine ⟨_,rfl,Nat.zero_le _,eqv_enc (encTup encInt) (a:=r) (b:=[]) ⟨_,rfl,?_⟩⟩
    by_cases rne:r=[]
    ·have st2:=st.new hr (ms:=[]) (fun z=>absurd rne z) (fun _=>rfl)
     have zl2:=few _ st2.nd st2.z
     rw [decide_eq_true rne]
     refine iteF ⟨_,?_,.inl ⟨zs++[r],ps',_,rfl,rfl,by rw [List.append_nil] at st2; exact st2,?_,rfl⟩⟩
     ·rw [em]
      rw [List.length_append] at zl2 ⊢
      rw [List.length_append]
      have zl2:zs.length + 1 < 64:=zl2
      show (64 - (zs.length + 1)) * 41 + ps'.length < (64 - zs.length) * 41 + (ps'.length + 1)
      omega
     ·rw [List.length_append]
      show _<=1600 + 40 * (zs.length + 1)
      omega
    have st2:=st.new hr (fun _=>rfl) (fun e=>absurd e rne)
    have zl2:=few _ st2.nd st2.z
    have lm:(ws.filterMap (rb r)).length<=40:=Nat.le_trans (List.length_filterMap_le _ _) lw
    rw [decide_eq_false rne]
    refine iteT ⟨_,rfl,ls_some (ls_at_ two1),_,rfl,_,rfl,r,ws,rfl,⟨lw,ov_len hw ovr,hw⟩,M.length + 1,_,_,_,rfl,rfl,two1,rfl,?_,?_⟩
    ·rw [List.length_map,List.length_map]
     exact small_line (by omega)
    rw [set21,<- List.map_append]
    refine ⟨_,?_,.inl ⟨zs++[r],_,_,rfl,rfl,st2,?_,rfl⟩⟩
    ·rw [em]
     rw [List.length_append] at zl2 ⊢
     rw [List.length_append,List.length_append]
     have zl2:zs.length + 1 < 64:=zl2
     show (64 - (zs.length + 1)) * 41 + (ps'.length + _) < (64 - zs.length) * 41 + (ps'.length + 1)
     omega
    ·rw [List.length_append,List.length_append]
     show _<=1600 + 40 * (zs.length + 1)
     omega
open L3
inductive A4 where
 | i (n:Int) | non | a | sa
 deriving DecidableEq
def a4D:A4->D
 | .i n=>.int n
 | .non=>.non
 | .a=>.str "a"
 | .sa=>.tup [.int 7,.str "a"]
def a4P:A4->PyData
 | .i n=>.int n
 | .non=>.none
 | .a=>.str "a"
 | .sa=>.tuple [.int 7,.str "a"]
def encA:Enc A4 where
 e:=a4D
 py:=a4P
 n:=1
 ok:=fun M x=>by
  cases x with
  | i n=>exact .int n
  | non=>exact .non
  | a=>exact .str _
  | sa=>exact .tup (.cons (.int 7) (.cons (.str _) .nil))
 shp:=fun x=>by
  have hs:(PyData.str "a").canLay0=true:=by simp only [PyData.canLay0]; decide +kernel
  cases x with
  | i n=>exact ⟨(shp_int n).1,Nat.le_trans (shp_int n).2 (Nat.zero_le _)⟩
  | non=>exact ⟨by simp only [a4P,PyData.canLay0],by simp only [a4P,PyData.depth]; decide⟩
  | a=>exact ⟨hs,by simp only [a4P,PyData.depth]; decide⟩
  | sa =>
   refine shp_tuple (n:=0) fun d hd=>?_
   rcases List.mem_cons.mp hd with z | hd
   ·rw [z]; exact shp_int 7
   ·rw [List.mem_singleton.mp hd]; exact ⟨hs,by simp only [PyData.depth]; decide⟩
 eq:=fun x y=>by
  cases x <;> cases y <;> simp [a4P,PyData.eqv,PyData.eqvAll,Bool.beq_eq_decide_eq]
 hn:=by decide
def encM:Enc (List A4):=encTup encA
def iw (w:List Int):List A4:=w.map A4.i
def iw_e (w:List Int):encM.e (iw w)=wD w:=by
 show D.tup ((w.map A4.i).map a4D)=D.tup (w.map .int)
 rw [List.map_map]
 rfl
def iws {ws:List (List Int)}:(ws.map iw).map encM.e=ws.map wD:=by
 rw [List.map_map]
 exact List.map_congr_left fun w _=>iw_e w
def dShowsN:Sp3:=fun ds M K=>∃ (d e:D) (L:List Pr) (us:List (List A4)),ds=[d,e]/\lstOf M d=some (L.map pD)/\lstOf M e=some (us.map encM.e)/\Tf L/\∀ b:Bool,(b=true↔¬ Ov (L.map (·.2)) []/\∀ r,Ov (L.map (·.2)) r->iw r∈us)->K (.bl b) M
theorem ok_shows_one_way (T:Txt mg) {C:Addr} (C_overhangs:Cal P w K mg base "overhangs" 4 ["table"] (L3.spOf ⟨C,K⟩ dOverN)) {f:Addr} {fd:FuncData} (F:Fun K "shows_one_way" "shows_one_way" s_shows_one_way f fd):FnOk P w K mg base CX0 5 f fd ["table", "some"] (L3.spOf ⟨C,K⟩ dShowsN):=by
 refine L3.Fun.ok3 F sc_shows_one_way (fun ds M K3 h=>?_) (fun cdv A outer s H E hr=>?_)
 ·obtain ⟨d,e,L,us,rfl,_⟩:=h
  rfl
 ·have SC:=sc_shows_one_way
  have hu:=hr.units
  have hu1:=hu_of hr
  have hr_overhangs:Room 4 _:=hr.mono (by first | decide | omega)
  refine ⟨_,_,(pss_cons (ps_set (i:=2) SC.nd rfl (Or.inl rfl) (pe_cal C_overhangs hr_overhangs rfl (pa_cons (pv 0) pa_nil)))
 (pss_one (ps_ret (pe_and (pe_cmpR (L3.ux_notinD (K':=K) rfl hu) (pe_tup pa_nil) (pv 2) rfl) (pe_one (pe_callB (L3.bk_all (K:=K) rfl rfl) (by rfl) T.b_all PyProof.Rows.boot_all (pa_cons (pe_comp (T:=["rest"]) (cs:=[1]) rfl (CScope.ok (by kernel_rfl)) (pi_list (pv 2)) (fun _ _ _ _=>(pg_name (i:=0) (nd_of (by kernel_rfl)) rfl (Or.inl rfl) (Or.inr rfl))) (fun _ _ _ _=>pts_nil) (fun _ _ _ _=>(pe_cmpR (L3.ux_inD (K':=K) rfl hu) (pv 0) (pv 1) rfl)) (gk_name (by decide))) pa_nil))))))),fun _=>(L3.s_seq (L3.s_asg (L3.s_call (L3.s_cons (L3.s_var 0) L3.s_nil)) (L3.s_g 2))
 (L3.s_ret (L3.s_andV (L3.s_op L3.s_notinD (L3.s_tup L3.s_nil) (L3.s_var 2)) (L3.s_cb L3.s_all (L3.s_cons (L3.s_comp (L3.s_il (L3.s_var 2)) (L3.s_g 0) L3.s_true (L3.s_op L3.s_inD (L3.s_var 0) (L3.s_var 1))) L3.s_nil))))),fun ds M Kk hM hD h=>?_⟩
  obtain ⟨d,e,L,us,rfl,h⟩:=h
  obtain ⟨e1,e2,tf,k⟩:=h
  refine ⟨_,rfl,d,L,rfl,e1,tf,fun rs J pw hrs=>?_⟩
  have ndr:rs.Nodup:=pw.imp fun {a b} h e=>by rw [e,lex_irr] at h; cases h
  have lr:rs.length < 64:=tf.few rs ndr fun z hz=>(hrs z).mp hz
  refine g_nx ?_
  have hl:lstOf (M++J++[MO.lst (rs.map wD)]) (.cell (M++J).length)=some (rs.map wD):=lst_last
  refine ⟨Nat.zero_le _,_,rfl,notin_enc (encTup encInt) (xs:=rs) (t:=[]) ((encTup encInt).ok _ []) hl fun b hb=>?_⟩
  refine ⟨_,rfl,?_⟩
  cases b with
  | true =>
   refine iteF ?_
   exact dk_drop pre2 hM below_bl (k false ⟨(fun z=>nomatch z),fun h=>absurd ((hrs []).mp (hb.mp rfl)) h.1⟩)
  | false =>
   have no:[]∉rs:=fun h=>nomatch hb.mpr h
   have e2':lstOf (M++J++[MO.lst (rs.map wD)]) e=some (us.map encM.e):=by
    rw [List.append_assoc]
    exact lst_up e2
   refine iteT ?_
   refine ⟨_,rfl,_,hl,?_,fun i ys M'=>M++J++[MO.lst (rs.map wD)]=M'/\∃ bs:List Bool,ys=bs.map D.bl/\bs.length=i/\((∀ b∈bs,b=true)↔∀ r∈rs.take i,iw r∈us),fun _ _ _ _ z=>by rw [<- z.1]; exact hl,⟨rfl,[],rfl,rfl,⟨(fun _ _ h=>nomatch h),fun _ _ h=>nomatch h⟩⟩,?_,?_⟩
   ·show (rs.map wD).length<=sizeLine
    rw [List.length_map]
    exact small_line (by omega)
   ·rintro i x ys _ hi hx ⟨rfl,bs,rfl,lb,hb⟩
    obtain ⟨hi',rfl⟩:=item_map hx
    refine ⟨_,rfl,_,rfl,in_enc encM (xs:=us) (t:=iw rs[i]) (by have:=encM.ok (M++J++[MO.lst (rs.map wD)]) (iw rs[i]); rw [iw_e] at this; exact this) e2' fun b hb2=>⟨rfl,bs++[b],by rw [List.map_append]; rfl,by rw [List.length_append,lb]; rfl,?_⟩⟩
    rw [List.take_succ_eq_append_getElem hi']
    refine ⟨fun h r hr=>?_,fun h c hc=>?_⟩
    ·rcases List.mem_append.mp hr with z | z
     ·exact hb.mp (fun b hb=>h b (List.mem_append_left _ hb)) r z
     ·rw [List.mem_singleton.mp z]; exact hb2.mp (h b (List.mem_append_right _ (List.mem_singleton.mpr rfl)))
    ·rcases List.mem_append.mp hc with z | z
     ·exact hb.mpr (fun r hr=>h r (List.mem_append_left _ hr)) c z
     ·rw [List.mem_singleton.mp z]; exact hb2.mpr (h _ (List.mem_append_right _ (List.mem_singleton.mpr rfl)))
   rintro ys _ ⟨rfl,bs,rfl,lb,hb⟩
   have e:rs.take (rs.map wD).length=rs:=by rw [List.length_map,List.take_length]
   rw [show List.take _ rs=rs from e] at hb
   refine ⟨_,bs,rfl,rfl,dk_drop pre2 hM below_bl (k _ ⟨fun h=>⟨fun o=>no ((hrs []).mpr o),fun r o=>hb.mp (fun b hb=>List.all_eq_true.mp h b hb) r ((hrs r).mpr o)⟩,fun h=>List.all_eq_true.mpr fun b hb'=>hb.mpr (fun r hr=>h.2 r ((hrs r).mp hr)) b hb'⟩)⟩
open L3
def dRest2:Sp3:=fun ds M K=>∃ a b:List Int,ds=[wD a,wD b]/\(a.length<=1000/\b.length<=1000)/\K (.lst ((rs2 a b).map wD)) M
def dClose:Sp3:=fun ds M K=>∃ (L:List Pr),ds=[.lst (L.map pD)]/\Tf L/\∀ (rs:List (List Int)),rs.Pairwise (fun a b=>HT.lexLt a b=true)->(∀ r,r∈rs↔Ov (L.map (·.2)) r)->K (.lst (rs.map wD)) M
theorem ok__law_rest (T:Txt mg) {C:Addr}  {f:Addr} {fd:FuncData} (F:Fun K "_law_rest" "_law_rest" s__law_rest f fd):FnOk P w K mg base CX0 1 f fd ["_law_longer", "_law_shorter"] (L3.spOf ⟨C,K⟩ dRest2):=by
 refine L3.Fun.ok3 F sc__law_rest (fun ds M K3 h=>?_) (fun cdv A outer s H E hr=>?_)
 ·obtain ⟨a,b,rfl,_⟩:=h
  rfl
 ·have SC:=sc__law_rest
  have hu:=hr.units
  have hu1:=hu_of hr
  refine ⟨_,_,(pss_cons (ps_if (pt_cmpR (L3.ux_eq (K':=K) rfl hu) (pe_slice (L3.ux_sl (K':=K) rfl) (pv 0) po_none (po_some (pe_callB (bk_len (K:=K) rfl) (by rfl) T.b_len PySem.boot_len (pa_cons (pv 1) pa_nil)))) (pv 1) (nomark _))
 (pss_one (ps_ret (pe_lst (pa_cons (pe_slice (L3.ux_sl (K':=K) rfl) (pv 0) (po_some (pe_callB (bk_len (K:=K) rfl) (by rfl) T.b_len PySem.boot_len (pa_cons (pv 1) pa_nil))) po_none) pa_nil))))
 pss_nil)
 (pss_one (ps_ret (pe_lst pa_nil)))),fun _=>(L3.s_seq (L3.s_ifS (L3.s_test (L3.s_op L3.s_eq (L3.s_sl L3.s_sl3 (L3.s_var 0) L3.s_noPart (L3.s_part (L3.s_cb L3.s_len (L3.s_cons (L3.s_var 1) L3.s_nil)))) (L3.s_var 1)))
 (L3.s_ret (L3.s_lst (L3.s_cons (L3.s_sl L3.s_sl3 (L3.s_var 0) (L3.s_part (L3.s_cb L3.s_len (L3.s_cons (L3.s_var 1) L3.s_nil))) L3.s_noPart) L3.s_nil)))
 L3.s_next)
 (L3.s_ret (L3.s_lst L3.s_nil))),fun ds M Kk hM hD h=>?_⟩
  obtain ⟨a,b,rfl,h⟩:=h
  obtain ⟨⟨la,lb⟩,k⟩:=h
  have e1:cut a none (some (b.length:Int))=a.take b.length:=by
   unfold cut
   rw [HT.sIx_nat,HT.sIx_none,List.drop_zero,Nat.sub_zero]
   by_cases h:b.length<=a.length
   ·rw [Nat.min_eq_left h]
   ·rw [Nat.min_eq_right (by omega),List.take_length,List.take_of_length_le (by omega)]
  refine ⟨_,rfl,_,rfl,_,rfl,_,rfl,_,rfl,?_⟩
  show eqV (.tup (cut (a.map .int) none (some ((b.map D.int).length:Int)))) (wD b) M _
  rw [cut_map,List.length_map,e1]
  refine eqv_enc (encTup encInt) (a:=a.take b.length) (b:=b) ⟨_,rfl,?_⟩
  unfold rs2 at k
  by_cases e:a.take b.length=b
  ·rw [decide_eq_true e]
   rw [if_pos e] at k
   have hl:b.length<=a.length:=by
    have:=congrArg List.length e
    rw [List.length_take] at this
    omega
   have e2:cut a (some (b.length:Int)) none=a.drop b.length:=by
    unfold cut
    rw [HT.sIx_nat,HT.sIx_none,Nat.min_eq_left hl]
    exact List.take_of_length_le (by rw [List.length_drop]; exact Nat.le_refl _)
   refine iteT ⟨_,rfl,_,rfl,_,rfl,_,rfl,?_⟩
   show _/\Dk M.length Kk (.lst [.tup (cut (a.map .int) (some ((b.map D.int).length:Int)) none)]) M
   rw [cut_map,List.length_map,e2]
   exact ⟨(show 1<=sizeLine by decide),.inl k⟩
  ·rw [decide_eq_false e]
   rw [if_neg e] at k
   exact iteF ⟨Nat.zero_le _,.inl k⟩
theorem ok__law_closing (T:Txt mg) {C:Addr} (C__law_rest:Cal P w K mg base "_law_rest" 1 ["_law_longer", "_law_shorter"] (L3.spOf ⟨C,K⟩ dRest2)) {f:Addr} {fd:FuncData} (F:Fun K "_law_closing" "_law_closing" s__law_closing f fd):FnOk P w K mg base CX0 2 f fd ["_law_table"] (L3.spOf ⟨C,K⟩ dClose):=by
 refine L3.Fun.ok3 F sc__law_closing (fun ds M K3 h=>?_) (fun cdv A outer s H E hr=>?_)
 ·obtain ⟨L,rfl,_⟩:=h
  rfl
 ·have SC:=sc__law_closing
  have hu:=hr.units
  have hu1:=hu_of hr
  have hr__law_rest:Room 1 _:=hr.mono (by first | decide | omega)
  refine ⟨_,_,(pss_cons (ps_set (i:=1) SC.nd rfl (Or.inl rfl) (pe_lst pa_nil))
 (pss_cons (ps_for PassesOwn.never rfl (pi_range1 rfl T.b_range (pa_cons (pe_callB (bk_len (K:=K) rfl) (by rfl) T.b_len PySem.boot_len (pa_cons (pv 0) pa_nil)) pa_nil)) (pg_name (i:=2) SC.nd rfl (Or.inl rfl))
 (pss_one (ps_for PassesOwn.never rfl (pi_range1 rfl T.b_range (pa_cons (pe_callB (bk_len (K:=K) rfl) (by rfl) T.b_len PySem.boot_len (pa_cons (pv 0) pa_nil)) pa_nil)) (pg_name (i:=3) SC.nd rfl (Or.inl rfl))
 (pss_one (ps_if (pt_cmpR (L3.ux_ne (K':=K) rfl hu) (pv 2) (pv 3) (nomark _))
 (pss_one (ps_set (i:=1) SC.nd rfl (Or.inl rfl) (pe_op (L3.ux_add (K':=K) rfl) (pv 1) (pe_cal C__law_rest hr__law_rest rfl (pa_cons (pe_ix (L3.ux_ix (K':=K) rfl) (pe_ix (L3.ux_ix (K':=K) rfl) (pv 0) (pv 2) (fun _ _=>rfl)) pe_int (fun _ _=>rfl)) (pa_cons (pe_ix (L3.ux_ix (K':=K) rfl) (pe_ix (L3.ux_ix (K':=K) rfl) (pv 0) (pv 3) (fun _ _=>rfl)) pe_int (fun _ _=>rfl)) pa_nil))))))
 pss_nil)))))
 (pss_cons (ps_set (i:=4) SC.nd rfl (Or.inl rfl) pe_bl)
 (pss_cons (ps_while PassesOwn.never (pt_val (pv 4))
 (pss_cons (ps_set (i:=4) SC.nd rfl (Or.inl rfl) pe_bl)
 (pss_one (ps_for PassesOwn.never rfl (pi_list (pe_callTy (bk_list (K:=K) rfl) (by rfl) T.b_list PyProof.Rows.boot_list (pa_cons (pv 1) pa_nil))) (pg_name (i:=5) SC.nd rfl (Or.inl rfl))
 (pss_one (ps_for PassesOwn.never rfl (pi_list (pv 0)) (pg_tup (n:=2) rfl (pgs_cons (pg_name (i:=6) SC.nd rfl (Or.inl rfl)) (pgs_cons (pg_name (i:=7) SC.nd rfl (Or.inl rfl)) pgs_nil)) (by rfl))
 (pss_one (ps_if (pt_cmpR (L3.ux_ne (K':=K) rfl hu) (pv 5) (pe_tup pa_nil) (nomark _))
 (pss_one (ps_for PassesOwn.never rfl (pi_list (pe_op (L3.ux_add (K':=K) rfl) (pe_cal C__law_rest hr__law_rest rfl (pa_cons (pv 7) (pa_cons (pv 5) pa_nil))) (pe_cal C__law_rest hr__law_rest rfl (pa_cons (pv 5) (pa_cons (pv 7) pa_nil))))) (pg_name (i:=8) SC.nd rfl (Or.inl rfl))
 (pss_one (ps_if (pt_cmpR (L3.ux_notinD (K':=K) rfl hu) (pv 8) (pv 1) rfl)
 (pss_cons (ps_expr (pe_bm PySem.F.plainAttrs_list PySem.F.slot_list_append PySem.F.type_list_append mt_append (pv 1) (pa_cons (pv 8) pa_nil)))
 (pss_one (ps_set (i:=4) SC.nd rfl (Or.inl rfl) pe_bl)))
 pss_nil))))
 pss_nil))))))))
 (pss_one (ps_ret (pe_callB (call_sortS rfl (un_of hr)) (by rfl) T.b_sorted PyProof.Rows.boot_sorted (pa_cons (pe_callTy (call_setR rfl (un_of hr)) (by rfl) T.b_set PyProof.Rows.boot_set (pa_cons (pv 1) pa_nil)) pa_nil)))))))),fun _=>(L3.s_seq (L3.s_asg (L3.s_lstC L3.s_nil) (L3.s_g 1))
 (L3.s_seq (L3.s_for (L3.s_ir1 (L3.s_cons (L3.s_cb L3.s_len (L3.s_cons (L3.s_var 0) L3.s_nil)) L3.s_nil)) (L3.s_g 2)
 (L3.s_for (L3.s_ir1 (L3.s_cons (L3.s_cb L3.s_len (L3.s_cons (L3.s_var 0) L3.s_nil)) L3.s_nil)) (L3.s_g 3)
 (L3.s_ifS (L3.s_test (L3.s_op L3.s_ne (L3.s_var 2) (L3.s_var 3)))
 (L3.s_asg (L3.s_op L3.s_addC (L3.s_var 1) (L3.s_call (L3.s_cons (L3.s_op L3.s_ix (L3.s_op L3.s_ix (L3.s_var 0) (L3.s_var 2)) L3.s_int) (L3.s_cons (L3.s_op L3.s_ix (L3.s_op L3.s_ix (L3.s_var 0) (L3.s_var 3)) L3.s_int) L3.s_nil)))) (L3.s_g 1))
 L3.s_next)))
 (L3.s_seq (L3.s_asg L3.s_bl (L3.s_g 4))
 (L3.s_seq (L3.s_while (L3.s_b (L3.s_var 4))
 (L3.s_seq (L3.s_asg L3.s_bl (L3.s_g 4))
 (L3.s_for (L3.s_il (L3.s_cb L3.s_list (L3.s_cons (L3.s_var 1) L3.s_nil))) (L3.s_g 5)
 (L3.s_for (L3.s_il (L3.s_var 0)) (L3.s_gtup (L3.s_gcons (L3.s_g 6) (L3.s_gcons (L3.s_g 7) L3.s_gnil)))
 (L3.s_ifS (L3.s_test (L3.s_op L3.s_ne (L3.s_var 5) (L3.s_tup L3.s_nil)))
 (L3.s_for (L3.s_il (L3.s_op L3.s_add (L3.s_call (L3.s_cons (L3.s_var 7) (L3.s_cons (L3.s_var 5) L3.s_nil))) (L3.s_call (L3.s_cons (L3.s_var 5) (L3.s_cons (L3.s_var 7) L3.s_nil))))) (L3.s_g 8)
 (L3.s_ifS (L3.s_test (L3.s_op L3.s_notinD (L3.s_var 8) (L3.s_var 1)))
 (L3.s_seq (L3.s_drop (L3.s_append (L3.s_var 1) (L3.s_cons (L3.s_var 8) L3.s_nil)))
 (L3.s_asg L3.s_bl (L3.s_g 4)))
 L3.s_next))
 L3.s_next)))))
 (L3.s_ret (L3.s_sortSet rfl (L3.s_cons (L3.s_var 1) L3.s_nil))))))),fun ds M Kk hM hD h=>?_⟩
  obtain ⟨L,rfl,h⟩:=h
  obtain ⟨tf,k⟩:=h
  have hn:(L.map pD).length=L.length:=List.length_map _
  have lL:=tf.len
  have hw:∀ w∈L.map (·.2),w≠[]/\w.length<=4:=tf.words.2
  have few:=tf.few
  have atw:∀ {i:Nat} {a:List Int},(L.map (·.2))[i]?=some a->∃ hi:i < L.length,L[i].2=a:=fun {i a} h=>by
   obtain ⟨hi,e⟩:=List.getElem?_eq_some_iff.mp h
   rw [List.getElem_map] at e
   exact ⟨by simpa using hi,e⟩
  refine ⟨Nat.zero_le _,?_⟩
  refine g_nx ?_
  dsimp only
  refine st_by (fun ρ' M'=>∃ (ks:List (List Int)) (J:List MO) (v2 v3:Option D),ρ'=[some (.lst (L.map pD)),some (.cell (M++J).length),v2,v3,none,none,none,none,none]/\M'=M++J++[.lst (ks.map wD)]/\((∀ r∈ks,Ov (L.map (·.2)) r)/\ks.length<=1600)/\∀ {i j:Nat} {a b r:List Int},i≠j->(L.map (·.2))[i]?=some a->(L.map (·.2))[j]?=some b->a=b++r->r∈ks) (fun Kn hn2=>?_) ?_
  ·refine ⟨_,rfl,_,rfl,_,rfl,⟨by omega,by omega⟩,fun i ρ' M'=>∃ (ks:List (List Int)) (J:List MO) (v2 v3:Option D),ρ'=[some (.lst (L.map pD)),some (.cell (M++J).length),v2,v3,none,none,none,none,none]/\M'=M++J++[.lst (ks.map wD)]/\((∀ r∈ks,Ov (L.map (·.2)) r)/\ks.length<=40 * i)/\∀ {i' j:Nat} {a b r:List Int},i' < i->i'≠j->(L.map (·.2))[i']?=some a->(L.map (·.2))[j]?=some b->a=b++r->r∈ks,fun _ _ _ _ _=>trivial,⟨[],[],_,_,by rw [List.append_nil]; rfl,by rw [List.append_nil]; rfl,⟨(fun _ h=>nomatch h),Nat.le_refl _⟩,fun h=>absurd h (Nat.not_lt_zero _)⟩,?_,?_⟩
   ·rintro i x ρ' M' hi rfl ⟨ks,J,v2,v3,rfl,rfl,⟨ov,lk⟩,cov⟩
    have hi:i < L.length:=by
     have:i < ((L.map pD).length:Int).toNat:=hi
     omega
    refine g_nx ?_
    refine ⟨_,rfl,_,rfl,_,rfl,⟨by omega,by omega⟩,fun j ρ' M'=>∃ (ks:List (List Int)) (J:List MO) (v3:Option D),ρ'=[some (.lst (L.map pD)),some (.cell (M++J).length),some (.int i),v3,none,none,none,none,none]/\M'=M++J++[.lst (ks.map wD)]/\((∀ r∈ks,Ov (L.map (·.2)) r)/\ks.length<=40 * i + j)/\(∀ {i' j:Nat} {a b r:List Int},i' < i->i'≠j->(L.map (·.2))[i']?=some a->(L.map (·.2))[j]?=some b->a=b++r->r∈ks)/\∀ {j':Nat} {a b r:List Int},j' < j->i≠j'->(L.map (·.2))[i]?=some a->(L.map (·.2))[j']?=some b->a=b++r->r∈ks,fun _ _ _ _ _=>trivial,⟨ks,J,v3,by simp,rfl,⟨ov,lk⟩,cov,fun h=>absurd h (Nat.not_lt_zero _)⟩,?_,?_⟩
    ·rintro j x ρ' M' hj rfl ⟨ks,J,v3,rfl,rfl,⟨ov,lk⟩,cov,cov2⟩
     have hj:j < L.length:=by
      have:j < ((L.map pD).length:Int).toNat:=hj
      omega
     refine g_nx ?_
     refine ⟨_,rfl,_,rfl,eqv_enc encInt (a:=_) (b:=_) ⟨_,rfl,?_⟩⟩
     have wi:(L.map (·.2))[i]?=some L[i].2:=by rw [List.getElem?_map,List.getElem?_eq_getElem hi]; rfl
     have wj:(L.map (·.2))[j]?=some L[j].2:=by rw [List.getElem?_map,List.getElem?_eq_getElem hj]; rfl
     by_cases e:i=j
     ·rw [decide_eq_true (by omega)]
      refine iteF (.inl ⟨ks,J,_,rfl,rfl,⟨ov,by omega⟩,cov,fun {j' a b r} hj' hne=>cov2 (by omega) hne⟩)
     ·rw [decide_eq_false (by omega)]
      have l1:=(tf.w _ (List.getElem_mem hi)).2
      have l2:=(tf.w _ (List.getElem_mem hj)).2
      have lr:(rs2 L[i].2 L[j].2).length<=1:=by unfold rs2; split <;> simp
      refine iteT ⟨_,rfl,_,rfl,_,rfl,_,_,_,rfl,rfl,atI_map (f:=pD) (as:=L) (j:=i) (by omega) hi,_,_,_,rfl,rfl,rfl,_,rfl,_,rfl,_,_,_,rfl,rfl,atI_map (f:=pD) (as:=L) (j:=j) (by omega) hj,_,_,_,rfl,rfl,rfl,L[i].2,L[j].2,rfl,⟨by omega,by omega⟩,_,_,ls_last,rfl,?_,.inl ⟨ks++rs2 L[i].2 L[j].2,J++[.lst (ks.map wD)],_,by rw [<- List.append_assoc]; rfl,by rw [<- List.append_assoc,List.map_append],⟨fun r hr=>?_,by rw [List.length_append]; omega⟩,fun h hne g1 g2 g3=>List.mem_append_left _ (cov h hne g1 g2 g3),fun {j' a b r} hj' hne g1 g2 g3=>?_⟩⟩
      ·rw [List.length_map,List.length_map]
       exact small_line (by omega)
      ·rcases List.mem_append.mp hr with z | z
       ·exact ov r z
       ·exact Ov.pair e wi wj (rb_iff.mpr (.inl (mem_rs2.mp z)))
      ·by_cases ej:j'=j
       ·subst ej
        rw [wi] at g1
        rw [wj] at g2
        cases g1
        cases g2
        exact List.mem_append_right _ (mem_rs2.mpr g3)
       ·exact List.mem_append_left _ (cov2 (by omega) hne g1 g2 g3)
    ·rintro ρ' M' ⟨ks,J,v3,rfl,rfl,⟨ov,lk⟩,cov,cov2⟩
     have lk:ks.length<=40 * i + ((L.map pD).length:Int).toNat:=lk
     refine .inl ⟨ks,J,_,_,rfl,rfl,⟨ov,by omega⟩,fun {i' j a b r} hi' hne g1 g2 g3=>?_⟩
     by_cases ei:i'=i
     ·subst ei
      obtain ⟨hj,_⟩:=atw g2
      exact cov2 (by show j < ((L.map pD).length:Int).toNat; omega) hne g1 g2 g3
     ·exact cov (by omega) hne g1 g2 g3
   ·rintro ρ' M' ⟨ks,J,v2,v3,rfl,rfl,⟨ov,lk⟩,cov⟩
    have lk:ks.length<=40 * ((L.map pD).length:Int).toNat:=lk
    refine hn2 _ _ ⟨ks,J,_,_,rfl,rfl,⟨ov,by omega⟩,fun {i j a b r} hne g1 g2 g3=>?_⟩
    obtain ⟨hi,_⟩:=atw g1
    exact cov (by show i < ((L.map pD).length:Int).toNat; omega) hne g1 g2 g3
  rintro _ _ ⟨fs,J,v2,v3,rfl,rfl,⟨ovf,lf⟩,cov⟩
  refine g_nx ?_
  dsimp only
  have hmem:∀ {j:Nat} (hj:j < L.length),L[j].2∈L.map (·.2):=fun hj=>List.mem_map_of_mem (List.getElem_mem hj)
  refine ⟨fun m ρ' M'=>∃ (ns:List (List Int)) (b:Bool) (v5 v6 v7 v8:Option D),ρ'=[some (.lst (L.map pD)),some (.cell (M++J).length),v2,v3,some (.bl b),v5,v6,v7,v8]/\M'=M++J++[.lst ((fs++ns).map wD)]/\(ns.Nodup/\∀ z∈fs++ns,Ov (L.map (·.2)) z)/\(b=false->∀ z∈fs++ns,z≠[]->∀ w∈L.map (·.2),∀ q,rb z w=some q->q∈fs++ns)/\m=(64 - ns.length) * 2 + (if b=true then 1 else 0),⟨_,[],true,_,_,_,_,rfl,by rw [List.append_nil],⟨List.nodup_nil,by rw [List.append_nil]; exact ovf⟩,(fun z=>nomatch z),rfl⟩,?_⟩
  rintro m ρ1 M1 ⟨ns,b,v5,v6,v7,v8,rfl,rfl,⟨nd,ov⟩,cl,em⟩
  refine ⟨_,rfl,_,rfl,?_⟩
  have zl:=few ns nd fun z hz=>ov z (List.mem_append_right _ hz)
  cases b with
  | false =>
   refine iteF ⟨_,rfl,_,fs++ns,rfl,lst_last,fun zs nd hz=>few zs nd fun z h=>ov z (hz z h),fun us pw hus=>dk_drop pre2 hM (below_lst (below_map (fun _=>below_w) us)) (k us pw fun r=>⟨fun h=>ov r ((hus r).mp h),fun h=>(hus r).mpr (cl_all (fun hne g1 g2 e=>List.mem_append_left _ (cov hne g1 g2 e)) (cl rfl) h)⟩)⟩
  | true =>
   have em:m=(64 - ns.length) * 2 + 1:=em
   refine iteT ?_
   refine g_nx ?_
   refine ⟨_,rfl,_,_,rfl,(show seqOf _ (.cell _)=some ((fs++ns).map wD) from lst_last),_,rfl,fun i ρ' M'=>∃ (ms:List (List Int)) (b:Bool) (v5 v6 v7 v8:Option D),ρ'=[some (.lst (L.map pD)),some (.cell (M++J).length),v2,v3,some (.bl b),v5,v6,v7,v8]/\M'=M++J++[.lst ((fs++ms).map wD)]/\ClSt (L.map (·.2)) fs ns ms b/\∀ z∈(fs++ns).take i,z≠[]->∀ w∈L.map (·.2),∀ q,rb z w=some q->q∈fs++ms,fun _ _ _ _ _=>rfl,⟨ns,false,_,_,_,_,rfl,rfl,⟨nd,ov,Nat.le_refl _,fun _=>rfl,fun z=>nomatch z⟩,fun _ h=>nomatch h⟩,?_,?_⟩
   ·rintro i x ρ' M' hi hx ⟨ms,b,v5,v6,v7,v8,rfl,rfl,st,c1⟩
    obtain ⟨hi',rfl⟩:=item_map hx
    have hz:(fs++ns)[i]∈fs++ns:=List.getElem_mem hi'
    have et:(fs++ns).take (i + 1)=(fs++ns).take i++[(fs++ns)[i]]:=List.take_succ_eq_append_getElem hi'
    generalize (fs++ns)[i]=z at hz et
    refine g_nx ?_
    refine ⟨_,rfl,_,rfl,fun j ρ' M'=>∃ (ms:List (List Int)) (b:Bool) (v6 v7 v8:Option D),ρ'=[some (.lst (L.map pD)),some (.cell (M++J).length),v2,v3,some (.bl b),some (wD z),v6,v7,v8]/\M'=M++J++[.lst ((fs++ms).map wD)]/\ClSt (L.map (·.2)) fs ns ms b/\(∀ z∈(fs++ns).take i,z≠[]->∀ w∈L.map (·.2),∀ q,rb z w=some q->q∈fs++ms)/\(z≠[]->∀ p∈L.take j,∀ q,rb z p.2=some q->q∈fs++ms),fun _ _ _ _ _=>rfl,⟨ms,b,_,_,_,rfl,rfl,st,c1,fun _ _ h=>nomatch h⟩,?_,?_⟩
    ·rintro j x ρ' M' hj hx ⟨ms,b,v6,v7,v8,rfl,rfl,st,c1,c2⟩
     obtain ⟨hj',rfl⟩:=item_map hx
     have hw':=hw _ (hmem hj')
     have hm':=hmem hj'
     have et2:L.take (j + 1)=L.take j++[L[j]]:=List.take_succ_eq_append_getElem hj'
     generalize L[j]=p at hw' hm' et2
     refine ⟨_,rfl,rfl,_,_,rfl,_,_,rfl,rfl,?_⟩
     refine ⟨_,rfl,Nat.zero_le _,eqv_enc (encTup encInt) (a:=z) (b:=[]) ⟨_,rfl,?_⟩⟩
     by_cases ez:z=[]
     ·rw [decide_eq_true ez]
      exact iteF (.inl ⟨ms,b,_,_,_,rfl,rfl,st,c1,fun h=>absurd ez h⟩)
     rw [decide_eq_false ez]
     have ovz:=ov z hz
     have lz:=ov_len (fun w h=>(hw w h).2) ovz
     have lq:(rs2 p.2 z++rs2 z p.2).length<=2:=by
      rw [List.length_append]
      unfold rs2
      split <;> split <;> simp
     have mq:∀ q,q∈rs2 p.2 z++rs2 z p.2↔rb z p.2=some q:=fun q=>by rw [mem_rs22,rb_comm]
     have eqs:(rs2 p.2 z).map wD++(rs2 z p.2).map wD=(rs2 p.2 z++rs2 z p.2).map wD:=List.map_append.symm
     refine iteT ⟨_,rfl,_,rfl,p.2,z,rfl,⟨by omega,by omega⟩,_,rfl,_,rfl,z,p.2,rfl,⟨by omega,by omega⟩,_,_,rfl,rfl,?_,(rs2 p.2 z++rs2 z p.2).map wD,congrArg some eqs,?_⟩
     ·rw [List.length_map,List.length_map,<- List.length_append]
      exact small_line (by omega)
     generalize rs2 p.2 z++rs2 z p.2=qs at lq mq eqs
     refine ⟨fun t ρ' M'=>∃ (ms:List (List Int)) (b:Bool) (v8:Option D),ρ'=[some (.lst (L.map pD)),some (.cell (M++J).length),v2,v3,some (.bl b),some (wD z),some (.int p.1),some (wD p.2),v8]/\M'=M++J++[.lst ((fs++ms).map wD)]/\ClSt (L.map (·.2)) fs ns ms b/\(∀ z∈(fs++ns).take i,z≠[]->∀ w∈L.map (·.2),∀ q,rb z w=some q->q∈fs++ms)/\(z≠[]->∀ p∈L.take j,∀ q,rb z p.2=some q->q∈fs++ms)/\∀ q∈qs.take t,q∈fs++ms,fun _ _ _ _ _=>congrArg some eqs,⟨ms,b,_,rfl,rfl,st,c1,c2,fun _ h=>nomatch h⟩,?_,?_⟩
     ·rintro t x ρ' M' ht hx ⟨ms,b,v8,rfl,rfl,st,c1,c2,c3⟩
      obtain ⟨ht',rfl⟩:=item_map hx
      have hq:qs[t]∈qs:=List.getElem_mem ht'
      have et3:qs.take (t + 1)=qs.take t++[qs[t]]:=List.take_succ_eq_append_getElem ht'
      generalize qs[t]=q at hq et3
      have ovq:Ov (L.map (·.2)) q:=.more ovz ez hm' ((mq q).mp hq)
      have ml:=few ms st.nd fun z hz=>st.ov z (List.mem_append_right _ hz)
      refine g_nx ?_
      refine ⟨_,rfl,_,rfl,notin_enc (encTup encInt) (xs:=fs++ms) (t:=q) ((encTup encInt).ok _ q) lst_last fun c hc=>⟨_,rfl,?_⟩⟩
      cases c with
      | true =>
       refine iteF (.inl ⟨ms,b,_,rfl,rfl,st,c1,c2,fun y hy=>?_⟩)
       rw [et3] at hy
       rcases List.mem_append.mp hy with y' | y'
       ·exact c3 y y'
       ·rw [List.mem_singleton.mp y']; exact hc.mp rfl
      | false =>
       have hq':q∉fs++ms:=fun h=>nomatch hc.mpr h
       have up:∀ {y:List Int},y∈fs++ms->y∈fs++(ms++[q]):=fun h=>by rw [<- List.append_assoc]; exact List.mem_append_left _ h
       refine iteT ⟨_,rfl,ls_some ls_last,_,rfl,_,_,_,rfl,rfl,at_last,?_,?_⟩
       ·rw [List.length_map,List.length_append]
        exact Nat.lt_of_le_of_lt (by omega:_<=2000) (by decide)
       rw [set_last]
       refine .inl ⟨ms++[q],true,_,rfl,by rw [<- List.append_assoc,List.map_append (l₁:=fs++ms)]; rfl,st.put ovq hq',fun y hy ne w hw x e=>up (c1 y hy ne w hw x e),fun ne p hp x e=>up (c2 ne p hp x e),fun y hy=>?_⟩
       rw [et3] at hy
       rcases List.mem_append.mp hy with y' | y'
       ·exact up (c3 y y')
       ·rw [List.mem_singleton.mp y',<- List.append_assoc]; exact List.mem_append_right _ (List.mem_singleton.mpr rfl)
     ·rintro ρ' M' ⟨ms,b,v8,rfl,rfl,st,c1,c2,c3⟩
      have c3:∀ q∈qs.take (qs.map wD).length,q∈fs++ms:=c3
      rw [List.length_map,List.take_length] at c3
      refine .inl ⟨ms,b,_,_,_,rfl,rfl,st,c1,fun ne y hy x e=>?_⟩
      rw [et2] at hy
      rcases List.mem_append.mp hy with y' | y'
      ·exact c2 ne y y' x e
      ·rw [List.mem_singleton.mp y'] at e
       exact c3 x ((mq x).mpr e)
    ·rintro ρ' M' ⟨ms,b,v6,v7,v8,rfl,rfl,st,c1,c2⟩
     have c2:z≠[]->∀ p∈L.take (L.map pD).length,∀ q,rb z p.2=some q->q∈fs++ms:=c2
     rw [List.length_map,List.take_length] at c2
     refine .inl ⟨ms,b,_,_,_,_,rfl,rfl,st,fun y hy ne w hw x e=>?_⟩
     rw [et] at hy
     rcases List.mem_append.mp hy with y' | y'
     ·exact c1 y y' ne w hw x e
     ·rw [List.mem_singleton.mp y'] at ne e
      obtain ⟨p,hp,rfl⟩:=List.mem_map.mp hw
      exact c2 ne p hp x e
   ·rintro ρ' M' ⟨ms,b,v5,v6,v7,v8,rfl,rfl,st,c1⟩
    have c1:∀ z∈(fs++ns).take ((fs++ns).map wD).length,z≠[]->∀ w∈L.map (·.2),∀ q,rb z w=some q->q∈fs++ms:=c1
    rw [List.length_map,List.take_length] at c1
    have ml:=few ms st.nd fun z hz=>st.ov z (List.mem_append_right _ hz)
    refine ⟨_,?_,.inl ⟨ms,b,_,_,_,_,rfl,rfl,⟨st.nd,st.ov⟩,fun eb=>?_,rfl⟩⟩
    ·cases b with
     | true =>
      have:=st.t rfl
      show (64 - ms.length) * 2 + 1 < m
      omega
     | false =>
      have:=st.f rfl
      rw [this]
      show (64 - ns.length) * 2 + 0 < m
      omega
    ·rw [st.f eb] at c1 ⊢
     exact c1
open L3
def pE (us:List (List A4)):D:=.lst (us.map encM.e)
def encPD:Enc Pr:=encPr encInt (encTup encInt)
def dPapers:Sp3:=fun ds M K=>∃ (k:Nat) (L:List Pr) (us:List (List A4)),ds=[.cell k,.lst (L.map pD),pE us]/\(M[k]?=some .hand/\Tf L/\us.length < 64)/\∀ P:List (List (List A4)),K (.cell M.length) (M++[.lst (P.map pE)])
def cut_e {us:List (List A4)} {lo hi:Option Int}:cut (us.map encM.e) lo hi=(cut us lo hi).map encM.e:=cut_map ..
theorem ok__law_papers (T:Txt mg) {C:Addr} (C__law_draw:Cal P w K mg base "_law_draw" 1 ["_law_hand", "_law_many"] (L3.spOf ⟨C,K⟩ dDraw)) {f:Addr} {fd:FuncData} (F:Fun K "_law_papers" "_law_papers" s__law_papers f fd):FnOk P w K mg base CX0 2 f fd ["_law_hand", "_law_table", "_law_due"] (L3.spOf ⟨C,K⟩ dPapers):=by
 refine L3.Fun.ok3 F sc__law_papers (fun ds M K3 h=>?_) (fun cdv A outer s H E hr=>?_)
 ·obtain ⟨hd,L,us,rfl,_⟩:=h
  rfl
 ·have SC:=sc__law_papers
  have hu:=hr.units
  have hu1:=hu_of hr
  have hr__law_draw:Room 1 _:=hr.mono (by first | decide | omega)
  refine ⟨_,_,(pss_cons (ps_set (i:=3) SC.nd rfl (Or.inl rfl) (pe_op op_mod (pe_cal C__law_draw hr__law_draw rfl (pa_cons (pv 0) (pa_cons pe_int pa_nil))) (pe_op (L3.ux_add (K':=K) rfl) (pe_callB (bk_len (K:=K) rfl) (by rfl) T.b_len PySem.boot_len (pa_cons (pv 2) pa_nil)) pe_int)))
 (pss_cons (ps_set (i:=4) SC.nd rfl (Or.inl rfl) (pe_tup (pa_cons (pe_cal C__law_draw hr__law_draw rfl (pa_cons (pv 0) (pa_cons pe_int pa_nil))) (pa_cons pe_int pa_nil))))
 (pss_cons (ps_if (pt_cmpR (L3.ux_ne (K':=K) rfl hu) (pv 1) (pe_lst pa_nil) (nomark _))
 (pss_one (ps_set (i:=4) SC.nd rfl (Or.inl rfl) (pe_ix (L3.ux_ix (K':=K) rfl) (pe_lst (pa_cons (pv 4) (pa_cons (pe_ix (L3.ux_ix (K':=K) rfl) (pe_ix (L3.ux_ix (K':=K) rfl) (pv 1) pe_int (fun _ _=>rfl)) pe_int (fun _ _=>rfl)) (pa_cons (pe_tup pa_nil) (pa_cons (pe_op (L3.ux_addT (K':=K) rfl) (pe_ix (L3.ux_ix (K':=K) rfl) (pe_ix (L3.ux_ix (K':=K) rfl) (pv 1) (pe_un un_neg pe_int) (fun _ _=>rfl)) pe_int (fun _ _=>rfl)) (pe_tup (pa_cons pe_int pa_nil))) (pa_cons (pe_tup (pa_cons pe_str (pa_cons pe_non pa_nil))) (pa_cons (pe_tup (pa_cons (pe_tup (pa_cons pe_int (pa_cons pe_str pa_nil))) (pa_cons pe_non pa_nil))) pa_nil))))))) (pe_cal C__law_draw hr__law_draw rfl (pa_cons (pv 0) (pa_cons pe_int pa_nil))) (fun _ _=>rfl))))
 pss_nil)
 (pss_cons (ps_set (i:=5) SC.nd rfl (Or.inl rfl) (pe_lst (pa_cons (pe_callTy (bk_list (K:=K) rfl) (by rfl) T.b_list PyProof.Rows.boot_list (pa_cons (pv 2) pa_nil)) (pa_cons (pe_rev (pv 2) (po_some (pe_un un_neg pe_int)) (fun _ _=>⟨_,rfl⟩)) (pa_cons (pe_op (L3.ux_add (K':=K) rfl) (pe_op (L3.ux_add (K':=K) rfl) (pe_slice (L3.ux_sl (K':=K) rfl) (pv 2) po_none (po_some (pv 3))) (pe_lst (pa_cons (pv 4) pa_nil))) (pe_slice (L3.ux_sl (K':=K) rfl) (pv 2) (po_some (pv 3)) po_none)) (pa_cons (pe_op (L3.ux_add (K':=K) rfl) (pe_lst (pa_cons (pv 4) pa_nil)) (pv 2)) (pa_cons (pe_op (L3.ux_add (K':=K) rfl) (pv 2) (pv 2)) pa_nil)))))))
 (pss_cons (ps_if (pt_cmpR (L3.ux_ne (K':=K) rfl hu) (pv 2) (pe_lst pa_nil) (nomark _))
 (pss_cons (ps_set (i:=6) SC.nd rfl (Or.inl rfl) (pe_op op_mod (pe_cal C__law_draw hr__law_draw rfl (pa_cons (pv 0) (pa_cons pe_int pa_nil))) (pe_callB (bk_len (K:=K) rfl) (by rfl) T.b_len PySem.boot_len (pa_cons (pv 2) pa_nil))))
 (pss_cons (ps_expr (pe_bm PySem.F.plainAttrs_list PySem.F.slot_list_append PySem.F.type_list_append mt_append (pv 5) (pa_cons (pe_op (L3.ux_add (K':=K) rfl) (pe_slice (L3.ux_sl (K':=K) rfl) (pv 2) po_none (po_some (pv 6))) (pe_slice (L3.ux_sl (K':=K) rfl) (pv 2) (po_some (pe_op (L3.ux_add (K':=K) rfl) (pv 6) pe_int)) po_none)) pa_nil)))
 (pss_one (ps_expr (pe_bm PySem.F.plainAttrs_list PySem.F.slot_list_append PySem.F.type_list_append mt_append (pv 5) (pa_cons (pe_op (L3.ux_add (K':=K) rfl) (pe_op (L3.ux_add (K':=K) rfl) (pe_lst (pa_cons (pv 4) pa_nil)) (pe_slice (L3.ux_sl (K':=K) rfl) (pv 2) (po_some (pe_op (L3.ux_add (K':=K) rfl) (pv 6) pe_int)) po_none)) (pe_slice (L3.ux_sl (K':=K) rfl) (pv 2) po_none (po_some (pv 6)))) pa_nil))))))
 pss_nil)
 (pss_cons (ps_expr (pe_bm PySem.F.plainAttrs_list PySem.F.slot_list_append PySem.F.type_list_append mt_append (pv 5) (pa_cons (pe_lst pa_nil) pa_nil)))
 (pss_one (ps_ret (pv 5))))))))),fun _=>(L3.s_seq (L3.s_asg (L3.s_op L3.s_mod (L3.s_call (L3.s_cons (L3.s_var 0) (L3.s_cons L3.s_int L3.s_nil))) (L3.s_op L3.s_add (L3.s_cb L3.s_len (L3.s_cons (L3.s_var 2) L3.s_nil)) L3.s_int)) (L3.s_g 3))
 (L3.s_seq (L3.s_asg (L3.s_tup (L3.s_cons (L3.s_call (L3.s_cons (L3.s_var 0) (L3.s_cons L3.s_int L3.s_nil))) (L3.s_cons L3.s_int L3.s_nil))) (L3.s_g 4))
 (L3.s_seq (L3.s_ifS (L3.s_test (L3.s_op L3.s_ne (L3.s_var 1) (L3.s_lst L3.s_nil)))
 (L3.s_asg (L3.s_op L3.s_ix (L3.s_lst (L3.s_cons (L3.s_var 4) (L3.s_cons (L3.s_op L3.s_ix (L3.s_op L3.s_ix (L3.s_var 1) L3.s_int) L3.s_int) (L3.s_cons (L3.s_tup L3.s_nil) (L3.s_cons (L3.s_op L3.s_addT (L3.s_op L3.s_ix (L3.s_op L3.s_ix (L3.s_var 1) (L3.s_un L3.s_neg L3.s_int)) L3.s_int) (L3.s_tup (L3.s_cons L3.s_int L3.s_nil))) (L3.s_cons (L3.s_tup (L3.s_cons L3.s_str (L3.s_cons L3.s_non L3.s_nil))) (L3.s_cons (L3.s_tup (L3.s_cons (L3.s_tup (L3.s_cons L3.s_int (L3.s_cons L3.s_str L3.s_nil))) (L3.s_cons L3.s_non L3.s_nil))) L3.s_nil))))))) (L3.s_call (L3.s_cons (L3.s_var 0) (L3.s_cons L3.s_int L3.s_nil)))) (L3.s_g 4))
 L3.s_next)
 (L3.s_seq (L3.s_asg (L3.s_lstC (L3.s_cons (L3.s_cb L3.s_list (L3.s_cons (L3.s_var 2) L3.s_nil)) (L3.s_cons (L3.s_rev (L3.s_var 2) (L3.s_part (L3.s_un L3.s_neg L3.s_int))) (L3.s_cons (L3.s_op L3.s_add (L3.s_op L3.s_add (L3.s_sl L3.s_sl3 (L3.s_var 2) L3.s_noPart (L3.s_part (L3.s_var 3))) (L3.s_lst (L3.s_cons (L3.s_var 4) L3.s_nil))) (L3.s_sl L3.s_sl3 (L3.s_var 2) (L3.s_part (L3.s_var 3)) L3.s_noPart)) (L3.s_cons (L3.s_op L3.s_add (L3.s_lst (L3.s_cons (L3.s_var 4) L3.s_nil)) (L3.s_var 2)) (L3.s_cons (L3.s_op L3.s_add (L3.s_var 2) (L3.s_var 2)) L3.s_nil)))))) (L3.s_g 5))
 (L3.s_seq (L3.s_ifS (L3.s_test (L3.s_op L3.s_ne (L3.s_var 2) (L3.s_lst L3.s_nil)))
 (L3.s_seq (L3.s_asg (L3.s_op L3.s_mod (L3.s_call (L3.s_cons (L3.s_var 0) (L3.s_cons L3.s_int L3.s_nil))) (L3.s_cb L3.s_len (L3.s_cons (L3.s_var 2) L3.s_nil))) (L3.s_g 6))
 (L3.s_seq (L3.s_drop (L3.s_append (L3.s_var 5) (L3.s_cons (L3.s_op L3.s_add (L3.s_sl L3.s_sl3 (L3.s_var 2) L3.s_noPart (L3.s_part (L3.s_var 6))) (L3.s_sl L3.s_sl3 (L3.s_var 2) (L3.s_part (L3.s_op L3.s_add (L3.s_var 6) L3.s_int)) L3.s_noPart)) L3.s_nil)))
 (L3.s_drop (L3.s_append (L3.s_var 5) (L3.s_cons (L3.s_op L3.s_add (L3.s_op L3.s_add (L3.s_lst (L3.s_cons (L3.s_var 4) L3.s_nil)) (L3.s_sl L3.s_sl3 (L3.s_var 2) (L3.s_part (L3.s_op L3.s_add (L3.s_var 6) L3.s_int)) L3.s_noPart)) (L3.s_sl L3.s_sl3 (L3.s_var 2) L3.s_noPart (L3.s_part (L3.s_var 6)))) L3.s_nil)))))
 L3.s_next)
 (L3.s_seq (L3.s_drop (L3.s_append (L3.s_var 5) (L3.s_cons (L3.s_lst L3.s_nil) L3.s_nil)))
 (L3.s_ret (L3.s_var 5)))))))),fun ds M Kk hM hD h=>?_⟩
  obtain ⟨hd,L,us,rfl,h⟩:=h
  obtain ⟨⟨hh,tf,lu⟩,k⟩:=h
  have lm:(us.map encM.e).length=us.length:=List.length_map _
  refine seq_by (fun d M'=>∃ a:Int,d=.int a/\0<=a/\M=M') (fun Kq hq=>?_) ?_
  ·exact ⟨_,rfl,hd,60,rfl,hh,⟨by decide,by decide⟩,fun q q0 q1=>⟨_,rfl,_,rfl,_,_,rfl,rfl,(by omega),hq _ _ ⟨_,rfl,Int.emod_nonneg _ (by omega),rfl⟩⟩⟩
  rintro _ _ ⟨a,rfl,ha,rfl⟩
  refine g_nx ?_
  refine ⟨_,rfl,hd,256,rfl,hh,⟨by decide,by decide⟩,fun z z0 z1=>⟨(show 2<=sizeLine by decide),?_⟩⟩
  refine g_nx ?_
  dsimp only
  refine st_by (fun ρ' M'=>∃ x:List A4,ρ'=[some (.cell hd),some (.lst (L.map pD)),some (pE us),some (.int a),some (encM.e x),none,none]/\M=M') (fun Kn hn=>?_) ?_
  ·refine ⟨_,rfl,Nat.zero_le _,eqv_seq encPD (a:=L) (b:=[]) rfl rfl ⟨_,rfl,?_⟩⟩
   by_cases e:L=[]
   ·rw [decide_eq_true e]
    exact iteF (hn _ _ ⟨[.i z,.i 7],rfl,rfl⟩)
   rw [decide_eq_false e]
   refine iteT ?_
   have l0:0 < L.length:=List.length_pos_iff.mpr e
   have a0:L2.atI (L.map pD) 0=some (pD L[0]):=atI_map (by rfl) l0
   obtain ⟨p1,hp1,a1⟩:∃ p∈L,L2.atI (L.map pD) (-1)=some (pD p):=⟨L[L.length - 1],List.getElem_mem _,by
    rw [at_neg1 (n:=L.length - 1) (by rw [List.length_map]; omega),List.getElem?_map,List.getElem?_eq_getElem (by omega)]; rfl⟩
   generalize L[0]=p0 at a0
   have lp:=(tf.w _ hp1).2
   refine ⟨_,rfl,_,rfl,_,_,_,rfl,rfl,a0,_,_,_,rfl,rfl,rfl,Nat.zero_le _,_,rfl,_,rfl,_,_,_,rfl,rfl,a1,_,_,_,rfl,rfl,rfl,(show 1<=sizeLine by decide),_,_,rfl,rfl,?_,(show 2<=sizeLine by decide),(show 2<=sizeLine by decide),(show 2<=sizeLine by decide),(show 6<=sizeLine by decide),_,rfl,hd,6,rfl,hh,⟨by decide,by decide⟩,fun q q0 q1=>?_⟩
   ·rw [List.length_map]
    exact small_line (by show _ + 1<=_; omega)
   obtain ⟨y,ey⟩:∃ y:List A4,L2.atI [D.tup [D.int z,D.int 7],wD p0.2,D.tup [],D.tup (p1.2.map D.int++[D.int 1]),D.tup [D.str (Str.ofString "a"),D.non],D.tup [D.tup [D.int 7,D.str (Str.ofString "a")],D.non]] q=some (encM.e y):=by
    rcases (by omega:q=0\/q=1\/q=2\/q=3\/q=4\/q=5) with rfl | rfl | rfl | rfl | rfl | rfl
    ·exact ⟨[.i z,.i 7],rfl⟩
    ·exact ⟨iw p0.2,by rw [iw_e]; rfl⟩
    ·exact ⟨[],rfl⟩
    ·refine ⟨iw (p1.2++[1]),?_⟩
     rw [iw_e]
     show some (D.tup (p1.2.map D.int++[D.int 1]))=some (D.tup ((p1.2++[1]).map D.int))
     rw [List.map_append]
     rfl
    ·exact ⟨[.a,.non],rfl⟩
    ·exact ⟨[.sa,.non],rfl⟩
   exact ⟨_,_,_,rfl,rfl,ey,hn _ _ ⟨y,rfl,rfl⟩⟩
  rintro _ _ ⟨x,rfl,rfl⟩
  have c1:∀ lo hi,(cut us lo hi).length<=us.length:=cut_len us
  have c2:∀ lo hi,(cut (us.map encM.e) lo hi).length<=us.length:=fun lo hi=>by have:=cut_len (us.map encM.e) lo hi; omega
  refine seq_by (fun d M'=>∃ P:List (List (List A4)),d=.cell M.length/\M'=M++[.lst (P.map pE)]/\P.length=5) (fun Kq hq=>?_) ?_
  ·refine ⟨_,rfl,_,_,rfl,rfl,_,rfl,_,rfl,_,rfl,rfl,_,rfl,?_⟩
   refine ⟨_,rfl,_,rfl,_,rfl,_,rfl,_,rfl,(show 1<=sizeLine by decide),_,_,rfl,rfl,?_,_,rfl,_,rfl,_,rfl,_,rfl,_,_,rfl,rfl,?_,?_⟩
   ·have:=c2 none (some a)
    exact small_line (by show _ + 1<=_; omega)
   ·have:=c2 none (some a)
    have:=c2 (some a) none
    rw [List.length_append]
    exact small_line (by show _ + 1 + _<=_; omega)
   refine ⟨_,rfl,(show 1<=sizeLine by decide),_,rfl,_,_,rfl,rfl,?_,_,rfl,_,rfl,_,_,rfl,rfl,?_,(show 5<=sizeLine by decide),hq _ _ ⟨[us,us.reverse,cut us none (some a)++[x]++cut us (some a) none,[x]++us,us++us],rfl,?_,rfl⟩⟩
   ·exact small_line (by show 1 + _<=_; omega)
   ·exact small_line (by omega)
   ·rw [List.map_cons,List.map_cons,List.map_cons,List.map_cons,List.map_cons,List.map_nil]
    unfold pE
    rw [List.map_append,List.map_append,List.map_append,List.map_append,List.map_reverse,<- cut_e,<- cut_e]
    rfl
  rintro _ _ ⟨P,rfl,rfl,lP⟩
  refine g_nx ?_
  refine st_by (fun ρ' M'=>∃ (P:List (List (List A4))) (v6:Option D),ρ'=[some (.cell hd),some (.lst (L.map pD)),some (pE us),some (.int a),some (encM.e x),some (.cell M.length),v6]/\M'=M++[.lst (P.map pE)]/\P.length<=7) (fun Kn hn=>?_) ?_
  ·refine ⟨_,rfl,Nat.zero_le _,eqv_seq encM (a:=us) (b:=[]) rfl rfl ⟨_,rfl,?_⟩⟩
   by_cases e:us=[]
   ·rw [decide_eq_true e]
    exact iteF (hn _ _ ⟨P,_,rfl,rfl,by omega⟩)
   rw [decide_eq_false e]
   refine iteT ?_
   have l0:0 < us.length:=List.length_pos_iff.mpr e
   refine seq_by (fun d M'=>∃ g:Int,d=.int g/\0<=g/\M++[.lst (P.map pE)]=M') (fun Kq hq=>?_) ?_
   ·exact ⟨_,rfl,hd,60,rfl,hand_more hh,⟨by decide,by decide⟩,fun q q0 q1=>⟨_,rfl,_,rfl,_,_,rfl,rfl,(by omega),hq _ _ ⟨_,rfl,Int.emod_nonneg _ (by omega),rfl⟩⟩⟩
   rintro _ _ ⟨g,rfl,hg,rfl⟩
   refine g_nx ?_
   have c3:∀ lo hi lo' hi',(cut (us.map encM.e) lo hi).length + (cut (us.map encM.e) lo' hi').length<=128:=fun lo hi lo' hi'=>by have:=c2 lo hi; have:=c2 lo' hi'; omega
   refine ⟨_,rfl,ls_some ls_last,_,rfl,_,rfl,_,rfl,_,rfl,_,rfl,_,rfl,_,rfl,_,rfl,_,_,rfl,rfl,small_line (Nat.le_trans (c3 _ _ _ _) (by decide)),_,_,_,rfl,rfl,at_last,?_,?_⟩
   ·rw [List.length_map]
    exact Nat.lt_of_le_of_lt (by omega:_<=1000) (by decide)
   rw [set_last]
   refine ⟨_,rfl,ls_some ls_last,_,rfl,(show 1<=sizeLine by decide),_,rfl,_,rfl,_,rfl,_,rfl,_,_,rfl,rfl,?_,_,rfl,_,rfl,_,rfl,_,rfl,_,_,rfl,rfl,?_,_,_,_,rfl,rfl,at_last,?_,?_⟩
   ·have:=c2 (some (g + 1)) none
    exact small_line (by show 1 + _<=_; omega)
   ·have:=c3 (some (g + 1)) none none (some g)
    rw [List.length_append]
    exact small_line (by show 1 + _ + _<=_; omega)
   ·rw [List.length_append,List.length_map]
    exact Nat.lt_of_le_of_lt (show _ + 1<=1000 by omega) (by decide)
   rw [set_last]
   refine hn _ _ ⟨P++[cut us none (some g)++cut us (some (g + 1)) none]++[[x]++cut us (some (g + 1)) none++cut us none (some g)],_,rfl,?_,by rw [List.length_append,List.length_append]; show _ + 1 + 1<=_; omega⟩
   rw [List.map_append,List.map_append,List.map_cons,List.map_nil,List.map_cons,List.map_nil]
   have e1:∀ {ps qs:List (List A4)},pE (ps++qs)=.lst (ps.map encM.e++qs.map encM.e):=fun {ps qs}=>by unfold pE; rw [List.map_append]
   rw [e1,e1,List.map_append,<- cut_e,<- cut_e]
   rfl
  rintro _ _ ⟨P,v6,rfl,rfl,lP⟩
  refine ⟨_,rfl,ls_some ls_last,Nat.zero_le _,_,_,_,rfl,rfl,at_last,?_,?_⟩
  ·rw [List.length_map]
   exact Nat.lt_of_le_of_lt (by omega:_<=1000) (by decide)
  rw [set_last]
  refine ⟨_,rfl,.inl ?_⟩
  have:=k (P++[[]])
  rw [List.map_append] at this
  exact this
open L3
def dRight54:Sp3:=fun ds M K=>∃ (L:List Pr) (rs:List (List Int)) (us:List (List A4)),ds=[.lst (L.map pD),.lst (rs.map wD),.lst (us.map encM.e)]/\Tf L/\(rs.length < 64/\∀ r,r∈rs↔Ov (L.map (·.2)) r)/\K (.bl true) M
theorem ok__law_right (T:Txt mg) {C:Addr} (C_shows_one_way:Cal P w K mg base "shows_one_way" 5 ["table", "some"] (L3.spOf ⟨C,K⟩ dShowsN)) {f:Addr} {fd:FuncData} (F:Fun K "_law_right" "_law_right" s__law_right f fd):FnOk P w K mg base CX0 6 f fd ["_law_table", "_law_due", "_law_paper"] (L3.spOf ⟨C,K⟩ dRight54):=by
 refine L3.Fun.ok3 F sc__law_right (fun ds M K3 h=>?_) (fun cdv A outer s H E hr=>?_)
 ·obtain ⟨L,rs,us,rfl,_⟩:=h
  rfl
 ·have SC:=sc__law_right
  have hu:=hr.units
  have hu1:=hu_of hr
  have hr_shows_one_way:Room 5 _:=hr.mono (by first | decide | omega)
  refine ⟨_,_,(pss_cons (ps_par (i:=3) (j:=4) rfl SC.nd rfl rfl (by decide) rfl rfl (pa_cons (pe_callTy (bk_list (K:=K) rfl) (by rfl) T.b_list PyProof.Rows.boot_list (pa_cons (pv 0) pa_nil)) (pa_cons (pe_callTy (bk_list (K:=K) rfl) (by rfl) T.b_list PyProof.Rows.boot_list (pa_cons (pv 2) pa_nil)) pa_nil)) rfl)
 (pss_cons (ps_set (i:=5) SC.nd rfl (Or.inl rfl) (pe_cal C_shows_one_way hr_shows_one_way rfl (pa_cons (pv 3) (pa_cons (pv 4) pa_nil))))
 (pss_cons (ps_if (PW.pt (pw_or (pt_cmpR (L3.ux_ne (K':=K) rfl hu) (pv 3) (pv 0) (nomark _)) (pw_or1 (pt_cmpR (L3.ux_ne (K':=K) rfl hu) (pv 4) (pv 2) (nomark _)))))
 (pss_one (ps_ret pe_bl))
 pss_nil)
 (pss_cons (ps_if (PW.pt (pw_or (pt_cmpR (L3.ux_inD (K':=K) rfl hu) (pe_tup pa_nil) (pv 1) rfl) (pw_or1 (pt_cmpR (L3.ux_ne (K':=K) rfl hu) (pe_comp (T:=["_law_one"]) (cs:=[2]) rfl (CScope.ok (by kernel_rfl)) (pi_list (pv 1)) (fun _ _ _ _=>(pg_name (i:=0) (nd_of (by kernel_rfl)) rfl (Or.inl rfl) (Or.inr rfl))) (fun _ _ _ _=>(pts_one (pt_cmpR (L3.ux_notinD (K':=K) rfl hu) (pv 0) (pv 1) rfl))) (fun _ _ _ _=>(pv 0)) (gk_name (by decide))) (pe_lst pa_nil) (nomark _)))))
 (pss_one (ps_ret (pe_cmpR op_isB (pv 5) pe_bl (nomark _))))
 pss_nil)
 (pss_one (ps_ret (pe_cmpR op_isB (pv 5) pe_bl (nomark _)))))))),fun _=>(L3.s_seq (L3.s_par (i:=3) (j:=4) (L3.s_cons (L3.s_cb L3.s_list (L3.s_cons (L3.s_var 0) L3.s_nil)) (L3.s_cons (L3.s_cb L3.s_list (L3.s_cons (L3.s_var 2) L3.s_nil)) L3.s_nil)))
 (L3.s_seq (L3.s_asg (L3.s_call (L3.s_cons (L3.s_var 3) (L3.s_cons (L3.s_var 4) L3.s_nil))) (L3.s_g 5))
 (L3.s_seq (L3.s_ifS (L3.s_or (L3.s_test (L3.s_op L3.s_ne (L3.s_var 3) (L3.s_var 0))) (L3.s_test (L3.s_op L3.s_ne (L3.s_var 4) (L3.s_var 2))))
 (L3.s_ret L3.s_bl)
 L3.s_next)
 (L3.s_seq (L3.s_ifS (L3.s_or (L3.s_test (L3.s_op L3.s_inD (L3.s_tup L3.s_nil) (L3.s_var 1))) (L3.s_test (L3.s_op L3.s_ne (L3.s_comp (L3.s_il (L3.s_var 1)) (L3.s_g 0) (L3.s_test (L3.s_op L3.s_notinD (L3.s_var 0) (L3.s_var 1))) (L3.s_var 0)) (L3.s_lst L3.s_nil))))
 (L3.s_ret (L3.s_op L3.s_isB (L3.s_var 5) L3.s_bl))
 L3.s_next)
 (L3.s_ret (L3.s_op L3.s_isB (L3.s_var 5) L3.s_bl)))))),fun ds M Kk hM hD h=>?_⟩
  obtain ⟨L,rs,us,rfl,h⟩:=h
  obtain ⟨tf,⟨lr,hrs⟩,k⟩:=h
  have md:∀ (r:List Int) (N:Mem),PyR N (wD r) (encM.py (iw r)):=fun r N=>by have:=encM.ok N (iw r); rw [iw_e] at this; exact this
  refine ⟨_,rfl,_,_,rfl,rfl,_,rfl,_,_,rfl,rfl,?_⟩
  refine ⟨_,_,rfl,?_⟩
  refine ⟨_,rfl,_,rfl,_,_,L,us,rfl,rfl,rfl,tf,fun b hb=>?_⟩
  refine g_nx ?_
  refine ⟨_,rfl,_,rfl,eqv_seq encPD (a:=L) (b:=L) rfl rfl ⟨_,rfl,?_⟩⟩
  rw [decide_eq_true rfl]
  refine iteF ?_
  refine ⟨_,rfl,_,rfl,eqv_seq encM (a:=us) (b:=us) rfl rfl ⟨_,rfl,?_⟩⟩
  rw [decide_eq_true rfl]
  refine iteF ?_
  refine ⟨Nat.zero_le _,_,rfl,in_enc (encTup encInt) (xs:=rs) (t:=[]) ((encTup encInt).ok _ []) rfl fun c hc=>⟨_,rfl,?_⟩⟩
  cases c with
  | true =>
   have bf:b=false:=Bool.eq_false_iff.mpr fun h=>(hb.mp h).1 ((hrs []).mp (hc.mp rfl))
   subst bf
   exact iteT ⟨_,rfl,_,_,rfl,rfl,.inl k⟩
  | false =>
   have no:[]∉rs:=fun h=>nomatch hc.mpr h
   refine iteF ?_
   refine ⟨_,rfl,_,rfl,?_,fun i ys M'=>M=M'/\ys=((rs.take i).filter fun r=>decide (iw r∉us)).map wD,fun _ _ _ _ _=>rfl,⟨rfl,rfl⟩,?_,?_⟩
   ·show (rs.map wD).length<=sizeLine
    rw [List.length_map]
    exact small_line (by omega)
   ·rintro i x ys _ hi hx ⟨rfl,rfl⟩
    obtain ⟨hi',rfl⟩:=item_map hx
    refine ⟨_,rfl,_,rfl,notin_enc encM (xs:=us) (t:=iw rs[i]) (md _ _) rfl fun c hc=>⟨_,rfl,?_⟩⟩
    have et:(rs.take (i + 1)).filter (fun r=>decide (iw r∉us))=(rs.take i).filter (fun r=>decide (iw r∉us))++[rs[i]].filter fun r=>decide (iw r∉us):=by rw [List.take_succ_eq_append_getElem hi',List.filter_append]
    cases c with
    | true =>
     refine iteF ⟨rfl,?_⟩
     rw [et,List.filter_cons_of_neg (by simpa using hc.mp rfl),List.map_append]
     exact (List.append_nil _).symm
    | false =>
     have hn:iw rs[i]∉us:=fun h=>nomatch hc.mpr h
     refine iteT ⟨_,rfl,rfl,?_⟩
     rw [et,List.filter_cons_of_pos (by simpa using hn),List.map_append]
     rfl
   rintro ys _ ⟨rfl,rfl⟩
   have e:rs.take (rs.map wD).length=rs:=by rw [List.length_map,List.take_length]
   rw [show List.take _ rs=rs from e]
   refine ⟨Nat.zero_le _,eqv_seq (encTup encInt) (a:=rs.filter fun r=>decide (iw r∉us)) (b:=[]) rfl rfl ⟨_,rfl,?_⟩⟩
   have key:(rs.filter fun r=>decide (iw r∉us))=[]↔b=true:=by
    rw [hb,List.filter_eq_nil_iff]
    refine ⟨fun h=>⟨fun o=>no ((hrs []).mpr o),fun r o=>?_⟩,fun h r hr=>?_⟩
    ·have:=h r ((hrs r).mpr o)
     simpa using this
    ·have:=h.2 r ((hrs r).mp hr)
     simpa using this
   by_cases ef:(rs.filter fun r=>decide (iw r∉us))=[]
   ·rw [decide_eq_true ef]
    have bt:=key.mp ef
    subst bt
    exact iteF ⟨_,rfl,_,_,rfl,rfl,.inl k⟩
   ·rw [decide_eq_false ef]
    have bf:b=false:=Bool.eq_false_iff.mpr fun h=>ef (key.mpr h)
    subst bf
    exact iteT ⟨_,rfl,_,_,rfl,rfl,.inl k⟩
open L3
def below_p {n:Nat} {p:Pr}:Below n (pD p):=below_tup fun d hd=>by
 rcases List.mem_cons.mp hd with z | hd
 ·rw [z]; exact below_int
 ·rw [List.mem_singleton.mp hd]; exact below_w
def W2 (bs:List Int) (ws:List (List Int)):Prop:=∀ w∈ws,(w≠[]/\w.length<=2)/\∀ b∈w,b∈bs
def W2.snoc {bs:List Int} {ws:List (List Int)} (h:W2 bs ws) {w:List Int} (h1:(w≠[]/\w.length<=2)/\∀ b∈w,b∈bs):W2 bs (ws++[w]):=fun x hx=>by
 rcases List.mem_append.mp hx with hx | hx
 ·exact h x hx
 ·rw [List.mem_singleton.mp hx]; exact h1
def dWideF:Sp3:=fun ds M K=>∃ (k:Nat),ds=[.cell k]/\(M[k]?=some .hand)/\∀ L:List Pr,Tf L->K (.lst (L.map pD)) M
theorem ok__law_wide (T:Txt mg) {C:Addr} (C__law_draw:Cal P w K mg base "_law_draw" 1 ["_law_hand", "_law_many"] (L3.spOf ⟨C,K⟩ dDraw)) (C__law_signs:Cal P w K mg base "_law_signs" 2 ["_law_hand", "_law_many"] (L3.spOf ⟨C,K⟩ dSigns)) {f:Addr} {fd:FuncData} (F:Fun K "_law_wide" "_law_wide" s__law_wide f fd):FnOk P w K mg base CX0 3 f fd ["_law_hand"] (L3.spOf ⟨C,K⟩ dWideF):=by
 refine L3.Fun.ok3 F sc__law_wide (fun ds M K3 h=>?_) (fun cdv A outer s H E hr=>?_)
 ·obtain ⟨hd,rfl,_⟩:=h
  rfl
 ·have SC:=sc__law_wide
  have hu:=hr.units
  have hu1:=hu_of hr
  have hr__law_draw:Room 1 _:=hr.mono (by first | decide | omega)
  have hr__law_signs:Room 2 _:=hr.mono (by first | decide | omega)
  refine ⟨_,_,(pss_cons (ps_set (i:=1) SC.nd rfl (Or.inr rfl) (pe_cal C__law_draw hr__law_draw rfl (pa_cons (pv 0) (pa_cons pe_int pa_nil))))
 (pss_cons (ps_comp (i:=2) SC.nd rfl rfl (T:=["_law_k"]) (cs:=[1]) rfl (CScope.ok (by kernel_rfl)) (pi_range1 rfl T.b_range (pa_cons pe_int pa_nil)) (fun _ _ _ _=>(pg_name (i:=0) (nd_of (by kernel_rfl)) rfl (Or.inl rfl) (Or.inr rfl))) (fun _ _ _ _=>pts_nil) (fun _ _ _ _=>(pe_op op_mod (pe_op (L3.ux_add (K':=K) rfl) (pv 1) (pe_op L3.ux_mul pe_int (pv 0))) pe_int)) (gk_name (by decide)))
 (pss_cons (ps_set (i:=3) SC.nd rfl (Or.inr rfl) (pe_comp (T:=["_law_one"]) (cs:=[]) rfl (CScope.ok (by kernel_rfl)) (pi_list (pv 2)) (fun _ _ _ _=>(pg_name (i:=0) (nd_of (by kernel_rfl)) rfl (Or.inl rfl) (Or.inr rfl))) (fun _ _ _ _=>pts_nil) (fun _ _ _ _=>(pe_tup (pa_cons (pv 0) pa_nil))) (gk_name (by decide))))
 (pss_cons (ps_for PassesOwn.never rfl (pi_range1 rfl T.b_range (pa_cons pe_int pa_nil)) (pg_name (i:=4) SC.nd rfl (Or.inl rfl))
 (pss_one (ps_expr (pe_bm PySem.F.plainAttrs_list PySem.F.slot_list_append PySem.F.type_list_append mt_append (pv 3) (pa_cons (pe_tup (pa_cons (pe_ix (L3.ux_ix (K':=K) rfl) (pv 2) (pe_cal C__law_draw hr__law_draw rfl (pa_cons (pv 0) (pa_cons pe_int pa_nil))) (fun _ _=>rfl)) (pa_cons (pe_ix (L3.ux_ix (K':=K) rfl) (pv 2) (pe_cal C__law_draw hr__law_draw rfl (pa_cons (pv 0) (pa_cons pe_int pa_nil))) (fun _ _=>rfl)) pa_nil))) pa_nil)))))
 (pss_cons (ps_set (i:=5) SC.nd rfl (Or.inr rfl) (pe_cal C__law_signs hr__law_signs rfl (pa_cons (pv 0) (pa_cons pe_int pa_nil))))
 (pss_one (ps_ret (pe_comp (T:=["_law_k"]) (cs:=[5,3]) rfl (CScope.ok (by kernel_rfl)) (pi_range1 rfl T.b_range (pa_cons pe_int pa_nil)) (fun _ _ _ _=>(pg_name (i:=0) (nd_of (by kernel_rfl)) rfl (Or.inl rfl) (Or.inr rfl))) (fun _ _ _ _=>pts_nil) (fun _ _ _ _=>(pe_tup (pa_cons (pe_ix (L3.ux_ix (K':=K) rfl) (pv 1) (pv 0) (fun _ _=>rfl)) (pa_cons (pe_ix (L3.ux_ix (K':=K) rfl) (pv 2) (pv 0) (fun _ _=>rfl)) pa_nil)))) (gk_name (by decide)))))))))),fun _=>(L3.s_seq (L3.s_asg (L3.s_call (L3.s_cons (L3.s_var 0) (L3.s_cons L3.s_int L3.s_nil))) (L3.s_g 1))
 (L3.s_seq (L3.s_asg (L3.s_comp (L3.s_ir1 (L3.s_cons L3.s_int L3.s_nil)) (L3.s_g 0) L3.s_true (L3.s_op L3.s_mod (L3.s_op L3.s_add (L3.s_var 1) (L3.s_op L3.s_mul L3.s_int (L3.s_var 0))) L3.s_int)) (L3.s_g 2))
 (L3.s_seq (L3.s_asg (L3.s_compC (L3.s_il (L3.s_var 2)) (L3.s_g 0) L3.s_true (L3.s_tup (L3.s_cons (L3.s_var 0) L3.s_nil))) (L3.s_g 3))
 (L3.s_seq (L3.s_for (L3.s_ir1 (L3.s_cons L3.s_int L3.s_nil)) (L3.s_g 4)
 (L3.s_drop (L3.s_append (L3.s_var 3) (L3.s_cons (L3.s_tup (L3.s_cons (L3.s_op L3.s_ix (L3.s_var 2) (L3.s_call (L3.s_cons (L3.s_var 0) (L3.s_cons L3.s_int L3.s_nil)))) (L3.s_cons (L3.s_op L3.s_ix (L3.s_var 2) (L3.s_call (L3.s_cons (L3.s_var 0) (L3.s_cons L3.s_int L3.s_nil)))) L3.s_nil))) L3.s_nil))))
 (L3.s_seq (L3.s_asg (L3.s_call (L3.s_cons (L3.s_var 0) (L3.s_cons L3.s_int L3.s_nil))) (L3.s_g 5))
 (L3.s_ret (L3.s_comp (L3.s_ir1 (L3.s_cons L3.s_int L3.s_nil)) (L3.s_g 0) L3.s_true (L3.s_tup (L3.s_cons (L3.s_op L3.s_ix (L3.s_var 1) (L3.s_var 0)) (L3.s_cons (L3.s_op L3.s_ix (L3.s_var 2) (L3.s_var 0)) L3.s_nil)))))))))),fun ds M Kk hM hD h=>?_⟩
  obtain ⟨hd,rfl,h⟩:=h
  obtain ⟨hh,k⟩:=h
  refine ⟨_,rfl,hd,256,rfl,hh,⟨by decide,by decide⟩,fun b b0 b1=>?_⟩
  refine ⟨20,rfl,⟨by decide,by decide⟩,by decide,fun i ys M'=>M=M'/\∃ bs:List Int,ys=bs.map .int/\bs.length=i,fun _ _ _ _ _=>trivial,⟨rfl,[],rfl,rfl⟩,?_,?_⟩
  ·rintro i x ys _ hi rfl ⟨rfl,bs,rfl,rfl⟩
   exact ⟨_,rfl,_,rfl,.inl ⟨by decide,by decide⟩,_,_,rfl,rfl,(show (0:Int) < 256 by decide),rfl,bs++[_],by rw [List.map_append]; rfl,by rw [List.length_append]; rfl⟩
  rintro ys _ ⟨rfl,bs,rfl,lb⟩
  have lb:bs.length=20:=lb
  refine ⟨_,rfl,_,rfl,?_,fun i ys M'=>M=M'/\ys=(bs.take i).map fun b=>wD [b],fun _ _ _ _ _=>rfl,⟨rfl,rfl⟩,?_,?_⟩
  ·show (bs.map D.int).length<=sizeLine
   rw [List.length_map]
   exact small_line (by omega)
  ·rintro i x ys _ hi hx ⟨rfl,rfl⟩
   obtain ⟨hi',rfl⟩:=item_int hx
   refine ⟨_,rfl,(show 1<=sizeLine by decide),rfl,?_⟩
   rw [List.take_succ_eq_append_getElem hi',List.map_append]
   rfl
  rintro ys _ ⟨rfl,rfl⟩
  obtain ⟨ws,ew,lw,hw⟩:∃ ws:List (List Int),((bs.take (bs.map D.int).length).map fun b=>wD [b])=ws.map wD/\ws.length=20/\W2 bs ws:=by
   refine ⟨bs.map fun b=>[b],?_,by rw [List.length_map]; exact lb,fun w h=>?_⟩
   ·rw [List.length_map,List.take_length,List.map_map]; rfl
   ·obtain ⟨b,hb,rfl⟩:=List.mem_map.mp h
    exact ⟨⟨List.cons_ne_nil _ _,(show 1<=2 by decide)⟩,fun c hc=>by rw [List.mem_singleton.mp hc]; exact hb⟩
  rw [show List.map (fun b=>wD [b]) (List.take _ bs)=ws.map wD from ew]
  refine ⟨4,rfl,⟨by decide,by decide⟩,fun j ρ M'=>∃ (ws:List (List Int)) (v4 v5:Option D),ρ=[some (.cell hd),some (.int b),some (.lst (bs.map .int)),some (.cell M.length),v4,v5]/\M'=M++[.lst (ws.map wD)]/\ws.length=20 + j/\W2 bs ws,fun _ _ _ _ _=>trivial,⟨ws,_,_,rfl,rfl,lw,hw⟩,?_,?_⟩
  ·rintro j x ρ M' hj rfl ⟨ws,v4,v5,rfl,rfl,lw,hw⟩
   have hj:j < 4:=hj
   refine ⟨_,rfl,ls_some ls_last,_,rfl,_,rfl,hd,20,rfl,hand_more hh,⟨by decide,by decide⟩,fun y y0 y1=>?_⟩
   refine ⟨_,_,_,rfl,rfl,atI_map (as:=bs) (j:=y.toNat) (by omega) (by omega),?_⟩
   refine ⟨_,rfl,_,rfl,hd,20,rfl,hand_more hh,⟨by decide,by decide⟩,fun z z0 z1=>?_⟩
   refine ⟨_,_,_,rfl,rfl,atI_map (as:=bs) (j:=z.toNat) (by omega) (by omega),(show 2<=sizeLine by decide),M.length,_,_,rfl,rfl,at_last,?_,?_⟩
   ·rw [List.length_map]
    exact Nat.lt_of_le_of_lt (by omega:_<=1000) (by decide)
   rw [set_last]
   exact .inl ⟨ws++[[bs[y.toNat]'(by omega),bs[z.toNat]'(by omega)]],_,_,rfl,by rw [List.map_append]; rfl,by rw [List.length_append,lw]; rfl,hw.snoc ⟨⟨List.cons_ne_nil _ _,(show 2<=2 by decide)⟩,fun c hc=>by rcases List.mem_cons.mp hc with z | z; rw [z]; exact List.getElem_mem _; rw [List.mem_singleton.mp z]; exact List.getElem_mem _⟩⟩
  rintro ρ M' ⟨ws,v4,v5,rfl,rfl,lw,hw⟩
  have lw:ws.length=24:=lw
  refine ⟨_,rfl,hd,24,rfl,hand_more hh,⟨by decide,by decide⟩,fun ss nds ls=>?_⟩
  have ls:ss.length=24:=by omega
  have lz:(ss.zip ws).length=24:=by rw [List.length_zip]; omega
  have az:∀ j (h1:j < ss.length) (h2:j < ws.length),(ss.zip ws)[j]?=some (ss[j],ws[j]):=fun j h1 h2=>by rw [List.getElem?_eq_getElem (by omega),List.getElem_zip]
  have e2:(ss.zip ws).map (·.2)=ws:=List.map_snd_zip (by omega)
  have k':=k (ss.zip ws) ⟨by omega,fun p hp=>by
   have:=hw p.2 (by rw [<- e2]; exact List.mem_map_of_mem hp)
   exact ⟨this.1.1,by have:=this.1.2; omega⟩,by rw [List.map_fst_zip (by omega)]; exact nds,by rw [e2]; exact few_two hw (by omega)⟩
  generalize ss.zip ws=L at lz az k'
  refine ⟨24,rfl,⟨by decide,by decide⟩,by decide,fun i ys M'=>M++[.lst (ws.map wD)]=M'/\ys=(L.take i).map pD,fun _ _ _ _ _=>trivial,⟨rfl,rfl⟩,?_,?_⟩
  ·rintro i x ys _ hi rfl ⟨rfl,rfl⟩
   have hi:i < 24:=hi
   refine ⟨_,rfl,_,rfl,_,_,_,rfl,rfl,atI_map (as:=ss) (j:=i) (by omega) (by omega),_,rfl,_,rfl,_,_,_,lst_last,rfl,atI_map (f:=wD) (as:=ws) (j:=i) (by omega) (by omega),(show 2<=sizeLine by decide),rfl,?_⟩
   have ea:=az i (by omega) (by omega)
   rw [List.getElem?_eq_getElem (by omega)] at ea
   rw [List.take_succ_eq_append_getElem (by omega),List.map_append,Option.some.inj ea]
   rfl
  ·rintro ys _ ⟨rfl,rfl⟩
   have eL:L.take (rngIt 0 (24:Int).toNat).n=L:=by
    show L.take 24=L
    rw [<- lz,List.take_length]
   rw [eL]
   exact dk_drop pre1 hM (below_lst (below_map (fun _=>below_p) L)) k'
open L3
abbrev spLaw (K:W.Frag):Sp:=L3.spLaw0 K
def tD (t:List Pr×List (List Int)):D:=.lst [.lst (t.1.map pD),.lst (t.2.map wD)]
def TGood (t:List Pr×List (List Int)):Prop:=Tf t.1/\t.2.length < 64/\∀ r,r∈t.2↔Ov (t.1.map (·.2)) r
theorem ok_law (T:Txt mg) {C:Addr} (C__law_open:Cal P w K mg base "_law_open" 1 ["_law_script", "_law_place"] (L3.spOf ⟨C,K⟩ dOpen)) (C__law_draw:Cal P w K mg base "_law_draw" 1 ["_law_hand", "_law_many"] (L3.spOf ⟨C,K⟩ dDraw)) (C__law_loose:Cal P w K mg base "_law_loose" 3 ["_law_hand", "_law_most", "_law_longest"] (L3.spOf ⟨C,K⟩ dLooseB)) (C__law_wide:Cal P w K mg base "_law_wide" 3 ["_law_hand"] (L3.spOf ⟨C,K⟩ dWideF)) (C__law_closing:Cal P w K mg base "_law_closing" 2 ["_law_table"] (L3.spOf ⟨C,K⟩ dClose)) (C__law_papers:Cal P w K mg base "_law_papers" 2 ["_law_hand", "_law_table", "_law_due"] (L3.spOf ⟨C,K⟩ dPapers)) (C__law_right:Cal P w K mg base "_law_right" 6 ["_law_table", "_law_due", "_law_paper"] (L3.spOf ⟨C,K⟩ dRight54)) {f:Addr} {fd:FuncData} (F:Fun K "law" "law" s_law f fd):FnOk P w K mg base CX0 8 f fd ["_law_script"] (L3.spOf ⟨C,K⟩ dLaw0):=by
 refine L3.Fun.ok3 F sc_law (fun ds M K3 h=>?_) (fun cdv A outer s H E hr=>?_)
 ·obtain ⟨ns,rfl,_⟩:=h
  rfl
 ·have SC:=sc_law
  have hu:=hr.units
  have hu1:=hu_of hr
  have hr__law_open:Room 1 _:=hr.mono (by first | decide | omega)
  have hr__law_draw:Room 1 _:=hr.mono (by first | decide | omega)
  have hr__law_loose:Room 3 _:=hr.mono (by first | decide | omega)
  have hr__law_wide:Room 3 _:=hr.mono (by first | decide | omega)
  have hr__law_closing:Room 2 _:=hr.mono (by first | decide | omega)
  have hr__law_papers:Room 2 _:=hr.mono (by first | decide | omega)
  have hr__law_right:Room 6 _:=hr.mono (by first | decide | omega)
  refine ⟨_,_,(pss_cons (ps_set (i:=1) SC.nd rfl (Or.inl rfl) (pe_lst pa_nil))
 (pss_cons (ps_for PassesOwn.never rfl (pi_range1 rfl T.b_range (pa_cons (pe_callB (call_max2 rfl) (by rfl) T.b_max PyProof.Rows.boot_max (pa_cons pe_int (pa_cons (pe_callB (call_min2 rfl) (by rfl) T.b_min PyProof.Rows.boot_min (pa_cons (pe_callB (bk_len (K:=K) rfl) (by rfl) T.b_len PySem.boot_len (pa_cons (pv 0) pa_nil)) (pa_cons pe_int pa_nil))) pa_nil))) pa_nil)) (pg_name (i:=2) SC.nd rfl (Or.inl rfl))
 (pss_cons (ps_set (i:=3) SC.nd rfl (Or.inl rfl) (pe_cal C__law_open hr__law_open rfl (pa_cons (pv 0) (pa_cons (pv 2) pa_nil))))
 (pss_cons (ps_set (i:=4) SC.nd rfl (Or.inl rfl) (pe_cal C__law_loose hr__law_loose rfl (pa_cons (pv 3) (pa_cons (pe_ix (L3.ux_ix (K':=K) rfl) (pe_lst (pa_cons pe_int (pa_cons pe_int (pa_cons pe_int pa_nil)))) (pe_cal C__law_draw hr__law_draw rfl (pa_cons (pv 3) (pa_cons pe_int pa_nil))) (fun _ _=>rfl)) (pa_cons pe_int pa_nil)))))
 (pss_cons (ps_if (pt_cmpR (L3.ux_eq (K':=K) rfl hu) (pe_cal C__law_draw hr__law_draw rfl (pa_cons (pv 3) (pa_cons pe_int pa_nil))) pe_int (nomark _))
 (pss_one (ps_set (i:=4) SC.nd rfl (Or.inl rfl) (pe_cal C__law_wide hr__law_wide rfl (pa_cons (pv 3) pa_nil))))
 pss_nil)
 (pss_cons (ps_set (i:=5) SC.nd rfl (Or.inl rfl) (pe_cal C__law_closing hr__law_closing rfl (pa_cons (pv 4) pa_nil)))
 (pss_cons (ps_expr (pe_bm PySem.F.plainAttrs_list PySem.F.slot_list_append PySem.F.type_list_append mt_append (pv 1) (pa_cons (pe_lst (pa_cons (pv 4) (pa_cons (pv 5) pa_nil))) pa_nil)))
 (pss_one (ps_for PassesOwn.never rfl (pi_list (pe_cal C__law_papers hr__law_papers rfl (pa_cons (pv 3) (pa_cons (pv 4) (pa_cons (pv 5) pa_nil))))) (pg_name (i:=6) SC.nd rfl (Or.inl rfl))
 (pss_one (ps_for PassesOwn.never rfl (pi_list (pe_slice (L3.ux_sl (K':=K) rfl) (pv 1) (po_some (pe_un un_neg pe_int)) po_none)) (pg_lst (n:=2) rfl (pgs_cons (pg_name (i:=7) SC.nd rfl (Or.inl rfl)) (pgs_cons (pg_name (i:=8) SC.nd rfl (Or.inl rfl)) pgs_nil)) (by rfl))
 (pss_one (ps_if (pt_not (pt_val (pe_cal C__law_right hr__law_right rfl (pa_cons (pv 7) (pa_cons (pv 8) (pa_cons (pv 6) pa_nil))))))
 (pss_one (ps_ret pe_bl))
 pss_nil))))))))))))
 (pss_one (ps_ret pe_bl)))),fun _=>(L3.s_seq (L3.s_asg (L3.s_lstC L3.s_nil) (L3.s_g 1))
 (L3.s_seq (L3.s_for (L3.s_ir1 (L3.s_cons (L3.s_cb L3.s_max2 (L3.s_cons L3.s_int (L3.s_cons (L3.s_cb L3.s_min2 (L3.s_cons (L3.s_cb L3.s_len (L3.s_cons (L3.s_var 0) L3.s_nil)) (L3.s_cons L3.s_int L3.s_nil))) L3.s_nil))) L3.s_nil)) (L3.s_g 2)
 (L3.s_seq (L3.s_asg (L3.s_call (L3.s_cons (L3.s_var 0) (L3.s_cons (L3.s_var 2) L3.s_nil))) (L3.s_g 3))
 (L3.s_seq (L3.s_asg (L3.s_call (L3.s_cons (L3.s_var 3) (L3.s_cons (L3.s_op L3.s_ix (L3.s_lst (L3.s_cons L3.s_int (L3.s_cons L3.s_int (L3.s_cons L3.s_int L3.s_nil)))) (L3.s_call (L3.s_cons (L3.s_var 3) (L3.s_cons L3.s_int L3.s_nil)))) (L3.s_cons L3.s_int L3.s_nil)))) (L3.s_g 4))
 (L3.s_seq (L3.s_ifS (L3.s_test (L3.s_op L3.s_eq (L3.s_call (L3.s_cons (L3.s_var 3) (L3.s_cons L3.s_int L3.s_nil))) L3.s_int))
 (L3.s_asg (L3.s_call (L3.s_cons (L3.s_var 3) L3.s_nil)) (L3.s_g 4))
 L3.s_next)
 (L3.s_seq (L3.s_asg (L3.s_call (L3.s_cons (L3.s_var 4) L3.s_nil)) (L3.s_g 5))
 (L3.s_seq (L3.s_drop (L3.s_append (L3.s_var 1) (L3.s_cons (L3.s_lst (L3.s_cons (L3.s_var 4) (L3.s_cons (L3.s_var 5) L3.s_nil))) L3.s_nil)))
 (L3.s_for (L3.s_il (L3.s_call (L3.s_cons (L3.s_var 3) (L3.s_cons (L3.s_var 4) (L3.s_cons (L3.s_var 5) L3.s_nil))))) (L3.s_g 6)
 (L3.s_for (L3.s_il (L3.s_sl L3.s_sl3 (L3.s_var 1) (L3.s_part (L3.s_un L3.s_neg L3.s_int)) L3.s_noPart)) (L3.s_glst (L3.s_gcons (L3.s_g 7) (L3.s_gcons (L3.s_g 8) L3.s_gnil)))
 (L3.s_ifS (L3.s_not (L3.s_b (L3.s_call (L3.s_cons (L3.s_var 7) (L3.s_cons (L3.s_var 8) (L3.s_cons (L3.s_var 6) L3.s_nil))))))
 (L3.s_ret L3.s_bl)
 L3.s_next)))))))))
 (L3.s_ret L3.s_bl))),fun ds M Kk hM hD h=>?_⟩
  obtain ⟨ns,rfl,h⟩:=h
  obtain ⟨rfl,hlen,k⟩:=h
  have lm:∀ ns:List Int,(ns.map D.int).length=ns.length:=fun ns=>List.length_map _
  refine ⟨Nat.zero_le _,?_⟩
  refine g_nx ?_
  dsimp only
  refine ⟨_,rfl,_,rfl,_,_,rfl,_,_,rfl,_,rfl,⟨?_,?_⟩,?_⟩
  ·rw [lm]; split <;> (try split) <;> omega
  ·rw [lm]; split <;> (try split) <;> omega
  refine ⟨fun j ρ M'=>∃ (v2 v3 v4 v5 v6 v7 v8:Option D) (ts:List (List Pr×List (List Int))) (R:List MO),ρ=[some (.frz (ns.map .int)),some (.cell 0),v2,v3,v4,v5,v6,v7,v8]/\M'=.lst (ts.map tD)::R/\(∀ t∈ts,TGood t)/\ts.length<=j,fun _ _ _ _ _=>trivial,⟨_,_,_,_,_,_,_,[],[],rfl,rfl,(fun _ h=>nomatch h),Nat.le_refl _⟩,?_,?_⟩
  ·rintro i x ρ M0 hi rfl ⟨v2,v3,v4,v5,v6,v7,v8,ts,R,rfl,rfl,hts,lts⟩
   have hi:i < 63:=by
    have h1:i < (if _ then _ else _:Int).toNat:=hi
    rw [lm] at h1
    revert h1
    split <;> (try split) <;> omega
   refine ⟨_,rfl,_,rfl,ns,_,rfl,⟨hlen,by omega,by omega⟩,?_⟩
   have hh:(MO.lst (ts.map tD)::R++[MO.hand])[(MO.lst (ts.map tD)::R).length]?=some .hand:=at_last
   have hp:0 < (MO.lst (ts.map tD)::R).length:=Nat.succ_pos _
   generalize (MO.lst (ts.map tD)::R).length=hd at hh hp
   rw [List.cons_append] at hh ⊢
   generalize R++[MO.hand]=R1 at hh
   refine ⟨_,rfl,(show 3<=sizeLine by decide),_,rfl,hd,3,rfl,hh,⟨by decide,by decide⟩,fun q q0 q1=>?_⟩
   obtain ⟨m,em,m1,m2⟩:∃ m:Int,L2.atI [D.int 2,D.int 4,D.int 6] q=some (.int m)/\1<=m/\m<=6:=by
    have:q=0\/q=1\/q=2:=by omega
    rcases this with rfl | rfl | rfl
    ·exact ⟨2,rfl,by decide,by decide⟩
    ·exact ⟨4,rfl,by decide,by decide⟩
    ·exact ⟨6,rfl,by decide,by decide⟩
   refine ⟨_,_,_,rfl,rfl,em,hd,m,4,rfl,⟨hh,m1,m2,by decide,by decide⟩,fun L bs lL nds lb hb=>?_⟩
   have tf:Tf L:=⟨lL,fun p hp=>(hb _ (List.mem_map_of_mem hp)).1,nds,few_three hb lb⟩
   clear lL nds lb hb
   refine g_nx ?_
   dsimp only
   refine st_by (fun ρ' M'=>∃ (L:List Pr),Tf L/\ρ'=[some (.frz (ns.map .int)),some (.cell 0),some (.int (0 + (i:Int))),some (.cell hd),some (.lst (L.map pD)),v5,v6,v7,v8]/\.lst (ts.map tD)::R1=M') (fun Kn hn=>?_) ?_
   ·refine ⟨_,rfl,hd,8,rfl,hh,⟨by decide,by decide⟩,fun z z0 z1=>.inl ⟨_,rfl,_,rfl,ite2 (fun h=>?_) (fun h=>?_)⟩⟩
    ·exact ⟨_,rfl,hd,rfl,hh,fun L tf=>hn _ _ ⟨L,tf,rfl,rfl⟩⟩
    ·exact hn _ _ ⟨L,tf,rfl,rfl⟩
   clear tf L
   rintro _ _ ⟨L,tf,rfl,rfl⟩
   refine ⟨_,rfl,L,rfl,tf,fun rs pw hrs=>?_⟩
   have ndr:rs.Nodup:=pw.imp fun {a b} h e=>by rw [e,lex_irr] at h; cases h
   have lr:rs.length < 64:=tf.few rs ndr fun z hz=>(hrs z).mp hz
   have tg:TGood (L,rs):=⟨tf,lr,hrs⟩
   refine g_nx ?_
   dsimp only
   refine ⟨_,rfl,(fun z=>nomatch z),_,rfl,_,rfl,(show 2<=sizeLine by decide),0,_,_,rfl,rfl,rfl,?_,?_⟩
   ·rw [List.length_map]
    exact Nat.lt_of_le_of_lt (by omega:_<=1000) (by decide)
   have hts':∀ t∈ts++[(L,rs)],TGood t:=fun t ht=>by
    rcases List.mem_append.mp ht with y | y
    ·exact hts t y
    ·rw [List.mem_singleton.mp y]; exact tg
   have lts':(ts++[(L,rs)]).length<=i + 1:=by rw [List.length_append]; show _ + 1<=_; omega
   have em:(ts.map tD++[D.lst [D.lst (L.map pD),D.lst (rs.map wD)]])=(ts++[(L,rs)]).map tD:=by rw [List.map_append]; rfl
   rw [List.set_cons_zero,em]
   generalize ts++[(L,rs)]=ts2 at hts' lts'
   have hh2:(MO.lst (ts2.map tD)::R1)[hd]?=some .hand:=by
    rw [List.getElem?_cons,if_neg (by omega)] at hh ⊢
    exact hh
   refine ⟨_,rfl,_,rfl,_,rfl,hd,L,rs.map iw,by unfold pE; rw [iws],⟨hh2,tf,by rw [List.length_map]; exact lr⟩,fun P=>⟨_,lst_last,?_⟩⟩
   refine ⟨fun t ρ' M'=>∃ v6 v7 v8:Option D,ρ'=[some (.frz (ns.map .int)),some (.cell 0),some (.int (0 + (i:Int))),some (.cell hd),some (.lst (L.map pD)),some (.lst (rs.map wD)),v6,v7,v8]/\M'=MO.lst (ts2.map tD)::R1++[.lst (P.map pE)],fun _ _ _ _ ⟨_,_,_,_,z⟩=>by rw [z]; exact lst_last,⟨_,_,_,rfl,rfl⟩,?_,?_⟩
   ·rintro t x ρ' M' ht hx ⟨v6,v7,v8,rfl,rfl⟩
    obtain ⟨ht',rfl⟩:=item_map hx
    generalize P[t]=us
    refine g_nx ?_
    refine ⟨_,rfl,_,rfl,_,rfl,_,rfl,_,rfl,fun u ρ' M'=>∃ v7 v8:Option D,ρ'=[some (.frz (ns.map .int)),some (.cell 0),some (.int (0 + (i:Int))),some (.cell hd),some (.lst (L.map pD)),some (.lst (rs.map wD)),some (pE us),v7,v8]/\M'=MO.lst (ts2.map tD)::R1++[.lst (P.map pE)],fun _ _ _ _ _=>rfl,⟨_,_,rfl,rfl⟩,?_,?_⟩
    ·rintro u x ρ' M' hu hx ⟨v7,v8,rfl,rfl⟩
     have hx:(cut (ts2.map tD) (some (-2)) none)[u]?=some x:=hx
     rw [cut_map] at hx
     obtain ⟨hu',rfl⟩:=item_map hx
     have hg:=hts' _ (cut_mem (List.getElem_mem hu'))
     generalize (cut ts2 (some (-2)) none)[u]=g at hg
     refine ⟨_,rfl,rfl,_,_,rfl,_,_,rfl,rfl,?_⟩
     exact ⟨_,rfl,_,rfl,_,rfl,g.1,g.2,us,rfl,hg.1,hg.2,_,rfl,iteF (.inl ⟨_,_,rfl,rfl⟩)⟩
    ·rintro ρ' M' ⟨v7,v8,rfl,rfl⟩
     exact .inl ⟨_,_,_,rfl,rfl⟩
   ·rintro ρ' M' ⟨v6,v7,v8,rfl,rfl⟩
    exact .inl ⟨_,_,_,_,_,_,_,ts2,_,rfl,rfl,hts',lts'⟩
  ·rintro ρ M' ⟨v2,v3,v4,v5,v6,v7,v8,ts,R,rfl,rfl,_⟩
   exact .inl (k _)
end
def len1 {τ:Type} {Q:List τ->Prop} (h:∀ a,Q [a]) (us:List τ) (hl:us.length=1):Q us:=match us,hl with | [a],_=>h a
def len2 {τ:Type} {Q:List τ->Prop} (h:∀ a b,Q [a,b]) (us:List τ) (hl:us.length=2):Q us:=match us,hl with | [a,b],_=>h a b
def len3 {τ:Type} {Q:List τ->Prop} (h:∀ a b c,Q [a,b,c]) (us:List τ) (hl:us.length=3):Q us:=match us,hl with | [a,b,c],_=>h a b c
def len4 {τ:Type} {Q:List τ->Prop} (h:∀ a b c d,Q [a,b,c,d]) (us:List τ) (hl:us.length=4):Q us:=match us,hl with | [a,b,c,d],_=>h a b c d
def all_mk {l:W.OpenLaw} {w:World} {K:W.Frag} {h:Heap} {mg:Str->Option Value} {fa:Addr} (X:K.In h) (G:h.Ns mainGlobals mg) (hfa:mg "law"=some (.ref fa))
    {f0:Addr} {od0 an0:Option Addr} {sl0:Array (Option Value)} {oc0 kV0 dc0 pm0 cd0 ct0:Value}
    {f1:Addr} {od1 an1:Option Addr} {sl1:Array (Option Value)} {oc1 kV1 dc1 pm1 cd1 ct1:Value}
    {f2:Addr} {od2 an2:Option Addr} {sl2:Array (Option Value)} {oc2 kV2 dc2 pm2 cd2 ct2:Value}
    {f3:Addr} {od3 an3:Option Addr} {sl3:Array (Option Value)} {oc3 kV3 dc3 pm3 cd3 ct3:Value}
    {f4:Addr} {od4 an4:Option Addr} {sl4:Array (Option Value)} {oc4 kV4 dc4 pm4 cd4 ct4:Value}
    {f5:Addr} {od5 an5:Option Addr} {sl5:Array (Option Value)} {oc5 kV5 dc5 pm5 cd5 ct5:Value}
    {f6:Addr} {od6 an6:Option Addr} {sl6:Array (Option Value)} {oc6 kV6 dc6 pm6 cd6 ct6:Value}
    {f7:Addr} {od7 an7:Option Addr} {sl7:Array (Option Value)} {oc7 kV7 dc7 pm7 cd7 ct7:Value}
    {f8:Addr} {od8 an8:Option Addr} {sl8:Array (Option Value)} {oc8 kV8 dc8 pm8 cd8 ct8:Value}
    {f9:Addr} {od9 an9:Option Addr} {sl9:Array (Option Value)} {oc9 kV9 dc9 pm9 cd9 ct9:Value}
    {f10:Addr} {od10 an10:Option Addr} {sl10:Array (Option Value)} {oc10 kV10 dc10 pm10 cd10 ct10:Value}
    {f11:Addr} {od11 an11:Option Addr} {sl11:Array (Option Value)} {oc11 kV11 dc11 pm11 cd11 ct11:Value}
    {f12:Addr} {od12 an12:Option Addr} {sl12:Array (Option Value)} {oc12 kV12 dc12 pm12 cd12 ct12:Value}
    {f13:Addr} {od13 an13:Option Addr} {sl13:Array (Option Value)} {oc13 kV13 dc13 pm13 cd13 ct13:Value}
    {f14:Addr} {od14 an14:Option Addr} {sl14:Array (Option Value)} {oc14 kV14 dc14 pm14 cd14 ct14:Value}
    {f15:Addr} {od15 an15:Option Addr} {sl15:Array (Option Value)} {oc15 kV15 dc15 pm15 cd15 ct15:Value}
    {f16:Addr} {od16 an16:Option Addr} {sl16:Array (Option Value)} {oc16 kV16 dc16 pm16 cd16 ct16:Value}
    {f17:Addr} {od17 an17:Option Addr} {sl17:Array (Option Value)} {oc17 kV17 dc17 pm17 cd17 ct17:Value}
    (a0:W.nsIn K mainGlobals "_law_draw"=some (some (.ref f0)))
    (l0:K.lookup f0=some ⟨oc0,od0,.func (W.fnOf "_law_draw" "_law_draw" (defArgs s__law_draw) (defBody s__law_draw) (defScope s__law_draw) .none kV0 dc0 pm0 an0 cd0 ct0),sl0⟩)
    (c0:W.codeIn K cd0 "_law_draw"=true) (k0:W.keepIn K (.ref f0)=true)
    (a1:W.nsIn K mainGlobals "_law_open"=some (some (.ref f1)))
    (l1:K.lookup f1=some ⟨oc1,od1,.func (W.fnOf "_law_open" "_law_open" (defArgs s__law_open) (defBody s__law_open) (defScope s__law_open) .none kV1 dc1 pm1 an1 cd1 ct1),sl1⟩)
    (c1:W.codeIn K cd1 "_law_open"=true) (k1:W.keepIn K (.ref f1)=true)
    (a2:W.nsIn K mainGlobals "_law_bytes"=some (some (.ref f2)))
    (l2:K.lookup f2=some ⟨oc2,od2,.func (W.fnOf "_law_bytes" "_law_bytes" (defArgs s__law_bytes) (defBody s__law_bytes) (defScope s__law_bytes) .none kV2 dc2 pm2 an2 cd2 ct2),sl2⟩)
    (c2:W.codeIn K cd2 "_law_bytes"=true) (k2:W.keepIn K (.ref f2)=true)
    (a3:W.nsIn K mainGlobals "_law_words"=some (some (.ref f3)))
    (l3:K.lookup f3=some ⟨oc3,od3,.func (W.fnOf "_law_words" "_law_words" (defArgs s__law_words) (defBody s__law_words) (defScope s__law_words) .none kV3 dc3 pm3 an3 cd3 ct3),sl3⟩)
    (c3:W.codeIn K cd3 "_law_words"=true) (k3:W.keepIn K (.ref f3)=true)
    (a4:W.nsIn K mainGlobals "_law_signs"=some (some (.ref f4)))
    (l4:K.lookup f4=some ⟨oc4,od4,.func (W.fnOf "_law_signs" "_law_signs" (defArgs s__law_signs) (defBody s__law_signs) (defScope s__law_signs) .none kV4 dc4 pm4 an4 cd4 ct4),sl4⟩)
    (c4:W.codeIn K cd4 "_law_signs"=true) (k4:W.keepIn K (.ref f4)=true)
    (a5:W.nsIn K mainGlobals "_law_any_words"=some (some (.ref f5)))
    (l5:K.lookup f5=some ⟨oc5,od5,.func (W.fnOf "_law_any_words" "_law_any_words" (defArgs s__law_any_words) (defBody s__law_any_words) (defScope s__law_any_words) .none kV5 dc5 pm5 an5 cd5 ct5),sl5⟩)
    (c5:W.codeIn K cd5 "_law_any_words"=true) (k5:W.keepIn K (.ref f5)=true)
    (a6:W.nsIn K mainGlobals "_law_loose"=some (some (.ref f6)))
    (l6:K.lookup f6=some ⟨oc6,od6,.func (W.fnOf "_law_loose" "_law_loose" (defArgs s__law_loose) (defBody s__law_loose) (defScope s__law_loose) .none kV6 dc6 pm6 an6 cd6 ct6),sl6⟩)
    (c6:W.codeIn K cd6 "_law_loose"=true) (k6:W.keepIn K (.ref f6)=true)
    (a7:W.nsIn K mainGlobals "rest_between"=some (some (.ref f7)))
    (l7:K.lookup f7=some ⟨oc7,od7,.func (W.fnOf "rest_between" "rest_between" (defArgs s_rest_between) (defBody s_rest_between) (defScope s_rest_between) .none kV7 dc7 pm7 an7 cd7 ct7),sl7⟩)
    (c7:W.codeIn K cd7 "rest_between"=true) (k7:W.keepIn K (.ref f7)=true)
    (a8:W.nsIn K mainGlobals "rests_between"=some (some (.ref f8)))
    (l8:K.lookup f8=some ⟨oc8,od8,.func (W.fnOf "rests_between" "rests_between" (defArgs s_rests_between) (defBody s_rests_between) (defScope s_rests_between) .none kV8 dc8 pm8 an8 cd8 ct8),sl8⟩)
    (c8:W.codeIn K cd8 "rests_between"=true) (k8:W.keepIn K (.ref f8)=true)
    (a9:W.nsIn K mainGlobals "first_rests"=some (some (.ref f9)))
    (l9:K.lookup f9=some ⟨oc9,od9,.func (W.fnOf "first_rests" "first_rests" (defArgs s_first_rests) (defBody s_first_rests) (defScope s_first_rests) .none kV9 dc9 pm9 an9 cd9 ct9),sl9⟩)
    (c9:W.codeIn K cd9 "first_rests"=true) (k9:W.keepIn K (.ref f9)=true)
    (a10:W.nsIn K mainGlobals "overhangs"=some (some (.ref f10)))
    (l10:K.lookup f10=some ⟨oc10,od10,.func (W.fnOf "overhangs" "overhangs" (defArgs s_overhangs) (defBody s_overhangs) (defScope s_overhangs) .none kV10 dc10 pm10 an10 cd10 ct10),sl10⟩)
    (c10:W.codeIn K cd10 "overhangs"=true) (k10:W.keepIn K (.ref f10)=true)
    (a11:W.nsIn K mainGlobals "shows_one_way"=some (some (.ref f11)))
    (l11:K.lookup f11=some ⟨oc11,od11,.func (W.fnOf "shows_one_way" "shows_one_way" (defArgs s_shows_one_way) (defBody s_shows_one_way) (defScope s_shows_one_way) .none kV11 dc11 pm11 an11 cd11 ct11),sl11⟩)
    (c11:W.codeIn K cd11 "shows_one_way"=true) (k11:W.keepIn K (.ref f11)=true)
    (a12:W.nsIn K mainGlobals "_law_rest"=some (some (.ref f12)))
    (l12:K.lookup f12=some ⟨oc12,od12,.func (W.fnOf "_law_rest" "_law_rest" (defArgs s__law_rest) (defBody s__law_rest) (defScope s__law_rest) .none kV12 dc12 pm12 an12 cd12 ct12),sl12⟩)
    (c12:W.codeIn K cd12 "_law_rest"=true) (k12:W.keepIn K (.ref f12)=true)
    (a13:W.nsIn K mainGlobals "_law_closing"=some (some (.ref f13)))
    (l13:K.lookup f13=some ⟨oc13,od13,.func (W.fnOf "_law_closing" "_law_closing" (defArgs s__law_closing) (defBody s__law_closing) (defScope s__law_closing) .none kV13 dc13 pm13 an13 cd13 ct13),sl13⟩)
    (c13:W.codeIn K cd13 "_law_closing"=true) (k13:W.keepIn K (.ref f13)=true)
    (a14:W.nsIn K mainGlobals "_law_papers"=some (some (.ref f14)))
    (l14:K.lookup f14=some ⟨oc14,od14,.func (W.fnOf "_law_papers" "_law_papers" (defArgs s__law_papers) (defBody s__law_papers) (defScope s__law_papers) .none kV14 dc14 pm14 an14 cd14 ct14),sl14⟩)
    (c14:W.codeIn K cd14 "_law_papers"=true) (k14:W.keepIn K (.ref f14)=true)
    (a15:W.nsIn K mainGlobals "_law_right"=some (some (.ref f15)))
    (l15:K.lookup f15=some ⟨oc15,od15,.func (W.fnOf "_law_right" "_law_right" (defArgs s__law_right) (defBody s__law_right) (defScope s__law_right) .none kV15 dc15 pm15 an15 cd15 ct15),sl15⟩)
    (c15:W.codeIn K cd15 "_law_right"=true) (k15:W.keepIn K (.ref f15)=true)
    (a16:W.nsIn K mainGlobals "_law_wide"=some (some (.ref f16)))
    (l16:K.lookup f16=some ⟨oc16,od16,.func (W.fnOf "_law_wide" "_law_wide" (defArgs s__law_wide) (defBody s__law_wide) (defScope s__law_wide) .none kV16 dc16 pm16 an16 cd16 ct16),sl16⟩)
    (c16:W.codeIn K cd16 "_law_wide"=true) (k16:W.keepIn K (.ref f16)=true)
    (a17:W.nsIn K mainGlobals "law"=some (some (.ref f17)))
    (l17:K.lookup f17=some ⟨oc17,od17,.func (W.fnOf "law" "law" (defArgs s_law) (defBody s_law) (defScope s_law) .none kV17 dc17 pm17 an17 cd17 ct17),sl17⟩)
    (c17:W.codeIn K cd17 "law"=true) (k17:W.keepIn K (.ref f17)=true)
    (z_len:W.nsIn K mainGlobals "len"=some none)
    (z_abs:W.nsIn K mainGlobals "abs"=some none)
    (z_max:W.nsIn K mainGlobals "max"=some none)
    (z_min:W.nsIn K mainGlobals "min"=some none)
    (z_all:W.nsIn K mainGlobals "all"=some none)
    (z_range:W.nsIn K mainGlobals "range"=some none)
    (z_int:W.nsIn K mainGlobals "int"=some none)
    (z_tuple:W.nsIn K mainGlobals "tuple"=some none)
    (z_list:W.nsIn K mainGlobals "list"=some none)
    (z_set:W.nsIn K mainGlobals "set"=some none)
    (z_sorted:W.nsIn K mainGlobals "sorted"=some none)
    (z_enumerate:W.nsIn K mainGlobals "enumerate"=some none)
   :∃ fd:FuncData,(∀ (s:Shared) (v:Value),BindsTo s fd ⟨[v],[]⟩ [("_law_script",v)])/\∀ base:Heap,K.In base->base.Ns mainGlobals mg->FnOk l.prog w K mg base CX0 8 fa fd ["_law_script"] (spLaw K):=by
  have e:=hfa.symm.trans (W.mg_of X G a17)
  cases e
  have T:Txt mg:=⟨W.mg_none_of X G z_len,W.mg_none_of X G z_abs,W.mg_none_of X G z_max,W.mg_none_of X G z_min,W.mg_none_of X G z_all,W.mg_none_of X G z_range,W.mg_none_of X G z_int,W.mg_none_of X G z_tuple,W.mg_none_of X G z_list,W.mg_none_of X G z_set,W.mg_none_of X G z_sorted,W.mg_none_of X G z_enumerate⟩
  have F0:=fun_mk (st:=s__law_draw) l0 c0 k0
  have b0:=F0.binds (ps:=["_law_hand", "_law_many"]) fun _ _ _ _ _ _=>len2 fun _ _=>rfl
  have F1:=fun_mk (st:=s__law_open) l1 c1 k1
  have b1:=F1.binds (ps:=["_law_script", "_law_place"]) fun _ _ _ _ _ _=>len2 fun _ _=>rfl
  have F2:=fun_mk (st:=s__law_bytes) l2 c2 k2
  have b2:=F2.binds (ps:=["_law_hand", "_law_most"]) fun _ _ _ _ _ _=>len2 fun _ _=>rfl
  have F3:=fun_mk (st:=s__law_words) l3 c3 k3
  have b3:=F3.binds (ps:=["_law_hand", "_law_some", "_law_most", "_law_longest"]) fun _ _ _ _ _ _=>len4 fun _ _ _ _=>rfl
  have F4:=fun_mk (st:=s__law_signs) l4 c4 k4
  have b4:=F4.binds (ps:=["_law_hand", "_law_many"]) fun _ _ _ _ _ _=>len2 fun _ _=>rfl
  have F5:=fun_mk (st:=s__law_any_words) l5 c5 k5
  have b5:=F5.binds (ps:=["_law_hand", "_law_some"]) fun _ _ _ _ _ _=>len2 fun _ _=>rfl
  have F6:=fun_mk (st:=s__law_loose) l6 c6 k6
  have b6:=F6.binds (ps:=["_law_hand", "_law_most", "_law_longest"]) fun _ _ _ _ _ _=>len3 fun _ _ _=>rfl
  have F7:=fun_mk (st:=s_rest_between) l7 c7 k7
  have b7:=F7.binds (ps:=["one", "other"]) fun _ _ _ _ _ _=>len2 fun _ _=>rfl
  have F8:=fun_mk (st:=s_rests_between) l8 c8 k8
  have b8:=F8.binds (ps:=["part", "words"]) fun _ _ _ _ _ _=>len2 fun _ _=>rfl
  have F9:=fun_mk (st:=s_first_rests) l9 c9 k9
  have b9:=F9.binds (ps:=["words"]) fun _ _ _ _ _ _=>len1 fun _=>rfl
  have F10:=fun_mk (st:=s_overhangs) l10 c10 k10
  have b10:=F10.binds (ps:=["table"]) fun _ _ _ _ _ _=>len1 fun _=>rfl
  have F11:=fun_mk (st:=s_shows_one_way) l11 c11 k11
  have b11:=F11.binds (ps:=["table", "some"]) fun _ _ _ _ _ _=>len2 fun _ _=>rfl
  have F12:=fun_mk (st:=s__law_rest) l12 c12 k12
  have b12:=F12.binds (ps:=["_law_longer", "_law_shorter"]) fun _ _ _ _ _ _=>len2 fun _ _=>rfl
  have F13:=fun_mk (st:=s__law_closing) l13 c13 k13
  have b13:=F13.binds (ps:=["_law_table"]) fun _ _ _ _ _ _=>len1 fun _=>rfl
  have F14:=fun_mk (st:=s__law_papers) l14 c14 k14
  have b14:=F14.binds (ps:=["_law_hand", "_law_table", "_law_due"]) fun _ _ _ _ _ _=>len3 fun _ _ _=>rfl
  have F15:=fun_mk (st:=s__law_right) l15 c15 k15
  have b15:=F15.binds (ps:=["_law_table", "_law_due", "_law_paper"]) fun _ _ _ _ _ _=>len3 fun _ _ _=>rfl
  have F16:=fun_mk (st:=s__law_wide) l16 c16 k16
  have b16:=F16.binds (ps:=["_law_hand"]) fun _ _ _ _ _ _=>len1 fun _=>rfl
  have F17:=fun_mk (st:=s_law) l17 c17 k17
  refine ⟨W.fnOf "law" "law" (defArgs s_law) (defBody s_law) (defScope s_law) .none kV17 dc17 pm17 an17 cd17 ct17,fun s v=>.of_eq rfl,fun base _ _=>?_⟩
  have C__law_draw:=cal_mk (P:=l.prog) (w:=w) (base:=base) F0 (ok__law_draw T  F0) (W.mg_of X G a0) b0
  have D__law_draw:=L3.Cal.imp C__law_draw fun _ _ _ _ h=>L3.a_draw (C:=⟨0,K⟩) h
  have C__law_open:=cal_mk (P:=l.prog) (w:=w) (base:=base) F1 (ok__law_open T  F1) (W.mg_of X G a1) b1
  have D__law_open:=L3.Cal.imp C__law_open fun _ _ _ _ h=>L3.a_open (C:=⟨0,K⟩) h
  have C__law_bytes:=cal_mk (P:=l.prog) (w:=w) (base:=base) F2 (ok__law_bytes T C__law_draw F2) (W.mg_of X G a2) b2
  have D__law_bytes:=L3.Cal.imp C__law_bytes fun _ _ _ _ h=>L3.a_bytes (C:=⟨0,K⟩) h
  have C__law_words:=cal_mk (P:=l.prog) (w:=w) (base:=base) F3 (ok__law_words T C__law_draw F3) (W.mg_of X G a3) b3
  have D__law_words:=L3.Cal.imp C__law_words fun _ _ _ _ h=>L3.a_wordsB (C:=⟨0,K⟩) h
  have C__law_signs:=cal_mk (P:=l.prog) (w:=w) (base:=base) F4 (ok__law_signs T C__law_draw F4) (W.mg_of X G a4) b4
  have D__law_signs:=L3.Cal.imp C__law_signs fun _ _ _ _ h=>L3.a_signs (C:=⟨0,K⟩) h
  have C__law_any_words:=cal_mk (P:=l.prog) (w:=w) (base:=base) F5 (ok__law_any_words (C:=0) T D__law_draw F5) (W.mg_of X G a5) b5
  have C__law_loose:=cal_mk (P:=l.prog) (w:=w) (base:=base) F6 (ok__law_loose (C:=0) T D__law_bytes D__law_draw D__law_words C__law_any_words D__law_signs F6) (W.mg_of X G a6) b6
  have C_rest_between:=cal_mk (P:=l.prog) (w:=w) (base:=base) F7 (ok_rest_between (C:=0) T  F7) (W.mg_of X G a7) b7
  have C_rests_between:=cal_mk (P:=l.prog) (w:=w) (base:=base) F8 (ok_rests_between (C:=0) T C_rest_between F8) (W.mg_of X G a8) b8
  have C_first_rests:=cal_mk (P:=l.prog) (w:=w) (base:=base) F9 (ok_first_rests (C:=0) T C_rests_between F9) (W.mg_of X G a9) b9
  have C_overhangs:=cal_mk (P:=l.prog) (w:=w) (base:=base) F10 (ok_overhangs (C:=0) T C_first_rests C_rests_between F10) (W.mg_of X G a10) b10
  have C_shows_one_way:=cal_mk (P:=l.prog) (w:=w) (base:=base) F11 (ok_shows_one_way (C:=0) T C_overhangs F11) (W.mg_of X G a11) b11
  have C__law_rest:=cal_mk (P:=l.prog) (w:=w) (base:=base) F12 (ok__law_rest (C:=0) T  F12) (W.mg_of X G a12) b12
  have C__law_closing:=cal_mk (P:=l.prog) (w:=w) (base:=base) F13 (ok__law_closing (C:=0) T C__law_rest F13) (W.mg_of X G a13) b13
  have C__law_papers:=cal_mk (P:=l.prog) (w:=w) (base:=base) F14 (ok__law_papers (C:=0) T D__law_draw F14) (W.mg_of X G a14) b14
  have C__law_right:=cal_mk (P:=l.prog) (w:=w) (base:=base) F15 (ok__law_right (C:=0) T C_shows_one_way F15) (W.mg_of X G a15) b15
  have C__law_wide:=cal_mk (P:=l.prog) (w:=w) (base:=base) F16 (ok__law_wide (C:=0) T D__law_draw D__law_signs F16) (W.mg_of X G a16) b16
  exact (ok_law (C:=0) T D__law_open D__law_draw C__law_loose C__law_wide C__law_closing C__law_papers C__law_right F17).imp fun _ _ _ _ h=>L3.law_in0 (C:=⟨0,K⟩) h
def walk {l:W.OpenLaw} {q:Program} {loose:List Str} {XP:(Str->Option Value)->Heap->Prop} {YP:World->Heap->Prop} {d:DefRec} {K:Params->W.Frag} (hn:l.most=some 63) (hdf:d.params.defaults=[])
  (hY:∀ (w:World) (h:Heap),YP w h->(K w.params).In h)
  (F:∀ (w:World) (mg:Str->Option Value) (fa:Addr) (h:Heap),(K w.params).In h->h.Ns mainGlobals mg->mg d.name=some (.ref fa) ->
   ∃ fd:FuncData,(∀ (s:Shared) (u:Value),BindsTo s fd ⟨[u],[]⟩ [("_law_script",u)])/\∀ base:Heap,(K w.params).In base->base.Ns mainGlobals mg->FnOk l.prog w (K w.params) mg base CX0 8 fa fd ["_law_script"] (spLaw (K w.params))) :
  W.WalkO q loose XP YP l.row.toRowW d [] (fun f vs=>PySem.call f vs) :=
 L2.walk_of (n:=63) (k:=8) (x:="_law_script") (CX:=fun _=>CX0) (sp:=fun w=>spLaw (K w.params)) hn (by decide) hdf ⟨rfl,by decide,by decide⟩ hY F (fun _ _ a ns hl _ hS=>⟨a,ns,rfl,hS,hl,fun _=>rfl⟩) fun _ _ _ _ _ z=>z
end K54
def PySem.W.Fast.tw16920410587678346503:Nat:=0
def PySem.W.Fast.tw4934766301695185532:Nat:=0
def PySem.W.Fast.tw2297843878693902914:Nat:=0
def PySem.W.Fast.tw12467854473254887638:Nat:=0
def PySem.W.Fast.tw13527798242173910088:Nat:=0
def PySem.W.Fast.tw7732523623206130853:Nat:=0
def PySem.W.Fast.tw15337795330905065594:Nat:=0
def PySem.W.Fast.tw1339298339815960943:Nat:=0
def PySem.W.Fast.tw5084278534332553450:Nat:=0
def PySem.W.Fast.tw5051170667633149194:Nat:=0
def PySem.W.Fast.tw18179370285536169142:Nat:=0
def PySem.W.Fast.tw2606097491493171077:Nat:=0
def PySem.W.Fast.tw14081848081849326696:Nat:=0
def PySem.W.Fast.tw12578928760603671055:Nat:=0
def PySem.W.Fast.tw2961844457582317519:Nat:=0
def PySem.W.Fast.tw11881546024480474850:Nat:=0
def PySem.W.Fast.tw12600677197123368746:Nat:=0
def PySem.W.Fast.tw2682186001974637317:Nat:=0
def PySem.W.Fast.tw1979318307557244448:Nat:=0
def PySem.W.Fast.tw8950144599174218549:Nat:=0
def PySem.W.Fast.tw5384935503918566356:Nat:=0
def PySem.W.Fast.tw2260907818609934170:Nat:=0
def PySem.W.Fast.tw5505168440502544558:Nat:=0
def PySem.W.Fast.tw14495967282749216354:Nat:=0
def PySem.W.Fast.tw5899336457790007063:Nat:=0
def PySem.W.Fast.tw5468122563382206727:Nat:=0
def PySem.W.Fast.tw13758417479371455614:Nat:=0
def PySem.W.Fast.tw1895824434138910587:Nat:=0
def PySem.W.Fast.tw11373434188410572946:Nat:=0
def PySem.W.Fast.tw10413631237563981276:Nat:=0
def PySem.W.Fast.tw10262936329838681216:Nat:=0
def PySem.W.Fast.tw14717349089523262641:Nat:=0
def PySem.W.Fast.tw15955030154661952753:Nat:=0
def PySem.W.Fast.tw15052351569333648816:Nat:=0
def PySem.W.Fast.tw13571904785486456314:Nat:=0
def PySem.W.Fast.tw628917485092894511:Nat:=0
open PySem PySem.W PyProof.Rows
set_option maxRecDepth 100000 in
set_option maxHeartbeats 0 in
theorem PySem.Challenge.cw_skewread_k54_papers_looked_at_holds : PySem.Challenge.rw_skewread_k54_papers_looked_at.Holds := by
  w_on; o_law; k_head; (case hw=>w_witness2)
  k_fill
  refine K54.walk (l:=PySem.Challenge.rw_skewread_k54_papers_looked_at) rfl rfl (fun w h Y=>PySem.W.kIn_of Y) ?F
  case F =>
    intro w mg fa h KX G hmg
    refine' K54.all_mk KX G hmg ?a0 ?l0 ?c0 ?k0 ?a1 ?l1 ?c1 ?k1 ?a2 ?l2 ?c2 ?k2 ?a3 ?l3 ?c3 ?k3 ?a4 ?l4 ?c4 ?k4 ?a5 ?l5 ?c5 ?k5 ?a6 ?l6 ?c6 ?k6 ?a7 ?l7 ?c7 ?k7 ?a8 ?l8 ?c8 ?k8 ?a9 ?l9 ?c9 ?k9 ?a10 ?l10 ?c10 ?k10 ?a11 ?l11 ?c11 ?k11 ?a12 ?l12 ?c12 ?k12 ?a13 ?l13 ?c13 ?k13 ?a14 ?l14 ?c14 ?k14 ?a15 ?l15 ?c15 ?k15 ?a16 ?l16 ?c16 ?k16 ?a17 ?l17 ?c17 ?k17 ?z_len ?z_abs ?z_max ?z_min ?z_all ?z_range ?z_int ?z_tuple ?z_list ?z_set ?z_sorted ?z_enumerate
    (case a0=>k_is); (case l0=>k_is); (case c0=>k_is); (case k0=>k_is); (case a1=>k_is); (case l1=>k_is)
    (case c1=>k_is); (case k1=>k_is); (case a2=>k_is); (case l2=>k_is); (case c2=>k_is); (case k2=>k_is)
    (case a3=>k_is); (case l3=>k_is); (case c3=>k_is); (case k3=>k_is); (case a4=>k_is); (case l4=>k_is)
    (case c4=>k_is); (case k4=>k_is); (case a5=>k_is); (case l5=>k_is); (case c5=>k_is); (case k5=>k_is)
    (case a6=>k_is); (case l6=>k_is); (case c6=>k_is); (case k6=>k_is); (case a7=>k_is); (case l7=>k_is)
    (case c7=>k_is); (case k7=>k_is); (case a8=>k_is); (case l8=>k_is); (case c8=>k_is); (case k8=>k_is)
    (case a9=>k_is); (case l9=>k_is); (case c9=>k_is); (case k9=>k_is); (case a10=>k_is); (case l10=>k_is)
    (case c10=>k_is); (case k10=>k_is); (case a11=>k_is); (case l11=>k_is); (case c11=>k_is); (case k11=>k_is)
    (case a12=>k_is); (case l12=>k_is); (case c12=>k_is); (case k12=>k_is); (case a13=>k_is); (case l13=>k_is)
    (case c13=>k_is); (case k13=>k_is); (case a14=>k_is); (case l14=>k_is); (case c14=>k_is); (case k14=>k_is)
    (case a15=>k_is); (case l15=>k_is); (case c15=>k_is); (case k15=>k_is); (case a16=>k_is); (case l16=>k_is)
    (case c16=>k_is); (case k16=>k_is); (case a17=>k_is); (case l17=>k_is); (case c17=>k_is); (case k17=>k_is)
    (case z_len=>k_is); (case z_abs=>k_is); (case z_max=>k_is); (case z_min=>k_is); (case z_all=>k_is); (case z_range=>k_is)
    (case z_int=>k_is); (case z_tuple=>k_is); (case z_list=>k_is); (case z_set=>k_is); (case z_sorted=>k_is); (case z_enumerate=>k_is)
#print axioms PySem.Challenge.cw_skewread_k54_papers_looked_at_holds