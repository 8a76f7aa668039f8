import PyProof.Rows.All
import Wide.All
import OpenK.AllK
import Wide.FinOn
import Lean
import PyProof.EqAt
import PyProof.EqKinds
import PyProof.TupleCall
import PyProof.DictItems
import KE.KPairComp
import KE.KDictList
import PyProof.ListRange
import KE.KUnpack
import KE.KEqDict
import PyProof.DictFindH
import KE.KDictSum
import PyProof.AutoListH
import PyProof.SumAny
import PyProof.Rows.Range3
import KE.KStateDown
import KE.KSortTup
import KE.KLam
import KE.KNestM
import KE.KDictOf
import PyProof.AttrMissHeap
import KE.KRevSl
import PyProof.RaisesMany
import PyProof.ExcInit
import PyProof.ExcClass2
import PyProof.RulesTry
import PyProof.PassesOwn
import OpenK.KOwn
import PyProof.RulesDel
import KE.KIsAll
import PyProof.EnumMake
import PyProof.LayNew
import PyProof.ZipIter
import PyProof.Rows.ZipGen
import KE.KIntText
import KE.KMinKey
import PySem.Challenge.RW_skewread_k27_telling
set_option Elab.async false
set_option linter.all false
set_option maxRecDepth 100000
local macro_rules | `(def $n:declId $s:optDeclSig $v:declVal)=>`(noncomputable def $n:declId $s:optDeclSig $v:declVal)
local macro_rules | `(abbrev $n:declId $s:optDeclSig $v:declVal)=>`(noncomputable abbrev $n:declId $s:optDeclSig $v:declVal)
namespace L2
open PySem PySem.Spec PyProof.Rows
abbrev Key:=Sum Int Str
def keyIs:Key->Value->Bool
 | .inl k,v=>Value.isInt k v
 | .inr x,v=>Value.isStrOf x v
def keyH (w:World):Key->Int
 | .inl k=>hashInt k
 | .inr x=>hashStr w x
theorem keyIs_shape:∀ {k:Key} {v:Value},keyIs k v=true->(∃ i t,k=Sum.inl i/\v=Value.int i t)\/(∃ x t,k=Sum.inr x/\v=Value.str x t)
 | .inl i,v,h=>by
  obtain ⟨t,e⟩:=Value.isInt_shape (k:=i) (v:=v) h
  exact .inl ⟨i,t,rfl,e⟩
 | .inr x,v,h=>by
  obtain ⟨t,e⟩:=Value.isStrOf_shape (x:=x) (v:=v) h
  exact .inr ⟨x,t,rfl,e⟩
def keyIs_int (i:Int) (t:Tok):keyIs (.inl i) (.int i t)=true:=by simp [keyIs,Value.isInt]
def keyIs_str (x:Str) (t:Tok):keyIs (.inr x) (.str x t)=true:=by simp [keyIs,Value.isStrOf]
def key_ll (a b:Int):decide ((Sum.inl a:Key)=Sum.inl b)=(a == b):=by
 by_cases e:a=b
 ·subst e; simp
 ·have h:¬ (Sum.inl a:Key)=Sum.inl b:=fun q=>e (Sum.inl.inj q)
  rw [decide_eq_false h]
  exact (beq_eq_false_iff_ne.mpr e).symm
def key_rr (a b:Str):decide ((Sum.inr a:Key)=Sum.inr b)=decide (a=b):=by
 by_cases e:a=b
 ·subst e; simp
 ·have h:¬ (Sum.inr a:Key)=Sum.inr b:=fun q=>e (Sum.inr.inj q)
  rw [decide_eq_false h,decide_eq_false e]
def key_lr (a:Int) (b:Str):decide ((Sum.inl a:Key)=Sum.inr b)=false:=decide_eq_false (fun q=>nomatch q)
def key_rl (a:Str) (b:Int):decide ((Sum.inr a:Key)=Sum.inl b)=false:=decide_eq_false (fun q=>nomatch q)
def mixKind (prog:Program) (w:World):PySem.KeyKind prog w Key where
 is:=keyIs
 hash:=keyH w
 inj:=fun v a b ha hb=>by
  rcases keyIs_shape ha with ⟨i,t,rfl,rfl⟩ | ⟨x,t,rfl,rfl⟩
  ·rcases keyIs_shape hb with ⟨j,u,rfl,e⟩ | ⟨y,u,rfl,e⟩
   ·injection e with e1 _; rw [e1]
   ·exact nomatch e
  ·rcases keyIs_shape hb with ⟨j,u,rfl,e⟩ | ⟨y,u,rfl,e⟩
   ·exact nomatch e
   ·injection e with e1 _; rw [e1]
 byValue:=fun k v h=>by
  rcases keyIs_shape h with ⟨i,t,rfl,rfl⟩ | ⟨x,t,rfl,rfl⟩ <;> rfl
 pyHash:=fun hv h=>by
  rcases keyIs_shape hv with ⟨i,t,rfl,rfl⟩ | ⟨x,t,rfl,rfl⟩
  ·exact wpAny_pyHash_int h
  ·exact wpAny_pyHash_str h
 eqBool:=fun hu hv h=>by
  rcases keyIs_shape hu with ⟨i,t,rfl,rfl⟩ | ⟨x,t,rfl,rfl⟩
  ·rcases keyIs_shape hv with ⟨j,u,rfl,rfl⟩ | ⟨y,u,rfl,rfl⟩
   ·rw [key_ll] at h; exact wpAny_eqBool_int h
   ·rw [key_lr] at h; exact SeqAt.EqAt.int_str i t y u _ _ _ _ h
  ·rcases keyIs_shape hv with ⟨j,u,rfl,rfl⟩ | ⟨y,u,rfl,rfl⟩
   ·rw [key_rl] at h; exact SeqAt.EqAt.str_int x t j u _ _ _ _ h
   ·rw [key_rr] at h; exact wpAny_eqBool_str h
 «strs»:=fun k x t v h=>by
  rcases keyIs_shape h with ⟨i,u,rfl,e⟩ | ⟨y,u,rfl,e⟩
  ·exact nomatch e
  ·injection e with e1 _
   subst e1
   cases v <;> rfl
def mixKind_int (prog:Program) (w:World) (i:Int) (t:Tok):(mixKind prog w).is (.inl i) (.int i t)=true:=keyIs_int i t
def mixKind_str (prog:Program) (w:World) (x:Str) (t:Tok):(mixKind prog w).is (.inr x) (.str x t)=true:=keyIs_str x t
inductive V where
 | non | bl (b:Bool) | int (i:Int) | str (x:Str) | byt (b:Array UInt8) | flt (b:UInt64) | ref (a:Addr) | ty (n:String)
 deriving DecidableEq
def RelV:V->Value->Prop
 | .non,u=>u=Value.none
 | .bl b,u=>u=Value.bool b
 | .int i,u=>∃ t,u=Value.int i t
 | .str x,u=>∃ t,u=Value.str x t
 | .byt b,u=>∃ t,u=Value.bytes b t
 | .flt b,u=>∃ t,u=Value.float b t
 | .ref a,u=>u=Value.ref a
 | .ty n,u=>u=Value.type n
abbrev Vals:List V->List Value->Prop:=Paired RelV
def Vals.length {xs:List V} {us:List Value} (r:Vals xs us):xs.length=us.length:=Paired.length r
theorem Vals.get:∀ {xs:List V} {us:List Value} {i:Nat} {x:V},Vals xs us->xs[i]?=some x->∃ u,us[i]?=some u/\RelV x u
 | _,_,_,_,.nil,e=>by simp at e
 | _,_,0,_,.cons r _,e=>by simp at e; subst e; exact ⟨_,rfl,r⟩
 | _,_,i + 1,x,.cons _ t,e=>by
  obtain ⟨u,h1,h2⟩:=Vals.get (i:=i) (x:=x) t (by simpa using e)
  exact ⟨u,by simpa using h1,h2⟩
theorem Vals.set {x:V} {u:Value} (r:RelV x u):∀ {xs:List V} {us:List Value} (i:Nat),Vals xs us->Vals (xs.set i x) (us.set i u)
 | _,_,_,.nil=>.nil
 | _,_,0,.cons _ t=>.cons r t
 | _,_,i + 1,.cons q t=>.cons q (Vals.set r i t)
theorem Vals.append:∀ {xs ys:List V} {us ws:List Value},Vals xs us->Vals ys ws->Vals (xs++ys) (us++ws)
 | _,_,_,_,.nil,s=>s
 | _,_,_,_,.cons r t,s=>.cons r (Vals.append t s)
theorem Vals.take:∀ {xs:List V} {us:List Value} (n:Nat),Vals xs us->Vals (xs.take n) (us.take n)
 | _,_,0,_=>.nil
 | _,_,_ + 1,.nil=>.nil
 | _,_,n + 1,.cons r t=>.cons r (Vals.take n t)
theorem Vals.drop:∀ {xs:List V} {us:List Value} (n:Nat),Vals xs us->Vals (xs.drop n) (us.drop n)
 | _,_,0,r=>r
 | _,_,_ + 1,.nil=>.nil
 | _,_,n + 1,.cons _ t=>Vals.drop n t
def RelO:Option V->Option Value->Prop
 | some v,some u=>RelV v u
 | none,none=>True
 | _,_=>False
def KV {κ:Type}:List (κ×V)->List (κ×Value)->Prop:=Paired fun (p:κ×V) (q:κ×Value)=>p.1=q.1/\RelV p.2 q.2
def kV:Key->V
 | .inl i=>.int i
 | .inr x=>.str x
def IsTupD (h:Heap) (a:Addr) (items:Array Value):Prop:=∃ o,h.get? a=some o/\o.cls=.type "tuple"/\∃ n,o.data=.seq items n/\o.dict=none
def IsTupD.tup {h:Heap} {a:Addr} {items:Array Value} (x:IsTupD h a items):IsTup h a items:=let ⟨o,e,c,n,d,_⟩:=x; ⟨o,e,c,n,d⟩
def IsTupD.new (h:Heap) (items:Array Value):IsTupD (h.push { cls:=.type "tuple",data:=.seq items }) h.objs.size items:=⟨_,Heap.get?_push_size _ rfl,rfl,_,rfl,rfl⟩
def IsTupD.lt {h:Heap} {a:Addr} {items:Array Value} (x:IsTupD h a items):a < h.objs.size:=let ⟨_,e,_⟩:=x; Heap.lt_size e
inductive HO where
 | lst (xs:List V)
 | tup (xs:List V)
 | dK (kvs:List (Key×V)) | dT (kvs:List (List Key×V))
 | set (S:Int->Bool) (n:Nat)
 | ins (C dx:Addr) (fs:List (Str×V))
 | own (x:Addr)
 | xd (fs:List (Str×V))
 | met (f x:Addr)
 | rng (lo hi:Int)
 | frz (o:Obj) (u:HO)
 | tbl (ps:Array Value)
 | ext (φ:Heap->Prop)
abbrev Hp:=Addr->Option HO
def upd (H:Hp) (a:Addr) (o:HO):Hp:=fun b=>if b=a then some o else H b
def upd_same {H:Hp} {a:Addr} {o:HO}:upd H a o a=some o:=by unfold upd; rw [if_pos rfl]
def upd_ne {H:Hp} {a b:Addr} {o:HO} (h:b≠a):upd H a o b=H b:=by unfold upd; rw [if_neg h]
def upd_upd {H:Hp} {a:Addr} {o u:HO}:upd (upd H a o) a u=upd H a u:=by
 funext b; unfold upd; split <;> rfl
def ne_of {H:Hp} {a b:Addr} {o u:HO} (h:H a=some o) (h':H b=some u) (d:o≠u):a≠b:=by
 intro e; subst e; rw [h] at h'; exact d (Option.some.inj h')
def ne_of_none {H:Hp} {a b:Addr} {o:HO} (h:H a=some o) (h':H b=none):a≠b:=by
 intro e; subst e; rw [h] at h'; cases h'
section
variable (P:Program) (w:World)
def ObjOk (H:Hp) (h:Heap) (a:Addr):HO->Prop
 | .lst xs=>xs.length<=sizeLine/\∃ (its:List Value) (n:Nat),Vals xs its/\h.get? a=some { cls:=.type "list",data:=.seq its.toArray n }
 | .tup xs=>xs.length<=sizeLine/\∃ its:List Value,Vals xs its/\IsTupD h a its.toArray
 | .dK kvs=>kvs.length<=sizeLine/\(a == sysModules)=false/\∃ vs,KV kvs vs/\h.DictOf (mixKind P w) a vs
 | .dT kvs=>kvs.length<=sizeLine/\(a == sysModules)=false/\∃ xs:List (List Key×Addr×Value),
   Paired (fun (p:List Key×V) (q:List Key×Addr×Value)=>p.1=q.1/\H q.2.1=some (.tup (p.1.map kV))/\RelV p.2 q.2.2) kvs xs /\
   ∃ o es ep,h.get? a=some o/\o.ExactDict/\o.data=.dict es ep/\es.toList=xs.map (entryOfKey (tupleKind (mixKind P w)))/\(xs.map (·.1)).Nodup
 | .set S n=>h.SetOf (intKind P w) a S n
 | .ins C dx fs=>H dx=some (.own a)/\fs.length<=1000/\dx≠a/\h.get? a=some (W.instObj C dx) /\
   ∃ mA,h.Ns1 dx mA/\(∀ f,RelO (fs.lookup f) (mA f))/\PySem.Within mA (fs.map (·.1))
 | .own _=>∃ o,h.get? a=some o
 | .xd fs=>∃ mA,h.Ns1 a mA/\∀ f,RelO (fs.lookup f) (mA f)
 | .rng lo hi=>∃ t u v,h.get? a=some { cls:=.type "range",data:=.fields #[.int lo t,.int hi u,.int 1 v] }
 | .frz o u=>h.get? a=some o/\ObjOk H h a u
 | .tbl ps=>h.get? a=some { cls:=.none,data:=.fields ps }
 | .met f x=>h.get? a=some (W.methodObj (.ref f) (.ref x))
 | .ext φ=>φ h/\(∃ o,h.get? a=some o)/\∀ h1 h2:Heap,φ h1->(∀ o,h1.get? a=some o->h2.get? a=some o)->φ h2
def HOk (H:Hp) (h:Heap):Prop:=∀ a o,H a=some o->ObjOk P w H h a o
end
section
variable {P:Program} {w:World} {H H':Hp} {h h':Heap} {a:Addr} {o:HO}
theorem ObjOk.lt (x:ObjOk P w H h a o):a < h.objs.size:=by
 cases o with
 | lst xs=>obtain ⟨_,_,_,_,e⟩:=x; exact Heap.lt_size e
 | tup xs=>obtain ⟨_,_,_,p⟩:=x; exact p.lt
 | dK kvs=>obtain ⟨_,_,_,_,o,_,_,e,_⟩:=x; exact Heap.lt_size e
 | dT kvs=>obtain ⟨_,_,_,_,o,_,_,e,_⟩:=x; exact Heap.lt_size e
 | set S n=>obtain ⟨o,_,_,_,e,_⟩:=x; exact Heap.lt_size e
 | ins C dx fs=>obtain ⟨_,_,_,e,_⟩:=x; exact Heap.lt_size e
 | own y=>obtain ⟨_,e⟩:=x; exact Heap.lt_size e
 | xd fs=>obtain ⟨_,⟨_,_,_,e,_⟩,_⟩:=x; exact Heap.lt_size e
 | rng lo hi=>obtain ⟨_,_,_,e⟩:=x; exact Heap.lt_size e
 | frz ob u=>obtain ⟨e,_⟩:=x; exact Heap.lt_size e
 | tbl ps=>exact Heap.lt_size (show h.get? a=some _ from x)
 | met f y=>exact Heap.lt_size (show h.get? a=some _ from x)
 | ext φ=>obtain ⟨_,⟨_,e⟩,_⟩:=x; exact Heap.lt_size e
theorem Paired.mapP {α β:Type} {F G:α->β->Prop}:∀ {l₁:List α} {l₂:List β},Paired F l₁ l₂->(∀ a b,F a b->G a b)->Paired G l₁ l₂
 | _,_,.nil,_=>.nil
 | _,_,.cons r t,f=>.cons (f _ _ r) (Paired.mapP t f)
theorem ObjOk.stay (x:ObjOk P w H h a o) (k:∀ b u,(b=a\/H b=some (.own a))->h.get? b=some u->h'.get? b=some u)
  (ho:∀ b,H b=some (.own a)->H' b=some (.own a)) (ht:∀ b xs,H b=some (.tup xs)->H' b=some (.tup xs)):ObjOk P w H' h' a o:=by
 induction o with
 | lst xs=>obtain ⟨z,its,n,r,e⟩:=x; exact ⟨z,its,n,r,k _ _ (.inl rfl) e⟩
 | tup xs=>obtain ⟨z,its,r,ob,e,c⟩:=x; exact ⟨z,its,r,ob,k _ _ (.inl rfl) e,c⟩
 | dK kvs=>obtain ⟨z,y,vs,r,ob,es,ep,e,c⟩:=x; exact ⟨z,y,vs,r,ob,es,ep,k _ _ (.inl rfl) e,c⟩
 | dT kvs =>
  obtain ⟨z,y,xs,r,ob,es,ep,e,c⟩:=x
  exact ⟨z,y,xs,Paired.mapP r fun p q z=>⟨z.1,ht _ _ z.2.1,z.2.2⟩,ob,es,ep,k _ _ (.inl rfl) e,c⟩
 | set S n=>obtain ⟨ob,es,ep,t,e,c⟩:=x; exact ⟨ob,es,ep,t,k _ _ (.inl rfl) e,c⟩
 | ins C dx fs =>
  obtain ⟨d,z,ne,e,mA,⟨od,es,ep,e2,c⟩,r⟩:=x
  exact ⟨ho _ d,z,ne,k _ _ (.inl rfl) e,mA,⟨od,es,ep,k _ _ (.inr d) e2,c⟩,r⟩
 | own y=>obtain ⟨ob,e⟩:=x; exact ⟨ob,k _ _ (.inl rfl) e⟩
 | xd fs=>obtain ⟨mA,⟨od,es,ep,e,c⟩,r⟩:=x; exact ⟨mA,⟨od,es,ep,k _ _ (.inl rfl) e,c⟩,r⟩
 | rng lo hi=>obtain ⟨t,u,v,e⟩:=x; exact ⟨t,u,v,k _ _ (.inl rfl) e⟩
 | frz ob u ih=>obtain ⟨e,q⟩:=x; exact ⟨k _ _ (.inl rfl) e,ih q⟩
 | tbl ps =>
  have e:h.get? a=some { cls:=.none,data:=.fields ps }:=x
  show h'.get? a=some { cls:=.none,data:=.fields ps }
  exact k a _ (.inl rfl) e
 | met f y =>
  have e:h.get? a=some (W.methodObj (.ref f) (.ref y)):=x
  show h'.get? a=some (W.methodObj (.ref f) (.ref y))
  exact k a _ (.inl rfl) e
 | ext φ=>obtain ⟨p,⟨o,e⟩,st⟩:=x; exact ⟨st _ _ p fun o q=>k _ _ (.inl rfl) q,⟨o,k _ _ (.inl rfl) e⟩,st⟩
def HOk.lt (x:HOk P w H h) (e:H a=some o):a < h.objs.size:=(x a o e).lt
theorem HOk.fresh (x:HOk P w H h) (e:h.objs.size<=a):H a=none:=by
 cases q:H a with
 | none=>rfl
 | some u=>exact absurd (Nat.lt_of_lt_of_le (x.lt q) e) (Nat.lt_irrefl _)
def HOk.kept (x:HOk P w H h) (k:∀ b u,h.get? b=some u->h'.get? b=some u):HOk P w H h':=fun a o e =>
 (x a o e).stay (fun b u _ q=>k b u q) (fun _ q=>q) fun _ _ q=>q
def HOk.laid (x:HOk P w H h) (k:∀ b u,h.get? b=some u->h'.get? b=some u) (hp:h.objs.size<=a) (new:ObjOk P w (upd H a o) h' a o):HOk P w (upd H a o) h':=fun b u e=>by
 have hn:=x.fresh hp
 by_cases hb:b=a
 ·subst hb; rw [upd_same] at e; cases e; exact new
 ·rw [upd_ne hb] at e
  exact (x b u e).stay (fun c v _ q=>k c v q) (fun c q=>by rw [upd_ne (ne_of_none q hn)]; exact q) fun c xs q=>by rw [upd_ne (ne_of_none q hn)]; exact q
end
def Rd (H:Hp) (a:Addr) (u:HO):Prop:=H a=some u\/∃ o,H a=some (.frz o u)
def Rd.ok {P:Program} {w:World} {H:Hp} {h:Heap} {a:Addr} {u:HO} (r:Rd H a u) (x:HOk P w H h):ObjOk P w H h a u:=by
 rcases r with r | ⟨o,r⟩
 ·exact x a u r
 ·obtain ⟨_,q⟩:=x a _ r
  exact q
def Mut:Option HO->Prop
 | some (.lst _)=>True
 | some (.dK _)=>True
 | some (.dT _)=>True
 | some (.set _ _)=>True
 | some (.ins _ _ _)=>True
 | some (.ext _)=>True
 | _=>False
section
variable {P:Program} {w:World} {H:Hp} {h h':Heap} {x e:Addr} {o':HO}
def HOk.write (ok:HOk P w H h) (mu:Mut (H x)) (he:e=x\/H e=some (.own x)) (k:∀ b u,b≠e->h.get? b=some u->h'.get? b=some u) (heo:∃ u,h'.get? e=some u)
  (new:ObjOk P w (upd H x o') h' x o'):HOk P w (upd H x o') h':=fun b u q=>by
 have nown:∀ c y,H c=some (.own y)->c≠x:=fun c y r z=>by subst z; rw [r] at mu; exact mu
 have ntup:∀ c xs,H c=some (.tup xs)->c≠x:=fun c xs r z=>by subst z; rw [r] at mu; exact mu
 by_cases hb:b=x
 ·subst hb; rw [upd_same] at q; cases q; exact new
 ·rw [upd_ne hb] at q
  by_cases hbe:b=e
  ·have q':H b=some (.own x):=by
    rcases he with z | z
    ·exact absurd (hbe.trans z) hb
    ·rw [hbe]; exact z
   rw [q] at q'; cases q'
   obtain ⟨v,hv⟩:=heo
   exact ⟨v,by rw [hbe]; exact hv⟩
  ·refine (ok b u q).stay (fun c v hc r=>k c v ?_ r) (fun c r=>by rw [upd_ne (nown c b r)]; exact r) fun c xs r=>by rw [upd_ne (ntup c xs r)]; exact r
   rcases hc with rfl | hc
   ·exact hbe
   ·rintro rfl
    rcases he with z | z
    ·exact nown c b hc z
    ·rw [hc] at z; cases z; exact hb rfl
end
structure Un (fs ex:List Addr) (H H':Hp) (h h':Heap):Prop where
 keep:∀ b o,h.get? b=some o->H b=none->b∉fs->b∉ex->h'.get? b=some o
 slot:∀ b o,h.get? b=some o->H b=none->b∈fs->b∉ex->∃ sl,h'.get? b=some { o with slots:=sl }
 free:∀ b o,h.get? b=some o->H b=none->b∉ex->H' b=none
 there:∀ b o,h.get? b=some o->b∉ex->∃ o',h'.get? b=some o'
 tups:∀ b xs,H b=some (.tup xs)->H' b=some (.tup xs)
 frzs:∀ b o u,H b=some (.frz o u)->H' b=some (.frz o u)
 tbls:∀ b ps,H b=some (.tbl ps)->∃ more,H' b=some (.tbl (ps++more))
section
variable {fs ex:List Addr} {H H1 H2:Hp} {h h1 h2 h':Heap} {a x e:Addr} {o:HO}
def Un.any (u:Un fs ex H H1 h h1) {b:Addr} {ob:Obj} (q:h.get? b=some ob) (n:H b=none) (hx:b∉ex):∃ sl,h1.get? b=some { ob with slots:=sl }:=by
 by_cases hb:b∈fs
 ·exact u.slot b ob q n hb hx
 ·exact ⟨ob.slots,u.keep b ob q n hb hx⟩
def Un.trans (a:Un fs ex H H1 h h1) (b:Un fs ex H1 H2 h1 h2):Un fs ex H H2 h h2 where
 keep:=fun c ob q n hc hx=>b.keep c ob (a.keep c ob q n hc hx) (a.free c ob q n hx) hc hx
 slot:=fun c ob q n hc hx=>by
  obtain ⟨sl,e1⟩:=a.slot c ob q n hc hx
  obtain ⟨sl',e2⟩:=b.slot c _ e1 (a.free c ob q n hx) hc hx
  exact ⟨sl',e2⟩
 free:=fun c ob q n hx=>by
  obtain ⟨o',e1⟩:=a.there c ob q hx
  exact b.free c o' e1 (a.free c ob q n hx) hx
 there:=fun c ob q hx=>by
  obtain ⟨o',e1⟩:=a.there c ob q hx
  exact b.there c o' e1 hx
 tups:=fun c xs q=>b.tups c xs (a.tups c xs q)
 frzs:=fun c ob xs q=>b.frzs c ob xs (a.frzs c ob xs q)
 tbls:=fun c ps q=>by
  obtain ⟨m1,e1⟩:=a.tbls c ps q
  obtain ⟨m2,e2⟩:=b.tbls c _ e1
  exact ⟨m1++m2,by rw [e2,Array.append_assoc]⟩
def Un.kept (k:∀ b u,h.get? b=some u->h'.get? b=some u):Un fs ex H H h h' :=
 ⟨fun b ob q _ _ _=>k b ob q,fun b ob q _ _ _=>⟨ob.slots,k b ob q⟩,fun _ _ _ n _=>n,fun b ob q _=>⟨ob,k b ob q⟩,fun _ _ q=>q,fun _ _ _ q=>q,fun _ ps q=>⟨#[],by rw [q]; simp⟩⟩
def Un.refl:Un fs ex H H h h:=Un.kept fun _ _ q=>q
def Un.laid (k:∀ b u,h.get? b=some u->h'.get? b=some u) (hp:h.objs.size<=a) (hn:H a=none):Un fs ex H (upd H a o) h h' where
 keep:=fun b u q _ _ _=>k b u q
 slot:=fun b u q _ _ _=>⟨u.slots,k b u q⟩
 free:=fun b u q n _=>by rw [upd_ne (Nat.ne_of_lt (Nat.lt_of_lt_of_le (Heap.lt_size q) hp))]; exact n
 there:=fun b u q _=>⟨u,k b u q⟩
 tups:=fun b xs q=>by rw [upd_ne (ne_of_none q hn)]; exact q
 frzs:=fun b u xs q=>by rw [upd_ne (ne_of_none q hn)]; exact q
 tbls:=fun b ps q=>⟨#[],by rw [upd_ne (ne_of_none q hn),q]; simp⟩
def Un.write (mu:Mut (H x)) (he:e=x\/H e=some (.own x)) (k:∀ b u,b≠e->h.get? b=some u->h'.get? b=some u) (heo:∃ u,h'.get? e=some u):Un fs ex H (upd H x o) h h':=by
 have hx:∀ b,H b=none->b≠x:=fun b n z=>by subst z; rw [n] at mu; exact mu
 have hb:∀ b,H b=none->b≠e:=fun b n z=>by
  subst z
  rcases he with r | r
  ·exact hx b n r
  ·rw [n] at r; cases r
 have hm:∀ b u,H b=some u->¬ Mut (some u)->b≠x:=fun b u q nm z=>by subst z; rw [q] at mu; exact nm mu
 refine ⟨fun b u q n _ _=>k b u (hb b n) q,fun b u q n _ _=>⟨u.slots,k b u (hb b n) q⟩,fun b u q n _=>by rw [upd_ne (hx b n)]; exact n,fun b u q _=>?_,
  fun b xs q=>by rw [upd_ne (hm b _ q fun z=>z)]; exact q,fun b u xs q=>by rw [upd_ne (hm b _ q fun z=>z)]; exact q,fun b ps q=>⟨#[],by rw [upd_ne (hm b _ q fun z=>z),q]; simp⟩⟩
 by_cases hbe:b=e
 ·subst hbe; exact heo
 ·exact ⟨u,k b u hbe q⟩
end
def trk (h:Heap) (H:Hp):List Addr:=(List.range h.objs.size).filter fun a=>(H a).isSome
def hidT (h:Heap) (H:Hp):Heap:=W.hideAll h (trk h H)
def hidT_size (h:Heap) (H:Hp):(hidT h H).objs.size=h.objs.size:=W.hideAll_size _ _
def hidT_get {h:Heap} {H:Hp} {b:Addr} {o:Obj} (e:h.get? b=some o) (n:H b=none):(hidT h H).get? b=some o :=
 W.hideAll_get _ e fun hm=>by
  have q:(H b).isSome=true:=(List.mem_filter.mp hm).2
  rw [n] at q; simp at q
theorem of_hidT {h:Heap} {H:Hp} {b:Addr} {o:Obj} (e:(hidT h H).get? b=some o):h.get? b=some o/\H b=none:=by
 have e':h.get? b=some o:=W.of_hideAll (trk h H) e
 refine ⟨e',?_⟩
 cases q:H b with
 | none=>rfl
 | some x =>
  have hm:b∈trk h H:=List.mem_filter.mpr ⟨List.mem_range.mpr (Heap.lt_size e'),by simp [q]⟩
  have z:(hidT h H).get? b=none:=W.hideAll_none (trk h H) hm
  rw [z] at e; cases e
def allNews (g h:Heap) (L:Addr):List (Addr×Obj):=(List.range h.objs.size).filterMap fun a=>if a=L\/(g.get? a).isSome=true then none else (h.get? a).map fun o=>(a,o)
def rest (g h:Heap) (L d:Addr):List (Addr×Obj):=(allNews g h L).filter fun p=>decide (p.1≠d)
structure Mod (K:W.Frag) (mg:Str->Option Value) (base:Heap):Prop where
 kin:K.In base
 glob:base.Ns mainGlobals mg
 blt:∃ mb,base.Ns builtinsNs mb/\∀ x:Str,x≠"__name__"->mb x=bootBuiltins x
 nolimit:base.NoLimit
structure Cx where
 prog:Program
 w:World
 K:W.Frag
 mg:Str->Option Value
 base:Heap
 A:Around
 N:List Str
 s₀:Shared
 H₀:Hp
 env:Env
 outer:List Env
 stack:List Env
 ex:List Addr
 fn:Str->Bool
 calm:Bool
 pn:List (Addr×Obj)
 xe:Value->Shared->Prop
def frs (l:List Env):List Addr:=l.filterMap (·.frame)
abbrev Cx.fs (X:Cx):List Addr:=frs X.outer
def Vis (sc:Scope) (x:Str):Prop:=sc.names.lookup x=some .local\/sc.names.lookup x=some .cell\/sc.names.lookup x=some .free
def Loc (sc:Scope) (x:Str):Prop:=sc.names.lookup x=some .local\/sc.names.lookup x=some .cell
def Look (env:Env) (h:Heap) (m:Str->Option Value) (x:Str) (u:Value):Prop :=
 (env.kindOf x=some .local/\m x=some u)\/((env.kindOf x=some .cell\/env.kindOf x=some .free)/\∃ c,env.cells.lookup x=some c/\h.IsCell c (some u))
structure Cx.Ok (X:Cx):Prop where
 mod:Mod X.K X.mg X.base
 kind:X.env.scope.kind=.function
 glob:X.env.globals=mainGlobals
 blt:X.env.builtins=builtinsNs
 above:X.s₀.heap.objs.size<=X.env.locals
 inj:∀ x y c,X.env.cells.lookup x=some c->X.env.cells.lookup y=some c->x=y
 has:∀ x,(X.env.kindOf x=some .cell\/X.env.kindOf x=some .free)->∃ c,X.env.cells.lookup x=some c
 cab:∀ x c,X.fn x=true->X.env.cells.lookup x=some c->X.s₀.heap.objs.size<=c
 hd:X.calm=true->X.A.handled=none
 frames:X.A.frames=some X.stack
 stk:X.stack=X.outer\/(X.stack=X.env::X.outer/\X.env.frame=some X.env.locals)
 exf:∀ b∈X.ex,b≠X.env.locals/\∀ x c,X.env.cells.lookup x=some c->c≠b
 bs:∀ b o,X.base.get? b=some o->X.s₀.heap.get? b=some o/\X.H₀ b=none
 bsz:X.base.objs.size<=X.s₀.heap.objs.size
 noex:∀ b o,X.base.get? b=some o->b∉X.ex
 exfs:∀ b∈X.ex,b∉X.fs
 funs:X.s₀.heap.FunFrames X.base X.outer
 frf:∀ b∈X.fs,X.H₀ b=none
structure Inv (X:Cx) (pins:List (Addr×Obj)) (σ:List (Option V)) (H:Hp) (s:Shared):Prop where
 ok:X.Ok
 os:s.os=X.s₀.os
 bare:AllBare s.gens
 base:Un X.fs X.ex X.H₀ H X.s₀.heap s.heap
 loc:∃ m,s.heap.Ns X.env.locals m/\∀ (i:Nat) (x:Str) (v:V),X.N[i]?=some x->σ[i]?=some (some v)->Vis X.env.scope x->∃ u,RelV v u/\Look X.env s.heap m x u
 cell:∀ x c,X.env.cells.lookup x=some c->∃ v,s.heap.IsCell c v
 free:H X.env.locals=none
 freeC:∀ x c,X.env.cells.lookup x=some c->H c=none
 pin:∀ p∈X.pn++pins,s.heap.get? p.1=some p.2/\H p.1=none/\p.1≠X.env.locals/\p.1∉X.fs/\∀ v,p.2.data≠.cell v
 hok:HOk X.prog X.w H s.heap
 len:σ.length=X.N.length
section
variable {X:Cx} {pins:List (Addr×Obj)} {σ:List (Option V)} {H H':Hp} {s:Shared} {h':Heap}
def Cx.Ok.nofr (ok:X.Ok) {b:Addr} {o:Obj} (e:X.base.get? b=some o):b∉X.fs:=fun hb=>by
 have:=(ok.funs.mem hb).1
 rw [e] at this; cases this
def Inv.bs (I:Inv X pins σ H s):∀ b o,X.base.get? b=some o->s.heap.get? b=some o/\H b=none:=fun b o e =>
 ⟨I.base.keep b o (I.ok.bs b o e).1 (I.ok.bs b o e).2 (I.ok.nofr e) (I.ok.noex b o e),I.base.free b o (I.ok.bs b o e).1 (I.ok.bs b o e).2 (I.ok.noex b o e)⟩
def Inv.bk (I:Inv X pins σ H s):∀ b o,X.base.get? b=some o->s.heap.get? b=some o:=fun b o e=>(I.bs b o e).1
def Inv.mod (I:Inv X pins σ H s):Mod X.K X.mg X.base:=I.ok.mod
def Inv.kIn (I:Inv X pins σ H s):X.K.In s.heap:=I.ok.mod.kin.keeps I.bk
def Inv.fr (I:Inv X pins σ H s):∃ m,Fr X.base X.env.locals s.heap m :=
 let ⟨m,hn,_⟩:=I.loc
 ⟨m,hn,I.bk,Nat.le_trans I.ok.bsz I.ok.above⟩
def Inv.lt (I:Inv X pins σ H s):X.env.locals < s.heap.objs.size:=let ⟨_,hn,_⟩:=I.loc; hn.lt
def Inv.sz (I:Inv X pins σ H s):X.s₀.heap.objs.size<=s.heap.objs.size:=Nat.le_trans I.ok.above (Nat.le_of_lt I.lt)
def Inv.nofs (I:Inv X pins σ H s) {a:Addr} (h:s.heap.objs.size<=a):a∉X.fs:=fun hb=>by
 obtain ⟨_,o,ho,_⟩:=I.ok.funs.mem hb
 exact absurd (Nat.lt_of_lt_of_le (Heap.lt_size ho) (Nat.le_trans I.sz h)) (Nat.lt_irrefl _)
def Inv.cne (I:Inv X pins σ H s):∀ x c,X.env.cells.lookup x=some c->c≠X.env.locals:=fun x c e z=>by
 obtain ⟨v,o,ho,hd⟩:=I.cell x c e
 obtain ⟨m,⟨o',es,ep,ho',hd',_⟩,_⟩:=I.loc
 rw [z,ho'] at ho; cases ho; rw [hd'] at hd; cases hd
def Inv.funs (I:Inv X pins σ H s):s.heap.FunFrames X.base X.outer:=by
 have all:∀ (l:List Env),(∀ b∈frs l,b∈X.fs)->X.s₀.heap.FunFrames X.base l->s.heap.FunFrames X.base l:=by
  intro l
  induction l with
  | nil=>intro _ _; trivial
  | cons env r ih =>
   intro hs hl
   obtain ⟨hk,⟨L,o,hf,hn,ho,hd⟩,hr⟩:=hl
   have hL:L∈X.fs:=hs L (by unfold frs; rw [List.filterMap_cons,hf]; exact List.mem_cons_self)
   obtain ⟨sl,e⟩:=I.base.slot L o ho (I.ok.frf L hL) hL fun z=>I.ok.exfs L z hL
   exact ⟨hk,⟨L,_,hf,hn,e,hd⟩,ih (fun b hb=>hs b (by unfold frs; rw [List.filterMap_cons,hf]; exact List.mem_cons_of_mem _ hb)) hr⟩
 exact all X.outer (fun _ hb=>hb) I.ok.funs
def Inv.stack (I:Inv X pins σ H s):s.heap.FunFrames X.base X.stack:=by
 rcases I.ok.stk with e | ⟨e,hf⟩
 ·rw [e]; exact I.funs
 ·rw [e]
  obtain ⟨m,hn,_⟩:=I.loc
  refine .cons (by rw [I.ok.kind]; decide) hf hn ?_ I.funs
  exact Heap.get?_none_of_le (Nat.le_trans I.ok.bsz I.ok.above)
def Inv.stkSub (I:Inv X pins σ H s):∀ b∈frs X.stack,b∈X.env.locals::X.fs:=fun b hb=>by
 rcases I.ok.stk with e | ⟨e,hf⟩
 ·rw [e] at hb; exact List.mem_cons_of_mem _ hb
 ·rw [e] at hb
  unfold frs at hb
  rw [List.filterMap_cons,hf] at hb
  exact hb
def Inv.stkFree (I:Inv X pins σ H s):∀ b∈frs X.stack,H b=none:=fun b hb=>by
 rcases List.mem_cons.mp (I.stkSub b hb) with e | hb
 ·rw [e]; exact I.free
 ·obtain ⟨_,o,ho,_⟩:=I.ok.funs.mem hb
  exact I.base.free b o ho (I.ok.frf b hb) fun z=>I.ok.exfs b z hb
def Inv.step {g':Array GenState} {t':Nat} {d':Drawn} {ch:List Addr} (I:Inv X pins σ H s)
  (hch:∀ b∈ch,(b∈X.ex\/X.s₀.heap.objs.size<=b)/\b≠X.env.locals/\(∀ x c,X.env.cells.lookup x=some c->c≠b)/\∀ p∈X.pn++pins,p.1≠b)
  (keep:∀ b o,b≠X.env.locals->b∉X.fs->b∉ch->s.heap.get? b=some o->H b=none->h'.get? b=some o)
  (slot:∀ b o,b≠X.env.locals->b∈X.fs->b∉ch->s.heap.get? b=some o->H b=none->∃ sl,h'.get? b=some { o with slots:=sl }) (free:∀ b o,b∉ch->s.heap.get? b=some o->H b=none->H' b=none)
  (there:∀ b o,b∉ch->s.heap.get? b=some o->∃ o',h'.get? b=some o')
  (tups:∀ b xs,H b=some (.tup xs)->H' b=some (.tup xs)) (frzs:∀ b o u,H b=some (.frz o u)->H' b=some (.frz o u)) (tbls:∀ b ps,H b=some (.tbl ps)->∃ more,H' b=some (.tbl (ps++more)))
  (ns:∀ m,s.heap.Ns X.env.locals m->h'.Ns X.env.locals m) (hok:HOk X.prog X.w H' h') (hg:AllBare g') :
  Inv X pins σ H' { s with heap:=h',gens:=g',drawn:=d',toks:=t' }:=by
 have neL:∀ b o,X.s₀.heap.get? b=some o->b≠X.env.locals:=fun b o e=>Nat.ne_of_lt (Nat.lt_of_lt_of_le (Heap.lt_size e) I.ok.above)
 have neC:∀ b o,X.s₀.heap.get? b=some o->b∉X.ex->b∉ch:=fun b o e hx hb=>by
  rcases (hch b hb).1 with z | z
  ·exact hx z
  ·exact absurd (Nat.lt_of_lt_of_le (Heap.lt_size e) z) (Nat.lt_irrefl _)
 have cellK:∀ x c,X.env.cells.lookup x=some c->∀ v,s.heap.IsCell c v->h'.IsCell c v:=fun x c e v ⟨o,ho,hd⟩=>by
  have nch:c∉ch:=fun z=>(hch c z).2.2.1 x c e rfl
  by_cases hc:c∈X.fs
  ·obtain ⟨sl,q⟩:=slot c o (I.cne x c e) hc nch ho (I.freeC x c e)
   exact ⟨_,q,hd⟩
  ·exact ⟨o,keep c o (I.cne x c e) hc nch ho (I.freeC x c e),hd⟩
 refine ⟨I.ok,I.os,hg,⟨fun b o e n hb hx=>?_,fun b o e n hb hx=>?_,fun b o e n hx=>?_,fun b o e hx=>?_,fun b xs e=>tups b xs (I.base.tups b xs e),fun b o xs e=>frzs b o xs (I.base.frzs b o xs e),fun b ps e=>?_⟩,?_,fun x c e=>?_,?_,fun x c e=>?_,fun p hp=>?_,hok,I.len⟩
 ·exact keep b o (neL b o e) hb (neC b o e hx) (I.base.keep b o e n hb hx) (I.base.free b o e n hx)
 ·obtain ⟨sl,e1⟩:=I.base.slot b o e n hb hx
  obtain ⟨sl',e2⟩:=slot b _ (neL b o e) hb (neC b o e hx) e1 (I.base.free b o e n hx)
  exact ⟨sl',e2⟩
 ·obtain ⟨o',e1⟩:=I.base.there b o e hx
  exact free b o' (neC b o e hx) e1 (I.base.free b o e n hx)
 ·obtain ⟨o',e1⟩:=I.base.there b o e hx
  exact there b o' (neC b o e hx) e1
 ·obtain ⟨m1,e1⟩:=I.base.tbls b ps e
  obtain ⟨m2,e2⟩:=tbls b _ e1
  exact ⟨m1++m2,by rw [e2,Array.append_assoc]⟩
 ·obtain ⟨m,hn,hl⟩:=I.loc
  refine ⟨m,ns m hn,fun i x v e1 e2 e3=>?_⟩
  obtain ⟨u,r,l⟩:=hl i x v e1 e2 e3
  refine ⟨u,r,?_⟩
  rcases l with l | ⟨k,c,e,z⟩
  ·exact .inl l
  ·exact .inr ⟨k,c,e,cellK x c e _ z⟩
 ·obtain ⟨v,z⟩:=I.cell x c e
  exact ⟨v,cellK x c e v z⟩
 ·obtain ⟨m,⟨o,_,_,ho,_⟩,_⟩:=I.loc
  exact free _ o (fun z=>(hch _ z).2.1 rfl) ho I.free
 ·obtain ⟨v,o,ho,hd⟩:=I.cell x c e
  exact free c o (fun z=>(hch c z).2.2.1 x c e rfl) ho (I.freeC x c e)
 ·obtain ⟨e,n,ne,nf,d⟩:=I.pin p hp
  have nch:p.1∉ch:=fun z=>(hch p.1 z).2.2.2 p hp rfl
  exact ⟨keep p.1 p.2 ne nf nch e n,free p.1 p.2 nch e n,ne,nf,d⟩
def Inv.un {t':Nat} (I:Inv X pins σ H s) (u:Un X.fs [] H H' s.heap h') (hok:HOk X.prog X.w H' h'):Inv X pins σ H' { s with heap:=h',toks:=t' }:=by
 obtain ⟨m,⟨o,es,ep,ho,r⟩,_⟩:=id I.loc
 obtain ⟨sl,hL⟩:=u.any ho I.free (by simp)
 exact I.step (g':=s.gens) (d':=s.drawn) (ch:=[]) (fun _ z=>nomatch z) (fun b o _ hb _ e n=>u.keep b o e n hb (by simp)) (fun b o _ hb _ e n=>u.slot b o e n hb (by simp)) (fun b o _ e n=>u.free b o e n (by simp)) (fun b o _ e=>u.there b o e (by simp)) u.tups u.frzs u.tbls (fun m' hm=>by
  obtain ⟨o',es',ep',ho',r'⟩:=hm
  rw [ho] at ho'; cases ho'
  exact ⟨_,es',ep',hL,r'⟩) hok I.bare
def Inv.call {g':Array GenState} {t':Nat} {d':Drawn} {ch:List Addr} (I:Inv X pins σ H s) (u:Un (frs X.stack) ch H H' s.heap h') (hok:HOk X.prog X.w H' h') (hg:AllBare g')
  (hch:∀ b∈ch,(b∈X.ex\/X.s₀.heap.objs.size<=b)/\b≠X.env.locals/\(∀ x c,X.env.cells.lookup x=some c->c≠b)/\∀ p∈X.pn++pins,p.1≠b) :
  Inv X pins σ H' { s with heap:=h',gens:=g',drawn:=d',toks:=t' }:=by
 obtain ⟨m,⟨o,es,ep,ho,r⟩,_⟩:=id I.loc
 obtain ⟨sl,hL⟩:=u.any ho I.free fun z=>(hch _ z).2.1 rfl
 exact I.step (ch:=ch) hch (fun b o hL hb hc e n=>u.keep b o e n (fun z=>(List.mem_cons.mp (I.stkSub b z)).elim hL hb) hc) (fun b o _ _ hc e n=>u.any e n hc) (fun b o hc e n=>u.free b o e n hc) (fun b o hc e=>u.there b o e hc) u.tups u.frzs u.tbls (fun m' hm=>by
  obtain ⟨o',es',ep',ho',r'⟩:=hm
  rw [ho] at ho'; cases ho'
  exact ⟨_,es',ep',hL,r'⟩) hok hg
def Inv.turned {t':Nat} {it:Addr} (I:Inv X pins σ H s) (k:∀ b o,b≠it->s.heap.get? b=some o->h'.get? b=some o) (hn:H it=none) (hL:it≠X.env.locals)
  (h1:it∈X.ex\/X.s₀.heap.objs.size<=it) (h2:∀ x c,X.env.cells.lookup x=some c->c≠it) (h3:∀ p∈X.pn++pins,p.1≠it):Inv X pins σ H { s with heap:=h',toks:=t' }:=by
 have nit:∀ b u,H b=some u->b≠it:=fun b u e z=>by rw [z,hn] at e; cases e
 refine I.step (g':=s.gens) (d':=s.drawn) (ch:=[it]) (fun b hb=>?_) (fun b o _ _ hc e _=>k b o (fun z=>hc (by simp [z])) e) (fun b o _ _ hc e _=>⟨o.slots,k b o (fun z=>hc (by simp [z])) e⟩) (fun _ _ _ _ n=>n)
  (fun b o hc e=>⟨o,k b o (fun z=>hc (by simp [z])) e⟩) (fun _ _ e=>e) (fun _ _ _ e=>e) (fun b ps e=>⟨#[],by rw [e]; simp⟩) (fun m hm=>?_) (fun b u e=>?_) I.bare
 ·have e:b=it:=by simpa using hb
  subst e
  exact ⟨h1,hL,h2,h3⟩
 ·obtain ⟨o,es,ep,ho,r⟩:=hm
  exact ⟨o,es,ep,k _ o (Ne.symm hL) ho,r⟩
 ·refine (I.hok b u e).stay (fun c v hc q=>k c v ?_ q) (fun _ q=>q) fun _ _ q=>q
  rcases hc with z | z
  ·rw [z]; exact nit b u e
  ·exact nit c _ z
def Inv.tok (I:Inv X pins σ H s) (t:Nat):Inv X pins σ H { s with toks:=t }:=I.un (h':=s.heap) (t':=t) Un.refl I.hok
def Inv.kept {t':Nat} (I:Inv X pins σ H s) (k:∀ b u,s.heap.get? b=some u->h'.get? b=some u):Inv X pins σ H { s with heap:=h',toks:=t' }:=I.un (Un.kept k) (I.hok.kept k)
def Inv.laid {a:Addr} {o:HO} {t':Nat} (I:Inv X pins σ H s) (k:∀ b u,s.heap.get? b=some u->h'.get? b=some u) (hp:s.heap.objs.size<=a) (new:ObjOk X.prog X.w (upd H a o) h' a o) :
  Inv X pins σ (upd H a o) { s with heap:=h',toks:=t' }:=I.un (Un.laid k hp (I.hok.fresh hp)) (I.hok.laid k hp new)
def Inv.write {x e:Addr} {o:HO} {t':Nat} (I:Inv X pins σ H s) (mu:Mut (H x)) (he:e=x\/H e=some (.own x)) (k:∀ b u,b≠e->s.heap.get? b=some u->h'.get? b=some u) (heo:∃ u,h'.get? e=some u)
  (new:ObjOk X.prog X.w (upd H x o) h' x o):Inv X pins σ (upd H x o) { s with heap:=h',toks:=t' }:=I.un (Un.write mu he k heo) (I.hok.write mu he k heo new)
def Inv.weak {σ':List (Option V)} (I:Inv X pins σ H s) (hl:σ'.length=σ.length) (w:∀ (i:Nat) v,σ'[i]?=some (some v)->σ[i]?=some (some v)):Inv X pins σ' H s :=
 ⟨I.ok,I.os,I.bare,I.base,let ⟨m,hn,hl'⟩:=I.loc; ⟨m,hn,fun i x v e1 e2 e3=>hl' i x v e1 (w i v e2) e3⟩,I.cell,I.free,I.freeC,I.pin,I.hok,hl.trans I.len⟩
def Inv.pins_of {pins':List (Addr×Obj)} (I:Inv X pins σ H s) (h:∀ p∈pins',s.heap.get? p.1=some p.2/\H p.1=none/\p.1≠X.env.locals/\p.1∉X.fs/\∀ v,p.2.data≠.cell v):Inv X pins' σ H s :=
 ⟨I.ok,I.os,I.bare,I.base,I.loc,I.cell,I.free,I.freeC,fun p hp=>(List.mem_append.mp hp).elim (fun z=>I.pin p (List.mem_append_left _ z)) (h p),I.hok,I.len⟩
def nodup_ix {N:List Str} (hN:N.Nodup) {i j:Nat} {x:Str} (a:N[i]?=some x) (b:N[j]?=some x):i=j:=by
 obtain ⟨h1,e1⟩:=List.getElem?_eq_some_iff.mp a
 obtain ⟨h2,e2⟩:=List.getElem?_eq_some_iff.mp b
 exact (List.getElem_inj hN).mp (e1.trans e2.symm)
def store_ok2 {M:Model} {A:Around} {E:Value->Shared->Prop} {i:Nat} {x:Str} {v:V} {u:Value} {Q:Unit->Shared->Prop} (I:Inv X pins σ H s) (hN:X.N.Nodup) (hi:X.N[i]?=some x) (hx:Loc X.env.scope x) (r:RelV v u)
  (h:∀ s',Inv X pins (σ.set i (some v)) H s'->(∃ a,Heap.SameBut a s.heap s'.heap/\(a=X.env.locals\/X.env.cells.lookup x=some a))->Q () s') (hf:X.fn x=true\/X.env.scope.names.lookup x=some .local:=by first | exact .inl rfl | exact .inr rfl | assumption):wpAny M A (storeName X.env x u) Q E s:=by
 obtain ⟨m,hn,hl⟩:=id I.loc
 have hcls:(X.env.scope.kind == .class || (X.env.scope.kind == .module && X.env.locals != X.env.globals))=false:=by rw [I.ok.kind]; rfl
 have hiσ:i < σ.length:=by rw [I.len]; exact (List.getElem?_eq_some_iff.mp hi).1
 have cne:=I.cne
 have tracked:∀ {a:Addr} {h':Heap},(∃ o,s.heap.get? a=some o/\H a=none)->Heap.SameBut a s.heap h'->HOk X.prog X.w H h':=fun {a h'} ha hs b ob e=>by
  obtain ⟨_,_,hfree⟩:=ha
  refine (I.hok b ob e).stay (fun c w' hc q=>(hs.2 c ?_).trans q) (fun _ q=>q) fun _ _ q=>q
  rintro rfl
  rcases hc with rfl | hc
  ·rw [hfree] at e; cases e
  ·rw [hfree] at hc; cases hc
 rcases hx with hk | hk
 ·refine wpAny_storeName_local hk hn (fun h' hn' hs=>?_) hcls
  obtain ⟨oL,_,_,hoL,_⟩:=id hn
  refine h _ ⟨I.ok,I.os,I.bare,⟨fun b o e n hb hx=>?_,fun b o e n hb hx=>?_,I.base.free,fun b o e hx=>?_,I.base.tups,I.base.frzs,I.base.tbls⟩,⟨_,hn',fun j y v' e1 e2 e3=>?_⟩,fun y c e=>?_,I.free,I.freeC,fun p hp=>?_,tracked ⟨oL,hoL,I.free⟩ hs,by simpa using I.len⟩ ⟨_,hs,.inl rfl⟩
  ·exact (hs.2 b (Nat.ne_of_lt (Nat.lt_of_lt_of_le (Heap.lt_size e) I.ok.above))).trans (I.base.keep b o e n hb hx)
  ·obtain ⟨sl,e1⟩:=I.base.slot b o e n hb hx
   exact ⟨sl,(hs.2 b (Nat.ne_of_lt (Nat.lt_of_lt_of_le (Heap.lt_size e) I.ok.above))).trans e1⟩
  ·obtain ⟨o',e1⟩:=I.base.there b o e hx
   exact ⟨o',(hs.2 b (Nat.ne_of_lt (Nat.lt_of_lt_of_le (Heap.lt_size e) I.ok.above))).trans e1⟩
  ·by_cases hj:j=i
   ·subst hj
    rw [hi] at e1; cases e1
    rw [List.getElem?_set_self hiσ] at e2
    cases e2
    exact ⟨u,r,.inl ⟨hk,by simp⟩⟩
   ·rw [List.getElem?_set_ne (Ne.symm hj)] at e2
    obtain ⟨u',r',q⟩:=hl j y v' e1 e2 e3
    refine ⟨u',r',?_⟩
    rcases q with ⟨k,e⟩ | ⟨k,c,e,z⟩
    ·refine .inl ⟨k,?_⟩
     have:y≠x:=fun e=>hj (nodup_ix hN e1 (e ▸ hi))
     simp [this,e]
    ·exact .inr ⟨k,c,e,z.sameBut hs (cne y c e)⟩
  ·obtain ⟨w',z⟩:=I.cell y c e
   exact ⟨w',z.sameBut hs (cne y c e)⟩
  ·obtain ⟨e,n,ne,nf,d⟩:=I.pin p hp
   exact ⟨(hs.2 p.1 ne).trans e,n,ne,nf,d⟩
 ·have hfn:X.fn x=true:=by
   rcases hf with z | z
   ·exact z
   ·rw [z] at hk; cases hk
  obtain ⟨c,hc⟩:=I.ok.has x (.inl hk)
  obtain ⟨w',z⟩:=I.cell x c hc
  refine wpAny_storeName_cell I.ok.kind hk hc z (fun h' hc' hs=>?_)
  obtain ⟨oc,hoc,hocd⟩:=id z
  refine h { s with heap:=h' } ⟨I.ok,I.os,I.bare,⟨fun b o e n hb hx=>?_,fun b o e n hb hx=>?_,I.base.free,fun b o e hx=>?_,I.base.tups,I.base.frzs,I.base.tbls⟩,⟨m,hn.sameBut hs (Ne.symm (cne x c hc)),fun j y v' e1 e2 e3=>?_⟩,fun y c' e=>?_,I.free,I.freeC,fun p hp=>?_,tracked ⟨oc,hoc,I.freeC x c hc⟩ hs,by simpa using I.len⟩ ⟨c,hs,.inr hc⟩
  ·exact (hs.2 b (Nat.ne_of_lt (Nat.lt_of_lt_of_le (Heap.lt_size e) (I.ok.cab x c hfn hc)))).trans (I.base.keep b o e n hb hx)
  ·obtain ⟨sl,e1⟩:=I.base.slot b o e n hb hx
   exact ⟨sl,(hs.2 b (Nat.ne_of_lt (Nat.lt_of_lt_of_le (Heap.lt_size e) (I.ok.cab x c hfn hc)))).trans e1⟩
  ·obtain ⟨o',e1⟩:=I.base.there b o e hx
   exact ⟨o',(hs.2 b (Nat.ne_of_lt (Nat.lt_of_lt_of_le (Heap.lt_size e) (I.ok.cab x c hfn hc)))).trans e1⟩
  ·by_cases hj:j=i
   ·subst hj
    rw [hi] at e1; cases e1
    rw [List.getElem?_set_self hiσ] at e2
    cases e2
    exact ⟨u,r,.inr ⟨.inl hk,c,hc,hc'⟩⟩
   ·rw [List.getElem?_set_ne (Ne.symm hj)] at e2
    obtain ⟨u',r',q⟩:=hl j y v' e1 e2 e3
    refine ⟨u',r',?_⟩
    rcases q with q | ⟨k,c',e,z'⟩
    ·exact .inl q
    ·refine .inr ⟨k,c',e,z'.sameBut hs ?_⟩
     rintro rfl
     exact hj (nodup_ix hN e1 (I.ok.inj _ _ _ e hc ▸ hi))
  ·by_cases hcc:c'=c
   ·subst hcc; exact ⟨_,hc'⟩
   ·obtain ⟨w2,z2⟩:=I.cell y c' e
    exact ⟨w2,z2.sameBut hs hcc⟩
  ·obtain ⟨e,n,ne,nf,d⟩:=I.pin p hp
   refine ⟨(hs.2 p.1 ?_).trans e,n,ne,nf,d⟩
   intro q
   rw [q,hoc] at e
   have q':oc=p.2:=Option.some.inj e
   exact d w' (by rw [<- q']; exact hocd)
def store_ok {M:Model} {A:Around} {E:Value->Shared->Prop} {i:Nat} {x:Str} {v:V} {u:Value} {Q:Unit->Shared->Prop} (I:Inv X pins σ H s) (hN:X.N.Nodup) (hi:X.N[i]?=some x) (hx:Loc X.env.scope x) (r:RelV v u)
  (h:∀ s',Inv X pins (σ.set i (some v)) H s'->Q () s') (hf:X.fn x=true\/X.env.scope.names.lookup x=some .local:=by first | exact .inl rfl | exact .inr rfl | assumption):wpAny M A (storeName X.env x u) Q E s :=
 store_ok2 I hN hi hx r (fun s' I' _=>h s' I') hf
def Inv.call' {s':Shared} {ch:List Addr} (I:Inv X pins σ H s) (ho:s'.os=s.os) (u:Un (frs X.stack) ch H H' s.heap s'.heap) (hok:HOk X.prog X.w H' s'.heap) (hg:AllBare s'.gens)
  (hch:∀ b∈ch,(b∈X.ex\/X.s₀.heap.objs.size<=b)/\b≠X.env.locals/\(∀ x c,X.env.cells.lookup x=some c->c≠b)/\∀ p∈X.pn++pins,p.1≠b):Inv X pins σ H' s':=by
 obtain ⟨h',g',d',t',o'⟩:=s'
 have e:o'=s.os:=ho
 subst e
 exact I.call (g':=g') (t':=t') (d':=d') u hok hg hch
end
abbrev XK:=Value->Option Addr->Hp->Prop
abbrev St:=List (Option V)
abbrev VK:=V->Hp->Prop
abbrev TE:=St->Hp->VK->Prop
abbrev TT:=St->Hp->(Bool->Hp->Prop)->Prop
abbrev TA:=St->Hp->(List V->Hp->Prop)->Prop
structure Ends where
 nx:St->Hp->Prop
 rt:VK
 bk:St->Hp->Prop:=fun _ _=>False
 ct:St->Hp->Prop:=fun _ _=>False
abbrev TS:=Ends->St->Hp->Prop
def EP (X:Cx) (pins:List (Addr×Obj)) (σ:St) (Q:VK) (u:Value) (s':Shared):Prop:=∃ v H',Inv X pins σ H' s'/\RelV v u/\Q v H'
def TP (X:Cx) (pins:List (Addr×Obj)) (σ:St) (Q:Bool->Hp->Prop) (b:Bool) (s':Shared):Prop:=∃ H',Inv X pins σ H' s'/\Q b H'
def AP (X:Cx) (pins:List (Addr×Obj)) (σ:St) (Q:List V->Hp->Prop) (us:List Value) (s':Shared):Prop:=∃ vs H',Inv X pins σ H' s'/\Vals vs us/\Q vs H'
def SP (X:Cx) (pins:List (Addr×Obj)) (D:Ends) (f:Flow) (s':Shared):Prop :=
 match f with
 | .next=>∃ σ' H',Inv X pins σ' H' s'/\D.nx σ' H'
 | .brk=>∃ σ' H',Inv X pins σ' H' s'/\D.bk σ' H'
 | .cont=>∃ σ' H',Inv X pins σ' H' s'/\D.ct σ' H'
 | .ret u=>∃ v σ' H',Inv X pins σ' H' s'/\RelV v u/\D.rt v H'
def PE (X:Cx) (e:Expr) (t:TE):Prop :=
 ∀ (pins:List (Addr×Obj)) (s:Shared) (σ:St) (H:Hp) (Q:VK),Inv X pins σ H s->t σ H Q->wpAny (model X.prog X.w) X.A (eval e X.env) (EP X pins σ Q) X.xe s
def PT (X:Cx) (e:Expr) (t:TT):Prop :=
 ∀ (pins:List (Addr×Obj)) (s:Shared) (σ:St) (H:Hp) (Q:Bool->Hp->Prop),Inv X pins σ H s->t σ H Q->wpAny (model X.prog X.w) X.A (isTrue e X.env (eval e X.env)) (TP X pins σ Q) X.xe s
def PW (X:Cx) (e:Expr) (t:TT):Prop :=
 ∀ (whole:Sem Value) (pins:List (Addr×Obj)) (s:Shared) (σ:St) (H:Hp) (Q:Bool->Hp->Prop),Inv X pins σ H s->t σ H Q->wpAny (model X.prog X.w) X.A (isTrue e X.env whole) (TP X pins σ Q) X.xe s
def PW.pt {X:Cx} {e:Expr} {t:TT} (h:PW X e t):PT X e t:=h _
def PA (X:Cx) (es:List Expr) (t:TA):Prop :=
 ∀ (pos:Pos) (pins:List (Addr×Obj)) (s:Shared) (σ:St) (H:Hp) (Q:List V->Hp->Prop),Inv X pins σ H s->t σ H Q->wpAny (model X.prog X.w) X.A (spliced (backTo pos (starEach es X.env))) (AP X pins σ Q) X.xe s
def PS (X:Cx) (st:Stmt) (t:TS):Prop :=
 ∀ (pins:List (Addr×Obj)) (s:Shared) (σ:St) (H:Hp) (D:Ends),Inv X pins σ H s->t D σ H->wpAny (model X.prog X.w) X.A (exec st X.env) (SP X pins D) X.xe s
def PSs (X:Cx) (st:List Stmt) (t:TS):Prop :=
 ∀ (pins:List (Addr×Obj)) (s:Shared) (σ:St) (H:Hp) (D:Ends),Inv X pins σ H s->t D σ H->wpAny (model X.prog X.w) X.A (execs st X.env) (SP X pins D) X.xe s
def thn {α:Type} {t:Sem α} {Q Q':α->Shared->Prop} {M:Model} {A:Around} {E:Value->Shared->Prop} {s:Shared} (h:wpAny M A t Q E s) (hQ:∀ a s,Q a s->Q' a s):wpAny M A t Q' E s:=wpAny_mono h hQ fun _ _ x=>x
section
variable {X:Cx}
def tVar (i:Nat):TE:=fun σ H Q=>∃ v,σ[i]?=some (some v)/\Q v H
def tC (v:V):TE:=fun _ H Q=>Q v H
def pe_var {i:Nat} {x:Str} {pos:Pos} (hN:X.N[i]?=some x) (hv:Vis X.env.scope x) (hd:(x == ("__debug__":Str))=false:=by decide) (hcd:(x == ("__classdict__":Str))=false:=by decide):PE X (.Name x pos) (tVar i):=by
 intro pins s σ H Q I h
 obtain ⟨v,e,h⟩:=h
 obtain ⟨m,hn,hl⟩:=I.loc
 obtain ⟨u,r,l⟩:=hl i x v hN e hv
 have fin:EP X pins σ Q u s:=⟨v,H,I,r,h⟩
 rcases l with ⟨hk,hm⟩ | ⟨hk,c,hc,hcell⟩
 ·exact wpAny_Name (wpAny_loadName_local I.ok.kind hk hn hm fin) hd
 ·rcases hk with hk | hk
  ·exact wpAny_Name (wpAny_loadName_cell I.ok.kind hk hc hcell fin) hd
  ·exact wpAny_Name (wpAny_loadName_free I.ok.kind hk hc hcell fin hcd) hd
def pe_int {i j pos}:PE X (.Constant (.int i) j pos) (tC (.int i)):=fun _ _ _ H _ I h=>wpAny_Constant_int ⟨.int i,H,I.tok _,⟨_,rfl⟩,h⟩
def pe_bl {b j pos}:PE X (.Constant (.bool b) j pos) (tC (.bl b)):=fun _ _ _ H _ I h=>Constant_bool ⟨.bl b,H,I,rfl,h⟩
def pe_non {j pos}:PE X (.Constant .none j pos) (tC .non):=fun _ _ _ H _ I h=>Constant_none ⟨.non,H,I,rfl,h⟩
def pe_str {x j pos}:PE X (.Constant (.str x) j pos) (tC (.str x)):=fun _ _ _ H _ I h=>Calls.Constant_str ⟨.str x,H,I.tok _,⟨_,rfl⟩,h⟩
def Gl (X:Cx) (x:Str):Prop:=X.env.kindOf x=some .globalImplicit
def ld_glob {E:Value->Shared->Prop} {pins:List (Addr×Obj)} {s:Shared} {σ:St} {H:Hp} {x:Str} {u:Value} {pos:Pos} {Q:Value->Shared->Prop} (I:Inv X pins σ H s) (hg:Gl X x) (hm:X.mg x=some u) (h:Q u s)
  (hd:(x == ("__debug__":Str))=false:=by decide):wpAny (model X.prog X.w) X.A (eval (.Name x pos) X.env) Q E s :=
 Calls.Name_function_global I.ok.kind hg (Calls.loadGlobal_global (by rw [I.ok.glob]; exact I.mod.glob.keeps I.bk) hm h) hd
def ld_blt {E:Value->Shared->Prop} {pins:List (Addr×Obj)} {s:Shared} {σ:St} {H:Hp} {x:Str} {u:Value} {pos:Pos} {Q:Value->Shared->Prop} (I:Inv X pins σ H s) (hg:Gl X x) (hm:X.mg x=none) (hv:bootBuiltins x=some u) (h:Q u s)
  (hn:x≠"__name__":=by decide) (hd:(x == ("__debug__":Str))=false:=by decide):wpAny (model X.prog X.w) X.A (eval (.Name x pos) X.env) Q E s:=by
 obtain ⟨mb,h1,h2⟩:=I.mod.blt
 exact Calls.Name_function_global I.ok.kind hg (Calls.loadGlobal_builtin (by rw [I.ok.glob]; exact I.mod.glob.keeps I.bk) hm (by rw [I.ok.blt]; exact h1.keeps I.bk) ((h2 x hn).trans hv) h) hd
def pe_bltn {x:Str} {v:V} {u:Value} {pos:Pos} (hg:Gl X x) (hm:X.mg x=none) (hv:bootBuiltins x=some u) (r:RelV v u) (hn:x≠"__name__":=by decide) (hd:(x == ("__debug__":Str))=false:=by decide):PE X (.Name x pos) (tC v) :=
 fun _ _ _ H _ I h=>ld_blt I hg hm hv ⟨v,H,I,r,h⟩ hn hd
variable {a b:Expr} {ta tb:TE} {pos:Pos}
def PC (X:Cx) (op:CmpOp) (a b:Expr) (t:TE):Prop :=
 ∀ (pins:List (Addr×Obj)) (s:Shared) (σ:St) (H:Hp) (Q:VK),Inv X pins σ H s->t σ H Q ->
  wpAny (model X.prog X.w) X.A (eval a X.env) (fun v s₁=>wpAny (model X.prog X.w) X.A (eval b X.env) (fun u s₂=>wpAny (model X.prog X.w) X.A (compareOp op v u) (EP X pins σ Q) X.xe s₂) X.xe s₁) X.xe s
def nobehind (b:Expr) {op:CmpOp} (h:op≠.In) (h2:op≠.NotIn):behindInMarks op b=false:=by
 have e1:(op == CmpOp.In)=false:=by cases op <;> first | rfl | exact absurd rfl h
 have e2:(op == CmpOp.NotIn)=false:=by cases op <;> first | rfl | exact absurd rfl h2
 cases b <;> simp [behindInMarks,e1,e2]
def tIsN (ta:TE):TE:=fun σ H Q=>ta σ H fun x H1=>Q (.bl (decide (x=.non))) H1
def tNotN (ta:TE):TE:=fun σ H Q=>ta σ H fun x H1=>Q (.bl (!decide (x=.non))) H1
theorem RelV.none_iff {x:V} {v:Value} (r:RelV x v):(v == Value.none)=decide (x=.non):=by
 cases x with
 | non=>cases r; rfl
 | bl _=>cases r; rfl
 | int _=>obtain ⟨t,rfl⟩:=r; rfl
 | str _=>obtain ⟨t,rfl⟩:=r; rfl
 | byt _=>obtain ⟨t,rfl⟩:=r; rfl
 | flt _=>obtain ⟨t,rfl⟩:=r; rfl
 | ref _=>cases r; rfl
 | ty _=>cases r; rfl
def pc_isN {j pos'} (ha:PE X a ta):PC X .Is a (.Constant .none j pos') (tIsN ta):=by
 intro pins s σ H Q I h
 refine thn (ha pins s σ H _ I h) fun v s1 ⟨x,H1,I1,r1,q1⟩=>?_
 exact Constant_none (is_none_gen ⟨.bl _,H1,I1,by rw [r1.none_iff]; rfl,q1⟩)
def pc_notN {j pos'} (ha:PE X a ta):PC X .IsNot a (.Constant .none j pos') (tNotN ta):=by
 intro pins s σ H Q I h
 refine thn (ha pins s σ H _ I h) fun v s1 ⟨x,H1,I1,r1,q1⟩=>?_
 exact Constant_none (isnot_none_gen ⟨.bl _,H1,I1,by rw [r1.none_iff]; rfl,q1⟩)
def tB (t:TE):TT:=fun σ H Q=>t σ H fun x H1=>∃ c,x=.bl c/\Q c H1
def pe_cmp {op:CmpOp} {t:TE} (h:PC X op a b t) (h1:behindInMarks op b=false:=by first | exact nobehind _ (by decide) (by decide) | rfl):PE X (.Compare a [op] [b] pos) t:=fun pins s σ H Q I hw=>wpAny_Compare1 (h pins s σ H Q I hw) h1
def pt_cmp {op:CmpOp} {t:TE} (h:PC X op a b t) (h1:behindInMarks op b=false:=by first | exact nobehind _ (by decide) (by decide) | rfl):PT X (.Compare a [op] [b] pos) (tB t):=by
 intro pins s σ H Q I hw
 refine wpAny_isTrue_Compare1 (thn (h pins s σ H _ I hw) fun v s1 h1=>thn h1 fun u s2 h2=>thn h2 fun c s3 ⟨x,H1,I1,r1,q1⟩=>?_) h1
 obtain ⟨d,rfl,q⟩:=q1
 cases r1
 exact wpAny_truthy_bool ⟨H1,I1,q⟩
def pt_val {e:Expr} {t:TE} (h:PE X e t) (he:∀ whole,isTrue e X.env whole=(do let v <- whole; standAt e.pos; holding [v] (truthy v)):=by intro _; rfl):PT X e (tB t):=by
 intro pins s σ H Q I hw
 refine isTrue_plain (thn (h pins s σ H _ I hw) fun v s1 ⟨x,H1,I1,r1,q1⟩=>?_) (he _)
 obtain ⟨d,rfl,q⟩:=q1
 cases r1
 exact wpAny_truthy_bool ⟨H1,I1,q⟩
variable {tA tB':TT} {rest:List Expr}
def tAnd (t u:TT):TT:=fun σ H Q=>t σ H fun c H1=>if c=true then u σ H1 Q else Q false H1
def tOr (t u:TT):TT:=fun σ H Q=>t σ H fun c H1=>if c=true then Q true H1 else u σ H1 Q
def tNot (t:TT):TT:=fun σ H Q=>t σ H fun c H1=>Q (!c) H1
theorem pw_and1 (ha:PT X a tA):PW X (.BoolOp .And [a] pos) tA:=by
 intro wh pins s σ H Q I h
 refine isTrue_and (thn (ha pins s σ H Q I h) fun c s1 e=>?_)
 cases c with
 | true=>exact isTrue_and_nil e
 | false=>exact e
theorem pw_or1 (ha:PT X a tA):PW X (.BoolOp .Or [a] pos) tA:=by
 intro wh pins s σ H Q I h
 refine isTrue_or (thn (ha pins s σ H Q I h) fun c s1 e=>?_)
 cases c with
 | false=>exact isTrue_or_nil e
 | true=>exact e
theorem pw_and (ha:PT X a tA) (hb:PW X (.BoolOp .And (b::rest) pos) tB'):PW X (.BoolOp .And (a::b::rest) pos) (tAnd tA tB'):=by
 intro wh pins s σ H Q I h
 refine isTrue_and (thn (ha pins s σ H _ I h) fun c s1 ⟨H1,I1,q1⟩=>?_)
 cases c with
 | true=>exact hb wh pins s1 σ H1 Q I1 q1
 | false=>exact ⟨H1,I1,q1⟩
theorem pw_or (ha:PT X a tA) (hb:PW X (.BoolOp .Or (b::rest) pos) tB'):PW X (.BoolOp .Or (a::b::rest) pos) (tOr tA tB'):=by
 intro wh pins s σ H Q I h
 refine isTrue_or (thn (ha pins s σ H _ I h) fun c s1 ⟨H1,I1,q1⟩=>?_)
 cases c with
 | true=>exact ⟨H1,I1,q1⟩
 | false=>exact hb wh pins s1 σ H1 Q I1 q1
def pt_not (ha:PT X a tA):PT X (.UnaryOp .Not a pos) (tNot tA):=by
 intro pins s σ H Q I h
 exact isTrue_not (ha pins s σ H (fun c H1=>Q (!c) H1) I h)
def tAndV (ta tb:TE):TE:=fun σ H Q=>ta σ H fun x H1=>∃ c,x=.bl c/\if c=true then tb σ H1 Q else Q (.bl false) H1
def tNotV (ta:TE):TE:=fun σ H Q=>ta σ H fun x H1=>∃ c,x=.bl c/\Q (.bl (!c)) H1
def pe_one {op} {t:TE} (h:PE X a t):PE X (.BoolOp op [a] pos) t:=fun pins s σ H Q I hw=>BoolOp_one (h pins s σ H Q I hw)
theorem pe_and (ha:PE X a ta) (hb:PE X (.BoolOp .And (b::rest) pos) tb):PE X (.BoolOp .And (a::b::rest) pos) (tAndV ta tb):=by
 intro pins s σ H Q I h
 refine BoolOp_and (thn (ha pins s σ H _ I h) fun v s1 ⟨x,H1,I1,r1,q1⟩=>?_)
 obtain ⟨c,rfl,q1⟩:=q1
 cases r1
 refine wpAny_truthy_bool ?_
 cases c with
 | true=>exact hb pins s1 σ H1 Q I1 q1
 | false=>exact ⟨.bl false,H1,I1,rfl,q1⟩
def pe_not (ha:PE X a ta):PE X (.UnaryOp .Not a pos) (tNotV ta):=by
 intro pins s σ H Q I h
 refine UnaryOp_ (thn (ha pins s σ H _ I h) fun v s1 ⟨x,H1,I1,r1,q1⟩=>?_)
 obtain ⟨c,rfl,q1⟩:=q1
 cases r1
 exact not_of (wpAny_truthy_bool ⟨.bl (!c),H1,I1,rfl,q1⟩)
end
def SqL (K:W.Frag) (H:Hp) (a:Addr) (xs:List V):Prop :=
 Rd H a (.lst xs) \/
  ∃ (o:Obj) (its:Array Value) (n:Nat),K.lookup a=some o/\o.cls=.type "list"/\o.dict=none/\o.data=.seq its n/\its.size<=sizeLine/\Vals xs its.toList
def SqT (K:W.Frag) (H:Hp) (a:Addr) (xs:List V):Prop :=
 Rd H a (.tup xs) \/
  ∃ (o:Obj) (its:Array Value) (n:Nat),K.lookup a=some o/\o.cls=.type "tuple"/\o.data=.seq its n/\its.size<=sizeLine/\Vals xs its.toList
def absV:Value->Option V
 | .none=>some .non
 | .bool b=>some (.bl b)
 | .int i _=>some (.int i)
 | .str x _=>some (.str x)
 | .bytes b _=>some (.byt b)
 | .float b _=>some (.flt b)
 | .ref a=>some (.ref a)
 | .type n=>some (.ty n)
 | _=>none
theorem RelV.abs {x:V} {u:Value} (r:RelV x u):absV u=some x:=by
 cases x with
 | non=>cases r; rfl
 | bl _=>cases r; rfl
 | int _=>obtain ⟨t,rfl⟩:=r; rfl
 | str _=>obtain ⟨t,rfl⟩:=r; rfl
 | byt _=>obtain ⟨t,rfl⟩:=r; rfl
 | flt _=>obtain ⟨t,rfl⟩:=r; rfl
 | ref _=>cases r; rfl
 | ty _=>cases r; rfl
def RelV.inj {x y:V} {u:Value} (r:RelV x u) (q:RelV y u):x=y:=Option.some.inj (r.abs.symm.trans q.abs)
theorem Vals.inj:∀ {xs ys:List V} {us:List Value},Vals xs us->Vals ys us->xs=ys
 | _,_,_,.nil,.nil=>rfl
 | _,_,_,.cons r t,.cons r' t'=>by rw [r.inj r',Vals.inj t t']
section
variable {X:Cx} {pins:List (Addr×Obj)} {σ:St} {H:Hp} {s:Shared} {a:Addr} {xs ys:List V}
def SqL.of {K:W.Frag} (h:H a=some (.lst xs)):SqL K H a xs:=.inl (.inl h)
def SqT.of {K:W.Frag} (h:H a=some (.tup xs)):SqT K H a xs:=.inl (.inl h)
theorem Inv.list (I:Inv X pins σ H s) (h:SqL X.K H a xs):∃ its:List Value,Vals xs its/\PlainL s.heap a its.toArray/\xs.length<=sizeLine:=by
 rcases h with h | ⟨o,its,n,hk,hc,hd,hs,hz,r⟩
 ·obtain ⟨z,its,n,r,e⟩:=h.ok I.hok
  exact ⟨its,r,⟨_,n,e,rfl,rfl,rfl⟩,z⟩
 ·refine ⟨its.toList,r,⟨o,n,I.kIn a o hk,hc,hd,by simpa using hs⟩,?_⟩
  have e:=r.length
  simp only [Array.length_toList] at e
  omega
theorem Inv.tuple (I:Inv X pins σ H s) (h:SqT X.K H a xs):∃ its:List Value,Vals xs its/\IsTup s.heap a its.toArray/\xs.length<=sizeLine:=by
 rcases h with h | ⟨o,its,n,hk,hc,hs,hz,r⟩
 ·obtain ⟨z,its,r,p⟩:=h.ok I.hok
  exact ⟨its,r,p.tup,z⟩
 ·refine ⟨its.toList,r,⟨o,I.kIn a o hk,hc,n,by simpa using hs⟩,?_⟩
  have e:=r.length
  simp only [Array.length_toList] at e
  omega
def Inv.list_inj (I:Inv X pins σ H s) (h:SqL X.K H a xs) (h':SqL X.K H a ys):xs=ys:=by
 obtain ⟨its,r,⟨o,n,e,_,_,d⟩,_⟩:=I.list h
 obtain ⟨its',r',⟨o',n',e',_,_,d'⟩,_⟩:=I.list h'
 rw [e] at e'; cases e'
 rw [d] at d'
 injection d' with d1 _
 have:its=its':=by simpa using congrArg Array.toList d1
 subst this
 exact r.inj r'
def Inv.tuple_inj (I:Inv X pins σ H s) (h:SqT X.K H a xs) (h':SqT X.K H a ys):xs=ys:=by
 obtain ⟨its,r,⟨o,e,_,n,d⟩,_⟩:=I.tuple h
 obtain ⟨its',r',⟨o',e',_,n',d'⟩,_⟩:=I.tuple h'
 rw [e] at e'; cases e'
 rw [d] at d'
 injection d' with d1 _
 have:its=its':=by simpa using congrArg Array.toList d1
 subst this
 exact r.inj r'
end
abbrev Cx.wish (X:Cx) (E:Value->Shared->Prop):Cx:={ X with xe:=E }
abbrev Cx.nox (X:Cx):Cx:=X.wish fun _ _=>False
def Cx.Ok.wish {X:Cx} (ok:X.Ok) (E:Value->Shared->Prop):(X.wish E).Ok :=
 ⟨ok.mod,ok.kind,ok.glob,ok.blt,ok.above,ok.inj,ok.has,ok.cab,ok.hd,ok.frames,ok.stk,ok.exf,ok.bs,ok.bsz,ok.noex,ok.exfs,ok.funs,ok.frf⟩
def Cx.Ok.unwish {X:Cx} {E:Value->Shared->Prop} (ok:(X.wish E).Ok):X.Ok :=
 ⟨ok.mod,ok.kind,ok.glob,ok.blt,ok.above,ok.inj,ok.has,ok.cab,ok.hd,ok.frames,ok.stk,ok.exf,ok.bs,ok.bsz,ok.noex,ok.exfs,ok.funs,ok.frf⟩
section
variable {X:Cx} {pins:List (Addr×Obj)} {σ:St} {H:Hp} {s:Shared} {E:Value->Shared->Prop}
def Inv.wish (I:Inv X pins σ H s) (E:Value->Shared->Prop):Inv (X.wish E) pins σ H s:=⟨I.ok.wish E,I.os,I.bare,I.base,I.loc,I.cell,I.free,I.freeC,I.pin,I.hok,I.len⟩
def Inv.unwish (I:Inv (X.wish E) pins σ H s):Inv X pins σ H s:=⟨I.ok.unwish,I.os,I.bare,I.base,I.loc,I.cell,I.free,I.freeC,I.pin,I.hok,I.len⟩
theorem SP.unwish {D:Ends} {f:Flow} {s':Shared} (h:SP (X.wish E) pins D f s'):SP X pins D f s':=by
 cases f with
 | next=>obtain ⟨σ',H',I,q⟩:=h; exact ⟨σ',H',I.unwish,q⟩
 | brk=>obtain ⟨σ',H',I,q⟩:=h; exact ⟨σ',H',I.unwish,q⟩
 | cont=>obtain ⟨σ',H',I,q⟩:=h; exact ⟨σ',H',I.unwish,q⟩
 | ret u=>obtain ⟨v,σ',H',I,r,q⟩:=h; exact ⟨v,σ',H',I.unwish,r,q⟩
def PSs.nox {st:List Stmt} {t:TS} (h:PSs X.nox st t):PSs X st t:=fun pins s σ H D I hw =>
 wpAny_mono (h pins s σ H D (I.wish _) hw) (fun _ _ q=>q.unwish) fun _ _ z=>False.elim z
end
section
variable {X:Cx} {st:Stmt} {rest:List Stmt} {t u:TS} {e:Expr} {te:TE} {pos:Pos}
def tNext:TS:=fun D σ H=>D.nx σ H
def tSeq (t u:TS):TS:=fun D σ H=>t { D with nx:=u D } σ H
def pss_nil:PSs X [] tNext:=fun _ _ σ H _ I h=>wpAny_execs_nil ⟨σ,H,I,h⟩
theorem pss_cons (h1:PS X st t) (h2:PSs X rest u):PSs X (st::rest) (tSeq t u):=by
 intro pins s σ H D I h
 refine wpAny_execs_cons (thn (h1 pins s σ H { D with nx:=u D } I h) fun f s1 q=>?_)
 cases f with
 | next =>
  obtain ⟨σ',H',I',q⟩:=q
  exact h2 pins s1 σ' H' D I' q
 | ret v=>exact q
 | brk=>exact q
 | cont=>exact q
theorem pss_one (h1:PS X st t):PSs X [st] t:=by
 intro pins s σ H D I h
 refine wpAny_execs_cons (thn (h1 pins s σ H D I h) fun f s1 q=>?_)
 cases f with
 | next=>exact wpAny_execs_nil q
 | ret v=>exact q
 | brk=>exact q
 | cont=>exact q
def Inv.quiet {pins:List (Addr×Obj)} {σ:St} {H:Hp} {s:Shared} (I:Inv X pins σ H s):interactive X.env=false:=by simp [interactive,I.ok.kind]
def tDrop (te:TE):TS:=fun D σ H=>te σ H fun _ H1=>D.nx σ H1
def ps_expr (he:PE X e te) (hs:swapsWith e none pos.line X.env=pure false:=by rfl):PS X (.Expr e pos) (tDrop te):=by
 intro pins s σ H D I h
 exact wpAny_Expr_any (thn (he pins s σ H _ I h) fun v s1 ⟨x,H1,I1,r1,q1⟩=>⟨σ,H1,I1,q1⟩) I.quiet hs
def tRet (te:TE):TS:=fun D σ H=>te σ H D.rt
def ps_ret (he:PE X e te):PS X (.Return (some e) pos) (tRet te):=by
 intro pins s σ H D I h
 exact wpAny_Return_some (thn (he pins s σ H _ I h) fun v s1 ⟨x,H1,I1,r1,q1⟩=>⟨x,σ,H1,I1,r1,q1⟩)
def tRetN:TS:=fun D _ H=>D.rt .non H
def ps_retN:PS X (.Return none pos) tRetN:=fun _ _ σ H _ I h=>wpAny_Return_none ⟨.non,σ,H,I,rfl,h⟩
def tIfS (c:TT) (t u:TS):TS:=fun D σ H=>c σ H fun b H1=>if b=true then t D σ H1 else u D σ H1
theorem ps_if {c:Expr} {a b:List Stmt} {tc:TT} (hc:PT X c tc) (ha:PSs X a t) (hb:PSs X b u):PS X (.If c a b pos) (tIfS tc t u):=by
 intro pins s σ H D I h
 refine wpAny_If (thn (hc pins s σ H _ I h) fun d s1 ⟨H1,I1,q1⟩=>?_)
 cases d with
 | true=>exact ha pins s1 σ H1 D I1 q1
 | false=>exact hb pins s1 σ H1 D I1 q1
def tNever:TS:=fun _ _ _=>False
def ps_never:PS X st tNever:=fun _ _ _ _ _ _ h=>h.elim
end
abbrev TG:=V->St->Hp->(St->Hp->Prop)->Prop
abbrev TGs:=List V->St->Hp->(St->Hp->Prop)->Prop
def PG (X:Cx) (target:Expr) (t:TG):Prop :=
 ∀ (pins:List (Addr×Obj)) (s:Shared) (σ:St) (H:Hp) (v:V) (u:Value) (Q:St->Hp->Prop),Inv X pins σ H s->RelV v u->t v σ H Q ->
  wpAny (model X.prog X.w) X.A (assign target X.env u) (fun _ s'=>∃ σ' H',Inv X pins σ' H' s'/\Q σ' H') X.xe s
def PGs (X:Cx) (ts:List Expr) (t:TGs):Prop :=
 ∀ (pins:List (Addr×Obj)) (s:Shared) (σ:St) (H:Hp) (vs:List V) (us:List Value) (Q:St->Hp->Prop),Inv X pins σ H s->Vals vs us->t vs σ H Q ->
  wpAny (model X.prog X.w) X.A (assignInOrder ((assignEach ts X.env).map (·.2)) us) (fun _ s'=>∃ σ' H',Inv X pins σ' H' s'/\Q σ' H') X.xe s
abbrev TSet:=V->V->V->Hp->(Hp->Prop)->Prop
def PSet (X:Cx) (t:TSet):Prop :=
 ∀ (pins:List (Addr×Obj)) (s:Shared) (σ:St) (H:Hp) (o i v:V) (ov iv u:Value) (Q:Hp->Prop),Inv X pins σ H s->RelV o ov->RelV i iv->RelV v u->t o i v H Q ->
  wpAny (model X.prog X.w) X.A (setItem ov iv u) (fun _ s'=>∃ H',Inv X pins σ H' s'/\Q H') X.xe s
abbrev TIp:=V->V->Hp->VK->Prop
def PIp (X:Cx) (op:Operator) (t:TIp):Prop :=
 ∀ (pins:List (Addr×Obj)) (s:Shared) (σ:St) (H:Hp) (x y:V) (v u:Value) (Q:VK),Inv X pins σ H s->RelV x v->RelV y u->t x y H Q ->
  wpAny (model X.prog X.w) X.A (inplaceOp op v u) (EP X pins σ Q) X.xe s
section
variable {X:Cx} {pos:Pos}
def gName (i:Nat):TG:=fun v σ H Q=>Q (σ.set i (some v)) H
def pg_name {i:Nat} {x:Str} (hN:X.N.Nodup) (hi:X.N[i]?=some x) (hx:Loc X.env.scope x) (hf:X.fn x=true\/X.env.scope.names.lookup x=some .local:=by first | exact .inl rfl | exact .inr rfl | assumption):PG X (.Name x pos) (gName i):=by
 intro pins s σ H v u Q I r h
 exact wpAny_assign_Name (store_ok I hN hi hx r (fun s' I'=>⟨_,H,I',h⟩) hf)
def gNil:TGs:=fun vs σ H Q=>vs=[]/\Q σ H
def gCons (t:TG) (u:TGs):TGs:=fun vs σ H Q=>∃ v r,vs=v::r/\t v σ H fun σ' H'=>u r σ' H' Q
def pgs_nil:PGs X [] gNil:=by
 intro pins s σ H vs us Q I r h
 obtain ⟨e,h⟩:=h
 subst e
 cases r
 exact assignInOrder_nil ⟨σ,H,I,h⟩
theorem pgs_cons {e:Expr} {es:List Expr} {t:TG} {u:TGs} (h1:PG X e t) (h2:PGs X es u)
  (hs:(assignEach (e::es) X.env).map (·.2)=assign e X.env::(assignEach es X.env).map (·.2):=by rfl):PGs X (e::es) (gCons t u):=by
 intro pins s σ H vs us Q I r h
 obtain ⟨v,vr,e1,h⟩:=h
 subst e1
 cases r with
 | cons r rr =>
  rw [hs]
  refine assignInOrder_cons (thn (h1 pins s σ H _ _ _ I r h) fun _ s1 ⟨σ1,H1,I1,q1⟩=>?_)
  exact h2 pins s1 σ1 H1 _ _ Q I1 rr q1
def gTup (K:W.Frag) (n:Nat) (t:TGs):TG:=fun v σ H Q=>∃ a xs,v=.ref a/\SqT K H a xs/\xs.length=n/\t xs σ H Q
def pg_tup {es:List Expr} {k:Nat} {t:TGs} {n:Nat} (hc:X.calm=true) (h:PGs X es t)
  (hn:(assignEach es X.env).length=n:=by rfl) (hst:(assignEach es X.env).findIdx? (·.1)=none:=by rfl):PG X (.Tuple es k pos) (gTup X.K n t):=by
 intro pins s σ H v u Q I r hw
 obtain ⟨a,xs,e1,hq,hl,hw⟩:=hw
 subst e1
 cases r
 obtain ⟨its,rv,ht,hz⟩:=I.tuple hq
 refine assign_Tuple_tuple (I.ok.hd hc) ht (by simp [hn,<- hl,rv.length]) hst fun h' hx=>?_
 have I1:Inv X pins σ H { s with heap:=h' }:=I.kept (t':=s.toks) fun b o e=>hx b o (Nat.ne_of_lt (Heap.lt_size e)) e
 exact h pins _ σ H xs _ Q I1 (by simpa using rv) hw
def gSub (to ti:TE) (t:TSet):TG:=fun v σ H Q=>to σ H fun o H1=>ti σ H1 fun i H2=>t o i v H2 fun H3=>Q σ H3
def pg_sub {o i:Expr} {to ti:TE} {t:TSet} (ho:PE X o to) (hi:PE X i ti) (hs:PSet X t)
  (ha:∀ v,assign (.Subscript o i pos) X.env v=(do
   let ov <- holding [v] (eval o X.env)
   let iv <- holding [v,ov] (eval i X.env)
   standAt pos
   holding [v,ov,iv] (setItem ov iv v)
   release [v,ov,iv] []):=by intro _; rfl):PG X (.Subscript o i pos) (gSub to ti t):=by
 intro pins s σ H v u Q I r h
 rw [ha]
 refine wpAny_bind (wpAny_holding (thn (ho pins s σ H _ I h) fun ov s1 ⟨x,H1,I1,r1,q1⟩=>?_))
 refine wpAny_bind (wpAny_holding (thn (hi pins s1 σ H1 _ I1 q1) fun iv s2 ⟨y,H2,I2,r2,q2⟩=>?_))
 refine wpAny_bind (wpAny_standAt (wpAny_bind (wpAny_holding (thn (hs pins s2 σ H2 x y v ov iv u _ I2 r1 r2 r q2) fun _ s3 ⟨H3,I3,q3⟩=>?_))))
 exact wpAny_release ⟨σ,H3,I3,q3⟩
def tAsg (te:TE) (g:TG):TS:=fun D σ H=>te σ H fun x H1=>g x σ H1 D.nx
def ps_asg {tg e:Expr} {te:TE} {g:TG} (he:PE X e te) (hg:PG X tg g) (hs:swapsWithSole [tg] e pos.line X.env=pure false:=by rfl) (hw:swappedStores [tg] e X.env=pure none:=by rfl)
  (h1:(assignEach [tg] X.env).map (·.2)=[assign tg X.env]:=by rfl):PS X (.Assign [tg] e pos) (tAsg te g):=by
 intro pins s σ H D I h
 refine wpAny_Assign_stores (thn (he pins s σ H _ I h) fun v s1 ⟨x,H1,I1,r1,q1⟩=>?_) hs hw
 rw [h1]
 exact thn (hg pins s1 σ H1 x v _ I1 r1 q1) fun _ s2 q=>q
def ps_set {i:Nat} {x:Str} {e:Expr} {te:TE} {pos':Pos} (hN:X.N.Nodup) (hi:X.N[i]?=some x) (hx:Loc X.env.scope x) (he:PE X e te) (hs:swapsWith e (some (.Name x pos')) pos.line X.env=pure false:=by rfl) (hf:X.fn x=true\/X.env.scope.names.lookup x=some .local:=by first | exact .inl rfl | exact .inr rfl | assumption) :
  PS X (.Assign [.Name x pos'] e pos) (tAsg te (gName i)):=by
 intro pins s σ H D I h
 refine wpAny_Assign_Name (thn (he pins s σ H _ I h) fun v s1 ⟨y,H1,I1,r1,q1⟩=>?_) hs
 exact store_ok I1 hN hi hx r1 (fun s2 I2=>⟨_,H1,I2,q1⟩) hf
def tAugS (to ti te:TE) (tget:V->V->Hp->VK->Prop) (tip:TIp) (tset:TSet):TS:=fun D σ H=>to σ H fun o H1=>ti σ H1 fun i H2=>tget o i H2 fun x H3=>te σ H3 fun y H4=>tip x y H4 fun z H5=>tset o i z H5 fun H6=>D.nx σ H6
def PGet (X:Cx) (t:V->V->Hp->VK->Prop):Prop :=
 ∀ (pins:List (Addr×Obj)) (s:Shared) (σ:St) (H:Hp) (o i:V) (ov iv:Value) (Q:VK),Inv X pins σ H s->RelV o ov->RelV i iv->t o i H Q ->
  wpAny (model X.prog X.w) X.A (getItem ov iv) (EP X pins σ Q) X.xe s
def ps_augS {o i e:Expr} {to ti te:TE} {tget:V->V->Hp->VK->Prop} {tip:TIp} {tset:TSet} {op:Operator} {tpos:Pos} (ho:PE X o to) (hi:PE X i ti) (hg:PGet X tget) (he:PE X e te) (hp:PIp X op tip) (hs:PSet X tset)
  (ha:∀ ov iv new,augStore i ov iv new=(do holding [new,ov,iv] (setItem ov iv new); release [new,ov,iv] []; pure .next):=by intros; rfl):PS X (.AugAssign (.Subscript o i tpos) op e pos) (tAugS to ti te tget tip tset):=by
 intro pins s σ H D I h
 refine wpAny_AugAssign_SubscriptAny (thn (ho pins s σ H _ I h) fun ov s1 ⟨x1,H1,I1,r1,q1⟩=>?_) ha
 refine thn (hi pins s1 σ H1 _ I1 q1) fun iv s2 ⟨x2,H2,I2,r2,q2⟩=>?_
 refine thn (hg pins s2 σ H2 x1 x2 ov iv _ I2 r1 r2 q2) fun old s3 ⟨x3,H3,I3,r3,q3⟩=>?_
 refine thn (he pins s3 σ H3 _ I3 q3) fun v s4 ⟨x4,H4,I4,r4,q4⟩=>?_
 refine thn (hp pins s4 σ H4 x3 x4 old v _ I4 r3 r4 q4) fun new s5 ⟨x5,H5,I5,r5,q5⟩=>?_
 exact thn (hs pins s5 σ H5 x1 x2 x5 ov iv new _ I5 r1 r2 r5 q5) fun _ s6 ⟨H6,I6,q6⟩=>⟨σ,H6,I6,q6⟩
def ipI (f:Int->Int->Int):TIp:=fun x y H Q=>∃ i j,x=.int i/\y=.int j/\Q (.int (f i j)) H
def ip_add:PIp X .Add (ipI fun i j=>i + j):=by
 intro pins s σ H x y v u Q I r1 r2 h
 obtain ⟨i,j,e1,e2,q⟩:=h
 subst e1; subst e2
 obtain ⟨t,rfl⟩:=r1
 obtain ⟨t',rfl⟩:=r2
 exact iadd_int ⟨.int _,H,I.tok _,⟨_,rfl⟩,q⟩
end
section
variable {X:Cx} {pos:Pos}
def tWhile (c:TT) (tb:TS):TS:=fun D σ H=>∃ W:Nat->St->Hp->Prop,(∃ m,W m σ H)/\∀ m σ H,W m σ H ->
 c σ H fun b H1=>if b=true then ∃ N:St->Hp->Prop,(∀ σ' H',N σ' H'->∃ m',m' < m/\W m' σ' H')/\tb { D with nx:=N,ct:=N,bk:=D.nx } σ H1 else D.nx σ H1
theorem ps_while {c:Expr} {body:List Stmt} {tc:TT} {tb:TS} (hp:PassesOwn (model X.prog X.w) X.A X.env X.xe) (hc:PT X c tc) (hb:PSs X body tb):PS X (.While c body [] pos) (tWhile tc tb):=by
 intro pins s σ H D I h
 obtain ⟨W,⟨m0,w0⟩,turn⟩:=h
 refine wpAny_While (codeAny_whileLoop (fun n s'=>∃ σ' H',Inv X pins σ' H' s'/\W n σ' H') ?_ m0 ⟨σ,H,I,w0⟩)
 rintro n s1 ⟨σ1,H1,I1,w1⟩
 refine wpAny_passesOwn hp (thn (hc pins s1 σ1 H1 _ I1 (turn n σ1 H1 w1)) fun b s2 ⟨H2,I2,q2⟩=>?_)
 cases b with
 | true =>
  obtain ⟨N,hN,q2⟩:=q2
  rw [if_pos rfl]
  refine wpAny_passesOwn hp (thn (hb pins s2 σ1 H2 _ I2 q2) fun f s3 q3=>?_)
  cases f with
  | next =>
   obtain ⟨σ3,H3,I3,n3⟩:=q3
   obtain ⟨m',hm,w3⟩:=hN σ3 H3 n3
   exact ⟨m',hm,σ3,H3,I3,w3⟩
  | cont =>
   obtain ⟨σ3,H3,I3,n3⟩:=q3
   obtain ⟨m',hm,w3⟩:=hN σ3 H3 n3
   exact ⟨m',hm,σ3,H3,I3,w3⟩
  | brk=>exact q3
  | ret v=>exact q3
 | false =>
  rw [if_neg Bool.false_ne_true]
  exact wpAny_execs_nil ⟨σ1,H2,I2,q2⟩
end
structure It where
 go:Nat->Hp->Prop
 yld:Nat->Hp->V->Hp->Prop
 stop:Nat->Hp->Prop
def FpOk (X:Cx) (pins:List (Addr×Obj)) (H:Hp) (b:Addr):Prop :=
 H b=none/\b≠X.env.locals/\b∉X.fs/\(b∈X.ex\/X.s₀.heap.objs.size<=b)/\(∀ x c,X.env.cells.lookup x=some c->c≠b)/\∀ p∈X.pn++pins,p.1≠b
def Inv.fpOk {X:Cx} {pins:List (Addr×Obj)} {σ:St} {H H':Hp} {s:Shared} {b:Addr} (I:Inv X pins σ H s) (hb:s.heap.objs.size<=b) (hn:H' b=none):FpOk X pins H' b:=by
 refine ⟨hn,Nat.ne_of_gt (Nat.lt_of_lt_of_le I.lt hb),I.nofs hb,.inr (Nat.le_trans I.sz hb),fun x c e z=>?_,fun p hp z=>?_⟩
 ·obtain ⟨v,q⟩:=I.cell x c e
  exact absurd (Nat.lt_of_lt_of_le q.lt (by rw [z]; exact hb)) (Nat.lt_irrefl _)
 ·exact absurd (Nat.lt_of_lt_of_le (Heap.lt_size (I.pin p hp).1) (by rw [z]; exact hb)) (Nat.lt_irrefl _)
structure Turn (P:Program) (w:World) (K:W.Frag) (tg:Expr) (J:It) (fp:List Addr) (it:Addr) (tn:Nat->Heap->Prop):Prop where
 mem:it∈fp
 obj:∀ i h,tn i h->∀ b∈fp,∃ o,h.get? b=some o/\∀ v,o.data≠.cell v
 keep:∀ i h h',tn i h->(∀ b∈fp,∀ o,h.get? b=some o->h'.get? b=some o)->tn i h'
 item:∀ (X:Cx),X.prog=P->X.w=w->X.K=K->X.calm=true->∀ (i:Nat) (pins:List (Addr×Obj)) (s:Shared) (σ:St) (H:Hp) (E:Value->Shared->Prop),Inv X pins σ H s->(∀ b∈fp,FpOk X pins H b)->tn i s.heap->J.go i H ->
  wpAny (model P w) X.A (pyNext (.ref it)) (fun r s1=>∃ u,r=some u /\
   wpAny (model P w) X.A (letOwnedTupleGo tg (.ref it) u) (fun _ s2=>∃ x H',Inv X pins σ H' s2/\RelV x u/\J.yld i H x H'/\tn (i + 1) s2.heap/\∀ b∈fp,H' b=none) E s1) E s
 done:∀ (X:Cx),X.prog=P->X.w=w->X.K=K->X.calm=true->∀ (i:Nat) (pins:List (Addr×Obj)) (s:Shared) (σ:St) (H:Hp) (E:Value->Shared->Prop),Inv X pins σ H s->(∀ b∈fp,FpOk X pins H b)->tn i s.heap->J.stop i H ->
  wpAny (model P w) X.A (pyNext (.ref it)) (fun r s1=>r=none/\Inv X pins σ H s1) E s
 self:∀ (A:Around) (i:Nat) (s:Shared) (Q:Value->Shared->Prop) (E:Value->Shared->Prop),tn i s.heap->Q (.ref it) s->wpAny (model P w) A (pyIter (.ref it)) Q E s
abbrev TI:=St->Hp->(It->Hp->Prop)->Prop
def PIE (X:Cx) (pins:List (Addr×Obj)) (σ:St) (tg:Expr) (R:It->Hp->Prop) (itv:Value) (s2:Shared):Prop :=
 ∃ (it:Addr) (fp:List Addr) (tn:Nat->Heap->Prop) (J:It) (H':Hp),itv=.ref it/\Inv X pins σ H' s2/\Turn X.prog X.w X.K tg J fp it tn/\tn 0 s2.heap/\(∀ b∈fp,FpOk X pins H' b)/\R J H'
def PI (X:Cx) (tg iter:Expr) (wi:TI):Prop :=
 ∀ (pins:List (Addr×Obj)) (s:Shared) (σ:St) (H:Hp) (R:It->Hp->Prop),Inv X pins σ H s->wi σ H R ->
  wpAny (model X.prog X.w) X.A (eval iter X.env) (fun v s1=>wpAny (model X.prog X.w) X.A (pyIter v) (PIE X pins σ tg R) X.xe s1) X.xe s
def go_of {M:Model} {A:Around} {E:Value->Shared->Prop} {s:Shared} {tg:Expr} {it:Addr} {u:Value} {o:Obj} {n:String} {vs:Array Value} {Q:Unit->Shared->Prop} (ho:s.heap.get? it=some o) (hc:o.cls=.type n) (hd:o.data=.fields vs)
    (hn:["enumerate", "zip", "dict_itemiterator", "dict_reverseitemiterator", "odict_iterator", "itertools.zip_longest", "itertools.pairwise"].contains n=false) (hQ:Q () s):wpAny M A (letOwnedTupleGo tg (.ref it) u) Q E s:=by
  unfold letOwnedTupleGo
  cases tg <;> first
    | exact wpAny_pure hQ
    | (cases u <;> first
        | exact wpAny_pure hQ
        | (refine wpAny_bind (wpAny_load ho ?_)
           rw [hc,hd]
           show wpAny M A (if (["enumerate", "zip", "dict_itemiterator", "dict_reverseitemiterator", "odict_iterator", "itertools.zip_longest", "itertools.pairwise"].contains n && vs[0]? == some (rawInt _))=true then _ else _) Q E s
           rw [if_neg (by intro h; rw [hn,Bool.false_and] at h; cases h)]
           exact wpAny_pure hQ))
def Itl (K:W.Frag) (a:Addr):It :=
 ⟨fun i H=>∃ xs x,SqL K H a xs/\xs[i]?=some x,fun i H x H'=>H'=H/\∀ xs,SqL K H a xs->xs[i]?=some x,fun i H=>∃ xs,SqL K H a xs/\xs.length<=i⟩
def Itt (K:W.Frag) (a:Addr):It :=
 ⟨fun i H=>∃ xs x,SqT K H a xs/\xs[i]?=some x,fun i H x H'=>H'=H/\∀ xs,SqT K H a xs->xs[i]?=some x,fun i H=>∃ xs,SqT K H a xs/\xs.length<=i⟩
def Itr (lo:Int) (n:Nat):It:=⟨fun i _=>i < n,fun i H x H'=>H'=H/\x=.int (lo + i),fun i _=>n<=i⟩
theorem turn_list {P:Program} {w:World} {K:W.Frag} {tg:Expr} (a it:Addr):Turn P w K tg (Itl K a) [it] it (fun i h=>h.IsListIter it a i) where
 mem:=by simp
 obj:=fun i h st b hb=>by
  have e:b=it:=by simpa using hb
  subst e
  obtain ⟨o,e,c,d⟩:=st
  exact ⟨o,e,fun v z=>by rw [d] at z; cases z⟩
 keep:=fun i h h' st k=>st.at fun o e=>k it (by simp) o e
 item:=by
  intro X hP hw hK hc i pins s σ H E I hf st hg
  subst hP hw hK
  obtain ⟨xs,x,hq,hx⟩:=hg
  obtain ⟨its,rv,p,hz⟩:=I.list hq
  obtain ⟨u,hu,ru⟩:=rv.get hx
  obtain ⟨f0,f1,f2,f3,f4,f5⟩:=hf it (by simp)
  refine wpAny_pyNext_list_item st p.isList (x:=u) (by simpa using hu) fun h' st' sb=>?_
  have I1:Inv X pins σ H { s with heap:=h' }:=I.turned (t':=s.toks) (fun b o hb e=>(sb.2 b hb).trans e) f0 f1 f3 f4 f5
  obtain ⟨o,e,c,d⟩:=id st'
  exact ⟨u,rfl,go_of (s:={ s with heap:=h' }) e c d (by decide) ⟨x,H,I1,ru,⟨rfl,fun ys hy=>by rw [I.list_inj hy hq]; exact hx⟩,st',fun b hb=>(hf b hb).1⟩⟩
 done:=by
  intro X hP hw hK hc i pins s σ H E I hf st hg
  subst hP hw hK
  obtain ⟨xs,hq,hx⟩:=hg
  obtain ⟨its,rv,p,hz⟩:=I.list hq
  obtain ⟨f0,f1,f2,f3,f4,f5⟩:=hf it (by simp)
  have hl:=rv.length
  exact wpAny_pyNext_list_end (I.ok.hd hc) st p.isList (by simp; omega) fun h' eb=>⟨rfl,I.turned (t':=s.toks) (fun b o hb e=>eb b o hb e) f0 f1 f3 f4 f5⟩
 self:=fun _ _ _ _ _ st h=>wpAny_pyIter_listiter st h
theorem turn_tuple {P:Program} {w:World} {K:W.Frag} {tg:Expr} (a it:Addr):Turn P w K tg (Itt K a) [it] it (fun i h=>h.IsTupleIter it a i) where
 mem:=by simp
 obj:=fun i h st b hb=>by
  have e:b=it:=by simpa using hb
  subst e
  obtain ⟨o,e,c,d⟩:=st
  exact ⟨o,e,fun v z=>by rw [d] at z; cases z⟩
 keep:=fun i h h' st k=>st.at fun o e=>k it (by simp) o e
 item:=by
  intro X hP hw hK hc i pins s σ H E I hf st hg
  subst hP hw hK
  obtain ⟨xs,x,hq,hx⟩:=hg
  obtain ⟨its,rv,p,hz⟩:=I.tuple hq
  obtain ⟨u,hu,ru⟩:=rv.get hx
  obtain ⟨f0,f1,f2,f3,f4,f5⟩:=hf it (by simp)
  refine wpAny_pyNext_tuple_item st (show s.heap.IsTuple a its.toArray from p) (x:=u) (by simpa using hu) fun h' st' sb=>?_
  have I1:Inv X pins σ H { s with heap:=h' }:=I.turned (t':=s.toks) (fun b o hb e=>(sb.2 b hb).trans e) f0 f1 f3 f4 f5
  obtain ⟨o,e,c,d⟩:=id st'
  exact ⟨u,rfl,go_of (s:={ s with heap:=h' }) e c d (by decide) ⟨x,H,I1,ru,⟨rfl,fun ys hy=>by rw [I.tuple_inj hy hq]; exact hx⟩,st',fun b hb=>(hf b hb).1⟩⟩
 done:=by
  intro X hP hw hK hc i pins s σ H E I hf st hg
  subst hP hw hK
  obtain ⟨xs,hq,hx⟩:=hg
  obtain ⟨its,rv,p,hz⟩:=I.tuple hq
  obtain ⟨f0,f1,f2,f3,f4,f5⟩:=hf it (by simp)
  have hl:=rv.length
  exact wpAny_pyNext_tuple_end (I.ok.hd hc) st (show s.heap.IsTuple a its.toArray from p) (by simp; omega) fun h' eb=>⟨rfl,I.turned (t':=s.toks) (fun b o hb e=>eb b o hb e) f0 f1 f3 f4 f5⟩
 self:=fun _ _ _ _ _ st h=>wpAny_pyIter_tupleiter st h
theorem turn_range {P:Program} {w:World} {K:W.Frag} {tg:Expr} (it:Addr) (lo:Int) (n:Nat):Turn P w K tg (Itr lo n) [it] it (fun i h=>IsRangeIter h it (lo + (i:Nat) * 1) ((n:Int) - (i:Nat)) 1) where
 mem:=by simp
 obj:=fun i h st b hb=>by
  have e:b=it:=by simpa using hb
  subst e
  exact ⟨_,st,fun v z=>by
   have z':Data.fields _=Data.cell v:=z
   cases z'⟩
 keep:=fun i h h' st k=>k it (by simp) _ st
 item:=by
  intro X hP hw hK hc i pins s σ H E I hf st hg
  subst hP hw hK
  obtain ⟨f0,f1,f2,f3,f4,f5⟩:=hf it (by simp)
  have W:=Walks.range (prog:=X.prog) (w:=X.w) (I.ok.hd hc) it lo 1 n
  refine W.item i s _ _ hg st fun v h' tk hv st' kk=>?_
  obtain ⟨t,rfl⟩:=hv
  have I1:Inv X pins σ H { s with heap:=h',toks:=tk }:=I.turned (fun b o hb e=>kk b o (by simpa using hb) e) f0 f1 f3 f4 f5
  refine ⟨_,rfl,go_of (s:={ s with heap:=h',toks:=tk }) (n:="range_iterator") st' rfl rfl (by decide) ⟨.int (lo + i),H,I1,⟨t,?_⟩,⟨rfl,rfl⟩,st',fun b hb=>(hf b hb).1⟩⟩
  rw [Int.mul_one]
 done:=by
  intro X hP hw hK hc i pins s σ H E I hf st hg
  subst hP hw hK
  obtain ⟨f0,f1,f2,f3,f4,f5⟩:=hf it (by simp)
  exact wpAny_pyNext_range_end (I.ok.hd hc) st (by have:n<=i:=hg; omega) fun h' eb=>⟨rfl,I.turned (t':=s.toks) (fun b o hb e=>eb b o hb e) f0 f1 f3 f4 f5⟩
 self:=fun _ _ _ _ _ st h=>wpAny_pyIter_rangeiter st h
section
variable {X:Cx} {tg:Expr}
def iList (K:W.Frag) (tl:TE):TI:=fun σ H R=>tl σ H fun x H1=>∃ a,x=.ref a/\(∃ xs,SqL K H1 a xs)/\R (Itl K a) H1
def iTup (K:W.Frag) (tl:TE):TI:=fun σ H R=>tl σ H fun x H1=>∃ a,x=.ref a/\(∃ xs,SqT K H1 a xs)/\R (Itt K a) H1
def pi_list {l:Expr} {tl:TE} (hl:PE X l tl):PI X tg l (iList X.K tl):=by
 intro pins s σ H R I h
 refine thn (hl pins s σ H _ I h) fun v s1 ⟨x,H1,I1,r1,q1⟩=>?_
 obtain ⟨a,e,⟨xs,hq⟩,q⟩:=q1
 subst e
 cases r1
 obtain ⟨its,rv,p,hz⟩:=I1.list hq
 refine wpAny_pyIter_list p.isList ?_
 refine ⟨s1.heap.objs.size,[s1.heap.objs.size],_,_,H1,rfl,I1.kept (t':=s1.toks) fun b o e=>Heap.get?_push_of_some _ e,turn_list a _,⟨_,Heap.get?_push_size _ rfl,rfl,rfl⟩,fun b hb=>?_,q⟩
 have e:b=s1.heap.objs.size:=by simpa using hb
 subst e
 exact I1.fpOk (Nat.le_refl _) (I1.hok.fresh (Nat.le_refl _))
def pi_tup {l:Expr} {tl:TE} (hl:PE X l tl):PI X tg l (iTup X.K tl):=by
 intro pins s σ H R I h
 refine thn (hl pins s σ H _ I h) fun v s1 ⟨x,H1,I1,r1,q1⟩=>?_
 obtain ⟨a,e,⟨xs,hq⟩,q⟩:=q1
 subst e
 cases r1
 obtain ⟨its,rv,p,hz⟩:=I1.tuple hq
 refine wpAny_pyIter_tuple (show s1.heap.IsTuple a its.toArray from p) ?_
 refine ⟨s1.heap.objs.size,[s1.heap.objs.size],_,_,H1,rfl,I1.kept (t':=s1.toks) fun b o e=>Heap.get?_push_of_some _ e,turn_tuple a _,⟨_,Heap.get?_push_size _ rfl,rfl,rfl⟩,fun b hb=>?_,q⟩
 have e:b=s1.heap.objs.size:=by simpa using hb
 subst e
 exact I1.fpOk (Nat.le_refl _) (I1.hok.fresh (Nat.le_refl _))
theorem range_it {pins:List (Addr×Obj)} {σ:St} {H:Hp} {s:Shared} {R:It->Hp->Prop} {E:Value->Shared->Prop} {lo hi:Int} {t u v:Tok} {tk:Nat} (I:Inv X pins σ H s) (h1:-(2 ^ 62)<=lo) (h2:lo < 2 ^ 62) (h3:-(2 ^ 62)<=hi) (h4:hi < 2 ^ 62)
  (q:R (Itr lo (hi - lo).toNat) H):wpAny (model X.prog X.w) X.A (pyIter (.ref s.heap.objs.size)) (PIE X pins σ tg R) E { s with heap:=s.heap.push { cls:=.type "range",data:=.fields #[.int lo t,.int hi u,.int 1 v] },toks:=tk }:=by
 refine wpAny_pyIter_range (IsRange.new ..) (small_one h1 h2 h3 h4) ?_
 have I1:Inv X pins σ H { s with heap:=s.heap.push { cls:=.type "range",data:=.fields #[.int lo t,.int hi u,.int 1 v] },toks:=tk }:=I.kept fun b o e=>Heap.get?_push_of_some _ e
 refine ⟨(s.heap.push { cls:=.type "range",data:=.fields #[.int lo t,.int hi u,.int 1 v] }).objs.size,[(s.heap.push { cls:=.type "range",data:=.fields #[.int lo t,.int hi u,.int 1 v] }).objs.size],_,_,H,rfl,
  I1.kept (t':=tk) fun b o e=>Heap.get?_push_of_some _ e,turn_range _ lo (hi - lo).toNat,?_,fun b hb=>?_,q⟩
 ·have e1:lo + ((0:Nat):Int) * 1=lo:=by simp
  have e2:(((hi - lo).toNat:Nat):Int) - ((0:Nat):Int)=Builtin.Range.rangeSize lo hi 1:=by rw [rangeSize_one]; split <;> omega
  show IsRangeIter _ _ (lo + ((0:Nat):Int) * 1) ((((hi - lo).toNat:Nat):Int) - ((0:Nat):Int)) 1
  rw [e1,e2]
  exact Heap.get?_push_size _ rfl
 ·have e:b=(s.heap.push { cls:=.type "range",data:=.fields #[.int lo t,.int hi u,.int 1 v] }).objs.size:=by simpa using hb
  subst e
  exact I1.fpOk (Nat.le_refl _) (I1.hok.fresh (Nat.le_refl _))
def iRng1 (ta:TA):TI:=fun σ H R=>ta σ H fun vs H1=>∃ j:Int,vs=[.int j]/\-(2 ^ 62)<=j/\j < 2 ^ 62/\R (Itr 0 j.toNat) H1
def iRng2 (ta:TA):TI:=fun σ H R=>ta σ H fun vs H1=>∃ i j:Int,vs=[.int i,.int j]/\(-(2 ^ 62)<=i/\i < 2 ^ 62/\-(2 ^ 62)<=j/\j < 2 ^ 62)/\R (Itr i (j - i).toNat) H1
theorem pi_range1 {a:Expr} {ta:TA} {p pos:Pos} (hg:Gl X "range") (hm:X.mg "range"=none) (ha:PA X [a] ta) (hs:starEach [a] X.env=[(false,eval a X.env)]:=by rfl):PI X tg (.Call (.Name "range" p) [a] [] pos) (iRng1 ta):=by
 intro pins s σ H R I h
 refine Call_ (ld_blt I hg hm boot_range (PyProof.Rows.callWith_type1 (thn (ha pos pins s σ H _ I h) fun us s1 ⟨vs,H1,I1,r1,q1⟩=>?_) hs rfl))
 obtain ⟨j,e,q1,q2,q⟩:=q1
 subst e
 cases r1 with
 | cons r rr =>
  cases rr
  obtain ⟨t,rfl⟩:=r
  exact call_range_1 (range_it I1 (by omega) (by omega) q1 q2 (by simpa using q))
theorem pi_range2 {a b:Expr} {ta:TA} {p pos:Pos} (hg:Gl X "range") (hm:X.mg "range"=none) (ha:PA X [a,b] ta) (hs:starEach [a,b] X.env=[(false,eval a X.env),(false,eval b X.env)]:=by rfl) (hs2:starEach [b] X.env=[(false,eval b X.env)]:=by rfl) :
  PI X tg (.Call (.Name "range" p) [a,b] [] pos) (iRng2 ta):=by
 intro pins s σ H R I h
 refine Call_ (ld_blt I hg hm boot_range (PyProof.Rows.callWith_type1 (thn (ha pos pins s σ H _ I h) fun us s1 ⟨vs,H1,I1,r1,q1⟩=>?_) (by rw [hs,hs2]) (by rw [hs2]; rfl)))
 obtain ⟨i,j,e,⟨q1,q2,q3,q4⟩,q⟩:=q1
 subst e
 cases r1 with
 | cons r rr =>
  cases rr with
  | cons r' rr =>
   cases rr
   obtain ⟨t,rfl⟩:=r
   obtain ⟨t',rfl⟩:=r'
   exact call_range_2 (range_it I1 q1 q2 q3 q4 q)
def tFor (wi:TI) (g:TG) (tb:TS):TS:=fun D σ H=>wi σ H fun J H1=>∃ W:Nat->Nat->St->Hp->Prop,(∃ m,W 0 m σ H1)/\∀ i m σ H,W i m σ H ->
 (J.stop i H/\D.nx σ H)\/(J.go i H/\∃ N:St->Hp->Prop,(∀ σ' H',N σ' H'->∃ m',m' < m/\W (i + 1) m' σ' H')/\∀ x H',J.yld i H x H'->g x σ H' fun σ2 H2=>tb { D with nx:=N,ct:=N,bk:=D.nx } σ2 H2)
def pinsAt (fp:List Addr) (h:Heap):List (Addr×Obj):=fp.filterMap fun b=>(h.get? b).map fun o=>(b,o)
def mem_pinsAt {fp:List Addr} {h:Heap} {b:Addr} {o:Obj} (hb:b∈fp) (e:h.get? b=some o):(b,o)∈pinsAt fp h:=List.mem_filterMap.mpr ⟨b,hb,by rw [e]; rfl⟩
theorem of_pinsAt {fp:List Addr} {h:Heap} {p:Addr×Obj} (hp:p∈pinsAt fp h):p.1∈fp/\h.get? p.1=some p.2:=by
 obtain ⟨b,hb,e⟩:=List.mem_filterMap.mp hp
 cases q:h.get? b with
 | none=>rw [q] at e; cases e
 | some o =>
  rw [q] at e
  have e':(b,o)=p:=Option.some.inj e
  subst e'
  exact ⟨hb,q⟩
def Inv.pinned {pins:List (Addr×Obj)} {σ:St} {H:Hp} {s:Shared} {fp:List Addr} (I:Inv X pins σ H s) (hf:∀ b∈fp,FpOk X pins H b) (ho:∀ b∈fp,∃ o,s.heap.get? b=some o/\∀ v,o.data≠.cell v):Inv X (pins++pinsAt fp s.heap) σ H s :=
 I.pins_of fun p hp=>(List.mem_append.mp hp).elim (fun z=>I.pin p (List.mem_append_right _ z)) fun z=>by
  obtain ⟨hb,e⟩:=of_pinsAt z
  obtain ⟨f0,f1,f2,_⟩:=hf p.1 hb
  obtain ⟨o,e',d⟩:=ho p.1 hb
  rw [e] at e'; cases e'
  exact ⟨e,f0,f1,f2,d⟩
def Inv.unpinned {pins pl:List (Addr×Obj)} {σ:St} {H:Hp} {s:Shared} (I:Inv X (pins++pl) σ H s):Inv X pins σ H s:=I.pins_of fun p hp=>I.pin p (List.mem_append_right _ (List.mem_append_left _ hp))
def ps_for {iter:Expr} {body:List Stmt} {wi:TI} {g:TG} {tb:TS} {pos:Pos} (hp:PassesOwn (model X.prog X.w) X.A X.env X.xe) (hc:X.calm=true) (hi:PI X tg iter wi) (hg:PG X tg g) (hb:PSs X body tb)
  (hs:∀ x,foldedSetIterable iter X.env x=pure x:=by intro _; rfl):PS X (.For tg iter body [] pos) (tFor wi g tb):=by
 intro pins s σ H D I h
 refine wpAny_For (thn (hi pins s σ H _ I h) fun v s1 h1=>thn h1 fun itv s2 h2=>?_) hs
 obtain ⟨it,fp,tn,J,H2,e,I2,T,st2,f2,W,⟨m0,w0⟩,turn⟩:=h2
 subst e
 have stat:∀ {H':Hp},(∀ b∈fp,H' b=none)->∀ b∈fp,FpOk X pins H' b:=fun hn b hb=>⟨hn b hb,(f2 b hb).2⟩
 refine codeAny_forLoop_any (fun n s'=>∃ i σ' H',Inv X pins σ' H' s'/\tn i s'.heap/\(∀ b∈fp,H' b=none)/\W i n σ' H') ?_ m0 ⟨0,σ,H2,I2,st2,fun b hb=>(f2 b hb).1,w0⟩
 rintro n s3 ⟨i,σ3,H3,I3,st3,fr3,w3⟩
 rcases turn i n σ3 H3 w3 with ⟨stop,qn⟩ | ⟨go,N,hN,step⟩
 ·refine wpAny_passesOwn hp (thn (T.done X rfl rfl rfl hc i pins s3 σ3 H3 X.xe I3 (stat fr3) st3 stop) fun r s4 ⟨hr,I4⟩=>?_)
  subst hr
  exact wpAny_execs_nil ⟨σ3,H3,I4,qn⟩
 ·refine wpAny_passesOwn hp (thn (T.item X rfl rfl rfl hc i pins s3 σ3 H3 X.xe I3 (stat fr3) st3 go) fun r s4 ⟨u,hr,h4⟩=>?_)
  subst hr
  refine wpAny_passesOwn hp (thn h4 fun _ s5 ⟨x,H5,I5,r5,y5,st5,fr5⟩=>?_)
  have I5':=I5.pinned (stat fr5) (T.obj _ _ st5)
  refine wpAny_passesOwn hp (thn (hg _ s5 σ3 H5 x u _ I5' r5 (step x H5 y5)) fun _ s6 ⟨σ6,H6,I6,q6⟩=>?_)
  refine wpAny_passesOwn hp (thn (hb _ s6 σ6 H6 _ I6 q6) fun f s7 q7=>?_)
  have again:∀ {σ7:St} {H7:Hp},Inv X (pins++pinsAt fp s5.heap) σ7 H7 s7->N σ7 H7->∃ m,m < n/\∃ i σ' H',Inv X pins σ' H' s7/\tn i s7.heap/\(∀ b∈fp,H' b=none)/\W i m σ' H':=fun {σ7 H7} I7 n7=>by
   obtain ⟨m',hm,w7⟩:=hN σ7 H7 n7
   refine ⟨m',hm,i + 1,σ7,H7,I7.unpinned,T.keep _ _ _ st5 fun b hb o e=>(I7.pin (b,o) (List.mem_append_right _ (List.mem_append_right _ (mem_pinsAt hb e)))).1,fun b hb=>?_,w7⟩
   obtain ⟨o,e,d⟩:=T.obj _ _ st5 b hb
   exact (I7.pin (b,o) (List.mem_append_right _ (List.mem_append_right _ (mem_pinsAt hb e)))).2.1
  cases f with
  | next=>obtain ⟨σ7,H7,I7,n7⟩:=q7; exact again I7 n7
  | cont=>obtain ⟨σ7,H7,I7,n7⟩:=q7; exact again I7 n7
  | brk=>obtain ⟨σ7,H7,I7,q7⟩:=q7; exact ⟨σ7,H7,I7.unpinned,q7⟩
  | ret v=>obtain ⟨x7,σ7,H7,I7,r7,q7⟩:=q7; exact ⟨x7,σ7,H7,I7.unpinned,r7,q7⟩
end
theorem for_list {K:W.Frag} {a:Addr} {xs:List V} {g:TG} {tb:TS} {D:Ends} {σ:St} {H:Hp} (Pv:Nat->St->Hp->Prop) (h0:Pv 0 σ H) (hl:∀ i σ H,i<=xs.length->Pv i σ H->SqL K H a xs)
  (hs:∀ i x σ H,xs[i]?=some x->Pv i σ H->g x σ H fun σ2 H2=>tb { D with nx:=Pv (i + 1),ct:=Pv (i + 1),bk:=D.nx } σ2 H2) (hd:∀ σ H,Pv xs.length σ H->D.nx σ H) :
  ∃ W:Nat->Nat->St->Hp->Prop,(∃ m,W 0 m σ H)/\∀ i m σ H,W i m σ H ->
   ((Itl K a).stop i H/\D.nx σ H)\/((Itl K a).go i H/\∃ N:St->Hp->Prop,(∀ σ' H',N σ' H'->∃ m',m' < m/\W (i + 1) m' σ' H')/\∀ x H',(Itl K a).yld i H x H'->g x σ H' fun σ2 H2=>tb { D with nx:=N,ct:=N,bk:=D.nx } σ2 H2):=by
 refine ⟨fun i m σ H=>m=xs.length - i/\i<=xs.length/\Pv i σ H,⟨xs.length,by simp,Nat.zero_le _,h0⟩,?_⟩
 rintro i m σ H ⟨rfl,hi,p⟩
 have q:=hl i σ H hi p
 by_cases hlt:i < xs.length
 ·refine .inr ⟨⟨xs,xs[i],q,by simp [hlt]⟩,Pv (i + 1),fun σ' H' p'=>⟨xs.length - (i + 1),by omega,rfl,hlt,p'⟩,fun x H' y=>?_⟩
  obtain ⟨e,y⟩:=y
  subst e
  exact hs i x σ _ (y xs q) p
 ·have e:i=xs.length:=by omega
  subst e
  exact .inl ⟨⟨xs,q,Nat.le_refl _⟩,hd σ H p⟩
theorem for_range {lo:Int} {n:Nat} {g:TG} {tb:TS} {D:Ends} {σ:St} {H:Hp} (Pv:Nat->St->Hp->Prop) (h0:Pv 0 σ H)
  (hs:∀ i σ H,i < n->Pv i σ H->g (.int (lo + i)) σ H fun σ2 H2=>tb { D with nx:=Pv (i + 1),ct:=Pv (i + 1),bk:=D.nx } σ2 H2) (hd:∀ σ H,Pv n σ H->D.nx σ H) :
  ∃ W:Nat->Nat->St->Hp->Prop,(∃ m,W 0 m σ H)/\∀ i m σ H,W i m σ H ->
   ((Itr lo n).stop i H/\D.nx σ H)\/((Itr lo n).go i H/\∃ N:St->Hp->Prop,(∀ σ' H',N σ' H'->∃ m',m' < m/\W (i + 1) m' σ' H')/\∀ x H',(Itr lo n).yld i H x H'->g x σ H' fun σ2 H2=>tb { D with nx:=N,ct:=N,bk:=D.nx } σ2 H2):=by
 refine ⟨fun i m σ H=>m=n - i/\i<=n/\Pv i σ H,⟨n,by simp,Nat.zero_le _,h0⟩,?_⟩
 rintro i m σ H ⟨rfl,hi,p⟩
 by_cases hlt:i < n
 ·refine .inr ⟨hlt,Pv (i + 1),fun σ' H' p'=>⟨n - (i + 1),by omega,rfl,hlt,p'⟩,fun x H' y=>?_⟩
  obtain ⟨e,y⟩:=y
  subst e y
  exact hs i σ _ hlt p
 ·have e:i=n:=by omega
  subst e
  exact .inl ⟨Nat.le_refl _,hd σ H p⟩
abbrev R2:=V->V->Hp->VK->Prop
def OpR (X:Cx) (f:Value->Value->Sem Value) (r:R2):Prop :=
 ∀ (pins:List (Addr×Obj)) (s:Shared) (σ:St) (H:Hp) (x y:V) (v u:Value) (Q:VK),Inv X pins σ H s->RelV x v->RelV y u->r x y H Q ->
  wpAny (model X.prog X.w) X.A (f v u) (EP X pins σ Q) X.xe s
def UnR (X:Cx) (f:Value->Sem Value) (r:V->Hp->VK->Prop):Prop :=
 ∀ (pins:List (Addr×Obj)) (s:Shared) (σ:St) (H:Hp) (x:V) (v:Value) (Q:VK),Inv X pins σ H s->RelV x v->r x H Q ->
  wpAny (model X.prog X.w) X.A (f v) (EP X pins σ Q) X.xe s
def CallR (X:Cx) (f:Value) (r:List V->Hp->VK->Prop):Prop :=
 ∀ (pins:List (Addr×Obj)) (s:Shared) (σ:St) (H:Hp) (xs:List V) (us:List Value) (Q:VK),Inv X pins σ H s->Vals xs us->r xs H Q ->
  wpAny (model X.prog X.w) X.A (call f us) (EP X pins σ Q) X.xe s
def tOp (r:R2) (ta tb:TE):TE:=fun σ H Q=>ta σ H fun x H1=>tb σ H1 fun y H2=>r x y H2 Q
def tUn (r:V->Hp->VK->Prop) (ta:TE):TE:=fun σ H Q=>ta σ H fun x H1=>r x H1 Q
def rI (C:Int->Int->Prop) (g:Int->Int->V):R2:=fun x y H Q=>∃ i j,x=.int i/\y=.int j/\C i j/\Q (g i j) H
def rI0 (g:Int->Int->V):R2:=fun x y H Q=>∃ i j,x=.int i/\y=.int j/\Q (g i j) H
def rU (g:Int->V):V->Hp->VK->Prop:=fun x H Q=>∃ i,x=.int i/\Q (g i) H
section
variable {X:Cx} {a b:Expr} {ta tb:TE} {pos:Pos}
def binT (ha:PE X a ta) (hb:PE X b tb) {pins:List (Addr×Obj)} {s:Shared} {σ:St} {H:Hp} {R:V->V->Hp->Prop} (I:Inv X pins σ H s)
  (h:ta σ H fun x H1=>tb σ H1 fun y H2=>R x y H2) {Q:Value->Shared->Prop} {f:Value->Value->Sem Value}
  (hf:∀ v u s2 x y H2,Inv X pins σ H2 s2->RelV x v->RelV y u->R x y H2->wpAny (model X.prog X.w) X.A (f v u) Q X.xe s2) :
  wpAny (model X.prog X.w) X.A (eval a X.env) (fun v s₁=>wpAny (model X.prog X.w) X.A (eval b X.env) (fun u s₂=>wpAny (model X.prog X.w) X.A (f v u) Q X.xe s₂) X.xe s₁) X.xe s:=by
 refine thn (ha pins s σ H _ I h) fun v s1 ⟨x,H1,I1,r1,q1⟩=>?_
 refine thn (hb pins s1 σ H1 _ I1 q1) fun u s2 ⟨y,H2,I2,r2,q2⟩=>?_
 exact hf v u s2 x y H2 I2 r1 r2 q2
def pe_op {op:Operator} {r:R2} (ho:OpR X (binaryOp op) r) (ha:PE X a ta) (hb:PE X b tb):PE X (.BinOp a op b pos) (tOp r ta tb):=by
 intro pins s σ H Q I h
 exact wpAny_BinOp (binT ha hb I h fun v u s2 x y H2 I2 rx ry q=>ho pins s2 σ H2 x y v u Q I2 rx ry q)
def pe_un {op:UnaryOp} {r:V->Hp->VK->Prop} (ho:UnR X (unaryOp op) r) (ha:PE X a ta):PE X (.UnaryOp op a pos) (tUn r ta):=by
 intro pins s σ H Q I h
 exact UnaryOp_ (thn (ha pins s σ H _ I h) fun v s1 ⟨x,H1,I1,r1,q1⟩=>ho pins s1 σ H1 x v Q I1 r1 q1)
def opI {f:Value->Value->Sem Value} {C:Int->Int->Prop} {g:Int->Int->Int}
  (rule:∀ (i j:Int) (t u:Tok) (s:Shared) (Q:Value->Shared->Prop) (E:Value->Shared->Prop),C i j->Q (.int (g i j) s.toks) { s with toks:=s.toks + 1 }->wpAny (model X.prog X.w) X.A (f (.int i t) (.int j u)) Q E s) :
  OpR X f (rI C fun i j=>.int (g i j)):=by
 intro pins s σ H x y v u Q I rx ry h
 obtain ⟨i,j,rfl,rfl,hc,q⟩:=h
 obtain ⟨t,rfl⟩:=rx
 obtain ⟨t',rfl⟩:=ry
 exact rule i j t t' s _ _ hc ⟨.int (g i j),H,I.tok _,⟨_,rfl⟩,q⟩
def opI0 {f:Value->Value->Sem Value} {g:Int->Int->Int}
  (rule:∀ (i j:Int) (t u:Tok) (s:Shared) (Q:Value->Shared->Prop) (E:Value->Shared->Prop),Q (.int (g i j) s.toks) { s with toks:=s.toks + 1 }->wpAny (model X.prog X.w) X.A (f (.int i t) (.int j u)) Q E s) :
  OpR X f (rI0 fun i j=>.int (g i j)):=by
 intro pins s σ H x y v u Q I rx ry h
 obtain ⟨i,j,rfl,rfl,q⟩:=h
 obtain ⟨t,rfl⟩:=rx
 obtain ⟨t',rfl⟩:=ry
 exact rule i j t t' s _ _ ⟨.int (g i j),H,I.tok _,⟨_,rfl⟩,q⟩
def opB0 {f:Value->Value->Sem Value} {g:Int->Int->Bool}
  (rule:∀ (i j:Int) (t u:Tok) (s:Shared) (Q:Value->Shared->Prop) (E:Value->Shared->Prop),Q (.bool (g i j)) s->wpAny (model X.prog X.w) X.A (f (.int i t) (.int j u)) Q E s) :
  OpR X f (rI0 fun i j=>.bl (g i j)):=by
 intro pins s σ H x y v u Q I rx ry h
 obtain ⟨i,j,rfl,rfl,q⟩:=h
 obtain ⟨t,rfl⟩:=rx
 obtain ⟨t',rfl⟩:=ry
 exact rule i j t t' s _ _ ⟨.bl (g i j),H,I,rfl,q⟩
def CDiv (i j:Int):Prop:=0 < j/\j < 1073741824
def CPow (i j:Int):Prop:=0<=j/\j<=1000000/\i.natAbs < 2 ^ 64
def CMul (i j:Int):Prop:=(-(2 ^ 64) < i/\i < 2 ^ 64)\/(-(2 ^ 64) < j/\j < 2 ^ 64)
def CMul.ok {i j:Int} (h:CMul i j):IntMulOk i j:=by
 rcases h with ⟨h1,h2⟩ | ⟨h1,h2⟩
 ·exact .of_left (intBits_le_64 h1 h2)
 ·exact .of_right (intBits_le_64 h1 h2)
def op_add:OpR X (binaryOp .Add) (rI0 fun i j=>.int (i + j)):=opI0 fun _ _ _ _ _ _ _ q=>add_int q
def op_sub:OpR X (binaryOp .Sub) (rI0 fun i j=>.int (i - j)):=opI0 fun _ _ _ _ _ _ _ q=>sub_int q
def op_mul:OpR X (binaryOp .Mult) (rI CMul fun i j=>.int (i * j)):=opI fun _ _ _ _ _ _ _ hc q=>mul_int q hc.ok
theorem op_fdiv:OpR X (binaryOp .FloorDiv) (rI CDiv fun i j=>.int (i / j)):=opI fun i j _ _ _ _ _ hc q=>by
 have h1:(0:Int) < j:=hc.1
 have h2:j < 1073741824:=hc.2
 exact floordiv_int (by omega) (by rw [Int.fdiv_eq_ediv_of_nonneg i (by omega)]; exact q) (.inl (PyProof.noPylong_small (by omega)))
theorem op_mod:OpR X (binaryOp .Mod) (rI (fun _ j=>0 < j) fun i j=>.int (i % j)):=opI fun i j _ _ _ _ _ hc q=>by
 have h1:(0:Int) < j:=hc
 exact mod_int' (by omega) (by rw [Int.fmod_eq_emod_of_nonneg i (by omega)]; exact q)
def op_pow:OpR X (binaryOp .Pow) (rI CPow fun i j=>.int (i ^ j.toNat)):=opI fun _ _ _ _ _ _ _ hc q=>pow_int_small hc.1 hc.2.1 hc.2.2 q
def unI {f:Value->Sem Value} {g:Int->Int}
  (rule:∀ (i:Int) (t:Tok) (s:Shared) (Q:Value->Shared->Prop) (E:Value->Shared->Prop),Q (.int (g i) s.toks) { s with toks:=s.toks + 1 }->wpAny (model X.prog X.w) X.A (f (.int i t)) Q E s) :
  UnR X f (rU fun i=>.int (g i)):=by
 intro pins s σ H x v Q I rx h
 obtain ⟨i,rfl,q⟩:=h
 obtain ⟨t,rfl⟩:=rx
 exact rule i t s _ _ ⟨.int (g i),H,I.tok _,⟨_,rfl⟩,q⟩
def un_neg:UnR X (unaryOp .USub) (rU fun i=>.int (-i)):=unI fun _ _ _ _ _ q=>neg_int q
end
def scal:V->V->Bool
 | .non,.non=>true | .non,.int _=>true | .int _,.non=>true | .non,.bl _=>true | .bl _,.non=>true | .non,.str _=>true | .str _,.non=>true
 | .int _,.int _=>true | .bl _,.bl _=>true | .str _,.str _=>true | .byt _,.byt _=>true
 | .int _,.str _=>true | .str _,.int _=>true | .bl _,.str _=>true | .str _,.bl _=>true
 | _,_=>false
def rEq:R2:=fun x y H Q=>scal x y=true/\Q (.bl (decide (x=y))) H
def rNe:R2:=fun x y H Q=>scal x y=true/\Q (.bl (!decide (x=y))) H
def dec_int {i j:Int}:decide (V.int i=V.int j)=(i == j):=by
 rw [Bool.eq_iff_iff]
 simp
def dec_bl {i j:Bool}:decide (V.bl i=V.bl j)=(i == j):=by
 rw [Bool.eq_iff_iff]
 simp
def dec_str {i j:Str}:decide (V.str i=V.str j)=(i == j):=by
 rw [Bool.eq_iff_iff]
 simp
def dec_byt {i j:Array UInt8}:decide (V.byt i=V.byt j)=(i.toList == j.toList):=by
 rw [Bool.eq_iff_iff]
 cases i
 cases j
 simp
section
variable {X:Cx} {a b c:Expr} {ta tb:TE} {pos:Pos}
def fin_bl {pins:List (Addr×Obj)} {σ:St} {H:Hp} {s:Shared} {Q:VK} {k k':Bool} (I:Inv X pins σ H s) (q:Q (.bl k) H) (e:k=k'):EP X pins σ Q (.bool k') s:=by
 subst e
 exact ⟨.bl k,H,I,rfl,q⟩
theorem op_eq:OpR X (compareOp .Eq) rEq:=by
 intro pins s σ H x y v u Q I rx ry h
 obtain ⟨hs,q⟩:=h
 cases x with
 | non =>
  cases rx
  cases y with
  | non=>cases ry; exact PySem.EqNone.eq_none_none (fin_bl I q (by simp))
  | bl j=>cases ry; exact PySem.EqNone.eq_none_bool (fin_bl I q (by simp))
  | int j=>obtain ⟨t',rfl⟩:=ry; exact PySem.EqNone.eq_none_int (fin_bl I q (by simp))
  | str j=>obtain ⟨t',rfl⟩:=ry; exact PySem.EqNone.eq_none_str (fin_bl I q (by simp))
  | _=>exact absurd (show false=true from hs) Bool.false_ne_true
 | bl i =>
  cases rx
  cases y with
  | non=>cases ry; exact PySem.EqNone.eq_bool_none (fin_bl I q (by simp))
  | bl j=>cases ry; exact eq_bool (fin_bl I q dec_bl)
  | str j=>obtain ⟨t',rfl⟩:=ry; exact PySem.EqMixed.eq_bool_str (fin_bl I q (by simp))
  | _=>exact absurd (show false=true from hs) Bool.false_ne_true
 | int i =>
  obtain ⟨t,rfl⟩:=rx
  cases y with
  | non=>cases ry; exact PySem.EqNone.eq_int_none (fin_bl I q (by simp))
  | int j=>obtain ⟨t',rfl⟩:=ry; exact eq_int (fin_bl I q dec_int)
  | str j=>obtain ⟨t',rfl⟩:=ry; exact PySem.EqMixed.eq_int_str (fin_bl I q (by simp))
  | _=>exact absurd (show false=true from hs) Bool.false_ne_true
 | str i =>
  obtain ⟨t,rfl⟩:=rx
  cases y with
  | non=>cases ry; exact PySem.EqNone.eq_str_none (fin_bl I q (by simp))
  | bl j=>cases ry; exact PySem.EqMixed.eq_str_bool (fin_bl I q (by simp))
  | int j=>obtain ⟨t',rfl⟩:=ry; exact PySem.EqMixed.eq_str_int (fin_bl I q (by simp))
  | str j=>obtain ⟨t',rfl⟩:=ry; exact eq_str (fin_bl I q dec_str)
  | _=>exact absurd (show false=true from hs) Bool.false_ne_true
 | byt i =>
  obtain ⟨t,rfl⟩:=rx
  cases y with
  | byt j=>obtain ⟨t',rfl⟩:=ry; exact W.eq_bytes (fin_bl I q dec_byt)
  | _=>exact absurd (show false=true from hs) Bool.false_ne_true
 | _=>cases y <;> exact absurd (show false=true from hs) Bool.false_ne_true
theorem op_ne:OpR X (compareOp .NotEq) rNe:=by
 intro pins s σ H x y v u Q I rx ry h
 obtain ⟨hs,q⟩:=h
 cases x with
 | non =>
  cases rx
  cases y with
  | non=>cases ry; exact PySem.EqNone.ne_none_none (fin_bl I q (by simp))
  | bl j=>cases ry; exact PySem.EqNone.ne_none_bool (fin_bl I q (by simp))
  | int j=>obtain ⟨t',rfl⟩:=ry; exact PySem.EqNone.ne_none_int (fin_bl I q (by simp))
  | str j=>obtain ⟨t',rfl⟩:=ry; exact PySem.EqNone.ne_none_str (fin_bl I q (by simp))
  | _=>exact absurd (show false=true from hs) Bool.false_ne_true
 | bl i =>
  cases rx
  cases y with
  | non=>cases ry; exact PySem.EqNone.ne_bool_none (fin_bl I q (by simp))
  | bl j=>cases ry; exact ne_bool (fin_bl I q (congrArg not dec_bl))
  | str j=>obtain ⟨t',rfl⟩:=ry; exact PySem.EqMixed.ne_bool_str (fin_bl I q (by simp))
  | _=>exact absurd (show false=true from hs) Bool.false_ne_true
 | int i =>
  obtain ⟨t,rfl⟩:=rx
  cases y with
  | non=>cases ry; exact PySem.EqNone.ne_int_none (fin_bl I q (by simp))
  | int j=>obtain ⟨t',rfl⟩:=ry; exact ne_int (fin_bl I q (congrArg not dec_int))
  | str j=>obtain ⟨t',rfl⟩:=ry; exact PySem.EqMixed.ne_int_str (fin_bl I q (by simp))
  | _=>exact absurd (show false=true from hs) Bool.false_ne_true
 | str i =>
  obtain ⟨t,rfl⟩:=rx
  cases y with
  | non=>cases ry; exact PySem.EqNone.ne_str_none (fin_bl I q (by simp))
  | bl j=>cases ry; exact PySem.EqMixed.ne_str_bool (fin_bl I q (by simp))
  | int j=>obtain ⟨t',rfl⟩:=ry; exact PySem.EqMixed.ne_str_int (fin_bl I q (by simp))
  | str j=>obtain ⟨t',rfl⟩:=ry; exact ne_str (fin_bl I q (congrArg not dec_str))
  | _=>exact absurd (show false=true from hs) Bool.false_ne_true
 | byt i =>
  obtain ⟨t,rfl⟩:=rx
  cases y with
  | byt j=>obtain ⟨t',rfl⟩:=ry; exact W.ne_bytes (fin_bl I q (congrArg not dec_byt))
  | _=>exact absurd (show false=true from hs) Bool.false_ne_true
 | _=>cases y <;> exact absurd (show false=true from hs) Bool.false_ne_true
def op_lt:OpR X (compareOp .Lt) (rI0 fun i j=>.bl (decide (i < j))):=opB0 fun _ _ _ _ _ _ _ q=>lt_int q
def op_gt:OpR X (compareOp .Gt) (rI0 fun i j=>.bl (decide (j < i))):=opB0 fun _ _ _ _ _ _ _ q=>gt_int q
def op_ge:OpR X (compareOp .GtE) (rI0 fun i j=>.bl (decide (j<=i))):=opB0 fun _ _ _ _ _ _ _ q=>ge_int q
def nomark (b:Expr) {op:CmpOp} (h:op≠.In:=by decide) (h2:op≠.NotIn:=by decide):behindInMarks op b=false:=by
 have e1:(op == CmpOp.In)=false:=by cases op <;> first | rfl | exact absurd rfl h
 have e2:(op == CmpOp.NotIn)=false:=by cases op <;> first | rfl | exact absurd rfl h2
 cases b <;> simp [behindInMarks,e1,e2]
def pe_cmpR {op:CmpOp} {r:R2} (ho:OpR X (compareOp op) r) (ha:PE X a ta) (hb:PE X b tb) (hm:behindInMarks op b=false):PE X (.Compare a [op] [b] pos) (tOp r ta tb):=by
 intro pins s σ H Q I h
 exact wpAny_Compare1 (binT ha hb I h fun v u s2 x y H2 I2 rx ry q=>ho pins s2 σ H2 x y v u Q I2 rx ry q) hm
def tTest (t:TE):TT:=fun σ H Q=>t σ H fun x H'=>∃ k,x=.bl k/\Q k H'
def pt_cmpR {op:CmpOp} {r:R2} (ho:OpR X (compareOp op) r) (ha:PE X a ta) (hb:PE X b tb) (hm:behindInMarks op b=false):PT X (.Compare a [op] [b] pos) (tTest (tOp r ta tb)):=by
 intro pins s σ H Q I h
 refine wpAny_isTrue_Compare1 (thn (ha pins s σ H _ I h) fun v s1 ⟨x,H1,I1,r1,q1⟩=>thn (hb pins s1 σ H1 _ I1 q1) fun u s2 ⟨y,H2,I2,r2,q2⟩ =>
  thn (ho pins s2 σ H2 x y v u _ I2 r1 r2 q2) fun c s3 ⟨z,H3,I3,r3,k,e,q3⟩=>?_) hm
 subst e
 cases r3
 exact wpAny_truthy_bool ⟨H3,I3,q3⟩
def line63:(sizeLine:Nat) < 2 ^ 63:=by rw [sizeLine_eq]; decide
def op_add_str:OpR X (binaryOp .Add) (fun x y H Q=>∃ i j,x=.str i/\y=.str j/\i.length + j.length<=sizeLine/\Q (.str (i++j)) H):=by
 intro pins s σ H x y v u Q I rx ry h
 obtain ⟨i,j,rfl,rfl,hz,q⟩:=h
 obtain ⟨t,rfl⟩:=rx
 obtain ⟨t',rfl⟩:=ry
 exact add_str (fun t' tk=>⟨.str (i++j),H,I.tok _,⟨_,rfl⟩,q⟩) hz
theorem vals1 {x:V} {us:List Value} (r:Vals [x] us):∃ u,us=[u]/\RelV x u:=by
 cases r with
 | cons r1 r2=>cases r2; exact ⟨_,rfl,r1⟩
theorem vals2 {x y:V} {us:List Value} (r:Vals [x,y] us):∃ u w',us=[u,w']/\RelV x u/\RelV y w':=by
 cases r with
 | cons r1 r2 =>
  cases r2 with
  | cons r3 r4=>cases r4; exact ⟨_,_,rfl,r1,r3⟩
def call_abs:CallR X (.builtin "abs") (fun xs H Q=>∃ i,xs=[.int i]/\Q (.int (if i < 0 then -i else i)) H):=by
 intro pins s σ H xs us Q I r h
 obtain ⟨i,rfl,q⟩:=h
 obtain ⟨u,rfl,t,rfl⟩:=vals1 r
 exact call_abs_int fun u tk=>⟨.int (if i < 0 then -i else i),H,I.tok _,⟨_,rfl⟩,q⟩
def call_max2 (hc:X.calm=true):CallR X (.builtin "max") (fun xs H Q=>∃ i j,xs=[.int i,.int j]/\Q (.int (if j > i then j else i)) H):=by
 intro pins s σ H xs us Q I r h
 obtain ⟨i,j,rfl,q⟩:=h
 obtain ⟨u,w',rfl,⟨t,rfl⟩,⟨t',rfl⟩⟩:=vals2 r
 refine max_two_ints (I.ok.hd hc) fun h' tk k=>⟨_,H,I.kept k,?_,q⟩
 by_cases hj:j > i
 ·rw [if_pos hj,if_pos hj]; exact ⟨_,rfl⟩
 ·rw [if_neg hj,if_neg hj]; exact ⟨_,rfl⟩
def call_min2 (hc:X.calm=true):CallR X (.builtin "min") (fun xs H Q=>∃ i j,xs=[.int i,.int j]/\Q (.int (if j < i then j else i)) H):=by
 intro pins s σ H xs us Q I r h
 obtain ⟨i,j,rfl,q⟩:=h
 obtain ⟨u,w',rfl,⟨t,rfl⟩,⟨t',rfl⟩⟩:=vals2 r
 refine min_two_ints (I.ok.hd hc) fun h' tk k=>⟨_,H,I.kept k,?_,q⟩
 by_cases hj:j < i
 ·rw [if_pos hj,if_pos hj]; exact ⟨_,rfl⟩
 ·rw [if_neg hj,if_neg hj]; exact ⟨_,rfl⟩
def call_int1:CallR X (.type "int") (fun xs H Q=>(∃ i,xs=[.int i]/\Q (.int i) H)\/∃ k,xs=[.bl k]/\Q (.int (if k then 1 else 0)) H):=by
 intro pins s σ H xs us Q I r h
 rcases h with ⟨i,rfl,q⟩ | ⟨k,rfl,q⟩
 ·obtain ⟨u,rfl,t,rfl⟩:=vals1 r
  exact call_int_int ⟨.int i,H,I,⟨_,rfl⟩,q⟩
 ·obtain ⟨u,rfl,r1⟩:=vals1 r
  cases r1
  exact call_int_bool ⟨.int (if k then 1 else 0),H,I.tok _,⟨_,rfl⟩,q⟩
def LenV (K:W.Frag) (x:V) (H:Hp) (n:Nat):Prop :=
 match x with
 | .str y=>y.length<=sizeLine/\n=y.length
 | .byt y=>y.size<=sizeLine/\n=y.size
 | .ref p=>(∃ xs,SqL K H p xs/\n=xs.length)\/∃ xs,SqT K H p xs/\n=xs.length
 | _=>False
theorem call_len:CallR X (.builtin "len") (fun xs H Q=>∃ x n,xs=[x]/\LenV X.K x H n/\Q (.int n) H):=by
 intro pins s σ H xs us Q I r h
 obtain ⟨x,n,rfl,e,q⟩:=h
 obtain ⟨u,rfl,rx⟩:=vals1 r
 have hl:=line63
 have hs:sizeLine=16777216:=sizeLine_eq
 cases x with
 | str y =>
  obtain ⟨t,rfl⟩:=rx
  obtain ⟨hy,e'⟩:y.length<=sizeLine/\n=y.length:=e
  subst e'
  exact len_str (by omega) ⟨.int _,H,I.tok _,⟨_,rfl⟩,q⟩
 | byt y =>
  obtain ⟨t,rfl⟩:=rx
  obtain ⟨hy,e'⟩:y.size<=sizeLine/\n=y.size:=e
  subst e'
  exact W.len_bytes (by omega) ⟨.int _,H,I.tok _,⟨_,rfl⟩,q⟩
 | ref p =>
  cases rx
  have e':(∃ xs,SqL X.K H p xs/\n=xs.length)\/∃ xs,SqT X.K H p xs/\n=xs.length:=e
  rcases e' with ⟨xs,hx,e'⟩ | ⟨xs,hx,e'⟩
  ·subst e'
   obtain ⟨its,r',pl,hz⟩:=I.list hx
   have hlen:=r'.length
   exact Calls.call_len_list pl.isList (by simp only [List.size_toArray]; omega) ⟨.int xs.length,H,I.tok _,⟨_,by simp only [List.size_toArray]; rw [hlen]⟩,q⟩
  ·subst e'
   obtain ⟨its,r',pl,hz⟩:=I.tuple hx
   have hlen:=r'.length
   exact len_tuple pl (by simp only [List.size_toArray]; omega) ⟨.int xs.length,H,I.tok _,⟨_,by simp only [List.size_toArray]; rw [hlen]⟩,q⟩
 | _=>exact (show False from e).elim
end
structure ObjM (h:Heap) (x dx C:Addr) (mA:Str->Option Value):Prop where
 obj:h.get? x=some (W.instObj C dx)
 ns:h.Ns1 dx mA
 ne:dx≠x
def lookIn_ns {h:Heap} {dx:Addr} {mA:Str->Option Value} (n:h.Ns1 dx mA):∃ od,h.get? dx=some od/\∀ name,W.lookIn name od=some (mA name):=by
 obtain ⟨o,es,ep,ho,hd,hk,_,hm⟩:=n
 refine ⟨o,ho,fun name=>?_⟩
 have e:=hm name
 unfold nsFind findBy at e
 rw [<- Array.find?_toList] at e
 unfold W.lookIn
 rw [hd]
 dsimp only
 split
 ·rename_i y q
  rw [q] at e
  exact congrArg some e
 ·rename_i q
  rw [q] at e
  have a:es.toList.any (·.refKey)=false:=by
   rw [List.any_eq_false]
   intro y hy
   obtain ⟨z,t,hkey⟩:=hk y (Array.mem_toList_iff.mp hy)
   simp [DictEntry.refKey,hkey]
  have a':¬ es.toList.any (·.refKey)=true:=by rw [a]; exact Bool.false_ne_true
  rw [if_neg a']
  exact congrArg some e
def ObjM.look {h:Heap} {x dx C:Addr} {mA:Str->Option Value} (I:ObjM h x dx C mA):∃ od,W.InstAt h x (W.instObj C dx) C (some od)/\∀ name,W.lookIn name od=some (mA name) :=
 let ⟨od,ho,hl⟩:=lookIn_ns I.ns
 ⟨od,⟨I.obj,rfl,rfl,ho⟩,hl⟩
section
variable {prog:Program} {w:World} {A:Around} {E:Value->Shared->Prop} {s:Shared} {K:W.Frag} {x dx C f:Addr} {mA:Str->Option Value} {name:Str} {v:Value}
def get_map {expr:Bool} {Q:Value->Shared->Prop} (X:K.In s.heap) (I:ObjM s.heap x dx C mA) (hg:W.plainGet K C name=true) (hh:W.hasDictIn K C=true)
  (ha:W.findIn K (.ref C) name=some none) (hv:mA name=some v) (hv':W.handedIn v=true) (h:Q v { s with toks:=s.toks + 1 }) :
  wpAny (model prog w) A (getAttr (.ref x) name expr) Q E s:=by
 obtain ⟨od,J,hl⟩:=I.look
 exact W.get_value X J (W.plainGet_of hg).1 (W.findObj_own hh ha rfl (by rw [hl,hv])) hv' h
def get_meth {pl:Sem Bool} {Q:Value×List Value->Shared->Prop} (X:K.In s.heap) (I:ObjM s.heap x dx C mA) (hg:W.plainGet K C name=true)
  (hf:W.findIn K (.ref C) name=some (some (.ref f))) (ht:W.isFn K (.ref f)=true) (hv:mA name=none) (h:Q (.ref f,[.ref x]) s) :
  wpAny (model prog w) A (getMethod (.ref x) name pl) Q E s:=by
 obtain ⟨od,J,hl⟩:=I.look
 exact W.method_fn X J (W.plainGet_of hg).1 (W.plainGet_of hg).2 hf (beq_iff_eq.mp ht) (by show (W.lookIn name od).map (·.isSome)=some false; rw [hl,hv]; rfl) h
theorem set_map {ns:List Str} {Q:Unit->Shared->Prop} (X:K.In s.heap) (I:ObjM s.heap x dx C mA)
  (hs:W.findIn K (.ref C) "__setattr__"=some (some (.builtin "object.__setattr__"))) (hp:W.plainOver K C=true) (ht:W.takerIn K C name=some none) (hh:W.hasDictIn K C=true)
  (hw:PySem.Within mA ns) (hsz:ns.length<=sizeLine)
  (h:∀ h',ObjM h' x dx C (fun y=>if y=name then some v else mA y)->Heap.SameBut dx s.heap h'->Q () { s with heap:=h',toks:=s.toks + 2 }) :
  wpAny (model prog w) A (setAttr (.ref x) name v) Q E s:=by
 obtain ⟨od,J,hl⟩:=I.look
 refine W.set_plain X J hs (W.osa_open (s:={ s with toks:=s.toks + 1 }) (r:=none) X J hp ht fun b=>?_)
 obtain ⟨cd,hc,hd'⟩:=W.any_some hh
 have hx:s.heap.get? x=some ⟨.ref C,some dx,.plain,#[]⟩:=I.obj
 refine wpAny_bind (wpAny_pure (wpAny_bind (wpAny_bind (wpAny_loadPart hx (wpAny_bind (W.Looks.here (s:={ s with toks:=s.toks + 1 }) (W.looks_clsIn X hc) ?_))))))
 rw [hd']
 refine wpAny_pure (a:=some dx) (wpAny_bind (wpAny_pure (wpAny_bind ?_)))
 refine wpAny_nsSet1 (s:={ s with toks:=s.toks + 1 }) I.ns fun h' hn2 hs2=>?_
 obtain ⟨oD,esD,epD,hoD,hdD,hcD⟩:=hn2.count (PySem.Within.cons name v hw)
 refine wpAny_bind (wpAny_lookBehind hoD (by rw [hdD]; exact pastItsLine_dict (Nat.le_trans hcD (by rw [List.length_cons]; omega))) ?_)
 exact wpAny_pure (h _ ⟨(hs2.2 _ (Ne.symm I.ne)).trans I.obj,hn2,I.ne⟩ hs2)
def make_map {R:Result->Shared->Prop} {vs:List Value} {kw:List (Str×Value)} (X:K.In s.heap) (hm:W.makesIn K C=true)
  (hi:W.findIn K (.ref C) "__init__"=some (some (.ref f))) (hf:W.typeIn K (.ref f)=some (.type "function"))
  (h:codeAny (model prog w) (A.under (.builtin "type.__call__" ⟨.ref C::vs,kw⟩)) (.call (.ref f) ⟨.ref (s.heap.objs.size + 1)::vs,kw⟩) (W.InitBack (s.heap.objs.size + 1) R)
   { s with heap:=(s.heap.push W.emptyDict).push (W.instObj C s.heap.objs.size) }) :
  codeAny (model prog w) A (.call (.ref C) ⟨vs,kw⟩) R s:=by
 obtain ⟨hh,g,d,t,os⟩:=s
 exact W.make_core (W.makes_of X hm) (W.looks_findIn X hi) (fun self=>W.bind_fn X self hf) (.inl rfl) h
end
def putF (f:Str) (v:V):List (Str×V)->List (Str×V)
 | []=>[(f,v)]
 | (g,x)::r=>if g=f then (g,v)::r else (g,x)::putF f v r
theorem lookup_putF (f g:Str) (v:V):∀ fs:List (Str×V),(putF f v fs).lookup g=if g=f then some v else fs.lookup g
 | []=>by
  show List.lookup g [(f,v)]=_
  by_cases h:g=f
  ·have hb:(g == f)=true:=beq_iff_eq.mpr h
   simp only [List.lookup,hb,if_pos h]
  ·have hb:(g == f)=false:=beq_eq_false_iff_ne.mpr h
   simp only [List.lookup,hb,if_neg h]
 | (k,x)::r=>by
  have ih:=lookup_putF f g v r
  rw [show putF f v ((k,x)::r)=(if k=f then (k,v)::r else (k,x)::putF f v r) from rfl]
  by_cases hk:k=f
  ·rw [if_pos hk]
   by_cases h:g=k
   ·have hb:(g == k)=true:=beq_iff_eq.mpr h
    simp only [List.lookup,hb,if_pos (h.trans hk)]
   ·have hb:(g == k)=false:=beq_eq_false_iff_ne.mpr h
    simp only [List.lookup,hb,if_neg (fun e:g=f=>h (e.trans hk.symm))]
  ·rw [if_neg hk]
   by_cases h:g=k
   ·have hb:(g == k)=true:=beq_iff_eq.mpr h
    simp only [List.lookup,hb,if_neg (fun e:g=f=>hk (h.symm.trans e))]
   ·have hb:(g == k)=false:=beq_eq_false_iff_ne.mpr h
    simp only [List.lookup,hb]
    exact ih
theorem keys_putF (f:Str) (v:V):∀ fs:List (Str×V),f∈(putF f v fs).map (·.1)/\∀ g,g∈fs.map (·.1)->g∈(putF f v fs).map (·.1)
 | []=>⟨by simp [putF],fun g h=>by simp at h⟩
 | (k,x)::r=>by
  obtain ⟨i1,i2⟩:=keys_putF f v r
  rw [show putF f v ((k,x)::r)=(if k=f then (k,v)::r else (k,x)::putF f v r) from rfl]
  by_cases hk:k=f
  ·rw [if_pos hk]
   subst hk
   exact ⟨by simp,fun g h=>by simpa using h⟩
  ·rw [if_neg hk]
   refine ⟨?_,fun g h=>?_⟩
   ·rw [List.map_cons]
    exact List.mem_cons_of_mem _ i1
   ·rw [List.map_cons] at h ⊢
    rcases List.mem_cons.mp h with e | e
    ·exact List.mem_cons.mpr (.inl e)
    ·exact List.mem_cons_of_mem _ (i2 g e)
theorem length_putF (f:Str) (v:V):∀ fs:List (Str×V),(putF f v fs).length<=fs.length + 1
 | []=>by simp [putF]
 | (k,x)::r=>by
  have ih:=length_putF f v r
  rw [show putF f v ((k,x)::r)=(if k=f then (k,v)::r else (k,x)::putF f v r) from rfl]
  by_cases hk:k=f
  ·rw [if_pos hk,List.length_cons,List.length_cons]; omega
  ·rw [if_neg hk,List.length_cons,List.length_cons]; omega
theorem RelO.some_of {v:V} {o:Option Value} (r:RelO (some v) o):∃ u,o=some u/\RelV v u:=by
 cases o with
 | none=>exact (show False from r).elim
 | some u=>exact ⟨u,rfl,r⟩
theorem RelO.none_of {o:Option Value} (r:RelO none o):o=none:=by
 cases o with
 | none=>rfl
 | some u=>exact (show False from r).elim
theorem handed_of {v:V} {u:Value} (r:RelV v u):W.handedIn u=true:=by
 cases v with
 | non=>cases (show u=Value.none from r); rfl
 | bl b=>cases (show u=Value.bool b from r); rfl
 | int i=>obtain ⟨t,e⟩:=(show ∃ t,u=Value.int i t from r); cases e; rfl
 | str x=>obtain ⟨t,e⟩:=(show ∃ t,u=Value.str x t from r); cases e; rfl
 | byt b=>obtain ⟨t,e⟩:=(show ∃ t,u=Value.bytes b t from r); cases e; rfl
 | flt b=>obtain ⟨t,e⟩:=(show ∃ t,u=Value.float b t from r); cases e; rfl
 | ref a=>cases (show u=Value.ref a from r); rfl
 | ty n=>cases (show u=Value.type n from r); rfl
section
variable {P:Program} {w:World} {H:Hp} {h:Heap} {a C dx:Addr} {fs:List (Str×V)}
def ins_get (hok:HOk P w H h) (e:H a=some (.ins C dx fs)):∃ mA,ObjM h a dx C mA/\(∀ f,RelO (fs.lookup f) (mA f))/\PySem.Within mA (fs.map (·.1))/\fs.length<=1000/\H dx=some (.own a):=by
 obtain ⟨d,z,ne,ob,mA,n,r,q⟩:=(show ObjOk P w H h a (.ins C dx fs) from hok a _ e)
 exact ⟨mA,⟨ob,n,ne⟩,r,q,z,d⟩
end
structure Cls (K:W.Frag) (C:Addr):Prop where
 pg:W.plainGet K C Str.empty=true
 hd:W.hasDictIn K C=true
 po:W.plainOver K C=true
 sa:W.findIn K (.ref C) "__setattr__"=some (some (.builtin "object.__setattr__"))
def Cls.get {K:W.Frag} {C:Addr} (c:Cls K C) (f:Str):W.plainGet K C f=true:=c.pg
def NoAttr (K:W.Frag) (C:Addr) (f:Str):Prop:=W.findIn K (.ref C) f=some none
def NoAttr.taker {K:W.Frag} {C:Addr} {f:Str} (n:NoAttr K C f):W.takerIn K C f=some none:=by
 unfold W.takerIn
 rw [show W.findIn K (.ref C) f=some none from n]
 rfl
structure Con (K:W.Frag) (C:Addr) (f:Str) (v:V) (u:Value):Prop where
 at_:W.findIn K (.ref C) f=some (some u)
 rel:RelV v u
 get:W.specialIn K u "__get__"=some none
 cp:W.copiedNames.contains f=false
structure Meth (K:W.Frag) (C:Addr) (m:Str) (f:Addr):Prop where
 at_:W.findIn K (.ref C) m=some (some (.ref f))
 fn:W.isFn K (.ref f)=true
 kp:W.keepIn K (.ref f)=true
section
variable {X:Cx} {pins:List (Addr×Obj)} {σ:St} {H:Hp} {s:Shared} {a C dx:Addr} {fs:List (Str×V)} {f:Str} {v:V} {A:Around} {E:Value->Shared->Prop}
def getattr_ok {b:Bool} {Q:Value->Shared->Prop} (I:Inv X pins σ H s) (e:H a=some (.ins C dx fs)) (c:Cls X.K C) (n:NoAttr X.K C f) (l:fs.lookup f=some v)
  (h:∀ u s',Inv X pins σ H s'->RelV v u->Q u s'):wpAny (model X.prog X.w) A (getAttr (.ref a) f b) Q E s:=by
 obtain ⟨mA,O,r,_,_,_⟩:=ins_get I.hok e
 obtain ⟨u,hu,ru⟩:=RelO.some_of (v:=v) (o:=mA f) (by rw [<- l]; exact r f)
 exact get_map I.kIn O (c.get f) c.hd n hu (handed_of ru) (h u _ (I.tok _) ru)
def getmeth_ok {m:Str} {g:Addr} {pl:Sem Bool} {Q:Value×List Value->Shared->Prop} (I:Inv X pins σ H s) (e:H a=some (.ins C dx fs)) (c:Cls X.K C) (k:Meth X.K C m g) (l:fs.lookup m=none)
  (h:Q (.ref g,[.ref a]) s):wpAny (model X.prog X.w) A (getMethod (.ref a) m pl) Q E s:=by
 obtain ⟨mA,O,r,_,_,_⟩:=ins_get I.hok e
 have hn:mA m=none:=RelO.none_of (by rw [<- l]; exact r m)
 exact get_meth I.kIn O (c.get m) k.at_ k.fn hn h
theorem setattr_ok {y:V} {u:Value} {Q:Unit->Shared->Prop} (I:Inv X pins σ H s) (e:H a=some (.ins C dx fs)) (c:Cls X.K C) (n:NoAttr X.K C f) (hl:fs.length < 1000) (ry:RelV y u)
  (h:∀ s',Inv X pins σ (upd H a (.ins C dx (putF f y fs))) s'->Q () s'):wpAny (model X.prog X.w) A (setAttr (.ref a) f u) Q E s:=by
 obtain ⟨mA,O,r,wi,_,ho⟩:=ins_get I.hok e
 have hz:(fs.map (·.1)).length<=sizeLine:=by rw [List.length_map,sizeLine_eq]; omega
 refine set_map I.kIn O c.sa c.po n.taker c.hd wi hz fun h' O' sb=>h _ ?_
 have hd:∃ o,h'.get? dx=some o:=let ⟨o,_,_,e',_⟩:=O'.ns; ⟨o,e'⟩
 refine I.write (x:=a) (e:=dx) (by rw [e]; exact True.intro) (.inr ho) (fun b q hb z=>(sb.2 b hb).trans z) hd ?_
 refine ⟨by rw [upd_ne O.ne]; exact ho,?_,O.ne,O'.obj,_,O'.ns,fun g=>?_,fun g hg=>?_⟩
 ·have:=length_putF f y fs; omega
 ·show RelO ((putF f y fs).lookup g) (if g=f then some u else mA g)
  rw [lookup_putF]
  by_cases q:g=f
  ·rw [if_pos q,if_pos q]; exact ry
  ·rw [if_neg q,if_neg q]; exact r g
 ·by_cases q:g=f
  ·rw [q]; exact (keys_putF f y fs).1
  ·refine (keys_putF f y fs).2 g (wi g fun z=>hg ?_)
   show (if g=f then some u else mA g)=none
   rw [if_neg q]; exact z
def Inv.made (I:Inv X pins σ H s):Inv X pins σ (upd (upd H s.heap.objs.size (.own (s.heap.objs.size + 1))) (s.heap.objs.size + 1) (.ins C s.heap.objs.size []))
  { s with heap:=(s.heap.push W.emptyDict).push (W.instObj C s.heap.objs.size) }:=by
 have e1:(s.heap.push W.emptyDict).get? s.heap.objs.size=some W.emptyDict:=Heap.get?_push_size s.heap rfl
 have e2:((s.heap.push W.emptyDict).push (W.instObj C s.heap.objs.size)).get? (s.heap.objs.size + 1)=some (W.instObj C s.heap.objs.size):=by
  have:=Heap.get?_push_size (s.heap.push W.emptyDict) (o:=W.instObj C s.heap.objs.size) rfl
  rwa [Heap.size_push] at this
 have e3:(s.heap.push W.emptyDict).Ns s.heap.objs.size (fun _=>none):=⟨W.emptyDict,#[],_,e1,rfl,(fun e he=>absurd he (by simp)),fun _=>rfl⟩
 have I1:=I.laid (a:=s.heap.objs.size) (o:=.own (s.heap.objs.size + 1)) (h':=s.heap.push W.emptyDict) (t':=s.toks) (fun b u q=>Heap.get?_push_of_some _ q) (Nat.le_refl _) ⟨_,e1⟩
 refine I1.laid (a:=s.heap.objs.size + 1) (o:=.ins C s.heap.objs.size []) (t':=s.toks) (fun b u q=>Heap.get?_push_of_some _ q) (Nat.le_of_eq (Heap.size_push _ _)) ?_
 have ne:s.heap.objs.size≠s.heap.objs.size + 1:=Nat.ne_of_lt (Nat.lt_succ_self _)
 refine ⟨by rw [upd_ne ne,upd_same],Nat.zero_le _,ne,e2,fun _=>none,(Heap.Ns1.of_empty e3).at fun o q=>Heap.get?_push_of_some _ q,fun _=>True.intro,fun y hy=>absurd rfl hy⟩
def attr_of {prog:Program} {w:World} {env:Env} {e:Expr} {f:Str} {pos:Pos} {s:Shared} {Q:Value->Shared->Prop} (hb:attributeBase e f env (eval e env)=eval e env)
  (h:wpAny (model prog w) A (eval e env) (fun o s₁=>wpAny (model prog w) A (getAttr o f true) Q E s₁) E s):wpAny (model prog w) A (eval (.Attribute e f pos) env) Q E s :=
 Attribute_any_ h (by rw [arm_eval_Attribute,hb])
end
def tFld (K:W.Frag) (ta:TE) (f:Str):TE:=fun σ H Q=>ta σ H fun x H1=>∃ a C dx fs v,x=.ref a/\H1 a=some (.ins C dx fs)/\Cls K C/\NoAttr K C f/\fs.lookup f=some v/\Q v H1
def sFld (K:W.Frag) (ta tv:TE) (f:Str):TS:=fun D σ H=>tv σ H fun y H1=>ta σ H1 fun x H2=>∃ a C dx fs,x=.ref a/\H2 a=some (.ins C dx fs)/\Cls K C/\NoAttr K C f/\fs.length < 1000 /\
 D.nx σ (upd H2 a (.ins C dx (putF f y fs)))
section
variable {X:Cx} {o e value:Expr} {f:Str} {pos pos':Pos} {ta tv:TE}
def pe_fld (he:PE X e ta) (hb:attributeBase e f X.env (eval e X.env)=eval e X.env):PE X (.Attribute e f pos) (tFld X.K ta f):=by
 intro pins s σ H Q I h
 refine attr_of hb (thn (he pins s σ H _ I h) fun u s1 ⟨x,H1,I1,rx,a,C,dx,fs,v,ex,ea,c,n,l,q⟩=>?_)
 subst ex
 obtain rfl:u=Value.ref a:=rx
 exact getattr_ok I1 ea c n l fun u' s2 I2 ru=>⟨v,H1,I2,ru,q⟩
def ps_fld (ha:PE X o ta) (hv:PE X value tv) (hs:swapsWith value (some (.Attribute o f pos')) pos.line X.env=pure false):PS X (.Assign [.Attribute o f pos'] value pos) (sFld X.K ta tv f):=by
 intro pins s σ H D I h
 refine plainObj_wpAny_Assign_Attribute (thn (hv pins s σ H _ I h) fun u s1 ⟨y,H1,I1,ry,q⟩=>thn (ha pins s1 σ H1 _ I1 q) fun ov s2 ⟨x,H2,I2,rx,a,C,dx,fs,ex,ea,c,n,l,q2⟩=>?_) hs
 subst ex
 obtain rfl:ov=Value.ref a:=rx
 exact setattr_ok I2 ea c n l ry fun s3 I3=>⟨σ,_,I3,q2⟩
end
section
variable {X:Cx} {pins:List (Addr×Obj)} {σ:St} {H:Hp} {s:Shared} {A:Around} {E:Value->Shared->Prop} {Q:Value->Shared->Prop} {c:Value} {b:Bool}
inductive TyOf (K:W.Frag) (H:Hp):V->Value->Prop where
 | non:TyOf K H .non (.type "NoneType")
 | bl (x:Bool):TyOf K H (.bl x) (.type "bool")
 | int (i:Int):TyOf K H (.int i) (.type "int")
 | str (x:Str):TyOf K H (.str x) (.type "str")
 | flt (x:UInt64):TyOf K H (.flt x) (.type "float")
 | lst {a:Addr} {xs:List V} (e:H a=some (.lst xs)):TyOf K H (.ref a) (.type "list")
 | frz {a:Addr} {o:Obj} {xs:List V} (e:H a=some (.frz o (.lst xs))):TyOf K H (.ref a) (.type "list")
 | tup {a:Addr} {xs:List V} (e:H a=some (.tup xs)):TyOf K H (.ref a) (.type "tuple")
 | dK {a:Addr} {kvs:List (Key×V)} (e:H a=some (.dK kvs)):TyOf K H (.ref a) (.type "dict")
 | dT {a:Addr} {kvs:List (List Key×V)} (e:H a=some (.dT kvs)):TyOf K H (.ref a) (.type "dict")
 | ins {a C dx:Addr} {fs:List (Str×V)} (e:H a=some (.ins C dx fs)) (cl:Cls K C) (ha:W.findIn K (.ref C) "__class__"=some (some (.builtin "object.__class__")))
   (hn:W.specialIn K (.builtin "object.__class__") "__get__"=some (some (.builtin "getset_descriptor.__get__"))) (htk:W.takesIn K (.builtin "object.__class__")=some true)
   (hm:W.mroIn K C (.type "object")=some true):TyOf K H (.ref a) (.ref C)
theorem isinst_ok {x:V} {u t:Value} (I:Inv X pins σ H s) (rx:RelV x u) (ty:TyOf X.K H x t) (e:W.kitOne X.K t c=some b) (h:∀ tk,Q (.bool b) { s with toks:=tk }) :
  wpAny (model X.prog X.w) A (call (.builtin "isinstance") [u,c]) Q E s:=by
 cases ty with
 | non=>cases (show u=Value.none from rx); exact W.kia_one W.kitx_none I.kIn True.intro e (fun z=>nomatch z) h
 | bl y=>cases (show u=Value.bool y from rx); exact W.kia_one W.kitx_bool I.kIn True.intro e (fun z=>nomatch z) h
 | int i=>obtain ⟨t,q⟩:=(show ∃ t,u=Value.int i t from rx); cases q; exact W.kia_one W.kitx_int I.kIn True.intro e (fun z=>nomatch z) h
 | str y=>obtain ⟨t,q⟩:=(show ∃ t,u=Value.str y t from rx); cases q; exact W.kia_one W.kitx_str I.kIn True.intro e (fun z=>nomatch z) h
 | flt y=>obtain ⟨t,q⟩:=(show ∃ t,u=Value.float y t from rx); cases q; exact W.kia_one W.kitx_float I.kIn True.intro e (fun z=>nomatch z) h
 | @lst a xs ea =>
  cases (show u=Value.ref a from rx)
  obtain ⟨_,_,n,_,h1⟩:=(show ObjOk X.prog X.w H s.heap a (.lst xs) from I.hok a _ ea)
  exact W.kia_one W.kitx_list I.kIn ⟨_,h1,rfl⟩ e (fun z=>nomatch z) h
 | @frz a ob xs ea =>
  cases (show u=Value.ref a from rx)
  obtain ⟨_,_,_,n,_,h1⟩:=(show ObjOk X.prog X.w H s.heap a (.frz ob (.lst xs)) from I.hok a _ ea)
  exact W.kia_one W.kitx_list I.kIn ⟨_,h1,rfl⟩ e (fun z=>nomatch z) h
 | @tup a xs ea =>
  cases (show u=Value.ref a from rx)
  obtain ⟨_,_,_,p⟩:=(show ObjOk X.prog X.w H s.heap a (.tup xs) from I.hok a _ ea)
  obtain ⟨o,h1,h2,_⟩:=p
  exact W.kia_one W.kitx_tuple I.kIn ⟨o,h1,h2⟩ e (fun z=>nomatch z) h
 | @dK a kvs ea =>
  cases (show u=Value.ref a from rx)
  obtain ⟨_,_,vs,_,p⟩:=(show ObjOk X.prog X.w H s.heap a (.dK kvs) from I.hok a _ ea)
  obtain ⟨o,es,ep,h1,h2,_⟩:=p
  exact W.kia_one W.kitx_dict I.kIn ⟨o,h1,h2.1⟩ e (fun z=>nomatch z) h
 | @dT a kvs ea =>
  cases (show u=Value.ref a from rx)
  obtain ⟨_,_,xs,_,o,es,ep,h1,h2,_⟩:=(show ObjOk X.prog X.w H s.heap a (.dT kvs) from I.hok a _ ea)
  exact W.kia_one W.kitx_dict I.kIn ⟨o,h1,h2.1⟩ e (fun z=>nomatch z) h
 | @ins a C dx fs ea cl ha hn htk hm =>
  cases (show u=Value.ref a from rx)
  obtain ⟨mA,O,_⟩:=ins_get I.hok ea
  obtain ⟨od,J,_⟩:=O.look
  exact W.kia_one (W.kitx_own (cl.get _) cl.hd ha hn htk hm) I.kIn J e (fun z=>nomatch z) h
end
structure Room (k:Nat) (A:Around):Prop where
 hd:A.handled=none
 dp:A.depth + 3 * k + 5 < recursionLimit
 un:A.units + 16 * k + 200 < cLine
theorem Room.mono {j k:Nat} {A:Around} (r:Room k A) (h:j<=k):Room j A:=⟨r.hd,by have:=r.dp; omega,by have:=r.un; omega⟩
theorem Room.deeper {k:Nat} {A:Around} (r:Room (k + 1) A) (env:Env):Room k (A.deeper env) :=
 ⟨r.hd,by have:=r.dp; show A.depth + 1 + 3 * k + 5 < _; omega,by have:=r.un; show A.units + 3 + 16 * k + 200 < _; omega⟩
theorem Room.in1 {k:Nat} {A:Around} (r:Room (k + 1) A):Room k A.in1 :=
 ⟨r.hd,by have:=r.dp; show A.depth + 3 * k + 5 < _; omega,by have:=r.un; show A.units + 1 + 16 * k + 200 < _; omega⟩
def make_depth {A:Around} {C:Addr} {us:List Value} {kw:List (Str×Value)}:(A.under (.builtin "type.__call__" ⟨.ref C::us,kw⟩)).depth=A.depth + 1:=by
 first | rfl | simp [Around.under,Code.weight,Code.isCreation,Code.isGuard,Code.isCaller,Code.frames,Code.isFrame,guardIds]
def make_units {A:Around} {C:Addr} {us:List Value} {kw:List (Str×Value)}:(A.under (.builtin "type.__call__" ⟨.ref C::us,kw⟩)).units=A.units + 1:=by
 first | rfl | simp [Around.under,Code.cUnits,Code.frames,Code.isFrame]
theorem Room.make {k:Nat} {A:Around} (r:Room (k + 1) A) (C:Addr) (us:List Value) (kw:List (Str×Value)):Room k (A.under (.builtin "type.__call__" ⟨.ref C::us,kw⟩)) :=
 ⟨r.hd,by have:=r.dp; rw [make_depth]; omega,by have:=r.un; rw [make_units]; omega⟩
theorem Room.depth {k:Nat} {A:Around} (r:Room k A):A.depth < recursionLimit:=by have:=r.dp; omega
theorem Room.units {k:Nat} {A:Around} (r:Room k A):A.units + 64 < cLine:=by have:=r.un; omega
def tNil:TA:=fun _ H Q=>Q [] H
def tCons (ta:TE) (tr:TA):TA:=fun σ H Q=>ta σ H fun x H1=>tr σ H1 fun xs H2=>Q (x::xs) H2
section
variable {X:Cx} {e:Expr} {es:List Expr} {te:TE} {t:TA} {pos:Pos}
def pa_nil:PA X [] tNil:=fun _ _ _ _ H Q I h=>Calls.spliced_nil ⟨[],H,I,.nil,h⟩
def pa_cons (ha:PE X e te) (hr:PA X es t) (hs:starEach (e::es) X.env=(false,eval e X.env)::starEach es X.env:=by rfl):PA X (e::es) (tCons te t):=by
 intro pos pins s σ H Q I h
 rw [hs]
 show wpAny _ _ (spliced ((false,eval e X.env)::backTo pos (starEach es X.env))) _ _ s
 refine Calls.spliced_cons (thn (ha pins s σ H _ I h) fun u s1 ⟨x,H1,I1,r1,q1⟩=>?_)
 exact thn (hr pos pins s1 σ H1 _ I1 q1) fun us s2 ⟨xs,H2,I2,r2,q2⟩=>⟨x::xs,H2,I2,.cons r1 r2,q2⟩
def tTup (t:TA):TE:=fun σ H Q=>t σ H fun xs H1=>xs.length<=sizeLine/\∀ p,H1 p=none->Q (.ref p) (upd H1 p (.tup xs))
def tLst (t:TA):TE:=fun σ H Q=>t σ H fun xs H1=>xs.length<=sizeLine/\∀ p,H1 p=none->Q (.ref p) (upd H1 p (.lst xs))
def pe_tup {x1} (h:PA X es t):PE X (.Tuple es x1 pos) (tTup t):=by
 intro pins s σ H Q I hq
 refine wpAny_Tuple_spliced (thn (h pos pins s σ H _ I hq) fun us s1 ⟨xs,H1,I1,r,z,q⟩=>⟨by rw [<- r.length]; exact z,?_⟩)
 have hf:H1 s1.heap.objs.size=none:=I1.hok.fresh (Nat.le_refl _)
 refine ⟨.ref s1.heap.objs.size,upd H1 s1.heap.objs.size (.tup xs),I1.laid (t':=s1.toks) (fun b u e=>Heap.get?_push_of_some _ e) (Nat.le_refl _) ?_,rfl,q _ hf⟩
 exact ⟨z,us,r,⟨_,Heap.get?_push_size _ rfl,rfl,_,rfl,rfl⟩⟩
def pe_lst (h:PA X es t):PE X (.List es pos) (tLst t):=by
 intro pins s σ H Q I hq
 refine wpAny_List_spliced (thn (h pos pins s σ H _ I hq) fun us s1 ⟨xs,H1,I1,r,z,q⟩=>⟨by rw [<- r.length]; exact z,?_⟩)
 have hf:H1 s1.heap.objs.size=none:=I1.hok.fresh (Nat.le_refl _)
 refine ⟨.ref s1.heap.objs.size,upd H1 s1.heap.objs.size (.lst xs),I1.laid (t':=s1.toks) (fun b u e=>Heap.get?_push_of_some _ e) (Nat.le_refl _) ?_,rfl,q _ hf⟩
 exact ⟨z,us,0,r,Heap.get?_push_size _ rfl⟩
end
abbrev Sp:=List V->Hp->VK->XK->Prop
abbrev CXT:=List Env->Hp->Shared->XK->Value->Shared->Prop
structure Env0 (P:Program) (w:World) (K:W.Frag) (mg:Str->Option Value) (base:Heap) (A:Around) (outer:List Env) (s:Shared) (H:Hp):Prop where
 frames:A.frames=some outer
 mod:Mod K mg base
 bs:∀ b o,base.get? b=some o->s.heap.get? b=some o/\H b=none
 bsz:base.objs.size<=s.heap.objs.size
 funs:s.heap.FunFrames base outer
 frf:∀ b∈frs outer,H b=none
 hok:HOk P w H s.heap
 bare:AllBare s.gens
def CE (outer:List Env) (P:Program) (w:World) (H:Hp) (s:Shared) (Q:VK) (u:Value) (s':Shared):Prop :=
 ∃ v H',s'.os=s.os/\AllBare s'.gens/\Un (frs outer) [] H H' s.heap s'.heap/\HOk P w H' s'.heap/\RelV v u/\Q v H'
def CR (CX:CXT) (outer:List Env) (P:Program) (w:World) (H:Hp) (s:Shared) (Q:VK) (E:XK) (r:Result) (s':Shared):Prop :=
 match r with
 | .ok (.ret u)=>CE outer P w H s Q u s'
 | .ok _=>False
 | .error e=>CX outer H s E e s'
structure FnOk (P:Program) (w:World) (K:W.Frag) (mg:Str->Option Value) (base:Heap) (CX:CXT) (k:Nat) (f:Addr) (fd:FuncData) (ps:List Str) (sp:Sp):Prop where
 len:∀ vs H Q E,sp vs H Q E->vs.length=ps.length
 run:∀ (A:Around) (outer:List Env) (s:Shared) (H:Hp) (args:Args) (us:List Value) (vs:List V) (Q:VK) (E:XK),Room k A->Env0 P w K mg base A outer s H->BindsTo s fd args (ps.zip us)->Vals vs us->sp vs H Q E ->
  codeAny (model P w) A (.call (.ref f) args) (CR CX outer P w H s Q E) s
def FnOk.imp {P:Program} {w:World} {K:W.Frag} {mg:Str->Option Value} {base:Heap} {CX:CXT} {k:Nat} {f:Addr} {fd:FuncData} {ps:List Str} {sp sp':Sp} (F:FnOk P w K mg base CX k f fd ps sp)
  (h:∀ vs H Q E,sp' vs H Q E->sp vs H Q E):FnOk P w K mg base CX k f fd ps sp' :=
 ⟨fun vs H Q E q=>F.len vs H Q E (h _ _ _ _ q),fun A outer s H args us vs Q E hr he hb hv hs=>F.run A outer s H args us vs Q E hr he hb hv (h _ _ _ _ hs)⟩
def Env0.make {P:Program} {w:World} {K:W.Frag} {mg:Str->Option Value} {base:Heap} {A:Around} {outer:List Env} {s:Shared} {H:Hp} (e:Env0 P w K mg base A outer s H) (C:Addr) (us:List Value) (kw:List (Str×Value)) :
  Env0 P w K mg base (A.under (.builtin "type.__call__" ⟨.ref C::us,kw⟩)) outer s H:=⟨by first | exact e.frames | (simpa [Around.under,Code.envs,Code.isFrame,pushEnvs] using e.frames),e.mod,e.bs,e.bsz,e.funs,e.frf,e.hok,e.bare⟩
def Env0.in1 {P:Program} {w:World} {K:W.Frag} {mg:Str->Option Value} {base:Heap} {A:Around} {outer:List Env} {s:Shared} {H:Hp} (e:Env0 P w K mg base A outer s H) :
  Env0 P w K mg base A.in1 outer s H:=⟨e.frames,e.mod,e.bs,e.bsz,e.funs,e.frf,e.hok,e.bare⟩
section
variable {X:Cx} {pins:List (Addr×Obj)} {σ:St} {H:Hp} {s s':Shared}
def Inv.env0 (I:Inv X pins σ H s):Env0 X.prog X.w X.K X.mg X.base X.A X.stack s H :=
 ⟨I.ok.frames,I.ok.mod,I.bs,Nat.le_trans I.ok.bsz I.sz,I.stack,I.stkFree,I.hok,I.bare⟩
def Inv.after {Q:VK} {u:Value} (I:Inv X pins σ H s) (h:CE X.stack X.prog X.w H s Q u s'):EP X pins σ Q u s':=by
 obtain ⟨v,H',os,bare,un,hok,r,q⟩:=h
 obtain ⟨hh,g,d,t,os'⟩:=s'
 obtain rfl:os'=s.os:=os
 exact ⟨v,H',I.call (h':=hh) (g':=g) (d':=d) (t':=t) (ch:=[]) un hok bare (fun b z=>absurd z (by simp)),r,q⟩
end
def tCall (sp:Sp) (dvs:List V) (E:XK) (t:TA):TE:=fun σ H Q=>t σ H fun vs H1=>sp (vs++dvs) H1 Q E
def tMeth (C:Addr) (m:Str) (sp:Sp) (dvs:List V) (E:XK) (ta:TE) (t:TA):TE:=fun σ H Q=>ta σ H fun x H1=>∃ a dx fs,x=.ref a/\H1 a=some (.ins C dx fs)/\fs.lookup m=none /\
 t σ H1 fun vs H2=>sp (x::(vs++dvs)) H2 Q E
def tMake (C:Addr) (sp:Sp) (dvs:List V) (E:XK) (t:TA):TE:=fun σ H Q=>t σ H fun vs H1=>∀ x dx,H1 x=none->H1 dx=none->dx≠x ->
 sp (.ref x::(vs++dvs)) (upd (upd H1 dx (.own x)) x (.ins C dx [])) (fun v H2=>v=.non/\Q (.ref x) H2) E
def Binds (K:W.Frag) (fd:FuncData) (ps:List Str) (ds:List Value):Prop :=
 ∀ (s:Shared) (us:List Value),K.In s.heap->(us++ds).length=ps.length->BindsTo s fd ⟨us,[]⟩ (ps.zip (us++ds))
def Binds.all {K:W.Frag} {fd:FuncData} {ps:List Str} (h:∀ us:List Value,us.length=ps.length->bindArgs fd ⟨us,[]⟩=pure (ps.zip us)):Binds K fd ps []:=fun s us _ hl=>by
 rw [List.append_nil] at hl ⊢
 exact .of_eq (h us hl)
def Passes (CX:CXT) (X:Cx) (E:XK):Prop:=∀ (pins:List (Addr×Obj)) (σ:St) (H:Hp) (s:Shared) (e:Value) (s':Shared),Inv X pins σ H s->CX X.stack H s E e s'->X.xe e s'
section
variable {X:Cx} {CX:CXT} {k:Nat} {f C:Addr} {fd:FuncData} {ps:List Str} {sp:Sp} {dvs:List V} {ds:List Value} {E:XK} {x m:Str} {p pos apos:Pos} {e o:Expr} {es:List Expr} {ta:TE} {t:TA}
theorem run_fn {pins:List (Addr×Obj)} {σ:St} {H:Hp} {s:Shared} {Q:VK} {us:List Value} {vs:List V} (F:FnOk X.prog X.w X.K X.mg X.base CX k f fd ps sp) (hr:Room k X.A) (hb:Binds X.K fd ps ds) (hd:Vals dvs ds) (hx:Passes CX X E)
  (I:Inv X pins σ H s) (r:Vals vs us) (h:sp (vs++dvs) H Q E):wpAny (model X.prog X.w) X.A (call (.ref f) us) (EP X pins σ Q) X.xe s:=by
 have r2:Vals (vs++dvs) (us++ds):=r.append hd
 have hl:(us++ds).length=ps.length:=by rw [<- r2.length]; exact F.len _ _ _ _ h
 refine wpAny_call (codeAny_mono (F.run X.A X.stack s H ⟨us,[]⟩ (us++ds) (vs++dvs) Q E hr I.env0 (hb s us I.kIn hl) r2 h) fun r s' hq=>?_)
 cases r with
 | error e=>exact hx pins σ H s e s' I hq
 | ok fl =>
  cases fl with
  | ret u=>exact I.after hq
  | next=>exact False.elim hq
  | brk=>exact False.elim hq
  | cont=>exact False.elim hq
def pe_call (F:FnOk X.prog X.w X.K X.mg X.base CX k f fd ps sp) (hr:Room k X.A) (hg:Gl X x) (hm:X.mg x=some (.ref f)) (hk:W.keepIn X.K (.ref f)=true) (hb:Binds X.K fd ps ds) (hd:Vals dvs ds) (hx:Passes CX X E)
  (ha:PA X (e::es) t) (hdb:(x == ("__debug__":Str))=false:=by decide) (he:starEach (e::es) X.env=(false,eval e X.env)::starEach es X.env:=by rfl) (hpl:(backTo pos (starEach es X.env)).any (·.1)=false:=by rfl) :
  PE X (.Call (.Name x p) (e::es) [] pos) (tCall sp dvs E t):=by
 intro pins s σ H Q I h
 refine wpAny_Call_Name_kw (ld_glob I hg hm ?_ hdb)
 refine W.callWith_K (h₀:=X.base) I.ok.mod.kin hk (thn (ha pos pins s σ H _ I h) fun us s1 ⟨vs,H1,I1,r,q⟩=>⟨I1.kIn,?_⟩) he hpl
 exact run_fn F hr hb hd hx I1 r q
def pe_meth {pl:Sem Bool} (he:PE X o ta) (c:Cls X.K C) (hm:Meth X.K C m f) (F:FnOk X.prog X.w X.K X.mg X.base CX k f fd ps sp) (hr:Room k X.A) (hb:Binds X.K fd ps ds) (hd:Vals dvs ds) (hx:Passes CX X E) (ha:PA X (e::es) t)
  (hst:starEach (e::es) X.env=(false,eval e X.env)::starEach es X.env:=by rfl) (hpl:(backTo pos (starEach es X.env)).any (·.1)=false:=by rfl)
  (ht:eval (.Call (.Attribute o m apos) (e::es) [] pos) X.env=(do
   let ov <- eval o X.env
   standAt apos.atName
   let (f,first) <- holding [ov] (getMethod ov m pl)
   callWith pos f first (backTo pos (starEach (e::es) X.env)) (backToKw pos (keywordEach [] X.env))):=by rfl) :
  PE X (.Call (.Attribute o m apos) (e::es) [] pos) (tMeth C m sp dvs E ta t):=by
 intro pins s σ H Q I h
 refine W.methodCall_KW (pl:=pl) (thn (he pins s σ H _ I h) fun u s1 ⟨x,H1,I1,rx,a,dx,fs,ex,ea,l,q⟩=>?_) ht
 subst ex
 obtain rfl:u=Value.ref a:=rx
 refine getmeth_ok I1 ea c hm l ?_
 refine W.callWith_K (first:=[.ref a]) (h₀:=X.base) I.ok.mod.kin hm.kp (thn (ha pos pins s1 σ H1 _ I1 q) fun us s2 ⟨vs,H2,I2,r,q2⟩=>⟨I2.kIn,?_⟩) hst hpl
 exact run_fn (us:=.ref a::us) (vs:=.ref a::vs) F hr hb hd hx I2 (.cons rfl r) q2
def pe_meth0 {pl:Sem Bool} (he:PE X o ta) (c:Cls X.K C) (hm:Meth X.K C m f) (F:FnOk X.prog X.w X.K X.mg X.base CX k f fd ps sp) (hr:Room k X.A) (hb:Binds X.K fd ps ds) (hd:Vals dvs ds) (hx:Passes CX X E)
  (ht:eval (.Call (.Attribute o m apos) [] [] pos) X.env=(do
   let ov <- eval o X.env
   standAt apos.atName
   let (f,first) <- holding [ov] (getMethod ov m pl)
   callWith pos f first (backTo pos (starEach [] X.env)) (backToKw pos (keywordEach [] X.env))):=by rfl) :
  PE X (.Call (.Attribute o m apos) [] [] pos) (tMeth C m sp dvs E ta tNil):=by
 intro pins s σ H Q I h
 refine W.methodCall_KW (pl:=pl) (thn (he pins s σ H _ I h) fun u s1 ⟨x,H1,I1,rx,a,dx,fs,ex,ea,l,q⟩=>?_) ht
 subst ex
 obtain rfl:u=Value.ref a:=rx
 refine getmeth_ok I1 ea c hm l ?_
 exact W.callWith_K0 (first:=[.ref a]) I1.kIn hm.kp (run_fn (us:=[.ref a]) (vs:=[.ref a]) F hr hb hd hx I1 (.cons rfl .nil) q)
structure Mk (K:W.Frag) (C f:Addr):Prop where
 makes:W.makesIn K C=true
 init:W.findIn K (.ref C) "__init__"=some (some (.ref f))
 fn:W.isFn K (.ref f)=true
 kp:W.keepIn K (.ref C)=true
theorem run_make {pins:List (Addr×Obj)} {σ:St} {H:Hp} {s:Shared} {Q:VK} {us:List Value} {vs:List V} (M:Mk X.K C f) (F:FnOk X.prog X.w X.K X.mg X.base CX k f fd ps sp) (hr:Room (k + 1) X.A) (hb:Binds X.K fd ps ds) (hd:Vals dvs ds)
  (hx:Passes CX X E) (I:Inv X pins σ H s) (r:Vals vs us)
  (h:∀ x dx,H x=none->H dx=none->dx≠x->sp (.ref x::(vs++dvs)) (upd (upd H dx (.own x)) x (.ins C dx [])) (fun v H2=>v=.non/\Q (.ref x) H2) E) :
  wpAny (model X.prog X.w) X.A (call (.ref C) us) (EP X pins σ Q) X.xe s:=by
 have hq:=h (s.heap.objs.size + 1) s.heap.objs.size (I.hok.fresh (Nat.le_succ _)) (I.hok.fresh (Nat.le_refl _)) (Nat.ne_of_lt (Nat.lt_succ_self _))
 have I2:=Inv.made (C:=C) I
 have r2:Vals (V.ref (s.heap.objs.size + 1)::(vs++dvs)) (Value.ref (s.heap.objs.size + 1)::(us++ds)):=.cons rfl (r.append hd)
 have hl:(Value.ref (s.heap.objs.size + 1)::us++ds).length=ps.length:=by
  have e:=r2.length
  rw [F.len _ _ _ _ hq] at e
  exact e.symm
 refine wpAny_call (make_map (f:=f) I.kIn M.makes M.init (beq_iff_eq.mp M.fn) (codeAny_mono (F.run _ X.stack _ _ ⟨Value.ref (s.heap.objs.size + 1)::us,[]⟩ (Value.ref (s.heap.objs.size + 1)::(us++ds)) _ _ E (hr.make C us [])
  (I2.env0.make C us []) (hb _ (Value.ref (s.heap.objs.size + 1)::us) I2.kIn hl) r2 hq) fun r s' hq'=>?_))
 cases r with
 | error e=>exact hx pins σ _ _ e s' I2 hq'
 | ok fl =>
  cases fl with
  | ret u =>
   obtain ⟨v,H',I3,rv,ev,q3⟩:=I2.after hq'
   subst ev
   exact ⟨rv,⟨V.ref (s.heap.objs.size + 1),H',I3,rfl,q3⟩⟩
  | next=>exact False.elim hq'
  | brk=>exact False.elim hq'
  | cont=>exact False.elim hq'
def pe_make (M:Mk X.K C f) (F:FnOk X.prog X.w X.K X.mg X.base CX k f fd ps sp) (hr:Room (k + 1) X.A) (hg:Gl X x) (hm:X.mg x=some (.ref C)) (hb:Binds X.K fd ps ds) (hd:Vals dvs ds) (hx:Passes CX X E)
  (ha:PA X (e::es) t) (hdb:(x == ("__debug__":Str))=false:=by decide) (he:starEach (e::es) X.env=(false,eval e X.env)::starEach es X.env:=by rfl) (hpl:(backTo pos (starEach es X.env)).any (·.1)=false:=by rfl) :
  PE X (.Call (.Name x p) (e::es) [] pos) (tMake C sp dvs E t):=by
 intro pins s σ H Q I h
 refine wpAny_Call_Name_kw (ld_glob I hg hm ?_ hdb)
 refine W.callWith_K (h₀:=X.base) I.ok.mod.kin M.kp (thn (ha pos pins s σ H _ I h) fun us s1 ⟨vs,H1,I1,r,q⟩=>⟨I1.kIn,?_⟩) he hpl
 exact run_make M F hr hb hd hx I1 r q
end
section
variable {fd:FuncData} {ps ks:List Str}
structure KBinds (K:W.Frag) (fd:FuncData) (ps ks:List Str) (g:List Value->List Value->List Value) (gV:List V->List V->List V):Prop where
 to:∀ (s:Shared) (us ws:List Value),K.In s.heap->(g us ws).length=ps.length->BindsTo s fd ⟨us,ks.zip ws⟩ (ps.zip (g us ws))
 rel:∀ {vs:List V} {us:List Value} {zs:List V} {ws:List Value},Vals vs us->Vals zs ws->Vals (gV vs zs) (g us ws)
variable {g:List Value->List Value->List Value} {gV:List V->List V->List V}
end
structure FnScope (N P:List Str) (sc:Scope):Prop where
 kind:sc.kind=.function
 co:sc.isCoroutine=false
 gen:sc.isGenerator=false
 nd:N.Nodup
 pre:N.take P.length=P
 par:∀ x∈P,sc.names.lookup x=some .local\/sc.names.lookup x=some .cell
 nofree:∀ y∈sc.names,y.2≠.free
theorem bindL_out {kindOf:Str->Option NameKind} {x:Str}:∀ {binds:List (Str×Value)} {m:Str->Option Value},(∀ v,(x,v)∉binds)->bindL kindOf binds m x=m x
 | [],_,_=>rfl
 | (n,v)::r,m,h=>by
  unfold bindL
  rw [bindL_out fun w hw=>h w (List.mem_cons_of_mem _ hw)]
  split
  ·have:x≠n:=by rintro rfl; exact h v List.mem_cons_self
   simp [this]
  ·rfl
theorem bindC_out {kindOf:Str->Option NameKind} {x:Str}:∀ {binds:List (Str×Value)} {m:Str->Option Value},(∀ v,(x,v)∉binds)->bindC kindOf binds m x=m x
 | [],_,_=>rfl
 | (n,v)::r,m,h=>by
  unfold bindC
  rw [bindC_out fun w hw=>h w (List.mem_cons_of_mem _ hw)]
  split
  ·rfl
  ·have:x≠n:=by rintro rfl; exact h v List.mem_cons_self
   simp [this]
theorem bindL_get {kindOf:Str->Option NameKind} {x:Str} {v:Value}:∀ {P:List Str} {vs:List Value} {i:Nat} {m:Str->Option Value},P.Nodup->P[i]?=some x->vs[i]?=some v->kindOf x=some .local ->
  bindL kindOf (P.zip vs) m x=some v
 | [],_,_,_,_,h,_,_=>by simp at h
 | _::_,[],_,_,_,_,h,_=>by simp at h
 | p::P,w::vs,0,m,nd,h1,h2,hk=>by
  simp at h1 h2; subst h1; subst h2
  show bindL kindOf ((p,w)::P.zip vs) m p=_
  unfold bindL
  rw [bindL_out fun v hv=>(List.nodup_cons.mp nd).1 (List.of_mem_zip hv).1,if_pos hk]
  simp
 | p::P,w::vs,i + 1,m,nd,h1,h2,hk=>by
  show bindL kindOf ((p,w)::P.zip vs) m x=_
  unfold bindL
  exact bindL_get (i:=i) (List.nodup_cons.mp nd).2 (by simpa using h1) (by simpa using h2) hk
theorem bindC_get {kindOf:Str->Option NameKind} {x:Str} {v:Value}:∀ {P:List Str} {vs:List Value} {i:Nat} {m:Str->Option Value},P.Nodup->P[i]?=some x->vs[i]?=some v->kindOf x≠some .local ->
  bindC kindOf (P.zip vs) m x=some v
 | [],_,_,_,_,h,_,_=>by simp at h
 | _::_,[],_,_,_,_,h,_=>by simp at h
 | p::P,w::vs,0,m,nd,h1,h2,hk=>by
  simp at h1 h2; subst h1; subst h2
  show bindC kindOf ((p,w)::P.zip vs) m p=_
  unfold bindC
  rw [bindC_out fun v hv=>(List.nodup_cons.mp nd).1 (List.of_mem_zip hv).1,if_neg hk]
  simp
 | p::P,w::vs,i + 1,m,nd,h1,h2,hk=>by
  show bindC kindOf ((p,w)::P.zip vs) m x=_
  unfold bindC
  exact bindC_get (i:=i) (List.nodup_cons.mp nd).2 (by simpa using h1) (by simpa using h2) hk
def start (N:List Str) (vs:List V):St:=vs.map some++List.replicate (N.length - vs.length) none
def cxOf (CX:CXT) (P:Program) (w:World) (K:W.Frag) (mg:Str->Option Value) (base:Heap) (N:List Str) (qual:Str) (scope:Scope) (f:Addr) (cd:Value) (A:Around) (outer:List Env) (s:Shared) (H:Hp) (E:XK):Cx where
 prog:=P
 w:=w
 K:=K
 mg:=mg
 base:=base
 A:=A.deeper (envOfC qual scope s.heap.objs.size f cd)
 N:=N
 s₀:=s
 H₀:=H
 env:=envOfC qual scope s.heap.objs.size f cd
 outer:=outer
 stack:=envOfC qual scope s.heap.objs.size f cd::outer
 ex:=[]
 calm:=true
 fn:=fun _=>true
 pn:=[]
 xe:=fun e s'=>wpAny (model P w) (A.deeper (envOfC qual scope s.heap.objs.size f cd)) (leaving (envOfC qual scope s.heap.objs.size f cd) e) (fun _ s''=>CX outer H s E e s'') (fun e' s''=>CX outer H s E e' s'') s'
def cell_has {sc:Scope} {n:Nat} {x:Str} (h:sc.names.lookup x=some .cell):∃ c,(cellsFrom n sc.names []).lookup x=some c:=by
 have q:=W.cellsFrom_some sc.names n [] (.inl h)
 exact Option.isSome_iff_exists.mp q
theorem inv_start {CX:CXT} {P:Program} {w:World} {K:W.Frag} {mg:Str->Option Value} {base:Heap} {N ps:List Str} {qual:Str} {scope:Scope} {f:Addr} {cd:Value} {A:Around} {outer:List Env} {s s1:Shared} {H:Hp} {E:XK} {us:List Value} {vs:List V}
  (S:FnScope N ps scope) (hd:A.handled=none) (e0:Env0 P w K mg base A outer s H) (hl:vs.length=ps.length) (r:Vals vs us)
  (x:InCallC s s.heap.objs.size (bindL (envOfC qual scope s.heap.objs.size f cd).kindOf (ps.zip us) fun _=>none) (cellsFrom (s.heap.objs.size + 1) scope.names []) (bindC (envOfC qual scope s.heap.objs.size f cd).kindOf (ps.zip us) fun _=>none) s1) :
  Inv (cxOf CX P w K mg base N qual scope f cd A outer s H E) [] (start N vs) H s1:=by
 have hpl:ps.length<=N.length:=by have:=congrArg List.length S.pre; rw [List.length_take] at this; omega
 obtain ⟨h1,tk,rfl,hk⟩:=x.done
 have noA:∀ b:Addr,b∉(cxOf CX P w K mg base N qual scope f cd A outer s H E).ex:=fun b z=>absurd (show b∈([]:List Addr) from z) (by simp)
 refine ⟨⟨e0.mod,S.kind,rfl,rfl,Nat.le_refl _,fun y z c h1 h2=>?_,fun y hy=>?_,fun y c _ h=>?_,fun _=>hd,Around.frames_deeper e0.frames,.inr ⟨rfl,rfl⟩,fun b z=>absurd z (noA b),e0.bs,e0.bsz,fun b _ _=>noA b,fun b z=>absurd z (noA b),e0.funs,e0.frf⟩,
  rfl,e0.bare,Un.kept hk,⟨_,x.toInCall.ns,fun i y v h1 h2 h3=>?_⟩,fun y c h=>⟨_,x.cell y c h⟩,e0.hok.fresh (Nat.le_refl _),fun y c h=>?_,fun p hp=>absurd (show p∈([]:List (Addr×Obj)) from hp) (by simp),e0.hok.kept hk,?_⟩
 ·exact name_of_addr x.apart (PySem.mem_of_lookup h1) (PySem.mem_of_lookup h2)
 ·have hy:scope.names.lookup y=some .cell\/scope.names.lookup y=some .free:=hy
  rcases hy with hy | hy
  ·exact cell_has hy
  ·exact absurd rfl (S.nofree _ (PySem.mem_of_lookup hy))
 ·exact Nat.le_of_lt (x.above y c (PySem.mem_of_lookup h))
 ·have hi:i < vs.length:=by
   unfold start at h2
   by_cases hi:i < vs.length
   ·exact hi
   ·rw [List.getElem?_append_right (by simpa using hi)] at h2
    rw [List.getElem?_replicate] at h2
    split at h2 <;> cases h2
  have ha:vs[i]?=some v:=by
   unfold start at h2
   rw [List.getElem?_append_left (by simpa using hi),List.getElem?_map] at h2
   cases e:vs[i]? with
   | none=>rw [e] at h2; cases h2
   | some a=>rw [e] at h2; cases h2; rfl
  obtain ⟨u,hu,rv⟩:=r.get ha
  have hp:ps[i]?=some y:=by
   rw [<- S.pre,List.getElem?_take_of_lt (by omega)]; exact h1
  have ndP:ps.Nodup:=by rw [<- S.pre]; exact S.nd.sublist (List.take_sublist _ _)
  refine ⟨u,rv,?_⟩
  rcases S.par y (List.mem_of_getElem? hp) with k | k
  ·exact .inl ⟨k,bindL_get ndP hp hu k⟩
  ·obtain ⟨c,e⟩:=cell_has (n:=s.heap.objs.size + 1) k
   refine .inr ⟨.inl k,c,e,?_⟩
   have q:=x.cell y c e
   rw [bindC_get ndP hp hu (by show scope.names.lookup y≠_; rw [k]; decide)] at q
   exact q
 ·exact e0.hok.fresh (Nat.le_of_lt (x.above y c (PySem.mem_of_lookup h)))
 ·unfold start
  show _=N.length
  rw [List.length_append,List.length_map,List.length_replicate]
  omega
theorem fn_of {CX:CXT} {P:Program} {w:World} {K:W.Frag} {mg:Str->Option Value} {base:Heap} {k:Nat} {f:Addr} {name qual:Str} {params:Arguments} {body:List Stmt} {scope:Scope} {dV kV doc pm cdv ct oc:Value} {an od:Option Addr}
  {osl:Array (Option Value)} {N ps:List Str} {sp:Sp} (lk:K.lookup f=some ⟨oc,od,.func (W.fnOf name qual params body scope dV kV doc pm an cdv ct),osl⟩) (hcd:W.codeIn K cdv qual=true) (S:FnScope N ps scope)
  (len:∀ vs H Q E,sp vs H Q E->vs.length=ps.length)
  (hbody:∀ (A:Around) (outer:List Env) (s:Shared) (H:Hp) (vs:List V) (Q:VK) (E:XK),Room k (A.deeper (envOfC qual scope s.heap.objs.size f cdv))->sp vs H Q E ->
   ∃ t,PSs (cxOf CX P w K mg base N qual scope f cdv A outer s H E) body t/\t { nx:=fun _ H'=>Q .non H',rt:=Q } (start N vs) H) :
  FnOk P w K mg base CX (k + 1) f (W.fnOf name qual params body scope dV kV doc pm an cdv ct) ps sp:=by
 refine ⟨len,fun A outer s H args us vs Q E hr e0 hb r hsp=>?_⟩
 have hl:=len _ _ _ _ hsp
 have KX:K.In s.heap:=e0.mod.kin.keeps fun b o e=>(e0.bs b o e).1
 have lim:s.heap.NoLimit:=e0.mod.nolimit.keeps fun b o e=>(e0.bs b o e).1
 have hkind:∀ y∈ps.zip us,scope.names.lookup y.1=some .local\/(scope.names.lookup y.1=some .cell/\((cellsFrom (s.heap.objs.size + 1) scope.names []).lookup y.1).isSome=true):=fun ⟨n,v⟩ hy=>by
  rcases S.par n (List.of_mem_zip hy).1 with q | q
  ·exact .inl q
  ·exact .inr ⟨q,W.cellsFrom_some _ _ _ (.inl q)⟩
 refine codeAny_call_function hr.depth (KX _ _ lk) rfl S.co S.gen rfl (W.codeRec_of KX hcd) (hb _ _ _ _ ?_)
 refine wpAny_newFunctionEnv_cells S.kind hkind fun env he s1 x=>?_
 subst he
 refine ⟨lim.keeps x.toInCall.keep,codeAny_func ?_⟩
 obtain ⟨t,ht,hq⟩:=hbody A outer s H vs Q E (hr.deeper _) hsp
 have I:Inv (cxOf CX P w K mg base N qual scope f cdv A outer s H E) [] (start N vs) H s1:=inv_start S hr.hd e0 hl r x
 refine wpAny_mono (ht [] s1 (start N vs) H _ I hq) (fun fl s' hs=>?_) fun e s' hs=>hs
 have fin:∀ {σ':St} {H':Hp} {v:V} {u:Value},Inv (cxOf CX P w K mg base N qual scope f cdv A outer s H E) [] σ' H' s'->RelV v u->Q v H'->CE outer P w H s Q u s' :=
  fun {σ' H' v u} J rv q=>⟨v,H',J.os,J.bare,J.base,J.hok,rv,q⟩
 cases fl with
 | ret u =>
  obtain ⟨v,σ',H',J,rv,q⟩:=hs
  exact fin J rv q
 | next =>
  obtain ⟨σ',H',J,q⟩:=hs
  exact fin (v:=V.non) (u:=Value.none) J rfl q
 | brk =>
  obtain ⟨_,_,_,q⟩:=hs
  exact False.elim q
 | cont =>
  obtain ⟨_,_,_,q⟩:=hs
  exact False.elim q
section
variable {X:Cx} {x:Str} {p pos:Pos} {e:Expr} {es:List Expr} {t:TA} {id T:String} {r:List V->Hp->VK->Prop}
def tCB (r:List V->Hp->VK->Prop) (t:TA):TE:=fun σ H Q=>t σ H fun vs H1=>r vs H1 Q
def pe_callB (hc:CallR X (.builtin id) r) (hg:Gl X x) (hm:X.mg x=none) (hv:bootBuiltins x=some (.builtin id)) (ha:PA X (e::es) t) (hn:x≠"__name__":=by decide) (hdb:(x == ("__debug__":Str))=false:=by decide)
  (he:starEach (e::es) X.env=(false,eval e X.env)::starEach es X.env:=by rfl) (hpl:(backTo pos (starEach es X.env)).any (·.1)=false:=by rfl):PE X (.Call (.Name x p) (e::es) [] pos) (tCB r t):=by
 intro pins s σ H Q I h
 refine wpAny_Call_Name_kw (ld_blt I hg hm hv ?_ hn hdb)
 exact PyProof.Rows.callWith_builtin1 (thn (ha pos pins s σ H _ I h) fun us s1 ⟨vs,H1,I1,r1,q1⟩=>hc pins s1 σ H1 vs us Q I1 r1 q1) he hpl
def pe_callTy (hc:CallR X (.type T) r) (hg:Gl X x) (hm:X.mg x=none) (hv:bootBuiltins x=some (.type T)) (ha:PA X (e::es) t) (hn:x≠"__name__":=by decide) (hdb:(x == ("__debug__":Str))=false:=by decide)
  (he:starEach (e::es) X.env=(false,eval e X.env)::starEach es X.env:=by rfl) (hpl:(backTo pos (starEach es X.env)).any (·.1)=false:=by rfl):PE X (.Call (.Name x p) (e::es) [] pos) (tCB r t):=by
 intro pins s σ H Q I h
 refine wpAny_Call_Name_kw (ld_blt I hg hm hv ?_ hn hdb)
 exact PyProof.Rows.callWith_type1 (thn (ha pos pins s σ H _ I h) fun us s1 ⟨vs,H1,I1,r1,q1⟩=>hc pins s1 σ H1 vs us Q I1 r1 q1) he hpl
end
end L2
namespace HT
open PySem PyProof.Rows
def lexLt:List Int->List Int->Bool
 | [],[]=>false
 | [],_::_=>true
 | _::_,[]=>false
 | x::xs,y::ys=>if x=y then lexLt xs ys else decide (x < y)
def lexLt_cons (x y:Int) (xs ys:List Int):lexLt (x::xs) (y::ys)=if x=y then lexLt xs ys else decide (x < y):=rfl
def lexLt_nil_nil:lexLt [] []=false:=rfl
def lexLt_nil_cons (y:Int) (ys:List Int):lexLt [] (y::ys)=true:=rfl
def lexLt_cons_nil (x:Int) (xs:List Int):lexLt (x::xs) []=false:=rfl
section
variable {prog:Program} {w:World} {A:Around} {E:Value->Shared->Prop} {s:Shared}
def cat_tup {t b:Addr} {vs ws:List Value} {Q:Value->Shared->Prop} (ht:IsTup s.heap t vs.toArray) (hb:IsTup s.heap b ws.toArray) (hv:vs≠[])
  (h1:ws=[]->Q (.ref t) s) (h2:ws≠[]->Q (.ref s.heap.objs.size) { s with heap:=s.heap.push { cls:=.type "tuple",data:=.seq (vs++ws).toArray } })
  (hsz:vs.length + ws.length<=sizeLine):wpAny (model prog w) A (binaryOp .Add (.ref t) (.ref b)) Q E s:=by
 obtain ⟨⟨cls,dd,data,sl⟩,ho,hc,n,hd⟩:=id ht
 obtain ⟨⟨cls2,dd2,data2,sl2⟩,ho2,hc2,n2,hd2⟩:=id hb
 simp only at hc hd hc2 hd2
 subst hc hd hc2 hd2
 have e:vs.toArray++ws.toArray=(vs++ws).toArray:=by simp
 by_cases hw:ws=[]
 ·exact concat_meets ⟨_,ho,rfl⟩ ⟨_,ho2,rfl⟩ noFill_tuple_add seq_tuple_add PySem.F.slot_tuple_add PySem.F.entry_tuple_add (PySem.F.args_tuple_add_2 _ _)
   (tuple_addW1 t b vs.toArray ws.toArray n n2 dd dd2 sl sl2 (by simpa using hv) (by simp [hw])) ⟨ho,ho2,h1 hw⟩
 ·refine concat_meets ⟨_,ho,rfl⟩ ⟨_,ho2,rfl⟩ noFill_tuple_add seq_tuple_add PySem.F.slot_tuple_add PySem.F.entry_tuple_add (PySem.F.args_tuple_add_2 _ _)
   (tuple_addW2 t b vs.toArray ws.toArray n n2 dd dd2 sl sl2 (by simpa using hv) (by simpa using hw) (by rw [List.size_toArray,List.size_toArray]; exact hsz)) ⟨ho,ho2,?_⟩
  rw [e]
  exact h2 hw
def sIx (n d:Nat):Option Int->Nat
 | none=>d
 | some v=>if v < 0 then (v + (n:Int)).toNat else min v.toNat n
def sIx_none (n d:Nat):sIx n d none=d:=rfl
theorem sIx_nat (n d k:Nat):sIx n d (some (k:Int))=min k n:=by
 show (if (k:Int) < 0 then ((k:Int) + (n:Int)).toNat else min (k:Int).toNat n)=min k n
 rw [if_neg (by omega),Int.toNat_natCast]
theorem sIx_le (n d:Nat) (hd:d<=n) (o:Option Int):sIx n d o<=n:=by
 cases o with
 | none=>exact hd
 | some v =>
  show (if v < 0 then (v + (n:Int)).toNat else min v.toNat n)<=n
  by_cases hv:v < 0
  ·rw [if_pos hv]; omega
  ·rw [if_neg hv]; exact Nat.min_le_right _ _
theorem clip_eq (v:Int) (n d:Nat):(if v < 0 then max (v + (n:Int)) 0 else min v (n:Int))=((sIx n d (some v):Nat):Int):=by
 show (if v < 0 then max (v + (n:Int)) 0 else min v (n:Int))=(((if v < 0 then (v + (n:Int)).toNat else min v.toNat n):Nat):Int)
 by_cases hv:v < 0
 ·simp only [if_pos hv]; omega
 ·simp only [if_neg hv]; omega
theorem adjust_gen (lo hi:Option Int) (n:Nat):Builtin.Slice.sliceAdjust lo hi 1 (n:Int)=(((sIx n 0 lo:Nat):Int),((sIx n n hi:Nat):Int)):=by
 have h1:¬ ((1:Int) < 0):=by omega
 unfold Builtin.Slice.sliceAdjust
 simp only [h1,if_false]
 refine Prod.ext ?_ ?_
 ·cases lo with
  | none=>rfl
  | some v=>exact clip_eq v n 0
 ·cases hi with
  | none=>rfl
  | some v=>exact clip_eq v n n
theorem places_gen (i j:Nat):Builtin.Slice.slicePlaces (i:Int) (j:Int) 1=j - i:=by
 unfold Builtin.Slice.slicePlaces
 have h1:(1:Int) > 0:=by omega
 simp only [h1,if_true,Int.ediv_one]
 split <;> omega
theorem slicePart_ {v:Value} {o:Option Int} {Q:Option Int->Shared->Prop} (p:IsPart v o) (h:Q o s):wpAny (model prog w) A (Builtin.Slice.slicePartIndex v) Q E s:=by
 cases p with
 | none=>exact slicePart_none h
 | int i t=>exact slicePart_int h
def sliceApplied_gen {sl:Addr} {vl vu:Value} {lo hi:Option Int} {n:Nat} {Q:Int×Int×Nat->Shared->Prop} (hs:s.heap.IsSliceOf sl vl vu .none) (pl:IsPart vl lo) (pu:IsPart vu hi)
  (h:Q (((sIx n 0 lo:Nat):Int),1,sIx n n hi - sIx n 0 lo) s):wpAny (model prog w) A (Builtin.Slice.sliceApplied (.ref sl) (pure (n:Int))) Q E s:=by
 obtain ⟨os,hos,hcs,hds⟩:=id hs
 unfold Builtin.Slice.sliceApplied Builtin.Slice.sliceFields
 refine wpAny_bind (wpAny_bind (wpAny_field hos hds (x:=vl) rfl (wpAny_bind (wpAny_field hos hds (x:=vu) rfl (wpAny_bind (wpAny_field hos hds (x:=.none) rfl (wpAny_pure ?_)))))))
 refine wpAny_bind (slicePart_none ?_)
 show wpAny _ _ (if ((1:Int) == 0)=true then _ else _) _ _ s
 rw [if_neg (by decide)]
 refine wpAny_bind (slicePart_ pl (wpAny_bind (slicePart_ pu (wpAny_bind (wpAny_pure ?_)))))
 show wpAny _ _ (match Builtin.Slice.sliceAdjust lo hi 1 (n:Int) with | (lo,hi)=>pure (lo,(1:Int),Builtin.Slice.slicePlaces lo hi 1)) _ _ s
 rw [adjust_gen lo hi n]
 show wpAny _ _ (pure (((sIx n 0 lo:Nat):Int),(1:Int),Builtin.Slice.slicePlaces ((sIx n 0 lo:Nat):Int) ((sIx n n hi:Nat):Int) 1)) _ _ s
 rw [places_gen]
 exact wpAny_pure h
theorem pick_gen (xs:Array Value) (i k:Nat):((List.range k).filterMap fun (m:Nat)=>xs[((i:Int) + (m:Int) * 1).toNat]?).toArray=((xs.toList.drop i).take k).toArray:=by
 have e:(fun (m:Nat)=>xs[((i:Int) + (m:Int) * 1).toNat]?)=fun m=>xs[i + m]?:=by
  funext m
  have:((i:Int) + (m:Int) * 1).toNat=i + m:=by omega
  rw [this]
 rw [e]
 have:=pick_run xs i k
 rw [List.filterMap_map] at this
 have e2:((fun x=>xs[x]?) ∘ fun x=>i + x)=fun m=>xs[i + m]?:=rfl
 rw [e2] at this
 rw [this]
theorem getItem_tuple_cut {t sl:Addr} {items:Array Value} {vl vu:Value} {lo hi:Option Int} {Q:Value->Shared->Prop} (ht:IsTup s.heap t items) (hs:s.heap.IsSliceOf sl vl vu .none) (pl:IsPart vl lo) (pu:IsPart vu hi)
  (hw:¬ (sIx items.size 0 lo=0/\sIx items.size items.size hi=items.size))
  (h:Q (.ref s.heap.objs.size) { s with heap:=s.heap.push { cls:=.type "tuple",data:=.seq ((items.toList.drop (sIx items.size 0 lo)).take (sIx items.size items.size hi - sIx items.size 0 lo)).toArray } })
  (hsz:items.size<=sizeLine):wpAny (model prog w) A (getItem (.ref t) (.ref sl)) Q E s:=by
 have htake:sizeOk (.seq ((items.toList.drop (sIx items.size 0 lo)).take (sIx items.size items.size hi - sIx items.size 0 lo)).toArray):=by
  show ((items.toList.drop (sIx items.size 0 lo)).take (sIx items.size items.size hi - sIx items.size 0 lo)).toArray.size<=sizeLine
  rw [List.size_toArray,List.length_take,List.length_drop,Array.length_toList]
  omega
 have hj:sIx items.size items.size hi<=items.size:=sIx_le _ _ (Nat.le_refl _) hi
 obtain ⟨os,hos,hcs,hds⟩:=id hs
 have hTs:s.TypeIs (.ref sl) "slice":=⟨os,hos,hcs⟩
 unfold getItem
 try with_reducible refine wpAny_holding ?_
 first | refine wpAny_bind (wpAny_pure ?_) | skip
 refine wpAny_bind (wpAny_sequenceKey ht.typeIs (by decide) ?_)
 refine wpAny_bind (wpAny_callSpecial?_slot (name:=Str.ofString "__getitem__") ht.typeIs PyProof.Rows.slot_tuple_getitem
  (wpAny_call_entry PyProof.Rows.slot_tuple_getitem ht.typeIs entry_tuple_getitem ?_ (args_tuple_getitem _ _)))
 show wpAny _ _ (Builtin.Tuple.tupleItemsOf (.ref t) >>= _) _ _ s
 refine wpAny_bind (tupleItemsOf_ ht ?_)
 refine wpAny_bind (wpAny_typeOf hTs ?_)
 rw [if_pos (by decide)]
 refine wpAny_bind (sliceApplied_gen hs pl pu ?_)
 have hno:¬ ((((sIx items.size 0 lo:Nat):Int) == 0 && (1:Int) == 1 && (sIx items.size items.size hi - sIx items.size 0 lo) == items.size)=true):=by
  intro q
  rw [Bool.and_eq_true,Bool.and_eq_true] at q
  have q1:((sIx items.size 0 lo:Nat):Int)=0:=eq_of_beq q.1.1
  have q2:sIx items.size items.size hi - sIx items.size 0 lo=items.size:=eq_of_beq q.2
  exact hw ⟨by omega,by omega⟩
 show wpAny _ _ (if (((sIx items.size 0 lo:Nat):Int) == 0 && (1:Int) == 1 && (sIx items.size items.size hi - sIx items.size 0 lo) == items.size)=true then _ else _) _ _ s
 rw [if_neg hno,pick_gen]
 first
  | exact wpAny_bind (m:=Builtin.Tuple.tupleExact _) (wpAny_newObj_type (wpAny_pure ⟨_,rfl,wpAny_pure h⟩) htake)
  | exact wpAny_bind (m:=Builtin.Tuple.tupleExact _) (wpAny_newObj_type (wpAny_bind (wpAny_pure (wpAny_pure ⟨_,rfl,wpAny_pure h⟩))) htake)
  | exact wpAny_bind (wpAny_bind (m:=Builtin.Tuple.tupleExact _) (wpAny_newObj_type (wpAny_pure (wpAny_pure ⟨_,rfl,wpAny_pure h⟩)) htake))
  | exact wpAny_bind (wpAny_bind (m:=Builtin.Tuple.tupleExact _) (wpAny_newObj_type (wpAny_pure ⟨_,rfl,wpAny_pure h⟩) htake))
end
end HT
namespace L2
open PySem PySem.Spec PyProof.Rows
abbrev TO:=St->Hp->(Option Int->Hp->Prop)->Prop
def PO (X:Cx) (e:Option Expr) (t:TO):Prop :=
 ∀ (pins:List (Addr×Obj)) (s:Shared) (σ:St) (H:Hp) (Q:Option Int->Hp->Prop),Inv X pins σ H s->t σ H Q ->
  wpAny (model X.prog X.w) X.A (evalPart e X.env) (fun u s'=>∃ o H',Inv X pins σ H' s'/\IsPart u o/\Q o H') X.xe s
def tNoPart:TO:=fun _ H Q=>Q none H
def tPart (t:TE):TO:=fun σ H Q=>t σ H fun x H1=>∃ i,x=.int i/\Q (some i) H1
section
variable {X:Cx} {e:Expr} {te:TE} {lo hi:Option Expr} {tl th:TO} {pos p2:Pos}
def po_none:PO X none tNoPart:=by
 intro pins s σ H Q I h
 rw [evalPart_none]
 exact wpAny_pure ⟨none,H,I,.none,h⟩
def po_some (h:PE X e te):PO X (some e) (tPart te):=by
 intro pins s σ H Q I hw
 rw [evalPart_some]
 refine thn (h pins s σ H _ I hw) fun u s1 ⟨x,H1,I1,r1,q1⟩=>?_
 obtain ⟨i,rfl,q⟩:=q1
 obtain ⟨t,rfl⟩:=r1
 exact ⟨some i,H1,I1,.int i t,q⟩
def SlR (X:Cx) (r:V->Option Int->Option Int->Hp->VK->Prop):Prop :=
 ∀ (pins:List (Addr×Obj)) (s:Shared) (σ:St) (H:Hp) (x:V) (v vl vu:Value) (lo hi:Option Int) (sl:Addr) (Q:VK),Inv X pins σ H s->RelV x v->s.heap.IsSliceOf sl vl vu .none->IsPart vl lo->IsPart vu hi->r x lo hi H Q ->
  ∃ T id,typeLookup (.type T) "__getitem__"=pure (some (.builtin id))/\s.TypeIs v T/\wpAny (model X.prog X.w) X.A (getItem v (.ref sl)) (EP X pins σ Q) X.xe s
def tSl (r:V->Option Int->Option Int->Hp->VK->Prop) (te:TE) (tl th:TO):TE:=fun σ H Q=>te σ H fun x H1=>tl σ H1 fun l H2=>th σ H2 fun u H3=>r x l u H3 Q
def pe_slice {r:V->Option Int->Option Int->Hp->VK->Prop} (hr:SlR X r) (he:PE X e te) (hl:PO X lo tl) (hu:PO X hi th):PE X (.Subscript e (.Slice lo hi none p2) pos) (tSl r te tl th):=by
 intro pins s σ H Q I h
 refine Subscript_ (thn (he pins s σ H _ I h) fun v s1 ⟨x,H1,I1,r1,q1⟩=>?_)
 refine wpAny_Slice (thn (hl pins s1 σ H1 _ I1 q1) fun vl s2 ⟨l,H2,I2,pl,q2⟩=>thn (hu pins s2 σ H2 _ I2 q2) fun vu s3 ⟨u,H3,I3,pu,q3⟩=>?_)
 rw [evalPart_none]
 refine wpAny_pure ?_
 have I4:Inv X pins σ H3 { s3 with heap:=s3.heap.push { cls:=.type "slice",data:=.fields #[vl,vu,.none] } }:=I3.kept (t':=s3.toks) fun b ob q=>Heap.get?_push_of_some _ q
 obtain ⟨T,id,hT,ht,hg⟩:=hr pins { s3 with heap:=s3.heap.push { cls:=.type "slice",data:=.fields #[vl,vu,.none] } } σ H3 x v vl vu l u s3.heap.objs.size Q I4 r1 (Heap.IsSliceOf.new ..) pl pu q3
 show wpAny (model X.prog X.w) X.A (subscriptTail e (.Slice lo hi none p2) v (.ref s3.heap.objs.size)) (EP X pins σ Q) X.xe { s3 with heap:=s3.heap.push { cls:=.type "slice",data:=.fields #[vl,vu,.none] } }
 exact tail_any (ops:=[.ref s3.heap.objs.size,v]) ht hT hg (by with_unfolding_all rfl)
def cutV (xs:List V) (lo hi:Option Int):List V:=(xs.drop (HT.sIx xs.length 0 lo)).take (HT.sIx xs.length xs.length hi - HT.sIx xs.length 0 lo)
theorem cutV_length (xs:List V) (lo hi:Option Int):(cutV xs lo hi).length<=xs.length:=by
 unfold cutV
 rw [List.length_take,List.length_drop]
 omega
def rSlT (K:W.Frag):V->Option Int->Option Int->Hp->VK->Prop:=fun x lo hi H Q=>∃ a xs,x=.ref a/\SqT K H a xs /\
 ¬ (HT.sIx xs.length 0 lo=0/\HT.sIx xs.length xs.length hi=xs.length)/\∀ p,H p=none->Q (.ref p) (upd H p (.tup (cutV xs lo hi)))
def sl_tup:SlR X (rSlT X.K):=by
 intro pins s σ H x v vl vu lo hi sl Q I rx hs pl pu h
 obtain ⟨a,xs,rfl,hx,hw,q⟩:=h
 cases rx
 obtain ⟨its,r,ht,hz⟩:=I.tuple hx
 have hlen:its.toArray.size=xs.length:=by rw [List.size_toArray]; exact r.length.symm
 refine ⟨"tuple",_,PyProof.Rows.slot_tuple_getitem.lookup,ht.typeIs,?_⟩
 refine HT.getItem_tuple_cut ht hs pl pu (by rw [hlen]; exact hw) ?_ (by rw [hlen]; exact hz)
 rw [hlen]
 refine ⟨.ref s.heap.objs.size,_,I.laid (t':=s.toks) (o:=.tup (cutV xs lo hi)) (fun b ob q=>Heap.get?_push_of_some _ q) (Nat.le_refl _) ?_,rfl,q _ (I.hok.fresh (Nat.le_refl _))⟩
 exact ⟨Nat.le_trans (cutV_length xs lo hi) hz,_,(r.drop (HT.sIx xs.length 0 lo)).take (HT.sIx xs.length xs.length hi - HT.sIx xs.length 0 lo),IsTupD.new _ _⟩
def rCatT (K:W.Frag):R2:=fun x y H Q=>∃ a b xs ys,x=.ref a/\y=.ref b/\SqT K H a xs/\SqT K H b ys/\xs≠[]/\xs.length + ys.length<=sizeLine /\
 (ys=[]->Q (.ref a) H)/\(ys≠[]->∀ p,H p=none->Q (.ref p) (upd H p (.tup (xs++ys))))
theorem Vals.nil_iff {xs:List V} {us:List Value} (r:Vals xs us):us=[]↔xs=[]:=by
 cases r with
 | nil=>simp
 | cons _ _=>simp
def op_catT:OpR X (binaryOp .Add) (rCatT X.K):=by
 intro pins s σ H x y v u Q I rx ry h
 obtain ⟨a,b,xs,ys,rfl,rfl,ha,hb,hx,hz,q1,q2⟩:=h
 cases rx
 cases ry
 obtain ⟨its,r1,p1,_⟩:=I.tuple ha
 obtain ⟨its2,r2,p2,_⟩:=I.tuple hb
 refine HT.cat_tup p1 p2 (fun z=>hx (r1.nil_iff.mp z)) (fun z=>⟨.ref a,H,I,rfl,q1 (r2.nil_iff.mp z)⟩) (fun z=>?_) (by rw [<- r1.length,<- r2.length]; exact hz)
 refine ⟨.ref s.heap.objs.size,_,I.laid (t':=s.toks) (o:=.tup (xs++ys)) (fun b ob q=>Heap.get?_push_of_some _ q) (Nat.le_refl _) ?_,rfl,q2 (fun w=>z (r2.nil_iff.mpr w)) _ (I.hok.fresh (Nat.le_refl _))⟩
 exact ⟨by rw [List.length_append]; exact hz,_,r1.append r2,IsTupD.new _ _⟩
end
def ixN (n:Nat) (i:Int):Option Nat:=if 0<=i then (if i < n then some i.toNat else none) else if -(n:Int)<=i then some (i + n).toNat else none
def atI {α:Type} (xs:List α) (i:Int):Option α:=(ixN xs.length i).bind fun j=>xs[j]?
theorem ixN_seq {n:Nat} {i:Int} {j:Nat} (h:ixN n i=some j):seqIndex? i n=some j/\j < n/\-(n:Int)<=i/\i < n:=by
 unfold ixN at h
 by_cases h0:0<=i
 ·rw [if_pos h0] at h
  by_cases h1:i < n
  ·rw [if_pos h1] at h
   have e:i.toNat=j:=Option.some.inj h
   exact ⟨by rw [seqIndex_of h0 h1,e],by omega,by omega,h1⟩
  ·rw [if_neg h1] at h; cases h
 ·rw [if_neg h0] at h
  by_cases h1:-(n:Int)<=i
  ·rw [if_pos h1] at h
   have e:(i + n).toNat=j:=Option.some.inj h
   exact ⟨by rw [seqIndex_neg (by omega) h1,e],by omega,h1,by omega⟩
  ·rw [if_neg h1] at h; cases h
theorem atI_get {α:Type} {xs:List α} {i:Int} {v:α} (h:atI xs i=some v):∃ j,seqIndex? i xs.length=some j/\xs[j]?=some v/\j < xs.length/\-(xs.length:Int)<=i/\i < xs.length:=by
 unfold atI at h
 cases e:ixN xs.length i with
 | none=>rw [e] at h; cases h
 | some j =>
  rw [e] at h
  obtain ⟨h1,h2,h3,h4⟩:=ixN_seq e
  exact ⟨j,h1,h,h2,h3,h4⟩
theorem atI_nat {α:Type} {xs:List α} {j:Nat} {v:α} (h:xs[j]?=some v):atI xs (j:Int)=some v:=by
 have hj:j < xs.length:=(List.getElem?_eq_some_iff.mp h).1
 have e:ixN xs.length (j:Int)=some j:=by
  unfold ixN
  rw [if_pos (by omega),if_pos (by omega)]; simp
 unfold atI; rw [e]; exact h
def PlainIx (b:Expr):Prop:=∀ o i,subscripted b false o i=operate [o,i] (getItem o i)
def IxR (X:Cx) (r:R2):Prop :=
 ∀ (value slice:Expr) (pins:List (Addr×Obj)) (s:Shared) (σ:St) (H:Hp) (x y:V) (v u:Value) (Q:VK),Inv X pins σ H s->RelV x v->RelV y u->r x y H Q ->
  subscripted slice false v u=operate [v,u] (getItem v u)->wpAny (model X.prog X.w) X.A (subscriptTail value slice v u) (EP X pins σ Q) X.xe s
def MtR (X:Cx) (id:String) (r:V->List V->Hp->VK->Prop):Prop :=
 ∀ (pins:List (Addr×Obj)) (s:Shared) (σ:St) (H:Hp) (x:V) (xs:List V) (v:Value) (us:List Value) (Q:VK),Inv X pins σ H s->RelV x v->Vals xs us->r x xs H Q ->
  wpAny (model X.prog X.w) X.A (call (.builtin id) (v::us)) (EP X pins σ Q) X.xe s
section
variable {X:Cx} {a b:Expr} {ta tb:TE} {pos:Pos}
def IxR.or {r r':R2} (h:IxR X r) (h':IxR X r'):IxR X (fun x y H Q=>r x y H Q\/r' x y H Q):=by
 intro value slice pins s σ H x y v u Q I rx ry q hs
 rcases q with q | q
 ·exact h value slice pins s σ H x y v u Q I rx ry q hs
 ·exact h' value slice pins s σ H x y v u Q I rx ry q hs
def pe_ix {r:R2} (hr:IxR X r) (ha:PE X a ta) (hb:PE X b tb) (hs:PlainIx b):PE X (.Subscript a b pos) (tOp r ta tb):=by
 intro pins s σ H Q I h
 exact Subscript_ (binT ha hb I h fun v u s2 x y H2 I2 rx ry q=>hr a b pins s2 σ H2 x y v u Q I2 rx ry q (hs _ _))
def rIxL (K:W.Frag):R2:=fun x y H Q=>∃ p xs i v,x=.ref p/\y=.int i/\SqL K H p xs/\atI xs i=some v/\Q v H
def rIxT (K:W.Frag):R2:=fun x y H Q=>∃ p xs i v,x=.ref p/\y=.int i/\SqT K H p xs/\atI xs i=some v/\Q v H
def rIxS:R2:=fun x y H Q=>∃ z i c,x=.str z/\y=.int i/\z.length<=sizeLine/\atI z.cps.toList i=some c/\Q (.str ⟨#[c]⟩) H
theorem ix_list:IxR X (rIxL X.K):=by
 intro value slice pins s σ H x y v u Q I rx ry h hs
 obtain ⟨p,xs,i,z,rfl,rfl,hq,he,q⟩:=h
 cases rx
 obtain ⟨t,rfl⟩:=ry
 obtain ⟨its,r,pl,hz⟩:=I.list hq
 obtain ⟨j,h1,h2,h3,h4,h5⟩:=atI_get he
 obtain ⟨w,ew,rw'⟩:=r.get h2
 have hl:=r.length
 have hn:=line63
 have fin:EP X pins σ Q w s:=⟨z,H,I,rw',q⟩
 by_cases h0:0<=i
 ·have hj:i.toNat=j:=by
   rw [seqIndex_of h0 h5] at h1
   exact Option.some.inj h1
  exact item_listR pl.isList h0 (by omega) (by rw [hj]; simpa using ew) fin hs
 ·have hj:(i + (its.toArray.size:Int)).toNat=j:=by
   rw [seqIndex_neg (by omega) h4] at h1
   rw [List.size_toArray,<- hl]
   exact Option.some.inj h1
  exact subscriptTail_builtinR (x:=w) pl.isList.typeIs slot_list_getitem.lookup
   (wpAny_getItem_list_neg (Q:=fun r s'=>r=w/\EP X pins σ Q r s') pl.isList (by omega) (by rw [List.size_toArray] <;> omega) (by omega) (by rw [hj]; simpa using ew) ⟨rfl,fin⟩) hs
theorem ix_tup:IxR X (rIxT X.K):=by
 intro value slice pins s σ H x y v u Q I rx ry h hs
 obtain ⟨p,xs,i,z,rfl,rfl,hq,he,q⟩:=h
 cases rx
 obtain ⟨t,rfl⟩:=ry
 obtain ⟨its,r,pl,hz⟩:=I.tuple hq
 obtain ⟨j,h1,h2,h3,h4,h5⟩:=atI_get he
 obtain ⟨w,ew,rw'⟩:=r.get h2
 have hl:=r.length
 have hn:=line63
 have fin:EP X pins σ Q w s:=⟨z,H,I,rw',q⟩
 exact subscriptTail_builtinR (x:=w) pl.typeIs slot_tuple_getitem.lookup
  (getItem_tuple (j:=j) (Q:=fun r s'=>r=w/\EP X pins σ Q r s') pl (by omega) (by omega) (by rw [List.size_toArray,<- hl]; exact h1) (by simpa using ew) ⟨rfl,fin⟩) hs
theorem ix_str:IxR X rIxS:=by
 intro value slice pins s σ H x y v u Q I rx ry h hs
 obtain ⟨z,i,c,rfl,rfl,hz,he,q⟩:=h
 obtain ⟨t,rfl⟩:=rx
 obtain ⟨t',rfl⟩:=ry
 obtain ⟨j,h1,h2,h3,h4,h5⟩:=atI_get he
 have hl:z.cps.toList.length=z.length:=by simp [Str.length]
 rw [hl] at h1 h4 h5
 have hn:=line63
 exact tail_any (typeIs_str s z t) slot_str_getitem.lookup (getItem_str (c:=c) (by
  have e1:decide (i < -(2 ^ 63:Int))=false:=decide_eq_false (by omega)
  have e2:decide (i≥2 ^ 63)=false:=decide_eq_false (by omega)
  rw [e1,e2,Bool.or_false]) (by rw [h1]; simpa using h2) ⟨.str ⟨#[c]⟩,H,I.tok _,⟨_,rfl⟩,q⟩) hs
def rIx (K:W.Frag):R2:=fun x y H Q=>rIxL K x y H Q\/rIxT K x y H Q\/rIxS x y H Q
def ix_seq:IxR X (rIx X.K):=ix_list.or (ix_tup.or ix_str)
def mapSeq_set (its:List Value) (n j:Nat) (u:Value):Obj.mapSeq (·.setIfInBounds j u) { cls:=.type "list",data:=.seq its.toArray n }={ cls:=.type "list",data:=.seq (its.set j u).toArray n }:=by
 simp [Obj.mapSeq]
def Inv.lst {pins:List (Addr×Obj)} {σ:St} {H:Hp} {s:Shared} {p:Addr} {xs:List V} (I:Inv X pins σ H s) (h:H p=some (.lst xs)) :
  ∃ (its:List Value) (n:Nat),Vals xs its/\s.heap.get? p=some { cls:=.type "list",data:=.seq its.toArray n }/\xs.length<=sizeLine:=by
 obtain ⟨z,its,n,r,e⟩:=I.hok p _ h
 exact ⟨its,n,r,e,z⟩
def Inv.lstUpd {pins:List (Addr×Obj)} {σ:St} {H:Hp} {s:Shared} {p:Addr} {xs ys:List V} {its its':List Value} {n n':Nat} {f:Obj->Obj} (I:Inv X pins σ H s) (h:H p=some (.lst xs))
  (ho:s.heap.get? p=some { cls:=.type "list",data:=.seq its.toArray n }) (hf:f { cls:=.type "list",data:=.seq its.toArray n }={ cls:=.type "list",data:=.seq its'.toArray n' }) (r:Vals ys its') (hz:ys.length<=sizeLine) (t:Nat) :
  Inv X pins σ (upd H p (.lst ys)) { s with heap:=s.heap.update p f,toks:=t }:=by
 have e:(s.heap.update p f).get? p=some { cls:=.type "list",data:=.seq its'.toArray n' }:=by
  rw [Heap.get?_update_self f ho (by rw [hf] <;> rfl),hf]
 refine I.write (x:=p) (e:=p) (by rw [h]; trivial) (.inl rfl) (fun b u hb q=>(Heap.get?_update_other _ _ (Ne.symm hb)).trans q) ⟨_,e⟩ ?_
 exact ⟨hz,its',n',r,e⟩
def rSetL:V->V->V->Hp->(Hp->Prop)->Prop:=fun o i v H Q=>∃ p xs k j,o=.ref p/\i=.int k/\H p=some (.lst xs)/\ixN xs.length k=some j/\Q (upd H p (.lst (xs.set j v)))
theorem set_list:PSet X rSetL:=by
 intro pins s σ H o i v ov iv u Q I ro ri rv h
 obtain ⟨p,xs,k,j,rfl,rfl,hp,hj,q⟩:=h
 cases ro
 obtain ⟨t,rfl⟩:=ri
 obtain ⟨its,n,r,ho,hz⟩:=I.lst hp
 obtain ⟨h1,h2,h3,h4⟩:=ixN_seq hj
 have hl:=r.length
 have hn:=line63
 have I':Inv X pins σ (upd H p (.lst (xs.set j v))) { s with heap:=s.heap.update p (Obj.mapSeq (·.setIfInBounds j u)) } :=
  I.lstUpd hp ho (mapSeq_set its n j u) (r.set rv j) (by rw [List.length_set]; exact hz) s.toks
 by_cases h0:0<=k
 ·have hk:k.toNat=j:=by
   rw [seqIndex_of h0 h4] at h1
   exact Option.some.inj h1
  exact W.ki_setAt ho h0 (by omega) (by rw [List.size_toArray,<- hl]; exact h4) (by rw [hk]; exact ⟨_,I',q⟩)
 ·have hk:(k + (its.toArray.size:Int)).toNat=j:=by
   rw [seqIndex_neg (by omega) h3] at h1
   rw [List.size_toArray,<- hl]
   exact Option.some.inj h1
  exact W.ki_setBack ho (by omega) (by rw [List.size_toArray,<- hl]; exact h3) (by omega) (by rw [hk]; exact ⟨_,I',q⟩)
theorem slice_bounds (lo hi:Option Int) (n:Nat):(sliceBounds lo hi none n).1=((HT.sIx n 0 lo:Nat):Int)/\(sliceBounds lo hi none n).2.1=((HT.sIx n n hi:Nat):Int)/\(sliceBounds lo hi none n).2.2=1:=by
 refine ⟨?_,?_,rfl⟩
 ·cases lo with
  | none=>simp [sliceBounds,HT.sIx]
  | some i =>
   simp only [sliceBounds,HT.sIx,Option.getD_none,show (1:Int) > 0 by decide,if_true]
   by_cases h:i < 0
   ·simp only [h,if_true] <;> omega
   ·simp only [h,if_false] <;> omega
 ·cases hi with
  | none=>simp [sliceBounds,HT.sIx]
  | some i =>
   simp only [sliceBounds,HT.sIx,Option.getD_none,show (1:Int) > 0 by decide,if_true]
   by_cases h:i < 0
   ·simp only [h,if_true] <;> omega
   ·simp only [h,if_false] <;> omega
def slicePick_cut (its:List Value) (lo hi:Option Int):slicePick its.toArray lo hi none=((its.drop (HT.sIx its.length 0 lo)).take (HT.sIx its.length its.length hi - HT.sIx its.length 0 lo)).toArray:=by
 obtain ⟨h1,h2,h3⟩:=slice_bounds lo hi its.toArray.size
 unfold slicePick
 rw [h1,h2,h3]
 simp only [sliceRange_one,pick_run,List.size_toArray] <;> rfl
def rSlL (K:W.Frag):V->Option Int->Option Int->Hp->VK->Prop:=fun x lo hi H Q=>∃ a xs,x=.ref a/\SqL K H a xs/\∀ p,H p=none->Q (.ref p) (upd H p (.lst (cutV xs lo hi)))
theorem sl_list:SlR X (rSlL X.K):=by
 intro pins s σ H x v vl vu lo hi sl Q I rx hs pl pu h
 obtain ⟨a,xs,rfl,hx,q⟩:=h
 cases rx
 obtain ⟨its,r,ht,hz⟩:=I.list hx
 have hlen:=r.length
 refine ⟨"list",_,slot_list_getitem.lookup,ht.isList.typeIs,?_⟩
 refine wpAny_getItem_list_slice ht.isList hs pl pu .none (by simp) ?_ (by rw [List.size_toArray] <;> omega)
 rw [slicePick_cut,<- hlen]
 refine ⟨.ref s.heap.objs.size,_,I.laid (t':=s.toks) (o:=.lst (cutV xs lo hi)) (fun b ob q=>Heap.get?_push_of_some _ q) (Nat.le_refl _) ?_,rfl,q _ (I.hok.fresh (Nat.le_refl _))⟩
 exact ⟨Nat.le_trans (cutV_length xs lo hi) hz,_,0,(r.drop (HT.sIx xs.length 0 lo)).take (HT.sIx xs.length xs.length hi - HT.sIx xs.length 0 lo),Heap.get?_push_size _ rfl⟩
def eqV:V->V->Bool
 | .non,.non=>true
 | .bl a,.bl b=>a == b
 | .bl a,.int b=>(if a then 1 else 0) == b
 | .int a,.bl b=>a == (if b then 1 else 0)
 | .int a,.int b=>a == b
 | .str a,.str b=>a == b
 | _,_=>false
theorem call_list_of:CallR X (.type "list") (fun xs H Q=>∃ p ys,xs=[.ref p]/\(SqL X.K H p ys\/SqT X.K H p ys)/\∀ l,H l=none->Q (.ref l) (upd H l (.lst ys))):=by
 intro pins s σ H xs us Q I r h
 obtain ⟨p,ys,rfl,hq,q⟩:=h
 obtain ⟨u,rfl,rx⟩:=vals1 r
 cases rx
 have fin:∀ (its:List Value),Vals ys its->ys.length<=sizeLine->∀ (h':Heap) (c':Nat),(∀ b o',s.heap.get? b=some o'->h'.get? b=some o') ->
   h'.get? s.heap.objs.size=some { cls:=.type "list",dict:=none,data:=.seq its.toArray c',slots:=#[] }->EP X pins σ Q (.ref s.heap.objs.size) { s with heap:=h' }:=fun its r' hz h' c' kp e =>
  ⟨.ref s.heap.objs.size,_,I.laid (t':=s.toks) kp (Nat.le_refl _) (show ObjOk X.prog X.w _ h' _ (.lst ys) from ⟨hz,its,c',r',e⟩),rfl,q _ (I.hok.fresh (Nat.le_refl _))⟩
 rcases hq with hq | hq
 ·obtain ⟨its,r',pl,hz⟩:=I.list hq
  have hlen:=r'.length
  obtain ⟨o,ho,hc,n,hd⟩:=pl.isList
  exact call_list_seq p (.inl rfl) ho hc hd (fun h' c' kp e=>fin its r' hz h' c' kp e) (by simp only [List.size_toArray] <;> omega)
 ·obtain ⟨its,r',pl,hz⟩:=I.tuple hq
  have hlen:=r'.length
  obtain ⟨o,ho,hc,n,hd⟩:=pl
  exact call_list_seq p (.inr rfl) ho hc hd (fun h' c' kp e=>fin its r' hz h' c' kp e) (by simp only [List.size_toArray] <;> omega)
theorem call_tuple_of:CallR X (.type "tuple") (fun xs H Q=>∃ p ys,xs=[.ref p]/\((SqL X.K H p ys/\∀ l,H l=none->Q (.ref l) (upd H l (.tup ys)))\/(SqT X.K H p ys/\Q (.ref p) H))):=by
 intro pins s σ H xs us Q I r h
 obtain ⟨p,ys,rfl,h⟩:=h
 obtain ⟨u,rfl,rx⟩:=vals1 r
 cases rx
 rcases h with ⟨hq,q⟩ | ⟨hq,q⟩
 ·obtain ⟨its,r',pl,hz⟩:=I.list hq
  have hlen:=r'.length
  refine call_tuple_list pl.isList (fun h' kp=>?_) (by simp only [List.size_toArray] <;> omega)
  have I1:Inv X pins σ H { s with heap:=h' }:=I.kept (t':=s.toks) kp
  have I2:Inv X pins σ (upd H h'.objs.size (.tup ys)) { s with heap:=h'.push { cls:=.type "tuple",data:=.seq its.toArray } } :=
   I1.laid (t':=s.toks) (fun b o e=>Heap.get?_push_of_some _ e) (Nat.le_refl _) (show ObjOk X.prog X.w _ _ _ (.tup ys) from ⟨hz,its,r',IsTupD.new _ _⟩)
  exact ⟨.ref h'.objs.size,_,I2,rfl,q _ (I1.hok.fresh (Nat.le_refl _))⟩
 ·obtain ⟨its,r',pl,hz⟩:=I.tuple hq
  exact call_tuple_same pl ⟨.ref p,H,I,rfl,q⟩
def tyV (K:W.Frag) (T:String) (x:V) (H:Hp):Prop:=match x with
 | .str _=>T="str"
 | .int _=>T="int"
 | .ref p=>(T="list"/\∃ xs,SqL K H p xs)\/(T="tuple"/\∃ o,K.lookup p=some o/\o.cls=.type "tuple"/\o.dict=none) \/
   (T="dict"/\((∃ kvs,H p=some (.dK kvs))\/∃ kvs,H p=some (.dT kvs)))\/(T="set"/\∃ S n,H p=some (.set S n))
 | _=>False
theorem tyV_is {pins:List (Addr×Obj)} {σ:St} {H:Hp} {s:Shared} {T:String} {x:V} {v:Value} (I:Inv X pins σ H s) (r:RelV x v) (ty:tyV X.K T x H) :
  s.TypeIs v T/\∀ a,v=.ref a->∃ ob,s.heap.get? a=some ob/\ob.dict=none:=by
 cases x with
 | str z =>
  obtain ⟨t,rfl⟩:=r
  cases (show T="str" from ty)
  exact ⟨typeIs_str s z t,fun _ e=>nomatch e⟩
 | int i =>
  obtain ⟨t,rfl⟩:=r
  cases (show T="int" from ty)
  exact ⟨typeIs_int s i t,fun _ e=>nomatch e⟩
 | ref p =>
  cases r
  rcases ty with ⟨rfl,xs,hq⟩ | ⟨rfl,o,hk,hc,hd⟩ | ⟨rfl,hk⟩ | ⟨rfl,S,n,hk⟩
  ·obtain ⟨its,_,pl,_⟩:=I.list hq
   refine ⟨pl.isList.typeIs,fun a e=>?_⟩
   cases e
   obtain ⟨o,n,e,c,hd,_⟩:=pl
   exact ⟨o,e,hd⟩
  ·refine ⟨⟨o,I.kIn p o hk,hc⟩,fun a e=>?_⟩
   cases e
   exact ⟨o,I.kIn _ o hk,hd⟩
  ·have z:∃ o,s.heap.get? p=some o/\o.ExactDict:=by
    rcases hk with ⟨kvs,hk⟩ | ⟨kvs,hk⟩
    ·obtain ⟨_,_,_,_,o,_,_,e,ex,_⟩:=I.hok p _ hk
     exact ⟨o,e,ex⟩
    ·obtain ⟨_,_,_,_,o,_,_,e,ex,_⟩:=I.hok p _ hk
     exact ⟨o,e,ex⟩
   obtain ⟨o,e,ex⟩:=z
   refine ⟨⟨o,e,ex.1⟩,fun a e2=>?_⟩
   cases e2
   exact ⟨o,e,ex.2.1⟩
  ·obtain ⟨o,_,_,_,e,ex,_⟩:=I.hok p _ hk
   refine ⟨⟨o,e,ex.1⟩,fun a e2=>?_⟩
   cases e2
   exact ⟨o,e,ex.2.1⟩
 | _=>exact False.elim ty
def tBM (K:W.Frag) (T:String) (r:V->List V->Hp->VK->Prop) (to:TE) (t:TA):TE:=fun σ H Q=>to σ H fun x H1=>tyV K T x H1/\t σ H1 fun xs H2=>r x xs H2 Q
variable {o e:Expr} {es:List Expr} {to:TE} {t:TA} {name:Str} {apos cpos:Pos} {T id:String} {r:V->List V->Hp->VK->Prop}
def pe_bm (pa:PlainAttrs T) (slot:Slot T name id) (hty:typeOf (.builtin id)=pure (.type "method_descriptor")) (hm:MtR X id r) (ho:PE X o to) (ha:PA X (e::es) t)
  (hbase:attributeBase o name X.env (eval o X.env)=eval o X.env:=by rfl)
  (hfew:((backTo cpos (starEach (e::es) X.env)).all (fun x=>!x.1) && (backToKw cpos (keywordEach [] X.env)).all (fun x=>x.1.isSome)
   && decide ((e::es).length + ([]:List Keyword).length + (if ([]:List Keyword).isEmpty then 0 else 1) < 30))=true:=by rfl)
  (hline:(apos.endLine == cpos.line)=true:=by rfl) (hs:starEach (e::es) X.env=(false,eval e X.env)::starEach es X.env:=by rfl) (hplain:(backTo cpos (starEach es X.env)).any (·.1)=false:=by rfl) :
  PE X (.Call (.Attribute o name apos) (e::es) [] cpos) (tBM X.K T r to t):=by
 intro pins s σ H Q I h
 refine wpAny_Call_method_late hbase hfew hline rfl (thn (ho pins s σ H _ I h) fun v s1 ⟨x,H1,I1,r1,ty,q1⟩=>?_)
 obtain ⟨h1,h2⟩:=tyV_is I1 r1 ty
 refine ⟨T,id,pa,slot,hty,h1,h2,?_⟩
 have hA:=ha cpos pins s1 σ H1 _ I1 q1
 rw [hs] at hA ⊢
 refine Calls.callWith_builtin (by show (false || (backTo cpos (starEach es X.env)).any (·.1))=false; rw [hplain] <;> rfl) (Calls.evalArgs_plain ?_)
 exact thn hA fun us s2 ⟨vs,H2,I2,r2,q2⟩=>hm pins s2 σ H2 x vs v us Q I2 r1 r2 q2
end
def MtM (X:Cx) (id:String) (r:V->List V->Hp->VK->Prop):Prop :=
 ∀ (pins:List (Addr×Obj)) (s:Shared) (σ:St) (H:Hp) (x:V) (xs:List V) (v:Value) (us:List Value) (Q:VK),Inv X pins σ H s->RelV x v->Vals xs us->r x xs H Q ->
  wpAny (model X.prog X.w) X.A (call (.builtin id) (v::us)) (EP X pins σ Q) X.xe s
theorem Vals.one:∀ {x:V} {us:List Value},Vals [x] us->∃ u,us=[u]/\RelV x u
 | _,_,.cons r .nil=>⟨_,rfl,r⟩
theorem Vals.zero:∀ {us:List Value},Vals [] us->us=[]
 | _,.nil=>rfl
theorem Vals.eraseIdx:∀ {xs:List V} {us:List Value} (i:Nat),Vals xs us->Vals (xs.eraseIdx i) (us.eraseIdx i)
 | _,_,_,.nil=>.nil
 | _,_,0,.cons _ t=>t
 | _,_,i + 1,.cons r t=>.cons r (Vals.eraseIdx i t)
theorem Vals.reverse {xs:List V} {us:List Value} (h:Vals xs us):Vals xs.reverse us.reverse:=by
 induction h with
 | nil=>exact .nil
 | cons r t ih=>rw [List.reverse_cons,List.reverse_cons]; exact Vals.append ih (.cons r .nil)
theorem Vals.rep {xs:List V} {us:List Value} (h:Vals xs us):∀ k:Nat,Vals (List.replicate k xs).flatten (List.replicate k us).flatten
 | 0=>.nil
 | k + 1=>by
  rw [List.replicate_succ,List.replicate_succ,List.flatten_cons,List.flatten_cons]
  exact Vals.append h (Vals.rep h k)
theorem len_erase {α:Type}:∀ (l:List α) (i:Nat),(l.eraseIdx i).length<=l.length
 | [],_=>Nat.le_refl _
 | _::_,0=>Nat.le_succ _
 | _::r,i + 1=>Nat.succ_le_succ (len_erase r i)
theorem foldl_rep (its:List Value):∀ (k:Nat) (acc:List Value),
  List.foldl (fun x1 x2=>x1++x2) acc.toArray (List.replicate k its.toArray)=(acc++(List.replicate k its).flatten).toArray
 | 0,acc=>by simp
 | k + 1,acc=>by
  have e:acc.toArray++its.toArray=(acc++its).toArray:=by simp
  have e2:(acc++its)++(List.replicate k its).flatten=acc++(List.replicate (k + 1) its).flatten:=by
   rw [List.replicate_succ,List.flatten_cons,List.append_assoc]
  rw [<- e2,<- foldl_rep its k (acc++its),<- e,List.replicate_succ,List.foldl_cons]
section
variable {X:Cx} {pins:List (Addr×Obj)} {σ:St} {H:Hp} {s:Shared} {l:Addr} {xs ys:List V}
def Inv.lset {its its':List Value} {n:Nat} {f:Array Value->Array Value} {t':Nat} (I:Inv X pins σ H s) (hH:H l=some (.lst xs))
  (e:s.heap.get? l=some { cls:=.type "list",data:=.seq its.toArray n }) (hf:f its.toArray=its'.toArray) (hv:Vals ys its') (hz:ys.length<=sizeLine) :
  Inv X pins σ (upd H l (.lst ys)) { s with heap:=s.heap.update l (Obj.mapSeq f),toks:=t' }:=by
 have q:=PySem.IsL.update e f
 rw [hf] at q
 refine I.write (x:=l) (e:=l) (by rw [hH]; exact trivial) (.inl rfl) (fun b' u hb hu=>(Heap.get?_update_other s.heap (Obj.mapSeq f) (Ne.symm hb)).trans hu) ⟨_,q⟩ ?_
 exact ⟨hz,its',_,hv,q⟩
def Inv.lnew {its:List Value} {t':Nat} (I:Inv X pins σ H s) (hv:Vals ys its) (hz:ys.length<=sizeLine) :
  Inv X pins σ (upd H s.heap.objs.size (.lst ys)) { s with heap:=s.heap.push { cls:=.type "list",data:=.seq its.toArray },toks:=t' } :=
 I.laid (fun _ _ q=>Heap.get?_push_of_some _ q) (Nat.le_refl _) ⟨hz,its,0,hv,Heap.get?_push_size _ rfl⟩
def Inv.fresh (I:Inv X pins σ H s):H s.heap.objs.size=none:=I.hok.fresh (Nat.le_refl _)
def Inv.lstM (I:Inv X pins σ H s) (hH:H l=some (.lst xs)):xs.length<=sizeLine/\∃ (its:List Value) (n:Nat),Vals xs its/\xs.length=its.length/\s.heap.get? l=some { cls:=.type "list",data:=.seq its.toArray n }:=by
 obtain ⟨z,its,n,r,e⟩:=I.hok l _ hH
 exact ⟨z,its,n,r,r.length,e⟩
theorem notLongL {n:Nat} (h:n<=sizeLine):Builtin.List.listTooLong n=false:=by
 unfold Builtin.List.listTooLong
 exact decide_eq_false (by omega)
end
section
variable {X:Cx}
def rAppend:V->List V->Hp->VK->Prop:=fun x vs H Q=>∃ l xs y,x=.ref l/\vs=[y]/\H l=some (.lst xs)/\xs.length < sizeLine/\Q .non (upd H l (.lst (xs++[y])))
theorem mt_append:MtM X "list.append" rAppend:=by
 intro pins s σ H x vs v us Q I rx rv h
 obtain ⟨l,xs,y,rfl,rfl,hH,hz,q⟩:=h
 cases rx
 obtain ⟨u,rfl,ru⟩:=rv.one
 obtain ⟨z,its,n,r,hl,e⟩:=I.lstM hH
 refine call_meets F.slot_list_append ⟨_,e,rfl⟩ F.entry_list_append (F.args_list_append_2 _ _) (PySem.list_append l its.toArray n u (by rw [List.size_toArray]; omega)) ⟨e,?_⟩
 refine ⟨.non,_,I.lset (its':=its++[u]) hH e (by simp) (r.append (.cons ru .nil)) ?_,rfl,q⟩
 rw [List.length_append,List.length_singleton]
 omega
def rPopAt:V->List V->Hp->VK->Prop:=fun x vs H Q=>∃ l xs i k y,x=.ref l/\vs=[.int i]/\H l=some (.lst xs)/\-(2 ^ 63)<=i/\i < 2 ^ 63/\seqIndex? i xs.length=some k/\xs[k]?=some y/\Q y (upd H l (.lst (xs.eraseIdx k)))
theorem mt_popAt:MtM X "list.pop" rPopAt:=by
 intro pins s σ H x vs v us Q I rx rv h
 obtain ⟨l,xs,i,k,y,rfl,rfl,hH,h1,h2,hk,hy,q⟩:=h
 cases rx
 obtain ⟨u,rfl,ru⟩:=rv.one
 obtain ⟨t,rfl⟩:=ru
 obtain ⟨z,its,n,r,hl,e⟩:=I.lstM hH
 obtain ⟨w,hw,rw'⟩:=r.get hy
 refine call_meets F.slot_list_pop ⟨_,e,rfl⟩ F.entry_list_pop (F.args_list_pop_2 _ _)
  (MeetsSeq.list_pop_at l its.toArray n i t k w (fitsIndex_both h1 h2) (by rw [List.size_toArray,<- hl]; exact hk) (by rw [<- Array.getElem?_toList]; exact hw) (by rw [List.size_toArray]; omega)) ⟨e,?_⟩
 refine ⟨y,_,I.lset (its':=its.eraseIdx k) hH e ?_ (r.eraseIdx k) ?_,rw',q⟩
 ·show its.toArray.eraseIdxIfInBounds k=(its.eraseIdx k).toArray
  rw [List.eraseIdxIfInBounds_toArray]
 ·have:=len_erase xs k
  omega
def rCat:R2:=fun x y H Q=>∃ l b xs zs,x=.ref l/\y=.ref b/\H l=some (.lst xs)/\H b=some (.lst zs)/\xs.length + zs.length<=sizeLine/\∀ p,H p=none->Q (.ref p) (upd H p (.lst (xs++zs)))
theorem op_cat:OpR X (binaryOp .Add) rCat:=by
 intro pins s σ H x y v u Q I rx ry h
 obtain ⟨l,b,xs,zs,rfl,rfl,hH,hB,hz,q⟩:=h
 cases rx
 cases ry
 obtain ⟨z,its,n,r,hl,e⟩:=I.lstM hH
 obtain ⟨z2,its2,n2,r2,hl2,e2⟩:=I.lstM hB
 refine PySem.P.add_list e e2 ?_ (by rw [List.size_toArray,List.size_toArray]; omega)
 have ea:its.toArray++its2.toArray=(its++its2).toArray:=by simp
 rw [ea]
 exact ⟨.ref _,_,I.lnew (t':=s.toks) (r.append r2) (by rw [List.length_append]; omega),rfl,q _ I.fresh⟩
def rRep:R2:=fun x y H Q=>∃ l k xs,x=.ref l/\y=.int k/\H l=some (.lst xs)/\-(2 ^ 63)<=k/\k < 2 ^ 63/\xs.length * k.toNat<=sizeLine /\
 ∀ p,H p=none->Q (.ref p) (upd H p (.lst (List.replicate k.toNat xs).flatten))
theorem len_rep {α:Type} (xs:List α) (k:Nat):(List.replicate k xs).flatten.length=k * xs.length:=by
 induction k with
 | zero=>simp
 | succ k ih=>rw [List.replicate_succ,List.flatten_cons,List.length_append,ih,Nat.succ_mul,Nat.add_comm]
theorem op_rep:OpR X (binaryOp .Mult) rRep:=by
 intro pins s σ H x y v u Q I rx ry h
 obtain ⟨l,k,xs,rfl,rfl,hH,h1,h2,hz,q⟩:=h
 cases rx
 obtain ⟨t,rfl⟩:=ry
 obtain ⟨z,its,n,r,hl,e⟩:=I.lstM hH
 have hlen:its.toArray.size * k.toNat<=sizeLine:=by rw [List.size_toArray,<- hl]; exact hz
 have hcap:¬ its.toArray.size * k.toNat > (2 ^ 63 - 1) / 8:=by
  have:(sizeLine:Nat)<=(2 ^ 63 - 1) / 8:=by decide
  omega
 have hfit:¬ (!Builtin.List.listFitsIndex k)=true:=by
  rw [fitsIndex_both h1 h2]
  exact Bool.false_ne_true
 have hlong:¬ Builtin.List.listTooLong (its.toArray.size * k.toNat)=true:=by
  rw [notLongL hlen]
  exact Bool.false_ne_true
 have hnew:List.foldl (fun x1 x2=>x1++x2) #[] (List.replicate (if its.toArray.isEmpty=true then 0 else k.toNat) its.toArray)=(List.replicate k.toNat its).flatten.toArray:=by
  have f0:∀ m:Nat,List.foldl (fun x1 x2=>x1++x2) #[] (List.replicate m its.toArray)=(List.replicate m its).flatten.toArray:=fun m=>by
   have:=foldl_rep its m []
   rw [List.nil_append] at this
   exact this
  rw [f0]
  cases its with
  | nil=>simp
  | cons a r'=>rw [if_neg (by simp)]
 refine wpAny_binaryOp_repeat_ref (T:="list") (U:="int") (by decide) ⟨_,e,rfl⟩ (fun s'=>typeIs_int s' k t) noFill_list_mul F.fills_int_mul F.slot_int_rmul repeat_list F.slot_int_index.lookup
  (call_meets F.slot_int_rmul (typeIs_int s k t) F.entry_int_rmul (F.args_int_rmul_2 _ _) (int___rmul___int_list k t l its.toArray n)
   ⟨e,rfl,⟨_,e,rfl⟩,call_meets F.slot_list_mul ⟨_,e,rfl⟩ F.entry_list_mul (F.args_list_mul_2 _ _) (AutoListH.list___mul___list_int_3 l its.toArray n k t hfit hcap hlong) ⟨e,?_⟩⟩)
 rw [hnew]
 exact ⟨.ref _,_,I.lnew (t':=s.toks) (r.rep k.toNat) (by rw [len_rep,Nat.mul_comm]; exact hz),rfl,q _ I.fresh⟩
end
section
variable {κ:Type} [DecidableEq κ]
def valV (kvs:List (κ×V)) (k:κ):Option V:=(kvs.find? fun kv=>decide (kv.1=k)).map (·.2)
def putK (kvs:List (κ×V)) (k:κ) (v:V):List (κ×V) :=
 if (kvs.any fun kv=>decide (kv.1=k))=true then kvs.map (fun kv=>if kv.1=k then (kv.1,v) else kv) else kvs++[(k,v)]
def dropK (kvs:List (κ×V)) (k:κ):List (κ×V):=kvs.filter fun kv=>decide (kv.1≠k)
def valV_nil {k:κ}:valV ([]:List (κ×V)) k=none:=rfl
def valV_pos {p:κ×V} {r:List (κ×V)} {k:κ} (e:p.1=k):valV (p::r) k=some p.2:=by simp [valV,List.find?_cons,e]
def valV_neg {p:κ×V} {r:List (κ×V)} {k:κ} (e:¬ p.1=k):valV (p::r) k=valV r k:=by simp [valV,List.find?_cons,e]
theorem valV_any (k:κ):∀ kvs:List (κ×V),(kvs.any fun kv=>decide (kv.1=k))=(valV kvs k).isSome
 | []=>rfl
 | p::r=>by
  rw [List.any_cons]
  by_cases e:p.1=k
  ·simp only [valV_pos e,decide_eq_true e,Bool.true_or,Option.isSome_some]
  ·rw [valV_neg e,decide_eq_false e,Bool.false_or]; exact valV_any k r
theorem valV_map (k j:κ) (y:V):∀ kvs:List (κ×V),valV (kvs.map fun kv=>if kv.1=k then (kv.1,y) else kv) j=(valV kvs j).map fun x=>if j=k then y else x
 | []=>rfl
 | p::r=>by
  have ih:=valV_map k j y r
  rw [List.map_cons]
  by_cases h:p.1=k
  ·rw [if_pos h]
   by_cases e:p.1=j
   ·rw [valV_pos (p:=(p.1,y)) e,valV_pos e,Option.map_some,if_pos (e.symm.trans h)]
   ·rw [valV_neg (p:=(p.1,y)) e,valV_neg e,ih]
  ·rw [if_neg h]
   by_cases e:p.1=j
   ·rw [valV_pos (p:=p) e,valV_pos e,Option.map_some,if_neg (fun z=>h (e.trans z))]
   ·rw [valV_neg (p:=p) e,valV_neg e,ih]
theorem valV_snoc (k j:κ) (y:V):∀ kvs:List (κ×V),valV kvs k=none->valV (kvs++[(k,y)]) j=if j=k then some y else valV kvs j
 | [],_=>by
  by_cases e:k=j
  ·rw [if_pos e.symm]; exact valV_pos (p:=(k,y)) e
  ·rw [if_neg (fun z=>e z.symm)]; exact valV_neg (p:=(k,y)) e
 | p::r,hn=>by
  rw [List.cons_append]
  have hk:¬ p.1=k:=fun z=>by rw [valV_pos z] at hn; cases hn
  rw [valV_neg hk] at hn
  have ih:=valV_snoc k j y r hn
  by_cases e:p.1=j
  ·rw [valV_pos e,valV_pos e,if_neg (fun z=>hk (e.trans z))]
  ·rw [valV_neg e,valV_neg e,ih]
def valV_put (kvs:List (κ×V)) (k j:κ) (y:V):valV (putK kvs k y) j=if j=k then some y else valV kvs j:=by
 unfold putK
 by_cases a:(kvs.any fun kv=>decide (kv.1=k))=true
 ·rw [if_pos a,valV_map]
  rw [valV_any] at a
  by_cases e:j=k
  ·obtain ⟨x,hx⟩:=Option.isSome_iff_exists.mp a
   rw [if_pos e,e,hx,Option.map_some,if_pos rfl]
  ·rw [if_neg e]
   cases valV kvs j with
   | none=>rfl
   | some x=>rw [Option.map_some,if_neg e]
 ·rw [if_neg a]
  refine valV_snoc k j y kvs ?_
  rw [valV_any] at a
  cases q:valV kvs k with
  | none=>rfl
  | some x=>rw [q] at a; exact (a rfl).elim
theorem length_putK (kvs:List (κ×V)) (k:κ) (v:V):(putK kvs k v).length<=kvs.length + 1:=by
 unfold putK
 split
 ·rw [List.length_map]; omega
 ·rw [List.length_append,List.length_cons,List.length_nil]; omega
theorem RelO.isSome_eq {o:Option V} {u:Option Value} (r:RelO o u):o.isSome=u.isSome:=by
 cases o with
 | none=>cases u with
  | none=>rfl
  | some _=>exact (show False from r).elim
 | some _=>cases u with
  | none=>exact (show False from r).elim
  | some _=>rfl
theorem RelO.getD {o:Option V} {u:Option Value} {d:V} {d':Value} (r:RelO o u) (rd:RelV d d'):RelV (o.getD d) (u.getD d'):=by
 cases o with
 | none=>cases u with
  | none=>exact rd
  | some _=>exact (show False from r).elim
 | some _=>cases u with
  | none=>exact (show False from r).elim
  | some _=>exact r
theorem KV.val {kvs:List (κ×V)} {vs:List (κ×Value)} (r:KV kvs vs) (k:κ):RelO (valV kvs k) (valueAt vs k):=by
 unfold KV at r
 induction r with
 | nil=>exact True.intro
 | @cons p q ps qs h t ih =>
  obtain ⟨h1,h2⟩:=h
  by_cases e:p.1=k
  ·have e':q.1=k:=h1.symm.trans e
   have b:valueAt (q::qs) k=some q.2:=by simp [valueAt,List.find?_cons,e']
   rw [valV_pos e,b]; exact h2
  ·have e':¬ q.1=k:=fun z=>e (h1.trans z)
   have b:valueAt (q::qs) k=valueAt qs k:=by simp [valueAt,List.find?_cons,e']
   rw [valV_neg e,b]; exact ih
theorem KV.any {kvs:List (κ×V)} {vs:List (κ×Value)} (r:KV kvs vs) (k:κ):(kvs.any fun kv=>decide (kv.1=k))=vs.any fun kv=>decide (kv.1=k):=by
 unfold KV at r
 induction r with
 | nil=>rfl
 | cons h t ih=>rw [List.any_cons,List.any_cons,ih,h.1]
theorem KV.repl {kvs:List (κ×V)} {vs:List (κ×Value)} (r:KV kvs vs) (k:κ) {y:V} {u:Value} (ry:RelV y u) :
  KV (kvs.map fun kv=>if kv.1=k then (kv.1,y) else kv) (vs.map fun kv=>if kv.1=k then (kv.1,u) else kv):=by
 unfold KV at r ⊢
 induction r with
 | nil=>exact .nil
 | @cons p q ps qs h t ih =>
  rw [List.map_cons,List.map_cons]
  refine .cons ?_ ih
  obtain ⟨h1,h2⟩:=h
  by_cases e:p.1=k
  ·rw [if_pos e,if_pos (h1.symm.trans e)]; exact ⟨h1,ry⟩
  ·rw [if_neg e,if_neg (fun z=>e (h1.trans z))]; exact ⟨h1,h2⟩
def KV.put {kvs:List (κ×V)} {vs:List (κ×Value)} (r:KV kvs vs) (k:κ) {y:V} {u:Value} (ry:RelV y u):KV (putK kvs k y) (stored vs k u):=by
 unfold putK stored
 rw [r.any k]
 by_cases e:(vs.any fun kv=>decide (kv.1=k))=true
 ·rw [if_pos e,if_pos e]; exact r.repl k ry
 ·rw [if_neg e,if_neg e]; exact Paired.snoc r ⟨rfl,ry⟩
theorem KV.drop {kvs:List (κ×V)} {vs:List (κ×Value)} (r:KV kvs vs) (k:κ):KV (dropK kvs k) (without vs k):=by
 unfold KV at r ⊢
 unfold dropK without
 induction r with
 | nil=>exact .nil
 | @cons p q ps qs h t ih =>
  obtain ⟨h1,h2⟩:=h
  rw [List.filter_cons,List.filter_cons]
  by_cases e:p.1=k
  ·have a:¬ decide (p.1≠k)=true:=by simp [e]
   have b:¬ decide (q.1≠k)=true:=by simp [h1.symm.trans e]
   rw [if_neg a,if_neg b]; exact ih
  ·have e':¬ q.1=k:=fun z=>e (h1.trans z)
   have a:decide (p.1≠k)=true:=by simp [e]
   have b:decide (q.1≠k)=true:=by simp [e']
   rw [if_pos a,if_pos b]; exact .cons ⟨h1,h2⟩ ih
def KV.length {kvs:List (κ×V)} {vs:List (κ×Value)} (r:KV kvs vs):kvs.length=vs.length:=Paired.length r
end
theorem kV_is {P:Program} {w:World} {k:Key} {u:Value} (r:RelV (kV k) u):(mixKind P w).is k u=true:=by
 cases k with
 | inl i=>obtain ⟨t,e⟩:=(show ∃ t,u=Value.int i t from r); subst e; exact mixKind_int P w i t
 | inr x=>obtain ⟨t,e⟩:=(show ∃ t,u=Value.str x t from r); subst e; exact mixKind_str P w x t
theorem items_are {P:Program} {w:World}:∀ {ks:List Key} {us:List Value},Vals (ks.map kV) us->ItemsAre (mixKind P w) ks us
 | [],_,r=>by rw [List.map_nil] at r; cases r; exact .nil
 | k::ks,_,r=>by
  rw [List.map_cons] at r
  cases r with
  | cons h t=>exact .cons (kV_is h) (items_are t)
abbrev KT (H:Hp):List (List Key×V)->List (List Key×Addr×Value)->Prop:=Paired fun p q=>p.1=q.1/\H q.2.1=some (.tup (p.1.map kV))/\RelV p.2 q.2.2
theorem KT.val {H:Hp} {kvs:List (List Key×V)} {xs:List (List Key×Addr×Value)} (r:KT H kvs xs) (k:List Key):RelO (valV kvs k) ((atKey xs k).map (·.2)):=by
 induction r with
 | nil=>exact True.intro
 | @cons p q ps qs h t ih =>
  obtain ⟨h1,_,h2⟩:=h
  by_cases e:p.1=k
  ·have e':q.1=k:=h1.symm.trans e
   have b:atKey (q::qs) k=some q.2:=by simp [atKey,List.find?_cons,e']
   rw [valV_pos e,b]; exact h2
  ·have e':¬ q.1=k:=fun z=>e (h1.trans z)
   have b:atKey (q::qs) k=atKey qs k:=by simp [atKey,List.find?_cons,e']
   rw [valV_neg e,b]; exact ih
theorem KT.repl {H:Hp} {kvs:List (List Key×V)} {xs:List (List Key×Addr×Value)} (r:KT H kvs xs) (k:List Key) {y:V} {u:Value} (ry:RelV y u) :
  KT H (kvs.map fun kv=>if kv.1=k then (kv.1,y) else kv) (xs.map (putAt k u)):=by
 induction r with
 | nil=>exact .nil
 | @cons p q ps qs h t ih =>
  rw [List.map_cons,List.map_cons]
  refine .cons ?_ ih
  obtain ⟨h1,h2,h3⟩:=h
  unfold putAt
  by_cases e:p.1=k
  ·rw [if_pos e,if_pos (h1.symm.trans e)]; exact ⟨h1,h2,ry⟩
  ·rw [if_neg e,if_neg (fun z=>e (h1.trans z))]; exact ⟨h1,h2,h3⟩
def KT.put {H:Hp} {kvs:List (List Key×V)} {xs:List (List Key×Addr×Value)} (r:KT H kvs xs) (k:List Key) {b:Addr} {y:V} {u:Value} (hb:H b=some (.tup (k.map kV))) (ry:RelV y u) :
  KT H (putK kvs k y) (storedH xs k b u):=by
 have e:(kvs.any fun kv=>decide (kv.1=k))=(atKey xs k).isSome:=by
  rw [valV_any,(r.val k).isSome_eq,Option.isSome_map]
 unfold putK storedH
 rw [e]
 by_cases q:(atKey xs k).isSome=true
 ·rw [if_pos q,if_pos q]; exact r.repl k ry
 ·rw [if_neg q,if_neg q]; exact Paired.snoc r ⟨rfl,hb,ry⟩
def KT.keeps {H H':Hp} {kvs:List (List Key×V)} {xs:List (List Key×Addr×Value)} (r:KT H kvs xs) (ht:∀ b ys,H b=some (.tup ys)->H' b=some (.tup ys)):KT H' kvs xs :=
 Paired.mapP r fun _ _ z=>⟨z.1,ht _ _ z.2.1,z.2.2⟩
section
variable {P:Program} {w:World} {H:Hp} {h:Heap} {a:Addr}
def rd_of {u:HO} (ok:HOk P w H h) (e:Rd H a u):ObjOk P w H h a u:=e.ok ok
def dk_rd {kvs:List (Key×V)} (ok:HOk P w H h) (e:Rd H a (.dK kvs)):kvs.length<=sizeLine/\(a == sysModules)=false/\∃ vs,KV kvs vs/\h.DictOf (mixKind P w) a vs :=
 show ObjOk P w H h a (.dK kvs) from rd_of ok e
def dk_of {kvs:List (Key×V)} (ok:HOk P w H h) (e:H a=some (.dK kvs)):kvs.length<=sizeLine/\(a == sysModules)=false/\∃ vs,KV kvs vs/\h.DictOf (mixKind P w) a vs:=dk_rd ok (.inl e)
def key_of {ks:List Key} (ok:HOk P w H h) (e:H a=some (.tup (ks.map kV))):(tupleKind (mixKind P w)).is h ks a:=by
 obtain ⟨_,its,r,o,h1,h2,n,h3,_⟩:=(show ObjOk P w H h a (.tup (ks.map kV)) from ok a _ e)
 exact ⟨o,its.toArray,n,h1,h2,h3,by simpa using items_are r⟩
def dt_rd {kvs:List (List Key×V)} (ok:HOk P w H h) (e:Rd H a (.dT kvs)):kvs.length<=sizeLine/\(a == sysModules)=false /\
  ∃ xs,KT H kvs xs/\h.DictOfH (tupleKind (mixKind P w)) a xs:=by
 obtain ⟨z,y,xs,r,o,es,ep,h1,h2,h3,h4,h5⟩:=(show ObjOk P w H h a (.dT kvs) from rd_of ok e)
 refine ⟨z,y,xs,r,o,es,ep,h1,h2,h3,h4,fun x hx=>?_,h5⟩
 have all:∀ {l:List (List Key×V)} {m:List (List Key×Addr×Value)},KT H l m->∀ x∈m,(tupleKind (mixKind P w)).is h x.1 x.2.1:=by
  intro l m q
  induction q with
  | nil=>intro x hx; exact nomatch hx
  | @cons p q ps qs hq t ih =>
   intro x hx
   rcases List.mem_cons.mp hx with e | hx
   ·subst e
    exact key_of ok (by rw [<- hq.1]; exact hq.2.1)
   ·exact ih x hx
 exact all r x hx
def dt_of {kvs:List (List Key×V)} (ok:HOk P w H h) (e:H a=some (.dT kvs)):kvs.length<=sizeLine/\(a == sysModules)=false /\
  ∃ xs,KT H kvs xs/\h.DictOfH (tupleKind (mixKind P w)) a xs:=dt_rd ok (.inl e)
end
def DGet (H:Hp) (a:Addr) (y:V) (r:Option V):Prop :=
 (∃ kvs k,Rd H a (.dK kvs)/\y=kV k/\r=valV kvs k)\/∃ kvs k b,Rd H a (.dT kvs)/\y=.ref b/\H b=some (.tup (k.map kV))/\r=valV kvs k
def DPut (H:Hp) (a:Addr) (y v:V) (H':Hp):Prop :=
 (∃ kvs k,H a=some (.dK kvs)/\y=kV k/\kvs.length < sizeLine/\H'=upd H a (.dK (putK kvs k v))) \/
 ∃ kvs k b,H a=some (.dT kvs)/\y=.ref b/\H b=some (.tup (k.map kV))/\kvs.length < sizeLine/\H'=upd H a (.dT (putK kvs k v))
theorem DGet.k {H:Hp} {a:Addr} {kvs:List (Key×V)} {k:Key} (e:H a=some (.dK kvs)):DGet H a (kV k) (valV kvs k):=.inl ⟨kvs,k,.inl e,rfl,rfl⟩
def DGet.t {H:Hp} {a b:Addr} {kvs:List (List Key×V)} {k:List Key} (e:H a=some (.dT kvs)) (eb:H b=some (.tup (k.map kV))):DGet H a (.ref b) (valV kvs k):=.inr ⟨kvs,k,b,.inl e,rfl,eb,rfl⟩
theorem DPut.k {H:Hp} {a:Addr} {kvs:List (Key×V)} {k:Key} {v:V} (e:H a=some (.dK kvs)) (hl:kvs.length < sizeLine):DPut H a (kV k) v (upd H a (.dK (putK kvs k v))):=.inl ⟨kvs,k,e,rfl,hl,rfl⟩
def DPut.t {H:Hp} {a b:Addr} {kvs:List (List Key×V)} {k:List Key} {v:V} (e:H a=some (.dT kvs)) (eb:H b=some (.tup (k.map kV))) (hl:kvs.length < sizeLine) :
  DPut H a (.ref b) v (upd H a (.dT (putK kvs k v))):=.inr ⟨kvs,k,b,e,rfl,eb,hl,rfl⟩
section
variable {X:Cx} {pins:List (Addr×Obj)} {σ:St} {H:Hp} {s:Shared} {a:Addr} {y v:V} {u r:Value} {A:Around} {E:Value->Shared->Prop}
def Inv.big (I:Inv X pins σ H s):sysModules < s.heap.objs.size:=by
 have h:mainGlobals < s.heap.objs.size:=(I.mod.glob.keeps I.bk).lt
 exact Nat.lt_trans (by decide) h
def d_write {h':Heap} {t':Nat} {ob:HO} (I:Inv X pins σ H s) (mu:Mut (H a)) (hs:Heap.SameBut a s.heap h') (he:∃ q,h'.get? a=some q) (new:ObjOk X.prog X.w (upd H a ob) h' a ob) :
  Inv X pins σ (upd H a ob) { s with heap:=h',toks:=t' } :=
 I.write (x:=a) (e:=a) mu (.inl rfl) (fun b q hb z=>(hs.2 b hb).trans z) he new
def dk_new {P:Program} {w:World} {H':Hp} {h':Heap} {kvs:List (Key×V)} {vs:List (Key×Value)} (z:kvs.length<=sizeLine) (hd:(a == sysModules)=false) (rel:KV kvs vs) (dd:h'.DictOf (mixKind P w) a vs) :
  ObjOk P w H' h' a (.dK kvs):=⟨z,hd,vs,rel,dd⟩
theorem d_setItem {H':Hp} {Q:Unit->Shared->Prop} (hu:A.units + 1 < cLine) (I:Inv X pins σ H s) (g:DPut H a y v H') (ry:RelV y u) (rv:RelV v r) (h:∀ s',Inv X pins σ H' s'->Q () s') :
  wpAny (model X.prog X.w) A (setItem (.ref a) u r) Q E s:=by
 rcases g with ⟨kvs,k,e,ey,l,eH⟩ | ⟨kvs,k,b,e,ey,eb,l,eH⟩
 ·subst ey eH
  obtain ⟨z,hd,vs,rel,dd⟩:=dk_of I.hok e
  have hz:vs.length<=sizeLine:=by rw [<- rel.length]; exact z
  have hl:(putK kvs k v).length<=sizeLine:=by have:=length_putK kvs k v; omega
  refine wpAny_setItem_pairs (hsz:=hz) (kV_is ry) dd fun h' dd' hs=>h _ ?_
  have he:∃ q,h'.get? a=some q:=let ⟨q,_,_,hq,_⟩:=dd'; ⟨q,hq⟩
  exact d_write I (by rw [e]; exact True.intro) hs he (dk_new hl hd (rel.put k rv) dd')
 ·subst ey eH
  cases (show u=Value.ref b from ry)
  obtain ⟨z,hd,xs,rel,dd⟩:=dt_of I.hok e
  have hz:xs.length<=sizeLine:=by rw [<- Paired.length rel]; exact z
  have hl:(putK kvs k v).length<=sizeLine:=by have:=length_putK kvs k v; omega
  refine wpAny_setItem_heap (hsz:=hz) (tupleKind_room_in1 hu) (key_of I.hok eb) dd fun h' dd' hs=>h _ ?_
  obtain ⟨q,es,ep,hq,h2,h3,h4,_,h5⟩:=dd'
  refine d_write I (by rw [e]; exact True.intro) hs ⟨q,hq⟩ ⟨hl,hd,_,(rel.put k eb rv).keeps fun c ys ec=>?_,q,es,ep,hq,h2,h3,h4,h5⟩
  rw [upd_ne (ne_of ec e (fun z=>nomatch z))]
  exact ec
end
def sDPut (td ty tv:TE):TS:=fun D σ H=>tv σ H fun v H1=>td σ H1 fun x H2=>ty σ H2 fun y H3=>∃ a H4,x=.ref a/\DPut H3 a y v H4/\D.nx σ H4
section
variable {X:Cx} {o i value:Expr} {pos pos':Pos} {td ty tv:TE}
def ps_dput (hu:X.A.units + 1 < cLine) (ho:PE X o td) (hi:PE X i ty) (hv:PE X value tv) (hs:swapsWith value (some (.Subscript o i pos')) pos.line X.env=pure false) :
  PS X (.Assign [.Subscript o i pos'] value pos) (sDPut td ty tv):=by
 intro pins s σ H D I h
 refine wpAny_Assign_Subscript (thn (hv pins s σ H _ I h) fun r s1 ⟨v,H1,I1,rv,q1⟩=>thn (ho pins s1 σ H1 _ I1 q1) fun u s2 ⟨x,H2,I2,rx,q2⟩=>thn (hi pins s2 σ H2 _ I2 q2) fun iv s3 ⟨y,H3,I3,ry,a,H4,ex,g,q3⟩=>?_) hs
 subst ex
 obtain rfl:u=Value.ref a:=rx
 exact d_setItem hu I3 g ry rv fun s4 I4=>⟨σ,H4,I4,q3⟩
end
def dk_empty {P:Program} {w:World} {H:Hp} (h:Heap) (hb:sysModules < h.objs.size):ObjOk P w H (h.push { cls:=.type "dict",data:=.dict #[] }) h.objs.size (.dK []) :=
 ⟨Nat.zero_le _,beq_eq_false_iff_ne.mpr (Ne.symm (Nat.ne_of_lt hb)),[],.nil,Heap.DictOf.new h⟩
def dt_empty {P:Program} {w:World} {H:Hp} (h:Heap) (hb:sysModules < h.objs.size):ObjOk P w H (h.push { cls:=.type "dict",data:=.dict #[] }) h.objs.size (.dT []) :=
 ⟨Nat.zero_le _,beq_eq_false_iff_ne.mpr (Ne.symm (Nat.ne_of_lt hb)),[],.nil,_,#[],0,Heap.get?_push_size _ rfl,⟨rfl,rfl,rfl⟩,rfl,rfl,List.nodup_nil⟩
def tDNewT:TE:=fun _ H Q=>∀ p,H p=none->Q (.ref p) (upd H p (.dT []))
section
variable {X:Cx} {pos:Pos}
def pe_dnewT:PE X (.Dict [] [] pos) tDNewT:=fun pins s σ H Q I h =>
 wpAny_Dict_empty ⟨.ref s.heap.objs.size,_,I.laid (a:=s.heap.objs.size) (o:=.dT []) (t':=s.toks) (fun _ _ q=>Heap.get?_push_of_some _ q) (Nat.le_refl _) (dt_empty s.heap I.big),rfl,h _ (I.hok.fresh (Nat.le_refl _))⟩
end
structure M1 (X:Cx) (o:Expr) (m:Str) (apos:Pos) (e:Expr) (cpos:Pos):Prop where
 base:attributeBase o m X.env (eval o X.env)=eval o X.env
 few:((backTo cpos (starEach [e] X.env)).all (fun x=>!x.1) && (backToKw cpos (keywordEach [] X.env)).all (fun x=>x.1.isSome)
  && decide (([e]:List Expr).length + ([]:List Keyword).length + (if ([]:List Keyword).isEmpty then 0 else 1) < 30))=true
 line:(apos.endLine == cpos.line)=true
 trees:backTo cpos (starEach [e] X.env)=[(false,eval e X.env)]
structure M2 (X:Cx) (o:Expr) (m:Str) (apos:Pos) (e f:Expr) (cpos:Pos):Prop where
 base:attributeBase o m X.env (eval o X.env)=eval o X.env
 few:((backTo cpos (starEach [e,f] X.env)).all (fun x=>!x.1) && (backToKw cpos (keywordEach [] X.env)).all (fun x=>x.1.isSome)
  && decide (([e,f]:List Expr).length + ([]:List Keyword).length + (if ([]:List Keyword).isEmpty then 0 else 1) < 30))=true
 line:(apos.endLine == cpos.line)=true
 trees:backTo cpos (starEach [e,f] X.env)=[(false,eval e X.env),(false,eval f X.env)]
def IsD (H:Hp) (a:Addr):Prop:=(∃ kvs,Rd H a (.dK kvs))\/∃ kvs,Rd H a (.dT kvs)
def isD_at {X:Cx} {pins:List (Addr×Obj)} {σ:St} {H:Hp} {s:Shared} {a:Addr} (I:Inv X pins σ H s) (d:IsD H a) :
  s.TypeIs (.ref a) "dict"/\(∀ b,Value.ref a=.ref b->∃ ob,s.heap.get? b=some ob/\ob.dict=none)/\(a == sysModules)=false:=by
 rcases d with ⟨kvs,e⟩ | ⟨kvs,e⟩
 ·obtain ⟨_,hd,vs,_,dd⟩:=dk_rd I.hok e
  refine ⟨dd.typeIs,fun b q=>?_,hd⟩
  cases q
  obtain ⟨ob,_,_,h1,h2,_⟩:=dd
  exact ⟨ob,h1,h2.2.1⟩
 ·obtain ⟨_,hd,xs,_,dd⟩:=dt_rd I.hok e
  refine ⟨dd.typeIs,fun b q=>?_,hd⟩
  cases q
  obtain ⟨ob,_,_,h1,h2,_⟩:=dd
  exact ⟨ob,h1,h2.2.1⟩
section
variable {X:Cx} {pins:List (Addr×Obj)} {σ:St} {H:Hp} {s:Shared} {a:Addr} {y:V} {u:Value} {o:Option V} {A:Around} {E:Value->Shared->Prop}
def d_get1 {Q:Value->Shared->Prop} (hu:A.units + 1 < cLine) (I:Inv X pins σ H s) (g:DGet H a y o) (ry:RelV y u) (h:∀ w' s',Inv X pins σ H s'->RelV (o.getD .non) w'->Q w' s') :
  wpAny (model X.prog X.w) A (call (.builtin "dict.get") [.ref a,u]) Q E s:=by
 rcases g with ⟨kvs,k,e,ey,l⟩ | ⟨kvs,k,b,e,ey,eb,l⟩
 ·subst ey
  obtain ⟨z,hd,vs,rel,dd⟩:=dk_rd I.hok e
  refine call_meetsIn PySem.F.slot_dict_get dd.typeIs PySem.F.entry_dict_get (PySem.F.args_dict_get_2 _ _) (meets_dict_get (mixKind X.prog X.w) a (kV_is ry) hd) ⟨_,dd.mapOf,h _ _ (I.tok _) ?_⟩
  rw [l]
  exact (rel.val k).getD rfl
 ·subst ey
  cases (show u=Value.ref b from ry)
  obtain ⟨z,hd,xs,rel,dd⟩:=dt_rd I.hok e
  refine call_meetsIn PySem.F.slot_dict_get dd.typeIs PySem.F.entry_dict_get (PySem.F.args_dict_get_2 _ _) (meetsH_dict_get (tupleKind (mixKind X.prog X.w)) a b hd) ⟨tupleKind_room_in1 hu,k,xs,key_of I.hok eb,dd,h _ _ (I.tok _) ?_⟩
  rw [l]
  exact (rel.val k).getD rfl
end
def tDGet1 (td ty:TE):TE:=fun σ H Q=>td σ H fun x H1=>∃ a,x=.ref a/\IsD H1 a/\ty σ H1 fun y H2=>∃ o,DGet H2 a y o/\Q (o.getD .non) H2
section
variable {X:Cx} {o e:Expr} {apos cpos:Pos} {td ty:TE}
def pe_dget1 (hu:X.A.units + 1 < cLine) (ho:PE X o td) (he:PE X e ty) (m:M1 X o "get" apos e cpos):PE X (.Call (.Attribute o "get" apos) [e] [] cpos) (tDGet1 td ty):=by
 intro pins s σ H Q I h
 refine wpAny_Call_method m.base m.few m.line PySem.F.plainAttrs_dict PySem.F.slot_dict_get PySem.F.type_dict_get (thn (ho pins s σ H _ I h) fun u s1 ⟨x,H1,I1,rx,a,ex,d,q1⟩=>?_)
 subst ex
 obtain rfl:u=Value.ref a:=rx
 obtain ⟨t1,t2,_⟩:=isD_at I1 d
 refine ⟨t1,t2,?_⟩
 rw [m.trees]
 refine Calls.callWith_builtin rfl (Calls.evalArgs_plain (Calls.spliced_cons (thn (he pins s1 σ H1 _ I1 q1) fun iv s2 ⟨y,H2,I2,ry,ov,g,q2⟩=>Calls.spliced_nil ?_)))
 exact d_get1 hu I2 g ry fun w' s3 I3 rw'=>⟨_,H2,I3,rw',q2⟩
end
end L2
namespace Att
open PySem PySem.W PySem.Calls PyProof.Rows
theorem ints_of_wellAll {P:Params} {h:Heap}:∀ (ns:List Int) (vs:List Value),WellAll P h vs (ns.map WData.int)->IntsAre vs ns:=by
 intro ns
 induction ns with
 | nil =>
  intro vs w
  rw [List.map_nil] at w
  cases w
  exact .nil
 | cons n ns ih =>
  intro vs w
  rw [List.map_cons] at w
  cases w with
  | cons a b =>
   cases a
   exact .cons _ _ (ih _ b)
theorem script_of {l:OpenLaw} {n:Nat} (hn:l.most=some n) {P:Params} {h:Heap} {args:List WData} {vals:List Value}
  (hpre:l.row.toRowW.claim.pre args=true) (hwl:WellAll P h vals args) :
  ∃ a vs ns,vals=[Value.ref a]/\args=[WData.list (ns.map WData.int)]/\h.get? a=some { cls:=.type "list",data:=.seq vs.toArray }/\IntsAre vs ns/\ns.length<=n:=by
 have hsh:WShape.hasAll [] args [.list .int]=true:=(pre_splitW hpre).1
 have hc:l.pre.holds [] { args:=args }=true:=(pre_splitW hpre).2
 obtain ⟨d,r,rfl,h1,h2⟩:=hasAllW_cons hsh
 obtain rfl:=hasAllW_nil h2
 obtain ⟨xs,rfl,h3⟩:=hasW_list h1
 obtain ⟨ns,rfl⟩:=items_int h3
 have hlen:ns.length<=n:=by
  unfold OpenLaw.pre at hc
  have h4:(WTm.not (.lt (.lit (.int (n:Int))) (.len (.arg 0)))).holds [] { args:=[.list (ns.map .int)] }=true:=by
   have h4:=(holds_andW hc).1
   rw [hn] at h4
   exact h4
  have h5:=condW_of h4 (w_not (w_lt w_lit (w_len_list (w_arg rfl))))
  rw [List.length_map] at h5
  refine Nat.le_of_not_lt fun q=>?_
  have q':(n:Int) < ((ns.length:Nat):Int):=by omega
  first
   | (rw [decide_eq_true q'] at h5; exact absurd h5 (by decide))
   | (simp at h5; omega)
 cases hwl with
 | cons w1 w2 =>
  cases w2
  cases w1 with
  | list ho hall=>exact ⟨_,_,ns,rfl,rfl,ho,ints_of_wellAll ns _ hall,hlen⟩
def post_true (l:OpenLaw) (args:List WData):l.row.toRowW.claim.post args (.bool true) args=true :=
 postW_of (r:=l.row.toRowW) (X:=(true == true))
  (show WShape.has [] (.bool true) .bool=true by first | rfl | decide | simp [WShape.has,WShape.arms,WShape.armsAll])
  (show (WTm.eq .res (.lit (.bool true))).value [] { args:=args,res:=some (.bool true),after:=args }=some (.bool (true == true)) from w_eq_bool (w_res rfl) w_lit) rfl
def attach_call {l:OpenLaw} {n:Nat} {q:Program} {loose:List Str} {XP:(Str->Option Value)->Heap->Prop} {YP:World->Heap->Prop} {d:DefRec}
  (hn:l.most=some n) (hdf:d.params.defaults=[])
  (call:∀ (w:World) (s₀ s₁:Shared) (mg mb:Str->Option Value) (fa:Addr) (o:Obj) (pm cd doc:Value) (a:Addr) (vs:List Value) (ns:List Int),
   Ground q loose [] XP w s₀ mg mb s₁.heap->YP w s₁.heap ->
   s₁.heap.get? fa=some o->o.data=.func (docDef d.name d.params d.body d.scope pm cd doc)->s₁.heap.CodeRec cd d.name->mg d.name=some (.ref fa) ->
   s₁.heap.get? a=some { cls:=.type "list",data:=.seq vs.toArray }->IntsAre vs ns->ns.length<=n->s₁.gens=#[] ->
   codeAny (model l.prog w) callerA (.call (.ref fa) ⟨[.ref a],[]⟩) (fun r s'=>r=.ok (.ret (.bool true))/\OldK s₁.heap s'.heap/\s'.os=s₁.os/\AllBare s'.gens) s₁) :
  WalkO q loose XP YP l.row.toRowW d [] (fun f vs=>PySem.call f vs):=by
 intro w s₀ s₁ mg mb G Y fa o pm cd doc dV kV ho hd hcd hD hmg hg args vals as hpre hlay hrd hwl hlo
 obtain rfl:dV=.none:=Dflts.none hD hdf
 obtain rfl:kV=.none:=Dflts.noKw hD
 obtain ⟨a,vs,ns,rfl,rfl,hobj,hints,hlen⟩:=script_of hn hpre hwl
 refine enter_call (codeAny_mono (call w s₀ s₁ mg mb fa o pm cd doc a vs ns G Y ho (fd_plain hd) hcd hmg hobj hints hlen hg) fun r s' hq=>?_)
 obtain ⟨rfl,h2,h3,h4⟩:=hq
 exact ⟨.inl ⟨.bool true,.bool true,[],rfl,fun _=>rfl,.bool true,post_true l _,fun _=>⟨List.Pairwise.nil,fun _ hm=>(nomatch hm)⟩⟩,h2,h3,h4⟩
end Att
namespace L2
open PySem PySem.Spec PyProof.Rows
theorem vals_ints:∀ {vs:List Value} {ns:List Int},IntsAre vs ns->Vals (ns.map V.int) vs
 | _,_,.nil=>.nil
 | _,_,.cons n t h=>.cons ⟨t,rfl⟩ (vals_ints h)
def inClass (s:Stmt) (j:Nat):Stmt:=match s with
 | .ClassDef _ _ _ body _ _ _ _ _ _ _=>body.getD j (.Pass ⟨0,0,0,0⟩)
 | _=>.Pass ⟨0,0,0,0⟩
def defArgs (s:Stmt):Arguments:=match s with
 | .FunctionDef _ a _ _ _ _ _ _ _ _=>a
 | _=>{ posonlyargs:=[],args:=[],vararg:=none,kwonlyargs:=[],kw_defaults:=[],kwarg:=none,defaults:=[] }
def defBody (s:Stmt):List Stmt:=match s with
 | .FunctionDef _ _ b _ _ _ _ _ _ _=>b
 | _=>[]
def defScope (s:Stmt):Scope:=match s with
 | .FunctionDef _ _ _ _ _ _ sc _ _ _=>sc
 | _=>{ kind:=.function,names:=[],isGenerator:=false,isCoroutine:=false }
abbrev CX0:CXT:=fun _ _ _ _ _ _=>False
abbrev E0:XK:=fun _ _ _=>False
def pass0 {X:Cx}:Passes CX0 X E0:=fun _ _ _ _ _ _ _ h=>h.elim
structure Fun (K:W.Frag) (x qual:Str) (st:Stmt) (f:Addr) (fd:FuncData):Prop where
 ex:∃ (oc:Value) (od:Option Addr) (kV doc pm:Value) (an:Option Addr) (cdv ct:Value) (osl:Array (Option Value)),
  fd=W.fnOf x qual (defArgs st) (defBody st) (defScope st) .none kV doc pm an cdv ct/\K.lookup f=some ⟨oc,od,.func fd,osl⟩/\W.codeIn K cdv qual=true
 kp:W.keepIn K (.ref f)=true
section
variable {P:Program} {w:World} {K:W.Frag} {mg:Str->Option Value} {base:Heap}
def Fun.ok {x qual:Str} {st:Stmt} {f:Addr} {fd:FuncData} {N ps:List Str} {k:Nat} {sp:Sp} (F:Fun K x qual st f fd) (S:FnScope N ps (defScope st)) (len:∀ vs H Q E,sp vs H Q E->vs.length=ps.length)
  (hbody:∀ (cdv:Value) (A:Around) (outer:List Env) (s:Shared) (H:Hp) (vs:List V) (Q:VK) (E:XK),Room k (A.deeper (envOfC qual (defScope st) s.heap.objs.size f cdv))->sp vs H Q E ->
   ∃ t,PSs (cxOf CX0 P w K mg base N qual (defScope st) f cdv A outer s H E).nox (defBody st) t/\t { nx:=fun _ H'=>Q .non H',rt:=Q } (start N vs) H):FnOk P w K mg base CX0 (k + 1) f fd ps sp:=by
 obtain ⟨oc,od,kV,doc,pm,an,cdv,ct,osl,rfl,lk,hcd⟩:=F.ex
 refine fn_of lk hcd S len fun A outer s H vs Q E hr hsp=>?_
 obtain ⟨t,h,q⟩:=hbody cdv A outer s H vs Q E hr hsp
 exact ⟨t,h.nox,q⟩
def Fun.binds {x qual:Str} {st:Stmt} {f:Addr} {fd:FuncData} {ps:List Str} (F:Fun K x qual st f fd)
  (h:∀ (kV doc pm:Value) (an:Option Addr) (cdv ct:Value) (us:List Value),us.length=ps.length->bindArgs (W.fnOf x qual (defArgs st) (defBody st) (defScope st) .none kV doc pm an cdv ct) ⟨us,[]⟩=pure (ps.zip us)):Binds K fd ps []:=by
 obtain ⟨oc,od,kV,doc,pm,an,cdv,ct,osl,rfl,lk,hcd⟩:=F.ex
 exact .all (h kV doc pm an cdv ct)
def fun_mk {x qual:Str} {st:Stmt} {f:Addr} {oc:Value} {od an:Option Addr} {osl:Array (Option Value)} {kV doc pm cdv ct:Value} (l:K.lookup f=some ⟨oc,od,.func (W.fnOf x qual (defArgs st) (defBody st) (defScope st) .none kV doc pm an cdv ct),osl⟩)
  (c:W.codeIn K cdv qual=true) (k:W.keepIn K (.ref f)=true):Fun K x qual st f (W.fnOf x qual (defArgs st) (defBody st) (defScope st) .none kV doc pm an cdv ct):=⟨⟨oc,od,kV,doc,pm,an,cdv,ct,osl,rfl,l,c⟩,k⟩
end
def hu_of {A:Around} {k:Nat} (hr:Room k A):A.units + 1 < cLine:=Nat.lt_of_le_of_lt (Nat.add_le_add_left (by decide:1<=64) _) hr.units
section
variable {X:Cx}
def pv (i:Nat) {x:Str} {pos:Pos} (hN:X.N[i]?=some x:=by rfl) (hv:Vis X.env.scope x:=by first | exact Or.inl rfl | exact Or.inr (Or.inl rfl) | exact Or.inr (Or.inr rfl)) (hd:(x == ("__debug__":Str))=false:=by decide)
  (hcd:(x == ("__classdict__":Str))=false:=by decide):PE X (.Name x pos) (tVar i):=pe_var hN hv hd hcd
end
def iteF {A B:Prop} (h:B):if false=true then A else B:=by
 rw [if_neg Bool.false_ne_true]
 exact h
def iteT {A B:Prop} (h:A):if true=true then A else B:=by
 rw [if_pos rfl]
 exact h
def ite2 {c A B:Prop} [Decidable c] (h1:c->A) (h2:¬ c->B):if c then A else B:=by
 by_cases h:c
 ·rw [if_pos h]
  exact h1 h
 ·rw [if_neg h]
  exact h2 h
def iteNS {c A B:Prop} [Decidable c] (hc:c) (h:B):if (!decide c)=true then A else B:=by
 rw [decide_eq_true hc]
 exact iteF h
def Same (H H':Hp):Prop:=∀ b o,H b=some o->H' b=some o
def Same.refl (H:Hp):Same H H:=fun _ _ h=>h
def Same.trans {H H1 H2:Hp} (a:Same H H1) (b:Same H1 H2):Same H H2:=fun c o h=>b c o (a c o h)
theorem Same.free {H H':Hp} (e:Same H H') {l:Addr} (h:H' l=Option.none):H l=Option.none:=by
 cases q:H l with
 | none=>rfl
 | some o =>
  rw [e l o q] at h
  cases h
def Same.seq {K:W.Frag} {H H':Hp} {a:Addr} {xs:List V} (e:Same H H') (h:SqL K H a xs):SqL K H' a xs:=by
 rcases h with (h | ⟨o,h⟩) | h
 ·exact .inl (.inl (e _ _ h))
 ·exact .inl (.inr ⟨o,e _ _ h⟩)
 ·exact .inr h
end L2
namespace L2
open PySem
def cloAcc (cells:List (Str×Addr)):List (Str×NameKind)->List (Str×Addr)->List (Str×Addr)
 | [],acc=>acc
 | (n,k)::r,acc=>if k == .free then cloAcc cells r ((n,(cells.lookup n).getD 0)::acc) else cloAcc cells r acc
def cloLoop (env:Env) (l:List (Str×NameKind)) (acc:List (Str×Addr)):Sem (List (Str×Addr)):=do
 let mut cs:=acc
 for (name,kind) in l do
  if kind == .free then cs:=(name,<- cellOf env name)::cs
 return cs
theorem cloLoop_is {env:Env}:∀ (l:List (Str×NameKind)) (acc:List (Str×Addr)),(∀ y∈l,y.2=.free->∃ c,env.cells.lookup y.1=some c) ->
  cloLoop env l acc=pure (cloAcc env.cells l acc)
 | [],acc,_=>rfl
 | (n,k)::r,acc,h=>by
  have ih:=fun acc=>cloLoop_is r acc fun y hy=>h y (List.mem_cons_of_mem _ hy)
  unfold cloLoop at ih ⊢
  rw [cloAcc]
  cases hk:(k == NameKind.free) with
  | false =>
   simp only [List.forIn_cons,hk,Bool.false_eq_true,if_false,pure_bind] at ih ⊢
   exact ih acc
  | true =>
   obtain ⟨c,hc⟩:=h (n,k) List.mem_cons_self (by simpa using hk)
   have hc':env.cells.lookup n=some c:=hc
   simp only [List.forIn_cons,hk,if_true,cellOf,hc',pure_bind,Option.getD_some] at ih ⊢
   exact ih _
def closure_is {scope:Scope} {env:Env} (h:∀ y∈scope.names,y.2=.free->∃ c,env.cells.lookup y.1=some c):closureFor scope env=pure (cloAcc env.cells scope.names []) :=
 cloLoop_is scope.names [] h
theorem cloAcc_from {cells:List (Str×Addr)} {x:Str} {c:Addr}:∀ {l:List (Str×NameKind)} {acc:List (Str×Addr)},(∀ y∈l,y.2=.free->∃ c,cells.lookup y.1=some c) ->
  (cloAcc cells l acc).lookup x=some c->acc.lookup x=some c\/cells.lookup x=some c
 | [],acc,_,h=>.inl h
 | (n,k)::r,acc,hl,h=>by
  rw [cloAcc] at h
  by_cases hk:(k == NameKind.free)=true
  ·rw [if_pos hk] at h
   obtain ⟨c',hc⟩:=hl (n,k) List.mem_cons_self (by simpa using hk)
   have hc':cells.lookup n=some c':=hc
   rcases cloAcc_from (fun y hy=>hl y (List.mem_cons_of_mem _ hy)) h with z | z
   ·rw [List.lookup_cons,hc'] at z
    cases hx:(x == n) with
    | true =>
     rw [hx] at z
     have e:x=n:=by simpa using hx
     subst e
     have z':c'=c:=by simpa using z
     subst z'
     exact .inr hc'
    | false=>rw [hx] at z; exact .inl z
   ·exact .inr z
  ·rw [if_neg hk] at h
   exact cloAcc_from (fun y hy=>hl y (List.mem_cons_of_mem _ hy)) h
theorem cloAcc_keeps {cells:List (Str×Addr)} {x:Str}:∀ {l:List (Str×NameKind)} {acc:List (Str×Addr)},(∃ c,acc.lookup x=some c)->∃ c,(cloAcc cells l acc).lookup x=some c
 | [],acc,h=>h
 | (n,k)::r,acc,h=>by
  rw [cloAcc]
  by_cases hk:(k == NameKind.free)=true
  ·rw [if_pos hk]
   refine cloAcc_keeps ?_
   rw [List.lookup_cons]
   cases hx:(x == n) with
   | true=>exact ⟨_,rfl⟩
   | false=>exact h
  ·rw [if_neg hk]
   exact cloAcc_keeps h
theorem cloAcc_has {cells:List (Str×Addr)} {x:Str}:∀ {l:List (Str×NameKind)} {acc:List (Str×Addr)},(x,NameKind.free)∈l->∃ c,(cloAcc cells l acc).lookup x=some c
 | [],acc,h=>nomatch h
 | (n,k)::r,acc,h=>by
  rw [cloAcc]
  rcases List.mem_cons.mp h with e | h
  ·cases e
   rw [if_pos (by rfl)]
   refine cloAcc_keeps ?_
   rw [List.lookup_cons,beq_self_eq_true]
   exact ⟨_,rfl⟩
  ·by_cases hk:(k == NameKind.free)=true
   ·rw [if_pos hk]; exact cloAcc_has h
   ·rw [if_neg hk]; exact cloAcc_has h
def relabel_seen {scope:Scope} {env:Env} (nc:∀ y∈scope.names,y.2≠.cell) {x:Str} (h:(relabel scope env).names.lookup x=some .cell\/(relabel scope env).names.lookup x=some .free):(x,NameKind.free)∈scope.names:=by
  have go:∀ (l:List (Str×NameKind)),(∀ y∈l,y.2≠.cell) ->
      ((l.map fun (n,k)=>if (k == NameKind.free && env.scope.kind == .function && env.kindOf n == some .cell) then (n,NameKind.cell) else (n,k)).lookup x=some .cell \/
       (l.map fun (n,k)=>if (k == NameKind.free && env.scope.kind == .function && env.kindOf n == some .cell) then (n,NameKind.cell) else (n,k)).lookup x=some .free)->(x,NameKind.free)∈l:=by
    intro l
    induction l with
    | nil=>intro _ h; rcases h with h | h <;> cases h
    | cons a r ih =>
      obtain ⟨n,k⟩:=a
      intro nc h
      have nck:k≠.cell:=nc (n,k) List.mem_cons_self
      simp only [List.map_cons] at h
      by_cases hx:(x == n)=true
      · have e:x=n:=by simpa using hx
        subst e
        by_cases hk:k=.free
        · subst hk; exact List.mem_cons_self
        · have hb:(k == NameKind.free)=false:=by simpa using hk
          simp only [hb,Bool.false_and,Bool.false_eq_true,if_false,List.lookup_cons,beq_self_eq_true] at h
          rcases h with h | h
          · exact absurd (Option.some.inj h) nck
          · exact absurd (Option.some.inj h) hk
      · have hx':(x == n)=false:=by simpa using hx
        refine List.mem_cons_of_mem _ (ih (fun y hy=>nc y (List.mem_cons_of_mem _ hy)) ?_)
        have el:∀ (p:Str×NameKind) (t:List (Str×NameKind)),p.1=n->(p::t).lookup x=t.lookup x:=by
          intro p t e
          obtain ⟨a,b⟩:=p
          have e':a=n:=e
          subst e'
          rw [List.lookup_cons,hx']
        rw [el _ _ (by split <;> rfl)] at h
        exact h
  exact go scope.names nc h
def relabel_local {scope:Scope} {env:Env} {x:Str} (h:(relabel scope env).names.lookup x=some .local):scope.names.lookup x=some .local:=by
 have go:∀ (l:List (Str×NameKind)),
   (l.map fun (n,k)=>if (k == NameKind.free && env.scope.kind == .function && env.kindOf n == some .cell) then (n,NameKind.cell) else (n,k)).lookup x=some .local->l.lookup x=some .local:=by
  intro l
  induction l with
  | nil=>intro h; cases h
  | cons a r ih =>
   obtain ⟨n,k⟩:=a
   intro h
   simp only [List.map_cons] at h
   by_cases hx:(x == n)=true
   ·have e:x=n:=by simpa using hx
    subst e
    by_cases hc:(k == NameKind.free && env.scope.kind == .function && env.kindOf x == some .cell)=true
    ·rw [if_pos hc,List.lookup_cons,beq_self_eq_true] at h
     cases h
    ·rw [if_neg hc,List.lookup_cons,beq_self_eq_true] at h
     rw [List.lookup_cons,beq_self_eq_true]
     exact h
   ·have hx':(x == n)=false:=by simpa using hx
    have el:∀ (p:Str×NameKind) (t:List (Str×NameKind)),p.1=n->(p::t).lookup x=t.lookup x:=by
     intro p t e
     obtain ⟨a,b⟩:=p
     have e':a=n:=e
     subst e'
     rw [List.lookup_cons,hx']
    rw [el _ _ (by split <;> rfl)] at h
    rw [el _ _ rfl]
    exact ih h
 exact go scope.names h
end L2
namespace L2
open PySem PySem.Spec PyProof.Rows
def nbOf (N T:List Str) (cs:List Nat):List Str:=T++cs.map fun i=>N.getD i Str.empty
def sgOf (σ:St) (T:List Str) (cs:List Nat):St:=T.map (fun _=>none)++cs.map fun i=>σ.getD i none
structure CScope (outer scope:Scope) (N T:List Str) (cs:List Nat):Prop where
 kind:scope.kind=.function
 nocell:∀ y∈scope.names,y.2≠.cell
 names:∀ y∈scope.names,y.2=.local->scope.names.lookup y.1=some .local
 free:∀ y∈scope.names,y.2=.free->outer.names.lookup y.1=some .cell\/outer.names.lookup y.1=some .free
 cap:∀ i∈cs,scope.names.lookup (N.getD i Str.empty)≠some .local
def cscopeB (outer scope:Scope) (N:List Str) (cs:List Nat):Bool :=
 decide (scope.kind=.function) && (scope.names.all (fun y=>!decide (y.2=NameKind.cell)) && (scope.names.all (fun y=>!decide (y.2=NameKind.local) || decide (scope.names.lookup y.1=some NameKind.local)) &&
  (scope.names.all (fun y=>!decide (y.2=NameKind.free) || (decide (outer.names.lookup y.1=some NameKind.cell) || decide (outer.names.lookup y.1=some NameKind.free))) && cs.all (fun i=>!decide (scope.names.lookup (N.getD i Str.empty)=some NameKind.local)))))
def CScope.ok {outer scope:Scope} {N T:List Str} {cs:List Nat} (h:cscopeB outer scope N cs=true):CScope outer scope N T cs:=by
 unfold cscopeB at h
 simp only [Bool.and_eq_true,List.all_eq_true,Bool.or_eq_true,decide_eq_true_eq,Bool.not_eq_true',decide_eq_false_iff_not] at h
 obtain ⟨h1,h2,h3,h4,h5⟩:=h
 exact ⟨h1,h2,fun y hy e=>(h3 y hy).resolve_left (fun q=>q e),fun y hy e=>(h4 y hy).resolve_left (fun q=>q e),h5⟩
def nd_of {l:List Str} (h:decide l.Nodup=true):l.Nodup:=of_decide_eq_true h
def blk (X:Cx) (T:List Str) (cs:List Nat) (scope:Scope) (C:Addr) (s₀:Shared) (H₀:Hp) (ex:List Addr):Cx where
 prog:=X.prog
 w:=X.w
 K:=X.K
 mg:=X.mg
 base:=X.base
 A:=X.A
 N:=nbOf X.N T cs
 s₀:=s₀
 H₀:=H₀
 env:=compEnvC scope (cloAcc X.env.cells scope.names []) C X.env
 outer:=X.stack
 stack:=X.stack
 ex:=ex
 fn:=fun _=>false
 calm:=X.calm
 pn:=[]
 xe:=fun _ _=>False
section
variable {X:Cx} {pins:List (Addr×Obj)} {σ:St} {H:Hp} {s:Shared} {scope:Scope} {T:List Str} {cs:List Nat} {fp:List Addr}
def Inv.hl (I:Inv X pins σ H s) (S:CScope X.env.scope scope X.N T cs):∀ y∈scope.names,y.2=.free->∃ c,X.env.cells.lookup y.1=some c :=
 fun y hy e=>I.ok.has y.1 (S.free y hy e)
def Inv.clo (I:Inv X pins σ H s) (S:CScope X.env.scope scope X.N T cs) {x:Str} {c:Addr} (h:(cloAcc X.env.cells scope.names []).lookup x=some c):X.env.cells.lookup x=some c :=
 (cloAcc_from (I.hl S) h).resolve_left (by simp)
theorem inv_blk (I:Inv X pins σ H s) (S:CScope X.env.scope scope X.N T cs) (hf:∀ b∈fp,FpOk X pins H b) (hfe:∀ b∈fp,∃ o,s.heap.get? b=some o) {C:Addr} {h1:Heap} {m:Str->Option Value} {tk:Nat}
  (hC:s.heap.objs.size<=C) (ns:h1.Ns C m) (k:∀ b o,s.heap.get? b=some o->h1.get? b=some o) :
  Inv (blk X T cs scope C s H fp) [] (sgOf σ T cs) H { s with heap:=h1,toks:=tk }:=by
 have fr:H C=none:=I.hok.fresh hC
 have cellS:∀ {c:Addr} {v:Option Value},s.heap.IsCell c v->h1.IsCell c v:=fun ⟨o,e,d⟩=>⟨o,k _ o e,d⟩
 refine ⟨⟨I.ok.mod,S.kind,I.ok.glob,I.ok.blt,hC,fun x y c e1 e2=>I.ok.inj x y c (I.clo S e1) (I.clo S e2),fun x hx=>cloAcc_has (relabel_seen S.nocell hx),fun x c h _=>absurd (show false=true from h) Bool.false_ne_true,
  I.ok.hd,I.ok.frames,.inl rfl,fun b hb=>⟨?_,fun x c e=>(hf b hb).2.2.2.2.1 x c (I.clo S e)⟩,I.bs,Nat.le_trans I.ok.bsz I.sz,fun b o e hb=>?_,fun b hb z=>?_,I.stack,I.stkFree⟩,
  rfl,I.bare,Un.kept k,⟨m,ns,fun i x v h1' h2' h3'=>?_⟩,fun x c e=>?_,fr,fun x c e=>I.freeC x c (I.clo S e),fun p hp=>absurd (show p∈([]:List (Addr×Obj)) from hp) (by simp),I.hok.kept k,?_⟩
 ·obtain ⟨o,e⟩:=hfe b hb
  exact Nat.ne_of_lt (Nat.lt_of_lt_of_le (Heap.lt_size e) hC)
 ·rcases (hf b hb).2.2.2.1 with z | z
  ·exact I.ok.noex b o e z
  ·exact absurd (Nat.lt_of_lt_of_le (Nat.lt_of_lt_of_le (Heap.lt_size e) I.ok.bsz) z) (Nat.lt_irrefl _)
 ·rcases List.mem_cons.mp (I.stkSub b z) with e | e
  ·exact (hf b hb).2.1 e
  ·exact (hf b hb).2.2.1 e
 ·have h2:(sgOf σ T cs)[i]?=some (some v):=h2'
  have h1'':(nbOf X.N T cs)[i]?=some x:=h1'
  unfold sgOf at h2
  unfold nbOf at h1''
  by_cases hi:i < T.length
  ·rw [List.getElem?_append_left (by simpa using hi),List.getElem?_map] at h2
   cases e:T[i]? with
   | none=>rw [e] at h2; cases h2
   | some a=>rw [e] at h2; cases h2
  ·rw [List.getElem?_append_right (by simpa using hi),List.getElem?_map,List.length_map] at h2
   rw [List.getElem?_append_right (by omega),List.getElem?_map] at h1''
   cases e:cs[i - T.length]? with
   | none=>rw [e] at h2; cases h2
   | some c0 =>
    rw [e] at h2 h1''
    have ex:X.N.getD c0 Str.empty=x:=Option.some.inj h1''
    have ev:σ.getD c0 none=some v:=Option.some.inj h2
    have eσ:σ[c0]?=some (some v):=by
     rw [List.getD_eq_getElem?_getD] at ev
     cases q:σ[c0]? with
     | none=>rw [q] at ev; cases ev
     | some z=>rw [q] at ev; exact congrArg some ev
    have hlt:c0 < X.N.length:=by
     have:=(List.getElem?_eq_some_iff.mp eσ).1
     rw [I.len] at this
     exact this
    have eN:X.N[c0]?=some x:=by
     rw [List.getD_eq_getElem?_getD,List.getElem?_eq_getElem hlt] at ex
     rw [List.getElem?_eq_getElem hlt]
     exact congrArg some ex
    have hfree:(x,NameKind.free)∈scope.names:=by
     rcases h3' with z | z | z
     ·exact absurd (relabel_local z) (by rw [<- ex]; exact S.cap c0 (List.mem_of_getElem? e))
     ·exact relabel_seen S.nocell (.inl z)
     ·exact relabel_seen S.nocell (.inr z)
    have ok:=S.free _ hfree rfl
    obtain ⟨m',hn',hl'⟩:=I.loc
    obtain ⟨u,r,l⟩:=hl' c0 x v eN eσ (.inr ok)
    refine ⟨u,r,?_⟩
    rcases l with ⟨kd,_⟩ | ⟨_,c,ec,z⟩
    ·have kd':X.env.scope.names.lookup x=some .local:=kd
     rcases ok with q | q <;> (rw [show X.env.scope.names.lookup x=_ from q] at kd'; cases kd')
    ·obtain ⟨c',ec'⟩:=cloAcc_has (cells:=X.env.cells) (acc:=[]) hfree
     have:c'=c:=by
      have q:=I.clo S ec'
      rw [ec] at q
      exact (Option.some.inj q).symm
     subst this
     refine .inr ⟨?_,c',ec',cellS z⟩
     rcases h3' with q | q | q
     ·exact absurd (relabel_local q) (by rw [<- ex]; exact S.cap c0 (List.mem_of_getElem? e))
     ·exact .inl q
     ·exact .inr q
 ·obtain ⟨v,z⟩:=I.cell x c (I.clo S e)
  exact ⟨v,cellS z⟩
 ·show (sgOf σ T cs).length=(nbOf X.N T cs).length
  simp [sgOf,nbOf]
def Inv.track {D:Addr} {its:List Value} {n:Nat} {ys:List V} (I:Inv X pins σ H s) (hD:s.heap.get? D=some { cls:=.type "list",data:=.seq its.toArray n }) (f:FpOk X pins H D) (rv:Vals ys its) (hz:ys.length<=sizeLine) :
  Inv X pins σ (upd H D (.lst ys)) s:=by
 obtain ⟨f0,f1,f2,f3,f4,f5⟩:=f
 have hok:HOk X.prog X.w (upd H D (.lst ys)) s.heap:=fun b u e=>by
  by_cases hb:b=D
  ·subst hb
   rw [upd_same] at e
   cases e
   exact ⟨hz,its,n,rv,hD⟩
  ·rw [upd_ne hb] at e
   exact (I.hok b u e).stay (fun _ _ _ q=>q) (fun c q=>by rw [upd_ne (ne_of_none q f0)]; exact q) fun c xs q=>by rw [upd_ne (ne_of_none q f0)]; exact q
 have st:=I.step (H':=upd H D (.lst ys)) (h':=s.heap) (g':=s.gens) (t':=s.toks) (d':=s.drawn) (ch:=[D])
  (fun b hb=>by
   have e:b=D:=by simpa using hb
   subst e
   exact ⟨f3,f1,f4,f5⟩)
  (fun b o _ _ _ e _=>e) (fun b o _ _ _ e _=>⟨o.slots,e⟩) (fun b o hc e n=>by rw [upd_ne (fun z=>hc (by simp [z]))]; exact n) (fun b o _ e=>⟨o,e⟩)
  (fun b xs e=>by rw [upd_ne (ne_of_none e f0)]; exact e) (fun b o u e=>by rw [upd_ne (ne_of_none e f0)]; exact e) (fun b ps e=>⟨#[],by rw [upd_ne (ne_of_none e f0),e]; simp⟩) (fun m h=>h) hok I.bare
 exact st
end
section
variable {prog:Program} {w:World} {A:Around} {R:Result->Shared->Prop} {s:Shared}
abbrev tstTree (ifs:List Expr) (env:Env):Sem Bool:=forIn ifs true fun c r=>if r=true then do let ok <- isTrue c env (eval c env); pure (ForInStep.yield ok) else pure (ForInStep.yield r)
theorem compLoop_gen {elt target iter:Expr} {ifs:List Expr} {scope:Scope} {pos:Pos} {it acc:Value} {env:Env} (I:Nat->Shared->Prop)
  (turn:∀ n s,I n s->wpAny (model prog w) A (pyNext it) (fun r s₁=>match r with
   | none=>R (.ok .next) s₁
   | some v=>wpAny (model prog w) A (letOwnedTupleGo target it v) (fun _ s₂=>wpAny (model prog w) A (assign target env v) (fun _ s₃ =>
     wpAny (model prog w) A (tstTree ifs env) (fun ok s₄ =>
      if ok=true then wpAny (model prog w) A (eval elt env) (fun x s₅ =>
       wpAny (model prog w) A (call (.builtin "list.append") [acc,x]) (fun _ s₆=>∃ m,m < n/\I m s₆) (fun _ _=>False) s₅) (fun _ _=>False) s₄
      else ∃ m,m < n/\I m s₄) (fun _ _=>False) s₃) (fun _ _=>False) s₂) (fun _ _=>False) s₁) (fun _ _=>False) s)
  (n:Nat) (h:I n s) :
  codeAny (model prog w) A (.compLoop (.ListComp elt [⟨target,iter,ifs,0⟩] scope pos) 0 it acc env) R s:=by
 refine codeAny_loop rfl I (fun n s hI=>?_) n h
 show wpAny _ A ((compTurn (.ListComp elt [⟨target,iter,ifs,0⟩] scope pos) 0 it acc env).onRaise (fun x=>do noteFrame x env; theTreesLotGoes x)) _ _ s
 refine wpAny_noted ?_
 rw [compTurn_list]
 refine wpAny_bind (wpAny_standAt (wpAny_bind (wpAny_mono (turn n s hI) (fun r s₁ h₁=>?_) fun _ _ h'=>False.elim h')))
 cases r with
 | none=>exact wpAny_pure h₁
 | some v =>
  refine wpAny_bind (wpAny_mono h₁ (fun _ s₂ h₂=>?_) fun _ _ h'=>False.elim h')
  refine wpAny_bind (wpAny_mono h₂ (fun _ s₃ h₃=>wpAny_bind (wpAny_mono h₃ (fun ok s₄ h₄=>?_) fun _ _ h'=>False.elim h')) fun _ _ h'=>False.elim h')
  cases ok with
  | false=>exact wpAny_pure ⟨rfl,h₄⟩
  | true =>
   exact wpAny_bind (wpAny_bind (wpAny_mono h₄ (fun x s₅ h₅=>wpAny_bind (wpAny_mono h₅ (fun _ s₆ h₆=>wpAny_pure (wpAny_pure ⟨rfl,h₆⟩)) fun _ _ h'=>False.elim h')) fun _ _ h'=>False.elim h'))
end
def PTs (X:Cx) (ifs:List Expr) (t:TT):Prop :=
 ∀ (pins:List (Addr×Obj)) (s:Shared) (σ:St) (H:Hp) (Q:Bool->Hp->Prop),Inv X pins σ H s->t σ H Q->wpAny (model X.prog X.w) X.A (tstTree ifs X.env) (TP X pins σ Q) X.xe s
def tTrue:TT:=fun _ H Q=>Q true H
def pts_nil {X:Cx}:PTs X [] tTrue:=fun pins s σ H Q I h=>wpAny_tests_nil ⟨H,I,h⟩
def pts_one {X:Cx} {c:Expr} {t:TT} (hc:PT X c t):PTs X [c] t:=fun pins s σ H Q I h=>wpAny_tests_one (hc pins s σ H Q I h)
def Ag (n:Nat) (σ σ0:St):Prop:=σ.length=σ0.length/\∀ i,n<=i->σ[i]?=σ0[i]?
def GKeeps (g:TG) (n:Nat):Prop:=∀ σ0 x σ H R,Ag n σ σ0->g x σ H R->g x σ H fun σ2 H2=>R σ2 H2/\Ag n σ2 σ0
def GsKeeps (g:TGs) (n:Nat):Prop:=∀ σ0 xs σ H R,Ag n σ σ0->g xs σ H R->g xs σ H fun σ2 H2=>R σ2 H2/\Ag n σ2 σ0
theorem Ag.set {n i:Nat} {σ σ0:St} (a:Ag n σ σ0) (h:i < n) (v:Option V):Ag n (σ.set i v) σ0 :=
 ⟨by rw [List.length_set]; exact a.1,fun j hj=>(List.getElem?_set_ne (by omega)).trans (a.2 j hj)⟩
def gk_name {i n:Nat} (h:i < n):GKeeps (gName i) n:=fun σ0 x σ H R a q=>⟨q,a.set h _⟩
def gks_nil {n:Nat}:GsKeeps gNil n:=fun σ0 xs σ H R a q=>⟨q.1,q.2,a⟩
def gks_cons {i n:Nat} {u:TGs} (h:i < n) (h2:GsKeeps u n):GsKeeps (gCons (gName i) u) n:=fun σ0 xs σ H R a q=>by
 obtain ⟨v,r,e,q⟩:=q
 exact ⟨v,r,e,h2 σ0 r _ _ _ (a.set h _) q⟩
def gk_tup {K:W.Frag} {m n:Nat} {t:TGs} (h:GsKeeps t n):GKeeps (gTup K m t) n:=fun σ0 x σ H R ag q=>by
 obtain ⟨a,xs,e,hq,hl,q⟩:=q
 exact ⟨a,xs,e,hq,hl,h σ0 xs σ H R ag q⟩
section
variable {X:Cx} {scope:Scope} {T:List Str} {cs:List Nat} {elt tg iter:Expr} {ifs:List Expr} {g:TG} {tt:TT} {te:TE} {pos:Pos}
theorem comp_core {RR:Value->Addr->Result->Shared->Prop} {E:Value->Shared->Prop} {Fin:List V->Hp->Prop} {pins:List (Addr×Obj)} {σ:St} {H:Hp} {s:Shared} {J:It} {fp:List Addr} {it:Addr} {tn:Nat->Heap->Prop}
  (I:Inv X pins σ H s) (hc:X.calm=true) (S:CScope X.env.scope scope X.N T cs) (Tn:Turn X.prog X.w X.K tg J fp it tn) (st:tn 0 s.heap) (hf:∀ b∈fp,FpOk X pins H b)
  (hg:∀ C s₀ H₀ ex,PG (blk X T cs scope C s₀ H₀ ex) tg g) (ht:∀ C s₀ H₀ ex,PTs (blk X T cs scope C s₀ H₀ ex) ifs tt) (he:∀ C s₀ H₀ ex,PE (blk X T cs scope C s₀ H₀ ex) elt te) (hk:GKeeps g T.length)
  (W:Nat->Nat->List V->Hp->Prop) (w0:∃ m,W 0 m [] H)
  (turn:∀ i m ys H,W i m ys H->(J.stop i H/\ys.length<=sizeLine/\Fin ys H)\/(J.go i H/\ys.length < sizeLine/\∃ N:List V->Hp->Prop,(∀ ys' H',N ys' H'->∃ m',m' < m/\W (i + 1) m' ys' H') /\
   ∀ x H',J.yld i H x H'->g x (sgOf σ T cs) H' fun σ2 H2=>tt σ2 H2 fun b H3=>if b=true then te σ2 H3 fun y H4=>N (ys++[y]) H4 else N ys H3))
  (fin:∀ (D C:Addr) (s':Shared) (m:Str->Option Value) (ys:List V) (H':Hp),Fin ys H'->H' D=none->s'.heap.Ns C m->FpOk X pins H' C->C≠D->Inv X pins σ (upd H' D (.lst ys)) s'->RR (.ref D) C (.ok .next) s') :
  wpAny (model X.prog X.w) X.A (newList []) (fun acc s₃=>wpAny (model X.prog X.w) X.A (newFunctionEnv scope X.env.globals (cloAcc X.env.cells scope.names []) [] X.env.qual none .none (some X.env)) (fun cenv s₄ =>
   codeAny (model X.prog X.w) X.A (.compStart (.ListComp elt [⟨tg,iter,ifs,0⟩] scope pos) 0 (.ref it) acc { cenv with scope:=relabel scope X.env }) (RR acc cenv.locals) s₄) E s₃) E s:=by
 refine wpAny_newObj_type (wpAny_newFunctionEnv S.nocell (by intro y hy; simp at hy) (fun h₁ hns₁ hsb₁=>?_) S.kind)
 dsimp only at hns₁ hsb₁ ⊢
 generalize hH2:s.heap.push { cls:=.type "list",dict:=none,data:=.seq ([]:List Value).toArray }=H2 at hns₁ hsb₁ ⊢
 have hCe:H2.objs.size=s.heap.objs.size + 1:=by rw [<- hH2,Heap.size_push]
 have hDC:s.heap.objs.size≠H2.objs.size:=by rw [hCe]; exact Nat.ne_of_lt (Nat.lt_succ_self _)
 have hCle:s.heap.objs.size<=H2.objs.size:=by rw [hCe]; exact Nat.le_succ _
 have old:∀ b o,s.heap.get? b=some o->h₁.get? b=some o:=fun b o e =>
  hsb₁.extBut b o (by rw [hCe]; exact Nat.ne_of_lt (Nat.lt_succ_of_lt (Heap.lt_size e))) (Heap.get?_push_of_some _ (hH2 ▸ Heap.get?_push_of_some _ e))
 have hacc:h₁.get? s.heap.objs.size=some { cls:=.type "list",data:=.seq ([]:List Value).toArray 0 }:=hsb₁.extBut _ _ hDC (Heap.get?_push_of_some _ (hH2 ▸ Heap.get?_push_size _ rfl))
 have hfe:∀ b∈fp,∃ o,s.heap.get? b=some o:=fun b hb=>let ⟨o,e,_⟩:=Tn.obj _ _ st b hb; ⟨o,e⟩
 have hlt:∀ b∈fp,b < s.heap.objs.size:=fun b hb=>let ⟨o,e⟩:=hfe b hb; Heap.lt_size e
 have st₁:tn 0 h₁:=Tn.keep _ _ _ st fun b _ o e=>old b o e
 generalize hDD:s.heap.objs.size=D at *
 generalize hCC:H2.objs.size=C at *
 have hnD:H D=none:=I.hok.fresh (Nat.le_of_eq hDD)
 have stat:∀ {H':Hp} {its:List Value} {n:Nat},(∀ b∈fp,H' b=none)->∀ b∈fp,FpOk (blk X T cs scope C s H fp) [(D,({ cls:=.type "list",data:=.seq its.toArray n }:Obj))] H' b:=fun hn b hb=>by
  obtain ⟨f0,f1,f2,f3,f4,f5⟩:=hf b hb
  refine ⟨hn b hb,Nat.ne_of_lt (Nat.lt_of_lt_of_le (hlt b hb) hCle),fun z=>?_,.inl hb,fun x c e=>f4 x c (I.clo S e),fun p hp z=>?_⟩
  ·rcases List.mem_cons.mp (I.stkSub b z) with e | e
   ·exact f1 e
   ·exact f2 e
  ·have e:p.1=D:=by
    rcases List.mem_append.mp hp with q | q
    ·exact absurd (show p∈([]:List (Addr×Obj)) from q) (by simp)
    ·rw [List.mem_singleton.mp q]
   exact absurd (hlt b hb) (by rw [<- z,e]; exact Nat.lt_irrefl _)
 have loop:∀ tk:Nat,codeAny (model X.prog X.w) X.A (.compLoop (.ListComp elt [⟨tg,iter,ifs,0⟩] scope pos) 0 (.ref it) (.ref D) (compEnvC scope (cloAcc X.env.cells scope.names []) C X.env)) (RR (.ref D) C) { s with heap:=h₁,toks:=tk }:=by
  intro tk
  have I1:Inv (blk X T cs scope C s H fp) [] (sgOf σ T cs) H { s with heap:=h₁,toks:=tk }:=inv_blk I S hf hfe (by rw [hDD]; exact hCle) hns₁ old
  obtain ⟨m0,w0⟩:=w0
  have pinD:∀ {σ':St} {H':Hp} {s':Shared} {its:List Value} {n:Nat} {pl:List (Addr×Obj)},Inv (blk X T cs scope C s H fp) pl σ' H' s'->s'.heap.get? D=some { cls:=.type "list",data:=.seq its.toArray n }->H' D=none ->
    Inv (blk X T cs scope C s H fp) [(D,({ cls:=.type "list",data:=.seq its.toArray n }:Obj))] σ' H' s':=fun {σ' H' s' its n pl} J e hn=>J.pins_of fun p hp=>by
   obtain rfl:=List.mem_singleton.mp hp
   refine ⟨e,hn,hDC,fun z=>?_,fun v q=>by cases q⟩
   have z':D∈frs X.stack:=z
   obtain ⟨_,o,ho,_⟩:=I.stack.mem z'
   exact absurd (Heap.lt_size ho) (by rw [hDD]; exact Nat.lt_irrefl _)
  refine compLoop_gen (fun n s'=>∃ (i:Nat) (ys:List V) (its:List Value) (k:Nat) (H':Hp),Inv (blk X T cs scope C s H fp) [(D,({ cls:=.type "list",data:=.seq its.toArray k }:Obj))] (sgOf σ T cs) H' s'/\Vals ys its/\tn i s'.heap/\(∀ b∈fp,H' b=none)/\W i n ys H') ?_ m0
   ⟨0,[],[],0,H,pinD I1 hacc hnD,.nil,st₁,fun b hb=>(hf b hb).1,w0⟩
  rintro n s1 ⟨i,ys,its,k,H1,J1,rv,st1,fr1,w1⟩
  rcases turn i n ys H1 w1 with ⟨stop,hz,fq⟩ | ⟨go,hz,N,hN,step⟩
  ·refine wpAny_mono (Tn.done (blk X T cs scope C s H fp) rfl rfl rfl hc i _ s1 _ H1 (fun _ _=>False) J1 (stat fr1) st1 stop) (fun r s2 ⟨hr,J2⟩=>?_) fun _ _ z=>z
   subst hr
   obtain ⟨eD,nD,_⟩:=J2.pin (D,({ cls:=.type "list",data:=.seq its.toArray k }:Obj)) (List.mem_append_right _ (List.mem_singleton.mpr rfl))
   have J3:Inv X pins σ H1 s2:=I.call' (ch:=fp) J2.os J2.base J2.hok J2.bare fun b hb=>by
    obtain ⟨f0,f1,f2,f3,f4,f5⟩:=hf b hb
    exact ⟨f3,f1,f4,f5⟩
   obtain ⟨mC,hnC,_⟩:=J2.loc
   have fC:FpOk X pins H1 C:=I.fpOk (by rw [hDD]; exact hCle) J2.free
   have fD:FpOk X pins H1 D:=I.fpOk (Nat.le_of_eq hDD) nD
   exact fin D C s2 mC ys H1 fq nD hnC fC (Ne.symm hDC) (J3.track eD fD rv hz)
  ·refine wpAny_mono (Tn.item (blk X T cs scope C s H fp) rfl rfl rfl hc i _ s1 _ H1 (fun _ _=>False) J1 (stat fr1) st1 go) (fun r s2 ⟨u,hr,h2⟩=>?_) fun _ _ z=>z
   subst hr
   refine wpAny_mono h2 (fun _ s3 ⟨x,H3,J3,r3,y3,st3,fr3⟩=>?_) fun _ _ z=>z
   have J3':=J3.pinned (stat fr3) (Tn.obj _ _ st3)
   refine wpAny_mono (hg C s H fp _ s3 _ H3 x u _ J3' r3 (hk (sgOf σ T cs) x _ H3 _ ⟨rfl,fun _ _=>rfl⟩ (step x H3 y3))) (fun _ s4 ⟨σ4,H4,J4,q4,l4,k4⟩=>?_) fun _ _ z=>z
   refine wpAny_mono (ht C s H fp _ s4 σ4 H4 _ J4 q4) (fun b s5 ⟨H5,J5,q5⟩=>?_) fun _ _ z=>z
   have wk:∀ {pl:List (Addr×Obj)} {H':Hp} {s':Shared},Inv (blk X T cs scope C s H fp) pl σ4 H' s'->Inv (blk X T cs scope C s H fp) pl (sgOf σ T cs) H' s':=fun J=>J.weak l4.symm fun j v e=>by
    by_cases hj:T.length<=j
    ·rw [k4 j hj]; exact e
    ·exfalso
     unfold sgOf at e
     rw [List.getElem?_append_left (by simp; omega),List.getElem?_map] at e
     cases q:T[j]? with
     | none=>rw [q] at e; cases e
     | some a=>rw [q] at e; cases e
   have tnk:∀ {H':Hp} {s':Shared} {σ':St},Inv (blk X T cs scope C s H fp) ([(D,({ cls:=.type "list",data:=.seq its.toArray k }:Obj))]++pinsAt fp s3.heap) σ' H' s'->tn (i + 1) s'.heap/\∀ b∈fp,H' b=none:=fun {H' s' σ'} J=>by
    refine ⟨Tn.keep _ _ _ st3 fun b hb o e=>(J.pin (b,o) (List.mem_append_right _ (List.mem_append_right _ (mem_pinsAt hb e)))).1,fun b hb=>?_⟩
    obtain ⟨o,e,d⟩:=Tn.obj _ _ st3 b hb
    exact (J.pin (b,o) (List.mem_append_right _ (List.mem_append_right _ (mem_pinsAt hb e)))).2.1
   cases b with
   | false =>
    rw [if_neg Bool.false_ne_true] at q5 ⊢
    obtain ⟨m',hm,w5⟩:=hN _ _ q5
    obtain ⟨t5,f5⟩:=tnk J5
    exact ⟨m',hm,i + 1,ys,its,k,H5,wk J5.unpinned,rv,t5,f5,w5⟩
   | true =>
    rw [if_pos rfl] at q5 ⊢
    refine wpAny_mono (he C s H fp _ s5 σ4 H5 _ J5 q5) (fun uy s6 ⟨y,H6,J6,ry,n6⟩=>?_) fun _ _ z=>z
    obtain ⟨m',hm,w6⟩:=hN _ _ n6
    obtain ⟨t6,f6⟩:=tnk J6
    obtain ⟨eD,nD,_⟩:=J6.pin (D,({ cls:=.type "list",data:=.seq its.toArray k }:Obj)) (List.mem_append_right _ (List.mem_append_left _ (List.mem_singleton.mpr rfl)))
    have hsz:its.toArray.size<=sizeLine:=by rw [List.size_toArray,<- rv.length]; omega
    refine append_at (hsz:=hsz) eD fun h7 sb hD7=>?_
    have J6':Inv (blk X T cs scope C s H fp) [] σ4 H6 s6:=J6.pins_of fun p hp=>absurd hp (by simp)
    have J7:Inv (blk X T cs scope C s H fp) [] σ4 H6 { s6 with heap:=h7 }:=J6'.turned (t':=s6.toks) (it:=D) (fun b o hb e=>(sb.2 b hb).trans e) nD hDC (.inr (Nat.le_of_eq hDD))
     (fun x c e z=>by
      obtain ⟨v,q⟩:=I.cell x c (I.clo S e)
      exact absurd q.lt (by rw [z,hDD]; exact Nat.lt_irrefl _))
     (fun p hp=>absurd hp (by simp [blk]))
    have hD7':h7.get? D=some { cls:=.type "list",data:=.seq (its++[uy]).toArray (k + 1) }:=by
     rw [hD7,List.push_toArray]
    refine ⟨m',hm,i + 1,ys++[y],its++[uy],k + 1,H6,wk (pinD J7 hD7' nD),rv.append (.cons ry .nil),Tn.keep _ _ _ t6 fun b hb o e=>(sb.2 b (Nat.ne_of_lt (hlt b hb))).trans e,f6,w6⟩
 exact codeAny_compStart_list (loop _) (Tn.self _ 0 _ _ _ st₁ (loop _))
def tComp (wi:TI) (g:TG) (tt:TT) (te:TE) (T:List Str) (cs:List Nat):TE:=fun σ H Q=>wi σ H fun J H1=>∃ W:Nat->Nat->List V->Hp->Prop,(∃ m,W 0 m [] H1) /\
 ∀ i m ys H,W i m ys H->(J.stop i H/\ys.length<=sizeLine/\∀ p,H p=none->Q (.ref p) (upd H p (.lst ys)))\/(J.go i H/\ys.length < sizeLine/\∃ N:List V->Hp->Prop,(∀ ys' H',N ys' H'->∃ m',m' < m/\W (i + 1) m' ys' H') /\
  ∀ x H',J.yld i H x H'->g x (sgOf σ T cs) H' fun σ2 H2=>tt σ2 H2 fun b H3=>if b=true then te σ2 H3 fun y H4=>N (ys++[y]) H4 else N ys H3)
def pe_comp {wi:TI} (hc:X.calm=true) (S:CScope X.env.scope scope X.N T cs) (hi:PI X tg iter wi) (hg:∀ C s₀ H₀ ex,PG (blk X T cs scope C s₀ H₀ ex) tg g) (ht:∀ C s₀ H₀ ex,PTs (blk X T cs scope C s₀ H₀ ex) ifs tt)
  (he:∀ C s₀ H₀ ex,PE (blk X T cs scope C s₀ H₀ ex) elt te) (hk:GKeeps g T.length) (hs:∀ x,foldedSetIterable iter X.env x=pure x:=by intro _; rfl):PE X (.ListComp elt [⟨tg,iter,ifs,0⟩] scope pos) (tComp wi g tt te T cs):=by
 intro pins s σ H Q I h
 rw [eval_ListComp]
 refine wpAny_comprehension_free (use:=none) rfl hs (closure_is (I.hl S)) S.kind S.names (thn (hi pins s σ H _ I h) fun v s1 h1=>thn h1 fun itv s2 h2=>?_)
 obtain ⟨it,fp,tn,J,H2,e,I2,Tn,st,hf,W,w0,turn⟩:=h2
 subst e
 refine comp_core (RR:=fun acc C=>compPost (model X.prog X.w) X.A X.xe none (EP X pins σ Q) acc C) (Fin:=fun ys H=>∀ p,H p=none->Q (.ref p) (upd H p (.lst ys))) I2 hc S Tn st hf hg ht he hk W w0 turn ?_
 intro D C s' m ys H' q nD hn fC hCD I'
 refine ⟨m,hn,fun h' sb=>⟨.ref D,_,I'.turned (t':=s'.toks) (it:=C) (fun b o hb e=>(sb.2 b hb).trans e) ?_ fC.2.1 fC.2.2.2.1 fC.2.2.2.2.1 fC.2.2.2.2.2,rfl,q D nD⟩⟩
 rw [upd_ne hCD]
 exact fC.1
def ps_comp {wi:TI} {i:Nat} {y:Str} {py spos:Pos} (hN:X.N.Nodup) (hy:X.N[i]?=some y) (hl:X.env.scope.names.lookup y=some .local) (hc:X.calm=true) (S:CScope X.env.scope scope X.N T cs) (hi:PI X tg iter wi) (hg:∀ C s₀ H₀ ex,PG (blk X T cs scope C s₀ H₀ ex) tg g)
  (ht:∀ C s₀ H₀ ex,PTs (blk X T cs scope C s₀ H₀ ex) ifs tt) (he:∀ C s₀ H₀ ex,PE (blk X T cs scope C s₀ H₀ ex) elt te) (hk:GKeeps g T.length) (hs:∀ x,foldedSetIterable iter X.env x=pure x:=by intro _; rfl)
  (hsw:swapsWith (.ListComp elt [⟨tg,iter,ifs,0⟩] scope pos) (some (.Name y py)) spos.line X.env=pure true:=by rfl):PS X (.Assign [.Name y py] (.ListComp elt [⟨tg,iter,ifs,0⟩] scope pos) spos) (tAsg (tComp wi g tt te T cs) (gName i)):=by
 intro pins s σ H D I h
 rw [exec_Assign_Name_used _ _ _ _ hsw]
 refine wpAny_bind (wpAny_standAt (wpAny_bind ?_))
 show wpAny _ X.A (do let _ <- comprehension (.ListComp elt [⟨tg,iter,ifs,0⟩] scope pos) scope X.env _ (newList []) false (eval iter X.env) (some (assign (.Name y py) X.env))) _ _ s
 refine wpAny_bind (wpAny_mono (wpAny_comprehension_free (use:=some (assign (.Name y py) X.env)) (Q:=fun _ s'=>SP X pins D .next s') rfl hs (closure_is (I.hl S)) S.kind S.names
  (thn (hi pins s σ H _ I h) fun v s1 h1=>thn h1 fun itv s2 h2=>?_)) (fun _ s' hq=>wpAny_pure (wpAny_pure hq)) fun _ _ e=>e)
 obtain ⟨it,fp,tn,J,H2,e,I2,Tn,st,hf,W,w0,turn⟩:=h2
 subst e
 refine comp_core (RR:=fun acc C=>compPost (model X.prog X.w) X.A X.xe (some (assign (.Name y py) X.env)) (fun _ s'=>SP X pins D .next s') acc C) (Fin:=fun ys H=>∀ p,H p=none->gName i (.ref p) σ (upd H p (.lst ys)) D.nx) I2 hc S Tn st hf hg ht he hk W w0 turn ?_
 intro B C s' m ys H' q nB hn fC hCB I'
 show wpAny _ X.A (assign (.Name y py) X.env (.ref B)) _ _ s'
 refine wpAny_assign_Name (store_ok2 (v:=.ref B) I' hN hy (.inl hl) rfl (fun s'' I'' ⟨a,sb,ha⟩=>?_) (.inr hl))
 have nC:C≠a:=by
  rcases ha with z | z
  ·rw [z]; exact fC.2.1
  ·exact Ne.symm (fC.2.2.2.2.1 y a z)
 refine ⟨m,hn.sameBut sb nC,fun h' sb'=>⟨_,_,I''.turned (t':=s''.toks) (it:=C) (fun b o hb e=>(sb'.2 b hb).trans e) ?_ fC.2.1 fC.2.2.2.1 fC.2.2.2.2.1 fC.2.2.2.2.2,q B nB⟩⟩
 rw [upd_ne hCB]
 exact fC.1
end
theorem comp_by {J:It} {n:Nat} {g:TG} {tt:TT} {te:TE} {σB:St} {H1:Hp} {F:List V->Hp->Prop} (Pv:Nat->List V->Hp->Prop) (h0:Pv 0 [] H1) (hn:∀ i ys H,Pv i ys H->ys.length<=i) (hz:n<=sizeLine)
  (hgo:∀ i ys H,i < n->Pv i ys H->J.go i H) (hstop:∀ ys H,Pv n ys H->J.stop n H)
  (hs:∀ i ys H,i < n->Pv i ys H->∀ x H',J.yld i H x H'->g x σB H' fun σ2 H2=>tt σ2 H2 fun b H3=>if b=true then te σ2 H3 fun y H4=>Pv (i + 1) (ys++[y]) H4 else Pv (i + 1) ys H3)
  (hd:∀ ys H,Pv n ys H->F ys H) :
  ∃ W:Nat->Nat->List V->Hp->Prop,(∃ m,W 0 m [] H1)/\∀ i m ys H,W i m ys H->(J.stop i H/\ys.length<=sizeLine/\F ys H)\/(J.go i H/\ys.length < sizeLine/\∃ N:List V->Hp->Prop,(∀ ys' H',N ys' H'->∃ m',m' < m/\W (i + 1) m' ys' H') /\
   ∀ x H',J.yld i H x H'->g x σB H' fun σ2 H2=>tt σ2 H2 fun b H3=>if b=true then te σ2 H3 fun y H4=>N (ys++[y]) H4 else N ys H3):=by
 refine ⟨fun i m ys H=>m=n - i/\i<=n/\Pv i ys H,⟨n,rfl,Nat.zero_le _,h0⟩,?_⟩
 rintro i m ys H ⟨rfl,hi,p⟩
 have hl:=hn i ys H p
 by_cases hlt:i < n
 ·exact .inr ⟨hgo i ys H hlt p,by omega,Pv (i + 1),fun ys' H' q=>⟨n - (i + 1),by omega,rfl,hlt,q⟩,hs i ys H hlt p⟩
 ·have e:i=n:=by omega
  subst e
  exact .inl ⟨hstop ys H p,by omega,hd ys H p⟩
section
variable {X:Cx}
def rGetL (K:W.Frag):V->V->Hp->VK->Prop:=fun o i H Q=>∃ p xs k v,o=.ref p/\i=.int ((k:Nat):Int)/\SqL K H p xs/\xs[k]?=some v/\Q v H
theorem pget_list:PGet X (rGetL X.K):=by
 intro pins s σ H o i ov iv Q I ro ri h
 obtain ⟨p,xs,k,v,rfl,rfl,hq,hx,q⟩:=h
 cases ro
 obtain ⟨t,rfl⟩:=ri
 obtain ⟨its,rv,pl,hz⟩:=I.list hq
 obtain ⟨u,hu,ru⟩:=rv.get hx
 have hk:k < xs.length:=(List.getElem?_eq_some_iff.mp hx).1
 have hn:=line63
 exact wpAny_getItem_list pl.isList (by omega) (by omega) (by simpa using hu) ⟨v,H,I,ru,q⟩
theorem Vals.bl_get {bs:List Bool} {us:List Value} (r:Vals (bs.map V.bl) us) {i:Nat} {v:Value} (e:us[i]?=some v):∃ b,bs[i]?=some b/\v=.bool b:=by
 have hi:i < us.length:=(List.getElem?_eq_some_iff.mp e).1
 have hl:=r.length
 rw [List.length_map] at hl
 have hb:i < bs.length:=by omega
 have eb:(bs.map V.bl)[i]?=some (V.bl bs[i]):=by rw [List.getElem?_map,List.getElem?_eq_getElem hb]; rfl
 obtain ⟨u,hu,ru⟩:=r.get eb
 rw [e] at hu
 cases hu
 exact ⟨bs[i],List.getElem?_eq_getElem hb,ru⟩
def all_of (bs:List Bool):((List.range bs.length).all fun i=>(bs[i]?).getD true)=bs.all id:=by
 rw [Bool.eq_iff_iff]
 simp only [List.all_eq_true,List.mem_range,id]
 constructor
 ·intro h b hb
  obtain ⟨i,hi,e⟩:=List.mem_iff_getElem.mp hb
  have:=h i hi
  rw [List.getElem?_eq_getElem hi,e] at this
  exact this
 ·intro h i hi
  rw [List.getElem?_eq_getElem hi]
  exact h _ (List.getElem_mem hi)
def call_all (hc:X.calm=true):CallR X (.builtin "all") (fun xs H Q=>∃ (p:Addr) (bs:List Bool),xs=[.ref p]/\SqL X.K H p (bs.map V.bl)/\Q (.bl (bs.all id)) H):=by
 intro pins s σ H xs us Q I r h
 obtain ⟨p,bs,rfl,hq,q⟩:=h
 obtain ⟨u,rfl,ru⟩:=vals1 r
 cases ru
 obtain ⟨its,rv,pl,hz⟩:=I.list hq
 have hlen:=rv.length
 rw [List.length_map] at hlen
 have hlt:p < s.heap.objs.size:=by obtain ⟨_,e,_⟩:=pl.isList; exact Heap.lt_size e
 refine call_all_walk (wpAny_pyIter_list pl.isList ?_)
 refine ⟨s.heap.objs.size,[s.heap.objs.size,p],[s.heap.objs.size],its.toArray.size,_,_,fun i=>(bs[i]?).getD true,rfl,Walks.list (A:=X.A.in1) (I.ok.hd hc) _ p (Nat.ne_of_lt hlt) its.toArray,
  ⟨⟨_,Heap.get?_push_size _ rfl,rfl,rfl⟩,pl.isList.push _⟩,fun i v s' Q' E' hP hQ=>?_,fun h' tk hk=>?_⟩
 ·obtain ⟨b,e,rfl⟩:=rv.bl_get (by simpa using hP)
  simp only [e,Option.getD_some] at hQ
  exact wpAny_truthy_bool hQ
 ·rw [List.size_toArray,<- hlen,all_of]
  exact ⟨.bl (bs.all id),H,I.kept (t':=tk) (PyProof.Rows.LSm.kept_iter hk),rfl,q⟩
def call_isi:CallR X (.builtin "isinstance") (fun xs H Q=>∃ x T t b,xs=[x,.ty T]/\TyOf X.K H x t/\W.kitOne X.K t (.type T)=some b/\Q (.bl b) H):=by
 intro pins s σ H xs us Q I r h
 obtain ⟨x,T,t,b,rfl,ty,e,q⟩:=h
 obtain ⟨u,w',rfl,ru,rw'⟩:=vals2 r
 cases rw'
 exact isinst_ok I ru ty e fun tk=>⟨.bl b,H,I.tok tk,rfl,q⟩
def rSlS:V->Option Int->Option Int->Hp->VK->Prop:=fun x lo hi H Q=>∃ z,x=.str z/\z.length<=sizeLine/\Q (.str (Txt.slice z lo hi)) H
theorem sl_str:SlR X rSlS:=by
 intro pins s σ H x v vl vu lo hi sl Q I rx hs pl pu h
 obtain ⟨z,rfl,hz,q⟩:=h
 obtain ⟨t,rfl⟩:=rx
 refine ⟨"str",_,F.slot_str_getitem.lookup,typeIs_str _ _ _,?_⟩
 cases pl with
 | none =>
  cases pu with
  | none=>exact wpAny_getItem_str_slice (l:=none) (u:=none) (st:=none) hs rfl (post_val_or_str ⟨Nat.le_trans (Txt.slice_le z _ _) hz,fun t' k=>⟨.str _,H,I.tok _,⟨_,rfl⟩,q⟩⟩)
  | int j tj=>exact wpAny_getItem_str_slice (l:=none) (u:=some (j,tj)) (st:=none) hs rfl (post_val_or_str ⟨Nat.le_trans (Txt.slice_le z _ _) hz,fun t' k=>⟨.str _,H,I.tok _,⟨_,rfl⟩,q⟩⟩)
 | int i ti =>
  cases pu with
  | none=>exact wpAny_getItem_str_slice (l:=some (i,ti)) (u:=none) (st:=none) hs rfl (post_val_or_str ⟨Nat.le_trans (Txt.slice_le z _ _) hz,fun t' k=>⟨.str _,H,I.tok _,⟨_,rfl⟩,q⟩⟩)
  | int j tj=>exact wpAny_getItem_str_slice (l:=some (i,ti)) (u:=some (j,tj)) (st:=none) hs rfl (post_val_or_str ⟨Nat.le_trans (Txt.slice_le z _ _) hz,fun t' k=>⟨.str _,H,I.tok _,⟨_,rfl⟩,q⟩⟩)
end
mutual
inductive DV (K:W.Frag) (H:Hp):V->PyData->Prop
 | non:DV K H .non .none
 | bl (b:Bool):DV K H (.bl b) (.bool b)
 | int (i:Int):DV K H (.int i) (.int i)
 | str (x:Str):DV K H (.str x) (.str x)
 | lst {a:Addr} {xs:List V} {ds:List PyData} (h:SqL K H a xs) (r:DVs K H xs ds):DV K H (.ref a) (.list ds)
 | tup {a:Addr} {xs:List V} {ds:List PyData} (h:SqT K H a xs) (r:DVs K H xs ds):DV K H (.ref a) (.tuple ds)
inductive DVs (K:W.Frag) (H:Hp):List V->List PyData->Prop
 | nil:DVs K H [] []
 | cons {x:V} {d:PyData} {xs:List V} {ds:List PyData} (h:DV K H x d) (r:DVs K H xs ds):DVs K H (x::xs) (d::ds)
end
section
variable {X:Cx} {pins:List (Addr×Obj)} {σ:St} {H:Hp} {s:Shared}
mutual
theorem dv_reads (I:Inv X pins σ H s):∀ {x:V} {d:PyData} {u:Value},DV X.K H x d->RelV x u->∃ as,Reads s.heap u d as
 | _,_,u,.non,r=>by obtain rfl:u=Value.none:=r; exact ⟨_,Reads.none⟩
 | _,_,u,.bl b,r=>by obtain rfl:u=Value.bool b:=r; exact ⟨_,Reads.bool b⟩
 | _,_,u,.int i,r=>by obtain ⟨t,rfl⟩:=(show ∃ t,u=Value.int i t from r); exact ⟨_,Reads.int i t⟩
 | _,_,u,.str x,r=>by obtain ⟨t,rfl⟩:=(show ∃ t,u=Value.str x t from r); exact ⟨_,Reads.str x t⟩
 | _,_,u,.lst (a:=a) h q,r=>by
  obtain rfl:u=Value.ref a:=r
  obtain ⟨its,rv,⟨o,n,e,c,d,dt⟩,_⟩:=I.list h
  obtain ⟨as,ra⟩:=dvs_reads I q rv
  exact ⟨_,reads_list_at e c dt (by simpa using ra)⟩
 | _,_,u,.tup (a:=a) h q,r=>by
  obtain rfl:u=Value.ref a:=r
  obtain ⟨its,rv,⟨o,e,c,n,dt⟩,_⟩:=I.tuple h
  obtain ⟨as,ra⟩:=dvs_reads I q rv
  exact ⟨_,reads_tuple_at e c dt (by simpa using ra)⟩
theorem dvs_reads (I:Inv X pins σ H s):∀ {xs:List V} {ds:List PyData} {us:List Value},DVs X.K H xs ds->Vals xs us->∃ as,ReadsAll s.heap us ds as
 | _,_,_,.nil,.nil=>⟨_,ReadsAll.nil⟩
 | _,_,_,.cons h q,.cons r rr=>by
  obtain ⟨as,ra⟩:=dv_reads I h r
  obtain ⟨bs,rb⟩:=dvs_reads I q rr
  exact ⟨_,ReadsAll.cons ra rb⟩
end
def rEqD (K:W.Frag):R2:=fun x y H Q=>∃ dx dy,DV K H x dx/\DV K H y dy/\SeqAt.shaped dx=true/\SeqAt.shaped dy=true/\Q (.bl (PyData.eqv dx dy)) H
def rNeD (K:W.Frag):R2:=fun x y H Q=>∃ dx dy,DV K H x dx/\DV K H y dy/\SeqAt.shaped dx=true/\SeqAt.shaped dy=true/\Q (.bl (!PyData.eqv dx dy)) H
def op_eqD (hu:X.A.units + 64 < cLine):OpR X (compareOp .Eq) (rEqD X.K):=by
 intro pins s σ H x y v u Q I rx ry h
 obtain ⟨dx,dy,hx,hy,sx,sy,q⟩:=h
 obtain ⟨as,ra⟩:=dv_reads I hx rx
 obtain ⟨bs,rb⟩:=dv_reads I hy ry
 exact eq_dataH ra rb sx sy hu ⟨.bl _,H,I,rfl,q⟩
def op_neD (hu:X.A.units + 64 < cLine):OpR X (compareOp .NotEq) (rNeD X.K):=by
 intro pins s σ H x y v u Q I rx ry h
 obtain ⟨dx,dy,hx,hy,sx,sy,q⟩:=h
 obtain ⟨as,ra⟩:=dv_reads I hx rx
 obtain ⟨bs,rb⟩:=dv_reads I hy ry
 exact ne_dataH ra rb sx sy hu ⟨.bl _,H,I,rfl,q⟩
end
theorem dvs_ints {K:W.Frag} {H:Hp}:∀ ns:List Int,DVs K H (ns.map V.int) (ns.map PyData.int)
 | []=>.nil
 | n::r=>.cons (.int n) (dvs_ints r)
def Cal (P:Program) (w:World) (K:W.Frag) (mg:Str->Option Value) (base:Heap) (x:Str) (k:Nat) (ps:List Str) (sp:Sp):Prop :=
 ∃ (f:Addr) (fd:FuncData),FnOk P w K mg base CX0 k f fd ps sp/\mg x=some (.ref f)/\W.keepIn K (.ref f)=true/\Binds K fd ps []
section
variable {X:Cx} {x:Str} {k:Nat} {ps:List Str} {sp:Sp} {e:Expr} {es:List Expr} {t:TA} {p pos:Pos}
def pe_cal (C:Cal X.prog X.w X.K X.mg X.base x k ps sp) (hr:Room k X.A) (hg:Gl X x) (ha:PA X (e::es) t) (hdb:(x == ("__debug__":Str))=false:=by decide)
  (he:starEach (e::es) X.env=(false,eval e X.env)::starEach es X.env:=by rfl) (hpl:(backTo pos (starEach es X.env)).any (·.1)=false:=by rfl):PE X (.Call (.Name x p) (e::es) [] pos) (tCall sp [] E0 t):=by
 obtain ⟨f,fd,F,hm,hk,hb⟩:=C
 exact pe_call F hr hg hm hk hb .nil pass0 ha hdb he hpl
end
def Grow (p:Addr) (H H':Hp):Prop:=∀ b o,H b=some o->b≠p->H' b=some o
def Grow.trans {p:Addr} {H H1 H2:Hp} (a:Grow p H H1) (b:Grow p H1 H2):Grow p H H2:=fun c o e n=>b c o (a c o e n) n
def Grow.same {p:Addr} {H H':Hp} (s:Same H H'):Grow p H H':=fun b o e _=>s b o e
theorem Grow.free {p:Addr} {H H':Hp} (g:Grow p H H') {l:Addr} (h:H' l=none) (n:l≠p):H l=none:=by
 cases q:H l with
 | none=>rfl
 | some o=>rw [g l o q n] at h; cases h
def same_upd {H:Hp} {p:Addr} {o:HO} (h:H p=none):Same H (upd H p o):=fun b u e=>by rw [upd_ne (ne_of_none e h)]; exact e
structure HandAt (H:Hp) (p a:Addr):Prop where
 ex:∃ (d k:Int) (cs:List Int),H p=some (.lst [.int d,.int k,.ref a])/\H a=some (.lst (cs.map V.int))/\cs≠[]/\cs.length<=63/\0<=d/\0<=k/\∀ c∈cs,0<=c
theorem HandAt.ne {H:Hp} {p a:Addr} (h:HandAt H p a):p≠a:=by
 obtain ⟨d,k,cs,e1,e2,_⟩:=h.ex
 refine ne_of e1 e2 fun z=>?_
 injection z with z
 cases cs with
 | nil=>cases z
 | cons c r =>
  rw [List.map_cons] at z
  injection z with _ z
  cases r with
  | nil=>cases z
  | cons c2 r =>
   rw [List.map_cons] at z
   injection z with _ z
   cases r with
   | nil=>cases z
   | cons c3 r=>rw [List.map_cons] at z; injection z with z _; cases z
def HandAt.same {H H':Hp} {p a:Addr} (h:HandAt H p a) (g:Same H H'):HandAt H' p a:=by
 obtain ⟨d,k,cs,e1,e2,r⟩:=h.ex
 exact ⟨d,k,cs,g _ _ e1,g _ _ e2,r⟩
def spDraw:Sp:=fun vs H Q _=>∃ (p a:Addr) (n:Int),vs=[.ref p,.int n]/\HandAt H p a/\0 < n/\n < 1073741824 /\
 ∀ (r:Int) (H':Hp),0<=r->r < n->HandAt H' p a->Grow p H H'->(∀ b,b≠p->H' b=H b)->Q (.int r) H'
def spOpen (K:W.Frag):Sp:=fun vs H Q _=>∃ (s:Addr) (ns:List Int) (i:Int),vs=[.ref s,.int i]/\SqL K H s (ns.map V.int)/\ns.length<=63/\0<=i/\i < 2 ^ 60 /\
 ∀ (p a:Addr) (H':Hp),H p=none->H a=none->HandAt H' p a->Same H H'->Q (.ref p) H'
theorem at_rest {cs:List Int} (h:cs≠[]) (z:Int):∃ c,c∈cs/\atI (cs.map V.int) (z % ((cs.map V.int).length:Nat))=some (.int c):=by
 have hl:0 < cs.length:=List.length_pos_iff.mpr h
 have h0:0<=z % ((cs.map V.int).length:Nat):=Int.emod_nonneg _ (by rw [List.length_map]; omega)
 have h1:z % ((cs.map V.int).length:Nat) < ((cs.map V.int).length:Nat):=Int.emod_lt_of_pos _ (by rw [List.length_map]; omega)
 generalize z % ((cs.map V.int).length:Nat)=m at h0 h1
 rw [List.length_map] at h1
 have hm:m.toNat < cs.length:=by omega
 obtain ⟨k,rfl⟩:=Int.eq_ofNat_of_zero_le h0
 have hm:k < cs.length:=hm
 refine ⟨cs[k],List.getElem_mem hm,atI_nat ?_⟩
 rw [List.getElem?_map,List.getElem?_eq_getElem hm]
 rfl
def Shp (n:Nat) (d:PyData):Prop:=d.canLay0=true/\d.depth<=n
def Shp.shaped {n:Nat} {d:PyData} (h:Shp n d) (hn:n<=64):SeqAt.shaped d=true:=by
 unfold SeqAt.shaped
 rw [h.1,Bool.true_and]
 exact decide_eq_true (Nat.le_trans h.2 hn)
theorem shp_all {n:Nat}:∀ {ds:List PyData},(∀ d∈ds,Shp n d)->PyData.canLayAll0 ds=true/\PyData.depthAll ds<=n
 | [],_=>⟨by simp only [PyData.canLayAll0],by simp only [PyData.depthAll]; exact Nat.zero_le _⟩
 | d::r,h=>by
  obtain ⟨h1,h2⟩:=h d List.mem_cons_self
  obtain ⟨h3,h4⟩:=shp_all (n:=n) fun x hx=>h x (List.mem_cons_of_mem _ hx)
  refine ⟨by simp only [PyData.canLayAll0,h1,h3,Bool.and_self],?_⟩
  simp only [PyData.depthAll]
  omega
theorem shp_list {n:Nat} {ds:List PyData} (h:∀ d∈ds,Shp n d):Shp (n + 1) (.list ds):=by
 obtain ⟨h1,h2⟩:=shp_all h
 exact ⟨by simp only [PyData.canLay0,h1],by simp only [PyData.depth]; omega⟩
theorem shp_tuple {n:Nat} {ds:List PyData} (h:∀ d∈ds,Shp n d):Shp (n + 1) (.tuple ds):=by
 obtain ⟨h1,h2⟩:=shp_all h
 exact ⟨by simp only [PyData.canLay0,h1],by simp only [PyData.depth]; omega⟩
def shp_int (i:Int):Shp 0 (.int i):=⟨by simp only [PyData.canLay0],by simp only [PyData.depth]; exact Nat.le_refl _⟩
def shp_ints (ns:List Int):Shp 1 (.list (ns.map PyData.int)):=shp_list fun d hd=>by
 obtain ⟨i,_,rfl⟩:=List.mem_map.mp hd
 exact shp_int i
theorem eqv_nil (ns:List Int):PyData.eqv (.list (ns.map PyData.int)) (.list [])=decide (ns=[]):=by
 cases ns with
 | nil=>simp [PyData.eqv,PyData.eqvAll]
 | cons n r=>simp [PyData.eqv,PyData.eqvAll]
theorem cut_ints (ns:List Int) (lo hi:Option Int):∃ ms:List Int,cutV (ns.map V.int) lo hi=ms.map V.int/\ms.length<=ns.length/\∀ c∈ms,c∈ns:=by
 refine ⟨(ns.drop (HT.sIx (ns.map V.int).length 0 lo)).take (HT.sIx (ns.map V.int).length (ns.map V.int).length hi - HT.sIx (ns.map V.int).length 0 lo),?_,?_,?_⟩
 ·unfold cutV
  rw [List.map_take,List.map_drop]
 ·rw [List.length_take,List.length_drop]
  omega
 ·intro c hc
  exact List.mem_of_mem_drop (List.mem_of_mem_take hc)
def small_line {n:Nat} (h:n<=100000):n<=sizeLine:=Nat.le_trans h (by decide)
theorem cut_from {as:List V} {j:Int} (h0:0<=j) (h1:j<=as.length):cutV as (some j) none=as.drop j.toNat:=by
 obtain ⟨m,rfl⟩:=Int.eq_ofNat_of_zero_le h0
 unfold cutV
 rw [HT.sIx_nat,HT.sIx_none,Nat.min_eq_left (by omega),List.take_of_length_le (by rw [List.length_drop]; exact Nat.le_refl _)]
 rfl
theorem cut_to {as:List V} {j:Int} (h0:0<=j) (h1:j<=as.length):cutV as none (some j)=as.take j.toNat:=by
 obtain ⟨m,rfl⟩:=Int.eq_ofNat_of_zero_le h0
 unfold cutV
 rw [HT.sIx_nat,HT.sIx_none,Nat.min_eq_left (by omega),List.drop_zero,Nat.sub_zero]
 rfl
def HC (H H4:Hp) (cl:Addr):Prop:=∃ as:List Int,Same H H4/\H cl=none/\H4 cl=some (.lst (as.map V.int))/\as≠[]/\as.length<=63/\∀ c∈as,0<=c
theorem spun {as:List Int} (hne:as≠[]) (i:Int):∃ cs:List Int,cutV (as.map V.int) (some (i % ((as.map V.int).length:Nat))) none++cutV (as.map V.int) none (some (i % ((as.map V.int).length:Nat)))=cs.map V.int/\cs≠[]/\cs.length=as.length/\∀ c∈cs,c∈as:=by
 have hl:0 < as.length:=List.length_pos_iff.mpr hne
 have h0:0<=i % ((as.map V.int).length:Nat):=Int.emod_nonneg _ (by rw [List.length_map]; omega)
 have h1:i % ((as.map V.int).length:Nat) < ((as.map V.int).length:Nat):=Int.emod_lt_of_pos _ (by rw [List.length_map]; omega)
 generalize i % ((as.map V.int).length:Nat)=j at h0 h1
 rw [cut_from h0 (by omega),cut_to h0 (by omega)]
 rw [List.length_map] at h1
 refine ⟨as.drop j.toNat++as.take j.toNat,by rw [List.map_append,List.map_drop,List.map_take],?_,?_,?_⟩
 ·intro e
  have:=congrArg List.length e
  rw [List.length_append,List.length_drop,List.length_take] at this
  simp at this
  omega
 ·rw [List.length_append,List.length_drop,List.length_take]
  omega
 ·intro c hc
  rcases List.mem_append.mp hc with z | z
  ·exact List.mem_of_mem_drop z
  ·exact List.mem_of_mem_take z
theorem atI_some {α:Type} {xs:List α} {r:Int} (h0:0<=r) (h1:r < xs.length):∃ v,v∈xs/\atI xs r=some v:=by
 have hm:r.toNat < xs.length:=by omega
 obtain ⟨k,rfl⟩:=Int.eq_ofNat_of_zero_le h0
 have hm:k < xs.length:=hm
 exact ⟨xs[k],List.getElem_mem hm,atI_nat (List.getElem?_eq_getElem hm)⟩
def cal_mk {P:Program} {w:World} {K:W.Frag} {mg:Str->Option Value} {base:Heap} {x:Str} {st:Stmt} {f:Addr} {fd:FuncData} {k:Nat} {ps:List Str} {sp:Sp} (F:Fun K x x st f fd) (G:FnOk P w K mg base CX0 k f fd ps sp) (m:mg x=some (.ref f)) (b:Binds K fd ps []) :
  Cal P w K mg base x k ps sp:=⟨f,fd,G,m,F.kp,b⟩
end L2
set_option maxHeartbeats 4000000
namespace L2
open PySem PySem.W PyProof.Rows
def Rk (rk:Nat->Int) (p:Array Nat) (i:Nat):Int:=rk (p.getD i 0)
def SrtR (rk:Nat->Int) (p:Array Nat) (k:Nat):Prop:=∀ i j,i<=j->j < k->Rk rk p i<=Rk rk p j
structure GoodP (n:Nat) (p:Array Nat):Prop where
 perm:p.Perm (List.range n).toArray
def GoodP.size {n:Nat} {p:Array Nat} (g:GoodP n p):p.size=n:=by have:=g.perm.size_eq; simpa using this
def GoodP.lt {n:Nat} {p:Array Nat} (g:GoodP n p) (i:Nat) (hi:i < n):p.getD i 0 < n:=by
 have hi':i < p.size:=by rw [g.size]; exact hi
 have e:p.getD i 0=p[i]:=by simp [Array.getD,hi']
 rw [e]
 have hm:p[i]∈p.toList:=by simp
 have:=(Array.perm_iff_toList_perm.mp g.perm).mem_iff.mp hm
 simpa using this
def GoodP.ne {n:Nat} {p:Array Nat} (g:GoodP n p) {i j:Nat} (hi:i < n) (hj:j < n) (h:i≠j):p.getD i 0≠p.getD j 0:=by
 have nd:p.toList.Nodup:=(Array.perm_iff_toList_perm.mp g.perm).nodup_iff.mpr (by simpa using List.nodup_range)
 have hi':i < p.size:=by rw [g.size]; exact hi
 have hj':j < p.size:=by rw [g.size]; exact hj
 have e:p.getD i 0=p[i]:=by simp [Array.getD,hi']
 have e2:p.getD j 0=p[j]:=by simp [Array.getD,hj']
 rw [e,e2]
 intro z
 have:=(List.getElem_inj (h₀:=by simpa using hi') (h₁:=by simpa using hj') nd).mp (by simpa using z)
 exact h this
def getD_of_eq {p q:Array Nat} {i j:Nat} (h:p[i]?=q[j]?):p.getD i 0=q.getD j 0:=by
 rw [Array.getD_eq_getD_getElem?,Array.getD_eq_getD_getElem?,h]
def Rk_bubble {rk:Nat->Int} {xs:Array Nat} {src d:Nat} (hs:src < xs.size) (hd:d<=src) (k:Nat) :
  Rk rk (bubble xs src d) k=if k=src - d then Rk rk xs src else if src - d < k/\k<=src then Rk rk xs (k - 1) else Rk rk xs k:=by
 have e:=getElem?_bubble hs d hd k
 unfold Rk
 by_cases h1:k=src - d
 ·rw [if_pos h1] at e ⊢; rw [getD_of_eq e]
 ·rw [if_neg h1] at e ⊢
  by_cases h2:src - d < k/\k<=src
  ·rw [if_pos h2] at e ⊢; rw [getD_of_eq e]
  ·rw [if_neg h2] at e ⊢; rw [getD_of_eq e]
def Rk_rev {rk:Nat->Int} {xs:Array Nat} {j:Nat} (hj:j<=xs.size) (k:Nat) :
  Rk rk (kas_rev xs 0 j) k=if k < j then Rk rk xs (j - 1 - k) else Rk rk xs k:=by
 have e:=getElem?_mirror_all (xs:=xs) (i:=0) hj k
 unfold Rk kas_rev
 by_cases h1:k < j
 ·rw [if_pos ⟨Nat.zero_le _,h1⟩] at e
  rw [if_pos h1,getD_of_eq e,Nat.zero_add]
 ·rw [if_neg (fun z=>h1 z.2)] at e
  rw [if_neg h1,getD_of_eq e]
section
variable {rk:Nat->Int} {n:Nat} {cmp:Nat->Nat->(Bool->Shared->Prop)->Shared->Prop} {s:Shared}
def CmpR (rk:Nat->Int) (n:Nat) (cmp:Nat->Nat->(Bool->Shared->Prop)->Shared->Prop) (s:Shared):Prop :=
 ∀ i j (C:Bool->Shared->Prop),i < n->j < n->C (decide (rk i < rk j)) s->cmp i j C s
theorem asc_R (hc:CmpR rk n cmp s) {p:Array Nat} (g:GoodP n p) {G:Nat->Shared->Prop}:∀ (f m:Nat),1<=m->m + f<=n->SrtR rk p m ->
  (∀ m',m<=m'->m'<=m + f->SrtR rk p m'->(m'=m + f\/(m' < n/\Rk rk p m' < Rk rk p (m' - 1)))->G m' s)->(kas_asc p f m).kasWp cmp G s
 | 0,m,_,_,hs,h=>h m (Nat.le_refl _) (Nat.le_refl _) hs (.inl rfl)
 | f + 1,m,h1,h2,hs,h=>by
  show cmp (p.getD m 0) (p.getD (m - 1) 0) _ s
  refine hc _ _ _ (g.lt _ (by omega)) (g.lt _ (by omega)) ?_
  by_cases q:rk (p.getD m 0) < rk (p.getD (m - 1) 0)
  ·simp only [q,decide_true,if_true]
   exact h m (Nat.le_refl _) (by omega) hs (.inr ⟨by omega,q⟩)
  ·simp only [q,decide_false,Bool.false_eq_true,if_false]
   refine asc_R hc g f (m + 1) (by omega) (by omega) (fun i j hij hj=>?_) fun m' a b c d=>h m' (by omega) (by omega) c (by
    rcases d with d | d
    ·exact .inl (by omega)
    ·exact .inr d)
   by_cases hjm:j=m
   ·subst hjm
    by_cases him:i=j
    ·subst him; exact Int.le_refl _
    ·exact Int.le_trans (hs i (j - 1) (by omega) (by omega)) (Int.not_lt.mp q)
   ·exact hs i j hij (by omega)
theorem desc_R (hc:CmpR rk n cmp s) (inj:∀ i j,i < n->j < n->rk i=rk j->i=j) {p:Array Nat} (g:GoodP n p) {G:Array Nat×Nat×Nat->Shared->Prop}:∀ (f m:Nat),1<=m->m + f<=n ->
  (∀ i j,i < j->j < m->Rk rk p j < Rk rk p i) ->
  (∀ m',m<=m'->m'<=m + f->(∀ i j,i < j->j < m'->Rk rk p j < Rk rk p i)->G (p,m',0) s)->(kas_desc f p m 0).kasWp cmp G s
 | 0,m,_,_,hs,h=>h m (Nat.le_refl _) (Nat.le_refl _) hs
 | f + 1,m,h1,h2,hs,h=>by
  show cmp (p.getD m 0) (p.getD (m - 1) 0) _ s
  refine hc _ _ _ (g.lt _ (by omega)) (g.lt _ (by omega)) ?_
  by_cases q:rk (p.getD m 0) < rk (p.getD (m - 1) 0)
  ·simp only [q,decide_true,if_true,Nat.lt_irrefl,if_false,gt_iff_lt]
   refine desc_R hc inj g f (m + 1) (by omega) (by omega) (fun i j hij hj=>?_) fun m' a b c=>h m' (by omega) (by omega) c
   by_cases hjm:j=m
   ·subst hjm
    by_cases him:i=j - 1
    ·subst him; exact q
    ·exact Int.lt_trans q (hs i (j - 1) (by omega) (by omega))
   ·exact hs i j hij (by omega)
  ·simp only [q,decide_false,Bool.false_eq_true,if_false]
   show cmp (p.getD (m - 1) 0) (p.getD m 0) _ s
   refine hc _ _ _ (g.lt _ (by omega)) (g.lt _ (by omega)) ?_
   have lt2:rk (p.getD (m - 1) 0) < rk (p.getD m 0):=by
    have ne:rk (p.getD (m - 1) 0)≠rk (p.getD m 0):=fun z=>g.ne (by omega) (by omega) (by omega:m - 1≠m) (inj _ _ (g.lt _ (by omega)) (g.lt _ (by omega)) z)
    omega
   simp only [lt2,decide_true,if_true]
   exact h m (Nat.le_refl _) (by omega) hs
def GoodP.rev {p:Array Nat} (g:GoodP n p) (i j:Nat):GoodP n (kas_rev p i j):=⟨(mirror_perm _ _ _ _).trans g.perm⟩
theorem count_R (hc:CmpR rk n cmp s) (inj:∀ i j,i < n->j < n->rk i=rk j->i=j) (h2:2<=n) {p:Array Nat} (g:GoodP n p) {G:Nat×Array Nat->Shared->Prop}
  (h:∀ m p',1<=m->m<=n->GoodP n p'->SrtR rk p' m->G (m,p') s):(kas_count n p).kasWp cmp G s:=by
 unfold kas_count
 rw [KasT.kasWp_bind]
 refine asc_R hc g (n - 1) 1 (Nat.le_refl _) (by omega) (fun i j hij hj=>by rw [show i=j by omega]; exact Int.le_refl _) fun m a b c d=>?_
 by_cases e:m=n
 ·subst e
  simp only [beq_self_eq_true,if_true]
  exact h m p (by omega) (Nat.le_refl _) g c
 ·have hb:(m == n)=false:=by simpa using e
  simp only [hb,Bool.false_eq_true,if_false]
  have hd:m < n/\Rk rk p m < Rk rk p (m - 1):=by
   rcases d with d | d
   ·omega
   ·exact d
  by_cases hm:m > 1
  ·rw [if_pos hm]
   show cmp (p.getD 0 0) (p.getD (m - 1) 0) _ s
   refine hc _ _ _ (g.lt _ (by omega)) (g.lt _ (by omega)) ?_
   have lt2:rk (p.getD 0 0) < rk (p.getD (m - 1) 0):=by
    have ne:rk (p.getD 0 0)≠rk (p.getD (m - 1) 0):=fun z=>g.ne (by omega) (by omega) (by omega:0≠m - 1) (inj _ _ (g.lt _ (by omega)) (g.lt _ (by omega)) z)
    have le:=c 0 (m - 1) (by omega) (by omega)
    unfold Rk at le
    omega
   simp only [lt2,decide_true,if_true]
   exact h m p (by omega) (by omega) g c
  ·rw [if_neg hm]
   have hm1:m=1:=by omega
   subst hm1
   unfold kas_descPart
   rw [KasT.kasWp_bind]
   refine desc_R hc inj g (n - 2) 2 (by omega) (by omega) (fun i j hij hj=>?_) fun m' a' b' c'=>?_
   ·have:j=1:=by omega
    have:i=0:=by omega
    subst i; subst j
    exact hd.2
   ·simp only [gt_iff_lt,Nat.lt_irrefl,if_false]
    unfold kas_tail3
    rw [KasT.kasWp_bind]
    have hm':m'<=n:=by omega
    refine asc_R hc (g.rev 0 m') (n - m') m' (by omega) (by omega) (fun i j hij hj=>?_) fun k a2 b2 c2 _=>?_
    ·rw [Rk_rev (by rw [g.size]; exact hm'),Rk_rev (by rw [g.size]; exact hm'),if_pos (by omega),if_pos hj]
     by_cases hij2:i=j
     ·subst hij2; exact Int.le_refl _
     ·exact Int.le_of_lt (c' _ _ (by omega) (by omega))
    ·show G (k,kas_rev p 0 m') s
     exact h k _ (by omega) (by omega) (g.rev 0 m') c2
theorem place_R (hc:CmpR rk n cmp s) {p:Array Nat} (g:GoodP n p) {k:Nat} (hk:k < n) (hs:SrtR rk p k) {G:Nat->Shared->Prop}
  (h:∀ l,l<=k->(∀ i,i < l->Rk rk p i<=Rk rk p k)->(∀ i,l<=i->i < k->Rk rk p k < Rk rk p i)->G l s):∀ (f l r:Nat),l<=r->r<=k->r - l<=f ->
  (∀ i,i < l->Rk rk p i<=Rk rk p k)->(∀ i,r<=i->i < k->Rk rk p k < Rk rk p i)->(kas_place p k f l r).kasWp cmp G s
 | 0,l,r,h1,h2,h3,lo,hi=>by
  have:l=r:=by omega
  subst this
  exact h l h2 lo hi
 | f + 1,l,r,h1,h2,h3,lo,hi=>by
  unfold kas_place
  by_cases hge:l≥r
  ·rw [if_pos hge]
   have:l=r:=by omega
   subst this
   exact h l h2 lo hi
  ·rw [if_neg hge]
   show cmp (p.getD k 0) (p.getD ((l + r) / 2) 0) _ s
   refine hc _ _ _ (g.lt _ hk) (g.lt _ (by omega)) ?_
   by_cases q:rk (p.getD k 0) < rk (p.getD ((l + r) / 2) 0)
   ·simp only [q,decide_true,if_true]
    exact place_R hc g hk hs h f l ((l + r) / 2) (by omega) (by omega) (by omega) lo fun i a b=>Int.lt_of_lt_of_le q (hs _ _ a b)
   ·simp only [q,decide_false,Bool.false_eq_true,if_false]
    exact place_R hc g hk hs h f ((l + r) / 2 + 1) r (by omega) (by omega) (by omega) (fun i a=>Int.le_trans (hs i ((l + r) / 2) (by omega) (by omega)) (Int.not_lt.mp q)) hi
theorem bin_R (hc:CmpR rk n cmp s) {G:Array Nat->Shared->Prop} (h:∀ p,GoodP n p->SrtR rk p n->G p s):∀ (f:Nat) (p:Array Nat) (k:Nat),k + f=n->GoodP n p->SrtR rk p k->(kas_bin f p k).kasWp cmp G s
 | 0,p,k,e,g,hs=>h p g (by rw [<- e]; exact hs)
 | f + 1,p,k,e,g,hs=>by
  unfold kas_bin
  rw [KasT.kasWp_bind]
  refine place_R hc g (by omega) hs (fun l hl lo hi=>?_) k 0 k (Nat.zero_le _) (Nat.le_refl _) (by omega) (fun i z=>absurd z (Nat.not_lt_zero _)) (fun i a b=>by omega)
  refine bin_R hc h f _ (k + 1) (by omega) ⟨(bubble_perm _ _ _).trans g.perm⟩ fun i j hij hj=>?_
  have hks:k < p.size:=by rw [g.size]; omega
  rw [Rk_bubble hks (by omega),Rk_bubble hks (by omega),show k - (k - l)=l by omega]
  repeat' split
  all_goals first
   | (exfalso; omega)
   | exact Int.le_refl _
   | exact lo _ (by omega)
   | exact Int.le_of_lt (hi _ (by omega) (by omega))
   | exact hs _ _ (by omega) (by omega)
theorem sort_R (hc:CmpR rk n cmp s) (inj:∀ i j,i < n->j < n->rk i=rk j->i=j) (h2:2<=n) {G:Array Nat->Shared->Prop} (h:∀ p,GoodP n p->SrtR rk p n->G p s):(kas_sort n).kasWp cmp G s:=by
 unfold kas_sort
 rw [KasT.kasWp_bind]
 refine count_R hc inj h2 ⟨Array.Perm.refl _⟩ fun m p' a b g hs=>?_
 by_cases hm:m < n
 ·rw [if_pos hm]
  have e:max m 1=m:=by omega
  rw [e]
  exact bin_R hc h (n - m) p' m (by omega) g hs
 ·rw [if_neg hm]
  have:m=n:=by omega
  subst this
  exact h p' g hs
end
end L2
namespace L2
open PySem PySem.W PyProof.Rows HT
theorem lex_irr:∀ a:List Int,lexLt a a=false
 | []=>rfl
 | x::r=>by rw [lexLt_cons,if_pos rfl]; exact lex_irr r
theorem lex_trans:∀ {a b c:List Int},lexLt a b=true->lexLt b c=true->lexLt a c=true
 | [],[],_,h,_=>by rw [lexLt_nil_nil] at h; cases h
 | [],_::_,[],_,h=>by rw [lexLt_cons_nil] at h; cases h
 | [],_::_,_::_,_,_=>rfl
 | _::_,[],_,h,_=>by rw [lexLt_cons_nil] at h; cases h
 | _::_,_::_,[],_,h=>by rw [lexLt_cons_nil] at h; cases h
 | x::a,y::b,z::c,h1,h2=>by
  rw [lexLt_cons] at h1 h2 ⊢
  by_cases e1:x=y
  ·subst e1
   rw [if_pos rfl] at h1
   by_cases e2:x=z
   ·rw [if_pos e2] at h2 ⊢; exact lex_trans h1 h2
   ·rw [if_neg e2] at h2 ⊢; exact h2
  ·rw [if_neg e1] at h1
   have l1:x < y:=of_decide_eq_true h1
   by_cases e2:y=z
   ·subst e2; rw [if_neg e1]; exact h1
   ·rw [if_neg e2] at h2
    have l2:y < z:=of_decide_eq_true h2
    rw [if_neg (by omega)]
    exact decide_eq_true (by omega)
theorem lex_tot:∀ {a b:List Int},lexLt a b=false->lexLt b a=false->a=b
 | [],[],_,_=>rfl
 | [],_::_,h,_=>by rw [lexLt_nil_cons] at h; cases h
 | _::_,[],_,h=>by rw [lexLt_nil_cons] at h; cases h
 | x::a,y::b,h1,h2=>by
  rw [lexLt_cons] at h1 h2
  by_cases e:x=y
  ·subst e
   rw [if_pos rfl] at h1 h2
   rw [lex_tot h1 h2]
  ·rw [if_neg e] at h1
   rw [if_neg (fun z=>e z.symm)] at h2
   have:=of_decide_eq_false h1
   have:=of_decide_eq_false h2
   omega
theorem countP_lt {α:Type} {p q:α->Bool}:∀ {l:List α},(∀ x∈l,p x=true->q x=true)->(∃ x∈l,q x=true/\p x=false)->l.countP p < l.countP q
 | [],_,⟨_,h,_⟩=>nomatch h
 | a::l,h1,⟨x,hx,hq,hp⟩=>by
  have le:l.countP p<=l.countP q:=List.countP_mono_left fun y hy=>h1 y (List.mem_cons_of_mem _ hy)
  rw [List.countP_cons,List.countP_cons]
  rcases List.mem_cons.mp hx with e | hx
  ·subst e
   rw [hq,hp]
   simp
   omega
  ·have lt:=countP_lt (fun y hy=>h1 y (List.mem_cons_of_mem _ hy)) ⟨x,hx,hq,hp⟩
   have:=h1 a List.mem_cons_self
   cases ha:p a <;> cases hb:q a <;> simp_all <;> omega
def rankOf (ks:List (List Int)) (i:Nat):Int:=((List.range ks.length).countP fun j=>lexLt (ks.getD j []) (ks.getD i []):Nat)
theorem rank_lt {ks:List (List Int)} {i j:Nat} (hi:i < ks.length) (h:lexLt (ks.getD i []) (ks.getD j [])=true):rankOf ks i < rankOf ks j:=by
 unfold rankOf
 have:=countP_lt (l:=List.range ks.length) (p:=fun x=>lexLt (ks.getD x []) (ks.getD i [])) (q:=fun x=>lexLt (ks.getD x []) (ks.getD j [])) (fun x _ hx=>lex_trans hx h) ⟨i,List.mem_range.mpr hi,h,lex_irr _⟩
 omega
theorem rank_dec {ks:List (List Int)} (nd:ks.Nodup) {i j:Nat} (hi:i < ks.length) (hj:j < ks.length):decide (rankOf ks i < rankOf ks j)=lexLt (ks.getD i []) (ks.getD j []):=by
 cases e:lexLt (ks.getD i []) (ks.getD j []) with
 | true=>exact decide_eq_true (rank_lt hi e)
 | false =>
  refine decide_eq_false fun z=>?_
  cases e2:lexLt (ks.getD j []) (ks.getD i []) with
  | true=>have:=rank_lt hj e2; omega
  | false =>
   have e3:=lex_tot e e2
   unfold rankOf at z
   rw [e3] at z
   exact absurd z (Int.lt_irrefl _)
theorem rank_inj {ks:List (List Int)} (nd:ks.Nodup) {i j:Nat} (hi:i < ks.length) (hj:j < ks.length) (h:rankOf ks i=rankOf ks j):i=j:=by
 have e1:lexLt (ks.getD i []) (ks.getD j [])=false:=by rw [<- rank_dec nd hi hj]; exact decide_eq_false (by omega)
 have e2:lexLt (ks.getD j []) (ks.getD i [])=false:=by rw [<- rank_dec nd hj hi]; exact decide_eq_false (by omega)
 have e3:=lex_tot e1 e2
 rw [List.getD_eq_getElem?_getD,List.getD_eq_getElem?_getD,List.getElem?_eq_getElem hi,List.getElem?_eq_getElem hj] at e3
 exact (List.getElem_inj (h₀:=hi) (h₁:=hj) nd).mp (by simpa using e3)
section
variable {prog:Program} {w:World} {A:Around} {s:Shared}
theorem lex_walk {Q:Bool->Shared->Prop}:∀ {vs ws:List Value} {ns ms:List Int} {fin:Bool} {i:Nat},IntsAre vs ns->IntsAre ws ms->(fin=decide (ns.length < ms.length))->Q (lexLt ns ms) s->KatLex prog w A true fin Q (vs.zip ws) i s
 | _,_,_,_,fin,i,.nil,.nil,e,h=>by
  subst e
  exact kat_nil h
 | _,_,_,_,fin,i,.nil,.cons _ _ r,e,h=>by
  subst e
  exact kat_nil (by simpa [HT.lexLt] using h)
 | _,_,_,_,fin,i,.cons _ _ r,.nil,e,h=>by
  subst e
  exact kat_nil (by simpa [HT.lexLt] using h)
 | _,_,_,_,fin,i,.cons a t r,.cons c u r2,e,h=>by
  rw [List.zip_cons_cons]
  refine kat_cons (wpAny_eqBool_int ?_)
  rw [lexLt_cons] at h
  by_cases z:a=c
  ·subst z
   rw [if_pos rfl] at h
   rw [beq_self_eq_true]
   exact kat_yes (lex_walk r r2 (by rw [e]; simp) h)
  ·rw [if_neg z] at h
   have hb:(a == c)=false:=by simpa using z
   rw [hb]
   refine kat_no ?_
   cases hi:(true && i == 0) with
   | true=>exact oneLt_int h
   | false=>exact kat_one _ _ (PyProof.Rows.lt_int (show PySem.W.BoolBack Q (.bool (decide (a < c))) s from h))
end
abbrev KIt:=V×Addr×List Int
section
variable {X:Cx} {pins:List (Addr×Obj)} {σ:St} {H:Hp} {s:Shared}
def Inv.pin1 {b:Addr} {o:Obj} (I:Inv X pins σ H s) (f:FpOk X pins H b) (e:s.heap.get? b=some o) (hd:∀ v,o.data≠.cell v):Inv X (pins++[(b,o)]) σ H s :=
 I.pins_of fun p hp=>(List.mem_append.mp hp).elim (fun z=>I.pin p (List.mem_append_right _ z)) fun z=>by
  rw [List.mem_singleton.mp z]
  exact ⟨e,f.1,f.2.1,f.2.2.1,hd⟩
def Inv.turn1 {b:Addr} {h':Heap} (I:Inv X pins σ H s) (f:FpOk X pins H b) (hs:Heap.SameBut b s.heap h'):Inv X pins σ H { s with heap:=h' } :=
 I.turned (t':=s.toks) (fun c o hc e=>(hs.2 c hc).trans e) f.1 f.2.1 f.2.2.2.1 f.2.2.2.2.1 f.2.2.2.2.2
def FpOk.snoc {b c:Addr} {o:Obj} (f:FpOk X pins H b) (h:c≠b):FpOk X (pins++[(c,o)]) H b :=
 ⟨f.1,f.2.1,f.2.2.1,f.2.2.2.1,f.2.2.2.2.1,fun p hp=>by
  rw [<- List.append_assoc] at hp
  rcases List.mem_append.mp hp with z | z
  ·exact f.2.2.2.2.2 p z
  ·rw [List.mem_singleton.mp z]; exact h⟩
def keyVals (L:List KIt):List Value:=L.map fun q=>Value.ref q.2.1
def getD_map' {α β:Type} {f:α->β} {l:List α} {i:Nat} {d:β} (h:i < l.length):(l.map f).getD i d=f l[i]:=by
 rw [List.getD_eq_getElem?_getD,List.getElem?_map,List.getElem?_eq_getElem h]; rfl
theorem key_kind {L:List KIt} (I:Inv X pins σ H s) (hk:∀ q∈L,SqT X.K H q.2.1 (q.2.2.map V.int)/\q.2.2≠[]) (h2:0 < L.length) {E:Value->Shared->Prop} {A:Around} {Q:SortKind->Shared->Prop} (h:Q (tuples' true) s) :
  wpAny (model X.prog X.w) A (keyKind' (keyVals L).toArray) Q E s:=by
 have tk:∀ L':List KIt,(∀ q∈L',q∈L)->∃ fs:List Value,KatTups s.heap (keyVals L') fs/\fs.length=L'.length/\∀ v∈fs,∃ n t,v=.int n t:=by
  intro L'
  induction L' with
  | nil=>intro _; exact ⟨[],.nil,rfl,fun v hv=>nomatch hv⟩
  | cons q r ih =>
   intro hm
   obtain ⟨fs,a,b,c⟩:=ih fun x hx=>hm x (List.mem_cons_of_mem _ hx)
   obtain ⟨sq,ne⟩:=hk q (hm q List.mem_cons_self)
   obtain ⟨its,rv,⟨o,e,hc,n,hd⟩,_⟩:=I.tuple sq
   match hq:q.2.2,ne with
   | z::zs,_ =>
    rw [hq] at rv
    cases rv with
    | cons rv1 rv2 =>
     obtain ⟨t,et⟩:=rv1
     refine ⟨.int z t::fs,KatTups.cons e hc hd ?_ a,by simp [b],fun v hv=>?_⟩
     ·rw [et]; simp
     ·rcases List.mem_cons.mp hv with e | hv
      ·exact ⟨z,t,e⟩
      ·exact c v hv
 obtain ⟨fs,a,b,c⟩:=tk L fun _ h=>h
 exact kat_kind (T:=.type "int") a (by omega) (fun v hv=>by obtain ⟨n,t,e⟩:=c v hv; subst e; exact .now) (by decide) h
def key_cmp {L:List KIt} (I:Inv X pins σ H s) (hk:∀ q∈L,SqT X.K H q.2.1 (q.2.2.map V.int)/\q.2.2≠[]) (nd:(L.map (·.2.2)).Nodup) {A:Around} :
  CmpR (rankOf (L.map (·.2.2))) L.length (kas_ask X.prog X.w A (tuples' true) (keyVals L)) s:=by
 intro i j C hi hj h
 rw [rank_dec nd (by simpa using hi) (by simpa using hj),getD_map' hi,getD_map' hj] at h
 unfold kas_ask
 rw [show (keyVals L).getD i Value.none=Value.ref L[i].2.1 from getD_map' hi,show (keyVals L).getD j Value.none=Value.ref L[j].2.1 from getD_map' hj]
 obtain ⟨its,rv,⟨o,e,hc,n,hd⟩,_⟩:=I.tuple (hk _ (List.getElem_mem hi)).1
 obtain ⟨its2,rv2,⟨o2,e2,hc2,n2,hd2⟩,_⟩:=I.tuple (hk _ (List.getElem_mem hj)).1
 have ia:∀ {ns:List Int} {vs:List Value},Vals (ns.map V.int) vs->IntsAre vs ns:=by
  intro ns
  induction ns with
  | nil=>intro vs h; cases h; exact .nil
  | cons a r ih =>
   intro vs h
   cases h with
   | cons h1 h2=>obtain ⟨t,e⟩:=h1; subst e; exact .cons a t (ih h2)
 refine kat_lt e hd e2 hd2 ?_
 have i1:=ia rv
 have i2:=ia rv2
 exact lex_walk i1 i2 (by rw [<- i1.length,<- i2.length]; simp) h
end
section
variable {X:Cx} {pins:List (Addr×Obj)} {σ:St} {H:Hp} {s:Shared} {E:Value->Shared->Prop} {A:Around}
abbrev PD (D:Addr) (e1:Nat):Addr×Obj:=(D,seqObj "list" #[] e1)
abbrev PKs (kS:Addr) (e:Nat) (L:List KIt):Addr×Obj:=(kS,seqObj "list" (keyVals L).toArray e)
theorem Vals.perm_get {L:List KIt} {its:List Value} (rv:Vals (L.map (·.1)) its) {p:List Nat} (hp:∀ i∈p,i < L.length):Vals (p.map fun i=>(L.getD i (.non,0,[])).1) (p.map fun i=>its.getD i Value.none):=by
 have e:=rv.length
 simp only [List.length_map] at e
 induction p with
 | nil=>exact .nil
 | cons i r ih =>
  have hi:=hp i List.mem_cons_self
  have hi2:i < its.length:=by omega
  obtain ⟨u,hu,r1⟩:=Vals.get rv (i:=i) (x:=L[i].1) (by rw [List.getElem?_map,List.getElem?_eq_getElem hi]; rfl)
  refine .cons ?_ (ih fun j hj=>hp j (List.mem_cons_of_mem _ hj))
  show RelV (L.getD i (.non,0,[])).1 (its.getD i Value.none)
  rw [List.getD_eq_getElem?_getD,List.getD_eq_getElem?_getD,hu,List.getElem?_eq_getElem hi]
  exact r1
theorem sort_tail {D kS:Addr} {e e1:Nat} {L L':List KIt} {st:SortSt} {out:List Value} {P:PySem.Fin->Shared->Prop} (I:Inv X ((pins++[PD D e1])++[PKs kS e L]) σ H s) (h64:L.length < 64) (fD:FpOk X pins H D) (fK:FpOk X (pins++[PD D e1]) H kS)
  (hout:(arrOf st).map (·.2)=out.toArray) (hf:failedOf st=none) (rv:Vals (L'.map (·.1)) out) (hl:L'.length=L.length)
  (h:∀ s',Inv X pins σ (upd H D (.lst (L'.map (·.1)))) s'->P (.done (.ret .none)) s'):wpAny (model X.prog X.w) A (ksk_tail D false e1 (.ref kS) st) P E s:=by
 have pk:=I.pin (PKs kS e L) (List.mem_append_right _ (List.mem_append_right _ (List.mem_singleton.mpr rfl)))
 have s1:=Heap.SameBut.update s.heap kS (Obj.mapSeq fun _=>(#[]:Array Value))
 have I1:=(I.unpinned (pl:=[PKs kS e L])).turn1 fK s1
 have pd:=I1.pin (PD D e1) (List.mem_append_right _ (List.mem_append_right _ (List.mem_singleton.mpr rfl)))
 have s2:=Heap.SameBut.update (s.heap.update kS (Obj.mapSeq fun _=>(#[]:Array Value))) D (Obj.mapSeq fun _=>out.toArray)
 obtain ⟨c2,hc2⟩:∃ c2,((s.heap.update kS (Obj.mapSeq fun _=>(#[]:Array Value))).update D (Obj.mapSeq fun _=>out.toArray)).get? D=some (seqObj "list" out.toArray c2):=⟨_,get?_update_seq pd.1 fun _=>out.toArray⟩
 have lo:out.length=L.length:=by have:=rv.length; simp only [List.length_map] at this; omega
 have hz:L'.length<=sizeLine:=by rw [sizeLine_eq]; omega
 unfold ksk_tail
 try dsimp only
 rw [hout]
 refine wpAny_bind (listUpdate_at pk.1 rfl ?_ (by simp only [List.size_toArray,keyVals,List.length_map,sizeLine_eq]; omega) (Nat.zero_le _))
 refine wpAny_bind (wpAny_letGo ?_)
 refine wpAny_bind (seqEpoch_at pd.1 rfl ?_)
 refine wpAny_bind (listUpdate_at pd.1 rfl ?_ (Nat.zero_le _) (by simp only [List.size_toArray,sizeLine_eq,Bool.false_eq_true,if_false]; omega))
 rw [hf]
 simp only [bne_self_eq_false,Bool.false_eq_true,if_false]
 refine wpAny_pure (h _ ?_)
 have I2:=(I1.unpinned (pl:=[PD D e1])).turn1 fD s2
 exact I2.track (its:=out) (n:=c2) hc2 fD rv (by rw [List.length_map]; exact hz)
theorem sort_end {D kS:Addr} {e e1:Nat} {L:List KIt} {its:List Value} {P:PySem.Fin->Shared->Prop} (I:Inv X ((pins++[PD D e1])++[PKs kS e L]) σ H s) (h64:L.length < 64) (fD:FpOk X pins H D) (fK:FpOk X (pins++[PD D e1]) H kS)
  (hk:∀ q∈L,SqT X.K H q.2.1 (q.2.2.map V.int)/\q.2.2≠[]) (nd:(L.map (·.2.2)).Nodup) (rv:Vals (L.map (·.1)) its)
  (h:∀ (s':Shared) (L':List KIt),L'.Perm L->L'.Pairwise (fun a b=>HT.lexLt a.2.2 b.2.2=true)->Inv X pins σ (upd H D (.lst (L'.map (·.1)))) s'->P (.done (.ret .none)) s') :
  wpAny (model X.prog X.w) A (ksk_end D false its.toArray e1 (.ref kS) (keyVals L).toArray) P E s:=by
 have el:its.length=L.length:=by have:=rv.length; simp only [List.length_map] at this; omega
 have ek:(keyVals L).length=its.length:=by rw [el]; simp [keyVals]
 unfold ksk_end
 try dsimp only
 simp only [Bool.false_eq_true,if_false]
 by_cases h2:its.toArray.size < 2
 ·rw [if_pos h2]
  refine wpAny_bind (wpAny_pure ?_)
  rw [if_pos h2]
  have h2':its.length < 2:=by simpa using h2
  refine wpAny_bind (m:=(pure ():StateT SortSt Sem Unit).run _) (wpAny_pure ?_)
  refine sort_tail (L':=L) (out:=its) I h64 fD fK ?_ rfl rv rfl fun s'=>h s' L (List.Perm.refl _) ?_
  ·show (((keyVals L).toArray.zip its.toArray).map (·.2))=its.toArray
   apply Array.toList_inj.mp
   rw [Array.toList_map,ksk_zip]
   simp only [List.map_snd_zip (by omega:its.length<=(keyVals L).length)]
  ·match L,el with
   | [],_=>exact .nil
   | [q],_=>exact List.pairwise_singleton _ _
   | _::_::_,el=>simp only [List.length_cons] at el; omega
 ·rw [if_neg h2,if_neg h2]
  have h2':2<=its.length:=by simpa using h2
  refine wpAny_bind (key_kind (I.unpinned (pl:=[PKs kS e L])) hk (by omega) ?_)
  refine wpAny_bind (wpAny_mono (kat_run (vs:=its) (ks:=keyVals L) (G:=fun p s'=>s'=s/\GoodP L.length p/\SrtR (rankOf (L.map (·.2.2))) p L.length) (Q:=fun st' s'=>∃ p:Array Nat,s'=s/\GoodP L.length p/\SrtR (rankOf (L.map (·.2.2))) p L.length/\arrOf st'=p.map (kas_item ((keyVals L).toArray.zip its.toArray))/\failedOf st'=none) ek h2' (by omega)
   (fun p st' s' a1 a2 a3 a4=>⟨p,a4.1,a4.2.1,a4.2.2,a2,a3⟩)
   (by
    rw [el]
    exact sort_R (key_cmp (I.unpinned (pl:=[PKs kS e L])) hk nd) (fun i j hi hj z=>rank_inj nd (by simpa using hi) (by simpa using hj) z) (by omega) (G:=fun p s'=>s'=s/\GoodP L.length p/\SrtR (rankOf (L.map (·.2.2))) p L.length) fun p g hs=>⟨rfl,g,hs⟩)) ?_ fun _ _ x=>x)
  rintro ⟨⟨⟩,st'⟩ s' ⟨p,rfl,g,hs,har,hf⟩
  have hp:∀ i∈p.toList,i < L.length:=fun i hi=>by
   have:=(Array.perm_iff_toList_perm.mp g.perm).mem_iff.mp hi
   simpa using this
  have pl:p.toList.Perm (List.range L.length):=by have:=Array.perm_iff_toList_perm.mp g.perm; simpa using this
  have hmap:∀ (F:KIt->V),(p.toList.map fun i=>F (L.getD i (.non,0,[])))=(p.toList.map fun i=>L.getD i (.non,0,[])).map F:=fun F=>by rw [List.map_map]; rfl
  have rangeL:(List.range L.length).map (fun i=>L.getD i (.non,0,[]))=L:=by
   apply List.ext_getElem
   ·simp
   ·intro i h1 h2; simp [List.getD_eq_getElem?_getD,h2]
  refine sort_tail (L':=p.toList.map fun i=>L.getD i (.non,0,[])) (out:=p.toList.map fun i=>its.getD i Value.none) I h64 fD fK (kat_snds ek har) hf (by rw [<- hmap (·.1)]; exact Vals.perm_get rv hp) (by rw [List.length_map,Array.length_toList,g.size]) fun s'=>h s' _ ?_ ?_
  ·have:=pl.map fun i=>L.getD i (.non,0,[])
   rwa [rangeL] at this
  ·rw [List.pairwise_iff_getElem]
   intro i j hi hj hij
   simp only [List.length_map,Array.length_toList,g.size] at hi hj
   have gi:=g.lt i hi
   have gj:=g.lt j hj
   have hle:=hs i j (Nat.le_of_lt hij) hj
   have hne:=g.ne hi hj (Nat.ne_of_lt hij)
   unfold Rk at hle
   have hlt:rankOf (L.map (·.2.2)) (p.getD i 0) < rankOf (L.map (·.2.2)) (p.getD j 0):=by
    rcases Int.lt_or_eq_of_le hle with z | z
    ·exact z
    ·exact absurd (rank_inj nd (by simpa using gi) (by simpa using gj) z) hne
   have hd:=rank_dec nd (i:=p.getD i 0) (j:=p.getD j 0) (by simpa using gi) (by simpa using gj)
   rw [decide_eq_true hlt,getD_map' gi,getD_map' gj] at hd
   have ei:p.getD i 0=p[i]'(by rw [g.size]; exact hi):=by simp [Array.getD,g.size,hi]
   have ej:p.getD j 0=p[j]'(by rw [g.size]; exact hj):=by simp [Array.getD,g.size,hj]
   simp only [List.getElem_map,Array.getElem_toList,List.getD_eq_getElem?_getD]
   have gi':=gi
   have gj':=gj
   rw [ei] at gi'
   rw [ej] at gj'
   rw [List.getElem?_eq_getElem gi',List.getElem?_eq_getElem gj']
   simp only [ei,ej] at hd
   exact hd.symm
end
section
variable {X:Cx} {pins:List (Addr×Obj)} {σ:St} {H:Hp} {s:Shared} {E:Value->Shared->Prop}
theorem sort_rest {D kS f:Addr} {e1:Nat} {L:List KIt} {its:List Value} {P:PySem.Fin->Shared->Prop} {A:Around} (I:Inv X ((pins++[PD D e1])++[PKs kS 0 []]) σ H s) (h64:L.length < 64) (fD:FpOk X pins H D) (fK:FpOk X (pins++[PD D e1]) H kS)
  (hk:∀ q∈L,SqT X.K H q.2.1 (q.2.2.map V.int)/\q.2.2≠[]) (nd:(L.map (·.2.2)).Nodup) (rv:Vals (L.map (·.1)) its)
  (hcall:∀ (pins':List (Addr×Obj)) (s':Shared) (q:KIt) (u:Value),(∀ p∈pins,p∈pins')->Inv X pins' σ H s'->q∈L->RelV q.1 u->wpAny (model X.prog X.w) A (call (.ref f) [u]) (EP X pins' σ fun v H'=>v=.ref q.2.1/\H'=H) (fun _ _=>False) s')
  (h:∀ (s':Shared) (L':List KIt),L'.Perm L->L'.Pairwise (fun a b=>HT.lexLt a.2.2 b.2.2=true)->Inv X pins σ (upd H D (.lst (L'.map (·.1)))) s'->P (.done (.ret .none)) s') :
  wpAny (model X.prog X.w) A (ksk_rest D (.ref f) false its.toArray e1 (.ref kS)) P E s:=by
 have el:its.length=L.length:=by have:=rv.length; simp only [List.length_map] at this; omega
 unfold ksk_rest
 refine wpAny_bind (wpAny_rule ?_)
 first
  | rw [List.forIn_toArray]
  | (rw [<- Array.forIn_toList]; simp only [List.toList_toArray])
  | rw [<- Array.forIn_toList]
 refine wpAny_bind (ksk_fold (fun n s'=>∃ e,Inv X ((pins++[PD D e1])++[PKs kS e (L.take n)]) σ H s') its 0 s ⟨0,by simpa using I⟩ (fun j x s' hx ⟨e,J⟩=>?_) fun s' ⟨e,J⟩=>?_)
 ·simp only [Nat.zero_add] at J ⊢
  have hj:j < its.length:=(List.getElem?_eq_some_iff.mp hx).1
  have hj':j < L.length:=by omega
  obtain ⟨u,hu,r1⟩:=Vals.get rv (i:=j) (x:=L[j].1) (by rw [List.getElem?_map,List.getElem?_eq_getElem hj']; rfl)
  rw [hx] at hu
  cases hu
  refine wpAny_bind (wpAny_attempt (wpAny_mono (hcall _ s' L[j] x (fun p hp=>List.mem_append_left _ (List.mem_append_left _ hp)) J (List.getElem_mem hj') r1) (fun k s'' hkk=>?_) fun _ _ hF=>hF.elim))
  obtain ⟨v,H',J',rk,ev,eH⟩:=hkk
  subst ev
  subst eH
  obtain rfl:k=Value.ref L[j].2.1:=rk
  have pk:=J'.pin (PKs kS e (L.take j)) (List.mem_append_right _ (List.mem_append_right _ (List.mem_singleton.mpr rfl)))
  have s1:=Heap.SameBut.update s''.heap kS (Obj.mapSeq (·.push (Value.ref L[j].2.1)))
  have ea:(keyVals (L.take j)).toArray.push (Value.ref L[j].2.1)=(keyVals (L.take (j + 1))).toArray:=by
   have e2:keyVals (L.take (j + 1))=keyVals (L.take j)++[Value.ref L[j].2.1]:=by
    unfold keyVals
    rw [List.take_succ_eq_append_getElem hj',List.map_append]
    rfl
   rw [e2,List.push_toArray]
  obtain ⟨c2,hc2⟩:∃ c2,(s''.heap.update kS (Obj.mapSeq (·.push (Value.ref L[j].2.1)))).get? kS=some (seqObj "list" (keyVals (L.take (j + 1))).toArray c2):=⟨_,by rw [<- ea]; exact get?_update_seq pk.1 (·.push (Value.ref L[j].2.1))⟩
  have hsz:(keyVals (L.take j)).toArray.size < 64:=by simp only [List.size_toArray,keyVals,List.length_map,List.length_take]; omega
  try dsimp only
  refine wpAny_bind (listUpdate_at pk.1 rfl ?_ (by rw [sizeLine_eq]; show (keyVals (L.take j)).toArray.size<=_; omega) (Nat.le_trans (Nat.le_of_eq (Array.size_push ..)) (by rw [sizeLine_eq]; show (keyVals (L.take j)).toArray.size + 1<=_; omega)))
  refine wpAny_pure ⟨rfl,c2,?_⟩
  have J1:=(J'.unpinned (pl:=[PKs kS e (L.take j)])).turn1 fK s1
  exact J1.pin1 fK hc2 (by intro v; simp)
 ·simp only [Nat.zero_add] at J
  rw [el,List.take_length] at J
  have pk:=J.pin (PKs kS e L) (List.mem_append_right _ (List.mem_append_right _ (List.mem_singleton.mpr rfl)))
  try dsimp only
  refine wpAny_bind (listItems_at pk.1 rfl ?_)
  exact sort_end J h64 fD fK hk nd rv h
theorem sortedK {l f:Addr} {L:List KIt} {Q:VK} (I:Inv X pins σ H s) (hl:SqL X.K H l (L.map (·.1))) (h64:L.length < 64)
  (hk:∀ q∈L,SqT X.K H q.2.1 (q.2.2.map V.int)/\q.2.2≠[]) (nd:(L.map (·.2.2)).Nodup)
  (hcall:∀ (pins':List (Addr×Obj)) (s':Shared) (q:KIt) (u:Value),(∀ p∈pins,p∈pins')->Inv X pins' σ H s'->q∈L->RelV q.1 u->wpAny (model X.prog X.w) X.A.in1.in1 (call (.ref f) [u]) (EP X pins' σ fun v H'=>v=.ref q.2.1/\H'=H) (fun _ _=>False) s')
  (h:∀ (D:Addr) (L':List KIt),H D=none->L'.Perm L->L'.Pairwise (fun a b=>HT.lexLt a.2.2 b.2.2=true)->Q (.ref D) (upd H D (.lst (L'.map (·.1))))) :
  wpAny (model X.prog X.w) X.A (call (.builtin "sorted") [.ref l] [(Str.ofString "key",.ref f)]) (EP X pins σ Q) E s:=by
 obtain ⟨its,rv,pl,_⟩:=I.list hl
 have el:its.length=L.length:=by have:=rv.length; simp only [List.length_map] at this; omega
 refine call_function_entry_kw kind_sorted plain_sorted entry_sorted (ksk_s1 _ _) ?_
 unfold Builtin.«sorted»
 refine wpAny_bind (m:=checkCount "sorted" 1 1 _) (wpAny_pure ?_)
 refine wpAny_bind (collect_list pl.isList ?_ (by rw [sizeLine_eq]; omega))
 refine wpAny_bind (wpAny_newList ?_ (by rw [sizeLine_eq]; omega))
 have hsz:((s.heap.push (seqObj "list" #[] 0)).update s.heap.objs.size (Obj.mapSeq (·++its.toArray))).objs.size=s.heap.objs.size + 1:=by
  rw [Heap.size_update,size_push']
 have hoL:(((s.heap.push (seqObj "list" #[] 0)).update s.heap.objs.size (Obj.mapSeq (·++its.toArray))).push (seqObj "list" its.toArray 0)).get? (s.heap.objs.size + 1)=some (seqObj "list" its.toArray 0):=by
  rw [<- hsz]; exact Heap.get?_push_size _ rfl
 have keep:∀ b o,s.heap.get? b=some o->(((s.heap.push (seqObj "list" #[] 0)).update s.heap.objs.size (Obj.mapSeq (·++its.toArray))).push (seqObj "list" its.toArray 0)).get? b=some o:=fun b o q=>by
  have hlt:b < s.heap.objs.size:=Heap.lt_size q
  rw [Heap.get?_push_ne _ _ _ (by rw [hsz]; exact Nat.ne_of_lt (Nat.lt_succ_of_lt hlt)),Heap.get?_update_ne _ _ _ _ (Nat.ne_of_lt hlt),Heap.get?_push_ne _ _ _ (Nat.ne_of_lt hlt)]
  exact q
 have fD:FpOk X pins H (s.heap.objs.size + 1):=I.fpOk (Nat.le_succ _) (I.hok.fresh (Nat.le_succ _))
 have I1:Inv X pins σ H { s with heap:=((s.heap.push (seqObj "list" #[] 0)).update s.heap.objs.size (Obj.mapSeq (·++its.toArray))).push (seqObj "list" its.toArray 0) }:=I.kept (t':=s.toks) keep
 show wpAny _ _ _ _ _ { s with heap:=((s.heap.push (seqObj "list" #[] 0)).update s.heap.objs.size (Obj.mapSeq (·++its.toArray))).push (seqObj "list" its.toArray 0) }
 rw [hsz]
 generalize hD:s.heap.objs.size + 1=D at *
 generalize hh:((s.heap.push (seqObj "list" #[] 0)).update s.heap.objs.size (Obj.mapSeq (·++its.toArray))).push (seqObj "list" its.toArray 0)=hp at *
 refine wpAny_bind (wpAny_holding (wpAny_call_entry_kw slot_list_sort ⟨_,hoL,rfl⟩ entry_list_sort ?body (ksk_l1 _ _)))
 case body =>
  show wpAny (model X.prog X.w) X.A.in1.in1 (Builtin.«list.sort» ⟨[.ref D],[(Str.ofString "key",.ref f)]⟩) _ _ _
  rw [ksk_t1]
  have s1:=Heap.SameBut.update hp D (Obj.mapSeq fun _=>(#[]:Array Value))
  obtain ⟨e1,ho1⟩:∃ e1,(hp.update D (Obj.mapSeq fun _=>(#[]:Array Value))).get? D=some (seqObj "list" #[] e1):=⟨_,get?_update_seq hoL fun _=>#[]⟩
  have I2:=(I1.turn1 fD s1).pin1 fD ho1 (by intro v; simp)
  have I3:Inv X (pins++[PD D e1]) σ H { s with heap:=((hp.update D (Obj.mapSeq fun _=>(#[]:Array Value))).push (seqObj "tuple" its.toArray 0)).push (seqObj "list" #[] 0) } :=
   I2.kept (t':=s.toks) fun b o e=>Heap.get?_push_of_some _ (Heap.get?_push_of_some _ e)
  have hKz:(hp.update D (Obj.mapSeq fun _=>(#[]:Array Value))).objs.size<=((hp.update D (Obj.mapSeq fun _=>(#[]:Array Value))).push (seqObj "tuple" its.toArray 0)).objs.size:=by rw [size_push']; exact Nat.le_succ _
  have fK:FpOk X (pins++[PD D e1]) H ((hp.update D (Obj.mapSeq fun _=>(#[]:Array Value))).push (seqObj "tuple" its.toArray 0)).objs.size:=I2.fpOk hKz (I2.hok.fresh hKz)
  unfold ksk_tree
  refine wpAny_bind (listItems_at hoL rfl ?_)
  refine wpAny_bind (listUpdate_at hoL rfl ?_ (by rw [List.size_toArray,sizeLine_eq]; omega) (Nat.zero_le _))
  refine wpAny_bind (seqEpoch_at ho1 rfl ?_)
  refine wpAny_bind (wpAny_newTuple ?_ (by show its.length<=_; rw [sizeLine_eq]; omega))
  refine wpAny_bind (wpAny_newList ?_ (Nat.zero_le _))
  refine wpAny_holding ?_
  refine sort_rest (L:=L) (I3.pin1 fK (Heap.get?_push_size _ rfl) (by intro v; simp)) h64 fD fK hk nd rv hcall fun s' L' p w I'=>?_
  exact ⟨_,rfl,wpAny_pure ⟨_,rfl,.ref D,_,I',rfl,h D L' fD.1 p w⟩⟩
end
def codeφ (c:Addr) (q:Str):HO:=.ext fun h=>h.CodeRec (.ref c) q
def TabOk (P:Addr) (pos:Pos) (q:Str) (H:Hp):Prop :=
 ∃ ps,H P=some (.tbl ps)/\TriplesOk ps.toList/\(codeAmong pos ps.toList=none\/∃ c,codeAmong pos ps.toList=some (.ref c)/\H c=some (codeφ c q))
def SameT (P:Addr) (H H':Hp):Prop:=∀ b o,b≠P->H b=some o->H' b=some o
def SameT.refl (P:Addr) (H:Hp):SameT P H H:=fun _ _ _ h=>h
def SameT.trans {P:Addr} {H H1 H2:Hp} (a:SameT P H H1) (b:SameT P H1 H2):SameT P H H2:=fun c o n h=>b c o n (a c o n h)
def TabOk.same {P:Addr} {pos:Pos} {q:Str} {H H':Hp} (t:TabOk P pos q H) (s:Same H H'):TabOk P pos q H':=by
 obtain ⟨ps,a,b,c⟩:=t
 refine ⟨ps,s _ _ a,b,?_⟩
 rcases c with c | ⟨c',d,e⟩
 ·exact .inl c
 ·exact .inr ⟨c',d,s _ _ e⟩
def Bm (mg:Str->Option Value) (h:Heap):Prop:=∃ bm ob,mg "__builtins__"=some (.ref bm)/\bm≠builtinsNs/\h.get? bm=some ob/\ob.cls=.type "module"/\ob.dict=some builtinsNs/\ob.data=.plain
abbrev lamObj (q:Str) (params:Arguments) (body:Expr) (scope:Scope) (pm cv ctv:Value):Obj :=
 { cls:=.type "function",data:=.func (kla_fn "<lambda>" q params body scope [] pm cv ctv) }
section
variable {X:Cx} {pins:List (Addr×Obj)} {σ:St} {H:Hp} {s:Shared} {E:Value->Shared->Prop}
def code_ext {c:Addr} {q:Str} {H:Hp} {h:Heap} (x:h.CodeRec (.ref c) q) {P:Program} {w:World}:ObjOk P w H h c (codeφ c q) :=
 ⟨x,let ⟨c',o,_,_,e,ho,_⟩:=x; ⟨o,by cases e; exact ho⟩,fun _ _ a b=>a.at fun o e=>b o e⟩
def lam_make {params:Arguments} {body:Expr} {scope:Scope} {pos:Pos} {c P:Addr} {R:Value->Shared->Prop} (I:Inv X pins σ H s) (hcode:X.env.code=.ref c) (C:CodeHd X.base c P) (B:Bm X.mg X.base)
  (T:TabOk P pos (X.env.qual++"<lambda>") H) (hcl:closureFor scope X.env=pure []) (hdef:defaultsOf params X.env=([],[]))
  (h:∀ (f c':Addr) (pm ctv:Value) (H2:Hp) (s2:Shared),SameT P H H2->TabOk P pos (X.env.qual++"<lambda>") H2->H2 c'=some (codeφ c' (X.env.qual++"<lambda>")) ->
   Inv X (pins++[(f,lamObj (X.env.qual++"<lambda>") params body scope pm (.ref c') ctv)]) σ H2 s2->R (.ref f) s2) :
  wpAny (model X.prog X.w) X.A (eval (.Lambda params body scope pos) X.env) R E s:=by
 obtain ⟨ps,hP,ht,hc⟩:=T
 have oP:s.heap.get? P=some (tabObj ps):=I.hok P _ hP
 obtain ⟨bm,ob,b1,b2,b3,b4,b5,b6⟩:=B
 have gl:s.heap.Ns mainGlobals X.mg:=I.mod.glob.keeps I.bk
 have hgP:mainGlobals≠P:=fun z=>by
  obtain ⟨o,es,ep,e,hd,_⟩:=gl
  rw [z,oP] at e; cases e; cases hd
 have hbP:bm≠P:=fun z=>by
  have e:=I.bk _ _ b3
  rw [z,oP] at e; cases e; cases b4
 have hbG:bm≠mainGlobals:=fun z=>by
  obtain ⟨o,es,ep,e,hd,_⟩:=gl
  have e3:=I.bk _ _ b3
  rw [z,e] at e3; cases e3; rw [hd] at b6; cases b6
 have BA:s.heap.BuiltinsAt X.mg P:=⟨bm,ob,b1,b2,hbG,hbP,I.bk _ _ b3,b4,b5,b6⟩
 refine kla_eval hdef ?_
 rcases hc with hc | ⟨c',hc,hx⟩
 ·refine kla_makeFunction (mg:=X.mg) hcl I.ok.glob gl hcode (C.keeps I.bk) oP ht hc hgP BA fun c' ctv h' tk hx hge hlt hrec htb=>?_
  have hn:H c'=none:=I.hok.fresh hge
  have cP:c'≠P:=fun z=>by rw [z,hP] at hn; cases hn
  have cR:(h'.push (lamObj (X.env.qual++"<lambda>") params body scope ((X.mg "__name__").getD .none) (.ref c') ctv)).CodeRec (.ref c') (X.env.qual++"<lambda>"):=hrec.at fun o e=>Heap.get?_push_of_some _ e
  have keep:∀ b o,b≠P->s.heap.get? b=some o->(h'.push (lamObj (X.env.qual++"<lambda>") params body scope ((X.mg "__name__").getD .none) (.ref c') ctv)).get? b=some o:=fun b o n e=>Heap.get?_push_of_some _ (hx b o n e)
  have tb:=Heap.get?_push_of_some (lamObj (X.env.qual++"<lambda>") params body scope ((X.mg "__name__").getD .none) (.ref c') ctv) htb
  have H2e:∀ b o,b≠P->H b=some o->upd (upd H P (.tbl (ps++#[rawInt pos.line,rawInt pos.col,.ref c']))) c' (codeφ c' (X.env.qual++"<lambda>")) b=some o:=fun b o n e=>by
   rw [upd_ne (ne_of_none e hn),upd_ne n]; exact e
  have hok:HOk X.prog X.w (upd (upd H P (.tbl (ps++#[rawInt pos.line,rawInt pos.col,.ref c']))) c' (codeφ c' (X.env.qual++"<lambda>"))) (h'.push (lamObj (X.env.qual++"<lambda>") params body scope ((X.mg "__name__").getD .none) (.ref c') ctv)):=fun b u e=>by
   by_cases hb:b=c'
   ·subst hb
    rw [upd_same] at e
    cases e
    exact code_ext cR
   ·rw [upd_ne hb] at e
    by_cases hb2:b=P
    ·subst hb2
     rw [upd_same] at e
     cases e
     exact tb
    ·rw [upd_ne hb2] at e
     refine (I.hok b u e).stay (fun d v hd q=>keep d v ?_ q) (fun d q=>H2e d _ (fun z=>by rw [z,hP] at q; cases q) q) fun d xs q=>H2e d _ (fun z=>by rw [z,hP] at q; cases q) q
     rcases hd with z | z
     ·rw [z]; exact hb2
     ·intro w; rw [w,hP] at z; cases z
  have un:Un X.fs [] H (upd (upd H P (.tbl (ps++#[rawInt pos.line,rawInt pos.col,.ref c']))) c' (codeφ c' (X.env.qual++"<lambda>"))) s.heap (h'.push (lamObj (X.env.qual++"<lambda>") params body scope ((X.mg "__name__").getD .none) (.ref c') ctv)):=by
   have nP:∀ b,H b=none->b≠P:=fun b n z=>by rw [z,hP] at n; cases n
   refine ⟨fun b o e n _ _=>keep b o (nP b n) e,fun b o e n _ _=>⟨o.slots,keep b o (nP b n) e⟩,fun b o e n _=>?_,fun b o e _=>?_,fun b xs q=>H2e b _ (fun z=>by rw [z,hP] at q; cases q) q,fun b o u q=>H2e b _ (fun z=>by rw [z,hP] at q; cases q) q,fun b qs q=>?_⟩
   ·have:b≠c':=Nat.ne_of_lt (Nat.lt_of_lt_of_le (Heap.lt_size e) hge)
    rw [upd_ne this,upd_ne (nP b n)]
    exact n
   ·by_cases hb:b=P
    ·exact ⟨_,hb ▸ tb⟩
    ·exact ⟨o,keep b o hb e⟩
   ·by_cases hb:b=P
    ·subst hb
     rw [hP] at q
     cases q
     exact ⟨#[rawInt pos.line,rawInt pos.col,.ref c'],by rw [upd_ne cP.symm,upd_same]⟩
    ·exact ⟨#[],by rw [H2e b _ hb q]; simp⟩
  have I2:=I.un (t':=tk) un hok
  have fz:s.heap.objs.size<=h'.objs.size:=Nat.le_trans hge (Nat.le_of_lt hlt)
  have fn:upd (upd H P (.tbl (ps++#[rawInt pos.line,rawInt pos.col,.ref c']))) c' (codeφ c' (X.env.qual++"<lambda>")) h'.objs.size=none:=by
   rw [upd_ne (Nat.ne_of_gt hlt),upd_ne (fun z=>absurd (Heap.lt_size oP) (by rw [<- z]; exact Nat.not_lt.mpr fz))]
   exact I.hok.fresh fz
  have fF:=I.fpOk (H':=upd (upd H P (.tbl (ps++#[rawInt pos.line,rawInt pos.col,.ref c']))) c' (codeφ c' (X.env.qual++"<lambda>"))) fz fn
  refine h h'.objs.size c' _ ctv _ _ H2e ⟨_,by rw [upd_ne cP.symm,upd_same],?_,.inr ⟨c',?_,upd_same⟩⟩ upd_same (I2.pin1 fF (Heap.get?_push_size _ rfl) (by intro v; simp))
  ·rw [Array.toList_append]; exact TriplesOk_snoc _ _ _ _ ht
  ·rw [Array.toList_append]; exact codeAmong_snoc _ ht hc
 ·refine kla_makeFunctionHit (mg:=X.mg) hcl I.ok.glob gl hcode (C.keeps I.bk) oP ht hc BA fun ctv h' tk hk hsz=>?_
  have I2:Inv X pins σ H { s with heap:=h'.push (lamObj (X.env.qual++"<lambda>") params body scope ((X.mg "__name__").getD .none) (.ref c') ctv),toks:=tk }:=I.kept (t':=tk) fun b o e=>Heap.get?_push_of_some _ (hk b o e)
  have fF:=I.fpOk (H':=H) hsz (I.hok.fresh hsz)
  exact h h'.objs.size c' _ ctv H _ (.refl _ _) ⟨ps,hP,ht,.inr ⟨c',hc,hx⟩⟩ hx (I2.pin1 fF (Heap.get?_push_size _ rfl) (by intro v; simp))
def lam_run {Pg:Program} {w:World} {K:Frag} {mg:Str->Option Value} {base:Heap} {A:Around} {outer:List Env} {f c':Addr} {q x:Str} {params:Arguments} {body:Expr} {scope:Scope} {pm ctv:Value} {u:Value} {v:V} {Q:VK} {t:TE}
  (e0:Env0 Pg w K mg base A outer s H) (hr:Room 1 A) (ho:s.heap.get? f=some (lamObj q params body scope pm (.ref c') ctv)) (hcd:s.heap.CodeRec (.ref c') q) (S:FnScope [x] [x] scope)
  (hbind:bindArgs (kla_fn "<lambda>" q params body scope [] pm (.ref c') ctv) ⟨[u],[]⟩=pure [(x,u)]) (rv:RelV v u)
  (hb:PE (cxOf CX0 Pg w K mg base [x] q scope f (.ref c') A outer s H E0) body t) (ht:t [some v] H Q) :
  codeAny (model Pg w) A (.call (.ref f) ⟨[u],[]⟩) (CR CX0 outer Pg w H s Q E0) s:=by
 have KX:K.In s.heap:=e0.mod.kin.keeps fun b o e=>(e0.bs b o e).1
 have lim:s.heap.NoLimit:=e0.mod.nolimit.keeps fun b o e=>(e0.bs b o e).1
 refine kla_callFunE hr.depth ho rfl S.co S.gen rfl hcd ?_
 rw [hbind]
 refine wpAny_pure ?_
 refine wpAny_newFunctionEnv_cells S.kind (fun y hy=>?_) fun env he s1 x1=>?_
 ·have ey:y=(x,u):=List.mem_singleton.mp hy
  subst ey
  rcases S.par x (List.mem_singleton.mpr rfl) with z | z
  ·exact .inl z
  ·exact .inr ⟨z,PySem.W.cellsFrom_some _ _ _ (.inl z)⟩
 ·subst he
  refine ⟨lim.keeps x1.toInCall.keep,kla_codeExpr ?_⟩
  have I:Inv (cxOf CX0 Pg w K mg base [x] q scope f (.ref c') A outer s H E0) [] (start [x] [v]) H s1:=inv_start (us:=[u]) S hr.hd e0 rfl (.cons rv .nil) x1
  refine wpAny_mono (hb [] s1 (start [x] [v]) H Q I ht) (fun r s' hs=>?_) fun e s' hs=>hs
  obtain ⟨v',H',J,rv',q'⟩:=hs
  exact ⟨v',H',J.os,J.bare,J.base,J.hok,rv',q'⟩
end
def SameT.sqL {K:Frag} {P:Addr} {H H':Hp} {ps:Array Value} (e:SameT P H H') (hP:H P=some (.tbl ps)) {a:Addr} {xs:List V} (h:SqL K H a xs):SqL K H' a xs:=by
 rcases h with (h | ⟨o,h⟩) | h
 ·exact .inl (.inl (e _ _ (fun z=>by rw [z,hP] at h; cases h) h))
 ·exact .inl (.inr ⟨o,e _ _ (fun z=>by rw [z,hP] at h; cases h) h⟩)
 ·exact .inr h
def SameT.sqT {K:Frag} {P:Addr} {H H':Hp} {ps:Array Value} (e:SameT P H H') (hP:H P=some (.tbl ps)) {a:Addr} {xs:List V} (h:SqT K H a xs):SqT K H' a xs:=by
 rcases h with (h | ⟨o,h⟩) | h
 ·exact .inl (.inl (e _ _ (fun z=>by rw [z,hP] at h; cases h) h))
 ·exact .inl (.inr ⟨o,e _ _ (fun z=>by rw [z,hP] at h; cases h) h⟩)
 ·exact .inr h
def tSortL (K:Frag) (P:Addr) (lpos:Pos) (qual:Str) (tb:TE) (ta:TA):TE:=fun σ H Q=>ta σ H fun vs H1=>∃ (l:Addr) (L:List KIt),vs=[.ref l]/\SqL K H1 l (L.map (·.1))/\L.length < 64 /\
 (∀ q∈L,SqT K H1 q.2.1 (q.2.2.map V.int)/\q.2.2≠[])/\(L.map (·.2.2)).Nodup/\TabOk P lpos qual H1/\(∀ H2 q,SameT P H1 H2->q∈L->tb [some q.1] H2 fun v H'=>v=.ref q.2.1/\H'=H2) /\
 ∀ (H2:Hp) (D:Addr) (L':List KIt),SameT P H1 H2->TabOk P lpos qual H2->H2 D=none->L'.Perm L->L'.Pairwise (fun a b=>HT.lexLt a.2.2 b.2.2=true)->Q (.ref D) (upd H2 D (.lst (L'.map (·.1))))
section
variable {X:Cx}
theorem pe_sortL {e:Expr} {ta:TA} {c P:Addr} {x:Str} {params:Arguments} {body:Expr} {scope:Scope} {p pos lpos kpos:Pos} {tb:TE} (hr:Room 3 X.A) (hg:Gl X "sorted") (hm:X.mg "sorted"=none) (ha:PA X [e] ta) (hcode:X.env.code=.ref c)
  (C:CodeHd X.base c P) (B:Bm X.mg X.base) (hcl:closureFor scope X.env=pure []) (hdef:defaultsOf params X.env=([],[])) (S:FnScope [x] [x] scope)
  (hbind:∀ (pm cv ctv u:Value),bindArgs (kla_fn "<lambda>" (X.env.qual++"<lambda>") params body scope [] pm cv ctv) ⟨[u],[]⟩=pure [(x,u)])
  (hb:∀ (f c':Addr) (A:Around) (outer:List Env) (s:Shared) (H:Hp),PE (cxOf CX0 X.prog X.w X.K X.mg X.base [x] (X.env.qual++"<lambda>") scope f (.ref c') A outer s H E0) body tb)
  (he:starEach [e] X.env=[(false,eval e X.env)]:=by rfl) :
  PE X (.Call (.Name "sorted" p) [e] [⟨some "key",.Lambda params body scope lpos,kpos⟩] pos) (tSortL X.K P lpos (X.env.qual++"<lambda>") tb ta):=by
 intro pins s σ H Q I h
 refine wpAny_Call_Name_kw (ld_blt I hg hm PyProof.Rows.boot_sorted ?_)
 refine callWith_kw (thn (ha pos pins s σ H _ I h) fun us s1 ⟨vs,H1,I1,r1,l,L,ev,hl,h64,hk,nd,T,hbo,q1⟩=>?_) (by rw [he]; rfl) (by rw [he]; rfl)
 subst ev
 obtain ⟨u,rfl,ru⟩:=Vals.one r1
 obtain rfl:u=Value.ref l:=ru
 obtain ⟨ps,hP,_,_⟩:=id T
 show wpAny _ _ (evalAll [do let v <- eval (.Lambda params body scope lpos) X.env; standAt pos; pure v]) _ _ s1
 refine wpAny_evalAll_cons (wpAny_bind (lam_make I1 hcode C B T hcl hdef fun f c' pm ctv H2 s2 sT T2 hx I2=>wpAny_bind (wpAny_standAt (wpAny_pure (wpAny_evalAll_nil ?_)))))
 show wpAny _ _ (call (.builtin "sorted") [.ref l] [(Str.ofString "key",.ref f)]) _ _ s2
 refine wpAny_mono (sortedK (Q:=Q) (E:=X.xe) I2 (sT.sqL hP hl) h64 (fun q hq=>⟨sT.sqT hP (hk q hq).1,(hk q hq).2⟩) nd (fun pins' s' q u hp I' hq rv=>?_) fun D L' n p w=>q1 H2 D L' sT T2 n p w) (fun v s' ⟨v',H',J,rv,qq⟩=>⟨v',H',J.unpinned,rv,qq⟩) fun _ _ z=>z
 have hpin:=I'.pin (f,lamObj (X.env.qual++"<lambda>") params body scope pm (.ref c') ctv) (List.mem_append_right _ (hp _ (List.mem_append_right _ (List.mem_singleton.mpr rfl))))
 refine wpAny_call (codeAny_mono (lam_run (I'.env0.in1.in1) hr.in1.in1 hpin.1 (I'.hok c' _ hx).1 S (hbind pm (.ref c') ctv u) rv (hb f c' _ _ _ _) (hbo H2 q sT hq)) fun r s'' hq'=>?_)
 cases r with
 | error e=>exact False.elim hq'
 | ok fl =>
  cases fl with
  | ret u=>exact I'.after hq'
  | next=>exact False.elim hq'
  | brk=>exact False.elim hq'
  | cont=>exact False.elim hq'
end
end L2
namespace L2
open PySem PySem.Spec PyProof.Rows
section
variable {prog:Program} {w:World} {A:Around} {E:Value->Shared->Prop} {s:Shared} {a:Addr} {o:Obj} {xs:Array Value} {k:Nat}
def keys_none_list {Q:Option Value->Shared->Prop} (hx:s.heap.get? a=some o) (hc:o.cls=.type "list") (hdat:o.data=.seq xs k) (hd:o.dict=none) (hA:A.handled=none)
  (h:∀ h' tk e,Heap.NewExcOf s.heap h' e "AttributeError"->Q none { s with heap:=h',toks:=tk }):wpAny (model prog w) A (getAttr? (.ref a) "keys") Q E s:=by
 obtain ⟨c,dct,dat,sl⟩:=o
 simp only at hc hdat hd
 subst hc hdat hd
 obtain ⟨hp,g,d,tk,os⟩:=s
 have hT:∀ tk',(⟨hp,g,d,tk',os⟩:Shared).TypeIs (.ref a) "list":=fun _=>⟨_,hx,rfl⟩
 have f1:=sub_AttributeError
 have f3:=F.slot_list_getattribute.lookup
 have f4:=F.slot_list_getattribute.bind (.ref a)
 have f5:=am_list_getattr_none
 have hmiss:typeLookup (.type "list") "keys"=pure none:=by rw [typeLookup_type,builtinLookup_eq_fast]; kernel_rfl
 unfold getAttr? getAttrBy? getAttrBy
 repeat (any_goals (first | assumption | exact hT _ | ((with_reducible show wpAny _ _ (call (Value.builtin "list.__getattribute__") _ _) _ _ _); refine call_meets F.slot_list_getattribute (hT _) am_entry_list_getattribute (F.args_list_getattribute_2 _ _) (meets_getattribute_miss_list a xs k sl "keys" _ hmiss (by decide +kernel)) ⟨hx,hA,fun h' tk' e hx'=>?_⟩) | wp_step))
 obtain ⟨t',u',he⟩:=hx'.there
 have hTe:∀ tk'',(⟨h',g,d,tk'',os⟩:Shared).TypeIs (.ref e) "AttributeError":=fun _=>⟨_,he,rfl⟩
 show wpAny _ _ (getattributeRaised _ _ _ _ _ _ _) _ _ _
 unfold getattributeRaised
 repeat (any_goals (first | assumption | exact hTe _ | wp_step))
 all_goals exact h _ _ _ hx'.of
def keys_none_tuple {Q:Option Value->Shared->Prop} (hx:s.heap.get? a=some o) (hc:o.cls=.type "tuple") (hdat:o.data=.seq xs k) (hd:o.dict=none) (hA:A.handled=none)
  (h:∀ h' tk e,Heap.NewExcOf s.heap h' e "AttributeError"->Q none { s with heap:=h',toks:=tk }):wpAny (model prog w) A (getAttr? (.ref a) "keys") Q E s:=by
 obtain ⟨c,dct,dat,sl⟩:=o
 simp only at hc hdat hd
 subst hc hdat hd
 obtain ⟨hp,g,d,tk,os⟩:=s
 have hT:∀ tk',(⟨hp,g,d,tk',os⟩:Shared).TypeIs (.ref a) "tuple":=fun _=>⟨_,hx,rfl⟩
 have f1:=sub_AttributeError
 have f3:=F.slot_tuple_getattribute.lookup
 have f4:=F.slot_tuple_getattribute.bind (.ref a)
 have f5:=am_tuple_getattr_none
 have hmiss:typeLookup (.type "tuple") "keys"=pure none:=by rw [typeLookup_type,builtinLookup_eq_fast]; kernel_rfl
 unfold getAttr? getAttrBy? getAttrBy
 repeat (any_goals (first | assumption | exact hT _ | ((with_reducible show wpAny _ _ (call (Value.builtin "tuple.__getattribute__") _ _) _ _ _); refine call_meets F.slot_tuple_getattribute (hT _) am_entry_tuple_getattribute (F.args_tuple_getattribute_2 _ _) (meets_getattribute_miss_tuple a xs k sl "keys" _ hmiss (by decide +kernel)) ⟨hx,hA,fun h' tk' e hx'=>?_⟩) | wp_step))
 obtain ⟨t',u',he⟩:=hx'.there
 have hTe:∀ tk'',(⟨h',g,d,tk'',os⟩:Shared).TypeIs (.ref e) "AttributeError":=fun _=>⟨_,he,rfl⟩
 show wpAny _ _ (getattributeRaised _ _ _ _ _ _ _) _ _ _
 unfold getattributeRaised
 repeat (any_goals (first | assumption | exact hTe _ | wp_step))
 all_goals exact h _ _ _ hx'.of
end
end L2
namespace L2
open PySem PySem.Spec PyProof.Rows PySem.W
def entry_dul:entryFor table "dict.update.loop"=some Builtin.«dict.update.loop»:=entryFor_of_tree (by kernel_rfl)
def plain_dul:plainId "dict.update.loop"=true:=by decide +kernel
inductive DFill (H:Hp) (D:Addr):HO->List (V×V)->HO->Prop
 | nil {o:HO}:DFill H D o [] o
 | cons {o o' o'':HO} {k v:V} {r:List (V×V)} (h:DPut (upd H D o) D k v (upd H D o')) (t:DFill H D o' r o''):DFill H D o ((k,v)::r) o''
def PairsAt (K:W.Frag) (H:Hp) (ys:List V) (zs:List (V×V)):Prop:=Paired (fun y z=>∃ t,y=.ref t/\SqT K H t [z.1,z.2]) ys zs
def SqT.upd' {K:W.Frag} {H:Hp} {a D:Addr} {xs:List V} {o:HO} (h:SqT K H a xs) (n:H D=none):SqT K (upd H D o) a xs:=by
 rcases h with (h | ⟨o,h⟩) | h
 ·exact .inl (.inl (by rw [upd_ne (ne_of_none h n)]; exact h))
 ·exact .inl (.inr ⟨o,by rw [upd_ne (ne_of_none h n)]; exact h⟩)
 ·exact .inr h
section
variable {X:Cx} {pins:List (Addr×Obj)} {σ:St} {H:Hp} {s:Shared} {E:Value->Shared->Prop} {A:Around}
def SrcAt (K:W.Frag) (H:Hp) (h:Heap) (p it:Addr) (ys:List V) (i:Nat):Prop:=(SqL K H p ys/\h.IsListIter it p i)\/(SqT K H p ys/\h.IsTupleIter it p i)
def SrcAt.at {K:W.Frag} {H H':Hp} {h h':Heap} {p it:Addr} {ys:List V} {i:Nat} (x:SrcAt K H h p it ys i) (k:∀ o,h.get? it=some o->h'.get? it=some o) (hl:SqL K H p ys->SqL K H' p ys) (ht:SqT K H p ys->SqT K H' p ys):SrcAt K H' h' p it ys i:=by
 rcases x with ⟨a,b⟩ | ⟨a,b⟩
 ·exact .inl ⟨hl a,b.at k⟩
 ·exact .inr ⟨ht a,b.at k⟩
def src_item {p it:Addr} {ys:List V} {i:Nat} {x:V} {Q:Option Value->Shared->Prop} (I:Inv X pins σ H s) (f:FpOk X pins H it) (src:SrcAt X.K H s.heap p it ys i) (hx:ys[i]?=some x)
  (h:∀ u s',RelV x u->Inv X pins σ H s'->SrcAt X.K H s'.heap p it ys (i + 1)->Q (some u) s'):wpAny (model X.prog X.w) A (pyNext (.ref it)) Q E s:=by
 obtain ⟨f0,f1,f2,f3,f4,f5⟩:=f
 rcases src with ⟨hq,st⟩ | ⟨hq,st⟩
 ·obtain ⟨its,rv,p',hz⟩:=I.list hq
  obtain ⟨u,hu,ru⟩:=rv.get hx
  exact wpAny_pyNext_list_item st p'.isList (x:=u) (by simpa using hu) fun h' st' sb=>h u _ ru (I.turned (t':=s.toks) (fun b o hb e=>(sb.2 b hb).trans e) f0 f1 f3 f4 f5) (.inl ⟨hq,st'⟩)
 ·obtain ⟨its,rv,p',hz⟩:=I.tuple hq
  obtain ⟨u,hu,ru⟩:=rv.get hx
  exact wpAny_pyNext_tuple_item st (show s.heap.IsTuple p its.toArray from p') (x:=u) (by simpa using hu) fun h' st' sb=>h u _ ru (I.turned (t':=s.toks) (fun b o hb e=>(sb.2 b hb).trans e) f0 f1 f3 f4 f5) (.inr ⟨hq,st'⟩)
theorem src_end {p it:Addr} {ys:List V} {i:Nat} {Q:Option Value->Shared->Prop} (I:Inv X pins σ H s) (f:FpOk X pins H it) (hA:A.handled=none) (src:SrcAt X.K H s.heap p it ys i) (hx:ys.length<=i)
  (h:∀ s',Inv X pins σ H s'->Q none s'):wpAny (model X.prog X.w) A (pyNext (.ref it)) Q E s:=by
 obtain ⟨f0,f1,f2,f3,f4,f5⟩:=f
 rcases src with ⟨hq,st⟩ | ⟨hq,st⟩
 ·obtain ⟨its,rv,p',hz⟩:=I.list hq
  have hl:=rv.length
  exact wpAny_pyNext_list_end hA st p'.isList (by simp; omega) fun h' eb=>h _ (I.turned (t':=s.toks) (fun b o hb e=>eb b o hb e) f0 f1 f3 f4 f5)
 ·obtain ⟨its,rv,p',hz⟩:=I.tuple hq
  have hl:=rv.length
  exact wpAny_pyNext_tuple_end hA st (show s.heap.IsTuple p its.toArray from p') (by simp; omega) fun h' eb=>h _ (I.turned (t':=s.toks) (fun b o hb e=>eb b o hb e) f0 f1 f3 f4 f5)
theorem d_dictSet {a:Addr} {y v:V} {u r:Value} {H':Hp} {Q:Unit->Shared->Prop} (hu:A.units < cLine) (I:Inv X pins σ H s) (g:DPut H a y v H') (ry:RelV y u) (rv:RelV v r) (h:∀ s',Inv X pins σ H' s'->Heap.SameBut a s.heap s'.heap->Q () s') :
  wpAny (model X.prog X.w) A (dictSet a u r) Q E s:=by
 rcases g with ⟨kvs,k,e,ey,l,eH⟩ | ⟨kvs,k,b,e,ey,eb,l,eH⟩
 ·subst ey eH
  obtain ⟨z,hd,vs,rel,dd⟩:=dk_of I.hok e
  have hz:vs.length<=sizeLine:=by rw [<- rel.length]; exact z
  have hl:(putK kvs k v).length<=sizeLine:=by have:=length_putK kvs k v; omega
  refine wpAny_dictSet_pairs (hsz:=hz) (kV_is ry) dd fun h' dd' hs=>h _ ?_ hs
  have he:∃ q,h'.get? a=some q:=let ⟨q,_,_,hq,_⟩:=dd'; ⟨q,hq⟩
  exact d_write I (by rw [e]; exact True.intro) hs he (dk_new hl hd (rel.put k rv) dd')
 ·subst ey eH
  cases (show u=Value.ref b from ry)
  obtain ⟨z,hd,xs,rel,dd⟩:=dt_of I.hok e
  have hz:xs.length<=sizeLine:=by rw [<- Paired.length rel]; exact z
  have hl:(putK kvs k v).length<=sizeLine:=by have:=length_putK kvs k v; omega
  refine wpAny_dictSet_heap (hsz:=hz) (show (tupleKind (mixKind X.prog X.w)).room A from hu) (key_of I.hok eb) dd fun h' dd' hs=>h _ ?_ hs
  obtain ⟨q,es,ep,hq,h2,h3,h4,_,h5⟩:=dd'
  refine d_write I (by rw [e]; exact True.intro) hs ⟨q,hq⟩ ⟨hl,hd,_,(rel.put k eb rv).keeps fun c ys ec=>?_,q,es,ep,hq,h2,h3,h4,h5⟩
  rw [upd_ne (ne_of ec e (fun z=>nomatch z))]
  exact ec
theorem dict_loop {p it D:Addr} {ys:List V} {R:Result->Shared->Prop} (hu:A.units + 8 < cLine) (hA:A.handled=none) (hn:H D=none) (hit:it≠D) (fit:FpOk X pins H it) :
  ∀ (zs:List (V×V)) (i:Nat) (o o':HO) (s:Shared) (t:Tok),Inv X pins σ (upd H D o) s->SrcAt X.K (upd H D o) s.heap p it ys i->PairsAt X.K H (ys.drop i) zs->DFill H D o zs o' ->
   (∀ s',Inv X pins σ (upd H D o') s'->R (.ok (.ret .none)) s')->codeAny (model X.prog X.w) A (.builtin "dict.update.loop" ⟨[.ref D,.ref it,.int i t,.none],[]⟩) R s
 | [],i,o,o',s,t,I,src,pa,df,h=>by
  cases df
  have hl:ys.length<=i:=by
   have e:=Paired.length pa
   simp only [List.length_drop,List.length_nil] at e
   omega
  refine codeAny_builtin entry_dul ?_
  rw [Around.under_plainId plain_dul _]
  show wpAny _ A.in1 (pyNext (.ref it) >>= _) _ _ s
  refine wpAny_bind (src_end I (show FpOk X pins (upd H D o) it from ⟨by rw [upd_ne hit]; exact fit.1,fit.2⟩) hA src hl fun s' I'=>?_)
  show wpAny _ A.in1 (Builtin.Dict.addKeywords D [] >>= _) _ _ s'
  exact wpAny_bind (wpAny_pure (wpAny_pure (h s' I')))
 | z::zs,i,o,o'',s,t,I,src,pa,df,h=>by
  have hil:i < ys.length:=by
   have e:=Paired.length pa
   simp only [List.length_drop,List.length_cons] at e
   omega
  rw [List.drop_eq_getElem_cons hil] at pa
  cases pa with
  | cons p1 p2 =>
   obtain ⟨tp,ep,sq⟩:=p1
   cases df with
   | @cons _ o1 _ k v _ d1 d2 =>
    refine codeAny_builtin entry_dul ?_
    rw [Around.under_plainId plain_dul _]
    show wpAny _ A.in1 (pyNext (.ref it) >>= _) _ _ s
    have fit':∀ o,FpOk X pins (upd H D o) it:=fun o=>⟨by rw [upd_ne hit]; exact fit.1,fit.2⟩
    refine wpAny_bind (src_item I (fit' o) src (List.getElem?_eq_getElem hil) fun u s1 ru I1 src1=>?_)
    rw [ep] at ru
    obtain rfl:u=Value.ref tp:=ru
    obtain ⟨its,rv,⟨ob,eo,hc,n,hd⟩,_⟩:=I1.tuple (sq.upd' (o:=o) hn)
    cases rv with
    | cons r1 rv =>
     cases rv with
     | cons r2 rv =>
      cases rv with
      | nil =>
       rename_i uk uv
       show wpAny _ A.in1 (holding [Value.ref tp] _ >>= _) _ _ s1
       refine wpAny_bind (wpAny_holding ?_)
       refine wpAny_bind (wpAny_tryCatch ?_)
       unfold Builtin.Dict.pairItems
       refine wpAny_bind (Looks.here (show Looks (model X.prog X.w) s1.heap (typeOf (.ref tp)) ob.cls from (Looks.ld eo).andThen .now) ?_)
       rw [hc,if_pos (by decide)]
       unfold seqItems?
       refine wpAny_bind (wpAny_bind (wpAny_load eo ?_))
       rw [hd]
       refine wpAny_pure (wpAny_pure ?_)
       show wpAny _ A.in1 (holding [uk,uv] (dictSet D uk uv)) _ _ s1
       refine wpAny_holding (d_dictSet (by show A.units + 1 < cLine; omega) I1 d1 r1 r2 fun s2 I2 sb=>?_)
       refine wpAny_pure ⟨Code.quiet_builtin _ (by decide +kernel),?_⟩
       refine dict_loop hu hA hn hit fit zs (i + 1) o1 o'' s2 _ I2 (src1.at (fun ob' e=>(sb.2 it hit).trans e) (fun q=>?_) fun q=>?_) p2 d2 h
       ·rcases q with (q | ⟨oo,q⟩) | q
        ·by_cases hpD:p=D
         ·subst hpD
          exact absurd d1 (fun z=>by
           rw [upd_same] at q
           cases q
           rcases z with ⟨_,_,e,_⟩ | ⟨_,_,_,e,_⟩ <;> rw [upd_same] at e <;> cases e)
         ·rw [upd_ne hpD] at q
          exact .inl (.inl (by rw [upd_ne hpD]; exact q))
        ·by_cases hpD:p=D
         ·subst hpD
          exact absurd d1 (fun z=>by
           rw [upd_same] at q
           cases q
           rcases z with ⟨_,_,e,_⟩ | ⟨_,_,_,e,_⟩ <;> rw [upd_same] at e <;> cases e)
         ·rw [upd_ne hpD] at q
          exact .inl (.inr ⟨oo,by rw [upd_ne hpD]; exact q⟩)
        ·exact .inr q
       ·rcases q with (q | ⟨oo,q⟩) | q
        ·by_cases hpD:p=D
         ·subst hpD
          exact absurd d1 (fun z=>by
           rw [upd_same] at q
           cases q
           rcases z with ⟨_,_,e,_⟩ | ⟨_,_,_,e,_⟩ <;> rw [upd_same] at e <;> cases e)
         ·rw [upd_ne hpD] at q
          exact .inl (.inl (by rw [upd_ne hpD]; exact q))
        ·by_cases hpD:p=D
         ·subst hpD
          exact absurd d1 (fun z=>by
           rw [upd_same] at q
           cases q
           rcases z with ⟨_,_,e,_⟩ | ⟨_,_,_,e,_⟩ <;> rw [upd_same] at e <;> cases e)
         ·rw [upd_ne hpD] at q
          exact .inl (.inr ⟨oo,by rw [upd_ne hpD]; exact q⟩)
        ·exact .inr q
end
section
variable {X:Cx}
def rDictOf (K:W.Frag):List V->Hp->VK->Prop:=fun xs H Q=>∃ (p:Addr) (ys:List V) (zs:List (V×V)) (o:HO),xs=[.ref p]/\(H p=some (.lst ys)\/H p=some (.tup ys))/\PairsAt K H ys zs/\(o=.dK []\/o=.dT []) /\
 ∀ D,H D=none->∃ o',DFill H D o zs o'/\Q (.ref D) (upd H D o')
theorem call_dict_of (hr:Room 3 X.A) (hc:X.calm=true):CallR X (.type "dict") (rDictOf X.K):=by
 intro pins s σ H xs us Q I r h
 obtain ⟨p,ys,zs,o,rfl,hp,pa,ho,q⟩:=h
 obtain ⟨u,rfl,rx⟩:=vals1 r
 cases rx
 have hA:X.A.handled=none:=I.ok.hd hc
 have hD:H s.heap.objs.size=none:=I.hok.fresh (Nat.le_refl _)
 obtain ⟨o',df,q'⟩:=q _ hD
 have pD:p≠s.heap.objs.size:=fun z=>by
  rcases hp with e | e <;> rw [z,hD] at e <;> cases e
 refine callType_codes (Q₁:=fun obj s₁=>obj=.ref s.heap.objs.size/\s₁={ s with heap:=s.heap.push { cls:=.type "dict",data:=.dict #[] } }) PySem.F.kt_called_dict (PySem.F.kt_typeCall_dict_1 _) PySem.F.entry_dict_init (kt_code_dict_new _ ⟨rfl,rfl⟩) ?_
 rintro obj s₁ ⟨rfl,rfl⟩
 have I1:Inv X pins σ (upd H s.heap.objs.size o) { s with heap:=s.heap.push { cls:=.type "dict",data:=.dict #[] } }:=by
  rcases ho with e | e
  ·subst e; exact I.laid (a:=s.heap.objs.size) (o:=.dK []) (t':=s.toks) (fun _ _ q=>Heap.get?_push_of_some _ q) (Nat.le_refl _) (dk_empty s.heap I.big)
  ·subst e; exact I.laid (a:=s.heap.objs.size) (o:=.dT []) (t':=s.toks) (fun _ _ q=>Heap.get?_push_of_some _ q) (Nat.le_refl _) (dt_empty s.heap I.big)
 have hT:(⟨s.heap.push { cls:=.type "dict",data:=.dict #[] },s.gens,s.drawn,s.toks,s.os⟩:Shared).TypeIs (.ref s.heap.objs.size) "dict":=⟨_,Heap.get?_push_size _ rfl,rfl⟩
 refine ⟨hT,PySem.F.args_dict_init_2 _ _,?_⟩
 unfold Builtin.«dict.__init__»
 refine wpAny_bind ?_
 unfold Builtin.Dict.selfAndRest
 refine wpAny_bind (wpAny_notOrdered_dict hT ?_)
 show wpAny _ _ (pure (s.heap.objs.size,[Value.ref p])) _ _ _
 refine wpAny_pure ?_
 show wpAny _ _ (Builtin.Dict.updateFrom "dict.__init__" s.heap.objs.size (.ref p) [] .none) _ _ _
 unfold Builtin.Dict.updateFrom
 have hA2:X.A.in1.in1.handled=none:=hA
 have fin:∀ (s2:Shared) (it:Addr),it≠s.heap.objs.size->FpOk X pins H it->Inv X pins σ (upd H s.heap.objs.size o) s2->SrcAt X.K (upd H s.heap.objs.size o) s2.heap p it ys 0 ->
   codeAny (model X.prog X.w) X.A.in1 (.builtin "dict.update.loop" ⟨[.ref s.heap.objs.size,.ref it,rawInt 0,.none],[]⟩) (wants (fun r s₂=>r=.none/\EP X pins σ Q (.ref s.heap.objs.size) s₂) X.xe) s2:=fun s2 it nit fit I2 src =>
  dict_loop (A:=X.A.in1) (by have:=hr.units; show X.A.units + 1 + 8 < cLine; omega) (show X.A.in1.handled=none from hA) hD nit fit zs 0 o o' s2 _ I2 src (by simpa using pa) df fun s' I'=>⟨rfl,.ref s.heap.objs.size,_,I',rfl,q'⟩
 have nq:∀ it:Addr,Code.quiet (.builtin "dict.update.loop" ⟨[.ref s.heap.objs.size,.ref it,rawInt 0,.none],[]⟩)=true:=fun it=>Code.quiet_builtin _ (by decide +kernel)
 rcases hp with hp | hp
 ·obtain ⟨hz,its,n,rv,eo⟩:=I1.hok p _ (show upd H s.heap.objs.size o p=some (.lst ys) by rw [upd_ne pD]; exact hp)
  refine wpAny_bind (wpAny_typeOf (show Shared.TypeIs _ (.ref p) "list" from ⟨_,eo,rfl⟩) ?_)
  rw [if_pos (by decide)]
  refine wpAny_bind (keys_none_list eo rfl rfl rfl hA2 fun h' tk e ne=>?_)
  have I2:Inv X pins σ (upd H s.heap.objs.size o) { s with heap:=h',toks:=tk }:=I1.kept ne.keeps
  simp only [Option.isNone_none,if_true]
  refine wpAny_bind (wpAny_rule (wpAny_bind (wpAny_pyIter_list (s:={ s with heap:=h',toks:=tk }) ⟨_,ne.keeps _ _ eo,rfl,n,rfl⟩ (wpAny_pure ⟨nq _,?_⟩))))
  have hsz:s.heap.objs.size < h'.objs.size:=Heap.lt_size (ne.keeps _ _ (Heap.get?_push_size (o:={ cls:=.type "dict",data:=.dict #[] }) s.heap rfl))
  have hle:({ s with heap:=h',toks:=tk }:Shared).heap.objs.size<=h'.objs.size:=Nat.le_refl _
  have fI:=I2.fpOk (H':=H) hle (I.hok.fresh (Nat.le_of_lt hsz))
  refine fin _ _ (Nat.ne_of_gt hsz) fI (I2.kept (t':=tk) fun b o e=>Heap.get?_push_of_some _ e) (.inl ⟨.inl (.inl (by rw [upd_ne pD]; exact hp)),⟨_,Heap.get?_push_size _ rfl,rfl,rfl⟩⟩)
 ·obtain ⟨hz,its,rv,ob,eo,hcl,n,hda,hdi⟩:=I1.hok p _ (show upd H s.heap.objs.size o p=some (.tup ys) by rw [upd_ne pD]; exact hp)
  refine wpAny_bind (wpAny_typeOf (show Shared.TypeIs _ (.ref p) "tuple" from ⟨_,eo,hcl⟩) ?_)
  rw [if_pos (by decide)]
  refine wpAny_bind (keys_none_tuple eo hcl hda hdi hA2 fun h' tk e ne=>?_)
  have I2:Inv X pins σ (upd H s.heap.objs.size o) { s with heap:=h',toks:=tk }:=I1.kept ne.keeps
  simp only [Option.isNone_none,if_true]
  refine wpAny_bind (wpAny_rule (wpAny_bind (wpAny_pyIter_tuple (s:={ s with heap:=h',toks:=tk }) (show Heap.IsTuple h' p its.toArray from ⟨_,ne.keeps _ _ eo,hcl,n,hda⟩) (wpAny_pure ⟨nq _,?_⟩))))
  have hsz:s.heap.objs.size < h'.objs.size:=Heap.lt_size (ne.keeps _ _ (Heap.get?_push_size (o:={ cls:=.type "dict",data:=.dict #[] }) s.heap rfl))
  have hle:({ s with heap:=h',toks:=tk }:Shared).heap.objs.size<=h'.objs.size:=Nat.le_refl _
  have fI:=I2.fpOk (H':=H) hle (I.hok.fresh (Nat.le_of_lt hsz))
  refine fin _ _ (Nat.ne_of_gt hsz) fI (I2.kept (t':=tk) fun b o e=>Heap.get?_push_of_some _ e) (.inr ⟨.inl (.inl (by rw [upd_ne pD]; exact hp)),⟨_,Heap.get?_push_size _ rfl,rfl,rfl⟩⟩)
end
end L2
namespace L2
open PySem PySem.Spec PyProof.Rows
section
variable {X:Cx} {e:Expr} {st:Option Expr} {te:TE} {ts:TO} {p2 pos:Pos}
def tRev (K:W.Frag) (te:TE) (ts:TO):TE:=fun σ H Q=>te σ H fun x H1=>ts σ H1 fun k H2=>k=some (-1)/\∃ a xs,x=.ref a/\SqL K H2 a xs/\∀ p,H2 p=none->Q (.ref p) (upd H2 p (.lst xs.reverse))
theorem pe_rev (he:PE X e te) (hs:PO X st ts) (hsub:∀ o i,∃ ops,subscripted (.Slice none none st p2) false o i=operate ops (getItem o i)):PE X (.Subscript e (.Slice none none st p2) pos) (tRev X.K te ts):=by
 intro pins s σ H Q I h
 refine Subscript_ (thn (he pins s σ H _ I h) fun v s1 ⟨x,H1,I1,r1,q1⟩=>?_)
 refine wpAny_Slice ?_
 rw [evalPart_none]
 refine wpAny_pure ?_
 refine wpAny_pure ?_
 refine thn (hs pins s1 σ H1 _ I1 q1) fun vk s3 ⟨k,H3,I3,pk,ek,a,xs,ex,hx,q⟩=>?_
 subst ek
 subst ex
 cases r1
 have I4:Inv X pins σ H3 { s3 with heap:=s3.heap.push { cls:=.type "slice",data:=.fields #[.none,.none,vk] } }:=I3.kept (t':=s3.toks) fun b ob q=>Heap.get?_push_of_some _ q
 obtain ⟨its,r,ht,hz⟩:=I4.list hx
 have hlen:=r.length
 show wpAny (model X.prog X.w) X.A (subscriptTail e (.Slice none none st p2) (.ref a) (.ref s3.heap.objs.size)) (EP X pins σ Q) X.xe { s3 with heap:=s3.heap.push { cls:=.type "slice",data:=.fields #[.none,.none,vk] } }
 obtain ⟨ops,hop⟩:=hsub (.ref a) (.ref s3.heap.objs.size)
 refine tail_any (ops:=ops) ht.isList.typeIs slot_list_getitem.lookup ?_ hop
 refine wpAny_getItem_list_slice ht.isList (Heap.IsSliceOf.new ..) .none .none pk (by decide) ?_ (by rw [List.size_toArray] <;> omega)
 rw [W.krv_pick]
 refine ⟨.ref _,_,I4.laid (t':=s3.toks) (o:=.lst xs.reverse) (fun b ob q=>Heap.get?_push_of_some _ q) (Nat.le_refl _) ?_,rfl,q _ (I4.hok.fresh (Nat.le_refl _))⟩
 refine ⟨by rw [List.length_reverse]; exact hz,its.reverse,0,?_,?_⟩
 ·have rev:∀ {a:List V} {b:List Value},Vals a b->Vals a.reverse b.reverse:=by
   intro a b h
   induction h with
   | nil=>exact .nil
   | cons h1 h2 ih=>rw [List.reverse_cons,List.reverse_cons]; exact ih.append (.cons h1 .nil)
  exact rev r
 ·exact Heap.get?_push_size _ rfl
end
section
abbrev lst0 (vs:Array Value) (c:Nat):Obj:={ cls:=.type "list",data:=.seq vs c }
end
section
variable {prog:Program} {w:World} {A:Around} {E:Value->Shared->Prop} {s:Shared}
def getItem_tuple_whole {t sl:Addr} {items:Array Value} {vl vu:Value} {lo hi:Option Int} {Q:Value->Shared->Prop} (ht:IsTup s.heap t items) (hs:s.heap.IsSliceOf sl vl vu .none) (pl:IsPart vl lo) (pu:IsPart vu hi)
  (hw:HT.sIx items.size 0 lo=0/\HT.sIx items.size items.size hi=items.size) (h:Q (.ref t) s):wpAny (model prog w) A (getItem (.ref t) (.ref sl)) Q E s:=by
 obtain ⟨os,hos,hcs,hds⟩:=id hs
 have hTs:s.TypeIs (.ref sl) "slice":=⟨os,hos,hcs⟩
 unfold getItem
 try with_reducible refine wpAny_holding ?_
 first | refine wpAny_bind (wpAny_pure ?_) | skip
 refine wpAny_bind (wpAny_sequenceKey ht.typeIs (by decide) ?_)
 refine wpAny_bind (wpAny_callSpecial?_slot (name:=Str.ofString "__getitem__") ht.typeIs PyProof.Rows.slot_tuple_getitem
  (wpAny_call_entry PyProof.Rows.slot_tuple_getitem ht.typeIs entry_tuple_getitem ?_ (args_tuple_getitem _ _)))
 show wpAny _ _ (Builtin.Tuple.tupleItemsOf (.ref t) >>= _) _ _ s
 refine wpAny_bind (tupleItemsOf_ ht ?_)
 refine wpAny_bind (wpAny_typeOf hTs ?_)
 rw [if_pos (by decide)]
 refine wpAny_bind (HT.sliceApplied_gen hs pl pu ?_)
 show wpAny _ _ (if (((HT.sIx items.size 0 lo:Nat):Int) == 0 && (1:Int) == 1 && (HT.sIx items.size items.size hi - HT.sIx items.size 0 lo) == items.size)=true then _ else _) _ _ s
 have hyes:((((HT.sIx items.size 0 lo:Nat):Int) == 0 && (1:Int) == 1 && (HT.sIx items.size items.size hi - HT.sIx items.size 0 lo) == items.size)=true):=by
  rw [hw.1,hw.2]; simp
 rw [if_pos hyes]
 unfold Builtin.Tuple.tupleIsExact
 refine wpAny_bind ?_
 first
  | exact wpAny_bind (wpAny_typeOf ht.typeIs (wpAny_pure (by rw [if_pos (by decide)]; exact wpAny_bind (wpAny_rule (wpAny_pure ⟨_,rfl,wpAny_pure h⟩)))))
  | exact wpAny_bind (wpAny_typeOf ht.typeIs (wpAny_pure (by simp; exact wpAny_bind (wpAny_rule (wpAny_pure ⟨_,rfl,wpAny_pure h⟩)))))
end
section
variable {X:Cx}
def rSlW (K:W.Frag):V->Option Int->Option Int->Hp->VK->Prop:=fun x lo hi H Q=>∃ a xs,x=.ref a/\SqT K H a xs /\
 ((cutV xs lo hi=xs->Q (.ref a) H)/\∀ p,H p=none->Q (.ref p) (upd H p (.tup (cutV xs lo hi))))
def sl_tupW:SlR X (rSlW X.K):=by
 intro pins s σ H x v vl vu lo hi sl Q I rx hs pl pu h
 obtain ⟨a,xs,rfl,hx,q0,q⟩:=h
 cases rx
 obtain ⟨its,r,ht,hz⟩:=I.tuple hx
 have hlen:its.toArray.size=xs.length:=by rw [List.size_toArray]; exact r.length.symm
 refine ⟨"tuple",_,PyProof.Rows.slot_tuple_getitem.lookup,ht.typeIs,?_⟩
 by_cases hw:HT.sIx xs.length 0 lo=0/\HT.sIx xs.length xs.length hi=xs.length
 ·refine getItem_tuple_whole ht hs pl pu (by rw [hlen]; exact hw) ⟨.ref a,H,I,rfl,q0 ?_⟩
  unfold cutV
  rw [hw.1,hw.2]
  simp
 ·refine HT.getItem_tuple_cut ht hs pl pu (by rw [hlen]; exact hw) ?_ (by rw [hlen]; exact hz)
  rw [hlen]
  refine ⟨.ref s.heap.objs.size,_,I.laid (t':=s.toks) (o:=.tup (cutV xs lo hi)) (fun b ob q=>Heap.get?_push_of_some _ q) (Nat.le_refl _) ?_,rfl,q _ (I.hok.fresh (Nat.le_refl _))⟩
  exact ⟨Nat.le_trans (cutV_length xs lo hi) hz,_,(r.drop (HT.sIx xs.length 0 lo)).take (HT.sIx xs.length xs.length hi - HT.sIx xs.length 0 lo),IsTupD.new _ _⟩
end
def Met (P:Program) (w:World) (K:W.Frag) (mg:Str->Option Value) (base:Heap) (C:Addr) (m:Str) (k:Nat) (ps:List Str) (sp:Sp):Prop :=
 ∃ f fd,Cls K C/\Meth K C m f/\FnOk P w K mg base CX0 k f fd ps sp/\Binds K fd ps []
def Mkr (P:Program) (w:World) (K:W.Frag) (mg:Str->Option Value) (base:Heap) (x:Str) (C:Addr) (k:Nat) (ps:List Str) (sp:Sp):Prop :=
 ∃ f fd,Mk K C f/\FnOk P w K mg base CX0 k f fd ps sp/\mg x=some (.ref C)/\Binds K fd ps []
section
variable {X:Cx} {C:Addr} {k:Nat} {ps:List Str} {sp:Sp} {x m:Str} {p pos apos:Pos} {e o:Expr} {es:List Expr} {ta:TE} {t:TA}
def pe_mt {pl:Sem Bool} (he:PE X o ta) (M:Met X.prog X.w X.K X.mg X.base C m k ps sp) (hr:Room k X.A) (ha:PA X (e::es) t)
  (hst:starEach (e::es) X.env=(false,eval e X.env)::starEach es X.env:=by rfl) (hpl:(backTo pos (starEach es X.env)).any (·.1)=false:=by rfl)
  (ht:eval (.Call (.Attribute o m apos) (e::es) [] pos) X.env=(do
   let ov <- eval o X.env
   standAt apos.atName
   let (f,first) <- holding [ov] (getMethod ov m pl)
   callWith pos f first (backTo pos (starEach (e::es) X.env)) (backToKw pos (keywordEach [] X.env))):=by rfl) :
  PE X (.Call (.Attribute o m apos) (e::es) [] pos) (tMeth C m sp [] E0 ta t):=by
 obtain ⟨f,fd,c,hm,F,hb⟩:=M
 exact pe_meth he c hm F hr hb .nil pass0 ha hst hpl ht
def pe_mt0 {pl:Sem Bool} (he:PE X o ta) (M:Met X.prog X.w X.K X.mg X.base C m k ps sp) (hr:Room k X.A)
  (ht:eval (.Call (.Attribute o m apos) [] [] pos) X.env=(do
   let ov <- eval o X.env
   standAt apos.atName
   let (f,first) <- holding [ov] (getMethod ov m pl)
   callWith pos f first (backTo pos (starEach [] X.env)) (backToKw pos (keywordEach [] X.env))):=by rfl) :
  PE X (.Call (.Attribute o m apos) [] [] pos) (tMeth C m sp [] E0 ta tNil):=by
 obtain ⟨f,fd,c,hm,F,hb⟩:=M
 exact pe_meth0 he c hm F hr hb .nil pass0 ht
def pe_mk (M:Mkr X.prog X.w X.K X.mg X.base x C k ps sp) (hr:Room (k + 1) X.A) (hg:Gl X x) (ha:PA X (e::es) t) (hdb:(x == ("__debug__":Str))=false:=by decide)
  (he:starEach (e::es) X.env=(false,eval e X.env)::starEach es X.env:=by rfl) (hpl:(backTo pos (starEach es X.env)).any (·.1)=false:=by rfl):PE X (.Call (.Name x p) (e::es) [] pos) (tMake C sp [] E0 t):=by
 obtain ⟨f,fd,hm,F,g,hb⟩:=M
 exact pe_make hm F hr hg g hb .nil pass0 ha hdb he hpl
end
def Fun.okC {P:Program} {w:World} {K:W.Frag} {mg:Str->Option Value} {base:Heap} {x qual:Str} {st:Stmt} {f:Addr} {oc:Value} {od an:Option Addr} {osl:Array (Option Value)} {kV doc pm cdv ct:Value} {N ps:List Str} {k:Nat} {sp:Sp}
  (lk:K.lookup f=some ⟨oc,od,.func (W.fnOf x qual (defArgs st) (defBody st) (defScope st) .none kV doc pm an cdv ct),osl⟩) (hcd:W.codeIn K cdv qual=true) (S:FnScope N ps (defScope st)) (len:∀ vs H Q E,sp vs H Q E->vs.length=ps.length)
  (hbody:∀ (A:Around) (outer:List Env) (s:Shared) (H:Hp) (vs:List V) (Q:VK) (E:XK),Room k (A.deeper (envOfC qual (defScope st) s.heap.objs.size f cdv))->sp vs H Q E ->
   ∃ t,PSs (cxOf CX0 P w K mg base N qual (defScope st) f cdv A outer s H E).nox (defBody st) t/\t { nx:=fun _ H'=>Q .non H',rt:=Q } (start N vs) H) :
  FnOk P w K mg base CX0 (k + 1) f (W.fnOf x qual (defArgs st) (defBody st) (defScope st) .none kV doc pm an cdv ct) ps sp :=
 fn_of lk hcd S len fun A outer s H vs Q E hr hsp=>by
  obtain ⟨t,h,q⟩:=hbody A outer s H vs Q E hr hsp
  exact ⟨t,h.nox,q⟩
abbrev Pr:=Int×List Int
def TupK (H H':Hp):Prop:=∀ b xs,H b=some (.tup xs)->H' b=some (.tup xs)
def TupK.trans {H H1 H2:Hp} (a:TupK H H1) (b:TupK H1 H2):TupK H H2:=fun c xs h=>b c xs (a c xs h)
def Same.tk {H H':Hp} (s:Same H H'):TupK H H':=fun b xs h=>s b _ h
def Grow.tk {p:Addr} {H H':Hp} (g:Grow p H H') {xs:List V} (e:H p=some (.lst xs)):TupK H H':=fun b ys h=>g b _ h (ne_of h e fun z=>by cases z)
def SameT.tk {P:Addr} {H H':Hp} (s:SameT P H H') {ps:Array Value} (e:H P=some (.tbl ps)):TupK H H':=fun b xs h=>s b _ (ne_of h e fun z=>by cases z) h
def WordV (H:Hp) (v:V) (w:List Int):Prop:=∃ t,v=.ref t/\H t=some (.tup (w.map V.int))
def PairV (H:Hp) (v:V) (p:Pr):Prop:=∃ t tw,v=.ref t/\H t=some (.tup [.int p.1,.ref tw])/\H tw=some (.tup (p.2.map V.int))
def WordV.tk {H H':Hp} {v:V} {w:List Int} (h:WordV H v w) (s:TupK H H'):WordV H' v w:=by
 obtain ⟨t,e,a⟩:=h
 exact ⟨t,e,s _ _ a⟩
def PairV.tk {H H':Hp} {v:V} {p:Pr} (h:PairV H v p) (s:TupK H H'):PairV H' v p:=by
 obtain ⟨t,tw,e,a,b⟩:=h
 exact ⟨t,tw,e,s _ _ a,s _ _ b⟩
abbrev Words (H:Hp):List V->List (List Int)->Prop:=Paired (WordV H)
abbrev Prs (H:Hp):List V->List Pr->Prop:=Paired (PairV H)
def Words.tk {H H':Hp} {vs:List V} {ws:List (List Int)} (h:Words H vs ws) (s:TupK H H'):Words H' vs ws:=Paired.mapP h fun _ _ z=>z.tk s
def Prs.tk {H H':Hp} {vs:List V} {L:List Pr} (h:Prs H vs L) (s:TupK H H'):Prs H' vs L:=Paired.mapP h fun _ _ z=>z.tk s
theorem Paired.at {α β:Type} {F:α->β->Prop}:∀ {l:List α} {m:List β},Paired F l m->∀ {i:Nat} (h1:i < l.length) (h2:i < m.length),F l[i] m[i]
 | _,_,.nil,_,h,_=>absurd h (Nat.not_lt_zero _)
 | _,_,.cons a r,0,_,_=>a
 | _,_,.cons a r,i + 1,h1,h2=>Paired.at r (i:=i) (by simpa using h1) (by simpa using h2)
theorem Paired.snoc {α β:Type} {F:α->β->Prop} {x:α} {y:β} (h:F x y):∀ {l:List α} {m:List β},Paired F l m->Paired F (l++[x]) (m++[y])
 | _,_,.nil=>.cons h .nil
 | _,_,.cons a r=>.cons a (Paired.snoc h r)
def Apart (a b:Pr):Prop:=a.1≠b.1/\¬ a.2<+:b.2/\¬ b.2<+:a.2
def Free (L:List Pr):Prop:=L.Pairwise Apart
def Free.get {L:List Pr} (h:Free L) {i j:Nat} (hi:i < L.length) (hj:j < L.length) (hij:i < j):Apart L[i] L[j]:=List.pairwise_iff_getElem.mp h i j hi hj hij
def oddsV (p q:Pr):V:=if p.1=q.1 then .str (Str.ofString "twice") else if p.2.take (min p.2.length q.2.length)=q.2.take (min p.2.length q.2.length) then .str (Str.ofString "begins") else .non
def odds_apart {p q:Pr} (h:Apart p q):oddsV p q=.non:=by
 unfold oddsV
 rw [if_neg h.1,if_neg]
 intro e
 rcases Nat.le_total p.2.length q.2.length with l | l
 ·rw [Nat.min_eq_left l,List.take_length] at e
  exact h.2.1 (e ▸ List.take_prefix _ _)
 ·rw [Nat.min_eq_right l,List.take_length] at e
  exact h.2.2 (e ▸ List.take_prefix _ _)
theorem eqv_ints:∀ (a b:List Int),PyData.eqvAll (a.map PyData.int) (b.map PyData.int)=decide (a=b)
 | [],[]=>by simp [PyData.eqvAll]
 | [],_::_=>by simp [PyData.eqvAll]
 | _::_,[]=>by simp [PyData.eqvAll]
 | x::a,y::b=>by
  simp only [List.map_cons,PyData.eqvAll,PyData.eqv,eqv_ints a b]
  by_cases h:x=y
  ·subst h; simp
  ·simp [h]
def eqv_tup (a b:List Int):PyData.eqv (.tuple (a.map PyData.int)) (.tuple (b.map PyData.int))=decide (a=b):=by
 simp only [PyData.eqv,eqv_ints]
def shp_tints (ns:List Int):Shp 1 (.tuple (ns.map PyData.int)):=shp_tuple fun d hd=>by
 obtain ⟨i,_,rfl⟩:=List.mem_map.mp hd
 exact shp_int i
def cutI_to (w:List Int) {j:Int} (h0:0<=j) (h1:j<=w.length):cutV (w.map V.int) none (some j)=(w.take j.toNat).map V.int:=by
 rw [cut_to h0 (by rw [List.length_map]; exact h1),List.map_take]
def spOdds:Sp:=fun vs H Q _=>∃ v1 v2 p q,vs=[v1,v2]/\PairV H v1 p/\PairV H v2 q/\p.2.length<=1000/\q.2.length<=1000/\∀ H',Same H H'->Q (oddsV p q) H'
def TableAt (H:Hp) (a:Addr) (L:List Pr):Prop:=∃ vs,H a=some (.lst vs)/\Prs H vs L
def TableAt.same {H H':Hp} {a:Addr} {L:List Pr} (h:TableAt H a L) (s:Same H H'):TableAt H' a L:=by
 obtain ⟨vs,e,p⟩:=h
 exact ⟨vs,s _ _ e,p.tk s.tk⟩
def Fits (L:List Pr):Prop:=L.length < 64/\∀ p∈L,p.2≠[]/\p.2.length<=4
def spNoFault:Sp:=fun vs H Q _=>∃ a L,vs=[.ref a]/\TableAt H a L/\Free L/\Fits L/\∀ H',Same H H'->Q .non H'
abbrev wk (w:List Int):List Key:=w.map Sum.inl
def wk_kV (w:List Int):(wk w).map kV=w.map V.int:=by rw [List.map_map]; rfl
def BegunIs (kvs:List (List Key×V)) (ws:List (List Int)):Prop:=∀ u:List Int,(valV kvs (wk u)).isSome=decide (∃ w∈ws,u<+:w/\u.length < w.length)
def spBegin:Sp:=fun vs H Q _=>∃ a vws ws,vs=[.ref a]/\H a=some (.lst vws)/\Words H vws ws/\ws.length < 64/\(∀ w∈ws,w.length<=4) /\
 ∀ (d:Addr) (kvs:List (List Key×V)) (H':Hp),Same H H'->H d=none->H' d=some (.dT kvs)->BegunIs kvs ws->Q (.ref d) H'
def rSlW_to {K:W.Frag} {H:Hp} {a:Addr} {w:List Int} {j:Int} {Q:VK} (e:H a=some (.tup (w.map V.int))) (h0:0<=j) (h1:j<=w.length)
  (h:∀ t H',Same H H'->H' t=some (.tup ((w.take j.toNat).map V.int))->Q (.ref t) H'):rSlW K (.ref a) none (some j) H Q:=by
 refine ⟨a,_,rfl,SqT.of e,fun hw=>h a H (.refl _) ?_,fun p hp=>h p _ (same_upd hp) ?_⟩
 ·rw [cutI_to w h0 h1] at hw
  rw [hw]
  exact e
 ·rw [upd_same,cutI_to w h0 h1]
theorem min_nat (a b:Nat):(if (b:Int) < (a:Int) then (b:Int) else (a:Int))=((min a b:Nat):Int):=by split <;> omega
def isSome_put {κ:Type} [DecidableEq κ] (kvs:List (κ×V)) (k k':κ) (v:V):(valV (putK kvs k v) k').isSome=(decide (k'=k) || (valV kvs k').isSome):=by
 rw [valV_put]
 by_cases h:k'=k
 ·rw [if_pos h,decide_eq_true h]; rfl
 ·rw [if_neg h,decide_eq_false h,Bool.false_or]
theorem wk_inj:∀ {u v:List Int},wk u=wk v->u=v
 | [],[],_=>rfl
 | [],_::_,h=>nomatch h
 | _::_,[],h=>nomatch h
 | x::u,y::v,h=>by
  have h':(Sum.inl x:Key)::wk u=Sum.inl y::wk v:=h
  injection h' with a b
  rw [Sum.inl.inj a,wk_inj b]
def atI_add {α:Type} {xs:List α} {j:Nat} {v:α} (h:xs[j]?=some v):atI xs (0 + (j:Int))=some v:=by rw [Int.zero_add]; exact atI_nat h
def BegSo (kvs:List (List Key×V)) (ws:List (List Int)) (w:List Int) (n:Nat):Prop :=
 ∀ u:List Int,(valV kvs (wk u)).isSome=decide ((∃ x∈ws,u<+:x/\u.length < x.length)\/(u<+:w/\u.length < n))
theorem BegSo.put {kvs:List (List Key×V)} {ws:List (List Int)} {w:List Int} {n:Nat} (h:BegSo kvs ws w n) (hn:n<=w.length) {v:V}:BegSo (putK kvs (wk (w.take n)) v) ws w (n + 1):=by
 intro u
 rw [isSome_put,h u]
 have e:(wk u=wk (w.take n))↔(u=w.take n):=⟨wk_inj,fun z=>by rw [z]⟩
 rw [decide_eq_decide.mpr e,<- Bool.decide_or]
 refine decide_eq_decide.mpr ⟨fun z=>?_,fun z=>?_⟩
 ·rcases z with z | z | ⟨z1,z2⟩
  ·subst z
   exact .inr ⟨List.take_prefix _ _,by rw [List.length_take]; omega⟩
  ·exact .inl z
  ·exact .inr ⟨z1,by omega⟩
 ·rcases z with z | ⟨z1,z2⟩
  ·exact .inr (.inl z)
  ·by_cases l:u.length < n
   ·exact .inr (.inr ⟨z1,l⟩)
   ·refine .inl ?_
    have:u.length=n:=by omega
    rw [<- this]
    exact List.prefix_iff_eq_take.mp z1
def BegSo.next {kvs:List (List Key×V)} {ws:List (List Int)} {w:List Int} (h:BegSo kvs ws w w.length) (w':List Int):BegSo kvs (ws++[w]) w' 0:=by
 intro u
 rw [h u]
 refine decide_eq_decide.mpr ⟨fun z=>?_,fun z=>?_⟩
 ·rcases z with ⟨x,hx,z⟩ | z
  ·exact .inl ⟨x,List.mem_append_left _ hx,z⟩
  ·exact .inl ⟨w,List.mem_append_right _ (List.mem_singleton.mpr rfl),z⟩
 ·rcases z with ⟨x,hx,z⟩ | ⟨_,z⟩
  ·rcases List.mem_append.mp hx with hx | hx
   ·exact .inl ⟨x,hx,z⟩
   ·rw [List.mem_singleton.mp hx] at z; exact .inr z
  ·exact absurd z (Nat.not_lt_zero _)
def BegSo.nil (w:List Int):BegSo [] [] w 0:=by
 intro u
 rw [valV_nil]
 refine (decide_eq_false ?_).symm
 rintro (⟨x,hx,_⟩ | ⟨_,z⟩)
 ·exact nomatch hx
 ·exact absurd z (Nat.not_lt_zero _)
def BegSo.done {kvs:List (List Key×V)} {ws:List (List Int)} {w:List Int} (h:BegSo kvs ws w 0):BegunIs kvs ws:=by
 intro u
 rw [h u]
 refine decide_eq_decide.mpr ⟨fun z=>?_,fun z=>.inl z⟩
 rcases z with z | ⟨_,z⟩
 ·exact z
 ·exact absurd z (Nat.not_lt_zero _)
theorem perm_lift {α β:Type} {f:α->β} {m n:List β} (h:m.Perm n):∀ {l:List α},l.map f=n->∃ l':List α,l'.Perm l/\l'.map f=m:=by
 induction h with
 | nil=>intro l e; exact ⟨l,.refl _,e⟩
 | cons x _ ih =>
  intro l e
  cases l with
  | nil=>cases e
  | cons a l =>
   rw [List.map_cons] at e
   injection e with e1 e2
   obtain ⟨l',p,q⟩:=ih e2
   exact ⟨a::l',p.cons a,by rw [List.map_cons,e1,q]⟩
 | swap x y l0 =>
  intro l e
  match l,e with
  | a::b::r,e =>
   rw [List.map_cons,List.map_cons] at e
   injection e with e1 e2
   injection e2 with e2 e3
   exact ⟨b::a::r,.swap _ _ _,by rw [List.map_cons,List.map_cons,e1,e2,e3]⟩
 | trans _ _ ih1 ih2 =>
  intro l e
  obtain ⟨l2,p2,q2⟩:=ih2 e
  obtain ⟨l1,p1,q1⟩:=ih1 q2
  exact ⟨l1,p1.trans p2,q1⟩
structure PK3 where
 v:V
 tw:Addr
 p:Pr
def PK3.At (H:Hp) (e:PK3):Prop:=∃ t,e.v=.ref t/\H t=some (.tup [.int e.p.1,.ref e.tw])/\H e.tw=some (.tup (e.p.2.map V.int))
def PK3.At.tk {H H':Hp} {e:PK3} (h:e.At H) (s:TupK H H'):e.At H':=by
 obtain ⟨t,a,b,c⟩:=h
 exact ⟨t,a,s _ _ b,s _ _ c⟩
theorem prs_pk {H:Hp}:∀ {vs:List V} {L:List Pr},Prs H vs L->∃ M:List PK3,M.map (·.v)=vs/\M.map (·.p)=L/\∀ e∈M,e.At H
 | _,_,.nil=>⟨[],rfl,rfl,fun _ h=>nomatch h⟩
 | _,_,.cons ⟨t,tw,a,b,c⟩ r=>by
  obtain ⟨M,e1,e2,e3⟩:=prs_pk r
  refine ⟨⟨_,tw,_⟩::M,by rw [List.map_cons,e1],by rw [List.map_cons,e2],fun e he=>?_⟩
  rcases List.mem_cons.mp he with z | z
  ·rw [z]; exact ⟨t,a,b,c⟩
  ·exact e3 e z
theorem pk_prs {H:Hp}:∀ {M:List PK3},(∀ e∈M,e.At H)->Prs H (M.map (·.v)) (M.map (·.p))
 | [],_=>.nil
 | e::M,h=>by
  obtain ⟨t,a,b,c⟩:=h e List.mem_cons_self
  exact .cons ⟨t,e.tw,a,b,c⟩ (pk_prs fun x hx=>h x (List.mem_cons_of_mem _ hx))
def PK3.k (e:PK3):KIt:=(e.v,e.tw,e.p.2)
def fillK {κ:Type} [DecidableEq κ] (kvs:List (κ×V)) (zs:List (κ×V)):List (κ×V):=zs.foldl (fun a z=>putK a z.1 z.2) kvs
theorem fill_len {κ:Type} [DecidableEq κ]:∀ (zs kvs:List (κ×V)),(fillK kvs zs).length<=kvs.length + zs.length
 | [],kvs=>by simp [fillK]
 | z::r,kvs=>by
  have:=fill_len r (putK kvs z.1 z.2)
  have l:=length_putK kvs z.1 z.2
  show (fillK (putK kvs z.1 z.2) r).length<=_
  rw [List.length_cons]
  omega
theorem fill_none {κ:Type} [DecidableEq κ] {k:κ}:∀ (zs kvs:List (κ×V)),(∀ z∈zs,z.1≠k)->valV (fillK kvs zs) k=valV kvs k
 | [],kvs,_=>rfl
 | z::r,kvs,h=>by
  show valV (fillK (putK kvs z.1 z.2) r) k=_
  rw [fill_none r _ fun y hy=>h y (List.mem_cons_of_mem _ hy),valV_put,if_neg (fun e=>h z List.mem_cons_self e.symm)]
theorem fill_some {κ:Type} [DecidableEq κ] {k:κ} {v:V}:∀ (zs kvs:List (κ×V)),(zs.map (·.1)).Nodup->(k,v)∈zs->valV (fillK kvs zs) k=some v
 | [],kvs,_,h=>nomatch h
 | z::r,kvs,nd,h=>by
  show valV (fillK (putK kvs z.1 z.2) r) k=_
  rw [List.map_cons,List.nodup_cons] at nd
  rcases List.mem_cons.mp h with e | h
  ·subst e
   rw [fill_none r _ fun y hy e=>nd.1 (by
    have hm:y.1∈r.map (·.1):=List.mem_map.mpr ⟨y,hy,rfl⟩
    rw [e] at hm
    exact hm),valV_put,if_pos rfl]
  ·exact fill_some r _ nd.2 h
theorem dfill_K {H:Hp} {D:Addr}:∀ (zs kvs:List (Key×V)),kvs.length + zs.length < sizeLine->DFill H D (.dK kvs) (zs.map fun z=>(kV z.1,z.2)) (.dK (fillK kvs zs))
 | [],kvs,_=>.nil
 | z::r,kvs,h=>by
  rw [List.length_cons] at h
  have l:=length_putK kvs z.1 z.2
  have d:=DPut.k (H:=upd H D (.dK kvs)) (a:=D) (k:=z.1) (v:=z.2) upd_same (by omega)
  rw [upd_upd] at d
  exact .cons d (dfill_K r (putK kvs z.1 z.2) (by omega))
theorem dfill_T {H:Hp} {D:Addr} (hD:H D=none):∀ (zs:List (Addr×List Key×V)) (kvs:List (List Key×V)),kvs.length + zs.length < sizeLine->(∀ z∈zs,H z.1=some (.tup (z.2.1.map kV))) ->
  DFill H D (.dT kvs) (zs.map fun z=>(.ref z.1,z.2.2)) (.dT (fillK kvs (zs.map fun z=>(z.2.1,z.2.2))))
 | [],kvs,_,_=>.nil
 | z::r,kvs,h,ht=>by
  rw [List.length_cons] at h
  have l:=length_putK kvs z.2.1 z.2.2
  have e:=ht z List.mem_cons_self
  have d:=DPut.t (H:=upd H D (.dT kvs)) (a:=D) (b:=z.1) (k:=z.2.1) (v:=z.2.2) upd_same (by rw [upd_ne (ne_of_none e hD)]; exact e) (by omega)
  rw [upd_upd] at d
  exact .cons d (dfill_T hD r (putK kvs z.2.1 z.2.2) (by omega) fun y hy=>ht y (List.mem_cons_of_mem _ hy))
def wordsBy (H:Hp) (k1:List (Key×V)) (S:List Pr):Prop:=(∀ p∈S,∃ t,valV k1 (Sum.inl p.1)=some (.ref t)/\H t=some (.tup (p.2.map V.int)))/\∀ s:Int,(∀ p∈S,p.1≠s)->valV k1 (Sum.inl s)=none
def signsBy (k2:List (List Key×V)) (S:List Pr):Prop:=(∀ p∈S,valV k2 (wk p.2)=some (.int p.1))/\∀ u:List Int,(∀ p∈S,p.2≠u)->valV k2 (wk u)=none
def SizesAre (ns:List Int) (S:List Pr):Prop:=ns.Pairwise (· < ·)/\∀ n:Int,n∈ns↔∃ p∈S,(p.2.length:Int)=n
structure CodeIn (H:Hp) (tp d1 d2 d3 d4:Addr) (S:List Pr):Prop where
 pr:∃ vs,H tp=some (.tup vs)/\Prs H vs S
 wb:∃ k1,H d1=some (.dK k1)/\wordsBy H k1 S
 sb:∃ k2,H d2=some (.dT k2)/\signsBy k2 S
 bg:∃ k3,H d3=some (.dT k3)/\BegunIs k3 (S.map (·.2))
 sz:∃ ns:List Int,H d4=some (.tup (ns.map V.int))/\SizesAre ns S
def CodeAt (C:Addr) (H:Hp) (x:Addr) (S:List Pr):Prop:=∃ dx tp d1 d2 d3 d4,H x=some (.ins C dx [("pairs",.ref tp),("words_by_sign",.ref d1),("signs_by_word",.ref d2),("begun",.ref d3),("word_sizes",.ref d4)])/\CodeIn H tp d1 d2 d3 d4 S
def RisingW (S:List Pr):Prop:=S.Pairwise fun a b=>HT.lexLt a.2 b.2=true
def TabOk.grow {Pt x:Addr} {pos:Pos} {q:Str} {H H':Hp} (t:TabOk Pt pos q H) {C dx:Addr} {fs:List (Str×V)} (e:H x=some (.ins C dx fs)) (g:Grow x H H'):TabOk Pt pos q H':=by
 obtain ⟨ps,a,b,c⟩:=t
 refine ⟨ps,g _ _ a (ne_of a e fun z=>by cases z),b,?_⟩
 rcases c with c | ⟨c',d,f⟩
 ·exact .inl c
 ·exact .inr ⟨c',d,g _ _ f (ne_of f e fun z=>by cases z)⟩
def Grow.tkI {x:Addr} {H H':Hp} (g:Grow x H H') {C dx:Addr} {fs:List (Str×V)} (e:H x=some (.ins C dx fs)):TupK H H':=fun b ys h=>g b _ h (ne_of h e fun z=>by cases z)
section
variable {X:Cx} {K:W.Frag}
def rLen (K:W.Frag):List V->Hp->VK->Prop:=fun xs H Q=>∃ x n,xs=[x]/\LenV K x H n/\Q (.int n) H
def bk_len (h:X.K=K):CallR X (.builtin "len") (rLen K):=by subst h; exact call_len
def bk_ixt (h:X.K=K):IxR X (rIxT K):=by subst h; exact ix_tup
end
end L2
namespace L2
open PySem PySem.W PyProof.Rows HT
theorem ints_rel:∀ {us:List Value} {ns:List Int},IntsAre us ns->Vals (ns.map V.int) us
 | _,_,.nil=>.nil
 | _,_,.cons n t h=>.cons ⟨t,rfl⟩ (ints_rel h)
theorem ints_by:∀ {us:List Value} {ns:List Int},us.length=ns.length->(∀ (j:Nat) (v:Value),us[j]?=some v->∃ n t,ns[j]?=some n/\v=Value.int n t)->IntsAre us ns
 | [],[],_,_=>.nil
 | u::us,n::ns,hl,h=>by
  obtain ⟨m,t,e,rfl⟩:=h 0 u rfl
  cases e
  exact .cons _ t (ints_by (by simpa using hl) fun j v e=>h (j + 1) v e)
section
variable {X:Cx}
def rSortD:List V->Hp->VK->Prop:=fun xs H Q=>∃ (d:Addr) (kvs:List (Key×V)) (ns:List Int),xs=[.ref d]/\H d=some (.dK kvs)/\kvs.map (·.1)=ns.map Sum.inl/\kvs.length < 64 /\
 ∀ (D:Addr) (ns':List Int),H D=none->ns'.Perm ns->ns'.Pairwise (·<=·)->Q (.ref D) (upd H D (.lst (ns'.map V.int)))
theorem call_sortD (hc:X.calm=true):CallR X (.builtin "sorted") rSortD:=by
 intro pins s σ H xs us Q I r h
 obtain ⟨d,kvs,ns,rfl,ed,ek,hl,q⟩:=h
 obtain ⟨u,rfl,rx⟩:=vals1 r
 cases rx
 obtain ⟨hz,lo,vs,rel,dof⟩:=dk_of I.hok ed
 obtain ⟨ep,da⟩:=dof.dictAt
 have hv:=Paired.length rel
 refine Calls.call_function_entry kind_sorted plain_sorted entry_sorted (args_sorted1 _) ?_
 unfold Builtin.«sorted»
 refine wpAny_bind (m:=checkCount "sorted" 1 1 _) (wpAny_pure ?_)
 refine wpAny_bind (kdu_collect (A:=X.A.in1) (kdl_dict (knd:=mixKind X.prog X.w) (kvs:=vs) (ep:=ep) lo) (I.ok.hd hc) da (by rw [sizeLine_eq]; omega) fun h' tk acc hk hacc=>?_)
 have hal:acc.toList.length=vs.length:=by rw [Array.length_toList]; exact hacc.1
 have hkl:kvs.length=ns.length:=by have:=congrArg List.length ek; simpa using this
 refine wpAny_bind (wpAny_newList ?_ (by rw [hal,sizeLine_eq]; omega))
 have hI:IntsAre acc.toList ns:=ints_by (by omega) fun j v e=>by
  obtain ⟨k,x,e1,e2⟩:=hacc.2 j v (by rw [<- Array.getElem?_toList]; exact e)
  have hj:j < vs.length:=(List.getElem?_eq_some_iff.mp e1).1
  have hr:=L2.Paired.at rel (by omega:j < kvs.length) hj
  have e3:=congrArg (·[j]?) ek
  simp only [List.getElem?_map,List.getElem?_eq_getElem (by omega:j < kvs.length),List.getElem?_eq_getElem (by omega:j < ns.length),Option.map_some,Option.some.injEq] at e3
  rw [List.getElem?_eq_getElem hj] at e1
  have e4:=Option.some.inj e1
  rw [hr.1,e4] at e3
  subst e3
  rcases keyIs_shape (show keyIs (Sum.inl ns[j]) v=true from e2) with ⟨i,t,e5,rfl⟩ | ⟨y,t,e5,rfl⟩
  ·cases e5
   exact ⟨_,t,List.getElem?_eq_getElem (by omega:j < ns.length),rfl⟩
  ·cases e5
 have hoL:(h'.push (seqObj "list" acc.toList.toArray 0)).get? h'.objs.size=some (seqObj "list" acc.toList.toArray 0):=Heap.get?_push_size _ rfl
 refine wpAny_bind (wpAny_holding (wpAny_call_entry (s:={ s with heap:=h'.push (seqObj "list" acc.toList.toArray 0),toks:=tk }) slot_list_sort ⟨_,hoL,rfl⟩ entry_list_sort (list_sort_tree hoL hI (by omega) fun out ns' a1 a2 a3=>⟨_,rfl,?_⟩) (args_list_sort _)))
 obtain ⟨e,he⟩:=sortedHeap_at (vs:=acc.toList) (out:=out) hoL
 have I1:Inv X pins σ H { s with heap:=h',toks:=tk }:=I.kept hk
 refine wpAny_pure ⟨_,rfl,.ref h'.objs.size,_,I1.laid (t':=tk) (fun b o eb=>?_) (Nat.le_refl _) (show ObjOk X.prog X.w _ _ _ (.lst (ns'.map V.int)) from ⟨?_,out.toList,e,ints_rel a1,he⟩),rfl,q _ ns' (I1.hok.fresh (Nat.le_refl _)) a2 a3⟩
 ·have hb:h'.get? b=some o:=eb
  have hlt:=Heap.lt_size hb
  rw [sortedHeap_old (Nat.ne_of_lt hlt) (by rw [size_push']; exact Nat.lt_succ_of_lt hlt)]
  exact Heap.get?_push_of_some _ hb
 ·rw [List.length_map,a2.length_eq,sizeLine_eq]; omega
end
end L2
namespace L2
open PySem PySem.Spec PyProof.Rows
def keys_put {κ:Type} [DecidableEq κ] (kvs:List (κ×V)) (k:κ) (v:V):(putK kvs k v).map (·.1)=if k∈kvs.map (·.1) then kvs.map (·.1) else kvs.map (·.1)++[k]:=by
 unfold putK
 have hiff:(kvs.any fun kv=>decide (kv.1=k))=true↔k∈kvs.map (·.1):=by
  rw [List.any_eq_true,List.mem_map]
  constructor
  ·rintro ⟨x,h1,h2⟩
   exact ⟨x,h1,of_decide_eq_true h2⟩
  ·rintro ⟨x,h1,h2⟩
   exact ⟨x,h1,decide_eq_true h2⟩
 by_cases h:k∈kvs.map (·.1)
 ·rw [if_pos h,if_pos (hiff.mpr h),List.map_map]
  refine List.map_congr_left fun kv _=>?_
  show (if kv.1=k then (kv.1,v) else kv).1=kv.1
  split <;> rfl
 ·rw [if_neg h,if_neg (fun z=>h (hiff.mp z)),List.map_append]
  rfl
theorem fill_ints:∀ (zs:List Int) (kvs:List (Key×V)) (ns:List Int),kvs.map (·.1)=ns.map Sum.inl->ns.Nodup ->
  ∃ ns':List Int,(fillK kvs (zs.map fun z=>((Sum.inl z:Key),V.bl true))).map (·.1)=ns'.map Sum.inl/\ns'.Nodup/\∀ n,n∈ns'↔n∈ns\/n∈zs
 | [],kvs,ns,e,nd=>⟨ns,e,nd,fun n=>by simp⟩
 | z::r,kvs,ns,e,nd=>by
  have hm:(Sum.inl z:Key)∈kvs.map (·.1)↔z∈ns:=by
   rw [e,List.mem_map]
   constructor
   ·rintro ⟨x,h,h2⟩
    cases h2
    exact h
   ·exact fun h=>⟨z,h,rfl⟩
  have hp:=keys_put kvs (Sum.inl z) (V.bl true)
  show ∃ ns':List Int,(fillK (putK kvs (Sum.inl z) (V.bl true)) (r.map _)).map (·.1)=_/\_
  by_cases h:z∈ns
  ·rw [if_pos (hm.mpr h),e] at hp
   obtain ⟨ns',a,b,c⟩:=fill_ints r _ ns hp nd
   refine ⟨ns',a,b,fun n=>?_⟩
   rw [c,List.mem_cons]
   constructor
   ·rintro (q | q)
    ·exact .inl q
    ·exact .inr (.inr q)
   ·rintro (q | rfl | q)
    ·exact .inl q
    ·exact .inl h
    ·exact .inr q
  ·rw [if_neg (fun q=>h (hm.mp q)),e] at hp
   obtain ⟨ns',a,b,c⟩:=fill_ints r _ (ns++[z]) (by rw [hp,List.map_append]; rfl) (List.nodup_append.mpr ⟨nd,by simp,fun x hx y hy=>by
    rw [List.mem_singleton.mp hy]
    exact fun q=>h (q ▸ hx)⟩)
   refine ⟨ns',a,b,fun n=>?_⟩
   rw [c,List.mem_cons,List.mem_append,List.mem_singleton]
   constructor
   ·rintro ((q | q) | q)
    ·exact .inl q
    ·exact .inr (.inl q)
    ·exact .inr (.inr q)
   ·rintro (q | q | q)
    ·exact .inl (.inl q)
    ·exact .inl (.inr q)
    ·exact .inr q
theorem sizes_are {ns ns':List Int} {S:List Pr} (nd:ns.Nodup) (h:∀ n,n∈ns↔n∈S.map fun p=>(p.2.length:Int)) (p:ns'.Perm ns) (ri:ns'.Pairwise (·<=·)):SizesAre ns' S:=by
 refine ⟨?_,fun n=>?_⟩
 ·have nd':ns'.Nodup:=p.nodup_iff.mpr nd
  exact (List.pairwise_and_iff.mpr ⟨ri,nd'⟩).imp fun {a b} z=>by
   have:=z.1
   have:=z.2
   omega
 ·rw [p.mem_iff,h,List.mem_map]
def spBytes:Sp:=fun vs H Q _=>∃ (p a:Addr) (m:Int),vs=[.ref p,.int m]/\HandAt H p a/\2<=m/\m<=4 /\
 ∀ (l:Addr) (bs:List Int) (H':Hp),H l=none->l≠p->H' l=some (.lst (bs.map V.int))->bs.Nodup->2<=bs.length->(bs.length:Int)<=m->(∀ b∈bs,0<=b/\b < 256)->HandAt H' p a->Grow p H H'->Q (.ref l) H'
theorem steps_nodup {b s:Int} (hs:1<=s) {n:Nat} (hn:s * n<=255 + s):((List.range n).map fun k:Nat=>(b + s * (k:Int)) % 256).Nodup:=by
 refine List.pairwise_map.mpr ?_
 refine List.pairwise_iff_getElem.mpr fun i j hi hj hij=>?_
 simp only [List.length_range] at hi hj
 simp only [List.getElem_range]
 intro e
 have h2:s * ((j:Int) - (i:Int))=s * (j:Int) - s * (i:Int):=Int.mul_sub _ _ _
 have h3:0 < s * ((j:Int) - (i:Int)):=Int.mul_pos (by omega) (by omega)
 have h4:s * ((j:Int) - (i:Int))<=s * ((n:Int) - 1):=Int.mul_le_mul_of_nonneg_left (by omega) (by omega)
 have h5:s * ((n:Int) - 1)<=255:=by rw [Int.mul_sub,Int.mul_one]; omega
 rw [h2] at h3 h4
 generalize s * (j:Int)=X at *
 generalize s * (i:Int)=Y at *
 omega
def PF (ws:List (List Int)):Prop:=ws.Pairwise fun a b=>¬ a<+:b/\¬ b<+:a
def WOk (ws:List (List Int)):Prop:=PF ws/\∀ w∈ws,w≠[]/\w.length<=4
def PF.sub {a b:List (List Int)} (h:PF b) (s:a.Sublist b):PF a:=List.Pairwise.sublist s h
def WOk.sub {a b:List (List Int)} (h:WOk b) (s:a.Sublist b):WOk a:=⟨h.1.sub s,fun w hw=>h.2 w (s.subset hw)⟩
def snoc_apart {w:List Int} {a b:Int} (h:a≠b):¬ (w++[a])<+:(w++[b]):=fun e=>by
 have:=List.IsPrefix.eq_of_length e (by simp)
 simp at this
 exact h this
def ones_pf {bs:List Int} (nd:bs.Nodup):WOk (bs.map fun b=>[b]):=by
 refine ⟨List.pairwise_map.mpr (nd.imp fun z=>⟨snoc_apart (w:=[]) z,snoc_apart (w:=[]) z.symm⟩),fun w hw=>?_⟩
 obtain ⟨b,_,rfl⟩:=List.mem_map.mp hw
 exact ⟨by simp,by simp⟩
theorem pf_split {a c:List (List Int)} {w:List Int} {bs:List Int} (nd:bs.Nodup) (h:WOk (a++w::c)) (hw:w.length < 4):WOk (a++(bs.map fun b=>w++[b])++c):=by
 obtain ⟨h1,h2⟩:=h
 have hk:∀ x,(¬ x<+:w/\¬ w<+:x)->∀ b,¬ x<+:w++[b]/\¬ (w++[b])<+:x:=fun x hx b=>by
  refine ⟨fun z=>?_,fun z=>hx.2 ((List.prefix_append _ _).trans z)⟩
  rcases List.prefix_concat_iff.mp z with e | e
  ·exact hx.2 (e ▸ List.prefix_append _ _)
  ·exact hx.1 e
 unfold PF at h1
 rw [List.pairwise_append] at h1
 obtain ⟨pa,pwc,pac⟩:=h1
 rw [List.pairwise_cons] at pwc
 obtain ⟨pw,pc⟩:=pwc
 refine ⟨?_,fun x hx=>?_⟩
 ·unfold PF
  rw [List.append_assoc,List.pairwise_append]
  refine ⟨pa,?_,fun x hx y hy=>?_⟩
  ·rw [List.pairwise_append]
   refine ⟨List.pairwise_map.mpr (nd.imp fun z=>⟨snoc_apart z,snoc_apart z.symm⟩),pc,fun x hx y hy=>?_⟩
   obtain ⟨b,_,rfl⟩:=List.mem_map.mp hx
   have:=hk y ⟨(pw y hy).2,(pw y hy).1⟩ b
   exact ⟨this.2,this.1⟩
  ·rcases List.mem_append.mp hy with hy | hy
   ·obtain ⟨b,_,rfl⟩:=List.mem_map.mp hy
    exact hk x (pac x hx w List.mem_cons_self) b
   ·exact pac x hx y (List.mem_cons_of_mem _ hy)
 ·rcases List.mem_append.mp hx with hx | hx
  ·rcases List.mem_append.mp hx with hx | hx
   ·exact h2 x (List.mem_append_left _ hx)
   ·obtain ⟨b,_,rfl⟩:=List.mem_map.mp hx
    exact ⟨by simp,by rw [List.length_append,List.length_singleton]; omega⟩
  ·exact h2 x (List.mem_append_right _ (List.mem_cons_of_mem _ hx))
theorem zip_fst:∀ (ss:List Int) (ws:List (List Int)),((ss.zip ws).map (·.1)).Sublist ss
 | [],_=>by simp
 | _::_,[]=>by simp
 | a::r,b::t=>by rw [List.zip_cons_cons,List.map_cons]; exact (zip_fst r t).cons₂ a
theorem zip_snd:∀ (ss:List Int) (ws:List (List Int)),((ss.zip ws).map (·.2)).Sublist ws
 | [],_=>by simp
 | _::_,[]=>by simp
 | a::r,b::t=>by rw [List.zip_cons_cons,List.map_cons]; exact (zip_snd r t).cons₂ b
def WOk.free {ws:List (List Int)} (h:WOk ws) {ss:List Int} (nd:ss.Nodup):Free (ss.zip ws):=by
 have h1:((ss.zip ws).map (·.1)).Nodup:=nd.sublist (zip_fst ss ws)
 have h2:PF ((ss.zip ws).map (·.2)):=h.1.sub (zip_snd ss ws)
 exact (List.pairwise_map.mp h1).and (List.pairwise_map.mp h2) |>.imp fun z=>⟨z.1,z.2.1,z.2.2⟩
def WordsAt (H:Hp) (a:Addr) (ws:List (List Int)):Prop:=∃ vs,H a=some (.lst vs)/\Words H vs ws
def WordsAt.same {H H':Hp} {a:Addr} {ws:List (List Int)} (h:WordsAt H a ws) (s:Same H H'):WordsAt H' a ws:=by
 obtain ⟨vs,e,p⟩:=h
 exact ⟨vs,s _ _ e,p.tk s.tk⟩
def hand_of {H:Hp} {p a:Addr} (h:HandAt H p a):∃ xs,H p=some (.lst xs):=let ⟨_,_,_,e,_⟩:=h.ex; ⟨_,e⟩
def spSigns:Sp:=fun vs H Q _=>∃ (p a:Addr) (m:Int),vs=[.ref p,.int m]/\HandAt H p a/\0<=m/\m<=100 /\
 ∀ (l:Addr) (ss:List Int) (H':Hp),H l=none->l≠p->H' l=some (.lst (ss.map V.int))->ss.Nodup->(ss.length:Int)=m->HandAt H' p a->Grow p H H'->Q (.ref l) H'
def Free.rev {L:List Pr} (h:Free L):Free L.reverse:=List.pairwise_reverse.mpr (h.imp fun z=>⟨z.1.symm,z.2.2,z.2.1⟩)
theorem steps_inj {b s:Int} (hs:1<=s) (n:Nat):((List.range n).map fun k:Nat=>b + s * (k:Int)).Nodup:=by
 refine List.pairwise_map.mpr (List.pairwise_iff_getElem.mpr fun i j hi hj hij=>?_)
 simp only [List.getElem_range]
 intro e
 have h3:0 < s * ((j:Int) - (i:Int)):=Int.mul_pos (by omega) (by omega)
 rw [Int.mul_sub] at h3
 omega
def spin_nodup {ss:List Int} (h:ss.Nodup) (n:Nat):(ss.drop n++ss.take n).Nodup:=by
 have:(ss.take n++ss.drop n).Nodup:=by rw [List.take_append_drop]; exact h
 exact (List.perm_append_comm.nodup_iff).mp this
def Kept (p Pt:Addr) (H H':Hp):Prop:=∀ b o,b≠p->b≠Pt->H b=some o->H' b=some o
def Kept.trans {p Pt:Addr} {H H1 H2:Hp} (a:Kept p Pt H H1) (b:Kept p Pt H1 H2):Kept p Pt H H2:=fun c o n m h=>b c o n m (a c o n m h)
def Kept.tk {p Pt:Addr} {H H':Hp} (k:Kept p Pt H H') {xs:List V} {ps:Array Value} (e:H p=some (.lst xs)) (eP:H Pt=some (.tbl ps)):TupK H H' :=
 fun b ys h=>k b _ (ne_of h e fun z=>by cases z) (ne_of h eP fun z=>by cases z) h
def CodeAt.same {C x:Addr} {H H':Hp} {S:List Pr} (h:CodeAt C H x S) (s:Same H H'):CodeAt C H' x S:=by
 obtain ⟨dx,tp,d1,d2,d3,d4,ex,⟨⟨vs,a1,a2⟩,⟨k1,b1,b2⟩,⟨k2,c1,c2⟩,⟨k3,f1,f2⟩,⟨k4,g1,g2⟩⟩⟩:=h
 refine ⟨dx,tp,d1,d2,d3,d4,s _ _ ex,⟨vs,s _ _ a1,Prs.tk a2 s.tk⟩,⟨k1,s _ _ b1,fun p hp=>?_,b2.2⟩,⟨k2,s _ _ c1,c2⟩,⟨k3,s _ _ f1,f2⟩,⟨k4,s _ _ g1,g2⟩⟩
 obtain ⟨t,u,v⟩:=b2.1 p hp
 exact ⟨t,u,s _ _ v⟩
def free_eq {S:List Pr} (h:Free S) {p q:Pr} (hp:p∈S) (hq:q∈S) {l:List Int} (p1:p.2<+:l) (q1:q.2<+:l):p=q:=by
 obtain ⟨i,hi,rfl⟩:=List.getElem_of_mem hp
 obtain ⟨j,hj,rfl⟩:=List.getElem_of_mem hq
 have z:=List.prefix_or_prefix_of_prefix p1 q1
 rcases Nat.lt_trichotomy i j with l | l | l
 ·have a:=h.get hi hj l
  rcases z with z | z
  ·exact absurd z a.2.1
  ·exact absurd z a.2.2
 ·subst l; rfl
 ·have a:=h.get hj hi l
  rcases z with z | z
  ·exact absurd z a.2.2
  ·exact absurd z a.2.1
def Free.perm {S L:List Pr} (h:Free L) (p:S.Perm L):Free S:=(p.pairwise_iff (fun {a b} z=>⟨z.1.symm,z.2.2,z.2.1⟩)).mpr h
def Fits.perm {S L:List Pr} (h:Fits L) (p:S.Perm L):Fits S:=⟨by rw [p.length_eq]; exact h.1,fun x hx=>h.2 x (p.mem_iff.mp hx)⟩
def rowOf (T:List Pr):List Int:=(T.map fun q:Pr=>q.2).flatten
def signsOf (T:List Pr):List Int:=T.map fun q:Pr=>q.1
def row_cons (p:Pr) (T:List Pr):rowOf (p::T)=p.2++rowOf T:=rfl
def row_app (A B:List Pr):rowOf (A++B)=rowOf A++rowOf B:=by unfold rowOf; rw [List.map_append,List.flatten_append]
theorem cut_mid (w:List Int) {k m:Nat} (h:k<=w.length):cutV (w.map V.int) (some (k:Int)) (some ((k:Int) + (m:Int)))=((w.drop k).take m).map V.int:=by
 unfold cutV
 rw [<- Int.natCast_add,HT.sIx_nat,HT.sIx_nat,List.length_map,Nat.min_eq_left h,List.map_take,List.map_drop]
 refine List.take_eq_take_iff.mpr ?_
 rw [List.length_drop,List.length_map]
 omega
def TabOk.keep {Pt:Addr} {pos:Pos} {q:Str} {H H':Hp} (t:TabOk Pt pos q H) (k:Same H H'):TabOk Pt pos q H':=t.same k
section
variable {X:Cx} {K:W.Frag}
def rListOf (K:W.Frag):List V->Hp->VK->Prop:=fun xs H Q=>∃ p ys,xs=[.ref p]/\(SqL K H p ys\/SqT K H p ys)/\∀ l,H l=none->Q (.ref l) (upd H l (.lst ys))
def bk_list (h:X.K=K):CallR X (.type "list") (rListOf K):=by subst h; exact call_list_of
def rIsi (K:W.Frag):List V->Hp->VK->Prop:=fun xs H Q=>∃ x T t b,xs=[x,.ty T]/\TyOf K H x t/\W.kitOne K t (.type T)=some b/\Q (.bl b) H
def bk_isi (h:X.K=K):CallR X (.builtin "isinstance") (rIsi K):=by subst h; exact call_isi
end
abbrev En:=Nat×Option Int
inductive Went (S:List Pr) (ns:List Int):List En->Nat->Prop where
 | nil:Went S ns [] 0
 | lost {R:List En} {pl:Nat}:Went S ns R pl->pl < ns.length->(∀ p∈S,¬ p.2<+:ns.drop pl)->Went S ns (R++[(pl,none)]) (pl + 1)
 | word {R:List En} {pl:Nat} {p:Pr}:Went S ns R pl->p∈S->p.2<+:ns.drop pl->p.2≠[]->Went S ns (R++[(pl,some p.1)]) (pl + p.2.length)
theorem pre_lt {w ns:List Int} {pl:Nat} (h:w<+:ns.drop pl) (hw:w≠[]):pl < ns.length/\pl + w.length<=ns.length:=by
 have a:=h.length_le
 have b:=List.length_pos_iff.mpr hw
 rw [List.length_drop] at a
 omega
theorem Went.perm {S L:List Pr} {ns:List Int} {R:List En} {pl:Nat} (h:Went S ns R pl) (p:S.Perm L):Went L ns R pl:=by
 induction h with
 | nil=>exact .nil
 | lost _ h1 h2 ih=>exact .lost ih h1 fun q hq=>h2 q (p.mem_iff.mpr hq)
 | word _ h1 h2 h3 ih=>exact .word ih (p.mem_iff.mp h1) h2 h3
def oV:Option Int->V
 | some z=>.int z
 | none=>.non
def EntV (H:Hp) (v:V) (e:En):Prop:=∃ t,v=.ref t/\H t=some (.tup [.int (e.1:Nat),oV e.2])
def EntV.tk {H H':Hp} {v:V} {e:En} (h:EntV H v e) (s:TupK H H'):EntV H' v e:=by
 obtain ⟨t,a,b⟩:=h
 exact ⟨t,a,s _ _ b⟩
abbrev Ents (H:Hp):List V->List En->Prop:=Paired (EntV H)
def Ents.tk {H H':Hp} {vs:List V} {R:List En} (h:Ents H vs R) (s:TupK H H'):Ents H' vs R:=Paired.mapP h fun _ _ z=>z.tk s
def Told (S:List Pr) (ns:List Int) (R:List En):Prop:=∃ pl,Went S ns R pl/\ns.length<=pl
def Told.perm {S L:List Pr} {ns:List Int} {R:List En} (h:Told S ns R) (p:S.Perm L):Told L ns R:=by
 obtain ⟨pl,a,b⟩:=h
 exact ⟨pl,a.perm p,b⟩
def lostOf (R:List En):List Int:=(R.filter fun e=>e.2.isNone).map fun e=>((e.1:Nat):Int)
def spFrom:Sp:=fun vs H Q _=>∃ (ta ra:Addr) (L:List Pr) (ns:List Int) (pl:Nat),vs=[.ref ta,.ref ra,.int pl]/\TableAt H ta L/\L.length < 64/\H ra=some (.lst (ns.map V.int))/\pl<=ns.length /\
 (∀ p∈L,p.2<+:ns.drop pl->∀ (t:Addr) (H':Hp),Same H H'->H' t=some (.tup [.int p.1,.int ((pl + p.2.length:Nat):Int)])->Q (.ref t) H')/\((∀ p∈L,¬ p.2<+:ns.drop pl)->∀ H',Same H H'->Q .non H')
section
structure Noted (fs:List Addr) (ea T:Addr) (oe:Obj) (fl:Value) (h h':Heap):Prop where
 keep:∀ b o,b∉fs->b≠ea->h.get? b=some o->h'.get? b=some o
 slot:∀ b o,b≠ea->h.get? b=some o->∃ sl,h'.get? b=some { o with slots:=sl }
 new:h.objs.size<=T
 exc:h'.get? ea=some (oe.mapFields (·.setIfInBounds 1 (.ref T)))
 tb:∃ ob ts,h'.get? T=some ob/\ob.data=.fields ts/\ts[3]?=some fl
 ne:T≠ea
structure Gone (fs:List Addr) (ea:Addr) (T0:Option Addr) (oe:Obj) (vs:Array Value) (h h':Heap):Prop where
 keep:∀ b o,b∉fs->b≠ea->some b≠T0->h.get? b=some o->h'.get? b=some o
 slot:∀ b o,b≠ea->some b≠T0->h.get? b=some o->∃ sl,h'.get? b=some { o with slots:=sl }
 flow:∃ T vs' ob ts,h.objs.size<=T/\h'.get? ea=some { oe with data:=.fields vs' }/\vs'.size=vs.size/\vs'[1]?=some (.ref T)/\h'.get? T=some ob/\ob.data=.fields ts/\ts[3]?=some .none/\T≠ea
end
def excP (ea C:Addr) (d:Option Addr) (h:Heap):Prop:=∃ oe vs,h.get? ea=some oe/\oe.cls=.ref C/\oe.dict=d/\oe.data=.fields vs/\vs.size=6
def excP.ok {P:Program} {w:World} {H:Hp} {h:Heap} {ea C:Addr} {d:Option Addr} (x:excP ea C d h):ObjOk P w H h ea (.ext (excP ea C d)):=by
 obtain ⟨oe,vs,e,r⟩:=id x
 exact ⟨x,⟨oe,e⟩,fun h1 h2 ⟨o1,v1,e1,r1⟩ k=>⟨o1,v1,k _ e1,r1⟩⟩
def Flies (ea T:Addr) (h:Heap):Prop:=∃ oe vs oT ts,h.get? ea=some oe/\oe.data=.fields vs/\vs[1]?=some (.ref T)/\h.get? T=some oT/\oT.data=.fields ts/\ts[3]?=some .none/\T≠ea
def CXE (P:Program) (w:World):CXT:=fun outer H s E e s'=>∃ (ea C T:Addr) (d:Option Addr) (H':Hp),e=.ref ea/\s'.os=s.os/\AllBare s'.gens/\Un (frs outer) [] H H' s.heap s'.heap/\HOk P w H' s'.heap /\
 H' ea=some (.ext (excP ea C d))/\s.heap.objs.size<=ea/\H' T=none/\s.heap.objs.size<=T/\Flies ea T s'.heap/\E (.ref C) d H'
def CalE (P:Program) (w:World) (K:W.Frag) (mg:Str->Option Value) (base:Heap) (x:Str) (k:Nat) (ps:List Str) (sp:Sp):Prop :=
 ∃ f fd,FnOk P w K mg base (CXE P w) k f fd ps sp/\mg x=some (.ref f)/\W.keepIn K (.ref f)=true/\Binds K fd ps []
end L2
namespace L2
open PySem PySem.Spec PyProof.Rows PySem.W
abbrev veB:List Value:=[.type "ValueError",.type "Exception",.type "BaseException",.type "object"]
def excI (K:Frag) (C fI:Addr):Bool:=match K.lookup C with
 | some ⟨.type "type",_,.cls cd,sl⟩=>(match cd.mro,sl.toList with
  | .ref C'::bm,[_,_,_,_,some (.builtin n),_]=>C' == C && (n == "ValueError.__new__" && (!cd.hasDel && (tailIn K veB bm && (nsOkIn K cd.ns && cd.hasDict))))
  | _,_=>false)
 | _=>false
structure XCl (K:Frag) (C fI:Addr):Prop where
 ei:excI K C fI=true
 ob:mroIn K C (.type "object")=some true
 bx:mroIn K C (.type "BaseException")=some true
 sa:findIn K (.ref C) "__setattr__"=some (some (.builtin "object.__setattr__"))
 ga:findIn K (.ref C) "__getattribute__"=some (some (.builtin "BaseException.__getattribute__"))
 gt:findIn K (.ref C) "__getattr__"=some none
 hd:hasDictIn K C=true
 kp:keepIn K (.ref C)=true
 fn:typeIn K (.ref fI)=some (.type "function")
 cc:findIn K (.ref C) "__class__"=some (some (.builtin "object.__class__"))
 cg:specialIn K (.builtin "object.__class__") "__get__"=some (some (.builtin "getset_descriptor.__get__"))
 ct:takesIn K (.builtin "object.__class__")=some true
def excN (ea C:Addr) (d:Option Addr) (h:Heap):Prop:=∃ oe vs,h.get? ea=some oe/\oe.cls=.ref C/\oe.dict=d/\oe.data=.fields vs/\vs.size=6/\vs[1]?=some .none
def excN.ok {P:Program} {w:World} {H:Hp} {h:Heap} {ea C:Addr} {d:Option Addr} (x:excN ea C d h):ObjOk P w H h ea (.ext (excN ea C d)):=by
 obtain ⟨oe,vs,e,r⟩:=id x
 exact ⟨x,⟨oe,e⟩,fun h1 h2 ⟨o1,v1,e1,r1⟩ k=>⟨o1,v1,k _ e1,r1⟩⟩
def xdP (d:Addr) (fs:List (Str×V)) (h:Heap):Prop:=∃ mA,h.Ns1 d mA/\(∀ f,RelO (fs.lookup f) (mA f))/\PySem.Within mA (fs.map (·.1))
def xdP.ok {P:Program} {w:World} {H:Hp} {h:Heap} {d:Addr} {fs:List (Str×V)} (x:xdP d fs h):ObjOk P w H h d (.ext (xdP d fs)):=by
 obtain ⟨mA,⟨o,es,ep,e,r⟩,q⟩:=id x
 exact ⟨x,⟨o,e⟩,fun h1 h2 ⟨m1,n1,q1⟩ k=>⟨m1,n1.at k,q1⟩⟩
abbrev TH:=Addr->Option Addr->Addr->TS
structure Cau (K:Frag) (mg:Str->Option Value) (x:Str) (Dc:Addr):Prop where
 mg:mg x=some (.ref Dc)
 ty:typeIn K (.ref Dc)=some (.type "type")
 bx:mroIn K Dc (.type "BaseException")=some true
end L2
namespace L2
open PySem PySem.Spec PyProof.Rows PySem.W PySem.Builtin PySem.Builtin.ObjectAttr
section
def XD (H:Hp):Option Addr->List (Str×V)->Prop
 | some d,fs=>H d=some (.ext (xdP d fs))
 | none,fs=>fs=[]
theorem XD.mono {H H':Hp} (s:Same H H'):∀ {o:Option Addr} {fs:List (Str×V)},XD H o fs->XD H' o fs
 | some _,_,h=>s _ _ h
 | none,_,h=>h
end
end L2
namespace L2
open PySem PySem.Spec PyProof.Rows PySem.W
def Clean (R:List En):Prop:=∀ e∈R,e.2≠none
def Ends1 (S:List Pr) (ns:List Int) (R:List En) (pl:Nat):Prop:=Went S ns R pl/\Clean R/\(ns.length<=pl\/(pl < ns.length/\∀ p∈S,¬ p.2<+:ns.drop pl))
def Ends1.perm {S L:List Pr} {ns:List Int} {R:List En} {pl:Nat} (h:Ends1 S ns R pl) (p:S.Perm L):Ends1 L ns R pl :=
 ⟨h.1.perm p,h.2.1,h.2.2.imp (fun z=>z) fun ⟨a,b⟩=>⟨a,fun q hq=>b q (p.mem_iff.mpr hq)⟩⟩
def spWord (C:Addr):Sp:=fun vs H Q _=>∃ (x:Addr) (S:List Pr) (s:Int),vs=[.ref x,.int s]/\CodeAt C H x S/\(∀ p∈S,p.1=s->∀ t,H t=some (.tup (p.2.map V.int))->Q (.ref t) H)/\((∀ p∈S,p.1≠s)->Q .non H)
def lacksAt (S:List Pr) (ts:List Int) (i:Nat):Bool:=match ts[i]? with | some s=>S.all fun p=>decide (p.1≠s) | none=>false
def lk (S:List Pr) (ts:List Int) (j:Nat):List Int:=((List.range j).filter (lacksAt S ts)).map fun i:Nat=>(i:Int)
def Texts (S T:List Pr) (ts:List Int) (i:Nat):Prop:=(∀ p∈T,p∈S)/\signsOf T=ts.take i
def wordsBy.perm {H:Hp} {k:List (Key×V)} {S L:List Pr} (h:wordsBy H k L) (p:S.Perm L):wordsBy H k S:=⟨fun q hq=>h.1 q (p.mem_iff.mp hq),fun s hs=>h.2 s fun q hq=>hs q (p.mem_iff.mpr hq)⟩
def wordsBy.same {H H':Hp} {k:List (Key×V)} {S:List Pr} (h:wordsBy H k S) (s:Same H H'):wordsBy H' k S:=⟨fun q hq=>let ⟨t,a,b⟩:=h.1 q hq; ⟨t,a,s _ _ b⟩,h.2⟩
end L2
namespace L2
open PySem PySem.Spec PyProof.Rows
section
variable {K:Type} [DecidableEq K] {A:Around} {s:Shared}
inductive HitsH (A:Around) (s:Shared) (kb:List (K×Addr×Value)):List (K×Addr×Value)->Bool->Prop
 | nil:HitsH A s kb [] true
 | miss {k:K} {a:Addr} {v:Value} {r:List (K×Addr×Value)}:(∀ (j:Nat) (p:Addr×Value),kb[j]?≠some (k,p))->HitsH A s kb ((k,a,v)::r) false
 | hit {k:K} {a:Addr} {v:Value} {r:List (K×Addr×Value)} {j:Nat} {p:Addr×Value} {e b:Bool}:kb[j]?=some (k,p)->SeqAt.EqAt A s v p.2 e->HitsH A s kb r b->HitsH A s kb ((k,a,v)::r) (e && b)
end
end L2
namespace L2
open PySem PySem.W PyProof.Rows HT PySem.Calls
section
variable {prog:Program} {w:World} {A:Around} {E:Value->Shared->Prop} {s:Shared}
def tup_lt_tree {xs ys:List Value} {ns ms:List Int} {a b:Addr} {oa ob:Obj} {na nb:Nat} {P:PySem.Fin->Shared->Prop} (ha:s.heap.get? a=some oa) (da:oa.data=.seq xs.toArray na) (hb:s.heap.get? b=some ob) (cb:ob.cls=.type "tuple") (db:ob.data=.seq ys.toArray nb)
  (ia:IntsAre xs ns) (ib:IntsAre ys ms) (h:P (.done (.ret (.bool (lexLt ns ms)))) s):wpAny (model prog w) A (Builtin.«tuple.__lt__» ⟨[.ref a,.ref b],[]⟩) P E s:=by
 show wpAny _ _ (isInstance (.ref b) (.type "tuple") >>= _) _ _ s
 refine wpAny_bind (wpAny_isInstance ⟨ob,hb,cb⟩ isSubtype_tuple_tuple ?_)
 simp only [Bool.not_true,Bool.false_eq_true,if_false]
 refine wpAny_bind (wpAny_tupleItemsOf ha da ?_)
 refine wpAny_bind (wpAny_tupleItemsOf hb db ?_)
 refine wpAny_bind ?_
 simp only [List.toList_toArray]
 refine wpAny_forIn_list _
  (fun rest r s'=>r.1=none/\s'=s/\∃ ns' ms' xs' ys',rest=List.zip xs' ys'/\IntsAre xs' ns'/\IntsAre ys' ms'/\lexLt ns' ms'=lexLt ns ms/\decide (xs'.length < ys'.length)=decide (xs.length < ys.length))
  _ ?_ ?_ _ _ ⟨rfl,rfl,ns,ms,xs,ys,rfl,ia,ib,rfl,rfl⟩
 ·rintro ⟨u,v⟩ rest r s' ⟨hr,rfl,ns',ms',xs',ys',hz,hx',hy',hdec,hlen⟩
  cases hx' with
  | nil=>simp at hz
  | @cons k1 t1 x'' xs'' hx'' =>
   cases hy' with
   | nil=>simp at hz
   | @cons k2 t2 y'' ys'' hy'' =>
    simp only [List.zip_cons_cons,List.cons.injEq,Prod.mk.injEq] at hz
    obtain ⟨⟨rfl,rfl⟩,rfl⟩:=hz
    refine wpAny_bind (wpAny_eqBool_int ?_)
    by_cases hk:k1=k2
    ·subst hk
     rw [beq_self_eq_true]
     simp only [Bool.not_true,Bool.false_eq_true,if_false]
     refine wpAny_pure ⟨rfl,rfl,_,_,_,_,rfl,hx'',hy'',?_,by simpa using hlen⟩
     rw [<- hdec,lexLt_cons,if_pos rfl]
    ·rw [show (k1 == k2)=false from beq_eq_false_iff_ne.mpr hk]
     simp only [Bool.not_false,if_true]
     refine wpAny_bind (wpAny_rule ?_)
     refine wpAny_bind (show wpAny _ _ (compareOp .Lt (.int k1 t1) (.int k2 t2)) _ _ _ from wpAny_lt_int ?_)
     rw [<- hdec,lexLt_cons,if_neg hk] at h
     exact wpAny_bind (wpAny_pure (wpAny_pure (wpAny_pure h)))
 ·rintro ⟨r1,r2⟩ s' ⟨hr,rfl,ns',ms',xs',ys',hz,hx',hy',hdec,hlen⟩
  simp only at hr
  subst hr
  refine wpAny_pure ?_
  have hfin:Builtin.Tuple.tupleCompareSizes CmpOp.Lt xs.toArray.size ys.toArray.size=.bool (lexLt ns ms):=by
   show Value.bool (decide (xs.toArray.size < ys.toArray.size))=_
   rw [List.size_toArray,List.size_toArray,<- hlen,<- hdec]
   cases hx' with
   | nil =>
    cases hy' with
    | nil=>rfl
    | cons _ _ _=>simp [HT.lexLt]
   | cons _ _ _ =>
    cases hy' with
    | nil=>simp [HT.lexLt]
    | cons _ _ _=>simp at hz
  rw [hfin]
  exact h
def tup_lt {xs ys:List Value} {ns ms:List Int} {a b:Addr} {oa ob:Obj} {na nb:Nat} {Q:Value->Shared->Prop} (hu:A.units < cLine) (ha:s.heap.get? a=some oa) (ca:oa.cls=.type "tuple") (da:oa.data=.seq xs.toArray na) (hb:s.heap.get? b=some ob) (cb:ob.cls=.type "tuple") (db:ob.data=.seq ys.toArray nb)
  (ia:IntsAre xs ns) (ib:IntsAre ys ms) (h:Q (.bool (lexLt ns ms)) s):wpAny (model prog w) A (compareOp .Lt (.ref a) (.ref b)) Q E s :=
 wpAny_richCompare_same_room (op:=.Lt) ⟨oa,ha,ca⟩ ⟨ob,hb,cb⟩ F.slot_tuple_lt (wpAny_call_entry F.slot_tuple_lt ⟨oa,ha,ca⟩ F.entry_tuple_lt (tup_lt_tree ha da hb cb db ia ib ⟨_,rfl,(fun e=>nomatch e),h⟩) (F.args_tuple_lt_2 _ _)) hu
end
section
theorem ints_are:∀ {ns:List Int} {vs:List Value},Vals (ns.map V.int) vs->IntsAre vs ns
 | [],_,h=>by cases h; exact .nil
 | a::r,_,h=>by
  cases h with
  | cons h1 h2=>obtain ⟨t,e⟩:=h1; subst e; exact .cons a t (ints_are h2)
theorem items_int {prog:Program} {w:World}:∀ {ns:List Int} {vs:List Value},IntsAre vs ns->ItemsAre (intKind prog w) ns vs.toArray.toList
 | _,_,.nil=>.nil
 | _,_,.cons n t h=>.cons (by show Value.isInt n (Value.int n t)=true; simp [Value.isInt]) (items_int h)
end
end L2
namespace L2
open PySem PySem.Spec PyProof.Rows
section
def same_sqT {K:W.Frag} {H H':Hp} {a:Addr} {xs:List V} (e:Same H H') (h:SqT K H a xs):SqT K H' a xs:=by
 rcases h with h | h
 ·rcases h with h | ⟨o,h⟩
  ·exact .inl (.inl (e _ _ h))
  ·exact .inl (.inr ⟨o,e _ _ h⟩)
 ·exact .inr h
end
end L2
namespace L2
open PySem PySem.W PyProof.Rows HT PySem.Calls
section
variable {X:Cx} {pins:List (Addr×Obj)} {σ:St} {H:Hp} {s:Shared}
def rSortI (K:PySem.W.Frag):List V->Hp->VK->Prop:=fun xs H Q=>∃ (l:Addr) (ns:List Int),xs=[.ref l]/\SqL K H l (ns.map V.int)/\ns.length < 64 /\
 ∀ (D:Addr) (ns':List Int),H D=none->ns'.Perm ns->ns'.Pairwise (·<=·)->Q (.ref D) (upd H D (.lst (ns'.map V.int)))
theorem call_sortI {K:PySem.W.Frag} (hK:X.K=K):CallR X (.builtin "sorted") (rSortI K):=by
 intro pins s σ H xs us Q I r h
 obtain ⟨l,ns,rfl,hl,h64,q⟩:=h
 obtain ⟨u,rfl,rx⟩:=vals1 r
 cases rx
 subst hK
 obtain ⟨its,rv,pl,_⟩:=I.list hl
 have hI:=ints_are rv
 have el:=hI.length
 refine sorted_ints pl.isList hI (by omega) fun out ns' a1 a2 a3=>?_
 have hsz:((s.heap.push (seqObj "list" #[] 0)).update s.heap.objs.size (Obj.mapSeq (·++its.toArray))).objs.size=s.heap.objs.size + 1:=by
  rw [Heap.size_update,size_push']
 have hoL:(((s.heap.push (seqObj "list" #[] 0)).update s.heap.objs.size (Obj.mapSeq (·++its.toArray))).push (seqObj "list" its.toArray 0)).get? (s.heap.objs.size + 1)=some (seqObj "list" its.toArray 0):=by
  rw [<- hsz]; exact Heap.get?_push_size _ rfl
 have keep:∀ b o,s.heap.get? b=some o->(((s.heap.push (seqObj "list" #[] 0)).update s.heap.objs.size (Obj.mapSeq (·++its.toArray))).push (seqObj "list" its.toArray 0)).get? b=some o:=fun b o q=>by
  have hlt:b < s.heap.objs.size:=Heap.lt_size q
  rw [Heap.get?_push_ne _ _ _ (by rw [hsz]; exact Nat.ne_of_lt (Nat.lt_succ_of_lt hlt)),Heap.get?_update_ne _ _ _ _ (Nat.ne_of_lt hlt),Heap.get?_push_ne _ _ _ (Nat.ne_of_lt hlt)]
  exact q
 obtain ⟨e,he⟩:=sortedHeap_at (vs:=its) (out:=out) hoL
 refine ⟨.ref (s.heap.objs.size + 1),_,I.laid (a:=s.heap.objs.size + 1) (t':=s.toks) (fun b o eb=>?_) (Nat.le_succ _) (show ObjOk X.prog X.w _ _ _ (.lst (ns'.map V.int)) from ⟨?_,out.toList,e,ints_rel a1,he⟩),rfl,q _ ns' (I.hok.fresh (Nat.le_succ _)) a2 a3⟩
 ·have hb:s.heap.get? b=some o:=eb
  have hlt:b < s.heap.objs.size:=Heap.lt_size hb
  show (sortedHeap _ _ _ _).get? b=_
  rw [sortedHeap_old (Nat.ne_of_lt (Nat.lt_succ_of_lt hlt)) (by rw [size_push',hsz]; exact Nat.lt_succ_of_lt (Nat.lt_succ_of_lt hlt))]
  exact keep b o hb
 ·rw [List.length_map,a2.length_eq,sizeLine_eq]; omega
end
def LtAt (A:Around) (s:Shared) (u v:Value) (b:Bool):Prop:=∀ (prog:Program) (w:World) (E:Value->Shared->Prop) (Q:Value->Shared->Prop),Q (.bool b) s->wpAny (model prog w) A (compareOp .Lt u v) Q E s
def lexN:(Nat->Bool×Bool)->Nat->Nat->Bool
 | _,0,n=>decide (0 < n)
 | _,_ + 1,0=>false
 | z,m + 1,n + 1=>if (z 0).1 then lexN (fun j=>z (j + 1)) m n else (z 0).2
section
variable {prog:Program} {w:World} {A:Around} {E:Value->Shared->Prop} {s:Shared}
def LtAt.int (i j:Int) (t u:Tok):LtAt A s (.int i t) (.int j u) (decide (i < j)):=fun prog w E Q h=>wpAny_lt_int h
def tupLt_tree {xs ys:List Value} {z:Nat->Bool×Bool} {a b:Addr} {oa ob:Obj} {na nb:Nat} {P:PySem.Fin->Shared->Prop} (ha:s.heap.get? a=some oa) (da:oa.data=.seq xs.toArray na) (hb:s.heap.get? b=some ob) (cb:ob.cls=.type "tuple") (db:ob.data=.seq ys.toArray nb)
  (hz:∀ (j:Nat) (h1:j < xs.length) (h2:j < ys.length),SeqAt.EqAt A s xs[j] ys[j] (z j).1/\LtAt A s xs[j] ys[j] (z j).2) (h:P (.done (.ret (.bool (lexN z xs.length ys.length)))) s):wpAny (model prog w) A (Builtin.«tuple.__lt__» ⟨[.ref a,.ref b],[]⟩) P E s:=by
 show wpAny _ _ (isInstance (.ref b) (.type "tuple") >>= _) _ _ s
 refine wpAny_bind (wpAny_isInstance ⟨ob,hb,cb⟩ isSubtype_tuple_tuple ?_)
 simp only [Bool.not_true,Bool.false_eq_true,if_false]
 refine wpAny_bind (wpAny_tupleItemsOf ha da ?_)
 refine wpAny_bind (wpAny_tupleItemsOf hb db ?_)
 refine wpAny_bind ?_
 simp only [List.toList_toArray]
 refine wpAny_forIn_list _
  (fun rest r s'=>r.1=none/\s'=s/\∃ (xs' ys':List Value) (z':Nat->Bool×Bool),rest=List.zip xs' ys'/\(∀ (j:Nat) (h1:j < xs'.length) (h2:j < ys'.length),SeqAt.EqAt A s xs'[j] ys'[j] (z' j).1/\LtAt A s xs'[j] ys'[j] (z' j).2)/\lexN z' xs'.length ys'.length=lexN z xs.length ys.length/\decide (xs'.length < ys'.length)=decide (xs.length < ys.length))
  _ ?_ ?_ _ _ ⟨rfl,rfl,xs,ys,z,rfl,hz,rfl,rfl⟩
 ·rintro ⟨u,v⟩ rest r s' ⟨hr,rfl,xs',ys',z',hq,hz',hdec,hlen⟩
  cases xs' with
  | nil=>simp at hq
  | cons x xs'' =>
   cases ys' with
   | nil=>simp at hq
   | cons y ys'' =>
    simp only [List.zip_cons_cons,List.cons.injEq,Prod.mk.injEq] at hq
    obtain ⟨⟨rfl,rfl⟩,rfl⟩:=hq
    obtain ⟨h1,h2⟩:=hz' 0 (Nat.succ_pos _) (Nat.succ_pos _)
    refine wpAny_bind (h1 _ _ _ _ ?_)
    rw [List.length_cons,List.length_cons,lexN] at hdec
    cases e:(z' 0).1 with
    | true =>
     rw [e,if_pos rfl] at hdec
     simp only [Bool.not_true,Bool.false_eq_true,if_false]
     exact wpAny_pure ⟨rfl,rfl,_,_,fun j=>z' (j + 1),rfl,fun j g1 g2=>hz' (j + 1) (Nat.succ_lt_succ g1) (Nat.succ_lt_succ g2),hdec,by simpa using hlen⟩
    | false =>
     rw [e,if_neg (by decide)] at hdec
     simp only [Bool.not_false,if_true]
     refine wpAny_bind (wpAny_rule ?_)
     refine wpAny_bind (h2 _ _ _ _ ?_)
     rw [<- hdec] at h
     exact wpAny_bind (wpAny_pure (wpAny_pure (wpAny_pure h)))
 ·rintro ⟨r1,r2⟩ s' ⟨hr,rfl,xs',ys',z',hq,hz',hdec,hlen⟩
  simp only at hr
  subst hr
  refine wpAny_pure ?_
  have hfin:Builtin.Tuple.tupleCompareSizes CmpOp.Lt xs.toArray.size ys.toArray.size=.bool (lexN z xs.length ys.length):=by
   show Value.bool (decide (xs.toArray.size < ys.toArray.size))=_
   rw [List.size_toArray,List.size_toArray,<- hlen,<- hdec]
   cases xs' with
   | nil=>rfl
   | cons _ _ =>
    cases ys' with
    | nil=>rw [List.length_cons,List.length_nil,lexN]; simp
    | cons _ _=>simp at hq
  rw [hfin]
  exact h
def LtAt.tup {xs ys:List Value} {z:Nat->Bool×Bool} {a b:Addr} {oa ob:Obj} {na nb:Nat} (hu:A.units < cLine) (ha:s.heap.get? a=some oa) (ca:oa.cls=.type "tuple") (da:oa.data=.seq xs.toArray na) (hb:s.heap.get? b=some ob) (cb:ob.cls=.type "tuple") (db:ob.data=.seq ys.toArray nb)
  (hz:∀ (j:Nat) (h1:j < xs.length) (h2:j < ys.length),SeqAt.EqAt A.in1 s xs[j] ys[j] (z j).1/\LtAt A.in1 s xs[j] ys[j] (z j).2):LtAt A s (.ref a) (.ref b) (lexN z xs.length ys.length):=fun prog w E Q h =>
 wpAny_richCompare_same_room (op:=.Lt) ⟨oa,ha,ca⟩ ⟨ob,hb,cb⟩ F.slot_tuple_lt (wpAny_call_entry F.slot_tuple_lt ⟨oa,ha,ca⟩ F.entry_tuple_lt (tupLt_tree ha da hb cb db hz ⟨_,rfl,(fun e=>nomatch e),h⟩) (F.args_tuple_lt_2 _ _)) hu
end
end L2
namespace PySem.SeqAt
open AutoSeq1 (wpAny_loadPart')
open MeetsSeq MeetsSeq2 MeetsSeq3 SeqRoads2
theorem lt_loopAt (l b:Addr) (items items2:Array Value) (n n2:Nat) (dd dd2:Option Addr) (sl sl2:Array (Option Value)) (k:Nat) :
  ∀ (i:Nat) (z:Nat->Bool×Bool),items.size - i=k->i<=items.size->i<=items2.size->Meets (Builtin.«list.__eq__.loop» ⟨[.ref l,.ref b,rawInt i,rawInt 0],[]⟩)
   (fun A R s=>s.heap.get? l=some { cls:=.type "list",dict:=dd,data:=.seq items n,slots:=sl }/\s.heap.get? b=some { cls:=.type "list",dict:=dd2,data:=.seq items2 n2,slots:=sl2 } /\
    (∀ j (h1:i + j < items.size) (h2:i + j < items2.size),EqAt A.in1 s items[i + j] items2[i + j] (z j).1/\L2.LtAt A.in1 s items[i + j] items2[i + j] (z j).2) /\
    R (.ok (.ret (.bool (L2.lexN z (items.size - i) (items2.size - i))))) s):=by
 induction k with
 | zero =>
  intro i z hk hi hi' prog w A R s h
  obtain ⟨hp,g,d,tk,os⟩:=s; obtain ⟨hl,hb,he,h⟩:=h
  wp_walk using wpAny_loadPart' hl,wpAny_loadPart' hb
  have hi1:items[((i:Nat):Int).toNat]?=none:=by simp; omega
  rw [hi1]
  wp_walk using wpAny_loadPart' hl,wpAny_loadPart' hb
  show R (.ok (.ret (.bool (decide (items.size < items2.size))))) _
  rw [show items.size - i=0 by omega,L2.lexN] at h
  rw [show decide (items.size < items2.size)=decide (0 < items2.size - i) from decide_eq_decide.mpr (by omega)]
  exact h
 | succ k ih =>
  intro i z hk hi hi' prog w A R s h
  obtain ⟨hp,g,d,tk,os⟩:=s; obtain ⟨hl,hb,he,h⟩:=h
  wp_walk using wpAny_loadPart' hl,wpAny_loadPart' hb
  have hlt:i < items.size:=by omega
  have hi1:items[((i:Nat):Int).toNat]?=some items[i]:=by simp [hlt]
  have hc:((i:Int) + 1)=((i + 1:Nat):Int):=by push_cast; rfl
  by_cases hlt2:i < items2.size
  ·have hi2:items2[((i:Nat):Int).toNat]?=some items2[i]:=by simp [hlt2]
   rw [show items.size - i=(items.size - (i + 1)) + 1 by omega,show items2.size - i=(items2.size - (i + 1)) + 1 by omega,L2.lexN] at h
   obtain ⟨h1,h2⟩:=he 0 hlt hlt2
   rw [hi1,hi2]
   refine wpAny_bind (h1 prog w _ _ ?_)
   cases hb':(z 0).1 with
   | true =>
    rw [hb',if_pos rfl] at h
    wp_walk
    rw [hc]
    exact ⟨plainId_quiet plain_eq_loop _,codeAny_builtin entry_eq_loop (by
     rw [Around.under_plainId plain_eq_loop _]
     exact ih (i + 1) (fun j=>z (j + 1)) (by omega) (by omega) (by omega) prog w A R _ ⟨hl,hb,fun j g1 g2=>by
      have:=he (j + 1) (by omega) (by omega)
      simpa only [Nat.add_comm 1 j,<- Nat.add_assoc,Nat.add_right_comm i 1 j] using this,h⟩)⟩
   | false =>
    rw [hb',if_neg (by decide)] at h
    wp_walk using wpAny_loadPart' hl,wpAny_loadPart' hb
    rw [hi1,hi2]
    refine wpAny_bind (h2 prog w _ _ ?_)
    wp_walk
    exact h
  ·have hi2:items2[((i:Nat):Int).toNat]?=none:=by simp; omega
   rw [hi1,hi2]
   wp_walk using wpAny_loadPart' hl,wpAny_loadPart' hb
   show R (.ok (.ret (.bool (decide (items.size < items2.size))))) _
   rw [show items.size - i=(items.size - (i + 1)) + 1 by omega,show items2.size - i=0 by omega,L2.lexN] at h
   rw [decide_eq_false (show ¬ items.size < items2.size by omega)]
   exact h
theorem list_ltAt (l b:Addr) (items items2:Array Value) (n n2:Nat) (dd dd2:Option Addr) (sl sl2:Array (Option Value)) (z:Nat->Bool×Bool) :
  Meets (Builtin.«list.__lt__» ⟨[.ref l,.ref b],[]⟩)
   (fun A R s=>s.heap.get? l=some { cls:=.type "list",dict:=dd,data:=.seq items n,slots:=sl }/\s.heap.get? b=some { cls:=.type "list",dict:=dd2,data:=.seq items2 n2,slots:=sl2 } /\
    (∀ j (h1:j < items.size) (h2:j < items2.size),EqAt A.in1 s items[j] items2[j] (z j).1/\L2.LtAt A.in1 s items[j] items2[j] (z j).2) /\
    R (.ok (.ret (.bool (L2.lexN z items.size items2.size)))) s):=by
 intro prog w A R s h
 obtain ⟨hp,g,d,tk,os⟩:=s; obtain ⟨hl,hb,he,h⟩:=h
 have f3:=AutoSeq1.sub_list_list
 wp_walk using wpAny_loadPart' hl,wpAny_loadPart' hb
 exact ⟨plainId_quiet plain_eq_loop _,codeAny_builtin entry_eq_loop (by
  rw [Around.under_plainId plain_eq_loop _]
  refine lt_loopAt l b items items2 n n2 dd dd2 sl sl2 _ 0 z rfl (Nat.zero_le _) (Nat.zero_le _) prog w A R _ ⟨hl,hb,fun j h1 h2=>?_,h⟩
  have:=he j (by omega) (by omega)
  simpa only [Nat.zero_add] using this)⟩
end PySem.SeqAt
namespace L2
open PySem PySem.W PyProof.Rows HT PySem.Calls
section
variable {A:Around} {s:Shared}
def LtAt.lst {items items2:Array Value} {z:Nat->Bool×Bool} {l b:Addr} (hl:s.heap.IsList l items) (hb:s.heap.IsList b items2) (hu:A.units < cLine)
  (hz:∀ (j:Nat) (h1:j < items.size) (h2:j < items2.size),SeqAt.EqAt A.in1 s items[j] items2[j] (z j).1/\LtAt A.in1 s items[j] items2[j] (z j).2):LtAt A s (.ref l) (.ref b) (lexN z items.size items2.size):=fun prog w E Q h=>by
 obtain ⟨⟨cls,dd,data,sl⟩,ho,hc,n,hd⟩:=id hl
 obtain ⟨⟨cls2,dd2,data2,sl2⟩,ho2,hc2,n2,hd2⟩:=id hb
 simp only at hc hd hc2 hd2
 subst hc hd hc2 hd2
 exact richCompare_meets_room (op:=.Lt) ⟨_,ho,rfl⟩ ⟨_,ho2,rfl⟩ F.slot_list_lt F.entry_list_lt (F.args_list_lt_2 _ _) (SeqAt.list_ltAt l b items items2 n n2 dd dd2 sl sl2 z)
  ⟨ho,ho2,hz,show Value.bool (lexN z items.size items2.size)≠Value.notImplemented/\Q (.bool (lexN z items.size items2.size)) s from ⟨(fun x=>nomatch x),h⟩⟩ hu
end
def minIx (lt:Nat->Nat->Bool):Nat->Nat
 | 0=>0
 | n + 1=>if lt (n + 1) (minIx lt n) then n + 1 else minIx lt n
theorem minIx_le (lt:Nat->Nat->Bool):∀ n,minIx lt n<=n
 | 0=>Nat.le_refl _
 | n + 1=>by
  have:=minIx_le lt n
  rw [minIx]
  split <;> omega
section
variable {X:Cx} {pins:List (Addr×Obj)} {σ:St} {H:Hp} {A:Around}
def LtsV (X:Cx) (H:Hp) (x y:V) (b:Bool):Prop:=∀ (pins:List (Addr×Obj)) (σ:St) (s:Shared) (A:Around) (u v:Value),Inv X pins σ H s->A.units + 190 < cLine->RelV x u->RelV y v->LtAt A s u v b
end
section
variable {s:Shared} {A:Around}
theorem un_of {k:Nat} (hr:Room k A):A.units + 200 < cLine:=by have:=hr.un; omega
theorem lexN_ints:∀ (ns ms:List Int),lexN (fun j=>(ns[j]? == ms[j]?,decide ((ns[j]?).getD 0 < (ms[j]?).getD 0))) ns.length ms.length=HT.lexLt ns ms
 | [],[]=>rfl
 | [],_::_=>rfl
 | _::_,[]=>rfl
 | n::ns,m::ms=>by
  have ih:=lexN_ints ns ms
  rw [List.length_cons,List.length_cons,lexN,HT.lexLt_cons]
  simp only [List.getElem?_cons_zero,List.getElem?_cons_succ,Option.getD_some]
  rw [ih]
  by_cases e:n=m
  ·rw [if_pos e,if_pos (by rw [e]; exact beq_self_eq_true _)]
  ·rw [if_neg e,if_neg (by simp [e])]
theorem ints_at {us:List Value} {ns:List Int} (h:IntsAre us ns):us.length=ns.length/\∀ (j:Nat) (hj:j < us.length),∃ t,us[j]=.int ((ns[j]?).getD 0) t:=by
 induction h with
 | nil=>exact ⟨rfl,fun j hj=>absurd hj (Nat.not_lt_zero _)⟩
 | cons n t h ih =>
  refine ⟨by rw [List.length_cons,List.length_cons,ih.1],fun j hj=>?_⟩
  cases j with
  | zero=>exact ⟨t,rfl⟩
  | succ j=>exact ih.2 j (Nat.lt_of_succ_lt_succ hj)
theorem ints_lt {us vs:List Value} {ns ms:List Int} (h1:IntsAre us ns) (h2:IntsAre vs ms) (j:Nat) (g1:j < us.length) (g2:j < vs.length):SeqAt.EqAt A s us[j] vs[j] (ns[j]? == ms[j]?)/\LtAt A s us[j] vs[j] (decide ((ns[j]?).getD 0 < (ms[j]?).getD 0)):=by
 obtain ⟨l1,a1⟩:=ints_at h1
 obtain ⟨l2,a2⟩:=ints_at h2
 obtain ⟨t,e1⟩:=a1 j g1
 obtain ⟨u,e2⟩:=a2 j g2
 rw [e1,e2]
 refine ⟨?_,.int _ _ _ _⟩
 have:=SeqAt.EqAt.int_int (A:=A) (s:=s) ((ns[j]?).getD 0) t ((ms[j]?).getD 0) u
 rw [List.getElem?_eq_getElem (by omega),List.getElem?_eq_getElem (by omega)] at this ⊢
 exact this
abbrev St4:=Int×List Int×List Int×List Int
end
def GtAt (A:Around) (s:Shared) (u v:Value) (b:Bool):Prop:=∀ (prog:Program) (w:World) (E:Value->Shared->Prop) (Q:Value->Shared->Prop),Q (.bool b) s->wpAny (model prog w) A (compareOp .Gt u v) Q E s
def lexG:(Nat->Bool×Bool)->Nat->Nat->Bool
 | _,0,_=>false
 | _,_ + 1,0=>true
 | z,m + 1,n + 1=>if (z 0).1 then lexG (fun j=>z (j + 1)) m n else (z 0).2
def GtAt.int {A:Around} {s:Shared} (i j:Int) (t u:Tok):GtAt A s (.int i t) (.int j u) (decide (i > j)):=fun prog w E Q h=>PyProof.Rows.gt_int h
end L2
namespace PySem.SeqAt
open AutoSeq1 (wpAny_loadPart')
open MeetsSeq MeetsSeq2 MeetsSeq3 SeqRoads2
theorem gt_loopAt (l b:Addr) (items items2:Array Value) (n n2:Nat) (dd dd2:Option Addr) (sl sl2:Array (Option Value)) (k:Nat) :
  ∀ (i:Nat) (z:Nat->Bool×Bool),items.size - i=k->i<=items.size->i<=items2.size->Meets (Builtin.«list.__eq__.loop» ⟨[.ref l,.ref b,rawInt i,rawInt 4],[]⟩)
   (fun A R s=>s.heap.get? l=some { cls:=.type "list",dict:=dd,data:=.seq items n,slots:=sl }/\s.heap.get? b=some { cls:=.type "list",dict:=dd2,data:=.seq items2 n2,slots:=sl2 } /\
    (∀ j (h1:i + j < items.size) (h2:i + j < items2.size),EqAt A.in1 s items[i + j] items2[i + j] (z j).1/\L2.GtAt A.in1 s items[i + j] items2[i + j] (z j).2) /\
    R (.ok (.ret (.bool (L2.lexG z (items.size - i) (items2.size - i))))) s):=by
 induction k with
 | zero =>
  intro i z hk hi hi' prog w A R s h
  obtain ⟨hp,g,d,tk,os⟩:=s; obtain ⟨hl,hb,he,h⟩:=h
  wp_walk using wpAny_loadPart' hl,wpAny_loadPart' hb
  have hi1:items[((i:Nat):Int).toNat]?=none:=by simp; omega
  rw [hi1]
  wp_walk using wpAny_loadPart' hl,wpAny_loadPart' hb
  show R (.ok (.ret (.bool (decide (items.size > items2.size))))) _
  rw [show items.size - i=0 by omega,L2.lexG] at h
  rw [decide_eq_false (show ¬ items.size > items2.size by omega)]
  exact h
 | succ k ih =>
  intro i z hk hi hi' prog w A R s h
  obtain ⟨hp,g,d,tk,os⟩:=s; obtain ⟨hl,hb,he,h⟩:=h
  wp_walk using wpAny_loadPart' hl,wpAny_loadPart' hb
  have hlt:i < items.size:=by omega
  have hi1:items[((i:Nat):Int).toNat]?=some items[i]:=by simp [hlt]
  have hc:((i:Int) + 1)=((i + 1:Nat):Int):=by push_cast; rfl
  by_cases hlt2:i < items2.size
  ·have hi2:items2[((i:Nat):Int).toNat]?=some items2[i]:=by simp [hlt2]
   rw [show items.size - i=(items.size - (i + 1)) + 1 by omega,show items2.size - i=(items2.size - (i + 1)) + 1 by omega,L2.lexG] at h
   obtain ⟨h1,h2⟩:=he 0 hlt hlt2
   rw [hi1,hi2]
   refine wpAny_bind (h1 prog w _ _ ?_)
   cases hb':(z 0).1 with
   | true =>
    rw [hb',if_pos rfl] at h
    wp_walk
    rw [hc]
    exact ⟨plainId_quiet plain_eq_loop _,codeAny_builtin entry_eq_loop (by
     rw [Around.under_plainId plain_eq_loop _]
     exact ih (i + 1) (fun j=>z (j + 1)) (by omega) (by omega) (by omega) prog w A R _ ⟨hl,hb,fun j g1 g2=>by
      have:=he (j + 1) (by omega) (by omega)
      simpa only [Nat.add_comm 1 j,<- Nat.add_assoc,Nat.add_right_comm i 1 j] using this,h⟩)⟩
   | false =>
    rw [hb',if_neg (by decide)] at h
    wp_walk using wpAny_loadPart' hl,wpAny_loadPart' hb
    rw [hi1,hi2]
    refine wpAny_bind (h2 prog w _ _ ?_)
    wp_walk
    exact h
  ·have hi2:items2[((i:Nat):Int).toNat]?=none:=by simp; omega
   rw [hi1,hi2]
   wp_walk using wpAny_loadPart' hl,wpAny_loadPart' hb
   show R (.ok (.ret (.bool (decide (items.size > items2.size))))) _
   rw [show items.size - i=(items.size - (i + 1)) + 1 by omega,show items2.size - i=0 by omega,L2.lexG] at h
   rw [decide_eq_true (show items.size > items2.size by omega)]
   exact h
theorem list_gtAt (l b:Addr) (items items2:Array Value) (n n2:Nat) (dd dd2:Option Addr) (sl sl2:Array (Option Value)) (z:Nat->Bool×Bool) :
  Meets (Builtin.«list.__gt__» ⟨[.ref l,.ref b],[]⟩)
   (fun A R s=>s.heap.get? l=some { cls:=.type "list",dict:=dd,data:=.seq items n,slots:=sl }/\s.heap.get? b=some { cls:=.type "list",dict:=dd2,data:=.seq items2 n2,slots:=sl2 } /\
    (∀ j (h1:j < items.size) (h2:j < items2.size),EqAt A.in1 s items[j] items2[j] (z j).1/\L2.GtAt A.in1 s items[j] items2[j] (z j).2) /\
    R (.ok (.ret (.bool (L2.lexG z items.size items2.size)))) s):=by
 intro prog w A R s h
 obtain ⟨hp,g,d,tk,os⟩:=s; obtain ⟨hl,hb,he,h⟩:=h
 have f3:=AutoSeq1.sub_list_list
 wp_walk using wpAny_loadPart' hl,wpAny_loadPart' hb
 exact ⟨plainId_quiet plain_eq_loop _,codeAny_builtin entry_eq_loop (by
  rw [Around.under_plainId plain_eq_loop _]
  refine gt_loopAt l b items items2 n n2 dd dd2 sl sl2 _ 0 z rfl (Nat.zero_le _) (Nat.zero_le _) prog w A R _ ⟨hl,hb,fun j h1 h2=>?_,h⟩
  have:=he j (by omega) (by omega)
  simpa only [Nat.zero_add] using this)⟩
end PySem.SeqAt
namespace L2
open PySem PySem.W PyProof.Rows HT PySem.Calls
section
variable {A:Around} {s:Shared}
def GtAt.lst {items items2:Array Value} {z:Nat->Bool×Bool} {l b:Addr} (hl:s.heap.IsList l items) (hb:s.heap.IsList b items2) (hu:A.units < cLine)
  (hz:∀ (j:Nat) (h1:j < items.size) (h2:j < items2.size),SeqAt.EqAt A.in1 s items[j] items2[j] (z j).1/\GtAt A.in1 s items[j] items2[j] (z j).2):GtAt A s (.ref l) (.ref b) (lexG z items.size items2.size):=fun prog w E Q h=>by
 obtain ⟨⟨cls,dd,data,sl⟩,ho,hc,n,hd⟩:=id hl
 obtain ⟨⟨cls2,dd2,data2,sl2⟩,ho2,hc2,n2,hd2⟩:=id hb
 simp only at hc hd hc2 hd2
 subst hc hd hc2 hd2
 exact richCompare_meets_room (op:=.Gt) ⟨_,ho,rfl⟩ ⟨_,ho2,rfl⟩ F.slot_list_gt F.entry_list_gt (F.args_list_gt_2 _ _) (SeqAt.list_gtAt l b items items2 n n2 dd dd2 sl sl2 z)
  ⟨ho,ho2,hz,show Value.bool (lexG z items.size items2.size)≠Value.notImplemented/\Q (.bool (lexG z items.size items2.size)) s from ⟨(fun x=>nomatch x),h⟩⟩ hu
end
end L2
namespace L2
open PySem PySem.Spec PyProof.Rows
def OnlyTs (Ps:List Addr) (H:Hp):Prop:=(∀ P∈Ps,H P=some (.tbl #[]))/\∀ b,b∉Ps->H b=none\/∃ o xs,H b=some (.frz o (.lst xs))
def OnlyTs.tab {P:Addr} {Ps:List Addr} {H:Hp} (o:OnlyTs Ps H) (hp:P∈Ps) (pos:Pos) (q:Str):TabOk P pos q H:=⟨#[],o.1 P hp,trivial,.inl rfl⟩
theorem law_callTs {P:Program} {w:World} {K:W.Frag} {mg mb:Str->Option Value} {CX:CXT} {k:Nat} {fa a:Addr} {Ps:List Addr} {fd:FuncData} {x:Str} {sp:Sp} {s₁:Shared} {vs:List Value} {ns:List Int}
  (KX:K.In s₁.heap) (hns:s₁.heap.Ns mainGlobals mg) (hb:s₁.heap.Ns builtinsNs mb) (hbb:∀ x:Str,x≠"__name__"->mb x=bootBuiltins x) (hlim:s₁.heap.NoLimit) (hbm:Bm mg s₁.heap) (hg:s₁.gens=#[])
  (ha:s₁.heap.get? a=some { cls:=.type "list",data:=.seq vs.toArray }) (hi:IntsAre vs ns) (hl:ns.length<=sizeLine) (hr:Room k callerA)
  (hP:∀ P∈Ps,s₁.heap.get? P=some (W.tabObj #[])) (hPK:∀ P∈Ps,K.lookup P=none) (hC:∀ P∈Ps,∃ c,W.CodeHd s₁.heap c P)
  (F:∀ base:Heap,K.In base->base.Ns mainGlobals mg->Bm mg base->FnOk P w K mg base CX k fa fd [x] sp) (hbind:∀ (s:Shared) (u:Value),BindsTo s fd ⟨[u],[]⟩ [(x,u)])
  (hsp:∀ H:Hp,OnlyTs Ps H->SqL K H a (ns.map V.int)->sp [.ref a] H (fun v _=>v=.bl true) fun _ _ _=>False)
  (hCX:∀ H e s',CX [] H s₁ (fun _ _ _=>False) e s'->False) :
  codeAny (model P w) callerA (.call (.ref fa) ⟨[.ref a],[]⟩) (fun r s'=>r=.ok (.ret (.bool true))/\OldK s₁.heap s'.heap/\s'.os=s₁.os/\AllBare s'.gens) s₁:=by
 have rv:=vals_ints hi
 have lenV:=hi.length
 have aP:a∉Ps:=fun z=>by rw [hP a z] at ha; cases ha
 have core:∀ H:Hp,OnlyTs Ps H->SqL K H a (ns.map V.int)->HOk P w H s₁.heap->(∀ b,H b≠none->b=a\/b∈Ps)->(∀ b,H b≠none->K.lookup b=none) ->
   codeAny (model P w) callerA (.call (.ref fa) ⟨[.ref a],[]⟩) (fun r s'=>r=.ok (.ret (.bool true))/\OldK s₁.heap s'.heap/\s'.os=s₁.os/\AllBare s'.gens) s₁:=by
  intro H hO hS hok hA hK
  have base_of:∀ {b:Addr} {o:Obj},s₁.heap.get? b=some o->H b=none->(hidT s₁.heap H).get? b=some o:=fun e n=>hidT_get e n
  have noA:∀ {b:Addr} {o:Obj},s₁.heap.get? b=some o->(∀ its n,o.data≠.seq its n)->(∀ ps,o.data≠.fields ps)->H b=none:=fun {b o} e d d2=>by
   cases q:H b with
   | none=>rfl
   | some u =>
    rcases hA b (by rw [q]; simp) with e' | e'
    ·subst e'
     rw [ha] at e; cases e
     exact absurd rfl (d _ _)
    ·rw [hP b e'] at e; cases e
     exact absurd rfl (d2 _)
  have nsK:∀ {b:Addr} {m:Str->Option Value},s₁.heap.Ns b m->(hidT s₁.heap H).Ns b m:=fun {b m} ⟨o,es,ep,e,d,r⟩=>⟨o,es,ep,base_of e (noA e (by rw [d]; intro _ _ z; cases z) (by rw [d]; intro _ z; cases z)),d,r⟩
  have hKb:K.In (hidT s₁.heap H):=fun b o e=>base_of (KX b o e) (by
   cases q:H b with
   | none=>rfl
   | some u=>rw [hK b (by rw [q]; simp)] at e; cases e)
  have hBm:Bm mg (hidT s₁.heap H):=by
   obtain ⟨bm,ob,b1,b2,b3,b4,b5,b6⟩:=hbm
   exact ⟨bm,ob,b1,b2,base_of b3 (noA b3 (by rw [b6]; intro _ _ z; cases z) (by rw [b6]; intro _ z; cases z)),b4,b5,b6⟩
  have hM:Mod K mg (hidT s₁.heap H):=⟨hKb,nsK hns,⟨mb,nsK hb,hbb⟩,let ⟨mc,h1,h2⟩:=hlim; ⟨mc,nsK h1,h2⟩⟩
  have e0:Env0 P w K mg (hidT s₁.heap H) callerA [] s₁ H:=⟨rfl,hM,fun b o e=>of_hidT e,Nat.le_of_eq (hidT_size _ _),trivial,fun b hb=>absurd (show b∈([]:List Addr) from hb) (by simp),hok,.of_eq hg⟩
  refine codeAny_mono ((F _ hKb (nsK hns) hBm).run callerA [] s₁ H ⟨[.ref a],[]⟩ [.ref a] [.ref a] _ _ hr e0 (hbind s₁ (.ref a)) (.cons rfl .nil) (hsp H hO hS)) fun r s' h=>?_
  cases r with
  | error e=>exact (hCX H e s' h).elim
  | ok fl =>
   cases fl with
   | next=>exact False.elim h
   | brk=>exact False.elim h
   | cont=>exact False.elim h
   | ret u =>
    obtain ⟨v,H',os,bare,un,hok',r',q⟩:=h
    have q':v=.bl true:=q
    subst q'
    obtain rfl:u=Value.bool true:=r'
    have kp:∀ b o,b∉Ps->s₁.heap.get? b=some o->s'.heap.get? b=some o:=fun b o nP e=>by
     cases q:H b with
     | none=>exact un.keep b o e q (by intro z; exact absurd (show b∈([]:List Addr) from z) (by simp)) (by simp)
     | some u =>
      rcases hO.2 b nP with z | ⟨ob,xs,z⟩
      ·rw [q] at z; cases z
      ·have z2:=un.frzs b ob _ z
       obtain ⟨e1,_⟩:=hok b _ z
       obtain ⟨e2,_⟩:=hok' b _ z2
       rw [e] at e1; cases e1
       exact e2
    have tb:∀ P∈Ps,∃ more,s'.heap.get? P=some { cls:=.none,data:=.fields (#[]++more) }:=fun P hp=>by
     obtain ⟨more,hm⟩:=un.tbls P #[] (hO.1 P hp)
     exact ⟨more,hok' P _ hm⟩
    refine ⟨rfl,⟨fun b o e=>?_,fun b o e=>?_⟩,os,bare⟩
    ·by_cases hbP:b∈Ps
     ·obtain ⟨more,hPt⟩:=tb b hbP
      have hP':=hP b hbP
      obtain ⟨c,hC'⟩:=hC b hbP
      rw [hP'] at e
      cases e
      exact .inr (.inl ⟨(hC'.tab hP').isCodeTable,rfl,#[],more,rfl,hPt⟩)
     ·exact .inl (kp b o hbP e)
    ·by_cases hbP:b∈Ps
     ·exact ⟨_,(tb b hbP).choose_spec⟩
     ·exact ⟨o,kp b o hbP e⟩
 have okP:∀ (H:Hp) (b:Addr),b∈Ps->ObjOk P w H s₁.heap b (.tbl #[]):=fun H b hb=>hP b hb
 cases hk:K.lookup a with
 | some o =>
  have e:=KX a o hk
  rw [ha] at e
  cases e
  refine core (fun b=>if b∈Ps then some (.tbl #[]) else none) ⟨fun b hb=>if_pos hb,fun b hb=>.inl (if_neg hb)⟩ (.inr ⟨_,vs.toArray,_,hk,rfl,rfl,rfl,by rw [List.size_toArray,lenV]; exact hl,by simpa using rv⟩) (fun b u z=>?_) (fun b z=>?_) fun b z=>?_
  ·by_cases hb:b∈Ps
   ·have z':=(if_pos hb).symm.trans z
    cases z'
    exact okP _ b hb
   ·have z':=(if_neg hb).symm.trans z
    cases z'
  ·by_cases hb:b∈Ps
   ·exact .inr hb
   ·exact absurd (if_neg hb) z
  ·by_cases hb:b∈Ps
   ·exact hPK b hb
   ·exact absurd (if_neg hb) z
 | none =>
  refine core (fun b=>if b∈Ps then some (.tbl #[]) else if b=a then some (.frz { cls:=.type "list",data:=.seq vs.toArray } (.lst (ns.map V.int))) else none) ⟨fun b hb=>if_pos hb,fun b hb=>?_⟩
   (.inl (.inr ⟨{ cls:=.type "list",data:=.seq vs.toArray },(if_neg aP).trans (if_pos rfl)⟩)) (fun b u z=>?_) (fun b z=>?_) fun b z=>?_
  ·by_cases hba:b=a
   ·exact .inr ⟨_,_,(if_neg hb).trans (if_pos hba)⟩
   ·exact .inl ((if_neg hb).trans (if_neg hba))
  ·by_cases hb:b∈Ps
   ·have z':=(if_pos hb).symm.trans z
    cases z'
    exact okP _ b hb
   ·have z1:=(if_neg hb).symm.trans z
    by_cases hba:b=a
    ·have z':=(if_pos hba).symm.trans z1
     cases z'
     subst hba
     exact ⟨ha,by rw [List.length_map]; exact hl,vs,_,rv,ha⟩
    ·have z':=(if_neg hba).symm.trans z1
     cases z'
  ·by_cases hb:b∈Ps
   ·exact .inr hb
   ·by_cases hba:b=a
    ·exact .inl hba
    ·exact absurd ((if_neg hb).trans (if_neg hba)) z
  ·by_cases hb:b∈Ps
   ·exact hPK b hb
   ·by_cases hba:b=a
    ·rw [hba]; exact hk
    ·exact absurd ((if_neg hb).trans (if_neg hba)) z
def walk_ofTs {l:W.OpenLaw} {n k:Nat} {q:Program} {loose:List Str} {XP:(Str->Option Value)->Heap->Prop} {YP:World->Heap->Prop} {d:DefRec} {K:Params->W.Frag} {CX:World->CXT} {sp:World->Sp} {x:Str} {Ps:List Addr}
  (hn:l.most=some n) (hn2:n<=sizeLine) (hdf:d.params.defaults=[]) (hr:Room k callerA)
  (hY:∀ (w:World) (h:Heap),YP w h->(K w.params).In h) (hYt:∀ (w:World) (h:Heap),YP w h->∀ P∈Ps,h.get? P=some (W.tabObj #[]))
  (hPK:∀ w:World,∀ P∈Ps,(K w.params).lookup P=none)
  (F:∀ (w:World) (mg:Str->Option Value) (fa:Addr) (h:Heap),(K w.params).In h->h.Ns mainGlobals mg->mg d.name=some (.ref fa) ->
   ∃ fd:FuncData,(∀ P∈Ps,∃ c,W.codeHdIn (K w.params) c P=true)/\(∀ (s:Shared) (u:Value),BindsTo s fd ⟨[u],[]⟩ [(x,u)]) /\
    ∀ base:Heap,(K w.params).In base->base.Ns mainGlobals mg->Bm mg base->FnOk l.prog w (K w.params) mg base (CX w) k fa fd [x] (sp w))
  (hsp:∀ (w:World) (H:Hp) (a:Addr) (ns:List Int),ns.length<=n->OnlyTs Ps H->SqL (K w.params) H a (ns.map V.int)->sp w [.ref a] H (fun v _=>v=.bl true) fun _ _ _=>False)
  (hCX:∀ (w:World) (H:Hp) (s:Shared) (e:Value) (s':Shared),CX w [] H s (fun _ _ _=>False) e s'->False) :
  W.WalkO q loose XP YP l.row.toRowW d [] (fun f vs=>PySem.call f vs):=by
 refine Att.attach_call hn hdf fun w s₀ s₁ mg mb fa o pm cd doc a vs ns G Y ho hd hcd hmg hobj hints hlen hg=>?_
 have KX:=hY w _ Y
 obtain ⟨fd,hC,hb,hF⟩:=F w mg fa _ KX G.T.g hmg
 exact law_callTs KX G.T.g G.T.b G.T.builtins G.T.nolimit G.T.bmain hg hobj hints (Nat.le_trans hlen hn2) hr (hYt w _ Y) (hPK w) (fun P hp=>let ⟨c,h⟩:=hC P hp; ⟨c,W.codeHd_of_K KX h⟩) hF hb (fun H hO hS=>hsp w H a ns hlen hO hS) fun H e s'=>hCX w H s₁ e s'
end L2
namespace L2
open PySem PySem.W PyProof.Rows HT PySem.Calls
def bestArrK:Option (Value×Value)->Array Value
 | none=>#[]
 | some (v,k)=>#[v,k]
def bestK_sz (cv:Option (Value×Value)):(bestArrK cv).size<=sizeLine:=by
 rw [sizeLine_eq]
 cases cv <;> simp [bestArrK]
section
variable {X:Cx} {pins:List (Addr×Obj)} {σ:St} {A:Around}
def FpOk.after {H H':Hp} {b:Addr} (f:FpOk X pins H b) (h:H' b=none):FpOk X pins H' b:=⟨h,f.2⟩
theorem min_loopK {p it B f:Addr} {vs:List V} {lt:Nat->Nat->Bool} {KeyAt:Nat->V->Hp->Prop} {H0:Hp} {R:Result->Shared->Prop} (hA:A.handled=none) (hu:A.units + 195 < cLine) (hBi:it≠B)
  (mono:∀ (i:Nat) (x:V) (H H':Hp),Same H H'->KeyAt i x H->KeyAt i x H')
  (hlt:∀ (H:Hp) (i j:Nat) (x y:V),Same H0 H->i < vs.length->j < vs.length->KeyAt i x H->KeyAt j y H->LtsV X H x y (lt i j))
  (hcall:∀ (pins':List (Addr×Obj)) (s':Shared) (H:Hp) (i:Nat) (hi:i < vs.length) (u:Value),(∀ p∈pins,p∈pins')->Same H0 H->Inv X pins' σ H s'->RelV vs[i] u ->
   wpAny (model X.prog X.w) A.in1 (call (.ref f) [u]) (EP X pins' σ fun v H'=>Same H H'/\KeyAt i v H') (fun _ _=>False) s') :
  ∀ (k:Nat) (i:Nat) (cv:Option (Value×Value)) (s:Shared) (c:Nat) (H:Hp),vs.length=i + k->0 < vs.length->Same H0 H->FpOk X pins H it->FpOk X pins H B->Inv X pins σ H s->SrcAt X.K H s.heap p it vs i->s.heap.get? B=some (lst0 (bestArrK cv) c) ->
   (match cv with | none=>i=0 | some (v,kv)=>0 < i/\∃ h:minIx lt (i - 1) < vs.length,RelV vs[minIx lt (i - 1)] v/\∃ x,RelV x kv/\KeyAt (minIx lt (i - 1)) x H) ->
   (∀ s' u H',Same H0 H'->Inv X pins σ H' s'->(∀ h:minIx lt (vs.length - 1) < vs.length,RelV vs[minIx lt (vs.length - 1)] u)->R (.ok (.ret u)) s') ->
   codeAny (model X.prog X.w) A (.builtin "min.loop" ⟨[.ref it,.ref f,.ref B],[]⟩) R s
 | 0,i,cv,s,c,H,hk,hn,sm,fit,fB,I,src,hB,hc,h=>by
  refine codeAny_builtin PySem.F.entry_min_loop ?_
  rw [Around.under_plainId PySem.F.plain_min_loop _]
  show wpAny _ A.in1 (seqItems? (.ref B) >>= _) _ _ s
  refine wpAny_bind (wpAny_seqItems hB rfl ?_)
  show wpAny _ A.in1 (tryCatch (pyNext (.ref it)) _ >>= _) _ _ s
  refine wpAny_bind (wpAny_tryCatch (wpAny_mono (src_end (Q:=fun r s'=>r=none/\Inv X pins σ H s'/\s'.heap.get? B=some (lst0 (bestArrK cv) c)) (I.pin1 fB hB (by intro v; simp)) (fit.snoc hBi.symm) hA src (by omega) fun s' I'=>⟨rfl,I'.unpinned,(I'.pin (B,lst0 (bestArrK cv) c) (by simp)).1⟩) (fun r s' ⟨er,I',hB'⟩=>?_) fun _ _ z=>z))
  subst er
  cases cv with
  | none=>exact absurd (show i=0 from hc) (by omega)
  | some q =>
   obtain ⟨v,kv⟩:=q
   show wpAny _ A.in1 (updateSeq B (fun _=>#[]) >>= _) _ _ _
   refine wpAny_bind (wpAny_updateSeq hB' rfl (wpAny_bind (wpAny_letGo (wpAny_pure ?_))) (bestK_sz _))
   obtain ⟨h0,h1,h2,_⟩:=hc
   refine h _ v H sm (I'.turn1 fB (Heap.SameBut.update _ _ _)) fun hm=>?_
   have e:i=vs.length:=by omega
   subst e
   exact h2
 | k + 1,i,cv,s,c,H,hk,hn,sm,fit,fB,I,src,hB,hc,h=>by
  have hname:(toString "min"++toString ".loop":String)="min.loop":=by decide
  have hil:i < vs.length:=by omega
  refine codeAny_builtin PySem.F.entry_min_loop ?_
  rw [Around.under_plainId PySem.F.plain_min_loop _]
  show wpAny _ A.in1 (seqItems? (.ref B) >>= _) _ _ s
  refine wpAny_bind (wpAny_seqItems hB rfl ?_)
  show wpAny _ A.in1 (tryCatch (pyNext (.ref it)) _ >>= _) _ _ s
  refine wpAny_bind (wpAny_tryCatch (wpAny_mono (src_item (x:=vs[i]) (Q:=fun r s'=>∃ u,r=some u/\RelV vs[i] u/\Inv X pins σ H s'/\s'.heap.get? B=some (lst0 (bestArrK cv) c)/\SrcAt X.K H s'.heap p it vs (i + 1)) (I.pin1 fB hB (by intro v; simp)) (fit.snoc hBi.symm) src (List.getElem?_eq_getElem hil)
   fun u s' ru I' src'=>⟨u,rfl,ru,I'.unpinned,(I'.pin (B,lst0 (bestArrK cv) c) (by simp)).1,src'⟩) (fun r s' ⟨u,er,ru,I',hB',src'⟩=>?_) fun _ _ z=>z))
  subst er
  obtain ⟨oI,hoI,noc⟩:∃ oI,s'.heap.get? it=some oI/\∀ v,oI.data≠.cell v:=by
   rcases src' with ⟨_,o,e1,e2,e3⟩ | ⟨_,o,e1,e2,e3⟩
   ·exact ⟨o,e1,fun v z=>by rw [e3] at z; cases z⟩
   ·exact ⟨o,e1,fun v z=>by rw [e3] at z; cases z⟩
  have Ip:=(I'.pin1 fB hB' (by intro v; simp)).pin1 (fit.snoc hBi.symm) hoI noc
  show wpAny _ A.in1 (tryCatch (holding [u] (call (.ref f) [u])) _ >>= _) _ _ _
  refine wpAny_bind (wpAny_tryCatch (wpAny_holding (wpAny_mono (hcall _ _ H i hil u (fun p hp=>List.mem_append_left _ (List.mem_append_left _ hp)) sm Ip ru) (fun ku s2 he=>?_) fun _ _ hF=>hF.elim)))
  obtain ⟨x,H2,I2p,rx,s2m,kx⟩:=he
  have pB:=I2p.pin (B,lst0 (bestArrK cv) c) (by simp)
  have pI:=I2p.pin (it,oI) (by simp)
  have I2:Inv X pins σ H2 s2:=I2p.unpinned.unpinned
  have sm2:Same H0 H2:=sm.trans s2m
  have fit2:=fit.after (H':=H2) pI.2.1
  have fB2:=fB.after (H':=H2) pB.2.1
  have src2:SrcAt X.K H2 s2.heap p it vs (i + 1):=src'.at (fun o e=>by rw [hoI] at e; cases e; exact pI.1) (fun q=>s2m.seq q) fun q=>same_sqT s2m q
  have st:=fun (f:Obj->Obj)=>Heap.SameBut.update s2.heap B f
  cases cv with
  | none =>
   have e0:i=0:=hc
   subst e0
   show wpAny _ A.in1 (updateSeq B (fun _=>#[u,ku]) >>= _) _ _ _
   refine wpAny_bind (wpAny_updateSeq pB.1 rfl ?_ (bestK_sz _))
   rw [hname]
   exact wpAny_pure ⟨plainId_quiet PySem.F.plain_min_loop _,min_loopK hA hu hBi mono hlt hcall k 1 (some (u,ku)) _ _ H2 (by omega) hn sm2 fit2 fB2 (I2.turn1 fB2 (st _)) (src2.at (fun ob e=>((st _).2 it hBi).trans e) id id) (Heap.get?_update_self _ pB.1 rfl) ⟨Nat.one_pos,hil,ru,x,rx,kx⟩ h⟩
  | some q =>
   obtain ⟨v,kv⟩:=q
   obtain ⟨h0,h1,rv,y,ry,ky⟩:=hc
   obtain ⟨j,rfl⟩:∃ j,i=j + 1:=⟨i - 1,by omega⟩
   have ky2:=mono _ _ _ _ s2m ky
   have lts:=hlt H2 (j + 1) (minIx lt j) x y sm2 hil h1 kx ky2 pins σ s2 A.in1 ku kv I2 (by show A.units + 1 + 190 < cLine; omega) rx ry
   have em:minIx lt (j + 1)=if lt (j + 1) (minIx lt j) then j + 1 else minIx lt j:=rfl
   show wpAny _ A.in1 (tryCatch (holding [u,ku] (richCompare .Lt ku kv >>= _)) _ >>= _) _ _ _
   refine wpAny_bind (wpAny_tryCatch (wpAny_holding (wpAny_bind (show wpAny (model X.prog X.w) A.in1 (compareOp .Lt ku kv) _ _ _ from lts _ _ _ _ ?_))))
   refine wpAny_bind (wpAny_holding (wpAny_truthy_bool ?_))
   refine wpAny_bind (wpAny_letGo (wpAny_pure ?_))
   cases hb:lt (j + 1) (minIx lt j) with
   | true =>
    rw [hb,if_pos rfl] at em
    simp only [if_true]
    refine wpAny_bind (wpAny_updateSeq pB.1 rfl (wpAny_bind (wpAny_letGo ?_)) (bestK_sz _))
    rw [hname]
    exact wpAny_pure ⟨plainId_quiet PySem.F.plain_min_loop _,min_loopK hA hu hBi mono hlt hcall k (j + 1 + 1) (some (u,ku)) _ _ H2 (by omega) hn sm2 fit2 fB2 (I2.turn1 fB2 (st _)) (src2.at (fun ob e=>((st _).2 it hBi).trans e) id id) (Heap.get?_update_self _ pB.1 rfl) ⟨Nat.succ_pos _,by simp only [Nat.add_sub_cancel,em]; exact hil,by simp only [Nat.add_sub_cancel,em]; exact ru,x,rx,by simp only [Nat.add_sub_cancel,em]; exact kx⟩ h⟩
   | false =>
    rw [hb,if_neg (by decide)] at em
    simp only [Bool.false_eq_true,if_false]
    refine wpAny_bind (wpAny_letGo ?_)
    rw [hname]
    exact wpAny_pure ⟨plainId_quiet PySem.F.plain_min_loop _,min_loopK hA hu hBi mono hlt hcall k (j + 1 + 1) (some (v,kv)) _ _ H2 (by omega) hn sm2 fit2 fB2 I2 src2 pB.1 ⟨Nat.succ_pos _,by simp only [Nat.add_sub_cancel,em]; exact h1,by simp only [Nat.add_sub_cancel,em]; exact rv,y,ry,by simp only [Nat.add_sub_cancel,em]; exact ky2⟩ h⟩
end
section
variable {X:Cx} {pins:List (Addr×Obj)} {σ:St} {H:Hp} {s:Shared} {E:Value->Shared->Prop} {A:Around}
def KzAt (K:PySem.W.Frag) (H:Hp) (q:KIt):Prop:=∃ (t:Addr) (w:List Int),SqT K H q.2.1 [.int w.length,.ref t]/\SqT K H t (w.map V.int)/\q.2.2=(w.length:Int)::w
def KzAt.same {K:PySem.W.Frag} {H H':Hp} {q:KIt} (h:KzAt K H q) (s:Same H H'):KzAt K H' q :=
 let ⟨t,w,h1,h2,h3⟩:=h
 ⟨t,w,same_sqT s h1,same_sqT s h2,h3⟩
theorem kz_kind {L:List KIt} (I:Inv X pins σ H s) (hk:∀ q∈L,KzAt X.K H q) (h2:0 < L.length) {Q:SortKind->Shared->Prop} (h:Q (tuples' true) s) :
  wpAny (model X.prog X.w) A (keyKind' (keyVals L).toArray) Q E s:=by
 have tk:∀ L':List KIt,(∀ q∈L',q∈L)->∃ fs:List Value,KatTups s.heap (keyVals L') fs/\fs.length=L'.length/\∀ v∈fs,∃ n t,v=.int n t:=by
  intro L'
  induction L' with
  | nil=>intro _; exact ⟨[],.nil,rfl,fun v hv=>nomatch hv⟩
  | cons q r ih =>
   intro hm
   obtain ⟨fs,a,b,c⟩:=ih fun x hx=>hm x (List.mem_cons_of_mem _ hx)
   obtain ⟨t,w0,sq,_⟩:=hk q (hm q List.mem_cons_self)
   obtain ⟨its,rv,⟨o,e,hc,n,hd⟩,_⟩:=I.tuple sq
   cases rv with
   | cons rv1 rv2 =>
    obtain ⟨tk,et⟩:=rv1
    refine ⟨.int w0.length tk::fs,KatTups.cons e hc hd ?_ a,by simp [b],fun v hv=>?_⟩
    ·rw [et]; simp
    ·rcases List.mem_cons.mp hv with e | hv
     ·exact ⟨_,tk,e⟩
     ·exact c v hv
 obtain ⟨fs,a,b,c⟩:=tk L fun _ h=>h
 exact kat_kind (T:=.type "int") a (by omega) (fun v hv=>by obtain ⟨n,t,e⟩:=c v hv; subst e; exact .now) (by decide) h
theorem kz_cmp {L:List KIt} (I:Inv X pins σ H s) (hu:A.units < cLine) (hk:∀ q∈L,KzAt X.K H q) (nd:(L.map (·.2.2)).Nodup) :
  CmpR (rankOf (L.map (·.2.2))) L.length (kas_ask X.prog X.w A (tuples' true) (keyVals L)) s:=by
 intro i j C hi hj h
 rw [rank_dec nd (by simpa using hi) (by simpa using hj),getD_map' hi,getD_map' hj] at h
 unfold kas_ask
 rw [show (keyVals L).getD i Value.none=Value.ref L[i].2.1 from getD_map' hi,show (keyVals L).getD j Value.none=Value.ref L[j].2.1 from getD_map' hj]
 obtain ⟨t1,w1,sq1,st1,e1⟩:=hk _ (List.getElem_mem hi)
 obtain ⟨t2,w2,sq2,st2,e2'⟩:=hk _ (List.getElem_mem hj)
 obtain ⟨its,rv,⟨o,e,hc,n,hd⟩,_⟩:=I.tuple sq1
 obtain ⟨its2,rv2,⟨o2,e2,hc2,n2,hd2⟩,_⟩:=I.tuple sq2
 obtain ⟨us,ru,⟨p,ep,hcp,m,hdp⟩,_⟩:=I.tuple st1
 obtain ⟨us2,ru2,⟨p2,ep2,hcp2,m2,hdp2⟩,_⟩:=I.tuple st2
 refine kat_lt e hd e2 hd2 ?_
 cases rv with
 | @cons _ a1 _ _ a2 a3 =>
  cases a3 with
  | @cons _ b1 _ _ b2 b3 =>
   cases b3
   cases rv2 with
   | @cons _ c1 _ _ c2 c3 =>
    cases c3 with
    | @cons _ d1 _ _ d2 d3 =>
     cases d3
     obtain ⟨k1,rfl⟩:=a2
     obtain ⟨k2,rfl⟩:=c2
     obtain rfl:b1=.ref t1:=b2
     obtain rfl:d1=.ref t2:=d2
     have ia:=ints_are ru
     have ib:=ints_are ru2
     rw [e1,e2',HT.lexLt_cons] at h
     refine kat_cons (wpAny_eqBool_int ?_)
     by_cases hz:(w1.length:Int)=w2.length
     ·rw [if_pos hz] at h
      rw [show ((w1.length:Int) == w2.length)=true from beq_iff_eq.mpr hz]
      refine kat_yes (kat_cons (wpAny_eqBool_tuple (knd:=intKind X.prog X.w) (by omega) ⟨p,_,m,ep,hcp,hdp,items_int ia⟩ ⟨p2,_,m2,ep2,hcp2,hdp2,items_int ib⟩ ?_))
      by_cases hw:w1=w2
      ·rw [decide_eq_true hw]
       rw [hw,lex_irr] at h
       exact kat_yes (kat_nil h)
      ·rw [decide_eq_false hw]
       refine kat_no (kat_one _ _ ?_)
       exact tup_lt (by omega) ep hcp hdp ep2 hcp2 hdp2 ia ib h
     ·rw [if_neg hz] at h
      rw [show ((w1.length:Int) == w2.length)=false from beq_eq_false_iff_ne.mpr hz]
      exact kat_no (oneLt_int h)
theorem sort_endG {κ:SortKind} {D kS:Addr} {e e1:Nat} {L:List KIt} {its:List Value} {P:PySem.Fin->Shared->Prop} (I:Inv X ((pins++[PD D e1])++[PKs kS e L]) σ H s) (h64:L.length < 64) (fD:FpOk X pins H D) (fK:FpOk X (pins++[PD D e1]) H kS)
  (hkind:0 < L.length->∀ {E:Value->Shared->Prop} {A:Around} {Q:SortKind->Shared->Prop},Q κ s->wpAny (model X.prog X.w) A (keyKind' (keyVals L).toArray) Q E s) (hcmp:CmpR (rankOf (L.map (·.2.2))) L.length (kas_ask X.prog X.w A κ (keyVals L)) s) (nd:(L.map (·.2.2)).Nodup) (rv:Vals (L.map (·.1)) its)
  (h:∀ (s':Shared) (L':List KIt),L'.Perm L->L'.Pairwise (fun a b=>HT.lexLt a.2.2 b.2.2=true)->Inv X pins σ (upd H D (.lst (L'.map (·.1)))) s'->P (.done (.ret .none)) s') :
  wpAny (model X.prog X.w) A (ksk_end D false its.toArray e1 (.ref kS) (keyVals L).toArray) P E s:=by
 have el:its.length=L.length:=by have:=rv.length; simp only [List.length_map] at this; omega
 have ek:(keyVals L).length=its.length:=by rw [el]; simp [keyVals]
 unfold ksk_end
 try dsimp only
 simp only [Bool.false_eq_true,if_false]
 by_cases h2:its.toArray.size < 2
 ·rw [if_pos h2]
  refine wpAny_bind (wpAny_pure ?_)
  rw [if_pos h2]
  have h2':its.length < 2:=by simpa using h2
  refine wpAny_bind (m:=(pure ():StateT SortSt Sem Unit).run _) (wpAny_pure ?_)
  refine sort_tail (L':=L) (out:=its) I h64 fD fK ?_ rfl rv rfl fun s'=>h s' L (List.Perm.refl _) ?_
  ·show (((keyVals L).toArray.zip its.toArray).map (·.2))=its.toArray
   apply Array.toList_inj.mp
   rw [Array.toList_map,ksk_zip]
   simp only [List.map_snd_zip (by omega:its.length<=(keyVals L).length)]
  ·match L,el with
   | [],_=>exact .nil
   | [q],_=>exact List.pairwise_singleton _ _
   | _::_::_,el=>simp only [List.length_cons] at el; omega
 ·rw [if_neg h2,if_neg h2]
  have h2':2<=its.length:=by simpa using h2
  refine wpAny_bind (hkind (by omega) ?_)
  refine wpAny_bind (wpAny_mono (kat_run (vs:=its) (ks:=keyVals L) (G:=fun p s'=>s'=s/\GoodP L.length p/\SrtR (rankOf (L.map (·.2.2))) p L.length) (Q:=fun st' s'=>∃ p:Array Nat,s'=s/\GoodP L.length p/\SrtR (rankOf (L.map (·.2.2))) p L.length/\arrOf st'=p.map (kas_item ((keyVals L).toArray.zip its.toArray))/\failedOf st'=none) ek h2' (by omega)
   (fun p st' s' a1 a2 a3 a4=>⟨p,a4.1,a4.2.1,a4.2.2,a2,a3⟩)
   (by
    rw [el]
    exact sort_R hcmp (fun i j hi hj z=>rank_inj nd (by simpa using hi) (by simpa using hj) z) (by omega) (G:=fun p s'=>s'=s/\GoodP L.length p/\SrtR (rankOf (L.map (·.2.2))) p L.length) fun p g hs=>⟨rfl,g,hs⟩)) ?_ fun _ _ x=>x)
  rintro ⟨⟨⟩,st'⟩ s' ⟨p,rfl,g,hs,har,hf⟩
  have hp:∀ i∈p.toList,i < L.length:=fun i hi=>by
   have:=(Array.perm_iff_toList_perm.mp g.perm).mem_iff.mp hi
   simpa using this
  have pl:p.toList.Perm (List.range L.length):=by have:=Array.perm_iff_toList_perm.mp g.perm; simpa using this
  have hmap:∀ (F:KIt->V),(p.toList.map fun i=>F (L.getD i (.non,0,[])))=(p.toList.map fun i=>L.getD i (.non,0,[])).map F:=fun F=>by rw [List.map_map]; rfl
  have rangeL:(List.range L.length).map (fun i=>L.getD i (.non,0,[]))=L:=by
   apply List.ext_getElem
   ·simp
   ·intro i h1 h2; simp [List.getD_eq_getElem?_getD,h2]
  refine sort_tail (L':=p.toList.map fun i=>L.getD i (.non,0,[])) (out:=p.toList.map fun i=>its.getD i Value.none) I h64 fD fK (kat_snds ek har) hf (by rw [<- hmap (·.1)]; exact Vals.perm_get rv hp) (by rw [List.length_map,Array.length_toList,g.size]) fun s'=>h s' _ ?_ ?_
  ·have:=pl.map fun i=>L.getD i (.non,0,[])
   rwa [rangeL] at this
  ·rw [List.pairwise_iff_getElem]
   intro i j hi hj hij
   simp only [List.length_map,Array.length_toList,g.size] at hi hj
   have gi:=g.lt i hi
   have gj:=g.lt j hj
   have hle:=hs i j (Nat.le_of_lt hij) hj
   have hne:=g.ne hi hj (Nat.ne_of_lt hij)
   unfold Rk at hle
   have hlt:rankOf (L.map (·.2.2)) (p.getD i 0) < rankOf (L.map (·.2.2)) (p.getD j 0):=by
    rcases Int.lt_or_eq_of_le hle with z | z
    ·exact z
    ·exact absurd (rank_inj nd (by simpa using gi) (by simpa using gj) z) hne
   have hd:=rank_dec nd (i:=p.getD i 0) (j:=p.getD j 0) (by simpa using gi) (by simpa using gj)
   rw [decide_eq_true hlt,getD_map' gi,getD_map' gj] at hd
   have ei:p.getD i 0=p[i]'(by rw [g.size]; exact hi):=by simp [Array.getD,g.size,hi]
   have ej:p.getD j 0=p[j]'(by rw [g.size]; exact hj):=by simp [Array.getD,g.size,hj]
   simp only [List.getElem_map,Array.getElem_toList,List.getD_eq_getElem?_getD]
   have gi':=gi
   have gj':=gj
   rw [ei] at gi'
   rw [ej] at gj'
   rw [List.getElem?_eq_getElem gi',List.getElem?_eq_getElem gj']
   simp only [ei,ej] at hd
   exact hd.symm
theorem sort_restN {D kS f:Addr} {e1:Nat} {ys:List V} {ws:List (List Int)} {its:List Value} {P:PySem.Fin->Shared->Prop} (I:Inv X ((pins++[PD D e1])++[PKs kS 0 []]) σ H s) (h64:ys.length < 64) (hlen:ys.length=ws.length) (hu:A.units < cLine) (fD:FpOk X pins H D) (fK:FpOk X (pins++[PD D e1]) H kS)
  (nd:ws.Nodup) (rv:Vals ys its)
  (hcall:∀ (pins':List (Addr×Obj)) (s':Shared) (H2:Hp) (i:Nat) (h1:i < ys.length) (h2:i < ws.length) (u:Value),(∀ p∈pins,p∈pins')->Same H H2->Inv X pins' σ H2 s'->RelV ys[i] u ->
   wpAny (model X.prog X.w) A (call (.ref f) [u]) (EP X pins' σ fun v H'=>Same H2 H'/\∃ a,v=.ref a/\KzAt X.K H' (ys[i],a,(ws[i].length:Int)::ws[i])) (fun _ _=>False) s')
  (h:∀ (s':Shared) (H2:Hp) (L L':List KIt),Same H H2->H2 D=none->L.map (·.1)=ys->L.map (·.2.2)=ws.map (fun w=>(w.length:Int)::w)->L'.Perm L->L'.Pairwise (fun a b=>HT.lexLt a.2.2 b.2.2=true)->Inv X pins σ (upd H2 D (.lst (L'.map (·.1)))) s'->P (.done (.ret .none)) s') :
  wpAny (model X.prog X.w) A (ksk_rest D (.ref f) false its.toArray e1 (.ref kS)) P E s:=by
 have el:its.length=ys.length:=by have:=rv.length; omega
 unfold ksk_rest
 refine wpAny_bind (wpAny_rule ?_)
 first
  | rw [List.forIn_toArray]
  | (rw [<- Array.forIn_toList]; simp only [List.toList_toArray])
  | rw [<- Array.forIn_toList]
 refine wpAny_bind (ksk_fold (fun n s'=>∃ (e:Nat) (H2:Hp) (L:List KIt),L.map (·.1)=ys.take n/\L.map (·.2.2)=(ws.take n).map (fun w=>(w.length:Int)::w)/\(∀ q∈L,KzAt X.K H2 q)/\Same H H2/\Inv X ((pins++[PD D e1])++[PKs kS e L]) σ H2 s') its 0 s ⟨0,H,[],by simp,by simp,(fun _ z=>nomatch z),Same.refl _,by simpa using I⟩ (fun j x s' hx ⟨e,H2,L,l1,l2,lk,sm,J⟩=>?_) fun s' ⟨e,H2,L,l1,l2,lk,sm,J⟩=>?_)
 ·simp only [Nat.zero_add] at l1 l2 ⊢
  have hj:j < its.length:=(List.getElem?_eq_some_iff.mp hx).1
  have hj':j < ys.length:=by omega
  have hj2:j < ws.length:=by omega
  have lL:L.length=j:=by have:=congrArg List.length l1; simp at this; omega
  obtain ⟨u,hu',r1⟩:=Vals.get rv (i:=j) (x:=ys[j]) (List.getElem?_eq_getElem hj')
  rw [hx] at hu'
  cases hu'
  refine wpAny_bind (wpAny_attempt (wpAny_mono (hcall _ s' H2 j hj' hj2 x (fun p hp=>List.mem_append_left _ (List.mem_append_left _ hp)) sm J r1) (fun k s'' hkk=>?_) fun _ _ hF=>hF.elim))
  obtain ⟨v,H3,J',rk,sm2,a,ev,kz⟩:=hkk
  subst ev
  obtain rfl:k=Value.ref a:=rk
  have pk:=J'.pin (PKs kS e L) (List.mem_append_right _ (List.mem_append_right _ (List.mem_singleton.mpr rfl)))
  have fK3:FpOk X (pins++[PD D e1]) H3 kS:=fK.after pk.2.1
  have s1:=Heap.SameBut.update s''.heap kS (Obj.mapSeq (·.push (Value.ref a)))
  have ea:(keyVals L).toArray.push (Value.ref a)=(keyVals (L++[(ys[j],a,(ws[j].length:Int)::ws[j])])).toArray:=by
   have e2:keyVals (L++[(ys[j],a,(ws[j].length:Int)::ws[j])])=keyVals L++[Value.ref a]:=by
    unfold keyVals
    rw [List.map_append]
    rfl
   rw [e2,List.push_toArray]
  obtain ⟨c2,hc2⟩:∃ c2,(s''.heap.update kS (Obj.mapSeq (·.push (Value.ref a)))).get? kS=some (seqObj "list" (keyVals (L++[(ys[j],a,(ws[j].length:Int)::ws[j])])).toArray c2):=⟨_,by rw [<- ea]; exact get?_update_seq pk.1 (·.push (Value.ref a))⟩
  have hsz:(keyVals L).toArray.size < 64:=by simp only [List.size_toArray,keyVals,List.length_map]; omega
  try dsimp only
  refine wpAny_bind (listUpdate_at pk.1 rfl ?_ (by rw [sizeLine_eq]; show (keyVals L).toArray.size<=_; omega) (Nat.le_trans (Nat.le_of_eq (Array.size_push ..)) (by rw [sizeLine_eq]; show (keyVals L).toArray.size + 1<=_; omega)))
  refine wpAny_pure ⟨rfl,c2,H3,L++[(ys[j],a,(ws[j].length:Int)::ws[j])],?_,?_,fun q hq=>?_,sm.trans sm2,?_⟩
  ·rw [List.map_append,l1,List.take_succ_eq_append_getElem hj']; rfl
  ·rw [List.map_append,l2,List.take_succ_eq_append_getElem hj2,List.map_append]; rfl
  ·rcases List.mem_append.mp hq with z | z
   ·exact (lk q z).same sm2
   ·rw [List.mem_singleton.mp z]; exact kz
  ·have J1:=(J'.unpinned (pl:=[PKs kS e L])).turn1 fK3 s1
   exact J1.pin1 fK3 hc2 (by intro v; simp)
 ·simp only [Nat.zero_add] at l1 l2
  rw [el,List.take_length] at l1
  rw [el,hlen,List.take_length] at l2
  have lL:L.length=ys.length:=by have:=congrArg List.length l1; simpa using this
  have pk:=J.pin (PKs kS e L) (List.mem_append_right _ (List.mem_append_right _ (List.mem_singleton.mpr rfl)))
  have pD:=J.pin (PD D e1) (List.mem_append_right _ (List.mem_append_left _ (List.mem_append_right _ (List.mem_singleton.mpr rfl))))
  have ndL:(L.map (·.2.2)).Nodup:=by
   rw [l2]
   exact List.Pairwise.map _ (fun a b ne z=>ne (by injection z)) nd
  try dsimp only
  refine wpAny_bind (listItems_at pk.1 rfl ?_)
  have J0:=J.unpinned (pl:=[PKs kS e L])
  exact sort_endG J (by omega) (fD.after pD.2.1) (fK.after pk.2.1) (fun h0 {_ _ _} q=>kz_kind J0 lk h0 q) (kz_cmp J0 hu lk ndL) ndL (by rw [l1]; exact rv) fun s' L' pm pw I'=>h s' H2 L L' sm pD.2.1 l1 l2 pm pw I'
theorem sortedKN {l f:Addr} {ys:List V} {ws:List (List Int)} {Q:VK} (I:Inv X pins σ H s) (hl:SqL X.K H l ys) (h64:ys.length < 64) (hlen:ys.length=ws.length) (hu:X.A.units + 10 < cLine) (nd:ws.Nodup)
  (hcall:∀ (pins':List (Addr×Obj)) (s':Shared) (H2:Hp) (i:Nat) (h1:i < ys.length) (h2:i < ws.length) (u:Value),(∀ p∈pins,p∈pins')->Same H H2->Inv X pins' σ H2 s'->RelV ys[i] u ->
   wpAny (model X.prog X.w) X.A.in1.in1 (call (.ref f) [u]) (EP X pins' σ fun v H'=>Same H2 H'/\∃ a,v=.ref a/\KzAt X.K H' (ys[i],a,(ws[i].length:Int)::ws[i])) (fun _ _=>False) s')
  (h:∀ (D:Addr) (H2:Hp) (L L':List KIt),Same H H2->H2 D=none->L.map (·.1)=ys->L.map (·.2.2)=ws.map (fun w=>(w.length:Int)::w)->L'.Perm L->L'.Pairwise (fun a b=>HT.lexLt a.2.2 b.2.2=true)->Q (.ref D) (upd H2 D (.lst (L'.map (·.1))))) :
  wpAny (model X.prog X.w) X.A (call (.builtin "sorted") [.ref l] [(Str.ofString "key",.ref f)]) (EP X pins σ Q) E s:=by
 obtain ⟨its,rv,pl,_⟩:=I.list hl
 have el:its.length=ys.length:=by have:=rv.length; omega
 refine call_function_entry_kw kind_sorted plain_sorted entry_sorted (ksk_s1 _ _) ?_
 unfold Builtin.«sorted»
 refine wpAny_bind (m:=checkCount "sorted" 1 1 _) (wpAny_pure ?_)
 refine wpAny_bind (collect_list pl.isList ?_ (by rw [sizeLine_eq]; omega))
 refine wpAny_bind (wpAny_newList ?_ (by rw [sizeLine_eq]; omega))
 have hsz:((s.heap.push (seqObj "list" #[] 0)).update s.heap.objs.size (Obj.mapSeq (·++its.toArray))).objs.size=s.heap.objs.size + 1:=by
  rw [Heap.size_update,size_push']
 have hoL:(((s.heap.push (seqObj "list" #[] 0)).update s.heap.objs.size (Obj.mapSeq (·++its.toArray))).push (seqObj "list" its.toArray 0)).get? (s.heap.objs.size + 1)=some (seqObj "list" its.toArray 0):=by
  rw [<- hsz]; exact Heap.get?_push_size _ rfl
 have keep:∀ b o,s.heap.get? b=some o->(((s.heap.push (seqObj "list" #[] 0)).update s.heap.objs.size (Obj.mapSeq (·++its.toArray))).push (seqObj "list" its.toArray 0)).get? b=some o:=fun b o q=>by
  have hlt:b < s.heap.objs.size:=Heap.lt_size q
  rw [Heap.get?_push_ne _ _ _ (by rw [hsz]; exact Nat.ne_of_lt (Nat.lt_succ_of_lt hlt)),Heap.get?_update_ne _ _ _ _ (Nat.ne_of_lt hlt),Heap.get?_push_ne _ _ _ (Nat.ne_of_lt hlt)]
  exact q
 have fD:FpOk X pins H (s.heap.objs.size + 1):=I.fpOk (Nat.le_succ _) (I.hok.fresh (Nat.le_succ _))
 have I1:Inv X pins σ H { s with heap:=((s.heap.push (seqObj "list" #[] 0)).update s.heap.objs.size (Obj.mapSeq (·++its.toArray))).push (seqObj "list" its.toArray 0) }:=I.kept (t':=s.toks) keep
 show wpAny _ _ _ _ _ { s with heap:=((s.heap.push (seqObj "list" #[] 0)).update s.heap.objs.size (Obj.mapSeq (·++its.toArray))).push (seqObj "list" its.toArray 0) }
 rw [hsz]
 generalize hD:s.heap.objs.size + 1=D at *
 generalize hh:((s.heap.push (seqObj "list" #[] 0)).update s.heap.objs.size (Obj.mapSeq (·++its.toArray))).push (seqObj "list" its.toArray 0)=hp at *
 refine wpAny_bind (wpAny_holding (wpAny_call_entry_kw slot_list_sort ⟨_,hoL,rfl⟩ entry_list_sort ?body (ksk_l1 _ _)))
 case body =>
  show wpAny (model X.prog X.w) X.A.in1.in1 (Builtin.«list.sort» ⟨[.ref D],[(Str.ofString "key",.ref f)]⟩) _ _ _
  rw [ksk_t1]
  have s1:=Heap.SameBut.update hp D (Obj.mapSeq fun _=>(#[]:Array Value))
  obtain ⟨e1,ho1⟩:∃ e1,(hp.update D (Obj.mapSeq fun _=>(#[]:Array Value))).get? D=some (seqObj "list" #[] e1):=⟨_,get?_update_seq hoL fun _=>#[]⟩
  have I2:=(I1.turn1 fD s1).pin1 fD ho1 (by intro v; simp)
  have I3:Inv X (pins++[PD D e1]) σ H { s with heap:=((hp.update D (Obj.mapSeq fun _=>(#[]:Array Value))).push (seqObj "tuple" its.toArray 0)).push (seqObj "list" #[] 0) } :=
   I2.kept (t':=s.toks) fun b o e=>Heap.get?_push_of_some _ (Heap.get?_push_of_some _ e)
  have hKz:(hp.update D (Obj.mapSeq fun _=>(#[]:Array Value))).objs.size<=((hp.update D (Obj.mapSeq fun _=>(#[]:Array Value))).push (seqObj "tuple" its.toArray 0)).objs.size:=by rw [size_push']; exact Nat.le_succ _
  have fK:FpOk X (pins++[PD D e1]) H ((hp.update D (Obj.mapSeq fun _=>(#[]:Array Value))).push (seqObj "tuple" its.toArray 0)).objs.size:=I2.fpOk hKz (I2.hok.fresh hKz)
  unfold ksk_tree
  refine wpAny_bind (listItems_at hoL rfl ?_)
  refine wpAny_bind (listUpdate_at hoL rfl ?_ (by rw [List.size_toArray,sizeLine_eq]; omega) (Nat.zero_le _))
  refine wpAny_bind (seqEpoch_at ho1 rfl ?_)
  refine wpAny_bind (wpAny_newTuple ?_ (by show its.length<=_; rw [sizeLine_eq]; omega))
  refine wpAny_bind (wpAny_newList ?_ (Nat.zero_le _))
  refine wpAny_holding ?_
  refine sort_restN (I3.pin1 fK (Heap.get?_push_size _ rfl) (by intro v; simp)) h64 hlen (by show X.A.units + 1 + 1 < cLine; omega) fD fK nd rv hcall fun s' H2 L L' sm nD l1 l2 p w I'=>?_
  exact ⟨_,rfl,wpAny_pure ⟨_,rfl,.ref D,_,I',rfl,h D H2 L L' sm nD l1 l2 p w⟩⟩
end
end L2
namespace L3
open PySem L2
structure Cf where
 c:Addr
 k:W.Frag
inductive D where
 | non | bl (b:Bool) | int (i:Int) | str (x:Str) | ty (n:String) | at (a:Addr)
 | tup (xs:List D) | lst (xs:List D) | frz (xs:List D) | dct (kvs:List (Key×D)) | dcT (kvs:List (List Key×D))
 | code (S:List Pr) | cell (k:Nat) | exc (C:Addr) (fs:List (Str×D))
inductive MO where
 | lst (xs:List D) | dct (kvs:List (Key×D)) | dcT (kvs:List (List Key×D)) | drK (kvs:List (Key×D)) | drT (kvs:List (List Key×D)) | dfT (o:Obj) (vs:List (List Key×V)) (kvs:List (List Key×D)) | dfK (o:Obj) (vs:List (Key×V)) (kvs:List (Key×D)) | ins (C:Addr) (fs:List (Str×D)) | hand | tab (P:Addr) (pos:Pos) (q:Str)
abbrev Mem:=List MO
mutual
inductive Rep (C:Cf) (I:Hp) (α:List Addr):V->D->Prop where
 | non:Rep C I α .non .non
 | bl (b:Bool):Rep C I α (.bl b) (.bl b)
 | int (i:Int):Rep C I α (.int i) (.int i)
 | str (x:Str):Rep C I α (.str x) (.str x)
 | ty (n:String):Rep C I α (.ty n) (.ty n)
 | at (a:Addr):Rep C I α (.ref a) (.at a)
 | tup {a:Addr} {vs:List V} {ds:List D}:I a=some (.tup vs)->Reps C I α vs ds->Rep C I α (.ref a) (.tup ds)
 | lst {a:Addr} {vs:List V} {ds:List D}:I a=some (.lst vs)->Reps C I α vs ds->Rep C I α (.ref a) (.lst ds)
 | frz {a:Addr} {vs:List V} {ds:List D}:SqL C.k I a vs->Reps C I α vs ds->Rep C I α (.ref a) (.frz ds)
 | dct {a:Addr} {vs:List (Key×V)} {ds:List (Key×D)}:I a=some (.dK vs)->RepK C I α vs ds->Rep C I α (.ref a) (.dct ds)
 | dcT {a:Addr} {vs:List (List Key×V)} {ds:List (List Key×D)}:I a=some (.dT vs)->RepT C I α vs ds->Rep C I α (.ref a) (.dcT ds)
 | code {x:Addr} {S:List Pr}:CodeAt C.c I x S->Rep C I α (.ref x) (.code S)
 | cell {a:Addr} {k:Nat}:α[k]?=some a->Rep C I α (.ref a) (.cell k)
 | exc {ea Ce:Addr} {d:Option Addr} {vs:List (Str×V)} {fs:List (Str×D)}:I ea=some (.ext (excP ea Ce d))->XD I d vs->RepF C I α vs fs->Rep C I α (.ref ea) (.exc Ce fs)
inductive Reps (C:Cf) (I:Hp) (α:List Addr):List V->List D->Prop where
 | nil:Reps C I α [] []
 | cons {v:V} {d:D} {vs:List V} {ds:List D}:Rep C I α v d->Reps C I α vs ds->Reps C I α (v::vs) (d::ds)
inductive RepK (C:Cf) (I:Hp) (α:List Addr):List (Key×V)->List (Key×D)->Prop where
 | nil:RepK C I α [] []
 | cons {k:Key} {v:V} {d:D} {vs:List (Key×V)} {ds:List (Key×D)}:Rep C I α v d->RepK C I α vs ds->RepK C I α ((k,v)::vs) ((k,d)::ds)
inductive RepF (C:Cf) (I:Hp) (α:List Addr):List (Str×V)->List (Str×D)->Prop where
 | nil:RepF C I α [] []
 | cons {k:Str} {v:V} {d:D} {vs:List (Str×V)} {ds:List (Str×D)}:Rep C I α v d->RepF C I α vs ds->RepF C I α ((k,v)::vs) ((k,d)::ds)
inductive RepT (C:Cf) (I:Hp) (α:List Addr):List (List Key×V)->List (List Key×D)->Prop where
 | nil:RepT C I α [] []
 | cons {k:List Key} {v:V} {d:D} {vs:List (List Key×V)} {ds:List (List Key×D)}:Rep C I α v d->RepT C I α vs ds->RepT C I α ((k,v)::vs) ((k,d)::ds)
end
section
variable {C:Cf} {I I':Hp} {α α':List Addr}
def pre_get {k:Nat} {a:Addr} (p:α<+:α') (h:α[k]?=some a):α'[k]?=some a:=by
 obtain ⟨t,rfl⟩:=p
 obtain ⟨hk,_⟩:=List.getElem?_eq_some_iff.mp h
 rw [List.getElem?_append_left hk]
 exact h
mutual
theorem Rep.mono (s:Same I I') (p:α<+:α'):∀ {v:V} {d:D},Rep C I α v d->Rep C I' α' v d:=by
 intro _ _ h
 cases h with
 | non=>exact .non
 | bl b=>exact .bl b
 | int i=>exact .int i
 | str x=>exact .str x
 | ty n=>exact .ty n
 | «at» a=>exact .at a
 | tup e r=>exact .tup (s _ _ e) (Reps.mono s p r)
 | lst e r=>exact .lst (s _ _ e) (Reps.mono s p r)
 | frz e r=>exact .frz (s.seq e) (Reps.mono s p r)
 | dct e r=>exact .dct (s _ _ e) (RepK.mono s p r)
 | dcT e r=>exact .dcT (s _ _ e) (RepT.mono s p r)
 | code h=>exact .code (h.same s)
 | cell e=>exact .cell (pre_get p e)
 | exc e f r=>exact .exc (s _ _ e) (f.mono s) (RepF.mono s p r)
theorem Reps.mono (s:Same I I') (p:α<+:α'):∀ {vs:List V} {ds:List D},Reps C I α vs ds->Reps C I' α' vs ds:=by
 intro _ _ h
 cases h with
 | nil=>exact .nil
 | cons h r=>exact .cons (Rep.mono s p h) (Reps.mono s p r)
theorem RepK.mono (s:Same I I') (p:α<+:α'):∀ {vs:List (Key×V)} {ds:List (Key×D)},RepK C I α vs ds->RepK C I' α' vs ds:=by
 intro _ _ h
 cases h with
 | nil=>exact .nil
 | cons h r=>exact .cons (Rep.mono s p h) (RepK.mono s p r)
theorem RepF.mono (s:Same I I') (p:α<+:α'):∀ {vs:List (Str×V)} {ds:List (Str×D)},RepF C I α vs ds->RepF C I' α' vs ds:=by
 intro _ _ h
 cases h with
 | nil=>exact .nil
 | cons h r=>exact .cons (Rep.mono s p h) (RepF.mono s p r)
theorem RepT.mono (s:Same I I') (p:α<+:α'):∀ {vs:List (List Key×V)} {ds:List (List Key×D)},RepT C I α vs ds->RepT C I' α' vs ds:=by
 intro _ _ h
 cases h with
 | nil=>exact .nil
 | cons h r=>exact .cons (Rep.mono s p h) (RepT.mono s p r)
end
theorem Reps.length:∀ {vs:List V} {ds:List D},Reps C I α vs ds->vs.length=ds.length
 | _,_,.nil=>rfl
 | _,_,.cons _ r=>by rw [List.length_cons,List.length_cons,Reps.length r]
theorem Reps.get:∀ {vs:List V} {ds:List D} {i:Nat} {d:D},Reps C I α vs ds->ds[i]?=some d->∃ v,vs[i]?=some v/\Rep C I α v d
 | _,_,_,_,.nil,e=>by simp at e
 | _,_,0,_,.cons r _,e=>by simp at e; subst e; exact ⟨_,rfl,r⟩
 | _,_,i + 1,d,.cons _ t,e=>by
  obtain ⟨u,h1,h2⟩:=Reps.get (i:=i) (d:=d) t (by simpa using e)
  exact ⟨u,by simpa using h1,h2⟩
theorem Reps.at:∀ {vs:List V} {ds:List D} {i:Nat},Reps C I α vs ds->(h1:i < vs.length)->(h2:i < ds.length)->Rep C I α vs[i] ds[i]:=fun {vs ds i} r h1 h2=>by
 obtain ⟨v,e,z⟩:=r.get (List.getElem?_eq_getElem h2)
 rw [List.getElem?_eq_getElem h1] at e
 cases e
 exact z
theorem Reps.app:∀ {vs ws:List V} {ds es:List D},Reps C I α vs ds->Reps C I α ws es->Reps C I α (vs++ws) (ds++es)
 | _,_,_,_,.nil,s=>s
 | _,_,_,_,.cons r t,s=>.cons r (Reps.app t s)
def Reps.one {v:V} {d:D} (h:Rep C I α v d):Reps C I α [v] [d]:=.cons h .nil
theorem Reps.take:∀ {vs:List V} {ds:List D} (n:Nat),Reps C I α vs ds->Reps C I α (vs.take n) (ds.take n)
 | _,_,0,_=>.nil
 | _,_,_ + 1,.nil=>.nil
 | _,_,n + 1,.cons r t=>.cons r (Reps.take n t)
theorem Reps.drop:∀ {vs:List V} {ds:List D} (n:Nat),Reps C I α vs ds->Reps C I α (vs.drop n) (ds.drop n)
 | _,_,0,r=>r
 | _,_,_ + 1,.nil=>.nil
 | _,_,n + 1,.cons _ t=>Reps.drop n t
theorem Reps.set {v:V} {d:D} (r:Rep C I α v d):∀ {vs:List V} {ds:List D} (i:Nat),Reps C I α vs ds->Reps C I α (vs.set i v) (ds.set i d)
 | _,_,_,.nil=>.nil
 | _,_,0,.cons _ t=>.cons r t
 | _,_,i + 1,.cons q t=>.cons q (Reps.set r i t)
def Reps.rev {vs:List V} {ds:List D} (h:Reps C I α vs ds):Reps C I α vs.reverse ds.reverse:=by
 have go:∀ {vs ws:List V} {ds es:List D},Reps C I α vs ds->Reps C I α ws es->Reps C I α (vs.reverse++ws) (ds.reverse++es):=by
  intro vs
  induction vs with
  | nil=>intro ws ds es h1 h2; cases h1; exact h2
  | cons v vs ih =>
   intro ws ds es h1 h2
   cases h1 with
   | cons a b =>
    rw [List.reverse_cons,List.append_assoc,List.reverse_cons,List.append_assoc]
    exact ih b (.cons a h2)
 have:=go h .nil
 rwa [List.append_nil,List.append_nil] at this
theorem Reps.ints:∀ (ns:List Int),Reps C I α (ns.map V.int) (ns.map D.int)
 | []=>.nil
 | n::r=>.cons (.int n) (Reps.ints r)
theorem Reps.of_ints:∀ {vs:List V} (ns:List Int),Reps C I α vs (ns.map D.int)->vs=ns.map V.int
 | _,[],h=>by cases h; rfl
 | _,n::r,h=>by
  cases h with
  | cons a b =>
   cases a
   rw [Reps.of_ints r b]
   rfl
end
def MoAt (C:Cf) (I:Hp) (α:List Addr) (H:Hp) (a:Addr):MO->Prop
 | .lst ds=>∃ vs,H a=some (.lst vs)/\Reps C I α vs ds
 | .dct ds=>∃ vs,H a=some (.dK vs)/\RepK C I α vs ds
 | .dcT ds=>∃ vs,H a=some (.dT vs)/\RepT C I α vs ds
 | .drK ds=>∃ vs,Rd H a (.dK vs)/\RepK C I α vs ds
 | .drT ds=>∃ vs,Rd H a (.dT vs)/\RepT C I α vs ds
 | .dfT o vs ds=>H a=some (.frz o (.dT vs))/\RepT C I α vs ds
 | .dfK o vs ds=>H a=some (.frz o (.dK vs))/\RepK C I α vs ds
 | .ins Cl fs=>∃ dx vs,H a=some (.ins Cl dx vs)/\Paired (fun (p:Str×V) (q:Str×D)=>p.1=q.1/\Rep C I α p.2 q.2) vs fs
 | .hand=>∃ (d k:Int) (c:Addr) (cs:List Int),H a=some (.lst [.int d,.int k,.ref c])/\I c=some (.lst (cs.map V.int))/\cs≠[]/\cs.length<=63/\0<=d/\0<=k/\∀ c∈cs,0<=c
 | .tab P pos q=>a=P/\∃ ps,H a=some (.tbl ps)/\TriplesOk ps.toList/\(codeAmong pos ps.toList=none\/∃ c,codeAmong pos ps.toList=some (.ref c)/\I c=some (codeφ c q))
theorem MoAt.some {C:Cf} {I:Hp} {α:List Addr} {H:Hp} {a:Addr} {m:MO} (h:MoAt C I α H a m):∃ o,H a=some o:=by
 cases m with
 | lst ds=>obtain ⟨vs,e,_⟩:=h; exact ⟨_,e⟩
 | dct ds=>obtain ⟨vs,e,_⟩:=h; exact ⟨_,e⟩
 | dcT ds=>obtain ⟨vs,e,_⟩:=h; exact ⟨_,e⟩
 | drK ds=>obtain ⟨vs,e,_⟩:=h; rcases e with e | ⟨o,e⟩ <;> exact ⟨_,e⟩
 | drT ds=>obtain ⟨vs,e,_⟩:=h; rcases e with e | ⟨o,e⟩ <;> exact ⟨_,e⟩
 | dfT o vs ds=>exact ⟨_,h.1⟩
 | dfK o vs ds=>exact ⟨_,h.1⟩
 | ins Cl fs=>obtain ⟨dx,vs,e,_⟩:=h; exact ⟨_,e⟩
 | hand=>obtain ⟨d,k,c,cs,e,_⟩:=h; exact ⟨_,e⟩
 | tab P pos q=>obtain ⟨_,ps,e,_⟩:=h; exact ⟨_,e⟩
theorem MoAt.mono {C:Cf} {I I':Hp} {α α':List Addr} {H H':Hp} {a:Addr} {m:MO} (h:MoAt C I α H a m) (s:Same I I') (p:α<+:α') (e:H' a=H a):MoAt C I' α' H' a m:=by
 cases m with
 | lst ds=>obtain ⟨vs,e1,r⟩:=h; exact ⟨vs,e.trans e1,r.mono s p⟩
 | dct ds=>obtain ⟨vs,e1,r⟩:=h; exact ⟨vs,e.trans e1,r.mono s p⟩
 | dcT ds=>obtain ⟨vs,e1,r⟩:=h; exact ⟨vs,e.trans e1,r.mono s p⟩
 | drK ds=>obtain ⟨vs,e1,r⟩:=h; exact ⟨vs,e1.imp (fun z=>e.trans z) (fun ⟨o,z⟩=>⟨o,e.trans z⟩),r.mono s p⟩
 | drT ds=>obtain ⟨vs,e1,r⟩:=h; exact ⟨vs,e1.imp (fun z=>e.trans z) (fun ⟨o,z⟩=>⟨o,e.trans z⟩),r.mono s p⟩
 | dfT o vs ds=>exact ⟨e.trans h.1,h.2.mono s p⟩
 | dfK o vs ds=>exact ⟨e.trans h.1,h.2.mono s p⟩
 | ins Cl fs=>obtain ⟨dx,vs,e1,r⟩:=h; exact ⟨dx,vs,e.trans e1,Paired.mapP r fun _ _ z=>⟨z.1,z.2.mono s p⟩⟩
 | hand=>obtain ⟨d,k,c,cs,e1,e2,r⟩:=h; exact ⟨d,k,c,cs,e.trans e1,s _ _ e2,r⟩
 | tab P pos q =>
  obtain ⟨eP,ps,e1,t,r⟩:=h
  refine ⟨eP,ps,e.trans e1,t,?_⟩
  rcases r with r | ⟨c,r1,r2⟩
  ·exact .inl r
  ·exact .inr ⟨c,r1,s _ _ r2⟩
abbrev X3:=Addr->List (Str×D)->Mem->Prop
structure Anc where
 i:Hp
 a:List Addr
 xe:XK
 kx:X3
structure Rel (C:Cf) (Z:Anc) (I:Hp) (α:List Addr) (H:Hp) (M:Mem):Prop where
 ai:Same Z.i I
 aa:Z.a<+:α
 sub:Same I H
 len:α.length=M.length
 nd:α.Nodup
 cel:∀ (k:Nat) (a:Addr) (m:MO),α[k]?=some a->M[k]?=some m->MoAt C I α H a m/\I a=none
section
variable {C:Cf} {Z:Anc} {I:Hp} {α:List Addr} {H H':Hp} {M:Mem}
def Rel.get (R:Rel C Z I α H M) {k:Nat} {m:MO} (h:M[k]?=some m):∃ a,α[k]?=some a/\MoAt C I α H a m/\I a=none:=by
 obtain ⟨hk,_⟩:=List.getElem?_eq_some_iff.mp h
 have hk':k < α.length:=by rw [R.len]; exact hk
 exact ⟨α[k],List.getElem?_eq_getElem hk',R.cel k _ m (List.getElem?_eq_getElem hk') h⟩
def Rel.cellNe (R:Rel C Z I α H M) {k:Nat} {a p:Addr} (h:α[k]?=some a) (hp:H p=none):a≠p:=by
 obtain ⟨hk,_⟩:=List.getElem?_eq_some_iff.mp h
 have hk':k < M.length:=by rw [<- R.len]; exact hk
 obtain ⟨o,e⟩:=(R.cel k a _ h (List.getElem?_eq_getElem hk')).1.some
 exact ne_of_none e hp
def Rel.new (R:Rel C Z I α H M) {p:Addr} {o:HO} (hp:H p=none):Rel C Z (upd I p o) α (upd H p o) M/\Same I (upd I p o)/\(upd I p o) p=some o:=by
 have ip:I p=none:=R.sub.free hp
 have s:Same I (upd I p o):=same_upd ip
 refine ⟨⟨R.ai.trans s,R.aa,fun b u h=>?_,R.len,R.nd,fun k a m h1 h2=>?_⟩,s,upd_same⟩
 ·by_cases e:b=p
  ·subst e
   rw [upd_same] at h ⊢
   exact h
  ·rw [upd_ne e] at h ⊢
   exact R.sub b u h
 ·obtain ⟨a1,a2⟩:=R.cel k a m h1 h2
  have ne:=R.cellNe h1 hp
  exact ⟨a1.mono s (List.prefix_refl _) (upd_ne ne),by rw [upd_ne ne]; exact a2⟩
theorem Rel.cell (R:Rel C Z I α H M) {p:Addr} {o:HO} {m:MO} (hp:H p=none) (hm:∀ H',H' p=some o->MoAt C I α H' p m):Rel C Z I (α++[p]) (upd H p o) (M++[m])/\α<+:(α++[p])/\(α++[p])[M.length]?=some p:=by
 have ip:I p=none:=R.sub.free hp
 refine ⟨⟨R.ai,R.aa.trans (List.prefix_append _ _),fun b u h=>?_,by rw [List.length_append,List.length_append,R.len]; rfl,?_,fun k a x h1 h2=>?_⟩,List.prefix_append _ _,by rw [<- R.len]; simp⟩
 ·have ne:b≠p:=fun e=>by rw [e,ip] at h; cases h
  rw [upd_ne ne]
  exact R.sub b u h
 ·rw [List.nodup_append]
  refine ⟨R.nd,by simp,fun a ha b hb=>?_⟩
  obtain ⟨k,hk,rfl⟩:=List.getElem_of_mem ha
  rw [List.mem_singleton.mp hb]
  exact R.cellNe (List.getElem?_eq_getElem hk) hp
 ·by_cases hk:k < α.length
  ·rw [List.getElem?_append_left hk] at h1
   rw [List.getElem?_append_left (by rw [<- R.len]; exact hk)] at h2
   obtain ⟨a1,a2⟩:=R.cel k a x h1 h2
   exact ⟨a1.mono (.refl _) (List.prefix_append _ _) (upd_ne (R.cellNe h1 hp)),a2⟩
  ·obtain ⟨hk2,_⟩:=List.getElem?_eq_some_iff.mp h1
   rw [List.length_append,List.length_singleton] at hk2
   have e:k=α.length:=by omega
   subst e
   have e1:(α++[p])[α.length]?=some p:=by simp
   have e2:(M++[m])[α.length]?=some m:=by rw [R.len]; simp
   rw [e1] at h1
   rw [e2] at h2
   cases h1
   cases h2
   exact ⟨(hm _ upd_same).mono (.refl _) (List.prefix_append _ _) rfl,ip⟩
def Rel.put (R:Rel C Z I α H M) {k:Nat} {a:Addr} {o:HO} {m:MO} (ha:α[k]?=some a) (hm:∀ H',H' a=some o->MoAt C I α H' a m):Rel C Z I α (upd H a o) (M.set k m):=by
 obtain ⟨hk,ea⟩:=List.getElem?_eq_some_iff.mp ha
 have hkM:k < M.length:=by rw [<- R.len]; exact hk
 have ia:I a=none:=(R.cel k a _ ha (List.getElem?_eq_getElem hkM)).2
 refine ⟨R.ai,R.aa,fun b u h=>?_,by rw [List.length_set]; exact R.len,R.nd,fun j b x h1 h2=>?_⟩
 ·have ne:b≠a:=fun e=>by rw [e,ia] at h; cases h
  rw [upd_ne ne]
  exact R.sub b u h
 ·by_cases e:k=j
  ·subst e
   rw [ha] at h1
   cases h1
   rw [List.getElem?_set_self hkM] at h2
   cases h2
   exact ⟨hm _ upd_same,ia⟩
  ·rw [List.getElem?_set_ne e] at h2
   obtain ⟨a1,a2⟩:=R.cel j b x h1 h2
   obtain ⟨hj,eb⟩:=List.getElem?_eq_some_iff.mp h1
   have ne:b≠a:=fun z=>e (by
    rw [<- ea,<- eb] at z
    exact ((List.getElem_inj R.nd).mp z).symm)
   exact ⟨a1.mono (.refl _) (List.prefix_refl _) (upd_ne ne),a2⟩
end
abbrev Ev:=List (Option D)
abbrev K3:=D->Mem->Prop
abbrev TE3:=Ev->Mem->K3->Prop
abbrev TT3:=Ev->Mem->(Bool->Mem->Prop)->Prop
abbrev TA3:=Ev->Mem->(List D->Mem->Prop)->Prop
abbrev TO3:=Ev->Mem->(Option Int->Mem->Prop)->Prop
abbrev R3:=D->D->Mem->K3->Prop
structure Ends3 where
 nx:Ev->Mem->Prop
 rt:K3
 bk:Ev->Mem->Prop:=fun _ _=>False
 ct:Ev->Mem->Prop:=fun _ _=>False
abbrev TS3:=Ends3->Ev->Mem->Prop
abbrev TG3:=D->Ev->Mem->(Ev->Mem->Prop)->Prop
abbrev TGs3:=List D->Ev->Mem->(Ev->Mem->Prop)->Prop
def RepE (C:Cf) (I:Hp) (α:List Addr) (σ:St) (ρ:Ev):Prop:=σ.length=ρ.length/\∀ (i:Nat) (d:D),ρ[i]?=some (some d)->∃ v,σ[i]?=some (some v)/\Rep C I α v d
def RepE.mono {C:Cf} {I I':Hp} {α α':List Addr} {σ:St} {ρ:Ev} (h:RepE C I α σ ρ) (s:Same I I') (p:α<+:α'):RepE C I' α' σ ρ :=
 ⟨h.1,fun i d e=>let ⟨v,a,b⟩:=h.2 i d e; ⟨v,a,b.mono s p⟩⟩
theorem RepE.set {C:Cf} {I:Hp} {α:List Addr} {σ:St} {ρ:Ev} (h:RepE C I α σ ρ) {v:V} {d:D} (r:Rep C I α v d) (i:Nat):RepE C I α (σ.set i (some v)) (ρ.set i (some d)):=by
 refine ⟨by rw [List.length_set,List.length_set]; exact h.1,fun j e q=>?_⟩
 by_cases z:i=j
 ·subst z
  by_cases hl:i < ρ.length
  ·rw [List.getElem?_set_self hl] at q
   cases q
   exact ⟨v,List.getElem?_set_self (by rw [h.1]; exact hl),r⟩
  ·rw [List.getElem?_eq_none (by rw [List.length_set]; omega)] at q
   cases q
 ·rw [List.getElem?_set_ne z] at q ⊢
  exact h.2 j e q
def Fin (C:Cf) (Z:Anc) (I:Hp) (α:List Addr) (K:K3) (Q:VK):Prop:=∀ v d I' α' H' M',Same I I'->α<+:α'->Rel C Z I' α' H' M'->Rep C I' α' v d->K d M'->Q v H'
def Fin.mono {C:Cf} {Z:Anc} {I I':Hp} {α α':List Addr} {K:K3} {Q:VK} (h:Fin C Z I α K Q) (s:Same I I') (p:α<+:α'):Fin C Z I' α' K Q:=fun v d I2 α2 H2 M2 s2 p2=>h v d I2 α2 H2 M2 (s.trans s2) (p.trans p2)
def SimE (C:Cf) (Z:Anc) (t:TE) (u:TE3):Prop:=∀ I α σ H ρ M (K:K3) (Q:VK),Rel C Z I α H M->RepE C I α σ ρ->u ρ M K->Fin C Z I α K Q->t σ H Q
def SimT (C:Cf) (Z:Anc) (t:TT) (u:TT3):Prop:=∀ I α σ H ρ M (K:Bool->Mem->Prop) (Q:Bool->Hp->Prop),Rel C Z I α H M->RepE C I α σ ρ->u ρ M K ->
 (∀ b I' α' H' M',Same I I'->α<+:α'->Rel C Z I' α' H' M'->K b M'->Q b H')->t σ H Q
def SimA (C:Cf) (Z:Anc) (t:TA) (u:TA3):Prop:=∀ I α σ H ρ M (K:List D->Mem->Prop) (Q:List V->Hp->Prop),Rel C Z I α H M->RepE C I α σ ρ->u ρ M K ->
 (∀ vs ds I' α' H' M',Same I I'->α<+:α'->Rel C Z I' α' H' M'->Reps C I' α' vs ds->K ds M'->Q vs H')->t σ H Q
def SimO (C:Cf) (Z:Anc) (t:TO) (u:TO3):Prop:=∀ I α σ H ρ M (K:Option Int->Mem->Prop) (Q:Option Int->Hp->Prop),Rel C Z I α H M->RepE C I α σ ρ->u ρ M K ->
 (∀ b I' α' H' M',Same I I'->α<+:α'->Rel C Z I' α' H' M'->K b M'->Q b H')->t σ H Q
def SimR (C:Cf) (Z:Anc) (r:R2) (u:R3):Prop:=∀ I α H M x y d e (K:K3) (Q:VK),Rel C Z I α H M->Rep C I α x d->Rep C I α y e->u d e M K->Fin C Z I α K Q->r x y H Q
def SimU (C:Cf) (Z:Anc) (r:V->Hp->VK->Prop) (u:D->Mem->K3->Prop):Prop:=∀ I α H M x d (K:K3) (Q:VK),Rel C Z I α H M->Rep C I α x d->u d M K->Fin C Z I α K Q->r x H Q
def SimC (C:Cf) (Z:Anc) (r:List V->Hp->VK->Prop) (u:List D->Mem->K3->Prop):Prop:=∀ I α H M xs ds (K:K3) (Q:VK),Rel C Z I α H M->Reps C I α xs ds->u ds M K->Fin C Z I α K Q->r xs H Q
def SimL (C:Cf) (Z:Anc) (r:V->Option Int->Option Int->Hp->VK->Prop) (u:D->Option Int->Option Int->Mem->K3->Prop):Prop:=∀ I α H M x d lo hi (K:K3) (Q:VK),Rel C Z I α H M->Rep C I α x d->u d lo hi M K->Fin C Z I α K Q->r x lo hi H Q
def FinS (C:Cf) (Z:Anc) (I:Hp) (α:List Addr) (K:Ev->Mem->Prop) (Q:St->Hp->Prop):Prop:=∀ I' α' σ' H' ρ' M',Same I I'->α<+:α'->Rel C Z I' α' H' M'->RepE C I' α' σ' ρ'->K ρ' M'->Q σ' H'
def FinS.mono {C:Cf} {Z:Anc} {I I':Hp} {α α':List Addr} {K:Ev->Mem->Prop} {Q:St->Hp->Prop} (h:FinS C Z I α K Q) (s:Same I I') (p:α<+:α'):FinS C Z I' α' K Q:=fun I2 α2 σ2 H2 ρ2 M2 s2 p2=>h I2 α2 σ2 H2 ρ2 M2 (s.trans s2) (p.trans p2)
structure FinD (C:Cf) (Z:Anc) (I:Hp) (α:List Addr) (E:Ends3) (D':Ends):Prop where
 nx:FinS C Z I α E.nx D'.nx
 rt:Fin C Z I α E.rt D'.rt
 bk:FinS C Z I α E.bk D'.bk
 ct:FinS C Z I α E.ct D'.ct
def FinD.mono {C:Cf} {Z:Anc} {I I':Hp} {α α':List Addr} {E:Ends3} {D':Ends} (h:FinD C Z I α E D') (s:Same I I') (p:α<+:α'):FinD C Z I' α' E D':=⟨h.nx.mono s p,h.rt.mono s p,h.bk.mono s p,h.ct.mono s p⟩
def SimS (C:Cf) (Z:Anc) (t:TS) (u:TS3):Prop:=∀ I α σ H ρ M (E:Ends3) (D':Ends),Rel C Z I α H M->RepE C I α σ ρ->u E ρ M->FinD C Z I α E D'->t D' σ H
def SimG (C:Cf) (Z:Anc) (t:TG) (u:TG3):Prop:=∀ I α σ H ρ M v d (K:Ev->Mem->Prop) (Q:St->Hp->Prop),Rel C Z I α H M->RepE C I α σ ρ->Rep C I α v d->u d ρ M K->FinS C Z I α K Q->t v σ H Q
def SimGs (C:Cf) (Z:Anc) (t:TGs) (u:TGs3):Prop:=∀ I α σ H ρ M vs ds (K:Ev->Mem->Prop) (Q:St->Hp->Prop),Rel C Z I α H M->RepE C I α σ ρ->Reps C I α vs ds->u ds ρ M K->FinS C Z I α K Q->t vs σ H Q
section
variable {C:Cf} {Z:Anc} {ta tb:TE} {ua ub:TE3} {tA tB':TT} {uA uB:TT3} {t:TA} {u:TA3}
def uVar (i:Nat):TE3:=fun ρ M K=>∃ d,ρ[i]?=some (some d)/\K d M
def s_var (i:Nat):SimE C Z (tVar i) (uVar i):=fun I α σ H ρ M K Q R E h k=>by
 obtain ⟨d,e,h⟩:=h
 obtain ⟨v,e2,r⟩:=E.2 i d e
 exact ⟨v,e2,k v d I α H M (.refl _) (List.prefix_refl _) R r h⟩
def uC (d:D):TE3:=fun _ M K=>K d M
def s_c {v:V} {d:D} (r:∀ I α,Rep C I α v d):SimE C Z (tC v) (uC d):=fun I α σ H ρ M K Q R E h k=>k v d I α H M (.refl _) (List.prefix_refl _) R (r I α) h
def s_int {i:Int}:SimE C Z (tC (.int i)) (uC (.int i)):=s_c fun _ _=>.int i
def s_bl {i:Bool}:SimE C Z (tC (.bl i)) (uC (.bl i)):=s_c fun _ _=>.bl i
def s_non:SimE C Z (tC .non) (uC .non):=s_c fun _ _=>.non
def s_ty {i:String}:SimE C Z (tC (.ty i)) (uC (.ty i)):=s_c fun _ _=>.ty i
def uOp (u:R3) (ua ub:TE3):TE3:=fun ρ M K=>ua ρ M fun d M1=>ub ρ M1 fun e M2=>u d e M2 K
def s_op {r:R2} {u:R3} (hr:SimR C Z r u) (ha:SimE C Z ta ua) (hb:SimE C Z tb ub):SimE C Z (tOp r ta tb) (uOp u ua ub):=fun I α σ H ρ M K Q R E h k =>
 ha I α σ H ρ M _ _ R E h fun v d I1 α1 H1 M1 s1 p1 R1 r1 h1 =>
  hb I1 α1 σ H1 ρ M1 _ _ R1 (E.mono s1 p1) h1 fun w e I2 α2 H2 M2 s2 p2 R2 r2 h2 =>
   hr I2 α2 H2 M2 v w d e K Q R2 (r1.mono s2 p2) r2 h2 (k.mono (s1.trans s2) (p1.trans p2))
def uUn (u:D->Mem->K3->Prop) (ua:TE3):TE3:=fun ρ M K=>ua ρ M fun d M1=>u d M1 K
def s_un {r:V->Hp->VK->Prop} {u:D->Mem->K3->Prop} (hr:SimU C Z r u) (ha:SimE C Z ta ua):SimE C Z (tUn r ta) (uUn u ua):=fun I α σ H ρ M K Q R E h k =>
 ha I α σ H ρ M _ _ R E h fun v d I1 α1 H1 M1 s1 p1 R1 r1 h1=>hr I1 α1 H1 M1 v d K Q R1 r1 h1 (k.mono s1 p1)
def D.isN:D->Bool | .non=>true | _=>false
def isN_rep {I:Hp} {α:List Addr} {v:V} {d:D} (h:Rep C I α v d):decide (v=.non)=d.isN:=by cases h <;> simp [D.isN]
def uIsN (ua:TE3):TE3:=fun ρ M K=>ua ρ M fun d M1=>K (.bl d.isN) M1
def uNotN (ua:TE3):TE3:=fun ρ M K=>ua ρ M fun d M1=>K (.bl (!d.isN)) M1
def s_isN (ha:SimE C Z ta ua):SimE C Z (tIsN ta) (uIsN ua):=fun I α σ H ρ M K Q R E h k =>
 ha I α σ H ρ M _ _ R E h fun v d I1 α1 H1 M1 s1 p1 R1 r1 h1=>by
  rw [isN_rep r1]
  exact k _ _ I1 α1 H1 M1 s1 p1 R1 (.bl _) h1
def s_notN (ha:SimE C Z ta ua):SimE C Z (tNotN ta) (uNotN ua):=fun I α σ H ρ M K Q R E h k =>
 ha I α σ H ρ M _ _ R E h fun v d I1 α1 H1 M1 s1 p1 R1 r1 h1=>by
  rw [isN_rep r1]
  exact k _ _ I1 α1 H1 M1 s1 p1 R1 (.bl _) h1
def uB3 (ua:TE3):TT3:=fun ρ M K=>ua ρ M fun d M1=>∃ c,d=.bl c/\K c M1
def s_b (ha:SimE C Z ta ua):SimT C Z (tB ta) (uB3 ua):=fun I α σ H ρ M K Q R E h k =>
 ha I α σ H ρ M _ _ R E h fun v d I1 α1 H1 M1 s1 p1 R1 r1 h1=>by
  obtain ⟨c,e,h1⟩:=h1
  subst e
  cases r1
  exact ⟨c,rfl,k c I1 α1 H1 M1 s1 p1 R1 h1⟩
def s_test (ha:SimE C Z ta ua):SimT C Z (tTest ta) (uB3 ua):=s_b ha
def uAnd (uA uB:TT3):TT3:=fun ρ M K=>uA ρ M fun c M1=>if c=true then uB ρ M1 K else K false M1
def uOr (uA uB:TT3):TT3:=fun ρ M K=>uA ρ M fun c M1=>if c=true then K true M1 else uB ρ M1 K
def uNot (uA:TT3):TT3:=fun ρ M K=>uA ρ M fun c M1=>K (!c) M1
def s_and (ha:SimT C Z tA uA) (hb:SimT C Z tB' uB):SimT C Z (tAnd tA tB') (uAnd uA uB):=fun I α σ H ρ M K Q R E h k =>
 ha I α σ H ρ M _ _ R E h fun c I1 α1 H1 M1 s1 p1 R1 h1=>by
  cases c with
  | true =>
   rw [if_pos rfl] at h1 ⊢
   exact hb I1 α1 σ H1 ρ M1 _ _ R1 (E.mono s1 p1) h1 fun b I2 α2 H2 M2 s2 p2 R2 h2=>k b I2 α2 H2 M2 (s1.trans s2) (p1.trans p2) R2 h2
  | false =>
   rw [if_neg Bool.false_ne_true] at h1 ⊢
   exact k false I1 α1 H1 M1 s1 p1 R1 h1
def s_or (ha:SimT C Z tA uA) (hb:SimT C Z tB' uB):SimT C Z (tOr tA tB') (uOr uA uB):=fun I α σ H ρ M K Q R E h k =>
 ha I α σ H ρ M _ _ R E h fun c I1 α1 H1 M1 s1 p1 R1 h1=>by
  cases c with
  | false =>
   rw [if_neg Bool.false_ne_true] at h1 ⊢
   exact hb I1 α1 σ H1 ρ M1 _ _ R1 (E.mono s1 p1) h1 fun b I2 α2 H2 M2 s2 p2 R2 h2=>k b I2 α2 H2 M2 (s1.trans s2) (p1.trans p2) R2 h2
  | true =>
   rw [if_pos rfl] at h1 ⊢
   exact k true I1 α1 H1 M1 s1 p1 R1 h1
def s_not (ha:SimT C Z tA uA):SimT C Z (tNot tA) (uNot uA):=fun I α σ H ρ M K Q R E h k =>
 ha I α σ H ρ M _ _ R E h fun c I1 α1 H1 M1 s1 p1 R1 h1=>k _ I1 α1 H1 M1 s1 p1 R1 h1
def uAndV (ua ub:TE3):TE3:=fun ρ M K=>ua ρ M fun d M1=>∃ c,d=.bl c/\if c=true then ub ρ M1 K else K (.bl false) M1
def uNotV (ua:TE3):TE3:=fun ρ M K=>ua ρ M fun d M1=>∃ c,d=.bl c/\K (.bl (!c)) M1
def s_andV (ha:SimE C Z ta ua) (hb:SimE C Z tb ub):SimE C Z (tAndV ta tb) (uAndV ua ub):=fun I α σ H ρ M K Q R E h k =>
 ha I α σ H ρ M _ _ R E h fun v d I1 α1 H1 M1 s1 p1 R1 r1 h1=>by
  obtain ⟨c,e,h1⟩:=h1
  subst e
  cases r1
  refine ⟨c,rfl,?_⟩
  cases c with
  | true =>
   rw [if_pos rfl] at h1 ⊢
   exact hb I1 α1 σ H1 ρ M1 _ _ R1 (E.mono s1 p1) h1 (k.mono s1 p1)
  | false =>
   rw [if_neg Bool.false_ne_true] at h1 ⊢
   exact k _ _ I1 α1 H1 M1 s1 p1 R1 (.bl _) h1
def s_notV (ha:SimE C Z ta ua):SimE C Z (tNotV ta) (uNotV ua):=fun I α σ H ρ M K Q R E h k =>
 ha I α σ H ρ M _ _ R E h fun v d I1 α1 H1 M1 s1 p1 R1 r1 h1=>by
  obtain ⟨c,e,h1⟩:=h1
  subst e
  cases r1
  exact ⟨c,rfl,k _ _ I1 α1 H1 M1 s1 p1 R1 (.bl _) h1⟩
def uNil:TA3:=fun _ M K=>K [] M
def uCons (ua:TE3) (u:TA3):TA3:=fun ρ M K=>ua ρ M fun d M1=>u ρ M1 fun ds M2=>K (d::ds) M2
def s_nil:SimA C Z tNil uNil:=fun I α σ H ρ M K Q R E h k=>k [] [] I α H M (.refl _) (List.prefix_refl _) R .nil h
def s_cons (ha:SimE C Z ta ua) (hr:SimA C Z t u):SimA C Z (tCons ta t) (uCons ua u):=fun I α σ H ρ M K Q R E h k =>
 ha I α σ H ρ M _ _ R E h fun v d I1 α1 H1 M1 s1 p1 R1 r1 h1 =>
  hr I1 α1 σ H1 ρ M1 _ _ R1 (E.mono s1 p1) h1 fun vs ds I2 α2 H2 M2 s2 p2 R2 r2 h2 =>
   k (v::vs) (d::ds) I2 α2 H2 M2 (s1.trans s2) (p1.trans p2) R2 (.cons (r1.mono s2 p2) r2) h2
def uTup (u:TA3):TE3:=fun ρ M K=>u ρ M fun ds M1=>ds.length<=sizeLine/\K (.tup ds) M1
def s_tup (ha:SimA C Z t u):SimE C Z (tTup t) (uTup u):=fun I α σ H ρ M K Q R E h k =>
 ha I α σ H ρ M _ _ R E h fun vs ds I1 α1 H1 M1 s1 p1 R1 r1 h1=>by
  refine ⟨by rw [r1.length]; exact h1.1,fun p hp=>?_⟩
  obtain ⟨R2,s2,e2⟩:=R1.new (o:=.tup vs) hp
  exact k _ _ _ α1 _ M1 (s1.trans s2) p1 R2 (.tup e2 (r1.mono s2 (List.prefix_refl _))) h1.2
def uLst (u:TA3):TE3:=fun ρ M K=>u ρ M fun ds M1=>ds.length<=sizeLine/\K (.lst ds) M1
def s_lst (ha:SimA C Z t u):SimE C Z (tLst t) (uLst u):=fun I α σ H ρ M K Q R E h k =>
 ha I α σ H ρ M _ _ R E h fun vs ds I1 α1 H1 M1 s1 p1 R1 r1 h1=>by
  refine ⟨by rw [r1.length]; exact h1.1,fun p hp=>?_⟩
  obtain ⟨R2,s2,e2⟩:=R1.new (o:=.lst vs) hp
  exact k _ _ _ α1 _ M1 (s1.trans s2) p1 R2 (.lst e2 (r1.mono s2 (List.prefix_refl _))) h1.2
def uLstC (u:TA3):TE3:=fun ρ M K=>u ρ M fun ds M1=>ds.length<=sizeLine/\K (.cell M1.length) (M1++[.lst ds])
def s_lstC (ha:SimA C Z t u):SimE C Z (tLst t) (uLstC u):=fun I α σ H ρ M K Q R E h k =>
 ha I α σ H ρ M _ _ R E h fun vs ds I1 α1 H1 M1 s1 p1 R1 r1 h1=>by
  refine ⟨by rw [r1.length]; exact h1.1,fun p hp=>?_⟩
  obtain ⟨R2,p2,e2⟩:=R1.cell (o:=.lst vs) (m:=.lst ds) hp fun H' e=>⟨vs,e,r1⟩
  exact k _ _ I1 _ _ _ s1 (p1.trans p2) R2 (.cell e2) h1.2
def uCB (r:List D->Mem->K3->Prop) (u:TA3):TE3:=fun ρ M K=>u ρ M fun ds M1=>r ds M1 K
def s_cb {r:List V->Hp->VK->Prop} {r3:List D->Mem->K3->Prop} (hr:SimC C Z r r3) (ha:SimA C Z t u):SimE C Z (tCB r t) (uCB r3 u):=fun I α σ H ρ M K Q R E h k =>
 ha I α σ H ρ M _ _ R E h fun vs ds I1 α1 H1 M1 s1 p1 R1 r1 h1=>hr I1 α1 H1 M1 vs ds K Q R1 r1 h1 (k.mono s1 p1)
def uNoPart:TO3:=fun _ M K=>K none M
def uPart (ua:TE3):TO3:=fun ρ M K=>ua ρ M fun d M1=>∃ i,d=.int i/\K (some i) M1
def s_noPart:SimO C Z tNoPart uNoPart:=fun I α σ H ρ M K Q R E h k=>k none I α H M (.refl _) (List.prefix_refl _) R h
def s_part (ha:SimE C Z ta ua):SimO C Z (tPart ta) (uPart ua):=fun I α σ H ρ M K Q R E h k =>
 ha I α σ H ρ M _ _ R E h fun v d I1 α1 H1 M1 s1 p1 R1 r1 h1=>by
  obtain ⟨i,e,h1⟩:=h1
  subst e
  cases r1
  exact ⟨i,rfl,k (some i) I1 α1 H1 M1 s1 p1 R1 h1⟩
def uSl (r:D->Option Int->Option Int->Mem->K3->Prop) (ua:TE3) (ul uh:TO3):TE3:=fun ρ M K=>ua ρ M fun d M1=>ul ρ M1 fun l M2=>uh ρ M2 fun g M3=>r d l g M3 K
def s_sl {r:V->Option Int->Option Int->Hp->VK->Prop} {r3:D->Option Int->Option Int->Mem->K3->Prop} {tl th:TO} {ul uh:TO3} (hr:SimL C Z r r3) (ha:SimE C Z ta ua) (hl:SimO C Z tl ul) (hh:SimO C Z th uh):SimE C Z (tSl r ta tl th) (uSl r3 ua ul uh):=fun I α σ H ρ M K Q R E h k =>
 ha I α σ H ρ M _ _ R E h fun v d I1 α1 H1 M1 s1 p1 R1 r1 h1 =>
  hl I1 α1 σ H1 ρ M1 _ _ R1 (E.mono s1 p1) h1 fun lo I2 α2 H2 M2 s2 p2 R2 h2 =>
   hh I2 α2 σ H2 ρ M2 _ _ R2 (E.mono (s1.trans s2) (p1.trans p2)) h2 fun hi I3 α3 H3 M3 s3 p3 R3 h3 =>
    hr I3 α3 H3 M3 v d lo hi K Q R3 (r1.mono (s2.trans s3) (p2.trans p3)) h3 (k.mono (s1.trans (s2.trans s3)) (p1.trans (p2.trans p3)))
end
def lstOf (M:Mem):D->Option (List D)
 | .lst ds=>some ds
 | .frz ds=>some ds
 | .cell k=>match M[k]? with | some (.lst ds)=>some ds | _=>none
 | _=>none
def lsOf (M:Mem):D->Option (List D)
 | .lst ds=>some ds
 | .cell k=>match M[k]? with | some (.lst ds)=>some ds | _=>none
 | _=>none
def tupOf:D->Option (List D)
 | .tup ds=>some ds
 | _=>none
def seqOf (M:Mem):D->Option (List D)
 | .tup ds=>some ds
 | d=>lstOf M d
section
variable {C:Cf} {Z:Anc} {I:Hp} {α:List Addr} {H:Hp} {M:Mem} {v:V} {d:D} {ds:List D}
def cell_lst (R:Rel C Z I α H M) {k:Nat} {a:Addr} (e:α[k]?=some a) (h:M[k]?=some (.lst ds)):∃ vs,H a=some (.lst vs)/\Reps C I α vs ds:=(R.cel k a _ e h).1
theorem lst_at (R:Rel C Z I α H M) (r:Rep C I α v d) (h:lstOf M d=some ds):∃ a vs,v=.ref a/\SqL C.k H a vs/\Reps C I α vs ds:=by
 cases r with
 | lst e r=>cases h; exact ⟨_,_,rfl,SqL.of (R.sub _ _ e),r⟩
 | frz e r=>cases h; exact ⟨_,_,rfl,R.sub.seq e,r⟩
 | @cell a k e =>
  unfold lstOf at h
  cases hm:M[k]? with
  | none=>simp only [hm] at h; cases h
  | some m =>
   cases m with
   | lst es =>
    simp only [hm] at h
    cases h
    obtain ⟨vs,e1,r⟩:=cell_lst R e hm
    exact ⟨_,_,rfl,SqL.of e1,r⟩
   | _=>simp only [hm] at h; cases h
 | _=>cases h
theorem ls_at (R:Rel C Z I α H M) (r:Rep C I α v d) (h:lsOf M d=some ds):∃ a vs,v=.ref a/\H a=some (.lst vs)/\Reps C I α vs ds:=by
 cases r with
 | lst e r=>cases h; exact ⟨_,_,rfl,R.sub _ _ e,r⟩
 | @cell a k e =>
  unfold lsOf at h
  cases hm:M[k]? with
  | none=>simp only [hm] at h; cases h
  | some m =>
   cases m with
   | lst es =>
    simp only [hm] at h
    cases h
    obtain ⟨vs,e1,r⟩:=cell_lst R e hm
    exact ⟨_,_,rfl,e1,r⟩
   | _=>simp only [hm] at h; cases h
 | _=>cases h
theorem tup_at (R:Rel C Z I α H M) (r:Rep C I α v d) (h:tupOf d=some ds):∃ a vs,v=.ref a/\H a=some (.tup vs)/\I a=some (.tup vs)/\Reps C I α vs ds:=by
 cases r with
 | tup e r=>cases h; exact ⟨_,_,rfl,R.sub _ _ e,e,r⟩
 | _=>cases h
end
def cut {τ:Type} (xs:List τ) (lo hi:Option Int):List τ:=(xs.drop (HT.sIx xs.length 0 lo)).take (HT.sIx xs.length xs.length hi - HT.sIx xs.length 0 lo)
theorem Reps.cut {C:Cf} {I:Hp} {α:List Addr} {vs:List V} {ds:List D} (r:Reps C I α vs ds) (lo hi:Option Int):Reps C I α (cutV vs lo hi) (cut ds lo hi):=by
 unfold cutV L3.cut
 rw [r.length]
 exact (r.drop _).take _
theorem Reps.atI {C:Cf} {I:Hp} {α:List Addr} {vs:List V} {ds:List D} {i:Int} {d:D} (r:Reps C I α vs ds) (h:atI ds i=some d):∃ v,L2.atI vs i=some v/\Rep C I α v d:=by
 unfold L2.atI at h ⊢
 rw [r.length]
 cases e:ixN ds.length i with
 | none=>rw [e] at h; cases h
 | some j =>
  rw [e] at h
  exact r.get (i:=j) h
section
variable {C:Cf} {Z:Anc} {K':W.Frag} {X:Cx}
def OpR.or {f:Value->Value->Sem Value} {r r':R2} (h:OpR X f r) (h':OpR X f r'):OpR X f (fun x y H Q=>r x y H Q\/r' x y H Q):=by
 intro pins s σ H x y v u Q I rx ry q
 rcases q with q | q
 ·exact h pins s σ H x y v u Q I rx ry q
 ·exact h' pins s σ H x y v u Q I rx ry q
def SlR.or {r r':V->Option Int->Option Int->Hp->VK->Prop} (h:SlR X r) (h':SlR X r'):SlR X (fun x l u H Q=>r x l u H Q\/r' x l u H Q):=by
 intro pins s σ H x v vl vu lo hi sl Q I rx hs pl pu q
 rcases q with q | q
 ·exact h pins s σ H x v vl vu lo hi sl Q I rx hs pl pu q
 ·exact h' pins s σ H x v vl vu lo hi sl Q I rx hs pl pu q
def rStrAdd:R2:=fun x y H Q=>∃ i j,x=.str i/\y=.str j/\i.length + j.length<=sizeLine/\Q (.str (i++j)) H
def rAddU (K:W.Frag):R2:=fun x y H Q=>rI0 (fun i j=>.int (i + j)) x y H Q\/rStrAdd x y H Q\/rCat x y H Q\/rCatT K x y H Q
def ux_add (h:X.K=K'):OpR X (binaryOp .Add) (rAddU K'):=by
 subst h
 exact OpR.or op_add (OpR.or op_add_str (OpR.or op_cat op_catT))
def add3:R3:=fun d e M K=>match d,e with
 | .int i,.int j=>K (.int (i + j)) M
 | .str a,.str b=>a.length + b.length<=sizeLine/\K (.str (a++b)) M
 | .tup xs,.tup ys=>(xs≠[]/\xs.length + ys.length<=sizeLine)/\K (.tup (xs++ys)) M
 | d,e=>∃ xs ys,lsOf M d=some xs/\lsOf M e=some ys/\xs.length + ys.length<=sizeLine/\K (.lst (xs++ys)) M
def add_lst {I:Hp} {α:List Addr} {H:Hp} {M:Mem} {x y:V} {d e:D} {K:K3} {Q:VK} (R:Rel C Z I α H M) (r1:Rep C I α x d) (r2:Rep C I α y e)
  (h:∃ xs ys,lsOf M d=some xs/\lsOf M e=some ys/\xs.length + ys.length<=sizeLine/\K (.lst (xs++ys)) M) (k:Fin C Z I α K Q):rAddU C.k x y H Q:=by
 obtain ⟨xs,ys,e1,e2,hl,h⟩:=h
 obtain ⟨a,vs,rfl,ea,ra⟩:=ls_at R r1 e1
 obtain ⟨b,ws,rfl,eb,rb⟩:=ls_at R r2 e2
 refine .inr (.inr (.inl ⟨a,b,vs,ws,rfl,rfl,ea,eb,by rw [ra.length,rb.length]; exact hl,fun p hp=>?_⟩))
 obtain ⟨R2,s2,e2⟩:=R.new (o:=.lst (vs++ws)) hp
 exact k _ _ _ α _ M s2 (List.prefix_refl _) R2 (.lst e2 ((ra.app rb).mono s2 (List.prefix_refl _))) h
theorem s_add:SimR C Z (rAddU C.k) add3:=fun I α H M x y d e K Q R r1 r2 h k=>by
 have go:=fun h=>add_lst R r1 r2 h k
 cases d with
 | int i =>
  cases e with
  | int j=>cases r1; cases r2; exact .inl ⟨i,j,rfl,rfl,k _ _ I α H M (.refl _) (List.prefix_refl _) R (.int _) h⟩
  | _=>exact go h
 | str a =>
  cases e with
  | str b=>cases r1; cases r2; exact .inr (.inl ⟨a,b,rfl,rfl,h.1,k _ _ I α H M (.refl _) (List.prefix_refl _) R (.str _) h.2⟩)
  | _=>exact go h
 | tup xs =>
  cases e with
  | tup ys =>
   obtain ⟨⟨h1,h2⟩,h⟩:=h
   obtain ⟨a,vs,rfl,ea,ia,ra⟩:=tup_at R r1 rfl
   obtain ⟨b,ws,rfl,eb,ib,rb⟩:=tup_at R r2 rfl
   refine .inr (.inr (.inr ⟨a,b,vs,ws,rfl,rfl,SqT.of ea,SqT.of eb,fun z=>?_,by rw [ra.length,rb.length]; exact h2,fun z=>?_,fun _ p hp=>?_⟩))
   ·subst z
    cases ra
    exact h1 rfl
   ·subst z
    cases rb
    rw [List.append_nil] at h
    exact k _ _ I α H M (.refl _) (List.prefix_refl _) R r1 h
   ·obtain ⟨R2,s2,e2⟩:=R.new (o:=.tup (vs++ws)) hp
    exact k _ _ _ α _ M s2 (List.prefix_refl _) R2 (.tup e2 ((ra.app rb).mono s2 (List.prefix_refl _))) h
  | _=>exact go h
 | _=>exact go h
def int3 (c:Int->Int->Prop) (g:Int->Int->D):R3:=fun d e M K=>∃ i j,d=.int i/\e=.int j/\c i j/\K (g i j) M
def int30 (g:Int->Int->D):R3:=fun d e M K=>∃ i j,d=.int i/\e=.int j/\K (g i j) M
def s_rI {c:Int->Int->Prop} {g:Int->Int->V} {g3:Int->Int->D} (hg:∀ I α i j,Rep C I α (g i j) (g3 i j)):SimR C Z (rI c g) (int3 c g3):=fun I α H M x y d e K Q R r1 r2 h k=>by
 obtain ⟨i,j,rfl,rfl,hc,h⟩:=h
 cases r1
 cases r2
 exact ⟨i,j,rfl,rfl,hc,k _ _ I α H M (.refl _) (List.prefix_refl _) R (hg _ _ _ _) h⟩
def s_rI0 {g:Int->Int->V} {g3:Int->Int->D} (hg:∀ I α i j,Rep C I α (g i j) (g3 i j)):SimR C Z (rI0 g) (int30 g3):=fun I α H M x y d e K Q R r1 r2 h k=>by
 obtain ⟨i,j,rfl,rfl,h⟩:=h
 cases r1
 cases r2
 exact ⟨i,j,rfl,rfl,k _ _ I α H M (.refl _) (List.prefix_refl _) R (hg _ _ _ _) h⟩
def s_fdiv:SimR C Z (rI CDiv fun i j=>.int (i / j)) (int3 CDiv fun i j=>.int (i / j)):=s_rI fun _ _ _ _=>.int _
def s_mod:SimR C Z (rI (fun _ j=>0 < j) fun i j=>.int (i % j)) (int3 (fun _ j=>0 < j) fun i j=>.int (i % j)):=s_rI fun _ _ _ _=>.int _
def s_lt:SimR C Z (rI0 fun i j=>.bl (decide (i < j))) (int30 fun i j=>.bl (decide (i < j))):=s_rI0 fun _ _ _ _=>.bl _
def s_gt:SimR C Z (rI0 fun i j=>.bl (decide (j < i))) (int30 fun i j=>.bl (decide (j < i))):=s_rI0 fun _ _ _ _=>.bl _
def neg3:D->Mem->K3->Prop:=fun d M K=>∃ i,d=.int i/\K (.int (-i)) M
def s_neg:SimU C Z (rU fun i=>.int (-i)) neg3:=fun I α H M x d K Q R r h k=>by
 obtain ⟨i,rfl,h⟩:=h
 cases r
 exact ⟨i,rfl,k _ _ I α H M (.refl _) (List.prefix_refl _) R (.int _) h⟩
def rMulU:R2:=fun x y H Q=>rI CMul (fun i j=>.int (i * j)) x y H Q\/rRep x y H Q
def ux_mul:OpR X (binaryOp .Mult) rMulU:=OpR.or op_mul op_rep
def mul3:R3:=fun d e M K=>match d,e with
 | .int i,.int j=>CMul i j/\K (.int (i * j)) M
 | d,e=>∃ xs k,lsOf M d=some xs/\e=.int k/\(-(2 ^ 63)<=k/\k < 2 ^ 63/\xs.length * k.toNat<=sizeLine)/\K (.lst (List.replicate k.toNat xs).flatten) M
theorem Reps.rep {I:Hp} {α:List Addr} {vs:List V} {ds:List D} (r:Reps C I α vs ds):∀ n,Reps C I α (List.replicate n vs).flatten (List.replicate n ds).flatten
 | 0=>.nil
 | n + 1=>by
  rw [List.replicate_succ,List.replicate_succ,List.flatten_cons,List.flatten_cons]
  exact r.app (Reps.rep r n)
theorem s_mul:SimR C Z rMulU mul3:=fun I α H M x y d e K Q R r1 r2 h k=>by
 have go:(∃ xs k,lsOf M d=some xs/\e=.int k/\(-(2 ^ 63)<=k/\k < 2 ^ 63/\xs.length * k.toNat<=sizeLine)/\K (.lst (List.replicate k.toNat xs).flatten) M)->rMulU x y H Q:=fun h=>by
  obtain ⟨xs,j,e1,rfl,⟨h1,h2,h3⟩,h⟩:=h
  cases r2
  obtain ⟨a,vs,rfl,ea,ra⟩:=ls_at R r1 e1
  refine .inr ⟨a,j,vs,rfl,rfl,ea,h1,h2,by rw [ra.length]; exact h3,fun p hp=>?_⟩
  obtain ⟨R2,s2,e2⟩:=R.new (o:=.lst (List.replicate j.toNat vs).flatten) hp
  exact k _ _ _ α _ M s2 (List.prefix_refl _) R2 (.lst e2 ((ra.rep _).mono s2 (List.prefix_refl _))) h
 cases d with
 | int i =>
  cases e with
  | int j=>cases r1; cases r2; exact .inl ⟨i,j,rfl,rfl,h.1,k _ _ I α H M (.refl _) (List.prefix_refl _) R (.int _) h.2⟩
  | _=>exact go h
 | _=>exact go h
def ux_ix (h:X.K=K'):IxR X (rIx K'):=by subst h; exact ix_seq
def ix3:R3:=fun d e M K=>match d with
 | .str z=>∃ i c,e=.int i/\z.length<=sizeLine/\L2.atI z.cps.toList i=some c/\K (.str ⟨#[c]⟩) M
 | d=>∃ xs i v,seqOf M d=some xs/\e=.int i/\L2.atI xs i=some v/\K v M
theorem s_ix:SimR C Z (rIx C.k) ix3:=fun I α H M x y d e K Q R r1 r2 h k=>by
 have go:(∃ xs i v,seqOf M d=some xs/\e=.int i/\L2.atI xs i=some v/\K v M)->rIx C.k x y H Q:=fun h=>by
  obtain ⟨xs,i,w,e1,rfl,e3,hk⟩:=h
  cases r2
  by_cases ht:∃ ys,d=.tup ys
  ·obtain ⟨ys,rfl⟩:=ht
   cases e1
   obtain ⟨a,vs,rfl,ea,_,ra⟩:=tup_at R r1 rfl
   obtain ⟨v,e4,rv⟩:=ra.atI e3
   exact .inr (.inl ⟨a,vs,i,v,rfl,rfl,SqT.of ea,e4,k _ _ I α H M (.refl _) (List.prefix_refl _) R rv hk⟩)
  ·have e1':lstOf M d=some xs:=by
    cases d with
    | tup ys=>exact absurd ⟨ys,rfl⟩ ht
    | _=>exact e1
   obtain ⟨a,vs,rfl,ea,ra⟩:=lst_at R r1 e1'
   obtain ⟨v,e4,rv⟩:=ra.atI e3
   exact .inl ⟨a,vs,i,v,rfl,rfl,ea,e4,k _ _ I α H M (.refl _) (List.prefix_refl _) R rv hk⟩
 cases d with
 | str z =>
  obtain ⟨i,c,rfl,h1,h2,h⟩:=h
  cases r1
  cases r2
  exact .inr (.inr ⟨z,i,c,rfl,rfl,h1,h2,k _ _ I α H M (.refl _) (List.prefix_refl _) R (.str _) h⟩)
 | _=>exact go h
def rSlU (K:W.Frag):V->Option Int->Option Int->Hp->VK->Prop:=fun x l u H Q=>rSlL K x l u H Q\/rSlW K x l u H Q\/rSlS x l u H Q
def ux_sl (h:X.K=K'):SlR X (rSlU K'):=by subst h; exact SlR.or sl_list (SlR.or sl_tupW sl_str)
def sl3:D->Option Int->Option Int->Mem->K3->Prop:=fun d lo hi M K=>match d with
 | .str z=>z.length<=sizeLine/\K (.str (Txt.slice z lo hi)) M
 | .tup xs=>K (.tup (cut xs lo hi)) M
 | d=>∃ xs,lstOf M d=some xs/\K (.lst (cut xs lo hi)) M
theorem Reps.inj_cut {I:Hp} {α:List Addr} {vs:List V} {ds:List D} (r:Reps C I α vs ds) {lo hi:Option Int} (h:cutV vs lo hi=vs):L3.cut ds lo hi=ds:=by
 have hl:(cutV vs lo hi).length=vs.length:=by rw [h]
 unfold cutV at hl
 rw [List.length_take,List.length_drop] at hl
 unfold L3.cut
 rw [r.length] at hl
 generalize HT.sIx ds.length 0 lo=a at *
 generalize HT.sIx ds.length ds.length hi=b at *
 by_cases hd:ds.length=0
 ·rw [List.length_eq_zero_iff.mp hd]; simp
 ·have:a=0:=by omega
  subst this
  rw [List.drop_zero,List.take_of_length_le]
  omega
theorem s_sl3:SimL C Z (rSlU C.k) sl3:=fun I α H M x d lo hi K Q R r1 h k=>by
 have go:(∃ xs,lstOf M d=some xs/\K (.lst (cut xs lo hi)) M)->rSlU C.k x lo hi H Q:=fun h=>by
  obtain ⟨xs,e1,h⟩:=h
  obtain ⟨a,vs,rfl,ea,ra⟩:=lst_at R r1 e1
  refine .inl ⟨a,vs,rfl,ea,fun p hp=>?_⟩
  obtain ⟨R2,s2,e2⟩:=R.new (o:=.lst (cutV vs lo hi)) hp
  exact k _ _ _ α _ M s2 (List.prefix_refl _) R2 (.lst e2 ((ra.cut lo hi).mono s2 (List.prefix_refl _))) h
 cases d with
 | str z=>cases r1; exact .inr (.inr ⟨z,rfl,h.1,k _ _ I α H M (.refl _) (List.prefix_refl _) R (.str _) h.2⟩)
 | tup xs =>
  obtain ⟨a,vs,rfl,ea,ia,ra⟩:=tup_at R r1 rfl
  refine .inr (.inl ⟨a,vs,rfl,SqT.of ea,fun z=>?_,fun p hp=>?_⟩)
  ·have h2:K (.tup (cut xs lo hi)) M:=h
   rw [ra.inj_cut z] at h2
   exact k _ _ I α H M (.refl _) (List.prefix_refl _) R r1 h2
  ·obtain ⟨R2,s2,e2⟩:=R.new (o:=.tup (cutV vs lo hi)) hp
   exact k _ _ _ α _ M s2 (List.prefix_refl _) R2 (.tup e2 ((ra.cut lo hi).mono s2 (List.prefix_refl _))) h
 | _=>exact go h
end
mutual
inductive PyR (M:Mem):D->PyData->Prop where
 | non:PyR M .non .none
 | bl (b:Bool):PyR M (.bl b) (.bool b)
 | int (i:Int):PyR M (.int i) (.int i)
 | str (x:Str):PyR M (.str x) (.str x)
 | seq {d:D} {ds:List D} {ps:List PyData}:lstOf M d=some ds->PyRs M ds ps->PyR M d (.list ps)
 | tup {ds:List D} {ps:List PyData}:PyRs M ds ps->PyR M (.tup ds) (.tuple ps)
inductive PyRs (M:Mem):List D->List PyData->Prop where
 | nil:PyRs M [] []
 | cons {d:D} {p:PyData} {ds:List D} {ps:List PyData}:PyR M d p->PyRs M ds ps->PyRs M (d::ds) (p::ps)
end
section
variable {C:Cf} {Z:Anc} {I:Hp} {α:List Addr} {H:Hp} {M:Mem}
mutual
theorem py_dv (R:Rel C Z I α H M):∀ {v:V} {d:D} {p:PyData},PyR M d p->Rep C I α v d->DV C.k H v p
 | _,_,_,.non,r=>by cases r; exact .non
 | _,_,_,.bl b,r=>by cases r; exact .bl b
 | _,_,_,.int b,r=>by cases r; exact .int b
 | _,_,_,.str b,r=>by cases r; exact .str b
 | _,_,_,.seq e q,r=>by
  obtain ⟨a,vs,rfl,ea,ra⟩:=lst_at R r e
  exact .lst ea (pys_dv R q ra)
 | _,_,_,.tup q,r=>by
  obtain ⟨a,vs,rfl,ea,_,ra⟩:=tup_at R r rfl
  exact .tup (SqT.of ea) (pys_dv R q ra)
theorem pys_dv (R:Rel C Z I α H M):∀ {vs:List V} {ds:List D} {ps:List PyData},PyRs M ds ps->Reps C I α vs ds->DVs C.k H vs ps
 | _,_,_,.nil,r=>by cases r; exact .nil
 | _,_,_,.cons a b,r=>by
  cases r with
  | cons r1 r2=>exact .cons (py_dv R a r1) (pys_dv R b r2)
end
end
def eqS:D->D->Option Bool
 | .non,.non=>some true | .non,.int _=>some false | .int _,.non=>some false | .non,.bl _=>some false | .bl _,.non=>some false | .non,.str _=>some false | .str _,.non=>some false
 | .int i,.int j=>some (decide (i=j)) | .bl i,.bl j=>some (decide (i=j)) | .str i,.str j=>some (decide (i=j))
 | .int _,.str _=>some false | .str _,.int _=>some false | .bl _,.str _=>some false | .str _,.bl _=>some false
 | _,_=>none
def eqV (d e:D) (M:Mem) (K:Bool->Prop):Prop:=(∃ b,eqS d e=some b/\K b)\/∃ p q,PyR M d p/\PyR M e q/\SeqAt.shaped p=true/\SeqAt.shaped q=true/\K (PyData.eqv p q)
def eq3:R3:=fun d e M K=>eqV d e M fun b=>K (.bl b) M
def ne3:R3:=fun d e M K=>eqV d e M fun b=>K (.bl (!b)) M
section
variable {C:Cf} {Z:Anc} {K':W.Frag} {X:Cx}
def rEqU (K:W.Frag):R2:=fun x y H Q=>rEq x y H Q\/rEqD K x y H Q
def rNeU (K:W.Frag):R2:=fun x y H Q=>rNe x y H Q\/rNeD K x y H Q
def ux_eq (h:X.K=K') (hu:X.A.units + 64 < cLine):OpR X (compareOp .Eq) (rEqU K'):=by subst h; exact OpR.or op_eq (op_eqD hu)
def ux_ne (h:X.K=K') (hu:X.A.units + 64 < cLine):OpR X (compareOp .NotEq) (rNeU K'):=by subst h; exact OpR.or op_ne (op_neD hu)
def eqS_rep {I:Hp} {α:List Addr} {x y:V} {d e:D} {b:Bool} (r1:Rep C I α x d) (r2:Rep C I α y e) (h:eqS d e=some b):scal x y=true/\decide (x=y)=b:=by
 cases r1 <;> first | (cases h; done) | (cases r2 <;> first | (cases h; done) | (injection h with h; subst h; refine ⟨rfl,?_⟩; simp))
def s_eq:SimR C Z (rEqU C.k) eq3:=fun I α H M x y d e K Q R r1 r2 h k=>by
 rcases h with ⟨b,eb,h⟩ | ⟨p,q,h1,h2,h3,h4,h⟩
 ·obtain ⟨z1,z2⟩:=eqS_rep r1 r2 eb
  exact .inl ⟨z1,by rw [z2]; exact k _ _ I α H M (.refl _) (List.prefix_refl _) R (.bl _) h⟩
 ·exact .inr ⟨p,q,py_dv R h1 r1,py_dv R h2 r2,h3,h4,k _ _ I α H M (.refl _) (List.prefix_refl _) R (.bl _) h⟩
def s_ne:SimR C Z (rNeU C.k) ne3:=fun I α H M x y d e K Q R r1 r2 h k=>by
 rcases h with ⟨b,eb,h⟩ | ⟨p,q,h1,h2,h3,h4,h⟩
 ·obtain ⟨z1,z2⟩:=eqS_rep r1 r2 eb
  exact .inl ⟨z1,by rw [z2]; exact k _ _ I α H M (.refl _) (List.prefix_refl _) R (.bl _) h⟩
 ·exact .inr ⟨p,q,py_dv R h1 r1,py_dv R h2 r2,h3,h4,k _ _ I α H M (.refl _) (List.prefix_refl _) R (.bl _) h⟩
end
structure Enc (τ:Type) [DecidableEq τ] where
 e:τ->D
 py:τ->PyData
 n:Nat
 ok:∀ M a,PyR M (e a) (py a)
 shp:∀ a,Shp n (py a)
 eq:∀ a b,PyData.eqv (py a) (py b)=decide (a=b)
 hn:n<=60
theorem eqv_all {τ:Type} [DecidableEq τ] {f:τ->PyData} (h:∀ a b,PyData.eqv (f a) (f b)=decide (a=b)):∀ (a b:List τ),PyData.eqvAll (a.map f) (b.map f)=decide (a=b)
 | [],[]=>by simp [PyData.eqvAll]
 | [],_::_=>by simp [PyData.eqvAll]
 | _::_,[]=>by simp [PyData.eqvAll]
 | a::r,b::t=>by
  rw [List.map_cons,List.map_cons,PyData.eqvAll,h,eqv_all h r t]
  simp
theorem pys_map {τ:Type} {M:Mem} {e:τ->D} {py:τ->PyData} (h:∀ a,PyR M (e a) (py a)):∀ as:List τ,PyRs M (as.map e) (as.map py)
 | []=>.nil
 | a::r=>.cons (h a) (pys_map h r)
def encInt:Enc Int:=⟨.int,.int,0,fun _=>.int,shp_int,fun a b=>by rw [PyData.eqv,Bool.beq_eq_decide_eq],by decide⟩
def encLst {τ:Type} [DecidableEq τ] (E:Enc τ) (h:E.n<=50:=by decide):Enc (List τ) where
 e as:=.lst (as.map E.e)
 py as:=.list (as.map E.py)
 n:=E.n + 1
 ok:=fun M as=>.seq rfl (pys_map (E.ok M) as)
 shp:=fun as=>shp_list fun d hd=>by
  obtain ⟨a,_,rfl⟩:=List.mem_map.mp hd
  exact E.shp a
 eq:=fun a b=>by rw [PyData.eqv,eqv_all E.eq]
 hn:=by omega
def encTup {τ:Type} [DecidableEq τ] (E:Enc τ) (h:E.n<=50:=by decide):Enc (List τ) where
 e as:=.tup (as.map E.e)
 py as:=.tuple (as.map E.py)
 n:=E.n + 1
 ok:=fun M as=>.tup (pys_map (E.ok M) as)
 shp:=fun as=>shp_tuple fun d hd=>by
  obtain ⟨a,_,rfl⟩:=List.mem_map.mp hd
  exact E.shp a
 eq:=fun a b=>by rw [PyData.eqv,eqv_all E.eq]
 hn:=by omega
def shp_up {n m:Nat} {d:PyData} (h:Shp n d) (l:n<=m):Shp m d:=⟨h.1,Nat.le_trans h.2 l⟩
def encPr {τ υ:Type} [DecidableEq τ] [DecidableEq υ] (E:Enc τ) (F:Enc υ) (h:E.n<=50:=by decide) (h':F.n<=50:=by decide):Enc (τ×υ) where
 e p:=.tup [E.e p.1,F.e p.2]
 py p:=.tuple [E.py p.1,F.py p.2]
 n:=max E.n F.n + 1
 ok:=fun M p=>.tup (.cons (E.ok M _) (.cons (F.ok M _) .nil))
 shp:=fun p=>shp_tuple fun d hd=>by
  rcases List.mem_cons.mp hd with z | hd
  ·rw [z]; exact shp_up (E.shp _) (Nat.le_max_left _ _)
  ·rw [List.mem_singleton.mp hd]; exact shp_up (F.shp _) (Nat.le_max_right _ _)
 eq:=fun a b=>by
  obtain ⟨a1,a2⟩:=a
  obtain ⟨b1,b2⟩:=b
  rw [PyData.eqv,PyData.eqvAll,PyData.eqvAll,PyData.eqvAll,E.eq,F.eq]
  simp
 hn:=by omega
theorem eqv_enc {τ:Type} [DecidableEq τ] (E:Enc τ) {a b:τ} {M:Mem} {K:Bool->Prop} (h:K (decide (a=b))):eqV (E.e a) (E.e b) M K :=
 .inr ⟨_,_,E.ok M a,E.ok M b,(E.shp a).shaped (by have:=E.hn; omega),(E.shp b).shaped (by have:=E.hn; omega),by rw [E.eq]; exact h⟩
theorem eqv_seq {τ:Type} [DecidableEq τ] (E:Enc τ) {d d':D} {a b:List τ} {M:Mem} {K:Bool->Prop} (h1:lstOf M d=some (a.map E.e)) (h2:lstOf M d'=some (b.map E.e)) (h:K (decide (a=b))) (hn:E.n<=50:=by decide):eqV d d' M K :=
 .inr ⟨_,_,.seq h1 (pys_map (E.ok M) a),.seq h2 (pys_map (E.ok M) b),((encLst E hn).shp a).shaped (by have:=(encLst E hn).hn; omega),((encLst E hn).shp b).shaped (by have:=(encLst E hn).hn; omega),by
  have:=(encLst E hn).eq a b
  rw [show PyData.eqv (PyData.list (a.map E.py)) (PyData.list (b.map E.py))=decide (a=b) from this]
  exact h⟩
inductive Ty3 where
 | non | bool | int | str | list | tuple | dict
 deriving DecidableEq
def tyN:Ty3->String
 | .non=>"NoneType" | .bool=>"bool" | .int=>"int" | .str=>"str" | .list=>"list" | .tuple=>"tuple" | .dict=>"dict"
def tyOf (M:Mem):D->Option Ty3
 | .non=>some .non | .bl _=>some .bool | .int _=>some .int | .str _=>some .str | .lst _=>some .list | .tup _=>some .tuple | .dct _=>some .dict | .dcT _=>some .dict
 | .cell k=>match M[k]? with | some (.lst _)=>some .list | some (.dct _)=>some .dict | some (.dcT _)=>some .dict | _=>none
 | _=>none
def isS:Ty3->Ty3->Bool
 | .bool,.int=>true
 | a,b=>decide (a=b)
section
variable {C:Cf} {Z:Anc}
theorem isS_kit (s t:Ty3) (ht:t≠.non):W.kitOne C.k (.type (tyN s)) (.type (tyN t))=some (isS s t):=by
 cases t with
 | non=>exact absurd rfl ht
 | _=>cases s <;> rfl
theorem ty_rep {I:Hp} {α:List Addr} {H:Hp} {M:Mem} {v:V} {d:D} {s:Ty3} (R:Rel C Z I α H M) (r:Rep C I α v d) (h:tyOf M d=some s):TyOf C.k H v (.type (tyN s)):=by
 cases r with
 | non=>cases h; exact .non
 | bl b=>cases h; exact .bl b
 | int b=>cases h; exact .int b
 | str b=>cases h; exact .str b
 | lst e r=>cases h; exact .lst (R.sub _ _ e)
 | frz e r=>cases h
 | tup e r=>cases h; exact .tup (R.sub _ _ e)
 | dct e r=>cases h; exact .dK (R.sub _ _ e)
 | dcT e r=>cases h; exact .dT (R.sub _ _ e)
 | @cell a k e =>
  unfold tyOf at h
  cases hm:M[k]? with
  | none=>simp only [hm] at h; cases h
  | some m =>
   cases m with
   | lst es=>simp only [hm] at h; cases h; obtain ⟨vs,e1,r⟩:=(R.cel k a _ e hm).1; exact .lst e1
   | dct es=>simp only [hm] at h; cases h; obtain ⟨vs,e1,r⟩:=(R.cel k a _ e hm).1; exact .dK e1
   | dcT es=>simp only [hm] at h; cases h; obtain ⟨vs,e1,r⟩:=(R.cel k a _ e hm).1; exact .dT e1
   | _=>simp only [hm] at h; cases h
 | _=>cases h
def isi3 (T:Ty3):List D->Mem->K3->Prop:=fun ds M K=>∃ d s,ds=[d,.ty (tyN T)]/\tyOf M d=some s/\K (.bl (isS s T)) M
theorem s_isi {T:Ty3} (hT:T≠.non:=by decide):SimC C Z (rIsi C.k) (isi3 T):=fun I α H M xs ds K Q R r h k=>by
 obtain ⟨d,s,rfl,e,h⟩:=h
 cases r with
 | cons r1 r2 =>
  cases r2 with
  | cons r2 r3 =>
   cases r3
   cases r2
   exact ⟨_,_,_,_,rfl,ty_rep R r1 e,isS_kit s T hT,k _ _ I α H M (.refl _) (List.prefix_refl _) R (.bl _) h⟩
def len3:List D->Mem->K3->Prop:=fun ds M K=>match ds with
 | [.str z]=>z.length<=sizeLine/\K (.int z.length) M
 | [d]=>∃ xs,seqOf M d=some xs/\K (.int xs.length) M
 | _=>False
theorem s_len:SimC C Z (rLen C.k) len3:=fun I α H M xs ds K Q R r h k=>by
 have go:∀ d v,Rep C I α v d->(∃ xs,seqOf M d=some xs/\K (.int xs.length) M)->rLen C.k [v] H Q:=fun d v r h=>by
  obtain ⟨ys,e1,h⟩:=h
  by_cases ht:∃ zs,d=.tup zs
  ·obtain ⟨zs,rfl⟩:=ht
   cases e1
   obtain ⟨a,vs,rfl,ea,_,ra⟩:=tup_at R r rfl
   exact ⟨_,_,rfl,.inr ⟨_,SqT.of ea,rfl⟩,by rw [ra.length]; exact k _ _ I α H M (.refl _) (List.prefix_refl _) R (.int _) h⟩
  ·have e1':lstOf M d=some ys:=by
    cases d with
    | tup ys=>exact absurd ⟨ys,rfl⟩ ht
    | _=>exact e1
   obtain ⟨a,vs,rfl,ea,ra⟩:=lst_at R r e1'
   exact ⟨_,_,rfl,.inl ⟨_,ea,rfl⟩,by rw [ra.length]; exact k _ _ I α H M (.refl _) (List.prefix_refl _) R (.int _) h⟩
 cases r with
 | nil=>exact h.elim
 | cons r1 r2 =>
  cases r2 with
  | nil =>
   rename_i v d
   cases d with
   | str z=>cases r1; exact ⟨_,_,rfl,⟨h.1,rfl⟩,k _ _ I α H M (.refl _) (List.prefix_refl _) R (.int _) h.2⟩
   | _=>exact go _ _ r1 h
  | cons _ _ =>
   rename_i v d _ _ _ _ _ _
   cases d <;> exact h.elim
def list3:List D->Mem->K3->Prop:=fun ds M K=>∃ d xs,ds=[d]/\seqOf M d=some xs/\K (.lst xs) M
def list3C:List D->Mem->K3->Prop:=fun ds M K=>∃ d xs,ds=[d]/\seqOf M d=some xs/\K (.cell M.length) (M++[.lst xs])
def seq_at {I:Hp} {α:List Addr} {H:Hp} {M:Mem} {v:V} {d:D} {xs:List D} (R:Rel C Z I α H M) (r:Rep C I α v d) (h:seqOf M d=some xs):∃ a vs,v=.ref a/\(SqL C.k H a vs\/SqT C.k H a vs)/\Reps C I α vs xs:=by
 by_cases ht:∃ zs,d=.tup zs
 ·obtain ⟨zs,rfl⟩:=ht
  cases h
  obtain ⟨a,vs,rfl,ea,_,ra⟩:=tup_at R r rfl
  exact ⟨a,vs,rfl,.inr (SqT.of ea),ra⟩
 ·have e1':lstOf M d=some xs:=by
   cases d with
   | tup ys=>exact absurd ⟨ys,rfl⟩ ht
   | _=>exact h
  obtain ⟨a,vs,rfl,ea,ra⟩:=lst_at R r e1'
  exact ⟨a,vs,rfl,.inl ea,ra⟩
theorem s_list:SimC C Z (rListOf C.k) list3:=fun I α H M xs ds K Q R r h k=>by
 obtain ⟨d,ys,rfl,e,h⟩:=h
 cases r with
 | cons r1 r2 =>
  cases r2
  obtain ⟨a,vs,rfl,ea,ra⟩:=seq_at R r1 e
  refine ⟨a,vs,rfl,ea,fun p hp=>?_⟩
  obtain ⟨R2,s2,e2⟩:=R.new (o:=.lst vs) hp
  exact k _ _ _ α _ M s2 (List.prefix_refl _) R2 (.lst e2 (ra.mono s2 (List.prefix_refl _))) h
theorem s_listC:SimC C Z (rListOf C.k) list3C:=fun I α H M xs ds K Q R r h k=>by
 obtain ⟨d,ys,rfl,e,h⟩:=h
 cases r with
 | cons r1 r2 =>
  cases r2
  obtain ⟨a,vs,rfl,ea,ra⟩:=seq_at R r1 e
  refine ⟨a,vs,rfl,ea,fun p hp=>?_⟩
  obtain ⟨R2,p2,e2⟩:=R.cell (o:=.lst vs) (m:=.lst ys) hp fun H' e=>⟨vs,e,ra⟩
  exact k _ _ I _ _ _ (.refl _) p2 R2 (.cell e2) h
def two3 (f:Int->Int->D):List D->Mem->K3->Prop:=fun ds M K=>∃ i j,ds=[.int i,.int j]/\K (f i j) M
theorem s_max2:SimC C Z (fun xs H Q=>∃ i j,xs=[.int i,.int j]/\Q (.int (if j > i then j else i)) H) (two3 fun i j=>.int (if j > i then j else i)):=fun I α H M xs ds K Q R r h k=>by
 obtain ⟨i,j,rfl,h⟩:=h
 cases r with
 | cons r1 r2 =>
  cases r2 with
  | cons r2 r3 =>
   cases r3
   cases r1
   cases r2
   exact ⟨i,j,rfl,k _ _ I α H M (.refl _) (List.prefix_refl _) R (.int _) h⟩
theorem s_min2:SimC C Z (fun xs H Q=>∃ i j,xs=[.int i,.int j]/\Q (.int (if j < i then j else i)) H) (two3 fun i j=>.int (if j < i then j else i)):=fun I α H M xs ds K Q R r h k=>by
 obtain ⟨i,j,rfl,h⟩:=h
 cases r with
 | cons r1 r2 =>
  cases r2 with
  | cons r2 r3 =>
   cases r3
   cases r1
   cases r2
   exact ⟨i,j,rfl,k _ _ I α H M (.refl _) (List.prefix_refl _) R (.int _) h⟩
def toI:D->Option Int
 | .int i=>some i
 | .bl b=>some (if b then 1 else 0)
 | _=>none
def intOf3:List D->Mem->K3->Prop:=fun ds M K=>∃ d i,ds=[d]/\toI d=some i/\K (.int i) M
theorem s_intOf:SimC C Z (fun xs H Q=>(∃ i,xs=[.int i]/\Q (.int i) H)\/∃ k,xs=[.bl k]/\Q (.int (if k then 1 else 0)) H) intOf3:=fun I α H M xs ds K Q R r h k=>by
 obtain ⟨d,i,rfl,e,h⟩:=h
 cases r with
 | cons r1 r2 =>
  cases r2
  cases r1 with
  | int j=>cases e; exact .inl ⟨_,rfl,k _ _ I α H M (.refl _) (List.prefix_refl _) R (.int _) h⟩
  | bl b=>cases e; exact .inr ⟨_,rfl,k _ _ I α H M (.refl _) (List.prefix_refl _) R (.int _) h⟩
  | _=>cases e
theorem Reps.of_bls {I:Hp} {α:List Addr}:∀ {vs:List V} (bs:List Bool),Reps C I α vs (bs.map D.bl)->vs=bs.map V.bl
 | _,[],h=>by cases h; rfl
 | _,n::r,h=>by
  cases h with
  | cons a b =>
   cases a
   rw [Reps.of_bls r b]
   rfl
def all3:List D->Mem->K3->Prop:=fun ds M K=>∃ (d:D) (bs:List Bool),ds=[d]/\lstOf M d=some (bs.map D.bl)/\K (.bl (bs.all id)) M
theorem s_all:SimC C Z (fun xs H Q=>∃ (p:Addr) (bs:List Bool),xs=[.ref p]/\SqL C.k H p (bs.map V.bl)/\Q (.bl (bs.all id)) H) all3:=fun I α H M xs ds K Q R r h k=>by
 obtain ⟨d,bs,rfl,e,h⟩:=h
 cases r with
 | cons r1 r2 =>
  cases r2
  obtain ⟨a,vs,rfl,ea,ra⟩:=lst_at R r1 e
  rw [ra.of_bls bs] at ea
  exact ⟨a,bs,rfl,ea,k _ _ I α H M (.refl _) (List.prefix_refl _) R (.bl _) h⟩
def Rel.putL {I:Hp} {α:List Addr} {H:Hp} {M:Mem} (R:Rel C Z I α H M) {k:Nat} {a:Addr} {vs:List V} {ds:List D} (ha:α[k]?=some a) (r:Reps C I α vs ds):Rel C Z I α (upd H a (.lst vs)) (M.set k (.lst ds)) :=
 R.put (m:=.lst ds) ha fun H' e=>⟨vs,e,r⟩
def tyV_lst {H:Hp} {a:Addr} {vs:List V} (e:H a=some (.lst vs)):tyV C.k "list" (.ref a) H:=.inl ⟨rfl,vs,SqL.of e⟩
def app3:D->List D->Mem->K3->Prop:=fun d ds M K=>∃ k xs y,d=.cell k/\ds=[y]/\M[k]?=some (.lst xs)/\xs.length < sizeLine/\K .non (M.set k (.lst (xs++[y])))
variable {to:TE} {uo:TE3} {t:TA} {u:TA3}
def s_append (ho:SimE C Z to uo) (ha:SimA C Z t u):SimE C Z (tBM C.k "list" rAppend to t) (fun ρ M K=>uo ρ M fun d M1=>lsOf M1 d≠none/\u ρ M1 fun ds M2=>app3 d ds M2 K):=fun I α σ H ρ M K Q R E h k =>
 ho I α σ H ρ M _ _ R E h fun v d I1 α1 H1 M1 s1 p1 R1 r1 h1=>by
  obtain ⟨hn,h1⟩:=h1
  cases hl:lsOf M1 d with
  | none=>exact absurd hl hn
  | some zs =>
   obtain ⟨a,vs,rfl,ea,ra⟩:=ls_at R1 r1 hl
   refine ⟨tyV_lst ea,ha I1 α1 σ H1 ρ M1 _ _ R1 (E.mono s1 p1) h1 fun ws ds I2 α2 H2 M2 s2 p2 R2 r2 h2=>?_⟩
   obtain ⟨j,xs,y,rfl,rfl,e1,hz,h2⟩:=h2
   cases r2 with
   | cons ry rn =>
    cases rn
    cases (r1.mono s2 p2) with
    | cell ec =>
     obtain ⟨us,eu,ru⟩:=cell_lst R2 ec e1
     refine ⟨a,us,_,rfl,rfl,eu,by rw [ru.length]; exact hz,?_⟩
     exact k _ _ I2 α2 _ _ (s1.trans s2) (p1.trans p2) (R2.putL ec (ru.app (.one ry))) .non h2
end
def Below (n:Nat) (d:D):Prop:=∀ C I α v,Rep C I α v d->Rep C I (α.take n) v d
def BelowM (n:Nat) (m:MO):Prop:=∀ C I α H a,MoAt C I α H a m->MoAt C I (α.take n) H a m
inductive BelowE (n:Nat):Ev->Ev->Prop where
 | nil:BelowE n [] []
 | skip {o:Option D} {r r':Ev}:BelowE n r r'->BelowE n (o::r) (none::r')
 | keep {d:D} {r r':Ev}:Below n d->BelowE n r r'->BelowE n (some d::r) (some d::r')
inductive BelS (n:Nat):Ev->Ev->Ev->Prop where
 | nil:BelS n [] [] []
 | skip {o0 o:Option D} {r0 r r':Ev}:BelS n r0 r r'->BelS n (o0::r0) (o::r) (none::r')
 | same {d:D} {r0 r r':Ev}:BelS n r0 r r'->BelS n (some d::r0) (some d::r) (some d::r')
 | keep {o0:Option D} {d:D} {r0 r r':Ev}:Below n d->BelS n r0 r r'->BelS n (o0::r0) (some d::r) (some d::r')
def Dr (ρ0:Ev) (M0:Mem) (P:Ev->Mem->Prop) (ρ:Ev) (M:Mem):Prop:=P ρ M\/(∃ ρ',(∃ X,M=M0++X)/\BelS M0.length ρ0 ρ ρ'/\P ρ' M0)\/∃ n ρ',M0.length<=n/\BelowE n ρ ρ'/\(∀ m∈M.take n,BelowM n m)/\P ρ' (M.take n)
def Dk (n0:Nat) (K:K3):K3:=fun d M=>K d M\/∃ n,n0<=n/\Below n d/\(∀ m∈M.take n,BelowM n m)/\K d (M.take n)
section
variable {C:Cf} {Z:Anc} {I I':Hp} {α α':List Addr} {H H':Hp} {M:Mem}
theorem BelowE.rep {n:Nat} {ρ ρ':Ev} (b:BelowE n ρ ρ'):∀ {σ:St},RepE C I α σ ρ->RepE C I (α.take n) σ ρ':=by
 induction b with
 | nil=>exact fun h=>⟨h.1,fun i d e=>by simp at e⟩
 | @skip o r r' b ih =>
  intro σ h
  cases σ with
  | nil=>cases h.1
  | cons s σ =>
   have h':RepE C I α σ r:=⟨by simpa using h.1,fun i d e=>by
    obtain ⟨v,a,b⟩:=h.2 (i + 1) d (by simpa using e)
    exact ⟨v,by simpa using a,b⟩⟩
   obtain ⟨l,g⟩:=ih h'
   refine ⟨by rw [List.length_cons,List.length_cons,l],fun i d e=>?_⟩
   cases i with
   | zero=>simp at e
   | succ i =>
    obtain ⟨v,a,b⟩:=g i d (by simpa using e)
    exact ⟨v,by simpa using a,b⟩
 | @keep d0 r r' hb b ih =>
  intro σ h
  cases σ with
  | nil=>cases h.1
  | cons s σ =>
   have h':RepE C I α σ r:=⟨by simpa using h.1,fun i d e=>by
    obtain ⟨v,a,b⟩:=h.2 (i + 1) d (by simpa using e)
    exact ⟨v,by simpa using a,b⟩⟩
   obtain ⟨l,g⟩:=ih h'
   refine ⟨by rw [List.length_cons,List.length_cons,l],fun i d e=>?_⟩
   cases i with
   | zero =>
    obtain ⟨v,a,b⟩:=h.2 0 d e
    simp at e
    subst e
    exact ⟨v,a,hb _ _ _ _ b⟩
   | succ i =>
    obtain ⟨v,a,b⟩:=g i d (by simpa using e)
    exact ⟨v,by simpa using a,b⟩
def pre_take {α0:List Addr} (p:α0<+:α) {n:Nat} (h:α0.length<=n):α0<+:α.take n:=by
 obtain ⟨t,rfl⟩:=p
 rw [List.take_append,List.take_of_length_le h]
 exact List.prefix_append _ _
def Rel.take (R:Rel C Z I α H M) (n:Nat) (hz:Z.a.length<=n) (hb:∀ m∈M.take n,BelowM n m):Rel C Z I (α.take n) H (M.take n):=by
 refine ⟨R.ai,pre_take R.aa hz,R.sub,by rw [List.length_take,List.length_take,R.len],R.nd.sublist (List.take_sublist _ _),fun k a m h1 h2=>?_⟩
 have h1':α[k]?=some a:=by
  rw [List.getElem?_take] at h1
  split at h1
  ·exact h1
  ·cases h1
 have h2':M[k]?=some m:=by
  rw [List.getElem?_take] at h2
  split at h2
  ·exact h2
  ·cases h2
 obtain ⟨a1,a2⟩:=R.cel k a m h1' h2'
 exact ⟨hb m (List.mem_of_getElem? h2) _ _ _ _ _ a1,a2⟩
theorem Fin.dk {K:K3} {Q:VK} (k:Fin C Z I α K Q) {n0:Nat} (hn:α.length=n0) (ha:Z.a<+:α):Fin C Z I α (Dk n0 K) Q:=fun v d I' α' H' M' s p R r h=>by
 rcases h with h | ⟨n,hl,hb,hm,h⟩
 ·exact k v d I' α' H' M' s p R r h
 ·exact k v d I' (α'.take n) H' (M'.take n) s (pre_take p (by omega)) (R.take n (by have:=ha.length_le; omega) hm) (hb _ _ _ _ r) h
end
def below_int {n:Nat} {i:Int}:Below n (.int i):=fun _ _ _ _ r=>by cases r; exact .int _
def below_bl {n:Nat} {i:Bool}:Below n (.bl i):=fun _ _ _ _ r=>by cases r; exact .bl _
def below_str {n:Nat} {i:Str}:Below n (.str i):=fun _ _ _ _ r=>by cases r; exact .str _
def below_non {n:Nat}:Below n .non:=fun _ _ _ _ r=>by cases r; exact .non
def below_code {n:Nat} {S:List Pr}:Below n (.code S):=fun _ _ _ _ r=>by cases r with | code h=>exact .code h
theorem below_cell {n k:Nat} (h:k < n):Below n (.cell k):=fun _ _ α _ r=>by
 cases r with
 | cell e=>exact .cell (by rw [List.getElem?_take,if_pos h]; exact e)
theorem below_all {n:Nat} {ds:List D} (h:∀ d∈ds,Below n d) {C:Cf} {I:Hp} {α:List Addr}:∀ {vs:List V},Reps C I α vs ds->Reps C I (α.take n) vs ds:=by
 induction ds with
 | nil=>intro vs r; cases r; exact .nil
 | cons d ds ih =>
  intro vs r
  cases r with
  | cons a b=>exact .cons (h d List.mem_cons_self _ _ _ _ a) (ih (fun x hx=>h x (List.mem_cons_of_mem _ hx)) b)
def below_lst {n:Nat} {ds:List D} (h:∀ d∈ds,Below n d):Below n (.lst ds):=fun _ _ _ _ r=>by cases r with | lst e r=>exact .lst e (below_all h r)
def below_frz {n:Nat} {ds:List D} (h:∀ d∈ds,Below n d):Below n (.frz ds):=fun _ _ _ _ r=>by cases r with | frz e r=>exact .frz e (below_all h r)
def below_tup {n:Nat} {ds:List D} (h:∀ d∈ds,Below n d):Below n (.tup ds):=fun _ _ _ _ r=>by cases r with | tup e r=>exact .tup e (below_all h r)
def below_map {τ:Type} {n:Nat} {f:τ->D} (h:∀ a,Below n (f a)) (as:List τ):∀ d∈as.map f,Below n d:=fun d hd=>by
 obtain ⟨a,_,rfl⟩:=List.mem_map.mp hd
 exact h a
def below_nil {n:Nat}:∀ d∈([]:List D),Below n d:=fun _ h=>nomatch h
def below_cons {n:Nat} {d:D} {ds:List D} (h:Below n d) (r:∀ d∈ds,Below n d):∀ x∈d::ds,Below n x:=fun x hx=>by
 rcases List.mem_cons.mp hx with z | z
 ·rw [z]; exact h
 ·exact r x z
def bm_hand {n:Nat}:BelowM n .hand:=fun _ _ _ _ _ h=>h
def bm_tab {n:Nat} {P:Addr} {p:Pos} {q:Str}:BelowM n (.tab P p q):=fun _ _ _ _ _ h=>h
def bm_lst {n:Nat} {ds:List D} (h:∀ d∈ds,Below n d):BelowM n (.lst ds):=fun _ _ _ _ _ x=>by
 obtain ⟨vs,e,r⟩:=x
 exact ⟨vs,e,below_all h r⟩
def WfM (M:Mem):Prop:=∀ m∈M,BelowM M.length m
theorem below_dct {n:Nat} {kvs:List (Key×D)} (h:∀ kv∈kvs,Below n kv.2) {C:Cf} {I:Hp} {α:List Addr}:∀ {vs:List (Key×V)},RepK C I α vs kvs->RepK C I (α.take n) vs kvs:=by
 induction kvs with
 | nil=>intro vs r; cases r; exact .nil
 | cons d ds ih =>
  intro vs r
  cases r with
  | cons a b=>exact .cons (h _ List.mem_cons_self _ _ _ _ a) (ih (fun x hx=>h x (List.mem_cons_of_mem _ hx)) b)
theorem below_dcT {n:Nat} {kvs:List (List Key×D)} (h:∀ kv∈kvs,Below n kv.2) {C:Cf} {I:Hp} {α:List Addr}:∀ {vs:List (List Key×V)},RepT C I α vs kvs->RepT C I (α.take n) vs kvs:=by
 induction kvs with
 | nil=>intro vs r; cases r; exact .nil
 | cons d ds ih =>
  intro vs r
  cases r with
  | cons a b=>exact .cons (h _ List.mem_cons_self _ _ _ _ a) (ih (fun x hx=>h x (List.mem_cons_of_mem _ hx)) b)
theorem below_exc {n:Nat} {kvs:List (Str×D)} (h:∀ kv∈kvs,Below n kv.2) {C:Cf} {I:Hp} {α:List Addr}:∀ {vs:List (Str×V)},RepF C I α vs kvs->RepF C I (α.take n) vs kvs:=by
 induction kvs with
 | nil=>intro vs r; cases r; exact .nil
 | cons d ds ih =>
  intro vs r
  cases r with
  | cons a b=>exact .cons (h _ List.mem_cons_self _ _ _ _ a) (ih (fun x hx=>h x (List.mem_cons_of_mem _ hx)) b)
mutual
theorem Rep.bel {C:Cf} {I:Hp} {α:List Addr}:∀ {v:V} {d:D},Rep C I α v d->Below α.length d:=by
 intro _ _ h
 cases h with
 | non=>exact below_non
 | bl b=>exact below_bl
 | int i=>exact below_int
 | str x=>exact below_str
 | ty n=>exact fun _ _ _ _ r=>by cases r; exact .ty _
 | «at» a=>exact fun _ _ _ _ r=>by cases r; exact .at _
 | tup e r=>exact below_tup (Reps.bel r)
 | lst e r=>exact below_lst (Reps.bel r)
 | frz e r=>exact below_frz (Reps.bel r)
 | dct e r=>exact fun _ _ _ _ q=>by cases q with | dct e q=>exact .dct e (below_dct (RepK.bel r) q)
 | dcT e r=>exact fun _ _ _ _ q=>by cases q with | dcT e q=>exact .dcT e (below_dcT (RepT.bel r) q)
 | code h=>exact below_code
 | cell e=>exact below_cell (List.getElem?_eq_some_iff.mp e).1
 | exc e f r=>exact fun _ _ _ _ q=>by cases q with | exc e f q=>exact .exc e f (below_exc (RepF.bel r) q)
theorem Reps.bel {C:Cf} {I:Hp} {α:List Addr}:∀ {vs:List V} {ds:List D},Reps C I α vs ds->∀ d∈ds,Below α.length d:=by
 intro _ _ h
 cases h with
 | nil=>exact below_nil
 | cons h r=>exact below_cons (Rep.bel h) (Reps.bel r)
theorem RepK.bel {C:Cf} {I:Hp} {α:List Addr}:∀ {vs:List (Key×V)} {ds:List (Key×D)},RepK C I α vs ds->∀ kv∈ds,Below α.length kv.2:=by
 intro _ _ h
 cases h with
 | nil=>exact fun _ h=>nomatch h
 | cons h r =>
  exact fun kv hk=>by
   rcases List.mem_cons.mp hk with z | z
   ·rw [z]; exact Rep.bel h
   ·exact RepK.bel r kv z
theorem RepF.bel {C:Cf} {I:Hp} {α:List Addr}:∀ {vs:List (Str×V)} {ds:List (Str×D)},RepF C I α vs ds->∀ kv∈ds,Below α.length kv.2:=by
 intro _ _ h
 cases h with
 | nil=>exact fun _ h=>nomatch h
 | cons h r =>
  exact fun kv hk=>by
   rcases List.mem_cons.mp hk with z | z
   ·rw [z]; exact Rep.bel h
   ·exact RepF.bel r kv z
theorem RepT.bel {C:Cf} {I:Hp} {α:List Addr}:∀ {vs:List (List Key×V)} {ds:List (List Key×D)},RepT C I α vs ds->∀ kv∈ds,Below α.length kv.2:=by
 intro _ _ h
 cases h with
 | nil=>exact fun _ h=>nomatch h
 | cons h r =>
  exact fun kv hk=>by
   rcases List.mem_cons.mp hk with z | z
   ·rw [z]; exact Rep.bel h
   ·exact RepT.bel r kv z
end
def bm_dct {n:Nat} {ds:List (Key×D)} (h:∀ d∈ds,Below n d.2):BelowM n (.dct ds):=fun _ _ _ _ _ x=>by
 obtain ⟨vs,e,r⟩:=x
 exact ⟨vs,e,below_dct h r⟩
def bm_dcT {n:Nat} {ds:List (List Key×D)} (h:∀ d∈ds,Below n d.2):BelowM n (.dcT ds):=fun _ _ _ _ _ x=>by
 obtain ⟨vs,e,r⟩:=x
 exact ⟨vs,e,below_dcT h r⟩
def bm_drK {n:Nat} {ds:List (Key×D)} (h:∀ d∈ds,Below n d.2):BelowM n (.drK ds):=fun _ _ _ _ _ x=>by
 obtain ⟨vs,e,r⟩:=x
 exact ⟨vs,e,below_dct h r⟩
def bm_drT {n:Nat} {ds:List (List Key×D)} (h:∀ d∈ds,Below n d.2):BelowM n (.drT ds):=fun _ _ _ _ _ x=>by
 obtain ⟨vs,e,r⟩:=x
 exact ⟨vs,e,below_dcT h r⟩
def bm_dfT {n:Nat} {o:Obj} {vs:List (List Key×V)} {ds:List (List Key×D)} (h:∀ d∈ds,Below n d.2):BelowM n (.dfT o vs ds):=fun _ _ _ _ _ x=>⟨x.1,below_dcT h x.2⟩
def bm_dfK {n:Nat} {o:Obj} {vs:List (Key×V)} {ds:List (Key×D)} (h:∀ d∈ds,Below n d.2):BelowM n (.dfK o vs ds):=fun _ _ _ _ _ x=>⟨x.1,below_dct h x.2⟩
theorem bm_ins {n:Nat} {Cl:Addr} {fs:List (Str×D)} (h:∀ d∈fs,Below n d.2):BelowM n (.ins Cl fs):=fun C I α H a x=>by
 obtain ⟨dx,vs,e,r⟩:=x
 refine ⟨dx,vs,e,?_⟩
 clear e
 induction fs generalizing vs with
 | nil=>cases r; exact .nil
 | cons d ds ih =>
  cases r with
  | cons a b=>exact .cons ⟨a.1,h _ List.mem_cons_self _ _ _ _ a.2⟩ (ih (fun x hx=>h x (List.mem_cons_of_mem _ hx)) _ b)
theorem MoAt.bel {C:Cf} {I:Hp} {α:List Addr} {H:Hp} {a:Addr} {m:MO} (h:MoAt C I α H a m):BelowM α.length m:=by
 cases m with
 | lst ds=>obtain ⟨vs,e,r⟩:=h; exact bm_lst r.bel
 | dct ds=>obtain ⟨vs,e,r⟩:=h; exact bm_dct r.bel
 | dcT ds=>obtain ⟨vs,e,r⟩:=h; exact bm_dcT r.bel
 | drK ds=>obtain ⟨vs,e,r⟩:=h; exact bm_drK r.bel
 | drT ds=>obtain ⟨vs,e,r⟩:=h; exact bm_drT r.bel
 | dfT o vs ds=>exact bm_dfT h.2.bel
 | dfK o vs ds=>exact bm_dfK h.2.bel
 | ins Cl fs =>
  obtain ⟨dx,vs,e,r⟩:=h
  refine bm_ins fun kv hk=>?_
  clear e
  induction r with
  | nil=>cases hk
  | cons a b ih =>
   rcases List.mem_cons.mp hk with z | z
   ·rw [z]; exact a.2.bel
   ·exact ih z
 | hand=>exact bm_hand
 | tab P pos q=>exact bm_tab
def Rel.wf {C:Cf} {Z:Anc} {I:Hp} {α:List Addr} {H:Hp} {M:Mem} (R:Rel C Z I α H M):WfM M:=fun m hm=>by
 obtain ⟨k,hk,rfl⟩:=List.getElem_of_mem hm
 have hk':k < α.length:=by rw [R.len]; exact hk
 have:=(R.cel k _ _ (List.getElem?_eq_getElem hk') (List.getElem?_eq_getElem hk)).1.bel
 rwa [R.len] at this
theorem BelS.belowE {n:Nat} {ρ0 ρ ρ':Ev} (b:BelS n ρ0 ρ ρ'):(∀ (i:Nat) (d:D),ρ0[i]?=some (some d)->Below n d)->BelowE n ρ ρ':=by
 induction b with
 | nil=>exact fun _=>.nil
 | skip _ ih=>exact fun h=>.skip (ih fun i d e=>h (i + 1) d (by simpa using e))
 | same _ ih=>exact fun h=>.keep (h 0 _ rfl) (ih fun i d e=>h (i + 1) d (by simpa using e))
 | keep hb _ ih=>exact fun h=>.keep hb (ih fun i d e=>h (i + 1) d (by simpa using e))
theorem Dr.out {C:Cf} {Z:Anc} {I I0:Hp} {α0 α:List Addr} {H H0:Hp} {M M0:Mem} {P:Ev->Mem->Prop} {σ σ0:St} {ρ ρ0:Ev} (h:Dr ρ0 M0 P ρ M) (R0:Rel C Z I0 α0 H0 M0) (E0:RepE C I0 α0 σ0 ρ0) (p:α0<+:α) (R:Rel C Z I α H M) (E:RepE C I α σ ρ) :
  ∃ α' ρ' M',α0<+:α'/\Rel C Z I α' H M'/\RepE C I α' σ ρ'/\P ρ' M':=by
 rcases h with h | ⟨ρ',⟨X,rfl⟩,hb,h⟩ | ⟨n,ρ',hl,hb,hm,h⟩
 ·exact ⟨α,ρ,M,p,R,E,h⟩
 ·have hb':=hb.belowE fun i d e=>by
   obtain ⟨v,_,r⟩:=E0.2 i d e
   have:=r.bel
   rwa [R0.len] at this
  have et:(M0++X).take M0.length=M0:=List.take_left ..
  have R1:=R.take M0.length (by rw [<- R0.len]; exact R0.aa.length_le) (by rw [et]; exact R0.wf)
  rw [et] at R1
  exact ⟨α.take M0.length,ρ',M0,pre_take p (by rw [R0.len]; exact Nat.le_refl _),R1,hb'.rep E,h⟩
 ·exact ⟨α.take n,ρ',M.take n,pre_take p (by rw [R0.len]; omega),R.take n (by have:=R0.aa.length_le; have:=R0.len; omega) hm,hb.rep E,h⟩
section
variable {C:Cf} {Z:Anc} {t t':TS} {u u':TS3} {te:TE} {ue:TE3} {tc:TT} {uc:TT3} {g:TG} {ug:TG3} {gs:TGs} {ugs:TGs3}
def uSeq (u u':TS3):TS3:=fun E ρ M=>u { E with nx:=u' E } ρ M
def s_seq (h1:SimS C Z t u) (h2:SimS C Z t' u'):SimS C Z (tSeq t t') (uSeq u u'):=fun I α σ H ρ M E D' R RE h F =>
 h1 I α σ H ρ M { E with nx:=u' E } { D' with nx:=t' D' } R RE h ⟨fun I1 α1 σ1 H1 ρ1 M1 s p R1 RE1 h1=>h2 I1 α1 σ1 H1 ρ1 M1 E D' R1 RE1 h1 (F.mono s p),F.rt,F.bk,F.ct⟩
def uNext:TS3:=fun E ρ M=>E.nx ρ M
def s_next:SimS C Z tNext uNext:=fun I α σ H ρ M E D' R RE h F=>F.nx I α σ H ρ M (.refl _) (List.prefix_refl _) R RE h
def uDrop (ue:TE3):TS3:=fun E ρ M=>ue ρ M fun _ M1=>E.nx ρ M1
def s_drop (he:SimE C Z te ue):SimS C Z (tDrop te) (uDrop ue):=fun I α σ H ρ M E D' R RE h F =>
 he I α σ H ρ M _ _ R RE h fun v d I1 α1 H1 M1 s p R1 r h1=>F.nx I1 α1 σ H1 ρ M1 s p R1 (RE.mono s p) h1
def uRet (ue:TE3):TS3:=fun E ρ M=>ue ρ M E.rt
def s_ret (he:SimE C Z te ue):SimS C Z (tRet te) (uRet ue):=fun I α σ H ρ M E D' R RE h F=>he I α σ H ρ M _ _ R RE h F.rt
def uIfS (c:TT3) (u u':TS3):TS3:=fun E ρ M=>c ρ M fun b M1=>if b=true then u E ρ M1 else u' E ρ M1
def s_ifS (hc:SimT C Z tc uc) (h1:SimS C Z t u) (h2:SimS C Z t' u'):SimS C Z (tIfS tc t t') (uIfS uc u u'):=fun I α σ H ρ M E D' R RE h F =>
 hc I α σ H ρ M _ _ R RE h fun b I1 α1 H1 M1 s p R1 h3=>by
  cases b with
  | true =>
   rw [if_pos rfl] at h3 ⊢
   exact h1 I1 α1 σ H1 ρ M1 E D' R1 (RE.mono s p) h3 (F.mono s p)
  | false =>
   rw [if_neg Bool.false_ne_true] at h3 ⊢
   exact h2 I1 α1 σ H1 ρ M1 E D' R1 (RE.mono s p) h3 (F.mono s p)
def uAsg (ue:TE3) (ug:TG3):TS3:=fun E ρ M=>ue ρ M fun d M1=>ug d ρ M1 E.nx
def s_asg (he:SimE C Z te ue) (hg:SimG C Z g ug):SimS C Z (tAsg te g) (uAsg ue ug):=fun I α σ H ρ M E D' R RE h F =>
 he I α σ H ρ M _ _ R RE h fun v d I1 α1 H1 M1 s p R1 r h1=>hg I1 α1 σ H1 ρ M1 v d _ _ R1 (RE.mono s p) r h1 (F.nx.mono s p)
def uG (i:Nat):TG3:=fun d ρ M K=>K (ρ.set i (some d)) M
def s_g (i:Nat):SimG C Z (gName i) (uG i):=fun I α σ H ρ M v d K Q R RE r h k=>k I α _ H _ M (.refl _) (List.prefix_refl _) R (RE.set r i) h
def uGNil:TGs3:=fun ds ρ M K=>ds=[]/\K ρ M
def uGCons (ug:TG3) (ugs:TGs3):TGs3:=fun ds ρ M K=>∃ d r,ds=d::r/\ug d ρ M fun ρ' M'=>ugs r ρ' M' K
def s_gnil:SimGs C Z gNil uGNil:=fun I α σ H ρ M vs ds K Q R RE r h k=>by
 obtain ⟨rfl,h⟩:=h
 cases r
 exact ⟨rfl,k I α σ H ρ M (.refl _) (List.prefix_refl _) R RE h⟩
theorem s_gcons (h1:SimG C Z g ug) (h2:SimGs C Z gs ugs):SimGs C Z (gCons g gs) (uGCons ug ugs):=fun I α σ H ρ M vs ds K Q R RE r h k=>by
 obtain ⟨d,r',rfl,h⟩:=h
 cases r with
 | cons a b=>exact ⟨_,_,rfl,h1 I α σ H ρ M _ d _ _ R RE a h fun I1 α1 σ1 H1 ρ1 M1 s p R1 RE1 h3=>h2 I1 α1 σ1 H1 ρ1 M1 _ _ _ _ R1 RE1 (b.mono s p) h3 (k.mono s p)⟩
def uGTup (n:Nat) (ugs:TGs3):TG3:=fun d ρ M K=>∃ ds,tupOf d=some ds/\ds.length=n/\ugs ds ρ M K
def s_gtup {n:Nat} (h:SimGs C Z gs ugs):SimG C Z (gTup C.k n gs) (uGTup n ugs):=fun I α σ H ρ M v d K Q R RE r hh k=>by
 obtain ⟨ds,e,hl,hh⟩:=hh
 obtain ⟨a,vs,rfl,ea,_,ra⟩:=tup_at R r e
 exact ⟨a,vs,rfl,SqT.of ea,by rw [ra.length]; exact hl,h I α σ H ρ M vs ds K Q R RE ra hh k⟩
def uGSub (uo ui:TE3):TG3:=fun d ρ M K=>uo ρ M fun o M1=>ui ρ M1 fun i M2=>∃ k xs z j,o=.cell k/\i=.int z/\M2[k]?=some (.lst xs)/\ixN xs.length z=some j/\K ρ (M2.set k (.lst (xs.set j d)))
def s_gsub {to ti:TE} {uo ui:TE3} (ho:SimE C Z to uo) (hi:SimE C Z ti ui):SimG C Z (gSub to ti rSetL) (uGSub uo ui):=fun I α σ H ρ M v d K Q R RE r hh k =>
 ho I α σ H ρ M _ _ R RE hh fun ov o I1 α1 H1 M1 s1 p1 R1 r1 h1=>hi I1 α1 σ H1 ρ M1 _ _ R1 (RE.mono s1 p1) h1 fun iv i I2 α2 H2 M2 s2 p2 R2 r2 h2=>by
  obtain ⟨kk,xs,z,j,rfl,rfl,e1,e2,h2⟩:=h2
  cases r2
  cases (r1.mono s2 p2) with
  | cell ec =>
   obtain ⟨us,eu,ru⟩:=cell_lst R2 ec e1
   refine ⟨_,us,z,j,rfl,rfl,eu,by rw [ru.length]; exact e2,?_⟩
   exact k I2 α2 σ _ ρ _ (s1.trans s2) (p1.trans p2) (R2.putL ec (ru.set (r.mono (s1.trans s2) (p1.trans p2)) j)) (RE.mono (s1.trans s2) (p1.trans p2)) h2
def uWhile (uc:TT3) (u:TS3):TS3:=fun E ρ M=>∃ P:Nat->Ev->Mem->Prop,(∃ m,P m ρ M)/\∀ m ρ1 M1,P m ρ1 M1->uc ρ1 M1 fun b M2=>if b=true then u { E with nx:=fun ρ' M'=>∃ m',m' < m/\Dr ρ M (P m') ρ' M',ct:=fun ρ' M'=>∃ m',m' < m/\Dr ρ M (P m') ρ' M',bk:=E.nx } ρ1 M2 else E.nx ρ1 M2
theorem s_while (hc:SimT C Z tc uc) (hb:SimS C Z t u):SimS C Z (tWhile tc t) (uWhile uc u):=fun I α σ H ρ M E D' R RE h F=>by
 obtain ⟨P,⟨m0,h0⟩,hs⟩:=h
 have hlen:=R.len
 refine ⟨fun m σ1 H1=>∃ I1 α1 ρ1 M1,Same I I1/\α<+:α1/\Rel C Z I1 α1 H1 M1/\RepE C I1 α1 σ1 ρ1/\P m ρ1 M1,⟨m0,I,α,ρ,M,.refl _,List.prefix_refl _,R,RE,h0⟩,?_⟩
 rintro m σ1 H1 ⟨I1,α1,ρ1,M1,s1,p1,R1,RE1,h1⟩
 refine hc I1 α1 σ1 H1 ρ1 M1 _ _ R1 RE1 (hs m ρ1 M1 h1) fun b I2 α2 H2 M2 s2 p2 R2 h2=>?_
 cases b with
 | false =>
  rw [if_neg Bool.false_ne_true] at h2 ⊢
  exact F.nx I2 α2 σ1 H2 ρ1 M2 (s1.trans s2) (p1.trans p2) R2 (RE1.mono s2 p2) h2
 | true =>
  rw [if_pos rfl] at h2 ⊢
  refine ⟨fun σ' H'=>∃ m',m' < m/\∃ I1 α1 ρ1 M1,Same I I1/\α<+:α1/\Rel C Z I1 α1 H' M1/\RepE C I1 α1 σ' ρ1/\P m' ρ1 M1,fun σ' H' h=>h,?_⟩
  have nx:FinS C Z I2 α2 (fun ρ' M'=>∃ m',m' < m/\Dr ρ M (P m') ρ' M') (fun σ' H'=>∃ m',m' < m/\∃ I1 α1 ρ1 M1,Same I I1/\α<+:α1/\Rel C Z I1 α1 H' M1/\RepE C I1 α1 σ' ρ1/\P m' ρ1 M1):=fun I3 α3 σ3 H3 ρ3 M3 s3 p3 R3 RE3 h3=>by
   obtain ⟨m',hm,h3⟩:=h3
   obtain ⟨α4,ρ4,M4,p4,R4,RE4,h4⟩:=h3.out R RE (p1.trans (p2.trans p3)) R3 RE3
   exact ⟨m',hm,I3,α4,ρ4,M4,s1.trans (s2.trans s3),p4,R4,RE4,h4⟩
  exact hb I2 α2 σ1 H2 ρ1 M2 _ _ R2 (RE1.mono s2 p2) h2 ⟨nx,F.rt.mono (s1.trans s2) (p1.trans p2),F.nx.mono (s1.trans s2) (p1.trans p2),nx⟩
structure It3 where
 n:Nat
 item:Nat->D->Prop
 ok:Mem->Prop
abbrev TI3:=Ev->Mem->(It3->Mem->Prop)->Prop
def ItR (C:Cf) (Z:Anc) (I:Hp) (α:List Addr) (J:It) (j:It3):Prop:=∀ I' α' H' M',Same I I'->α<+:α'->Rel C Z I' α' H' M'->j.ok M' ->
 (∀ i,i < j.n->J.go i H'/\∀ x H2,J.yld i H' x H2->∃ I2 d,Same I' I2/\Rel C Z I2 α' H2 M'/\Rep C I2 α' x d/\j.item i d)/\J.stop j.n H'
def SimI (C:Cf) (Z:Anc) (w:TI) (u:TI3):Prop:=∀ I α σ H ρ M (K:It3->Mem->Prop) (R':It->Hp->Prop),Rel C Z I α H M->RepE C I α σ ρ->u ρ M K ->
 (∀ J j I' α' H' M',Same I I'->α<+:α'->Rel C Z I' α' H' M'->ItR C Z I' α' J j->K j M'->R' J H')->w σ H R'
def lit (M0:Mem) (d:D) (ds:List D):It3:=⟨ds.length,fun i x=>ds[i]?=some x,fun M=>lstOf M d=some ds⟩
def uIL (ue:TE3):TI3:=fun ρ M K=>ue ρ M fun d M1=>∃ ds,lstOf M1 d=some ds/\K ⟨ds.length,fun i x=>ds[i]?=some x,fun M=>lstOf M d=some ds⟩ M1
def s_il (he:SimE C Z te ue):SimI C Z (iList C.k te) (uIL ue):=fun I α σ H ρ M K R' R RE h k =>
 he I α σ H ρ M _ _ R RE h fun v d I1 α1 H1 M1 s1 p1 R1 r1 h1=>by
  obtain ⟨ds,e,h1⟩:=h1
  obtain ⟨a,vs,rfl,ea,ra⟩:=lst_at R1 r1 e
  refine ⟨a,rfl,⟨vs,ea⟩,k _ _ I1 α1 H1 M1 s1 p1 R1 (fun I2 α2 H2 M2 s2 p2 R2 ok=>?_) h1⟩
  obtain ⟨b,ws,eb,eq,rw'⟩:=lst_at R2 (r1.mono s2 p2) ok
  cases eb
  refine ⟨fun i hi=>?_,⟨ws,eq,by rw [rw'.length]; exact Nat.le_refl _⟩⟩
  have hi2:i < ws.length:=by rw [rw'.length]; exact hi
  refine ⟨⟨ws,ws[i],eq,List.getElem?_eq_getElem hi2⟩,fun x H3 y=>?_⟩
  obtain ⟨rfl,y⟩:=y
  have:=y ws eq
  rw [List.getElem?_eq_getElem hi2] at this
  cases this
  exact ⟨I2,ds[i],.refl _,R2,rw'.at hi2 hi,List.getElem?_eq_getElem hi⟩
def rngIt (lo:Int) (n:Nat):It3:=⟨n,fun i x=>x=.int (lo + i),fun _=>True⟩
def itr_r {I:Hp} {α:List Addr} {lo:Int} {n:Nat}:ItR C Z I α (Itr lo n) (rngIt lo n):=fun I' α' H' M' s p R _=>⟨fun i hi=>⟨hi,fun x H2 y=>by
 obtain ⟨rfl,rfl⟩:=y
 exact ⟨I',_,.refl _,R,.int _,rfl⟩⟩,Nat.le_refl _⟩
variable {ta:TA} {ua:TA3}
def uIR1 (ua:TA3):TI3:=fun ρ M K=>ua ρ M fun ds M1=>∃ j:Int,ds=[.int j]/\(-(2 ^ 62)<=j/\j < 2 ^ 62)/\K (rngIt 0 j.toNat) M1
def s_ir1 (ha:SimA C Z ta ua):SimI C Z (iRng1 ta) (uIR1 ua):=fun I α σ H ρ M K R' R RE h k =>
 ha I α σ H ρ M _ _ R RE h fun vs ds I1 α1 H1 M1 s1 p1 R1 r1 h1=>by
  obtain ⟨j,rfl,⟨h2,h3⟩,h1⟩:=h1
  cases r1 with
  | cons a b =>
   cases b
   cases a
   exact ⟨j,rfl,h2,h3,k _ _ I1 α1 H1 M1 s1 p1 R1 itr_r h1⟩
def uIR2 (ua:TA3):TI3:=fun ρ M K=>ua ρ M fun ds M1=>∃ i j:Int,ds=[.int i,.int j]/\(-(2 ^ 62)<=i/\i < 2 ^ 62/\-(2 ^ 62)<=j/\j < 2 ^ 62)/\K (rngIt i (j - i).toNat) M1
def s_ir2 (ha:SimA C Z ta ua):SimI C Z (iRng2 ta) (uIR2 ua):=fun I α σ H ρ M K R' R RE h k =>
 ha I α σ H ρ M _ _ R RE h fun vs ds I1 α1 H1 M1 s1 p1 R1 r1 h1=>by
  obtain ⟨i,j,rfl,h2,h1⟩:=h1
  cases r1 with
  | cons a b =>
   cases b with
   | cons b c =>
    cases c
    cases a
    cases b
    exact ⟨i,j,rfl,h2,k _ _ I1 α1 H1 M1 s1 p1 R1 itr_r h1⟩
def uFor (ui:TI3) (ug:TG3) (ub:TS3):TS3:=fun E ρ M=>ui ρ M fun j M1=>∃ P:Nat->Ev->Mem->Prop,(∀ i ρ M,i<=j.n->P i ρ M->j.ok M)/\P 0 ρ M1 /\
 (∀ i x ρ1 M',i < j.n->j.item i x->P i ρ1 M'->ug x ρ1 M' fun ρ2 M2=>ub { E with nx:=Dr ρ M1 (P (i + 1)),ct:=Dr ρ M1 (P (i + 1)),bk:=E.nx } ρ2 M2)/\∀ ρ M,P j.n ρ M->E.nx ρ M
theorem s_for {wi:TI} {ui:TI3} (hi:SimI C Z wi ui) (hg:SimG C Z g ug) (hb:SimS C Z t u):SimS C Z (tFor wi g t) (uFor ui ug u):=fun I α σ H ρ M E D' R RE h F =>
 hi I α σ H ρ M _ _ R RE h fun J j I1 α1 H1 M1 s1 p1 R1 IR h1=>by
  obtain ⟨P,hok,h0,hs,he⟩:=h1
  have hlen:=R1.len
  refine ⟨fun i m σ' H'=>m=j.n - i/\i<=j.n/\∃ I2 α2 ρ2 M2,Same I1 I2/\α1<+:α2/\Rel C Z I2 α2 H' M2/\RepE C I2 α2 σ' ρ2/\P i ρ2 M2,⟨j.n,rfl,Nat.zero_le _,I1,α1,ρ,M1,.refl _,List.prefix_refl _,R1,RE.mono s1 p1,h0⟩,?_⟩
  rintro i m σ' H' ⟨rfl,hi,I2,α2,ρ2,M2,s2,p2,R2,RE2,h2⟩
  obtain ⟨go,stop⟩:=IR I2 α2 H' M2 s2 p2 R2 (hok i ρ2 M2 hi h2)
  by_cases hlt:i < j.n
  ·obtain ⟨g1,g2⟩:=go i hlt
   refine .inr ⟨g1,fun σ3 H3=>∃ I3 α3 ρ3 M3,Same I1 I3/\α1<+:α3/\Rel C Z I3 α3 H3 M3/\RepE C I3 α3 σ3 ρ3/\P (i + 1) ρ3 M3,fun σ3 H3 h3=>⟨j.n - (i + 1),by omega,rfl,hlt,h3⟩,fun x H3 y=>?_⟩
   obtain ⟨I3,d,s3,R3,r3,it⟩:=g2 x H3 y
   refine hg I3 α2 σ' H3 ρ2 M2 x d _ _ R3 (RE2.mono s3 (List.prefix_refl _)) r3 (hs i d ρ2 M2 hlt it h2) fun I4 α4 σ4 H4 ρ4 M4 s4 p4 R4 RE4 h4=>?_
   have nx:FinS C Z I4 α4 (Dr ρ M1 (P (i + 1))) (fun σ3 H3=>∃ I3 α3 ρ3 M3,Same I1 I3/\α1<+:α3/\Rel C Z I3 α3 H3 M3/\RepE C I3 α3 σ3 ρ3/\P (i + 1) ρ3 M3):=fun I5 α5 σ5 H5 ρ5 M5 s5 p5 R5 RE5 h5=>by
    obtain ⟨α6,ρ6,M6,p6,R6,RE6,h6⟩:=h5.out R1 (RE.mono s1 p1) (p2.trans (p4.trans p5)) R5 RE5
    exact ⟨I5,α6,ρ6,M6,s2.trans (s3.trans (s4.trans s5)),p6,R6,RE6,h6⟩
   have F4:=F.mono (s1.trans (s2.trans (s3.trans s4))) (p1.trans (p2.trans p4))
   exact hb I4 α4 σ4 H4 ρ4 M4 _ _ R4 RE4 h4 ⟨nx,F4.rt,F4.nx,nx⟩
  ·have e:i=j.n:=by omega
   subst e
   exact .inl ⟨stop,F.nx I2 α2 σ' H' ρ2 M2 (s1.trans s2) (p1.trans p2) R2 RE2 (he ρ2 M2 h2)⟩
def sg3 (ρ:Ev) (T:List Str) (cs:List Nat):Ev:=T.map (fun _=>none)++cs.map fun i=>ρ.getD i none
def RepE.sg {I:Hp} {α:List Addr} {σ:St} {ρ:Ev} (h:RepE C I α σ ρ) (T:List Str) (cs:List Nat):RepE C I α (sgOf σ T cs) (sg3 ρ T cs):=by
 refine ⟨by unfold sgOf sg3; simp,fun i d e=>?_⟩
 unfold sg3 at e
 unfold sgOf
 by_cases hi:i < T.length
 ·rw [List.getElem?_append_left (by simpa using hi),List.getElem?_map,List.getElem?_eq_getElem hi] at e
  simp at e
 ·rw [List.getElem?_append_right (by simpa using hi),List.getElem?_map] at e
  rw [List.getElem?_append_right (by simpa using hi),List.getElem?_map]
  simp only [List.length_map] at e ⊢
  cases hc:cs[i - T.length]? with
  | none=>rw [hc] at e; cases e
  | some c =>
   rw [hc] at e
   simp only [Option.map_some,Option.some.injEq] at e ⊢
   rw [List.getD_eq_getElem?_getD] at e ⊢
   cases hr:ρ[c]? with
   | none=>rw [hr] at e; cases e
   | some o =>
    rw [hr] at e
    cases e
    obtain ⟨v,e2,r⟩:=h.2 c d hr
    exact ⟨v,by rw [e2]; rfl,r⟩
variable {tt:TT} {ut:TT3} {T:List Str} {cs:List Nat}
def cmp3 (ui:TI3) (ug:TG3) (ut:TT3) (ue:TE3) (T:List Str) (cs:List Nat) (ρ:Ev) (M:Mem) (F:List D->Mem->Prop):Prop:=ui ρ M fun j M1=>j.n<=sizeLine/\∃ P:Nat->List D->Mem->Prop,(∀ i ys M,i<=j.n->P i ys M->j.ok M)/\P 0 [] M1 /\
 (∀ i x ys M,i < j.n->j.item i x->P i ys M->ug x (sg3 ρ T cs) M fun ρ2 M2=>ut ρ2 M2 fun b M3=>if b=true then ue ρ2 M3 fun y M4=>P (i + 1) (ys++[y]) M4 else P (i + 1) ys M3)/\∀ ys M,P j.n ys M->F ys M
def uComp (ui:TI3) (ug:TG3) (ut:TT3) (ue:TE3) (T:List Str) (cs:List Nat):TE3:=fun ρ M K=>cmp3 ui ug ut ue T cs ρ M fun ys M1=>K (.lst ys) M1
theorem comp_sim {wi:TI} {ui:TI3} (hi:SimI C Z wi ui) (hg:SimG C Z g ug) (ht:SimT C Z tt ut) (he:SimE C Z te ue) {I:Hp} {α:List Addr} {σ:St} {H:Hp} {ρ:Ev} {M:Mem} {F:List D->Mem->Prop} {Q:VK} (R:Rel C Z I α H M) (RE:RepE C I α σ ρ) (h:cmp3 ui ug ut ue T cs ρ M F)
  (k:∀ ys vs I' α' H' M',Same I I'->α<+:α'->Rel C Z I' α' H' M'->Reps C I' α' vs ys->F ys M'->∀ p,H' p=none->Q (.ref p) (upd H' p (.lst vs))):tComp wi g tt te T cs σ H Q :=
 hi I α σ H ρ M _ _ R RE h fun J j I1 α1 H1 M1 s1 p1 R1 IR h1=>by
  obtain ⟨hz,P,hok,h0,hs,hd⟩:=h1
  refine ⟨fun i m vs H'=>m=j.n - i/\i<=j.n/\∃ I2 α2 ys M2,Same I1 I2/\α1<+:α2/\Rel C Z I2 α2 H' M2/\Reps C I2 α2 vs ys/\ys.length<=i/\P i ys M2,⟨j.n,rfl,Nat.zero_le _,I1,α1,[],M1,.refl _,List.prefix_refl _,R1,.nil,Nat.le_refl _,h0⟩,?_⟩
  rintro i m vs H' ⟨rfl,hi,I2,α2,ys,M2,s2,p2,R2,r2,hl,h2⟩
  obtain ⟨go,stop⟩:=IR I2 α2 H' M2 s2 p2 R2 (hok i ys M2 hi h2)
  have hvl:=r2.length
  by_cases hlt:i < j.n
  ·obtain ⟨g1,g2⟩:=go i hlt
   refine .inr ⟨g1,by omega,fun vs3 H3=>∃ I3 α3 ys3 M3,Same I1 I3/\α1<+:α3/\Rel C Z I3 α3 H3 M3/\Reps C I3 α3 vs3 ys3/\ys3.length<=i + 1/\P (i + 1) ys3 M3,fun vs3 H3 h3=>⟨j.n - (i + 1),by omega,rfl,hlt,h3⟩,fun x H3 y=>?_⟩
   obtain ⟨I3,d,s3,R3,r3,it⟩:=g2 x H3 y
   have RE3:RepE C I3 α2 σ ρ:=RE.mono (s1.trans (s2.trans s3)) (p1.trans p2)
   refine hg I3 α2 _ H3 _ M2 x d _ _ R3 (RE3.sg T cs) r3 (hs i d ys M2 hlt it h2) fun I4 α4 σ4 H4 ρ4 M4 s4 p4 R4 RE4 h4=>?_
   refine ht I4 α4 σ4 H4 ρ4 M4 _ _ R4 RE4 h4 fun b I5 α5 H5 M5 s5 p5 R5 h5=>?_
   cases b with
   | true =>
    rw [if_pos rfl] at h5 ⊢
    refine he I5 α5 σ4 H5 ρ4 M5 _ _ R5 (RE4.mono s5 p5) h5 fun v e I6 α6 H6 M6 s6 p6 R6 r6 h6=>?_
    refine ⟨I6,α6,ys++[e],M6,s2.trans (s3.trans (s4.trans (s5.trans s6))),p2.trans (p4.trans (p5.trans p6)),R6,(r2.mono (s3.trans (s4.trans (s5.trans s6))) (p4.trans (p5.trans p6))).app (.one r6),?_,h6⟩
    rw [List.length_append,List.length_singleton]
    omega
   | false =>
    rw [if_neg Bool.false_ne_true] at h5 ⊢
    exact ⟨I5,α5,ys,M5,s2.trans (s3.trans (s4.trans s5)),p2.trans (p4.trans p5),R5,r2.mono (s3.trans (s4.trans s5)) (p4.trans p5),by omega,h5⟩
  ·have e:i=j.n:=by omega
   subst e
   exact .inl ⟨stop,by omega,k ys vs I2 α2 H' M2 (s1.trans s2) (p1.trans p2) R2 r2 (hd ys M2 h2)⟩
def s_comp {wi:TI} {ui:TI3} (hi:SimI C Z wi ui) (hg:SimG C Z g ug) (ht:SimT C Z tt ut) (he:SimE C Z te ue):SimE C Z (tComp wi g tt te T cs) (uComp ui ug ut ue T cs):=fun I α σ H ρ M K Q R RE h k =>
 comp_sim hi hg ht he R RE h fun ys vs I' α' H' M' s p R' r hF q hq=>by
  obtain ⟨R2,s2,e2⟩:=R'.new (o:=.lst vs) hq
  exact k _ _ _ α' _ M' (s.trans s2) p R2 (.lst e2 (r.mono s2 (List.prefix_refl _))) hF
def uTrue:TT3:=fun _ M K=>K true M
def s_true:SimT C Z tTrue uTrue:=fun I α σ H ρ M K Q R E h k=>k true I α H M (.refl _) (List.prefix_refl _) R h
abbrev Sp3:=List D->Mem->K3->Prop
def spOf (C:Cf) (sp:Sp3):Sp:=fun vs H Q _=>∃ Z I α M ds K,Rel C Z I α H M/\Reps C I α vs ds/\sp ds M K/\Fin C Z I α K Q
def uCall (sp:Sp3) (ua:TA3):TE3:=fun ρ M K=>ua ρ M fun ds M1=>sp ds M1 K
def s_call {sp:Sp3} {E0':XK} (ha:SimA C Z ta ua):SimE C Z (tCall (spOf C sp) [] E0' ta) (uCall sp ua):=fun I α σ H ρ M K Q R RE h k =>
 ha I α σ H ρ M _ _ R RE h fun vs ds I1 α1 H1 M1 s1 p1 R1 r1 h1=>by
  rw [List.append_nil]
  exact ⟨Z,I1,α1,M1,ds,K,R1,r1,h1,k.mono s1 p1⟩
def Cal.imp {P:Program} {w:World} {K:W.Frag} {mg:Str->Option Value} {base:Heap} {x:Str} {k:Nat} {ps:List Str} {sp sp':Sp} (c:Cal P w K mg base x k ps sp) (h:∀ vs H Q E,sp' vs H Q E->sp vs H Q E):Cal P w K mg base x k ps sp' :=
 let ⟨f,fd,a,b⟩:=c
 ⟨f,fd,a.imp h,b⟩
def start3 (N:List Str) (ds:List D):Ev:=ds.map some++List.replicate (N.length - ds.length) none
def rep_start {I:Hp} {α:List Addr} {vs:List V} {ds:List D} (r:Reps C I α vs ds) (N:List Str):RepE C I α (L2.start N vs) (start3 N ds):=by
 have hl:=r.length
 refine ⟨by unfold L2.start start3; simp [hl],fun i d e=>?_⟩
 unfold start3 at e
 unfold L2.start
 by_cases hi:i < ds.length
 ·rw [List.getElem?_append_left (by simpa using hi),List.getElem?_map,List.getElem?_eq_getElem hi] at e
  have e':ds[i]=d:=by simpa using e
  rw [List.getElem?_append_left (by simpa [hl] using hi),List.getElem?_map,List.getElem?_eq_getElem (by rw [hl]; exact hi)]
  exact ⟨_,rfl,e' ▸ r.at (by rw [hl]; exact hi) hi⟩
 ·rw [List.getElem?_append_right (by simpa using hi),List.getElem?_replicate] at e
  split at e <;> cases e
def Fun.ok3 {P:Program} {w:World} {K:W.Frag} {mg:Str->Option Value} {base:Heap} {x qual:Str} {st:Stmt} {f:Addr} {fd:FuncData} {N ps:List Str} {k:Nat} {sp:Sp3} (F:Fun K x qual st f fd) (S:FnScope N ps (defScope st)) (len:∀ ds M K,sp ds M K->ds.length=ps.length)
  (hbody:∀ (cdv:Value) (A:Around) (outer:List Env) (s:Shared) (H:Hp) (E:XK),Room k (A.deeper (PyProof.Rows.envOfC qual (defScope st) s.heap.objs.size f cdv)) ->
   ∃ t u,PSs (cxOf CX0 P w K mg base N qual (defScope st) f cdv A outer s H E).nox (defBody st) t/\(∀ Z,SimS C Z t u)/\∀ ds M K,WfM M->(∀ d∈ds,Below M.length d)->sp ds M K->u { nx:=fun _ M'=>Dk M.length K .non M',rt:=Dk M.length K } (start3 N ds) M):FnOk P w K mg base CX0 (k + 1) f fd ps (spOf C sp):=by
 refine F.ok S (fun vs H Q E h=>?_) (fun cdv A outer s H vs Q E hr h=>?_)
 ·obtain ⟨Z,I,α,M,ds,K,R,r,h,_⟩:=h
  rw [r.length]
  exact len ds M K h
 ·obtain ⟨t,u,h1,h2,h3⟩:=hbody cdv A outer s H E hr
  obtain ⟨Z,I,α,M,ds,K,R,r,h,k⟩:=h
  have kd:=k.dk R.len R.aa
  exact ⟨t,h1,h2 Z I α _ H _ M _ _ R (rep_start r N) (h3 ds M K R.wf (by rw [<- R.len]; exact r.bel) h) ⟨fun I1 α1 σ1 H1 ρ1 M1 s1 p1 R1 _ h1=>kd _ _ I1 α1 H1 M1 s1 p1 R1 .non h1,kd,fun _ _ _ _ _ _ _ _ _ _ h=>h.elim,fun _ _ _ _ _ _ _ _ _ _ h=>h.elim⟩⟩
end
section
variable {C:Cf} {Z:Anc} {I:Hp} {α:List Addr} {H H':Hp} {M:Mem}
def Rel.full (R:Rel C Z I α H M):∃ I',Same I I'/\Rel C Z I' α H M/\∀ b o,H b=some o->b∉α->I' b=some o:=by
 have s:Same I (fun b=>if b∈α then none else H b):=fun b o e=>by
  have hb:b∉α:=fun hb=>by
   obtain ⟨k,hk,rfl⟩:=List.getElem_of_mem hb
   have hk':k < M.length:=by rw [<- R.len]; exact hk
   rw [(R.cel k _ _ (List.getElem?_eq_getElem hk) (List.getElem?_eq_getElem hk')).2] at e
   cases e
  show (if b∈α then none else H b)=some o
  rw [if_neg hb]
  exact R.sub b o e
 refine ⟨_,s,⟨R.ai.trans s,R.aa,fun b o e=>?_,R.len,R.nd,fun k a m h1 h2=>?_⟩,fun b o e hb=>?_⟩
 ·have e':(if b∈α then none else H b)=some o:=e
  split at e'
  ·cases e'
  ·exact e'
 ·refine ⟨(R.cel k a m h1 h2).1.mono s (List.prefix_refl _) rfl,?_⟩
  show (if a∈α then none else H a)=none
  rw [if_pos (List.mem_of_getElem? h1)]
 ·show (if b∈α then none else H b)=some o
  rw [if_neg hb]
  exact e
def Rel.out (R:Rel C Z I α H M) {l:Addr} (h:H l=none):l∉α:=fun hl=>by
 obtain ⟨k,hk,e⟩:=List.getElem_of_mem hl
 exact R.cellNe (List.getElem?_eq_getElem hk) h e
theorem Rel.tupOut (R:Rel C Z I α H M) {l:Addr} {vs:List V} (h:H l=some (.tup vs)):l∉α:=fun hl=>by
 obtain ⟨k,hk,rfl⟩:=List.getElem_of_mem hl
 have hk':k < M.length:=by rw [<- R.len]; exact hk
 have:=(R.cel k _ _ (List.getElem?_eq_getElem hk) (List.getElem?_eq_getElem hk')).1
 cases hm:M[k] with
 | lst ds=>rw [hm] at this; obtain ⟨vs,e,_⟩:=this; rw [h] at e; cases e
 | dct ds=>rw [hm] at this; obtain ⟨vs,e,_⟩:=this; rw [h] at e; cases e
 | dcT ds=>rw [hm] at this; obtain ⟨vs,e,_⟩:=this; rw [h] at e; cases e
 | drK ds=>rw [hm] at this; obtain ⟨vs,e,_⟩:=this; rcases e with e | ⟨o,e⟩ <;> (rw [h] at e; cases e)
 | drT ds=>rw [hm] at this; obtain ⟨vs,e,_⟩:=this; rcases e with e | ⟨o,e⟩ <;> (rw [h] at e; cases e)
 | dfT o vs ds=>rw [hm] at this; have e:=this.1; rw [h] at e; cases e
 | dfK o vs ds=>rw [hm] at this; have e:=this.1; rw [h] at e; cases e
 | ins Cl fs=>rw [hm] at this; obtain ⟨dx,vs,e,_⟩:=this; rw [h] at e; cases e
 | hand=>rw [hm] at this; obtain ⟨d,k,c,cs,e,_⟩:=this; rw [h] at e; cases e
 | tab P pos q=>rw [hm] at this; obtain ⟨_,ps,e,_⟩:=this; rw [h] at e; cases e
def Rel.same (R:Rel C Z I α H M) (s:Same H H'):Rel C Z I α H' M:=by
 refine ⟨R.ai,R.aa,R.sub.trans s,R.len,R.nd,fun k a m h1 h2=>?_⟩
 obtain ⟨a1,a2⟩:=R.cel k a m h1 h2
 obtain ⟨o,e⟩:=a1.some
 exact ⟨a1.mono (.refl _) (List.prefix_refl _) ((s _ _ e).trans e.symm),a2⟩
def Rel.grow (R:Rel C Z I α H M) {k:Nat} {p c:Addr} {cs:List Int} (ha:α[k]?=some p) (hm:M[k]?=some .hand) (hh:HandAt H' p c) (ic:I c=some (.lst (cs.map V.int))) (hc:cs≠[]/\cs.length<=63/\∀ c∈cs,0<=c) (g:Grow p H H'):Rel C Z I α H' M:=by
 have ip:I p=none:=(R.cel k p _ ha hm).2
 refine ⟨R.ai,R.aa,fun b o e=>g b o (R.sub b o e) (fun z=>by rw [z,ip] at e; cases e),R.len,R.nd,fun j a m h1 h2=>?_⟩
 obtain ⟨a1,a2⟩:=R.cel j a m h1 h2
 by_cases e:k=j
 ·subst e
  rw [ha] at h1
  cases h1
  rw [hm] at h2
  cases h2
  obtain ⟨d0,i0,cs',x1,x2,x3,x4,x5,x6,x7⟩:=hh.ex
  exact ⟨⟨d0,i0,c,cs,x1,ic,hc.1,hc.2.1,x5,x6,hc.2.2⟩,ip⟩
 ·obtain ⟨o,eo⟩:=a1.some
  have ne:a≠p:=fun z=>by
   obtain ⟨hj,ej⟩:=List.getElem?_eq_some_iff.mp h1
   obtain ⟨hk,ek⟩:=List.getElem?_eq_some_iff.mp ha
   rw [<- ej,<- ek] at z
   exact e ((List.getElem_inj R.nd).mp z).symm
  exact ⟨a1.mono (.refl _) (List.prefix_refl _) ((g _ _ eo ne).trans eo.symm),a2⟩
def Rel.hand (R:Rel C Z I α H M) {k:Nat} {p:Addr} (ha:α[k]?=some p) (hm:M[k]?=some .hand):∃ c cs,HandAt H p c/\I c=some (.lst (cs.map V.int))/\cs≠[]/\cs.length<=63/\∀ c∈cs,0<=c:=by
 obtain ⟨d,i,c,cs,e,ic,h1,h2,h3,h4,h5⟩:=(R.cel k p _ ha hm).1
 exact ⟨c,cs,⟨d,i,cs,e,R.sub _ _ ic,h1,h2,h3,h4,h5⟩,ic,h1,h2,h5⟩
theorem Rel.cellAt (R:Rel C Z I α H M) {l:Addr} {m:MO} (il:I l=none) (hl:l∉α) (hm:MoAt C I α H l m):Rel C Z I (α++[l]) H (M++[m])/\α<+:(α++[l])/\(α++[l])[M.length]?=some l:=by
 refine ⟨⟨R.ai,R.aa.trans (List.prefix_append _ _),R.sub,by rw [List.length_append,List.length_append,R.len]; rfl,?_,fun k a x h1 h2=>?_⟩,List.prefix_append _ _,by rw [<- R.len]; simp⟩
 ·rw [List.nodup_append]
  exact ⟨R.nd,by simp,fun a ha b hb e=>hl (by rw [<- List.mem_singleton.mp hb,<- e]; exact ha)⟩
 ·by_cases hk:k < α.length
  ·rw [List.getElem?_append_left hk] at h1
   rw [List.getElem?_append_left (by rw [<- R.len]; exact hk)] at h2
   obtain ⟨a1,a2⟩:=R.cel k a x h1 h2
   exact ⟨a1.mono (.refl _) (List.prefix_append _ _) rfl,a2⟩
  ·obtain ⟨hk2,_⟩:=List.getElem?_eq_some_iff.mp h1
   rw [List.length_append,List.length_singleton] at hk2
   have e:k=α.length:=by omega
   subst e
   have e1:(α++[l])[α.length]?=some l:=by simp
   have e2:(M++[m])[α.length]?=some m:=by rw [R.len]; simp
   rw [e1] at h1
   rw [e2] at h2
   cases h1
   cases h2
   exact ⟨hm.mono (.refl _) (List.prefix_append _ _) rfl,il⟩
end
def wD (w:List Int):D:=.tup (w.map .int)
def pD (p:Pr):D:=.tup [.int p.1,wD p.2]
def oD:Option Int->D
 | some z=>.int z
 | none=>.non
section
variable {C:Cf} {I:Hp} {α:List Addr} {H:Hp}
def rep_p (s:∀ b xs,H b=some (.tup xs)->I b=some (.tup xs)) {v:V} {p:Pr} (h:PairV H v p):Rep C I α v (pD p):=by
 obtain ⟨t,tw,rfl,e,e2⟩:=h
 exact .tup (s _ _ e) (.cons (.int _) (.one (.tup (s _ _ e2) (.ints p.2))))
theorem reps_map {τ:Type} {F:V->τ->Prop} {f:τ->D} (h:∀ v a,F v a->Rep C I α v (f a)):∀ {vs:List V} {as:List τ},Paired F vs as->Reps C I α vs (as.map f)
 | _,_,.nil=>.nil
 | _,_,.cons a b=>.cons (h _ _ a) (reps_map h b)
theorem of_reps {τ:Type} {F:V->τ->Prop} {f:τ->D} (h:∀ v a,Rep C I α v (f a)->F v a):∀ {vs:List V} {as:List τ},Reps C I α vs (as.map f)->Paired F vs as
 | _,[],r=>by cases r; exact .nil
 | _,a::as,r=>by
  cases r with
  | cons x y=>exact .cons (h _ _ x) (of_reps h y)
theorem w_rep (s:Same I H) {v:V} {w:List Int} (h:Rep C I α v (wD w)):WordV H v w:=by
 cases h with
 | tup e r =>
  rw [r.of_ints w] at e
  exact ⟨_,rfl,s _ _ e⟩
theorem p_rep (s:Same I H) {v:V} {p:Pr} (h:Rep C I α v (pD p)):PairV H v p:=by
 cases h with
 | tup e r =>
  cases r with
  | cons a b =>
   cases b with
   | cons b c =>
    cases c
    cases a
    obtain ⟨t,rfl,e2⟩:=w_rep s b
    exact ⟨_,t,rfl,s _ _ e,e2⟩
end
section
variable {C:Cf} {Z:Anc}
def dDraw:Sp3:=fun ds M K=>∃ k n,ds=[.cell k,.int n]/\M[k]?=some .hand/\(0 < n/\n < 1073741824)/\∀ r,0<=r->r < n->K (.int r) M
theorem a_draw {vs:List V} {H:Hp} {Q:VK} {E:XK} (h:spOf C dDraw vs H Q E):spDraw vs H Q E:=by
 obtain ⟨Z,I,α,M,ds,K,R,r,⟨k,n,rfl,hm,⟨n0,n1⟩,h⟩,kk⟩:=h
 cases r with
 | cons r1 r2 =>
  cases r2 with
  | cons r2 r3 =>
   cases r3
   cases r2
   cases r1 with
   | @cell p _ ha =>
    obtain ⟨c,cs,hh,ic,hc⟩:=R.hand ha hm
    exact ⟨p,c,n,rfl,hh,n0,n1,fun z H' z0 z1 hh' g _=>kk _ _ I α H' M (.refl _) (List.prefix_refl _) (R.grow ha hm hh' ic hc g) (.int z) (h z z0 z1)⟩
def dOpen:Sp3:=fun ds M K=>∃ (ns:List Int) (i:Int),ds=[.frz (ns.map .int),.int i]/\(ns.length<=63/\0<=i/\i < 2 ^ 60)/\K (.cell M.length) (M++[.hand])
theorem frz_at {I:Hp} {α:List Addr} {H:Hp} {M:Mem} {v:V} {ns:List Int} (R:Rel C Z I α H M) (r:Rep C I α v (.frz (ns.map .int))):∃ a,v=.ref a/\SqL C.k H a (ns.map V.int):=by
 cases r with
 | frz e r =>
  rw [r.of_ints ns] at e
  exact ⟨_,rfl,R.sub.seq e⟩
theorem a_open {vs:List V} {H:Hp} {Q:VK} {E:XK} (h:spOf C dOpen vs H Q E):spOpen C.k vs H Q E:=by
 obtain ⟨Z,I,α,M,ds,K,R,r,⟨ns,i,rfl,⟨hl,i0,i1⟩,h⟩,kk⟩:=h
 cases r with
 | cons r1 r2 =>
  cases r2 with
  | cons r2 r3 =>
   cases r3
   cases r2
   obtain ⟨a,rfl,hS⟩:=frz_at R r1
   refine ⟨a,ns,i,rfl,hS,hl,i0,i1,fun p c H' np nc hh s=>?_⟩
   have R1:=R.same s
   have pc:p≠c:=hh.ne
   obtain ⟨d0,i0',cs,x1,x2,x3,x4,x5,x6,x7⟩:=hh.ex
   have ipn:I p=none:=R.sub.free np
   have icn:I c=none:=R.sub.free nc
   have R2:Rel C Z (upd I c (.lst (cs.map V.int))) α H' M:=by
    refine ⟨R1.ai.trans (same_upd icn),R1.aa,fun b o e=>?_,R1.len,R1.nd,fun k a m h1 h2=>?_⟩
    ·by_cases z:b=c
     ·subst z; rw [upd_same] at e; cases e; exact x2
     ·rw [upd_ne z] at e; exact R1.sub b o e
    ·obtain ⟨a1,a2⟩:=R1.cel k a m h1 h2
     have ne:a≠c:=R.cellNe h1 nc
     exact ⟨a1.mono (same_upd icn) (List.prefix_refl _) rfl,by rw [upd_ne ne]; exact a2⟩
   obtain ⟨R3,p3,e3⟩:=R2.cellAt (l:=p) (m:=.hand) (by rw [upd_ne pc]; exact ipn) (R.out np) ⟨d0,i0',c,cs,x1,upd_same,x3,x4,x5,x6,x7⟩
   exact kk _ _ _ _ H' _ (same_upd icn) p3 R3 (.cell e3) h
def hand_ints {I:Hp} {α:List Addr} {H H':Hp} {M:Mem} {k:Nat} {p c l:Addr} {cs bs:List Int} {K:K3} {Q:VK} (R:Rel C Z I α H M) (ha:α[k]?=some p) (hm:M[k]?=some .hand) (hh:HandAt H' p c) (ic:I c=some (.lst (cs.map V.int))) (hc:cs≠[]/\cs.length<=63/\∀ c∈cs,0<=c) (g:Grow p H H')
  (nl:H l=none) (el:H' l=some (.lst (bs.map V.int))) (kk:Fin C Z I α K Q) (h:K (.lst (bs.map .int)) M):Q (.ref l) H':=by
 obtain ⟨I',s,R',f⟩:=(R.grow ha hm hh ic hc g).full
 exact kk _ _ I' α H' M s (List.prefix_refl _) R' (.lst (f _ _ el (R.out nl)) (.ints bs)) h
def dBytes:Sp3:=fun ds M K=>∃ k m,ds=[.cell k,.int m]/\M[k]?=some .hand/\(2<=m/\m<=4)/\∀ bs:List Int,bs.Nodup->2<=bs.length->(bs.length:Int)<=m->(∀ b∈bs,0<=b/\b < 256)->K (.lst (bs.map .int)) M
theorem a_bytes {vs:List V} {H:Hp} {Q:VK} {E:XK} (h:spOf C dBytes vs H Q E):spBytes vs H Q E:=by
 obtain ⟨Z,I,α,M,ds,K,R,r,⟨k,m,rfl,hm,⟨m0,m1⟩,h⟩,kk⟩:=h
 cases r with
 | cons r1 r2 =>
  cases r2 with
  | cons r2 r3 =>
   cases r3
   cases r2
   cases r1 with
   | @cell p _ ha =>
    obtain ⟨c,cs,hh,ic,hc⟩:=R.hand ha hm
    exact ⟨p,c,m,rfl,hh,m0,m1,fun l bs H' nl _ el nd b2 bm bb hh' g=>hand_ints R ha hm hh' ic hc g nl el kk (h bs nd b2 bm bb)⟩
def dSigns:Sp3:=fun ds M K=>∃ k m,ds=[.cell k,.int m]/\M[k]?=some .hand/\(0<=m/\m<=100)/\∀ ss:List Int,ss.Nodup->(ss.length:Int)=m->K (.lst (ss.map .int)) M
theorem a_signs {vs:List V} {H:Hp} {Q:VK} {E:XK} (h:spOf C dSigns vs H Q E):spSigns vs H Q E:=by
 obtain ⟨Z,I,α,M,ds,K,R,r,⟨k,m,rfl,hm,⟨m0,m1⟩,h⟩,kk⟩:=h
 cases r with
 | cons r1 r2 =>
  cases r2 with
  | cons r2 r3 =>
   cases r3
   cases r2
   cases r1 with
   | @cell p _ ha =>
    obtain ⟨c,cs,hh,ic,hc⟩:=R.hand ha hm
    exact ⟨p,c,m,rfl,hh,m0,m1,fun l bs H' nl _ el nd b2 hh' g=>hand_ints R ha hm hh' ic hc g nl el kk (h bs nd b2)⟩
theorem lst_in {I:Hp} {α:List Addr} {H:Hp} {M:Mem} {v:V} {ds:List D} (R:Rel C Z I α H M) (r:Rep C I α v (.lst ds)):∃ a vs,v=.ref a/\H a=some (.lst vs)/\I a=some (.lst vs)/\Reps C I α vs ds:=by
 cases r with
 | lst e r=>exact ⟨_,_,rfl,R.sub _ _ e,e,r⟩
def table_at {I:Hp} {α:List Addr} {H:Hp} {M:Mem} {v:V} {L:List Pr} (R:Rel C Z I α H M) (r:Rep C I α v (.lst (L.map pD))):∃ a vs,v=.ref a/\I a=some (.lst vs)/\TableAt H a L:=by
 obtain ⟨a,vs,rfl,e,i,rr⟩:=lst_in R r
 exact ⟨a,vs,rfl,i,vs,e,of_reps (F:=PairV H) (f:=pD) (fun v a z=>p_rep R.sub z) rr⟩
end
section
variable {C:Cf} {Z:Anc} {ta tb:TE} {ua:TE3} {t:TA} {u:TA3}
def uRev (ua:TE3) (us:TO3):TE3:=fun ρ M K=>ua ρ M fun d M1=>us ρ M1 fun k M2=>k=some (-1)/\∃ xs,lstOf M2 d=some xs/\K (.lst xs.reverse) M2
def s_rev {ts:TO} {us:TO3} (ha:SimE C Z ta ua) (hs:SimO C Z ts us):SimE C Z (tRev C.k ta ts) (uRev ua us):=fun I α σ H ρ M K Q R E h k =>
 ha I α σ H ρ M _ _ R E h fun v d I1 α1 H1 M1 s1 p1 R1 r1 h1 =>
  hs I1 α1 σ H1 ρ M1 _ _ R1 (E.mono s1 p1) h1 fun o I2 α2 H2 M2 s2 p2 R2 h2=>by
   obtain ⟨ho,xs,e,h2⟩:=h2
   obtain ⟨a,vs,rfl,ea,ra⟩:=lst_at R2 (r1.mono s2 p2) e
   refine ⟨ho,a,vs,rfl,ea,fun p hp=>?_⟩
   obtain ⟨R3,s3,e3⟩:=R2.new (o:=.lst vs.reverse) hp
   exact k _ _ _ α2 _ M2 (s1.trans (s2.trans s3)) (p1.trans p2) R3 (.lst e3 (ra.rev.mono s3 (List.prefix_refl _))) h2
def valD {κ:Type} [DecidableEq κ] (kvs:List (κ×D)) (k:κ):Option D:=(kvs.find? fun kv=>decide (kv.1=k)).map (·.2)
def keyOf:D->Option Key
 | .int i=>some (.inl i)
 | .str s=>some (.inr s)
 | _=>none
def keysOf:List D->Option (List Key)
 | []=>some []
 | d::r=>match keyOf d,keysOf r with | some k,some ks=>some (k::ks) | _,_=>none
def tkOf:D->Option (List Key)
 | .tup ds=>keysOf ds
 | _=>none
section
variable {M:Mem}
def dctOf (M:Mem):D->Option (List (Key×D))
 | .dct kvs=>some kvs
 | .cell k=>match M[k]? with | some (.dct kvs)=>some kvs | some (.drK kvs)=>some kvs | some (.dfK _ _ kvs)=>some kvs | _=>none
 | _=>none
def dcTOf (M:Mem):D->Option (List (List Key×D))
 | .dcT kvs=>some kvs
 | .cell k=>match M[k]? with | some (.dcT kvs)=>some kvs | some (.drT kvs)=>some kvs | _=>none
 | _=>none
def dGet (M:Mem) (d e:D) (o:Option D):Prop:=(∃ kvs k,dctOf M d=some kvs/\keyOf e=some k/\o=valD kvs k)\/∃ kvs k,dcTOf M d=some kvs/\tkOf e=some k/\o=valD kvs k
end
abbrev noF (m:Str):Prop:=∀ a b c d e:V,List.lookup m [("pairs",a),("words_by_sign",b),("signs_by_word",c),("begun",d),("word_sizes",e)]=none
def uMethC (sp:Sp3) (ua:TE3) (u:TA3):TE3:=fun ρ M K=>ua ρ M fun d M1=>(∃ S,d=.code S)/\u ρ M1 fun ds M2=>sp (d::ds) M2 K
def s_methC {m:Str} {sp:Sp3} (hm:noF m) (ha:SimE C Z ta ua) (hr:SimA C Z t u):SimE C Z (tMeth C.c m (spOf C sp) [] E0 ta t) (uMethC sp ua u):=fun I α σ H ρ M K Q R E h k =>
 ha I α σ H ρ M _ _ R E h fun v d I1 α1 H1 M1 s1 p1 R1 r1 h1=>by
  obtain ⟨⟨S,rfl⟩,h1⟩:=h1
  cases r1 with
  | @code x _ hc =>
   obtain ⟨dx,tp,d1,d2,d3,d4,ex,ci⟩:=hc
   refine ⟨x,dx,_,rfl,R1.sub _ _ ex,hm _ _ _ _ _,?_⟩
   refine hr I1 α1 σ H1 ρ M1 _ _ R1 (E.mono s1 p1) h1 fun vs ds I2 α2 H2 M2 s2 p2 R2 r2 h2=>?_
   rw [List.append_nil]
   exact ⟨Z,I2,α2,M2,_,K,R2,.cons (.code (CodeAt.same ⟨dx,tp,d1,d2,d3,d4,ex,ci⟩ s2)) r2,h2,k.mono (s1.trans s2) (p1.trans p2)⟩
def Met.imp {P:Program} {w:World} {K:W.Frag} {mg:Str->Option Value} {base:Heap} {C:Addr} {m:Str} {k:Nat} {ps:List Str} {sp sp':Sp} (c:Met P w K mg base C m k ps sp) (h:∀ vs H Q E,sp' vs H Q E->sp vs H Q E):Met P w K mg base C m k ps sp' :=
 let ⟨f,fd,a,b,e,d⟩:=c
 ⟨f,fd,a,b,e.imp h,d⟩
def Rel.made {I:Hp} {α:List Addr} {H H':Hp} {M:Mem} {k0:Nat} {Pt x:Addr} {pos:Pos} {q:Str} (R:Rel C Z I α H M) (hk:M[k0]?=some (.tab Pt pos q)) (nx:H x=none) (tb:TabOk Pt pos q H') (g:∀ b o,b≠x->b≠Pt->H b=some o->H' b=some o) :
  ∃ I',Same I I'/\Rel C Z I' α H' M/\∀ b o,H' b=some o->b∉α->I' b=some o:=by
 obtain ⟨P',eP,⟨rfl,ps0,e0,_⟩,iP⟩:=R.get hk
 have hα:∀ b,b∈α->b≠x:=fun b hb=>by
  obtain ⟨k,hk,rfl⟩:=List.getElem_of_mem hb
  exact R.cellNe (List.getElem?_eq_getElem hk) nx
 have hI:∀ b o,I b=some o->b∉α:=fun b o e hb=>by
  obtain ⟨k,hk,rfl⟩:=List.getElem_of_mem hb
  have hk':k < M.length:=by rw [<- R.len]; exact hk
  rw [(R.cel k _ _ (List.getElem?_eq_getElem hk) (List.getElem?_eq_getElem hk')).2] at e
  cases e
 have hS:∀ b o,I b=some o->H' b=some o:=fun b o e=>g b o (fun z=>by rw [z,R.sub.free nx] at e; cases e) (fun z=>by rw [z,iP] at e; cases e) (R.sub b o e)
 have s:Same I (fun b=>if b∈α then none else H' b):=fun b o e=>by
  show (if b∈α then none else H' b)=some o
  rw [if_neg (hI b o e)]
  exact hS b o e
 have hc:∀ (k:Nat) (a:Addr) (m:MO),k≠k0->α[k]?=some a->M[k]?=some m->H' a=H a:=fun k a m ne h1 h2=>by
  obtain ⟨o,eo⟩:=(R.cel k a m h1 h2).1.some
  have n2:a≠P':=fun z=>by
   obtain ⟨hj,ej⟩:=List.getElem?_eq_some_iff.mp h1
   obtain ⟨hk,ek⟩:=List.getElem?_eq_some_iff.mp eP
   rw [<- ej,<- ek] at z
   exact ne ((List.getElem_inj R.nd).mp z)
  exact (g a o (hα a (List.mem_of_getElem? h1)) n2 eo).trans eo.symm
 refine ⟨_,s,⟨R.ai.trans s,R.aa,fun b o e=>?_,R.len,R.nd,fun k a m h1 h2=>?_⟩,fun b o e hb=>?_⟩
 ·have e':(if b∈α then none else H' b)=some o:=e
  split at e'
  ·cases e'
  ·exact e'
 ·refine ⟨?_,by show (if a∈α then none else H' a)=none; rw [if_pos (List.mem_of_getElem? h1)]⟩
  by_cases ne:k=k0
  ·subst ne
   rw [eP] at h1
   cases h1
   rw [hk] at h2
   cases h2
   obtain ⟨ps,e1,t1,z⟩:=tb
   refine ⟨rfl,ps,e1,t1,?_⟩
   rcases z with z | ⟨c,z1,z2⟩
   ·exact .inl z
   ·refine .inr ⟨c,z1,?_⟩
    show (if c∈α then none else H' c)=_
    rw [if_neg,z2]
    intro hcα
    obtain ⟨j,hj,ec⟩:=List.getElem_of_mem hcα
    have hj':j < M.length:=by rw [<- R.len]; exact hj
    have h1:=List.getElem?_eq_getElem hj
    have h2:=List.getElem?_eq_getElem hj'
    rw [ec] at h1
    by_cases nj:j=k
    ·subst nj
     rw [eP] at h1
     cases h1
     rw [e1] at z2
     cases z2
    ·have hh:=hc j c _ nj h1 h2
     have mo:=(R.cel j c _ h1 h2).1
     rw [z2] at hh
     cases hm:M[j] with
     | lst ds=>rw [hm] at mo; obtain ⟨vs,e,_⟩:=mo; rw [e] at hh; cases hh
     | dct ds=>rw [hm] at mo; obtain ⟨vs,e,_⟩:=mo; rw [e] at hh; cases hh
     | dcT ds=>rw [hm] at mo; obtain ⟨vs,e,_⟩:=mo; rw [e] at hh; cases hh
     | drK ds=>rw [hm] at mo; obtain ⟨vs,e,_⟩:=mo; rcases e with e | ⟨o,e⟩ <;> (rw [e] at hh; cases hh)
     | drT ds=>rw [hm] at mo; obtain ⟨vs,e,_⟩:=mo; rcases e with e | ⟨o,e⟩ <;> (rw [e] at hh; cases hh)
     | dfT o vs ds=>rw [hm] at mo; rw [mo.1] at hh; cases hh
     | dfK o vs ds=>rw [hm] at mo; rw [mo.1] at hh; cases hh
     | ins Cl fs=>rw [hm] at mo; obtain ⟨dx,vs,e,_⟩:=mo; rw [e] at hh; cases hh
     | hand=>rw [hm] at mo; obtain ⟨d,k,c,cs,e,_⟩:=mo; rw [e] at hh; cases hh
     | tab P pos q=>rw [hm] at mo; obtain ⟨_,ps,e,_⟩:=mo; rw [e] at hh; cases hh
  ·exact (R.cel k a m h1 h2).1.mono s (List.prefix_refl _) (hc k a m ne h1 h2)
 ·show (if b∈α then none else H' b)=some o
  rw [if_neg hb]
  exact e
def spInitN (C Pt:Addr) (pos:Pos) (q:Str):Sp:=fun vs H Q _=>∃ x a dx L,vs=[.ref x,.ref a]/\H x=some (.ins C dx [])/\TableAt H a L/\Free L/\Fits L/\TabOk Pt pos q H /\
 ∀ (H':Hp) (S:List Pr),S.Perm L->RisingW S->(∃ dx tp d1 d2 d3 d4,H' x=some (.ins C dx [("pairs",.ref tp),("words_by_sign",.ref d1),("signs_by_word",.ref d2),("begun",.ref d3),("word_sizes",.ref d4)])/\CodeIn H' tp d1 d2 d3 d4 S/\H d1=none/\H d2=none/\H d3=none)->TabOk Pt pos q H' ->
  (∀ b o,b≠x->b≠Pt->H b=some o->H' b=some o)->Q .non H'
def uMkCode (Pt:Addr) (pos:Pos) (q:Str) (u:TA3):TE3:=fun ρ M K=>u ρ M fun ds M1=>∃ (k0:Nat) (d:D) (L:List Pr),M1[k0]?=some (.tab Pt pos q)/\ds=[d]/\lsOf M1 d=some (L.map pD)/\(Free L/\Fits L)/\∀ S:List Pr,S.Perm L->RisingW S->K (.code S) M1
def s_mkCode {Pt:Addr} {pos:Pos} {q:Str} (hr:SimA C Z t u):SimE C Z (tMake C.c (spInitN C.c Pt pos q) [] E0 t) (uMkCode Pt pos q u):=fun I α σ H ρ M K Q R E h k =>
 hr I α σ H ρ M _ _ R E h fun vs ds I1 α1 H1 M1 s1 p1 R1 r1 h1=>by
  obtain ⟨k0,d,L,hk,rfl,e1,⟨fr,fi⟩,h1⟩:=h1
  intro x dx nx ndx ne
  cases r1 with
  | cons r1 r2 =>
   cases r2
   obtain ⟨a,vs,rfl,ea,ra⟩:=ls_at R1 r1 e1
   obtain ⟨P',eP,⟨eqP,ps,ep,tp,cp⟩,iP⟩:=R1.get hk
   subst eqP
   have sH:Same H1 (upd (upd H1 dx (.own x)) x (.ins C.c dx [])):=(same_upd ndx).trans (same_upd (by rw [upd_ne (Ne.symm ne)]; exact nx))
   have ta1:TableAt H1 a L:=⟨vs,ea,of_reps (F:=PairV H1) (f:=pD) (fun v a z=>p_rep R1.sub z) ra⟩
   have tb1:TabOk P' pos q H1:=⟨ps,ep,tp,by
    rcases cp with z | ⟨c,z1,z2⟩
    ·exact .inl z
    ·exact .inr ⟨c,z1,R1.sub _ _ z2⟩⟩
   refine ⟨x,a,dx,L,rfl,upd_same,ta1.same sH,fr,fi,tb1.same sH,fun H' S pm ri ca tb g=>⟨rfl,?_⟩⟩
   obtain ⟨I',s',R',f⟩:=R1.made hk nx tb fun b o n1 n2 e=>g b o n1 n2 (sH b o e)
   have xα:x∉α1:=R1.out nx
   obtain ⟨dx',tp',d1,d2,d3,d4,ex,⟨⟨vs',a1,a2⟩,⟨k1,b1,b2⟩,⟨k2,c1,c2⟩,⟨k3,f1,f2⟩,⟨k4,g1,g2⟩⟩,n1,n2,n3⟩:=ca
   have tupI:∀ b xs,H' b=some (.tup xs)->I' b=some (.tup xs):=fun b xs e=>f b _ e (R'.tupOut e)
   have no:∀ b o,H' b=some o->(upd (upd H1 dx (.own x)) x (.ins C.c dx [])) b=none->I' b=some o:=fun b o e n=>f b o e (R1.out (sH.free n))
   refine k _ _ I' α1 H' M1 (s1.trans s') p1 R' (.code ⟨dx',tp',d1,d2,d3,d4,f _ _ ex xα,⟨vs',tupI _ _ a1,Paired.mapP a2 fun v p z=>?_⟩,⟨k1,no _ _ b1 n1,fun p hp=>?_,b2.2⟩,⟨k2,no _ _ c1 n2,c2⟩,⟨k3,no _ _ f1 n3,f2⟩,⟨k4,tupI _ _ g1,g2⟩⟩) (h1 S pm ri)
   ·obtain ⟨t,tw,e1,e2,e3⟩:=z
    exact ⟨t,tw,e1,tupI _ _ e2,tupI _ _ e3⟩
   ·obtain ⟨t,u1,u2⟩:=b2.1 p hp
    exact ⟨t,u1,tupI _ _ u2⟩
end
def frzOf:MO->Option D
 | .lst xs=>some (.lst xs)
 | .dct kvs=>some (.dct kvs)
 | .dcT kvs=>some (.dcT kvs)
 | _=>none
def frzK (n0:Nat) (K:K3):K3:=fun d M'=>∃ m d',d=.cell n0/\M'.length=n0 + 1/\M'[n0]?=some m/\frzOf m=some d'/\(∀ m∈M',BelowM n0 m)/\K d' (M'.take n0)
theorem frz_rep {C:Cf} {I:Hp} {α:List Addr} {H:Hp} {a:Addr} {m:MO} {d:D} (h:MoAt C I α H a m) (e:frzOf m=some d) (ia:I a=none):∃ o,H a=some o/\Rep C (upd I a o) α (.ref a) d:=by
 have pr:=List.prefix_refl α
 cases m with
 | lst ds=>cases e; obtain ⟨vs,e,r⟩:=h; exact ⟨_,e,.lst upd_same (r.mono (same_upd ia) pr)⟩
 | dct ds=>cases e; obtain ⟨vs,e,r⟩:=h; exact ⟨_,e,.dct upd_same (r.mono (same_upd ia) pr)⟩
 | dcT ds=>cases e; obtain ⟨vs,e,r⟩:=h; exact ⟨_,e,.dcT upd_same (r.mono (same_upd ia) pr)⟩
 | _=>cases e
theorem Fin.frz {C:Cf} {Z:Anc} {I:Hp} {α:List Addr} {K:K3} {Q:VK} (k:Fin C Z I α K Q) {n0:Nat} (hn:α.length=n0) (ha:Z.a<+:α):Fin C Z I α (frzK n0 K) Q:=fun v d I' α' H' M' s p R r h=>by
 obtain ⟨m,d',rfl,hl,e,ed,hm,h⟩:=h
 cases r with
 | @cell a _ ec =>
  obtain ⟨mo,ia⟩:=R.cel n0 a _ ec e
  have mo':=hm m (List.mem_of_getElem? e) _ _ _ _ _ mo
  obtain ⟨o,ea,ra⟩:=frz_rep mo' ed ia
  have R1:=R.take n0 (by have:=ha.length_le; omega) fun x hx=>hm x (List.mem_of_mem_take hx)
  have an:a∉α'.take n0:=fun ha=>by
   obtain ⟨j,hj,ej⟩:=List.getElem_of_mem ha
   rw [List.length_take] at hj
   rw [List.getElem_take] at ej
   obtain ⟨hn0,en⟩:=List.getElem?_eq_some_iff.mp ec
   rw [<- en] at ej
   have:=(List.getElem_inj R.nd).mp ej
   omega
  have s2:Same I' (upd I' a o):=same_upd ia
  have R2:Rel C Z (upd I' a o) (α'.take n0) H' (M'.take n0):=by
   refine ⟨R1.ai.trans s2,R1.aa,fun b u eb=>?_,R1.len,R1.nd,fun k b m h1 h2=>?_⟩
   ·by_cases z:b=a
    ·subst z; rw [upd_same] at eb; cases eb; exact ea
    ·rw [upd_ne z] at eb; exact R1.sub b u eb
   ·obtain ⟨a1,a2⟩:=R1.cel k b m h1 h2
    have ne:b≠a:=fun z=>an (z ▸ List.mem_of_getElem? h1)
    exact ⟨a1.mono s2 (List.prefix_refl _) rfl,by rw [upd_ne ne]; exact a2⟩
  exact k _ _ _ (α'.take n0) H' _ (s.trans s2) (pre_take p (by omega)) R2 ra h
def frz_of {M:Mem} {m:MO} {d:D} {K:K3} (hd:frzOf m=some d) (hm:WfM M) (hx:BelowM M.length m) (h:K d M):frzK M.length K (.cell M.length) (M++[m]) :=
 ⟨m,d,rfl,by simp,by simp,hd,fun x hx'=>by
  rcases List.mem_append.mp hx' with z | z
  ·exact hm x z
  ·rw [List.mem_singleton.mp z]; exact hx,by rw [List.take_left]; exact h⟩
def at_last {M:Mem} {m:MO}:(M++[m])[M.length]?=some m:=by simp
def set_last {M:Mem} {m m':MO}:(M++[m]).set M.length m'=M++[m']:=by simp
section
variable {C:Cf} {Z:Anc}
def lsI_at {I:Hp} {α:List Addr} {H:Hp} {M:Mem} {v:V} {d:D} {ns:List Int} (R:Rel C Z I α H M) (r:Rep C I α v d) (h:lsOf M d=some (ns.map .int)):∃ a,v=.ref a/\H a=some (.lst (ns.map V.int)):=by
 obtain ⟨a,vs,rfl,ea,ra⟩:=ls_at R r h
 rw [ra.of_ints ns] at ea
 exact ⟨a,rfl,ea⟩
end
def bk_all {X:Cx} {K:W.Frag} (h:X.K=K) (hc:X.calm=true):CallR X (.builtin "all") (fun xs H Q=>∃ (p:Addr) (bs:List Bool),xs=[.ref p]/\SqL K H p (bs.map V.bl)/\Q (.bl (bs.all id)) H):=by subst h; exact call_all hc
def item_int {ns:List Int} {i:Nat} {x:D} (h:(ns.map D.int)[i]?=some x):∃ hi:i < ns.length,x=.int ns[i]:=by
 obtain ⟨hi,e⟩:=List.getElem?_eq_some_iff.mp h
 rw [List.length_map] at hi
 refine ⟨hi,?_⟩
 rw [<- e,List.getElem_map]
def item_map {τ:Type} {f:τ->D} {as:List τ} {i:Nat} {x:D} (h:(as.map f)[i]?=some x):∃ hi:i < as.length,x=f as[i]:=by
 obtain ⟨hi,e⟩:=List.getElem?_eq_some_iff.mp h
 rw [List.length_map] at hi
 exact ⟨hi,by rw [<- e,List.getElem_map]⟩
def atI_map {τ:Type} {f:τ->D} {as:List τ} {i:Int} {j:Nat} (h:i=j) (hj:j < as.length):L2.atI (as.map f) i=some (f as[j]):=by
 subst h
 exact atI_nat (by rw [List.getElem?_map,List.getElem?_eq_getElem hj]; rfl)
def ls_last {M:Mem} {xs:List D}:lsOf (M++[.lst xs]) (.cell M.length)=some xs:=by simp [lsOf]
def lst_last {M:Mem} {xs:List D}:lstOf (M++[.lst xs]) (.cell M.length)=some xs:=by simp [lstOf]
def ls_some {M:Mem} {d:D} {xs:List D} (h:lsOf M d=some xs):lsOf M d≠none:=by rw [h]; exact fun z=>nomatch z
def dk_drop {M M':Mem} {d:D} {K:K3} (p:M<+:M') (hM:WfM M) (hb:Below M.length d) (h:K d M):Dk M.length K d M':=by
 obtain ⟨t,rfl⟩:=p
 exact .inr ⟨M.length,Nat.le_refl _,hb,by rw [List.take_left]; exact hM,by rw [List.take_left]; exact h⟩
def pre1 {M:Mem} {a:List MO}:M<+:M++a:=List.prefix_append _ _
end L3
namespace L3
def g_nx {i:Nat} {d:D} {ρ:Ev} {M:Mem} {K:Ev->Mem->Prop} (h:K (ρ.set i (some d)) M):uG i d ρ M K:=h
end L3
namespace L3
open PySem L2
section
variable {C:Cf}
def CalE.imp {P:Program} {w:World} {K:W.Frag} {mg:Str->Option Value} {base:Heap} {x:Str} {k:Nat} {ps:List Str} {sp sp':Sp} (c:CalE P w K mg base x k ps sp) (h:∀ vs H Q E,sp' vs H Q E->sp vs H Q E):CalE P w K mg base x k ps sp' :=
 let ⟨f,fd,a,b⟩:=c
 ⟨f,fd,a.imp h,b⟩
abbrev TH3:=Addr->List (Str×D)->TS3
theorem RepF.lookup {I:Hp} {α:List Addr} {f:Str}:∀ {vs:List (Str×V)} {ds:List (Str×D)} {d:D},RepF C I α vs ds->ds.lookup f=some d->∃ v,vs.lookup f=some v/\Rep C I α v d
 | _,_,_,.nil,h=>by cases h
 | _,_,d,.cons (k:=k) (v:=v) (d:=d') a b,h=>by
  rw [List.lookup_cons] at h ⊢
  cases e:(f == k) with
  | true=>rw [e] at h; cases h; exact ⟨v,rfl,a⟩
  | false=>rw [e] at h; exact RepF.lookup b h
end
def wordsD (kd:List (Key×D)) (S:List Pr):Prop:=(∀ p∈S,valD kd (.inl p.1)=some (wD p.2))/\∀ s:Int,(∀ p∈S,p.1≠s)->valD kd (.inl s)=none
def wordsD.perm {kd:List (Key×D)} {S L:List Pr} (h:wordsD kd L) (p:S.Perm L):wordsD kd S:=⟨fun q hq=>h.1 q (p.mem_iff.mp hq),fun s hs=>h.2 s fun q hq=>hs q (p.mem_iff.mpr hq)⟩
def prK (p:Pr):Key×D:=(.inl p.1,wD p.2)
section
variable {C:Cf} {Z:Anc}
def osOf (R:List En):List (Option Int):=R.map fun e=>e.2
def dFrom:Sp3:=fun ds M K=>∃ (L:List Pr) (d:D) (ns:List Int) (pl:Nat),ds=[.lst (L.map pD),d,.int pl]/\lsOf M d=some (ns.map .int)/\(L.length < 64/\pl<=ns.length) /\
 (∀ p∈L,p.2<+:ns.drop pl->K (.tup [.int p.1,.int ((pl + p.2.length:Nat):Int)]) M)/\((∀ p∈L,¬ p.2<+:ns.drop pl)->K .non M)
theorem a_from {vs:List V} {H:Hp} {Q:VK} {E:XK} (h:spOf C dFrom vs H Q E):spFrom vs H Q E:=by
 obtain ⟨Z,I,α,M,ds,K,R,r,⟨L,d,ns,pl,rfl,e1,⟨h1,h3⟩,ha,hb⟩,kk⟩:=h
 cases r with
 | cons r1 r2 =>
  cases r2 with
  | cons r2 r3 =>
   cases r3 with
   | cons r3 r4 =>
    cases r4
    cases r3
    obtain ⟨ta,_,rfl,_,ht⟩:=table_at R r1
    obtain ⟨xa,rfl,ex⟩:=lsI_at R r2 e1
    refine ⟨ta,xa,L,ns,pl,rfl,ht,h1,ex,h3,fun p hp hw t H' s et=>?_,fun hn H' s=>kk _ _ I α H' M (.refl _) (List.prefix_refl _) (R.same s) .non (hb hn)⟩
    obtain ⟨I',s',R',fl⟩:=(R.same s).full
    exact kk _ _ I' α H' M s' (List.prefix_refl _) R' (.tup (fl _ _ et ((R.same s).tupOut et)) (.cons (.int _) (.one (.int _)))) (ha p hp hw)
end
def st_by {u u':TS3} {En:Ends3} {ρ:Ev} {M:Mem} (S:Ev->Mem->Prop) (h1:∀ Kn:Ev->Mem->Prop,(∀ ρ' M',S ρ' M'->Kn ρ' M')->u { En with nx:=Kn } ρ M) (h2:∀ ρ' M',S ρ' M'->u' En ρ' M'):uSeq u u' En ρ M:=h1 _ h2
theorem ls_more {M:Mem} {d:D} {xs:List D} {m:MO} (h:lsOf M d=some xs):lsOf (M++[m]) d=some xs:=by
 cases d with
 | lst ys=>exact h
 | cell k =>
  simp only [lsOf] at h ⊢
  by_cases hk:k < M.length
  ·rw [List.getElem?_append_left hk]; exact h
  ·rw [List.getElem?_eq_none (Nat.le_of_not_lt hk)] at h
   exact nomatch h
 | _=>exact nomatch h
def hit (ns:List Int) (pl:Nat) (p:Pr):Bool:=decide ((ns.drop pl).take p.2.length=p.2)
def cstep (L:List Pr) (ns:List Int) (c:List Int) (j:Nat):Int:=((L.filter (hit ns (ns.length - 1 - j))).map fun p=>(c[p.2.length - 1]?).getD 0).sum
def tailC (L:List Pr) (ns:List Int):Nat->List Int
 | 0=>[1]
 | j + 1=>cstep L ns (tailC L ns j) j::tailC L ns j
end L3
namespace L2
open PySem PySem.Spec PyProof.Rows
def oddAt (L:List Pr) (i j:Nat):V:=((L[i]?).bind fun p=>(L[j]?).map fun q=>oddsV p q).getD .non
def odd_at {L:List Pr} {i j:Nat} (hi:i < L.length) (hj:j < L.length):oddAt L i j=oddsV L[i] L[j]:=by
 unfold oddAt
 rw [List.getElem?_eq_getElem hi,List.getElem?_eq_getElem hj]
 rfl
def FirstOdd (L:List Pr) (o:Str) (i j:Nat):Prop:=i < j/\j < L.length/\oddAt L i j=.str o/\∀ i' j',i' < j'->j' < L.length->(j' < j\/j'=j/\i' < i)->oddAt L i' j'=.non
def odds_cases (p q:Pr):oddsV p q=.str (Str.ofString "twice")\/oddsV p q=.str (Str.ofString "begins")\/oddsV p q=.non:=by
 unfold oddsV
 by_cases h:p.1=q.1
 ·rw [if_pos h]; exact .inl rfl
 ·rw [if_neg h]
  split
  ·exact .inr (.inl rfl)
  ·exact .inr (.inr rfl)
def FirstOdd.word {L:List Pr} {o:Str} {i j:Nat} (h:FirstOdd L o i j):o=Str.ofString "twice"\/o=Str.ofString "begins":=by
 obtain ⟨a,b,c,_⟩:=h
 rw [odd_at (Nat.lt_trans a b) b] at c
 rcases odds_cases L[i] L[j] with e | e | e
 ·rw [e] at c; cases c; exact .inl rfl
 ·rw [e] at c; cases c; exact .inr rfl
 ·rw [e] at c; cases c
end L2
namespace L3
open PySem L2
section
variable {C:Cf} {I:Hp} {α:List Addr} {H:Hp}
def Wk:MO->MO->Prop
 | .dcT a,.drT b=>a=b
 | .dfT _ _ a,.drT b=>a=b
 | .dct a,.drK b=>a=b
 | _,_=>False
theorem Wk.at {a:Addr} {m m':MO} (w:Wk m m') (h:MoAt C I α H a m):MoAt C I α H a m':=by
 cases m with
 | dcT x=>cases m' with | drT y=>cases w; obtain ⟨vs,e,r⟩:=h; exact ⟨vs,.inl e,r⟩ | _=>exact w.elim
 | dfT o vs x=>cases m' with | drT y=>cases w; exact ⟨vs,.inr ⟨o,h.1⟩,h.2⟩ | _=>exact w.elim
 | dct x=>cases m' with | drK y=>cases w; obtain ⟨vs,e,r⟩:=h; exact ⟨vs,.inl e,r⟩ | _=>exact w.elim
 | _=>cases m' <;> exact w.elim
end
section
variable {C:Cf}
theorem RepT.get {I:Hp} {α:List Addr}:∀ {vs:List (List Key×V)} {ds:List (List Key×D)},RepT C I α vs ds->vs.length=ds.length/\∀ i:Nat,(vs[i]?).map (·.1)=(ds[i]?).map (·.1)
 | _,_,.nil=>⟨rfl,fun _=>rfl⟩
 | _,_,.cons h r=>by
  obtain ⟨a,b⟩:=RepT.get r
  refine ⟨by rw [List.length_cons,List.length_cons,a],fun i=>?_⟩
  cases i with
  | zero=>rfl
  | succ i=>simpa using b i
end
def dNo:Sp3:=fun _ _ _=>False
def FnOk.no {P:Program} {w:World} {K:W.Frag} {mg:Str->Option Value} {base:Heap} {CX:CXT} {k:Nat} {f:Addr} {fd:FuncData} {ps:List Str} {C:Cf}:FnOk P w K mg base CX k f fd ps (spOf C dNo) :=
 ⟨fun vs H Q E h=>by obtain ⟨Z,I,α,M,ds,K,R,r,h,_⟩:=h; exact h.elim,fun A outer s H args us vs Q E hr e b v h=>by obtain ⟨Z,I,α,M,ds,K,R,r,h,_⟩:=h; exact h.elim⟩
section
variable {C:Cf} {Z:Anc}
abbrev Live (S:List Pr) (ns:List Int):Prop:=∃ w∈S.map (fun q:Pr=>q.2),ns<+:w/\ns.length < w.length
def Live.perm {S L:List Pr} {ns:List Int} (h:Live S ns) (p:S.Perm L):Live L ns:=by
 obtain ⟨w,hw,r⟩:=h
 exact ⟨w,(p.map _).mem_iff.mp hw,r⟩
def dWord:Sp3:=fun ds M K=>∃ (S:List Pr) (s:Int),ds=[.code S,.int s]/\(∀ p∈S,p.1=s->K (wD p.2) M)/\((∀ p∈S,p.1≠s)->K .non M)
theorem a_word {vs:List V} {H:Hp} {Q:VK} {E:XK} (h:spOf C dWord vs H Q E):spWord C.c vs H Q E:=by
 obtain ⟨Z,I,α,M,ds,K,R,r,⟨S,s,rfl,h1,h2⟩,kk⟩:=h
 cases r with
 | cons r1 r2 =>
  cases r2 with
  | cons r2 r3 =>
   cases r3
   cases r2
   cases r1 with
   | code hc =>
    refine ⟨_,S,s,rfl,hc.same R.sub,fun p hp e t et=>?_,fun hn=>kk _ _ I α H M (.refl _) (List.prefix_refl _) R .non (h2 hn)⟩
    obtain ⟨I2,s2,R2,f⟩:=R.full
    exact kk _ _ I2 α H M s2 (List.prefix_refl _) R2 (.tup (f _ _ et (R.tupOut et)) (.ints _)) (h1 p hp e)
end
def Cert (S:List Pr) (ns:List Int) (os:List (Option Int)) (pl:Nat):Prop:=∃ (R:List En) (j:Nat),Told S ns R/\os=osOf (R.take j)/\Went S ns (R.take j) pl/\(∀ i,i < j->∀ p,R[i]?=some (p,none)->¬ Live S (ns.drop p)) /\
 ((R.length<=j/\pl=ns.length)\/(R[j]?=some (pl,none)/\Live S (ns.drop pl)))
def Cert.rest {S:List Pr} {ns:List Int} {os:List (Option Int)} {pl:Nat} (h:Cert S ns os pl):ns.drop pl=[]\/Live S (ns.drop pl):=by
 obtain ⟨R,j,_,_,w,_,z⟩:=h
 rcases z with ⟨_,rfl⟩ | ⟨_,z⟩
 ·exact .inl (List.drop_length ..)
 ·exact .inr z
theorem ls_ty {M:Mem} {d:D} {xs:List D} (h:lsOf M d=some xs):tyOf M d=some .list/\lstOf M d=some xs/\seqOf M d=some xs:=by
 cases d with
 | lst ys=>cases h; exact ⟨rfl,rfl,rfl⟩
 | cell k =>
  simp only [lsOf] at h
  cases hm:M[k]? with
  | none=>rw [hm] at h; cases h
  | some m =>
   rw [hm] at h
   cases m with
   | lst es=>cases h; exact ⟨by simp only [tyOf,hm],by simp only [lstOf,hm],by simp only [seqOf,lstOf,hm]⟩
   | _=>cases h
 | _=>cases h
def cut_fromN {τ:Type} {ns:List τ} {pl:Nat} (h:pl<=ns.length):cut ns (some (pl:Int)) none=ns.drop pl:=by
 unfold cut
 rw [HT.sIx_nat,Nat.min_eq_left h]
 show (ns.drop pl).take (ns.length - pl)=_
 rw [List.take_of_length_le]
 rw [List.length_drop]
 exact Nat.le_refl _
theorem sl_ls {M:Mem} {d:D} {xs:List D} {lo hi:Option Int} {K:K3} (h:lsOf M d=some xs) (hk:K (.lst (cut xs lo hi)) M):sl3 d lo hi M K:=by
 cases d with
 | lst ys=>cases h; exact ⟨_,rfl,hk⟩
 | cell k=>exact ⟨_,(ls_ty h).2.1,hk⟩
 | _=>cases h
theorem add_ls {M:Mem} {d e:D} {xs ys:List D} {K:K3} (h1:lsOf M d=some xs) (h2:lsOf M e=some ys) (hl:xs.length + ys.length<=sizeLine) (hk:K (.lst (xs++ys)) M):add3 d e M K:=by
 cases d with
 | lst zs=>exact ⟨_,_,h1,h2,hl,hk⟩
 | cell k=>exact ⟨_,_,h1,h2,hl,hk⟩
 | _=>cases h1
theorem len_ls {M:Mem} {d:D} {xs:List D} {K:K3} (h:lsOf M d=some xs) (hk:K (.int xs.length) M):len3 [d] M K:=by
 cases d with
 | lst zs=>exact ⟨_,(ls_ty h).2.2,hk⟩
 | cell k=>exact ⟨_,(ls_ty h).2.2,hk⟩
 | _=>cases h
def get_more {M:Mem} {m m':MO} {r:Nat} (h:M[r]?=some m):(M++[m'])[r]?=some m:=by
 rw [List.getElem?_append_left (List.getElem?_eq_some_iff.mp h).1]
 exact h
end L3
namespace L2
open PySem
def spCTable (C:Addr):Sp:=fun vs H Q _=>∃ (x:Addr) (S:List Pr),vs=[.ref x]/\CodeAt C H x S/\∀ l us,H l=none->Prs H us S->Q (.ref l) (upd H l (.lst us))
end L2
namespace L3
open PySem L2
section
variable {C:Cf} {Z:Anc}
def dCTable:Sp3:=fun ds M K=>∃ (S:List Pr),ds=[.code S]/\K (.lst (S.map pD)) M
theorem a_ctable {vs:List V} {H:Hp} {Q:VK} {E:XK} (h:spOf C dCTable vs H Q E):spCTable C.c vs H Q E:=by
 obtain ⟨Z,I,α,M,ds,K,R,r,⟨S,rfl,h⟩,kk⟩:=h
 cases r with
 | cons r1 r2 =>
  cases r2
  cases r1 with
  | code hc =>
   refine ⟨_,S,rfl,hc.same R.sub,fun l us hl ps=>?_⟩
   obtain ⟨R2,s2,e2⟩:=R.new (o:=.lst us) hl
   obtain ⟨I3,s3,R3,f⟩:=R2.full
   exact kk _ _ I3 α _ M (s2.trans s3) (List.prefix_refl _) R3 (.lst (s3 _ _ e2) (reps_map (fun v a z=>rep_p (fun b xs e=>f _ _ ((same_upd hl) _ _ e) (R.tupOut e)) z) ps)) h
end
def Cert.perm {S L:List Pr} {ns:List Int} {os:List (Option Int)} {pl:Nat} (h:Cert S ns os pl) (p:S.Perm L):Cert L ns os pl:=by
 obtain ⟨R,j,t,e,w,no,z⟩:=h
 refine ⟨R,j,t.perm p,e,w.perm p,fun i hi q hq l=>no i hi q hq (Live.perm l p.symm),?_⟩
 rcases z with z | ⟨z1,z2⟩
 ·exact .inl z
 ·exact .inr ⟨z1,Live.perm z2 p⟩
def Live.more {S:List Pr} {ws:List Int} (fr:Free S) (h:Live S ws) {q:Pr} (hq:q∈S) (pre:ws<+:q.2):ws.length < q.2.length:=by
 obtain ⟨w,hw,p1,l⟩:=h
 obtain ⟨p,hp,rfl⟩:=List.mem_map.mp hw
 rcases Nat.lt_or_ge ws.length q.2.length with z | z
 ·exact z
 ·have e:ws=q.2:=pre.eq_of_length_le z
  have:q=p:=free_eq fr hq hp (l:=p.2) (by rw [<- e]; exact p1) (List.prefix_refl _)
  subst this
  exact l
theorem Live.no {S:List Pr} {ws:List Int} (fr:Free S) (h:Live S ws):∀ q∈S,¬ q.2<+:ws:=fun q hq pre=>by
 obtain ⟨w,hw,p1,l⟩:=h
 obtain ⟨p,hp,rfl⟩:=List.mem_map.mp hw
 have:q=p:=free_eq fr hq hp (l:=p.2) (pre.trans p1) (List.prefix_refl _)
 subst this
 have:=pre.length_le
 omega
theorem cut_toG {τ:Type} {ns:List τ} {pl:Nat}:cut ns none (some (pl:Int))=ns.take pl:=by
 unfold cut
 rw [HT.sIx_nat]
 show (ns.drop 0).take (min pl ns.length - 0)=_
 rw [Nat.sub_zero,List.drop_zero,List.take_eq_take_iff]
 omega
theorem cut_fromG {τ:Type} {ns:List τ} {pl:Nat}:cut ns (some (pl:Int)) none=ns.drop pl:=by
 by_cases h:pl<=ns.length
 ·exact cut_fromN h
 ·unfold cut
  rw [HT.sIx_nat,Nat.min_eq_right (by omega),List.drop_length,List.drop_of_length_le (by omega),List.take_nil]
def ls_at_ {N:Mem} {xs:List D} {t:Nat} (h:N[t]?=some (.lst xs)):lsOf N (.cell t)=some xs:=by simp only [lsOf,h]
theorem Live.drop {S:List Pr} {a b:List Int} (h:Live S (a++b)):Live S a:=by
 obtain ⟨w,hw,p,l⟩:=h
 exact ⟨w,hw,(List.prefix_append _ _).trans p,by rw [List.length_append] at l; omega⟩
def R0:Mem->D->Option Int->Prop:=fun _ d o=>d=oD o
def pre_get_ {M N:Mem} {m:MO} {r:Nat} (p:M<+:N) (h:M[r]?=some m):N[r]?=some m:=by
 obtain ⟨X,rfl⟩:=p
 rw [List.getElem?_append_left (List.getElem?_eq_some_iff.mp h).1]
 exact h
def encPD:Enc Pr:=encPr encInt (encTup encInt)
end L3
namespace L2
open PySem
def RowAt (H:Hp) (r:Addr) (ns:List Int):Prop:=H r=some (.lst (ns.map V.int))\/H r=some (.tup (ns.map V.int))
def RowAt.same {H H':Hp} {r:Addr} {ns:List Int} (h:RowAt H r ns) (s:Same H H'):RowAt H' r ns:=h.imp (s _ _) (s _ _)
end L2
namespace L3
open PySem L2
abbrev Fq:=Str×List Pr×List Int
def famD (f:Nat):List (Str×D):=[("codes_by_name",.cell (f + 1)),("marks_by_name",.cell (f + 2))]
def codesD (zs:List Fq):List (Key×D):=zs.map fun z=>(.inr z.1,.code z.2.1)
def marksD (zs:List Fq):List (Key×D):=zs.map fun z=>(.inr z.1,wD z.2.2)
structure FamAt (XF:Addr) (M:Mem) (f:Nat) (zs:List Fq):Prop where
 h0:M[f]?=some (.ins XF (famD f))
 h1:M[f + 1]?=some (.dct (codesD zs))
 h2:M[f + 2]?=some (.dct (marksD zs))
 nd:(zs.map (·.1)).Nodup
def FamAt.pre {XF:Addr} {M N:Mem} {f:Nat} {zs:List Fq} (h:FamAt XF M f zs) (p:M<+:N):FamAt XF N f zs:=⟨pre_get_ p h.h0,pre_get_ p h.h1,pre_get_ p h.h2,h.nd⟩
def NameLen (zs:List Str):Prop:=(∀ z∈zs,z.length≠1)\/∀ z∈zs,z.length≠4
structure SpOk (bs ss:List Int) (qs:List Fq):Prop where
 bnd:bs.Nodup
 b2:2<=bs.length
 b4:bs.length<=4
 br:∀ b∈bs,0<=b/\b < 256
 snd:ss.Nodup
 sl:ss.length=30
 nd:(qs.map (·.1)).Nodup
 ln:qs.length<=8
 nl:∀ q∈qs,q.1.length<=8/\PyData.strOk q.1=true
 fr:∀ q∈qs,Free q.2.1
 fi:∀ q∈qs,Fits q.2.1
 wb:∀ q∈qs,∀ p∈q.2.1,∀ b∈p.2,b∈bs
 ml:∀ q∈qs,q.2.2.length<=4
 mb:∀ q∈qs,∀ b∈q.2.2,b∈bs
 al:NameLen (qs.map (·.1))
 ll:∀ q∈qs,q.2.1.length<=28
def Told1 (z q:Fq):Prop:=z.1=q.1/\z.2.2=q.2.2/\z.2.1.Perm q.2.1/\RisingW z.2.1
theorem ls_pre {M N:Mem} {d:D} {xs:List D} (p:M<+:N) (h:lsOf M d=some xs):lsOf N d=some xs:=by
 cases d with
 | lst ys=>exact h
 | cell c =>
  simp only [lsOf] at h ⊢
  cases hm:M[c]? with
  | none=>rw [hm] at h; cases h
  | some m=>rw [pre_get_ p hm]; rw [hm] at h; exact h
 | _=>cases h
theorem atI_back {τ:Type} {xs:List τ} {j:Nat} (h:j < xs.length):L2.atI xs (-1 - (j:Int))=xs.reverse[j]?:=by
 unfold L2.atI ixN
 rw [if_neg (by omega),if_pos (by omega),List.getElem?_reverse h]
 show xs[(-1 - (j:Int) + (xs.length:Int)).toNat]?=_
 congr 1
 omega
def FitsRow (S:List Pr) (ns:List Int):Prop:=∀ R,Told S ns R->lostOf R=[]
noncomputable def fitB (S:List Pr) (ns:List Int):Bool:=@decide _ (Classical.propDecidable (FitsRow S ns))
noncomputable def fitNames (zs:List Fq) (ns:List Int):List Str:=(zs.filter fun z=>fitB z.2.1 ns).map (·.1)
def RowsOk (M:Mem) (xs:List D):Prop:=∀ x∈xs,∃ ns:List Int,lsOf M x=some (ns.map .int)/\ns.length<=900
def RowsOk.pre {M N:Mem} {xs:List D} (h:RowsOk M xs) (p:M<+:N):RowsOk N xs:=fun x hx=>by
 obtain ⟨ns,e,l⟩:=h x hx
 exact ⟨ns,ls_pre p e,l⟩
def TellsAll (zs qs:List Fq):Prop:=zs.length=qs.length/\∀ (i:Nat) (z q:Fq),zs[i]?=some z->qs[i]?=some q->Told1 z q
def TellsAll.free {zs qs:List Fq} (h:TellsAll zs qs) (ff:∀ q∈qs,Free q.2.1/\Fits q.2.1):∀ z∈zs,Free z.2.1/\Fits z.2.1:=fun z hz=>by
 obtain ⟨i,hi,rfl⟩:=List.getElem_of_mem hz
 have hq:i < qs.length:=by rw [<- h.1]; exact hi
 obtain ⟨_,_,pm,_⟩:=h.2 i _ _ (List.getElem?_eq_getElem hi) (List.getElem?_eq_getElem hq)
 have:=ff _ (List.getElem_mem hq)
 exact ⟨this.1.perm pm,this.2.perm pm⟩
section
variable {C:Cf}
theorem RepK.get {I:Hp} {α:List Addr}:∀ {vs:List (Key×V)} {ds:List (Key×D)},RepK C I α vs ds->vs.length=ds.length/\∀ (i:Nat) (kv:Key×V) (kd:Key×D),vs[i]?=some kv->ds[i]?=some kd->kv.1=kd.1/\Rep C I α kv.2 kd.2
 | _,_,.nil=>⟨rfl,fun i kv kd e=>nomatch e⟩
 | _,_,.cons h r=>by
  obtain ⟨a,b⟩:=RepK.get r
  refine ⟨by rw [List.length_cons,List.length_cons,a],fun i kv kd e1 e2=>?_⟩
  cases i with
  | zero=>cases e1; cases e2; exact ⟨rfl,h⟩
  | succ i=>exact b i kv kd (by simpa using e1) (by simpa using e2)
end
def markB (m ns:List Int):Bool:=decide (0 < m.length) && decide (ns.take m.length=m)
def hitsF (zs:List Fq) (ns:List Int):List Fq:=zs.filter fun z=>markB z.2.2 ns
def topF:List Fq->Nat
 | []=>0
 | z::r=>max z.2.2.length (topF r)
def byMark (zs:List Fq) (ns:List Int):List Str:=((hitsF zs ns).filter fun z=>decide (z.2.2.length=topF (hitsF zs ns))).map (·.1)
def AlikeM (zs qs:List Fq):Prop:=zs.map (fun z=>(z.1,z.2.2))=qs.map fun q=>(q.1,q.2.2)
theorem AlikeM.by {zs qs:List Fq} (h:AlikeM zs qs) (ns:List Int):byMark zs ns=byMark qs ns:=by
 have go:∀ {zs qs:List Fq},AlikeM zs qs->AlikeM (hitsF zs ns) (hitsF qs ns):=by
  intro zs
  induction zs with
  | nil=>intro qs h; cases qs with | nil=>rfl | cons _ _=>cases h
  | cons z zs ih =>
   intro qs h
   cases qs with
   | nil=>cases h
   | cons q qs =>
    unfold AlikeM at h ih ⊢
    rw [List.map_cons,List.map_cons] at h
    injection h with h1 h2
    injection h1 with e1 e2
    have:=ih h2
    unfold hitsF at this ⊢
    rw [List.filter_cons,List.filter_cons,e2]
    split
    ·rw [List.map_cons,List.map_cons,this,e1,e2]
    ·exact this
 have tp:∀ {zs qs:List Fq},AlikeM zs qs->topF zs=topF qs:=by
  intro zs
  induction zs with
  | nil=>intro qs h; cases qs with | nil=>rfl | cons _ _=>cases h
  | cons z zs ih =>
   intro qs h
   cases qs with
   | nil=>cases h
   | cons q qs =>
    unfold AlikeM at h ih
    rw [List.map_cons,List.map_cons] at h
    injection h with h1 h2
    injection h1 with e1 e2
    show max _ _=max _ _
    rw [e2,ih h2]
 have nm:∀ (t:Nat) {zs qs:List Fq},AlikeM zs qs->(zs.filter fun z=>decide (z.2.2.length=t)).map (·.1)=(qs.filter fun z=>decide (z.2.2.length=t)).map (·.1):=by
  intro t zs
  induction zs with
  | nil=>intro qs h; cases qs with | nil=>rfl | cons _ _=>cases h
  | cons z zs ih =>
   intro qs h
   cases qs with
   | nil=>cases h
   | cons q qs =>
    unfold AlikeM at h ih
    rw [List.map_cons,List.map_cons] at h
    injection h with h1 h2
    injection h1 with e1 e2
    have:=ih h2
    rw [List.filter_cons,List.filter_cons,e2]
    split
    ·rw [List.map_cons,List.map_cons,this,e1]
    ·exact this
 unfold byMark
 rw [tp (go h)]
 exact nm _ (go h)
def Texts.perm {S L U:List Pr} {ts:List Int} {i:Nat} (pm:S.Perm L) (h:Texts L U ts i):Texts S U ts i:=⟨fun p hp=>pm.mem_iff.mpr (h.1 p hp),h.2⟩
inductive Why where
 | name | sign (i:Nat)
theorem TellsAll.take {zs qs:List Fq} {i:Nat} (tz:∀ (i:Nat) (z q:Fq),zs[i]?=some z->qs[i]?=some q->Told1 z q) (lz:zs.length=i) (hi:i<=qs.length):TellsAll zs (qs.take i):=by
 refine ⟨by rw [List.length_take]; omega,fun j z q e1 e2=>?_⟩
 have hj:=(List.getElem?_eq_some_iff.mp e1).1
 rw [List.getElem?_take_of_lt (by omega)] at e2
 exact tz j z q e1 e2
section
variable {C:Cf} {Z:Anc}
def sortI3:List D->Mem->K3->Prop:=fun ds M K=>∃ (d:D) (ns:List Int),ds=[d]/\lsOf M d=some (ns.map .int)/\ns.length < 64/\∀ ns':List Int,ns'.Perm ns->ns'.Pairwise (·<=·)->K (.lst (ns'.map .int)) M
theorem s_sortI:SimC C Z (rSortI C.k) sortI3:=fun I α H M xs ds K Q R r h k=>by
 obtain ⟨d,ns,rfl,e,h64,h⟩:=h
 cases r with
 | cons r1 r2 =>
  cases r2
  obtain ⟨a,rfl,ea⟩:=lsI_at R r1 e
  refine ⟨a,ns,rfl,SqL.of ea,h64,fun D ns' hD pm pw=>?_⟩
  obtain ⟨R4,s4,e4⟩:=R.new (o:=.lst (ns'.map V.int)) hD
  exact k _ _ _ α _ M s4 (List.prefix_refl _) R4 (.lst e4 (.ints _)) (h ns' pm pw)
end
def TbOk (L:List Pr):Prop:=Free L/\Fits L
def GoOk (S1 S2:List Pr) (ts ns us:List Int):Prop:=∃ U V:List Pr,(∀ p∈U,p∈S1)/\signsOf U=ts/\(∀ p∈V,p∈S2)/\signsOf V=us/\rowOf U=ns/\rowOf V=ns
def GoOk.symm {S1 S2:List Pr} {ts ns us:List Int} (h:GoOk S1 S2 ts ns us):GoOk S2 S1 us ns ts:=by
 obtain ⟨U,V,a,b,c,d,e,f⟩:=h
 exact ⟨V,U,c,d,a,b,f,e⟩
def GoOk.perm {S1 S2 L1 L2:List Pr} {ts ns us:List Int} (h:GoOk S1 S2 ts ns us) (p1:S1.Perm L1) (p2:S2.Perm L2):GoOk L1 L2 ts ns us:=by
 obtain ⟨U,V,a,b,c,d,e,f⟩:=h
 exact ⟨U,V,fun p hp=>p1.mem_iff.mp (a p hp),b,fun p hp=>p2.mem_iff.mp (c p hp),d,e,f⟩
abbrev Nt:=Str×List Pr
def Tld (zs:List Fq) (qs:List Nt):Prop:=zs.length=qs.length/\∀ (i:Nat) (z:Fq) (q:Nt),zs[i]?=some z->qs[i]?=some q->z.1=q.1/\z.2.1.Perm q.2
def NtOk (qs:List Nt):Prop:=(qs.map (·.1)).Nodup/\qs.length<=8/\∀ q∈qs,TbOk q.2/\PyData.strOk q.1=true
def BookAt (M:Mem) (b:Nat) (qs:List Nt):Prop:=∃ cs:List Nat,cs.length=qs.length/\M[b]?=some (.dct (List.zipWith (fun (q:Nt) (c:Nat)=>((.inr q.1:Key),D.cell c)) qs cs))/\∀ (i c:Nat) (q:Nt),cs[i]?=some c->qs[i]?=some q->M[c]?=some (.dct (q.2.map prK))
def BookAt.pre {M N:Mem} {b:Nat} {qs:List Nt} (h:BookAt M b qs) (p:M<+:N):BookAt N b qs:=by
 obtain ⟨cs,l,e,g⟩:=h
 exact ⟨cs,l,pre_get_ p e,fun i c q e1 e2=>pre_get_ p (g i c q e1 e2)⟩
theorem val_zip {zs:List Nt} {cs:List Nat} (nd:(zs.map (·.1)).Nodup) {i:Nat} {q:Nt} {c:Nat} (e1:zs[i]?=some q) (e2:cs[i]?=some c):valD (List.zipWith (fun (q:Nt) (c:Nat)=>((.inr q.1:Key),D.cell c)) zs cs) (.inr q.1)=some (.cell c):=by
 induction zs generalizing cs i with
 | nil=>cases e1
 | cons z zs ih =>
  cases cs with
  | nil=>cases e2
  | cons d cs =>
   rw [List.map_cons,List.nodup_cons] at nd
   unfold valD
   rw [List.zipWith_cons_cons,List.find?_cons]
   cases i with
   | zero =>
    cases e1
    cases e2
    simp
   | succ i =>
    have e1':zs[i]?=some q:=by simpa using e1
    have ne:z.1≠q.1:=fun e=>nd.1 (List.mem_map.mpr ⟨q,List.mem_of_getElem? e1',e.symm⟩)
    rw [show decide ((Sum.inr z.1:Key)=Sum.inr q.1)=false from decide_eq_false fun w=>ne (Sum.inr.inj w)]
    exact ih nd.2 e1' (by simpa using e2)
theorem BookAt.get {M:Mem} {b:Nat} {qs:List Nt} (h:BookAt M b qs) (nd:(qs.map (·.1)).Nodup) {q:Nt} (hq:q∈qs):∃ c,dGet M (.cell b) (.str q.1) (some (.cell c))/\M[c]?=some (.dct (q.2.map prK)):=by
 obtain ⟨cs,l,e,g⟩:=h
 obtain ⟨i,hi,rfl⟩:=List.getElem_of_mem hq
 have hc:i < cs.length:=by omega
 refine ⟨cs[i],.inl ⟨_,_,by simp only [dctOf,e],rfl,(val_zip nd (List.getElem?_eq_getElem hi) (List.getElem?_eq_getElem hc)).symm⟩,g i _ _ (List.getElem?_eq_getElem hc) (List.getElem?_eq_getElem hi)⟩
def Tld.get {zs:List Fq} {qs:List Nt} (h:Tld zs qs) {q:Nt} (hq:q∈qs):∃ z∈zs,z.1=q.1/\z.2.1.Perm q.2:=by
 obtain ⟨i,hi,rfl⟩:=List.getElem_of_mem hq
 have hz:i < zs.length:=by rw [h.1]; exact hi
 exact ⟨zs[i],List.getElem_mem hz,h.2 i _ _ (List.getElem?_eq_getElem hz) (List.getElem?_eq_getElem hi)⟩
abbrev Lg:=List Pr×List Pr
def wyD (w:Str×Str):D:=.tup [.str w.1,.str w.2]
def Legs (qs:List Nt) (way:List (Str×Str)) (ls:List Lg):Prop:=ls.length=way.length/\∀ (i:Nat) (w:Str×Str) (l:Lg),way[i]?=some w->ls[i]?=some l->(w.1,l.1)∈qs/\(w.2,l.2)∈qs
def TrOk (ls:List Lg) (ts:List Int) (i:Nat) (xs:List (List Int)):Prop:=xs.length=2 * i + 1/\xs[0]?=some ts/\∀ j,j < i->∃ (l:Lg) (a b c:List Int),ls[j]?=some l/\xs[2 * j]?=some a/\xs[2 * j + 1]?=some b/\xs[2 * j + 2]?=some c/\GoOk l.1 l.2 a b c
def LgOk (ls:List Lg):Prop:=∀ l∈ls,TbOk l.1/\TbOk l.2
def TrOk.zero (ls:List Lg) (ts:List Int):TrOk ls ts 0 [ts]:=⟨rfl,rfl,fun j h=>absurd h (Nat.not_lt_zero _)⟩
inductive Wo where
 | at (k:Nat) | to (xs:List (List Int))
def IsWo (ls:List Lg) (ts:List Int):Wo->Prop
 | .at k=>∃ (l:Lg) (xs:List (List Int)) (a:List Int),ls[k]?=some l/\TrOk ls ts k xs/\xs[2 * k]?=some a/\∀ ns us,¬ GoOk l.1 l.2 a ns us
 | .to xs=>TrOk ls ts ls.length xs
abbrev refS:Str:=Str.ofString "refused"
def LegsZ (zs:List Fq) (way:List (Str×Str)) (ls:List Lg):Prop:=ls.length=way.length/\∀ (i:Nat) (w:Str×Str) (l:Lg),way[i]?=some w->ls[i]?=some l->(∃ z∈zs,z.1=w.1/\z.2.1=l.1)/\∃ z∈zs,z.1=w.2/\z.2.1=l.2
def PermL (ls ls':List Lg):Prop:=ls.length=ls'.length/\∀ (i:Nat) (l l':Lg),ls[i]?=some l->ls'[i]?=some l'->l.1.Perm l'.1/\l.2.Perm l'.2
def PermL.get {ls ls':List Lg} (h:PermL ls ls') {i:Nat} {l:Lg} (e:ls[i]?=some l):∃ l',ls'[i]?=some l'/\l.1.Perm l'.1/\l.2.Perm l'.2:=by
 have hi:=(List.getElem?_eq_some_iff.mp e).1
 have hi':i < ls'.length:=by rw [<- h.1]; exact hi
 exact ⟨ls'[i],List.getElem?_eq_getElem hi',h.2 i _ _ e (List.getElem?_eq_getElem hi')⟩
def TrOk.perm {ls ls':List Lg} (h:PermL ls ls') {ts:List Int} {i:Nat} {xs:List (List Int)} (t:TrOk ls ts i xs):TrOk ls' ts i xs:=by
 refine ⟨t.1,t.2.1,fun j hj=>?_⟩
 obtain ⟨l,a,b,c,q1,q2,q3,q4,q5⟩:=t.2.2 j hj
 obtain ⟨l',e,p1,p2⟩:=h.get q1
 exact ⟨l',a,b,c,e,q2,q3,q4,q5.perm p1 p2⟩
theorem IsWo.perm {ls ls':List Lg} (h:PermL ls ls') {ts:List Int} {o:Wo} (t:IsWo ls ts o):IsWo ls' ts o:=by
 cases o with
 | «at» k =>
  obtain ⟨l,xs,a,e,t1,ea,no⟩:=t
  obtain ⟨l',e',p1,p2⟩:=h.get e
  exact ⟨l',xs,a,e',t1.perm h,ea,fun ns us g=>no ns us (g.perm p1.symm p2.symm)⟩
 | to xs =>
  have t:TrOk ls ts ls.length xs:=t
  show TrOk ls' ts ls'.length xs
  rw [<- h.1]
  exact t.perm h
structure Trl (N:Nat) (M:Mem) (t:Nat) (cs:List Nat) (xs:List (List Int)):Prop where
 ht:M[t]?=some (.lst (cs.map .cell))
 ln:cs.length=xs.length
 nd:cs.Nodup
 ge:∀ c∈cs,N<=c/\c≠t
 nt:N<=t
 get:∀ (i c:Nat) (x:List Int),cs[i]?=some c->xs[i]?=some x->M[c]?=some (.lst (x.map .int))
def Trl.pre {N:Nat} {M M':Mem} {t:Nat} {cs:List Nat} {xs:List (List Int)} (h:Trl N M t cs xs) (p:M<+:M'):Trl N M' t cs xs :=
 ⟨pre_get_ p h.ht,h.ln,h.nd,h.ge,h.nt,fun i c x e1 e2=>pre_get_ p (h.get i c x e1 e2)⟩
def WayOk (zs:List Fq) (way:List (Str×Str)) (ts:List Int):Prop:=way.length<=3/\(∀ w∈way,w.1∈zs.map (·.1)/\w.2∈zs.map (·.1))/\(∀ z∈zs,Free z.2.1/\Fits z.2.1)/\ts.length<=300
def LegsZ.ok {zs:List Fq} {way:List (Str×Str)} {ls:List Lg} {ts:List Int} (h:LegsZ zs way ls) (w:WayOk zs way ts):LgOk ls:=fun l hl=>by
 obtain ⟨i,hi,rfl⟩:=List.getElem_of_mem hl
 have hw:i < way.length:=by rw [<- h.1]; exact hi
 obtain ⟨⟨z1,m1,n1,s1⟩,z2,m2,n2,s2⟩:=h.2 i _ _ (List.getElem?_eq_getElem hw) (List.getElem?_eq_getElem hi)
 have g1:=w.2.2.1 z1 m1
 have g2:=w.2.2.1 z2 m2
 rw [s1] at g1
 rw [s2] at g2
 exact ⟨g1,g2⟩
def DueD (M:Mem) (o:Wo) (d:D):Prop:=match o with
 | .at k=>d=.lst [.str refS,.int k]
 | .to xs=>∃ es:List D,d=.lst es/\es.length=xs.length/\∀ (i:Nat) (e:D) (x:List Int),es[i]?=some e->xs[i]?=some x->lsOf M e=some (x.map .int)
theorem DueD.pre {M M':Mem} {o:Wo} {d:D} (h:DueD M o d) (p:M<+:M'):DueD M' o d:=by
 cases o with
 | «at» k=>exact h
 | to xs =>
  obtain ⟨es,e,l,g⟩:=h
  exact ⟨es,e,l,fun i e x e1 e2=>ls_pre p (g i e x e1 e2)⟩
def Legs.ok {qs:List Nt} {way:List (Str×Str)} {ls:List Lg} (h:Legs qs way ls) (w:NtOk qs):LgOk ls:=fun l hl=>by
 obtain ⟨i,hi,rfl⟩:=List.getElem_of_mem hl
 have hw:i < way.length:=by rw [<- h.1]; exact hi
 obtain ⟨g1,g2⟩:=h.2 i _ _ (List.getElem?_eq_getElem hw) (List.getElem?_eq_getElem hi)
 exact ⟨(w.2.2 _ g1).1,(w.2.2 _ g2).1⟩
def bk (ls:List Lg):List Lg:=(ls.map fun l=>(l.2,l.1)).reverse
def bkl_len (ls:List Lg):(bk ls).length=ls.length:=by unfold bk; rw [List.length_reverse,List.length_map]
theorem bk_get {ls:List Lg} {i:Nat} (h:i < ls.length):(bk ls)[i]?=some ((ls[ls.length - 1 - i]'(by omega)).2,(ls[ls.length - 1 - i]'(by omega)).1):=by
 unfold bk
 rw [List.getElem?_reverse (by rw [List.length_map]; exact h),List.length_map,List.getElem?_map,List.getElem?_eq_getElem (by omega)]
 rfl
theorem TrOk.turn {ls:List Lg} {ts us:List Int} {xs:List (List Int)} (h:TrOk ls ts ls.length xs) (e:xs[2 * ls.length]?=some us):TrOk (bk ls) us (bk ls).length xs.reverse/\xs.reverse[2 * (bk ls).length]?=some ts:=by
 have lx:=h.1
 have rv:∀ i,i < xs.length->xs.reverse[i]?=xs[xs.length - 1 - i]?:=fun i hi=>List.getElem?_reverse hi
 rw [bkl_len]
 refine ⟨⟨by rw [List.length_reverse]; exact lx,?_,fun j hj=>?_⟩,?_⟩
 ·rw [rv _ (by omega),show xs.length - 1 - 0=2 * ls.length by omega]
  exact e
 ·obtain ⟨l,a,b,c,q1,q2,q3,q4,q5⟩:=h.2.2 (ls.length - 1 - j) (by omega)
  refine ⟨(l.2,l.1),c,b,a,?_,?_,?_,?_,q5.symm⟩
  ·rw [bk_get hj]
   rw [List.getElem?_eq_getElem (by omega)] at q1
   cases q1
   rfl
  ·rw [rv _ (by omega),show xs.length - 1 - 2 * j=2 * (ls.length - 1 - j) + 2 by omega]
   exact q4
  ·rw [rv _ (by omega),show xs.length - 1 - (2 * j + 1)=2 * (ls.length - 1 - j) + 1 by omega]
   exact q3
  ·rw [rv _ (by omega),show xs.length - 1 - (2 * j + 2)=2 * (ls.length - 1 - j) by omega]
   exact q2
 ·rw [rv _ (by omega),show xs.length - 1 - 2 * ls.length=0 by omega]
  exact h.2.1
def hx (c:Nat):Nat:=if c < 10 then 48 + c else 87 + c
end L3
namespace L3
open PySem L2 PySem.NumText
def isDg (c:Nat):Bool:=decide (48<=c/\c<=57)
def dig:Nat->List Nat->Nat×Nat
 | v,[]=>(0,v)
 | v,c::r=>if isDg c=true/\v≠0/\10 * v + (c - 48)<=1000000000 then ((dig (10 * v + (c - 48)) r).1 + 1,(dig (10 * v + (c - 48)) r).2) else (0,v)
def thing (b:Bool):List Nat->Option (Nat×Option Int)
 | []=>none
 | c::r=>if b=true/\c=63 then some (1,none) else if isDg c=true then some ((dig (c - 48) r).1 + 1,some ((dig (c - 48) r).2:Int)) else none
inductive WkL (b:Bool) (m:Nat):List Nat->List (Option Int)->Nat->Option (List (Option Int))->Nat->Prop
 | bad {l:List Nat} {es:List (Option Int)} {i:Nat} (h:thing b l=none):WkL b m l es i none i
 | fin {l:List Nat} {es:List (Option Int)} {i n:Nat} {o:Option Int} (h:thing b l=some (n,o)) (h2:l.drop n=[]):WkL b m l es i (some (es++[o])) 0
 | stop {l:List Nat} {es:List (Option Int)} {i n c:Nat} {o:Option Int} (h:thing b l=some (n,o)) (h2:(l.drop n)[0]?=some c) (h3:c≠46\/es.length + 1=m):WkL b m l es i none (i + n)
 | go {l:List Nat} {es:List (Option Int)} {i n p:Nat} {o:Option Int} {R:Option (List (Option Int))} (h:thing b l=some (n,o)) (h2:(l.drop n)[0]?=some 46) (h3:es.length + 1≠m) (h4:WkL b m (l.drop (n + 1)) (es++[o]) (i + n + 1) R p):WkL b m l es i R p
def dig_yes {v c:Nat} {r:List Nat} (h:isDg c=true/\v≠0/\10 * v + (c - 48)<=1000000000):dig v (c::r)=((dig (10 * v + (c - 48)) r).1 + 1,(dig (10 * v + (c - 48)) r).2):=by rw [dig,if_pos h]
def hval (c:Nat):Int:=if 48<=c/\c<=57 then (c:Int) - 48 else if 97<=c/\c<=102 then (c:Int) - 87 else -1
def hxs (l:List Nat) (k:Nat):Int:=hval (l.getD k 0)
def Lead (l:List Nat) (h:Nat):Prop:=h<=1600/\h<=l.length/\(∀ k,k < h->0<=hxs l k)/\(h < 1600->h < l.length->hxs l h < 0)
def rowV (l:List Nat) (i:Nat):List Int:=(List.range ((i + 1) / 2)).map fun k=>16 * hxs l (2 * k) + if 2 * k + 1 < i then hxs l (2 * k + 1) else 0
inductive RowL (l:List Nat):Option (List (Option Int))->Nat->Prop
 | da (h:l=[45]):RowL l (some []) 0
 | one (h:l≠[45]) (h2:l[0]?=some 45):RowL l none 1
 | no {h:Nat} (h0:l[0]?≠some 45) (a:Lead l h) (h3:h=0\/h % 2=1\/h < l.length):RowL l none h
 | yes (h0:l[0]?≠some 45) (a:Lead l l.length) (h3:¬ (l.length=0\/l.length % 2=1)):RowL l (some ((rowV l l.length).map some)) 0
structure Begun (b:Bool) (l:List Nat) (i j:Nat):Prop where
 le:i + j<=l.length
 pos:0 < j
 all:AllDigits ((l.drop i).take j)
 vl:digitsVal ((l.drop i).take j)<=1000000000
 zr:(l.drop i)[0]?=some 48↔digitsVal ((l.drop i).take j)=0
 tn:j<=10
 th:thing b (l.drop i)=some (j + (dig (digitsVal ((l.drop i).take j)) (l.drop (i + j))).1,some ((dig (digitsVal ((l.drop i).take j)) (l.drop (i + j))).2:Int))
def WSt (b:Bool) (m:Nat) (l:List Nat):Bool->List (Option Int)->Nat->Prop
 | true,cs,i=>cs.length < m/\∀ R p,WkL b m (l.drop i) cs i R p->WkL b m l [] 0 R p
 | false,cs,i=>∃ (s:Nat) (es:List (Option Int)) (o:Option Int),cs=es++[o]/\s < i/\es.length < m/\(∀ R p,WkL b m (l.drop s) es s R p->WkL b m l [] 0 R p) /\
  ((o=none/\thing b (l.drop s)=some (i - s,none))\/∃ v:Nat,o=some (v:Int)/\thing b (l.drop s)=some (i - s + (dig v (l.drop i)).1,some ((dig v (l.drop i)).2:Int)))
section
variable {b:Bool} {m:Nat} {l:List Nat} {es:List (Option Int)} {i:Nat}
theorem WSt.more {v:Nat} (h:WSt b m l false (es++[some (v:Int)]) i) (hi:i < l.length) (hd:isDg l[i]=true) (h0:v≠0) (hv:10 * v + (l[i] - 48)<=1000000000):WSt b m l false (es++[some ((10 * v + (l[i] - 48):Nat):Int)]) (i + 1):=by
 obtain ⟨s,es',o',e,hs,hl,hw,ht⟩:=h
 obtain ⟨e1,e2⟩:=List.append_inj' e rfl
 subst e1
 cases e2
 refine ⟨s,es,_,rfl,by omega,hl,hw,.inr ⟨_,rfl,?_⟩⟩
 rcases ht with ⟨z,_⟩ | ⟨v',ev,ht⟩
 ·cases z
 ·have ev:v=v':=by have:=Option.some.inj ev; omega
  subst ev
  rw [ht,List.drop_eq_getElem_cons hi,dig_yes ⟨hd,h0,hv⟩,show i + 1 - s=i - s + 1 by omega,Nat.add_assoc,Nat.add_comm 1]
end
end L3
namespace L3
open PySem L2
abbrev Wy:=Str×Str
abbrev Md:=List Wy×List Int
def legsOf (nm:List Str):List Wy:=nm.flatMap fun a=>(nm.filter fun b=>decide (b≠a)).map fun b=>(a,b)
def codeOf (zs:List Fq) (n:Str):List Pr:=((zs.find? fun z=>decide (z.1=n)).map (·.2.1)).getD []
open Classical in
noncomputable def bkO (S1 S2:List Pr) (ts:List Int):Option (List Int):=if h:∃ us ns,GoOk S1 S2 ts ns us then some h.choose else none
noncomputable def led1 (zs:List Fq) (lg:Wy) (m:Md):Option Md:=(bkO (codeOf zs lg.2) (codeOf zs lg.1) m.2).map fun u=>(lg::m.1,u)
noncomputable def ledL (zs:List Fq) (fs:List Md) (lgs:List Wy):List Md:=lgs.flatMap fun lg=>fs.filterMap (led1 zs lg)
noncomputable def ledF (zs:List Fq) (fs:List Md):List Md:=ledL zs fs (legsOf (zs.map (·.1)))
structure MdAt (N:Nat) (M:Mem) (ps:List (Nat×Nat)) (ms:List Md):Prop where
 ln:ps.length=ms.length
 nd:(ps.flatMap fun p=>[p.1,p.2]).Nodup
 ge:∀ p∈ps,N<=p.1/\N<=p.2
 at1:∀ (i:Nat) (p:Nat×Nat) (m:Md),ps[i]?=some p->ms[i]?=some m->M[p.1]?=some (.lst (m.1.map wyD))/\M[p.2]?=some (.lst (m.2.map .int))
def MdAt.nil (N:Nat) (M:Mem):MdAt N M [] []:=⟨rfl,List.nodup_nil,fun _ h=>(nomatch h),fun _ _ _ e=>nomatch e⟩
def MdAt.keep {N t:Nat} {M M':Mem} {ps:List (Nat×Nat)} {ms:List Md} (h:MdAt N M ps ms) (p:M<+:M'):MdAt N M' ps ms :=
 ⟨h.ln,h.nd,h.ge,fun i p' m e1 e2=>⟨pre_get_ p (h.at1 i p' m e1 e2).1,pre_get_ p (h.at1 i p' m e1 e2).2⟩⟩
noncomputable def lev (zs:List Fq) (ts:List Int):Nat->List Md
 | 0=>[([],ts)]
 | k + 1=>ledF zs (lev zs ts k)
noncomputable def mends (zs:List Fq) (ts:List Int):Nat->List Md
 | 0=>[]
 | k + 1=>mends zs ts k++lev zs ts (k + 1)
noncomputable def fwO (zs:List Fq) (lg:Wy) (t:List Int):Option (List Int):=bkO (codeOf zs lg.1) (codeOf zs lg.2) t
noncomputable def bwO (zs:List Fq) (lg:Wy) (t:List Int):Option (List Int):=bkO (codeOf zs lg.2) (codeOf zs lg.1) t
abbrev En3:=List Int×List Wy×List Int
noncomputable def end1 (zs:List Fq) (lgs:List Wy) (t:List Int) (lg:Wy):List En3:=match fwO zs lg t with
 | none=>[]
 | some u=>(t,[lg],u)::lgs.filterMap fun mo=>(fwO zs mo u).map fun v=>(t,[lg,mo],v)
noncomputable def endsOf (zs:List Fq) (lgs:List Wy) (ts:List (List Int)):List En3:=ts.flatMap fun t=>lgs.flatMap fun lg=>end1 zs lgs t lg
def EnIs (c0:Nat) (M:Mem) (e:D) (m:En3):Prop:=∃ t,c0 < t/\e=.tup [.lst (m.1.map .int),.lst (m.2.1.map wyD),.cell t]/\M[t]?=some (.lst (m.2.2.map .int))
def EnAt (c0:Nat) (M:Mem) (es:List D) (ms:List En3):Prop:=es.length=ms.length/\∀ (i:Nat) (e:D) (m:En3),es[i]?=some e->ms[i]?=some m->EnIs c0 M e m
def EnAt.keep {c0:Nat} {M M':Mem} {es:List D} {ms:List En3} (h:EnAt c0 M es ms) (p:M<+:M'):EnAt c0 M' es ms:=⟨h.1,fun i e m a b=>by
 obtain ⟨t,x,y,z⟩:=h.2 i e m a b
 exact ⟨t,x,y,pre_get_ p z⟩⟩
def EdSt (M:Mem) (all ms:List En3) (M':Mem):Prop:=∃ es:List D,M<+:M'/\M.length < M'.length/\M'[M.length]?=some (.lst es)/\EnAt M.length M' es ms/\ms<+:all
theorem EdSt.keep {M:Mem} {all ms:List En3} {M' M2:Mem} (h:EdSt M all ms M') (p:M'<+:M2):EdSt M all ms M2:=by
 obtain ⟨es,a,b,c,d,e⟩:=h
 have lp:=p.length_le
 exact ⟨es,a.trans p,by omega,pre_get_ p c,d.keep p,e⟩
def EdSt.ls {M:Mem} {all ms:List En3} {M':Mem} (h:EdSt M all ms M'):lsOf M' (.cell M.length)≠none:=by
 obtain ⟨es,a,b,c,d,e⟩:=h
 exact ls_some (ls_at_ c)
end L3
namespace L2
open PySem PySem.W PyProof.Rows HT PySem.Calls
section
variable {X:Cx} {pins:List (Addr×Obj)} {σ:St} {H:Hp} {s:Shared} {A:Around}
theorem enc_eqAt {τ:Type} [DecidableEq τ] (N:L3.Enc τ) {x y:V} {u v:Value} {a b:τ} (I:Inv X pins σ H s) (hu:A.units + 100 < cLine) (h1:DV X.K H x (N.py a)) (h2:DV X.K H y (N.py b)) (r1:RelV x u) (r2:RelV y v):SeqAt.EqAt A s u v (decide (a=b)):=by
 obtain ⟨as,ra⟩:=dv_reads I h1 r1
 obtain ⟨bs,rb⟩:=dv_reads I h2 r2
 have:=SeqAt.eqAt_reads _ _ A s _ _ as bs ra rb (N.shp a).1 (N.shp b).1 (by have:=N.hn; have:=(N.shp a).2; have:=Nat.min_le_left (N.py a).depth (N.py b).depth; omega)
 rwa [N.eq] at this
theorem tupI_lt {a b:Addr} {ns ms:List Int} (I:Inv X pins σ H s) (hu:A.units + 100 < cLine) (h1:SqT X.K H a (ns.map V.int)) (h2:SqT X.K H b (ms.map V.int)):SeqAt.EqAt A s (.ref a) (.ref b) (decide (ns=ms))/\LtAt A s (.ref a) (.ref b) (HT.lexLt ns ms):=by
 refine ⟨enc_eqAt (L3.encTup L3.encInt) I hu (.tup h1 (dvs_ints ns)) (.tup h2 (dvs_ints ms)) rfl rfl,?_⟩
 obtain ⟨its,rv,⟨o,e,hc,n,hd⟩,_⟩:=I.tuple h1
 obtain ⟨its2,rv2,⟨o2,e2,hc2,n2,hd2⟩,_⟩:=I.tuple h2
 have i1:=ints_are rv
 have i2:=ints_are rv2
 have:=LtAt.tup (A:=A) (z:=fun j=>(ns[j]? == ms[j]?,decide ((ns[j]?).getD 0 < (ms[j]?).getD 0))) (by omega) e hc hd e2 hc2 hd2 fun j g1 g2=>ints_lt i1 i2 j g1 g2
 rwa [(ints_at i1).1,(ints_at i2).1,lexN_ints] at this
end
end L2
namespace L3
open PySem L2
def rb (a b:List Int):Option (List Int):=if a.take (min a.length b.length)=b.take (min a.length b.length) then some (a.drop (min a.length b.length)++b.drop (min a.length b.length)) else none
inductive Ov (ws:List (List Int)):List Int->Prop where
 | first {i j:Nat} {a b r:List Int}:i < j->ws[i]?=some a->ws[j]?=some b->rb b a=some r->Ov ws r
 | more {r w q:List Int}:Ov ws r->r≠[]->w∈ws->rb r w=some q->Ov ws q
def fr1 (ws:List (List Int)) (j:Nat):List (List Int):=(ws.take j).filterMap (rb (ws[j]?.getD []))
def frs (ws:List (List Int)):Nat->List (List Int)
 | 0=>[]
 | j + 1=>frs ws j++fr1 ws j
theorem frs_mem {ws:List (List Int)} {i j:Nat} {a b r:List Int} (hij:i < j) (h1:ws[i]?=some a) (h2:ws[j]?=some b) (e:rb b a=some r):∀ {n:Nat},j < n->r∈frs ws n
 | 0,h=>absurd h (Nat.not_lt_zero _)
 | n + 1,h=>by
  by_cases hj:j < n
  ·exact List.mem_append_left _ (frs_mem hij h1 h2 e hj)
  ·have:j=n:=by omega
   subst this
   refine List.mem_append_right _ (List.mem_filterMap.mpr ⟨a,?_,by rw [h2]; exact e⟩)
   exact List.mem_of_getElem? (i:=i) (by rw [List.getElem?_take_of_lt hij]; exact h1)
structure OvSt (ws zs ps:List (List Int)):Prop where
 nd:zs.Nodup
 z:∀ z∈zs,Ov ws z
 p:∀ p∈ps,Ov ws p
 f:∀ r∈frs ws ws.length,r∈zs\/r∈ps
 c:∀ z∈zs,z≠[]->∀ w∈ws,∀ q,rb z w=some q->q∈zs\/q∈ps
theorem OvSt.all {ws zs:List (List Int)} (h:OvSt ws zs []) {r:List Int} (o:Ov ws r):r∈zs:=by
 induction o with
 | first hij h1 h2 e =>
  have hj:=(List.getElem?_eq_some_iff.mp h2).1
  exact (h.f _ (frs_mem hij h1 h2 e hj)).elim id fun z=>nomatch z
 | more _ ne hw e ih=>exact (h.c _ ih ne _ hw _ e).elim id fun z=>nomatch z
def cAt (L:List Pr) (ns:List Int) (q:Nat):Int:=((tailC L ns (ns.length - q))[0]?).getD 0
inductive Rdg (L:List Pr):List Int->List Int->Prop where
 | nil:Rdg L [] []
 | cons {p:Pr} {r t:List Int}:p∈L->Rdg L r t->Rdg L (p.2++r) (p.1::t)
abbrev Bg:=List Int×Nat
def sw (x:St4) (p:Pr):Option St4:=(rb x.2.1 p.2).map fun r=>if x.2.1.length < p.2.length then (x.1 + r.length,r,x.2.2.2++[p.1],x.2.2.1) else (x.1,r,x.2.2.1,x.2.2.2++[p.1])
def fss1 (L:List Pr) (j:Nat) (p:Pr):List St4:=(L.take j).filterMap (sw ((p.2.length:Int),p.2,[p.1],[]))
def fss (L:List Pr):Nat->List St4
 | 0=>[]
 | j + 1=>fss L j++fss1 L j (L[j]?.getD (0,[]))
structure StOk (ws zs:List (List Int)) (x:St4):Prop where
 ov:Ov ws x.2.1
 no:x.2.1∉zs
 l1:x.2.2.1.length<=zs.length + 1
 l2:x.2.2.2.length<=zs.length + 1
def turn (L:List Pr):List Pr:=L.map fun p=>(p.1,p.2.reverse)
inductive Pt (L:List Pr):St4->Prop where
 | first {i j:Nat} {p q:Pr} {y:St4}:i < j->L[i]?=some p->L[j]?=some q->sw ((q.2.length:Int),q.2,[q.1],[]) p=some y->Pt L y
 | more {x y:St4} {p:Pr}:Pt L x->x.2.1≠[]->p∈L->sw x p=some y->Pt L y
def Cov (S xs:List St4) (z:St4):Prop:=(∃ s∈S,s.2.1=z.2.1/\s.1<=z.1)\/z∈xs
structure Dj (L:List Pr) (S xs:List St4):Prop where
 s:∀ x∈S,Pt L x/\x.2.1≠[]
 x:∀ x∈xs,Pt L x/\x.2.1∉S.map (·.2.1)
 nd:(S.map (·.2.1)).Nodup
 m:∀ s∈S,∀ x∈xs,s.1<=x.1
 a:∀ z∈fss L L.length,Cov S xs z
 b:∀ s∈S,∀ p∈L,∀ f,sw s p=some f->Cov S xs f
structure Rs (L:List Pr) (ns:List Int) (k:Nat) (ts:List (List Int)) (bs:List Bg):Prop where
 b:∀ b∈bs,b.2<=ns.length/\b.1.length=k/\k<=b.2/\∀ t',Rdg L (ns.drop b.2) t'->Rdg L ns (b.1++t')
 nb:(bs.map (·.1)).Nodup
 nt:ts.Nodup
 t:∀ t∈ts,Rdg L ns t/\t.length < k
 c:∀ t,Rdg L ns t->t∈ts\/∃ b∈bs,∃ t',t=b.1++t'/\Rdg L (ns.drop b.2) t'
 n:(bs.map fun b=>cAt L ns b.2).sum + ts.length=cAt L ns 0
def spLaw2 (K:W.Frag) (P1:Addr) (pos1:Pos) (q1:Str) (P2:Addr) (pos2:Pos) (q2:Str):Sp:=fun vs H Q _=>∃ (a:Addr) (ns:List Int),vs=[.ref a]/\SqL K H a (ns.map V.int)/\ns.length<=63/\TabOk P1 pos1 q1 H/\TabOk P2 pos2 q2 H/\P1≠P2/\∀ H',Q (.bl true) H'
def dLaw2 (P1:Addr) (pos1:Pos) (q1:Str) (P2:Addr) (pos2:Pos) (q2:Str):Sp3:=fun ds M K=>∃ ns:List Int,ds=[.frz (ns.map .int)]/\M=[.tab P1 pos1 q1,.tab P2 pos2 q2]/\ns.length<=63/\∀ M',K (.bl true) M'
def law_in2 {C:Cf} {P1 P2:Addr} {pos1 pos2:Pos} {q1 q2:Str} {vs:List V} {H:Hp} {Q:VK} {E:XK} (h:spLaw2 C.k P1 pos1 q1 P2 pos2 q2 vs H Q E):spOf C (dLaw2 P1 pos1 q1 P2 pos2 q2) vs H Q E:=by
 obtain ⟨a,ns,rfl,hS,hl,⟨ps,eP,tp,cp⟩,⟨ps2,eP2,tp2,cp2⟩,ne,k⟩:=h
 have sI:Same (fun b=>if b=P1\/b=P2 then none else H b) H:=fun b o e=>by
  have e':(if b=P1\/b=P2 then none else H b)=some o:=e
  split at e'
  ·cases e'
  ·exact e'
 have out:∀ (b:Addr) (o),H b=some o->(∀ z,o≠.tbl z)->(if b=P1\/b=P2 then none else H b)=some o:=fun b o e n=>by
  rw [if_neg]
  ·exact e
  ·rintro (z | z)
   ·subst z; rw [eP] at e; cases e; exact n _ rfl
   ·subst z; rw [eP2] at e; cases e; exact n _ rfl
 refine ⟨⟨fun _=>none,[],fun _ _ _=>False,fun _ _ _=>False⟩,fun b=>if b=P1\/b=P2 then none else H b,[P1,P2],[.tab P1 pos1 q1,.tab P2 pos2 q2],[.frz (ns.map .int)],fun d _=>d=.bl true,⟨(fun _ _ h=>nomatch h),List.nil_prefix,sI,rfl,by simp [ne],fun k' a' m h1 h2=>?_⟩,?_,⟨ns,rfl,rfl,hl,fun _=>rfl⟩,fun v d I' α' H' M' s p R r h=>?_⟩
 ·match k',h1,h2 with
  | 0,h1,h2 =>
   simp at h1 h2
   subst h1
   subst h2
   refine ⟨⟨rfl,ps,eP,tp,?_⟩,if_pos (.inl rfl)⟩
   rcases cp with z | ⟨c,z1,z2⟩
   ·exact .inl z
   ·exact .inr ⟨c,z1,out c _ z2 fun _ z=>by cases z⟩
  | 1,h1,h2 =>
   simp at h1 h2
   subst h1
   subst h2
   refine ⟨⟨rfl,ps2,eP2,tp2,?_⟩,if_pos (.inr rfl)⟩
   rcases cp2 with z | ⟨c,z1,z2⟩
   ·exact .inl z
   ·exact .inr ⟨c,z1,out c _ z2 fun _ z=>by cases z⟩
  | n + 2,h1,h2=>simp at h1
 ·refine .one (.frz ?_ (.ints ns))
  rcases hS with (hS | ⟨o,hS⟩) | hS
  ·exact .inl (.inl (out a _ hS fun _ z=>by cases z))
  ·exact .inl (.inr ⟨o,out a _ hS fun _ z=>by cases z⟩)
  ·exact .inr hS
 ·subst h
  cases r
  exact k H'
end L3
namespace L2
open PySem PySem.W PyProof.Rows HT PySem.Calls
def keyLt (a b:List Int):Bool:=if a.length=b.length then HT.lexLt a b else decide (a.length < b.length)
def KyAt (K:PySem.W.Frag) (H:Hp) (v:V) (w:List Int):Prop:=∃ (a b:Addr),v=.ref a/\SqT K H a [.int w.length,.ref b]/\SqT K H b (w.map V.int)
def KyAt.same {K:PySem.W.Frag} {H H':Hp} {v:V} {w:List Int} (h:KyAt K H v w) (s:Same H H'):KyAt K H' v w :=
 let ⟨a,b,e,h1,h2⟩:=h
 ⟨a,b,e,same_sqT s h1,same_sqT s h2⟩
section
variable {X:Cx} {pins:List (Addr×Obj)} {σ:St} {H:Hp} {s:Shared} {A:Around} {E:Value->Shared->Prop}
theorem key_lt {v v':V} {x y:List Int} (h1:KyAt X.K H v x) (h2:KyAt X.K H v' y):LtsV X H v v' (keyLt x y):=by
 intro pins σ s A u w I hu ru rw'
 obtain ⟨a,b,rfl,ha,hb⟩:=h1
 obtain ⟨a',b',rfl,ha',hb'⟩:=h2
 cases ru
 cases rw'
 obtain ⟨its,rv,⟨o,e,cl,n,dt⟩,_⟩:=I.tuple ha
 obtain ⟨its2,rv2,⟨o2,e2,cl2,n2,dt2⟩,_⟩:=I.tuple ha'
 have u1:A.in1.units + 100 < cLine:=by show A.units + 1 + 100 < cLine; omega
 obtain ⟨q1,q2⟩:=tupI_lt (A:=A.in1) I u1 hb hb'
 cases rv with
 | @cons _ v1 _ _ r1 rv =>
  cases rv with
  | @cons _ v2 _ _ r2 rv =>
   cases rv
   cases rv2 with
   | @cons _ w1 _ _ t1 rv2 =>
    cases rv2 with
    | @cons _ w2 _ _ t2 rv2 =>
     cases rv2
     obtain ⟨k1,rfl⟩:=r1
     obtain ⟨k2,rfl⟩:=t1
     obtain rfl:v2=.ref b:=r2
     obtain rfl:w2=.ref b':=t2
     have:=LtAt.tup (A:=A) (z:=fun j=>match j with | 0=>((x.length:Int) == (y.length:Int),decide ((x.length:Int) < y.length)) | _=>(decide (x=y),HT.lexLt x y)) (by omega) e cl dt e2 cl2 dt2 fun j g1 g2=>by
      match j,g1 with
      | 0,_=>exact ⟨SeqAt.EqAt.int_int _ _ _ _,.int _ _ _ _⟩
      | 1,_=>exact ⟨q1,q2⟩
      | j + 2,h=>exact absurd h (by simp)
     have er:∀ z:Nat->Bool×Bool,lexN z 2 2=if (z 0).1 then (if (z 1).1 then false else (z 1).2) else (z 0).2:=fun z=>rfl
     rw [show lexN _ [_,_].length [_,_].length=lexN _ 2 2 from rfl,er] at this
     simp only [decide_eq_true_eq,beq_iff_eq,Int.ofNat_lt,Int.ofNat_inj] at this
     unfold keyLt
     by_cases e4:x=y
     ·rw [if_pos e4] at this
      rw [e4,lex_irr]
      rw [e4] at this
      exact this
     ·rw [if_neg e4] at this
      exact this
theorem call_minK {l f:Addr} {ws:List V} {lt:Nat->Nat->Bool} {KeyAt:Nat->V->Hp->Prop} {Q:VK} (I:Inv X pins σ H s) (hc:X.calm=true) (hu:X.A.units + 200 < cLine) (hl:SqL X.K H l ws) (hn:0 < ws.length)
  (mono:∀ (i:Nat) (x:V) (H H':Hp),Same H H'->KeyAt i x H->KeyAt i x H')
  (hlt:∀ (H2:Hp) (i j:Nat) (x y:V),Same H H2->i < ws.length->j < ws.length->KeyAt i x H2->KeyAt j y H2->LtsV X H2 x y (lt i j))
  (hcall:∀ (pins':List (Addr×Obj)) (s':Shared) (H2:Hp) (i:Nat) (hi:i < ws.length) (u:Value),(∀ p∈pins,p∈pins')->Same H H2->Inv X pins' σ H2 s'->RelV ws[i] u ->
   wpAny (model X.prog X.w) X.A.in1 (call (.ref f) [u]) (EP X pins' σ fun v H'=>Same H2 H'/\KeyAt i v H') (fun _ _=>False) s')
  (h:∀ (H':Hp) (hm:minIx lt (ws.length - 1) < ws.length),Same H H'->Q ws[minIx lt (ws.length - 1)] H') :
  wpAny (model X.prog X.w) X.A (call (.builtin "min") [.ref l] [(Str.ofString "key",.ref f)]) (EP X pins σ Q) E s:=by
 have hname:(toString "min"++toString ".loop":String)="min.loop":=by decide
 refine kmk_tree PySem.F.kind_min PySem.F.plain_min PySem.F.entry_min (kmk_min_key _ _) ?_
 show wpAny _ X.A.in1 (Builtin.Builtins.bindParams "min" ["key", "default"] 0 ⟨[],[(Str.ofString "key",.ref f)]⟩ >>= _) _ _ s
 refine wpAny_bind (wpAny_of_eq (show Builtin.Builtins.bindParams "min" ["key", "default"] 0 ⟨[],[(Str.ofString "key",.ref f)]⟩=pure [some (.ref f),none] from rfl) ?_)
 refine wpAny_bind (wpAny_pure ?_)
 obtain ⟨its,rv,pl,hz⟩:=I.list hl
 refine wpAny_bind (wpAny_pyIter_list pl.isList ?_)
 refine wpAny_bind (wpAny_newList ?_ (Nat.zero_le _))
 rw [hname]
 have I3:Inv X pins σ H { s with heap:=(s.heap.push { cls:=.type "list_iterator",data:=.fields #[.ref l,.int 0 0] }).push (lst0 #[] 0) }:=I.kept (t':=s.toks) fun b o e=>Heap.get?_push_of_some _ (Heap.get?_push_of_some _ e)
 have hit:FpOk X pins H s.heap.objs.size:=I.fpOk (Nat.le_refl _) (I.hok.fresh (Nat.le_refl _))
 have hle:s.heap.objs.size<=(s.heap.push { cls:=.type "list_iterator",data:=.fields #[.ref l,.int 0 0] }).objs.size:=by rw [Heap.size_push]; exact Nat.le_succ _
 have hB:=I.fpOk (H':=H) hle (I.hok.fresh hle)
 have nB:s.heap.objs.size≠(s.heap.push { cls:=.type "list_iterator",data:=.fields #[.ref l,.int 0 0] }).objs.size:=by rw [Heap.size_push]; exact Nat.ne_of_lt (Nat.lt_succ_self _)
 refine wpAny_pure ⟨plainId_quiet PySem.F.plain_min_loop _,min_loopK (A:=X.A) (lt:=lt) (KeyAt:=KeyAt) (H0:=H) (I.ok.hd hc) (by omega) nB mono hlt hcall ws.length 0 none _ 0 H (by omega) hn (.refl _) hit hB I3 (.inl ⟨hl,⟨_,Heap.get?_push_of_some _ (Heap.get?_push_size _ rfl),rfl,rfl⟩⟩) (Heap.get?_push_size _ rfl) rfl fun s' u H' sm I' hu'=>?_⟩
 have hm:minIx lt (ws.length - 1) < ws.length:=by have:=minIx_le lt (ws.length - 1); omega
 exact ⟨_,H',I',hu' hm,h H' hm sm⟩
def tMinL (K:PySem.W.Frag) (P:Addr) (lpos:Pos) (qual:Str) (tb:TE) (ta:TA):TE:=fun σ H Q=>ta σ H fun vs H1=>∃ (l:Addr) (ws:List V) (zs:List (List Int)),vs=[.ref l]/\SqL K H1 l ws/\0 < ws.length/\ws.length=zs.length/\TabOk P lpos qual H1 /\
 (∀ (H2 H3:Hp) (i:Nat) (h1:i < ws.length) (h2:i < zs.length),SameT P H1 H2->Same H2 H3->tb [some ws[i]] H3 fun v H'=>Same H3 H'/\KyAt K H' v zs[i]) /\
 ∀ (H2 H3:Hp) (k:Nat) (y:Addr) (h:k < ws.length),H1 y=none->SameT P H1 H2->TabOk P lpos qual H2->Same H2 H3->k=minIx (fun i j=>keyLt (zs.getD i []) (zs.getD j [])) (zs.length - 1)->Q ws[k] H3
theorem pe_minL {e:Expr} {ta:TA} {c P:Addr} {x:Str} {params:Arguments} {body:Expr} {scope:Scope} {p pos lpos kpos:Pos} {tb:TE} (hr:Room 2 X.A) (hc:X.calm=true) (hg:Gl X "min") (hm:X.mg "min"=none) (ha:PA X [e] ta) (hcode:X.env.code=.ref c)
  (C:CodeHd X.base c P) (B:Bm X.mg X.base) (hcl:closureFor scope X.env=pure []) (hdef:defaultsOf params X.env=([],[])) (S:FnScope [x] [x] scope)
  (hbind:∀ (pm cv ctv u:Value),bindArgs (kla_fn "<lambda>" (X.env.qual++"<lambda>") params body scope [] pm cv ctv) ⟨[u],[]⟩=pure [(x,u)])
  (hb:∀ (f c':Addr) (A:Around) (outer:List Env) (s:Shared) (H:Hp),PE (cxOf CX0 X.prog X.w X.K X.mg X.base [x] (X.env.qual++"<lambda>") scope f (.ref c') A outer s H E0) body tb)
  (he:starEach [e] X.env=[(false,eval e X.env)]:=by rfl) :
  PE X (.Call (.Name "min" p) [e] [⟨some "key",.Lambda params body scope lpos,kpos⟩] pos) (tMinL X.K P lpos (X.env.qual++"<lambda>") tb ta):=by
 intro pins s σ H Q I h
 refine wpAny_Call_Name_kw (ld_blt I hg hm PyProof.Rows.boot_min ?_)
 refine callWith_kw (thn (ha pos pins s σ H _ I h) fun us s1 ⟨vs,H1,I1,r1,l,ws,zs,ev,hl,hn,hz,T,hbo,q1⟩=>?_) (by rw [he]; rfl) (by rw [he]; rfl)
 subst ev
 obtain ⟨u,rfl,ru⟩:=Vals.one r1
 obtain rfl:u=Value.ref l:=ru
 obtain ⟨ps,hP,_,_⟩:=id T
 show wpAny _ _ (evalAll [do let v <- eval (.Lambda params body scope lpos) X.env; standAt pos; pure v]) _ _ s1
 refine wpAny_evalAll_cons (wpAny_bind (lam_make I1 hcode C B T hcl hdef fun f c' pm ctv H2 s2 sT T2 hx I2=>wpAny_bind (wpAny_standAt (wpAny_pure (wpAny_evalAll_nil ?_)))))
 show wpAny _ _ (call (.builtin "min") [.ref l] [(Str.ofString "key",.ref f)]) _ _ s2
 refine wpAny_mono (call_minK (Q:=Q) (E:=X.xe) (KeyAt:=fun i v H=>∃ h:i < zs.length,KyAt X.K H v zs[i]) (lt:=fun i j=>keyLt (zs.getD i []) (zs.getD j [])) I2 hc (un_of hr) (sT.sqL hP hl) hn (fun i x H H' sm ⟨h,ky⟩=>⟨h,ky.same sm⟩) (fun H3 i j x y sm h1 h2 ⟨g1,k1⟩ ⟨g2,k2⟩=>?cmp) (fun pins' s' H3 i hi u hp sm I' rv=>?cal) fun H3 hm sm=>q1 H2 H3 _ s1.heap.objs.size hm (I1.hok.fresh (Nat.le_refl _)) sT T2 sm (by rw [hz])) (fun v s' ⟨v',H',J,rv,qq⟩=>⟨v',H',J.unpinned,rv,qq⟩) fun _ _ z=>z
 case cmp =>
  show LtsV X H3 x y (keyLt (zs.getD i []) (zs.getD j []))
  rw [List.getD_eq_getElem?_getD,List.getD_eq_getElem?_getD,List.getElem?_eq_getElem g1,List.getElem?_eq_getElem g2]
  exact key_lt k1 k2
 case cal =>
  have hpin:=I'.pin (f,lamObj (X.env.qual++"<lambda>") params body scope pm (.ref c') ctv) (List.mem_append_right _ (hp _ (List.mem_append_right _ (List.mem_singleton.mpr rfl))))
  refine wpAny_call (codeAny_mono (lam_run (I'.env0.in1) hr.in1 hpin.1 (I'.hok c' _ (sm _ _ hx)).1 S (hbind pm (.ref c') ctv u) rv (hb f c' _ _ _ _) (hbo H2 H3 i hi (by omega) sT sm)) fun r s'' hq'=>?_)
  cases r with
  | error e=>exact False.elim hq'
  | ok fl =>
   cases fl with
   | ret u =>
    obtain ⟨v,H',a,b,c2,d⟩:=I'.after hq'
    exact ⟨v,H',a,b,c2,by omega,d⟩
   | next=>exact False.elim hq'
   | brk=>exact False.elim hq'
   | cont=>exact False.elim hq'
end
end L2
namespace L3
open PySem L2
section
variable {C:Cf} {Z:Anc} {t:TA} {u:TA3}
abbrev tKey (K:W.Frag):TE:=tTup (tCons (tCB (rLen K) (tCons (tVar 0) tNil)) (tCons (tVar 0) tNil))
def uMinW (Pt:Addr) (pos:Pos) (q:Str) (u:TA3):TE3:=fun ρ M K=>u ρ M fun ds M1=>∃ (k0:Nat) (d:D) (zs:List (List Int)),M1[k0]?=some (.tab Pt pos q)/\ds=[d]/\lstOf M1 d=some (zs.map wD)/\0 < zs.length/\∀ (k:Nat) (h:k < zs.length),k=minIx (fun i j=>keyLt (zs.getD i []) (zs.getD j [])) (zs.length - 1)->K (wD zs[k]) M1
theorem s_minW {Pt:Addr} {pos:Pos} {q:Str} (hr:SimA C Z t u):SimE C Z (tMinL C.k Pt pos q (tKey C.k) t) (uMinW Pt pos q u):=fun I α σ H ρ M K Q R E h k =>
 hr I α σ H ρ M _ _ R E h fun vs ds I1 α1 H1 M1 s1 p1 R1 r1 h1=>by
  obtain ⟨k0,d,zs,hk,rfl,e1,hn,h1⟩:=h1
  cases r1 with
  | cons r1 r2 =>
   cases r2
   obtain ⟨a,ws,rfl,ea,ra⟩:=lst_at R1 r1 e1
   have len:ws.length=zs.length:=by rw [ra.length,List.length_map]
   obtain ⟨P',eP,⟨eqP,ps,ep,tp,cp⟩,iP⟩:=R1.get hk
   subst eqP
   have tb1:TabOk P' pos q H1:=⟨ps,ep,tp,by
    rcases cp with z | ⟨c,z1,z2⟩
    ·exact .inl z
    ·exact .inr ⟨c,z1,R1.sub _ _ z2⟩⟩
   have rp:∀ (i:Nat) (h1:i < ws.length) (h2:i < zs.length),Rep C I1 α1 ws[i] (wD zs[i]):=fun i h1 h2=>by
    have:=ra.at h1 (by rw [List.length_map]; exact h2)
    rwa [List.getElem_map] at this
   refine ⟨a,ws,zs,rfl,ea,by omega,len,tb1,fun H2 H3 i h1 h2 sT sm=>?_,fun H2 H3 j y hj hy sT tb sm ej=>?_⟩
   ·have r:=rp i h1 h2
    generalize hx:ws[i]=x at r
    cases r with
    | @tup b vs' _ eb rb =>
     rw [Reps.of_ints _ rb] at eb
     have e3:H3 b=some (.tup (zs[i].map V.int)):=sm _ _ (sT _ _ (fun z=>by rw [z,iP] at eb; cases eb) (R1.sub _ _ eb))
     have hq:SqT C.k H3 b (zs[i].map V.int):=SqT.of e3
     refine ⟨_,rfl,_,zs[i].length,rfl,?_,?_⟩
     ·exact .inr ⟨_,hq,by rw [List.length_map]⟩
     ·refine ⟨_,rfl,by show 2<=sizeLine; rw [sizeLine_eq]; omega,fun p hp=>?_⟩
      have sp:=same_upd (o:=.tup [.int zs[i].length,.ref b]) hp
      exact ⟨sp,p,b,rfl,SqT.of upd_same,same_sqT sp hq⟩
   ·obtain ⟨I',s',R',f⟩:=R1.made hk hy tb fun b o n1 n2 e=>sT b o n2 e
    exact k _ _ I' α1 H3 M1 (s1.trans s') p1 (R'.same sm) ((rp j hj (by omega)).mono s' (List.prefix_refl _)) (h1 j (by omega) ej)
end
end L3
namespace L2
open PySem PySem.W PyProof.Rows HT PySem.Calls
section
variable {X:Cx}
def tSortN (K:Frag) (sp:Sp) (ta:TA):TE:=fun σ H Q=>ta σ H fun vs H1=>∃ (l:Addr) (ys:List V) (ws:List (List Int)),vs=[.ref l]/\SqL K H1 l ys/\ys.length < 64/\ys.length=ws.length/\ws.Nodup /\
 (∀ (H2:Hp) (i:Nat) (h1:i < ys.length) (h2:i < ws.length),Same H1 H2->sp [ys[i]] H2 (fun v H'=>Same H2 H'/\∃ a,v=.ref a/\KzAt K H' (ys[i],a,(ws[i].length:Int)::ws[i])) E0) /\
 ∀ (D:Addr) (H2:Hp) (L L':List KIt),Same H1 H2->H2 D=none->L.map (·.1)=ys->L.map (·.2.2)=ws.map (fun w=>(w.length:Int)::w)->L'.Perm L->L'.Pairwise (fun a b=>HT.lexLt a.2.2 b.2.2=true)->Q (.ref D) (upd H2 D (.lst (L'.map (·.1))))
theorem pe_sortN {e:Expr} {ta:TA} {x:Str} {k:Nat} {a:Str} {sp:Sp} {p kp pos kpos:Pos} (Cc:Cal X.prog X.w X.K X.mg X.base x k [a] sp) (hr:Room (k + 2) X.A) (hx:Gl X x) (hg:Gl X "sorted") (hm:X.mg "sorted"=none) (ha:PA X [e] ta)
  (hdb:(x == ("__debug__":Str))=false:=by decide) (he:starEach [e] X.env=[(false,eval e X.env)]:=by rfl) :
  PE X (.Call (.Name "sorted" p) [e] [⟨some "key",.Name x kp,kpos⟩] pos) (tSortN X.K sp ta):=by
 intro pins s σ H Q I h
 obtain ⟨f,fd,F,hmx,hk0,hb⟩:=Cc
 refine wpAny_Call_Name_kw (ld_blt I hg hm PyProof.Rows.boot_sorted ?_)
 refine callWith_kw (thn (ha pos pins s σ H _ I h) fun us s1 ⟨vs,H1,I1,r1,l,ys,ws,ev,hl,h64,hlen,nd,hsp,q1⟩=>?_) (by rw [he]; rfl) (by rw [he]; rfl)
 subst ev
 obtain ⟨u,rfl,ru⟩:=Vals.one r1
 obtain rfl:u=Value.ref l:=ru
 show wpAny _ _ (evalAll [do let v <- eval (.Name x kp) X.env; standAt pos; pure v]) _ _ s1
 refine wpAny_evalAll_cons (wpAny_bind (ld_glob I1 hx hmx (wpAny_bind (wpAny_standAt (wpAny_pure (wpAny_evalAll_nil ?_)))) hdb))
 show wpAny _ _ (call (.builtin "sorted") [.ref l] [(Str.ofString "key",.ref f)]) _ _ s1
 refine sortedKN (Q:=Q) (E:=X.xe) I1 hl h64 hlen (by have:=un_of hr; omega) nd (fun pins' s' H2 i h1 h2 u hp sm I' rv=>?_) q1
 have hl1:([u]++[]).length=[a].length:=rfl
 have bb:=hb s' [u] I'.kIn hl1
 rw [List.append_nil] at bb
 refine wpAny_call (codeAny_mono (F.run X.A.in1.in1 X.stack s' H2 ⟨[u],[]⟩ [u] [ys[i]] _ E0 hr.in1.in1 (I'.env0.in1.in1) bb (.cons rv .nil) (hsp H2 i h1 h2 sm)) fun r s'' hq'=>?_)
 cases r with
 | error e=>exact False.elim hq'
 | ok fl =>
  cases fl with
  | ret u=>exact I'.after hq'
  | next=>exact False.elim hq'
  | brk=>exact False.elim hq'
  | cont=>exact False.elim hq'
def spBySize (K:Frag):Sp:=fun vs H Q _=>∃ (p t:Addr) (z:Int) (w:List Int),vs=[.ref p]/\SqT K H p [.int z,.ref t]/\SqT K H t (w.map V.int)/\∀ k,H k=none->Q (.ref k) (upd H k (.tup [.int w.length,.ref t]))
end
end L2
namespace L3
open PySem L2
section
variable {C:Cf}
def Fun.okC3 {P:Program} {w:World} {K:W.Frag} {mg:Str->Option Value} {base:Heap} {x qual:Str} {st:Stmt} {f:Addr} {oc:Value} {od an:Option Addr} {osl:Array (Option Value)} {kV doc pm cdv ct:Value} {N ps:List Str} {k:Nat} {sp:Sp3}
  (lk:K.lookup f=some ⟨oc,od,.func (W.fnOf x qual (defArgs st) (defBody st) (defScope st) .none kV doc pm an cdv ct),osl⟩) (hcd:W.codeIn K cdv qual=true) (S:FnScope N ps (defScope st)) (len:∀ ds M K,sp ds M K->ds.length=ps.length)
  (hbody:∀ (A:Around) (outer:List Env) (s:Shared) (H:Hp) (E:XK),Room k (A.deeper (PyProof.Rows.envOfC qual (defScope st) s.heap.objs.size f cdv)) ->
   ∃ t u,PSs (cxOf CX0 P w K mg base N qual (defScope st) f cdv A outer s H E).nox (defBody st) t/\(∀ Z,SimS C Z t u)/\∀ ds M K,WfM M->(∀ d∈ds,Below M.length d)->sp ds M K->u { nx:=fun _ M'=>Dk M.length K .non M',rt:=Dk M.length K } (start3 N ds) M) :
  FnOk P w K mg base CX0 (k + 1) f (W.fnOf x qual (defArgs st) (defBody st) (defScope st) .none kV doc pm an cdv ct) ps (spOf C sp):=by
 refine L2.Fun.okC lk hcd S (fun vs H Q E h=>?_) (fun A outer s H vs Q E hr h=>?_)
 ·obtain ⟨Z,I,α,M,ds,K,R,r,h,_⟩:=h
  rw [r.length]
  exact len ds M K h
 ·obtain ⟨t,u,h1,h2,h3⟩:=hbody A outer s H E hr
  obtain ⟨Z,I,α,M,ds,K,R,r,h,k⟩:=h
  have kd:=k.dk R.len R.aa
  exact ⟨t,h1,h2 Z I α _ H _ M _ _ R (rep_start r N) (h3 ds M K R.wf (by rw [<- R.len]; exact r.bel) h) ⟨fun I1 α1 σ1 H1 ρ1 M1 s1 p1 R1 _ h1=>kd _ _ I1 α1 H1 M1 s1 p1 R1 .non h1,kd,fun _ _ _ _ _ _ _ _ _ _ h=>h.elim,fun _ _ _ _ _ _ _ _ _ _ h=>h.elim⟩⟩
end
theorem find_nd {ps:List Pr} (nd:(ps.map (·.2)).Nodup) {i:Nat} (hi:i < ps.length):ps.find? (fun p=>decide ((p.2.length:Int)::p.2=(ps[i].2.length:Int)::ps[i].2))=some ps[i]:=by
 cases e:ps.find? (fun p=>decide ((p.2.length:Int)::p.2=(ps[i].2.length:Int)::ps[i].2)) with
 | none =>
  rw [List.find?_eq_none] at e
  exact absurd (decide_eq_true rfl) (e ps[i] (List.getElem_mem hi))
 | some p =>
  have hp:=List.find?_some e
  obtain ⟨j,hj,ej⟩:=List.getElem_of_mem (List.mem_of_find?_eq_some e)
  have hq:p.2=ps[i].2:=by
   have:=of_decide_eq_true hp
   injection this
  subst ej
  have:j=i:=(List.getElem_inj (i:=j) (j:=i) (h₀:=by simpa using hj) (h₁:=by simpa using hi) nd).mp (by simpa using hq)
  subst this
  rfl
section
variable {C:Cf} {Z:Anc} {t:TA} {u:TA3}
def uSortN (u:TA3):TE3:=fun ρ M K=>u ρ M fun ds M1=>∃ (d:D) (ps:List Pr),ds=[d]/\lstOf M1 d=some (ps.map pD)/\(ps.length < 64/\(ps.map (·.2)).Nodup)/\∀ qs:List Pr,qs.Perm ps->K (.lst (qs.map pD)) M1
theorem s_sortN (hr:SimA C Z t u):SimE C Z (tSortN C.k (spBySize C.k) t) (uSortN u):=fun I α σ H ρ M K Q R E h k =>
 hr I α σ H ρ M _ _ R E h fun vs ds I1 α1 H1 M1 s1 p1 R1 r1 h1=>by
  obtain ⟨d,ps,rfl,e1,⟨h64,nd⟩,h1⟩:=h1
  cases r1 with
  | cons r1 r2 =>
   cases r2
   obtain ⟨a,ys,rfl,ea,ra⟩:=lst_at R1 r1 e1
   have len:ys.length=ps.length:=by rw [ra.length,List.length_map]
   have rp:∀ (i:Nat) (h1:i < ys.length) (h2:i < ps.length),Rep C I1 α1 ys[i] (pD ps[i]):=fun i h1 h2=>by
    have:=ra.at h1 (by rw [List.length_map]; exact h2)
    rwa [List.getElem_map] at this
   refine ⟨a,ys,ps.map (·.2),rfl,ea,by omega,by rw [List.length_map,len],nd,fun H2 i g1 g2 sm=>?_,fun Da H2 L L' sm nD l1 l2 pm pw=>?_⟩
   ·have g2':i < ps.length:=by omega
    have r:=rp i g1 g2'
    generalize ys[i]=x at r ⊢
    simp only [List.getElem_map]
    cases r with
    | @tup b vs' _ eb rb =>
     cases rb with
     | cons rb1 rb =>
      cases rb with
      | cons rb2 rb =>
       cases rb
       cases rb1
       cases rb2 with
       | @tup tw vs2 _ et rt =>
        rw [Reps.of_ints _ rt] at et
        have sq:SqT C.k H2 tw (ps[i].2.map V.int):=SqT.of (sm _ _ (R1.sub _ _ et))
        refine ⟨b,tw,ps[i].1,ps[i].2,rfl,SqT.of (sm _ _ (R1.sub _ _ eb)),sq,fun kk hk=>?_⟩
        have sp:=same_upd (o:=.tup [.int ps[i].2.length,.ref tw]) hk
        exact ⟨sp,kk,rfl,tw,ps[i].2,SqT.of upd_same,same_sqT sp sq,rfl⟩
   ·have lL:L.length=ps.length:=by have:=congrArg List.length l1; rw [List.length_map] at this; omega
    have key:∀ (i:Nat) (hi:i < L.length) (hj:i < ps.length),L[i].2.2=(ps[i].2.length:Int)::ps[i].2:=fun i hi hj=>by
     have:(L.map (·.2.2))[i]?=((ps.map (·.2)).map (fun w=>(w.length:Int)::w))[i]?:=by rw [l2]
     simpa [hi,hj] using this
    have itm:∀ (i:Nat) (hi:i < L.length) (hj:i < ys.length),L[i].1=ys[i]:=fun i hi hj=>by
     have:(L.map (·.1))[i]?=ys[i]?:=by rw [l1]
     simpa [hi,hj] using this
    let g:KIt->Pr:=fun q=>(ps.find? fun p=>decide ((p.2.length:Int)::p.2=q.2.2)).getD (0,[])
    have gi:∀ (i:Nat) (hi:i < L.length) (hj:i < ps.length),g L[i]=ps[i]:=fun i hi hj=>by
     show (ps.find? fun p=>decide ((p.2.length:Int)::p.2=L[i].2.2)).getD (0,[])=ps[i]
     rw [key i hi hj,find_nd nd hj]
     rfl
    have eL:L.map g=ps:=by
     apply List.ext_getElem
     ·rw [List.length_map,lL]
     ·intro i a1 a2
      rw [List.getElem_map]
      exact gi i (by simpa using a1) a2
    have R2:=R1.same sm
    obtain ⟨R4,s4,e4⟩:=R2.new (o:=.lst (L'.map (·.1))) nD
    refine k _ _ _ α1 _ M1 (s1.trans s4) p1 R4 (.lst e4 ?_) (h1 (L'.map g) (by rw [<- eL]; exact pm.map g))
    have go:∀ N:List KIt,(∀ q∈N,q∈L)->Reps C (upd I1 Da (.lst (L'.map (·.1)))) α1 (N.map (·.1)) ((N.map g).map pD):=fun N=>by
     induction N with
     | nil=>intro _; exact .nil
     | cons q r ih =>
      intro hm
      obtain ⟨i,hi,ei⟩:=List.getElem_of_mem (hm q List.mem_cons_self)
      refine .cons ?_ (ih fun x hx=>hm x (List.mem_cons_of_mem _ hx))
      rw [<- ei,gi i hi (by omega)]
      show Rep C _ α1 L[i].1 (pD ps[i])
      rw [itm i hi (by omega)]
      exact (rp i (by omega) (by omega)).mono s4 (List.prefix_refl _)
    exact go L' fun q hq=>pm.mem_iff.mp hq
end
def unsh (S T:List Pr):List (List Int):=(S.filter fun p=>decide (p∉T)).map (·.2)
def dUnshared:Sp3:=fun ds M K=>∃ S T:List Pr,ds=[.code S,.code T]/\((T.map (·.1)).Nodup/\S.length<=100)/\K (.lst ((unsh S T).map wD)) M
def keyMin (zs:List (List Int)):List Int:=zs.getD (minIx (fun i j=>keyLt (zs.getD i []) (zs.getD j [])) (zs.length - 1)) []
def dTelling (Pt:Addr) (pos:Pos) (q:Str):Sp3:=fun ds M K=>∃ (k:Nat) (S T:List Pr),ds=[.code S,.code T]/\M[k]?=some (.tab Pt pos q)/\((S.map (·.1)).Nodup/\(T.map (·.1)).Nodup/\S.length<=100/\T.length<=100) /\
 (unsh S T++unsh T S=[]->K .non M)/\(unsh S T++unsh T S≠[]->K (.cell M.length) (M++[.lst ((keyMin (unsh S T++unsh T S)).map .int)]))
def Rdw (L:List Pr) (ns:List Int) (U:List Pr):Prop:=(∀ p∈U,p∈L)/\rowOf U=ns
theorem pre_dec {L:List Pr} (fr:Free L) (ne:∀ p∈L,p.2≠[]):∀ (U U':List Pr) (rest:List Int),(∀ p∈U,p∈L)->(∀ p∈U',p∈L)->rowOf U'=rowOf U++rest->∃ V,U'=U++V/\rowOf V=rest
 | [],U',rest,_,_,e=>⟨U',rfl,e⟩
 | p::U,[],rest,h1,_,e=>by
  rw [row_cons] at e
  have:p.2=[]:=by
   have z:([]:List Int)=p.2++rowOf U++rest:=e
   have:=congrArg List.length z
   simp only [List.length_nil,List.length_append] at this
   exact List.eq_nil_of_length_eq_zero (by omega)
  exact absurd this (ne p (h1 p List.mem_cons_self))
 | p::U,q::U',rest,h1,h2,e=>by
  rw [row_cons,row_cons,List.append_assoc] at e
  have pq:q=p:=free_eq fr (h2 q List.mem_cons_self) (h1 p List.mem_cons_self) (l:=q.2++rowOf U') (List.prefix_append _ _) (by rw [e]; exact List.prefix_append _ _)
  subst pq
  obtain ⟨V,e1,e2⟩:=pre_dec fr ne U U' rest (fun x hx=>h1 x (List.mem_cons_of_mem _ hx)) (fun x hx=>h2 x (List.mem_cons_of_mem _ hx)) (List.append_cancel_left e)
  exact ⟨V,by rw [e1]; rfl,e2⟩
theorem Rdw.one {L:List Pr} (fr:Free L) (ne:∀ p∈L,p.2≠[]) {ns:List Int} {U U':List Pr} (a:Rdw L ns U) (b:Rdw L ns U'):U'=U:=by
 obtain ⟨V,e1,e2⟩:=pre_dec fr ne U U' [] a.1 b.1 (by rw [a.2,b.2,List.append_nil])
 have:V=[]:=by
  cases V with
  | nil=>rfl
  | cons p r =>
   rw [row_cons] at e2
   have hp:p∈L:=b.1 p (by rw [e1]; exact List.mem_append_right _ List.mem_cons_self)
   have:=congrArg List.length e2
   rw [List.length_append,List.length_nil] at this
   exact absurd (List.eq_nil_of_length_eq_zero (by omega)) (ne p hp)
 rw [e1,this,List.append_nil]
open Classical in
noncomputable def rdO (L:List Pr) (ns:List Int):Option (List Int):=if h:∃ U,Rdw L ns U then some (h.choose.map (·.1)) else none
def rdO_some {L:List Pr} (fr:Free L) (ne:∀ p∈L,p.2≠[]) {ns:List Int} {U:List Pr} (h:Rdw L ns U):rdO L ns=some (U.map (·.1)):=by
 have hx:∃ U,Rdw L ns U:=⟨U,h⟩
 unfold rdO
 rw [dif_pos hx,Rdw.one fr ne h hx.choose_spec]
def rdO_none {L:List Pr} {ns:List Int} (h:∀ U,¬ Rdw L ns U):rdO L ns=none:=by
 unfold rdO
 rw [dif_neg fun ⟨U,hU⟩=>h U hU]
def rdO_inv {L:List Pr} {ns t:List Int} (h:rdO L ns=some t):∃ U,Rdw L ns U/\U.map (·.1)=t:=by
 unfold rdO at h
 by_cases hx:∃ U,Rdw L ns U
 ·rw [dif_pos hx] at h
  exact ⟨_,hx.choose_spec,by injection h⟩
 ·rw [dif_neg hx] at h
  cases h
theorem rdO_stop {L:List Pr} (fr:Free L) (ne:∀ p∈L,p.2≠[]) {ns:List Int} {U:List Pr} {pl:Nat} (h:Rdw L (ns.take pl) U) (hl:pl < ns.length) (hn:∀ p∈L,¬ p.2<+:ns.drop pl):rdO L ns=none:=by
 refine rdO_none fun U' b=>?_
 obtain ⟨V,e1,e2⟩:=pre_dec fr ne U U' (ns.drop pl) h.1 b.1 (by rw [h.2,b.2,List.take_append_drop])
 cases V with
 | nil =>
  have:=congrArg List.length e2
  rw [List.length_drop] at this
  have z:(rowOf ([]:List Pr)).length=0:=rfl
  omega
 | cons p r =>
  rw [row_cons] at e2
  exact hn p (b.1 p (by rw [e1]; exact List.mem_append_right _ List.mem_cons_self)) (by rw [<- e2]; exact List.prefix_append _ _)
def mem_unsh {S T:List Pr} {w:List Int}:w∈unsh S T↔∃ p∈S,p∉T/\p.2=w:=by
 unfold unsh
 rw [List.mem_map]
 constructor
 ·rintro ⟨p,hp,e⟩
  rw [List.mem_filter] at hp
  exact ⟨p,hp.1,of_decide_eq_true hp.2,e⟩
 ·rintro ⟨p,hp,hn,e⟩
  exact ⟨p,List.mem_filter.mpr ⟨hp,decide_eq_true hn⟩,e⟩
theorem row_len_mem {U:List Pr} {p:Pr} (hp:p∈U) (ne:∀ q∈U,q.2≠[]):p.2.length < (rowOf U).length\/U=[p]:=by
 induction U with
 | nil=>cases hp
 | cons q r ih =>
  rw [row_cons,List.length_append]
  have hq:0 < q.2.length:=List.length_pos_iff.mpr (ne q List.mem_cons_self)
  rcases List.mem_cons.mp hp with z | z
  ·subst z
   cases r with
   | nil=>exact .inr rfl
   | cons x r =>
    have hx:0 < x.2.length:=List.length_pos_iff.mpr (ne x (List.mem_cons_of_mem _ List.mem_cons_self))
    rw [row_cons,List.length_append]
    exact .inl (by omega)
  ·rcases ih z (fun x hx=>ne x (List.mem_cons_of_mem _ hx)) with h | h
   ·exact .inl (by omega)
   ·subst h
    left
    have:(rowOf [p]).length=p.2.length:=by rw [row_cons,List.length_append]; rfl
    omega
def key_irr (a:List Int):keyLt a a=false:=by unfold keyLt; rw [if_pos rfl]; exact L2.lex_irr a
theorem read_over {S T:List Pr} (ne:∀ p∈S,p.2≠[]) {ns:List Int} (h:∀ w∈unsh S T,keyLt ns w=true) {U:List Pr} (a:Rdw S ns U):Rdw T ns U:=by
 refine ⟨fun p hp=>?_,a.2⟩
 by_cases hm:p∈T
 ·exact hm
 ·have k:=h p.2 (mem_unsh.mpr ⟨p,a.1 p hp,hm,rfl⟩)
  rcases row_len_mem hp (fun q hq=>ne q (a.1 q hq)) with z | z
  ·rw [a.2] at z
   unfold keyLt at k
   rw [if_neg (by omega)] at k
   have:=of_decide_eq_true k
   omega
  ·have e:=a.2
   rw [z,row_cons] at e
   have e':p.2=ns:=by rw [<- e]; exact (List.append_nil _).symm
   rw [e',key_irr] at k
   cases k
def due_below {S T:List Pr} (f1:Free S) (f2:Free T) (n1:∀ p∈S,p.2≠[]) (n2:∀ p∈T,p.2≠[]) {ns:List Int} (h:∀ w∈unsh S T++unsh T S,keyLt ns w=true):rdO S ns=rdO T ns:=by
 by_cases hx:∃ U,Rdw S ns U
 ·obtain ⟨U,hU⟩:=hx
  rw [rdO_some f1 n1 hU,rdO_some f2 n2 (read_over n1 (fun w hw=>h w (List.mem_append_left _ hw)) hU)]
 ·rw [rdO_none fun U hU=>hx ⟨U,hU⟩,rdO_none fun U hU=>hx ⟨U,read_over n2 (fun w hw=>h w (List.mem_append_right _ hw)) hU⟩]
def due_half {S T:List Pr} (f1:Free S) (n1:∀ p∈S,p.2≠[]) {w:List Int} (h:w∈unsh S T):rdO S w≠rdO T w:=by
 obtain ⟨p,hp,hn,rfl⟩:=mem_unsh.mp h
 have r1:Rdw S p.2 [p]:=⟨fun q hq=>by rw [List.mem_singleton.mp hq]; exact hp,by rw [row_cons]; exact List.append_nil _⟩
 rw [rdO_some f1 n1 r1]
 intro e
 obtain ⟨U,hU,eU⟩:=rdO_inv e.symm
 have:∃ q,U=[q]:=by
  cases U with
  | nil=>simp at eU
  | cons q r =>
   cases r with
   | nil=>exact ⟨q,rfl⟩
   | cons _ _=>simp at eU
 ·obtain ⟨q,rfl⟩:=this
  have e1:q.1=p.1:=by simpa using eU
  have e2:q.2=p.2:=by have:=hU.2; rw [row_cons] at this; rw [<- this]; exact (List.append_nil _).symm
  have:q=p:=Prod.ext e1 e2
  subst this
  exact hn (hU.1 q List.mem_cons_self)
def due_at {S T:List Pr} (f1:Free S) (f2:Free T) (n1:∀ p∈S,p.2≠[]) (n2:∀ p∈T,p.2≠[]) {w:List Int} (h:w∈unsh S T++unsh T S):rdO S w≠rdO T w:=by
 rcases List.mem_append.mp h with z | z
 ·exact due_half f1 n1 z
 ·exact (due_half f2 n2 z).symm
theorem key_trans {a b c:List Int} (h1:keyLt a b=true) (h2:keyLt b c=true):keyLt a c=true:=by
 unfold keyLt at *
 by_cases e1:a.length=b.length
 ·rw [if_pos e1] at h1
  by_cases e2:b.length=c.length
  ·rw [if_pos e2] at h2
   rw [if_pos (e1.trans e2)]
   exact lex_trans h1 h2
  ·rw [if_neg e2] at h2
   rw [if_neg (by omega),e1]
   exact h2
 ·rw [if_neg e1] at h1
  have h1:=of_decide_eq_true h1
  by_cases e2:b.length=c.length
  ·rw [if_neg (by omega)]
   exact decide_eq_true (by omega)
  ·rw [if_neg e2] at h2
   have h2:=of_decide_eq_true h2
   rw [if_neg (by omega)]
   exact decide_eq_true (by omega)
theorem key_tot {a b:List Int} (h1:keyLt a b=false) (h2:keyLt b a=false):a=b:=by
 unfold keyLt at *
 by_cases e:a.length=b.length
 ·rw [if_pos e] at h1
  rw [if_pos e.symm] at h2
  exact lex_tot h1 h2
 ·rw [if_neg e] at h1
  rw [if_neg (Ne.symm e)] at h2
  have h1:=of_decide_eq_false h1
  have h2:=of_decide_eq_false h2
  omega
theorem key_le_trans {a b c:List Int} (h1:keyLt b a=false) (h2:keyLt c b=false):keyLt c a=false:=by
 cases e:keyLt c a with
 | false=>rfl
 | true =>
  cases e2:keyLt a b with
  | true=>rw [key_trans e e2] at h2; cases h2
  | false=>rw [<- key_tot e2 h1] at h2; rw [e] at h2; cases h2
theorem keyIx_least {zs:List (List Int)}:∀ n,n < zs.length->∀ j,j<=n->keyLt (zs.getD j []) (zs.getD (minIx (fun i j=>keyLt (zs.getD i []) (zs.getD j [])) n) [])=false
 | 0,_,j,hj=>by rw [show j=0 by omega]; exact key_irr _
 | n + 1,hn,j,hj=>by
  have ih:=keyIx_least (zs:=zs) n (by omega)
  rw [minIx]
  generalize minIx (fun i j=>keyLt (zs.getD i []) (zs.getD j [])) n=k at ih
  cases e:keyLt (zs.getD (n + 1) []) (zs.getD k []) with
  | true =>
   rw [if_pos rfl]
   by_cases hj2:j=n + 1
   ·rw [hj2]; exact key_irr _
   ·have:=ih j (by omega)
    cases e2:keyLt (zs.getD j []) (zs.getD (n + 1) []) with
    | false=>rfl
    | true=>rw [key_trans e2 e] at this; cases this
  | false =>
   rw [if_neg (by decide)]
   by_cases hj2:j=n + 1
   ·rw [hj2]; exact e
   ·exact ih j (by omega)
theorem keyMin_mem {us:List (List Int)} (h:us≠[]):keyMin us∈us:=by
 have hl:0 < us.length:=List.length_pos_iff.mpr h
 have hm:=minIx_le (fun i j=>keyLt (us.getD i []) (us.getD j [])) (us.length - 1)
 unfold keyMin
 rw [List.getD_eq_getElem?_getD,List.getElem?_eq_getElem (by omega)]
 exact List.getElem_mem _
theorem keyMin_least {us:List (List Int)} {w:List Int} (h:w∈us):keyLt w (keyMin us)=false:=by
 obtain ⟨j,hj,rfl⟩:=List.getElem_of_mem h
 have:=keyIx_least (zs:=us) (us.length - 1) (by omega) j (by omega)
 unfold keyMin
 rwa [show us.getD j []=us[j] by rw [List.getD_eq_getElem?_getD,List.getElem?_eq_getElem hj]; rfl] at this
def rowsOf (bs:List Int):Nat->List (List Int)
 | 0=>[[]]
 | n + 1=>(rowsOf bs n).flatMap fun r=>bs.map fun b=>r++[b]
theorem mem_rows {bs:List Int}:∀ (n:Nat) (r:List Int),r∈rowsOf bs n↔r.length=n/\∀ b∈r,b∈bs
 | 0,r=>by
  rw [rowsOf,List.mem_singleton]
  constructor
  ·rintro rfl; exact ⟨rfl,fun _ z=>nomatch z⟩
  ·exact fun h=>List.eq_nil_of_length_eq_zero h.1
 | n + 1,r=>by
  rw [rowsOf,List.mem_flatMap]
  constructor
  ·rintro ⟨q,hq,hr⟩
   obtain ⟨b,hb,rfl⟩:=List.mem_map.mp hr
   obtain ⟨h1,h2⟩:=(mem_rows n q).mp hq
   refine ⟨by rw [List.length_append,h1]; rfl,fun x hx=>?_⟩
   rcases List.mem_append.mp hx with z | z
   ·exact h2 x z
   ·rw [List.mem_singleton.mp z]; exact hb
  ·rintro ⟨h1,h2⟩
   have ne:r≠[]:=fun z=>by rw [z] at h1; cases h1
   refine ⟨r.dropLast,(mem_rows n _).mpr ⟨by rw [List.length_dropLast,h1]; rfl,fun x hx=>h2 x (List.dropLast_subset r hx)⟩,List.mem_map.mpr ⟨r.getLast ne,h2 _ (List.getLast_mem ne),List.dropLast_concat_getLast ne⟩⟩
theorem lex_snoc:∀ {a b:List Int} (x y:Int),a.length=b.length->HT.lexLt a b=true->HT.lexLt (a++[x]) (b++[y])=true
 | [],[],_,_,_,h=>by cases h
 | a::as,b::bs,x,y,l,h=>by
  rw [HT.lexLt_cons] at h
  rw [List.cons_append,List.cons_append,HT.lexLt_cons]
  by_cases e:a=b
  ·rw [if_pos e] at h ⊢
   exact lex_snoc x y (by simpa using l) h
  ·rw [if_neg e] at h ⊢
   exact h
theorem lex_snoc2:∀ (a:List Int) {x y:Int},x < y->HT.lexLt (a++[x]) (a++[y])=true
 | [],x,y,h=>by
  show HT.lexLt [x] [y]=true
  rw [HT.lexLt_cons,if_neg (by omega)]
  exact decide_eq_true h
 | a::as,x,y,h=>by
  rw [List.cons_append,List.cons_append,HT.lexLt_cons,if_pos rfl]
  exact lex_snoc2 as h
theorem rows_sorted {bs:List Int} (hb:bs.Pairwise (· < ·)):∀ n,(rowsOf bs n).Pairwise fun a b=>HT.lexLt a b=true
 | 0=>List.pairwise_singleton _ _
 | n + 1=>by
  rw [rowsOf,List.pairwise_flatMap]
  refine ⟨fun r hr=>?_,?_⟩
  ·rw [List.pairwise_map]
   exact hb.imp fun h=>lex_snoc2 r h
  ·have:=rows_sorted hb n
   refine List.Pairwise.imp_of_mem (fun {a b} ha hb' h=>?_) this
   intro x hx y hy
   obtain ⟨c,_,rfl⟩:=List.mem_map.mp hx
   obtain ⟨d,_,rfl⟩:=List.mem_map.mp hy
   exact lex_snoc c d (by rw [((mem_rows n a).mp ha).1,((mem_rows n b).mp hb').1]) h
theorem due_first {S T:List Pr} (f1:Free S) (f2:Free T) (n1:∀ p∈S,p.2≠[]) (n2:∀ p∈T,p.2≠[]) {bs:List Int} (hb:bs.Pairwise (· < ·)) (b1:∀ p∈S,∀ b∈p.2,b∈bs) (b2:∀ p∈T,∀ b∈p.2,b∈bs)
  {n j:Nat} (hj:j < (rowsOf bs n).length) (hs:∀ r:List Int,r≠[]->r.length < n->(∀ b∈r,b∈bs)->rdO S r=rdO T r) (hp:∀ i (hi:i < (rowsOf bs n).length),i < j->rdO S (rowsOf bs n)[i]=rdO T (rowsOf bs n)[i]) (hd:rdO S (rowsOf bs n)[j]≠rdO T (rowsOf bs n)[j]) :
  unsh S T++unsh T S≠[]/\(rowsOf bs n)[j]=keyMin (unsh S T++unsh T S):=by
 have ne:unsh S T++unsh T S≠[]:=fun z=>hd (due_below f1 f2 n1 n2 (fun w hw=>by rw [z] at hw; cases hw))
 refine ⟨ne,?_⟩
 have hm:=keyMin_mem ne
 have hat:=due_at f1 f2 n1 n2 hm
 have hmb:keyMin (unsh S T++unsh T S)≠[]/\∀ b∈keyMin (unsh S T++unsh T S),b∈bs:=by
  rcases List.mem_append.mp hm with z | z
  ·obtain ⟨p,q,_,e⟩:=mem_unsh.mp z
   rw [<- e]; exact ⟨n1 p q,b1 p q⟩
  ·obtain ⟨p,q,_,e⟩:=mem_unsh.mp z
   rw [<- e]; exact ⟨n2 p q,b2 p q⟩
 obtain ⟨rl,rb⟩:=(mem_rows n _).mp (List.getElem_mem hj)
 refine key_tot ?_ ?_
 ·cases e:keyLt (rowsOf bs n)[j] (keyMin (unsh S T++unsh T S)) with
  | false=>rfl
  | true =>
   refine absurd (due_below f1 f2 n1 n2 fun w hw=>?_) hd
   cases e2:keyLt (rowsOf bs n)[j] w with
   | true=>rfl
   | false =>
    have:=key_le_trans (a:=w) (b:=keyMin (unsh S T++unsh T S)) (c:=(rowsOf bs n)[j])
    have h3:=keyMin_least hw
    cases e3:keyLt (keyMin (unsh S T++unsh T S)) w with
    | true=>rw [key_trans e e3] at e2; cases e2
    | false=>rw [key_tot e3 h3] at e; rw [e] at e2; cases e2
 ·cases e:keyLt (keyMin (unsh S T++unsh T S)) (rowsOf bs n)[j] with
  | false=>rfl
  | true =>
   generalize keyMin (unsh S T++unsh T S)=m at *
   unfold keyLt at e
   by_cases el:m.length=(rowsOf bs n)[j].length
   ·rw [if_pos el] at e
    obtain ⟨i,hi,ei⟩:=List.getElem_of_mem ((mem_rows n m).mpr ⟨by rw [el,rl],hmb.2⟩)
    by_cases hij:i < j
    ·refine absurd ?_ hat
     have:=hp i hi hij
     rwa [ei] at this
    ·have pw:=List.pairwise_iff_getElem.mp (rows_sorted hb n)
     by_cases h2:i=j
     ·subst h2; rw [ei,lex_irr] at e; cases e
     ·have:=pw j i hj hi (by omega)
      rw [ei] at this
      have:=lex_trans e this
      rw [lex_irr] at this
      cases this
   ·rw [if_neg el] at e
    have:=of_decide_eq_true e
    exact absurd (hs m hmb.1 (by omega) hmb.2) hat
def dRead27:Sp3:=fun ds M K=>∃ (L:List Pr) (d:D) (ns:List Int),ds=[.lst (L.map pD),d]/\lsOf M d=some (ns.map .int)/\((Free L/\Fits L)/\ns.length<=100)/\(∀ t,rdO L ns=some t->K (.cell M.length) (M++[.lst (t.map .int)]))/\(rdO L ns=none->K .non M)
def rwD (r:List Int):D:=.lst (r.map .int)
def dRows27:Sp3:=fun ds M K=>∃ (d:D) (bs:List Int) (n:Nat),ds=[d,.int n]/\lsOf M d=some (bs.map .int)/\(bs.length<=3/\n<=4)/\K (.lst ((rowsOf bs n).map rwD)) M
def dueD (us:List (List Int)):D:=if us=[] then .non else rwD (keyMin us)
def dDue27:Sp3:=fun ds M K=>∃ (S T:List Pr) (bs:List Int),ds=[.lst (S.map pD),.lst (T.map pD),.lst (bs.map .int)]/\((Free S/\Fits S)/\(Free T/\Fits T)/\(∀ p∈S,∀ b∈p.2,b∈bs)/\(∀ p∈T,∀ b∈p.2,b∈bs)/\bs.Nodup/\bs.length<=3)/\K (dueD (unsh S T++unsh T S)) M
def oT:Option (List Int)->D
 | none=>.non
 | some t=>rwD t
theorem eqv_oT {a b:Option (List Int)} {M:Mem} {K:Bool->Prop} (h:K (decide (a=b))):eqV (oT a) (oT b) M K:=by
 cases a with
 | none =>
  cases b with
  | none=>exact .inl ⟨true,rfl,by rwa [decide_eq_true rfl] at h⟩
  | some t =>
   rw [decide_eq_false (fun z=>nomatch z)] at h
   exact .inr ⟨.none,_,.non,(encLst encInt).ok M t,rfl,((encLst encInt).shp t).shaped (by decide),h⟩
 | some s =>
  cases b with
  | none =>
   rw [decide_eq_false (fun z=>nomatch z)] at h
   exact .inr ⟨_,.none,(encLst encInt).ok M s,.non,((encLst encInt).shp s).shaped (by decide),rfl,h⟩
  | some t =>
   refine eqv_enc (encLst encInt) (a:=s) (b:=t) ?_
   rwa [show decide (some s=some t)=decide (s=t) by simp] at h
def uFrzO (u:TE3):TE3:=fun ρ M K=>u ρ M fun d M'=>frzK M.length K d M'\/K d M'
def s_frzO {C:Cf} {Z:Anc} {t:TE} {u:TE3} (h:SimE C Z t u):SimE C Z t (uFrzO u):=fun I α σ H ρ M K Q R E hh k=>h I α σ H ρ M _ _ R E hh fun v d I' α' H' M' s p R' r hk=>by
 rcases hk with hk | hk
 ·exact k.frz R.len R.aa v d I' α' H' M' s p R' r hk
 ·exact k v d I' α' H' M' s p R' r hk
def bm_ints {n:Nat} {t:List Int}:BelowM n (.lst (t.map .int)):=bm_lst (below_map (fun _=>below_int) t)
def dTableS:Sp3:=fun ds M K=>∃ (k:Nat) (ws:List (List Int)) (ss:List Int),ds=[.cell k,.lst (ws.map wD),.lst (ss.map .int)]/\M[k]?=some .hand/\(WOk ws/\ws.length<=28/\ss.Nodup/\ws.length<=ss.length/\ss.length<=100)/\∀ L:List Pr,Free L->Fits L->(L.map (·.2)).Perm ws->(∀ p∈L,p.1∈ss)->K (.lst (L.map pD)) M
def dSame27:Sp3:=fun ds M K=>∃ (d:D) (o:Option (List Int)),ds=[d,oT o]/\(match o with | none=>d=.non | some t=>lsOf M d=some (t.map .int)/\t.length<=100)/\K (.bl true) M
structure TbK (L:List Pr) (bs:List Int):Prop where
 fr:Free L
 fi:Fits L
 by_:∀ p∈L,∀ b∈p.2,b∈bs
 ln:L.length<=28
def dNear27:Sp3:=fun ds M K=>∃ (k:Nat) (L:List Pr) (bs ss:List Int),ds=[.cell k,.lst (L.map pD),.lst (bs.map .int),.lst (ss.map .int)]/\M[k]?=some .hand/\(TbK L bs/\bs.Nodup/\2<=bs.length/\ss.Nodup/\ss.length=22/\∀ p∈L,p.1∈ss.take 20)/\∀ L2:List Pr,Free L2->Fits L2->(∀ p∈L2,∀ b∈p.2,b∈bs)->K (.lst (L2.map pD)) M
def dWide27 (Pt:Addr) (pos:Pos) (q:Str) (P2:Addr) (pos2:Pos) (q2:Str):Sp3:=fun ds M K=>∃ (k1 k2 k:Nat),ds=[.cell k]/\M[k1]?=some (.tab Pt pos q)/\M[k2]?=some (.tab P2 pos2 q2)/\M[k]?=some .hand/\K (.bl true) M
def apart_comm {p q:Pr} (h:Apart p q):Apart q p:=⟨h.1.symm,h.2.2,h.2.1⟩
def free_mid {A B Ms:List Pr} {p:Pr} (h:Free (A++p::B)) (hm:∀ m∈Ms,∀ q∈A++B,Apart q p->Apart q m) (fm:Free Ms):Free (A++Ms++B):=by
 obtain ⟨h1,h2,h3⟩:=List.pairwise_append.mp h
 obtain ⟨h4,h5⟩:=List.pairwise_cons.mp h2
 have ap:∀ q∈A,Apart q p:=fun q hq=>h3 q hq p List.mem_cons_self
 refine List.pairwise_append.mpr ⟨List.pairwise_append.mpr ⟨h1,fm,fun q hq m hm'=>hm m hm' q (List.mem_append_left _ hq) (ap q hq)⟩,h5,fun x hx y hy=>?_⟩
 rcases List.mem_append.mp hx with z | z
 ·exact h3 x z y (List.mem_cons_of_mem _ hy)
 ·exact apart_comm (hm x z y (List.mem_append_right _ hy) (apart_comm (h4 y hy)))
def apart_sign {p q:Pr} {s:Int} (h:Apart q p) (hs:q.1≠s):Apart q (s,p.2):=⟨hs,h.2.1,h.2.2⟩
def apart_more {p q:Pr} {s b:Int} (h:Apart q p) (hs:q.1≠s):Apart q (s,p.2++[b]):=by
 refine ⟨hs,fun z=>?_,fun z=>h.2.2 ((List.prefix_append _ _).trans z)⟩
 rcases List.prefix_concat_iff.mp z with e | e
 ·exact h.2.2 (by rw [e]; exact List.prefix_append _ _)
 ·exact h.2.1 e
def apart_two {w:List Int} {s t b c:Int} (hs:s≠t) (hb:b≠c):Apart (s,w++[b]) (t,w++[c]):=by
 have key:∀ {b c:Int},b≠c->¬ w++[b]<+:w++[c]:=fun {b c} hb z=>by
  have:=z.eq_of_length (by rw [List.length_append,List.length_append]; rfl)
  have:=List.append_cancel_left this
  injection this with e _
  exact hb e
 exact ⟨hs,key hb,key (Ne.symm hb)⟩
def free_swap {A:List Pr} {x y:Pr} (h:Free (A++[x,y])):Free (A++[(y.1,x.2),(x.1,y.2)]):=by
 obtain ⟨h1,h2,h3⟩:=List.pairwise_append.mp h
 have hxy:Apart x y:=(List.pairwise_cons.mp h2).1 y List.mem_cons_self
 refine List.pairwise_append.mpr ⟨h1,List.pairwise_cons.mpr ⟨fun m hm=>?_,List.pairwise_singleton _ _⟩,fun q hq m hm=>?_⟩
 ·rw [List.mem_singleton.mp hm]
  exact ⟨hxy.1.symm,hxy.2.1,hxy.2.2⟩
 ·have a1:=h3 q hq x List.mem_cons_self
  have a2:=h3 q hq y (List.mem_cons_of_mem _ List.mem_cons_self)
  rcases List.mem_cons.mp hm with z | z
  ·rw [z]; exact ⟨a2.1,a1.2.1,a1.2.2⟩
  ·rw [List.mem_singleton.mp z]; exact ⟨a1.1,a2.2.1,a2.2.2⟩
def free_words {L:List Pr} (h:Free L) (ne:∀ p∈L,p.2≠[]):(L.map (·.2)).Nodup:=by
 refine List.pairwise_map.mpr (h.imp fun {a b} z e=>?_)
 exact z.2.1 (by rw [e]; exact List.prefix_refl _)
def split_at {L:List Pr} {j:Nat} (hj:j < L.length):L=L.take j++L[j]::L.drop (j + 1):=by
 rw [List.getElem_cons_drop,List.take_append_drop]
section
variable {C:Cf} {Z:Anc} {to:TE} {uo:TE3} {t:TA} {u:TA3}
theorem Reps.erase {I:Hp} {α:List Addr}:∀ {vs:List V} {ds:List D} (n:Nat),Reps C I α vs ds->Reps C I α (vs.eraseIdx n) (ds.eraseIdx n)
 | _,_,_,.nil=>.nil
 | _,_,0,.cons _ t=>t
 | _,_,n + 1,.cons r t=>.cons r (Reps.erase n t)
def popAt3:D->List D->Mem->K3->Prop:=fun d ds M K=>∃ (k:Nat) (xs:List D) (m:Nat) (y:D),d=.cell k/\ds=[.int m]/\M[k]?=some (.lst xs)/\xs[m]?=some y/\xs.length < 1000/\K y (M.set k (.lst (xs.eraseIdx m)))
theorem s_popAt (ho:SimE C Z to uo) (ha:SimA C Z t u):SimE C Z (tBM C.k "list" rPopAt to t) (fun ρ M K=>uo ρ M fun d M1=>lsOf M1 d≠none/\u ρ M1 fun ds M2=>popAt3 d ds M2 K):=fun I α σ H ρ M K Q R E h k =>
 ho I α σ H ρ M _ _ R E h fun v d I1 α1 H1 M1 s1 p1 R1 r1 h1=>by
  obtain ⟨hn,h1⟩:=h1
  cases hl:lsOf M1 d with
  | none=>exact absurd hl hn
  | some zs =>
   obtain ⟨a,vs,rfl,ea,ra⟩:=ls_at R1 r1 hl
   refine ⟨tyV_lst ea,ha I1 α1 σ H1 ρ M1 _ _ R1 (E.mono s1 p1) h1 fun ws ds I2 α2 H2 M2 s2 p2 R2 r2 h2=>?_⟩
   obtain ⟨j,xs,m,y,rfl,rfl,e1,hm,hz,h2⟩:=h2
   cases r2 with
   | cons rm rn =>
    cases rm
    cases rn
    cases (r1.mono s2 p2) with
    | cell ec =>
     obtain ⟨us,eu,ru⟩:=cell_lst R2 ec e1
     obtain ⟨w,ew,rw'⟩:=ru.get hm
     have hlt:m < us.length:=(List.getElem?_eq_some_iff.mp ew).1
     have hz':us.length < 1000:=by rw [ru.length]; exact hz
     refine ⟨a,us,m,m,w,rfl,rfl,eu,by omega,by omega,?_,ew,?_⟩
     ·have:=PySem.StrLaws.seqIndex_nonneg (i:=(m:Int)) (n:=us.length) (by omega) (by omega)
      rwa [Int.toNat_natCast] at this
     ·exact k _ _ I2 α2 _ _ (s1.trans s2) (p1.trans p2) (R2.putL ec (ru.erase m)) rw' h2
end
def keyMin_one {us:List (List Int)} {w:List Int} (h:us≠[]) (h1:∀ u∈us,u=w):keyMin us=w:=h1 _ (keyMin_mem h)
def keyMin_congr {us vs:List (List Int)} (h:us≠[]) (hm:∀ w,w∈us↔w∈vs):vs≠[]/\keyMin us=keyMin vs:=by
 have hv:vs≠[]:=fun z=>by
  have:=(hm _).mp (keyMin_mem h)
  rw [z] at this; cases this
 exact ⟨hv,key_tot (keyMin_least (us:=vs) ((hm _).mp (keyMin_mem h)) ) (keyMin_least (us:=us) ((hm _).mpr (keyMin_mem hv)))⟩
def unsh_perm {S S' T T':List Pr} (h1:S.Perm S') (h2:T.Perm T') (w:List Int):w∈unsh S T↔w∈unsh S' T':=by
 rw [mem_unsh,mem_unsh]
 constructor
 ·rintro ⟨p,a,b,c⟩; exact ⟨p,h1.mem_iff.mp a,fun z=>b (h2.mem_iff.mpr z),c⟩
 ·rintro ⟨p,a,b,c⟩; exact ⟨p,h1.mem_iff.mpr a,fun z=>b (h2.mem_iff.mp z),c⟩
def unsh_two {S S' T T':List Pr} (h1:S.Perm S') (h2:T.Perm T') (w:List Int):w∈unsh S T++unsh T S↔w∈unsh S' T'++unsh T' S':=by
 rw [List.mem_append,List.mem_append,unsh_perm h1 h2,unsh_perm h2 h1]
def unsh_flip {S T:List Pr} (w:List Int):w∈unsh S T++unsh T S↔w∈unsh T S++unsh S T:=by
 rw [List.mem_append,List.mem_append,Or.comm]
theorem unsh_self {S T:List Pr} (h:S.Perm T):unsh S T=[]:=by
 cases e:unsh S T with
 | nil=>rfl
 | cons w r =>
  obtain ⟨p,a,b,_⟩:=mem_unsh.mp (show w∈unsh S T by rw [e]; exact List.mem_cons_self)
  exact absurd (h.mem_iff.mp a) b
def near_us {A B Ms:List Pr} {p:Pr} (fr:Free (A++p::B)) (hm:∀ m∈Ms,m.2=p.2/\m∉A++p::B) {S T:List Pr} (hS:S.Perm (A++p::B)) (hT:T.Perm (A++Ms++B)) :
  unsh S T++unsh T S≠[]/\keyMin (unsh S T++unsh T S)=p.2:=by
 obtain ⟨_,h2,h3⟩:=List.pairwise_append.mp fr
 have hp:p∈A++p::B:=List.mem_append_right _ List.mem_cons_self
 have np:p∉A++Ms++B:=fun z=>by
  rcases List.mem_append.mp z with z | z
  ·rcases List.mem_append.mp z with z | z
   ·exact (h3 p z p List.mem_cons_self).1 rfl
   ·exact (hm p z).2 hp
  ·exact ((List.pairwise_cons.mp h2).1 p z).1 rfl
 have hin:p.2∈unsh S T++unsh T S:=List.mem_append_left _ (mem_unsh.mpr ⟨p,hS.mem_iff.mpr hp,fun z=>np (hT.mem_iff.mp z),rfl⟩)
 have ne:unsh S T++unsh T S≠[]:=fun z=>by rw [z] at hin; cases hin
 refine ⟨ne,keyMin_one ne fun u hu=>?_⟩
 rcases List.mem_append.mp hu with z | z
 ·obtain ⟨q,a,b,e⟩:=mem_unsh.mp z
  have b':q∉A++Ms++B:=fun y=>b (hT.mem_iff.mpr y)
  rcases List.mem_append.mp (hS.mem_iff.mp a) with y | y
  ·exact absurd (List.mem_append_left _ (List.mem_append_left _ y)) b'
  ·rcases List.mem_cons.mp y with y | y
   ·rw [<- e,y]
   ·exact absurd (List.mem_append_right _ y) b'
 ·obtain ⟨q,a,b,e⟩:=mem_unsh.mp z
  have b':q∉A++p::B:=fun y=>b (hS.mem_iff.mpr y)
  rcases List.mem_append.mp (hT.mem_iff.mp a) with y | y
  ·rcases List.mem_append.mp y with y | y
   ·exact absurd (List.mem_append_left _ y) b'
   ·rw [<- e,(hm q y).1]
  ·exact absurd (List.mem_append_right _ (List.mem_cons_of_mem _ y)) b'
def wideL (b:Int) (ss:List Int):List Pr:=(List.range 24).map fun k=>(ss.getD k 0,[(b + 13 * (k:Int)) % 256])
def wide_len (b:Int) (ss:List Int):(wideL b ss).length=24:=by unfold wideL; rw [List.length_map,List.length_range]
theorem wide_get (b:Int) {ss:List Int} (ls:ss.length=25) {j:Nat} (hj:j < 24):(wideL b ss)[j]'(by rw [wide_len]; exact hj)=(ss[j],[(b + 13 * (j:Int)) % 256]):=by
 unfold wideL
 rw [List.getElem_map,List.getElem_range,List.getD_eq_getElem?_getD,List.getElem?_eq_getElem (by omega)]
 rfl
theorem wide_ok (b:Int) {ss:List Int} (nd:ss.Nodup) (ls:ss.length=25):Free (wideL b ss)/\Fits (wideL b ss)/\∀ p∈wideL b ss,p.1≠ss[24]:=by
 refine ⟨?_,⟨by rw [wide_len]; decide,fun p hp=>?_⟩,fun p hp e=>?_⟩
 ·refine List.pairwise_iff_getElem.mpr fun i j hi hj hij=>?_
  have hi':i < 24:=by rw [wide_len] at hi; exact hi
  have hj':j < 24:=by rw [wide_len] at hj; exact hj
  rw [wide_get b ls hi',wide_get b ls hj']
  have hw:(b + 13 * (i:Int)) % 256≠(b + 13 * (j:Int)) % 256:=by omega
  have key:∀ x y:Int,x≠y->¬ [x]<+:[y]:=fun x y h z=>by
   obtain ⟨t,e⟩:=z
   injection e with e _
   exact h e
  refine ⟨fun e=>?_,key _ _ hw,key _ _ hw.symm⟩
  have:=(List.getElem_inj (i:=i) (j:=j) (h₀:=by omega) (h₁:=by omega) nd).mp e
  omega
 ·unfold wideL at hp
  obtain ⟨k,_,rfl⟩:=List.mem_map.mp hp
  exact ⟨by simp,by show 1<=4; decide⟩
 ·obtain ⟨j,hj,rfl⟩:=List.getElem_of_mem hp
  have hj':j < 24:=by rw [wide_len] at hj; exact hj
  rw [wide_get b ls hj'] at e
  have:=(List.getElem_inj (i:=j) (j:=24) (h₀:=by omega) (h₁:=by omega) nd).mp e
  omega
def dWordsC:Sp3:=fun ds M K=>∃ (k:Nat) (bs:List Int) (m lg:Int),ds=[.cell k,.lst (bs.map .int),.int m,.int lg]/\M[k]?=some .hand/\(bs.Nodup/\bs≠[]/\bs.length<=24/\0<=m/\m<=6/\1<=lg/\lg<=4)/\∀ ws:List (List Int),WOk ws->(∀ w∈ws,∀ b∈w,b∈bs)->(ws.length:Int)<=bs.length + m * (bs.length - 1)->K (.lst (ws.map wD)) M
end L3
namespace K27
open PySem L2
def top (i:Nat):Stmt:=PySem.Challenge.pw_skewread_k27_telling.main.body.getD i (.Pass ⟨0,0,0,0⟩)
abbrev s__law_draw:Stmt:=top 16
def sc__law_draw:FnScope ["_law_hand", "_law_many", "_law_got", "_law_cell", "_law_number"] ["_law_hand", "_law_many"] (defScope s__law_draw):=⟨rfl,rfl,rfl,by decide +kernel,rfl,by decide +kernel,by decide +kernel⟩
abbrev s__law_open:Stmt:=top 15
def sc__law_open:FnScope ["_law_script", "_law_place", "_law_cells", "_law_at", "_law_digits"] ["_law_script", "_law_place"] (defScope s__law_open):=⟨rfl,rfl,rfl,by decide +kernel,rfl,by decide +kernel,by decide +kernel⟩
abbrev s__law_bytes:Stmt:=top 17
def sc__law_bytes:FnScope ["_law_hand", "_law_most", "_law_begin", "_law_step"] ["_law_hand", "_law_most"] (defScope s__law_bytes):=⟨rfl,rfl,rfl,by decide +kernel,rfl,by decide +kernel,by decide +kernel⟩
abbrev s__law_words:Stmt:=top 18
def sc__law_words:FnScope ["_law_hand", "_law_some", "_law_most", "_law_longest", "_law_words_here", "_law_k", "_law_at"] ["_law_hand", "_law_some", "_law_most", "_law_longest"] (defScope s__law_words):=⟨rfl,rfl,rfl,by decide +kernel,rfl,by decide +kernel,by decide +kernel⟩
abbrev s__law_signs:Stmt:=top 19
def sc__law_signs:FnScope ["_law_hand", "_law_many", "_law_begin", "_law_step", "_law_signs_here", "_law_at"] ["_law_hand", "_law_many"] (defScope s__law_signs):=⟨rfl,rfl,rfl,by decide +kernel,rfl,by decide +kernel,by decide +kernel⟩
abbrev s_odds_between:Stmt:=top 10
def sc_odds_between:FnScope ["one", "other", "shared"] ["one", "other"] (defScope s_odds_between):=⟨rfl,rfl,rfl,by decide +kernel,rfl,by decide +kernel,by decide +kernel⟩
abbrev s_fault:Stmt:=top 9
def sc_fault:FnScope ["table", "second", "first", "odds"] ["table"] (defScope s_fault):=⟨rfl,rfl,rfl,by decide +kernel,rfl,by decide +kernel,by decide +kernel⟩
abbrev s_refuse_fault:Stmt:=top 11
def sc_refuse_fault:FnScope ["table", "found"] ["table"] (defScope s_refuse_fault):=⟨rfl,rfl,rfl,by decide +kernel,rfl,by decide +kernel,by decide +kernel⟩
abbrev s_beginnings:Stmt:=top 12
def sc_beginnings:FnScope ["words", "found", "word", "size"] ["words"] (defScope s_beginnings):=⟨rfl,rfl,rfl,by decide +kernel,rfl,by decide +kernel,by decide +kernel⟩
abbrev s_Code___init__:Stmt:=inClass (top 13) 0
def sc_Code___init__:FnScope ["self", "table"] ["self", "table"] (defScope s_Code___init__):=⟨rfl,rfl,rfl,by decide +kernel,rfl,by decide +kernel,by decide +kernel⟩
abbrev s_Code_word:Stmt:=inClass (top 13) 3
def sc_Code_word:FnScope ["self", "sign"] ["self", "sign"] (defScope s_Code_word):=⟨rfl,rfl,rfl,by decide +kernel,rfl,by decide +kernel,by decide +kernel⟩
abbrev s_Code_table:Stmt:=inClass (top 13) 1
def sc_Code_table:FnScope ["self"] ["self"] (defScope s_Code_table):=⟨rfl,rfl,rfl,by decide +kernel,rfl,by decide +kernel,by decide +kernel⟩
abbrev s__law_from:Stmt:=top 21
def sc__law_from:FnScope ["_law_table_here", "_law_row", "_law_at", "_law_one", "_law_some"] ["_law_table_here", "_law_row", "_law_at"] (defScope s__law_from):=⟨rfl,rfl,rfl,by decide +kernel,rfl,by decide +kernel,by decide +kernel⟩
abbrev s_unshared_words:Stmt:=top 7
def sc_unshared_words:FnScope ["one", "other"] ["one", "other"] (defScope s_unshared_words):=⟨rfl,rfl,rfl,by decide +kernel,rfl,by decide +kernel,by decide +kernel⟩
abbrev s_telling:Stmt:=top 6
def sc_telling:FnScope ["one", "other", "words"] ["one", "other"] (defScope s_telling):=⟨rfl,rfl,rfl,by decide +kernel,rfl,by decide +kernel,by decide +kernel⟩
abbrev s__law_by_size:Stmt:=top 25
def sc__law_by_size:FnScope ["_law_pair"] ["_law_pair"] (defScope s__law_by_size):=⟨rfl,rfl,rfl,by decide +kernel,rfl,by decide +kernel,by decide +kernel⟩
abbrev s__law_read:Stmt:=top 22
def sc__law_read:FnScope ["_law_table_here", "_law_row", "_law_text", "_law_at", "_law_found"] ["_law_table_here", "_law_row"] (defScope s__law_read):=⟨rfl,rfl,rfl,by decide +kernel,rfl,by decide +kernel,by decide +kernel⟩
abbrev s__law_rows:Stmt:=top 23
def sc__law_rows:FnScope ["_law_some", "_law_size", "_law_rows_here", "_law_k", "_law_longer", "_law_row"] ["_law_some", "_law_size"] (defScope s__law_rows):=⟨rfl,rfl,rfl,by decide +kernel,rfl,by decide +kernel,by decide +kernel⟩
abbrev s__law_due:Stmt:=top 24
def sc__law_due:FnScope ["_law_first", "_law_second", "_law_some", "_law_size", "_law_row"] ["_law_first", "_law_second", "_law_some"] (defScope s__law_due):=⟨rfl,rfl,rfl,by decide +kernel,rfl,by decide +kernel,by decide +kernel⟩
abbrev s__law_table:Stmt:=top 20
def sc__law_table:FnScope ["_law_hand", "_law_words_here", "_law_signs_here", "_law_at", "_law_spun", "_law_pairs"] ["_law_hand", "_law_words_here", "_law_signs_here"] (defScope s__law_table):=⟨rfl,rfl,rfl,by decide +kernel,rfl,by decide +kernel,by decide +kernel⟩
abbrev s__law_same:Stmt:=top 27
def sc__law_same:FnScope ["_law_found", "_law_due_here"] ["_law_found", "_law_due_here"] (defScope s__law_same):=⟨rfl,rfl,rfl,by decide +kernel,rfl,by decide +kernel,by decide +kernel⟩
abbrev s__law_near:Stmt:=top 26
def sc__law_near:FnScope ["_law_hand", "_law_table_here", "_law_some", "_law_signs_here", "_law_way", "_law_order", "_law_at", "_law_one", "_law_word"] ["_law_hand", "_law_table_here", "_law_some", "_law_signs_here"] (defScope s__law_near):=⟨rfl,rfl,rfl,by decide +kernel,rfl,by decide +kernel,by decide +kernel⟩
abbrev s__law_wide:Stmt:=top 28
def sc__law_wide:FnScope ["_law_hand", "_law_begin", "_law_signs_here", "_law_table_here", "_law_other", "_law_way", "_law_at", "_law_due_here", "_law_codes"] ["_law_hand"] (defScope s__law_wide):=⟨rfl,rfl,rfl,by decide +kernel,rfl,by decide +kernel,by decide +kernel⟩
abbrev s_law:Stmt:=top 29
def sc_law:FnScope ["_law_script", "_law_hand", "_law_place", "_law_some", "_law_signs_here", "_law_most", "_law_first", "_law_second", "_law_way", "_law_codes", "_law_due_here", "_law_found"] ["_law_script"] (defScope s_law):=⟨rfl,rfl,rfl,by decide +kernel,rfl,by decide +kernel,by decide +kernel⟩
structure Txt (mg:Str->Option Value):Prop where
 b_len:mg "len"=none
 b_abs:mg "abs"=none
 b_max:mg "max"=none
 b_min:mg "min"=none
 b_isinstance:mg "isinstance"=none
 b_all:mg "all"=none
 b_range:mg "range"=none
 b_int:mg "int"=none
 b_bool:mg "bool"=none
 b_tuple:mg "tuple"=none
 b_list:mg "list"=none
 b_dict:mg "dict"=none
 b_sorted:mg "sorted"=none
 b_enumerate:mg "enumerate"=none
 b_ValueError:mg "ValueError"=none
section
variable {P:Program} {w:World} {K:W.Frag} {mg:Str->Option Value} {base:Heap}
theorem ok__law_draw (T:Txt mg) {f:Addr} {fd:FuncData} (F:Fun K "_law_draw" "_law_draw" s__law_draw f fd):FnOk P w K mg base CX0 1 f fd ["_law_hand", "_law_many"] spDraw:=by
 refine F.ok sc__law_draw (fun vs H Q E h=>?_) (fun cdv A outer s H vs Q E hr h=>?_)
 ·obtain ⟨p,a,n,rfl,_⟩:=h
  rfl
 ·obtain ⟨p,a,n,rfl,hh,hn0,hn1,k⟩:=h
  obtain ⟨d,i,cs,e1,e2,hne,hlen,hd,hi,hc⟩:=hh.ex
  have npa:p≠a:=hh.ne
  have SC:=sc__law_draw
  have fin:∀ (r d' i':Int),0<=r->r < n->0<=d'->0<=i'->Q (.int r) (upd H p (.lst [.int d',.int i',.ref a])):=fun r d' i' h1 h2 h3 h4 =>
   k r _ h1 h2 ⟨d',i',cs,upd_same,by rw [upd_ne npa.symm]; exact e2,hne,hlen,h3,h4,hc⟩ (fun b o e nb=>by rw [upd_ne nb]; exact e) fun b nb=>by rw [upd_ne nb]
  refine ⟨_,(pss_cons (ps_if (pt_cmpR op_gt (pe_ix ix_list (pv 0) pe_int (fun _ _=>rfl)) pe_int (nomark _))
 (pss_cons (ps_set (i:=2) SC.nd rfl (Or.inl rfl) (pe_op op_mod (pe_ix ix_list (pv 0) pe_int (fun _ _=>rfl)) (pv 1)))
 (pss_cons (ps_asg (pe_op op_fdiv (pe_ix ix_list (pv 0) pe_int (fun _ _=>rfl)) (pv 1)) (pg_sub (pv 0) pe_int set_list))
 (pss_one (ps_ret (pv 2)))))
 pss_nil)
 (pss_cons (ps_augS (pv 0) pe_int pget_list pe_int ip_add set_list)
 (pss_cons (ps_set (i:=3) SC.nd rfl (Or.inl rfl) (pe_op op_mod (pe_ix ix_list (pe_ix ix_list (pv 0) pe_int (fun _ _=>rfl)) (pe_op op_mod (pe_ix ix_list (pv 0) pe_int (fun _ _=>rfl)) (pe_callB call_len (by rfl) T.b_len PySem.boot_len (pa_cons (pe_ix ix_list (pv 0) pe_int (fun _ _=>rfl)) pa_nil))) (fun _ _=>rfl)) pe_int))
 (pss_cons (ps_set (i:=4) SC.nd rfl (Or.inl rfl) (pe_op op_mod (pe_op op_add (pe_op op_add (pe_op op_mul (pv 3) pe_int) (pe_op op_mul (pe_ix ix_list (pv 0) pe_int (fun _ _=>rfl)) pe_int)) pe_int) pe_int))
 (pss_cons (ps_set (i:=4) SC.nd rfl (Or.inl rfl) (pe_op op_mod (pe_op op_add (pe_op op_mul (pv 4) (pv 4)) (pe_ix ix_list (pv 0) pe_int (fun _ _=>rfl))) pe_int))
 (pss_cons (ps_set (i:=4) SC.nd rfl (Or.inl rfl) (pe_op op_mod (pe_op op_add (pe_op op_mul (pv 4) pe_int) pe_int) pe_int))
 (pss_one (ps_ret (pe_op op_mod (pe_op op_fdiv (pe_op op_mod (pe_op op_mul (pv 4) (pv 4)) pe_int) pe_int) (pv 1)))))))))),?_⟩
  refine ⟨_,rfl,p,_,_,_,rfl,rfl,SqL.of e1,rfl,_,_,rfl,rfl,_,rfl,?_⟩
  refine ite2 (fun h0=>?_) (fun h0=>?_)
  ·refine ⟨_,rfl,p,_,_,_,rfl,rfl,SqL.of e1,rfl,_,rfl,_,_,rfl,rfl,hn0,?_⟩
   refine ⟨_,rfl,p,_,_,_,rfl,rfl,SqL.of e1,rfl,_,rfl,_,_,rfl,rfl,⟨hn0,hn1⟩,_,rfl,p,_,_,0,rfl,rfl,e1,rfl,?_⟩
   refine ⟨_,rfl,?_⟩
   exact fin _ _ _ (Int.emod_nonneg _ (by omega)) (Int.emod_lt_of_pos _ hn0) (Int.ediv_nonneg hd (by omega)) hi
  ·have e1':(upd H p (.lst [.int d,.int (i + 1),.ref a])) p=some (.lst [.int d,.int (i + 1),.ref a]):=upd_same
   have e2':(upd H p (.lst [.int d,.int (i + 1),.ref a])) a=some (.lst (cs.map V.int)):=by rw [upd_ne npa.symm]; exact e2
   obtain ⟨c,hc1,hc2⟩:=at_rest hne (i + 1)
   have hlp:(0:Int) < (((cs.map V.int).length:Nat):Int):=by
    rw [List.length_map]
    have:=List.length_pos_iff.mpr hne
    omega
   refine ⟨_,rfl,p,_,1,_,rfl,rfl,SqL.of e1,rfl,_,_,rfl,rfl,p,_,_,1,rfl,rfl,e1,rfl,?_⟩
   refine ⟨_,rfl,p,_,_,_,rfl,rfl,SqL.of e1',rfl,_,rfl,p,_,_,_,rfl,rfl,SqL.of e1',rfl,_,rfl,p,_,_,_,rfl,rfl,SqL.of e1',rfl,_,_,rfl,.inl ⟨_,SqL.of e2',rfl⟩,_,_,rfl,rfl,hlp,
    a,_,_,_,rfl,rfl,SqL.of e2',hc2,_,_,rfl,rfl,(by show (0:Int) < _; decide),?_⟩
   refine ⟨_,rfl,_,_,rfl,rfl,.inr ⟨by decide,by decide⟩,_,rfl,p,_,_,_,rfl,rfl,SqL.of e1',rfl,_,_,rfl,rfl,.inr ⟨by decide,by decide⟩,_,_,rfl,rfl,_,_,rfl,rfl,_,_,rfl,rfl,(by show (0:Int) < _; decide),?_⟩
   generalize hx:(c % 2147483647 * 48271 + (i + 1) * 7368787 + 11) % 998244353=x
   have x0:0<=x:=by rw [<- hx]; exact Int.emod_nonneg _ (by decide)
   have x1:x < 998244353:=by rw [<- hx]; exact Int.emod_lt_of_pos _ (by decide)
   refine ⟨_,rfl,_,rfl,_,_,rfl,rfl,.inl ⟨by omega,by omega⟩,_,rfl,p,_,_,_,rfl,rfl,SqL.of e1',rfl,_,_,rfl,rfl,_,_,rfl,rfl,(by show (0:Int) < _; decide),?_⟩
   generalize hy:(x * x + (i + 1)) % 998244353=y
   refine ⟨_,rfl,_,_,rfl,rfl,.inr ⟨by decide,by decide⟩,_,_,rfl,rfl,_,_,rfl,rfl,(by show (0:Int) < _; decide),?_⟩
   generalize hz:(y * 40503203 + 12345) % 2147483647=z
   have z0:0<=z:=by rw [<- hz]; exact Int.emod_nonneg _ (by decide)
   have z1:z < 2147483647:=by rw [<- hz]; exact Int.emod_lt_of_pos _ (by decide)
   refine ⟨_,rfl,_,rfl,_,_,rfl,rfl,.inl ⟨by omega,by omega⟩,_,_,rfl,rfl,(by show (0:Int) < _; decide),_,_,rfl,rfl,⟨by decide,by decide⟩,_,rfl,_,_,rfl,rfl,hn0,?_⟩
   exact fin _ _ _ (Int.emod_nonneg _ (by omega)) (Int.emod_lt_of_pos _ hn0) hd (by show 0<=i + 1; omega)
theorem ok__law_open (T:Txt mg) {f:Addr} {fd:FuncData} (F:Fun K "_law_open" "_law_open" s__law_open f fd):FnOk P w K mg base CX0 1 f fd ["_law_script", "_law_place"] (spOpen K):=by
 refine F.ok sc__law_open (fun vs H Q E h=>?_) (fun cdv A outer s H vs Q E hr h=>?_)
 ·obtain ⟨s,ns,i,rfl,_⟩:=h
  rfl
 ·obtain ⟨s0,ns,i,rfl,hS,hlen,hi0,hi1,k⟩:=h
  have SC:=sc__law_open
  have hu:=hr.units
  refine ⟨_,(pss_cons (ps_comp (i:=2) SC.nd rfl rfl (T:=["_law_cell"]) (cs:=[]) rfl (CScope.ok (by kernel_rfl)) (pi_list (pe_slice sl_list (pv 0) po_none (po_some pe_int))) (fun _ _ _ _=>(pg_name (i:=0) (nd_of (by kernel_rfl)) rfl (Or.inl rfl) (Or.inr rfl))) (fun _ _ _ _=>pts_nil) (fun _ _ _ _=>(pe_callB call_abs (by rfl) T.b_abs PyProof.Rows.boot_abs (pa_cons (pv 0) pa_nil))) (gk_name (by decide)))
 (pss_cons (ps_if (pt_cmpR (op_eqD hu) (pv 2) (pe_lst pa_nil) (nomark _))
 (pss_one (ps_set (i:=2) SC.nd rfl (Or.inl rfl) (pe_lst (pa_cons pe_int pa_nil))))
 pss_nil)
 (pss_cons (ps_set (i:=3) SC.nd rfl (Or.inl rfl) (pe_op op_mod (pv 1) (pe_callB call_len (by rfl) T.b_len PySem.boot_len (pa_cons (pv 2) pa_nil))))
 (pss_cons (ps_set (i:=4) SC.nd rfl (Or.inl rfl) pe_int)
 (pss_cons (ps_if (PW.pt (pw_and (pt_cmpR op_ge (pe_ix ix_list (pv 2) (pv 3) (fun _ _=>rfl)) (pe_op op_pow pe_int pe_int) (nomark _)) (pw_and1 (pt_cmpR op_lt (pv 1) (pe_callB call_len (by rfl) T.b_len PySem.boot_len (pa_cons (pv 2) pa_nil)) (nomark _)))))
 (pss_one (ps_set (i:=4) SC.nd rfl (Or.inl rfl) (pe_ix ix_list (pv 2) (pv 3) (fun _ _=>rfl))))
 pss_nil)
 (pss_one (ps_ret (pe_lst (pa_cons (pv 4) (pa_cons (pe_op op_add pe_int (pe_op op_mul pe_int (pv 1))) (pa_cons (pe_op op_cat (pe_slice sl_list (pv 2) (po_some (pv 3)) po_none) (pe_slice sl_list (pv 2) po_none (po_some (pv 3)))) pa_nil))))))))))),?_⟩
  obtain ⟨ms,ems,lms,_⟩:=cut_ints ns none (some 63)
  refine ⟨_,rfl,_,rfl,s0,_,rfl,hS,fun q hq=>⟨q,rfl,⟨_,SqL.of upd_same⟩,comp_by (n:=ms.length) (fun j ys H'=>∃ as:List Int,ys=as.map V.int/\as.length=j/\(∀ c∈as,0<=c)/\H'=upd H q (.lst (cutV (ns.map V.int) none (some 63))))
   ⟨[],rfl,rfl,fun _ h=>(nomatch h),rfl⟩ ?_ (small_line (by omega)) ?_ ?_ ?_ ?_⟩⟩
  ·rintro j ys H' ⟨as,rfl,rfl,_⟩
   rw [List.length_map]
   exact Nat.le_refl _
  ·rintro j ys H' hj ⟨as,rfl,rfl,_,rfl⟩
   refine ⟨_,.int (ms[as.length]'hj),SqL.of upd_same,?_⟩
   rw [ems,List.getElem?_map,List.getElem?_eq_getElem hj]
   rfl
  ·rintro ys H' ⟨as,rfl,hl,_,rfl⟩
   exact ⟨_,SqL.of upd_same,by rw [ems,List.length_map]; exact Nat.le_refl _⟩
  ·rintro j ys H' hj ⟨as,rfl,rfl,hp,rfl⟩ x H2 ⟨rfl,y⟩
   have hx:=y _ (SqL.of upd_same)
   rw [ems,List.getElem?_map,List.getElem?_eq_getElem hj] at hx
   cases hx
   refine ⟨_,rfl,_,rfl,as++[_],by rw [List.map_append]; rfl,by rw [List.length_append]; rfl,fun c hc=>?_,rfl⟩
   rcases List.mem_append.mp hc with z | z
   ·exact hp c z
   ·rw [List.mem_singleton.mp z]
    split <;> omega
  ·rintro ys H' ⟨as,rfl,hl,hp,rfl⟩ c0 hc0
   have s1:Same H (upd H q (.lst (cutV (ns.map V.int) none (some 63)))):=same_upd hq
   generalize upd H q (.lst (cutV (ns.map V.int) none (some 63)))=H1 at hc0 s1
   have s2:Same H (upd H1 c0 (.lst (as.map V.int))):=s1.trans (same_upd hc0)
   have n0:H c0=none:=s1.free hc0
   have e0:(upd H1 c0 (.lst (as.map V.int))) c0=some (.lst (as.map V.int)):=upd_same
   generalize upd H1 c0 (.lst (as.map V.int))=H2 at s2 e0
   have hla:as.length<=63:=by omega
   refine ⟨_,rfl,Nat.zero_le _,fun l hl=>⟨_,_,DV.lst (SqL.of ((same_upd hl) _ _ e0)) (dvs_ints as),DV.lst (SqL.of upd_same) .nil,(shp_ints as).shaped (by decide),(shp_ints []).shaped (by decide),_,rfl,?_⟩⟩
   rw [eqv_nil]
   have s3:Same H (upd H2 l (.lst [])):=s2.trans (same_upd hl)
   have e1:(upd H2 l (.lst [])) c0=some (.lst (as.map V.int)):=(same_upd hl) _ _ e0
   generalize upd H2 l (.lst [])=H3 at s3 e1
   refine ite2 (fun h0=>?_) (fun h0=>?_)
   ·refine ⟨by show 1<=sizeLine; decide,fun c1 hc1=>?_⟩
    have W:HC H (upd H3 c1 (.lst [.int 0])) c1:=⟨[0],s3.trans (same_upd hc1),s3.free hc1,upd_same,by simp,by decide,by simp⟩
    revert W
    generalize upd H3 c1 (.lst [.int 0])=H4
    intro W
    obtain ⟨as4,s4,n4,e4,hne,hl4,hp4⟩:=W
    obtain ⟨c,hc1,hc2⟩:=at_rest hne i
    obtain ⟨cs,ecs,ncs,lcs,mcs⟩:=spun hne i
    have hlp:(0:Int) < (((as4.map V.int).length:Nat):Int):=by
     rw [List.length_map]
     have:=List.length_pos_iff.mpr hne
     omega
    refine ⟨_,rfl,_,rfl,_,_,rfl,.inl ⟨_,SqL.of e4,rfl⟩,_,_,rfl,rfl,hlp,?_⟩
    refine ⟨_,rfl,_,rfl,_,_,_,_,rfl,rfl,SqL.of e4,hc2,_,_,rfl,rfl,⟨by decide,by decide,by decide⟩,_,_,rfl,rfl,_,rfl,?_⟩
    refine ite2 (fun _=>?_) (fun _=>?_)
    ·refine ⟨_,rfl,_,rfl,_,_,rfl,.inl ⟨_,SqL.of e4,rfl⟩,_,_,rfl,rfl,_,rfl,?_⟩
     refine ite2 (fun _=>?_) (fun _=>?_)
     ·refine ⟨_,rfl,_,rfl,_,_,_,_,rfl,rfl,SqL.of e4,hc2,?_⟩
      exact ⟨_,rfl,_,rfl,_,_,rfl,rfl,.inl ⟨by decide,by decide⟩,_,_,rfl,rfl,_,rfl,_,rfl,_,rfl,_,_,rfl,SqL.of e4,fun l1 hl1=>⟨_,rfl,_,rfl,_,rfl,_,_,rfl,SqL.of ((same_upd hl1) _ _ e4),fun l2 hl2 =>
       ⟨l1,l2,_,_,rfl,rfl,(same_upd hl2) _ _ upd_same,upd_same,by rw [<- List.length_append,ecs,List.length_map]; exact small_line (by omega),fun l3 hl3=>⟨by show 3<=sizeLine; decide,fun p hp =>
        k p l3 _ (s4.free ((same_upd hl1).free ((same_upd hl2).free ((same_upd hl3).free hp)))) (s4.free ((same_upd hl1).free ((same_upd hl2).free hl3)))
         ⟨_,_,cs,upd_same,by rw [<- ecs]; exact (same_upd hp) _ _ upd_same,ncs,by omega,by first | exact hp4 _ hc1 | decide,by omega,fun x hx=>hp4 x (mcs x hx)⟩
         (((s4.trans (same_upd hl1)).trans (same_upd hl2)).trans ((same_upd hl3).trans (same_upd hp)))⟩⟩⟩⟩
     ·exact ⟨_,rfl,_,rfl,_,_,rfl,rfl,.inl ⟨by decide,by decide⟩,_,_,rfl,rfl,_,rfl,_,rfl,_,rfl,_,_,rfl,SqL.of e4,fun l1 hl1=>⟨_,rfl,_,rfl,_,rfl,_,_,rfl,SqL.of ((same_upd hl1) _ _ e4),fun l2 hl2 =>
       ⟨l1,l2,_,_,rfl,rfl,(same_upd hl2) _ _ upd_same,upd_same,by rw [<- List.length_append,ecs,List.length_map]; exact small_line (by omega),fun l3 hl3=>⟨by show 3<=sizeLine; decide,fun p hp =>
        k p l3 _ (s4.free ((same_upd hl1).free ((same_upd hl2).free ((same_upd hl3).free hp)))) (s4.free ((same_upd hl1).free ((same_upd hl2).free hl3)))
         ⟨_,_,cs,upd_same,by rw [<- ecs]; exact (same_upd hp) _ _ upd_same,ncs,by omega,by first | exact hp4 _ hc1 | decide,by omega,fun x hx=>hp4 x (mcs x hx)⟩
         (((s4.trans (same_upd hl1)).trans (same_upd hl2)).trans ((same_upd hl3).trans (same_upd hp)))⟩⟩⟩⟩
    ·refine iteF ?_
     exact ⟨_,rfl,_,rfl,_,_,rfl,rfl,.inl ⟨by decide,by decide⟩,_,_,rfl,rfl,_,rfl,_,rfl,_,rfl,_,_,rfl,SqL.of e4,fun l1 hl1=>⟨_,rfl,_,rfl,_,rfl,_,_,rfl,SqL.of ((same_upd hl1) _ _ e4),fun l2 hl2 =>
       ⟨l1,l2,_,_,rfl,rfl,(same_upd hl2) _ _ upd_same,upd_same,by rw [<- List.length_append,ecs,List.length_map]; exact small_line (by omega),fun l3 hl3=>⟨by show 3<=sizeLine; decide,fun p hp =>
        k p l3 _ (s4.free ((same_upd hl1).free ((same_upd hl2).free ((same_upd hl3).free hp)))) (s4.free ((same_upd hl1).free ((same_upd hl2).free hl3)))
         ⟨_,_,cs,upd_same,by rw [<- ecs]; exact (same_upd hp) _ _ upd_same,ncs,by omega,by first | exact hp4 _ hc1 | decide,by omega,fun x hx=>hp4 x (mcs x hx)⟩
         (((s4.trans (same_upd hl1)).trans (same_upd hl2)).trans ((same_upd hl3).trans (same_upd hp)))⟩⟩⟩⟩
   ·have W:HC H H3 c0:=⟨as,s3,n0,e1,by simpa using h0,hla,hp⟩
    obtain ⟨as4,s4,n4,e4,hne,hl4,hp4⟩:=W
    obtain ⟨c,hc1,hc2⟩:=at_rest hne i
    obtain ⟨cs,ecs,ncs,lcs,mcs⟩:=spun hne i
    have hlp:(0:Int) < (((as4.map V.int).length:Nat):Int):=by
     rw [List.length_map]
     have:=List.length_pos_iff.mpr hne
     omega
    refine ⟨_,rfl,_,rfl,_,_,rfl,.inl ⟨_,SqL.of e4,rfl⟩,_,_,rfl,rfl,hlp,?_⟩
    refine ⟨_,rfl,_,rfl,_,_,_,_,rfl,rfl,SqL.of e4,hc2,_,_,rfl,rfl,⟨by decide,by decide,by decide⟩,_,_,rfl,rfl,_,rfl,?_⟩
    refine ite2 (fun _=>?_) (fun _=>?_)
    ·refine ⟨_,rfl,_,rfl,_,_,rfl,.inl ⟨_,SqL.of e4,rfl⟩,_,_,rfl,rfl,_,rfl,?_⟩
     refine ite2 (fun _=>?_) (fun _=>?_)
     ·refine ⟨_,rfl,_,rfl,_,_,_,_,rfl,rfl,SqL.of e4,hc2,?_⟩
      exact ⟨_,rfl,_,rfl,_,_,rfl,rfl,.inl ⟨by decide,by decide⟩,_,_,rfl,rfl,_,rfl,_,rfl,_,rfl,_,_,rfl,SqL.of e4,fun l1 hl1=>⟨_,rfl,_,rfl,_,rfl,_,_,rfl,SqL.of ((same_upd hl1) _ _ e4),fun l2 hl2 =>
       ⟨l1,l2,_,_,rfl,rfl,(same_upd hl2) _ _ upd_same,upd_same,by rw [<- List.length_append,ecs,List.length_map]; exact small_line (by omega),fun l3 hl3=>⟨by show 3<=sizeLine; decide,fun p hp =>
        k p l3 _ (s4.free ((same_upd hl1).free ((same_upd hl2).free ((same_upd hl3).free hp)))) (s4.free ((same_upd hl1).free ((same_upd hl2).free hl3)))
         ⟨_,_,cs,upd_same,by rw [<- ecs]; exact (same_upd hp) _ _ upd_same,ncs,by omega,by first | exact hp4 _ hc1 | decide,by omega,fun x hx=>hp4 x (mcs x hx)⟩
         (((s4.trans (same_upd hl1)).trans (same_upd hl2)).trans ((same_upd hl3).trans (same_upd hp)))⟩⟩⟩⟩
     ·exact ⟨_,rfl,_,rfl,_,_,rfl,rfl,.inl ⟨by decide,by decide⟩,_,_,rfl,rfl,_,rfl,_,rfl,_,rfl,_,_,rfl,SqL.of e4,fun l1 hl1=>⟨_,rfl,_,rfl,_,rfl,_,_,rfl,SqL.of ((same_upd hl1) _ _ e4),fun l2 hl2 =>
       ⟨l1,l2,_,_,rfl,rfl,(same_upd hl2) _ _ upd_same,upd_same,by rw [<- List.length_append,ecs,List.length_map]; exact small_line (by omega),fun l3 hl3=>⟨by show 3<=sizeLine; decide,fun p hp =>
        k p l3 _ (s4.free ((same_upd hl1).free ((same_upd hl2).free ((same_upd hl3).free hp)))) (s4.free ((same_upd hl1).free ((same_upd hl2).free hl3)))
         ⟨_,_,cs,upd_same,by rw [<- ecs]; exact (same_upd hp) _ _ upd_same,ncs,by omega,by first | exact hp4 _ hc1 | decide,by omega,fun x hx=>hp4 x (mcs x hx)⟩
         (((s4.trans (same_upd hl1)).trans (same_upd hl2)).trans ((same_upd hl3).trans (same_upd hp)))⟩⟩⟩⟩
    ·refine iteF ?_
     exact ⟨_,rfl,_,rfl,_,_,rfl,rfl,.inl ⟨by decide,by decide⟩,_,_,rfl,rfl,_,rfl,_,rfl,_,rfl,_,_,rfl,SqL.of e4,fun l1 hl1=>⟨_,rfl,_,rfl,_,rfl,_,_,rfl,SqL.of ((same_upd hl1) _ _ e4),fun l2 hl2 =>
       ⟨l1,l2,_,_,rfl,rfl,(same_upd hl2) _ _ upd_same,upd_same,by rw [<- List.length_append,ecs,List.length_map]; exact small_line (by omega),fun l3 hl3=>⟨by show 3<=sizeLine; decide,fun p hp =>
        k p l3 _ (s4.free ((same_upd hl1).free ((same_upd hl2).free ((same_upd hl3).free hp)))) (s4.free ((same_upd hl1).free ((same_upd hl2).free hl3)))
         ⟨_,_,cs,upd_same,by rw [<- ecs]; exact (same_upd hp) _ _ upd_same,ncs,by omega,by first | exact hp4 _ hc1 | decide,by omega,fun x hx=>hp4 x (mcs x hx)⟩
         (((s4.trans (same_upd hl1)).trans (same_upd hl2)).trans ((same_upd hl3).trans (same_upd hp)))⟩⟩⟩⟩
theorem ok__law_bytes (T:Txt mg) (C__law_draw:Cal P w K mg base "_law_draw" 1 ["_law_hand", "_law_many"] spDraw) {f:Addr} {fd:FuncData} (F:Fun K "_law_bytes" "_law_bytes" s__law_bytes f fd):FnOk P w K mg base CX0 2 f fd ["_law_hand", "_law_most"] spBytes:=by
 refine F.ok sc__law_bytes (fun vs H Q E h=>?_) (fun cdv A outer s H vs Q E hr h=>?_)
 ·obtain ⟨p,a,m,rfl,_⟩:=h
  rfl
 ·obtain ⟨p,a,m,rfl,hh,hm1,hm2,k⟩:=h
  have SC:=sc__law_bytes
  have hr__law_draw:Room 1 _:=hr.mono (by decide)
  refine ⟨_,(pss_cons (ps_set (i:=2) SC.nd rfl (Or.inr rfl) (pe_cal C__law_draw hr__law_draw rfl (pa_cons (pv 0) (pa_cons pe_int pa_nil))))
 (pss_cons (ps_set (i:=3) SC.nd rfl (Or.inr rfl) (pe_op op_add pe_int (pe_cal C__law_draw hr__law_draw rfl (pa_cons (pv 0) (pa_cons pe_int pa_nil)))))
 (pss_one (ps_ret (pe_comp (T:=["_law_k"]) (cs:=[2,3]) rfl (CScope.ok (by kernel_rfl)) (pi_range1 rfl T.b_range (pa_cons (pe_op op_add pe_int (pe_cal C__law_draw hr__law_draw rfl (pa_cons (pv 0) (pa_cons (pe_op op_sub (pv 1) pe_int) pa_nil)))) pa_nil)) (fun _ _ _ _=>(pg_name (i:=0) (nd_of (by kernel_rfl)) rfl (Or.inl rfl) (Or.inr rfl))) (fun _ _ _ _=>pts_nil) (fun _ _ _ _=>(pe_op op_mod (pe_op op_add (pv 1) (pe_op op_mul (pv 2) (pv 0))) pe_int)) (gk_name (by decide))))))),?_⟩
  refine ⟨_,rfl,p,a,_,rfl,hh,by decide,by decide,fun b0 H1 b00 b01 h1 g1 u1=>?_⟩
  refine ⟨_,rfl,p,a,_,rfl,h1,by decide,by decide,fun s0 H2 s00 s01 h2 g2 u2=>⟨_,_,rfl,rfl,?_⟩⟩
  refine ⟨_,rfl,_,rfl,_,_,rfl,rfl,p,a,_,rfl,h2,by omega,by omega,fun n0 H3 n00 n01 h3 g3 u3=>⟨_,_,rfl,rfl,(2 + n0),rfl,by omega,by omega,comp_by (n:=(2 + n0).toNat)
   (fun j ys H'=>H'=H3/\ys=((List.range j).map fun k:Nat=>(b0 + (1 + s0) * (k:Int)) % 256).map V.int) ⟨rfl,rfl⟩ ?_ (small_line (by omega)) ?_ ?_ ?_ ?_⟩⟩
  ·rintro j ys H' ⟨rfl,rfl⟩
   rw [List.length_map,List.length_map,List.length_range]
   exact Nat.le_refl _
  ·rintro j ys H' hj _
   exact hj
  ·rintro ys H' _
   exact Nat.le_refl _
  ·rintro j ys H' hj ⟨rfl,rfl⟩ x H4 ⟨rfl,rfl⟩
   refine ⟨_,rfl,_,rfl,_,rfl,_,_,rfl,rfl,.inl ⟨by omega,by omega⟩,_,_,rfl,rfl,_,_,rfl,rfl,(by show (0:Int) < _; decide),rfl,?_⟩
   rw [List.range_succ,List.map_append,List.map_append,Int.zero_add]
   rfl
  ·rintro ys H' ⟨rfl,rfl⟩ l hl
   obtain ⟨_,_,_,ep,_⟩:=h3.ex
   have nl:l≠p:=Ne.symm (ne_of_none ep hl)
   have g:=(g1.trans g2).trans g3
   refine k l _ _ (g.free hl nl) nl upd_same (steps_nodup (by omega) ?_) ?_ ?_ (fun b hb=>?_) (h3.same (same_upd hl)) (g.trans (Grow.same (same_upd hl)))
   ·have:((2 + n0).toNat:Int)=2 + n0:=by omega
    rw [this]
    have h4:(1 + s0) * (2 + n0)<=(1 + s0) * 4:=Int.mul_le_mul_of_nonneg_left (by omega) (by omega)
    omega
   ·rw [List.length_map,List.length_range]; omega
   ·rw [List.length_map,List.length_range]; omega
   ·obtain ⟨i,_,rfl⟩:=List.mem_map.mp hb
    exact ⟨Int.emod_nonneg _ (by decide),Int.emod_lt_of_pos _ (by decide)⟩
open L3
def bn_split {bs:List Int} {ws:List (List Int)} {n:Nat} (h:∀ w∈ws,∀ b∈w,b∈bs) (hn:n < ws.length):∀ w∈ws.take n++(bs.map fun b=>ws[n]++[b])++ws.drop (n + 1),∀ b∈w,b∈bs:=fun w hw b hb=>by
 rcases List.mem_append.mp hw with z | z
 ·rcases List.mem_append.mp z with z | z
  ·exact h w (List.mem_of_mem_take z) b hb
  ·obtain ⟨c,hc,rfl⟩:=List.mem_map.mp z
   rcases List.mem_append.mp hb with y | y
   ·exact h _ (List.getElem_mem hn) b y
   ·rw [List.mem_singleton.mp y]; exact hc
 ·exact h w (List.mem_of_mem_drop z) b hb
theorem ok__law_words (T:Txt mg) {C:Addr} (C__law_draw:Cal P w K mg base "_law_draw" 1 ["_law_hand", "_law_many"] (L3.spOf ⟨C,K⟩ dDraw)) {f:Addr} {fd:FuncData} (F:Fun K "_law_words" "_law_words" s__law_words f fd):FnOk P w K mg base CX0 2 f fd ["_law_hand", "_law_some", "_law_most", "_law_longest"] (L3.spOf ⟨C,K⟩ dWordsC):=by
 refine L3.Fun.ok3 F sc__law_words (fun ds M K3 h=>?_) (fun cdv A outer s H E hr=>?_)
 ·obtain ⟨k0,bs,m,lg,rfl,_⟩:=h
  rfl
 ·have SC:=sc__law_words
  have hu:=hr.units
  have hu1:=hu_of hr
  have hr__law_draw:Room 1 _:=hr.mono (by first | decide | omega)
  refine ⟨_,_,(pss_cons (ps_set (i:=4) SC.nd rfl (Or.inr rfl) (pe_comp (T:=["_law_one"]) (cs:=[]) rfl (CScope.ok (by kernel_rfl)) (pi_list (pv 1)) (fun _ _ _ _=>(pg_name (i:=0) (nd_of (by kernel_rfl)) rfl (Or.inl rfl) (Or.inr rfl))) (fun _ _ _ _=>pts_nil) (fun _ _ _ _=>(pe_tup (pa_cons (pv 0) pa_nil))) (gk_name (by decide))))
 (pss_cons (ps_for PassesOwn.never rfl (pi_range1 rfl T.b_range (pa_cons (pe_cal C__law_draw hr__law_draw rfl (pa_cons (pv 0) (pa_cons (pe_op (L3.ux_add (K':=K) rfl) (pv 2) pe_int) pa_nil))) pa_nil)) (pg_name (i:=5) SC.nd rfl (Or.inl rfl))
 (pss_cons (ps_set (i:=6) SC.nd rfl (Or.inr rfl) (pe_op op_mod (pe_cal C__law_draw hr__law_draw rfl (pa_cons (pv 0) (pa_cons pe_int pa_nil))) (pe_callB (bk_len (K:=K) rfl) (by rfl) T.b_len PySem.boot_len (pa_cons (pv 4) pa_nil))))
 (pss_one (ps_if (pt_cmpR op_lt (pe_callB (bk_len (K:=K) rfl) (by rfl) T.b_len PySem.boot_len (pa_cons (pe_ix (L3.ux_ix (K':=K) rfl) (pv 4) (pv 6) (fun _ _=>rfl)) pa_nil)) (pv 3) (nomark _))
 (pss_one (ps_set (i:=4) SC.nd rfl (Or.inr rfl) (pe_op (L3.ux_add (K':=K) rfl) (pe_op (L3.ux_add (K':=K) rfl) (pe_slice (L3.ux_sl (K':=K) rfl) (pv 4) po_none (po_some (pv 6))) (pe_comp (T:=["_law_one"]) (cs:=[4,6]) rfl (CScope.ok (by kernel_rfl)) (pi_list (pv 1)) (fun _ _ _ _=>(pg_name (i:=0) (nd_of (by kernel_rfl)) rfl (Or.inl rfl) (Or.inr rfl))) (fun _ _ _ _=>pts_nil) (fun _ _ _ _=>(pe_op (L3.ux_add (K':=K) rfl) (pe_ix (L3.ux_ix (K':=K) rfl) (pv 1) (pv 2) (fun _ _=>rfl)) (pe_tup (pa_cons (pv 0) pa_nil)))) (gk_name (by decide)))) (pe_slice (L3.ux_sl (K':=K) rfl) (pv 4) (po_some (pe_op (L3.ux_add (K':=K) rfl) (pv 6) pe_int)) po_none))))
 pss_nil))))
 (pss_one (ps_ret (pe_comp (T:=["_law_word"]) (cs:=[0]) rfl (CScope.ok (by kernel_rfl)) (pi_list (pv 4)) (fun _ _ _ _=>(pg_name (i:=0) (nd_of (by kernel_rfl)) rfl (Or.inl rfl) (Or.inr rfl))) (fun _ _ _ _=>(pts_one (pt_cmpR op_gt (pe_cal C__law_draw hr__law_draw rfl (pa_cons (pv 1) (pa_cons pe_int pa_nil))) pe_int (nomark _)))) (fun _ _ _ _=>(pv 0)) (gk_name (by decide))))))),fun _=>(L3.s_seq (L3.s_asg (L3.s_comp (L3.s_il (L3.s_var 1)) (L3.s_g 0) L3.s_true (L3.s_tup (L3.s_cons (L3.s_var 0) L3.s_nil))) (L3.s_g 4))
 (L3.s_seq (L3.s_for (L3.s_ir1 (L3.s_cons (L3.s_call (L3.s_cons (L3.s_var 0) (L3.s_cons (L3.s_op L3.s_add (L3.s_var 2) L3.s_int) L3.s_nil))) L3.s_nil)) (L3.s_g 5)
 (L3.s_seq (L3.s_asg (L3.s_op L3.s_mod (L3.s_call (L3.s_cons (L3.s_var 0) (L3.s_cons L3.s_int L3.s_nil))) (L3.s_cb L3.s_len (L3.s_cons (L3.s_var 4) L3.s_nil))) (L3.s_g 6))
 (L3.s_ifS (L3.s_test (L3.s_op L3.s_lt (L3.s_cb L3.s_len (L3.s_cons (L3.s_op L3.s_ix (L3.s_var 4) (L3.s_var 6)) L3.s_nil)) (L3.s_var 3)))
 (L3.s_asg (L3.s_op L3.s_add (L3.s_op L3.s_add (L3.s_sl L3.s_sl3 (L3.s_var 4) L3.s_noPart (L3.s_part (L3.s_var 6))) (L3.s_comp (L3.s_il (L3.s_var 1)) (L3.s_g 0) L3.s_true (L3.s_op L3.s_add (L3.s_op L3.s_ix (L3.s_var 1) (L3.s_var 2)) (L3.s_tup (L3.s_cons (L3.s_var 0) L3.s_nil))))) (L3.s_sl L3.s_sl3 (L3.s_var 4) (L3.s_part (L3.s_op L3.s_add (L3.s_var 6) L3.s_int)) L3.s_noPart)) (L3.s_g 4))
 L3.s_next)))
 (L3.s_ret (L3.s_comp (L3.s_il (L3.s_var 4)) (L3.s_g 0) (L3.s_test (L3.s_op L3.s_gt (L3.s_call (L3.s_cons (L3.s_var 1) (L3.s_cons L3.s_int L3.s_nil))) L3.s_int)) (L3.s_var 0))))),fun ds M Kk hM hD h=>?_⟩
  obtain ⟨k0,bs,m,lg,rfl,h⟩:=h
  obtain ⟨hh,⟨nd,ne,lb,m0,m1,g0,g1⟩,k⟩:=h
  have hlp:0 < bs.length:=List.length_pos_iff.mpr ne
  have lm:(bs.map D.int).length=bs.length:=List.length_map _
  refine ⟨_,rfl,_,rfl,?_,fun j ys M'=>M=M'/\ys=(bs.take j).map fun b=>wD [b],fun _ _ _ _ h=>(by rw [<- h.1]; rfl),⟨rfl,rfl⟩,?_,?_⟩
  ·show (bs.map D.int).length<=sizeLine
   rw [lm]; exact small_line (by omega)
  ·rintro j x ys _ hj hx ⟨rfl,rfl⟩
   obtain ⟨hj',rfl⟩:=item_map hx
   refine ⟨_,rfl,(show 1<=sizeLine by decide),rfl,?_⟩
   rw [List.take_succ_eq_append_getElem hj',List.map_append]
   rfl
  rintro ys _ ⟨rfl,rfl⟩
  have e0:(bs.take (bs.map D.int).length).map (fun b=>wD [b])=(bs.map fun b=>[b]).map wD:=by rw [lm,List.take_length,List.map_map]; rfl
  rw [show List.map (fun b=>wD [b]) (List.take _ bs)=(bs.map fun b=>[b]).map wD from e0]
  refine ⟨_,rfl,_,rfl,k0,m + 1,rfl,hh,⟨by omega,by omega⟩,fun n0 n00 n01=>?_⟩
  refine ⟨n0,rfl,⟨by omega,by omega⟩,fun i ρ M'=>M=M'/\∃ (ws:List (List Int)) (v5 v6:Option D),ρ=[some (.cell k0),some (.lst (bs.map .int)),some (.int m),some (.int lg),some (.lst (ws.map wD)),v5,v6]/\WOk ws/\(∀ w∈ws,∀ b∈w,b∈bs)/\ws≠[]/\ws.length<=bs.length + i * (bs.length - 1),fun _ _ _ _ _=>trivial,⟨rfl,bs.map (fun b=>[b]),_,_,rfl,ones_pf nd,?_,?_,?_⟩,?_,?_⟩
  ·intro w hw b hb
   obtain ⟨c,hc,rfl⟩:=List.mem_map.mp hw
   rw [List.mem_singleton.mp hb]; exact hc
  ·simpa using ne
  ·rw [List.length_map]; omega
  ·rintro i x ρ M' hi rfl ⟨rfl,ws,v5,v6,rfl,ok,bn,nw,lw⟩
   have hi:i < n0.toNat:=hi
   have lp:0 < ws.length:=List.length_pos_iff.mpr nw
   have lw2:ws.length<=200:=by
    have:i * (bs.length - 1)<=6 * 24:=Nat.mul_le_mul (by omega) (by omega)
    omega
   have lmw:(ws.map wD).length=ws.length:=List.length_map _
   refine ⟨_,rfl,k0,60,rfl,hh,⟨by decide,by decide⟩,fun r r0 r1=>?_⟩
   refine ⟨_,rfl,?_⟩
   dsimp only [uNil]
   refine len_ls (xs:=ws.map wD) rfl ?_
   refine ⟨_,_,rfl,rfl,by omega,?_⟩
   dsimp only
   rw [lmw]
   obtain ⟨a,ea⟩:=Int.eq_ofNat_of_zero_le (Int.emod_nonneg r (b:=((ws.length:Nat):Int)) (by omega))
   have ha:a < ws.length:=by have:=Int.emod_lt_of_pos r (b:=((ws.length:Nat):Int)) (by omega); omega
   rw [ea]
   have cA:cut (ws.map wD) none (some (a:Int))=(ws.take a).map wD:=by rw [cut_toG,List.map_take]
   have cB:cut (ws.map wD) (some ((a:Int) + 1)) none=(ws.drop (a + 1)).map wD:=by rw [show (a:Int) + 1=((a + 1:Nat):Int) by omega,cut_fromG,List.map_drop]
   have hwa:ws[a]∈ws:=List.getElem_mem ha
   have h4:=ok.2 ws[a] hwa
   refine ⟨_,rfl,_,rfl,_,_,_,rfl,rfl,atI_map (f:=wD) (as:=ws) (j:=a) rfl ha,?_⟩
   refine ⟨_,rfl,_,rfl,_,_,rfl,rfl,_,rfl,ite2 (fun hlt=>?_) (fun hlt=>?_)⟩
   ·have hlt:((ws[a].map D.int).length:Int) < lg:=of_decide_eq_true hlt
    rw [List.length_map] at hlt
    refine ⟨_,rfl,_,rfl,_,rfl,?_⟩
    refine sl_ls (d:=.lst (ws.map wD)) rfl ?_
    rw [cA]
    refine ⟨_,rfl,_,rfl,?_,fun j ys M'=>M=M'/\ys=(bs.take j).map fun b=>wD (ws[a]++[b]),fun _ _ _ _ h=>(by rw [<- h.1]; rfl),⟨rfl,rfl⟩,?_,?_⟩
    ·show (bs.map D.int).length<=sizeLine
     rw [lm]; exact small_line (by omega)
    ·rintro j x ys _ hj hx ⟨rfl,rfl⟩
     obtain ⟨hj',rfl⟩:=item_map hx
     refine ⟨_,rfl,_,rfl,_,_,_,rfl,rfl,atI_map (f:=wD) (as:=ws) (j:=a) rfl ha,_,rfl,(show 1<=sizeLine by decide),⟨(fun z=>h4.1 (List.map_eq_nil_iff.mp z)),(by rw [List.length_map]; exact small_line (by show ws[a].length + 1<=_; omega))⟩,rfl,?_⟩
     rw [List.take_succ_eq_append_getElem hj',List.map_append]
     unfold wD
     rw [List.map_cons,List.map_append]
     rfl
    ·rintro ys _ ⟨rfl,rfl⟩
     have e1:(bs.take (bs.map D.int).length).map (fun b=>wD (ws[a]++[b]))=(bs.map fun b=>ws[a]++[b]).map wD:=by rw [lm,List.take_length,List.map_map]; rfl
     rw [show List.map (fun b=>wD (ws[a]++[b])) (List.take _ bs)=(bs.map fun b=>ws[a]++[b]).map wD from e1]
     refine add_ls (xs:=(ws.take a).map wD) (ys:=(bs.map fun b=>ws[a]++[b]).map wD) rfl rfl (by rw [List.length_map,List.length_map,List.length_map,List.length_take]; exact small_line (by omega)) ?_
     refine ⟨_,rfl,_,rfl,_,rfl,?_⟩
     dsimp only [uNoPart]
     refine sl_ls (d:=.lst (ws.map wD)) rfl ?_
     rw [cB,<- List.map_append]
     refine add_ls (xs:=(ws.take a++(bs.map fun b=>ws[a]++[b])).map wD) (ys:=(ws.drop (a + 1)).map wD) rfl rfl (by rw [List.length_map,List.length_map,List.length_append,List.length_take,List.length_map,List.length_drop]; exact small_line (by omega)) ?_
     rw [<- List.map_append]
     have hsp:ws=ws.take a++ws[a]::ws.drop (a + 1):=by
      rw [<- List.drop_eq_getElem_cons ha,List.take_append_drop]
     have ok2:WOk (ws.take a++(bs.map fun b=>ws[a]++[b])++ws.drop (a + 1)):=pf_split nd (hsp ▸ ok) (by omega)
     refine .inl ⟨rfl,_,_,_,rfl,ok2,bn_split bn ha,?_,?_⟩
     ·intro z
      have:=congrArg List.length z
      simp only [List.length_append,List.length_map,List.length_nil] at this
      omega
     ·rw [List.length_append,List.length_append,List.length_take,List.length_drop,List.length_map,Nat.add_mul,Nat.one_mul]
      omega
   ·refine .inl ⟨rfl,ws,_,_,rfl,ok,bn,nw,?_⟩
    rw [Nat.add_mul]
    omega
  ·rintro ρ M' ⟨rfl,ws,v5,v6,rfl,ok,bn,nw,lw⟩
   have lw:ws.length<=bs.length + n0.toNat * (bs.length - 1):=lw
   have lw2:ws.length<=200:=by
    have:n0.toNat * (bs.length - 1)<=6 * 24:=Nat.mul_le_mul (by omega) (by omega)
    omega
   have lmw:(ws.map wD).length=ws.length:=List.length_map _
   refine ⟨_,rfl,_,rfl,?_,fun j ys M'=>M=M'/\∃ us:List (List Int),ys=us.map wD/\us.Sublist (ws.take j),fun _ _ _ _ h=>(by rw [<- h.1]; rfl),⟨rfl,[],rfl,List.nil_sublist _⟩,?_,?_⟩
   ·show (ws.map wD).length<=sizeLine
    rw [lmw]; exact small_line (by omega)
   ·rintro j x ys _ hj hx ⟨rfl,us,rfl,sb⟩
    obtain ⟨hj',rfl⟩:=item_map hx
    have tk:(ws.take (j + 1))=ws.take j++[ws[j]]:=List.take_succ_eq_append_getElem hj'
    refine ⟨_,rfl,k0,5,rfl,hh,⟨by decide,by decide⟩,fun r r0 r1=>⟨_,_,rfl,rfl,_,rfl,ite2 (fun _=>?_) (fun _=>?_)⟩⟩
    ·exact ⟨_,rfl,rfl,us++[ws[j]],by rw [List.map_append]; rfl,by rw [tk]; exact sb.append (List.Sublist.refl _)⟩
    ·exact ⟨rfl,us,rfl,by rw [tk]; exact sb.trans (List.sublist_append_left _ _)⟩
   ·rintro ys _ ⟨rfl,us,rfl,sb⟩
    have sb:us.Sublist ws:=by
     have:us.Sublist (ws.take (ws.map wD).length):=sb
     rwa [lmw,List.take_length] at this
    refine .inl (k us (ok.sub sb) (fun w hw=>bn w (sb.subset hw)) ?_)
    have l1:=sb.length_le
    have l2:n0.toNat * (bs.length - 1)<=m.toNat * (bs.length - 1):=Nat.mul_le_mul (by omega) (Nat.le_refl _)
    have l3:((m.toNat * (bs.length - 1):Nat):Int)=m * (bs.length - 1):=by
     rw [Int.natCast_mul]
     have e1:(m.toNat:Int)=m:=by omega
     have e2:((bs.length - 1:Nat):Int)=bs.length - 1:=by omega
     rw [e1,e2]
    omega
theorem ok__law_signs (T:Txt mg) (C__law_draw:Cal P w K mg base "_law_draw" 1 ["_law_hand", "_law_many"] spDraw) {f:Addr} {fd:FuncData} (F:Fun K "_law_signs" "_law_signs" s__law_signs f fd):FnOk P w K mg base CX0 2 f fd ["_law_hand", "_law_many"] spSigns:=by
 refine F.ok sc__law_signs (fun vs H Q E h=>?_) (fun cdv A outer s H vs Q E hr h=>?_)
 ·obtain ⟨p,a,m,rfl,_⟩:=h
  rfl
 ·obtain ⟨p,a,m,rfl,hh,hm0,hm1,k⟩:=h
  have SC:=sc__law_signs
  have hr__law_draw:Room 1 _:=hr.mono (by decide)
  refine ⟨_,(pss_cons (ps_set (i:=2) SC.nd rfl (Or.inr rfl) (pe_op op_mul (pe_callTy call_int1 (by rfl) T.b_int PyProof.Rows.boot_int (pa_cons (pe_cmpR op_gt (pe_cal C__law_draw hr__law_draw rfl (pa_cons (pv 0) (pa_cons pe_int pa_nil))) pe_int (nomark _)) pa_nil)) (pe_op op_add (pe_op op_mul (pe_cal C__law_draw hr__law_draw rfl (pa_cons (pv 0) (pa_cons pe_int pa_nil))) (pe_op op_pow pe_int pe_int)) (pe_cal C__law_draw hr__law_draw rfl (pa_cons (pv 0) (pa_cons pe_int pa_nil))))))
 (pss_cons (ps_set (i:=3) SC.nd rfl (Or.inr rfl) (pe_op op_add pe_int (pe_ix ix_list (pe_lst (pa_cons pe_int (pa_cons (pe_cal C__law_draw hr__law_draw rfl (pa_cons (pv 0) (pa_cons pe_int pa_nil))) (pa_cons (pe_cal C__law_draw hr__law_draw rfl (pa_cons (pv 0) (pa_cons (pe_op op_pow pe_int pe_int) pa_nil))) pa_nil)))) (pe_cal C__law_draw hr__law_draw rfl (pa_cons (pv 0) (pa_cons pe_int pa_nil))) (fun _ _=>rfl))))
 (pss_cons (ps_comp (i:=4) SC.nd rfl rfl (T:=["_law_k"]) (cs:=[2,3]) rfl (CScope.ok (by kernel_rfl)) (pi_range1 rfl T.b_range (pa_cons (pv 1) pa_nil)) (fun _ _ _ _=>(pg_name (i:=0) (nd_of (by kernel_rfl)) rfl (Or.inl rfl) (Or.inr rfl))) (fun _ _ _ _=>pts_nil) (fun _ _ _ _=>(pe_op op_add (pv 1) (pe_op op_mul (pv 2) (pv 0)))) (gk_name (by decide)))
 (pss_cons (ps_set (i:=5) SC.nd rfl (Or.inl rfl) (pe_op op_mod (pe_cal C__law_draw hr__law_draw rfl (pa_cons (pv 0) (pa_cons pe_int pa_nil))) (pe_callB (call_max2 rfl) (by rfl) T.b_max PyProof.Rows.boot_max (pa_cons pe_int (pa_cons (pv 1) pa_nil)))))
 (pss_cons (ps_set (i:=4) SC.nd rfl (Or.inl rfl) (pe_op op_cat (pe_slice sl_list (pv 4) (po_some (pv 5)) po_none) (pe_slice sl_list (pv 4) po_none (po_some (pv 5)))))
 (pss_cons (ps_if (pt_cmpR op_eq (pe_cal C__law_draw hr__law_draw rfl (pa_cons (pv 0) (pa_cons pe_int pa_nil))) pe_int (nomark _))
 (pss_one (ps_ret (pe_rev (pv 4) (po_some (pe_un un_neg pe_int)) (fun _ _=>⟨_,rfl⟩))))
 pss_nil)
 (pss_one (ps_ret (pv 4))))))))),?_⟩
  refine ⟨_,rfl,p,a,_,rfl,hh,by decide,by decide,fun r1 H1 r10 r11 h1 g1 u1=>⟨_,_,rfl,rfl,.inr ⟨_,rfl,_,rfl,p,a,_,rfl,h1,by decide,by decide,fun r2 H2 r20 r21 h2 g2 u2=>⟨_,_,rfl,rfl,⟨by decide,by decide,by decide⟩,_,_,rfl,rfl,.inl ⟨by omega,by omega⟩,_,rfl,p,a,_,rfl,h2,by decide,by decide,fun r3 H3 r30 r31 h3 g3 u3=>⟨_,_,rfl,rfl,_,_,rfl,rfl,.inl ?_,?_⟩⟩⟩⟩⟩
  ·split <;> exact ⟨by decide,by decide⟩
  obtain ⟨bg,hbg⟩:∃ bg:Int,bg=(if decide (0 < r1)=true then (1:Int) else 0) * (r2 * 10 ^ Int.toNat 6 + r3):=⟨_,rfl⟩
  have g30:=(g1.trans g2).trans g3
  refine ⟨_,rfl,p,a,_,rfl,h3,by decide,by decide,fun r4 H4 r40 r41 h4 g4 u4=>⟨_,rfl,_,_,rfl,rfl,⟨by decide,by decide,by decide⟩,p,a,_,rfl,h4,by decide,by decide,fun r5 H5 r50 r51 h5 g5 u5=>⟨by show 3<=sizeLine; decide,fun lq hlq=>?_⟩⟩⟩
  have s6:=same_upd (o:=.lst [.int 0,.int r4,.int r5]) hlq
  obtain ⟨_,ep5⟩:=hand_of h5
  have nlq:lq≠p:=Ne.symm (ne_of_none ep5 hlq)
  have elq:(upd H5 lq (.lst [.int 0,.int r4,.int r5])) lq=_:=upd_same
  have h6:=h5.same s6
  have g60:=g30.trans (g4.trans (g5.trans (Grow.same s6)))
  generalize upd H5 lq (.lst [.int 0,.int r4,.int r5])=H6 at s6 elq h6 g60
  refine ⟨_,rfl,p,a,_,rfl,h6,by decide,by decide,fun r6 H7 r60 r61 h7 g7 u7=>?_⟩
  have elq7:H7 lq=some (.lst [.int 0,.int r4,.int r5]):=by rw [u7 lq nlq]; exact elq
  obtain ⟨v,hv,ev⟩:=atI_some (xs:=[V.int 0,.int r4,.int r5]) r60 (by simpa using r61)
  obtain ⟨c,rfl,hc⟩:∃ c:Int,v=.int c/\0<=c:=by
   simp only [List.mem_cons,List.mem_nil_iff,or_false] at hv
   rcases hv with z | z | z <;> exact ⟨_,z,by omega⟩
  have r51':r5 < 10000000:=r51
  have hc2:c < 10000000:=by
   simp only [List.mem_cons,List.mem_nil_iff,or_false] at hv
   rcases hv with z | z | z <;> injection z with z <;> omega
  refine ⟨lq,_,_,_,rfl,rfl,SqL.of elq7,ev,_,_,rfl,rfl,?_⟩
  refine ⟨_,rfl,m,rfl,by omega,by omega,comp_by (n:=m.toNat) (fun j ys H'=>H'=H7/\ys=((List.range j).map fun k:Nat=>bg + (1 + c) * (k:Int)).map V.int) ⟨rfl,rfl⟩ ?_ (small_line (by omega)) ?_ ?_ ?_ ?_⟩
  ·rintro j ys H' ⟨rfl,rfl⟩
   rw [List.length_map,List.length_map,List.length_range]
   exact Nat.le_refl _
  ·rintro j ys H' hj _
   exact hj
  ·rintro ys H' _
   exact Nat.le_refl _
  ·rintro j ys H' hj ⟨rfl,rfl⟩ x H8 ⟨rfl,rfl⟩
   refine ⟨_,rfl,_,rfl,_,rfl,_,_,rfl,rfl,.inl ⟨by omega,by omega⟩,_,_,rfl,rfl,rfl,?_⟩
   rw [List.range_succ,List.map_append,List.map_append,Int.zero_add,hbg]
   rfl
  ·rintro ys H' ⟨rfl,rfl⟩ l hl
   generalize hss:(List.range m.toNat).map (fun k:Nat=>bg + (1 + c) * (k:Int))=ss
   have nd:ss.Nodup:=by rw [<- hss]; exact steps_inj (by omega) _
   have ls:(ss.length:Int)=m:=by rw [<- hss,List.length_map,List.length_range]; omega
   have s8:=same_upd (o:=.lst (ss.map V.int)) hl
   have e8:(upd H' l (.lst (ss.map V.int))) l=_:=upd_same
   obtain ⟨_,ep7⟩:=hand_of h7
   have nl:l≠p:=Ne.symm (ne_of_none ep7 hl)
   have h8:=h7.same s8
   have g80:=(g60.trans g7).trans (Grow.same s8)
   generalize upd H' l (.lst (ss.map V.int))=H8 at s8 e8 h8 g80
   refine ⟨_,rfl,p,a,_,rfl,h8,by decide,by decide,fun r9 H9 r90 r91 h9 g9 u9=>⟨_,rfl,_,_,rfl,_,_,rfl,rfl,?_,?_⟩⟩
   ·show (0:Int) < if m > 1 then m else 1
    split <;> omega
   have e9:H9 l=some (.lst (ss.map V.int)):=by rw [u9 l nl]; exact e8
   have z0:0<=r9 % (if m > 1 then m else 1):=Int.emod_nonneg _ (by split <;> omega)
   have z1:r9 % (if m > 1 then m else 1)<=ss.length:=by
    rw [ls]
    have:=Int.emod_lt_of_pos r9 (show (0:Int) < if m > 1 then m else 1 by split <;> omega)
    by_cases hm:m > 1
    ·rw [if_pos hm] at this ⊢; omega
    ·rw [if_neg hm] at this ⊢; omega
   obtain ⟨n,en⟩:=Int.eq_ofNat_of_zero_le z0
   have cut1:cutV (ss.map V.int) (some (r9 % (if m > 1 then m else 1))) none=(ss.drop n).map V.int:=by rw [en,cut_from (by omega) (by rw [List.length_map]; omega),List.map_drop]; rfl
   have cut2:cutV (ss.map V.int) none (some (r9 % (if m > 1 then m else 1)))=(ss.take n).map V.int:=by rw [en,cut_to (by omega) (by rw [List.length_map]; omega),List.map_take]; rfl
   refine ⟨_,rfl,_,rfl,_,rfl,l,_,rfl,SqL.of e9,fun q1 hq1=>?_⟩
   rw [cut1]
   have sA:=same_upd (o:=.lst ((ss.drop n).map V.int)) hq1
   have eA:(upd H9 q1 (.lst ((ss.drop n).map V.int))) q1=_:=upd_same
   generalize upd H9 q1 (.lst ((ss.drop n).map V.int))=HA at sA eA
   refine ⟨_,rfl,_,rfl,_,rfl,l,_,rfl,SqL.of (sA _ _ e9),fun q2 hq2=>?_⟩
   rw [cut2]
   have sB:=sA.trans (same_upd (o:=.lst ((ss.take n).map V.int)) hq2)
   have eB:(upd HA q2 (.lst ((ss.take n).map V.int))) q2=_:=upd_same
   have eB1:=same_upd (o:=.lst ((ss.take n).map V.int)) hq2 _ _ eA
   generalize upd HA q2 (.lst ((ss.take n).map V.int))=HB at sB eB eB1
   refine ⟨q1,q2,_,_,rfl,rfl,eB1,eB,?_,fun q3 hq3=>?_⟩
   ·rw [List.length_map,List.length_map,List.length_drop,List.length_take]; exact small_line (by omega)
   rw [<- List.map_append]
   have nd2:=spin_nodup nd n
   have ls2:((ss.drop n++ss.take n).length:Int)=m:=by rw [List.length_append,List.length_drop,List.length_take]; omega
   generalize ss.drop n++ss.take n=tt at nd2 ls2
   have sC:=sB.trans (same_upd (o:=.lst (tt.map V.int)) hq3)
   have eC:(upd HB q3 (.lst (tt.map V.int))) q3=_:=upd_same
   obtain ⟨_,ep9⟩:=hand_of h9
   have nq3:q3≠p:=Ne.symm (ne_of_none (sB _ _ ep9) hq3)
   have n30:H q3=none:=(g80.trans g9).free (sB.free hq3) nq3
   have hC:=h9.same sC
   have gC:=(g80.trans g9).trans (Grow.same sC)
   generalize upd HB q3 (.lst (tt.map V.int))=HC at sC eC hC gC
   refine ⟨_,rfl,p,a,_,rfl,hC,by decide,by decide,fun rd HD rd0 rd1 hD gD uD=>⟨rfl,_,rfl,?_⟩⟩
   have eD:HD q3=some (.lst (tt.map V.int)):=by rw [uD q3 nq3]; exact eC
   refine ite2 (fun _=>?_) (fun _=>?_)
   ·refine ⟨_,rfl,_,rfl,_,rfl,rfl,q3,_,rfl,SqL.of eD,fun q4 hq4=>?_⟩
    rw [<- List.map_reverse]
    have sE:=same_upd (o:=.lst (tt.reverse.map V.int)) hq4
    obtain ⟨_,epD⟩:=hand_of hD
    have nq4:q4≠p:=Ne.symm (ne_of_none epD hq4)
    exact k q4 tt.reverse _ ((gC.trans gD).free hq4 nq4) nq4 upd_same ((List.reverse_perm tt).nodup_iff.mpr nd2) (by rw [List.length_reverse]; exact ls2) (hD.same sE) ((gC.trans gD).trans (Grow.same sE))
   ·exact ⟨_,rfl,k q3 tt HD n30 nq3 eD nd2 ls2 hD (gC.trans gD)⟩
theorem ok_odds_between (T:Txt mg) {f:Addr} {fd:FuncData} (F:Fun K "odds_between" "odds_between" s_odds_between f fd):FnOk P w K mg base CX0 1 f fd ["one", "other"] spOdds:=by
 refine F.ok sc_odds_between (fun vs H Q E h=>?_) (fun cdv A outer s H vs Q E hr h=>?_)
 ·obtain ⟨v1,v2,p,q,rfl,_⟩:=h
  rfl
 ·obtain ⟨v1,v2,p,q,rfl,⟨t1,w1,rfl,a1,b1⟩,⟨t2,w2,rfl,a2,b2⟩,l1,l2,k⟩:=h
  have SC:=sc_odds_between
  have hu:=hr.units
  refine ⟨_,(pss_cons (ps_if (pt_cmpR op_eq (pe_ix ix_tup (pv 0) pe_int (fun _ _=>rfl)) (pe_ix ix_tup (pv 1) pe_int (fun _ _=>rfl)) (nomark _))
 (pss_one (ps_ret pe_str))
 pss_nil)
 (pss_cons (ps_set (i:=2) SC.nd rfl (Or.inl rfl) (pe_callB (call_min2 rfl) (by rfl) T.b_min PyProof.Rows.boot_min (pa_cons (pe_callB call_len (by rfl) T.b_len PySem.boot_len (pa_cons (pe_ix ix_tup (pv 0) pe_int (fun _ _=>rfl)) pa_nil)) (pa_cons (pe_callB call_len (by rfl) T.b_len PySem.boot_len (pa_cons (pe_ix ix_tup (pv 1) pe_int (fun _ _=>rfl)) pa_nil)) pa_nil))))
 (pss_cons (ps_if (pt_cmpR (op_eqD hu) (pe_slice sl_tupW (pe_ix ix_tup (pv 0) pe_int (fun _ _=>rfl)) po_none (po_some (pv 2))) (pe_slice sl_tupW (pe_ix ix_tup (pv 1) pe_int (fun _ _=>rfl)) po_none (po_some (pv 2))) (nomark _))
 (pss_one (ps_ret pe_str))
 pss_nil)
 (pss_one (ps_ret pe_non))))),?_⟩
  refine ⟨_,rfl,t1,_,_,_,rfl,rfl,SqT.of a1,rfl,_,rfl,t2,_,_,_,rfl,rfl,SqT.of a2,rfl,rfl,_,rfl,?_⟩
  refine ite2 (fun h=>?_) (fun h=>?_)
  ·have e:p.1=q.1:=by simpa using h
   have o:oddsV p q=.str (Str.ofString "twice"):=if_pos e
   have kk:=k H (.refl _)
   rw [o] at kk
   exact kk
  ·have e:¬ p.1=q.1:=by simpa using h
   refine ⟨_,rfl,t1,_,_,_,rfl,rfl,SqT.of a1,rfl,_,_,rfl,.inr ⟨_,SqT.of b1,rfl⟩,_,rfl,t2,_,_,_,rfl,rfl,SqT.of a2,rfl,_,_,rfl,.inr ⟨_,SqT.of b2,rfl⟩,_,_,rfl,?_⟩
   rw [List.length_map,List.length_map,min_nat]
   refine ⟨_,rfl,t1,_,_,_,rfl,rfl,SqT.of a1,rfl,_,rfl,_,rfl,rSlW_to b1 (Int.natCast_nonneg _) (by omega) fun u1 H1 s1 e1=>⟨_,rfl,t2,_,_,_,rfl,rfl,SqT.of (s1 _ _ a2),rfl,_,rfl,_,rfl,rSlW_to (s1 _ _ b2) (Int.natCast_nonneg _) (by omega) fun u2 H2 s2 e2 =>
    ⟨_,_,DV.tup (SqT.of (s2 _ _ e1)) (dvs_ints _),DV.tup (SqT.of e2) (dvs_ints _),(shp_tints _).shaped (by decide),(shp_tints _).shaped (by decide),_,rfl,?_⟩⟩⟩
   rw [eqv_tup,Int.toNat_natCast]
   have kk:=k H2 (s1.trans s2)
   unfold oddsV at kk
   rw [if_neg e] at kk
   refine ite2 (fun h=>?_) (fun h=>?_)
   ·rw [if_pos (of_decide_eq_true h)] at kk
    exact kk
   ·rw [if_neg (fun z=>h (decide_eq_true z))] at kk
    exact kk
theorem ok_fault (T:Txt mg) (C_odds_between:Cal P w K mg base "odds_between" 1 ["one", "other"] spOdds) {f:Addr} {fd:FuncData} (F:Fun K "fault" "fault" s_fault f fd):FnOk P w K mg base CX0 2 f fd ["table"] spNoFault:=by
 refine F.ok sc_fault (fun vs H Q E h=>?_) (fun cdv A outer s H vs Q E hr h=>?_)
 ·obtain ⟨a,L,rfl,_⟩:=h
  rfl
 ·obtain ⟨a,L,rfl,⟨vs,ea,pa⟩,fr,⟨hl,hw⟩,k⟩:=h
  have SC:=sc_fault
  have hr_odds_between:Room 1 _:=hr.mono (by decide)
  have lv:=Paired.length pa
  refine ⟨_,(pss_cons (ps_for PassesOwn.never rfl (pi_range1 rfl T.b_range (pa_cons (pe_callB call_len (by rfl) T.b_len PySem.boot_len (pa_cons (pv 0) pa_nil)) pa_nil)) (pg_name (i:=1) SC.nd rfl (Or.inl rfl))
 (pss_one (ps_for PassesOwn.never rfl (pi_range1 rfl T.b_range (pa_cons (pv 1) pa_nil)) (pg_name (i:=2) SC.nd rfl (Or.inl rfl))
 (pss_cons (ps_set (i:=3) SC.nd rfl (Or.inl rfl) (pe_cal C_odds_between hr_odds_between rfl (pa_cons (pe_ix ix_list (pv 0) (pv 2) (fun _ _=>rfl)) (pa_cons (pe_ix ix_list (pv 0) (pv 1) (fun _ _=>rfl)) pa_nil))))
 (pss_one (ps_if (pt_cmp (pc_notN (pv 3)))
 (pss_one (ps_ret (pe_tup (pa_cons (pv 3) (pa_cons (pv 2) (pa_cons (pv 1) pa_nil))))))
 pss_nil))))))
 (pss_one (ps_ret pe_non))),?_⟩
  refine ⟨_,rfl,_,_,rfl,.inl ⟨_,SqL.of ea,rfl⟩,(vs.length:Int),rfl,by omega,by omega,for_range (n:=vs.length) (fun j σ H'=>∃ v1 v2 v3,σ=[some (.ref a),v1,v2,v3]/\Same H H') ⟨_,_,_,rfl,.refl _⟩ ?_ ?_⟩
  ·rintro j σ H1 hj ⟨v1,v2,v3,rfl,s1⟩
   refine ⟨_,rfl,(0 + (j:Int)),rfl,by omega,by omega,for_range (n:=(0 + (j:Int)).toNat) (fun i σ H'=>∃ v2 v3,σ=[some (.ref a),some (.int (0 + (j:Int))),v2,v3]/\Same H H') ⟨_,_,rfl,s1⟩ ?_ ?_⟩
   ·rintro i σ H2 hi ⟨v2,v3,rfl,s2⟩
    have hij:i < j:=by omega
    have h1:=Paired.at pa (i:=i) (by omega) (by omega)
    have h2:=Paired.at pa (i:=j) hj (by omega)
    refine ⟨_,rfl,_,rfl,a,_,_,_,rfl,rfl,SqL.of (s2 _ _ ea),(atI_add (List.getElem?_eq_getElem (by omega:i < vs.length))),_,rfl,_,rfl,a,_,_,_,rfl,rfl,SqL.of (s2 _ _ ea),(atI_add (List.getElem?_eq_getElem hj)),_,_,_,_,rfl,h1.tk s2.tk,h2.tk s2.tk,?_,?_,fun H3 s3=>?_⟩
    ·exact Nat.le_trans (hw _ (List.getElem_mem _)).2 (by decide)
    ·exact Nat.le_trans (hw _ (List.getElem_mem _)).2 (by decide)
    ·rw [odds_apart (fr.get (by omega) (by omega) hij)]
     refine ⟨_,rfl,_,rfl,iteNS rfl ?_⟩
     exact ⟨_,_,rfl,s2.trans s3⟩
   ·rintro σ H2 ⟨v2,v3,rfl,s2⟩
    exact ⟨_,_,_,rfl,s2⟩
  ·rintro σ H1 ⟨v1,v2,v3,rfl,s1⟩
   exact k H1 s1
def ok_refuse_fault (T:Txt mg) (C_fault:Cal P w K mg base "fault" 2 ["table"] spNoFault) {f:Addr} {fd:FuncData} (F:Fun K "refuse_fault" "refuse_fault" s_refuse_fault f fd):FnOk P w K mg base CX0 3 f fd ["table"] spNoFault:=by
 refine F.ok sc_refuse_fault (fun vs H Q E h=>?_) (fun cdv A outer s H vs Q E hr h=>?_)
 ·obtain ⟨a,L,rfl,_⟩:=h
  rfl
 ·obtain ⟨a,L,rfl,ta,fr,fi,k⟩:=h
  have SC:=sc_refuse_fault
  have hr_fault:Room 2 _:=hr.mono (by decide)
  refine ⟨_,(pss_cons (ps_set (i:=1) SC.nd rfl (Or.inl rfl) (pe_cal C_fault hr_fault rfl (pa_cons (pv 0) pa_nil)))
 (pss_cons (ps_if (pt_cmp (pc_isN (pv 1)))
 (pss_one ps_retN)
 pss_nil)
 (pss_cons (ps_if (pt_cmpR op_eq (pe_ix ix_tup (pv 1) pe_int (fun _ _=>rfl)) pe_str (nomark _))
 (pss_one ps_never)
 pss_nil)
 (pss_one ps_never)))),?_⟩
  refine ⟨_,rfl,a,L,rfl,ta,fr,fi,fun H1 s1=>?_⟩
  exact ⟨_,rfl,_,rfl,iteT (k H1 s1)⟩
theorem ok_beginnings (T:Txt mg) {f:Addr} {fd:FuncData} (F:Fun K "beginnings" "beginnings" s_beginnings f fd):FnOk P w K mg base CX0 1 f fd ["words"] spBegin:=by
 refine F.ok sc_beginnings (fun vs H Q E h=>?_) (fun cdv A outer s H vs Q E hr h=>?_)
 ·obtain ⟨a,vws,ws,rfl,_⟩:=h
  rfl
 ·obtain ⟨a,vws,ws,rfl,ea,pa,hl,hw,k⟩:=h
  have SC:=sc_beginnings
  have hu1:=hu_of hr
  have lv:=Paired.length pa
  refine ⟨_,(pss_cons (ps_set (i:=1) SC.nd rfl (Or.inl rfl) pe_dnewT)
 (pss_cons (ps_for PassesOwn.never rfl (pi_list (pv 0)) (pg_name (i:=2) SC.nd rfl (Or.inl rfl))
 (pss_one (ps_for PassesOwn.never rfl (pi_range1 rfl T.b_range (pa_cons (pe_callB call_len (by rfl) T.b_len PySem.boot_len (pa_cons (pv 2) pa_nil)) pa_nil)) (pg_name (i:=3) SC.nd rfl (Or.inl rfl))
 (pss_one (ps_dput hu1 (pv 1) (pe_slice sl_tup (pv 2) po_none (po_some (pv 3))) pe_bl rfl)))))
 (pss_one (ps_ret (pv 1))))),?_⟩
  refine fun d hd=>?_
  have nad:a≠d:=ne_of_none ea hd
  have ea1:(upd H d (.dT [])) a=some (.lst vws):=by rw [upd_ne nad]; exact ea
  refine ⟨_,rfl,a,rfl,⟨_,SqL.of ea1⟩,for_list (xs:=vws) (fun i σ H'=>∃ v2 v3 kvs,σ=[some (.ref a),some (.ref d),v2,v3]/\(∀ b o,H b=some o->H' b=some o)/\H' d=some (.dT kvs)/\kvs.length<=8 * i/\BegSo kvs (ws.take i) [] 0)
   ⟨_,_,[],rfl,same_upd hd,upd_same,Nat.le_refl _,by rw [List.take_zero]; exact BegSo.nil _⟩ ?_ ?_ ?_⟩
  ·rintro i σ H1 hi ⟨v2,v3,kvs,rfl,s1,ed,hk,hb⟩
   exact SqL.of (s1 _ _ ea)
  ·rintro i x σ H1 hx ⟨v2,v3,kvs,rfl,s1,ed,hk,hb⟩
   have hi:i < vws.length:=(List.getElem?_eq_some_iff.mp hx).1
   have hi2:i < ws.length:=by omega
   obtain ⟨tw,ex,ew⟩:=Paired.at pa hi hi2
   have ex2:x=V.ref tw:=by rw [<- ex]; exact (List.getElem?_eq_some_iff.mp hx).2.symm
   subst ex2
   have hwl:ws[i].length<=4:=hw _ (List.getElem_mem hi2)
   have en:(((ws[i].map V.int).length:Nat):Int).toNat=ws[i].length:=by rw [List.length_map]; exact Int.toNat_natCast _
   refine ⟨_,rfl,_,_,rfl,.inr ⟨_,SqT.of (s1 _ _ ew),rfl⟩,(((ws[i].map V.int).length:Nat):Int),rfl,by rw [List.length_map]; omega,by rw [List.length_map]; omega,
    for_range (n:=(((ws[i].map V.int).length:Nat):Int).toNat) (fun n σ H'=>∃ v3 kvs,σ=[some (.ref a),some (.ref d),some (.ref tw),v3]/\(∀ b o,H b=some o->H' b=some o)/\H' d=some (.dT kvs)/\kvs.length<=8 * i + n/\BegSo kvs (ws.take i) ws[i] n) ⟨_,kvs,rfl,s1,ed,hk,?_⟩ ?_ ?_⟩
   ·intro u
    rw [hb u]
    refine decide_eq_decide.mpr ⟨fun z=>?_,fun z=>?_⟩
    ·rcases z with z | ⟨_,z⟩
     ·exact .inl z
     ·exact absurd z (Nat.not_lt_zero _)
    ·rcases z with z | ⟨_,z⟩
     ·exact .inl z
     ·exact absurd z (Nat.not_lt_zero _)
   ·rintro n σ H2 hn ⟨v3,kvs2,rfl,s2,ed2,hk2,hb2⟩
    rw [en] at hn
    have hcut:cutV (ws[i].map V.int) none (some (0 + (n:Int)))=(wk (ws[i].take n)).map kV:=by
     rw [cutI_to _ (by omega) (by omega),wk_kV]
     congr 2
     omega
    refine ⟨_,rfl,_,rfl,_,rfl,_,rfl,tw,_,rfl,SqT.of (s2 _ _ ew),?_,fun p hp=>?_⟩
    ·rintro ⟨_,z⟩
     rw [show (some (0 + (n:Int)))=some ((n:Nat):Int) by congr 1; omega,HT.sIx_nat,List.length_map] at z
     omega
    ·rw [hcut]
     have npd:d≠p:=ne_of_none ed2 hp
     have hz:kvs2.length < sizeLine:=Nat.lt_of_le_of_lt (Nat.le_trans hk2 (by omega)) (show 1000 < sizeLine by decide)
     refine ⟨d,_,rfl,DPut.t (k:=wk (ws[i].take n)) (by rw [upd_ne npd]; exact ed2) upd_same hz,?_⟩
     refine ⟨_,_,rfl,fun b o e=>?_,upd_same,?_,hb2.put (Nat.le_of_lt hn)⟩
     ·have nb:b≠d:=ne_of_none e hd
      rw [upd_ne nb]
      exact same_upd hp b o (s2 b o e)
     ·have:=length_putK kvs2 (wk (ws[i].take n)) (V.bl true)
      omega
   ·rintro σ H2 ⟨v3,kvs2,rfl,s2,ed2,hk2,hb2⟩
    rw [en] at hk2 hb2
    refine ⟨_,_,kvs2,rfl,s2,ed2,by omega,?_⟩
    rw [List.take_succ_eq_append_getElem hi2]
    exact hb2.next _
  ·rintro σ H1 ⟨v2,v3,kvs,rfl,s1,ed,hk,hb⟩
   refine ⟨_,rfl,k d kvs H1 s1 hd ed ?_⟩
   rw [lv,List.take_length] at hb
   exact hb.done
abbrev lamQ:Str:=Str.ofString "Code.__init__"++".<locals>."++"<lambda>"
abbrev lamP:Pos:=⟨57,45,57,65⟩
structure CodeT (K:W.Frag) (C:Addr):Prop where
 cl:Cls K C
 n_pairs:NoAttr K C "pairs"
 n_words_by_sign:NoAttr K C "words_by_sign"
 n_signs_by_word:NoAttr K C "signs_by_word"
 n_begun:NoAttr K C "begun"
 n_word_sizes:NoAttr K C "word_sizes"
structure St5 (C Pt:Addr) (H Hc:Hp) (x dx tp:Addr) (fs:List (Str×V)) (M:List PK3):Prop where
 g:∀ b o,b≠x->b≠Pt->H b=some o->Hc b=some o
 tb:TabOk Pt lamP lamQ Hc
 ex:Hc x=some (.ins C dx fs)
 etp:Hc tp=some (.tup (M.map (·.v)))
 at_:∀ e∈M,e.At Hc
def St5.same {C Pt:Addr} {H Hc Hn:Hp} {x dx tp:Addr} {fs:List (Str×V)} {M:List PK3} (h:St5 C Pt H Hc x dx tp fs M) (s:Same Hc Hn):St5 C Pt H Hn x dx tp fs M :=
 ⟨fun b o n1 n2 e=>s _ _ (h.g b o n1 n2 e),h.tb.same s,s _ _ h.ex,s _ _ h.etp,fun e he=>(h.at_ e he).tk s.tk⟩
def St5.fld {C Pt:Addr} {H Hc:Hp} {x dx tp:Addr} {fs fs':List (Str×V)} {M:List PK3} (h:St5 C Pt H Hc x dx tp fs M):St5 C Pt H (upd Hc x (.ins C dx fs')) x dx tp fs' M:=by
 have gr:Grow x Hc (upd Hc x (.ins C dx fs')):=fun b o e n=>by rw [upd_ne n]; exact e
 exact ⟨fun b o n1 n2 e=>gr _ _ (h.g b o n1 n2 e) n1,h.tb.grow h.ex gr,upd_same,gr _ _ h.etp (ne_of h.etp h.ex fun z=>by cases z),fun e he=>(h.at_ e he).tk (gr.tkI h.ex)⟩
theorem St5.new {C Pt:Addr} {H Hc:Hp} {x dx tp:Addr} {fs:List (Str×V)} {M:List PK3} (h:St5 C Pt H Hc x dx tp fs M) {d:Addr} (hd:Hc d=none):H d=none:=by
 cases e:H d with
 | none=>rfl
 | some o =>
  obtain ⟨ps,eP,_⟩:=h.tb
  rw [h.g d o (fun z=>by rw [z,h.ex] at hd; cases hd) (fun z=>by rw [z,eP] at hd; cases hd) e] at hd
  cases hd
theorem paired_map {α β γ:Type} {F:α->β->Prop} {f:γ->α} {g:γ->β}:∀ {M:List γ},(∀ e∈M,F (f e) (g e))->Paired F (M.map f) (M.map g)
 | [],_=>.nil
 | e::r,h=>.cons (h e List.mem_cons_self) (paired_map fun x hx=>h x (List.mem_cons_of_mem _ hx))
theorem paired_two {α β γ δ:Type} {F:α->γ->Prop} {G:β->δ->Prop} {f:α->β} {g:γ->δ} (h:∀ a c,F a c->G (f a) (g c)):∀ {l:List α} {m:List γ},Paired F l m->Paired G (l.map f) (m.map g)
 | _,_,.nil=>.nil
 | _,_,.cons a r=>.cons (h _ _ a) (paired_two h r)
theorem ok_Code___init__ (T:Txt mg) {C Pt c:Addr} (CT:CodeT K C) (hCd:W.CodeHd base c Pt) (hBm:Bm mg base) (C_refuse_fault:Cal P w K mg base "refuse_fault" 3 ["table"] spNoFault) (C_beginnings:Cal P w K mg base "beginnings" 1 ["words"] spBegin)
  {f:Addr} {oc:Value} {od an:Option Addr} {osl:Array (Option Value)} {kW doc pm ct:Value}
  (lk:K.lookup f=some ⟨oc,od,.func (W.fnOf "__init__" "Code.__init__" (defArgs s_Code___init__) (defBody s_Code___init__) (defScope s_Code___init__) .none kW doc pm an (.ref c) ct),osl⟩) (hcd:W.codeIn K (.ref c) "Code.__init__"=true) :
  FnOk P w K mg base CX0 4 f (W.fnOf "__init__" "Code.__init__" (defArgs s_Code___init__) (defBody s_Code___init__) (defScope s_Code___init__) .none kW doc pm an (.ref c) ct) ["self", "table"] (L3.spInitN C Pt lamP lamQ):=by
 refine Fun.okC lk hcd sc_Code___init__ (fun vs H Q E h=>?_) (fun A outer s H vs Q E hr h=>?_)
 ·obtain ⟨x,a,dx,L,rfl,_⟩:=h
  rfl
 ·obtain ⟨x,a,dx,L,rfl,ex,⟨vs,ea,pa⟩,fr,⟨hl,hw⟩,tb,k⟩:=h
  have SC:=sc_Code___init__
  have hr_refuse_fault:Room 3 _:=hr.mono (by decide)
  have hr_beginnings:Room 1 _:=hr.mono (by decide)
  have hr_sorted:Room 3 _:=hr.mono (by decide)
  have hr_dict:Room 3 _:=hr.mono (by decide)
  have hcode:(cxOf CX0 P w K mg base ["self", "table"] "Code.__init__" (defScope s_Code___init__) f (.ref c) A outer s H E).nox.env.code=.ref c:=rfl
  refine ⟨_,(pss_cons (ps_expr (pe_cal C_refuse_fault hr_refuse_fault rfl (pa_cons (pv 1) pa_nil)))
 (pss_cons (ps_fld (pv 0) (pe_callTy call_tuple_of (by rfl) T.b_tuple PyProof.Rows.boot_tuple (pa_cons (pe_sortL hr_sorted rfl T.b_sorted (pa_cons (pv 1) pa_nil) hcode hCd hBm rfl rfl ⟨rfl,rfl,rfl,by decide +kernel,rfl,by decide +kernel,by decide +kernel⟩ (fun _ _ _ _=>rfl) (fun _ _ _ _ _ _=>(pe_ix (bk_ixt (K:=K) rfl) (pv 0) pe_int (fun _ _=>rfl)))) pa_nil)) rfl)
 (pss_cons (ps_fld (pv 0) (pe_callTy (call_dict_of hr_dict rfl) (by rfl) T.b_dict PyProof.Rows.boot_dict (pa_cons (pe_fld (pv 0) rfl) pa_nil)) rfl)
 (pss_cons (ps_fld (pv 0) (pe_callTy (call_dict_of hr_dict rfl) (by rfl) T.b_dict PyProof.Rows.boot_dict (pa_cons (pe_comp (T:=["sign", "word"]) (cs:=[]) rfl (CScope.ok (by kernel_rfl)) (pi_tup (pe_fld (pv 0) rfl)) (fun _ _ _ _=>(pg_tup (n:=2) rfl (pgs_cons (pg_name (i:=0) (nd_of (by kernel_rfl)) rfl (Or.inl rfl) (Or.inr rfl)) (pgs_cons (pg_name (i:=1) (nd_of (by kernel_rfl)) rfl (Or.inl rfl) (Or.inr rfl)) pgs_nil)) (by rfl))) (fun _ _ _ _=>pts_nil) (fun _ _ _ _=>(pe_tup (pa_cons (pv 1) (pa_cons (pv 0) pa_nil)))) (gk_tup (gks_cons (by decide) (gks_cons (by decide) gks_nil)))) pa_nil)) rfl)
 (pss_cons (ps_fld (pv 0) (pe_cal C_beginnings hr_beginnings rfl (pa_cons (pe_comp (T:=["sign", "word"]) (cs:=[]) rfl (CScope.ok (by kernel_rfl)) (pi_tup (pe_fld (pv 0) rfl)) (fun _ _ _ _=>(pg_tup (n:=2) rfl (pgs_cons (pg_name (i:=0) (nd_of (by kernel_rfl)) rfl (Or.inl rfl) (Or.inr rfl)) (pgs_cons (pg_name (i:=1) (nd_of (by kernel_rfl)) rfl (Or.inl rfl) (Or.inr rfl)) pgs_nil)) (by rfl))) (fun _ _ _ _=>pts_nil) (fun _ _ _ _=>(pv 1)) (gk_tup (gks_cons (by decide) (gks_cons (by decide) gks_nil)))) pa_nil)) rfl)
 (pss_one (ps_fld (pv 0) (pe_callTy call_tuple_of (by rfl) T.b_tuple PyProof.Rows.boot_tuple (pa_cons (pe_callB (call_sortD rfl) (by rfl) T.b_sorted PyProof.Rows.boot_sorted (pa_cons (pe_callTy (call_dict_of hr_dict rfl) (by rfl) T.b_dict PyProof.Rows.boot_dict (pa_cons (pe_comp (T:=["sign", "word"]) (cs:=[]) rfl (CScope.ok (by kernel_rfl)) (pi_tup (pe_fld (pv 0) rfl)) (fun _ _ _ _=>(pg_tup (n:=2) rfl (pgs_cons (pg_name (i:=0) (nd_of (by kernel_rfl)) rfl (Or.inl rfl) (Or.inr rfl)) (pgs_cons (pg_name (i:=1) (nd_of (by kernel_rfl)) rfl (Or.inl rfl) (Or.inr rfl)) pgs_nil)) (by rfl))) (fun _ _ _ _=>pts_nil) (fun _ _ _ _=>(pe_tup (pa_cons (pe_callB (bk_len (K:=K) rfl) (by rfl) T.b_len PySem.boot_len (pa_cons (pv 1) pa_nil)) (pa_cons pe_bl pa_nil)))) (gk_tup (gks_cons (by decide) (gks_cons (by decide) gks_nil)))) pa_nil)) pa_nil)) pa_nil)) rfl))))))),?_⟩
  refine ⟨_,rfl,a,L,rfl,⟨vs,ea,pa⟩,fr,⟨hl,hw⟩,fun H1 s1=>?_⟩
  obtain ⟨M,m1,m2,m3⟩:=prs_pk (pa.tk s1.tk)
  obtain ⟨ps,hP,_,_⟩:=id tb
  have hP1:=s1 _ _ hP
  have lM:M.length=L.length:=by rw [<- m2,List.length_map]
  refine ⟨_,rfl,a,M.map PK3.k,rfl,?_,?_,?_,?_,tb.same s1,?_,fun H2 D L' sT T2 hD pm pw=>?_⟩
  ·have e1:(M.map PK3.k).map (·.1)=vs:=by rw [List.map_map,<- m1]; rfl
   rw [e1]
   exact SqL.of (s1 _ _ ea)
  ·rw [List.length_map]; omega
  ·intro q hq
   obtain ⟨e,he,rfl⟩:=List.mem_map.mp hq
   obtain ⟨t,_,_,cw⟩:=m3 e he
   exact ⟨SqT.of cw,(hw e.p (by rw [<- m2]; exact List.mem_map.mpr ⟨e,he,rfl⟩)).1⟩
  ·have e1:(M.map PK3.k).map (·.2.2)=L.map (·.2):=by rw [List.map_map,<- m2,List.map_map]; rfl
   rw [e1]
   exact List.pairwise_map.mpr (fr.imp fun {a b} z e=>z.2.1 (by rw [e]; exact List.prefix_refl _))
  ·intro H2 q sT hq
   obtain ⟨e,he,rfl⟩:=List.mem_map.mp hq
   obtain ⟨t,ev,b,_⟩:=m3 e he
   exact ⟨e.v,rfl,t,_,1,_,ev,rfl,SqT.of (sT _ _ (ne_of b hP1 fun z=>by cases z) b),rfl,rfl,rfl⟩
  ·obtain ⟨M',pM,rfl⟩:=perm_lift pm rfl
   have xP:x≠Pt:=ne_of ex hP fun z=>by cases z
   have ex2:H2 x=some (.ins C dx []):=sT _ _ xP (s1 _ _ ex)
   have at2:∀ e∈M',e.At H2:=fun e he=>(m3 e (pM.mem_iff.mp he)).tk (sT.tk hP1)
   have vv:(M'.map PK3.k).map (·.1)=M'.map (·.v):=by rw [List.map_map]; rfl
   have hS:(M'.map (·.p)).Perm L:=by have:=pM.map (·.p); rw [m2] at this; exact this
   have lM':M'.length < 64:=by have:=hS.length_eq; rw [List.length_map] at this; omega
   have hpL:∀ e∈M',e.p∈L:=fun e he=>hS.mem_iff.mp (List.mem_map.mpr ⟨e,he,rfl⟩)
   have hri:RisingW (M'.map (·.p)):=List.pairwise_map.mpr ((List.pairwise_map.mp pw).imp fun z=>z)
   refine ⟨_,_,rfl,.inl ⟨SqL.of upd_same,fun tp htp=>?_⟩⟩
   rw [vv]
   rw [vv] at htp
   have sA:Same H2 (upd (upd H2 D (.lst (M'.map (·.v)))) tp (.tup (M'.map (·.v)))):=(same_upd hD).trans (same_upd htp)
   have S3:St5 C Pt H (upd (upd H2 D (.lst (M'.map (·.v)))) tp (.tup (M'.map (·.v)))) x dx tp [] M' :=
    ⟨fun b o n1 n2 e=>sA _ _ (sT _ _ n2 (s1 _ _ e)),T2.same sA,sA _ _ ex2,upd_same,fun e he=>(at2 e he).tk sA.tk⟩
   generalize upd (upd H2 D (.lst (M'.map (·.v)))) tp (.tup (M'.map (·.v)))=H3 at S3
   refine ⟨_,rfl,x,C,dx,[],rfl,S3.ex,CT.cl,CT.n_pairs,by decide,?_⟩
   have S4:=S3.fld (fs':=[("pairs",.ref tp)])
   show tSeq _ _ _ _ (upd H3 x (.ins C dx [("pairs",.ref tp)]))
   generalize upd H3 x (.ins C dx [("pairs",.ref tp)])=H4 at S4
   refine ⟨_,rfl,x,C,dx,_,_,rfl,S4.ex,CT.cl,CT.n_pairs,rfl,tp,_,(M'.map fun e=>((Sum.inl e.p.1:Key),V.ref e.tw)).map (fun z=>(kV z.1,z.2)),.dK [],rfl,.inr S4.etp,?_,.inl rfl,fun d1 hd1=>⟨_,dfill_K _ [] ?_,?_⟩⟩
   ·rw [List.map_map]
    exact paired_map fun e he=>by
     obtain ⟨t,ev,b,_⟩:=S4.at_ e he
     exact ⟨t,ev,SqT.of b⟩
   ·rw [List.length_nil,List.length_map]; exact Nat.lt_of_lt_of_le (by omega:0 + M'.length < 64) (show 64<=sizeLine by decide)
   have nd1:=S4.new hd1
   have ndS:(M'.map fun e=>((Sum.inl e.p.1:Key))).Nodup:=by
    have h1:(L.map (·.1)).Nodup:=List.pairwise_map.mpr (fr.imp fun {a b} z=>z.1)
    have h2:((M'.map (·.p)).map (·.1)).Nodup:=(hS.map (·.1)).nodup_iff.mpr h1
    rw [List.map_map] at h2
    exact List.pairwise_map.mpr ((List.pairwise_map.mp h2).imp fun z e=>z (Sum.inl.inj e))
   have wb:∀ Hx:Hp,(∀ e∈M',e.At Hx)->wordsBy Hx (fillK [] (M'.map fun e=>((Sum.inl e.p.1:Key),V.ref e.tw))) (M'.map (·.p)):=fun Hx ax=>by
    refine ⟨fun p hp=>?_,fun sg hsg=>?_⟩
    ·obtain ⟨e,he,rfl⟩:=List.mem_map.mp hp
     obtain ⟨t,_,_,cw⟩:=ax e he
     exact ⟨e.tw,fill_some _ _ (by rw [List.map_map]; exact ndS) (List.mem_map.mpr ⟨e,he,rfl⟩),cw⟩
    ·rw [fill_none _ _ fun z hz=>?_]
     ·rfl
     ·obtain ⟨e,he,rfl⟩:=List.mem_map.mp hz
      exact fun q=>hsg e.p (List.mem_map.mpr ⟨e,he,rfl⟩) (Sum.inl.inj q)
   have S5:=S4.same (same_upd (o:=.dK (fillK [] (M'.map fun e=>((Sum.inl e.p.1:Key),V.ref e.tw)))) hd1)
   have ed1:(upd H4 d1 (.dK (fillK [] (M'.map fun e=>((Sum.inl e.p.1:Key),V.ref e.tw))))) d1=_:=upd_same
   generalize upd H4 d1 (.dK (fillK [] (M'.map fun e=>((Sum.inl e.p.1:Key),V.ref e.tw))))=H5 at S5 ed1
   refine ⟨_,rfl,x,C,dx,_,rfl,S5.ex,CT.cl,CT.n_words_by_sign,(by show 1 < 1000; decide),?_⟩
   have S6:=S5.fld (fs':=[("pairs",.ref tp),("words_by_sign",.ref d1)])
   have ed1':(upd H5 x (.ins C dx [("pairs",.ref tp),("words_by_sign",.ref d1)])) d1=_:=(upd_ne (ne_of ed1 S5.ex fun z=>by cases z)).trans ed1
   show tSeq _ _ _ _ (upd H5 x (.ins C dx [("pairs",.ref tp),("words_by_sign",.ref d1)]))
   generalize upd H5 x (.ins C dx [("pairs",.ref tp),("words_by_sign",.ref d1)])=H6 at S6 ed1'
   have go6:∀ (Hx:Hp) (i:Nat),Hx tp=some (.tup (M'.map (·.v)))->i < M'.length->(Itt K tp).go i Hx:=fun Hx i e hi=>⟨_,_,SqT.of e,List.getElem?_eq_getElem (by rw [List.length_map]; exact hi)⟩
   have stop6:∀ Hx:Hp,Hx tp=some (.tup (M'.map (·.v)))->(Itt K tp).stop M'.length Hx:=fun Hx e=>⟨_,SqT.of e,by rw [List.length_map]; exact Nat.le_refl _⟩
   have yld6:∀ (Hx:Hp) (i:Nat) (y:V) (H':Hp) (hi:i < M'.length),Hx tp=some (.tup (M'.map (·.v)))->(Itt K tp).yld i Hx y H'->H'=Hx/\y=M'[i].v:=fun Hx i y H' hi e z=>by
    refine ⟨z.1,?_⟩
    have:=z.2 _ (SqT.of e)
    rw [List.getElem?_map,List.getElem?_eq_getElem hi] at this
    exact (Option.some.inj this).symm
   refine ⟨_,rfl,x,C,dx,_,_,rfl,S6.ex,CT.cl,CT.n_pairs,rfl,tp,rfl,⟨_,SqT.of S6.etp⟩,comp_by (n:=M'.length)
    (fun j ys Hn=>∃ ts:List Addr,ys=ts.map V.ref/\ts.length=j/\Same H6 Hn/\Paired (fun t (e:PK3)=>Hn t=some (.tup [.ref e.tw,.int e.p.1])) ts (M'.take j)) ⟨[],rfl,rfl,.refl _,by rw [List.take_zero]; exact .nil⟩ ?_ (small_line (by omega)) ?_ ?_ ?_ ?_⟩
   ·rintro j ys Hn ⟨ts,rfl,rfl,_⟩
    rw [List.length_map]
    exact Nat.le_refl _
   ·rintro j ys Hn hj ⟨ts,rfl,rfl,sn,_⟩
    exact go6 _ _ (sn _ _ S6.etp) hj
   ·rintro ys Hn ⟨ts,rfl,_,sn,_⟩
    exact stop6 _ (sn _ _ S6.etp)
   ·rintro j ys Hn hj ⟨ts,rfl,rfl,sn,pn⟩ y H' hy
    obtain ⟨rfl,rfl⟩:=yld6 _ _ _ _ hj (sn _ _ S6.etp) hy
    obtain ⟨t,ev,b,cw⟩:=(S6.at_ _ (List.getElem_mem hj)).tk sn.tk
    refine ⟨t,_,ev,SqT.of b,rfl,_,_,rfl,_,_,rfl,rfl,?_⟩
    refine ⟨_,rfl,_,rfl,by show 2<=sizeLine; decide,fun q hq=>?_⟩
    refine ⟨ts++[q],by rw [List.map_append]; rfl,by rw [List.length_append]; rfl,sn.trans (same_upd hq),?_⟩
    rw [List.take_succ_eq_append_getElem hj]
    refine L2.Paired.snoc ?_ ?_
    ·exact upd_same
    ·exact L2.Paired.mapP pn fun _ _ z=>same_upd hq _ _ z
   ·rintro ys Hn ⟨ts,rfl,lt,sn,pn⟩ q hq
    rw [List.take_length] at pn
    have sq:=sn.trans (same_upd (o:=.lst (ts.map V.ref)) hq)
    have pn':=Paired.mapP pn fun _ _ z=>same_upd (o:=.lst (ts.map V.ref)) hq _ _ z
    have eq:(upd Hn q (.lst (ts.map V.ref))) q=_:=upd_same
    have S7:=S6.same sq
    have ed7:=sq _ _ ed1'
    generalize upd Hn q (.lst (ts.map V.ref))=H7 at S7 ed7 pn' eq
    refine ⟨q,_,(M'.map fun e=>(e.tw,wk e.p.2,V.int e.p.1)).map (fun z=>(.ref z.1,z.2.2)),.dT [],rfl,.inl eq,?_,.inr rfl,fun d2 hd2=>⟨_,dfill_T hd2 _ [] ?_ ?_,?_⟩⟩
    ·rw [List.map_map]
     exact paired_two (fun t e z=>⟨t,rfl,SqT.of z⟩) pn'
    ·rw [List.length_nil,List.length_map]; exact Nat.lt_of_lt_of_le (by omega:0 + M'.length < 64) (show 64<=sizeLine by decide)
    ·intro z hz
     obtain ⟨e,he,rfl⟩:=List.mem_map.mp hz
     obtain ⟨t,_,_,cw⟩:=S7.at_ e he
     show H7 e.tw=some (.tup ((wk e.p.2).map kV))
     rw [wk_kV]
     exact cw
    rw [List.map_map]
    have ndW:(M'.map fun e=>wk e.p.2).Nodup:=by
     have h1:(L.map (·.2)).Nodup:=List.pairwise_map.mpr (fr.imp fun {a b} z e=>z.2.1 (by rw [e]; exact List.prefix_refl _))
     have h2:((M'.map (·.p)).map (·.2)).Nodup:=(hS.map (·.2)).nodup_iff.mpr h1
     rw [List.map_map] at h2
     exact List.pairwise_map.mpr ((List.pairwise_map.mp h2).imp fun z e=>z (wk_inj e))
    have sb:signsBy (fillK [] (M'.map fun e=>(wk e.p.2,V.int e.p.1))) (M'.map (·.p)):=by
     refine ⟨fun p hp=>?_,fun u hu=>?_⟩
     ·obtain ⟨e,he,rfl⟩:=List.mem_map.mp hp
      exact fill_some _ _ (by rw [List.map_map]; exact ndW) (List.mem_map.mpr ⟨e,he,rfl⟩)
     ·rw [fill_none _ _ fun z hz=>?_]
      ·rfl
      ·obtain ⟨e,he,rfl⟩:=List.mem_map.mp hz
       exact fun q=>hu e.p (List.mem_map.mpr ⟨e,he,rfl⟩) (wk_inj q)
    have nd2:=S7.new hd2
    have S8:=S7.same (same_upd (o:=.dT (fillK [] (M'.map fun e=>(wk e.p.2,V.int e.p.1)))) hd2)
    have ed8:=same_upd (o:=.dT (fillK [] (M'.map fun e=>(wk e.p.2,V.int e.p.1)))) hd2 _ _ ed7
    have es8:(upd H7 d2 (.dT (fillK [] (M'.map fun e=>(wk e.p.2,V.int e.p.1))))) d2=_:=upd_same
    show tVar 0 _ (upd H7 d2 (.dT (fillK [] (M'.map fun e=>(wk e.p.2,V.int e.p.1))))) _
    generalize upd H7 d2 (.dT (fillK [] (M'.map fun e=>(wk e.p.2,V.int e.p.1))))=H8 at S8 ed8 es8
    refine ⟨_,rfl,x,C,dx,_,rfl,S8.ex,CT.cl,CT.n_signs_by_word,(by show 2 < 1000; decide),?_⟩
    have S9:=S8.fld (fs':=[("pairs",.ref tp),("words_by_sign",.ref d1),("signs_by_word",.ref d2)])
    have ed9:(upd H8 x (.ins C dx [("pairs",.ref tp),("words_by_sign",.ref d1),("signs_by_word",.ref d2)])) d1=_:=(upd_ne (ne_of ed8 S8.ex fun z=>by cases z)).trans ed8
    have es9:(upd H8 x (.ins C dx [("pairs",.ref tp),("words_by_sign",.ref d1),("signs_by_word",.ref d2)])) d2=_:=(upd_ne (ne_of es8 S8.ex fun z=>by cases z)).trans es8
    show tSeq _ _ _ _ (upd H8 x (.ins C dx [("pairs",.ref tp),("words_by_sign",.ref d1),("signs_by_word",.ref d2)]))
    generalize upd H8 x (.ins C dx [("pairs",.ref tp),("words_by_sign",.ref d1),("signs_by_word",.ref d2)])=H9 at S9 ed9 es9
    refine ⟨_,rfl,x,C,dx,_,_,rfl,S9.ex,CT.cl,CT.n_pairs,rfl,tp,rfl,⟨_,SqT.of S9.etp⟩,comp_by (n:=M'.length)
     (fun j ys Hn=>ys=(M'.take j).map (fun e=>V.ref e.tw)/\Hn=H9) ⟨by rw [List.take_zero]; rfl,rfl⟩ ?_ (small_line (by omega)) ?_ ?_ ?_ ?_⟩
    ·rintro j ys Hn ⟨rfl,rfl⟩
     rw [List.length_map,List.length_take]
     exact Nat.min_le_left _ _
    ·rintro j ys Hn hj ⟨rfl,rfl⟩
     exact go6 _ _ S9.etp hj
    ·rintro ys Hn ⟨rfl,rfl⟩
     exact stop6 _ S9.etp
    ·rintro j ys Hn hj ⟨rfl,rfl⟩ y H' hy
     obtain ⟨rfl,rfl⟩:=yld6 _ _ _ _ hj S9.etp hy
     obtain ⟨t,ev,b,cw⟩:=S9.at_ _ (List.getElem_mem hj)
     refine ⟨t,_,ev,SqT.of b,rfl,_,_,rfl,_,_,rfl,rfl,?_⟩
     refine ⟨_,rfl,?_,rfl⟩
     rw [List.take_succ_eq_append_getElem hj,List.map_append]
     rfl
    ·rintro ys Hn ⟨rfl,rfl⟩ q2 hq2
     rw [List.take_length]
     have sq2:=same_upd (o:=.lst (M'.map fun e=>V.ref e.tw)) hq2
     have eq2:(upd Hn q2 (.lst (M'.map fun e=>V.ref e.tw))) q2=_:=upd_same
     have S10:=S9.same sq2
     have ed10:=sq2 _ _ ed9
     have es10:=sq2 _ _ es9
     generalize upd Hn q2 (.lst (M'.map fun e=>V.ref e.tw))=H10 at S10 ed10 es10 eq2
     refine ⟨q2,_,M'.map (·.p.2),rfl,eq2,paired_map fun e he=>?_,by rw [List.length_map]; exact lM',?_,fun d3 k3 H11 s11 nd3 ed3 hb3=>?_⟩
     ·obtain ⟨t,_,_,cw⟩:=S10.at_ e he
      exact ⟨_,rfl,cw⟩
     ·intro u hu
      obtain ⟨e,he,rfl⟩:=List.mem_map.mp hu
      exact (hw _ (hpL e he)).2
     have nd3':=S10.new nd3
     have S11:=S10.same s11
     have ed11:=s11 _ _ ed10
     have es11:=s11 _ _ es10
     refine ⟨_,rfl,x,C,dx,_,rfl,S11.ex,CT.cl,CT.n_begun,(by show 3 < 1000; decide),?_⟩
     have S12:=S11.fld (fs':=[("pairs",.ref tp),("words_by_sign",.ref d1),("signs_by_word",.ref d2),("begun",.ref d3)])
     have ed12:(upd H11 x (.ins C dx [("pairs",.ref tp),("words_by_sign",.ref d1),("signs_by_word",.ref d2),("begun",.ref d3)])) d1=_:=(upd_ne (ne_of ed11 S11.ex fun z=>by cases z)).trans ed11
     have es12:(upd H11 x (.ins C dx [("pairs",.ref tp),("words_by_sign",.ref d1),("signs_by_word",.ref d2),("begun",.ref d3)])) d2=_:=(upd_ne (ne_of es11 S11.ex fun z=>by cases z)).trans es11
     have eb12:(upd H11 x (.ins C dx [("pairs",.ref tp),("words_by_sign",.ref d1),("signs_by_word",.ref d2),("begun",.ref d3)])) d3=_:=(upd_ne (ne_of ed3 S11.ex fun z=>by cases z)).trans ed3
     have pf:putF (Str.ofString "begun") (V.ref d3) [("pairs",.ref tp),("words_by_sign",.ref d1),("signs_by_word",.ref d2)]=([("pairs",.ref tp),("words_by_sign",.ref d1),("signs_by_word",.ref d2),("begun",.ref d3)]:List (Str×V)):=by rfl
     rw [pf]
     generalize upd H11 x (.ins C dx [("pairs",.ref tp),("words_by_sign",.ref d1),("signs_by_word",.ref d2),("begun",.ref d3)])=H12 at S12 ed12 es12 eb12
     refine ⟨_,rfl,x,C,dx,_,_,rfl,S12.ex,CT.cl,CT.n_pairs,rfl,tp,rfl,⟨_,SqT.of S12.etp⟩,comp_by (n:=M'.length)
      (fun j ys Hn=>∃ ts:List Addr,ys=ts.map V.ref/\ts.length=j/\Same H12 Hn/\Paired (fun t (e:PK3)=>Hn t=some (.tup [.int (e.p.2.length:Int),.bl true])) ts (M'.take j)) ⟨[],rfl,rfl,.refl _,by rw [List.take_zero]; exact .nil⟩ ?_ (small_line (by omega)) ?_ ?_ ?_ ?_⟩
     ·rintro j ys Hn ⟨ts,rfl,rfl,_⟩
      rw [List.length_map]
      exact Nat.le_refl _
     ·rintro j ys Hn hj ⟨ts,rfl,rfl,sn,_⟩
      exact go6 _ _ (sn _ _ S12.etp) hj
     ·rintro ys Hn ⟨ts,rfl,_,sn,_⟩
      exact stop6 _ (sn _ _ S12.etp)
     ·rintro j ys Hn hj ⟨ts,rfl,rfl,sn,pn⟩ y H' hy
      obtain ⟨rfl,rfl⟩:=yld6 _ _ _ _ hj (sn _ _ S12.etp) hy
      obtain ⟨t,ev,b,cw⟩:=(S12.at_ _ (List.getElem_mem hj)).tk sn.tk
      refine ⟨t,_,ev,SqT.of b,rfl,_,_,rfl,_,_,rfl,rfl,?_⟩
      refine ⟨_,rfl,_,_,rfl,.inr ⟨_,SqT.of cw,rfl⟩,by show 2<=sizeLine; decide,fun q hq=>?_⟩
      refine ⟨ts++[q],by rw [List.map_append]; rfl,by rw [List.length_append]; rfl,sn.trans (same_upd hq),?_⟩
      rw [List.take_succ_eq_append_getElem hj]
      refine L2.Paired.snoc ?_ ?_
      ·rw [List.length_map]; exact upd_same
      ·exact L2.Paired.mapP pn fun _ _ z=>same_upd hq _ _ z
     ·rintro ys Hn ⟨ts,rfl,lt,sn,pn⟩ q3 hq3
      rw [List.take_length] at pn
      have sq3:=sn.trans (same_upd (o:=.lst (ts.map V.ref)) hq3)
      have pn':=Paired.mapP pn fun _ _ z=>same_upd (o:=.lst (ts.map V.ref)) hq3 _ _ z
      have eq3:(upd Hn q3 (.lst (ts.map V.ref))) q3=_:=upd_same
      have S13:=S12.same sq3
      have ed13:=sq3 _ _ ed12
      have es13:=sq3 _ _ es12
      have eb13:=sq3 _ _ eb12
      generalize upd Hn q3 (.lst (ts.map V.ref))=H13 at S13 ed13 es13 eb13 pn' eq3
      refine ⟨q3,_,((M'.map fun e=>(e.p.2.length:Int)).map fun z=>((Sum.inl z:Key),V.bl true)).map (fun z=>(kV z.1,z.2)),.dK [],rfl,.inl eq3,?_,.inl rfl,fun d5 hd5=>⟨_,dfill_K _ [] ?_,?_⟩⟩
      ·rw [List.map_map,List.map_map]
       exact paired_two (fun t e z=>⟨t,rfl,SqT.of z⟩) pn'
      ·rw [List.length_nil,List.length_map,List.length_map]; exact Nat.lt_of_lt_of_le (by omega:0 + M'.length < 64) (show 64<=sizeLine by decide)
      obtain ⟨ns,ens,nd,mem⟩:=fill_ints (M'.map fun e=>(e.p.2.length:Int)) [] [] rfl .nil
      have lk5:=fill_len ((M'.map fun e=>(e.p.2.length:Int)).map fun z=>((Sum.inl z:Key),V.bl true)) []
      have S14:=S13.same (same_upd (o:=.dK (fillK [] ((M'.map fun e=>(e.p.2.length:Int)).map fun z=>((Sum.inl z:Key),V.bl true)))) hd5)
      have ed14:=same_upd (o:=.dK (fillK [] ((M'.map fun e=>(e.p.2.length:Int)).map fun z=>((Sum.inl z:Key),V.bl true)))) hd5 _ _ ed13
      have es14:=same_upd (o:=.dK (fillK [] ((M'.map fun e=>(e.p.2.length:Int)).map fun z=>((Sum.inl z:Key),V.bl true)))) hd5 _ _ es13
      have eb14:=same_upd (o:=.dK (fillK [] ((M'.map fun e=>(e.p.2.length:Int)).map fun z=>((Sum.inl z:Key),V.bl true)))) hd5 _ _ eb13
      have e5:(upd H13 d5 (.dK (fillK [] ((M'.map fun e=>(e.p.2.length:Int)).map fun z=>((Sum.inl z:Key),V.bl true))))) d5=_:=upd_same
      generalize upd H13 d5 (.dK (fillK [] ((M'.map fun e=>(e.p.2.length:Int)).map fun z=>((Sum.inl z:Key),V.bl true))))=H14 at S14 ed14 es14 eb14 e5
      refine ⟨d5,_,ns,rfl,e5,ens,by rw [List.length_map,List.length_map,List.length_nil] at lk5; omega,fun D5 ns' hD5 pN riN=>?_⟩
      refine ⟨D5,_,rfl,.inl ⟨SqL.of upd_same,fun d4 hd4=>?_⟩⟩
      have sz:=(same_upd (o:=.lst (ns'.map V.int)) hD5).trans (same_upd (o:=.tup (ns'.map V.int)) hd4)
      have S15:=S14.same sz
      have ed15:=sz _ _ ed14
      have es15:=sz _ _ es14
      have eb15:=sz _ _ eb14
      have ez15:(upd (upd H14 D5 (.lst (ns'.map V.int))) d4 (.tup (ns'.map V.int))) d4=_:=upd_same
      generalize upd (upd H14 D5 (.lst (ns'.map V.int))) d4 (.tup (ns'.map V.int))=H15 at S15 ed15 es15 eb15 ez15
      refine ⟨_,rfl,x,C,dx,_,rfl,S15.ex,CT.cl,CT.n_word_sizes,(by show 4 < 1000; decide),?_⟩
      have S16:=S15.fld (fs':=[("pairs",.ref tp),("words_by_sign",.ref d1),("signs_by_word",.ref d2),("begun",.ref d3),("word_sizes",.ref d4)])
      have pf2:putF (Str.ofString "word_sizes") (V.ref d4) [("pairs",.ref tp),("words_by_sign",.ref d1),("signs_by_word",.ref d2),("begun",.ref d3)]=([("pairs",.ref tp),("words_by_sign",.ref d1),("signs_by_word",.ref d2),("begun",.ref d3),("word_sizes",.ref d4)]:List (Str×V)):=by rfl
      rw [pf2]
      have ed16:=(upd_ne (a:=x) (o:=HO.ins C dx [("pairs",.ref tp),("words_by_sign",.ref d1),("signs_by_word",.ref d2),("begun",.ref d3),("word_sizes",.ref d4)]) (ne_of ed15 S15.ex fun z=>by cases z)).trans ed15
      have es16:=(upd_ne (a:=x) (o:=HO.ins C dx [("pairs",.ref tp),("words_by_sign",.ref d1),("signs_by_word",.ref d2),("begun",.ref d3),("word_sizes",.ref d4)]) (ne_of es15 S15.ex fun z=>by cases z)).trans es15
      have eb16:=(upd_ne (a:=x) (o:=HO.ins C dx [("pairs",.ref tp),("words_by_sign",.ref d1),("signs_by_word",.ref d2),("begun",.ref d3),("word_sizes",.ref d4)]) (ne_of eb15 S15.ex fun z=>by cases z)).trans eb15
      have ez16:=(upd_ne (a:=x) (o:=HO.ins C dx [("pairs",.ref tp),("words_by_sign",.ref d1),("signs_by_word",.ref d2),("begun",.ref d3),("word_sizes",.ref d4)]) (ne_of ez15 S15.ex fun z=>by cases z)).trans ez15
      refine k _ (M'.map (·.p)) hS hri ⟨dx,tp,d1,d2,d3,d4,S16.ex,⟨⟨_,S16.etp,pk_prs S16.at_⟩,⟨_,ed16,wb _ S16.at_⟩,⟨_,es16,sb⟩,⟨k3,eb16,?_⟩,⟨ns',ez16,sizes_are nd (fun n=>by rw [mem,List.map_map]; simp only [List.not_mem_nil,false_or]; rfl) pN riN⟩⟩,nd1,nd2,nd3'⟩ S16.tb S16.g
      rw [List.map_map]
      exact hb3
def ok_Code_word (T:Txt mg) {C:Addr} (CT:CodeT K C) {f:Addr} {fd:FuncData} (F:Fun K "word" "Code.word" s_Code_word f fd):FnOk P w K mg base CX0 1 f fd ["self", "sign"] (spWord C):=by
 refine F.ok sc_Code_word (fun vs H Q E h=>?_) (fun cdv A outer s H vs Q E hr h=>?_)
 ·obtain ⟨x,S,z,rfl,_⟩:=h
  rfl
 ·obtain ⟨x,S,z,rfl,⟨dx,tp,d1,d2,d3,d4,ex,ci⟩,k1,k2⟩:=h
  obtain ⟨k3,e3,hb1,hb2⟩:=ci.wb
  have SC:=sc_Code_word
  have hu1:=hu_of hr
  refine ⟨_,(pss_one (ps_ret (pe_dget1 hu1 (pe_fld (pv 0) rfl) (pv 1) ⟨rfl,rfl,rfl,rfl⟩))),?_⟩
  refine ⟨_,rfl,x,C,dx,_,_,rfl,ex,CT.cl,CT.n_words_by_sign,rfl,d1,rfl,.inl ⟨_,.inl e3⟩,_,rfl,_,DGet.k (k:=Sum.inl z) e3,?_⟩
  by_cases hp:∃ p∈S,p.1=z
  ·obtain ⟨p,hp,e⟩:=hp
   obtain ⟨t,h1,h2⟩:=hb1 p hp
   rw [e] at h1
   rw [h1]
   exact k1 p hp e t h2
  ·rw [hb2 z fun p hq e=>hp ⟨p,hq,e⟩]
   exact k2 fun p hq e=>hp ⟨p,hq,e⟩
def ok_Code_table (T:Txt mg) {C:Addr} (CT:CodeT K C) {f:Addr} {fd:FuncData} (F:Fun K "table" "Code.table" s_Code_table f fd):FnOk P w K mg base CX0 1 f fd ["self"] (spCTable C):=by
 refine F.ok sc_Code_table (fun vs H Q E h=>?_) (fun cdv A outer s H vs Q E hr h=>?_)
 ·obtain ⟨x,S,rfl,_⟩:=h
  rfl
 ·obtain ⟨x,S,rfl,⟨dx,tp,d1,d2,d3,d4,ex,ci⟩,k⟩:=h
  obtain ⟨us,e1,ps⟩:=ci.pr
  have SC:=sc_Code_table
  refine ⟨_,(pss_one (ps_ret (pe_callTy call_list_of (by rfl) T.b_list PyProof.Rows.boot_list (pa_cons (pe_fld (pv 0) rfl) pa_nil)))),?_⟩
  exact ⟨_,rfl,x,C,dx,_,_,rfl,ex,CT.cl,CT.n_pairs,rfl,_,_,rfl,.inr (SqT.of e1),fun l hl=>k l us hl ps⟩
theorem ok__law_from (T:Txt mg) {f:Addr} {fd:FuncData} (F:Fun K "_law_from" "_law_from" s__law_from f fd):FnOk P w K mg base CX0 1 f fd ["_law_table_here", "_law_row", "_law_at"] spFrom:=by
 refine F.ok sc__law_from (fun vs H Q E h=>?_) (fun cdv A outer s H vs Q E hr h=>?_)
 ·obtain ⟨ta,ra,L,ns,pl,rfl,_⟩:=h
  rfl
 ·obtain ⟨ta,ra,L,ns,pl,rfl,⟨vs,et,pt⟩,lL,er,hpl,k1,k2⟩:=h
  have SC:=sc__law_from
  have hu:=hr.units
  have lv:=Paired.length pt
  refine ⟨_,(pss_cons (ps_for PassesOwn.never rfl (pi_list (pv 0)) (pg_tup (n:=2) rfl (pgs_cons (pg_name (i:=3) SC.nd rfl (Or.inl rfl)) (pgs_cons (pg_name (i:=4) SC.nd rfl (Or.inl rfl)) pgs_nil)) (by rfl))
 (pss_one (ps_if (pt_cmpR (op_eqD hu) (pe_callTy call_tuple_of (by rfl) T.b_tuple PyProof.Rows.boot_tuple (pa_cons (pe_slice sl_list (pv 1) (po_some (pv 2)) (po_some (pe_op op_add (pv 2) (pe_callB call_len (by rfl) T.b_len PySem.boot_len (pa_cons (pv 4) pa_nil))))) pa_nil)) (pv 4) (nomark _))
 (pss_one (ps_ret (pe_tup (pa_cons (pv 3) (pa_cons (pe_op op_add (pv 2) (pe_callB call_len (by rfl) T.b_len PySem.boot_len (pa_cons (pv 4) pa_nil))) pa_nil)))))
 pss_nil)))
 (pss_one (ps_ret pe_non))),?_⟩
  refine ⟨_,rfl,ta,rfl,⟨_,SqL.of et⟩,for_list (xs:=vs) (fun i σ H'=>∃ v3 v4,σ=[some (.ref ta),some (.ref ra),some (.int pl),v3,v4]/\Same H H'/\∀ j (hj:j < L.length),j < i->¬ L[j].2<+:ns.drop pl) ⟨_,_,rfl,.refl _,fun j _ z=>absurd z (Nat.not_lt_zero _)⟩ ?_ ?_ ?_⟩
  ·rintro i σ H1 hi ⟨v3,v4,rfl,s1,_⟩
   exact SqL.of (s1 _ _ et)
  ·rintro i v σ H1 hv ⟨v3,v4,rfl,s1,no⟩
   have hi:i < vs.length:=(List.getElem?_eq_some_iff.mp hv).1
   have hi2:i < L.length:=by omega
   obtain ⟨t,tw,ev,e1,e2⟩:=L2.Paired.at pt hi hi2
   have ev':v=.ref t:=by rw [<- ev]; exact (List.getElem?_eq_some_iff.mp hv).2.symm
   subst ev'
   have lwm:(L[i].2.map V.int).length=L[i].2.length:=List.length_map _
   refine ⟨t,_,rfl,SqT.of (s1 _ _ e1),rfl,_,_,rfl,_,_,rfl,rfl,?_⟩
   refine ⟨_,rfl,_,rfl,_,rfl,_,rfl,_,rfl,_,_,rfl,.inr ⟨_,SqT.of (s1 _ _ e2),rfl⟩,_,_,rfl,rfl,_,rfl,ra,_,rfl,SqL.of (s1 _ _ er),fun q hq=>?_⟩
   have ec:cutV (ns.map V.int) (some (pl:Int)) (some ((pl:Int) + (((L[i].2.map V.int).length:Nat):Int)))=((ns.drop pl).take L[i].2.length).map V.int:=by
    rw [lwm]
    exact cut_mid ns hpl
   rw [ec]
   refine ⟨q,_,rfl,.inl ⟨SqL.of upd_same,fun t2 ht2=>?_⟩⟩
   have hpre:(ns.drop pl).take L[i].2.length=L[i].2↔L[i].2<+:ns.drop pl:=⟨fun e=>e ▸ List.take_prefix _ _,fun z=>(List.prefix_iff_eq_take.mp z).symm⟩
   generalize (ns.drop pl).take L[i].2.length=u at hpre ht2
   have s2:=(s1.trans (same_upd hq)).trans (same_upd (o:=.tup (u.map V.int)) ht2)
   have et2:(upd (upd H1 q (.lst (u.map V.int))) t2 (.tup (u.map V.int))) t2=_:=upd_same
   generalize upd (upd H1 q (.lst (u.map V.int))) t2 (.tup (u.map V.int))=H2 at s2 et2
   refine ⟨_,rfl,_,_,DV.tup (SqT.of et2) (dvs_ints _),DV.tup (SqT.of (s2 _ _ e2)) (dvs_ints _),(shp_tints _).shaped (by decide),(shp_tints _).shaped (by decide),_,rfl,?_⟩
   rw [eqv_tup]
   refine ite2 (fun hz=>?_) (fun hz=>?_)
   ·have hp:=hpre.mp (of_decide_eq_true hz)
    refine ⟨_,rfl,_,rfl,_,rfl,_,_,rfl,.inr ⟨_,SqT.of (s2 _ _ e2),rfl⟩,_,_,rfl,rfl,by show 2<=sizeLine; decide,fun t3 ht3=>?_⟩
    refine k1 _ (List.getElem_mem hi2) hp t3 _ (s2.trans (same_upd ht3)) ?_
    rw [upd_same,lwm,Int.natCast_add]
   ·refine ⟨_,_,rfl,s2,fun j hj hji hp=>?_⟩
    by_cases hj2:j < i
    ·exact no j hj hj2 hp
    ·have:j=i:=by omega
     subst this
     exact of_decide_eq_false (Bool.not_eq_true _ ▸ hz) (hpre.mpr hp)
  ·rintro σ H1 ⟨v3,v4,rfl,s1,no⟩
   refine k2 (fun p hp hq=>?_) H1 s1
   obtain ⟨j,hj,rfl⟩:=List.getElem_of_mem hp
   exact no j hj (by omega) hq
abbrev telQ:Str:=Str.ofString "telling"++".<locals>."++"<lambda>"
abbrev telP:Pos:=⟨22,31,22,61⟩
open L3
theorem ok_unshared_words (T:Txt mg) {C:Addr} (M_table:Met P w K mg base C "table" 1 ["self"] (L3.spOf ⟨C,K⟩ dCTable)) (M_word:Met P w K mg base C "word" 1 ["self", "sign"] (L3.spOf ⟨C,K⟩ dWord)) {f:Addr} {fd:FuncData} (F:Fun K "unshared_words" "unshared_words" s_unshared_words f fd):FnOk P w K mg base CX0 3 f fd ["one", "other"] (L3.spOf ⟨C,K⟩ dUnshared):=by
 refine L3.Fun.ok3 F sc_unshared_words (fun ds M K3 h=>?_) (fun cdv A outer s H E hr=>?_)
 ·obtain ⟨S,Tt,rfl,_⟩:=h
  rfl
 ·have SC:=sc_unshared_words
  have hu:=hr.units
  have hu1:=hu_of hr
  have hr_table:Room 1 _:=hr.mono (by first | decide | omega)
  have hr_word:Room 1 _:=hr.mono (by first | decide | omega)
  refine ⟨_,_,(pss_one (ps_ret (pe_comp (T:=["sign", "word"]) (cs:=[1]) rfl (CScope.ok (by kernel_rfl)) (pi_list (pe_mt0 (pv 0) M_table hr_table)) (fun _ _ _ _=>(pg_tup (n:=2) rfl (pgs_cons (pg_name (i:=0) (nd_of (by kernel_rfl)) rfl (Or.inl rfl) (Or.inr rfl)) (pgs_cons (pg_name (i:=1) (nd_of (by kernel_rfl)) rfl (Or.inl rfl) (Or.inr rfl)) pgs_nil)) (by rfl))) (fun _ _ _ _=>(pts_one (pt_cmpR (L3.ux_ne (K':=K) rfl hu) (pe_mt (pv 2) M_word hr_word (pa_cons (pv 0) pa_nil)) (pv 1) (nomark _)))) (fun _ _ _ _=>(pv 1)) (gk_tup (gks_cons (by decide) (gks_cons (by decide) gks_nil)))))),fun _=>(L3.s_ret (L3.s_comp (L3.s_il (L3.s_methC (fun _ _ _ _ _=>rfl) (L3.s_var 0) L3.s_nil)) (L3.s_gtup (L3.s_gcons (L3.s_g 0) (L3.s_gcons (L3.s_g 1) L3.s_gnil))) (L3.s_test (L3.s_op L3.s_ne (L3.s_methC (fun _ _ _ _ _=>rfl) (L3.s_var 2) (L3.s_cons (L3.s_var 0) L3.s_nil)) (L3.s_var 1))) (L3.s_var 1))),fun ds M Kk hM hD h=>?_⟩
  obtain ⟨S,Tt,rfl,h⟩:=h
  obtain ⟨⟨nd,ln⟩,k⟩:=h
  refine ⟨_,rfl,⟨_,rfl⟩,S,rfl,?_⟩
  refine ⟨_,rfl,?_,fun j ys M'=>M=M'/\ys=(((S.take j).filter fun p=>decide (p∉Tt)).map (·.2)).map wD,fun _ _ _ _ h=>(by rw [<- h.1]; rfl),⟨rfl,rfl⟩,?_,?_⟩
  ·show (S.map pD).length<=sizeLine
   rw [List.length_map]
   exact small_line (by omega)
  ·rintro j x ys _ hj hx ⟨rfl,rfl⟩
   obtain ⟨hj',rfl⟩:=item_map hx
   have hn:∀ p∈Tt,p.1=S[j].1->(p.2=S[j].2↔S[j]∈Tt):=fun p hp e=>by
    constructor
    ·intro e2
     have:p=S[j]:=Prod.ext e e2
     rw [<- this]; exact hp
    ·intro hm
     obtain ⟨a,ha,ea⟩:=List.getElem_of_mem hp
     obtain ⟨b,hb,eb⟩:=List.getElem_of_mem hm
     have:a=b:=(List.getElem_inj (i:=a) (j:=b) (h₀:=by simpa using ha) (h₁:=by simpa using hb) nd).mp (by simp [ea,eb,e])
     subst this
     rw [<- ea,eb]
   have fin:∀ b:Bool,(b=true↔S[j]∈Tt)->∀ (K1 K2:Prop),(S[j]∉Tt->K1)->(S[j]∈Tt->K2)->if (!b)=true then K1 else K2:=fun b hb K1 K2 h1 h2=>by
    cases b with
    | true=>exact h2 (hb.mp rfl)
    | false=>exact h1 fun z=>by have:=hb.mpr z; cases this
   have yes:S[j]∉Tt->uVar 1 [some (.int S[j].1),some (wD S[j].2),some (.code Tt)] M fun y M4=>M=M4/\(((S.take j).filter fun p=>decide (p∉Tt)).map (·.2)).map wD++[y]=(((S.take (j + 1)).filter fun p=>decide (p∉Tt)).map (·.2)).map wD:=fun hm=>by
    refine ⟨_,rfl,rfl,?_⟩
    rw [List.take_succ_eq_append_getElem hj',List.filter_append,List.filter_cons,if_pos (decide_eq_true hm),List.map_append,List.map_append]
    rfl
   have no:S[j]∈Tt->M=M/\(((S.take j).filter fun p=>decide (p∉Tt)).map (·.2)).map wD=(((S.take (j + 1)).filter fun p=>decide (p∉Tt)).map (·.2)).map wD:=fun hm=>by
    refine ⟨rfl,?_⟩
    rw [List.take_succ_eq_append_getElem hj',List.filter_append,List.filter_cons,if_neg (fun z=>(of_decide_eq_true z) hm),List.filter_nil,List.append_nil]
   refine ⟨_,rfl,rfl,_,_,rfl,_,_,rfl,rfl,?_⟩
   refine ⟨_,rfl,⟨_,rfl⟩,_,rfl,Tt,S[j].1,rfl,fun p hp e=>?_,fun hno=>?_⟩
   ·refine ⟨_,rfl,eqv_enc (encTup encInt) (a:=p.2) (b:=S[j].2) ⟨_,rfl,fin _ (by rw [decide_eq_true_iff]; exact hn p hp e) _ _ (fun hm=>?_) fun hm=>?_⟩⟩
    ·exact yes hm
    ·exact no hm
   ·have hm:S[j]∉Tt:=fun z=>hno _ z rfl
    exact ⟨_,rfl,.inr ⟨.none,_,.non,(encTup encInt).ok M S[j].2,rfl,((encTup encInt).shp S[j].2).shaped (by decide),⟨_,rfl,yes hm⟩⟩⟩
  ·rintro ys _ ⟨rfl,rfl⟩
   have er:S.take (S.map pD).length=S:=by rw [List.length_map,List.take_length]
   rw [show List.take _ S=S from er]
   exact .inl k
theorem ok_telling (T:Txt mg) {C Pt c:Addr} (hCd:W.CodeHd base c Pt) (hBm:Bm mg base) (C_unshared_words:Cal P w K mg base "unshared_words" 3 ["one", "other"] (L3.spOf ⟨C,K⟩ dUnshared))
  {f:Addr} {oc:Value} {od an:Option Addr} {osl:Array (Option Value)} {kW doc pm ct:Value}
  (lk:K.lookup f=some ⟨oc,od,.func (W.fnOf "telling" "telling" (defArgs s_telling) (defBody s_telling) (defScope s_telling) .none kW doc pm an (.ref c) ct),osl⟩) (hcd:W.codeIn K (.ref c) "telling"=true) :
  FnOk P w K mg base CX0 5 f (W.fnOf "telling" "telling" (defArgs s_telling) (defBody s_telling) (defScope s_telling) .none kW doc pm an (.ref c) ct) ["one", "other"] (L3.spOf ⟨C,K⟩ (dTelling Pt telP telQ)):=by
 refine L3.Fun.okC3 lk hcd sc_telling (fun ds M K3 h=>?_) (fun A outer s H E hr=>?_)
 ·obtain ⟨k0,S,Tt,rfl,_⟩:=h
  rfl
 ·have SC:=sc_telling
  have hu:=hr.units
  have hu1:=hu_of hr
  have hcode:(cxOf CX0 P w K mg base ["one", "other", "words"] "telling" (defScope s_telling) f (.ref c) A outer s H E).nox.env.code=.ref c:=rfl
  have hr_min:Room 2 _:=hr.mono (by first | decide | omega)
  have hr_unshared_words:Room 3 _:=hr.mono (by first | decide | omega)
  refine ⟨_,_,(pss_cons (ps_set (i:=2) SC.nd rfl (Or.inl rfl) (pe_op (L3.ux_add (K':=K) rfl) (pe_cal C_unshared_words hr_unshared_words rfl (pa_cons (pv 0) (pa_cons (pv 1) pa_nil))) (pe_cal C_unshared_words hr_unshared_words rfl (pa_cons (pv 1) (pa_cons (pv 0) pa_nil)))))
 (pss_cons (ps_if (pt_cmpR (L3.ux_eq (K':=K) rfl hu) (pe_callB (bk_len (K:=K) rfl) (by rfl) T.b_len PySem.boot_len (pa_cons (pv 2) pa_nil)) pe_int (nomark _))
 (pss_one (ps_ret pe_non))
 pss_nil)
 (pss_one (ps_ret (pe_callTy (bk_list (K:=K) rfl) (by rfl) T.b_list PyProof.Rows.boot_list (pa_cons (pe_minL hr_min rfl rfl T.b_min (pa_cons (pv 2) pa_nil) hcode hCd hBm rfl rfl ⟨rfl,rfl,rfl,by decide +kernel,rfl,by decide +kernel,by decide +kernel⟩ (fun _ _ _ _=>rfl) (fun _ _ _ _ _ _=>(pe_tup (pa_cons (pe_callB (bk_len (K:=K) rfl) (by rfl) T.b_len PySem.boot_len (pa_cons (pv 0) pa_nil)) (pa_cons (pv 0) pa_nil))))) pa_nil)))))),fun _=>(L3.s_seq (L3.s_asg (L3.s_op L3.s_add (L3.s_call (L3.s_cons (L3.s_var 0) (L3.s_cons (L3.s_var 1) L3.s_nil))) (L3.s_call (L3.s_cons (L3.s_var 1) (L3.s_cons (L3.s_var 0) L3.s_nil)))) (L3.s_g 2))
 (L3.s_seq (L3.s_ifS (L3.s_test (L3.s_op L3.s_eq (L3.s_cb L3.s_len (L3.s_cons (L3.s_var 2) L3.s_nil)) L3.s_int))
 (L3.s_ret L3.s_non)
 L3.s_next)
 (L3.s_ret (L3.s_cb L3.s_listC (L3.s_cons (L3.s_minW (L3.s_cons (L3.s_var 2) L3.s_nil)) L3.s_nil))))),fun ds M Kk hM hD h=>?_⟩
  obtain ⟨k0,S,Tt,rfl,h⟩:=h
  obtain ⟨hk,⟨n1,n2,l1,l2⟩,ka,kb⟩:=h
  refine ⟨_,rfl,_,rfl,S,Tt,rfl,⟨n2,l1⟩,_,rfl,_,rfl,Tt,S,rfl,⟨n1,l2⟩,?_⟩
  have lu:∀ A B:List Pr,A.length<=100->(unsh A B).length<=100:=fun A B h=>by
   unfold unsh
   rw [List.length_map]
   exact Nat.le_trans (List.length_filter_le _ _) h
  have lu1:=lu S Tt l1
  have lu2:=lu Tt S l2
  refine add_ls (xs:=(unsh S Tt).map wD) (ys:=(unsh Tt S).map wD) rfl rfl (by rw [List.length_map,List.length_map]; exact small_line (by omega)) ?_
  rw [<- List.map_append]
  generalize unsh S Tt++unsh Tt S=us at ka kb
  refine ⟨_,rfl,_,rfl,.inl ⟨_,rfl,_,rfl,ite2 (fun h=>?_) (fun h=>?_)⟩⟩
  ·have h:=of_decide_eq_true h
   rw [List.length_map] at h
   exact .inl (ka (List.eq_nil_of_length_eq_zero (by omega)))
  ·have hn:us≠[]:=fun z=>h (by subst z; rfl)
   have hl:0 < us.length:=List.length_pos_iff.mpr hn
   refine ⟨_,rfl,k0,_,us,hk,rfl,rfl,hl,fun i hi e=>?_⟩
   refine ⟨_,_,rfl,rfl,?_⟩
   have ek:us[i]=keyMin us:=by
    unfold keyMin
    rw [<- e,List.getD_eq_getElem?_getD,List.getElem?_eq_getElem hi]
    rfl
   rw [ek]
   exact .inl (kb hn)
theorem ok__law_by_size (T:Txt mg) {f:Addr} {fd:FuncData} (F:Fun K "_law_by_size" "_law_by_size" s__law_by_size f fd):FnOk P w K mg base CX0 1 f fd ["_law_pair"] (spBySize K):=by
 refine F.ok sc__law_by_size (fun vs H Q E h=>?_) (fun cdv A outer s H vs Q E hr h=>?_)
 ·obtain ⟨p,t,z,w,rfl,_⟩:=h
  rfl
 ·obtain ⟨p,t,z,w,rfl,sq,st,k⟩:=h
  have SC:=sc__law_by_size
  refine ⟨_,(pss_one (ps_ret (pe_tup (pa_cons (pe_callB call_len (by rfl) T.b_len PySem.boot_len (pa_cons (pe_ix ix_tup (pv 0) pe_int (fun _ _=>rfl)) pa_nil)) (pa_cons (pe_ix ix_tup (pv 0) pe_int (fun _ _=>rfl)) pa_nil))))),?_⟩
  refine ⟨_,rfl,p,_,_,_,rfl,rfl,sq,rfl,?_⟩
  refine ⟨_,w.length,rfl,.inr ⟨_,st,by rw [List.length_map]⟩,?_⟩
  refine ⟨_,rfl,p,_,_,_,rfl,rfl,sq,rfl,?_⟩
  exact ⟨by show 2<=sizeLine; rw [sizeLine_eq]; omega,k⟩
open L3
theorem ok__law_read (T:Txt mg) {C:Addr} (C__law_from:Cal P w K mg base "_law_from" 1 ["_law_table_here", "_law_row", "_law_at"] (L3.spOf ⟨C,K⟩ dFrom)) {f:Addr} {fd:FuncData} (F:Fun K "_law_read" "_law_read" s__law_read f fd):FnOk P w K mg base CX0 2 f fd ["_law_table_here", "_law_row"] (L3.spOf ⟨C,K⟩ dRead27):=by
 refine L3.Fun.ok3 F sc__law_read (fun ds M K3 h=>?_) (fun cdv A outer s H E hr=>?_)
 ·obtain ⟨L,d,ns,rfl,_⟩:=h
  rfl
 ·have SC:=sc__law_read
  have hu:=hr.units
  have hu1:=hu_of hr
  have hr__law_from:Room 1 _:=hr.mono (by first | decide | omega)
  refine ⟨_,_,(pss_cons (ps_set (i:=2) SC.nd rfl (Or.inl rfl) (pe_lst pa_nil))
 (pss_cons (ps_set (i:=3) SC.nd rfl (Or.inl rfl) pe_int)
 (pss_cons (ps_while PassesOwn.never (pt_cmpR op_lt (pv 3) (pe_callB (bk_len (K:=K) rfl) (by rfl) T.b_len PySem.boot_len (pa_cons (pv 1) pa_nil)) (nomark _))
 (pss_cons (ps_set (i:=4) SC.nd rfl (Or.inl rfl) (pe_cal C__law_from hr__law_from rfl (pa_cons (pv 0) (pa_cons (pv 1) (pa_cons (pv 3) pa_nil)))))
 (pss_cons (ps_if (pt_cmp (pc_isN (pv 4)))
 (pss_one (ps_ret pe_non))
 pss_nil)
 (pss_cons (ps_expr (pe_bm PySem.F.plainAttrs_list PySem.F.slot_list_append PySem.F.type_list_append mt_append (pv 2) (pa_cons (pe_ix (L3.ux_ix (K':=K) rfl) (pv 4) pe_int (fun _ _=>rfl)) pa_nil)))
 (pss_one (ps_set (i:=3) SC.nd rfl (Or.inl rfl) (pe_ix (L3.ux_ix (K':=K) rfl) (pv 4) pe_int (fun _ _=>rfl))))))))
 (pss_one (ps_ret (pv 2)))))),fun _=>(L3.s_seq (L3.s_asg (L3.s_lstC L3.s_nil) (L3.s_g 2))
 (L3.s_seq (L3.s_asg L3.s_int (L3.s_g 3))
 (L3.s_seq (L3.s_while (L3.s_test (L3.s_op L3.s_lt (L3.s_var 3) (L3.s_cb L3.s_len (L3.s_cons (L3.s_var 1) L3.s_nil))))
 (L3.s_seq (L3.s_asg (L3.s_call (L3.s_cons (L3.s_var 0) (L3.s_cons (L3.s_var 1) (L3.s_cons (L3.s_var 3) L3.s_nil)))) (L3.s_g 4))
 (L3.s_seq (L3.s_ifS (L3.s_b (L3.s_isN (L3.s_var 4)))
 (L3.s_ret L3.s_non)
 L3.s_next)
 (L3.s_seq (L3.s_drop (L3.s_append (L3.s_var 2) (L3.s_cons (L3.s_op L3.s_ix (L3.s_var 4) L3.s_int) L3.s_nil)))
 (L3.s_asg (L3.s_op L3.s_ix (L3.s_var 4) L3.s_int) (L3.s_g 3))))))
 (L3.s_ret (L3.s_var 2))))),fun ds M Kk hM hD h=>?_⟩
  obtain ⟨L,d,ns,rfl,h⟩:=h
  obtain ⟨hd,⟨⟨fr,fi⟩,ln⟩,ka,kb⟩:=h
  have lm:(ns.map D.int).length=ns.length:=List.length_map _
  have ne:∀ p∈L,p.2≠[]:=fun p hp=>(fi.2 p hp).1
  refine ⟨Nat.zero_le _,?_⟩
  refine ⟨fun m ρ M'=>∃ (pl:Nat) (U:List Pr) (v4:Option D),ρ=[some (.lst (L.map pD)),some d,some (.cell M.length),some (.int pl),v4]/\M++[.lst ((U.map (·.1)).map .int)]=M'/\Rdw L (ns.take pl) U/\pl<=ns.length/\m=ns.length - pl/\U.length<=pl,⟨_,0,[],_,rfl,rfl,⟨(fun _ z=>nomatch z),rfl⟩,Nat.zero_le _,rfl,Nat.zero_le _⟩,?_⟩
  rintro m _ _ ⟨pl,U,v4,rfl,rfl,rd,hl,rfl,lU⟩
  refine ⟨_,rfl,_,rfl,?_⟩
  dsimp only [uNil]
  refine len_ls (ls_more hd) ?_
  refine ⟨_,_,rfl,rfl,_,rfl,?_⟩
  rw [lm]
  refine ite2 (fun hlt=>?_) (fun hlt=>?_)
  ·have hlt:pl < ns.length:=by have:=of_decide_eq_true hlt; omega
   refine ⟨_,rfl,_,rfl,_,rfl,L,d,ns,pl,rfl,ls_more hd,⟨fi.1,hl⟩,fun p hp pre=>?_,fun hno=>?_⟩
   ·have ne':=ne p hp
    have l0:=List.length_pos_iff.mpr ne'
    have lp:=(pre_lt pre ne').2
    refine ⟨_,rfl,_,rfl,iteF ?_⟩
    refine ⟨_,rfl,ls_some ls_last,_,rfl,_,_,.int p.1,rfl,rfl,rfl,M.length,_,_,rfl,rfl,at_last,?_,?_⟩
    ·rw [List.length_map,List.length_map]
     exact Nat.lt_of_le_of_lt (by omega:U.length<=1000) (by decide)
    rw [set_last]
    refine ⟨_,rfl,_,_,.int ((pl + p.2.length:Nat):Int),rfl,rfl,rfl,ns.length - (pl + p.2.length),by omega,.inl ⟨pl + p.2.length,U++[p],_,rfl,?_,⟨fun q hq=>?_,?_⟩,by omega,rfl,?_⟩⟩
    ·rw [List.map_append,List.map_append]; rfl
    ·rcases List.mem_append.mp hq with z | z
     ·exact rd.1 q z
     ·rw [List.mem_singleton.mp z]; exact hp
    ·rw [row_app,rd.2,List.take_add]
     congr 1
     show p.2++[]=_
     rw [List.append_nil]
     exact List.prefix_iff_eq_take.mp pre
    ·rw [List.length_append]
     show U.length + 1<=_
     omega
   ·refine ⟨_,rfl,_,rfl,iteT ?_⟩
    exact dk_drop pre1 hM below_non (kb (rdO_stop fr ne rd hlt hno))
  ·have hlt:¬ pl < ns.length:=fun z=>hlt (decide_eq_true (by omega))
   have rd':Rdw L ns U:=by rwa [List.take_of_length_le (by omega)] at rd
   exact ⟨_,rfl,.inl (ka _ (rdO_some fr ne rd'))⟩
open L3
theorem rows_len {bs:List Int} (l3:bs.length<=3):∀ m,(rowsOf bs m).length<=3 ^ m
 | 0=>Nat.le_refl _
 | m + 1=>by
  have go:∀ R:List (List Int),(R.flatMap fun r=>bs.map fun b=>r++[b]).length<=3 * R.length:=fun R=>by
   induction R with
   | nil=>exact Nat.le_refl _
   | cons r R ih =>
    rw [List.flatMap_cons,List.length_append,List.length_map,List.length_cons]
    omega
  have:=go (rowsOf bs m)
  have ih:=rows_len l3 m
  rw [rowsOf,Nat.pow_succ]
  omega
theorem ok__law_rows (T:Txt mg) {C:Addr}  {f:Addr} {fd:FuncData} (F:Fun K "_law_rows" "_law_rows" s__law_rows f fd):FnOk P w K mg base CX0 1 f fd ["_law_some", "_law_size"] (L3.spOf ⟨C,K⟩ dRows27):=by
 refine L3.Fun.ok3 F sc__law_rows (fun ds M K3 h=>?_) (fun cdv A outer s H E hr=>?_)
 ·obtain ⟨d,bs,n,rfl,_⟩:=h
  rfl
 ·have SC:=sc__law_rows
  have hu:=hr.units
  have hu1:=hu_of hr
  refine ⟨_,_,(pss_cons (ps_set (i:=2) SC.nd rfl (Or.inl rfl) (pe_lst (pa_cons (pe_lst pa_nil) pa_nil)))
 (pss_cons (ps_for PassesOwn.never rfl (pi_range1 rfl T.b_range (pa_cons (pv 1) pa_nil)) (pg_name (i:=3) SC.nd rfl (Or.inl rfl))
 (pss_cons (ps_set (i:=4) SC.nd rfl (Or.inl rfl) (pe_lst pa_nil))
 (pss_cons (ps_for PassesOwn.never rfl (pi_list (pv 2)) (pg_name (i:=5) SC.nd rfl (Or.inr rfl))
 (pss_one (ps_set (i:=4) SC.nd rfl (Or.inl rfl) (pe_op (L3.ux_add (K':=K) rfl) (pv 4) (pe_comp (T:=["_law_one"]) (cs:=[5]) rfl (CScope.ok (by kernel_rfl)) (pi_list (pv 0)) (fun _ _ _ _=>(pg_name (i:=0) (nd_of (by kernel_rfl)) rfl (Or.inl rfl) (Or.inr rfl))) (fun _ _ _ _=>pts_nil) (fun _ _ _ _=>(pe_op (L3.ux_add (K':=K) rfl) (pv 1) (pe_lst (pa_cons (pv 0) pa_nil)))) (gk_name (by decide)))))))
 (pss_one (ps_set (i:=2) SC.nd rfl (Or.inl rfl) (pv 4))))))
 (pss_one (ps_ret (pv 2))))),fun _=>(L3.s_seq (L3.s_asg (L3.s_lst (L3.s_cons (L3.s_lst L3.s_nil) L3.s_nil)) (L3.s_g 2))
 (L3.s_seq (L3.s_for (L3.s_ir1 (L3.s_cons (L3.s_var 1) L3.s_nil)) (L3.s_g 3)
 (L3.s_seq (L3.s_asg (L3.s_lst L3.s_nil) (L3.s_g 4))
 (L3.s_seq (L3.s_for (L3.s_il (L3.s_var 2)) (L3.s_g 5)
 (L3.s_asg (L3.s_op L3.s_add (L3.s_var 4) (L3.s_comp (L3.s_il (L3.s_var 0)) (L3.s_g 0) L3.s_true (L3.s_op L3.s_add (L3.s_var 1) (L3.s_lst (L3.s_cons (L3.s_var 0) L3.s_nil))))) (L3.s_g 4)))
 (L3.s_asg (L3.s_var 4) (L3.s_g 2)))))
 (L3.s_ret (L3.s_var 2)))),fun ds M Kk hM hD h=>?_⟩
  obtain ⟨d,bs,n,rfl,h⟩:=h
  obtain ⟨hd,⟨l3,n4⟩,k⟩:=h
  have lb:(bs.map D.int).length=bs.length:=List.length_map _
  have l81:∀ m,m<=4->(rowsOf bs m).length<=81:=fun m hm=>Nat.le_trans (rows_len l3 m) (Nat.pow_le_pow_right (by decide) hm)
  refine ⟨Nat.zero_le _,(by show 1<=sizeLine; exact small_line (by omega)),?_⟩
  refine ⟨_,rfl,_,rfl,⟨by omega,by omega⟩,fun i ρ M'=>∃ (v3 v4 v5:Option D),ρ=[some d,some (.int n),some (.lst ((rowsOf bs i).map rwD)),v3,v4,v5]/\M=M',fun _ _ _ _ _=>trivial,⟨_,_,_,rfl,rfl⟩,?_,?_⟩
  ·rintro i x ρ _ hi hx ⟨v3,v4,v5,rfl,rfl⟩
   have hi:i < n:=hi
   have lr:=l81 i (by omega)
   refine ⟨Nat.zero_le _,?_⟩
   refine ⟨_,rfl,_,rfl,fun j ρ M'=>∃ v5:Option D,ρ=[some d,some (.int n),some (.lst ((rowsOf bs i).map rwD)),some x,some (.lst ((((rowsOf bs i).take j).flatMap fun r=>bs.map fun b=>r++[b]).map rwD)),v5]/\M=M',fun _ _ _ _ _=>rfl,⟨_,rfl,rfl⟩,?_,?_⟩
   ·rintro j y ρ _ hj hy ⟨v5,rfl,rfl⟩
    obtain ⟨hj',rfl⟩:=item_map hy
    have lrow:((rowsOf bs i)[j]).length=i:=((mem_rows i _).mp (List.getElem_mem hj')).1
    refine ⟨_,rfl,?_⟩
    refine ⟨_,rfl,_,(show lstOf M d=some _ from (ls_ty hd).2.1),?_,fun m ys M'=>M=M'/\ys=((bs.take m).map fun b=>(rowsOf bs i)[j]++[b]).map rwD,fun _ _ _ _ h=>(by rw [<- h.1]; exact (ls_ty hd).2.1),⟨rfl,rfl⟩,?_,?_⟩
    ·show (bs.map D.int).length<=sizeLine
     rw [lb]; exact small_line (by omega)
    ·rintro m z ys _ hm hz ⟨rfl,rfl⟩
     obtain ⟨hm',rfl⟩:=item_int hz
     refine ⟨_,rfl,_,rfl,(by show 1<=sizeLine; exact small_line (by omega)),?_⟩
     refine add_ls (xs:=(rowsOf bs i)[j].map .int) (ys:=[.int bs[m]]) rfl rfl (by rw [List.length_map,lrow]; exact small_line (by show i + 1<=100000; omega)) ⟨rfl,?_⟩
     rw [List.take_succ_eq_append_getElem hm',List.map_append,List.map_append]
     congr 1
     show [D.lst _]=[rwD ((rowsOf bs i)[j]++[bs[m]])]
     unfold rwD
     rw [List.map_append]
     rfl
    ·rintro ys _ ⟨rfl,rfl⟩
     have eb:bs.take (bs.map D.int).length=bs:=by rw [lb,List.take_length]
     rw [show List.take _ bs=bs from eb]
     have lf:∀ R:List (List Int),(R.flatMap fun r=>bs.map fun b=>r++[b]).length<=3 * R.length:=fun R=>by
      induction R with
      | nil=>exact Nat.le_refl _
      | cons r R ih =>
       rw [List.flatMap_cons,List.length_append,List.length_map,List.length_cons]
       omega
     have l1:=lf ((rowsOf bs i).take j)
     have l2:((rowsOf bs i).take j).length<=81:=by rw [List.length_take]; omega
     refine add_ls (xs:=(((rowsOf bs i).take j).flatMap fun r=>bs.map fun b=>r++[b]).map rwD) (ys:=(bs.map fun b=>(rowsOf bs i)[j]++[b]).map rwD) rfl rfl (by rw [List.length_map,List.length_map,List.length_map]; exact small_line (by omega)) (.inl ⟨some (rwD (rowsOf bs i)[j]),?_,rfl⟩)
     rw [List.take_succ_eq_append_getElem hj',List.flatMap_append,List.map_append]
     simp only [List.flatMap_cons,List.flatMap_nil,List.append_nil]
     rfl
   ·rintro ρ _ ⟨v5,rfl,rfl⟩
    refine ⟨_,rfl,.inl ⟨some x,some (.lst ((rowsOf bs (i + 1)).map rwD)),v5,?_,rfl⟩⟩
    have e:(rowsOf bs i).take ((rowsOf bs i).map rwD).length=rowsOf bs i:=by rw [List.length_map,List.take_length]
    rw [show List.take _ (rowsOf bs i)=rowsOf bs i from e]
    rfl
  ·rintro ρ _ ⟨v3,v4,v5,rfl,rfl⟩
   exact ⟨_,rfl,.inl k⟩
open L3
theorem ok__law_due (T:Txt mg) {C:Addr} (C__law_read:Cal P w K mg base "_law_read" 2 ["_law_table_here", "_law_row"] (L3.spOf ⟨C,K⟩ dRead27)) (C__law_rows:Cal P w K mg base "_law_rows" 1 ["_law_some", "_law_size"] (L3.spOf ⟨C,K⟩ dRows27)) {f:Addr} {fd:FuncData} (F:Fun K "_law_due" "_law_due" s__law_due f fd):FnOk P w K mg base CX0 4 f fd ["_law_first", "_law_second", "_law_some"] (L3.spOf ⟨C,K⟩ dDue27):=by
 refine L3.Fun.ok3 F sc__law_due (fun ds M K3 h=>?_) (fun cdv A outer s H E hr=>?_)
 ·obtain ⟨S,Tt,bs,rfl,_⟩:=h
  rfl
 ·have SC:=sc__law_due
  have hu:=hr.units
  have hu1:=hu_of hr
  have hr__law_read:Room 2 _:=hr.mono (by first | decide | omega)
  have hr__law_rows:Room 1 _:=hr.mono (by first | decide | omega)
  refine ⟨_,_,(pss_cons (ps_for PassesOwn.never rfl (pi_range2 rfl T.b_range (pa_cons pe_int (pa_cons pe_int pa_nil))) (pg_name (i:=3) SC.nd rfl (Or.inl rfl))
 (pss_one (ps_for PassesOwn.never rfl (pi_list (pe_cal C__law_rows hr__law_rows rfl (pa_cons (pe_callB (call_sortI (K:=K) rfl) (by rfl) T.b_sorted PyProof.Rows.boot_sorted (pa_cons (pv 2) pa_nil)) (pa_cons (pv 3) pa_nil)))) (pg_name (i:=4) SC.nd rfl (Or.inl rfl))
 (pss_one (ps_if (pt_cmpR (L3.ux_ne (K':=K) rfl hu) (pe_cal C__law_read hr__law_read rfl (pa_cons (pv 0) (pa_cons (pv 4) pa_nil))) (pe_cal C__law_read hr__law_read rfl (pa_cons (pv 1) (pa_cons (pv 4) pa_nil))) (nomark _))
 (pss_one (ps_ret (pv 4)))
 pss_nil)))))
 (pss_one (ps_ret pe_non))),fun _=>(L3.s_seq (L3.s_for (L3.s_ir2 (L3.s_cons L3.s_int (L3.s_cons L3.s_int L3.s_nil))) (L3.s_g 3)
 (L3.s_for (L3.s_il (L3.s_call (L3.s_cons (L3.s_cb L3.s_sortI (L3.s_cons (L3.s_var 2) L3.s_nil)) (L3.s_cons (L3.s_var 3) L3.s_nil)))) (L3.s_g 4)
 (L3.s_ifS (L3.s_test (L3.s_op L3.s_ne (L3.s_frzO (L3.s_call (L3.s_cons (L3.s_var 0) (L3.s_cons (L3.s_var 4) L3.s_nil)))) (L3.s_frzO (L3.s_call (L3.s_cons (L3.s_var 1) (L3.s_cons (L3.s_var 4) L3.s_nil))))))
 (L3.s_ret (L3.s_var 4))
 L3.s_next)))
 (L3.s_ret L3.s_non)),fun ds M Kk hM hD h=>?_⟩
  obtain ⟨S,Tt,bs,rfl,h⟩:=h
  obtain ⟨⟨⟨f1,i1⟩,⟨f2,i2⟩,b1,b2,nd,l3⟩,k⟩:=h
  have n1:∀ p∈S,p.2≠[]:=fun p hp=>(i1.2 p hp).1
  have n2:∀ p∈Tt,p.2≠[]:=fun p hp=>(i2.2 p hp).1
  refine ⟨_,_,rfl,⟨by decide,by decide,by decide,by decide⟩,fun i ρ M'=>∃ (v3 v4:Option D),ρ=[some (.lst (S.map pD)),some (.lst (Tt.map pD)),some (.lst (bs.map .int)),v3,v4]/\M=M'/\∀ r:List Int,r≠[]->r.length < i + 1->(∀ b∈r,b∈bs)->rdO S r=rdO Tt r,fun _ _ _ _ _=>trivial,⟨_,_,rfl,rfl,?_⟩,?_,?_⟩
  ·intro r hr hl
   exact absurd (List.length_pos_iff.mpr hr) (by omega)
  ·rintro i x ρ _ hi hx ⟨v3,v4,rfl,rfl,hs⟩
   have hi:i < 4:=hi
   have hx:x=.int (1 + i):=hx
   rw [show (1:Int) + i=((i + 1:Nat):Int) by omega] at hx
   subst hx
   refine ⟨_,rfl,_,bs,rfl,rfl,by omega,fun cs pm sr=>?_⟩
   have lc:cs.length<=3:=by rw [pm.length_eq]; exact l3
   have sc:cs.Pairwise (· < ·):=by
    have nc:cs.Nodup:=pm.nodup_iff.mpr nd
    have:=List.Pairwise.and sr nc
    exact this.imp fun ⟨a,b⟩=>by omega
   have mc:∀ b,b∈cs↔b∈bs:=fun b=>pm.mem_iff
   have b1':∀ p∈S,∀ b∈p.2,b∈cs:=fun p hp b hb=>(mc b).mpr (b1 p hp b hb)
   have b2':∀ p∈Tt,∀ b∈p.2,b∈cs:=fun p hp b hb=>(mc b).mpr (b2 p hp b hb)
   have hs':∀ r:List Int,r≠[]->r.length < i + 1->(∀ b∈r,b∈cs)->rdO S r=rdO Tt r:=fun r h1 h2 h3=>hs r h1 h2 fun b hb=>(mc b).mp (h3 b hb)
   refine ⟨_,rfl,_,cs,i + 1,rfl,rfl,⟨lc,by omega⟩,?_⟩
   refine ⟨_,rfl,fun j ρ M'=>∃ v4:Option D,ρ=[some (.lst (S.map pD)),some (.lst (Tt.map pD)),some (.lst (bs.map .int)),some (.int ((i + 1:Nat):Int)),v4]/\M=M'/\∀ m (hm:m < (rowsOf cs (i + 1)).length),m < j->rdO S (rowsOf cs (i + 1))[m]=rdO Tt (rowsOf cs (i + 1))[m],fun _ _ _ _ _=>rfl,⟨_,rfl,rfl,fun m hm z=>absurd z (Nat.not_lt_zero _)⟩,?_,?_⟩
   ·rintro j y ρ _ hj hy ⟨v4,rfl,rfl,hp⟩
    obtain ⟨hj',rfl⟩:=item_map hy
    obtain ⟨rl,rb⟩:=(mem_rows (i + 1) _).mp (List.getElem_mem hj')
    have rd:∀ (L:List Pr) (K:K3) (row:List Int),K (oT (rdO L row)) M->(∀ t,rdO L row=some t->frzK M.length K (.cell M.length) (M++[.lst (t.map .int)])\/K (.cell M.length) (M++[.lst (t.map .int)]))/\(rdO L row=none->frzK M.length K .non M\/K .non M):=fun L K row h =>
     ⟨fun t e=>.inl (frz_of (d:=rwD t) rfl hM bm_ints (by rw [e] at h; exact h)),fun e=>.inr (by rw [e] at h; exact h)⟩
    refine ⟨_,rfl,_,rfl,S,rwD (rowsOf cs (i + 1))[j],(rowsOf cs (i + 1))[j],rfl,rfl,⟨⟨f1,i1⟩,by omega⟩,rd S _ _ ?_⟩
    refine ⟨_,rfl,_,rfl,Tt,rwD (rowsOf cs (i + 1))[j],(rowsOf cs (i + 1))[j],rfl,rfl,⟨⟨f2,i2⟩,by omega⟩,rd Tt _ _ ?_⟩
    refine eqv_oT ⟨_,rfl,?_⟩
    by_cases hd:rdO S (rowsOf cs (i + 1))[j]=rdO Tt (rowsOf cs (i + 1))[j]
    ·rw [decide_eq_true hd]
     refine iteF (.inl ⟨_,rfl,rfl,fun m hm z=>?_⟩)
     by_cases e:m=j
     ·subst e; exact hd
     ·exact hp m hm (by omega)
    ·rw [decide_eq_false hd]
     refine iteT ⟨_,rfl,.inl ?_⟩
     obtain ⟨ne,e⟩:=due_first f1 f2 n1 n2 sc b1' b2' hj' hs' hp hd
     unfold dueD at k
     rw [if_neg ne] at k
     rw [e]
     exact k
   ·rintro ρ _ ⟨v4,rfl,rfl,hp⟩
    refine .inl ⟨_,_,rfl,rfl,fun r h1 h2 h3=>?_⟩
    by_cases hl:r.length < i + 1
    ·exact hs r h1 hl h3
    ·obtain ⟨m,hm,e⟩:=List.getElem_of_mem ((mem_rows (bs:=cs) (i + 1) r).mpr ⟨by omega,fun b hb=>(mc b).mpr (h3 b hb)⟩)
     rw [<- e]
     exact hp m hm (by show m < ((rowsOf cs (i + 1)).map rwD).length; rw [List.length_map]; exact hm)
  ·rintro ρ _ ⟨v3,v4,rfl,rfl,hs⟩
   have hs:∀ r:List Int,r≠[]->r.length < 4 + 1->(∀ b∈r,b∈bs)->rdO S r=rdO Tt r:=hs
   have:unsh S Tt++unsh Tt S=[]:=by
    cases e:unsh S Tt++unsh Tt S with
    | nil=>rfl
    | cons w r =>
     have hw:w∈unsh S Tt++unsh Tt S:=by rw [e]; exact List.mem_cons_self
     refine absurd ?_ (due_at f1 f2 n1 n2 hw)
     rcases List.mem_append.mp hw with z | z
     ·obtain ⟨p,hp,_,rfl⟩:=mem_unsh.mp z
      exact hs p.2 (n1 p hp) (by have:=(i1.2 p hp).2; omega) (b1 p hp)
     ·obtain ⟨p,hp,_,rfl⟩:=mem_unsh.mp z
      exact hs p.2 (n2 p hp) (by have:=(i2.2 p hp).2; omega) (b2 p hp)
   rw [this] at k
   exact .inl k
open L3
theorem ok__law_table (T:Txt mg) {C:Addr} (C__law_draw:Cal P w K mg base "_law_draw" 1 ["_law_hand", "_law_many"] (L3.spOf ⟨C,K⟩ dDraw)) {f:Addr} {fd:FuncData} (F:Fun K "_law_table" "_law_table" s__law_table f fd):FnOk P w K mg base CX0 2 f fd ["_law_hand", "_law_words_here", "_law_signs_here"] (L3.spOf ⟨C,K⟩ dTableS):=by
 refine L3.Fun.ok3 F sc__law_table (fun ds M K3 h=>?_) (fun cdv A outer s H E hr=>?_)
 ·obtain ⟨k0,ws,ss,rfl,_⟩:=h
  rfl
 ·have SC:=sc__law_table
  have hu:=hr.units
  have hu1:=hu_of hr
  have hr__law_draw:Room 1 _:=hr.mono (by first | decide | omega)
  refine ⟨_,_,(pss_cons (ps_set (i:=3) SC.nd rfl (Or.inl rfl) (pe_op op_mod (pe_cal C__law_draw hr__law_draw rfl (pa_cons (pv 0) (pa_cons pe_int pa_nil))) (pe_callB (call_max2 rfl) (by rfl) T.b_max PyProof.Rows.boot_max (pa_cons pe_int (pa_cons (pe_callB (bk_len (K:=K) rfl) (by rfl) T.b_len PySem.boot_len (pa_cons (pv 2) pa_nil)) pa_nil)))))
 (pss_cons (ps_set (i:=4) SC.nd rfl (Or.inr rfl) (pe_op (L3.ux_add (K':=K) rfl) (pe_slice (L3.ux_sl (K':=K) rfl) (pv 2) (po_some (pv 3)) po_none) (pe_slice (L3.ux_sl (K':=K) rfl) (pv 2) po_none (po_some (pv 3)))))
 (pss_cons (ps_comp (i:=5) SC.nd rfl rfl (T:=["_law_k"]) (cs:=[4,1]) rfl (CScope.ok (by kernel_rfl)) (pi_range1 rfl T.b_range (pa_cons (pe_callB (bk_len (K:=K) rfl) (by rfl) T.b_len PySem.boot_len (pa_cons (pv 1) pa_nil)) pa_nil)) (fun _ _ _ _=>(pg_name (i:=0) (nd_of (by kernel_rfl)) rfl (Or.inl rfl) (Or.inr rfl))) (fun _ _ _ _=>pts_nil) (fun _ _ _ _=>(pe_tup (pa_cons (pe_ix (L3.ux_ix (K':=K) rfl) (pv 1) (pv 0) (fun _ _=>rfl)) (pa_cons (pe_ix (L3.ux_ix (K':=K) rfl) (pv 2) (pv 0) (fun _ _=>rfl)) pa_nil)))) (gk_name (by decide)))
 (pss_cons (ps_if (pt_cmpR (L3.ux_eq (K':=K) rfl hu) (pe_cal C__law_draw hr__law_draw rfl (pa_cons (pv 0) (pa_cons pe_int pa_nil))) pe_int (nomark _))
 (pss_one (ps_ret (pe_rev (pv 5) (po_some (pe_un un_neg pe_int)) (fun _ _=>⟨_,rfl⟩))))
 pss_nil)
 (pss_one (ps_ret (pv 5))))))),fun _=>(L3.s_seq (L3.s_asg (L3.s_op L3.s_mod (L3.s_call (L3.s_cons (L3.s_var 0) (L3.s_cons L3.s_int L3.s_nil))) (L3.s_cb L3.s_max2 (L3.s_cons L3.s_int (L3.s_cons (L3.s_cb L3.s_len (L3.s_cons (L3.s_var 2) L3.s_nil)) L3.s_nil)))) (L3.s_g 3))
 (L3.s_seq (L3.s_asg (L3.s_op L3.s_add (L3.s_sl L3.s_sl3 (L3.s_var 2) (L3.s_part (L3.s_var 3)) L3.s_noPart) (L3.s_sl L3.s_sl3 (L3.s_var 2) L3.s_noPart (L3.s_part (L3.s_var 3)))) (L3.s_g 4))
 (L3.s_seq (L3.s_asg (L3.s_comp (L3.s_ir1 (L3.s_cons (L3.s_cb L3.s_len (L3.s_cons (L3.s_var 1) L3.s_nil)) L3.s_nil)) (L3.s_g 0) L3.s_true (L3.s_tup (L3.s_cons (L3.s_op L3.s_ix (L3.s_var 1) (L3.s_var 0)) (L3.s_cons (L3.s_op L3.s_ix (L3.s_var 2) (L3.s_var 0)) L3.s_nil)))) (L3.s_g 5))
 (L3.s_seq (L3.s_ifS (L3.s_test (L3.s_op L3.s_eq (L3.s_call (L3.s_cons (L3.s_var 0) (L3.s_cons L3.s_int L3.s_nil))) L3.s_int))
 (L3.s_ret (L3.s_rev (L3.s_var 5) (L3.s_part (L3.s_un L3.s_neg L3.s_int))))
 L3.s_next)
 (L3.s_ret (L3.s_var 5)))))),fun ds M Kk hM hD h=>?_⟩
  obtain ⟨k0,ws,ss,rfl,h⟩:=h
  obtain ⟨hh,⟨ok,lw,nd,l1,l2⟩,k⟩:=h
  have lm:(ws.map wD).length=ws.length:=List.length_map _
  have lss:(ss.map D.int).length=ss.length:=List.length_map _
  refine ⟨_,rfl,k0,60,rfl,hh,⟨by decide,by decide⟩,fun r r0 r1=>?_⟩
  refine ⟨_,rfl,?_⟩
  dsimp only [uNil]
  refine len_ls (xs:=ss.map .int) rfl ?_
  refine ⟨_,_,rfl,_,_,rfl,rfl,?_,?_⟩
  ·rw [lss]
   split <;> omega
  rw [lss]
  obtain ⟨a,ea⟩:=Int.eq_ofNat_of_zero_le (Int.emod_nonneg r (b:=if ((ss.length:Nat):Int) > 1 then ((ss.length:Nat):Int) else 1) (by split <;> omega))
  dsimp only
  rw [ea]
  refine ⟨_,rfl,_,rfl,_,rfl,?_⟩
  refine ⟨_,rfl,_,rfl,_,rfl,?_⟩
  refine ⟨_,rfl,?_⟩
  refine sl_ls (d:=.lst (ss.map D.int)) (xs:=ss.map .int) rfl ?_
  rw [cut_fromG,cut_toG,<- List.map_drop,<- List.map_take]
  refine add_ls (xs:=(ss.drop a).map .int) (ys:=(ss.take a).map .int) rfl rfl (by rw [List.length_map,List.length_map,List.length_drop,List.length_take]; exact small_line (by omega)) ?_
  rw [<- List.map_append]
  have pm:(ss.drop a++ss.take a).Perm ss:=by
   have:=List.perm_append_comm (l₁:=ss.drop a) (l₂:=ss.take a)
   rwa [List.take_append_drop] at this
  generalize ss.drop a++ss.take a=tt at pm
  have nt:tt.Nodup:=pm.nodup_iff.mpr nd
  have lt:tt.length=ss.length:=pm.length_eq
  have lz:(tt.zip ws).length=ws.length:=by rw [List.length_zip]; omega
  have az:∀ j (h1:j < tt.length) (h2:j < ws.length),(tt.zip ws)[j]?=some (tt[j],ws[j]):=fun j h1 h2=>by rw [List.getElem?_eq_getElem (by omega),List.getElem_zip]
  have fr:Free (tt.zip ws):=ok.free nt
  have sn:(tt.zip ws).map (·.2)=ws:=List.map_snd_zip (l₁:=tt) (l₂:=ws) (by omega)
  have fi:Fits (tt.zip ws):=⟨by omega,fun p hp=>ok.2 _ (by rw [<- sn]; exact List.mem_map.mpr ⟨p,hp,rfl⟩)⟩
  have hs:∀ p∈tt.zip ws,p.1∈ss:=fun p hp=>pm.mem_iff.mp (List.of_mem_zip hp).1
  generalize tt.zip ws=L at lz az fr sn fi hs
  refine ⟨_,rfl,?_⟩
  dsimp only [uNil]
  refine len_ls (xs:=ws.map wD) rfl ?_
  refine ⟨_,rfl,⟨by omega,by omega⟩,?_,fun i ys M'=>M=M'/\ys=(L.take i).map pD,fun _ _ _ _ _=>trivial,⟨rfl,rfl⟩,?_,?_⟩
  ·exact small_line (by show ((ws.map wD).length:Int).toNat<=_; omega)
  ·rintro i x ys _ hi rfl ⟨rfl,rfl⟩
   have hi:i < ws.length:=by
    have:i < ((ws.map wD).length:Int).toNat:=hi
    omega
   refine ⟨_,rfl,_,rfl,_,_,_,rfl,rfl,atI_map (as:=tt) (j:=i) (by omega) (by omega),_,rfl,_,rfl,_,_,_,rfl,rfl,atI_map (f:=wD) (as:=ws) (j:=i) (by omega) hi,(show 2<=sizeLine by decide),rfl,?_⟩
   have ea:=az i (by omega) hi
   rw [List.getElem?_eq_getElem (by omega)] at ea
   rw [List.take_succ_eq_append_getElem (by omega),List.map_append,Option.some.inj ea]
   rfl
  ·rintro ys _ ⟨rfl,rfl⟩
   have eL:L.take (rngIt 0 ((ws.map wD).length:Int).toNat).n=L:=by
    show L.take ((ws.map wD).length:Int).toNat=L
    rw [List.length_map,Int.toNat_natCast,<- lz,List.take_length]
   rw [eL]
   refine ⟨_,rfl,k0,2,rfl,hh,⟨by decide,by decide⟩,fun z _ _=>.inl ⟨_,rfl,_,rfl,ite2 (fun _=>?_) (fun _=>?_)⟩⟩
   ·refine ⟨_,rfl,_,rfl,_,rfl,rfl,_,rfl,?_⟩
    rw [<- List.map_reverse]
    exact .inl (k L.reverse fr.rev ⟨by rw [List.length_reverse]; exact fi.1,fun p hp=>fi.2 p (List.mem_reverse.mp hp)⟩ (by rw [List.map_reverse,sn]; exact List.reverse_perm _) fun p hp=>hs p (List.mem_reverse.mp hp))
   ·exact ⟨_,rfl,.inl (k L fr fi (by rw [sn]) hs)⟩
open L3
theorem ok__law_same (T:Txt mg) {C:Addr}  {f:Addr} {fd:FuncData} (F:Fun K "_law_same" "_law_same" s__law_same f fd):FnOk P w K mg base CX0 1 f fd ["_law_found", "_law_due_here"] (L3.spOf ⟨C,K⟩ dSame27):=by
 refine L3.Fun.ok3 F sc__law_same (fun ds M K3 h=>?_) (fun cdv A outer s H E hr=>?_)
 ·obtain ⟨d,o,rfl,_⟩:=h
  rfl
 ·have SC:=sc__law_same
  have hu:=hr.units
  have hu1:=hu_of hr
  refine ⟨_,_,(pss_cons (ps_if (pt_cmp (pc_isN (pv 1)))
 (pss_one (ps_ret (pe_cmp (pc_isN (pv 0)))))
 pss_nil)
 (pss_cons (ps_if (PW.pt (pw_or (pt_not (pt_val (pe_callB (bk_isi (K:=K) rfl) (by rfl) T.b_isinstance PyProof.Rows.boot_isinstance (pa_cons (pv 0) (pa_cons (pe_bltn (v:=.ty "list") rfl T.b_list PyProof.Rows.boot_list rfl) pa_nil))))) (pw_or1 (pt_cmpR (L3.ux_ne (K':=K) rfl hu) (pe_callB (bk_len (K:=K) rfl) (by rfl) T.b_len PySem.boot_len (pa_cons (pv 0) pa_nil)) (pe_callB (bk_len (K:=K) rfl) (by rfl) T.b_len PySem.boot_len (pa_cons (pv 1) pa_nil)) (nomark _)))))
 (pss_one (ps_ret pe_bl))
 pss_nil)
 (pss_one (ps_ret (pe_and (pe_callB (L3.bk_all (K:=K) rfl rfl) (by rfl) T.b_all PyProof.Rows.boot_all (pa_cons (pe_comp (T:=["_law_one"]) (cs:=[]) rfl (CScope.ok (by kernel_rfl)) (pi_list (pv 0)) (fun _ _ _ _=>(pg_name (i:=0) (nd_of (by kernel_rfl)) rfl (Or.inl rfl) (Or.inr rfl))) (fun _ _ _ _=>pts_nil) (fun _ _ _ _=>(pe_and (pe_callB (bk_isi (K:=K) rfl) (by rfl) T.b_isinstance PyProof.Rows.boot_isinstance (pa_cons (pv 0) (pa_cons (pe_bltn (v:=.ty "int") rfl T.b_int PyProof.Rows.boot_int rfl) pa_nil))) (pe_one (pe_not (pe_callB (bk_isi (K:=K) rfl) (by rfl) T.b_isinstance PyProof.Rows.boot_isinstance (pa_cons (pv 0) (pa_cons (pe_bltn (v:=.ty "bool") rfl T.b_bool PyProof.Rows.boot_bool rfl) pa_nil))))))) (gk_name (by decide))) pa_nil)) (pe_one (pe_cmpR (L3.ux_eq (K':=K) rfl hu) (pv 0) (pv 1) (nomark _)))))))),fun _=>(L3.s_seq (L3.s_ifS (L3.s_b (L3.s_isN (L3.s_var 1)))
 (L3.s_ret (L3.s_isN (L3.s_var 0)))
 L3.s_next)
 (L3.s_seq (L3.s_ifS (L3.s_or (L3.s_not (L3.s_b (L3.s_cb (L3.s_isi (T:=.list)) (L3.s_cons (L3.s_var 0) (L3.s_cons L3.s_ty L3.s_nil))))) (L3.s_test (L3.s_op L3.s_ne (L3.s_cb L3.s_len (L3.s_cons (L3.s_var 0) L3.s_nil)) (L3.s_cb L3.s_len (L3.s_cons (L3.s_var 1) L3.s_nil)))))
 (L3.s_ret L3.s_bl)
 L3.s_next)
 (L3.s_ret (L3.s_andV (L3.s_cb L3.s_all (L3.s_cons (L3.s_comp (L3.s_il (L3.s_var 0)) (L3.s_g 0) L3.s_true (L3.s_andV (L3.s_cb (L3.s_isi (T:=.int)) (L3.s_cons (L3.s_var 0) (L3.s_cons L3.s_ty L3.s_nil))) (L3.s_notV (L3.s_cb (L3.s_isi (T:=.bool)) (L3.s_cons (L3.s_var 0) (L3.s_cons L3.s_ty L3.s_nil)))))) L3.s_nil)) (L3.s_op L3.s_eq (L3.s_var 0) (L3.s_var 1)))))),fun ds M Kk hM hD h=>?_⟩
  obtain ⟨d,o,rfl,h⟩:=h
  obtain ⟨hd,k⟩:=h
  cases o with
  | none =>
   subst hd
   exact ⟨_,rfl,_,rfl,iteT ⟨_,rfl,.inl k⟩⟩
  | some t =>
   obtain ⟨hd,lt⟩:=hd
   have lm:(t.map D.int).length=t.length:=List.length_map _
   obtain ⟨t1,l1,s1⟩:=ls_ty hd
   refine ⟨_,rfl,_,rfl,iteF ?_⟩
   refine ⟨_,rfl,_,_,rfl,t1,_,rfl,iteF ?_⟩
   refine ⟨_,rfl,?_⟩
   dsimp only [uNil]
   refine len_ls hd ?_
   refine ⟨_,rfl,?_⟩
   dsimp only [uNil]
   refine len_ls (xs:=t.map .int) rfl ?_
   refine .inl ⟨_,rfl,_,rfl,?_⟩
   rw [decide_eq_true rfl]
   refine iteF ?_
   refine ⟨_,rfl,_,l1,?_,fun j ys M'=>M=M'/\ys=(List.replicate j true).map .bl,fun _ _ _ _ h=>(by rw [<- h.1]; exact l1),⟨rfl,rfl⟩,?_,?_⟩
   ·show (t.map D.int).length<=sizeLine
    rw [lm]; exact small_line (by omega)
   ·rintro j x ys _ hj hx ⟨rfl,rfl⟩
    obtain ⟨hj',rfl⟩:=item_int hx
    refine ⟨_,rfl,_,_,rfl,rfl,_,rfl,iteT ?_⟩
    refine ⟨_,rfl,_,_,rfl,rfl,_,rfl,rfl,?_⟩
    rw [List.replicate_succ',List.map_append]
    rfl
   ·rintro ys _ ⟨rfl,rfl⟩
    refine ⟨_,List.replicate _ true,rfl,rfl,_,rfl,?_⟩
    rw [show (List.replicate _ true).all id=true by simp]
    refine iteT ⟨_,rfl,_,rfl,eqv_seq encInt (a:=t) (b:=t) l1 rfl ?_⟩
    rw [decide_eq_true rfl]
    exact .inl k
open L3
theorem ok__law_near (T:Txt mg) {C:Addr} (C__law_by_size:Cal P w K mg base "_law_by_size" 1 ["_law_pair"] (spBySize K)) (C__law_draw:Cal P w K mg base "_law_draw" 1 ["_law_hand", "_law_many"] (L3.spOf ⟨C,K⟩ dDraw)) {f:Addr} {fd:FuncData} (F:Fun K "_law_near" "_law_near" s__law_near f fd):FnOk P w K mg base CX0 4 f fd ["_law_hand", "_law_table_here", "_law_some", "_law_signs_here"] (L3.spOf ⟨C,K⟩ dNear27):=by
 refine L3.Fun.ok3 F sc__law_near (fun ds M K3 h=>?_) (fun cdv A outer s H E hr=>?_)
 ·obtain ⟨k0,L,bs,ss,rfl,_⟩:=h
  rfl
 ·have SC:=sc__law_near
  have hu:=hr.units
  have hu1:=hu_of hr
  have hr__law_draw:Room 1 _:=hr.mono (by first | decide | omega)
  have hr_sorted:Room 3 _:=hr.mono (by first | decide | omega)
  refine ⟨_,_,(pss_cons (ps_set (i:=4) SC.nd rfl (Or.inl rfl) (pe_cal C__law_draw hr__law_draw rfl (pa_cons (pv 0) (pa_cons pe_int pa_nil))))
 (pss_cons (ps_if (PW.pt (pw_or (pt_cmpR (L3.ux_eq (K':=K) rfl hu) (pv 1) (pe_lst pa_nil) (nomark _)) (pw_or1 (pt_cmpR (L3.ux_eq (K':=K) rfl hu) (pv 4) pe_int (nomark _)))))
 (pss_one (ps_ret (pe_rev (pv 1) (po_some (pe_un un_neg pe_int)) (fun _ _=>⟨_,rfl⟩))))
 pss_nil)
 (pss_cons (ps_set (i:=5) SC.nd rfl (Or.inl rfl) (pe_sortN C__law_by_size hr_sorted rfl rfl T.b_sorted (pa_cons (pv 1) pa_nil)))
 (pss_cons (ps_if (PW.pt (pw_and (pt_cmpR (L3.ux_eq (K':=K) rfl hu) (pv 4) pe_int (nomark _)) (pw_and1 (pt_cmpR op_gt (pe_callB (bk_len (K:=K) rfl) (by rfl) T.b_len PySem.boot_len (pa_cons (pv 5) pa_nil)) pe_int (nomark _)))))
 (pss_one (ps_ret (pe_op (L3.ux_add (K':=K) rfl) (pe_slice (L3.ux_sl (K':=K) rfl) (pv 5) po_none (po_some (pe_un un_neg pe_int))) (pe_lst (pa_cons (pe_tup (pa_cons (pe_ix (L3.ux_ix (K':=K) rfl) (pe_ix (L3.ux_ix (K':=K) rfl) (pv 5) (pe_un un_neg pe_int) (fun _ _=>rfl)) pe_int (fun _ _=>rfl)) (pa_cons (pe_ix (L3.ux_ix (K':=K) rfl) (pe_ix (L3.ux_ix (K':=K) rfl) (pv 5) (pe_un un_neg pe_int) (fun _ _=>rfl)) pe_int (fun _ _=>rfl)) pa_nil))) (pa_cons (pe_tup (pa_cons (pe_ix (L3.ux_ix (K':=K) rfl) (pe_ix (L3.ux_ix (K':=K) rfl) (pv 5) (pe_un un_neg pe_int) (fun _ _=>rfl)) pe_int (fun _ _=>rfl)) (pa_cons (pe_ix (L3.ux_ix (K':=K) rfl) (pe_ix (L3.ux_ix (K':=K) rfl) (pv 5) (pe_un un_neg pe_int) (fun _ _=>rfl)) pe_int (fun _ _=>rfl)) pa_nil))) pa_nil))))))
 pss_nil)
 (pss_cons (ps_set (i:=6) SC.nd rfl (Or.inl rfl) (pe_op op_mod (pe_cal C__law_draw hr__law_draw rfl (pa_cons (pv 0) (pa_cons pe_int pa_nil))) (pe_callB (bk_len (K:=K) rfl) (by rfl) T.b_len PySem.boot_len (pa_cons (pv 1) pa_nil))))
 (pss_cons (ps_asg (pe_ix (L3.ux_ix (K':=K) rfl) (pv 1) (pv 6) (fun _ _=>rfl)) (pg_tup (n:=2) rfl (pgs_cons (pg_name (i:=7) SC.nd rfl (Or.inl rfl)) (pgs_cons (pg_name (i:=8) SC.nd rfl (Or.inl rfl)) pgs_nil)) (by rfl)))
 (pss_cons (ps_if (pt_cmpR (L3.ux_eq (K':=K) rfl hu) (pv 4) pe_int (nomark _))
 (pss_one (ps_ret (pe_op (L3.ux_add (K':=K) rfl) (pe_slice (L3.ux_sl (K':=K) rfl) (pv 1) po_none (po_some (pv 6))) (pe_slice (L3.ux_sl (K':=K) rfl) (pv 1) (po_some (pe_op (L3.ux_add (K':=K) rfl) (pv 6) pe_int)) po_none))))
 pss_nil)
 (pss_cons (ps_if (PW.pt (pw_or (pt_cmpR (L3.ux_eq (K':=K) rfl hu) (pv 4) pe_int (nomark _)) (pw_or1 (pt_cmpR (L3.ux_eq (K':=K) rfl hu) (pe_callB (bk_len (K:=K) rfl) (by rfl) T.b_len PySem.boot_len (pa_cons (pv 8) pa_nil)) pe_int (nomark _)))))
 (pss_one (ps_ret (pe_op (L3.ux_add (K':=K) rfl) (pe_op (L3.ux_add (K':=K) rfl) (pe_slice (L3.ux_sl (K':=K) rfl) (pv 1) po_none (po_some (pv 6))) (pe_lst (pa_cons (pe_tup (pa_cons (pe_ix (L3.ux_ix (K':=K) rfl) (pv 3) pe_int (fun _ _=>rfl)) (pa_cons (pv 8) pa_nil))) pa_nil))) (pe_slice (L3.ux_sl (K':=K) rfl) (pv 1) (po_some (pe_op (L3.ux_add (K':=K) rfl) (pv 6) pe_int)) po_none))))
 pss_nil)
 (pss_one (ps_ret (pe_op (L3.ux_add (K':=K) rfl) (pe_op (L3.ux_add (K':=K) rfl) (pe_slice (L3.ux_sl (K':=K) rfl) (pv 1) po_none (po_some (pv 6))) (pe_lst (pa_cons (pe_tup (pa_cons (pv 7) (pa_cons (pe_op (L3.ux_add (K':=K) rfl) (pv 8) (pe_tup (pa_cons (pe_ix (L3.ux_ix (K':=K) rfl) (pv 2) pe_int (fun _ _=>rfl)) pa_nil))) pa_nil))) (pa_cons (pe_tup (pa_cons (pe_ix (L3.ux_ix (K':=K) rfl) (pv 3) pe_int (fun _ _=>rfl)) (pa_cons (pe_op (L3.ux_add (K':=K) rfl) (pv 8) (pe_tup (pa_cons (pe_ix (L3.ux_ix (K':=K) rfl) (pv 2) pe_int (fun _ _=>rfl)) pa_nil))) pa_nil))) pa_nil)))) (pe_slice (L3.ux_sl (K':=K) rfl) (pv 1) (po_some (pe_op (L3.ux_add (K':=K) rfl) (pv 6) pe_int)) po_none)))))))))))),fun _=>(L3.s_seq (L3.s_asg (L3.s_call (L3.s_cons (L3.s_var 0) (L3.s_cons L3.s_int L3.s_nil))) (L3.s_g 4))
 (L3.s_seq (L3.s_ifS (L3.s_or (L3.s_test (L3.s_op L3.s_eq (L3.s_var 1) (L3.s_lst L3.s_nil))) (L3.s_test (L3.s_op L3.s_eq (L3.s_var 4) L3.s_int)))
 (L3.s_ret (L3.s_rev (L3.s_var 1) (L3.s_part (L3.s_un L3.s_neg L3.s_int))))
 L3.s_next)
 (L3.s_seq (L3.s_asg (L3.s_sortN (L3.s_cons (L3.s_var 1) L3.s_nil)) (L3.s_g 5))
 (L3.s_seq (L3.s_ifS (L3.s_and (L3.s_test (L3.s_op L3.s_eq (L3.s_var 4) L3.s_int)) (L3.s_test (L3.s_op L3.s_gt (L3.s_cb L3.s_len (L3.s_cons (L3.s_var 5) L3.s_nil)) L3.s_int)))
 (L3.s_ret (L3.s_op L3.s_add (L3.s_sl L3.s_sl3 (L3.s_var 5) L3.s_noPart (L3.s_part (L3.s_un L3.s_neg L3.s_int))) (L3.s_lst (L3.s_cons (L3.s_tup (L3.s_cons (L3.s_op L3.s_ix (L3.s_op L3.s_ix (L3.s_var 5) (L3.s_un L3.s_neg L3.s_int)) L3.s_int) (L3.s_cons (L3.s_op L3.s_ix (L3.s_op L3.s_ix (L3.s_var 5) (L3.s_un L3.s_neg L3.s_int)) L3.s_int) L3.s_nil))) (L3.s_cons (L3.s_tup (L3.s_cons (L3.s_op L3.s_ix (L3.s_op L3.s_ix (L3.s_var 5) (L3.s_un L3.s_neg L3.s_int)) L3.s_int) (L3.s_cons (L3.s_op L3.s_ix (L3.s_op L3.s_ix (L3.s_var 5) (L3.s_un L3.s_neg L3.s_int)) L3.s_int) L3.s_nil))) L3.s_nil)))))
 L3.s_next)
 (L3.s_seq (L3.s_asg (L3.s_op L3.s_mod (L3.s_call (L3.s_cons (L3.s_var 0) (L3.s_cons L3.s_int L3.s_nil))) (L3.s_cb L3.s_len (L3.s_cons (L3.s_var 1) L3.s_nil))) (L3.s_g 6))
 (L3.s_seq (L3.s_asg (L3.s_op L3.s_ix (L3.s_var 1) (L3.s_var 6)) (L3.s_gtup (L3.s_gcons (L3.s_g 7) (L3.s_gcons (L3.s_g 8) L3.s_gnil))))
 (L3.s_seq (L3.s_ifS (L3.s_test (L3.s_op L3.s_eq (L3.s_var 4) L3.s_int))
 (L3.s_ret (L3.s_op L3.s_add (L3.s_sl L3.s_sl3 (L3.s_var 1) L3.s_noPart (L3.s_part (L3.s_var 6))) (L3.s_sl L3.s_sl3 (L3.s_var 1) (L3.s_part (L3.s_op L3.s_add (L3.s_var 6) L3.s_int)) L3.s_noPart)))
 L3.s_next)
 (L3.s_seq (L3.s_ifS (L3.s_or (L3.s_test (L3.s_op L3.s_eq (L3.s_var 4) L3.s_int)) (L3.s_test (L3.s_op L3.s_eq (L3.s_cb L3.s_len (L3.s_cons (L3.s_var 8) L3.s_nil)) L3.s_int)))
 (L3.s_ret (L3.s_op L3.s_add (L3.s_op L3.s_add (L3.s_sl L3.s_sl3 (L3.s_var 1) L3.s_noPart (L3.s_part (L3.s_var 6))) (L3.s_lst (L3.s_cons (L3.s_tup (L3.s_cons (L3.s_op L3.s_ix (L3.s_var 3) L3.s_int) (L3.s_cons (L3.s_var 8) L3.s_nil))) L3.s_nil))) (L3.s_sl L3.s_sl3 (L3.s_var 1) (L3.s_part (L3.s_op L3.s_add (L3.s_var 6) L3.s_int)) L3.s_noPart)))
 L3.s_next)
 (L3.s_ret (L3.s_op L3.s_add (L3.s_op L3.s_add (L3.s_sl L3.s_sl3 (L3.s_var 1) L3.s_noPart (L3.s_part (L3.s_var 6))) (L3.s_lst (L3.s_cons (L3.s_tup (L3.s_cons (L3.s_var 7) (L3.s_cons (L3.s_op L3.s_add (L3.s_var 8) (L3.s_tup (L3.s_cons (L3.s_op L3.s_ix (L3.s_var 2) L3.s_int) L3.s_nil))) L3.s_nil))) (L3.s_cons (L3.s_tup (L3.s_cons (L3.s_op L3.s_ix (L3.s_var 3) L3.s_int) (L3.s_cons (L3.s_op L3.s_add (L3.s_var 8) (L3.s_tup (L3.s_cons (L3.s_op L3.s_ix (L3.s_var 2) L3.s_int) L3.s_nil))) L3.s_nil))) L3.s_nil)))) (L3.s_sl L3.s_sl3 (L3.s_var 1) (L3.s_part (L3.s_op L3.s_add (L3.s_var 6) L3.s_int)) L3.s_noPart))))))))))),fun ds M Kk hM hD h=>?_⟩
  obtain ⟨k0,L,bs,ss,rfl,h⟩:=h
  obtain ⟨hh,⟨tk,ndb,lb,nds,ls,sg⟩,k⟩:=h
  obtain ⟨fr,fi,by_,ln⟩:=tk
  have lm:(L.map pD).length=L.length:=List.length_map _
  refine ⟨_,rfl,k0,5,rfl,hh,⟨by decide,by decide⟩,fun way y0 y1=>?_⟩
  have rev:∀ p∈L.reverse,∀ b∈p.2,b∈bs:=fun p hp=>by_ p (List.mem_reverse.mp hp)
  have kr:=k L.reverse fr.rev ⟨by rw [List.length_reverse]; exact fi.1,fun p hp=>fi.2 p (List.mem_reverse.mp hp)⟩ rev
  refine ⟨_,rfl,Nat.zero_le _,eqv_seq encPD (a:=L) (b:=[]) rfl rfl ⟨_,rfl,?_⟩⟩
  by_cases hL:L=[]
  ·rw [decide_eq_true hL]
   refine iteT (iteT ⟨_,rfl,_,rfl,_,rfl,rfl,_,rfl,?_⟩)
   rw [<- List.map_reverse]
   exact .inl kr
  rw [decide_eq_false hL]
  refine iteF ⟨_,rfl,.inl ⟨_,rfl,_,rfl,ite2 (fun _=>⟨_,rfl,_,rfl,_,rfl,rfl,_,rfl,by rw [<- List.map_reverse]; exact .inl kr⟩) (fun hw0=>?_)⟩⟩
  have lp:0 < L.length:=List.length_pos_iff.mpr hL
  have ne:∀ p∈L,p.2≠[]:=fun p hp=>(fi.2 p hp).1
  refine ⟨_,rfl,_,L,rfl,rfl,⟨by omega,free_words fr ne⟩,fun qs pm=>?_⟩
  have frq:Free qs:=fr.perm pm
  have lq:qs.length=L.length:=pm.length_eq
  have lmq:(qs.map pD).length=qs.length:=List.length_map _
  refine ⟨_,rfl,.inl ⟨_,rfl,_,rfl,?_⟩⟩
  have sw:∀ A x y,qs=A++[x,y]->Kk (.lst ((A++[(y.1,x.2),(x.1,y.2)]).map pD)) M:=fun A x y e=>by
   have mem:∀ p∈A++[x,y],p∈L:=fun p hp=>pm.mem_iff.mp (by rw [e]; exact hp)
   have hx:x∈L:=mem x (List.mem_append_right _ List.mem_cons_self)
   have hy:y∈L:=mem y (List.mem_append_right _ (List.mem_cons_of_mem _ List.mem_cons_self))
   have wd:∀ p∈A++[(y.1,x.2),(x.1,y.2)],∃ q∈L,q.2=p.2:=fun p hp=>by
    rcases List.mem_append.mp hp with z | z
    ·exact ⟨p,mem p (List.mem_append_left _ z),rfl⟩
    ·rcases List.mem_cons.mp z with z | z
     ·exact ⟨x,hx,by rw [z]⟩
     ·exact ⟨y,hy,by rw [List.mem_singleton.mp z]⟩
   refine k _ (free_swap (by rw [<- e]; exact frq)) ⟨?_,fun p hp=>?_⟩ fun p hp=>?_
   ·have:=congrArg List.length e
    rw [List.length_append] at this ⊢
    have h2:([(y.1,x.2),(x.1,y.2)]:List Pr).length=([x,y]:List Pr).length:=rfl
    rw [h2]
    omega
   ·obtain ⟨q,hq,eq⟩:=wd p hp
    rw [<- eq]; exact fi.2 q hq
   ·obtain ⟨q,hq,eq⟩:=wd p hp
    rw [<- eq]; exact by_ q hq
  have kg:∀ (a:Nat) (ha:a < L.length) (Ms:List Pr),(∀ m∈Ms,∀ q∈L.take a++L.drop (a + 1),Apart q L[a]->Apart q m)->Free Ms->(∀ m∈Ms,(m.2≠[]/\m.2.length<=4)/\∀ b∈m.2,b∈bs)->Ms.length<=2->Kk (.lst ((L.take a++Ms++L.drop (a + 1)).map pD)) M:=fun a ha Ms h1 h2 h3 h4=>by
   have sp:=split_at ha
   have mem:∀ q∈L.take a++Ms++L.drop (a + 1),q∈L\/q∈Ms:=fun q hq=>by
    rcases List.mem_append.mp hq with z | z
    ·rcases List.mem_append.mp z with z | z
     ·exact .inl (List.mem_of_mem_take z)
     ·exact .inr z
    ·exact .inl (List.mem_of_mem_drop z)
   refine k _ (free_mid (p:=L[a]) (by rw [<- sp]; exact fr) h1 h2) ⟨?_,fun q hq=>?_⟩ fun q hq=>?_
   ·rw [List.length_append,List.length_append,List.length_take,List.length_drop]
    omega
   ·rcases mem q hq with z | z
    ·exact fi.2 q z
    ·exact (h3 q z).1
   ·rcases mem q hq with z | z
    ·exact by_ q z
    ·exact (h3 q z).2
  have s20:∀ (a:Nat) (i:Nat) (hi:i < ss.length),20<=i->∀ q∈L.take a++L.drop (a + 1),q.1≠ss[i]:=fun a i hi h20 q hq e=>by
   have hq':q∈L:=by
    rcases List.mem_append.mp hq with z | z
    ·exact List.mem_of_mem_take z
    ·exact List.mem_of_mem_drop z
   obtain ⟨j,hj,ej⟩:=List.getElem_of_mem (sg q hq')
   rw [List.length_take] at hj
   rw [List.getElem_take] at ej
   have:=(List.getElem_inj (i:=j) (j:=i) (h₀:=by omega) (h₁:=hi) nds).mp (by rw [ej,e])
   omega
  by_cases hw4:way=4
  ·rw [decide_eq_true hw4]
   refine iteT ⟨_,rfl,?_⟩
   dsimp only [uNil]
   refine len_ls (xs:=qs.map pD) rfl ?_
   refine ⟨_,_,rfl,rfl,_,rfl,ite2 (fun h=>?swap) (fun h=>?ft1)⟩
   case swap =>
    have h:=of_decide_eq_true h
    rw [lmq] at h
    obtain ⟨A,x,y,eq⟩:∃ A x y,qs=A++[x,y]:=by
     cases e:qs.reverse with
     | nil=>have:=congrArg List.length e; rw [List.length_reverse,List.length_nil] at this; omega
     | cons y r =>
      cases r with
      | nil=>have:=congrArg List.length e; rw [List.length_reverse] at this; simp at this; omega
      | cons x r =>
       refine ⟨r.reverse,x,y,?_⟩
       have:=congrArg List.reverse e
       rw [List.reverse_reverse] at this
       rw [this]
       simp
    have k2:=sw A x y eq
    subst eq
    have rv:((A++[x,y]).map pD).reverse=pD y::pD x::(A.map pD).reverse:=by simp
    have l2:1 < ((A++[x,y]).map pD).length:=by rw [lmq]; omega
    have a1:L2.atI ((A++[x,y]).map pD) (-1)=some (pD y):=by
     have:=atI_back (xs:=(A++[x,y]).map pD) (j:=0) (by omega)
     rw [rv] at this
     exact this
    have a2:L2.atI ((A++[x,y]).map pD) (-2)=some (pD x):=by
     have:=atI_back (xs:=(A++[x,y]).map pD) (j:=1) l2
     rw [rv] at this
     exact this
    have ct:cut ((A++[x,y]).map pD) none (some (-2))=A.map pD:=by
     unfold cut
     rw [HT.sIx_none,List.drop_zero,Nat.sub_zero]
     have:HT.sIx ((A++[x,y]).map pD).length ((A++[x,y]).map pD).length (some (-2))=(A.map pD).length:=by
      show (if (-2:Int) < 0 then ((-2:Int) + (((A++[x,y]).map pD).length:Nat)).toNat else min (-2:Int).toNat ((A++[x,y]).map pD).length)=_
      rw [if_pos (by decide)]
      simp only [List.length_map,List.length_append,List.length_cons,List.length_nil]
      omega
     rw [this,List.map_append,List.take_left]
    refine ⟨_,rfl,_,rfl,_,rfl,?_⟩
    refine sl_ls (d:=.lst ((A++[x,y]).map pD)) rfl ?_
    rw [show (-(2:Int)) = -2 from rfl,ct]
    refine ⟨_,rfl,_,rfl,_,_,_,rfl,rfl,a1,_,_,_,rfl,rfl,rfl,_,rfl,_,rfl,_,_,_,rfl,rfl,a2,_,_,_,rfl,rfl,rfl,(show 2<=sizeLine by decide),?_⟩
    refine ⟨_,rfl,_,rfl,_,_,_,rfl,rfl,a2,_,_,_,rfl,rfl,rfl,_,rfl,_,rfl,_,_,_,rfl,rfl,a1,_,_,_,rfl,rfl,rfl,(show 2<=sizeLine by decide),(show 2<=sizeLine by decide),?_⟩
    refine add_ls (xs:=A.map pD) (ys:=[pD (y.1,x.2),pD (x.1,y.2)]) rfl rfl (by rw [List.length_map]; rw [List.length_append] at lq; exact small_line (by show A.length + 2<=_; omega)) (.inl ?_)
    rw [List.map_append] at k2
    exact k2
   case ft1 =>
    refine ⟨_,rfl,k0,60,rfl,hh,⟨by decide,by decide⟩,fun r r0 r1=>?_⟩
    refine ⟨_,rfl,?_⟩
    dsimp only [uNil]
    refine len_ls (xs:=L.map pD) rfl ?_
    refine ⟨_,_,rfl,rfl,by omega,?_⟩
    dsimp only
    rw [lm]
    obtain ⟨a,ea⟩:=Int.eq_ofNat_of_zero_le (Int.emod_nonneg r (b:=((L.length:Nat):Int)) (by omega))
    have ha:a < L.length:=by have:=Int.emod_lt_of_pos r (b:=((L.length:Nat):Int)) (by omega); omega
    rw [ea]
    have cA:cut (L.map pD) none (some (a:Int))=(L.take a).map pD:=by rw [cut_toG,List.map_take]
    have cB:cut (L.map pD) (some ((a:Int) + 1)) none=(L.drop (a + 1)).map pD:=by rw [show (a:Int) + 1=((a + 1:Nat):Int) by omega,cut_fromG,List.map_drop]
    have hla:L[a]∈L:=List.getElem_mem ha
    have lT:(L.take a).length<=28:=by rw [List.length_take]; omega
    have lD:(L.drop (a + 1)).length<=28:=by rw [List.length_drop]; omega
    refine ⟨_,rfl,_,rfl,_,_,_,rfl,rfl,atI_map (f:=pD) (as:=L) (j:=a) rfl ha,?_⟩
    refine ⟨_,rfl,rfl,_,_,rfl,_,_,rfl,rfl,?_⟩
    refine ⟨_,rfl,.inl ⟨_,rfl,_,rfl,ite2 (fun h1=>?_) (fun h1=>?_)⟩⟩
    ·refine ⟨_,rfl,_,rfl,_,rfl,?_⟩
     refine sl_ls (d:=.lst (L.map pD)) rfl ?_
     refine ⟨_,rfl,_,rfl,_,rfl,?_⟩
     dsimp only [uNoPart]
     refine sl_ls (d:=.lst (L.map pD)) rfl ?_
     rw [cA,cB]
     refine add_ls (xs:=(L.take a).map pD) (ys:=(L.drop (a + 1)).map pD) rfl rfl (by rw [List.length_map,List.length_map]; exact small_line (by omega)) (.inl ?_)
     have:=kg a ha [] (fun _ z=>nomatch z) .nil (fun _ z=>nomatch z) (by decide)
     rw [List.append_nil,List.map_append] at this
     exact this
    ·refine ⟨_,rfl,.inl ⟨_,rfl,_,rfl,?_⟩⟩
     by_cases h2:way=2
     ·rw [decide_eq_true h2]
      refine iteT (iteT ?_)
      refine ⟨_,rfl,_,rfl,_,rfl,?_⟩
      refine sl_ls (d:=.lst (L.map pD)) rfl ?_
      refine ⟨_,rfl,_,_,_,rfl,rfl,atI_map (as:=ss) (j:=20) rfl (by omega),_,rfl,(show 2<=sizeLine by decide),(show 1<=sizeLine by decide),?_⟩
      rw [cA]
      refine add_ls (xs:=(L.take a).map pD) (ys:=[pD (ss[20],L[a].2)]) rfl rfl (by rw [List.length_map]; exact small_line (by show (L.take a).length + 1<=_; omega)) ?_
      refine ⟨_,rfl,_,rfl,_,rfl,?_⟩
      dsimp only [uNoPart]
      refine sl_ls (d:=.lst (L.map pD)) rfl ?_
      rw [cB]
      refine add_ls (xs:=(L.take a).map pD++[pD (ss[20],L[a].2)]) (ys:=(L.drop (a + 1)).map pD) rfl rfl (by rw [List.length_append,List.length_map,List.length_map]; exact small_line (by show (L.take a).length + 1 + _<=_; omega)) (.inl ?_)
      have:=kg a ha [(ss[20],L[a].2)] (fun m hm q hq ap=>by rw [List.mem_singleton.mp hm]; exact apart_sign ap (s20 a 20 (by omega) (by omega) q hq)) (List.pairwise_singleton _ _) (fun m hm=>by rw [List.mem_singleton.mp hm]; exact ⟨fi.2 L[a] hla,by_ L[a] hla⟩) (by show 1<=2; omega)
      rw [List.map_append,List.map_append] at this
      exact this
     ·rw [decide_eq_false h2]
      refine iteF ⟨_,rfl,_,rfl,.inl ⟨_,rfl,_,rfl,ite2 (fun h4=>?_) (fun h4=>?_)⟩⟩
      ·refine ⟨_,rfl,_,rfl,_,rfl,?_⟩
       refine sl_ls (d:=.lst (L.map pD)) rfl ?_
       refine ⟨_,rfl,_,_,_,rfl,rfl,atI_map (as:=ss) (j:=20) rfl (by omega),_,rfl,(show 2<=sizeLine by decide),(show 1<=sizeLine by decide),?_⟩
       rw [cA]
       refine add_ls (xs:=(L.take a).map pD) (ys:=[pD (ss[20],L[a].2)]) rfl rfl (by rw [List.length_map]; exact small_line (by show (L.take a).length + 1<=_; omega)) ?_
       refine ⟨_,rfl,_,rfl,_,rfl,?_⟩
       dsimp only [uNoPart]
       refine sl_ls (d:=.lst (L.map pD)) rfl ?_
       rw [cB]
       refine add_ls (xs:=(L.take a).map pD++[pD (ss[20],L[a].2)]) (ys:=(L.drop (a + 1)).map pD) rfl rfl (by rw [List.length_append,List.length_map,List.length_map]; exact small_line (by show (L.take a).length + 1 + _<=_; omega)) (.inl ?_)
       have:=kg a ha [(ss[20],L[a].2)] (fun m hm q hq ap=>by rw [List.mem_singleton.mp hm]; exact apart_sign ap (s20 a 20 (by omega) (by omega) q hq)) (List.pairwise_singleton _ _) (fun m hm=>by rw [List.mem_singleton.mp hm]; exact ⟨fi.2 L[a] hla,by_ L[a] hla⟩) (by show 1<=2; omega)
       rw [List.map_append,List.map_append] at this
       exact this
      ·have l4:L[a].2.length≠4:=fun z=>h4 (decide_eq_true (by rw [List.length_map,z]; rfl))
       have l4':L[a].2.length<=3:=by have:=(fi.2 L[a] hla).2; omega
       have hb0:bs[0]≠bs[1]:=fun e=>by have:=(List.getElem_inj (i:=0) (j:=1) (h₀:=by omega) (h₁:=by omega) ndb).mp e; omega
       have hsa:L[a].1≠ss[21]:=fun e=>by
        obtain ⟨j,hj,ej⟩:=List.getElem_of_mem (sg L[a] hla)
        rw [List.length_take] at hj
        rw [List.getElem_take] at ej
        have:=(List.getElem_inj (i:=j) (j:=21) (h₀:=by omega) (h₁:=by omega) nds).mp (by rw [ej,e])
        omega
       have kk:=kg a ha [(L[a].1,L[a].2++[bs[0]]),(ss[21],L[a].2++[bs[1]])] (fun m hm q hq ap=>by
        rcases List.mem_cons.mp hm with z | z
        ·rw [z]; exact apart_more ap ap.1
        ·rw [List.mem_singleton.mp z]; exact apart_more ap (s20 a 21 (by omega) (by omega) q hq)) (List.pairwise_cons.mpr ⟨fun m hm=>by rw [List.mem_singleton.mp hm]; exact apart_two hsa hb0,List.pairwise_singleton _ _⟩) (fun m hm=>by
        have go:∀ b∈bs,(L[a].2++[b]≠[]/\(L[a].2++[b]).length<=4)/\∀ c∈L[a].2++[b],c∈bs:=fun b hb=>⟨⟨by simp,by rw [List.length_append]; show L[a].2.length + 1<=4; omega⟩,fun c hc=>by
         rcases List.mem_append.mp hc with z | z
         ·exact by_ L[a] hla c z
         ·rw [List.mem_singleton.mp z]; exact hb⟩
        rcases List.mem_cons.mp hm with z | z
        ·rw [z]; exact go _ (List.getElem_mem _)
        ·rw [List.mem_singleton.mp z]; exact go _ (List.getElem_mem _)) (by show 2<=2; omega)
       refine ⟨_,rfl,_,rfl,_,rfl,?_⟩
       refine sl_ls (d:=.lst (L.map pD)) rfl ?_
       refine ⟨_,rfl,_,rfl,_,rfl,_,_,_,rfl,rfl,atI_map (as:=bs) (j:=0) rfl (by omega),(show 1<=sizeLine by decide),⟨(fun z=>(fi.2 L[a] hla).1 (List.map_eq_nil_iff.mp z)),(by rw [List.length_map]; exact small_line (by show L[a].2.length + 1<=_; omega))⟩,(show 2<=sizeLine by decide),?_⟩
       refine ⟨_,rfl,_,_,_,rfl,rfl,atI_map (as:=ss) (j:=21) rfl (by omega),_,rfl,_,rfl,_,_,_,rfl,rfl,atI_map (as:=bs) (j:=1) rfl (by omega),(show 1<=sizeLine by decide),⟨(fun z=>(fi.2 L[a] hla).1 (List.map_eq_nil_iff.mp z)),(by rw [List.length_map]; exact small_line (by show L[a].2.length + 1<=_; omega))⟩,(show 2<=sizeLine by decide),(show 2<=sizeLine by decide),?_⟩
       rw [cA]
       refine add_ls (xs:=(L.take a).map pD) (ys:=[pD (L[a].1,L[a].2++[bs[0]]),pD (ss[21],L[a].2++[bs[1]])]) rfl (by show some _=some _; unfold pD wD; simp only [List.map_append]; rfl) (by rw [List.length_map]; exact small_line (by show (L.take a).length + 2<=_; omega)) ?_
       refine ⟨_,rfl,_,rfl,_,rfl,?_⟩
       dsimp only [uNoPart]
       refine sl_ls (d:=.lst (L.map pD)) rfl ?_
       rw [cB]
       refine add_ls (xs:=(L.take a).map pD++[pD (L[a].1,L[a].2++[bs[0]]),pD (ss[21],L[a].2++[bs[1]])]) (ys:=(L.drop (a + 1)).map pD) rfl rfl (by rw [List.length_append,List.length_map,List.length_map]; exact small_line (by show (L.take a).length + 2 + _<=_; omega)) (.inl ?_)
       rw [List.map_append,List.map_append] at kk
       exact kk
  ·rw [decide_eq_false hw4]
   refine iteF (iteF ?_)
   ·
    refine ⟨_,rfl,k0,60,rfl,hh,⟨by decide,by decide⟩,fun r r0 r1=>?_⟩
    refine ⟨_,rfl,?_⟩
    dsimp only [uNil]
    refine len_ls (xs:=L.map pD) rfl ?_
    refine ⟨_,_,rfl,rfl,by omega,?_⟩
    dsimp only
    rw [lm]
    obtain ⟨a,ea⟩:=Int.eq_ofNat_of_zero_le (Int.emod_nonneg r (b:=((L.length:Nat):Int)) (by omega))
    have ha:a < L.length:=by have:=Int.emod_lt_of_pos r (b:=((L.length:Nat):Int)) (by omega); omega
    rw [ea]
    have cA:cut (L.map pD) none (some (a:Int))=(L.take a).map pD:=by rw [cut_toG,List.map_take]
    have cB:cut (L.map pD) (some ((a:Int) + 1)) none=(L.drop (a + 1)).map pD:=by rw [show (a:Int) + 1=((a + 1:Nat):Int) by omega,cut_fromG,List.map_drop]
    have hla:L[a]∈L:=List.getElem_mem ha
    have lT:(L.take a).length<=28:=by rw [List.length_take]; omega
    have lD:(L.drop (a + 1)).length<=28:=by rw [List.length_drop]; omega
    refine ⟨_,rfl,_,rfl,_,_,_,rfl,rfl,atI_map (f:=pD) (as:=L) (j:=a) rfl ha,?_⟩
    refine ⟨_,rfl,rfl,_,_,rfl,_,_,rfl,rfl,?_⟩
    refine ⟨_,rfl,.inl ⟨_,rfl,_,rfl,ite2 (fun h1=>?_) (fun h1=>?_)⟩⟩
    ·refine ⟨_,rfl,_,rfl,_,rfl,?_⟩
     refine sl_ls (d:=.lst (L.map pD)) rfl ?_
     refine ⟨_,rfl,_,rfl,_,rfl,?_⟩
     dsimp only [uNoPart]
     refine sl_ls (d:=.lst (L.map pD)) rfl ?_
     rw [cA,cB]
     refine add_ls (xs:=(L.take a).map pD) (ys:=(L.drop (a + 1)).map pD) rfl rfl (by rw [List.length_map,List.length_map]; exact small_line (by omega)) (.inl ?_)
     have:=kg a ha [] (fun _ z=>nomatch z) .nil (fun _ z=>nomatch z) (by decide)
     rw [List.append_nil,List.map_append] at this
     exact this
    ·refine ⟨_,rfl,.inl ⟨_,rfl,_,rfl,?_⟩⟩
     by_cases h2:way=2
     ·rw [decide_eq_true h2]
      refine iteT (iteT ?_)
      refine ⟨_,rfl,_,rfl,_,rfl,?_⟩
      refine sl_ls (d:=.lst (L.map pD)) rfl ?_
      refine ⟨_,rfl,_,_,_,rfl,rfl,atI_map (as:=ss) (j:=20) rfl (by omega),_,rfl,(show 2<=sizeLine by decide),(show 1<=sizeLine by decide),?_⟩
      rw [cA]
      refine add_ls (xs:=(L.take a).map pD) (ys:=[pD (ss[20],L[a].2)]) rfl rfl (by rw [List.length_map]; exact small_line (by show (L.take a).length + 1<=_; omega)) ?_
      refine ⟨_,rfl,_,rfl,_,rfl,?_⟩
      dsimp only [uNoPart]
      refine sl_ls (d:=.lst (L.map pD)) rfl ?_
      rw [cB]
      refine add_ls (xs:=(L.take a).map pD++[pD (ss[20],L[a].2)]) (ys:=(L.drop (a + 1)).map pD) rfl rfl (by rw [List.length_append,List.length_map,List.length_map]; exact small_line (by show (L.take a).length + 1 + _<=_; omega)) (.inl ?_)
      have:=kg a ha [(ss[20],L[a].2)] (fun m hm q hq ap=>by rw [List.mem_singleton.mp hm]; exact apart_sign ap (s20 a 20 (by omega) (by omega) q hq)) (List.pairwise_singleton _ _) (fun m hm=>by rw [List.mem_singleton.mp hm]; exact ⟨fi.2 L[a] hla,by_ L[a] hla⟩) (by show 1<=2; omega)
      rw [List.map_append,List.map_append] at this
      exact this
     ·rw [decide_eq_false h2]
      refine iteF ⟨_,rfl,_,rfl,.inl ⟨_,rfl,_,rfl,ite2 (fun h4=>?_) (fun h4=>?_)⟩⟩
      ·refine ⟨_,rfl,_,rfl,_,rfl,?_⟩
       refine sl_ls (d:=.lst (L.map pD)) rfl ?_
       refine ⟨_,rfl,_,_,_,rfl,rfl,atI_map (as:=ss) (j:=20) rfl (by omega),_,rfl,(show 2<=sizeLine by decide),(show 1<=sizeLine by decide),?_⟩
       rw [cA]
       refine add_ls (xs:=(L.take a).map pD) (ys:=[pD (ss[20],L[a].2)]) rfl rfl (by rw [List.length_map]; exact small_line (by show (L.take a).length + 1<=_; omega)) ?_
       refine ⟨_,rfl,_,rfl,_,rfl,?_⟩
       dsimp only [uNoPart]
       refine sl_ls (d:=.lst (L.map pD)) rfl ?_
       rw [cB]
       refine add_ls (xs:=(L.take a).map pD++[pD (ss[20],L[a].2)]) (ys:=(L.drop (a + 1)).map pD) rfl rfl (by rw [List.length_append,List.length_map,List.length_map]; exact small_line (by show (L.take a).length + 1 + _<=_; omega)) (.inl ?_)
       have:=kg a ha [(ss[20],L[a].2)] (fun m hm q hq ap=>by rw [List.mem_singleton.mp hm]; exact apart_sign ap (s20 a 20 (by omega) (by omega) q hq)) (List.pairwise_singleton _ _) (fun m hm=>by rw [List.mem_singleton.mp hm]; exact ⟨fi.2 L[a] hla,by_ L[a] hla⟩) (by show 1<=2; omega)
       rw [List.map_append,List.map_append] at this
       exact this
      ·have l4:L[a].2.length≠4:=fun z=>h4 (decide_eq_true (by rw [List.length_map,z]; rfl))
       have l4':L[a].2.length<=3:=by have:=(fi.2 L[a] hla).2; omega
       have hb0:bs[0]≠bs[1]:=fun e=>by have:=(List.getElem_inj (i:=0) (j:=1) (h₀:=by omega) (h₁:=by omega) ndb).mp e; omega
       have hsa:L[a].1≠ss[21]:=fun e=>by
        obtain ⟨j,hj,ej⟩:=List.getElem_of_mem (sg L[a] hla)
        rw [List.length_take] at hj
        rw [List.getElem_take] at ej
        have:=(List.getElem_inj (i:=j) (j:=21) (h₀:=by omega) (h₁:=by omega) nds).mp (by rw [ej,e])
        omega
       have kk:=kg a ha [(L[a].1,L[a].2++[bs[0]]),(ss[21],L[a].2++[bs[1]])] (fun m hm q hq ap=>by
        rcases List.mem_cons.mp hm with z | z
        ·rw [z]; exact apart_more ap ap.1
        ·rw [List.mem_singleton.mp z]; exact apart_more ap (s20 a 21 (by omega) (by omega) q hq)) (List.pairwise_cons.mpr ⟨fun m hm=>by rw [List.mem_singleton.mp hm]; exact apart_two hsa hb0,List.pairwise_singleton _ _⟩) (fun m hm=>by
        have go:∀ b∈bs,(L[a].2++[b]≠[]/\(L[a].2++[b]).length<=4)/\∀ c∈L[a].2++[b],c∈bs:=fun b hb=>⟨⟨by simp,by rw [List.length_append]; show L[a].2.length + 1<=4; omega⟩,fun c hc=>by
         rcases List.mem_append.mp hc with z | z
         ·exact by_ L[a] hla c z
         ·rw [List.mem_singleton.mp z]; exact hb⟩
        rcases List.mem_cons.mp hm with z | z
        ·rw [z]; exact go _ (List.getElem_mem _)
        ·rw [List.mem_singleton.mp z]; exact go _ (List.getElem_mem _)) (by show 2<=2; omega)
       refine ⟨_,rfl,_,rfl,_,rfl,?_⟩
       refine sl_ls (d:=.lst (L.map pD)) rfl ?_
       refine ⟨_,rfl,_,rfl,_,rfl,_,_,_,rfl,rfl,atI_map (as:=bs) (j:=0) rfl (by omega),(show 1<=sizeLine by decide),⟨(fun z=>(fi.2 L[a] hla).1 (List.map_eq_nil_iff.mp z)),(by rw [List.length_map]; exact small_line (by show L[a].2.length + 1<=_; omega))⟩,(show 2<=sizeLine by decide),?_⟩
       refine ⟨_,rfl,_,_,_,rfl,rfl,atI_map (as:=ss) (j:=21) rfl (by omega),_,rfl,_,rfl,_,_,_,rfl,rfl,atI_map (as:=bs) (j:=1) rfl (by omega),(show 1<=sizeLine by decide),⟨(fun z=>(fi.2 L[a] hla).1 (List.map_eq_nil_iff.mp z)),(by rw [List.length_map]; exact small_line (by show L[a].2.length + 1<=_; omega))⟩,(show 2<=sizeLine by decide),(show 2<=sizeLine by decide),?_⟩
       rw [cA]
       refine add_ls (xs:=(L.take a).map pD) (ys:=[pD (L[a].1,L[a].2++[bs[0]]),pD (ss[21],L[a].2++[bs[1]])]) rfl (by show some _=some _; unfold pD wD; simp only [List.map_append]; rfl) (by rw [List.length_map]; exact small_line (by show (L.take a).length + 2<=_; omega)) ?_
       refine ⟨_,rfl,_,rfl,_,rfl,?_⟩
       dsimp only [uNoPart]
       refine sl_ls (d:=.lst (L.map pD)) rfl ?_
       rw [cB]
       refine add_ls (xs:=(L.take a).map pD++[pD (L[a].1,L[a].2++[bs[0]]),pD (ss[21],L[a].2++[bs[1]])]) (ys:=(L.drop (a + 1)).map pD) rfl rfl (by rw [List.length_append,List.length_map,List.length_map]; exact small_line (by show (L.take a).length + 2 + _<=_; omega)) (.inl ?_)
       rw [List.map_append,List.map_append] at kk
       exact kk
open L3
theorem ok__law_wide (T:Txt mg) {C:Addr} {Pt P2:Addr} (M_Code:Mkr P w K mg base "Code" C 4 ["self", "table"] (L3.spInitN C Pt lamP lamQ)) (C__law_draw:Cal P w K mg base "_law_draw" 1 ["_law_hand", "_law_many"] (L3.spOf ⟨C,K⟩ dDraw)) (C__law_signs:Cal P w K mg base "_law_signs" 2 ["_law_hand", "_law_many"] (L3.spOf ⟨C,K⟩ dSigns)) (C__law_same:Cal P w K mg base "_law_same" 1 ["_law_found", "_law_due_here"] (L3.spOf ⟨C,K⟩ dSame27)) (C_telling:Cal P w K mg base "telling" 5 ["one", "other"] (L3.spOf ⟨C,K⟩ (dTelling P2 telP telQ))) {f:Addr} {fd:FuncData} (F:Fun K "_law_wide" "_law_wide" s__law_wide f fd):FnOk P w K mg base CX0 6 f fd ["_law_hand"] (L3.spOf ⟨C,K⟩ (dWide27 Pt lamP lamQ P2 telP telQ)):=by
 refine L3.Fun.ok3 F sc__law_wide (fun ds M K3 h=>?_) (fun cdv A outer s H E hr=>?_)
 ·obtain ⟨k1,k2,k0,rfl,_⟩:=h
  rfl
 ·have SC:=sc__law_wide
  have hu:=hr.units
  have hu1:=hu_of hr
  have hr_Code:Room 5 _:=hr.mono (by first | decide | omega)
  have hr__law_draw:Room 1 _:=hr.mono (by first | decide | omega)
  have hr__law_signs:Room 2 _:=hr.mono (by first | decide | omega)
  have hr__law_same:Room 1 _:=hr.mono (by first | decide | omega)
  have hr_telling:Room 5 _:=hr.mono (by first | decide | omega)
  refine ⟨_,_,(pss_cons (ps_set (i:=1) SC.nd rfl (Or.inr rfl) (pe_cal C__law_draw hr__law_draw rfl (pa_cons (pv 0) (pa_cons pe_int pa_nil))))
 (pss_cons (ps_set (i:=2) SC.nd rfl (Or.inr rfl) (pe_cal C__law_signs hr__law_signs rfl (pa_cons (pv 0) (pa_cons pe_int pa_nil))))
 (pss_cons (ps_comp (i:=3) SC.nd rfl rfl (T:=["_law_k"]) (cs:=[2,1]) rfl (CScope.ok (by kernel_rfl)) (pi_range1 rfl T.b_range (pa_cons pe_int pa_nil)) (fun _ _ _ _=>(pg_name (i:=0) (nd_of (by kernel_rfl)) rfl (Or.inl rfl) (Or.inr rfl))) (fun _ _ _ _=>pts_nil) (fun _ _ _ _=>(pe_tup (pa_cons (pe_ix (L3.ux_ix (K':=K) rfl) (pv 1) (pv 0) (fun _ _=>rfl)) (pa_cons (pe_tup (pa_cons (pe_op op_mod (pe_op (L3.ux_add (K':=K) rfl) (pv 2) (pe_op L3.ux_mul pe_int (pv 0))) pe_int) pa_nil)) pa_nil)))) (gk_name (by decide)))
 (pss_cons (ps_set (i:=4) SC.nd rfl (Or.inl rfl) (pe_callTy (bk_list (K:=K) rfl) (by rfl) T.b_list PyProof.Rows.boot_list (pa_cons (pv 3) pa_nil)))
 (pss_cons (ps_set (i:=5) SC.nd rfl (Or.inl rfl) (pe_cal C__law_draw hr__law_draw rfl (pa_cons (pv 0) (pa_cons pe_int pa_nil))))
 (pss_cons (ps_set (i:=6) SC.nd rfl (Or.inl rfl) (pe_cal C__law_draw hr__law_draw rfl (pa_cons (pv 0) (pa_cons pe_int pa_nil))))
 (pss_cons (ps_if (pt_cmpR (L3.ux_eq (K':=K) rfl hu) (pv 5) pe_int (nomark _))
 (pss_one (ps_expr (pe_bm PySem.F.plainAttrs_list PySem.F.slot_list_pop PySem.F.type_list_pop mt_popAt (pv 4) (pa_cons (pv 6) pa_nil))))
 pss_nil)
 (pss_cons (ps_if (pt_cmpR (L3.ux_eq (K':=K) rfl hu) (pv 5) pe_int (nomark _))
 (pss_one (ps_asg (pe_tup (pa_cons (pe_ix (L3.ux_ix (K':=K) rfl) (pv 2) pe_int (fun _ _=>rfl)) (pa_cons (pe_ix (L3.ux_ix (K':=K) rfl) (pe_ix (L3.ux_ix (K':=K) rfl) (pv 3) (pv 6) (fun _ _=>rfl)) pe_int (fun _ _=>rfl)) pa_nil))) (pg_sub (pv 4) (pv 6) set_list)))
 pss_nil)
 (pss_cons (ps_set (i:=7) SC.nd rfl (Or.inl rfl) (pe_ix (L3.ux_ix (K':=K) rfl) (pe_lst (pa_cons pe_non (pa_cons (pe_callTy (bk_list (K:=K) rfl) (by rfl) T.b_list PyProof.Rows.boot_list (pa_cons (pe_ix (L3.ux_ix (K':=K) rfl) (pe_ix (L3.ux_ix (K':=K) rfl) (pv 3) (pv 6) (fun _ _=>rfl)) pe_int (fun _ _=>rfl)) pa_nil)) pa_nil))) (pe_callTy call_int1 (by rfl) T.b_int PyProof.Rows.boot_int (pa_cons (pe_cmpR op_gt (pv 5) pe_int (nomark _)) pa_nil)) (fun _ _=>rfl)))
 (pss_cons (ps_set (i:=8) SC.nd rfl (Or.inl rfl) (pe_lst (pa_cons (pe_mk M_Code hr_Code rfl (pa_cons (pv 3) pa_nil)) (pa_cons (pe_mk M_Code hr_Code rfl (pa_cons (pe_rev (pv 4) (po_some (pe_un un_neg pe_int)) (fun _ _=>⟨_,rfl⟩)) pa_nil)) pa_nil))))
 (pss_one (ps_ret (pe_and (pe_cal C__law_same hr__law_same rfl (pa_cons (pe_cal C_telling hr_telling rfl (pa_cons (pe_ix (L3.ux_ix (K':=K) rfl) (pv 8) pe_int (fun _ _=>rfl)) (pa_cons (pe_ix (L3.ux_ix (K':=K) rfl) (pv 8) pe_int (fun _ _=>rfl)) pa_nil))) (pa_cons (pv 7) pa_nil))) (pe_one (pe_cal C__law_same hr__law_same rfl (pa_cons (pe_cal C_telling hr_telling rfl (pa_cons (pe_ix (L3.ux_ix (K':=K) rfl) (pv 8) pe_int (fun _ _=>rfl)) (pa_cons (pe_ix (L3.ux_ix (K':=K) rfl) (pv 8) pe_int (fun _ _=>rfl)) pa_nil))) (pa_cons (pv 7) pa_nil))))))))))))))))),fun _=>(L3.s_seq (L3.s_asg (L3.s_call (L3.s_cons (L3.s_var 0) (L3.s_cons L3.s_int L3.s_nil))) (L3.s_g 1))
 (L3.s_seq (L3.s_asg (L3.s_call (L3.s_cons (L3.s_var 0) (L3.s_cons L3.s_int L3.s_nil))) (L3.s_g 2))
 (L3.s_seq (L3.s_asg (L3.s_comp (L3.s_ir1 (L3.s_cons L3.s_int L3.s_nil)) (L3.s_g 0) L3.s_true (L3.s_tup (L3.s_cons (L3.s_op L3.s_ix (L3.s_var 1) (L3.s_var 0)) (L3.s_cons (L3.s_tup (L3.s_cons (L3.s_op L3.s_mod (L3.s_op L3.s_add (L3.s_var 2) (L3.s_op L3.s_mul L3.s_int (L3.s_var 0))) L3.s_int) L3.s_nil)) L3.s_nil)))) (L3.s_g 3))
 (L3.s_seq (L3.s_asg (L3.s_cb L3.s_listC (L3.s_cons (L3.s_var 3) L3.s_nil)) (L3.s_g 4))
 (L3.s_seq (L3.s_asg (L3.s_call (L3.s_cons (L3.s_var 0) (L3.s_cons L3.s_int L3.s_nil))) (L3.s_g 5))
 (L3.s_seq (L3.s_asg (L3.s_call (L3.s_cons (L3.s_var 0) (L3.s_cons L3.s_int L3.s_nil))) (L3.s_g 6))
 (L3.s_seq (L3.s_ifS (L3.s_test (L3.s_op L3.s_eq (L3.s_var 5) L3.s_int))
 (L3.s_drop (L3.s_popAt (L3.s_var 4) (L3.s_cons (L3.s_var 6) L3.s_nil)))
 L3.s_next)
 (L3.s_seq (L3.s_ifS (L3.s_test (L3.s_op L3.s_eq (L3.s_var 5) L3.s_int))
 (L3.s_asg (L3.s_tup (L3.s_cons (L3.s_op L3.s_ix (L3.s_var 2) L3.s_int) (L3.s_cons (L3.s_op L3.s_ix (L3.s_op L3.s_ix (L3.s_var 3) (L3.s_var 6)) L3.s_int) L3.s_nil))) (L3.s_gsub (L3.s_var 4) (L3.s_var 6)))
 L3.s_next)
 (L3.s_seq (L3.s_asg (L3.s_op L3.s_ix (L3.s_lst (L3.s_cons L3.s_non (L3.s_cons (L3.s_cb L3.s_list (L3.s_cons (L3.s_op L3.s_ix (L3.s_op L3.s_ix (L3.s_var 3) (L3.s_var 6)) L3.s_int) L3.s_nil)) L3.s_nil))) (L3.s_cb L3.s_intOf (L3.s_cons (L3.s_op L3.s_gt (L3.s_var 5) L3.s_int) L3.s_nil))) (L3.s_g 7))
 (L3.s_seq (L3.s_asg (L3.s_lst (L3.s_cons (L3.s_mkCode (L3.s_cons (L3.s_var 3) L3.s_nil)) (L3.s_cons (L3.s_mkCode (L3.s_cons (L3.s_rev (L3.s_var 4) (L3.s_part (L3.s_un L3.s_neg L3.s_int))) L3.s_nil)) L3.s_nil))) (L3.s_g 8))
 (L3.s_ret (L3.s_andV (L3.s_call (L3.s_cons (L3.s_call (L3.s_cons (L3.s_op L3.s_ix (L3.s_var 8) L3.s_int) (L3.s_cons (L3.s_op L3.s_ix (L3.s_var 8) L3.s_int) L3.s_nil))) (L3.s_cons (L3.s_var 7) L3.s_nil))) (L3.s_call (L3.s_cons (L3.s_call (L3.s_cons (L3.s_op L3.s_ix (L3.s_var 8) L3.s_int) (L3.s_cons (L3.s_op L3.s_ix (L3.s_var 8) L3.s_int) L3.s_nil))) (L3.s_cons (L3.s_var 7) L3.s_nil))))))))))))))),fun ds M Kk hM hD h=>?_⟩
  obtain ⟨k1,k2,k0,rfl,h⟩:=h
  obtain ⟨h1,h2,hh,k⟩:=h
  refine ⟨_,rfl,k0,256,rfl,hh,⟨by decide,by decide⟩,fun b b0 b1=>?_⟩
  refine ⟨_,rfl,k0,25,rfl,hh,⟨by decide,by decide⟩,fun ss nds ls=>?_⟩
  have ls:ss.length=25:=by omega
  obtain ⟨fr,fi,sg⟩:=wide_ok b nds ls
  have lL:=wide_len b ss
  have gL:∀ (j:Nat) (hj:j < 24),(wideL b ss)[j]?=some (ss[j],[(b + 13 * (j:Int)) % 256]):=fun j hj=>by rw [List.getElem?_eq_getElem (by omega),wide_get b ls hj]
  generalize wideL b ss=L at fr fi sg lL gL
  have lm:(L.map pD).length=24:=by rw [List.length_map,lL]
  refine ⟨24,rfl,⟨by decide,by decide⟩,by decide,fun j ys M'=>M=M'/\ys=(L.take j).map pD,fun _ _ _ _ _=>trivial,⟨rfl,rfl⟩,?_,?_⟩
  ·rintro j x ys _ hj rfl ⟨rfl,rfl⟩
   have hj:j < 24:=hj
   refine ⟨_,rfl,_,rfl,_,_,_,rfl,rfl,atI_map (as:=ss) (j:=j) (by omega) (by omega),_,rfl,_,rfl,?_⟩
   refine ⟨.inl ⟨by decide,by decide⟩,_,_,rfl,rfl,(show (0:Int) < 256 by decide),(show 1<=sizeLine by decide),(show 2<=sizeLine by decide),rfl,?_⟩
   have e:=gL j hj
   rw [List.getElem?_eq_getElem (by omega)] at e
   rw [List.take_succ_eq_append_getElem (by omega),List.map_append,Option.some.inj e]
   simp [pD,wD]
  rintro ys _ ⟨rfl,rfl⟩
  have eL:L.take (rngIt 0 (24:Int).toNat).n=L:=by
   show L.take 24=L
   rw [<- lL,List.take_length]
  rw [eL]
  refine ⟨_,rfl,_,_,rfl,rfl,?_⟩
  refine ⟨_,rfl,k0,3,rfl,get_more hh,⟨by decide,by decide⟩,fun way w0 w1=>?_⟩
  refine ⟨_,rfl,k0,24,rfl,get_more hh,⟨by decide,by decide⟩,fun a0 a1 a2=>?_⟩
  obtain ⟨a,rfl⟩:∃ a:Nat,a0=a:=⟨a0.toNat,by omega⟩
  have ha:a < 24:=by omega
  have ga:=gL a ha
  have atL:L2.atI (L.map pD) (a:Int)=some (pD L[a]):=atI_map (f:=pD) (as:=L) (j:=a) rfl (by omega)
  have gp:(L.map pD)[a]?=some (pD L[a]):=by rw [List.getElem?_map,List.getElem?_eq_getElem (by omega)]; rfl
  have sp:=split_at (L:=L) (j:=a) (by omega)
  have hLa:L[a]∈L:=List.getElem_mem _
  have frs:Free (L.take a++L[a]::L.drop (a + 1)):=by rw [<- sp]; exact fr
  have lT:(L.take a).length=a:=by rw [List.length_take]; omega
  have lD:(L.drop (a + 1)).length=24 - (a + 1):=by rw [List.length_drop,lL]
  have mo:∀ q∈L.take a++L.drop (a + 1),q∈L:=fun q hq=>by
   rcases List.mem_append.mp hq with z | z
   ·exact List.mem_of_mem_take z
   ·exact List.mem_of_mem_drop z
  refine g_nx ?_
  dsimp only
  refine st_by (fun ρ' M'=>∃ O:List Pr,ρ'=[some (.cell k0),some (.int b),some (.lst (ss.map .int)),some (.lst (L.map pD)),some (.cell M.length),some (.int way),some (.int a),none,none]/\M++[.lst (O.map pD)]=M'/\(way=1->O=L.take a++L.drop (a + 1))/\(way≠1->O=L)) (fun Kn hn=>?_) ?_
  ·refine ⟨_,rfl,.inl ⟨_,rfl,_,rfl,ite2 (fun h=>?_) (fun h=>?_)⟩⟩
   ·refine ⟨_,rfl,(by rw [ls_last]; exact fun z=>(nomatch z)),_,rfl,M.length,L.map pD,a,pD L[a],rfl,rfl,by simp,gp,by omega,hn _ _ ⟨L.take a++L.drop (a + 1),rfl,?_,fun _=>rfl,fun z=>absurd (of_decide_eq_true h) z⟩⟩
    rw [set_last,List.eraseIdx_eq_take_drop_succ,<- List.map_take,<- List.map_drop,<- List.map_append]
   ·exact hn _ _ ⟨L,rfl,rfl,fun z=>absurd (decide_eq_true z) h,fun _=>rfl⟩
  rintro _ _ ⟨O,rfl,rfl,o1,o2⟩
  refine st_by (fun ρ' M'=>∃ O:List Pr,ρ'=[some (.cell k0),some (.int b),some (.lst (ss.map .int)),some (.lst (L.map pD)),some (.cell M.length),some (.int way),some (.int a),none,none]/\M++[.lst (O.map pD)]=M'/\(way=0->O=L)/\(way≠0->∃ Ms:List Pr,Ms.length<=1/\(∀ m∈Ms,m.2=L[a].2/\m.1=ss[24])/\O=L.take a++Ms++L.drop (a + 1))) (fun Kn hn=>?_) ?_
  ·refine ⟨_,rfl,.inl ⟨_,rfl,_,rfl,ite2 (fun h=>?_) (fun h=>?_)⟩⟩
   ·have h:way=2:=of_decide_eq_true h
    rw [o2 (by omega)]
    refine ⟨_,rfl,_,_,_,rfl,rfl,atI_map (as:=ss) (j:=24) rfl (by omega),_,rfl,_,rfl,_,_,_,rfl,rfl,atL,_,_,_,rfl,rfl,rfl,(show 2<=sizeLine by decide),_,rfl,_,rfl,M.length,L.map pD,(a:Int),a,rfl,rfl,(by simp),?_,hn _ _ ⟨L.take a++[(ss[24],L[a].2)]++L.drop (a + 1),rfl,?_,fun z=>by omega,fun _=>⟨[(ss[24],L[a].2)],by show 1<=1; decide,fun m hm=>by rw [List.mem_singleton.mp hm]; exact ⟨rfl,rfl⟩,rfl⟩⟩⟩
    ·rw [lm]; unfold ixN; rw [if_pos (by omega),if_pos (by omega),Int.toNat_natCast]
    ·rw [set_last,List.set_eq_take_append_cons_drop,if_pos (by omega),<- List.map_take,<- List.map_drop,List.append_assoc,List.map_append]
     rfl
   ·have h:way≠2:=fun z=>h (decide_eq_true z)
    refine hn _ _ ⟨O,rfl,rfl,fun z=>o2 (by omega),fun z=>⟨[],by decide,(fun _ z=>nomatch z),?_⟩⟩
    rw [o1 (by omega),List.append_nil]
  rintro _ _ ⟨O,rfl,rfl,z0,z1⟩
  obtain ⟨frO,fiO⟩:Free O/\Fits O:=by
   by_cases hw:way=0
   ·rw [z0 hw]; exact ⟨fr,fi⟩
   ·obtain ⟨Ms,l1,hm,e⟩:=z1 hw
    refine ⟨?_,?_,fun p hp=>?_⟩
    ·rw [e]
     refine free_mid frs (fun m hm' q hq ap=>?_) ?_
     ·have:=hm m hm'
      refine ⟨?_,by rw [this.1]; exact ap.2.1,by rw [this.1]; exact ap.2.2⟩
      rw [this.2]; exact sg q (mo q hq)
     ·cases Ms with
      | nil=>exact .nil
      | cons m r =>
       cases r with
       | nil=>exact List.pairwise_singleton _ _
       | cons _ _=>simp at l1
    ·rw [e,List.length_append,List.length_append]; omega
    ·rw [e] at hp
     rcases List.mem_append.mp hp with z | z
     ·rcases List.mem_append.mp z with z | z
      ·exact fi.2 p (List.mem_of_mem_take z)
      ·rw [(hm p z).1]; exact fi.2 _ hLa
     ·exact fi.2 p (List.mem_of_mem_drop z)
  have tell:∀ (S T:List Pr) (o:Option (List Int)) (N:Mem) (Kc:K3),(S.Perm L/\T.Perm O\/S.Perm O/\T.Perm L)->(o=if way=0 then none else some L[a].2)->N[k2]?=some (.tab P2 telP telQ)->(o=none->Kc .non N)->(∀ t,o=some t->Kc (.cell N.length) (N++[.lst (t.map .int)]))->dTelling P2 telP telQ [.code S,.code T] N Kc:=fun S T o N Kc pm eo hN c1 c2=>by
   have sn:∀ {X Y:List Pr},X.Perm Y->Free Y->(X.map (·.1)).Nodup:=fun {X Y} p f=>List.pairwise_map.mpr ((f.perm p).imp fun z=>z.1)
   have us:(way=0->unsh S T++unsh T S=[])/\(way≠0->unsh S T++unsh T S≠[]/\keyMin (unsh S T++unsh T S)=L[a].2):=by
    refine ⟨fun z=>?_,fun z=>?_⟩
    ·have:S.Perm T:=by
      rw [z0 z] at pm
      rcases pm with ⟨p,q⟩ | ⟨p,q⟩ <;> exact p.trans q.symm
     rw [unsh_self this,unsh_self this.symm]; rfl
    ·obtain ⟨Ms,l1,hm,e⟩:=z1 z
     have hm2:∀ m∈Ms,m.2=L[a].2/\m∉L.take a++L[a]::L.drop (a + 1):=fun m h=>⟨(hm m h).1,fun y=>by rw [<- sp] at y; exact sg m y (hm m h).2⟩
     rcases pm with ⟨p,q⟩ | ⟨p,q⟩
     ·exact near_us frs hm2 (by rw [<- sp]; exact p) (by rw [<- e]; exact q)
     ·have:=near_us frs hm2 (S:=T) (T:=S) (by rw [<- sp]; exact q) (by rw [<- e]; exact p)
      obtain ⟨n2,e2⟩:=keyMin_congr this.1 unsh_flip
      exact ⟨n2,by rw [<- e2]; exact this.2⟩
   have lO:O.length < 64:=fiO.1
   refine ⟨k2,S,T,rfl,hN,?_,fun z=>?_,fun z=>?_⟩
   ·rcases pm with ⟨p,q⟩ | ⟨p,q⟩
    ·exact ⟨sn p fr,sn q frO,by rw [p.length_eq]; omega,by rw [q.length_eq]; omega⟩
    ·exact ⟨sn p frO,sn q fr,by rw [p.length_eq]; omega,by rw [q.length_eq]; omega⟩
   ·refine c1 ?_
    rw [eo,if_pos]
    refine Classical.byContradiction fun y=>(us.2 y).1 z
   ·have hw:way≠0:=fun y=>z (us.1 y)
    rw [(us.2 hw).2]
    exact c2 _ (by rw [eo,if_neg hw])
  obtain ⟨o,eo⟩:∃ o:Option (List Int),o=if way=0 then none else some L[a].2:=⟨_,rfl⟩
  refine ⟨_,rfl,_,rfl,_,_,_,rfl,rfl,atL,_,_,_,rfl,rfl,rfl,_,_,rfl,rfl,(show 2<=sizeLine by decide),_,rfl,_,_,rfl,rfl,_,_,rfl,rfl,?_⟩
  have atD:∀ e:Int,(e=if decide (way > 0)=true then 1 else 0)->L2.atI [D.non,D.lst (L[a].2.map .int)] e=some (oT o):=fun e he=>by
   rw [he,eo]
   by_cases hw:way=0
   ·rw [decide_eq_false (by omega),if_neg (by decide),if_pos hw]; rfl
   ·rw [decide_eq_true (by omega),if_pos rfl,if_neg hw]; rfl
  refine ⟨_,_,_,rfl,rfl,atD _ ?_,?_⟩
  ·rfl
  refine ⟨_,rfl,k1,_,L,get_more h1,rfl,rfl,⟨fr,fi⟩,fun S pm ri=>?_⟩
  refine ⟨_,rfl,_,rfl,_,rfl,rfl,_,lst_last,?_⟩
  rw [<- List.map_reverse]
  refine ⟨k1,_,O.reverse,get_more h1,rfl,rfl,⟨frO.rev,by rw [List.length_reverse]; exact fiO.1,fun p hp=>fiO.2 p (List.mem_reverse.mp hp)⟩,fun T pm2 ri2=>⟨(show 2<=sizeLine by decide),?_⟩⟩
  have pm2:T.Perm O:=pm2.trans (List.reverse_perm O)
  have lw:∀ t,o=some t->t.length<=100:=fun t e=>by
   rw [eo] at e
   by_cases hw:way=0
   ·rw [if_pos hw] at e; cases e
   ·rw [if_neg hw] at e
    cases e
    exact Nat.le_trans (fi.2 _ hLa).2 (by decide)
  have same:∀ (N:Mem) (d:D) (Kc:K3),(o=none->d=.non)->(∀ t,o=some t->lsOf N d=some (t.map .int))->Kc (.bl true) N->dSame27 [d,oT o] N Kc:=fun N d Kc c1 c2 c3=>by
   refine ⟨d,o,rfl,?_,c3⟩
   cases e:o with
   | none=>exact c1 e
   | some t=>exact ⟨c2 t e,lw t e⟩
  have fin:∀ N:Mem,M<+:N->Dk M.length Kk (.bl true) N:=fun N p=>dk_drop p hM below_bl k
  refine ⟨_,rfl,_,_,_,rfl,rfl,rfl,_,rfl,_,_,_,rfl,rfl,rfl,?_⟩
  dsimp only [uNil]
  refine tell S T o _ _ (.inl ⟨pm,pm2⟩) eo (get_more h2) (fun e=>?_) (fun t e=>?_)
  ·refine ⟨_,rfl,?_⟩
   dsimp only [uNil]
   refine same _ _ _ (fun _=>rfl) (fun t e2=>by rw [e] at e2; cases e2) ⟨true,rfl,iteT ?_⟩
   refine ⟨_,rfl,_,_,_,rfl,rfl,rfl,_,rfl,_,_,_,rfl,rfl,rfl,?_⟩
   dsimp only [uNil]
   refine tell T S o _ _ (.inr ⟨pm2,pm⟩) eo (get_more h2) (fun e3=>?_) (fun t3 e3=>?_)
   ·refine ⟨_,rfl,?_⟩
    dsimp only [uNil]
    exact same _ _ _ (fun _=>rfl) (fun t2 e2=>by rw [e3] at e2; cases e2) (fin _ (List.prefix_append _ _))
   ·refine ⟨_,rfl,?_⟩
    dsimp only [uNil]
    exact same _ _ _ (fun e2=>by rw [e3] at e2; cases e2) (fun t2 e2=>by rw [e3] at e2; cases e2; exact ls_last) (fin _ ((List.prefix_append _ _).trans (List.prefix_append _ _)))
  ·refine ⟨_,rfl,?_⟩
   dsimp only [uNil]
   refine same _ _ _ (fun e2=>by rw [e] at e2; cases e2) (fun t2 e2=>by rw [e] at e2; cases e2; exact ls_last) ⟨true,rfl,iteT ?_⟩
   refine ⟨_,rfl,_,_,_,rfl,rfl,rfl,_,rfl,_,_,_,rfl,rfl,rfl,?_⟩
   dsimp only [uNil]
   refine tell T S o _ _ (.inr ⟨pm2,pm⟩) eo (get_more (get_more h2)) (fun e3=>?_) (fun t3 e3=>?_)
   ·refine ⟨_,rfl,?_⟩
    dsimp only [uNil]
    exact same _ _ _ (fun _=>rfl) (fun t2 e2=>by rw [e3] at e2; cases e2) (fin _ ((List.prefix_append _ _).trans (List.prefix_append _ _)))
   ·refine ⟨_,rfl,?_⟩
    dsimp only [uNil]
    exact same _ _ _ (fun e2=>by rw [e3] at e2; cases e2) (fun t2 e2=>by rw [e3] at e2; cases e2; exact ls_last) (fin _ (((List.prefix_append _ _).trans (List.prefix_append _ _)).trans (List.prefix_append _ _)))
open L3
abbrev spLaw (K:W.Frag) (Pt P2:Addr):Sp:=L3.spLaw2 K Pt lamP lamQ P2 telP telQ
theorem ok_law (T:Txt mg) {C:Addr} {Pt P2:Addr} (M_Code:Mkr P w K mg base "Code" C 4 ["self", "table"] (L3.spInitN C Pt lamP lamQ)) (C__law_open:Cal P w K mg base "_law_open" 1 ["_law_script", "_law_place"] (L3.spOf ⟨C,K⟩ dOpen)) (C__law_draw:Cal P w K mg base "_law_draw" 1 ["_law_hand", "_law_many"] (L3.spOf ⟨C,K⟩ dDraw)) (C__law_bytes:Cal P w K mg base "_law_bytes" 2 ["_law_hand", "_law_most"] (L3.spOf ⟨C,K⟩ dBytes)) (C__law_words:Cal P w K mg base "_law_words" 2 ["_law_hand", "_law_some", "_law_most", "_law_longest"] (L3.spOf ⟨C,K⟩ dWordsC)) (C__law_signs:Cal P w K mg base "_law_signs" 2 ["_law_hand", "_law_many"] (L3.spOf ⟨C,K⟩ dSigns)) (C__law_table:Cal P w K mg base "_law_table" 2 ["_law_hand", "_law_words_here", "_law_signs_here"] (L3.spOf ⟨C,K⟩ dTableS)) (C__law_near:Cal P w K mg base "_law_near" 4 ["_law_hand", "_law_table_here", "_law_some", "_law_signs_here"] (L3.spOf ⟨C,K⟩ dNear27)) (C__law_due:Cal P w K mg base "_law_due" 4 ["_law_first", "_law_second", "_law_some"] (L3.spOf ⟨C,K⟩ dDue27)) (C__law_same:Cal P w K mg base "_law_same" 1 ["_law_found", "_law_due_here"] (L3.spOf ⟨C,K⟩ dSame27)) (C__law_wide:Cal P w K mg base "_law_wide" 6 ["_law_hand"] (L3.spOf ⟨C,K⟩ (dWide27 Pt lamP lamQ P2 telP telQ))) (C_telling:Cal P w K mg base "telling" 5 ["one", "other"] (L3.spOf ⟨C,K⟩ (dTelling P2 telP telQ))) {f:Addr} {fd:FuncData} (F:Fun K "law" "law" s_law f fd):FnOk P w K mg base CX0 8 f fd ["_law_script"] (L3.spOf ⟨C,K⟩ (dLaw2 Pt lamP lamQ P2 telP telQ)):=by
 refine L3.Fun.ok3 F sc_law (fun ds M K3 h=>?_) (fun cdv A outer s H E hr=>?_)
 ·obtain ⟨ns,rfl,_⟩:=h
  rfl
 ·have SC:=sc_law
  have hu:=hr.units
  have hu1:=hu_of hr
  have hr_Code:Room 5 _:=hr.mono (by first | decide | omega)
  have hr__law_open:Room 1 _:=hr.mono (by first | decide | omega)
  have hr__law_draw:Room 1 _:=hr.mono (by first | decide | omega)
  have hr__law_bytes:Room 2 _:=hr.mono (by first | decide | omega)
  have hr__law_words:Room 2 _:=hr.mono (by first | decide | omega)
  have hr__law_signs:Room 2 _:=hr.mono (by first | decide | omega)
  have hr__law_table:Room 2 _:=hr.mono (by first | decide | omega)
  have hr__law_near:Room 4 _:=hr.mono (by first | decide | omega)
  have hr__law_due:Room 4 _:=hr.mono (by first | decide | omega)
  have hr__law_same:Room 1 _:=hr.mono (by first | decide | omega)
  have hr__law_wide:Room 6 _:=hr.mono (by first | decide | omega)
  have hr_telling:Room 5 _:=hr.mono (by first | decide | omega)
  refine ⟨_,_,(pss_cons (ps_set (i:=1) SC.nd rfl (Or.inl rfl) (pe_cal C__law_open hr__law_open rfl (pa_cons (pv 0) (pa_cons pe_int pa_nil))))
 (pss_cons (ps_if (PW.pt (pw_and (pt_cmpR (L3.ux_eq (K':=K) rfl hu) (pe_cal C__law_draw hr__law_draw rfl (pa_cons (pv 1) (pa_cons pe_int pa_nil))) pe_int (nomark _)) (pw_and1 (pt_not (pt_val (pe_cal C__law_wide hr__law_wide rfl (pa_cons (pv 1) pa_nil)))))))
 (pss_one (ps_ret pe_bl))
 pss_nil)
 (pss_cons (ps_for PassesOwn.never rfl (pi_range1 rfl T.b_range (pa_cons (pe_callB (call_max2 rfl) (by rfl) T.b_max PyProof.Rows.boot_max (pa_cons pe_int (pa_cons (pe_callB (call_min2 rfl) (by rfl) T.b_min PyProof.Rows.boot_min (pa_cons (pe_callB (bk_len (K:=K) rfl) (by rfl) T.b_len PySem.boot_len (pa_cons (pv 0) pa_nil)) (pa_cons pe_int pa_nil))) pa_nil))) pa_nil)) (pg_name (i:=2) SC.nd rfl (Or.inl rfl))
 (pss_cons (ps_set (i:=1) SC.nd rfl (Or.inl rfl) (pe_cal C__law_open hr__law_open rfl (pa_cons (pv 0) (pa_cons (pv 2) pa_nil))))
 (pss_cons (ps_set (i:=3) SC.nd rfl (Or.inl rfl) (pe_cal C__law_bytes hr__law_bytes rfl (pa_cons (pv 1) (pa_cons pe_int pa_nil))))
 (pss_cons (ps_set (i:=4) SC.nd rfl (Or.inl rfl) (pe_cal C__law_signs hr__law_signs rfl (pa_cons (pv 1) (pa_cons pe_int pa_nil))))
 (pss_cons (ps_set (i:=5) SC.nd rfl (Or.inl rfl) (pe_ix (L3.ux_ix (K':=K) rfl) (pe_lst (pa_cons pe_int (pa_cons pe_int pa_nil))) (pe_cal C__law_draw hr__law_draw rfl (pa_cons (pv 1) (pa_cons pe_int pa_nil))) (fun _ _=>rfl)))
 (pss_cons (ps_set (i:=6) SC.nd rfl (Or.inl rfl) (pe_cal C__law_table hr__law_table rfl (pa_cons (pv 1) (pa_cons (pe_cal C__law_words hr__law_words rfl (pa_cons (pv 1) (pa_cons (pv 3) (pa_cons (pv 5) (pa_cons (pe_op (L3.ux_add (K':=K) rfl) pe_int (pe_op op_fdiv (pv 5) pe_int)) pa_nil))))) (pa_cons (pe_slice (L3.ux_sl (K':=K) rfl) (pv 4) po_none (po_some pe_int)) pa_nil)))))
 (pss_cons (ps_set (i:=7) SC.nd rfl (Or.inl rfl) (pe_cal C__law_table hr__law_table rfl (pa_cons (pv 1) (pa_cons (pe_comp (T:=["_law_pair"]) (cs:=[]) rfl (CScope.ok (by kernel_rfl)) (pi_list (pv 6)) (fun _ _ _ _=>(pg_name (i:=0) (nd_of (by kernel_rfl)) rfl (Or.inl rfl) (Or.inr rfl))) (fun _ _ _ _=>pts_nil) (fun _ _ _ _=>(pe_ix (L3.ux_ix (K':=K) rfl) (pv 0) pe_int (fun _ _=>rfl))) (gk_name (by decide))) (pa_cons (pe_slice (L3.ux_sl (K':=K) rfl) (pv 4) po_none (po_some pe_int)) pa_nil)))))
 (pss_cons (ps_set (i:=8) SC.nd rfl (Or.inl rfl) (pe_cal C__law_draw hr__law_draw rfl (pa_cons (pv 1) (pa_cons pe_int pa_nil))))
 (pss_cons (ps_if (pt_cmpR (L3.ux_eq (K':=K) rfl hu) (pv 8) pe_int (nomark _))
 (pss_one (ps_set (i:=7) SC.nd rfl (Or.inl rfl) (pe_cal C__law_table hr__law_table rfl (pa_cons (pv 1) (pa_cons (pe_cal C__law_words hr__law_words rfl (pa_cons (pv 1) (pa_cons (pv 3) (pa_cons (pv 5) (pa_cons (pe_op (L3.ux_add (K':=K) rfl) pe_int (pe_op op_fdiv (pv 5) pe_int)) pa_nil))))) (pa_cons (pe_slice (L3.ux_sl (K':=K) rfl) (pv 4) po_none (po_some pe_int)) pa_nil))))))
 pss_nil)
 (pss_cons (ps_if (pt_cmpR (L3.ux_eq (K':=K) rfl hu) (pv 8) pe_int (nomark _))
 (pss_one (ps_set (i:=7) SC.nd rfl (Or.inl rfl) (pe_cal C__law_near hr__law_near rfl (pa_cons (pv 1) (pa_cons (pv 6) (pa_cons (pv 3) (pa_cons (pv 4) pa_nil)))))))
 pss_nil)
 (pss_cons (ps_set (i:=9) SC.nd rfl (Or.inl rfl) (pe_lst (pa_cons (pe_mk M_Code hr_Code rfl (pa_cons (pe_callTy (bk_list (K:=K) rfl) (by rfl) T.b_list PyProof.Rows.boot_list (pa_cons (pv 6) pa_nil)) pa_nil)) (pa_cons (pe_mk M_Code hr_Code rfl (pa_cons (pe_callTy (bk_list (K:=K) rfl) (by rfl) T.b_list PyProof.Rows.boot_list (pa_cons (pv 7) pa_nil)) pa_nil)) pa_nil))))
 (pss_cons (ps_set (i:=10) SC.nd rfl (Or.inl rfl) (pe_cal C__law_due hr__law_due rfl (pa_cons (pv 6) (pa_cons (pv 7) (pa_cons (pv 3) pa_nil)))))
 (pss_cons (ps_set (i:=11) SC.nd rfl (Or.inl rfl) (pe_cal C_telling hr_telling rfl (pa_cons (pe_ix (L3.ux_ix (K':=K) rfl) (pv 9) pe_int (fun _ _=>rfl)) (pa_cons (pe_ix (L3.ux_ix (K':=K) rfl) (pv 9) pe_int (fun _ _=>rfl)) pa_nil))))
 (pss_cons (ps_if (PW.pt (pw_or (pt_not (pt_val (pe_cal C__law_same hr__law_same rfl (pa_cons (pv 11) (pa_cons (pv 10) pa_nil))))) (pw_or1 (pt_not (pt_val (pe_cal C__law_same hr__law_same rfl (pa_cons (pe_cal C_telling hr_telling rfl (pa_cons (pe_ix (L3.ux_ix (K':=K) rfl) (pv 9) pe_int (fun _ _=>rfl)) (pa_cons (pe_ix (L3.ux_ix (K':=K) rfl) (pv 9) pe_int (fun _ _=>rfl)) pa_nil))) (pa_cons (pv 10) pa_nil))))))))
 (pss_one (ps_ret pe_bl))
 pss_nil)
 (pss_cons (ps_if (pt_cmp (pc_notN (pv 11)))
 (pss_one (ps_expr (pe_bm PySem.F.plainAttrs_list PySem.F.slot_list_append PySem.F.type_list_append mt_append (pv 11) (pa_cons pe_int pa_nil))))
 pss_nil)
 (pss_one (ps_if (PW.pt (pw_or (pt_not (pt_val (pe_cal C__law_same hr__law_same rfl (pa_cons (pe_cal C_telling hr_telling rfl (pa_cons (pe_ix (L3.ux_ix (K':=K) rfl) (pv 9) pe_int (fun _ _=>rfl)) (pa_cons (pe_ix (L3.ux_ix (K':=K) rfl) (pv 9) pe_int (fun _ _=>rfl)) pa_nil))) (pa_cons (pv 10) pa_nil))))) (pw_or1 (pt_cmp (pc_notN (pe_cal C_telling hr_telling rfl (pa_cons (pe_ix (L3.ux_ix (K':=K) rfl) (pv 9) pe_int (fun _ _=>rfl)) (pa_cons (pe_ix (L3.ux_ix (K':=K) rfl) (pv 9) pe_int (fun _ _=>rfl)) pa_nil))))))))
 (pss_one (ps_ret pe_bl))
 pss_nil)))))))))))))))))
 (pss_one (ps_ret pe_bl))))),fun _=>(L3.s_seq (L3.s_asg (L3.s_call (L3.s_cons (L3.s_var 0) (L3.s_cons L3.s_int L3.s_nil))) (L3.s_g 1))
 (L3.s_seq (L3.s_ifS (L3.s_and (L3.s_test (L3.s_op L3.s_eq (L3.s_call (L3.s_cons (L3.s_var 1) (L3.s_cons L3.s_int L3.s_nil))) L3.s_int)) (L3.s_not (L3.s_b (L3.s_call (L3.s_cons (L3.s_var 1) L3.s_nil)))))
 (L3.s_ret L3.s_bl)
 L3.s_next)
 (L3.s_seq (L3.s_for (L3.s_ir1 (L3.s_cons (L3.s_cb L3.s_max2 (L3.s_cons L3.s_int (L3.s_cons (L3.s_cb L3.s_min2 (L3.s_cons (L3.s_cb L3.s_len (L3.s_cons (L3.s_var 0) L3.s_nil)) (L3.s_cons L3.s_int L3.s_nil))) L3.s_nil))) L3.s_nil)) (L3.s_g 2)
 (L3.s_seq (L3.s_asg (L3.s_call (L3.s_cons (L3.s_var 0) (L3.s_cons (L3.s_var 2) L3.s_nil))) (L3.s_g 1))
 (L3.s_seq (L3.s_asg (L3.s_call (L3.s_cons (L3.s_var 1) (L3.s_cons L3.s_int L3.s_nil))) (L3.s_g 3))
 (L3.s_seq (L3.s_asg (L3.s_call (L3.s_cons (L3.s_var 1) (L3.s_cons L3.s_int L3.s_nil))) (L3.s_g 4))
 (L3.s_seq (L3.s_asg (L3.s_op L3.s_ix (L3.s_lst (L3.s_cons L3.s_int (L3.s_cons L3.s_int L3.s_nil))) (L3.s_call (L3.s_cons (L3.s_var 1) (L3.s_cons L3.s_int L3.s_nil)))) (L3.s_g 5))
 (L3.s_seq (L3.s_asg (L3.s_call (L3.s_cons (L3.s_var 1) (L3.s_cons (L3.s_call (L3.s_cons (L3.s_var 1) (L3.s_cons (L3.s_var 3) (L3.s_cons (L3.s_var 5) (L3.s_cons (L3.s_op L3.s_add L3.s_int (L3.s_op L3.s_fdiv (L3.s_var 5) L3.s_int)) L3.s_nil))))) (L3.s_cons (L3.s_sl L3.s_sl3 (L3.s_var 4) L3.s_noPart (L3.s_part L3.s_int)) L3.s_nil)))) (L3.s_g 6))
 (L3.s_seq (L3.s_asg (L3.s_call (L3.s_cons (L3.s_var 1) (L3.s_cons (L3.s_comp (L3.s_il (L3.s_var 6)) (L3.s_g 0) L3.s_true (L3.s_op L3.s_ix (L3.s_var 0) L3.s_int)) (L3.s_cons (L3.s_sl L3.s_sl3 (L3.s_var 4) L3.s_noPart (L3.s_part L3.s_int)) L3.s_nil)))) (L3.s_g 7))
 (L3.s_seq (L3.s_asg (L3.s_call (L3.s_cons (L3.s_var 1) (L3.s_cons L3.s_int L3.s_nil))) (L3.s_g 8))
 (L3.s_seq (L3.s_ifS (L3.s_test (L3.s_op L3.s_eq (L3.s_var 8) L3.s_int))
 (L3.s_asg (L3.s_call (L3.s_cons (L3.s_var 1) (L3.s_cons (L3.s_call (L3.s_cons (L3.s_var 1) (L3.s_cons (L3.s_var 3) (L3.s_cons (L3.s_var 5) (L3.s_cons (L3.s_op L3.s_add L3.s_int (L3.s_op L3.s_fdiv (L3.s_var 5) L3.s_int)) L3.s_nil))))) (L3.s_cons (L3.s_sl L3.s_sl3 (L3.s_var 4) L3.s_noPart (L3.s_part L3.s_int)) L3.s_nil)))) (L3.s_g 7))
 L3.s_next)
 (L3.s_seq (L3.s_ifS (L3.s_test (L3.s_op L3.s_eq (L3.s_var 8) L3.s_int))
 (L3.s_asg (L3.s_call (L3.s_cons (L3.s_var 1) (L3.s_cons (L3.s_var 6) (L3.s_cons (L3.s_var 3) (L3.s_cons (L3.s_var 4) L3.s_nil))))) (L3.s_g 7))
 L3.s_next)
 (L3.s_seq (L3.s_asg (L3.s_lst (L3.s_cons (L3.s_mkCode (L3.s_cons (L3.s_cb L3.s_list (L3.s_cons (L3.s_var 6) L3.s_nil)) L3.s_nil)) (L3.s_cons (L3.s_mkCode (L3.s_cons (L3.s_cb L3.s_list (L3.s_cons (L3.s_var 7) L3.s_nil)) L3.s_nil)) L3.s_nil))) (L3.s_g 9))
 (L3.s_seq (L3.s_asg (L3.s_call (L3.s_cons (L3.s_var 6) (L3.s_cons (L3.s_var 7) (L3.s_cons (L3.s_var 3) L3.s_nil)))) (L3.s_g 10))
 (L3.s_seq (L3.s_asg (L3.s_call (L3.s_cons (L3.s_op L3.s_ix (L3.s_var 9) L3.s_int) (L3.s_cons (L3.s_op L3.s_ix (L3.s_var 9) L3.s_int) L3.s_nil))) (L3.s_g 11))
 (L3.s_seq (L3.s_ifS (L3.s_or (L3.s_not (L3.s_b (L3.s_call (L3.s_cons (L3.s_var 11) (L3.s_cons (L3.s_var 10) L3.s_nil))))) (L3.s_not (L3.s_b (L3.s_call (L3.s_cons (L3.s_call (L3.s_cons (L3.s_op L3.s_ix (L3.s_var 9) L3.s_int) (L3.s_cons (L3.s_op L3.s_ix (L3.s_var 9) L3.s_int) L3.s_nil))) (L3.s_cons (L3.s_var 10) L3.s_nil))))))
 (L3.s_ret L3.s_bl)
 L3.s_next)
 (L3.s_seq (L3.s_ifS (L3.s_b (L3.s_notN (L3.s_var 11)))
 (L3.s_drop (L3.s_append (L3.s_var 11) (L3.s_cons L3.s_int L3.s_nil)))
 L3.s_next)
 (L3.s_ifS (L3.s_or (L3.s_not (L3.s_b (L3.s_call (L3.s_cons (L3.s_call (L3.s_cons (L3.s_op L3.s_ix (L3.s_var 9) L3.s_int) (L3.s_cons (L3.s_op L3.s_ix (L3.s_var 9) L3.s_int) L3.s_nil))) (L3.s_cons (L3.s_var 10) L3.s_nil))))) (L3.s_b (L3.s_notN (L3.s_call (L3.s_cons (L3.s_op L3.s_ix (L3.s_var 9) L3.s_int) (L3.s_cons (L3.s_op L3.s_ix (L3.s_var 9) L3.s_int) L3.s_nil))))))
 (L3.s_ret L3.s_bl)
 L3.s_next))))))))))))))))
 (L3.s_ret L3.s_bl)))),fun ds M Kk hM hD h=>?_⟩
  obtain ⟨ns,rfl,h⟩:=h
  obtain ⟨rfl,hlen,k⟩:=h
  have lns:(ns.map D.int).length=ns.length:=List.length_map _
  refine ⟨_,rfl,ns,40,rfl,⟨hlen,by decide,by decide⟩,?_⟩
  refine g_nx ?_
  dsimp only
  refine st_by (fun ρ' M'=>ρ'=[some (.frz (ns.map .int)),some (.cell 2),none,none,none,none,none,none,none,none,none,none]/\[.tab Pt lamP lamQ,.tab P2 telP telQ,.hand]=M') (fun Kn hn=>?_) ?_
  ·refine ⟨_,rfl,2,8,rfl,rfl,⟨by decide,by decide⟩,fun q q0 q1=>.inl ⟨_,rfl,_,rfl,ite2 (fun h=>?_) (fun h=>?_)⟩⟩
   ·exact ⟨_,rfl,0,1,2,rfl,rfl,rfl,rfl,_,rfl,iteF (hn _ _ ⟨rfl,rfl⟩)⟩
   ·exact iteF (hn _ _ ⟨rfl,rfl⟩)
  rintro _ _ ⟨rfl,rfl⟩
  refine ⟨_,rfl,_,rfl,_,_,rfl,_,_,rfl,_,rfl,?_,?_⟩
  ·rw [lns]
   constructor <;> (split <;> (try split) <;> omega)
  refine ⟨fun i ρ M'=>∃ v1 v2 v3 v4 v5 v6 v7 v8 v9 v10 v11:Option D,ρ=[some (.frz (ns.map .int)),v1,v2,v3,v4,v5,v6,v7,v8,v9,v10,v11]/\M'[0]?=some (.tab Pt lamP lamQ)/\M'[1]?=some (.tab P2 telP telQ),fun _ _ _ _ _=>trivial,⟨_,_,_,_,_,_,_,_,_,_,_,rfl,rfl,rfl⟩,?_,?_⟩
  ·rintro i x ρ M0 hi rfl ⟨v1,v2,v3,v4,v5,v6,v7,v8,v9,v10,v11,rfl,g1,g2⟩
   have hb:i < 63:=by
    have h1:i < _:=hi
    rw [lns] at h1
    revert h1
    show i < Int.toNat _->_
    split <;> (try split) <;> omega
   refine ⟨_,rfl,_,rfl,ns,_,rfl,⟨hlen,by omega,by omega⟩,?_⟩
   have hh:(M0++[MO.hand])[M0.length]?=some .hand:=by simp
   have g1:(M0++[MO.hand])[0]?=some (.tab Pt lamP lamQ):=get_more g1
   have g2:(M0++[MO.hand])[1]?=some (.tab P2 telP telQ):=get_more g2
   have l2:2<=(M0++[MO.hand]).length:=(List.getElem?_eq_some_iff.mp g2).1
   generalize M0.length=hd at hh
   generalize M0++[MO.hand]=M1 at hh g1 g2 l2
   refine ⟨_,rfl,hd,3,rfl,hh,⟨by decide,by decide⟩,fun bs nd b2 b3 bb=>?_⟩
   refine ⟨_,rfl,hd,22,rfl,hh,⟨by decide,by decide⟩,fun ss nds ls=>?_⟩
   have ls:ss.length=22:=by omega
   refine ⟨(show 2<=sizeLine by decide),_,rfl,hd,2,rfl,hh,⟨by decide,by decide⟩,fun r r0 r1=>?_⟩
   obtain ⟨m,em,hm⟩:∃ m:Int,L2.atI [D.int 3,D.int 6] r=some (.int m)/\(m=3\/m=6):=by
    rcases (show r=0\/r=1 by omega) with z | z
    ·exact ⟨3,by rw [z]; rfl,.inl rfl⟩
    ·exact ⟨6,by rw [z]; rfl,.inr rfl⟩
   refine ⟨_,_,_,rfl,rfl,em,?_⟩
   have bne:bs≠[]:=fun z=>by rw [z] at b2; simp at b2
   have ml:1<=3 + m / 6/\3 + m / 6<=4:=by omega
   have cA:cut (ss.map D.int) none (some 20)=(ss.take 20).map .int:=by rw [show (20:Int)=((20:Nat):Int) from rfl,cut_toG,List.map_take]
   have nd20:(ss.take 20).Nodup:=nds.sublist (List.take_sublist _ _)
   have l20:(ss.take 20).length=20:=by rw [List.length_take]; omega
   have wl:∀ n:Nat,(n:Int)<=bs.length + m * (bs.length - 1)->n<=15:=fun n h=>by
    have b3:(bs.length:Int)<=3:=b3
    rcases hm with z | z <;> (subst z; omega)
   refine ⟨_,rfl,_,rfl,_,rfl,_,rfl,_,rfl,_,_,rfl,rfl,⟨by decide,by decide⟩,hd,bs,m,3 + m / 6,rfl,hh,⟨nd,bne,by omega,by omega,by omega,ml.1,ml.2⟩,fun ws wo wb wn=>?_⟩
   have wn:=wl _ wn
   refine ⟨_,rfl,_,rfl,?_⟩
   refine sl_ls (d:=.lst (ss.map .int)) rfl ?_
   rw [cA]
   refine ⟨hd,ws,ss.take 20,rfl,hh,⟨wo,by omega,nd20,by omega,by omega⟩,fun L fr fi pm sg=>?_⟩
   have lL:L.length<=15:=by have:=pm.length_eq; rw [List.length_map] at this; omega
   have lmL:(L.map pD).length=L.length:=List.length_map _
   have byL:∀ p∈L,∀ b∈p.2,b∈bs:=fun p hp=>wb _ (pm.mem_iff.mp (List.mem_map.mpr ⟨p,hp,rfl⟩))
   refine ⟨_,rfl,_,rfl,_,rfl,?_,fun j ys M'=>M1=M'/\ys=((L.take j).map (·.2)).map wD,fun _ _ _ _ h=>(by rw [<- h.1]; rfl),⟨rfl,rfl⟩,?_,?_⟩
   ·show (L.map pD).length<=sizeLine
    rw [lmL]; exact small_line (by omega)
   ·rintro j x ys _ hj hx ⟨rfl,rfl⟩
    obtain ⟨hj',rfl⟩:=item_map hx
    refine ⟨_,rfl,_,_,_,rfl,rfl,rfl,rfl,?_⟩
    rw [List.take_succ_eq_append_getElem hj',List.map_append,List.map_append]
    rfl
   rintro ys _ ⟨rfl,rfl⟩
   have eL:L.take (L.map pD).length=L:=by rw [lmL,List.take_length]
   rw [show List.take _ L=L from eL]
   have wo2:WOk (L.map (·.2)):=⟨List.pairwise_map.mpr (fr.imp fun z=>⟨z.2.1,z.2.2⟩),fun w hw=>by
    obtain ⟨p,hp,rfl⟩:=List.mem_map.mp hw
    exact fi.2 p hp⟩
   refine ⟨_,rfl,_,rfl,?_⟩
   refine sl_ls (d:=.lst (ss.map .int)) rfl ?_
   rw [cA]
   refine ⟨hd,L.map (·.2),ss.take 20,rfl,hh,⟨wo2,by rw [List.length_map]; omega,nd20,by rw [List.length_map]; omega,by omega⟩,fun T frT fiT pmT _=>?_⟩
   have byT:∀ p∈T,∀ b∈p.2,b∈bs:=fun p hp=>by
    obtain ⟨q,hq,e⟩:=List.mem_map.mp (pmT.mem_iff.mp (List.mem_map.mpr ⟨p,hp,rfl⟩))
    rw [<- e]; exact byL q hq
   refine ⟨_,rfl,hd,3,rfl,hh,⟨by decide,by decide⟩,fun way y0 y1=>?_⟩
   refine g_nx ?_
   dsimp only
   refine st_by (fun ρ' M'=>∃ T:List Pr,ρ'=[some (.frz (ns.map .int)),some (.cell hd),some (.int (0 + (i:Int))),some (.lst (bs.map .int)),some (.lst (ss.map .int)),some (.int m),some (.lst (L.map pD)),some (.lst (T.map pD)),some (.int way),v9,v10,v11]/\M1=M'/\Free T/\Fits T/\∀ p∈T,∀ b∈p.2,b∈bs) (fun Kn hn=>?_) ?_
   ·refine ⟨_,rfl,.inl ⟨_,rfl,_,rfl,ite2 (fun h=>?_) (fun h=>hn _ _ ⟨T,rfl,rfl,frT,fiT,byT⟩)⟩⟩
    refine ⟨_,rfl,_,rfl,_,rfl,_,rfl,_,rfl,_,_,rfl,rfl,⟨by decide,by decide⟩,hd,bs,m,3 + m / 6,rfl,hh,⟨nd,bne,by omega,by omega,by omega,ml.1,ml.2⟩,fun ws wo wb wn=>?_⟩
    have wn:=wl _ wn
    refine ⟨_,rfl,_,rfl,?_⟩
    refine sl_ls (d:=.lst (ss.map .int)) rfl ?_
    rw [cA]
    refine ⟨hd,ws,ss.take 20,rfl,hh,⟨wo,by omega,nd20,by omega,by omega⟩,fun T fr fi pm sg=>?_⟩
    exact hn _ _ ⟨T,rfl,rfl,fr,fi,fun p hp=>wb _ (pm.mem_iff.mp (List.mem_map.mpr ⟨p,hp,rfl⟩))⟩
   rintro _ _ ⟨T,rfl,rfl,frT,fiT,byT⟩
   refine st_by (fun ρ' M'=>∃ T:List Pr,ρ'=[some (.frz (ns.map .int)),some (.cell hd),some (.int (0 + (i:Int))),some (.lst (bs.map .int)),some (.lst (ss.map .int)),some (.int m),some (.lst (L.map pD)),some (.lst (T.map pD)),some (.int way),v9,v10,v11]/\M1=M'/\Free T/\Fits T/\∀ p∈T,∀ b∈p.2,b∈bs) (fun Kn hn=>?_) ?_
   ·refine ⟨_,rfl,.inl ⟨_,rfl,_,rfl,ite2 (fun h=>?_) (fun h=>hn _ _ ⟨T,rfl,rfl,frT,fiT,byT⟩)⟩⟩
    exact ⟨_,rfl,_,rfl,_,rfl,_,rfl,hd,L,bs,ss,rfl,hh,⟨⟨fr,fi,byL,by omega⟩,nd,by omega,nds,ls,sg⟩,fun T2 f1 f2 f3=>hn _ _ ⟨T2,rfl,rfl,f1,f2,f3⟩⟩
   rintro _ _ ⟨T,rfl,rfl,frT,fiT,byT⟩
   refine ⟨_,rfl,_,_,rfl,rfl,0,_,L,g1,rfl,rfl,⟨fr,fi⟩,fun S1 pm1 _=>?_⟩
   refine ⟨_,rfl,_,_,rfl,rfl,0,_,T,g1,rfl,rfl,⟨frT,fiT⟩,fun S2 pm2 _=>⟨(show 2<=sizeLine by decide),?_⟩⟩
   refine ⟨_,rfl,_,rfl,_,rfl,L,T,bs,rfl,⟨⟨fr,fi⟩,⟨frT,fiT⟩,byL,byT,nd,by omega⟩,?_⟩
   obtain ⟨o,eo⟩:∃ o:Option (List Int),o=if unsh L T++unsh T L=[] then none else some (keyMin (unsh L T++unsh T L)):=⟨_,rfl⟩
   have ed:dueD (unsh L T++unsh T L)=oT o:=by
    rw [eo]; unfold dueD
    split <;> rfl
   rw [ed]
   have lo:∀ t,o=some t->t.length<=100:=fun t e=>by
    rw [eo] at e
    split at e
    ·cases e
    ·rename_i hne
     cases e
     have:=keyMin_mem hne
     rcases List.mem_append.mp this with z | z
     ·obtain ⟨p,hp,_,e⟩:=mem_unsh.mp z
      rw [<- e]; exact Nat.le_trans (fi.2 p hp).2 (by decide)
     ·obtain ⟨p,hp,_,e⟩:=mem_unsh.mp z
      rw [<- e]; exact Nat.le_trans (fiT.2 p hp).2 (by decide)
   have sn:∀ {X Y:List Pr},X.Perm Y->Free Y->(X.map (·.1)).Nodup:=fun {X Y} p f=>List.pairwise_map.mpr ((f.perm p).imp fun z=>z.1)
   have lT:T.length < 64:=fiT.1
   have e1:=pm1.length_eq
   have e2:=pm2.length_eq
   have tell:∀ (A B:List Pr) (N:Mem) (Kc:K3),(A=S1/\B=S2\/A=S2/\B=S1)->N[1]?=some (.tab P2 telP telQ)->(o=none->Kc .non N)->(∀ t,o=some t->Kc (.cell N.length) (N++[.lst (t.map .int)]))->dTelling P2 telP telQ [.code A,.code B] N Kc:=fun A B N Kc hab hN c1 c2=>by
    have mm:∀ w,w∈unsh A B++unsh B A↔w∈unsh L T++unsh T L:=fun w=>by
     rcases hab with ⟨rfl,rfl⟩ | ⟨rfl,rfl⟩
     ·exact unsh_two pm1 pm2 w
     ·exact (unsh_two pm2 pm1 w).trans (unsh_flip w)
    refine ⟨1,A,B,rfl,hN,?_,fun z=>?_,fun z=>?_⟩
    ·rcases hab with ⟨rfl,rfl⟩ | ⟨rfl,rfl⟩
     ·exact ⟨sn pm1 fr,sn pm2 frT,by omega,by omega⟩
     ·exact ⟨sn pm2 frT,sn pm1 fr,by omega,by omega⟩
    ·refine c1 ?_
     rw [eo,if_pos]
     refine Classical.byContradiction fun y=>?_
     have:=(mm _).mpr (keyMin_mem y)
     rw [z] at this; cases this
    ·obtain ⟨n2,e2⟩:=keyMin_congr z mm
     rw [e2]
     exact c2 _ (by rw [eo,if_neg n2])
   have same:∀ (N:Mem) (d:D) (Kc:K3),(o=none->d=.non)->(∀ t,o=some t->lsOf N d=some (t.map .int))->Kc (.bl true) N->dSame27 [d,oT o] N Kc:=fun N d Kc c1 c2 c3=>by
    refine ⟨d,o,rfl,?_,c3⟩
    cases e:o with
    | none=>exact c1 e
    | some t=>exact ⟨c2 t e,lo t e⟩
   have self:∀ (N:Mem) (Kc:K3),N[1]?=some (.tab P2 telP telQ)->Kc .non N->dTelling P2 telP telQ [.code S1,.code S1] N Kc:=fun N Kc hN c1=>by
    have z:unsh S1 S1=[]:=unsh_self (List.Perm.refl _)
    refine ⟨1,S1,S1,rfl,hN,⟨sn pm1 fr,sn pm1 fr,by omega,by omega⟩,fun _=>c1,fun y=>?_⟩
    rw [z] at y
    exact absurd rfl y
   refine g_nx ?_
   dsimp only
   refine st_by (fun ρ' N=>∃ d:D,ρ'=[some (.frz (ns.map .int)),some (.cell hd),some (.int (0 + (i:Int))),some (.lst (bs.map .int)),some (.lst (ss.map .int)),some (.int m),some (.lst (L.map pD)),some (.lst (T.map pD)),some (.int way),some (.lst [.code S1,.code S2]),some (oT o),some d]/\(N[0]?=some (.tab Pt lamP lamQ)/\N[1]?=some (.tab P2 telP telQ))/\(o=none->d=.non)/\∀ t,o=some t->∃ c,2<=c/\d=.cell c/\N[c]?=some (.lst (t.map .int))) (fun Kn hn=>?_) ?_
   ·refine ⟨_,rfl,_,_,_,rfl,rfl,rfl,_,rfl,_,_,_,rfl,rfl,rfl,?_⟩
    dsimp only [uNil]
    refine tell S1 S2 M1 _ (.inl ⟨rfl,rfl⟩) g2 (fun e=>?_) (fun t e=>?_)
    ·exact hn _ _ ⟨_,rfl,⟨g1,g2⟩,fun _=>rfl,fun t e2=>by rw [e] at e2; cases e2⟩
    ·exact hn _ _ ⟨_,rfl,⟨get_more g1,get_more g2⟩,(fun e2=>by rw [e] at e2; cases e2),fun t2 e2=>⟨M1.length,l2,rfl,by rw [e] at e2; cases e2; simp⟩⟩
   rintro _ N ⟨d,rfl,⟨g1,g2⟩,d1,d2⟩
   refine st_by (fun ρ' N=>∃ d:D,ρ'=[some (.frz (ns.map .int)),some (.cell hd),some (.int (0 + (i:Int))),some (.lst (bs.map .int)),some (.lst (ss.map .int)),some (.int m),some (.lst (L.map pD)),some (.lst (T.map pD)),some (.int way),some (.lst [.code S1,.code S2]),some (oT o),some d]/\(N[0]?=some (.tab Pt lamP lamQ)/\N[1]?=some (.tab P2 telP telQ))/\(o=none->d=.non)/\∀ t,o=some t->∃ c,2<=c/\d=.cell c/\N[c]?=some (.lst (t.map .int))) (fun Kn hn=>?_) ?_
   ·refine ⟨_,rfl,_,rfl,?_⟩
    dsimp only [uNil]
    refine same _ _ _ d1 (fun t e=>?_) ⟨true,rfl,iteF ?_⟩
    ·obtain ⟨c,_,rfl,hc⟩:=d2 t e
     show (match N[c]? with | some (MO.lst ds)=>some ds | _=>none)=_
     rw [hc]
    refine ⟨_,rfl,_,_,_,rfl,rfl,rfl,_,rfl,_,_,_,rfl,rfl,rfl,?_⟩
    dsimp only [uNil]
    refine tell S2 S1 N _ (.inr ⟨rfl,rfl⟩) g2 (fun e=>?_) (fun t e=>?_)
    ·refine ⟨_,rfl,?_⟩
     dsimp only [uNil]
     refine same _ _ _ (fun _=>rfl) (fun t e2=>by rw [e] at e2; cases e2) ⟨true,rfl,iteF (hn _ _ ⟨d,rfl,⟨g1,g2⟩,d1,d2⟩)⟩
    ·refine ⟨_,rfl,?_⟩
     dsimp only [uNil]
     refine same _ _ _ (fun e2=>by rw [e] at e2; cases e2) (fun t2 e2=>by rw [e] at e2; cases e2; exact ls_last) ⟨true,rfl,iteF (hn _ _ ⟨d,rfl,⟨get_more g1,get_more g2⟩,d1,fun t e=>?_⟩)⟩
     obtain ⟨c,c2,ec,hc⟩:=d2 t e
     exact ⟨c,c2,ec,get_more hc⟩
   rintro _ N ⟨d,rfl,⟨g1,g2⟩,d1,d2⟩
   refine st_by (fun ρ' N=>∃ d:D,ρ'=[some (.frz (ns.map .int)),some (.cell hd),some (.int (0 + (i:Int))),some (.lst (bs.map .int)),some (.lst (ss.map .int)),some (.int m),some (.lst (L.map pD)),some (.lst (T.map pD)),some (.int way),some (.lst [.code S1,.code S2]),some (oT o),some d]/\(N[0]?=some (.tab Pt lamP lamQ)/\N[1]?=some (.tab P2 telP telQ))) (fun Kn hn=>?_) ?_
   ·cases e:o with
    | none =>
     rw [d1 e]
     refine ⟨_,rfl,_,rfl,iteF (hn _ _ ⟨_,by rw [e],⟨g1,g2⟩⟩)⟩
    | some t =>
     obtain ⟨c,c2,rfl,hc⟩:=d2 t e
     refine ⟨_,rfl,_,rfl,iteT ?_⟩
     refine ⟨_,rfl,?_,c,_,_,rfl,rfl,hc,?_,hn _ _ ⟨_,by rw [e],?_⟩⟩
     ·show (match N[c]? with | some (MO.lst ds)=>some ds | _=>none)≠none
      rw [hc]; exact fun z=>nomatch z
     ·rw [List.length_map]
      exact Nat.lt_of_le_of_lt (lo t e) (by decide)
     ·rw [List.getElem?_set_ne (by omega),List.getElem?_set_ne (by omega)]
      exact ⟨g1,g2⟩
   rintro _ N ⟨d,rfl,⟨g1,g2⟩⟩
   refine ⟨_,rfl,_,_,_,rfl,rfl,rfl,_,rfl,_,_,_,rfl,rfl,rfl,?_⟩
   dsimp only [uNil]
   refine tell S1 S2 N _ (.inl ⟨rfl,rfl⟩) g2 (fun e=>?_) (fun t e=>?_)
   ·refine ⟨_,rfl,?_⟩
    dsimp only [uNil]
    refine same _ _ _ (fun _=>rfl) (fun t e2=>by rw [e] at e2; cases e2) ⟨true,rfl,iteF ?_⟩
    refine ⟨_,rfl,_,_,_,rfl,rfl,rfl,_,rfl,_,_,_,rfl,rfl,rfl,?_⟩
    dsimp only [uNil]
    exact self _ _ g2 ⟨_,rfl,iteF (.inl ⟨_,_,_,_,_,_,_,_,_,_,_,rfl,g1,g2⟩)⟩
   ·refine ⟨_,rfl,?_⟩
    dsimp only [uNil]
    refine same _ _ _ (fun e2=>by rw [e] at e2; cases e2) (fun t2 e2=>by rw [e] at e2; cases e2; exact ls_last) ⟨true,rfl,iteF ?_⟩
    refine ⟨_,rfl,_,_,_,rfl,rfl,rfl,_,rfl,_,_,_,rfl,rfl,rfl,?_⟩
    dsimp only [uNil]
    exact self _ _ (get_more g2) ⟨_,rfl,iteF (.inl ⟨_,_,_,_,_,_,_,_,_,_,_,rfl,get_more g1,get_more g2⟩)⟩
  ·rintro ρ M' ⟨v1,v2,v3,v4,v5,v6,v7,v8,v9,v10,v11,rfl,_⟩
   exact .inl (k _)
end
def len1 {τ:Type} {Q:List τ->Prop} (h:∀ a,Q [a]) (us:List τ) (hl:us.length=1):Q us:=match us,hl with | [a],_=>h a
def len2 {τ:Type} {Q:List τ->Prop} (h:∀ a b,Q [a,b]) (us:List τ) (hl:us.length=2):Q us:=match us,hl with | [a,b],_=>h a b
def len3 {τ:Type} {Q:List τ->Prop} (h:∀ a b c,Q [a,b,c]) (us:List τ) (hl:us.length=3):Q us:=match us,hl with | [a,b,c],_=>h a b c
def len4 {τ:Type} {Q:List τ->Prop} (h:∀ a b c d,Q [a,b,c,d]) (us:List τ) (hl:us.length=4):Q us:=match us,hl with | [a,b,c,d],_=>h a b c d
def all_mk {l:W.OpenLaw} {w:World} {K:W.Frag} {h:Heap} {mg:Str->Option Value} {fa:Addr} (X:K.In h) (G:h.Ns mainGlobals mg) (hfa:mg "law"=some (.ref fa))
    {C Pt c P2 cL:Addr}
    {f0:Addr} {od0 an0:Option Addr} {sl0:Array (Option Value)} {oc0 kV0 dc0 pm0 cd0 ct0:Value}
    {f1:Addr} {od1 an1:Option Addr} {sl1:Array (Option Value)} {oc1 kV1 dc1 pm1 cd1 ct1:Value}
    {f2:Addr} {od2 an2:Option Addr} {sl2:Array (Option Value)} {oc2 kV2 dc2 pm2 cd2 ct2:Value}
    {f3:Addr} {od3 an3:Option Addr} {sl3:Array (Option Value)} {oc3 kV3 dc3 pm3 cd3 ct3:Value}
    {f4:Addr} {od4 an4:Option Addr} {sl4:Array (Option Value)} {oc4 kV4 dc4 pm4 cd4 ct4:Value}
    {f5:Addr} {od5 an5:Option Addr} {sl5:Array (Option Value)} {oc5 kV5 dc5 pm5 cd5 ct5:Value}
    {f6:Addr} {od6 an6:Option Addr} {sl6:Array (Option Value)} {oc6 kV6 dc6 pm6 cd6 ct6:Value}
    {f7:Addr} {od7 an7:Option Addr} {sl7:Array (Option Value)} {oc7 kV7 dc7 pm7 cd7 ct7:Value}
    {f8:Addr} {od8 an8:Option Addr} {sl8:Array (Option Value)} {oc8 kV8 dc8 pm8 cd8 ct8:Value}
    {f9:Addr} {od9 an9:Option Addr} {sl9:Array (Option Value)} {oc9 kV9 dc9 pm9  ct9:Value}
    {f10:Addr} {od10 an10:Option Addr} {sl10:Array (Option Value)} {oc10 kV10 dc10 pm10 cd10 ct10:Value}
    {f11:Addr} {od11 an11:Option Addr} {sl11:Array (Option Value)} {oc11 kV11 dc11 pm11 cd11 ct11:Value}
    {f12:Addr} {od12 an12:Option Addr} {sl12:Array (Option Value)} {oc12 kV12 dc12 pm12 cd12 ct12:Value}
    {f13:Addr} {od13 an13:Option Addr} {sl13:Array (Option Value)} {oc13 kV13 dc13 pm13 cd13 ct13:Value}
    {f14:Addr} {od14 an14:Option Addr} {sl14:Array (Option Value)} {oc14 kV14 dc14 pm14  ct14:Value}
    {f15:Addr} {od15 an15:Option Addr} {sl15:Array (Option Value)} {oc15 kV15 dc15 pm15 cd15 ct15:Value}
    {f16:Addr} {od16 an16:Option Addr} {sl16:Array (Option Value)} {oc16 kV16 dc16 pm16 cd16 ct16:Value}
    {f17:Addr} {od17 an17:Option Addr} {sl17:Array (Option Value)} {oc17 kV17 dc17 pm17 cd17 ct17:Value}
    {f18:Addr} {od18 an18:Option Addr} {sl18:Array (Option Value)} {oc18 kV18 dc18 pm18 cd18 ct18:Value}
    {f19:Addr} {od19 an19:Option Addr} {sl19:Array (Option Value)} {oc19 kV19 dc19 pm19 cd19 ct19:Value}
    {f20:Addr} {od20 an20:Option Addr} {sl20:Array (Option Value)} {oc20 kV20 dc20 pm20 cd20 ct20:Value}
    {f21:Addr} {od21 an21:Option Addr} {sl21:Array (Option Value)} {oc21 kV21 dc21 pm21 cd21 ct21:Value}
    {f22:Addr} {od22 an22:Option Addr} {sl22:Array (Option Value)} {oc22 kV22 dc22 pm22 cd22 ct22:Value}
    {f23:Addr} {od23 an23:Option Addr} {sl23:Array (Option Value)} {oc23 kV23 dc23 pm23 cd23 ct23:Value}
    (aC:W.nsIn K mainGlobals "Code"=some (some (.ref C)))
    (a0:W.nsIn K mainGlobals "_law_draw"=some (some (.ref f0)))
    (l0:K.lookup f0=some ⟨oc0,od0,.func (W.fnOf "_law_draw" "_law_draw" (defArgs s__law_draw) (defBody s__law_draw) (defScope s__law_draw) .none kV0 dc0 pm0 an0 cd0 ct0),sl0⟩)
    (c0:W.codeIn K cd0 "_law_draw"=true)
    (k0:W.keepIn K (.ref f0)=true)
    (a1:W.nsIn K mainGlobals "_law_open"=some (some (.ref f1)))
    (l1:K.lookup f1=some ⟨oc1,od1,.func (W.fnOf "_law_open" "_law_open" (defArgs s__law_open) (defBody s__law_open) (defScope s__law_open) .none kV1 dc1 pm1 an1 cd1 ct1),sl1⟩)
    (c1:W.codeIn K cd1 "_law_open"=true)
    (k1:W.keepIn K (.ref f1)=true)
    (a2:W.nsIn K mainGlobals "_law_bytes"=some (some (.ref f2)))
    (l2:K.lookup f2=some ⟨oc2,od2,.func (W.fnOf "_law_bytes" "_law_bytes" (defArgs s__law_bytes) (defBody s__law_bytes) (defScope s__law_bytes) .none kV2 dc2 pm2 an2 cd2 ct2),sl2⟩)
    (c2:W.codeIn K cd2 "_law_bytes"=true)
    (k2:W.keepIn K (.ref f2)=true)
    (a3:W.nsIn K mainGlobals "_law_words"=some (some (.ref f3)))
    (l3:K.lookup f3=some ⟨oc3,od3,.func (W.fnOf "_law_words" "_law_words" (defArgs s__law_words) (defBody s__law_words) (defScope s__law_words) .none kV3 dc3 pm3 an3 cd3 ct3),sl3⟩)
    (c3:W.codeIn K cd3 "_law_words"=true)
    (k3:W.keepIn K (.ref f3)=true)
    (a4:W.nsIn K mainGlobals "_law_signs"=some (some (.ref f4)))
    (l4:K.lookup f4=some ⟨oc4,od4,.func (W.fnOf "_law_signs" "_law_signs" (defArgs s__law_signs) (defBody s__law_signs) (defScope s__law_signs) .none kV4 dc4 pm4 an4 cd4 ct4),sl4⟩)
    (c4:W.codeIn K cd4 "_law_signs"=true)
    (k4:W.keepIn K (.ref f4)=true)
    (a5:W.nsIn K mainGlobals "odds_between"=some (some (.ref f5)))
    (l5:K.lookup f5=some ⟨oc5,od5,.func (W.fnOf "odds_between" "odds_between" (defArgs s_odds_between) (defBody s_odds_between) (defScope s_odds_between) .none kV5 dc5 pm5 an5 cd5 ct5),sl5⟩)
    (c5:W.codeIn K cd5 "odds_between"=true)
    (k5:W.keepIn K (.ref f5)=true)
    (a6:W.nsIn K mainGlobals "fault"=some (some (.ref f6)))
    (l6:K.lookup f6=some ⟨oc6,od6,.func (W.fnOf "fault" "fault" (defArgs s_fault) (defBody s_fault) (defScope s_fault) .none kV6 dc6 pm6 an6 cd6 ct6),sl6⟩)
    (c6:W.codeIn K cd6 "fault"=true)
    (k6:W.keepIn K (.ref f6)=true)
    (a7:W.nsIn K mainGlobals "refuse_fault"=some (some (.ref f7)))
    (l7:K.lookup f7=some ⟨oc7,od7,.func (W.fnOf "refuse_fault" "refuse_fault" (defArgs s_refuse_fault) (defBody s_refuse_fault) (defScope s_refuse_fault) .none kV7 dc7 pm7 an7 cd7 ct7),sl7⟩)
    (c7:W.codeIn K cd7 "refuse_fault"=true)
    (k7:W.keepIn K (.ref f7)=true)
    (a8:W.nsIn K mainGlobals "beginnings"=some (some (.ref f8)))
    (l8:K.lookup f8=some ⟨oc8,od8,.func (W.fnOf "beginnings" "beginnings" (defArgs s_beginnings) (defBody s_beginnings) (defScope s_beginnings) .none kV8 dc8 pm8 an8 cd8 ct8),sl8⟩)
    (c8:W.codeIn K cd8 "beginnings"=true)
    (k8:W.keepIn K (.ref f8)=true)
    (a9:W.findIn K (.ref C) "__init__"=some (some (.ref f9)))
    (l9:K.lookup f9=some ⟨oc9,od9,.func (W.fnOf "__init__" "Code.__init__" (defArgs s_Code___init__) (defBody s_Code___init__) (defScope s_Code___init__) .none kV9 dc9 pm9 an9 (.ref c) ct9),sl9⟩)
    (c9:W.codeIn K (.ref c) "Code.__init__"=true)
    (k9:W.keepIn K (.ref f9)=true)
    (n9:W.isFn K (.ref f9)=true)
    (a10:W.findIn K (.ref C) "word"=some (some (.ref f10)))
    (l10:K.lookup f10=some ⟨oc10,od10,.func (W.fnOf "word" "Code.word" (defArgs s_Code_word) (defBody s_Code_word) (defScope s_Code_word) .none kV10 dc10 pm10 an10 cd10 ct10),sl10⟩)
    (c10:W.codeIn K cd10 "Code.word"=true)
    (k10:W.keepIn K (.ref f10)=true)
    (n10:W.isFn K (.ref f10)=true)
    (a11:W.findIn K (.ref C) "table"=some (some (.ref f11)))
    (l11:K.lookup f11=some ⟨oc11,od11,.func (W.fnOf "table" "Code.table" (defArgs s_Code_table) (defBody s_Code_table) (defScope s_Code_table) .none kV11 dc11 pm11 an11 cd11 ct11),sl11⟩)
    (c11:W.codeIn K cd11 "Code.table"=true)
    (k11:W.keepIn K (.ref f11)=true)
    (n11:W.isFn K (.ref f11)=true)
    (a12:W.nsIn K mainGlobals "_law_from"=some (some (.ref f12)))
    (l12:K.lookup f12=some ⟨oc12,od12,.func (W.fnOf "_law_from" "_law_from" (defArgs s__law_from) (defBody s__law_from) (defScope s__law_from) .none kV12 dc12 pm12 an12 cd12 ct12),sl12⟩)
    (c12:W.codeIn K cd12 "_law_from"=true)
    (k12:W.keepIn K (.ref f12)=true)
    (a13:W.nsIn K mainGlobals "unshared_words"=some (some (.ref f13)))
    (l13:K.lookup f13=some ⟨oc13,od13,.func (W.fnOf "unshared_words" "unshared_words" (defArgs s_unshared_words) (defBody s_unshared_words) (defScope s_unshared_words) .none kV13 dc13 pm13 an13 cd13 ct13),sl13⟩)
    (c13:W.codeIn K cd13 "unshared_words"=true)
    (k13:W.keepIn K (.ref f13)=true)
    (a14:W.nsIn K mainGlobals "telling"=some (some (.ref f14)))
    (l14:K.lookup f14=some ⟨oc14,od14,.func (W.fnOf "telling" "telling" (defArgs s_telling) (defBody s_telling) (defScope s_telling) .none kV14 dc14 pm14 an14 (.ref cL) ct14),sl14⟩)
    (c14:W.codeIn K (.ref cL) "telling"=true)
    (k14:W.keepIn K (.ref f14)=true)
    (a15:W.nsIn K mainGlobals "_law_by_size"=some (some (.ref f15)))
    (l15:K.lookup f15=some ⟨oc15,od15,.func (W.fnOf "_law_by_size" "_law_by_size" (defArgs s__law_by_size) (defBody s__law_by_size) (defScope s__law_by_size) .none kV15 dc15 pm15 an15 cd15 ct15),sl15⟩)
    (c15:W.codeIn K cd15 "_law_by_size"=true)
    (k15:W.keepIn K (.ref f15)=true)
    (a16:W.nsIn K mainGlobals "_law_read"=some (some (.ref f16)))
    (l16:K.lookup f16=some ⟨oc16,od16,.func (W.fnOf "_law_read" "_law_read" (defArgs s__law_read) (defBody s__law_read) (defScope s__law_read) .none kV16 dc16 pm16 an16 cd16 ct16),sl16⟩)
    (c16:W.codeIn K cd16 "_law_read"=true)
    (k16:W.keepIn K (.ref f16)=true)
    (a17:W.nsIn K mainGlobals "_law_rows"=some (some (.ref f17)))
    (l17:K.lookup f17=some ⟨oc17,od17,.func (W.fnOf "_law_rows" "_law_rows" (defArgs s__law_rows) (defBody s__law_rows) (defScope s__law_rows) .none kV17 dc17 pm17 an17 cd17 ct17),sl17⟩)
    (c17:W.codeIn K cd17 "_law_rows"=true)
    (k17:W.keepIn K (.ref f17)=true)
    (a18:W.nsIn K mainGlobals "_law_due"=some (some (.ref f18)))
    (l18:K.lookup f18=some ⟨oc18,od18,.func (W.fnOf "_law_due" "_law_due" (defArgs s__law_due) (defBody s__law_due) (defScope s__law_due) .none kV18 dc18 pm18 an18 cd18 ct18),sl18⟩)
    (c18:W.codeIn K cd18 "_law_due"=true)
    (k18:W.keepIn K (.ref f18)=true)
    (a19:W.nsIn K mainGlobals "_law_table"=some (some (.ref f19)))
    (l19:K.lookup f19=some ⟨oc19,od19,.func (W.fnOf "_law_table" "_law_table" (defArgs s__law_table) (defBody s__law_table) (defScope s__law_table) .none kV19 dc19 pm19 an19 cd19 ct19),sl19⟩)
    (c19:W.codeIn K cd19 "_law_table"=true)
    (k19:W.keepIn K (.ref f19)=true)
    (a20:W.nsIn K mainGlobals "_law_same"=some (some (.ref f20)))
    (l20:K.lookup f20=some ⟨oc20,od20,.func (W.fnOf "_law_same" "_law_same" (defArgs s__law_same) (defBody s__law_same) (defScope s__law_same) .none kV20 dc20 pm20 an20 cd20 ct20),sl20⟩)
    (c20:W.codeIn K cd20 "_law_same"=true)
    (k20:W.keepIn K (.ref f20)=true)
    (a21:W.nsIn K mainGlobals "_law_near"=some (some (.ref f21)))
    (l21:K.lookup f21=some ⟨oc21,od21,.func (W.fnOf "_law_near" "_law_near" (defArgs s__law_near) (defBody s__law_near) (defScope s__law_near) .none kV21 dc21 pm21 an21 cd21 ct21),sl21⟩)
    (c21:W.codeIn K cd21 "_law_near"=true)
    (k21:W.keepIn K (.ref f21)=true)
    (a22:W.nsIn K mainGlobals "_law_wide"=some (some (.ref f22)))
    (l22:K.lookup f22=some ⟨oc22,od22,.func (W.fnOf "_law_wide" "_law_wide" (defArgs s__law_wide) (defBody s__law_wide) (defScope s__law_wide) .none kV22 dc22 pm22 an22 cd22 ct22),sl22⟩)
    (c22:W.codeIn K cd22 "_law_wide"=true)
    (k22:W.keepIn K (.ref f22)=true)
    (a23:W.nsIn K mainGlobals "law"=some (some (.ref f23)))
    (l23:K.lookup f23=some ⟨oc23,od23,.func (W.fnOf "law" "law" (defArgs s_law) (defBody s_law) (defScope s_law) .none kV23 dc23 pm23 an23 cd23 ct23),sl23⟩)
    (c23:W.codeIn K cd23 "law"=true)
    (k23:W.keepIn K (.ref f23)=true)
    (hd:W.codeHdIn K c Pt=true)
    (hd2:W.codeHdIn K cL P2=true)
    (q1:W.plainGet K C Str.empty=true)
    (q2:W.hasDictIn K C=true)
    (q3:W.plainOver K C=true)
    (q4:W.findIn K (.ref C) "__setattr__"=some (some (.builtin "object.__setattr__")))
    (q5:W.makesIn K C=true)
    (q6:W.keepIn K (.ref C)=true)
    (y_pairs:W.findIn K (.ref C) "pairs"=some none)
    (y_words_by_sign:W.findIn K (.ref C) "words_by_sign"=some none)
    (y_signs_by_word:W.findIn K (.ref C) "signs_by_word"=some none)
    (y_begun:W.findIn K (.ref C) "begun"=some none)
    (y_word_sizes:W.findIn K (.ref C) "word_sizes"=some none)
    (z_len:W.nsIn K mainGlobals "len"=some none)
    (z_abs:W.nsIn K mainGlobals "abs"=some none)
    (z_max:W.nsIn K mainGlobals "max"=some none)
    (z_min:W.nsIn K mainGlobals "min"=some none)
    (z_isinstance:W.nsIn K mainGlobals "isinstance"=some none)
    (z_all:W.nsIn K mainGlobals "all"=some none)
    (z_range:W.nsIn K mainGlobals "range"=some none)
    (z_int:W.nsIn K mainGlobals "int"=some none)
    (z_bool:W.nsIn K mainGlobals "bool"=some none)
    (z_tuple:W.nsIn K mainGlobals "tuple"=some none)
    (z_list:W.nsIn K mainGlobals "list"=some none)
    (z_dict:W.nsIn K mainGlobals "dict"=some none)
    (z_sorted:W.nsIn K mainGlobals "sorted"=some none)
    (z_enumerate:W.nsIn K mainGlobals "enumerate"=some none)
    (z_ValueError:W.nsIn K mainGlobals "ValueError"=some none)
   :∃ fd:FuncData,(∀ P∈[Pt,P2],∃ c,W.codeHdIn K c P=true)/\(∀ (s:Shared) (v:Value),BindsTo s fd ⟨[v],[]⟩ [("_law_script",v)])/\∀ base:Heap,K.In base->base.Ns mainGlobals mg->Bm mg base->FnOk l.prog w K mg base CX0 8 fa fd ["_law_script"] (spLaw K Pt P2):=by
  have e:=hfa.symm.trans (W.mg_of X G a23)
  cases e
  have T:Txt mg:=⟨W.mg_none_of X G z_len,W.mg_none_of X G z_abs,W.mg_none_of X G z_max,W.mg_none_of X G z_min,W.mg_none_of X G z_isinstance,W.mg_none_of X G z_all,W.mg_none_of X G z_range,W.mg_none_of X G z_int,W.mg_none_of X G z_bool,W.mg_none_of X G z_tuple,W.mg_none_of X G z_list,W.mg_none_of X G z_dict,W.mg_none_of X G z_sorted,W.mg_none_of X G z_enumerate,W.mg_none_of X G z_ValueError⟩
  have cl:Cls K C:=⟨q1,q2,q3,q4⟩
  have CT:CodeT K C:=⟨cl,y_pairs,y_words_by_sign,y_signs_by_word,y_begun,y_word_sizes⟩
  have F0:=fun_mk (st:=s__law_draw) l0 c0 k0
  have b0:=F0.binds (ps:=["_law_hand", "_law_many"]) fun _ _ _ _ _ _=>len2 fun _ _=>rfl
  have F1:=fun_mk (st:=s__law_open) l1 c1 k1
  have b1:=F1.binds (ps:=["_law_script", "_law_place"]) fun _ _ _ _ _ _=>len2 fun _ _=>rfl
  have F2:=fun_mk (st:=s__law_bytes) l2 c2 k2
  have b2:=F2.binds (ps:=["_law_hand", "_law_most"]) fun _ _ _ _ _ _=>len2 fun _ _=>rfl
  have F3:=fun_mk (st:=s__law_words) l3 c3 k3
  have b3:=F3.binds (ps:=["_law_hand", "_law_some", "_law_most", "_law_longest"]) fun _ _ _ _ _ _=>len4 fun _ _ _ _=>rfl
  have F4:=fun_mk (st:=s__law_signs) l4 c4 k4
  have b4:=F4.binds (ps:=["_law_hand", "_law_many"]) fun _ _ _ _ _ _=>len2 fun _ _=>rfl
  have F5:=fun_mk (st:=s_odds_between) l5 c5 k5
  have b5:=F5.binds (ps:=["one", "other"]) fun _ _ _ _ _ _=>len2 fun _ _=>rfl
  have F6:=fun_mk (st:=s_fault) l6 c6 k6
  have b6:=F6.binds (ps:=["table"]) fun _ _ _ _ _ _=>len1 fun _=>rfl
  have F7:=fun_mk (st:=s_refuse_fault) l7 c7 k7
  have b7:=F7.binds (ps:=["table"]) fun _ _ _ _ _ _=>len1 fun _=>rfl
  have F8:=fun_mk (st:=s_beginnings) l8 c8 k8
  have b8:=F8.binds (ps:=["words"]) fun _ _ _ _ _ _=>len1 fun _=>rfl
  have F9:=fun_mk (st:=s_Code___init__) l9 c9 k9
  have b9:=F9.binds (ps:=["self", "table"]) fun _ _ _ _ _ _=>len2 fun _ _=>rfl
  have F10:=fun_mk (st:=s_Code_word) l10 c10 k10
  have b10:=F10.binds (ps:=["self", "sign"]) fun _ _ _ _ _ _=>len2 fun _ _=>rfl
  have F11:=fun_mk (st:=s_Code_table) l11 c11 k11
  have b11:=F11.binds (ps:=["self"]) fun _ _ _ _ _ _=>len1 fun _=>rfl
  have F12:=fun_mk (st:=s__law_from) l12 c12 k12
  have b12:=F12.binds (ps:=["_law_table_here", "_law_row", "_law_at"]) fun _ _ _ _ _ _=>len3 fun _ _ _=>rfl
  have F13:=fun_mk (st:=s_unshared_words) l13 c13 k13
  have b13:=F13.binds (ps:=["one", "other"]) fun _ _ _ _ _ _=>len2 fun _ _=>rfl
  have F14:=fun_mk (st:=s_telling) l14 c14 k14
  have b14:=F14.binds (ps:=["one", "other"]) fun _ _ _ _ _ _=>len2 fun _ _=>rfl
  have F15:=fun_mk (st:=s__law_by_size) l15 c15 k15
  have b15:=F15.binds (ps:=["_law_pair"]) fun _ _ _ _ _ _=>len1 fun _=>rfl
  have F16:=fun_mk (st:=s__law_read) l16 c16 k16
  have b16:=F16.binds (ps:=["_law_table_here", "_law_row"]) fun _ _ _ _ _ _=>len2 fun _ _=>rfl
  have F17:=fun_mk (st:=s__law_rows) l17 c17 k17
  have b17:=F17.binds (ps:=["_law_some", "_law_size"]) fun _ _ _ _ _ _=>len2 fun _ _=>rfl
  have F18:=fun_mk (st:=s__law_due) l18 c18 k18
  have b18:=F18.binds (ps:=["_law_first", "_law_second", "_law_some"]) fun _ _ _ _ _ _=>len3 fun _ _ _=>rfl
  have F19:=fun_mk (st:=s__law_table) l19 c19 k19
  have b19:=F19.binds (ps:=["_law_hand", "_law_words_here", "_law_signs_here"]) fun _ _ _ _ _ _=>len3 fun _ _ _=>rfl
  have F20:=fun_mk (st:=s__law_same) l20 c20 k20
  have b20:=F20.binds (ps:=["_law_found", "_law_due_here"]) fun _ _ _ _ _ _=>len2 fun _ _=>rfl
  have F21:=fun_mk (st:=s__law_near) l21 c21 k21
  have b21:=F21.binds (ps:=["_law_hand", "_law_table_here", "_law_some", "_law_signs_here"]) fun _ _ _ _ _ _=>len4 fun _ _ _ _=>rfl
  have F22:=fun_mk (st:=s__law_wide) l22 c22 k22
  have b22:=F22.binds (ps:=["_law_hand"]) fun _ _ _ _ _ _=>len1 fun _=>rfl
  have F23:=fun_mk (st:=s_law) l23 c23 k23
  refine ⟨W.fnOf "law" "law" (defArgs s_law) (defBody s_law) (defScope s_law) .none kV23 dc23 pm23 an23 cd23 ct23,(fun P hp=>(List.mem_cons.mp hp).elim (fun z=>⟨c,z ▸ hd⟩) fun z=>⟨cL,(List.mem_singleton.mp z) ▸ hd2⟩),fun s v=>.of_eq rfl,fun base kb _ hBm=>?_⟩
  have hCd:=W.codeHd_of_K kb hd
  have hCd2:=W.codeHd_of_K kb hd2
  have C__law_draw:=cal_mk (P:=l.prog) (w:=w) (base:=base) F0 (ok__law_draw T  F0) (W.mg_of X G a0) b0
  have D__law_draw:=L3.Cal.imp C__law_draw fun _ _ _ _ h=>L3.a_draw (C:=⟨C,K⟩) h
  have C__law_open:=cal_mk (P:=l.prog) (w:=w) (base:=base) F1 (ok__law_open T  F1) (W.mg_of X G a1) b1
  have D__law_open:=L3.Cal.imp C__law_open fun _ _ _ _ h=>L3.a_open (C:=⟨C,K⟩) h
  have C__law_bytes:=cal_mk (P:=l.prog) (w:=w) (base:=base) F2 (ok__law_bytes T C__law_draw F2) (W.mg_of X G a2) b2
  have D__law_bytes:=L3.Cal.imp C__law_bytes fun _ _ _ _ h=>L3.a_bytes (C:=⟨C,K⟩) h
  have C__law_words:=cal_mk (P:=l.prog) (w:=w) (base:=base) F3 (ok__law_words (C:=C) T D__law_draw F3) (W.mg_of X G a3) b3
  have C__law_signs:=cal_mk (P:=l.prog) (w:=w) (base:=base) F4 (ok__law_signs T C__law_draw F4) (W.mg_of X G a4) b4
  have D__law_signs:=L3.Cal.imp C__law_signs fun _ _ _ _ h=>L3.a_signs (C:=⟨C,K⟩) h
  have C_odds_between:=cal_mk (P:=l.prog) (w:=w) (base:=base) F5 (ok_odds_between T  F5) (W.mg_of X G a5) b5
  have C_fault:=cal_mk (P:=l.prog) (w:=w) (base:=base) F6 (ok_fault T C_odds_between F6) (W.mg_of X G a6) b6
  have C_refuse_fault:=cal_mk (P:=l.prog) (w:=w) (base:=base) F7 (ok_refuse_fault T C_fault F7) (W.mg_of X G a7) b7
  have C_beginnings:=cal_mk (P:=l.prog) (w:=w) (base:=base) F8 (ok_beginnings T  F8) (W.mg_of X G a8) b8
  have M_Code:Mkr l.prog w K mg base "Code" C 4 _ _:=⟨f9,_,⟨q5,a9,n9,q6⟩,ok_Code___init__ T CT hCd hBm C_refuse_fault C_beginnings l9 c9,W.mg_of X G aC,b9⟩
  have M_word:Met l.prog w K mg base C "word" 1 _ _:=⟨f10,_,cl,⟨a10,n10,k10⟩,ok_Code_word T CT  F10,b10⟩
  have D_word:=L3.Met.imp M_word fun _ _ _ _ h=>L3.a_word (C:=⟨C,K⟩) h
  have M_table:Met l.prog w K mg base C "table" 1 _ _:=⟨f11,_,cl,⟨a11,n11,k11⟩,ok_Code_table T CT  F11,b11⟩
  have D_table:=L3.Met.imp M_table fun _ _ _ _ h=>L3.a_ctable (C:=⟨C,K⟩) h
  have C__law_from:=cal_mk (P:=l.prog) (w:=w) (base:=base) F12 (ok__law_from T  F12) (W.mg_of X G a12) b12
  have D__law_from:=L3.Cal.imp C__law_from fun _ _ _ _ h=>L3.a_from (C:=⟨C,K⟩) h
  have C_unshared_words:=cal_mk (P:=l.prog) (w:=w) (base:=base) F13 (ok_unshared_words (C:=C) T D_table D_word F13) (W.mg_of X G a13) b13
  have C_telling:=cal_mk (P:=l.prog) (w:=w) (base:=base) F14 (ok_telling (C:=C) T hCd2 hBm C_unshared_words l14 c14) (W.mg_of X G a14) b14
  have C__law_by_size:=cal_mk (P:=l.prog) (w:=w) (base:=base) F15 (ok__law_by_size T  F15) (W.mg_of X G a15) b15
  have C__law_read:=cal_mk (P:=l.prog) (w:=w) (base:=base) F16 (ok__law_read (C:=C) T D__law_from F16) (W.mg_of X G a16) b16
  have C__law_rows:=cal_mk (P:=l.prog) (w:=w) (base:=base) F17 (ok__law_rows (C:=C) T  F17) (W.mg_of X G a17) b17
  have C__law_due:=cal_mk (P:=l.prog) (w:=w) (base:=base) F18 (ok__law_due (C:=C) T C__law_read C__law_rows F18) (W.mg_of X G a18) b18
  have C__law_table:=cal_mk (P:=l.prog) (w:=w) (base:=base) F19 (ok__law_table (C:=C) T D__law_draw F19) (W.mg_of X G a19) b19
  have C__law_same:=cal_mk (P:=l.prog) (w:=w) (base:=base) F20 (ok__law_same (C:=C) T  F20) (W.mg_of X G a20) b20
  have C__law_near:=cal_mk (P:=l.prog) (w:=w) (base:=base) F21 (ok__law_near (C:=C) T C__law_by_size D__law_draw F21) (W.mg_of X G a21) b21
  have C__law_wide:=cal_mk (P:=l.prog) (w:=w) (base:=base) F22 (ok__law_wide (C:=C) T M_Code D__law_draw D__law_signs C__law_same C_telling F22) (W.mg_of X G a22) b22
  exact (ok_law T M_Code D__law_open D__law_draw D__law_bytes C__law_words D__law_signs C__law_table C__law_near C__law_due C__law_same C__law_wide C_telling F23).imp fun _ _ _ _ h=>L3.law_in2 (C:=⟨C,K⟩) h
def walk {l:W.OpenLaw} {q:Program} {loose:List Str} {XP:(Str->Option Value)->Heap->Prop} {YP:World->Heap->Prop} {d:DefRec} {K:Params->W.Frag} {Pt P2:Addr} (hn:l.most=some 63) (hdf:d.params.defaults=[])
  (hY:∀ (w:World) (h:Heap),YP w h->(K w.params).In h) (hYt:∀ (w:World) (h:Heap),YP w h->h.get? Pt=some (W.tabObj #[])) (hYt2:∀ (w:World) (h:Heap),YP w h->h.get? P2=some (W.tabObj #[])) (hPK:∀ w:World,(K w.params).lookup Pt=none) (hPK2:∀ w:World,(K w.params).lookup P2=none) (hne:Pt≠P2)
  (F:∀ (w:World) (mg:Str->Option Value) (fa:Addr) (h:Heap),(K w.params).In h->h.Ns mainGlobals mg->mg d.name=some (.ref fa) ->
   ∃ fd:FuncData,(∀ P∈[Pt,P2],∃ c,W.codeHdIn (K w.params) c P=true)/\(∀ (s:Shared) (u:Value),BindsTo s fd ⟨[u],[]⟩ [("_law_script",u)])/\∀ base:Heap,(K w.params).In base->base.Ns mainGlobals mg->Bm mg base->FnOk l.prog w (K w.params) mg base CX0 8 fa fd ["_law_script"] (spLaw (K w.params) Pt P2)) :
  W.WalkO q loose XP YP l.row.toRowW d [] (fun f vs=>PySem.call f vs) :=
 L2.walk_ofTs (Ps:=[Pt,P2]) (n:=63) (k:=8) (x:="_law_script") (CX:=fun _=>CX0) (sp:=fun w=>spLaw (K w.params) Pt P2) hn (by decide) hdf ⟨rfl,by decide,by decide⟩ hY (fun w h Y P hp=>(List.mem_cons.mp hp).elim (fun z=>by rw [z]; exact hYt w h Y) fun z=>by rw [List.mem_singleton.mp z]; exact hYt2 w h Y) (fun w P hp=>(List.mem_cons.mp hp).elim (fun z=>by rw [z]; exact hPK w) fun z=>by rw [List.mem_singleton.mp z]; exact hPK2 w) F (fun _ _ a ns hl hO hS=>⟨a,ns,rfl,hS,hl,hO.tab (by simp) _ _,hO.tab (by simp) _ _,hne,fun _=>rfl⟩) fun _ _ _ _ _ z=>z
end K27
def PySem.W.Fast.tw128020547611104315:Nat:=0
def PySem.W.Fast.tw1306207845297067788:Nat:=0
def PySem.W.Fast.tw10567904872543730099:Nat:=0
def PySem.W.Fast.tw3677469147452152876:Nat:=0
def PySem.W.Fast.tw3899979859907007124:Nat:=0
def PySem.W.Fast.tw13782327351816929126:Nat:=0
def PySem.W.Fast.tw8952011220482631173:Nat:=0
def PySem.W.Fast.tw3408815391602521707:Nat:=0
def PySem.W.Fast.tw3693233580896893683:Nat:=0
def PySem.W.Fast.tw16235654118477809572:Nat:=0
def PySem.W.Fast.tw1804508150220678086:Nat:=0
def PySem.W.Fast.tw2856832233800952353:Nat:=0
def PySem.W.Fast.tw1225071458121232617:Nat:=0
def PySem.W.Fast.tw6469839426971636984:Nat:=0
def PySem.W.Fast.tw17553259875785946679:Nat:=0
def PySem.W.Fast.tw4876055755672435211:Nat:=0
def PySem.W.Fast.tw13980007565268246304:Nat:=0
def PySem.W.Fast.tw10515166190259957738:Nat:=0
def PySem.W.Fast.tw13989303155044517621:Nat:=0
def PySem.W.Fast.tw14260311858678861968:Nat:=0
def PySem.W.Fast.tw2481811593845046770:Nat:=0
def PySem.W.Fast.tw8556695023208531114:Nat:=0
def PySem.W.Fast.tw8174469019228663639:Nat:=0
def PySem.W.Fast.tw70983238364844096:Nat:=0
def PySem.W.Fast.tw473239708959673709:Nat:=0
def PySem.W.Fast.tw16374566348216173566:Nat:=0
def PySem.W.Fast.tw16519518739959134092:Nat:=0
def PySem.W.Fast.tw319498379926811348:Nat:=0
def PySem.W.Fast.tw15008220922579242716:Nat:=0
def PySem.W.Fast.tw2946492139685081740:Nat:=0
def PySem.W.Fast.tw5481005394643287027:Nat:=0
def PySem.W.Fast.tw5665001633606644324:Nat:=0
def PySem.W.Fast.tw9949058101194620997:Nat:=0
def PySem.W.Fast.tw12329041804384215919:Nat:=0
def PySem.W.Fast.tw3807334730151440646:Nat:=0
def PySem.W.Fast.tw8854633148645686924:Nat:=0
def PySem.W.Fast.tw8949743749668838801:Nat:=0
def PySem.W.Fast.tw3673483449275221763:Nat:=0
def PySem.W.Fast.tw8109564473158008896:Nat:=0
def PySem.W.Fast.tw1112456760537858065:Nat:=0
def PySem.W.Fast.tw10255667664330346378:Nat:=0
def PySem.W.Fast.tw17670434986935302443:Nat:=0
open PySem PySem.W PyProof.Rows
set_option maxRecDepth 100000 in
set_option maxHeartbeats 0 in
theorem PySem.Challenge.cw_skewread_k27_telling_holds : PySem.Challenge.rw_skewread_k27_telling.Holds := by
  w_on; o_law; k_head; (case hw=>w_witness2)
  k_fill
  refine K27.walk (l:=PySem.Challenge.rw_skewread_k27_telling) rfl rfl (fun w h Y=>PySem.W.km_in_of Y) (fun w h Y=>PySem.W.km_tabs_of Y _ (List.Mem.head _)) (fun w h Y=>PySem.W.km_tabs_of Y _ (List.Mem.tail _ (List.Mem.head _))) ?hpk ?hpk2 ?hne ?F
  case hpk=>exact fun w=>by kernel_rfl
  case hpk2=>exact fun w=>by kernel_rfl
  case hne=>decide
  case F =>
    intro w mg fa h KX G hmg
    refine' K27.all_mk KX G hmg ?aC ?a0 ?l0 ?c0 ?k0 ?a1 ?l1 ?c1 ?k1 ?a2 ?l2 ?c2 ?k2 ?a3 ?l3 ?c3 ?k3 ?a4 ?l4 ?c4 ?k4 ?a5 ?l5 ?c5 ?k5 ?a6 ?l6 ?c6 ?k6 ?a7 ?l7 ?c7 ?k7 ?a8 ?l8 ?c8 ?k8 ?a9 ?l9 ?c9 ?k9 ?n9 ?a10 ?l10 ?c10 ?k10 ?n10 ?a11 ?l11 ?c11 ?k11 ?n11 ?a12 ?l12 ?c12 ?k12 ?a13 ?l13 ?c13 ?k13 ?a14 ?l14 ?c14 ?k14 ?a15 ?l15 ?c15 ?k15 ?a16 ?l16 ?c16 ?k16 ?a17 ?l17 ?c17 ?k17 ?a18 ?l18 ?c18 ?k18 ?a19 ?l19 ?c19 ?k19 ?a20 ?l20 ?c20 ?k20 ?a21 ?l21 ?c21 ?k21 ?a22 ?l22 ?c22 ?k22 ?a23 ?l23 ?c23 ?k23 ?hd ?hd2 ?q1 ?q2 ?q3 ?q4 ?q5 ?q6 ?y_pairs ?y_words_by_sign ?y_signs_by_word ?y_begun ?y_word_sizes ?z_len ?z_abs ?z_max ?z_min ?z_isinstance ?z_all ?z_range ?z_int ?z_bool ?z_tuple ?z_list ?z_dict ?z_sorted ?z_enumerate ?z_ValueError
    (case aC=>k_is); (case a0=>k_is); (case l0=>k_is); (case c0=>k_is); (case k0=>k_is); (case a1=>k_is)
    (case l1=>k_is); (case c1=>k_is); (case k1=>k_is); (case a2=>k_is); (case l2=>k_is); (case c2=>k_is)
    (case k2=>k_is); (case a3=>k_is); (case l3=>k_is); (case c3=>k_is); (case k3=>k_is); (case a4=>k_is)
    (case l4=>k_is); (case c4=>k_is); (case k4=>k_is); (case a5=>k_is); (case l5=>k_is); (case c5=>k_is)
    (case k5=>k_is); (case a6=>k_is); (case l6=>k_is); (case c6=>k_is); (case k6=>k_is); (case a7=>k_is)
    (case l7=>k_is); (case c7=>k_is); (case k7=>k_is); (case a8=>k_is); (case l8=>k_is); (case c8=>k_is)
    (case k8=>k_is); (case a9=>k_is); (case l9=>k_is); (case c9=>k_is); (case k9=>k_is); (case n9=>k_is)
    (case a10=>k_is); (case l10=>k_is); (case c10=>k_is); (case k10=>k_is); (case n10=>k_is); (case a11=>k_is)
    (case l11=>k_is); (case c11=>k_is); (case k11=>k_is); (case n11=>k_is); (case a12=>k_is); (case l12=>k_is)
    (case c12=>k_is); (case k12=>k_is); (case a13=>k_is); (case l13=>k_is); (case c13=>k_is); (case k13=>k_is)
    (case a14=>k_is); (case l14=>k_is); (case c14=>k_is); (case k14=>k_is); (case a15=>k_is); (case l15=>k_is)
    (case c15=>k_is); (case k15=>k_is); (case a16=>k_is); (case l16=>k_is); (case c16=>k_is); (case k16=>k_is)
    (case a17=>k_is); (case l17=>k_is); (case c17=>k_is); (case k17=>k_is); (case a18=>k_is); (case l18=>k_is)
    (case c18=>k_is); (case k18=>k_is); (case a19=>k_is); (case l19=>k_is); (case c19=>k_is); (case k19=>k_is)
    (case a20=>k_is); (case l20=>k_is); (case c20=>k_is); (case k20=>k_is); (case a21=>k_is); (case l21=>k_is)
    (case c21=>k_is); (case k21=>k_is); (case a22=>k_is); (case l22=>k_is); (case c22=>k_is); (case k22=>k_is)
    (case a23=>k_is); (case l23=>k_is); (case c23=>k_is); (case k23=>k_is); (case hd=>kernel_rfl); (case hd2=>kernel_rfl)
    (case q1=>k_is); (case q2=>k_is); (case q3=>k_is); (case q4=>k_is); (case q5=>k_is); (case q6=>k_is)
    (case y_pairs=>k_is); (case y_words_by_sign=>k_is); (case y_signs_by_word=>k_is); (case y_begun=>k_is); (case y_word_sizes=>k_is); (case z_len=>k_is)
    (case z_abs=>k_is); (case z_max=>k_is); (case z_min=>k_is); (case z_isinstance=>k_is); (case z_all=>k_is); (case z_range=>k_is)
    (case z_int=>k_is); (case z_bool=>k_is); (case z_tuple=>k_is); (case z_list=>k_is); (case z_dict=>k_is); (case z_sorted=>k_is)
    (case z_enumerate=>k_is); (case z_ValueError=>k_is)
#print axioms PySem.Challenge.cw_skewread_k27_telling_holds