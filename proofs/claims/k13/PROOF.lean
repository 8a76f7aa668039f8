import PyProof.Rows.All
import Wide.All
import OpenK.AllK
import Wide.FinOn
import Lean
import PyProof.EqAt
import PyProof.EqKinds
import PyProof.TupleCall
import PyProof.DictItems
import KE.KPairComp
import KE.KDictList
import PyProof.ListRange
import KE.KUnpack
import KE.KEqDict
import PyProof.DictFindH
import KE.KDictSum
import PyProof.AutoListH
import PyProof.SumAny
import PyProof.Rows.Range3
import KE.KStateDown
import KE.KSortTup
import KE.KLam
import KE.KNestM
import KE.KDictOf
import PyProof.AttrMissHeap
import KE.KRevSl
import PyProof.RaisesMany
import PyProof.ExcInit
import PyProof.ExcClass2
import PyProof.RulesTry
import PyProof.PassesOwn
import OpenK.KOwn
import PyProof.RulesDel
import KE.KIsAll
import PyProof.EnumMake
import PyProof.LayNew
import PyProof.ZipIter
import PyProof.Rows.ZipGen
import KE.KIntText
import PySem.Challenge.RW_skewread_k13_lines_amiss
set_option Elab.async false
set_option linter.all false
set_option maxRecDepth 100000
namespace L2
open PySem PySem.Spec PyProof.Rows
abbrev Key:=Sum Int Str
def keyIs:Key->Value->Bool
 | .inl k,v=>Value.isInt k v
 | .inr x,v=>Value.isStrOf x v
def keyH (w:World):Key->Int
 | .inl k=>hashInt k
 | .inr x=>hashStr w x
theorem keyIs_shape:∀ {k:Key} {v:Value},keyIs k v=true->(∃ i t,k=Sum.inl i/\v=Value.int i t)\/(∃ x t,k=Sum.inr x/\v=Value.str x t)
 | .inl i,v,h=>by
  obtain ⟨t,e⟩:=Value.isInt_shape (k:=i) (v:=v) h
  exact .inl ⟨i,t,rfl,e⟩
 | .inr x,v,h=>by
  obtain ⟨t,e⟩:=Value.isStrOf_shape (x:=x) (v:=v) h
  exact .inr ⟨x,t,rfl,e⟩
theorem key_ll (a b:Int):decide ((Sum.inl a:Key)=Sum.inl b)=(a == b):=by
 by_cases e:a=b
 ·subst e; simp
 ·have h:¬ (Sum.inl a:Key)=Sum.inl b:=fun q=>e (Sum.inl.inj q)
  rw [decide_eq_false h]
  exact (beq_eq_false_iff_ne.mpr e).symm
theorem key_rr (a b:Str):decide ((Sum.inr a:Key)=Sum.inr b)=decide (a=b):=by
 by_cases e:a=b
 ·subst e; simp
 ·have h:¬ (Sum.inr a:Key)=Sum.inr b:=fun q=>e (Sum.inr.inj q)
  rw [decide_eq_false h,decide_eq_false e]
theorem key_lr (a:Int) (b:Str):decide ((Sum.inl a:Key)=Sum.inr b)=false:=decide_eq_false (fun q=>nomatch q)
theorem key_rl (a:Str) (b:Int):decide ((Sum.inr a:Key)=Sum.inl b)=false:=decide_eq_false (fun q=>nomatch q)
def mixKind (prog:Program) (w:World):PySem.KeyKind prog w Key where
 is:=keyIs
 hash:=keyH w
 inj:=fun v a b ha hb=>by
  rcases keyIs_shape ha with ⟨i,t,rfl,rfl⟩ | ⟨x,t,rfl,rfl⟩
  ·rcases keyIs_shape hb with ⟨j,u,rfl,e⟩ | ⟨y,u,rfl,e⟩
   ·injection e with e1 _; rw [e1]
   ·exact nomatch e
  ·rcases keyIs_shape hb with ⟨j,u,rfl,e⟩ | ⟨y,u,rfl,e⟩
   ·exact nomatch e
   ·injection e with e1 _; rw [e1]
 byValue:=fun k v h=>by
  rcases keyIs_shape h with ⟨i,t,rfl,rfl⟩ | ⟨x,t,rfl,rfl⟩ <;> rfl
 pyHash:=fun hv h=>by
  rcases keyIs_shape hv with ⟨i,t,rfl,rfl⟩ | ⟨x,t,rfl,rfl⟩
  ·exact wpAny_pyHash_int h
  ·exact wpAny_pyHash_str h
 eqBool:=fun hu hv h=>by
  rcases keyIs_shape hu with ⟨i,t,rfl,rfl⟩ | ⟨x,t,rfl,rfl⟩
  ·rcases keyIs_shape hv with ⟨j,u,rfl,rfl⟩ | ⟨y,u,rfl,rfl⟩
   ·rw [key_ll] at h; exact wpAny_eqBool_int h
   ·rw [key_lr] at h; exact SeqAt.EqAt.int_str i t y u _ _ _ _ h
  ·rcases keyIs_shape hv with ⟨j,u,rfl,rfl⟩ | ⟨y,u,rfl,rfl⟩
   ·rw [key_rl] at h; exact SeqAt.EqAt.str_int x t j u _ _ _ _ h
   ·rw [key_rr] at h; exact wpAny_eqBool_str h
 «strs»:=fun k x t v h=>by
  rcases keyIs_shape h with ⟨i,u,rfl,e⟩ | ⟨y,u,rfl,e⟩
  ·exact nomatch e
  ·injection e with e1 _
   subst e1
   cases v <;> rfl
inductive V where
 | non | bl (b:Bool) | int (i:Int) | str (x:Str) | byt (b:Array UInt8) | flt (b:UInt64) | ref (a:Addr) | ty (n:String)
 deriving DecidableEq
def RelV:V->Value->Prop
 | .non,u=>u=Value.none
 | .bl b,u=>u=Value.bool b
 | .int i,u=>∃ t,u=Value.int i t
 | .str x,u=>∃ t,u=Value.str x t
 | .byt b,u=>∃ t,u=Value.bytes b t
 | .flt b,u=>∃ t,u=Value.float b t
 | .ref a,u=>u=Value.ref a
 | .ty n,u=>u=Value.type n
abbrev Vals:List V->List Value->Prop:=Paired RelV
theorem Vals.length {xs:List V} {us:List Value} (r:Vals xs us):xs.length=us.length:=Paired.length r
theorem Vals.get:∀ {xs:List V} {us:List Value} {i:Nat} {x:V},Vals xs us->xs[i]?=some x->∃ u,us[i]?=some u/\RelV x u
 | _,_,_,_,.nil,e=>by simp at e
 | _,_,0,_,.cons r _,e=>by simp at e; subst e; exact ⟨_,rfl,r⟩
 | _,_,i + 1,x,.cons _ t,e=>by
  obtain ⟨u,h1,h2⟩:=Vals.get (i:=i) (x:=x) t (by simpa using e)
  exact ⟨u,by simpa using h1,h2⟩
theorem Vals.set {x:V} {u:Value} (r:RelV x u):∀ {xs:List V} {us:List Value} (i:Nat),Vals xs us->Vals (xs.set i x) (us.set i u)
 | _,_,_,.nil=>.nil
 | _,_,0,.cons _ t=>.cons r t
 | _,_,i + 1,.cons q t=>.cons q (Vals.set r i t)
theorem Vals.append:∀ {xs ys:List V} {us ws:List Value},Vals xs us->Vals ys ws->Vals (xs++ys) (us++ws)
 | _,_,_,_,.nil,s=>s
 | _,_,_,_,.cons r t,s=>.cons r (Vals.append t s)
theorem Vals.take:∀ {xs:List V} {us:List Value} (n:Nat),Vals xs us->Vals (xs.take n) (us.take n)
 | _,_,0,_=>.nil
 | _,_,_ + 1,.nil=>.nil
 | _,_,n + 1,.cons r t=>.cons r (Vals.take n t)
theorem Vals.drop:∀ {xs:List V} {us:List Value} (n:Nat),Vals xs us->Vals (xs.drop n) (us.drop n)
 | _,_,0,r=>r
 | _,_,_ + 1,.nil=>.nil
 | _,_,n + 1,.cons _ t=>Vals.drop n t
def RelO:Option V->Option Value->Prop
 | some v,some u=>RelV v u
 | none,none=>True
 | _,_=>False
def KV {κ:Type}:List (κ×V)->List (κ×Value)->Prop:=Paired fun (p:κ×V) (q:κ×Value)=>p.1=q.1/\RelV p.2 q.2
def kV:Key->V
 | .inl i=>.int i
 | .inr x=>.str x
def IsTupD (h:Heap) (a:Addr) (items:Array Value):Prop:=∃ o,h.get? a=some o/\o.cls=.type "tuple"/\∃ n,o.data=.seq items n/\o.dict=none
theorem IsTupD.tup {h:Heap} {a:Addr} {items:Array Value} (x:IsTupD h a items):IsTup h a items:=let ⟨o,e,c,n,d,_⟩:=x; ⟨o,e,c,n,d⟩
theorem IsTupD.new (h:Heap) (items:Array Value):IsTupD (h.push { cls:=.type "tuple",data:=.seq items }) h.objs.size items:=⟨_,Heap.get?_push_size _ rfl,rfl,_,rfl,rfl⟩
theorem IsTupD.lt {h:Heap} {a:Addr} {items:Array Value} (x:IsTupD h a items):a < h.objs.size:=let ⟨_,e,_⟩:=x; Heap.lt_size e
inductive HO where
 | lst (xs:List V)
 | tup (xs:List V)
 | dK (kvs:List (Key×V)) | dT (kvs:List (List Key×V))
 | set (S:Int->Bool) (n:Nat)
 | ins (C dx:Addr) (fs:List (Str×V))
 | own (x:Addr)
 | xd (fs:List (Str×V))
 | met (f x:Addr)
 | rng (lo hi:Int)
 | frz (o:Obj) (u:HO)
 | tbl (ps:Array Value)
 | ext (φ:Heap->Prop)
abbrev Hp:=Addr->Option HO
def upd (H:Hp) (a:Addr) (o:HO):Hp:=fun b=>if b=a then some o else H b
theorem upd_same {H:Hp} {a:Addr} {o:HO}:upd H a o a=some o:=by unfold upd; rw [if_pos rfl]
theorem upd_ne {H:Hp} {a b:Addr} {o:HO} (h:b≠a):upd H a o b=H b:=by unfold upd; rw [if_neg h]
theorem ne_of {H:Hp} {a b:Addr} {o u:HO} (h:H a=some o) (h':H b=some u) (d:o≠u):a≠b:=by
 intro e; subst e; rw [h] at h'; exact d (Option.some.inj h')
theorem ne_of_none {H:Hp} {a b:Addr} {o:HO} (h:H a=some o) (h':H b=none):a≠b:=by
 intro e; subst e; rw [h] at h'; cases h'
section
variable (P:Program) (w:World)
def ObjOk (H:Hp) (h:Heap) (a:Addr):HO->Prop
 | .lst xs=>xs.length<=sizeLine/\∃ (its:List Value) (n:Nat),Vals xs its/\h.get? a=some { cls:=.type "list",data:=.seq its.toArray n }
 | .tup xs=>xs.length<=sizeLine/\∃ its:List Value,Vals xs its/\IsTupD h a its.toArray
 | .dK kvs=>kvs.length<=sizeLine/\(a == sysModules)=false/\∃ vs,KV kvs vs/\h.DictOf (mixKind P w) a vs
 | .dT kvs=>kvs.length<=sizeLine/\(a == sysModules)=false/\∃ xs:List (List Key×Addr×Value),
   Paired (fun (p:List Key×V) (q:List Key×Addr×Value)=>p.1=q.1/\H q.2.1=some (.tup (p.1.map kV))/\RelV p.2 q.2.2) kvs xs /\
   ∃ o es ep,h.get? a=some o/\o.ExactDict/\o.data=.dict es ep/\es.toList=xs.map (entryOfKey (tupleKind (mixKind P w)))/\(xs.map (·.1)).Nodup
 | .set S n=>h.SetOf (intKind P w) a S n
 | .ins C dx fs=>H dx=some (.own a)/\fs.length<=1000/\dx≠a/\h.get? a=some (W.instObj C dx) /\
   ∃ mA,h.Ns1 dx mA/\(∀ f,RelO (fs.lookup f) (mA f))/\PySem.Within mA (fs.map (·.1))
 | .own _=>∃ o,h.get? a=some o
 | .xd fs=>∃ mA,h.Ns1 a mA/\∀ f,RelO (fs.lookup f) (mA f)
 | .rng lo hi=>∃ t u v,h.get? a=some { cls:=.type "range",data:=.fields #[.int lo t,.int hi u,.int 1 v] }
 | .frz o u=>h.get? a=some o/\ObjOk H h a u
 | .tbl ps=>h.get? a=some { cls:=.none,data:=.fields ps }
 | .met f x=>h.get? a=some (W.methodObj (.ref f) (.ref x))
 | .ext φ=>φ h/\(∃ o,h.get? a=some o)/\∀ h1 h2:Heap,φ h1->(∀ o,h1.get? a=some o->h2.get? a=some o)->φ h2
def HOk (H:Hp) (h:Heap):Prop:=∀ a o,H a=some o->ObjOk P w H h a o
end
section
variable {P:Program} {w:World} {H H':Hp} {h h':Heap} {a:Addr} {o:HO}
theorem ObjOk.lt (x:ObjOk P w H h a o):a < h.objs.size:=by
 cases o with
 | lst xs=>obtain ⟨_,_,_,_,e⟩:=x; exact Heap.lt_size e
 | tup xs=>obtain ⟨_,_,_,p⟩:=x; exact p.lt
 | dK kvs=>obtain ⟨_,_,_,_,o,_,_,e,_⟩:=x; exact Heap.lt_size e
 | dT kvs=>obtain ⟨_,_,_,_,o,_,_,e,_⟩:=x; exact Heap.lt_size e
 | set S n=>obtain ⟨o,_,_,_,e,_⟩:=x; exact Heap.lt_size e
 | ins C dx fs=>obtain ⟨_,_,_,e,_⟩:=x; exact Heap.lt_size e
 | own y=>obtain ⟨_,e⟩:=x; exact Heap.lt_size e
 | xd fs=>obtain ⟨_,⟨_,_,_,e,_⟩,_⟩:=x; exact Heap.lt_size e
 | rng lo hi=>obtain ⟨_,_,_,e⟩:=x; exact Heap.lt_size e
 | frz ob u=>obtain ⟨e,_⟩:=x; exact Heap.lt_size e
 | tbl ps=>exact Heap.lt_size (show h.get? a=some _ from x)
 | met f y=>exact Heap.lt_size (show h.get? a=some _ from x)
 | ext φ=>obtain ⟨_,⟨_,e⟩,_⟩:=x; exact Heap.lt_size e
theorem Paired.mapP {α β:Type} {F G:α->β->Prop}:∀ {l₁:List α} {l₂:List β},Paired F l₁ l₂->(∀ a b,F a b->G a b)->Paired G l₁ l₂
 | _,_,.nil,_=>.nil
 | _,_,.cons r t,f=>.cons (f _ _ r) (Paired.mapP t f)
theorem ObjOk.stay (x:ObjOk P w H h a o) (k:∀ b u,(b=a\/H b=some (.own a))->h.get? b=some u->h'.get? b=some u)
  (ho:∀ b,H b=some (.own a)->H' b=some (.own a)) (ht:∀ b xs,H b=some (.tup xs)->H' b=some (.tup xs)):ObjOk P w H' h' a o:=by
 induction o with
 | lst xs=>obtain ⟨z,its,n,r,e⟩:=x; exact ⟨z,its,n,r,k _ _ (.inl rfl) e⟩
 | tup xs=>obtain ⟨z,its,r,ob,e,c⟩:=x; exact ⟨z,its,r,ob,k _ _ (.inl rfl) e,c⟩
 | dK kvs=>obtain ⟨z,y,vs,r,ob,es,ep,e,c⟩:=x; exact ⟨z,y,vs,r,ob,es,ep,k _ _ (.inl rfl) e,c⟩
 | dT kvs =>
  obtain ⟨z,y,xs,r,ob,es,ep,e,c⟩:=x
  exact ⟨z,y,xs,Paired.mapP r fun p q z=>⟨z.1,ht _ _ z.2.1,z.2.2⟩,ob,es,ep,k _ _ (.inl rfl) e,c⟩
 | set S n=>obtain ⟨ob,es,ep,t,e,c⟩:=x; exact ⟨ob,es,ep,t,k _ _ (.inl rfl) e,c⟩
 | ins C dx fs =>
  obtain ⟨d,z,ne,e,mA,⟨od,es,ep,e2,c⟩,r⟩:=x
  exact ⟨ho _ d,z,ne,k _ _ (.inl rfl) e,mA,⟨od,es,ep,k _ _ (.inr d) e2,c⟩,r⟩
 | own y=>obtain ⟨ob,e⟩:=x; exact ⟨ob,k _ _ (.inl rfl) e⟩
 | xd fs=>obtain ⟨mA,⟨od,es,ep,e,c⟩,r⟩:=x; exact ⟨mA,⟨od,es,ep,k _ _ (.inl rfl) e,c⟩,r⟩
 | rng lo hi=>obtain ⟨t,u,v,e⟩:=x; exact ⟨t,u,v,k _ _ (.inl rfl) e⟩
 | frz ob u ih=>obtain ⟨e,q⟩:=x; exact ⟨k _ _ (.inl rfl) e,ih q⟩
 | tbl ps =>
  have e:h.get? a=some { cls:=.none,data:=.fields ps }:=x
  show h'.get? a=some { cls:=.none,data:=.fields ps }
  exact k a _ (.inl rfl) e
 | met f y =>
  have e:h.get? a=some (W.methodObj (.ref f) (.ref y)):=x
  show h'.get? a=some (W.methodObj (.ref f) (.ref y))
  exact k a _ (.inl rfl) e
 | ext φ=>obtain ⟨p,⟨o,e⟩,st⟩:=x; exact ⟨st _ _ p fun o q=>k _ _ (.inl rfl) q,⟨o,k _ _ (.inl rfl) e⟩,st⟩
theorem HOk.lt (x:HOk P w H h) (e:H a=some o):a < h.objs.size:=(x a o e).lt
theorem HOk.fresh (x:HOk P w H h) (e:h.objs.size<=a):H a=none:=by
 cases q:H a with
 | none=>rfl
 | some u=>exact absurd (Nat.lt_of_lt_of_le (x.lt q) e) (Nat.lt_irrefl _)
theorem HOk.kept (x:HOk P w H h) (k:∀ b u,h.get? b=some u->h'.get? b=some u):HOk P w H h':=fun a o e =>
 (x a o e).stay (fun b u _ q=>k b u q) (fun _ q=>q) fun _ _ q=>q
theorem HOk.laid (x:HOk P w H h) (k:∀ b u,h.get? b=some u->h'.get? b=some u) (hp:h.objs.size<=a) (new:ObjOk P w (upd H a o) h' a o):HOk P w (upd H a o) h':=fun b u e=>by
 have hn:=x.fresh hp
 by_cases hb:b=a
 ·subst hb; rw [upd_same] at e; cases e; exact new
 ·rw [upd_ne hb] at e
  exact (x b u e).stay (fun c v _ q=>k c v q) (fun c q=>by rw [upd_ne (ne_of_none q hn)]; exact q) fun c xs q=>by rw [upd_ne (ne_of_none q hn)]; exact q
end
def Rd (H:Hp) (a:Addr) (u:HO):Prop:=H a=some u\/∃ o,H a=some (.frz o u)
theorem Rd.ok {P:Program} {w:World} {H:Hp} {h:Heap} {a:Addr} {u:HO} (r:Rd H a u) (x:HOk P w H h):ObjOk P w H h a u:=by
 rcases r with r | ⟨o,r⟩
 ·exact x a u r
 ·obtain ⟨_,q⟩:=x a _ r
  exact q
def Mut:Option HO->Prop
 | some (.lst _)=>True
 | some (.dK _)=>True
 | some (.dT _)=>True
 | some (.set _ _)=>True
 | some (.ins _ _ _)=>True
 | some (.ext _)=>True
 | _=>False
section
variable {P:Program} {w:World} {H:Hp} {h h':Heap} {x e:Addr} {o':HO}
theorem HOk.write (ok:HOk P w H h) (mu:Mut (H x)) (he:e=x\/H e=some (.own x)) (k:∀ b u,b≠e->h.get? b=some u->h'.get? b=some u) (heo:∃ u,h'.get? e=some u)
  (new:ObjOk P w (upd H x o') h' x o'):HOk P w (upd H x o') h':=fun b u q=>by
 have nown:∀ c y,H c=some (.own y)->c≠x:=fun c y r z=>by subst z; rw [r] at mu; exact mu
 have ntup:∀ c xs,H c=some (.tup xs)->c≠x:=fun c xs r z=>by subst z; rw [r] at mu; exact mu
 by_cases hb:b=x
 ·subst hb; rw [upd_same] at q; cases q; exact new
 ·rw [upd_ne hb] at q
  by_cases hbe:b=e
  ·have q':H b=some (.own x):=by
    rcases he with z | z
    ·exact absurd (hbe.trans z) hb
    ·rw [hbe]; exact z
   rw [q] at q'; cases q'
   obtain ⟨v,hv⟩:=heo
   exact ⟨v,by rw [hbe]; exact hv⟩
  ·refine (ok b u q).stay (fun c v hc r=>k c v ?_ r) (fun c r=>by rw [upd_ne (nown c b r)]; exact r) fun c xs r=>by rw [upd_ne (ntup c xs r)]; exact r
   rcases hc with rfl | hc
   ·exact hbe
   ·rintro rfl
    rcases he with z | z
    ·exact nown c b hc z
    ·rw [hc] at z; cases z; exact hb rfl
end
structure Un (fs ex:List Addr) (H H':Hp) (h h':Heap):Prop where
 keep:∀ b o,h.get? b=some o->H b=none->b∉fs->b∉ex->h'.get? b=some o
 slot:∀ b o,h.get? b=some o->H b=none->b∈fs->b∉ex->∃ sl,h'.get? b=some { o with slots:=sl }
 free:∀ b o,h.get? b=some o->H b=none->b∉ex->H' b=none
 there:∀ b o,h.get? b=some o->b∉ex->∃ o',h'.get? b=some o'
 tups:∀ b xs,H b=some (.tup xs)->H' b=some (.tup xs)
 frzs:∀ b o u,H b=some (.frz o u)->H' b=some (.frz o u)
 tbls:∀ b ps,H b=some (.tbl ps)->∃ more,H' b=some (.tbl (ps++more))
section
variable {fs ex:List Addr} {H H1 H2:Hp} {h h1 h2 h':Heap} {a x e:Addr} {o:HO}
theorem Un.any (u:Un fs ex H H1 h h1) {b:Addr} {ob:Obj} (q:h.get? b=some ob) (n:H b=none) (hx:b∉ex):∃ sl,h1.get? b=some { ob with slots:=sl }:=by
 by_cases hb:b∈fs
 ·exact u.slot b ob q n hb hx
 ·exact ⟨ob.slots,u.keep b ob q n hb hx⟩
theorem Un.trans (a:Un fs ex H H1 h h1) (b:Un fs ex H1 H2 h1 h2):Un fs ex H H2 h h2 where
 keep:=fun c ob q n hc hx=>b.keep c ob (a.keep c ob q n hc hx) (a.free c ob q n hx) hc hx
 slot:=fun c ob q n hc hx=>by
  obtain ⟨sl,e1⟩:=a.slot c ob q n hc hx
  obtain ⟨sl',e2⟩:=b.slot c _ e1 (a.free c ob q n hx) hc hx
  exact ⟨sl',e2⟩
 free:=fun c ob q n hx=>by
  obtain ⟨o',e1⟩:=a.there c ob q hx
  exact b.free c o' e1 (a.free c ob q n hx) hx
 there:=fun c ob q hx=>by
  obtain ⟨o',e1⟩:=a.there c ob q hx
  exact b.there c o' e1 hx
 tups:=fun c xs q=>b.tups c xs (a.tups c xs q)
 frzs:=fun c ob xs q=>b.frzs c ob xs (a.frzs c ob xs q)
 tbls:=fun c ps q=>by
  obtain ⟨m1,e1⟩:=a.tbls c ps q
  obtain ⟨m2,e2⟩:=b.tbls c _ e1
  exact ⟨m1++m2,by rw [e2,Array.append_assoc]⟩
theorem Un.kept (k:∀ b u,h.get? b=some u->h'.get? b=some u):Un fs ex H H h h' :=
 ⟨fun b ob q _ _ _=>k b ob q,fun b ob q _ _ _=>⟨ob.slots,k b ob q⟩,fun _ _ _ n _=>n,fun b ob q _=>⟨ob,k b ob q⟩,fun _ _ q=>q,fun _ _ _ q=>q,fun _ ps q=>⟨#[],by rw [q]; simp⟩⟩
theorem Un.refl:Un fs ex H H h h:=Un.kept fun _ _ q=>q
theorem Un.laid (k:∀ b u,h.get? b=some u->h'.get? b=some u) (hp:h.objs.size<=a) (hn:H a=none):Un fs ex H (upd H a o) h h' where
 keep:=fun b u q _ _ _=>k b u q
 slot:=fun b u q _ _ _=>⟨u.slots,k b u q⟩
 free:=fun b u q n _=>by rw [upd_ne (Nat.ne_of_lt (Nat.lt_of_lt_of_le (Heap.lt_size q) hp))]; exact n
 there:=fun b u q _=>⟨u,k b u q⟩
 tups:=fun b xs q=>by rw [upd_ne (ne_of_none q hn)]; exact q
 frzs:=fun b u xs q=>by rw [upd_ne (ne_of_none q hn)]; exact q
 tbls:=fun b ps q=>⟨#[],by rw [upd_ne (ne_of_none q hn),q]; simp⟩
theorem Un.write (mu:Mut (H x)) (he:e=x\/H e=some (.own x)) (k:∀ b u,b≠e->h.get? b=some u->h'.get? b=some u) (heo:∃ u,h'.get? e=some u):Un fs ex H (upd H x o) h h':=by
 have hx:∀ b,H b=none->b≠x:=fun b n z=>by subst z; rw [n] at mu; exact mu
 have hb:∀ b,H b=none->b≠e:=fun b n z=>by
  subst z
  rcases he with r | r
  ·exact hx b n r
  ·rw [n] at r; cases r
 have hm:∀ b u,H b=some u->¬ Mut (some u)->b≠x:=fun b u q nm z=>by subst z; rw [q] at mu; exact nm mu
 refine ⟨fun b u q n _ _=>k b u (hb b n) q,fun b u q n _ _=>⟨u.slots,k b u (hb b n) q⟩,fun b u q n _=>by rw [upd_ne (hx b n)]; exact n,fun b u q _=>?_,
  fun b xs q=>by rw [upd_ne (hm b _ q fun z=>z)]; exact q,fun b u xs q=>by rw [upd_ne (hm b _ q fun z=>z)]; exact q,fun b ps q=>⟨#[],by rw [upd_ne (hm b _ q fun z=>z),q]; simp⟩⟩
 by_cases hbe:b=e
 ·subst hbe; exact heo
 ·exact ⟨u,k b u hbe q⟩
end
def trk (h:Heap) (H:Hp):List Addr:=(List.range h.objs.size).filter fun a=>(H a).isSome
def hidT (h:Heap) (H:Hp):Heap:=W.hideAll h (trk h H)
theorem hidT_size (h:Heap) (H:Hp):(hidT h H).objs.size=h.objs.size:=W.hideAll_size _ _
theorem hidT_get {h:Heap} {H:Hp} {b:Addr} {o:Obj} (e:h.get? b=some o) (n:H b=none):(hidT h H).get? b=some o :=
 W.hideAll_get _ e fun hm=>by
  have q:(H b).isSome=true:=(List.mem_filter.mp hm).2
  rw [n] at q; simp at q
theorem of_hidT {h:Heap} {H:Hp} {b:Addr} {o:Obj} (e:(hidT h H).get? b=some o):h.get? b=some o/\H b=none:=by
 have e':h.get? b=some o:=W.of_hideAll (trk h H) e
 refine ⟨e',?_⟩
 cases q:H b with
 | none=>rfl
 | some x =>
  have hm:b∈trk h H:=List.mem_filter.mpr ⟨List.mem_range.mpr (Heap.lt_size e'),by simp [q]⟩
  have z:(hidT h H).get? b=none:=W.hideAll_none (trk h H) hm
  rw [z] at e; cases e
def allNews (g h:Heap) (L:Addr):List (Addr×Obj):=(List.range h.objs.size).filterMap fun a=>if a=L\/(g.get? a).isSome=true then none else (h.get? a).map fun o=>(a,o)
def rest (g h:Heap) (L d:Addr):List (Addr×Obj):=(allNews g h L).filter fun p=>decide (p.1≠d)
structure Mod (K:W.Frag) (mg:Str->Option Value) (base:Heap):Prop where
 kin:K.In base
 glob:base.Ns mainGlobals mg
 blt:∃ mb,base.Ns builtinsNs mb/\∀ x:Str,x≠"__name__"->mb x=bootBuiltins x
 nolimit:base.NoLimit
structure Cx where
 prog:Program
 w:World
 K:W.Frag
 mg:Str->Option Value
 base:Heap
 A:Around
 N:List Str
 s₀:Shared
 H₀:Hp
 env:Env
 outer:List Env
 stack:List Env
 ex:List Addr
 fn:Str->Bool
 calm:Bool
 pn:List (Addr×Obj)
 xe:Value->Shared->Prop
def frs (l:List Env):List Addr:=l.filterMap (·.frame)
abbrev Cx.fs (X:Cx):List Addr:=frs X.outer
def Vis (sc:Scope) (x:Str):Prop:=sc.names.lookup x=some .local\/sc.names.lookup x=some .cell\/sc.names.lookup x=some .free
def Loc (sc:Scope) (x:Str):Prop:=sc.names.lookup x=some .local\/sc.names.lookup x=some .cell
def Look (env:Env) (h:Heap) (m:Str->Option Value) (x:Str) (u:Value):Prop :=
 (env.kindOf x=some .local/\m x=some u)\/((env.kindOf x=some .cell\/env.kindOf x=some .free)/\∃ c,env.cells.lookup x=some c/\h.IsCell c (some u))
structure Cx.Ok (X:Cx):Prop where
 mod:Mod X.K X.mg X.base
 kind:X.env.scope.kind=.function
 glob:X.env.globals=mainGlobals
 blt:X.env.builtins=builtinsNs
 above:X.s₀.heap.objs.size<=X.env.locals
 inj:∀ x y c,X.env.cells.lookup x=some c->X.env.cells.lookup y=some c->x=y
 has:∀ x,(X.env.kindOf x=some .cell\/X.env.kindOf x=some .free)->∃ c,X.env.cells.lookup x=some c
 cab:∀ x c,X.fn x=true->X.env.cells.lookup x=some c->X.s₀.heap.objs.size<=c
 hd:X.calm=true->X.A.handled=none
 frames:X.A.frames=some X.stack
 stk:X.stack=X.outer\/(X.stack=X.env::X.outer/\X.env.frame=some X.env.locals)
 exf:∀ b∈X.ex,b≠X.env.locals/\∀ x c,X.env.cells.lookup x=some c->c≠b
 bs:∀ b o,X.base.get? b=some o->X.s₀.heap.get? b=some o/\X.H₀ b=none
 bsz:X.base.objs.size<=X.s₀.heap.objs.size
 noex:∀ b o,X.base.get? b=some o->b∉X.ex
 exfs:∀ b∈X.ex,b∉X.fs
 funs:X.s₀.heap.FunFrames X.base X.outer
 frf:∀ b∈X.fs,X.H₀ b=none
structure Inv (X:Cx) (pins:List (Addr×Obj)) (σ:List (Option V)) (H:Hp) (s:Shared):Prop where
 ok:X.Ok
 os:s.os=X.s₀.os
 bare:AllBare s.gens
 base:Un X.fs X.ex X.H₀ H X.s₀.heap s.heap
 loc:∃ m,s.heap.Ns X.env.locals m/\∀ (i:Nat) (x:Str) (v:V),X.N[i]?=some x->σ[i]?=some (some v)->Vis X.env.scope x->∃ u,RelV v u/\Look X.env s.heap m x u
 cell:∀ x c,X.env.cells.lookup x=some c->∃ v,s.heap.IsCell c v
 free:H X.env.locals=none
 freeC:∀ x c,X.env.cells.lookup x=some c->H c=none
 pin:∀ p∈X.pn++pins,s.heap.get? p.1=some p.2/\H p.1=none/\p.1≠X.env.locals/\p.1∉X.fs/\∀ v,p.2.data≠.cell v
 hok:HOk X.prog X.w H s.heap
 len:σ.length=X.N.length
section
variable {X:Cx} {pins:List (Addr×Obj)} {σ:List (Option V)} {H H':Hp} {s:Shared} {h':Heap}
theorem Cx.Ok.nofr (ok:X.Ok) {b:Addr} {o:Obj} (e:X.base.get? b=some o):b∉X.fs:=fun hb=>by
 have:=(ok.funs.mem hb).1
 rw [e] at this; cases this
theorem Inv.bs (I:Inv X pins σ H s):∀ b o,X.base.get? b=some o->s.heap.get? b=some o/\H b=none:=fun b o e =>
 ⟨I.base.keep b o (I.ok.bs b o e).1 (I.ok.bs b o e).2 (I.ok.nofr e) (I.ok.noex b o e),I.base.free b o (I.ok.bs b o e).1 (I.ok.bs b o e).2 (I.ok.noex b o e)⟩
theorem Inv.bk (I:Inv X pins σ H s):∀ b o,X.base.get? b=some o->s.heap.get? b=some o:=fun b o e=>(I.bs b o e).1
theorem Inv.mod (I:Inv X pins σ H s):Mod X.K X.mg X.base:=I.ok.mod
theorem Inv.kIn (I:Inv X pins σ H s):X.K.In s.heap:=I.ok.mod.kin.keeps I.bk
theorem Inv.fr (I:Inv X pins σ H s):∃ m,Fr X.base X.env.locals s.heap m :=
 let ⟨m,hn,_⟩:=I.loc
 ⟨m,hn,I.bk,Nat.le_trans I.ok.bsz I.ok.above⟩
theorem Inv.lt (I:Inv X pins σ H s):X.env.locals < s.heap.objs.size:=let ⟨_,hn,_⟩:=I.loc; hn.lt
theorem Inv.sz (I:Inv X pins σ H s):X.s₀.heap.objs.size<=s.heap.objs.size:=Nat.le_trans I.ok.above (Nat.le_of_lt I.lt)
theorem Inv.nofs (I:Inv X pins σ H s) {a:Addr} (h:s.heap.objs.size<=a):a∉X.fs:=fun hb=>by
 obtain ⟨_,o,ho,_⟩:=I.ok.funs.mem hb
 exact absurd (Nat.lt_of_lt_of_le (Heap.lt_size ho) (Nat.le_trans I.sz h)) (Nat.lt_irrefl _)
theorem Inv.cne (I:Inv X pins σ H s):∀ x c,X.env.cells.lookup x=some c->c≠X.env.locals:=fun x c e z=>by
 obtain ⟨v,o,ho,hd⟩:=I.cell x c e
 obtain ⟨m,⟨o',es,ep,ho',hd',_⟩,_⟩:=I.loc
 rw [z,ho'] at ho; cases ho; rw [hd'] at hd; cases hd
theorem Inv.funs (I:Inv X pins σ H s):s.heap.FunFrames X.base X.outer:=by
 have all:∀ (l:List Env),(∀ b∈frs l,b∈X.fs)->X.s₀.heap.FunFrames X.base l->s.heap.FunFrames X.base l:=by
  intro l
  induction l with
  | nil=>intro _ _; trivial
  | cons env r ih =>
   intro hs hl
   obtain ⟨hk,⟨L,o,hf,hn,ho,hd⟩,hr⟩:=hl
   have hL:L∈X.fs:=hs L (by unfold frs; rw [List.filterMap_cons,hf]; exact List.mem_cons_self)
   obtain ⟨sl,e⟩:=I.base.slot L o ho (I.ok.frf L hL) hL fun z=>I.ok.exfs L z hL
   exact ⟨hk,⟨L,_,hf,hn,e,hd⟩,ih (fun b hb=>hs b (by unfold frs; rw [List.filterMap_cons,hf]; exact List.mem_cons_of_mem _ hb)) hr⟩
 exact all X.outer (fun _ hb=>hb) I.ok.funs
theorem Inv.stack (I:Inv X pins σ H s):s.heap.FunFrames X.base X.stack:=by
 rcases I.ok.stk with e | ⟨e,hf⟩
 ·rw [e]; exact I.funs
 ·rw [e]
  obtain ⟨m,hn,_⟩:=I.loc
  refine .cons (by rw [I.ok.kind]; decide) hf hn ?_ I.funs
  exact Heap.get?_none_of_le (Nat.le_trans I.ok.bsz I.ok.above)
theorem Inv.stkSub (I:Inv X pins σ H s):∀ b∈frs X.stack,b∈X.env.locals::X.fs:=fun b hb=>by
 rcases I.ok.stk with e | ⟨e,hf⟩
 ·rw [e] at hb; exact List.mem_cons_of_mem _ hb
 ·rw [e] at hb
  unfold frs at hb
  rw [List.filterMap_cons,hf] at hb
  exact hb
theorem Inv.stkFree (I:Inv X pins σ H s):∀ b∈frs X.stack,H b=none:=fun b hb=>by
 rcases List.mem_cons.mp (I.stkSub b hb) with e | hb
 ·rw [e]; exact I.free
 ·obtain ⟨_,o,ho,_⟩:=I.ok.funs.mem hb
  exact I.base.free b o ho (I.ok.frf b hb) fun z=>I.ok.exfs b z hb
theorem Inv.step {g':Array GenState} {t':Nat} {d':Drawn} {ch:List Addr} (I:Inv X pins σ H s)
  (hch:∀ b∈ch,(b∈X.ex\/X.s₀.heap.objs.size<=b)/\b≠X.env.locals/\(∀ x c,X.env.cells.lookup x=some c->c≠b)/\∀ p∈X.pn++pins,p.1≠b)
  (keep:∀ b o,b≠X.env.locals->b∉X.fs->b∉ch->s.heap.get? b=some o->H b=none->h'.get? b=some o)
  (slot:∀ b o,b≠X.env.locals->b∈X.fs->b∉ch->s.heap.get? b=some o->H b=none->∃ sl,h'.get? b=some { o with slots:=sl }) (free:∀ b o,b∉ch->s.heap.get? b=some o->H b=none->H' b=none)
  (there:∀ b o,b∉ch->s.heap.get? b=some o->∃ o',h'.get? b=some o')
  (tups:∀ b xs,H b=some (.tup xs)->H' b=some (.tup xs)) (frzs:∀ b o u,H b=some (.frz o u)->H' b=some (.frz o u)) (tbls:∀ b ps,H b=some (.tbl ps)->∃ more,H' b=some (.tbl (ps++more)))
  (ns:∀ m,s.heap.Ns X.env.locals m->h'.Ns X.env.locals m) (hok:HOk X.prog X.w H' h') (hg:AllBare g') :
  Inv X pins σ H' { s with heap:=h',gens:=g',drawn:=d',toks:=t' }:=by
 have neL:∀ b o,X.s₀.heap.get? b=some o->b≠X.env.locals:=fun b o e=>Nat.ne_of_lt (Nat.lt_of_lt_of_le (Heap.lt_size e) I.ok.above)
 have neC:∀ b o,X.s₀.heap.get? b=some o->b∉X.ex->b∉ch:=fun b o e hx hb=>by
  rcases (hch b hb).1 with z | z
  ·exact hx z
  ·exact absurd (Nat.lt_of_lt_of_le (Heap.lt_size e) z) (Nat.lt_irrefl _)
 have cellK:∀ x c,X.env.cells.lookup x=some c->∀ v,s.heap.IsCell c v->h'.IsCell c v:=fun x c e v ⟨o,ho,hd⟩=>by
  have nch:c∉ch:=fun z=>(hch c z).2.2.1 x c e rfl
  by_cases hc:c∈X.fs
  ·obtain ⟨sl,q⟩:=slot c o (I.cne x c e) hc nch ho (I.freeC x c e)
   exact ⟨_,q,hd⟩
  ·exact ⟨o,keep c o (I.cne x c e) hc nch ho (I.freeC x c e),hd⟩
 refine ⟨I.ok,I.os,hg,⟨fun b o e n hb hx=>?_,fun b o e n hb hx=>?_,fun b o e n hx=>?_,fun b o e hx=>?_,fun b xs e=>tups b xs (I.base.tups b xs e),fun b o xs e=>frzs b o xs (I.base.frzs b o xs e),fun b ps e=>?_⟩,?_,fun x c e=>?_,?_,fun x c e=>?_,fun p hp=>?_,hok,I.len⟩
 ·exact keep b o (neL b o e) hb (neC b o e hx) (I.base.keep b o e n hb hx) (I.base.free b o e n hx)
 ·obtain ⟨sl,e1⟩:=I.base.slot b o e n hb hx
  obtain ⟨sl',e2⟩:=slot b _ (neL b o e) hb (neC b o e hx) e1 (I.base.free b o e n hx)
  exact ⟨sl',e2⟩
 ·obtain ⟨o',e1⟩:=I.base.there b o e hx
  exact free b o' (neC b o e hx) e1 (I.base.free b o e n hx)
 ·obtain ⟨o',e1⟩:=I.base.there b o e hx
  exact there b o' (neC b o e hx) e1
 ·obtain ⟨m1,e1⟩:=I.base.tbls b ps e
  obtain ⟨m2,e2⟩:=tbls b _ e1
  exact ⟨m1++m2,by rw [e2,Array.append_assoc]⟩
 ·obtain ⟨m,hn,hl⟩:=I.loc
  refine ⟨m,ns m hn,fun i x v e1 e2 e3=>?_⟩
  obtain ⟨u,r,l⟩:=hl i x v e1 e2 e3
  refine ⟨u,r,?_⟩
  rcases l with l | ⟨k,c,e,z⟩
  ·exact .inl l
  ·exact .inr ⟨k,c,e,cellK x c e _ z⟩
 ·obtain ⟨v,z⟩:=I.cell x c e
  exact ⟨v,cellK x c e v z⟩
 ·obtain ⟨m,⟨o,_,_,ho,_⟩,_⟩:=I.loc
  exact free _ o (fun z=>(hch _ z).2.1 rfl) ho I.free
 ·obtain ⟨v,o,ho,hd⟩:=I.cell x c e
  exact free c o (fun z=>(hch c z).2.2.1 x c e rfl) ho (I.freeC x c e)
 ·obtain ⟨e,n,ne,nf,d⟩:=I.pin p hp
  have nch:p.1∉ch:=fun z=>(hch p.1 z).2.2.2 p hp rfl
  exact ⟨keep p.1 p.2 ne nf nch e n,free p.1 p.2 nch e n,ne,nf,d⟩
theorem Inv.un {t':Nat} (I:Inv X pins σ H s) (u:Un X.fs [] H H' s.heap h') (hok:HOk X.prog X.w H' h'):Inv X pins σ H' { s with heap:=h',toks:=t' }:=by
 obtain ⟨m,⟨o,es,ep,ho,r⟩,_⟩:=id I.loc
 obtain ⟨sl,hL⟩:=u.any ho I.free (by simp)
 exact I.step (g':=s.gens) (d':=s.drawn) (ch:=[]) (fun _ z=>nomatch z) (fun b o _ hb _ e n=>u.keep b o e n hb (by simp)) (fun b o _ hb _ e n=>u.slot b o e n hb (by simp)) (fun b o _ e n=>u.free b o e n (by simp)) (fun b o _ e=>u.there b o e (by simp)) u.tups u.frzs u.tbls (fun m' hm=>by
  obtain ⟨o',es',ep',ho',r'⟩:=hm
  rw [ho] at ho'; cases ho'
  exact ⟨_,es',ep',hL,r'⟩) hok I.bare
theorem Inv.call {g':Array GenState} {t':Nat} {d':Drawn} {ch:List Addr} (I:Inv X pins σ H s) (u:Un (frs X.stack) ch H H' s.heap h') (hok:HOk X.prog X.w H' h') (hg:AllBare g')
  (hch:∀ b∈ch,(b∈X.ex\/X.s₀.heap.objs.size<=b)/\b≠X.env.locals/\(∀ x c,X.env.cells.lookup x=some c->c≠b)/\∀ p∈X.pn++pins,p.1≠b) :
  Inv X pins σ H' { s with heap:=h',gens:=g',drawn:=d',toks:=t' }:=by
 obtain ⟨m,⟨o,es,ep,ho,r⟩,_⟩:=id I.loc
 obtain ⟨sl,hL⟩:=u.any ho I.free fun z=>(hch _ z).2.1 rfl
 exact I.step (ch:=ch) hch (fun b o hL hb hc e n=>u.keep b o e n (fun z=>(List.mem_cons.mp (I.stkSub b z)).elim hL hb) hc) (fun b o _ _ hc e n=>u.any e n hc) (fun b o hc e n=>u.free b o e n hc) (fun b o hc e=>u.there b o e hc) u.tups u.frzs u.tbls (fun m' hm=>by
  obtain ⟨o',es',ep',ho',r'⟩:=hm
  rw [ho] at ho'; cases ho'
  exact ⟨_,es',ep',hL,r'⟩) hok hg
theorem Inv.turned {t':Nat} {it:Addr} (I:Inv X pins σ H s) (k:∀ b o,b≠it->s.heap.get? b=some o->h'.get? b=some o) (hn:H it=none) (hL:it≠X.env.locals)
  (h1:it∈X.ex\/X.s₀.heap.objs.size<=it) (h2:∀ x c,X.env.cells.lookup x=some c->c≠it) (h3:∀ p∈X.pn++pins,p.1≠it):Inv X pins σ H { s with heap:=h',toks:=t' }:=by
 have nit:∀ b u,H b=some u->b≠it:=fun b u e z=>by rw [z,hn] at e; cases e
 refine I.step (g':=s.gens) (d':=s.drawn) (ch:=[it]) (fun b hb=>?_) (fun b o _ _ hc e _=>k b o (fun z=>hc (by simp [z])) e) (fun b o _ _ hc e _=>⟨o.slots,k b o (fun z=>hc (by simp [z])) e⟩) (fun _ _ _ _ n=>n)
  (fun b o hc e=>⟨o,k b o (fun z=>hc (by simp [z])) e⟩) (fun _ _ e=>e) (fun _ _ _ e=>e) (fun b ps e=>⟨#[],by rw [e]; simp⟩) (fun m hm=>?_) (fun b u e=>?_) I.bare
 ·have e:b=it:=by simpa using hb
  subst e
  exact ⟨h1,hL,h2,h3⟩
 ·obtain ⟨o,es,ep,ho,r⟩:=hm
  exact ⟨o,es,ep,k _ o (Ne.symm hL) ho,r⟩
 ·refine (I.hok b u e).stay (fun c v hc q=>k c v ?_ q) (fun _ q=>q) fun _ _ q=>q
  rcases hc with z | z
  ·rw [z]; exact nit b u e
  ·exact nit c _ z
theorem Inv.tok (I:Inv X pins σ H s) (t:Nat):Inv X pins σ H { s with toks:=t }:=I.un (h':=s.heap) (t':=t) Un.refl I.hok
theorem Inv.kept {t':Nat} (I:Inv X pins σ H s) (k:∀ b u,s.heap.get? b=some u->h'.get? b=some u):Inv X pins σ H { s with heap:=h',toks:=t' }:=I.un (Un.kept k) (I.hok.kept k)
theorem Inv.laid {a:Addr} {o:HO} {t':Nat} (I:Inv X pins σ H s) (k:∀ b u,s.heap.get? b=some u->h'.get? b=some u) (hp:s.heap.objs.size<=a) (new:ObjOk X.prog X.w (upd H a o) h' a o) :
  Inv X pins σ (upd H a o) { s with heap:=h',toks:=t' }:=I.un (Un.laid k hp (I.hok.fresh hp)) (I.hok.laid k hp new)
theorem Inv.write {x e:Addr} {o:HO} {t':Nat} (I:Inv X pins σ H s) (mu:Mut (H x)) (he:e=x\/H e=some (.own x)) (k:∀ b u,b≠e->s.heap.get? b=some u->h'.get? b=some u) (heo:∃ u,h'.get? e=some u)
  (new:ObjOk X.prog X.w (upd H x o) h' x o):Inv X pins σ (upd H x o) { s with heap:=h',toks:=t' }:=I.un (Un.write mu he k heo) (I.hok.write mu he k heo new)
theorem Inv.weak {σ':List (Option V)} (I:Inv X pins σ H s) (hl:σ'.length=σ.length) (w:∀ (i:Nat) v,σ'[i]?=some (some v)->σ[i]?=some (some v)):Inv X pins σ' H s :=
 ⟨I.ok,I.os,I.bare,I.base,let ⟨m,hn,hl'⟩:=I.loc; ⟨m,hn,fun i x v e1 e2 e3=>hl' i x v e1 (w i v e2) e3⟩,I.cell,I.free,I.freeC,I.pin,I.hok,hl.trans I.len⟩
theorem Inv.pins_of {pins':List (Addr×Obj)} (I:Inv X pins σ H s) (h:∀ p∈pins',s.heap.get? p.1=some p.2/\H p.1=none/\p.1≠X.env.locals/\p.1∉X.fs/\∀ v,p.2.data≠.cell v):Inv X pins' σ H s :=
 ⟨I.ok,I.os,I.bare,I.base,I.loc,I.cell,I.free,I.freeC,fun p hp=>(List.mem_append.mp hp).elim (fun z=>I.pin p (List.mem_append_left _ z)) (h p),I.hok,I.len⟩
theorem nodup_ix {N:List Str} (hN:N.Nodup) {i j:Nat} {x:Str} (a:N[i]?=some x) (b:N[j]?=some x):i=j:=by
 obtain ⟨h1,e1⟩:=List.getElem?_eq_some_iff.mp a
 obtain ⟨h2,e2⟩:=List.getElem?_eq_some_iff.mp b
 exact (List.getElem_inj hN).mp (e1.trans e2.symm)
theorem store_ok2 {M:Model} {A:Around} {E:Value->Shared->Prop} {i:Nat} {x:Str} {v:V} {u:Value} {Q:Unit->Shared->Prop} (I:Inv X pins σ H s) (hN:X.N.Nodup) (hi:X.N[i]?=some x) (hx:Loc X.env.scope x) (r:RelV v u)
  (h:∀ s',Inv X pins (σ.set i (some v)) H s'->(∃ a,Heap.SameBut a s.heap s'.heap/\(a=X.env.locals\/X.env.cells.lookup x=some a))->Q () s') (hf:X.fn x=true\/X.env.scope.names.lookup x=some .local:=by first | exact .inl rfl | exact .inr rfl | assumption):wpAny M A (storeName X.env x u) Q E s:=by
 obtain ⟨m,hn,hl⟩:=id I.loc
 have hcls:(X.env.scope.kind == .class || (X.env.scope.kind == .module && X.env.locals != X.env.globals))=false:=by rw [I.ok.kind]; rfl
 have hiσ:i < σ.length:=by rw [I.len]; exact (List.getElem?_eq_some_iff.mp hi).1
 have cne:=I.cne
 have tracked:∀ {a:Addr} {h':Heap},(∃ o,s.heap.get? a=some o/\H a=none)->Heap.SameBut a s.heap h'->HOk X.prog X.w H h':=fun {a h'} ha hs b ob e=>by
  obtain ⟨_,_,hfree⟩:=ha
  refine (I.hok b ob e).stay (fun c w' hc q=>(hs.2 c ?_).trans q) (fun _ q=>q) fun _ _ q=>q
  rintro rfl
  rcases hc with rfl | hc
  ·rw [hfree] at e; cases e
  ·rw [hfree] at hc; cases hc
 rcases hx with hk | hk
 ·refine wpAny_storeName_local hk hn (fun h' hn' hs=>?_) hcls
  obtain ⟨oL,_,_,hoL,_⟩:=id hn
  refine h _ ⟨I.ok,I.os,I.bare,⟨fun b o e n hb hx=>?_,fun b o e n hb hx=>?_,I.base.free,fun b o e hx=>?_,I.base.tups,I.base.frzs,I.base.tbls⟩,⟨_,hn',fun j y v' e1 e2 e3=>?_⟩,fun y c e=>?_,I.free,I.freeC,fun p hp=>?_,tracked ⟨oL,hoL,I.free⟩ hs,by simpa using I.len⟩ ⟨_,hs,.inl rfl⟩
  ·exact (hs.2 b (Nat.ne_of_lt (Nat.lt_of_lt_of_le (Heap.lt_size e) I.ok.above))).trans (I.base.keep b o e n hb hx)
  ·obtain ⟨sl,e1⟩:=I.base.slot b o e n hb hx
   exact ⟨sl,(hs.2 b (Nat.ne_of_lt (Nat.lt_of_lt_of_le (Heap.lt_size e) I.ok.above))).trans e1⟩
  ·obtain ⟨o',e1⟩:=I.base.there b o e hx
   exact ⟨o',(hs.2 b (Nat.ne_of_lt (Nat.lt_of_lt_of_le (Heap.lt_size e) I.ok.above))).trans e1⟩
  ·by_cases hj:j=i
   ·subst hj
    rw [hi] at e1; cases e1
    rw [List.getElem?_set_self hiσ] at e2
    cases e2
    exact ⟨u,r,.inl ⟨hk,by simp⟩⟩
   ·rw [List.getElem?_set_ne (Ne.symm hj)] at e2
    obtain ⟨u',r',q⟩:=hl j y v' e1 e2 e3
    refine ⟨u',r',?_⟩
    rcases q with ⟨k,e⟩ | ⟨k,c,e,z⟩
    ·refine .inl ⟨k,?_⟩
     have:y≠x:=fun e=>hj (nodup_ix hN e1 (e ▸ hi))
     simp [this,e]
    ·exact .inr ⟨k,c,e,z.sameBut hs (cne y c e)⟩
  ·obtain ⟨w',z⟩:=I.cell y c e
   exact ⟨w',z.sameBut hs (cne y c e)⟩
  ·obtain ⟨e,n,ne,nf,d⟩:=I.pin p hp
   exact ⟨(hs.2 p.1 ne).trans e,n,ne,nf,d⟩
 ·have hfn:X.fn x=true:=by
   rcases hf with z | z
   ·exact z
   ·rw [z] at hk; cases hk
  obtain ⟨c,hc⟩:=I.ok.has x (.inl hk)
  obtain ⟨w',z⟩:=I.cell x c hc
  refine wpAny_storeName_cell I.ok.kind hk hc z (fun h' hc' hs=>?_)
  obtain ⟨oc,hoc,hocd⟩:=id z
  refine h { s with heap:=h' } ⟨I.ok,I.os,I.bare,⟨fun b o e n hb hx=>?_,fun b o e n hb hx=>?_,I.base.free,fun b o e hx=>?_,I.base.tups,I.base.frzs,I.base.tbls⟩,⟨m,hn.sameBut hs (Ne.symm (cne x c hc)),fun j y v' e1 e2 e3=>?_⟩,fun y c' e=>?_,I.free,I.freeC,fun p hp=>?_,tracked ⟨oc,hoc,I.freeC x c hc⟩ hs,by simpa using I.len⟩ ⟨c,hs,.inr hc⟩
  ·exact (hs.2 b (Nat.ne_of_lt (Nat.lt_of_lt_of_le (Heap.lt_size e) (I.ok.cab x c hfn hc)))).trans (I.base.keep b o e n hb hx)
  ·obtain ⟨sl,e1⟩:=I.base.slot b o e n hb hx
   exact ⟨sl,(hs.2 b (Nat.ne_of_lt (Nat.lt_of_lt_of_le (Heap.lt_size e) (I.ok.cab x c hfn hc)))).trans e1⟩
  ·obtain ⟨o',e1⟩:=I.base.there b o e hx
   exact ⟨o',(hs.2 b (Nat.ne_of_lt (Nat.lt_of_lt_of_le (Heap.lt_size e) (I.ok.cab x c hfn hc)))).trans e1⟩
  ·by_cases hj:j=i
   ·subst hj
    rw [hi] at e1; cases e1
    rw [List.getElem?_set_self hiσ] at e2
    cases e2
    exact ⟨u,r,.inr ⟨.inl hk,c,hc,hc'⟩⟩
   ·rw [List.getElem?_set_ne (Ne.symm hj)] at e2
    obtain ⟨u',r',q⟩:=hl j y v' e1 e2 e3
    refine ⟨u',r',?_⟩
    rcases q with q | ⟨k,c',e,z'⟩
    ·exact .inl q
    ·refine .inr ⟨k,c',e,z'.sameBut hs ?_⟩
     rintro rfl
     exact hj (nodup_ix hN e1 (I.ok.inj _ _ _ e hc ▸ hi))
  ·by_cases hcc:c'=c
   ·subst hcc; exact ⟨_,hc'⟩
   ·obtain ⟨w2,z2⟩:=I.cell y c' e
    exact ⟨w2,z2.sameBut hs hcc⟩
  ·obtain ⟨e,n,ne,nf,d⟩:=I.pin p hp
   refine ⟨(hs.2 p.1 ?_).trans e,n,ne,nf,d⟩
   intro q
   rw [q,hoc] at e
   have q':oc=p.2:=Option.some.inj e
   exact d w' (by rw [<- q']; exact hocd)
theorem store_ok {M:Model} {A:Around} {E:Value->Shared->Prop} {i:Nat} {x:Str} {v:V} {u:Value} {Q:Unit->Shared->Prop} (I:Inv X pins σ H s) (hN:X.N.Nodup) (hi:X.N[i]?=some x) (hx:Loc X.env.scope x) (r:RelV v u)
  (h:∀ s',Inv X pins (σ.set i (some v)) H s'->Q () s') (hf:X.fn x=true\/X.env.scope.names.lookup x=some .local:=by first | exact .inl rfl | exact .inr rfl | assumption):wpAny M A (storeName X.env x u) Q E s :=
 store_ok2 I hN hi hx r (fun s' I' _=>h s' I') hf
theorem Inv.call' {s':Shared} {ch:List Addr} (I:Inv X pins σ H s) (ho:s'.os=s.os) (u:Un (frs X.stack) ch H H' s.heap s'.heap) (hok:HOk X.prog X.w H' s'.heap) (hg:AllBare s'.gens)
  (hch:∀ b∈ch,(b∈X.ex\/X.s₀.heap.objs.size<=b)/\b≠X.env.locals/\(∀ x c,X.env.cells.lookup x=some c->c≠b)/\∀ p∈X.pn++pins,p.1≠b):Inv X pins σ H' s':=by
 obtain ⟨h',g',d',t',o'⟩:=s'
 have e:o'=s.os:=ho
 subst e
 exact I.call (g':=g') (t':=t') (d':=d') u hok hg hch
end
abbrev XK:=Value->Option Addr->Hp->Prop
abbrev St:=List (Option V)
abbrev VK:=V->Hp->Prop
abbrev TE:=St->Hp->VK->Prop
abbrev TT:=St->Hp->(Bool->Hp->Prop)->Prop
abbrev TA:=St->Hp->(List V->Hp->Prop)->Prop
structure Ends where
 nx:St->Hp->Prop
 rt:VK
 bk:St->Hp->Prop:=fun _ _=>False
 ct:St->Hp->Prop:=fun _ _=>False
abbrev TS:=Ends->St->Hp->Prop
def EP (X:Cx) (pins:List (Addr×Obj)) (σ:St) (Q:VK) (u:Value) (s':Shared):Prop:=∃ v H',Inv X pins σ H' s'/\RelV v u/\Q v H'
def TP (X:Cx) (pins:List (Addr×Obj)) (σ:St) (Q:Bool->Hp->Prop) (b:Bool) (s':Shared):Prop:=∃ H',Inv X pins σ H' s'/\Q b H'
def AP (X:Cx) (pins:List (Addr×Obj)) (σ:St) (Q:List V->Hp->Prop) (us:List Value) (s':Shared):Prop:=∃ vs H',Inv X pins σ H' s'/\Vals vs us/\Q vs H'
def SP (X:Cx) (pins:List (Addr×Obj)) (D:Ends) (f:Flow) (s':Shared):Prop :=
 match f with
 | .next=>∃ σ' H',Inv X pins σ' H' s'/\D.nx σ' H'
 | .brk=>∃ σ' H',Inv X pins σ' H' s'/\D.bk σ' H'
 | .cont=>∃ σ' H',Inv X pins σ' H' s'/\D.ct σ' H'
 | .ret u=>∃ v σ' H',Inv X pins σ' H' s'/\RelV v u/\D.rt v H'
def PE (X:Cx) (e:Expr) (t:TE):Prop :=
 ∀ (pins:List (Addr×Obj)) (s:Shared) (σ:St) (H:Hp) (Q:VK),Inv X pins σ H s->t σ H Q->wpAny (model X.prog X.w) X.A (eval e X.env) (EP X pins σ Q) X.xe s
def PT (X:Cx) (e:Expr) (t:TT):Prop :=
 ∀ (pins:List (Addr×Obj)) (s:Shared) (σ:St) (H:Hp) (Q:Bool->Hp->Prop),Inv X pins σ H s->t σ H Q->wpAny (model X.prog X.w) X.A (isTrue e X.env (eval e X.env)) (TP X pins σ Q) X.xe s
def PW (X:Cx) (e:Expr) (t:TT):Prop :=
 ∀ (whole:Sem Value) (pins:List (Addr×Obj)) (s:Shared) (σ:St) (H:Hp) (Q:Bool->Hp->Prop),Inv X pins σ H s->t σ H Q->wpAny (model X.prog X.w) X.A (isTrue e X.env whole) (TP X pins σ Q) X.xe s
theorem PW.pt {X:Cx} {e:Expr} {t:TT} (h:PW X e t):PT X e t:=h _
def PA (X:Cx) (es:List Expr) (t:TA):Prop :=
 ∀ (pos:Pos) (pins:List (Addr×Obj)) (s:Shared) (σ:St) (H:Hp) (Q:List V->Hp->Prop),Inv X pins σ H s->t σ H Q->wpAny (model X.prog X.w) X.A (spliced (backTo pos (starEach es X.env))) (AP X pins σ Q) X.xe s
def PS (X:Cx) (st:Stmt) (t:TS):Prop :=
 ∀ (pins:List (Addr×Obj)) (s:Shared) (σ:St) (H:Hp) (D:Ends),Inv X pins σ H s->t D σ H->wpAny (model X.prog X.w) X.A (exec st X.env) (SP X pins D) X.xe s
def PSs (X:Cx) (st:List Stmt) (t:TS):Prop :=
 ∀ (pins:List (Addr×Obj)) (s:Shared) (σ:St) (H:Hp) (D:Ends),Inv X pins σ H s->t D σ H->wpAny (model X.prog X.w) X.A (execs st X.env) (SP X pins D) X.xe s
theorem thn {α:Type} {t:Sem α} {Q Q':α->Shared->Prop} {M:Model} {A:Around} {E:Value->Shared->Prop} {s:Shared} (h:wpAny M A t Q E s) (hQ:∀ a s,Q a s->Q' a s):wpAny M A t Q' E s:=wpAny_mono h hQ fun _ _ x=>x
section
variable {X:Cx}
def tVar (i:Nat):TE:=fun σ H Q=>∃ v,σ[i]?=some (some v)/\Q v H
def tC (v:V):TE:=fun _ H Q=>Q v H
theorem pe_var {i:Nat} {x:Str} {pos:Pos} (hN:X.N[i]?=some x) (hv:Vis X.env.scope x) (hd:(x == ("__debug__":Str))=false:=by decide) (hcd:(x == ("__classdict__":Str))=false:=by decide):PE X (.Name x pos) (tVar i):=by
 intro pins s σ H Q I h
 obtain ⟨v,e,h⟩:=h
 obtain ⟨m,hn,hl⟩:=I.loc
 obtain ⟨u,r,l⟩:=hl i x v hN e hv
 have fin:EP X pins σ Q u s:=⟨v,H,I,r,h⟩
 rcases l with ⟨hk,hm⟩ | ⟨hk,c,hc,hcell⟩
 ·exact wpAny_Name (wpAny_loadName_local I.ok.kind hk hn hm fin) hd
 ·rcases hk with hk | hk
  ·exact wpAny_Name (wpAny_loadName_cell I.ok.kind hk hc hcell fin) hd
  ·exact wpAny_Name (wpAny_loadName_free I.ok.kind hk hc hcell fin hcd) hd
theorem pe_int {i j pos}:PE X (.Constant (.int i) j pos) (tC (.int i)):=fun _ _ _ H _ I h=>wpAny_Constant_int ⟨.int i,H,I.tok _,⟨_,rfl⟩,h⟩
theorem pe_bl {b j pos}:PE X (.Constant (.bool b) j pos) (tC (.bl b)):=fun _ _ _ H _ I h=>Constant_bool ⟨.bl b,H,I,rfl,h⟩
theorem pe_non {j pos}:PE X (.Constant .none j pos) (tC .non):=fun _ _ _ H _ I h=>Constant_none ⟨.non,H,I,rfl,h⟩
theorem pe_str {x j pos}:PE X (.Constant (.str x) j pos) (tC (.str x)):=fun _ _ _ H _ I h=>Calls.Constant_str ⟨.str x,H,I.tok _,⟨_,rfl⟩,h⟩
def Gl (X:Cx) (x:Str):Prop:=X.env.kindOf x=some .globalImplicit
theorem ld_glob {E:Value->Shared->Prop} {pins:List (Addr×Obj)} {s:Shared} {σ:St} {H:Hp} {x:Str} {u:Value} {pos:Pos} {Q:Value->Shared->Prop} (I:Inv X pins σ H s) (hg:Gl X x) (hm:X.mg x=some u) (h:Q u s)
  (hd:(x == ("__debug__":Str))=false:=by decide):wpAny (model X.prog X.w) X.A (eval (.Name x pos) X.env) Q E s :=
 Calls.Name_function_global I.ok.kind hg (Calls.loadGlobal_global (by rw [I.ok.glob]; exact I.mod.glob.keeps I.bk) hm h) hd
theorem ld_blt {E:Value->Shared->Prop} {pins:List (Addr×Obj)} {s:Shared} {σ:St} {H:Hp} {x:Str} {u:Value} {pos:Pos} {Q:Value->Shared->Prop} (I:Inv X pins σ H s) (hg:Gl X x) (hm:X.mg x=none) (hv:bootBuiltins x=some u) (h:Q u s)
  (hn:x≠"__name__":=by decide) (hd:(x == ("__debug__":Str))=false:=by decide):wpAny (model X.prog X.w) X.A (eval (.Name x pos) X.env) Q E s:=by
 obtain ⟨mb,h1,h2⟩:=I.mod.blt
 exact Calls.Name_function_global I.ok.kind hg (Calls.loadGlobal_builtin (by rw [I.ok.glob]; exact I.mod.glob.keeps I.bk) hm (by rw [I.ok.blt]; exact h1.keeps I.bk) ((h2 x hn).trans hv) h) hd
theorem pe_glob {x:Str} {v:V} {u:Value} {pos:Pos} (hg:Gl X x) (hm:X.mg x=some u) (r:RelV v u) (hd:(x == ("__debug__":Str))=false:=by decide):PE X (.Name x pos) (tC v) :=
 fun _ _ _ H _ I h=>ld_glob I hg hm ⟨v,H,I,r,h⟩ hd
theorem pe_bltn {x:Str} {v:V} {u:Value} {pos:Pos} (hg:Gl X x) (hm:X.mg x=none) (hv:bootBuiltins x=some u) (r:RelV v u) (hn:x≠"__name__":=by decide) (hd:(x == ("__debug__":Str))=false:=by decide):PE X (.Name x pos) (tC v) :=
 fun _ _ _ H _ I h=>ld_blt I hg hm hv ⟨v,H,I,r,h⟩ hn hd
variable {a b:Expr} {ta tb:TE} {pos:Pos}
def PC (X:Cx) (op:CmpOp) (a b:Expr) (t:TE):Prop :=
 ∀ (pins:List (Addr×Obj)) (s:Shared) (σ:St) (H:Hp) (Q:VK),Inv X pins σ H s->t σ H Q ->
  wpAny (model X.prog X.w) X.A (eval a X.env) (fun v s₁=>wpAny (model X.prog X.w) X.A (eval b X.env) (fun u s₂=>wpAny (model X.prog X.w) X.A (compareOp op v u) (EP X pins σ Q) X.xe s₂) X.xe s₁) X.xe s
theorem nobehind (b:Expr) {op:CmpOp} (h:op≠.In) (h2:op≠.NotIn):behindInMarks op b=false:=by
 have e1:(op == CmpOp.In)=false:=by cases op <;> first | rfl | exact absurd rfl h
 have e2:(op == CmpOp.NotIn)=false:=by cases op <;> first | rfl | exact absurd rfl h2
 cases b <;> simp [behindInMarks,e1,e2]
def tIsN (ta:TE):TE:=fun σ H Q=>ta σ H fun x H1=>Q (.bl (decide (x=.non))) H1
theorem RelV.none_iff {x:V} {v:Value} (r:RelV x v):(v == Value.none)=decide (x=.non):=by
 cases x with
 | non=>cases r; rfl
 | bl _=>cases r; rfl
 | int _=>obtain ⟨t,rfl⟩:=r; rfl
 | str _=>obtain ⟨t,rfl⟩:=r; rfl
 | byt _=>obtain ⟨t,rfl⟩:=r; rfl
 | flt _=>obtain ⟨t,rfl⟩:=r; rfl
 | ref _=>cases r; rfl
 | ty _=>cases r; rfl
theorem pc_isN {j pos'} (ha:PE X a ta):PC X .Is a (.Constant .none j pos') (tIsN ta):=by
 intro pins s σ H Q I h
 refine thn (ha pins s σ H _ I h) fun v s1 ⟨x,H1,I1,r1,q1⟩=>?_
 exact Constant_none (is_none_gen ⟨.bl _,H1,I1,by rw [r1.none_iff]; rfl,q1⟩)
def tB (t:TE):TT:=fun σ H Q=>t σ H fun x H1=>∃ c,x=.bl c/\Q c H1
theorem pe_cmp {op:CmpOp} {t:TE} (h:PC X op a b t) (h1:behindInMarks op b=false:=by first | exact nobehind _ (by decide) (by decide) | rfl):PE X (.Compare a [op] [b] pos) t:=fun pins s σ H Q I hw=>wpAny_Compare1 (h pins s σ H Q I hw) h1
theorem pt_cmp {op:CmpOp} {t:TE} (h:PC X op a b t) (h1:behindInMarks op b=false:=by first | exact nobehind _ (by decide) (by decide) | rfl):PT X (.Compare a [op] [b] pos) (tB t):=by
 intro pins s σ H Q I hw
 refine wpAny_isTrue_Compare1 (thn (h pins s σ H _ I hw) fun v s1 h1=>thn h1 fun u s2 h2=>thn h2 fun c s3 ⟨x,H1,I1,r1,q1⟩=>?_) h1
 obtain ⟨d,rfl,q⟩:=q1
 cases r1
 exact wpAny_truthy_bool ⟨H1,I1,q⟩
theorem pt_val {e:Expr} {t:TE} (h:PE X e t) (he:∀ whole,isTrue e X.env whole=(do let v <- whole; standAt e.pos; holding [v] (truthy v)):=by intro _; rfl):PT X e (tB t):=by
 intro pins s σ H Q I hw
 refine isTrue_plain (thn (h pins s σ H _ I hw) fun v s1 ⟨x,H1,I1,r1,q1⟩=>?_) (he _)
 obtain ⟨d,rfl,q⟩:=q1
 cases r1
 exact wpAny_truthy_bool ⟨H1,I1,q⟩
variable {tA tB':TT} {rest:List Expr}
def tAnd (t u:TT):TT:=fun σ H Q=>t σ H fun c H1=>if c=true then u σ H1 Q else Q false H1
def tOr (t u:TT):TT:=fun σ H Q=>t σ H fun c H1=>if c=true then Q true H1 else u σ H1 Q
def tNot (t:TT):TT:=fun σ H Q=>t σ H fun c H1=>Q (!c) H1
theorem pw_and1 (ha:PT X a tA):PW X (.BoolOp .And [a] pos) tA:=by
 intro wh pins s σ H Q I h
 refine isTrue_and (thn (ha pins s σ H Q I h) fun c s1 e=>?_)
 cases c with
 | true=>exact isTrue_and_nil e
 | false=>exact e
theorem pw_or1 (ha:PT X a tA):PW X (.BoolOp .Or [a] pos) tA:=by
 intro wh pins s σ H Q I h
 refine isTrue_or (thn (ha pins s σ H Q I h) fun c s1 e=>?_)
 cases c with
 | false=>exact isTrue_or_nil e
 | true=>exact e
theorem pw_and (ha:PT X a tA) (hb:PW X (.BoolOp .And (b::rest) pos) tB'):PW X (.BoolOp .And (a::b::rest) pos) (tAnd tA tB'):=by
 intro wh pins s σ H Q I h
 refine isTrue_and (thn (ha pins s σ H _ I h) fun c s1 ⟨H1,I1,q1⟩=>?_)
 cases c with
 | true=>exact hb wh pins s1 σ H1 Q I1 q1
 | false=>exact ⟨H1,I1,q1⟩
theorem pw_or (ha:PT X a tA) (hb:PW X (.BoolOp .Or (b::rest) pos) tB'):PW X (.BoolOp .Or (a::b::rest) pos) (tOr tA tB'):=by
 intro wh pins s σ H Q I h
 refine isTrue_or (thn (ha pins s σ H _ I h) fun c s1 ⟨H1,I1,q1⟩=>?_)
 cases c with
 | true=>exact ⟨H1,I1,q1⟩
 | false=>exact hb wh pins s1 σ H1 Q I1 q1
theorem pt_not (ha:PT X a tA):PT X (.UnaryOp .Not a pos) (tNot tA):=by
 intro pins s σ H Q I h
 exact isTrue_not (ha pins s σ H (fun c H1=>Q (!c) H1) I h)
def tAndV (ta tb:TE):TE:=fun σ H Q=>ta σ H fun x H1=>∃ c,x=.bl c/\if c=true then tb σ H1 Q else Q (.bl false) H1
def tOrV (ta tb:TE):TE:=fun σ H Q=>ta σ H fun x H1=>∃ c,x=.bl c/\if c=true then Q (.bl true) H1 else tb σ H1 Q
def tNotV (ta:TE):TE:=fun σ H Q=>ta σ H fun x H1=>∃ c,x=.bl c/\Q (.bl (!c)) H1
theorem pe_one {op} {t:TE} (h:PE X a t):PE X (.BoolOp op [a] pos) t:=fun pins s σ H Q I hw=>BoolOp_one (h pins s σ H Q I hw)
theorem pe_and (ha:PE X a ta) (hb:PE X (.BoolOp .And (b::rest) pos) tb):PE X (.BoolOp .And (a::b::rest) pos) (tAndV ta tb):=by
 intro pins s σ H Q I h
 refine BoolOp_and (thn (ha pins s σ H _ I h) fun v s1 ⟨x,H1,I1,r1,q1⟩=>?_)
 obtain ⟨c,rfl,q1⟩:=q1
 cases r1
 refine wpAny_truthy_bool ?_
 cases c with
 | true=>exact hb pins s1 σ H1 Q I1 q1
 | false=>exact ⟨.bl false,H1,I1,rfl,q1⟩
theorem pe_or (ha:PE X a ta) (hb:PE X (.BoolOp .Or (b::rest) pos) tb):PE X (.BoolOp .Or (a::b::rest) pos) (tOrV ta tb):=by
 intro pins s σ H Q I h
 refine BoolOp_or (thn (ha pins s σ H _ I h) fun v s1 ⟨x,H1,I1,r1,q1⟩=>?_)
 obtain ⟨c,rfl,q1⟩:=q1
 cases r1
 refine wpAny_truthy_bool ?_
 cases c with
 | false=>exact hb pins s1 σ H1 Q I1 q1
 | true=>exact ⟨.bl true,H1,I1,rfl,q1⟩
theorem pe_not (ha:PE X a ta):PE X (.UnaryOp .Not a pos) (tNotV ta):=by
 intro pins s σ H Q I h
 refine UnaryOp_ (thn (ha pins s σ H _ I h) fun v s1 ⟨x,H1,I1,r1,q1⟩=>?_)
 obtain ⟨c,rfl,q1⟩:=q1
 cases r1
 exact not_of (wpAny_truthy_bool ⟨.bl (!c),H1,I1,rfl,q1⟩)
def tIf (t:TT) (ta tb:TE):TE:=fun σ H Q=>t σ H fun c H1=>if c=true then ta σ H1 Q else tb σ H1 Q
theorem pe_ifExp {c:Expr} (hc:PT X c tA) (ha:PE X a ta) (hb:PE X b tb):PE X (.IfExp c a b pos) (tIf tA ta tb):=by
 intro pins s σ H Q I h
 refine wpAny_IfExp (thn (hc pins s σ H _ I h) fun d s1 ⟨H1,I1,q1⟩=>?_)
 cases d with
 | true=>exact ha pins s1 σ H1 Q I1 q1
 | false=>exact hb pins s1 σ H1 Q I1 q1
end
def SqL (K:W.Frag) (H:Hp) (a:Addr) (xs:List V):Prop :=
 Rd H a (.lst xs) \/
  ∃ (o:Obj) (its:Array Value) (n:Nat),K.lookup a=some o/\o.cls=.type "list"/\o.dict=none/\o.data=.seq its n/\its.size<=sizeLine/\Vals xs its.toList
def SqT (K:W.Frag) (H:Hp) (a:Addr) (xs:List V):Prop :=
 Rd H a (.tup xs) \/
  ∃ (o:Obj) (its:Array Value) (n:Nat),K.lookup a=some o/\o.cls=.type "tuple"/\o.data=.seq its n/\its.size<=sizeLine/\Vals xs its.toList
def absV:Value->Option V
 | .none=>some .non
 | .bool b=>some (.bl b)
 | .int i _=>some (.int i)
 | .str x _=>some (.str x)
 | .bytes b _=>some (.byt b)
 | .float b _=>some (.flt b)
 | .ref a=>some (.ref a)
 | .type n=>some (.ty n)
 | _=>none
theorem RelV.abs {x:V} {u:Value} (r:RelV x u):absV u=some x:=by
 cases x with
 | non=>cases r; rfl
 | bl _=>cases r; rfl
 | int _=>obtain ⟨t,rfl⟩:=r; rfl
 | str _=>obtain ⟨t,rfl⟩:=r; rfl
 | byt _=>obtain ⟨t,rfl⟩:=r; rfl
 | flt _=>obtain ⟨t,rfl⟩:=r; rfl
 | ref _=>cases r; rfl
 | ty _=>cases r; rfl
theorem RelV.inj {x y:V} {u:Value} (r:RelV x u) (q:RelV y u):x=y:=Option.some.inj (r.abs.symm.trans q.abs)
theorem Vals.inj:∀ {xs ys:List V} {us:List Value},Vals xs us->Vals ys us->xs=ys
 | _,_,_,.nil,.nil=>rfl
 | _,_,_,.cons r t,.cons r' t'=>by rw [r.inj r',Vals.inj t t']
section
variable {X:Cx} {pins:List (Addr×Obj)} {σ:St} {H:Hp} {s:Shared} {a:Addr} {xs ys:List V}
theorem SqL.of {K:W.Frag} (h:H a=some (.lst xs)):SqL K H a xs:=.inl (.inl h)
theorem SqT.of {K:W.Frag} (h:H a=some (.tup xs)):SqT K H a xs:=.inl (.inl h)
theorem Inv.list (I:Inv X pins σ H s) (h:SqL X.K H a xs):∃ its:List Value,Vals xs its/\PlainL s.heap a its.toArray/\xs.length<=sizeLine:=by
 rcases h with h | ⟨o,its,n,hk,hc,hd,hs,hz,r⟩
 ·obtain ⟨z,its,n,r,e⟩:=h.ok I.hok
  exact ⟨its,r,⟨_,n,e,rfl,rfl,rfl⟩,z⟩
 ·refine ⟨its.toList,r,⟨o,n,I.kIn a o hk,hc,hd,by simpa using hs⟩,?_⟩
  have e:=r.length
  simp only [Array.length_toList] at e
  omega
theorem Inv.tuple (I:Inv X pins σ H s) (h:SqT X.K H a xs):∃ its:List Value,Vals xs its/\IsTup s.heap a its.toArray/\xs.length<=sizeLine:=by
 rcases h with h | ⟨o,its,n,hk,hc,hs,hz,r⟩
 ·obtain ⟨z,its,r,p⟩:=h.ok I.hok
  exact ⟨its,r,p.tup,z⟩
 ·refine ⟨its.toList,r,⟨o,I.kIn a o hk,hc,n,by simpa using hs⟩,?_⟩
  have e:=r.length
  simp only [Array.length_toList] at e
  omega
theorem Inv.list_inj (I:Inv X pins σ H s) (h:SqL X.K H a xs) (h':SqL X.K H a ys):xs=ys:=by
 obtain ⟨its,r,⟨o,n,e,_,_,d⟩,_⟩:=I.list h
 obtain ⟨its',r',⟨o',n',e',_,_,d'⟩,_⟩:=I.list h'
 rw [e] at e'; cases e'
 rw [d] at d'
 injection d' with d1 _
 have:its=its':=by simpa using congrArg Array.toList d1
 subst this
 exact r.inj r'
end
abbrev Cx.wish (X:Cx) (E:Value->Shared->Prop):Cx:={ X with xe:=E }
abbrev Cx.nox (X:Cx):Cx:=X.wish fun _ _=>False
theorem Cx.Ok.wish {X:Cx} (ok:X.Ok) (E:Value->Shared->Prop):(X.wish E).Ok :=
 ⟨ok.mod,ok.kind,ok.glob,ok.blt,ok.above,ok.inj,ok.has,ok.cab,ok.hd,ok.frames,ok.stk,ok.exf,ok.bs,ok.bsz,ok.noex,ok.exfs,ok.funs,ok.frf⟩
theorem Cx.Ok.unwish {X:Cx} {E:Value->Shared->Prop} (ok:(X.wish E).Ok):X.Ok :=
 ⟨ok.mod,ok.kind,ok.glob,ok.blt,ok.above,ok.inj,ok.has,ok.cab,ok.hd,ok.frames,ok.stk,ok.exf,ok.bs,ok.bsz,ok.noex,ok.exfs,ok.funs,ok.frf⟩
section
variable {X:Cx} {pins:List (Addr×Obj)} {σ:St} {H:Hp} {s:Shared} {E:Value->Shared->Prop}
theorem Inv.wish (I:Inv X pins σ H s) (E:Value->Shared->Prop):Inv (X.wish E) pins σ H s:=⟨I.ok.wish E,I.os,I.bare,I.base,I.loc,I.cell,I.free,I.freeC,I.pin,I.hok,I.len⟩
theorem Inv.unwish (I:Inv (X.wish E) pins σ H s):Inv X pins σ H s:=⟨I.ok.unwish,I.os,I.bare,I.base,I.loc,I.cell,I.free,I.freeC,I.pin,I.hok,I.len⟩
theorem SP.unwish {D:Ends} {f:Flow} {s':Shared} (h:SP (X.wish E) pins D f s'):SP X pins D f s':=by
 cases f with
 | next=>obtain ⟨σ',H',I,q⟩:=h; exact ⟨σ',H',I.unwish,q⟩
 | brk=>obtain ⟨σ',H',I,q⟩:=h; exact ⟨σ',H',I.unwish,q⟩
 | cont=>obtain ⟨σ',H',I,q⟩:=h; exact ⟨σ',H',I.unwish,q⟩
 | ret u=>obtain ⟨v,σ',H',I,r,q⟩:=h; exact ⟨v,σ',H',I.unwish,r,q⟩
theorem PSs.nox {st:List Stmt} {t:TS} (h:PSs X.nox st t):PSs X st t:=fun pins s σ H D I hw =>
 wpAny_mono (h pins s σ H D (I.wish _) hw) (fun _ _ q=>q.unwish) fun _ _ z=>False.elim z
end
section
variable {X:Cx} {st:Stmt} {rest:List Stmt} {t u:TS} {e:Expr} {te:TE} {pos:Pos}
def tNext:TS:=fun D σ H=>D.nx σ H
def tSeq (t u:TS):TS:=fun D σ H=>t { D with nx:=u D } σ H
theorem pss_nil:PSs X [] tNext:=fun _ _ σ H _ I h=>wpAny_execs_nil ⟨σ,H,I,h⟩
theorem pss_cons (h1:PS X st t) (h2:PSs X rest u):PSs X (st::rest) (tSeq t u):=by
 intro pins s σ H D I h
 refine wpAny_execs_cons (thn (h1 pins s σ H { D with nx:=u D } I h) fun f s1 q=>?_)
 cases f with
 | next =>
  obtain ⟨σ',H',I',q⟩:=q
  exact h2 pins s1 σ' H' D I' q
 | ret v=>exact q
 | brk=>exact q
 | cont=>exact q
theorem pss_one (h1:PS X st t):PSs X [st] t:=by
 intro pins s σ H D I h
 refine wpAny_execs_cons (thn (h1 pins s σ H D I h) fun f s1 q=>?_)
 cases f with
 | next=>exact wpAny_execs_nil q
 | ret v=>exact q
 | brk=>exact q
 | cont=>exact q
theorem Inv.quiet {pins:List (Addr×Obj)} {σ:St} {H:Hp} {s:Shared} (I:Inv X pins σ H s):interactive X.env=false:=by simp [interactive,I.ok.kind]
def tDrop (te:TE):TS:=fun D σ H=>te σ H fun _ H1=>D.nx σ H1
theorem ps_expr (he:PE X e te) (hs:swapsWith e none pos.line X.env=pure false:=by rfl):PS X (.Expr e pos) (tDrop te):=by
 intro pins s σ H D I h
 exact wpAny_Expr_any (thn (he pins s σ H _ I h) fun v s1 ⟨x,H1,I1,r1,q1⟩=>⟨σ,H1,I1,q1⟩) I.quiet hs
def tRet (te:TE):TS:=fun D σ H=>te σ H D.rt
theorem ps_ret (he:PE X e te):PS X (.Return (some e) pos) (tRet te):=by
 intro pins s σ H D I h
 exact wpAny_Return_some (thn (he pins s σ H _ I h) fun v s1 ⟨x,H1,I1,r1,q1⟩=>⟨x,σ,H1,I1,r1,q1⟩)
def tIfS (c:TT) (t u:TS):TS:=fun D σ H=>c σ H fun b H1=>if b=true then t D σ H1 else u D σ H1
theorem ps_if {c:Expr} {a b:List Stmt} {tc:TT} (hc:PT X c tc) (ha:PSs X a t) (hb:PSs X b u):PS X (.If c a b pos) (tIfS tc t u):=by
 intro pins s σ H D I h
 refine wpAny_If (thn (hc pins s σ H _ I h) fun d s1 ⟨H1,I1,q1⟩=>?_)
 cases d with
 | true=>exact ha pins s1 σ H1 D I1 q1
 | false=>exact hb pins s1 σ H1 D I1 q1
end
abbrev TG:=V->St->Hp->(St->Hp->Prop)->Prop
abbrev TGs:=List V->St->Hp->(St->Hp->Prop)->Prop
def PG (X:Cx) (target:Expr) (t:TG):Prop :=
 ∀ (pins:List (Addr×Obj)) (s:Shared) (σ:St) (H:Hp) (v:V) (u:Value) (Q:St->Hp->Prop),Inv X pins σ H s->RelV v u->t v σ H Q ->
  wpAny (model X.prog X.w) X.A (assign target X.env u) (fun _ s'=>∃ σ' H',Inv X pins σ' H' s'/\Q σ' H') X.xe s
def PGs (X:Cx) (ts:List Expr) (t:TGs):Prop :=
 ∀ (pins:List (Addr×Obj)) (s:Shared) (σ:St) (H:Hp) (vs:List V) (us:List Value) (Q:St->Hp->Prop),Inv X pins σ H s->Vals vs us->t vs σ H Q ->
  wpAny (model X.prog X.w) X.A (assignInOrder ((assignEach ts X.env).map (·.2)) us) (fun _ s'=>∃ σ' H',Inv X pins σ' H' s'/\Q σ' H') X.xe s
abbrev TSet:=V->V->V->Hp->(Hp->Prop)->Prop
def PSet (X:Cx) (t:TSet):Prop :=
 ∀ (pins:List (Addr×Obj)) (s:Shared) (σ:St) (H:Hp) (o i v:V) (ov iv u:Value) (Q:Hp->Prop),Inv X pins σ H s->RelV o ov->RelV i iv->RelV v u->t o i v H Q ->
  wpAny (model X.prog X.w) X.A (setItem ov iv u) (fun _ s'=>∃ H',Inv X pins σ H' s'/\Q H') X.xe s
abbrev TIp:=V->V->Hp->VK->Prop
def PIp (X:Cx) (op:Operator) (t:TIp):Prop :=
 ∀ (pins:List (Addr×Obj)) (s:Shared) (σ:St) (H:Hp) (x y:V) (v u:Value) (Q:VK),Inv X pins σ H s->RelV x v->RelV y u->t x y H Q ->
  wpAny (model X.prog X.w) X.A (inplaceOp op v u) (EP X pins σ Q) X.xe s
section
variable {X:Cx} {pos:Pos}
def gName (i:Nat):TG:=fun v σ H Q=>Q (σ.set i (some v)) H
theorem pg_name {i:Nat} {x:Str} (hN:X.N.Nodup) (hi:X.N[i]?=some x) (hx:Loc X.env.scope x) (hf:X.fn x=true\/X.env.scope.names.lookup x=some .local:=by first | exact .inl rfl | exact .inr rfl | assumption):PG X (.Name x pos) (gName i):=by
 intro pins s σ H v u Q I r h
 exact wpAny_assign_Name (store_ok I hN hi hx r (fun s' I'=>⟨_,H,I',h⟩) hf)
def gNil:TGs:=fun vs σ H Q=>vs=[]/\Q σ H
def gCons (t:TG) (u:TGs):TGs:=fun vs σ H Q=>∃ v r,vs=v::r/\t v σ H fun σ' H'=>u r σ' H' Q
theorem pgs_nil:PGs X [] gNil:=by
 intro pins s σ H vs us Q I r h
 obtain ⟨e,h⟩:=h
 subst e
 cases r
 exact assignInOrder_nil ⟨σ,H,I,h⟩
theorem pgs_cons {e:Expr} {es:List Expr} {t:TG} {u:TGs} (h1:PG X e t) (h2:PGs X es u)
  (hs:(assignEach (e::es) X.env).map (·.2)=assign e X.env::(assignEach es X.env).map (·.2):=by rfl):PGs X (e::es) (gCons t u):=by
 intro pins s σ H vs us Q I r h
 obtain ⟨v,vr,e1,h⟩:=h
 subst e1
 cases r with
 | cons r rr =>
  rw [hs]
  refine assignInOrder_cons (thn (h1 pins s σ H _ _ _ I r h) fun _ s1 ⟨σ1,H1,I1,q1⟩=>?_)
  exact h2 pins s1 σ1 H1 _ _ Q I1 rr q1
def gTup (K:W.Frag) (n:Nat) (t:TGs):TG:=fun v σ H Q=>∃ a xs,v=.ref a/\SqT K H a xs/\xs.length=n/\t xs σ H Q
theorem pg_tup {es:List Expr} {k:Nat} {t:TGs} {n:Nat} (hc:X.calm=true) (h:PGs X es t)
  (hn:(assignEach es X.env).length=n:=by rfl) (hst:(assignEach es X.env).findIdx? (·.1)=none:=by rfl):PG X (.Tuple es k pos) (gTup X.K n t):=by
 intro pins s σ H v u Q I r hw
 obtain ⟨a,xs,e1,hq,hl,hw⟩:=hw
 subst e1
 cases r
 obtain ⟨its,rv,ht,hz⟩:=I.tuple hq
 refine assign_Tuple_tuple (I.ok.hd hc) ht (by simp [hn,<- hl,rv.length]) hst fun h' hx=>?_
 have I1:Inv X pins σ H { s with heap:=h' }:=I.kept (t':=s.toks) fun b o e=>hx b o (Nat.ne_of_lt (Heap.lt_size e)) e
 exact h pins _ σ H xs _ Q I1 (by simpa using rv) hw
def gSub (to ti:TE) (t:TSet):TG:=fun v σ H Q=>to σ H fun o H1=>ti σ H1 fun i H2=>t o i v H2 fun H3=>Q σ H3
theorem pg_sub {o i:Expr} {to ti:TE} {t:TSet} (ho:PE X o to) (hi:PE X i ti) (hs:PSet X t)
  (ha:∀ v,assign (.Subscript o i pos) X.env v=(do
   let ov <- holding [v] (eval o X.env)
   let iv <- holding [v,ov] (eval i X.env)
   standAt pos
   holding [v,ov,iv] (setItem ov iv v)
   release [v,ov,iv] []):=by intro _; rfl):PG X (.Subscript o i pos) (gSub to ti t):=by
 intro pins s σ H v u Q I r h
 rw [ha]
 refine wpAny_bind (wpAny_holding (thn (ho pins s σ H _ I h) fun ov s1 ⟨x,H1,I1,r1,q1⟩=>?_))
 refine wpAny_bind (wpAny_holding (thn (hi pins s1 σ H1 _ I1 q1) fun iv s2 ⟨y,H2,I2,r2,q2⟩=>?_))
 refine wpAny_bind (wpAny_standAt (wpAny_bind (wpAny_holding (thn (hs pins s2 σ H2 x y v ov iv u _ I2 r1 r2 r q2) fun _ s3 ⟨H3,I3,q3⟩=>?_))))
 exact wpAny_release ⟨σ,H3,I3,q3⟩
def tAsg (te:TE) (g:TG):TS:=fun D σ H=>te σ H fun x H1=>g x σ H1 D.nx
theorem ps_asg {tg e:Expr} {te:TE} {g:TG} (he:PE X e te) (hg:PG X tg g) (hs:swapsWithSole [tg] e pos.line X.env=pure false:=by rfl) (hw:swappedStores [tg] e X.env=pure none:=by rfl)
  (h1:(assignEach [tg] X.env).map (·.2)=[assign tg X.env]:=by rfl):PS X (.Assign [tg] e pos) (tAsg te g):=by
 intro pins s σ H D I h
 refine wpAny_Assign_stores (thn (he pins s σ H _ I h) fun v s1 ⟨x,H1,I1,r1,q1⟩=>?_) hs hw
 rw [h1]
 exact thn (hg pins s1 σ H1 x v _ I1 r1 q1) fun _ s2 q=>q
theorem ps_set {i:Nat} {x:Str} {e:Expr} {te:TE} {pos':Pos} (hN:X.N.Nodup) (hi:X.N[i]?=some x) (hx:Loc X.env.scope x) (he:PE X e te) (hs:swapsWith e (some (.Name x pos')) pos.line X.env=pure false:=by rfl) (hf:X.fn x=true\/X.env.scope.names.lookup x=some .local:=by first | exact .inl rfl | exact .inr rfl | assumption) :
  PS X (.Assign [.Name x pos'] e pos) (tAsg te (gName i)):=by
 intro pins s σ H D I h
 refine wpAny_Assign_Name (thn (he pins s σ H _ I h) fun v s1 ⟨y,H1,I1,r1,q1⟩=>?_) hs
 exact store_ok I1 hN hi hx r1 (fun s2 I2=>⟨_,H1,I2,q1⟩) hf
def tAug (i:Nat) (te:TE) (ti:TIp):TS:=fun D σ H=>∃ x,σ[i]?=some (some x)/\te σ H fun y H1=>ti x y H1 fun z H2=>D.nx (σ.set i (some z)) H2
theorem ps_aug {i:Nat} {x:Str} {e:Expr} {te:TE} {op:Operator} {ti:TIp} {pos':Pos} (hN:X.N.Nodup) (hi:X.N[i]?=some x) (hx:Loc X.env.scope x) (he:PE X e te) (ho:PIp X op ti) (hf:X.fn x=true\/X.env.scope.names.lookup x=some .local:=by first | exact .inl rfl | exact .inr rfl | assumption) :
  PS X (.AugAssign (.Name x pos') op e pos) (tAug i te ti):=by
 intro pins s σ H D I h
 obtain ⟨v,e1,h⟩:=h
 obtain ⟨m,hn,hl⟩:=I.loc
 have vis:Vis X.env.scope x:=by rcases hx with k | k; exact .inl k; exact .inr (.inl k)
 obtain ⟨u,r,l⟩:=hl i x v hi e1 vis
 refine wpAny_AugAssign_Name ?_
 have go:wpAny (model X.prog X.w) X.A (eval e X.env) (fun w s₂=>wpAny (model X.prog X.w) X.A (inplaceOp op u w) (fun r s₃=>wpAny (model X.prog X.w) X.A (storeName X.env x r) (fun _=>SP X pins D .next) X.xe s₃) X.xe s₂) X.xe s:=by
  refine thn (he pins s σ H _ I h) fun w s1 ⟨y,H1,I1,r1,q1⟩=>?_
  refine thn (ho pins s1 σ H1 v y u w _ I1 r r1 q1) fun z s2 ⟨zv,H2,I2,r2,q2⟩=>?_
  exact store_ok I2 hN hi hx r2 (fun s3 I3=>⟨_,H2,I3,q2⟩) hf
 rcases l with ⟨hk,hm⟩ | ⟨hk,c,hc,hcell⟩
 ·exact wpAny_loadName_local I.ok.kind hk hn hm go
 ·rcases hk with hk | hk
  ·exact wpAny_loadName_cell I.ok.kind hk hc hcell go
  ·rcases hx with k | k
   ·have:X.env.scope.names.lookup x=some .free:=hk
    rw [k] at this; cases this
   ·have:X.env.scope.names.lookup x=some .free:=hk
    rw [k] at this; cases this
def tAugS (to ti te:TE) (tget:V->V->Hp->VK->Prop) (tip:TIp) (tset:TSet):TS:=fun D σ H=>to σ H fun o H1=>ti σ H1 fun i H2=>tget o i H2 fun x H3=>te σ H3 fun y H4=>tip x y H4 fun z H5=>tset o i z H5 fun H6=>D.nx σ H6
def PGet (X:Cx) (t:V->V->Hp->VK->Prop):Prop :=
 ∀ (pins:List (Addr×Obj)) (s:Shared) (σ:St) (H:Hp) (o i:V) (ov iv:Value) (Q:VK),Inv X pins σ H s->RelV o ov->RelV i iv->t o i H Q ->
  wpAny (model X.prog X.w) X.A (getItem ov iv) (EP X pins σ Q) X.xe s
theorem ps_augS {o i e:Expr} {to ti te:TE} {tget:V->V->Hp->VK->Prop} {tip:TIp} {tset:TSet} {op:Operator} {tpos:Pos} (ho:PE X o to) (hi:PE X i ti) (hg:PGet X tget) (he:PE X e te) (hp:PIp X op tip) (hs:PSet X tset)
  (ha:∀ ov iv new,augStore i ov iv new=(do holding [new,ov,iv] (setItem ov iv new); release [new,ov,iv] []; pure .next):=by intros; rfl):PS X (.AugAssign (.Subscript o i tpos) op e pos) (tAugS to ti te tget tip tset):=by
 intro pins s σ H D I h
 refine wpAny_AugAssign_SubscriptAny (thn (ho pins s σ H _ I h) fun ov s1 ⟨x1,H1,I1,r1,q1⟩=>?_) ha
 refine thn (hi pins s1 σ H1 _ I1 q1) fun iv s2 ⟨x2,H2,I2,r2,q2⟩=>?_
 refine thn (hg pins s2 σ H2 x1 x2 ov iv _ I2 r1 r2 q2) fun old s3 ⟨x3,H3,I3,r3,q3⟩=>?_
 refine thn (he pins s3 σ H3 _ I3 q3) fun v s4 ⟨x4,H4,I4,r4,q4⟩=>?_
 refine thn (hp pins s4 σ H4 x3 x4 old v _ I4 r3 r4 q4) fun new s5 ⟨x5,H5,I5,r5,q5⟩=>?_
 exact thn (hs pins s5 σ H5 x1 x2 x5 ov iv new _ I5 r1 r2 r5 q5) fun _ s6 ⟨H6,I6,q6⟩=>⟨σ,H6,I6,q6⟩
def ipI (f:Int->Int->Int):TIp:=fun x y H Q=>∃ i j,x=.int i/\y=.int j/\Q (.int (f i j)) H
theorem ip_add:PIp X .Add (ipI fun i j=>i + j):=by
 intro pins s σ H x y v u Q I r1 r2 h
 obtain ⟨i,j,e1,e2,q⟩:=h
 subst e1; subst e2
 obtain ⟨t,rfl⟩:=r1
 obtain ⟨t',rfl⟩:=r2
 exact iadd_int ⟨.int _,H,I.tok _,⟨_,rfl⟩,q⟩
end
section
variable {X:Cx} {pos:Pos}
def tWhile (c:TT) (tb:TS):TS:=fun D σ H=>∃ W:Nat->St->Hp->Prop,(∃ m,W m σ H)/\∀ m σ H,W m σ H ->
 c σ H fun b H1=>if b=true then ∃ N:St->Hp->Prop,(∀ σ' H',N σ' H'->∃ m',m' < m/\W m' σ' H')/\tb { D with nx:=N,ct:=N,bk:=D.nx } σ H1 else D.nx σ H1
theorem ps_while {c:Expr} {body:List Stmt} {tc:TT} {tb:TS} (hp:PassesOwn (model X.prog X.w) X.A X.env X.xe) (hc:PT X c tc) (hb:PSs X body tb):PS X (.While c body [] pos) (tWhile tc tb):=by
 intro pins s σ H D I h
 obtain ⟨W,⟨m0,w0⟩,turn⟩:=h
 refine wpAny_While (codeAny_whileLoop (fun n s'=>∃ σ' H',Inv X pins σ' H' s'/\W n σ' H') ?_ m0 ⟨σ,H,I,w0⟩)
 rintro n s1 ⟨σ1,H1,I1,w1⟩
 refine wpAny_passesOwn hp (thn (hc pins s1 σ1 H1 _ I1 (turn n σ1 H1 w1)) fun b s2 ⟨H2,I2,q2⟩=>?_)
 cases b with
 | true =>
  obtain ⟨N,hN,q2⟩:=q2
  rw [if_pos rfl]
  refine wpAny_passesOwn hp (thn (hb pins s2 σ1 H2 _ I2 q2) fun f s3 q3=>?_)
  cases f with
  | next =>
   obtain ⟨σ3,H3,I3,n3⟩:=q3
   obtain ⟨m',hm,w3⟩:=hN σ3 H3 n3
   exact ⟨m',hm,σ3,H3,I3,w3⟩
  | cont =>
   obtain ⟨σ3,H3,I3,n3⟩:=q3
   obtain ⟨m',hm,w3⟩:=hN σ3 H3 n3
   exact ⟨m',hm,σ3,H3,I3,w3⟩
  | brk=>exact q3
  | ret v=>exact q3
 | false =>
  rw [if_neg Bool.false_ne_true]
  exact wpAny_execs_nil ⟨σ1,H2,I2,q2⟩
end
structure It where
 go:Nat->Hp->Prop
 yld:Nat->Hp->V->Hp->Prop
 stop:Nat->Hp->Prop
def FpOk (X:Cx) (pins:List (Addr×Obj)) (H:Hp) (b:Addr):Prop :=
 H b=none/\b≠X.env.locals/\b∉X.fs/\(b∈X.ex\/X.s₀.heap.objs.size<=b)/\(∀ x c,X.env.cells.lookup x=some c->c≠b)/\∀ p∈X.pn++pins,p.1≠b
theorem Inv.fpOk {X:Cx} {pins:List (Addr×Obj)} {σ:St} {H H':Hp} {s:Shared} {b:Addr} (I:Inv X pins σ H s) (hb:s.heap.objs.size<=b) (hn:H' b=none):FpOk X pins H' b:=by
 refine ⟨hn,Nat.ne_of_gt (Nat.lt_of_lt_of_le I.lt hb),I.nofs hb,.inr (Nat.le_trans I.sz hb),fun x c e z=>?_,fun p hp z=>?_⟩
 ·obtain ⟨v,q⟩:=I.cell x c e
  exact absurd (Nat.lt_of_lt_of_le q.lt (by rw [z]; exact hb)) (Nat.lt_irrefl _)
 ·exact absurd (Nat.lt_of_lt_of_le (Heap.lt_size (I.pin p hp).1) (by rw [z]; exact hb)) (Nat.lt_irrefl _)
structure Turn (P:Program) (w:World) (K:W.Frag) (tg:Expr) (J:It) (fp:List Addr) (it:Addr) (tn:Nat->Heap->Prop):Prop where
 mem:it∈fp
 obj:∀ i h,tn i h->∀ b∈fp,∃ o,h.get? b=some o/\∀ v,o.data≠.cell v
 keep:∀ i h h',tn i h->(∀ b∈fp,∀ o,h.get? b=some o->h'.get? b=some o)->tn i h'
 item:∀ (X:Cx),X.prog=P->X.w=w->X.K=K->X.calm=true->∀ (i:Nat) (pins:List (Addr×Obj)) (s:Shared) (σ:St) (H:Hp) (E:Value->Shared->Prop),Inv X pins σ H s->(∀ b∈fp,FpOk X pins H b)->tn i s.heap->J.go i H ->
  wpAny (model P w) X.A (pyNext (.ref it)) (fun r s1=>∃ u,r=some u /\
   wpAny (model P w) X.A (letOwnedTupleGo tg (.ref it) u) (fun _ s2=>∃ x H',Inv X pins σ H' s2/\RelV x u/\J.yld i H x H'/\tn (i + 1) s2.heap/\∀ b∈fp,H' b=none) E s1) E s
 done:∀ (X:Cx),X.prog=P->X.w=w->X.K=K->X.calm=true->∀ (i:Nat) (pins:List (Addr×Obj)) (s:Shared) (σ:St) (H:Hp) (E:Value->Shared->Prop),Inv X pins σ H s->(∀ b∈fp,FpOk X pins H b)->tn i s.heap->J.stop i H ->
  wpAny (model P w) X.A (pyNext (.ref it)) (fun r s1=>r=none/\Inv X pins σ H s1) E s
 self:∀ (A:Around) (i:Nat) (s:Shared) (Q:Value->Shared->Prop) (E:Value->Shared->Prop),tn i s.heap->Q (.ref it) s->wpAny (model P w) A (pyIter (.ref it)) Q E s
abbrev TI:=St->Hp->(It->Hp->Prop)->Prop
def PIE (X:Cx) (pins:List (Addr×Obj)) (σ:St) (tg:Expr) (R:It->Hp->Prop) (itv:Value) (s2:Shared):Prop :=
 ∃ (it:Addr) (fp:List Addr) (tn:Nat->Heap->Prop) (J:It) (H':Hp),itv=.ref it/\Inv X pins σ H' s2/\Turn X.prog X.w X.K tg J fp it tn/\tn 0 s2.heap/\(∀ b∈fp,FpOk X pins H' b)/\R J H'
def PI (X:Cx) (tg iter:Expr) (wi:TI):Prop :=
 ∀ (pins:List (Addr×Obj)) (s:Shared) (σ:St) (H:Hp) (R:It->Hp->Prop),Inv X pins σ H s->wi σ H R ->
  wpAny (model X.prog X.w) X.A (eval iter X.env) (fun v s1=>wpAny (model X.prog X.w) X.A (pyIter v) (PIE X pins σ tg R) X.xe s1) X.xe s
theorem go_of {M:Model} {A:Around} {E:Value->Shared->Prop} {s:Shared} {tg:Expr} {it:Addr} {u:Value} {o:Obj} {n:String} {vs:Array Value} {Q:Unit->Shared->Prop} (ho:s.heap.get? it=some o) (hc:o.cls=.type n) (hd:o.data=.fields vs)
    (hn:["enumerate", "zip", "dict_itemiterator", "dict_reverseitemiterator", "odict_iterator", "itertools.zip_longest", "itertools.pairwise"].contains n=false) (hQ:Q () s):wpAny M A (letOwnedTupleGo tg (.ref it) u) Q E s:=by
  unfold letOwnedTupleGo
  cases tg <;> first
    | exact wpAny_pure hQ
    | (cases u <;> first
        | exact wpAny_pure hQ
        | (refine wpAny_bind (wpAny_load ho ?_)
           rw [hc,hd]
           show wpAny M A (if (["enumerate", "zip", "dict_itemiterator", "dict_reverseitemiterator", "odict_iterator", "itertools.zip_longest", "itertools.pairwise"].contains n && vs[0]? == some (rawInt _))=true then _ else _) Q E s
           rw [if_neg (by intro h; rw [hn,Bool.false_and] at h; cases h)]
           exact wpAny_pure hQ))
def Itl (K:W.Frag) (a:Addr):It :=
 ⟨fun i H=>∃ xs x,SqL K H a xs/\xs[i]?=some x,fun i H x H'=>H'=H/\∀ xs,SqL K H a xs->xs[i]?=some x,fun i H=>∃ xs,SqL K H a xs/\xs.length<=i⟩
def Itr (lo:Int) (n:Nat):It:=⟨fun i _=>i < n,fun i H x H'=>H'=H/\x=.int (lo + i),fun i _=>n<=i⟩
theorem turn_list {P:Program} {w:World} {K:W.Frag} {tg:Expr} (a it:Addr):Turn P w K tg (Itl K a) [it] it (fun i h=>h.IsListIter it a i) where
 mem:=by simp
 obj:=fun i h st b hb=>by
  have e:b=it:=by simpa using hb
  subst e
  obtain ⟨o,e,c,d⟩:=st
  exact ⟨o,e,fun v z=>by rw [d] at z; cases z⟩
 keep:=fun i h h' st k=>st.at fun o e=>k it (by simp) o e
 item:=by
  intro X hP hw hK hc i pins s σ H E I hf st hg
  subst hP hw hK
  obtain ⟨xs,x,hq,hx⟩:=hg
  obtain ⟨its,rv,p,hz⟩:=I.list hq
  obtain ⟨u,hu,ru⟩:=rv.get hx
  obtain ⟨f0,f1,f2,f3,f4,f5⟩:=hf it (by simp)
  refine wpAny_pyNext_list_item st p.isList (x:=u) (by simpa using hu) fun h' st' sb=>?_
  have I1:Inv X pins σ H { s with heap:=h' }:=I.turned (t':=s.toks) (fun b o hb e=>(sb.2 b hb).trans e) f0 f1 f3 f4 f5
  obtain ⟨o,e,c,d⟩:=id st'
  exact ⟨u,rfl,go_of (s:={ s with heap:=h' }) e c d (by decide) ⟨x,H,I1,ru,⟨rfl,fun ys hy=>by rw [I.list_inj hy hq]; exact hx⟩,st',fun b hb=>(hf b hb).1⟩⟩
 done:=by
  intro X hP hw hK hc i pins s σ H E I hf st hg
  subst hP hw hK
  obtain ⟨xs,hq,hx⟩:=hg
  obtain ⟨its,rv,p,hz⟩:=I.list hq
  obtain ⟨f0,f1,f2,f3,f4,f5⟩:=hf it (by simp)
  have hl:=rv.length
  exact wpAny_pyNext_list_end (I.ok.hd hc) st p.isList (by simp; omega) fun h' eb=>⟨rfl,I.turned (t':=s.toks) (fun b o hb e=>eb b o hb e) f0 f1 f3 f4 f5⟩
 self:=fun _ _ _ _ _ st h=>wpAny_pyIter_listiter st h
theorem turn_range {P:Program} {w:World} {K:W.Frag} {tg:Expr} (it:Addr) (lo:Int) (n:Nat):Turn P w K tg (Itr lo n) [it] it (fun i h=>IsRangeIter h it (lo + (i:Nat) * 1) ((n:Int) - (i:Nat)) 1) where
 mem:=by simp
 obj:=fun i h st b hb=>by
  have e:b=it:=by simpa using hb
  subst e
  exact ⟨_,st,fun v z=>by
   have z':Data.fields _=Data.cell v:=z
   cases z'⟩
 keep:=fun i h h' st k=>k it (by simp) _ st
 item:=by
  intro X hP hw hK hc i pins s σ H E I hf st hg
  subst hP hw hK
  obtain ⟨f0,f1,f2,f3,f4,f5⟩:=hf it (by simp)
  have W:=Walks.range (prog:=X.prog) (w:=X.w) (I.ok.hd hc) it lo 1 n
  refine W.item i s _ _ hg st fun v h' tk hv st' kk=>?_
  obtain ⟨t,rfl⟩:=hv
  have I1:Inv X pins σ H { s with heap:=h',toks:=tk }:=I.turned (fun b o hb e=>kk b o (by simpa using hb) e) f0 f1 f3 f4 f5
  refine ⟨_,rfl,go_of (s:={ s with heap:=h',toks:=tk }) (n:="range_iterator") st' rfl rfl (by decide) ⟨.int (lo + i),H,I1,⟨t,?_⟩,⟨rfl,rfl⟩,st',fun b hb=>(hf b hb).1⟩⟩
  rw [Int.mul_one]
 done:=by
  intro X hP hw hK hc i pins s σ H E I hf st hg
  subst hP hw hK
  obtain ⟨f0,f1,f2,f3,f4,f5⟩:=hf it (by simp)
  exact wpAny_pyNext_range_end (I.ok.hd hc) st (by have:n<=i:=hg; omega) fun h' eb=>⟨rfl,I.turned (t':=s.toks) (fun b o hb e=>eb b o hb e) f0 f1 f3 f4 f5⟩
 self:=fun _ _ _ _ _ st h=>wpAny_pyIter_rangeiter st h
section
variable {X:Cx} {tg:Expr}
def iList (K:W.Frag) (tl:TE):TI:=fun σ H R=>tl σ H fun x H1=>∃ a,x=.ref a/\(∃ xs,SqL K H1 a xs)/\R (Itl K a) H1
theorem pi_list {l:Expr} {tl:TE} (hl:PE X l tl):PI X tg l (iList X.K tl):=by
 intro pins s σ H R I h
 refine thn (hl pins s σ H _ I h) fun v s1 ⟨x,H1,I1,r1,q1⟩=>?_
 obtain ⟨a,e,⟨xs,hq⟩,q⟩:=q1
 subst e
 cases r1
 obtain ⟨its,rv,p,hz⟩:=I1.list hq
 refine wpAny_pyIter_list p.isList ?_
 refine ⟨s1.heap.objs.size,[s1.heap.objs.size],_,_,H1,rfl,I1.kept (t':=s1.toks) fun b o e=>Heap.get?_push_of_some _ e,turn_list a _,⟨_,Heap.get?_push_size _ rfl,rfl,rfl⟩,fun b hb=>?_,q⟩
 have e:b=s1.heap.objs.size:=by simpa using hb
 subst e
 exact I1.fpOk (Nat.le_refl _) (I1.hok.fresh (Nat.le_refl _))
theorem range_it {pins:List (Addr×Obj)} {σ:St} {H:Hp} {s:Shared} {R:It->Hp->Prop} {E:Value->Shared->Prop} {lo hi:Int} {t u v:Tok} {tk:Nat} (I:Inv X pins σ H s) (h1:-(2 ^ 62)<=lo) (h2:lo < 2 ^ 62) (h3:-(2 ^ 62)<=hi) (h4:hi < 2 ^ 62)
  (q:R (Itr lo (hi - lo).toNat) H):wpAny (model X.prog X.w) X.A (pyIter (.ref s.heap.objs.size)) (PIE X pins σ tg R) E { s with heap:=s.heap.push { cls:=.type "range",data:=.fields #[.int lo t,.int hi u,.int 1 v] },toks:=tk }:=by
 refine wpAny_pyIter_range (IsRange.new ..) (small_one h1 h2 h3 h4) ?_
 have I1:Inv X pins σ H { s with heap:=s.heap.push { cls:=.type "range",data:=.fields #[.int lo t,.int hi u,.int 1 v] },toks:=tk }:=I.kept fun b o e=>Heap.get?_push_of_some _ e
 refine ⟨(s.heap.push { cls:=.type "range",data:=.fields #[.int lo t,.int hi u,.int 1 v] }).objs.size,[(s.heap.push { cls:=.type "range",data:=.fields #[.int lo t,.int hi u,.int 1 v] }).objs.size],_,_,H,rfl,
  I1.kept (t':=tk) fun b o e=>Heap.get?_push_of_some _ e,turn_range _ lo (hi - lo).toNat,?_,fun b hb=>?_,q⟩
 ·have e1:lo + ((0:Nat):Int) * 1=lo:=by simp
  have e2:(((hi - lo).toNat:Nat):Int) - ((0:Nat):Int)=Builtin.Range.rangeSize lo hi 1:=by rw [rangeSize_one]; split <;> omega
  show IsRangeIter _ _ (lo + ((0:Nat):Int) * 1) ((((hi - lo).toNat:Nat):Int) - ((0:Nat):Int)) 1
  rw [e1,e2]
  exact Heap.get?_push_size _ rfl
 ·have e:b=(s.heap.push { cls:=.type "range",data:=.fields #[.int lo t,.int hi u,.int 1 v] }).objs.size:=by simpa using hb
  subst e
  exact I1.fpOk (Nat.le_refl _) (I1.hok.fresh (Nat.le_refl _))
def iRng1 (ta:TA):TI:=fun σ H R=>ta σ H fun vs H1=>∃ j:Int,vs=[.int j]/\-(2 ^ 62)<=j/\j < 2 ^ 62/\R (Itr 0 j.toNat) H1
theorem pi_range1 {a:Expr} {ta:TA} {p pos:Pos} (hg:Gl X "range") (hm:X.mg "range"=none) (ha:PA X [a] ta) (hs:starEach [a] X.env=[(false,eval a X.env)]:=by rfl):PI X tg (.Call (.Name "range" p) [a] [] pos) (iRng1 ta):=by
 intro pins s σ H R I h
 refine Call_ (ld_blt I hg hm boot_range (PyProof.Rows.callWith_type1 (thn (ha pos pins s σ H _ I h) fun us s1 ⟨vs,H1,I1,r1,q1⟩=>?_) hs rfl))
 obtain ⟨j,e,q1,q2,q⟩:=q1
 subst e
 cases r1 with
 | cons r rr =>
  cases rr
  obtain ⟨t,rfl⟩:=r
  exact call_range_1 (range_it I1 (by omega) (by omega) q1 q2 (by simpa using q))
def tFor (wi:TI) (g:TG) (tb:TS):TS:=fun D σ H=>wi σ H fun J H1=>∃ W:Nat->Nat->St->Hp->Prop,(∃ m,W 0 m σ H1)/\∀ i m σ H,W i m σ H ->
 (J.stop i H/\D.nx σ H)\/(J.go i H/\∃ N:St->Hp->Prop,(∀ σ' H',N σ' H'->∃ m',m' < m/\W (i + 1) m' σ' H')/\∀ x H',J.yld i H x H'->g x σ H' fun σ2 H2=>tb { D with nx:=N,ct:=N,bk:=D.nx } σ2 H2)
def pinsAt (fp:List Addr) (h:Heap):List (Addr×Obj):=fp.filterMap fun b=>(h.get? b).map fun o=>(b,o)
theorem mem_pinsAt {fp:List Addr} {h:Heap} {b:Addr} {o:Obj} (hb:b∈fp) (e:h.get? b=some o):(b,o)∈pinsAt fp h:=List.mem_filterMap.mpr ⟨b,hb,by rw [e]; rfl⟩
theorem of_pinsAt {fp:List Addr} {h:Heap} {p:Addr×Obj} (hp:p∈pinsAt fp h):p.1∈fp/\h.get? p.1=some p.2:=by
 obtain ⟨b,hb,e⟩:=List.mem_filterMap.mp hp
 cases q:h.get? b with
 | none=>rw [q] at e; cases e
 | some o =>
  rw [q] at e
  have e':(b,o)=p:=Option.some.inj e
  subst e'
  exact ⟨hb,q⟩
theorem Inv.pinned {pins:List (Addr×Obj)} {σ:St} {H:Hp} {s:Shared} {fp:List Addr} (I:Inv X pins σ H s) (hf:∀ b∈fp,FpOk X pins H b) (ho:∀ b∈fp,∃ o,s.heap.get? b=some o/\∀ v,o.data≠.cell v):Inv X (pins++pinsAt fp s.heap) σ H s :=
 I.pins_of fun p hp=>(List.mem_append.mp hp).elim (fun z=>I.pin p (List.mem_append_right _ z)) fun z=>by
  obtain ⟨hb,e⟩:=of_pinsAt z
  obtain ⟨f0,f1,f2,_⟩:=hf p.1 hb
  obtain ⟨o,e',d⟩:=ho p.1 hb
  rw [e] at e'; cases e'
  exact ⟨e,f0,f1,f2,d⟩
theorem Inv.unpinned {pins pl:List (Addr×Obj)} {σ:St} {H:Hp} {s:Shared} (I:Inv X (pins++pl) σ H s):Inv X pins σ H s:=I.pins_of fun p hp=>I.pin p (List.mem_append_right _ (List.mem_append_left _ hp))
theorem ps_for {iter:Expr} {body:List Stmt} {wi:TI} {g:TG} {tb:TS} {pos:Pos} (hp:PassesOwn (model X.prog X.w) X.A X.env X.xe) (hc:X.calm=true) (hi:PI X tg iter wi) (hg:PG X tg g) (hb:PSs X body tb)
  (hs:∀ x,foldedSetIterable iter X.env x=pure x:=by intro _; rfl):PS X (.For tg iter body [] pos) (tFor wi g tb):=by
 intro pins s σ H D I h
 refine wpAny_For (thn (hi pins s σ H _ I h) fun v s1 h1=>thn h1 fun itv s2 h2=>?_) hs
 obtain ⟨it,fp,tn,J,H2,e,I2,T,st2,f2,W,⟨m0,w0⟩,turn⟩:=h2
 subst e
 have stat:∀ {H':Hp},(∀ b∈fp,H' b=none)->∀ b∈fp,FpOk X pins H' b:=fun hn b hb=>⟨hn b hb,(f2 b hb).2⟩
 refine codeAny_forLoop_any (fun n s'=>∃ i σ' H',Inv X pins σ' H' s'/\tn i s'.heap/\(∀ b∈fp,H' b=none)/\W i n σ' H') ?_ m0 ⟨0,σ,H2,I2,st2,fun b hb=>(f2 b hb).1,w0⟩
 rintro n s3 ⟨i,σ3,H3,I3,st3,fr3,w3⟩
 rcases turn i n σ3 H3 w3 with ⟨stop,qn⟩ | ⟨go,N,hN,step⟩
 ·refine wpAny_passesOwn hp (thn (T.done X rfl rfl rfl hc i pins s3 σ3 H3 X.xe I3 (stat fr3) st3 stop) fun r s4 ⟨hr,I4⟩=>?_)
  subst hr
  exact wpAny_execs_nil ⟨σ3,H3,I4,qn⟩
 ·refine wpAny_passesOwn hp (thn (T.item X rfl rfl rfl hc i pins s3 σ3 H3 X.xe I3 (stat fr3) st3 go) fun r s4 ⟨u,hr,h4⟩=>?_)
  subst hr
  refine wpAny_passesOwn hp (thn h4 fun _ s5 ⟨x,H5,I5,r5,y5,st5,fr5⟩=>?_)
  have I5':=I5.pinned (stat fr5) (T.obj _ _ st5)
  refine wpAny_passesOwn hp (thn (hg _ s5 σ3 H5 x u _ I5' r5 (step x H5 y5)) fun _ s6 ⟨σ6,H6,I6,q6⟩=>?_)
  refine wpAny_passesOwn hp (thn (hb _ s6 σ6 H6 _ I6 q6) fun f s7 q7=>?_)
  have again:∀ {σ7:St} {H7:Hp},Inv X (pins++pinsAt fp s5.heap) σ7 H7 s7->N σ7 H7->∃ m,m < n/\∃ i σ' H',Inv X pins σ' H' s7/\tn i s7.heap/\(∀ b∈fp,H' b=none)/\W i m σ' H':=fun {σ7 H7} I7 n7=>by
   obtain ⟨m',hm,w7⟩:=hN σ7 H7 n7
   refine ⟨m',hm,i + 1,σ7,H7,I7.unpinned,T.keep _ _ _ st5 fun b hb o e=>(I7.pin (b,o) (List.mem_append_right _ (List.mem_append_right _ (mem_pinsAt hb e)))).1,fun b hb=>?_,w7⟩
   obtain ⟨o,e,d⟩:=T.obj _ _ st5 b hb
   exact (I7.pin (b,o) (List.mem_append_right _ (List.mem_append_right _ (mem_pinsAt hb e)))).2.1
  cases f with
  | next=>obtain ⟨σ7,H7,I7,n7⟩:=q7; exact again I7 n7
  | cont=>obtain ⟨σ7,H7,I7,n7⟩:=q7; exact again I7 n7
  | brk=>obtain ⟨σ7,H7,I7,q7⟩:=q7; exact ⟨σ7,H7,I7.unpinned,q7⟩
  | ret v=>obtain ⟨x7,σ7,H7,I7,r7,q7⟩:=q7; exact ⟨x7,σ7,H7,I7.unpinned,r7,q7⟩
end
abbrev R2:=V->V->Hp->VK->Prop
def OpR (X:Cx) (f:Value->Value->Sem Value) (r:R2):Prop :=
 ∀ (pins:List (Addr×Obj)) (s:Shared) (σ:St) (H:Hp) (x y:V) (v u:Value) (Q:VK),Inv X pins σ H s->RelV x v->RelV y u->r x y H Q ->
  wpAny (model X.prog X.w) X.A (f v u) (EP X pins σ Q) X.xe s
def UnR (X:Cx) (f:Value->Sem Value) (r:V->Hp->VK->Prop):Prop :=
 ∀ (pins:List (Addr×Obj)) (s:Shared) (σ:St) (H:Hp) (x:V) (v:Value) (Q:VK),Inv X pins σ H s->RelV x v->r x H Q ->
  wpAny (model X.prog X.w) X.A (f v) (EP X pins σ Q) X.xe s
def CallR (X:Cx) (f:Value) (r:List V->Hp->VK->Prop):Prop :=
 ∀ (pins:List (Addr×Obj)) (s:Shared) (σ:St) (H:Hp) (xs:List V) (us:List Value) (Q:VK),Inv X pins σ H s->Vals xs us->r xs H Q ->
  wpAny (model X.prog X.w) X.A (call f us) (EP X pins σ Q) X.xe s
def tOp (r:R2) (ta tb:TE):TE:=fun σ H Q=>ta σ H fun x H1=>tb σ H1 fun y H2=>r x y H2 Q
def tUn (r:V->Hp->VK->Prop) (ta:TE):TE:=fun σ H Q=>ta σ H fun x H1=>r x H1 Q
def rI (C:Int->Int->Prop) (g:Int->Int->V):R2:=fun x y H Q=>∃ i j,x=.int i/\y=.int j/\C i j/\Q (g i j) H
def rI0 (g:Int->Int->V):R2:=fun x y H Q=>∃ i j,x=.int i/\y=.int j/\Q (g i j) H
def rU (g:Int->V):V->Hp->VK->Prop:=fun x H Q=>∃ i,x=.int i/\Q (g i) H
section
variable {X:Cx} {a b:Expr} {ta tb:TE} {pos:Pos}
theorem binT (ha:PE X a ta) (hb:PE X b tb) {pins:List (Addr×Obj)} {s:Shared} {σ:St} {H:Hp} {R:V->V->Hp->Prop} (I:Inv X pins σ H s)
  (h:ta σ H fun x H1=>tb σ H1 fun y H2=>R x y H2) {Q:Value->Shared->Prop} {f:Value->Value->Sem Value}
  (hf:∀ v u s2 x y H2,Inv X pins σ H2 s2->RelV x v->RelV y u->R x y H2->wpAny (model X.prog X.w) X.A (f v u) Q X.xe s2) :
  wpAny (model X.prog X.w) X.A (eval a X.env) (fun v s₁=>wpAny (model X.prog X.w) X.A (eval b X.env) (fun u s₂=>wpAny (model X.prog X.w) X.A (f v u) Q X.xe s₂) X.xe s₁) X.xe s:=by
 refine thn (ha pins s σ H _ I h) fun v s1 ⟨x,H1,I1,r1,q1⟩=>?_
 refine thn (hb pins s1 σ H1 _ I1 q1) fun u s2 ⟨y,H2,I2,r2,q2⟩=>?_
 exact hf v u s2 x y H2 I2 r1 r2 q2
theorem pe_op {op:Operator} {r:R2} (ho:OpR X (binaryOp op) r) (ha:PE X a ta) (hb:PE X b tb):PE X (.BinOp a op b pos) (tOp r ta tb):=by
 intro pins s σ H Q I h
 exact wpAny_BinOp (binT ha hb I h fun v u s2 x y H2 I2 rx ry q=>ho pins s2 σ H2 x y v u Q I2 rx ry q)
theorem pe_un {op:UnaryOp} {r:V->Hp->VK->Prop} (ho:UnR X (unaryOp op) r) (ha:PE X a ta):PE X (.UnaryOp op a pos) (tUn r ta):=by
 intro pins s σ H Q I h
 exact UnaryOp_ (thn (ha pins s σ H _ I h) fun v s1 ⟨x,H1,I1,r1,q1⟩=>ho pins s1 σ H1 x v Q I1 r1 q1)
theorem opI {f:Value->Value->Sem Value} {C:Int->Int->Prop} {g:Int->Int->Int}
  (rule:∀ (i j:Int) (t u:Tok) (s:Shared) (Q:Value->Shared->Prop) (E:Value->Shared->Prop),C i j->Q (.int (g i j) s.toks) { s with toks:=s.toks + 1 }->wpAny (model X.prog X.w) X.A (f (.int i t) (.int j u)) Q E s) :
  OpR X f (rI C fun i j=>.int (g i j)):=by
 intro pins s σ H x y v u Q I rx ry h
 obtain ⟨i,j,rfl,rfl,hc,q⟩:=h
 obtain ⟨t,rfl⟩:=rx
 obtain ⟨t',rfl⟩:=ry
 exact rule i j t t' s _ _ hc ⟨.int (g i j),H,I.tok _,⟨_,rfl⟩,q⟩
theorem opI0 {f:Value->Value->Sem Value} {g:Int->Int->Int}
  (rule:∀ (i j:Int) (t u:Tok) (s:Shared) (Q:Value->Shared->Prop) (E:Value->Shared->Prop),Q (.int (g i j) s.toks) { s with toks:=s.toks + 1 }->wpAny (model X.prog X.w) X.A (f (.int i t) (.int j u)) Q E s) :
  OpR X f (rI0 fun i j=>.int (g i j)):=by
 intro pins s σ H x y v u Q I rx ry h
 obtain ⟨i,j,rfl,rfl,q⟩:=h
 obtain ⟨t,rfl⟩:=rx
 obtain ⟨t',rfl⟩:=ry
 exact rule i j t t' s _ _ ⟨.int (g i j),H,I.tok _,⟨_,rfl⟩,q⟩
theorem opB0 {f:Value->Value->Sem Value} {g:Int->Int->Bool}
  (rule:∀ (i j:Int) (t u:Tok) (s:Shared) (Q:Value->Shared->Prop) (E:Value->Shared->Prop),Q (.bool (g i j)) s->wpAny (model X.prog X.w) X.A (f (.int i t) (.int j u)) Q E s) :
  OpR X f (rI0 fun i j=>.bl (g i j)):=by
 intro pins s σ H x y v u Q I rx ry h
 obtain ⟨i,j,rfl,rfl,q⟩:=h
 obtain ⟨t,rfl⟩:=rx
 obtain ⟨t',rfl⟩:=ry
 exact rule i j t t' s _ _ ⟨.bl (g i j),H,I,rfl,q⟩
def CDiv (i j:Int):Prop:=0 < j/\j < 1073741824
def CPow (i j:Int):Prop:=0<=j/\j<=1000000/\i.natAbs < 2 ^ 64
def CMul (i j:Int):Prop:=(-(2 ^ 64) < i/\i < 2 ^ 64)\/(-(2 ^ 64) < j/\j < 2 ^ 64)
theorem CMul.ok {i j:Int} (h:CMul i j):IntMulOk i j:=by
 rcases h with ⟨h1,h2⟩ | ⟨h1,h2⟩
 ·exact .of_left (intBits_le_64 h1 h2)
 ·exact .of_right (intBits_le_64 h1 h2)
theorem op_add:OpR X (binaryOp .Add) (rI0 fun i j=>.int (i + j)):=opI0 fun _ _ _ _ _ _ _ q=>add_int q
theorem op_sub:OpR X (binaryOp .Sub) (rI0 fun i j=>.int (i - j)):=opI0 fun _ _ _ _ _ _ _ q=>sub_int q
theorem op_mul:OpR X (binaryOp .Mult) (rI CMul fun i j=>.int (i * j)):=opI fun _ _ _ _ _ _ _ hc q=>mul_int q hc.ok
theorem op_fdiv:OpR X (binaryOp .FloorDiv) (rI CDiv fun i j=>.int (i / j)):=opI fun i j _ _ _ _ _ hc q=>by
 have h1:(0:Int) < j:=hc.1
 have h2:j < 1073741824:=hc.2
 exact floordiv_int (by omega) (by rw [Int.fdiv_eq_ediv_of_nonneg i (by omega)]; exact q) (.inl (PyProof.noPylong_small (by omega)))
theorem op_mod:OpR X (binaryOp .Mod) (rI (fun _ j=>0 < j) fun i j=>.int (i % j)):=opI fun i j _ _ _ _ _ hc q=>by
 have h1:(0:Int) < j:=hc
 exact mod_int' (by omega) (by rw [Int.fmod_eq_emod_of_nonneg i (by omega)]; exact q)
theorem op_pow:OpR X (binaryOp .Pow) (rI CPow fun i j=>.int (i ^ j.toNat)):=opI fun _ _ _ _ _ _ _ hc q=>pow_int_small hc.1 hc.2.1 hc.2.2 q
theorem unI {f:Value->Sem Value} {g:Int->Int}
  (rule:∀ (i:Int) (t:Tok) (s:Shared) (Q:Value->Shared->Prop) (E:Value->Shared->Prop),Q (.int (g i) s.toks) { s with toks:=s.toks + 1 }->wpAny (model X.prog X.w) X.A (f (.int i t)) Q E s) :
  UnR X f (rU fun i=>.int (g i)):=by
 intro pins s σ H x v Q I rx h
 obtain ⟨i,rfl,q⟩:=h
 obtain ⟨t,rfl⟩:=rx
 exact rule i t s _ _ ⟨.int (g i),H,I.tok _,⟨_,rfl⟩,q⟩
theorem un_neg:UnR X (unaryOp .USub) (rU fun i=>.int (-i)):=unI fun _ _ _ _ _ q=>neg_int q
end
def scal:V->V->Bool
 | .non,.non=>true | .non,.int _=>true | .int _,.non=>true | .non,.bl _=>true | .bl _,.non=>true | .non,.str _=>true | .str _,.non=>true
 | .int _,.int _=>true | .bl _,.bl _=>true | .str _,.str _=>true | .byt _,.byt _=>true
 | .int _,.str _=>true | .str _,.int _=>true | .bl _,.str _=>true | .str _,.bl _=>true
 | _,_=>false
def rEq:R2:=fun x y H Q=>scal x y=true/\Q (.bl (decide (x=y))) H
def rNe:R2:=fun x y H Q=>scal x y=true/\Q (.bl (!decide (x=y))) H
theorem dec_int {i j:Int}:decide (V.int i=V.int j)=(i == j):=by
 rw [Bool.eq_iff_iff]
 simp
theorem dec_bl {i j:Bool}:decide (V.bl i=V.bl j)=(i == j):=by
 rw [Bool.eq_iff_iff]
 simp
theorem dec_str {i j:Str}:decide (V.str i=V.str j)=(i == j):=by
 rw [Bool.eq_iff_iff]
 simp
theorem dec_byt {i j:Array UInt8}:decide (V.byt i=V.byt j)=(i.toList == j.toList):=by
 rw [Bool.eq_iff_iff]
 cases i
 cases j
 simp
section
variable {X:Cx} {a b c:Expr} {ta tb:TE} {pos:Pos}
theorem fin_bl {pins:List (Addr×Obj)} {σ:St} {H:Hp} {s:Shared} {Q:VK} {k k':Bool} (I:Inv X pins σ H s) (q:Q (.bl k) H) (e:k=k'):EP X pins σ Q (.bool k') s:=by
 subst e
 exact ⟨.bl k,H,I,rfl,q⟩
theorem op_eq:OpR X (compareOp .Eq) rEq:=by
 intro pins s σ H x y v u Q I rx ry h
 obtain ⟨hs,q⟩:=h
 cases x with
 | non =>
  cases rx
  cases y with
  | non=>cases ry; exact PySem.EqNone.eq_none_none (fin_bl I q (by simp))
  | bl j=>cases ry; exact PySem.EqNone.eq_none_bool (fin_bl I q (by simp))
  | int j=>obtain ⟨t',rfl⟩:=ry; exact PySem.EqNone.eq_none_int (fin_bl I q (by simp))
  | str j=>obtain ⟨t',rfl⟩:=ry; exact PySem.EqNone.eq_none_str (fin_bl I q (by simp))
  | _=>exact absurd (show false=true from hs) Bool.false_ne_true
 | bl i =>
  cases rx
  cases y with
  | non=>cases ry; exact PySem.EqNone.eq_bool_none (fin_bl I q (by simp))
  | bl j=>cases ry; exact eq_bool (fin_bl I q dec_bl)
  | str j=>obtain ⟨t',rfl⟩:=ry; exact PySem.EqMixed.eq_bool_str (fin_bl I q (by simp))
  | _=>exact absurd (show false=true from hs) Bool.false_ne_true
 | int i =>
  obtain ⟨t,rfl⟩:=rx
  cases y with
  | non=>cases ry; exact PySem.EqNone.eq_int_none (fin_bl I q (by simp))
  | int j=>obtain ⟨t',rfl⟩:=ry; exact eq_int (fin_bl I q dec_int)
  | str j=>obtain ⟨t',rfl⟩:=ry; exact PySem.EqMixed.eq_int_str (fin_bl I q (by simp))
  | _=>exact absurd (show false=true from hs) Bool.false_ne_true
 | str i =>
  obtain ⟨t,rfl⟩:=rx
  cases y with
  | non=>cases ry; exact PySem.EqNone.eq_str_none (fin_bl I q (by simp))
  | bl j=>cases ry; exact PySem.EqMixed.eq_str_bool (fin_bl I q (by simp))
  | int j=>obtain ⟨t',rfl⟩:=ry; exact PySem.EqMixed.eq_str_int (fin_bl I q (by simp))
  | str j=>obtain ⟨t',rfl⟩:=ry; exact eq_str (fin_bl I q dec_str)
  | _=>exact absurd (show false=true from hs) Bool.false_ne_true
 | byt i =>
  obtain ⟨t,rfl⟩:=rx
  cases y with
  | byt j=>obtain ⟨t',rfl⟩:=ry; exact W.eq_bytes (fin_bl I q dec_byt)
  | _=>exact absurd (show false=true from hs) Bool.false_ne_true
 | _=>cases y <;> exact absurd (show false=true from hs) Bool.false_ne_true
theorem op_ne:OpR X (compareOp .NotEq) rNe:=by
 intro pins s σ H x y v u Q I rx ry h
 obtain ⟨hs,q⟩:=h
 cases x with
 | non =>
  cases rx
  cases y with
  | non=>cases ry; exact PySem.EqNone.ne_none_none (fin_bl I q (by simp))
  | bl j=>cases ry; exact PySem.EqNone.ne_none_bool (fin_bl I q (by simp))
  | int j=>obtain ⟨t',rfl⟩:=ry; exact PySem.EqNone.ne_none_int (fin_bl I q (by simp))
  | str j=>obtain ⟨t',rfl⟩:=ry; exact PySem.EqNone.ne_none_str (fin_bl I q (by simp))
  | _=>exact absurd (show false=true from hs) Bool.false_ne_true
 | bl i =>
  cases rx
  cases y with
  | non=>cases ry; exact PySem.EqNone.ne_bool_none (fin_bl I q (by simp))
  | bl j=>cases ry; exact ne_bool (fin_bl I q (congrArg not dec_bl))
  | str j=>obtain ⟨t',rfl⟩:=ry; exact PySem.EqMixed.ne_bool_str (fin_bl I q (by simp))
  | _=>exact absurd (show false=true from hs) Bool.false_ne_true
 | int i =>
  obtain ⟨t,rfl⟩:=rx
  cases y with
  | non=>cases ry; exact PySem.EqNone.ne_int_none (fin_bl I q (by simp))
  | int j=>obtain ⟨t',rfl⟩:=ry; exact ne_int (fin_bl I q (congrArg not dec_int))
  | str j=>obtain ⟨t',rfl⟩:=ry; exact PySem.EqMixed.ne_int_str (fin_bl I q (by simp))
  | _=>exact absurd (show false=true from hs) Bool.false_ne_true
 | str i =>
  obtain ⟨t,rfl⟩:=rx
  cases y with
  | non=>cases ry; exact PySem.EqNone.ne_str_none (fin_bl I q (by simp))
  | bl j=>cases ry; exact PySem.EqMixed.ne_str_bool (fin_bl I q (by simp))
  | int j=>obtain ⟨t',rfl⟩:=ry; exact PySem.EqMixed.ne_str_int (fin_bl I q (by simp))
  | str j=>obtain ⟨t',rfl⟩:=ry; exact ne_str (fin_bl I q (congrArg not dec_str))
  | _=>exact absurd (show false=true from hs) Bool.false_ne_true
 | byt i =>
  obtain ⟨t,rfl⟩:=rx
  cases y with
  | byt j=>obtain ⟨t',rfl⟩:=ry; exact W.ne_bytes (fin_bl I q (congrArg not dec_byt))
  | _=>exact absurd (show false=true from hs) Bool.false_ne_true
 | _=>cases y <;> exact absurd (show false=true from hs) Bool.false_ne_true
theorem op_lt:OpR X (compareOp .Lt) (rI0 fun i j=>.bl (decide (i < j))):=opB0 fun _ _ _ _ _ _ _ q=>lt_int q
theorem op_le:OpR X (compareOp .LtE) (rI0 fun i j=>.bl (decide (i<=j))):=opB0 fun _ _ _ _ _ _ _ q=>le_int q
theorem op_gt:OpR X (compareOp .Gt) (rI0 fun i j=>.bl (decide (j < i))):=opB0 fun _ _ _ _ _ _ _ q=>gt_int q
theorem op_ge:OpR X (compareOp .GtE) (rI0 fun i j=>.bl (decide (j<=i))):=opB0 fun _ _ _ _ _ _ _ q=>ge_int q
theorem op_in_str:OpR X (compareOp .In) (fun x y H Q=>∃ i j,x=.str i/\y=.str j/\Q (.bl (!(Builtin.Str.occurrences j i 0 j.length 1).isEmpty)) H):=by
 intro pins s σ H x y v u Q I rx ry h
 obtain ⟨i,j,rfl,rfl,q⟩:=h
 obtain ⟨t,rfl⟩:=rx
 obtain ⟨t',rfl⟩:=ry
 exact in_str (fin_bl I q rfl)
theorem nomark (b:Expr) {op:CmpOp} (h:op≠.In:=by decide) (h2:op≠.NotIn:=by decide):behindInMarks op b=false:=by
 have e1:(op == CmpOp.In)=false:=by cases op <;> first | rfl | exact absurd rfl h
 have e2:(op == CmpOp.NotIn)=false:=by cases op <;> first | rfl | exact absurd rfl h2
 cases b <;> simp [behindInMarks,e1,e2]
theorem pe_cmpR {op:CmpOp} {r:R2} (ho:OpR X (compareOp op) r) (ha:PE X a ta) (hb:PE X b tb) (hm:behindInMarks op b=false):PE X (.Compare a [op] [b] pos) (tOp r ta tb):=by
 intro pins s σ H Q I h
 exact wpAny_Compare1 (binT ha hb I h fun v u s2 x y H2 I2 rx ry q=>ho pins s2 σ H2 x y v u Q I2 rx ry q) hm
def tTest (t:TE):TT:=fun σ H Q=>t σ H fun x H'=>∃ k,x=.bl k/\Q k H'
theorem pt_cmpR {op:CmpOp} {r:R2} (ho:OpR X (compareOp op) r) (ha:PE X a ta) (hb:PE X b tb) (hm:behindInMarks op b=false):PT X (.Compare a [op] [b] pos) (tTest (tOp r ta tb)):=by
 intro pins s σ H Q I h
 refine wpAny_isTrue_Compare1 (thn (ha pins s σ H _ I h) fun v s1 ⟨x,H1,I1,r1,q1⟩=>thn (hb pins s1 σ H1 _ I1 q1) fun u s2 ⟨y,H2,I2,r2,q2⟩ =>
  thn (ho pins s2 σ H2 x y v u _ I2 r1 r2 q2) fun c s3 ⟨z,H3,I3,r3,k,e,q3⟩=>?_) hm
 subst e
 cases r3
 exact wpAny_truthy_bool ⟨H3,I3,q3⟩
theorem line63:(sizeLine:Nat) < 2 ^ 63:=by rw [sizeLine_eq]; decide
theorem op_add_str:OpR X (binaryOp .Add) (fun x y H Q=>∃ i j,x=.str i/\y=.str j/\i.length + j.length<=sizeLine/\Q (.str (i++j)) H):=by
 intro pins s σ H x y v u Q I rx ry h
 obtain ⟨i,j,rfl,rfl,hz,q⟩:=h
 obtain ⟨t,rfl⟩:=rx
 obtain ⟨t',rfl⟩:=ry
 exact add_str (fun t' tk=>⟨.str (i++j),H,I.tok _,⟨_,rfl⟩,q⟩) hz
theorem vals1 {x:V} {us:List Value} (r:Vals [x] us):∃ u,us=[u]/\RelV x u:=by
 cases r with
 | cons r1 r2=>cases r2; exact ⟨_,rfl,r1⟩
theorem vals2 {x y:V} {us:List Value} (r:Vals [x,y] us):∃ u w',us=[u,w']/\RelV x u/\RelV y w':=by
 cases r with
 | cons r1 r2 =>
  cases r2 with
  | cons r3 r4=>cases r4; exact ⟨_,_,rfl,r1,r3⟩
theorem call_abs:CallR X (.builtin "abs") (fun xs H Q=>∃ i,xs=[.int i]/\Q (.int (if i < 0 then -i else i)) H):=by
 intro pins s σ H xs us Q I r h
 obtain ⟨i,rfl,q⟩:=h
 obtain ⟨u,rfl,t,rfl⟩:=vals1 r
 exact call_abs_int fun u tk=>⟨.int (if i < 0 then -i else i),H,I.tok _,⟨_,rfl⟩,q⟩
theorem call_max2 (hc:X.calm=true):CallR X (.builtin "max") (fun xs H Q=>∃ i j,xs=[.int i,.int j]/\Q (.int (if j > i then j else i)) H):=by
 intro pins s σ H xs us Q I r h
 obtain ⟨i,j,rfl,q⟩:=h
 obtain ⟨u,w',rfl,⟨t,rfl⟩,⟨t',rfl⟩⟩:=vals2 r
 refine max_two_ints (I.ok.hd hc) fun h' tk k=>⟨_,H,I.kept k,?_,q⟩
 by_cases hj:j > i
 ·rw [if_pos hj,if_pos hj]; exact ⟨_,rfl⟩
 ·rw [if_neg hj,if_neg hj]; exact ⟨_,rfl⟩
theorem call_min2 (hc:X.calm=true):CallR X (.builtin "min") (fun xs H Q=>∃ i j,xs=[.int i,.int j]/\Q (.int (if j < i then j else i)) H):=by
 intro pins s σ H xs us Q I r h
 obtain ⟨i,j,rfl,q⟩:=h
 obtain ⟨u,w',rfl,⟨t,rfl⟩,⟨t',rfl⟩⟩:=vals2 r
 refine min_two_ints (I.ok.hd hc) fun h' tk k=>⟨_,H,I.kept k,?_,q⟩
 by_cases hj:j < i
 ·rw [if_pos hj,if_pos hj]; exact ⟨_,rfl⟩
 ·rw [if_neg hj,if_neg hj]; exact ⟨_,rfl⟩
theorem call_str_int:CallR X (.type "str") (fun xs H Q=>∃ i,xs=[.int i]/\i.natAbs.log2 < 1920/\Q (.str (toString i)) H):=by
 intro pins s σ H xs us Q I r h
 obtain ⟨i,rfl,hz,q⟩:=h
 obtain ⟨u,rfl,t,rfl⟩:=vals1 r
 exact PySem.P.str_of_int hz ⟨.str _,H,I.tok _,⟨_,rfl⟩,q⟩
def LenV (K:W.Frag) (x:V) (H:Hp) (n:Nat):Prop :=
 match x with
 | .str y=>y.length<=sizeLine/\n=y.length
 | .byt y=>y.size<=sizeLine/\n=y.size
 | .ref p=>(∃ xs,SqL K H p xs/\n=xs.length)\/∃ xs,SqT K H p xs/\n=xs.length
 | _=>False
theorem call_len:CallR X (.builtin "len") (fun xs H Q=>∃ x n,xs=[x]/\LenV X.K x H n/\Q (.int n) H):=by
 intro pins s σ H xs us Q I r h
 obtain ⟨x,n,rfl,e,q⟩:=h
 obtain ⟨u,rfl,rx⟩:=vals1 r
 have hl:=line63
 have hs:sizeLine=16777216:=sizeLine_eq
 cases x with
 | str y =>
  obtain ⟨t,rfl⟩:=rx
  obtain ⟨hy,e'⟩:y.length<=sizeLine/\n=y.length:=e
  subst e'
  exact len_str (by omega) ⟨.int _,H,I.tok _,⟨_,rfl⟩,q⟩
 | byt y =>
  obtain ⟨t,rfl⟩:=rx
  obtain ⟨hy,e'⟩:y.size<=sizeLine/\n=y.size:=e
  subst e'
  exact W.len_bytes (by omega) ⟨.int _,H,I.tok _,⟨_,rfl⟩,q⟩
 | ref p =>
  cases rx
  have e':(∃ xs,SqL X.K H p xs/\n=xs.length)\/∃ xs,SqT X.K H p xs/\n=xs.length:=e
  rcases e' with ⟨xs,hx,e'⟩ | ⟨xs,hx,e'⟩
  ·subst e'
   obtain ⟨its,r',pl,hz⟩:=I.list hx
   have hlen:=r'.length
   exact Calls.call_len_list pl.isList (by simp only [List.size_toArray]; omega) ⟨.int xs.length,H,I.tok _,⟨_,by simp only [List.size_toArray]; rw [hlen]⟩,q⟩
  ·subst e'
   obtain ⟨its,r',pl,hz⟩:=I.tuple hx
   have hlen:=r'.length
   exact len_tuple pl (by simp only [List.size_toArray]; omega) ⟨.int xs.length,H,I.tok _,⟨_,by simp only [List.size_toArray]; rw [hlen]⟩,q⟩
 | _=>exact (show False from e).elim
end
structure ObjM (h:Heap) (x dx C:Addr) (mA:Str->Option Value):Prop where
 obj:h.get? x=some (W.instObj C dx)
 ns:h.Ns1 dx mA
 ne:dx≠x
theorem lookIn_ns {h:Heap} {dx:Addr} {mA:Str->Option Value} (n:h.Ns1 dx mA):∃ od,h.get? dx=some od/\∀ name,W.lookIn name od=some (mA name):=by
 obtain ⟨o,es,ep,ho,hd,hk,_,hm⟩:=n
 refine ⟨o,ho,fun name=>?_⟩
 have e:=hm name
 unfold nsFind findBy at e
 rw [<- Array.find?_toList] at e
 unfold W.lookIn
 rw [hd]
 dsimp only
 split
 ·rename_i y q
  rw [q] at e
  exact congrArg some e
 ·rename_i q
  rw [q] at e
  have a:es.toList.any (·.refKey)=false:=by
   rw [List.any_eq_false]
   intro y hy
   obtain ⟨z,t,hkey⟩:=hk y (Array.mem_toList_iff.mp hy)
   simp [DictEntry.refKey,hkey]
  have a':¬ es.toList.any (·.refKey)=true:=by rw [a]; exact Bool.false_ne_true
  rw [if_neg a']
  exact congrArg some e
theorem ObjM.look {h:Heap} {x dx C:Addr} {mA:Str->Option Value} (I:ObjM h x dx C mA):∃ od,W.InstAt h x (W.instObj C dx) C (some od)/\∀ name,W.lookIn name od=some (mA name) :=
 let ⟨od,ho,hl⟩:=lookIn_ns I.ns
 ⟨od,⟨I.obj,rfl,rfl,ho⟩,hl⟩
def putF (f:Str) (v:V):List (Str×V)->List (Str×V)
 | []=>[(f,v)]
 | (g,x)::r=>if g=f then (g,v)::r else (g,x)::putF f v r
theorem lookup_putF (f g:Str) (v:V):∀ fs:List (Str×V),(putF f v fs).lookup g=if g=f then some v else fs.lookup g
 | []=>by
  show List.lookup g [(f,v)]=_
  by_cases h:g=f
  ·have hb:(g == f)=true:=beq_iff_eq.mpr h
   simp only [List.lookup,hb,if_pos h]
  ·have hb:(g == f)=false:=beq_eq_false_iff_ne.mpr h
   simp only [List.lookup,hb,if_neg h]
 | (k,x)::r=>by
  have ih:=lookup_putF f g v r
  rw [show putF f v ((k,x)::r)=(if k=f then (k,v)::r else (k,x)::putF f v r) from rfl]
  by_cases hk:k=f
  ·rw [if_pos hk]
   by_cases h:g=k
   ·have hb:(g == k)=true:=beq_iff_eq.mpr h
    simp only [List.lookup,hb,if_pos (h.trans hk)]
   ·have hb:(g == k)=false:=beq_eq_false_iff_ne.mpr h
    simp only [List.lookup,hb,if_neg (fun e:g=f=>h (e.trans hk.symm))]
  ·rw [if_neg hk]
   by_cases h:g=k
   ·have hb:(g == k)=true:=beq_iff_eq.mpr h
    simp only [List.lookup,hb,if_neg (fun e:g=f=>hk (h.symm.trans e))]
   ·have hb:(g == k)=false:=beq_eq_false_iff_ne.mpr h
    simp only [List.lookup,hb]
    exact ih
theorem keys_putF (f:Str) (v:V):∀ fs:List (Str×V),f∈(putF f v fs).map (·.1)/\∀ g,g∈fs.map (·.1)->g∈(putF f v fs).map (·.1)
 | []=>⟨by simp [putF],fun g h=>by simp at h⟩
 | (k,x)::r=>by
  obtain ⟨i1,i2⟩:=keys_putF f v r
  rw [show putF f v ((k,x)::r)=(if k=f then (k,v)::r else (k,x)::putF f v r) from rfl]
  by_cases hk:k=f
  ·rw [if_pos hk]
   subst hk
   exact ⟨by simp,fun g h=>by simpa using h⟩
  ·rw [if_neg hk]
   refine ⟨?_,fun g h=>?_⟩
   ·rw [List.map_cons]
    exact List.mem_cons_of_mem _ i1
   ·rw [List.map_cons] at h ⊢
    rcases List.mem_cons.mp h with e | e
    ·exact List.mem_cons.mpr (.inl e)
    ·exact List.mem_cons_of_mem _ (i2 g e)
theorem RelO.some_of {v:V} {o:Option Value} (r:RelO (some v) o):∃ u,o=some u/\RelV v u:=by
 cases o with
 | none=>exact (show False from r).elim
 | some u=>exact ⟨u,rfl,r⟩
theorem handed_of {v:V} {u:Value} (r:RelV v u):W.handedIn u=true:=by
 cases v with
 | non=>cases (show u=Value.none from r); rfl
 | bl b=>cases (show u=Value.bool b from r); rfl
 | int i=>obtain ⟨t,e⟩:=(show ∃ t,u=Value.int i t from r); cases e; rfl
 | str x=>obtain ⟨t,e⟩:=(show ∃ t,u=Value.str x t from r); cases e; rfl
 | byt b=>obtain ⟨t,e⟩:=(show ∃ t,u=Value.bytes b t from r); cases e; rfl
 | flt b=>obtain ⟨t,e⟩:=(show ∃ t,u=Value.float b t from r); cases e; rfl
 | ref a=>cases (show u=Value.ref a from r); rfl
 | ty n=>cases (show u=Value.type n from r); rfl
section
variable {P:Program} {w:World} {H:Hp} {h:Heap} {a C dx:Addr} {fs:List (Str×V)}
theorem ins_get (hok:HOk P w H h) (e:H a=some (.ins C dx fs)):∃ mA,ObjM h a dx C mA/\(∀ f,RelO (fs.lookup f) (mA f))/\PySem.Within mA (fs.map (·.1))/\fs.length<=1000/\H dx=some (.own a):=by
 obtain ⟨d,z,ne,ob,mA,n,r,q⟩:=(show ObjOk P w H h a (.ins C dx fs) from hok a _ e)
 exact ⟨mA,⟨ob,n,ne⟩,r,q,z,d⟩
end
structure Cls (K:W.Frag) (C:Addr):Prop where
 pg:W.plainGet K C Str.empty=true
 hd:W.hasDictIn K C=true
 po:W.plainOver K C=true
 sa:W.findIn K (.ref C) "__setattr__"=some (some (.builtin "object.__setattr__"))
theorem Cls.get {K:W.Frag} {C:Addr} (c:Cls K C) (f:Str):W.plainGet K C f=true:=c.pg
structure Con (K:W.Frag) (C:Addr) (f:Str) (v:V) (u:Value):Prop where
 at_:W.findIn K (.ref C) f=some (some u)
 rel:RelV v u
 get:W.specialIn K u "__get__"=some none
 cp:W.copiedNames.contains f=false
structure Meth (K:W.Frag) (C:Addr) (m:Str) (f:Addr):Prop where
 at_:W.findIn K (.ref C) m=some (some (.ref f))
 fn:W.isFn K (.ref f)=true
 kp:W.keepIn K (.ref f)=true
section
variable {s:Shared} {f:Str} {A:Around} {E:Value->Shared->Prop}
theorem attr_of {prog:Program} {w:World} {env:Env} {e:Expr} {f:Str} {pos:Pos} {s:Shared} {Q:Value->Shared->Prop} (hb:attributeBase e f env (eval e env)=eval e env)
  (h:wpAny (model prog w) A (eval e env) (fun o s₁=>wpAny (model prog w) A (getAttr o f true) Q E s₁) E s):wpAny (model prog w) A (eval (.Attribute e f pos) env) Q E s :=
 Attribute_any_ h (by rw [arm_eval_Attribute,hb])
end
section
variable {X:Cx} {pins:List (Addr×Obj)} {σ:St} {H:Hp} {s:Shared} {A:Around} {E:Value->Shared->Prop} {Q:Value->Shared->Prop} {c:Value} {b:Bool}
inductive TyOf (K:W.Frag) (H:Hp):V->Value->Prop where
 | non:TyOf K H .non (.type "NoneType")
 | bl (x:Bool):TyOf K H (.bl x) (.type "bool")
 | int (i:Int):TyOf K H (.int i) (.type "int")
 | str (x:Str):TyOf K H (.str x) (.type "str")
 | flt (x:UInt64):TyOf K H (.flt x) (.type "float")
 | lst {a:Addr} {xs:List V} (e:H a=some (.lst xs)):TyOf K H (.ref a) (.type "list")
 | frz {a:Addr} {o:Obj} {xs:List V} (e:H a=some (.frz o (.lst xs))):TyOf K H (.ref a) (.type "list")
 | tup {a:Addr} {xs:List V} (e:H a=some (.tup xs)):TyOf K H (.ref a) (.type "tuple")
 | dK {a:Addr} {kvs:List (Key×V)} (e:H a=some (.dK kvs)):TyOf K H (.ref a) (.type "dict")
 | dT {a:Addr} {kvs:List (List Key×V)} (e:H a=some (.dT kvs)):TyOf K H (.ref a) (.type "dict")
 | ins {a C dx:Addr} {fs:List (Str×V)} (e:H a=some (.ins C dx fs)) (cl:Cls K C) (ha:W.findIn K (.ref C) "__class__"=some (some (.builtin "object.__class__")))
   (hn:W.specialIn K (.builtin "object.__class__") "__get__"=some (some (.builtin "getset_descriptor.__get__"))) (htk:W.takesIn K (.builtin "object.__class__")=some true)
   (hm:W.mroIn K C (.type "object")=some true):TyOf K H (.ref a) (.ref C)
theorem isinst_ok {x:V} {u t:Value} (I:Inv X pins σ H s) (rx:RelV x u) (ty:TyOf X.K H x t) (e:W.kitOne X.K t c=some b) (h:∀ tk,Q (.bool b) { s with toks:=tk }) :
  wpAny (model X.prog X.w) A (call (.builtin "isinstance") [u,c]) Q E s:=by
 cases ty with
 | non=>cases (show u=Value.none from rx); exact W.kia_one W.kitx_none I.kIn True.intro e (fun z=>nomatch z) h
 | bl y=>cases (show u=Value.bool y from rx); exact W.kia_one W.kitx_bool I.kIn True.intro e (fun z=>nomatch z) h
 | int i=>obtain ⟨t,q⟩:=(show ∃ t,u=Value.int i t from rx); cases q; exact W.kia_one W.kitx_int I.kIn True.intro e (fun z=>nomatch z) h
 | str y=>obtain ⟨t,q⟩:=(show ∃ t,u=Value.str y t from rx); cases q; exact W.kia_one W.kitx_str I.kIn True.intro e (fun z=>nomatch z) h
 | flt y=>obtain ⟨t,q⟩:=(show ∃ t,u=Value.float y t from rx); cases q; exact W.kia_one W.kitx_float I.kIn True.intro e (fun z=>nomatch z) h
 | @lst a xs ea =>
  cases (show u=Value.ref a from rx)
  obtain ⟨_,_,n,_,h1⟩:=(show ObjOk X.prog X.w H s.heap a (.lst xs) from I.hok a _ ea)
  exact W.kia_one W.kitx_list I.kIn ⟨_,h1,rfl⟩ e (fun z=>nomatch z) h
 | @frz a ob xs ea =>
  cases (show u=Value.ref a from rx)
  obtain ⟨_,_,_,n,_,h1⟩:=(show ObjOk X.prog X.w H s.heap a (.frz ob (.lst xs)) from I.hok a _ ea)
  exact W.kia_one W.kitx_list I.kIn ⟨_,h1,rfl⟩ e (fun z=>nomatch z) h
 | @tup a xs ea =>
  cases (show u=Value.ref a from rx)
  obtain ⟨_,_,_,p⟩:=(show ObjOk X.prog X.w H s.heap a (.tup xs) from I.hok a _ ea)
  obtain ⟨o,h1,h2,_⟩:=p
  exact W.kia_one W.kitx_tuple I.kIn ⟨o,h1,h2⟩ e (fun z=>nomatch z) h
 | @dK a kvs ea =>
  cases (show u=Value.ref a from rx)
  obtain ⟨_,_,vs,_,p⟩:=(show ObjOk X.prog X.w H s.heap a (.dK kvs) from I.hok a _ ea)
  obtain ⟨o,es,ep,h1,h2,_⟩:=p
  exact W.kia_one W.kitx_dict I.kIn ⟨o,h1,h2.1⟩ e (fun z=>nomatch z) h
 | @dT a kvs ea =>
  cases (show u=Value.ref a from rx)
  obtain ⟨_,_,xs,_,o,es,ep,h1,h2,_⟩:=(show ObjOk X.prog X.w H s.heap a (.dT kvs) from I.hok a _ ea)
  exact W.kia_one W.kitx_dict I.kIn ⟨o,h1,h2.1⟩ e (fun z=>nomatch z) h
 | @ins a C dx fs ea cl ha hn htk hm =>
  cases (show u=Value.ref a from rx)
  obtain ⟨mA,O,_⟩:=ins_get I.hok ea
  obtain ⟨od,J,_⟩:=O.look
  exact W.kia_one (W.kitx_own (cl.get _) cl.hd ha hn htk hm) I.kIn J e (fun z=>nomatch z) h
end
structure Room (k:Nat) (A:Around):Prop where
 hd:A.handled=none
 dp:A.depth + 3 * k + 5 < recursionLimit
 un:A.units + 16 * k + 200 < cLine
theorem Room.mono {j k:Nat} {A:Around} (r:Room k A) (h:j<=k):Room j A:=⟨r.hd,by have:=r.dp; omega,by have:=r.un; omega⟩
theorem Room.deeper {k:Nat} {A:Around} (r:Room (k + 1) A) (env:Env):Room k (A.deeper env) :=
 ⟨r.hd,by have:=r.dp; show A.depth + 1 + 3 * k + 5 < _; omega,by have:=r.un; show A.units + 3 + 16 * k + 200 < _; omega⟩
theorem make_depth {A:Around} {C:Addr} {us:List Value} {kw:List (Str×Value)}:(A.under (.builtin "type.__call__" ⟨.ref C::us,kw⟩)).depth=A.depth + 1:=by
 first | rfl | simp [Around.under,Code.weight,Code.isCreation,Code.isGuard,Code.isCaller,Code.frames,Code.isFrame,guardIds]
theorem make_units {A:Around} {C:Addr} {us:List Value} {kw:List (Str×Value)}:(A.under (.builtin "type.__call__" ⟨.ref C::us,kw⟩)).units=A.units + 1:=by
 first | rfl | simp [Around.under,Code.cUnits,Code.frames,Code.isFrame]
theorem Room.make {k:Nat} {A:Around} (r:Room (k + 1) A) (C:Addr) (us:List Value) (kw:List (Str×Value)):Room k (A.under (.builtin "type.__call__" ⟨.ref C::us,kw⟩)) :=
 ⟨r.hd,by have:=r.dp; rw [make_depth]; omega,by have:=r.un; rw [make_units]; omega⟩
theorem Room.depth {k:Nat} {A:Around} (r:Room k A):A.depth < recursionLimit:=by have:=r.dp; omega
theorem Room.units {k:Nat} {A:Around} (r:Room k A):A.units + 64 < cLine:=by have:=r.un; omega
def tNil:TA:=fun _ H Q=>Q [] H
def tCons (ta:TE) (tr:TA):TA:=fun σ H Q=>ta σ H fun x H1=>tr σ H1 fun xs H2=>Q (x::xs) H2
section
variable {X:Cx} {e:Expr} {es:List Expr} {te:TE} {t:TA} {pos:Pos}
theorem pa_nil:PA X [] tNil:=fun _ _ _ _ H Q I h=>Calls.spliced_nil ⟨[],H,I,.nil,h⟩
theorem pa_cons (ha:PE X e te) (hr:PA X es t) (hs:starEach (e::es) X.env=(false,eval e X.env)::starEach es X.env:=by rfl):PA X (e::es) (tCons te t):=by
 intro pos pins s σ H Q I h
 rw [hs]
 show wpAny _ _ (spliced ((false,eval e X.env)::backTo pos (starEach es X.env))) _ _ s
 refine Calls.spliced_cons (thn (ha pins s σ H _ I h) fun u s1 ⟨x,H1,I1,r1,q1⟩=>?_)
 exact thn (hr pos pins s1 σ H1 _ I1 q1) fun us s2 ⟨xs,H2,I2,r2,q2⟩=>⟨x::xs,H2,I2,.cons r1 r2,q2⟩
def tTup (t:TA):TE:=fun σ H Q=>t σ H fun xs H1=>xs.length<=sizeLine/\∀ p,H1 p=none->Q (.ref p) (upd H1 p (.tup xs))
def tLst (t:TA):TE:=fun σ H Q=>t σ H fun xs H1=>xs.length<=sizeLine/\∀ p,H1 p=none->Q (.ref p) (upd H1 p (.lst xs))
theorem pe_tup {x1} (h:PA X es t):PE X (.Tuple es x1 pos) (tTup t):=by
 intro pins s σ H Q I hq
 refine wpAny_Tuple_spliced (thn (h pos pins s σ H _ I hq) fun us s1 ⟨xs,H1,I1,r,z,q⟩=>⟨by rw [<- r.length]; exact z,?_⟩)
 have hf:H1 s1.heap.objs.size=none:=I1.hok.fresh (Nat.le_refl _)
 refine ⟨.ref s1.heap.objs.size,upd H1 s1.heap.objs.size (.tup xs),I1.laid (t':=s1.toks) (fun b u e=>Heap.get?_push_of_some _ e) (Nat.le_refl _) ?_,rfl,q _ hf⟩
 exact ⟨z,us,r,⟨_,Heap.get?_push_size _ rfl,rfl,_,rfl,rfl⟩⟩
theorem pe_lst (h:PA X es t):PE X (.List es pos) (tLst t):=by
 intro pins s σ H Q I hq
 refine wpAny_List_spliced (thn (h pos pins s σ H _ I hq) fun us s1 ⟨xs,H1,I1,r,z,q⟩=>⟨by rw [<- r.length]; exact z,?_⟩)
 have hf:H1 s1.heap.objs.size=none:=I1.hok.fresh (Nat.le_refl _)
 refine ⟨.ref s1.heap.objs.size,upd H1 s1.heap.objs.size (.lst xs),I1.laid (t':=s1.toks) (fun b u e=>Heap.get?_push_of_some _ e) (Nat.le_refl _) ?_,rfl,q _ hf⟩
 exact ⟨z,us,0,r,Heap.get?_push_size _ rfl⟩
end
abbrev Sp:=List V->Hp->VK->XK->Prop
abbrev CXT:=List Env->Hp->Shared->XK->Value->Shared->Prop
structure Env0 (P:Program) (w:World) (K:W.Frag) (mg:Str->Option Value) (base:Heap) (A:Around) (outer:List Env) (s:Shared) (H:Hp):Prop where
 frames:A.frames=some outer
 mod:Mod K mg base
 bs:∀ b o,base.get? b=some o->s.heap.get? b=some o/\H b=none
 bsz:base.objs.size<=s.heap.objs.size
 funs:s.heap.FunFrames base outer
 frf:∀ b∈frs outer,H b=none
 hok:HOk P w H s.heap
 bare:AllBare s.gens
def CE (outer:List Env) (P:Program) (w:World) (H:Hp) (s:Shared) (Q:VK) (u:Value) (s':Shared):Prop :=
 ∃ v H',s'.os=s.os/\AllBare s'.gens/\Un (frs outer) [] H H' s.heap s'.heap/\HOk P w H' s'.heap/\RelV v u/\Q v H'
def CR (CX:CXT) (outer:List Env) (P:Program) (w:World) (H:Hp) (s:Shared) (Q:VK) (E:XK) (r:Result) (s':Shared):Prop :=
 match r with
 | .ok (.ret u)=>CE outer P w H s Q u s'
 | .ok _=>False
 | .error e=>CX outer H s E e s'
structure FnOk (P:Program) (w:World) (K:W.Frag) (mg:Str->Option Value) (base:Heap) (CX:CXT) (k:Nat) (f:Addr) (fd:FuncData) (ps:List Str) (sp:Sp):Prop where
 len:∀ vs H Q E,sp vs H Q E->vs.length=ps.length
 run:∀ (A:Around) (outer:List Env) (s:Shared) (H:Hp) (args:Args) (us:List Value) (vs:List V) (Q:VK) (E:XK),Room k A->Env0 P w K mg base A outer s H->BindsTo s fd args (ps.zip us)->Vals vs us->sp vs H Q E ->
  codeAny (model P w) A (.call (.ref f) args) (CR CX outer P w H s Q E) s
theorem FnOk.imp {P:Program} {w:World} {K:W.Frag} {mg:Str->Option Value} {base:Heap} {CX:CXT} {k:Nat} {f:Addr} {fd:FuncData} {ps:List Str} {sp sp':Sp} (F:FnOk P w K mg base CX k f fd ps sp)
  (h:∀ vs H Q E,sp' vs H Q E->sp vs H Q E):FnOk P w K mg base CX k f fd ps sp' :=
 ⟨fun vs H Q E q=>F.len vs H Q E (h _ _ _ _ q),fun A outer s H args us vs Q E hr he hb hv hs=>F.run A outer s H args us vs Q E hr he hb hv (h _ _ _ _ hs)⟩
theorem Env0.make {P:Program} {w:World} {K:W.Frag} {mg:Str->Option Value} {base:Heap} {A:Around} {outer:List Env} {s:Shared} {H:Hp} (e:Env0 P w K mg base A outer s H) (C:Addr) (us:List Value) (kw:List (Str×Value)) :
  Env0 P w K mg base (A.under (.builtin "type.__call__" ⟨.ref C::us,kw⟩)) outer s H:=⟨by first | exact e.frames | (simpa [Around.under,Code.envs,Code.isFrame,pushEnvs] using e.frames),e.mod,e.bs,e.bsz,e.funs,e.frf,e.hok,e.bare⟩
section
variable {X:Cx} {pins:List (Addr×Obj)} {σ:St} {H:Hp} {s s':Shared}
theorem Inv.env0 (I:Inv X pins σ H s):Env0 X.prog X.w X.K X.mg X.base X.A X.stack s H :=
 ⟨I.ok.frames,I.ok.mod,I.bs,Nat.le_trans I.ok.bsz I.sz,I.stack,I.stkFree,I.hok,I.bare⟩
theorem Inv.after {Q:VK} {u:Value} (I:Inv X pins σ H s) (h:CE X.stack X.prog X.w H s Q u s'):EP X pins σ Q u s':=by
 obtain ⟨v,H',os,bare,un,hok,r,q⟩:=h
 obtain ⟨hh,g,d,t,os'⟩:=s'
 obtain rfl:os'=s.os:=os
 exact ⟨v,H',I.call (h':=hh) (g':=g) (d':=d) (t':=t) (ch:=[]) un hok bare (fun b z=>absurd z (by simp)),r,q⟩
end
def tCall (sp:Sp) (dvs:List V) (E:XK) (t:TA):TE:=fun σ H Q=>t σ H fun vs H1=>sp (vs++dvs) H1 Q E
def Binds (K:W.Frag) (fd:FuncData) (ps:List Str) (ds:List Value):Prop :=
 ∀ (s:Shared) (us:List Value),K.In s.heap->(us++ds).length=ps.length->BindsTo s fd ⟨us,[]⟩ (ps.zip (us++ds))
theorem Binds.all {K:W.Frag} {fd:FuncData} {ps:List Str} (h:∀ us:List Value,us.length=ps.length->bindArgs fd ⟨us,[]⟩=pure (ps.zip us)):Binds K fd ps []:=fun s us _ hl=>by
 rw [List.append_nil] at hl ⊢
 exact .of_eq (h us hl)
def Passes (CX:CXT) (X:Cx) (E:XK):Prop:=∀ (pins:List (Addr×Obj)) (σ:St) (H:Hp) (s:Shared) (e:Value) (s':Shared),Inv X pins σ H s->CX X.stack H s E e s'->X.xe e s'
section
variable {X:Cx} {CX:CXT} {k:Nat} {f C:Addr} {fd:FuncData} {ps:List Str} {sp:Sp} {dvs:List V} {ds:List Value} {E:XK} {x:Str} {p pos:Pos} {e:Expr} {es:List Expr} {t:TA}
theorem run_fn {pins:List (Addr×Obj)} {σ:St} {H:Hp} {s:Shared} {Q:VK} {us:List Value} {vs:List V} (F:FnOk X.prog X.w X.K X.mg X.base CX k f fd ps sp) (hr:Room k X.A) (hb:Binds X.K fd ps ds) (hd:Vals dvs ds) (hx:Passes CX X E)
  (I:Inv X pins σ H s) (r:Vals vs us) (h:sp (vs++dvs) H Q E):wpAny (model X.prog X.w) X.A (call (.ref f) us) (EP X pins σ Q) X.xe s:=by
 have r2:Vals (vs++dvs) (us++ds):=r.append hd
 have hl:(us++ds).length=ps.length:=by rw [<- r2.length]; exact F.len _ _ _ _ h
 refine wpAny_call (codeAny_mono (F.run X.A X.stack s H ⟨us,[]⟩ (us++ds) (vs++dvs) Q E hr I.env0 (hb s us I.kIn hl) r2 h) fun r s' hq=>?_)
 cases r with
 | error e=>exact hx pins σ H s e s' I hq
 | ok fl =>
  cases fl with
  | ret u=>exact I.after hq
  | next=>exact False.elim hq
  | brk=>exact False.elim hq
  | cont=>exact False.elim hq
theorem pe_call (F:FnOk X.prog X.w X.K X.mg X.base CX k f fd ps sp) (hr:Room k X.A) (hg:Gl X x) (hm:X.mg x=some (.ref f)) (hk:W.keepIn X.K (.ref f)=true) (hb:Binds X.K fd ps ds) (hd:Vals dvs ds) (hx:Passes CX X E)
  (ha:PA X (e::es) t) (hdb:(x == ("__debug__":Str))=false:=by decide) (he:starEach (e::es) X.env=(false,eval e X.env)::starEach es X.env:=by rfl) (hpl:(backTo pos (starEach es X.env)).any (·.1)=false:=by rfl) :
  PE X (.Call (.Name x p) (e::es) [] pos) (tCall sp dvs E t):=by
 intro pins s σ H Q I h
 refine wpAny_Call_Name_kw (ld_glob I hg hm ?_ hdb)
 refine W.callWith_K (h₀:=X.base) I.ok.mod.kin hk (thn (ha pos pins s σ H _ I h) fun us s1 ⟨vs,H1,I1,r,q⟩=>⟨I1.kIn,?_⟩) he hpl
 exact run_fn F hr hb hd hx I1 r q
structure Mk (K:W.Frag) (C f:Addr):Prop where
 makes:W.makesIn K C=true
 init:W.findIn K (.ref C) "__init__"=some (some (.ref f))
 fn:W.isFn K (.ref f)=true
 kp:W.keepIn K (.ref C)=true
end
section
variable {fd:FuncData} {ps ks:List Str}
structure KBinds (K:W.Frag) (fd:FuncData) (ps ks:List Str) (g:List Value->List Value->List Value) (gV:List V->List V->List V):Prop where
 to:∀ (s:Shared) (us ws:List Value),K.In s.heap->(g us ws).length=ps.length->BindsTo s fd ⟨us,ks.zip ws⟩ (ps.zip (g us ws))
 rel:∀ {vs:List V} {us:List Value} {zs:List V} {ws:List Value},Vals vs us->Vals zs ws->Vals (gV vs zs) (g us ws)
variable {g:List Value->List Value->List Value} {gV:List V->List V->List V}
end
structure FnScope (N P:List Str) (sc:Scope):Prop where
 kind:sc.kind=.function
 co:sc.isCoroutine=false
 gen:sc.isGenerator=false
 nd:N.Nodup
 pre:N.take P.length=P
 par:∀ x∈P,sc.names.lookup x=some .local\/sc.names.lookup x=some .cell
 nofree:∀ y∈sc.names,y.2≠.free
theorem bindL_out {kindOf:Str->Option NameKind} {x:Str}:∀ {binds:List (Str×Value)} {m:Str->Option Value},(∀ v,(x,v)∉binds)->bindL kindOf binds m x=m x
 | [],_,_=>rfl
 | (n,v)::r,m,h=>by
  unfold bindL
  rw [bindL_out fun w hw=>h w (List.mem_cons_of_mem _ hw)]
  split
  ·have:x≠n:=by rintro rfl; exact h v List.mem_cons_self
   simp [this]
  ·rfl
theorem bindC_out {kindOf:Str->Option NameKind} {x:Str}:∀ {binds:List (Str×Value)} {m:Str->Option Value},(∀ v,(x,v)∉binds)->bindC kindOf binds m x=m x
 | [],_,_=>rfl
 | (n,v)::r,m,h=>by
  unfold bindC
  rw [bindC_out fun w hw=>h w (List.mem_cons_of_mem _ hw)]
  split
  ·rfl
  ·have:x≠n:=by rintro rfl; exact h v List.mem_cons_self
   simp [this]
theorem bindL_get {kindOf:Str->Option NameKind} {x:Str} {v:Value}:∀ {P:List Str} {vs:List Value} {i:Nat} {m:Str->Option Value},P.Nodup->P[i]?=some x->vs[i]?=some v->kindOf x=some .local ->
  bindL kindOf (P.zip vs) m x=some v
 | [],_,_,_,_,h,_,_=>by simp at h
 | _::_,[],_,_,_,_,h,_=>by simp at h
 | p::P,w::vs,0,m,nd,h1,h2,hk=>by
  simp at h1 h2; subst h1; subst h2
  show bindL kindOf ((p,w)::P.zip vs) m p=_
  unfold bindL
  rw [bindL_out fun v hv=>(List.nodup_cons.mp nd).1 (List.of_mem_zip hv).1,if_pos hk]
  simp
 | p::P,w::vs,i + 1,m,nd,h1,h2,hk=>by
  show bindL kindOf ((p,w)::P.zip vs) m x=_
  unfold bindL
  exact bindL_get (i:=i) (List.nodup_cons.mp nd).2 (by simpa using h1) (by simpa using h2) hk
theorem bindC_get {kindOf:Str->Option NameKind} {x:Str} {v:Value}:∀ {P:List Str} {vs:List Value} {i:Nat} {m:Str->Option Value},P.Nodup->P[i]?=some x->vs[i]?=some v->kindOf x≠some .local ->
  bindC kindOf (P.zip vs) m x=some v
 | [],_,_,_,_,h,_,_=>by simp at h
 | _::_,[],_,_,_,_,h,_=>by simp at h
 | p::P,w::vs,0,m,nd,h1,h2,hk=>by
  simp at h1 h2; subst h1; subst h2
  show bindC kindOf ((p,w)::P.zip vs) m p=_
  unfold bindC
  rw [bindC_out fun v hv=>(List.nodup_cons.mp nd).1 (List.of_mem_zip hv).1,if_neg hk]
  simp
 | p::P,w::vs,i + 1,m,nd,h1,h2,hk=>by
  show bindC kindOf ((p,w)::P.zip vs) m x=_
  unfold bindC
  exact bindC_get (i:=i) (List.nodup_cons.mp nd).2 (by simpa using h1) (by simpa using h2) hk
def start (N:List Str) (vs:List V):St:=vs.map some++List.replicate (N.length - vs.length) none
def cxOf (CX:CXT) (P:Program) (w:World) (K:W.Frag) (mg:Str->Option Value) (base:Heap) (N:List Str) (qual:Str) (scope:Scope) (f:Addr) (cd:Value) (A:Around) (outer:List Env) (s:Shared) (H:Hp) (E:XK):Cx where
 prog:=P
 w:=w
 K:=K
 mg:=mg
 base:=base
 A:=A.deeper (envOfC qual scope s.heap.objs.size f cd)
 N:=N
 s₀:=s
 H₀:=H
 env:=envOfC qual scope s.heap.objs.size f cd
 outer:=outer
 stack:=envOfC qual scope s.heap.objs.size f cd::outer
 ex:=[]
 calm:=true
 fn:=fun _=>true
 pn:=[]
 xe:=fun e s'=>wpAny (model P w) (A.deeper (envOfC qual scope s.heap.objs.size f cd)) (leaving (envOfC qual scope s.heap.objs.size f cd) e) (fun _ s''=>CX outer H s E e s'') (fun e' s''=>CX outer H s E e' s'') s'
theorem cell_has {sc:Scope} {n:Nat} {x:Str} (h:sc.names.lookup x=some .cell):∃ c,(cellsFrom n sc.names []).lookup x=some c:=by
 have q:=W.cellsFrom_some sc.names n [] (.inl h)
 exact Option.isSome_iff_exists.mp q
theorem inv_start {CX:CXT} {P:Program} {w:World} {K:W.Frag} {mg:Str->Option Value} {base:Heap} {N ps:List Str} {qual:Str} {scope:Scope} {f:Addr} {cd:Value} {A:Around} {outer:List Env} {s s1:Shared} {H:Hp} {E:XK} {us:List Value} {vs:List V}
  (S:FnScope N ps scope) (hd:A.handled=none) (e0:Env0 P w K mg base A outer s H) (hl:vs.length=ps.length) (r:Vals vs us)
  (x:InCallC s s.heap.objs.size (bindL (envOfC qual scope s.heap.objs.size f cd).kindOf (ps.zip us) fun _=>none) (cellsFrom (s.heap.objs.size + 1) scope.names []) (bindC (envOfC qual scope s.heap.objs.size f cd).kindOf (ps.zip us) fun _=>none) s1) :
  Inv (cxOf CX P w K mg base N qual scope f cd A outer s H E) [] (start N vs) H s1:=by
 have hpl:ps.length<=N.length:=by have:=congrArg List.length S.pre; rw [List.length_take] at this; omega
 obtain ⟨h1,tk,rfl,hk⟩:=x.done
 have noA:∀ b:Addr,b∉(cxOf CX P w K mg base N qual scope f cd A outer s H E).ex:=fun b z=>absurd (show b∈([]:List Addr) from z) (by simp)
 refine ⟨⟨e0.mod,S.kind,rfl,rfl,Nat.le_refl _,fun y z c h1 h2=>?_,fun y hy=>?_,fun y c _ h=>?_,fun _=>hd,Around.frames_deeper e0.frames,.inr ⟨rfl,rfl⟩,fun b z=>absurd z (noA b),e0.bs,e0.bsz,fun b _ _=>noA b,fun b z=>absurd z (noA b),e0.funs,e0.frf⟩,
  rfl,e0.bare,Un.kept hk,⟨_,x.toInCall.ns,fun i y v h1 h2 h3=>?_⟩,fun y c h=>⟨_,x.cell y c h⟩,e0.hok.fresh (Nat.le_refl _),fun y c h=>?_,fun p hp=>absurd (show p∈([]:List (Addr×Obj)) from hp) (by simp),e0.hok.kept hk,?_⟩
 ·exact name_of_addr x.apart (PySem.mem_of_lookup h1) (PySem.mem_of_lookup h2)
 ·have hy:scope.names.lookup y=some .cell\/scope.names.lookup y=some .free:=hy
  rcases hy with hy | hy
  ·exact cell_has hy
  ·exact absurd rfl (S.nofree _ (PySem.mem_of_lookup hy))
 ·exact Nat.le_of_lt (x.above y c (PySem.mem_of_lookup h))
 ·have hi:i < vs.length:=by
   unfold start at h2
   by_cases hi:i < vs.length
   ·exact hi
   ·rw [List.getElem?_append_right (by simpa using hi)] at h2
    rw [List.getElem?_replicate] at h2
    split at h2 <;> cases h2
  have ha:vs[i]?=some v:=by
   unfold start at h2
   rw [List.getElem?_append_left (by simpa using hi),List.getElem?_map] at h2
   cases e:vs[i]? with
   | none=>rw [e] at h2; cases h2
   | some a=>rw [e] at h2; cases h2; rfl
  obtain ⟨u,hu,rv⟩:=r.get ha
  have hp:ps[i]?=some y:=by
   rw [<- S.pre,List.getElem?_take_of_lt (by omega)]; exact h1
  have ndP:ps.Nodup:=by rw [<- S.pre]; exact S.nd.sublist (List.take_sublist _ _)
  refine ⟨u,rv,?_⟩
  rcases S.par y (List.mem_of_getElem? hp) with k | k
  ·exact .inl ⟨k,bindL_get ndP hp hu k⟩
  ·obtain ⟨c,e⟩:=cell_has (n:=s.heap.objs.size + 1) k
   refine .inr ⟨.inl k,c,e,?_⟩
   have q:=x.cell y c e
   rw [bindC_get ndP hp hu (by show scope.names.lookup y≠_; rw [k]; decide)] at q
   exact q
 ·exact e0.hok.fresh (Nat.le_of_lt (x.above y c (PySem.mem_of_lookup h)))
 ·unfold start
  show _=N.length
  rw [List.length_append,List.length_map,List.length_replicate]
  omega
theorem fn_of {CX:CXT} {P:Program} {w:World} {K:W.Frag} {mg:Str->Option Value} {base:Heap} {k:Nat} {f:Addr} {name qual:Str} {params:Arguments} {body:List Stmt} {scope:Scope} {dV kV doc pm cdv ct oc:Value} {an od:Option Addr}
  {osl:Array (Option Value)} {N ps:List Str} {sp:Sp} (lk:K.lookup f=some ⟨oc,od,.func (W.fnOf name qual params body scope dV kV doc pm an cdv ct),osl⟩) (hcd:W.codeIn K cdv qual=true) (S:FnScope N ps scope)
  (len:∀ vs H Q E,sp vs H Q E->vs.length=ps.length)
  (hbody:∀ (A:Around) (outer:List Env) (s:Shared) (H:Hp) (vs:List V) (Q:VK) (E:XK),Room k (A.deeper (envOfC qual scope s.heap.objs.size f cdv))->sp vs H Q E ->
   ∃ t,PSs (cxOf CX P w K mg base N qual scope f cdv A outer s H E) body t/\t { nx:=fun _ H'=>Q .non H',rt:=Q } (start N vs) H) :
  FnOk P w K mg base CX (k + 1) f (W.fnOf name qual params body scope dV kV doc pm an cdv ct) ps sp:=by
 refine ⟨len,fun A outer s H args us vs Q E hr e0 hb r hsp=>?_⟩
 have hl:=len _ _ _ _ hsp
 have KX:K.In s.heap:=e0.mod.kin.keeps fun b o e=>(e0.bs b o e).1
 have lim:s.heap.NoLimit:=e0.mod.nolimit.keeps fun b o e=>(e0.bs b o e).1
 have hkind:∀ y∈ps.zip us,scope.names.lookup y.1=some .local\/(scope.names.lookup y.1=some .cell/\((cellsFrom (s.heap.objs.size + 1) scope.names []).lookup y.1).isSome=true):=fun ⟨n,v⟩ hy=>by
  rcases S.par n (List.of_mem_zip hy).1 with q | q
  ·exact .inl q
  ·exact .inr ⟨q,W.cellsFrom_some _ _ _ (.inl q)⟩
 refine codeAny_call_function hr.depth (KX _ _ lk) rfl S.co S.gen rfl (W.codeRec_of KX hcd) (hb _ _ _ _ ?_)
 refine wpAny_newFunctionEnv_cells S.kind hkind fun env he s1 x=>?_
 subst he
 refine ⟨lim.keeps x.toInCall.keep,codeAny_func ?_⟩
 obtain ⟨t,ht,hq⟩:=hbody A outer s H vs Q E (hr.deeper _) hsp
 have I:Inv (cxOf CX P w K mg base N qual scope f cdv A outer s H E) [] (start N vs) H s1:=inv_start S hr.hd e0 hl r x
 refine wpAny_mono (ht [] s1 (start N vs) H _ I hq) (fun fl s' hs=>?_) fun e s' hs=>hs
 have fin:∀ {σ':St} {H':Hp} {v:V} {u:Value},Inv (cxOf CX P w K mg base N qual scope f cdv A outer s H E) [] σ' H' s'->RelV v u->Q v H'->CE outer P w H s Q u s' :=
  fun {σ' H' v u} J rv q=>⟨v,H',J.os,J.bare,J.base,J.hok,rv,q⟩
 cases fl with
 | ret u =>
  obtain ⟨v,σ',H',J,rv,q⟩:=hs
  exact fin J rv q
 | next =>
  obtain ⟨σ',H',J,q⟩:=hs
  exact fin (v:=V.non) (u:=Value.none) J rfl q
 | brk =>
  obtain ⟨_,_,_,q⟩:=hs
  exact False.elim q
 | cont =>
  obtain ⟨_,_,_,q⟩:=hs
  exact False.elim q
section
variable {X:Cx} {x:Str} {p pos:Pos} {e:Expr} {es:List Expr} {t:TA} {id T:String} {r:List V->Hp->VK->Prop}
def tCB (r:List V->Hp->VK->Prop) (t:TA):TE:=fun σ H Q=>t σ H fun vs H1=>r vs H1 Q
theorem pe_callB (hc:CallR X (.builtin id) r) (hg:Gl X x) (hm:X.mg x=none) (hv:bootBuiltins x=some (.builtin id)) (ha:PA X (e::es) t) (hn:x≠"__name__":=by decide) (hdb:(x == ("__debug__":Str))=false:=by decide)
  (he:starEach (e::es) X.env=(false,eval e X.env)::starEach es X.env:=by rfl) (hpl:(backTo pos (starEach es X.env)).any (·.1)=false:=by rfl):PE X (.Call (.Name x p) (e::es) [] pos) (tCB r t):=by
 intro pins s σ H Q I h
 refine wpAny_Call_Name_kw (ld_blt I hg hm hv ?_ hn hdb)
 exact PyProof.Rows.callWith_builtin1 (thn (ha pos pins s σ H _ I h) fun us s1 ⟨vs,H1,I1,r1,q1⟩=>hc pins s1 σ H1 vs us Q I1 r1 q1) he hpl
theorem pe_callTy (hc:CallR X (.type T) r) (hg:Gl X x) (hm:X.mg x=none) (hv:bootBuiltins x=some (.type T)) (ha:PA X (e::es) t) (hn:x≠"__name__":=by decide) (hdb:(x == ("__debug__":Str))=false:=by decide)
  (he:starEach (e::es) X.env=(false,eval e X.env)::starEach es X.env:=by rfl) (hpl:(backTo pos (starEach es X.env)).any (·.1)=false:=by rfl):PE X (.Call (.Name x p) (e::es) [] pos) (tCB r t):=by
 intro pins s σ H Q I h
 refine wpAny_Call_Name_kw (ld_blt I hg hm hv ?_ hn hdb)
 exact PyProof.Rows.callWith_type1 (thn (ha pos pins s σ H _ I h) fun us s1 ⟨vs,H1,I1,r1,q1⟩=>hc pins s1 σ H1 vs us Q I1 r1 q1) he hpl
end
end L2
namespace HT
open PySem PyProof.Rows
def lexLt:List Int->List Int->Bool
 | [],[]=>false
 | [],_::_=>true
 | _::_,[]=>false
 | x::xs,y::ys=>if x=y then lexLt xs ys else decide (x < y)
section
variable {prog:Program} {w:World} {A:Around} {E:Value->Shared->Prop} {s:Shared}
theorem cat_tup {t b:Addr} {vs ws:List Value} {Q:Value->Shared->Prop} (ht:IsTup s.heap t vs.toArray) (hb:IsTup s.heap b ws.toArray) (hv:vs≠[])
  (h1:ws=[]->Q (.ref t) s) (h2:ws≠[]->Q (.ref s.heap.objs.size) { s with heap:=s.heap.push { cls:=.type "tuple",data:=.seq (vs++ws).toArray } })
  (hsz:vs.length + ws.length<=sizeLine):wpAny (model prog w) A (binaryOp .Add (.ref t) (.ref b)) Q E s:=by
 obtain ⟨⟨cls,dd,data,sl⟩,ho,hc,n,hd⟩:=id ht
 obtain ⟨⟨cls2,dd2,data2,sl2⟩,ho2,hc2,n2,hd2⟩:=id hb
 simp only at hc hd hc2 hd2
 subst hc hd hc2 hd2
 have e:vs.toArray++ws.toArray=(vs++ws).toArray:=by simp
 by_cases hw:ws=[]
 ·exact concat_meets ⟨_,ho,rfl⟩ ⟨_,ho2,rfl⟩ noFill_tuple_add seq_tuple_add PySem.F.slot_tuple_add PySem.F.entry_tuple_add (PySem.F.args_tuple_add_2 _ _)
   (tuple_addW1 t b vs.toArray ws.toArray n n2 dd dd2 sl sl2 (by simpa using hv) (by simp [hw])) ⟨ho,ho2,h1 hw⟩
 ·refine concat_meets ⟨_,ho,rfl⟩ ⟨_,ho2,rfl⟩ noFill_tuple_add seq_tuple_add PySem.F.slot_tuple_add PySem.F.entry_tuple_add (PySem.F.args_tuple_add_2 _ _)
   (tuple_addW2 t b vs.toArray ws.toArray n n2 dd dd2 sl sl2 (by simpa using hv) (by simpa using hw) (by rw [List.size_toArray,List.size_toArray]; exact hsz)) ⟨ho,ho2,?_⟩
  rw [e]
  exact h2 hw
def sIx (n d:Nat):Option Int->Nat
 | none=>d
 | some v=>if v < 0 then (v + (n:Int)).toNat else min v.toNat n
theorem sIx_none (n d:Nat):sIx n d none=d:=rfl
theorem sIx_nat (n d k:Nat):sIx n d (some (k:Int))=min k n:=by
 show (if (k:Int) < 0 then ((k:Int) + (n:Int)).toNat else min (k:Int).toNat n)=min k n
 rw [if_neg (by omega),Int.toNat_natCast]
theorem sIx_le (n d:Nat) (hd:d<=n) (o:Option Int):sIx n d o<=n:=by
 cases o with
 | none=>exact hd
 | some v =>
  show (if v < 0 then (v + (n:Int)).toNat else min v.toNat n)<=n
  by_cases hv:v < 0
  ·rw [if_pos hv]; omega
  ·rw [if_neg hv]; exact Nat.min_le_right _ _
theorem clip_eq (v:Int) (n d:Nat):(if v < 0 then max (v + (n:Int)) 0 else min v (n:Int))=((sIx n d (some v):Nat):Int):=by
 show (if v < 0 then max (v + (n:Int)) 0 else min v (n:Int))=(((if v < 0 then (v + (n:Int)).toNat else min v.toNat n):Nat):Int)
 by_cases hv:v < 0
 ·simp only [if_pos hv]; omega
 ·simp only [if_neg hv]; omega
theorem adjust_gen (lo hi:Option Int) (n:Nat):Builtin.Slice.sliceAdjust lo hi 1 (n:Int)=(((sIx n 0 lo:Nat):Int),((sIx n n hi:Nat):Int)):=by
 have h1:¬ ((1:Int) < 0):=by omega
 unfold Builtin.Slice.sliceAdjust
 simp only [h1,if_false]
 refine Prod.ext ?_ ?_
 ·cases lo with
  | none=>rfl
  | some v=>exact clip_eq v n 0
 ·cases hi with
  | none=>rfl
  | some v=>exact clip_eq v n n
theorem places_gen (i j:Nat):Builtin.Slice.slicePlaces (i:Int) (j:Int) 1=j - i:=by
 unfold Builtin.Slice.slicePlaces
 have h1:(1:Int) > 0:=by omega
 simp only [h1,if_true,Int.ediv_one]
 split <;> omega
theorem slicePart_ {v:Value} {o:Option Int} {Q:Option Int->Shared->Prop} (p:IsPart v o) (h:Q o s):wpAny (model prog w) A (Builtin.Slice.slicePartIndex v) Q E s:=by
 cases p with
 | none=>exact slicePart_none h
 | int i t=>exact slicePart_int h
theorem sliceApplied_gen {sl:Addr} {vl vu:Value} {lo hi:Option Int} {n:Nat} {Q:Int×Int×Nat->Shared->Prop} (hs:s.heap.IsSliceOf sl vl vu .none) (pl:IsPart vl lo) (pu:IsPart vu hi)
  (h:Q (((sIx n 0 lo:Nat):Int),1,sIx n n hi - sIx n 0 lo) s):wpAny (model prog w) A (Builtin.Slice.sliceApplied (.ref sl) (pure (n:Int))) Q E s:=by
 obtain ⟨os,hos,hcs,hds⟩:=id hs
 unfold Builtin.Slice.sliceApplied Builtin.Slice.sliceFields
 refine wpAny_bind (wpAny_bind (wpAny_field hos hds (x:=vl) rfl (wpAny_bind (wpAny_field hos hds (x:=vu) rfl (wpAny_bind (wpAny_field hos hds (x:=.none) rfl (wpAny_pure ?_)))))))
 refine wpAny_bind (slicePart_none ?_)
 show wpAny _ _ (if ((1:Int) == 0)=true then _ else _) _ _ s
 rw [if_neg (by decide)]
 refine wpAny_bind (slicePart_ pl (wpAny_bind (slicePart_ pu (wpAny_bind (wpAny_pure ?_)))))
 show wpAny _ _ (match Builtin.Slice.sliceAdjust lo hi 1 (n:Int) with | (lo,hi)=>pure (lo,(1:Int),Builtin.Slice.slicePlaces lo hi 1)) _ _ s
 rw [adjust_gen lo hi n]
 show wpAny _ _ (pure (((sIx n 0 lo:Nat):Int),(1:Int),Builtin.Slice.slicePlaces ((sIx n 0 lo:Nat):Int) ((sIx n n hi:Nat):Int) 1)) _ _ s
 rw [places_gen]
 exact wpAny_pure h
theorem pick_gen (xs:Array Value) (i k:Nat):((List.range k).filterMap fun (m:Nat)=>xs[((i:Int) + (m:Int) * 1).toNat]?).toArray=((xs.toList.drop i).take k).toArray:=by
 have e:(fun (m:Nat)=>xs[((i:Int) + (m:Int) * 1).toNat]?)=fun m=>xs[i + m]?:=by
  funext m
  have:((i:Int) + (m:Int) * 1).toNat=i + m:=by omega
  rw [this]
 rw [e]
 have:=pick_run xs i k
 rw [List.filterMap_map] at this
 have e2:((fun x=>xs[x]?) ∘ fun x=>i + x)=fun m=>xs[i + m]?:=rfl
 rw [e2] at this
 rw [this]
theorem getItem_tuple_cut {t sl:Addr} {items:Array Value} {vl vu:Value} {lo hi:Option Int} {Q:Value->Shared->Prop} (ht:IsTup s.heap t items) (hs:s.heap.IsSliceOf sl vl vu .none) (pl:IsPart vl lo) (pu:IsPart vu hi)
  (hw:¬ (sIx items.size 0 lo=0/\sIx items.size items.size hi=items.size))
  (h:Q (.ref s.heap.objs.size) { s with heap:=s.heap.push { cls:=.type "tuple",data:=.seq ((items.toList.drop (sIx items.size 0 lo)).take (sIx items.size items.size hi - sIx items.size 0 lo)).toArray } })
  (hsz:items.size<=sizeLine):wpAny (model prog w) A (getItem (.ref t) (.ref sl)) Q E s:=by
 have htake:sizeOk (.seq ((items.toList.drop (sIx items.size 0 lo)).take (sIx items.size items.size hi - sIx items.size 0 lo)).toArray):=by
  show ((items.toList.drop (sIx items.size 0 lo)).take (sIx items.size items.size hi - sIx items.size 0 lo)).toArray.size<=sizeLine
  rw [List.size_toArray,List.length_take,List.length_drop,Array.length_toList]
  omega
 have hj:sIx items.size items.size hi<=items.size:=sIx_le _ _ (Nat.le_refl _) hi
 obtain ⟨os,hos,hcs,hds⟩:=id hs
 have hTs:s.TypeIs (.ref sl) "slice":=⟨os,hos,hcs⟩
 unfold getItem
 try with_reducible refine wpAny_holding ?_
 first | refine wpAny_bind (wpAny_pure ?_) | skip
 refine wpAny_bind (wpAny_sequenceKey ht.typeIs (by decide) ?_)
 refine wpAny_bind (wpAny_callSpecial?_slot (name:=Str.ofString "__getitem__") ht.typeIs PyProof.Rows.slot_tuple_getitem
  (wpAny_call_entry PyProof.Rows.slot_tuple_getitem ht.typeIs entry_tuple_getitem ?_ (args_tuple_getitem _ _)))
 show wpAny _ _ (Builtin.Tuple.tupleItemsOf (.ref t) >>= _) _ _ s
 refine wpAny_bind (tupleItemsOf_ ht ?_)
 refine wpAny_bind (wpAny_typeOf hTs ?_)
 rw [if_pos (by decide)]
 refine wpAny_bind (sliceApplied_gen hs pl pu ?_)
 have hno:¬ ((((sIx items.size 0 lo:Nat):Int) == 0 && (1:Int) == 1 && (sIx items.size items.size hi - sIx items.size 0 lo) == items.size)=true):=by
  intro q
  rw [Bool.and_eq_true,Bool.and_eq_true] at q
  have q1:((sIx items.size 0 lo:Nat):Int)=0:=eq_of_beq q.1.1
  have q2:sIx items.size items.size hi - sIx items.size 0 lo=items.size:=eq_of_beq q.2
  exact hw ⟨by omega,by omega⟩
 show wpAny _ _ (if (((sIx items.size 0 lo:Nat):Int) == 0 && (1:Int) == 1 && (sIx items.size items.size hi - sIx items.size 0 lo) == items.size)=true then _ else _) _ _ s
 rw [if_neg hno,pick_gen]
 first
  | exact wpAny_bind (m:=Builtin.Tuple.tupleExact _) (wpAny_newObj_type (wpAny_pure ⟨_,rfl,wpAny_pure h⟩) htake)
  | exact wpAny_bind (m:=Builtin.Tuple.tupleExact _) (wpAny_newObj_type (wpAny_bind (wpAny_pure (wpAny_pure ⟨_,rfl,wpAny_pure h⟩))) htake)
  | exact wpAny_bind (wpAny_bind (m:=Builtin.Tuple.tupleExact _) (wpAny_newObj_type (wpAny_pure (wpAny_pure ⟨_,rfl,wpAny_pure h⟩)) htake))
  | exact wpAny_bind (wpAny_bind (m:=Builtin.Tuple.tupleExact _) (wpAny_newObj_type (wpAny_pure ⟨_,rfl,wpAny_pure h⟩) htake))
end
end HT
namespace L2
open PySem PySem.Spec PyProof.Rows
abbrev TO:=St->Hp->(Option Int->Hp->Prop)->Prop
def PO (X:Cx) (e:Option Expr) (t:TO):Prop :=
 ∀ (pins:List (Addr×Obj)) (s:Shared) (σ:St) (H:Hp) (Q:Option Int->Hp->Prop),Inv X pins σ H s->t σ H Q ->
  wpAny (model X.prog X.w) X.A (evalPart e X.env) (fun u s'=>∃ o H',Inv X pins σ H' s'/\IsPart u o/\Q o H') X.xe s
def tNoPart:TO:=fun _ H Q=>Q none H
def tPart (t:TE):TO:=fun σ H Q=>t σ H fun x H1=>∃ i,x=.int i/\Q (some i) H1
section
variable {X:Cx} {e:Expr} {te:TE} {lo hi:Option Expr} {tl th:TO} {pos p2:Pos}
theorem po_none:PO X none tNoPart:=by
 intro pins s σ H Q I h
 rw [evalPart_none]
 exact wpAny_pure ⟨none,H,I,.none,h⟩
theorem po_some (h:PE X e te):PO X (some e) (tPart te):=by
 intro pins s σ H Q I hw
 rw [evalPart_some]
 refine thn (h pins s σ H _ I hw) fun u s1 ⟨x,H1,I1,r1,q1⟩=>?_
 obtain ⟨i,rfl,q⟩:=q1
 obtain ⟨t,rfl⟩:=r1
 exact ⟨some i,H1,I1,.int i t,q⟩
def SlR (X:Cx) (r:V->Option Int->Option Int->Hp->VK->Prop):Prop :=
 ∀ (pins:List (Addr×Obj)) (s:Shared) (σ:St) (H:Hp) (x:V) (v vl vu:Value) (lo hi:Option Int) (sl:Addr) (Q:VK),Inv X pins σ H s->RelV x v->s.heap.IsSliceOf sl vl vu .none->IsPart vl lo->IsPart vu hi->r x lo hi H Q ->
  ∃ T id,typeLookup (.type T) "__getitem__"=pure (some (.builtin id))/\s.TypeIs v T/\wpAny (model X.prog X.w) X.A (getItem v (.ref sl)) (EP X pins σ Q) X.xe s
def tSl (r:V->Option Int->Option Int->Hp->VK->Prop) (te:TE) (tl th:TO):TE:=fun σ H Q=>te σ H fun x H1=>tl σ H1 fun l H2=>th σ H2 fun u H3=>r x l u H3 Q
theorem pe_slice {r:V->Option Int->Option Int->Hp->VK->Prop} (hr:SlR X r) (he:PE X e te) (hl:PO X lo tl) (hu:PO X hi th):PE X (.Subscript e (.Slice lo hi none p2) pos) (tSl r te tl th):=by
 intro pins s σ H Q I h
 refine Subscript_ (thn (he pins s σ H _ I h) fun v s1 ⟨x,H1,I1,r1,q1⟩=>?_)
 refine wpAny_Slice (thn (hl pins s1 σ H1 _ I1 q1) fun vl s2 ⟨l,H2,I2,pl,q2⟩=>thn (hu pins s2 σ H2 _ I2 q2) fun vu s3 ⟨u,H3,I3,pu,q3⟩=>?_)
 rw [evalPart_none]
 refine wpAny_pure ?_
 have I4:Inv X pins σ H3 { s3 with heap:=s3.heap.push { cls:=.type "slice",data:=.fields #[vl,vu,.none] } }:=I3.kept (t':=s3.toks) fun b ob q=>Heap.get?_push_of_some _ q
 obtain ⟨T,id,hT,ht,hg⟩:=hr pins { s3 with heap:=s3.heap.push { cls:=.type "slice",data:=.fields #[vl,vu,.none] } } σ H3 x v vl vu l u s3.heap.objs.size Q I4 r1 (Heap.IsSliceOf.new ..) pl pu q3
 show wpAny (model X.prog X.w) X.A (subscriptTail e (.Slice lo hi none p2) v (.ref s3.heap.objs.size)) (EP X pins σ Q) X.xe { s3 with heap:=s3.heap.push { cls:=.type "slice",data:=.fields #[vl,vu,.none] } }
 exact tail_any (ops:=[.ref s3.heap.objs.size,v]) ht hT hg (by with_unfolding_all rfl)
def cutV (xs:List V) (lo hi:Option Int):List V:=(xs.drop (HT.sIx xs.length 0 lo)).take (HT.sIx xs.length xs.length hi - HT.sIx xs.length 0 lo)
theorem cutV_length (xs:List V) (lo hi:Option Int):(cutV xs lo hi).length<=xs.length:=by
 unfold cutV
 rw [List.length_take,List.length_drop]
 omega
def rCatT (K:W.Frag):R2:=fun x y H Q=>∃ a b xs ys,x=.ref a/\y=.ref b/\SqT K H a xs/\SqT K H b ys/\xs≠[]/\xs.length + ys.length<=sizeLine /\
 (ys=[]->Q (.ref a) H)/\(ys≠[]->∀ p,H p=none->Q (.ref p) (upd H p (.tup (xs++ys))))
theorem Vals.nil_iff {xs:List V} {us:List Value} (r:Vals xs us):us=[]↔xs=[]:=by
 cases r with
 | nil=>simp
 | cons _ _=>simp
theorem op_catT:OpR X (binaryOp .Add) (rCatT X.K):=by
 intro pins s σ H x y v u Q I rx ry h
 obtain ⟨a,b,xs,ys,rfl,rfl,ha,hb,hx,hz,q1,q2⟩:=h
 cases rx
 cases ry
 obtain ⟨its,r1,p1,_⟩:=I.tuple ha
 obtain ⟨its2,r2,p2,_⟩:=I.tuple hb
 refine HT.cat_tup p1 p2 (fun z=>hx (r1.nil_iff.mp z)) (fun z=>⟨.ref a,H,I,rfl,q1 (r2.nil_iff.mp z)⟩) (fun z=>?_) (by rw [<- r1.length,<- r2.length]; exact hz)
 refine ⟨.ref s.heap.objs.size,_,I.laid (t':=s.toks) (o:=.tup (xs++ys)) (fun b ob q=>Heap.get?_push_of_some _ q) (Nat.le_refl _) ?_,rfl,q2 (fun w=>z (r2.nil_iff.mpr w)) _ (I.hok.fresh (Nat.le_refl _))⟩
 exact ⟨by rw [List.length_append]; exact hz,_,r1.append r2,IsTupD.new _ _⟩
end
def ixN (n:Nat) (i:Int):Option Nat:=if 0<=i then (if i < n then some i.toNat else none) else if -(n:Int)<=i then some (i + n).toNat else none
def atI {α:Type} (xs:List α) (i:Int):Option α:=(ixN xs.length i).bind fun j=>xs[j]?
theorem ixN_seq {n:Nat} {i:Int} {j:Nat} (h:ixN n i=some j):seqIndex? i n=some j/\j < n/\-(n:Int)<=i/\i < n:=by
 unfold ixN at h
 by_cases h0:0<=i
 ·rw [if_pos h0] at h
  by_cases h1:i < n
  ·rw [if_pos h1] at h
   have e:i.toNat=j:=Option.some.inj h
   exact ⟨by rw [seqIndex_of h0 h1,e],by omega,by omega,h1⟩
  ·rw [if_neg h1] at h; cases h
 ·rw [if_neg h0] at h
  by_cases h1:-(n:Int)<=i
  ·rw [if_pos h1] at h
   have e:(i + n).toNat=j:=Option.some.inj h
   exact ⟨by rw [seqIndex_neg (by omega) h1,e],by omega,h1,by omega⟩
  ·rw [if_neg h1] at h; cases h
theorem atI_get {α:Type} {xs:List α} {i:Int} {v:α} (h:atI xs i=some v):∃ j,seqIndex? i xs.length=some j/\xs[j]?=some v/\j < xs.length/\-(xs.length:Int)<=i/\i < xs.length:=by
 unfold atI at h
 cases e:ixN xs.length i with
 | none=>rw [e] at h; cases h
 | some j =>
  rw [e] at h
  obtain ⟨h1,h2,h3,h4⟩:=ixN_seq e
  exact ⟨j,h1,h,h2,h3,h4⟩
theorem atI_nat {α:Type} {xs:List α} {j:Nat} {v:α} (h:xs[j]?=some v):atI xs (j:Int)=some v:=by
 have hj:j < xs.length:=(List.getElem?_eq_some_iff.mp h).1
 have e:ixN xs.length (j:Int)=some j:=by
  unfold ixN
  rw [if_pos (by omega),if_pos (by omega)]; simp
 unfold atI; rw [e]; exact h
theorem atI_last {α:Type} (xs:List α) (v:α):atI (xs++[v]) (-1)=some v:=by
 have hl:(xs++[v]).length=xs.length + 1:=by simp
 have e:ixN (xs++[v]).length (-1)=some xs.length:=by
  unfold ixN
  rw [hl,if_neg (by decide),if_pos (by omega)]
  congr 1
  omega
 unfold atI
 rw [e]
 show (xs++[v])[xs.length]?=some v
 simp
def PlainIx (b:Expr):Prop:=∀ o i,subscripted b false o i=operate [o,i] (getItem o i)
def IxR (X:Cx) (r:R2):Prop :=
 ∀ (value slice:Expr) (pins:List (Addr×Obj)) (s:Shared) (σ:St) (H:Hp) (x y:V) (v u:Value) (Q:VK),Inv X pins σ H s->RelV x v->RelV y u->r x y H Q ->
  subscripted slice false v u=operate [v,u] (getItem v u)->wpAny (model X.prog X.w) X.A (subscriptTail value slice v u) (EP X pins σ Q) X.xe s
def MtR (X:Cx) (id:String) (r:V->List V->Hp->VK->Prop):Prop :=
 ∀ (pins:List (Addr×Obj)) (s:Shared) (σ:St) (H:Hp) (x:V) (xs:List V) (v:Value) (us:List Value) (Q:VK),Inv X pins σ H s->RelV x v->Vals xs us->r x xs H Q ->
  wpAny (model X.prog X.w) X.A (call (.builtin id) (v::us)) (EP X pins σ Q) X.xe s
section
variable {X:Cx} {a b:Expr} {ta tb:TE} {pos:Pos}
theorem IxR.or {r r':R2} (h:IxR X r) (h':IxR X r'):IxR X (fun x y H Q=>r x y H Q\/r' x y H Q):=by
 intro value slice pins s σ H x y v u Q I rx ry q hs
 rcases q with q | q
 ·exact h value slice pins s σ H x y v u Q I rx ry q hs
 ·exact h' value slice pins s σ H x y v u Q I rx ry q hs
theorem pe_ix {r:R2} (hr:IxR X r) (ha:PE X a ta) (hb:PE X b tb) (hs:PlainIx b):PE X (.Subscript a b pos) (tOp r ta tb):=by
 intro pins s σ H Q I h
 exact Subscript_ (binT ha hb I h fun v u s2 x y H2 I2 rx ry q=>hr a b pins s2 σ H2 x y v u Q I2 rx ry q (hs _ _))
def rIxL (K:W.Frag):R2:=fun x y H Q=>∃ p xs i v,x=.ref p/\y=.int i/\SqL K H p xs/\atI xs i=some v/\Q v H
def rIxT (K:W.Frag):R2:=fun x y H Q=>∃ p xs i v,x=.ref p/\y=.int i/\SqT K H p xs/\atI xs i=some v/\Q v H
def rIxS:R2:=fun x y H Q=>∃ z i c,x=.str z/\y=.int i/\z.length<=sizeLine/\atI z.cps.toList i=some c/\Q (.str ⟨#[c]⟩) H
theorem ix_list:IxR X (rIxL X.K):=by
 intro value slice pins s σ H x y v u Q I rx ry h hs
 obtain ⟨p,xs,i,z,rfl,rfl,hq,he,q⟩:=h
 cases rx
 obtain ⟨t,rfl⟩:=ry
 obtain ⟨its,r,pl,hz⟩:=I.list hq
 obtain ⟨j,h1,h2,h3,h4,h5⟩:=atI_get he
 obtain ⟨w,ew,rw'⟩:=r.get h2
 have hl:=r.length
 have hn:=line63
 have fin:EP X pins σ Q w s:=⟨z,H,I,rw',q⟩
 by_cases h0:0<=i
 ·have hj:i.toNat=j:=by
   rw [seqIndex_of h0 h5] at h1
   exact Option.some.inj h1
  exact item_listR pl.isList h0 (by omega) (by rw [hj]; simpa using ew) fin hs
 ·have hj:(i + (its.toArray.size:Int)).toNat=j:=by
   rw [seqIndex_neg (by omega) h4] at h1
   rw [List.size_toArray,<- hl]
   exact Option.some.inj h1
  exact subscriptTail_builtinR (x:=w) pl.isList.typeIs slot_list_getitem.lookup
   (wpAny_getItem_list_neg (Q:=fun r s'=>r=w/\EP X pins σ Q r s') pl.isList (by omega) (by rw [List.size_toArray] <;> omega) (by omega) (by rw [hj]; simpa using ew) ⟨rfl,fin⟩) hs
theorem ix_tup:IxR X (rIxT X.K):=by
 intro value slice pins s σ H x y v u Q I rx ry h hs
 obtain ⟨p,xs,i,z,rfl,rfl,hq,he,q⟩:=h
 cases rx
 obtain ⟨t,rfl⟩:=ry
 obtain ⟨its,r,pl,hz⟩:=I.tuple hq
 obtain ⟨j,h1,h2,h3,h4,h5⟩:=atI_get he
 obtain ⟨w,ew,rw'⟩:=r.get h2
 have hl:=r.length
 have hn:=line63
 have fin:EP X pins σ Q w s:=⟨z,H,I,rw',q⟩
 exact subscriptTail_builtinR (x:=w) pl.typeIs slot_tuple_getitem.lookup
  (getItem_tuple (j:=j) (Q:=fun r s'=>r=w/\EP X pins σ Q r s') pl (by omega) (by omega) (by rw [List.size_toArray,<- hl]; exact h1) (by simpa using ew) ⟨rfl,fin⟩) hs
theorem ix_str:IxR X rIxS:=by
 intro value slice pins s σ H x y v u Q I rx ry h hs
 obtain ⟨z,i,c,rfl,rfl,hz,he,q⟩:=h
 obtain ⟨t,rfl⟩:=rx
 obtain ⟨t',rfl⟩:=ry
 obtain ⟨j,h1,h2,h3,h4,h5⟩:=atI_get he
 have hl:z.cps.toList.length=z.length:=by simp [Str.length]
 rw [hl] at h1 h4 h5
 have hn:=line63
 exact tail_any (typeIs_str s z t) slot_str_getitem.lookup (getItem_str (c:=c) (by
  have e1:decide (i < -(2 ^ 63:Int))=false:=decide_eq_false (by omega)
  have e2:decide (i≥2 ^ 63)=false:=decide_eq_false (by omega)
  rw [e1,e2,Bool.or_false]) (by rw [h1]; simpa using h2) ⟨.str ⟨#[c]⟩,H,I.tok _,⟨_,rfl⟩,q⟩) hs
def rIx (K:W.Frag):R2:=fun x y H Q=>rIxL K x y H Q\/rIxT K x y H Q\/rIxS x y H Q
theorem ix_seq:IxR X (rIx X.K):=ix_list.or (ix_tup.or ix_str)
theorem mapSeq_set (its:List Value) (n j:Nat) (u:Value):Obj.mapSeq (·.setIfInBounds j u) { cls:=.type "list",data:=.seq its.toArray n }={ cls:=.type "list",data:=.seq (its.set j u).toArray n }:=by
 simp [Obj.mapSeq]
theorem Inv.lst {pins:List (Addr×Obj)} {σ:St} {H:Hp} {s:Shared} {p:Addr} {xs:List V} (I:Inv X pins σ H s) (h:H p=some (.lst xs)) :
  ∃ (its:List Value) (n:Nat),Vals xs its/\s.heap.get? p=some { cls:=.type "list",data:=.seq its.toArray n }/\xs.length<=sizeLine:=by
 obtain ⟨z,its,n,r,e⟩:=I.hok p _ h
 exact ⟨its,n,r,e,z⟩
theorem Inv.lstUpd {pins:List (Addr×Obj)} {σ:St} {H:Hp} {s:Shared} {p:Addr} {xs ys:List V} {its its':List Value} {n n':Nat} {f:Obj->Obj} (I:Inv X pins σ H s) (h:H p=some (.lst xs))
  (ho:s.heap.get? p=some { cls:=.type "list",data:=.seq its.toArray n }) (hf:f { cls:=.type "list",data:=.seq its.toArray n }={ cls:=.type "list",data:=.seq its'.toArray n' }) (r:Vals ys its') (hz:ys.length<=sizeLine) (t:Nat) :
  Inv X pins σ (upd H p (.lst ys)) { s with heap:=s.heap.update p f,toks:=t }:=by
 have e:(s.heap.update p f).get? p=some { cls:=.type "list",data:=.seq its'.toArray n' }:=by
  rw [Heap.get?_update_self f ho (by rw [hf] <;> rfl),hf]
 refine I.write (x:=p) (e:=p) (by rw [h]; trivial) (.inl rfl) (fun b u hb q=>(Heap.get?_update_other _ _ (Ne.symm hb)).trans q) ⟨_,e⟩ ?_
 exact ⟨hz,its',n',r,e⟩
def rSetL:V->V->V->Hp->(Hp->Prop)->Prop:=fun o i v H Q=>∃ p xs k j,o=.ref p/\i=.int k/\H p=some (.lst xs)/\ixN xs.length k=some j/\Q (upd H p (.lst (xs.set j v)))
theorem set_list:PSet X rSetL:=by
 intro pins s σ H o i v ov iv u Q I ro ri rv h
 obtain ⟨p,xs,k,j,rfl,rfl,hp,hj,q⟩:=h
 cases ro
 obtain ⟨t,rfl⟩:=ri
 obtain ⟨its,n,r,ho,hz⟩:=I.lst hp
 obtain ⟨h1,h2,h3,h4⟩:=ixN_seq hj
 have hl:=r.length
 have hn:=line63
 have I':Inv X pins σ (upd H p (.lst (xs.set j v))) { s with heap:=s.heap.update p (Obj.mapSeq (·.setIfInBounds j u)) } :=
  I.lstUpd hp ho (mapSeq_set its n j u) (r.set rv j) (by rw [List.length_set]; exact hz) s.toks
 by_cases h0:0<=k
 ·have hk:k.toNat=j:=by
   rw [seqIndex_of h0 h4] at h1
   exact Option.some.inj h1
  exact W.ki_setAt ho h0 (by omega) (by rw [List.size_toArray,<- hl]; exact h4) (by rw [hk]; exact ⟨_,I',q⟩)
 ·have hk:(k + (its.toArray.size:Int)).toNat=j:=by
   rw [seqIndex_neg (by omega) h3] at h1
   rw [List.size_toArray,<- hl]
   exact Option.some.inj h1
  exact W.ki_setBack ho (by omega) (by rw [List.size_toArray,<- hl]; exact h3) (by omega) (by rw [hk]; exact ⟨_,I',q⟩)
theorem slice_bounds (lo hi:Option Int) (n:Nat):(sliceBounds lo hi none n).1=((HT.sIx n 0 lo:Nat):Int)/\(sliceBounds lo hi none n).2.1=((HT.sIx n n hi:Nat):Int)/\(sliceBounds lo hi none n).2.2=1:=by
 refine ⟨?_,?_,rfl⟩
 ·cases lo with
  | none=>simp [sliceBounds,HT.sIx]
  | some i =>
   simp only [sliceBounds,HT.sIx,Option.getD_none,show (1:Int) > 0 by decide,if_true]
   by_cases h:i < 0
   ·simp only [h,if_true] <;> omega
   ·simp only [h,if_false] <;> omega
 ·cases hi with
  | none=>simp [sliceBounds,HT.sIx]
  | some i =>
   simp only [sliceBounds,HT.sIx,Option.getD_none,show (1:Int) > 0 by decide,if_true]
   by_cases h:i < 0
   ·simp only [h,if_true] <;> omega
   ·simp only [h,if_false] <;> omega
theorem slicePick_cut (its:List Value) (lo hi:Option Int):slicePick its.toArray lo hi none=((its.drop (HT.sIx its.length 0 lo)).take (HT.sIx its.length its.length hi - HT.sIx its.length 0 lo)).toArray:=by
 obtain ⟨h1,h2,h3⟩:=slice_bounds lo hi its.toArray.size
 unfold slicePick
 rw [h1,h2,h3]
 simp only [sliceRange_one,pick_run,List.size_toArray] <;> rfl
def rSlL (K:W.Frag):V->Option Int->Option Int->Hp->VK->Prop:=fun x lo hi H Q=>∃ a xs,x=.ref a/\SqL K H a xs/\∀ p,H p=none->Q (.ref p) (upd H p (.lst (cutV xs lo hi)))
theorem sl_list:SlR X (rSlL X.K):=by
 intro pins s σ H x v vl vu lo hi sl Q I rx hs pl pu h
 obtain ⟨a,xs,rfl,hx,q⟩:=h
 cases rx
 obtain ⟨its,r,ht,hz⟩:=I.list hx
 have hlen:=r.length
 refine ⟨"list",_,slot_list_getitem.lookup,ht.isList.typeIs,?_⟩
 refine wpAny_getItem_list_slice ht.isList hs pl pu .none (by simp) ?_ (by rw [List.size_toArray] <;> omega)
 rw [slicePick_cut,<- hlen]
 refine ⟨.ref s.heap.objs.size,_,I.laid (t':=s.toks) (o:=.lst (cutV xs lo hi)) (fun b ob q=>Heap.get?_push_of_some _ q) (Nat.le_refl _) ?_,rfl,q _ (I.hok.fresh (Nat.le_refl _))⟩
 exact ⟨Nat.le_trans (cutV_length xs lo hi) hz,_,0,(r.drop (HT.sIx xs.length 0 lo)).take (HT.sIx xs.length xs.length hi - HT.sIx xs.length 0 lo),Heap.get?_push_size _ rfl⟩
def eqV:V->V->Bool
 | .non,.non=>true
 | .bl a,.bl b=>a == b
 | .bl a,.int b=>(if a then 1 else 0) == b
 | .int a,.bl b=>a == (if b then 1 else 0)
 | .int a,.int b=>a == b
 | .str a,.str b=>a == b
 | _,_=>false
def tyV (K:W.Frag) (T:String) (x:V) (H:Hp):Prop:=match x with
 | .str _=>T="str"
 | .int _=>T="int"
 | .ref p=>(T="list"/\∃ xs,SqL K H p xs)\/(T="tuple"/\∃ o,K.lookup p=some o/\o.cls=.type "tuple"/\o.dict=none) \/
   (T="dict"/\((∃ kvs,H p=some (.dK kvs))\/∃ kvs,H p=some (.dT kvs)))\/(T="set"/\∃ S n,H p=some (.set S n))
 | _=>False
theorem tyV_is {pins:List (Addr×Obj)} {σ:St} {H:Hp} {s:Shared} {T:String} {x:V} {v:Value} (I:Inv X pins σ H s) (r:RelV x v) (ty:tyV X.K T x H) :
  s.TypeIs v T/\∀ a,v=.ref a->∃ ob,s.heap.get? a=some ob/\ob.dict=none:=by
 cases x with
 | str z =>
  obtain ⟨t,rfl⟩:=r
  cases (show T="str" from ty)
  exact ⟨typeIs_str s z t,fun _ e=>nomatch e⟩
 | int i =>
  obtain ⟨t,rfl⟩:=r
  cases (show T="int" from ty)
  exact ⟨typeIs_int s i t,fun _ e=>nomatch e⟩
 | ref p =>
  cases r
  rcases ty with ⟨rfl,xs,hq⟩ | ⟨rfl,o,hk,hc,hd⟩ | ⟨rfl,hk⟩ | ⟨rfl,S,n,hk⟩
  ·obtain ⟨its,_,pl,_⟩:=I.list hq
   refine ⟨pl.isList.typeIs,fun a e=>?_⟩
   cases e
   obtain ⟨o,n,e,c,hd,_⟩:=pl
   exact ⟨o,e,hd⟩
  ·refine ⟨⟨o,I.kIn p o hk,hc⟩,fun a e=>?_⟩
   cases e
   exact ⟨o,I.kIn _ o hk,hd⟩
  ·have z:∃ o,s.heap.get? p=some o/\o.ExactDict:=by
    rcases hk with ⟨kvs,hk⟩ | ⟨kvs,hk⟩
    ·obtain ⟨_,_,_,_,o,_,_,e,ex,_⟩:=I.hok p _ hk
     exact ⟨o,e,ex⟩
    ·obtain ⟨_,_,_,_,o,_,_,e,ex,_⟩:=I.hok p _ hk
     exact ⟨o,e,ex⟩
   obtain ⟨o,e,ex⟩:=z
   refine ⟨⟨o,e,ex.1⟩,fun a e2=>?_⟩
   cases e2
   exact ⟨o,e,ex.2.1⟩
  ·obtain ⟨o,_,_,_,e,ex,_⟩:=I.hok p _ hk
   refine ⟨⟨o,e,ex.1⟩,fun a e2=>?_⟩
   cases e2
   exact ⟨o,e,ex.2.1⟩
 | _=>exact False.elim ty
def tBM (K:W.Frag) (T:String) (r:V->List V->Hp->VK->Prop) (to:TE) (t:TA):TE:=fun σ H Q=>to σ H fun x H1=>tyV K T x H1/\t σ H1 fun xs H2=>r x xs H2 Q
variable {o e:Expr} {es:List Expr} {to:TE} {t:TA} {name:Str} {apos cpos:Pos} {T id:String} {r:V->List V->Hp->VK->Prop}
theorem pe_bm (pa:PlainAttrs T) (slot:Slot T name id) (hty:typeOf (.builtin id)=pure (.type "method_descriptor")) (hm:MtR X id r) (ho:PE X o to) (ha:PA X (e::es) t)
  (hbase:attributeBase o name X.env (eval o X.env)=eval o X.env:=by rfl)
  (hfew:((backTo cpos (starEach (e::es) X.env)).all (fun x=>!x.1) && (backToKw cpos (keywordEach [] X.env)).all (fun x=>x.1.isSome)
   && decide ((e::es).length + ([]:List Keyword).length + (if ([]:List Keyword).isEmpty then 0 else 1) < 30))=true:=by rfl)
  (hline:(apos.endLine == cpos.line)=true:=by rfl) (hs:starEach (e::es) X.env=(false,eval e X.env)::starEach es X.env:=by rfl) (hplain:(backTo cpos (starEach es X.env)).any (·.1)=false:=by rfl) :
  PE X (.Call (.Attribute o name apos) (e::es) [] cpos) (tBM X.K T r to t):=by
 intro pins s σ H Q I h
 refine wpAny_Call_method_late hbase hfew hline rfl (thn (ho pins s σ H _ I h) fun v s1 ⟨x,H1,I1,r1,ty,q1⟩=>?_)
 obtain ⟨h1,h2⟩:=tyV_is I1 r1 ty
 refine ⟨T,id,pa,slot,hty,h1,h2,?_⟩
 have hA:=ha cpos pins s1 σ H1 _ I1 q1
 rw [hs] at hA ⊢
 refine Calls.callWith_builtin (by show (false || (backTo cpos (starEach es X.env)).any (·.1))=false; rw [hplain] <;> rfl) (Calls.evalArgs_plain ?_)
 exact thn hA fun us s2 ⟨vs,H2,I2,r2,q2⟩=>hm pins s2 σ H2 x vs v us Q I2 r1 r2 q2
end
def MtM (X:Cx) (id:String) (r:V->List V->Hp->VK->Prop):Prop :=
 ∀ (pins:List (Addr×Obj)) (s:Shared) (σ:St) (H:Hp) (x:V) (xs:List V) (v:Value) (us:List Value) (Q:VK),Inv X pins σ H s->RelV x v->Vals xs us->r x xs H Q ->
  wpAny (model X.prog X.w) X.A (call (.builtin id) (v::us)) (EP X pins σ Q) X.xe s
theorem Vals.one:∀ {x:V} {us:List Value},Vals [x] us->∃ u,us=[u]/\RelV x u
 | _,_,.cons r .nil=>⟨_,rfl,r⟩
theorem Vals.zero:∀ {us:List Value},Vals [] us->us=[]
 | _,.nil=>rfl
theorem Vals.reverse {xs:List V} {us:List Value} (h:Vals xs us):Vals xs.reverse us.reverse:=by
 induction h with
 | nil=>exact .nil
 | cons r t ih=>rw [List.reverse_cons,List.reverse_cons]; exact Vals.append ih (.cons r .nil)
theorem Vals.rep {xs:List V} {us:List Value} (h:Vals xs us):∀ k:Nat,Vals (List.replicate k xs).flatten (List.replicate k us).flatten
 | 0=>.nil
 | k + 1=>by
  rw [List.replicate_succ,List.replicate_succ,List.flatten_cons,List.flatten_cons]
  exact Vals.append h (Vals.rep h k)
theorem foldl_rep (its:List Value):∀ (k:Nat) (acc:List Value),
  List.foldl (fun x1 x2=>x1++x2) acc.toArray (List.replicate k its.toArray)=(acc++(List.replicate k its).flatten).toArray
 | 0,acc=>by simp
 | k + 1,acc=>by
  have e:acc.toArray++its.toArray=(acc++its).toArray:=by simp
  have e2:(acc++its)++(List.replicate k its).flatten=acc++(List.replicate (k + 1) its).flatten:=by
   rw [List.replicate_succ,List.flatten_cons,List.append_assoc]
  rw [<- e2,<- foldl_rep its k (acc++its),<- e,List.replicate_succ,List.foldl_cons]
section
variable {X:Cx} {pins:List (Addr×Obj)} {σ:St} {H:Hp} {s:Shared} {l:Addr} {xs ys:List V}
theorem Inv.lset {its its':List Value} {n:Nat} {f:Array Value->Array Value} {t':Nat} (I:Inv X pins σ H s) (hH:H l=some (.lst xs))
  (e:s.heap.get? l=some { cls:=.type "list",data:=.seq its.toArray n }) (hf:f its.toArray=its'.toArray) (hv:Vals ys its') (hz:ys.length<=sizeLine) :
  Inv X pins σ (upd H l (.lst ys)) { s with heap:=s.heap.update l (Obj.mapSeq f),toks:=t' }:=by
 have q:=PySem.IsL.update e f
 rw [hf] at q
 refine I.write (x:=l) (e:=l) (by rw [hH]; exact trivial) (.inl rfl) (fun b' u hb hu=>(Heap.get?_update_other s.heap (Obj.mapSeq f) (Ne.symm hb)).trans hu) ⟨_,q⟩ ?_
 exact ⟨hz,its',_,hv,q⟩
theorem Inv.lnew {its:List Value} {t':Nat} (I:Inv X pins σ H s) (hv:Vals ys its) (hz:ys.length<=sizeLine) :
  Inv X pins σ (upd H s.heap.objs.size (.lst ys)) { s with heap:=s.heap.push { cls:=.type "list",data:=.seq its.toArray },toks:=t' } :=
 I.laid (fun _ _ q=>Heap.get?_push_of_some _ q) (Nat.le_refl _) ⟨hz,its,0,hv,Heap.get?_push_size _ rfl⟩
theorem Inv.fresh (I:Inv X pins σ H s):H s.heap.objs.size=none:=I.hok.fresh (Nat.le_refl _)
theorem Inv.lstM (I:Inv X pins σ H s) (hH:H l=some (.lst xs)):xs.length<=sizeLine/\∃ (its:List Value) (n:Nat),Vals xs its/\xs.length=its.length/\s.heap.get? l=some { cls:=.type "list",data:=.seq its.toArray n }:=by
 obtain ⟨z,its,n,r,e⟩:=I.hok l _ hH
 exact ⟨z,its,n,r,r.length,e⟩
theorem notLongL {n:Nat} (h:n<=sizeLine):Builtin.List.listTooLong n=false:=by
 unfold Builtin.List.listTooLong
 exact decide_eq_false (by omega)
end
section
variable {X:Cx}
def rAppend:V->List V->Hp->VK->Prop:=fun x vs H Q=>∃ l xs y,x=.ref l/\vs=[y]/\H l=some (.lst xs)/\xs.length < sizeLine/\Q .non (upd H l (.lst (xs++[y])))
theorem mt_append:MtM X "list.append" rAppend:=by
 intro pins s σ H x vs v us Q I rx rv h
 obtain ⟨l,xs,y,rfl,rfl,hH,hz,q⟩:=h
 cases rx
 obtain ⟨u,rfl,ru⟩:=rv.one
 obtain ⟨z,its,n,r,hl,e⟩:=I.lstM hH
 refine call_meets F.slot_list_append ⟨_,e,rfl⟩ F.entry_list_append (F.args_list_append_2 _ _) (PySem.list_append l its.toArray n u (by rw [List.size_toArray]; omega)) ⟨e,?_⟩
 refine ⟨.non,_,I.lset (its':=its++[u]) hH e (by simp) (r.append (.cons ru .nil)) ?_,rfl,q⟩
 rw [List.length_append,List.length_singleton]
 omega
def rCat:R2:=fun x y H Q=>∃ l b xs zs,x=.ref l/\y=.ref b/\H l=some (.lst xs)/\H b=some (.lst zs)/\xs.length + zs.length<=sizeLine/\∀ p,H p=none->Q (.ref p) (upd H p (.lst (xs++zs)))
theorem op_cat:OpR X (binaryOp .Add) rCat:=by
 intro pins s σ H x y v u Q I rx ry h
 obtain ⟨l,b,xs,zs,rfl,rfl,hH,hB,hz,q⟩:=h
 cases rx
 cases ry
 obtain ⟨z,its,n,r,hl,e⟩:=I.lstM hH
 obtain ⟨z2,its2,n2,r2,hl2,e2⟩:=I.lstM hB
 refine PySem.P.add_list e e2 ?_ (by rw [List.size_toArray,List.size_toArray]; omega)
 have ea:its.toArray++its2.toArray=(its++its2).toArray:=by simp
 rw [ea]
 exact ⟨.ref _,_,I.lnew (t':=s.toks) (r.append r2) (by rw [List.length_append]; omega),rfl,q _ I.fresh⟩
def rRep:R2:=fun x y H Q=>∃ l k xs,x=.ref l/\y=.int k/\H l=some (.lst xs)/\-(2 ^ 63)<=k/\k < 2 ^ 63/\xs.length * k.toNat<=sizeLine /\
 ∀ p,H p=none->Q (.ref p) (upd H p (.lst (List.replicate k.toNat xs).flatten))
theorem len_rep {α:Type} (xs:List α) (k:Nat):(List.replicate k xs).flatten.length=k * xs.length:=by
 induction k with
 | zero=>simp
 | succ k ih=>rw [List.replicate_succ,List.flatten_cons,List.length_append,ih,Nat.succ_mul,Nat.add_comm]
theorem op_rep:OpR X (binaryOp .Mult) rRep:=by
 intro pins s σ H x y v u Q I rx ry h
 obtain ⟨l,k,xs,rfl,rfl,hH,h1,h2,hz,q⟩:=h
 cases rx
 obtain ⟨t,rfl⟩:=ry
 obtain ⟨z,its,n,r,hl,e⟩:=I.lstM hH
 have hlen:its.toArray.size * k.toNat<=sizeLine:=by rw [List.size_toArray,<- hl]; exact hz
 have hcap:¬ its.toArray.size * k.toNat > (2 ^ 63 - 1) / 8:=by
  have:(sizeLine:Nat)<=(2 ^ 63 - 1) / 8:=by decide
  omega
 have hfit:¬ (!Builtin.List.listFitsIndex k)=true:=by
  rw [fitsIndex_both h1 h2]
  exact Bool.false_ne_true
 have hlong:¬ Builtin.List.listTooLong (its.toArray.size * k.toNat)=true:=by
  rw [notLongL hlen]
  exact Bool.false_ne_true
 have hnew:List.foldl (fun x1 x2=>x1++x2) #[] (List.replicate (if its.toArray.isEmpty=true then 0 else k.toNat) its.toArray)=(List.replicate k.toNat its).flatten.toArray:=by
  have f0:∀ m:Nat,List.foldl (fun x1 x2=>x1++x2) #[] (List.replicate m its.toArray)=(List.replicate m its).flatten.toArray:=fun m=>by
   have:=foldl_rep its m []
   rw [List.nil_append] at this
   exact this
  rw [f0]
  cases its with
  | nil=>simp
  | cons a r'=>rw [if_neg (by simp)]
 refine wpAny_binaryOp_repeat_ref (T:="list") (U:="int") (by decide) ⟨_,e,rfl⟩ (fun s'=>typeIs_int s' k t) noFill_list_mul F.fills_int_mul F.slot_int_rmul repeat_list F.slot_int_index.lookup
  (call_meets F.slot_int_rmul (typeIs_int s k t) F.entry_int_rmul (F.args_int_rmul_2 _ _) (int___rmul___int_list k t l its.toArray n)
   ⟨e,rfl,⟨_,e,rfl⟩,call_meets F.slot_list_mul ⟨_,e,rfl⟩ F.entry_list_mul (F.args_list_mul_2 _ _) (AutoListH.list___mul___list_int_3 l its.toArray n k t hfit hcap hlong) ⟨e,?_⟩⟩)
 rw [hnew]
 exact ⟨.ref _,_,I.lnew (t':=s.toks) (r.rep k.toNat) (by rw [len_rep,Nat.mul_comm]; exact hz),rfl,q _ I.fresh⟩
end
section
variable {κ:Type} [DecidableEq κ]
def valV (kvs:List (κ×V)) (k:κ):Option V:=(kvs.find? fun kv=>decide (kv.1=k)).map (·.2)
def putK (kvs:List (κ×V)) (k:κ) (v:V):List (κ×V) :=
 if (kvs.any fun kv=>decide (kv.1=k))=true then kvs.map (fun kv=>if kv.1=k then (kv.1,v) else kv) else kvs++[(k,v)]
def dropK (kvs:List (κ×V)) (k:κ):List (κ×V):=kvs.filter fun kv=>decide (kv.1≠k)
theorem valV_nil {k:κ}:valV ([]:List (κ×V)) k=none:=rfl
theorem RelO.getD {o:Option V} {u:Option Value} {d:V} {d':Value} (r:RelO o u) (rd:RelV d d'):RelV (o.getD d) (u.getD d'):=by
 cases o with
 | none=>cases u with
  | none=>exact rd
  | some _=>exact (show False from r).elim
 | some _=>cases u with
  | none=>exact (show False from r).elim
  | some _=>exact r
theorem KV.any {kvs:List (κ×V)} {vs:List (κ×Value)} (r:KV kvs vs) (k:κ):(kvs.any fun kv=>decide (kv.1=k))=vs.any fun kv=>decide (kv.1=k):=by
 unfold KV at r
 induction r with
 | nil=>rfl
 | cons h t ih=>rw [List.any_cons,List.any_cons,ih,h.1]
theorem KV.drop {kvs:List (κ×V)} {vs:List (κ×Value)} (r:KV kvs vs) (k:κ):KV (dropK kvs k) (without vs k):=by
 unfold KV at r ⊢
 unfold dropK without
 induction r with
 | nil=>exact .nil
 | @cons p q ps qs h t ih =>
  obtain ⟨h1,h2⟩:=h
  rw [List.filter_cons,List.filter_cons]
  by_cases e:p.1=k
  ·have a:¬ decide (p.1≠k)=true:=by simp [e]
   have b:¬ decide (q.1≠k)=true:=by simp [h1.symm.trans e]
   rw [if_neg a,if_neg b]; exact ih
  ·have e':¬ q.1=k:=fun z=>e (h1.trans z)
   have a:decide (p.1≠k)=true:=by simp [e]
   have b:decide (q.1≠k)=true:=by simp [e']
   rw [if_pos a,if_pos b]; exact .cons ⟨h1,h2⟩ ih
theorem KV.length {kvs:List (κ×V)} {vs:List (κ×Value)} (r:KV kvs vs):kvs.length=vs.length:=Paired.length r
end
abbrev KT (H:Hp):List (List Key×V)->List (List Key×Addr×Value)->Prop:=Paired fun p q=>p.1=q.1/\H q.2.1=some (.tup (p.1.map kV))/\RelV p.2 q.2.2
def DGet (H:Hp) (a:Addr) (y:V) (r:Option V):Prop :=
 (∃ kvs k,Rd H a (.dK kvs)/\y=kV k/\r=valV kvs k)\/∃ kvs k b,Rd H a (.dT kvs)/\y=.ref b/\H b=some (.tup (k.map kV))/\r=valV kvs k
def DPut (H:Hp) (a:Addr) (y v:V) (H':Hp):Prop :=
 (∃ kvs k,H a=some (.dK kvs)/\y=kV k/\kvs.length < sizeLine/\H'=upd H a (.dK (putK kvs k v))) \/
 ∃ kvs k b,H a=some (.dT kvs)/\y=.ref b/\H b=some (.tup (k.map kV))/\kvs.length < sizeLine/\H'=upd H a (.dT (putK kvs k v))
theorem DGet.k {H:Hp} {a:Addr} {kvs:List (Key×V)} {k:Key} (e:H a=some (.dK kvs)):DGet H a (kV k) (valV kvs k):=.inl ⟨kvs,k,.inl e,rfl,rfl⟩
theorem DGet.t {H:Hp} {a b:Addr} {kvs:List (List Key×V)} {k:List Key} (e:H a=some (.dT kvs)) (eb:H b=some (.tup (k.map kV))):DGet H a (.ref b) (valV kvs k):=.inr ⟨kvs,k,b,.inl e,rfl,eb,rfl⟩
theorem DPut.k {H:Hp} {a:Addr} {kvs:List (Key×V)} {k:Key} {v:V} (e:H a=some (.dK kvs)) (hl:kvs.length < sizeLine):DPut H a (kV k) v (upd H a (.dK (putK kvs k v))):=.inl ⟨kvs,k,e,rfl,hl,rfl⟩
theorem DPut.t {H:Hp} {a b:Addr} {kvs:List (List Key×V)} {k:List Key} {v:V} (e:H a=some (.dT kvs)) (eb:H b=some (.tup (k.map kV))) (hl:kvs.length < sizeLine) :
  DPut H a (.ref b) v (upd H a (.dT (putK kvs k v))):=.inr ⟨kvs,k,b,e,rfl,eb,hl,rfl⟩
structure M1 (X:Cx) (o:Expr) (m:Str) (apos:Pos) (e:Expr) (cpos:Pos):Prop where
 base:attributeBase o m X.env (eval o X.env)=eval o X.env
 few:((backTo cpos (starEach [e] X.env)).all (fun x=>!x.1) && (backToKw cpos (keywordEach [] X.env)).all (fun x=>x.1.isSome)
  && decide (([e]:List Expr).length + ([]:List Keyword).length + (if ([]:List Keyword).isEmpty then 0 else 1) < 30))=true
 line:(apos.endLine == cpos.line)=true
 trees:backTo cpos (starEach [e] X.env)=[(false,eval e X.env)]
structure M2 (X:Cx) (o:Expr) (m:Str) (apos:Pos) (e f:Expr) (cpos:Pos):Prop where
 base:attributeBase o m X.env (eval o X.env)=eval o X.env
 few:((backTo cpos (starEach [e,f] X.env)).all (fun x=>!x.1) && (backToKw cpos (keywordEach [] X.env)).all (fun x=>x.1.isSome)
  && decide (([e,f]:List Expr).length + ([]:List Keyword).length + (if ([]:List Keyword).isEmpty then 0 else 1) < 30))=true
 line:(apos.endLine == cpos.line)=true
 trees:backTo cpos (starEach [e,f] X.env)=[(false,eval e X.env),(false,eval f X.env)]
end L2
namespace Att
open PySem PySem.W PySem.Calls PyProof.Rows
theorem ints_of_wellAll {P:Params} {h:Heap}:∀ (ns:List Int) (vs:List Value),WellAll P h vs (ns.map WData.int)->IntsAre vs ns:=by
 intro ns
 induction ns with
 | nil =>
  intro vs w
  rw [List.map_nil] at w
  cases w
  exact .nil
 | cons n ns ih =>
  intro vs w
  rw [List.map_cons] at w
  cases w with
  | cons a b =>
   cases a
   exact .cons _ _ (ih _ b)
theorem script_of {l:OpenLaw} {n:Nat} (hn:l.most=some n) {P:Params} {h:Heap} {args:List WData} {vals:List Value}
  (hpre:l.row.toRowW.claim.pre args=true) (hwl:WellAll P h vals args) :
  ∃ a vs ns,vals=[Value.ref a]/\args=[WData.list (ns.map WData.int)]/\h.get? a=some { cls:=.type "list",data:=.seq vs.toArray }/\IntsAre vs ns/\ns.length<=n:=by
 have hsh:WShape.hasAll [] args [.list .int]=true:=(pre_splitW hpre).1
 have hc:l.pre.holds [] { args:=args }=true:=(pre_splitW hpre).2
 obtain ⟨d,r,rfl,h1,h2⟩:=hasAllW_cons hsh
 obtain rfl:=hasAllW_nil h2
 obtain ⟨xs,rfl,h3⟩:=hasW_list h1
 obtain ⟨ns,rfl⟩:=items_int h3
 have hlen:ns.length<=n:=by
  unfold OpenLaw.pre at hc
  have h4:(WTm.not (.lt (.lit (.int (n:Int))) (.len (.arg 0)))).holds [] { args:=[.list (ns.map .int)] }=true:=by
   have h4:=(holds_andW hc).1
   rw [hn] at h4
   exact h4
  have h5:=condW_of h4 (w_not (w_lt w_lit (w_len_list (w_arg rfl))))
  rw [List.length_map] at h5
  refine Nat.le_of_not_lt fun q=>?_
  have q':(n:Int) < ((ns.length:Nat):Int):=by omega
  first
   | (rw [decide_eq_true q'] at h5; exact absurd h5 (by decide))
   | (simp at h5; omega)
 cases hwl with
 | cons w1 w2 =>
  cases w2
  cases w1 with
  | list ho hall=>exact ⟨_,_,ns,rfl,rfl,ho,ints_of_wellAll ns _ hall,hlen⟩
theorem post_true (l:OpenLaw) (args:List WData):l.row.toRowW.claim.post args (.bool true) args=true :=
 postW_of (r:=l.row.toRowW) (X:=(true == true))
  (show WShape.has [] (.bool true) .bool=true by first | rfl | decide | simp [WShape.has,WShape.arms,WShape.armsAll])
  (show (WTm.eq .res (.lit (.bool true))).value [] { args:=args,res:=some (.bool true),after:=args }=some (.bool (true == true)) from w_eq_bool (w_res rfl) w_lit) rfl
theorem attach_call {l:OpenLaw} {n:Nat} {q:Program} {loose:List Str} {XP:(Str->Option Value)->Heap->Prop} {YP:World->Heap->Prop} {d:DefRec}
  (hn:l.most=some n) (hdf:d.params.defaults=[])
  (call:∀ (w:World) (s₀ s₁:Shared) (mg mb:Str->Option Value) (fa:Addr) (o:Obj) (pm cd doc:Value) (a:Addr) (vs:List Value) (ns:List Int),
   Ground q loose [] XP w s₀ mg mb s₁.heap->YP w s₁.heap ->
   s₁.heap.get? fa=some o->o.data=.func (docDef d.name d.params d.body d.scope pm cd doc)->s₁.heap.CodeRec cd d.name->mg d.name=some (.ref fa) ->
   s₁.heap.get? a=some { cls:=.type "list",data:=.seq vs.toArray }->IntsAre vs ns->ns.length<=n->s₁.gens=#[] ->
   codeAny (model l.prog w) callerA (.call (.ref fa) ⟨[.ref a],[]⟩) (fun r s'=>r=.ok (.ret (.bool true))/\OldK s₁.heap s'.heap/\s'.os=s₁.os/\AllBare s'.gens) s₁) :
  WalkO q loose XP YP l.row.toRowW d [] (fun f vs=>PySem.call f vs):=by
 intro w s₀ s₁ mg mb G Y fa o pm cd doc dV kV ho hd hcd hD hmg hg args vals as hpre hlay hrd hwl hlo
 obtain rfl:dV=.none:=Dflts.none hD hdf
 obtain rfl:kV=.none:=Dflts.noKw hD
 obtain ⟨a,vs,ns,rfl,rfl,hobj,hints,hlen⟩:=script_of hn hpre hwl
 refine enter_call (codeAny_mono (call w s₀ s₁ mg mb fa o pm cd doc a vs ns G Y ho (fd_plain hd) hcd hmg hobj hints hlen hg) fun r s' hq=>?_)
 obtain ⟨rfl,h2,h3,h4⟩:=hq
 exact ⟨.inl ⟨.bool true,.bool true,[],rfl,fun _=>rfl,.bool true,post_true l _,fun _=>⟨List.Pairwise.nil,fun _ hm=>(nomatch hm)⟩⟩,h2,h3,h4⟩
end Att
namespace L2
open PySem PySem.Spec PyProof.Rows
theorem vals_ints:∀ {vs:List Value} {ns:List Int},IntsAre vs ns->Vals (ns.map V.int) vs
 | _,_,.nil=>.nil
 | _,_,.cons n t h=>.cons ⟨t,rfl⟩ (vals_ints h)
def Only (H:Hp):Prop:=∀ b,H b=none\/∃ o xs,H b=some (.frz o (.lst xs))
theorem law_call {P:Program} {w:World} {K:W.Frag} {mg mb:Str->Option Value} {CX:CXT} {k:Nat} {fa a:Addr} {fd:FuncData} {x:Str} {sp:Sp} {s₁:Shared} {vs:List Value} {ns:List Int}
  (KX:K.In s₁.heap) (hns:s₁.heap.Ns mainGlobals mg) (hb:s₁.heap.Ns builtinsNs mb) (hbb:∀ x:Str,x≠"__name__"->mb x=bootBuiltins x) (hlim:s₁.heap.NoLimit) (hg:s₁.gens=#[])
  (ha:s₁.heap.get? a=some { cls:=.type "list",data:=.seq vs.toArray }) (hi:IntsAre vs ns) (hl:ns.length<=sizeLine) (hr:Room k callerA)
  (F:∀ base:Heap,K.In base->base.Ns mainGlobals mg->FnOk P w K mg base CX k fa fd [x] sp) (hbind:∀ (s:Shared) (u:Value),BindsTo s fd ⟨[u],[]⟩ [(x,u)])
  (hsp:∀ H:Hp,Only H->SqL K H a (ns.map V.int)->sp [.ref a] H (fun v _=>v=.bl true) fun _ _ _=>False)
  (hCX:∀ H e s',CX [] H s₁ (fun _ _ _=>False) e s'->False) :
  codeAny (model P w) callerA (.call (.ref fa) ⟨[.ref a],[]⟩) (fun r s'=>r=.ok (.ret (.bool true))/\OldK s₁.heap s'.heap/\s'.os=s₁.os/\AllBare s'.gens) s₁:=by
 have rv:=vals_ints hi
 have lenV:=hi.length
 have core:∀ H:Hp,Only H->SqL K H a (ns.map V.int)->HOk P w H s₁.heap->(∀ b,H b≠none->b=a)->(H a≠none->K.lookup a=none) ->
   codeAny (model P w) callerA (.call (.ref fa) ⟨[.ref a],[]⟩) (fun r s'=>r=.ok (.ret (.bool true))/\OldK s₁.heap s'.heap/\s'.os=s₁.os/\AllBare s'.gens) s₁:=by
  intro H hO hS hok hA hK
  have base_of:∀ {b:Addr} {o:Obj},s₁.heap.get? b=some o->H b=none->(hidT s₁.heap H).get? b=some o:=fun e n=>hidT_get e n
  have noA:∀ {b:Addr} {o:Obj} {es:Array DictEntry} {ep:Nat},s₁.heap.get? b=some o->o.data=.dict es ep->H b=none:=fun {b o es ep} e d=>by
   cases q:H b with
   | none=>rfl
   | some u =>
    have e':b=a:=hA b (by rw [q]; simp)
    subst e'
    rw [ha] at e; cases e
    have d':Data.seq vs.toArray _=Data.dict es ep:=d
    cases d'
  have nsK:∀ {b:Addr} {m:Str->Option Value},s₁.heap.Ns b m->(hidT s₁.heap H).Ns b m:=fun {b m} ⟨o,es,ep,e,d,r⟩=>⟨o,es,ep,base_of e (noA e d),d,r⟩
  have hKb:K.In (hidT s₁.heap H):=fun b o e=>base_of (KX b o e) (by
   cases q:H b with
   | none=>rfl
   | some u =>
    have e':b=a:=hA b (by rw [q]; simp)
    subst e'
    rw [hK (by rw [q]; simp)] at e; cases e)
  have hM:Mod K mg (hidT s₁.heap H):=⟨hKb,nsK hns,⟨mb,nsK hb,hbb⟩,let ⟨mc,h1,h2⟩:=hlim; ⟨mc,nsK h1,h2⟩⟩
  have e0:Env0 P w K mg (hidT s₁.heap H) callerA [] s₁ H:=⟨rfl,hM,fun b o e=>of_hidT e,Nat.le_of_eq (hidT_size _ _),trivial,fun b hb=>absurd (show b∈([]:List Addr) from hb) (by simp),hok,.of_eq hg⟩
  refine codeAny_mono ((F _ hKb (nsK hns)).run callerA [] s₁ H ⟨[.ref a],[]⟩ [.ref a] [.ref a] _ _ hr e0 (hbind s₁ (.ref a)) (.cons rfl .nil) (hsp H hO hS)) fun r s' h=>?_
  cases r with
  | error e=>exact (hCX H e s' h).elim
  | ok fl =>
   cases fl with
   | next=>exact False.elim h
   | brk=>exact False.elim h
   | cont=>exact False.elim h
   | ret u =>
    obtain ⟨v,H',os,bare,un,hok',r',q⟩:=h
    have q':v=.bl true:=q
    subst q'
    obtain rfl:u=Value.bool true:=r'
    refine ⟨rfl,OldK.of_keep fun b o e=>?_,os,bare⟩
    cases q:H b with
    | none=>exact un.keep b o e q (by intro z; exact absurd (show b∈([]:List Addr) from z) (by simp)) (by simp)
    | some u =>
     rcases hO b with z | ⟨ob,xs,z⟩
     ·rw [q] at z; cases z
     ·have z2:=un.frzs b ob _ z
      obtain ⟨e1,_⟩:=hok b _ z
      obtain ⟨e2,_⟩:=hok' b _ z2
      rw [e] at e1; cases e1
      exact e2
 cases hk:K.lookup a with
 | some o =>
  have e:=KX a o hk
  rw [ha] at e
  cases e
  refine core (fun _=>none) (fun _=>.inl rfl) (.inr ⟨_,vs.toArray,_,hk,rfl,rfl,rfl,by rw [List.size_toArray,lenV]; exact hl,by simpa using rv⟩) (fun b u z=>by have z':(none:Option HO)=some u:=z; cases z') (fun b z=>absurd rfl z) fun z=>absurd rfl z
 | none =>
  refine core (fun b=>if b=a then some (.frz { cls:=.type "list",data:=.seq vs.toArray } (.lst (ns.map V.int))) else none) (fun b=>?_) (.inl (.inr ⟨{ cls:=.type "list",data:=.seq vs.toArray },if_pos rfl⟩)) (fun b u z=>?_) (fun b z=>?_) fun _=>hk
  ·by_cases hb:b=a
   ·exact .inr ⟨_,_,if_pos hb⟩
   ·exact .inl (if_neg hb)
  ·by_cases hb:b=a
   ·have z':=(if_pos hb).symm.trans z
    cases z'
    subst hb
    exact ⟨ha,by rw [List.length_map]; exact hl,vs,_,rv,ha⟩
   ·have z':=(if_neg hb).symm.trans z
    cases z'
  ·by_cases hb:b=a
   ·exact hb
   ·exact absurd (if_neg hb) z
theorem walk_of {l:W.OpenLaw} {n k:Nat} {q:Program} {loose:List Str} {XP:(Str->Option Value)->Heap->Prop} {YP:World->Heap->Prop} {d:DefRec} {K:Params->W.Frag} {CX:World->CXT} {sp:World->Sp} {x:Str}
  (hn:l.most=some n) (hn2:n<=sizeLine) (hdf:d.params.defaults=[]) (hr:Room k callerA)
  (hY:∀ (w:World) (h:Heap),YP w h->(K w.params).In h)
  (F:∀ (w:World) (mg:Str->Option Value) (fa:Addr) (h:Heap),(K w.params).In h->h.Ns mainGlobals mg->mg d.name=some (.ref fa) ->
   ∃ fd:FuncData,(∀ (s:Shared) (u:Value),BindsTo s fd ⟨[u],[]⟩ [(x,u)]) /\
    ∀ base:Heap,(K w.params).In base->base.Ns mainGlobals mg->FnOk l.prog w (K w.params) mg base (CX w) k fa fd [x] (sp w))
  (hsp:∀ (w:World) (H:Hp) (a:Addr) (ns:List Int),ns.length<=n->Only H->SqL (K w.params) H a (ns.map V.int)->sp w [.ref a] H (fun v _=>v=.bl true) fun _ _ _=>False)
  (hCX:∀ (w:World) (H:Hp) (s:Shared) (e:Value) (s':Shared),CX w [] H s (fun _ _ _=>False) e s'->False) :
  W.WalkO q loose XP YP l.row.toRowW d [] (fun f vs=>PySem.call f vs):=by
 refine Att.attach_call hn hdf fun w s₀ s₁ mg mb fa o pm cd doc a vs ns G Y ho hd hcd hmg hobj hints hlen hg=>?_
 have KX:=hY w _ Y
 obtain ⟨fd,hb,hF⟩:=F w mg fa _ KX G.T.g hmg
 exact law_call KX G.T.g G.T.b G.T.builtins G.T.nolimit hg hobj hints (Nat.le_trans hlen hn2) hr hF hb (fun H hO hS=>hsp w H a ns hlen hO hS) fun H e s'=>hCX w H s₁ e s'
def inClass (s:Stmt) (j:Nat):Stmt:=match s with
 | .ClassDef _ _ _ body _ _ _ _ _ _ _=>body.getD j (.Pass ⟨0,0,0,0⟩)
 | _=>.Pass ⟨0,0,0,0⟩
def defArgs (s:Stmt):Arguments:=match s with
 | .FunctionDef _ a _ _ _ _ _ _ _ _=>a
 | _=>{ posonlyargs:=[],args:=[],vararg:=none,kwonlyargs:=[],kw_defaults:=[],kwarg:=none,defaults:=[] }
def defBody (s:Stmt):List Stmt:=match s with
 | .FunctionDef _ _ b _ _ _ _ _ _ _=>b
 | _=>[]
def defScope (s:Stmt):Scope:=match s with
 | .FunctionDef _ _ _ _ _ _ sc _ _ _=>sc
 | _=>{ kind:=.function,names:=[],isGenerator:=false,isCoroutine:=false }
abbrev CX0:CXT:=fun _ _ _ _ _ _=>False
abbrev E0:XK:=fun _ _ _=>False
theorem pass0 {X:Cx}:Passes CX0 X E0:=fun _ _ _ _ _ _ _ h=>h.elim
structure Fun (K:W.Frag) (x qual:Str) (st:Stmt) (f:Addr) (fd:FuncData):Prop where
 ex:∃ (oc:Value) (od:Option Addr) (kV doc pm:Value) (an:Option Addr) (cdv ct:Value) (osl:Array (Option Value)),
  fd=W.fnOf x qual (defArgs st) (defBody st) (defScope st) .none kV doc pm an cdv ct/\K.lookup f=some ⟨oc,od,.func fd,osl⟩/\W.codeIn K cdv qual=true
 kp:W.keepIn K (.ref f)=true
section
variable {P:Program} {w:World} {K:W.Frag} {mg:Str->Option Value} {base:Heap}
theorem Fun.ok {x qual:Str} {st:Stmt} {f:Addr} {fd:FuncData} {N ps:List Str} {k:Nat} {sp:Sp} (F:Fun K x qual st f fd) (S:FnScope N ps (defScope st)) (len:∀ vs H Q E,sp vs H Q E->vs.length=ps.length)
  (hbody:∀ (cdv:Value) (A:Around) (outer:List Env) (s:Shared) (H:Hp) (vs:List V) (Q:VK) (E:XK),Room k (A.deeper (envOfC qual (defScope st) s.heap.objs.size f cdv))->sp vs H Q E ->
   ∃ t,PSs (cxOf CX0 P w K mg base N qual (defScope st) f cdv A outer s H E).nox (defBody st) t/\t { nx:=fun _ H'=>Q .non H',rt:=Q } (start N vs) H):FnOk P w K mg base CX0 (k + 1) f fd ps sp:=by
 obtain ⟨oc,od,kV,doc,pm,an,cdv,ct,osl,rfl,lk,hcd⟩:=F.ex
 refine fn_of lk hcd S len fun A outer s H vs Q E hr hsp=>?_
 obtain ⟨t,h,q⟩:=hbody cdv A outer s H vs Q E hr hsp
 exact ⟨t,h.nox,q⟩
theorem Fun.binds {x qual:Str} {st:Stmt} {f:Addr} {fd:FuncData} {ps:List Str} (F:Fun K x qual st f fd)
  (h:∀ (kV doc pm:Value) (an:Option Addr) (cdv ct:Value) (us:List Value),us.length=ps.length->bindArgs (W.fnOf x qual (defArgs st) (defBody st) (defScope st) .none kV doc pm an cdv ct) ⟨us,[]⟩=pure (ps.zip us)):Binds K fd ps []:=by
 obtain ⟨oc,od,kV,doc,pm,an,cdv,ct,osl,rfl,lk,hcd⟩:=F.ex
 exact .all (h kV doc pm an cdv ct)
theorem fun_mk {x qual:Str} {st:Stmt} {f:Addr} {oc:Value} {od an:Option Addr} {osl:Array (Option Value)} {kV doc pm cdv ct:Value} (l:K.lookup f=some ⟨oc,od,.func (W.fnOf x qual (defArgs st) (defBody st) (defScope st) .none kV doc pm an cdv ct),osl⟩)
  (c:W.codeIn K cdv qual=true) (k:W.keepIn K (.ref f)=true):Fun K x qual st f (W.fnOf x qual (defArgs st) (defBody st) (defScope st) .none kV doc pm an cdv ct):=⟨⟨oc,od,kV,doc,pm,an,cdv,ct,osl,rfl,l,c⟩,k⟩
end
theorem hu_of {A:Around} {k:Nat} (hr:Room k A):A.units + 1 < cLine:=Nat.lt_of_le_of_lt (Nat.add_le_add_left (by decide:1<=64) _) hr.units
section
variable {X:Cx}
theorem pv (i:Nat) {x:Str} {pos:Pos} (hN:X.N[i]?=some x:=by rfl) (hv:Vis X.env.scope x:=by first | exact Or.inl rfl | exact Or.inr (Or.inl rfl) | exact Or.inr (Or.inr rfl)) (hd:(x == ("__debug__":Str))=false:=by decide)
  (hcd:(x == ("__classdict__":Str))=false:=by decide):PE X (.Name x pos) (tVar i):=pe_var hN hv hd hcd
end
theorem iteF {A B:Prop} (h:B):if false=true then A else B:=by
 rw [if_neg Bool.false_ne_true]
 exact h
theorem iteT {A B:Prop} (h:A):if true=true then A else B:=by
 rw [if_pos rfl]
 exact h
theorem ite2 {c A B:Prop} [Decidable c] (h1:c->A) (h2:¬ c->B):if c then A else B:=by
 by_cases h:c
 ·rw [if_pos h]
  exact h1 h
 ·rw [if_neg h]
  exact h2 h
def Same (H H':Hp):Prop:=∀ b o,H b=some o->H' b=some o
theorem Same.refl (H:Hp):Same H H:=fun _ _ h=>h
theorem Same.trans {H H1 H2:Hp} (a:Same H H1) (b:Same H1 H2):Same H H2:=fun c o h=>b c o (a c o h)
theorem Same.free {H H':Hp} (e:Same H H') {l:Addr} (h:H' l=Option.none):H l=Option.none:=by
 cases q:H l with
 | none=>rfl
 | some o =>
  rw [e l o q] at h
  cases h
theorem Same.seq {K:W.Frag} {H H':Hp} {a:Addr} {xs:List V} (e:Same H H') (h:SqL K H a xs):SqL K H' a xs:=by
 rcases h with (h | ⟨o,h⟩) | h
 ·exact .inl (.inl (e _ _ h))
 ·exact .inl (.inr ⟨o,e _ _ h⟩)
 ·exact .inr h
end L2
namespace L2
open PySem
def cloAcc (cells:List (Str×Addr)):List (Str×NameKind)->List (Str×Addr)->List (Str×Addr)
 | [],acc=>acc
 | (n,k)::r,acc=>if k == .free then cloAcc cells r ((n,(cells.lookup n).getD 0)::acc) else cloAcc cells r acc
def cloLoop (env:Env) (l:List (Str×NameKind)) (acc:List (Str×Addr)):Sem (List (Str×Addr)):=do
 let mut cs:=acc
 for (name,kind) in l do
  if kind == .free then cs:=(name,<- cellOf env name)::cs
 return cs
theorem cloLoop_is {env:Env}:∀ (l:List (Str×NameKind)) (acc:List (Str×Addr)),(∀ y∈l,y.2=.free->∃ c,env.cells.lookup y.1=some c) ->
  cloLoop env l acc=pure (cloAcc env.cells l acc)
 | [],acc,_=>rfl
 | (n,k)::r,acc,h=>by
  have ih:=fun acc=>cloLoop_is r acc fun y hy=>h y (List.mem_cons_of_mem _ hy)
  unfold cloLoop at ih ⊢
  rw [cloAcc]
  cases hk:(k == NameKind.free) with
  | false =>
   simp only [List.forIn_cons,hk,Bool.false_eq_true,if_false,pure_bind] at ih ⊢
   exact ih acc
  | true =>
   obtain ⟨c,hc⟩:=h (n,k) List.mem_cons_self (by simpa using hk)
   have hc':env.cells.lookup n=some c:=hc
   simp only [List.forIn_cons,hk,if_true,cellOf,hc',pure_bind,Option.getD_some] at ih ⊢
   exact ih _
theorem closure_is {scope:Scope} {env:Env} (h:∀ y∈scope.names,y.2=.free->∃ c,env.cells.lookup y.1=some c):closureFor scope env=pure (cloAcc env.cells scope.names []) :=
 cloLoop_is scope.names [] h
theorem cloAcc_from {cells:List (Str×Addr)} {x:Str} {c:Addr}:∀ {l:List (Str×NameKind)} {acc:List (Str×Addr)},(∀ y∈l,y.2=.free->∃ c,cells.lookup y.1=some c) ->
  (cloAcc cells l acc).lookup x=some c->acc.lookup x=some c\/cells.lookup x=some c
 | [],acc,_,h=>.inl h
 | (n,k)::r,acc,hl,h=>by
  rw [cloAcc] at h
  by_cases hk:(k == NameKind.free)=true
  ·rw [if_pos hk] at h
   obtain ⟨c',hc⟩:=hl (n,k) List.mem_cons_self (by simpa using hk)
   have hc':cells.lookup n=some c':=hc
   rcases cloAcc_from (fun y hy=>hl y (List.mem_cons_of_mem _ hy)) h with z | z
   ·rw [List.lookup_cons,hc'] at z
    cases hx:(x == n) with
    | true =>
     rw [hx] at z
     have e:x=n:=by simpa using hx
     subst e
     have z':c'=c:=by simpa using z
     subst z'
     exact .inr hc'
    | false=>rw [hx] at z; exact .inl z
   ·exact .inr z
  ·rw [if_neg hk] at h
   exact cloAcc_from (fun y hy=>hl y (List.mem_cons_of_mem _ hy)) h
theorem cloAcc_keeps {cells:List (Str×Addr)} {x:Str}:∀ {l:List (Str×NameKind)} {acc:List (Str×Addr)},(∃ c,acc.lookup x=some c)->∃ c,(cloAcc cells l acc).lookup x=some c
 | [],acc,h=>h
 | (n,k)::r,acc,h=>by
  rw [cloAcc]
  by_cases hk:(k == NameKind.free)=true
  ·rw [if_pos hk]
   refine cloAcc_keeps ?_
   rw [List.lookup_cons]
   cases hx:(x == n) with
   | true=>exact ⟨_,rfl⟩
   | false=>exact h
  ·rw [if_neg hk]
   exact cloAcc_keeps h
theorem cloAcc_has {cells:List (Str×Addr)} {x:Str}:∀ {l:List (Str×NameKind)} {acc:List (Str×Addr)},(x,NameKind.free)∈l->∃ c,(cloAcc cells l acc).lookup x=some c
 | [],acc,h=>nomatch h
 | (n,k)::r,acc,h=>by
  rw [cloAcc]
  rcases List.mem_cons.mp h with e | h
  ·cases e
   rw [if_pos (by rfl)]
   refine cloAcc_keeps ?_
   rw [List.lookup_cons,beq_self_eq_true]
   exact ⟨_,rfl⟩
  ·by_cases hk:(k == NameKind.free)=true
   ·rw [if_pos hk]; exact cloAcc_has h
   ·rw [if_neg hk]; exact cloAcc_has h
theorem relabel_seen {scope:Scope} {env:Env} (nc:∀ y∈scope.names,y.2≠.cell) {x:Str} (h:(relabel scope env).names.lookup x=some .cell\/(relabel scope env).names.lookup x=some .free):(x,NameKind.free)∈scope.names:=by
  have go:∀ (l:List (Str×NameKind)),(∀ y∈l,y.2≠.cell) ->
      ((l.map fun (n,k)=>if (k == NameKind.free && env.scope.kind == .function && env.kindOf n == some .cell) then (n,NameKind.cell) else (n,k)).lookup x=some .cell \/
       (l.map fun (n,k)=>if (k == NameKind.free && env.scope.kind == .function && env.kindOf n == some .cell) then (n,NameKind.cell) else (n,k)).lookup x=some .free)->(x,NameKind.free)∈l:=by
    intro l
    induction l with
    | nil=>intro _ h; rcases h with h | h <;> cases h
    | cons a r ih =>
      obtain ⟨n,k⟩:=a
      intro nc h
      have nck:k≠.cell:=nc (n,k) List.mem_cons_self
      simp only [List.map_cons] at h
      by_cases hx:(x == n)=true
      · have e:x=n:=by simpa using hx
        subst e
        by_cases hk:k=.free
        · subst hk; exact List.mem_cons_self
        · have hb:(k == NameKind.free)=false:=by simpa using hk
          simp only [hb,Bool.false_and,Bool.false_eq_true,if_false,List.lookup_cons,beq_self_eq_true] at h
          rcases h with h | h
          · exact absurd (Option.some.inj h) nck
          · exact absurd (Option.some.inj h) hk
      · have hx':(x == n)=false:=by simpa using hx
        refine List.mem_cons_of_mem _ (ih (fun y hy=>nc y (List.mem_cons_of_mem _ hy)) ?_)
        have el:∀ (p:Str×NameKind) (t:List (Str×NameKind)),p.1=n->(p::t).lookup x=t.lookup x:=by
          intro p t e
          obtain ⟨a,b⟩:=p
          have e':a=n:=e
          subst e'
          rw [List.lookup_cons,hx']
        rw [el _ _ (by split <;> rfl)] at h
        exact h
  exact go scope.names nc h
theorem relabel_local {scope:Scope} {env:Env} {x:Str} (h:(relabel scope env).names.lookup x=some .local):scope.names.lookup x=some .local:=by
 have go:∀ (l:List (Str×NameKind)),
   (l.map fun (n,k)=>if (k == NameKind.free && env.scope.kind == .function && env.kindOf n == some .cell) then (n,NameKind.cell) else (n,k)).lookup x=some .local->l.lookup x=some .local:=by
  intro l
  induction l with
  | nil=>intro h; cases h
  | cons a r ih =>
   obtain ⟨n,k⟩:=a
   intro h
   simp only [List.map_cons] at h
   by_cases hx:(x == n)=true
   ·have e:x=n:=by simpa using hx
    subst e
    by_cases hc:(k == NameKind.free && env.scope.kind == .function && env.kindOf x == some .cell)=true
    ·rw [if_pos hc,List.lookup_cons,beq_self_eq_true] at h
     cases h
    ·rw [if_neg hc,List.lookup_cons,beq_self_eq_true] at h
     rw [List.lookup_cons,beq_self_eq_true]
     exact h
   ·have hx':(x == n)=false:=by simpa using hx
    have el:∀ (p:Str×NameKind) (t:List (Str×NameKind)),p.1=n->(p::t).lookup x=t.lookup x:=by
     intro p t e
     obtain ⟨a,b⟩:=p
     have e':a=n:=e
     subst e'
     rw [List.lookup_cons,hx']
    rw [el _ _ (by split <;> rfl)] at h
    rw [el _ _ rfl]
    exact ih h
 exact go scope.names h
end L2
namespace L2
open PySem PySem.Spec PyProof.Rows
def nbOf (N T:List Str) (cs:List Nat):List Str:=T++cs.map fun i=>N.getD i Str.empty
def sgOf (σ:St) (T:List Str) (cs:List Nat):St:=T.map (fun _=>none)++cs.map fun i=>σ.getD i none
structure CScope (outer scope:Scope) (N T:List Str) (cs:List Nat):Prop where
 kind:scope.kind=.function
 nocell:∀ y∈scope.names,y.2≠.cell
 names:∀ y∈scope.names,y.2=.local->scope.names.lookup y.1=some .local
 free:∀ y∈scope.names,y.2=.free->outer.names.lookup y.1=some .cell\/outer.names.lookup y.1=some .free
 cap:∀ i∈cs,scope.names.lookup (N.getD i Str.empty)≠some .local
def cscopeB (outer scope:Scope) (N:List Str) (cs:List Nat):Bool :=
 decide (scope.kind=.function) && (scope.names.all (fun y=>!decide (y.2=NameKind.cell)) && (scope.names.all (fun y=>!decide (y.2=NameKind.local) || decide (scope.names.lookup y.1=some NameKind.local)) &&
  (scope.names.all (fun y=>!decide (y.2=NameKind.free) || (decide (outer.names.lookup y.1=some NameKind.cell) || decide (outer.names.lookup y.1=some NameKind.free))) && cs.all (fun i=>!decide (scope.names.lookup (N.getD i Str.empty)=some NameKind.local)))))
theorem CScope.ok {outer scope:Scope} {N T:List Str} {cs:List Nat} (h:cscopeB outer scope N cs=true):CScope outer scope N T cs:=by
 unfold cscopeB at h
 simp only [Bool.and_eq_true,List.all_eq_true,Bool.or_eq_true,decide_eq_true_eq,Bool.not_eq_true',decide_eq_false_iff_not] at h
 obtain ⟨h1,h2,h3,h4,h5⟩:=h
 exact ⟨h1,h2,fun y hy e=>(h3 y hy).resolve_left (fun q=>q e),fun y hy e=>(h4 y hy).resolve_left (fun q=>q e),h5⟩
theorem nd_of {l:List Str} (h:decide l.Nodup=true):l.Nodup:=of_decide_eq_true h
def blk (X:Cx) (T:List Str) (cs:List Nat) (scope:Scope) (C:Addr) (s₀:Shared) (H₀:Hp) (ex:List Addr):Cx where
 prog:=X.prog
 w:=X.w
 K:=X.K
 mg:=X.mg
 base:=X.base
 A:=X.A
 N:=nbOf X.N T cs
 s₀:=s₀
 H₀:=H₀
 env:=compEnvC scope (cloAcc X.env.cells scope.names []) C X.env
 outer:=X.stack
 stack:=X.stack
 ex:=ex
 fn:=fun _=>false
 calm:=X.calm
 pn:=[]
 xe:=fun _ _=>False
section
variable {X:Cx} {pins:List (Addr×Obj)} {σ:St} {H:Hp} {s:Shared} {scope:Scope} {T:List Str} {cs:List Nat} {fp:List Addr}
theorem Inv.hl (I:Inv X pins σ H s) (S:CScope X.env.scope scope X.N T cs):∀ y∈scope.names,y.2=.free->∃ c,X.env.cells.lookup y.1=some c :=
 fun y hy e=>I.ok.has y.1 (S.free y hy e)
theorem Inv.clo (I:Inv X pins σ H s) (S:CScope X.env.scope scope X.N T cs) {x:Str} {c:Addr} (h:(cloAcc X.env.cells scope.names []).lookup x=some c):X.env.cells.lookup x=some c :=
 (cloAcc_from (I.hl S) h).resolve_left (by simp)
theorem inv_blk (I:Inv X pins σ H s) (S:CScope X.env.scope scope X.N T cs) (hf:∀ b∈fp,FpOk X pins H b) (hfe:∀ b∈fp,∃ o,s.heap.get? b=some o) {C:Addr} {h1:Heap} {m:Str->Option Value} {tk:Nat}
  (hC:s.heap.objs.size<=C) (ns:h1.Ns C m) (k:∀ b o,s.heap.get? b=some o->h1.get? b=some o) :
  Inv (blk X T cs scope C s H fp) [] (sgOf σ T cs) H { s with heap:=h1,toks:=tk }:=by
 have fr:H C=none:=I.hok.fresh hC
 have cellS:∀ {c:Addr} {v:Option Value},s.heap.IsCell c v->h1.IsCell c v:=fun ⟨o,e,d⟩=>⟨o,k _ o e,d⟩
 refine ⟨⟨I.ok.mod,S.kind,I.ok.glob,I.ok.blt,hC,fun x y c e1 e2=>I.ok.inj x y c (I.clo S e1) (I.clo S e2),fun x hx=>cloAcc_has (relabel_seen S.nocell hx),fun x c h _=>absurd (show false=true from h) Bool.false_ne_true,
  I.ok.hd,I.ok.frames,.inl rfl,fun b hb=>⟨?_,fun x c e=>(hf b hb).2.2.2.2.1 x c (I.clo S e)⟩,I.bs,Nat.le_trans I.ok.bsz I.sz,fun b o e hb=>?_,fun b hb z=>?_,I.stack,I.stkFree⟩,
  rfl,I.bare,Un.kept k,⟨m,ns,fun i x v h1' h2' h3'=>?_⟩,fun x c e=>?_,fr,fun x c e=>I.freeC x c (I.clo S e),fun p hp=>absurd (show p∈([]:List (Addr×Obj)) from hp) (by simp),I.hok.kept k,?_⟩
 ·obtain ⟨o,e⟩:=hfe b hb
  exact Nat.ne_of_lt (Nat.lt_of_lt_of_le (Heap.lt_size e) hC)
 ·rcases (hf b hb).2.2.2.1 with z | z
  ·exact I.ok.noex b o e z
  ·exact absurd (Nat.lt_of_lt_of_le (Nat.lt_of_lt_of_le (Heap.lt_size e) I.ok.bsz) z) (Nat.lt_irrefl _)
 ·rcases List.mem_cons.mp (I.stkSub b z) with e | e
  ·exact (hf b hb).2.1 e
  ·exact (hf b hb).2.2.1 e
 ·have h2:(sgOf σ T cs)[i]?=some (some v):=h2'
  have h1'':(nbOf X.N T cs)[i]?=some x:=h1'
  unfold sgOf at h2
  unfold nbOf at h1''
  by_cases hi:i < T.length
  ·rw [List.getElem?_append_left (by simpa using hi),List.getElem?_map] at h2
   cases e:T[i]? with
   | none=>rw [e] at h2; cases h2
   | some a=>rw [e] at h2; cases h2
  ·rw [List.getElem?_append_right (by simpa using hi),List.getElem?_map,List.length_map] at h2
   rw [List.getElem?_append_right (by omega),List.getElem?_map] at h1''
   cases e:cs[i - T.length]? with
   | none=>rw [e] at h2; cases h2
   | some c0 =>
    rw [e] at h2 h1''
    have ex:X.N.getD c0 Str.empty=x:=Option.some.inj h1''
    have ev:σ.getD c0 none=some v:=Option.some.inj h2
    have eσ:σ[c0]?=some (some v):=by
     rw [List.getD_eq_getElem?_getD] at ev
     cases q:σ[c0]? with
     | none=>rw [q] at ev; cases ev
     | some z=>rw [q] at ev; exact congrArg some ev
    have hlt:c0 < X.N.length:=by
     have:=(List.getElem?_eq_some_iff.mp eσ).1
     rw [I.len] at this
     exact this
    have eN:X.N[c0]?=some x:=by
     rw [List.getD_eq_getElem?_getD,List.getElem?_eq_getElem hlt] at ex
     rw [List.getElem?_eq_getElem hlt]
     exact congrArg some ex
    have hfree:(x,NameKind.free)∈scope.names:=by
     rcases h3' with z | z | z
     ·exact absurd (relabel_local z) (by rw [<- ex]; exact S.cap c0 (List.mem_of_getElem? e))
     ·exact relabel_seen S.nocell (.inl z)
     ·exact relabel_seen S.nocell (.inr z)
    have ok:=S.free _ hfree rfl
    obtain ⟨m',hn',hl'⟩:=I.loc
    obtain ⟨u,r,l⟩:=hl' c0 x v eN eσ (.inr ok)
    refine ⟨u,r,?_⟩
    rcases l with ⟨kd,_⟩ | ⟨_,c,ec,z⟩
    ·have kd':X.env.scope.names.lookup x=some .local:=kd
     rcases ok with q | q <;> (rw [show X.env.scope.names.lookup x=_ from q] at kd'; cases kd')
    ·obtain ⟨c',ec'⟩:=cloAcc_has (cells:=X.env.cells) (acc:=[]) hfree
     have:c'=c:=by
      have q:=I.clo S ec'
      rw [ec] at q
      exact (Option.some.inj q).symm
     subst this
     refine .inr ⟨?_,c',ec',cellS z⟩
     rcases h3' with q | q | q
     ·exact absurd (relabel_local q) (by rw [<- ex]; exact S.cap c0 (List.mem_of_getElem? e))
     ·exact .inl q
     ·exact .inr q
 ·obtain ⟨v,z⟩:=I.cell x c (I.clo S e)
  exact ⟨v,cellS z⟩
 ·show (sgOf σ T cs).length=(nbOf X.N T cs).length
  simp [sgOf,nbOf]
theorem Inv.track {D:Addr} {its:List Value} {n:Nat} {ys:List V} (I:Inv X pins σ H s) (hD:s.heap.get? D=some { cls:=.type "list",data:=.seq its.toArray n }) (f:FpOk X pins H D) (rv:Vals ys its) (hz:ys.length<=sizeLine) :
  Inv X pins σ (upd H D (.lst ys)) s:=by
 obtain ⟨f0,f1,f2,f3,f4,f5⟩:=f
 have hok:HOk X.prog X.w (upd H D (.lst ys)) s.heap:=fun b u e=>by
  by_cases hb:b=D
  ·subst hb
   rw [upd_same] at e
   cases e
   exact ⟨hz,its,n,rv,hD⟩
  ·rw [upd_ne hb] at e
   exact (I.hok b u e).stay (fun _ _ _ q=>q) (fun c q=>by rw [upd_ne (ne_of_none q f0)]; exact q) fun c xs q=>by rw [upd_ne (ne_of_none q f0)]; exact q
 have st:=I.step (H':=upd H D (.lst ys)) (h':=s.heap) (g':=s.gens) (t':=s.toks) (d':=s.drawn) (ch:=[D])
  (fun b hb=>by
   have e:b=D:=by simpa using hb
   subst e
   exact ⟨f3,f1,f4,f5⟩)
  (fun b o _ _ _ e _=>e) (fun b o _ _ _ e _=>⟨o.slots,e⟩) (fun b o hc e n=>by rw [upd_ne (fun z=>hc (by simp [z]))]; exact n) (fun b o _ e=>⟨o,e⟩)
  (fun b xs e=>by rw [upd_ne (ne_of_none e f0)]; exact e) (fun b o u e=>by rw [upd_ne (ne_of_none e f0)]; exact e) (fun b ps e=>⟨#[],by rw [upd_ne (ne_of_none e f0),e]; simp⟩) (fun m h=>h) hok I.bare
 exact st
end
section
variable {prog:Program} {w:World} {A:Around} {R:Result->Shared->Prop} {s:Shared}
abbrev tstTree (ifs:List Expr) (env:Env):Sem Bool:=forIn ifs true fun c r=>if r=true then do let ok <- isTrue c env (eval c env); pure (ForInStep.yield ok) else pure (ForInStep.yield r)
theorem compLoop_gen {elt target iter:Expr} {ifs:List Expr} {scope:Scope} {pos:Pos} {it acc:Value} {env:Env} (I:Nat->Shared->Prop)
  (turn:∀ n s,I n s->wpAny (model prog w) A (pyNext it) (fun r s₁=>match r with
   | none=>R (.ok .next) s₁
   | some v=>wpAny (model prog w) A (letOwnedTupleGo target it v) (fun _ s₂=>wpAny (model prog w) A (assign target env v) (fun _ s₃ =>
     wpAny (model prog w) A (tstTree ifs env) (fun ok s₄ =>
      if ok=true then wpAny (model prog w) A (eval elt env) (fun x s₅ =>
       wpAny (model prog w) A (call (.builtin "list.append") [acc,x]) (fun _ s₆=>∃ m,m < n/\I m s₆) (fun _ _=>False) s₅) (fun _ _=>False) s₄
      else ∃ m,m < n/\I m s₄) (fun _ _=>False) s₃) (fun _ _=>False) s₂) (fun _ _=>False) s₁) (fun _ _=>False) s)
  (n:Nat) (h:I n s) :
  codeAny (model prog w) A (.compLoop (.ListComp elt [⟨target,iter,ifs,0⟩] scope pos) 0 it acc env) R s:=by
 refine codeAny_loop rfl I (fun n s hI=>?_) n h
 show wpAny _ A ((compTurn (.ListComp elt [⟨target,iter,ifs,0⟩] scope pos) 0 it acc env).onRaise (fun x=>do noteFrame x env; theTreesLotGoes x)) _ _ s
 refine wpAny_noted ?_
 rw [compTurn_list]
 refine wpAny_bind (wpAny_standAt (wpAny_bind (wpAny_mono (turn n s hI) (fun r s₁ h₁=>?_) fun _ _ h'=>False.elim h')))
 cases r with
 | none=>exact wpAny_pure h₁
 | some v =>
  refine wpAny_bind (wpAny_mono h₁ (fun _ s₂ h₂=>?_) fun _ _ h'=>False.elim h')
  refine wpAny_bind (wpAny_mono h₂ (fun _ s₃ h₃=>wpAny_bind (wpAny_mono h₃ (fun ok s₄ h₄=>?_) fun _ _ h'=>False.elim h')) fun _ _ h'=>False.elim h')
  cases ok with
  | false=>exact wpAny_pure ⟨rfl,h₄⟩
  | true =>
   exact wpAny_bind (wpAny_bind (wpAny_mono h₄ (fun x s₅ h₅=>wpAny_bind (wpAny_mono h₅ (fun _ s₆ h₆=>wpAny_pure (wpAny_pure ⟨rfl,h₆⟩)) fun _ _ h'=>False.elim h')) fun _ _ h'=>False.elim h'))
end
def PTs (X:Cx) (ifs:List Expr) (t:TT):Prop :=
 ∀ (pins:List (Addr×Obj)) (s:Shared) (σ:St) (H:Hp) (Q:Bool->Hp->Prop),Inv X pins σ H s->t σ H Q->wpAny (model X.prog X.w) X.A (tstTree ifs X.env) (TP X pins σ Q) X.xe s
def tTrue:TT:=fun _ H Q=>Q true H
theorem pts_nil {X:Cx}:PTs X [] tTrue:=fun pins s σ H Q I h=>wpAny_tests_nil ⟨H,I,h⟩
def Ag (n:Nat) (σ σ0:St):Prop:=σ.length=σ0.length/\∀ i,n<=i->σ[i]?=σ0[i]?
def GKeeps (g:TG) (n:Nat):Prop:=∀ σ0 x σ H R,Ag n σ σ0->g x σ H R->g x σ H fun σ2 H2=>R σ2 H2/\Ag n σ2 σ0
theorem Ag.set {n i:Nat} {σ σ0:St} (a:Ag n σ σ0) (h:i < n) (v:Option V):Ag n (σ.set i v) σ0 :=
 ⟨by rw [List.length_set]; exact a.1,fun j hj=>(List.getElem?_set_ne (by omega)).trans (a.2 j hj)⟩
theorem gk_name {i n:Nat} (h:i < n):GKeeps (gName i) n:=fun σ0 x σ H R a q=>⟨q,a.set h _⟩
section
variable {X:Cx} {scope:Scope} {T:List Str} {cs:List Nat} {elt tg iter:Expr} {ifs:List Expr} {g:TG} {tt:TT} {te:TE} {pos:Pos}
theorem comp_core {RR:Value->Addr->Result->Shared->Prop} {E:Value->Shared->Prop} {Fin:List V->Hp->Prop} {pins:List (Addr×Obj)} {σ:St} {H:Hp} {s:Shared} {J:It} {fp:List Addr} {it:Addr} {tn:Nat->Heap->Prop}
  (I:Inv X pins σ H s) (hc:X.calm=true) (S:CScope X.env.scope scope X.N T cs) (Tn:Turn X.prog X.w X.K tg J fp it tn) (st:tn 0 s.heap) (hf:∀ b∈fp,FpOk X pins H b)
  (hg:∀ C s₀ H₀ ex,PG (blk X T cs scope C s₀ H₀ ex) tg g) (ht:∀ C s₀ H₀ ex,PTs (blk X T cs scope C s₀ H₀ ex) ifs tt) (he:∀ C s₀ H₀ ex,PE (blk X T cs scope C s₀ H₀ ex) elt te) (hk:GKeeps g T.length)
  (W:Nat->Nat->List V->Hp->Prop) (w0:∃ m,W 0 m [] H)
  (turn:∀ i m ys H,W i m ys H->(J.stop i H/\ys.length<=sizeLine/\Fin ys H)\/(J.go i H/\ys.length < sizeLine/\∃ N:List V->Hp->Prop,(∀ ys' H',N ys' H'->∃ m',m' < m/\W (i + 1) m' ys' H') /\
   ∀ x H',J.yld i H x H'->g x (sgOf σ T cs) H' fun σ2 H2=>tt σ2 H2 fun b H3=>if b=true then te σ2 H3 fun y H4=>N (ys++[y]) H4 else N ys H3))
  (fin:∀ (D C:Addr) (s':Shared) (m:Str->Option Value) (ys:List V) (H':Hp),Fin ys H'->H' D=none->s'.heap.Ns C m->FpOk X pins H' C->C≠D->Inv X pins σ (upd H' D (.lst ys)) s'->RR (.ref D) C (.ok .next) s') :
  wpAny (model X.prog X.w) X.A (newList []) (fun acc s₃=>wpAny (model X.prog X.w) X.A (newFunctionEnv scope X.env.globals (cloAcc X.env.cells scope.names []) [] X.env.qual none .none (some X.env)) (fun cenv s₄ =>
   codeAny (model X.prog X.w) X.A (.compStart (.ListComp elt [⟨tg,iter,ifs,0⟩] scope pos) 0 (.ref it) acc { cenv with scope:=relabel scope X.env }) (RR acc cenv.locals) s₄) E s₃) E s:=by
 refine wpAny_newObj_type (wpAny_newFunctionEnv S.nocell (by intro y hy; simp at hy) (fun h₁ hns₁ hsb₁=>?_) S.kind)
 dsimp only at hns₁ hsb₁ ⊢
 generalize hH2:s.heap.push { cls:=.type "list",dict:=none,data:=.seq ([]:List Value).toArray }=H2 at hns₁ hsb₁ ⊢
 have hCe:H2.objs.size=s.heap.objs.size + 1:=by rw [<- hH2,Heap.size_push]
 have hDC:s.heap.objs.size≠H2.objs.size:=by rw [hCe]; exact Nat.ne_of_lt (Nat.lt_succ_self _)
 have hCle:s.heap.objs.size<=H2.objs.size:=by rw [hCe]; exact Nat.le_succ _
 have old:∀ b o,s.heap.get? b=some o->h₁.get? b=some o:=fun b o e =>
  hsb₁.extBut b o (by rw [hCe]; exact Nat.ne_of_lt (Nat.lt_succ_of_lt (Heap.lt_size e))) (Heap.get?_push_of_some _ (hH2 ▸ Heap.get?_push_of_some _ e))
 have hacc:h₁.get? s.heap.objs.size=some { cls:=.type "list",data:=.seq ([]:List Value).toArray 0 }:=hsb₁.extBut _ _ hDC (Heap.get?_push_of_some _ (hH2 ▸ Heap.get?_push_size _ rfl))
 have hfe:∀ b∈fp,∃ o,s.heap.get? b=some o:=fun b hb=>let ⟨o,e,_⟩:=Tn.obj _ _ st b hb; ⟨o,e⟩
 have hlt:∀ b∈fp,b < s.heap.objs.size:=fun b hb=>let ⟨o,e⟩:=hfe b hb; Heap.lt_size e
 have st₁:tn 0 h₁:=Tn.keep _ _ _ st fun b _ o e=>old b o e
 generalize hDD:s.heap.objs.size=D at *
 generalize hCC:H2.objs.size=C at *
 have hnD:H D=none:=I.hok.fresh (Nat.le_of_eq hDD)
 have stat:∀ {H':Hp} {its:List Value} {n:Nat},(∀ b∈fp,H' b=none)->∀ b∈fp,FpOk (blk X T cs scope C s H fp) [(D,({ cls:=.type "list",data:=.seq its.toArray n }:Obj))] H' b:=fun hn b hb=>by
  obtain ⟨f0,f1,f2,f3,f4,f5⟩:=hf b hb
  refine ⟨hn b hb,Nat.ne_of_lt (Nat.lt_of_lt_of_le (hlt b hb) hCle),fun z=>?_,.inl hb,fun x c e=>f4 x c (I.clo S e),fun p hp z=>?_⟩
  ·rcases List.mem_cons.mp (I.stkSub b z) with e | e
   ·exact f1 e
   ·exact f2 e
  ·have e:p.1=D:=by
    rcases List.mem_append.mp hp with q | q
    ·exact absurd (show p∈([]:List (Addr×Obj)) from q) (by simp)
    ·rw [List.mem_singleton.mp q]
   exact absurd (hlt b hb) (by rw [<- z,e]; exact Nat.lt_irrefl _)
 have loop:∀ tk:Nat,codeAny (model X.prog X.w) X.A (.compLoop (.ListComp elt [⟨tg,iter,ifs,0⟩] scope pos) 0 (.ref it) (.ref D) (compEnvC scope (cloAcc X.env.cells scope.names []) C X.env)) (RR (.ref D) C) { s with heap:=h₁,toks:=tk }:=by
  intro tk
  have I1:Inv (blk X T cs scope C s H fp) [] (sgOf σ T cs) H { s with heap:=h₁,toks:=tk }:=inv_blk I S hf hfe (by rw [hDD]; exact hCle) hns₁ old
  obtain ⟨m0,w0⟩:=w0
  have pinD:∀ {σ':St} {H':Hp} {s':Shared} {its:List Value} {n:Nat} {pl:List (Addr×Obj)},Inv (blk X T cs scope C s H fp) pl σ' H' s'->s'.heap.get? D=some { cls:=.type "list",data:=.seq its.toArray n }->H' D=none ->
    Inv (blk X T cs scope C s H fp) [(D,({ cls:=.type "list",data:=.seq its.toArray n }:Obj))] σ' H' s':=fun {σ' H' s' its n pl} J e hn=>J.pins_of fun p hp=>by
   obtain rfl:=List.mem_singleton.mp hp
   refine ⟨e,hn,hDC,fun z=>?_,fun v q=>by cases q⟩
   have z':D∈frs X.stack:=z
   obtain ⟨_,o,ho,_⟩:=I.stack.mem z'
   exact absurd (Heap.lt_size ho) (by rw [hDD]; exact Nat.lt_irrefl _)
  refine compLoop_gen (fun n s'=>∃ (i:Nat) (ys:List V) (its:List Value) (k:Nat) (H':Hp),Inv (blk X T cs scope C s H fp) [(D,({ cls:=.type "list",data:=.seq its.toArray k }:Obj))] (sgOf σ T cs) H' s'/\Vals ys its/\tn i s'.heap/\(∀ b∈fp,H' b=none)/\W i n ys H') ?_ m0
   ⟨0,[],[],0,H,pinD I1 hacc hnD,.nil,st₁,fun b hb=>(hf b hb).1,w0⟩
  rintro n s1 ⟨i,ys,its,k,H1,J1,rv,st1,fr1,w1⟩
  rcases turn i n ys H1 w1 with ⟨stop,hz,fq⟩ | ⟨go,hz,N,hN,step⟩
  ·refine wpAny_mono (Tn.done (blk X T cs scope C s H fp) rfl rfl rfl hc i _ s1 _ H1 (fun _ _=>False) J1 (stat fr1) st1 stop) (fun r s2 ⟨hr,J2⟩=>?_) fun _ _ z=>z
   subst hr
   obtain ⟨eD,nD,_⟩:=J2.pin (D,({ cls:=.type "list",data:=.seq its.toArray k }:Obj)) (List.mem_append_right _ (List.mem_singleton.mpr rfl))
   have J3:Inv X pins σ H1 s2:=I.call' (ch:=fp) J2.os J2.base J2.hok J2.bare fun b hb=>by
    obtain ⟨f0,f1,f2,f3,f4,f5⟩:=hf b hb
    exact ⟨f3,f1,f4,f5⟩
   obtain ⟨mC,hnC,_⟩:=J2.loc
   have fC:FpOk X pins H1 C:=I.fpOk (by rw [hDD]; exact hCle) J2.free
   have fD:FpOk X pins H1 D:=I.fpOk (Nat.le_of_eq hDD) nD
   exact fin D C s2 mC ys H1 fq nD hnC fC (Ne.symm hDC) (J3.track eD fD rv hz)
  ·refine wpAny_mono (Tn.item (blk X T cs scope C s H fp) rfl rfl rfl hc i _ s1 _ H1 (fun _ _=>False) J1 (stat fr1) st1 go) (fun r s2 ⟨u,hr,h2⟩=>?_) fun _ _ z=>z
   subst hr
   refine wpAny_mono h2 (fun _ s3 ⟨x,H3,J3,r3,y3,st3,fr3⟩=>?_) fun _ _ z=>z
   have J3':=J3.pinned (stat fr3) (Tn.obj _ _ st3)
   refine wpAny_mono (hg C s H fp _ s3 _ H3 x u _ J3' r3 (hk (sgOf σ T cs) x _ H3 _ ⟨rfl,fun _ _=>rfl⟩ (step x H3 y3))) (fun _ s4 ⟨σ4,H4,J4,q4,l4,k4⟩=>?_) fun _ _ z=>z
   refine wpAny_mono (ht C s H fp _ s4 σ4 H4 _ J4 q4) (fun b s5 ⟨H5,J5,q5⟩=>?_) fun _ _ z=>z
   have wk:∀ {pl:List (Addr×Obj)} {H':Hp} {s':Shared},Inv (blk X T cs scope C s H fp) pl σ4 H' s'->Inv (blk X T cs scope C s H fp) pl (sgOf σ T cs) H' s':=fun J=>J.weak l4.symm fun j v e=>by
    by_cases hj:T.length<=j
    ·rw [k4 j hj]; exact e
    ·exfalso
     unfold sgOf at e
     rw [List.getElem?_append_left (by simp; omega),List.getElem?_map] at e
     cases q:T[j]? with
     | none=>rw [q] at e; cases e
     | some a=>rw [q] at e; cases e
   have tnk:∀ {H':Hp} {s':Shared} {σ':St},Inv (blk X T cs scope C s H fp) ([(D,({ cls:=.type "list",data:=.seq its.toArray k }:Obj))]++pinsAt fp s3.heap) σ' H' s'->tn (i + 1) s'.heap/\∀ b∈fp,H' b=none:=fun {H' s' σ'} J=>by
    refine ⟨Tn.keep _ _ _ st3 fun b hb o e=>(J.pin (b,o) (List.mem_append_right _ (List.mem_append_right _ (mem_pinsAt hb e)))).1,fun b hb=>?_⟩
    obtain ⟨o,e,d⟩:=Tn.obj _ _ st3 b hb
    exact (J.pin (b,o) (List.mem_append_right _ (List.mem_append_right _ (mem_pinsAt hb e)))).2.1
   cases b with
   | false =>
    rw [if_neg Bool.false_ne_true] at q5 ⊢
    obtain ⟨m',hm,w5⟩:=hN _ _ q5
    obtain ⟨t5,f5⟩:=tnk J5
    exact ⟨m',hm,i + 1,ys,its,k,H5,wk J5.unpinned,rv,t5,f5,w5⟩
   | true =>
    rw [if_pos rfl] at q5 ⊢
    refine wpAny_mono (he C s H fp _ s5 σ4 H5 _ J5 q5) (fun uy s6 ⟨y,H6,J6,ry,n6⟩=>?_) fun _ _ z=>z
    obtain ⟨m',hm,w6⟩:=hN _ _ n6
    obtain ⟨t6,f6⟩:=tnk J6
    obtain ⟨eD,nD,_⟩:=J6.pin (D,({ cls:=.type "list",data:=.seq its.toArray k }:Obj)) (List.mem_append_right _ (List.mem_append_left _ (List.mem_singleton.mpr rfl)))
    have hsz:its.toArray.size<=sizeLine:=by rw [List.size_toArray,<- rv.length]; omega
    refine append_at (hsz:=hsz) eD fun h7 sb hD7=>?_
    have J6':Inv (blk X T cs scope C s H fp) [] σ4 H6 s6:=J6.pins_of fun p hp=>absurd hp (by simp)
    have J7:Inv (blk X T cs scope C s H fp) [] σ4 H6 { s6 with heap:=h7 }:=J6'.turned (t':=s6.toks) (it:=D) (fun b o hb e=>(sb.2 b hb).trans e) nD hDC (.inr (Nat.le_of_eq hDD))
     (fun x c e z=>by
      obtain ⟨v,q⟩:=I.cell x c (I.clo S e)
      exact absurd q.lt (by rw [z,hDD]; exact Nat.lt_irrefl _))
     (fun p hp=>absurd hp (by simp [blk]))
    have hD7':h7.get? D=some { cls:=.type "list",data:=.seq (its++[uy]).toArray (k + 1) }:=by
     rw [hD7,List.push_toArray]
    refine ⟨m',hm,i + 1,ys++[y],its++[uy],k + 1,H6,wk (pinD J7 hD7' nD),rv.append (.cons ry .nil),Tn.keep _ _ _ t6 fun b hb o e=>(sb.2 b (Nat.ne_of_lt (hlt b hb))).trans e,f6,w6⟩
 exact codeAny_compStart_list (loop _) (Tn.self _ 0 _ _ _ st₁ (loop _))
def tComp (wi:TI) (g:TG) (tt:TT) (te:TE) (T:List Str) (cs:List Nat):TE:=fun σ H Q=>wi σ H fun J H1=>∃ W:Nat->Nat->List V->Hp->Prop,(∃ m,W 0 m [] H1) /\
 ∀ i m ys H,W i m ys H->(J.stop i H/\ys.length<=sizeLine/\∀ p,H p=none->Q (.ref p) (upd H p (.lst ys)))\/(J.go i H/\ys.length < sizeLine/\∃ N:List V->Hp->Prop,(∀ ys' H',N ys' H'->∃ m',m' < m/\W (i + 1) m' ys' H') /\
  ∀ x H',J.yld i H x H'->g x (sgOf σ T cs) H' fun σ2 H2=>tt σ2 H2 fun b H3=>if b=true then te σ2 H3 fun y H4=>N (ys++[y]) H4 else N ys H3)
theorem pe_comp {wi:TI} (hc:X.calm=true) (S:CScope X.env.scope scope X.N T cs) (hi:PI X tg iter wi) (hg:∀ C s₀ H₀ ex,PG (blk X T cs scope C s₀ H₀ ex) tg g) (ht:∀ C s₀ H₀ ex,PTs (blk X T cs scope C s₀ H₀ ex) ifs tt)
  (he:∀ C s₀ H₀ ex,PE (blk X T cs scope C s₀ H₀ ex) elt te) (hk:GKeeps g T.length) (hs:∀ x,foldedSetIterable iter X.env x=pure x:=by intro _; rfl):PE X (.ListComp elt [⟨tg,iter,ifs,0⟩] scope pos) (tComp wi g tt te T cs):=by
 intro pins s σ H Q I h
 rw [eval_ListComp]
 refine wpAny_comprehension_free (use:=none) rfl hs (closure_is (I.hl S)) S.kind S.names (thn (hi pins s σ H _ I h) fun v s1 h1=>thn h1 fun itv s2 h2=>?_)
 obtain ⟨it,fp,tn,J,H2,e,I2,Tn,st,hf,W,w0,turn⟩:=h2
 subst e
 refine comp_core (RR:=fun acc C=>compPost (model X.prog X.w) X.A X.xe none (EP X pins σ Q) acc C) (Fin:=fun ys H=>∀ p,H p=none->Q (.ref p) (upd H p (.lst ys))) I2 hc S Tn st hf hg ht he hk W w0 turn ?_
 intro D C s' m ys H' q nD hn fC hCD I'
 refine ⟨m,hn,fun h' sb=>⟨.ref D,_,I'.turned (t':=s'.toks) (it:=C) (fun b o hb e=>(sb.2 b hb).trans e) ?_ fC.2.1 fC.2.2.2.1 fC.2.2.2.2.1 fC.2.2.2.2.2,rfl,q D nD⟩⟩
 rw [upd_ne hCD]
 exact fC.1
theorem ps_comp {wi:TI} {i:Nat} {y:Str} {py spos:Pos} (hN:X.N.Nodup) (hy:X.N[i]?=some y) (hl:X.env.scope.names.lookup y=some .local) (hc:X.calm=true) (S:CScope X.env.scope scope X.N T cs) (hi:PI X tg iter wi) (hg:∀ C s₀ H₀ ex,PG (blk X T cs scope C s₀ H₀ ex) tg g)
  (ht:∀ C s₀ H₀ ex,PTs (blk X T cs scope C s₀ H₀ ex) ifs tt) (he:∀ C s₀ H₀ ex,PE (blk X T cs scope C s₀ H₀ ex) elt te) (hk:GKeeps g T.length) (hs:∀ x,foldedSetIterable iter X.env x=pure x:=by intro _; rfl)
  (hsw:swapsWith (.ListComp elt [⟨tg,iter,ifs,0⟩] scope pos) (some (.Name y py)) spos.line X.env=pure true:=by rfl):PS X (.Assign [.Name y py] (.ListComp elt [⟨tg,iter,ifs,0⟩] scope pos) spos) (tAsg (tComp wi g tt te T cs) (gName i)):=by
 intro pins s σ H D I h
 rw [exec_Assign_Name_used _ _ _ _ hsw]
 refine wpAny_bind (wpAny_standAt (wpAny_bind ?_))
 show wpAny _ X.A (do let _ <- comprehension (.ListComp elt [⟨tg,iter,ifs,0⟩] scope pos) scope X.env _ (newList []) false (eval iter X.env) (some (assign (.Name y py) X.env))) _ _ s
 refine wpAny_bind (wpAny_mono (wpAny_comprehension_free (use:=some (assign (.Name y py) X.env)) (Q:=fun _ s'=>SP X pins D .next s') rfl hs (closure_is (I.hl S)) S.kind S.names
  (thn (hi pins s σ H _ I h) fun v s1 h1=>thn h1 fun itv s2 h2=>?_)) (fun _ s' hq=>wpAny_pure (wpAny_pure hq)) fun _ _ e=>e)
 obtain ⟨it,fp,tn,J,H2,e,I2,Tn,st,hf,W,w0,turn⟩:=h2
 subst e
 refine comp_core (RR:=fun acc C=>compPost (model X.prog X.w) X.A X.xe (some (assign (.Name y py) X.env)) (fun _ s'=>SP X pins D .next s') acc C) (Fin:=fun ys H=>∀ p,H p=none->gName i (.ref p) σ (upd H p (.lst ys)) D.nx) I2 hc S Tn st hf hg ht he hk W w0 turn ?_
 intro B C s' m ys H' q nB hn fC hCB I'
 show wpAny _ X.A (assign (.Name y py) X.env (.ref B)) _ _ s'
 refine wpAny_assign_Name (store_ok2 (v:=.ref B) I' hN hy (.inl hl) rfl (fun s'' I'' ⟨a,sb,ha⟩=>?_) (.inr hl))
 have nC:C≠a:=by
  rcases ha with z | z
  ·rw [z]; exact fC.2.1
  ·exact Ne.symm (fC.2.2.2.2.1 y a z)
 refine ⟨m,hn.sameBut sb nC,fun h' sb'=>⟨_,_,I''.turned (t':=s''.toks) (it:=C) (fun b o hb e=>(sb'.2 b hb).trans e) ?_ fC.2.1 fC.2.2.2.1 fC.2.2.2.2.1 fC.2.2.2.2.2,q B nB⟩⟩
 rw [upd_ne hCB]
 exact fC.1
end
theorem comp_by {J:It} {n:Nat} {g:TG} {tt:TT} {te:TE} {σB:St} {H1:Hp} {F:List V->Hp->Prop} (Pv:Nat->List V->Hp->Prop) (h0:Pv 0 [] H1) (hn:∀ i ys H,Pv i ys H->ys.length<=i) (hz:n<=sizeLine)
  (hgo:∀ i ys H,i < n->Pv i ys H->J.go i H) (hstop:∀ ys H,Pv n ys H->J.stop n H)
  (hs:∀ i ys H,i < n->Pv i ys H->∀ x H',J.yld i H x H'->g x σB H' fun σ2 H2=>tt σ2 H2 fun b H3=>if b=true then te σ2 H3 fun y H4=>Pv (i + 1) (ys++[y]) H4 else Pv (i + 1) ys H3)
  (hd:∀ ys H,Pv n ys H->F ys H) :
  ∃ W:Nat->Nat->List V->Hp->Prop,(∃ m,W 0 m [] H1)/\∀ i m ys H,W i m ys H->(J.stop i H/\ys.length<=sizeLine/\F ys H)\/(J.go i H/\ys.length < sizeLine/\∃ N:List V->Hp->Prop,(∀ ys' H',N ys' H'->∃ m',m' < m/\W (i + 1) m' ys' H') /\
   ∀ x H',J.yld i H x H'->g x σB H' fun σ2 H2=>tt σ2 H2 fun b H3=>if b=true then te σ2 H3 fun y H4=>N (ys++[y]) H4 else N ys H3):=by
 refine ⟨fun i m ys H=>m=n - i/\i<=n/\Pv i ys H,⟨n,rfl,Nat.zero_le _,h0⟩,?_⟩
 rintro i m ys H ⟨rfl,hi,p⟩
 have hl:=hn i ys H p
 by_cases hlt:i < n
 ·exact .inr ⟨hgo i ys H hlt p,by omega,Pv (i + 1),fun ys' H' q=>⟨n - (i + 1),by omega,rfl,hlt,q⟩,hs i ys H hlt p⟩
 ·have e:i=n:=by omega
  subst e
  exact .inl ⟨hstop ys H p,by omega,hd ys H p⟩
section
variable {X:Cx}
def rGetL (K:W.Frag):V->V->Hp->VK->Prop:=fun o i H Q=>∃ p xs k v,o=.ref p/\i=.int ((k:Nat):Int)/\SqL K H p xs/\xs[k]?=some v/\Q v H
theorem pget_list:PGet X (rGetL X.K):=by
 intro pins s σ H o i ov iv Q I ro ri h
 obtain ⟨p,xs,k,v,rfl,rfl,hq,hx,q⟩:=h
 cases ro
 obtain ⟨t,rfl⟩:=ri
 obtain ⟨its,rv,pl,hz⟩:=I.list hq
 obtain ⟨u,hu,ru⟩:=rv.get hx
 have hk:k < xs.length:=(List.getElem?_eq_some_iff.mp hx).1
 have hn:=line63
 exact wpAny_getItem_list pl.isList (by omega) (by omega) (by simpa using hu) ⟨v,H,I,ru,q⟩
theorem Vals.bl_get {bs:List Bool} {us:List Value} (r:Vals (bs.map V.bl) us) {i:Nat} {v:Value} (e:us[i]?=some v):∃ b,bs[i]?=some b/\v=.bool b:=by
 have hi:i < us.length:=(List.getElem?_eq_some_iff.mp e).1
 have hl:=r.length
 rw [List.length_map] at hl
 have hb:i < bs.length:=by omega
 have eb:(bs.map V.bl)[i]?=some (V.bl bs[i]):=by rw [List.getElem?_map,List.getElem?_eq_getElem hb]; rfl
 obtain ⟨u,hu,ru⟩:=r.get eb
 rw [e] at hu
 cases hu
 exact ⟨bs[i],List.getElem?_eq_getElem hb,ru⟩
theorem any_of (bs:List Bool):((List.range bs.length).any fun i=>(bs[i]?).getD false)=bs.any id:=by
 rw [Bool.eq_iff_iff]
 simp only [List.any_eq_true,List.mem_range,id]
 constructor
 ·rintro ⟨i,hi,e⟩
  rw [List.getElem?_eq_getElem hi] at e
  exact ⟨_,List.getElem_mem hi,e⟩
 ·rintro ⟨b,hb,e⟩
  obtain ⟨i,hi,e'⟩:=List.mem_iff_getElem.mp hb
  refine ⟨i,hi,?_⟩
  rw [List.getElem?_eq_getElem hi,e']
  exact e
theorem call_any (hc:X.calm=true):CallR X (.builtin "any") (fun xs H Q=>∃ (p:Addr) (bs:List Bool),xs=[.ref p]/\SqL X.K H p (bs.map V.bl)/\Q (.bl (bs.any id)) H):=by
 intro pins s σ H xs us Q I r h
 obtain ⟨p,bs,rfl,hq,q⟩:=h
 obtain ⟨u,rfl,ru⟩:=vals1 r
 cases ru
 obtain ⟨its,rv,pl,hz⟩:=I.list hq
 have hlen:=rv.length
 rw [List.length_map] at hlen
 have hlt:p < s.heap.objs.size:=by obtain ⟨_,e,_⟩:=pl.isList; exact Heap.lt_size e
 refine call_any_walk (wpAny_pyIter_list pl.isList ?_)
 refine ⟨s.heap.objs.size,[s.heap.objs.size,p],[s.heap.objs.size],its.toArray.size,_,_,fun i=>(bs[i]?).getD false,rfl,Walks.list (A:=X.A.in1) (I.ok.hd hc) _ p (Nat.ne_of_lt hlt) its.toArray,
  ⟨⟨_,Heap.get?_push_size _ rfl,rfl,rfl⟩,pl.isList.push _⟩,fun i v s' Q' E' hP hQ=>?_,fun h' tk hk=>?_⟩
 ·obtain ⟨b,e,rfl⟩:=rv.bl_get (by simpa using hP)
  simp only [e,Option.getD_some] at hQ
  exact wpAny_truthy_bool hQ
 ·rw [List.size_toArray,<- hlen,any_of]
  exact ⟨.bl (bs.any id),H,I.kept (t':=tk) (PyProof.Rows.LSm.kept_iter hk),rfl,q⟩
theorem strsAre_of {ys:List Str}:∀ {us:List Value},Vals (ys.map V.str) us->StrsAre us ys:=by
 induction ys with
 | nil=>intro us r; rw [List.map_nil] at r; cases r; exact .nil
 | cons n ns ih =>
  intro us r
  rw [List.map_cons] at r
  cases r with
  | cons r1 r2 =>
   obtain ⟨t,e⟩:=r1
   subst e
   exact .cons n t (ih r2)
theorem mt_join:MtR X "str.join" (fun x xs H Q=>∃ (z:Str) (p:Addr) (ys:List Str),x=.str z/\xs=[.ref p]/\SqL X.K H p (ys.map V.str)/\(ys.map (·.length)).sum + ys.length * z.length<=16777216/\Q (.str (Txt.join z ys)) H):=by
 intro pins s σ H x xs v us Q I rx r h
 obtain ⟨z,p,ys,rfl,rfl,hq,hz,q⟩:=h
 obtain ⟨t,rfl⟩:=rx
 obtain ⟨u,rfl,ru⟩:=vals1 r
 cases ru
 obtain ⟨its,rv,pl,_⟩:=I.list hq
 exact join_list pl.isList (by simpa using strsAre_of rv) hz fun t' k=>⟨.str _,H,I.tok _,⟨_,rfl⟩,q⟩
theorem call_isi:CallR X (.builtin "isinstance") (fun xs H Q=>∃ x T t b,xs=[x,.ty T]/\TyOf X.K H x t/\W.kitOne X.K t (.type T)=some b/\Q (.bl b) H):=by
 intro pins s σ H xs us Q I r h
 obtain ⟨x,T,t,b,rfl,ty,e,q⟩:=h
 obtain ⟨u,w',rfl,ru,rw'⟩:=vals2 r
 cases rw'
 exact isinst_ok I ru ty e fun tk=>⟨.bl b,H,I.tok tk,rfl,q⟩
def rSlS:V->Option Int->Option Int->Hp->VK->Prop:=fun x lo hi H Q=>∃ z,x=.str z/\z.length<=sizeLine/\Q (.str (Txt.slice z lo hi)) H
theorem sl_str:SlR X rSlS:=by
 intro pins s σ H x v vl vu lo hi sl Q I rx hs pl pu h
 obtain ⟨z,rfl,hz,q⟩:=h
 obtain ⟨t,rfl⟩:=rx
 refine ⟨"str",_,F.slot_str_getitem.lookup,typeIs_str _ _ _,?_⟩
 cases pl with
 | none =>
  cases pu with
  | none=>exact wpAny_getItem_str_slice (l:=none) (u:=none) (st:=none) hs rfl (post_val_or_str ⟨Nat.le_trans (Txt.slice_le z _ _) hz,fun t' k=>⟨.str _,H,I.tok _,⟨_,rfl⟩,q⟩⟩)
  | int j tj=>exact wpAny_getItem_str_slice (l:=none) (u:=some (j,tj)) (st:=none) hs rfl (post_val_or_str ⟨Nat.le_trans (Txt.slice_le z _ _) hz,fun t' k=>⟨.str _,H,I.tok _,⟨_,rfl⟩,q⟩⟩)
 | int i ti =>
  cases pu with
  | none=>exact wpAny_getItem_str_slice (l:=some (i,ti)) (u:=none) (st:=none) hs rfl (post_val_or_str ⟨Nat.le_trans (Txt.slice_le z _ _) hz,fun t' k=>⟨.str _,H,I.tok _,⟨_,rfl⟩,q⟩⟩)
  | int j tj=>exact wpAny_getItem_str_slice (l:=some (i,ti)) (u:=some (j,tj)) (st:=none) hs rfl (post_val_or_str ⟨Nat.le_trans (Txt.slice_le z _ _) hz,fun t' k=>⟨.str _,H,I.tok _,⟨_,rfl⟩,q⟩⟩)
end
mutual
inductive DV (K:W.Frag) (H:Hp):V->PyData->Prop
 | non:DV K H .non .none
 | bl (b:Bool):DV K H (.bl b) (.bool b)
 | int (i:Int):DV K H (.int i) (.int i)
 | str (x:Str):DV K H (.str x) (.str x)
 | lst {a:Addr} {xs:List V} {ds:List PyData} (h:SqL K H a xs) (r:DVs K H xs ds):DV K H (.ref a) (.list ds)
 | tup {a:Addr} {xs:List V} {ds:List PyData} (h:SqT K H a xs) (r:DVs K H xs ds):DV K H (.ref a) (.tuple ds)
inductive DVs (K:W.Frag) (H:Hp):List V->List PyData->Prop
 | nil:DVs K H [] []
 | cons {x:V} {d:PyData} {xs:List V} {ds:List PyData} (h:DV K H x d) (r:DVs K H xs ds):DVs K H (x::xs) (d::ds)
end
section
variable {X:Cx} {pins:List (Addr×Obj)} {σ:St} {H:Hp} {s:Shared}
mutual
theorem dv_reads (I:Inv X pins σ H s):∀ {x:V} {d:PyData} {u:Value},DV X.K H x d->RelV x u->∃ as,Reads s.heap u d as
 | _,_,u,.non,r=>by obtain rfl:u=Value.none:=r; exact ⟨_,Reads.none⟩
 | _,_,u,.bl b,r=>by obtain rfl:u=Value.bool b:=r; exact ⟨_,Reads.bool b⟩
 | _,_,u,.int i,r=>by obtain ⟨t,rfl⟩:=(show ∃ t,u=Value.int i t from r); exact ⟨_,Reads.int i t⟩
 | _,_,u,.str x,r=>by obtain ⟨t,rfl⟩:=(show ∃ t,u=Value.str x t from r); exact ⟨_,Reads.str x t⟩
 | _,_,u,.lst (a:=a) h q,r=>by
  obtain rfl:u=Value.ref a:=r
  obtain ⟨its,rv,⟨o,n,e,c,d,dt⟩,_⟩:=I.list h
  obtain ⟨as,ra⟩:=dvs_reads I q rv
  exact ⟨_,reads_list_at e c dt (by simpa using ra)⟩
 | _,_,u,.tup (a:=a) h q,r=>by
  obtain rfl:u=Value.ref a:=r
  obtain ⟨its,rv,⟨o,e,c,n,dt⟩,_⟩:=I.tuple h
  obtain ⟨as,ra⟩:=dvs_reads I q rv
  exact ⟨_,reads_tuple_at e c dt (by simpa using ra)⟩
theorem dvs_reads (I:Inv X pins σ H s):∀ {xs:List V} {ds:List PyData} {us:List Value},DVs X.K H xs ds->Vals xs us->∃ as,ReadsAll s.heap us ds as
 | _,_,_,.nil,.nil=>⟨_,ReadsAll.nil⟩
 | _,_,_,.cons h q,.cons r rr=>by
  obtain ⟨as,ra⟩:=dv_reads I h r
  obtain ⟨bs,rb⟩:=dvs_reads I q rr
  exact ⟨_,ReadsAll.cons ra rb⟩
end
def rEqD (K:W.Frag):R2:=fun x y H Q=>∃ dx dy,DV K H x dx/\DV K H y dy/\SeqAt.shaped dx=true/\SeqAt.shaped dy=true/\Q (.bl (PyData.eqv dx dy)) H
def rNeD (K:W.Frag):R2:=fun x y H Q=>∃ dx dy,DV K H x dx/\DV K H y dy/\SeqAt.shaped dx=true/\SeqAt.shaped dy=true/\Q (.bl (!PyData.eqv dx dy)) H
theorem op_eqD (hu:X.A.units + 64 < cLine):OpR X (compareOp .Eq) (rEqD X.K):=by
 intro pins s σ H x y v u Q I rx ry h
 obtain ⟨dx,dy,hx,hy,sx,sy,q⟩:=h
 obtain ⟨as,ra⟩:=dv_reads I hx rx
 obtain ⟨bs,rb⟩:=dv_reads I hy ry
 exact eq_dataH ra rb sx sy hu ⟨.bl _,H,I,rfl,q⟩
theorem op_neD (hu:X.A.units + 64 < cLine):OpR X (compareOp .NotEq) (rNeD X.K):=by
 intro pins s σ H x y v u Q I rx ry h
 obtain ⟨dx,dy,hx,hy,sx,sy,q⟩:=h
 obtain ⟨as,ra⟩:=dv_reads I hx rx
 obtain ⟨bs,rb⟩:=dv_reads I hy ry
 exact ne_dataH ra rb sx sy hu ⟨.bl _,H,I,rfl,q⟩
end
theorem dvs_ints {K:W.Frag} {H:Hp}:∀ ns:List Int,DVs K H (ns.map V.int) (ns.map PyData.int)
 | []=>.nil
 | n::r=>.cons (.int n) (dvs_ints r)
def Cal (P:Program) (w:World) (K:W.Frag) (mg:Str->Option Value) (base:Heap) (x:Str) (k:Nat) (ps:List Str) (sp:Sp):Prop :=
 ∃ (f:Addr) (fd:FuncData),FnOk P w K mg base CX0 k f fd ps sp/\mg x=some (.ref f)/\W.keepIn K (.ref f)=true/\Binds K fd ps []
section
variable {X:Cx} {x:Str} {k:Nat} {ps:List Str} {sp:Sp} {e:Expr} {es:List Expr} {t:TA} {p pos:Pos}
theorem pe_cal (C:Cal X.prog X.w X.K X.mg X.base x k ps sp) (hr:Room k X.A) (hg:Gl X x) (ha:PA X (e::es) t) (hdb:(x == ("__debug__":Str))=false:=by decide)
  (he:starEach (e::es) X.env=(false,eval e X.env)::starEach es X.env:=by rfl) (hpl:(backTo pos (starEach es X.env)).any (·.1)=false:=by rfl):PE X (.Call (.Name x p) (e::es) [] pos) (tCall sp [] E0 t):=by
 obtain ⟨f,fd,F,hm,hk,hb⟩:=C
 exact pe_call F hr hg hm hk hb .nil pass0 ha hdb he hpl
end
def Grow (p:Addr) (H H':Hp):Prop:=∀ b o,H b=some o->b≠p->H' b=some o
theorem Grow.trans {p:Addr} {H H1 H2:Hp} (a:Grow p H H1) (b:Grow p H1 H2):Grow p H H2:=fun c o e n=>b c o (a c o e n) n
theorem Grow.same {p:Addr} {H H':Hp} (s:Same H H'):Grow p H H':=fun b o e _=>s b o e
theorem Grow.free {p:Addr} {H H':Hp} (g:Grow p H H') {l:Addr} (h:H' l=none) (n:l≠p):H l=none:=by
 cases q:H l with
 | none=>rfl
 | some o=>rw [g l o q n] at h; cases h
theorem same_upd {H:Hp} {p:Addr} {o:HO} (h:H p=none):Same H (upd H p o):=fun b u e=>by rw [upd_ne (ne_of_none e h)]; exact e
structure HandAt (H:Hp) (p a:Addr):Prop where
 ex:∃ (d k:Int) (cs:List Int),H p=some (.lst [.int d,.int k,.ref a])/\H a=some (.lst (cs.map V.int))/\cs≠[]/\cs.length<=63/\0<=d/\0<=k/\∀ c∈cs,0<=c
theorem HandAt.ne {H:Hp} {p a:Addr} (h:HandAt H p a):p≠a:=by
 obtain ⟨d,k,cs,e1,e2,_⟩:=h.ex
 refine ne_of e1 e2 fun z=>?_
 injection z with z
 cases cs with
 | nil=>cases z
 | cons c r =>
  rw [List.map_cons] at z
  injection z with _ z
  cases r with
  | nil=>cases z
  | cons c2 r =>
   rw [List.map_cons] at z
   injection z with _ z
   cases r with
   | nil=>cases z
   | cons c3 r=>rw [List.map_cons] at z; injection z with z _; cases z
theorem HandAt.same {H H':Hp} {p a:Addr} (h:HandAt H p a) (g:Same H H'):HandAt H' p a:=by
 obtain ⟨d,k,cs,e1,e2,r⟩:=h.ex
 exact ⟨d,k,cs,g _ _ e1,g _ _ e2,r⟩
def spDraw:Sp:=fun vs H Q _=>∃ (p a:Addr) (n:Int),vs=[.ref p,.int n]/\HandAt H p a/\0 < n/\n < 1073741824 /\
 ∀ (r:Int) (H':Hp),0<=r->r < n->HandAt H' p a->Grow p H H'->(∀ b,b≠p->H' b=H b)->Q (.int r) H'
def spOpen (K:W.Frag):Sp:=fun vs H Q _=>∃ (s:Addr) (ns:List Int) (i:Int),vs=[.ref s,.int i]/\SqL K H s (ns.map V.int)/\ns.length<=63/\0<=i/\i < 2 ^ 60 /\
 ∀ (p a:Addr) (H':Hp),H p=none->H a=none->HandAt H' p a->Same H H'->Q (.ref p) H'
theorem pe_gl {X:Cx} {x:Str} {v:V} {pos:Pos} (h:∃ u,X.mg x=some u/\RelV v u) (hg:Gl X x) (hd:(x == ("__debug__":Str))=false:=by decide):PE X (.Name x pos) (tC v):=by
 obtain ⟨u,hm,r⟩:=h
 exact pe_glob hg hm r hd
theorem at_rest {cs:List Int} (h:cs≠[]) (z:Int):∃ c,c∈cs/\atI (cs.map V.int) (z % ((cs.map V.int).length:Nat))=some (.int c):=by
 have hl:0 < cs.length:=List.length_pos_iff.mpr h
 have h0:0<=z % ((cs.map V.int).length:Nat):=Int.emod_nonneg _ (by rw [List.length_map]; omega)
 have h1:z % ((cs.map V.int).length:Nat) < ((cs.map V.int).length:Nat):=Int.emod_lt_of_pos _ (by rw [List.length_map]; omega)
 generalize z % ((cs.map V.int).length:Nat)=m at h0 h1
 rw [List.length_map] at h1
 have hm:m.toNat < cs.length:=by omega
 obtain ⟨k,rfl⟩:=Int.eq_ofNat_of_zero_le h0
 have hm:k < cs.length:=hm
 refine ⟨cs[k],List.getElem_mem hm,atI_nat ?_⟩
 rw [List.getElem?_map,List.getElem?_eq_getElem hm]
 rfl
def Shp (n:Nat) (d:PyData):Prop:=d.canLay0=true/\d.depth<=n
theorem Shp.shaped {n:Nat} {d:PyData} (h:Shp n d) (hn:n<=64):SeqAt.shaped d=true:=by
 unfold SeqAt.shaped
 rw [h.1,Bool.true_and]
 exact decide_eq_true (Nat.le_trans h.2 hn)
theorem shp_all {n:Nat}:∀ {ds:List PyData},(∀ d∈ds,Shp n d)->PyData.canLayAll0 ds=true/\PyData.depthAll ds<=n
 | [],_=>⟨by simp only [PyData.canLayAll0],by simp only [PyData.depthAll]; exact Nat.zero_le _⟩
 | d::r,h=>by
  obtain ⟨h1,h2⟩:=h d List.mem_cons_self
  obtain ⟨h3,h4⟩:=shp_all (n:=n) fun x hx=>h x (List.mem_cons_of_mem _ hx)
  refine ⟨by simp only [PyData.canLayAll0,h1,h3,Bool.and_self],?_⟩
  simp only [PyData.depthAll]
  omega
theorem shp_list {n:Nat} {ds:List PyData} (h:∀ d∈ds,Shp n d):Shp (n + 1) (.list ds):=by
 obtain ⟨h1,h2⟩:=shp_all h
 exact ⟨by simp only [PyData.canLay0,h1],by simp only [PyData.depth]; omega⟩
theorem shp_int (i:Int):Shp 0 (.int i):=⟨by simp only [PyData.canLay0],by simp only [PyData.depth]; exact Nat.le_refl _⟩
theorem shp_ints (ns:List Int):Shp 1 (.list (ns.map PyData.int)):=shp_list fun d hd=>by
 obtain ⟨i,_,rfl⟩:=List.mem_map.mp hd
 exact shp_int i
theorem eqv_nil (ns:List Int):PyData.eqv (.list (ns.map PyData.int)) (.list [])=decide (ns=[]):=by
 cases ns with
 | nil=>simp [PyData.eqv,PyData.eqvAll]
 | cons n r=>simp [PyData.eqv,PyData.eqvAll]
theorem cut_ints (ns:List Int) (lo hi:Option Int):∃ ms:List Int,cutV (ns.map V.int) lo hi=ms.map V.int/\ms.length<=ns.length/\∀ c∈ms,c∈ns:=by
 refine ⟨(ns.drop (HT.sIx (ns.map V.int).length 0 lo)).take (HT.sIx (ns.map V.int).length (ns.map V.int).length hi - HT.sIx (ns.map V.int).length 0 lo),?_,?_,?_⟩
 ·unfold cutV
  rw [List.map_take,List.map_drop]
 ·rw [List.length_take,List.length_drop]
  omega
 ·intro c hc
  exact List.mem_of_mem_drop (List.mem_of_mem_take hc)
theorem small_line {n:Nat} (h:n<=100000):n<=sizeLine:=Nat.le_trans h (by decide)
theorem cut_from {as:List V} {j:Int} (h0:0<=j) (h1:j<=as.length):cutV as (some j) none=as.drop j.toNat:=by
 obtain ⟨m,rfl⟩:=Int.eq_ofNat_of_zero_le h0
 unfold cutV
 rw [HT.sIx_nat,HT.sIx_none,Nat.min_eq_left (by omega),List.take_of_length_le (by rw [List.length_drop]; exact Nat.le_refl _)]
 rfl
theorem cut_to {as:List V} {j:Int} (h0:0<=j) (h1:j<=as.length):cutV as none (some j)=as.take j.toNat:=by
 obtain ⟨m,rfl⟩:=Int.eq_ofNat_of_zero_le h0
 unfold cutV
 rw [HT.sIx_nat,HT.sIx_none,Nat.min_eq_left (by omega),List.drop_zero,Nat.sub_zero]
 rfl
def HC (H H4:Hp) (cl:Addr):Prop:=∃ as:List Int,Same H H4/\H cl=none/\H4 cl=some (.lst (as.map V.int))/\as≠[]/\as.length<=63/\∀ c∈as,0<=c
theorem spun {as:List Int} (hne:as≠[]) (i:Int):∃ cs:List Int,cutV (as.map V.int) (some (i % ((as.map V.int).length:Nat))) none++cutV (as.map V.int) none (some (i % ((as.map V.int).length:Nat)))=cs.map V.int/\cs≠[]/\cs.length=as.length/\∀ c∈cs,c∈as:=by
 have hl:0 < as.length:=List.length_pos_iff.mpr hne
 have h0:0<=i % ((as.map V.int).length:Nat):=Int.emod_nonneg _ (by rw [List.length_map]; omega)
 have h1:i % ((as.map V.int).length:Nat) < ((as.map V.int).length:Nat):=Int.emod_lt_of_pos _ (by rw [List.length_map]; omega)
 generalize i % ((as.map V.int).length:Nat)=j at h0 h1
 rw [cut_from h0 (by omega),cut_to h0 (by omega)]
 rw [List.length_map] at h1
 refine ⟨as.drop j.toNat++as.take j.toNat,by rw [List.map_append,List.map_drop,List.map_take],?_,?_,?_⟩
 ·intro e
  have:=congrArg List.length e
  rw [List.length_append,List.length_drop,List.length_take] at this
  simp at this
  omega
 ·rw [List.length_append,List.length_drop,List.length_take]
  omega
 ·intro c hc
  rcases List.mem_append.mp hc with z | z
  ·exact List.mem_of_mem_drop z
  ·exact List.mem_of_mem_take z
theorem cal_mk {P:Program} {w:World} {K:W.Frag} {mg:Str->Option Value} {base:Heap} {x:Str} {st:Stmt} {f:Addr} {fd:FuncData} {k:Nat} {ps:List Str} {sp:Sp} (F:Fun K x x st f fd) (G:FnOk P w K mg base CX0 k f fd ps sp) (m:mg x=some (.ref f)) (b:Binds K fd ps []) :
  Cal P w K mg base x k ps sp:=⟨f,fd,G,m,F.kp,b⟩
end L2
set_option maxHeartbeats 4000000
namespace L2
open PySem PySem.W PyProof.Rows
structure GoodP (n:Nat) (p:Array Nat):Prop where
 perm:p.Perm (List.range n).toArray
theorem GoodP.size {n:Nat} {p:Array Nat} (g:GoodP n p):p.size=n:=by have:=g.perm.size_eq; simpa using this
theorem GoodP.ne {n:Nat} {p:Array Nat} (g:GoodP n p) {i j:Nat} (hi:i < n) (hj:j < n) (h:i≠j):p.getD i 0≠p.getD j 0:=by
 have nd:p.toList.Nodup:=(Array.perm_iff_toList_perm.mp g.perm).nodup_iff.mpr (by simpa using List.nodup_range)
 have hi':i < p.size:=by rw [g.size]; exact hi
 have hj':j < p.size:=by rw [g.size]; exact hj
 have e:p.getD i 0=p[i]:=by simp [Array.getD,hi']
 have e2:p.getD j 0=p[j]:=by simp [Array.getD,hj']
 rw [e,e2]
 intro z
 have:=(List.getElem_inj (h₀:=by simpa using hi') (h₁:=by simpa using hj') nd).mp (by simpa using z)
 exact h this
end L2
namespace L2
open PySem PySem.W PyProof.Rows HT
abbrev KIt:=V×Addr×List Int
def codeφ (c:Addr) (q:Str):HO:=.ext fun h=>h.CodeRec (.ref c) q
def TabOk (P:Addr) (pos:Pos) (q:Str) (H:Hp):Prop :=
 ∃ ps,H P=some (.tbl ps)/\TriplesOk ps.toList/\(codeAmong pos ps.toList=none\/∃ c,codeAmong pos ps.toList=some (.ref c)/\H c=some (codeφ c q))
def SameT (P:Addr) (H H':Hp):Prop:=∀ b o,b≠P->H b=some o->H' b=some o
theorem SameT.trans {P:Addr} {H H1 H2:Hp} (a:SameT P H H1) (b:SameT P H1 H2):SameT P H H2:=fun c o n h=>b c o n (a c o n h)
theorem TabOk.same {P:Addr} {pos:Pos} {q:Str} {H H':Hp} (t:TabOk P pos q H) (s:Same H H'):TabOk P pos q H':=by
 obtain ⟨ps,a,b,c⟩:=t
 refine ⟨ps,s _ _ a,b,?_⟩
 rcases c with c | ⟨c',d,e⟩
 ·exact .inl c
 ·exact .inr ⟨c',d,s _ _ e⟩
end L2
namespace L2
open PySem PySem.Spec PyProof.Rows PySem.W
inductive DFill (H:Hp) (D:Addr):HO->List (V×V)->HO->Prop
 | nil {o:HO}:DFill H D o [] o
 | cons {o o' o'':HO} {k v:V} {r:List (V×V)} (h:DPut (upd H D o) D k v (upd H D o')) (t:DFill H D o' r o''):DFill H D o ((k,v)::r) o''
section
variable {H:Hp}
def SrcAt (K:W.Frag) (H:Hp) (h:Heap) (p it:Addr) (ys:List V) (i:Nat):Prop:=(SqL K H p ys/\h.IsListIter it p i)\/(SqT K H p ys/\h.IsTupleIter it p i)
theorem SrcAt.at {K:W.Frag} {H H':Hp} {h h':Heap} {p it:Addr} {ys:List V} {i:Nat} (x:SrcAt K H h p it ys i) (k:∀ o,h.get? it=some o->h'.get? it=some o) (hl:SqL K H p ys->SqL K H' p ys) (ht:SqT K H p ys->SqT K H' p ys):SrcAt K H' h' p it ys i:=by
 rcases x with ⟨a,b⟩ | ⟨a,b⟩
 ·exact .inl ⟨hl a,b.at k⟩
 ·exact .inr ⟨ht a,b.at k⟩
end
end L2
namespace L2
open PySem PySem.Spec PyProof.Rows
section
variable {prog:Program} {w:World} {A:Around} {E:Value->Shared->Prop} {s:Shared}
theorem getItem_tuple_whole {t sl:Addr} {items:Array Value} {vl vu:Value} {lo hi:Option Int} {Q:Value->Shared->Prop} (ht:IsTup s.heap t items) (hs:s.heap.IsSliceOf sl vl vu .none) (pl:IsPart vl lo) (pu:IsPart vu hi)
  (hw:HT.sIx items.size 0 lo=0/\HT.sIx items.size items.size hi=items.size) (h:Q (.ref t) s):wpAny (model prog w) A (getItem (.ref t) (.ref sl)) Q E s:=by
 obtain ⟨os,hos,hcs,hds⟩:=id hs
 have hTs:s.TypeIs (.ref sl) "slice":=⟨os,hos,hcs⟩
 unfold getItem
 try with_reducible refine wpAny_holding ?_
 first | refine wpAny_bind (wpAny_pure ?_) | skip
 refine wpAny_bind (wpAny_sequenceKey ht.typeIs (by decide) ?_)
 refine wpAny_bind (wpAny_callSpecial?_slot (name:=Str.ofString "__getitem__") ht.typeIs PyProof.Rows.slot_tuple_getitem
  (wpAny_call_entry PyProof.Rows.slot_tuple_getitem ht.typeIs entry_tuple_getitem ?_ (args_tuple_getitem _ _)))
 show wpAny _ _ (Builtin.Tuple.tupleItemsOf (.ref t) >>= _) _ _ s
 refine wpAny_bind (tupleItemsOf_ ht ?_)
 refine wpAny_bind (wpAny_typeOf hTs ?_)
 rw [if_pos (by decide)]
 refine wpAny_bind (HT.sliceApplied_gen hs pl pu ?_)
 show wpAny _ _ (if (((HT.sIx items.size 0 lo:Nat):Int) == 0 && (1:Int) == 1 && (HT.sIx items.size items.size hi - HT.sIx items.size 0 lo) == items.size)=true then _ else _) _ _ s
 have hyes:((((HT.sIx items.size 0 lo:Nat):Int) == 0 && (1:Int) == 1 && (HT.sIx items.size items.size hi - HT.sIx items.size 0 lo) == items.size)=true):=by
  rw [hw.1,hw.2]; simp
 rw [if_pos hyes]
 unfold Builtin.Tuple.tupleIsExact
 refine wpAny_bind ?_
 first
  | exact wpAny_bind (wpAny_typeOf ht.typeIs (wpAny_pure (by rw [if_pos (by decide)]; exact wpAny_bind (wpAny_rule (wpAny_pure ⟨_,rfl,wpAny_pure h⟩)))))
  | exact wpAny_bind (wpAny_typeOf ht.typeIs (wpAny_pure (by simp; exact wpAny_bind (wpAny_rule (wpAny_pure ⟨_,rfl,wpAny_pure h⟩)))))
end
section
variable {X:Cx}
def rSlW (K:W.Frag):V->Option Int->Option Int->Hp->VK->Prop:=fun x lo hi H Q=>∃ a xs,x=.ref a/\SqT K H a xs /\
 ((cutV xs lo hi=xs->Q (.ref a) H)/\∀ p,H p=none->Q (.ref p) (upd H p (.tup (cutV xs lo hi))))
theorem sl_tupW:SlR X (rSlW X.K):=by
 intro pins s σ H x v vl vu lo hi sl Q I rx hs pl pu h
 obtain ⟨a,xs,rfl,hx,q0,q⟩:=h
 cases rx
 obtain ⟨its,r,ht,hz⟩:=I.tuple hx
 have hlen:its.toArray.size=xs.length:=by rw [List.size_toArray]; exact r.length.symm
 refine ⟨"tuple",_,PyProof.Rows.slot_tuple_getitem.lookup,ht.typeIs,?_⟩
 by_cases hw:HT.sIx xs.length 0 lo=0/\HT.sIx xs.length xs.length hi=xs.length
 ·refine getItem_tuple_whole ht hs pl pu (by rw [hlen]; exact hw) ⟨.ref a,H,I,rfl,q0 ?_⟩
  unfold cutV
  rw [hw.1,hw.2]
  simp
 ·refine HT.getItem_tuple_cut ht hs pl pu (by rw [hlen]; exact hw) ?_ (by rw [hlen]; exact hz)
  rw [hlen]
  refine ⟨.ref s.heap.objs.size,_,I.laid (t':=s.toks) (o:=.tup (cutV xs lo hi)) (fun b ob q=>Heap.get?_push_of_some _ q) (Nat.le_refl _) ?_,rfl,q _ (I.hok.fresh (Nat.le_refl _))⟩
  exact ⟨Nat.le_trans (cutV_length xs lo hi) hz,_,(r.drop (HT.sIx xs.length 0 lo)).take (HT.sIx xs.length xs.length hi - HT.sIx xs.length 0 lo),IsTupD.new _ _⟩
end
def Met (P:Program) (w:World) (K:W.Frag) (mg:Str->Option Value) (base:Heap) (C:Addr) (m:Str) (k:Nat) (ps:List Str) (sp:Sp):Prop :=
 ∃ f fd,Cls K C/\Meth K C m f/\FnOk P w K mg base CX0 k f fd ps sp/\Binds K fd ps []
abbrev Pr:=Int×List Int
def TupK (H H':Hp):Prop:=∀ b xs,H b=some (.tup xs)->H' b=some (.tup xs)
theorem TupK.trans {H H1 H2:Hp} (a:TupK H H1) (b:TupK H1 H2):TupK H H2:=fun c xs h=>b c xs (a c xs h)
theorem Same.tk {H H':Hp} (s:Same H H'):TupK H H':=fun b xs h=>s b _ h
theorem Grow.tk {p:Addr} {H H':Hp} (g:Grow p H H') {xs:List V} (e:H p=some (.lst xs)):TupK H H':=fun b ys h=>g b _ h (ne_of h e fun z=>by cases z)
theorem SameT.tk {P:Addr} {H H':Hp} (s:SameT P H H') {ps:Array Value} (e:H P=some (.tbl ps)):TupK H H':=fun b xs h=>s b _ (ne_of h e fun z=>by cases z) h
def WordV (H:Hp) (v:V) (w:List Int):Prop:=∃ t,v=.ref t/\H t=some (.tup (w.map V.int))
def PairV (H:Hp) (v:V) (p:Pr):Prop:=∃ t tw,v=.ref t/\H t=some (.tup [.int p.1,.ref tw])/\H tw=some (.tup (p.2.map V.int))
theorem WordV.tk {H H':Hp} {v:V} {w:List Int} (h:WordV H v w) (s:TupK H H'):WordV H' v w:=by
 obtain ⟨t,e,a⟩:=h
 exact ⟨t,e,s _ _ a⟩
theorem PairV.tk {H H':Hp} {v:V} {p:Pr} (h:PairV H v p) (s:TupK H H'):PairV H' v p:=by
 obtain ⟨t,tw,e,a,b⟩:=h
 exact ⟨t,tw,e,s _ _ a,s _ _ b⟩
abbrev Words (H:Hp):List V->List (List Int)->Prop:=Paired (WordV H)
abbrev Prs (H:Hp):List V->List Pr->Prop:=Paired (PairV H)
theorem Words.tk {H H':Hp} {vs:List V} {ws:List (List Int)} (h:Words H vs ws) (s:TupK H H'):Words H' vs ws:=Paired.mapP h fun _ _ z=>z.tk s
theorem Prs.tk {H H':Hp} {vs:List V} {L:List Pr} (h:Prs H vs L) (s:TupK H H'):Prs H' vs L:=Paired.mapP h fun _ _ z=>z.tk s
theorem Paired.at {α β:Type} {F:α->β->Prop}:∀ {l:List α} {m:List β},Paired F l m->∀ {i:Nat} (h1:i < l.length) (h2:i < m.length),F l[i] m[i]
 | _,_,.nil,_,h,_=>absurd h (Nat.not_lt_zero _)
 | _,_,.cons a r,0,_,_=>a
 | _,_,.cons a r,i + 1,h1,h2=>Paired.at r (i:=i) (by simpa using h1) (by simpa using h2)
def Apart (a b:Pr):Prop:=a.1≠b.1/\¬ a.2<+:b.2/\¬ b.2<+:a.2
def Free (L:List Pr):Prop:=L.Pairwise Apart
theorem Free.get {L:List Pr} (h:Free L) {i j:Nat} (hi:i < L.length) (hj:j < L.length) (hij:i < j):Apart L[i] L[j]:=List.pairwise_iff_getElem.mp h i j hi hj hij
def oddsV (p q:Pr):V:=if p.1=q.1 then .str (Str.ofString "twice") else if p.2.take (min p.2.length q.2.length)=q.2.take (min p.2.length q.2.length) then .str (Str.ofString "begins") else .non
def TableAt (H:Hp) (a:Addr) (L:List Pr):Prop:=∃ vs,H a=some (.lst vs)/\Prs H vs L
theorem TableAt.same {H H':Hp} {a:Addr} {L:List Pr} (h:TableAt H a L) (s:Same H H'):TableAt H' a L:=by
 obtain ⟨vs,e,p⟩:=h
 exact ⟨vs,s _ _ e,p.tk s.tk⟩
def Fits (L:List Pr):Prop:=L.length < 64/\∀ p∈L,p.2≠[]/\p.2.length<=4
abbrev wk (w:List Int):List Key:=w.map Sum.inl
def BegunIs (kvs:List (List Key×V)) (ws:List (List Int)):Prop:=∀ u:List Int,(valV kvs (wk u)).isSome=decide (∃ w∈ws,u<+:w/\u.length < w.length)
def BegSo (kvs:List (List Key×V)) (ws:List (List Int)) (w:List Int) (n:Nat):Prop :=
 ∀ u:List Int,(valV kvs (wk u)).isSome=decide ((∃ x∈ws,u<+:x/\u.length < x.length)\/(u<+:w/\u.length < n))
theorem BegSo.nil (w:List Int):BegSo [] [] w 0:=by
 intro u
 rw [valV_nil]
 refine (decide_eq_false ?_).symm
 rintro (⟨x,hx,_⟩ | ⟨_,z⟩)
 ·exact nomatch hx
 ·exact absurd z (Nat.not_lt_zero _)
structure PK3 where
 v:V
 tw:Addr
 p:Pr
def PK3.At (H:Hp) (e:PK3):Prop:=∃ t,e.v=.ref t/\H t=some (.tup [.int e.p.1,.ref e.tw])/\H e.tw=some (.tup (e.p.2.map V.int))
theorem PK3.At.tk {H H':Hp} {e:PK3} (h:e.At H) (s:TupK H H'):e.At H':=by
 obtain ⟨t,a,b,c⟩:=h
 exact ⟨t,a,s _ _ b,s _ _ c⟩
def PK3.k (e:PK3):KIt:=(e.v,e.tw,e.p.2)
def wordsBy (H:Hp) (k1:List (Key×V)) (S:List Pr):Prop:=(∀ p∈S,∃ t,valV k1 (Sum.inl p.1)=some (.ref t)/\H t=some (.tup (p.2.map V.int)))/\∀ s:Int,(∀ p∈S,p.1≠s)->valV k1 (Sum.inl s)=none
def signsBy (k2:List (List Key×V)) (S:List Pr):Prop:=(∀ p∈S,valV k2 (wk p.2)=some (.int p.1))/\∀ u:List Int,(∀ p∈S,p.2≠u)->valV k2 (wk u)=none
def SizesAre (ns:List Int) (S:List Pr):Prop:=ns.Pairwise (· < ·)/\∀ n:Int,n∈ns↔∃ p∈S,(p.2.length:Int)=n
structure CodeIn (H:Hp) (tp d1 d2 d3 d4:Addr) (S:List Pr):Prop where
 pr:∃ vs,H tp=some (.tup vs)/\Prs H vs S
 wb:∃ k1,H d1=some (.dK k1)/\wordsBy H k1 S
 sb:∃ k2,H d2=some (.dT k2)/\signsBy k2 S
 bg:∃ k3,H d3=some (.dT k3)/\BegunIs k3 (S.map (·.2))
 sz:∃ ns:List Int,H d4=some (.tup (ns.map V.int))/\SizesAre ns S
def CodeAt (C:Addr) (H:Hp) (x:Addr) (S:List Pr):Prop:=∃ dx tp d1 d2 d3 d4,H x=some (.ins C dx [("pairs",.ref tp),("words_by_sign",.ref d1),("signs_by_word",.ref d2),("begun",.ref d3),("word_sizes",.ref d4)])/\CodeIn H tp d1 d2 d3 d4 S
def RisingW (S:List Pr):Prop:=S.Pairwise fun a b=>HT.lexLt a.2 b.2=true
section
variable {X:Cx} {K:W.Frag}
def rLen (K:W.Frag):List V->Hp->VK->Prop:=fun xs H Q=>∃ x n,xs=[x]/\LenV K x H n/\Q (.int n) H
theorem bk_len (h:X.K=K):CallR X (.builtin "len") (rLen K):=by subst h; exact call_len
end
def PF (ws:List (List Int)):Prop:=ws.Pairwise fun a b=>¬ a<+:b/\¬ b<+:a
def WOk (ws:List (List Int)):Prop:=PF ws/\∀ w∈ws,w≠[]/\w.length<=4
theorem PF.sub {a b:List (List Int)} (h:PF b) (s:a.Sublist b):PF a:=List.Pairwise.sublist s h
theorem WOk.sub {a b:List (List Int)} (h:WOk b) (s:a.Sublist b):WOk a:=⟨h.1.sub s,fun w hw=>h.2 w (s.subset hw)⟩
theorem zip_fst:∀ (ss:List Int) (ws:List (List Int)),((ss.zip ws).map (·.1)).Sublist ss
 | [],_=>by simp
 | _::_,[]=>by simp
 | a::r,b::t=>by rw [List.zip_cons_cons,List.map_cons]; exact (zip_fst r t).cons₂ a
theorem zip_snd:∀ (ss:List Int) (ws:List (List Int)),((ss.zip ws).map (·.2)).Sublist ws
 | [],_=>by simp
 | _::_,[]=>by simp
 | a::r,b::t=>by rw [List.zip_cons_cons,List.map_cons]; exact (zip_snd r t).cons₂ b
theorem WOk.free {ws:List (List Int)} (h:WOk ws) {ss:List Int} (nd:ss.Nodup):Free (ss.zip ws):=by
 have h1:((ss.zip ws).map (·.1)).Nodup:=nd.sublist (zip_fst ss ws)
 have h2:PF ((ss.zip ws).map (·.2)):=h.1.sub (zip_snd ss ws)
 exact (List.pairwise_map.mp h1).and (List.pairwise_map.mp h2) |>.imp fun z=>⟨z.1,z.2.1,z.2.2⟩
def WordsAt (H:Hp) (a:Addr) (ws:List (List Int)):Prop:=∃ vs,H a=some (.lst vs)/\Words H vs ws
theorem WordsAt.same {H H':Hp} {a:Addr} {ws:List (List Int)} (h:WordsAt H a ws) (s:Same H H'):WordsAt H' a ws:=by
 obtain ⟨vs,e,p⟩:=h
 exact ⟨vs,s _ _ e,p.tk s.tk⟩
def Kept (p Pt:Addr) (H H':Hp):Prop:=∀ b o,b≠p->b≠Pt->H b=some o->H' b=some o
theorem Kept.trans {p Pt:Addr} {H H1 H2:Hp} (a:Kept p Pt H H1) (b:Kept p Pt H1 H2):Kept p Pt H H2:=fun c o n m h=>b c o n m (a c o n m h)
theorem Kept.tk {p Pt:Addr} {H H':Hp} (k:Kept p Pt H H') {xs:List V} {ps:Array Value} (e:H p=some (.lst xs)) (eP:H Pt=some (.tbl ps)):TupK H H' :=
 fun b ys h=>k b _ (ne_of h e fun z=>by cases z) (ne_of h eP fun z=>by cases z) h
theorem CodeAt.same {C x:Addr} {H H':Hp} {S:List Pr} (h:CodeAt C H x S) (s:Same H H'):CodeAt C H' x S:=by
 obtain ⟨dx,tp,d1,d2,d3,d4,ex,⟨⟨vs,a1,a2⟩,⟨k1,b1,b2⟩,⟨k2,c1,c2⟩,⟨k3,f1,f2⟩,⟨k4,g1,g2⟩⟩⟩:=h
 refine ⟨dx,tp,d1,d2,d3,d4,s _ _ ex,⟨vs,s _ _ a1,Prs.tk a2 s.tk⟩,⟨k1,s _ _ b1,fun p hp=>?_,b2.2⟩,⟨k2,s _ _ c1,c2⟩,⟨k3,s _ _ f1,f2⟩,⟨k4,s _ _ g1,g2⟩⟩
 obtain ⟨t,u,v⟩:=b2.1 p hp
 exact ⟨t,u,s _ _ v⟩
theorem free_eq {S:List Pr} (h:Free S) {p q:Pr} (hp:p∈S) (hq:q∈S) {l:List Int} (p1:p.2<+:l) (q1:q.2<+:l):p=q:=by
 obtain ⟨i,hi,rfl⟩:=List.getElem_of_mem hp
 obtain ⟨j,hj,rfl⟩:=List.getElem_of_mem hq
 have z:=List.prefix_or_prefix_of_prefix p1 q1
 rcases Nat.lt_trichotomy i j with l | l | l
 ·have a:=h.get hi hj l
  rcases z with z | z
  ·exact absurd z a.2.1
  ·exact absurd z a.2.2
 ·subst l; rfl
 ·have a:=h.get hj hi l
  rcases z with z | z
  ·exact absurd z a.2.2
  ·exact absurd z a.2.1
theorem Free.perm {S L:List Pr} (h:Free L) (p:S.Perm L):Free S:=(p.pairwise_iff (fun {a b} z=>⟨z.1.symm,z.2.2,z.2.1⟩)).mpr h
theorem Fits.perm {S L:List Pr} (h:Fits L) (p:S.Perm L):Fits S:=⟨by rw [p.length_eq]; exact h.1,fun x hx=>h.2 x (p.mem_iff.mp hx)⟩
def rowOf (T:List Pr):List Int:=(T.map fun q:Pr=>q.2).flatten
def signsOf (T:List Pr):List Int:=T.map fun q:Pr=>q.1
theorem row_cons (p:Pr) (T:List Pr):rowOf (p::T)=p.2++rowOf T:=rfl
theorem row_len {S:List Pr} (h:Fits S):∀ {T:List Pr},(∀ p∈T,p∈S)->(rowOf T).length<=4 * T.length
 | [],_=>by simp [rowOf]
 | p::T,m=>by
  have a:=row_len h (T:=T) fun q hq=>m q (List.mem_cons_of_mem _ hq)
  have b:=(h.2 p (m p List.mem_cons_self)).2
  rw [row_cons,List.length_append,List.length_cons]
  omega
theorem TabOk.keep {Pt:Addr} {pos:Pos} {q:Str} {H H':Hp} (t:TabOk Pt pos q H) (k:Same H H'):TabOk Pt pos q H':=t.same k
section
variable {X:Cx} {K:W.Frag}
def rIsi (K:W.Frag):List V->Hp->VK->Prop:=fun xs H Q=>∃ x T t b,xs=[x,.ty T]/\TyOf K H x t/\W.kitOne K t (.type T)=some b/\Q (.bl b) H
theorem bk_isi (h:X.K=K):CallR X (.builtin "isinstance") (rIsi K):=by subst h; exact call_isi
end
abbrev En:=Nat×Option Int
inductive Went (S:List Pr) (ns:List Int):List En->Nat->Prop where
 | nil:Went S ns [] 0
 | lost {R:List En} {pl:Nat}:Went S ns R pl->pl < ns.length->(∀ p∈S,¬ p.2<+:ns.drop pl)->Went S ns (R++[(pl,none)]) (pl + 1)
 | word {R:List En} {pl:Nat} {p:Pr}:Went S ns R pl->p∈S->p.2<+:ns.drop pl->p.2≠[]->Went S ns (R++[(pl,some p.1)]) (pl + p.2.length)
theorem pre_lt {w ns:List Int} {pl:Nat} (h:w<+:ns.drop pl) (hw:w≠[]):pl < ns.length/\pl + w.length<=ns.length:=by
 have a:=h.length_le
 have b:=List.length_pos_iff.mpr hw
 rw [List.length_drop] at a
 omega
theorem Went.le {S:List Pr} {ns:List Int} {R:List En} {pl:Nat} (h:Went S ns R pl):pl<=ns.length:=by
 cases h with
 | nil=>exact Nat.zero_le _
 | lost _ h _=>exact h
 | word _ _ h1 h2=>exact (pre_lt h1 h2).2
theorem Went.len {S:List Pr} {ns:List Int} {R:List En} {pl:Nat} (h:Went S ns R pl):R.length<=pl:=by
 induction h with
 | nil=>exact Nat.le_refl _
 | lost _ _ _ ih=>rw [List.length_append,List.length_singleton]; omega
 | word _ _ _ h2 ih =>
  have:=List.length_pos_iff.mpr h2
  rw [List.length_append,List.length_singleton]
  omega
theorem Went.perm {S L:List Pr} {ns:List Int} {R:List En} {pl:Nat} (h:Went S ns R pl) (p:S.Perm L):Went L ns R pl:=by
 induction h with
 | nil=>exact .nil
 | lost _ h1 h2 ih=>exact .lost ih h1 fun q hq=>h2 q (p.mem_iff.mpr hq)
 | word _ h1 h2 h3 ih=>exact .word ih (p.mem_iff.mp h1) h2 h3
def oV:Option Int->V
 | some z=>.int z
 | none=>.non
def EntV (H:Hp) (v:V) (e:En):Prop:=∃ t,v=.ref t/\H t=some (.tup [.int (e.1:Nat),oV e.2])
theorem EntV.tk {H H':Hp} {v:V} {e:En} (h:EntV H v e) (s:TupK H H'):EntV H' v e:=by
 obtain ⟨t,a,b⟩:=h
 exact ⟨t,a,s _ _ b⟩
abbrev Ents (H:Hp):List V->List En->Prop:=Paired (EntV H)
theorem Ents.tk {H H':Hp} {vs:List V} {R:List En} (h:Ents H vs R) (s:TupK H H'):Ents H' vs R:=Paired.mapP h fun _ _ z=>z.tk s
def Told (S:List Pr) (ns:List Int) (R:List En):Prop:=∃ pl,Went S ns R pl/\ns.length<=pl
theorem Told.perm {S L:List Pr} {ns:List Int} {R:List En} (h:Told S ns R) (p:S.Perm L):Told L ns R:=by
 obtain ⟨pl,a,b⟩:=h
 exact ⟨pl,a.perm p,b⟩
theorem Told.len {S:List Pr} {ns:List Int} {R:List En} (h:Told S ns R):R.length<=ns.length:=by
 obtain ⟨pl,a,b⟩:=h
 have:=a.le
 have:=a.len
 omega
def lostOf (R:List En):List Int:=(R.filter fun e=>e.2.isNone).map fun e=>((e.1:Nat):Int)
theorem bk_any {X:Cx} {K:W.Frag} (h:X.K=K) (hc:X.calm=true):CallR X (.builtin "any") (fun xs H Q=>∃ (p:Addr) (bs:List Bool),xs=[.ref p]/\SqL K H p (bs.map V.bl)/\Q (.bl (bs.any id)) H):=by subst h; exact call_any hc
theorem DGet.rd {H:Hp} {a:Addr} {kvs:List (Key×V)} {k:Key} (e:Rd H a (.dK kvs)):DGet H a (kV k) (valV kvs k):=.inl ⟨kvs,k,e,rfl,rfl⟩
section
variable {M:Model} {A:Around} {Ex:Value->Shared->Prop} {s:Shared}
structure Noted (fs:List Addr) (ea T:Addr) (oe:Obj) (fl:Value) (h h':Heap):Prop where
 keep:∀ b o,b∉fs->b≠ea->h.get? b=some o->h'.get? b=some o
 slot:∀ b o,b≠ea->h.get? b=some o->∃ sl,h'.get? b=some { o with slots:=sl }
 new:h.objs.size<=T
 exc:h'.get? ea=some (oe.mapFields (·.setIfInBounds 1 (.ref T)))
 tb:∃ ob ts,h'.get? T=some ob/\ob.data=.fields ts/\ts[3]?=some fl
 ne:T≠ea
theorem not_frame {base:Heap} {l:List Env} {h:Heap} {ea:Addr} {oe:Obj} {vs:Array Value} (ff:h.FunFrames base l) (eo:h.get? ea=some oe) (od:oe.data=.fields vs):ea∉frs l:=fun z=>by
 obtain ⟨_,o,ho,hnf⟩:=ff.mem z
 rw [eo] at ho
 cases ho
 exact hnf vs od
theorem tb_entry {base:Heap} {env:Env} {outer:List Env} {L ea:Addr} {oe:Obj} {vs:Array Value} {head:Value} {flag:Bool} {Q:Unit->Shared->Prop} (fr:A.frames=some (env::outer)) (ff:s.heap.FunFrames base (env::outer)) (ef:env.frame=some L)
  (eo:s.heap.get? ea=some oe) (od:oe.data=.fields vs) (sz:1 < vs.size) (k:∀ h' T,Noted (frs (env::outer)) ea T oe (rawInt L) s.heap h'->Q () { s with heap:=h' }) :
  wpAny M A (do let a <- frameOf env; let pl <- entryPlaceOf L flag; let b <- EntryCells.newEntry head a .none (rawInt L) .none pl; setField (.ref ea) 1 b) Q Ex s:=by
 have nf:ea∉frs (env::outer):=not_frame ff eo od
 refine wpAny_bind (wpAny_frameOf_fun fr ff ef fun g1 sl1=>?_)
 refine wpAny_bind (wpAny_entryPlaceOf fun pl hpl=>?_)
 unfold EntryCells.newEntry newFields
 refine wpAny_bind (wpAny_newObj_type ?_ (hpl.sizeOk5 _ _ _ _ _))
 have e1:g1.get? ea=some oe:=(sl1.2.1 ea nf).trans eo
 generalize hO:({ cls:=.type "traceback",dict:=none,data:=.fields ([head,.ref L,.none,rawInt L,.none]++(if pl.isEmpty then List.replicate 6 Value.none else pl)).toArray }:Obj)=tbo
 have e2:(g1.push tbo).get? ea=some oe:=Heap.get?_push_of_some _ e1
 have lt:ea < g1.objs.size:=Heap.lt_size e1
 have nT:g1.objs.size≠ea:=Nat.ne_of_gt lt
 refine wpAny_setField e2 od sz (k _ g1.objs.size ?_)
 have td:tbo.data=.fields ([head,.ref L,.none,rawInt L,.none]++(if pl.isEmpty then List.replicate 6 Value.none else pl)).toArray:=by rw [<- hO]
 have gT:(g1.push tbo).get? g1.objs.size=some tbo:=Heap.get?_push_size g1 (Obj.isFreed_of_fields td)
 have ed:=Obj.data_mapFields od (·.setIfInBounds 1 (Value.ref g1.objs.size))
 refine ⟨fun b o hb hne q=>?_,fun b o hne q=>?_,Nat.le_of_eq sl1.1.symm,Heap.get?_update_self _ e2 (Obj.isFreed_of_fields ed),⟨tbo,_,?_,td,?_⟩,nT⟩
 ·rw [Heap.get?_update_other _ _ (Ne.symm hne)]
  exact Heap.get?_push_of_some _ ((sl1.2.1 b hb).trans q)
 ·obtain ⟨sl,e⟩:=sl1.2.2 b o q
  exact ⟨sl,by rw [Heap.get?_update_other _ _ (Ne.symm hne)]; exact Heap.get?_push_of_some _ e⟩
 ·rw [Heap.get?_update_other _ _ (Ne.symm nT)]
  exact gT
 ·simp
structure Gone (fs:List Addr) (ea:Addr) (T0:Option Addr) (oe:Obj) (vs:Array Value) (h h':Heap):Prop where
 keep:∀ b o,b∉fs->b≠ea->some b≠T0->h.get? b=some o->h'.get? b=some o
 slot:∀ b o,b≠ea->some b≠T0->h.get? b=some o->∃ sl,h'.get? b=some { o with slots:=sl }
 flow:∃ T vs' ob ts,h.objs.size<=T/\h'.get? ea=some { oe with data:=.fields vs' }/\vs'.size=vs.size/\vs'[1]?=some (.ref T)/\h'.get? T=some ob/\ob.data=.fields ts/\ts[3]?=some .none/\T≠ea
theorem mapF {oe:Obj} {vs:Array Value} (od:oe.data=.fields vs) (f:Array Value->Array Value):oe.mapFields f={ oe with data:=.fields (f vs) }:=by
 obtain ⟨c,d,dt,sl⟩:=oe
 cases od
 rfl
theorem flight_off {fs:List Addr} {ea T:Addr} {oe:Obj} {vs:Array Value} {L:Addr} {h0:Heap} {Q:Unit->Shared->Prop} (od:oe.data=.fields vs) (sz:1 < vs.size) (nt:Noted fs ea T oe (rawInt L) h0 s.heap)
  (k:∀ h',Gone fs ea none oe vs h0 h'->Q () { s with heap:=h' }):wpAny M A (setFlight (.ref ea) none) Q Ex s:=by
 have ex:=nt.exc
 rw [mapF od] at ex
 obtain ⟨ob,ts,eT,dT,h3⟩:=nt.tb
 have s3:3 < ts.size:=(Array.getElem?_eq_some_iff.mp h3).1
 refine wpAny_setFlight_none ex rfl (by rw [Array.getElem?_setIfInBounds_self,if_pos sz]) eT dT s3 (k _ ?_)
 have dd:=Obj.data_mapFields dT (·.setIfInBounds 3 Value.none)
 have lt0:∀ b o,h0.get? b=some o->T≠b:=fun b o q z=>absurd (Heap.lt_size q) (Nat.not_lt.mpr (by rw [<- z]; exact nt.new))
 refine ⟨fun b o hb hne _ q=>?_,fun b o hne _ q=>?_,T,vs.setIfInBounds 1 (.ref T),_,_,nt.new,?_,?_,?_,Heap.get?_update_self _ eT (Obj.isFreed_of_fields dd),dd,?_,nt.ne⟩
 ·rw [Heap.get?_update_other _ _ (lt0 b o q)]
  exact nt.keep b o hb hne q
 ·obtain ⟨sl,e⟩:=nt.slot b o hne q
  exact ⟨sl,by rw [Heap.get?_update_other _ _ (lt0 b o q)]; exact e⟩
 ·rw [Heap.get?_update_other _ _ nt.ne]
  exact ex
 ·simp
 ·rw [Array.getElem?_setIfInBounds_self,if_pos sz]
 ·rw [Array.getElem?_setIfInBounds_self,if_pos s3]
theorem noted_first {base:Heap} {env:Env} {outer:List Env} {L ea:Addr} {oe:Obj} {vs:Array Value} {Q:Unit->Shared->Prop} (fr:A.frames=some (env::outer)) (ff:s.heap.FunFrames base (env::outer)) (ef:env.frame=some L)
  (eo:s.heap.get? ea=some oe) (od:oe.data=.fields vs) (v1:vs[1]?=some .none) (k:∀ h',Gone (frs (env::outer)) ea none oe vs s.heap h'->Q () { s with heap:=h' }) :
  wpAny M A (noteFrame (.ref ea) env) (fun _ s2=>wpAny M A (setFlight (.ref ea) none) Q Ex s2) Ex s:=by
 have sz:1 < vs.size:=(Array.getElem?_eq_some_iff.mp v1).1
 unfold noteFrame
 simp only [ef]
 refine wpAny_bind (wpAny_field eo od v1 ?_)
 rw [if_neg (by decide)]
 exact tb_entry fr ff ef eo od sz fun h' T nt=>flight_off (s:={ s with heap:=h' }) od sz nt fun h2 g=>k h2 g
theorem noted_next {base:Heap} {env:Env} {outer:List Env} {L ea T0:Addr} {oe oT:Obj} {vs ts:Array Value} {Q:Unit->Shared->Prop} (fr:A.frames=some (env::outer)) (ff:s.heap.FunFrames base (env::outer)) (ef:env.frame=some L)
  (eo:s.heap.get? ea=some oe) (od:oe.data=.fields vs) (v1:vs[1]?=some (.ref T0)) (eT:s.heap.get? T0=some oT) (dT:oT.data=.fields ts) (t3:ts[3]?=some .none) (ne:T0≠ea)
  (k:∀ h',Gone (frs (env::outer)) ea (some T0) oe vs s.heap h'->Q () { s with heap:=h' }) :
  wpAny M A (noteFrame (.ref ea) env) (fun _ s2=>wpAny M A (setFlight (.ref ea) none) Q Ex s2) Ex s:=by
 have sz:1 < vs.size:=(Array.getElem?_eq_some_iff.mp v1).1
 unfold noteFrame
 simp only [ef]
 refine wpAny_bind (wpAny_field eo od v1 ?_)
 rw [if_pos (show (Value.ref T0 != Value.none)=true by simp)]
 refine wpAny_bind (wpAny_field eT dT t3 ?_)
 rw [if_neg (show ¬ ((Value.none == rawInt L)=true) by simp [rawInt])]
 refine wpAny_bind (wpAny_setField eT dT (Array.getElem?_eq_some_iff.mp t3).1 ?_)
 have oth:∀ b,b≠T0->(s.heap.update T0 (Obj.mapFields (·.setIfInBounds 3 Value.none))).get? b=s.heap.get? b:=fun b hb=>Heap.get?_update_other _ _ (Ne.symm hb)
 have nfT:T0∉frs (env::outer):=not_frame ff eT dT
 have ff2:(s.heap.update T0 (Obj.mapFields (·.setIfInBounds 3 Value.none))).FunFrames base (env::outer):=ff.of_keeps fun b o hb hnf=>⟨o,(oth b fun z=>by
  rw [z,eT] at hb
  cases hb
  exact hnf ts dT).trans hb,rfl⟩
 refine tb_entry (s:={ s with heap:=s.heap.update T0 (Obj.mapFields (·.setIfInBounds 3 Value.none)) }) fr ff2 ef ((oth ea (Ne.symm ne)).trans eo) od sz fun h' T nt=>flight_off (s:={ s with heap:=h' }) od sz nt fun h2 g=>k h2 ?_
 have szU:(s.heap.update T0 (Obj.mapFields (·.setIfInBounds 3 Value.none))).objs.size=s.heap.objs.size:=Heap.size_after_update ..
 obtain ⟨T1,vs1,ob1,ts1,z1,zr⟩:=g.flow
 exact ⟨fun b o hb hne hT q=>g.keep b o hb hne (by simp) ((oth b fun z=>hT (by rw [z])).trans q),fun b o hne hT q=>g.slot b o hne (by simp) ((oth b fun z=>hT (by rw [z])).trans q),T1,vs1,ob1,ts1,by rw [<- szU]; exact z1,zr⟩
theorem leaving_of {env:Env} {e:Value} {Q:Unit->Shared->Prop} (h:wpAny M A (noteFrame e env) (fun _ s2=>wpAny M A (setFlight e none) Q Ex s2) Ex s):wpAny M A (leaving env e) Q Ex s:=by
 unfold leaving
 exact wpAny_bind h
end
def excP (ea C:Addr) (d:Option Addr) (h:Heap):Prop:=∃ oe vs,h.get? ea=some oe/\oe.cls=.ref C/\oe.dict=d/\oe.data=.fields vs/\vs.size=6
theorem excP.ok {P:Program} {w:World} {H:Hp} {h:Heap} {ea C:Addr} {d:Option Addr} (x:excP ea C d h):ObjOk P w H h ea (.ext (excP ea C d)):=by
 obtain ⟨oe,vs,e,r⟩:=id x
 exact ⟨x,⟨oe,e⟩,fun h1 h2 ⟨o1,v1,e1,r1⟩ k=>⟨o1,v1,k _ e1,r1⟩⟩
def Flies (ea T:Addr) (h:Heap):Prop:=∃ oe vs oT ts,h.get? ea=some oe/\oe.data=.fields vs/\vs[1]?=some (.ref T)/\h.get? T=some oT/\oT.data=.fields ts/\ts[3]?=some .none/\T≠ea
def CXE (P:Program) (w:World):CXT:=fun outer H s E e s'=>∃ (ea C T:Addr) (d:Option Addr) (H':Hp),e=.ref ea/\s'.os=s.os/\AllBare s'.gens/\Un (frs outer) [] H H' s.heap s'.heap/\HOk P w H' s'.heap /\
 H' ea=some (.ext (excP ea C d))/\s.heap.objs.size<=ea/\H' T=none/\s.heap.objs.size<=T/\Flies ea T s'.heap/\E (.ref C) d H'
section
variable {X:Cx} {pins:List (Addr×Obj)} {σ:St} {H:Hp} {s:Shared}
theorem Inv.gone {ea C:Addr} {d:Option Addr} {T0:Option Addr} {oe:Obj} {vs:Array Value} {h':Heap} (I:Inv X pins σ H s) (hx:X.ex=[]) (hst:∀ b∈frs X.stack,b∈X.fs\/X.s₀.heap.objs.size<=b) (hea:H ea=some (.ext (excP ea C d))) (eo:s.heap.get? ea=some oe) (od:oe.data=.fields vs)
  (hT:∀ T,T0=some T->H T=none/\X.s₀.heap.objs.size<=T) (g:Gone (frs X.stack) ea T0 oe vs s.heap h'):Un X.fs [] X.H₀ H X.s₀.heap h'/\HOk X.prog X.w H h':=by
 have u:=I.base
 rw [hx] at u
 have ub:∀ b o,X.s₀.heap.get? b=some o->some b≠T0:=fun b o q z=>by
  have:=(hT b z.symm).2
  exact absurd (Heap.lt_size q) (Nat.not_lt.mpr this)
 refine ⟨⟨fun b o q n hb _=>?_,fun b o q n hb _=>?_,fun b o q n _=>u.free b o q n (by simp),fun b o q _=>?_,u.tups,u.frzs,u.tbls⟩,fun b o q=>?_⟩
 ·have n2:=u.free b o q n (by simp)
  have ne:b≠ea:=fun z=>by rw [z,hea] at n2; cases n2
  refine g.keep b o (fun z=>?_) ne (ub b o q) (u.keep b o q n hb (by simp))
  rcases hst b z with z | z
  ·exact hb z
  ·exact absurd (Heap.lt_size q) (Nat.not_lt.mpr z)
 ·have n2:=u.free b o q n (by simp)
  have ne:b≠ea:=fun z=>by rw [z,hea] at n2; cases n2
  obtain ⟨sl,e⟩:=u.slot b o q n hb (by simp)
  obtain ⟨sl2,e2⟩:=g.slot b _ ne (ub b o q) e
  exact ⟨sl2,e2⟩
 ·obtain ⟨o',e⟩:=u.there b o q (by simp)
  by_cases ne:b=ea
  ·subst ne
   obtain ⟨_,_,_,_,_,e3,_⟩:=g.flow
   exact ⟨_,e3⟩
  ·obtain ⟨sl,e2⟩:=g.slot b o' ne (ub b o q) e
   exact ⟨_,e2⟩
 ·have nfr:∀ c y,H c=some y->c∉frs X.stack:=fun c y r z=>by rw [I.stkFree c z] at r; cases r
  have nT:∀ c y,H c=some y->some c≠T0:=fun c y r z=>by rw [(hT c z.symm).1] at r; cases r
  by_cases ne:b=ea
  ·subst ne
   rw [hea] at q
   cases q
   obtain ⟨⟨o1,v1,a1,a2,a3,a4,a5⟩,_,_⟩:=I.hok b _ hea
   obtain ⟨T,vs',ob,ts,_,e3,e4,_⟩:=g.flow
   rw [eo] at a1
   cases a1
   rw [od] at a4
   cases a4
   exact excP.ok ⟨_,vs',e3,a2,a3,rfl,by rw [e4]; exact a5⟩
  ·refine (I.hok b o q).stay (fun c v hc r=>?_) (fun _ z=>z) fun _ _ z=>z
   rcases hc with hc | hc
   ·rw [hc] at r ⊢
    exact g.keep b v (nfr b o q) ne (nT b o q) r
   ·have ne2:c≠ea:=fun z=>by rw [z,hea] at hc; cases hc
    exact g.keep c v (nfr c _ hc) ne2 (nT c _ hc) r
end
section
variable {P:Program} {w:World} {K:W.Frag} {mg:Str->Option Value} {base:Heap} {N:List Str} {qual:Str} {scope:Scope} {f:Addr} {cd:Value} {A:Around} {outer:List Env} {s:Shared} {H:Hp} {E:XK}
abbrev cxE (P:Program) (w:World) (K:W.Frag) (mg:Str->Option Value) (base:Heap) (N:List Str) (qual:Str) (scope:Scope) (f:Addr) (cd:Value) (A:Around) (outer:List Env) (s:Shared) (H:Hp) (E:XK):Cx:=cxOf (CXE P w) P w K mg base N qual scope f cd A outer s H E
theorem cxE_stack:∀ b∈frs (cxE P w K mg base N qual scope f cd A outer s H E).stack,b∈(cxE P w K mg base N qual scope f cd A outer s H E).fs\/(cxE P w K mg base N qual scope f cd A outer s H E).s₀.heap.objs.size<=b:=fun b hb=>by
 rcases List.mem_cons.mp (show b∈s.heap.objs.size::frs outer from hb) with z | z
 ·exact .inr (Nat.le_of_eq z.symm)
 ·exact .inl z
def Lies (ea:Addr) (T0:Option Addr) (h:Heap):Prop:=match T0 with
 | none=>∃ oe vs,h.get? ea=some oe/\oe.data=.fields vs/\vs[1]?=some .none
 | some T=>Flies ea T h
theorem xe_of {pins:List (Addr×Obj)} {σ:St} {H2:Hp} {s2:Shared} {ea C:Addr} {d T0:Option Addr} (I:Inv (cxE P w K mg base N qual scope f cd A outer s H E) pins σ H2 s2) (hea:H2 ea=some (.ext (excP ea C d))) (lea:s.heap.objs.size<=ea)
  (hT:∀ T,T0=some T->H2 T=none/\s.heap.objs.size<=T) (fl:Lies ea T0 s2.heap) (q:E (.ref C) d H2):(cxE P w K mg base N qual scope f cd A outer s H E).xe (.ref ea) s2:=by
 have fin:∀ (oe:Obj) (vs:Array Value) (h':Heap),s2.heap.get? ea=some oe->oe.data=.fields vs->Gone (frs (cxE P w K mg base N qual scope f cd A outer s H E).stack) ea T0 oe vs s2.heap h'->CXE P w outer H s E (.ref ea) { s2 with heap:=h' }:=fun oe vs h' eo od g=>by
  obtain ⟨un,hok⟩:=I.gone rfl cxE_stack hea eo od hT g
  obtain ⟨T,vs',ob,ts,z1,z2,z3,z4,z5,z6,z7,z8⟩:=g.flow
  exact ⟨ea,C,T,d,H2,rfl,I.os,I.bare,un,hok,hea,lea,I.hok.fresh z1,Nat.le_trans I.sz z1,⟨_,vs',ob,ts,z2,rfl,z4,z5,z6,z7,z8⟩,q⟩
 show wpAny (model P w) _ (leaving _ _) _ _ _
 cases T0 with
 | none =>
  obtain ⟨oe,vs,eo,od,v1⟩:=fl
  exact leaving_of (noted_first (base:=base) I.ok.frames I.stack rfl eo od v1 fun h' g=>fin oe vs h' eo od g)
 | some T =>
  obtain ⟨oe,vs,oT,ts,eo,od,v1,eT,dT,t3,ne⟩:=fl
  exact leaving_of (noted_next (base:=base) I.ok.frames I.stack rfl eo od v1 eT dT t3 ne fun h' g=>fin oe vs h' eo od g)
theorem passE:Passes (CXE P w) (cxE P w K mg base N qual scope f cd A outer s H E) E:=by
 intro pins σ H1 s1 e s2 I hx
 obtain ⟨ea,C,T,d,H2,rfl,os,bare,un,hok,hea,lea,nT,lT,fl,q⟩:=hx
 have I2:Inv (cxE P w K mg base N qual scope f cd A outer s H E) pins σ H2 s2:=I.call' os un hok bare (ch:=[]) fun b z=>absurd z (by simp)
 exact xe_of (T0:=some T) I2 hea (Nat.le_trans I.sz lea) (fun T' z=>by cases z; exact ⟨nT,Nat.le_trans I.sz lT⟩) fl q
end
def CalE (P:Program) (w:World) (K:W.Frag) (mg:Str->Option Value) (base:Heap) (x:Str) (k:Nat) (ps:List Str) (sp:Sp):Prop :=
 ∃ f fd,FnOk P w K mg base (CXE P w) k f fd ps sp/\mg x=some (.ref f)/\W.keepIn K (.ref f)=true/\Binds K fd ps []
section
variable {X:Cx} {E:XK} {k:Nat} {ps:List Str} {sp:Sp} {x:Str} {p pos:Pos} {e:Expr} {es:List Expr} {t:TA}
theorem pe_calE (C:CalE X.prog X.w X.K X.mg X.base x k ps sp) (hr:Room k X.A) (hg:Gl X x) (hx:Passes (CXE X.prog X.w) X E) (ha:PA X (e::es) t) (hdb:(x == ("__debug__":Str))=false:=by decide)
  (he:starEach (e::es) X.env=(false,eval e X.env)::starEach es X.env:=by rfl) (hpl:(backTo pos (starEach es X.env)).any (·.1)=false:=by rfl):PE X (.Call (.Name x p) (e::es) [] pos) (tCall sp [] E t):=by
 obtain ⟨f,fd,F,hm,hk,hb⟩:=C
 exact pe_call F hr hg hm hk hb .nil hx ha hdb he hpl
end
section
variable {P:Program} {w:World} {K:W.Frag} {mg:Str->Option Value} {base:Heap}
theorem Fun.okE {x qual:Str} {st:Stmt} {f:Addr} {fd:FuncData} {N ps:List Str} {k:Nat} {sp:Sp} (F:Fun K x qual st f fd) (S:FnScope N ps (defScope st)) (len:∀ vs H Q E,sp vs H Q E->vs.length=ps.length)
  (hbody:∀ (cdv:Value) (A:Around) (outer:List Env) (s:Shared) (H:Hp) (vs:List V) (Q:VK) (E:XK),Room k (A.deeper (envOfC qual (defScope st) s.heap.objs.size f cdv))->sp vs H Q E ->
   ∃ t,PSs (cxE P w K mg base N qual (defScope st) f cdv A outer s H E) (defBody st) t/\t { nx:=fun _ H'=>Q .non H',rt:=Q } (start N vs) H):FnOk P w K mg base (CXE P w) (k + 1) f fd ps sp:=by
 obtain ⟨oc,od,kV,doc,pm,an,cdv,ct,osl,rfl,lk,hcd⟩:=F.ex
 exact fn_of lk hcd S len fun A outer s H vs Q E hr hsp=>hbody cdv A outer s H vs Q E hr hsp
end
end L2
namespace L2
open PySem PySem.Spec PyProof.Rows PySem.W
abbrev veB:List Value:=[.type "ValueError",.type "Exception",.type "BaseException",.type "object"]
def excI (K:Frag) (C fI:Addr):Bool:=match K.lookup C with
 | some ⟨.type "type",_,.cls cd,sl⟩=>(match cd.mro,sl.toList with
  | .ref C'::bm,[_,_,_,_,some (.builtin n),_]=>C' == C && (n == "ValueError.__new__" && (!cd.hasDel && (tailIn K veB bm && (nsOkIn K cd.ns && cd.hasDict))))
  | _,_=>false)
 | _=>false
def iniOf (K:Frag) (C:Addr):Option (Option Value):=match K.lookup C with
 | some ⟨_,_,.cls cd,_⟩=>nsIn K cd.ns "__init__"
 | _=>none
def ExcA (h:Heap) (C:Addr) (o:Option (Option Value)):Prop:=∃ bm N nm q bs sn sub ab col dd k0 k1 k2 k3 k5 mN,h.get? C=some (excClassObj nm q C N bs bm true sn sub ab col dd k0 k1 k2 k3 k5 "ValueError.__new__")/\h.Ns N mN/\(∀ z,o=some z->mN "__init__"=z)/\OwnTail h veB bm
def ExcI (h:Heap) (C fI:Addr):Prop:=∃ bm N nm q bs sn sub ab col dd k0 k1 k2 k3 k5 mN,h.get? C=some (excClassObj nm q C N bs bm true sn sub ab col dd k0 k1 k2 k3 k5 "ValueError.__new__")/\h.Ns N mN/\mN "__init__"=some (.ref fI)/\OwnTail h veB bm
theorem ns_some_of {K:Frag} {h:Heap} {N:Addr} {mg:Str->Option Value} {n:Str} {v:Value} (X:K.In h) (G:h.Ns N mg) (e:nsIn K N n=some (some v)):mg n=some v:=by
 obtain ⟨o,es,ep,ho,hd,_,hf⟩:=G
 unfold nsIn at e
 split at e
 ·rename_i c d es' n' sl q
  have z:=X _ _ q
  rw [ho] at z
  cases z
  cases hd
  split at e
  ·rename_i y he
   injection e with e
   rw [<- hf]
   unfold nsFind findBy
   rw [<- Array.find?_toList,he]
   exact e
  ·rename_i he
   split at e <;> cases e
 ·cases e
theorem ns_none_of {K:Frag} {h:Heap} {N:Addr} {mg:Str->Option Value} {n:Str} (X:K.In h) (G:h.Ns N mg) (e:nsIn K N n=some none):mg n=none:=by
 obtain ⟨o,es,ep,ho,hd,_,hf⟩:=G
 unfold nsIn at e
 split at e
 ·rename_i c d es' n' sl q
  have z:=X _ _ q
  rw [ho] at z
  cases z
  cases hd
  split at e
  ·cases e
  ·rename_i he
   rw [<- hf]
   unfold nsFind findBy
   rw [<- Array.find?_toList,he]
   rfl
 ·cases e
theorem excA_of {K:Frag} {h:Heap} {C fI:Addr} (X:K.In h) (q:excI K C fI=true):ExcA h C (iniOf K C):=by
 unfold excI at q
 split at q
 ·rename_i dd cd sl ho
  split at q
  ·rename_i C' bm k0 k1 k2 k3 n k5 hm hs
   have hin:iniOf K C=nsIn K cd.ns "__init__":=by unfold iniOf; rw [ho]
   simp only [Bool.and_eq_true,beq_iff_eq,Bool.not_eq_true'] at q
   obtain ⟨rfl,rfl,hdel,ht,hok,hdi⟩:=q
   obtain ⟨nm,bs,mro,ns,qn,hd,sn,sub,ab,col,del⟩:=cd
   dsimp only at hm hdel hok hdi hin
   subst hm hdel hdi
   have hsl:sl=#[k0,k1,k2,k3,some (.builtin "ValueError.__new__"),k5]:=by
    obtain ⟨l⟩:=sl
    simp only at hs
    rw [hs]
   subst hsl
   refine ⟨bm,ns,nm,qn,bs,sn,sub,ab,col,dd,k0,k1,k2,k3,k5,_,X _ _ ho,.of_isNs (isNs_of_in X hok),fun z hz=>?_,tail_of_in X ht⟩
   rw [hin] at hz
   cases z with
   | none=>exact ns_none_of X (.of_isNs (isNs_of_in X hok)) hz
   | some v=>exact ns_some_of X (.of_isNs (isNs_of_in X hok)) hz
  ·cases q
 ·cases q
theorem excI_of {K:Frag} {h:Heap} {C fI:Addr} (X:K.In h) (q:excI K C fI=true) (hi:iniOf K C=some (some (.ref fI))):ExcI h C fI:=by
 obtain ⟨bm,N,nm,q,bs,sn,sub,ab,col,dd,k0,k1,k2,k3,k5,mN,cO,cN,cI,T⟩:=excA_of X q
 exact ⟨bm,N,nm,q,bs,sn,sub,ab,col,dd,k0,k1,k2,k3,k5,mN,cO,cN,cI _ hi,T⟩
section
variable {prog:Program} {w:World} {A:Around} {E:Value->Shared->Prop} {h:Heap} {g:Array GenState} {d:Drawn} {t:Nat} {os:OsState}
theorem tcall_exc {C fI:Addr} {oI:Obj} {rest:List Value} {Q:PySem.Fin->Shared->Prop} (x:ExcI h C fI) (fo:h.get? fI=some oI) (fc:oI.cls=.type "function") (sz:rest.length<=sizeLine)
  (k:∀ h',Heap.MadeExcOf h h' (h.objs.size + 1) (.ref C) rest->wpAny (model prog w) A (call (.ref fI) (.ref (h.objs.size + 1)::rest)) (fun r s'=>r=.none/\Q (.done (.ret (.ref (h.objs.size + 1)))) s') E ⟨h',g,d,t,os⟩) :
  wpAny (model prog w) A (Builtin.«type.__call__» ⟨.ref C::rest,[]⟩) Q E ⟨h,g,d,t,os⟩:=by
 obtain ⟨bm,N,nm,q,bs,sn,sub,ab,col,dd,k0,k1,k2,k3,k5,mN,cO,cN,cI,T⟩:=x
 have F:=PySem.F.excBase_ValueError
 repeat (first | wp_step | with_reducible refine wpAny_loadPart_at cO ?_ | with_reducible refine wpAny_madeBy_exc cO ?_)
 refine codeAny_call_builtin_code (Code.quiet_builtin _ F.quiet) (wpAny_check_new_subT F T cO ?_)
 refine codeAny_exc_new_subT F T cO ?_ sz
 show wpAny _ _ _ _ _ _
 generalize hO1:({ cls:=.type "tuple",data:=.seq rest.toArray }:Obj)=o1
 generalize hO2:({ cls:=.ref C,data:=.fields #[.ref h.objs.size,.none,.none,.none,.bool false,.none] }:Obj)=o2
 have kp:∀ b o,h.get? b=some o->((h.push o1).push o2).get? b=some o:=fun b o e=>Heap.get?_push_of_some _ (Heap.get?_push_of_some _ e)
 have f1:o1.isFreed=false:=by rw [<- hO1]; rfl
 have f2:o2.isFreed=false:=by rw [<- hO2]; rfl
 have at2:((h.push o1).push o2).get? (h.objs.size + 1)=some o2:=by
  have:=Heap.get?_push_size (h.push o1) f2
  rwa [Heap.size_push] at this
 have c2:o2.cls=.ref C:=by rw [<- hO2]
 have self:(Value.ref C::bm).contains (.ref C)=true:=by simp
 have cO1:=kp _ _ cO
 have cN1:=cN.keeps kp
 have T1:=T.keeps kp
 unfold isInstance
 repeat (first | (with_reducible refine wpAny_loadPart_at at2 ?_; rw [c2]) | (with_reducible refine wpAny_isSubtype_exc cO1 ?_; rw [self]) | wp_step)
 show wpAny _ _ (typeLookup (.ref C) _) _ _ _
 refine wpAny_typeLookup_tail cO1 cN1 T1 F.mroIs F.init.lookup ?_
 rw [cI]
 refine wpAny_holding (wpAny_bind ?_)
 unfold bindSpecial
 refine wpAny_bind (wpAny_typeOf (T:="function") ⟨_,kp _ _ fo,fc⟩ ?_)
 rw [if_pos (by decide)]
 have made:Heap.MadeExcOf h ((h.push o1).push o2) (h.objs.size + 1) (.ref C) rest:=⟨kp,Heap.get?_none_of_le (Nat.le_succ _),h.objs.size,by rw [at2,<- hO2],Heap.get?_none_of_le (Nat.le_refl _),by rw [hO1]; exact Heap.get?_push_of_some _ (Heap.get?_push_size h f1)⟩
 refine wpAny_pure (wpAny_bind (wpAny_mono (k _ made) (fun r s' hr=>?_) fun _ _ z=>z))
 obtain ⟨rfl,hQ⟩:=hr
 wp_walk
 exact hQ
theorem call_exc {C fI:Addr} {oI:Obj} {rest:List Value} {Q:Value->Shared->Prop} (x:ExcI h C fI) (fo:h.get? fI=some oI) (fc:oI.cls=.type "function") (sz:rest.length<=sizeLine)
  (k:∀ h',Heap.MadeExcOf h h' (h.objs.size + 1) (.ref C) rest->wpAny (model prog w) (A.under (.builtin "type.__call__" ⟨.ref C::rest,[]⟩)) (call (.ref fI) (.ref (h.objs.size + 1)::rest)) (fun r s'=>r=.none/\Q (.ref (h.objs.size + 1)) s') E ⟨h',g,d,t,os⟩) :
  wpAny (model prog w) A (call (.ref C) rest) Q E ⟨h,g,d,t,os⟩:=by
 obtain ⟨bm,N,nm,q,bs,sn,sub,ab,col,dd,k0,k1,k2,k3,k5,mN,cO,cN,cI,T⟩:=id x
 have z1:=tc_lookup
 have z2:=tc_bind (.ref C)
 have ty:(⟨h,g,d,t,os⟩:Shared).TypeIs (.ref C) "type":=⟨_,cO,rfl⟩
 refine wpAny_call (codeAny_of_tree ?_)
 show wpAny _ _ (callAny (.ref C) _) _ _ _
 repeat (any_goals (first | assumption | wp_step | with_reducible refine wpAny_loadPart_at cO ?_))
 refine ⟨rfl,?_⟩
 exact codeAny_call_builtin_at (Code.quiet_builtin _ (by decide +kernel)) entry_typeCall (wpAny_check_type_call_sub cO (tcall_exc x fo fc sz k))
end
end L2
namespace L2
open PySem PySem.Spec PyProof.Rows PySem.W PySem.Builtin PySem.Builtin.ObjectAttr
theorem refuse_ve (self:Value):refuseLoop self "__setattr__" veB=pure ():=by kernel_rfl
theorem refuse_tail {h:Heap} (self:Value) {bm:List Value} (T:OwnTail h veB bm):refuseLoop self "__setattr__" bm=pure ():=by
 induction T with
 | base=>exact refuse_ve self
 | own _ _ _ _ ih=>rw [refuseLoop_ref]; exact ih
section
variable {prog:Program} {w:World} {A:Around} {E:Value->Shared->Prop} {s:Shared} {K:Frag} {C fI a:Addr}
theorem osa_exc {ox:Obj} {od:Option Obj} {name:Str} {tk:Tok} {v:Value} {R:Result->Shared->Prop} (X:K.In s.heap) (q:excI K C fI=true) (I:InstAt s.heap a ox C od) (ho:mroIn K C (.type "object")=some true) (ht:findIn K (.ref C) name=some none)
  (k:wpAny (model prog w) A.in1 (storeInOwnDict (.ref a) (.ref C) (.str name tk) name v false) (fun fin s'=>match fin with | .done f=>R (.ok f) s' | .again c'=>c'.quiet=true/\codeAny (model prog w) A c' R s') (fun e s'=>R (.error e) s') s) :
  codeAny (model prog w) A (.call (.builtin "object.__setattr__") ⟨[.ref a,.str name tk,v],[]⟩) R s:=by
 have SF:=PySem.F.store_object
 have sub:Looks (model prog w) s.heap (isInstance (.ref a) (.type "object")) true:=I.type.andThen (looks_mroIn X ho)
 refine codeAny_call_builtin SF.slot.plain SF.entry (@check_slot (model prog w) _ _ s "object.__setattr__" "object" "__setattr__" (.ref a) [.str name tk,v] [] _ SF.kind SF.split sub (SF.args (.ref a) (.str name tk) v) ?_)
 obtain ⟨bm,N,nm,qn,bs,sn,sub',ab,col,dd,k0,k1,k2,k3,k5,mN,cO,cN,cI,T⟩:=excA_of X q
 rw [osa_eq,refuse_eq]
 refine wpAny_bind (wpAny_bind (I.type.here (wpAny_bind ?_)))
 obtain ⟨hh,g,d,t,os⟩:=s
 refine wpAny_mroOf_exc cO ?_
 rw [refuseLoop_ref,refuse_tail _ T]
 refine wpAny_pure (wpAny_bind (I.type.here (wpAny_bind ((looks_findIn X ht).here (wpAny_bind ?_)))))
 show wpAny _ _ (pure none) _ _ _
 refine wpAny_pure ?_
 exact k
theorem set_exc0 {ox:Obj} {vs:Array Value} {name:Str} {v:Value} {Q:Unit->Shared->Prop} (X:K.In s.heap) (q:excI K C fI=true) (ho:mroIn K C (.type "object")=some true) (ht:findIn K (.ref C) name=some none)
  (hs:findIn K (.ref C) "__setattr__"=some (some (.builtin "object.__setattr__"))) (ao:s.heap.get? a=some ox) (cl:ox.cls=.ref C) (dn:ox.dict=none) (od:ox.data=.fields vs)
  (k:∀ h',h'.Ns1 s.heap.objs.size (fun y=>if y=name then some v else none)->h'.get? a=some { ox with dict:=some s.heap.objs.size }->(∀ b o,b≠a->s.heap.get? b=some o->h'.get? b=some o)->Q () { s with heap:=h',toks:=s.toks + 2 }) :
  wpAny (model prog w) A (setAttr (.ref a) name v) Q E s:=by
 have I:InstAt s.heap a ox C none:=⟨ao,cl,by obtain ⟨c,dd,dt,sl⟩:=ox; cases od; rfl,by rw [dn]; trivial⟩
 refine W.set_plain X I hs (osa_exc (s:={ s with toks:=s.toks + 1 }) X q I ho ht ?_)
 obtain ⟨bm,N,nm,qn,bs,sn,sub',ab,col,dd,k0,k1,k2,k3,k5,mN,cO,cN,cI,T⟩:=excA_of X q
 obtain ⟨c,di,dt,sl⟩:=ox
 dsimp only at cl dn od
 subst cl dn od
 refine wpAny_bind (wpAny_pure (wpAny_bind (wpAny_bind (wpAny_loadPart ao (wpAny_bind ?_)))))
 unfold classData
 refine wpAny_bind (wpAny_load cO (wpAny_pure ?_))
 show wpAny _ _ (alloc { cls:=.type "dict",data:=.dict #[] } >>= fun d=>update a (fun o=>{ o with dict:=some d }) >>= fun _=>dictMade (.ref C) a d) _ _ _
 refine wpAny_bind (wpAny_alloc ?_)
 have ao2:(s.heap.push { cls:=.type "dict",data:=.dict #[] }).get? a=some _:=Heap.get?_push_of_some _ ao
 refine wpAny_bind (wpAny_update ao2 ?_)
 refine wpAny_pure ?_
 refine wpAny_bind (wpAny_pure (wpAny_bind ?_))
 have fz:(s.heap.push { cls:=.type "dict",data:=.dict #[] }).objs.size=s.heap.objs.size + 1:=Heap.size_push ..
 have ne:a≠s.heap.objs.size:=Nat.ne_of_lt (Heap.lt_size ao)
 generalize hU:(s.heap.push { cls:=.type "dict",data:=.dict #[] }).update a (fun o=>{ o with dict:=some s.heap.objs.size })=hp
 have aU:hp.get? a=some { cls:=.ref C,dict:=some s.heap.objs.size,data:=.fields vs,slots:=sl }:=by
  rw [<- hU]
  exact Heap.get?_update_self _ ao2 rfl
 have oU:∀ b o,b≠a->(s.heap.push { cls:=.type "dict",data:=.dict #[] }).get? b=some o->hp.get? b=some o:=fun b o hb e=>by
  rw [<- hU,Heap.get?_update_other _ _ (Ne.symm hb)]
  exact e
 have dU:hp.get? s.heap.objs.size=some { cls:=.type "dict",data:=.dict #[] }:=oU _ _ (Ne.symm ne) (Heap.get?_push_size s.heap rfl)
 have hn0:hp.Ns1 s.heap.objs.size (fun _=>none):=⟨_,#[],_,dU,rfl,(fun e he=>absurd he (by simp)),by first | trivial | exact List.Pairwise.nil | (intro x; simp),fun _=>rfl⟩
 have w0:PySem.Within (fun _:Str=>(none:Option Value)) []:=fun n hn=>absurd rfl hn
 refine wpAny_nsSet1 (s:={ s with heap:=hp,toks:=s.toks + 1 }) hn0 fun h' hn2 hs2=>?_
 obtain ⟨oD,esD,epD,hoD,hdD,hcD⟩:=hn2.count (PySem.Within.cons name v w0)
 refine wpAny_bind (wpAny_lookBehind hoD (by rw [hdD]; exact pastItsLine_dict (Nat.le_trans hcD (by show 1<=sizeLine + 1; omega))) ?_)
 exact wpAny_pure (k h' hn2 ((hs2.2 _ ne).trans aU) fun b o hb e=>(hs2.2 b (fun z=>by
  rw [z] at e
  exact absurd (Heap.lt_size e) (Nat.lt_irrefl _))).trans (oU b o hb (Heap.get?_push_of_some _ e)))
theorem set_exc1 {ox:Obj} {vs:Array Value} {name:Str} {v:Value} {dx:Addr} {mA:Str->Option Value} {ns:List Str} {Q:Unit->Shared->Prop} (X:K.In s.heap) (q:excI K C fI=true) (ho:mroIn K C (.type "object")=some true) (ht:findIn K (.ref C) name=some none)
  (hs:findIn K (.ref C) "__setattr__"=some (some (.builtin "object.__setattr__"))) (ao:s.heap.get? a=some ox) (cl:ox.cls=.ref C) (dn:ox.dict=some dx) (od:ox.data=.fields vs) (hn:s.heap.Ns1 dx mA) (ne:dx≠a) (hw:PySem.Within mA ns) (sz:ns.length<=1000)
  (k:∀ h',h'.Ns1 dx (fun y=>if y=name then some v else mA y)->Heap.SameBut dx s.heap h'->Q () { s with heap:=h',toks:=s.toks + 2 }) :
  wpAny (model prog w) A (setAttr (.ref a) name v) Q E s:=by
 obtain ⟨odx,_,_,edx,_⟩:=id hn
 have I:InstAt s.heap a ox C (some odx):=⟨ao,cl,by obtain ⟨c,dd,dt,sl⟩:=ox; cases od; rfl,by rw [dn]; exact edx⟩
 refine W.set_plain X I hs (osa_exc (s:={ s with toks:=s.toks + 1 }) X q I ho ht ?_)
 obtain ⟨bm,N,nm,qn,bs,sn,sub',ab,col,dd,k0,k1,k2,k3,k5,mN,cO,cN,cI,T⟩:=excA_of X q
 obtain ⟨c,di,dt,sl⟩:=ox
 dsimp only at cl dn od
 subst cl dn od
 refine wpAny_bind (wpAny_pure (wpAny_bind (wpAny_bind (wpAny_loadPart ao (wpAny_bind ?_)))))
 unfold classData
 refine wpAny_bind (wpAny_load cO (wpAny_pure ?_))
 refine wpAny_pure (a:=some dx) (wpAny_bind (wpAny_pure (wpAny_bind ?_)))
 refine wpAny_nsSet1 (s:={ s with toks:=s.toks + 1 }) hn fun h' hn2 hs2=>?_
 obtain ⟨oD,esD,epD,hoD,hdD,hcD⟩:=hn2.count (PySem.Within.cons name v hw)
 refine wpAny_bind (wpAny_lookBehind hoD (by rw [hdD]; exact pastItsLine_dict (Nat.le_trans hcD (by rw [List.length_cons,sizeLine_eq]; omega))) ?_)
 exact wpAny_pure (k h' hn2 hs2)
end
section
variable {prog:Program} {w:World} {A:Around} {E:Value->Shared->Prop} {s:Shared} {K:Frag} {C a:Addr}
theorem get_exc {expr:Bool} {ox:Obj} {vs:Array Value} {name:Str} {v:Value} {dx:Addr} {mA:Str->Option Value} {Q:Value->Shared->Prop} (X:K.In s.heap) (hh:hasDictIn K C=true) (hb:mroIn K C (.type "BaseException")=some true)
  (g1:findIn K (.ref C) "__getattribute__"=some (some (.builtin "BaseException.__getattribute__"))) (g2:findIn K (.ref C) "__getattr__"=some none) (ht:findIn K (.ref C) name=some none)
  (ao:s.heap.get? a=some ox) (cl:ox.cls=.ref C) (dn:ox.dict=some dx) (od:ox.data=.fields vs) (hn:s.heap.Ns1 dx mA) (hv:mA name=some v) (hv':handedIn v=true) (k:Q v { s with toks:=s.toks + 1 }) :
  wpAny (model prog w) A (getAttr (.ref a) name expr) Q E s:=by
 obtain ⟨odx,eo,hl⟩:=lookIn_ns hn
 have I:InstAt s.heap a ox C (some odx):=⟨ao,cl,by obtain ⟨c,dd,dt,sl⟩:=ox; cases od; rfl,by rw [dn]; exact eo⟩
 have L0:=I.type (M:=model prog w)
 have L1:=looks_findIn (M:=model prog w) X g1
 have L2:=looks_findIn (M:=model prog w) X g2
 have L3:=looks_find (M:=model prog w) X I (findObj_own hh ht rfl (by rw [hl,hv]))
 have L4:Looks (model prog w) s.heap (isInstance (.ref a) (.type "BaseException")) true:=I.type.andThen (looks_mroIn X hb)
 obtain ⟨hp,g,d,t,os⟩:=s
 unfold getAttr getAttrBy
 refine wpAny_bind (wpAny_mkText (wpAny_holding (wpAny_bind (L0.at (wpAny_bind (L1.at ?_))))))
 show wpAny _ _ (getAttrByItsOwn (.ref a) (.str name t) (.ref C) (.builtin "BaseException.__getattribute__") true expr) _ _ _
 unfold getAttrByItsOwn hookBefore
 rw [if_pos (show onTheHeap (Value.ref C)=true from rfl)]
 refine wpAny_bind (L2.at (wpAny_bind (wpAny_attempt (wpAny_holding ?_))))
 unfold callGetattribute
 rw [if_neg (show ¬ ((expr && onTheHeap (Value.builtin "BaseException.__getattribute__"))=true) by cases expr <;> exact Bool.false_ne_true)]
 unfold boundAndCalled
 have ga:=PySem.F.attrBase_ValueError.ga
 rw [ga.bind]
 refine wpAny_bind (wpAny_pure ?_)
 show wpAny _ _ (call (Value.builtin "BaseException.__getattribute__") [.ref a,.str name t]) _ _ _
 refine wpAny_call (codeAny_call_builtin ga.plain F.entry_bexc_ga ?_)
 have hk:builtinKind "BaseException.__getattribute__"=some .slot:=by decide +kernel
 have hsp:splitId "BaseException.__getattribute__"=some ("BaseException", "__getattribute__"):=by decide +kernel
 refine @check_slot (model prog w) _ _ _ "BaseException.__getattribute__" "BaseException" "__getattribute__" (.ref a) [.str name t] [] _ hk hsp L4 (F.args_bexc_ga (.ref a) (.str name t)) ?_
 unfold Builtin.«object.__getattribute__»
 refine wpAny_bind (wpAny_pure (wpAny_bind (wpAny_pure (wpAny_bind (L0.at (wpAny_bind (L3.at ?_)))))))
 refine wpAny_pure ?_
 show wpAny _ _ (handedOut v) _ _ _
 rw [handedOut_of hv']
 exact wpAny_pure k
end
end L2
namespace L2
open PySem PySem.Spec PyProof.Rows PySem.W
structure XCl (K:Frag) (C fI:Addr):Prop where
 ei:excI K C fI=true
 ob:mroIn K C (.type "object")=some true
 bx:mroIn K C (.type "BaseException")=some true
 sa:findIn K (.ref C) "__setattr__"=some (some (.builtin "object.__setattr__"))
 ga:findIn K (.ref C) "__getattribute__"=some (some (.builtin "BaseException.__getattribute__"))
 gt:findIn K (.ref C) "__getattr__"=some none
 hd:hasDictIn K C=true
 kp:keepIn K (.ref C)=true
 fn:typeIn K (.ref fI)=some (.type "function")
 cc:findIn K (.ref C) "__class__"=some (some (.builtin "object.__class__"))
 cg:specialIn K (.builtin "object.__class__") "__get__"=some (some (.builtin "getset_descriptor.__get__"))
 ct:takesIn K (.builtin "object.__class__")=some true
def excN (ea C:Addr) (d:Option Addr) (h:Heap):Prop:=∃ oe vs,h.get? ea=some oe/\oe.cls=.ref C/\oe.dict=d/\oe.data=.fields vs/\vs.size=6/\vs[1]?=some .none
theorem excN.ok {P:Program} {w:World} {H:Hp} {h:Heap} {ea C:Addr} {d:Option Addr} (x:excN ea C d h):ObjOk P w H h ea (.ext (excN ea C d)):=by
 obtain ⟨oe,vs,e,r⟩:=id x
 exact ⟨x,⟨oe,e⟩,fun h1 h2 ⟨o1,v1,e1,r1⟩ k=>⟨o1,v1,k _ e1,r1⟩⟩
def xdP (d:Addr) (fs:List (Str×V)) (h:Heap):Prop:=∃ mA,h.Ns1 d mA/\(∀ f,RelO (fs.lookup f) (mA f))/\PySem.Within mA (fs.map (·.1))
theorem xdP.ok {P:Program} {w:World} {H:Hp} {h:Heap} {d:Addr} {fs:List (Str×V)} (x:xdP d fs h):ObjOk P w H h d (.ext (xdP d fs)):=by
 obtain ⟨mA,⟨o,es,ep,e,r⟩,q⟩:=id x
 exact ⟨x,⟨o,e⟩,fun h1 h2 ⟨m1,n1,q1⟩ k=>⟨m1,n1.at k,q1⟩⟩
section
variable {X:Cx} {pins:List (Addr×Obj)} {σ:St} {H:Hp} {s:Shared}
theorem Inv.two {ea d:Addr} {φ ψ o1:HO} {h':Heap} {t':Nat} (I:Inv X pins σ H s) (hea:H ea=some φ) (mu:Mut (some φ)) (hd:s.heap.objs.size<=d) (k:∀ b o,b≠ea->s.heap.get? b=some o->h'.get? b=some o) (te:∃ o,h'.get? ea=some o)
  (n1:∀ H2,ObjOk X.prog X.w H2 h' ea o1) (n2:∀ H2,ObjOk X.prog X.w H2 h' d ψ):Inv X pins σ (upd (upd H ea o1) d ψ) { s with heap:=h',toks:=t' }:=by
 have nd:H d=none:=I.hok.fresh hd
 have ed:d≠ea:=fun z=>by rw [z,hea] at nd; cases nd
 have ld:∀ b o,s.heap.get? b=some o->b≠d:=fun b o q z=>by rw [z] at q; exact absurd (Heap.lt_size q) (Nat.not_lt.mpr hd)
 have at':∀ b u,b≠ea->H b=some u->upd (upd H ea o1) d ψ b=some u:=fun b u h1 e=>by rw [upd_ne (fun z=>by rw [z,nd] at e; cases e),upd_ne h1]; exact e
 have own:∀ c y,H c=some (.own y)->c≠ea:=fun c y e z=>by rw [z,hea] at e; cases e; exact mu
 have tup:∀ c y,H c=some (.tup y)->c≠ea:=fun c y e z=>by rw [z,hea] at e; cases e; exact mu
 have frz:∀ c y u,H c=some (.frz y u)->c≠ea:=fun c y u e z=>by rw [z,hea] at e; cases e; exact mu
 have tbl:∀ c y,H c=some (.tbl y)->c≠ea:=fun c y e z=>by rw [z,hea] at e; cases e; exact mu
 refine I.un ⟨fun b o q n _ _=>?_,fun b o q n _ _=>?_,fun b o q n _=>?_,fun b o q _=>?_,fun b xs e=>at' _ _ (tup _ _ e) e,fun b o u e=>at' _ _ (frz _ _ _ e) e,fun b ps e=>⟨#[],by rw [at' _ _ (tbl _ _ e) e]; simp⟩⟩ (fun b o q=>?_)
 ·exact k b o (fun z=>by rw [z,hea] at n; cases n) q
 ·exact ⟨o.slots,k b o (fun z=>by rw [z,hea] at n; cases n) q⟩
 ·rw [upd_ne (ld b o q),upd_ne (fun z=>by rw [z,hea] at n; cases n)]
  exact n
 ·by_cases z:b=ea
  ·rw [z]; exact te
  ·exact ⟨o,k b o z q⟩
 ·by_cases z:b=d
  ·subst z
   rw [upd_same] at q
   cases q
   exact n2 _
  ·rw [upd_ne z] at q
   by_cases z2:b=ea
   ·subst z2
    rw [upd_same] at q
    cases q
    exact n1 _
   ·rw [upd_ne z2] at q
    refine (I.hok b o q).stay (fun c v hc r=>?_) (fun c e=>at' _ _ (own _ _ e) e) fun c xs e=>at' _ _ (tup _ _ e) e
    rcases hc with hc | hc
    ·rw [hc] at r ⊢
     exact k b v z2 r
    ·exact k c v (own _ _ hc) r
end
def sXFld (K:Frag) (ta tv:TE) (f:Str):TS:=fun D σ H=>tv σ H fun y H1=>ta σ H1 fun x H2=>∃ ea C fI,x=.ref ea/\XCl K C fI/\findIn K (.ref C) f=some none /\
  ((H2 ea=some (.ext (excN ea C none))/\∀ d,H2 d=none->d≠ea->D.nx σ (upd (upd H2 ea (.ext (excN ea C (some d)))) d (.ext (xdP d [(f,y)])))) \/
   ∃ d fs,H2 ea=some (.ext (excN ea C (some d)))/\H2 d=some (.ext (xdP d fs))/\fs.length < 1000/\D.nx σ (upd H2 d (.ext (xdP d (putF f y fs)))))
def tXFld (K:Frag) (ta:TE) (f:Str):TE:=fun σ H Q=>ta σ H fun x H1=>∃ ea C fI d fs v,x=.ref ea/\XCl K C fI/\findIn K (.ref C) f=some none/\H1 ea=some (.ext (excP ea C (some d)))/\H1 d=some (.ext (xdP d fs))/\fs.lookup f=some v/\Q v H1
section
variable {X:Cx} {o value:Expr} {f:Str} {pos pos':Pos} {ta tv:TE}
theorem relo_put {fs:List (Str×V)} {mA:Str->Option Value} {f:Str} {y:V} {u:Value} (r:∀ g,RelO (fs.lookup g) (mA g)) (ry:RelV y u) (g:Str):RelO ((putF f y fs).lookup g) (if g=f then some u else mA g):=by
 rw [lookup_putF]
 by_cases q:g=f
 ·rw [if_pos q,if_pos q]; exact ry
 ·rw [if_neg q,if_neg q]; exact r g
theorem within_put {fs:List (Str×V)} {mA:Str->Option Value} {f:Str} {y:V} {u:Value} (wi:PySem.Within mA (fs.map (·.1))):PySem.Within (fun g=>if g=f then some u else mA g) ((putF f y fs).map (·.1)):=fun g hg=>by
 by_cases q:g=f
 ·rw [q]; exact (keys_putF f y fs).1
 ·refine (keys_putF f y fs).2 g (wi g fun z=>hg ?_)
  show (if g=f then some u else mA g)=none
  rw [if_neg q]; exact z
theorem ps_xfld (ha:PE X o ta) (hv:PE X value tv) (hs:swapsWith value (some (.Attribute o f pos')) pos.line X.env=pure false):PS X (.Assign [.Attribute o f pos'] value pos) (sXFld X.K ta tv f):=by
 intro pins s σ H D I h
 refine plainObj_wpAny_Assign_Attribute (thn (hv pins s σ H _ I h) fun u s1 ⟨y,H1,I1,ry,q⟩=>thn (ha pins s1 σ H1 _ I1 q) fun ov s2 ⟨x,H2,I2,rx,ea,C,fI,ex,xc,hf,q2⟩=>?_) hs
 subst ex
 obtain rfl:ov=Value.ref ea:=rx
 rcases q2 with ⟨hea,q2⟩ | ⟨d,fs,hea,hd,hl,q2⟩
 ·obtain ⟨⟨oe,vs,e1,e2,e3,e4,e5,e6⟩,_,_⟩:=I2.hok ea _ hea
  refine set_exc0 I2.kIn xc.ei xc.ob hf xc.sa e1 e2 e3 e4 fun h' hn ha' hk=>?_
  have nd:=I2.hok.fresh (Nat.le_refl s2.heap.objs.size)
  refine ⟨σ,_,I2.two (d:=s2.heap.objs.size) (ψ:=.ext (xdP s2.heap.objs.size [(f,y)])) (o1:=.ext (excN ea C (some s2.heap.objs.size))) hea True.intro (Nat.le_refl _) hk ⟨_,ha'⟩ (fun _=>excN.ok ⟨_,vs,ha',e2,rfl,e4,e5,e6⟩) (fun _=>xdP.ok ⟨_,hn,relo_put (fs:=[]) (fun _=>True.intro) ry,within_put (fs:=[]) (y:=y) fun g hg=>absurd rfl hg⟩),q2 _ nd fun z=>by rw [z,hea] at nd; cases nd⟩
 ·obtain ⟨⟨oe,vs,e1,e2,e3,e4,e5,e6⟩,_,_⟩:=I2.hok ea _ hea
  obtain ⟨⟨mA,n1,r1,w1⟩,_,_⟩:=I2.hok d _ hd
  have ne:d≠ea:=fun z=>by
   rw [z] at n1
   obtain ⟨o',_,_,a1,a2,_⟩:=n1
   rw [e1] at a1
   cases a1
   rw [e4] at a2
   cases a2
  refine set_exc1 I2.kIn xc.ei xc.ob hf xc.sa e1 e2 e3 e4 n1 ne w1 (by rw [List.length_map]; omega) fun h' hn sb=>?_
  obtain ⟨od',_,_,ed',_⟩:=id hn
  exact ⟨σ,_,I2.write (x:=d) (e:=d) (by rw [hd]; exact True.intro) (.inl rfl) (fun b u hb e=>(sb.2 b hb).trans e) ⟨od',ed'⟩ (xdP.ok ⟨_,hn,relo_put r1 ry,within_put w1⟩),q2⟩
theorem pe_xfld (ha:PE X o ta) (hb:attributeBase o f X.env (eval o X.env)=eval o X.env):PE X (.Attribute o f pos) (tXFld X.K ta f):=by
 intro pins s σ H Q I h
 refine attr_of hb (thn (ha pins s σ H _ I h) fun u s1 ⟨x,H1,I1,rx,ea,C,fI,d,fs,v,ex,xc,hf,hea,hd,l,q⟩=>?_)
 subst ex
 obtain rfl:u=Value.ref ea:=rx
 obtain ⟨⟨oe,vs,e1,e2,e3,e4,e5⟩,_,_⟩:=I1.hok ea _ hea
 obtain ⟨⟨mA,n1,r1,w1⟩,_,_⟩:=I1.hok d _ hd
 obtain ⟨u',hu,ru⟩:=RelO.some_of (v:=v) (o:=mA f) (by rw [<- l]; exact r1 f)
 exact get_exc I1.kIn xc.hd xc.bx xc.ga xc.gt hf e1 e2 e3 e4 n1 hu (handed_of ru) ⟨v,H1,I1.tok _,ru,q⟩
end
def Rx (P:Program) (w:World) (K:Frag) (mg:Str->Option Value) (base:Heap) (x:Str) (C:Addr) (k:Nat) (ps:List Str) (sp:Sp):Prop :=
 ∃ fI fd,XCl K C fI/\iniOf K C=some (some (.ref fI))/\FnOk P w K mg base CX0 k fI fd ps sp/\mg x=some (.ref C)/\Binds K fd ps []
section
variable {X:Cx} {C fI:Addr} {k:Nat} {fd:FuncData} {ps:List Str} {sp:Sp}
theorem run_exc {pins:List (Addr×Obj)} {σ:St} {H:Hp} {s:Shared} {us:List Value} {vs:List V} {R:Addr->Hp->Prop} (xc:XCl X.K C fI) (xi:iniOf X.K C=some (some (.ref fI))) (F:FnOk X.prog X.w X.K X.mg X.base CX0 k fI fd ps sp) (hr:Room (k + 1) X.A) (hb:Binds X.K fd ps []) (I:Inv X pins σ H s) (r:Vals vs us) (sz:us.length<=sizeLine)
  (h:∀ ea,H ea=none->sp (.ref ea::vs) (upd H ea (.ext (excN ea C none))) (fun v H2=>v=.non/\R ea H2) E0) :
  wpAny (model X.prog X.w) X.A (call (.ref C) us) (fun u s'=>∃ ea H2,u=.ref ea/\Inv X pins σ H2 s'/\s.heap.objs.size<=ea/\R ea H2) X.xe s:=by
 have hq:=h (s.heap.objs.size + 1) (I.hok.fresh (Nat.le_succ _))
 obtain ⟨oI,lI,tI⟩:∃ o,X.K.lookup fI=some o/\o.cls=.type "function":=by
  have z:Option.map (fun x=>x.cls) (X.K.lookup fI)=some (.type "function"):=xc.fn
  obtain ⟨o,e,c⟩:=Option.map_eq_some_iff.mp z
  exact ⟨o,e,c⟩
 have fo:=I.kIn _ _ lI
 obtain ⟨hp,g,d,t,os⟩:=s
 refine call_exc (excI_of I.kIn xc.ei xi) fo tI sz fun h' hm=>?_
 obtain ⟨tt,h1,h2,h3⟩:=hm.there
 have I2:Inv X pins σ (upd H (hp.objs.size + 1) (.ext (excN (hp.objs.size + 1) C none))) ⟨h',g,d,t,os⟩:=I.laid (a:=hp.objs.size + 1) (h':=h') (t':=t) hm.keeps (Nat.le_succ _) (excN.ok ⟨_,_,h1,rfl,rfl,rfl,rfl,rfl⟩)
 have r2:Vals (V.ref (hp.objs.size + 1)::vs) (Value.ref (hp.objs.size + 1)::us):=.cons rfl r
 have hl:(Value.ref (hp.objs.size + 1)::us++[]).length=ps.length:=by
  have e:=r2.length
  rw [F.len _ _ _ _ hq] at e
  rw [List.append_nil]
  exact e.symm
 have bb:=hb ⟨h',g,d,t,os⟩ (Value.ref (hp.objs.size + 1)::us) I2.kIn hl
 rw [List.append_nil] at bb
 refine wpAny_call (codeAny_mono (F.run _ X.stack _ _ ⟨Value.ref (hp.objs.size + 1)::us,[]⟩ (Value.ref (hp.objs.size + 1)::us) _ _ E0 (hr.make C us []) (I2.env0.make C us []) bb r2 hq) fun r s' hq'=>?_)
 cases r with
 | error e=>exact False.elim hq'
 | ok fl =>
  cases fl with
  | ret u =>
   obtain ⟨v,H',I3,rv,hv,q⟩:=I2.after hq'
   subst hv
   obtain rfl:u=Value.none:=rv
   exact ⟨rfl,_,H',rfl,I3,Nat.le_succ _,q⟩
  | next=>exact False.elim hq'
  | brk=>exact False.elim hq'
  | cont=>exact False.elim hq'
end
section
variable {M:Model} {A:Around} {Ex:Value->Shared->Prop} {env:Env}
theorem raise_made {s:Shared} {x:Sem Value} {Q:Flow->Shared->Prop} {C:Addr} {oi:Option (Option Value)} (hh:A.handled=none)
  (h:wpAny M A x (fun v s1=>∃ e oe vs,v=.ref e/\ExcA s1.heap C oi/\s1.heap.get? e=some oe/\oe.cls=.ref C/\oe.data=.fields vs/\vs[1]?=some .none/\Ex (.ref e) s1) Ex s) :
  wpAny M A (raiseStmt env (some x) none) Q Ex s:=by
 unfold raiseStmt
 refine wpAny_bind (wpAny_mono h (fun v s1 h1=>?_) fun _ _ z=>z)
 obtain ⟨e,oe,vs,rfl,⟨bm,N,nm,q,bs,sn,sub,ab,col,dd,k0,k1,k2,k3,k5,mN,cO,cN,cI,T⟩,he,hc,hd,v1,hE⟩:=h1
 have hB:(Value.ref C::bm).contains (.type "BaseException")=true:=by rw [List.contains_cons,T.hasType PySem.F.excBase_ValueError.hasBase,Bool.or_true]
 obtain ⟨hp,g,d,tk,os⟩:=s1
 repeat (first | (with_reducible refine wpAny_loadPart_at he ?_; rw [hc]) | with_reducible refine wpAny_field he hd v1 ?_ | with_reducible refine wpAny_loadPart_at cO ?_ | (with_reducible refine wpAny_isSubtype_exc cO ?_; rw [hB]) | wp_step)
 exact wpAny_raiseNew_none hh hE
end
def tRaise (C:Addr) (sp:Sp) (E:XK) (t:TA):TS:=fun _ σ H=>t σ H fun vs H1=>vs.length<=10/\∀ ea,H1 ea=none->sp (.ref ea::vs) (upd H1 ea (.ext (excN ea C none))) (fun v H2=>v=.non/\∃ d,H2 ea=some (.ext (excN ea C (some d)))/\E (.ref C) (some d) (upd H2 ea (.ext (excP ea C (some d))))) E0
section
variable {P:Program} {w:World} {K:Frag} {mg:Str->Option Value} {base:Heap} {N:List Str} {qual:Str} {scope:Scope} {f:Addr} {cd:Value} {A:Around} {outer:List Env} {s:Shared} {H:Hp} {E:XK}
theorem ps_raise {C:Addr} {k:Nat} {ps:List Str} {sp:Sp} {x:Str} {np cpos pos:Pos} {e:Expr} {es:List Expr} {t:TA} (R:Rx P w K mg base x C k ps sp) (hr:Room (k + 1) (cxE P w K mg base N qual scope f cd A outer s H E).A) (hg:Gl (cxE P w K mg base N qual scope f cd A outer s H E) x)
  (ha:PA (cxE P w K mg base N qual scope f cd A outer s H E) (e::es) t) (hdb:(x == ("__debug__":Str))=false:=by decide)
  (he:starEach (e::es) (cxE P w K mg base N qual scope f cd A outer s H E).env=(false,eval e (cxE P w K mg base N qual scope f cd A outer s H E).env)::starEach es (cxE P w K mg base N qual scope f cd A outer s H E).env:=by rfl) (hpl:(backTo cpos (starEach es (cxE P w K mg base N qual scope f cd A outer s H E).env)).any (·.1)=false:=by rfl) :
  PS (cxE P w K mg base N qual scope f cd A outer s H E) (.Raise (some (.Call (.Name x np) (e::es) [] cpos)) none pos) (tRaise C sp E t):=by
 intro pins s1 σ H1 D I h
 obtain ⟨fI,fd,xc,xi,F,hm,hb⟩:=R
 rw [arm_exec_Raise]
 refine wpAny_bind (wpAny_standAt (raise_made (C:=C) (oi:=iniOf K C) (I.ok.hd rfl) ?_))
 refine wpAny_bind (wpAny_mono ?_ (fun v s3 h3=>wpAny_bind (wpAny_standAt (wpAny_pure h3))) fun _ _ z=>z)
 refine wpAny_Call_Name_kw (ld_glob I hg hm ?_ hdb)
 refine W.callWith_K (h₀:=base) I.ok.mod.kin xc.kp (thn (ha cpos pins s1 σ H1 _ I h) fun us s2 ⟨vs,H2,I2,r,l10,q⟩=>⟨I2.kIn,?_⟩) he hpl
 refine wpAny_mono (run_exc (R:=fun ea H2=>∃ d,H2 ea=some (.ext (excN ea C (some d)))/\E (.ref C) (some d) (upd H2 ea (.ext (excP ea C (some d))))) xc xi F hr hb I2 r (by show us.length<=sizeLine; rw [<- r.length]; exact Nat.le_trans l10 (by decide)) q) (fun u s3 hu=>?_) fun _ _ z=>z
 obtain ⟨ea,H3,rfl,I3,lea,d,hea,qE⟩:=hu
 obtain ⟨⟨oe,ws,e1,e2,e3,e4,e5,e6⟩,_,_⟩:=I3.hok ea _ hea
 refine ⟨ea,oe,ws,rfl,excA_of I3.kIn xc.ei,e1,e2,e4,e6,?_⟩
 have I4:Inv (cxE P w K mg base N qual scope f cd A outer s H E) pins σ (upd H3 ea (.ext (excP ea C (some d)))) { s3 with heap:=s3.heap,toks:=s3.toks }:=I3.write (x:=ea) (e:=ea) (by rw [hea]; exact True.intro) (.inl rfl) (fun b u _ z=>z) ⟨_,e1⟩ (excP.ok ⟨oe,ws,e1,e2,e3,e4,e5⟩)
 exact xe_of (T0:=none) I4 upd_same (Nat.le_trans I2.sz lea) (fun T z=>by cases z) ⟨oe,ws,e1,e4,e6⟩ qE
end
section
variable {X:Cx} {pins:List (Addr×Obj)} {σ:St} {H:Hp} {s:Shared}
def Caught (X:Cx) (pins:List (Addr×Obj)) (σ:St) (Ex:XK) (e:Value) (s':Shared):Prop:=∃ (ea C T:Addr) (d:Option Addr) (H':Hp),e=.ref ea/\Inv X pins σ H' s'/\H' ea=some (.ext (excP ea C d))/\Flies ea T s'.heap/\FpOk X pins H' T/\Ex (.ref C) d H'
def PassesF (CX:CXT) (X:Cx) (pins:List (Addr×Obj)) (σ:St) (E:XK):Prop:=∀ (H:Hp) (s:Shared) (e:Value) (s':Shared),Inv X pins σ H s->CX X.stack H s E e s'->X.xe e s'
theorem Inv.noted {ea C:Addr} {d T0:Option Addr} {oe:Obj} {vs:Array Value} {h':Heap} (I:Inv X pins σ H s) (hea:H ea=some (.ext (excP ea C d))) (eo:s.heap.get? ea=some oe) (od:oe.data=.fields vs) (hT:∀ T,T0=some T->FpOk X pins H T)
  (g:Gone (frs X.stack) ea T0 oe vs s.heap h'):Inv X pins σ H { s with heap:=h' }:=by
 have nfr:∀ c y,H c=some y->c∉frs X.stack:=fun c y r z=>by rw [I.stkFree c z] at r; cases r
 have nT:∀ c y,H c=some y->some c≠T0:=fun c y r z=>by rw [(hT c z.symm).1] at r; cases r
 have hok:HOk X.prog X.w H h':=fun b o q=>by
  by_cases ne:b=ea
  ·subst ne
   rw [hea] at q
   cases q
   obtain ⟨⟨o1,v1,a1,a2,a3,a4,a5⟩,_,_⟩:=I.hok b _ hea
   obtain ⟨T,vs',ob,ts,_,e3,e4,_⟩:=g.flow
   rw [eo] at a1
   cases a1
   rw [od] at a4
   cases a4
   exact excP.ok ⟨_,vs',e3,a2,a3,rfl,by rw [e4]; exact a5⟩
  ·refine (I.hok b o q).stay (fun c v hc r=>?_) (fun _ z=>z) fun _ _ z=>z
   rcases hc with hc | hc
   ·rw [hc] at r ⊢
    exact g.keep b v (nfr b o q) ne (nT b o q) r
   ·have ne2:c≠ea:=fun z=>by rw [z,hea] at hc; cases hc
    exact g.keep c v (nfr c _ hc) ne2 (nT c _ hc) r
 have un:Un (frs X.stack) T0.toList H H s.heap h':=by
  have tl:∀ b,b∉T0.toList->some b≠T0:=fun b hb z=>hb (by rw [<- z]; simp)
  refine ⟨fun b o q n hb hx=>?_,fun b o q n hb hx=>?_,fun b o q n _=>n,fun b o q hx=>?_,fun _ _ e=>e,fun _ _ _ e=>e,fun b ps e=>⟨#[],by rw [e]; simp⟩⟩
  ·exact g.keep b o hb (fun z=>by rw [z,hea] at n; cases n) (tl b hx) q
  ·exact g.slot b o (fun z=>by rw [z,hea] at n; cases n) (tl b hx) q
  ·by_cases ne:b=ea
   ·obtain ⟨_,_,_,_,_,e3,_⟩:=g.flow
    exact ⟨_,by rw [ne]; exact e3⟩
   ·obtain ⟨sl,e2⟩:=g.slot b o ne (tl b hx) q
    exact ⟨_,e2⟩
 have:=I.call (g':=s.gens) (d':=s.drawn) (t':=s.toks) un hok I.bare fun b hb=>by
  have z:T0=some b:=by
   cases T0 with
   | none=>simp at hb
   | some T=>simp at hb; rw [hb]
  obtain ⟨_,f1,f2,f3,f4,f5⟩:=hT b z
  exact ⟨f3,f1,f4,f5⟩
 exact this
theorem Gone.flies {fs:List Addr} {ea:Addr} {T0:Option Addr} {oe:Obj} {vs:Array Value} {h h':Heap} (g:Gone fs ea T0 oe vs h h'):∃ T,h.objs.size<=T/\Flies ea T h':=by
 obtain ⟨T,vs',ob,ts,z1,z2,z3,z4,z5,z6,z7,z8⟩:=g.flow
 exact ⟨T,z1,_,vs',ob,ts,z2,rfl,z4,z5,z6,z7,z8⟩
theorem unset_ok {M:Model} {A:Around} {E:Value->Shared->Prop} {i:Nat} {x:Str} {v:V} {Q:Unit->Shared->Prop} (I:Inv X pins (σ.set i (some v)) H s) (hiσ:i < σ.length) (hi:X.N[i]?=some x) (hN:X.N.Nodup) (hk:X.env.scope.names.lookup x=some .local)
  (h:∀ s',Inv X pins (σ.set i none) H s'->Q () s'):wpAny M A (unbindName X.env x) Q E s:=by
 obtain ⟨m,hn,hl⟩:=id I.loc
 have hcls:(X.env.scope.kind == .class || (X.env.scope.kind == .module && X.env.locals != X.env.globals))=false:=by rw [I.ok.kind]; rfl
 obtain ⟨u0,_,lk⟩:=hl i x v hi (by rw [List.getElem?_set_self hiσ]) (.inl hk)
 have hv:m x=some u0:=by
  rcases lk with ⟨_,z⟩ | ⟨z,_⟩
  ·exact z
  ·have hk':X.env.kindOf x=some .local:=hk
   rw [hk'] at z
   rcases z with z | z <;> cases z
 refine wpAny_unbindName_local hk hn hv hcls fun h' u hn' hs=>h _ ?_
 obtain ⟨oL,_,_,hoL,_⟩:=id hn
 have ab:∀ b o,X.s₀.heap.get? b=some o->b≠X.env.locals:=fun b o e=>Nat.ne_of_lt (Nat.lt_of_lt_of_le (Heap.lt_size e) I.ok.above)
 refine ⟨I.ok,I.os,I.bare,⟨fun b o e n hb hx=>(hs.2 b (ab b o e)).trans (I.base.keep b o e n hb hx),fun b o e n hb hx=>?_,I.base.free,fun b o e hx=>?_,I.base.tups,I.base.frzs,I.base.tbls⟩,⟨_,hn',fun j y v' e1 e2 e3=>?_⟩,fun y c e=>?_,I.free,I.freeC,fun p hp=>?_,fun b ob e=>?_,?_⟩
 ·obtain ⟨sl,e1⟩:=I.base.slot b o e n hb hx
  exact ⟨sl,(hs.2 b (ab b o e)).trans e1⟩
 ·obtain ⟨o',e1⟩:=I.base.there b o e hx
  exact ⟨o',(hs.2 b (ab b o e)).trans e1⟩
 ·by_cases hj:j=i
  ·subst hj
   rw [List.getElem?_set_self hiσ] at e2
   cases e2
  ·rw [List.getElem?_set_ne (Ne.symm hj)] at e2
   obtain ⟨u',r',q⟩:=hl j y v' e1 (by rw [List.getElem?_set_ne (Ne.symm hj)]; exact e2) e3
   have yx:y≠x:=fun z=>by
    subst z
    exact hj ((List.getElem?_inj (List.getElem?_eq_some_iff.mp e1).1 hN).mp (e1.trans hi.symm))
   refine ⟨u',r',?_⟩
   rcases q with ⟨q1,q2⟩ | ⟨q1,c,q2,q3⟩
   ·exact .inl ⟨q1,by show (if y=x then u else m y)=some u'; rw [if_neg yx]; exact q2⟩
   ·refine .inr ⟨q1,c,q2,?_⟩
    obtain ⟨o3,e3',d3⟩:=q3
    exact ⟨o3,(hs.2 c (I.cne y c q2)).trans e3',d3⟩
 ·obtain ⟨v3,o3,e3',d3⟩:=I.cell y c e
  exact ⟨v3,o3,(hs.2 c (I.cne y c e)).trans e3',d3⟩
 ·obtain ⟨p1,p2,p3,p4,p5⟩:=I.pin p hp
  exact ⟨(hs.2 _ p3).trans p1,p2,p3,p4,p5⟩
 ·refine (I.hok b ob e).stay (fun c w' hc q=>(hs.2 c ?_).trans q) (fun _ q=>q) fun _ _ q=>q
  rintro rfl
  rcases hc with hc | hc
  ·rw [<- hc,I.free] at e; cases e
  ·rw [I.free] at hc; cases hc
 ·have:=I.len
  rw [List.length_set] at this ⊢
  exact this
end
abbrev Cx.mrk (X:Cx) (e:Value):Cx:={ X with A:=X.A.mark (some e),calm:=false,xe:=fun _ _=>False }
section
variable {X:Cx} {pins:List (Addr×Obj)} {σ:St} {H:Hp} {s:Shared} {e:Value}
theorem Inv.mrk (I:Inv X pins σ H s) (e:Value):Inv (X.mrk e) pins σ H s :=
 ⟨⟨I.ok.mod,I.ok.kind,I.ok.glob,I.ok.blt,I.ok.above,I.ok.inj,I.ok.has,I.ok.cab,(fun z=>by cases z),I.ok.frames,I.ok.stk,I.ok.exf,I.ok.bs,I.ok.bsz,I.ok.noex,I.ok.exfs,I.ok.funs,I.ok.frf⟩,I.os,I.bare,I.base,I.loc,I.cell,I.free,I.freeC,I.pin,I.hok,I.len⟩
theorem Inv.unmrk (ok:X.Ok) (I:Inv (X.mrk e) pins σ H s):Inv X pins σ H s:=⟨ok,I.os,I.bare,I.base,I.loc,I.cell,I.free,I.freeC,I.pin,I.hok,I.len⟩
theorem SP.unmrk {D:Ends} {f:Flow} (ok:X.Ok) (h:SP (X.mrk e) pins D f s):SP X pins D f s:=by
 cases f with
 | next=>obtain ⟨σ',H',I,q⟩:=h; exact ⟨σ',H',I.unmrk ok,q⟩
 | brk=>obtain ⟨σ',H',I,q⟩:=h; exact ⟨σ',H',I.unmrk ok,q⟩
 | cont=>obtain ⟨σ',H',I,q⟩:=h; exact ⟨σ',H',I.unmrk ok,q⟩
 | ret u=>obtain ⟨v,σ',H',I,r,q⟩:=h; exact ⟨v,σ',H',I.unmrk ok,r,q⟩
end
section
variable {M:Model} {A:Around} {E:Value->Shared->Prop} {K:Frag} {C D ea:Addr}
theorem ty_type {K:Frag} {s:Shared} {D:Addr} (X:K.In s.heap) (ht:typeIn K (.ref D)=some (.type "type")):s.TypeIs (.ref D) "type":=by
 have z:Option.map (fun x=>x.cls) (K.lookup D)=some (.type "type"):=ht
 obtain ⟨o,e,c⟩:=Option.map_eq_some_iff.mp z
 exact ⟨o,X _ _ e,c⟩
theorem exc_matches {s:Shared} {oe:Obj} {b:Bool} {Q:Bool->Shared->Prop} (X:K.In s.heap) (ht:typeIn K (.ref D)=some (.type "type")) (hb:mroIn K D (.type "BaseException")=some true) (he:s.heap.get? ea=some oe) (hc:oe.cls=.ref C) (hm:mroIn K C (.ref D)=some b) (k:Q b s) :
  wpAny M A (excMatches (.ref ea) (.ref D)) Q E s:=by
 have hT:=ty_type X ht
 have L1:=looks_mroIn (M:=M) X hb
 have L2:=looks_mroIn (M:=M) X hm
 have n1:=tc_notTuple
 have n2:=tc_sub
 obtain ⟨oD,cd,lD,dD⟩:∃ (oD:Obj) (cd:ClassData),K.lookup D=some oD/\oD.data=.cls cd:=by
  have z:=hb
  unfold mroIn at z
  obtain ⟨cd,z,_⟩:=Option.bind_eq_some_iff.mp z
  unfold clsIn at z
  split at z
  ·rename_i e
   exact ⟨_,_,e,rfl⟩
  ·cases z
 have dO:=X _ _ lD
 obtain ⟨c0,dd0,dt0,sl0⟩:=oD
 dsimp only at dD
 subst dD
 obtain ⟨hp,g,d,t,os⟩:=s
 unfold excMatches
 repeat (first | (with_reducible refine wpAny_loadPart_at he ?_; rw [hc]) | with_reducible refine wpAny_loadPart_at dO ?_ | with_reducible refine L1.at ?_ | with_reducible refine L2.at ?_ | wp_step)
 cases b <;> (wp_walk; exact k)
end
section
variable {prog:Program} {w:World} {A:Around} {s:Shared} {env:Env} {R:Result->Shared->Prop}
theorem suite_as {e:Value} {n:Str} {b0:Stmt} {body:List Stmt} {pos:Pos}
  (h:wpAny (model prog w) A (setFlight e none) (fun _ s1=>wpAny (model prog w) A (bindName env n e) (fun _ s2=>wpAny (model prog w) A (execs (b0::body) env) (fun f s3=>R (.ok f) s3) (fun _ _=>False) s2) (fun _ _=>False) s1) (fun _ _=>False) s) :
  codeAny (model prog w) A (.handlers e [.ExceptHandler none (some n) (b0::body) pos] env) R s:=by
 refine codeAny_of_tree ?_
 show wpAny _ A (do return Fin.done (<- (handleWith e env [.ExceptHandler none (some n) (b0::body) pos]).onRaise (fun x=>do noteFrame x env; theTreesLotGoes x))) _ _ s
 refine wpAny_bind (wpAny_noted ?_)
 unfold handleWith
 refine wpAny_bind (wpAny_standAt (wpAny_bind (wpAny_mono h (fun _ s1 h1=>?_) fun _ _ z=>z.elim)))
 refine wpAny_bind (wpAny_mono h1 (fun _ s2 h2=>?_) fun _ _ z=>z.elim)
 exact wpAny_bind (wpAny_attempt (wpAny_mono h2 (fun f s3 h3=>wpAny_pure (wpAny_pure h3)) fun _ _ z=>z.elim))
end
abbrev TH:=Addr->Option Addr->Addr->TS
def HS (X:Cx) (hs:List ExceptHandler) (th:TH):Prop:=∀ (pins:List (Addr×Obj)) (s:Shared) (σ:St) (H:Hp) (ea C T:Addr) (d:Option Addr) (D:Ends),Inv X pins σ H s->H ea=some (.ext (excP ea C d))->Flies ea T s.heap->FpOk X pins H T->th C d ea D σ H ->
 wpAny (model X.prog X.w) X.A (handleBy (.ref ea) X.env hs) (SP X pins D) X.xe s
def thNil:TH:=fun _ _ _ _ _ _=>False
theorem hs_nil {X:Cx}:HS X [] thNil:=fun _ _ _ _ _ _ _ _ _ _ _ _ _ h=>h.elim
def offD (i:Nat) (D:Ends):Ends:={ nx:=fun σ H=>D.nx (σ.set i none) H,rt:=D.rt,bk:=fun σ H=>D.bk (σ.set i none) H,ct:=fun σ H=>D.ct (σ.set i none) H }
def thAs (K:Frag) (Dc:Addr) (i:Nat) (ts:TS) (thr:TH):TH:=fun C d ea D σ H=>∃ b,mroIn K C (.ref Dc)=some b/\if b=true then ts (offD i D) (σ.set i (some (.ref ea))) H else thr C d ea D σ H
structure Cau (K:Frag) (mg:Str->Option Value) (x:Str) (Dc:Addr):Prop where
 mg:mg x=some (.ref Dc)
 ty:typeIn K (.ref Dc)=some (.type "type")
 bx:mroIn K Dc (.type "BaseException")=some true
section
variable {X:Cx} {c n:Str} {Dc:Addr} {i:Nat} {b0:Stmt} {body:List Stmt} {rest:List ExceptHandler} {np pos:Pos} {ts:TS} {thr:TH}
theorem flight_again {pins:List (Addr×Obj)} {σ:St} {H:Hp} {s:Shared} {ea T:Addr} {M:Model} {A:Around} {E:Value->Shared->Prop} {Q:Unit->Shared->Prop} (I:Inv X pins σ H s) (fl:Flies ea T s.heap) (fp:FpOk X pins H T) (k:∀ s',Inv X pins σ H s'->Q () s'):wpAny M A (setFlight (.ref ea) none) Q E s:=by
 obtain ⟨oe,vs,oT,ts,e1,d1,v1,e2,d2,t3,ne⟩:=fl
 obtain ⟨f0,f1,f2,f3,f4,f5⟩:=fp
 refine wpAny_setFlight_none e1 d1 v1 e2 d2 (Array.getElem?_eq_some_iff.mp t3).1 (k _ ?_)
 exact I.turned (t':=s.toks) (fun b o hb e=>by rw [Heap.get?_update_other _ _ (Ne.symm hb)]; exact e) f0 f1 f3 f4 f5
theorem sp_off {pins:List (Addr×Obj)} {s:Shared} {D:Ends} {f:Flow} {Q:Flow->Shared->Prop} {E:Value->Shared->Prop} (hN:X.N.Nodup) (hi:X.N[i]?=some n) (hk:X.env.scope.names.lookup n=some .local) (h:SP X pins (offD i D) f s) :
  wpAny (model X.prog X.w) X.A (do bindName X.env n .none; unbindBehindTheSuite X.env n pos) (fun _ s'=>SP X pins D f s') E s:=by
 have go:∀ (σ:St) (H:Hp),Inv X pins σ H s->(∀ s',Inv X pins (σ.set i none) H s'->SP X pins D f s')->wpAny (model X.prog X.w) X.A (do bindName X.env n .none; unbindBehindTheSuite X.env n pos) (fun _ s'=>SP X pins D f s') E s:=fun σ H I k=>by
  have hiσ:i < σ.length:=by rw [I.len]; exact (List.getElem?_eq_some_iff.mp hi).1
  refine wpAny_bind (wpAny_bindName (store_ok (v:=.non) I hN hi (.inl hk) rfl (fun s1 I1=>?_) (.inr hk)))
  unfold unbindBehindTheSuite
  exact wpAny_onRaise (unset_ok I1 hiσ hi hN hk k)
 cases f with
 | next=>obtain ⟨σ',H',I,q⟩:=h; exact go σ' H' I fun s' I'=>⟨_,H',I',q⟩
 | brk=>obtain ⟨σ',H',I,q⟩:=h; exact go σ' H' I fun s' I'=>⟨_,H',I',q⟩
 | cont=>obtain ⟨σ',H',I,q⟩:=h; exact go σ' H' I fun s' I'=>⟨_,H',I',q⟩
 | ret u=>obtain ⟨v,σ',H',I,r,q⟩:=h; exact go σ' H' I fun s' I'=>⟨v,_,H',I',r,q⟩
theorem hs_as (ca:Cau X.K X.mg c Dc) (hg:Gl X c) (hN:X.N.Nodup) (hi:X.N[i]?=some n) (hk:X.env.scope.names.lookup n=some .local) (hs:∀ e,PSs (X.mrk e) (b0::body) ts) (hr:HS X rest thr) (hd:(c == ("__debug__":Str))=false:=by decide) :
  HS X (.ExceptHandler (some (.Name c np)) (some n) (b0::body) pos::rest) (thAs X.K Dc i ts thr):=by
 intro pins s σ H ea C T d D I hea fl fp h
 obtain ⟨b,hb,h⟩:=h
 refine wpAny_handleBy_cons (codeAny_handlers_test ?_) (by intro q; cases q)
 have J:=I.mrk (.ref ea)
 refine ld_glob (X:=X.mrk (.ref ea)) J hg ca.mg ?_ hd
 obtain ⟨⟨oe,vs,e1,e2,e3,e4,e5⟩,_,_⟩:=I.hok ea _ hea
 refine exc_matches I.kIn ca.ty ca.bx e1 e2 hb ?_
 cases b with
 | false=>exact hr pins s σ H ea C T d D I hea fl fp h
 | true =>
  refine suite_as (flight_again J fl fp fun s1 J1=>?_)
  refine wpAny_bindName (store_ok (X:=X.mrk (.ref ea)) (v:=.ref ea) J1 hN hi (.inl hk) rfl (fun s2 J2=>?_) (.inr hk))
  refine wpAny_mono (hs (.ref ea) pins s2 _ H _ J2 h) (fun f s3 h3=>?_) fun _ _ z=>z
  exact sp_off (Q:=fun _ _=>True) hN hi hk (h3.unmrk I.ok)
def PSF (X:Cx) (pins:List (Addr×Obj)) (σ:St) (st:List Stmt) (t:TS):Prop:=∀ (s:Shared) (H:Hp) (D:Ends),Inv X pins σ H s->t D σ H->wpAny (model X.prog X.w) X.A (execs st X.env) (SP X pins D) X.xe s
end
end L2
namespace L2
open PySem PySem.Spec PyProof.Rows PySem.W PySem.Builtin PySem.Builtin.ObjectAttr
section
variable {prog:Program} {w:World} {A:Around} {E:Value->Shared->Prop} {s:Shared} {K:Frag} {C fI a:Addr}
theorem found_dat {od:Option Obj} {n:Str} {va vg:Value} (h0:(clsIn K C).isSome=true) (h1:findIn K (.ref C) n=some (some va)) (h2:specialIn K va "__get__"=some (some vg)) (h3:takesIn K va=some true):findObj K C od n=some (.bind vg va):=by
 cases e:clsIn K C with
 | none=>rw [e] at h0; cases h0
 | some cd =>
  simp only [findObj,e,Option.bind_some,h1,h2,h3]
theorem exc_class {ox:Obj} {od:Option Obj} {Q:Option Value->Shared->Prop} (X:K.In s.heap) (xc:XCl K C fI) (I:InstAt s.heap a ox C od) (k:Q (some (.ref C)) { s with toks:=s.toks + 1 }) :
  wpAny (model prog w) A (getAttr? (.ref a) "__class__") Q E s:=by
 have L0:=I.type (M:=model prog w)
 have L1:=looks_findIn (M:=model prog w) X xc.ga
 have L2:=looks_findIn (M:=model prog w) X xc.gt
 have hf:findObj K C od "__class__"=some (.bind (.builtin "getset_descriptor.__get__") (.builtin "object.__class__")):=found_dat (by obtain ⟨cd,hc,_⟩:=any_some xc.hd; rw [hc]; rfl) xc.cc xc.cg xc.ct
 have L3:=looks_find (M:=model prog w) X I hf
 have L4:Looks (model prog w) s.heap (isInstance (.ref a) (.type "BaseException")) true:=I.type.andThen (looks_mroIn X xc.bx)
 obtain ⟨hp,g,d,t,os⟩:=s
 unfold getAttr? getAttrBy?
 refine wpAny_bind (wpAny_mkText (wpAny_bind (wpAny_attempt ?_)))
 unfold getAttrBy
 refine wpAny_holding (wpAny_bind (L0.at (wpAny_bind (L1.at ?_))))
 show wpAny _ _ (getAttrByItsOwn (.ref a) (.str "__class__" t) (.ref C) (.builtin "BaseException.__getattribute__") false false) _ _ _
 unfold getAttrByItsOwn hookBefore
 rw [if_pos (show onTheHeap (Value.ref C)=true from rfl)]
 refine wpAny_bind (L2.at (wpAny_bind (wpAny_attempt (wpAny_holding ?_))))
 unfold callGetattribute
 rw [if_neg (by exact Bool.false_ne_true)]
 unfold boundAndCalled
 have ga:=PySem.F.attrBase_ValueError.ga
 rw [ga.bind]
 refine wpAny_bind (wpAny_pure ?_)
 show wpAny _ _ (call (Value.builtin "BaseException.__getattribute__") [.ref a,.str "__class__" t]) _ _ _
 refine wpAny_call (codeAny_call_builtin ga.plain F.entry_bexc_ga ?_)
 have hk:builtinKind "BaseException.__getattribute__"=some .slot:=by decide +kernel
 have hsp:splitId "BaseException.__getattribute__"=some ("BaseException", "__getattribute__"):=by decide +kernel
 refine @check_slot (model prog w) _ _ _ "BaseException.__getattribute__" "BaseException" "__getattribute__" (.ref a) [.str "__class__" t] [] _ hk hsp L4 (F.args_bexc_ga (.ref a) (.str "__class__" t)) ?_
 unfold Builtin.«object.__getattribute__»
 refine wpAny_bind (wpAny_pure (wpAny_bind (wpAny_pure (wpAny_bind (L0.at (wpAny_bind (L3.at ?_)))))))
 show wpAny _ _ (bindTo (.builtin "getset_descriptor.__get__") (.builtin "object.__class__") (.ref a) (.ref C)) _ _ _
 unfold bindTo
 refine wpAny_bind (wpAny_holding (wpAny_call (class_get (ox:=ox) (od:=od) X I xc.ob ?_)))
 refine wpAny_pure ?_
 show wpAny _ _ (handedOut (.ref C)) _ _ _
 rw [handedOut_of rfl]
 exact wpAny_pure (wpAny_pure k)
theorem kitx_exc {x:Addr} (xc:XCl K C fI):KitX K (.ref x) (.ref C) (fun h=>∃ ox od,InstAt h x ox C od) where
 ty:=fun _ _ _ ⟨_,_,I⟩=>I.type
 it:=fun _ _ X _=>by
  obtain ⟨cdD,hcD,_⟩:=any_some xc.hd
  unfold clsIn at hcD
  split at hcD
  ·rename_i ho
   intro A' Q' E' s' k q
   unfold isType loadHead
   exact wpAny_bind (wpAny_loadPart (k _ _ (X _ _ ho)) (wpAny_pure q))
  ·cases hcD
 ne:=fun h tp dd its n sl X htp=>by
  obtain ⟨cdD,hcD,_⟩:=any_some xc.hd
  refine Bool.eq_false_iff.mpr fun q=>?_
  obtain rfl:C=tp:=Value.ref.inj (beq_iff_eq.mp q)
  unfold clsIn at hcD
  split at hcD
  ·rename_i ho
   have z:=(X _ _ ho).symm.trans htp
   cases z
  ·cases hcD
 ca:=fun X ⟨_,_,I⟩ k=>exc_class X xc I k
end
section
variable {X:Cx}
def XD (H:Hp):Option Addr->List (Str×V)->Prop
 | some d,fs=>H d=some (.ext (xdP d fs))
 | none,fs=>fs=[]
theorem XD.mono {H H':Hp} (s:Same H H'):∀ {o:Option Addr} {fs:List (Str×V)},XD H o fs->XD H' o fs
 | some _,_,h=>s _ _ h
 | none,_,h=>h
def ExcV (H:Hp) (x:V) (C:Addr) (fs:List (Str×V)):Prop:=∃ ea d,x=.ref ea/\H ea=some (.ext (excP ea C d))/\XD H d fs
theorem inst_of {pins:List (Addr×Obj)} {σ:St} {H:Hp} {s:Shared} {ea C:Addr} {d:Option Addr} {fs:List (Str×V)} (I:Inv X pins σ H s) (hea:H ea=some (.ext (excP ea C d))) (hd:XD H d fs):∃ ox od,InstAt s.heap ea ox C od:=by
 obtain ⟨⟨oe,vs,e1,e2,e3,e4,e5⟩,_,_⟩:=I.hok ea _ hea
 cases d with
 | some d =>
  obtain ⟨⟨mA,⟨o,es,ep,e,r⟩,_⟩,_,_⟩:=I.hok d _ hd
  exact ⟨oe,some o,e1,e2,by obtain ⟨c,dd,dt,sl⟩:=oe; cases e4; rfl,by rw [e3]; exact e⟩
 | none=>exact ⟨oe,none,e1,e2,by obtain ⟨c,dd,dt,sl⟩:=oe; cases e4; rfl,by rw [e3]; trivial⟩
def rIsiX (K:Frag):List V->Hp->VK->Prop:=fun xs H Q=>∃ x C fI fs c b,xs=[x,c]/\XCl K C fI/\ExcV H x C fs/\((∃ T,c=.ty T/\kitOne K (.ref C) (.type T)=some b)\/(∃ D,c=.ref D/\kitOne K (.ref C) (.ref D)=some b)\/∃ (tp:Addr) (cs:List Addr),c=.ref tp/\H tp=some (.tup (cs.map V.ref))/\kitAny K (.ref C) (cs.map Value.ref)=some b)/\Q (.bl b) H
theorem vals_refs:∀ {cs:List Addr} {us:List Value},Vals (cs.map V.ref) us->us=cs.map Value.ref
 | [],_,.nil=>rfl
 | _::_,_,.cons h r=>by rw [show _=Value.ref _ from h,vals_refs r]; rfl
theorem call_isiX {K:Frag} (hK:X.K=K):CallR X (.builtin "isinstance") (rIsiX K):=by
 subst hK
 intro pins s σ H xs us Q I r h
 obtain ⟨x,C,fI,fs,c,b,rfl,xc,⟨ea,d,rfl,hea,hd⟩,hc,q⟩:=h
 obtain ⟨u,w',rfl,ru,rw'⟩:=vals2 r
 obtain rfl:u=Value.ref ea:=ru
 have J:=inst_of I hea hd
 rcases hc with ⟨T,rfl,e⟩ | ⟨D,rfl,e⟩ | ⟨tp,cs,rfl,ht,e⟩
 ·cases rw'
  exact kia_one (kitx_exc xc) I.kIn J e (fun z=>nomatch z) fun tk=>⟨.bl b,H,I.tok tk,rfl,q⟩
 ·cases rw'
  exact kia_one (kitx_exc xc) I.kIn J e (fun z=>nomatch z) fun tk=>⟨.bl b,H,I.tok tk,rfl,q⟩
 ·cases rw'
  obtain ⟨_,its,rv,o,h1,h2,n,h3,h4⟩:=I.hok tp _ ht
  have hi:=vals_refs rv
  subst hi
  obtain ⟨oc,od,oda,osl⟩:=o
  dsimp only at h2 h3 h4
  subst h2 h3 h4
  exact kia_tup (kitx_exc xc) I.kIn J h1 e (fun z=>nomatch z) fun tk=>⟨.bl b,H,I.tok tk,rfl,q⟩
end
section
variable {X:Cx} {pins:List (Addr×Obj)} {σ:St} {e:Expr} {es:List Expr} {te:TE} {t:TA} {ts us:TS} {st:Stmt} {pos:Pos}
def PEF (X:Cx) (pins:List (Addr×Obj)) (σ:St) (e:Expr) (t:TE):Prop:=∀ (s:Shared) (H:Hp) (Q:VK),Inv X pins σ H s->t σ H Q->wpAny (model X.prog X.w) X.A (eval e X.env) (EP X pins σ Q) X.xe s
def PAF (X:Cx) (pins:List (Addr×Obj)) (σ:St) (es:List Expr) (t:TA):Prop:=∀ (pos:Pos) (s:Shared) (H:Hp) (Q:List V->Hp->Prop),Inv X pins σ H s->t σ H Q->wpAny (model X.prog X.w) X.A (spliced (backTo pos (starEach es X.env))) (AP X pins σ Q) X.xe s
theorem pef_of (h:PE X e te):PEF X pins σ e te:=fun s H Q I q=>h pins s σ H Q I q
theorem paf_of (h:PA X es t):PAF X pins σ es t:=fun pos s H Q I q=>h pos pins s σ H Q I q
theorem paf_cons (ha:PEF X pins σ e te) (hr:PAF X pins σ es t) (hs:starEach (e::es) X.env=(false,eval e X.env)::starEach es X.env:=by rfl):PAF X pins σ (e::es) (tCons te t):=by
 intro pos s H Q I h
 rw [hs]
 show wpAny _ _ (spliced ((false,eval e X.env)::backTo pos (starEach es X.env))) _ _ s
 exact Calls.spliced_cons (thn (ha s H _ I h) fun u s1 ⟨x,H1,I1,r1,q1⟩=>thn (hr pos s1 H1 _ I1 q1) fun us s2 ⟨xs,H2,I2,r2,q2⟩=>⟨x::xs,H2,I2,.cons r1 r2,q2⟩)
theorem pef_tup {x1} (h:PAF X pins σ es t):PEF X pins σ (.Tuple es x1 pos) (tTup t):=by
 intro s H Q I hq
 refine wpAny_Tuple_spliced (thn (h pos s H _ I hq) fun us s1 ⟨xs,H1,I1,r,z,q⟩=>⟨by rw [<- r.length]; exact z,?_⟩)
 have hf:H1 s1.heap.objs.size=none:=I1.hok.fresh (Nat.le_refl _)
 exact ⟨.ref s1.heap.objs.size,upd H1 s1.heap.objs.size (.tup xs),I1.laid (t':=s1.toks) (fun b u e=>Heap.get?_push_of_some _ e) (Nat.le_refl _) ⟨z,us,r,⟨_,Heap.get?_push_size _ rfl,rfl,_,rfl,rfl⟩⟩,rfl,q _ hf⟩
theorem run_fnF {CX:CXT} {k:Nat} {f:Addr} {fd:FuncData} {ps:List Str} {sp:Sp} {E:XK} {H:Hp} {s:Shared} {Q:VK} {us:List Value} {vs:List V} (F:FnOk X.prog X.w X.K X.mg X.base CX k f fd ps sp) (hr:Room k X.A) (hb:Binds X.K fd ps []) (hx:PassesF CX X pins σ E)
  (I:Inv X pins σ H s) (r:Vals vs us) (h:sp vs H Q E):wpAny (model X.prog X.w) X.A (call (.ref f) us) (EP X pins σ Q) X.xe s:=by
 have hl:(us++[]).length=ps.length:=by rw [List.append_nil,<- r.length]; exact F.len _ _ _ _ h
 have bb:=hb s us I.kIn hl
 rw [List.append_nil] at bb
 refine wpAny_call (codeAny_mono (F.run X.A X.stack s H ⟨us,[]⟩ us vs Q E hr I.env0 bb r h) fun r s' hq=>?_)
 cases r with
 | error e=>exact hx H s e s' I hq
 | ok fl =>
  cases fl with
  | ret u=>exact I.after hq
  | next=>exact False.elim hq
  | brk=>exact False.elim hq
  | cont=>exact False.elim hq
theorem pef_cal {k:Nat} {ps:List Str} {sp:Sp} {x:Str} {p:Pos} {E:XK} (C:CalE X.prog X.w X.K X.mg X.base x k ps sp) (hr:Room k X.A) (hg:Gl X x) (hx:PassesF (CXE X.prog X.w) X pins σ E) (ha:PA X (e::es) t) (hdb:(x == ("__debug__":Str))=false:=by decide)
  (he:starEach (e::es) X.env=(false,eval e X.env)::starEach es X.env:=by rfl) (hpl:(backTo pos (starEach es X.env)).any (·.1)=false:=by rfl):PEF X pins σ (.Call (.Name x p) (e::es) [] pos) (tCall sp [] E t):=by
 intro s H Q I h
 obtain ⟨f,fd,F,hm,hk,hb⟩:=C
 refine wpAny_Call_Name_kw (ld_glob I hg hm ?_ hdb)
 refine W.callWith_K (h₀:=X.base) I.ok.mod.kin hk (thn (ha pos pins s σ H _ I h) fun us s1 ⟨vs,H1,I1,r,q⟩=>⟨I1.kIn,?_⟩) he hpl
 exact run_fnF F hr hb hx I1 r (by have q':sp (vs++[]) H1 Q E:=q; rw [List.append_nil] at q'; exact q')
def PSF1 (X:Cx) (pins:List (Addr×Obj)) (σ:St) (st:Stmt) (t:TS):Prop:=∀ (s:Shared) (H:Hp) (D:Ends),Inv X pins σ H s->t D σ H->wpAny (model X.prog X.w) X.A (exec st X.env) (SP X pins D) X.xe s
theorem psf_one (h:PSF1 X pins σ st ts):PSF X pins σ [st] ts:=by
 intro s H D I q
 refine wpAny_execs_cons (wpAny_mono (h s H D I q) (fun f s1 h1=>?_) fun _ _ z=>z)
 cases f with
 | next=>exact wpAny_execs_nil h1
 | brk=>exact h1
 | cont=>exact h1
 | ret u=>exact h1
theorem psf_ret (he:PEF X pins σ e te):PSF1 X pins σ (.Return (some e) pos) (tRet te):=by
 intro s H D I h
 exact wpAny_Return_some (thn (he s H _ I h) fun v s1 ⟨y,H1,I1,r1,q1⟩=>⟨y,σ,H1,I1,r1,q1⟩)
end
end L2
namespace L2
open PySem PySem.Spec PyProof.Rows PySem.W
def spX1 (C:Addr) (f:Str):Sp:=fun vs H Q _=>∃ (ea:Addr) (y:V),vs=[.ref ea,y]/\H ea=some (.ext (excN ea C none))/\∀ d,H d=none->d≠ea->Q .non (upd (upd H ea (.ext (excN ea C (some d)))) d (.ext (xdP d [(f,y)])))
def Clean (R:List En):Prop:=∀ e∈R,e.2≠none
def Ends1 (S:List Pr) (ns:List Int) (R:List En) (pl:Nat):Prop:=Went S ns R pl/\Clean R/\(ns.length<=pl\/(pl < ns.length/\∀ p∈S,¬ p.2<+:ns.drop pl))
theorem Ends1.perm {S L:List Pr} {ns:List Int} {R:List En} {pl:Nat} (h:Ends1 S ns R pl) (p:S.Perm L):Ends1 L ns R pl :=
 ⟨h.1.perm p,h.2.1,h.2.2.imp (fun z=>z) fun ⟨a,b⟩=>⟨a,fun q hq=>b q (p.mem_iff.mpr hq)⟩⟩
theorem cale_mk {P:Program} {w:World} {K:Frag} {mg:Str->Option Value} {base:Heap} {x:Str} {st:Stmt} {f:Addr} {fd:FuncData} {k:Nat} {ps:List Str} {sp:Sp} (F:Fun K x x st f fd) (G:FnOk P w K mg base (CXE P w) k f fd ps sp) (m:mg x=some (.ref f)) (b:Binds K fd ps []) :
  CalE P w K mg base x k ps sp:=⟨f,fd,G,m,F.kp,b⟩
theorem boot_ValueError:bootBuiltins "ValueError"=some (.type "ValueError"):=by kernel_rfl
theorem bk_xfld {X:Cx} {K:Frag} {o:Expr} {f:Str} {pos:Pos} {ta:TE} (h:X.K=K) (ha:PE X o ta) (hb:attributeBase o f X.env (eval o X.env)=eval o X.env):PE X (.Attribute o f pos) (tXFld K ta f):=by subst h; exact pe_xfld ha hb
def lacksAt (S:List Pr) (ts:List Int) (i:Nat):Bool:=match ts[i]? with | some s=>S.all fun p=>decide (p.1≠s) | none=>false
def lk (S:List Pr) (ts:List Int) (j:Nat):List Int:=((List.range j).filter (lacksAt S ts)).map fun i:Nat=>(i:Int)
def Texts (S T:List Pr) (ts:List Int) (i:Nat):Prop:=(∀ p∈T,p∈S)/\signsOf T=ts.take i
theorem Texts.len {S T:List Pr} {ts:List Int} {i:Nat} (h:Texts S T ts i) (hi:i<=ts.length):T.length=i:=by
 have:=congrArg List.length h.2
 unfold signsOf at this
 rw [List.length_map,List.length_take] at this
 omega
theorem wordsBy.perm {H:Hp} {k:List (Key×V)} {S L:List Pr} (h:wordsBy H k L) (p:S.Perm L):wordsBy H k S:=⟨fun q hq=>h.1 q (p.mem_iff.mp hq),fun s hs=>h.2 s fun q hq=>hs q (p.mem_iff.mpr hq)⟩
theorem wordsBy.same {H H':Hp} {k:List (Key×V)} {S:List Pr} (h:wordsBy H k S) (s:Same H H'):wordsBy H' k S:=⟨fun q hq=>let ⟨t,a,b⟩:=h.1 q hq; ⟨t,a,s _ _ b⟩,h.2⟩
end L2
namespace L2
open PySem PySem.Spec PyProof.Rows
section
variable {K:Type} [DecidableEq K] {A:Around} {s:Shared}
inductive HitsH (A:Around) (s:Shared) (kb:List (K×Addr×Value)):List (K×Addr×Value)->Bool->Prop
 | nil:HitsH A s kb [] true
 | miss {k:K} {a:Addr} {v:Value} {r:List (K×Addr×Value)}:(∀ (j:Nat) (p:Addr×Value),kb[j]?≠some (k,p))->HitsH A s kb ((k,a,v)::r) false
 | hit {k:K} {a:Addr} {v:Value} {r:List (K×Addr×Value)} {j:Nat} {p:Addr×Value} {e b:Bool}:kb[j]?=some (k,p)->SeqAt.EqAt A s v p.2 e->HitsH A s kb r b->HitsH A s kb ((k,a,v)::r) (e && b)
end
section
variable {X:Cx} {pins:List (Addr×Obj)} {σ:St} {c:Expr} {a b:List Stmt} {tc:TT} {t u:TS} {pos:Pos}
theorem psf_if (hc:PT X c tc) (ha:PSF X pins σ a t) (hb:PSF X pins σ b u):PSF1 X pins σ (.If c a b pos) (tIfS tc t u):=by
 intro s H D I h
 refine wpAny_If (thn (hc pins s σ H _ I h) fun d s1 ⟨H1,I1,q1⟩=>?_)
 cases d with
 | true=>exact ha s1 H1 D I1 q1
 | false=>exact hb s1 H1 D I1 q1
end
end L2
namespace L2
open PySem PySem.Spec PyProof.Rows PySem.W
section
variable {X:Cx} {pos:Pos}
def CaughtS (X:Cx) (pins:List (Addr×Obj)) (Ex:St->XK) (e:Value) (s':Shared):Prop:=∃ σ,Caught X pins σ (Ex σ) e s'
theorem passS {pins:List (Addr×Obj)} {Ex:St->XK} (σ:St):PassesF (CXE X.prog X.w) (X.wish (CaughtS X pins Ex)) pins σ (Ex σ):=by
 intro H s e s' I hx
 obtain ⟨ea,C,T,d,H2,rfl,os,bare,un,hok,hea,lea,nT,lT,fl,q⟩:=hx
 have I':=I.unwish
 have I2:Inv X pins σ H2 s':=I'.call' os un hok bare (ch:=[]) fun b z=>absurd z (by simp)
 exact ⟨σ,ea,C,T,d,H2,rfl,I2,hea,fl,I'.fpOk lT nT,q⟩
def tTryS (tb:(St->XK)->TS) (th:TH):TS:=fun D σ H=>tb (fun σ' cls d H'=>∃ C,cls=.ref C/\∀ ea,H' ea=some (.ext (excP ea C d))->th C d ea D σ' H') D σ H
theorem ps_tryS {bd:List Stmt} {h0:ExceptHandler} {hs:List ExceptHandler} {tb:(St->XK)->TS} {th:TH} {L:Addr} (hst:X.stack=X.env::X.outer) (hf:X.env.frame=some L)
  (hb:∀ (pins:List (Addr×Obj)) (σ:St) (xe:Value->Shared->Prop) (Ex:St->XK),(∀ σ,PassesF (CXE X.prog X.w) (X.wish xe) pins σ (Ex σ))->PSF (X.wish xe) pins σ bd (tb Ex)) (hh:HS X (h0::hs) th) :
  PS X (.Try bd (h0::hs) [] [] pos) (tTryS tb th):=by
 intro pins s σ H D I h
 refine wpAny_Try_except (wpAny_mono (hb pins σ _ _ passS s H D (I.wish _) h) (fun f s1 h1=>?_) fun e s1 h1=>?_)
 ·have h2:=h1.unwish
  cases f with
  | next=>exact wpAny_execs_nil h2
  | brk=>exact h2
  | cont=>exact h2
  | ret u=>exact h2
 ·obtain ⟨σ1,ea,C,T,d,H1,rfl,I1,hea,fl,fp,C',hC,k⟩:=h1
  cases hC
  obtain ⟨oe,vs,oT,ts,e1,d1,v1,e2,d2,t3,ne⟩:=fl
  refine noted_next (base:=X.base) (by rw [I1.ok.frames,hst]) (by have:=I1.stack; rw [hst] at this; exact this) hf e1 d1 v1 e2 d2 t3 ne fun h' g=>?_
  rw [<- hst] at g
  have I2:=I1.noted hea e1 d1 (fun T' z=>by cases z; exact fp) g
  obtain ⟨T',lT,fl'⟩:=g.flies
  exact hh pins _ σ1 H1 ea C T' d D I2 hea fl' (I1.fpOk lT (I1.hok.fresh lT)) (k ea hea)
end
end L2
namespace L2
open PySem PySem.Spec PyProof.Rows
def rFind:V->List V->Hp->VK->Prop:=fun x xs H Q=>∃ z y:Str,x=.str z/\xs=[.str y]/\Q (.int (Txt.find z y)) H
theorem mt_find {X:Cx}:MtR X "str.find" rFind:=by
 intro pins s σ H x xs v us Q I rx r h
 obtain ⟨z,y,rfl,rfl,q⟩:=h
 obtain ⟨t,rfl⟩:=rx
 obtain ⟨u,rfl,ru⟩:=vals1 r
 obtain ⟨t2,rfl⟩:=ru
 exact SC.find ⟨.int _,H,I.tok _,⟨_,rfl⟩,q⟩
def It2 (m:Nat):It:=⟨fun i _=>i < m,fun i H x H'=>H'=H/\x=.int (2 * i),fun i _=>m<=i⟩
theorem size_two (m:Nat):Builtin.Range.rangeSize 0 (2 * (m:Int)) 2=(m:Int):=by
 unfold Builtin.Range.rangeSize
 simp only [show ((2:Int) > 0) by decide,if_true]
 split <;> omega
theorem small_two {m:Nat} (h:(m:Int) < 2 ^ 60):Builtin.Range.small 0 (2 * (m:Int)) 2=true:=by
 generalize hm:(m:Int)=z at h
 have hz:0<=z:=by omega
 have hs:Builtin.Range.rangeSize 0 (2 * z) 2=z:=by rw [<- hm]; exact size_two m
 unfold Builtin.Range.small
 rw [hs]
 simp only [Builtin.Range.rangeFitsLong,Bool.and_eq_true,Bool.or_eq_true,decide_eq_true_eq,beq_iff_eq,show ((2:Int) > 0) by decide,if_true]
 omega
theorem turn_two {P:Program} {w:World} {K:W.Frag} {tg:Expr} (it:Addr) (n:Nat):Turn P w K tg (It2 n) [it] it (fun i h=>IsRangeIter h it (0 + (i:Nat) * 2) ((n:Int) - (i:Nat)) 2) where
 mem:=by simp
 obj:=fun i h st b hb=>by
  have e:b=it:=by simpa using hb
  subst e
  exact ⟨_,st,fun v z=>by
   have z':Data.fields _=Data.cell v:=z
   cases z'⟩
 keep:=fun i h h' st k=>k it (by simp) _ st
 item:=by
  intro X hP hw hK hc i pins s σ H E I hf st hg
  subst hP hw hK
  obtain ⟨f0,f1,f2,f3,f4,f5⟩:=hf it (by simp)
  have W:=Walks.range (prog:=X.prog) (w:=X.w) (I.ok.hd hc) it 0 2 n
  refine W.item i s _ _ hg st fun v h' tk hv st' kk=>?_
  obtain ⟨t,rfl⟩:=hv
  have I1:Inv X pins σ H { s with heap:=h',toks:=tk }:=I.turned (fun b o hb e=>kk b o (by simpa using hb) e) f0 f1 f3 f4 f5
  refine ⟨_,rfl,go_of (s:={ s with heap:=h',toks:=tk }) (n:="range_iterator") st' rfl rfl (by decide) ⟨.int (2 * i),H,I1,⟨t,?_⟩,⟨rfl,rfl⟩,st',fun b hb=>(hf b hb).1⟩⟩
  rw [show 2 * (i:Int)=0 + (i:Int) * 2 by omega]
 done:=by
  intro X hP hw hK hc i pins s σ H E I hf st hg
  subst hP hw hK
  obtain ⟨f0,f1,f2,f3,f4,f5⟩:=hf it (by simp)
  exact wpAny_pyNext_range_end (I.ok.hd hc) st (by have:n<=i:=hg; omega) fun h' eb=>⟨rfl,I.turned (t':=s.toks) (fun b o hb e=>eb b o hb e) f0 f1 f3 f4 f5⟩
 self:=fun _ _ _ _ _ st h=>wpAny_pyIter_rangeiter st h
section
variable {X:Cx} {tg:Expr}
theorem range_it2 {pins:List (Addr×Obj)} {σ:St} {H:Hp} {s:Shared} {R:It->Hp->Prop} {E:Value->Shared->Prop} {m:Nat} {t u v:Tok} {tk:Nat} (I:Inv X pins σ H s) (h1:(m:Int) < 2 ^ 60)
  (q:R (It2 m) H):wpAny (model X.prog X.w) X.A (pyIter (.ref s.heap.objs.size)) (PIE X pins σ tg R) E { s with heap:=s.heap.push { cls:=.type "range",data:=.fields #[.int 0 t,.int (2 * (m:Int)) u,.int 2 v] },toks:=tk }:=by
 refine wpAny_pyIter_range (IsRange.new ..) (small_two h1) ?_
 have I1:Inv X pins σ H { s with heap:=s.heap.push { cls:=.type "range",data:=.fields #[.int 0 t,.int (2 * (m:Int)) u,.int 2 v] },toks:=tk }:=I.kept fun b o e=>Heap.get?_push_of_some _ e
 refine ⟨(s.heap.push { cls:=.type "range",data:=.fields #[.int 0 t,.int (2 * (m:Int)) u,.int 2 v] }).objs.size,[(s.heap.push { cls:=.type "range",data:=.fields #[.int 0 t,.int (2 * (m:Int)) u,.int 2 v] }).objs.size],_,_,H,rfl,
  I1.kept (t':=tk) fun b o e=>Heap.get?_push_of_some _ e,turn_two _ m,?_,fun b hb=>?_,q⟩
 ·have e1:(0:Int) + ((0:Nat):Int) * 2=0:=by simp
  have e2:(m:Int) - ((0:Nat):Int)=Builtin.Range.rangeSize 0 (2 * (m:Int)) 2:=by rw [size_two]; simp
  show IsRangeIter _ _ ((0:Int) + ((0:Nat):Int) * 2) ((m:Int) - ((0:Nat):Int)) 2
  rw [e1,e2]
  exact Heap.get?_push_size _ rfl
 ·have e:b=(s.heap.push { cls:=.type "range",data:=.fields #[.int 0 t,.int (2 * (m:Int)) u,.int 2 v] }).objs.size:=by simpa using hb
  subst e
  exact I1.fpOk (Nat.le_refl _) (I1.hok.fresh (Nat.le_refl _))
def iRngT (ta:TA):TI:=fun σ H R=>ta σ H fun vs H1=>∃ m:Nat,vs=[.int 0,.int (2 * (m:Int)),.int 2]/\(m:Int) < 2 ^ 60/\R (It2 m) H1
theorem pi_rangeT {a b c:Expr} {ta:TA} {p pos:Pos} (hg:Gl X "range") (hm:X.mg "range"=none) (ha:PA X [a,b,c] ta) (hs:starEach [a,b,c] X.env=[(false,eval a X.env),(false,eval b X.env),(false,eval c X.env)]:=by rfl) (hs2:starEach [b,c] X.env=[(false,eval b X.env),(false,eval c X.env)]:=by rfl) :
  PI X tg (.Call (.Name "range" p) [a,b,c] [] pos) (iRngT ta):=by
 intro pins s σ H R I h
 refine Call_ (ld_blt I hg hm boot_range (PyProof.Rows.callWith_type1 (thn (ha pos pins s σ H _ I h) fun us s1 ⟨vs,H1,I1,r1,q1⟩=>?_) (by rw [hs,hs2]) (by rw [hs2]; rfl)))
 obtain ⟨m,e,q1,q⟩:=q1
 subst e
 cases r1 with
 | cons r rr =>
  cases rr with
  | cons r' rr =>
   cases rr with
   | cons r'' rr =>
    cases rr
    obtain ⟨t,rfl⟩:=r
    obtain ⟨t',rfl⟩:=r'
    obtain ⟨t'',rfl⟩:=r''
    exact call_range_3 (by decide) (range_it2 I1 q1 q) (.inl (PyProof.noPylong_small (by omega)))
def rStarts:V->List V->Hp->VK->Prop:=fun x xs H Q=>∃ z y:Str,x=.str z/\xs=[.str y]/\Q (.bl (Txt.startswith z y)) H
theorem mt_starts:MtR X "str.startswith" rStarts:=by
 intro pins s σ H x xs v us Q I rx r h
 obtain ⟨z,y,rfl,rfl,q⟩:=h
 obtain ⟨t,rfl⟩:=rx
 obtain ⟨u,rfl,ru⟩:=vals1 r
 obtain ⟨t2,rfl⟩:=ru
 exact SC.startswith ⟨.bl _,H,I,rfl,q⟩
def rIndexS:V->List V->Hp->VK->Prop:=fun x xs H Q=>∃ (z y:Str) (i:Nat) (rest:List Nat),x=.str z/\xs=[.str y]/\Builtin.Str.occurrences z y 0 z.length 1=i::rest/\Q (.int i) H
theorem mt_indexS:MtR X "str.index" rIndexS:=by
 intro pins s σ H x xs v us Q I rx r h
 obtain ⟨z,y,i,rest,rfl,rfl,e,q⟩:=h
 obtain ⟨t,rfl⟩:=rx
 obtain ⟨u,rfl,ru⟩:=vals1 r
 obtain ⟨t2,rfl⟩:=ru
 exact SC.index e ⟨.int _,H,I.tok _,⟨_,rfl⟩,q⟩
theorem call_intS:CallR X (.type "int") (fun xs H Q=>∃ (z:Str) (n:Int),xs=[.str z]/\PySem.intText? z=some n/\z.length<=640/\Q (.int n) H):=by
 intro pins s σ H xs us Q I r h
 obtain ⟨z,n,rfl,e,hl,q⟩:=h
 obtain ⟨u,rfl,ru⟩:=vals1 r
 obtain ⟨t2,rfl⟩:=ru
 exact W.KIN.call_text e hl ⟨.int _,H,I.tok _,⟨_,rfl⟩,q⟩
end
theorem psf_nil {X:Cx} {pins:List (Addr×Obj)} {σ:St}:PSF X pins σ [] tNext:=fun s H D I h=>wpAny_execs_nil ⟨σ,H,I,h⟩
theorem ps_try3 {X:Cx} {pos:Pos} {s1 s2 s3:Stmt} {h0:ExceptHandler} {hs:List ExceptHandler} {t1 t2 t3:XK->TS} {th:TH} {L:Addr} (hst:X.stack=X.env::X.outer) (hf:X.env.frame=some L)
  (h1:∀ (pins:List (Addr×Obj)) (σ:St) (xe:Value->Shared->Prop) (Ex:XK),PassesF (CXE X.prog X.w) (X.wish xe) pins σ Ex->PSF1 (X.wish xe) pins σ s1 (t1 Ex))
  (h2:∀ (pins:List (Addr×Obj)) (σ:St) (xe:Value->Shared->Prop) (Ex:XK),PassesF (CXE X.prog X.w) (X.wish xe) pins σ Ex->PSF1 (X.wish xe) pins σ s2 (t2 Ex))
  (h3:∀ (pins:List (Addr×Obj)) (σ:St) (xe:Value->Shared->Prop) (Ex:XK),PassesF (CXE X.prog X.w) (X.wish xe) pins σ Ex->PSF1 (X.wish xe) pins σ s3 (t3 Ex)) (hh:HS X (h0::hs) th) :
  PS X (.Try [s1,s2,s3] (h0::hs) [] [] pos) (tTryS (fun Ex D σ H=>t1 (Ex σ) { D with nx:=fun σ' H'=>t2 (Ex σ') { D with nx:=fun σ2 H2=>t3 (Ex σ2) D σ2 H2 } σ' H' } σ H) th):=by
 refine ps_tryS hst hf (fun pins σ xe Ex hp=>?_) hh
 intro s H D I q
 refine wpAny_execs_cons (wpAny_mono (h1 pins σ xe (Ex σ) (hp σ) s H _ I q) (fun f s3 h3'=>?_) fun _ _ z=>z)
 cases f with
 | next =>
  obtain ⟨σ',H',I',q'⟩:=h3'
  refine wpAny_execs_cons (wpAny_mono (h2 pins σ' xe (Ex σ') (hp σ') s3 H' _ I' q') (fun f s4 h4=>?_) fun _ _ z=>z)
  cases f with
  | next=>obtain ⟨σ2,H2,I2,q2⟩:=h4; exact psf_one (h3 pins σ2 xe (Ex σ2) (hp σ2)) s4 H2 D I2 q2
  | brk=>exact h4
  | cont=>exact h4
  | ret u=>exact h4
 | brk=>exact h3'
 | cont=>exact h3'
 | ret u=>exact h3'
end L2
namespace L3
open PySem L2
structure Cf where
 c:Addr
 k:W.Frag
inductive D where
 | non | bl (b:Bool) | int (i:Int) | str (x:Str) | ty (n:String) | at (a:Addr)
 | tup (xs:List D) | lst (xs:List D) | frz (xs:List D) | dct (kvs:List (Key×D)) | dcT (kvs:List (List Key×D))
 | code (S:List Pr) | cell (k:Nat) | exc (C:Addr) (fs:List (Str×D))
inductive MO where
 | lst (xs:List D) | dct (kvs:List (Key×D)) | dcT (kvs:List (List Key×D)) | drK (kvs:List (Key×D)) | drT (kvs:List (List Key×D)) | dfT (o:Obj) (vs:List (List Key×V)) (kvs:List (List Key×D)) | dfK (o:Obj) (vs:List (Key×V)) (kvs:List (Key×D)) | ins (C:Addr) (fs:List (Str×D)) | hand | tab (P:Addr) (pos:Pos) (q:Str)
abbrev Mem:=List MO
mutual
inductive Rep (C:Cf) (I:Hp) (α:List Addr):V->D->Prop where
 | non:Rep C I α .non .non
 | bl (b:Bool):Rep C I α (.bl b) (.bl b)
 | int (i:Int):Rep C I α (.int i) (.int i)
 | str (x:Str):Rep C I α (.str x) (.str x)
 | ty (n:String):Rep C I α (.ty n) (.ty n)
 | at (a:Addr):Rep C I α (.ref a) (.at a)
 | tup {a:Addr} {vs:List V} {ds:List D}:I a=some (.tup vs)->Reps C I α vs ds->Rep C I α (.ref a) (.tup ds)
 | lst {a:Addr} {vs:List V} {ds:List D}:I a=some (.lst vs)->Reps C I α vs ds->Rep C I α (.ref a) (.lst ds)
 | frz {a:Addr} {vs:List V} {ds:List D}:SqL C.k I a vs->Reps C I α vs ds->Rep C I α (.ref a) (.frz ds)
 | dct {a:Addr} {vs:List (Key×V)} {ds:List (Key×D)}:I a=some (.dK vs)->RepK C I α vs ds->Rep C I α (.ref a) (.dct ds)
 | dcT {a:Addr} {vs:List (List Key×V)} {ds:List (List Key×D)}:I a=some (.dT vs)->RepT C I α vs ds->Rep C I α (.ref a) (.dcT ds)
 | code {x:Addr} {S:List Pr}:CodeAt C.c I x S->Rep C I α (.ref x) (.code S)
 | cell {a:Addr} {k:Nat}:α[k]?=some a->Rep C I α (.ref a) (.cell k)
 | exc {ea Ce:Addr} {d:Option Addr} {vs:List (Str×V)} {fs:List (Str×D)}:I ea=some (.ext (excP ea Ce d))->XD I d vs->RepF C I α vs fs->Rep C I α (.ref ea) (.exc Ce fs)
inductive Reps (C:Cf) (I:Hp) (α:List Addr):List V->List D->Prop where
 | nil:Reps C I α [] []
 | cons {v:V} {d:D} {vs:List V} {ds:List D}:Rep C I α v d->Reps C I α vs ds->Reps C I α (v::vs) (d::ds)
inductive RepK (C:Cf) (I:Hp) (α:List Addr):List (Key×V)->List (Key×D)->Prop where
 | nil:RepK C I α [] []
 | cons {k:Key} {v:V} {d:D} {vs:List (Key×V)} {ds:List (Key×D)}:Rep C I α v d->RepK C I α vs ds->RepK C I α ((k,v)::vs) ((k,d)::ds)
inductive RepF (C:Cf) (I:Hp) (α:List Addr):List (Str×V)->List (Str×D)->Prop where
 | nil:RepF C I α [] []
 | cons {k:Str} {v:V} {d:D} {vs:List (Str×V)} {ds:List (Str×D)}:Rep C I α v d->RepF C I α vs ds->RepF C I α ((k,v)::vs) ((k,d)::ds)
inductive RepT (C:Cf) (I:Hp) (α:List Addr):List (List Key×V)->List (List Key×D)->Prop where
 | nil:RepT C I α [] []
 | cons {k:List Key} {v:V} {d:D} {vs:List (List Key×V)} {ds:List (List Key×D)}:Rep C I α v d->RepT C I α vs ds->RepT C I α ((k,v)::vs) ((k,d)::ds)
end
section
variable {C:Cf} {I I':Hp} {α α':List Addr}
theorem pre_get {k:Nat} {a:Addr} (p:α<+:α') (h:α[k]?=some a):α'[k]?=some a:=by
 obtain ⟨t,rfl⟩:=p
 obtain ⟨hk,_⟩:=List.getElem?_eq_some_iff.mp h
 rw [List.getElem?_append_left hk]
 exact h
mutual
theorem Rep.mono (s:Same I I') (p:α<+:α'):∀ {v:V} {d:D},Rep C I α v d->Rep C I' α' v d:=by
 intro _ _ h
 cases h with
 | non=>exact .non
 | bl b=>exact .bl b
 | int i=>exact .int i
 | str x=>exact .str x
 | ty n=>exact .ty n
 | «at» a=>exact .at a
 | tup e r=>exact .tup (s _ _ e) (Reps.mono s p r)
 | lst e r=>exact .lst (s _ _ e) (Reps.mono s p r)
 | frz e r=>exact .frz (s.seq e) (Reps.mono s p r)
 | dct e r=>exact .dct (s _ _ e) (RepK.mono s p r)
 | dcT e r=>exact .dcT (s _ _ e) (RepT.mono s p r)
 | code h=>exact .code (h.same s)
 | cell e=>exact .cell (pre_get p e)
 | exc e f r=>exact .exc (s _ _ e) (f.mono s) (RepF.mono s p r)
theorem Reps.mono (s:Same I I') (p:α<+:α'):∀ {vs:List V} {ds:List D},Reps C I α vs ds->Reps C I' α' vs ds:=by
 intro _ _ h
 cases h with
 | nil=>exact .nil
 | cons h r=>exact .cons (Rep.mono s p h) (Reps.mono s p r)
theorem RepK.mono (s:Same I I') (p:α<+:α'):∀ {vs:List (Key×V)} {ds:List (Key×D)},RepK C I α vs ds->RepK C I' α' vs ds:=by
 intro _ _ h
 cases h with
 | nil=>exact .nil
 | cons h r=>exact .cons (Rep.mono s p h) (RepK.mono s p r)
theorem RepF.mono (s:Same I I') (p:α<+:α'):∀ {vs:List (Str×V)} {ds:List (Str×D)},RepF C I α vs ds->RepF C I' α' vs ds:=by
 intro _ _ h
 cases h with
 | nil=>exact .nil
 | cons h r=>exact .cons (Rep.mono s p h) (RepF.mono s p r)
theorem RepT.mono (s:Same I I') (p:α<+:α'):∀ {vs:List (List Key×V)} {ds:List (List Key×D)},RepT C I α vs ds->RepT C I' α' vs ds:=by
 intro _ _ h
 cases h with
 | nil=>exact .nil
 | cons h r=>exact .cons (Rep.mono s p h) (RepT.mono s p r)
end
theorem Reps.length:∀ {vs:List V} {ds:List D},Reps C I α vs ds->vs.length=ds.length
 | _,_,.nil=>rfl
 | _,_,.cons _ r=>by rw [List.length_cons,List.length_cons,Reps.length r]
theorem Reps.get:∀ {vs:List V} {ds:List D} {i:Nat} {d:D},Reps C I α vs ds->ds[i]?=some d->∃ v,vs[i]?=some v/\Rep C I α v d
 | _,_,_,_,.nil,e=>by simp at e
 | _,_,0,_,.cons r _,e=>by simp at e; subst e; exact ⟨_,rfl,r⟩
 | _,_,i + 1,d,.cons _ t,e=>by
  obtain ⟨u,h1,h2⟩:=Reps.get (i:=i) (d:=d) t (by simpa using e)
  exact ⟨u,by simpa using h1,h2⟩
theorem Reps.at:∀ {vs:List V} {ds:List D} {i:Nat},Reps C I α vs ds->(h1:i < vs.length)->(h2:i < ds.length)->Rep C I α vs[i] ds[i]:=fun {vs ds i} r h1 h2=>by
 obtain ⟨v,e,z⟩:=r.get (List.getElem?_eq_getElem h2)
 rw [List.getElem?_eq_getElem h1] at e
 cases e
 exact z
theorem Reps.app:∀ {vs ws:List V} {ds es:List D},Reps C I α vs ds->Reps C I α ws es->Reps C I α (vs++ws) (ds++es)
 | _,_,_,_,.nil,s=>s
 | _,_,_,_,.cons r t,s=>.cons r (Reps.app t s)
theorem Reps.one {v:V} {d:D} (h:Rep C I α v d):Reps C I α [v] [d]:=.cons h .nil
theorem Reps.take:∀ {vs:List V} {ds:List D} (n:Nat),Reps C I α vs ds->Reps C I α (vs.take n) (ds.take n)
 | _,_,0,_=>.nil
 | _,_,_ + 1,.nil=>.nil
 | _,_,n + 1,.cons r t=>.cons r (Reps.take n t)
theorem Reps.drop:∀ {vs:List V} {ds:List D} (n:Nat),Reps C I α vs ds->Reps C I α (vs.drop n) (ds.drop n)
 | _,_,0,r=>r
 | _,_,_ + 1,.nil=>.nil
 | _,_,n + 1,.cons _ t=>Reps.drop n t
theorem Reps.set {v:V} {d:D} (r:Rep C I α v d):∀ {vs:List V} {ds:List D} (i:Nat),Reps C I α vs ds->Reps C I α (vs.set i v) (ds.set i d)
 | _,_,_,.nil=>.nil
 | _,_,0,.cons _ t=>.cons r t
 | _,_,i + 1,.cons q t=>.cons q (Reps.set r i t)
theorem Reps.ints:∀ (ns:List Int),Reps C I α (ns.map V.int) (ns.map D.int)
 | []=>.nil
 | n::r=>.cons (.int n) (Reps.ints r)
theorem Reps.of_ints:∀ {vs:List V} (ns:List Int),Reps C I α vs (ns.map D.int)->vs=ns.map V.int
 | _,[],h=>by cases h; rfl
 | _,n::r,h=>by
  cases h with
  | cons a b =>
   cases a
   rw [Reps.of_ints r b]
   rfl
end
def MoAt (C:Cf) (I:Hp) (α:List Addr) (H:Hp) (a:Addr):MO->Prop
 | .lst ds=>∃ vs,H a=some (.lst vs)/\Reps C I α vs ds
 | .dct ds=>∃ vs,H a=some (.dK vs)/\RepK C I α vs ds
 | .dcT ds=>∃ vs,H a=some (.dT vs)/\RepT C I α vs ds
 | .drK ds=>∃ vs,Rd H a (.dK vs)/\RepK C I α vs ds
 | .drT ds=>∃ vs,Rd H a (.dT vs)/\RepT C I α vs ds
 | .dfT o vs ds=>H a=some (.frz o (.dT vs))/\RepT C I α vs ds
 | .dfK o vs ds=>H a=some (.frz o (.dK vs))/\RepK C I α vs ds
 | .ins Cl fs=>∃ dx vs,H a=some (.ins Cl dx vs)/\Paired (fun (p:Str×V) (q:Str×D)=>p.1=q.1/\Rep C I α p.2 q.2) vs fs
 | .hand=>∃ (d k:Int) (c:Addr) (cs:List Int),H a=some (.lst [.int d,.int k,.ref c])/\I c=some (.lst (cs.map V.int))/\cs≠[]/\cs.length<=63/\0<=d/\0<=k/\∀ c∈cs,0<=c
 | .tab P pos q=>a=P/\∃ ps,H a=some (.tbl ps)/\TriplesOk ps.toList/\(codeAmong pos ps.toList=none\/∃ c,codeAmong pos ps.toList=some (.ref c)/\I c=some (codeφ c q))
theorem MoAt.some {C:Cf} {I:Hp} {α:List Addr} {H:Hp} {a:Addr} {m:MO} (h:MoAt C I α H a m):∃ o,H a=some o:=by
 cases m with
 | lst ds=>obtain ⟨vs,e,_⟩:=h; exact ⟨_,e⟩
 | dct ds=>obtain ⟨vs,e,_⟩:=h; exact ⟨_,e⟩
 | dcT ds=>obtain ⟨vs,e,_⟩:=h; exact ⟨_,e⟩
 | drK ds=>obtain ⟨vs,e,_⟩:=h; rcases e with e | ⟨o,e⟩ <;> exact ⟨_,e⟩
 | drT ds=>obtain ⟨vs,e,_⟩:=h; rcases e with e | ⟨o,e⟩ <;> exact ⟨_,e⟩
 | dfT o vs ds=>exact ⟨_,h.1⟩
 | dfK o vs ds=>exact ⟨_,h.1⟩
 | ins Cl fs=>obtain ⟨dx,vs,e,_⟩:=h; exact ⟨_,e⟩
 | hand=>obtain ⟨d,k,c,cs,e,_⟩:=h; exact ⟨_,e⟩
 | tab P pos q=>obtain ⟨_,ps,e,_⟩:=h; exact ⟨_,e⟩
theorem MoAt.mono {C:Cf} {I I':Hp} {α α':List Addr} {H H':Hp} {a:Addr} {m:MO} (h:MoAt C I α H a m) (s:Same I I') (p:α<+:α') (e:H' a=H a):MoAt C I' α' H' a m:=by
 cases m with
 | lst ds=>obtain ⟨vs,e1,r⟩:=h; exact ⟨vs,e.trans e1,r.mono s p⟩
 | dct ds=>obtain ⟨vs,e1,r⟩:=h; exact ⟨vs,e.trans e1,r.mono s p⟩
 | dcT ds=>obtain ⟨vs,e1,r⟩:=h; exact ⟨vs,e.trans e1,r.mono s p⟩
 | drK ds=>obtain ⟨vs,e1,r⟩:=h; exact ⟨vs,e1.imp (fun z=>e.trans z) (fun ⟨o,z⟩=>⟨o,e.trans z⟩),r.mono s p⟩
 | drT ds=>obtain ⟨vs,e1,r⟩:=h; exact ⟨vs,e1.imp (fun z=>e.trans z) (fun ⟨o,z⟩=>⟨o,e.trans z⟩),r.mono s p⟩
 | dfT o vs ds=>exact ⟨e.trans h.1,h.2.mono s p⟩
 | dfK o vs ds=>exact ⟨e.trans h.1,h.2.mono s p⟩
 | ins Cl fs=>obtain ⟨dx,vs,e1,r⟩:=h; exact ⟨dx,vs,e.trans e1,Paired.mapP r fun _ _ z=>⟨z.1,z.2.mono s p⟩⟩
 | hand=>obtain ⟨d,k,c,cs,e1,e2,r⟩:=h; exact ⟨d,k,c,cs,e.trans e1,s _ _ e2,r⟩
 | tab P pos q =>
  obtain ⟨eP,ps,e1,t,r⟩:=h
  refine ⟨eP,ps,e.trans e1,t,?_⟩
  rcases r with r | ⟨c,r1,r2⟩
  ·exact .inl r
  ·exact .inr ⟨c,r1,s _ _ r2⟩
abbrev X3:=Addr->List (Str×D)->Mem->Prop
structure Anc where
 i:Hp
 a:List Addr
 xe:XK
 kx:X3
structure Rel (C:Cf) (Z:Anc) (I:Hp) (α:List Addr) (H:Hp) (M:Mem):Prop where
 ai:Same Z.i I
 aa:Z.a<+:α
 sub:Same I H
 len:α.length=M.length
 nd:α.Nodup
 cel:∀ (k:Nat) (a:Addr) (m:MO),α[k]?=some a->M[k]?=some m->MoAt C I α H a m/\I a=none
section
variable {C:Cf} {Z:Anc} {I:Hp} {α:List Addr} {H H':Hp} {M:Mem}
theorem Rel.get (R:Rel C Z I α H M) {k:Nat} {m:MO} (h:M[k]?=some m):∃ a,α[k]?=some a/\MoAt C I α H a m/\I a=none:=by
 obtain ⟨hk,_⟩:=List.getElem?_eq_some_iff.mp h
 have hk':k < α.length:=by rw [R.len]; exact hk
 exact ⟨α[k],List.getElem?_eq_getElem hk',R.cel k _ m (List.getElem?_eq_getElem hk') h⟩
theorem Rel.cellNe (R:Rel C Z I α H M) {k:Nat} {a p:Addr} (h:α[k]?=some a) (hp:H p=none):a≠p:=by
 obtain ⟨hk,_⟩:=List.getElem?_eq_some_iff.mp h
 have hk':k < M.length:=by rw [<- R.len]; exact hk
 obtain ⟨o,e⟩:=(R.cel k a _ h (List.getElem?_eq_getElem hk')).1.some
 exact ne_of_none e hp
theorem Rel.new (R:Rel C Z I α H M) {p:Addr} {o:HO} (hp:H p=none):Rel C Z (upd I p o) α (upd H p o) M/\Same I (upd I p o)/\(upd I p o) p=some o:=by
 have ip:I p=none:=R.sub.free hp
 have s:Same I (upd I p o):=same_upd ip
 refine ⟨⟨R.ai.trans s,R.aa,fun b u h=>?_,R.len,R.nd,fun k a m h1 h2=>?_⟩,s,upd_same⟩
 ·by_cases e:b=p
  ·subst e
   rw [upd_same] at h ⊢
   exact h
  ·rw [upd_ne e] at h ⊢
   exact R.sub b u h
 ·obtain ⟨a1,a2⟩:=R.cel k a m h1 h2
  have ne:=R.cellNe h1 hp
  exact ⟨a1.mono s (List.prefix_refl _) (upd_ne ne),by rw [upd_ne ne]; exact a2⟩
theorem Rel.cell (R:Rel C Z I α H M) {p:Addr} {o:HO} {m:MO} (hp:H p=none) (hm:∀ H',H' p=some o->MoAt C I α H' p m):Rel C Z I (α++[p]) (upd H p o) (M++[m])/\α<+:(α++[p])/\(α++[p])[M.length]?=some p:=by
 have ip:I p=none:=R.sub.free hp
 refine ⟨⟨R.ai,R.aa.trans (List.prefix_append _ _),fun b u h=>?_,by rw [List.length_append,List.length_append,R.len]; rfl,?_,fun k a x h1 h2=>?_⟩,List.prefix_append _ _,by rw [<- R.len]; simp⟩
 ·have ne:b≠p:=fun e=>by rw [e,ip] at h; cases h
  rw [upd_ne ne]
  exact R.sub b u h
 ·rw [List.nodup_append]
  refine ⟨R.nd,by simp,fun a ha b hb=>?_⟩
  obtain ⟨k,hk,rfl⟩:=List.getElem_of_mem ha
  rw [List.mem_singleton.mp hb]
  exact R.cellNe (List.getElem?_eq_getElem hk) hp
 ·by_cases hk:k < α.length
  ·rw [List.getElem?_append_left hk] at h1
   rw [List.getElem?_append_left (by rw [<- R.len]; exact hk)] at h2
   obtain ⟨a1,a2⟩:=R.cel k a x h1 h2
   exact ⟨a1.mono (.refl _) (List.prefix_append _ _) (upd_ne (R.cellNe h1 hp)),a2⟩
  ·obtain ⟨hk2,_⟩:=List.getElem?_eq_some_iff.mp h1
   rw [List.length_append,List.length_singleton] at hk2
   have e:k=α.length:=by omega
   subst e
   have e1:(α++[p])[α.length]?=some p:=by simp
   have e2:(M++[m])[α.length]?=some m:=by rw [R.len]; simp
   rw [e1] at h1
   rw [e2] at h2
   cases h1
   cases h2
   exact ⟨(hm _ upd_same).mono (.refl _) (List.prefix_append _ _) rfl,ip⟩
theorem Rel.put (R:Rel C Z I α H M) {k:Nat} {a:Addr} {o:HO} {m:MO} (ha:α[k]?=some a) (hm:∀ H',H' a=some o->MoAt C I α H' a m):Rel C Z I α (upd H a o) (M.set k m):=by
 obtain ⟨hk,ea⟩:=List.getElem?_eq_some_iff.mp ha
 have hkM:k < M.length:=by rw [<- R.len]; exact hk
 have ia:I a=none:=(R.cel k a _ ha (List.getElem?_eq_getElem hkM)).2
 refine ⟨R.ai,R.aa,fun b u h=>?_,by rw [List.length_set]; exact R.len,R.nd,fun j b x h1 h2=>?_⟩
 ·have ne:b≠a:=fun e=>by rw [e,ia] at h; cases h
  rw [upd_ne ne]
  exact R.sub b u h
 ·by_cases e:k=j
  ·subst e
   rw [ha] at h1
   cases h1
   rw [List.getElem?_set_self hkM] at h2
   cases h2
   exact ⟨hm _ upd_same,ia⟩
  ·rw [List.getElem?_set_ne e] at h2
   obtain ⟨a1,a2⟩:=R.cel j b x h1 h2
   obtain ⟨hj,eb⟩:=List.getElem?_eq_some_iff.mp h1
   have ne:b≠a:=fun z=>e (by
    rw [<- ea,<- eb] at z
    exact ((List.getElem_inj R.nd).mp z).symm)
   exact ⟨a1.mono (.refl _) (List.prefix_refl _) (upd_ne ne),a2⟩
end
abbrev Ev:=List (Option D)
abbrev K3:=D->Mem->Prop
abbrev TE3:=Ev->Mem->K3->Prop
abbrev TT3:=Ev->Mem->(Bool->Mem->Prop)->Prop
abbrev TA3:=Ev->Mem->(List D->Mem->Prop)->Prop
abbrev TO3:=Ev->Mem->(Option Int->Mem->Prop)->Prop
abbrev R3:=D->D->Mem->K3->Prop
structure Ends3 where
 nx:Ev->Mem->Prop
 rt:K3
 bk:Ev->Mem->Prop:=fun _ _=>False
 ct:Ev->Mem->Prop:=fun _ _=>False
abbrev TS3:=Ends3->Ev->Mem->Prop
abbrev TG3:=D->Ev->Mem->(Ev->Mem->Prop)->Prop
abbrev TGs3:=List D->Ev->Mem->(Ev->Mem->Prop)->Prop
def RepE (C:Cf) (I:Hp) (α:List Addr) (σ:St) (ρ:Ev):Prop:=σ.length=ρ.length/\∀ (i:Nat) (d:D),ρ[i]?=some (some d)->∃ v,σ[i]?=some (some v)/\Rep C I α v d
theorem RepE.mono {C:Cf} {I I':Hp} {α α':List Addr} {σ:St} {ρ:Ev} (h:RepE C I α σ ρ) (s:Same I I') (p:α<+:α'):RepE C I' α' σ ρ :=
 ⟨h.1,fun i d e=>let ⟨v,a,b⟩:=h.2 i d e; ⟨v,a,b.mono s p⟩⟩
theorem RepE.set {C:Cf} {I:Hp} {α:List Addr} {σ:St} {ρ:Ev} (h:RepE C I α σ ρ) {v:V} {d:D} (r:Rep C I α v d) (i:Nat):RepE C I α (σ.set i (some v)) (ρ.set i (some d)):=by
 refine ⟨by rw [List.length_set,List.length_set]; exact h.1,fun j e q=>?_⟩
 by_cases z:i=j
 ·subst z
  by_cases hl:i < ρ.length
  ·rw [List.getElem?_set_self hl] at q
   cases q
   exact ⟨v,List.getElem?_set_self (by rw [h.1]; exact hl),r⟩
  ·rw [List.getElem?_eq_none (by rw [List.length_set]; omega)] at q
   cases q
 ·rw [List.getElem?_set_ne z] at q ⊢
  exact h.2 j e q
def Fin (C:Cf) (Z:Anc) (I:Hp) (α:List Addr) (K:K3) (Q:VK):Prop:=∀ v d I' α' H' M',Same I I'->α<+:α'->Rel C Z I' α' H' M'->Rep C I' α' v d->K d M'->Q v H'
theorem Fin.mono {C:Cf} {Z:Anc} {I I':Hp} {α α':List Addr} {K:K3} {Q:VK} (h:Fin C Z I α K Q) (s:Same I I') (p:α<+:α'):Fin C Z I' α' K Q:=fun v d I2 α2 H2 M2 s2 p2=>h v d I2 α2 H2 M2 (s.trans s2) (p.trans p2)
def SimE (C:Cf) (Z:Anc) (t:TE) (u:TE3):Prop:=∀ I α σ H ρ M (K:K3) (Q:VK),Rel C Z I α H M->RepE C I α σ ρ->u ρ M K->Fin C Z I α K Q->t σ H Q
def SimT (C:Cf) (Z:Anc) (t:TT) (u:TT3):Prop:=∀ I α σ H ρ M (K:Bool->Mem->Prop) (Q:Bool->Hp->Prop),Rel C Z I α H M->RepE C I α σ ρ->u ρ M K ->
 (∀ b I' α' H' M',Same I I'->α<+:α'->Rel C Z I' α' H' M'->K b M'->Q b H')->t σ H Q
def SimA (C:Cf) (Z:Anc) (t:TA) (u:TA3):Prop:=∀ I α σ H ρ M (K:List D->Mem->Prop) (Q:List V->Hp->Prop),Rel C Z I α H M->RepE C I α σ ρ->u ρ M K ->
 (∀ vs ds I' α' H' M',Same I I'->α<+:α'->Rel C Z I' α' H' M'->Reps C I' α' vs ds->K ds M'->Q vs H')->t σ H Q
def SimO (C:Cf) (Z:Anc) (t:TO) (u:TO3):Prop:=∀ I α σ H ρ M (K:Option Int->Mem->Prop) (Q:Option Int->Hp->Prop),Rel C Z I α H M->RepE C I α σ ρ->u ρ M K ->
 (∀ b I' α' H' M',Same I I'->α<+:α'->Rel C Z I' α' H' M'->K b M'->Q b H')->t σ H Q
def SimR (C:Cf) (Z:Anc) (r:R2) (u:R3):Prop:=∀ I α H M x y d e (K:K3) (Q:VK),Rel C Z I α H M->Rep C I α x d->Rep C I α y e->u d e M K->Fin C Z I α K Q->r x y H Q
def SimU (C:Cf) (Z:Anc) (r:V->Hp->VK->Prop) (u:D->Mem->K3->Prop):Prop:=∀ I α H M x d (K:K3) (Q:VK),Rel C Z I α H M->Rep C I α x d->u d M K->Fin C Z I α K Q->r x H Q
def SimC (C:Cf) (Z:Anc) (r:List V->Hp->VK->Prop) (u:List D->Mem->K3->Prop):Prop:=∀ I α H M xs ds (K:K3) (Q:VK),Rel C Z I α H M->Reps C I α xs ds->u ds M K->Fin C Z I α K Q->r xs H Q
def SimL (C:Cf) (Z:Anc) (r:V->Option Int->Option Int->Hp->VK->Prop) (u:D->Option Int->Option Int->Mem->K3->Prop):Prop:=∀ I α H M x d lo hi (K:K3) (Q:VK),Rel C Z I α H M->Rep C I α x d->u d lo hi M K->Fin C Z I α K Q->r x lo hi H Q
def FinS (C:Cf) (Z:Anc) (I:Hp) (α:List Addr) (K:Ev->Mem->Prop) (Q:St->Hp->Prop):Prop:=∀ I' α' σ' H' ρ' M',Same I I'->α<+:α'->Rel C Z I' α' H' M'->RepE C I' α' σ' ρ'->K ρ' M'->Q σ' H'
theorem FinS.mono {C:Cf} {Z:Anc} {I I':Hp} {α α':List Addr} {K:Ev->Mem->Prop} {Q:St->Hp->Prop} (h:FinS C Z I α K Q) (s:Same I I') (p:α<+:α'):FinS C Z I' α' K Q:=fun I2 α2 σ2 H2 ρ2 M2 s2 p2=>h I2 α2 σ2 H2 ρ2 M2 (s.trans s2) (p.trans p2)
structure FinD (C:Cf) (Z:Anc) (I:Hp) (α:List Addr) (E:Ends3) (D':Ends):Prop where
 nx:FinS C Z I α E.nx D'.nx
 rt:Fin C Z I α E.rt D'.rt
 bk:FinS C Z I α E.bk D'.bk
 ct:FinS C Z I α E.ct D'.ct
theorem FinD.mono {C:Cf} {Z:Anc} {I I':Hp} {α α':List Addr} {E:Ends3} {D':Ends} (h:FinD C Z I α E D') (s:Same I I') (p:α<+:α'):FinD C Z I' α' E D':=⟨h.nx.mono s p,h.rt.mono s p,h.bk.mono s p,h.ct.mono s p⟩
def SimS (C:Cf) (Z:Anc) (t:TS) (u:TS3):Prop:=∀ I α σ H ρ M (E:Ends3) (D':Ends),Rel C Z I α H M->RepE C I α σ ρ->u E ρ M->FinD C Z I α E D'->t D' σ H
def SimG (C:Cf) (Z:Anc) (t:TG) (u:TG3):Prop:=∀ I α σ H ρ M v d (K:Ev->Mem->Prop) (Q:St->Hp->Prop),Rel C Z I α H M->RepE C I α σ ρ->Rep C I α v d->u d ρ M K->FinS C Z I α K Q->t v σ H Q
def SimGs (C:Cf) (Z:Anc) (t:TGs) (u:TGs3):Prop:=∀ I α σ H ρ M vs ds (K:Ev->Mem->Prop) (Q:St->Hp->Prop),Rel C Z I α H M->RepE C I α σ ρ->Reps C I α vs ds->u ds ρ M K->FinS C Z I α K Q->t vs σ H Q
section
variable {C:Cf} {Z:Anc} {ta tb:TE} {ua ub:TE3} {tA tB':TT} {uA uB:TT3} {t:TA} {u:TA3}
def uVar (i:Nat):TE3:=fun ρ M K=>∃ d,ρ[i]?=some (some d)/\K d M
theorem s_var (i:Nat):SimE C Z (tVar i) (uVar i):=fun I α σ H ρ M K Q R E h k=>by
 obtain ⟨d,e,h⟩:=h
 obtain ⟨v,e2,r⟩:=E.2 i d e
 exact ⟨v,e2,k v d I α H M (.refl _) (List.prefix_refl _) R r h⟩
def uC (d:D):TE3:=fun _ M K=>K d M
theorem s_c {v:V} {d:D} (r:∀ I α,Rep C I α v d):SimE C Z (tC v) (uC d):=fun I α σ H ρ M K Q R E h k=>k v d I α H M (.refl _) (List.prefix_refl _) R (r I α) h
theorem s_int {i:Int}:SimE C Z (tC (.int i)) (uC (.int i)):=s_c fun _ _=>.int i
theorem s_bl {i:Bool}:SimE C Z (tC (.bl i)) (uC (.bl i)):=s_c fun _ _=>.bl i
theorem s_non:SimE C Z (tC .non) (uC .non):=s_c fun _ _=>.non
theorem s_str {i:Str}:SimE C Z (tC (.str i)) (uC (.str i)):=s_c fun _ _=>.str i
theorem s_ty {i:String}:SimE C Z (tC (.ty i)) (uC (.ty i)):=s_c fun _ _=>.ty i
theorem s_at {a:Addr}:SimE C Z (tC (.ref a)) (uC (.at a)):=s_c fun _ _=>.at a
def uOp (u:R3) (ua ub:TE3):TE3:=fun ρ M K=>ua ρ M fun d M1=>ub ρ M1 fun e M2=>u d e M2 K
theorem s_op {r:R2} {u:R3} (hr:SimR C Z r u) (ha:SimE C Z ta ua) (hb:SimE C Z tb ub):SimE C Z (tOp r ta tb) (uOp u ua ub):=fun I α σ H ρ M K Q R E h k =>
 ha I α σ H ρ M _ _ R E h fun v d I1 α1 H1 M1 s1 p1 R1 r1 h1 =>
  hb I1 α1 σ H1 ρ M1 _ _ R1 (E.mono s1 p1) h1 fun w e I2 α2 H2 M2 s2 p2 R2 r2 h2 =>
   hr I2 α2 H2 M2 v w d e K Q R2 (r1.mono s2 p2) r2 h2 (k.mono (s1.trans s2) (p1.trans p2))
def uUn (u:D->Mem->K3->Prop) (ua:TE3):TE3:=fun ρ M K=>ua ρ M fun d M1=>u d M1 K
theorem s_un {r:V->Hp->VK->Prop} {u:D->Mem->K3->Prop} (hr:SimU C Z r u) (ha:SimE C Z ta ua):SimE C Z (tUn r ta) (uUn u ua):=fun I α σ H ρ M K Q R E h k =>
 ha I α σ H ρ M _ _ R E h fun v d I1 α1 H1 M1 s1 p1 R1 r1 h1=>hr I1 α1 H1 M1 v d K Q R1 r1 h1 (k.mono s1 p1)
def D.isN:D->Bool | .non=>true | _=>false
theorem isN_rep {I:Hp} {α:List Addr} {v:V} {d:D} (h:Rep C I α v d):decide (v=.non)=d.isN:=by cases h <;> simp [D.isN]
def uIsN (ua:TE3):TE3:=fun ρ M K=>ua ρ M fun d M1=>K (.bl d.isN) M1
theorem s_isN (ha:SimE C Z ta ua):SimE C Z (tIsN ta) (uIsN ua):=fun I α σ H ρ M K Q R E h k =>
 ha I α σ H ρ M _ _ R E h fun v d I1 α1 H1 M1 s1 p1 R1 r1 h1=>by
  rw [isN_rep r1]
  exact k _ _ I1 α1 H1 M1 s1 p1 R1 (.bl _) h1
def uB3 (ua:TE3):TT3:=fun ρ M K=>ua ρ M fun d M1=>∃ c,d=.bl c/\K c M1
theorem s_b (ha:SimE C Z ta ua):SimT C Z (tB ta) (uB3 ua):=fun I α σ H ρ M K Q R E h k =>
 ha I α σ H ρ M _ _ R E h fun v d I1 α1 H1 M1 s1 p1 R1 r1 h1=>by
  obtain ⟨c,e,h1⟩:=h1
  subst e
  cases r1
  exact ⟨c,rfl,k c I1 α1 H1 M1 s1 p1 R1 h1⟩
theorem s_test (ha:SimE C Z ta ua):SimT C Z (tTest ta) (uB3 ua):=s_b ha
def uAnd (uA uB:TT3):TT3:=fun ρ M K=>uA ρ M fun c M1=>if c=true then uB ρ M1 K else K false M1
def uOr (uA uB:TT3):TT3:=fun ρ M K=>uA ρ M fun c M1=>if c=true then K true M1 else uB ρ M1 K
def uNot (uA:TT3):TT3:=fun ρ M K=>uA ρ M fun c M1=>K (!c) M1
theorem s_and (ha:SimT C Z tA uA) (hb:SimT C Z tB' uB):SimT C Z (tAnd tA tB') (uAnd uA uB):=fun I α σ H ρ M K Q R E h k =>
 ha I α σ H ρ M _ _ R E h fun c I1 α1 H1 M1 s1 p1 R1 h1=>by
  cases c with
  | true =>
   rw [if_pos rfl] at h1 ⊢
   exact hb I1 α1 σ H1 ρ M1 _ _ R1 (E.mono s1 p1) h1 fun b I2 α2 H2 M2 s2 p2 R2 h2=>k b I2 α2 H2 M2 (s1.trans s2) (p1.trans p2) R2 h2
  | false =>
   rw [if_neg Bool.false_ne_true] at h1 ⊢
   exact k false I1 α1 H1 M1 s1 p1 R1 h1
theorem s_or (ha:SimT C Z tA uA) (hb:SimT C Z tB' uB):SimT C Z (tOr tA tB') (uOr uA uB):=fun I α σ H ρ M K Q R E h k =>
 ha I α σ H ρ M _ _ R E h fun c I1 α1 H1 M1 s1 p1 R1 h1=>by
  cases c with
  | false =>
   rw [if_neg Bool.false_ne_true] at h1 ⊢
   exact hb I1 α1 σ H1 ρ M1 _ _ R1 (E.mono s1 p1) h1 fun b I2 α2 H2 M2 s2 p2 R2 h2=>k b I2 α2 H2 M2 (s1.trans s2) (p1.trans p2) R2 h2
  | true =>
   rw [if_pos rfl] at h1 ⊢
   exact k true I1 α1 H1 M1 s1 p1 R1 h1
theorem s_not (ha:SimT C Z tA uA):SimT C Z (tNot tA) (uNot uA):=fun I α σ H ρ M K Q R E h k =>
 ha I α σ H ρ M _ _ R E h fun c I1 α1 H1 M1 s1 p1 R1 h1=>k _ I1 α1 H1 M1 s1 p1 R1 h1
def uAndV (ua ub:TE3):TE3:=fun ρ M K=>ua ρ M fun d M1=>∃ c,d=.bl c/\if c=true then ub ρ M1 K else K (.bl false) M1
def uOrV (ua ub:TE3):TE3:=fun ρ M K=>ua ρ M fun d M1=>∃ c,d=.bl c/\if c=true then K (.bl true) M1 else ub ρ M1 K
def uNotV (ua:TE3):TE3:=fun ρ M K=>ua ρ M fun d M1=>∃ c,d=.bl c/\K (.bl (!c)) M1
theorem s_andV (ha:SimE C Z ta ua) (hb:SimE C Z tb ub):SimE C Z (tAndV ta tb) (uAndV ua ub):=fun I α σ H ρ M K Q R E h k =>
 ha I α σ H ρ M _ _ R E h fun v d I1 α1 H1 M1 s1 p1 R1 r1 h1=>by
  obtain ⟨c,e,h1⟩:=h1
  subst e
  cases r1
  refine ⟨c,rfl,?_⟩
  cases c with
  | true =>
   rw [if_pos rfl] at h1 ⊢
   exact hb I1 α1 σ H1 ρ M1 _ _ R1 (E.mono s1 p1) h1 (k.mono s1 p1)
  | false =>
   rw [if_neg Bool.false_ne_true] at h1 ⊢
   exact k _ _ I1 α1 H1 M1 s1 p1 R1 (.bl _) h1
theorem s_orV (ha:SimE C Z ta ua) (hb:SimE C Z tb ub):SimE C Z (tOrV ta tb) (uOrV ua ub):=fun I α σ H ρ M K Q R E h k =>
 ha I α σ H ρ M _ _ R E h fun v d I1 α1 H1 M1 s1 p1 R1 r1 h1=>by
  obtain ⟨c,e,h1⟩:=h1
  subst e
  cases r1
  refine ⟨c,rfl,?_⟩
  cases c with
  | false =>
   rw [if_neg Bool.false_ne_true] at h1 ⊢
   exact hb I1 α1 σ H1 ρ M1 _ _ R1 (E.mono s1 p1) h1 (k.mono s1 p1)
  | true =>
   rw [if_pos rfl] at h1 ⊢
   exact k _ _ I1 α1 H1 M1 s1 p1 R1 (.bl _) h1
theorem s_notV (ha:SimE C Z ta ua):SimE C Z (tNotV ta) (uNotV ua):=fun I α σ H ρ M K Q R E h k =>
 ha I α σ H ρ M _ _ R E h fun v d I1 α1 H1 M1 s1 p1 R1 r1 h1=>by
  obtain ⟨c,e,h1⟩:=h1
  subst e
  cases r1
  exact ⟨c,rfl,k _ _ I1 α1 H1 M1 s1 p1 R1 (.bl _) h1⟩
def uIf (uA:TT3) (ua ub:TE3):TE3:=fun ρ M K=>uA ρ M fun c M1=>if c=true then ua ρ M1 K else ub ρ M1 K
theorem s_if (hc:SimT C Z tA uA) (ha:SimE C Z ta ua) (hb:SimE C Z tb ub):SimE C Z (tIf tA ta tb) (uIf uA ua ub):=fun I α σ H ρ M K Q R E h k =>
 hc I α σ H ρ M _ _ R E h fun c I1 α1 H1 M1 s1 p1 R1 h1=>by
  cases c with
  | true =>
   rw [if_pos rfl] at h1 ⊢
   exact ha I1 α1 σ H1 ρ M1 _ _ R1 (E.mono s1 p1) h1 (k.mono s1 p1)
  | false =>
   rw [if_neg Bool.false_ne_true] at h1 ⊢
   exact hb I1 α1 σ H1 ρ M1 _ _ R1 (E.mono s1 p1) h1 (k.mono s1 p1)
def uNil:TA3:=fun _ M K=>K [] M
def uCons (ua:TE3) (u:TA3):TA3:=fun ρ M K=>ua ρ M fun d M1=>u ρ M1 fun ds M2=>K (d::ds) M2
theorem s_nil:SimA C Z tNil uNil:=fun I α σ H ρ M K Q R E h k=>k [] [] I α H M (.refl _) (List.prefix_refl _) R .nil h
theorem s_cons (ha:SimE C Z ta ua) (hr:SimA C Z t u):SimA C Z (tCons ta t) (uCons ua u):=fun I α σ H ρ M K Q R E h k =>
 ha I α σ H ρ M _ _ R E h fun v d I1 α1 H1 M1 s1 p1 R1 r1 h1 =>
  hr I1 α1 σ H1 ρ M1 _ _ R1 (E.mono s1 p1) h1 fun vs ds I2 α2 H2 M2 s2 p2 R2 r2 h2 =>
   k (v::vs) (d::ds) I2 α2 H2 M2 (s1.trans s2) (p1.trans p2) R2 (.cons (r1.mono s2 p2) r2) h2
def uTup (u:TA3):TE3:=fun ρ M K=>u ρ M fun ds M1=>ds.length<=sizeLine/\K (.tup ds) M1
theorem s_tup (ha:SimA C Z t u):SimE C Z (tTup t) (uTup u):=fun I α σ H ρ M K Q R E h k =>
 ha I α σ H ρ M _ _ R E h fun vs ds I1 α1 H1 M1 s1 p1 R1 r1 h1=>by
  refine ⟨by rw [r1.length]; exact h1.1,fun p hp=>?_⟩
  obtain ⟨R2,s2,e2⟩:=R1.new (o:=.tup vs) hp
  exact k _ _ _ α1 _ M1 (s1.trans s2) p1 R2 (.tup e2 (r1.mono s2 (List.prefix_refl _))) h1.2
def uLst (u:TA3):TE3:=fun ρ M K=>u ρ M fun ds M1=>ds.length<=sizeLine/\K (.lst ds) M1
theorem s_lst (ha:SimA C Z t u):SimE C Z (tLst t) (uLst u):=fun I α σ H ρ M K Q R E h k =>
 ha I α σ H ρ M _ _ R E h fun vs ds I1 α1 H1 M1 s1 p1 R1 r1 h1=>by
  refine ⟨by rw [r1.length]; exact h1.1,fun p hp=>?_⟩
  obtain ⟨R2,s2,e2⟩:=R1.new (o:=.lst vs) hp
  exact k _ _ _ α1 _ M1 (s1.trans s2) p1 R2 (.lst e2 (r1.mono s2 (List.prefix_refl _))) h1.2
def uLstC (u:TA3):TE3:=fun ρ M K=>u ρ M fun ds M1=>ds.length<=sizeLine/\K (.cell M1.length) (M1++[.lst ds])
theorem s_lstC (ha:SimA C Z t u):SimE C Z (tLst t) (uLstC u):=fun I α σ H ρ M K Q R E h k =>
 ha I α σ H ρ M _ _ R E h fun vs ds I1 α1 H1 M1 s1 p1 R1 r1 h1=>by
  refine ⟨by rw [r1.length]; exact h1.1,fun p hp=>?_⟩
  obtain ⟨R2,p2,e2⟩:=R1.cell (o:=.lst vs) (m:=.lst ds) hp fun H' e=>⟨vs,e,r1⟩
  exact k _ _ I1 _ _ _ s1 (p1.trans p2) R2 (.cell e2) h1.2
def uCB (r:List D->Mem->K3->Prop) (u:TA3):TE3:=fun ρ M K=>u ρ M fun ds M1=>r ds M1 K
theorem s_cb {r:List V->Hp->VK->Prop} {r3:List D->Mem->K3->Prop} (hr:SimC C Z r r3) (ha:SimA C Z t u):SimE C Z (tCB r t) (uCB r3 u):=fun I α σ H ρ M K Q R E h k =>
 ha I α σ H ρ M _ _ R E h fun vs ds I1 α1 H1 M1 s1 p1 R1 r1 h1=>hr I1 α1 H1 M1 vs ds K Q R1 r1 h1 (k.mono s1 p1)
def uNoPart:TO3:=fun _ M K=>K none M
def uPart (ua:TE3):TO3:=fun ρ M K=>ua ρ M fun d M1=>∃ i,d=.int i/\K (some i) M1
theorem s_noPart:SimO C Z tNoPart uNoPart:=fun I α σ H ρ M K Q R E h k=>k none I α H M (.refl _) (List.prefix_refl _) R h
theorem s_part (ha:SimE C Z ta ua):SimO C Z (tPart ta) (uPart ua):=fun I α σ H ρ M K Q R E h k =>
 ha I α σ H ρ M _ _ R E h fun v d I1 α1 H1 M1 s1 p1 R1 r1 h1=>by
  obtain ⟨i,e,h1⟩:=h1
  subst e
  cases r1
  exact ⟨i,rfl,k (some i) I1 α1 H1 M1 s1 p1 R1 h1⟩
def uSl (r:D->Option Int->Option Int->Mem->K3->Prop) (ua:TE3) (ul uh:TO3):TE3:=fun ρ M K=>ua ρ M fun d M1=>ul ρ M1 fun l M2=>uh ρ M2 fun g M3=>r d l g M3 K
theorem s_sl {r:V->Option Int->Option Int->Hp->VK->Prop} {r3:D->Option Int->Option Int->Mem->K3->Prop} {tl th:TO} {ul uh:TO3} (hr:SimL C Z r r3) (ha:SimE C Z ta ua) (hl:SimO C Z tl ul) (hh:SimO C Z th uh):SimE C Z (tSl r ta tl th) (uSl r3 ua ul uh):=fun I α σ H ρ M K Q R E h k =>
 ha I α σ H ρ M _ _ R E h fun v d I1 α1 H1 M1 s1 p1 R1 r1 h1 =>
  hl I1 α1 σ H1 ρ M1 _ _ R1 (E.mono s1 p1) h1 fun lo I2 α2 H2 M2 s2 p2 R2 h2 =>
   hh I2 α2 σ H2 ρ M2 _ _ R2 (E.mono (s1.trans s2) (p1.trans p2)) h2 fun hi I3 α3 H3 M3 s3 p3 R3 h3 =>
    hr I3 α3 H3 M3 v d lo hi K Q R3 (r1.mono (s2.trans s3) (p2.trans p3)) h3 (k.mono (s1.trans (s2.trans s3)) (p1.trans (p2.trans p3)))
end
def lstOf (M:Mem):D->Option (List D)
 | .lst ds=>some ds
 | .frz ds=>some ds
 | .cell k=>match M[k]? with | some (.lst ds)=>some ds | _=>none
 | _=>none
def lsOf (M:Mem):D->Option (List D)
 | .lst ds=>some ds
 | .cell k=>match M[k]? with | some (.lst ds)=>some ds | _=>none
 | _=>none
def tupOf:D->Option (List D)
 | .tup ds=>some ds
 | _=>none
def seqOf (M:Mem):D->Option (List D)
 | .tup ds=>some ds
 | d=>lstOf M d
section
variable {C:Cf} {Z:Anc} {I:Hp} {α:List Addr} {H:Hp} {M:Mem} {v:V} {d:D} {ds:List D}
theorem cell_lst (R:Rel C Z I α H M) {k:Nat} {a:Addr} (e:α[k]?=some a) (h:M[k]?=some (.lst ds)):∃ vs,H a=some (.lst vs)/\Reps C I α vs ds:=(R.cel k a _ e h).1
theorem lst_at (R:Rel C Z I α H M) (r:Rep C I α v d) (h:lstOf M d=some ds):∃ a vs,v=.ref a/\SqL C.k H a vs/\Reps C I α vs ds:=by
 cases r with
 | lst e r=>cases h; exact ⟨_,_,rfl,SqL.of (R.sub _ _ e),r⟩
 | frz e r=>cases h; exact ⟨_,_,rfl,R.sub.seq e,r⟩
 | @cell a k e =>
  unfold lstOf at h
  cases hm:M[k]? with
  | none=>simp only [hm] at h; cases h
  | some m =>
   cases m with
   | lst es =>
    simp only [hm] at h
    cases h
    obtain ⟨vs,e1,r⟩:=cell_lst R e hm
    exact ⟨_,_,rfl,SqL.of e1,r⟩
   | _=>simp only [hm] at h; cases h
 | _=>cases h
theorem ls_at (R:Rel C Z I α H M) (r:Rep C I α v d) (h:lsOf M d=some ds):∃ a vs,v=.ref a/\H a=some (.lst vs)/\Reps C I α vs ds:=by
 cases r with
 | lst e r=>cases h; exact ⟨_,_,rfl,R.sub _ _ e,r⟩
 | @cell a k e =>
  unfold lsOf at h
  cases hm:M[k]? with
  | none=>simp only [hm] at h; cases h
  | some m =>
   cases m with
   | lst es =>
    simp only [hm] at h
    cases h
    obtain ⟨vs,e1,r⟩:=cell_lst R e hm
    exact ⟨_,_,rfl,e1,r⟩
   | _=>simp only [hm] at h; cases h
 | _=>cases h
theorem tup_at (R:Rel C Z I α H M) (r:Rep C I α v d) (h:tupOf d=some ds):∃ a vs,v=.ref a/\H a=some (.tup vs)/\I a=some (.tup vs)/\Reps C I α vs ds:=by
 cases r with
 | tup e r=>cases h; exact ⟨_,_,rfl,R.sub _ _ e,e,r⟩
 | _=>cases h
end
def cut {τ:Type} (xs:List τ) (lo hi:Option Int):List τ:=(xs.drop (HT.sIx xs.length 0 lo)).take (HT.sIx xs.length xs.length hi - HT.sIx xs.length 0 lo)
theorem Reps.cut {C:Cf} {I:Hp} {α:List Addr} {vs:List V} {ds:List D} (r:Reps C I α vs ds) (lo hi:Option Int):Reps C I α (cutV vs lo hi) (cut ds lo hi):=by
 unfold cutV L3.cut
 rw [r.length]
 exact (r.drop _).take _
theorem Reps.atI {C:Cf} {I:Hp} {α:List Addr} {vs:List V} {ds:List D} {i:Int} {d:D} (r:Reps C I α vs ds) (h:atI ds i=some d):∃ v,L2.atI vs i=some v/\Rep C I α v d:=by
 unfold L2.atI at h ⊢
 rw [r.length]
 cases e:ixN ds.length i with
 | none=>rw [e] at h; cases h
 | some j =>
  rw [e] at h
  exact r.get (i:=j) h
section
variable {C:Cf} {Z:Anc} {K':W.Frag} {X:Cx}
theorem OpR.or {f:Value->Value->Sem Value} {r r':R2} (h:OpR X f r) (h':OpR X f r'):OpR X f (fun x y H Q=>r x y H Q\/r' x y H Q):=by
 intro pins s σ H x y v u Q I rx ry q
 rcases q with q | q
 ·exact h pins s σ H x y v u Q I rx ry q
 ·exact h' pins s σ H x y v u Q I rx ry q
theorem SlR.or {r r':V->Option Int->Option Int->Hp->VK->Prop} (h:SlR X r) (h':SlR X r'):SlR X (fun x l u H Q=>r x l u H Q\/r' x l u H Q):=by
 intro pins s σ H x v vl vu lo hi sl Q I rx hs pl pu q
 rcases q with q | q
 ·exact h pins s σ H x v vl vu lo hi sl Q I rx hs pl pu q
 ·exact h' pins s σ H x v vl vu lo hi sl Q I rx hs pl pu q
def rStrAdd:R2:=fun x y H Q=>∃ i j,x=.str i/\y=.str j/\i.length + j.length<=sizeLine/\Q (.str (i++j)) H
def rAddU (K:W.Frag):R2:=fun x y H Q=>rI0 (fun i j=>.int (i + j)) x y H Q\/rStrAdd x y H Q\/rCat x y H Q\/rCatT K x y H Q
theorem ux_add (h:X.K=K'):OpR X (binaryOp .Add) (rAddU K'):=by
 subst h
 exact OpR.or op_add (OpR.or op_add_str (OpR.or op_cat op_catT))
def add3:R3:=fun d e M K=>match d,e with
 | .int i,.int j=>K (.int (i + j)) M
 | .str a,.str b=>a.length + b.length<=sizeLine/\K (.str (a++b)) M
 | .tup xs,.tup ys=>(xs≠[]/\xs.length + ys.length<=sizeLine)/\K (.tup (xs++ys)) M
 | d,e=>∃ xs ys,lsOf M d=some xs/\lsOf M e=some ys/\xs.length + ys.length<=sizeLine/\K (.lst (xs++ys)) M
theorem add_lst {I:Hp} {α:List Addr} {H:Hp} {M:Mem} {x y:V} {d e:D} {K:K3} {Q:VK} (R:Rel C Z I α H M) (r1:Rep C I α x d) (r2:Rep C I α y e)
  (h:∃ xs ys,lsOf M d=some xs/\lsOf M e=some ys/\xs.length + ys.length<=sizeLine/\K (.lst (xs++ys)) M) (k:Fin C Z I α K Q):rAddU C.k x y H Q:=by
 obtain ⟨xs,ys,e1,e2,hl,h⟩:=h
 obtain ⟨a,vs,rfl,ea,ra⟩:=ls_at R r1 e1
 obtain ⟨b,ws,rfl,eb,rb⟩:=ls_at R r2 e2
 refine .inr (.inr (.inl ⟨a,b,vs,ws,rfl,rfl,ea,eb,by rw [ra.length,rb.length]; exact hl,fun p hp=>?_⟩))
 obtain ⟨R2,s2,e2⟩:=R.new (o:=.lst (vs++ws)) hp
 exact k _ _ _ α _ M s2 (List.prefix_refl _) R2 (.lst e2 ((ra.app rb).mono s2 (List.prefix_refl _))) h
theorem s_add:SimR C Z (rAddU C.k) add3:=fun I α H M x y d e K Q R r1 r2 h k=>by
 have go:=fun h=>add_lst R r1 r2 h k
 cases d with
 | int i =>
  cases e with
  | int j=>cases r1; cases r2; exact .inl ⟨i,j,rfl,rfl,k _ _ I α H M (.refl _) (List.prefix_refl _) R (.int _) h⟩
  | _=>exact go h
 | str a =>
  cases e with
  | str b=>cases r1; cases r2; exact .inr (.inl ⟨a,b,rfl,rfl,h.1,k _ _ I α H M (.refl _) (List.prefix_refl _) R (.str _) h.2⟩)
  | _=>exact go h
 | tup xs =>
  cases e with
  | tup ys =>
   obtain ⟨⟨h1,h2⟩,h⟩:=h
   obtain ⟨a,vs,rfl,ea,ia,ra⟩:=tup_at R r1 rfl
   obtain ⟨b,ws,rfl,eb,ib,rb⟩:=tup_at R r2 rfl
   refine .inr (.inr (.inr ⟨a,b,vs,ws,rfl,rfl,SqT.of ea,SqT.of eb,fun z=>?_,by rw [ra.length,rb.length]; exact h2,fun z=>?_,fun _ p hp=>?_⟩))
   ·subst z
    cases ra
    exact h1 rfl
   ·subst z
    cases rb
    rw [List.append_nil] at h
    exact k _ _ I α H M (.refl _) (List.prefix_refl _) R r1 h
   ·obtain ⟨R2,s2,e2⟩:=R.new (o:=.tup (vs++ws)) hp
    exact k _ _ _ α _ M s2 (List.prefix_refl _) R2 (.tup e2 ((ra.app rb).mono s2 (List.prefix_refl _))) h
  | _=>exact go h
 | _=>exact go h
def int3 (c:Int->Int->Prop) (g:Int->Int->D):R3:=fun d e M K=>∃ i j,d=.int i/\e=.int j/\c i j/\K (g i j) M
def int30 (g:Int->Int->D):R3:=fun d e M K=>∃ i j,d=.int i/\e=.int j/\K (g i j) M
theorem s_rI {c:Int->Int->Prop} {g:Int->Int->V} {g3:Int->Int->D} (hg:∀ I α i j,Rep C I α (g i j) (g3 i j)):SimR C Z (rI c g) (int3 c g3):=fun I α H M x y d e K Q R r1 r2 h k=>by
 obtain ⟨i,j,rfl,rfl,hc,h⟩:=h
 cases r1
 cases r2
 exact ⟨i,j,rfl,rfl,hc,k _ _ I α H M (.refl _) (List.prefix_refl _) R (hg _ _ _ _) h⟩
theorem s_rI0 {g:Int->Int->V} {g3:Int->Int->D} (hg:∀ I α i j,Rep C I α (g i j) (g3 i j)):SimR C Z (rI0 g) (int30 g3):=fun I α H M x y d e K Q R r1 r2 h k=>by
 obtain ⟨i,j,rfl,rfl,h⟩:=h
 cases r1
 cases r2
 exact ⟨i,j,rfl,rfl,k _ _ I α H M (.refl _) (List.prefix_refl _) R (hg _ _ _ _) h⟩
theorem s_sub:SimR C Z (rI0 fun i j=>.int (i - j)) (int30 fun i j=>.int (i - j)):=s_rI0 fun _ _ _ _=>.int _
theorem s_fdiv:SimR C Z (rI CDiv fun i j=>.int (i / j)) (int3 CDiv fun i j=>.int (i / j)):=s_rI fun _ _ _ _=>.int _
theorem s_mod:SimR C Z (rI (fun _ j=>0 < j) fun i j=>.int (i % j)) (int3 (fun _ j=>0 < j) fun i j=>.int (i % j)):=s_rI fun _ _ _ _=>.int _
theorem s_pow:SimR C Z (rI CPow fun i j=>.int (i ^ j.toNat)) (int3 CPow fun i j=>.int (i ^ j.toNat)):=s_rI fun _ _ _ _=>.int _
theorem s_lt:SimR C Z (rI0 fun i j=>.bl (decide (i < j))) (int30 fun i j=>.bl (decide (i < j))):=s_rI0 fun _ _ _ _=>.bl _
theorem s_le:SimR C Z (rI0 fun i j=>.bl (decide (i<=j))) (int30 fun i j=>.bl (decide (i<=j))):=s_rI0 fun _ _ _ _=>.bl _
theorem s_gt:SimR C Z (rI0 fun i j=>.bl (decide (j < i))) (int30 fun i j=>.bl (decide (j < i))):=s_rI0 fun _ _ _ _=>.bl _
theorem s_ge:SimR C Z (rI0 fun i j=>.bl (decide (j<=i))) (int30 fun i j=>.bl (decide (j<=i))):=s_rI0 fun _ _ _ _=>.bl _
def neg3:D->Mem->K3->Prop:=fun d M K=>∃ i,d=.int i/\K (.int (-i)) M
theorem s_neg:SimU C Z (rU fun i=>.int (-i)) neg3:=fun I α H M x d K Q R r h k=>by
 obtain ⟨i,rfl,h⟩:=h
 cases r
 exact ⟨i,rfl,k _ _ I α H M (.refl _) (List.prefix_refl _) R (.int _) h⟩
def rMulU:R2:=fun x y H Q=>rI CMul (fun i j=>.int (i * j)) x y H Q\/rRep x y H Q
theorem ux_mul:OpR X (binaryOp .Mult) rMulU:=OpR.or op_mul op_rep
def mul3:R3:=fun d e M K=>match d,e with
 | .int i,.int j=>CMul i j/\K (.int (i * j)) M
 | d,e=>∃ xs k,lsOf M d=some xs/\e=.int k/\(-(2 ^ 63)<=k/\k < 2 ^ 63/\xs.length * k.toNat<=sizeLine)/\K (.lst (List.replicate k.toNat xs).flatten) M
theorem Reps.rep {I:Hp} {α:List Addr} {vs:List V} {ds:List D} (r:Reps C I α vs ds):∀ n,Reps C I α (List.replicate n vs).flatten (List.replicate n ds).flatten
 | 0=>.nil
 | n + 1=>by
  rw [List.replicate_succ,List.replicate_succ,List.flatten_cons,List.flatten_cons]
  exact r.app (Reps.rep r n)
theorem s_mul:SimR C Z rMulU mul3:=fun I α H M x y d e K Q R r1 r2 h k=>by
 have go:(∃ xs k,lsOf M d=some xs/\e=.int k/\(-(2 ^ 63)<=k/\k < 2 ^ 63/\xs.length * k.toNat<=sizeLine)/\K (.lst (List.replicate k.toNat xs).flatten) M)->rMulU x y H Q:=fun h=>by
  obtain ⟨xs,j,e1,rfl,⟨h1,h2,h3⟩,h⟩:=h
  cases r2
  obtain ⟨a,vs,rfl,ea,ra⟩:=ls_at R r1 e1
  refine .inr ⟨a,j,vs,rfl,rfl,ea,h1,h2,by rw [ra.length]; exact h3,fun p hp=>?_⟩
  obtain ⟨R2,s2,e2⟩:=R.new (o:=.lst (List.replicate j.toNat vs).flatten) hp
  exact k _ _ _ α _ M s2 (List.prefix_refl _) R2 (.lst e2 ((ra.rep _).mono s2 (List.prefix_refl _))) h
 cases d with
 | int i =>
  cases e with
  | int j=>cases r1; cases r2; exact .inl ⟨i,j,rfl,rfl,h.1,k _ _ I α H M (.refl _) (List.prefix_refl _) R (.int _) h.2⟩
  | _=>exact go h
 | _=>exact go h
theorem ux_ix (h:X.K=K'):IxR X (rIx K'):=by subst h; exact ix_seq
def ix3:R3:=fun d e M K=>match d with
 | .str z=>∃ i c,e=.int i/\z.length<=sizeLine/\L2.atI z.cps.toList i=some c/\K (.str ⟨#[c]⟩) M
 | d=>∃ xs i v,seqOf M d=some xs/\e=.int i/\L2.atI xs i=some v/\K v M
theorem s_ix:SimR C Z (rIx C.k) ix3:=fun I α H M x y d e K Q R r1 r2 h k=>by
 have go:(∃ xs i v,seqOf M d=some xs/\e=.int i/\L2.atI xs i=some v/\K v M)->rIx C.k x y H Q:=fun h=>by
  obtain ⟨xs,i,w,e1,rfl,e3,hk⟩:=h
  cases r2
  by_cases ht:∃ ys,d=.tup ys
  ·obtain ⟨ys,rfl⟩:=ht
   cases e1
   obtain ⟨a,vs,rfl,ea,_,ra⟩:=tup_at R r1 rfl
   obtain ⟨v,e4,rv⟩:=ra.atI e3
   exact .inr (.inl ⟨a,vs,i,v,rfl,rfl,SqT.of ea,e4,k _ _ I α H M (.refl _) (List.prefix_refl _) R rv hk⟩)
  ·have e1':lstOf M d=some xs:=by
    cases d with
    | tup ys=>exact absurd ⟨ys,rfl⟩ ht
    | _=>exact e1
   obtain ⟨a,vs,rfl,ea,ra⟩:=lst_at R r1 e1'
   obtain ⟨v,e4,rv⟩:=ra.atI e3
   exact .inl ⟨a,vs,i,v,rfl,rfl,ea,e4,k _ _ I α H M (.refl _) (List.prefix_refl _) R rv hk⟩
 cases d with
 | str z =>
  obtain ⟨i,c,rfl,h1,h2,h⟩:=h
  cases r1
  cases r2
  exact .inr (.inr ⟨z,i,c,rfl,rfl,h1,h2,k _ _ I α H M (.refl _) (List.prefix_refl _) R (.str _) h⟩)
 | _=>exact go h
def rSlU (K:W.Frag):V->Option Int->Option Int->Hp->VK->Prop:=fun x l u H Q=>rSlL K x l u H Q\/rSlW K x l u H Q\/rSlS x l u H Q
theorem ux_sl (h:X.K=K'):SlR X (rSlU K'):=by subst h; exact SlR.or sl_list (SlR.or sl_tupW sl_str)
def sl3:D->Option Int->Option Int->Mem->K3->Prop:=fun d lo hi M K=>match d with
 | .str z=>z.length<=sizeLine/\K (.str (Txt.slice z lo hi)) M
 | .tup xs=>K (.tup (cut xs lo hi)) M
 | d=>∃ xs,lstOf M d=some xs/\K (.lst (cut xs lo hi)) M
theorem Reps.inj_cut {I:Hp} {α:List Addr} {vs:List V} {ds:List D} (r:Reps C I α vs ds) {lo hi:Option Int} (h:cutV vs lo hi=vs):L3.cut ds lo hi=ds:=by
 have hl:(cutV vs lo hi).length=vs.length:=by rw [h]
 unfold cutV at hl
 rw [List.length_take,List.length_drop] at hl
 unfold L3.cut
 rw [r.length] at hl
 generalize HT.sIx ds.length 0 lo=a at *
 generalize HT.sIx ds.length ds.length hi=b at *
 by_cases hd:ds.length=0
 ·rw [List.length_eq_zero_iff.mp hd]; simp
 ·have:a=0:=by omega
  subst this
  rw [List.drop_zero,List.take_of_length_le]
  omega
theorem s_sl3:SimL C Z (rSlU C.k) sl3:=fun I α H M x d lo hi K Q R r1 h k=>by
 have go:(∃ xs,lstOf M d=some xs/\K (.lst (cut xs lo hi)) M)->rSlU C.k x lo hi H Q:=fun h=>by
  obtain ⟨xs,e1,h⟩:=h
  obtain ⟨a,vs,rfl,ea,ra⟩:=lst_at R r1 e1
  refine .inl ⟨a,vs,rfl,ea,fun p hp=>?_⟩
  obtain ⟨R2,s2,e2⟩:=R.new (o:=.lst (cutV vs lo hi)) hp
  exact k _ _ _ α _ M s2 (List.prefix_refl _) R2 (.lst e2 ((ra.cut lo hi).mono s2 (List.prefix_refl _))) h
 cases d with
 | str z=>cases r1; exact .inr (.inr ⟨z,rfl,h.1,k _ _ I α H M (.refl _) (List.prefix_refl _) R (.str _) h.2⟩)
 | tup xs =>
  obtain ⟨a,vs,rfl,ea,ia,ra⟩:=tup_at R r1 rfl
  refine .inr (.inl ⟨a,vs,rfl,SqT.of ea,fun z=>?_,fun p hp=>?_⟩)
  ·have h2:K (.tup (cut xs lo hi)) M:=h
   rw [ra.inj_cut z] at h2
   exact k _ _ I α H M (.refl _) (List.prefix_refl _) R r1 h2
  ·obtain ⟨R2,s2,e2⟩:=R.new (o:=.tup (cutV vs lo hi)) hp
   exact k _ _ _ α _ M s2 (List.prefix_refl _) R2 (.tup e2 ((ra.cut lo hi).mono s2 (List.prefix_refl _))) h
 | _=>exact go h
end
mutual
inductive PyR (M:Mem):D->PyData->Prop where
 | non:PyR M .non .none
 | bl (b:Bool):PyR M (.bl b) (.bool b)
 | int (i:Int):PyR M (.int i) (.int i)
 | str (x:Str):PyR M (.str x) (.str x)
 | seq {d:D} {ds:List D} {ps:List PyData}:lstOf M d=some ds->PyRs M ds ps->PyR M d (.list ps)
 | tup {ds:List D} {ps:List PyData}:PyRs M ds ps->PyR M (.tup ds) (.tuple ps)
inductive PyRs (M:Mem):List D->List PyData->Prop where
 | nil:PyRs M [] []
 | cons {d:D} {p:PyData} {ds:List D} {ps:List PyData}:PyR M d p->PyRs M ds ps->PyRs M (d::ds) (p::ps)
end
section
variable {C:Cf} {Z:Anc} {I:Hp} {α:List Addr} {H:Hp} {M:Mem}
mutual
theorem py_dv (R:Rel C Z I α H M):∀ {v:V} {d:D} {p:PyData},PyR M d p->Rep C I α v d->DV C.k H v p
 | _,_,_,.non,r=>by cases r; exact .non
 | _,_,_,.bl b,r=>by cases r; exact .bl b
 | _,_,_,.int b,r=>by cases r; exact .int b
 | _,_,_,.str b,r=>by cases r; exact .str b
 | _,_,_,.seq e q,r=>by
  obtain ⟨a,vs,rfl,ea,ra⟩:=lst_at R r e
  exact .lst ea (pys_dv R q ra)
 | _,_,_,.tup q,r=>by
  obtain ⟨a,vs,rfl,ea,_,ra⟩:=tup_at R r rfl
  exact .tup (SqT.of ea) (pys_dv R q ra)
theorem pys_dv (R:Rel C Z I α H M):∀ {vs:List V} {ds:List D} {ps:List PyData},PyRs M ds ps->Reps C I α vs ds->DVs C.k H vs ps
 | _,_,_,.nil,r=>by cases r; exact .nil
 | _,_,_,.cons a b,r=>by
  cases r with
  | cons r1 r2=>exact .cons (py_dv R a r1) (pys_dv R b r2)
end
end
def eqS:D->D->Option Bool
 | .non,.non=>some true | .non,.int _=>some false | .int _,.non=>some false | .non,.bl _=>some false | .bl _,.non=>some false | .non,.str _=>some false | .str _,.non=>some false
 | .int i,.int j=>some (decide (i=j)) | .bl i,.bl j=>some (decide (i=j)) | .str i,.str j=>some (decide (i=j))
 | .int _,.str _=>some false | .str _,.int _=>some false | .bl _,.str _=>some false | .str _,.bl _=>some false
 | _,_=>none
def eqV (d e:D) (M:Mem) (K:Bool->Prop):Prop:=(∃ b,eqS d e=some b/\K b)\/∃ p q,PyR M d p/\PyR M e q/\SeqAt.shaped p=true/\SeqAt.shaped q=true/\K (PyData.eqv p q)
def eq3:R3:=fun d e M K=>eqV d e M fun b=>K (.bl b) M
def ne3:R3:=fun d e M K=>eqV d e M fun b=>K (.bl (!b)) M
section
variable {C:Cf} {Z:Anc} {K':W.Frag} {X:Cx}
def rEqU (K:W.Frag):R2:=fun x y H Q=>rEq x y H Q\/rEqD K x y H Q
def rNeU (K:W.Frag):R2:=fun x y H Q=>rNe x y H Q\/rNeD K x y H Q
theorem ux_eq (h:X.K=K') (hu:X.A.units + 64 < cLine):OpR X (compareOp .Eq) (rEqU K'):=by subst h; exact OpR.or op_eq (op_eqD hu)
theorem ux_ne (h:X.K=K') (hu:X.A.units + 64 < cLine):OpR X (compareOp .NotEq) (rNeU K'):=by subst h; exact OpR.or op_ne (op_neD hu)
theorem eqS_rep {I:Hp} {α:List Addr} {x y:V} {d e:D} {b:Bool} (r1:Rep C I α x d) (r2:Rep C I α y e) (h:eqS d e=some b):scal x y=true/\decide (x=y)=b:=by
 cases r1 <;> first | (cases h; done) | (cases r2 <;> first | (cases h; done) | (injection h with h; subst h; refine ⟨rfl,?_⟩; simp))
theorem s_eq:SimR C Z (rEqU C.k) eq3:=fun I α H M x y d e K Q R r1 r2 h k=>by
 rcases h with ⟨b,eb,h⟩ | ⟨p,q,h1,h2,h3,h4,h⟩
 ·obtain ⟨z1,z2⟩:=eqS_rep r1 r2 eb
  exact .inl ⟨z1,by rw [z2]; exact k _ _ I α H M (.refl _) (List.prefix_refl _) R (.bl _) h⟩
 ·exact .inr ⟨p,q,py_dv R h1 r1,py_dv R h2 r2,h3,h4,k _ _ I α H M (.refl _) (List.prefix_refl _) R (.bl _) h⟩
theorem s_ne:SimR C Z (rNeU C.k) ne3:=fun I α H M x y d e K Q R r1 r2 h k=>by
 rcases h with ⟨b,eb,h⟩ | ⟨p,q,h1,h2,h3,h4,h⟩
 ·obtain ⟨z1,z2⟩:=eqS_rep r1 r2 eb
  exact .inl ⟨z1,by rw [z2]; exact k _ _ I α H M (.refl _) (List.prefix_refl _) R (.bl _) h⟩
 ·exact .inr ⟨p,q,py_dv R h1 r1,py_dv R h2 r2,h3,h4,k _ _ I α H M (.refl _) (List.prefix_refl _) R (.bl _) h⟩
end
structure Enc (τ:Type) [DecidableEq τ] where
 e:τ->D
 py:τ->PyData
 n:Nat
 ok:∀ M a,PyR M (e a) (py a)
 shp:∀ a,Shp n (py a)
 eq:∀ a b,PyData.eqv (py a) (py b)=decide (a=b)
 hn:n<=60
theorem eqv_all {τ:Type} [DecidableEq τ] {f:τ->PyData} (h:∀ a b,PyData.eqv (f a) (f b)=decide (a=b)):∀ (a b:List τ),PyData.eqvAll (a.map f) (b.map f)=decide (a=b)
 | [],[]=>by simp [PyData.eqvAll]
 | [],_::_=>by simp [PyData.eqvAll]
 | _::_,[]=>by simp [PyData.eqvAll]
 | a::r,b::t=>by
  rw [List.map_cons,List.map_cons,PyData.eqvAll,h,eqv_all h r t]
  simp
theorem pys_map {τ:Type} {M:Mem} {e:τ->D} {py:τ->PyData} (h:∀ a,PyR M (e a) (py a)):∀ as:List τ,PyRs M (as.map e) (as.map py)
 | []=>.nil
 | a::r=>.cons (h a) (pys_map h r)
def encLst {τ:Type} [DecidableEq τ] (E:Enc τ) (h:E.n<=50:=by decide):Enc (List τ) where
 e as:=.lst (as.map E.e)
 py as:=.list (as.map E.py)
 n:=E.n + 1
 ok:=fun M as=>.seq rfl (pys_map (E.ok M) as)
 shp:=fun as=>shp_list fun d hd=>by
  obtain ⟨a,_,rfl⟩:=List.mem_map.mp hd
  exact E.shp a
 eq:=fun a b=>by rw [PyData.eqv,eqv_all E.eq]
 hn:=by omega
theorem eqv_seq {τ:Type} [DecidableEq τ] (E:Enc τ) {d d':D} {a b:List τ} {M:Mem} {K:Bool->Prop} (h1:lstOf M d=some (a.map E.e)) (h2:lstOf M d'=some (b.map E.e)) (h:K (decide (a=b))) (hn:E.n<=50:=by decide):eqV d d' M K :=
 .inr ⟨_,_,.seq h1 (pys_map (E.ok M) a),.seq h2 (pys_map (E.ok M) b),((encLst E hn).shp a).shaped (by have:=(encLst E hn).hn; omega),((encLst E hn).shp b).shaped (by have:=(encLst E hn).hn; omega),by
  have:=(encLst E hn).eq a b
  rw [show PyData.eqv (PyData.list (a.map E.py)) (PyData.list (b.map E.py))=decide (a=b) from this]
  exact h⟩
inductive Ty3 where
 | non | bool | int | str | list | tuple | dict
 deriving DecidableEq
def tyN:Ty3->String
 | .non=>"NoneType" | .bool=>"bool" | .int=>"int" | .str=>"str" | .list=>"list" | .tuple=>"tuple" | .dict=>"dict"
def tyOf (M:Mem):D->Option Ty3
 | .non=>some .non | .bl _=>some .bool | .int _=>some .int | .str _=>some .str | .lst _=>some .list | .tup _=>some .tuple | .dct _=>some .dict | .dcT _=>some .dict
 | .cell k=>match M[k]? with | some (.lst _)=>some .list | some (.dct _)=>some .dict | some (.dcT _)=>some .dict | _=>none
 | _=>none
def isS:Ty3->Ty3->Bool
 | .bool,.int=>true
 | a,b=>decide (a=b)
section
variable {C:Cf} {Z:Anc}
theorem isS_kit (s t:Ty3) (ht:t≠.non):W.kitOne C.k (.type (tyN s)) (.type (tyN t))=some (isS s t):=by
 cases t with
 | non=>exact absurd rfl ht
 | _=>cases s <;> rfl
theorem ty_rep {I:Hp} {α:List Addr} {H:Hp} {M:Mem} {v:V} {d:D} {s:Ty3} (R:Rel C Z I α H M) (r:Rep C I α v d) (h:tyOf M d=some s):TyOf C.k H v (.type (tyN s)):=by
 cases r with
 | non=>cases h; exact .non
 | bl b=>cases h; exact .bl b
 | int b=>cases h; exact .int b
 | str b=>cases h; exact .str b
 | lst e r=>cases h; exact .lst (R.sub _ _ e)
 | frz e r=>cases h
 | tup e r=>cases h; exact .tup (R.sub _ _ e)
 | dct e r=>cases h; exact .dK (R.sub _ _ e)
 | dcT e r=>cases h; exact .dT (R.sub _ _ e)
 | @cell a k e =>
  unfold tyOf at h
  cases hm:M[k]? with
  | none=>simp only [hm] at h; cases h
  | some m =>
   cases m with
   | lst es=>simp only [hm] at h; cases h; obtain ⟨vs,e1,r⟩:=(R.cel k a _ e hm).1; exact .lst e1
   | dct es=>simp only [hm] at h; cases h; obtain ⟨vs,e1,r⟩:=(R.cel k a _ e hm).1; exact .dK e1
   | dcT es=>simp only [hm] at h; cases h; obtain ⟨vs,e1,r⟩:=(R.cel k a _ e hm).1; exact .dT e1
   | _=>simp only [hm] at h; cases h
 | _=>cases h
def isi3 (T:Ty3):List D->Mem->K3->Prop:=fun ds M K=>∃ d s,ds=[d,.ty (tyN T)]/\tyOf M d=some s/\K (.bl (isS s T)) M
theorem s_isi {T:Ty3} (hT:T≠.non:=by decide):SimC C Z (rIsi C.k) (isi3 T):=fun I α H M xs ds K Q R r h k=>by
 obtain ⟨d,s,rfl,e,h⟩:=h
 cases r with
 | cons r1 r2 =>
  cases r2 with
  | cons r2 r3 =>
   cases r3
   cases r2
   exact ⟨_,_,_,_,rfl,ty_rep R r1 e,isS_kit s T hT,k _ _ I α H M (.refl _) (List.prefix_refl _) R (.bl _) h⟩
def len3:List D->Mem->K3->Prop:=fun ds M K=>match ds with
 | [.str z]=>z.length<=sizeLine/\K (.int z.length) M
 | [d]=>∃ xs,seqOf M d=some xs/\K (.int xs.length) M
 | _=>False
theorem s_len:SimC C Z (rLen C.k) len3:=fun I α H M xs ds K Q R r h k=>by
 have go:∀ d v,Rep C I α v d->(∃ xs,seqOf M d=some xs/\K (.int xs.length) M)->rLen C.k [v] H Q:=fun d v r h=>by
  obtain ⟨ys,e1,h⟩:=h
  by_cases ht:∃ zs,d=.tup zs
  ·obtain ⟨zs,rfl⟩:=ht
   cases e1
   obtain ⟨a,vs,rfl,ea,_,ra⟩:=tup_at R r rfl
   exact ⟨_,_,rfl,.inr ⟨_,SqT.of ea,rfl⟩,by rw [ra.length]; exact k _ _ I α H M (.refl _) (List.prefix_refl _) R (.int _) h⟩
  ·have e1':lstOf M d=some ys:=by
    cases d with
    | tup ys=>exact absurd ⟨ys,rfl⟩ ht
    | _=>exact e1
   obtain ⟨a,vs,rfl,ea,ra⟩:=lst_at R r e1'
   exact ⟨_,_,rfl,.inl ⟨_,ea,rfl⟩,by rw [ra.length]; exact k _ _ I α H M (.refl _) (List.prefix_refl _) R (.int _) h⟩
 cases r with
 | nil=>exact h.elim
 | cons r1 r2 =>
  cases r2 with
  | nil =>
   rename_i v d
   cases d with
   | str z=>cases r1; exact ⟨_,_,rfl,⟨h.1,rfl⟩,k _ _ I α H M (.refl _) (List.prefix_refl _) R (.int _) h.2⟩
   | _=>exact go _ _ r1 h
  | cons _ _ =>
   rename_i v d _ _ _ _ _ _
   cases d <;> exact h.elim
def two3 (f:Int->Int->D):List D->Mem->K3->Prop:=fun ds M K=>∃ i j,ds=[.int i,.int j]/\K (f i j) M
theorem s_max2:SimC C Z (fun xs H Q=>∃ i j,xs=[.int i,.int j]/\Q (.int (if j > i then j else i)) H) (two3 fun i j=>.int (if j > i then j else i)):=fun I α H M xs ds K Q R r h k=>by
 obtain ⟨i,j,rfl,h⟩:=h
 cases r with
 | cons r1 r2 =>
  cases r2 with
  | cons r2 r3 =>
   cases r3
   cases r1
   cases r2
   exact ⟨i,j,rfl,k _ _ I α H M (.refl _) (List.prefix_refl _) R (.int _) h⟩
theorem s_min2:SimC C Z (fun xs H Q=>∃ i j,xs=[.int i,.int j]/\Q (.int (if j < i then j else i)) H) (two3 fun i j=>.int (if j < i then j else i)):=fun I α H M xs ds K Q R r h k=>by
 obtain ⟨i,j,rfl,h⟩:=h
 cases r with
 | cons r1 r2 =>
  cases r2 with
  | cons r2 r3 =>
   cases r3
   cases r1
   cases r2
   exact ⟨i,j,rfl,k _ _ I α H M (.refl _) (List.prefix_refl _) R (.int _) h⟩
theorem Reps.of_bls {I:Hp} {α:List Addr}:∀ {vs:List V} (bs:List Bool),Reps C I α vs (bs.map D.bl)->vs=bs.map V.bl
 | _,[],h=>by cases h; rfl
 | _,n::r,h=>by
  cases h with
  | cons a b =>
   cases a
   rw [Reps.of_bls r b]
   rfl
def any3:List D->Mem->K3->Prop:=fun ds M K=>∃ (d:D) (bs:List Bool),ds=[d]/\lstOf M d=some (bs.map D.bl)/\K (.bl (bs.any id)) M
theorem s_any:SimC C Z (fun xs H Q=>∃ (p:Addr) (bs:List Bool),xs=[.ref p]/\SqL C.k H p (bs.map V.bl)/\Q (.bl (bs.any id)) H) any3:=fun I α H M xs ds K Q R r h k=>by
 obtain ⟨d,bs,rfl,e,h⟩:=h
 cases r with
 | cons r1 r2 =>
  cases r2
  obtain ⟨a,vs,rfl,ea,ra⟩:=lst_at R r1 e
  rw [ra.of_bls bs] at ea
  exact ⟨a,bs,rfl,ea,k _ _ I α H M (.refl _) (List.prefix_refl _) R (.bl _) h⟩
theorem Rel.putL {I:Hp} {α:List Addr} {H:Hp} {M:Mem} (R:Rel C Z I α H M) {k:Nat} {a:Addr} {vs:List V} {ds:List D} (ha:α[k]?=some a) (r:Reps C I α vs ds):Rel C Z I α (upd H a (.lst vs)) (M.set k (.lst ds)) :=
 R.put (m:=.lst ds) ha fun H' e=>⟨vs,e,r⟩
theorem tyV_lst {H:Hp} {a:Addr} {vs:List V} (e:H a=some (.lst vs)):tyV C.k "list" (.ref a) H:=.inl ⟨rfl,vs,SqL.of e⟩
def app3:D->List D->Mem->K3->Prop:=fun d ds M K=>∃ k xs y,d=.cell k/\ds=[y]/\M[k]?=some (.lst xs)/\xs.length < sizeLine/\K .non (M.set k (.lst (xs++[y])))
variable {to:TE} {uo:TE3} {t:TA} {u:TA3}
theorem s_append (ho:SimE C Z to uo) (ha:SimA C Z t u):SimE C Z (tBM C.k "list" rAppend to t) (fun ρ M K=>uo ρ M fun d M1=>lsOf M1 d≠none/\u ρ M1 fun ds M2=>app3 d ds M2 K):=fun I α σ H ρ M K Q R E h k =>
 ho I α σ H ρ M _ _ R E h fun v d I1 α1 H1 M1 s1 p1 R1 r1 h1=>by
  obtain ⟨hn,h1⟩:=h1
  cases hl:lsOf M1 d with
  | none=>exact absurd hl hn
  | some zs =>
   obtain ⟨a,vs,rfl,ea,ra⟩:=ls_at R1 r1 hl
   refine ⟨tyV_lst ea,ha I1 α1 σ H1 ρ M1 _ _ R1 (E.mono s1 p1) h1 fun ws ds I2 α2 H2 M2 s2 p2 R2 r2 h2=>?_⟩
   obtain ⟨j,xs,y,rfl,rfl,e1,hz,h2⟩:=h2
   cases r2 with
   | cons ry rn =>
    cases rn
    cases (r1.mono s2 p2) with
    | cell ec =>
     obtain ⟨us,eu,ru⟩:=cell_lst R2 ec e1
     refine ⟨a,us,_,rfl,rfl,eu,by rw [ru.length]; exact hz,?_⟩
     exact k _ _ I2 α2 _ _ (s1.trans s2) (p1.trans p2) (R2.putL ec (ru.app (.one ry))) .non h2
end
def Below (n:Nat) (d:D):Prop:=∀ C I α v,Rep C I α v d->Rep C I (α.take n) v d
def BelowM (n:Nat) (m:MO):Prop:=∀ C I α H a,MoAt C I α H a m->MoAt C I (α.take n) H a m
inductive BelowE (n:Nat):Ev->Ev->Prop where
 | nil:BelowE n [] []
 | skip {o:Option D} {r r':Ev}:BelowE n r r'->BelowE n (o::r) (none::r')
 | keep {d:D} {r r':Ev}:Below n d->BelowE n r r'->BelowE n (some d::r) (some d::r')
inductive BelS (n:Nat):Ev->Ev->Ev->Prop where
 | nil:BelS n [] [] []
 | skip {o0 o:Option D} {r0 r r':Ev}:BelS n r0 r r'->BelS n (o0::r0) (o::r) (none::r')
 | same {d:D} {r0 r r':Ev}:BelS n r0 r r'->BelS n (some d::r0) (some d::r) (some d::r')
 | keep {o0:Option D} {d:D} {r0 r r':Ev}:Below n d->BelS n r0 r r'->BelS n (o0::r0) (some d::r) (some d::r')
def Dr (ρ0:Ev) (M0:Mem) (P:Ev->Mem->Prop) (ρ:Ev) (M:Mem):Prop:=P ρ M\/(∃ ρ',(∃ X,M=M0++X)/\BelS M0.length ρ0 ρ ρ'/\P ρ' M0)\/∃ n ρ',M0.length<=n/\BelowE n ρ ρ'/\(∀ m∈M.take n,BelowM n m)/\P ρ' (M.take n)
def Dk (n0:Nat) (K:K3):K3:=fun d M=>K d M\/∃ n,n0<=n/\Below n d/\(∀ m∈M.take n,BelowM n m)/\K d (M.take n)
section
variable {C:Cf} {Z:Anc} {I I':Hp} {α α':List Addr} {H H':Hp} {M:Mem}
theorem BelowE.rep {n:Nat} {ρ ρ':Ev} (b:BelowE n ρ ρ'):∀ {σ:St},RepE C I α σ ρ->RepE C I (α.take n) σ ρ':=by
 induction b with
 | nil=>exact fun h=>⟨h.1,fun i d e=>by simp at e⟩
 | @skip o r r' b ih =>
  intro σ h
  cases σ with
  | nil=>cases h.1
  | cons s σ =>
   have h':RepE C I α σ r:=⟨by simpa using h.1,fun i d e=>by
    obtain ⟨v,a,b⟩:=h.2 (i + 1) d (by simpa using e)
    exact ⟨v,by simpa using a,b⟩⟩
   obtain ⟨l,g⟩:=ih h'
   refine ⟨by rw [List.length_cons,List.length_cons,l],fun i d e=>?_⟩
   cases i with
   | zero=>simp at e
   | succ i =>
    obtain ⟨v,a,b⟩:=g i d (by simpa using e)
    exact ⟨v,by simpa using a,b⟩
 | @keep d0 r r' hb b ih =>
  intro σ h
  cases σ with
  | nil=>cases h.1
  | cons s σ =>
   have h':RepE C I α σ r:=⟨by simpa using h.1,fun i d e=>by
    obtain ⟨v,a,b⟩:=h.2 (i + 1) d (by simpa using e)
    exact ⟨v,by simpa using a,b⟩⟩
   obtain ⟨l,g⟩:=ih h'
   refine ⟨by rw [List.length_cons,List.length_cons,l],fun i d e=>?_⟩
   cases i with
   | zero =>
    obtain ⟨v,a,b⟩:=h.2 0 d e
    simp at e
    subst e
    exact ⟨v,a,hb _ _ _ _ b⟩
   | succ i =>
    obtain ⟨v,a,b⟩:=g i d (by simpa using e)
    exact ⟨v,by simpa using a,b⟩
theorem pre_take {α0:List Addr} (p:α0<+:α) {n:Nat} (h:α0.length<=n):α0<+:α.take n:=by
 obtain ⟨t,rfl⟩:=p
 rw [List.take_append,List.take_of_length_le h]
 exact List.prefix_append _ _
theorem Rel.take (R:Rel C Z I α H M) (n:Nat) (hz:Z.a.length<=n) (hb:∀ m∈M.take n,BelowM n m):Rel C Z I (α.take n) H (M.take n):=by
 refine ⟨R.ai,pre_take R.aa hz,R.sub,by rw [List.length_take,List.length_take,R.len],R.nd.sublist (List.take_sublist _ _),fun k a m h1 h2=>?_⟩
 have h1':α[k]?=some a:=by
  rw [List.getElem?_take] at h1
  split at h1
  ·exact h1
  ·cases h1
 have h2':M[k]?=some m:=by
  rw [List.getElem?_take] at h2
  split at h2
  ·exact h2
  ·cases h2
 obtain ⟨a1,a2⟩:=R.cel k a m h1' h2'
 exact ⟨hb m (List.mem_of_getElem? h2) _ _ _ _ _ a1,a2⟩
theorem Fin.dk {K:K3} {Q:VK} (k:Fin C Z I α K Q) {n0:Nat} (hn:α.length=n0) (ha:Z.a<+:α):Fin C Z I α (Dk n0 K) Q:=fun v d I' α' H' M' s p R r h=>by
 rcases h with h | ⟨n,hl,hb,hm,h⟩
 ·exact k v d I' α' H' M' s p R r h
 ·exact k v d I' (α'.take n) H' (M'.take n) s (pre_take p (by omega)) (R.take n (by have:=ha.length_le; omega) hm) (hb _ _ _ _ r) h
end
theorem below_int {n:Nat} {i:Int}:Below n (.int i):=fun _ _ _ _ r=>by cases r; exact .int _
theorem below_bl {n:Nat} {i:Bool}:Below n (.bl i):=fun _ _ _ _ r=>by cases r; exact .bl _
theorem below_str {n:Nat} {i:Str}:Below n (.str i):=fun _ _ _ _ r=>by cases r; exact .str _
theorem below_non {n:Nat}:Below n .non:=fun _ _ _ _ r=>by cases r; exact .non
theorem below_code {n:Nat} {S:List Pr}:Below n (.code S):=fun _ _ _ _ r=>by cases r with | code h=>exact .code h
theorem below_cell {n k:Nat} (h:k < n):Below n (.cell k):=fun _ _ α _ r=>by
 cases r with
 | cell e=>exact .cell (by rw [List.getElem?_take,if_pos h]; exact e)
theorem below_all {n:Nat} {ds:List D} (h:∀ d∈ds,Below n d) {C:Cf} {I:Hp} {α:List Addr}:∀ {vs:List V},Reps C I α vs ds->Reps C I (α.take n) vs ds:=by
 induction ds with
 | nil=>intro vs r; cases r; exact .nil
 | cons d ds ih =>
  intro vs r
  cases r with
  | cons a b=>exact .cons (h d List.mem_cons_self _ _ _ _ a) (ih (fun x hx=>h x (List.mem_cons_of_mem _ hx)) b)
theorem below_lst {n:Nat} {ds:List D} (h:∀ d∈ds,Below n d):Below n (.lst ds):=fun _ _ _ _ r=>by cases r with | lst e r=>exact .lst e (below_all h r)
theorem below_frz {n:Nat} {ds:List D} (h:∀ d∈ds,Below n d):Below n (.frz ds):=fun _ _ _ _ r=>by cases r with | frz e r=>exact .frz e (below_all h r)
theorem below_tup {n:Nat} {ds:List D} (h:∀ d∈ds,Below n d):Below n (.tup ds):=fun _ _ _ _ r=>by cases r with | tup e r=>exact .tup e (below_all h r)
theorem below_nil {n:Nat}:∀ d∈([]:List D),Below n d:=fun _ h=>nomatch h
theorem below_cons {n:Nat} {d:D} {ds:List D} (h:Below n d) (r:∀ d∈ds,Below n d):∀ x∈d::ds,Below n x:=fun x hx=>by
 rcases List.mem_cons.mp hx with z | z
 ·rw [z]; exact h
 ·exact r x z
theorem bm_hand {n:Nat}:BelowM n .hand:=fun _ _ _ _ _ h=>h
theorem bm_tab {n:Nat} {P:Addr} {p:Pos} {q:Str}:BelowM n (.tab P p q):=fun _ _ _ _ _ h=>h
theorem bm_lst {n:Nat} {ds:List D} (h:∀ d∈ds,Below n d):BelowM n (.lst ds):=fun _ _ _ _ _ x=>by
 obtain ⟨vs,e,r⟩:=x
 exact ⟨vs,e,below_all h r⟩
def WfM (M:Mem):Prop:=∀ m∈M,BelowM M.length m
theorem below_dct {n:Nat} {kvs:List (Key×D)} (h:∀ kv∈kvs,Below n kv.2) {C:Cf} {I:Hp} {α:List Addr}:∀ {vs:List (Key×V)},RepK C I α vs kvs->RepK C I (α.take n) vs kvs:=by
 induction kvs with
 | nil=>intro vs r; cases r; exact .nil
 | cons d ds ih =>
  intro vs r
  cases r with
  | cons a b=>exact .cons (h _ List.mem_cons_self _ _ _ _ a) (ih (fun x hx=>h x (List.mem_cons_of_mem _ hx)) b)
theorem below_dcT {n:Nat} {kvs:List (List Key×D)} (h:∀ kv∈kvs,Below n kv.2) {C:Cf} {I:Hp} {α:List Addr}:∀ {vs:List (List Key×V)},RepT C I α vs kvs->RepT C I (α.take n) vs kvs:=by
 induction kvs with
 | nil=>intro vs r; cases r; exact .nil
 | cons d ds ih =>
  intro vs r
  cases r with
  | cons a b=>exact .cons (h _ List.mem_cons_self _ _ _ _ a) (ih (fun x hx=>h x (List.mem_cons_of_mem _ hx)) b)
theorem below_exc {n:Nat} {kvs:List (Str×D)} (h:∀ kv∈kvs,Below n kv.2) {C:Cf} {I:Hp} {α:List Addr}:∀ {vs:List (Str×V)},RepF C I α vs kvs->RepF C I (α.take n) vs kvs:=by
 induction kvs with
 | nil=>intro vs r; cases r; exact .nil
 | cons d ds ih =>
  intro vs r
  cases r with
  | cons a b=>exact .cons (h _ List.mem_cons_self _ _ _ _ a) (ih (fun x hx=>h x (List.mem_cons_of_mem _ hx)) b)
mutual
theorem Rep.bel {C:Cf} {I:Hp} {α:List Addr}:∀ {v:V} {d:D},Rep C I α v d->Below α.length d:=by
 intro _ _ h
 cases h with
 | non=>exact below_non
 | bl b=>exact below_bl
 | int i=>exact below_int
 | str x=>exact below_str
 | ty n=>exact fun _ _ _ _ r=>by cases r; exact .ty _
 | «at» a=>exact fun _ _ _ _ r=>by cases r; exact .at _
 | tup e r=>exact below_tup (Reps.bel r)
 | lst e r=>exact below_lst (Reps.bel r)
 | frz e r=>exact below_frz (Reps.bel r)
 | dct e r=>exact fun _ _ _ _ q=>by cases q with | dct e q=>exact .dct e (below_dct (RepK.bel r) q)
 | dcT e r=>exact fun _ _ _ _ q=>by cases q with | dcT e q=>exact .dcT e (below_dcT (RepT.bel r) q)
 | code h=>exact below_code
 | cell e=>exact below_cell (List.getElem?_eq_some_iff.mp e).1
 | exc e f r=>exact fun _ _ _ _ q=>by cases q with | exc e f q=>exact .exc e f (below_exc (RepF.bel r) q)
theorem Reps.bel {C:Cf} {I:Hp} {α:List Addr}:∀ {vs:List V} {ds:List D},Reps C I α vs ds->∀ d∈ds,Below α.length d:=by
 intro _ _ h
 cases h with
 | nil=>exact below_nil
 | cons h r=>exact below_cons (Rep.bel h) (Reps.bel r)
theorem RepK.bel {C:Cf} {I:Hp} {α:List Addr}:∀ {vs:List (Key×V)} {ds:List (Key×D)},RepK C I α vs ds->∀ kv∈ds,Below α.length kv.2:=by
 intro _ _ h
 cases h with
 | nil=>exact fun _ h=>nomatch h
 | cons h r =>
  exact fun kv hk=>by
   rcases List.mem_cons.mp hk with z | z
   ·rw [z]; exact Rep.bel h
   ·exact RepK.bel r kv z
theorem RepF.bel {C:Cf} {I:Hp} {α:List Addr}:∀ {vs:List (Str×V)} {ds:List (Str×D)},RepF C I α vs ds->∀ kv∈ds,Below α.length kv.2:=by
 intro _ _ h
 cases h with
 | nil=>exact fun _ h=>nomatch h
 | cons h r =>
  exact fun kv hk=>by
   rcases List.mem_cons.mp hk with z | z
   ·rw [z]; exact Rep.bel h
   ·exact RepF.bel r kv z
theorem RepT.bel {C:Cf} {I:Hp} {α:List Addr}:∀ {vs:List (List Key×V)} {ds:List (List Key×D)},RepT C I α vs ds->∀ kv∈ds,Below α.length kv.2:=by
 intro _ _ h
 cases h with
 | nil=>exact fun _ h=>nomatch h
 | cons h r =>
  exact fun kv hk=>by
   rcases List.mem_cons.mp hk with z | z
   ·rw [z]; exact Rep.bel h
   ·exact RepT.bel r kv z
end
theorem bm_dct {n:Nat} {ds:List (Key×D)} (h:∀ d∈ds,Below n d.2):BelowM n (.dct ds):=fun _ _ _ _ _ x=>by
 obtain ⟨vs,e,r⟩:=x
 exact ⟨vs,e,below_dct h r⟩
theorem bm_dcT {n:Nat} {ds:List (List Key×D)} (h:∀ d∈ds,Below n d.2):BelowM n (.dcT ds):=fun _ _ _ _ _ x=>by
 obtain ⟨vs,e,r⟩:=x
 exact ⟨vs,e,below_dcT h r⟩
theorem bm_drK {n:Nat} {ds:List (Key×D)} (h:∀ d∈ds,Below n d.2):BelowM n (.drK ds):=fun _ _ _ _ _ x=>by
 obtain ⟨vs,e,r⟩:=x
 exact ⟨vs,e,below_dct h r⟩
theorem bm_drT {n:Nat} {ds:List (List Key×D)} (h:∀ d∈ds,Below n d.2):BelowM n (.drT ds):=fun _ _ _ _ _ x=>by
 obtain ⟨vs,e,r⟩:=x
 exact ⟨vs,e,below_dcT h r⟩
theorem bm_dfT {n:Nat} {o:Obj} {vs:List (List Key×V)} {ds:List (List Key×D)} (h:∀ d∈ds,Below n d.2):BelowM n (.dfT o vs ds):=fun _ _ _ _ _ x=>⟨x.1,below_dcT h x.2⟩
theorem bm_dfK {n:Nat} {o:Obj} {vs:List (Key×V)} {ds:List (Key×D)} (h:∀ d∈ds,Below n d.2):BelowM n (.dfK o vs ds):=fun _ _ _ _ _ x=>⟨x.1,below_dct h x.2⟩
theorem bm_ins {n:Nat} {Cl:Addr} {fs:List (Str×D)} (h:∀ d∈fs,Below n d.2):BelowM n (.ins Cl fs):=fun C I α H a x=>by
 obtain ⟨dx,vs,e,r⟩:=x
 refine ⟨dx,vs,e,?_⟩
 clear e
 induction fs generalizing vs with
 | nil=>cases r; exact .nil
 | cons d ds ih =>
  cases r with
  | cons a b=>exact .cons ⟨a.1,h _ List.mem_cons_self _ _ _ _ a.2⟩ (ih (fun x hx=>h x (List.mem_cons_of_mem _ hx)) _ b)
theorem MoAt.bel {C:Cf} {I:Hp} {α:List Addr} {H:Hp} {a:Addr} {m:MO} (h:MoAt C I α H a m):BelowM α.length m:=by
 cases m with
 | lst ds=>obtain ⟨vs,e,r⟩:=h; exact bm_lst r.bel
 | dct ds=>obtain ⟨vs,e,r⟩:=h; exact bm_dct r.bel
 | dcT ds=>obtain ⟨vs,e,r⟩:=h; exact bm_dcT r.bel
 | drK ds=>obtain ⟨vs,e,r⟩:=h; exact bm_drK r.bel
 | drT ds=>obtain ⟨vs,e,r⟩:=h; exact bm_drT r.bel
 | dfT o vs ds=>exact bm_dfT h.2.bel
 | dfK o vs ds=>exact bm_dfK h.2.bel
 | ins Cl fs =>
  obtain ⟨dx,vs,e,r⟩:=h
  refine bm_ins fun kv hk=>?_
  clear e
  induction r with
  | nil=>cases hk
  | cons a b ih =>
   rcases List.mem_cons.mp hk with z | z
   ·rw [z]; exact a.2.bel
   ·exact ih z
 | hand=>exact bm_hand
 | tab P pos q=>exact bm_tab
theorem Rel.wf {C:Cf} {Z:Anc} {I:Hp} {α:List Addr} {H:Hp} {M:Mem} (R:Rel C Z I α H M):WfM M:=fun m hm=>by
 obtain ⟨k,hk,rfl⟩:=List.getElem_of_mem hm
 have hk':k < α.length:=by rw [R.len]; exact hk
 have:=(R.cel k _ _ (List.getElem?_eq_getElem hk') (List.getElem?_eq_getElem hk)).1.bel
 rwa [R.len] at this
theorem BelS.belowE {n:Nat} {ρ0 ρ ρ':Ev} (b:BelS n ρ0 ρ ρ'):(∀ (i:Nat) (d:D),ρ0[i]?=some (some d)->Below n d)->BelowE n ρ ρ':=by
 induction b with
 | nil=>exact fun _=>.nil
 | skip _ ih=>exact fun h=>.skip (ih fun i d e=>h (i + 1) d (by simpa using e))
 | same _ ih=>exact fun h=>.keep (h 0 _ rfl) (ih fun i d e=>h (i + 1) d (by simpa using e))
 | keep hb _ ih=>exact fun h=>.keep hb (ih fun i d e=>h (i + 1) d (by simpa using e))
theorem Dr.out {C:Cf} {Z:Anc} {I I0:Hp} {α0 α:List Addr} {H H0:Hp} {M M0:Mem} {P:Ev->Mem->Prop} {σ σ0:St} {ρ ρ0:Ev} (h:Dr ρ0 M0 P ρ M) (R0:Rel C Z I0 α0 H0 M0) (E0:RepE C I0 α0 σ0 ρ0) (p:α0<+:α) (R:Rel C Z I α H M) (E:RepE C I α σ ρ) :
  ∃ α' ρ' M',α0<+:α'/\Rel C Z I α' H M'/\RepE C I α' σ ρ'/\P ρ' M':=by
 rcases h with h | ⟨ρ',⟨X,rfl⟩,hb,h⟩ | ⟨n,ρ',hl,hb,hm,h⟩
 ·exact ⟨α,ρ,M,p,R,E,h⟩
 ·have hb':=hb.belowE fun i d e=>by
   obtain ⟨v,_,r⟩:=E0.2 i d e
   have:=r.bel
   rwa [R0.len] at this
  have et:(M0++X).take M0.length=M0:=List.take_left ..
  have R1:=R.take M0.length (by rw [<- R0.len]; exact R0.aa.length_le) (by rw [et]; exact R0.wf)
  rw [et] at R1
  exact ⟨α.take M0.length,ρ',M0,pre_take p (by rw [R0.len]; exact Nat.le_refl _),R1,hb'.rep E,h⟩
 ·exact ⟨α.take n,ρ',M.take n,pre_take p (by rw [R0.len]; omega),R.take n (by have:=R0.aa.length_le; have:=R0.len; omega) hm,hb.rep E,h⟩
section
variable {C:Cf} {Z:Anc} {t t':TS} {u u':TS3} {te:TE} {ue:TE3} {tc:TT} {uc:TT3} {g:TG} {ug:TG3} {gs:TGs} {ugs:TGs3}
def uSeq (u u':TS3):TS3:=fun E ρ M=>u { E with nx:=u' E } ρ M
theorem s_seq (h1:SimS C Z t u) (h2:SimS C Z t' u'):SimS C Z (tSeq t t') (uSeq u u'):=fun I α σ H ρ M E D' R RE h F =>
 h1 I α σ H ρ M { E with nx:=u' E } { D' with nx:=t' D' } R RE h ⟨fun I1 α1 σ1 H1 ρ1 M1 s p R1 RE1 h1=>h2 I1 α1 σ1 H1 ρ1 M1 E D' R1 RE1 h1 (F.mono s p),F.rt,F.bk,F.ct⟩
def uNext:TS3:=fun E ρ M=>E.nx ρ M
theorem s_next:SimS C Z tNext uNext:=fun I α σ H ρ M E D' R RE h F=>F.nx I α σ H ρ M (.refl _) (List.prefix_refl _) R RE h
def uDrop (ue:TE3):TS3:=fun E ρ M=>ue ρ M fun _ M1=>E.nx ρ M1
theorem s_drop (he:SimE C Z te ue):SimS C Z (tDrop te) (uDrop ue):=fun I α σ H ρ M E D' R RE h F =>
 he I α σ H ρ M _ _ R RE h fun v d I1 α1 H1 M1 s p R1 r h1=>F.nx I1 α1 σ H1 ρ M1 s p R1 (RE.mono s p) h1
def uRet (ue:TE3):TS3:=fun E ρ M=>ue ρ M E.rt
theorem s_ret (he:SimE C Z te ue):SimS C Z (tRet te) (uRet ue):=fun I α σ H ρ M E D' R RE h F=>he I α σ H ρ M _ _ R RE h F.rt
def uIfS (c:TT3) (u u':TS3):TS3:=fun E ρ M=>c ρ M fun b M1=>if b=true then u E ρ M1 else u' E ρ M1
theorem s_ifS (hc:SimT C Z tc uc) (h1:SimS C Z t u) (h2:SimS C Z t' u'):SimS C Z (tIfS tc t t') (uIfS uc u u'):=fun I α σ H ρ M E D' R RE h F =>
 hc I α σ H ρ M _ _ R RE h fun b I1 α1 H1 M1 s p R1 h3=>by
  cases b with
  | true =>
   rw [if_pos rfl] at h3 ⊢
   exact h1 I1 α1 σ H1 ρ M1 E D' R1 (RE.mono s p) h3 (F.mono s p)
  | false =>
   rw [if_neg Bool.false_ne_true] at h3 ⊢
   exact h2 I1 α1 σ H1 ρ M1 E D' R1 (RE.mono s p) h3 (F.mono s p)
def uAsg (ue:TE3) (ug:TG3):TS3:=fun E ρ M=>ue ρ M fun d M1=>ug d ρ M1 E.nx
theorem s_asg (he:SimE C Z te ue) (hg:SimG C Z g ug):SimS C Z (tAsg te g) (uAsg ue ug):=fun I α σ H ρ M E D' R RE h F =>
 he I α σ H ρ M _ _ R RE h fun v d I1 α1 H1 M1 s p R1 r h1=>hg I1 α1 σ H1 ρ M1 v d _ _ R1 (RE.mono s p) r h1 (F.nx.mono s p)
def uG (i:Nat):TG3:=fun d ρ M K=>K (ρ.set i (some d)) M
theorem s_g (i:Nat):SimG C Z (gName i) (uG i):=fun I α σ H ρ M v d K Q R RE r h k=>k I α _ H _ M (.refl _) (List.prefix_refl _) R (RE.set r i) h
def uGNil:TGs3:=fun ds ρ M K=>ds=[]/\K ρ M
def uGCons (ug:TG3) (ugs:TGs3):TGs3:=fun ds ρ M K=>∃ d r,ds=d::r/\ug d ρ M fun ρ' M'=>ugs r ρ' M' K
theorem s_gnil:SimGs C Z gNil uGNil:=fun I α σ H ρ M vs ds K Q R RE r h k=>by
 obtain ⟨rfl,h⟩:=h
 cases r
 exact ⟨rfl,k I α σ H ρ M (.refl _) (List.prefix_refl _) R RE h⟩
theorem s_gcons (h1:SimG C Z g ug) (h2:SimGs C Z gs ugs):SimGs C Z (gCons g gs) (uGCons ug ugs):=fun I α σ H ρ M vs ds K Q R RE r h k=>by
 obtain ⟨d,r',rfl,h⟩:=h
 cases r with
 | cons a b=>exact ⟨_,_,rfl,h1 I α σ H ρ M _ d _ _ R RE a h fun I1 α1 σ1 H1 ρ1 M1 s p R1 RE1 h3=>h2 I1 α1 σ1 H1 ρ1 M1 _ _ _ _ R1 RE1 (b.mono s p) h3 (k.mono s p)⟩
def uGTup (n:Nat) (ugs:TGs3):TG3:=fun d ρ M K=>∃ ds,tupOf d=some ds/\ds.length=n/\ugs ds ρ M K
theorem s_gtup {n:Nat} (h:SimGs C Z gs ugs):SimG C Z (gTup C.k n gs) (uGTup n ugs):=fun I α σ H ρ M v d K Q R RE r hh k=>by
 obtain ⟨ds,e,hl,hh⟩:=hh
 obtain ⟨a,vs,rfl,ea,_,ra⟩:=tup_at R r e
 exact ⟨a,vs,rfl,SqT.of ea,by rw [ra.length]; exact hl,h I α σ H ρ M vs ds K Q R RE ra hh k⟩
def uGSub (uo ui:TE3):TG3:=fun d ρ M K=>uo ρ M fun o M1=>ui ρ M1 fun i M2=>∃ k xs z j,o=.cell k/\i=.int z/\M2[k]?=some (.lst xs)/\ixN xs.length z=some j/\K ρ (M2.set k (.lst (xs.set j d)))
theorem s_gsub {to ti:TE} {uo ui:TE3} (ho:SimE C Z to uo) (hi:SimE C Z ti ui):SimG C Z (gSub to ti rSetL) (uGSub uo ui):=fun I α σ H ρ M v d K Q R RE r hh k =>
 ho I α σ H ρ M _ _ R RE hh fun ov o I1 α1 H1 M1 s1 p1 R1 r1 h1=>hi I1 α1 σ H1 ρ M1 _ _ R1 (RE.mono s1 p1) h1 fun iv i I2 α2 H2 M2 s2 p2 R2 r2 h2=>by
  obtain ⟨kk,xs,z,j,rfl,rfl,e1,e2,h2⟩:=h2
  cases r2
  cases (r1.mono s2 p2) with
  | cell ec =>
   obtain ⟨us,eu,ru⟩:=cell_lst R2 ec e1
   refine ⟨_,us,z,j,rfl,rfl,eu,by rw [ru.length]; exact e2,?_⟩
   exact k I2 α2 σ _ ρ _ (s1.trans s2) (p1.trans p2) (R2.putL ec (ru.set (r.mono (s1.trans s2) (p1.trans p2)) j)) (RE.mono (s1.trans s2) (p1.trans p2)) h2
def uAug (i:Nat) (ue:TE3) (f:Int->Int->Int):TS3:=fun E ρ M=>∃ x,ρ[i]?=some (some (.int x))/\ue ρ M fun d M1=>∃ y,d=.int y/\E.nx (ρ.set i (some (.int (f x y)))) M1
theorem s_aug {i:Nat} {f:Int->Int->Int} (he:SimE C Z te ue):SimS C Z (tAug i te (ipI f)) (uAug i ue f):=fun I α σ H ρ M E D' R RE h F=>by
 obtain ⟨x,e,h⟩:=h
 obtain ⟨v,e2,r⟩:=RE.2 i _ e
 cases r
 refine ⟨_,e2,he I α σ H ρ M _ _ R RE h fun v d I1 α1 H1 M1 s p R1 r h1=>?_⟩
 obtain ⟨y,rfl,h1⟩:=h1
 cases r
 exact ⟨x,y,rfl,rfl,F.nx I1 α1 _ H1 _ M1 s p R1 ((RE.mono s p).set (.int _) i) h1⟩
def uWhile (uc:TT3) (u:TS3):TS3:=fun E ρ M=>∃ P:Nat->Ev->Mem->Prop,(∃ m,P m ρ M)/\∀ m ρ1 M1,P m ρ1 M1->uc ρ1 M1 fun b M2=>if b=true then u { E with nx:=fun ρ' M'=>∃ m',m' < m/\Dr ρ M (P m') ρ' M',ct:=fun ρ' M'=>∃ m',m' < m/\Dr ρ M (P m') ρ' M',bk:=E.nx } ρ1 M2 else E.nx ρ1 M2
theorem s_while (hc:SimT C Z tc uc) (hb:SimS C Z t u):SimS C Z (tWhile tc t) (uWhile uc u):=fun I α σ H ρ M E D' R RE h F=>by
 obtain ⟨P,⟨m0,h0⟩,hs⟩:=h
 have hlen:=R.len
 refine ⟨fun m σ1 H1=>∃ I1 α1 ρ1 M1,Same I I1/\α<+:α1/\Rel C Z I1 α1 H1 M1/\RepE C I1 α1 σ1 ρ1/\P m ρ1 M1,⟨m0,I,α,ρ,M,.refl _,List.prefix_refl _,R,RE,h0⟩,?_⟩
 rintro m σ1 H1 ⟨I1,α1,ρ1,M1,s1,p1,R1,RE1,h1⟩
 refine hc I1 α1 σ1 H1 ρ1 M1 _ _ R1 RE1 (hs m ρ1 M1 h1) fun b I2 α2 H2 M2 s2 p2 R2 h2=>?_
 cases b with
 | false =>
  rw [if_neg Bool.false_ne_true] at h2 ⊢
  exact F.nx I2 α2 σ1 H2 ρ1 M2 (s1.trans s2) (p1.trans p2) R2 (RE1.mono s2 p2) h2
 | true =>
  rw [if_pos rfl] at h2 ⊢
  refine ⟨fun σ' H'=>∃ m',m' < m/\∃ I1 α1 ρ1 M1,Same I I1/\α<+:α1/\Rel C Z I1 α1 H' M1/\RepE C I1 α1 σ' ρ1/\P m' ρ1 M1,fun σ' H' h=>h,?_⟩
  have nx:FinS C Z I2 α2 (fun ρ' M'=>∃ m',m' < m/\Dr ρ M (P m') ρ' M') (fun σ' H'=>∃ m',m' < m/\∃ I1 α1 ρ1 M1,Same I I1/\α<+:α1/\Rel C Z I1 α1 H' M1/\RepE C I1 α1 σ' ρ1/\P m' ρ1 M1):=fun I3 α3 σ3 H3 ρ3 M3 s3 p3 R3 RE3 h3=>by
   obtain ⟨m',hm,h3⟩:=h3
   obtain ⟨α4,ρ4,M4,p4,R4,RE4,h4⟩:=h3.out R RE (p1.trans (p2.trans p3)) R3 RE3
   exact ⟨m',hm,I3,α4,ρ4,M4,s1.trans (s2.trans s3),p4,R4,RE4,h4⟩
  exact hb I2 α2 σ1 H2 ρ1 M2 _ _ R2 (RE1.mono s2 p2) h2 ⟨nx,F.rt.mono (s1.trans s2) (p1.trans p2),F.nx.mono (s1.trans s2) (p1.trans p2),nx⟩
structure It3 where
 n:Nat
 item:Nat->D->Prop
 ok:Mem->Prop
abbrev TI3:=Ev->Mem->(It3->Mem->Prop)->Prop
def ItR (C:Cf) (Z:Anc) (I:Hp) (α:List Addr) (J:It) (j:It3):Prop:=∀ I' α' H' M',Same I I'->α<+:α'->Rel C Z I' α' H' M'->j.ok M' ->
 (∀ i,i < j.n->J.go i H'/\∀ x H2,J.yld i H' x H2->∃ I2 d,Same I' I2/\Rel C Z I2 α' H2 M'/\Rep C I2 α' x d/\j.item i d)/\J.stop j.n H'
def SimI (C:Cf) (Z:Anc) (w:TI) (u:TI3):Prop:=∀ I α σ H ρ M (K:It3->Mem->Prop) (R':It->Hp->Prop),Rel C Z I α H M->RepE C I α σ ρ->u ρ M K ->
 (∀ J j I' α' H' M',Same I I'->α<+:α'->Rel C Z I' α' H' M'->ItR C Z I' α' J j->K j M'->R' J H')->w σ H R'
def lit (M0:Mem) (d:D) (ds:List D):It3:=⟨ds.length,fun i x=>ds[i]?=some x,fun M=>lstOf M d=some ds⟩
def uIL (ue:TE3):TI3:=fun ρ M K=>ue ρ M fun d M1=>∃ ds,lstOf M1 d=some ds/\K ⟨ds.length,fun i x=>ds[i]?=some x,fun M=>lstOf M d=some ds⟩ M1
theorem s_il (he:SimE C Z te ue):SimI C Z (iList C.k te) (uIL ue):=fun I α σ H ρ M K R' R RE h k =>
 he I α σ H ρ M _ _ R RE h fun v d I1 α1 H1 M1 s1 p1 R1 r1 h1=>by
  obtain ⟨ds,e,h1⟩:=h1
  obtain ⟨a,vs,rfl,ea,ra⟩:=lst_at R1 r1 e
  refine ⟨a,rfl,⟨vs,ea⟩,k _ _ I1 α1 H1 M1 s1 p1 R1 (fun I2 α2 H2 M2 s2 p2 R2 ok=>?_) h1⟩
  obtain ⟨b,ws,eb,eq,rw'⟩:=lst_at R2 (r1.mono s2 p2) ok
  cases eb
  refine ⟨fun i hi=>?_,⟨ws,eq,by rw [rw'.length]; exact Nat.le_refl _⟩⟩
  have hi2:i < ws.length:=by rw [rw'.length]; exact hi
  refine ⟨⟨ws,ws[i],eq,List.getElem?_eq_getElem hi2⟩,fun x H3 y=>?_⟩
  obtain ⟨rfl,y⟩:=y
  have:=y ws eq
  rw [List.getElem?_eq_getElem hi2] at this
  cases this
  exact ⟨I2,ds[i],.refl _,R2,rw'.at hi2 hi,List.getElem?_eq_getElem hi⟩
def rngIt (lo:Int) (n:Nat):It3:=⟨n,fun i x=>x=.int (lo + i),fun _=>True⟩
theorem itr_r {I:Hp} {α:List Addr} {lo:Int} {n:Nat}:ItR C Z I α (Itr lo n) (rngIt lo n):=fun I' α' H' M' s p R _=>⟨fun i hi=>⟨hi,fun x H2 y=>by
 obtain ⟨rfl,rfl⟩:=y
 exact ⟨I',_,.refl _,R,.int _,rfl⟩⟩,Nat.le_refl _⟩
variable {ta:TA} {ua:TA3}
def uIR1 (ua:TA3):TI3:=fun ρ M K=>ua ρ M fun ds M1=>∃ j:Int,ds=[.int j]/\(-(2 ^ 62)<=j/\j < 2 ^ 62)/\K (rngIt 0 j.toNat) M1
theorem s_ir1 (ha:SimA C Z ta ua):SimI C Z (iRng1 ta) (uIR1 ua):=fun I α σ H ρ M K R' R RE h k =>
 ha I α σ H ρ M _ _ R RE h fun vs ds I1 α1 H1 M1 s1 p1 R1 r1 h1=>by
  obtain ⟨j,rfl,⟨h2,h3⟩,h1⟩:=h1
  cases r1 with
  | cons a b =>
   cases b
   cases a
   exact ⟨j,rfl,h2,h3,k _ _ I1 α1 H1 M1 s1 p1 R1 itr_r h1⟩
def uFor (ui:TI3) (ug:TG3) (ub:TS3):TS3:=fun E ρ M=>ui ρ M fun j M1=>∃ P:Nat->Ev->Mem->Prop,(∀ i ρ M,i<=j.n->P i ρ M->j.ok M)/\P 0 ρ M1 /\
 (∀ i x ρ1 M',i < j.n->j.item i x->P i ρ1 M'->ug x ρ1 M' fun ρ2 M2=>ub { E with nx:=Dr ρ M1 (P (i + 1)),ct:=Dr ρ M1 (P (i + 1)),bk:=E.nx } ρ2 M2)/\∀ ρ M,P j.n ρ M->E.nx ρ M
theorem s_for {wi:TI} {ui:TI3} (hi:SimI C Z wi ui) (hg:SimG C Z g ug) (hb:SimS C Z t u):SimS C Z (tFor wi g t) (uFor ui ug u):=fun I α σ H ρ M E D' R RE h F =>
 hi I α σ H ρ M _ _ R RE h fun J j I1 α1 H1 M1 s1 p1 R1 IR h1=>by
  obtain ⟨P,hok,h0,hs,he⟩:=h1
  have hlen:=R1.len
  refine ⟨fun i m σ' H'=>m=j.n - i/\i<=j.n/\∃ I2 α2 ρ2 M2,Same I1 I2/\α1<+:α2/\Rel C Z I2 α2 H' M2/\RepE C I2 α2 σ' ρ2/\P i ρ2 M2,⟨j.n,rfl,Nat.zero_le _,I1,α1,ρ,M1,.refl _,List.prefix_refl _,R1,RE.mono s1 p1,h0⟩,?_⟩
  rintro i m σ' H' ⟨rfl,hi,I2,α2,ρ2,M2,s2,p2,R2,RE2,h2⟩
  obtain ⟨go,stop⟩:=IR I2 α2 H' M2 s2 p2 R2 (hok i ρ2 M2 hi h2)
  by_cases hlt:i < j.n
  ·obtain ⟨g1,g2⟩:=go i hlt
   refine .inr ⟨g1,fun σ3 H3=>∃ I3 α3 ρ3 M3,Same I1 I3/\α1<+:α3/\Rel C Z I3 α3 H3 M3/\RepE C I3 α3 σ3 ρ3/\P (i + 1) ρ3 M3,fun σ3 H3 h3=>⟨j.n - (i + 1),by omega,rfl,hlt,h3⟩,fun x H3 y=>?_⟩
   obtain ⟨I3,d,s3,R3,r3,it⟩:=g2 x H3 y
   refine hg I3 α2 σ' H3 ρ2 M2 x d _ _ R3 (RE2.mono s3 (List.prefix_refl _)) r3 (hs i d ρ2 M2 hlt it h2) fun I4 α4 σ4 H4 ρ4 M4 s4 p4 R4 RE4 h4=>?_
   have nx:FinS C Z I4 α4 (Dr ρ M1 (P (i + 1))) (fun σ3 H3=>∃ I3 α3 ρ3 M3,Same I1 I3/\α1<+:α3/\Rel C Z I3 α3 H3 M3/\RepE C I3 α3 σ3 ρ3/\P (i + 1) ρ3 M3):=fun I5 α5 σ5 H5 ρ5 M5 s5 p5 R5 RE5 h5=>by
    obtain ⟨α6,ρ6,M6,p6,R6,RE6,h6⟩:=h5.out R1 (RE.mono s1 p1) (p2.trans (p4.trans p5)) R5 RE5
    exact ⟨I5,α6,ρ6,M6,s2.trans (s3.trans (s4.trans s5)),p6,R6,RE6,h6⟩
   have F4:=F.mono (s1.trans (s2.trans (s3.trans s4))) (p1.trans (p2.trans p4))
   exact hb I4 α4 σ4 H4 ρ4 M4 _ _ R4 RE4 h4 ⟨nx,F4.rt,F4.nx,nx⟩
  ·have e:i=j.n:=by omega
   subst e
   exact .inl ⟨stop,F.nx I2 α2 σ' H' ρ2 M2 (s1.trans s2) (p1.trans p2) R2 RE2 (he ρ2 M2 h2)⟩
def sg3 (ρ:Ev) (T:List Str) (cs:List Nat):Ev:=T.map (fun _=>none)++cs.map fun i=>ρ.getD i none
theorem RepE.sg {I:Hp} {α:List Addr} {σ:St} {ρ:Ev} (h:RepE C I α σ ρ) (T:List Str) (cs:List Nat):RepE C I α (sgOf σ T cs) (sg3 ρ T cs):=by
 refine ⟨by unfold sgOf sg3; simp,fun i d e=>?_⟩
 unfold sg3 at e
 unfold sgOf
 by_cases hi:i < T.length
 ·rw [List.getElem?_append_left (by simpa using hi),List.getElem?_map,List.getElem?_eq_getElem hi] at e
  simp at e
 ·rw [List.getElem?_append_right (by simpa using hi),List.getElem?_map] at e
  rw [List.getElem?_append_right (by simpa using hi),List.getElem?_map]
  simp only [List.length_map] at e ⊢
  cases hc:cs[i - T.length]? with
  | none=>rw [hc] at e; cases e
  | some c =>
   rw [hc] at e
   simp only [Option.map_some,Option.some.injEq] at e ⊢
   rw [List.getD_eq_getElem?_getD] at e ⊢
   cases hr:ρ[c]? with
   | none=>rw [hr] at e; cases e
   | some o =>
    rw [hr] at e
    cases e
    obtain ⟨v,e2,r⟩:=h.2 c d hr
    exact ⟨v,by rw [e2]; rfl,r⟩
variable {tt:TT} {ut:TT3} {T:List Str} {cs:List Nat}
def cmp3 (ui:TI3) (ug:TG3) (ut:TT3) (ue:TE3) (T:List Str) (cs:List Nat) (ρ:Ev) (M:Mem) (F:List D->Mem->Prop):Prop:=ui ρ M fun j M1=>j.n<=sizeLine/\∃ P:Nat->List D->Mem->Prop,(∀ i ys M,i<=j.n->P i ys M->j.ok M)/\P 0 [] M1 /\
 (∀ i x ys M,i < j.n->j.item i x->P i ys M->ug x (sg3 ρ T cs) M fun ρ2 M2=>ut ρ2 M2 fun b M3=>if b=true then ue ρ2 M3 fun y M4=>P (i + 1) (ys++[y]) M4 else P (i + 1) ys M3)/\∀ ys M,P j.n ys M->F ys M
def uComp (ui:TI3) (ug:TG3) (ut:TT3) (ue:TE3) (T:List Str) (cs:List Nat):TE3:=fun ρ M K=>cmp3 ui ug ut ue T cs ρ M fun ys M1=>K (.lst ys) M1
def uCompC (ui:TI3) (ug:TG3) (ut:TT3) (ue:TE3) (T:List Str) (cs:List Nat):TE3:=fun ρ M K=>cmp3 ui ug ut ue T cs ρ M fun ys M1=>K (.cell M1.length) (M1++[.lst ys])
theorem comp_sim {wi:TI} {ui:TI3} (hi:SimI C Z wi ui) (hg:SimG C Z g ug) (ht:SimT C Z tt ut) (he:SimE C Z te ue) {I:Hp} {α:List Addr} {σ:St} {H:Hp} {ρ:Ev} {M:Mem} {F:List D->Mem->Prop} {Q:VK} (R:Rel C Z I α H M) (RE:RepE C I α σ ρ) (h:cmp3 ui ug ut ue T cs ρ M F)
  (k:∀ ys vs I' α' H' M',Same I I'->α<+:α'->Rel C Z I' α' H' M'->Reps C I' α' vs ys->F ys M'->∀ p,H' p=none->Q (.ref p) (upd H' p (.lst vs))):tComp wi g tt te T cs σ H Q :=
 hi I α σ H ρ M _ _ R RE h fun J j I1 α1 H1 M1 s1 p1 R1 IR h1=>by
  obtain ⟨hz,P,hok,h0,hs,hd⟩:=h1
  refine ⟨fun i m vs H'=>m=j.n - i/\i<=j.n/\∃ I2 α2 ys M2,Same I1 I2/\α1<+:α2/\Rel C Z I2 α2 H' M2/\Reps C I2 α2 vs ys/\ys.length<=i/\P i ys M2,⟨j.n,rfl,Nat.zero_le _,I1,α1,[],M1,.refl _,List.prefix_refl _,R1,.nil,Nat.le_refl _,h0⟩,?_⟩
  rintro i m vs H' ⟨rfl,hi,I2,α2,ys,M2,s2,p2,R2,r2,hl,h2⟩
  obtain ⟨go,stop⟩:=IR I2 α2 H' M2 s2 p2 R2 (hok i ys M2 hi h2)
  have hvl:=r2.length
  by_cases hlt:i < j.n
  ·obtain ⟨g1,g2⟩:=go i hlt
   refine .inr ⟨g1,by omega,fun vs3 H3=>∃ I3 α3 ys3 M3,Same I1 I3/\α1<+:α3/\Rel C Z I3 α3 H3 M3/\Reps C I3 α3 vs3 ys3/\ys3.length<=i + 1/\P (i + 1) ys3 M3,fun vs3 H3 h3=>⟨j.n - (i + 1),by omega,rfl,hlt,h3⟩,fun x H3 y=>?_⟩
   obtain ⟨I3,d,s3,R3,r3,it⟩:=g2 x H3 y
   have RE3:RepE C I3 α2 σ ρ:=RE.mono (s1.trans (s2.trans s3)) (p1.trans p2)
   refine hg I3 α2 _ H3 _ M2 x d _ _ R3 (RE3.sg T cs) r3 (hs i d ys M2 hlt it h2) fun I4 α4 σ4 H4 ρ4 M4 s4 p4 R4 RE4 h4=>?_
   refine ht I4 α4 σ4 H4 ρ4 M4 _ _ R4 RE4 h4 fun b I5 α5 H5 M5 s5 p5 R5 h5=>?_
   cases b with
   | true =>
    rw [if_pos rfl] at h5 ⊢
    refine he I5 α5 σ4 H5 ρ4 M5 _ _ R5 (RE4.mono s5 p5) h5 fun v e I6 α6 H6 M6 s6 p6 R6 r6 h6=>?_
    refine ⟨I6,α6,ys++[e],M6,s2.trans (s3.trans (s4.trans (s5.trans s6))),p2.trans (p4.trans (p5.trans p6)),R6,(r2.mono (s3.trans (s4.trans (s5.trans s6))) (p4.trans (p5.trans p6))).app (.one r6),?_,h6⟩
    rw [List.length_append,List.length_singleton]
    omega
   | false =>
    rw [if_neg Bool.false_ne_true] at h5 ⊢
    exact ⟨I5,α5,ys,M5,s2.trans (s3.trans (s4.trans s5)),p2.trans (p4.trans p5),R5,r2.mono (s3.trans (s4.trans s5)) (p4.trans p5),by omega,h5⟩
  ·have e:i=j.n:=by omega
   subst e
   exact .inl ⟨stop,by omega,k ys vs I2 α2 H' M2 (s1.trans s2) (p1.trans p2) R2 r2 (hd ys M2 h2)⟩
theorem s_comp {wi:TI} {ui:TI3} (hi:SimI C Z wi ui) (hg:SimG C Z g ug) (ht:SimT C Z tt ut) (he:SimE C Z te ue):SimE C Z (tComp wi g tt te T cs) (uComp ui ug ut ue T cs):=fun I α σ H ρ M K Q R RE h k =>
 comp_sim hi hg ht he R RE h fun ys vs I' α' H' M' s p R' r hF q hq=>by
  obtain ⟨R2,s2,e2⟩:=R'.new (o:=.lst vs) hq
  exact k _ _ _ α' _ M' (s.trans s2) p R2 (.lst e2 (r.mono s2 (List.prefix_refl _))) hF
theorem s_compC {wi:TI} {ui:TI3} (hi:SimI C Z wi ui) (hg:SimG C Z g ug) (ht:SimT C Z tt ut) (he:SimE C Z te ue):SimE C Z (tComp wi g tt te T cs) (uCompC ui ug ut ue T cs):=fun I α σ H ρ M K Q R RE h k =>
 comp_sim hi hg ht he R RE h fun ys vs I' α' H' M' s p R' r hF q hq=>by
  obtain ⟨R2,p2,e2⟩:=R'.cell (o:=.lst vs) (m:=.lst ys) hq fun H' e=>⟨vs,e,r⟩
  exact k _ _ I' _ _ _ s (p.trans p2) R2 (.cell e2) hF
def uTrue:TT3:=fun _ M K=>K true M
theorem s_true:SimT C Z tTrue uTrue:=fun I α σ H ρ M K Q R E h k=>k true I α H M (.refl _) (List.prefix_refl _) R h
abbrev Sp3:=List D->Mem->K3->Prop
def spOf (C:Cf) (sp:Sp3):Sp:=fun vs H Q _=>∃ Z I α M ds K,Rel C Z I α H M/\Reps C I α vs ds/\sp ds M K/\Fin C Z I α K Q
def uCall (sp:Sp3) (ua:TA3):TE3:=fun ρ M K=>ua ρ M fun ds M1=>sp ds M1 K
theorem s_call {sp:Sp3} {E0':XK} (ha:SimA C Z ta ua):SimE C Z (tCall (spOf C sp) [] E0' ta) (uCall sp ua):=fun I α σ H ρ M K Q R RE h k =>
 ha I α σ H ρ M _ _ R RE h fun vs ds I1 α1 H1 M1 s1 p1 R1 r1 h1=>by
  rw [List.append_nil]
  exact ⟨Z,I1,α1,M1,ds,K,R1,r1,h1,k.mono s1 p1⟩
theorem Cal.imp {P:Program} {w:World} {K:W.Frag} {mg:Str->Option Value} {base:Heap} {x:Str} {k:Nat} {ps:List Str} {sp sp':Sp} (c:Cal P w K mg base x k ps sp) (h:∀ vs H Q E,sp' vs H Q E->sp vs H Q E):Cal P w K mg base x k ps sp' :=
 let ⟨f,fd,a,b⟩:=c
 ⟨f,fd,a.imp h,b⟩
def start3 (N:List Str) (ds:List D):Ev:=ds.map some++List.replicate (N.length - ds.length) none
theorem rep_start {I:Hp} {α:List Addr} {vs:List V} {ds:List D} (r:Reps C I α vs ds) (N:List Str):RepE C I α (L2.start N vs) (start3 N ds):=by
 have hl:=r.length
 refine ⟨by unfold L2.start start3; simp [hl],fun i d e=>?_⟩
 unfold start3 at e
 unfold L2.start
 by_cases hi:i < ds.length
 ·rw [List.getElem?_append_left (by simpa using hi),List.getElem?_map,List.getElem?_eq_getElem hi] at e
  have e':ds[i]=d:=by simpa using e
  rw [List.getElem?_append_left (by simpa [hl] using hi),List.getElem?_map,List.getElem?_eq_getElem (by rw [hl]; exact hi)]
  exact ⟨_,rfl,e' ▸ r.at (by rw [hl]; exact hi) hi⟩
 ·rw [List.getElem?_append_right (by simpa using hi),List.getElem?_replicate] at e
  split at e <;> cases e
theorem Fun.ok3 {P:Program} {w:World} {K:W.Frag} {mg:Str->Option Value} {base:Heap} {x qual:Str} {st:Stmt} {f:Addr} {fd:FuncData} {N ps:List Str} {k:Nat} {sp:Sp3} (F:Fun K x qual st f fd) (S:FnScope N ps (defScope st)) (len:∀ ds M K,sp ds M K->ds.length=ps.length)
  (hbody:∀ (cdv:Value) (A:Around) (outer:List Env) (s:Shared) (H:Hp) (E:XK),Room k (A.deeper (PyProof.Rows.envOfC qual (defScope st) s.heap.objs.size f cdv)) ->
   ∃ t u,PSs (cxOf CX0 P w K mg base N qual (defScope st) f cdv A outer s H E).nox (defBody st) t/\(∀ Z,SimS C Z t u)/\∀ ds M K,WfM M->(∀ d∈ds,Below M.length d)->sp ds M K->u { nx:=fun _ M'=>Dk M.length K .non M',rt:=Dk M.length K } (start3 N ds) M):FnOk P w K mg base CX0 (k + 1) f fd ps (spOf C sp):=by
 refine F.ok S (fun vs H Q E h=>?_) (fun cdv A outer s H vs Q E hr h=>?_)
 ·obtain ⟨Z,I,α,M,ds,K,R,r,h,_⟩:=h
  rw [r.length]
  exact len ds M K h
 ·obtain ⟨t,u,h1,h2,h3⟩:=hbody cdv A outer s H E hr
  obtain ⟨Z,I,α,M,ds,K,R,r,h,k⟩:=h
  have kd:=k.dk R.len R.aa
  exact ⟨t,h1,h2 Z I α _ H _ M _ _ R (rep_start r N) (h3 ds M K R.wf (by rw [<- R.len]; exact r.bel) h) ⟨fun I1 α1 σ1 H1 ρ1 M1 s1 p1 R1 _ h1=>kd _ _ I1 α1 H1 M1 s1 p1 R1 .non h1,kd,fun _ _ _ _ _ _ _ _ _ _ h=>h.elim,fun _ _ _ _ _ _ _ _ _ _ h=>h.elim⟩⟩
end
section
variable {C:Cf} {Z:Anc} {I:Hp} {α:List Addr} {H H':Hp} {M:Mem}
theorem Rel.full (R:Rel C Z I α H M):∃ I',Same I I'/\Rel C Z I' α H M/\∀ b o,H b=some o->b∉α->I' b=some o:=by
 have s:Same I (fun b=>if b∈α then none else H b):=fun b o e=>by
  have hb:b∉α:=fun hb=>by
   obtain ⟨k,hk,rfl⟩:=List.getElem_of_mem hb
   have hk':k < M.length:=by rw [<- R.len]; exact hk
   rw [(R.cel k _ _ (List.getElem?_eq_getElem hk) (List.getElem?_eq_getElem hk')).2] at e
   cases e
  show (if b∈α then none else H b)=some o
  rw [if_neg hb]
  exact R.sub b o e
 refine ⟨_,s,⟨R.ai.trans s,R.aa,fun b o e=>?_,R.len,R.nd,fun k a m h1 h2=>?_⟩,fun b o e hb=>?_⟩
 ·have e':(if b∈α then none else H b)=some o:=e
  split at e'
  ·cases e'
  ·exact e'
 ·refine ⟨(R.cel k a m h1 h2).1.mono s (List.prefix_refl _) rfl,?_⟩
  show (if a∈α then none else H a)=none
  rw [if_pos (List.mem_of_getElem? h1)]
 ·show (if b∈α then none else H b)=some o
  rw [if_neg hb]
  exact e
theorem Rel.out (R:Rel C Z I α H M) {l:Addr} (h:H l=none):l∉α:=fun hl=>by
 obtain ⟨k,hk,e⟩:=List.getElem_of_mem hl
 exact R.cellNe (List.getElem?_eq_getElem hk) h e
theorem Rel.same (R:Rel C Z I α H M) (s:Same H H'):Rel C Z I α H' M:=by
 refine ⟨R.ai,R.aa,R.sub.trans s,R.len,R.nd,fun k a m h1 h2=>?_⟩
 obtain ⟨a1,a2⟩:=R.cel k a m h1 h2
 obtain ⟨o,e⟩:=a1.some
 exact ⟨a1.mono (.refl _) (List.prefix_refl _) ((s _ _ e).trans e.symm),a2⟩
theorem Rel.grow (R:Rel C Z I α H M) {k:Nat} {p c:Addr} {cs:List Int} (ha:α[k]?=some p) (hm:M[k]?=some .hand) (hh:HandAt H' p c) (ic:I c=some (.lst (cs.map V.int))) (hc:cs≠[]/\cs.length<=63/\∀ c∈cs,0<=c) (g:Grow p H H'):Rel C Z I α H' M:=by
 have ip:I p=none:=(R.cel k p _ ha hm).2
 refine ⟨R.ai,R.aa,fun b o e=>g b o (R.sub b o e) (fun z=>by rw [z,ip] at e; cases e),R.len,R.nd,fun j a m h1 h2=>?_⟩
 obtain ⟨a1,a2⟩:=R.cel j a m h1 h2
 by_cases e:k=j
 ·subst e
  rw [ha] at h1
  cases h1
  rw [hm] at h2
  cases h2
  obtain ⟨d0,i0,cs',x1,x2,x3,x4,x5,x6,x7⟩:=hh.ex
  exact ⟨⟨d0,i0,c,cs,x1,ic,hc.1,hc.2.1,x5,x6,hc.2.2⟩,ip⟩
 ·obtain ⟨o,eo⟩:=a1.some
  have ne:a≠p:=fun z=>by
   obtain ⟨hj,ej⟩:=List.getElem?_eq_some_iff.mp h1
   obtain ⟨hk,ek⟩:=List.getElem?_eq_some_iff.mp ha
   rw [<- ej,<- ek] at z
   exact e ((List.getElem_inj R.nd).mp z).symm
  exact ⟨a1.mono (.refl _) (List.prefix_refl _) ((g _ _ eo ne).trans eo.symm),a2⟩
theorem Rel.hand (R:Rel C Z I α H M) {k:Nat} {p:Addr} (ha:α[k]?=some p) (hm:M[k]?=some .hand):∃ c cs,HandAt H p c/\I c=some (.lst (cs.map V.int))/\cs≠[]/\cs.length<=63/\∀ c∈cs,0<=c:=by
 obtain ⟨d,i,c,cs,e,ic,h1,h2,h3,h4,h5⟩:=(R.cel k p _ ha hm).1
 exact ⟨c,cs,⟨d,i,cs,e,R.sub _ _ ic,h1,h2,h3,h4,h5⟩,ic,h1,h2,h5⟩
theorem Rel.cellAt (R:Rel C Z I α H M) {l:Addr} {m:MO} (il:I l=none) (hl:l∉α) (hm:MoAt C I α H l m):Rel C Z I (α++[l]) H (M++[m])/\α<+:(α++[l])/\(α++[l])[M.length]?=some l:=by
 refine ⟨⟨R.ai,R.aa.trans (List.prefix_append _ _),R.sub,by rw [List.length_append,List.length_append,R.len]; rfl,?_,fun k a x h1 h2=>?_⟩,List.prefix_append _ _,by rw [<- R.len]; simp⟩
 ·rw [List.nodup_append]
  exact ⟨R.nd,by simp,fun a ha b hb e=>hl (by rw [<- List.mem_singleton.mp hb,<- e]; exact ha)⟩
 ·by_cases hk:k < α.length
  ·rw [List.getElem?_append_left hk] at h1
   rw [List.getElem?_append_left (by rw [<- R.len]; exact hk)] at h2
   obtain ⟨a1,a2⟩:=R.cel k a x h1 h2
   exact ⟨a1.mono (.refl _) (List.prefix_append _ _) rfl,a2⟩
  ·obtain ⟨hk2,_⟩:=List.getElem?_eq_some_iff.mp h1
   rw [List.length_append,List.length_singleton] at hk2
   have e:k=α.length:=by omega
   subst e
   have e1:(α++[l])[α.length]?=some l:=by simp
   have e2:(M++[m])[α.length]?=some m:=by rw [R.len]; simp
   rw [e1] at h1
   rw [e2] at h2
   cases h1
   cases h2
   exact ⟨hm.mono (.refl _) (List.prefix_append _ _) rfl,il⟩
end
def wD (w:List Int):D:=.tup (w.map .int)
def oD:Option Int->D
 | some z=>.int z
 | none=>.non
section
variable {C:Cf} {Z:Anc}
def dDraw:Sp3:=fun ds M K=>∃ k n,ds=[.cell k,.int n]/\M[k]?=some .hand/\(0 < n/\n < 1073741824)/\∀ r,0<=r->r < n->K (.int r) M
theorem a_draw {vs:List V} {H:Hp} {Q:VK} {E:XK} (h:spOf C dDraw vs H Q E):spDraw vs H Q E:=by
 obtain ⟨Z,I,α,M,ds,K,R,r,⟨k,n,rfl,hm,⟨n0,n1⟩,h⟩,kk⟩:=h
 cases r with
 | cons r1 r2 =>
  cases r2 with
  | cons r2 r3 =>
   cases r3
   cases r2
   cases r1 with
   | @cell p _ ha =>
    obtain ⟨c,cs,hh,ic,hc⟩:=R.hand ha hm
    exact ⟨p,c,n,rfl,hh,n0,n1,fun z H' z0 z1 hh' g _=>kk _ _ I α H' M (.refl _) (List.prefix_refl _) (R.grow ha hm hh' ic hc g) (.int z) (h z z0 z1)⟩
def dOpen:Sp3:=fun ds M K=>∃ (ns:List Int) (i:Int),ds=[.frz (ns.map .int),.int i]/\(ns.length<=63/\0<=i/\i < 2 ^ 60)/\K (.cell M.length) (M++[.hand])
theorem frz_at {I:Hp} {α:List Addr} {H:Hp} {M:Mem} {v:V} {ns:List Int} (R:Rel C Z I α H M) (r:Rep C I α v (.frz (ns.map .int))):∃ a,v=.ref a/\SqL C.k H a (ns.map V.int):=by
 cases r with
 | frz e r =>
  rw [r.of_ints ns] at e
  exact ⟨_,rfl,R.sub.seq e⟩
theorem a_open {vs:List V} {H:Hp} {Q:VK} {E:XK} (h:spOf C dOpen vs H Q E):spOpen C.k vs H Q E:=by
 obtain ⟨Z,I,α,M,ds,K,R,r,⟨ns,i,rfl,⟨hl,i0,i1⟩,h⟩,kk⟩:=h
 cases r with
 | cons r1 r2 =>
  cases r2 with
  | cons r2 r3 =>
   cases r3
   cases r2
   obtain ⟨a,rfl,hS⟩:=frz_at R r1
   refine ⟨a,ns,i,rfl,hS,hl,i0,i1,fun p c H' np nc hh s=>?_⟩
   have R1:=R.same s
   have pc:p≠c:=hh.ne
   obtain ⟨d0,i0',cs,x1,x2,x3,x4,x5,x6,x7⟩:=hh.ex
   have ipn:I p=none:=R.sub.free np
   have icn:I c=none:=R.sub.free nc
   have R2:Rel C Z (upd I c (.lst (cs.map V.int))) α H' M:=by
    refine ⟨R1.ai.trans (same_upd icn),R1.aa,fun b o e=>?_,R1.len,R1.nd,fun k a m h1 h2=>?_⟩
    ·by_cases z:b=c
     ·subst z; rw [upd_same] at e; cases e; exact x2
     ·rw [upd_ne z] at e; exact R1.sub b o e
    ·obtain ⟨a1,a2⟩:=R1.cel k a m h1 h2
     have ne:a≠c:=R.cellNe h1 nc
     exact ⟨a1.mono (same_upd icn) (List.prefix_refl _) rfl,by rw [upd_ne ne]; exact a2⟩
   obtain ⟨R3,p3,e3⟩:=R2.cellAt (l:=p) (m:=.hand) (by rw [upd_ne pc]; exact ipn) (R.out np) ⟨d0,i0',c,cs,x1,upd_same,x3,x4,x5,x6,x7⟩
   exact kk _ _ _ _ H' _ (same_upd icn) p3 R3 (.cell e3) h
end
section
variable {C:Cf}
def valD {κ:Type} [DecidableEq κ] (kvs:List (κ×D)) (k:κ):Option D:=(kvs.find? fun kv=>decide (kv.1=k)).map (·.2)
def keyOf:D->Option Key
 | .int i=>some (.inl i)
 | .str s=>some (.inr s)
 | _=>none
def keysOf:List D->Option (List Key)
 | []=>some []
 | d::r=>match keyOf d,keysOf r with | some k,some ks=>some (k::ks) | _,_=>none
def tkOf:D->Option (List Key)
 | .tup ds=>keysOf ds
 | _=>none
section
variable {I:Hp} {α:List Addr} {M:Mem}
theorem RepK.len:∀ {vs:List (Key×V)} {ds:List (Key×D)},RepK C I α vs ds->vs.length=ds.length
 | _,_,.nil=>rfl
 | _,_,.cons _ b=>by rw [List.length_cons,List.length_cons,RepK.len b]
theorem RepT.len:∀ {vs:List (List Key×V)} {ds:List (List Key×D)},RepT C I α vs ds->vs.length=ds.length
 | _,_,.nil=>rfl
 | _,_,.cons _ b=>by rw [List.length_cons,List.length_cons,RepT.len b]
theorem RepK.any {k:Key}:∀ {vs:List (Key×V)} {ds:List (Key×D)},RepK C I α vs ds->(vs.any fun kv=>decide (kv.1=k))=(ds.any fun kv=>decide (kv.1=k))
 | _,_,.nil=>rfl
 | _,_,.cons a b=>by rw [List.any_cons,List.any_cons,RepK.any b]
theorem RepT.any {k:List Key}:∀ {vs:List (List Key×V)} {ds:List (List Key×D)},RepT C I α vs ds->(vs.any fun kv=>decide (kv.1=k))=(ds.any fun kv=>decide (kv.1=k))
 | _,_,.nil=>rfl
 | _,_,.cons a b=>by rw [List.any_cons,List.any_cons,RepT.any b]
def dctOf (M:Mem):D->Option (List (Key×D))
 | .dct kvs=>some kvs
 | .cell k=>match M[k]? with | some (.dct kvs)=>some kvs | some (.drK kvs)=>some kvs | some (.dfK _ _ kvs)=>some kvs | _=>none
 | _=>none
def dcTOf (M:Mem):D->Option (List (List Key×D))
 | .dcT kvs=>some kvs
 | .cell k=>match M[k]? with | some (.dcT kvs)=>some kvs | some (.drT kvs)=>some kvs | _=>none
 | _=>none
def dGet (M:Mem) (d e:D) (o:Option D):Prop:=(∃ kvs k,dctOf M d=some kvs/\keyOf e=some k/\o=valD kvs k)\/∃ kvs k,dcTOf M d=some kvs/\tkOf e=some k/\o=valD kvs k
end
theorem Met.imp {P:Program} {w:World} {K:W.Frag} {mg:Str->Option Value} {base:Heap} {C:Addr} {m:Str} {k:Nat} {ps:List Str} {sp sp':Sp} (c:Met P w K mg base C m k ps sp) (h:∀ vs H Q E,sp' vs H Q E->sp vs H Q E):Met P w K mg base C m k ps sp' :=
 let ⟨f,fd,a,b,e,d⟩:=c
 ⟨f,fd,a,b,e.imp h,d⟩
end
theorem item_map {τ:Type} {f:τ->D} {as:List τ} {i:Nat} {x:D} (h:(as.map f)[i]?=some x):∃ hi:i < as.length,x=f as[i]:=by
 obtain ⟨hi,e⟩:=List.getElem?_eq_some_iff.mp h
 rw [List.length_map] at hi
 exact ⟨hi,by rw [<- e,List.getElem_map]⟩
theorem ls_last {M:Mem} {xs:List D}:lsOf (M++[.lst xs]) (.cell M.length)=some xs:=by simp [lsOf]
theorem ls_some {M:Mem} {d:D} {xs:List D} (h:lsOf M d=some xs):lsOf M d≠none:=by rw [h]; exact fun z=>nomatch z
end L3
namespace L3
theorem g_nx {i:Nat} {d:D} {ρ:Ev} {M:Mem} {K:Ev->Mem->Prop} (h:K (ρ.set i (some d)) M):uG i d ρ M K:=h
end L3
namespace L3
open PySem L2
def FinX (C:Cf) (Z:Anc):Prop:=∀ Ce d vs fs I' α' H' M',Rel C Z I' α' H' M'->XD I' d vs->RepF C I' α' vs fs->Z.kx Ce fs M'->Z.xe (.ref Ce) d H'
abbrev Sp3X:=List D->Mem->K3->X3->Prop
def spOfX (C:Cf) (sp:Sp3X):Sp:=fun vs H Q E=>∃ Z I α M ds K KX,Rel C Z I α H M/\Reps C I α vs ds/\sp ds M K KX/\Fin C Z I α K Q /\
 ∀ Ce d vs fs I' α' H' M',Same I I'->α<+:α'->Rel C Z I' α' H' M'->XD I' d vs->RepF C I' α' vs fs->KX Ce fs M'->E (.ref Ce) d H'
section
variable {C:Cf} {Z:Anc} {ta:TE} {ua:TE3} {t:TA} {u:TA3}
theorem Rel.re {Z':Anc} {I I':Hp} {α α':List Addr} {H H':Hp} {M M':Mem} (R':Rel C Z' I' α' H' M') (R:Rel C Z I α H M) (s:Same I I') (p:α<+:α'):Rel C Z I' α' H' M':=⟨R.ai.trans s,R.aa.trans p,R'.sub,R'.len,R'.nd,R'.cel⟩
theorem Rel.here {I:Hp} {α:List Addr} {H:Hp} {M:Mem} (R:Rel C Z I α H M) (E:XK) (k:X3):Rel C ⟨I,α,E,k⟩ I α H M:=⟨.refl _,List.prefix_refl _,R.sub,R.len,R.nd,R.cel⟩
theorem Fin.re {Z':Anc} {I:Hp} {α:List Addr} {H:Hp} {M:Mem} {K:K3} {Q:VK} (k:Fin C Z I α K Q) (R:Rel C Z I α H M):Fin C Z' I α K Q:=fun v d I' α' H' M' s p R' r h=>k v d I' α' H' M' s p (R'.re R s p) r h
theorem FinS.re {Z':Anc} {I:Hp} {α:List Addr} {H:Hp} {M:Mem} {K:Ev->Mem->Prop} {Q:St->Hp->Prop} (k:FinS C Z I α K Q) (R:Rel C Z I α H M):FinS C Z' I α K Q:=fun I' α' σ' H' ρ' M' s p R' E h=>k I' α' σ' H' ρ' M' s p (R'.re R s p) E h
theorem FinD.re {Z':Anc} {I:Hp} {α:List Addr} {H:Hp} {M:Mem} {E:Ends3} {D':Ends} (k:FinD C Z I α E D') (R:Rel C Z I α H M):FinD C Z' I α E D':=⟨k.nx.re R,k.rt.re R,k.bk.re R,k.ct.re R⟩
def uCallX (sp:Sp3X) (kx:X3) (u:TA3):TE3:=fun ρ M K=>u ρ M fun ds M1=>sp ds M1 K kx
theorem s_callX {sp:Sp3X} {E:XK} {kx:X3} (he:Z.xe=E) (hk:Z.kx=kx) (hx:FinX C Z) (ha:SimA C Z t u):SimE C Z (tCall (spOfX C sp) [] E t) (uCallX sp kx u):=fun I α σ H ρ M K Q R RE h k =>
 ha I α σ H ρ M _ _ R RE h fun vs ds I1 α1 H1 M1 s1 p1 R1 r1 h1=>by
  subst he hk
  rw [List.append_nil]
  exact ⟨Z,I1,α1,M1,ds,K,Z.kx,R1,r1,h1,k.mono s1 p1,fun Ce d vs fs I' α' H' M' s p R' e f g=>hx Ce d vs fs I' α' H' M' R' e f g⟩
theorem CalE.imp {P:Program} {w:World} {K:W.Frag} {mg:Str->Option Value} {base:Heap} {x:Str} {k:Nat} {ps:List Str} {sp sp':Sp} (c:CalE P w K mg base x k ps sp) (h:∀ vs H Q E,sp' vs H Q E->sp vs H Q E):CalE P w K mg base x k ps sp' :=
 let ⟨f,fd,a,b⟩:=c
 ⟨f,fd,a.imp h,b⟩
def uRaise1 (Cx:Addr) (f:Str) (kx:X3) (u:TA3):TS3:=fun _ ρ M=>u ρ M fun ds M1=>∃ d,ds=[d]/\kx Cx [(f,d)] M1
theorem s_raise1 {Cx:Addr} {f:Str} {E:XK} {kx:X3} (he:Z.xe=E) (hk:Z.kx=kx) (hx:FinX C Z) (ha:SimA C Z t u):SimS C Z (tRaise Cx (spX1 Cx f) E t) (uRaise1 Cx f kx u):=fun I α σ H ρ M E3 D' R RE h F =>
 ha I α σ H ρ M _ _ R RE h fun vs ds I1 α1 H1 M1 s1 p1 R1 r1 h1=>by
  subst he hk
  obtain ⟨d0,rfl,h1⟩:=h1
  cases r1 with
  | cons r1 r2 =>
   cases r2
   rename_i y
   refine ⟨by simp,fun ea hea=>⟨ea,y,rfl,upd_same,fun d hd hne=>⟨rfl,d,?_,?_⟩⟩⟩
   ·rw [upd_ne (Ne.symm hne),upd_same]
   ·have hd1:H1 d=none:=by rw [upd_ne hne] at hd; exact hd
    have sH:Same H1 (upd (upd (upd (upd H1 ea (.ext (excN ea Cx none))) ea (.ext (excN ea Cx (some d)))) d (.ext (xdP d [(f,y)]))) ea (.ext (excP ea Cx (some d)))):=fun b o e=>by
     have n1:b≠ea:=ne_of_none e hea
     have n2:b≠d:=ne_of_none e hd1
     rw [upd_ne n1,upd_ne n2,upd_ne n1,upd_ne n1]
     exact e
    obtain ⟨I',s',R',fl⟩:=(R1.same sH).full
    refine hx Cx (some d) [(f,y)] [(f,d0)] I' α1 _ M1 R' (fl d _ ?_ (R1.out hd1)) (.cons (r1.mono s' (List.prefix_refl _)) .nil) h1
    rw [upd_ne hne,upd_same]
abbrev TH3:=Addr->List (Str×D)->TS3
def SimH (C:Cf) (Z:Anc) (th:TH) (uh:TH3):Prop:=∀ I α σ H ρ M (E:Ends3) (D':Ends) Ce d ea fs vs,Rel C Z I α H M->RepE C I α σ ρ->I ea=some (.ext (excP ea Ce d))->XD I d vs->RepF C I α vs fs->uh Ce fs E ρ M->FinD C Z I α E D'->th Ce d ea D' σ H
def uhNil:TH3:=fun _ _ _ _ _=>False
theorem s_hnil:SimH C Z thNil uhNil:=fun _ _ _ _ _ _ _ _ _ _ _ _ _ _ _ _ _ _ h _=>h.elim
def off3 (i:Nat) (E:Ends3):Ends3:={ nx:=fun ρ M=>E.nx (ρ.set i none) M,rt:=E.rt,bk:=fun ρ M=>E.bk (ρ.set i none) M,ct:=fun ρ M=>E.ct (ρ.set i none) M }
theorem RepE.unset {I:Hp} {α:List Addr} {σ:St} {ρ:Ev} (h:RepE C I α σ ρ) (i:Nat):RepE C I α (σ.set i none) (ρ.set i none):=by
 refine ⟨by rw [List.length_set,List.length_set]; exact h.1,fun j e q=>?_⟩
 by_cases z:i=j
 ·subst z
  by_cases hl:i < ρ.length
  ·rw [List.getElem?_set_self hl] at q
   cases q
  ·rw [List.getElem?_eq_none (by rw [List.length_set]; omega)] at q
   cases q
 ·rw [List.getElem?_set_ne z] at q ⊢
  exact h.2 j e q
theorem FinS.off {I:Hp} {α:List Addr} {K:Ev->Mem->Prop} {Q:St->Hp->Prop} (k:FinS C Z I α K Q) (i:Nat):FinS C Z I α (fun ρ M=>K (ρ.set i none) M) (fun σ H=>Q (σ.set i none) H):=fun I' α' σ' H' ρ' M' s p R E h=>k I' α' _ H' _ M' s p R (E.unset i) h
theorem FinD.off {I:Hp} {α:List Addr} {E:Ends3} {D':Ends} (k:FinD C Z I α E D') (i:Nat):FinD C Z I α (off3 i E) (offD i D'):=⟨k.nx.off i,k.rt,k.bk.off i,k.ct.off i⟩
variable {ts:TS} {us:TS3} {thr:TH} {ur:TH3}
def uhAs (K:W.Frag) (Dc:Addr) (i:Nat) (us:TS3) (ur:TH3):TH3:=fun Ce fs E ρ M=>∃ b,W.mroIn K Ce (.ref Dc)=some b/\if b=true then us (off3 i E) (ρ.set i (some (.exc Ce fs))) M else ur Ce fs E ρ M
theorem s_has {K:W.Frag} {Dc:Addr} {i:Nat} (hs:SimS C Z ts us) (hr:SimH C Z thr ur):SimH C Z (thAs K Dc i ts thr) (uhAs K Dc i us ur):=fun I α σ H ρ M E D' Ce d ea fs vs R RE e1 e2 rf h F=>by
 obtain ⟨b,eb,h⟩:=h
 refine ⟨b,eb,?_⟩
 cases b with
 | true =>
  rw [if_pos rfl] at h ⊢
  exact hs I α _ H _ M _ _ R (RE.set (.exc e1 e2 rf) i) h (F.off i)
 | false =>
  rw [if_neg Bool.false_ne_true] at h ⊢
  exact hr I α σ H ρ M E D' Ce d ea fs vs R RE e1 e2 rf h F
theorem Rel.extOut {I:Hp} {α:List Addr} {H:Hp} {M:Mem} (R:Rel C Z I α H M) {l:Addr} {φ:Heap->Prop} (h:H l=some (.ext φ)):l∉α:=fun hl=>by
 obtain ⟨k,hk,rfl⟩:=List.getElem_of_mem hl
 have hk':k < M.length:=by rw [<- R.len]; exact hk
 have:=(R.cel k _ _ (List.getElem?_eq_getElem hk) (List.getElem?_eq_getElem hk')).1
 cases hm:M[k] with
 | lst ds=>rw [hm] at this; obtain ⟨vs,e,_⟩:=this; rw [h] at e; cases e
 | dct ds=>rw [hm] at this; obtain ⟨vs,e,_⟩:=this; rw [h] at e; cases e
 | dcT ds=>rw [hm] at this; obtain ⟨vs,e,_⟩:=this; rw [h] at e; cases e
 | drK ds=>rw [hm] at this; obtain ⟨vs,e,_⟩:=this; rcases e with e | ⟨o,e⟩ <;> (rw [h] at e; cases e)
 | drT ds=>rw [hm] at this; obtain ⟨vs,e,_⟩:=this; rcases e with e | ⟨o,e⟩ <;> (rw [h] at e; cases e)
 | dfT o vs ds=>rw [hm] at this; have e:=this.1; rw [h] at e; cases e
 | dfK o vs ds=>rw [hm] at this; have e:=this.1; rw [h] at e; cases e
 | ins Cl fs=>rw [hm] at this; obtain ⟨dx,vs,e,_⟩:=this; rw [h] at e; cases e
 | hand=>rw [hm] at this; obtain ⟨d,k,c,cs,e,_⟩:=this; rw [h] at e; cases e
 | tab P pos q=>rw [hm] at this; obtain ⟨_,ps,e,_⟩:=this; rw [h] at e; cases e
def isiX3 (K:W.Frag):List D->Mem->K3->Prop:=fun ds M Kk=>∃ (Ce:Addr) (fs:List (Str×D)) (c:D) (b:Bool) (fI:Addr),ds=[.exc Ce fs,c]/\XCl K Ce fI /\
 ((∃ T,c=.ty T/\W.kitOne K (.ref Ce) (.type T)=some b)\/(∃ D,c=.at D/\W.kitOne K (.ref Ce) (.ref D)=some b)\/∃ cs:List Addr,c=.tup (cs.map .at)/\W.kitAny K (.ref Ce) (cs.map Value.ref)=some b)/\Kk (.bl b) M
theorem Reps.of_ats {I:Hp} {α:List Addr}:∀ {vs:List V} (cs:List Addr),Reps C I α vs (cs.map D.at)->vs=cs.map V.ref
 | _,[],h=>by cases h; rfl
 | _,n::r,h=>by
  cases h with
  | cons a b =>
   cases a
   rw [Reps.of_ats r b]
   rfl
theorem s_isiX {K:W.Frag}:SimC C Z (rIsiX K) (isiX3 K):=fun I α H M xs ds Kk Q R r h k=>by
 obtain ⟨Ce,fs,c,b,fI,rfl,xc,hc,h⟩:=h
 cases r with
 | cons r1 r2 =>
  cases r2 with
  | cons r2 r3 =>
   cases r3
   cases r1 with
   | @exc ea _ d vs _ e1 e2 rf =>
    have fin:=k _ _ I α H M (.refl _) (List.prefix_refl _) R (.bl b) h
    rcases hc with ⟨T,rfl,hc⟩ | ⟨D,rfl,hc⟩ | ⟨cs,rfl,hc⟩
    ·cases r2
     exact ⟨_,Ce,fI,vs,_,b,rfl,xc,⟨ea,d,rfl,R.sub _ _ e1,e2.mono R.sub⟩,.inl ⟨T,rfl,hc⟩,fin⟩
    ·cases r2
     exact ⟨_,Ce,fI,vs,_,b,rfl,xc,⟨ea,d,rfl,R.sub _ _ e1,e2.mono R.sub⟩,.inr (.inl ⟨D,rfl,hc⟩),fin⟩
    ·cases r2 with
     | @tup tp us _ et rt =>
      rw [Reps.of_ats cs rt] at et
      exact ⟨_,Ce,fI,vs,_,b,rfl,xc,⟨ea,d,rfl,R.sub _ _ e1,e2.mono R.sub⟩,.inr (.inr ⟨tp,cs,rfl,R.sub _ _ et,hc⟩),fin⟩
theorem RepF.lookup {I:Hp} {α:List Addr} {f:Str}:∀ {vs:List (Str×V)} {ds:List (Str×D)} {d:D},RepF C I α vs ds->ds.lookup f=some d->∃ v,vs.lookup f=some v/\Rep C I α v d
 | _,_,_,.nil,h=>by cases h
 | _,_,d,.cons (k:=k) (v:=v) (d:=d') a b,h=>by
  rw [List.lookup_cons] at h ⊢
  cases e:(f == k) with
  | true=>rw [e] at h; cases h; exact ⟨v,rfl,a⟩
  | false=>rw [e] at h; exact RepF.lookup b h
def uXFld (K:W.Frag) (f:Str) (ua:TE3):TE3:=fun ρ M Kk=>ua ρ M fun d M1=>∃ Ce fs fI v,d=.exc Ce fs/\XCl K Ce fI/\W.findIn K (.ref Ce) f=some none/\fs.lookup f=some v/\Kk v M1
theorem s_xfld {K:W.Frag} {f:Str} (ha:SimE C Z ta ua):SimE C Z (tXFld K ta f) (uXFld K f ua):=fun I α σ H ρ M Kk Q R RE h k =>
 ha I α σ H ρ M _ _ R RE h fun v d I1 α1 H1 M1 s1 p1 R1 r1 h1=>by
  obtain ⟨Ce,fs,fI,w,rfl,xc,na,el,h1⟩:=h1
  cases r1 with
  | @exc ea _ d vs _ e1 e2 rf =>
   obtain ⟨v,ev,rv⟩:=rf.lookup el
   cases d with
   | none =>
    have e2:vs=[]:=e2
    subst e2
    cases ev
   | some d=>exact ⟨ea,Ce,fI,d,vs,v,rfl,xc,na,R1.sub _ _ e1,R1.sub _ _ e2,ev,k _ _ I1 α1 H1 M1 s1 p1 R1 rv h1⟩
theorem Fun.okX3 {P:Program} {w:World} {K:W.Frag} {mg:Str->Option Value} {base:Heap} {x qual:Str} {st:Stmt} {f:Addr} {fd:FuncData} {N ps:List Str} {k:Nat} {sp:Sp3X} (F:Fun K x qual st f fd) (S:FnScope N ps (defScope st)) (len:∀ ds M K KX,sp ds M K KX->ds.length=ps.length)
  (hbody:∀ (cdv:Value) (A:Around) (outer:List Env) (s:Shared) (H:Hp) (E:XK),Room k (A.deeper (PyProof.Rows.envOfC qual (defScope st) s.heap.objs.size f cdv)) ->
   ∃ (t:TS) (u:X3->TS3),PSs (cxE P w K mg base N qual (defScope st) f cdv A outer s H E) (defBody st) t/\(∀ (kx:X3) (Z:Anc),Z.xe=E->Z.kx=kx->FinX C Z->SimS C Z t (u kx))/\∀ ds M K KX,WfM M->(∀ d∈ds,Below M.length d)->sp ds M K KX->u KX { nx:=fun _ M'=>Dk M.length K .non M',rt:=Dk M.length K } (start3 N ds) M):FnOk P w K mg base (CXE P w) (k + 1) f fd ps (spOfX C sp):=by
 refine F.okE S (fun vs H Q E h=>?_) (fun cdv A outer s H vs Q E hr h=>?_)
 ·obtain ⟨Z,I,α,M,ds,K,KX,R,r,h,_⟩:=h
  rw [r.length]
  exact len ds M K KX h
 ·obtain ⟨t,u,h1,h2,h3⟩:=hbody cdv A outer s H E hr
  obtain ⟨Z,I,α,M,ds,K,KX,R,r,h,k,kx⟩:=h
  have R1:=R.here E KX
  have kd:=(k.re (Z':=⟨I,α,E,KX⟩) R).dk R1.len R1.aa
  refine ⟨t,h1,h2 KX ⟨I,α,E,KX⟩ rfl rfl (fun Ce d vs fs I' α' H' M' R' e f g=>kx Ce d vs fs I' α' H' M' R'.ai R'.aa (R'.re R R'.ai R'.aa) e f g) I α _ H _ M _ _ R1 (rep_start r N) (h3 ds M K KX R.wf (by rw [<- R.len]; exact r.bel) h) ⟨fun I1 α1 σ1 H1 ρ1 M1 s1 p1 R1 _ h1=>kd _ _ I1 α1 H1 M1 s1 p1 R1 .non h1,kd,fun _ _ _ _ _ _ _ _ _ _ h=>h.elim,fun _ _ _ _ _ _ _ _ _ _ h=>h.elim⟩⟩
end
def wordsD (kd:List (Key×D)) (S:List Pr):Prop:=(∀ p∈S,valD kd (.inl p.1)=some (wD p.2))/\∀ s:Int,(∀ p∈S,p.1≠s)->valD kd (.inl s)=none
theorem wordsD.perm {kd:List (Key×D)} {S L:List Pr} (h:wordsD kd L) (p:S.Perm L):wordsD kd S:=⟨fun q hq=>h.1 q (p.mem_iff.mp hq),fun s hs=>h.2 s fun q hq=>hs q (p.mem_iff.mpr hq)⟩
def prK (p:Pr):Key×D:=(.inl p.1,wD p.2)
section
def osOf (R:List En):List (Option Int):=R.map fun e=>e.2
end
theorem st_by {u u':TS3} {En:Ends3} {ρ:Ev} {M:Mem} (S:Ev->Mem->Prop) (h1:∀ Kn:Ev->Mem->Prop,(∀ ρ' M',S ρ' M'->Kn ρ' M')->u { En with nx:=Kn } ρ M) (h2:∀ ρ' M',S ρ' M'->u' En ρ' M'):uSeq u u' En ρ M:=h1 _ h2
theorem ls_more {M:Mem} {d:D} {xs:List D} {m:MO} (h:lsOf M d=some xs):lsOf (M++[m]) d=some xs:=by
 cases d with
 | lst ys=>exact h
 | cell k =>
  simp only [lsOf] at h ⊢
  by_cases hk:k < M.length
  ·rw [List.getElem?_append_left hk]; exact h
  ·rw [List.getElem?_eq_none (Nat.le_of_not_lt hk)] at h
   exact nomatch h
 | _=>exact nomatch h
def spLaw0 (K:W.Frag):Sp:=fun vs H Q _=>∃ (a:Addr) (ns:List Int),vs=[.ref a]/\SqL K H a (ns.map V.int)/\ns.length<=63/\∀ H',Q (.bl true) H'
def dLaw0:Sp3:=fun ds M K=>∃ ns:List Int,ds=[.frz (ns.map .int)]/\M=[]/\ns.length<=63/\∀ M',K (.bl true) M'
theorem law_in0 {C:Cf} {vs:List V} {H:Hp} {Q:VK} {E:XK} (h:spLaw0 C.k vs H Q E):spOf C dLaw0 vs H Q E:=by
 obtain ⟨a,ns,rfl,hS,hl,k⟩:=h
 refine ⟨⟨fun _=>none,[],fun _ _ _=>False,fun _ _ _=>False⟩,H,[],[],[.frz (ns.map .int)],fun d _=>d=.bl true,⟨(fun _ _ h=>nomatch h),List.nil_prefix,.refl _,rfl,by simp,fun k' a' m h1 h2=>by simp at h1⟩,?_,⟨ns,rfl,rfl,hl,fun _=>rfl⟩,fun v d I' α' H' M' _ _ _ r h=>?_⟩
 ·exact .one (.frz hS (.ints ns))
 ·subst h
  cases r
  exact k H'
def hit (ns:List Int) (pl:Nat) (p:Pr):Bool:=decide ((ns.drop pl).take p.2.length=p.2)
end L3
namespace L2
open PySem PySem.Spec PyProof.Rows
def oddAt (L:List Pr) (i j:Nat):V:=((L[i]?).bind fun p=>(L[j]?).map fun q=>oddsV p q).getD .non
theorem odd_at {L:List Pr} {i j:Nat} (hi:i < L.length) (hj:j < L.length):oddAt L i j=oddsV L[i] L[j]:=by
 unfold oddAt
 rw [List.getElem?_eq_getElem hi,List.getElem?_eq_getElem hj]
 rfl
def FirstOdd (L:List Pr) (o:Str) (i j:Nat):Prop:=i < j/\j < L.length/\oddAt L i j=.str o/\∀ i' j',i' < j'->j' < L.length->(j' < j\/j'=j/\i' < i)->oddAt L i' j'=.non
theorem odds_cases (p q:Pr):oddsV p q=.str (Str.ofString "twice")\/oddsV p q=.str (Str.ofString "begins")\/oddsV p q=.non:=by
 unfold oddsV
 by_cases h:p.1=q.1
 ·rw [if_pos h]; exact .inl rfl
 ·rw [if_neg h]
  split
  ·exact .inr (.inl rfl)
  ·exact .inr (.inr rfl)
theorem FirstOdd.word {L:List Pr} {o:Str} {i j:Nat} (h:FirstOdd L o i j):o=Str.ofString "twice"\/o=Str.ofString "begins":=by
 obtain ⟨a,b,c,_⟩:=h
 rw [odd_at (Nat.lt_trans a b) b] at c
 rcases odds_cases L[i] L[j] with e | e | e
 ·rw [e] at c; cases c; exact .inl rfl
 ·rw [e] at c; cases c; exact .inr rfl
 ·rw [e] at c; cases c
end L2
namespace L3
open PySem L2
section
variable {C:Cf} {I:Hp} {α:List Addr} {H:Hp}
def Wk:MO->MO->Prop
 | .dcT a,.drT b=>a=b
 | .dfT _ _ a,.drT b=>a=b
 | .dct a,.drK b=>a=b
 | _,_=>False
theorem Wk.at {a:Addr} {m m':MO} (w:Wk m m') (h:MoAt C I α H a m):MoAt C I α H a m':=by
 cases m with
 | dcT x=>cases m' with | drT y=>cases w; obtain ⟨vs,e,r⟩:=h; exact ⟨vs,.inl e,r⟩ | _=>exact w.elim
 | dfT o vs x=>cases m' with | drT y=>cases w; exact ⟨vs,.inr ⟨o,h.1⟩,h.2⟩ | _=>exact w.elim
 | dct x=>cases m' with | drK y=>cases w; obtain ⟨vs,e,r⟩:=h; exact ⟨vs,.inl e,r⟩ | _=>exact w.elim
 | _=>cases m' <;> exact w.elim
end
section
variable {C:Cf}
theorem RepT.get {I:Hp} {α:List Addr}:∀ {vs:List (List Key×V)} {ds:List (List Key×D)},RepT C I α vs ds->vs.length=ds.length/\∀ i:Nat,(vs[i]?).map (·.1)=(ds[i]?).map (·.1)
 | _,_,.nil=>⟨rfl,fun _=>rfl⟩
 | _,_,.cons h r=>by
  obtain ⟨a,b⟩:=RepT.get r
  refine ⟨by rw [List.length_cons,List.length_cons,a],fun i=>?_⟩
  cases i with
  | zero=>rfl
  | succ i=>simpa using b i
end
def dNo:Sp3:=fun _ _ _=>False
theorem FnOk.no {P:Program} {w:World} {K:W.Frag} {mg:Str->Option Value} {base:Heap} {CX:CXT} {k:Nat} {f:Addr} {fd:FuncData} {ps:List Str} {C:Cf}:FnOk P w K mg base CX k f fd ps (spOf C dNo) :=
 ⟨fun vs H Q E h=>by obtain ⟨Z,I,α,M,ds,K,R,r,h,_⟩:=h; exact h.elim,fun A outer s H args us vs Q E hr e b v h=>by obtain ⟨Z,I,α,M,ds,K,R,r,h,_⟩:=h; exact h.elim⟩
section
abbrev Live (S:List Pr) (ns:List Int):Prop:=∃ w∈S.map (fun q:Pr=>q.2),ns<+:w/\ns.length < w.length
theorem Live.perm {S L:List Pr} {ns:List Int} (h:Live S ns) (p:S.Perm L):Live L ns:=by
 obtain ⟨w,hw,r⟩:=h
 exact ⟨w,(p.map _).mem_iff.mp hw,r⟩
theorem Live.len {S:List Pr} {ns:List Int} (h:Live S ns) (fi:Fits S):ns.length<=3:=by
 obtain ⟨w,hw,_,l⟩:=h
 obtain ⟨p,hp,rfl⟩:=List.mem_map.mp hw
 have:=(fi.2 p hp).2
 omega
end
def Cert (S:List Pr) (ns:List Int) (os:List (Option Int)) (pl:Nat):Prop:=∃ (R:List En) (j:Nat),Told S ns R/\os=osOf (R.take j)/\Went S ns (R.take j) pl/\(∀ i,i < j->∀ p,R[i]?=some (p,none)->¬ Live S (ns.drop p)) /\
 ((R.length<=j/\pl=ns.length)\/(R[j]?=some (pl,none)/\Live S (ns.drop pl)))
theorem Cert.le {S:List Pr} {ns:List Int} {os:List (Option Int)} {pl:Nat} (h:Cert S ns os pl):pl<=ns.length:=by
 obtain ⟨R,j,_,_,w,_⟩:=h
 exact w.le
theorem Cert.rest {S:List Pr} {ns:List Int} {os:List (Option Int)} {pl:Nat} (h:Cert S ns os pl):ns.drop pl=[]\/Live S (ns.drop pl):=by
 obtain ⟨R,j,_,_,w,_,z⟩:=h
 rcases z with ⟨_,rfl⟩ | ⟨_,z⟩
 ·exact .inl (List.drop_length ..)
 ·exact .inr z
theorem Cert.len {S:List Pr} {ns:List Int} {os:List (Option Int)} {pl:Nat} (h:Cert S ns os pl):os.length<=ns.length:=by
 obtain ⟨R,j,_,rfl,w,_⟩:=h
 have:=w.len
 have:=w.le
 unfold osOf
 rw [List.length_map]
 omega
theorem ls_ty {M:Mem} {d:D} {xs:List D} (h:lsOf M d=some xs):tyOf M d=some .list/\lstOf M d=some xs/\seqOf M d=some xs:=by
 cases d with
 | lst ys=>cases h; exact ⟨rfl,rfl,rfl⟩
 | cell k =>
  simp only [lsOf] at h
  cases hm:M[k]? with
  | none=>rw [hm] at h; cases h
  | some m =>
   rw [hm] at h
   cases m with
   | lst es=>cases h; exact ⟨by simp only [tyOf,hm],by simp only [lstOf,hm],by simp only [seqOf,lstOf,hm]⟩
   | _=>cases h
 | _=>cases h
theorem len_ls {M:Mem} {d:D} {xs:List D} {K:K3} (h:lsOf M d=some xs) (hk:K (.int xs.length) M):len3 [d] M K:=by
 cases d with
 | lst zs=>exact ⟨_,(ls_ty h).2.2,hk⟩
 | cell k=>exact ⟨_,(ls_ty h).2.2,hk⟩
 | _=>cases h
theorem ix_ls {M:Mem} {d v:D} {xs:List D} {i:Int} {K:K3} (h:lsOf M d=some xs) (hv:L2.atI xs i=some v) (hk:K v M):ix3 d (.int i) M K:=by
 cases d with
 | lst zs=>exact ⟨_,_,_,(ls_ty h).2.2,rfl,hv,hk⟩
 | cell k=>exact ⟨_,_,_,(ls_ty h).2.2,rfl,hv,hk⟩
 | _=>cases h
theorem get_more {M:Mem} {m m':MO} {r:Nat} (h:M[r]?=some m):(M++[m'])[r]?=some m:=by
 rw [List.getElem?_append_left (List.getElem?_eq_some_iff.mp h).1]
 exact h
theorem Cert.perm {S L:List Pr} {ns:List Int} {os:List (Option Int)} {pl:Nat} (h:Cert S ns os pl) (p:S.Perm L):Cert L ns os pl:=by
 obtain ⟨R,j,t,e,w,no,z⟩:=h
 refine ⟨R,j,t.perm p,e,w.perm p,fun i hi q hq l=>no i hi q hq (Live.perm l p.symm),?_⟩
 rcases z with z | ⟨z1,z2⟩
 ·exact .inl z
 ·exact .inr ⟨z1,Live.perm z2 p⟩
theorem Live.no {S:List Pr} {ws:List Int} (fr:Free S) (h:Live S ws):∀ q∈S,¬ q.2<+:ws:=fun q hq pre=>by
 obtain ⟨w,hw,p1,l⟩:=h
 obtain ⟨p,hp,rfl⟩:=List.mem_map.mp hw
 have:q=p:=free_eq fr hq hp (l:=p.2) (pre.trans p1) (List.prefix_refl _)
 subst this
 have:=pre.length_le
 omega
def encO:Enc (Option Int) where
 e:=oD
 py o:=match o with | some z=>.int z | none=>.none
 n:=0
 ok:=fun M o=>by cases o with | none=>exact .non | some z=>exact .int z
 shp:=fun o=>by
  cases o with
  | none=>exact ⟨by simp only [PyData.canLay0],by simp only [PyData.depth]; exact Nat.le_refl _⟩
  | some z=>exact shp_int z
 eq:=fun a b=>by cases a <;> cases b <;> simp [PyData.eqv,Bool.beq_eq_decide_eq]
 hn:=by decide
theorem get_lt {N:Mem} {m:MO} {r:Nat} (h:N[r]?=some m):r < N.length:=(List.getElem?_eq_some_iff.mp h).1
theorem ls_at_ {N:Mem} {xs:List D} {t:Nat} (h:N[t]?=some (.lst xs)):lsOf N (.cell t)=some xs:=by simp only [lsOf,h]
theorem Live.drop {S:List Pr} {a b:List Int} (h:Live S (a++b)):Live S a:=by
 obtain ⟨w,hw,p,l⟩:=h
 exact ⟨w,hw,(List.prefix_append _ _).trans p,by rw [List.length_append] at l; omega⟩
def sh (k:Nat) (R:List En):List En:=R.map fun e=>(k + e.1,e.2)
def R0:Mem->D->Option Int->Prop:=fun _ d o=>d=oD o
theorem pre_get_ {M N:Mem} {m:MO} {r:Nat} (p:M<+:N) (h:M[r]?=some m):N[r]?=some m:=by
 obtain ⟨X,rfl⟩:=p
 rw [List.getElem?_append_left (List.getElem?_eq_some_iff.mp h).1]
 exact h
end L3
namespace L2
open PySem
def RowAt (H:Hp) (r:Addr) (ns:List Int):Prop:=H r=some (.lst (ns.map V.int))\/H r=some (.tup (ns.map V.int))
theorem RowAt.same {H H':Hp} {r:Addr} {ns:List Int} (h:RowAt H r ns) (s:Same H H'):RowAt H' r ns:=h.imp (s _ _) (s _ _)
end L2
namespace L2
open PySem PySem.Spec PyProof.Rows
section
variable {X:Cx} {K:W.Frag}
def rJoin (K:W.Frag):V->List V->Hp->VK->Prop:=fun x xs H Q=>∃ (z:Str) (p:Addr) (ys:List Str),x=.str z/\xs=[.ref p]/\SqL K H p (ys.map V.str)/\(ys.map (·.length)).sum + ys.length * z.length<=16777216/\Q (.str (Txt.join z ys)) H
theorem bk_join (h:X.K=K):MtR X "str.join" (rJoin K):=by subst h; exact mt_join
end
end L2
namespace L3
open PySem L2
section
variable {C:Cf} {Z:Anc} {to:TE} {uo:TE3} {t:TA} {u:TA3}
theorem Reps.of_strs {I:Hp} {α:List Addr}:∀ {vs:List V} (zs:List Str),Reps C I α vs (zs.map D.str)->vs=zs.map V.str
 | _,[],h=>by cases h; rfl
 | _,z::r,h=>by
  cases h with
  | cons a b =>
   cases a
   rw [Reps.of_strs r b]
   rfl
def uJoin (uo:TE3) (u:TA3):TE3:=fun ρ M K=>uo ρ M fun d M1=>∃ z,d=.str z/\u ρ M1 fun ds M2=>∃ (e:D) (ys:List Str),ds=[e]/\lstOf M2 e=some (ys.map D.str)/\(ys.map (·.length)).sum + ys.length * z.length<=16777216/\K (.str (Txt.join z ys)) M2
theorem s_join (ho:SimE C Z to uo) (ha:SimA C Z t u):SimE C Z (tBM C.k "str" (rJoin C.k) to t) (uJoin uo u):=fun I α σ H ρ M K Q R E h k =>
 ho I α σ H ρ M _ _ R E h fun v d I1 α1 H1 M1 s1 p1 R1 r1 h1=>by
  obtain ⟨z,rfl,h1⟩:=h1
  cases r1
  refine ⟨rfl,ha I1 α1 σ H1 ρ M1 _ _ R1 (E.mono s1 p1) h1 fun ws ds I2 α2 H2 M2 s2 p2 R2 r2 h2=>?_⟩
  obtain ⟨e,ys,rfl,el,hz,h2⟩:=h2
  cases r2 with
  | cons ry rn =>
   cases rn
   obtain ⟨a,vs,rfl,ea,ra⟩:=lst_at R2 ry el
   rw [ra.of_strs ys] at ea
   exact ⟨z,a,ys,rfl,rfl,ea,hz,k _ _ I2 α2 H2 M2 (s1.trans s2) (p1.trans p2) R2 (.str _) h2⟩
end
abbrev Fq:=Str×List Pr×List Int
def famD (f:Nat):List (Str×D):=[("codes_by_name",.cell (f + 1)),("marks_by_name",.cell (f + 2))]
def codesD (zs:List Fq):List (Key×D):=zs.map fun z=>(.inr z.1,.code z.2.1)
def marksD (zs:List Fq):List (Key×D):=zs.map fun z=>(.inr z.1,wD z.2.2)
structure FamAt (XF:Addr) (M:Mem) (f:Nat) (zs:List Fq):Prop where
 h0:M[f]?=some (.ins XF (famD f))
 h1:M[f + 1]?=some (.dct (codesD zs))
 h2:M[f + 2]?=some (.dct (marksD zs))
 nd:(zs.map (·.1)).Nodup
theorem FamAt.pre {XF:Addr} {M N:Mem} {f:Nat} {zs:List Fq} (h:FamAt XF M f zs) (p:M<+:N):FamAt XF N f zs:=⟨pre_get_ p h.h0,pre_get_ p h.h1,pre_get_ p h.h2,h.nd⟩
def NameLen (zs:List Str):Prop:=(∀ z∈zs,z.length≠1)\/∀ z∈zs,z.length≠4
structure SpOk (bs ss:List Int) (qs:List Fq):Prop where
 bnd:bs.Nodup
 b2:2<=bs.length
 b4:bs.length<=4
 br:∀ b∈bs,0<=b/\b < 256
 snd:ss.Nodup
 sl:ss.length=30
 nd:(qs.map (·.1)).Nodup
 ln:qs.length<=8
 nl:∀ q∈qs,q.1.length<=8/\PyData.strOk q.1=true
 fr:∀ q∈qs,Free q.2.1
 fi:∀ q∈qs,Fits q.2.1
 wb:∀ q∈qs,∀ p∈q.2.1,∀ b∈p.2,b∈bs
 ml:∀ q∈qs,q.2.2.length<=4
 mb:∀ q∈qs,∀ b∈q.2.2,b∈bs
 al:NameLen (qs.map (·.1))
 ll:∀ q∈qs,q.2.1.length<=28
theorem idx_to (n len:Nat):Builtin.Str.strSliceIndices none (some (n:Int)) 1 len=Builtin.Str.strSliceIndices (some ((0:Nat):Int)) (some (n:Int)) 1 len:=by
 unfold Builtin.Str.strSliceIndices
 have e1:max (0:Int) (min ((0:Nat):Int) (len:Int))=0:=by omega
 have h1:¬ (((0:Nat):Int) < 0):=by omega
 simp only [show ((1:Int) > 0)=True from by simp,if_true,h1,if_false,e1]
def Told1 (z q:Fq):Prop:=z.1=q.1/\z.2.2=q.2.2/\z.2.1.Perm q.2.1/\RisingW z.2.1
theorem ls_pre {M N:Mem} {d:D} {xs:List D} (p:M<+:N) (h:lsOf M d=some xs):lsOf N d=some xs:=by
 cases d with
 | lst ys=>exact h
 | cell c =>
  simp only [lsOf] at h ⊢
  cases hm:M[c]? with
  | none=>rw [hm] at h; cases h
  | some m=>rw [pre_get_ p hm]; rw [hm] at h; exact h
 | _=>cases h
def FitsRow (S:List Pr) (ns:List Int):Prop:=∀ R,Told S ns R->lostOf R=[]
noncomputable def fitB (S:List Pr) (ns:List Int):Bool:=@decide _ (Classical.propDecidable (FitsRow S ns))
noncomputable def fitNames (zs:List Fq) (ns:List Int):List Str:=(zs.filter fun z=>fitB z.2.1 ns).map (·.1)
def RowsOk (M:Mem) (xs:List D):Prop:=∀ x∈xs,∃ ns:List Int,lsOf M x=some (ns.map .int)/\ns.length<=900
theorem RowsOk.pre {M N:Mem} {xs:List D} (h:RowsOk M xs) (p:M<+:N):RowsOk N xs:=fun x hx=>by
 obtain ⟨ns,e,l⟩:=h x hx
 exact ⟨ns,ls_pre p e,l⟩
def TellsAll (zs qs:List Fq):Prop:=zs.length=qs.length/\∀ (i:Nat) (z q:Fq),zs[i]?=some z->qs[i]?=some q->Told1 z q
theorem TellsAll.free {zs qs:List Fq} (h:TellsAll zs qs) (ff:∀ q∈qs,Free q.2.1/\Fits q.2.1):∀ z∈zs,Free z.2.1/\Fits z.2.1:=fun z hz=>by
 obtain ⟨i,hi,rfl⟩:=List.getElem_of_mem hz
 have hq:i < qs.length:=by rw [<- h.1]; exact hi
 obtain ⟨_,_,pm,_⟩:=h.2 i _ _ (List.getElem?_eq_getElem hi) (List.getElem?_eq_getElem hq)
 have:=ff _ (List.getElem_mem hq)
 exact ⟨this.1.perm pm,this.2.perm pm⟩
section
variable {C:Cf}
theorem RepK.get {I:Hp} {α:List Addr}:∀ {vs:List (Key×V)} {ds:List (Key×D)},RepK C I α vs ds->vs.length=ds.length/\∀ (i:Nat) (kv:Key×V) (kd:Key×D),vs[i]?=some kv->ds[i]?=some kd->kv.1=kd.1/\Rep C I α kv.2 kd.2
 | _,_,.nil=>⟨rfl,fun i kv kd e=>nomatch e⟩
 | _,_,.cons h r=>by
  obtain ⟨a,b⟩:=RepK.get r
  refine ⟨by rw [List.length_cons,List.length_cons,a],fun i kv kd e1 e2=>?_⟩
  cases i with
  | zero=>cases e1; cases e2; exact ⟨rfl,h⟩
  | succ i=>exact b i kv kd (by simpa using e1) (by simpa using e2)
end
def markB (m ns:List Int):Bool:=decide (0 < m.length) && decide (ns.take m.length=m)
def hitsF (zs:List Fq) (ns:List Int):List Fq:=zs.filter fun z=>markB z.2.2 ns
def topF:List Fq->Nat
 | []=>0
 | z::r=>max z.2.2.length (topF r)
def byMark (zs:List Fq) (ns:List Int):List Str:=((hitsF zs ns).filter fun z=>decide (z.2.2.length=topF (hitsF zs ns))).map (·.1)
def AlikeM (zs qs:List Fq):Prop:=zs.map (fun z=>(z.1,z.2.2))=qs.map fun q=>(q.1,q.2.2)
theorem AlikeM.by {zs qs:List Fq} (h:AlikeM zs qs) (ns:List Int):byMark zs ns=byMark qs ns:=by
 have go:∀ {zs qs:List Fq},AlikeM zs qs->AlikeM (hitsF zs ns) (hitsF qs ns):=by
  intro zs
  induction zs with
  | nil=>intro qs h; cases qs with | nil=>rfl | cons _ _=>cases h
  | cons z zs ih =>
   intro qs h
   cases qs with
   | nil=>cases h
   | cons q qs =>
    unfold AlikeM at h ih ⊢
    rw [List.map_cons,List.map_cons] at h
    injection h with h1 h2
    injection h1 with e1 e2
    have:=ih h2
    unfold hitsF at this ⊢
    rw [List.filter_cons,List.filter_cons,e2]
    split
    ·rw [List.map_cons,List.map_cons,this,e1,e2]
    ·exact this
 have tp:∀ {zs qs:List Fq},AlikeM zs qs->topF zs=topF qs:=by
  intro zs
  induction zs with
  | nil=>intro qs h; cases qs with | nil=>rfl | cons _ _=>cases h
  | cons z zs ih =>
   intro qs h
   cases qs with
   | nil=>cases h
   | cons q qs =>
    unfold AlikeM at h ih
    rw [List.map_cons,List.map_cons] at h
    injection h with h1 h2
    injection h1 with e1 e2
    show max _ _=max _ _
    rw [e2,ih h2]
 have nm:∀ (t:Nat) {zs qs:List Fq},AlikeM zs qs->(zs.filter fun z=>decide (z.2.2.length=t)).map (·.1)=(qs.filter fun z=>decide (z.2.2.length=t)).map (·.1):=by
  intro t zs
  induction zs with
  | nil=>intro qs h; cases qs with | nil=>rfl | cons _ _=>cases h
  | cons z zs ih =>
   intro qs h
   cases qs with
   | nil=>cases h
   | cons q qs =>
    unfold AlikeM at h ih
    rw [List.map_cons,List.map_cons] at h
    injection h with h1 h2
    injection h1 with e1 e2
    have:=ih h2
    rw [List.filter_cons,List.filter_cons,e2]
    split
    ·rw [List.map_cons,List.map_cons,this,e1]
    ·exact this
 unfold byMark
 rw [tp (go h)]
 exact nm _ (go h)
theorem Texts.perm {S L U:List Pr} {ts:List Int} {i:Nat} (pm:S.Perm L) (h:Texts L U ts i):Texts S U ts i:=⟨fun p hp=>pm.mem_iff.mpr (h.1 p hp),h.2⟩
inductive Why where
 | name | sign (i:Nat)
theorem TellsAll.take {zs qs:List Fq} {i:Nat} (tz:∀ (i:Nat) (z q:Fq),zs[i]?=some z->qs[i]?=some q->Told1 z q) (lz:zs.length=i) (hi:i<=qs.length):TellsAll zs (qs.take i):=by
 refine ⟨by rw [List.length_take]; omega,fun j z q e1 e2=>?_⟩
 have hj:=(List.getElem?_eq_some_iff.mp e1).1
 rw [List.getElem?_take_of_lt (by omega)] at e2
 exact tz j z q e1 e2
def TbOk (L:List Pr):Prop:=Free L/\Fits L
section
variable {C:Cf} {Z:Anc} {ta:TA} {ua:TA3} {to:TE} {uo:TE3}
def uFind (uo:TE3) (u:TA3):TE3:=fun ρ M K=>uo ρ M fun d M1=>∃ z,d=.str z/\u ρ M1 fun ds M2=>∃ y:Str,ds=[.str y]/\K (.int (Txt.find z y)) M2
theorem s_find (ho:SimE C Z to uo) (ha:SimA C Z ta ua):SimE C Z (tBM C.k "str" rFind to ta) (uFind uo ua):=fun I α σ H ρ M K Q R E h k =>
 ho I α σ H ρ M _ _ R E h fun v d I1 α1 H1 M1 s1 p1 R1 r1 h1=>by
  obtain ⟨z,rfl,h1⟩:=h1
  cases r1
  refine ⟨rfl,ha I1 α1 σ H1 ρ M1 _ _ R1 (E.mono s1 p1) h1 fun ws ds I2 α2 H2 M2 s2 p2 R2 r2 h2=>?_⟩
  obtain ⟨y,rfl,h2⟩:=h2
  cases r2 with
  | cons ry rn =>
   cases rn
   cases ry
   exact ⟨z,y,rfl,rfl,k _ _ I2 α2 H2 M2 (s1.trans s2) (p1.trans p2) R2 (.int _) h2⟩
end
def GoOk (S1 S2:List Pr) (ts ns us:List Int):Prop:=∃ U V:List Pr,(∀ p∈U,p∈S1)/\signsOf U=ts/\(∀ p∈V,p∈S2)/\signsOf V=us/\rowOf U=ns/\rowOf V=ns
theorem GoOk.symm {S1 S2:List Pr} {ts ns us:List Int} (h:GoOk S1 S2 ts ns us):GoOk S2 S1 us ns ts:=by
 obtain ⟨U,V,a,b,c,d,e,f⟩:=h
 exact ⟨V,U,c,d,a,b,f,e⟩
theorem GoOk.perm {S1 S2 L1 L2:List Pr} {ts ns us:List Int} (h:GoOk S1 S2 ts ns us) (p1:S1.Perm L1) (p2:S2.Perm L2):GoOk L1 L2 ts ns us:=by
 obtain ⟨U,V,a,b,c,d,e,f⟩:=h
 exact ⟨U,V,fun p hp=>p1.mem_iff.mp (a p hp),b,fun p hp=>p2.mem_iff.mp (c p hp),d,e,f⟩
theorem rowOf_ge {S:List Pr} (fi:Fits S):∀ {U:List Pr},(∀ p∈U,p∈S)->U.length<=(rowOf U).length
 | [],_=>Nat.zero_le _
 | p::U,h=>by
  have:=rowOf_ge fi (U:=U) fun q hq=>h q (List.mem_cons_of_mem _ hq)
  have:=List.length_pos_iff.mpr (fi.2 p (h p List.mem_cons_self)).1
  show U.length + 1<=(p.2++rowOf U).length
  rw [List.length_append]
  omega
theorem GoOk.len {S1 S2:List Pr} {ts ns us:List Int} (i1:Fits S1) (i2:Fits S2) (h:GoOk S1 S2 ts ns us):ns.length<=4 * ts.length/\us.length<=ns.length/\ts.length<=ns.length:=by
 obtain ⟨U,V,a,b,c,d,e,f⟩:=h
 have h1:=row_len i1 a
 have h2:=rowOf_ge i2 c
 have h3:=rowOf_ge i1 a
 have l1:U.length=ts.length:=by rw [<- b]; unfold signsOf; rw [List.length_map]
 have l2:V.length=us.length:=by rw [<- d]; unfold signsOf; rw [List.length_map]
 rw [e] at h1 h3
 rw [f] at h2
 omega
abbrev Nt:=Str×List Pr
def Tld (zs:List Fq) (qs:List Nt):Prop:=zs.length=qs.length/\∀ (i:Nat) (z:Fq) (q:Nt),zs[i]?=some z->qs[i]?=some q->z.1=q.1/\z.2.1.Perm q.2
def NtOk (qs:List Nt):Prop:=(qs.map (·.1)).Nodup/\qs.length<=8/\∀ q∈qs,TbOk q.2/\PyData.strOk q.1=true
def BookAt (M:Mem) (b:Nat) (qs:List Nt):Prop:=∃ cs:List Nat,cs.length=qs.length/\M[b]?=some (.dct (List.zipWith (fun (q:Nt) (c:Nat)=>((.inr q.1:Key),D.cell c)) qs cs))/\∀ (i c:Nat) (q:Nt),cs[i]?=some c->qs[i]?=some q->M[c]?=some (.dct (q.2.map prK))
theorem BookAt.pre {M N:Mem} {b:Nat} {qs:List Nt} (h:BookAt M b qs) (p:M<+:N):BookAt N b qs:=by
 obtain ⟨cs,l,e,g⟩:=h
 exact ⟨cs,l,pre_get_ p e,fun i c q e1 e2=>pre_get_ p (g i c q e1 e2)⟩
theorem val_zip {zs:List Nt} {cs:List Nat} (nd:(zs.map (·.1)).Nodup) {i:Nat} {q:Nt} {c:Nat} (e1:zs[i]?=some q) (e2:cs[i]?=some c):valD (List.zipWith (fun (q:Nt) (c:Nat)=>((.inr q.1:Key),D.cell c)) zs cs) (.inr q.1)=some (.cell c):=by
 induction zs generalizing cs i with
 | nil=>cases e1
 | cons z zs ih =>
  cases cs with
  | nil=>cases e2
  | cons d cs =>
   rw [List.map_cons,List.nodup_cons] at nd
   unfold valD
   rw [List.zipWith_cons_cons,List.find?_cons]
   cases i with
   | zero =>
    cases e1
    cases e2
    simp
   | succ i =>
    have e1':zs[i]?=some q:=by simpa using e1
    have ne:z.1≠q.1:=fun e=>nd.1 (List.mem_map.mpr ⟨q,List.mem_of_getElem? e1',e.symm⟩)
    rw [show decide ((Sum.inr z.1:Key)=Sum.inr q.1)=false from decide_eq_false fun w=>ne (Sum.inr.inj w)]
    exact ih nd.2 e1' (by simpa using e2)
theorem BookAt.get {M:Mem} {b:Nat} {qs:List Nt} (h:BookAt M b qs) (nd:(qs.map (·.1)).Nodup) {q:Nt} (hq:q∈qs):∃ c,dGet M (.cell b) (.str q.1) (some (.cell c))/\M[c]?=some (.dct (q.2.map prK)):=by
 obtain ⟨cs,l,e,g⟩:=h
 obtain ⟨i,hi,rfl⟩:=List.getElem_of_mem hq
 have hc:i < cs.length:=by omega
 refine ⟨cs[i],.inl ⟨_,_,by simp only [dctOf,e],rfl,(val_zip nd (List.getElem?_eq_getElem hi) (List.getElem?_eq_getElem hc)).symm⟩,g i _ _ (List.getElem?_eq_getElem hc) (List.getElem?_eq_getElem hi)⟩
theorem Tld.get {zs:List Fq} {qs:List Nt} (h:Tld zs qs) {q:Nt} (hq:q∈qs):∃ z∈zs,z.1=q.1/\z.2.1.Perm q.2:=by
 obtain ⟨i,hi,rfl⟩:=List.getElem_of_mem hq
 have hz:i < zs.length:=by rw [h.1]; exact hi
 exact ⟨zs[i],List.getElem_mem hz,h.2 i _ _ (List.getElem?_eq_getElem hz) (List.getElem?_eq_getElem hi)⟩
abbrev Lg:=List Pr×List Pr
def Legs (qs:List Nt) (way:List (Str×Str)) (ls:List Lg):Prop:=ls.length=way.length/\∀ (i:Nat) (w:Str×Str) (l:Lg),way[i]?=some w->ls[i]?=some l->(w.1,l.1)∈qs/\(w.2,l.2)∈qs
def TrOk (ls:List Lg) (ts:List Int) (i:Nat) (xs:List (List Int)):Prop:=xs.length=2 * i + 1/\xs[0]?=some ts/\∀ j,j < i->∃ (l:Lg) (a b c:List Int),ls[j]?=some l/\xs[2 * j]?=some a/\xs[2 * j + 1]?=some b/\xs[2 * j + 2]?=some c/\GoOk l.1 l.2 a b c
def LgOk (ls:List Lg):Prop:=∀ l∈ls,TbOk l.1/\TbOk l.2
theorem TrOk.zero (ls:List Lg) (ts:List Int):TrOk ls ts 0 [ts]:=⟨rfl,rfl,fun j h=>absurd h (Nat.not_lt_zero _)⟩
inductive Wo where
 | at (k:Nat) | to (xs:List (List Int))
def IsWo (ls:List Lg) (ts:List Int):Wo->Prop
 | .at k=>∃ (l:Lg) (xs:List (List Int)) (a:List Int),ls[k]?=some l/\TrOk ls ts k xs/\xs[2 * k]?=some a/\∀ ns us,¬ GoOk l.1 l.2 a ns us
 | .to xs=>TrOk ls ts ls.length xs
theorem TrOk.len {ls:List Lg} {ts:List Int} (ok:LgOk ls) {n:Nat} {xs:List (List Int)} (h:TrOk ls ts n xs):∀ {i:Nat} {a:List Int},i<=n->xs[2 * i]?=some a->a.length<=4 ^ i * ts.length:=by
 intro i
 induction i with
 | zero =>
  intro a _ e
  have:=h.2.1
  rw [show 2 * 0=0 from rfl,this] at e
  cases e
  show _<=1 * _
  omega
 | succ i ih =>
  intro a hi e
  obtain ⟨l,a',b',c',q1,q2,q3,q4,q5⟩:=h.2.2 i (by omega)
  have:=ih (by omega) q2
  rw [show 2 * (i + 1)=2 * i + 2 by omega,q4] at e
  cases e
  have okl:=ok l (List.mem_of_getElem? q1)
  have gl:=q5.len okl.1.2 okl.2.2
  rw [Nat.pow_succ]
  have e4:4 ^ i * 4 * ts.length=4 * (4 ^ i * ts.length):=by rw [Nat.mul_comm (4 ^ i) 4,Nat.mul_assoc]
  omega
abbrev refS:Str:=Str.ofString "refused"
def LegsZ (zs:List Fq) (way:List (Str×Str)) (ls:List Lg):Prop:=ls.length=way.length/\∀ (i:Nat) (w:Str×Str) (l:Lg),way[i]?=some w->ls[i]?=some l->(∃ z∈zs,z.1=w.1/\z.2.1=l.1)/\∃ z∈zs,z.1=w.2/\z.2.1=l.2
def PermL (ls ls':List Lg):Prop:=ls.length=ls'.length/\∀ (i:Nat) (l l':Lg),ls[i]?=some l->ls'[i]?=some l'->l.1.Perm l'.1/\l.2.Perm l'.2
theorem PermL.get {ls ls':List Lg} (h:PermL ls ls') {i:Nat} {l:Lg} (e:ls[i]?=some l):∃ l',ls'[i]?=some l'/\l.1.Perm l'.1/\l.2.Perm l'.2:=by
 have hi:=(List.getElem?_eq_some_iff.mp e).1
 have hi':i < ls'.length:=by rw [<- h.1]; exact hi
 exact ⟨ls'[i],List.getElem?_eq_getElem hi',h.2 i _ _ e (List.getElem?_eq_getElem hi')⟩
theorem TrOk.perm {ls ls':List Lg} (h:PermL ls ls') {ts:List Int} {i:Nat} {xs:List (List Int)} (t:TrOk ls ts i xs):TrOk ls' ts i xs:=by
 refine ⟨t.1,t.2.1,fun j hj=>?_⟩
 obtain ⟨l,a,b,c,q1,q2,q3,q4,q5⟩:=t.2.2 j hj
 obtain ⟨l',e,p1,p2⟩:=h.get q1
 exact ⟨l',a,b,c,e,q2,q3,q4,q5.perm p1 p2⟩
theorem IsWo.perm {ls ls':List Lg} (h:PermL ls ls') {ts:List Int} {o:Wo} (t:IsWo ls ts o):IsWo ls' ts o:=by
 cases o with
 | «at» k =>
  obtain ⟨l,xs,a,e,t1,ea,no⟩:=t
  obtain ⟨l',e',p1,p2⟩:=h.get e
  exact ⟨l',xs,a,e',t1.perm h,ea,fun ns us g=>no ns us (g.perm p1.symm p2.symm)⟩
 | to xs =>
  have t:TrOk ls ts ls.length xs:=t
  show TrOk ls' ts ls'.length xs
  rw [<- h.1]
  exact t.perm h
structure Trl (N:Nat) (M:Mem) (t:Nat) (cs:List Nat) (xs:List (List Int)):Prop where
 ht:M[t]?=some (.lst (cs.map .cell))
 ln:cs.length=xs.length
 nd:cs.Nodup
 ge:∀ c∈cs,N<=c/\c≠t
 nt:N<=t
 get:∀ (i c:Nat) (x:List Int),cs[i]?=some c->xs[i]?=some x->M[c]?=some (.lst (x.map .int))
theorem Trl.pre {N:Nat} {M M':Mem} {t:Nat} {cs:List Nat} {xs:List (List Int)} (h:Trl N M t cs xs) (p:M<+:M'):Trl N M' t cs xs :=
 ⟨pre_get_ p h.ht,h.ln,h.nd,h.ge,h.nt,fun i c x e1 e2=>pre_get_ p (h.get i c x e1 e2)⟩
def WayOk (zs:List Fq) (way:List (Str×Str)) (ts:List Int):Prop:=way.length<=3/\(∀ w∈way,w.1∈zs.map (·.1)/\w.2∈zs.map (·.1))/\(∀ z∈zs,Free z.2.1/\Fits z.2.1)/\ts.length<=300
theorem LegsZ.ok {zs:List Fq} {way:List (Str×Str)} {ls:List Lg} {ts:List Int} (h:LegsZ zs way ls) (w:WayOk zs way ts):LgOk ls:=fun l hl=>by
 obtain ⟨i,hi,rfl⟩:=List.getElem_of_mem hl
 have hw:i < way.length:=by rw [<- h.1]; exact hi
 obtain ⟨⟨z1,m1,n1,s1⟩,z2,m2,n2,s2⟩:=h.2 i _ _ (List.getElem?_eq_getElem hw) (List.getElem?_eq_getElem hi)
 have g1:=w.2.2.1 z1 m1
 have g2:=w.2.2.1 z2 m2
 rw [s1] at g1
 rw [s2] at g2
 exact ⟨g1,g2⟩
def DueD (M:Mem) (o:Wo) (d:D):Prop:=match o with
 | .at k=>d=.lst [.str refS,.int k]
 | .to xs=>∃ es:List D,d=.lst es/\es.length=xs.length/\∀ (i:Nat) (e:D) (x:List Int),es[i]?=some e->xs[i]?=some x->lsOf M e=some (x.map .int)
theorem DueD.pre {M M':Mem} {o:Wo} {d:D} (h:DueD M o d) (p:M<+:M'):DueD M' o d:=by
 cases o with
 | «at» k=>exact h
 | to xs =>
  obtain ⟨es,e,l,g⟩:=h
  exact ⟨es,e,l,fun i e x e1 e2=>ls_pre p (g i e x e1 e2)⟩
theorem Legs.ok {qs:List Nt} {way:List (Str×Str)} {ls:List Lg} (h:Legs qs way ls) (w:NtOk qs):LgOk ls:=fun l hl=>by
 obtain ⟨i,hi,rfl⟩:=List.getElem_of_mem hl
 have hw:i < way.length:=by rw [<- h.1]; exact hi
 obtain ⟨g1,g2⟩:=h.2 i _ _ (List.getElem?_eq_getElem hw) (List.getElem?_eq_getElem hi)
 exact ⟨(w.2.2 _ g1).1,(w.2.2 _ g2).1⟩
def bk (ls:List Lg):List Lg:=(ls.map fun l=>(l.2,l.1)).reverse
section
variable {C:Cf} {Z:Anc} {to:TE} {ua uo:TE3} {t:TA} {u:TA3}
def rngTw (m:Nat):It3:=⟨m,fun i x=>x=.int (2 * i),fun _=>True⟩
theorem itt_r {I:Hp} {α:List Addr} {m:Nat}:ItR C Z I α (It2 m) (rngTw m):=fun I' α' H' M' s p R _=>⟨fun i hi=>⟨hi,fun x H2 y=>by
 obtain ⟨rfl,rfl⟩:=y
 exact ⟨I',_,.refl _,R,.int _,rfl⟩⟩,Nat.le_refl _⟩
def uIRT (ua:TA3):TI3:=fun ρ M K=>ua ρ M fun ds M1=>∃ m:Nat,ds=[.int 0,.int (2 * (m:Int)),.int 2]/\(m:Int) < 2 ^ 60/\K (rngTw m) M1
theorem s_irT (ha:SimA C Z t u):SimI C Z (iRngT t) (uIRT u):=fun I α σ H ρ M K R' R RE h k =>
 ha I α σ H ρ M _ _ R RE h fun vs ds I1 α1 H1 M1 s1 p1 R1 r1 h1=>by
  obtain ⟨m,rfl,h2,h1⟩:=h1
  cases r1 with
  | cons a b =>
   cases b with
   | cons b c =>
    cases c with
    | cons c d =>
     cases d
     cases a
     cases b
     cases c
     exact ⟨m,rfl,h2,k _ _ I1 α1 H1 M1 s1 p1 R1 itt_r h1⟩
def uStarts (uo:TE3) (u:TA3):TE3:=fun ρ M K=>uo ρ M fun d M1=>∃ z,d=.str z/\u ρ M1 fun ds M2=>∃ y:Str,ds=[.str y]/\K (.bl (Txt.startswith z y)) M2
theorem s_starts (ho:SimE C Z to uo) (ha:SimA C Z t u):SimE C Z (tBM C.k "str" rStarts to t) (uStarts uo u):=fun I α σ H ρ M K Q R E h k =>
 ho I α σ H ρ M _ _ R E h fun v d I1 α1 H1 M1 s1 p1 R1 r1 h1=>by
  obtain ⟨z,rfl,h1⟩:=h1
  cases r1
  refine ⟨rfl,ha I1 α1 σ H1 ρ M1 _ _ R1 (E.mono s1 p1) h1 fun ws ds I2 α2 H2 M2 s2 p2 R2 r2 h2=>?_⟩
  obtain ⟨y,rfl,h2⟩:=h2
  cases r2 with
  | cons ry rn =>
   cases rn
   cases ry
   exact ⟨z,y,rfl,rfl,k _ _ I2 α2 H2 M2 (s1.trans s2) (p1.trans p2) R2 (.bl _) h2⟩
def uIndexS (uo:TE3) (u:TA3):TE3:=fun ρ M K=>uo ρ M fun d M1=>∃ z,d=.str z/\u ρ M1 fun ds M2=>∃ (y:Str) (i:Nat) (rest:List Nat),ds=[.str y]/\Builtin.Str.occurrences z y 0 z.length 1=i::rest/\K (.int i) M2
theorem s_indexS (ho:SimE C Z to uo) (ha:SimA C Z t u):SimE C Z (tBM C.k "str" rIndexS to t) (uIndexS uo u):=fun I α σ H ρ M K Q R E h k =>
 ho I α σ H ρ M _ _ R E h fun v d I1 α1 H1 M1 s1 p1 R1 r1 h1=>by
  obtain ⟨z,rfl,h1⟩:=h1
  cases r1
  refine ⟨rfl,ha I1 α1 σ H1 ρ M1 _ _ R1 (E.mono s1 p1) h1 fun ws ds I2 α2 H2 M2 s2 p2 R2 r2 h2=>?_⟩
  obtain ⟨y,i,rest,rfl,e,h2⟩:=h2
  cases r2 with
  | cons ry rn =>
   cases rn
   cases ry
   exact ⟨z,y,i,rest,rfl,rfl,e,k _ _ I2 α2 H2 M2 (s1.trans s2) (p1.trans p2) R2 (.int _) h2⟩
def intS3:List D->Mem->K3->Prop:=fun ds M K=>∃ (z:Str) (n:Int),ds=[.str z]/\PySem.intText? z=some n/\z.length<=640/\K (.int n) M
theorem s_intS:SimC C Z (fun xs H Q=>∃ (z:Str) (n:Int),xs=[.str z]/\PySem.intText? z=some n/\z.length<=640/\Q (.int n) H) intS3:=fun I α H M xs ds K Q R r h k=>by
 obtain ⟨z,n,rfl,e,hl,h⟩:=h
 cases r with
 | cons r1 r2 =>
  cases r2
  cases r1
  exact ⟨z,n,rfl,e,hl,k _ _ I α H M (.refl _) (List.prefix_refl _) R (.int _) h⟩
def strOf3:List D->Mem->K3->Prop:=fun ds M K=>∃ i:Int,ds=[.int i]/\i.natAbs.log2 < 1920/\K (.str (Str.ofString (toString i))) M
theorem s_strOf:SimC C Z (fun xs H Q=>∃ i,xs=[.int i]/\i.natAbs.log2 < 1920/\Q (.str (Str.ofString (toString i))) H) strOf3:=fun I α H M xs ds K Q R r h k=>by
 obtain ⟨i,rfl,e,h⟩:=h
 cases r with
 | cons r1 r2 =>
  cases r2
  cases r1
  exact ⟨i,rfl,e,k _ _ I α H M (.refl _) (List.prefix_refl _) R (.str _) h⟩
def inZ3:R3:=fun d e M K=>∃ i j:Str,d=.str i/\e=.str j/\K (.bl (!(Builtin.Str.occurrences j i 0 j.length 1).isEmpty)) M
theorem s_inZ:SimR C Z (fun x y H Q=>∃ i j,x=.str i/\y=.str j/\Q (.bl (!(Builtin.Str.occurrences j i 0 j.length 1).isEmpty)) H) inZ3:=fun I α H M x y d e K Q R r1 r2 h k=>by
 obtain ⟨i,j,rfl,rfl,h⟩:=h
 cases r1
 cases r2
 exact ⟨i,j,rfl,rfl,k _ _ I α H M (.refl _) (List.prefix_refl _) R (.bl _) h⟩
end
def mkS (l:List Nat):Str:=⟨l.toArray⟩
theorem mk_len (l:List Nat):(mkS l).length=l.length:=List.size_toArray
theorem mk_inj {a b:List Nat} (h:mkS a=mkS b):a=b:=by
 unfold mkS at h
 injection h with h
 exact congrArg Array.toList h
theorem mk_cps (l:List Nat):(mkS l).cps.toList=l:=rfl
theorem mk_of (z:Str):z=mkS z.cps.toList:=rfl
theorem mk_app (a b:List Nat):mkS a++mkS b=mkS (a++b):=by
 show (⟨a.toArray++b.toArray⟩:Str)=_
 rw [List.append_toArray]
 rfl
theorem mk_sl {l:List Nat} {a b:Nat} (hab:a<=b) (hb:b<=l.length):Txt.slice (mkS l) (some (a:Int)) (some (b:Int))=mkS ((l.drop a).take (b - a)):=by
 unfold Txt.slice
 rw [StrLaws.sliced_plain (mkS l) hab (by rw [mk_len]; exact hb),StrLaws.strSliceIndices_plain hab (by rw [mk_len]; exact hb),List.length_map,List.length_range,mk_len,mk_cps]
 split
 ·next h =>
  have:b - a=l.length:=by simpa using h
  have e:a=0:=by omega
  subst e
  rw [List.drop_zero,List.take_of_length_le (by omega)]
 ·rfl
theorem mk_at {l:List Nat} {i c:Nat} (h:l[i]?=some c):L2.atI (mkS l).cps.toList (i:Int)=some c:=by
 rw [mk_cps]
 exact atI_nat h
theorem join_mk (sep:Str) (hs:sep=mkS []):∀ ys:List (List Nat),Txt.join sep (ys.map mkS)=mkS ys.flatten:=by
 intro ys
 show Builtin.Str.glued sep _=_
 rw [StrLaws.glued_eq_join]
 subst hs
 induction ys with
 | nil=>rfl
 | cons y r ih =>
  cases r with
  | nil=>simp [Str.join,mkS]
  | cons z r =>
   rw [List.map_cons,List.map_cons,Str.join]
   ·rw [<- List.map_cons,ih,mk_app,mk_app,List.append_nil]
    rfl
   ·simp
def shL:List (List Nat)->List Nat
 | []=>[]
 | p::ps=>p++ps.flatMap fun q=>46::q
theorem join_pt (ys:List (List Nat)):Txt.join (Str.ofString ".") (ys.map mkS)=mkS (shL ys):=by
 show Builtin.Str.glued _ _=_
 rw [StrLaws.glued_eq_join]
 have hp:Str.ofString "."=mkS [46]:=by decide +kernel
 rw [hp]
 induction ys with
 | nil=>rfl
 | cons y r ih =>
  cases r with
  | nil=>simp [Str.join,shL]
  | cons z r =>
   rw [List.map_cons,List.map_cons,Str.join]
   ·rw [<- List.map_cons,ih,mk_app,mk_app]
    simp [shL]
   ·simp
def hx (c:Nat):Nat:=if c < 10 then 48 + c else 87 + c
abbrev bfS:Str:=Str.ofString "0123456789abcdef"
abbrev fgS:Str:=Str.ofString "0123456789"
theorem bf_at {c:Nat} (h:c < 16):L2.atI bfS.cps.toList (c:Int)=some (hx c):=by
 have:∀ c:_root_.Fin 16,L2.atI bfS.cps.toList ((c.val:Nat):Int)=some (hx c.val):=by decide
 exact this ⟨c,h⟩
theorem hx_lt {c:Nat} (h:c < 16):hx c < 128:=by unfold hx; split <;> omega
def hx2 (b:Int):List Nat:=[hx (b / 16).toNat,hx (b % 16).toNat]
def shR (ns:List Int):List Nat:=if ns=[] then [45] else (ns.map hx2).flatten
def dgs (n:Nat):List Nat:=(Nat.toDigits 10 n).map Char.toNat
theorem dg_str {n:Int} (h:0<=n):Str.ofString (toString n)=mkS (dgs n.toNat):=by
 obtain ⟨m,rfl⟩:=Int.eq_ofNat_of_zero_le h
 rw [mk_of (Str.ofString _),W.KIN.signs_num]
 rfl
theorem dg_all (n:Nat):PySem.NumText.AllDigits (dgs n):=fun c hc=>by
 obtain ⟨ch,hch,e⟩:=List.mem_map.mp hc
 have r:=PyProof.Rows.digit_range (Nat.isDigit_of_mem_toDigits (by decide) (by decide) hch)
 rw [<- e]
 exact r
theorem dg_len {n:Nat} (h:n < 10 ^ 10):(dgs n).length<=10:=by
 have:=W.KT.len_num (n:=(n:Int)) (by omega) (by exact_mod_cast h)
 rwa [dg_str (by omega),mk_len] at this
def shO:Option Int->List Nat
 | none=>[63]
 | some n=>dgs n.toNat
def shE (es:List (Option Int)):List Nat:=if es=[] then [45] else shL (es.map shO)
def OkE (o:Option Int):Prop:=∀ n,o=some n->0<=n/\n<=1000000000
theorem sho_len {o:Option Int} (h:OkE o):(shO o).length<=10:=by
 cases o with
 | none=>decide
 | some n=>exact dg_len (by have:=(h n rfl).2; omega)
theorem sho_c (o:Option Int):∀ c∈shO o,c≠46/\c≠45/\c < 128:=by
 cases o with
 | none=>decide
 | some n=>intro c hc; have:=dg_all _ c hc; omega
theorem shl_c {ps:List (List Nat)} (h:∀ p∈ps,∀ c∈p,c < 128):∀ c∈shL ps,c < 128:=by
 cases ps with
 | nil=>exact fun c hc=>nomatch hc
 | cons p r =>
  intro c hc
  rcases List.mem_append.mp hc with hc | hc
  ·exact h p List.mem_cons_self c hc
  ·obtain ⟨q,hq,hc⟩:=List.mem_flatMap.mp hc
   rcases List.mem_cons.mp hc with e | hc
   ·omega
   ·exact h q (List.mem_cons_of_mem _ hq) c hc
theorem shl_len {ps:List (List Nat)} {m:Nat} (h:∀ p∈ps,p.length<=m):(shL ps).length<=(m + 1) * ps.length:=by
 have fm:∀ r:List (List Nat),(∀ p∈r,p.length<=m)->(r.flatMap fun q=>46::q).length<=(m + 1) * r.length:=by
  intro r
  induction r with
  | nil=>intro _; simp
  | cons p r ih =>
   intro h
   have h1:=h p List.mem_cons_self
   have h2:=ih fun q hq=>h q (List.mem_cons_of_mem _ hq)
   rw [List.flatMap_cons,List.length_append,List.length_cons,List.length_cons,Nat.mul_succ]
   omega
 cases ps with
 | nil=>simp [shL]
 | cons p r =>
  have h1:=h p List.mem_cons_self
  have h2:=fm r fun q hq=>h q (List.mem_cons_of_mem _ hq)
  rw [shL,List.length_append,List.length_cons,Nat.mul_succ]
  omega
def off:List (List Nat)->Nat->Nat
 | _,0=>0
 | [],_ + 1=>0
 | p::ps,k + 1=>p.length + 1 + off ps k
theorem sum_two (ns:List Int):(ns.map ((fun x:Str=>x.length) ∘ fun n=>mkS (hx2 n))).sum<=2 * ns.length:=by
 induction ns with
 | nil=>exact Nat.le_refl _
 | cons n r ih=>rw [List.map_cons,List.sum_cons,List.length_cons]; show (mkS (hx2 n)).length + _<=_; rw [mk_len]; show 2 + _<=_; omega
theorem sum_ten (es:List (Option Int)) (h:∀ e∈es,OkE e):(es.map ((fun x:Str=>x.length) ∘ fun o=>mkS (shO o))).sum<=10 * es.length:=by
 induction es with
 | nil=>exact Nat.le_refl _
 | cons n r ih =>
  have:=ih fun e he=>h e (List.mem_cons_of_mem _ he)
  have:=sho_len (h n List.mem_cons_self)
  rw [List.map_cons,List.sum_cons,List.length_cons]; show (mkS (shO n)).length + _<=_; rw [mk_len]; omega
theorem log_small {n:Int} (h0:0<=n) (h1:n<=1000000000):n.natAbs.log2 < 1920:=by
 rcases Nat.eq_zero_or_pos n.natAbs with e | e
 ·rw [e]; decide
 ·rw [Nat.log2_lt (by omega)]
  exact Nat.lt_of_lt_of_le (by omega:n.natAbs < 2 ^ 30) (Nat.pow_le_pow_right (by decide) (by decide))
def dTextOf:Sp3:=fun ds M K=>∃ (k:Nat) (m:Int) (b:Bool),ds=[.cell k,.int m,.bl b]/\M[k]?=some .hand/\(0<=m/\m<=1000)/\∀ es:List (Option Int),(∀ e∈es,OkE e)->(es.length:Int)<=m->(b=false->∀ e∈es,e≠none)->K (.cell M.length) (M++[.lst (es.map oD)])
theorem ifS_and {t1 t2:TT3} {a b:TS3} {E:Ends3} {ρ:Ev} {M:Mem} {c1 c2:Bool} (h1:∀ K:Bool->Mem->Prop,K c1 M->t1 ρ M K) (h2:c1=true->∀ K:Bool->Mem->Prop,K c2 M->t2 ρ M K) (h:if (c1 && c2)=true then a E ρ M else b E ρ M):uIfS (uAnd t1 t2) a b E ρ M:=by
 refine h1 _ ?_
 cases c1 with
 | false=>exact h
 | true=>exact h2 rfl _ h
theorem da_mk:Str.ofString "-"=mkS [45]:=by decide +kernel
theorem qu_mk:Str.ofString "?"=mkS [63]:=by decide +kernel
theorem shr_ne {ns:List Int} (h:ns≠[]):shR ns=(ns.map hx2).flatten:=if_neg h
theorem fl_len (ns:List Int):(ns.map hx2).flatten.length=2 * ns.length:=by
 induction ns with
 | nil=>rfl
 | cons n r ih=>rw [List.map_cons,List.flatten_cons,List.length_append,ih,List.length_cons]; show 2 + _=_; omega
theorem fl_c {ns:List Int} (h:∀ n∈ns,0<=n/\n < 256):∀ c∈(ns.map hx2).flatten,∃ i,i < 16/\c=hx i:=by
 intro c hc
 obtain ⟨l,hl,hc⟩:=List.mem_flatten.mp hc
 obtain ⟨n,hn,rfl⟩:=List.mem_map.mp hl
 have:=h n hn
 rcases List.mem_cons.mp hc with e | hc
 ·exact ⟨_,by omega,e⟩
 ·exact ⟨_,by omega,List.mem_singleton.mp hc⟩
theorem she_ne {es:List (Option Int)} (h:es≠[]):shE es=shL (es.map shO):=if_neg h
theorem she_len {es:List (Option Int)} (h:∀ e∈es,OkE e) (hl:es.length<=1000):(shE es).length<=20000:=by
 unfold shE
 split
 ·decide
 ·have:=shl_len (ps:=es.map shO) (m:=10) fun p hp=>by
   obtain ⟨o,ho,rfl⟩:=List.mem_map.mp hp
   exact sho_len (h o ho)
  rw [List.length_map] at this
  omega
def OkK (q:Int) (es:List (Option Int)):Prop:=(∀ e∈es,OkE e)/\es.length<=1000/\(q=0->∀ e∈es,∃ n,e=some n/\n < 256)/\(q=1->∀ e∈es,e≠none)
def shK (q:Int) (es:List (Option Int)):Str:=mkS (if q=0 then shR (es.map fun e=>e.getD 0) else shE es)
def dShown12:Sp3:=fun ds M K=>∃ (q:Int) (d:D) (es:List (Option Int)),ds=[.int q,d]/\lsOf M d=some (es.map oD)/\((0<=q/\q < 3)/\OkK q es)/\∀ M',M<+:M'->K (.str (shK q es)) M'
theorem ok_ints {es:List (Option Int)} (h:∀ e∈es,∃ n,e=some n/\n < 256):es.map oD=(es.map fun e=>e.getD 0).map .int:=by
 rw [List.map_map]
 refine List.map_congr_left fun e he=>?_
 obtain ⟨n,rfl,_⟩:=h e he
 rfl
section
variable {C:Cf} {Z:Anc}
def uTry3 (u1 u2 u3:X3->TS3) (uh:TH3):TS3:=fun E ρ M=>u1 (fun Ce fs M'=>uh Ce fs E ρ M') { E with nx:=fun ρ' M'=>u2 (fun Ce fs M2=>uh Ce fs E ρ' M2) { E with nx:=fun ρ2 M2=>u3 (fun Ce fs M3=>uh Ce fs E ρ2 M3) E ρ2 M2 } ρ' M' } ρ M
theorem s_try3 {t1 t2 t3:XK->TS} {th:TH} {u1 u2 u3:X3->TS3} {uh:TH3} (h1:∀ (E:XK) (kx:X3) (Z:Anc),Z.xe=E->Z.kx=kx->FinX C Z->SimS C Z (t1 E) (u1 kx)) (h2:∀ (E:XK) (kx:X3) (Z:Anc),Z.xe=E->Z.kx=kx->FinX C Z->SimS C Z (t2 E) (u2 kx)) (h3:∀ (E:XK) (kx:X3) (Z:Anc),Z.xe=E->Z.kx=kx->FinX C Z->SimS C Z (t3 E) (u3 kx)) (hh:SimH C Z th uh) :
  SimS C Z (tTryS (fun Ex D σ H=>t1 (Ex σ) { D with nx:=fun σ' H'=>t2 (Ex σ') { D with nx:=fun σ2 H2=>t3 (Ex σ2) D σ2 H2 } σ' H' } σ H) th) (uTry3 u1 u2 u3 uh):=fun I α σ H ρ M E D' R RE h F=>by
 have fx:∀ (I:Hp) (α:List Addr) (σ:St) (H:Hp) (ρ:Ev) (M:Mem),Rel C Z I α H M->RepE C I α σ ρ->FinD C Z I α E D'->FinX C ⟨I,α,fun cls d H'=>∃ C',cls=.ref C'/\∀ ea,H' ea=some (.ext (excP ea C' d))->th C' d ea D' σ H',fun Ce fs M'=>uh Ce fs E ρ M'⟩:=fun I α σ H ρ M R RE F=>by
  intro Ce d vs fs I' α' H' M' R' e f g
  refine ⟨Ce,rfl,fun ea hea=>?_⟩
  have R2:=R'.re R R'.ai R'.aa
  obtain ⟨I2,s2,R3,fl⟩:=R2.full
  exact hh I2 α' σ H' ρ M' E D' Ce d ea fs vs R3 (RE.mono (Same.trans R'.ai s2) R'.aa) (fl _ _ hea (R2.extOut hea)) (e.mono s2) (f.mono s2 (List.prefix_refl _)) g (F.mono (Same.trans R'.ai s2) R'.aa)
 refine h1 _ _ ⟨I,α,_,_⟩ rfl rfl (fx I α σ H ρ M R RE F) I α σ H ρ M _ _ (R.here _ _) RE h ⟨?_,(F.re R).rt,(F.re R).bk,(F.re R).ct⟩
 intro I1 α1 σ1 H1 ρ1 M1 s1 p1 R1 RE1 q1
 have R1':=R1.re R s1 p1
 have F1:=F.mono s1 p1
 refine h2 _ _ ⟨I1,α1,_,_⟩ rfl rfl (fx I1 α1 σ1 H1 ρ1 M1 R1' RE1 F1) I1 α1 σ1 H1 ρ1 M1 _ _ (R1'.here _ _) RE1 q1 ⟨?_,(F1.re R1').rt,(F1.re R1').bk,(F1.re R1').ct⟩
 intro I2 α2 σ2 H2 ρ2 M2 s2 p2 R2 RE2 q2
 have R2':=R2.re R1' s2 p2
 have F2:=F1.mono s2 p2
 exact h3 _ _ ⟨I2,α2,_,_⟩ rfl rfl (fx I2 α2 σ2 H2 ρ2 M2 R2' RE2 F2) I2 α2 σ2 H2 ρ2 M2 E D' (R2'.here _ _) RE2 q2 (F2.re R2')
end
end L3
namespace L3
open PySem L2 PySem.NumText
def isDg (c:Nat):Bool:=decide (48<=c/\c<=57)
theorem isDg_iff {c:Nat}:isDg c=true↔48<=c/\c<=57:=decide_eq_true_iff
def dig:Nat->List Nat->Nat×Nat
 | v,[]=>(0,v)
 | v,c::r=>if isDg c=true/\v≠0/\10 * v + (c - 48)<=1000000000 then ((dig (10 * v + (c - 48)) r).1 + 1,(dig (10 * v + (c - 48)) r).2) else (0,v)
def thing (b:Bool):List Nat->Option (Nat×Option Int)
 | []=>none
 | c::r=>if b=true/\c=63 then some (1,none) else if isDg c=true then some ((dig (c - 48) r).1 + 1,some ((dig (c - 48) r).2:Int)) else none
inductive WkL (b:Bool) (m:Nat):List Nat->List (Option Int)->Nat->Option (List (Option Int))->Nat->Prop
 | bad {l:List Nat} {es:List (Option Int)} {i:Nat} (h:thing b l=none):WkL b m l es i none i
 | fin {l:List Nat} {es:List (Option Int)} {i n:Nat} {o:Option Int} (h:thing b l=some (n,o)) (h2:l.drop n=[]):WkL b m l es i (some (es++[o])) 0
 | stop {l:List Nat} {es:List (Option Int)} {i n c:Nat} {o:Option Int} (h:thing b l=some (n,o)) (h2:(l.drop n)[0]?=some c) (h3:c≠46\/es.length + 1=m):WkL b m l es i none (i + n)
 | go {l:List Nat} {es:List (Option Int)} {i n p:Nat} {o:Option Int} {R:Option (List (Option Int))} (h:thing b l=some (n,o)) (h2:(l.drop n)[0]?=some 46) (h3:es.length + 1≠m) (h4:WkL b m (l.drop (n + 1)) (es++[o]) (i + n + 1) R p):WkL b m l es i R p
theorem WkL.uniq {b:Bool} {m:Nat} {l:List Nat} {es:List (Option Int)} {i:Nat} {R R':Option (List (Option Int))} {p p':Nat} (h:WkL b m l es i R p) (h':WkL b m l es i R' p'):R=R'/\p=p':=by
 induction h with
 | bad h =>
  cases h' with
  | bad _=>exact ⟨rfl,rfl⟩
  | fin g _=>rw [h] at g; cases g
  | stop g _ _=>rw [h] at g; cases g
  | go g _ _ _=>rw [h] at g; cases g
 | fin h h2 =>
  cases h' with
  | bad g=>rw [h] at g; cases g
  | fin g _=>rw [h] at g; cases g; exact ⟨rfl,rfl⟩
  | stop g g2 _=>rw [h] at g; cases g; rw [h2] at g2; cases g2
  | go g g2 _ _=>rw [h] at g; cases g; rw [h2] at g2; cases g2
 | stop h h2 h3 =>
  cases h' with
  | bad g=>rw [h] at g; cases g
  | fin g g2=>rw [h] at g; cases g; rw [g2] at h2; cases h2
  | stop g _ _=>rw [h] at g; cases g; exact ⟨rfl,rfl⟩
  | go g g2 g3 _=>rw [h] at g; cases g; rw [h2] at g2; cases g2; exact absurd rfl (h3.resolve_right g3)
 | go h h2 h3 h4 ih =>
  cases h' with
  | bad g=>rw [h] at g; cases g
  | fin g g2=>rw [h] at g; cases g; rw [g2] at h2; cases h2
  | stop g g2 g3=>rw [h] at g; cases g; rw [h2] at g2; cases g2; exact absurd rfl (g3.resolve_right h3)
  | go g _ _ g4=>rw [h] at g; cases g; exact ih g4
theorem dig_nil (v:Nat):dig v []=(0,v):=rfl
theorem dig_no {v:Nat} {l:List Nat} (h:∀ c r,l=c::r->¬ (isDg c=true/\v≠0/\10 * v + (c - 48)<=1000000000)):dig v l=(0,v):=by
 cases l with
 | nil=>rfl
 | cons c r=>rw [dig,if_neg (h c r rfl)]
theorem dig_yes {v c:Nat} {r:List Nat} (h:isDg c=true/\v≠0/\10 * v + (c - 48)<=1000000000):dig v (c::r)=((dig (10 * v + (c - 48)) r).1 + 1,(dig (10 * v + (c - 48)) r).2):=by rw [dig,if_pos h]
theorem dig_all:∀ (r:List Nat) (v:Nat),v<=1000000000->(dig v r).1<=r.length/\AllDigits (r.take (dig v r).1)/\(r.take (dig v r).1).foldl (fun a c=>a * 10 + (c - 48)) v=(dig v r).2/\v * 10 ^ (dig v r).1<=(dig v r).2/\(dig v r).2<=1000000000
 | [],v,hv=>by rw [dig_nil]; exact ⟨Nat.le_refl _,fun c h=>(nomatch h),rfl,by simp,hv⟩
 | c::r,v,hv=>by
  by_cases h:isDg c=true/\v≠0/\10 * v + (c - 48)<=1000000000
  ·obtain ⟨a1,a2,a3,a4,a5⟩:=dig_all r (10 * v + (c - 48)) h.2.2
   rw [dig_yes h]
   refine ⟨?_,?_,?_,?_,a5⟩
   ·simp only [List.length_cons]; omega
   ·intro x hx
    rcases List.mem_cons.mp hx with e | hx
    ·rw [e]; exact isDg_iff.mp h.1
    ·exact a2 x hx
   ·show (r.take _).foldl _ (v * 10 + (c - 48))=_
    rw [show v * 10 + (c - 48)=10 * v + (c - 48) by omega]
    exact a3
   ·refine Nat.le_trans ?_ a4
    rw [Nat.pow_succ,<- Nat.mul_assoc,Nat.mul_right_comm]
    exact Nat.mul_le_mul_right _ (by omega)
  ·rw [dig_no (fun c' r' e=>by cases e; exact h)]
   exact ⟨Nat.zero_le _,fun c h=>(nomatch h),rfl,by simp,hv⟩
theorem dig_ten {r:List Nat} {v:Nat} (hv:v<=1000000000):(dig v r).1<=9:=by
 by_cases h0:v=0
 ·rw [dig_no (fun c r' _ z=>z.2.1 h0)]; exact Nat.zero_le _
 ·obtain ⟨_,_,_,a4,a5⟩:=dig_all r v hv
  have h1:10 ^ (dig v r).1<=1000000000:=by
   refine Nat.le_trans ?_ (Nat.le_trans a4 a5)
   exact Nat.le_mul_of_pos_left _ (by omega)
  by_cases h9:(dig v r).1<=9
  ·exact h9
  ·have:10 ^ 10<=10 ^ (dig v r).1:=Nat.pow_le_pow_right (by decide) (by omega)
   omega
def PartO (p:List Nat) (o:Option Int):Prop:=(p=[63]/\o=none)\/(AllDigits p/\p≠[]/\p.length<=640/\o=some (digitsVal p:Int))
theorem thing_part {b:Bool} {l:List Nat} {n:Nat} {o:Option Int} (h:thing b l=some (n,o)):0 < n/\n<=l.length/\PartO (l.take n) o:=by
 cases l with
 | nil=>cases h
 | cons c r =>
  rw [thing] at h
  split at h
  ·next hc =>
   cases h
   exact ⟨by decide,by simp,.inl ⟨by rw [hc.2]; rfl,rfl⟩⟩
  ·split at h
   ·next _ hd =>
    have hd:=isDg_iff.mp hd
    obtain ⟨a1,a2,a3,_,_⟩:=dig_all r (c - 48) (by omega)
    have a6:=dig_ten (r:=r) (v:=c - 48) (by omega)
    cases h
    refine ⟨by omega,by simp only [List.length_cons]; omega,.inr ⟨?_,?_,?_,?_⟩⟩
    ·intro x hx
     rw [List.take_succ_cons] at hx
     rcases List.mem_cons.mp hx with e | hx
     ·rw [e]; exact hd
     ·exact a2 x hx
    ·rw [List.take_succ_cons]; exact fun z=>nomatch z
    ·rw [List.length_take]; omega
    ·rw [List.take_succ_cons,<- a3]
     show some (((r.take _).foldl _ (c - 48):Nat):Int)=some (((r.take _).foldl _ (0 * 10 + (c - 48)):Nat):Int)
     rw [show 0 * 10 + (c - 48)=c - 48 by omega]
   ·cases h
theorem dv_one {c:Nat}:digitsVal [c]=c - 48:=by show 0 * 10 + (c - 48)=_; omega
def hval (c:Nat):Int:=if 48<=c/\c<=57 then (c:Int) - 48 else if 97<=c/\c<=102 then (c:Int) - 87 else -1
theorem bf_find {c:Nat} (h:c < 128):Txt.find bfS (mkS [c])=hval c:=by
 have:∀ c:_root_.Fin 128,Txt.find bfS (mkS [c.val])=hval c.val:=by decide +kernel
 exact this ⟨c,h⟩
theorem bf_inG {c:Nat} (h:c < 128):(!(Builtin.Str.occurrences bfS (mkS [c]) 0 bfS.length 1).isEmpty)=decide (0<=hval c):=by
 have:∀ c:_root_.Fin 128,(!(Builtin.Str.occurrences bfS (mkS [c.val]) 0 bfS.length 1).isEmpty)=decide (0<=hval c.val):=by decide +kernel
 exact this ⟨c,h⟩
theorem bf_ixG {c:Nat} (h:c < 128) (h0:0<=hval c):Builtin.Str.occurrences bfS (mkS [c]) 0 bfS.length 1=[(hval c).toNat]:=by
 have:∀ c:_root_.Fin 128,0<=hval c.val->Builtin.Str.occurrences bfS (mkS [c.val]) 0 bfS.length 1=[(hval c.val).toNat]:=by decide +kernel
 exact this ⟨c,h⟩ h0
theorem fg_find {c:Nat} (h:c < 128):Txt.find fgS (mkS [c])=if isDg c=true then (c:Int) - 48 else -1:=by
 have:∀ c:_root_.Fin 128,Txt.find fgS (mkS [c.val])=if isDg c.val=true then (c.val:Int) - 48 else -1:=by decide +kernel
 exact this ⟨c,h⟩
theorem fg_inG {c:Nat} (h:c < 128):(!(Builtin.Str.occurrences fgS (mkS [c]) 0 fgS.length 1).isEmpty)=isDg c:=by
 have:∀ c:_root_.Fin 128,(!(Builtin.Str.occurrences fgS (mkS [c.val]) 0 fgS.length 1).isEmpty)=isDg c.val:=by decide +kernel
 exact this ⟨c,h⟩
theorem st_da {l:List Nat}:Txt.startswith (mkS l) (Str.ofString "-")=decide (l[0]?=some 45):=by
 unfold Txt.startswith
 have e1:(Str.ofString "-").length=1:=by decide +kernel
 have e2:(Str.ofString "-").cps.toList=[45]:=by decide +kernel
 rw [StrLaws.subAt_eq,mk_cps,mk_len,e1,e2,List.drop_zero]
 cases l with
 | nil=>rfl
 | cons c r =>
  show (decide (0 + 1<=r.length + 1) && ([c] == [45]))=decide (some c=some 45)
  rw [decide_eq_true (by omega),Bool.true_and,Bool.beq_eq_decide_eq,decide_eq_decide]
  constructor
  ·intro h; rw [(List.cons.inj h).1]
  ·intro h; rw [Option.some.inj h]
def OkL (l:List Nat):Prop:=(∀ c∈l,c < 128)/\l.length<=30000
def hxs (l:List Nat) (k:Nat):Int:=hval (l.getD k 0)
def Lead (l:List Nat) (h:Nat):Prop:=h<=1600/\h<=l.length/\(∀ k,k < h->0<=hxs l k)/\(h < 1600->h < l.length->hxs l h < 0)
theorem Lead.uniq {l:List Nat} {h h':Nat} (a:Lead l h) (b:Lead l h'):h=h':=by
 obtain ⟨a1,a2,a3,a4⟩:=a
 obtain ⟨b1,b2,b3,b4⟩:=b
 rcases Nat.lt_trichotomy h h' with z | z | z
 ·have:=b3 h z
  have:=a4 (by omega) (by omega)
  omega
 ·exact z
 ·have:=a3 h' z
  have:=b4 (by omega) (by omega)
  omega
def rowV (l:List Nat) (i:Nat):List Int:=(List.range ((i + 1) / 2)).map fun k=>16 * hxs l (2 * k) + if 2 * k + 1 < i then hxs l (2 * k + 1) else 0
inductive RowL (l:List Nat):Option (List (Option Int))->Nat->Prop
 | da (h:l=[45]):RowL l (some []) 0
 | one (h:l≠[45]) (h2:l[0]?=some 45):RowL l none 1
 | no {h:Nat} (h0:l[0]?≠some 45) (a:Lead l h) (h3:h=0\/h % 2=1\/h < l.length):RowL l none h
 | yes (h0:l[0]?≠some 45) (a:Lead l l.length) (h3:¬ (l.length=0\/l.length % 2=1)):RowL l (some ((rowV l l.length).map some)) 0
theorem RowL.uniq {l:List Nat} {R R':Option (List (Option Int))} {p p':Nat} (h:RowL l R p) (h':RowL l R' p'):R=R'/\p=p':=by
 cases h with
 | da e =>
  cases h' with
  | da _=>exact ⟨rfl,rfl⟩
  | one g _=>exact absurd e g
  | no g _ _=>rw [e] at g; exact absurd rfl g
  | yes g _ _=>rw [e] at g; exact absurd rfl g
 | one e e2 =>
  cases h' with
  | da g=>exact absurd g e
  | one _ _=>exact ⟨rfl,rfl⟩
  | no g _ _=>exact absurd e2 g
  | yes g _ _=>exact absurd e2 g
 | no e a e3 =>
  cases h' with
  | da g=>rw [g] at e; exact absurd rfl e
  | one _ g=>exact absurd g e
  | no _ b _=>exact ⟨rfl,a.uniq b⟩
  | yes _ b g3=>have:=a.uniq b; omega
 | yes e a e3 =>
  cases h' with
  | da g=>rw [g] at e; exact absurd rfl e
  | one _ g=>exact absurd g e
  | no _ b g3=>have:=a.uniq b; omega
  | yes _ _ _=>exact ⟨rfl,rfl⟩
def ShowL (q:Int) (l:List Nat) (R:Option (List (Option Int))) (p:Nat):Prop :=
 if q=0 then RowL l R p else (l=[45]/\R=some []/\p=0)\/(l≠[45]/\l[0]?=some 45/\R=none/\p=1)\/(l[0]?≠some 45/\WkL (decide (q=2)) (if q=1 then 200 else 800) l [] 0 R p)
theorem ShowL.uniq {q:Int} {l:List Nat} {R R':Option (List (Option Int))} {p p':Nat} (h:ShowL q l R p) (h':ShowL q l R' p'):R=R'/\p=p':=by
 unfold ShowL at h h'
 split at h
 ·next e=>rw [if_pos e] at h'; exact h.uniq h'
 ·next e =>
  rw [if_neg e] at h'
  rcases h with ⟨a,b,c⟩ | ⟨a,b,c,d⟩ | ⟨a,b⟩
  ·rcases h' with ⟨a',b',c'⟩ | ⟨a',_⟩ | ⟨a',_⟩
   ·exact ⟨b.trans b'.symm,c.trans c'.symm⟩
   ·exact absurd a a'
   ·rw [a] at a'; exact absurd rfl a'
  ·rcases h' with ⟨a',_⟩ | ⟨_,_,c',d'⟩ | ⟨a',_⟩
   ·exact absurd a' a
   ·exact ⟨c.trans c'.symm,d.trans d'.symm⟩
   ·exact absurd b a'
  ·rcases h' with ⟨a',_⟩ | ⟨_,b',_⟩ | ⟨_,b'⟩
   ·rw [a'] at a; exact absurd rfl a
   ·exact absurd b' a
   ·exact b.uniq b'
theorem mk_to {l:List Nat} {n:Nat} (h:n<=l.length):Txt.slice (mkS l) none (some (n:Int))=mkS (l.take n):=by
 have:=mk_sl (l:=l) (Nat.zero_le n) h
 rw [List.drop_zero,Nat.sub_zero] at this
 rw [<- this]
 unfold Txt.slice
 rw [idx_to]
theorem idx_from (a len:Nat):Builtin.Str.strSliceIndices (some (a:Int)) none 1 len=Builtin.Str.strSliceIndices (some ((min a len:Nat):Int)) (some (len:Int)) 1 len:=by
 unfold Builtin.Str.strSliceIndices
 have e1:max (0:Int) (min (a:Int) (len:Int))=((min a len:Nat):Int):=by omega
 have e2:max (0:Int) (min ((min a len:Nat):Int) (len:Int))=((min a len:Nat):Int):=by omega
 have e3:max (0:Int) (min (len:Int) (len:Int))=(len:Int):=by omega
 have h1:¬ ((a:Int) < 0):=by omega
 have h2:¬ (((min a len:Nat):Int) < 0):=by omega
 have h3:¬ ((len:Int) < 0):=by omega
 simp only [show ((1:Int) > 0)=True from by simp,if_true,h1,h2,h3,if_false,e1,e2,e3]
theorem mk_from {l:List Nat} (a:Nat):Txt.slice (mkS l) (some (a:Int)) none=mkS (l.drop a):=by
 have:=mk_sl (l:=l) (a:=min a l.length) (b:=l.length) (Nat.min_le_right _ _) (Nat.le_refl _)
 have ed:(l.drop (min a l.length)).take (l.length - min a l.length)=l.drop a:=by
  rw [List.take_of_length_le (by rw [List.length_drop]; exact Nat.le_refl _)]
  rcases Nat.le_total a l.length with h | h
  ·rw [Nat.min_eq_left h]
  ·rw [Nat.min_eq_right h,List.drop_length,List.drop_of_length_le h]
 rw [ed] at this
 rw [<- this]
 unfold Txt.slice
 rw [mk_len,idx_from]
def dRowBegG:Sp3:=fun ds M K=>∃ l:List Nat,ds=[.str (mkS l)]/\OkL l/\(l[0]?=some 45->K (.int 1) M)/\(l[0]?≠some 45->∀ h:Nat,Lead l h->K (.int h) M)
def dByteG:Sp3:=fun ds M K=>∃ a b:Nat,ds=[.str (mkS [a]),.str (mkS [b])]/\((a < 128/\b < 128)/\0<=hval a/\0<=hval b)/\K (.int (16 * hval a + hval b)) M
def dAns (XN:Addr) (M:Mem) (K:K3) (KX:X3) (R:Option (List (Option Int))) (p:Nat):Prop:=(∀ es,R=some es->K (.cell M.length) (M++[.lst (es.map oD)]))/\(R=none->∀ M',M<+:M'->KX XN [("at",.int p)] M')
def dReadRX (XN:Addr):Sp3X:=fun ds M K KX=>∃ l:List Nat,ds=[.str (mkS l)]/\OkL l/\∀ R p,RowL l R p->dAns XN M K KX R p
def dAreG:Sp3:=fun ds M K=>∃ p:List Nat,ds=[.str (mkS p)]/\(AllDigits p/\p≠[]/\p.length<=640)/\K (.bl (decide ((p.length=1\/p[0]?≠some 48)/\digitsVal p<=1000000000))) M
def dThEndG:Sp3:=fun ds M K=>∃ (l:List Nat) (i:Nat) (b:Bool),ds=[.str (mkS l),.int i,.bl b]/\(OkL l/\i<=l.length)/\(∀ n o,thing b (l.drop i)=some (n,o)->K (.int ((i + n:Nat):Int)) M)/\(thing b (l.drop i)=none->K (.int i) M)
def dThShownG:Sp3:=fun ds M K=>∃ (p:List Nat) (o:Option Int),ds=[.str (mkS p)]/\PartO p o/\K (oD o) M
def ShB (b:Bool) (m:Nat) (l:List Nat) (R:Option (List (Option Int))) (p:Nat):Prop:=(l=[45]/\R=some []/\p=0)\/(l≠[45]/\l[0]?=some 45/\R=none/\p=1)\/(l[0]?≠some 45/\WkL b m l [] 0 R p)
def dListedX (XN:Addr):Sp3X:=fun ds M K KX=>∃ (l:List Nat) (m:Nat) (b:Bool),ds=[.str (mkS l),.int m,.bl b]/\(OkL l/\0 < m/\m<=1000)/\∀ R p,ShB b m l R p->dAns XN M K KX R p
def dReadQX (q:Int) (XN:Addr):Sp3X:=fun ds M K KX=>∃ l:List Nat,ds=[.str (mkS l)]/\OkL l/\∀ R p,ShowL q l R p->dAns XN M K KX R p
def AnsD (M:Mem) (R:Option (List (Option Int))) (p:Nat) (x:D):Prop:=match R with
 | some es=>∃ c,x=.tup [.cell c,.int 0]/\M[c]?=some (.lst (es.map oD))/\es.length<=30000
 | none=>x=.tup [.non,.int p]
def dWalkR:Sp3:=fun ds M K=>∃ l:List Nat,ds=[.str (mkS l)]/\(OkL l/\l[0]?≠some 45)/\∀ R p M' x,RowL l R p->M<+:M'->AnsD M' R p x->K x M'
def dWalkL:Sp3:=fun ds M K=>∃ (l:List Nat) (m:Nat) (b:Bool),ds=[.str (mkS l),.int m,.bl b]/\(OkL l/\0 < m/\m<=1000)/\∀ R p M' x,WkL b m l [] 0 R p->M<+:M'->AnsD M' R p x->K x M'
def dDue13:Sp3:=fun ds M K=>∃ (q:Int) (l:List Nat),ds=[.int q,.str (mkS l)]/\((0<=q/\q < 3)/\OkL l)/\∀ R p M' x,ShowL q l R p->M<+:M'->AnsD M' R p x->K x M'
def dRight13:Sp3:=fun ds M K=>∃ (q:Int) (l:List Nat),ds=[.int q,.str (mkS l)]/\((0<=q/\q < 3)/\OkL l)/\∀ M',M<+:M'->K (.bl true) M'
def dAny13:Sp3:=fun ds M K=>∃ k:Nat,ds=[.cell k]/\M[k]?=some .hand/\∀ c:Nat,c < 128->K (.str (mkS [c])) M
def dSpoilt13:Sp3:=fun ds M K=>∃ (k:Nat) (l:List Nat),ds=[.cell k,.str (mkS l)]/\M[k]?=some .hand/\((∀ c∈l,c < 128)/\l.length<=20000)/\∀ l':List Nat,(∀ c∈l',c < 128)->l'.length<=20010->K (.str (mkS l')) M
theorem da_eq {l:List Nat}:decide (mkS l=Str.ofString "-")=decide (l=[45]):=by
 rw [da_mk,decide_eq_decide]
 exact ⟨mk_inj,fun h=>by rw [h]⟩
theorem gd {l:List Nat} {k:Nat} (h:k < l.length):l.getD k 0=l[k]:=by rw [List.getD_eq_getElem?_getD,List.getElem?_eq_getElem h]; rfl
theorem hx_le (c:Nat):-1<=hval c/\hval c<=15:=by unfold hval; split <;> (try split) <;> omega
end L3
namespace L3
open PySem L2
theorem or_by {t1 t2:TT3} {ρ:Ev} {M:Mem} {c1 c2:Bool} (h1:∀ K:Bool->Mem->Prop,K c1 M->t1 ρ M K) (h2:c1=false->∀ K:Bool->Mem->Prop,K c2 M->t2 ρ M K):∀ K:Bool->Mem->Prop,K (c1 || c2) M->uOr t1 t2 ρ M K:=fun K h=>by
 refine h1 _ ?_
 cases c1 with
 | false=>exact h2 rfl _ h
 | true=>exact h
theorem and_by {t1 t2:TT3} {ρ:Ev} {M:Mem} {c1 c2:Bool} (h1:∀ K:Bool->Mem->Prop,K c1 M->t1 ρ M K) (h2:c1=true->∀ K:Bool->Mem->Prop,K c2 M->t2 ρ M K):∀ K:Bool->Mem->Prop,K (c1 && c2) M->uAnd t1 t2 ρ M K:=fun K h=>by
 refine h1 _ ?_
 cases c1 with
 | false=>exact h
 | true=>exact h2 rfl _ h
theorem if_by {t:TT3} {a b:TS3} {E:Ends3} {ρ:Ev} {M:Mem} {c:Bool} (h:∀ K:Bool->Mem->Prop,K c M->t ρ M K) (k:if c=true then a E ρ M else b E ρ M):uIfS t a b E ρ M:=h _ k
end L3
namespace L3
open PySem L2 PySem.NumText
theorem zero_mk:Str.ofString "0"=mkS [48]:=by decide +kernel
theorem qu_eq {p:List Nat}:decide (mkS p=Str.ofString "?")=decide (p=[63]):=by
 rw [qu_mk,decide_eq_decide]
 exact ⟨mk_inj,fun h=>by rw [h]⟩
theorem dv_snoc (p:List Nat) (c:Nat):digitsVal (p++[c])=10 * digitsVal p + (c - 48):=by rw [digitsVal_snoc]; omega
theorem take_one {l:List Nat} {i j:Nat} (h:i + j < l.length):(l.drop i).take (j + 1)=(l.drop i).take j++[l[i + j]]:=by
 rw [List.take_succ_eq_append_getElem (by rw [List.length_drop]; omega),List.getElem_drop]
structure Begun (b:Bool) (l:List Nat) (i j:Nat):Prop where
 le:i + j<=l.length
 pos:0 < j
 all:AllDigits ((l.drop i).take j)
 vl:digitsVal ((l.drop i).take j)<=1000000000
 zr:(l.drop i)[0]?=some 48↔digitsVal ((l.drop i).take j)=0
 tn:j<=10
 th:thing b (l.drop i)=some (j + (dig (digitsVal ((l.drop i).take j)) (l.drop (i + j))).1,some ((dig (digitsVal ((l.drop i).take j)) (l.drop (i + j))).2:Int))
theorem Begun.one {b:Bool} {l:List Nat} {i:Nat} (h:i < l.length) (hd:isDg l[i]=true) (hq:¬ (b=true/\l[i]=63)):Begun b l i 1:=by
 have ed:l.drop i=l[i]::l.drop (i + 1):=List.drop_eq_getElem_cons h
 have e1:(l.drop i).take 1=[l[i]]:=by rw [ed]; rfl
 have hd':=isDg_iff.mp hd
 refine ⟨by omega,by decide,?_,?_,?_,by decide,?_⟩
 ·rw [e1]; intro c hc; rw [List.mem_singleton.mp hc]; exact hd'
 ·rw [e1,dv_one]; omega
 ·rw [e1,dv_one,ed]
  show some l[i]=some 48↔_
  constructor
  ·intro z; rw [Option.some.inj z]
  ·intro z; rw [show l[i]=48 by omega]
 ·rw [e1,dv_one,ed,thing,if_neg hq,if_pos hd,Nat.add_comm]
theorem Begun.next {b:Bool} {l:List Nat} {i j:Nat} (B:Begun b l i j) (h:i + j < l.length) (hd:isDg l[i + j]=true) (h0:digitsVal ((l.drop i).take j)≠0) (hv:10 * digitsVal ((l.drop i).take j) + (l[i + j] - 48)<=1000000000):Begun b l i (j + 1):=by
 have hd':=isDg_iff.mp hd
 have e1:=take_one h
 have ev:digitsVal ((l.drop i).take (j + 1))=10 * digitsVal ((l.drop i).take j) + (l[i + j] - 48):=by rw [e1,dv_snoc]
 have ed:l.drop (i + j)=l[i + j]::l.drop (i + (j + 1)):=List.drop_eq_getElem_cons h
 have th:=B.th
 rw [ed,dig_yes ⟨hd,h0,hv⟩,<- ev] at th
 refine ⟨by omega,by omega,?_,by rw [ev]; exact hv,?_,?_,?_⟩
 ·rw [e1]
  intro c hc
  rcases List.mem_append.mp hc with z | z
  ·exact B.all c z
  ·rw [List.mem_singleton.mp z]; exact hd'
 ·rw [ev]
  constructor
  ·intro z; exact absurd (B.zr.mp z) h0
  ·intro z; omega
 ·have p1:=B.th
  have p2:=(thing_part p1).2.1
  have:=dig_ten (r:=l.drop (i + j)) B.vl
  have pt:=(thing_part p1).2.2
  rw [ed,dig_yes ⟨hd,h0,hv⟩] at p1
  have hw:=dig_all ((l.drop i).tail) ((l.drop i).headD 0 - 48)
  have el:l.drop i=(l.drop i).headD 0::(l.drop i).tail:=by
   cases hz:l.drop i with
   | nil=>rw [hz] at p2; simp at p2; have:=B.pos; omega
   | cons c r=>rfl
  rw [el,thing] at p1
  split at p1
  ·exact nomatch (congrArg Prod.snd (Option.some.inj p1))
  ·split at p1
   ·next _ hdd =>
    have:=isDg_iff.mp hdd
    have t9:=dig_ten (r:=(l.drop i).tail) (v:=(l.drop i).headD 0 - 48) (by omega)
    have e:=congrArg Prod.fst (Option.some.inj p1)
    simp only at e
    omega
   ·cases p1
 ·rw [th,Nat.add_assoc,Nat.add_comm 1]
theorem Begun.stop {b:Bool} {l:List Nat} {i j:Nat} (B:Begun b l i j) (h:∀ (h:i + j < l.length),¬ (isDg l[i + j]=true/\digitsVal ((l.drop i).take j)≠0/\10 * digitsVal ((l.drop i).take j) + (l[i + j] - 48)<=1000000000)):thing b (l.drop i)=some (j,some (digitsVal ((l.drop i).take j):Int)):=by
 have:=B.th
 rw [dig_no (fun c r e=>?_)] at this
 ·exact this
 ·have hl:i + j < l.length:=by
   have:=congrArg List.length e
   rw [List.length_drop,List.length_cons] at this
   omega
  rw [List.drop_eq_getElem_cons hl] at e
  rw [<- (List.cons.inj e).1]
  exact h hl
theorem idx_clip (a b len:Nat):Builtin.Str.strSliceIndices (some (a:Int)) (some (b:Int)) 1 len=Builtin.Str.strSliceIndices (some ((min a len:Nat):Int)) (some ((min b len:Nat):Int)) 1 len:=by
 unfold Builtin.Str.strSliceIndices
 have e1:max (0:Int) (min (a:Int) (len:Int))=((min a len:Nat):Int):=by omega
 have e2:max (0:Int) (min ((min a len:Nat):Int) (len:Int))=((min a len:Nat):Int):=by omega
 have e3:max (0:Int) (min (b:Int) (len:Int))=((min b len:Nat):Int):=by omega
 have e4:max (0:Int) (min ((min b len:Nat):Int) (len:Int))=((min b len:Nat):Int):=by omega
 have h1:¬ ((a:Int) < 0):=by omega
 have h2:¬ (((min a len:Nat):Int) < 0):=by omega
 have h3:¬ ((b:Int) < 0):=by omega
 have h4:¬ (((min b len:Nat):Int) < 0):=by omega
 simp only [show ((1:Int) > 0)=True from by simp,if_true,h1,h2,h3,h4,if_false,e1,e2,e3,e4]
theorem mk_one {l:List Nat} {i:Nat} (h:i<=l.length):Txt.slice (mkS l) (some (i:Int)) (some ((i:Int) + 1))=mkS ((l.drop i).take 1):=by
 rw [show (i:Int) + 1=((i + 1:Nat):Int) by omega]
 rcases Nat.lt_or_ge i l.length with z | z
 ·rw [mk_sl (by omega) (by omega),Nat.add_sub_cancel_left]
 ·have:=mk_sl (l:=l) (a:=l.length) (b:=l.length) (Nat.le_refl _) (Nat.le_refl _)
  rw [List.drop_of_length_le z,List.take_nil]
  rw [Nat.sub_self,List.take_zero] at this
  rw [<- this]
  unfold Txt.slice
  rw [mk_len,idx_clip,idx_clip l.length l.length,Nat.min_eq_right z,Nat.min_eq_right (by omega:l.length<=i + 1),Nat.min_self]
theorem rowV_even (l:List Nat) (m:Nat):rowV l (2 * m + 1)=rowV l (2 * m)++[16 * hxs l (2 * m)]:=by
 unfold rowV
 rw [show (2 * m + 1 + 1) / 2=m + 1 by omega,show (2 * m + 1) / 2=m by omega,List.range_succ,List.map_append]
 congr 1
 ·refine List.map_congr_left fun k hk=>?_
  have:=List.mem_range.mp hk
  rw [if_pos (by omega),if_pos (by omega)]
 ·show [16 * hxs l (2 * m) + if 2 * m + 1 < 2 * m + 1 then _ else 0]=_
  rw [if_neg (by omega),Int.add_zero]
theorem rowV_odd (l:List Nat) (m:Nat):rowV l (2 * m + 1 + 1)=rowV l (2 * m)++[16 * hxs l (2 * m) + hxs l (2 * m + 1)]:=by
 unfold rowV
 rw [show (2 * m + 1 + 1 + 1) / 2=m + 1 by omega,show (2 * m + 1) / 2=m by omega,List.range_succ,List.map_append]
 congr 1
 ·refine List.map_congr_left fun k hk=>?_
  have:=List.mem_range.mp hk
  rw [if_pos (by omega),if_pos (by omega)]
 ·show [16 * hxs l (2 * m) + if 2 * m + 1 < 2 * m + 1 + 1 then hxs l (2 * m + 1) else 0]=_
  rw [if_pos (by omega)]
theorem rowV_len (l:List Nat) (i:Nat):(rowV l i).length=(i + 1) / 2:=by unfold rowV; rw [List.length_map,List.length_range]
theorem st_last {τ:Type} (xs:List τ) (x y:τ):(xs++[x]).set xs.length y=xs++[y]:=by
 rw [List.set_append_right _ _ (Nat.le_refl _),Nat.sub_self]
 rfl
theorem ixN_last {τ:Type} (xs:List τ) (x:τ):L2.ixN (xs++[x]).length (-1)=some xs.length:=by
 unfold L2.ixN
 rw [List.length_append]
 rw [if_neg (by decide),if_pos (by show -((xs.length + 1:Nat):Int)<=-1; omega)]
 show some ((-1 + ((xs.length + 1:Nat):Int)).toNat)=_
 congr 1
 omega
def WSt (b:Bool) (m:Nat) (l:List Nat):Bool->List (Option Int)->Nat->Prop
 | true,cs,i=>cs.length < m/\∀ R p,WkL b m (l.drop i) cs i R p->WkL b m l [] 0 R p
 | false,cs,i=>∃ (s:Nat) (es:List (Option Int)) (o:Option Int),cs=es++[o]/\s < i/\es.length < m/\(∀ R p,WkL b m (l.drop s) es s R p->WkL b m l [] 0 R p) /\
  ((o=none/\thing b (l.drop s)=some (i - s,none))\/∃ v:Nat,o=some (v:Int)/\thing b (l.drop s)=some (i - s + (dig v (l.drop i)).1,some ((dig v (l.drop i)).2:Int)))
section
variable {b:Bool} {m:Nat} {l:List Nat} {cs es:List (Option Int)} {i:Nat} {o:Option Int}
theorem WSt.quest (h:WSt b m l true cs i) (hi:i < l.length) (hb:b=true) (hq:l[i]=63):WSt b m l false (cs++[none]) (i + 1):=by
 refine ⟨i,cs,none,rfl,Nat.lt_succ_self _,h.1,h.2,.inl ⟨rfl,?_⟩⟩
 rw [List.drop_eq_getElem_cons hi,thing,if_pos ⟨hb,hq⟩,Nat.add_sub_cancel_left]
theorem WSt.digit (h:WSt b m l true cs i) (hi:i < l.length) (hq:¬ (b=true/\l[i]=63)) (hd:isDg l[i]=true):WSt b m l false (cs++[some ((l[i] - 48:Nat):Int)]) (i + 1):=by
 refine ⟨i,cs,_,rfl,Nat.lt_succ_self _,h.1,h.2,.inr ⟨l[i] - 48,rfl,?_⟩⟩
 rw [List.drop_eq_getElem_cons hi,thing,if_neg hq,if_pos hd,Nat.add_sub_cancel_left,Nat.add_comm]
theorem WSt.bad (h:WSt b m l true cs i) (hn:∀ hi:i < l.length,¬ (b=true/\l[i]=63)/\¬ isDg l[i]=true):WkL b m l [] 0 none i:=by
 refine h.2 _ _ (.bad ?_)
 rcases Nat.lt_or_ge i l.length with hi | hi
 ·rw [List.drop_eq_getElem_cons hi,thing,if_neg (hn hi).1,if_neg (hn hi).2]
 ·rw [List.drop_eq_nil_of_le hi]; rfl
theorem WSt.held (h:WSt b m l false (es++[o]) i) (hn:o≠none->∀ (v:Nat),o=some (v:Int)->dig v (l.drop i)=(0,v)):∃ s,s < i/\es.length < m/\(∀ R p,WkL b m (l.drop s) es s R p->WkL b m l [] 0 R p)/\thing b (l.drop s)=some (i - s,o):=by
 obtain ⟨s,es',o',e,hs,hl,hw,ht⟩:=h
 obtain ⟨e1,e2⟩:=List.append_inj' e rfl
 subst e1
 cases e2
 refine ⟨s,hs,hl,hw,?_⟩
 rcases ht with ⟨rfl,ht⟩ | ⟨v,rfl,ht⟩
 ·exact ht
 ·rw [ht,hn (fun z=>nomatch z) v rfl]; rfl
theorem drop_in {s:Nat} (hs:s < i):(l.drop s).drop (i - s)=l.drop i:=by rw [List.drop_drop,Nat.add_sub_cancel' (Nat.le_of_lt hs)]
theorem WSt.point (h:WSt b m l false (es++[o]) i) (hi:i < l.length) (hp:l[i]=46) (hm:es.length + 1 < m):WSt b m l true (es++[o]) (i + 1):=by
 obtain ⟨s,hs,hl,hw,ht⟩:=h.held fun _ v _=>dig_no fun c r e z=>by
  rw [List.drop_eq_getElem_cons hi] at e
  have:=isDg_iff.mp z.1
  rw [<- (List.cons.inj e).1] at this
  omega
 refine ⟨by rw [List.length_append]; exact hm,fun R p hh=>hw R p (.go ht ?_ (by omega) ?_)⟩
 ·rw [drop_in hs,List.drop_eq_getElem_cons hi,hp]; rfl
 ·rw [List.drop_drop,show s + (i - s + 1)=i + 1 by omega,show s + (i - s) + 1=i + 1 by omega]
  exact hh
theorem WSt.stop (h:WSt b m l false (es++[o]) i) (hi:i < l.length) (hc:∀ v:Nat,o=some (v:Int)->¬ (isDg l[i]=true/\v≠0/\10 * v + (l[i] - 48)<=1000000000)) (hm:l[i]≠46\/¬ es.length + 1 < m):WkL b m l [] 0 none i:=by
 obtain ⟨s,hs,hl,hw,ht⟩:=h.held fun _ v ev=>dig_no fun c r e=>by
  rw [List.drop_eq_getElem_cons hi] at e
  rw [<- (List.cons.inj e).1]
  exact hc v ev
 have:=hw none (s + (i - s)) (.stop (c:=l[i]) ht (by rw [drop_in hs,List.drop_eq_getElem_cons hi]; rfl) (by omega))
 rwa [show s + (i - s)=i by omega] at this
theorem WSt.fin (h:WSt b m l false (es++[o]) l.length):WkL b m l [] 0 (some (es++[o])) 0:=by
 obtain ⟨s,hs,hl,hw,ht⟩:=h.held fun _ v _=>by rw [List.drop_length]; rfl
 exact hw _ _ (.fin ht (by rw [drop_in hs,List.drop_length]))
theorem WSt.more {v:Nat} (h:WSt b m l false (es++[some (v:Int)]) i) (hi:i < l.length) (hd:isDg l[i]=true) (h0:v≠0) (hv:10 * v + (l[i] - 48)<=1000000000):WSt b m l false (es++[some ((10 * v + (l[i] - 48):Nat):Int)]) (i + 1):=by
 obtain ⟨s,es',o',e,hs,hl,hw,ht⟩:=h
 obtain ⟨e1,e2⟩:=List.append_inj' e rfl
 subst e1
 cases e2
 refine ⟨s,es,_,rfl,by omega,hl,hw,.inr ⟨_,rfl,?_⟩⟩
 rcases ht with ⟨z,_⟩ | ⟨v',ev,ht⟩
 ·cases z
 ·have ev:v=v':=by have:=Option.some.inj ev; omega
  subst ev
  rw [ht,List.drop_eq_getElem_cons hi,dig_yes ⟨hd,h0,hv⟩,show i + 1 - s=i - s + 1 by omega,Nat.add_assoc,Nat.add_comm 1]
theorem WSt.some_last (h:WSt b m l false cs i):∃ es o,cs=es++[o]/\es.length < m/\(∀ z,o=some z->∃ v:Nat,z=(v:Int)):=by
 obtain ⟨s,es,o,e,_,hl,_,ht⟩:=h
 refine ⟨es,o,e,hl,fun z hz=>?_⟩
 rcases ht with ⟨e,_⟩ | ⟨v,e,_⟩
 ·rw [e] at hz; cases hz
 ·rw [e] at hz; exact ⟨v,(Option.some.inj hz).symm⟩
end
end L3
namespace L3
open PySem L2
def dRead13:Sp3:=fun ds M K=>∃ (q:Int) (l:List Nat),ds=[.int q,.str (mkS l)]/\((0<=q/\q < 3)/\OkL l)/\∀ R p M' x,ShowL q l R p->M<+:M'->AnsD M' R p x->K x M'
theorem row_len {l:List Nat} (h:OkL l) {es:List (Option Int)} {p:Nat} (hr:RowL l (some es) p):es.length<=30000:=by
 cases hr with
 | da _=>exact Nat.zero_le _
 | yes _ _ _=>rw [List.length_map,rowV_len]; have:=h.2; omega
theorem wk_len {b:Bool} {m:Nat} {l:List Nat} {es:List (Option Int)} {i p:Nat} {R:Option (List (Option Int))} (h:WkL b m l es i R p) (hm:es.length < m):∀ cs,R=some cs->cs.length<=m:=by
 induction h with
 | bad _=>exact fun _ z=>nomatch z
 | fin _ _=>intro cs e; cases e; rw [List.length_append]; exact hm
 | stop _ _ _=>exact fun _ z=>nomatch z
 | go _ _ h3 _ ih=>exact ih (by rw [List.length_append]; show _ + 1 < m; omega)
theorem sb_len {b:Bool} {m:Nat} {l:List Nat} (hm:0 < m/\m<=1000) {es:List (Option Int)} {p:Nat} (h:ShB b m l (some es) p):es.length<=30000:=by
 rcases h with ⟨_,e,_⟩ | ⟨_,_,e,_⟩ | ⟨_,hw⟩
 ·cases e; exact Nat.zero_le _
 ·cases e
 ·have:=wk_len hw hm.1 es rfl; omega
theorem str_at {z:Str} (h:z.cps.toList.all (fun c=>decide (c < 128))=true) {i:Int} (h0:0<=i) (h1:i < z.length):∃ c,c < 128/\L2.atI z.cps.toList i=some c:=by
 obtain ⟨n,rfl⟩:=Int.eq_ofNat_of_zero_le h0
 have hn:n < z.cps.toList.length:=by have:z.cps.toList.length=z.length:=Array.length_toList; omega
 exact ⟨z.cps.toList[n],of_decide_eq_true (List.all_eq_true.mp h _ (List.getElem_mem hn)),atI_nat (List.getElem?_eq_getElem hn)⟩
theorem okk_line {q:Int} {es:List (Option Int)} (h:OkK q es):∃ l,shK q es=mkS l/\(∀ c∈l,c < 128)/\l.length<=20000:=by
 obtain ⟨oe,hl,o0,o1⟩:=h
 refine ⟨_,rfl,?_⟩
 split
 ·next hq =>
  have oi:=o0 hq
  unfold shR
  split
  ·exact ⟨by decide,by decide⟩
  ·refine ⟨fun c hc=>?_,by rw [fl_len,List.length_map]; omega⟩
   obtain ⟨i,hi,rfl⟩:=fl_c (fun n hn=>by
    obtain ⟨e,he,rfl⟩:=List.mem_map.mp hn
    obtain ⟨n,rfl,h2⟩:=oi e he
    exact ⟨(oe _ he n rfl).1,h2⟩) c hc
   exact hx_lt hi
 ·refine ⟨?_,she_len oe hl⟩
  unfold shE
  split
  ·decide
  ·refine shl_c fun p hp c hc=>?_
   obtain ⟨o,_,rfl⟩:=List.mem_map.mp hp
   exact (sho_c o c hc).2.2
end L3
namespace K13
open PySem L2
def top (i:Nat):Stmt:=PySem.Challenge.pw_skewread_k13_lines_amiss.main.body.getD i (.Pass ⟨0,0,0,0⟩)
abbrev s__law_draw:Stmt:=top 28
theorem sc__law_draw:FnScope ["_law_hand", "_law_many", "_law_got", "_law_cell", "_law_number"] ["_law_hand", "_law_many"] (defScope s__law_draw):=⟨rfl,rfl,rfl,by decide +kernel,rfl,by decide +kernel,by decide +kernel⟩
abbrev s__law_open:Stmt:=top 27
theorem sc__law_open:FnScope ["_law_script", "_law_place", "_law_cells", "_law_at", "_law_digits"] ["_law_script", "_law_place"] (defScope s__law_open):=⟨rfl,rfl,rfl,by decide +kernel,rfl,by decide +kernel,by decide +kernel⟩
abbrev s_NoShown___init__:Stmt:=inClass (top 2) 0
theorem sc_NoShown___init__:FnScope ["self", "at"] ["self", "at"] (defScope s_NoShown___init__):=⟨rfl,rfl,rfl,by decide +kernel,rfl,by decide +kernel,by decide +kernel⟩
abbrev s__law_text_of:Stmt:=top 29
theorem sc__law_text_of:FnScope ["_law_hand", "_law_most", "_law_holes", "_law_entries", "_law_k", "_law_way"] ["_law_hand", "_law_most", "_law_holes"] (defScope s__law_text_of):=⟨rfl,rfl,rfl,by decide +kernel,rfl,by decide +kernel,by decide +kernel⟩
abbrev s__law_shown:Stmt:=top 30
theorem sc__law_shown:FnScope ["_law_kind", "_law_some", "_law_digits", "_law_parts", "_law_one"] ["_law_kind", "_law_some"] (defScope s__law_shown):=⟨rfl,rfl,rfl,by decide +kernel,rfl,by decide +kernel,by decide +kernel⟩
abbrev s_row_beginning:Stmt:=top 18
theorem sc_row_beginning:FnScope ["line", "most", "at"] ["line"] (defScope s_row_beginning):=⟨rfl,rfl,rfl,by decide +kernel,rfl,by decide +kernel,by decide +kernel⟩
abbrev s_byte_shown:Stmt:=top 19
theorem sc_byte_shown:FnScope ["higher", "lower"] ["higher", "lower"] (defScope s_byte_shown):=⟨rfl,rfl,rfl,by decide +kernel,rfl,by decide +kernel,by decide +kernel⟩
abbrev s_read_row:Stmt:=top 17
theorem sc_read_row:FnScope ["line", "at"] ["line"] (defScope s_read_row):=⟨rfl,rfl,rfl,by decide +kernel,rfl,by decide +kernel,by decide +kernel⟩
abbrev s_are_sign:Stmt:=top 24
theorem sc_are_sign:FnScope ["figures"] ["figures"] (defScope s_are_sign):=⟨rfl,rfl,rfl,by decide +kernel,rfl,by decide +kernel,by decide +kernel⟩
abbrev s_thing_end:Stmt:=top 23
theorem sc_thing_end:FnScope ["line", "start", "with_lost", "end"] ["line", "start", "with_lost"] (defScope s_thing_end):=⟨rfl,rfl,rfl,by decide +kernel,rfl,by decide +kernel,by decide +kernel⟩
abbrev s_thing_shown:Stmt:=top 25
theorem sc_thing_shown:FnScope ["part"] ["part"] (defScope s_thing_shown):=⟨rfl,rfl,rfl,by decide +kernel,rfl,by decide +kernel,by decide +kernel⟩
abbrev s_read_listed:Stmt:=top 22
theorem sc_read_listed:FnScope ["line", "most", "with_lost", "things", "start", "end"] ["line", "most", "with_lost"] (defScope s_read_listed):=⟨rfl,rfl,rfl,by decide +kernel,rfl,by decide +kernel,by decide +kernel⟩
abbrev s_read_text:Stmt:=top 20
theorem sc_read_text:FnScope ["line"] ["line"] (defScope s_read_text):=⟨rfl,rfl,rfl,by decide +kernel,rfl,by decide +kernel,by decide +kernel⟩
abbrev s_read_entries:Stmt:=top 21
theorem sc_read_entries:FnScope ["line"] ["line"] (defScope s_read_entries):=⟨rfl,rfl,rfl,by decide +kernel,rfl,by decide +kernel,by decide +kernel⟩
abbrev s__law_row_walk:Stmt:=top 33
theorem sc__law_row_walk:FnScope ["_law_line", "_law_row", "_law_at", "_law_digit"] ["_law_line"] (defScope s__law_row_walk):=⟨rfl,rfl,rfl,by decide +kernel,rfl,by decide +kernel,by decide +kernel⟩
abbrev s__law_walk:Stmt:=top 34
theorem sc__law_walk:FnScope ["_law_line", "_law_most", "_law_holes", "_law_entries", "_law_fresh", "_law_at", "_law_sign", "_law_digit"] ["_law_line", "_law_most", "_law_holes"] (defScope s__law_walk):=⟨rfl,rfl,rfl,by decide +kernel,rfl,by decide +kernel,by decide +kernel⟩
abbrev s__law_due:Stmt:=top 35
theorem sc__law_due:FnScope ["_law_kind", "_law_line"] ["_law_kind", "_law_line"] (defScope s__law_due):=⟨rfl,rfl,rfl,by decide +kernel,rfl,by decide +kernel,by decide +kernel⟩
abbrev s__law_read:Stmt:=top 36
theorem sc__law_read:FnScope ["_law_kind", "_law_line", "e"] ["_law_kind", "_law_line"] (defScope s__law_read):=⟨rfl,rfl,rfl,by decide +kernel,rfl,by decide +kernel,by decide +kernel⟩
abbrev s__law_right:Stmt:=top 37
theorem sc__law_right:FnScope ["_law_kind", "_law_line", "_law_found", "_law_at", "_law_due_here", "_law_place"] ["_law_kind", "_law_line"] (defScope s__law_right):=⟨rfl,rfl,rfl,by decide +kernel,rfl,by decide +kernel,by decide +kernel⟩
abbrev s__law_any_sign:Stmt:=top 31
theorem sc__law_any_sign:FnScope ["_law_hand", "_law_signs"] ["_law_hand"] (defScope s__law_any_sign):=⟨rfl,rfl,rfl,by decide +kernel,rfl,by decide +kernel,by decide +kernel⟩
abbrev s__law_spoilt:Stmt:=top 32
theorem sc__law_spoilt:FnScope ["_law_hand", "_law_line", "_law_k", "_law_at", "_law_sign", "_law_way"] ["_law_hand", "_law_line"] (defScope s__law_spoilt):=⟨rfl,rfl,rfl,by decide +kernel,rfl,by decide +kernel,by decide +kernel⟩
abbrev s_law:Stmt:=top 38
theorem sc_law:FnScope ["_law_script", "_law_place", "_law_hand", "_law_kind", "_law_some", "_law_line", "_law_last", "_law_k"] ["_law_script"] (defScope s_law):=⟨rfl,rfl,rfl,by decide +kernel,rfl,by decide +kernel,by decide +kernel⟩
structure Txt (mg:Str->Option Value):Prop where
 b_len:mg "len"=none
 b_abs:mg "abs"=none
 b_max:mg "max"=none
 b_min:mg "min"=none
 b_isinstance:mg "isinstance"=none
 b_any:mg "any"=none
 b_range:mg "range"=none
 b_int:mg "int"=none
 b_str:mg "str"=none
 b_bool:mg "bool"=none
 b_list:mg "list"=none
 b_ValueError:mg "ValueError"=none
 g_GREATEST_SIGN:∃ u,mg "GREATEST_SIGN"=some u/\RelV (.int 1000000000) u
 g_MOST_BYTES:∃ u,mg "MOST_BYTES"=some u/\RelV (.int 800) u
 g_MOST_SIGNS:∃ u,mg "MOST_SIGNS"=some u/\RelV (.int 200) u
 g_MOST_ENTRIES:∃ u,mg "MOST_ENTRIES"=some u/\RelV (.int 800) u
 g_FIGURES:∃ u,mg "FIGURES"=some u/\RelV (.str (Str.ofString "0123456789")) u
 g_BYTE_FIGURES:∃ u,mg "BYTE_FIGURES"=some u/\RelV (.str (Str.ofString "0123456789abcdef")) u
 g_NONE_LINE:∃ u,mg "NONE_LINE"=some u/\RelV (.str (Str.ofString "-")) u
 g_LOST_LINE:∃ u,mg "LOST_LINE"=some u/\RelV (.str (Str.ofString "?")) u
section
variable {P:Program} {w:World} {K:W.Frag} {mg:Str->Option Value} {base:Heap}
theorem ok__law_draw (T:Txt mg) {f:Addr} {fd:FuncData} (F:Fun K "_law_draw" "_law_draw" s__law_draw f fd):FnOk P w K mg base CX0 1 f fd ["_law_hand", "_law_many"] spDraw:=by
 refine F.ok sc__law_draw (fun vs H Q E h=>?_) (fun cdv A outer s H vs Q E hr h=>?_)
 ·obtain ⟨p,a,n,rfl,_⟩:=h
  rfl
 ·obtain ⟨p,a,n,rfl,hh,hn0,hn1,k⟩:=h
  obtain ⟨d,i,cs,e1,e2,hne,hlen,hd,hi,hc⟩:=hh.ex
  have npa:p≠a:=hh.ne
  have SC:=sc__law_draw
  have fin:∀ (r d' i':Int),0<=r->r < n->0<=d'->0<=i'->Q (.int r) (upd H p (.lst [.int d',.int i',.ref a])):=fun r d' i' h1 h2 h3 h4 =>
   k r _ h1 h2 ⟨d',i',cs,upd_same,by rw [upd_ne npa.symm]; exact e2,hne,hlen,h3,h4,hc⟩ (fun b o e nb=>by rw [upd_ne nb]; exact e) fun b nb=>by rw [upd_ne nb]
  refine ⟨_,(pss_cons (ps_if (pt_cmpR op_gt (pe_ix ix_list (pv 0) pe_int (fun _ _=>rfl)) pe_int (nomark _))
 (pss_cons (ps_set (i:=2) SC.nd rfl (Or.inl rfl) (pe_op op_mod (pe_ix ix_list (pv 0) pe_int (fun _ _=>rfl)) (pv 1)))
 (pss_cons (ps_asg (pe_op op_fdiv (pe_ix ix_list (pv 0) pe_int (fun _ _=>rfl)) (pv 1)) (pg_sub (pv 0) pe_int set_list))
 (pss_one (ps_ret (pv 2)))))
 pss_nil)
 (pss_cons (ps_augS (pv 0) pe_int pget_list pe_int ip_add set_list)
 (pss_cons (ps_set (i:=3) SC.nd rfl (Or.inl rfl) (pe_op op_mod (pe_ix ix_list (pe_ix ix_list (pv 0) pe_int (fun _ _=>rfl)) (pe_op op_mod (pe_ix ix_list (pv 0) pe_int (fun _ _=>rfl)) (pe_callB call_len (by rfl) T.b_len PySem.boot_len (pa_cons (pe_ix ix_list (pv 0) pe_int (fun _ _=>rfl)) pa_nil))) (fun _ _=>rfl)) pe_int))
 (pss_cons (ps_set (i:=4) SC.nd rfl (Or.inl rfl) (pe_op op_mod (pe_op op_add (pe_op op_add (pe_op op_mul (pv 3) pe_int) (pe_op op_mul (pe_ix ix_list (pv 0) pe_int (fun _ _=>rfl)) pe_int)) pe_int) pe_int))
 (pss_cons (ps_set (i:=4) SC.nd rfl (Or.inl rfl) (pe_op op_mod (pe_op op_add (pe_op op_mul (pv 4) (pv 4)) (pe_ix ix_list (pv 0) pe_int (fun _ _=>rfl))) pe_int))
 (pss_cons (ps_set (i:=4) SC.nd rfl (Or.inl rfl) (pe_op op_mod (pe_op op_add (pe_op op_mul (pv 4) pe_int) pe_int) pe_int))
 (pss_one (ps_ret (pe_op op_mod (pe_op op_fdiv (pe_op op_mod (pe_op op_mul (pv 4) (pv 4)) pe_int) pe_int) (pv 1)))))))))),?_⟩
  refine ⟨_,rfl,p,_,_,_,rfl,rfl,SqL.of e1,rfl,_,_,rfl,rfl,_,rfl,?_⟩
  refine ite2 (fun h0=>?_) (fun h0=>?_)
  ·refine ⟨_,rfl,p,_,_,_,rfl,rfl,SqL.of e1,rfl,_,rfl,_,_,rfl,rfl,hn0,?_⟩
   refine ⟨_,rfl,p,_,_,_,rfl,rfl,SqL.of e1,rfl,_,rfl,_,_,rfl,rfl,⟨hn0,hn1⟩,_,rfl,p,_,_,0,rfl,rfl,e1,rfl,?_⟩
   refine ⟨_,rfl,?_⟩
   exact fin _ _ _ (Int.emod_nonneg _ (by omega)) (Int.emod_lt_of_pos _ hn0) (Int.ediv_nonneg hd (by omega)) hi
  ·have e1':(upd H p (.lst [.int d,.int (i + 1),.ref a])) p=some (.lst [.int d,.int (i + 1),.ref a]):=upd_same
   have e2':(upd H p (.lst [.int d,.int (i + 1),.ref a])) a=some (.lst (cs.map V.int)):=by rw [upd_ne npa.symm]; exact e2
   obtain ⟨c,hc1,hc2⟩:=at_rest hne (i + 1)
   have hlp:(0:Int) < (((cs.map V.int).length:Nat):Int):=by
    rw [List.length_map]
    have:=List.length_pos_iff.mpr hne
    omega
   refine ⟨_,rfl,p,_,1,_,rfl,rfl,SqL.of e1,rfl,_,_,rfl,rfl,p,_,_,1,rfl,rfl,e1,rfl,?_⟩
   refine ⟨_,rfl,p,_,_,_,rfl,rfl,SqL.of e1',rfl,_,rfl,p,_,_,_,rfl,rfl,SqL.of e1',rfl,_,rfl,p,_,_,_,rfl,rfl,SqL.of e1',rfl,_,_,rfl,.inl ⟨_,SqL.of e2',rfl⟩,_,_,rfl,rfl,hlp,
    a,_,_,_,rfl,rfl,SqL.of e2',hc2,_,_,rfl,rfl,(by show (0:Int) < _; decide),?_⟩
   refine ⟨_,rfl,_,_,rfl,rfl,.inr ⟨by decide,by decide⟩,_,rfl,p,_,_,_,rfl,rfl,SqL.of e1',rfl,_,_,rfl,rfl,.inr ⟨by decide,by decide⟩,_,_,rfl,rfl,_,_,rfl,rfl,_,_,rfl,rfl,(by show (0:Int) < _; decide),?_⟩
   generalize hx:(c % 2147483647 * 48271 + (i + 1) * 7368787 + 11) % 998244353=x
   have x0:0<=x:=by rw [<- hx]; exact Int.emod_nonneg _ (by decide)
   have x1:x < 998244353:=by rw [<- hx]; exact Int.emod_lt_of_pos _ (by decide)
   refine ⟨_,rfl,_,rfl,_,_,rfl,rfl,.inl ⟨by omega,by omega⟩,_,rfl,p,_,_,_,rfl,rfl,SqL.of e1',rfl,_,_,rfl,rfl,_,_,rfl,rfl,(by show (0:Int) < _; decide),?_⟩
   generalize hy:(x * x + (i + 1)) % 998244353=y
   refine ⟨_,rfl,_,_,rfl,rfl,.inr ⟨by decide,by decide⟩,_,_,rfl,rfl,_,_,rfl,rfl,(by show (0:Int) < _; decide),?_⟩
   generalize hz:(y * 40503203 + 12345) % 2147483647=z
   have z0:0<=z:=by rw [<- hz]; exact Int.emod_nonneg _ (by decide)
   have z1:z < 2147483647:=by rw [<- hz]; exact Int.emod_lt_of_pos _ (by decide)
   refine ⟨_,rfl,_,rfl,_,_,rfl,rfl,.inl ⟨by omega,by omega⟩,_,_,rfl,rfl,(by show (0:Int) < _; decide),_,_,rfl,rfl,⟨by decide,by decide⟩,_,rfl,_,_,rfl,rfl,hn0,?_⟩
   exact fin _ _ _ (Int.emod_nonneg _ (by omega)) (Int.emod_lt_of_pos _ hn0) hd (by show 0<=i + 1; omega)
theorem ok__law_open (T:Txt mg) {f:Addr} {fd:FuncData} (F:Fun K "_law_open" "_law_open" s__law_open f fd):FnOk P w K mg base CX0 1 f fd ["_law_script", "_law_place"] (spOpen K):=by
 refine F.ok sc__law_open (fun vs H Q E h=>?_) (fun cdv A outer s H vs Q E hr h=>?_)
 ·obtain ⟨s,ns,i,rfl,_⟩:=h
  rfl
 ·obtain ⟨s0,ns,i,rfl,hS,hlen,hi0,hi1,k⟩:=h
  have SC:=sc__law_open
  have hu:=hr.units
  refine ⟨_,(pss_cons (ps_comp (i:=2) SC.nd rfl rfl (T:=["_law_cell"]) (cs:=[]) rfl (CScope.ok (by kernel_rfl)) (pi_list (pe_slice sl_list (pv 0) po_none (po_some pe_int))) (fun _ _ _ _=>(pg_name (i:=0) (nd_of (by kernel_rfl)) rfl (Or.inl rfl) (Or.inr rfl))) (fun _ _ _ _=>pts_nil) (fun _ _ _ _=>(pe_callB call_abs (by rfl) T.b_abs PyProof.Rows.boot_abs (pa_cons (pv 0) pa_nil))) (gk_name (by decide)))
 (pss_cons (ps_if (pt_cmpR (op_eqD hu) (pv 2) (pe_lst pa_nil) (nomark _))
 (pss_one (ps_set (i:=2) SC.nd rfl (Or.inl rfl) (pe_lst (pa_cons pe_int pa_nil))))
 pss_nil)
 (pss_cons (ps_set (i:=3) SC.nd rfl (Or.inl rfl) (pe_op op_mod (pv 1) (pe_callB call_len (by rfl) T.b_len PySem.boot_len (pa_cons (pv 2) pa_nil))))
 (pss_cons (ps_set (i:=4) SC.nd rfl (Or.inl rfl) pe_int)
 (pss_cons (ps_if (PW.pt (pw_and (pt_cmpR op_ge (pe_ix ix_list (pv 2) (pv 3) (fun _ _=>rfl)) (pe_op op_pow pe_int pe_int) (nomark _)) (pw_and1 (pt_cmpR op_lt (pv 1) (pe_callB call_len (by rfl) T.b_len PySem.boot_len (pa_cons (pv 2) pa_nil)) (nomark _)))))
 (pss_one (ps_set (i:=4) SC.nd rfl (Or.inl rfl) (pe_ix ix_list (pv 2) (pv 3) (fun _ _=>rfl))))
 pss_nil)
 (pss_one (ps_ret (pe_lst (pa_cons (pv 4) (pa_cons (pe_op op_add pe_int (pe_op op_mul pe_int (pv 1))) (pa_cons (pe_op op_cat (pe_slice sl_list (pv 2) (po_some (pv 3)) po_none) (pe_slice sl_list (pv 2) po_none (po_some (pv 3)))) pa_nil))))))))))),?_⟩
  obtain ⟨ms,ems,lms,_⟩:=cut_ints ns none (some 63)
  refine ⟨_,rfl,_,rfl,s0,_,rfl,hS,fun q hq=>⟨q,rfl,⟨_,SqL.of upd_same⟩,comp_by (n:=ms.length) (fun j ys H'=>∃ as:List Int,ys=as.map V.int/\as.length=j/\(∀ c∈as,0<=c)/\H'=upd H q (.lst (cutV (ns.map V.int) none (some 63))))
   ⟨[],rfl,rfl,fun _ h=>(nomatch h),rfl⟩ ?_ (small_line (by omega)) ?_ ?_ ?_ ?_⟩⟩
  ·rintro j ys H' ⟨as,rfl,rfl,_⟩
   rw [List.length_map]
   exact Nat.le_refl _
  ·rintro j ys H' hj ⟨as,rfl,rfl,_,rfl⟩
   refine ⟨_,.int (ms[as.length]'hj),SqL.of upd_same,?_⟩
   rw [ems,List.getElem?_map,List.getElem?_eq_getElem hj]
   rfl
  ·rintro ys H' ⟨as,rfl,hl,_,rfl⟩
   exact ⟨_,SqL.of upd_same,by rw [ems,List.length_map]; exact Nat.le_refl _⟩
  ·rintro j ys H' hj ⟨as,rfl,rfl,hp,rfl⟩ x H2 ⟨rfl,y⟩
   have hx:=y _ (SqL.of upd_same)
   rw [ems,List.getElem?_map,List.getElem?_eq_getElem hj] at hx
   cases hx
   refine ⟨_,rfl,_,rfl,as++[_],by rw [List.map_append]; rfl,by rw [List.length_append]; rfl,fun c hc=>?_,rfl⟩
   rcases List.mem_append.mp hc with z | z
   ·exact hp c z
   ·rw [List.mem_singleton.mp z]
    split <;> omega
  ·rintro ys H' ⟨as,rfl,hl,hp,rfl⟩ c0 hc0
   have s1:Same H (upd H q (.lst (cutV (ns.map V.int) none (some 63)))):=same_upd hq
   generalize upd H q (.lst (cutV (ns.map V.int) none (some 63)))=H1 at hc0 s1
   have s2:Same H (upd H1 c0 (.lst (as.map V.int))):=s1.trans (same_upd hc0)
   have n0:H c0=none:=s1.free hc0
   have e0:(upd H1 c0 (.lst (as.map V.int))) c0=some (.lst (as.map V.int)):=upd_same
   generalize upd H1 c0 (.lst (as.map V.int))=H2 at s2 e0
   have hla:as.length<=63:=by omega
   refine ⟨_,rfl,Nat.zero_le _,fun l hl=>⟨_,_,DV.lst (SqL.of ((same_upd hl) _ _ e0)) (dvs_ints as),DV.lst (SqL.of upd_same) .nil,(shp_ints as).shaped (by decide),(shp_ints []).shaped (by decide),_,rfl,?_⟩⟩
   rw [eqv_nil]
   have s3:Same H (upd H2 l (.lst [])):=s2.trans (same_upd hl)
   have e1:(upd H2 l (.lst [])) c0=some (.lst (as.map V.int)):=(same_upd hl) _ _ e0
   generalize upd H2 l (.lst [])=H3 at s3 e1
   refine ite2 (fun h0=>?_) (fun h0=>?_)
   ·refine ⟨by show 1<=sizeLine; decide,fun c1 hc1=>?_⟩
    have W:HC H (upd H3 c1 (.lst [.int 0])) c1:=⟨[0],s3.trans (same_upd hc1),s3.free hc1,upd_same,by simp,by decide,by simp⟩
    revert W
    generalize upd H3 c1 (.lst [.int 0])=H4
    intro W
    obtain ⟨as4,s4,n4,e4,hne,hl4,hp4⟩:=W
    obtain ⟨c,hc1,hc2⟩:=at_rest hne i
    obtain ⟨cs,ecs,ncs,lcs,mcs⟩:=spun hne i
    have hlp:(0:Int) < (((as4.map V.int).length:Nat):Int):=by
     rw [List.length_map]
     have:=List.length_pos_iff.mpr hne
     omega
    refine ⟨_,rfl,_,rfl,_,_,rfl,.inl ⟨_,SqL.of e4,rfl⟩,_,_,rfl,rfl,hlp,?_⟩
    refine ⟨_,rfl,_,rfl,_,_,_,_,rfl,rfl,SqL.of e4,hc2,_,_,rfl,rfl,⟨by decide,by decide,by decide⟩,_,_,rfl,rfl,_,rfl,?_⟩
    refine ite2 (fun _=>?_) (fun _=>?_)
    ·refine ⟨_,rfl,_,rfl,_,_,rfl,.inl ⟨_,SqL.of e4,rfl⟩,_,_,rfl,rfl,_,rfl,?_⟩
     refine ite2 (fun _=>?_) (fun _=>?_)
     ·refine ⟨_,rfl,_,rfl,_,_,_,_,rfl,rfl,SqL.of e4,hc2,?_⟩
      exact ⟨_,rfl,_,rfl,_,_,rfl,rfl,.inl ⟨by decide,by decide⟩,_,_,rfl,rfl,_,rfl,_,rfl,_,rfl,_,_,rfl,SqL.of e4,fun l1 hl1=>⟨_,rfl,_,rfl,_,rfl,_,_,rfl,SqL.of ((same_upd hl1) _ _ e4),fun l2 hl2 =>
       ⟨l1,l2,_,_,rfl,rfl,(same_upd hl2) _ _ upd_same,upd_same,by rw [<- List.length_append,ecs,List.length_map]; exact small_line (by omega),fun l3 hl3=>⟨by show 3<=sizeLine; decide,fun p hp =>
        k p l3 _ (s4.free ((same_upd hl1).free ((same_upd hl2).free ((same_upd hl3).free hp)))) (s4.free ((same_upd hl1).free ((same_upd hl2).free hl3)))
         ⟨_,_,cs,upd_same,by rw [<- ecs]; exact (same_upd hp) _ _ upd_same,ncs,by omega,by first | exact hp4 _ hc1 | decide,by omega,fun x hx=>hp4 x (mcs x hx)⟩
         (((s4.trans (same_upd hl1)).trans (same_upd hl2)).trans ((same_upd hl3).trans (same_upd hp)))⟩⟩⟩⟩
     ·exact ⟨_,rfl,_,rfl,_,_,rfl,rfl,.inl ⟨by decide,by decide⟩,_,_,rfl,rfl,_,rfl,_,rfl,_,rfl,_,_,rfl,SqL.of e4,fun l1 hl1=>⟨_,rfl,_,rfl,_,rfl,_,_,rfl,SqL.of ((same_upd hl1) _ _ e4),fun l2 hl2 =>
       ⟨l1,l2,_,_,rfl,rfl,(same_upd hl2) _ _ upd_same,upd_same,by rw [<- List.length_append,ecs,List.length_map]; exact small_line (by omega),fun l3 hl3=>⟨by show 3<=sizeLine; decide,fun p hp =>
        k p l3 _ (s4.free ((same_upd hl1).free ((same_upd hl2).free ((same_upd hl3).free hp)))) (s4.free ((same_upd hl1).free ((same_upd hl2).free hl3)))
         ⟨_,_,cs,upd_same,by rw [<- ecs]; exact (same_upd hp) _ _ upd_same,ncs,by omega,by first | exact hp4 _ hc1 | decide,by omega,fun x hx=>hp4 x (mcs x hx)⟩
         (((s4.trans (same_upd hl1)).trans (same_upd hl2)).trans ((same_upd hl3).trans (same_upd hp)))⟩⟩⟩⟩
    ·refine iteF ?_
     exact ⟨_,rfl,_,rfl,_,_,rfl,rfl,.inl ⟨by decide,by decide⟩,_,_,rfl,rfl,_,rfl,_,rfl,_,rfl,_,_,rfl,SqL.of e4,fun l1 hl1=>⟨_,rfl,_,rfl,_,rfl,_,_,rfl,SqL.of ((same_upd hl1) _ _ e4),fun l2 hl2 =>
       ⟨l1,l2,_,_,rfl,rfl,(same_upd hl2) _ _ upd_same,upd_same,by rw [<- List.length_append,ecs,List.length_map]; exact small_line (by omega),fun l3 hl3=>⟨by show 3<=sizeLine; decide,fun p hp =>
        k p l3 _ (s4.free ((same_upd hl1).free ((same_upd hl2).free ((same_upd hl3).free hp)))) (s4.free ((same_upd hl1).free ((same_upd hl2).free hl3)))
         ⟨_,_,cs,upd_same,by rw [<- ecs]; exact (same_upd hp) _ _ upd_same,ncs,by omega,by first | exact hp4 _ hc1 | decide,by omega,fun x hx=>hp4 x (mcs x hx)⟩
         (((s4.trans (same_upd hl1)).trans (same_upd hl2)).trans ((same_upd hl3).trans (same_upd hp)))⟩⟩⟩⟩
   ·have W:HC H H3 c0:=⟨as,s3,n0,e1,by simpa using h0,hla,hp⟩
    obtain ⟨as4,s4,n4,e4,hne,hl4,hp4⟩:=W
    obtain ⟨c,hc1,hc2⟩:=at_rest hne i
    obtain ⟨cs,ecs,ncs,lcs,mcs⟩:=spun hne i
    have hlp:(0:Int) < (((as4.map V.int).length:Nat):Int):=by
     rw [List.length_map]
     have:=List.length_pos_iff.mpr hne
     omega
    refine ⟨_,rfl,_,rfl,_,_,rfl,.inl ⟨_,SqL.of e4,rfl⟩,_,_,rfl,rfl,hlp,?_⟩
    refine ⟨_,rfl,_,rfl,_,_,_,_,rfl,rfl,SqL.of e4,hc2,_,_,rfl,rfl,⟨by decide,by decide,by decide⟩,_,_,rfl,rfl,_,rfl,?_⟩
    refine ite2 (fun _=>?_) (fun _=>?_)
    ·refine ⟨_,rfl,_,rfl,_,_,rfl,.inl ⟨_,SqL.of e4,rfl⟩,_,_,rfl,rfl,_,rfl,?_⟩
     refine ite2 (fun _=>?_) (fun _=>?_)
     ·refine ⟨_,rfl,_,rfl,_,_,_,_,rfl,rfl,SqL.of e4,hc2,?_⟩
      exact ⟨_,rfl,_,rfl,_,_,rfl,rfl,.inl ⟨by decide,by decide⟩,_,_,rfl,rfl,_,rfl,_,rfl,_,rfl,_,_,rfl,SqL.of e4,fun l1 hl1=>⟨_,rfl,_,rfl,_,rfl,_,_,rfl,SqL.of ((same_upd hl1) _ _ e4),fun l2 hl2 =>
       ⟨l1,l2,_,_,rfl,rfl,(same_upd hl2) _ _ upd_same,upd_same,by rw [<- List.length_append,ecs,List.length_map]; exact small_line (by omega),fun l3 hl3=>⟨by show 3<=sizeLine; decide,fun p hp =>
        k p l3 _ (s4.free ((same_upd hl1).free ((same_upd hl2).free ((same_upd hl3).free hp)))) (s4.free ((same_upd hl1).free ((same_upd hl2).free hl3)))
         ⟨_,_,cs,upd_same,by rw [<- ecs]; exact (same_upd hp) _ _ upd_same,ncs,by omega,by first | exact hp4 _ hc1 | decide,by omega,fun x hx=>hp4 x (mcs x hx)⟩
         (((s4.trans (same_upd hl1)).trans (same_upd hl2)).trans ((same_upd hl3).trans (same_upd hp)))⟩⟩⟩⟩
     ·exact ⟨_,rfl,_,rfl,_,_,rfl,rfl,.inl ⟨by decide,by decide⟩,_,_,rfl,rfl,_,rfl,_,rfl,_,rfl,_,_,rfl,SqL.of e4,fun l1 hl1=>⟨_,rfl,_,rfl,_,rfl,_,_,rfl,SqL.of ((same_upd hl1) _ _ e4),fun l2 hl2 =>
       ⟨l1,l2,_,_,rfl,rfl,(same_upd hl2) _ _ upd_same,upd_same,by rw [<- List.length_append,ecs,List.length_map]; exact small_line (by omega),fun l3 hl3=>⟨by show 3<=sizeLine; decide,fun p hp =>
        k p l3 _ (s4.free ((same_upd hl1).free ((same_upd hl2).free ((same_upd hl3).free hp)))) (s4.free ((same_upd hl1).free ((same_upd hl2).free hl3)))
         ⟨_,_,cs,upd_same,by rw [<- ecs]; exact (same_upd hp) _ _ upd_same,ncs,by omega,by first | exact hp4 _ hc1 | decide,by omega,fun x hx=>hp4 x (mcs x hx)⟩
         (((s4.trans (same_upd hl1)).trans (same_upd hl2)).trans ((same_upd hl3).trans (same_upd hp)))⟩⟩⟩⟩
    ·refine iteF ?_
     exact ⟨_,rfl,_,rfl,_,_,rfl,rfl,.inl ⟨by decide,by decide⟩,_,_,rfl,rfl,_,rfl,_,rfl,_,rfl,_,_,rfl,SqL.of e4,fun l1 hl1=>⟨_,rfl,_,rfl,_,rfl,_,_,rfl,SqL.of ((same_upd hl1) _ _ e4),fun l2 hl2 =>
       ⟨l1,l2,_,_,rfl,rfl,(same_upd hl2) _ _ upd_same,upd_same,by rw [<- List.length_append,ecs,List.length_map]; exact small_line (by omega),fun l3 hl3=>⟨by show 3<=sizeLine; decide,fun p hp =>
        k p l3 _ (s4.free ((same_upd hl1).free ((same_upd hl2).free ((same_upd hl3).free hp)))) (s4.free ((same_upd hl1).free ((same_upd hl2).free hl3)))
         ⟨_,_,cs,upd_same,by rw [<- ecs]; exact (same_upd hp) _ _ upd_same,ncs,by omega,by first | exact hp4 _ hc1 | decide,by omega,fun x hx=>hp4 x (mcs x hx)⟩
         (((s4.trans (same_upd hl1)).trans (same_upd hl2)).trans ((same_upd hl3).trans (same_upd hp)))⟩⟩⟩⟩
theorem ok_NoShown___init__ (T:Txt mg) {C:Addr} {f:Addr} {fd:FuncData} (xc:XCl K C f) (na:W.findIn K (.ref C) "at"=some none) (F:Fun K "__init__" "NoShown.__init__" s_NoShown___init__ f fd):FnOk P w K mg base CX0 1 f fd ["self", "at"] (spX1 C "at"):=by
 refine F.ok sc_NoShown___init__ (fun vs H Q E h=>?_) (fun cdv A outer s H vs Q E hr h=>?_)
 ·obtain ⟨ea,y,rfl,_⟩:=h
  rfl
 ·obtain ⟨ea,y,rfl,hea,k⟩:=h
  have SC:=sc_NoShown___init__
  refine ⟨_,(pss_one (ps_xfld (pv 0) (pv 1) rfl)),?_⟩
  exact ⟨_,rfl,_,rfl,ea,C,f,rfl,xc,na,.inl ⟨hea,fun d hd ne=>k d hd ne⟩⟩
open L3
theorem ok__law_text_of (T:Txt mg) {C:Addr} (C__law_draw:Cal P w K mg base "_law_draw" 1 ["_law_hand", "_law_many"] (L3.spOf ⟨C,K⟩ dDraw)) {f:Addr} {fd:FuncData} (F:Fun K "_law_text_of" "_law_text_of" s__law_text_of f fd):FnOk P w K mg base CX0 2 f fd ["_law_hand", "_law_most", "_law_holes"] (L3.spOf ⟨C,K⟩ dTextOf):=by
 refine L3.Fun.ok3 F sc__law_text_of (fun ds M K3 h=>?_) (fun cdv A outer s H E hr=>?_)
 ·obtain ⟨k0,m,b,rfl,_⟩:=h
  rfl
 ·have SC:=sc__law_text_of
  have hu:=hr.units
  have hu1:=hu_of hr
  have hr__law_draw:Room 1 _:=hr.mono (by first | decide | omega)
  refine ⟨_,_,(pss_cons (ps_set (i:=3) SC.nd rfl (Or.inl rfl) (pe_lst pa_nil))
 (pss_cons (ps_for PassesOwn.never rfl (pi_range1 rfl T.b_range (pa_cons (pe_cal C__law_draw hr__law_draw rfl (pa_cons (pv 0) (pa_cons (pe_op (L3.ux_add (K':=K) rfl) (pv 1) pe_int) pa_nil))) pa_nil)) (pg_name (i:=4) SC.nd rfl (Or.inl rfl))
 (pss_cons (ps_set (i:=5) SC.nd rfl (Or.inl rfl) (pe_cal C__law_draw hr__law_draw rfl (pa_cons (pv 0) (pa_cons pe_int pa_nil))))
 (pss_one (ps_if (PW.pt (pw_and (pt_cmpR (L3.ux_eq (K':=K) rfl hu) (pv 5) pe_int (nomark _)) (pw_and1 (pt_val (pv 2)))))
 (pss_one (ps_expr (pe_bm PySem.F.plainAttrs_list PySem.F.slot_list_append PySem.F.type_list_append mt_append (pv 3) (pa_cons pe_non pa_nil))))
 (pss_one (ps_if (pt_cmpR op_lt (pv 5) pe_int (nomark _))
 (pss_one (ps_expr (pe_bm PySem.F.plainAttrs_list PySem.F.slot_list_append PySem.F.type_list_append mt_append (pv 3) (pa_cons (pe_cal C__law_draw hr__law_draw rfl (pa_cons (pv 0) (pa_cons pe_int pa_nil))) pa_nil))))
 (pss_one (ps_if (pt_cmpR (L3.ux_eq (K':=K) rfl hu) (pv 5) pe_int (nomark _))
 (pss_one (ps_expr (pe_bm PySem.F.plainAttrs_list PySem.F.slot_list_append PySem.F.type_list_append mt_append (pv 3) (pa_cons (pe_ix (L3.ux_ix (K':=K) rfl) (pe_lst (pa_cons pe_int (pa_cons pe_int (pa_cons pe_int (pa_cons (pe_op op_sub (pe_op op_pow pe_int pe_int) pe_int) (pa_cons (pe_op op_pow pe_int pe_int) pa_nil)))))) (pe_cal C__law_draw hr__law_draw rfl (pa_cons (pv 0) (pa_cons pe_int pa_nil))) (fun _ _=>rfl)) pa_nil))))
 (pss_one (ps_expr (pe_bm PySem.F.plainAttrs_list PySem.F.slot_list_append PySem.F.type_list_append mt_append (pv 3) (pa_cons (pe_op op_mod (pe_op L3.ux_mul (pe_cal C__law_draw hr__law_draw rfl (pa_cons (pv 0) (pa_cons (pe_op op_pow pe_int pe_int) pa_nil))) (pe_ix (L3.ux_ix (K':=K) rfl) (pe_lst (pa_cons pe_int (pa_cons pe_int pa_nil))) (pe_cal C__law_draw hr__law_draw rfl (pa_cons (pv 0) (pa_cons pe_int pa_nil))) (fun _ _=>rfl))) (pe_op (L3.ux_add (K':=K) rfl) (pe_op op_pow pe_int pe_int) pe_int)) pa_nil))))))))))))
 (pss_one (ps_ret (pv 3))))),fun _=>(L3.s_seq (L3.s_asg (L3.s_lstC L3.s_nil) (L3.s_g 3))
 (L3.s_seq (L3.s_for (L3.s_ir1 (L3.s_cons (L3.s_call (L3.s_cons (L3.s_var 0) (L3.s_cons (L3.s_op L3.s_add (L3.s_var 1) L3.s_int) L3.s_nil))) L3.s_nil)) (L3.s_g 4)
 (L3.s_seq (L3.s_asg (L3.s_call (L3.s_cons (L3.s_var 0) (L3.s_cons L3.s_int L3.s_nil))) (L3.s_g 5))
 (L3.s_ifS (L3.s_and (L3.s_test (L3.s_op L3.s_eq (L3.s_var 5) L3.s_int)) (L3.s_b (L3.s_var 2)))
 (L3.s_drop (L3.s_append (L3.s_var 3) (L3.s_cons L3.s_non L3.s_nil)))
 (L3.s_ifS (L3.s_test (L3.s_op L3.s_lt (L3.s_var 5) L3.s_int))
 (L3.s_drop (L3.s_append (L3.s_var 3) (L3.s_cons (L3.s_call (L3.s_cons (L3.s_var 0) (L3.s_cons L3.s_int L3.s_nil))) L3.s_nil)))
 (L3.s_ifS (L3.s_test (L3.s_op L3.s_eq (L3.s_var 5) L3.s_int))
 (L3.s_drop (L3.s_append (L3.s_var 3) (L3.s_cons (L3.s_op L3.s_ix (L3.s_lst (L3.s_cons L3.s_int (L3.s_cons L3.s_int (L3.s_cons L3.s_int (L3.s_cons (L3.s_op L3.s_sub (L3.s_op L3.s_pow L3.s_int L3.s_int) L3.s_int) (L3.s_cons (L3.s_op L3.s_pow L3.s_int L3.s_int) L3.s_nil)))))) (L3.s_call (L3.s_cons (L3.s_var 0) (L3.s_cons L3.s_int L3.s_nil)))) L3.s_nil)))
 (L3.s_drop (L3.s_append (L3.s_var 3) (L3.s_cons (L3.s_op L3.s_mod (L3.s_op L3.s_mul (L3.s_call (L3.s_cons (L3.s_var 0) (L3.s_cons (L3.s_op L3.s_pow L3.s_int L3.s_int) L3.s_nil))) (L3.s_op L3.s_ix (L3.s_lst (L3.s_cons L3.s_int (L3.s_cons L3.s_int L3.s_nil))) (L3.s_call (L3.s_cons (L3.s_var 0) (L3.s_cons L3.s_int L3.s_nil))))) (L3.s_op L3.s_add (L3.s_op L3.s_pow L3.s_int L3.s_int) L3.s_int)) L3.s_nil))))))))
 (L3.s_ret (L3.s_var 3)))),fun ds M Kk hM hD h=>?_⟩
  obtain ⟨k0,m,b,rfl,h⟩:=h
  obtain ⟨hk,⟨m0,m1⟩,k⟩:=h
  have hk1:∀ {x:MO},(M++[x])[k0]?=some .hand:=fun {x}=>get_more hk
  refine ⟨Nat.zero_le _,_,rfl,_,rfl,k0,_,rfl,hk1,⟨by omega,by omega⟩,fun q q0 q1=>?_⟩
  refine ⟨q,rfl,⟨by omega,by omega⟩,fun i ρ M'=>∃ (es:List (Option Int)) (v4 v5:Option D),(∀ e∈es,OkE e)/\es.length=i/\(b=false->∀ e∈es,e≠none)/\ρ=[some (.cell k0),some (.int m),some (.bl b),some (.cell M.length),v4,v5]/\M++[.lst (es.map oD)]=M',fun _ _ _ _ _=>trivial,⟨[],_,_,fun _ h=>(nomatch h),rfl,fun _ _ h=>(nomatch h),rfl,rfl⟩,?_,?_⟩
  ·rintro i x ρ _ hi rfl ⟨es,v4,v5,h1,h2,h3,rfl,rfl⟩
   have hi:i < q.toNat:=hi
   have f1:(es.map oD).length < sizeLine:=by
    rw [List.length_map]
    exact Nat.lt_of_le_of_lt (by omega:es.length<=1000) (by decide)
   have f2:∀ {o:Option Int},OkE o->∀ e∈es++[o],OkE e:=fun ho e he=>by
    rcases List.mem_append.mp he with he | he
    ·exact h1 e he
    ·rw [List.mem_singleton.mp he]; exact ho
   have f3:∀ {o:Option Int},(es++[o]).length=i + 1:=by intro o; rw [List.length_append,h2]; rfl
   have f4:∀ {o:Option Int},(b=false->o≠none)->b=false->∀ e∈es++[o],e≠none:=fun hb x e he=>by
    rcases List.mem_append.mp he with he | he
    ·exact h3 x e he
    ·rw [List.mem_singleton.mp he]; exact hb x
   have f5:∀ {o:Option Int},M++[MO.lst ((es++[o]).map oD)]=(M++[MO.lst (es.map oD)]).set M.length (.lst (es.map oD++[oD o])):=by
    intro o
    rw [List.set_append_right _ _ (Nat.le_refl _),Nat.sub_self,List.map_append]
    rfl
   have ls:lsOf (M++[.lst (es.map oD)]) (.cell M.length)≠none:=ls_some ls_last
   have big:∀ {z:Int},0<=z/\z<=1000000000->OkE (some z):=fun h n e=>by cases e; exact h
   refine ⟨_,rfl,k0,6,rfl,hk1,⟨by decide,by decide⟩,fun w w0 w1=>?_⟩
   refine g_nx ?_
   dsimp only
   refine ifS_and (c1:=decide (w=0)) (c2:=b) (fun K h=>⟨_,rfl,.inl ⟨_,rfl,_,rfl,h⟩⟩) (fun _ K h=>⟨_,rfl,_,rfl,h⟩) (ite2 (fun h=>?_) (fun h=>?_))
   ·exact ⟨_,rfl,ls,M.length,_,_,rfl,rfl,List.getElem?_concat_length,f1,.inl ⟨es++[none],_,_,f2 (fun _ h=>nomatch h),f3,f4 (fun e=>by rw [e,Bool.and_false] at h; exact nomatch h),rfl,f5⟩⟩
   refine ⟨_,rfl,_,_,rfl,rfl,_,rfl,ite2 (fun h=>?_) (fun h=>?_)⟩
   ·exact ⟨_,rfl,ls,_,rfl,k0,300,rfl,hk1,⟨by decide,by decide⟩,fun z z0 z1=>⟨M.length,_,_,rfl,rfl,List.getElem?_concat_length,f1,.inl ⟨es++[some z],_,_,f2 (big (by omega)),f3,f4 (fun _ e=>nomatch e),rfl,f5⟩⟩⟩
   refine ⟨_,rfl,.inl ⟨_,rfl,_,rfl,ite2 (fun h=>?_) (fun h=>?_)⟩⟩
   ·refine ⟨_,rfl,ls,_,_,rfl,rfl,⟨by decide,by decide,by decide⟩,_,_,rfl,rfl,_,_,rfl,rfl,⟨by decide,by decide,by decide⟩,(show 5<=sizeLine by decide),_,rfl,k0,5,rfl,hk1,⟨by decide,by decide⟩,fun z z0 z1=>?_⟩
    rcases (by omega:z=0\/z=1\/z=2\/z=3\/z=4) with e | e | e | e | e <;> subst e
    ·exact ⟨_,_,_,rfl,rfl,rfl,M.length,_,_,rfl,rfl,List.getElem?_concat_length,f1,.inl ⟨es++[some 0],_,_,f2 (big (by decide)),f3,f4 (fun _ e=>nomatch e),rfl,f5⟩⟩
    ·exact ⟨_,_,_,rfl,rfl,rfl,M.length,_,_,rfl,rfl,List.getElem?_concat_length,f1,.inl ⟨es++[some 9],_,_,f2 (big (by decide)),f3,f4 (fun _ e=>nomatch e),rfl,f5⟩⟩
    ·exact ⟨_,_,_,rfl,rfl,rfl,M.length,_,_,rfl,rfl,List.getElem?_concat_length,f1,.inl ⟨es++[some 10],_,_,f2 (big (by decide)),f3,f4 (fun _ e=>nomatch e),rfl,f5⟩⟩
    ·exact ⟨_,_,_,rfl,rfl,rfl,M.length,_,_,rfl,rfl,List.getElem?_concat_length,f1,.inl ⟨es++[some (10 ^ 9 - 1)],_,_,f2 (big (by decide)),f3,f4 (fun _ e=>nomatch e),rfl,f5⟩⟩
    ·exact ⟨_,_,_,rfl,rfl,rfl,M.length,_,_,rfl,rfl,List.getElem?_concat_length,f1,.inl ⟨es++[some (10 ^ 9)],_,_,f2 (big (by decide)),f3,f4 (fun _ e=>nomatch e),rfl,f5⟩⟩
   ·refine ⟨_,rfl,ls,_,rfl,_,_,rfl,rfl,⟨by decide,by decide,by decide⟩,k0,_,rfl,hk1,⟨by decide,by decide⟩,fun z z0 z1=>?_⟩
    refine ⟨(show 2<=sizeLine by decide),_,rfl,k0,2,rfl,hk1,⟨by decide,by decide⟩,fun y y0 y1=>?_⟩
    have h7:(10:Int) ^ (7:Int).toNat=10000000:=by decide
    rw [h7] at z1
    rcases (by omega:y=0\/y=1) with e | e <;> subst e
    ·exact ⟨_,_,_,rfl,rfl,rfl,.inl ⟨by omega,by omega⟩,_,_,rfl,rfl,⟨by decide,by decide,by decide⟩,_,_,rfl,rfl,(show (0:Int) < 10 ^ Int.toNat 9 + 1 by decide),M.length,_,_,rfl,rfl,List.getElem?_concat_length,f1,.inl ⟨es++[some _],_,_,f2 (big ⟨Int.emod_nonneg _ (by decide),Int.le_of_lt_add_one (Int.emod_lt_of_pos _ (by decide))⟩),f3,f4 (fun _ e=>nomatch e),rfl,f5⟩⟩
    ·exact ⟨_,_,_,rfl,rfl,rfl,.inl ⟨by omega,by omega⟩,_,_,rfl,rfl,⟨by decide,by decide,by decide⟩,_,_,rfl,rfl,(show (0:Int) < 10 ^ Int.toNat 9 + 1 by decide),M.length,_,_,rfl,rfl,List.getElem?_concat_length,f1,.inl ⟨es++[some _],_,_,f2 (big ⟨Int.emod_nonneg _ (by decide),Int.le_of_lt_add_one (Int.emod_lt_of_pos _ (by decide))⟩),f3,f4 (fun _ e=>nomatch e),rfl,f5⟩⟩
  ·rintro ρ _ ⟨es,v4,v5,h1,h2,h3,rfl,rfl⟩
   have h2:es.length=q.toNat:=h2
   exact ⟨_,rfl,.inl (k es h1 (by omega) h3)⟩
open L3
theorem ok__law_shown (T:Txt mg) {C:Addr}  {f:Addr} {fd:FuncData} (F:Fun K "_law_shown" "_law_shown" s__law_shown f fd):FnOk P w K mg base CX0 1 f fd ["_law_kind", "_law_some"] (L3.spOf ⟨C,K⟩ dShown12):=by
 refine L3.Fun.ok3 F sc__law_shown (fun ds M K3 h=>?_) (fun cdv A outer s H E hr=>?_)
 ·obtain ⟨q,d,es,rfl,_⟩:=h
  rfl
 ·have SC:=sc__law_shown
  have hu:=hr.units
  have hu1:=hu_of hr
  refine ⟨_,_,(pss_cons (ps_if (pt_cmpR (L3.ux_eq (K':=K) rfl hu) (pv 1) (pe_lst pa_nil) (nomark _))
 (pss_one (ps_ret pe_str))
 pss_nil)
 (pss_cons (ps_if (pt_cmpR (L3.ux_eq (K':=K) rfl hu) (pv 0) pe_int (nomark _))
 (pss_cons (ps_set (i:=2) SC.nd rfl (Or.inr rfl) pe_str)
 (pss_one (ps_ret (pe_bm PySem.F.plainAttrs_str PySem.F.slot_str_join PySem.F.type_str_join (bk_join (K:=K) rfl) pe_str (pa_cons (pe_comp (T:=["_law_one"]) (cs:=[2]) rfl (CScope.ok (by kernel_rfl)) (pi_list (pv 1)) (fun _ _ _ _=>(pg_name (i:=0) (nd_of (by kernel_rfl)) rfl (Or.inl rfl) (Or.inr rfl))) (fun _ _ _ _=>pts_nil) (fun _ _ _ _=>(pe_op (L3.ux_add (K':=K) rfl) (pe_ix (L3.ux_ix (K':=K) rfl) (pv 1) (pe_op op_fdiv (pv 0) pe_int) (fun _ _=>rfl)) (pe_ix (L3.ux_ix (K':=K) rfl) (pv 1) (pe_op op_mod (pv 0) pe_int) (fun _ _=>rfl)))) (gk_name (by decide))) pa_nil)))))
 pss_nil)
 (pss_cons (ps_set (i:=3) SC.nd rfl (Or.inl rfl) (pe_lst pa_nil))
 (pss_cons (ps_for PassesOwn.never rfl (pi_list (pv 1)) (pg_name (i:=4) SC.nd rfl (Or.inl rfl))
 (pss_one (ps_if (pt_cmp (pc_isN (pv 4)))
 (pss_one (ps_expr (pe_bm PySem.F.plainAttrs_list PySem.F.slot_list_append PySem.F.type_list_append mt_append (pv 3) (pa_cons pe_str pa_nil))))
 (pss_one (ps_expr (pe_bm PySem.F.plainAttrs_list PySem.F.slot_list_append PySem.F.type_list_append mt_append (pv 3) (pa_cons (pe_callTy call_str_int (by rfl) T.b_str PyProof.Rows.boot_str (pa_cons (pv 4) pa_nil)) pa_nil)))))))
 (pss_one (ps_ret (pe_bm PySem.F.plainAttrs_str PySem.F.slot_str_join PySem.F.type_str_join (bk_join (K:=K) rfl) pe_str (pa_cons (pv 3) pa_nil)))))))),fun _=>(L3.s_seq (L3.s_ifS (L3.s_test (L3.s_op L3.s_eq (L3.s_var 1) (L3.s_lst L3.s_nil)))
 (L3.s_ret L3.s_str)
 L3.s_next)
 (L3.s_seq (L3.s_ifS (L3.s_test (L3.s_op L3.s_eq (L3.s_var 0) L3.s_int))
 (L3.s_seq (L3.s_asg L3.s_str (L3.s_g 2))
 (L3.s_ret (L3.s_join L3.s_str (L3.s_cons (L3.s_comp (L3.s_il (L3.s_var 1)) (L3.s_g 0) L3.s_true (L3.s_op L3.s_add (L3.s_op L3.s_ix (L3.s_var 1) (L3.s_op L3.s_fdiv (L3.s_var 0) L3.s_int)) (L3.s_op L3.s_ix (L3.s_var 1) (L3.s_op L3.s_mod (L3.s_var 0) L3.s_int)))) L3.s_nil))))
 L3.s_next)
 (L3.s_seq (L3.s_asg (L3.s_lstC L3.s_nil) (L3.s_g 3))
 (L3.s_seq (L3.s_for (L3.s_il (L3.s_var 1)) (L3.s_g 4)
 (L3.s_ifS (L3.s_b (L3.s_isN (L3.s_var 4)))
 (L3.s_drop (L3.s_append (L3.s_var 3) (L3.s_cons L3.s_str L3.s_nil)))
 (L3.s_drop (L3.s_append (L3.s_var 3) (L3.s_cons (L3.s_cb L3.s_strOf (L3.s_cons (L3.s_var 4) L3.s_nil)) L3.s_nil)))))
 (L3.s_ret (L3.s_join L3.s_str (L3.s_cons (L3.s_var 3) L3.s_nil))))))),fun ds M Kk hM hD h=>?_⟩
  obtain ⟨q,d,es,rfl,h⟩:=h
  obtain ⟨e1,⟨⟨q0,q3⟩,oe,hl,o0,o1⟩,k⟩:=h
  have lm:(es.map oD).length=es.length:=List.length_map _
  refine ⟨_,rfl,Nat.zero_le _,eqv_seq encO (a:=es) (b:=[]) (ls_ty e1).2.1 rfl ⟨_,rfl,ite2 (fun h0=>?_) (fun h0=>?_)⟩⟩
  ·have e:=of_decide_eq_true h0
   subst e
   have:=k M (List.prefix_refl _)
   rw [show shK q []=Str.ofString "-" by unfold shK; rw [da_mk]; split <;> rfl] at this
   exact .inl this
  have ne:es≠[]:=of_decide_eq_false (Bool.not_eq_true _ ▸ h0)
  refine ⟨_,rfl,.inl ⟨_,rfl,_,rfl,ite2 (fun h1=>?_) (fun h1=>?_)⟩⟩
  ·have hq:=of_decide_eq_true h1
   have oi:=o0 hq
   have e2:=e1
   rw [ok_ints oi] at e2
   generalize hns:(es.map fun e=>e.getD 0)=ns at e2
   have hns0:ns≠[]:=fun e=>ne (List.map_eq_nil_iff.mp (hns.trans e))
   have lns:ns.length=es.length:=by rw [<- hns,List.length_map]
   have hbn:∀ n∈ns,0<=n/\n < 256:=fun n hn=>by
    rw [<- hns] at hn
    obtain ⟨e,he,rfl⟩:=List.mem_map.mp hn
    obtain ⟨n,rfl,h2⟩:=oi e he
    exact ⟨(oe _ he n rfl).1,h2⟩
   have lm2:(ns.map D.int).length=ns.length:=List.length_map _
   refine ⟨_,rfl,_,rfl,_,(ls_ty e2).2.1,?_,fun i ys M'=>M=M'/\ys=(ns.take i).map fun n=>D.str (mkS (hx2 n)),fun _ _ _ _ h=>h.1 ▸ (ls_ty e2).2.1,⟨rfl,rfl⟩,?_,?_⟩
   ·show (ns.map D.int).length<=sizeLine
    rw [lm2]
    exact small_line (by omega)
   ·rintro i x ys _ hi hx ⟨rfl,rfl⟩
    obtain ⟨hi',rfl⟩:=item_map hx
    have hbi:=hbn _ (List.getElem_mem hi')
    have d1:(ns[i] / 16)=(((ns[i] / 16).toNat:Nat):Int):=by omega
    have d2:(ns[i] % 16)=(((ns[i] % 16).toNat:Nat):Int):=by omega
    refine ⟨_,rfl,_,rfl,_,_,rfl,rfl,⟨by decide,by decide⟩,_,_,rfl,(show (16:Nat)<=sizeLine by decide),(by rw [d1]; exact bf_at (by omega)),_,rfl,_,rfl,_,_,rfl,rfl,(show (0:Int) < 16 by decide),_,_,rfl,(show (16:Nat)<=sizeLine by decide),(by rw [d2]; exact bf_at (by omega)),(show 1 + 1<=sizeLine by decide),?_⟩
    exact ⟨rfl,by rw [List.take_succ_eq_append_getElem hi',List.map_append]; rfl⟩
   ·rintro ys _ ⟨rfl,rfl⟩
    refine ⟨_,ns.map fun n=>mkS (hx2 n),rfl,?_,?_,.inl ?_⟩
    ·rw [show List.take (List.map D.int ns).length ns=ns by rw [lm2,List.take_length],List.map_map]
     rfl
    ·rw [List.map_map,List.length_map,show (Str.ofString "").length=0 from rfl,Nat.mul_zero,Nat.add_zero]
     exact Nat.le_trans (sum_two ns) (by omega)
    ·rw [show (ns.map fun n=>mkS (hx2 n))=(ns.map hx2).map mkS by rw [List.map_map]; rfl,join_mk _ (by decide +kernel),<- shr_ne hns0]
     have:=k M (List.prefix_refl _)
     rw [show shK q es=mkS (shR ns) by unfold shK; rw [if_pos hq,hns]] at this
     exact this
  ·have hq:=of_decide_eq_false (Bool.not_eq_true _ ▸ h1)
   have e3:∀ {xs:List D},lsOf (M++[MO.lst xs]) d=some (es.map oD):=fun {xs}=>ls_more e1
   refine ⟨Nat.zero_le _,_,rfl,_,(ls_ty e3).2.1,fun i ρ M'=>∃ v4:Option D,ρ=[some (.int q),some d,none,some (.cell M.length),v4]/\M++[.lst ((es.take i).map fun o=>D.str (mkS (shO o)))]=M',fun i ρ M' _ h=>?_,⟨_,rfl,rfl⟩,?_,?_⟩
   ·obtain ⟨_,_,rfl⟩:=h
    exact (ls_ty e3).2.1
   ·rintro i x ρ _ hi hx ⟨v4,rfl,rfl⟩
    obtain ⟨hi',rfl⟩:=item_map hx
    have f5:∀ y,y=D.str (mkS (shO es[i]))->(M++[MO.lst ((es.take i).map fun o=>D.str (mkS (shO o)))]).set M.length (.lst (((es.take i).map fun o=>D.str (mkS (shO o)))++[y]))=M++[MO.lst ((es.take (i + 1)).map fun o=>D.str (mkS (shO o)))]:=fun y hy=>by
     rw [List.set_append_right _ _ (Nat.le_refl _),Nat.sub_self,List.take_succ_eq_append_getElem hi',List.map_append,hy]
     rfl
    have f1:((es.take i).map fun o=>D.str (mkS (shO o))).length < sizeLine:=Nat.lt_of_le_of_lt (by rw [List.length_map,List.length_take]; omega:_<=1000) (by decide)
    have ok:=oe _ (List.getElem_mem hi')
    generalize es[i]=o at ok f5 hx
    cases o with
    | none=>exact ⟨_,rfl,_,rfl,iteT ⟨_,rfl,ls_some ls_last,M.length,_,_,rfl,rfl,List.getElem?_concat_length,f1,.inl ⟨_,rfl,(f5 _ (by rw [qu_mk]; rfl)).symm⟩⟩⟩
    | some n =>
     obtain ⟨n0,n1⟩:=ok n rfl
     exact ⟨_,rfl,_,rfl,iteF ⟨_,rfl,ls_some ls_last,_,rfl,n,rfl,log_small n0 n1,M.length,_,_,rfl,rfl,List.getElem?_concat_length,f1,.inl ⟨_,rfl,(f5 _ (by rw [dg_str n0]; rfl)).symm⟩⟩⟩
   ·rintro ρ _ ⟨v4,rfl,rfl⟩
    refine ⟨_,rfl,_,rfl,_,es.map fun o=>mkS (shO o),rfl,?_,?_,.inl ?_⟩
    ·rw [show List.take (List.map oD es).length es=es by rw [lm,List.take_length]]
     rw [(ls_ty ls_last).2.1,List.map_map]
     rfl
    ·rw [List.map_map,List.length_map,show (Str.ofString ".").length=1 from by decide +kernel]
     have:=sum_ten es oe
     omega
    ·rw [show (es.map fun o=>mkS (shO o))=(es.map shO).map mkS by rw [List.map_map]; rfl,join_pt,<- she_ne ne]
     have:=k _ (List.prefix_append M [MO.lst ((es.take (List.map oD es).length).map fun o=>D.str (mkS (shO o)))])
     rw [show shK q es=mkS (shE es) by unfold shK; rw [if_neg hq]] at this
     exact this
open L3
theorem ok_row_beginning (T:Txt mg) {C:Addr}  {f:Addr} {fd:FuncData} (F:Fun K "row_beginning" "row_beginning" s_row_beginning f fd):FnOk P w K mg base CX0 1 f fd ["line"] (L3.spOf ⟨C,K⟩ dRowBegG):=by
 refine L3.Fun.ok3 F sc_row_beginning (fun ds M K3 h=>?_) (fun cdv A outer s H E hr=>?_)
 ·obtain ⟨l,rfl,_⟩:=h
  rfl
 ·have SC:=sc_row_beginning
  have hu:=hr.units
  have hu1:=hu_of hr
  refine ⟨_,_,(pss_cons (ps_if (pt_val (pe_bm PySem.F.plainAttrs_str PySem.F.slot_str_startswith PySem.F.type_str_startswith mt_starts (pv 0) (pa_cons (pe_gl T.g_NONE_LINE rfl) pa_nil)))
 (pss_one (ps_ret (pe_callB (bk_len (K:=K) rfl) (by rfl) T.b_len PySem.boot_len (pa_cons (pe_gl T.g_NONE_LINE rfl) pa_nil))))
 pss_nil)
 (pss_cons (ps_set (i:=1) SC.nd rfl (Or.inl rfl) (pe_callB (call_min2 rfl) (by rfl) T.b_min PyProof.Rows.boot_min (pa_cons (pe_callB (bk_len (K:=K) rfl) (by rfl) T.b_len PySem.boot_len (pa_cons (pv 0) pa_nil)) (pa_cons (pe_op L3.ux_mul pe_int (pe_gl T.g_MOST_BYTES rfl)) pa_nil))))
 (pss_cons (ps_set (i:=2) SC.nd rfl (Or.inl rfl) pe_int)
 (pss_cons (ps_while PassesOwn.never (PW.pt (pw_and (pt_cmpR op_lt (pv 2) (pv 1) (nomark _)) (pw_and1 (pt_cmpR op_in_str (pe_ix (L3.ux_ix (K':=K) rfl) (pv 0) (pv 2) (fun _ _=>rfl)) (pe_gl T.g_BYTE_FIGURES rfl) rfl))))
 (pss_one (ps_aug (i:=2) SC.nd rfl (Or.inl rfl) pe_int ip_add)))
 (pss_one (ps_ret (pv 2))))))),fun _=>(L3.s_seq (L3.s_ifS (L3.s_b (L3.s_starts (L3.s_var 0) (L3.s_cons L3.s_str L3.s_nil)))
 (L3.s_ret (L3.s_cb L3.s_len (L3.s_cons L3.s_str L3.s_nil)))
 L3.s_next)
 (L3.s_seq (L3.s_asg (L3.s_cb L3.s_min2 (L3.s_cons (L3.s_cb L3.s_len (L3.s_cons (L3.s_var 0) L3.s_nil)) (L3.s_cons (L3.s_op L3.s_mul L3.s_int L3.s_int) L3.s_nil))) (L3.s_g 1))
 (L3.s_seq (L3.s_asg L3.s_int (L3.s_g 2))
 (L3.s_seq (L3.s_while (L3.s_and (L3.s_test (L3.s_op L3.s_lt (L3.s_var 2) (L3.s_var 1))) (L3.s_test (L3.s_op L3.s_inZ (L3.s_op L3.s_ix (L3.s_var 0) (L3.s_var 2)) L3.s_str)))
 (L3.s_aug L3.s_int))
 (L3.s_ret (L3.s_var 2)))))),fun ds M Kk hM hD h=>?_⟩
  obtain ⟨l,rfl,h⟩:=h
  obtain ⟨⟨hc,hl⟩,k1,k2⟩:=h
  have sl:(mkS l).length<=sizeLine:=by rw [mk_len]; exact small_line (by omega)
  refine ⟨_,rfl,_,rfl,_,rfl,?_⟩
  rw [st_da]
  refine ⟨_,rfl,ite2 (fun h0=>?_) (fun h0=>?_)⟩
  ·exact ⟨(show 1<=sizeLine by decide),.inl (k1 (of_decide_eq_true h0))⟩
  have h0:=of_decide_eq_false (Bool.not_eq_true _ ▸ h0)
  refine ⟨_,rfl,sl,.inl ⟨by decide,by decide⟩,_,_,rfl,?_⟩
  have em:(if (2:Int) * 800 < ((mkS l).length:Int) then (2:Int) * 800 else ((mkS l).length:Int))=((min l.length 1600:Nat):Int):=by
   rw [mk_len]; split <;> omega
  dsimp only
  rw [em]
  refine ⟨fun m ρ M'=>∃ j:Nat,j + m=min l.length 1600/\(∀ k,k < j->0<=hxs l k)/\ρ=[some (.str (mkS l)),some (.int ((min l.length 1600:Nat):Int)),some (.int j)]/\M=M',⟨min l.length 1600,0,by omega,fun k h=>absurd h (Nat.not_lt_zero _),rfl,rfl⟩,?_⟩
  rintro m ρ _ ⟨j,hj,hx,rfl,rfl⟩
  refine ⟨_,rfl,_,rfl,_,_,rfl,rfl,_,rfl,?_⟩
  by_cases hm:m=0
  ·rw [decide_eq_false (by omega)]
   exact ⟨_,rfl,.inl (k2 h0 j ⟨by omega,by omega,hx,fun a b=>by omega⟩)⟩
  ·rw [decide_eq_true (by omega)]
   have hj':j < l.length:=by omega
   refine ⟨_,rfl,_,rfl,_,l[j],rfl,sl,mk_at (List.getElem?_eq_getElem hj'),_,_,rfl,rfl,_,rfl,?_⟩
   rw [show (⟨#[l[j]]⟩:Str)=mkS [l[j]] from rfl,bf_inG (hc _ (List.getElem_mem hj'))]
   have ex:hxs l j=hval l[j]:=by unfold hxs; rw [gd hj']
   refine ite2 (fun h1=>?_) (fun h1=>?_)
   ·have h1:=of_decide_eq_true h1
    exact ⟨_,rfl,_,rfl,m - 1,by omega,.inl ⟨j + 1,by omega,fun k hk=>by
     rcases Nat.lt_succ_iff_lt_or_eq.mp hk with z | z
     ·exact hx k z
     ·rw [z,ex]; exact h1,rfl,rfl⟩⟩
   ·have h1:=of_decide_eq_false (Bool.not_eq_true _ ▸ h1)
    exact ⟨_,rfl,.inl (k2 h0 j ⟨by omega,by omega,hx,fun a b=>by rw [ex]; omega⟩)⟩
theorem ok_byte_shown (T:Txt mg) {C:Addr}  {f:Addr} {fd:FuncData} (F:Fun K "byte_shown" "byte_shown" s_byte_shown f fd):FnOk P w K mg base CX0 1 f fd ["higher", "lower"] (L3.spOf ⟨C,K⟩ dByteG):=by
 refine L3.Fun.ok3 F sc_byte_shown (fun ds M K3 h=>?_) (fun cdv A outer s H E hr=>?_)
 ·obtain ⟨a,b,rfl,_⟩:=h
  rfl
 ·have SC:=sc_byte_shown
  have hu:=hr.units
  have hu1:=hu_of hr
  refine ⟨_,_,(pss_one (ps_ret (pe_op (L3.ux_add (K':=K) rfl) (pe_op L3.ux_mul pe_int (pe_bm PySem.F.plainAttrs_str PySem.F.slot_str_index PySem.F.type_str_index mt_indexS (pe_gl T.g_BYTE_FIGURES rfl) (pa_cons (pv 0) pa_nil))) (pe_bm PySem.F.plainAttrs_str PySem.F.slot_str_index PySem.F.type_str_index mt_indexS (pe_gl T.g_BYTE_FIGURES rfl) (pa_cons (pv 1) pa_nil))))),fun _=>(L3.s_ret (L3.s_op L3.s_add (L3.s_op L3.s_mul L3.s_int (L3.s_indexS L3.s_str (L3.s_cons (L3.s_var 0) L3.s_nil))) (L3.s_indexS L3.s_str (L3.s_cons (L3.s_var 1) L3.s_nil)))),fun ds M Kk hM hD h=>?_⟩
  obtain ⟨a,b,rfl,h⟩:=h
  obtain ⟨⟨⟨ha,hb⟩,h1,h2⟩,k⟩:=h
  refine ⟨_,rfl,_,rfl,_,_,_,rfl,bf_ixG ha h1,.inl ⟨by decide,by decide⟩,_,rfl,_,rfl,_,_,_,rfl,bf_ixG hb h2,.inl ?_⟩
  rw [show (((hval a).toNat:Nat):Int)=hval a by omega,show (((hval b).toNat:Nat):Int)=hval b by omega]
  exact k
theorem ok_read_row (T:Txt mg) {C:Addr} {X_NoShown:Addr} (RX_NoShown:Rx P w K mg base "NoShown" X_NoShown 1 ["self", "at"] (spX1 X_NoShown "at")) (C_row_beginning:Cal P w K mg base "row_beginning" 1 ["line"] (L3.spOf ⟨C,K⟩ dRowBegG)) (C_byte_shown:Cal P w K mg base "byte_shown" 1 ["higher", "lower"] (L3.spOf ⟨C,K⟩ dByteG)) {f:Addr} {fd:FuncData} (F:Fun K "read_row" "read_row" s_read_row f fd):FnOk P w K mg base (CXE P w) 3 f fd ["line"] (L3.spOfX ⟨C,K⟩ (dReadRX X_NoShown)):=by
 refine L3.Fun.okX3 F sc_read_row (fun ds M K3 KX h=>?_) (fun cdv A outer s H E hr=>?_)
 ·obtain ⟨l,rfl,_⟩:=h
  rfl
 ·have SC:=sc_read_row
  have hu:=hr.units
  have hu1:=hu_of hr
  have hr_NoShown:Room 2 _:=hr.mono (by first | decide | omega)
  have hr_row_beginning:Room 1 _:=hr.mono (by first | decide | omega)
  have hr_byte_shown:Room 1 _:=hr.mono (by first | decide | omega)
  refine ⟨_,_,(pss_cons (ps_if (pt_cmpR (L3.ux_eq (K':=K) rfl hu) (pv 0) (pe_gl T.g_NONE_LINE rfl) (nomark _))
 (pss_one (ps_ret (pe_lst pa_nil)))
 pss_nil)
 (pss_cons (ps_set (i:=1) SC.nd rfl (Or.inl rfl) (pe_cal C_row_beginning hr_row_beginning rfl (pa_cons (pv 0) pa_nil)))
 (pss_cons (ps_if (PW.pt (pw_or (pt_cmpR (L3.ux_eq (K':=K) rfl hu) (pv 1) pe_int (nomark _)) (pw_or (pt_cmpR (L3.ux_eq (K':=K) rfl hu) (pe_op op_mod (pv 1) pe_int) pe_int (nomark _)) (pw_or1 (pt_cmpR op_lt (pv 1) (pe_callB (bk_len (K:=K) rfl) (by rfl) T.b_len PySem.boot_len (pa_cons (pv 0) pa_nil)) (nomark _))))))
 (pss_one (ps_raise RX_NoShown hr_NoShown rfl (pa_cons (pv 1) pa_nil)))
 pss_nil)
 (pss_one (ps_ret (pe_comp (T:=["place"]) (cs:=[0]) rfl (CScope.ok (by kernel_rfl)) (pi_rangeT rfl T.b_range (pa_cons pe_int (pa_cons (pv 1) (pa_cons pe_int pa_nil)))) (fun _ _ _ _=>(pg_name (i:=0) (nd_of (by kernel_rfl)) rfl (Or.inl rfl) (Or.inr rfl))) (fun _ _ _ _=>pts_nil) (fun _ _ _ _=>(pe_cal C_byte_shown hr_byte_shown rfl (pa_cons (pe_ix (L3.ux_ix (K':=K) rfl) (pv 1) (pv 0) (fun _ _=>rfl)) (pa_cons (pe_ix (L3.ux_ix (K':=K) rfl) (pv 1) (pe_op (L3.ux_add (K':=K) rfl) (pv 0) pe_int) (fun _ _=>rfl)) pa_nil)))) (gk_name (by decide)))))))),fun _ _ he hk hx=>(L3.s_seq (L3.s_ifS (L3.s_test (L3.s_op L3.s_eq (L3.s_var 0) L3.s_str))
 (L3.s_ret (L3.s_lstC L3.s_nil))
 L3.s_next)
 (L3.s_seq (L3.s_asg (L3.s_call (L3.s_cons (L3.s_var 0) L3.s_nil)) (L3.s_g 1))
 (L3.s_seq (L3.s_ifS (L3.s_or (L3.s_test (L3.s_op L3.s_eq (L3.s_var 1) L3.s_int)) (L3.s_or (L3.s_test (L3.s_op L3.s_eq (L3.s_op L3.s_mod (L3.s_var 1) L3.s_int) L3.s_int)) (L3.s_test (L3.s_op L3.s_lt (L3.s_var 1) (L3.s_cb L3.s_len (L3.s_cons (L3.s_var 0) L3.s_nil))))))
 (L3.s_raise1 he hk hx (L3.s_cons (L3.s_var 1) L3.s_nil))
 L3.s_next)
 (L3.s_ret (L3.s_compC (L3.s_irT (L3.s_cons L3.s_int (L3.s_cons (L3.s_var 1) (L3.s_cons L3.s_int L3.s_nil)))) (L3.s_g 0) L3.s_true (L3.s_call (L3.s_cons (L3.s_op L3.s_ix (L3.s_var 1) (L3.s_var 0)) (L3.s_cons (L3.s_op L3.s_ix (L3.s_var 1) (L3.s_op L3.s_add (L3.s_var 0) L3.s_int)) L3.s_nil)))))))),fun ds M Kk KX hM hD h=>?_⟩
  obtain ⟨l,rfl,h⟩:=h
  obtain ⟨⟨hc,hl⟩,k⟩:=h
  have sl:(mkS l).length<=sizeLine:=by rw [mk_len]; exact small_line (by omega)
  refine ⟨_,rfl,.inl ⟨_,rfl,_,rfl,?_⟩⟩
  rw [da_eq]
  refine ite2 (fun h0=>?_) (fun h0=>?_)
  ·exact ⟨Nat.zero_le _,.inl ((k _ _ (.da (of_decide_eq_true h0))).1 [] rfl)⟩
  have h0:=of_decide_eq_false (Bool.not_eq_true _ ▸ h0)
  have tst:∀ (h:Nat) (v:List (Option D)),v=[some (.str (mkS l)),some (.int h)]->∀ K:Bool->Mem->Prop,K (decide (h=0) || (decide (h % 2=1) || decide (h < l.length))) M->uOr (uB3 (uOp eq3 (uVar 1) (uC (D.int 0)))) (uOr (uB3 (uOp eq3 (uOp (int3 (fun x j=>0 < j) fun i j=>D.int (i % j)) (uVar 1) (uC (D.int 2))) (uC (D.int 1)))) (uB3 (uOp (int30 fun i j=>D.bl (decide (i < j))) (uVar 1) (uCB len3 (uCons (uVar 0) uNil))))) v M K:=by
   rintro h v rfl
   refine or_by (fun K z=>⟨_,rfl,.inl ⟨_,rfl,_,rfl,?_⟩⟩) fun _=>or_by (fun K z=>⟨_,rfl,_,_,rfl,rfl,(show (0:Int) < 2 by decide),.inl ⟨_,rfl,_,rfl,?_⟩⟩) fun _ K z=>⟨_,rfl,_,rfl,sl,_,_,rfl,rfl,_,rfl,?_⟩
   ·rw [show decide ((h:Int)=0)=decide (h=0) by rw [decide_eq_decide]; omega]; exact z
   ·rw [show decide ((h:Int) % 2=1)=decide (h % 2=1) by rw [decide_eq_decide]; omega]; exact z
   ·rw [mk_len,show decide ((h:Int) < (l.length:Int))=decide (h < l.length) by rw [decide_eq_decide]; omega]; exact z
  refine ⟨_,rfl,l,rfl,⟨hc,hl⟩,fun h1=>?_,fun h1 h a=>?_⟩
  ·refine g_nx ?_
   refine if_by (tst 1 _ rfl) ?_
   rw [show (decide (1=0) || (decide (1 % 2=1) || decide (1 < l.length)))=true from rfl]
   exact iteT ⟨_,rfl,_,rfl,(k _ _ (.one h0 h1)).2 rfl _ (List.prefix_refl _)⟩
  ·refine g_nx ?_
   refine if_by (tst h _ rfl) (ite2 (fun z=>?_) (fun z=>?_))
   ·refine ⟨_,rfl,_,rfl,(k _ _ (.no h1 a ?_)).2 rfl _ (List.prefix_refl _)⟩
    simpa [Bool.or_eq_true,decide_eq_true_eq] using z
   have z:¬ (h=0\/h % 2=1\/h < l.length):=by simpa [Bool.or_eq_true,decide_eq_true_eq] using z
   have eh:h=l.length:=by have:=a.2.1; omega
   subst eh
   obtain ⟨m,em⟩:∃ m,l.length=2 * m:=⟨l.length / 2,by omega⟩
   refine ⟨_,rfl,m,by rw [em,show ((2 * m:Nat):Int)=2 * (m:Int) by omega],by omega,?_⟩
   refine ⟨small_line (by show m<=100000; omega),fun i ys M'=>M=M'/\ys=((List.range i).map fun k=>16 * hxs l (2 * k) + hxs l (2 * k + 1)).map D.int,fun _ _ _ _ _=>trivial,⟨rfl,rfl⟩,?_,?_⟩
   ·rintro i x ys _ hi rfl ⟨rfl,rfl⟩
    have hi:i < m:=hi
    have b1:2 * i < l.length:=by omega
    have b2:2 * i + 1 < l.length:=by omega
    have x1:hxs l (2 * i)=hval l[2 * i]:=by unfold hxs; rw [gd b1]
    have x2:hxs l (2 * i + 1)=hval l[2 * i + 1]:=by unfold hxs; rw [gd b2]
    refine ⟨_,rfl,_,rfl,_,l[2 * i],rfl,sl,?_,_,rfl,_,rfl,_,l[2 * i + 1],rfl,sl,?_,l[2 * i],l[2 * i + 1],rfl,⟨⟨hc _ (List.getElem_mem _),hc _ (List.getElem_mem _)⟩,x1 ▸ a.2.2.1 _ b1,x2 ▸ a.2.2.1 _ b2⟩,?_⟩
    ·rw [show 2 * (i:Int)=((2 * i:Nat):Int) by omega]; exact mk_at (List.getElem?_eq_getElem b1)
    ·rw [show 2 * (i:Int) + 1=((2 * i + 1:Nat):Int) by omega]; exact mk_at (List.getElem?_eq_getElem b2)
    refine ⟨rfl,?_⟩
    rw [List.range_succ,List.map_append,List.map_append,<- x1,<- x2]
    rfl
   ·rintro ys _ ⟨rfl,rfl⟩
    have e:=(k _ _ (.yes h1 a (by omega))).1 _ rfl
    rw [show ((rowV l l.length).map some).map oD=((List.range (rngTw m).n).map fun k=>16 * hxs l (2 * k) + hxs l (2 * k + 1)).map D.int by
     rw [List.map_map]
     unfold rowV
     rw [show (l.length + 1) / 2=m by omega,List.map_map,List.map_map]
     refine List.map_congr_left fun k hk=>?_
     have:=List.mem_range.mp hk
     show oD (some (16 * hxs l (2 * k) + if 2 * k + 1 < l.length then hxs l (2 * k + 1) else 0))=_
     rw [if_pos (by omega)]
     rfl] at e
    exact .inl e
open L3
open PySem.NumText
theorem ok_are_sign (T:Txt mg) {C:Addr}  {f:Addr} {fd:FuncData} (F:Fun K "are_sign" "are_sign" s_are_sign f fd):FnOk P w K mg base CX0 1 f fd ["figures"] (L3.spOf ⟨C,K⟩ dAreG):=by
 refine L3.Fun.ok3 F sc_are_sign (fun ds M K3 h=>?_) (fun cdv A outer s H E hr=>?_)
 ·obtain ⟨p,rfl,_⟩:=h
  rfl
 ·have SC:=sc_are_sign
  have hu:=hr.units
  have hu1:=hu_of hr
  refine ⟨_,_,(pss_one (ps_ret (pe_and (pe_or (pe_cmpR (L3.ux_eq (K':=K) rfl hu) (pe_callB (bk_len (K:=K) rfl) (by rfl) T.b_len PySem.boot_len (pa_cons (pv 0) pa_nil)) pe_int (nomark _)) (pe_one (pe_cmpR (L3.ux_ne (K':=K) rfl hu) (pe_ix (L3.ux_ix (K':=K) rfl) (pv 0) pe_int (fun _ _=>rfl)) pe_str (nomark _)))) (pe_one (pe_cmpR op_le (pe_callTy call_intS (by rfl) T.b_int PyProof.Rows.boot_int (pa_cons (pv 0) pa_nil)) (pe_gl T.g_GREATEST_SIGN rfl) (nomark _)))))),fun _=>(L3.s_ret (L3.s_andV (L3.s_orV (L3.s_op L3.s_eq (L3.s_cb L3.s_len (L3.s_cons (L3.s_var 0) L3.s_nil)) L3.s_int) (L3.s_op L3.s_ne (L3.s_op L3.s_ix (L3.s_var 0) L3.s_int) L3.s_str)) (L3.s_op L3.s_le (L3.s_cb L3.s_intS (L3.s_cons (L3.s_var 0) L3.s_nil)) L3.s_int))),fun ds M Kk hM hD h=>?_⟩
  obtain ⟨p,rfl,h⟩:=h
  obtain ⟨⟨ha,hn,hl⟩,k⟩:=h
  have sl:(mkS p).length<=sizeLine:=by rw [mk_len]; exact small_line (by omega)
  have ev:PySem.intText? (mkS p)=some ((digitsVal p:Nat):Int):=PySem.intText_digits (x:=mkS p) ha hn (by rw [mk_len]; omega)
  have fin:(p.length=1\/p[0]?≠some 48)->∀ {K:K3},K (.bl (decide (digitsVal p<=1000000000))) M->uOp (int30 fun i j=>D.bl (decide (i<=j))) (uCB intS3 (uCons (uVar 0) uNil)) (uC (D.int 1000000000)) (start3 [Str.ofString "figures"] [D.str (mkS p)]) M K:=fun _ {K} h=>⟨_,rfl,_,_,rfl,ev,by rw [mk_len]; exact hl,_,_,rfl,rfl,show K (.bl (decide (((digitsVal p:Nat):Int)<=1000000000))) M by rw [show decide (((digitsVal p:Nat):Int)<=1000000000)=decide (digitsVal p<=1000000000) by rw [decide_eq_decide]; omega]; exact h⟩
  have yes:(p.length=1\/p[0]?≠some 48)->Dk (List.length M) Kk (.bl (decide (digitsVal p<=1000000000))) M:=fun h1=>.inl (by
   rw [show decide ((p.length=1\/p[0]?≠some 48)/\digitsVal p<=1000000000)=decide (digitsVal p<=1000000000) by rw [decide_eq_decide]; exact and_iff_right h1] at k
   exact k)
  have hp:=List.length_pos_iff.mpr hn
  refine ⟨_,rfl,sl,.inl ⟨_,rfl,_,rfl,ite2 (fun h0=>?_) (fun h0=>?_)⟩⟩
  ·have h0:=of_decide_eq_true h0
   rw [mk_len] at h0
   exact ⟨_,rfl,iteT (fin (.inl (by omega)) (yes (.inl (by omega))))⟩
  ·have h0:=of_decide_eq_false (Bool.not_eq_true _ ▸ h0)
   rw [mk_len] at h0
   have a0:p[0]?=some p[0]:=List.getElem?_eq_getElem hp
   refine ⟨_,rfl,_,p[0],rfl,sl,mk_at (i:=0) a0,.inl ⟨_,rfl,_,rfl,?_⟩⟩
   by_cases e:p[0]=48
   ·rw [show decide ((⟨#[p[0]]⟩:Str)=Str.ofString "0")=true from decide_eq_true (by rw [e,zero_mk]; rfl)]
    refine iteF (.inl ?_)
    rw [show decide ((p.length=1\/p[0]?≠some 48)/\digitsVal p<=1000000000)=false from decide_eq_false (fun z=>by
     rcases z.1 with z | z
     ·omega
     ·exact z (by rw [a0,e]))] at k
    exact k
   ·rw [show decide ((⟨#[p[0]]⟩:Str)=Str.ofString "0")=false from decide_eq_false (fun z=>e (by
     rw [zero_mk] at z
     exact (List.cons.inj (mk_inj (a:=[p[0]]) z)).1))]
    have ne:p[0]?≠some 48:=by rw [a0]; exact fun z=>e (Option.some.inj z)
    exact iteT (fin (.inr ne) (yes (.inr ne)))
theorem ok_thing_end (T:Txt mg) {C:Addr} (C_are_sign:Cal P w K mg base "are_sign" 1 ["figures"] (L3.spOf ⟨C,K⟩ dAreG)) {f:Addr} {fd:FuncData} (F:Fun K "thing_end" "thing_end" s_thing_end f fd):FnOk P w K mg base CX0 2 f fd ["line", "start", "with_lost"] (L3.spOf ⟨C,K⟩ dThEndG):=by
 refine L3.Fun.ok3 F sc_thing_end (fun ds M K3 h=>?_) (fun cdv A outer s H E hr=>?_)
 ·obtain ⟨l,i,b,rfl,_⟩:=h
  rfl
 ·have SC:=sc_thing_end
  have hu:=hr.units
  have hu1:=hu_of hr
  have hr_are_sign:Room 1 _:=hr.mono (by first | decide | omega)
  refine ⟨_,_,(pss_cons (ps_if (PW.pt (pw_and (pt_val (pv 2)) (pw_and1 (pt_cmpR (L3.ux_eq (K':=K) rfl hu) (pe_slice (L3.ux_sl (K':=K) rfl) (pv 0) (po_some (pv 1)) (po_some (pe_op (L3.ux_add (K':=K) rfl) (pv 1) pe_int))) (pe_gl T.g_LOST_LINE rfl) (nomark _)))))
 (pss_one (ps_ret (pe_op (L3.ux_add (K':=K) rfl) (pv 1) pe_int)))
 pss_nil)
 (pss_cons (ps_set (i:=3) SC.nd rfl (Or.inl rfl) (pv 1))
 (pss_cons (ps_while PassesOwn.never (PW.pt (pw_and (pt_cmpR op_lt (pv 3) (pe_callB (bk_len (K:=K) rfl) (by rfl) T.b_len PySem.boot_len (pa_cons (pv 0) pa_nil)) (nomark _)) (pw_and (pt_cmpR op_in_str (pe_ix (L3.ux_ix (K':=K) rfl) (pv 0) (pv 3) (fun _ _=>rfl)) (pe_gl T.g_FIGURES rfl) rfl) (pw_and1 (pt_val (pe_cal C_are_sign hr_are_sign rfl (pa_cons (pe_slice (L3.ux_sl (K':=K) rfl) (pv 0) (po_some (pv 1)) (po_some (pe_op (L3.ux_add (K':=K) rfl) (pv 3) pe_int))) pa_nil)))))))
 (pss_one (ps_aug (i:=3) SC.nd rfl (Or.inl rfl) pe_int ip_add)))
 (pss_one (ps_ret (pv 3)))))),fun _=>(L3.s_seq (L3.s_ifS (L3.s_and (L3.s_b (L3.s_var 2)) (L3.s_test (L3.s_op L3.s_eq (L3.s_sl L3.s_sl3 (L3.s_var 0) (L3.s_part (L3.s_var 1)) (L3.s_part (L3.s_op L3.s_add (L3.s_var 1) L3.s_int))) L3.s_str)))
 (L3.s_ret (L3.s_op L3.s_add (L3.s_var 1) L3.s_int))
 L3.s_next)
 (L3.s_seq (L3.s_asg (L3.s_var 1) (L3.s_g 3))
 (L3.s_seq (L3.s_while (L3.s_and (L3.s_test (L3.s_op L3.s_lt (L3.s_var 3) (L3.s_cb L3.s_len (L3.s_cons (L3.s_var 0) L3.s_nil)))) (L3.s_and (L3.s_test (L3.s_op L3.s_inZ (L3.s_op L3.s_ix (L3.s_var 0) (L3.s_var 3)) L3.s_str)) (L3.s_b (L3.s_call (L3.s_cons (L3.s_sl L3.s_sl3 (L3.s_var 0) (L3.s_part (L3.s_var 1)) (L3.s_part (L3.s_op L3.s_add (L3.s_var 3) L3.s_int))) L3.s_nil)))))
 (L3.s_aug L3.s_int))
 (L3.s_ret (L3.s_var 3))))),fun ds M Kk hM hD h=>?_⟩
  obtain ⟨l,i,b,rfl,h⟩:=h
  obtain ⟨⟨⟨hc,hl⟩,hi⟩,k1,k2⟩:=h
  have sl:(mkS l).length<=sizeLine:=by rw [mk_len]; exact small_line (by omega)
  refine ifS_and (c1:=b) (c2:=decide ((l.drop i).take 1=[63])) (fun K h=>⟨_,rfl,_,rfl,h⟩) (fun _ K h=>⟨_,rfl,_,rfl,_,rfl,_,rfl,_,rfl,sl,.inl ⟨_,rfl,_,rfl,?_⟩⟩) (ite2 (fun hq=>?_) (fun hq=>?_))
  ·rw [mk_one hi,qu_eq]; exact h
  ·rw [Bool.and_eq_true,decide_eq_true_eq] at hq
   have ht:thing b (l.drop i)=some (1,none):=by
    cases hz:l.drop i with
    | nil=>rw [hz] at hq; exact nomatch hq.2
    | cons c r =>
     rw [hz] at hq
     rw [thing,if_pos ⟨hq.1,(List.cons.inj hq.2).1⟩]
   refine ⟨_,rfl,.inl ?_⟩
   rw [show (i:Int) + 1=((i + 1:Nat):Int) by omega]
   exact k1 _ _ ht
  have hq':∀ (h:i < l.length),¬ (b=true/\l[i]=63):=fun h z=>hq (by
   rw [Bool.and_eq_true,decide_eq_true_eq]
   exact ⟨z.1,by rw [List.drop_eq_getElem_cons h,z.2]; rfl⟩)
  refine ⟨_,rfl,?_⟩
  refine ⟨fun m ρ M'=>∃ j:Nat,i + j + m=l.length/\(j=0\/Begun b l i j)/\ρ=[some (.str (mkS l)),some (.int i),some (.bl b),some (.int ((i:Int) + (j:Int)))]/\M=M',⟨l.length - i,0,by omega,.inl rfl,by rw [show (i:Int) + ((0:Nat):Int)=i by omega]; rfl,rfl⟩,?_⟩
  rintro m ρ _ ⟨j,hj,hb,rfl,rfl⟩
  have out1:∀ o,thing b (l.drop i)=some (j,o)->Dk (List.length M) Kk (D.int ((i:Int) + (j:Int))) M:=fun o h=>.inl (by rw [<- Int.natCast_add]; exact k1 _ _ h)
  have out2:j=0->thing b (l.drop i)=none->Dk (List.length M) Kk (D.int ((i:Int) + (j:Int))) M:=fun e h=>.inl (by rw [e,show (i:Int) + ((0:Nat):Int)=i by omega]; exact k2 h)
  refine ⟨_,rfl,_,rfl,sl,_,_,rfl,rfl,_,rfl,?_⟩
  rw [mk_len]
  by_cases hm:m=0
  ·rw [decide_eq_false (by omega)]
   refine ⟨_,rfl,?_⟩
   rcases hb with e | B
   ·exact out2 e (by rw [List.drop_eq_nil_of_le (by omega)]; rfl)
   ·exact out1 _ (B.stop fun z=>absurd z (by omega))
  rw [decide_eq_true (by omega)]
  have hjl:i + j < l.length:=by omega
  refine ⟨_,rfl,_,rfl,_,l[i + j],rfl,sl,(by rw [<- Int.natCast_add]; exact mk_at (List.getElem?_eq_getElem hjl)),_,_,rfl,rfl,_,rfl,?_⟩
  rw [show (⟨#[l[i + j]]⟩:Str)=mkS [l[i + j]] from rfl,fg_inG (hc _ (List.getElem_mem hjl))]
  refine ite2 (fun hd=>?_) (fun hd=>?_)
  ·have hd':=isDg_iff.mp hd
   have cut:Txt.slice (mkS l) (some (i:Int)) (some ((i:Int) + (j:Int) + 1))=mkS ((l.drop i).take (j + 1)):=by
    rw [show (i:Int) + (j:Int) + 1=((i + (j + 1):Nat):Int) by omega,mk_sl (by omega) (by omega),Nat.add_sub_cancel_left]
   have lt1:((l.drop i).take (j + 1)).length=j + 1:=by rw [List.length_take,List.length_drop]; omega
   have all1:AllDigits ((l.drop i).take (j + 1)):=by
    rw [take_one hjl]
    intro c hc
    rcases List.mem_append.mp hc with z | z
    ·rcases hb with e | B
     ·rw [e] at z; exact nomatch z
     ·exact B.all c z
    ·rw [List.mem_singleton.mp z]; exact hd'
   have j10:j<=10:=by
    rcases hb with e | B
    ·omega
    ·exact B.tn
   refine ⟨_,rfl,_,rfl,_,rfl,_,rfl,_,rfl,sl,(l.drop i).take (j + 1),by rw [cut],⟨all1,(fun e=>by rw [e] at lt1; exact nomatch lt1),by omega⟩,_,rfl,ite2 (fun hs=>?_) (fun hs=>?_)⟩
   ·have hs:=of_decide_eq_true hs
    refine ⟨_,rfl,_,rfl,m - 1,by omega,.inl ⟨j + 1,by omega,.inr ?_,by rw [show (i:Int) + ((j + 1:Nat):Int)=(i:Int) + (j:Int) + 1 by omega]; rfl,rfl⟩⟩
    rcases hb with e | B
    ·subst e
     exact Begun.one hjl hd (hq' hjl)
    ·have h2:=hs.2
     rw [take_one hjl,dv_snoc] at h2
     refine B.next hjl hd (fun z=>?_) h2
     have:=B.pos
     rcases hs.1 with h1 | h1
     ·omega
     ·rw [List.getElem?_take_of_lt (by omega)] at h1
      exact h1 (B.zr.mpr z)
   ·have hs:=of_decide_eq_false (Bool.not_eq_true _ ▸ hs)
    rcases hb with e | B
    ·subst e
     exact absurd ⟨.inl lt1,by rw [take_one hjl,dv_snoc]; show 10 * 0 + (l[i + 0] - 48)<=_; omega⟩ hs
    ·refine ⟨_,rfl,out1 _ (B.stop fun _ z=>hs ⟨.inr ?_,?_⟩)⟩
     ·rw [List.getElem?_take_of_lt (by omega)]
      exact fun y=>z.2.1 (B.zr.mp y)
     ·rw [take_one hjl,dv_snoc]; exact z.2.2
  ·refine ⟨_,rfl,?_⟩
   rcases hb with e | B
   ·subst e
    refine out2 rfl ?_
    rw [List.drop_eq_getElem_cons (show i < l.length from hjl),thing,if_neg (hq' hjl),if_neg (show ¬ isDg l[i]=true from hd)]
   ·exact out1 _ (B.stop fun _ z=>hd z.1)
theorem ok_thing_shown (T:Txt mg) {C:Addr}  {f:Addr} {fd:FuncData} (F:Fun K "thing_shown" "thing_shown" s_thing_shown f fd):FnOk P w K mg base CX0 1 f fd ["part"] (L3.spOf ⟨C,K⟩ dThShownG):=by
 refine L3.Fun.ok3 F sc_thing_shown (fun ds M K3 h=>?_) (fun cdv A outer s H E hr=>?_)
 ·obtain ⟨p,o,rfl,_⟩:=h
  rfl
 ·have SC:=sc_thing_shown
  have hu:=hr.units
  have hu1:=hu_of hr
  refine ⟨_,_,(pss_one (ps_ret (pe_ifExp (pt_cmpR (L3.ux_eq (K':=K) rfl hu) (pv 0) (pe_gl T.g_LOST_LINE rfl) (nomark _)) pe_non (pe_callTy call_intS (by rfl) T.b_int PyProof.Rows.boot_int (pa_cons (pv 0) pa_nil))))),fun _=>(L3.s_ret (L3.s_if (L3.s_test (L3.s_op L3.s_eq (L3.s_var 0) L3.s_str)) L3.s_non (L3.s_cb L3.s_intS (L3.s_cons (L3.s_var 0) L3.s_nil)))),fun ds M Kk hM hD h=>?_⟩
  obtain ⟨p,o,rfl,h⟩:=h
  obtain ⟨ho,k⟩:=h
  refine ⟨_,rfl,.inl ⟨_,rfl,_,rfl,?_⟩⟩
  rw [qu_eq]
  rcases ho with ⟨rfl,rfl⟩ | ⟨ha,hn,hl,rfl⟩
  ·rw [decide_eq_true rfl]
   exact iteT (.inl k)
  ·rw [decide_eq_false (fun e=>by
    have:=ha 63 (by rw [e]; exact List.mem_cons_self)
    omega)]
   exact iteF ⟨_,rfl,_,_,rfl,PySem.intText_digits (x:=mkS p) ha hn (by rw [mk_len]; omega),(by rw [mk_len]; exact hl),.inl k⟩
theorem ok_read_listed (T:Txt mg) {C:Addr} {X_NoShown:Addr} (RX_NoShown:Rx P w K mg base "NoShown" X_NoShown 1 ["self", "at"] (spX1 X_NoShown "at")) (C_thing_end:Cal P w K mg base "thing_end" 2 ["line", "start", "with_lost"] (L3.spOf ⟨C,K⟩ dThEndG)) (C_thing_shown:Cal P w K mg base "thing_shown" 1 ["part"] (L3.spOf ⟨C,K⟩ dThShownG)) {f:Addr} {fd:FuncData} (F:Fun K "read_listed" "read_listed" s_read_listed f fd):FnOk P w K mg base (CXE P w) 3 f fd ["line", "most", "with_lost"] (L3.spOfX ⟨C,K⟩ (dListedX X_NoShown)):=by
 refine L3.Fun.okX3 F sc_read_listed (fun ds M K3 KX h=>?_) (fun cdv A outer s H E hr=>?_)
 ·obtain ⟨l,m,b,rfl,_⟩:=h
  rfl
 ·have SC:=sc_read_listed
  have hu:=hr.units
  have hu1:=hu_of hr
  have hr_NoShown:Room 2 _:=hr.mono (by first | decide | omega)
  have hr_thing_end:Room 2 _:=hr.mono (by first | decide | omega)
  have hr_thing_shown:Room 1 _:=hr.mono (by first | decide | omega)
  refine ⟨_,_,(pss_cons (ps_if (pt_cmpR (L3.ux_eq (K':=K) rfl hu) (pv 0) (pe_gl T.g_NONE_LINE rfl) (nomark _))
 (pss_one (ps_ret (pe_lst pa_nil)))
 pss_nil)
 (pss_cons (ps_if (pt_val (pe_bm PySem.F.plainAttrs_str PySem.F.slot_str_startswith PySem.F.type_str_startswith mt_starts (pv 0) (pa_cons (pe_gl T.g_NONE_LINE rfl) pa_nil)))
 (pss_one (ps_raise RX_NoShown hr_NoShown rfl (pa_cons (pe_callB (bk_len (K:=K) rfl) (by rfl) T.b_len PySem.boot_len (pa_cons (pe_gl T.g_NONE_LINE rfl) pa_nil)) pa_nil)))
 pss_nil)
 (pss_cons (ps_set (i:=3) SC.nd rfl (Or.inl rfl) (pe_lst pa_nil))
 (pss_cons (ps_set (i:=4) SC.nd rfl (Or.inl rfl) pe_int)
 (pss_one (ps_while PassesOwn.leaving (pt_val pe_bl)
 (pss_cons (ps_set (i:=5) SC.nd rfl (Or.inl rfl) (pe_cal C_thing_end hr_thing_end rfl (pa_cons (pv 0) (pa_cons (pv 4) (pa_cons (pv 2) pa_nil)))))
 (pss_cons (ps_if (pt_cmpR (L3.ux_eq (K':=K) rfl hu) (pv 5) (pv 4) (nomark _))
 (pss_one (ps_raise RX_NoShown hr_NoShown rfl (pa_cons (pv 4) pa_nil)))
 pss_nil)
 (pss_cons (ps_expr (pe_bm PySem.F.plainAttrs_list PySem.F.slot_list_append PySem.F.type_list_append mt_append (pv 3) (pa_cons (pe_cal C_thing_shown hr_thing_shown rfl (pa_cons (pe_slice (L3.ux_sl (K':=K) rfl) (pv 0) (po_some (pv 4)) (po_some (pv 5))) pa_nil)) pa_nil)))
 (pss_cons (ps_if (pt_cmpR (L3.ux_eq (K':=K) rfl hu) (pv 5) (pe_callB (bk_len (K:=K) rfl) (by rfl) T.b_len PySem.boot_len (pa_cons (pv 0) pa_nil)) (nomark _))
 (pss_one (ps_ret (pv 3)))
 pss_nil)
 (pss_cons (ps_if (PW.pt (pw_or (pt_cmpR (L3.ux_ne (K':=K) rfl hu) (pe_ix (L3.ux_ix (K':=K) rfl) (pv 0) (pv 5) (fun _ _=>rfl)) pe_str (nomark _)) (pw_or1 (pt_cmpR (L3.ux_eq (K':=K) rfl hu) (pe_callB (bk_len (K:=K) rfl) (by rfl) T.b_len PySem.boot_len (pa_cons (pv 3) pa_nil)) (pv 1) (nomark _)))))
 (pss_one (ps_raise RX_NoShown hr_NoShown rfl (pa_cons (pv 5) pa_nil)))
 pss_nil)
 (pss_one (ps_set (i:=4) SC.nd rfl (Or.inl rfl) (pe_op (L3.ux_add (K':=K) rfl) (pv 5) pe_int)))))))))))))),fun _ _ he hk hx=>(L3.s_seq (L3.s_ifS (L3.s_test (L3.s_op L3.s_eq (L3.s_var 0) L3.s_str))
 (L3.s_ret (L3.s_lstC L3.s_nil))
 L3.s_next)
 (L3.s_seq (L3.s_ifS (L3.s_b (L3.s_starts (L3.s_var 0) (L3.s_cons L3.s_str L3.s_nil)))
 (L3.s_raise1 he hk hx (L3.s_cons (L3.s_cb L3.s_len (L3.s_cons L3.s_str L3.s_nil)) L3.s_nil))
 L3.s_next)
 (L3.s_seq (L3.s_asg (L3.s_lstC L3.s_nil) (L3.s_g 3))
 (L3.s_seq (L3.s_asg L3.s_int (L3.s_g 4))
 (L3.s_while (L3.s_b L3.s_bl)
 (L3.s_seq (L3.s_asg (L3.s_call (L3.s_cons (L3.s_var 0) (L3.s_cons (L3.s_var 4) (L3.s_cons (L3.s_var 2) L3.s_nil)))) (L3.s_g 5))
 (L3.s_seq (L3.s_ifS (L3.s_test (L3.s_op L3.s_eq (L3.s_var 5) (L3.s_var 4)))
 (L3.s_raise1 he hk hx (L3.s_cons (L3.s_var 4) L3.s_nil))
 L3.s_next)
 (L3.s_seq (L3.s_drop (L3.s_append (L3.s_var 3) (L3.s_cons (L3.s_call (L3.s_cons (L3.s_sl L3.s_sl3 (L3.s_var 0) (L3.s_part (L3.s_var 4)) (L3.s_part (L3.s_var 5))) L3.s_nil)) L3.s_nil)))
 (L3.s_seq (L3.s_ifS (L3.s_test (L3.s_op L3.s_eq (L3.s_var 5) (L3.s_cb L3.s_len (L3.s_cons (L3.s_var 0) L3.s_nil))))
 (L3.s_ret (L3.s_var 3))
 L3.s_next)
 (L3.s_seq (L3.s_ifS (L3.s_or (L3.s_test (L3.s_op L3.s_ne (L3.s_op L3.s_ix (L3.s_var 0) (L3.s_var 5)) L3.s_str)) (L3.s_test (L3.s_op L3.s_eq (L3.s_cb L3.s_len (L3.s_cons (L3.s_var 3) L3.s_nil)) (L3.s_var 1))))
 (L3.s_raise1 he hk hx (L3.s_cons (L3.s_var 5) L3.s_nil))
 L3.s_next)
 (L3.s_asg (L3.s_op L3.s_add (L3.s_var 5) L3.s_int) (L3.s_g 4)))))))))))),fun ds M Kk KX hM hD h=>?_⟩
  obtain ⟨l,m,b,rfl,h⟩:=h
  obtain ⟨⟨⟨hc,hl⟩,m0,m1⟩,k⟩:=h
  have sl:(mkS l).length<=sizeLine:=by rw [mk_len]; exact small_line (by omega)
  refine ⟨_,rfl,.inl ⟨_,rfl,_,rfl,?_⟩⟩
  rw [da_eq]
  refine ite2 (fun h0=>?_) (fun h0=>?_)
  ·exact ⟨Nat.zero_le _,.inl ((k _ _ (.inl ⟨of_decide_eq_true h0,rfl,rfl⟩)).1 [] rfl)⟩
  have h0:=of_decide_eq_false (Bool.not_eq_true _ ▸ h0)
  refine ⟨_,rfl,_,rfl,_,rfl,?_⟩
  rw [st_da]
  refine ⟨_,rfl,ite2 (fun h1=>?_) (fun h1=>?_)⟩
  ·have h1:=of_decide_eq_true h1
   exact ⟨(show 1<=sizeLine by decide),_,rfl,(k _ _ (.inr (.inl ⟨h0,h1,rfl,rfl⟩))).2 rfl _ (List.prefix_refl _)⟩
  have h1:=of_decide_eq_false (Bool.not_eq_true _ ▸ h1)
  refine ⟨Nat.zero_le _,?_⟩
  refine ⟨fun q ρ M'=>∃ (es:List (Option Int)) (i:Nat) (v5:Option D),i + q=l.length/\es.length < m/\(∀ R p,WkL b m (l.drop i) es i R p->WkL b m l [] 0 R p)/\ρ=[some (.str (mkS l)),some (.int m),some (.bl b),some (.cell M.length),some (.int i),v5]/\M++[.lst (es.map oD)]=M',⟨l.length,[],0,_,by omega,m0,fun _ _ h=>h,rfl,rfl⟩,?_⟩
  rintro q ρ _ ⟨es,i,v5,hi,he,hw,rfl,rfl⟩
  refine ⟨_,rfl,?_⟩
  refine iteT ⟨_,rfl,_,rfl,_,rfl,l,i,b,rfl,⟨⟨hc,hl⟩,by omega⟩,fun n o ht=>?_,fun ht=>?_⟩
  ·obtain ⟨n0,n1,po⟩:=thing_part ht
   rw [List.length_drop] at n1
   refine ⟨_,rfl,_,rfl,.inl ⟨_,rfl,_,rfl,?_⟩⟩
   rw [decide_eq_false (by omega)]
   refine iteF ⟨_,rfl,ls_some ls_last,_,rfl,_,rfl,_,rfl,_,rfl,_,rfl,sl,(l.drop i).take n,o,?_,po,?_⟩
   ·rw [mk_sl (by omega) (by omega),Nat.add_sub_cancel_left]
   have f5:(M++[MO.lst (es.map oD)]).set M.length (.lst (es.map oD++[oD o]))=M++[MO.lst ((es++[o]).map oD)]:=by
    rw [List.set_append_right _ _ (Nat.le_refl _),Nat.sub_self,List.map_append]
    rfl
   refine ⟨M.length,_,_,rfl,rfl,List.getElem?_concat_length,Nat.lt_of_le_of_lt (by rw [List.length_map]; omega:(es.map oD).length<=1000) (by decide),?_⟩
   rw [f5]
   refine ⟨_,rfl,_,rfl,sl,.inl ⟨_,rfl,_,rfl,?_⟩⟩
   rw [mk_len]
   refine ite2 (fun hz=>?_) (fun hz=>?_)
   ·have hz:=of_decide_eq_true hz
    refine ⟨_,rfl,.inl ?_⟩
    exact (k _ _ (.inr (.inr ⟨h1,hw _ _ (.fin ht (List.drop_eq_nil_of_le (by rw [List.length_drop]; omega)))⟩))).1 _ rfl
   have hz:=of_decide_eq_false (Bool.not_eq_true _ ▸ hz)
   have hil:i + n < l.length:=by omega
   have ga:((l.drop i).drop n)[0]?=some l[i + n]:=by
    rw [List.drop_drop,List.getElem?_drop]
    exact List.getElem?_eq_getElem hil
   show uIfS (uOr (uB3 (uOp ne3 (uOp ix3 (uVar 0) (uVar 5)) (uC (D.str (Str.ofString "."))))) (uB3 (uOp eq3 (uCB len3 (uCons (uVar 3) uNil)) (uVar 1)))) _ _ _ _ _
   refine if_by (c:=!decide (l[i + n]=46) || decide (es.length + 1=m)) (or_by (fun K z=>⟨_,rfl,_,rfl,_,l[i + n],rfl,sl,mk_at (List.getElem?_eq_getElem hil),.inl ⟨_,rfl,_,rfl,?_⟩⟩) fun _ K z=>⟨_,rfl,?_⟩) (ite2 (fun hs=>?_) (fun hs=>?_))
   ·rw [show decide ((⟨#[l[i + n]]⟩:Str)=Str.ofString ".")=decide (l[i + n]=46) by
     rw [decide_eq_decide,show Str.ofString "."=mkS [46] from by decide +kernel]
     exact ⟨fun y=>(List.cons.inj (mk_inj (a:=[l[i + n]]) y)).1,fun y=>by rw [y]; rfl⟩]
    exact z
   ·dsimp only [uNil]
    refine len_ls ls_last ?_
    refine ⟨_,rfl,.inl ⟨_,rfl,_,rfl,?_⟩⟩
    rw [show decide ((((es++[o]).map oD).length:Int)=(m:Int))=decide (es.length + 1=m) by
     rw [decide_eq_decide,List.length_map,List.length_append]
     show ((es.length + 1:Nat):Int)=m↔_
     omega]
    exact z
   ·rw [Bool.or_eq_true,Bool.not_eq_true',decide_eq_false_iff_not,decide_eq_true_eq] at hs
    exact ⟨_,rfl,_,rfl,(k _ _ (.inr (.inr ⟨h1,hw _ _ (.stop ht ga hs)⟩))).2 rfl _ (List.prefix_append _ _)⟩
   ·rw [Bool.or_eq_true,Bool.not_eq_true',decide_eq_false_iff_not,decide_eq_true_eq] at hs
    have hs1:l[i + n]=46:=Classical.byContradiction fun z=>hs (.inl z)
    have hs2:es.length + 1≠m:=fun z=>hs (.inr z)
    rw [hs1] at ga
    exact ⟨_,rfl,q - (n + 1),by omega,.inl ⟨es++[o],i + n + 1,some (.int ((i + n:Nat):Int)),by omega,by rw [List.length_append]; show es.length + 1 < m; omega,fun R p hh=>hw R p (.go ht ga hs2 (by rw [List.drop_drop]; exact hh)),(by rw [show ((i + n + 1:Nat):Int)=((i + n:Nat):Int) + 1 by omega]; rfl),rfl⟩⟩
  ·refine ⟨_,rfl,_,rfl,.inl ⟨_,rfl,_,rfl,?_⟩⟩
   rw [decide_eq_true rfl]
   exact iteT ⟨_,rfl,_,rfl,(k _ _ (.inr (.inr ⟨h1,hw _ _ (.bad ht)⟩))).2 rfl _ (List.prefix_append _ _)⟩
theorem ok_read_text (T:Txt mg) {C:Addr} {X_NoShown:Addr} (C_read_listed:CalE P w K mg base "read_listed" 3 ["line", "most", "with_lost"] (L3.spOfX ⟨C,K⟩ (dListedX X_NoShown))) {f:Addr} {fd:FuncData} (F:Fun K "read_text" "read_text" s_read_text f fd):FnOk P w K mg base (CXE P w) 4 f fd ["line"] (L3.spOfX ⟨C,K⟩ (dReadQX 1 X_NoShown)):=by
 refine L3.Fun.okX3 F sc_read_text (fun ds M K3 KX h=>?_) (fun cdv A outer s H E hr=>?_)
 ·obtain ⟨l,rfl,_⟩:=h
  rfl
 ·have SC:=sc_read_text
  have hu:=hr.units
  have hu1:=hu_of hr
  have hr_read_listed:Room 3 _:=hr.mono (by first | decide | omega)
  refine ⟨_,_,(pss_one (ps_ret (pe_calE C_read_listed hr_read_listed rfl passE (pa_cons (pv 0) (pa_cons (pe_gl T.g_MOST_SIGNS rfl) (pa_cons pe_bl pa_nil)))))),fun _ _ he hk hx=>(L3.s_ret (L3.s_callX he hk hx (L3.s_cons (L3.s_var 0) (L3.s_cons L3.s_int (L3.s_cons L3.s_bl L3.s_nil))))),fun ds M Kk KX hM hD h=>?_⟩
  obtain ⟨l,rfl,h⟩:=h
  exact ⟨_,rfl,l,200,false,rfl,⟨h.1,by decide,by decide⟩,fun R p hs=>⟨fun es e=>.inl ((h.2 R p hs).1 es e),fun e M' p'=>(h.2 R p hs).2 e M' p'⟩⟩
theorem ok_read_entries (T:Txt mg) {C:Addr} {X_NoShown:Addr} (C_read_listed:CalE P w K mg base "read_listed" 3 ["line", "most", "with_lost"] (L3.spOfX ⟨C,K⟩ (dListedX X_NoShown))) {f:Addr} {fd:FuncData} (F:Fun K "read_entries" "read_entries" s_read_entries f fd):FnOk P w K mg base (CXE P w) 4 f fd ["line"] (L3.spOfX ⟨C,K⟩ (dReadQX 2 X_NoShown)):=by
 refine L3.Fun.okX3 F sc_read_entries (fun ds M K3 KX h=>?_) (fun cdv A outer s H E hr=>?_)
 ·obtain ⟨l,rfl,_⟩:=h
  rfl
 ·have SC:=sc_read_entries
  have hu:=hr.units
  have hu1:=hu_of hr
  have hr_read_listed:Room 3 _:=hr.mono (by first | decide | omega)
  refine ⟨_,_,(pss_one (ps_ret (pe_calE C_read_listed hr_read_listed rfl passE (pa_cons (pv 0) (pa_cons (pe_gl T.g_MOST_ENTRIES rfl) (pa_cons pe_bl pa_nil)))))),fun _ _ he hk hx=>(L3.s_ret (L3.s_callX he hk hx (L3.s_cons (L3.s_var 0) (L3.s_cons L3.s_int (L3.s_cons L3.s_bl L3.s_nil))))),fun ds M Kk KX hM hD h=>?_⟩
  obtain ⟨l,rfl,h⟩:=h
  exact ⟨_,rfl,l,800,true,rfl,⟨h.1,by decide,by decide⟩,fun R p hs=>⟨fun es e=>.inl ((h.2 R p hs).1 es e),fun e M' p'=>(h.2 R p hs).2 e M' p'⟩⟩
open L3
theorem ok__law_row_walk (T:Txt mg) {C:Addr}  {f:Addr} {fd:FuncData} (F:Fun K "_law_row_walk" "_law_row_walk" s__law_row_walk f fd):FnOk P w K mg base CX0 1 f fd ["_law_line"] (L3.spOf ⟨C,K⟩ dWalkR):=by
 refine L3.Fun.ok3 F sc__law_row_walk (fun ds M K3 h=>?_) (fun cdv A outer s H E hr=>?_)
 ·obtain ⟨l,rfl,_⟩:=h
  rfl
 ·have SC:=sc__law_row_walk
  have hu:=hr.units
  have hu1:=hu_of hr
  refine ⟨_,_,(pss_cons (ps_set (i:=1) SC.nd rfl (Or.inl rfl) (pe_lst pa_nil))
 (pss_cons (ps_for PassesOwn.never rfl (pi_range1 rfl T.b_range (pa_cons (pe_callB (bk_len (K:=K) rfl) (by rfl) T.b_len PySem.boot_len (pa_cons (pv 0) pa_nil)) pa_nil)) (pg_name (i:=2) SC.nd rfl (Or.inl rfl))
 (pss_cons (ps_set (i:=3) SC.nd rfl (Or.inl rfl) (pe_bm PySem.F.plainAttrs_str PySem.F.slot_str_find PySem.F.type_str_find mt_find pe_str (pa_cons (pe_ix (L3.ux_ix (K':=K) rfl) (pv 0) (pv 2) (fun _ _=>rfl)) pa_nil)))
 (pss_cons (ps_if (PW.pt (pw_or (pt_cmpR op_lt (pv 3) pe_int (nomark _)) (pw_or1 (pt_cmpR (L3.ux_eq (K':=K) rfl hu) (pv 2) pe_int (nomark _)))))
 (pss_one (ps_ret (pe_tup (pa_cons pe_non (pa_cons (pv 2) pa_nil)))))
 pss_nil)
 (pss_one (ps_if (pt_cmpR (L3.ux_eq (K':=K) rfl hu) (pe_op op_mod (pv 2) pe_int) pe_int (nomark _))
 (pss_one (ps_expr (pe_bm PySem.F.plainAttrs_list PySem.F.slot_list_append PySem.F.type_list_append mt_append (pv 1) (pa_cons (pe_op L3.ux_mul pe_int (pv 3)) pa_nil))))
 (pss_one (ps_asg (pe_op (L3.ux_add (K':=K) rfl) (pe_ix (L3.ux_ix (K':=K) rfl) (pv 1) (pe_un un_neg pe_int) (fun _ _=>rfl)) (pv 3)) (pg_sub (pv 1) (pe_un un_neg pe_int) set_list))))))))
 (pss_cons (ps_if (PW.pt (pw_or (pt_cmpR (L3.ux_eq (K':=K) rfl hu) (pv 0) pe_str (nomark _)) (pw_or1 (pt_cmpR (L3.ux_eq (K':=K) rfl hu) (pe_op op_mod (pe_callB (bk_len (K:=K) rfl) (by rfl) T.b_len PySem.boot_len (pa_cons (pv 0) pa_nil)) pe_int) pe_int (nomark _)))))
 (pss_one (ps_ret (pe_tup (pa_cons pe_non (pa_cons (pe_callB (bk_len (K:=K) rfl) (by rfl) T.b_len PySem.boot_len (pa_cons (pv 0) pa_nil)) pa_nil)))))
 pss_nil)
 (pss_one (ps_ret (pe_tup (pa_cons (pv 1) (pa_cons pe_int pa_nil)))))))),fun _=>(L3.s_seq (L3.s_asg (L3.s_lstC L3.s_nil) (L3.s_g 1))
 (L3.s_seq (L3.s_for (L3.s_ir1 (L3.s_cons (L3.s_cb L3.s_len (L3.s_cons (L3.s_var 0) L3.s_nil)) L3.s_nil)) (L3.s_g 2)
 (L3.s_seq (L3.s_asg (L3.s_find L3.s_str (L3.s_cons (L3.s_op L3.s_ix (L3.s_var 0) (L3.s_var 2)) L3.s_nil)) (L3.s_g 3))
 (L3.s_seq (L3.s_ifS (L3.s_or (L3.s_test (L3.s_op L3.s_lt (L3.s_var 3) L3.s_int)) (L3.s_test (L3.s_op L3.s_eq (L3.s_var 2) L3.s_int)))
 (L3.s_ret (L3.s_tup (L3.s_cons L3.s_non (L3.s_cons (L3.s_var 2) L3.s_nil))))
 L3.s_next)
 (L3.s_ifS (L3.s_test (L3.s_op L3.s_eq (L3.s_op L3.s_mod (L3.s_var 2) L3.s_int) L3.s_int))
 (L3.s_drop (L3.s_append (L3.s_var 1) (L3.s_cons (L3.s_op L3.s_mul L3.s_int (L3.s_var 3)) L3.s_nil)))
 (L3.s_asg (L3.s_op L3.s_add (L3.s_op L3.s_ix (L3.s_var 1) (L3.s_un L3.s_neg L3.s_int)) (L3.s_var 3)) (L3.s_gsub (L3.s_var 1) (L3.s_un L3.s_neg L3.s_int)))))))
 (L3.s_seq (L3.s_ifS (L3.s_or (L3.s_test (L3.s_op L3.s_eq (L3.s_var 0) L3.s_str)) (L3.s_test (L3.s_op L3.s_eq (L3.s_op L3.s_mod (L3.s_cb L3.s_len (L3.s_cons (L3.s_var 0) L3.s_nil)) L3.s_int) L3.s_int)))
 (L3.s_ret (L3.s_tup (L3.s_cons L3.s_non (L3.s_cons (L3.s_cb L3.s_len (L3.s_cons (L3.s_var 0) L3.s_nil)) L3.s_nil))))
 L3.s_next)
 (L3.s_ret (L3.s_tup (L3.s_cons (L3.s_var 1) (L3.s_cons L3.s_int L3.s_nil))))))),fun ds M Kk hM hD h=>?_⟩
  obtain ⟨l,rfl,h⟩:=h
  obtain ⟨⟨⟨hc,hl⟩,h0⟩,k⟩:=h
  have sl:(mkS l).length<=sizeLine:=by rw [mk_len]; exact small_line (by omega)
  refine ⟨Nat.zero_le _,_,rfl,sl,_,rfl,⟨by omega,by rw [mk_len]; omega⟩,fun i ρ M'=>∃ v2 v3:Option D,i<=1600/\(∀ k,k < i->0<=hxs l k)/\ρ=[some (.str (mkS l)),some (.cell M.length),v2,v3]/\M++[.lst ((rowV l i).map .int)]=M',fun _ _ _ _ _=>trivial,⟨_,_,by decide,fun k h=>absurd h (Nat.not_lt_zero _),rfl,rfl⟩,?_,?_⟩
  ·rintro i x ρ _ hi rfl ⟨v2,v3,i16,hx,rfl,rfl⟩
   have hi:i < l.length:=by
    have hi:i < (((mkS l).length:Nat):Int).toNat:=hi
    rw [mk_len] at hi
    omega
   have ex:hxs l i=hval l[i]:=by unfold hxs; rw [gd hi]
   have hb:=hx_le l[i]
   refine ⟨_,rfl,_,rfl,_,rfl,_,l[i],rfl,sl,(by rw [Int.zero_add]; exact mk_at (List.getElem?_eq_getElem hi)),_,rfl,?_⟩
   rw [show (⟨#[l[i]]⟩:Str)=mkS [l[i]] from rfl,bf_find (hc _ (List.getElem_mem hi))]
   refine g_nx ?_
   show uIfS (uOr (uB3 (uOp (int30 fun i j=>D.bl (decide (i < j))) (uVar 3) (uC (D.int 0)))) (uB3 (uOp eq3 (uVar 2) (uC (D.int 1600))))) _ _ _ _ _
   refine if_by (c:=decide (hval l[i] < 0) || decide (i=1600)) (or_by (fun K z=>⟨_,rfl,_,_,rfl,rfl,_,rfl,z⟩) fun _ K z=>⟨_,rfl,.inl ⟨_,rfl,_,rfl,?_⟩⟩) (ite2 (fun hs=>?_) (fun hs=>?_))
   ·rw [show decide (0 + (i:Int)=1600)=decide (i=1600) by rw [decide_eq_decide]; omega]; exact z
   ·rw [Bool.or_eq_true,decide_eq_true_eq,decide_eq_true_eq] at hs
    refine ⟨_,rfl,(show 2<=sizeLine by decide),.inl (k none i _ _ (.no h0 ⟨i16,by omega,hx,fun a b=>?_⟩ (.inr (.inr hi))) (List.prefix_append _ _) ?_)⟩
    ·rw [ex]; omega
    ·show D.tup [.non,.int (0 + (i:Int))]=_
     rw [Int.zero_add]
   rw [Bool.or_eq_true,decide_eq_true_eq,decide_eq_true_eq] at hs
   have hv:0<=hval l[i]:=by omega
   have hx':∀ k,k < i + 1->0<=hxs l k:=fun k hk=>by
    rcases Nat.lt_succ_iff_lt_or_eq.mp hk with z | z
    ·exact hx k z
    ·rw [z,ex]; exact hv
   refine ⟨_,rfl,_,_,rfl,rfl,(show (0:Int) < 2 by decide),.inl ⟨_,rfl,_,rfl,ite2 (fun hp=>?_) (fun hp=>?_)⟩⟩
   ·have hp:=of_decide_eq_true hp
    obtain ⟨m,rfl⟩:∃ m,i=2 * m:=⟨i / 2,by omega⟩
    refine ⟨_,rfl,ls_some ls_last,_,rfl,.inl ⟨by decide,by decide⟩,M.length,_,_,rfl,rfl,List.getElem?_concat_length,Nat.lt_of_le_of_lt (by rw [List.length_map,rowV_len]; omega:_<=1000) (by decide),.inl ⟨_,_,by omega,hx',rfl,?_⟩⟩
    rw [List.set_append_right _ _ (Nat.le_refl _),Nat.sub_self,rowV_even,List.map_append,ex]
    rfl
   ·have hp:=of_decide_eq_false (Bool.not_eq_true _ ▸ hp)
    obtain ⟨m,rfl⟩:∃ m,i=2 * m + 1:=⟨i / 2,by omega⟩
    have er:((rowV l (2 * m + 1)).map D.int)=(rowV l (2 * m)).map D.int++[.int (16 * hxs l (2 * m))]:=by rw [rowV_even,List.map_append]; rfl
    have hm:M.length < (M++[MO.lst ((rowV l (2 * m + 1)).map .int)]).length:=by rw [List.length_append]; exact Nat.lt_succ_self _
    refine ⟨_,rfl,_,rfl,ix_ls ls_last (by rw [er]; exact L2.atI_last _ _) ⟨_,rfl,?_⟩⟩
    refine ⟨_,rfl,_,rfl,M.length,_,_,(rowV l (2 * m)).length,rfl,rfl,List.getElem?_concat_length,(by rw [er]; have:=ixN_last ((rowV l (2 * m)).map D.int) (.int (16 * hxs l (2 * m))); rw [List.length_map] at this; exact this),.inl ⟨_,_,by omega,hx',rfl,?_⟩⟩
    rw [List.set_append_right _ _ (Nat.le_refl _),Nat.sub_self,rowV_odd,List.map_append,er]
    have:=st_last ((rowV l (2 * m)).map D.int) (.int (16 * hxs l (2 * m))) (.int (16 * hxs l (2 * m) + hval l[2 * m + 1]))
    rw [List.length_map] at this
    rw [this,ex]
    rfl
  ·rintro ρ _ ⟨v2,v3,i16,hx,rfl,rfl⟩
   have en:(rngIt 0 (((mkS l).length:Nat):Int).toNat).n=l.length:=by show (((mkS l).length:Nat):Int).toNat=_; rw [mk_len]; omega
   rw [en] at i16 hx ⊢
   have ld:Lead l l.length:=⟨i16,Nat.le_refl _,hx,fun _ z=>absurd z (Nat.lt_irrefl _)⟩
   show uIfS (uOr (uB3 (uOp eq3 (uVar 0) (uC (D.str (Str.ofString ""))))) (uB3 (uOp eq3 (uOp (int3 (fun x j=>0 < j) fun i j=>D.int (i % j)) (uCB len3 (uCons (uVar 0) uNil)) (uC (D.int 2))) (uC (D.int 1))))) _ _ _ _ _
   refine if_by (c:=decide (l.length=0) || decide (l.length % 2=1)) (or_by (fun K z=>⟨_,rfl,.inl ⟨_,rfl,_,rfl,?_⟩⟩) fun _ K z=>⟨_,rfl,sl,_,_,rfl,rfl,(show (0:Int) < 2 by decide),.inl ⟨_,rfl,_,rfl,?_⟩⟩) (ite2 (fun hs=>?_) (fun hs=>?_))
   ·rw [show decide (mkS l=Str.ofString "")=decide (l.length=0) by
     rw [decide_eq_decide,show Str.ofString ""=mkS [] from by decide +kernel]
     exact ⟨fun y=>by rw [mk_inj y]; rfl,fun y=>by rw [List.length_eq_zero_iff.mp y]⟩]
    exact z
   ·rw [mk_len,show decide ((l.length:Int) % 2=1)=decide (l.length % 2=1) by rw [decide_eq_decide]; omega]
    exact z
   ·rw [Bool.or_eq_true,decide_eq_true_eq,decide_eq_true_eq] at hs
    refine ⟨_,rfl,sl,(show 2<=sizeLine by decide),.inl (k none l.length _ _ (.no h0 ld (by omega)) (List.prefix_append _ _) ?_)⟩
    show D.tup [.non,.int ((mkS l).length:Int)]=_
    rw [mk_len]
   ·rw [Bool.or_eq_true,decide_eq_true_eq,decide_eq_true_eq] at hs
    refine ⟨_,rfl,(show 2<=sizeLine by decide),.inl (k _ _ _ _ (.yes h0 ld hs) (List.prefix_append _ _) ⟨M.length,rfl,?_,?_⟩)⟩
    ·rw [List.getElem?_concat_length,List.map_map]
     rfl
    ·rw [List.length_map,rowV_len]; omega
theorem ok__law_walk (T:Txt mg) {C:Addr}  {f:Addr} {fd:FuncData} (F:Fun K "_law_walk" "_law_walk" s__law_walk f fd):FnOk P w K mg base CX0 1 f fd ["_law_line", "_law_most", "_law_holes"] (L3.spOf ⟨C,K⟩ dWalkL):=by
 refine L3.Fun.ok3 F sc__law_walk (fun ds M K3 h=>?_) (fun cdv A outer s H E hr=>?_)
 ·obtain ⟨l,m,b,rfl,_⟩:=h
  rfl
 ·have SC:=sc__law_walk
  have hu:=hr.units
  have hu1:=hu_of hr
  refine ⟨_,_,(pss_cons (ps_set (i:=3) SC.nd rfl (Or.inl rfl) (pe_lst pa_nil))
 (pss_cons (ps_set (i:=4) SC.nd rfl (Or.inl rfl) pe_bl)
 (pss_cons (ps_for PassesOwn.never rfl (pi_range1 rfl T.b_range (pa_cons (pe_callB (bk_len (K:=K) rfl) (by rfl) T.b_len PySem.boot_len (pa_cons (pv 0) pa_nil)) pa_nil)) (pg_name (i:=5) SC.nd rfl (Or.inl rfl))
 (pss_cons (ps_set (i:=6) SC.nd rfl (Or.inl rfl) (pe_ix (L3.ux_ix (K':=K) rfl) (pv 0) (pv 5) (fun _ _=>rfl)))
 (pss_cons (ps_set (i:=7) SC.nd rfl (Or.inl rfl) (pe_bm PySem.F.plainAttrs_str PySem.F.slot_str_find PySem.F.type_str_find mt_find pe_str (pa_cons (pv 6) pa_nil)))
 (pss_one (ps_if (PW.pt (pw_and (pt_val (pv 4)) (pw_and (pt_val (pv 2)) (pw_and1 (pt_cmpR (L3.ux_eq (K':=K) rfl hu) (pv 6) pe_str (nomark _))))))
 (pss_cons (ps_expr (pe_bm PySem.F.plainAttrs_list PySem.F.slot_list_append PySem.F.type_list_append mt_append (pv 3) (pa_cons pe_non pa_nil)))
 (pss_one (ps_set (i:=4) SC.nd rfl (Or.inl rfl) pe_bl)))
 (pss_one (ps_if (PW.pt (pw_and (pt_val (pv 4)) (pw_and1 (pt_cmpR op_ge (pv 7) pe_int (nomark _)))))
 (pss_cons (ps_expr (pe_bm PySem.F.plainAttrs_list PySem.F.slot_list_append PySem.F.type_list_append mt_append (pv 3) (pa_cons (pv 7) pa_nil)))
 (pss_one (ps_set (i:=4) SC.nd rfl (Or.inl rfl) pe_bl)))
 (pss_one (ps_if (PW.pt (pw_and (pt_not (pt_val (pv 4))) (pw_and (pt_cmpR (L3.ux_eq (K':=K) rfl hu) (pv 6) pe_str (nomark _)) (pw_and1 (pt_cmpR op_lt (pe_callB (bk_len (K:=K) rfl) (by rfl) T.b_len PySem.boot_len (pa_cons (pv 3) pa_nil)) (pv 1) (nomark _))))))
 (pss_one (ps_set (i:=4) SC.nd rfl (Or.inl rfl) pe_bl))
 (pss_one (ps_if (PW.pt (pw_or (pt_val (pv 4)) (pw_or (pt_cmpR op_lt (pv 7) pe_int (nomark _)) (pw_or (pt_cmp (pc_isN (pe_ix (L3.ux_ix (K':=K) rfl) (pv 3) (pe_un un_neg pe_int) (fun _ _=>rfl)))) (pw_or (pt_cmpR (L3.ux_eq (K':=K) rfl hu) (pe_ix (L3.ux_ix (K':=K) rfl) (pv 3) (pe_un un_neg pe_int) (fun _ _=>rfl)) pe_int (nomark _)) (pw_or1 (pt_cmpR op_gt (pe_op (L3.ux_add (K':=K) rfl) (pe_op L3.ux_mul pe_int (pe_ix (L3.ux_ix (K':=K) rfl) (pv 3) (pe_un un_neg pe_int) (fun _ _=>rfl))) (pv 7)) (pe_op op_pow pe_int pe_int) (nomark _))))))))
 (pss_one (ps_ret (pe_tup (pa_cons pe_non (pa_cons (pv 5) pa_nil)))))
 (pss_one (ps_asg (pe_op (L3.ux_add (K':=K) rfl) (pe_op L3.ux_mul pe_int (pe_ix (L3.ux_ix (K':=K) rfl) (pv 3) (pe_un un_neg pe_int) (fun _ _=>rfl))) (pv 7)) (pg_sub (pv 3) (pe_un un_neg pe_int) set_list))))))))))))))
 (pss_cons (ps_if (pt_val (pv 4))
 (pss_one (ps_ret (pe_tup (pa_cons pe_non (pa_cons (pe_callB (bk_len (K:=K) rfl) (by rfl) T.b_len PySem.boot_len (pa_cons (pv 0) pa_nil)) pa_nil)))))
 pss_nil)
 (pss_one (ps_ret (pe_tup (pa_cons (pv 3) (pa_cons pe_int pa_nil))))))))),fun _=>(L3.s_seq (L3.s_asg (L3.s_lstC L3.s_nil) (L3.s_g 3))
 (L3.s_seq (L3.s_asg L3.s_bl (L3.s_g 4))
 (L3.s_seq (L3.s_for (L3.s_ir1 (L3.s_cons (L3.s_cb L3.s_len (L3.s_cons (L3.s_var 0) L3.s_nil)) L3.s_nil)) (L3.s_g 5)
 (L3.s_seq (L3.s_asg (L3.s_op L3.s_ix (L3.s_var 0) (L3.s_var 5)) (L3.s_g 6))
 (L3.s_seq (L3.s_asg (L3.s_find L3.s_str (L3.s_cons (L3.s_var 6) L3.s_nil)) (L3.s_g 7))
 (L3.s_ifS (L3.s_and (L3.s_b (L3.s_var 4)) (L3.s_and (L3.s_b (L3.s_var 2)) (L3.s_test (L3.s_op L3.s_eq (L3.s_var 6) L3.s_str))))
 (L3.s_seq (L3.s_drop (L3.s_append (L3.s_var 3) (L3.s_cons L3.s_non L3.s_nil)))
 (L3.s_asg L3.s_bl (L3.s_g 4)))
 (L3.s_ifS (L3.s_and (L3.s_b (L3.s_var 4)) (L3.s_test (L3.s_op L3.s_ge (L3.s_var 7) L3.s_int)))
 (L3.s_seq (L3.s_drop (L3.s_append (L3.s_var 3) (L3.s_cons (L3.s_var 7) L3.s_nil)))
 (L3.s_asg L3.s_bl (L3.s_g 4)))
 (L3.s_ifS (L3.s_and (L3.s_not (L3.s_b (L3.s_var 4))) (L3.s_and (L3.s_test (L3.s_op L3.s_eq (L3.s_var 6) L3.s_str)) (L3.s_test (L3.s_op L3.s_lt (L3.s_cb L3.s_len (L3.s_cons (L3.s_var 3) L3.s_nil)) (L3.s_var 1)))))
 (L3.s_asg L3.s_bl (L3.s_g 4))
 (L3.s_ifS (L3.s_or (L3.s_b (L3.s_var 4)) (L3.s_or (L3.s_test (L3.s_op L3.s_lt (L3.s_var 7) L3.s_int)) (L3.s_or (L3.s_b (L3.s_isN (L3.s_op L3.s_ix (L3.s_var 3) (L3.s_un L3.s_neg L3.s_int)))) (L3.s_or (L3.s_test (L3.s_op L3.s_eq (L3.s_op L3.s_ix (L3.s_var 3) (L3.s_un L3.s_neg L3.s_int)) L3.s_int)) (L3.s_test (L3.s_op L3.s_gt (L3.s_op L3.s_add (L3.s_op L3.s_mul L3.s_int (L3.s_op L3.s_ix (L3.s_var 3) (L3.s_un L3.s_neg L3.s_int))) (L3.s_var 7)) (L3.s_op L3.s_pow L3.s_int L3.s_int)))))))
 (L3.s_ret (L3.s_tup (L3.s_cons L3.s_non (L3.s_cons (L3.s_var 5) L3.s_nil))))
 (L3.s_asg (L3.s_op L3.s_add (L3.s_op L3.s_mul L3.s_int (L3.s_op L3.s_ix (L3.s_var 3) (L3.s_un L3.s_neg L3.s_int))) (L3.s_var 7)) (L3.s_gsub (L3.s_var 3) (L3.s_un L3.s_neg L3.s_int))))))))))
 (L3.s_seq (L3.s_ifS (L3.s_b (L3.s_var 4))
 (L3.s_ret (L3.s_tup (L3.s_cons L3.s_non (L3.s_cons (L3.s_cb L3.s_len (L3.s_cons (L3.s_var 0) L3.s_nil)) L3.s_nil))))
 L3.s_next)
 (L3.s_ret (L3.s_tup (L3.s_cons (L3.s_var 3) (L3.s_cons L3.s_int L3.s_nil)))))))),fun ds M Kk hM hD h=>?_⟩
  obtain ⟨l,m,b,rfl,h⟩:=h
  obtain ⟨⟨⟨hc,hl⟩,m0,m1⟩,k⟩:=h
  have sl:(mkS l).length<=sizeLine:=by rw [mk_len]; exact small_line (by omega)
  refine ⟨Nat.zero_le _,?_⟩
  refine ⟨_,rfl,sl,_,rfl,⟨by omega,by rw [mk_len]; omega⟩,fun i ρ M'=>∃ (fr:Bool) (cs:List (Option Int)) (v5 v6 v7:Option D),WSt b m l fr cs i/\ρ=[some (.str (mkS l)),some (.int m),some (.bl b),some (.cell M.length),some (.bl fr),v5,v6,v7]/\M++[.lst (cs.map oD)]=M',fun _ _ _ _ _=>trivial,⟨true,[],_,_,_,⟨m0,fun _ _ h=>h⟩,rfl,rfl⟩,?_,?_⟩
  ·rintro i x ρ _ hi rfl ⟨fr,cs,v5,v6,v7,hw,rfl,rfl⟩
   have hi:i < l.length:=by
    have hi:i < (((mkS l).length:Nat):Int).toNat:=hi
    rw [mk_len] at hi
    omega
   have hci:=hc _ (List.getElem_mem hi)
   have ei:(0:Int) + (i:Int)=i:=Int.zero_add _
   have f1:∀ {es:List (Option Int)},es.length < m->(es.map oD).length < sizeLine:=fun h=>Nat.lt_of_le_of_lt (by rw [List.length_map]; omega:_<=1000) (by decide)
   have f5:∀ {es:List (Option Int)} {o:Option Int},(M++[MO.lst (es.map oD)]).set M.length (.lst (es.map oD++[oD o]))=M++[MO.lst ((es++[o]).map oD)]:=fun {es o}=>by
    rw [List.set_append_right _ _ (Nat.le_refl _),Nat.sub_self,List.map_append]
    rfl
   refine ⟨_,rfl,_,rfl,_,l[i],rfl,sl,(by rw [ei]; exact mk_at (List.getElem?_eq_getElem hi)),?_⟩
   refine ⟨_,rfl,_,rfl,_,rfl,?_⟩
   rw [show (⟨#[l[i]]⟩:Str)=mkS [l[i]] from rfl,fg_find hci]
   have hdg:∃ dg:Int,(if isDg l[i]=true then ((l[i]:Nat):Int) - 48 else -1)=dg/\(isDg l[i]=true->dg=((l[i] - 48:Nat):Int))/\(¬ isDg l[i]=true->dg = -1):=⟨_,rfl,fun h=>by rw [if_pos h]; have:=isDg_iff.mp h; omega,fun h=>if_neg h⟩
   obtain ⟨dg,edg,d1,d2⟩:=hdg
   rw [edg]
   have pos:(0<=dg)↔isDg l[i]=true:=by
    by_cases z:isDg l[i]=true
    ·have:=d1 z; exact ⟨fun _=>z,fun _=>by omega⟩
    ·have:=d2 z; exact ⟨fun y=>absurd y (by omega),fun y=>absurd y z⟩
   have eq6:decide (mkS [l[i]]=Str.ofString "?")=decide (l[i]=63):=by
    rw [qu_eq,decide_eq_decide]
    exact ⟨fun y=>(List.cons.inj y).1,fun y=>by rw [y]⟩
   have ept:decide (mkS [l[i]]=Str.ofString ".")=decide (l[i]=46):=by
    rw [decide_eq_decide,show Str.ofString "."=mkS [46] from by decide +kernel]
    exact ⟨fun y=>(List.cons.inj (mk_inj y)).1,fun y=>by rw [y]⟩
   refine g_nx ?_
   show uIfS (uAnd (uB3 (uVar 4)) (uAnd (uB3 (uVar 2)) (uB3 (uOp eq3 (uVar 6) (uC (D.str (Str.ofString "?"))))))) _ _ _ _ _
   cases fr with
   | true =>
    refine if_by (c:=true && (b && decide (l[i]=63))) (and_by (fun K z=>⟨_,rfl,_,rfl,z⟩) fun _=>and_by (fun K z=>⟨_,rfl,_,rfl,z⟩) fun _ K z=>⟨_,rfl,.inl ⟨_,rfl,_,rfl,eq6.symm ▸ z⟩⟩) (ite2 (fun hq=>?_) (fun hq=>?_))
    ·rw [Bool.true_and,Bool.and_eq_true,decide_eq_true_eq] at hq
     refine ⟨_,rfl,ls_some ls_last,M.length,_,_,rfl,rfl,List.getElem?_concat_length,f1 hw.1,.inl ⟨false,cs++[none],_,_,_,hw.quest hi hq.1 hq.2,rfl,?_⟩⟩
     exact f5.symm
    have hq:¬ (b=true/\l[i]=63):=fun z=>hq (by rw [Bool.true_and,Bool.and_eq_true,decide_eq_true_eq]; exact z)
    refine if_by (c:=true && decide (0<=dg)) (and_by (fun K z=>⟨_,rfl,_,rfl,z⟩) fun _ K z=>⟨_,rfl,_,_,rfl,rfl,_,rfl,z⟩) (ite2 (fun hp=>?_) (fun hp=>?_))
    ·rw [Bool.true_and,decide_eq_true_eq] at hp
     have hd:=pos.mp hp
     refine ⟨_,rfl,ls_some ls_last,_,rfl,M.length,_,_,rfl,rfl,List.getElem?_concat_length,f1 hw.1,.inl ⟨false,cs++[some ((l[i] - 48:Nat):Int)],_,_,_,hw.digit hi hq hd,rfl,?_⟩⟩
     rw [<- f5,d1 hd]
     rfl
    rw [Bool.true_and,decide_eq_true_eq] at hp
    refine if_by (c:=!true && false) (and_by (fun K z=>⟨_,rfl,_,rfl,z⟩) fun z=>nomatch z) (iteF ?_)
    refine if_by (c:=true || true) (or_by (fun K z=>⟨_,rfl,_,rfl,z⟩) fun z=>nomatch z) (iteT ?_)
    refine ⟨_,rfl,(show 2<=sizeLine by decide),.inl (k none i _ _ (hw.bad fun _=>⟨hq,fun z=>hp (pos.mpr z)⟩) (List.prefix_append _ _) ?_)⟩
    show D.tup [.non,.int (0 + (i:Int))]=_
    rw [ei]
   | false =>
    obtain ⟨es,o,rfl,hm,hv⟩:=hw.some_last
    have atl:L2.atI ((es++[o]).map oD) (-1)=some (oD o):=by rw [List.map_append]; exact L2.atI_last _ _
    refine if_by (c:=false && false) (and_by (fun K z=>⟨_,rfl,_,rfl,z⟩) fun z=>nomatch z) (iteF ?_)
    refine if_by (c:=false && false) (and_by (fun K z=>⟨_,rfl,_,rfl,z⟩) fun z=>nomatch z) (iteF ?_)
    refine if_by (c:=!false && (decide (l[i]=46) && decide (es.length + 1 < m))) (and_by (fun K z=>⟨_,rfl,_,rfl,z⟩) fun _=>and_by (fun K z=>⟨_,rfl,.inl ⟨_,rfl,_,rfl,ept.symm ▸ z⟩⟩) fun _ K z=>⟨_,rfl,?_⟩) (ite2 (fun hp=>?_) (fun hp=>?_))
    ·dsimp only [uNil]
     refine len_ls ls_last ?_
     refine ⟨_,rfl,_,_,rfl,rfl,_,rfl,?_⟩
     rw [show decide ((((es++[o]).map oD).length:Int) < (m:Int))=decide (es.length + 1 < m) by
      rw [decide_eq_decide,List.length_map,List.length_append]
      show ((es.length + 1:Nat):Int) < m↔_
      omega]
     exact z
    ·rw [Bool.not_false,Bool.true_and,Bool.and_eq_true,decide_eq_true_eq,decide_eq_true_eq] at hp
     exact .inl ⟨true,es++[o],_,_,_,hw.point hi hp.1 hp.2,rfl,rfl⟩
    have hp:l[i]≠46\/¬ es.length + 1 < m:=Classical.byContradiction fun z=>hp (by
     rw [Bool.not_false,Bool.true_and,Bool.and_eq_true,decide_eq_true_eq,decide_eq_true_eq]
     exact ⟨Classical.byContradiction fun y=>z (.inl y),Classical.byContradiction fun y=>z (.inr y)⟩)
    have out:(∀ v:Nat,o=some (v:Int)->¬ (isDg l[i]=true/\v≠0/\10 * v + (l[i] - 48)<=1000000000))->Dk (List.length M) Kk (D.tup [.non,.int (0 + (i:Int))]) (M++[MO.lst ((es++[o]).map oD)]):=fun h=>.inl (k none i _ _ (hw.stop hi h hp) (List.prefix_append _ _) (by show D.tup [.non,.int (0 + (i:Int))]=_; rw [ei]))
    refine ⟨_,rfl,_,rfl,iteF ⟨_,rfl,_,_,rfl,rfl,_,rfl,ite2 (fun hn=>?_) (fun hn=>?_)⟩⟩
    ·have hn:=of_decide_eq_true hn
     exact iteT ⟨_,rfl,(show 2<=sizeLine by decide),out fun v _ z=>absurd (pos.mpr z.1) (by omega)⟩
    have hd:isDg l[i]=true:=pos.mp (by have:=of_decide_eq_false (Bool.not_eq_true _ ▸ hn); omega)
    cases o with
    | none=>exact ⟨_,rfl,_,rfl,ix_ls ls_last atl ⟨_,rfl,iteT (iteT ⟨_,rfl,(show 2<=sizeLine by decide),out fun v z=>nomatch z⟩)⟩⟩
    | some z0 =>
     obtain ⟨v,rfl⟩:=hv z0 rfl
     refine ⟨_,rfl,_,rfl,ix_ls ls_last atl ⟨_,rfl,iteF ?_⟩⟩
     refine ⟨_,rfl,_,rfl,ix_ls ls_last atl (.inl ⟨_,rfl,_,rfl,ite2 (fun h0=>?_) (fun h0=>?_)⟩)⟩
     ·have h0:=of_decide_eq_true h0
      exact iteT ⟨_,rfl,(show 2<=sizeLine by decide),out fun v' e z=>z.2.1 (by have:=Option.some.inj e; omega)⟩
     have h0:=of_decide_eq_false (Bool.not_eq_true _ ▸ h0)
     refine ⟨_,rfl,_,rfl,ix_ls ls_last atl ⟨.inl ⟨by decide,by decide⟩,_,rfl,_,_,rfl,rfl,⟨by decide,by decide,by decide⟩,_,_,rfl,rfl,_,rfl,ite2 (fun hb=>?_) (fun hb=>?_)⟩⟩
     ·have hb:=of_decide_eq_true hb
      rw [d1 hd,show (10:Int) ^ (9:Int).toNat=1000000000 by decide] at hb
      exact ⟨_,rfl,(show 2<=sizeLine by decide),out fun v' e z=>by have:=Option.some.inj e; omega⟩
     ·have hb:=of_decide_eq_false (Bool.not_eq_true _ ▸ hb)
      rw [d1 hd,show (10:Int) ^ (9:Int).toNat=1000000000 by decide] at hb
      refine ⟨_,rfl,_,rfl,ix_ls ls_last atl ⟨.inl ⟨by decide,by decide⟩,_,rfl,?_⟩⟩
      refine ⟨_,rfl,_,rfl,M.length,_,_,es.length,rfl,rfl,List.getElem?_concat_length,(by rw [List.map_append]; have:=ixN_last (es.map oD) (oD (some (v:Int))); rw [List.length_map] at this; exact this),.inl ⟨false,es++[some ((10 * v + (l[i] - 48):Nat):Int)],_,_,_,hw.more hi hd (by omega) (by omega),rfl,?_⟩⟩
      rw [List.set_append_right _ _ (Nat.le_refl _),Nat.sub_self,List.map_append,List.map_append]
      have:=st_last (es.map oD) (oD (some (v:Int))) (.int (10 * (v:Int) + dg))
      rw [List.length_map] at this
      rw [show List.map oD [some (v:Int)]=[oD (some (v:Int))] from rfl,this,d1 hd]
      show M++[MO.lst (es.map oD++[.int ((10 * v + (l[i] - 48):Nat):Int)])]=M++[MO.lst (es.map oD++[.int (10 * (v:Int) + ((l[i] - 48:Nat):Int))])]
      rw [show ((10 * v + (l[i] - 48):Nat):Int)=10 * (v:Int) + ((l[i] - 48:Nat):Int) by omega]
  ·rintro ρ _ ⟨fr,cs,v5,v6,v7,hw,rfl,rfl⟩
   have en:(rngIt 0 (((mkS l).length:Nat):Int).toNat).n=l.length:=by show (((mkS l).length:Nat):Int).toNat=_; rw [mk_len]; omega
   rw [en] at hw
   refine ⟨_,rfl,_,rfl,?_⟩
   cases fr with
   | true =>
    refine iteT ⟨_,rfl,sl,(show 2<=sizeLine by decide),.inl (k none l.length _ _ (hw.bad fun z=>absurd z (Nat.lt_irrefl _)) (List.prefix_append _ _) ?_)⟩
    show D.tup [.non,.int ((mkS l).length:Int)]=_
    rw [mk_len]
   | false =>
    obtain ⟨es,o,rfl,hm,hv⟩:=hw.some_last
    exact iteF ⟨_,rfl,(show 2<=sizeLine by decide),.inl (k _ _ _ _ hw.fin (List.prefix_append _ _) ⟨M.length,rfl,List.getElem?_concat_length,by rw [List.length_append]; show es.length + 1<=_; omega⟩)⟩
theorem ok__law_due (T:Txt mg) {C:Addr} (C__law_row_walk:Cal P w K mg base "_law_row_walk" 1 ["_law_line"] (L3.spOf ⟨C,K⟩ dWalkR)) (C__law_walk:Cal P w K mg base "_law_walk" 1 ["_law_line", "_law_most", "_law_holes"] (L3.spOf ⟨C,K⟩ dWalkL)) {f:Addr} {fd:FuncData} (F:Fun K "_law_due" "_law_due" s__law_due f fd):FnOk P w K mg base CX0 2 f fd ["_law_kind", "_law_line"] (L3.spOf ⟨C,K⟩ dDue13):=by
 refine L3.Fun.ok3 F sc__law_due (fun ds M K3 h=>?_) (fun cdv A outer s H E hr=>?_)
 ·obtain ⟨q,l,rfl,_⟩:=h
  rfl
 ·have SC:=sc__law_due
  have hu:=hr.units
  have hu1:=hu_of hr
  have hr__law_row_walk:Room 1 _:=hr.mono (by first | decide | omega)
  have hr__law_walk:Room 1 _:=hr.mono (by first | decide | omega)
  refine ⟨_,_,(pss_cons (ps_if (pt_cmpR (L3.ux_eq (K':=K) rfl hu) (pv 1) pe_str (nomark _))
 (pss_one (ps_ret (pe_tup (pa_cons (pe_lst pa_nil) (pa_cons pe_int pa_nil)))))
 pss_nil)
 (pss_cons (ps_if (pt_cmpR (L3.ux_eq (K':=K) rfl hu) (pe_slice (L3.ux_sl (K':=K) rfl) (pv 1) po_none (po_some pe_int)) pe_str (nomark _))
 (pss_one (ps_ret (pe_tup (pa_cons pe_non (pa_cons pe_int pa_nil)))))
 pss_nil)
 (pss_cons (ps_if (pt_cmpR (L3.ux_eq (K':=K) rfl hu) (pv 0) pe_int (nomark _))
 (pss_one (ps_ret (pe_cal C__law_row_walk hr__law_row_walk rfl (pa_cons (pv 1) pa_nil))))
 pss_nil)
 (pss_one (ps_ret (pe_cal C__law_walk hr__law_walk rfl (pa_cons (pv 1) (pa_cons (pe_ix (L3.ux_ix (K':=K) rfl) (pe_lst (pa_cons pe_int (pa_cons pe_int (pa_cons pe_int pa_nil)))) (pv 0) (fun _ _=>rfl)) (pa_cons (pe_cmpR (L3.ux_eq (K':=K) rfl hu) (pv 0) pe_int (nomark _)) pa_nil))))))))),fun _=>(L3.s_seq (L3.s_ifS (L3.s_test (L3.s_op L3.s_eq (L3.s_var 1) L3.s_str))
 (L3.s_ret (L3.s_tup (L3.s_cons (L3.s_lstC L3.s_nil) (L3.s_cons L3.s_int L3.s_nil))))
 L3.s_next)
 (L3.s_seq (L3.s_ifS (L3.s_test (L3.s_op L3.s_eq (L3.s_sl L3.s_sl3 (L3.s_var 1) L3.s_noPart (L3.s_part L3.s_int)) L3.s_str))
 (L3.s_ret (L3.s_tup (L3.s_cons L3.s_non (L3.s_cons L3.s_int L3.s_nil))))
 L3.s_next)
 (L3.s_seq (L3.s_ifS (L3.s_test (L3.s_op L3.s_eq (L3.s_var 0) L3.s_int))
 (L3.s_ret (L3.s_call (L3.s_cons (L3.s_var 1) L3.s_nil)))
 L3.s_next)
 (L3.s_ret (L3.s_call (L3.s_cons (L3.s_var 1) (L3.s_cons (L3.s_op L3.s_ix (L3.s_lst (L3.s_cons L3.s_int (L3.s_cons L3.s_int (L3.s_cons L3.s_int L3.s_nil)))) (L3.s_var 0)) (L3.s_cons (L3.s_op L3.s_eq (L3.s_var 0) L3.s_int) L3.s_nil)))))))),fun ds M Kk hM hD h=>?_⟩
  obtain ⟨q,l,rfl,h⟩:=h
  obtain ⟨⟨⟨q0,q3⟩,⟨hc,hl⟩⟩,k⟩:=h
  have sl:(mkS l).length<=sizeLine:=by rw [mk_len]; exact small_line (by omega)
  refine ⟨_,rfl,.inl ⟨_,rfl,_,rfl,?_⟩⟩
  rw [da_eq]
  refine ite2 (fun h0=>?_) (fun h0=>?_)
  ·have h0:=of_decide_eq_true h0
   refine ⟨Nat.zero_le _,(show 2<=sizeLine by decide),.inl (k (some []) 0 _ _ ?_ (List.prefix_append _ _) ⟨M.length,rfl,List.getElem?_concat_length,Nat.zero_le _⟩)⟩
   unfold ShowL
   split
   ·exact .da h0
   ·exact .inl ⟨h0,rfl,rfl⟩
  have h0:=of_decide_eq_false (Bool.not_eq_true _ ▸ h0)
  refine ⟨_,rfl,_,rfl,sl,.inl ⟨_,rfl,_,rfl,?_⟩⟩
  rw [show decide (Txt.slice (mkS l) none (some 1)=Str.ofString "-")=decide (l[0]?=some 45) by
   cases l with
   | nil=>decide +kernel
   | cons c r =>
    have:=mk_to (l:=c::r) (n:=1) (by simp)
    rw [show Txt.slice (mkS (c::r)) none (some 1)=mkS [c] from this,da_mk,decide_eq_decide]
    exact ⟨fun y=>by rw [(List.cons.inj (mk_inj y)).1]; rfl,fun y=>by rw [show c=45 from Option.some.inj y]⟩]
  refine ite2 (fun h1=>?_) (fun h1=>?_)
  ·have h1:=of_decide_eq_true h1
   refine ⟨(show 2<=sizeLine by decide),.inl (k none 1 _ _ ?_ (List.prefix_refl _) rfl)⟩
   unfold ShowL
   split
   ·exact .one h0 h1
   ·exact .inr (.inl ⟨h0,h1,rfl,rfl⟩)
  have h1:=of_decide_eq_false (Bool.not_eq_true _ ▸ h1)
  refine ⟨_,rfl,.inl ⟨_,rfl,_,rfl,ite2 (fun h2=>?_) (fun h2=>?_)⟩⟩
  ·have h2:=of_decide_eq_true h2
   exact ⟨_,rfl,l,rfl,⟨⟨hc,hl⟩,h1⟩,fun R p M' x hr pm ha=>.inl (k R p M' x (by unfold ShowL; rw [if_pos h2]; exact hr) pm ha)⟩
  ·have h2:=of_decide_eq_false (Bool.not_eq_true _ ▸ h2)
   refine ⟨_,rfl,(show 3<=sizeLine by decide),_,rfl,_,q,.int ((if q=1 then 200 else 800:Nat):Int),rfl,rfl,?_,_,rfl,.inl ⟨_,rfl,l,_,decide (q=2),rfl,⟨⟨hc,hl⟩,?_,?_⟩,fun R p M' x hr pm ha=>.inl (k R p M' x (by unfold ShowL; rw [if_neg h2]; exact .inr (.inr ⟨h1,hr⟩)) pm ha)⟩⟩
   ·rcases (by omega:q=1\/q=2) with e | e <;> subst e <;> rfl
   ·split <;> decide
   ·split <;> decide
open L3
theorem ok__law_read (T:Txt mg) {C:Addr} {X_NoShown X_Begins X_NoLine X_NoSign X_TooMany X_Twice X_SkewError fW:Addr} (G_NoShown:mg "NoShown"=some (.ref X_NoShown)) (G_Begins:mg "Begins"=some (.ref X_Begins)) (G_NoLine:mg "NoLine"=some (.ref X_NoLine)) (G_NoSign:mg "NoSign"=some (.ref X_NoSign)) (G_TooMany:mg "TooMany"=some (.ref X_TooMany)) (G_Twice:mg "Twice"=some (.ref X_Twice)) (xc_NoShown:XCl K X_NoShown fW) (xna_at_NoShown:W.findIn K (.ref X_NoShown) "at"=some none) (CA_SkewError:Cau K mg "SkewError" X_SkewError) (mns:W.mroIn K X_NoShown (.ref X_SkewError)=some true) (knn:W.kitOne K (.ref X_NoShown) (.ref X_NoShown)=some true) (knv:W.kitOne K (.ref X_NoShown) (.type "ValueError")=some true) (kna:W.kitAny K (.ref X_NoShown) ([X_Begins,X_NoLine,X_NoSign,X_TooMany,X_Twice].map Value.ref)=some false) (C_read_row:CalE P w K mg base "read_row" 3 ["line"] (L3.spOfX ⟨C,K⟩ (dReadRX X_NoShown))) (C_read_text:CalE P w K mg base "read_text" 4 ["line"] (L3.spOfX ⟨C,K⟩ (dReadQX 1 X_NoShown))) (C_read_entries:CalE P w K mg base "read_entries" 4 ["line"] (L3.spOfX ⟨C,K⟩ (dReadQX 2 X_NoShown))) {f:Addr} {fd:FuncData} (F:Fun K "_law_read" "_law_read" s__law_read f fd):FnOk P w K mg base CX0 6 f fd ["_law_kind", "_law_line"] (L3.spOf ⟨C,K⟩ dRead13):=by
 refine L3.Fun.ok3 F sc__law_read (fun ds M K3 h=>?_) (fun cdv A outer s H E hr=>?_)
 ·obtain ⟨q,l,rfl,_⟩:=h
  rfl
 ·have SC:=sc__law_read
  have hu:=hr.units
  have hu1:=hu_of hr
  have hr_read_row:Room 3 _:=hr.mono (by first | decide | omega)
  have hr_read_text:Room 4 _:=hr.mono (by first | decide | omega)
  have hr_read_entries:Room 4 _:=hr.mono (by first | decide | omega)
  refine ⟨_,_,(pss_one (ps_try3 rfl rfl (fun _ _ _ _ hx=>(psf_if (pt_cmpR (L3.ux_eq (K':=K) rfl hu) (pv 0) pe_int (nomark _)) (psf_one (psf_ret (pef_tup (paf_cons (pef_cal C_read_row hr_read_row rfl hx (pa_cons (pv 1) pa_nil)) (paf_cons (pef_of pe_int) (paf_of pa_nil)))))) psf_nil)) (fun _ _ _ _ hx=>(psf_if (pt_cmpR (L3.ux_eq (K':=K) rfl hu) (pv 0) pe_int (nomark _)) (psf_one (psf_ret (pef_tup (paf_cons (pef_cal C_read_text hr_read_text rfl hx (pa_cons (pv 1) pa_nil)) (paf_cons (pef_of pe_int) (paf_of pa_nil)))))) psf_nil)) (fun _ _ _ _ hx=>(psf_ret (pef_tup (paf_cons (pef_cal C_read_entries hr_read_entries rfl hx (pa_cons (pv 1) pa_nil)) (paf_cons (pef_of pe_int) (paf_of pa_nil)))))) (hs_as (i:=2) CA_SkewError rfl SC.nd rfl rfl (fun _=>(pss_cons (ps_if (PW.pt (pw_or (pt_not (pt_val (pe_callB (call_isiX (K:=K) rfl) (by rfl) T.b_isinstance PyProof.Rows.boot_isinstance (pa_cons (pv 2) (pa_cons (pe_glob (v:=.ref X_NoShown) rfl G_NoShown rfl) pa_nil))))) (pw_or1 (pt_not (pt_val (pe_callB (call_isiX (K:=K) rfl) (by rfl) T.b_isinstance PyProof.Rows.boot_isinstance (pa_cons (pv 2) (pa_cons (pe_bltn (v:=.ty "ValueError") rfl T.b_ValueError boot_ValueError rfl) pa_nil))))))))
 (pss_one (ps_ret (pe_tup (pa_cons (pe_lst (pa_cons pe_str pa_nil)) (pa_cons pe_int pa_nil)))))
 pss_nil)
 (pss_cons (ps_if (pt_val (pe_callB (call_isiX (K:=K) rfl) (by rfl) T.b_isinstance PyProof.Rows.boot_isinstance (pa_cons (pv 2) (pa_cons (pe_tup (pa_cons (pe_glob (v:=.ref X_Begins) rfl G_Begins rfl) (pa_cons (pe_glob (v:=.ref X_NoLine) rfl G_NoLine rfl) (pa_cons (pe_glob (v:=.ref X_NoSign) rfl G_NoSign rfl) (pa_cons (pe_glob (v:=.ref X_TooMany) rfl G_TooMany rfl) (pa_cons (pe_glob (v:=.ref X_Twice) rfl G_Twice rfl) pa_nil)))))) pa_nil))))
 (pss_one (ps_ret (pe_tup (pa_cons (pe_lst (pa_cons pe_str pa_nil)) (pa_cons pe_int pa_nil)))))
 pss_nil)
 (pss_one (ps_ret (pe_tup (pa_cons pe_non (pa_cons (bk_xfld (K:=K) rfl (pv 2) rfl) pa_nil)))))))) hs_nil))),fun _=>(L3.s_try3 (fun _ _ _ he hk hx=>(L3.s_ifS (L3.s_test (L3.s_op L3.s_eq (L3.s_var 0) L3.s_int)) (L3.s_ret (L3.s_tup (L3.s_cons (L3.s_callX he hk hx (L3.s_cons (L3.s_var 1) L3.s_nil)) (L3.s_cons L3.s_int L3.s_nil)))) L3.s_next)) (fun _ _ _ he hk hx=>(L3.s_ifS (L3.s_test (L3.s_op L3.s_eq (L3.s_var 0) L3.s_int)) (L3.s_ret (L3.s_tup (L3.s_cons (L3.s_callX he hk hx (L3.s_cons (L3.s_var 1) L3.s_nil)) (L3.s_cons L3.s_int L3.s_nil)))) L3.s_next)) (fun _ _ _ he hk hx=>(L3.s_ret (L3.s_tup (L3.s_cons (L3.s_callX he hk hx (L3.s_cons (L3.s_var 1) L3.s_nil)) (L3.s_cons L3.s_int L3.s_nil))))) (L3.s_has (L3.s_seq (L3.s_ifS (L3.s_or (L3.s_not (L3.s_b (L3.s_cb L3.s_isiX (L3.s_cons (L3.s_var 2) (L3.s_cons L3.s_at L3.s_nil))))) (L3.s_not (L3.s_b (L3.s_cb L3.s_isiX (L3.s_cons (L3.s_var 2) (L3.s_cons L3.s_ty L3.s_nil))))))
 (L3.s_ret (L3.s_tup (L3.s_cons (L3.s_lst (L3.s_cons L3.s_str L3.s_nil)) (L3.s_cons L3.s_int L3.s_nil))))
 L3.s_next)
 (L3.s_seq (L3.s_ifS (L3.s_b (L3.s_cb L3.s_isiX (L3.s_cons (L3.s_var 2) (L3.s_cons (L3.s_tup (L3.s_cons L3.s_at (L3.s_cons L3.s_at (L3.s_cons L3.s_at (L3.s_cons L3.s_at (L3.s_cons L3.s_at L3.s_nil)))))) L3.s_nil))))
 (L3.s_ret (L3.s_tup (L3.s_cons (L3.s_lst (L3.s_cons L3.s_str L3.s_nil)) (L3.s_cons L3.s_int L3.s_nil))))
 L3.s_next)
 (L3.s_ret (L3.s_tup (L3.s_cons L3.s_non (L3.s_cons (L3.s_xfld (L3.s_var 2)) L3.s_nil)))))) L3.s_hnil)),fun ds M Kk hM hD h=>?_⟩
  obtain ⟨q,l,rfl,h⟩:=h
  obtain ⟨⟨⟨q0,q3⟩,ok⟩,k⟩:=h
  have yes:∀ R p,ShowL q l R p->∀ es,R=some es->es.length<=30000->Dk (List.length M) Kk (D.tup [.cell M.length,.int 0]) (M++[MO.lst (es.map oD)]):=fun R p hs es e hl=>.inl (k R p _ _ hs (List.prefix_append _ _) (by subst e; exact ⟨M.length,rfl,List.getElem?_concat_length,hl⟩))
  have no:∀ R p,ShowL q l R p->R=none->∀ M',M<+:M'->Dk (List.length M) Kk (D.tup [.non,.int p]) M':=fun R p hs e M' pm=>.inl (k R p _ _ hs pm (by subst e; exact rfl))
  refine ⟨_,rfl,.inl ⟨_,rfl,_,rfl,ite2 (fun h1=>?_) (fun h1=>?_)⟩⟩
  ·have hq:=of_decide_eq_true h1
   have sh:∀ R p,RowL l R p->ShowL q l R p:=fun R p hr=>by unfold ShowL; rw [if_pos hq]; exact hr
   refine ⟨_,rfl,l,rfl,ok,fun R p hr=>⟨fun es e=>⟨(show 2<=sizeLine by decide),yes R p (sh R p hr) es e ?_⟩,fun e M' pm=>?_⟩⟩
   ·exact row_len ok (e ▸ hr)
   ·refine ⟨true,mns,?_⟩
    rw [if_pos rfl]
    refine ⟨_,rfl,X_NoShown,_,_,true,fW,rfl,xc_NoShown,.inr (.inl ⟨_,rfl,knn⟩),_,rfl,iteF ?_⟩
    refine ⟨_,rfl,X_NoShown,_,_,true,fW,rfl,xc_NoShown,.inl ⟨_,rfl,knv⟩,_,rfl,iteF ?_⟩
    refine ⟨_,rfl,(show 5<=sizeLine by decide),X_NoShown,_,_,false,fW,rfl,xc_NoShown,.inr (.inr ⟨[X_Begins,X_NoLine,X_NoSign,X_TooMany,X_Twice],rfl,kna⟩),_,rfl,iteF ?_⟩
    exact ⟨_,rfl,X_NoShown,_,_,_,rfl,xc_NoShown,xna_at_NoShown,rfl,(show 2<=sizeLine by decide),no R p (sh R p hr) e M' pm⟩
  ·have hq:=of_decide_eq_false (Bool.not_eq_true _ ▸ h1)
   refine ⟨_,rfl,.inl ⟨_,rfl,_,rfl,ite2 (fun h2=>?_) (fun h2=>?_)⟩⟩
   ·have hq1:=of_decide_eq_true h2
    subst hq1
    refine ⟨_,rfl,l,rfl,ok,fun R p hr=>⟨fun es e=>⟨(show 2<=sizeLine by decide),yes R p hr es e ?_⟩,fun e M' pm=>?_⟩⟩
    ·exact sb_len (b:=false) (m:=200) ⟨by decide,by decide⟩ (e ▸ hr)
    ·refine ⟨true,mns,?_⟩
     rw [if_pos rfl]
     refine ⟨_,rfl,X_NoShown,_,_,true,fW,rfl,xc_NoShown,.inr (.inl ⟨_,rfl,knn⟩),_,rfl,iteF ?_⟩
     refine ⟨_,rfl,X_NoShown,_,_,true,fW,rfl,xc_NoShown,.inl ⟨_,rfl,knv⟩,_,rfl,iteF ?_⟩
     refine ⟨_,rfl,(show 5<=sizeLine by decide),X_NoShown,_,_,false,fW,rfl,xc_NoShown,.inr (.inr ⟨[X_Begins,X_NoLine,X_NoSign,X_TooMany,X_Twice],rfl,kna⟩),_,rfl,iteF ?_⟩
     exact ⟨_,rfl,X_NoShown,_,_,_,rfl,xc_NoShown,xna_at_NoShown,rfl,(show 2<=sizeLine by decide),no R p hr e M' pm⟩
   ·have hq2:q=2:=by have:=of_decide_eq_false (Bool.not_eq_true _ ▸ h2); omega
    subst hq2
    refine ⟨_,rfl,l,rfl,ok,fun R p hr=>⟨fun es e=>⟨(show 2<=sizeLine by decide),yes R p hr es e ?_⟩,fun e M' pm=>?_⟩⟩
    ·exact sb_len (b:=true) (m:=800) ⟨by decide,by decide⟩ (e ▸ hr)
    ·refine ⟨true,mns,?_⟩
     rw [if_pos rfl]
     refine ⟨_,rfl,X_NoShown,_,_,true,fW,rfl,xc_NoShown,.inr (.inl ⟨_,rfl,knn⟩),_,rfl,iteF ?_⟩
     refine ⟨_,rfl,X_NoShown,_,_,true,fW,rfl,xc_NoShown,.inl ⟨_,rfl,knv⟩,_,rfl,iteF ?_⟩
     refine ⟨_,rfl,(show 5<=sizeLine by decide),X_NoShown,_,_,false,fW,rfl,xc_NoShown,.inr (.inr ⟨[X_Begins,X_NoLine,X_NoSign,X_TooMany,X_Twice],rfl,kna⟩),_,rfl,iteF ?_⟩
     exact ⟨_,rfl,X_NoShown,_,_,_,rfl,xc_NoShown,xna_at_NoShown,rfl,(show 2<=sizeLine by decide),no R p hr e M' pm⟩
theorem ok__law_right (T:Txt mg) {C:Addr} (C__law_read:Cal P w K mg base "_law_read" 6 ["_law_kind", "_law_line"] (L3.spOf ⟨C,K⟩ dRead13)) (C__law_due:Cal P w K mg base "_law_due" 2 ["_law_kind", "_law_line"] (L3.spOf ⟨C,K⟩ dDue13)) {f:Addr} {fd:FuncData} (F:Fun K "_law_right" "_law_right" s__law_right f fd):FnOk P w K mg base CX0 7 f fd ["_law_kind", "_law_line"] (L3.spOf ⟨C,K⟩ dRight13):=by
 refine L3.Fun.ok3 F sc__law_right (fun ds M K3 h=>?_) (fun cdv A outer s H E hr=>?_)
 ·obtain ⟨q,l,rfl,_⟩:=h
  rfl
 ·have SC:=sc__law_right
  have hu:=hr.units
  have hu1:=hu_of hr
  have hr__law_read:Room 6 _:=hr.mono (by first | decide | omega)
  have hr__law_due:Room 2 _:=hr.mono (by first | decide | omega)
  refine ⟨_,_,(pss_cons (ps_asg (pe_cal C__law_read hr__law_read rfl (pa_cons (pv 0) (pa_cons (pv 1) pa_nil))) (pg_tup (n:=2) rfl (pgs_cons (pg_name (i:=2) SC.nd rfl (Or.inl rfl)) (pgs_cons (pg_name (i:=3) SC.nd rfl (Or.inl rfl)) pgs_nil)) (by rfl)))
 (pss_cons (ps_asg (pe_cal C__law_due hr__law_due rfl (pa_cons (pv 0) (pa_cons (pv 1) pa_nil))) (pg_tup (n:=2) rfl (pgs_cons (pg_name (i:=4) SC.nd rfl (Or.inl rfl)) (pgs_cons (pg_name (i:=5) SC.nd rfl (Or.inl rfl)) pgs_nil)) (by rfl)))
 (pss_cons (ps_if (pt_cmp (pc_isN (pv 4)))
 (pss_one (ps_ret (pe_and (pe_cmp (pc_isN (pv 2))) (pe_and (pe_callB (bk_isi (K:=K) rfl) (by rfl) T.b_isinstance PyProof.Rows.boot_isinstance (pa_cons (pv 3) (pa_cons (pe_bltn (v:=.ty "int") rfl T.b_int PyProof.Rows.boot_int rfl) pa_nil))) (pe_and (pe_not (pe_callB (bk_isi (K:=K) rfl) (by rfl) T.b_isinstance PyProof.Rows.boot_isinstance (pa_cons (pv 3) (pa_cons (pe_bltn (v:=.ty "bool") rfl T.b_bool PyProof.Rows.boot_bool rfl) pa_nil)))) (pe_one (pe_cmpR (L3.ux_eq (K':=K) rfl hu) (pv 3) (pv 5) (nomark _))))))))
 pss_nil)
 (pss_cons (ps_if (PW.pt (pw_or (pt_not (pt_val (pe_callB (bk_isi (K:=K) rfl) (by rfl) T.b_isinstance PyProof.Rows.boot_isinstance (pa_cons (pv 2) (pa_cons (pe_bltn (v:=.ty "list") rfl T.b_list PyProof.Rows.boot_list rfl) pa_nil))))) (pw_or1 (pt_val (pe_callB (bk_any (K:=K) rfl rfl) (by rfl) T.b_any PyProof.Rows.boot_any (pa_cons (pe_comp (T:=["_law_one"]) (cs:=[]) rfl (CScope.ok (by kernel_rfl)) (pi_list (pv 2)) (fun _ _ _ _=>(pg_name (i:=0) (nd_of (by kernel_rfl)) rfl (Or.inl rfl) (Or.inr rfl))) (fun _ _ _ _=>pts_nil) (fun _ _ _ _=>(pe_callB (bk_isi (K:=K) rfl) (by rfl) T.b_isinstance PyProof.Rows.boot_isinstance (pa_cons (pv 0) (pa_cons (pe_bltn (v:=.ty "bool") rfl T.b_bool PyProof.Rows.boot_bool rfl) pa_nil)))) (gk_name (by decide))) pa_nil))))))
 (pss_one (ps_ret pe_bl))
 pss_nil)
 (pss_one (ps_ret (pe_cmpR (L3.ux_eq (K':=K) rfl hu) (pv 2) (pv 4) (nomark _)))))))),fun _=>(L3.s_seq (L3.s_asg (L3.s_call (L3.s_cons (L3.s_var 0) (L3.s_cons (L3.s_var 1) L3.s_nil))) (L3.s_gtup (L3.s_gcons (L3.s_g 2) (L3.s_gcons (L3.s_g 3) L3.s_gnil))))
 (L3.s_seq (L3.s_asg (L3.s_call (L3.s_cons (L3.s_var 0) (L3.s_cons (L3.s_var 1) L3.s_nil))) (L3.s_gtup (L3.s_gcons (L3.s_g 4) (L3.s_gcons (L3.s_g 5) L3.s_gnil))))
 (L3.s_seq (L3.s_ifS (L3.s_b (L3.s_isN (L3.s_var 4)))
 (L3.s_ret (L3.s_andV (L3.s_isN (L3.s_var 2)) (L3.s_andV (L3.s_cb (L3.s_isi (T:=.int)) (L3.s_cons (L3.s_var 3) (L3.s_cons L3.s_ty L3.s_nil))) (L3.s_andV (L3.s_notV (L3.s_cb (L3.s_isi (T:=.bool)) (L3.s_cons (L3.s_var 3) (L3.s_cons L3.s_ty L3.s_nil)))) (L3.s_op L3.s_eq (L3.s_var 3) (L3.s_var 5))))))
 L3.s_next)
 (L3.s_seq (L3.s_ifS (L3.s_or (L3.s_not (L3.s_b (L3.s_cb (L3.s_isi (T:=.list)) (L3.s_cons (L3.s_var 2) (L3.s_cons L3.s_ty L3.s_nil))))) (L3.s_b (L3.s_cb L3.s_any (L3.s_cons (L3.s_comp (L3.s_il (L3.s_var 2)) (L3.s_g 0) L3.s_true (L3.s_cb (L3.s_isi (T:=.bool)) (L3.s_cons (L3.s_var 0) (L3.s_cons L3.s_ty L3.s_nil)))) L3.s_nil))))
 (L3.s_ret L3.s_bl)
 L3.s_next)
 (L3.s_ret (L3.s_op L3.s_eq (L3.s_var 2) (L3.s_var 4))))))),fun ds M Kk hM hD h=>?_⟩
  obtain ⟨q,l,rfl,h⟩:=h
  obtain ⟨⟨⟨q0,q3⟩,ok⟩,k⟩:=h
  refine ⟨_,rfl,_,rfl,q,l,rfl,⟨⟨q0,q3⟩,ok⟩,fun R p M1 x h1 p1 a1=>?_⟩
  cases R with
  | none =>
   obtain rfl:x=.tup [.non,.int p]:=a1
   refine ⟨_,rfl,rfl,_,_,rfl,_,_,rfl,rfl,?_⟩
   refine ⟨_,rfl,_,rfl,q,l,rfl,⟨⟨q0,q3⟩,ok⟩,fun R' p' M2 y h2 p2 a2=>?_⟩
   obtain ⟨e1,e2⟩:=h1.uniq h2
   subst e1 e2
   obtain rfl:y=.tup [.non,.int p]:=a2
   refine ⟨_,rfl,rfl,_,_,rfl,_,_,rfl,rfl,?_⟩
   refine ⟨_,rfl,_,rfl,iteT ?_⟩
   refine ⟨_,rfl,_,rfl,iteT ⟨_,rfl,_,_,rfl,rfl,_,rfl,iteT ?_⟩⟩
   refine ⟨_,rfl,_,_,rfl,rfl,_,rfl,_,rfl,iteT ?_⟩
   refine ⟨_,rfl,_,rfl,.inl ⟨_,rfl,.inl ?_⟩⟩
   rw [decide_eq_true rfl]
   exact k _ (p1.trans p2)
  | some es =>
   obtain ⟨c,rfl,hc,hl⟩:=a1
   refine ⟨_,rfl,rfl,_,_,rfl,_,_,rfl,rfl,?_⟩
   refine ⟨_,rfl,_,rfl,q,l,rfl,⟨⟨q0,q3⟩,ok⟩,fun R' p' M2 y h2 p2 a2=>?_⟩
   obtain ⟨e1,e2⟩:=h1.uniq h2
   subst e1 e2
   obtain ⟨c',rfl,hc',hl'⟩:=a2
   refine ⟨_,rfl,rfl,_,_,rfl,_,_,rfl,rfl,?_⟩
   have hc2:M2[c]?=some (.lst (es.map oD)):=by obtain ⟨X,rfl⟩:=p2; rw [List.getElem?_append_left (get_lt hc)]; exact hc
   have lm:(es.map oD).length=es.length:=List.length_map _
   refine ⟨_,rfl,_,rfl,iteF ?_⟩
   refine ⟨_,rfl,_,_,rfl,(ls_ty (ls_at_ hc2)).1,_,rfl,iteF ?_⟩
   refine ⟨_,rfl,_,(ls_ty (ls_at_ hc2)).2.1,?_,fun i ys M'=>M2=M'/\ys=(List.replicate i false).map D.bl,fun _ _ _ _ h=>h.1 ▸ (ls_ty (ls_at_ hc2)).2.1,⟨rfl,rfl⟩,?_,?_⟩
   ·show (es.map oD).length<=sizeLine
    rw [lm]
    exact small_line (by omega)
   ·rintro i x ys _ hi hx ⟨rfl,rfl⟩
    obtain ⟨hi',rfl⟩:=item_map hx
    have fin:(fun i ys M'=>M2=M'/\ys=(List.replicate i false).map D.bl) (i + 1) ((List.replicate i false).map D.bl++[D.bl false]) M2:=⟨rfl,by rw [List.replicate_succ',List.map_append]; rfl⟩
    generalize es[i]=o at hx
    cases o with
    | none=>exact ⟨_,rfl,_,_,rfl,rfl,fin⟩
    | some n=>exact ⟨_,rfl,_,_,rfl,rfl,fin⟩
   ·rintro ys _ ⟨rfl,rfl⟩
    refine ⟨_,_,rfl,rfl,_,rfl,?_⟩
    rw [show ∀ n:Nat,(List.replicate n false).any id=false by intro n; induction n with | zero=>rfl | succ n ih=>rw [List.replicate_succ,List.any_cons,ih]; rfl]
    refine iteF ⟨_,rfl,_,rfl,eqv_seq encO (a:=es) (b:=es) (ls_ty (ls_at_ hc2)).2.1 (ls_ty (ls_at_ hc')).2.1 (.inl ?_)⟩
    rw [decide_eq_true rfl]
    exact k _ (p1.trans p2)
open L3
theorem ok__law_any_sign (T:Txt mg) {C:Addr} (C__law_draw:Cal P w K mg base "_law_draw" 1 ["_law_hand", "_law_many"] (L3.spOf ⟨C,K⟩ dDraw)) {f:Addr} {fd:FuncData} (F:Fun K "_law_any_sign" "_law_any_sign" s__law_any_sign f fd):FnOk P w K mg base CX0 2 f fd ["_law_hand"] (L3.spOf ⟨C,K⟩ dAny13):=by
 refine L3.Fun.ok3 F sc__law_any_sign (fun ds M K3 h=>?_) (fun cdv A outer s H E hr=>?_)
 ·obtain ⟨k0,rfl,_⟩:=h
  rfl
 ·have SC:=sc__law_any_sign
  have hu:=hr.units
  have hu1:=hu_of hr
  have hr__law_draw:Room 1 _:=hr.mono (by first | decide | omega)
  refine ⟨_,_,(pss_cons (ps_set (i:=1) SC.nd rfl (Or.inl rfl) pe_str)
 (pss_cons (ps_set (i:=1) SC.nd rfl (Or.inl rfl) (pe_op (L3.ux_add (K':=K) rfl) (pv 1) pe_str))
 (pss_one (ps_ret (pe_ix (L3.ux_ix (K':=K) rfl) (pv 1) (pe_cal C__law_draw hr__law_draw rfl (pa_cons (pv 0) (pa_cons (pe_callB (bk_len (K:=K) rfl) (by rfl) T.b_len PySem.boot_len (pa_cons (pv 1) pa_nil)) pa_nil))) (fun _ _=>rfl)))))),fun _=>(L3.s_seq (L3.s_asg L3.s_str (L3.s_g 1))
 (L3.s_seq (L3.s_asg (L3.s_op L3.s_add (L3.s_var 1) L3.s_str) (L3.s_g 1))
 (L3.s_ret (L3.s_op L3.s_ix (L3.s_var 1) (L3.s_call (L3.s_cons (L3.s_var 0) (L3.s_cons (L3.s_cb L3.s_len (L3.s_cons (L3.s_var 1) L3.s_nil)) L3.s_nil))))))),fun ds M Kk hM hD h=>?_⟩
  obtain ⟨k0,rfl,h⟩:=h
  obtain ⟨hk,k⟩:=h
  refine ⟨_,rfl,(by decide +kernel:(Str.ofString " !\"#$&'()*+,-./0123456789:;<=>?@ABCDEFGHIJKLMNOPQRSTUVWXYZ[\\]^_`").length + (Str.ofString "abcdefghijklmnopqrstuvwxyz{|}~\n").length<=sizeLine),?_⟩
  have h1:(Str.ofString " !\"#$&'()*+,-./0123456789:;<=>?@ABCDEFGHIJKLMNOPQRSTUVWXYZ[\\]^_`"++Str.ofString "abcdefghijklmnopqrstuvwxyz{|}~\n").cps.toList.all (fun c=>decide (c < 128))=true:=by decide +kernel
  have h2:(Str.ofString " !\"#$&'()*+,-./0123456789:;<=>?@ABCDEFGHIJKLMNOPQRSTUVWXYZ[\\]^_`"++Str.ofString "abcdefghijklmnopqrstuvwxyz{|}~\n").length=95:=by decide +kernel
  generalize Str.ofString " !\"#$&'()*+,-./0123456789:;<=>?@ABCDEFGHIJKLMNOPQRSTUVWXYZ[\\]^_`"++Str.ofString "abcdefghijklmnopqrstuvwxyz{|}~\n"=z at h1 h2
  have sz:z.length<=sizeLine:=by rw [h2]; decide
  refine ⟨_,rfl,_,rfl,_,rfl,sz,k0,_,rfl,hk,⟨by omega,by omega⟩,fun r r0 r1=>?_⟩
  obtain ⟨c,c1,c2⟩:=str_at h1 r0 r1
  exact ⟨_,c,rfl,sz,c2,.inl (k c c1)⟩
theorem ok__law_spoilt (T:Txt mg) {C:Addr} (C__law_draw:Cal P w K mg base "_law_draw" 1 ["_law_hand", "_law_many"] (L3.spOf ⟨C,K⟩ dDraw)) (C__law_any_sign:Cal P w K mg base "_law_any_sign" 2 ["_law_hand"] (L3.spOf ⟨C,K⟩ dAny13)) {f:Addr} {fd:FuncData} (F:Fun K "_law_spoilt" "_law_spoilt" s__law_spoilt f fd):FnOk P w K mg base CX0 3 f fd ["_law_hand", "_law_line"] (L3.spOf ⟨C,K⟩ dSpoilt13):=by
 refine L3.Fun.ok3 F sc__law_spoilt (fun ds M K3 h=>?_) (fun cdv A outer s H E hr=>?_)
 ·obtain ⟨k0,l,rfl,_⟩:=h
  rfl
 ·have SC:=sc__law_spoilt
  have hu:=hr.units
  have hu1:=hu_of hr
  have hr__law_draw:Room 1 _:=hr.mono (by first | decide | omega)
  have hr__law_any_sign:Room 2 _:=hr.mono (by first | decide | omega)
  refine ⟨_,_,(pss_cons (ps_for PassesOwn.never rfl (pi_range1 rfl T.b_range (pa_cons (pe_cal C__law_draw hr__law_draw rfl (pa_cons (pv 0) (pa_cons pe_int pa_nil))) pa_nil)) (pg_name (i:=2) SC.nd rfl (Or.inl rfl))
 (pss_cons (ps_set (i:=3) SC.nd rfl (Or.inl rfl) (pe_op op_mod (pe_cal C__law_draw hr__law_draw rfl (pa_cons (pv 0) (pa_cons pe_int pa_nil))) (pe_op (L3.ux_add (K':=K) rfl) (pe_callB (bk_len (K:=K) rfl) (by rfl) T.b_len PySem.boot_len (pa_cons (pv 1) pa_nil)) pe_int)))
 (pss_cons (ps_set (i:=4) SC.nd rfl (Or.inl rfl) (pe_ix (L3.ux_ix (K':=K) rfl) pe_str (pe_cal C__law_draw hr__law_draw rfl (pa_cons (pv 0) (pa_cons pe_int pa_nil))) (fun _ _=>rfl)))
 (pss_cons (ps_if (pt_cmpR (L3.ux_eq (K':=K) rfl hu) (pe_cal C__law_draw hr__law_draw rfl (pa_cons (pv 0) (pa_cons pe_int pa_nil))) pe_int (nomark _))
 (pss_one (ps_set (i:=4) SC.nd rfl (Or.inl rfl) (pe_cal C__law_any_sign hr__law_any_sign rfl (pa_cons (pv 0) pa_nil))))
 pss_nil)
 (pss_cons (ps_set (i:=5) SC.nd rfl (Or.inl rfl) (pe_cal C__law_draw hr__law_draw rfl (pa_cons (pv 0) (pa_cons pe_int pa_nil))))
 (pss_one (ps_if (pt_cmpR (L3.ux_eq (K':=K) rfl hu) (pv 5) pe_int (nomark _))
 (pss_one (ps_set (i:=1) SC.nd rfl (Or.inl rfl) (pe_op (L3.ux_add (K':=K) rfl) (pe_op (L3.ux_add (K':=K) rfl) (pe_slice (L3.ux_sl (K':=K) rfl) (pv 1) po_none (po_some (pv 3))) (pv 4)) (pe_slice (L3.ux_sl (K':=K) rfl) (pv 1) (po_some (pv 3)) po_none))))
 (pss_one (ps_if (pt_cmpR (L3.ux_eq (K':=K) rfl hu) (pv 5) pe_int (nomark _))
 (pss_one (ps_set (i:=1) SC.nd rfl (Or.inl rfl) (pe_op (L3.ux_add (K':=K) rfl) (pe_op (L3.ux_add (K':=K) rfl) (pe_slice (L3.ux_sl (K':=K) rfl) (pv 1) po_none (po_some (pv 3))) (pv 4)) (pe_slice (L3.ux_sl (K':=K) rfl) (pv 1) (po_some (pe_op (L3.ux_add (K':=K) rfl) (pv 3) pe_int)) po_none))))
 (pss_one (ps_set (i:=1) SC.nd rfl (Or.inl rfl) (pe_op (L3.ux_add (K':=K) rfl) (pe_slice (L3.ux_sl (K':=K) rfl) (pv 1) po_none (po_some (pv 3))) (pe_slice (L3.ux_sl (K':=K) rfl) (pv 1) (po_some (pe_op (L3.ux_add (K':=K) rfl) (pv 3) pe_int)) po_none)))))))))))))
 (pss_one (ps_ret (pv 1)))),fun _=>(L3.s_seq (L3.s_for (L3.s_ir1 (L3.s_cons (L3.s_call (L3.s_cons (L3.s_var 0) (L3.s_cons L3.s_int L3.s_nil))) L3.s_nil)) (L3.s_g 2)
 (L3.s_seq (L3.s_asg (L3.s_op L3.s_mod (L3.s_call (L3.s_cons (L3.s_var 0) (L3.s_cons L3.s_int L3.s_nil))) (L3.s_op L3.s_add (L3.s_cb L3.s_len (L3.s_cons (L3.s_var 1) L3.s_nil)) L3.s_int)) (L3.s_g 3))
 (L3.s_seq (L3.s_asg (L3.s_op L3.s_ix L3.s_str (L3.s_call (L3.s_cons (L3.s_var 0) (L3.s_cons L3.s_int L3.s_nil)))) (L3.s_g 4))
 (L3.s_seq (L3.s_ifS (L3.s_test (L3.s_op L3.s_eq (L3.s_call (L3.s_cons (L3.s_var 0) (L3.s_cons L3.s_int L3.s_nil))) L3.s_int))
 (L3.s_asg (L3.s_call (L3.s_cons (L3.s_var 0) L3.s_nil)) (L3.s_g 4))
 L3.s_next)
 (L3.s_seq (L3.s_asg (L3.s_call (L3.s_cons (L3.s_var 0) (L3.s_cons L3.s_int L3.s_nil))) (L3.s_g 5))
 (L3.s_ifS (L3.s_test (L3.s_op L3.s_eq (L3.s_var 5) L3.s_int))
 (L3.s_asg (L3.s_op L3.s_add (L3.s_op L3.s_add (L3.s_sl L3.s_sl3 (L3.s_var 1) L3.s_noPart (L3.s_part (L3.s_var 3))) (L3.s_var 4)) (L3.s_sl L3.s_sl3 (L3.s_var 1) (L3.s_part (L3.s_var 3)) L3.s_noPart)) (L3.s_g 1))
 (L3.s_ifS (L3.s_test (L3.s_op L3.s_eq (L3.s_var 5) L3.s_int))
 (L3.s_asg (L3.s_op L3.s_add (L3.s_op L3.s_add (L3.s_sl L3.s_sl3 (L3.s_var 1) L3.s_noPart (L3.s_part (L3.s_var 3))) (L3.s_var 4)) (L3.s_sl L3.s_sl3 (L3.s_var 1) (L3.s_part (L3.s_op L3.s_add (L3.s_var 3) L3.s_int)) L3.s_noPart)) (L3.s_g 1))
 (L3.s_asg (L3.s_op L3.s_add (L3.s_sl L3.s_sl3 (L3.s_var 1) L3.s_noPart (L3.s_part (L3.s_var 3))) (L3.s_sl L3.s_sl3 (L3.s_var 1) (L3.s_part (L3.s_op L3.s_add (L3.s_var 3) L3.s_int)) L3.s_noPart)) (L3.s_g 1)))))))))
 (L3.s_ret (L3.s_var 1))),fun ds M Kk hM hD h=>?_⟩
  obtain ⟨k0,l,rfl,h⟩:=h
  obtain ⟨hk,⟨hc,hl⟩,k⟩:=h
  refine ⟨_,rfl,k0,3,rfl,hk,⟨by decide,by decide⟩,fun q q0 q1=>?_⟩
  refine ⟨q,rfl,⟨by omega,by omega⟩,fun i ρ M'=>∃ (l':List Nat) (v2 v3 v4 v5:Option D),(∀ c∈l',c < 128)/\l'.length<=20000 + i/\ρ=[some (.cell k0),some (.str (mkS l')),v2,v3,v4,v5]/\M=M',fun _ _ _ _ _=>trivial,⟨l,_,_,_,_,hc,by omega,rfl,rfl⟩,?_,?_⟩
  ·rintro i x ρ _ hi rfl ⟨l',v2,v3,v4,v5,c1,c2,rfl,rfl⟩
   have hi:i < q.toNat:=hi
   have sl:(mkS l').length<=sizeLine:=by rw [mk_len]; exact small_line (by omega)
   refine ⟨_,rfl,k0,4000,rfl,hk,⟨by decide,by decide⟩,fun a a0 a1=>?_⟩
   refine ⟨_,rfl,sl,_,_,rfl,rfl,(by rw [mk_len]; omega:(0:Int) < ((mkS l').length:Int) + 1),?_⟩
   have b0:=Int.emod_nonneg a (show ((mkS l').length:Int) + 1≠0 by omega)
   have b1:=Int.emod_lt_of_pos a (show 0 < ((mkS l').length:Int) + 1 by omega)
   dsimp only
   generalize a % (((mkS l').length:Int) + 1)=t at b0 b1
   obtain ⟨t,rfl⟩:=Int.eq_ofNat_of_zero_le b0
   rw [mk_len] at b1
   have bt:t<=l'.length:=by omega
   have sz:(Str.ofString "0123456789abcdefgAF.?- +\n.?00-_h").length=32:=by decide +kernel
   refine ⟨_,rfl,k0,32,rfl,hk,⟨by decide,by decide⟩,fun r r0 r1=>?_⟩
   obtain ⟨c,d1,d2⟩:=str_at (z:=Str.ofString "0123456789abcdefgAF.?- +\n.?00-_h") (by decide +kernel) r0 (by rw [sz]; exact r1)
   refine ⟨_,c,rfl,(by rw [sz]; decide),d2,?_⟩
   refine g_nx ?_
   dsimp only
   refine st_by (fun ρ' M'=>∃ c,c < 128/\ρ'=[some (.cell k0),some (.str (mkS l')),some (.int (0 + (i:Int))),some (.int (t:Int)),some (.str (mkS [c])),v5]/\M=M') (fun Kn hn=>?_) ?_
   ·refine ⟨_,rfl,k0,2,rfl,hk,⟨by decide,by decide⟩,fun w w0 w1=>.inl ⟨_,rfl,_,rfl,ite2 (fun h=>?_) (fun h=>?_)⟩⟩
    ·exact ⟨_,rfl,k0,rfl,hk,fun c hc=>hn _ _ ⟨c,hc,rfl,rfl⟩⟩
    ·exact hn _ _ ⟨c,d1,rfl,rfl⟩
   rintro _ _ ⟨c,e1,rfl,rfl⟩
   have ok1:∀ y:List Nat,(∀ c∈y,c < 128)->∀ c'∈l'.take t++[c]++y,c' < 128:=fun y hy c' h=>by
    rcases List.mem_append.mp h with h | h
    ·rcases List.mem_append.mp h with h | h
     ·exact c1 _ (List.mem_of_mem_take h)
     ·rw [List.mem_singleton.mp h]; exact e1
    ·exact hy _ h
   have ok2:∀ n,∀ c∈l'.drop n,c < 128:=fun n c h=>c1 c (List.mem_of_mem_drop h)
   have ls:∀ n:Nat,(mkS (l'.take t)++mkS [c]).length + (mkS (l'.drop n)).length<=sizeLine:=fun n=>by
    rw [mk_app,mk_len,mk_len,List.length_append,List.length_take,List.length_drop]
    exact small_line (by show min t l'.length + 1 + _<=_; omega)
   have l1:(mkS (l'.take t)).length + (mkS [c]).length<=sizeLine:=by rw [mk_len,mk_len,List.length_take]; exact small_line (by show min t l'.length + 1<=_; omega)
   refine ⟨_,rfl,k0,3,rfl,hk,⟨by decide,by decide⟩,fun w w0 w1=>?_⟩
   refine ⟨_,rfl,.inl ⟨_,rfl,_,rfl,ite2 (fun h=>?_) (fun h=>?_)⟩⟩
   ·refine ⟨_,rfl,_,rfl,_,rfl,sl,?_⟩
    rw [mk_to bt]
    refine ⟨_,rfl,l1,_,rfl,_,rfl,_,rfl,sl,?_⟩
    rw [mk_from]
    refine ⟨ls _,.inl ⟨l'.take t++[c]++l'.drop t,some (.int (0 + (i:Int))),some (.int (t:Int)),some (.str (mkS [c])),some (.int w),ok1 _ (ok2 _),?_,?_,rfl⟩⟩
    ·rw [List.length_append,List.length_append,List.length_take,List.length_drop]; show min t l'.length + 1 + _<=_; omega
    ·rw [mk_app,mk_app]; rfl
   refine ⟨_,rfl,.inl ⟨_,rfl,_,rfl,ite2 (fun h=>?_) (fun h=>?_)⟩⟩
   ·refine ⟨_,rfl,_,rfl,_,rfl,sl,?_⟩
    rw [mk_to bt]
    refine ⟨_,rfl,l1,_,rfl,_,rfl,_,rfl,sl,?_⟩
    rw [show (t:Int) + 1=((t + 1:Nat):Int) by omega,mk_from]
    refine ⟨ls _,.inl ⟨l'.take t++[c]++l'.drop (t + 1),some (.int (0 + (i:Int))),some (.int (t:Int)),some (.str (mkS [c])),some (.int w),ok1 _ (ok2 _),?_,?_,rfl⟩⟩
    ·rw [List.length_append,List.length_append,List.length_take,List.length_drop]; show min t l'.length + 1 + _<=_; omega
    ·rw [mk_app,mk_app]; rfl
   ·refine ⟨_,rfl,_,rfl,_,rfl,sl,?_⟩
    rw [mk_to bt]
    refine ⟨_,rfl,_,rfl,_,rfl,sl,?_⟩
    rw [show (t:Int) + 1=((t + 1:Nat):Int) by omega,mk_from]
    refine ⟨?_,.inl ⟨l'.take t++l'.drop (t + 1),some (.int (0 + (i:Int))),some (.int (t:Int)),some (.str (mkS [c])),some (.int w),?_,?_,?_,rfl⟩⟩
    ·rw [mk_len,mk_len,List.length_take,List.length_drop]; exact small_line (by omega)
    ·intro c' h
     rcases List.mem_append.mp h with h | h
     ·exact c1 _ (List.mem_of_mem_take h)
     ·exact ok2 _ _ h
    ·rw [List.length_append,List.length_take,List.length_drop]; omega
    ·rw [mk_app]; rfl
  ·rintro ρ _ ⟨l',v2,v3,v4,v5,c1,c2,rfl,rfl⟩
   have c2:l'.length<=20000 + q.toNat:=c2
   exact ⟨_,rfl,.inl (k l' c1 (by omega))⟩
open L3
abbrev spLaw (K:W.Frag):Sp:=L3.spLaw0 K
theorem ok_law (T:Txt mg) {C:Addr} (C__law_open:Cal P w K mg base "_law_open" 1 ["_law_script", "_law_place"] (L3.spOf ⟨C,K⟩ dOpen)) (C__law_draw:Cal P w K mg base "_law_draw" 1 ["_law_hand", "_law_many"] (L3.spOf ⟨C,K⟩ dDraw)) (C__law_text_of:Cal P w K mg base "_law_text_of" 2 ["_law_hand", "_law_most", "_law_holes"] (L3.spOf ⟨C,K⟩ dTextOf)) (C__law_shown:Cal P w K mg base "_law_shown" 1 ["_law_kind", "_law_some"] (L3.spOf ⟨C,K⟩ dShown12)) (C__law_spoilt:Cal P w K mg base "_law_spoilt" 3 ["_law_hand", "_law_line"] (L3.spOf ⟨C,K⟩ dSpoilt13)) (C__law_right:Cal P w K mg base "_law_right" 7 ["_law_kind", "_law_line"] (L3.spOf ⟨C,K⟩ dRight13)) {f:Addr} {fd:FuncData} (F:Fun K "law" "law" s_law f fd):FnOk P w K mg base CX0 9 f fd ["_law_script"] (L3.spOf ⟨C,K⟩ dLaw0):=by
 refine L3.Fun.ok3 F sc_law (fun ds M K3 h=>?_) (fun cdv A outer s H E hr=>?_)
 ·obtain ⟨ns,rfl,_⟩:=h
  rfl
 ·have SC:=sc_law
  have hu:=hr.units
  have hu1:=hu_of hr
  have hr__law_open:Room 1 _:=hr.mono (by first | decide | omega)
  have hr__law_draw:Room 1 _:=hr.mono (by first | decide | omega)
  have hr__law_text_of:Room 2 _:=hr.mono (by first | decide | omega)
  have hr__law_shown:Room 1 _:=hr.mono (by first | decide | omega)
  have hr__law_spoilt:Room 3 _:=hr.mono (by first | decide | omega)
  have hr__law_right:Room 7 _:=hr.mono (by first | decide | omega)
  refine ⟨_,_,(pss_cons (ps_for PassesOwn.never rfl (pi_range1 rfl T.b_range (pa_cons (pe_callB (call_max2 rfl) (by rfl) T.b_max PyProof.Rows.boot_max (pa_cons pe_int (pa_cons (pe_callB (call_min2 rfl) (by rfl) T.b_min PyProof.Rows.boot_min (pa_cons (pe_callB (bk_len (K:=K) rfl) (by rfl) T.b_len PySem.boot_len (pa_cons (pv 0) pa_nil)) (pa_cons pe_int pa_nil))) pa_nil))) pa_nil)) (pg_name (i:=1) SC.nd rfl (Or.inr rfl))
 (pss_cons (ps_set (i:=2) SC.nd rfl (Or.inr rfl) (pe_cal C__law_open hr__law_open rfl (pa_cons (pv 0) (pa_cons (pv 1) pa_nil))))
 (pss_cons (ps_set (i:=3) SC.nd rfl (Or.inl rfl) (pe_cal C__law_draw hr__law_draw rfl (pa_cons (pv 2) (pa_cons pe_int pa_nil))))
 (pss_cons (ps_set (i:=4) SC.nd rfl (Or.inl rfl) (pe_cal C__law_text_of hr__law_text_of rfl (pa_cons (pv 2) (pa_cons pe_int (pa_cons (pe_cmpR (L3.ux_eq (K':=K) rfl hu) (pv 3) pe_int (nomark _)) pa_nil)))))
 (pss_cons (ps_if (pt_cmpR (L3.ux_eq (K':=K) rfl hu) (pv 3) pe_int (nomark _))
 (pss_one (ps_comp (i:=4) SC.nd rfl rfl (T:=["_law_k"]) (cs:=[2]) rfl (CScope.ok (by kernel_rfl)) (pi_range1 rfl T.b_range (pa_cons (pe_cal C__law_draw hr__law_draw rfl (pa_cons (pv 2) (pa_cons pe_int pa_nil))) pa_nil)) (fun _ _ _ _=>(pg_name (i:=0) (nd_of (by kernel_rfl)) rfl (Or.inl rfl) (Or.inr rfl))) (fun _ _ _ _=>pts_nil) (fun _ _ _ _=>(pe_cal C__law_draw hr__law_draw rfl (pa_cons (pv 1) (pa_cons pe_int pa_nil)))) (gk_name (by decide))))
 pss_nil)
 (pss_cons (ps_if (PW.pt (pw_and (pt_cmpR op_lt (pv 1) pe_int (nomark _)) (pw_and1 (pt_cmpR (L3.ux_eq (K':=K) rfl hu) (pe_cal C__law_draw hr__law_draw rfl (pa_cons (pv 2) (pa_cons pe_int pa_nil))) pe_int (nomark _)))))
 (pss_one (ps_comp (i:=4) SC.nd rfl rfl (T:=["_law_k"]) (cs:=[1]) rfl (CScope.ok (by kernel_rfl)) (pi_range1 rfl T.b_range (pa_cons (pe_op (L3.ux_add (K':=K) rfl) (pe_ix (L3.ux_ix (K':=K) rfl) (pe_lst (pa_cons pe_int (pa_cons pe_int (pa_cons pe_int pa_nil)))) (pv 3) (fun _ _=>rfl)) (pe_cal C__law_draw hr__law_draw rfl (pa_cons (pv 2) (pa_cons pe_int pa_nil)))) pa_nil)) (fun _ _ _ _=>(pg_name (i:=0) (nd_of (by kernel_rfl)) rfl (Or.inl rfl) (Or.inr rfl))) (fun _ _ _ _=>pts_nil) (fun _ _ _ _=>(pe_op (L3.ux_add (K':=K) rfl) pe_int (pv 1))) (gk_name (by decide))))
 pss_nil)
 (pss_cons (ps_set (i:=5) SC.nd rfl (Or.inl rfl) (pe_cal C__law_spoilt hr__law_spoilt rfl (pa_cons (pv 2) (pa_cons (pe_cal C__law_shown hr__law_shown rfl (pa_cons (pv 3) (pa_cons (pv 4) pa_nil))) pa_nil))))
 (pss_cons (ps_if (pt_cmpR (L3.ux_eq (K':=K) rfl hu) (pe_cal C__law_draw hr__law_draw rfl (pa_cons (pv 2) (pa_cons pe_int pa_nil))) pe_int (nomark _))
 (pss_cons (ps_set (i:=6) SC.nd rfl (Or.inl rfl) (pe_ix (L3.ux_ix (K':=K) rfl) (pe_lst (pa_cons pe_str (pa_cons pe_str (pa_cons pe_str (pa_cons pe_str (pa_cons pe_str pa_nil)))))) (pe_cal C__law_draw hr__law_draw rfl (pa_cons (pv 2) (pa_cons pe_int pa_nil))) (fun _ _=>rfl)))
 (pss_one (ps_set (i:=5) SC.nd rfl (Or.inl rfl) (pe_op (L3.ux_add (K':=K) rfl) (pe_ix (L3.ux_ix (K':=K) rfl) (pe_lst (pa_cons (pe_op (L3.ux_add (K':=K) rfl) (pv 5) pe_str) (pa_cons pe_str pa_nil))) (pe_cal C__law_draw hr__law_draw rfl (pa_cons (pv 2) (pa_cons pe_int pa_nil))) (fun _ _=>rfl)) (pv 6)))))
 pss_nil)
 (pss_one (ps_for PassesOwn.never rfl (pi_range1 rfl T.b_range (pa_cons pe_int pa_nil)) (pg_name (i:=7) SC.nd rfl (Or.inl rfl))
 (pss_one (ps_if (pt_not (pt_val (pe_cal C__law_right hr__law_right rfl (pa_cons (pe_op op_mod (pe_op (L3.ux_add (K':=K) rfl) (pv 3) (pv 7)) pe_int) (pa_cons (pv 5) pa_nil)))))
 (pss_one (ps_ret pe_bl))
 pss_nil))))))))))))
 (pss_one (ps_ret pe_bl))),fun _=>(L3.s_seq (L3.s_for (L3.s_ir1 (L3.s_cons (L3.s_cb L3.s_max2 (L3.s_cons L3.s_int (L3.s_cons (L3.s_cb L3.s_min2 (L3.s_cons (L3.s_cb L3.s_len (L3.s_cons (L3.s_var 0) L3.s_nil)) (L3.s_cons L3.s_int L3.s_nil))) L3.s_nil))) L3.s_nil)) (L3.s_g 1)
 (L3.s_seq (L3.s_asg (L3.s_call (L3.s_cons (L3.s_var 0) (L3.s_cons (L3.s_var 1) L3.s_nil))) (L3.s_g 2))
 (L3.s_seq (L3.s_asg (L3.s_call (L3.s_cons (L3.s_var 2) (L3.s_cons L3.s_int L3.s_nil))) (L3.s_g 3))
 (L3.s_seq (L3.s_asg (L3.s_call (L3.s_cons (L3.s_var 2) (L3.s_cons L3.s_int (L3.s_cons (L3.s_op L3.s_eq (L3.s_var 3) L3.s_int) L3.s_nil)))) (L3.s_g 4))
 (L3.s_seq (L3.s_ifS (L3.s_test (L3.s_op L3.s_eq (L3.s_var 3) L3.s_int))
 (L3.s_asg (L3.s_comp (L3.s_ir1 (L3.s_cons (L3.s_call (L3.s_cons (L3.s_var 2) (L3.s_cons L3.s_int L3.s_nil))) L3.s_nil)) (L3.s_g 0) L3.s_true (L3.s_call (L3.s_cons (L3.s_var 1) (L3.s_cons L3.s_int L3.s_nil)))) (L3.s_g 4))
 L3.s_next)
 (L3.s_seq (L3.s_ifS (L3.s_and (L3.s_test (L3.s_op L3.s_lt (L3.s_var 1) L3.s_int)) (L3.s_test (L3.s_op L3.s_eq (L3.s_call (L3.s_cons (L3.s_var 2) (L3.s_cons L3.s_int L3.s_nil))) L3.s_int)))
 (L3.s_asg (L3.s_comp (L3.s_ir1 (L3.s_cons (L3.s_op L3.s_add (L3.s_op L3.s_ix (L3.s_lst (L3.s_cons L3.s_int (L3.s_cons L3.s_int (L3.s_cons L3.s_int L3.s_nil)))) (L3.s_var 3)) (L3.s_call (L3.s_cons (L3.s_var 2) (L3.s_cons L3.s_int L3.s_nil)))) L3.s_nil)) (L3.s_g 0) L3.s_true (L3.s_op L3.s_add L3.s_int (L3.s_var 1))) (L3.s_g 4))
 L3.s_next)
 (L3.s_seq (L3.s_asg (L3.s_call (L3.s_cons (L3.s_var 2) (L3.s_cons (L3.s_call (L3.s_cons (L3.s_var 3) (L3.s_cons (L3.s_var 4) L3.s_nil))) L3.s_nil))) (L3.s_g 5))
 (L3.s_seq (L3.s_ifS (L3.s_test (L3.s_op L3.s_eq (L3.s_call (L3.s_cons (L3.s_var 2) (L3.s_cons L3.s_int L3.s_nil))) L3.s_int))
 (L3.s_seq (L3.s_asg (L3.s_op L3.s_ix (L3.s_lst (L3.s_cons L3.s_str (L3.s_cons L3.s_str (L3.s_cons L3.s_str (L3.s_cons L3.s_str (L3.s_cons L3.s_str L3.s_nil)))))) (L3.s_call (L3.s_cons (L3.s_var 2) (L3.s_cons L3.s_int L3.s_nil)))) (L3.s_g 6))
 (L3.s_asg (L3.s_op L3.s_add (L3.s_op L3.s_ix (L3.s_lst (L3.s_cons (L3.s_op L3.s_add (L3.s_var 5) L3.s_str) (L3.s_cons L3.s_str L3.s_nil))) (L3.s_call (L3.s_cons (L3.s_var 2) (L3.s_cons L3.s_int L3.s_nil)))) (L3.s_var 6)) (L3.s_g 5)))
 L3.s_next)
 (L3.s_for (L3.s_ir1 (L3.s_cons L3.s_int L3.s_nil)) (L3.s_g 7)
 (L3.s_ifS (L3.s_not (L3.s_b (L3.s_call (L3.s_cons (L3.s_op L3.s_mod (L3.s_op L3.s_add (L3.s_var 3) (L3.s_var 7)) L3.s_int) (L3.s_cons (L3.s_var 5) L3.s_nil)))))
 (L3.s_ret L3.s_bl)
 L3.s_next))))))))))
 (L3.s_ret L3.s_bl)),fun ds M Kk hM hD h=>?_⟩
  obtain ⟨ns,rfl,h⟩:=h
  obtain ⟨rfl,hlen,k⟩:=h
  have lm:∀ ns:List Int,(ns.map D.int).length=ns.length:=fun ns=>List.length_map _
  refine ⟨_,rfl,_,rfl,_,_,rfl,_,_,rfl,_,rfl,?_,?_⟩
  ·rw [lm]
   refine ⟨?_,?_⟩ <;> (split <;> (try split) <;> omega)
  refine ⟨fun i ρ M'=>∃ v1 v2 v3 v4 v5 v6 v7:Option D,ρ=[some (.frz (ns.map .int)),v1,v2,v3,v4,v5,v6,v7],fun _ _ _ _ _=>trivial,⟨_,_,_,_,_,_,_,rfl⟩,?_,?_⟩
  ·rintro i x ρ N hi rfl ⟨v1,v2,v3,v4,v5,v6,v7,rfl⟩
   have hb:i < 63:=by
    have h1:i < (_:Int).toNat:=hi
    rw [lm] at h1
    revert h1
    split <;> (try split) <;> omega
   refine ⟨_,rfl,_,rfl,ns,_,rfl,⟨hlen,by omega,by omega⟩,?_⟩
   generalize hc:N.length=h
   have hk:∀ {X:Mem},(N++[MO.hand]++X)[h]?=some .hand:=fun {X}=>by
    rw [<- hc,List.append_assoc,List.getElem?_append_right (Nat.le_refl _),Nat.sub_self]; rfl
   have hk0:(N++[MO.hand])[h]?=some .hand:=by rw [<- hc]; exact List.getElem?_concat_length
   generalize N++[MO.hand]=N1 at hk hk0
   have hkp:∀ {M':Mem},N1<+:M'->M'[h]?=some .hand:=fun {M'} p=>by obtain ⟨X,rfl⟩:=p; exact hk
   refine ⟨_,rfl,h,3,rfl,hk0,⟨by decide,by decide⟩,fun q q0 q3=>?_⟩
   refine ⟨_,rfl,_,rfl,.inl ⟨_,rfl,h,6,decide (q=2),rfl,hk0,⟨by decide,by decide⟩,fun es e1 e2 e3=>?_⟩⟩
   refine g_nx ?_
   dsimp only
   refine st_by (fun ρ' M'=>∃ (d:D) (cs:List (Option Int)),OkK q cs/\lsOf M' d=some (cs.map oD)/\N1<+:M'/\ρ'=[some (.frz (ns.map .int)),some (.int (0 + (i:Int))),some (.cell h),some (.int q),some d,v5,v6,v7]) (fun Kn hn=>?_) ?_
   ·refine ⟨_,rfl,.inl ⟨_,rfl,_,rfl,ite2 (fun hq=>?_) (fun hq=>?_)⟩⟩
    ·have hq:=of_decide_eq_true hq
     refine ⟨_,rfl,h,7,rfl,hk,⟨by decide,by decide⟩,fun z z0 z1=>?_⟩
     refine ⟨z,rfl,⟨by omega,by omega⟩,small_line (by show z.toNat<=100000; omega),fun j ys M'=>N1++[MO.lst (es.map oD)]=M'/\∃ ms:List Int,ms.length=j/\(∀ m∈ms,0<=m/\m < 256)/\ys=ms.map .int,fun _ _ _ _ _=>trivial,⟨rfl,[],rfl,fun _ h=>(nomatch h),rfl⟩,?_,?_⟩
     ·rintro j x ys _ hj rfl ⟨rfl,ms,g1,g2,rfl⟩
      refine ⟨_,rfl,h,256,rfl,hk,⟨by decide,by decide⟩,fun y y0 y1=>⟨rfl,ms++[y],?_,?_,?_⟩⟩
      ·rw [List.length_append,g1]; rfl
      ·intro m hm
       rcases List.mem_append.mp hm with hm | hm
       ·exact g2 m hm
       ·rw [List.mem_singleton.mp hm]; exact ⟨y0,y1⟩
      ·rw [List.map_append]; rfl
     rintro ys _ ⟨rfl,ms,g1,g2,rfl⟩
     have g1:ms.length=z.toNat:=g1
     refine hn _ _ ⟨.lst (ms.map .int),ms.map some,⟨fun e he n hn=>?_,by rw [List.length_map]; omega,fun _ e he=>?_,fun h=>by omega⟩,by rw [List.map_map]; rfl,List.prefix_append _ _,rfl⟩
     ·obtain ⟨m,hm,rfl⟩:=List.mem_map.mp he
      cases hn
      have:=g2 n hm
      omega
     ·obtain ⟨m,hm,rfl⟩:=List.mem_map.mp he
      exact ⟨m,rfl,(g2 m hm).2⟩
    ·have hq:=of_decide_eq_false (Bool.not_eq_true _ ▸ hq)
     exact hn _ _ ⟨.cell N1.length,es,⟨e1,by omega,fun z=>absurd z hq,fun z=>e3 (decide_eq_false (by omega))⟩,ls_last,List.prefix_append _ _,rfl⟩
   rintro _ M1 ⟨d,cs,ok,hd,p1,rfl⟩
   refine st_by (fun ρ' M'=>∃ (d:D) (cs:List (Option Int)),OkK q cs/\lsOf M' d=some (cs.map oD)/\N1<+:M'/\ρ'=[some (.frz (ns.map .int)),some (.int (0 + (i:Int))),some (.cell h),some (.int q),some d,v5,v6,v7]) (fun Kn hn=>?_) ?_
   ·refine ⟨_,rfl,_,_,rfl,rfl,_,rfl,ite2 (fun hp=>?_) (fun hp=>?_)⟩
    ·have hp:=of_decide_eq_true hp
     refine ⟨_,rfl,h,16,rfl,hkp p1,⟨by decide,by decide⟩,fun w w0 w1=>.inl ⟨_,rfl,_,rfl,ite2 (fun hw=>?_) (fun hw=>?_)⟩⟩
     ·obtain ⟨n0,a0,a1,a2⟩:∃ n0:Int,L2.atI [D.int 799,.int 199,.int 799] q=some (.int n0)/\0<=n0/\n0<=799:=by
       rcases (by omega:q=0\/q=1\/q=2) with e | e | e <;> subst e
       ·exact ⟨799,rfl,by decide,by decide⟩
       ·exact ⟨199,rfl,by decide,by decide⟩
       ·exact ⟨799,rfl,by decide,by decide⟩
      refine ⟨(show 3<=sizeLine by decide),_,rfl,_,q,_,rfl,rfl,a0,_,rfl,h,4,rfl,hkp p1,⟨by decide,by decide⟩,fun y y0 y1=>?_⟩
      refine ⟨_,rfl,⟨by omega,by omega⟩,small_line (by show (n0 + y).toNat<=100000; omega),fun j ys M'=>M1=M'/\ys=(List.replicate j (some (7 + (0 + (i:Int))))).map oD,fun _ _ _ _ _=>trivial,⟨rfl,rfl⟩,?_,?_⟩
      ·rintro j x ys _ hj rfl ⟨rfl,rfl⟩
       refine ⟨_,rfl,rfl,?_⟩
       rw [List.replicate_succ',List.map_append]
       rfl
      rintro ys _ ⟨rfl,rfl⟩
      refine hn _ _ ⟨.lst ((List.replicate (n0 + y).toNat (some (7 + (0 + (i:Int))))).map oD),List.replicate (n0 + y).toNat (some (7 + (0 + (i:Int)))),⟨fun e he n hn=>?_,by rw [List.length_replicate]; omega,fun _ e he=>?_,fun _ e he=>?_⟩,rfl,p1,rfl⟩
      ·rw [List.eq_of_mem_replicate he] at hn
       have:=Option.some.inj hn
       omega
      ·exact ⟨_,List.eq_of_mem_replicate he,by omega⟩
      ·rw [List.eq_of_mem_replicate he]; exact fun z=>nomatch z
     ·exact hn _ _ ⟨d,cs,ok,hd,p1,rfl⟩
    ·exact hn _ _ ⟨d,cs,ok,hd,p1,rfl⟩
   rintro _ M2 ⟨d,cs,ok,hd,p2,rfl⟩
   obtain ⟨l0,el,c0,n0⟩:=okk_line ok
   refine ⟨_,rfl,_,rfl,_,rfl,q,d,cs,rfl,hd,⟨⟨q0,q3⟩,ok⟩,fun M3 p3=>?_⟩
   have p3:=p2.trans p3
   refine ⟨h,l0,by rw [el],hkp p3,⟨c0,n0⟩,fun l1 c1 n1=>?_⟩
   refine g_nx ?_
   dsimp only
   refine st_by (fun ρ' M'=>∃ (l:List Nat) (w:Option D),OkL l/\N1<+:M'/\ρ'=[some (.frz (ns.map .int)),some (.int (0 + (i:Int))),some (.cell h),some (.int q),some d,some (.str (mkS l)),w,v7]) (fun Kn hn=>?_) ?_
   ·refine ⟨_,rfl,h,8,rfl,hkp p3,⟨by decide,by decide⟩,fun w w0 w1=>.inl ⟨_,rfl,_,rfl,ite2 (fun hw=>?_) (fun hw=>?_)⟩⟩
    ·refine ⟨(show 5<=sizeLine by decide),_,rfl,h,5,rfl,hkp p3,⟨by decide,by decide⟩,fun r r0 r1=>?_⟩
     obtain ⟨z,a0,a1,a2⟩:∃ z:Str,L2.atI [D.str (Str.ofString "10000000000"),.str (Str.ofString "1000000001"),.str (Str.ofString "1000000000"),.str (Str.ofString "9999999999"),.str (Str.ofString "10000000000.1")] r=some (.str z)/\z.cps.toList.all (fun c=>decide (c < 128))=true/\z.cps.toList.length<=13:=by
      rcases (by omega:r=0\/r=1\/r=2\/r=3\/r=4) with e | e | e | e | e <;> subst e
      ·exact ⟨_,rfl,by decide +kernel,by decide +kernel⟩
      ·exact ⟨_,rfl,by decide +kernel,by decide +kernel⟩
      ·exact ⟨_,rfl,by decide +kernel,by decide +kernel⟩
      ·exact ⟨_,rfl,by decide +kernel,by decide +kernel⟩
      ·exact ⟨_,rfl,by decide +kernel,by decide +kernel⟩
     refine ⟨_,r,_,rfl,rfl,a0,?_⟩
     have ept:Str.ofString "."=mkS [46]:=by decide +kernel
     have en:Str.ofString ""=mkS []:=by decide +kernel
     have s1:(mkS l1).length + (Str.ofString ".").length<=sizeLine:=by rw [ept,mk_len,mk_len]; exact small_line (by show l1.length + 1<=_; omega)
     refine ⟨_,rfl,s1,(show 2<=sizeLine by decide),_,rfl,h,2,rfl,hkp p3,⟨by decide,by decide⟩,fun y y0 y1=>?_⟩
     have ez:z=mkS z.cps.toList:=rfl
     generalize z.cps.toList=zl at ez a1 a2
     subst ez
     have zc:∀ c∈zl,c < 128:=fun c hc=>of_decide_eq_true (List.all_eq_true.mp a1 c hc)
     rcases (by omega:y=0\/y=1) with e | e <;> subst e
     ·refine ⟨_,_,_,rfl,rfl,rfl,_,rfl,?_,hn _ _ ⟨l1++[46]++zl,some (.str (mkS zl)),⟨fun c hc=>?_,?_⟩,p3,?_⟩⟩
      ·rw [ept,mk_app,mk_len,mk_len,List.length_append]; exact small_line (by show l1.length + 1 + _<=_; omega)
      ·rcases List.mem_append.mp hc with hc | hc
       ·rcases List.mem_append.mp hc with hc | hc
        ·exact c1 c hc
        ·rw [List.mem_singleton.mp hc]; decide
       ·exact zc c hc
      ·rw [List.length_append,List.length_append]; show l1.length + 1 + _<=_; omega
      ·rw [ept,mk_app,mk_app]; rfl
     ·refine ⟨_,_,_,rfl,rfl,rfl,_,rfl,?_,hn _ _ ⟨zl,some (.str (mkS zl)),⟨zc,by omega⟩,p3,?_⟩⟩
      ·rw [en,mk_len,mk_len]; exact small_line (by show 0 + _<=_; omega)
      ·rw [en,mk_app]; rfl
    ·exact hn _ _ ⟨l1,_,⟨c1,by omega⟩,p3,rfl⟩
   rintro _ M4 ⟨l,w,okl,p4,rfl⟩
   refine ⟨_,rfl,⟨by decide,by decide⟩,fun j ρ M'=>∃ v7:Option D,ρ=[some (.frz (ns.map .int)),some (.int (0 + (i:Int))),some (.cell h),some (.int q),some d,some (.str (mkS l)),w,v7],fun _ _ _ _ _=>trivial,⟨_,rfl⟩,?_,?_⟩
   ·rintro j x ρ M' hj rfl ⟨v7,rfl⟩
    refine ⟨_,rfl,_,rfl,_,_,rfl,rfl,(show (0:Int) < 3 by decide),_,rfl,_,l,rfl,⟨⟨Int.emod_nonneg _ (by decide),Int.emod_lt_of_pos _ (by decide)⟩,okl⟩,fun M5 p5=>⟨_,rfl,iteF (.inl ⟨_,rfl⟩)⟩⟩
   ·rintro ρ M' ⟨v7,rfl⟩
    exact .inl ⟨_,_,_,_,_,_,_,rfl⟩
  ·rintro ρ M' _
   exact .inl (k _)
end
theorem len1 {τ:Type} {Q:List τ->Prop} (h:∀ a,Q [a]) (us:List τ) (hl:us.length=1):Q us:=match us,hl with | [a],_=>h a
theorem len2 {τ:Type} {Q:List τ->Prop} (h:∀ a b,Q [a,b]) (us:List τ) (hl:us.length=2):Q us:=match us,hl with | [a,b],_=>h a b
theorem len3 {τ:Type} {Q:List τ->Prop} (h:∀ a b c,Q [a,b,c]) (us:List τ) (hl:us.length=3):Q us:=match us,hl with | [a,b,c],_=>h a b c
theorem all_mk {l:W.OpenLaw} {w:World} {K:W.Frag} {h:Heap} {mg:Str->Option Value} {fa:Addr} (X:K.In h) (G:h.Ns mainGlobals mg) (hfa:mg "law"=some (.ref fa))
    {X_NoShown:Addr}
    {X_SkewError:Addr}
    {X_Begins:Addr}
    {X_NoLine:Addr}
    {X_NoSign:Addr}
    {X_TooMany:Addr}
    {X_Twice:Addr}
    {f0:Addr} {od0 an0:Option Addr} {sl0:Array (Option Value)} {oc0 kV0 dc0 pm0 cd0 ct0:Value}
    {f1:Addr} {od1 an1:Option Addr} {sl1:Array (Option Value)} {oc1 kV1 dc1 pm1 cd1 ct1:Value}
    {f2:Addr} {od2 an2:Option Addr} {sl2:Array (Option Value)} {oc2 kV2 dc2 pm2 cd2 ct2:Value}
    {f3:Addr} {od3 an3:Option Addr} {sl3:Array (Option Value)} {oc3 kV3 dc3 pm3 cd3 ct3:Value}
    {f4:Addr} {od4 an4:Option Addr} {sl4:Array (Option Value)} {oc4 kV4 dc4 pm4 cd4 ct4:Value}
    {f5:Addr} {od5 an5:Option Addr} {sl5:Array (Option Value)} {oc5 kV5 dc5 pm5 cd5 ct5:Value}
    {f6:Addr} {od6 an6:Option Addr} {sl6:Array (Option Value)} {oc6 kV6 dc6 pm6 cd6 ct6:Value}
    {f7:Addr} {od7 an7:Option Addr} {sl7:Array (Option Value)} {oc7 kV7 dc7 pm7 cd7 ct7:Value}
    {f8:Addr} {od8 an8:Option Addr} {sl8:Array (Option Value)} {oc8 kV8 dc8 pm8 cd8 ct8:Value}
    {f9:Addr} {od9 an9:Option Addr} {sl9:Array (Option Value)} {oc9 kV9 dc9 pm9 cd9 ct9:Value}
    {f10:Addr} {od10 an10:Option Addr} {sl10:Array (Option Value)} {oc10 kV10 dc10 pm10 cd10 ct10:Value}
    {f11:Addr} {od11 an11:Option Addr} {sl11:Array (Option Value)} {oc11 kV11 dc11 pm11 cd11 ct11:Value}
    {f12:Addr} {od12 an12:Option Addr} {sl12:Array (Option Value)} {oc12 kV12 dc12 pm12 cd12 ct12:Value}
    {f13:Addr} {od13 an13:Option Addr} {sl13:Array (Option Value)} {oc13 kV13 dc13 pm13 cd13 ct13:Value}
    {f14:Addr} {od14 an14:Option Addr} {sl14:Array (Option Value)} {oc14 kV14 dc14 pm14 cd14 ct14:Value}
    {f15:Addr} {od15 an15:Option Addr} {sl15:Array (Option Value)} {oc15 kV15 dc15 pm15 cd15 ct15:Value}
    {f16:Addr} {od16 an16:Option Addr} {sl16:Array (Option Value)} {oc16 kV16 dc16 pm16 cd16 ct16:Value}
    {f17:Addr} {od17 an17:Option Addr} {sl17:Array (Option Value)} {oc17 kV17 dc17 pm17 cd17 ct17:Value}
    {f18:Addr} {od18 an18:Option Addr} {sl18:Array (Option Value)} {oc18 kV18 dc18 pm18 cd18 ct18:Value}
    {f19:Addr} {od19 an19:Option Addr} {sl19:Array (Option Value)} {oc19 kV19 dc19 pm19 cd19 ct19:Value}
    {f20:Addr} {od20 an20:Option Addr} {sl20:Array (Option Value)} {oc20 kV20 dc20 pm20 cd20 ct20:Value}
    {f21:Addr} {od21 an21:Option Addr} {sl21:Array (Option Value)} {oc21 kV21 dc21 pm21 cd21 ct21:Value}
    {t_GREATEST_SIGN:Tok}
    {t_MOST_BYTES:Tok}
    {t_MOST_SIGNS:Tok}
    {t_MOST_ENTRIES:Tok}
    {t_FIGURES:Tok}
    {t_BYTE_FIGURES:Tok}
    {t_NONE_LINE:Tok}
    {t_LOST_LINE:Tok}
    (gx_NoShown:W.nsIn K mainGlobals "NoShown"=some (some (.ref X_NoShown)))
    (gx_SkewError:W.nsIn K mainGlobals "SkewError"=some (some (.ref X_SkewError)))
    (gx_Begins:W.nsIn K mainGlobals "Begins"=some (some (.ref X_Begins)))
    (gx_NoLine:W.nsIn K mainGlobals "NoLine"=some (some (.ref X_NoLine)))
    (gx_NoSign:W.nsIn K mainGlobals "NoSign"=some (some (.ref X_NoSign)))
    (gx_TooMany:W.nsIn K mainGlobals "TooMany"=some (some (.ref X_TooMany)))
    (gx_Twice:W.nsIn K mainGlobals "Twice"=some (some (.ref X_Twice)))
    (a0:W.nsIn K mainGlobals "_law_draw"=some (some (.ref f0)))
    (l0:K.lookup f0=some ⟨oc0,od0,.func (W.fnOf "_law_draw" "_law_draw" (defArgs s__law_draw) (defBody s__law_draw) (defScope s__law_draw) .none kV0 dc0 pm0 an0 cd0 ct0),sl0⟩)
    (c0:W.codeIn K cd0 "_law_draw"=true) (k0:W.keepIn K (.ref f0)=true)
    (a1:W.nsIn K mainGlobals "_law_open"=some (some (.ref f1)))
    (l1:K.lookup f1=some ⟨oc1,od1,.func (W.fnOf "_law_open" "_law_open" (defArgs s__law_open) (defBody s__law_open) (defScope s__law_open) .none kV1 dc1 pm1 an1 cd1 ct1),sl1⟩)
    (c1:W.codeIn K cd1 "_law_open"=true) (k1:W.keepIn K (.ref f1)=true)
    (a2:W.findIn K (.ref X_NoShown) "__init__"=some (some (.ref f2)))
    (l2:K.lookup f2=some ⟨oc2,od2,.func (W.fnOf "__init__" "NoShown.__init__" (defArgs s_NoShown___init__) (defBody s_NoShown___init__) (defScope s_NoShown___init__) .none kV2 dc2 pm2 an2 cd2 ct2),sl2⟩)
    (c2:W.codeIn K cd2 "NoShown.__init__"=true) (k2:W.keepIn K (.ref f2)=true)
    (n2:W.isFn K (.ref f2)=true)
    (a3:W.nsIn K mainGlobals "_law_text_of"=some (some (.ref f3)))
    (l3:K.lookup f3=some ⟨oc3,od3,.func (W.fnOf "_law_text_of" "_law_text_of" (defArgs s__law_text_of) (defBody s__law_text_of) (defScope s__law_text_of) .none kV3 dc3 pm3 an3 cd3 ct3),sl3⟩)
    (c3:W.codeIn K cd3 "_law_text_of"=true) (k3:W.keepIn K (.ref f3)=true)
    (a4:W.nsIn K mainGlobals "_law_shown"=some (some (.ref f4)))
    (l4:K.lookup f4=some ⟨oc4,od4,.func (W.fnOf "_law_shown" "_law_shown" (defArgs s__law_shown) (defBody s__law_shown) (defScope s__law_shown) .none kV4 dc4 pm4 an4 cd4 ct4),sl4⟩)
    (c4:W.codeIn K cd4 "_law_shown"=true) (k4:W.keepIn K (.ref f4)=true)
    (a5:W.nsIn K mainGlobals "row_beginning"=some (some (.ref f5)))
    (l5:K.lookup f5=some ⟨oc5,od5,.func (W.fnOf "row_beginning" "row_beginning" (defArgs s_row_beginning) (defBody s_row_beginning) (defScope s_row_beginning) .none kV5 dc5 pm5 an5 cd5 ct5),sl5⟩)
    (c5:W.codeIn K cd5 "row_beginning"=true) (k5:W.keepIn K (.ref f5)=true)
    (a6:W.nsIn K mainGlobals "byte_shown"=some (some (.ref f6)))
    (l6:K.lookup f6=some ⟨oc6,od6,.func (W.fnOf "byte_shown" "byte_shown" (defArgs s_byte_shown) (defBody s_byte_shown) (defScope s_byte_shown) .none kV6 dc6 pm6 an6 cd6 ct6),sl6⟩)
    (c6:W.codeIn K cd6 "byte_shown"=true) (k6:W.keepIn K (.ref f6)=true)
    (a7:W.nsIn K mainGlobals "read_row"=some (some (.ref f7)))
    (l7:K.lookup f7=some ⟨oc7,od7,.func (W.fnOf "read_row" "read_row" (defArgs s_read_row) (defBody s_read_row) (defScope s_read_row) .none kV7 dc7 pm7 an7 cd7 ct7),sl7⟩)
    (c7:W.codeIn K cd7 "read_row"=true) (k7:W.keepIn K (.ref f7)=true)
    (a8:W.nsIn K mainGlobals "are_sign"=some (some (.ref f8)))
    (l8:K.lookup f8=some ⟨oc8,od8,.func (W.fnOf "are_sign" "are_sign" (defArgs s_are_sign) (defBody s_are_sign) (defScope s_are_sign) .none kV8 dc8 pm8 an8 cd8 ct8),sl8⟩)
    (c8:W.codeIn K cd8 "are_sign"=true) (k8:W.keepIn K (.ref f8)=true)
    (a9:W.nsIn K mainGlobals "thing_end"=some (some (.ref f9)))
    (l9:K.lookup f9=some ⟨oc9,od9,.func (W.fnOf "thing_end" "thing_end" (defArgs s_thing_end) (defBody s_thing_end) (defScope s_thing_end) .none kV9 dc9 pm9 an9 cd9 ct9),sl9⟩)
    (c9:W.codeIn K cd9 "thing_end"=true) (k9:W.keepIn K (.ref f9)=true)
    (a10:W.nsIn K mainGlobals "thing_shown"=some (some (.ref f10)))
    (l10:K.lookup f10=some ⟨oc10,od10,.func (W.fnOf "thing_shown" "thing_shown" (defArgs s_thing_shown) (defBody s_thing_shown) (defScope s_thing_shown) .none kV10 dc10 pm10 an10 cd10 ct10),sl10⟩)
    (c10:W.codeIn K cd10 "thing_shown"=true) (k10:W.keepIn K (.ref f10)=true)
    (a11:W.nsIn K mainGlobals "read_listed"=some (some (.ref f11)))
    (l11:K.lookup f11=some ⟨oc11,od11,.func (W.fnOf "read_listed" "read_listed" (defArgs s_read_listed) (defBody s_read_listed) (defScope s_read_listed) .none kV11 dc11 pm11 an11 cd11 ct11),sl11⟩)
    (c11:W.codeIn K cd11 "read_listed"=true) (k11:W.keepIn K (.ref f11)=true)
    (a12:W.nsIn K mainGlobals "read_text"=some (some (.ref f12)))
    (l12:K.lookup f12=some ⟨oc12,od12,.func (W.fnOf "read_text" "read_text" (defArgs s_read_text) (defBody s_read_text) (defScope s_read_text) .none kV12 dc12 pm12 an12 cd12 ct12),sl12⟩)
    (c12:W.codeIn K cd12 "read_text"=true) (k12:W.keepIn K (.ref f12)=true)
    (a13:W.nsIn K mainGlobals "read_entries"=some (some (.ref f13)))
    (l13:K.lookup f13=some ⟨oc13,od13,.func (W.fnOf "read_entries" "read_entries" (defArgs s_read_entries) (defBody s_read_entries) (defScope s_read_entries) .none kV13 dc13 pm13 an13 cd13 ct13),sl13⟩)
    (c13:W.codeIn K cd13 "read_entries"=true) (k13:W.keepIn K (.ref f13)=true)
    (a14:W.nsIn K mainGlobals "_law_row_walk"=some (some (.ref f14)))
    (l14:K.lookup f14=some ⟨oc14,od14,.func (W.fnOf "_law_row_walk" "_law_row_walk" (defArgs s__law_row_walk) (defBody s__law_row_walk) (defScope s__law_row_walk) .none kV14 dc14 pm14 an14 cd14 ct14),sl14⟩)
    (c14:W.codeIn K cd14 "_law_row_walk"=true) (k14:W.keepIn K (.ref f14)=true)
    (a15:W.nsIn K mainGlobals "_law_walk"=some (some (.ref f15)))
    (l15:K.lookup f15=some ⟨oc15,od15,.func (W.fnOf "_law_walk" "_law_walk" (defArgs s__law_walk) (defBody s__law_walk) (defScope s__law_walk) .none kV15 dc15 pm15 an15 cd15 ct15),sl15⟩)
    (c15:W.codeIn K cd15 "_law_walk"=true) (k15:W.keepIn K (.ref f15)=true)
    (a16:W.nsIn K mainGlobals "_law_due"=some (some (.ref f16)))
    (l16:K.lookup f16=some ⟨oc16,od16,.func (W.fnOf "_law_due" "_law_due" (defArgs s__law_due) (defBody s__law_due) (defScope s__law_due) .none kV16 dc16 pm16 an16 cd16 ct16),sl16⟩)
    (c16:W.codeIn K cd16 "_law_due"=true) (k16:W.keepIn K (.ref f16)=true)
    (a17:W.nsIn K mainGlobals "_law_read"=some (some (.ref f17)))
    (l17:K.lookup f17=some ⟨oc17,od17,.func (W.fnOf "_law_read" "_law_read" (defArgs s__law_read) (defBody s__law_read) (defScope s__law_read) .none kV17 dc17 pm17 an17 cd17 ct17),sl17⟩)
    (c17:W.codeIn K cd17 "_law_read"=true) (k17:W.keepIn K (.ref f17)=true)
    (a18:W.nsIn K mainGlobals "_law_right"=some (some (.ref f18)))
    (l18:K.lookup f18=some ⟨oc18,od18,.func (W.fnOf "_law_right" "_law_right" (defArgs s__law_right) (defBody s__law_right) (defScope s__law_right) .none kV18 dc18 pm18 an18 cd18 ct18),sl18⟩)
    (c18:W.codeIn K cd18 "_law_right"=true) (k18:W.keepIn K (.ref f18)=true)
    (a19:W.nsIn K mainGlobals "_law_any_sign"=some (some (.ref f19)))
    (l19:K.lookup f19=some ⟨oc19,od19,.func (W.fnOf "_law_any_sign" "_law_any_sign" (defArgs s__law_any_sign) (defBody s__law_any_sign) (defScope s__law_any_sign) .none kV19 dc19 pm19 an19 cd19 ct19),sl19⟩)
    (c19:W.codeIn K cd19 "_law_any_sign"=true) (k19:W.keepIn K (.ref f19)=true)
    (a20:W.nsIn K mainGlobals "_law_spoilt"=some (some (.ref f20)))
    (l20:K.lookup f20=some ⟨oc20,od20,.func (W.fnOf "_law_spoilt" "_law_spoilt" (defArgs s__law_spoilt) (defBody s__law_spoilt) (defScope s__law_spoilt) .none kV20 dc20 pm20 an20 cd20 ct20),sl20⟩)
    (c20:W.codeIn K cd20 "_law_spoilt"=true) (k20:W.keepIn K (.ref f20)=true)
    (a21:W.nsIn K mainGlobals "law"=some (some (.ref f21)))
    (l21:K.lookup f21=some ⟨oc21,od21,.func (W.fnOf "law" "law" (defArgs s_law) (defBody s_law) (defScope s_law) .none kV21 dc21 pm21 an21 cd21 ct21),sl21⟩)
    (c21:W.codeIn K cd21 "law"=true) (k21:W.keepIn K (.ref f21)=true)
    (xei_NoShown:L2.excI K X_NoShown f2=true)
    (xin_NoShown:L2.iniOf K X_NoShown=some (some (.ref f2)))
    (xob_NoShown:W.mroIn K X_NoShown (.type "object")=some true)
    (xbx_NoShown:W.mroIn K X_NoShown (.type "BaseException")=some true)
    (xsa_NoShown:W.findIn K (.ref X_NoShown) "__setattr__"=some (some (.builtin "object.__setattr__")))
    (xga_NoShown:W.findIn K (.ref X_NoShown) "__getattribute__"=some (some (.builtin "BaseException.__getattribute__")))
    (xgt_NoShown:W.findIn K (.ref X_NoShown) "__getattr__"=some none)
    (xdd_NoShown:W.hasDictIn K X_NoShown=true)
    (xkp_NoShown:W.keepIn K (.ref X_NoShown)=true)
    (xfn_NoShown:W.typeIn K (.ref f2)=some (.type "function"))
    (xcc_NoShown:W.findIn K (.ref X_NoShown) "__class__"=some (some (.builtin "object.__class__")))
    (xcg_NoShown:W.specialIn K (.builtin "object.__class__") "__get__"=some (some (.builtin "getset_descriptor.__get__")))
    (xct_NoShown:W.takesIn K (.builtin "object.__class__")=some true)
    (xna_at_NoShown:W.findIn K (.ref X_NoShown) "at"=some none)
    (xty_SkewError:W.typeIn K (.ref X_SkewError)=some (.type "type"))
    (xbb_SkewError:W.mroIn K X_SkewError (.type "BaseException")=some true)
    (mns:W.mroIn K X_NoShown (.ref X_SkewError)=some true)
    (knn:W.kitOne K (.ref X_NoShown) (.ref X_NoShown)=some true)
    (knv:W.kitOne K (.ref X_NoShown) (.type "ValueError")=some true)
    (kna:W.kitAny K (.ref X_NoShown) ([X_Begins,X_NoLine,X_NoSign,X_TooMany,X_Twice].map Value.ref)=some false)
    (z_len:W.nsIn K mainGlobals "len"=some none)
    (z_abs:W.nsIn K mainGlobals "abs"=some none)
    (z_max:W.nsIn K mainGlobals "max"=some none)
    (z_min:W.nsIn K mainGlobals "min"=some none)
    (z_isinstance:W.nsIn K mainGlobals "isinstance"=some none)
    (z_any:W.nsIn K mainGlobals "any"=some none)
    (z_range:W.nsIn K mainGlobals "range"=some none)
    (z_int:W.nsIn K mainGlobals "int"=some none)
    (z_str:W.nsIn K mainGlobals "str"=some none)
    (z_bool:W.nsIn K mainGlobals "bool"=some none)
    (z_list:W.nsIn K mainGlobals "list"=some none)
    (z_ValueError:W.nsIn K mainGlobals "ValueError"=some none)
    (g_GREATEST_SIGN:W.nsIn K mainGlobals "GREATEST_SIGN"=some (some (.int 1000000000 t_GREATEST_SIGN)))
    (g_MOST_BYTES:W.nsIn K mainGlobals "MOST_BYTES"=some (some (.int 800 t_MOST_BYTES)))
    (g_MOST_SIGNS:W.nsIn K mainGlobals "MOST_SIGNS"=some (some (.int 200 t_MOST_SIGNS)))
    (g_MOST_ENTRIES:W.nsIn K mainGlobals "MOST_ENTRIES"=some (some (.int 800 t_MOST_ENTRIES)))
    (g_FIGURES:W.nsIn K mainGlobals "FIGURES"=some (some (.str (Str.ofString "0123456789") t_FIGURES)))
    (g_BYTE_FIGURES:W.nsIn K mainGlobals "BYTE_FIGURES"=some (some (.str (Str.ofString "0123456789abcdef") t_BYTE_FIGURES)))
    (g_NONE_LINE:W.nsIn K mainGlobals "NONE_LINE"=some (some (.str (Str.ofString "-") t_NONE_LINE)))
    (g_LOST_LINE:W.nsIn K mainGlobals "LOST_LINE"=some (some (.str (Str.ofString "?") t_LOST_LINE)))
   :∃ fd:FuncData,(∀ (s:Shared) (v:Value),BindsTo s fd ⟨[v],[]⟩ [("_law_script",v)])/\∀ base:Heap,K.In base->base.Ns mainGlobals mg->FnOk l.prog w K mg base CX0 9 fa fd ["_law_script"] (spLaw K):=by
  have e:=hfa.symm.trans (W.mg_of X G a21)
  cases e
  have T:Txt mg:=⟨W.mg_none_of X G z_len,W.mg_none_of X G z_abs,W.mg_none_of X G z_max,W.mg_none_of X G z_min,W.mg_none_of X G z_isinstance,W.mg_none_of X G z_any,W.mg_none_of X G z_range,W.mg_none_of X G z_int,W.mg_none_of X G z_str,W.mg_none_of X G z_bool,W.mg_none_of X G z_list,W.mg_none_of X G z_ValueError,⟨_,W.mg_of X G g_GREATEST_SIGN,⟨_,rfl⟩⟩,⟨_,W.mg_of X G g_MOST_BYTES,⟨_,rfl⟩⟩,⟨_,W.mg_of X G g_MOST_SIGNS,⟨_,rfl⟩⟩,⟨_,W.mg_of X G g_MOST_ENTRIES,⟨_,rfl⟩⟩,⟨_,W.mg_of X G g_FIGURES,⟨_,rfl⟩⟩,⟨_,W.mg_of X G g_BYTE_FIGURES,⟨_,rfl⟩⟩,⟨_,W.mg_of X G g_NONE_LINE,⟨_,rfl⟩⟩,⟨_,W.mg_of X G g_LOST_LINE,⟨_,rfl⟩⟩⟩
  have F0:=fun_mk (st:=s__law_draw) l0 c0 k0
  have b0:=F0.binds (ps:=["_law_hand", "_law_many"]) fun _ _ _ _ _ _=>len2 fun _ _=>rfl
  have F1:=fun_mk (st:=s__law_open) l1 c1 k1
  have b1:=F1.binds (ps:=["_law_script", "_law_place"]) fun _ _ _ _ _ _=>len2 fun _ _=>rfl
  have F2:=fun_mk (st:=s_NoShown___init__) l2 c2 k2
  have b2:=F2.binds (ps:=["self", "at"]) fun _ _ _ _ _ _=>len2 fun _ _=>rfl
  have F3:=fun_mk (st:=s__law_text_of) l3 c3 k3
  have b3:=F3.binds (ps:=["_law_hand", "_law_most", "_law_holes"]) fun _ _ _ _ _ _=>len3 fun _ _ _=>rfl
  have F4:=fun_mk (st:=s__law_shown) l4 c4 k4
  have b4:=F4.binds (ps:=["_law_kind", "_law_some"]) fun _ _ _ _ _ _=>len2 fun _ _=>rfl
  have F5:=fun_mk (st:=s_row_beginning) l5 c5 k5
  have b5:=F5.binds (ps:=["line"]) fun _ _ _ _ _ _=>len1 fun _=>rfl
  have F6:=fun_mk (st:=s_byte_shown) l6 c6 k6
  have b6:=F6.binds (ps:=["higher", "lower"]) fun _ _ _ _ _ _=>len2 fun _ _=>rfl
  have F7:=fun_mk (st:=s_read_row) l7 c7 k7
  have b7:=F7.binds (ps:=["line"]) fun _ _ _ _ _ _=>len1 fun _=>rfl
  have F8:=fun_mk (st:=s_are_sign) l8 c8 k8
  have b8:=F8.binds (ps:=["figures"]) fun _ _ _ _ _ _=>len1 fun _=>rfl
  have F9:=fun_mk (st:=s_thing_end) l9 c9 k9
  have b9:=F9.binds (ps:=["line", "start", "with_lost"]) fun _ _ _ _ _ _=>len3 fun _ _ _=>rfl
  have F10:=fun_mk (st:=s_thing_shown) l10 c10 k10
  have b10:=F10.binds (ps:=["part"]) fun _ _ _ _ _ _=>len1 fun _=>rfl
  have F11:=fun_mk (st:=s_read_listed) l11 c11 k11
  have b11:=F11.binds (ps:=["line", "most", "with_lost"]) fun _ _ _ _ _ _=>len3 fun _ _ _=>rfl
  have F12:=fun_mk (st:=s_read_text) l12 c12 k12
  have b12:=F12.binds (ps:=["line"]) fun _ _ _ _ _ _=>len1 fun _=>rfl
  have F13:=fun_mk (st:=s_read_entries) l13 c13 k13
  have b13:=F13.binds (ps:=["line"]) fun _ _ _ _ _ _=>len1 fun _=>rfl
  have F14:=fun_mk (st:=s__law_row_walk) l14 c14 k14
  have b14:=F14.binds (ps:=["_law_line"]) fun _ _ _ _ _ _=>len1 fun _=>rfl
  have F15:=fun_mk (st:=s__law_walk) l15 c15 k15
  have b15:=F15.binds (ps:=["_law_line", "_law_most", "_law_holes"]) fun _ _ _ _ _ _=>len3 fun _ _ _=>rfl
  have F16:=fun_mk (st:=s__law_due) l16 c16 k16
  have b16:=F16.binds (ps:=["_law_kind", "_law_line"]) fun _ _ _ _ _ _=>len2 fun _ _=>rfl
  have F17:=fun_mk (st:=s__law_read) l17 c17 k17
  have b17:=F17.binds (ps:=["_law_kind", "_law_line"]) fun _ _ _ _ _ _=>len2 fun _ _=>rfl
  have F18:=fun_mk (st:=s__law_right) l18 c18 k18
  have b18:=F18.binds (ps:=["_law_kind", "_law_line"]) fun _ _ _ _ _ _=>len2 fun _ _=>rfl
  have F19:=fun_mk (st:=s__law_any_sign) l19 c19 k19
  have b19:=F19.binds (ps:=["_law_hand"]) fun _ _ _ _ _ _=>len1 fun _=>rfl
  have F20:=fun_mk (st:=s__law_spoilt) l20 c20 k20
  have b20:=F20.binds (ps:=["_law_hand", "_law_line"]) fun _ _ _ _ _ _=>len2 fun _ _=>rfl
  have F21:=fun_mk (st:=s_law) l21 c21 k21
  refine ⟨W.fnOf "law" "law" (defArgs s_law) (defBody s_law) (defScope s_law) .none kV21 dc21 pm21 an21 cd21 ct21,fun s v=>.of_eq rfl,fun base _ _=>?_⟩
  have G_NoShown:=W.mg_of X G gx_NoShown
  have G_SkewError:=W.mg_of X G gx_SkewError
  have G_Begins:=W.mg_of X G gx_Begins
  have G_NoLine:=W.mg_of X G gx_NoLine
  have G_NoSign:=W.mg_of X G gx_NoSign
  have G_TooMany:=W.mg_of X G gx_TooMany
  have G_Twice:=W.mg_of X G gx_Twice
  have xc_NoShown:XCl K X_NoShown _:=⟨xei_NoShown,xob_NoShown,xbx_NoShown,xsa_NoShown,xga_NoShown,xgt_NoShown,xdd_NoShown,xkp_NoShown,xfn_NoShown,xcc_NoShown,xcg_NoShown,xct_NoShown⟩
  have CA_SkewError:Cau K mg "SkewError" X_SkewError:=⟨G_SkewError,xty_SkewError,xbb_SkewError⟩
  have C__law_draw:=cal_mk (P:=l.prog) (w:=w) (base:=base) F0 (ok__law_draw T  F0) (W.mg_of X G a0) b0
  have D__law_draw:=L3.Cal.imp C__law_draw fun _ _ _ _ h=>L3.a_draw (C:=⟨0,K⟩) h
  have C__law_open:=cal_mk (P:=l.prog) (w:=w) (base:=base) F1 (ok__law_open T  F1) (W.mg_of X G a1) b1
  have D__law_open:=L3.Cal.imp C__law_open fun _ _ _ _ h=>L3.a_open (C:=⟨0,K⟩) h
  have RX_NoShown:Rx l.prog w K mg base "NoShown" X_NoShown 1 _ _:=⟨f2,_,xc_NoShown,xin_NoShown,ok_NoShown___init__ T xc_NoShown xna_at_NoShown F2,G_NoShown,b2⟩
  have C__law_text_of:=cal_mk (P:=l.prog) (w:=w) (base:=base) F3 (ok__law_text_of (C:=0) T D__law_draw F3) (W.mg_of X G a3) b3
  have C__law_shown:=cal_mk (P:=l.prog) (w:=w) (base:=base) F4 (ok__law_shown (C:=0) T  F4) (W.mg_of X G a4) b4
  have C_row_beginning:=cal_mk (P:=l.prog) (w:=w) (base:=base) F5 (ok_row_beginning (C:=0) T  F5) (W.mg_of X G a5) b5
  have C_byte_shown:=cal_mk (P:=l.prog) (w:=w) (base:=base) F6 (ok_byte_shown (C:=0) T  F6) (W.mg_of X G a6) b6
  have C_read_row:=cale_mk (P:=l.prog) (w:=w) (base:=base) F7 (ok_read_row (C:=0) T RX_NoShown C_row_beginning C_byte_shown F7) (W.mg_of X G a7) b7
  have C_are_sign:=cal_mk (P:=l.prog) (w:=w) (base:=base) F8 (ok_are_sign (C:=0) T  F8) (W.mg_of X G a8) b8
  have C_thing_end:=cal_mk (P:=l.prog) (w:=w) (base:=base) F9 (ok_thing_end (C:=0) T C_are_sign F9) (W.mg_of X G a9) b9
  have C_thing_shown:=cal_mk (P:=l.prog) (w:=w) (base:=base) F10 (ok_thing_shown (C:=0) T  F10) (W.mg_of X G a10) b10
  have C_read_listed:=cale_mk (P:=l.prog) (w:=w) (base:=base) F11 (ok_read_listed (C:=0) T RX_NoShown C_thing_end C_thing_shown F11) (W.mg_of X G a11) b11
  have C_read_text:=cale_mk (P:=l.prog) (w:=w) (base:=base) F12 (ok_read_text (C:=0) T C_read_listed F12) (W.mg_of X G a12) b12
  have C_read_entries:=cale_mk (P:=l.prog) (w:=w) (base:=base) F13 (ok_read_entries (C:=0) T C_read_listed F13) (W.mg_of X G a13) b13
  have C__law_row_walk:=cal_mk (P:=l.prog) (w:=w) (base:=base) F14 (ok__law_row_walk (C:=0) T  F14) (W.mg_of X G a14) b14
  have C__law_walk:=cal_mk (P:=l.prog) (w:=w) (base:=base) F15 (ok__law_walk (C:=0) T  F15) (W.mg_of X G a15) b15
  have C__law_due:=cal_mk (P:=l.prog) (w:=w) (base:=base) F16 (ok__law_due (C:=0) T C__law_row_walk C__law_walk F16) (W.mg_of X G a16) b16
  have C__law_read:=cal_mk (P:=l.prog) (w:=w) (base:=base) F17 (ok__law_read (C:=0) T G_NoShown G_Begins G_NoLine G_NoSign G_TooMany G_Twice xc_NoShown xna_at_NoShown CA_SkewError mns knn knv kna C_read_row C_read_text C_read_entries F17) (W.mg_of X G a17) b17
  have C__law_right:=cal_mk (P:=l.prog) (w:=w) (base:=base) F18 (ok__law_right (C:=0) T C__law_read C__law_due F18) (W.mg_of X G a18) b18
  have C__law_any_sign:=cal_mk (P:=l.prog) (w:=w) (base:=base) F19 (ok__law_any_sign (C:=0) T D__law_draw F19) (W.mg_of X G a19) b19
  have C__law_spoilt:=cal_mk (P:=l.prog) (w:=w) (base:=base) F20 (ok__law_spoilt (C:=0) T D__law_draw C__law_any_sign F20) (W.mg_of X G a20) b20
  exact (ok_law (C:=0) T D__law_open D__law_draw C__law_text_of C__law_shown C__law_spoilt C__law_right F21).imp fun _ _ _ _ h=>L3.law_in0 (C:=⟨0,K⟩) h
theorem walk {l:W.OpenLaw} {q:Program} {loose:List Str} {XP:(Str->Option Value)->Heap->Prop} {YP:World->Heap->Prop} {d:DefRec} {K:Params->W.Frag} (hn:l.most=some 63) (hdf:d.params.defaults=[])
  (hY:∀ (w:World) (h:Heap),YP w h->(K w.params).In h)
  (F:∀ (w:World) (mg:Str->Option Value) (fa:Addr) (h:Heap),(K w.params).In h->h.Ns mainGlobals mg->mg d.name=some (.ref fa) ->
   ∃ fd:FuncData,(∀ (s:Shared) (u:Value),BindsTo s fd ⟨[u],[]⟩ [("_law_script",u)])/\∀ base:Heap,(K w.params).In base->base.Ns mainGlobals mg->FnOk l.prog w (K w.params) mg base CX0 9 fa fd ["_law_script"] (spLaw (K w.params))) :
  W.WalkO q loose XP YP l.row.toRowW d [] (fun f vs=>PySem.call f vs) :=
 L2.walk_of (n:=63) (k:=9) (x:="_law_script") (CX:=fun _=>CX0) (sp:=fun w=>spLaw (K w.params)) hn (by decide) hdf ⟨rfl,by decide,by decide⟩ hY F (fun _ _ a ns hl _ hS=>⟨a,ns,rfl,hS,hl,fun _=>rfl⟩) fun _ _ _ _ _ z=>z
end K13
def PySem.W.Fast.tw17740440978250982478:Nat:=0
def PySem.W.Fast.tw18286842503887449671:Nat:=0
def PySem.W.Fast.tw13268232156347298535:Nat:=0
def PySem.W.Fast.tw3911890730746217348:Nat:=0
def PySem.W.Fast.tw10311656730051413521:Nat:=0
def PySem.W.Fast.tw3202300708350891622:Nat:=0
def PySem.W.Fast.tw16896086602570368126:Nat:=0
def PySem.W.Fast.tw2899486544189640538:Nat:=0
def PySem.W.Fast.tw17119682447443691923:Nat:=0
def PySem.W.Fast.tw13546599267639233179:Nat:=0
def PySem.W.Fast.tw12334714082633654713:Nat:=0
def PySem.W.Fast.tw3487262730174693114:Nat:=0
def PySem.W.Fast.tw6018258831596695737:Nat:=0
def PySem.W.Fast.tw2039470215339228248:Nat:=0
def PySem.W.Fast.tw1245631141530276658:Nat:=0
def PySem.W.Fast.tw8600023969056939488:Nat:=0
def PySem.W.Fast.tw11317443541159045402:Nat:=0
def PySem.W.Fast.tw1336407773578531061:Nat:=0
def PySem.W.Fast.tw17600652758928973296:Nat:=0
def PySem.W.Fast.tw2638522693180309086:Nat:=0
def PySem.W.Fast.tw4742069363799075327:Nat:=0
def PySem.W.Fast.tw4465939593482892550:Nat:=0
def PySem.W.Fast.tw6960204905139150534:Nat:=0
def PySem.W.Fast.tw17457753302623794347:Nat:=0
def PySem.W.Fast.tw11940009512211137419:Nat:=0
def PySem.W.Fast.tw2895455963309631354:Nat:=0
def PySem.W.Fast.tw11170157930114476896:Nat:=0
def PySem.W.Fast.tw4764417218820289471:Nat:=0
def PySem.W.Fast.tw15668837903439187379:Nat:=0
def PySem.W.Fast.tw18226489351549394026:Nat:=0
def PySem.W.Fast.tw1889429780605406291:Nat:=0
def PySem.W.Fast.tw9440226187134620460:Nat:=0
def PySem.W.Fast.tw1525768486839291688:Nat:=0
def PySem.W.Fast.tw14587208592036222083:Nat:=0
def PySem.W.Fast.tw17021847364589042057:Nat:=0
def PySem.W.Fast.tw5189282906151036752:Nat:=0
def PySem.W.Fast.tw7869110644295967759:Nat:=0
def PySem.W.Fast.tw7204756874448866883:Nat:=0
def PySem.W.Fast.tw8315962815157161415:Nat:=0
def PySem.W.Fast.tw15877522151227610896:Nat:=0
def PySem.W.Fast.tw13340481043096467385:Nat:=0
def PySem.W.Fast.tw627597081027080934:Nat:=0
def PySem.W.Fast.tw6826148570039626988:Nat:=0
def PySem.W.Fast.tw2491686228039023708:Nat:=0
def PySem.W.Fast.tw17058821119091705849:Nat:=0
open PySem PySem.W PyProof.Rows
set_option maxRecDepth 100000 in
set_option maxHeartbeats 0 in
theorem PySem.Challenge.cw_skewread_k13_lines_amiss_holds : PySem.Challenge.rw_skewread_k13_lines_amiss.Holds := by
  w_on; o_law; k_head; (case hw=>w_witness2)
  k_fill
  refine K13.walk (l:=PySem.Challenge.rw_skewread_k13_lines_amiss) rfl rfl (fun w h Y=>PySem.W.kIn_of Y) ?F
  case F =>
    intro w mg fa h KX G hmg
    refine' K13.all_mk KX G hmg ?gx_NoShown ?gx_SkewError ?gx_Begins ?gx_NoLine ?gx_NoSign ?gx_TooMany ?gx_Twice ?a0 ?l0 ?c0 ?k0 ?a1 ?l1 ?c1 ?k1 ?a2 ?l2 ?c2 ?k2 ?n2 ?a3 ?l3 ?c3 ?k3 ?a4 ?l4 ?c4 ?k4 ?a5 ?l5 ?c5 ?k5 ?a6 ?l6 ?c6 ?k6 ?a7 ?l7 ?c7 ?k7 ?a8 ?l8 ?c8 ?k8 ?a9 ?l9 ?c9 ?k9 ?a10 ?l10 ?c10 ?k10 ?a11 ?l11 ?c11 ?k11 ?a12 ?l12 ?c12 ?k12 ?a13 ?l13 ?c13 ?k13 ?a14 ?l14 ?c14 ?k14 ?a15 ?l15 ?c15 ?k15 ?a16 ?l16 ?c16 ?k16 ?a17 ?l17 ?c17 ?k17 ?a18 ?l18 ?c18 ?k18 ?a19 ?l19 ?c19 ?k19 ?a20 ?l20 ?c20 ?k20 ?a21 ?l21 ?c21 ?k21 ?xei_NoShown ?xin_NoShown ?xob_NoShown ?xbx_NoShown ?xsa_NoShown ?xga_NoShown ?xgt_NoShown ?xdd_NoShown ?xkp_NoShown ?xfn_NoShown ?xcc_NoShown ?xcg_NoShown ?xct_NoShown ?xna_at_NoShown ?xty_SkewError ?xbb_SkewError ?mns ?knn ?knv ?kna ?z_len ?z_abs ?z_max ?z_min ?z_isinstance ?z_any ?z_range ?z_int ?z_str ?z_bool ?z_list ?z_ValueError ?g_GREATEST_SIGN ?g_MOST_BYTES ?g_MOST_SIGNS ?g_MOST_ENTRIES ?g_FIGURES ?g_BYTE_FIGURES ?g_NONE_LINE ?g_LOST_LINE
    (case gx_NoShown=>k_is); (case gx_SkewError=>k_is); (case gx_Begins=>k_is); (case gx_NoLine=>k_is); (case gx_NoSign=>k_is); (case gx_TooMany=>k_is)
    (case gx_Twice=>k_is); (case a0=>k_is); (case l0=>k_is); (case c0=>k_is); (case k0=>k_is); (case a1=>k_is)
    (case l1=>k_is); (case c1=>k_is); (case k1=>k_is); (case a2=>k_is); (case l2=>k_is); (case c2=>k_is)
    (case k2=>k_is); (case n2=>k_is); (case a3=>k_is); (case l3=>k_is); (case c3=>k_is); (case k3=>k_is)
    (case a4=>k_is); (case l4=>k_is); (case c4=>k_is); (case k4=>k_is); (case a5=>k_is); (case l5=>k_is)
    (case c5=>k_is); (case k5=>k_is); (case a6=>k_is); (case l6=>k_is); (case c6=>k_is); (case k6=>k_is)
    (case a7=>k_is); (case l7=>k_is); (case c7=>k_is); (case k7=>k_is); (case a8=>k_is); (case l8=>k_is)
    (case c8=>k_is); (case k8=>k_is); (case a9=>k_is); (case l9=>k_is); (case c9=>k_is); (case k9=>k_is)
    (case a10=>k_is); (case l10=>k_is); (case c10=>k_is); (case k10=>k_is); (case a11=>k_is); (case l11=>k_is)
    (case c11=>k_is); (case k11=>k_is); (case a12=>k_is); (case l12=>k_is); (case c12=>k_is); (case k12=>k_is)
    (case a13=>k_is); (case l13=>k_is); (case c13=>k_is); (case k13=>k_is); (case a14=>k_is); (case l14=>k_is)
    (case c14=>k_is); (case k14=>k_is); (case a15=>k_is); (case l15=>k_is); (case c15=>k_is); (case k15=>k_is)
    (case a16=>k_is); (case l16=>k_is); (case c16=>k_is); (case k16=>k_is); (case a17=>k_is); (case l17=>k_is)
    (case c17=>k_is); (case k17=>k_is); (case a18=>k_is); (case l18=>k_is); (case c18=>k_is); (case k18=>k_is)
    (case a19=>k_is); (case l19=>k_is); (case c19=>k_is); (case k19=>k_is); (case a20=>k_is); (case l20=>k_is)
    (case c20=>k_is); (case k20=>k_is); (case a21=>k_is); (case l21=>k_is); (case c21=>k_is); (case k21=>k_is)
    (case xei_NoShown=>first | k_is | kernel_rfl); (case xin_NoShown=>first | k_is | kernel_rfl); (case xob_NoShown=>first | k_is | kernel_rfl); (case xbx_NoShown=>first | k_is | kernel_rfl); (case xsa_NoShown=>first | k_is | kernel_rfl); (case xga_NoShown=>first | k_is | kernel_rfl)
    (case xgt_NoShown=>first | k_is | kernel_rfl); (case xdd_NoShown=>first | k_is | kernel_rfl); (case xkp_NoShown=>first | k_is | kernel_rfl); (case xfn_NoShown=>first | k_is | kernel_rfl); (case xcc_NoShown=>first | k_is | kernel_rfl); (case xcg_NoShown=>first | k_is | kernel_rfl)
    (case xct_NoShown=>first | k_is | kernel_rfl); (case xna_at_NoShown=>first | k_is | kernel_rfl); (case xty_SkewError=>first | k_is | kernel_rfl); (case xbb_SkewError=>first | k_is | kernel_rfl); (case mns=>first | k_is | kernel_rfl); (case knn=>first | k_is | kernel_rfl)
    (case knv=>first | k_is | kernel_rfl); (case kna=>first | k_is | kernel_rfl); (case z_len=>k_is); (case z_abs=>k_is); (case z_max=>k_is); (case z_min=>k_is)
    (case z_isinstance=>k_is); (case z_any=>k_is); (case z_range=>k_is); (case z_int=>k_is); (case z_str=>k_is); (case z_bool=>k_is)
    (case z_list=>k_is); (case z_ValueError=>k_is); (case g_GREATEST_SIGN=>k_is); (case g_MOST_BYTES=>k_is); (case g_MOST_SIGNS=>k_is); (case g_MOST_ENTRIES=>k_is)
    (case g_FIGURES=>k_is); (case g_BYTE_FIGURES=>k_is); (case g_NONE_LINE=>k_is); (case g_LOST_LINE=>k_is)
#print axioms PySem.Challenge.cw_skewread_k13_lines_amiss_holds