import PyProof.Rows.All
import Wide.All
import OpenK.AllK
import Wide.FinOn
import Lean
import PyProof.EqAt
import PyProof.EqKinds
import PyProof.TupleCall
import PyProof.DictItems
import KE.KPairComp
import KE.KDictList
import PyProof.ListRange
import KE.KUnpack
import KE.KEqDict
import PyProof.DictFindH
import KE.KDictSum
import PyProof.AutoListH
import PyProof.SumAny
import PyProof.Rows.Range3
import KE.KStateDown
import KE.KSortTup
import KE.KLam
import KE.KNestM
import KE.KDictOf
import PyProof.AttrMissHeap
import KE.KRevSl
import PyProof.RaisesMany
import PyProof.ExcInit
import PyProof.ExcClass2
import PyProof.RulesTry
import PyProof.PassesOwn
import OpenK.KOwn
import PyProof.RulesDel
import KE.KIsAll
import PyProof.EnumMake
import PyProof.LayNew
import PySem.Challenge.RW_skewread_k45_mistaken
set_option Elab.async false
set_option linter.all false
set_option maxRecDepth 100000
namespace L2
open PySem PySem.Spec PyProof.Rows
abbrev Key:=Sum Int Str
def Q9:Key->Value->Bool
 | .inl k,v=>Value.isInt k v
 | .inr x,v=>Value.isStrOf x v
def keyH (w:World):Key->Int
 | .inl k=>hashInt k
 | .inr x=>hashStr w x
theorem Yg:∀ {k:Key} {v:Value},Q9 k v=true->(∃ i t,k=Sum.inl i/\v=Value.int i t)\/(∃ x t,k=Sum.inr x/\v=Value.str x t)
 | .inl i,v,h=>by
  obtain ⟨t,e⟩:=Value.isInt_shape (k:=i) (v:=v) h
  exact .inl ⟨i,t,rfl,e⟩
 | .inr x,v,h=>by
  obtain ⟨t,e⟩:=Value.isStrOf_shape (x:=x) (v:=v) h
  exact .inr ⟨x,t,rfl,e⟩
theorem Zfy (i:Int) (t:Tok):Q9 (.inl i) (.int i t)=true:=by simp [Q9,Value.isInt]
theorem Zfx (x:Str) (t:Tok):Q9 (.inr x) (.str x t)=true:=by simp [Q9,Value.isStrOf]
theorem Zom (a b:Int):decide ((Sum.inl a:Key)=Sum.inl b)=(a == b):=by
 by_cases e:a=b
 ·subst e; simp
 ·have h:¬ (Sum.inl a:Key)=Sum.inl b:=fun q=>e (Sum.inl.inj q)
  rw [decide_eq_false h]
  exact (beq_eq_false_iff_ne.mpr e).symm
theorem Zoj (a b:Str):decide ((Sum.inr a:Key)=Sum.inr b)=decide (a=b):=by
 by_cases e:a=b
 ·subst e; simp
 ·have h:¬ (Sum.inr a:Key)=Sum.inr b:=fun q=>e (Sum.inr.inj q)
  rw [decide_eq_false h,decide_eq_false e]
theorem Zol (a:Int) (b:Str):decide ((Sum.inl a:Key)=Sum.inr b)=false:=decide_eq_false (fun q=>nomatch q)
theorem Zok (a:Str) (b:Int):decide ((Sum.inr a:Key)=Sum.inl b)=false:=decide_eq_false (fun q=>nomatch q)
def Yr (prog:Program) (w:World):PySem.KeyKind prog w Key where
 is:=Q9
 hash:=keyH w
 inj:=fun v a b ha hb=>by
  rcases Yg ha with ⟨i,t,rfl,rfl⟩ | ⟨x,t,rfl,rfl⟩
  ·rcases Yg hb with ⟨j,u,rfl,e⟩ | ⟨y,u,rfl,e⟩
   ·injection e with e1 _; rw [e1]
   ·exact nomatch e
  ·rcases Yg hb with ⟨j,u,rfl,e⟩ | ⟨y,u,rfl,e⟩
   ·exact nomatch e
   ·injection e with e1 _; rw [e1]
 byValue:=fun k v h=>by
  rcases Yg h with ⟨i,t,rfl,rfl⟩ | ⟨x,t,rfl,rfl⟩ <;> rfl
 pyHash:=fun hv h=>by
  rcases Yg hv with ⟨i,t,rfl,rfl⟩ | ⟨x,t,rfl,rfl⟩
  ·exact wpAny_pyHash_int h
  ·exact wpAny_pyHash_str h
 eqBool:=fun hu hv h=>by
  rcases Yg hu with ⟨i,t,rfl,rfl⟩ | ⟨x,t,rfl,rfl⟩
  ·rcases Yg hv with ⟨j,u,rfl,rfl⟩ | ⟨y,u,rfl,rfl⟩
   ·rw [Zom] at h; exact wpAny_eqBool_int h
   ·rw [Zol] at h; exact SeqAt.EqAt.int_str i t y u _ _ _ _ h
  ·rcases Yg hv with ⟨j,u,rfl,rfl⟩ | ⟨y,u,rfl,rfl⟩
   ·rw [Zok] at h; exact SeqAt.EqAt.str_int x t j u _ _ _ _ h
   ·rw [Zoj] at h; exact wpAny_eqBool_str h
 «strs»:=fun k x t v h=>by
  rcases Yg h with ⟨i,u,rfl,e⟩ | ⟨y,u,rfl,e⟩
  ·exact nomatch e
  ·injection e with e1 _
   subst e1
   cases v <;> rfl
theorem Za6 (prog:Program) (w:World) (i:Int) (t:Tok):(Yr prog w).is (.inl i) (.int i t)=true:=Zfy i t
theorem Za5 (prog:Program) (w:World) (x:Str) (t:Tok):(Yr prog w).is (.inr x) (.str x t)=true:=Zfx x t
inductive V where
 | non | bl (b:Bool) | int (i:Int) | str (x:Str) | byt (b:Array UInt8) | flt (b:UInt64) | ref (a:Addr) | ty (n:String)
 deriving DecidableEq
def RelV:V->Value->Prop
 | .non,u=>u=Value.none
 | .bl b,u=>u=Value.bool b
 | .int i,u=>∃ t,u=Value.int i t
 | .str x,u=>∃ t,u=Value.str x t
 | .byt b,u=>∃ t,u=Value.bytes b t
 | .flt b,u=>∃ t,u=Value.float b t
 | .ref a,u=>u=Value.ref a
 | .ty n,u=>u=Value.type n
abbrev Vals:List V->List Value->Prop:=Paired RelV
theorem Vals.length {xs:List V} {us:List Value} (r:Vals xs us):xs.length=us.length:=Paired.length r
theorem Vals.get:∀ {xs:List V} {us:List Value} {i:Nat} {x:V},Vals xs us->xs[i]?=some x->∃ u,us[i]?=some u/\RelV x u
 | _,_,_,_,.nil,e=>by simp at e
 | _,_,0,_,.cons r _,e=>by simp at e; subst e; exact ⟨_,rfl,r⟩
 | _,_,i + 1,x,.cons _ t,e=>by
  obtain ⟨u,h1,h2⟩:=Vals.get (i:=i) (x:=x) t (by simpa using e)
  exact ⟨u,by simpa using h1,h2⟩
theorem Vals.set {x:V} {u:Value} (r:RelV x u):∀ {xs:List V} {us:List Value} (i:Nat),Vals xs us->Vals (xs.set i x) (us.set i u)
 | _,_,_,.nil=>.nil
 | _,_,0,.cons _ t=>.cons r t
 | _,_,i + 1,.cons q t=>.cons q (Vals.set r i t)
theorem Vals.append:∀ {xs ys:List V} {us ws:List Value},Vals xs us->Vals ys ws->Vals (xs++ys) (us++ws)
 | _,_,_,_,.nil,s=>s
 | _,_,_,_,.cons r t,s=>.cons r (Vals.append t s)
theorem Vals.take:∀ {xs:List V} {us:List Value} (n:Nat),Vals xs us->Vals (xs.take n) (us.take n)
 | _,_,0,_=>.nil
 | _,_,_ + 1,.nil=>.nil
 | _,_,n + 1,.cons r t=>.cons r (Vals.take n t)
theorem Vals.drop:∀ {xs:List V} {us:List Value} (n:Nat),Vals xs us->Vals (xs.drop n) (us.drop n)
 | _,_,0,r=>r
 | _,_,_ + 1,.nil=>.nil
 | _,_,n + 1,.cons _ t=>Vals.drop n t
def RelO:Option V->Option Value->Prop
 | some v,some u=>RelV v u
 | none,none=>True
 | _,_=>False
def KV {κ:Type}:List (κ×V)->List (κ×Value)->Prop:=Paired fun (p:κ×V) (q:κ×Value)=>p.1=q.1/\RelV p.2 q.2
def kV:Key->V
 | .inl i=>.int i
 | .inr x=>.str x
def V8 (h:Heap) (a:Addr) (items:Array Value):Prop:=∃ o,h.get? a=some o/\o.cls=.type "tuple"/\∃ n,o.data=.seq items n/\o.dict=none
theorem V8.tup {h:Heap} {a:Addr} {items:Array Value} (x:V8 h a items):IsTup h a items:=let ⟨o,e,c,n,d,_⟩:=x; ⟨o,e,c,n,d⟩
theorem V8.new (h:Heap) (items:Array Value):V8 (h.push { cls:=.type "tuple",data:=.seq items }) h.objs.size items:=⟨_,Heap.get?_push_size _ rfl,rfl,_,rfl,rfl⟩
theorem V8.lt {h:Heap} {a:Addr} {items:Array Value} (x:V8 h a items):a < h.objs.size:=let ⟨_,e,_⟩:=x; Heap.lt_size e
inductive HO where
 | lst (xs:List V)
 | tup (xs:List V)
 | dK (kvs:List (Key×V)) | dT (kvs:List (List Key×V))
 | set (S:Int->Bool) (n:Nat)
 | ins (C dx:Addr) (fs:List (Str×V))
 | own (x:Addr)
 | xd (fs:List (Str×V))
 | met (f x:Addr)
 | rng (lo hi:Int)
 | frz (o:Obj) (u:HO)
 | tbl (ps:Array Value)
 | ext (φ:Heap->Prop)
abbrev Hp:=Addr->Option HO
def upd (H:Hp) (a:Addr) (o:HO):Hp:=fun b=>if b=a then some o else H b
theorem Zg {H:Hp} {a:Addr} {o:HO}:upd H a o a=some o:=by unfold upd; rw [if_pos rfl]
theorem Zm {H:Hp} {a b:Addr} {o:HO} (h:b≠a):upd H a o b=H b:=by unfold upd; rw [if_neg h]
theorem Zd5 {H:Hp} {a:Addr} {o u:HO}:upd (upd H a o) a u=upd H a u:=by
 funext b; unfold upd; split <;> rfl
theorem Wg {H:Hp} {a b:Addr} {o u:HO} (h:H a=some o) (h':H b=some u) (d:o≠u):a≠b:=by
 intro e; subst e; rw [h] at h'; exact d (Option.some.inj h')
theorem Zq {H:Hp} {a b:Addr} {o:HO} (h:H a=some o) (h':H b=none):a≠b:=by
 intro e; subst e; rw [h] at h'; cases h'
section
variable (P:Program) (w:World)
def Y3 (H:Hp) (h:Heap) (a:Addr):HO->Prop
 | .lst xs=>xs.length<=sizeLine/\∃ (its:List Value) (n:Nat),Vals xs its/\h.get? a=some { cls:=.type "list",data:=.seq its.toArray n }
 | .tup xs=>xs.length<=sizeLine/\∃ its:List Value,Vals xs its/\V8 h a its.toArray
 | .dK kvs=>kvs.length<=sizeLine/\(a == sysModules)=false/\∃ vs,KV kvs vs/\h.DictOf (Yr P w) a vs
 | .dT kvs=>kvs.length<=sizeLine/\(a == sysModules)=false/\∃ xs:List (List Key×Addr×Value),
   Paired (fun (p:List Key×V) (q:List Key×Addr×Value)=>p.1=q.1/\H q.2.1=some (.tup (p.1.map kV))/\RelV p.2 q.2.2) kvs xs /\
   ∃ o es ep,h.get? a=some o/\o.ExactDict/\o.data=.dict es ep/\es.toList=xs.map (entryOfKey (tupleKind (Yr P w)))/\(xs.map (·.1)).Nodup
 | .set S n=>h.SetOf (intKind P w) a S n
 | .ins C dx fs=>H dx=some (.own a)/\fs.length<=1000/\dx≠a/\h.get? a=some (W.instObj C dx) /\
   ∃ mA,h.Ns1 dx mA/\(∀ f,RelO (fs.lookup f) (mA f))/\PySem.Within mA (fs.map (·.1))
 | .own _=>∃ o,h.get? a=some o
 | .xd fs=>∃ mA,h.Ns1 a mA/\∀ f,RelO (fs.lookup f) (mA f)
 | .rng lo hi=>∃ t u v,h.get? a=some { cls:=.type "range",data:=.fields #[.int lo t,.int hi u,.int 1 v] }
 | .frz o u=>h.get? a=some o/\Y3 H h a u
 | .tbl ps=>h.get? a=some { cls:=.none,data:=.fields ps }
 | .met f x=>h.get? a=some (W.methodObj (.ref f) (.ref x))
 | .ext φ=>φ h/\(∃ o,h.get? a=some o)/\∀ h1 h2:Heap,φ h1->(∀ o,h1.get? a=some o->h2.get? a=some o)->φ h2
def HOk (H:Hp) (h:Heap):Prop:=∀ a o,H a=some o->Y3 P w H h a o
end
section
variable {P:Program} {w:World} {H H':Hp} {h h':Heap} {a:Addr} {o:HO}
theorem Y3.lt (x:Y3 P w H h a o):a < h.objs.size:=by
 cases o with
 | lst xs=>obtain ⟨_,_,_,_,e⟩:=x; exact Heap.lt_size e
 | tup xs=>obtain ⟨_,_,_,p⟩:=x; exact p.lt
 | dK kvs=>obtain ⟨_,_,_,_,o,_,_,e,_⟩:=x; exact Heap.lt_size e
 | dT kvs=>obtain ⟨_,_,_,_,o,_,_,e,_⟩:=x; exact Heap.lt_size e
 | set S n=>obtain ⟨o,_,_,_,e,_⟩:=x; exact Heap.lt_size e
 | ins C dx fs=>obtain ⟨_,_,_,e,_⟩:=x; exact Heap.lt_size e
 | own y=>obtain ⟨_,e⟩:=x; exact Heap.lt_size e
 | xd fs=>obtain ⟨_,⟨_,_,_,e,_⟩,_⟩:=x; exact Heap.lt_size e
 | rng lo hi=>obtain ⟨_,_,_,e⟩:=x; exact Heap.lt_size e
 | frz ob u=>obtain ⟨e,_⟩:=x; exact Heap.lt_size e
 | tbl ps=>exact Heap.lt_size (show h.get? a=some _ from x)
 | met f y=>exact Heap.lt_size (show h.get? a=some _ from x)
 | ext φ=>obtain ⟨_,⟨_,e⟩,_⟩:=x; exact Heap.lt_size e
theorem Paired.mapP {α β:Type} {F G:α->β->Prop}:∀ {l₁:List α} {l₂:List β},Paired F l₁ l₂->(∀ a b,F a b->G a b)->Paired G l₁ l₂
 | _,_,.nil,_=>.nil
 | _,_,.cons r t,f=>.cons (f _ _ r) (Paired.mapP t f)
theorem Y3.stay (x:Y3 P w H h a o) (k:∀ b u,(b=a\/H b=some (.own a))->h.get? b=some u->h'.get? b=some u)
  (ho:∀ b,H b=some (.own a)->H' b=some (.own a)) (ht:∀ b xs,H b=some (.tup xs)->H' b=some (.tup xs)):Y3 P w H' h' a o:=by
 induction o with
 | lst xs=>obtain ⟨z,its,n,r,e⟩:=x; exact ⟨z,its,n,r,k _ _ (.inl rfl) e⟩
 | tup xs=>obtain ⟨z,its,r,ob,e,c⟩:=x; exact ⟨z,its,r,ob,k _ _ (.inl rfl) e,c⟩
 | dK kvs=>obtain ⟨z,y,vs,r,ob,es,ep,e,c⟩:=x; exact ⟨z,y,vs,r,ob,es,ep,k _ _ (.inl rfl) e,c⟩
 | dT kvs =>
  obtain ⟨z,y,xs,r,ob,es,ep,e,c⟩:=x
  exact ⟨z,y,xs,Paired.mapP r fun p q z=>⟨z.1,ht _ _ z.2.1,z.2.2⟩,ob,es,ep,k _ _ (.inl rfl) e,c⟩
 | set S n=>obtain ⟨ob,es,ep,t,e,c⟩:=x; exact ⟨ob,es,ep,t,k _ _ (.inl rfl) e,c⟩
 | ins C dx fs =>
  obtain ⟨d,z,ne,e,mA,⟨od,es,ep,e2,c⟩,r⟩:=x
  exact ⟨ho _ d,z,ne,k _ _ (.inl rfl) e,mA,⟨od,es,ep,k _ _ (.inr d) e2,c⟩,r⟩
 | own y=>obtain ⟨ob,e⟩:=x; exact ⟨ob,k _ _ (.inl rfl) e⟩
 | xd fs=>obtain ⟨mA,⟨od,es,ep,e,c⟩,r⟩:=x; exact ⟨mA,⟨od,es,ep,k _ _ (.inl rfl) e,c⟩,r⟩
 | rng lo hi=>obtain ⟨t,u,v,e⟩:=x; exact ⟨t,u,v,k _ _ (.inl rfl) e⟩
 | frz ob u ih=>obtain ⟨e,q⟩:=x; exact ⟨k _ _ (.inl rfl) e,ih q⟩
 | tbl ps =>
  have e:h.get? a=some { cls:=.none,data:=.fields ps }:=x
  show h'.get? a=some { cls:=.none,data:=.fields ps }
  exact k a _ (.inl rfl) e
 | met f y =>
  have e:h.get? a=some (W.methodObj (.ref f) (.ref y)):=x
  show h'.get? a=some (W.methodObj (.ref f) (.ref y))
  exact k a _ (.inl rfl) e
 | ext φ=>obtain ⟨p,⟨o,e⟩,st⟩:=x; exact ⟨st _ _ p fun o q=>k _ _ (.inl rfl) q,⟨o,k _ _ (.inl rfl) e⟩,st⟩
theorem HOk.lt (x:HOk P w H h) (e:H a=some o):a < h.objs.size:=(x a o e).lt
theorem HOk.fresh (x:HOk P w H h) (e:h.objs.size<=a):H a=none:=by
 cases q:H a with
 | none=>rfl
 | some u=>exact absurd (Nat.lt_of_lt_of_le (x.lt q) e) (Nat.lt_irrefl _)
theorem HOk.kept (x:HOk P w H h) (k:∀ b u,h.get? b=some u->h'.get? b=some u):HOk P w H h':=fun a o e =>
 (x a o e).stay (fun b u _ q=>k b u q) (fun _ q=>q) fun _ _ q=>q
theorem HOk.laid (x:HOk P w H h) (k:∀ b u,h.get? b=some u->h'.get? b=some u) (hp:h.objs.size<=a) (new:Y3 P w (upd H a o) h' a o):HOk P w (upd H a o) h':=fun b u e=>by
 have hn:=x.fresh hp
 by_cases hb:b=a
 ·subst hb; rw [Zg] at e; cases e; exact new
 ·rw [Zm hb] at e
  exact (x b u e).stay (fun c v _ q=>k c v q) (fun c q=>by rw [Zm (Zq q hn)]; exact q) fun c xs q=>by rw [Zm (Zq q hn)]; exact q
end
def Rd (H:Hp) (a:Addr) (u:HO):Prop:=H a=some u\/∃ o,H a=some (.frz o u)
theorem Rd.ok {P:Program} {w:World} {H:Hp} {h:Heap} {a:Addr} {u:HO} (r:Rd H a u) (x:HOk P w H h):Y3 P w H h a u:=by
 rcases r with r | ⟨o,r⟩
 ·exact x a u r
 ·obtain ⟨_,q⟩:=x a _ r
  exact q
def Mut:Option HO->Prop
 | some (.lst _)=>True
 | some (.dK _)=>True
 | some (.dT _)=>True
 | some (.set _ _)=>True
 | some (.ins _ _ _)=>True
 | some (.ext _)=>True
 | _=>False
section
variable {P:Program} {w:World} {H:Hp} {h h':Heap} {x e:Addr} {o':HO}
theorem HOk.write (ok:HOk P w H h) (mu:Mut (H x)) (he:e=x\/H e=some (.own x)) (k:∀ b u,b≠e->h.get? b=some u->h'.get? b=some u) (heo:∃ u,h'.get? e=some u)
  (new:Y3 P w (upd H x o') h' x o'):HOk P w (upd H x o') h':=fun b u q=>by
 have nown:∀ c y,H c=some (.own y)->c≠x:=fun c y r z=>by subst z; rw [r] at mu; exact mu
 have ntup:∀ c xs,H c=some (.tup xs)->c≠x:=fun c xs r z=>by subst z; rw [r] at mu; exact mu
 by_cases hb:b=x
 ·subst hb; rw [Zg] at q; cases q; exact new
 ·rw [Zm hb] at q
  by_cases hbe:b=e
  ·have q':H b=some (.own x):=by
    rcases he with z | z
    ·exact absurd (hbe.trans z) hb
    ·rw [hbe]; exact z
   rw [q] at q'; cases q'
   obtain ⟨v,hv⟩:=heo
   exact ⟨v,by rw [hbe]; exact hv⟩
  ·refine (ok b u q).stay (fun c v hc r=>k c v ?_ r) (fun c r=>by rw [Zm (nown c b r)]; exact r) fun c xs r=>by rw [Zm (ntup c xs r)]; exact r
   rcases hc with rfl | hc
   ·exact hbe
   ·rintro rfl
    rcases he with z | z
    ·exact nown c b hc z
    ·rw [hc] at z; cases z; exact hb rfl
end
structure Un (fs ex:List Addr) (H H':Hp) (h h':Heap):Prop where
 keep:∀ b o,h.get? b=some o->H b=none->b∉fs->b∉ex->h'.get? b=some o
 slot:∀ b o,h.get? b=some o->H b=none->b∈fs->b∉ex->∃ sl,h'.get? b=some { o with slots:=sl }
 free:∀ b o,h.get? b=some o->H b=none->b∉ex->H' b=none
 there:∀ b o,h.get? b=some o->b∉ex->∃ o',h'.get? b=some o'
 tups:∀ b xs,H b=some (.tup xs)->H' b=some (.tup xs)
 frzs:∀ b o u,H b=some (.frz o u)->H' b=some (.frz o u)
 tbls:∀ b ps,H b=some (.tbl ps)->∃ more,H' b=some (.tbl (ps++more))
section
variable {fs ex:List Addr} {H H1 H2:Hp} {h h1 h2 h':Heap} {a x e:Addr} {o:HO}
theorem Un.any (u:Un fs ex H H1 h h1) {b:Addr} {ob:Obj} (q:h.get? b=some ob) (n:H b=none) (hx:b∉ex):∃ sl,h1.get? b=some { ob with slots:=sl }:=by
 by_cases hb:b∈fs
 ·exact u.slot b ob q n hb hx
 ·exact ⟨ob.slots,u.keep b ob q n hb hx⟩
theorem Un.trans (a:Un fs ex H H1 h h1) (b:Un fs ex H1 H2 h1 h2):Un fs ex H H2 h h2 where
 keep:=fun c ob q n hc hx=>b.keep c ob (a.keep c ob q n hc hx) (a.free c ob q n hx) hc hx
 slot:=fun c ob q n hc hx=>by
  obtain ⟨sl,e1⟩:=a.slot c ob q n hc hx
  obtain ⟨sl',e2⟩:=b.slot c _ e1 (a.free c ob q n hx) hc hx
  exact ⟨sl',e2⟩
 free:=fun c ob q n hx=>by
  obtain ⟨o',e1⟩:=a.there c ob q hx
  exact b.free c o' e1 (a.free c ob q n hx) hx
 there:=fun c ob q hx=>by
  obtain ⟨o',e1⟩:=a.there c ob q hx
  exact b.there c o' e1 hx
 tups:=fun c xs q=>b.tups c xs (a.tups c xs q)
 frzs:=fun c ob xs q=>b.frzs c ob xs (a.frzs c ob xs q)
 tbls:=fun c ps q=>by
  obtain ⟨m1,e1⟩:=a.tbls c ps q
  obtain ⟨m2,e2⟩:=b.tbls c _ e1
  exact ⟨m1++m2,by rw [e2,Array.append_assoc]⟩
theorem Un.kept (k:∀ b u,h.get? b=some u->h'.get? b=some u):Un fs ex H H h h' :=
 ⟨fun b ob q _ _ _=>k b ob q,fun b ob q _ _ _=>⟨ob.slots,k b ob q⟩,fun _ _ _ n _=>n,fun b ob q _=>⟨ob,k b ob q⟩,fun _ _ q=>q,fun _ _ _ q=>q,fun _ ps q=>⟨#[],by rw [q]; simp⟩⟩
theorem Un.refl:Un fs ex H H h h:=Un.kept fun _ _ q=>q
theorem Un.laid (k:∀ b u,h.get? b=some u->h'.get? b=some u) (hp:h.objs.size<=a) (hn:H a=none):Un fs ex H (upd H a o) h h' where
 keep:=fun b u q _ _ _=>k b u q
 slot:=fun b u q _ _ _=>⟨u.slots,k b u q⟩
 free:=fun b u q n _=>by rw [Zm (Nat.ne_of_lt (Nat.lt_of_lt_of_le (Heap.lt_size q) hp))]; exact n
 there:=fun b u q _=>⟨u,k b u q⟩
 tups:=fun b xs q=>by rw [Zm (Zq q hn)]; exact q
 frzs:=fun b u xs q=>by rw [Zm (Zq q hn)]; exact q
 tbls:=fun b ps q=>⟨#[],by rw [Zm (Zq q hn),q]; simp⟩
theorem Un.write (mu:Mut (H x)) (he:e=x\/H e=some (.own x)) (k:∀ b u,b≠e->h.get? b=some u->h'.get? b=some u) (heo:∃ u,h'.get? e=some u):Un fs ex H (upd H x o) h h':=by
 have hx:∀ b,H b=none->b≠x:=fun b n z=>by subst z; rw [n] at mu; exact mu
 have hb:∀ b,H b=none->b≠e:=fun b n z=>by
  subst z
  rcases he with r | r
  ·exact hx b n r
  ·rw [n] at r; cases r
 have hm:∀ b u,H b=some u->¬ Mut (some u)->b≠x:=fun b u q nm z=>by subst z; rw [q] at mu; exact nm mu
 refine ⟨fun b u q n _ _=>k b u (hb b n) q,fun b u q n _ _=>⟨u.slots,k b u (hb b n) q⟩,fun b u q n _=>by rw [Zm (hx b n)]; exact n,fun b u q _=>?_,
  fun b xs q=>by rw [Zm (hm b _ q fun z=>z)]; exact q,fun b u xs q=>by rw [Zm (hm b _ q fun z=>z)]; exact q,fun b ps q=>⟨#[],by rw [Zm (hm b _ q fun z=>z),q]; simp⟩⟩
 by_cases hbe:b=e
 ·subst hbe; exact heo
 ·exact ⟨u,k b u hbe q⟩
end
def trk (h:Heap) (H:Hp):List Addr:=(List.range h.objs.size).filter fun a=>(H a).isSome
def hidT (h:Heap) (H:Hp):Heap:=W.hideAll h (trk h H)
theorem Zf9 (h:Heap) (H:Hp):(hidT h H).objs.size=h.objs.size:=W.hideAll_size _ _
theorem Zie {h:Heap} {H:Hp} {b:Addr} {o:Obj} (e:h.get? b=some o) (n:H b=none):(hidT h H).get? b=some o :=
 W.hideAll_get _ e fun hm=>by
  have q:(H b).isSome=true:=(List.mem_filter.mp hm).2
  rw [n] at q; simp at q
theorem Zk2 {h:Heap} {H:Hp} {b:Addr} {o:Obj} (e:(hidT h H).get? b=some o):h.get? b=some o/\H b=none:=by
 have e':h.get? b=some o:=W.of_hideAll (trk h H) e
 refine ⟨e',?_⟩
 cases q:H b with
 | none=>rfl
 | some x =>
  have hm:b∈trk h H:=List.mem_filter.mpr ⟨List.mem_range.mpr (Heap.lt_size e'),by simp [q]⟩
  have z:(hidT h H).get? b=none:=W.hideAll_none (trk h H) hm
  rw [z] at e; cases e
def Zl9 (g h:Heap) (L:Addr):List (Addr×Obj):=(List.range h.objs.size).filterMap fun a=>if a=L\/(g.get? a).isSome=true then none else (h.get? a).map fun o=>(a,o)
def rest (g h:Heap) (L d:Addr):List (Addr×Obj):=(Zl9 g h L).filter fun p=>decide (p.1≠d)
structure Mod (K:W.Frag) (mg:Str->Option Value) (base:Heap):Prop where
 kin:K.In base
 glob:base.Ns mainGlobals mg
 blt:∃ mb,base.Ns builtinsNs mb/\∀ x:Str,x≠"__name__"->mb x=bootBuiltins x
 nolimit:base.NoLimit
structure Cx where
 prog:Program
 w:World
 K:W.Frag
 mg:Str->Option Value
 base:Heap
 A:Around
 N:List Str
 s₀:Shared
 H₀:Hp
 env:Env
 outer:List Env
 stack:List Env
 ex:List Addr
 fn:Str->Bool
 calm:Bool
 pn:List (Addr×Obj)
 xe:Value->Shared->Prop
def frs (l:List Env):List Addr:=l.filterMap (·.frame)
abbrev Cx.fs (X:Cx):List Addr:=frs X.outer
def Vis (sc:Scope) (x:Str):Prop:=sc.names.lookup x=some .local\/sc.names.lookup x=some .cell\/sc.names.lookup x=some .free
def Loc (sc:Scope) (x:Str):Prop:=sc.names.lookup x=some .local\/sc.names.lookup x=some .cell
def Look (env:Env) (h:Heap) (m:Str->Option Value) (x:Str) (u:Value):Prop :=
 (env.kindOf x=some .local/\m x=some u)\/((env.kindOf x=some .cell\/env.kindOf x=some .free)/\∃ c,env.cells.lookup x=some c/\h.IsCell c (some u))
structure Cx.Ok (X:Cx):Prop where
 mod:Mod X.K X.mg X.base
 kind:X.env.scope.kind=.function
 glob:X.env.globals=mainGlobals
 blt:X.env.builtins=builtinsNs
 above:X.s₀.heap.objs.size<=X.env.locals
 inj:∀ x y c,X.env.cells.lookup x=some c->X.env.cells.lookup y=some c->x=y
 has:∀ x,(X.env.kindOf x=some .cell\/X.env.kindOf x=some .free)->∃ c,X.env.cells.lookup x=some c
 cab:∀ x c,X.fn x=true->X.env.cells.lookup x=some c->X.s₀.heap.objs.size<=c
 hd:X.calm=true->X.A.handled=none
 frames:X.A.frames=some X.stack
 stk:X.stack=X.outer\/(X.stack=X.env::X.outer/\X.env.frame=some X.env.locals)
 exf:∀ b∈X.ex,b≠X.env.locals/\∀ x c,X.env.cells.lookup x=some c->c≠b
 bs:∀ b o,X.base.get? b=some o->X.s₀.heap.get? b=some o/\X.H₀ b=none
 bsz:X.base.objs.size<=X.s₀.heap.objs.size
 noex:∀ b o,X.base.get? b=some o->b∉X.ex
 exfs:∀ b∈X.ex,b∉X.fs
 funs:X.s₀.heap.FunFrames X.base X.outer
 frf:∀ b∈X.fs,X.H₀ b=none
structure Inv (X:Cx) (pins:List (Addr×Obj)) (σ:List (Option V)) (H:Hp) (s:Shared):Prop where
 ok:X.Ok
 os:s.os=X.s₀.os
 bare:AllBare s.gens
 base:Un X.fs X.ex X.H₀ H X.s₀.heap s.heap
 loc:∃ m,s.heap.Ns X.env.locals m/\∀ (i:Nat) (x:Str) (v:V),X.N[i]?=some x->σ[i]?=some (some v)->Vis X.env.scope x->∃ u,RelV v u/\Look X.env s.heap m x u
 cell:∀ x c,X.env.cells.lookup x=some c->∃ v,s.heap.IsCell c v
 free:H X.env.locals=none
 freeC:∀ x c,X.env.cells.lookup x=some c->H c=none
 pin:∀ p∈X.pn++pins,s.heap.get? p.1=some p.2/\H p.1=none/\p.1≠X.env.locals/\p.1∉X.fs/\∀ v,p.2.data≠.cell v
 hok:HOk X.prog X.w H s.heap
 len:σ.length=X.N.length
section
variable {X:Cx} {pins:List (Addr×Obj)} {σ:List (Option V)} {H H':Hp} {s:Shared} {h':Heap}
theorem Cx.Ok.nofr (ok:X.Ok) {b:Addr} {o:Obj} (e:X.base.get? b=some o):b∉X.fs:=fun hb=>by
 have:=(ok.funs.mem hb).1
 rw [e] at this; cases this
theorem Inv.bs (I:Inv X pins σ H s):∀ b o,X.base.get? b=some o->s.heap.get? b=some o/\H b=none:=fun b o e =>
 ⟨I.base.keep b o (I.ok.bs b o e).1 (I.ok.bs b o e).2 (I.ok.nofr e) (I.ok.noex b o e),I.base.free b o (I.ok.bs b o e).1 (I.ok.bs b o e).2 (I.ok.noex b o e)⟩
theorem Inv.bk (I:Inv X pins σ H s):∀ b o,X.base.get? b=some o->s.heap.get? b=some o:=fun b o e=>(I.bs b o e).1
theorem Inv.mod (I:Inv X pins σ H s):Mod X.K X.mg X.base:=I.ok.mod
theorem Inv.kIn (I:Inv X pins σ H s):X.K.In s.heap:=I.ok.mod.kin.keeps I.bk
theorem Inv.fr (I:Inv X pins σ H s):∃ m,Fr X.base X.env.locals s.heap m :=
 let ⟨m,hn,_⟩:=I.loc
 ⟨m,hn,I.bk,Nat.le_trans I.ok.bsz I.ok.above⟩
theorem Inv.lt (I:Inv X pins σ H s):X.env.locals < s.heap.objs.size:=let ⟨_,hn,_⟩:=I.loc; hn.lt
theorem Inv.sz (I:Inv X pins σ H s):X.s₀.heap.objs.size<=s.heap.objs.size:=Nat.le_trans I.ok.above (Nat.le_of_lt I.lt)
theorem Inv.nofs (I:Inv X pins σ H s) {a:Addr} (h:s.heap.objs.size<=a):a∉X.fs:=fun hb=>by
 obtain ⟨_,o,ho,_⟩:=I.ok.funs.mem hb
 exact absurd (Nat.lt_of_lt_of_le (Heap.lt_size ho) (Nat.le_trans I.sz h)) (Nat.lt_irrefl _)
theorem Inv.cne (I:Inv X pins σ H s):∀ x c,X.env.cells.lookup x=some c->c≠X.env.locals:=fun x c e z=>by
 obtain ⟨v,o,ho,hd⟩:=I.cell x c e
 obtain ⟨m,⟨o',es,ep,ho',hd',_⟩,_⟩:=I.loc
 rw [z,ho'] at ho; cases ho; rw [hd'] at hd; cases hd
theorem Inv.funs (I:Inv X pins σ H s):s.heap.FunFrames X.base X.outer:=by
 have all:∀ (l:List Env),(∀ b∈frs l,b∈X.fs)->X.s₀.heap.FunFrames X.base l->s.heap.FunFrames X.base l:=by
  intro l
  induction l with
  | nil=>intro _ _; trivial
  | cons env r ih =>
   intro hs hl
   obtain ⟨hk,⟨L,o,hf,hn,ho,hd⟩,hr⟩:=hl
   have hL:L∈X.fs:=hs L (by unfold frs; rw [List.filterMap_cons,hf]; exact List.mem_cons_self)
   obtain ⟨sl,e⟩:=I.base.slot L o ho (I.ok.frf L hL) hL fun z=>I.ok.exfs L z hL
   exact ⟨hk,⟨L,_,hf,hn,e,hd⟩,ih (fun b hb=>hs b (by unfold frs; rw [List.filterMap_cons,hf]; exact List.mem_cons_of_mem _ hb)) hr⟩
 exact all X.outer (fun _ hb=>hb) I.ok.funs
theorem Inv.stack (I:Inv X pins σ H s):s.heap.FunFrames X.base X.stack:=by
 rcases I.ok.stk with e | ⟨e,hf⟩
 ·rw [e]; exact I.funs
 ·rw [e]
  obtain ⟨m,hn,_⟩:=I.loc
  refine .cons (by rw [I.ok.kind]; decide) hf hn ?_ I.funs
  exact Heap.get?_none_of_le (Nat.le_trans I.ok.bsz I.ok.above)
theorem Inv.stkSub (I:Inv X pins σ H s):∀ b∈frs X.stack,b∈X.env.locals::X.fs:=fun b hb=>by
 rcases I.ok.stk with e | ⟨e,hf⟩
 ·rw [e] at hb; exact List.mem_cons_of_mem _ hb
 ·rw [e] at hb
  unfold frs at hb
  rw [List.filterMap_cons,hf] at hb
  exact hb
theorem Inv.stkFree (I:Inv X pins σ H s):∀ b∈frs X.stack,H b=none:=fun b hb=>by
 rcases List.mem_cons.mp (I.stkSub b hb) with e | hb
 ·rw [e]; exact I.free
 ·obtain ⟨_,o,ho,_⟩:=I.ok.funs.mem hb
  exact I.base.free b o ho (I.ok.frf b hb) fun z=>I.ok.exfs b z hb
theorem Inv.step {g':Array GenState} {t':Nat} {d':Drawn} {ch:List Addr} (I:Inv X pins σ H s)
  (hch:∀ b∈ch,(b∈X.ex\/X.s₀.heap.objs.size<=b)/\b≠X.env.locals/\(∀ x c,X.env.cells.lookup x=some c->c≠b)/\∀ p∈X.pn++pins,p.1≠b)
  (keep:∀ b o,b≠X.env.locals->b∉X.fs->b∉ch->s.heap.get? b=some o->H b=none->h'.get? b=some o)
  (slot:∀ b o,b≠X.env.locals->b∈X.fs->b∉ch->s.heap.get? b=some o->H b=none->∃ sl,h'.get? b=some { o with slots:=sl }) (free:∀ b o,b∉ch->s.heap.get? b=some o->H b=none->H' b=none)
  (there:∀ b o,b∉ch->s.heap.get? b=some o->∃ o',h'.get? b=some o')
  (tups:∀ b xs,H b=some (.tup xs)->H' b=some (.tup xs)) (frzs:∀ b o u,H b=some (.frz o u)->H' b=some (.frz o u)) (tbls:∀ b ps,H b=some (.tbl ps)->∃ more,H' b=some (.tbl (ps++more)))
  (ns:∀ m,s.heap.Ns X.env.locals m->h'.Ns X.env.locals m) (hok:HOk X.prog X.w H' h') (hg:AllBare g') :
  Inv X pins σ H' { s with heap:=h',gens:=g',drawn:=d',toks:=t' }:=by
 have neL:∀ b o,X.s₀.heap.get? b=some o->b≠X.env.locals:=fun b o e=>Nat.ne_of_lt (Nat.lt_of_lt_of_le (Heap.lt_size e) I.ok.above)
 have neC:∀ b o,X.s₀.heap.get? b=some o->b∉X.ex->b∉ch:=fun b o e hx hb=>by
  rcases (hch b hb).1 with z | z
  ·exact hx z
  ·exact absurd (Nat.lt_of_lt_of_le (Heap.lt_size e) z) (Nat.lt_irrefl _)
 have cellK:∀ x c,X.env.cells.lookup x=some c->∀ v,s.heap.IsCell c v->h'.IsCell c v:=fun x c e v ⟨o,ho,hd⟩=>by
  have nch:c∉ch:=fun z=>(hch c z).2.2.1 x c e rfl
  by_cases hc:c∈X.fs
  ·obtain ⟨sl,q⟩:=slot c o (I.cne x c e) hc nch ho (I.freeC x c e)
   exact ⟨_,q,hd⟩
  ·exact ⟨o,keep c o (I.cne x c e) hc nch ho (I.freeC x c e),hd⟩
 refine ⟨I.ok,I.os,hg,⟨fun b o e n hb hx=>?_,fun b o e n hb hx=>?_,fun b o e n hx=>?_,fun b o e hx=>?_,fun b xs e=>tups b xs (I.base.tups b xs e),fun b o xs e=>frzs b o xs (I.base.frzs b o xs e),fun b ps e=>?_⟩,?_,fun x c e=>?_,?_,fun x c e=>?_,fun p hp=>?_,hok,I.len⟩
 ·exact keep b o (neL b o e) hb (neC b o e hx) (I.base.keep b o e n hb hx) (I.base.free b o e n hx)
 ·obtain ⟨sl,e1⟩:=I.base.slot b o e n hb hx
  obtain ⟨sl',e2⟩:=slot b _ (neL b o e) hb (neC b o e hx) e1 (I.base.free b o e n hx)
  exact ⟨sl',e2⟩
 ·obtain ⟨o',e1⟩:=I.base.there b o e hx
  exact free b o' (neC b o e hx) e1 (I.base.free b o e n hx)
 ·obtain ⟨o',e1⟩:=I.base.there b o e hx
  exact there b o' (neC b o e hx) e1
 ·obtain ⟨m1,e1⟩:=I.base.tbls b ps e
  obtain ⟨m2,e2⟩:=tbls b _ e1
  exact ⟨m1++m2,by rw [e2,Array.append_assoc]⟩
 ·obtain ⟨m,hn,hl⟩:=I.loc
  refine ⟨m,ns m hn,fun i x v e1 e2 e3=>?_⟩
  obtain ⟨u,r,l⟩:=hl i x v e1 e2 e3
  refine ⟨u,r,?_⟩
  rcases l with l | ⟨k,c,e,z⟩
  ·exact .inl l
  ·exact .inr ⟨k,c,e,cellK x c e _ z⟩
 ·obtain ⟨v,z⟩:=I.cell x c e
  exact ⟨v,cellK x c e v z⟩
 ·obtain ⟨m,⟨o,_,_,ho,_⟩,_⟩:=I.loc
  exact free _ o (fun z=>(hch _ z).2.1 rfl) ho I.free
 ·obtain ⟨v,o,ho,hd⟩:=I.cell x c e
  exact free c o (fun z=>(hch c z).2.2.1 x c e rfl) ho (I.freeC x c e)
 ·obtain ⟨e,n,ne,nf,d⟩:=I.pin p hp
  have nch:p.1∉ch:=fun z=>(hch p.1 z).2.2.2 p hp rfl
  exact ⟨keep p.1 p.2 ne nf nch e n,free p.1 p.2 nch e n,ne,nf,d⟩
theorem Inv.un {t':Nat} (I:Inv X pins σ H s) (u:Un X.fs [] H H' s.heap h') (hok:HOk X.prog X.w H' h'):Inv X pins σ H' { s with heap:=h',toks:=t' }:=by
 obtain ⟨m,⟨o,es,ep,ho,r⟩,_⟩:=id I.loc
 obtain ⟨sl,hL⟩:=u.any ho I.free (by simp)
 exact I.step (g':=s.gens) (d':=s.drawn) (ch:=[]) (fun _ z=>nomatch z) (fun b o _ hb _ e n=>u.keep b o e n hb (by simp)) (fun b o _ hb _ e n=>u.slot b o e n hb (by simp)) (fun b o _ e n=>u.free b o e n (by simp)) (fun b o _ e=>u.there b o e (by simp)) u.tups u.frzs u.tbls (fun m' hm=>by
  obtain ⟨o',es',ep',ho',r'⟩:=hm
  rw [ho] at ho'; cases ho'
  exact ⟨_,es',ep',hL,r'⟩) hok I.bare
theorem Inv.call {g':Array GenState} {t':Nat} {d':Drawn} {ch:List Addr} (I:Inv X pins σ H s) (u:Un (frs X.stack) ch H H' s.heap h') (hok:HOk X.prog X.w H' h') (hg:AllBare g')
  (hch:∀ b∈ch,(b∈X.ex\/X.s₀.heap.objs.size<=b)/\b≠X.env.locals/\(∀ x c,X.env.cells.lookup x=some c->c≠b)/\∀ p∈X.pn++pins,p.1≠b) :
  Inv X pins σ H' { s with heap:=h',gens:=g',drawn:=d',toks:=t' }:=by
 obtain ⟨m,⟨o,es,ep,ho,r⟩,_⟩:=id I.loc
 obtain ⟨sl,hL⟩:=u.any ho I.free fun z=>(hch _ z).2.1 rfl
 exact I.step (ch:=ch) hch (fun b o hL hb hc e n=>u.keep b o e n (fun z=>(List.mem_cons.mp (I.stkSub b z)).elim hL hb) hc) (fun b o _ _ hc e n=>u.any e n hc) (fun b o hc e n=>u.free b o e n hc) (fun b o hc e=>u.there b o e hc) u.tups u.frzs u.tbls (fun m' hm=>by
  obtain ⟨o',es',ep',ho',r'⟩:=hm
  rw [ho] at ho'; cases ho'
  exact ⟨_,es',ep',hL,r'⟩) hok hg
theorem Inv.turned {t':Nat} {it:Addr} (I:Inv X pins σ H s) (k:∀ b o,b≠it->s.heap.get? b=some o->h'.get? b=some o) (hn:H it=none) (hL:it≠X.env.locals)
  (h1:it∈X.ex\/X.s₀.heap.objs.size<=it) (h2:∀ x c,X.env.cells.lookup x=some c->c≠it) (h3:∀ p∈X.pn++pins,p.1≠it):Inv X pins σ H { s with heap:=h',toks:=t' }:=by
 have nit:∀ b u,H b=some u->b≠it:=fun b u e z=>by rw [z,hn] at e; cases e
 refine I.step (g':=s.gens) (d':=s.drawn) (ch:=[it]) (fun b hb=>?_) (fun b o _ _ hc e _=>k b o (fun z=>hc (by simp [z])) e) (fun b o _ _ hc e _=>⟨o.slots,k b o (fun z=>hc (by simp [z])) e⟩) (fun _ _ _ _ n=>n)
  (fun b o hc e=>⟨o,k b o (fun z=>hc (by simp [z])) e⟩) (fun _ _ e=>e) (fun _ _ _ e=>e) (fun b ps e=>⟨#[],by rw [e]; simp⟩) (fun m hm=>?_) (fun b u e=>?_) I.bare
 ·have e:b=it:=by simpa using hb
  subst e
  exact ⟨h1,hL,h2,h3⟩
 ·obtain ⟨o,es,ep,ho,r⟩:=hm
  exact ⟨o,es,ep,k _ o (Ne.symm hL) ho,r⟩
 ·refine (I.hok b u e).stay (fun c v hc q=>k c v ?_ q) (fun _ q=>q) fun _ _ q=>q
  rcases hc with z | z
  ·rw [z]; exact nit b u e
  ·exact nit c _ z
theorem Inv.tok (I:Inv X pins σ H s) (t:Nat):Inv X pins σ H { s with toks:=t }:=I.un (h':=s.heap) (t':=t) Un.refl I.hok
theorem Inv.kept {t':Nat} (I:Inv X pins σ H s) (k:∀ b u,s.heap.get? b=some u->h'.get? b=some u):Inv X pins σ H { s with heap:=h',toks:=t' }:=I.un (Un.kept k) (I.hok.kept k)
theorem Inv.laid {a:Addr} {o:HO} {t':Nat} (I:Inv X pins σ H s) (k:∀ b u,s.heap.get? b=some u->h'.get? b=some u) (hp:s.heap.objs.size<=a) (new:Y3 X.prog X.w (upd H a o) h' a o) :
  Inv X pins σ (upd H a o) { s with heap:=h',toks:=t' }:=I.un (Un.laid k hp (I.hok.fresh hp)) (I.hok.laid k hp new)
theorem Inv.write {x e:Addr} {o:HO} {t':Nat} (I:Inv X pins σ H s) (mu:Mut (H x)) (he:e=x\/H e=some (.own x)) (k:∀ b u,b≠e->s.heap.get? b=some u->h'.get? b=some u) (heo:∃ u,h'.get? e=some u)
  (new:Y3 X.prog X.w (upd H x o) h' x o):Inv X pins σ (upd H x o) { s with heap:=h',toks:=t' }:=I.un (Un.write mu he k heo) (I.hok.write mu he k heo new)
theorem Inv.weak {σ':List (Option V)} (I:Inv X pins σ H s) (hl:σ'.length=σ.length) (w:∀ (i:Nat) v,σ'[i]?=some (some v)->σ[i]?=some (some v)):Inv X pins σ' H s :=
 ⟨I.ok,I.os,I.bare,I.base,let ⟨m,hn,hl'⟩:=I.loc; ⟨m,hn,fun i x v e1 e2 e3=>hl' i x v e1 (w i v e2) e3⟩,I.cell,I.free,I.freeC,I.pin,I.hok,hl.trans I.len⟩
theorem Inv.pins_of {pins':List (Addr×Obj)} (I:Inv X pins σ H s) (h:∀ p∈pins',s.heap.get? p.1=some p.2/\H p.1=none/\p.1≠X.env.locals/\p.1∉X.fs/\∀ v,p.2.data≠.cell v):Inv X pins' σ H s :=
 ⟨I.ok,I.os,I.bare,I.base,I.loc,I.cell,I.free,I.freeC,fun p hp=>(List.mem_append.mp hp).elim (fun z=>I.pin p (List.mem_append_left _ z)) (h p),I.hok,I.len⟩
theorem Zci {N:List Str} (hN:N.Nodup) {i j:Nat} {x:Str} (a:N[i]?=some x) (b:N[j]?=some x):i=j:=by
 obtain ⟨h1,e1⟩:=List.getElem?_eq_some_iff.mp a
 obtain ⟨h2,e2⟩:=List.getElem?_eq_some_iff.mp b
 exact (List.getElem_inj hN).mp (e1.trans e2.symm)
theorem Nb {M:Model} {A:Around} {E:Value->Shared->Prop} {i:Nat} {x:Str} {v:V} {u:Value} {Q:Unit->Shared->Prop} (I:Inv X pins σ H s) (hN:X.N.Nodup) (hi:X.N[i]?=some x) (hx:Loc X.env.scope x) (r:RelV v u)
  (h:∀ s',Inv X pins (σ.set i (some v)) H s'->(∃ a,Heap.SameBut a s.heap s'.heap/\(a=X.env.locals\/X.env.cells.lookup x=some a))->Q () s') (hf:X.fn x=true\/X.env.scope.names.lookup x=some .local:=by first | exact .inl rfl | exact .inr rfl | assumption):wpAny M A (storeName X.env x u) Q E s:=by
 obtain ⟨m,hn,hl⟩:=id I.loc
 have hcls:(X.env.scope.kind == .class || (X.env.scope.kind == .module && X.env.locals != X.env.globals))=false:=by rw [I.ok.kind]; rfl
 have hiσ:i < σ.length:=by rw [I.len]; exact (List.getElem?_eq_some_iff.mp hi).1
 have cne:=I.cne
 have tracked:∀ {a:Addr} {h':Heap},(∃ o,s.heap.get? a=some o/\H a=none)->Heap.SameBut a s.heap h'->HOk X.prog X.w H h':=fun {a h'} ha hs b ob e=>by
  obtain ⟨_,_,hfree⟩:=ha
  refine (I.hok b ob e).stay (fun c w' hc q=>(hs.2 c ?_).trans q) (fun _ q=>q) fun _ _ q=>q
  rintro rfl
  rcases hc with rfl | hc
  ·rw [hfree] at e; cases e
  ·rw [hfree] at hc; cases hc
 rcases hx with hk | hk
 ·refine wpAny_storeName_local hk hn (fun h' hn' hs=>?_) hcls
  obtain ⟨oL,_,_,hoL,_⟩:=id hn
  refine h _ ⟨I.ok,I.os,I.bare,⟨fun b o e n hb hx=>?_,fun b o e n hb hx=>?_,I.base.free,fun b o e hx=>?_,I.base.tups,I.base.frzs,I.base.tbls⟩,⟨_,hn',fun j y v' e1 e2 e3=>?_⟩,fun y c e=>?_,I.free,I.freeC,fun p hp=>?_,tracked ⟨oL,hoL,I.free⟩ hs,by simpa using I.len⟩ ⟨_,hs,.inl rfl⟩
  ·exact (hs.2 b (Nat.ne_of_lt (Nat.lt_of_lt_of_le (Heap.lt_size e) I.ok.above))).trans (I.base.keep b o e n hb hx)
  ·obtain ⟨sl,e1⟩:=I.base.slot b o e n hb hx
   exact ⟨sl,(hs.2 b (Nat.ne_of_lt (Nat.lt_of_lt_of_le (Heap.lt_size e) I.ok.above))).trans e1⟩
  ·obtain ⟨o',e1⟩:=I.base.there b o e hx
   exact ⟨o',(hs.2 b (Nat.ne_of_lt (Nat.lt_of_lt_of_le (Heap.lt_size e) I.ok.above))).trans e1⟩
  ·by_cases hj:j=i
   ·subst hj
    rw [hi] at e1; cases e1
    rw [List.getElem?_set_self hiσ] at e2
    cases e2
    exact ⟨u,r,.inl ⟨hk,by simp⟩⟩
   ·rw [List.getElem?_set_ne (Ne.symm hj)] at e2
    obtain ⟨u',r',q⟩:=hl j y v' e1 e2 e3
    refine ⟨u',r',?_⟩
    rcases q with ⟨k,e⟩ | ⟨k,c,e,z⟩
    ·refine .inl ⟨k,?_⟩
     have:y≠x:=fun e=>hj (Zci hN e1 (e ▸ hi))
     simp [this,e]
    ·exact .inr ⟨k,c,e,z.sameBut hs (cne y c e)⟩
  ·obtain ⟨w',z⟩:=I.cell y c e
   exact ⟨w',z.sameBut hs (cne y c e)⟩
  ·obtain ⟨e,n,ne,nf,d⟩:=I.pin p hp
   exact ⟨(hs.2 p.1 ne).trans e,n,ne,nf,d⟩
 ·have hfn:X.fn x=true:=by
   rcases hf with z | z
   ·exact z
   ·rw [z] at hk; cases hk
  obtain ⟨c,hc⟩:=I.ok.has x (.inl hk)
  obtain ⟨w',z⟩:=I.cell x c hc
  refine wpAny_storeName_cell I.ok.kind hk hc z (fun h' hc' hs=>?_)
  obtain ⟨oc,hoc,hocd⟩:=id z
  refine h { s with heap:=h' } ⟨I.ok,I.os,I.bare,⟨fun b o e n hb hx=>?_,fun b o e n hb hx=>?_,I.base.free,fun b o e hx=>?_,I.base.tups,I.base.frzs,I.base.tbls⟩,⟨m,hn.sameBut hs (Ne.symm (cne x c hc)),fun j y v' e1 e2 e3=>?_⟩,fun y c' e=>?_,I.free,I.freeC,fun p hp=>?_,tracked ⟨oc,hoc,I.freeC x c hc⟩ hs,by simpa using I.len⟩ ⟨c,hs,.inr hc⟩
  ·exact (hs.2 b (Nat.ne_of_lt (Nat.lt_of_lt_of_le (Heap.lt_size e) (I.ok.cab x c hfn hc)))).trans (I.base.keep b o e n hb hx)
  ·obtain ⟨sl,e1⟩:=I.base.slot b o e n hb hx
   exact ⟨sl,(hs.2 b (Nat.ne_of_lt (Nat.lt_of_lt_of_le (Heap.lt_size e) (I.ok.cab x c hfn hc)))).trans e1⟩
  ·obtain ⟨o',e1⟩:=I.base.there b o e hx
   exact ⟨o',(hs.2 b (Nat.ne_of_lt (Nat.lt_of_lt_of_le (Heap.lt_size e) (I.ok.cab x c hfn hc)))).trans e1⟩
  ·by_cases hj:j=i
   ·subst hj
    rw [hi] at e1; cases e1
    rw [List.getElem?_set_self hiσ] at e2
    cases e2
    exact ⟨u,r,.inr ⟨.inl hk,c,hc,hc'⟩⟩
   ·rw [List.getElem?_set_ne (Ne.symm hj)] at e2
    obtain ⟨u',r',q⟩:=hl j y v' e1 e2 e3
    refine ⟨u',r',?_⟩
    rcases q with q | ⟨k,c',e,z'⟩
    ·exact .inl q
    ·refine .inr ⟨k,c',e,z'.sameBut hs ?_⟩
     rintro rfl
     exact hj (Zci hN e1 (I.ok.inj _ _ _ e hc ▸ hi))
  ·by_cases hcc:c'=c
   ·subst hcc; exact ⟨_,hc'⟩
   ·obtain ⟨w2,z2⟩:=I.cell y c' e
    exact ⟨w2,z2.sameBut hs hcc⟩
  ·obtain ⟨e,n,ne,nf,d⟩:=I.pin p hp
   refine ⟨(hs.2 p.1 ?_).trans e,n,ne,nf,d⟩
   intro q
   rw [q,hoc] at e
   have q':oc=p.2:=Option.some.inj e
   exact d w' (by rw [<- q']; exact hocd)
theorem Zb2 {M:Model} {A:Around} {E:Value->Shared->Prop} {i:Nat} {x:Str} {v:V} {u:Value} {Q:Unit->Shared->Prop} (I:Inv X pins σ H s) (hN:X.N.Nodup) (hi:X.N[i]?=some x) (hx:Loc X.env.scope x) (r:RelV v u)
  (h:∀ s',Inv X pins (σ.set i (some v)) H s'->Q () s') (hf:X.fn x=true\/X.env.scope.names.lookup x=some .local:=by first | exact .inl rfl | exact .inr rfl | assumption):wpAny M A (storeName X.env x u) Q E s :=
 Nb I hN hi hx r (fun s' I' _=>h s' I') hf
theorem Inv.call' {s':Shared} {ch:List Addr} (I:Inv X pins σ H s) (ho:s'.os=s.os) (u:Un (frs X.stack) ch H H' s.heap s'.heap) (hok:HOk X.prog X.w H' s'.heap) (hg:AllBare s'.gens)
  (hch:∀ b∈ch,(b∈X.ex\/X.s₀.heap.objs.size<=b)/\b≠X.env.locals/\(∀ x c,X.env.cells.lookup x=some c->c≠b)/\∀ p∈X.pn++pins,p.1≠b):Inv X pins σ H' s':=by
 obtain ⟨h',g',d',t',o'⟩:=s'
 have e:o'=s.os:=ho
 subst e
 exact I.call (g':=g') (t':=t') (d':=d') u hok hg hch
end
abbrev XK:=Value->Option Addr->Hp->Prop
abbrev St:=List (Option V)
abbrev VK:=V->Hp->Prop
abbrev TE:=St->Hp->VK->Prop
abbrev TT:=St->Hp->(Bool->Hp->Prop)->Prop
abbrev TA:=St->Hp->(List V->Hp->Prop)->Prop
structure Ends where
 nx:St->Hp->Prop
 rt:VK
 bk:St->Hp->Prop:=fun _ _=>False
 ct:St->Hp->Prop:=fun _ _=>False
abbrev TS:=Ends->St->Hp->Prop
def EP (X:Cx) (pins:List (Addr×Obj)) (σ:St) (Q:VK) (u:Value) (s':Shared):Prop:=∃ v H',Inv X pins σ H' s'/\RelV v u/\Q v H'
def TP (X:Cx) (pins:List (Addr×Obj)) (σ:St) (Q:Bool->Hp->Prop) (b:Bool) (s':Shared):Prop:=∃ H',Inv X pins σ H' s'/\Q b H'
def AP (X:Cx) (pins:List (Addr×Obj)) (σ:St) (Q:List V->Hp->Prop) (us:List Value) (s':Shared):Prop:=∃ vs H',Inv X pins σ H' s'/\Vals vs us/\Q vs H'
def SP (X:Cx) (pins:List (Addr×Obj)) (D:Ends) (f:Flow) (s':Shared):Prop :=
 match f with
 | .next=>∃ σ' H',Inv X pins σ' H' s'/\D.nx σ' H'
 | .brk=>∃ σ' H',Inv X pins σ' H' s'/\D.bk σ' H'
 | .cont=>∃ σ' H',Inv X pins σ' H' s'/\D.ct σ' H'
 | .ret u=>∃ v σ' H',Inv X pins σ' H' s'/\RelV v u/\D.rt v H'
def PE (X:Cx) (e:Expr) (t:TE):Prop :=
 ∀ (pins:List (Addr×Obj)) (s:Shared) (σ:St) (H:Hp) (Q:VK),Inv X pins σ H s->t σ H Q->wpAny (model X.prog X.w) X.A (eval e X.env) (EP X pins σ Q) X.xe s
def PT (X:Cx) (e:Expr) (t:TT):Prop :=
 ∀ (pins:List (Addr×Obj)) (s:Shared) (σ:St) (H:Hp) (Q:Bool->Hp->Prop),Inv X pins σ H s->t σ H Q->wpAny (model X.prog X.w) X.A (isTrue e X.env (eval e X.env)) (TP X pins σ Q) X.xe s
def PW (X:Cx) (e:Expr) (t:TT):Prop :=
 ∀ (whole:Sem Value) (pins:List (Addr×Obj)) (s:Shared) (σ:St) (H:Hp) (Q:Bool->Hp->Prop),Inv X pins σ H s->t σ H Q->wpAny (model X.prog X.w) X.A (isTrue e X.env whole) (TP X pins σ Q) X.xe s
theorem PW.pt {X:Cx} {e:Expr} {t:TT} (h:PW X e t):PT X e t:=h _
def PA (X:Cx) (es:List Expr) (t:TA):Prop :=
 ∀ (pos:Pos) (pins:List (Addr×Obj)) (s:Shared) (σ:St) (H:Hp) (Q:List V->Hp->Prop),Inv X pins σ H s->t σ H Q->wpAny (model X.prog X.w) X.A (spliced (backTo pos (starEach es X.env))) (AP X pins σ Q) X.xe s
def PS (X:Cx) (st:Stmt) (t:TS):Prop :=
 ∀ (pins:List (Addr×Obj)) (s:Shared) (σ:St) (H:Hp) (D:Ends),Inv X pins σ H s->t D σ H->wpAny (model X.prog X.w) X.A (exec st X.env) (SP X pins D) X.xe s
def PSs (X:Cx) (st:List Stmt) (t:TS):Prop :=
 ∀ (pins:List (Addr×Obj)) (s:Shared) (σ:St) (H:Hp) (D:Ends),Inv X pins σ H s->t D σ H->wpAny (model X.prog X.w) X.A (execs st X.env) (SP X pins D) X.xe s
theorem thn {α:Type} {t:Sem α} {Q Q':α->Shared->Prop} {M:Model} {A:Around} {E:Value->Shared->Prop} {s:Shared} (h:wpAny M A t Q E s) (hQ:∀ a s,Q a s->Q' a s):wpAny M A t Q' E s:=wpAny_mono h hQ fun _ _ x=>x
section
variable {X:Cx}
def tVar (i:Nat):TE:=fun σ H Q=>∃ v,σ[i]?=some (some v)/\Q v H
def tC (v:V):TE:=fun _ H Q=>Q v H
theorem Zn0 {i:Nat} {x:Str} {pos:Pos} (hN:X.N[i]?=some x) (hv:Vis X.env.scope x) (hd:(x == ("__debug__":Str))=false:=by decide) (hcd:(x == ("__classdict__":Str))=false:=by decide):PE X (.Name x pos) (tVar i):=by
 intro pins s σ H Q I h
 obtain ⟨v,e,h⟩:=h
 obtain ⟨m,hn,hl⟩:=I.loc
 obtain ⟨u,r,l⟩:=hl i x v hN e hv
 have fin:EP X pins σ Q u s:=⟨v,H,I,r,h⟩
 rcases l with ⟨hk,hm⟩ | ⟨hk,c,hc,hcell⟩
 ·exact wpAny_Name (wpAny_loadName_local I.ok.kind hk hn hm fin) hd
 ·rcases hk with hk | hk
  ·exact wpAny_Name (wpAny_loadName_cell I.ok.kind hk hc hcell fin) hd
  ·exact wpAny_Name (wpAny_loadName_free I.ok.kind hk hc hcell fin hcd) hd
theorem Zj {i j pos}:PE X (.Constant (.int i) j pos) (tC (.int i)):=fun _ _ _ H _ I h=>wpAny_Constant_int ⟨.int i,H,I.tok _,⟨_,rfl⟩,h⟩
theorem Q4 {b j pos}:PE X (.Constant (.bool b) j pos) (tC (.bl b)):=fun _ _ _ H _ I h=>Constant_bool ⟨.bl b,H,I,rfl,h⟩
theorem Zcd {j pos}:PE X (.Constant .none j pos) (tC .non):=fun _ _ _ H _ I h=>Constant_none ⟨.non,H,I,rfl,h⟩
theorem Ss {x j pos}:PE X (.Constant (.str x) j pos) (tC (.str x)):=fun _ _ _ H _ I h=>Calls.Constant_str ⟨.str x,H,I.tok _,⟨_,rfl⟩,h⟩
def Gl (X:Cx) (x:Str):Prop:=X.env.kindOf x=some .globalImplicit
theorem Sz {E:Value->Shared->Prop} {pins:List (Addr×Obj)} {s:Shared} {σ:St} {H:Hp} {x:Str} {u:Value} {pos:Pos} {Q:Value->Shared->Prop} (I:Inv X pins σ H s) (hg:Gl X x) (hm:X.mg x=some u) (h:Q u s)
  (hd:(x == ("__debug__":Str))=false:=by decide):wpAny (model X.prog X.w) X.A (eval (.Name x pos) X.env) Q E s :=
 Calls.Name_function_global I.ok.kind hg (Calls.loadGlobal_global (by rw [I.ok.glob]; exact I.mod.glob.keeps I.bk) hm h) hd
theorem S0 {E:Value->Shared->Prop} {pins:List (Addr×Obj)} {s:Shared} {σ:St} {H:Hp} {x:Str} {u:Value} {pos:Pos} {Q:Value->Shared->Prop} (I:Inv X pins σ H s) (hg:Gl X x) (hm:X.mg x=none) (hv:bootBuiltins x=some u) (h:Q u s)
  (hn:x≠"__name__":=by decide) (hd:(x == ("__debug__":Str))=false:=by decide):wpAny (model X.prog X.w) X.A (eval (.Name x pos) X.env) Q E s:=by
 obtain ⟨mb,h1,h2⟩:=I.mod.blt
 exact Calls.Name_function_global I.ok.kind hg (Calls.loadGlobal_builtin (by rw [I.ok.glob]; exact I.mod.glob.keeps I.bk) hm (by rw [I.ok.blt]; exact h1.keeps I.bk) ((h2 x hn).trans hv) h) hd
theorem Zky {x:Str} {v:V} {u:Value} {pos:Pos} (hg:Gl X x) (hm:X.mg x=none) (hv:bootBuiltins x=some u) (r:RelV v u) (hn:x≠"__name__":=by decide) (hd:(x == ("__debug__":Str))=false:=by decide):PE X (.Name x pos) (tC v) :=
 fun _ _ _ H _ I h=>S0 I hg hm hv ⟨v,H,I,r,h⟩ hn hd
variable {a b:Expr} {ta tb:TE} {pos:Pos}
def PC (X:Cx) (op:CmpOp) (a b:Expr) (t:TE):Prop :=
 ∀ (pins:List (Addr×Obj)) (s:Shared) (σ:St) (H:Hp) (Q:VK),Inv X pins σ H s->t σ H Q ->
  wpAny (model X.prog X.w) X.A (eval a X.env) (fun v s₁=>wpAny (model X.prog X.w) X.A (eval b X.env) (fun u s₂=>wpAny (model X.prog X.w) X.A (compareOp op v u) (EP X pins σ Q) X.xe s₂) X.xe s₁) X.xe s
theorem Zh3 (b:Expr) {op:CmpOp} (h:op≠.In) (h2:op≠.NotIn):behindInMarks op b=false:=by
 have e1:(op == CmpOp.In)=false:=by cases op <;> first | rfl | exact absurd rfl h
 have e2:(op == CmpOp.NotIn)=false:=by cases op <;> first | rfl | exact absurd rfl h2
 cases b <;> simp [behindInMarks,e1,e2]
def tIsN (ta:TE):TE:=fun σ H Q=>ta σ H fun x H1=>Q (.bl (decide (x=.non))) H1
def Zqc (ta:TE):TE:=fun σ H Q=>ta σ H fun x H1=>Q (.bl (!decide (x=.non))) H1
theorem RelV.none_iff {x:V} {v:Value} (r:RelV x v):(v == Value.none)=decide (x=.non):=by
 cases x with
 | non=>cases r; rfl
 | bl _=>cases r; rfl
 | int _=>obtain ⟨t,rfl⟩:=r; rfl
 | str _=>obtain ⟨t,rfl⟩:=r; rfl
 | byt _=>obtain ⟨t,rfl⟩:=r; rfl
 | flt _=>obtain ⟨t,rfl⟩:=r; rfl
 | ref _=>cases r; rfl
 | ty _=>cases r; rfl
theorem Zfh {j pos'} (ha:PE X a ta):PC X .Is a (.Constant .none j pos') (tIsN ta):=by
 intro pins s σ H Q I h
 refine thn (ha pins s σ H _ I h) fun v s1 ⟨x,H1,I1,r1,q1⟩=>?_
 exact Constant_none (is_none_gen ⟨.bl _,H1,I1,by rw [r1.none_iff]; rfl,q1⟩)
theorem Zkz {j pos'} (ha:PE X a ta):PC X .IsNot a (.Constant .none j pos') (Zqc ta):=by
 intro pins s σ H Q I h
 refine thn (ha pins s σ H _ I h) fun v s1 ⟨x,H1,I1,r1,q1⟩=>?_
 exact Constant_none (isnot_none_gen ⟨.bl _,H1,I1,by rw [r1.none_iff]; rfl,q1⟩)
def tB (t:TE):TT:=fun σ H Q=>t σ H fun x H1=>∃ c,x=.bl c/\Q c H1
theorem Sn {op:CmpOp} {t:TE} (h:PC X op a b t) (h1:behindInMarks op b=false:=by first | exact Zh3 _ (by decide) (by decide) | rfl):PT X (.Compare a [op] [b] pos) (tB t):=by
 intro pins s σ H Q I hw
 refine wpAny_isTrue_Compare1 (thn (h pins s σ H _ I hw) fun v s1 h1=>thn h1 fun u s2 h2=>thn h2 fun c s3 ⟨x,H1,I1,r1,q1⟩=>?_) h1
 obtain ⟨d,rfl,q⟩:=q1
 cases r1
 exact wpAny_truthy_bool ⟨H1,I1,q⟩
theorem Qg {e:Expr} {t:TE} (h:PE X e t) (he:∀ whole,isTrue e X.env whole=(do let v <- whole; standAt e.pos; holding [v] (truthy v)):=by intro _; rfl):PT X e (tB t):=by
 intro pins s σ H Q I hw
 refine isTrue_plain (thn (h pins s σ H _ I hw) fun v s1 ⟨x,H1,I1,r1,q1⟩=>?_) (he _)
 obtain ⟨d,rfl,q⟩:=q1
 cases r1
 exact wpAny_truthy_bool ⟨H1,I1,q⟩
variable {tA tB':TT} {rest:List Expr}
def tAnd (t u:TT):TT:=fun σ H Q=>t σ H fun c H1=>if c=true then u σ H1 Q else Q false H1
def tOr (t u:TT):TT:=fun σ H Q=>t σ H fun c H1=>if c=true then Q true H1 else u σ H1 Q
def tNot (t:TT):TT:=fun σ H Q=>t σ H fun c H1=>Q (!c) H1
theorem Tq (ha:PT X a tA):PW X (.BoolOp .And [a] pos) tA:=by
 intro wh pins s σ H Q I h
 refine isTrue_and (thn (ha pins s σ H Q I h) fun c s1 e=>?_)
 cases c with
 | true=>exact isTrue_and_nil e
 | false=>exact e
theorem Zje (ha:PT X a tA):PW X (.BoolOp .Or [a] pos) tA:=by
 intro wh pins s σ H Q I h
 refine isTrue_or (thn (ha pins s σ H Q I h) fun c s1 e=>?_)
 cases c with
 | false=>exact isTrue_or_nil e
 | true=>exact e
theorem Sm (ha:PT X a tA) (hb:PW X (.BoolOp .And (b::rest) pos) tB'):PW X (.BoolOp .And (a::b::rest) pos) (tAnd tA tB'):=by
 intro wh pins s σ H Q I h
 refine isTrue_and (thn (ha pins s σ H _ I h) fun c s1 ⟨H1,I1,q1⟩=>?_)
 cases c with
 | true=>exact hb wh pins s1 σ H1 Q I1 q1
 | false=>exact ⟨H1,I1,q1⟩
theorem Zko (ha:PT X a tA) (hb:PW X (.BoolOp .Or (b::rest) pos) tB'):PW X (.BoolOp .Or (a::b::rest) pos) (tOr tA tB'):=by
 intro wh pins s σ H Q I h
 refine isTrue_or (thn (ha pins s σ H _ I h) fun c s1 ⟨H1,I1,q1⟩=>?_)
 cases c with
 | true=>exact ⟨H1,I1,q1⟩
 | false=>exact hb wh pins s1 σ H1 Q I1 q1
theorem Nm (ha:PT X a tA):PT X (.UnaryOp .Not a pos) (tNot tA):=by
 intro pins s σ H Q I h
 exact isTrue_not (ha pins s σ H (fun c H1=>Q (!c) H1) I h)
def Znd (ta tb:TE):TE:=fun σ H Q=>ta σ H fun x H1=>∃ c,x=.bl c/\if c=true then tb σ H1 Q else Q (.bl false) H1
theorem Zji {op} {t:TE} (h:PE X a t):PE X (.BoolOp op [a] pos) t:=fun pins s σ H Q I hw=>BoolOp_one (h pins s σ H Q I hw)
theorem Zjj (ha:PE X a ta) (hb:PE X (.BoolOp .And (b::rest) pos) tb):PE X (.BoolOp .And (a::b::rest) pos) (Znd ta tb):=by
 intro pins s σ H Q I h
 refine BoolOp_and (thn (ha pins s σ H _ I h) fun v s1 ⟨x,H1,I1,r1,q1⟩=>?_)
 obtain ⟨c,rfl,q1⟩:=q1
 cases r1
 refine wpAny_truthy_bool ?_
 cases c with
 | true=>exact hb pins s1 σ H1 Q I1 q1
 | false=>exact ⟨.bl false,H1,I1,rfl,q1⟩
end
def SqL (K:W.Frag) (H:Hp) (a:Addr) (xs:List V):Prop :=
 Rd H a (.lst xs) \/
  ∃ (o:Obj) (its:Array Value) (n:Nat),K.lookup a=some o/\o.cls=.type "list"/\o.dict=none/\o.data=.seq its n/\its.size<=sizeLine/\Vals xs its.toList
def SqT (K:W.Frag) (H:Hp) (a:Addr) (xs:List V):Prop :=
 Rd H a (.tup xs) \/
  ∃ (o:Obj) (its:Array Value) (n:Nat),K.lookup a=some o/\o.cls=.type "tuple"/\o.data=.seq its n/\its.size<=sizeLine/\Vals xs its.toList
def absV:Value->Option V
 | .none=>some .non
 | .bool b=>some (.bl b)
 | .int i _=>some (.int i)
 | .str x _=>some (.str x)
 | .bytes b _=>some (.byt b)
 | .float b _=>some (.flt b)
 | .ref a=>some (.ref a)
 | .type n=>some (.ty n)
 | _=>none
theorem RelV.abs {x:V} {u:Value} (r:RelV x u):absV u=some x:=by
 cases x with
 | non=>cases r; rfl
 | bl _=>cases r; rfl
 | int _=>obtain ⟨t,rfl⟩:=r; rfl
 | str _=>obtain ⟨t,rfl⟩:=r; rfl
 | byt _=>obtain ⟨t,rfl⟩:=r; rfl
 | flt _=>obtain ⟨t,rfl⟩:=r; rfl
 | ref _=>cases r; rfl
 | ty _=>cases r; rfl
theorem RelV.inj {x y:V} {u:Value} (r:RelV x u) (q:RelV y u):x=y:=Option.some.inj (r.abs.symm.trans q.abs)
theorem Vals.inj:∀ {xs ys:List V} {us:List Value},Vals xs us->Vals ys us->xs=ys
 | _,_,_,.nil,.nil=>rfl
 | _,_,_,.cons r t,.cons r' t'=>by rw [r.inj r',Vals.inj t t']
section
variable {X:Cx} {pins:List (Addr×Obj)} {σ:St} {H:Hp} {s:Shared} {a:Addr} {xs ys:List V}
theorem SqL.of {K:W.Frag} (h:H a=some (.lst xs)):SqL K H a xs:=.inl (.inl h)
theorem SqT.of {K:W.Frag} (h:H a=some (.tup xs)):SqT K H a xs:=.inl (.inl h)
theorem Inv.list (I:Inv X pins σ H s) (h:SqL X.K H a xs):∃ its:List Value,Vals xs its/\PlainL s.heap a its.toArray/\xs.length<=sizeLine:=by
 rcases h with h | ⟨o,its,n,hk,hc,hd,hs,hz,r⟩
 ·obtain ⟨z,its,n,r,e⟩:=h.ok I.hok
  exact ⟨its,r,⟨_,n,e,rfl,rfl,rfl⟩,z⟩
 ·refine ⟨its.toList,r,⟨o,n,I.kIn a o hk,hc,hd,by simpa using hs⟩,?_⟩
  have e:=r.length
  simp only [Array.length_toList] at e
  omega
theorem Inv.tuple (I:Inv X pins σ H s) (h:SqT X.K H a xs):∃ its:List Value,Vals xs its/\IsTup s.heap a its.toArray/\xs.length<=sizeLine:=by
 rcases h with h | ⟨o,its,n,hk,hc,hs,hz,r⟩
 ·obtain ⟨z,its,r,p⟩:=h.ok I.hok
  exact ⟨its,r,p.tup,z⟩
 ·refine ⟨its.toList,r,⟨o,I.kIn a o hk,hc,n,by simpa using hs⟩,?_⟩
  have e:=r.length
  simp only [Array.length_toList] at e
  omega
theorem Inv.list_inj (I:Inv X pins σ H s) (h:SqL X.K H a xs) (h':SqL X.K H a ys):xs=ys:=by
 obtain ⟨its,r,⟨o,n,e,_,_,d⟩,_⟩:=I.list h
 obtain ⟨its',r',⟨o',n',e',_,_,d'⟩,_⟩:=I.list h'
 rw [e] at e'; cases e'
 rw [d] at d'
 injection d' with d1 _
 have:its=its':=by simpa using congrArg Array.toList d1
 subst this
 exact r.inj r'
theorem Inv.tuple_inj (I:Inv X pins σ H s) (h:SqT X.K H a xs) (h':SqT X.K H a ys):xs=ys:=by
 obtain ⟨its,r,⟨o,e,_,n,d⟩,_⟩:=I.tuple h
 obtain ⟨its',r',⟨o',e',_,n',d'⟩,_⟩:=I.tuple h'
 rw [e] at e'; cases e'
 rw [d] at d'
 injection d' with d1 _
 have:its=its':=by simpa using congrArg Array.toList d1
 subst this
 exact r.inj r'
end
abbrev Cx.wish (X:Cx) (E:Value->Shared->Prop):Cx:={ X with xe:=E }
abbrev Cx.nox (X:Cx):Cx:=X.wish fun _ _=>False
theorem Cx.Ok.wish {X:Cx} (ok:X.Ok) (E:Value->Shared->Prop):(X.wish E).Ok :=
 ⟨ok.mod,ok.kind,ok.glob,ok.blt,ok.above,ok.inj,ok.has,ok.cab,ok.hd,ok.frames,ok.stk,ok.exf,ok.bs,ok.bsz,ok.noex,ok.exfs,ok.funs,ok.frf⟩
theorem Cx.Ok.unwish {X:Cx} {E:Value->Shared->Prop} (ok:(X.wish E).Ok):X.Ok :=
 ⟨ok.mod,ok.kind,ok.glob,ok.blt,ok.above,ok.inj,ok.has,ok.cab,ok.hd,ok.frames,ok.stk,ok.exf,ok.bs,ok.bsz,ok.noex,ok.exfs,ok.funs,ok.frf⟩
section
variable {X:Cx} {pins:List (Addr×Obj)} {σ:St} {H:Hp} {s:Shared} {E:Value->Shared->Prop}
theorem Inv.wish (I:Inv X pins σ H s) (E:Value->Shared->Prop):Inv (X.wish E) pins σ H s:=⟨I.ok.wish E,I.os,I.bare,I.base,I.loc,I.cell,I.free,I.freeC,I.pin,I.hok,I.len⟩
theorem Inv.unwish (I:Inv (X.wish E) pins σ H s):Inv X pins σ H s:=⟨I.ok.unwish,I.os,I.bare,I.base,I.loc,I.cell,I.free,I.freeC,I.pin,I.hok,I.len⟩
theorem SP.unwish {D:Ends} {f:Flow} {s':Shared} (h:SP (X.wish E) pins D f s'):SP X pins D f s':=by
 cases f with
 | next=>obtain ⟨σ',H',I,q⟩:=h; exact ⟨σ',H',I.unwish,q⟩
 | brk=>obtain ⟨σ',H',I,q⟩:=h; exact ⟨σ',H',I.unwish,q⟩
 | cont=>obtain ⟨σ',H',I,q⟩:=h; exact ⟨σ',H',I.unwish,q⟩
 | ret u=>obtain ⟨v,σ',H',I,r,q⟩:=h; exact ⟨v,σ',H',I.unwish,r,q⟩
theorem PSs.nox {st:List Stmt} {t:TS} (h:PSs X.nox st t):PSs X st t:=fun pins s σ H D I hw =>
 wpAny_mono (h pins s σ H D (I.wish _) hw) (fun _ _ q=>q.unwish) fun _ _ z=>False.elim z
end
section
variable {X:Cx} {st:Stmt} {rest:List Stmt} {t u:TS} {e:Expr} {te:TE} {pos:Pos}
def Zm8:TS:=fun D σ H=>D.nx σ H
def tSeq (t u:TS):TS:=fun D σ H=>t { D with nx:=u D } σ H
theorem Z7:PSs X [] Zm8:=fun _ _ σ H _ I h=>wpAny_execs_nil ⟨σ,H,I,h⟩
theorem Zf (h1:PS X st t) (h2:PSs X rest u):PSs X (st::rest) (tSeq t u):=by
 intro pins s σ H D I h
 refine wpAny_execs_cons (thn (h1 pins s σ H { D with nx:=u D } I h) fun f s1 q=>?_)
 cases f with
 | next =>
  obtain ⟨σ',H',I',q⟩:=q
  exact h2 pins s1 σ' H' D I' q
 | ret v=>exact q
 | brk=>exact q
 | cont=>exact q
theorem Zn (h1:PS X st t):PSs X [st] t:=by
 intro pins s σ H D I h
 refine wpAny_execs_cons (thn (h1 pins s σ H D I h) fun f s1 q=>?_)
 cases f with
 | next=>exact wpAny_execs_nil q
 | ret v=>exact q
 | brk=>exact q
 | cont=>exact q
def Znc:TS:=fun D σ H=>D.ct σ H
theorem Zay:PS X (.Continue pos) Znc:=fun _ _ σ H _ I h=>wpAny_Continue ⟨σ,H,I,h⟩
theorem Inv.quiet {pins:List (Addr×Obj)} {σ:St} {H:Hp} {s:Shared} (I:Inv X pins σ H s):interactive X.env=false:=by simp [interactive,I.ok.kind]
def Zj8 (te:TE):TS:=fun D σ H=>te σ H fun _ H1=>D.nx σ H1
theorem Vu (he:PE X e te) (hs:swapsWith e none pos.line X.env=pure false:=by rfl):PS X (.Expr e pos) (Zj8 te):=by
 intro pins s σ H D I h
 exact wpAny_Expr_any (thn (he pins s σ H _ I h) fun v s1 ⟨x,H1,I1,r1,q1⟩=>⟨σ,H1,I1,q1⟩) I.quiet hs
def tRet (te:TE):TS:=fun D σ H=>te σ H D.rt
theorem Z5 (he:PE X e te):PS X (.Return (some e) pos) (tRet te):=by
 intro pins s σ H D I h
 exact wpAny_Return_some (thn (he pins s σ H _ I h) fun v s1 ⟨x,H1,I1,r1,q1⟩=>⟨x,σ,H1,I1,r1,q1⟩)
def Zqb:TS:=fun D _ H=>D.rt .non H
theorem Zkq:PS X (.Return none pos) Zqb:=fun _ _ σ H _ I h=>wpAny_Return_none ⟨.non,σ,H,I,rfl,h⟩
def tIfS (c:TT) (t u:TS):TS:=fun D σ H=>c σ H fun b H1=>if b=true then t D σ H1 else u D σ H1
theorem Xk {c:Expr} {a b:List Stmt} {tc:TT} (hc:PT X c tc) (ha:PSs X a t) (hb:PSs X b u):PS X (.If c a b pos) (tIfS tc t u):=by
 intro pins s σ H D I h
 refine wpAny_If (thn (hc pins s σ H _ I h) fun d s1 ⟨H1,I1,q1⟩=>?_)
 cases d with
 | true=>exact ha pins s1 σ H1 D I1 q1
 | false=>exact hb pins s1 σ H1 D I1 q1
def Ziz:TS:=fun _ _ _=>False
theorem Vg:PS X st Ziz:=fun _ _ _ _ _ _ h=>h.elim
end
abbrev TG:=V->St->Hp->(St->Hp->Prop)->Prop
abbrev TGs:=List V->St->Hp->(St->Hp->Prop)->Prop
def PG (X:Cx) (target:Expr) (t:TG):Prop :=
 ∀ (pins:List (Addr×Obj)) (s:Shared) (σ:St) (H:Hp) (v:V) (u:Value) (Q:St->Hp->Prop),Inv X pins σ H s->RelV v u->t v σ H Q ->
  wpAny (model X.prog X.w) X.A (assign target X.env u) (fun _ s'=>∃ σ' H',Inv X pins σ' H' s'/\Q σ' H') X.xe s
def PGs (X:Cx) (ts:List Expr) (t:TGs):Prop :=
 ∀ (pins:List (Addr×Obj)) (s:Shared) (σ:St) (H:Hp) (vs:List V) (us:List Value) (Q:St->Hp->Prop),Inv X pins σ H s->Vals vs us->t vs σ H Q ->
  wpAny (model X.prog X.w) X.A (assignInOrder ((assignEach ts X.env).map (·.2)) us) (fun _ s'=>∃ σ' H',Inv X pins σ' H' s'/\Q σ' H') X.xe s
abbrev TSet:=V->V->V->Hp->(Hp->Prop)->Prop
def PSet (X:Cx) (t:TSet):Prop :=
 ∀ (pins:List (Addr×Obj)) (s:Shared) (σ:St) (H:Hp) (o i v:V) (ov iv u:Value) (Q:Hp->Prop),Inv X pins σ H s->RelV o ov->RelV i iv->RelV v u->t o i v H Q ->
  wpAny (model X.prog X.w) X.A (setItem ov iv u) (fun _ s'=>∃ H',Inv X pins σ H' s'/\Q H') X.xe s
abbrev TIp:=V->V->Hp->VK->Prop
def PIp (X:Cx) (op:Operator) (t:TIp):Prop :=
 ∀ (pins:List (Addr×Obj)) (s:Shared) (σ:St) (H:Hp) (x y:V) (v u:Value) (Q:VK),Inv X pins σ H s->RelV x v->RelV y u->t x y H Q ->
  wpAny (model X.prog X.w) X.A (inplaceOp op v u) (EP X pins σ Q) X.xe s
section
variable {X:Cx} {pos:Pos}
def Zbf (i:Nat):TG:=fun v σ H Q=>Q (σ.set i (some v)) H
theorem Zr {i:Nat} {x:Str} (hN:X.N.Nodup) (hi:X.N[i]?=some x) (hx:Loc X.env.scope x) (hf:X.fn x=true\/X.env.scope.names.lookup x=some .local:=by first | exact .inl rfl | exact .inr rfl | assumption):PG X (.Name x pos) (Zbf i):=by
 intro pins s σ H v u Q I r h
 exact wpAny_assign_Name (Zb2 I hN hi hx r (fun s' I'=>⟨_,H,I',h⟩) hf)
def gNil:TGs:=fun vs σ H Q=>vs=[]/\Q σ H
def Zlm (t:TG) (u:TGs):TGs:=fun vs σ H Q=>∃ v r,vs=v::r/\t v σ H fun σ' H'=>u r σ' H' Q
theorem X2:PGs X [] gNil:=by
 intro pins s σ H vs us Q I r h
 obtain ⟨e,h⟩:=h
 subst e
 cases r
 exact assignInOrder_nil ⟨σ,H,I,h⟩
theorem Zy {e:Expr} {es:List Expr} {t:TG} {u:TGs} (h1:PG X e t) (h2:PGs X es u)
  (hs:(assignEach (e::es) X.env).map (·.2)=assign e X.env::(assignEach es X.env).map (·.2):=by rfl):PGs X (e::es) (Zlm t u):=by
 intro pins s σ H vs us Q I r h
 obtain ⟨v,vr,e1,h⟩:=h
 subst e1
 cases r with
 | cons r rr =>
  rw [hs]
  refine assignInOrder_cons (thn (h1 pins s σ H _ _ _ I r h) fun _ s1 ⟨σ1,H1,I1,q1⟩=>?_)
  exact h2 pins s1 σ1 H1 _ _ Q I1 rr q1
def gTup (K:W.Frag) (n:Nat) (t:TGs):TG:=fun v σ H Q=>∃ a xs,v=.ref a/\SqT K H a xs/\xs.length=n/\t xs σ H Q
theorem Wv {es:List Expr} {k:Nat} {t:TGs} {n:Nat} (hc:X.calm=true) (h:PGs X es t)
  (hn:(assignEach es X.env).length=n:=by rfl) (hst:(assignEach es X.env).findIdx? (·.1)=none:=by rfl):PG X (.Tuple es k pos) (gTup X.K n t):=by
 intro pins s σ H v u Q I r hw
 obtain ⟨a,xs,e1,hq,hl,hw⟩:=hw
 subst e1
 cases r
 obtain ⟨its,rv,ht,hz⟩:=I.tuple hq
 refine assign_Tuple_tuple (I.ok.hd hc) ht (by simp [hn,<- hl,rv.length]) hst fun h' hx=>?_
 have I1:Inv X pins σ H { s with heap:=h' }:=I.kept (t':=s.toks) fun b o e=>hx b o (Nat.ne_of_lt (Heap.lt_size e)) e
 exact h pins _ σ H xs _ Q I1 (by simpa using rv) hw
def gSub (to ti:TE) (t:TSet):TG:=fun v σ H Q=>to σ H fun o H1=>ti σ H1 fun i H2=>t o i v H2 fun H3=>Q σ H3
theorem Zfa {o i:Expr} {to ti:TE} {t:TSet} (ho:PE X o to) (hi:PE X i ti) (hs:PSet X t)
  (ha:∀ v,assign (.Subscript o i pos) X.env v=(do
   let ov <- holding [v] (eval o X.env)
   let iv <- holding [v,ov] (eval i X.env)
   standAt pos
   holding [v,ov,iv] (setItem ov iv v)
   release [v,ov,iv] []):=by intro _; rfl):PG X (.Subscript o i pos) (gSub to ti t):=by
 intro pins s σ H v u Q I r h
 rw [ha]
 refine wpAny_bind (wpAny_holding (thn (ho pins s σ H _ I h) fun ov s1 ⟨x,H1,I1,r1,q1⟩=>?_))
 refine wpAny_bind (wpAny_holding (thn (hi pins s1 σ H1 _ I1 q1) fun iv s2 ⟨y,H2,I2,r2,q2⟩=>?_))
 refine wpAny_bind (wpAny_standAt (wpAny_bind (wpAny_holding (thn (hs pins s2 σ H2 x y v ov iv u _ I2 r1 r2 r q2) fun _ s3 ⟨H3,I3,q3⟩=>?_))))
 exact wpAny_release ⟨σ,H3,I3,q3⟩
def tAsg (te:TE) (g:TG):TS:=fun D σ H=>te σ H fun x H1=>g x σ H1 D.nx
theorem Qh {tg e:Expr} {te:TE} {g:TG} (he:PE X e te) (hg:PG X tg g) (hs:swapsWithSole [tg] e pos.line X.env=pure false:=by rfl) (hw:swappedStores [tg] e X.env=pure none:=by rfl)
  (h1:(assignEach [tg] X.env).map (·.2)=[assign tg X.env]:=by rfl):PS X (.Assign [tg] e pos) (tAsg te g):=by
 intro pins s σ H D I h
 refine wpAny_Assign_stores (thn (he pins s σ H _ I h) fun v s1 ⟨x,H1,I1,r1,q1⟩=>?_) hs hw
 rw [h1]
 exact thn (hg pins s1 σ H1 x v _ I1 r1 q1) fun _ s2 q=>q
theorem Zv {i:Nat} {x:Str} {e:Expr} {te:TE} {pos':Pos} (hN:X.N.Nodup) (hi:X.N[i]?=some x) (hx:Loc X.env.scope x) (he:PE X e te) (hs:swapsWith e (some (.Name x pos')) pos.line X.env=pure false:=by rfl) (hf:X.fn x=true\/X.env.scope.names.lookup x=some .local:=by first | exact .inl rfl | exact .inr rfl | assumption) :
  PS X (.Assign [.Name x pos'] e pos) (tAsg te (Zbf i)):=by
 intro pins s σ H D I h
 refine wpAny_Assign_Name (thn (he pins s σ H _ I h) fun v s1 ⟨y,H1,I1,r1,q1⟩=>?_) hs
 exact Zb2 I1 hN hi hx r1 (fun s2 I2=>⟨_,H1,I2,q1⟩) hf
def Zqd (to ti te:TE) (tget:V->V->Hp->VK->Prop) (tip:TIp) (tset:TSet):TS:=fun D σ H=>to σ H fun o H1=>ti σ H1 fun i H2=>tget o i H2 fun x H3=>te σ H3 fun y H4=>tip x y H4 fun z H5=>tset o i z H5 fun H6=>D.nx σ H6
def PGet (X:Cx) (t:V->V->Hp->VK->Prop):Prop :=
 ∀ (pins:List (Addr×Obj)) (s:Shared) (σ:St) (H:Hp) (o i:V) (ov iv:Value) (Q:VK),Inv X pins σ H s->RelV o ov->RelV i iv->t o i H Q ->
  wpAny (model X.prog X.w) X.A (getItem ov iv) (EP X pins σ Q) X.xe s
theorem Zkr {o i e:Expr} {to ti te:TE} {tget:V->V->Hp->VK->Prop} {tip:TIp} {tset:TSet} {op:Operator} {tpos:Pos} (ho:PE X o to) (hi:PE X i ti) (hg:PGet X tget) (he:PE X e te) (hp:PIp X op tip) (hs:PSet X tset)
  (ha:∀ ov iv new,augStore i ov iv new=(do holding [new,ov,iv] (setItem ov iv new); release [new,ov,iv] []; pure .next):=by intros; rfl):PS X (.AugAssign (.Subscript o i tpos) op e pos) (Zqd to ti te tget tip tset):=by
 intro pins s σ H D I h
 refine wpAny_AugAssign_SubscriptAny (thn (ho pins s σ H _ I h) fun ov s1 ⟨x1,H1,I1,r1,q1⟩=>?_) ha
 refine thn (hi pins s1 σ H1 _ I1 q1) fun iv s2 ⟨x2,H2,I2,r2,q2⟩=>?_
 refine thn (hg pins s2 σ H2 x1 x2 ov iv _ I2 r1 r2 q2) fun old s3 ⟨x3,H3,I3,r3,q3⟩=>?_
 refine thn (he pins s3 σ H3 _ I3 q3) fun v s4 ⟨x4,H4,I4,r4,q4⟩=>?_
 refine thn (hp pins s4 σ H4 x3 x4 old v _ I4 r3 r4 q4) fun new s5 ⟨x5,H5,I5,r5,q5⟩=>?_
 exact thn (hs pins s5 σ H5 x1 x2 x5 ov iv new _ I5 r1 r2 r5 q5) fun _ s6 ⟨H6,I6,q6⟩=>⟨σ,H6,I6,q6⟩
def ipI (f:Int->Int->Int):TIp:=fun x y H Q=>∃ i j,x=.int i/\y=.int j/\Q (.int (f i j)) H
theorem Zoq:PIp X .Add (ipI fun i j=>i + j):=by
 intro pins s σ H x y v u Q I r1 r2 h
 obtain ⟨i,j,e1,e2,q⟩:=h
 subst e1; subst e2
 obtain ⟨t,rfl⟩:=r1
 obtain ⟨t',rfl⟩:=r2
 exact iadd_int ⟨.int _,H,I.tok _,⟨_,rfl⟩,q⟩
end
structure It where
 go:Nat->Hp->Prop
 yld:Nat->Hp->V->Hp->Prop
 stop:Nat->Hp->Prop
def FpOk (X:Cx) (pins:List (Addr×Obj)) (H:Hp) (b:Addr):Prop :=
 H b=none/\b≠X.env.locals/\b∉X.fs/\(b∈X.ex\/X.s₀.heap.objs.size<=b)/\(∀ x c,X.env.cells.lookup x=some c->c≠b)/\∀ p∈X.pn++pins,p.1≠b
theorem Inv.fpOk {X:Cx} {pins:List (Addr×Obj)} {σ:St} {H H':Hp} {s:Shared} {b:Addr} (I:Inv X pins σ H s) (hb:s.heap.objs.size<=b) (hn:H' b=none):FpOk X pins H' b:=by
 refine ⟨hn,Nat.ne_of_gt (Nat.lt_of_lt_of_le I.lt hb),I.nofs hb,.inr (Nat.le_trans I.sz hb),fun x c e z=>?_,fun p hp z=>?_⟩
 ·obtain ⟨v,q⟩:=I.cell x c e
  exact absurd (Nat.lt_of_lt_of_le q.lt (by rw [z]; exact hb)) (Nat.lt_irrefl _)
 ·exact absurd (Nat.lt_of_lt_of_le (Heap.lt_size (I.pin p hp).1) (by rw [z]; exact hb)) (Nat.lt_irrefl _)
structure Turn (P:Program) (w:World) (K:W.Frag) (tg:Expr) (J:It) (fp:List Addr) (it:Addr) (tn:Nat->Heap->Prop):Prop where
 mem:it∈fp
 obj:∀ i h,tn i h->∀ b∈fp,∃ o,h.get? b=some o/\∀ v,o.data≠.cell v
 keep:∀ i h h',tn i h->(∀ b∈fp,∀ o,h.get? b=some o->h'.get? b=some o)->tn i h'
 item:∀ (X:Cx),X.prog=P->X.w=w->X.K=K->X.calm=true->∀ (i:Nat) (pins:List (Addr×Obj)) (s:Shared) (σ:St) (H:Hp) (E:Value->Shared->Prop),Inv X pins σ H s->(∀ b∈fp,FpOk X pins H b)->tn i s.heap->J.go i H ->
  wpAny (model P w) X.A (pyNext (.ref it)) (fun r s1=>∃ u,r=some u /\
   wpAny (model P w) X.A (letOwnedTupleGo tg (.ref it) u) (fun _ s2=>∃ x H',Inv X pins σ H' s2/\RelV x u/\J.yld i H x H'/\tn (i + 1) s2.heap/\∀ b∈fp,H' b=none) E s1) E s
 done:∀ (X:Cx),X.prog=P->X.w=w->X.K=K->X.calm=true->∀ (i:Nat) (pins:List (Addr×Obj)) (s:Shared) (σ:St) (H:Hp) (E:Value->Shared->Prop),Inv X pins σ H s->(∀ b∈fp,FpOk X pins H b)->tn i s.heap->J.stop i H ->
  wpAny (model P w) X.A (pyNext (.ref it)) (fun r s1=>r=none/\Inv X pins σ H s1) E s
 self:∀ (A:Around) (i:Nat) (s:Shared) (Q:Value->Shared->Prop) (E:Value->Shared->Prop),tn i s.heap->Q (.ref it) s->wpAny (model P w) A (pyIter (.ref it)) Q E s
abbrev TI:=St->Hp->(It->Hp->Prop)->Prop
def PIE (X:Cx) (pins:List (Addr×Obj)) (σ:St) (tg:Expr) (R:It->Hp->Prop) (itv:Value) (s2:Shared):Prop :=
 ∃ (it:Addr) (fp:List Addr) (tn:Nat->Heap->Prop) (J:It) (H':Hp),itv=.ref it/\Inv X pins σ H' s2/\Turn X.prog X.w X.K tg J fp it tn/\tn 0 s2.heap/\(∀ b∈fp,FpOk X pins H' b)/\R J H'
def PI (X:Cx) (tg iter:Expr) (wi:TI):Prop :=
 ∀ (pins:List (Addr×Obj)) (s:Shared) (σ:St) (H:Hp) (R:It->Hp->Prop),Inv X pins σ H s->wi σ H R ->
  wpAny (model X.prog X.w) X.A (eval iter X.env) (fun v s1=>wpAny (model X.prog X.w) X.A (pyIter v) (PIE X pins σ tg R) X.xe s1) X.xe s
theorem Zlk {M:Model} {A:Around} {E:Value->Shared->Prop} {s:Shared} {tg:Expr} {it:Addr} {u:Value} {o:Obj} {n:String} {vs:Array Value} {Q:Unit->Shared->Prop} (ho:s.heap.get? it=some o) (hc:o.cls=.type n) (hd:o.data=.fields vs)
    (hn:["enumerate", "zip", "dict_itemiterator", "dict_reverseitemiterator", "odict_iterator", "itertools.zip_longest", "itertools.pairwise"].contains n=false) (hQ:Q () s):wpAny M A (letOwnedTupleGo tg (.ref it) u) Q E s:=by
  unfold letOwnedTupleGo
  cases tg <;> first
    | exact wpAny_pure hQ
    | (cases u <;> first
        | exact wpAny_pure hQ
        | (refine wpAny_bind (wpAny_load ho ?_)
           rw [hc,hd]
           show wpAny M A (if (["enumerate", "zip", "dict_itemiterator", "dict_reverseitemiterator", "odict_iterator", "itertools.zip_longest", "itertools.pairwise"].contains n && vs[0]? == some (rawInt _))=true then _ else _) Q E s
           rw [if_neg (by intro h; rw [hn,Bool.false_and] at h; cases h)]
           exact wpAny_pure hQ))
def Itl (K:W.Frag) (a:Addr):It :=
 ⟨fun i H=>∃ xs x,SqL K H a xs/\xs[i]?=some x,fun i H x H'=>H'=H/\∀ xs,SqL K H a xs->xs[i]?=some x,fun i H=>∃ xs,SqL K H a xs/\xs.length<=i⟩
def Itt (K:W.Frag) (a:Addr):It :=
 ⟨fun i H=>∃ xs x,SqT K H a xs/\xs[i]?=some x,fun i H x H'=>H'=H/\∀ xs,SqT K H a xs->xs[i]?=some x,fun i H=>∃ xs,SqT K H a xs/\xs.length<=i⟩
def Itr (lo:Int) (n:Nat):It:=⟨fun i _=>i < n,fun i H x H'=>H'=H/\x=.int (lo + i),fun i _=>n<=i⟩
theorem Zd9 {P:Program} {w:World} {K:W.Frag} {tg:Expr} (a it:Addr):Turn P w K tg (Itl K a) [it] it (fun i h=>h.IsListIter it a i) where
 mem:=by simp
 obj:=fun i h st b hb=>by
  have e:b=it:=by simpa using hb
  subst e
  obtain ⟨o,e,c,d⟩:=st
  exact ⟨o,e,fun v z=>by rw [d] at z; cases z⟩
 keep:=fun i h h' st k=>st.at fun o e=>k it (by simp) o e
 item:=by
  intro X hP hw hK hc i pins s σ H E I hf st hg
  subst hP hw hK
  obtain ⟨xs,x,hq,hx⟩:=hg
  obtain ⟨its,rv,p,hz⟩:=I.list hq
  obtain ⟨u,hu,ru⟩:=rv.get hx
  obtain ⟨f0,f1,f2,f3,f4,f5⟩:=hf it (by simp)
  refine wpAny_pyNext_list_item st p.isList (x:=u) (by simpa using hu) fun h' st' sb=>?_
  have I1:Inv X pins σ H { s with heap:=h' }:=I.turned (t':=s.toks) (fun b o hb e=>(sb.2 b hb).trans e) f0 f1 f3 f4 f5
  obtain ⟨o,e,c,d⟩:=id st'
  exact ⟨u,rfl,Zlk (s:={ s with heap:=h' }) e c d (by decide) ⟨x,H,I1,ru,⟨rfl,fun ys hy=>by rw [I.list_inj hy hq]; exact hx⟩,st',fun b hb=>(hf b hb).1⟩⟩
 done:=by
  intro X hP hw hK hc i pins s σ H E I hf st hg
  subst hP hw hK
  obtain ⟨xs,hq,hx⟩:=hg
  obtain ⟨its,rv,p,hz⟩:=I.list hq
  obtain ⟨f0,f1,f2,f3,f4,f5⟩:=hf it (by simp)
  have hl:=rv.length
  exact wpAny_pyNext_list_end (I.ok.hd hc) st p.isList (by simp; omega) fun h' eb=>⟨rfl,I.turned (t':=s.toks) (fun b o hb e=>eb b o hb e) f0 f1 f3 f4 f5⟩
 self:=fun _ _ _ _ _ st h=>wpAny_pyIter_listiter st h
theorem Zc5 {P:Program} {w:World} {K:W.Frag} {tg:Expr} (a it:Addr):Turn P w K tg (Itt K a) [it] it (fun i h=>h.IsTupleIter it a i) where
 mem:=by simp
 obj:=fun i h st b hb=>by
  have e:b=it:=by simpa using hb
  subst e
  obtain ⟨o,e,c,d⟩:=st
  exact ⟨o,e,fun v z=>by rw [d] at z; cases z⟩
 keep:=fun i h h' st k=>st.at fun o e=>k it (by simp) o e
 item:=by
  intro X hP hw hK hc i pins s σ H E I hf st hg
  subst hP hw hK
  obtain ⟨xs,x,hq,hx⟩:=hg
  obtain ⟨its,rv,p,hz⟩:=I.tuple hq
  obtain ⟨u,hu,ru⟩:=rv.get hx
  obtain ⟨f0,f1,f2,f3,f4,f5⟩:=hf it (by simp)
  refine wpAny_pyNext_tuple_item st (show s.heap.IsTuple a its.toArray from p) (x:=u) (by simpa using hu) fun h' st' sb=>?_
  have I1:Inv X pins σ H { s with heap:=h' }:=I.turned (t':=s.toks) (fun b o hb e=>(sb.2 b hb).trans e) f0 f1 f3 f4 f5
  obtain ⟨o,e,c,d⟩:=id st'
  exact ⟨u,rfl,Zlk (s:={ s with heap:=h' }) e c d (by decide) ⟨x,H,I1,ru,⟨rfl,fun ys hy=>by rw [I.tuple_inj hy hq]; exact hx⟩,st',fun b hb=>(hf b hb).1⟩⟩
 done:=by
  intro X hP hw hK hc i pins s σ H E I hf st hg
  subst hP hw hK
  obtain ⟨xs,hq,hx⟩:=hg
  obtain ⟨its,rv,p,hz⟩:=I.tuple hq
  obtain ⟨f0,f1,f2,f3,f4,f5⟩:=hf it (by simp)
  have hl:=rv.length
  exact wpAny_pyNext_tuple_end (I.ok.hd hc) st (show s.heap.IsTuple a its.toArray from p) (by simp; omega) fun h' eb=>⟨rfl,I.turned (t':=s.toks) (fun b o hb e=>eb b o hb e) f0 f1 f3 f4 f5⟩
 self:=fun _ _ _ _ _ st h=>wpAny_pyIter_tupleiter st h
theorem Zc6 {P:Program} {w:World} {K:W.Frag} {tg:Expr} (it:Addr) (lo:Int) (n:Nat):Turn P w K tg (Itr lo n) [it] it (fun i h=>IsRangeIter h it (lo + (i:Nat) * 1) ((n:Int) - (i:Nat)) 1) where
 mem:=by simp
 obj:=fun i h st b hb=>by
  have e:b=it:=by simpa using hb
  subst e
  exact ⟨_,st,fun v z=>by
   have z':Data.fields _=Data.cell v:=z
   cases z'⟩
 keep:=fun i h h' st k=>k it (by simp) _ st
 item:=by
  intro X hP hw hK hc i pins s σ H E I hf st hg
  subst hP hw hK
  obtain ⟨f0,f1,f2,f3,f4,f5⟩:=hf it (by simp)
  have W:=Walks.range (prog:=X.prog) (w:=X.w) (I.ok.hd hc) it lo 1 n
  refine W.item i s _ _ hg st fun v h' tk hv st' kk=>?_
  obtain ⟨t,rfl⟩:=hv
  have I1:Inv X pins σ H { s with heap:=h',toks:=tk }:=I.turned (fun b o hb e=>kk b o (by simpa using hb) e) f0 f1 f3 f4 f5
  refine ⟨_,rfl,Zlk (s:={ s with heap:=h',toks:=tk }) (n:="range_iterator") st' rfl rfl (by decide) ⟨.int (lo + i),H,I1,⟨t,?_⟩,⟨rfl,rfl⟩,st',fun b hb=>(hf b hb).1⟩⟩
  rw [Int.mul_one]
 done:=by
  intro X hP hw hK hc i pins s σ H E I hf st hg
  subst hP hw hK
  obtain ⟨f0,f1,f2,f3,f4,f5⟩:=hf it (by simp)
  exact wpAny_pyNext_range_end (I.ok.hd hc) st (by have:n<=i:=hg; omega) fun h' eb=>⟨rfl,I.turned (t':=s.toks) (fun b o hb e=>eb b o hb e) f0 f1 f3 f4 f5⟩
 self:=fun _ _ _ _ _ st h=>wpAny_pyIter_rangeiter st h
section
variable {X:Cx} {tg:Expr}
def Zou (K:W.Frag) (tl:TE):TI:=fun σ H R=>tl σ H fun x H1=>∃ a,x=.ref a/\(∃ xs,SqL K H1 a xs)/\R (Itl K a) H1
def iTup (K:W.Frag) (tl:TE):TI:=fun σ H R=>tl σ H fun x H1=>∃ a,x=.ref a/\(∃ xs,SqT K H1 a xs)/\R (Itt K a) H1
theorem Y0 {l:Expr} {tl:TE} (hl:PE X l tl):PI X tg l (Zou X.K tl):=by
 intro pins s σ H R I h
 refine thn (hl pins s σ H _ I h) fun v s1 ⟨x,H1,I1,r1,q1⟩=>?_
 obtain ⟨a,e,⟨xs,hq⟩,q⟩:=q1
 subst e
 cases r1
 obtain ⟨its,rv,p,hz⟩:=I1.list hq
 refine wpAny_pyIter_list p.isList ?_
 refine ⟨s1.heap.objs.size,[s1.heap.objs.size],_,_,H1,rfl,I1.kept (t':=s1.toks) fun b o e=>Heap.get?_push_of_some _ e,Zd9 a _,⟨_,Heap.get?_push_size _ rfl,rfl,rfl⟩,fun b hb=>?_,q⟩
 have e:b=s1.heap.objs.size:=by simpa using hb
 subst e
 exact I1.fpOk (Nat.le_refl _) (I1.hok.fresh (Nat.le_refl _))
theorem Ze8 {l:Expr} {tl:TE} (hl:PE X l tl):PI X tg l (iTup X.K tl):=by
 intro pins s σ H R I h
 refine thn (hl pins s σ H _ I h) fun v s1 ⟨x,H1,I1,r1,q1⟩=>?_
 obtain ⟨a,e,⟨xs,hq⟩,q⟩:=q1
 subst e
 cases r1
 obtain ⟨its,rv,p,hz⟩:=I1.tuple hq
 refine wpAny_pyIter_tuple (show s1.heap.IsTuple a its.toArray from p) ?_
 refine ⟨s1.heap.objs.size,[s1.heap.objs.size],_,_,H1,rfl,I1.kept (t':=s1.toks) fun b o e=>Heap.get?_push_of_some _ e,Zc5 a _,⟨_,Heap.get?_push_size _ rfl,rfl,rfl⟩,fun b hb=>?_,q⟩
 have e:b=s1.heap.objs.size:=by simpa using hb
 subst e
 exact I1.fpOk (Nat.le_refl _) (I1.hok.fresh (Nat.le_refl _))
theorem Zho {pins:List (Addr×Obj)} {σ:St} {H:Hp} {s:Shared} {R:It->Hp->Prop} {E:Value->Shared->Prop} {lo hi:Int} {t u v:Tok} {tk:Nat} (I:Inv X pins σ H s) (h1:-(2 ^ 62)<=lo) (h2:lo < 2 ^ 62) (h3:-(2 ^ 62)<=hi) (h4:hi < 2 ^ 62)
  (q:R (Itr lo (hi - lo).toNat) H):wpAny (model X.prog X.w) X.A (pyIter (.ref s.heap.objs.size)) (PIE X pins σ tg R) E { s with heap:=s.heap.push { cls:=.type "range",data:=.fields #[.int lo t,.int hi u,.int 1 v] },toks:=tk }:=by
 refine wpAny_pyIter_range (IsRange.new ..) (small_one h1 h2 h3 h4) ?_
 have I1:Inv X pins σ H { s with heap:=s.heap.push { cls:=.type "range",data:=.fields #[.int lo t,.int hi u,.int 1 v] },toks:=tk }:=I.kept fun b o e=>Heap.get?_push_of_some _ e
 refine ⟨(s.heap.push { cls:=.type "range",data:=.fields #[.int lo t,.int hi u,.int 1 v] }).objs.size,[(s.heap.push { cls:=.type "range",data:=.fields #[.int lo t,.int hi u,.int 1 v] }).objs.size],_,_,H,rfl,
  I1.kept (t':=tk) fun b o e=>Heap.get?_push_of_some _ e,Zc6 _ lo (hi - lo).toNat,?_,fun b hb=>?_,q⟩
 ·have e1:lo + ((0:Nat):Int) * 1=lo:=by simp
  have e2:(((hi - lo).toNat:Nat):Int) - ((0:Nat):Int)=Builtin.Range.rangeSize lo hi 1:=by rw [rangeSize_one]; split <;> omega
  show IsRangeIter _ _ (lo + ((0:Nat):Int) * 1) ((((hi - lo).toNat:Nat):Int) - ((0:Nat):Int)) 1
  rw [e1,e2]
  exact Heap.get?_push_size _ rfl
 ·have e:b=(s.heap.push { cls:=.type "range",data:=.fields #[.int lo t,.int hi u,.int 1 v] }).objs.size:=by simpa using hb
  subst e
  exact I1.fpOk (Nat.le_refl _) (I1.hok.fresh (Nat.le_refl _))
def Zot (ta:TA):TI:=fun σ H R=>ta σ H fun vs H1=>∃ j:Int,vs=[.int j]/\-(2 ^ 62)<=j/\j < 2 ^ 62/\R (Itr 0 j.toNat) H1
theorem Yh {a:Expr} {ta:TA} {p pos:Pos} (hg:Gl X "range") (hm:X.mg "range"=none) (ha:PA X [a] ta) (hs:starEach [a] X.env=[(false,eval a X.env)]:=by rfl):PI X tg (.Call (.Name "range" p) [a] [] pos) (Zot ta):=by
 intro pins s σ H R I h
 refine Call_ (S0 I hg hm boot_range (PyProof.Rows.callWith_type1 (thn (ha pos pins s σ H _ I h) fun us s1 ⟨vs,H1,I1,r1,q1⟩=>?_) hs rfl))
 obtain ⟨j,e,q1,q2,q⟩:=q1
 subst e
 cases r1 with
 | cons r rr =>
  cases rr
  obtain ⟨t,rfl⟩:=r
  exact call_range_1 (Zho I1 (by omega) (by omega) q1 q2 (by simpa using q))
def tFor (wi:TI) (g:TG) (tb:TS):TS:=fun D σ H=>wi σ H fun J H1=>∃ W:Nat->Nat->St->Hp->Prop,(∃ m,W 0 m σ H1)/\∀ i m σ H,W i m σ H ->
 (J.stop i H/\D.nx σ H)\/(J.go i H/\∃ N:St->Hp->Prop,(∀ σ' H',N σ' H'->∃ m',m' < m/\W (i + 1) m' σ' H')/\∀ x H',J.yld i H x H'->g x σ H' fun σ2 H2=>tb { D with nx:=N,ct:=N,bk:=D.nx } σ2 H2)
def No (fp:List Addr) (h:Heap):List (Addr×Obj):=fp.filterMap fun b=>(h.get? b).map fun o=>(b,o)
theorem Ui {fp:List Addr} {h:Heap} {b:Addr} {o:Obj} (hb:b∈fp) (e:h.get? b=some o):(b,o)∈No fp h:=List.mem_filterMap.mpr ⟨b,hb,by rw [e]; rfl⟩
theorem Zfo {fp:List Addr} {h:Heap} {p:Addr×Obj} (hp:p∈No fp h):p.1∈fp/\h.get? p.1=some p.2:=by
 obtain ⟨b,hb,e⟩:=List.mem_filterMap.mp hp
 cases q:h.get? b with
 | none=>rw [q] at e; cases e
 | some o =>
  rw [q] at e
  have e':(b,o)=p:=Option.some.inj e
  subst e'
  exact ⟨hb,q⟩
theorem Inv.pinned {pins:List (Addr×Obj)} {σ:St} {H:Hp} {s:Shared} {fp:List Addr} (I:Inv X pins σ H s) (hf:∀ b∈fp,FpOk X pins H b) (ho:∀ b∈fp,∃ o,s.heap.get? b=some o/\∀ v,o.data≠.cell v):Inv X (pins++No fp s.heap) σ H s :=
 I.pins_of fun p hp=>(List.mem_append.mp hp).elim (fun z=>I.pin p (List.mem_append_right _ z)) fun z=>by
  obtain ⟨hb,e⟩:=Zfo z
  obtain ⟨f0,f1,f2,_⟩:=hf p.1 hb
  obtain ⟨o,e',d⟩:=ho p.1 hb
  rw [e] at e'; cases e'
  exact ⟨e,f0,f1,f2,d⟩
theorem Inv.unpinned {pins pl:List (Addr×Obj)} {σ:St} {H:Hp} {s:Shared} (I:Inv X (pins++pl) σ H s):Inv X pins σ H s:=I.pins_of fun p hp=>I.pin p (List.mem_append_right _ (List.mem_append_left _ hp))
theorem Wf {iter:Expr} {body:List Stmt} {wi:TI} {g:TG} {tb:TS} {pos:Pos} (hp:PassesOwn (model X.prog X.w) X.A X.env X.xe) (hc:X.calm=true) (hi:PI X tg iter wi) (hg:PG X tg g) (hb:PSs X body tb)
  (hs:∀ x,foldedSetIterable iter X.env x=pure x:=by intro _; rfl):PS X (.For tg iter body [] pos) (tFor wi g tb):=by
 intro pins s σ H D I h
 refine wpAny_For (thn (hi pins s σ H _ I h) fun v s1 h1=>thn h1 fun itv s2 h2=>?_) hs
 obtain ⟨it,fp,tn,J,H2,e,I2,T,st2,f2,W,⟨m0,w0⟩,turn⟩:=h2
 subst e
 have stat:∀ {H':Hp},(∀ b∈fp,H' b=none)->∀ b∈fp,FpOk X pins H' b:=fun hn b hb=>⟨hn b hb,(f2 b hb).2⟩
 refine codeAny_forLoop_any (fun n s'=>∃ i σ' H',Inv X pins σ' H' s'/\tn i s'.heap/\(∀ b∈fp,H' b=none)/\W i n σ' H') ?_ m0 ⟨0,σ,H2,I2,st2,fun b hb=>(f2 b hb).1,w0⟩
 rintro n s3 ⟨i,σ3,H3,I3,st3,fr3,w3⟩
 rcases turn i n σ3 H3 w3 with ⟨stop,qn⟩ | ⟨go,N,hN,step⟩
 ·refine wpAny_passesOwn hp (thn (T.done X rfl rfl rfl hc i pins s3 σ3 H3 X.xe I3 (stat fr3) st3 stop) fun r s4 ⟨hr,I4⟩=>?_)
  subst hr
  exact wpAny_execs_nil ⟨σ3,H3,I4,qn⟩
 ·refine wpAny_passesOwn hp (thn (T.item X rfl rfl rfl hc i pins s3 σ3 H3 X.xe I3 (stat fr3) st3 go) fun r s4 ⟨u,hr,h4⟩=>?_)
  subst hr
  refine wpAny_passesOwn hp (thn h4 fun _ s5 ⟨x,H5,I5,r5,y5,st5,fr5⟩=>?_)
  have I5':=I5.pinned (stat fr5) (T.obj _ _ st5)
  refine wpAny_passesOwn hp (thn (hg _ s5 σ3 H5 x u _ I5' r5 (step x H5 y5)) fun _ s6 ⟨σ6,H6,I6,q6⟩=>?_)
  refine wpAny_passesOwn hp (thn (hb _ s6 σ6 H6 _ I6 q6) fun f s7 q7=>?_)
  have again:∀ {σ7:St} {H7:Hp},Inv X (pins++No fp s5.heap) σ7 H7 s7->N σ7 H7->∃ m,m < n/\∃ i σ' H',Inv X pins σ' H' s7/\tn i s7.heap/\(∀ b∈fp,H' b=none)/\W i m σ' H':=fun {σ7 H7} I7 n7=>by
   obtain ⟨m',hm,w7⟩:=hN σ7 H7 n7
   refine ⟨m',hm,i + 1,σ7,H7,I7.unpinned,T.keep _ _ _ st5 fun b hb o e=>(I7.pin (b,o) (List.mem_append_right _ (List.mem_append_right _ (Ui hb e)))).1,fun b hb=>?_,w7⟩
   obtain ⟨o,e,d⟩:=T.obj _ _ st5 b hb
   exact (I7.pin (b,o) (List.mem_append_right _ (List.mem_append_right _ (Ui hb e)))).2.1
  cases f with
  | next=>obtain ⟨σ7,H7,I7,n7⟩:=q7; exact again I7 n7
  | cont=>obtain ⟨σ7,H7,I7,n7⟩:=q7; exact again I7 n7
  | brk=>obtain ⟨σ7,H7,I7,q7⟩:=q7; exact ⟨σ7,H7,I7.unpinned,q7⟩
  | ret v=>obtain ⟨x7,σ7,H7,I7,r7,q7⟩:=q7; exact ⟨x7,σ7,H7,I7.unpinned,r7,q7⟩
end
theorem Zig {K:W.Frag} {a:Addr} {xs:List V} {g:TG} {tb:TS} {D:Ends} {σ:St} {H:Hp} (Pv:Nat->St->Hp->Prop) (h0:Pv 0 σ H) (hl:∀ i σ H,i<=xs.length->Pv i σ H->SqL K H a xs)
  (hs:∀ i x σ H,xs[i]?=some x->Pv i σ H->g x σ H fun σ2 H2=>tb { D with nx:=Pv (i + 1),ct:=Pv (i + 1),bk:=D.nx } σ2 H2) (hd:∀ σ H,Pv xs.length σ H->D.nx σ H) :
  ∃ W:Nat->Nat->St->Hp->Prop,(∃ m,W 0 m σ H)/\∀ i m σ H,W i m σ H ->
   ((Itl K a).stop i H/\D.nx σ H)\/((Itl K a).go i H/\∃ N:St->Hp->Prop,(∀ σ' H',N σ' H'->∃ m',m' < m/\W (i + 1) m' σ' H')/\∀ x H',(Itl K a).yld i H x H'->g x σ H' fun σ2 H2=>tb { D with nx:=N,ct:=N,bk:=D.nx } σ2 H2):=by
 refine ⟨fun i m σ H=>m=xs.length - i/\i<=xs.length/\Pv i σ H,⟨xs.length,by simp,Nat.zero_le _,h0⟩,?_⟩
 rintro i m σ H ⟨rfl,hi,p⟩
 have q:=hl i σ H hi p
 by_cases hlt:i < xs.length
 ·refine .inr ⟨⟨xs,xs[i],q,by simp [hlt]⟩,Pv (i + 1),fun σ' H' p'=>⟨xs.length - (i + 1),by omega,rfl,hlt,p'⟩,fun x H' y=>?_⟩
  obtain ⟨e,y⟩:=y
  subst e
  exact hs i x σ _ (y xs q) p
 ·have e:i=xs.length:=by omega
  subst e
  exact .inl ⟨⟨xs,q,Nat.le_refl _⟩,hd σ H p⟩
theorem Tc {lo:Int} {n:Nat} {g:TG} {tb:TS} {D:Ends} {σ:St} {H:Hp} (Pv:Nat->St->Hp->Prop) (h0:Pv 0 σ H)
  (hs:∀ i σ H,i < n->Pv i σ H->g (.int (lo + i)) σ H fun σ2 H2=>tb { D with nx:=Pv (i + 1),ct:=Pv (i + 1),bk:=D.nx } σ2 H2) (hd:∀ σ H,Pv n σ H->D.nx σ H) :
  ∃ W:Nat->Nat->St->Hp->Prop,(∃ m,W 0 m σ H)/\∀ i m σ H,W i m σ H ->
   ((Itr lo n).stop i H/\D.nx σ H)\/((Itr lo n).go i H/\∃ N:St->Hp->Prop,(∀ σ' H',N σ' H'->∃ m',m' < m/\W (i + 1) m' σ' H')/\∀ x H',(Itr lo n).yld i H x H'->g x σ H' fun σ2 H2=>tb { D with nx:=N,ct:=N,bk:=D.nx } σ2 H2):=by
 refine ⟨fun i m σ H=>m=n - i/\i<=n/\Pv i σ H,⟨n,by simp,Nat.zero_le _,h0⟩,?_⟩
 rintro i m σ H ⟨rfl,hi,p⟩
 by_cases hlt:i < n
 ·refine .inr ⟨hlt,Pv (i + 1),fun σ' H' p'=>⟨n - (i + 1),by omega,rfl,hlt,p'⟩,fun x H' y=>?_⟩
  obtain ⟨e,y⟩:=y
  subst e y
  exact hs i σ _ hlt p
 ·have e:i=n:=by omega
  subst e
  exact .inl ⟨Nat.le_refl _,hd σ H p⟩
abbrev R2:=V->V->Hp->VK->Prop
def OpR (X:Cx) (f:Value->Value->Sem Value) (r:R2):Prop :=
 ∀ (pins:List (Addr×Obj)) (s:Shared) (σ:St) (H:Hp) (x y:V) (v u:Value) (Q:VK),Inv X pins σ H s->RelV x v->RelV y u->r x y H Q ->
  wpAny (model X.prog X.w) X.A (f v u) (EP X pins σ Q) X.xe s
def UnR (X:Cx) (f:Value->Sem Value) (r:V->Hp->VK->Prop):Prop :=
 ∀ (pins:List (Addr×Obj)) (s:Shared) (σ:St) (H:Hp) (x:V) (v:Value) (Q:VK),Inv X pins σ H s->RelV x v->r x H Q ->
  wpAny (model X.prog X.w) X.A (f v) (EP X pins σ Q) X.xe s
def Vc (X:Cx) (f:Value) (r:List V->Hp->VK->Prop):Prop :=
 ∀ (pins:List (Addr×Obj)) (s:Shared) (σ:St) (H:Hp) (xs:List V) (us:List Value) (Q:VK),Inv X pins σ H s->Vals xs us->r xs H Q ->
  wpAny (model X.prog X.w) X.A (call f us) (EP X pins σ Q) X.xe s
def tOp (r:R2) (ta tb:TE):TE:=fun σ H Q=>ta σ H fun x H1=>tb σ H1 fun y H2=>r x y H2 Q
def tUn (r:V->Hp->VK->Prop) (ta:TE):TE:=fun σ H Q=>ta σ H fun x H1=>r x H1 Q
def rI (C:Int->Int->Prop) (g:Int->Int->V):R2:=fun x y H Q=>∃ i j,x=.int i/\y=.int j/\C i j/\Q (g i j) H
def rI0 (g:Int->Int->V):R2:=fun x y H Q=>∃ i j,x=.int i/\y=.int j/\Q (g i j) H
def rU (g:Int->V):V->Hp->VK->Prop:=fun x H Q=>∃ i,x=.int i/\Q (g i) H
section
variable {X:Cx} {a b:Expr} {ta tb:TE} {pos:Pos}
theorem binT (ha:PE X a ta) (hb:PE X b tb) {pins:List (Addr×Obj)} {s:Shared} {σ:St} {H:Hp} {R:V->V->Hp->Prop} (I:Inv X pins σ H s)
  (h:ta σ H fun x H1=>tb σ H1 fun y H2=>R x y H2) {Q:Value->Shared->Prop} {f:Value->Value->Sem Value}
  (hf:∀ v u s2 x y H2,Inv X pins σ H2 s2->RelV x v->RelV y u->R x y H2->wpAny (model X.prog X.w) X.A (f v u) Q X.xe s2) :
  wpAny (model X.prog X.w) X.A (eval a X.env) (fun v s₁=>wpAny (model X.prog X.w) X.A (eval b X.env) (fun u s₂=>wpAny (model X.prog X.w) X.A (f v u) Q X.xe s₂) X.xe s₁) X.xe s:=by
 refine thn (ha pins s σ H _ I h) fun v s1 ⟨x,H1,I1,r1,q1⟩=>?_
 refine thn (hb pins s1 σ H1 _ I1 q1) fun u s2 ⟨y,H2,I2,r2,q2⟩=>?_
 exact hf v u s2 x y H2 I2 r1 r2 q2
theorem Zz {op:Operator} {r:R2} (ho:OpR X (binaryOp op) r) (ha:PE X a ta) (hb:PE X b tb):PE X (.BinOp a op b pos) (tOp r ta tb):=by
 intro pins s σ H Q I h
 exact wpAny_BinOp (binT ha hb I h fun v u s2 x y H2 I2 rx ry q=>ho pins s2 σ H2 x y v u Q I2 rx ry q)
theorem Zku {op:UnaryOp} {r:V->Hp->VK->Prop} (ho:UnR X (unaryOp op) r) (ha:PE X a ta):PE X (.UnaryOp op a pos) (tUn r ta):=by
 intro pins s σ H Q I h
 exact UnaryOp_ (thn (ha pins s σ H _ I h) fun v s1 ⟨x,H1,I1,r1,q1⟩=>ho pins s1 σ H1 x v Q I1 r1 q1)
theorem opI {f:Value->Value->Sem Value} {C:Int->Int->Prop} {g:Int->Int->Int}
  (rule:∀ (i j:Int) (t u:Tok) (s:Shared) (Q:Value->Shared->Prop) (E:Value->Shared->Prop),C i j->Q (.int (g i j) s.toks) { s with toks:=s.toks + 1 }->wpAny (model X.prog X.w) X.A (f (.int i t) (.int j u)) Q E s) :
  OpR X f (rI C fun i j=>.int (g i j)):=by
 intro pins s σ H x y v u Q I rx ry h
 obtain ⟨i,j,rfl,rfl,hc,q⟩:=h
 obtain ⟨t,rfl⟩:=rx
 obtain ⟨t',rfl⟩:=ry
 exact rule i j t t' s _ _ hc ⟨.int (g i j),H,I.tok _,⟨_,rfl⟩,q⟩
theorem opI0 {f:Value->Value->Sem Value} {g:Int->Int->Int}
  (rule:∀ (i j:Int) (t u:Tok) (s:Shared) (Q:Value->Shared->Prop) (E:Value->Shared->Prop),Q (.int (g i j) s.toks) { s with toks:=s.toks + 1 }->wpAny (model X.prog X.w) X.A (f (.int i t) (.int j u)) Q E s) :
  OpR X f (rI0 fun i j=>.int (g i j)):=by
 intro pins s σ H x y v u Q I rx ry h
 obtain ⟨i,j,rfl,rfl,q⟩:=h
 obtain ⟨t,rfl⟩:=rx
 obtain ⟨t',rfl⟩:=ry
 exact rule i j t t' s _ _ ⟨.int (g i j),H,I.tok _,⟨_,rfl⟩,q⟩
theorem opB0 {f:Value->Value->Sem Value} {g:Int->Int->Bool}
  (rule:∀ (i j:Int) (t u:Tok) (s:Shared) (Q:Value->Shared->Prop) (E:Value->Shared->Prop),Q (.bool (g i j)) s->wpAny (model X.prog X.w) X.A (f (.int i t) (.int j u)) Q E s) :
  OpR X f (rI0 fun i j=>.bl (g i j)):=by
 intro pins s σ H x y v u Q I rx ry h
 obtain ⟨i,j,rfl,rfl,q⟩:=h
 obtain ⟨t,rfl⟩:=rx
 obtain ⟨t',rfl⟩:=ry
 exact rule i j t t' s _ _ ⟨.bl (g i j),H,I,rfl,q⟩
def CDiv (i j:Int):Prop:=0 < j/\j < 1073741824
def CPow (i j:Int):Prop:=0<=j/\j<=1000000/\i.natAbs < 2 ^ 64
def CMul (i j:Int):Prop:=(-(2 ^ 64) < i/\i < 2 ^ 64)\/(-(2 ^ 64) < j/\j < 2 ^ 64)
theorem CMul.ok {i j:Int} (h:CMul i j):IntMulOk i j:=by
 rcases h with ⟨h1,h2⟩ | ⟨h1,h2⟩
 ·exact .of_left (intBits_le_64 h1 h2)
 ·exact .of_right (intBits_le_64 h1 h2)
theorem Wp:OpR X (binaryOp .Add) (rI0 fun i j=>.int (i + j)):=opI0 fun _ _ _ _ _ _ _ q=>add_int q
theorem Zfk:OpR X (binaryOp .Sub) (rI0 fun i j=>.int (i - j)):=opI0 fun _ _ _ _ _ _ _ q=>sub_int q
theorem Vx:OpR X (binaryOp .Mult) (rI CMul fun i j=>.int (i * j)):=opI fun _ _ _ _ _ _ _ hc q=>mul_int q hc.ok
theorem Zfm:OpR X (binaryOp .FloorDiv) (rI CDiv fun i j=>.int (i / j)):=opI fun i j _ _ _ _ _ hc q=>by
 have h1:(0:Int) < j:=hc.1
 have h2:j < 1073741824:=hc.2
 exact floordiv_int (by omega) (by rw [Int.fdiv_eq_ediv_of_nonneg i (by omega)]; exact q) (.inl (PyProof.noPylong_small (by omega)))
theorem Y9:OpR X (binaryOp .Mod) (rI (fun _ j=>0 < j) fun i j=>.int (i % j)):=opI fun i j _ _ _ _ _ hc q=>by
 have h1:(0:Int) < j:=hc
 exact mod_int' (by omega) (by rw [Int.fmod_eq_emod_of_nonneg i (by omega)]; exact q)
theorem Zfl:OpR X (binaryOp .Pow) (rI CPow fun i j=>.int (i ^ j.toNat)):=opI fun _ _ _ _ _ _ _ hc q=>pow_int_small hc.1 hc.2.1 hc.2.2 q
theorem unI {f:Value->Sem Value} {g:Int->Int}
  (rule:∀ (i:Int) (t:Tok) (s:Shared) (Q:Value->Shared->Prop) (E:Value->Shared->Prop),Q (.int (g i) s.toks) { s with toks:=s.toks + 1 }->wpAny (model X.prog X.w) X.A (f (.int i t)) Q E s) :
  UnR X f (rU fun i=>.int (g i)):=by
 intro pins s σ H x v Q I rx h
 obtain ⟨i,rfl,q⟩:=h
 obtain ⟨t,rfl⟩:=rx
 exact rule i t s _ _ ⟨.int (g i),H,I.tok _,⟨_,rfl⟩,q⟩
theorem Zd6:UnR X (unaryOp .USub) (rU fun i=>.int (-i)):=unI fun _ _ _ _ _ q=>neg_int q
end
def scal:V->V->Bool
 | .non,.non=>true | .non,.int _=>true | .int _,.non=>true | .non,.bl _=>true | .bl _,.non=>true | .non,.str _=>true | .str _,.non=>true
 | .int _,.int _=>true | .bl _,.bl _=>true | .str _,.str _=>true | .byt _,.byt _=>true
 | .int _,.str _=>true | .str _,.int _=>true | .bl _,.str _=>true | .str _,.bl _=>true
 | _,_=>false
def rEq:R2:=fun x y H Q=>scal x y=true/\Q (.bl (decide (x=y))) H
def rNe:R2:=fun x y H Q=>scal x y=true/\Q (.bl (!decide (x=y))) H
theorem Zgg {i j:Int}:decide (V.int i=V.int j)=(i == j):=by
 rw [Bool.eq_iff_iff]
 simp
theorem Zjp {i j:Bool}:decide (V.bl i=V.bl j)=(i == j):=by
 rw [Bool.eq_iff_iff]
 simp
theorem Zgf {i j:Str}:decide (V.str i=V.str j)=(i == j):=by
 rw [Bool.eq_iff_iff]
 simp
theorem Zgh {i j:Array UInt8}:decide (V.byt i=V.byt j)=(i.toList == j.toList):=by
 rw [Bool.eq_iff_iff]
 cases i
 cases j
 simp
section
variable {X:Cx} {a b c:Expr} {ta tb:TE} {pos:Pos}
theorem Yp {pins:List (Addr×Obj)} {σ:St} {H:Hp} {s:Shared} {Q:VK} {k k':Bool} (I:Inv X pins σ H s) (q:Q (.bl k) H) (e:k=k'):EP X pins σ Q (.bool k') s:=by
 subst e
 exact ⟨.bl k,H,I,rfl,q⟩
theorem Zfn:OpR X (compareOp .Eq) rEq:=by
 intro pins s σ H x y v u Q I rx ry h
 obtain ⟨hs,q⟩:=h
 cases x with
 | non =>
  cases rx
  cases y with
  | non=>cases ry; exact PySem.EqNone.eq_none_none (Yp I q (by simp))
  | bl j=>cases ry; exact PySem.EqNone.eq_none_bool (Yp I q (by simp))
  | int j=>obtain ⟨t',rfl⟩:=ry; exact PySem.EqNone.eq_none_int (Yp I q (by simp))
  | str j=>obtain ⟨t',rfl⟩:=ry; exact PySem.EqNone.eq_none_str (Yp I q (by simp))
  | _=>exact absurd (show false=true from hs) Bool.false_ne_true
 | bl i =>
  cases rx
  cases y with
  | non=>cases ry; exact PySem.EqNone.eq_bool_none (Yp I q (by simp))
  | bl j=>cases ry; exact eq_bool (Yp I q Zjp)
  | str j=>obtain ⟨t',rfl⟩:=ry; exact PySem.EqMixed.eq_bool_str (Yp I q (by simp))
  | _=>exact absurd (show false=true from hs) Bool.false_ne_true
 | int i =>
  obtain ⟨t,rfl⟩:=rx
  cases y with
  | non=>cases ry; exact PySem.EqNone.eq_int_none (Yp I q (by simp))
  | int j=>obtain ⟨t',rfl⟩:=ry; exact eq_int (Yp I q Zgg)
  | str j=>obtain ⟨t',rfl⟩:=ry; exact PySem.EqMixed.eq_int_str (Yp I q (by simp))
  | _=>exact absurd (show false=true from hs) Bool.false_ne_true
 | str i =>
  obtain ⟨t,rfl⟩:=rx
  cases y with
  | non=>cases ry; exact PySem.EqNone.eq_str_none (Yp I q (by simp))
  | bl j=>cases ry; exact PySem.EqMixed.eq_str_bool (Yp I q (by simp))
  | int j=>obtain ⟨t',rfl⟩:=ry; exact PySem.EqMixed.eq_str_int (Yp I q (by simp))
  | str j=>obtain ⟨t',rfl⟩:=ry; exact eq_str (Yp I q Zgf)
  | _=>exact absurd (show false=true from hs) Bool.false_ne_true
 | byt i =>
  obtain ⟨t,rfl⟩:=rx
  cases y with
  | byt j=>obtain ⟨t',rfl⟩:=ry; exact W.eq_bytes (Yp I q Zgh)
  | _=>exact absurd (show false=true from hs) Bool.false_ne_true
 | _=>cases y <;> exact absurd (show false=true from hs) Bool.false_ne_true
theorem Zqt:OpR X (compareOp .NotEq) rNe:=by
 intro pins s σ H x y v u Q I rx ry h
 obtain ⟨hs,q⟩:=h
 cases x with
 | non =>
  cases rx
  cases y with
  | non=>cases ry; exact PySem.EqNone.ne_none_none (Yp I q (by simp))
  | bl j=>cases ry; exact PySem.EqNone.ne_none_bool (Yp I q (by simp))
  | int j=>obtain ⟨t',rfl⟩:=ry; exact PySem.EqNone.ne_none_int (Yp I q (by simp))
  | str j=>obtain ⟨t',rfl⟩:=ry; exact PySem.EqNone.ne_none_str (Yp I q (by simp))
  | _=>exact absurd (show false=true from hs) Bool.false_ne_true
 | bl i =>
  cases rx
  cases y with
  | non=>cases ry; exact PySem.EqNone.ne_bool_none (Yp I q (by simp))
  | bl j=>cases ry; exact ne_bool (Yp I q (congrArg not Zjp))
  | str j=>obtain ⟨t',rfl⟩:=ry; exact PySem.EqMixed.ne_bool_str (Yp I q (by simp))
  | _=>exact absurd (show false=true from hs) Bool.false_ne_true
 | int i =>
  obtain ⟨t,rfl⟩:=rx
  cases y with
  | non=>cases ry; exact PySem.EqNone.ne_int_none (Yp I q (by simp))
  | int j=>obtain ⟨t',rfl⟩:=ry; exact ne_int (Yp I q (congrArg not Zgg))
  | str j=>obtain ⟨t',rfl⟩:=ry; exact PySem.EqMixed.ne_int_str (Yp I q (by simp))
  | _=>exact absurd (show false=true from hs) Bool.false_ne_true
 | str i =>
  obtain ⟨t,rfl⟩:=rx
  cases y with
  | non=>cases ry; exact PySem.EqNone.ne_str_none (Yp I q (by simp))
  | bl j=>cases ry; exact PySem.EqMixed.ne_str_bool (Yp I q (by simp))
  | int j=>obtain ⟨t',rfl⟩:=ry; exact PySem.EqMixed.ne_str_int (Yp I q (by simp))
  | str j=>obtain ⟨t',rfl⟩:=ry; exact ne_str (Yp I q (congrArg not Zgf))
  | _=>exact absurd (show false=true from hs) Bool.false_ne_true
 | byt i =>
  obtain ⟨t,rfl⟩:=rx
  cases y with
  | byt j=>obtain ⟨t',rfl⟩:=ry; exact W.ne_bytes (Yp I q (congrArg not Zgh))
  | _=>exact absurd (show false=true from hs) Bool.false_ne_true
 | _=>cases y <;> exact absurd (show false=true from hs) Bool.false_ne_true
theorem Zh1:OpR X (compareOp .Lt) (rI0 fun i j=>.bl (decide (i < j))):=opB0 fun _ _ _ _ _ _ _ q=>lt_int q
theorem Nt:OpR X (compareOp .Gt) (rI0 fun i j=>.bl (decide (j < i))):=opB0 fun _ _ _ _ _ _ _ q=>gt_int q
theorem Zqu:OpR X (compareOp .GtE) (rI0 fun i j=>.bl (decide (j<=i))):=opB0 fun _ _ _ _ _ _ _ q=>ge_int q
theorem Z6 (b:Expr) {op:CmpOp} (h:op≠.In:=by decide) (h2:op≠.NotIn:=by decide):behindInMarks op b=false:=by
 have e1:(op == CmpOp.In)=false:=by cases op <;> first | rfl | exact absurd rfl h
 have e2:(op == CmpOp.NotIn)=false:=by cases op <;> first | rfl | exact absurd rfl h2
 cases b <;> simp [behindInMarks,e1,e2]
theorem Vw {op:CmpOp} {r:R2} (ho:OpR X (compareOp op) r) (ha:PE X a ta) (hb:PE X b tb) (hm:behindInMarks op b=false):PE X (.Compare a [op] [b] pos) (tOp r ta tb):=by
 intro pins s σ H Q I h
 exact wpAny_Compare1 (binT ha hb I h fun v u s2 x y H2 I2 rx ry q=>ho pins s2 σ H2 x y v u Q I2 rx ry q) hm
def Zm5 (t:TE):TT:=fun σ H Q=>t σ H fun x H'=>∃ k,x=.bl k/\Q k H'
theorem Z2 {op:CmpOp} {r:R2} (ho:OpR X (compareOp op) r) (ha:PE X a ta) (hb:PE X b tb) (hm:behindInMarks op b=false):PT X (.Compare a [op] [b] pos) (Zm5 (tOp r ta tb)):=by
 intro pins s σ H Q I h
 refine wpAny_isTrue_Compare1 (thn (ha pins s σ H _ I h) fun v s1 ⟨x,H1,I1,r1,q1⟩=>thn (hb pins s1 σ H1 _ I1 q1) fun u s2 ⟨y,H2,I2,r2,q2⟩ =>
  thn (ho pins s2 σ H2 x y v u _ I2 r1 r2 q2) fun c s3 ⟨z,H3,I3,r3,k,e,q3⟩=>?_) hm
 subst e
 cases r3
 exact wpAny_truthy_bool ⟨H3,I3,q3⟩
theorem Qm:(sizeLine:Nat) < 2 ^ 63:=by rw [sizeLine_eq]; decide
theorem Zdh:OpR X (binaryOp .Add) (fun x y H Q=>∃ i j,x=.str i/\y=.str j/\i.length + j.length<=sizeLine/\Q (.str (i++j)) H):=by
 intro pins s σ H x y v u Q I rx ry h
 obtain ⟨i,j,rfl,rfl,hz,q⟩:=h
 obtain ⟨t,rfl⟩:=rx
 obtain ⟨t',rfl⟩:=ry
 exact add_str (fun t' tk=>⟨.str (i++j),H,I.tok _,⟨_,rfl⟩,q⟩) hz
theorem Tj {x:V} {us:List Value} (r:Vals [x] us):∃ u,us=[u]/\RelV x u:=by
 cases r with
 | cons r1 r2=>cases r2; exact ⟨_,rfl,r1⟩
theorem Zha {x y:V} {us:List Value} (r:Vals [x,y] us):∃ u w',us=[u,w']/\RelV x u/\RelV y w':=by
 cases r with
 | cons r1 r2 =>
  cases r2 with
  | cons r3 r4=>cases r4; exact ⟨_,_,rfl,r1,r3⟩
theorem Zin:Vc X (.builtin "abs") (fun xs H Q=>∃ i,xs=[.int i]/\Q (.int (if i < 0 then -i else i)) H):=by
 intro pins s σ H xs us Q I r h
 obtain ⟨i,rfl,q⟩:=h
 obtain ⟨u,rfl,t,rfl⟩:=Tj r
 exact call_abs_int fun u tk=>⟨.int (if i < 0 then -i else i),H,I.tok _,⟨_,rfl⟩,q⟩
theorem Tf (hc:X.calm=true):Vc X (.builtin "max") (fun xs H Q=>∃ i j,xs=[.int i,.int j]/\Q (.int (if j > i then j else i)) H):=by
 intro pins s σ H xs us Q I r h
 obtain ⟨i,j,rfl,q⟩:=h
 obtain ⟨u,w',rfl,⟨t,rfl⟩,⟨t',rfl⟩⟩:=Zha r
 refine max_two_ints (I.ok.hd hc) fun h' tk k=>⟨_,H,I.kept k,?_,q⟩
 by_cases hj:j > i
 ·rw [if_pos hj,if_pos hj]; exact ⟨_,rfl⟩
 ·rw [if_neg hj,if_neg hj]; exact ⟨_,rfl⟩
theorem Zgv (hc:X.calm=true):Vc X (.builtin "min") (fun xs H Q=>∃ i j,xs=[.int i,.int j]/\Q (.int (if j < i then j else i)) H):=by
 intro pins s σ H xs us Q I r h
 obtain ⟨i,j,rfl,q⟩:=h
 obtain ⟨u,w',rfl,⟨t,rfl⟩,⟨t',rfl⟩⟩:=Zha r
 refine min_two_ints (I.ok.hd hc) fun h' tk k=>⟨_,H,I.kept k,?_,q⟩
 by_cases hj:j < i
 ·rw [if_pos hj,if_pos hj]; exact ⟨_,rfl⟩
 ·rw [if_neg hj,if_neg hj]; exact ⟨_,rfl⟩
theorem Zaf:Vc X (.type "int") (fun xs H Q=>(∃ i,xs=[.int i]/\Q (.int i) H)\/∃ k,xs=[.bl k]/\Q (.int (if k then 1 else 0)) H):=by
 intro pins s σ H xs us Q I r h
 rcases h with ⟨i,rfl,q⟩ | ⟨k,rfl,q⟩
 ·obtain ⟨u,rfl,t,rfl⟩:=Tj r
  exact call_int_int ⟨.int i,H,I,⟨_,rfl⟩,q⟩
 ·obtain ⟨u,rfl,r1⟩:=Tj r
  cases r1
  exact call_int_bool ⟨.int (if k then 1 else 0),H,I.tok _,⟨_,rfl⟩,q⟩
def LenV (K:W.Frag) (x:V) (H:Hp) (n:Nat):Prop :=
 match x with
 | .str y=>y.length<=sizeLine/\n=y.length
 | .byt y=>y.size<=sizeLine/\n=y.size
 | .ref p=>(∃ xs,SqL K H p xs/\n=xs.length)\/∃ xs,SqT K H p xs/\n=xs.length
 | _=>False
theorem Xp:Vc X (.builtin "len") (fun xs H Q=>∃ x n,xs=[x]/\LenV X.K x H n/\Q (.int n) H):=by
 intro pins s σ H xs us Q I r h
 obtain ⟨x,n,rfl,e,q⟩:=h
 obtain ⟨u,rfl,rx⟩:=Tj r
 have hl:=Qm
 have hs:sizeLine=16777216:=sizeLine_eq
 cases x with
 | str y =>
  obtain ⟨t,rfl⟩:=rx
  obtain ⟨hy,e'⟩:y.length<=sizeLine/\n=y.length:=e
  subst e'
  exact len_str (by omega) ⟨.int _,H,I.tok _,⟨_,rfl⟩,q⟩
 | byt y =>
  obtain ⟨t,rfl⟩:=rx
  obtain ⟨hy,e'⟩:y.size<=sizeLine/\n=y.size:=e
  subst e'
  exact W.len_bytes (by omega) ⟨.int _,H,I.tok _,⟨_,rfl⟩,q⟩
 | ref p =>
  cases rx
  have e':(∃ xs,SqL X.K H p xs/\n=xs.length)\/∃ xs,SqT X.K H p xs/\n=xs.length:=e
  rcases e' with ⟨xs,hx,e'⟩ | ⟨xs,hx,e'⟩
  ·subst e'
   obtain ⟨its,r',pl,hz⟩:=I.list hx
   have hlen:=r'.length
   exact Calls.call_len_list pl.isList (by simp only [List.size_toArray]; omega) ⟨.int xs.length,H,I.tok _,⟨_,by simp only [List.size_toArray]; rw [hlen]⟩,q⟩
  ·subst e'
   obtain ⟨its,r',pl,hz⟩:=I.tuple hx
   have hlen:=r'.length
   exact len_tuple pl (by simp only [List.size_toArray]; omega) ⟨.int xs.length,H,I.tok _,⟨_,by simp only [List.size_toArray]; rw [hlen]⟩,q⟩
 | _=>exact (show False from e).elim
end
structure ObjM (h:Heap) (x dx C:Addr) (mA:Str->Option Value):Prop where
 obj:h.get? x=some (W.instObj C dx)
 ns:h.Ns1 dx mA
 ne:dx≠x
theorem Zft {h:Heap} {dx:Addr} {mA:Str->Option Value} (n:h.Ns1 dx mA):∃ od,h.get? dx=some od/\∀ name,W.lookIn name od=some (mA name):=by
 obtain ⟨o,es,ep,ho,hd,hk,_,hm⟩:=n
 refine ⟨o,ho,fun name=>?_⟩
 have e:=hm name
 unfold nsFind findBy at e
 rw [<- Array.find?_toList] at e
 unfold W.lookIn
 rw [hd]
 dsimp only
 split
 ·rename_i y q
  rw [q] at e
  exact congrArg some e
 ·rename_i q
  rw [q] at e
  have a:es.toList.any (·.refKey)=false:=by
   rw [List.any_eq_false]
   intro y hy
   obtain ⟨z,t,hkey⟩:=hk y (Array.mem_toList_iff.mp hy)
   simp [DictEntry.refKey,hkey]
  have a':¬ es.toList.any (·.refKey)=true:=by rw [a]; exact Bool.false_ne_true
  rw [if_neg a']
  exact congrArg some e
theorem ObjM.look {h:Heap} {x dx C:Addr} {mA:Str->Option Value} (I:ObjM h x dx C mA):∃ od,W.InstAt h x (W.instObj C dx) C (some od)/\∀ name,W.lookIn name od=some (mA name) :=
 let ⟨od,ho,hl⟩:=Zft I.ns
 ⟨od,⟨I.obj,rfl,rfl,ho⟩,hl⟩
section
variable {prog:Program} {w:World} {A:Around} {E:Value->Shared->Prop} {s:Shared} {K:W.Frag} {x dx C f:Addr} {mA:Str->Option Value} {name:Str} {v:Value}
theorem Zll {expr:Bool} {Q:Value->Shared->Prop} (X:K.In s.heap) (I:ObjM s.heap x dx C mA) (hg:W.plainGet K C name=true) (hh:W.hasDictIn K C=true)
  (ha:W.findIn K (.ref C) name=some none) (hv:mA name=some v) (hv':W.handedIn v=true) (h:Q v { s with toks:=s.toks + 1 }) :
  wpAny (model prog w) A (getAttr (.ref x) name expr) Q E s:=by
 obtain ⟨od,J,hl⟩:=I.look
 exact W.get_value X J (W.plainGet_of hg).1 (W.findObj_own hh ha rfl (by rw [hl,hv])) hv' h
theorem Zif {pl:Sem Bool} {Q:Value×List Value->Shared->Prop} (X:K.In s.heap) (I:ObjM s.heap x dx C mA) (hg:W.plainGet K C name=true)
  (hf:W.findIn K (.ref C) name=some (some (.ref f))) (ht:W.isFn K (.ref f)=true) (hv:mA name=none) (h:Q (.ref f,[.ref x]) s) :
  wpAny (model prog w) A (getMethod (.ref x) name pl) Q E s:=by
 obtain ⟨od,J,hl⟩:=I.look
 exact W.method_fn X J (W.plainGet_of hg).1 (W.plainGet_of hg).2 hf (beq_iff_eq.mp ht) (by show (W.lookIn name od).map (·.isSome)=some false; rw [hl,hv]; rfl) h
theorem Zkb {ns:List Str} {Q:Unit->Shared->Prop} (X:K.In s.heap) (I:ObjM s.heap x dx C mA)
  (hs:W.findIn K (.ref C) "__setattr__"=some (some (.builtin "object.__setattr__"))) (hp:W.plainOver K C=true) (ht:W.takerIn K C name=some none) (hh:W.hasDictIn K C=true)
  (hw:PySem.Within mA ns) (hsz:ns.length<=sizeLine)
  (h:∀ h',ObjM h' x dx C (fun y=>if y=name then some v else mA y)->Heap.SameBut dx s.heap h'->Q () { s with heap:=h',toks:=s.toks + 2 }) :
  wpAny (model prog w) A (setAttr (.ref x) name v) Q E s:=by
 obtain ⟨od,J,hl⟩:=I.look
 refine W.set_plain X J hs (W.osa_open (s:={ s with toks:=s.toks + 1 }) (r:=none) X J hp ht fun b=>?_)
 obtain ⟨cd,hc,hd'⟩:=W.any_some hh
 have hx:s.heap.get? x=some ⟨.ref C,some dx,.plain,#[]⟩:=I.obj
 refine wpAny_bind (wpAny_pure (wpAny_bind (wpAny_bind (wpAny_loadPart hx (wpAny_bind (W.Looks.here (s:={ s with toks:=s.toks + 1 }) (W.looks_clsIn X hc) ?_))))))
 rw [hd']
 refine wpAny_pure (a:=some dx) (wpAny_bind (wpAny_pure (wpAny_bind ?_)))
 refine wpAny_nsSet1 (s:={ s with toks:=s.toks + 1 }) I.ns fun h' hn2 hs2=>?_
 obtain ⟨oD,esD,epD,hoD,hdD,hcD⟩:=hn2.count (PySem.Within.cons name v hw)
 refine wpAny_bind (wpAny_lookBehind hoD (by rw [hdD]; exact pastItsLine_dict (Nat.le_trans hcD (by rw [List.length_cons]; omega))) ?_)
 exact wpAny_pure (h _ ⟨(hs2.2 _ (Ne.symm I.ne)).trans I.obj,hn2,I.ne⟩ hs2)
theorem Zh6 {R:Result->Shared->Prop} {vs:List Value} {kw:List (Str×Value)} (X:K.In s.heap) (hm:W.makesIn K C=true)
  (hi:W.findIn K (.ref C) "__init__"=some (some (.ref f))) (hf:W.typeIn K (.ref f)=some (.type "function"))
  (h:codeAny (model prog w) (A.under (.builtin "type.__call__" ⟨.ref C::vs,kw⟩)) (.call (.ref f) ⟨.ref (s.heap.objs.size + 1)::vs,kw⟩) (W.InitBack (s.heap.objs.size + 1) R)
   { s with heap:=(s.heap.push W.emptyDict).push (W.instObj C s.heap.objs.size) }) :
  codeAny (model prog w) A (.call (.ref C) ⟨vs,kw⟩) R s:=by
 obtain ⟨hh,g,d,t,os⟩:=s
 exact W.make_core (W.makes_of X hm) (W.looks_findIn X hi) (fun self=>W.bind_fn X self hf) (.inl rfl) h
end
def putF (f:Str) (v:V):List (Str×V)->List (Str×V)
 | []=>[(f,v)]
 | (g,x)::r=>if g=f then (g,v)::r else (g,x)::putF f v r
theorem Uw (f g:Str) (v:V):∀ fs:List (Str×V),(putF f v fs).lookup g=if g=f then some v else fs.lookup g
 | []=>by
  show List.lookup g [(f,v)]=_
  by_cases h:g=f
  ·have hb:(g == f)=true:=beq_iff_eq.mpr h
   simp only [List.lookup,hb,if_pos h]
  ·have hb:(g == f)=false:=beq_eq_false_iff_ne.mpr h
   simp only [List.lookup,hb,if_neg h]
 | (k,x)::r=>by
  have ih:=Uw f g v r
  rw [show putF f v ((k,x)::r)=(if k=f then (k,v)::r else (k,x)::putF f v r) from rfl]
  by_cases hk:k=f
  ·rw [if_pos hk]
   by_cases h:g=k
   ·have hb:(g == k)=true:=beq_iff_eq.mpr h
    simp only [List.lookup,hb,if_pos (h.trans hk)]
   ·have hb:(g == k)=false:=beq_eq_false_iff_ne.mpr h
    simp only [List.lookup,hb,if_neg (fun e:g=f=>h (e.trans hk.symm))]
  ·rw [if_neg hk]
   by_cases h:g=k
   ·have hb:(g == k)=true:=beq_iff_eq.mpr h
    simp only [List.lookup,hb,if_neg (fun e:g=f=>hk (h.symm.trans e))]
   ·have hb:(g == k)=false:=beq_eq_false_iff_ne.mpr h
    simp only [List.lookup,hb]
    exact ih
theorem V1 (f:Str) (v:V):∀ fs:List (Str×V),f∈(putF f v fs).map (·.1)/\∀ g,g∈fs.map (·.1)->g∈(putF f v fs).map (·.1)
 | []=>⟨by simp [putF],fun g h=>by simp at h⟩
 | (k,x)::r=>by
  obtain ⟨i1,i2⟩:=V1 f v r
  rw [show putF f v ((k,x)::r)=(if k=f then (k,v)::r else (k,x)::putF f v r) from rfl]
  by_cases hk:k=f
  ·rw [if_pos hk]
   subst hk
   exact ⟨by simp,fun g h=>by simpa using h⟩
  ·rw [if_neg hk]
   refine ⟨?_,fun g h=>?_⟩
   ·rw [List.map_cons]
    exact List.mem_cons_of_mem _ i1
   ·rw [List.map_cons] at h ⊢
    rcases List.mem_cons.mp h with e | e
    ·exact List.mem_cons.mpr (.inl e)
    ·exact List.mem_cons_of_mem _ (i2 g e)
theorem Sy (f:Str) (v:V):∀ fs:List (Str×V),(putF f v fs).length<=fs.length + 1
 | []=>by simp [putF]
 | (k,x)::r=>by
  have ih:=Sy f v r
  rw [show putF f v ((k,x)::r)=(if k=f then (k,v)::r else (k,x)::putF f v r) from rfl]
  by_cases hk:k=f
  ·rw [if_pos hk,List.length_cons,List.length_cons]; omega
  ·rw [if_neg hk,List.length_cons,List.length_cons]; omega
theorem RelO.some_of {v:V} {o:Option Value} (r:RelO (some v) o):∃ u,o=some u/\RelV v u:=by
 cases o with
 | none=>exact (show False from r).elim
 | some u=>exact ⟨u,rfl,r⟩
theorem RelO.none_of {o:Option Value} (r:RelO none o):o=none:=by
 cases o with
 | none=>rfl
 | some u=>exact (show False from r).elim
theorem Zga {v:V} {u:Value} (r:RelV v u):W.handedIn u=true:=by
 cases v with
 | non=>cases (show u=Value.none from r); rfl
 | bl b=>cases (show u=Value.bool b from r); rfl
 | int i=>obtain ⟨t,e⟩:=(show ∃ t,u=Value.int i t from r); cases e; rfl
 | str x=>obtain ⟨t,e⟩:=(show ∃ t,u=Value.str x t from r); cases e; rfl
 | byt b=>obtain ⟨t,e⟩:=(show ∃ t,u=Value.bytes b t from r); cases e; rfl
 | flt b=>obtain ⟨t,e⟩:=(show ∃ t,u=Value.float b t from r); cases e; rfl
 | ref a=>cases (show u=Value.ref a from r); rfl
 | ty n=>cases (show u=Value.type n from r); rfl
section
variable {P:Program} {w:World} {H:Hp} {h:Heap} {a C dx:Addr} {fs:List (Str×V)}
theorem Pb (hok:HOk P w H h) (e:H a=some (.ins C dx fs)):∃ mA,ObjM h a dx C mA/\(∀ f,RelO (fs.lookup f) (mA f))/\PySem.Within mA (fs.map (·.1))/\fs.length<=1000/\H dx=some (.own a):=by
 obtain ⟨d,z,ne,ob,mA,n,r,q⟩:=(show Y3 P w H h a (.ins C dx fs) from hok a _ e)
 exact ⟨mA,⟨ob,n,ne⟩,r,q,z,d⟩
end
structure Cls (K:W.Frag) (C:Addr):Prop where
 pg:W.plainGet K C Str.empty=true
 hd:W.hasDictIn K C=true
 po:W.plainOver K C=true
 sa:W.findIn K (.ref C) "__setattr__"=some (some (.builtin "object.__setattr__"))
theorem Cls.get {K:W.Frag} {C:Addr} (c:Cls K C) (f:Str):W.plainGet K C f=true:=c.pg
def Yo (K:W.Frag) (C:Addr) (f:Str):Prop:=W.findIn K (.ref C) f=some none
theorem Yo.taker {K:W.Frag} {C:Addr} {f:Str} (n:Yo K C f):W.takerIn K C f=some none:=by
 unfold W.takerIn
 rw [show W.findIn K (.ref C) f=some none from n]
 rfl
structure Con (K:W.Frag) (C:Addr) (f:Str) (v:V) (u:Value):Prop where
 at_:W.findIn K (.ref C) f=some (some u)
 rel:RelV v u
 get:W.specialIn K u "__get__"=some none
 cp:W.copiedNames.contains f=false
structure Meth (K:W.Frag) (C:Addr) (m:Str) (f:Addr):Prop where
 at_:W.findIn K (.ref C) m=some (some (.ref f))
 fn:W.isFn K (.ref f)=true
 kp:W.keepIn K (.ref f)=true
section
variable {X:Cx} {pins:List (Addr×Obj)} {σ:St} {H:Hp} {s:Shared} {a C dx:Addr} {fs:List (Str×V)} {f:Str} {v:V} {A:Around} {E:Value->Shared->Prop}
theorem Zds {b:Bool} {Q:Value->Shared->Prop} (I:Inv X pins σ H s) (e:H a=some (.ins C dx fs)) (c:Cls X.K C) (n:Yo X.K C f) (l:fs.lookup f=some v)
  (h:∀ u s',Inv X pins σ H s'->RelV v u->Q u s'):wpAny (model X.prog X.w) A (getAttr (.ref a) f b) Q E s:=by
 obtain ⟨mA,O,r,_,_,_⟩:=Pb I.hok e
 obtain ⟨u,hu,ru⟩:=RelO.some_of (v:=v) (o:=mA f) (by rw [<- l]; exact r f)
 exact Zll I.kIn O (c.get f) c.hd n hu (Zga ru) (h u _ (I.tok _) ru)
theorem Qo {m:Str} {g:Addr} {pl:Sem Bool} {Q:Value×List Value->Shared->Prop} (I:Inv X pins σ H s) (e:H a=some (.ins C dx fs)) (c:Cls X.K C) (k:Meth X.K C m g) (l:fs.lookup m=none)
  (h:Q (.ref g,[.ref a]) s):wpAny (model X.prog X.w) A (getMethod (.ref a) m pl) Q E s:=by
 obtain ⟨mA,O,r,_,_,_⟩:=Pb I.hok e
 have hn:mA m=none:=RelO.none_of (by rw [<- l]; exact r m)
 exact Zif I.kIn O (c.get m) k.at_ k.fn hn h
theorem Zdb {y:V} {u:Value} {Q:Unit->Shared->Prop} (I:Inv X pins σ H s) (e:H a=some (.ins C dx fs)) (c:Cls X.K C) (n:Yo X.K C f) (hl:fs.length < 1000) (ry:RelV y u)
  (h:∀ s',Inv X pins σ (upd H a (.ins C dx (putF f y fs))) s'->Q () s'):wpAny (model X.prog X.w) A (setAttr (.ref a) f u) Q E s:=by
 obtain ⟨mA,O,r,wi,_,ho⟩:=Pb I.hok e
 have hz:(fs.map (·.1)).length<=sizeLine:=by rw [List.length_map,sizeLine_eq]; omega
 refine Zkb I.kIn O c.sa c.po n.taker c.hd wi hz fun h' O' sb=>h _ ?_
 have hd:∃ o,h'.get? dx=some o:=let ⟨o,_,_,e',_⟩:=O'.ns; ⟨o,e'⟩
 refine I.write (x:=a) (e:=dx) (by rw [e]; exact True.intro) (.inr ho) (fun b q hb z=>(sb.2 b hb).trans z) hd ?_
 refine ⟨by rw [Zm O.ne]; exact ho,?_,O.ne,O'.obj,_,O'.ns,fun g=>?_,fun g hg=>?_⟩
 ·have:=Sy f y fs; omega
 ·show RelO ((putF f y fs).lookup g) (if g=f then some u else mA g)
  rw [Uw]
  by_cases q:g=f
  ·rw [if_pos q,if_pos q]; exact ry
  ·rw [if_neg q,if_neg q]; exact r g
 ·by_cases q:g=f
  ·rw [q]; exact (V1 f y fs).1
  ·refine (V1 f y fs).2 g (wi g fun z=>hg ?_)
   show (if g=f then some u else mA g)=none
   rw [if_neg q]; exact z
theorem Inv.made (I:Inv X pins σ H s):Inv X pins σ (upd (upd H s.heap.objs.size (.own (s.heap.objs.size + 1))) (s.heap.objs.size + 1) (.ins C s.heap.objs.size []))
  { s with heap:=(s.heap.push W.emptyDict).push (W.instObj C s.heap.objs.size) }:=by
 have e1:(s.heap.push W.emptyDict).get? s.heap.objs.size=some W.emptyDict:=Heap.get?_push_size s.heap rfl
 have e2:((s.heap.push W.emptyDict).push (W.instObj C s.heap.objs.size)).get? (s.heap.objs.size + 1)=some (W.instObj C s.heap.objs.size):=by
  have:=Heap.get?_push_size (s.heap.push W.emptyDict) (o:=W.instObj C s.heap.objs.size) rfl
  rwa [Heap.size_push] at this
 have e3:(s.heap.push W.emptyDict).Ns s.heap.objs.size (fun _=>none):=⟨W.emptyDict,#[],_,e1,rfl,(fun e he=>absurd he (by simp)),fun _=>rfl⟩
 have I1:=I.laid (a:=s.heap.objs.size) (o:=.own (s.heap.objs.size + 1)) (h':=s.heap.push W.emptyDict) (t':=s.toks) (fun b u q=>Heap.get?_push_of_some _ q) (Nat.le_refl _) ⟨_,e1⟩
 refine I1.laid (a:=s.heap.objs.size + 1) (o:=.ins C s.heap.objs.size []) (t':=s.toks) (fun b u q=>Heap.get?_push_of_some _ q) (Nat.le_of_eq (Heap.size_push _ _)) ?_
 have ne:s.heap.objs.size≠s.heap.objs.size + 1:=Nat.ne_of_lt (Nat.lt_succ_self _)
 refine ⟨by rw [Zm ne,Zg],Nat.zero_le _,ne,e2,fun _=>none,(Heap.Ns1.of_empty e3).at fun o q=>Heap.get?_push_of_some _ q,fun _=>True.intro,fun y hy=>absurd rfl hy⟩
theorem Zl7 {prog:Program} {w:World} {env:Env} {e:Expr} {f:Str} {pos:Pos} {s:Shared} {Q:Value->Shared->Prop} (hb:attributeBase e f env (eval e env)=eval e env)
  (h:wpAny (model prog w) A (eval e env) (fun o s₁=>wpAny (model prog w) A (getAttr o f true) Q E s₁) E s):wpAny (model prog w) A (eval (.Attribute e f pos) env) Q E s :=
 Attribute_any_ h (by rw [arm_eval_Attribute,hb])
end
def tFld (K:W.Frag) (ta:TE) (f:Str):TE:=fun σ H Q=>ta σ H fun x H1=>∃ a C dx fs v,x=.ref a/\H1 a=some (.ins C dx fs)/\Cls K C/\Yo K C f/\fs.lookup f=some v/\Q v H1
def sFld (K:W.Frag) (ta tv:TE) (f:Str):TS:=fun D σ H=>tv σ H fun y H1=>ta σ H1 fun x H2=>∃ a C dx fs,x=.ref a/\H2 a=some (.ins C dx fs)/\Cls K C/\Yo K C f/\fs.length < 1000 /\
 D.nx σ (upd H2 a (.ins C dx (putF f y fs)))
section
variable {X:Cx} {o e value:Expr} {f:Str} {pos pos':Pos} {ta tv:TE}
theorem Ww (he:PE X e ta) (hb:attributeBase e f X.env (eval e X.env)=eval e X.env):PE X (.Attribute e f pos) (tFld X.K ta f):=by
 intro pins s σ H Q I h
 refine Zl7 hb (thn (he pins s σ H _ I h) fun u s1 ⟨x,H1,I1,rx,a,C,dx,fs,v,ex,ea,c,n,l,q⟩=>?_)
 subst ex
 obtain rfl:u=Value.ref a:=rx
 exact Zds I1 ea c n l fun u' s2 I2 ru=>⟨v,H1,I2,ru,q⟩
theorem Sq (ha:PE X o ta) (hv:PE X value tv) (hs:swapsWith value (some (.Attribute o f pos')) pos.line X.env=pure false):PS X (.Assign [.Attribute o f pos'] value pos) (sFld X.K ta tv f):=by
 intro pins s σ H D I h
 refine plainObj_wpAny_Assign_Attribute (thn (hv pins s σ H _ I h) fun u s1 ⟨y,H1,I1,ry,q⟩=>thn (ha pins s1 σ H1 _ I1 q) fun ov s2 ⟨x,H2,I2,rx,a,C,dx,fs,ex,ea,c,n,l,q2⟩=>?_) hs
 subst ex
 obtain rfl:ov=Value.ref a:=rx
 exact Zdb I2 ea c n l ry fun s3 I3=>⟨σ,_,I3,q2⟩
end
section
variable {X:Cx} {pins:List (Addr×Obj)} {σ:St} {H:Hp} {s:Shared} {A:Around} {E:Value->Shared->Prop} {Q:Value->Shared->Prop} {c:Value} {b:Bool}
inductive TyOf (K:W.Frag) (H:Hp):V->Value->Prop where
 | non:TyOf K H .non (.type "NoneType")
 | bl (x:Bool):TyOf K H (.bl x) (.type "bool")
 | int (i:Int):TyOf K H (.int i) (.type "int")
 | str (x:Str):TyOf K H (.str x) (.type "str")
 | flt (x:UInt64):TyOf K H (.flt x) (.type "float")
 | lst {a:Addr} {xs:List V} (e:H a=some (.lst xs)):TyOf K H (.ref a) (.type "list")
 | frz {a:Addr} {o:Obj} {xs:List V} (e:H a=some (.frz o (.lst xs))):TyOf K H (.ref a) (.type "list")
 | tup {a:Addr} {xs:List V} (e:H a=some (.tup xs)):TyOf K H (.ref a) (.type "tuple")
 | dK {a:Addr} {kvs:List (Key×V)} (e:H a=some (.dK kvs)):TyOf K H (.ref a) (.type "dict")
 | dT {a:Addr} {kvs:List (List Key×V)} (e:H a=some (.dT kvs)):TyOf K H (.ref a) (.type "dict")
 | ins {a C dx:Addr} {fs:List (Str×V)} (e:H a=some (.ins C dx fs)) (cl:Cls K C) (ha:W.findIn K (.ref C) "__class__"=some (some (.builtin "object.__class__")))
   (hn:W.specialIn K (.builtin "object.__class__") "__get__"=some (some (.builtin "getset_descriptor.__get__"))) (htk:W.takesIn K (.builtin "object.__class__")=some true)
   (hm:W.mroIn K C (.type "object")=some true):TyOf K H (.ref a) (.ref C)
theorem Zf2 {x:V} {u t:Value} (I:Inv X pins σ H s) (rx:RelV x u) (ty:TyOf X.K H x t) (e:W.kitOne X.K t c=some b) (h:∀ tk,Q (.bool b) { s with toks:=tk }) :
  wpAny (model X.prog X.w) A (call (.builtin "isinstance") [u,c]) Q E s:=by
 cases ty with
 | non=>cases (show u=Value.none from rx); exact W.kia_one W.kitx_none I.kIn True.intro e (fun z=>nomatch z) h
 | bl y=>cases (show u=Value.bool y from rx); exact W.kia_one W.kitx_bool I.kIn True.intro e (fun z=>nomatch z) h
 | int i=>obtain ⟨t,q⟩:=(show ∃ t,u=Value.int i t from rx); cases q; exact W.kia_one W.kitx_int I.kIn True.intro e (fun z=>nomatch z) h
 | str y=>obtain ⟨t,q⟩:=(show ∃ t,u=Value.str y t from rx); cases q; exact W.kia_one W.kitx_str I.kIn True.intro e (fun z=>nomatch z) h
 | flt y=>obtain ⟨t,q⟩:=(show ∃ t,u=Value.float y t from rx); cases q; exact W.kia_one W.kitx_float I.kIn True.intro e (fun z=>nomatch z) h
 | @lst a xs ea =>
  cases (show u=Value.ref a from rx)
  obtain ⟨_,_,n,_,h1⟩:=(show Y3 X.prog X.w H s.heap a (.lst xs) from I.hok a _ ea)
  exact W.kia_one W.kitx_list I.kIn ⟨_,h1,rfl⟩ e (fun z=>nomatch z) h
 | @frz a ob xs ea =>
  cases (show u=Value.ref a from rx)
  obtain ⟨_,_,_,n,_,h1⟩:=(show Y3 X.prog X.w H s.heap a (.frz ob (.lst xs)) from I.hok a _ ea)
  exact W.kia_one W.kitx_list I.kIn ⟨_,h1,rfl⟩ e (fun z=>nomatch z) h
 | @tup a xs ea =>
  cases (show u=Value.ref a from rx)
  obtain ⟨_,_,_,p⟩:=(show Y3 X.prog X.w H s.heap a (.tup xs) from I.hok a _ ea)
  obtain ⟨o,h1,h2,_⟩:=p
  exact W.kia_one W.kitx_tuple I.kIn ⟨o,h1,h2⟩ e (fun z=>nomatch z) h
 | @dK a kvs ea =>
  cases (show u=Value.ref a from rx)
  obtain ⟨_,_,vs,_,p⟩:=(show Y3 X.prog X.w H s.heap a (.dK kvs) from I.hok a _ ea)
  obtain ⟨o,es,ep,h1,h2,_⟩:=p
  exact W.kia_one W.kitx_dict I.kIn ⟨o,h1,h2.1⟩ e (fun z=>nomatch z) h
 | @dT a kvs ea =>
  cases (show u=Value.ref a from rx)
  obtain ⟨_,_,xs,_,o,es,ep,h1,h2,_⟩:=(show Y3 X.prog X.w H s.heap a (.dT kvs) from I.hok a _ ea)
  exact W.kia_one W.kitx_dict I.kIn ⟨o,h1,h2.1⟩ e (fun z=>nomatch z) h
 | @ins a C dx fs ea cl ha hn htk hm =>
  cases (show u=Value.ref a from rx)
  obtain ⟨mA,O,_⟩:=Pb I.hok ea
  obtain ⟨od,J,_⟩:=O.look
  exact W.kia_one (W.kitx_own (cl.get _) cl.hd ha hn htk hm) I.kIn J e (fun z=>nomatch z) h
end
structure Room (k:Nat) (A:Around):Prop where
 hd:A.handled=none
 dp:A.depth + 3 * k + 5 < recursionLimit
 un:A.units + 16 * k + 200 < cLine
theorem Room.mono {j k:Nat} {A:Around} (r:Room k A) (h:j<=k):Room j A:=⟨r.hd,by have:=r.dp; omega,by have:=r.un; omega⟩
theorem Room.deeper {k:Nat} {A:Around} (r:Room (k + 1) A) (env:Env):Room k (A.deeper env) :=
 ⟨r.hd,by have:=r.dp; show A.depth + 1 + 3 * k + 5 < _; omega,by have:=r.un; show A.units + 3 + 16 * k + 200 < _; omega⟩
theorem Room.in1 {k:Nat} {A:Around} (r:Room (k + 1) A):Room k A.in1 :=
 ⟨r.hd,by have:=r.dp; show A.depth + 3 * k + 5 < _; omega,by have:=r.un; show A.units + 1 + 16 * k + 200 < _; omega⟩
theorem Zdo {A:Around} {C:Addr} {us:List Value} {kw:List (Str×Value)}:(A.under (.builtin "type.__call__" ⟨.ref C::us,kw⟩)).depth=A.depth + 1:=by
 first | rfl | simp [Around.under,Code.weight,Code.isCreation,Code.isGuard,Code.isCaller,Code.frames,Code.isFrame,guardIds]
theorem Zdn {A:Around} {C:Addr} {us:List Value} {kw:List (Str×Value)}:(A.under (.builtin "type.__call__" ⟨.ref C::us,kw⟩)).units=A.units + 1:=by
 first | rfl | simp [Around.under,Code.cUnits,Code.frames,Code.isFrame]
theorem Room.make {k:Nat} {A:Around} (r:Room (k + 1) A) (C:Addr) (us:List Value) (kw:List (Str×Value)):Room k (A.under (.builtin "type.__call__" ⟨.ref C::us,kw⟩)) :=
 ⟨r.hd,by have:=r.dp; rw [Zdo]; omega,by have:=r.un; rw [Zdn]; omega⟩
theorem Room.depth {k:Nat} {A:Around} (r:Room k A):A.depth < recursionLimit:=by have:=r.dp; omega
theorem Room.units {k:Nat} {A:Around} (r:Room k A):A.units + 64 < cLine:=by have:=r.un; omega
def tNil:TA:=fun _ H Q=>Q [] H
def Zef (ta:TE) (tr:TA):TA:=fun σ H Q=>ta σ H fun x H1=>tr σ H1 fun xs H2=>Q (x::xs) H2
section
variable {X:Cx} {e:Expr} {es:List Expr} {te:TE} {t:TA} {pos:Pos}
theorem Zd:PA X [] tNil:=fun _ _ _ _ H Q I h=>Calls.spliced_nil ⟨[],H,I,.nil,h⟩
theorem Za (ha:PE X e te) (hr:PA X es t) (hs:starEach (e::es) X.env=(false,eval e X.env)::starEach es X.env:=by rfl):PA X (e::es) (Zef te t):=by
 intro pos pins s σ H Q I h
 rw [hs]
 show wpAny _ _ (spliced ((false,eval e X.env)::backTo pos (starEach es X.env))) _ _ s
 refine Calls.spliced_cons (thn (ha pins s σ H _ I h) fun u s1 ⟨x,H1,I1,r1,q1⟩=>?_)
 exact thn (hr pos pins s1 σ H1 _ I1 q1) fun us s2 ⟨xs,H2,I2,r2,q2⟩=>⟨x::xs,H2,I2,.cons r1 r2,q2⟩
def tTup (t:TA):TE:=fun σ H Q=>t σ H fun xs H1=>xs.length<=sizeLine/\∀ p,H1 p=none->Q (.ref p) (upd H1 p (.tup xs))
def tLst (t:TA):TE:=fun σ H Q=>t σ H fun xs H1=>xs.length<=sizeLine/\∀ p,H1 p=none->Q (.ref p) (upd H1 p (.lst xs))
theorem W7 {x1} (h:PA X es t):PE X (.Tuple es x1 pos) (tTup t):=by
 intro pins s σ H Q I hq
 refine wpAny_Tuple_spliced (thn (h pos pins s σ H _ I hq) fun us s1 ⟨xs,H1,I1,r,z,q⟩=>⟨by rw [<- r.length]; exact z,?_⟩)
 have hf:H1 s1.heap.objs.size=none:=I1.hok.fresh (Nat.le_refl _)
 refine ⟨.ref s1.heap.objs.size,upd H1 s1.heap.objs.size (.tup xs),I1.laid (t':=s1.toks) (fun b u e=>Heap.get?_push_of_some _ e) (Nat.le_refl _) ?_,rfl,q _ hf⟩
 exact ⟨z,us,r,⟨_,Heap.get?_push_size _ rfl,rfl,_,rfl,rfl⟩⟩
theorem Y8 (h:PA X es t):PE X (.List es pos) (tLst t):=by
 intro pins s σ H Q I hq
 refine wpAny_List_spliced (thn (h pos pins s σ H _ I hq) fun us s1 ⟨xs,H1,I1,r,z,q⟩=>⟨by rw [<- r.length]; exact z,?_⟩)
 have hf:H1 s1.heap.objs.size=none:=I1.hok.fresh (Nat.le_refl _)
 refine ⟨.ref s1.heap.objs.size,upd H1 s1.heap.objs.size (.lst xs),I1.laid (t':=s1.toks) (fun b u e=>Heap.get?_push_of_some _ e) (Nat.le_refl _) ?_,rfl,q _ hf⟩
 exact ⟨z,us,0,r,Heap.get?_push_size _ rfl⟩
end
abbrev Sp:=List V->Hp->VK->XK->Prop
abbrev CXT:=List Env->Hp->Shared->XK->Value->Shared->Prop
structure Env0 (P:Program) (w:World) (K:W.Frag) (mg:Str->Option Value) (base:Heap) (A:Around) (outer:List Env) (s:Shared) (H:Hp):Prop where
 frames:A.frames=some outer
 mod:Mod K mg base
 bs:∀ b o,base.get? b=some o->s.heap.get? b=some o/\H b=none
 bsz:base.objs.size<=s.heap.objs.size
 funs:s.heap.FunFrames base outer
 frf:∀ b∈frs outer,H b=none
 hok:HOk P w H s.heap
 bare:AllBare s.gens
def CE (outer:List Env) (P:Program) (w:World) (H:Hp) (s:Shared) (Q:VK) (u:Value) (s':Shared):Prop :=
 ∃ v H',s'.os=s.os/\AllBare s'.gens/\Un (frs outer) [] H H' s.heap s'.heap/\HOk P w H' s'.heap/\RelV v u/\Q v H'
def CR (CX:CXT) (outer:List Env) (P:Program) (w:World) (H:Hp) (s:Shared) (Q:VK) (E:XK) (r:Result) (s':Shared):Prop :=
 match r with
 | .ok (.ret u)=>CE outer P w H s Q u s'
 | .ok _=>False
 | .error e=>CX outer H s E e s'
structure FnOk (P:Program) (w:World) (K:W.Frag) (mg:Str->Option Value) (base:Heap) (CX:CXT) (k:Nat) (f:Addr) (fd:FuncData) (ps:List Str) (sp:Sp):Prop where
 len:∀ vs H Q E,sp vs H Q E->vs.length=ps.length
 run:∀ (A:Around) (outer:List Env) (s:Shared) (H:Hp) (args:Args) (us:List Value) (vs:List V) (Q:VK) (E:XK),Room k A->Env0 P w K mg base A outer s H->BindsTo s fd args (ps.zip us)->Vals vs us->sp vs H Q E ->
  codeAny (model P w) A (.call (.ref f) args) (CR CX outer P w H s Q E) s
theorem FnOk.imp {P:Program} {w:World} {K:W.Frag} {mg:Str->Option Value} {base:Heap} {CX:CXT} {k:Nat} {f:Addr} {fd:FuncData} {ps:List Str} {sp sp':Sp} (F:FnOk P w K mg base CX k f fd ps sp)
  (h:∀ vs H Q E,sp' vs H Q E->sp vs H Q E):FnOk P w K mg base CX k f fd ps sp' :=
 ⟨fun vs H Q E q=>F.len vs H Q E (h _ _ _ _ q),fun A outer s H args us vs Q E hr he hb hv hs=>F.run A outer s H args us vs Q E hr he hb hv (h _ _ _ _ hs)⟩
theorem Env0.make {P:Program} {w:World} {K:W.Frag} {mg:Str->Option Value} {base:Heap} {A:Around} {outer:List Env} {s:Shared} {H:Hp} (e:Env0 P w K mg base A outer s H) (C:Addr) (us:List Value) (kw:List (Str×Value)) :
  Env0 P w K mg base (A.under (.builtin "type.__call__" ⟨.ref C::us,kw⟩)) outer s H:=⟨by first | exact e.frames | (simpa [Around.under,Code.envs,Code.isFrame,pushEnvs] using e.frames),e.mod,e.bs,e.bsz,e.funs,e.frf,e.hok,e.bare⟩
theorem Env0.in1 {P:Program} {w:World} {K:W.Frag} {mg:Str->Option Value} {base:Heap} {A:Around} {outer:List Env} {s:Shared} {H:Hp} (e:Env0 P w K mg base A outer s H) :
  Env0 P w K mg base A.in1 outer s H:=⟨e.frames,e.mod,e.bs,e.bsz,e.funs,e.frf,e.hok,e.bare⟩
section
variable {X:Cx} {pins:List (Addr×Obj)} {σ:St} {H:Hp} {s s':Shared}
theorem Inv.env0 (I:Inv X pins σ H s):Env0 X.prog X.w X.K X.mg X.base X.A X.stack s H :=
 ⟨I.ok.frames,I.ok.mod,I.bs,Nat.le_trans I.ok.bsz I.sz,I.stack,I.stkFree,I.hok,I.bare⟩
theorem Inv.after {Q:VK} {u:Value} (I:Inv X pins σ H s) (h:CE X.stack X.prog X.w H s Q u s'):EP X pins σ Q u s':=by
 obtain ⟨v,H',os,bare,un,hok,r,q⟩:=h
 obtain ⟨hh,g,d,t,os'⟩:=s'
 obtain rfl:os'=s.os:=os
 exact ⟨v,H',I.call (h':=hh) (g':=g) (d':=d) (t':=t) (ch:=[]) un hok bare (fun b z=>absurd z (by simp)),r,q⟩
end
def Zeh (sp:Sp) (dvs:List V) (E:XK) (t:TA):TE:=fun σ H Q=>t σ H fun vs H1=>sp (vs++dvs) H1 Q E
def Zc8 (C:Addr) (m:Str) (sp:Sp) (dvs:List V) (E:XK) (ta:TE) (t:TA):TE:=fun σ H Q=>ta σ H fun x H1=>∃ a dx fs,x=.ref a/\H1 a=some (.ins C dx fs)/\fs.lookup m=none /\
 t σ H1 fun vs H2=>sp (x::(vs++dvs)) H2 Q E
def Zc9 (C:Addr) (sp:Sp) (dvs:List V) (E:XK) (t:TA):TE:=fun σ H Q=>t σ H fun vs H1=>∀ x dx,H1 x=none->H1 dx=none->dx≠x ->
 sp (.ref x::(vs++dvs)) (upd (upd H1 dx (.own x)) x (.ins C dx [])) (fun v H2=>v=.non/\Q (.ref x) H2) E
def Vn (K:W.Frag) (fd:FuncData) (ps:List Str) (ds:List Value):Prop :=
 ∀ (s:Shared) (us:List Value),K.In s.heap->(us++ds).length=ps.length->BindsTo s fd ⟨us,[]⟩ (ps.zip (us++ds))
theorem Vn.all {K:W.Frag} {fd:FuncData} {ps:List Str} (h:∀ us:List Value,us.length=ps.length->bindArgs fd ⟨us,[]⟩=pure (ps.zip us)):Vn K fd ps []:=fun s us _ hl=>by
 rw [List.append_nil] at hl ⊢
 exact .of_eq (h us hl)
def Ur (CX:CXT) (X:Cx) (E:XK):Prop:=∀ (pins:List (Addr×Obj)) (σ:St) (H:Hp) (s:Shared) (e:Value) (s':Shared),Inv X pins σ H s->CX X.stack H s E e s'->X.xe e s'
section
variable {X:Cx} {CX:CXT} {k:Nat} {f C:Addr} {fd:FuncData} {ps:List Str} {sp:Sp} {dvs:List V} {ds:List Value} {E:XK} {x m:Str} {p pos apos:Pos} {e o:Expr} {es:List Expr} {ta:TE} {t:TA}
theorem Zjc {pins:List (Addr×Obj)} {σ:St} {H:Hp} {s:Shared} {Q:VK} {us:List Value} {vs:List V} (F:FnOk X.prog X.w X.K X.mg X.base CX k f fd ps sp) (hr:Room k X.A) (hb:Vn X.K fd ps ds) (hd:Vals dvs ds) (hx:Ur CX X E)
  (I:Inv X pins σ H s) (r:Vals vs us) (h:sp (vs++dvs) H Q E):wpAny (model X.prog X.w) X.A (call (.ref f) us) (EP X pins σ Q) X.xe s:=by
 have r2:Vals (vs++dvs) (us++ds):=r.append hd
 have hl:(us++ds).length=ps.length:=by rw [<- r2.length]; exact F.len _ _ _ _ h
 refine wpAny_call (codeAny_mono (F.run X.A X.stack s H ⟨us,[]⟩ (us++ds) (vs++dvs) Q E hr I.env0 (hb s us I.kIn hl) r2 h) fun r s' hq=>?_)
 cases r with
 | error e=>exact hx pins σ H s e s' I hq
 | ok fl =>
  cases fl with
  | ret u=>exact I.after hq
  | next=>exact False.elim hq
  | brk=>exact False.elim hq
  | cont=>exact False.elim hq
theorem Zfg (F:FnOk X.prog X.w X.K X.mg X.base CX k f fd ps sp) (hr:Room k X.A) (hg:Gl X x) (hm:X.mg x=some (.ref f)) (hk:W.keepIn X.K (.ref f)=true) (hb:Vn X.K fd ps ds) (hd:Vals dvs ds) (hx:Ur CX X E)
  (ha:PA X (e::es) t) (hdb:(x == ("__debug__":Str))=false:=by decide) (he:starEach (e::es) X.env=(false,eval e X.env)::starEach es X.env:=by rfl) (hpl:(backTo pos (starEach es X.env)).any (·.1)=false:=by rfl) :
  PE X (.Call (.Name x p) (e::es) [] pos) (Zeh sp dvs E t):=by
 intro pins s σ H Q I h
 refine wpAny_Call_Name_kw (Sz I hg hm ?_ hdb)
 refine W.callWith_K (h₀:=X.base) I.ok.mod.kin hk (thn (ha pos pins s σ H _ I h) fun us s1 ⟨vs,H1,I1,r,q⟩=>⟨I1.kIn,?_⟩) he hpl
 exact Zjc F hr hb hd hx I1 r q
theorem Zfe {pl:Sem Bool} (he:PE X o ta) (c:Cls X.K C) (hm:Meth X.K C m f) (F:FnOk X.prog X.w X.K X.mg X.base CX k f fd ps sp) (hr:Room k X.A) (hb:Vn X.K fd ps ds) (hd:Vals dvs ds) (hx:Ur CX X E) (ha:PA X (e::es) t)
  (hst:starEach (e::es) X.env=(false,eval e X.env)::starEach es X.env:=by rfl) (hpl:(backTo pos (starEach es X.env)).any (·.1)=false:=by rfl)
  (ht:eval (.Call (.Attribute o m apos) (e::es) [] pos) X.env=(do
   let ov <- eval o X.env
   standAt apos.atName
   let (f,first) <- holding [ov] (getMethod ov m pl)
   callWith pos f first (backTo pos (starEach (e::es) X.env)) (backToKw pos (keywordEach [] X.env))):=by rfl) :
  PE X (.Call (.Attribute o m apos) (e::es) [] pos) (Zc8 C m sp dvs E ta t):=by
 intro pins s σ H Q I h
 refine W.methodCall_KW (pl:=pl) (thn (he pins s σ H _ I h) fun u s1 ⟨x,H1,I1,rx,a,dx,fs,ex,ea,l,q⟩=>?_) ht
 subst ex
 obtain rfl:u=Value.ref a:=rx
 refine Qo I1 ea c hm l ?_
 refine W.callWith_K (first:=[.ref a]) (h₀:=X.base) I.ok.mod.kin hm.kp (thn (ha pos pins s1 σ H1 _ I1 q) fun us s2 ⟨vs,H2,I2,r,q2⟩=>⟨I2.kIn,?_⟩) hst hpl
 exact Zjc (us:=.ref a::us) (vs:=.ref a::vs) F hr hb hd hx I2 (.cons rfl r) q2
structure Mk (K:W.Frag) (C f:Addr):Prop where
 makes:W.makesIn K C=true
 init:W.findIn K (.ref C) "__init__"=some (some (.ref f))
 fn:W.isFn K (.ref f)=true
 kp:W.keepIn K (.ref C)=true
theorem Zb8 {pins:List (Addr×Obj)} {σ:St} {H:Hp} {s:Shared} {Q:VK} {us:List Value} {vs:List V} (M:Mk X.K C f) (F:FnOk X.prog X.w X.K X.mg X.base CX k f fd ps sp) (hr:Room (k + 1) X.A) (hb:Vn X.K fd ps ds) (hd:Vals dvs ds)
  (hx:Ur CX X E) (I:Inv X pins σ H s) (r:Vals vs us)
  (h:∀ x dx,H x=none->H dx=none->dx≠x->sp (.ref x::(vs++dvs)) (upd (upd H dx (.own x)) x (.ins C dx [])) (fun v H2=>v=.non/\Q (.ref x) H2) E) :
  wpAny (model X.prog X.w) X.A (call (.ref C) us) (EP X pins σ Q) X.xe s:=by
 have hq:=h (s.heap.objs.size + 1) s.heap.objs.size (I.hok.fresh (Nat.le_succ _)) (I.hok.fresh (Nat.le_refl _)) (Nat.ne_of_lt (Nat.lt_succ_self _))
 have I2:=Inv.made (C:=C) I
 have r2:Vals (V.ref (s.heap.objs.size + 1)::(vs++dvs)) (Value.ref (s.heap.objs.size + 1)::(us++ds)):=.cons rfl (r.append hd)
 have hl:(Value.ref (s.heap.objs.size + 1)::us++ds).length=ps.length:=by
  have e:=r2.length
  rw [F.len _ _ _ _ hq] at e
  exact e.symm
 refine wpAny_call (Zh6 (f:=f) I.kIn M.makes M.init (beq_iff_eq.mp M.fn) (codeAny_mono (F.run _ X.stack _ _ ⟨Value.ref (s.heap.objs.size + 1)::us,[]⟩ (Value.ref (s.heap.objs.size + 1)::(us++ds)) _ _ E (hr.make C us [])
  (I2.env0.make C us []) (hb _ (Value.ref (s.heap.objs.size + 1)::us) I2.kIn hl) r2 hq) fun r s' hq'=>?_))
 cases r with
 | error e=>exact hx pins σ _ _ e s' I2 hq'
 | ok fl =>
  cases fl with
  | ret u =>
   obtain ⟨v,H',I3,rv,ev,q3⟩:=I2.after hq'
   subst ev
   exact ⟨rv,⟨V.ref (s.heap.objs.size + 1),H',I3,rfl,q3⟩⟩
  | next=>exact False.elim hq'
  | brk=>exact False.elim hq'
  | cont=>exact False.elim hq'
theorem Zkw (M:Mk X.K C f) (F:FnOk X.prog X.w X.K X.mg X.base CX k f fd ps sp) (hr:Room (k + 1) X.A) (hg:Gl X x) (hm:X.mg x=some (.ref C)) (hb:Vn X.K fd ps ds) (hd:Vals dvs ds) (hx:Ur CX X E)
  (ha:PA X (e::es) t) (hdb:(x == ("__debug__":Str))=false:=by decide) (he:starEach (e::es) X.env=(false,eval e X.env)::starEach es X.env:=by rfl) (hpl:(backTo pos (starEach es X.env)).any (·.1)=false:=by rfl) :
  PE X (.Call (.Name x p) (e::es) [] pos) (Zc9 C sp dvs E t):=by
 intro pins s σ H Q I h
 refine wpAny_Call_Name_kw (Sz I hg hm ?_ hdb)
 refine W.callWith_K (h₀:=X.base) I.ok.mod.kin M.kp (thn (ha pos pins s σ H _ I h) fun us s1 ⟨vs,H1,I1,r,q⟩=>⟨I1.kIn,?_⟩) he hpl
 exact Zb8 M F hr hb hd hx I1 r q
theorem Zhx (M:Mk X.K C f) (F:FnOk X.prog X.w X.K X.mg X.base CX k f fd ps sp) (hr:Room (k + 1) X.A) (hg:Gl X x) (hm:X.mg x=some (.ref C)) (hb:Vn X.K fd ps ds) (hd:Vals dvs ds) (hx:Ur CX X E)
  (hdb:(x == ("__debug__":Str))=false:=by decide):PE X (.Call (.Name x p) [] [] pos) (Zc9 C sp dvs E tNil):=by
 intro pins s σ H Q I h
 refine wpAny_Call_Name_kw (Sz I hg hm ?_ hdb)
 exact W.callWith_K0 I.kIn M.kp (Zb8 (us:=[]) M F hr hb hd hx I .nil h)
end
def PK (X:Cx) (kws:List Keyword) (t:TA):Prop :=
 ∀ (pos:Pos) (pins:List (Addr×Obj)) (s:Shared) (σ:St) (H:Hp) (Q:List V->Hp->Prop),Inv X pins σ H s->t σ H Q->wpAny (model X.prog X.w) X.A (evalAll ((backToKw pos (keywordEach kws X.env)).map (·.2))) (AP X pins σ Q) X.xe s
section
variable {X:Cx} {fd:FuncData} {ps ks:List Str} {x:Str} {pos kpos:Pos} {e:Expr} {kws:List Keyword} {te:TE} {t:TA} {nm:Option Str}
theorem Znz:PK X [] tNil:=fun _ _ _ _ H Q I h=>wpAny_evalAll_nil ⟨[],H,I,.nil,h⟩
theorem Zks (ha:PE X e te) (hr:PK X kws t):PK X (⟨nm,e,kpos⟩::kws) (Zef te t):=by
 intro pos pins s σ H Q I h
 show wpAny _ _ (evalAll ((do let v <- eval e X.env; standAt pos; pure v)::(backToKw pos (keywordEach kws X.env)).map (·.2))) _ _ s
 refine wpAny_evalAll_cons (wpAny_bind (thn (ha pins s σ H _ I h) fun u s1 ⟨x,H1,I1,r1,q1⟩=>wpAny_bind (wpAny_standAt (wpAny_pure ?_))))
 exact thn (hr pos pins s1 σ H1 _ I1 q1) fun us s2 ⟨xs,H2,I2,r2,q2⟩=>⟨x::xs,H2,I2,.cons r1 r2,q2⟩
structure KBinds (K:W.Frag) (fd:FuncData) (ps ks:List Str) (g:List Value->List Value->List Value) (gV:List V->List V->List V):Prop where
 to:∀ (s:Shared) (us ws:List Value),K.In s.heap->(g us ws).length=ps.length->BindsTo s fd ⟨us,ks.zip ws⟩ (ps.zip (g us ws))
 rel:∀ {vs:List V} {us:List Value} {zs:List V} {ws:List Value},Vals vs us->Vals zs ws->Vals (gV vs zs) (g us ws)
variable {g:List Value->List Value->List Value} {gV:List V->List V->List V}
end
structure FnScope (N P:List Str) (sc:Scope):Prop where
 kind:sc.kind=.function
 co:sc.isCoroutine=false
 gen:sc.isGenerator=false
 nd:N.Nodup
 pre:N.take P.length=P
 par:∀ x∈P,sc.names.lookup x=some .local\/sc.names.lookup x=some .cell
 nofree:∀ y∈sc.names,y.2≠.free
theorem Zah {kindOf:Str->Option NameKind} {x:Str}:∀ {binds:List (Str×Value)} {m:Str->Option Value},(∀ v,(x,v)∉binds)->bindL kindOf binds m x=m x
 | [],_,_=>rfl
 | (n,v)::r,m,h=>by
  unfold bindL
  rw [Zah fun w hw=>h w (List.mem_cons_of_mem _ hw)]
  split
  ·have:x≠n:=by rintro rfl; exact h v List.mem_cons_self
   simp [this]
  ·rfl
theorem Zaj {kindOf:Str->Option NameKind} {x:Str}:∀ {binds:List (Str×Value)} {m:Str->Option Value},(∀ v,(x,v)∉binds)->bindC kindOf binds m x=m x
 | [],_,_=>rfl
 | (n,v)::r,m,h=>by
  unfold bindC
  rw [Zaj fun w hw=>h w (List.mem_cons_of_mem _ hw)]
  split
  ·rfl
  ·have:x≠n:=by rintro rfl; exact h v List.mem_cons_self
   simp [this]
theorem Zai {kindOf:Str->Option NameKind} {x:Str} {v:Value}:∀ {P:List Str} {vs:List Value} {i:Nat} {m:Str->Option Value},P.Nodup->P[i]?=some x->vs[i]?=some v->kindOf x=some .local ->
  bindL kindOf (P.zip vs) m x=some v
 | [],_,_,_,_,h,_,_=>by simp at h
 | _::_,[],_,_,_,_,h,_=>by simp at h
 | p::P,w::vs,0,m,nd,h1,h2,hk=>by
  simp at h1 h2; subst h1; subst h2
  show bindL kindOf ((p,w)::P.zip vs) m p=_
  unfold bindL
  rw [Zah fun v hv=>(List.nodup_cons.mp nd).1 (List.of_mem_zip hv).1,if_pos hk]
  simp
 | p::P,w::vs,i + 1,m,nd,h1,h2,hk=>by
  show bindL kindOf ((p,w)::P.zip vs) m x=_
  unfold bindL
  exact Zai (i:=i) (List.nodup_cons.mp nd).2 (by simpa using h1) (by simpa using h2) hk
theorem Zak {kindOf:Str->Option NameKind} {x:Str} {v:Value}:∀ {P:List Str} {vs:List Value} {i:Nat} {m:Str->Option Value},P.Nodup->P[i]?=some x->vs[i]?=some v->kindOf x≠some .local ->
  bindC kindOf (P.zip vs) m x=some v
 | [],_,_,_,_,h,_,_=>by simp at h
 | _::_,[],_,_,_,_,h,_=>by simp at h
 | p::P,w::vs,0,m,nd,h1,h2,hk=>by
  simp at h1 h2; subst h1; subst h2
  show bindC kindOf ((p,w)::P.zip vs) m p=_
  unfold bindC
  rw [Zaj fun v hv=>(List.nodup_cons.mp nd).1 (List.of_mem_zip hv).1,if_neg hk]
  simp
 | p::P,w::vs,i + 1,m,nd,h1,h2,hk=>by
  show bindC kindOf ((p,w)::P.zip vs) m x=_
  unfold bindC
  exact Zak (i:=i) (List.nodup_cons.mp nd).2 (by simpa using h1) (by simpa using h2) hk
def Ut (N:List Str) (vs:List V):St:=vs.map some++List.replicate (N.length - vs.length) none
def cxOf (CX:CXT) (P:Program) (w:World) (K:W.Frag) (mg:Str->Option Value) (base:Heap) (N:List Str) (qual:Str) (scope:Scope) (f:Addr) (cd:Value) (A:Around) (outer:List Env) (s:Shared) (H:Hp) (E:XK):Cx where
 prog:=P
 w:=w
 K:=K
 mg:=mg
 base:=base
 A:=A.deeper (envOfC qual scope s.heap.objs.size f cd)
 N:=N
 s₀:=s
 H₀:=H
 env:=envOfC qual scope s.heap.objs.size f cd
 outer:=outer
 stack:=envOfC qual scope s.heap.objs.size f cd::outer
 ex:=[]
 calm:=true
 fn:=fun _=>true
 pn:=[]
 xe:=fun e s'=>wpAny (model P w) (A.deeper (envOfC qual scope s.heap.objs.size f cd)) (leaving (envOfC qual scope s.heap.objs.size f cd) e) (fun _ s''=>CX outer H s E e s'') (fun e' s''=>CX outer H s E e' s'') s'
theorem Zcx {sc:Scope} {n:Nat} {x:Str} (h:sc.names.lookup x=some .cell):∃ c,(cellsFrom n sc.names []).lookup x=some c:=by
 have q:=W.cellsFrom_some sc.names n [] (.inl h)
 exact Option.isSome_iff_exists.mp q
theorem N0 {CX:CXT} {P:Program} {w:World} {K:W.Frag} {mg:Str->Option Value} {base:Heap} {N ps:List Str} {qual:Str} {scope:Scope} {f:Addr} {cd:Value} {A:Around} {outer:List Env} {s s1:Shared} {H:Hp} {E:XK} {us:List Value} {vs:List V}
  (S:FnScope N ps scope) (hd:A.handled=none) (e0:Env0 P w K mg base A outer s H) (hl:vs.length=ps.length) (r:Vals vs us)
  (x:InCallC s s.heap.objs.size (bindL (envOfC qual scope s.heap.objs.size f cd).kindOf (ps.zip us) fun _=>none) (cellsFrom (s.heap.objs.size + 1) scope.names []) (bindC (envOfC qual scope s.heap.objs.size f cd).kindOf (ps.zip us) fun _=>none) s1) :
  Inv (cxOf CX P w K mg base N qual scope f cd A outer s H E) [] (Ut N vs) H s1:=by
 have hpl:ps.length<=N.length:=by have:=congrArg List.length S.pre; rw [List.length_take] at this; omega
 obtain ⟨h1,tk,rfl,hk⟩:=x.done
 have noA:∀ b:Addr,b∉(cxOf CX P w K mg base N qual scope f cd A outer s H E).ex:=fun b z=>absurd (show b∈([]:List Addr) from z) (by simp)
 refine ⟨⟨e0.mod,S.kind,rfl,rfl,Nat.le_refl _,fun y z c h1 h2=>?_,fun y hy=>?_,fun y c _ h=>?_,fun _=>hd,Around.frames_deeper e0.frames,.inr ⟨rfl,rfl⟩,fun b z=>absurd z (noA b),e0.bs,e0.bsz,fun b _ _=>noA b,fun b z=>absurd z (noA b),e0.funs,e0.frf⟩,
  rfl,e0.bare,Un.kept hk,⟨_,x.toInCall.ns,fun i y v h1 h2 h3=>?_⟩,fun y c h=>⟨_,x.cell y c h⟩,e0.hok.fresh (Nat.le_refl _),fun y c h=>?_,fun p hp=>absurd (show p∈([]:List (Addr×Obj)) from hp) (by simp),e0.hok.kept hk,?_⟩
 ·exact name_of_addr x.apart (PySem.mem_of_lookup h1) (PySem.mem_of_lookup h2)
 ·have hy:scope.names.lookup y=some .cell\/scope.names.lookup y=some .free:=hy
  rcases hy with hy | hy
  ·exact Zcx hy
  ·exact absurd rfl (S.nofree _ (PySem.mem_of_lookup hy))
 ·exact Nat.le_of_lt (x.above y c (PySem.mem_of_lookup h))
 ·have hi:i < vs.length:=by
   unfold Ut at h2
   by_cases hi:i < vs.length
   ·exact hi
   ·rw [List.getElem?_append_right (by simpa using hi)] at h2
    rw [List.getElem?_replicate] at h2
    split at h2 <;> cases h2
  have ha:vs[i]?=some v:=by
   unfold Ut at h2
   rw [List.getElem?_append_left (by simpa using hi),List.getElem?_map] at h2
   cases e:vs[i]? with
   | none=>rw [e] at h2; cases h2
   | some a=>rw [e] at h2; cases h2; rfl
  obtain ⟨u,hu,rv⟩:=r.get ha
  have hp:ps[i]?=some y:=by
   rw [<- S.pre,List.getElem?_take_of_lt (by omega)]; exact h1
  have ndP:ps.Nodup:=by rw [<- S.pre]; exact S.nd.sublist (List.take_sublist _ _)
  refine ⟨u,rv,?_⟩
  rcases S.par y (List.mem_of_getElem? hp) with k | k
  ·exact .inl ⟨k,Zai ndP hp hu k⟩
  ·obtain ⟨c,e⟩:=Zcx (n:=s.heap.objs.size + 1) k
   refine .inr ⟨.inl k,c,e,?_⟩
   have q:=x.cell y c e
   rw [Zak ndP hp hu (by show scope.names.lookup y≠_; rw [k]; decide)] at q
   exact q
 ·exact e0.hok.fresh (Nat.le_of_lt (x.above y c (PySem.mem_of_lookup h)))
 ·unfold Ut
  show _=N.length
  rw [List.length_append,List.length_map,List.length_replicate]
  omega
theorem Zlo {CX:CXT} {P:Program} {w:World} {K:W.Frag} {mg:Str->Option Value} {base:Heap} {k:Nat} {f:Addr} {name qual:Str} {params:Arguments} {body:List Stmt} {scope:Scope} {dV kV doc pm cdv ct oc:Value} {an od:Option Addr}
  {osl:Array (Option Value)} {N ps:List Str} {sp:Sp} (lk:K.lookup f=some ⟨oc,od,.func (W.fnOf name qual params body scope dV kV doc pm an cdv ct),osl⟩) (hcd:W.codeIn K cdv qual=true) (S:FnScope N ps scope)
  (len:∀ vs H Q E,sp vs H Q E->vs.length=ps.length)
  (hbody:∀ (A:Around) (outer:List Env) (s:Shared) (H:Hp) (vs:List V) (Q:VK) (E:XK),Room k (A.deeper (envOfC qual scope s.heap.objs.size f cdv))->sp vs H Q E ->
   ∃ t,PSs (cxOf CX P w K mg base N qual scope f cdv A outer s H E) body t/\t { nx:=fun _ H'=>Q .non H',rt:=Q } (Ut N vs) H) :
  FnOk P w K mg base CX (k + 1) f (W.fnOf name qual params body scope dV kV doc pm an cdv ct) ps sp:=by
 refine ⟨len,fun A outer s H args us vs Q E hr e0 hb r hsp=>?_⟩
 have hl:=len _ _ _ _ hsp
 have KX:K.In s.heap:=e0.mod.kin.keeps fun b o e=>(e0.bs b o e).1
 have lim:s.heap.NoLimit:=e0.mod.nolimit.keeps fun b o e=>(e0.bs b o e).1
 have hkind:∀ y∈ps.zip us,scope.names.lookup y.1=some .local\/(scope.names.lookup y.1=some .cell/\((cellsFrom (s.heap.objs.size + 1) scope.names []).lookup y.1).isSome=true):=fun ⟨n,v⟩ hy=>by
  rcases S.par n (List.of_mem_zip hy).1 with q | q
  ·exact .inl q
  ·exact .inr ⟨q,W.cellsFrom_some _ _ _ (.inl q)⟩
 refine codeAny_call_function hr.depth (KX _ _ lk) rfl S.co S.gen rfl (W.codeRec_of KX hcd) (hb _ _ _ _ ?_)
 refine wpAny_newFunctionEnv_cells S.kind hkind fun env he s1 x=>?_
 subst he
 refine ⟨lim.keeps x.toInCall.keep,codeAny_func ?_⟩
 obtain ⟨t,ht,hq⟩:=hbody A outer s H vs Q E (hr.deeper _) hsp
 have I:Inv (cxOf CX P w K mg base N qual scope f cdv A outer s H E) [] (Ut N vs) H s1:=N0 S hr.hd e0 hl r x
 refine wpAny_mono (ht [] s1 (Ut N vs) H _ I hq) (fun fl s' hs=>?_) fun e s' hs=>hs
 have fin:∀ {σ':St} {H':Hp} {v:V} {u:Value},Inv (cxOf CX P w K mg base N qual scope f cdv A outer s H E) [] σ' H' s'->RelV v u->Q v H'->CE outer P w H s Q u s' :=
  fun {σ' H' v u} J rv q=>⟨v,H',J.os,J.bare,J.base,J.hok,rv,q⟩
 cases fl with
 | ret u =>
  obtain ⟨v,σ',H',J,rv,q⟩:=hs
  exact fin J rv q
 | next =>
  obtain ⟨σ',H',J,q⟩:=hs
  exact fin (v:=V.non) (u:=Value.none) J rfl q
 | brk =>
  obtain ⟨_,_,_,q⟩:=hs
  exact False.elim q
 | cont =>
  obtain ⟨_,_,_,q⟩:=hs
  exact False.elim q
section
variable {X:Cx} {x:Str} {p pos:Pos} {e:Expr} {es:List Expr} {t:TA} {id T:String} {r:List V->Hp->VK->Prop}
def tCB (r:List V->Hp->VK->Prop) (t:TA):TE:=fun σ H Q=>t σ H fun vs H1=>r vs H1 Q
theorem Zt (hc:Vc X (.builtin id) r) (hg:Gl X x) (hm:X.mg x=none) (hv:bootBuiltins x=some (.builtin id)) (ha:PA X (e::es) t) (hn:x≠"__name__":=by decide) (hdb:(x == ("__debug__":Str))=false:=by decide)
  (he:starEach (e::es) X.env=(false,eval e X.env)::starEach es X.env:=by rfl) (hpl:(backTo pos (starEach es X.env)).any (·.1)=false:=by rfl):PE X (.Call (.Name x p) (e::es) [] pos) (tCB r t):=by
 intro pins s σ H Q I h
 refine wpAny_Call_Name_kw (S0 I hg hm hv ?_ hn hdb)
 exact PyProof.Rows.callWith_builtin1 (thn (ha pos pins s σ H _ I h) fun us s1 ⟨vs,H1,I1,r1,q1⟩=>hc pins s1 σ H1 vs us Q I1 r1 q1) he hpl
theorem Z4 (hc:Vc X (.type T) r) (hg:Gl X x) (hm:X.mg x=none) (hv:bootBuiltins x=some (.type T)) (ha:PA X (e::es) t) (hn:x≠"__name__":=by decide) (hdb:(x == ("__debug__":Str))=false:=by decide)
  (he:starEach (e::es) X.env=(false,eval e X.env)::starEach es X.env:=by rfl) (hpl:(backTo pos (starEach es X.env)).any (·.1)=false:=by rfl):PE X (.Call (.Name x p) (e::es) [] pos) (tCB r t):=by
 intro pins s σ H Q I h
 refine wpAny_Call_Name_kw (S0 I hg hm hv ?_ hn hdb)
 exact PyProof.Rows.callWith_type1 (thn (ha pos pins s σ H _ I h) fun us s1 ⟨vs,H1,I1,r1,q1⟩=>hc pins s1 σ H1 vs us Q I1 r1 q1) he hpl
end
end L2
namespace HT
open PySem PyProof.Rows
def lexLt:List Int->List Int->Bool
 | [],[]=>false
 | [],_::_=>true
 | _::_,[]=>false
 | x::xs,y::ys=>if x=y then lexLt xs ys else decide (x < y)
theorem Uj (x y:Int) (xs ys:List Int):lexLt (x::xs) (y::ys)=if x=y then lexLt xs ys else decide (x < y):=rfl
theorem Q7:lexLt [] []=false:=rfl
theorem Uq (y:Int) (ys:List Int):lexLt [] (y::ys)=true:=rfl
theorem W0 (x:Int) (xs:List Int):lexLt (x::xs) []=false:=rfl
section
variable {prog:Program} {w:World} {A:Around} {E:Value->Shared->Prop} {s:Shared}
theorem cat_tup {t b:Addr} {vs ws:List Value} {Q:Value->Shared->Prop} (ht:IsTup s.heap t vs.toArray) (hb:IsTup s.heap b ws.toArray) (hv:vs≠[])
  (h1:ws=[]->Q (.ref t) s) (h2:ws≠[]->Q (.ref s.heap.objs.size) { s with heap:=s.heap.push { cls:=.type "tuple",data:=.seq (vs++ws).toArray } })
  (hsz:vs.length + ws.length<=sizeLine):wpAny (model prog w) A (binaryOp .Add (.ref t) (.ref b)) Q E s:=by
 obtain ⟨⟨cls,dd,data,sl⟩,ho,hc,n,hd⟩:=id ht
 obtain ⟨⟨cls2,dd2,data2,sl2⟩,ho2,hc2,n2,hd2⟩:=id hb
 simp only at hc hd hc2 hd2
 subst hc hd hc2 hd2
 have e:vs.toArray++ws.toArray=(vs++ws).toArray:=by simp
 by_cases hw:ws=[]
 ·exact concat_meets ⟨_,ho,rfl⟩ ⟨_,ho2,rfl⟩ noFill_tuple_add seq_tuple_add PySem.F.slot_tuple_add PySem.F.entry_tuple_add (PySem.F.args_tuple_add_2 _ _)
   (tuple_addW1 t b vs.toArray ws.toArray n n2 dd dd2 sl sl2 (by simpa using hv) (by simp [hw])) ⟨ho,ho2,h1 hw⟩
 ·refine concat_meets ⟨_,ho,rfl⟩ ⟨_,ho2,rfl⟩ noFill_tuple_add seq_tuple_add PySem.F.slot_tuple_add PySem.F.entry_tuple_add (PySem.F.args_tuple_add_2 _ _)
   (tuple_addW2 t b vs.toArray ws.toArray n n2 dd dd2 sl sl2 (by simpa using hv) (by simpa using hw) (by rw [List.size_toArray,List.size_toArray]; exact hsz)) ⟨ho,ho2,?_⟩
  rw [e]
  exact h2 hw
def sIx (n d:Nat):Option Int->Nat
 | none=>d
 | some v=>if v < 0 then (v + (n:Int)).toNat else min v.toNat n
theorem sIx_none (n d:Nat):sIx n d none=d:=rfl
theorem sIx_nat (n d k:Nat):sIx n d (some (k:Int))=min k n:=by
 show (if (k:Int) < 0 then ((k:Int) + (n:Int)).toNat else min (k:Int).toNat n)=min k n
 rw [if_neg (by omega),Int.toNat_natCast]
theorem Znq (n d:Nat) (hd:d<=n) (o:Option Int):sIx n d o<=n:=by
 cases o with
 | none=>exact hd
 | some v =>
  show (if v < 0 then (v + (n:Int)).toNat else min v.toNat n)<=n
  by_cases hv:v < 0
  ·rw [if_pos hv]; omega
  ·rw [if_neg hv]; exact Nat.min_le_right _ _
theorem Zgu (v:Int) (n d:Nat):(if v < 0 then max (v + (n:Int)) 0 else min v (n:Int))=((sIx n d (some v):Nat):Int):=by
 show (if v < 0 then max (v + (n:Int)) 0 else min v (n:Int))=(((if v < 0 then (v + (n:Int)).toNat else min v.toNat n):Nat):Int)
 by_cases hv:v < 0
 ·simp only [if_pos hv]; omega
 ·simp only [if_neg hv]; omega
theorem Zdx (lo hi:Option Int) (n:Nat):Builtin.Slice.sliceAdjust lo hi 1 (n:Int)=(((sIx n 0 lo:Nat):Int),((sIx n n hi:Nat):Int)):=by
 have h1:¬ ((1:Int) < 0):=by omega
 unfold Builtin.Slice.sliceAdjust
 simp only [h1,if_false]
 refine Prod.ext ?_ ?_
 ·cases lo with
  | none=>rfl
  | some v=>exact Zgu v n 0
 ·cases hi with
  | none=>rfl
  | some v=>exact Zgu v n n
theorem Zdg (i j:Nat):Builtin.Slice.slicePlaces (i:Int) (j:Int) 1=j - i:=by
 unfold Builtin.Slice.slicePlaces
 have h1:(1:Int) > 0:=by omega
 simp only [h1,if_true,Int.ediv_one]
 split <;> omega
theorem Qf {v:Value} {o:Option Int} {Q:Option Int->Shared->Prop} (p:IsPart v o) (h:Q o s):wpAny (model prog w) A (Builtin.Slice.slicePartIndex v) Q E s:=by
 cases p with
 | none=>exact slicePart_none h
 | int i t=>exact slicePart_int h
theorem sliceApplied_gen {sl:Addr} {vl vu:Value} {lo hi:Option Int} {n:Nat} {Q:Int×Int×Nat->Shared->Prop} (hs:s.heap.IsSliceOf sl vl vu .none) (pl:IsPart vl lo) (pu:IsPart vu hi)
  (h:Q (((sIx n 0 lo:Nat):Int),1,sIx n n hi - sIx n 0 lo) s):wpAny (model prog w) A (Builtin.Slice.sliceApplied (.ref sl) (pure (n:Int))) Q E s:=by
 obtain ⟨os,hos,hcs,hds⟩:=id hs
 unfold Builtin.Slice.sliceApplied Builtin.Slice.sliceFields
 refine wpAny_bind (wpAny_bind (wpAny_field hos hds (x:=vl) rfl (wpAny_bind (wpAny_field hos hds (x:=vu) rfl (wpAny_bind (wpAny_field hos hds (x:=.none) rfl (wpAny_pure ?_)))))))
 refine wpAny_bind (slicePart_none ?_)
 show wpAny _ _ (if ((1:Int) == 0)=true then _ else _) _ _ s
 rw [if_neg (by decide)]
 refine wpAny_bind (Qf pl (wpAny_bind (Qf pu (wpAny_bind (wpAny_pure ?_)))))
 show wpAny _ _ (match Builtin.Slice.sliceAdjust lo hi 1 (n:Int) with | (lo,hi)=>pure (lo,(1:Int),Builtin.Slice.slicePlaces lo hi 1)) _ _ s
 rw [Zdx lo hi n]
 show wpAny _ _ (pure (((sIx n 0 lo:Nat):Int),(1:Int),Builtin.Slice.slicePlaces ((sIx n 0 lo:Nat):Int) ((sIx n n hi:Nat):Int) 1)) _ _ s
 rw [Zdg]
 exact wpAny_pure h
theorem Zht (xs:Array Value) (i k:Nat):((List.range k).filterMap fun (m:Nat)=>xs[((i:Int) + (m:Int) * 1).toNat]?).toArray=((xs.toList.drop i).take k).toArray:=by
 have e:(fun (m:Nat)=>xs[((i:Int) + (m:Int) * 1).toNat]?)=fun m=>xs[i + m]?:=by
  funext m
  have:((i:Int) + (m:Int) * 1).toNat=i + m:=by omega
  rw [this]
 rw [e]
 have:=pick_run xs i k
 rw [List.filterMap_map] at this
 have e2:((fun x=>xs[x]?) ∘ fun x=>i + x)=fun m=>xs[i + m]?:=rfl
 rw [e2] at this
 rw [this]
theorem getItem_tuple_cut {t sl:Addr} {items:Array Value} {vl vu:Value} {lo hi:Option Int} {Q:Value->Shared->Prop} (ht:IsTup s.heap t items) (hs:s.heap.IsSliceOf sl vl vu .none) (pl:IsPart vl lo) (pu:IsPart vu hi)
  (hw:¬ (sIx items.size 0 lo=0/\sIx items.size items.size hi=items.size))
  (h:Q (.ref s.heap.objs.size) { s with heap:=s.heap.push { cls:=.type "tuple",data:=.seq ((items.toList.drop (sIx items.size 0 lo)).take (sIx items.size items.size hi - sIx items.size 0 lo)).toArray } })
  (hsz:items.size<=sizeLine):wpAny (model prog w) A (getItem (.ref t) (.ref sl)) Q E s:=by
 have htake:sizeOk (.seq ((items.toList.drop (sIx items.size 0 lo)).take (sIx items.size items.size hi - sIx items.size 0 lo)).toArray):=by
  show ((items.toList.drop (sIx items.size 0 lo)).take (sIx items.size items.size hi - sIx items.size 0 lo)).toArray.size<=sizeLine
  rw [List.size_toArray,List.length_take,List.length_drop,Array.length_toList]
  omega
 have hj:sIx items.size items.size hi<=items.size:=Znq _ _ (Nat.le_refl _) hi
 obtain ⟨os,hos,hcs,hds⟩:=id hs
 have hTs:s.TypeIs (.ref sl) "slice":=⟨os,hos,hcs⟩
 unfold getItem
 try with_reducible refine wpAny_holding ?_
 first | refine wpAny_bind (wpAny_pure ?_) | skip
 refine wpAny_bind (wpAny_sequenceKey ht.typeIs (by decide) ?_)
 refine wpAny_bind (wpAny_callSpecial?_slot (name:=Str.ofString "__getitem__") ht.typeIs PyProof.Rows.slot_tuple_getitem
  (wpAny_call_entry PyProof.Rows.slot_tuple_getitem ht.typeIs entry_tuple_getitem ?_ (args_tuple_getitem _ _)))
 show wpAny _ _ (Builtin.Tuple.tupleItemsOf (.ref t) >>= _) _ _ s
 refine wpAny_bind (tupleItemsOf_ ht ?_)
 refine wpAny_bind (wpAny_typeOf hTs ?_)
 rw [if_pos (by decide)]
 refine wpAny_bind (sliceApplied_gen hs pl pu ?_)
 have hno:¬ ((((sIx items.size 0 lo:Nat):Int) == 0 && (1:Int) == 1 && (sIx items.size items.size hi - sIx items.size 0 lo) == items.size)=true):=by
  intro q
  rw [Bool.and_eq_true,Bool.and_eq_true] at q
  have q1:((sIx items.size 0 lo:Nat):Int)=0:=eq_of_beq q.1.1
  have q2:sIx items.size items.size hi - sIx items.size 0 lo=items.size:=eq_of_beq q.2
  exact hw ⟨by omega,by omega⟩
 show wpAny _ _ (if (((sIx items.size 0 lo:Nat):Int) == 0 && (1:Int) == 1 && (sIx items.size items.size hi - sIx items.size 0 lo) == items.size)=true then _ else _) _ _ s
 rw [if_neg hno,Zht]
 first
  | exact wpAny_bind (m:=Builtin.Tuple.tupleExact _) (wpAny_newObj_type (wpAny_pure ⟨_,rfl,wpAny_pure h⟩) htake)
  | exact wpAny_bind (m:=Builtin.Tuple.tupleExact _) (wpAny_newObj_type (wpAny_bind (wpAny_pure (wpAny_pure ⟨_,rfl,wpAny_pure h⟩))) htake)
  | exact wpAny_bind (wpAny_bind (m:=Builtin.Tuple.tupleExact _) (wpAny_newObj_type (wpAny_pure (wpAny_pure ⟨_,rfl,wpAny_pure h⟩)) htake))
  | exact wpAny_bind (wpAny_bind (m:=Builtin.Tuple.tupleExact _) (wpAny_newObj_type (wpAny_pure ⟨_,rfl,wpAny_pure h⟩) htake))
end
end HT
namespace L2
open PySem PySem.Spec PyProof.Rows
abbrev TO:=St->Hp->(Option Int->Hp->Prop)->Prop
def PO (X:Cx) (e:Option Expr) (t:TO):Prop :=
 ∀ (pins:List (Addr×Obj)) (s:Shared) (σ:St) (H:Hp) (Q:Option Int->Hp->Prop),Inv X pins σ H s->t σ H Q ->
  wpAny (model X.prog X.w) X.A (evalPart e X.env) (fun u s'=>∃ o H',Inv X pins σ H' s'/\IsPart u o/\Q o H') X.xe s
def Zed:TO:=fun _ H Q=>Q none H
def Zm7 (t:TE):TO:=fun σ H Q=>t σ H fun x H1=>∃ i,x=.int i/\Q (some i) H1
section
variable {X:Cx} {e:Expr} {te:TE} {lo hi:Option Expr} {tl th:TO} {pos p2:Pos}
theorem Yq:PO X none Zed:=by
 intro pins s σ H Q I h
 rw [evalPart_none]
 exact wpAny_pure ⟨none,H,I,.none,h⟩
theorem Yf (h:PE X e te):PO X (some e) (Zm7 te):=by
 intro pins s σ H Q I hw
 rw [evalPart_some]
 refine thn (h pins s σ H _ I hw) fun u s1 ⟨x,H1,I1,r1,q1⟩=>?_
 obtain ⟨i,rfl,q⟩:=q1
 obtain ⟨t,rfl⟩:=r1
 exact ⟨some i,H1,I1,.int i t,q⟩
def SlR (X:Cx) (r:V->Option Int->Option Int->Hp->VK->Prop):Prop :=
 ∀ (pins:List (Addr×Obj)) (s:Shared) (σ:St) (H:Hp) (x:V) (v vl vu:Value) (lo hi:Option Int) (sl:Addr) (Q:VK),Inv X pins σ H s->RelV x v->s.heap.IsSliceOf sl vl vu .none->IsPart vl lo->IsPart vu hi->r x lo hi H Q ->
  ∃ T id,typeLookup (.type T) "__getitem__"=pure (some (.builtin id))/\s.TypeIs v T/\wpAny (model X.prog X.w) X.A (getItem v (.ref sl)) (EP X pins σ Q) X.xe s
def tSl (r:V->Option Int->Option Int->Hp->VK->Prop) (te:TE) (tl th:TO):TE:=fun σ H Q=>te σ H fun x H1=>tl σ H1 fun l H2=>th σ H2 fun u H3=>r x l u H3 Q
theorem Z9 {r:V->Option Int->Option Int->Hp->VK->Prop} (hr:SlR X r) (he:PE X e te) (hl:PO X lo tl) (hu:PO X hi th):PE X (.Subscript e (.Slice lo hi none p2) pos) (tSl r te tl th):=by
 intro pins s σ H Q I h
 refine Subscript_ (thn (he pins s σ H _ I h) fun v s1 ⟨x,H1,I1,r1,q1⟩=>?_)
 refine wpAny_Slice (thn (hl pins s1 σ H1 _ I1 q1) fun vl s2 ⟨l,H2,I2,pl,q2⟩=>thn (hu pins s2 σ H2 _ I2 q2) fun vu s3 ⟨u,H3,I3,pu,q3⟩=>?_)
 rw [evalPart_none]
 refine wpAny_pure ?_
 have I4:Inv X pins σ H3 { s3 with heap:=s3.heap.push { cls:=.type "slice",data:=.fields #[vl,vu,.none] } }:=I3.kept (t':=s3.toks) fun b ob q=>Heap.get?_push_of_some _ q
 obtain ⟨T,id,hT,ht,hg⟩:=hr pins { s3 with heap:=s3.heap.push { cls:=.type "slice",data:=.fields #[vl,vu,.none] } } σ H3 x v vl vu l u s3.heap.objs.size Q I4 r1 (Heap.IsSliceOf.new ..) pl pu q3
 show wpAny (model X.prog X.w) X.A (subscriptTail e (.Slice lo hi none p2) v (.ref s3.heap.objs.size)) (EP X pins σ Q) X.xe { s3 with heap:=s3.heap.push { cls:=.type "slice",data:=.fields #[vl,vu,.none] } }
 exact tail_any (ops:=[.ref s3.heap.objs.size,v]) ht hT hg (by with_unfolding_all rfl)
def cutV (xs:List V) (lo hi:Option Int):List V:=(xs.drop (HT.sIx xs.length 0 lo)).take (HT.sIx xs.length xs.length hi - HT.sIx xs.length 0 lo)
theorem Uy (xs:List V) (lo hi:Option Int):(cutV xs lo hi).length<=xs.length:=by
 unfold cutV
 rw [List.length_take,List.length_drop]
 omega
def rSlT (K:W.Frag):V->Option Int->Option Int->Hp->VK->Prop:=fun x lo hi H Q=>∃ a xs,x=.ref a/\SqT K H a xs /\
 ¬ (HT.sIx xs.length 0 lo=0/\HT.sIx xs.length xs.length hi=xs.length)/\∀ p,H p=none->Q (.ref p) (upd H p (.tup (cutV xs lo hi)))
theorem Znf:SlR X (rSlT X.K):=by
 intro pins s σ H x v vl vu lo hi sl Q I rx hs pl pu h
 obtain ⟨a,xs,rfl,hx,hw,q⟩:=h
 cases rx
 obtain ⟨its,r,ht,hz⟩:=I.tuple hx
 have hlen:its.toArray.size=xs.length:=by rw [List.size_toArray]; exact r.length.symm
 refine ⟨"tuple",_,PyProof.Rows.slot_tuple_getitem.lookup,ht.typeIs,?_⟩
 refine HT.getItem_tuple_cut ht hs pl pu (by rw [hlen]; exact hw) ?_ (by rw [hlen]; exact hz)
 rw [hlen]
 refine ⟨.ref s.heap.objs.size,_,I.laid (t':=s.toks) (o:=.tup (cutV xs lo hi)) (fun b ob q=>Heap.get?_push_of_some _ q) (Nat.le_refl _) ?_,rfl,q _ (I.hok.fresh (Nat.le_refl _))⟩
 exact ⟨Nat.le_trans (Uy xs lo hi) hz,_,(r.drop (HT.sIx xs.length 0 lo)).take (HT.sIx xs.length xs.length hi - HT.sIx xs.length 0 lo),V8.new _ _⟩
def Zhq (K:W.Frag):R2:=fun x y H Q=>∃ a b xs ys,x=.ref a/\y=.ref b/\SqT K H a xs/\SqT K H b ys/\xs≠[]/\xs.length + ys.length<=sizeLine /\
 (ys=[]->Q (.ref a) H)/\(ys≠[]->∀ p,H p=none->Q (.ref p) (upd H p (.tup (xs++ys))))
theorem Vals.nil_iff {xs:List V} {us:List Value} (r:Vals xs us):us=[]↔xs=[]:=by
 cases r with
 | nil=>simp
 | cons _ _=>simp
theorem Za2:OpR X (binaryOp .Add) (Zhq X.K):=by
 intro pins s σ H x y v u Q I rx ry h
 obtain ⟨a,b,xs,ys,rfl,rfl,ha,hb,hx,hz,q1,q2⟩:=h
 cases rx
 cases ry
 obtain ⟨its,r1,p1,_⟩:=I.tuple ha
 obtain ⟨its2,r2,p2,_⟩:=I.tuple hb
 refine HT.cat_tup p1 p2 (fun z=>hx (r1.nil_iff.mp z)) (fun z=>⟨.ref a,H,I,rfl,q1 (r2.nil_iff.mp z)⟩) (fun z=>?_) (by rw [<- r1.length,<- r2.length]; exact hz)
 refine ⟨.ref s.heap.objs.size,_,I.laid (t':=s.toks) (o:=.tup (xs++ys)) (fun b ob q=>Heap.get?_push_of_some _ q) (Nat.le_refl _) ?_,rfl,q2 (fun w=>z (r2.nil_iff.mpr w)) _ (I.hok.fresh (Nat.le_refl _))⟩
 exact ⟨by rw [List.length_append]; exact hz,_,r1.append r2,V8.new _ _⟩
end
def ixN (n:Nat) (i:Int):Option Nat:=if 0<=i then (if i < n then some i.toNat else none) else if -(n:Int)<=i then some (i + n).toNat else none
def atI {α:Type} (xs:List α) (i:Int):Option α:=(ixN xs.length i).bind fun j=>xs[j]?
theorem Zfz {n:Nat} {i:Int} {j:Nat} (h:ixN n i=some j):seqIndex? i n=some j/\j < n/\-(n:Int)<=i/\i < n:=by
 unfold ixN at h
 by_cases h0:0<=i
 ·rw [if_pos h0] at h
  by_cases h1:i < n
  ·rw [if_pos h1] at h
   have e:i.toNat=j:=Option.some.inj h
   exact ⟨by rw [seqIndex_of h0 h1,e],by omega,by omega,h1⟩
  ·rw [if_neg h1] at h; cases h
 ·rw [if_neg h0] at h
  by_cases h1:-(n:Int)<=i
  ·rw [if_pos h1] at h
   have e:(i + n).toNat=j:=Option.some.inj h
   exact ⟨by rw [seqIndex_neg (by omega) h1,e],by omega,h1,by omega⟩
  ·rw [if_neg h1] at h; cases h
theorem Zbr {α:Type} {xs:List α} {i:Int} {v:α} (h:atI xs i=some v):∃ j,seqIndex? i xs.length=some j/\xs[j]?=some v/\j < xs.length/\-(xs.length:Int)<=i/\i < xs.length:=by
 unfold atI at h
 cases e:ixN xs.length i with
 | none=>rw [e] at h; cases h
 | some j =>
  rw [e] at h
  obtain ⟨h1,h2,h3,h4⟩:=Zfz e
  exact ⟨j,h1,h,h2,h3,h4⟩
theorem Ty {α:Type} {xs:List α} {j:Nat} {v:α} (h:xs[j]?=some v):atI xs (j:Int)=some v:=by
 have hj:j < xs.length:=(List.getElem?_eq_some_iff.mp h).1
 have e:ixN xs.length (j:Int)=some j:=by
  unfold ixN
  rw [if_pos (by omega),if_pos (by omega)]; simp
 unfold atI; rw [e]; exact h
def Zmf (b:Expr):Prop:=∀ o i,subscripted b false o i=operate [o,i] (getItem o i)
def IxR (X:Cx) (r:R2):Prop :=
 ∀ (value slice:Expr) (pins:List (Addr×Obj)) (s:Shared) (σ:St) (H:Hp) (x y:V) (v u:Value) (Q:VK),Inv X pins σ H s->RelV x v->RelV y u->r x y H Q ->
  subscripted slice false v u=operate [v,u] (getItem v u)->wpAny (model X.prog X.w) X.A (subscriptTail value slice v u) (EP X pins σ Q) X.xe s
def MtR (X:Cx) (id:String) (r:V->List V->Hp->VK->Prop):Prop :=
 ∀ (pins:List (Addr×Obj)) (s:Shared) (σ:St) (H:Hp) (x:V) (xs:List V) (v:Value) (us:List Value) (Q:VK),Inv X pins σ H s->RelV x v->Vals xs us->r x xs H Q ->
  wpAny (model X.prog X.w) X.A (call (.builtin id) (v::us)) (EP X pins σ Q) X.xe s
section
variable {X:Cx} {a b:Expr} {ta tb:TE} {pos:Pos}
theorem IxR.or {r r':R2} (h:IxR X r) (h':IxR X r'):IxR X (fun x y H Q=>r x y H Q\/r' x y H Q):=by
 intro value slice pins s σ H x y v u Q I rx ry q hs
 rcases q with q | q
 ·exact h value slice pins s σ H x y v u Q I rx ry q hs
 ·exact h' value slice pins s σ H x y v u Q I rx ry q hs
theorem Ye {r:R2} (hr:IxR X r) (ha:PE X a ta) (hb:PE X b tb) (hs:Zmf b):PE X (.Subscript a b pos) (tOp r ta tb):=by
 intro pins s σ H Q I h
 exact Subscript_ (binT ha hb I h fun v u s2 x y H2 I2 rx ry q=>hr a b pins s2 σ H2 x y v u Q I2 rx ry q (hs _ _))
def rIxL (K:W.Frag):R2:=fun x y H Q=>∃ p xs i v,x=.ref p/\y=.int i/\SqL K H p xs/\atI xs i=some v/\Q v H
def rIxT (K:W.Frag):R2:=fun x y H Q=>∃ p xs i v,x=.ref p/\y=.int i/\SqT K H p xs/\atI xs i=some v/\Q v H
def rIxS:R2:=fun x y H Q=>∃ z i c,x=.str z/\y=.int i/\z.length<=sizeLine/\atI z.cps.toList i=some c/\Q (.str ⟨#[c]⟩) H
theorem Xb:IxR X (rIxL X.K):=by
 intro value slice pins s σ H x y v u Q I rx ry h hs
 obtain ⟨p,xs,i,z,rfl,rfl,hq,he,q⟩:=h
 cases rx
 obtain ⟨t,rfl⟩:=ry
 obtain ⟨its,r,pl,hz⟩:=I.list hq
 obtain ⟨j,h1,h2,h3,h4,h5⟩:=Zbr he
 obtain ⟨w,ew,rw'⟩:=r.get h2
 have hl:=r.length
 have hn:=Qm
 have fin:EP X pins σ Q w s:=⟨z,H,I,rw',q⟩
 by_cases h0:0<=i
 ·have hj:i.toNat=j:=by
   rw [seqIndex_of h0 h5] at h1
   exact Option.some.inj h1
  exact item_listR pl.isList h0 (by omega) (by rw [hj]; simpa using ew) fin hs
 ·have hj:(i + (its.toArray.size:Int)).toNat=j:=by
   rw [seqIndex_neg (by omega) h4] at h1
   rw [List.size_toArray,<- hl]
   exact Option.some.inj h1
  exact subscriptTail_builtinR (x:=w) pl.isList.typeIs slot_list_getitem.lookup
   (wpAny_getItem_list_neg (Q:=fun r s'=>r=w/\EP X pins σ Q r s') pl.isList (by omega) (by rw [List.size_toArray] <;> omega) (by omega) (by rw [hj]; simpa using ew) ⟨rfl,fin⟩) hs
theorem Tb:IxR X (rIxT X.K):=by
 intro value slice pins s σ H x y v u Q I rx ry h hs
 obtain ⟨p,xs,i,z,rfl,rfl,hq,he,q⟩:=h
 cases rx
 obtain ⟨t,rfl⟩:=ry
 obtain ⟨its,r,pl,hz⟩:=I.tuple hq
 obtain ⟨j,h1,h2,h3,h4,h5⟩:=Zbr he
 obtain ⟨w,ew,rw'⟩:=r.get h2
 have hl:=r.length
 have hn:=Qm
 have fin:EP X pins σ Q w s:=⟨z,H,I,rw',q⟩
 exact subscriptTail_builtinR (x:=w) pl.typeIs slot_tuple_getitem.lookup
  (getItem_tuple (j:=j) (Q:=fun r s'=>r=w/\EP X pins σ Q r s') pl (by omega) (by omega) (by rw [List.size_toArray,<- hl]; exact h1) (by simpa using ew) ⟨rfl,fin⟩) hs
theorem Zon:IxR X rIxS:=by
 intro value slice pins s σ H x y v u Q I rx ry h hs
 obtain ⟨z,i,c,rfl,rfl,hz,he,q⟩:=h
 obtain ⟨t,rfl⟩:=rx
 obtain ⟨t',rfl⟩:=ry
 obtain ⟨j,h1,h2,h3,h4,h5⟩:=Zbr he
 have hl:z.cps.toList.length=z.length:=by simp [Str.length]
 rw [hl] at h1 h4 h5
 have hn:=Qm
 exact tail_any (typeIs_str s z t) slot_str_getitem.lookup (getItem_str (c:=c) (by
  have e1:decide (i < -(2 ^ 63:Int))=false:=decide_eq_false (by omega)
  have e2:decide (i≥2 ^ 63)=false:=decide_eq_false (by omega)
  rw [e1,e2,Bool.or_false]) (by rw [h1]; simpa using h2) ⟨.str ⟨#[c]⟩,H,I.tok _,⟨_,rfl⟩,q⟩) hs
def rIx (K:W.Frag):R2:=fun x y H Q=>rIxL K x y H Q\/rIxT K x y H Q\/rIxS x y H Q
theorem Zoo:IxR X (rIx X.K):=Xb.or (Tb.or Zon)
theorem Zdm (its:List Value) (n j:Nat) (u:Value):Obj.mapSeq (·.setIfInBounds j u) { cls:=.type "list",data:=.seq its.toArray n }={ cls:=.type "list",data:=.seq (its.set j u).toArray n }:=by
 simp [Obj.mapSeq]
theorem Inv.lst {pins:List (Addr×Obj)} {σ:St} {H:Hp} {s:Shared} {p:Addr} {xs:List V} (I:Inv X pins σ H s) (h:H p=some (.lst xs)) :
  ∃ (its:List Value) (n:Nat),Vals xs its/\s.heap.get? p=some { cls:=.type "list",data:=.seq its.toArray n }/\xs.length<=sizeLine:=by
 obtain ⟨z,its,n,r,e⟩:=I.hok p _ h
 exact ⟨its,n,r,e,z⟩
theorem Inv.lstUpd {pins:List (Addr×Obj)} {σ:St} {H:Hp} {s:Shared} {p:Addr} {xs ys:List V} {its its':List Value} {n n':Nat} {f:Obj->Obj} (I:Inv X pins σ H s) (h:H p=some (.lst xs))
  (ho:s.heap.get? p=some { cls:=.type "list",data:=.seq its.toArray n }) (hf:f { cls:=.type "list",data:=.seq its.toArray n }={ cls:=.type "list",data:=.seq its'.toArray n' }) (r:Vals ys its') (hz:ys.length<=sizeLine) (t:Nat) :
  Inv X pins σ (upd H p (.lst ys)) { s with heap:=s.heap.update p f,toks:=t }:=by
 have e:(s.heap.update p f).get? p=some { cls:=.type "list",data:=.seq its'.toArray n' }:=by
  rw [Heap.get?_update_self f ho (by rw [hf] <;> rfl),hf]
 refine I.write (x:=p) (e:=p) (by rw [h]; trivial) (.inl rfl) (fun b u hb q=>(Heap.get?_update_other _ _ (Ne.symm hb)).trans q) ⟨_,e⟩ ?_
 exact ⟨hz,its',n',r,e⟩
def Znu:V->V->V->Hp->(Hp->Prop)->Prop:=fun o i v H Q=>∃ p xs k j,o=.ref p/\i=.int k/\H p=some (.lst xs)/\ixN xs.length k=some j/\Q (upd H p (.lst (xs.set j v)))
theorem T9:PSet X Znu:=by
 intro pins s σ H o i v ov iv u Q I ro ri rv h
 obtain ⟨p,xs,k,j,rfl,rfl,hp,hj,q⟩:=h
 cases ro
 obtain ⟨t,rfl⟩:=ri
 obtain ⟨its,n,r,ho,hz⟩:=I.lst hp
 obtain ⟨h1,h2,h3,h4⟩:=Zfz hj
 have hl:=r.length
 have hn:=Qm
 have I':Inv X pins σ (upd H p (.lst (xs.set j v))) { s with heap:=s.heap.update p (Obj.mapSeq (·.setIfInBounds j u)) } :=
  I.lstUpd hp ho (Zdm its n j u) (r.set rv j) (by rw [List.length_set]; exact hz) s.toks
 by_cases h0:0<=k
 ·have hk:k.toNat=j:=by
   rw [seqIndex_of h0 h4] at h1
   exact Option.some.inj h1
  exact W.ki_setAt ho h0 (by omega) (by rw [List.size_toArray,<- hl]; exact h4) (by rw [hk]; exact ⟨_,I',q⟩)
 ·have hk:(k + (its.toArray.size:Int)).toNat=j:=by
   rw [seqIndex_neg (by omega) h3] at h1
   rw [List.size_toArray,<- hl]
   exact Option.some.inj h1
  exact W.ki_setBack ho (by omega) (by rw [List.size_toArray,<- hl]; exact h3) (by omega) (by rw [hk]; exact ⟨_,I',q⟩)
theorem Nf (lo hi:Option Int) (n:Nat):(sliceBounds lo hi none n).1=((HT.sIx n 0 lo:Nat):Int)/\(sliceBounds lo hi none n).2.1=((HT.sIx n n hi:Nat):Int)/\(sliceBounds lo hi none n).2.2=1:=by
 refine ⟨?_,?_,rfl⟩
 ·cases lo with
  | none=>simp [sliceBounds,HT.sIx]
  | some i =>
   simp only [sliceBounds,HT.sIx,Option.getD_none,show (1:Int) > 0 by decide,if_true]
   by_cases h:i < 0
   ·simp only [h,if_true] <;> omega
   ·simp only [h,if_false] <;> omega
 ·cases hi with
  | none=>simp [sliceBounds,HT.sIx]
  | some i =>
   simp only [sliceBounds,HT.sIx,Option.getD_none,show (1:Int) > 0 by decide,if_true]
   by_cases h:i < 0
   ·simp only [h,if_true] <;> omega
   ·simp only [h,if_false] <;> omega
theorem Qw (its:List Value) (lo hi:Option Int):slicePick its.toArray lo hi none=((its.drop (HT.sIx its.length 0 lo)).take (HT.sIx its.length its.length hi - HT.sIx its.length 0 lo)).toArray:=by
 obtain ⟨h1,h2,h3⟩:=Nf lo hi its.toArray.size
 unfold slicePick
 rw [h1,h2,h3]
 simp only [sliceRange_one,pick_run,List.size_toArray] <;> rfl
def rSlL (K:W.Frag):V->Option Int->Option Int->Hp->VK->Prop:=fun x lo hi H Q=>∃ a xs,x=.ref a/\SqL K H a xs/\∀ p,H p=none->Q (.ref p) (upd H p (.lst (cutV xs lo hi)))
theorem Wy:SlR X (rSlL X.K):=by
 intro pins s σ H x v vl vu lo hi sl Q I rx hs pl pu h
 obtain ⟨a,xs,rfl,hx,q⟩:=h
 cases rx
 obtain ⟨its,r,ht,hz⟩:=I.list hx
 have hlen:=r.length
 refine ⟨"list",_,slot_list_getitem.lookup,ht.isList.typeIs,?_⟩
 refine wpAny_getItem_list_slice ht.isList hs pl pu .none (by simp) ?_ (by rw [List.size_toArray] <;> omega)
 rw [Qw,<- hlen]
 refine ⟨.ref s.heap.objs.size,_,I.laid (t':=s.toks) (o:=.lst (cutV xs lo hi)) (fun b ob q=>Heap.get?_push_of_some _ q) (Nat.le_refl _) ?_,rfl,q _ (I.hok.fresh (Nat.le_refl _))⟩
 exact ⟨Nat.le_trans (Uy xs lo hi) hz,_,0,(r.drop (HT.sIx xs.length 0 lo)).take (HT.sIx xs.length xs.length hi - HT.sIx xs.length 0 lo),Heap.get?_push_size _ rfl⟩
def eqV:V->V->Bool
 | .non,.non=>true
 | .bl a,.bl b=>a == b
 | .bl a,.int b=>(if a then 1 else 0) == b
 | .int a,.bl b=>a == (if b then 1 else 0)
 | .int a,.int b=>a == b
 | .str a,.str b=>a == b
 | _,_=>false
theorem Zae:Vc X (.type "list") (fun xs H Q=>∃ p ys,xs=[.ref p]/\(SqL X.K H p ys\/SqT X.K H p ys)/\∀ l,H l=none->Q (.ref l) (upd H l (.lst ys))):=by
 intro pins s σ H xs us Q I r h
 obtain ⟨p,ys,rfl,hq,q⟩:=h
 obtain ⟨u,rfl,rx⟩:=Tj r
 cases rx
 have fin:∀ (its:List Value),Vals ys its->ys.length<=sizeLine->∀ (h':Heap) (c':Nat),(∀ b o',s.heap.get? b=some o'->h'.get? b=some o') ->
   h'.get? s.heap.objs.size=some { cls:=.type "list",dict:=none,data:=.seq its.toArray c',slots:=#[] }->EP X pins σ Q (.ref s.heap.objs.size) { s with heap:=h' }:=fun its r' hz h' c' kp e =>
  ⟨.ref s.heap.objs.size,_,I.laid (t':=s.toks) kp (Nat.le_refl _) (show Y3 X.prog X.w _ h' _ (.lst ys) from ⟨hz,its,c',r',e⟩),rfl,q _ (I.hok.fresh (Nat.le_refl _))⟩
 rcases hq with hq | hq
 ·obtain ⟨its,r',pl,hz⟩:=I.list hq
  have hlen:=r'.length
  obtain ⟨o,ho,hc,n,hd⟩:=pl.isList
  exact call_list_seq p (.inl rfl) ho hc hd (fun h' c' kp e=>fin its r' hz h' c' kp e) (by simp only [List.size_toArray] <;> omega)
 ·obtain ⟨its,r',pl,hz⟩:=I.tuple hq
  have hlen:=r'.length
  obtain ⟨o,ho,hc,n,hd⟩:=pl
  exact call_list_seq p (.inr rfl) ho hc hd (fun h' c' kp e=>fin its r' hz h' c' kp e) (by simp only [List.size_toArray] <;> omega)
theorem Vl:Vc X (.type "tuple") (fun xs H Q=>∃ p ys,xs=[.ref p]/\((SqL X.K H p ys/\∀ l,H l=none->Q (.ref l) (upd H l (.tup ys)))\/(SqT X.K H p ys/\Q (.ref p) H))):=by
 intro pins s σ H xs us Q I r h
 obtain ⟨p,ys,rfl,h⟩:=h
 obtain ⟨u,rfl,rx⟩:=Tj r
 cases rx
 rcases h with ⟨hq,q⟩ | ⟨hq,q⟩
 ·obtain ⟨its,r',pl,hz⟩:=I.list hq
  have hlen:=r'.length
  refine call_tuple_list pl.isList (fun h' kp=>?_) (by simp only [List.size_toArray] <;> omega)
  have I1:Inv X pins σ H { s with heap:=h' }:=I.kept (t':=s.toks) kp
  have I2:Inv X pins σ (upd H h'.objs.size (.tup ys)) { s with heap:=h'.push { cls:=.type "tuple",data:=.seq its.toArray } } :=
   I1.laid (t':=s.toks) (fun b o e=>Heap.get?_push_of_some _ e) (Nat.le_refl _) (show Y3 X.prog X.w _ _ _ (.tup ys) from ⟨hz,its,r',V8.new _ _⟩)
  exact ⟨.ref h'.objs.size,_,I2,rfl,q _ (I1.hok.fresh (Nat.le_refl _))⟩
 ·obtain ⟨its,r',pl,hz⟩:=I.tuple hq
  exact call_tuple_same pl ⟨.ref p,H,I,rfl,q⟩
def tyV (K:W.Frag) (T:String) (x:V) (H:Hp):Prop:=match x with
 | .str _=>T="str"
 | .int _=>T="int"
 | .ref p=>(T="list"/\∃ xs,SqL K H p xs)\/(T="tuple"/\∃ o,K.lookup p=some o/\o.cls=.type "tuple"/\o.dict=none) \/
   (T="dict"/\((∃ kvs,H p=some (.dK kvs))\/∃ kvs,H p=some (.dT kvs)))\/(T="set"/\∃ S n,H p=some (.set S n))
 | _=>False
theorem Zix {pins:List (Addr×Obj)} {σ:St} {H:Hp} {s:Shared} {T:String} {x:V} {v:Value} (I:Inv X pins σ H s) (r:RelV x v) (ty:tyV X.K T x H) :
  s.TypeIs v T/\∀ a,v=.ref a->∃ ob,s.heap.get? a=some ob/\ob.dict=none:=by
 cases x with
 | str z =>
  obtain ⟨t,rfl⟩:=r
  cases (show T="str" from ty)
  exact ⟨typeIs_str s z t,fun _ e=>nomatch e⟩
 | int i =>
  obtain ⟨t,rfl⟩:=r
  cases (show T="int" from ty)
  exact ⟨typeIs_int s i t,fun _ e=>nomatch e⟩
 | ref p =>
  cases r
  rcases ty with ⟨rfl,xs,hq⟩ | ⟨rfl,o,hk,hc,hd⟩ | ⟨rfl,hk⟩ | ⟨rfl,S,n,hk⟩
  ·obtain ⟨its,_,pl,_⟩:=I.list hq
   refine ⟨pl.isList.typeIs,fun a e=>?_⟩
   cases e
   obtain ⟨o,n,e,c,hd,_⟩:=pl
   exact ⟨o,e,hd⟩
  ·refine ⟨⟨o,I.kIn p o hk,hc⟩,fun a e=>?_⟩
   cases e
   exact ⟨o,I.kIn _ o hk,hd⟩
  ·have z:∃ o,s.heap.get? p=some o/\o.ExactDict:=by
    rcases hk with ⟨kvs,hk⟩ | ⟨kvs,hk⟩
    ·obtain ⟨_,_,_,_,o,_,_,e,ex,_⟩:=I.hok p _ hk
     exact ⟨o,e,ex⟩
    ·obtain ⟨_,_,_,_,o,_,_,e,ex,_⟩:=I.hok p _ hk
     exact ⟨o,e,ex⟩
   obtain ⟨o,e,ex⟩:=z
   refine ⟨⟨o,e,ex.1⟩,fun a e2=>?_⟩
   cases e2
   exact ⟨o,e,ex.2.1⟩
  ·obtain ⟨o,_,_,_,e,ex,_⟩:=I.hok p _ hk
   refine ⟨⟨o,e,ex.1⟩,fun a e2=>?_⟩
   cases e2
   exact ⟨o,e,ex.2.1⟩
 | _=>exact False.elim ty
def tBM (K:W.Frag) (T:String) (r:V->List V->Hp->VK->Prop) (to:TE) (t:TA):TE:=fun σ H Q=>to σ H fun x H1=>tyV K T x H1/\t σ H1 fun xs H2=>r x xs H2 Q
variable {o e:Expr} {es:List Expr} {to:TE} {t:TA} {name:Str} {apos cpos:Pos} {T id:String} {r:V->List V->Hp->VK->Prop}
theorem Np (pa:PlainAttrs T) (slot:Slot T name id) (hty:typeOf (.builtin id)=pure (.type "method_descriptor")) (hm:MtR X id r) (ho:PE X o to) (ha:PA X (e::es) t)
  (hbase:attributeBase o name X.env (eval o X.env)=eval o X.env:=by rfl)
  (hfew:((backTo cpos (starEach (e::es) X.env)).all (fun x=>!x.1) && (backToKw cpos (keywordEach [] X.env)).all (fun x=>x.1.isSome)
   && decide ((e::es).length + ([]:List Keyword).length + (if ([]:List Keyword).isEmpty then 0 else 1) < 30))=true:=by rfl)
  (hline:(apos.endLine == cpos.line)=true:=by rfl) (hs:starEach (e::es) X.env=(false,eval e X.env)::starEach es X.env:=by rfl) (hplain:(backTo cpos (starEach es X.env)).any (·.1)=false:=by rfl) :
  PE X (.Call (.Attribute o name apos) (e::es) [] cpos) (tBM X.K T r to t):=by
 intro pins s σ H Q I h
 refine wpAny_Call_method_late hbase hfew hline rfl (thn (ho pins s σ H _ I h) fun v s1 ⟨x,H1,I1,r1,ty,q1⟩=>?_)
 obtain ⟨h1,h2⟩:=Zix I1 r1 ty
 refine ⟨T,id,pa,slot,hty,h1,h2,?_⟩
 have hA:=ha cpos pins s1 σ H1 _ I1 q1
 rw [hs] at hA ⊢
 refine Calls.callWith_builtin (by show (false || (backTo cpos (starEach es X.env)).any (·.1))=false; rw [hplain] <;> rfl) (Calls.evalArgs_plain ?_)
 exact thn hA fun us s2 ⟨vs,H2,I2,r2,q2⟩=>hm pins s2 σ H2 x vs v us Q I2 r1 r2 q2
end
def MtM (X:Cx) (id:String) (r:V->List V->Hp->VK->Prop):Prop :=
 ∀ (pins:List (Addr×Obj)) (s:Shared) (σ:St) (H:Hp) (x:V) (xs:List V) (v:Value) (us:List Value) (Q:VK),Inv X pins σ H s->RelV x v->Vals xs us->r x xs H Q ->
  wpAny (model X.prog X.w) X.A (call (.builtin id) (v::us)) (EP X pins σ Q) X.xe s
theorem Vals.one:∀ {x:V} {us:List Value},Vals [x] us->∃ u,us=[u]/\RelV x u
 | _,_,.cons r .nil=>⟨_,rfl,r⟩
theorem Vals.zero:∀ {us:List Value},Vals [] us->us=[]
 | _,.nil=>rfl
theorem Vals.rep {xs:List V} {us:List Value} (h:Vals xs us):∀ k:Nat,Vals (List.replicate k xs).flatten (List.replicate k us).flatten
 | 0=>.nil
 | k + 1=>by
  rw [List.replicate_succ,List.replicate_succ,List.flatten_cons,List.flatten_cons]
  exact Vals.append h (Vals.rep h k)
theorem N2 (its:List Value):∀ (k:Nat) (acc:List Value),
  List.foldl (fun x1 x2=>x1++x2) acc.toArray (List.replicate k its.toArray)=(acc++(List.replicate k its).flatten).toArray
 | 0,acc=>by simp
 | k + 1,acc=>by
  have e:acc.toArray++its.toArray=(acc++its).toArray:=by simp
  have e2:(acc++its)++(List.replicate k its).flatten=acc++(List.replicate (k + 1) its).flatten:=by
   rw [List.replicate_succ,List.flatten_cons,List.append_assoc]
  rw [<- e2,<- N2 its k (acc++its),<- e,List.replicate_succ,List.foldl_cons]
section
variable {X:Cx} {pins:List (Addr×Obj)} {σ:St} {H:Hp} {s:Shared} {l:Addr} {xs ys:List V}
theorem Inv.lset {its its':List Value} {n:Nat} {f:Array Value->Array Value} {t':Nat} (I:Inv X pins σ H s) (hH:H l=some (.lst xs))
  (e:s.heap.get? l=some { cls:=.type "list",data:=.seq its.toArray n }) (hf:f its.toArray=its'.toArray) (hv:Vals ys its') (hz:ys.length<=sizeLine) :
  Inv X pins σ (upd H l (.lst ys)) { s with heap:=s.heap.update l (Obj.mapSeq f),toks:=t' }:=by
 have q:=PySem.IsL.update e f
 rw [hf] at q
 refine I.write (x:=l) (e:=l) (by rw [hH]; exact trivial) (.inl rfl) (fun b' u hb hu=>(Heap.get?_update_other s.heap (Obj.mapSeq f) (Ne.symm hb)).trans hu) ⟨_,q⟩ ?_
 exact ⟨hz,its',_,hv,q⟩
theorem Inv.lnew {its:List Value} {t':Nat} (I:Inv X pins σ H s) (hv:Vals ys its) (hz:ys.length<=sizeLine) :
  Inv X pins σ (upd H s.heap.objs.size (.lst ys)) { s with heap:=s.heap.push { cls:=.type "list",data:=.seq its.toArray },toks:=t' } :=
 I.laid (fun _ _ q=>Heap.get?_push_of_some _ q) (Nat.le_refl _) ⟨hz,its,0,hv,Heap.get?_push_size _ rfl⟩
theorem Inv.fresh (I:Inv X pins σ H s):H s.heap.objs.size=none:=I.hok.fresh (Nat.le_refl _)
theorem Inv.lstM (I:Inv X pins σ H s) (hH:H l=some (.lst xs)):xs.length<=sizeLine/\∃ (its:List Value) (n:Nat),Vals xs its/\xs.length=its.length/\s.heap.get? l=some { cls:=.type "list",data:=.seq its.toArray n }:=by
 obtain ⟨z,its,n,r,e⟩:=I.hok l _ hH
 exact ⟨z,its,n,r,r.length,e⟩
theorem Zch {n:Nat} (h:n<=sizeLine):Builtin.List.listTooLong n=false:=by
 unfold Builtin.List.listTooLong
 exact decide_eq_false (by omega)
end
section
variable {X:Cx}
def Ze6:V->List V->Hp->VK->Prop:=fun x vs H Q=>∃ l xs y,x=.ref l/\vs=[y]/\H l=some (.lst xs)/\xs.length < sizeLine/\Q .non (upd H l (.lst (xs++[y])))
theorem Vy:MtM X "list.append" Ze6:=by
 intro pins s σ H x vs v us Q I rx rv h
 obtain ⟨l,xs,y,rfl,rfl,hH,hz,q⟩:=h
 cases rx
 obtain ⟨u,rfl,ru⟩:=rv.one
 obtain ⟨z,its,n,r,hl,e⟩:=I.lstM hH
 refine call_meets F.slot_list_append ⟨_,e,rfl⟩ F.entry_list_append (F.args_list_append_2 _ _) (PySem.list_append l its.toArray n u (by rw [List.size_toArray]; omega)) ⟨e,?_⟩
 refine ⟨.non,_,I.lset (its':=its++[u]) hH e (by simp) (r.append (.cons ru .nil)) ?_,rfl,q⟩
 rw [List.length_append,List.length_singleton]
 omega
def rCat:R2:=fun x y H Q=>∃ l b xs zs,x=.ref l/\y=.ref b/\H l=some (.lst xs)/\H b=some (.lst zs)/\xs.length + zs.length<=sizeLine/\∀ p,H p=none->Q (.ref p) (upd H p (.lst (xs++zs)))
theorem Qi:OpR X (binaryOp .Add) rCat:=by
 intro pins s σ H x y v u Q I rx ry h
 obtain ⟨l,b,xs,zs,rfl,rfl,hH,hB,hz,q⟩:=h
 cases rx
 cases ry
 obtain ⟨z,its,n,r,hl,e⟩:=I.lstM hH
 obtain ⟨z2,its2,n2,r2,hl2,e2⟩:=I.lstM hB
 refine PySem.P.add_list e e2 ?_ (by rw [List.size_toArray,List.size_toArray]; omega)
 have ea:its.toArray++its2.toArray=(its++its2).toArray:=by simp
 rw [ea]
 exact ⟨.ref _,_,I.lnew (t':=s.toks) (r.append r2) (by rw [List.length_append]; omega),rfl,q _ I.fresh⟩
def rRep:R2:=fun x y H Q=>∃ l k xs,x=.ref l/\y=.int k/\H l=some (.lst xs)/\-(2 ^ 63)<=k/\k < 2 ^ 63/\xs.length * k.toNat<=sizeLine /\
 ∀ p,H p=none->Q (.ref p) (upd H p (.lst (List.replicate k.toNat xs).flatten))
theorem Zk9 {α:Type} (xs:List α) (k:Nat):(List.replicate k xs).flatten.length=k * xs.length:=by
 induction k with
 | zero=>simp
 | succ k ih=>rw [List.replicate_succ,List.flatten_cons,List.length_append,ih,Nat.succ_mul,Nat.add_comm]
theorem Zn3:OpR X (binaryOp .Mult) rRep:=by
 intro pins s σ H x y v u Q I rx ry h
 obtain ⟨l,k,xs,rfl,rfl,hH,h1,h2,hz,q⟩:=h
 cases rx
 obtain ⟨t,rfl⟩:=ry
 obtain ⟨z,its,n,r,hl,e⟩:=I.lstM hH
 have hlen:its.toArray.size * k.toNat<=sizeLine:=by rw [List.size_toArray,<- hl]; exact hz
 have hcap:¬ its.toArray.size * k.toNat > (2 ^ 63 - 1) / 8:=by
  have:(sizeLine:Nat)<=(2 ^ 63 - 1) / 8:=by decide
  omega
 have hfit:¬ (!Builtin.List.listFitsIndex k)=true:=by
  rw [fitsIndex_both h1 h2]
  exact Bool.false_ne_true
 have hlong:¬ Builtin.List.listTooLong (its.toArray.size * k.toNat)=true:=by
  rw [Zch hlen]
  exact Bool.false_ne_true
 have hnew:List.foldl (fun x1 x2=>x1++x2) #[] (List.replicate (if its.toArray.isEmpty=true then 0 else k.toNat) its.toArray)=(List.replicate k.toNat its).flatten.toArray:=by
  have f0:∀ m:Nat,List.foldl (fun x1 x2=>x1++x2) #[] (List.replicate m its.toArray)=(List.replicate m its).flatten.toArray:=fun m=>by
   have:=N2 its m []
   rw [List.nil_append] at this
   exact this
  rw [f0]
  cases its with
  | nil=>simp
  | cons a r'=>rw [if_neg (by simp)]
 refine wpAny_binaryOp_repeat_ref (T:="list") (U:="int") (by decide) ⟨_,e,rfl⟩ (fun s'=>typeIs_int s' k t) noFill_list_mul F.fills_int_mul F.slot_int_rmul repeat_list F.slot_int_index.lookup
  (call_meets F.slot_int_rmul (typeIs_int s k t) F.entry_int_rmul (F.args_int_rmul_2 _ _) (int___rmul___int_list k t l its.toArray n)
   ⟨e,rfl,⟨_,e,rfl⟩,call_meets F.slot_list_mul ⟨_,e,rfl⟩ F.entry_list_mul (F.args_list_mul_2 _ _) (AutoListH.list___mul___list_int_3 l its.toArray n k t hfit hcap hlong) ⟨e,?_⟩⟩)
 rw [hnew]
 exact ⟨.ref _,_,I.lnew (t':=s.toks) (r.rep k.toNat) (by rw [Zk9,Nat.mul_comm]; exact hz),rfl,q _ I.fresh⟩
end
section
variable {κ:Type} [DecidableEq κ]
def valV (kvs:List (κ×V)) (k:κ):Option V:=(kvs.find? fun kv=>decide (kv.1=k)).map (·.2)
def putK (kvs:List (κ×V)) (k:κ) (v:V):List (κ×V) :=
 if (kvs.any fun kv=>decide (kv.1=k))=true then kvs.map (fun kv=>if kv.1=k then (kv.1,v) else kv) else kvs++[(k,v)]
def Zoz (kvs:List (κ×V)) (k:κ):List (κ×V):=kvs.filter fun kv=>decide (kv.1≠k)
theorem Zhb {k:κ}:valV ([]:List (κ×V)) k=none:=rfl
theorem Xz {p:κ×V} {r:List (κ×V)} {k:κ} (e:p.1=k):valV (p::r) k=some p.2:=by simp [valV,List.find?_cons,e]
theorem X0 {p:κ×V} {r:List (κ×V)} {k:κ} (e:¬ p.1=k):valV (p::r) k=valV r k:=by simp [valV,List.find?_cons,e]
theorem T7 (k:κ):∀ kvs:List (κ×V),(kvs.any fun kv=>decide (kv.1=k))=(valV kvs k).isSome
 | []=>rfl
 | p::r=>by
  rw [List.any_cons]
  by_cases e:p.1=k
  ·simp only [Xz e,decide_eq_true e,Bool.true_or,Option.isSome_some]
  ·rw [X0 e,decide_eq_false e,Bool.false_or]; exact T7 k r
theorem Zb0 (k j:κ) (y:V):∀ kvs:List (κ×V),valV (kvs.map fun kv=>if kv.1=k then (kv.1,y) else kv) j=(valV kvs j).map fun x=>if j=k then y else x
 | []=>rfl
 | p::r=>by
  have ih:=Zb0 k j y r
  rw [List.map_cons]
  by_cases h:p.1=k
  ·rw [if_pos h]
   by_cases e:p.1=j
   ·rw [Xz (p:=(p.1,y)) e,Xz e,Option.map_some,if_pos (e.symm.trans h)]
   ·rw [X0 (p:=(p.1,y)) e,X0 e,ih]
  ·rw [if_neg h]
   by_cases e:p.1=j
   ·rw [Xz (p:=p) e,Xz e,Option.map_some,if_neg (fun z=>h (e.trans z))]
   ·rw [X0 (p:=p) e,X0 e,ih]
theorem P7 (k j:κ) (y:V):∀ kvs:List (κ×V),valV kvs k=none->valV (kvs++[(k,y)]) j=if j=k then some y else valV kvs j
 | [],_=>by
  by_cases e:k=j
  ·rw [if_pos e.symm]; exact Xz (p:=(k,y)) e
  ·rw [if_neg (fun z=>e z.symm)]; exact X0 (p:=(k,y)) e
 | p::r,hn=>by
  rw [List.cons_append]
  have hk:¬ p.1=k:=fun z=>by rw [Xz z] at hn; cases hn
  rw [X0 hk] at hn
  have ih:=P7 k j y r hn
  by_cases e:p.1=j
  ·rw [Xz e,Xz e,if_neg (fun z=>hk (e.trans z))]
  ·rw [X0 e,X0 e,ih]
theorem Qv (kvs:List (κ×V)) (k j:κ) (y:V):valV (putK kvs k y) j=if j=k then some y else valV kvs j:=by
 unfold putK
 by_cases a:(kvs.any fun kv=>decide (kv.1=k))=true
 ·rw [if_pos a,Zb0]
  rw [T7] at a
  by_cases e:j=k
  ·obtain ⟨x,hx⟩:=Option.isSome_iff_exists.mp a
   rw [if_pos e,e,hx,Option.map_some,if_pos rfl]
  ·rw [if_neg e]
   cases valV kvs j with
   | none=>rfl
   | some x=>rw [Option.map_some,if_neg e]
 ·rw [if_neg a]
  refine P7 k j y kvs ?_
  rw [T7] at a
  cases q:valV kvs k with
  | none=>rfl
  | some x=>rw [q] at a; exact (a rfl).elim
theorem Xa (kvs:List (κ×V)) (k:κ) (v:V):(putK kvs k v).length<=kvs.length + 1:=by
 unfold putK
 split
 ·rw [List.length_map]; omega
 ·rw [List.length_append,List.length_cons,List.length_nil]; omega
theorem RelO.isSome_eq {o:Option V} {u:Option Value} (r:RelO o u):o.isSome=u.isSome:=by
 cases o with
 | none=>cases u with
  | none=>rfl
  | some _=>exact (show False from r).elim
 | some _=>cases u with
  | none=>exact (show False from r).elim
  | some _=>rfl
theorem RelO.getD {o:Option V} {u:Option Value} {d:V} {d':Value} (r:RelO o u) (rd:RelV d d'):RelV (o.getD d) (u.getD d'):=by
 cases o with
 | none=>cases u with
  | none=>exact rd
  | some _=>exact (show False from r).elim
 | some _=>cases u with
  | none=>exact (show False from r).elim
  | some _=>exact r
theorem KV.val {kvs:List (κ×V)} {vs:List (κ×Value)} (r:KV kvs vs) (k:κ):RelO (valV kvs k) (valueAt vs k):=by
 unfold KV at r
 induction r with
 | nil=>exact True.intro
 | @cons p q ps qs h t ih =>
  obtain ⟨h1,h2⟩:=h
  by_cases e:p.1=k
  ·have e':q.1=k:=h1.symm.trans e
   have b:valueAt (q::qs) k=some q.2:=by simp [valueAt,List.find?_cons,e']
   rw [Xz e,b]; exact h2
  ·have e':¬ q.1=k:=fun z=>e (h1.trans z)
   have b:valueAt (q::qs) k=valueAt qs k:=by simp [valueAt,List.find?_cons,e']
   rw [X0 e,b]; exact ih
theorem KV.any {kvs:List (κ×V)} {vs:List (κ×Value)} (r:KV kvs vs) (k:κ):(kvs.any fun kv=>decide (kv.1=k))=vs.any fun kv=>decide (kv.1=k):=by
 unfold KV at r
 induction r with
 | nil=>rfl
 | cons h t ih=>rw [List.any_cons,List.any_cons,ih,h.1]
theorem KV.repl {kvs:List (κ×V)} {vs:List (κ×Value)} (r:KV kvs vs) (k:κ) {y:V} {u:Value} (ry:RelV y u) :
  KV (kvs.map fun kv=>if kv.1=k then (kv.1,y) else kv) (vs.map fun kv=>if kv.1=k then (kv.1,u) else kv):=by
 unfold KV at r ⊢
 induction r with
 | nil=>exact .nil
 | @cons p q ps qs h t ih =>
  rw [List.map_cons,List.map_cons]
  refine .cons ?_ ih
  obtain ⟨h1,h2⟩:=h
  by_cases e:p.1=k
  ·rw [if_pos e,if_pos (h1.symm.trans e)]; exact ⟨h1,ry⟩
  ·rw [if_neg e,if_neg (fun z=>e (h1.trans z))]; exact ⟨h1,h2⟩
theorem KV.put {kvs:List (κ×V)} {vs:List (κ×Value)} (r:KV kvs vs) (k:κ) {y:V} {u:Value} (ry:RelV y u):KV (putK kvs k y) (stored vs k u):=by
 unfold putK stored
 rw [r.any k]
 by_cases e:(vs.any fun kv=>decide (kv.1=k))=true
 ·rw [if_pos e,if_pos e]; exact r.repl k ry
 ·rw [if_neg e,if_neg e]; exact Paired.snoc r ⟨rfl,ry⟩
theorem KV.drop {kvs:List (κ×V)} {vs:List (κ×Value)} (r:KV kvs vs) (k:κ):KV (Zoz kvs k) (without vs k):=by
 unfold KV at r ⊢
 unfold Zoz without
 induction r with
 | nil=>exact .nil
 | @cons p q ps qs h t ih =>
  obtain ⟨h1,h2⟩:=h
  rw [List.filter_cons,List.filter_cons]
  by_cases e:p.1=k
  ·have a:¬ decide (p.1≠k)=true:=by simp [e]
   have b:¬ decide (q.1≠k)=true:=by simp [h1.symm.trans e]
   rw [if_neg a,if_neg b]; exact ih
  ·have e':¬ q.1=k:=fun z=>e (h1.trans z)
   have a:decide (p.1≠k)=true:=by simp [e]
   have b:decide (q.1≠k)=true:=by simp [e']
   rw [if_pos a,if_pos b]; exact .cons ⟨h1,h2⟩ ih
theorem KV.length {kvs:List (κ×V)} {vs:List (κ×Value)} (r:KV kvs vs):kvs.length=vs.length:=Paired.length r
end
theorem Za9 {P:Program} {w:World} {k:Key} {u:Value} (r:RelV (kV k) u):(Yr P w).is k u=true:=by
 cases k with
 | inl i=>obtain ⟨t,e⟩:=(show ∃ t,u=Value.int i t from r); subst e; exact Za6 P w i t
 | inr x=>obtain ⟨t,e⟩:=(show ∃ t,u=Value.str x t from r); subst e; exact Za5 P w x t
theorem Nz {P:Program} {w:World}:∀ {ks:List Key} {us:List Value},Vals (ks.map kV) us->ItemsAre (Yr P w) ks us
 | [],_,r=>by rw [List.map_nil] at r; cases r; exact .nil
 | k::ks,_,r=>by
  rw [List.map_cons] at r
  cases r with
  | cons h t=>exact .cons (Za9 h) (Nz t)
abbrev KT (H:Hp):List (List Key×V)->List (List Key×Addr×Value)->Prop:=Paired fun p q=>p.1=q.1/\H q.2.1=some (.tup (p.1.map kV))/\RelV p.2 q.2.2
theorem KT.val {H:Hp} {kvs:List (List Key×V)} {xs:List (List Key×Addr×Value)} (r:KT H kvs xs) (k:List Key):RelO (valV kvs k) ((atKey xs k).map (·.2)):=by
 induction r with
 | nil=>exact True.intro
 | @cons p q ps qs h t ih =>
  obtain ⟨h1,_,h2⟩:=h
  by_cases e:p.1=k
  ·have e':q.1=k:=h1.symm.trans e
   have b:atKey (q::qs) k=some q.2:=by simp [atKey,List.find?_cons,e']
   rw [Xz e,b]; exact h2
  ·have e':¬ q.1=k:=fun z=>e (h1.trans z)
   have b:atKey (q::qs) k=atKey qs k:=by simp [atKey,List.find?_cons,e']
   rw [X0 e,b]; exact ih
theorem KT.repl {H:Hp} {kvs:List (List Key×V)} {xs:List (List Key×Addr×Value)} (r:KT H kvs xs) (k:List Key) {y:V} {u:Value} (ry:RelV y u) :
  KT H (kvs.map fun kv=>if kv.1=k then (kv.1,y) else kv) (xs.map (putAt k u)):=by
 induction r with
 | nil=>exact .nil
 | @cons p q ps qs h t ih =>
  rw [List.map_cons,List.map_cons]
  refine .cons ?_ ih
  obtain ⟨h1,h2,h3⟩:=h
  unfold putAt
  by_cases e:p.1=k
  ·rw [if_pos e,if_pos (h1.symm.trans e)]; exact ⟨h1,h2,ry⟩
  ·rw [if_neg e,if_neg (fun z=>e (h1.trans z))]; exact ⟨h1,h2,h3⟩
theorem KT.put {H:Hp} {kvs:List (List Key×V)} {xs:List (List Key×Addr×Value)} (r:KT H kvs xs) (k:List Key) {b:Addr} {y:V} {u:Value} (hb:H b=some (.tup (k.map kV))) (ry:RelV y u) :
  KT H (putK kvs k y) (storedH xs k b u):=by
 have e:(kvs.any fun kv=>decide (kv.1=k))=(atKey xs k).isSome:=by
  rw [T7,(r.val k).isSome_eq,Option.isSome_map]
 unfold putK storedH
 rw [e]
 by_cases q:(atKey xs k).isSome=true
 ·rw [if_pos q,if_pos q]; exact r.repl k ry
 ·rw [if_neg q,if_neg q]; exact Paired.snoc r ⟨rfl,hb,ry⟩
theorem KT.keeps {H H':Hp} {kvs:List (List Key×V)} {xs:List (List Key×Addr×Value)} (r:KT H kvs xs) (ht:∀ b ys,H b=some (.tup ys)->H' b=some (.tup ys)):KT H' kvs xs :=
 Paired.mapP r fun _ _ z=>⟨z.1,ht _ _ z.2.1,z.2.2⟩
section
variable {P:Program} {w:World} {H:Hp} {h:Heap} {a:Addr}
theorem Zns {u:HO} (ok:HOk P w H h) (e:Rd H a u):Y3 P w H h a u:=e.ok ok
theorem N7 {kvs:List (Key×V)} (ok:HOk P w H h) (e:Rd H a (.dK kvs)):kvs.length<=sizeLine/\(a == sysModules)=false/\∃ vs,KV kvs vs/\h.DictOf (Yr P w) a vs :=
 show Y3 P w H h a (.dK kvs) from Zns ok e
theorem Zlu {kvs:List (Key×V)} (ok:HOk P w H h) (e:H a=some (.dK kvs)):kvs.length<=sizeLine/\(a == sysModules)=false/\∃ vs,KV kvs vs/\h.DictOf (Yr P w) a vs:=N7 ok (.inl e)
theorem S2 {ks:List Key} (ok:HOk P w H h) (e:H a=some (.tup (ks.map kV))):(tupleKind (Yr P w)).is h ks a:=by
 obtain ⟨_,its,r,o,h1,h2,n,h3,_⟩:=(show Y3 P w H h a (.tup (ks.map kV)) from ok a _ e)
 exact ⟨o,its.toArray,n,h1,h2,h3,by simpa using Nz r⟩
theorem Zbi {kvs:List (List Key×V)} (ok:HOk P w H h) (e:Rd H a (.dT kvs)):kvs.length<=sizeLine/\(a == sysModules)=false /\
  ∃ xs,KT H kvs xs/\h.DictOfH (tupleKind (Yr P w)) a xs:=by
 obtain ⟨z,y,xs,r,o,es,ep,h1,h2,h3,h4,h5⟩:=(show Y3 P w H h a (.dT kvs) from Zns ok e)
 refine ⟨z,y,xs,r,o,es,ep,h1,h2,h3,h4,fun x hx=>?_,h5⟩
 have all:∀ {l:List (List Key×V)} {m:List (List Key×Addr×Value)},KT H l m->∀ x∈m,(tupleKind (Yr P w)).is h x.1 x.2.1:=by
  intro l m q
  induction q with
  | nil=>intro x hx; exact nomatch hx
  | @cons p q ps qs hq t ih =>
   intro x hx
   rcases List.mem_cons.mp hx with e | hx
   ·subst e
    exact S2 ok (by rw [<- hq.1]; exact hq.2.1)
   ·exact ih x hx
 exact all r x hx
theorem Zoy {kvs:List (List Key×V)} (ok:HOk P w H h) (e:H a=some (.dT kvs)):kvs.length<=sizeLine/\(a == sysModules)=false /\
  ∃ xs,KT H kvs xs/\h.DictOfH (tupleKind (Yr P w)) a xs:=Zbi ok (.inl e)
end
def DGet (H:Hp) (a:Addr) (y:V) (r:Option V):Prop :=
 (∃ kvs k,Rd H a (.dK kvs)/\y=kV k/\r=valV kvs k)\/∃ kvs k b,Rd H a (.dT kvs)/\y=.ref b/\H b=some (.tup (k.map kV))/\r=valV kvs k
def DPut (H:Hp) (a:Addr) (y v:V) (H':Hp):Prop :=
 (∃ kvs k,H a=some (.dK kvs)/\y=kV k/\kvs.length < sizeLine/\H'=upd H a (.dK (putK kvs k v))) \/
 ∃ kvs k b,H a=some (.dT kvs)/\y=.ref b/\H b=some (.tup (k.map kV))/\kvs.length < sizeLine/\H'=upd H a (.dT (putK kvs k v))
theorem DGet.k {H:Hp} {a:Addr} {kvs:List (Key×V)} {k:Key} (e:H a=some (.dK kvs)):DGet H a (kV k) (valV kvs k):=.inl ⟨kvs,k,.inl e,rfl,rfl⟩
theorem DGet.t {H:Hp} {a b:Addr} {kvs:List (List Key×V)} {k:List Key} (e:H a=some (.dT kvs)) (eb:H b=some (.tup (k.map kV))):DGet H a (.ref b) (valV kvs k):=.inr ⟨kvs,k,b,.inl e,rfl,eb,rfl⟩
theorem DPut.k {H:Hp} {a:Addr} {kvs:List (Key×V)} {k:Key} {v:V} (e:H a=some (.dK kvs)) (hl:kvs.length < sizeLine):DPut H a (kV k) v (upd H a (.dK (putK kvs k v))):=.inl ⟨kvs,k,e,rfl,hl,rfl⟩
theorem DPut.t {H:Hp} {a b:Addr} {kvs:List (List Key×V)} {k:List Key} {v:V} (e:H a=some (.dT kvs)) (eb:H b=some (.tup (k.map kV))) (hl:kvs.length < sizeLine) :
  DPut H a (.ref b) v (upd H a (.dT (putK kvs k v))):=.inr ⟨kvs,k,b,e,rfl,eb,hl,rfl⟩
section
variable {X:Cx} {pins:List (Addr×Obj)} {σ:St} {H:Hp} {s:Shared} {a:Addr} {y v:V} {u r:Value} {o:Option V} {A:Around} {E:Value->Shared->Prop}
theorem Inv.big (I:Inv X pins σ H s):sysModules < s.heap.objs.size:=by
 have h:mainGlobals < s.heap.objs.size:=(I.mod.glob.keeps I.bk).lt
 exact Nat.lt_trans (by decide) h
theorem Zgj {Q:Value->Shared->Prop} (hu:A.units + 1 < cLine) (I:Inv X pins σ H s) (g:DGet H a y (some v)) (ry:RelV y u) (h:∀ w' s',Inv X pins σ H s'->RelV v w'->Q w' s') :
  wpAny (model X.prog X.w) A (getItem (.ref a) u) Q E s:=by
 rcases g with ⟨kvs,k,e,ey,l⟩ | ⟨kvs,k,b,e,ey,eb,l⟩
 ·subst ey
  obtain ⟨z,hd,vs,rel,dd⟩:=N7 I.hok e
  obtain ⟨w',hw,rw'⟩:=RelO.some_of (v:=v) (o:=valueAt vs k) (by rw [l]; exact rel.val k)
  exact wpAny_getItem_of (Za9 ry) dd.mapOf hw (h w' _ (I.tok _) rw')
 ·subst ey
  cases (show u=Value.ref b from ry)
  obtain ⟨z,hd,xs,rel,dd⟩:=Zbi I.hok e
  obtain ⟨w',hw,rw'⟩:=RelO.some_of (v:=v) (o:=(atKey xs k).map (·.2)) (by rw [l]; exact rel.val k)
  obtain ⟨p,hp,hp2⟩:=Option.map_eq_some_iff.mp hw
  refine wpAny_getItem_heap (tupleKind_room_in1 hu) (S2 I.hok eb) dd hp ?_
  rw [hp2]
  exact h w' _ (I.tok _) rw'
theorem d_in {Q:Value->Shared->Prop} (hu:A.units + 1 < cLine) (I:Inv X pins σ H s) (g:DGet H a y o) (ry:RelV y u) (h:∀ s',Inv X pins σ H s'->Q (.bool o.isSome) s') :
  wpAny (model X.prog X.w) A (compareOp .In u (.ref a)) Q E s:=by
 rcases g with ⟨kvs,k,e,ey,l⟩ | ⟨kvs,k,b,e,ey,eb,l⟩
 ·subst ey
  obtain ⟨z,hd,vs,rel,dd⟩:=N7 I.hok e
  refine wpAny_in_of (Za9 ry) hd dd.mapOf ?_
  rw [<- (rel.val k).isSome_eq,<- l]
  exact h _ (I.tok _)
 ·subst ey
  cases (show u=Value.ref b from ry)
  obtain ⟨z,hd,xs,rel,dd⟩:=Zbi I.hok e
  refine wpAny_in_heap (tupleKind_room_in1 hu) (S2 I.hok eb) hd dd ?_
  have q:=(rel.val k).isSome_eq
  rw [Option.isSome_map] at q
  rw [<- q,<- l]
  exact h _ (I.tok _)
theorem Zlw {Q:Value->Shared->Prop} (hu:A.units + 1 < cLine) (I:Inv X pins σ H s) (g:DGet H a y o) (ry:RelV y u) (h:∀ s',Inv X pins σ H s'->Q (.bool (!o.isSome)) s') :
  wpAny (model X.prog X.w) A (compareOp .NotIn u (.ref a)) Q E s:=by
 rcases g with ⟨kvs,k,e,ey,l⟩ | ⟨kvs,k,b,e,ey,eb,l⟩
 ·subst ey
  obtain ⟨z,hd,vs,rel,dd⟩:=N7 I.hok e
  refine wpAny_notIn_of (Za9 ry) hd dd.mapOf ?_
  rw [<- (rel.val k).isSome_eq,<- l]
  exact h _ (I.tok _)
 ·subst ey
  cases (show u=Value.ref b from ry)
  obtain ⟨z,hd,xs,rel,dd⟩:=Zbi I.hok e
  refine wpAny_notIn_heap (tupleKind_room_in1 hu) (S2 I.hok eb) hd dd ?_
  have q:=(rel.val k).isSome_eq
  rw [Option.isSome_map] at q
  rw [<- q,<- l]
  exact h _ (I.tok _)
theorem Pm {h':Heap} {t':Nat} {ob:HO} (I:Inv X pins σ H s) (mu:Mut (H a)) (hs:Heap.SameBut a s.heap h') (he:∃ q,h'.get? a=some q) (new:Y3 X.prog X.w (upd H a ob) h' a ob) :
  Inv X pins σ (upd H a ob) { s with heap:=h',toks:=t' } :=
 I.write (x:=a) (e:=a) mu (.inl rfl) (fun b q hb z=>(hs.2 b hb).trans z) he new
theorem Zjn {P:Program} {w:World} {H':Hp} {h':Heap} {kvs:List (Key×V)} {vs:List (Key×Value)} (z:kvs.length<=sizeLine) (hd:(a == sysModules)=false) (rel:KV kvs vs) (dd:h'.DictOf (Yr P w) a vs) :
  Y3 P w H' h' a (.dK kvs):=⟨z,hd,vs,rel,dd⟩
theorem Zgi {H':Hp} {Q:Unit->Shared->Prop} (hu:A.units + 1 < cLine) (I:Inv X pins σ H s) (g:DPut H a y v H') (ry:RelV y u) (rv:RelV v r) (h:∀ s',Inv X pins σ H' s'->Q () s') :
  wpAny (model X.prog X.w) A (setItem (.ref a) u r) Q E s:=by
 rcases g with ⟨kvs,k,e,ey,l,eH⟩ | ⟨kvs,k,b,e,ey,eb,l,eH⟩
 ·subst ey eH
  obtain ⟨z,hd,vs,rel,dd⟩:=Zlu I.hok e
  have hz:vs.length<=sizeLine:=by rw [<- rel.length]; exact z
  have hl:(putK kvs k v).length<=sizeLine:=by have:=Xa kvs k v; omega
  refine wpAny_setItem_pairs (hsz:=hz) (Za9 ry) dd fun h' dd' hs=>h _ ?_
  have he:∃ q,h'.get? a=some q:=let ⟨q,_,_,hq,_⟩:=dd'; ⟨q,hq⟩
  exact Pm I (by rw [e]; exact True.intro) hs he (Zjn hl hd (rel.put k rv) dd')
 ·subst ey eH
  cases (show u=Value.ref b from ry)
  obtain ⟨z,hd,xs,rel,dd⟩:=Zoy I.hok e
  have hz:xs.length<=sizeLine:=by rw [<- Paired.length rel]; exact z
  have hl:(putK kvs k v).length<=sizeLine:=by have:=Xa kvs k v; omega
  refine wpAny_setItem_heap (hsz:=hz) (tupleKind_room_in1 hu) (S2 I.hok eb) dd fun h' dd' hs=>h _ ?_
  obtain ⟨q,es,ep,hq,h2,h3,h4,_,h5⟩:=dd'
  refine Pm I (by rw [e]; exact True.intro) hs ⟨q,hq⟩ ⟨hl,hd,_,(rel.put k eb rv).keeps fun c ys ec=>?_,q,es,ep,hq,h2,h3,h4,h5⟩
  rw [Zm (Wg ec e (fun z=>nomatch z))]
  exact ec
end
def NoSl (i:Expr):Prop:=∀ ov iv,subscripted i false ov iv=operate [ov,iv] (getItem ov iv)
theorem Zj9 {prog:Program} {w:World} {A:Around} {E:Value->Shared->Prop} {s:Shared} {env:Env} {value slice:Expr} {pos:Pos} {T id:String} {Q:Value->Shared->Prop}
  (hl:typeLookup (.type T) "__getitem__"=pure (some (.builtin id))) (hs:NoSl slice)
  (h:wpAny (model prog w) A (eval value env) (fun o s₁=>wpAny (model prog w) A (eval slice env) (fun i s₂=>s₂.TypeIs o T/\wpAny (model prog w) A (getItem o i) Q E s₂) E s₁) E s) :
  wpAny (model prog w) A (eval (.Subscript value slice pos) env) Q E s:=by
 refine Subscript_ (wpAny_mono h (fun o s₁ h₁=>wpAny_mono h₁ (fun i s₂ h₂=>?_) fun _ _ x=>x) fun _ _ x=>x)
 obtain ⟨hT,h₂⟩:=h₂
 unfold subscriptTail
 refine wpAny_bind ?_
 rw [getitemInPython_of_ne hT.not_modules]
 refine wpAny_bind (wpAny_specialOf hT hl ?_)
 have fin:wpAny (model prog w) A (subscripted slice false o i) (fun r s₃=>wpAny (model prog w) A (letTemporaryGo value o r >>= fun _=>pure r) Q E s₃) E s₂:=by
  rw [hs o i]
  exact wpAny_operating (wpAny_mono h₂ (fun r s₃ h₃=>wpAny_bind (wpAny_letTemporaryGo (wpAny_pure h₃))) fun _ _ x=>x)
 first
  | exact wpAny_pure (wpAny_bind fin)
  | exact wpAny_bind (wpAny_pure (wpAny_bind fin))
  | exact wpAny_bind fin
theorem Zbj {X:Cx} {pins:List (Addr×Obj)} {σ:St} {H:Hp} {s:Shared} {a:Addr} {y:V} {o:Option V} (I:Inv X pins σ H s) (g:DGet H a y o):s.TypeIs (.ref a) "dict":=by
 rcases g with ⟨kvs,k,e,_,_⟩ | ⟨kvs,k,b,e,_,_,_⟩
 ·obtain ⟨_,_,vs,_,dd⟩:=N7 I.hok e
  exact dd.typeIs
 ·obtain ⟨_,_,xs,_,dd⟩:=Zbi I.hok e
  exact dd.typeIs
def Znb (td ty:TE):TE:=fun σ H Q=>td σ H fun x H1=>ty σ H1 fun y H2=>∃ a v,x=.ref a/\DGet H2 a y (some v)/\Q v H2
def tDIn (ty td:TE):TE:=fun σ H Q=>ty σ H fun y H1=>td σ H1 fun x H2=>∃ a o,x=.ref a/\DGet H2 a y o/\Q (.bl o.isSome) H2
def Zee (ty td:TE):TE:=fun σ H Q=>ty σ H fun y H1=>td σ H1 fun x H2=>∃ a o,x=.ref a/\DGet H2 a y o/\Q (.bl (!o.isSome)) H2
def Znr (td ty tv:TE):TS:=fun D σ H=>tv σ H fun v H1=>td σ H1 fun x H2=>ty σ H2 fun y H3=>∃ a H4,x=.ref a/\DPut H3 a y v H4/\D.nx σ H4
section
variable {X:Cx} {o i value:Expr} {pos pos':Pos} {td ty tv:TE}
theorem Zff (hu:X.A.units + 1 < cLine) (ho:PE X o td) (hi:PE X i ty) (hs:NoSl i):PE X (.Subscript o i pos) (Znb td ty):=by
 intro pins s σ H Q I h
 refine Zj9 PySem.F.slot_dict_getitem.lookup hs (thn (ho pins s σ H _ I h) fun u s1 ⟨x,H1,I1,rx,q1⟩=>thn (hi pins s1 σ H1 _ I1 q1) fun iv s2 ⟨y,H2,I2,ry,a,v,ex,g,q2⟩=>?_)
 subst ex
 obtain rfl:u=Value.ref a:=rx
 exact ⟨Zbj I2 g,Zgj hu I2 g ry fun w' s3 I3 rw'=>⟨v,H2,I3,rw',q2⟩⟩
theorem Zn2 (hu:X.A.units + 1 < cLine) (hi:PE X i ty) (ho:PE X o td):PC X .In i o (tDIn ty td):=by
 intro pins s σ H Q I h
 refine thn (hi pins s σ H _ I h) fun iv s1 ⟨y,H1,I1,ry,q1⟩=>thn (ho pins s1 σ H1 _ I1 q1) fun u s2 ⟨x,H2,I2,rx,a,ov,ex,g,q2⟩=>?_
 subst ex
 obtain rfl:u=Value.ref a:=rx
 exact d_in hu I2 g ry fun s3 I3=>⟨.bl ov.isSome,H2,I3,rfl,q2⟩
theorem Nq (hu:X.A.units + 1 < cLine) (hi:PE X i ty) (ho:PE X o td):PC X .NotIn i o (Zee ty td):=by
 intro pins s σ H Q I h
 refine thn (hi pins s σ H _ I h) fun iv s1 ⟨y,H1,I1,ry,q1⟩=>thn (ho pins s1 σ H1 _ I1 q1) fun u s2 ⟨x,H2,I2,rx,a,ov,ex,g,q2⟩=>?_
 subst ex
 obtain rfl:u=Value.ref a:=rx
 exact Zlw hu I2 g ry fun s3 I3=>⟨.bl (!ov.isSome),H2,I3,rfl,q2⟩
theorem Zax (hu:X.A.units + 1 < cLine) (ho:PE X o td) (hi:PE X i ty) (hv:PE X value tv) (hs:swapsWith value (some (.Subscript o i pos')) pos.line X.env=pure false) :
  PS X (.Assign [.Subscript o i pos'] value pos) (Znr td ty tv):=by
 intro pins s σ H D I h
 refine wpAny_Assign_Subscript (thn (hv pins s σ H _ I h) fun r s1 ⟨v,H1,I1,rv,q1⟩=>thn (ho pins s1 σ H1 _ I1 q1) fun u s2 ⟨x,H2,I2,rx,q2⟩=>thn (hi pins s2 σ H2 _ I2 q2) fun iv s3 ⟨y,H3,I3,ry,a,H4,ex,g,q3⟩=>?_) hs
 subst ex
 obtain rfl:u=Value.ref a:=rx
 exact Zgi hu I3 g ry rv fun s4 I4=>⟨σ,H4,I4,q3⟩
end
theorem Zcr {P:Program} {w:World} {H:Hp} (h:Heap) (hb:sysModules < h.objs.size):Y3 P w H (h.push { cls:=.type "dict",data:=.dict #[] }) h.objs.size (.dK []) :=
 ⟨Nat.zero_le _,beq_eq_false_iff_ne.mpr (Ne.symm (Nat.ne_of_lt hb)),[],.nil,Heap.DictOf.new h⟩
theorem Zcq {P:Program} {w:World} {H:Hp} (h:Heap) (hb:sysModules < h.objs.size):Y3 P w H (h.push { cls:=.type "dict",data:=.dict #[] }) h.objs.size (.dT []) :=
 ⟨Nat.zero_le _,beq_eq_false_iff_ne.mpr (Ne.symm (Nat.ne_of_lt hb)),[],.nil,_,#[],0,Heap.get?_push_size _ rfl,⟨rfl,rfl,rfl⟩,rfl,rfl,List.nodup_nil⟩
def Zi0:TE:=fun _ H Q=>∀ p,H p=none->Q (.ref p) (upd H p (.dK []))
def Zm9:TE:=fun _ H Q=>∀ p,H p=none->Q (.ref p) (upd H p (.dT []))
section
variable {X:Cx} {pos:Pos}
theorem Zcf:PE X (.Dict [] [] pos) Zi0:=fun pins s σ H Q I h =>
 wpAny_Dict_empty ⟨.ref s.heap.objs.size,_,I.laid (a:=s.heap.objs.size) (o:=.dK []) (t':=s.toks) (fun _ _ q=>Heap.get?_push_of_some _ q) (Nat.le_refl _) (Zcr s.heap I.big),rfl,h _ (I.hok.fresh (Nat.le_refl _))⟩
theorem Zhy:PE X (.Dict [] [] pos) Zm9:=fun pins s σ H Q I h =>
 wpAny_Dict_empty ⟨.ref s.heap.objs.size,_,I.laid (a:=s.heap.objs.size) (o:=.dT []) (t':=s.toks) (fun _ _ q=>Heap.get?_push_of_some _ q) (Nat.le_refl _) (Zcq s.heap I.big),rfl,h _ (I.hok.fresh (Nat.le_refl _))⟩
end
structure M1 (X:Cx) (o:Expr) (m:Str) (apos:Pos) (e:Expr) (cpos:Pos):Prop where
 base:attributeBase o m X.env (eval o X.env)=eval o X.env
 few:((backTo cpos (starEach [e] X.env)).all (fun x=>!x.1) && (backToKw cpos (keywordEach [] X.env)).all (fun x=>x.1.isSome)
  && decide (([e]:List Expr).length + ([]:List Keyword).length + (if ([]:List Keyword).isEmpty then 0 else 1) < 30))=true
 line:(apos.endLine == cpos.line)=true
 trees:backTo cpos (starEach [e] X.env)=[(false,eval e X.env)]
structure M2 (X:Cx) (o:Expr) (m:Str) (apos:Pos) (e f:Expr) (cpos:Pos):Prop where
 base:attributeBase o m X.env (eval o X.env)=eval o X.env
 few:((backTo cpos (starEach [e,f] X.env)).all (fun x=>!x.1) && (backToKw cpos (keywordEach [] X.env)).all (fun x=>x.1.isSome)
  && decide (([e,f]:List Expr).length + ([]:List Keyword).length + (if ([]:List Keyword).isEmpty then 0 else 1) < 30))=true
 line:(apos.endLine == cpos.line)=true
 trees:backTo cpos (starEach [e,f] X.env)=[(false,eval e X.env),(false,eval f X.env)]
def IsD (H:Hp) (a:Addr):Prop:=(∃ kvs,Rd H a (.dK kvs))\/∃ kvs,Rd H a (.dT kvs)
theorem Zop {X:Cx} {pins:List (Addr×Obj)} {σ:St} {H:Hp} {s:Shared} {a:Addr} (I:Inv X pins σ H s) (d:IsD H a) :
  s.TypeIs (.ref a) "dict"/\(∀ b,Value.ref a=.ref b->∃ ob,s.heap.get? b=some ob/\ob.dict=none)/\(a == sysModules)=false:=by
 rcases d with ⟨kvs,e⟩ | ⟨kvs,e⟩
 ·obtain ⟨_,hd,vs,_,dd⟩:=N7 I.hok e
  refine ⟨dd.typeIs,fun b q=>?_,hd⟩
  cases q
  obtain ⟨ob,_,_,h1,h2,_⟩:=dd
  exact ⟨ob,h1,h2.2.1⟩
 ·obtain ⟨_,hd,xs,_,dd⟩:=Zbi I.hok e
  refine ⟨dd.typeIs,fun b q=>?_,hd⟩
  cases q
  obtain ⟨ob,_,_,h1,h2,_⟩:=dd
  exact ⟨ob,h1,h2.2.1⟩
section
variable {X:Cx} {pins:List (Addr×Obj)} {σ:St} {H:Hp} {s:Shared} {a:Addr} {y:V} {u:Value} {o:Option V} {A:Around} {E:Value->Shared->Prop}
theorem Zo1 {Q:Value->Shared->Prop} (hu:A.units + 1 < cLine) (I:Inv X pins σ H s) (g:DGet H a y o) (ry:RelV y u) (h:∀ w' s',Inv X pins σ H s'->RelV (o.getD .non) w'->Q w' s') :
  wpAny (model X.prog X.w) A (call (.builtin "dict.get") [.ref a,u]) Q E s:=by
 rcases g with ⟨kvs,k,e,ey,l⟩ | ⟨kvs,k,b,e,ey,eb,l⟩
 ·subst ey
  obtain ⟨z,hd,vs,rel,dd⟩:=N7 I.hok e
  refine call_meetsIn PySem.F.slot_dict_get dd.typeIs PySem.F.entry_dict_get (PySem.F.args_dict_get_2 _ _) (meets_dict_get (Yr X.prog X.w) a (Za9 ry) hd) ⟨_,dd.mapOf,h _ _ (I.tok _) ?_⟩
  rw [l]
  exact (rel.val k).getD rfl
 ·subst ey
  cases (show u=Value.ref b from ry)
  obtain ⟨z,hd,xs,rel,dd⟩:=Zbi I.hok e
  refine call_meetsIn PySem.F.slot_dict_get dd.typeIs PySem.F.entry_dict_get (PySem.F.args_dict_get_2 _ _) (meetsH_dict_get (tupleKind (Yr X.prog X.w)) a b hd) ⟨tupleKind_room_in1 hu,k,xs,S2 I.hok eb,dd,h _ _ (I.tok _) ?_⟩
  rw [l]
  exact (rel.val k).getD rfl
end
def Zna (td ty:TE):TE:=fun σ H Q=>td σ H fun x H1=>∃ a,x=.ref a/\IsD H1 a/\ty σ H1 fun y H2=>∃ o,DGet H2 a y o/\Q (o.getD .non) H2
section
variable {X:Cx} {o e:Expr} {apos cpos:Pos} {td ty:TE}
theorem Zhz (hu:X.A.units + 1 < cLine) (ho:PE X o td) (he:PE X e ty) (m:M1 X o "get" apos e cpos):PE X (.Call (.Attribute o "get" apos) [e] [] cpos) (Zna td ty):=by
 intro pins s σ H Q I h
 refine wpAny_Call_method m.base m.few m.line PySem.F.plainAttrs_dict PySem.F.slot_dict_get PySem.F.type_dict_get (thn (ho pins s σ H _ I h) fun u s1 ⟨x,H1,I1,rx,a,ex,d,q1⟩=>?_)
 subst ex
 obtain rfl:u=Value.ref a:=rx
 obtain ⟨t1,t2,_⟩:=Zop I1 d
 refine ⟨t1,t2,?_⟩
 rw [m.trees]
 refine Calls.callWith_builtin rfl (Calls.evalArgs_plain (Calls.spliced_cons (thn (he pins s1 σ H1 _ I1 q1) fun iv s2 ⟨y,H2,I2,ry,ov,g,q2⟩=>Calls.spliced_nil ?_)))
 exact Zo1 hu I2 g ry fun w' s3 I3 rw'=>⟨_,H2,I3,rw',q2⟩
end
end L2
namespace Att
open PySem PySem.W PySem.Calls PyProof.Rows
theorem Rb {P:Params} {h:Heap}:∀ (ns:List Int) (vs:List Value),WellAll P h vs (ns.map WData.int)->IntsAre vs ns:=by
 intro ns
 induction ns with
 | nil =>
  intro vs w
  rw [List.map_nil] at w
  cases w
  exact .nil
 | cons n ns ih =>
  intro vs w
  rw [List.map_cons] at w
  cases w with
  | cons a b =>
   cases a
   exact .cons _ _ (ih _ b)
theorem Zeu {l:OpenLaw} {n:Nat} (hn:l.most=some n) {P:Params} {h:Heap} {args:List WData} {vals:List Value}
  (hpre:l.row.toRowW.claim.pre args=true) (hwl:WellAll P h vals args) :
  ∃ a vs ns,vals=[Value.ref a]/\args=[WData.list (ns.map WData.int)]/\h.get? a=some { cls:=.type "list",data:=.seq vs.toArray }/\IntsAre vs ns/\ns.length<=n:=by
 have hsh:WShape.hasAll [] args [.list .int]=true:=(pre_splitW hpre).1
 have hc:l.pre.holds [] { args:=args }=true:=(pre_splitW hpre).2
 obtain ⟨d,r,rfl,h1,h2⟩:=hasAllW_cons hsh
 obtain rfl:=hasAllW_nil h2
 obtain ⟨xs,rfl,h3⟩:=hasW_list h1
 obtain ⟨ns,rfl⟩:=items_int h3
 have hlen:ns.length<=n:=by
  unfold OpenLaw.pre at hc
  have h4:(WTm.not (.lt (.lit (.int (n:Int))) (.len (.arg 0)))).holds [] { args:=[.list (ns.map .int)] }=true:=by
   have h4:=(holds_andW hc).1
   rw [hn] at h4
   exact h4
  have h5:=condW_of h4 (w_not (w_lt w_lit (w_len_list (w_arg rfl))))
  rw [List.length_map] at h5
  refine Nat.le_of_not_lt fun q=>?_
  have q':(n:Int) < ((ns.length:Nat):Int):=by omega
  first
   | (rw [decide_eq_true q'] at h5; exact absurd h5 (by decide))
   | (simp at h5; omega)
 cases hwl with
 | cons w1 w2 =>
  cases w2
  cases w1 with
  | list ho hall=>exact ⟨_,_,ns,rfl,rfl,ho,Rb ns _ hall,hlen⟩
theorem Ze7 (l:OpenLaw) (args:List WData):l.row.toRowW.claim.post args (.bool true) args=true :=
 postW_of (r:=l.row.toRowW) (X:=(true == true))
  (show WShape.has [] (.bool true) .bool=true by first | rfl | decide | simp [WShape.has,WShape.arms,WShape.armsAll])
  (show (WTm.eq .res (.lit (.bool true))).value [] { args:=args,res:=some (.bool true),after:=args }=some (.bool (true == true)) from w_eq_bool (w_res rfl) w_lit) rfl
theorem attach_call {l:OpenLaw} {n:Nat} {q:Program} {loose:List Str} {XP:(Str->Option Value)->Heap->Prop} {YP:World->Heap->Prop} {d:DefRec}
  (hn:l.most=some n) (hdf:d.params.defaults=[])
  (call:∀ (w:World) (s₀ s₁:Shared) (mg mb:Str->Option Value) (fa:Addr) (o:Obj) (pm cd doc:Value) (a:Addr) (vs:List Value) (ns:List Int),
   Ground q loose [] XP w s₀ mg mb s₁.heap->YP w s₁.heap ->
   s₁.heap.get? fa=some o->o.data=.func (docDef d.name d.params d.body d.scope pm cd doc)->s₁.heap.CodeRec cd d.name->mg d.name=some (.ref fa) ->
   s₁.heap.get? a=some { cls:=.type "list",data:=.seq vs.toArray }->IntsAre vs ns->ns.length<=n->s₁.gens=#[] ->
   codeAny (model l.prog w) callerA (.call (.ref fa) ⟨[.ref a],[]⟩) (fun r s'=>r=.ok (.ret (.bool true))/\OldK s₁.heap s'.heap/\s'.os=s₁.os/\AllBare s'.gens) s₁) :
  WalkO q loose XP YP l.row.toRowW d [] (fun f vs=>PySem.call f vs):=by
 intro w s₀ s₁ mg mb G Y fa o pm cd doc dV kV ho hd hcd hD hmg hg args vals as hpre hlay hrd hwl hlo
 obtain rfl:dV=.none:=Dflts.none hD hdf
 obtain rfl:kV=.none:=Dflts.noKw hD
 obtain ⟨a,vs,ns,rfl,rfl,hobj,hints,hlen⟩:=Zeu hn hpre hwl
 refine enter_call (codeAny_mono (call w s₀ s₁ mg mb fa o pm cd doc a vs ns G Y ho (fd_plain hd) hcd hmg hobj hints hlen hg) fun r s' hq=>?_)
 obtain ⟨rfl,h2,h3,h4⟩:=hq
 exact ⟨.inl ⟨.bool true,.bool true,[],rfl,fun _=>rfl,.bool true,Ze7 l _,fun _=>⟨List.Pairwise.nil,fun _ hm=>(nomatch hm)⟩⟩,h2,h3,h4⟩
end Att
namespace L2
open PySem PySem.Spec PyProof.Rows
theorem P6:∀ {vs:List Value} {ns:List Int},IntsAre vs ns->Vals (ns.map V.int) vs
 | _,_,.nil=>.nil
 | _,_,.cons n t h=>.cons ⟨t,rfl⟩ (P6 h)
def X5 (s:Stmt) (j:Nat):Stmt:=match s with
 | .ClassDef _ _ _ body _ _ _ _ _ _ _=>body.getD j (.Pass ⟨0,0,0,0⟩)
 | _=>.Pass ⟨0,0,0,0⟩
def Zx (s:Stmt):Arguments:=match s with
 | .FunctionDef _ a _ _ _ _ _ _ _ _=>a
 | _=>{ posonlyargs:=[],args:=[],vararg:=none,kwonlyargs:=[],kw_defaults:=[],kwarg:=none,defaults:=[] }
def Zu (s:Stmt):List Stmt:=match s with
 | .FunctionDef _ _ b _ _ _ _ _ _ _=>b
 | _=>[]
def Zi (s:Stmt):Scope:=match s with
 | .FunctionDef _ _ _ _ _ _ sc _ _ _=>sc
 | _=>{ kind:=.function,names:=[],isGenerator:=false,isCoroutine:=false }
abbrev CX0:CXT:=fun _ _ _ _ _ _=>False
abbrev E0:XK:=fun _ _ _=>False
theorem Zh0 {X:Cx}:Ur CX0 X E0:=fun _ _ _ _ _ _ _ h=>h.elim
structure Fun (K:W.Frag) (x qual:Str) (st:Stmt) (f:Addr) (fd:FuncData):Prop where
 ex:∃ (oc:Value) (od:Option Addr) (kV doc pm:Value) (an:Option Addr) (cdv ct:Value) (osl:Array (Option Value)),
  fd=W.fnOf x qual (Zx st) (Zu st) (Zi st) .none kV doc pm an cdv ct/\K.lookup f=some ⟨oc,od,.func fd,osl⟩/\W.codeIn K cdv qual=true
 kp:W.keepIn K (.ref f)=true
section
variable {P:Program} {w:World} {K:W.Frag} {mg:Str->Option Value} {base:Heap}
theorem Fun.ok {x qual:Str} {st:Stmt} {f:Addr} {fd:FuncData} {N ps:List Str} {k:Nat} {sp:Sp} (F:Fun K x qual st f fd) (S:FnScope N ps (Zi st)) (len:∀ vs H Q E,sp vs H Q E->vs.length=ps.length)
  (hbody:∀ (cdv:Value) (A:Around) (outer:List Env) (s:Shared) (H:Hp) (vs:List V) (Q:VK) (E:XK),Room k (A.deeper (envOfC qual (Zi st) s.heap.objs.size f cdv))->sp vs H Q E ->
   ∃ t,PSs (cxOf CX0 P w K mg base N qual (Zi st) f cdv A outer s H E).nox (Zu st) t/\t { nx:=fun _ H'=>Q .non H',rt:=Q } (Ut N vs) H):FnOk P w K mg base CX0 (k + 1) f fd ps sp:=by
 obtain ⟨oc,od,kV,doc,pm,an,cdv,ct,osl,rfl,lk,hcd⟩:=F.ex
 refine Zlo lk hcd S len fun A outer s H vs Q E hr hsp=>?_
 obtain ⟨t,h,q⟩:=hbody cdv A outer s H vs Q E hr hsp
 exact ⟨t,h.nox,q⟩
theorem Fun.binds {x qual:Str} {st:Stmt} {f:Addr} {fd:FuncData} {ps:List Str} (F:Fun K x qual st f fd)
  (h:∀ (kV doc pm:Value) (an:Option Addr) (cdv ct:Value) (us:List Value),us.length=ps.length->bindArgs (W.fnOf x qual (Zx st) (Zu st) (Zi st) .none kV doc pm an cdv ct) ⟨us,[]⟩=pure (ps.zip us)):Vn K fd ps []:=by
 obtain ⟨oc,od,kV,doc,pm,an,cdv,ct,osl,rfl,lk,hcd⟩:=F.ex
 exact .all (h kV doc pm an cdv ct)
theorem Yb {x qual:Str} {st:Stmt} {f:Addr} {oc:Value} {od an:Option Addr} {osl:Array (Option Value)} {kV doc pm cdv ct:Value} (l:K.lookup f=some ⟨oc,od,.func (W.fnOf x qual (Zx st) (Zu st) (Zi st) .none kV doc pm an cdv ct),osl⟩)
  (c:W.codeIn K cdv qual=true) (k:W.keepIn K (.ref f)=true):Fun K x qual st f (W.fnOf x qual (Zx st) (Zu st) (Zi st) .none kV doc pm an cdv ct):=⟨⟨oc,od,kV,doc,pm,an,cdv,ct,osl,rfl,l,c⟩,k⟩
end
theorem Wt {A:Around} {k:Nat} (hr:Room k A):A.units + 1 < cLine:=Nat.lt_of_le_of_lt (Nat.add_le_add_left (by decide:1<=64) _) hr.units
section
variable {X:Cx}
theorem pv (i:Nat) {x:Str} {pos:Pos} (hN:X.N[i]?=some x:=by rfl) (hv:Vis X.env.scope x:=by first | exact Or.inl rfl | exact Or.inr (Or.inl rfl) | exact Or.inr (Or.inr rfl)) (hd:(x == ("__debug__":Str))=false:=by decide)
  (hcd:(x == ("__classdict__":Str))=false:=by decide):PE X (.Name x pos) (tVar i):=Zn0 hN hv hd hcd
end
theorem iteF {A B:Prop} (h:B):if false=true then A else B:=by
 rw [if_neg Bool.false_ne_true]
 exact h
theorem iteT {A B:Prop} (h:A):if true=true then A else B:=by
 rw [if_pos rfl]
 exact h
theorem ite2 {c A B:Prop} [Decidable c] (h1:c->A) (h2:¬ c->B):if c then A else B:=by
 by_cases h:c
 ·rw [if_pos h]
  exact h1 h
 ·rw [if_neg h]
  exact h2 h
theorem Zqz {c A B:Prop} [Decidable c] (hc:c) (h:B):if (!decide c)=true then A else B:=by
 rw [decide_eq_true hc]
 exact iteF h
def Same (H H':Hp):Prop:=∀ b o,H b=some o->H' b=some o
theorem Same.refl (H:Hp):Same H H:=fun _ _ h=>h
theorem Same.trans {H H1 H2:Hp} (a:Same H H1) (b:Same H1 H2):Same H H2:=fun c o h=>b c o (a c o h)
theorem Same.free {H H':Hp} (e:Same H H') {l:Addr} (h:H' l=Option.none):H l=Option.none:=by
 cases q:H l with
 | none=>rfl
 | some o =>
  rw [e l o q] at h
  cases h
theorem Same.seq {K:W.Frag} {H H':Hp} {a:Addr} {xs:List V} (e:Same H H') (h:SqL K H a xs):SqL K H' a xs:=by
 rcases h with (h | ⟨o,h⟩) | h
 ·exact .inl (.inl (e _ _ h))
 ·exact .inl (.inr ⟨o,e _ _ h⟩)
 ·exact .inr h
end L2
namespace L2
open PySem
def Ws (cells:List (Str×Addr)):List (Str×NameKind)->List (Str×Addr)->List (Str×Addr)
 | [],acc=>acc
 | (n,k)::r,acc=>if k == .free then Ws cells r ((n,(cells.lookup n).getD 0)::acc) else Ws cells r acc
def Zgt (env:Env) (l:List (Str×NameKind)) (acc:List (Str×Addr)):Sem (List (Str×Addr)):=do
 let mut cs:=acc
 for (name,kind) in l do
  if kind == .free then cs:=(name,<- cellOf env name)::cs
 return cs
theorem Qs {env:Env}:∀ (l:List (Str×NameKind)) (acc:List (Str×Addr)),(∀ y∈l,y.2=.free->∃ c,env.cells.lookup y.1=some c) ->
  Zgt env l acc=pure (Ws env.cells l acc)
 | [],acc,_=>rfl
 | (n,k)::r,acc,h=>by
  have ih:=fun acc=>Qs r acc fun y hy=>h y (List.mem_cons_of_mem _ hy)
  unfold Zgt at ih ⊢
  rw [Ws]
  cases hk:(k == NameKind.free) with
  | false =>
   simp only [List.forIn_cons,hk,Bool.false_eq_true,if_false,pure_bind] at ih ⊢
   exact ih acc
  | true =>
   obtain ⟨c,hc⟩:=h (n,k) List.mem_cons_self (by simpa using hk)
   have hc':env.cells.lookup n=some c:=hc
   simp only [List.forIn_cons,hk,if_true,cellOf,hc',pure_bind,Option.getD_some] at ih ⊢
   exact ih _
theorem Qr {scope:Scope} {env:Env} (h:∀ y∈scope.names,y.2=.free->∃ c,env.cells.lookup y.1=some c):closureFor scope env=pure (Ws env.cells scope.names []) :=
 Qs scope.names [] h
theorem Uz {cells:List (Str×Addr)} {x:Str} {c:Addr}:∀ {l:List (Str×NameKind)} {acc:List (Str×Addr)},(∀ y∈l,y.2=.free->∃ c,cells.lookup y.1=some c) ->
  (Ws cells l acc).lookup x=some c->acc.lookup x=some c\/cells.lookup x=some c
 | [],acc,_,h=>.inl h
 | (n,k)::r,acc,hl,h=>by
  rw [Ws] at h
  by_cases hk:(k == NameKind.free)=true
  ·rw [if_pos hk] at h
   obtain ⟨c',hc⟩:=hl (n,k) List.mem_cons_self (by simpa using hk)
   have hc':cells.lookup n=some c':=hc
   rcases Uz (fun y hy=>hl y (List.mem_cons_of_mem _ hy)) h with z | z
   ·rw [List.lookup_cons,hc'] at z
    cases hx:(x == n) with
    | true =>
     rw [hx] at z
     have e:x=n:=by simpa using hx
     subst e
     have z':c'=c:=by simpa using z
     subst z'
     exact .inr hc'
    | false=>rw [hx] at z; exact .inl z
   ·exact .inr z
  ·rw [if_neg hk] at h
   exact Uz (fun y hy=>hl y (List.mem_cons_of_mem _ hy)) h
theorem V4 {cells:List (Str×Addr)} {x:Str}:∀ {l:List (Str×NameKind)} {acc:List (Str×Addr)},(∃ c,acc.lookup x=some c)->∃ c,(Ws cells l acc).lookup x=some c
 | [],acc,h=>h
 | (n,k)::r,acc,h=>by
  rw [Ws]
  by_cases hk:(k == NameKind.free)=true
  ·rw [if_pos hk]
   refine V4 ?_
   rw [List.lookup_cons]
   cases hx:(x == n) with
   | true=>exact ⟨_,rfl⟩
   | false=>exact h
  ·rw [if_neg hk]
   exact V4 h
theorem Ul {cells:List (Str×Addr)} {x:Str}:∀ {l:List (Str×NameKind)} {acc:List (Str×Addr)},(x,NameKind.free)∈l->∃ c,(Ws cells l acc).lookup x=some c
 | [],acc,h=>nomatch h
 | (n,k)::r,acc,h=>by
  rw [Ws]
  rcases List.mem_cons.mp h with e | h
  ·cases e
   rw [if_pos (by rfl)]
   refine V4 ?_
   rw [List.lookup_cons,beq_self_eq_true]
   exact ⟨_,rfl⟩
  ·by_cases hk:(k == NameKind.free)=true
   ·rw [if_pos hk]; exact Ul h
   ·rw [if_neg hk]; exact Ul h
theorem Vt {scope:Scope} {env:Env} (nc:∀ y∈scope.names,y.2≠.cell) {x:Str} (h:(relabel scope env).names.lookup x=some .cell\/(relabel scope env).names.lookup x=some .free):(x,NameKind.free)∈scope.names:=by
  have go:∀ (l:List (Str×NameKind)),(∀ y∈l,y.2≠.cell) ->
      ((l.map fun (n,k)=>if (k == NameKind.free && env.scope.kind == .function && env.kindOf n == some .cell) then (n,NameKind.cell) else (n,k)).lookup x=some .cell \/
       (l.map fun (n,k)=>if (k == NameKind.free && env.scope.kind == .function && env.kindOf n == some .cell) then (n,NameKind.cell) else (n,k)).lookup x=some .free)->(x,NameKind.free)∈l:=by
    intro l
    induction l with
    | nil=>intro _ h; rcases h with h | h <;> cases h
    | cons a r ih =>
      obtain ⟨n,k⟩:=a
      intro nc h
      have nck:k≠.cell:=nc (n,k) List.mem_cons_self
      simp only [List.map_cons] at h
      by_cases hx:(x == n)=true
      · have e:x=n:=by simpa using hx
        subst e
        by_cases hk:k=.free
        · subst hk; exact List.mem_cons_self
        · have hb:(k == NameKind.free)=false:=by simpa using hk
          simp only [hb,Bool.false_and,Bool.false_eq_true,if_false,List.lookup_cons,beq_self_eq_true] at h
          rcases h with h | h
          · exact absurd (Option.some.inj h) nck
          · exact absurd (Option.some.inj h) hk
      · have hx':(x == n)=false:=by simpa using hx
        refine List.mem_cons_of_mem _ (ih (fun y hy=>nc y (List.mem_cons_of_mem _ hy)) ?_)
        have el:∀ (p:Str×NameKind) (t:List (Str×NameKind)),p.1=n->(p::t).lookup x=t.lookup x:=by
          intro p t e
          obtain ⟨a,b⟩:=p
          have e':a=n:=e
          subst e'
          rw [List.lookup_cons,hx']
        rw [el _ _ (by split <;> rfl)] at h
        exact h
  exact go scope.names nc h
theorem U9 {scope:Scope} {env:Env} {x:Str} (h:(relabel scope env).names.lookup x=some .local):scope.names.lookup x=some .local:=by
 have go:∀ (l:List (Str×NameKind)),
   (l.map fun (n,k)=>if (k == NameKind.free && env.scope.kind == .function && env.kindOf n == some .cell) then (n,NameKind.cell) else (n,k)).lookup x=some .local->l.lookup x=some .local:=by
  intro l
  induction l with
  | nil=>intro h; cases h
  | cons a r ih =>
   obtain ⟨n,k⟩:=a
   intro h
   simp only [List.map_cons] at h
   by_cases hx:(x == n)=true
   ·have e:x=n:=by simpa using hx
    subst e
    by_cases hc:(k == NameKind.free && env.scope.kind == .function && env.kindOf x == some .cell)=true
    ·rw [if_pos hc,List.lookup_cons,beq_self_eq_true] at h
     cases h
    ·rw [if_neg hc,List.lookup_cons,beq_self_eq_true] at h
     rw [List.lookup_cons,beq_self_eq_true]
     exact h
   ·have hx':(x == n)=false:=by simpa using hx
    have el:∀ (p:Str×NameKind) (t:List (Str×NameKind)),p.1=n->(p::t).lookup x=t.lookup x:=by
     intro p t e
     obtain ⟨a,b⟩:=p
     have e':a=n:=e
     subst e'
     rw [List.lookup_cons,hx']
    rw [el _ _ (by split <;> rfl)] at h
    rw [el _ _ rfl]
    exact ih h
 exact go scope.names h
end L2
namespace L2
open PySem PySem.Spec PyProof.Rows
def nbOf (N T:List Str) (cs:List Nat):List Str:=T++cs.map fun i=>N.getD i Str.empty
def sgOf (σ:St) (T:List Str) (cs:List Nat):St:=T.map (fun _=>none)++cs.map fun i=>σ.getD i none
structure CScope (outer scope:Scope) (N T:List Str) (cs:List Nat):Prop where
 kind:scope.kind=.function
 nocell:∀ y∈scope.names,y.2≠.cell
 names:∀ y∈scope.names,y.2=.local->scope.names.lookup y.1=some .local
 free:∀ y∈scope.names,y.2=.free->outer.names.lookup y.1=some .cell\/outer.names.lookup y.1=some .free
 cap:∀ i∈cs,scope.names.lookup (N.getD i Str.empty)≠some .local
def Zgs (outer scope:Scope) (N:List Str) (cs:List Nat):Bool :=
 decide (scope.kind=.function) && (scope.names.all (fun y=>!decide (y.2=NameKind.cell)) && (scope.names.all (fun y=>!decide (y.2=NameKind.local) || decide (scope.names.lookup y.1=some NameKind.local)) &&
  (scope.names.all (fun y=>!decide (y.2=NameKind.free) || (decide (outer.names.lookup y.1=some NameKind.cell) || decide (outer.names.lookup y.1=some NameKind.free))) && cs.all (fun i=>!decide (scope.names.lookup (N.getD i Str.empty)=some NameKind.local)))))
theorem CScope.ok {outer scope:Scope} {N T:List Str} {cs:List Nat} (h:Zgs outer scope N cs=true):CScope outer scope N T cs:=by
 unfold Zgs at h
 simp only [Bool.and_eq_true,List.all_eq_true,Bool.or_eq_true,decide_eq_true_eq,Bool.not_eq_true',decide_eq_false_iff_not] at h
 obtain ⟨h1,h2,h3,h4,h5⟩:=h
 exact ⟨h1,h2,fun y hy e=>(h3 y hy).resolve_left (fun q=>q e),fun y hy e=>(h4 y hy).resolve_left (fun q=>q e),h5⟩
theorem Xl {l:List Str} (h:decide l.Nodup=true):l.Nodup:=of_decide_eq_true h
def blk (X:Cx) (T:List Str) (cs:List Nat) (scope:Scope) (C:Addr) (s₀:Shared) (H₀:Hp) (ex:List Addr):Cx where
 prog:=X.prog
 w:=X.w
 K:=X.K
 mg:=X.mg
 base:=X.base
 A:=X.A
 N:=nbOf X.N T cs
 s₀:=s₀
 H₀:=H₀
 env:=compEnvC scope (Ws X.env.cells scope.names []) C X.env
 outer:=X.stack
 stack:=X.stack
 ex:=ex
 fn:=fun _=>false
 calm:=X.calm
 pn:=[]
 xe:=fun _ _=>False
section
variable {X:Cx} {pins:List (Addr×Obj)} {σ:St} {H:Hp} {s:Shared} {scope:Scope} {T:List Str} {cs:List Nat} {fp:List Addr}
theorem Inv.hl (I:Inv X pins σ H s) (S:CScope X.env.scope scope X.N T cs):∀ y∈scope.names,y.2=.free->∃ c,X.env.cells.lookup y.1=some c :=
 fun y hy e=>I.ok.has y.1 (S.free y hy e)
theorem Inv.clo (I:Inv X pins σ H s) (S:CScope X.env.scope scope X.N T cs) {x:Str} {c:Addr} (h:(Ws X.env.cells scope.names []).lookup x=some c):X.env.cells.lookup x=some c :=
 (Uz (I.hl S) h).resolve_left (by simp)
theorem Zlg (I:Inv X pins σ H s) (S:CScope X.env.scope scope X.N T cs) (hf:∀ b∈fp,FpOk X pins H b) (hfe:∀ b∈fp,∃ o,s.heap.get? b=some o) {C:Addr} {h1:Heap} {m:Str->Option Value} {tk:Nat}
  (hC:s.heap.objs.size<=C) (ns:h1.Ns C m) (k:∀ b o,s.heap.get? b=some o->h1.get? b=some o) :
  Inv (blk X T cs scope C s H fp) [] (sgOf σ T cs) H { s with heap:=h1,toks:=tk }:=by
 have fr:H C=none:=I.hok.fresh hC
 have cellS:∀ {c:Addr} {v:Option Value},s.heap.IsCell c v->h1.IsCell c v:=fun ⟨o,e,d⟩=>⟨o,k _ o e,d⟩
 refine ⟨⟨I.ok.mod,S.kind,I.ok.glob,I.ok.blt,hC,fun x y c e1 e2=>I.ok.inj x y c (I.clo S e1) (I.clo S e2),fun x hx=>Ul (Vt S.nocell hx),fun x c h _=>absurd (show false=true from h) Bool.false_ne_true,
  I.ok.hd,I.ok.frames,.inl rfl,fun b hb=>⟨?_,fun x c e=>(hf b hb).2.2.2.2.1 x c (I.clo S e)⟩,I.bs,Nat.le_trans I.ok.bsz I.sz,fun b o e hb=>?_,fun b hb z=>?_,I.stack,I.stkFree⟩,
  rfl,I.bare,Un.kept k,⟨m,ns,fun i x v h1' h2' h3'=>?_⟩,fun x c e=>?_,fr,fun x c e=>I.freeC x c (I.clo S e),fun p hp=>absurd (show p∈([]:List (Addr×Obj)) from hp) (by simp),I.hok.kept k,?_⟩
 ·obtain ⟨o,e⟩:=hfe b hb
  exact Nat.ne_of_lt (Nat.lt_of_lt_of_le (Heap.lt_size e) hC)
 ·rcases (hf b hb).2.2.2.1 with z | z
  ·exact I.ok.noex b o e z
  ·exact absurd (Nat.lt_of_lt_of_le (Nat.lt_of_lt_of_le (Heap.lt_size e) I.ok.bsz) z) (Nat.lt_irrefl _)
 ·rcases List.mem_cons.mp (I.stkSub b z) with e | e
  ·exact (hf b hb).2.1 e
  ·exact (hf b hb).2.2.1 e
 ·have h2:(sgOf σ T cs)[i]?=some (some v):=h2'
  have h1'':(nbOf X.N T cs)[i]?=some x:=h1'
  unfold sgOf at h2
  unfold nbOf at h1''
  by_cases hi:i < T.length
  ·rw [List.getElem?_append_left (by simpa using hi),List.getElem?_map] at h2
   cases e:T[i]? with
   | none=>rw [e] at h2; cases h2
   | some a=>rw [e] at h2; cases h2
  ·rw [List.getElem?_append_right (by simpa using hi),List.getElem?_map,List.length_map] at h2
   rw [List.getElem?_append_right (by omega),List.getElem?_map] at h1''
   cases e:cs[i - T.length]? with
   | none=>rw [e] at h2; cases h2
   | some c0 =>
    rw [e] at h2 h1''
    have ex:X.N.getD c0 Str.empty=x:=Option.some.inj h1''
    have ev:σ.getD c0 none=some v:=Option.some.inj h2
    have eσ:σ[c0]?=some (some v):=by
     rw [List.getD_eq_getElem?_getD] at ev
     cases q:σ[c0]? with
     | none=>rw [q] at ev; cases ev
     | some z=>rw [q] at ev; exact congrArg some ev
    have hlt:c0 < X.N.length:=by
     have:=(List.getElem?_eq_some_iff.mp eσ).1
     rw [I.len] at this
     exact this
    have eN:X.N[c0]?=some x:=by
     rw [List.getD_eq_getElem?_getD,List.getElem?_eq_getElem hlt] at ex
     rw [List.getElem?_eq_getElem hlt]
     exact congrArg some ex
    have hfree:(x,NameKind.free)∈scope.names:=by
     rcases h3' with z | z | z
     ·exact absurd (U9 z) (by rw [<- ex]; exact S.cap c0 (List.mem_of_getElem? e))
     ·exact Vt S.nocell (.inl z)
     ·exact Vt S.nocell (.inr z)
    have ok:=S.free _ hfree rfl
    obtain ⟨m',hn',hl'⟩:=I.loc
    obtain ⟨u,r,l⟩:=hl' c0 x v eN eσ (.inr ok)
    refine ⟨u,r,?_⟩
    rcases l with ⟨kd,_⟩ | ⟨_,c,ec,z⟩
    ·have kd':X.env.scope.names.lookup x=some .local:=kd
     rcases ok with q | q <;> (rw [show X.env.scope.names.lookup x=_ from q] at kd'; cases kd')
    ·obtain ⟨c',ec'⟩:=Ul (cells:=X.env.cells) (acc:=[]) hfree
     have:c'=c:=by
      have q:=I.clo S ec'
      rw [ec] at q
      exact (Option.some.inj q).symm
     subst this
     refine .inr ⟨?_,c',ec',cellS z⟩
     rcases h3' with q | q | q
     ·exact absurd (U9 q) (by rw [<- ex]; exact S.cap c0 (List.mem_of_getElem? e))
     ·exact .inl q
     ·exact .inr q
 ·obtain ⟨v,z⟩:=I.cell x c (I.clo S e)
  exact ⟨v,cellS z⟩
 ·show (sgOf σ T cs).length=(nbOf X.N T cs).length
  simp [sgOf,nbOf]
theorem Inv.track {D:Addr} {its:List Value} {n:Nat} {ys:List V} (I:Inv X pins σ H s) (hD:s.heap.get? D=some { cls:=.type "list",data:=.seq its.toArray n }) (f:FpOk X pins H D) (rv:Vals ys its) (hz:ys.length<=sizeLine) :
  Inv X pins σ (upd H D (.lst ys)) s:=by
 obtain ⟨f0,f1,f2,f3,f4,f5⟩:=f
 have hok:HOk X.prog X.w (upd H D (.lst ys)) s.heap:=fun b u e=>by
  by_cases hb:b=D
  ·subst hb
   rw [Zg] at e
   cases e
   exact ⟨hz,its,n,rv,hD⟩
  ·rw [Zm hb] at e
   exact (I.hok b u e).stay (fun _ _ _ q=>q) (fun c q=>by rw [Zm (Zq q f0)]; exact q) fun c xs q=>by rw [Zm (Zq q f0)]; exact q
 have st:=I.step (H':=upd H D (.lst ys)) (h':=s.heap) (g':=s.gens) (t':=s.toks) (d':=s.drawn) (ch:=[D])
  (fun b hb=>by
   have e:b=D:=by simpa using hb
   subst e
   exact ⟨f3,f1,f4,f5⟩)
  (fun b o _ _ _ e _=>e) (fun b o _ _ _ e _=>⟨o.slots,e⟩) (fun b o hc e n=>by rw [Zm (fun z=>hc (by simp [z]))]; exact n) (fun b o _ e=>⟨o,e⟩)
  (fun b xs e=>by rw [Zm (Zq e f0)]; exact e) (fun b o u e=>by rw [Zm (Zq e f0)]; exact e) (fun b ps e=>⟨#[],by rw [Zm (Zq e f0),e]; simp⟩) (fun m h=>h) hok I.bare
 exact st
end
section
variable {prog:Program} {w:World} {A:Around} {R:Result->Shared->Prop} {s:Shared}
abbrev Zeb (ifs:List Expr) (env:Env):Sem Bool:=forIn ifs true fun c r=>if r=true then do let ok <- isTrue c env (eval c env); pure (ForInStep.yield ok) else pure (ForInStep.yield r)
theorem Zac {elt target iter:Expr} {ifs:List Expr} {scope:Scope} {pos:Pos} {it acc:Value} {env:Env} (I:Nat->Shared->Prop)
  (turn:∀ n s,I n s->wpAny (model prog w) A (pyNext it) (fun r s₁=>match r with
   | none=>R (.ok .next) s₁
   | some v=>wpAny (model prog w) A (letOwnedTupleGo target it v) (fun _ s₂=>wpAny (model prog w) A (assign target env v) (fun _ s₃ =>
     wpAny (model prog w) A (Zeb ifs env) (fun ok s₄ =>
      if ok=true then wpAny (model prog w) A (eval elt env) (fun x s₅ =>
       wpAny (model prog w) A (call (.builtin "list.append") [acc,x]) (fun _ s₆=>∃ m,m < n/\I m s₆) (fun _ _=>False) s₅) (fun _ _=>False) s₄
      else ∃ m,m < n/\I m s₄) (fun _ _=>False) s₃) (fun _ _=>False) s₂) (fun _ _=>False) s₁) (fun _ _=>False) s)
  (n:Nat) (h:I n s) :
  codeAny (model prog w) A (.compLoop (.ListComp elt [⟨target,iter,ifs,0⟩] scope pos) 0 it acc env) R s:=by
 refine codeAny_loop rfl I (fun n s hI=>?_) n h
 show wpAny _ A ((compTurn (.ListComp elt [⟨target,iter,ifs,0⟩] scope pos) 0 it acc env).onRaise (fun x=>do noteFrame x env; theTreesLotGoes x)) _ _ s
 refine wpAny_noted ?_
 rw [compTurn_list]
 refine wpAny_bind (wpAny_standAt (wpAny_bind (wpAny_mono (turn n s hI) (fun r s₁ h₁=>?_) fun _ _ h'=>False.elim h')))
 cases r with
 | none=>exact wpAny_pure h₁
 | some v =>
  refine wpAny_bind (wpAny_mono h₁ (fun _ s₂ h₂=>?_) fun _ _ h'=>False.elim h')
  refine wpAny_bind (wpAny_mono h₂ (fun _ s₃ h₃=>wpAny_bind (wpAny_mono h₃ (fun ok s₄ h₄=>?_) fun _ _ h'=>False.elim h')) fun _ _ h'=>False.elim h')
  cases ok with
  | false=>exact wpAny_pure ⟨rfl,h₄⟩
  | true =>
   exact wpAny_bind (wpAny_bind (wpAny_mono h₄ (fun x s₅ h₅=>wpAny_bind (wpAny_mono h₅ (fun _ s₆ h₆=>wpAny_pure (wpAny_pure ⟨rfl,h₆⟩)) fun _ _ h'=>False.elim h')) fun _ _ h'=>False.elim h'))
end
def PTs (X:Cx) (ifs:List Expr) (t:TT):Prop :=
 ∀ (pins:List (Addr×Obj)) (s:Shared) (σ:St) (H:Hp) (Q:Bool->Hp->Prop),Inv X pins σ H s->t σ H Q->wpAny (model X.prog X.w) X.A (Zeb ifs X.env) (TP X pins σ Q) X.xe s
def Zm4:TT:=fun _ H Q=>Q true H
theorem Y7 {X:Cx}:PTs X [] Zm4:=fun pins s σ H Q I h=>wpAny_tests_nil ⟨H,I,h⟩
theorem Tr {X:Cx} {c:Expr} {t:TT} (hc:PT X c t):PTs X [c] t:=fun pins s σ H Q I h=>wpAny_tests_one (hc pins s σ H Q I h)
def Ag (n:Nat) (σ σ0:St):Prop:=σ.length=σ0.length/\∀ i,n<=i->σ[i]?=σ0[i]?
def Zan (g:TG) (n:Nat):Prop:=∀ σ0 x σ H R,Ag n σ σ0->g x σ H R->g x σ H fun σ2 H2=>R σ2 H2/\Ag n σ2 σ0
def P3 (g:TGs) (n:Nat):Prop:=∀ σ0 xs σ H R,Ag n σ σ0->g xs σ H R->g xs σ H fun σ2 H2=>R σ2 H2/\Ag n σ2 σ0
theorem Ag.set {n i:Nat} {σ σ0:St} (a:Ag n σ σ0) (h:i < n) (v:Option V):Ag n (σ.set i v) σ0 :=
 ⟨by rw [List.length_set]; exact a.1,fun j hj=>(List.getElem?_set_ne (by omega)).trans (a.2 j hj)⟩
theorem Xr {i n:Nat} (h:i < n):Zan (Zbf i) n:=fun σ0 x σ H R a q=>⟨q,a.set h _⟩
theorem V2 {n:Nat}:P3 gNil n:=fun σ0 xs σ H R a q=>⟨q.1,q.2,a⟩
theorem Yu {i n:Nat} {u:TGs} (h:i < n) (h2:P3 u n):P3 (Zlm (Zbf i) u) n:=fun σ0 xs σ H R a q=>by
 obtain ⟨v,r,e,q⟩:=q
 exact ⟨v,r,e,h2 σ0 r _ _ _ (a.set h _) q⟩
theorem T4 {K:W.Frag} {m n:Nat} {t:TGs} (h:P3 t n):Zan (gTup K m t) n:=fun σ0 x σ H R ag q=>by
 obtain ⟨a,xs,e,hq,hl,q⟩:=q
 exact ⟨a,xs,e,hq,hl,h σ0 xs σ H R ag q⟩
section
variable {X:Cx} {scope:Scope} {T:List Str} {cs:List Nat} {elt tg iter:Expr} {ifs:List Expr} {g:TG} {tt:TT} {te:TE} {pos:Pos}
theorem Zab {RR:Value->Addr->Result->Shared->Prop} {E:Value->Shared->Prop} {Fin:List V->Hp->Prop} {pins:List (Addr×Obj)} {σ:St} {H:Hp} {s:Shared} {J:It} {fp:List Addr} {it:Addr} {tn:Nat->Heap->Prop}
  (I:Inv X pins σ H s) (hc:X.calm=true) (S:CScope X.env.scope scope X.N T cs) (Tn:Turn X.prog X.w X.K tg J fp it tn) (st:tn 0 s.heap) (hf:∀ b∈fp,FpOk X pins H b)
  (hg:∀ C s₀ H₀ ex,PG (blk X T cs scope C s₀ H₀ ex) tg g) (ht:∀ C s₀ H₀ ex,PTs (blk X T cs scope C s₀ H₀ ex) ifs tt) (he:∀ C s₀ H₀ ex,PE (blk X T cs scope C s₀ H₀ ex) elt te) (hk:Zan g T.length)
  (W:Nat->Nat->List V->Hp->Prop) (w0:∃ m,W 0 m [] H)
  (turn:∀ i m ys H,W i m ys H->(J.stop i H/\ys.length<=sizeLine/\Fin ys H)\/(J.go i H/\ys.length < sizeLine/\∃ N:List V->Hp->Prop,(∀ ys' H',N ys' H'->∃ m',m' < m/\W (i + 1) m' ys' H') /\
   ∀ x H',J.yld i H x H'->g x (sgOf σ T cs) H' fun σ2 H2=>tt σ2 H2 fun b H3=>if b=true then te σ2 H3 fun y H4=>N (ys++[y]) H4 else N ys H3))
  (fin:∀ (D C:Addr) (s':Shared) (m:Str->Option Value) (ys:List V) (H':Hp),Fin ys H'->H' D=none->s'.heap.Ns C m->FpOk X pins H' C->C≠D->Inv X pins σ (upd H' D (.lst ys)) s'->RR (.ref D) C (.ok .next) s') :
  wpAny (model X.prog X.w) X.A (newList []) (fun acc s₃=>wpAny (model X.prog X.w) X.A (newFunctionEnv scope X.env.globals (Ws X.env.cells scope.names []) [] X.env.qual none .none (some X.env)) (fun cenv s₄ =>
   codeAny (model X.prog X.w) X.A (.compStart (.ListComp elt [⟨tg,iter,ifs,0⟩] scope pos) 0 (.ref it) acc { cenv with scope:=relabel scope X.env }) (RR acc cenv.locals) s₄) E s₃) E s:=by
 refine wpAny_newObj_type (wpAny_newFunctionEnv S.nocell (by intro y hy; simp at hy) (fun h₁ hns₁ hsb₁=>?_) S.kind)
 dsimp only at hns₁ hsb₁ ⊢
 generalize hH2:s.heap.push { cls:=.type "list",dict:=none,data:=.seq ([]:List Value).toArray }=H2 at hns₁ hsb₁ ⊢
 have hCe:H2.objs.size=s.heap.objs.size + 1:=by rw [<- hH2,Heap.size_push]
 have hDC:s.heap.objs.size≠H2.objs.size:=by rw [hCe]; exact Nat.ne_of_lt (Nat.lt_succ_self _)
 have hCle:s.heap.objs.size<=H2.objs.size:=by rw [hCe]; exact Nat.le_succ _
 have old:∀ b o,s.heap.get? b=some o->h₁.get? b=some o:=fun b o e =>
  hsb₁.extBut b o (by rw [hCe]; exact Nat.ne_of_lt (Nat.lt_succ_of_lt (Heap.lt_size e))) (Heap.get?_push_of_some _ (hH2 ▸ Heap.get?_push_of_some _ e))
 have hacc:h₁.get? s.heap.objs.size=some { cls:=.type "list",data:=.seq ([]:List Value).toArray 0 }:=hsb₁.extBut _ _ hDC (Heap.get?_push_of_some _ (hH2 ▸ Heap.get?_push_size _ rfl))
 have hfe:∀ b∈fp,∃ o,s.heap.get? b=some o:=fun b hb=>let ⟨o,e,_⟩:=Tn.obj _ _ st b hb; ⟨o,e⟩
 have hlt:∀ b∈fp,b < s.heap.objs.size:=fun b hb=>let ⟨o,e⟩:=hfe b hb; Heap.lt_size e
 have st₁:tn 0 h₁:=Tn.keep _ _ _ st fun b _ o e=>old b o e
 generalize hDD:s.heap.objs.size=D at *
 generalize hCC:H2.objs.size=C at *
 have hnD:H D=none:=I.hok.fresh (Nat.le_of_eq hDD)
 have stat:∀ {H':Hp} {its:List Value} {n:Nat},(∀ b∈fp,H' b=none)->∀ b∈fp,FpOk (blk X T cs scope C s H fp) [(D,({ cls:=.type "list",data:=.seq its.toArray n }:Obj))] H' b:=fun hn b hb=>by
  obtain ⟨f0,f1,f2,f3,f4,f5⟩:=hf b hb
  refine ⟨hn b hb,Nat.ne_of_lt (Nat.lt_of_lt_of_le (hlt b hb) hCle),fun z=>?_,.inl hb,fun x c e=>f4 x c (I.clo S e),fun p hp z=>?_⟩
  ·rcases List.mem_cons.mp (I.stkSub b z) with e | e
   ·exact f1 e
   ·exact f2 e
  ·have e:p.1=D:=by
    rcases List.mem_append.mp hp with q | q
    ·exact absurd (show p∈([]:List (Addr×Obj)) from q) (by simp)
    ·rw [List.mem_singleton.mp q]
   exact absurd (hlt b hb) (by rw [<- z,e]; exact Nat.lt_irrefl _)
 have loop:∀ tk:Nat,codeAny (model X.prog X.w) X.A (.compLoop (.ListComp elt [⟨tg,iter,ifs,0⟩] scope pos) 0 (.ref it) (.ref D) (compEnvC scope (Ws X.env.cells scope.names []) C X.env)) (RR (.ref D) C) { s with heap:=h₁,toks:=tk }:=by
  intro tk
  have I1:Inv (blk X T cs scope C s H fp) [] (sgOf σ T cs) H { s with heap:=h₁,toks:=tk }:=Zlg I S hf hfe (by rw [hDD]; exact hCle) hns₁ old
  obtain ⟨m0,w0⟩:=w0
  have pinD:∀ {σ':St} {H':Hp} {s':Shared} {its:List Value} {n:Nat} {pl:List (Addr×Obj)},Inv (blk X T cs scope C s H fp) pl σ' H' s'->s'.heap.get? D=some { cls:=.type "list",data:=.seq its.toArray n }->H' D=none ->
    Inv (blk X T cs scope C s H fp) [(D,({ cls:=.type "list",data:=.seq its.toArray n }:Obj))] σ' H' s':=fun {σ' H' s' its n pl} J e hn=>J.pins_of fun p hp=>by
   obtain rfl:=List.mem_singleton.mp hp
   refine ⟨e,hn,hDC,fun z=>?_,fun v q=>by cases q⟩
   have z':D∈frs X.stack:=z
   obtain ⟨_,o,ho,_⟩:=I.stack.mem z'
   exact absurd (Heap.lt_size ho) (by rw [hDD]; exact Nat.lt_irrefl _)
  refine Zac (fun n s'=>∃ (i:Nat) (ys:List V) (its:List Value) (k:Nat) (H':Hp),Inv (blk X T cs scope C s H fp) [(D,({ cls:=.type "list",data:=.seq its.toArray k }:Obj))] (sgOf σ T cs) H' s'/\Vals ys its/\tn i s'.heap/\(∀ b∈fp,H' b=none)/\W i n ys H') ?_ m0
   ⟨0,[],[],0,H,pinD I1 hacc hnD,.nil,st₁,fun b hb=>(hf b hb).1,w0⟩
  rintro n s1 ⟨i,ys,its,k,H1,J1,rv,st1,fr1,w1⟩
  rcases turn i n ys H1 w1 with ⟨stop,hz,fq⟩ | ⟨go,hz,N,hN,step⟩
  ·refine wpAny_mono (Tn.done (blk X T cs scope C s H fp) rfl rfl rfl hc i _ s1 _ H1 (fun _ _=>False) J1 (stat fr1) st1 stop) (fun r s2 ⟨hr,J2⟩=>?_) fun _ _ z=>z
   subst hr
   obtain ⟨eD,nD,_⟩:=J2.pin (D,({ cls:=.type "list",data:=.seq its.toArray k }:Obj)) (List.mem_append_right _ (List.mem_singleton.mpr rfl))
   have J3:Inv X pins σ H1 s2:=I.call' (ch:=fp) J2.os J2.base J2.hok J2.bare fun b hb=>by
    obtain ⟨f0,f1,f2,f3,f4,f5⟩:=hf b hb
    exact ⟨f3,f1,f4,f5⟩
   obtain ⟨mC,hnC,_⟩:=J2.loc
   have fC:FpOk X pins H1 C:=I.fpOk (by rw [hDD]; exact hCle) J2.free
   have fD:FpOk X pins H1 D:=I.fpOk (Nat.le_of_eq hDD) nD
   exact fin D C s2 mC ys H1 fq nD hnC fC (Ne.symm hDC) (J3.track eD fD rv hz)
  ·refine wpAny_mono (Tn.item (blk X T cs scope C s H fp) rfl rfl rfl hc i _ s1 _ H1 (fun _ _=>False) J1 (stat fr1) st1 go) (fun r s2 ⟨u,hr,h2⟩=>?_) fun _ _ z=>z
   subst hr
   refine wpAny_mono h2 (fun _ s3 ⟨x,H3,J3,r3,y3,st3,fr3⟩=>?_) fun _ _ z=>z
   have J3':=J3.pinned (stat fr3) (Tn.obj _ _ st3)
   refine wpAny_mono (hg C s H fp _ s3 _ H3 x u _ J3' r3 (hk (sgOf σ T cs) x _ H3 _ ⟨rfl,fun _ _=>rfl⟩ (step x H3 y3))) (fun _ s4 ⟨σ4,H4,J4,q4,l4,k4⟩=>?_) fun _ _ z=>z
   refine wpAny_mono (ht C s H fp _ s4 σ4 H4 _ J4 q4) (fun b s5 ⟨H5,J5,q5⟩=>?_) fun _ _ z=>z
   have wk:∀ {pl:List (Addr×Obj)} {H':Hp} {s':Shared},Inv (blk X T cs scope C s H fp) pl σ4 H' s'->Inv (blk X T cs scope C s H fp) pl (sgOf σ T cs) H' s':=fun J=>J.weak l4.symm fun j v e=>by
    by_cases hj:T.length<=j
    ·rw [k4 j hj]; exact e
    ·exfalso
     unfold sgOf at e
     rw [List.getElem?_append_left (by simp; omega),List.getElem?_map] at e
     cases q:T[j]? with
     | none=>rw [q] at e; cases e
     | some a=>rw [q] at e; cases e
   have tnk:∀ {H':Hp} {s':Shared} {σ':St},Inv (blk X T cs scope C s H fp) ([(D,({ cls:=.type "list",data:=.seq its.toArray k }:Obj))]++No fp s3.heap) σ' H' s'->tn (i + 1) s'.heap/\∀ b∈fp,H' b=none:=fun {H' s' σ'} J=>by
    refine ⟨Tn.keep _ _ _ st3 fun b hb o e=>(J.pin (b,o) (List.mem_append_right _ (List.mem_append_right _ (Ui hb e)))).1,fun b hb=>?_⟩
    obtain ⟨o,e,d⟩:=Tn.obj _ _ st3 b hb
    exact (J.pin (b,o) (List.mem_append_right _ (List.mem_append_right _ (Ui hb e)))).2.1
   cases b with
   | false =>
    rw [if_neg Bool.false_ne_true] at q5 ⊢
    obtain ⟨m',hm,w5⟩:=hN _ _ q5
    obtain ⟨t5,f5⟩:=tnk J5
    exact ⟨m',hm,i + 1,ys,its,k,H5,wk J5.unpinned,rv,t5,f5,w5⟩
   | true =>
    rw [if_pos rfl] at q5 ⊢
    refine wpAny_mono (he C s H fp _ s5 σ4 H5 _ J5 q5) (fun uy s6 ⟨y,H6,J6,ry,n6⟩=>?_) fun _ _ z=>z
    obtain ⟨m',hm,w6⟩:=hN _ _ n6
    obtain ⟨t6,f6⟩:=tnk J6
    obtain ⟨eD,nD,_⟩:=J6.pin (D,({ cls:=.type "list",data:=.seq its.toArray k }:Obj)) (List.mem_append_right _ (List.mem_append_left _ (List.mem_singleton.mpr rfl)))
    have hsz:its.toArray.size<=sizeLine:=by rw [List.size_toArray,<- rv.length]; omega
    refine append_at (hsz:=hsz) eD fun h7 sb hD7=>?_
    have J6':Inv (blk X T cs scope C s H fp) [] σ4 H6 s6:=J6.pins_of fun p hp=>absurd hp (by simp)
    have J7:Inv (blk X T cs scope C s H fp) [] σ4 H6 { s6 with heap:=h7 }:=J6'.turned (t':=s6.toks) (it:=D) (fun b o hb e=>(sb.2 b hb).trans e) nD hDC (.inr (Nat.le_of_eq hDD))
     (fun x c e z=>by
      obtain ⟨v,q⟩:=I.cell x c (I.clo S e)
      exact absurd q.lt (by rw [z,hDD]; exact Nat.lt_irrefl _))
     (fun p hp=>absurd hp (by simp [blk]))
    have hD7':h7.get? D=some { cls:=.type "list",data:=.seq (its++[uy]).toArray (k + 1) }:=by
     rw [hD7,List.push_toArray]
    refine ⟨m',hm,i + 1,ys++[y],its++[uy],k + 1,H6,wk (pinD J7 hD7' nD),rv.append (.cons ry .nil),Tn.keep _ _ _ t6 fun b hb o e=>(sb.2 b (Nat.ne_of_lt (hlt b hb))).trans e,f6,w6⟩
 exact codeAny_compStart_list (loop _) (Tn.self _ 0 _ _ _ st₁ (loop _))
def Zeg (wi:TI) (g:TG) (tt:TT) (te:TE) (T:List Str) (cs:List Nat):TE:=fun σ H Q=>wi σ H fun J H1=>∃ W:Nat->Nat->List V->Hp->Prop,(∃ m,W 0 m [] H1) /\
 ∀ i m ys H,W i m ys H->(J.stop i H/\ys.length<=sizeLine/\∀ p,H p=none->Q (.ref p) (upd H p (.lst ys)))\/(J.go i H/\ys.length < sizeLine/\∃ N:List V->Hp->Prop,(∀ ys' H',N ys' H'->∃ m',m' < m/\W (i + 1) m' ys' H') /\
  ∀ x H',J.yld i H x H'->g x (sgOf σ T cs) H' fun σ2 H2=>tt σ2 H2 fun b H3=>if b=true then te σ2 H3 fun y H4=>N (ys++[y]) H4 else N ys H3)
theorem Xq {wi:TI} (hc:X.calm=true) (S:CScope X.env.scope scope X.N T cs) (hi:PI X tg iter wi) (hg:∀ C s₀ H₀ ex,PG (blk X T cs scope C s₀ H₀ ex) tg g) (ht:∀ C s₀ H₀ ex,PTs (blk X T cs scope C s₀ H₀ ex) ifs tt)
  (he:∀ C s₀ H₀ ex,PE (blk X T cs scope C s₀ H₀ ex) elt te) (hk:Zan g T.length) (hs:∀ x,foldedSetIterable iter X.env x=pure x:=by intro _; rfl):PE X (.ListComp elt [⟨tg,iter,ifs,0⟩] scope pos) (Zeg wi g tt te T cs):=by
 intro pins s σ H Q I h
 rw [eval_ListComp]
 refine wpAny_comprehension_free (use:=none) rfl hs (Qr (I.hl S)) S.kind S.names (thn (hi pins s σ H _ I h) fun v s1 h1=>thn h1 fun itv s2 h2=>?_)
 obtain ⟨it,fp,tn,J,H2,e,I2,Tn,st,hf,W,w0,turn⟩:=h2
 subst e
 refine Zab (RR:=fun acc C=>compPost (model X.prog X.w) X.A X.xe none (EP X pins σ Q) acc C) (Fin:=fun ys H=>∀ p,H p=none->Q (.ref p) (upd H p (.lst ys))) I2 hc S Tn st hf hg ht he hk W w0 turn ?_
 intro D C s' m ys H' q nD hn fC hCD I'
 refine ⟨m,hn,fun h' sb=>⟨.ref D,_,I'.turned (t':=s'.toks) (it:=C) (fun b o hb e=>(sb.2 b hb).trans e) ?_ fC.2.1 fC.2.2.2.1 fC.2.2.2.2.1 fC.2.2.2.2.2,rfl,q D nD⟩⟩
 rw [Zm hCD]
 exact fC.1
theorem Vv {wi:TI} {i:Nat} {y:Str} {py spos:Pos} (hN:X.N.Nodup) (hy:X.N[i]?=some y) (hl:X.env.scope.names.lookup y=some .local) (hc:X.calm=true) (S:CScope X.env.scope scope X.N T cs) (hi:PI X tg iter wi) (hg:∀ C s₀ H₀ ex,PG (blk X T cs scope C s₀ H₀ ex) tg g)
  (ht:∀ C s₀ H₀ ex,PTs (blk X T cs scope C s₀ H₀ ex) ifs tt) (he:∀ C s₀ H₀ ex,PE (blk X T cs scope C s₀ H₀ ex) elt te) (hk:Zan g T.length) (hs:∀ x,foldedSetIterable iter X.env x=pure x:=by intro _; rfl)
  (hsw:swapsWith (.ListComp elt [⟨tg,iter,ifs,0⟩] scope pos) (some (.Name y py)) spos.line X.env=pure true:=by rfl):PS X (.Assign [.Name y py] (.ListComp elt [⟨tg,iter,ifs,0⟩] scope pos) spos) (tAsg (Zeg wi g tt te T cs) (Zbf i)):=by
 intro pins s σ H D I h
 rw [exec_Assign_Name_used _ _ _ _ hsw]
 refine wpAny_bind (wpAny_standAt (wpAny_bind ?_))
 show wpAny _ X.A (do let _ <- comprehension (.ListComp elt [⟨tg,iter,ifs,0⟩] scope pos) scope X.env _ (newList []) false (eval iter X.env) (some (assign (.Name y py) X.env))) _ _ s
 refine wpAny_bind (wpAny_mono (wpAny_comprehension_free (use:=some (assign (.Name y py) X.env)) (Q:=fun _ s'=>SP X pins D .next s') rfl hs (Qr (I.hl S)) S.kind S.names
  (thn (hi pins s σ H _ I h) fun v s1 h1=>thn h1 fun itv s2 h2=>?_)) (fun _ s' hq=>wpAny_pure (wpAny_pure hq)) fun _ _ e=>e)
 obtain ⟨it,fp,tn,J,H2,e,I2,Tn,st,hf,W,w0,turn⟩:=h2
 subst e
 refine Zab (RR:=fun acc C=>compPost (model X.prog X.w) X.A X.xe (some (assign (.Name y py) X.env)) (fun _ s'=>SP X pins D .next s') acc C) (Fin:=fun ys H=>∀ p,H p=none->Zbf i (.ref p) σ (upd H p (.lst ys)) D.nx) I2 hc S Tn st hf hg ht he hk W w0 turn ?_
 intro B C s' m ys H' q nB hn fC hCB I'
 show wpAny _ X.A (assign (.Name y py) X.env (.ref B)) _ _ s'
 refine wpAny_assign_Name (Nb (v:=.ref B) I' hN hy (.inl hl) rfl (fun s'' I'' ⟨a,sb,ha⟩=>?_) (.inr hl))
 have nC:C≠a:=by
  rcases ha with z | z
  ·rw [z]; exact fC.2.1
  ·exact Ne.symm (fC.2.2.2.2.1 y a z)
 refine ⟨m,hn.sameBut sb nC,fun h' sb'=>⟨_,_,I''.turned (t':=s''.toks) (it:=C) (fun b o hb e=>(sb'.2 b hb).trans e) ?_ fC.2.1 fC.2.2.2.1 fC.2.2.2.2.1 fC.2.2.2.2.2,q B nB⟩⟩
 rw [Zm hCB]
 exact fC.1
end
theorem Wr {J:It} {n:Nat} {g:TG} {tt:TT} {te:TE} {σB:St} {H1:Hp} {F:List V->Hp->Prop} (Pv:Nat->List V->Hp->Prop) (h0:Pv 0 [] H1) (hn:∀ i ys H,Pv i ys H->ys.length<=i) (hz:n<=sizeLine)
  (hgo:∀ i ys H,i < n->Pv i ys H->J.go i H) (hstop:∀ ys H,Pv n ys H->J.stop n H)
  (hs:∀ i ys H,i < n->Pv i ys H->∀ x H',J.yld i H x H'->g x σB H' fun σ2 H2=>tt σ2 H2 fun b H3=>if b=true then te σ2 H3 fun y H4=>Pv (i + 1) (ys++[y]) H4 else Pv (i + 1) ys H3)
  (hd:∀ ys H,Pv n ys H->F ys H) :
  ∃ W:Nat->Nat->List V->Hp->Prop,(∃ m,W 0 m [] H1)/\∀ i m ys H,W i m ys H->(J.stop i H/\ys.length<=sizeLine/\F ys H)\/(J.go i H/\ys.length < sizeLine/\∃ N:List V->Hp->Prop,(∀ ys' H',N ys' H'->∃ m',m' < m/\W (i + 1) m' ys' H') /\
   ∀ x H',J.yld i H x H'->g x σB H' fun σ2 H2=>tt σ2 H2 fun b H3=>if b=true then te σ2 H3 fun y H4=>N (ys++[y]) H4 else N ys H3):=by
 refine ⟨fun i m ys H=>m=n - i/\i<=n/\Pv i ys H,⟨n,rfl,Nat.zero_le _,h0⟩,?_⟩
 rintro i m ys H ⟨rfl,hi,p⟩
 have hl:=hn i ys H p
 by_cases hlt:i < n
 ·exact .inr ⟨hgo i ys H hlt p,by omega,Pv (i + 1),fun ys' H' q=>⟨n - (i + 1),by omega,rfl,hlt,q⟩,hs i ys H hlt p⟩
 ·have e:i=n:=by omega
  subst e
  exact .inl ⟨hstop ys H p,by omega,hd ys H p⟩
section
variable {X:Cx}
def Zqp (K:W.Frag):V->V->Hp->VK->Prop:=fun o i H Q=>∃ p xs k v,o=.ref p/\i=.int ((k:Nat):Int)/\SqL K H p xs/\xs[k]?=some v/\Q v H
theorem Ze9:PGet X (Zqp X.K):=by
 intro pins s σ H o i ov iv Q I ro ri h
 obtain ⟨p,xs,k,v,rfl,rfl,hq,hx,q⟩:=h
 cases ro
 obtain ⟨t,rfl⟩:=ri
 obtain ⟨its,rv,pl,hz⟩:=I.list hq
 obtain ⟨u,hu,ru⟩:=rv.get hx
 have hk:k < xs.length:=(List.getElem?_eq_some_iff.mp hx).1
 have hn:=Qm
 exact wpAny_getItem_list pl.isList (by omega) (by omega) (by simpa using hu) ⟨v,H,I,ru,q⟩
theorem Zda {ys:List Str}:∀ {us:List Value},Vals (ys.map V.str) us->StrsAre us ys:=by
 induction ys with
 | nil=>intro us r; rw [List.map_nil] at r; cases r; exact .nil
 | cons n ns ih =>
  intro us r
  rw [List.map_cons] at r
  cases r with
  | cons r1 r2 =>
   obtain ⟨t,e⟩:=r1
   subst e
   exact .cons n t (ih r2)
theorem Zk6:MtR X "str.join" (fun x xs H Q=>∃ (z:Str) (p:Addr) (ys:List Str),x=.str z/\xs=[.ref p]/\SqL X.K H p (ys.map V.str)/\(ys.map (·.length)).sum + ys.length * z.length<=16777216/\Q (.str (Txt.join z ys)) H):=by
 intro pins s σ H x xs v us Q I rx r h
 obtain ⟨z,p,ys,rfl,rfl,hq,hz,q⟩:=h
 obtain ⟨t,rfl⟩:=rx
 obtain ⟨u,rfl,ru⟩:=Tj r
 cases ru
 obtain ⟨its,rv,pl,_⟩:=I.list hq
 exact join_list pl.isList (by simpa using Zda rv) hz fun t' k=>⟨.str _,H,I.tok _,⟨_,rfl⟩,q⟩
theorem Zil:Vc X (.builtin "isinstance") (fun xs H Q=>∃ x T t b,xs=[x,.ty T]/\TyOf X.K H x t/\W.kitOne X.K t (.type T)=some b/\Q (.bl b) H):=by
 intro pins s σ H xs us Q I r h
 obtain ⟨x,T,t,b,rfl,ty,e,q⟩:=h
 obtain ⟨u,w',rfl,ru,rw'⟩:=Zha r
 cases rw'
 exact Zf2 I ru ty e fun tk=>⟨.bl b,H,I.tok tk,rfl,q⟩
def rSlS:V->Option Int->Option Int->Hp->VK->Prop:=fun x lo hi H Q=>∃ z,x=.str z/\z.length<=sizeLine/\Q (.str (Txt.slice z lo hi)) H
theorem Zng:SlR X rSlS:=by
 intro pins s σ H x v vl vu lo hi sl Q I rx hs pl pu h
 obtain ⟨z,rfl,hz,q⟩:=h
 obtain ⟨t,rfl⟩:=rx
 refine ⟨"str",_,F.slot_str_getitem.lookup,typeIs_str _ _ _,?_⟩
 cases pl with
 | none =>
  cases pu with
  | none=>exact wpAny_getItem_str_slice (l:=none) (u:=none) (st:=none) hs rfl (post_val_or_str ⟨Nat.le_trans (Txt.slice_le z _ _) hz,fun t' k=>⟨.str _,H,I.tok _,⟨_,rfl⟩,q⟩⟩)
  | int j tj=>exact wpAny_getItem_str_slice (l:=none) (u:=some (j,tj)) (st:=none) hs rfl (post_val_or_str ⟨Nat.le_trans (Txt.slice_le z _ _) hz,fun t' k=>⟨.str _,H,I.tok _,⟨_,rfl⟩,q⟩⟩)
 | int i ti =>
  cases pu with
  | none=>exact wpAny_getItem_str_slice (l:=some (i,ti)) (u:=none) (st:=none) hs rfl (post_val_or_str ⟨Nat.le_trans (Txt.slice_le z _ _) hz,fun t' k=>⟨.str _,H,I.tok _,⟨_,rfl⟩,q⟩⟩)
  | int j tj=>exact wpAny_getItem_str_slice (l:=some (i,ti)) (u:=some (j,tj)) (st:=none) hs rfl (post_val_or_str ⟨Nat.le_trans (Txt.slice_le z _ _) hz,fun t' k=>⟨.str _,H,I.tok _,⟨_,rfl⟩,q⟩⟩)
end
mutual
inductive DV (K:W.Frag) (H:Hp):V->PyData->Prop
 | non:DV K H .non .none
 | bl (b:Bool):DV K H (.bl b) (.bool b)
 | int (i:Int):DV K H (.int i) (.int i)
 | str (x:Str):DV K H (.str x) (.str x)
 | lst {a:Addr} {xs:List V} {ds:List PyData} (h:SqL K H a xs) (r:DVs K H xs ds):DV K H (.ref a) (.list ds)
 | tup {a:Addr} {xs:List V} {ds:List PyData} (h:SqT K H a xs) (r:DVs K H xs ds):DV K H (.ref a) (.tuple ds)
inductive DVs (K:W.Frag) (H:Hp):List V->List PyData->Prop
 | nil:DVs K H [] []
 | cons {x:V} {d:PyData} {xs:List V} {ds:List PyData} (h:DV K H x d) (r:DVs K H xs ds):DVs K H (x::xs) (d::ds)
end
section
variable {X:Cx} {pins:List (Addr×Obj)} {σ:St} {H:Hp} {s:Shared}
mutual
theorem Uk (I:Inv X pins σ H s):∀ {x:V} {d:PyData} {u:Value},DV X.K H x d->RelV x u->∃ as,Reads s.heap u d as
 | _,_,u,.non,r=>by obtain rfl:u=Value.none:=r; exact ⟨_,Reads.none⟩
 | _,_,u,.bl b,r=>by obtain rfl:u=Value.bool b:=r; exact ⟨_,Reads.bool b⟩
 | _,_,u,.int i,r=>by obtain ⟨t,rfl⟩:=(show ∃ t,u=Value.int i t from r); exact ⟨_,Reads.int i t⟩
 | _,_,u,.str x,r=>by obtain ⟨t,rfl⟩:=(show ∃ t,u=Value.str x t from r); exact ⟨_,Reads.str x t⟩
 | _,_,u,.lst (a:=a) h q,r=>by
  obtain rfl:u=Value.ref a:=r
  obtain ⟨its,rv,⟨o,n,e,c,d,dt⟩,_⟩:=I.list h
  obtain ⟨as,ra⟩:=dvs_reads I q rv
  exact ⟨_,reads_list_at e c dt (by simpa using ra)⟩
 | _,_,u,.tup (a:=a) h q,r=>by
  obtain rfl:u=Value.ref a:=r
  obtain ⟨its,rv,⟨o,e,c,n,dt⟩,_⟩:=I.tuple h
  obtain ⟨as,ra⟩:=dvs_reads I q rv
  exact ⟨_,reads_tuple_at e c dt (by simpa using ra)⟩
theorem dvs_reads (I:Inv X pins σ H s):∀ {xs:List V} {ds:List PyData} {us:List Value},DVs X.K H xs ds->Vals xs us->∃ as,ReadsAll s.heap us ds as
 | _,_,_,.nil,.nil=>⟨_,ReadsAll.nil⟩
 | _,_,_,.cons h q,.cons r rr=>by
  obtain ⟨as,ra⟩:=Uk I h r
  obtain ⟨bs,rb⟩:=dvs_reads I q rr
  exact ⟨_,ReadsAll.cons ra rb⟩
end
def rEqD (K:W.Frag):R2:=fun x y H Q=>∃ dx dy,DV K H x dx/\DV K H y dy/\SeqAt.shaped dx=true/\SeqAt.shaped dy=true/\Q (.bl (PyData.eqv dx dy)) H
def rNeD (K:W.Frag):R2:=fun x y H Q=>∃ dx dy,DV K H x dx/\DV K H y dy/\SeqAt.shaped dx=true/\SeqAt.shaped dy=true/\Q (.bl (!PyData.eqv dx dy)) H
theorem Zcg (hu:X.A.units + 64 < cLine):OpR X (compareOp .Eq) (rEqD X.K):=by
 intro pins s σ H x y v u Q I rx ry h
 obtain ⟨dx,dy,hx,hy,sx,sy,q⟩:=h
 obtain ⟨as,ra⟩:=Uk I hx rx
 obtain ⟨bs,rb⟩:=Uk I hy ry
 exact eq_dataH ra rb sx sy hu ⟨.bl _,H,I,rfl,q⟩
theorem Zn4 (hu:X.A.units + 64 < cLine):OpR X (compareOp .NotEq) (rNeD X.K):=by
 intro pins s σ H x y v u Q I rx ry h
 obtain ⟨dx,dy,hx,hy,sx,sy,q⟩:=h
 obtain ⟨as,ra⟩:=Uk I hx rx
 obtain ⟨bs,rb⟩:=Uk I hy ry
 exact ne_dataH ra rb sx sy hu ⟨.bl _,H,I,rfl,q⟩
end
theorem Te {K:W.Frag} {H:Hp}:∀ ns:List Int,DVs K H (ns.map V.int) (ns.map PyData.int)
 | []=>.nil
 | n::r=>.cons (.int n) (Te r)
def Cal (P:Program) (w:World) (K:W.Frag) (mg:Str->Option Value) (base:Heap) (x:Str) (k:Nat) (ps:List Str) (sp:Sp):Prop :=
 ∃ (f:Addr) (fd:FuncData),FnOk P w K mg base CX0 k f fd ps sp/\mg x=some (.ref f)/\W.keepIn K (.ref f)=true/\Vn K fd ps []
section
variable {X:Cx} {x:Str} {k:Nat} {ps:List Str} {sp:Sp} {e:Expr} {es:List Expr} {t:TA} {p pos:Pos}
theorem Zw (C:Cal X.prog X.w X.K X.mg X.base x k ps sp) (hr:Room k X.A) (hg:Gl X x) (ha:PA X (e::es) t) (hdb:(x == ("__debug__":Str))=false:=by decide)
  (he:starEach (e::es) X.env=(false,eval e X.env)::starEach es X.env:=by rfl) (hpl:(backTo pos (starEach es X.env)).any (·.1)=false:=by rfl):PE X (.Call (.Name x p) (e::es) [] pos) (Zeh sp [] E0 t):=by
 obtain ⟨f,fd,F,hm,hk,hb⟩:=C
 exact Zfg F hr hg hm hk hb .nil Zh0 ha hdb he hpl
end
def Grow (p:Addr) (H H':Hp):Prop:=∀ b o,H b=some o->b≠p->H' b=some o
theorem Grow.refl (p:Addr) (H:Hp):Grow p H H:=fun _ _ e _=>e
theorem Grow.trans {p:Addr} {H H1 H2:Hp} (a:Grow p H H1) (b:Grow p H1 H2):Grow p H H2:=fun c o e n=>b c o (a c o e n) n
theorem Grow.same {p:Addr} {H H':Hp} (s:Same H H'):Grow p H H':=fun b o e _=>s b o e
theorem Grow.free {p:Addr} {H H':Hp} (g:Grow p H H') {l:Addr} (h:H' l=none) (n:l≠p):H l=none:=by
 cases q:H l with
 | none=>rfl
 | some o=>rw [g l o q n] at h; cases h
theorem Zb {H:Hp} {p:Addr} {o:HO} (h:H p=none):Same H (upd H p o):=fun b u e=>by rw [Zm (Zq e h)]; exact e
structure HandAt (H:Hp) (p a:Addr):Prop where
 ex:∃ (d k:Int) (cs:List Int),H p=some (.lst [.int d,.int k,.ref a])/\H a=some (.lst (cs.map V.int))/\cs≠[]/\cs.length<=63/\0<=d/\0<=k/\∀ c∈cs,0<=c
theorem HandAt.ne {H:Hp} {p a:Addr} (h:HandAt H p a):p≠a:=by
 obtain ⟨d,k,cs,e1,e2,_⟩:=h.ex
 refine Wg e1 e2 fun z=>?_
 injection z with z
 cases cs with
 | nil=>cases z
 | cons c r =>
  rw [List.map_cons] at z
  injection z with _ z
  cases r with
  | nil=>cases z
  | cons c2 r =>
   rw [List.map_cons] at z
   injection z with _ z
   cases r with
   | nil=>cases z
   | cons c3 r=>rw [List.map_cons] at z; injection z with z _; cases z
theorem HandAt.same {H H':Hp} {p a:Addr} (h:HandAt H p a) (g:Same H H'):HandAt H' p a:=by
 obtain ⟨d,k,cs,e1,e2,r⟩:=h.ex
 exact ⟨d,k,cs,g _ _ e1,g _ _ e2,r⟩
def Sg:Sp:=fun vs H Q _=>∃ (p a:Addr) (n:Int),vs=[.ref p,.int n]/\HandAt H p a/\0 < n/\n < 1073741824 /\
 ∀ (r:Int) (H':Hp),0<=r->r < n->HandAt H' p a->Grow p H H'->(∀ b,b≠p->H' b=H b)->Q (.int r) H'
def Zi2 (K:W.Frag):Sp:=fun vs H Q _=>∃ (s:Addr) (ns:List Int) (i:Int),vs=[.ref s,.int i]/\SqL K H s (ns.map V.int)/\ns.length<=63/\0<=i/\i < 2 ^ 60 /\
 ∀ (p a:Addr) (H':Hp),H p=none->H a=none->HandAt H' p a->Same H H'->Q (.ref p) H'
theorem Pq {cs:List Int} (h:cs≠[]) (z:Int):∃ c,c∈cs/\atI (cs.map V.int) (z % ((cs.map V.int).length:Nat))=some (.int c):=by
 have hl:0 < cs.length:=List.length_pos_iff.mpr h
 have h0:0<=z % ((cs.map V.int).length:Nat):=Int.emod_nonneg _ (by rw [List.length_map]; omega)
 have h1:z % ((cs.map V.int).length:Nat) < ((cs.map V.int).length:Nat):=Int.emod_lt_of_pos _ (by rw [List.length_map]; omega)
 generalize z % ((cs.map V.int).length:Nat)=m at h0 h1
 rw [List.length_map] at h1
 have hm:m.toNat < cs.length:=by omega
 obtain ⟨k,rfl⟩:=Int.eq_ofNat_of_zero_le h0
 have hm:k < cs.length:=hm
 refine ⟨cs[k],List.getElem_mem hm,Ty ?_⟩
 rw [List.getElem?_map,List.getElem?_eq_getElem hm]
 rfl
def Shp (n:Nat) (d:PyData):Prop:=d.canLay0=true/\d.depth<=n
theorem Shp.shaped {n:Nat} {d:PyData} (h:Shp n d) (hn:n<=64):SeqAt.shaped d=true:=by
 unfold SeqAt.shaped
 rw [h.1,Bool.true_and]
 exact decide_eq_true (Nat.le_trans h.2 hn)
theorem Qx {n:Nat}:∀ {ds:List PyData},(∀ d∈ds,Shp n d)->PyData.canLayAll0 ds=true/\PyData.depthAll ds<=n
 | [],_=>⟨by simp only [PyData.canLayAll0],by simp only [PyData.depthAll]; exact Nat.zero_le _⟩
 | d::r,h=>by
  obtain ⟨h1,h2⟩:=h d List.mem_cons_self
  obtain ⟨h3,h4⟩:=Qx (n:=n) fun x hx=>h x (List.mem_cons_of_mem _ hx)
  refine ⟨by simp only [PyData.canLayAll0,h1,h3,Bool.and_self],?_⟩
  simp only [PyData.depthAll]
  omega
theorem Zb6 {n:Nat} {ds:List PyData} (h:∀ d∈ds,Shp n d):Shp (n + 1) (.list ds):=by
 obtain ⟨h1,h2⟩:=Qx h
 exact ⟨by simp only [PyData.canLay0,h1],by simp only [PyData.depth]; omega⟩
theorem Ng {n:Nat} {ds:List PyData} (h:∀ d∈ds,Shp n d):Shp (n + 1) (.tuple ds):=by
 obtain ⟨h1,h2⟩:=Qx h
 exact ⟨by simp only [PyData.canLay0,h1],by simp only [PyData.depth]; omega⟩
theorem Zar (i:Int):Shp 0 (.int i):=⟨by simp only [PyData.canLay0],by simp only [PyData.depth]; exact Nat.le_refl _⟩
theorem T8 (ns:List Int):Shp 1 (.list (ns.map PyData.int)):=Zb6 fun d hd=>by
 obtain ⟨i,_,rfl⟩:=List.mem_map.mp hd
 exact Zar i
theorem Zls (ns:List Int):PyData.eqv (.list (ns.map PyData.int)) (.list [])=decide (ns=[]):=by
 cases ns with
 | nil=>simp [PyData.eqv,PyData.eqvAll]
 | cons n r=>simp [PyData.eqv,PyData.eqvAll]
theorem Zij (ns:List Int) (lo hi:Option Int):∃ ms:List Int,cutV (ns.map V.int) lo hi=ms.map V.int/\ms.length<=ns.length/\∀ c∈ms,c∈ns:=by
 refine ⟨(ns.drop (HT.sIx (ns.map V.int).length 0 lo)).take (HT.sIx (ns.map V.int).length (ns.map V.int).length hi - HT.sIx (ns.map V.int).length 0 lo),?_,?_,?_⟩
 ·unfold cutV
  rw [List.map_take,List.map_drop]
 ·rw [List.length_take,List.length_drop]
  omega
 ·intro c hc
  exact List.mem_of_mem_drop (List.mem_of_mem_take hc)
theorem Zo {n:Nat} (h:n<=100000):n<=sizeLine:=Nat.le_trans h (by decide)
theorem Se {as:List V} {j:Int} (h0:0<=j) (h1:j<=as.length):cutV as (some j) none=as.drop j.toNat:=by
 obtain ⟨m,rfl⟩:=Int.eq_ofNat_of_zero_le h0
 unfold cutV
 rw [HT.sIx_nat,HT.sIx_none,Nat.min_eq_left (by omega),List.take_of_length_le (by rw [List.length_drop]; exact Nat.le_refl _)]
 rfl
theorem N9 {as:List V} {j:Int} (h0:0<=j) (h1:j<=as.length):cutV as none (some j)=as.take j.toNat:=by
 obtain ⟨m,rfl⟩:=Int.eq_ofNat_of_zero_le h0
 unfold cutV
 rw [HT.sIx_nat,HT.sIx_none,Nat.min_eq_left (by omega),List.drop_zero,Nat.sub_zero]
 rfl
def HC (H H4:Hp) (cl:Addr):Prop:=∃ as:List Int,Same H H4/\H cl=none/\H4 cl=some (.lst (as.map V.int))/\as≠[]/\as.length<=63/\∀ c∈as,0<=c
theorem spun {as:List Int} (hne:as≠[]) (i:Int):∃ cs:List Int,cutV (as.map V.int) (some (i % ((as.map V.int).length:Nat))) none++cutV (as.map V.int) none (some (i % ((as.map V.int).length:Nat)))=cs.map V.int/\cs≠[]/\cs.length=as.length/\∀ c∈cs,c∈as:=by
 have hl:0 < as.length:=List.length_pos_iff.mpr hne
 have h0:0<=i % ((as.map V.int).length:Nat):=Int.emod_nonneg _ (by rw [List.length_map]; omega)
 have h1:i % ((as.map V.int).length:Nat) < ((as.map V.int).length:Nat):=Int.emod_lt_of_pos _ (by rw [List.length_map]; omega)
 generalize i % ((as.map V.int).length:Nat)=j at h0 h1
 rw [Se h0 (by omega),N9 h0 (by omega)]
 rw [List.length_map] at h1
 refine ⟨as.drop j.toNat++as.take j.toNat,by rw [List.map_append,List.map_drop,List.map_take],?_,?_,?_⟩
 ·intro e
  have:=congrArg List.length e
  rw [List.length_append,List.length_drop,List.length_take] at this
  simp at this
  omega
 ·rw [List.length_append,List.length_drop,List.length_take]
  omega
 ·intro c hc
  rcases List.mem_append.mp hc with z | z
  ·exact List.mem_of_mem_drop z
  ·exact List.mem_of_mem_take z
theorem Zir {α:Type} {xs:List α} {r:Int} (h0:0<=r) (h1:r < xs.length):∃ v,v∈xs/\atI xs r=some v:=by
 have hm:r.toNat < xs.length:=by omega
 obtain ⟨k,rfl⟩:=Int.eq_ofNat_of_zero_le h0
 have hm:k < xs.length:=hm
 exact ⟨xs[k],List.getElem_mem hm,Ty (List.getElem?_eq_getElem hm)⟩
theorem Xo {P:Program} {w:World} {K:W.Frag} {mg:Str->Option Value} {base:Heap} {x:Str} {st:Stmt} {f:Addr} {fd:FuncData} {k:Nat} {ps:List Str} {sp:Sp} (F:Fun K x x st f fd) (G:FnOk P w K mg base CX0 k f fd ps sp) (m:mg x=some (.ref f)) (b:Vn K fd ps []) :
  Cal P w K mg base x k ps sp:=⟨f,fd,G,m,F.kp,b⟩
end L2
set_option maxHeartbeats 4000000
namespace L2
open PySem PySem.W PyProof.Rows
def Rk (rk:Nat->Int) (p:Array Nat) (i:Nat):Int:=rk (p.getD i 0)
def SrtR (rk:Nat->Int) (p:Array Nat) (k:Nat):Prop:=∀ i j,i<=j->j < k->Rk rk p i<=Rk rk p j
structure GoodP (n:Nat) (p:Array Nat):Prop where
 perm:p.Perm (List.range n).toArray
theorem GoodP.size {n:Nat} {p:Array Nat} (g:GoodP n p):p.size=n:=by have:=g.perm.size_eq; simpa using this
theorem GoodP.lt {n:Nat} {p:Array Nat} (g:GoodP n p) (i:Nat) (hi:i < n):p.getD i 0 < n:=by
 have hi':i < p.size:=by rw [g.size]; exact hi
 have e:p.getD i 0=p[i]:=by simp [Array.getD,hi']
 rw [e]
 have hm:p[i]∈p.toList:=by simp
 have:=(Array.perm_iff_toList_perm.mp g.perm).mem_iff.mp hm
 simpa using this
theorem GoodP.ne {n:Nat} {p:Array Nat} (g:GoodP n p) {i j:Nat} (hi:i < n) (hj:j < n) (h:i≠j):p.getD i 0≠p.getD j 0:=by
 have nd:p.toList.Nodup:=(Array.perm_iff_toList_perm.mp g.perm).nodup_iff.mpr (by simpa using List.nodup_range)
 have hi':i < p.size:=by rw [g.size]; exact hi
 have hj':j < p.size:=by rw [g.size]; exact hj
 have e:p.getD i 0=p[i]:=by simp [Array.getD,hi']
 have e2:p.getD j 0=p[j]:=by simp [Array.getD,hj']
 rw [e,e2]
 intro z
 have:=(List.getElem_inj (h₀:=by simpa using hi') (h₁:=by simpa using hj') nd).mp (by simpa using z)
 exact h this
theorem W8 {p q:Array Nat} {i j:Nat} (h:p[i]?=q[j]?):p.getD i 0=q.getD j 0:=by
 rw [Array.getD_eq_getD_getElem?,Array.getD_eq_getD_getElem?,h]
theorem Zam {rk:Nat->Int} {xs:Array Nat} {src d:Nat} (hs:src < xs.size) (hd:d<=src) (k:Nat) :
  Rk rk (bubble xs src d) k=if k=src - d then Rk rk xs src else if src - d < k/\k<=src then Rk rk xs (k - 1) else Rk rk xs k:=by
 have e:=getElem?_bubble hs d hd k
 unfold Rk
 by_cases h1:k=src - d
 ·rw [if_pos h1] at e ⊢; rw [W8 e]
 ·rw [if_neg h1] at e ⊢
  by_cases h2:src - d < k/\k<=src
  ·rw [if_pos h2] at e ⊢; rw [W8 e]
  ·rw [if_neg h2] at e ⊢; rw [W8 e]
theorem Zjy {rk:Nat->Int} {xs:Array Nat} {j:Nat} (hj:j<=xs.size) (k:Nat) :
  Rk rk (kas_rev xs 0 j) k=if k < j then Rk rk xs (j - 1 - k) else Rk rk xs k:=by
 have e:=getElem?_mirror_all (xs:=xs) (i:=0) hj k
 unfold Rk kas_rev
 by_cases h1:k < j
 ·rw [if_pos ⟨Nat.zero_le _,h1⟩] at e
  rw [if_pos h1,W8 e,Nat.zero_add]
 ·rw [if_neg (fun z=>h1 z.2)] at e
  rw [if_neg h1,W8 e]
section
variable {rk:Nat->Int} {n:Nat} {cmp:Nat->Nat->(Bool->Shared->Prop)->Shared->Prop} {s:Shared}
def CmpR (rk:Nat->Int) (n:Nat) (cmp:Nat->Nat->(Bool->Shared->Prop)->Shared->Prop) (s:Shared):Prop :=
 ∀ i j (C:Bool->Shared->Prop),i < n->j < n->C (decide (rk i < rk j)) s->cmp i j C s
theorem Zl8 (hc:CmpR rk n cmp s) {p:Array Nat} (g:GoodP n p) {G:Nat->Shared->Prop}:∀ (f m:Nat),1<=m->m + f<=n->SrtR rk p m ->
  (∀ m',m<=m'->m'<=m + f->SrtR rk p m'->(m'=m + f\/(m' < n/\Rk rk p m' < Rk rk p (m' - 1)))->G m' s)->(kas_asc p f m).kasWp cmp G s
 | 0,m,_,_,hs,h=>h m (Nat.le_refl _) (Nat.le_refl _) hs (.inl rfl)
 | f + 1,m,h1,h2,hs,h=>by
  show cmp (p.getD m 0) (p.getD (m - 1) 0) _ s
  refine hc _ _ _ (g.lt _ (by omega)) (g.lt _ (by omega)) ?_
  by_cases q:rk (p.getD m 0) < rk (p.getD (m - 1) 0)
  ·simp only [q,decide_true,if_true]
   exact h m (Nat.le_refl _) (by omega) hs (.inr ⟨by omega,q⟩)
  ·simp only [q,decide_false,Bool.false_eq_true,if_false]
   refine Zl8 hc g f (m + 1) (by omega) (by omega) (fun i j hij hj=>?_) fun m' a b c d=>h m' (by omega) (by omega) c (by
    rcases d with d | d
    ·exact .inl (by omega)
    ·exact .inr d)
   by_cases hjm:j=m
   ·subst hjm
    by_cases him:i=j
    ·subst him; exact Int.le_refl _
    ·exact Int.le_trans (hs i (j - 1) (by omega) (by omega)) (Int.not_lt.mp q)
   ·exact hs i j hij (by omega)
theorem Zjo (hc:CmpR rk n cmp s) (inj:∀ i j,i < n->j < n->rk i=rk j->i=j) {p:Array Nat} (g:GoodP n p) {G:Array Nat×Nat×Nat->Shared->Prop}:∀ (f m:Nat),1<=m->m + f<=n ->
  (∀ i j,i < j->j < m->Rk rk p j < Rk rk p i) ->
  (∀ m',m<=m'->m'<=m + f->(∀ i j,i < j->j < m'->Rk rk p j < Rk rk p i)->G (p,m',0) s)->(kas_desc f p m 0).kasWp cmp G s
 | 0,m,_,_,hs,h=>h m (Nat.le_refl _) (Nat.le_refl _) hs
 | f + 1,m,h1,h2,hs,h=>by
  show cmp (p.getD m 0) (p.getD (m - 1) 0) _ s
  refine hc _ _ _ (g.lt _ (by omega)) (g.lt _ (by omega)) ?_
  by_cases q:rk (p.getD m 0) < rk (p.getD (m - 1) 0)
  ·simp only [q,decide_true,if_true,Nat.lt_irrefl,if_false,gt_iff_lt]
   refine Zjo hc inj g f (m + 1) (by omega) (by omega) (fun i j hij hj=>?_) fun m' a b c=>h m' (by omega) (by omega) c
   by_cases hjm:j=m
   ·subst hjm
    by_cases him:i=j - 1
    ·subst him; exact q
    ·exact Int.lt_trans q (hs i (j - 1) (by omega) (by omega))
   ·exact hs i j hij (by omega)
  ·simp only [q,decide_false,Bool.false_eq_true,if_false]
   show cmp (p.getD (m - 1) 0) (p.getD m 0) _ s
   refine hc _ _ _ (g.lt _ (by omega)) (g.lt _ (by omega)) ?_
   have lt2:rk (p.getD (m - 1) 0) < rk (p.getD m 0):=by
    have ne:rk (p.getD (m - 1) 0)≠rk (p.getD m 0):=fun z=>g.ne (by omega) (by omega) (by omega:m - 1≠m) (inj _ _ (g.lt _ (by omega)) (g.lt _ (by omega)) z)
    omega
   simp only [lt2,decide_true,if_true]
   exact h m (Nat.le_refl _) (by omega) hs
theorem GoodP.rev {p:Array Nat} (g:GoodP n p) (i j:Nat):GoodP n (kas_rev p i j):=⟨(mirror_perm _ _ _ _).trans g.perm⟩
theorem Zlz (hc:CmpR rk n cmp s) (inj:∀ i j,i < n->j < n->rk i=rk j->i=j) (h2:2<=n) {p:Array Nat} (g:GoodP n p) {G:Nat×Array Nat->Shared->Prop}
  (h:∀ m p',1<=m->m<=n->GoodP n p'->SrtR rk p' m->G (m,p') s):(kas_count n p).kasWp cmp G s:=by
 unfold kas_count
 rw [KasT.kasWp_bind]
 refine Zl8 hc g (n - 1) 1 (Nat.le_refl _) (by omega) (fun i j hij hj=>by rw [show i=j by omega]; exact Int.le_refl _) fun m a b c d=>?_
 by_cases e:m=n
 ·subst e
  simp only [beq_self_eq_true,if_true]
  exact h m p (by omega) (Nat.le_refl _) g c
 ·have hb:(m == n)=false:=by simpa using e
  simp only [hb,Bool.false_eq_true,if_false]
  have hd:m < n/\Rk rk p m < Rk rk p (m - 1):=by
   rcases d with d | d
   ·omega
   ·exact d
  by_cases hm:m > 1
  ·rw [if_pos hm]
   show cmp (p.getD 0 0) (p.getD (m - 1) 0) _ s
   refine hc _ _ _ (g.lt _ (by omega)) (g.lt _ (by omega)) ?_
   have lt2:rk (p.getD 0 0) < rk (p.getD (m - 1) 0):=by
    have ne:rk (p.getD 0 0)≠rk (p.getD (m - 1) 0):=fun z=>g.ne (by omega) (by omega) (by omega:0≠m - 1) (inj _ _ (g.lt _ (by omega)) (g.lt _ (by omega)) z)
    have le:=c 0 (m - 1) (by omega) (by omega)
    unfold Rk at le
    omega
   simp only [lt2,decide_true,if_true]
   exact h m p (by omega) (by omega) g c
  ·rw [if_neg hm]
   have hm1:m=1:=by omega
   subst hm1
   unfold kas_descPart
   rw [KasT.kasWp_bind]
   refine Zjo hc inj g (n - 2) 2 (by omega) (by omega) (fun i j hij hj=>?_) fun m' a' b' c'=>?_
   ·have:j=1:=by omega
    have:i=0:=by omega
    subst i; subst j
    exact hd.2
   ·simp only [gt_iff_lt,Nat.lt_irrefl,if_false]
    unfold kas_tail3
    rw [KasT.kasWp_bind]
    have hm':m'<=n:=by omega
    refine Zl8 hc (g.rev 0 m') (n - m') m' (by omega) (by omega) (fun i j hij hj=>?_) fun k a2 b2 c2 _=>?_
    ·rw [Zjy (by rw [g.size]; exact hm'),Zjy (by rw [g.size]; exact hm'),if_pos (by omega),if_pos hj]
     by_cases hij2:i=j
     ·subst hij2; exact Int.le_refl _
     ·exact Int.le_of_lt (c' _ _ (by omega) (by omega))
    ·show G (k,kas_rev p 0 m') s
     exact h k _ (by omega) (by omega) (g.rev 0 m') c2
theorem Za0 (hc:CmpR rk n cmp s) {p:Array Nat} (g:GoodP n p) {k:Nat} (hk:k < n) (hs:SrtR rk p k) {G:Nat->Shared->Prop}
  (h:∀ l,l<=k->(∀ i,i < l->Rk rk p i<=Rk rk p k)->(∀ i,l<=i->i < k->Rk rk p k < Rk rk p i)->G l s):∀ (f l r:Nat),l<=r->r<=k->r - l<=f ->
  (∀ i,i < l->Rk rk p i<=Rk rk p k)->(∀ i,r<=i->i < k->Rk rk p k < Rk rk p i)->(kas_place p k f l r).kasWp cmp G s
 | 0,l,r,h1,h2,h3,lo,hi=>by
  have:l=r:=by omega
  subst this
  exact h l h2 lo hi
 | f + 1,l,r,h1,h2,h3,lo,hi=>by
  unfold kas_place
  by_cases hge:l≥r
  ·rw [if_pos hge]
   have:l=r:=by omega
   subst this
   exact h l h2 lo hi
  ·rw [if_neg hge]
   show cmp (p.getD k 0) (p.getD ((l + r) / 2) 0) _ s
   refine hc _ _ _ (g.lt _ hk) (g.lt _ (by omega)) ?_
   by_cases q:rk (p.getD k 0) < rk (p.getD ((l + r) / 2) 0)
   ·simp only [q,decide_true,if_true]
    exact Za0 hc g hk hs h f l ((l + r) / 2) (by omega) (by omega) (by omega) lo fun i a b=>Int.lt_of_lt_of_le q (hs _ _ a b)
   ·simp only [q,decide_false,Bool.false_eq_true,if_false]
    exact Za0 hc g hk hs h f ((l + r) / 2 + 1) r (by omega) (by omega) (by omega) (fun i a=>Int.le_trans (hs i ((l + r) / 2) (by omega) (by omega)) (Int.not_lt.mp q)) hi
theorem Zpk (hc:CmpR rk n cmp s) {G:Array Nat->Shared->Prop} (h:∀ p,GoodP n p->SrtR rk p n->G p s):∀ (f:Nat) (p:Array Nat) (k:Nat),k + f=n->GoodP n p->SrtR rk p k->(kas_bin f p k).kasWp cmp G s
 | 0,p,k,e,g,hs=>h p g (by rw [<- e]; exact hs)
 | f + 1,p,k,e,g,hs=>by
  unfold kas_bin
  rw [KasT.kasWp_bind]
  refine Za0 hc g (by omega) hs (fun l hl lo hi=>?_) k 0 k (Nat.zero_le _) (Nat.le_refl _) (by omega) (fun i z=>absurd z (Nat.not_lt_zero _)) (fun i a b=>by omega)
  refine Zpk hc h f _ (k + 1) (by omega) ⟨(bubble_perm _ _ _).trans g.perm⟩ fun i j hij hj=>?_
  have hks:k < p.size:=by rw [g.size]; omega
  rw [Zam hks (by omega),Zam hks (by omega),show k - (k - l)=l by omega]
  repeat' split
  all_goals first
   | (exfalso; omega)
   | exact Int.le_refl _
   | exact lo _ (by omega)
   | exact Int.le_of_lt (hi _ (by omega) (by omega))
   | exact hs _ _ (by omega) (by omega)
theorem Zne (hc:CmpR rk n cmp s) (inj:∀ i j,i < n->j < n->rk i=rk j->i=j) (h2:2<=n) {G:Array Nat->Shared->Prop} (h:∀ p,GoodP n p->SrtR rk p n->G p s):(kas_sort n).kasWp cmp G s:=by
 unfold kas_sort
 rw [KasT.kasWp_bind]
 refine Zlz hc inj h2 ⟨Array.Perm.refl _⟩ fun m p' a b g hs=>?_
 by_cases hm:m < n
 ·rw [if_pos hm]
  have e:max m 1=m:=by omega
  rw [e]
  exact Zpk hc h (n - m) p' m (by omega) g hs
 ·rw [if_neg hm]
  have:m=n:=by omega
  subst this
  exact h p' g hs
end
end L2
namespace L2
open PySem PySem.W PyProof.Rows HT
theorem Zfu:∀ a:List Int,lexLt a a=false
 | []=>rfl
 | x::r=>by rw [Uj,if_pos rfl]; exact Zfu r
theorem Nx:∀ {a b c:List Int},lexLt a b=true->lexLt b c=true->lexLt a c=true
 | [],[],_,h,_=>by rw [Q7] at h; cases h
 | [],_::_,[],_,h=>by rw [W0] at h; cases h
 | [],_::_,_::_,_,_=>rfl
 | _::_,[],_,h,_=>by rw [W0] at h; cases h
 | _::_,_::_,[],_,h=>by rw [W0] at h; cases h
 | x::a,y::b,z::c,h1,h2=>by
  rw [Uj] at h1 h2 ⊢
  by_cases e1:x=y
  ·subst e1
   rw [if_pos rfl] at h1
   by_cases e2:x=z
   ·rw [if_pos e2] at h2 ⊢; exact Nx h1 h2
   ·rw [if_neg e2] at h2 ⊢; exact h2
  ·rw [if_neg e1] at h1
   have l1:x < y:=of_decide_eq_true h1
   by_cases e2:y=z
   ·subst e2; rw [if_neg e1]; exact h1
   ·rw [if_neg e2] at h2
    have l2:y < z:=of_decide_eq_true h2
    rw [if_neg (by omega)]
    exact decide_eq_true (by omega)
theorem Za8:∀ {a b:List Int},lexLt a b=false->lexLt b a=false->a=b
 | [],[],_,_=>rfl
 | [],_::_,h,_=>by rw [Uq] at h; cases h
 | _::_,[],_,h=>by rw [Uq] at h; cases h
 | x::a,y::b,h1,h2=>by
  rw [Uj] at h1 h2
  by_cases e:x=y
  ·subst e
   rw [if_pos rfl] at h1 h2
   rw [Za8 h1 h2]
  ·rw [if_neg e] at h1
   rw [if_neg (fun z=>e z.symm)] at h2
   have:=of_decide_eq_false h1
   have:=of_decide_eq_false h2
   omega
theorem Zaa {α:Type} {p q:α->Bool}:∀ {l:List α},(∀ x∈l,p x=true->q x=true)->(∃ x∈l,q x=true/\p x=false)->l.countP p < l.countP q
 | [],_,⟨_,h,_⟩=>nomatch h
 | a::l,h1,⟨x,hx,hq,hp⟩=>by
  have le:l.countP p<=l.countP q:=List.countP_mono_left fun y hy=>h1 y (List.mem_cons_of_mem _ hy)
  rw [List.countP_cons,List.countP_cons]
  rcases List.mem_cons.mp hx with e | hx
  ·subst e
   rw [hq,hp]
   simp
   omega
  ·have lt:=Zaa (fun y hy=>h1 y (List.mem_cons_of_mem _ hy)) ⟨x,hx,hq,hp⟩
   have:=h1 a List.mem_cons_self
   cases ha:p a <;> cases hb:q a <;> simp_all <;> omega
def Wu (ks:List (List Int)) (i:Nat):Int:=((List.range ks.length).countP fun j=>lexLt (ks.getD j []) (ks.getD i []):Nat)
theorem Ze3 {ks:List (List Int)} {i j:Nat} (hi:i < ks.length) (h:lexLt (ks.getD i []) (ks.getD j [])=true):Wu ks i < Wu ks j:=by
 unfold Wu
 have:=Zaa (l:=List.range ks.length) (p:=fun x=>lexLt (ks.getD x []) (ks.getD i [])) (q:=fun x=>lexLt (ks.getD x []) (ks.getD j [])) (fun x _ hx=>Nx hx h) ⟨i,List.mem_range.mpr hi,h,Zfu _⟩
 omega
theorem Sa {ks:List (List Int)} (nd:ks.Nodup) {i j:Nat} (hi:i < ks.length) (hj:j < ks.length):decide (Wu ks i < Wu ks j)=lexLt (ks.getD i []) (ks.getD j []):=by
 cases e:lexLt (ks.getD i []) (ks.getD j []) with
 | true=>exact decide_eq_true (Ze3 hi e)
 | false =>
  refine decide_eq_false fun z=>?_
  cases e2:lexLt (ks.getD j []) (ks.getD i []) with
  | true=>have:=Ze3 hj e2; omega
  | false =>
   have e3:=Za8 e e2
   unfold Wu at z
   rw [e3] at z
   exact absurd z (Int.lt_irrefl _)
theorem Zcc {ks:List (List Int)} (nd:ks.Nodup) {i j:Nat} (hi:i < ks.length) (hj:j < ks.length) (h:Wu ks i=Wu ks j):i=j:=by
 have e1:lexLt (ks.getD i []) (ks.getD j [])=false:=by rw [<- Sa nd hi hj]; exact decide_eq_false (by omega)
 have e2:lexLt (ks.getD j []) (ks.getD i [])=false:=by rw [<- Sa nd hj hi]; exact decide_eq_false (by omega)
 have e3:=Za8 e1 e2
 rw [List.getD_eq_getElem?_getD,List.getD_eq_getElem?_getD,List.getElem?_eq_getElem hi,List.getElem?_eq_getElem hj] at e3
 exact (List.getElem_inj (h₀:=hi) (h₁:=hj) nd).mp (by simpa using e3)
section
variable {prog:Program} {w:World} {A:Around} {s:Shared}
theorem Zck {Q:Bool->Shared->Prop}:∀ {vs ws:List Value} {ns ms:List Int} {fin:Bool} {i:Nat},IntsAre vs ns->IntsAre ws ms->(fin=decide (ns.length < ms.length))->Q (lexLt ns ms) s->KatLex prog w A true fin Q (vs.zip ws) i s
 | _,_,_,_,fin,i,.nil,.nil,e,h=>by
  subst e
  exact kat_nil h
 | _,_,_,_,fin,i,.nil,.cons _ _ r,e,h=>by
  subst e
  exact kat_nil (by simpa [HT.lexLt] using h)
 | _,_,_,_,fin,i,.cons _ _ r,.nil,e,h=>by
  subst e
  exact kat_nil (by simpa [HT.lexLt] using h)
 | _,_,_,_,fin,i,.cons a t r,.cons c u r2,e,h=>by
  rw [List.zip_cons_cons]
  refine kat_cons (wpAny_eqBool_int ?_)
  rw [Uj] at h
  by_cases z:a=c
  ·subst z
   rw [if_pos rfl] at h
   rw [beq_self_eq_true]
   exact kat_yes (Zck r r2 (by rw [e]; simp) h)
  ·rw [if_neg z] at h
   have hb:(a == c)=false:=by simpa using z
   rw [hb]
   refine kat_no ?_
   cases hi:(true && i == 0) with
   | true=>exact oneLt_int h
   | false=>exact kat_one _ _ (PyProof.Rows.lt_int (show PySem.W.BoolBack Q (.bool (decide (a < c))) s from h))
end
abbrev KIt:=V×Addr×List Int
section
variable {X:Cx} {pins:List (Addr×Obj)} {σ:St} {H:Hp} {s:Shared}
theorem Inv.pin1 {b:Addr} {o:Obj} (I:Inv X pins σ H s) (f:FpOk X pins H b) (e:s.heap.get? b=some o) (hd:∀ v,o.data≠.cell v):Inv X (pins++[(b,o)]) σ H s :=
 I.pins_of fun p hp=>(List.mem_append.mp hp).elim (fun z=>I.pin p (List.mem_append_right _ z)) fun z=>by
  rw [List.mem_singleton.mp z]
  exact ⟨e,f.1,f.2.1,f.2.2.1,hd⟩
theorem Inv.turn1 {b:Addr} {h':Heap} (I:Inv X pins σ H s) (f:FpOk X pins H b) (hs:Heap.SameBut b s.heap h'):Inv X pins σ H { s with heap:=h' } :=
 I.turned (t':=s.toks) (fun c o hc e=>(hs.2 c hc).trans e) f.1 f.2.1 f.2.2.2.1 f.2.2.2.2.1 f.2.2.2.2.2
theorem FpOk.snoc {b c:Addr} {o:Obj} (f:FpOk X pins H b) (h:c≠b):FpOk X (pins++[(c,o)]) H b :=
 ⟨f.1,f.2.1,f.2.2.1,f.2.2.2.1,f.2.2.2.2.1,fun p hp=>by
  rw [<- List.append_assoc] at hp
  rcases List.mem_append.mp hp with z | z
  ·exact f.2.2.2.2.2 p z
  ·rw [List.mem_singleton.mp z]; exact h⟩
def Yi (L:List KIt):List Value:=L.map fun q=>Value.ref q.2.1
theorem W9 {α β:Type} {f:α->β} {l:List α} {i:Nat} {d:β} (h:i < l.length):(l.map f).getD i d=f l[i]:=by
 rw [List.getD_eq_getElem?_getD,List.getElem?_map,List.getElem?_eq_getElem h]; rfl
theorem Zh9 {L:List KIt} (I:Inv X pins σ H s) (hk:∀ q∈L,SqT X.K H q.2.1 (q.2.2.map V.int)/\q.2.2≠[]) (h2:0 < L.length) {E:Value->Shared->Prop} {A:Around} {Q:SortKind->Shared->Prop} (h:Q (tuples' true) s) :
  wpAny (model X.prog X.w) A (keyKind' (Yi L).toArray) Q E s:=by
 have tk:∀ L':List KIt,(∀ q∈L',q∈L)->∃ fs:List Value,KatTups s.heap (Yi L') fs/\fs.length=L'.length/\∀ v∈fs,∃ n t,v=.int n t:=by
  intro L'
  induction L' with
  | nil=>intro _; exact ⟨[],.nil,rfl,fun v hv=>nomatch hv⟩
  | cons q r ih =>
   intro hm
   obtain ⟨fs,a,b,c⟩:=ih fun x hx=>hm x (List.mem_cons_of_mem _ hx)
   obtain ⟨sq,ne⟩:=hk q (hm q List.mem_cons_self)
   obtain ⟨its,rv,⟨o,e,hc,n,hd⟩,_⟩:=I.tuple sq
   match hq:q.2.2,ne with
   | z::zs,_ =>
    rw [hq] at rv
    cases rv with
    | cons rv1 rv2 =>
     obtain ⟨t,et⟩:=rv1
     refine ⟨.int z t::fs,KatTups.cons e hc hd ?_ a,by simp [b],fun v hv=>?_⟩
     ·rw [et]; simp
     ·rcases List.mem_cons.mp hv with e | hv
      ·exact ⟨z,t,e⟩
      ·exact c v hv
 obtain ⟨fs,a,b,c⟩:=tk L fun _ h=>h
 exact kat_kind (T:=.type "int") a (by omega) (fun v hv=>by obtain ⟨n,t,e⟩:=c v hv; subst e; exact .now) (by decide) h
theorem Zld {L:List KIt} (I:Inv X pins σ H s) (hk:∀ q∈L,SqT X.K H q.2.1 (q.2.2.map V.int)/\q.2.2≠[]) (nd:(L.map (·.2.2)).Nodup) {A:Around} :
  CmpR (Wu (L.map (·.2.2))) L.length (kas_ask X.prog X.w A (tuples' true) (Yi L)) s:=by
 intro i j C hi hj h
 rw [Sa nd (by simpa using hi) (by simpa using hj),W9 hi,W9 hj] at h
 unfold kas_ask
 rw [show (Yi L).getD i Value.none=Value.ref L[i].2.1 from W9 hi,show (Yi L).getD j Value.none=Value.ref L[j].2.1 from W9 hj]
 obtain ⟨its,rv,⟨o,e,hc,n,hd⟩,_⟩:=I.tuple (hk _ (List.getElem_mem hi)).1
 obtain ⟨its2,rv2,⟨o2,e2,hc2,n2,hd2⟩,_⟩:=I.tuple (hk _ (List.getElem_mem hj)).1
 have ia:∀ {ns:List Int} {vs:List Value},Vals (ns.map V.int) vs->IntsAre vs ns:=by
  intro ns
  induction ns with
  | nil=>intro vs h; cases h; exact .nil
  | cons a r ih =>
   intro vs h
   cases h with
   | cons h1 h2=>obtain ⟨t,e⟩:=h1; subst e; exact .cons a t (ih h2)
 refine kat_lt e hd e2 hd2 ?_
 have i1:=ia rv
 have i2:=ia rv2
 exact Zck i1 i2 (by rw [<- i1.length,<- i2.length]; simp) h
end
section
variable {X:Cx} {pins:List (Addr×Obj)} {σ:St} {H:Hp} {s:Shared} {E:Value->Shared->Prop} {A:Around}
abbrev PD (D:Addr) (e1:Nat):Addr×Obj:=(D,seqObj "list" #[] e1)
abbrev PKs (kS:Addr) (e:Nat) (L:List KIt):Addr×Obj:=(kS,seqObj "list" (Yi L).toArray e)
theorem Vals.perm_get {L:List KIt} {its:List Value} (rv:Vals (L.map (·.1)) its) {p:List Nat} (hp:∀ i∈p,i < L.length):Vals (p.map fun i=>(L.getD i (.non,0,[])).1) (p.map fun i=>its.getD i Value.none):=by
 have e:=rv.length
 simp only [List.length_map] at e
 induction p with
 | nil=>exact .nil
 | cons i r ih =>
  have hi:=hp i List.mem_cons_self
  have hi2:i < its.length:=by omega
  obtain ⟨u,hu,r1⟩:=Vals.get rv (i:=i) (x:=L[i].1) (by rw [List.getElem?_map,List.getElem?_eq_getElem hi]; rfl)
  refine .cons ?_ (ih fun j hj=>hp j (List.mem_cons_of_mem _ hj))
  show RelV (L.getD i (.non,0,[])).1 (its.getD i Value.none)
  rw [List.getD_eq_getElem?_getD,List.getD_eq_getElem?_getD,hu,List.getElem?_eq_getElem hi]
  exact r1
theorem Nd {D kS:Addr} {e e1:Nat} {L L':List KIt} {st:SortSt} {out:List Value} {P:PySem.Fin->Shared->Prop} (I:Inv X ((pins++[PD D e1])++[PKs kS e L]) σ H s) (h64:L.length < 64) (fD:FpOk X pins H D) (fK:FpOk X (pins++[PD D e1]) H kS)
  (hout:(arrOf st).map (·.2)=out.toArray) (hf:failedOf st=none) (rv:Vals (L'.map (·.1)) out) (hl:L'.length=L.length)
  (h:∀ s',Inv X pins σ (upd H D (.lst (L'.map (·.1)))) s'->P (.done (.ret .none)) s'):wpAny (model X.prog X.w) A (ksk_tail D false e1 (.ref kS) st) P E s:=by
 have pk:=I.pin (PKs kS e L) (List.mem_append_right _ (List.mem_append_right _ (List.mem_singleton.mpr rfl)))
 have s1:=Heap.SameBut.update s.heap kS (Obj.mapSeq fun _=>(#[]:Array Value))
 have I1:=(I.unpinned (pl:=[PKs kS e L])).turn1 fK s1
 have pd:=I1.pin (PD D e1) (List.mem_append_right _ (List.mem_append_right _ (List.mem_singleton.mpr rfl)))
 have s2:=Heap.SameBut.update (s.heap.update kS (Obj.mapSeq fun _=>(#[]:Array Value))) D (Obj.mapSeq fun _=>out.toArray)
 obtain ⟨c2,hc2⟩:∃ c2,((s.heap.update kS (Obj.mapSeq fun _=>(#[]:Array Value))).update D (Obj.mapSeq fun _=>out.toArray)).get? D=some (seqObj "list" out.toArray c2):=⟨_,get?_update_seq pd.1 fun _=>out.toArray⟩
 have lo:out.length=L.length:=by have:=rv.length; simp only [List.length_map] at this; omega
 have hz:L'.length<=sizeLine:=by rw [sizeLine_eq]; omega
 unfold ksk_tail
 try dsimp only
 rw [hout]
 refine wpAny_bind (listUpdate_at pk.1 rfl ?_ (by simp only [List.size_toArray,Yi,List.length_map,sizeLine_eq]; omega) (Nat.zero_le _))
 refine wpAny_bind (wpAny_letGo ?_)
 refine wpAny_bind (seqEpoch_at pd.1 rfl ?_)
 refine wpAny_bind (listUpdate_at pd.1 rfl ?_ (Nat.zero_le _) (by simp only [List.size_toArray,sizeLine_eq,Bool.false_eq_true,if_false]; omega))
 rw [hf]
 simp only [bne_self_eq_false,Bool.false_eq_true,if_false]
 refine wpAny_pure (h _ ?_)
 have I2:=(I1.unpinned (pl:=[PD D e1])).turn1 fD s2
 exact I2.track (its:=out) (n:=c2) hc2 fD rv (by rw [List.length_map]; exact hz)
theorem Zhf {D kS:Addr} {e e1:Nat} {L:List KIt} {its:List Value} {P:PySem.Fin->Shared->Prop} (I:Inv X ((pins++[PD D e1])++[PKs kS e L]) σ H s) (h64:L.length < 64) (fD:FpOk X pins H D) (fK:FpOk X (pins++[PD D e1]) H kS)
  (hk:∀ q∈L,SqT X.K H q.2.1 (q.2.2.map V.int)/\q.2.2≠[]) (nd:(L.map (·.2.2)).Nodup) (rv:Vals (L.map (·.1)) its)
  (h:∀ (s':Shared) (L':List KIt),L'.Perm L->L'.Pairwise (fun a b=>HT.lexLt a.2.2 b.2.2=true)->Inv X pins σ (upd H D (.lst (L'.map (·.1)))) s'->P (.done (.ret .none)) s') :
  wpAny (model X.prog X.w) A (ksk_end D false its.toArray e1 (.ref kS) (Yi L).toArray) P E s:=by
 have el:its.length=L.length:=by have:=rv.length; simp only [List.length_map] at this; omega
 have ek:(Yi L).length=its.length:=by rw [el]; simp [Yi]
 unfold ksk_end
 try dsimp only
 simp only [Bool.false_eq_true,if_false]
 by_cases h2:its.toArray.size < 2
 ·rw [if_pos h2]
  refine wpAny_bind (wpAny_pure ?_)
  rw [if_pos h2]
  have h2':its.length < 2:=by simpa using h2
  refine wpAny_bind (m:=(pure ():StateT SortSt Sem Unit).run _) (wpAny_pure ?_)
  refine Nd (L':=L) (out:=its) I h64 fD fK ?_ rfl rv rfl fun s'=>h s' L (List.Perm.refl _) ?_
  ·show (((Yi L).toArray.zip its.toArray).map (·.2))=its.toArray
   apply Array.toList_inj.mp
   rw [Array.toList_map,ksk_zip]
   simp only [List.map_snd_zip (by omega:its.length<=(Yi L).length)]
  ·match L,el with
   | [],_=>exact .nil
   | [q],_=>exact List.pairwise_singleton _ _
   | _::_::_,el=>simp only [List.length_cons] at el; omega
 ·rw [if_neg h2,if_neg h2]
  have h2':2<=its.length:=by simpa using h2
  refine wpAny_bind (Zh9 (I.unpinned (pl:=[PKs kS e L])) hk (by omega) ?_)
  refine wpAny_bind (wpAny_mono (kat_run (vs:=its) (ks:=Yi L) (G:=fun p s'=>s'=s/\GoodP L.length p/\SrtR (Wu (L.map (·.2.2))) p L.length) (Q:=fun st' s'=>∃ p:Array Nat,s'=s/\GoodP L.length p/\SrtR (Wu (L.map (·.2.2))) p L.length/\arrOf st'=p.map (kas_item ((Yi L).toArray.zip its.toArray))/\failedOf st'=none) ek h2' (by omega)
   (fun p st' s' a1 a2 a3 a4=>⟨p,a4.1,a4.2.1,a4.2.2,a2,a3⟩)
   (by
    rw [el]
    exact Zne (Zld (I.unpinned (pl:=[PKs kS e L])) hk nd) (fun i j hi hj z=>Zcc nd (by simpa using hi) (by simpa using hj) z) (by omega) (G:=fun p s'=>s'=s/\GoodP L.length p/\SrtR (Wu (L.map (·.2.2))) p L.length) fun p g hs=>⟨rfl,g,hs⟩)) ?_ fun _ _ x=>x)
  rintro ⟨⟨⟩,st'⟩ s' ⟨p,rfl,g,hs,har,hf⟩
  have hp:∀ i∈p.toList,i < L.length:=fun i hi=>by
   have:=(Array.perm_iff_toList_perm.mp g.perm).mem_iff.mp hi
   simpa using this
  have pl:p.toList.Perm (List.range L.length):=by have:=Array.perm_iff_toList_perm.mp g.perm; simpa using this
  have hmap:∀ (F:KIt->V),(p.toList.map fun i=>F (L.getD i (.non,0,[])))=(p.toList.map fun i=>L.getD i (.non,0,[])).map F:=fun F=>by rw [List.map_map]; rfl
  have rangeL:(List.range L.length).map (fun i=>L.getD i (.non,0,[]))=L:=by
   apply List.ext_getElem
   ·simp
   ·intro i h1 h2; simp [List.getD_eq_getElem?_getD,h2]
  refine Nd (L':=p.toList.map fun i=>L.getD i (.non,0,[])) (out:=p.toList.map fun i=>its.getD i Value.none) I h64 fD fK (kat_snds ek har) hf (by rw [<- hmap (·.1)]; exact Vals.perm_get rv hp) (by rw [List.length_map,Array.length_toList,g.size]) fun s'=>h s' _ ?_ ?_
  ·have:=pl.map fun i=>L.getD i (.non,0,[])
   rwa [rangeL] at this
  ·rw [List.pairwise_iff_getElem]
   intro i j hi hj hij
   simp only [List.length_map,Array.length_toList,g.size] at hi hj
   have gi:=g.lt i hi
   have gj:=g.lt j hj
   have hle:=hs i j (Nat.le_of_lt hij) hj
   have hne:=g.ne hi hj (Nat.ne_of_lt hij)
   unfold Rk at hle
   have hlt:Wu (L.map (·.2.2)) (p.getD i 0) < Wu (L.map (·.2.2)) (p.getD j 0):=by
    rcases Int.lt_or_eq_of_le hle with z | z
    ·exact z
    ·exact absurd (Zcc nd (by simpa using gi) (by simpa using gj) z) hne
   have hd:=Sa nd (i:=p.getD i 0) (j:=p.getD j 0) (by simpa using gi) (by simpa using gj)
   rw [decide_eq_true hlt,W9 gi,W9 gj] at hd
   have ei:p.getD i 0=p[i]'(by rw [g.size]; exact hi):=by simp [Array.getD,g.size,hi]
   have ej:p.getD j 0=p[j]'(by rw [g.size]; exact hj):=by simp [Array.getD,g.size,hj]
   simp only [List.getElem_map,Array.getElem_toList,List.getD_eq_getElem?_getD]
   have gi':=gi
   have gj':=gj
   rw [ei] at gi'
   rw [ej] at gj'
   rw [List.getElem?_eq_getElem gi',List.getElem?_eq_getElem gj']
   simp only [ei,ej] at hd
   exact hd.symm
end
section
variable {X:Cx} {pins:List (Addr×Obj)} {σ:St} {H:Hp} {s:Shared} {E:Value->Shared->Prop}
theorem Zeq {D kS f:Addr} {e1:Nat} {L:List KIt} {its:List Value} {P:PySem.Fin->Shared->Prop} {A:Around} (I:Inv X ((pins++[PD D e1])++[PKs kS 0 []]) σ H s) (h64:L.length < 64) (fD:FpOk X pins H D) (fK:FpOk X (pins++[PD D e1]) H kS)
  (hk:∀ q∈L,SqT X.K H q.2.1 (q.2.2.map V.int)/\q.2.2≠[]) (nd:(L.map (·.2.2)).Nodup) (rv:Vals (L.map (·.1)) its)
  (hcall:∀ (pins':List (Addr×Obj)) (s':Shared) (q:KIt) (u:Value),(∀ p∈pins,p∈pins')->Inv X pins' σ H s'->q∈L->RelV q.1 u->wpAny (model X.prog X.w) A (call (.ref f) [u]) (EP X pins' σ fun v H'=>v=.ref q.2.1/\H'=H) (fun _ _=>False) s')
  (h:∀ (s':Shared) (L':List KIt),L'.Perm L->L'.Pairwise (fun a b=>HT.lexLt a.2.2 b.2.2=true)->Inv X pins σ (upd H D (.lst (L'.map (·.1)))) s'->P (.done (.ret .none)) s') :
  wpAny (model X.prog X.w) A (ksk_rest D (.ref f) false its.toArray e1 (.ref kS)) P E s:=by
 have el:its.length=L.length:=by have:=rv.length; simp only [List.length_map] at this; omega
 unfold ksk_rest
 refine wpAny_bind (wpAny_rule ?_)
 first
  | rw [List.forIn_toArray]
  | (rw [<- Array.forIn_toList]; simp only [List.toList_toArray])
  | rw [<- Array.forIn_toList]
 refine wpAny_bind (ksk_fold (fun n s'=>∃ e,Inv X ((pins++[PD D e1])++[PKs kS e (L.take n)]) σ H s') its 0 s ⟨0,by simpa using I⟩ (fun j x s' hx ⟨e,J⟩=>?_) fun s' ⟨e,J⟩=>?_)
 ·simp only [Nat.zero_add] at J ⊢
  have hj:j < its.length:=(List.getElem?_eq_some_iff.mp hx).1
  have hj':j < L.length:=by omega
  obtain ⟨u,hu,r1⟩:=Vals.get rv (i:=j) (x:=L[j].1) (by rw [List.getElem?_map,List.getElem?_eq_getElem hj']; rfl)
  rw [hx] at hu
  cases hu
  refine wpAny_bind (wpAny_attempt (wpAny_mono (hcall _ s' L[j] x (fun p hp=>List.mem_append_left _ (List.mem_append_left _ hp)) J (List.getElem_mem hj') r1) (fun k s'' hkk=>?_) fun _ _ hF=>hF.elim))
  obtain ⟨v,H',J',rk,ev,eH⟩:=hkk
  subst ev
  subst eH
  obtain rfl:k=Value.ref L[j].2.1:=rk
  have pk:=J'.pin (PKs kS e (L.take j)) (List.mem_append_right _ (List.mem_append_right _ (List.mem_singleton.mpr rfl)))
  have s1:=Heap.SameBut.update s''.heap kS (Obj.mapSeq (·.push (Value.ref L[j].2.1)))
  have ea:(Yi (L.take j)).toArray.push (Value.ref L[j].2.1)=(Yi (L.take (j + 1))).toArray:=by
   have e2:Yi (L.take (j + 1))=Yi (L.take j)++[Value.ref L[j].2.1]:=by
    unfold Yi
    rw [List.take_succ_eq_append_getElem hj',List.map_append]
    rfl
   rw [e2,List.push_toArray]
  obtain ⟨c2,hc2⟩:∃ c2,(s''.heap.update kS (Obj.mapSeq (·.push (Value.ref L[j].2.1)))).get? kS=some (seqObj "list" (Yi (L.take (j + 1))).toArray c2):=⟨_,by rw [<- ea]; exact get?_update_seq pk.1 (·.push (Value.ref L[j].2.1))⟩
  have hsz:(Yi (L.take j)).toArray.size < 64:=by simp only [List.size_toArray,Yi,List.length_map,List.length_take]; omega
  try dsimp only
  refine wpAny_bind (listUpdate_at pk.1 rfl ?_ (by rw [sizeLine_eq]; show (Yi (L.take j)).toArray.size<=_; omega) (Nat.le_trans (Nat.le_of_eq (Array.size_push ..)) (by rw [sizeLine_eq]; show (Yi (L.take j)).toArray.size + 1<=_; omega)))
  refine wpAny_pure ⟨rfl,c2,?_⟩
  have J1:=(J'.unpinned (pl:=[PKs kS e (L.take j)])).turn1 fK s1
  exact J1.pin1 fK hc2 (by intro v; simp)
 ·simp only [Nat.zero_add] at J
  rw [el,List.take_length] at J
  have pk:=J.pin (PKs kS e L) (List.mem_append_right _ (List.mem_append_right _ (List.mem_singleton.mpr rfl)))
  try dsimp only
  refine wpAny_bind (listItems_at pk.1 rfl ?_)
  exact Zhf J h64 fD fK hk nd rv h
theorem Zka {l f:Addr} {L:List KIt} {Q:VK} (I:Inv X pins σ H s) (hl:SqL X.K H l (L.map (·.1))) (h64:L.length < 64)
  (hk:∀ q∈L,SqT X.K H q.2.1 (q.2.2.map V.int)/\q.2.2≠[]) (nd:(L.map (·.2.2)).Nodup)
  (hcall:∀ (pins':List (Addr×Obj)) (s':Shared) (q:KIt) (u:Value),(∀ p∈pins,p∈pins')->Inv X pins' σ H s'->q∈L->RelV q.1 u->wpAny (model X.prog X.w) X.A.in1.in1 (call (.ref f) [u]) (EP X pins' σ fun v H'=>v=.ref q.2.1/\H'=H) (fun _ _=>False) s')
  (h:∀ (D:Addr) (L':List KIt),H D=none->L'.Perm L->L'.Pairwise (fun a b=>HT.lexLt a.2.2 b.2.2=true)->Q (.ref D) (upd H D (.lst (L'.map (·.1))))) :
  wpAny (model X.prog X.w) X.A (call (.builtin "sorted") [.ref l] [(Str.ofString "key",.ref f)]) (EP X pins σ Q) E s:=by
 obtain ⟨its,rv,pl,_⟩:=I.list hl
 have el:its.length=L.length:=by have:=rv.length; simp only [List.length_map] at this; omega
 refine call_function_entry_kw kind_sorted plain_sorted entry_sorted (ksk_s1 _ _) ?_
 unfold Builtin.«sorted»
 refine wpAny_bind (m:=checkCount "sorted" 1 1 _) (wpAny_pure ?_)
 refine wpAny_bind (collect_list pl.isList ?_ (by rw [sizeLine_eq]; omega))
 refine wpAny_bind (wpAny_newList ?_ (by rw [sizeLine_eq]; omega))
 have hsz:((s.heap.push (seqObj "list" #[] 0)).update s.heap.objs.size (Obj.mapSeq (·++its.toArray))).objs.size=s.heap.objs.size + 1:=by
  rw [Heap.size_update,size_push']
 have hoL:(((s.heap.push (seqObj "list" #[] 0)).update s.heap.objs.size (Obj.mapSeq (·++its.toArray))).push (seqObj "list" its.toArray 0)).get? (s.heap.objs.size + 1)=some (seqObj "list" its.toArray 0):=by
  rw [<- hsz]; exact Heap.get?_push_size _ rfl
 have keep:∀ b o,s.heap.get? b=some o->(((s.heap.push (seqObj "list" #[] 0)).update s.heap.objs.size (Obj.mapSeq (·++its.toArray))).push (seqObj "list" its.toArray 0)).get? b=some o:=fun b o q=>by
  have hlt:b < s.heap.objs.size:=Heap.lt_size q
  rw [Heap.get?_push_ne _ _ _ (by rw [hsz]; exact Nat.ne_of_lt (Nat.lt_succ_of_lt hlt)),Heap.get?_update_ne _ _ _ _ (Nat.ne_of_lt hlt),Heap.get?_push_ne _ _ _ (Nat.ne_of_lt hlt)]
  exact q
 have fD:FpOk X pins H (s.heap.objs.size + 1):=I.fpOk (Nat.le_succ _) (I.hok.fresh (Nat.le_succ _))
 have I1:Inv X pins σ H { s with heap:=((s.heap.push (seqObj "list" #[] 0)).update s.heap.objs.size (Obj.mapSeq (·++its.toArray))).push (seqObj "list" its.toArray 0) }:=I.kept (t':=s.toks) keep
 show wpAny _ _ _ _ _ { s with heap:=((s.heap.push (seqObj "list" #[] 0)).update s.heap.objs.size (Obj.mapSeq (·++its.toArray))).push (seqObj "list" its.toArray 0) }
 rw [hsz]
 generalize hD:s.heap.objs.size + 1=D at *
 generalize hh:((s.heap.push (seqObj "list" #[] 0)).update s.heap.objs.size (Obj.mapSeq (·++its.toArray))).push (seqObj "list" its.toArray 0)=hp at *
 refine wpAny_bind (wpAny_holding (wpAny_call_entry_kw slot_list_sort ⟨_,hoL,rfl⟩ entry_list_sort ?body (ksk_l1 _ _)))
 case body =>
  show wpAny (model X.prog X.w) X.A.in1.in1 (Builtin.«list.sort» ⟨[.ref D],[(Str.ofString "key",.ref f)]⟩) _ _ _
  rw [ksk_t1]
  have s1:=Heap.SameBut.update hp D (Obj.mapSeq fun _=>(#[]:Array Value))
  obtain ⟨e1,ho1⟩:∃ e1,(hp.update D (Obj.mapSeq fun _=>(#[]:Array Value))).get? D=some (seqObj "list" #[] e1):=⟨_,get?_update_seq hoL fun _=>#[]⟩
  have I2:=(I1.turn1 fD s1).pin1 fD ho1 (by intro v; simp)
  have I3:Inv X (pins++[PD D e1]) σ H { s with heap:=((hp.update D (Obj.mapSeq fun _=>(#[]:Array Value))).push (seqObj "tuple" its.toArray 0)).push (seqObj "list" #[] 0) } :=
   I2.kept (t':=s.toks) fun b o e=>Heap.get?_push_of_some _ (Heap.get?_push_of_some _ e)
  have hKz:(hp.update D (Obj.mapSeq fun _=>(#[]:Array Value))).objs.size<=((hp.update D (Obj.mapSeq fun _=>(#[]:Array Value))).push (seqObj "tuple" its.toArray 0)).objs.size:=by rw [size_push']; exact Nat.le_succ _
  have fK:FpOk X (pins++[PD D e1]) H ((hp.update D (Obj.mapSeq fun _=>(#[]:Array Value))).push (seqObj "tuple" its.toArray 0)).objs.size:=I2.fpOk hKz (I2.hok.fresh hKz)
  unfold ksk_tree
  refine wpAny_bind (listItems_at hoL rfl ?_)
  refine wpAny_bind (listUpdate_at hoL rfl ?_ (by rw [List.size_toArray,sizeLine_eq]; omega) (Nat.zero_le _))
  refine wpAny_bind (seqEpoch_at ho1 rfl ?_)
  refine wpAny_bind (wpAny_newTuple ?_ (by show its.length<=_; rw [sizeLine_eq]; omega))
  refine wpAny_bind (wpAny_newList ?_ (Nat.zero_le _))
  refine wpAny_holding ?_
  refine Zeq (L:=L) (I3.pin1 fK (Heap.get?_push_size _ rfl) (by intro v; simp)) h64 fD fK hk nd rv hcall fun s' L' p w I'=>?_
  exact ⟨_,rfl,wpAny_pure ⟨_,rfl,.ref D,_,I',rfl,h D L' fD.1 p w⟩⟩
end
def codeφ (c:Addr) (q:Str):HO:=.ext fun h=>h.CodeRec (.ref c) q
def Va (P:Addr) (pos:Pos) (q:Str) (H:Hp):Prop :=
 ∃ ps,H P=some (.tbl ps)/\TriplesOk ps.toList/\(codeAmong pos ps.toList=none\/∃ c,codeAmong pos ps.toList=some (.ref c)/\H c=some (codeφ c q))
def U3 (P:Addr) (H H':Hp):Prop:=∀ b o,b≠P->H b=some o->H' b=some o
theorem U3.refl (P:Addr) (H:Hp):U3 P H H:=fun _ _ _ h=>h
theorem U3.trans {P:Addr} {H H1 H2:Hp} (a:U3 P H H1) (b:U3 P H1 H2):U3 P H H2:=fun c o n h=>b c o n (a c o n h)
theorem Va.same {P:Addr} {pos:Pos} {q:Str} {H H':Hp} (t:Va P pos q H) (s:Same H H'):Va P pos q H':=by
 obtain ⟨ps,a,b,c⟩:=t
 refine ⟨ps,s _ _ a,b,?_⟩
 rcases c with c | ⟨c',d,e⟩
 ·exact .inl c
 ·exact .inr ⟨c',d,s _ _ e⟩
def Bm (mg:Str->Option Value) (h:Heap):Prop:=∃ bm ob,mg "__builtins__"=some (.ref bm)/\bm≠builtinsNs/\h.get? bm=some ob/\ob.cls=.type "module"/\ob.dict=some builtinsNs/\ob.data=.plain
abbrev Ta (q:Str) (params:Arguments) (body:Expr) (scope:Scope) (pm cv ctv:Value):Obj :=
 { cls:=.type "function",data:=.func (kla_fn "<lambda>" q params body scope [] pm cv ctv) }
section
variable {X:Cx} {pins:List (Addr×Obj)} {σ:St} {H:Hp} {s:Shared} {E:Value->Shared->Prop}
theorem Zik {c:Addr} {q:Str} {H:Hp} {h:Heap} (x:h.CodeRec (.ref c) q) {P:Program} {w:World}:Y3 P w H h c (codeφ c q) :=
 ⟨x,let ⟨c',o,_,_,e,ho,_⟩:=x; ⟨o,by cases e; exact ho⟩,fun _ _ a b=>a.at fun o e=>b o e⟩
theorem Zh7 {params:Arguments} {body:Expr} {scope:Scope} {pos:Pos} {c P:Addr} {R:Value->Shared->Prop} (I:Inv X pins σ H s) (hcode:X.env.code=.ref c) (C:CodeHd X.base c P) (B:Bm X.mg X.base)
  (T:Va P pos (X.env.qual++"<lambda>") H) (hcl:closureFor scope X.env=pure []) (hdef:defaultsOf params X.env=([],[]))
  (h:∀ (f c':Addr) (pm ctv:Value) (H2:Hp) (s2:Shared),U3 P H H2->Va P pos (X.env.qual++"<lambda>") H2->H2 c'=some (codeφ c' (X.env.qual++"<lambda>")) ->
   Inv X (pins++[(f,Ta (X.env.qual++"<lambda>") params body scope pm (.ref c') ctv)]) σ H2 s2->R (.ref f) s2) :
  wpAny (model X.prog X.w) X.A (eval (.Lambda params body scope pos) X.env) R E s:=by
 obtain ⟨ps,hP,ht,hc⟩:=T
 have oP:s.heap.get? P=some (tabObj ps):=I.hok P _ hP
 obtain ⟨bm,ob,b1,b2,b3,b4,b5,b6⟩:=B
 have gl:s.heap.Ns mainGlobals X.mg:=I.mod.glob.keeps I.bk
 have hgP:mainGlobals≠P:=fun z=>by
  obtain ⟨o,es,ep,e,hd,_⟩:=gl
  rw [z,oP] at e; cases e; cases hd
 have hbP:bm≠P:=fun z=>by
  have e:=I.bk _ _ b3
  rw [z,oP] at e; cases e; cases b4
 have hbG:bm≠mainGlobals:=fun z=>by
  obtain ⟨o,es,ep,e,hd,_⟩:=gl
  have e3:=I.bk _ _ b3
  rw [z,e] at e3; cases e3; rw [hd] at b6; cases b6
 have BA:s.heap.BuiltinsAt X.mg P:=⟨bm,ob,b1,b2,hbG,hbP,I.bk _ _ b3,b4,b5,b6⟩
 refine kla_eval hdef ?_
 rcases hc with hc | ⟨c',hc,hx⟩
 ·refine kla_makeFunction (mg:=X.mg) hcl I.ok.glob gl hcode (C.keeps I.bk) oP ht hc hgP BA fun c' ctv h' tk hx hge hlt hrec htb=>?_
  have hn:H c'=none:=I.hok.fresh hge
  have cP:c'≠P:=fun z=>by rw [z,hP] at hn; cases hn
  have cR:(h'.push (Ta (X.env.qual++"<lambda>") params body scope ((X.mg "__name__").getD .none) (.ref c') ctv)).CodeRec (.ref c') (X.env.qual++"<lambda>"):=hrec.at fun o e=>Heap.get?_push_of_some _ e
  have keep:∀ b o,b≠P->s.heap.get? b=some o->(h'.push (Ta (X.env.qual++"<lambda>") params body scope ((X.mg "__name__").getD .none) (.ref c') ctv)).get? b=some o:=fun b o n e=>Heap.get?_push_of_some _ (hx b o n e)
  have tb:=Heap.get?_push_of_some (Ta (X.env.qual++"<lambda>") params body scope ((X.mg "__name__").getD .none) (.ref c') ctv) htb
  have H2e:∀ b o,b≠P->H b=some o->upd (upd H P (.tbl (ps++#[rawInt pos.line,rawInt pos.col,.ref c']))) c' (codeφ c' (X.env.qual++"<lambda>")) b=some o:=fun b o n e=>by
   rw [Zm (Zq e hn),Zm n]; exact e
  have hok:HOk X.prog X.w (upd (upd H P (.tbl (ps++#[rawInt pos.line,rawInt pos.col,.ref c']))) c' (codeφ c' (X.env.qual++"<lambda>"))) (h'.push (Ta (X.env.qual++"<lambda>") params body scope ((X.mg "__name__").getD .none) (.ref c') ctv)):=fun b u e=>by
   by_cases hb:b=c'
   ·subst hb
    rw [Zg] at e
    cases e
    exact Zik cR
   ·rw [Zm hb] at e
    by_cases hb2:b=P
    ·subst hb2
     rw [Zg] at e
     cases e
     exact tb
    ·rw [Zm hb2] at e
     refine (I.hok b u e).stay (fun d v hd q=>keep d v ?_ q) (fun d q=>H2e d _ (fun z=>by rw [z,hP] at q; cases q) q) fun d xs q=>H2e d _ (fun z=>by rw [z,hP] at q; cases q) q
     rcases hd with z | z
     ·rw [z]; exact hb2
     ·intro w; rw [w,hP] at z; cases z
  have un:Un X.fs [] H (upd (upd H P (.tbl (ps++#[rawInt pos.line,rawInt pos.col,.ref c']))) c' (codeφ c' (X.env.qual++"<lambda>"))) s.heap (h'.push (Ta (X.env.qual++"<lambda>") params body scope ((X.mg "__name__").getD .none) (.ref c') ctv)):=by
   have nP:∀ b,H b=none->b≠P:=fun b n z=>by rw [z,hP] at n; cases n
   refine ⟨fun b o e n _ _=>keep b o (nP b n) e,fun b o e n _ _=>⟨o.slots,keep b o (nP b n) e⟩,fun b o e n _=>?_,fun b o e _=>?_,fun b xs q=>H2e b _ (fun z=>by rw [z,hP] at q; cases q) q,fun b o u q=>H2e b _ (fun z=>by rw [z,hP] at q; cases q) q,fun b qs q=>?_⟩
   ·have:b≠c':=Nat.ne_of_lt (Nat.lt_of_lt_of_le (Heap.lt_size e) hge)
    rw [Zm this,Zm (nP b n)]
    exact n
   ·by_cases hb:b=P
    ·exact ⟨_,hb ▸ tb⟩
    ·exact ⟨o,keep b o hb e⟩
   ·by_cases hb:b=P
    ·subst hb
     rw [hP] at q
     cases q
     exact ⟨#[rawInt pos.line,rawInt pos.col,.ref c'],by rw [Zm cP.symm,Zg]⟩
    ·exact ⟨#[],by rw [H2e b _ hb q]; simp⟩
  have I2:=I.un (t':=tk) un hok
  have fz:s.heap.objs.size<=h'.objs.size:=Nat.le_trans hge (Nat.le_of_lt hlt)
  have fn:upd (upd H P (.tbl (ps++#[rawInt pos.line,rawInt pos.col,.ref c']))) c' (codeφ c' (X.env.qual++"<lambda>")) h'.objs.size=none:=by
   rw [Zm (Nat.ne_of_gt hlt),Zm (fun z=>absurd (Heap.lt_size oP) (by rw [<- z]; exact Nat.not_lt.mpr fz))]
   exact I.hok.fresh fz
  have fF:=I.fpOk (H':=upd (upd H P (.tbl (ps++#[rawInt pos.line,rawInt pos.col,.ref c']))) c' (codeφ c' (X.env.qual++"<lambda>"))) fz fn
  refine h h'.objs.size c' _ ctv _ _ H2e ⟨_,by rw [Zm cP.symm,Zg],?_,.inr ⟨c',?_,Zg⟩⟩ Zg (I2.pin1 fF (Heap.get?_push_size _ rfl) (by intro v; simp))
  ·rw [Array.toList_append]; exact TriplesOk_snoc _ _ _ _ ht
  ·rw [Array.toList_append]; exact codeAmong_snoc _ ht hc
 ·refine kla_makeFunctionHit (mg:=X.mg) hcl I.ok.glob gl hcode (C.keeps I.bk) oP ht hc BA fun ctv h' tk hk hsz=>?_
  have I2:Inv X pins σ H { s with heap:=h'.push (Ta (X.env.qual++"<lambda>") params body scope ((X.mg "__name__").getD .none) (.ref c') ctv),toks:=tk }:=I.kept (t':=tk) fun b o e=>Heap.get?_push_of_some _ (hk b o e)
  have fF:=I.fpOk (H':=H) hsz (I.hok.fresh hsz)
  exact h h'.objs.size c' _ ctv H _ (.refl _ _) ⟨ps,hP,ht,.inr ⟨c',hc,hx⟩⟩ hx (I2.pin1 fF (Heap.get?_push_size _ rfl) (by intro v; simp))
theorem Zlb {Pg:Program} {w:World} {K:Frag} {mg:Str->Option Value} {base:Heap} {A:Around} {outer:List Env} {f c':Addr} {q x:Str} {params:Arguments} {body:Expr} {scope:Scope} {pm ctv:Value} {u:Value} {v:V} {Q:VK} {t:TE}
  (e0:Env0 Pg w K mg base A outer s H) (hr:Room 1 A) (ho:s.heap.get? f=some (Ta q params body scope pm (.ref c') ctv)) (hcd:s.heap.CodeRec (.ref c') q) (S:FnScope [x] [x] scope)
  (hbind:bindArgs (kla_fn "<lambda>" q params body scope [] pm (.ref c') ctv) ⟨[u],[]⟩=pure [(x,u)]) (rv:RelV v u)
  (hb:PE (cxOf CX0 Pg w K mg base [x] q scope f (.ref c') A outer s H E0) body t) (ht:t [some v] H Q) :
  codeAny (model Pg w) A (.call (.ref f) ⟨[u],[]⟩) (CR CX0 outer Pg w H s Q E0) s:=by
 have KX:K.In s.heap:=e0.mod.kin.keeps fun b o e=>(e0.bs b o e).1
 have lim:s.heap.NoLimit:=e0.mod.nolimit.keeps fun b o e=>(e0.bs b o e).1
 refine kla_callFunE hr.depth ho rfl S.co S.gen rfl hcd ?_
 rw [hbind]
 refine wpAny_pure ?_
 refine wpAny_newFunctionEnv_cells S.kind (fun y hy=>?_) fun env he s1 x1=>?_
 ·have ey:y=(x,u):=List.mem_singleton.mp hy
  subst ey
  rcases S.par x (List.mem_singleton.mpr rfl) with z | z
  ·exact .inl z
  ·exact .inr ⟨z,PySem.W.cellsFrom_some _ _ _ (.inl z)⟩
 ·subst he
  refine ⟨lim.keeps x1.toInCall.keep,kla_codeExpr ?_⟩
  have I:Inv (cxOf CX0 Pg w K mg base [x] q scope f (.ref c') A outer s H E0) [] (Ut [x] [v]) H s1:=N0 (us:=[u]) S hr.hd e0 rfl (.cons rv .nil) x1
  refine wpAny_mono (hb [] s1 (Ut [x] [v]) H Q I ht) (fun r s' hs=>?_) fun e s' hs=>hs
  obtain ⟨v',H',J,rv',q'⟩:=hs
  exact ⟨v',H',J.os,J.bare,J.base,J.hok,rv',q'⟩
end
theorem U3.sqL {K:Frag} {P:Addr} {H H':Hp} {ps:Array Value} (e:U3 P H H') (hP:H P=some (.tbl ps)) {a:Addr} {xs:List V} (h:SqL K H a xs):SqL K H' a xs:=by
 rcases h with (h | ⟨o,h⟩) | h
 ·exact .inl (.inl (e _ _ (fun z=>by rw [z,hP] at h; cases h) h))
 ·exact .inl (.inr ⟨o,e _ _ (fun z=>by rw [z,hP] at h; cases h) h⟩)
 ·exact .inr h
theorem U3.sqT {K:Frag} {P:Addr} {H H':Hp} {ps:Array Value} (e:U3 P H H') (hP:H P=some (.tbl ps)) {a:Addr} {xs:List V} (h:SqT K H a xs):SqT K H' a xs:=by
 rcases h with (h | ⟨o,h⟩) | h
 ·exact .inl (.inl (e _ _ (fun z=>by rw [z,hP] at h; cases h) h))
 ·exact .inl (.inr ⟨o,e _ _ (fun z=>by rw [z,hP] at h; cases h) h⟩)
 ·exact .inr h
def Zm6 (K:Frag) (P:Addr) (lpos:Pos) (qual:Str) (tb:TE) (ta:TA):TE:=fun σ H Q=>ta σ H fun vs H1=>∃ (l:Addr) (L:List KIt),vs=[.ref l]/\SqL K H1 l (L.map (·.1))/\L.length < 64 /\
 (∀ q∈L,SqT K H1 q.2.1 (q.2.2.map V.int)/\q.2.2≠[])/\(L.map (·.2.2)).Nodup/\Va P lpos qual H1/\(∀ H2 q,U3 P H1 H2->q∈L->tb [some q.1] H2 fun v H'=>v=.ref q.2.1/\H'=H2) /\
 ∀ (H2:Hp) (D:Addr) (L':List KIt),U3 P H1 H2->Va P lpos qual H2->H2 D=none->L'.Perm L->L'.Pairwise (fun a b=>HT.lexLt a.2.2 b.2.2=true)->Q (.ref D) (upd H2 D (.lst (L'.map (·.1))))
section
variable {X:Cx}
theorem Zhw {e:Expr} {ta:TA} {c P:Addr} {x:Str} {params:Arguments} {body:Expr} {scope:Scope} {p pos lpos kpos:Pos} {tb:TE} (hr:Room 3 X.A) (hg:Gl X "sorted") (hm:X.mg "sorted"=none) (ha:PA X [e] ta) (hcode:X.env.code=.ref c)
  (C:CodeHd X.base c P) (B:Bm X.mg X.base) (hcl:closureFor scope X.env=pure []) (hdef:defaultsOf params X.env=([],[])) (S:FnScope [x] [x] scope)
  (hbind:∀ (pm cv ctv u:Value),bindArgs (kla_fn "<lambda>" (X.env.qual++"<lambda>") params body scope [] pm cv ctv) ⟨[u],[]⟩=pure [(x,u)])
  (hb:∀ (f c':Addr) (A:Around) (outer:List Env) (s:Shared) (H:Hp),PE (cxOf CX0 X.prog X.w X.K X.mg X.base [x] (X.env.qual++"<lambda>") scope f (.ref c') A outer s H E0) body tb)
  (he:starEach [e] X.env=[(false,eval e X.env)]:=by rfl) :
  PE X (.Call (.Name "sorted" p) [e] [⟨some "key",.Lambda params body scope lpos,kpos⟩] pos) (Zm6 X.K P lpos (X.env.qual++"<lambda>") tb ta):=by
 intro pins s σ H Q I h
 refine wpAny_Call_Name_kw (S0 I hg hm PyProof.Rows.boot_sorted ?_)
 refine callWith_kw (thn (ha pos pins s σ H _ I h) fun us s1 ⟨vs,H1,I1,r1,l,L,ev,hl,h64,hk,nd,T,hbo,q1⟩=>?_) (by rw [he]; rfl) (by rw [he]; rfl)
 subst ev
 obtain ⟨u,rfl,ru⟩:=Vals.one r1
 obtain rfl:u=Value.ref l:=ru
 obtain ⟨ps,hP,_,_⟩:=id T
 show wpAny _ _ (evalAll [do let v <- eval (.Lambda params body scope lpos) X.env; standAt pos; pure v]) _ _ s1
 refine wpAny_evalAll_cons (wpAny_bind (Zh7 I1 hcode C B T hcl hdef fun f c' pm ctv H2 s2 sT T2 hx I2=>wpAny_bind (wpAny_standAt (wpAny_pure (wpAny_evalAll_nil ?_)))))
 show wpAny _ _ (call (.builtin "sorted") [.ref l] [(Str.ofString "key",.ref f)]) _ _ s2
 refine wpAny_mono (Zka (Q:=Q) (E:=X.xe) I2 (sT.sqL hP hl) h64 (fun q hq=>⟨sT.sqT hP (hk q hq).1,(hk q hq).2⟩) nd (fun pins' s' q u hp I' hq rv=>?_) fun D L' n p w=>q1 H2 D L' sT T2 n p w) (fun v s' ⟨v',H',J,rv,qq⟩=>⟨v',H',J.unpinned,rv,qq⟩) fun _ _ z=>z
 have hpin:=I'.pin (f,Ta (X.env.qual++"<lambda>") params body scope pm (.ref c') ctv) (List.mem_append_right _ (hp _ (List.mem_append_right _ (List.mem_singleton.mpr rfl))))
 refine wpAny_call (codeAny_mono (Zlb (I'.env0.in1.in1) hr.in1.in1 hpin.1 (I'.hok c' _ hx).1 S (hbind pm (.ref c') ctv u) rv (hb f c' _ _ _ _) (hbo H2 q sT hq)) fun r s'' hq'=>?_)
 cases r with
 | error e=>exact False.elim hq'
 | ok fl =>
  cases fl with
  | ret u=>exact I'.after hq'
  | next=>exact False.elim hq'
  | brk=>exact False.elim hq'
  | cont=>exact False.elim hq'
end
end L2
namespace L2
open PySem PySem.Spec PyProof.Rows
def Zg5 (P:Addr) (H:Hp):Prop:=H P=some (.tbl #[])/\∀ b,b≠P->H b=none\/∃ o xs,H b=some (.frz o (.lst xs))
theorem Zg5.tab {P:Addr} {H:Hp} (o:Zg5 P H) (pos:Pos) (q:Str):Va P pos q H:=⟨#[],o.1,trivial,.inl rfl⟩
theorem Zfv {P:Program} {w:World} {K:W.Frag} {mg mb:Str->Option Value} {CX:CXT} {k:Nat} {fa a c Pt:Addr} {fd:FuncData} {x:Str} {sp:Sp} {s₁:Shared} {vs:List Value} {ns:List Int}
  (KX:K.In s₁.heap) (hns:s₁.heap.Ns mainGlobals mg) (hb:s₁.heap.Ns builtinsNs mb) (hbb:∀ x:Str,x≠"__name__"->mb x=bootBuiltins x) (hlim:s₁.heap.NoLimit) (hbm:Bm mg s₁.heap) (hg:s₁.gens=#[])
  (ha:s₁.heap.get? a=some { cls:=.type "list",data:=.seq vs.toArray }) (hi:IntsAre vs ns) (hl:ns.length<=sizeLine) (hr:Room k callerA)
  (hP:s₁.heap.get? Pt=some (W.tabObj #[])) (hPK:K.lookup Pt=none) (hC:W.CodeHd s₁.heap c Pt)
  (F:∀ base:Heap,K.In base->base.Ns mainGlobals mg->Bm mg base->FnOk P w K mg base CX k fa fd [x] sp) (hbind:∀ (s:Shared) (u:Value),BindsTo s fd ⟨[u],[]⟩ [(x,u)])
  (hsp:∀ H:Hp,Zg5 Pt H->SqL K H a (ns.map V.int)->sp [.ref a] H (fun v _=>v=.bl true) fun _ _ _=>False)
  (hCX:∀ H e s',CX [] H s₁ (fun _ _ _=>False) e s'->False) :
  codeAny (model P w) callerA (.call (.ref fa) ⟨[.ref a],[]⟩) (fun r s'=>r=.ok (.ret (.bool true))/\OldK s₁.heap s'.heap/\s'.os=s₁.os/\AllBare s'.gens) s₁:=by
 have rv:=P6 hi
 have lenV:=hi.length
 have aP:a≠Pt:=fun z=>by rw [z,hP] at ha; cases ha
 have core:∀ H:Hp,Zg5 Pt H->SqL K H a (ns.map V.int)->HOk P w H s₁.heap->(∀ b,H b≠none->b=a\/b=Pt)->(∀ b,H b≠none->K.lookup b=none) ->
   codeAny (model P w) callerA (.call (.ref fa) ⟨[.ref a],[]⟩) (fun r s'=>r=.ok (.ret (.bool true))/\OldK s₁.heap s'.heap/\s'.os=s₁.os/\AllBare s'.gens) s₁:=by
  intro H hO hS hok hA hK
  have base_of:∀ {b:Addr} {o:Obj},s₁.heap.get? b=some o->H b=none->(hidT s₁.heap H).get? b=some o:=fun e n=>Zie e n
  have noA:∀ {b:Addr} {o:Obj},s₁.heap.get? b=some o->(∀ its n,o.data≠.seq its n)->(∀ ps,o.data≠.fields ps)->H b=none:=fun {b o} e d d2=>by
   cases q:H b with
   | none=>rfl
   | some u =>
    rcases hA b (by rw [q]; simp) with e' | e'
    ·subst e'
     rw [ha] at e; cases e
     exact absurd rfl (d _ _)
    ·subst e'
     rw [hP] at e; cases e
     exact absurd rfl (d2 _)
  have nsK:∀ {b:Addr} {m:Str->Option Value},s₁.heap.Ns b m->(hidT s₁.heap H).Ns b m:=fun {b m} ⟨o,es,ep,e,d,r⟩=>⟨o,es,ep,base_of e (noA e (by rw [d]; intro _ _ z; cases z) (by rw [d]; intro _ z; cases z)),d,r⟩
  have hKb:K.In (hidT s₁.heap H):=fun b o e=>base_of (KX b o e) (by
   cases q:H b with
   | none=>rfl
   | some u=>rw [hK b (by rw [q]; simp)] at e; cases e)
  have hBm:Bm mg (hidT s₁.heap H):=by
   obtain ⟨bm,ob,b1,b2,b3,b4,b5,b6⟩:=hbm
   exact ⟨bm,ob,b1,b2,base_of b3 (noA b3 (by rw [b6]; intro _ _ z; cases z) (by rw [b6]; intro _ z; cases z)),b4,b5,b6⟩
  have hM:Mod K mg (hidT s₁.heap H):=⟨hKb,nsK hns,⟨mb,nsK hb,hbb⟩,let ⟨mc,h1,h2⟩:=hlim; ⟨mc,nsK h1,h2⟩⟩
  have e0:Env0 P w K mg (hidT s₁.heap H) callerA [] s₁ H:=⟨rfl,hM,fun b o e=>Zk2 e,Nat.le_of_eq (Zf9 _ _),trivial,fun b hb=>absurd (show b∈([]:List Addr) from hb) (by simp),hok,.of_eq hg⟩
  refine codeAny_mono ((F _ hKb (nsK hns) hBm).run callerA [] s₁ H ⟨[.ref a],[]⟩ [.ref a] [.ref a] _ _ hr e0 (hbind s₁ (.ref a)) (.cons rfl .nil) (hsp H hO hS)) fun r s' h=>?_
  cases r with
  | error e=>exact (hCX H e s' h).elim
  | ok fl =>
   cases fl with
   | next=>exact False.elim h
   | brk=>exact False.elim h
   | cont=>exact False.elim h
   | ret u =>
    obtain ⟨v,H',os,bare,un,hok',r',q⟩:=h
    have q':v=.bl true:=q
    subst q'
    obtain rfl:u=Value.bool true:=r'
    have kp:∀ b o,b≠Pt->s₁.heap.get? b=some o->s'.heap.get? b=some o:=fun b o nP e=>by
     cases q:H b with
     | none=>exact un.keep b o e q (by intro z; exact absurd (show b∈([]:List Addr) from z) (by simp)) (by simp)
     | some u =>
      rcases hO.2 b nP with z | ⟨ob,xs,z⟩
      ·rw [q] at z; cases z
      ·have z2:=un.frzs b ob _ z
       obtain ⟨e1,_⟩:=hok b _ z
       obtain ⟨e2,_⟩:=hok' b _ z2
       rw [e] at e1; cases e1
       exact e2
    obtain ⟨more,hm⟩:=un.tbls Pt #[] hO.1
    have hPt:s'.heap.get? Pt=some { cls:=.none,data:=.fields (#[]++more) }:=hok' Pt _ hm
    refine ⟨rfl,⟨fun b o e=>?_,fun b o e=>?_⟩,os,bare⟩
    ·by_cases hbP:b=Pt
     ·subst hbP
      rw [hP] at e
      cases e
      exact .inr (.inl ⟨(hC.tab hP).isCodeTable,rfl,#[],more,rfl,hPt⟩)
     ·exact .inl (kp b o hbP e)
    ·by_cases hbP:b=Pt
     ·subst hbP; exact ⟨_,hPt⟩
     ·exact ⟨o,kp b o hbP e⟩
 have okP:∀ (H:Hp),Y3 P w H s₁.heap Pt (.tbl #[]):=fun H=>hP
 cases hk:K.lookup a with
 | some o =>
  have e:=KX a o hk
  rw [ha] at e
  cases e
  refine core (fun b=>if b=Pt then some (.tbl #[]) else none) ⟨if_pos rfl,fun b hb=>.inl (if_neg hb)⟩ (.inr ⟨_,vs.toArray,_,hk,rfl,rfl,rfl,by rw [List.size_toArray,lenV]; exact hl,by simpa using rv⟩) (fun b u z=>?_) (fun b z=>?_) fun b z=>?_
  ·by_cases hb:b=Pt
   ·have z':=(if_pos hb).symm.trans z
    cases z'
    rw [hb]
    exact okP _
   ·have z':=(if_neg hb).symm.trans z
    cases z'
  ·by_cases hb:b=Pt
   ·exact .inr hb
   ·exact absurd (if_neg hb) z
  ·by_cases hb:b=Pt
   ·rw [hb]; exact hPK
   ·exact absurd (if_neg hb) z
 | none =>
  refine core (fun b=>if b=Pt then some (.tbl #[]) else if b=a then some (.frz { cls:=.type "list",data:=.seq vs.toArray } (.lst (ns.map V.int))) else none) ⟨if_pos rfl,fun b hb=>?_⟩
   (.inl (.inr ⟨{ cls:=.type "list",data:=.seq vs.toArray },(if_neg aP).trans (if_pos rfl)⟩)) (fun b u z=>?_) (fun b z=>?_) fun b z=>?_
  ·by_cases hba:b=a
   ·exact .inr ⟨_,_,(if_neg hb).trans (if_pos hba)⟩
   ·exact .inl ((if_neg hb).trans (if_neg hba))
  ·by_cases hb:b=Pt
   ·have z':=(if_pos hb).symm.trans z
    cases z'
    rw [hb]
    exact okP _
   ·have z1:=(if_neg hb).symm.trans z
    by_cases hba:b=a
    ·have z':=(if_pos hba).symm.trans z1
     cases z'
     subst hba
     exact ⟨ha,by rw [List.length_map]; exact hl,vs,_,rv,ha⟩
    ·have z':=(if_neg hba).symm.trans z1
     cases z'
  ·by_cases hb:b=Pt
   ·exact .inr hb
   ·by_cases hba:b=a
    ·exact .inl hba
    ·exact absurd ((if_neg hb).trans (if_neg hba)) z
  ·by_cases hb:b=Pt
   ·rw [hb]; exact hPK
   ·by_cases hba:b=a
    ·rw [hba]; exact hk
    ·exact absurd ((if_neg hb).trans (if_neg hba)) z
theorem Zg9 {l:W.OpenLaw} {n k:Nat} {q:Program} {loose:List Str} {XP:(Str->Option Value)->Heap->Prop} {YP:World->Heap->Prop} {d:DefRec} {K:Params->W.Frag} {CX:World->CXT} {sp:World->Sp} {x:Str} {Pt:Addr}
  (hn:l.most=some n) (hn2:n<=sizeLine) (hdf:d.params.defaults=[]) (hr:Room k callerA)
  (hY:∀ (w:World) (h:Heap),YP w h->(K w.params).In h) (hYt:∀ (w:World) (h:Heap),YP w h->h.get? Pt=some (W.tabObj #[]))
  (hPK:∀ w:World,(K w.params).lookup Pt=none)
  (F:∀ (w:World) (mg:Str->Option Value) (fa:Addr) (h:Heap),(K w.params).In h->h.Ns mainGlobals mg->mg d.name=some (.ref fa) ->
   ∃ fd:FuncData,(∃ c,W.codeHdIn (K w.params) c Pt=true)/\(∀ (s:Shared) (u:Value),BindsTo s fd ⟨[u],[]⟩ [(x,u)]) /\
    ∀ base:Heap,(K w.params).In base->base.Ns mainGlobals mg->Bm mg base->FnOk l.prog w (K w.params) mg base (CX w) k fa fd [x] (sp w))
  (hsp:∀ (w:World) (H:Hp) (a:Addr) (ns:List Int),ns.length<=n->Zg5 Pt H->SqL (K w.params) H a (ns.map V.int)->sp w [.ref a] H (fun v _=>v=.bl true) fun _ _ _=>False)
  (hCX:∀ (w:World) (H:Hp) (s:Shared) (e:Value) (s':Shared),CX w [] H s (fun _ _ _=>False) e s'->False) :
  W.WalkO q loose XP YP l.row.toRowW d [] (fun f vs=>PySem.call f vs):=by
 refine Att.attach_call hn hdf fun w s₀ s₁ mg mb fa o pm cd doc a vs ns G Y ho hd hcd hmg hobj hints hlen hg=>?_
 have KX:=hY w _ Y
 obtain ⟨fd,⟨c,hC⟩,hb,hF⟩:=F w mg fa _ KX G.T.g hmg
 exact Zfv KX G.T.g G.T.b G.T.builtins G.T.nolimit G.T.bmain hg hobj hints (Nat.le_trans hlen hn2) hr (hYt w _ Y) (hPK w) (W.codeHd_of_K KX hC) hF hb (fun H hO hS=>hsp w H a ns hlen hO hS) fun H e s'=>hCX w H s₁ e s'
section
variable {prog:Program} {w:World} {A:Around} {E:Value->Shared->Prop} {s:Shared} {a:Addr} {o:Obj} {xs:Array Value} {k:Nat}
theorem Qa {Q:Option Value->Shared->Prop} (hx:s.heap.get? a=some o) (hc:o.cls=.type "list") (hdat:o.data=.seq xs k) (hd:o.dict=none) (hA:A.handled=none)
  (h:∀ h' tk e,Heap.NewExcOf s.heap h' e "AttributeError"->Q none { s with heap:=h',toks:=tk }):wpAny (model prog w) A (getAttr? (.ref a) "keys") Q E s:=by
 obtain ⟨c,dct,dat,sl⟩:=o
 simp only at hc hdat hd
 subst hc hdat hd
 obtain ⟨hp,g,d,tk,os⟩:=s
 have hT:∀ tk',(⟨hp,g,d,tk',os⟩:Shared).TypeIs (.ref a) "list":=fun _=>⟨_,hx,rfl⟩
 have f1:=sub_AttributeError
 have f3:=F.slot_list_getattribute.lookup
 have f4:=F.slot_list_getattribute.bind (.ref a)
 have f5:=am_list_getattr_none
 have hmiss:typeLookup (.type "list") "keys"=pure none:=by rw [typeLookup_type,builtinLookup_eq_fast]; kernel_rfl
 unfold getAttr? getAttrBy? getAttrBy
 repeat (any_goals (first | assumption | exact hT _ | ((with_reducible show wpAny _ _ (call (Value.builtin "list.__getattribute__") _ _) _ _ _); refine call_meets F.slot_list_getattribute (hT _) am_entry_list_getattribute (F.args_list_getattribute_2 _ _) (meets_getattribute_miss_list a xs k sl "keys" _ hmiss (by decide +kernel)) ⟨hx,hA,fun h' tk' e hx'=>?_⟩) | wp_step))
 obtain ⟨t',u',he⟩:=hx'.there
 have hTe:∀ tk'',(⟨h',g,d,tk'',os⟩:Shared).TypeIs (.ref e) "AttributeError":=fun _=>⟨_,he,rfl⟩
 show wpAny _ _ (getattributeRaised _ _ _ _ _ _ _) _ _ _
 unfold getattributeRaised
 repeat (any_goals (first | assumption | exact hTe _ | wp_step))
 all_goals exact h _ _ _ hx'.of
theorem S1 {Q:Option Value->Shared->Prop} (hx:s.heap.get? a=some o) (hc:o.cls=.type "tuple") (hdat:o.data=.seq xs k) (hd:o.dict=none) (hA:A.handled=none)
  (h:∀ h' tk e,Heap.NewExcOf s.heap h' e "AttributeError"->Q none { s with heap:=h',toks:=tk }):wpAny (model prog w) A (getAttr? (.ref a) "keys") Q E s:=by
 obtain ⟨c,dct,dat,sl⟩:=o
 simp only at hc hdat hd
 subst hc hdat hd
 obtain ⟨hp,g,d,tk,os⟩:=s
 have hT:∀ tk',(⟨hp,g,d,tk',os⟩:Shared).TypeIs (.ref a) "tuple":=fun _=>⟨_,hx,rfl⟩
 have f1:=sub_AttributeError
 have f3:=F.slot_tuple_getattribute.lookup
 have f4:=F.slot_tuple_getattribute.bind (.ref a)
 have f5:=am_tuple_getattr_none
 have hmiss:typeLookup (.type "tuple") "keys"=pure none:=by rw [typeLookup_type,builtinLookup_eq_fast]; kernel_rfl
 unfold getAttr? getAttrBy? getAttrBy
 repeat (any_goals (first | assumption | exact hT _ | ((with_reducible show wpAny _ _ (call (Value.builtin "tuple.__getattribute__") _ _) _ _ _); refine call_meets F.slot_tuple_getattribute (hT _) am_entry_tuple_getattribute (F.args_tuple_getattribute_2 _ _) (meets_getattribute_miss_tuple a xs k sl "keys" _ hmiss (by decide +kernel)) ⟨hx,hA,fun h' tk' e hx'=>?_⟩) | wp_step))
 obtain ⟨t',u',he⟩:=hx'.there
 have hTe:∀ tk'',(⟨h',g,d,tk'',os⟩:Shared).TypeIs (.ref e) "AttributeError":=fun _=>⟨_,he,rfl⟩
 show wpAny _ _ (getattributeRaised _ _ _ _ _ _ _) _ _ _
 unfold getattributeRaised
 repeat (any_goals (first | assumption | exact hTe _ | wp_step))
 all_goals exact h _ _ _ hx'.of
end
end L2
namespace L2
open PySem PySem.Spec PyProof.Rows PySem.W
theorem N5:entryFor table "dict.update.loop"=some Builtin.«dict.update.loop»:=entryFor_of_tree (by kernel_rfl)
theorem Nn:plainId "dict.update.loop"=true:=by decide +kernel
inductive DFill (H:Hp) (D:Addr):HO->List (V×V)->HO->Prop
 | nil {o:HO}:DFill H D o [] o
 | cons {o o' o'':HO} {k v:V} {r:List (V×V)} (h:DPut (upd H D o) D k v (upd H D o')) (t:DFill H D o' r o''):DFill H D o ((k,v)::r) o''
def Zg4 (K:W.Frag) (H:Hp) (ys:List V) (zs:List (V×V)):Prop:=Paired (fun y z=>∃ t,y=.ref t/\SqT K H t [z.1,z.2]) ys zs
theorem SqT.upd' {K:W.Frag} {H:Hp} {a D:Addr} {xs:List V} {o:HO} (h:SqT K H a xs) (n:H D=none):SqT K (upd H D o) a xs:=by
 rcases h with (h | ⟨o,h⟩) | h
 ·exact .inl (.inl (by rw [Zm (Zq h n)]; exact h))
 ·exact .inl (.inr ⟨o,by rw [Zm (Zq h n)]; exact h⟩)
 ·exact .inr h
section
variable {X:Cx} {pins:List (Addr×Obj)} {σ:St} {H:Hp} {s:Shared} {E:Value->Shared->Prop} {A:Around}
def Qb (K:W.Frag) (H:Hp) (h:Heap) (p it:Addr) (ys:List V) (i:Nat):Prop:=(SqL K H p ys/\h.IsListIter it p i)\/(SqT K H p ys/\h.IsTupleIter it p i)
theorem Qb.at {K:W.Frag} {H H':Hp} {h h':Heap} {p it:Addr} {ys:List V} {i:Nat} (x:Qb K H h p it ys i) (k:∀ o,h.get? it=some o->h'.get? it=some o) (hl:SqL K H p ys->SqL K H' p ys) (ht:SqT K H p ys->SqT K H' p ys):Qb K H' h' p it ys i:=by
 rcases x with ⟨a,b⟩ | ⟨a,b⟩
 ·exact .inl ⟨hl a,b.at k⟩
 ·exact .inr ⟨ht a,b.at k⟩
theorem Zb3 {p it:Addr} {ys:List V} {i:Nat} {x:V} {Q:Option Value->Shared->Prop} (I:Inv X pins σ H s) (f:FpOk X pins H it) (src:Qb X.K H s.heap p it ys i) (hx:ys[i]?=some x)
  (h:∀ u s',RelV x u->Inv X pins σ H s'->Qb X.K H s'.heap p it ys (i + 1)->Q (some u) s'):wpAny (model X.prog X.w) A (pyNext (.ref it)) Q E s:=by
 obtain ⟨f0,f1,f2,f3,f4,f5⟩:=f
 rcases src with ⟨hq,st⟩ | ⟨hq,st⟩
 ·obtain ⟨its,rv,p',hz⟩:=I.list hq
  obtain ⟨u,hu,ru⟩:=rv.get hx
  exact wpAny_pyNext_list_item st p'.isList (x:=u) (by simpa using hu) fun h' st' sb=>h u _ ru (I.turned (t':=s.toks) (fun b o hb e=>(sb.2 b hb).trans e) f0 f1 f3 f4 f5) (.inl ⟨hq,st'⟩)
 ·obtain ⟨its,rv,p',hz⟩:=I.tuple hq
  obtain ⟨u,hu,ru⟩:=rv.get hx
  exact wpAny_pyNext_tuple_item st (show s.heap.IsTuple p its.toArray from p') (x:=u) (by simpa using hu) fun h' st' sb=>h u _ ru (I.turned (t':=s.toks) (fun b o hb e=>(sb.2 b hb).trans e) f0 f1 f3 f4 f5) (.inr ⟨hq,st'⟩)
theorem Zek {p it:Addr} {ys:List V} {i:Nat} {Q:Option Value->Shared->Prop} (I:Inv X pins σ H s) (f:FpOk X pins H it) (hA:A.handled=none) (src:Qb X.K H s.heap p it ys i) (hx:ys.length<=i)
  (h:∀ s',Inv X pins σ H s'->Q none s'):wpAny (model X.prog X.w) A (pyNext (.ref it)) Q E s:=by
 obtain ⟨f0,f1,f2,f3,f4,f5⟩:=f
 rcases src with ⟨hq,st⟩ | ⟨hq,st⟩
 ·obtain ⟨its,rv,p',hz⟩:=I.list hq
  have hl:=rv.length
  exact wpAny_pyNext_list_end hA st p'.isList (by simp; omega) fun h' eb=>h _ (I.turned (t':=s.toks) (fun b o hb e=>eb b o hb e) f0 f1 f3 f4 f5)
 ·obtain ⟨its,rv,p',hz⟩:=I.tuple hq
  have hl:=rv.length
  exact wpAny_pyNext_tuple_end hA st (show s.heap.IsTuple p its.toArray from p') (by simp; omega) fun h' eb=>h _ (I.turned (t':=s.toks) (fun b o hb e=>eb b o hb e) f0 f1 f3 f4 f5)
theorem Zgk {a:Addr} {y v:V} {u r:Value} {H':Hp} {Q:Unit->Shared->Prop} (hu:A.units < cLine) (I:Inv X pins σ H s) (g:DPut H a y v H') (ry:RelV y u) (rv:RelV v r) (h:∀ s',Inv X pins σ H' s'->Heap.SameBut a s.heap s'.heap->Q () s') :
  wpAny (model X.prog X.w) A (dictSet a u r) Q E s:=by
 rcases g with ⟨kvs,k,e,ey,l,eH⟩ | ⟨kvs,k,b,e,ey,eb,l,eH⟩
 ·subst ey eH
  obtain ⟨z,hd,vs,rel,dd⟩:=Zlu I.hok e
  have hz:vs.length<=sizeLine:=by rw [<- rel.length]; exact z
  have hl:(putK kvs k v).length<=sizeLine:=by have:=Xa kvs k v; omega
  refine wpAny_dictSet_pairs (hsz:=hz) (Za9 ry) dd fun h' dd' hs=>h _ ?_ hs
  have he:∃ q,h'.get? a=some q:=let ⟨q,_,_,hq,_⟩:=dd'; ⟨q,hq⟩
  exact Pm I (by rw [e]; exact True.intro) hs he (Zjn hl hd (rel.put k rv) dd')
 ·subst ey eH
  cases (show u=Value.ref b from ry)
  obtain ⟨z,hd,xs,rel,dd⟩:=Zoy I.hok e
  have hz:xs.length<=sizeLine:=by rw [<- Paired.length rel]; exact z
  have hl:(putK kvs k v).length<=sizeLine:=by have:=Xa kvs k v; omega
  refine wpAny_dictSet_heap (hsz:=hz) (show (tupleKind (Yr X.prog X.w)).room A from hu) (S2 I.hok eb) dd fun h' dd' hs=>h _ ?_ hs
  obtain ⟨q,es,ep,hq,h2,h3,h4,_,h5⟩:=dd'
  refine Pm I (by rw [e]; exact True.intro) hs ⟨q,hq⟩ ⟨hl,hd,_,(rel.put k eb rv).keeps fun c ys ec=>?_,q,es,ep,hq,h2,h3,h4,h5⟩
  rw [Zm (Wg ec e (fun z=>nomatch z))]
  exact ec
theorem N8 {p it D:Addr} {ys:List V} {R:Result->Shared->Prop} (hu:A.units + 8 < cLine) (hA:A.handled=none) (hn:H D=none) (hit:it≠D) (fit:FpOk X pins H it) :
  ∀ (zs:List (V×V)) (i:Nat) (o o':HO) (s:Shared) (t:Tok),Inv X pins σ (upd H D o) s->Qb X.K (upd H D o) s.heap p it ys i->Zg4 X.K H (ys.drop i) zs->DFill H D o zs o' ->
   (∀ s',Inv X pins σ (upd H D o') s'->R (.ok (.ret .none)) s')->codeAny (model X.prog X.w) A (.builtin "dict.update.loop" ⟨[.ref D,.ref it,.int i t,.none],[]⟩) R s
 | [],i,o,o',s,t,I,src,pa,df,h=>by
  cases df
  have hl:ys.length<=i:=by
   have e:=Paired.length pa
   simp only [List.length_drop,List.length_nil] at e
   omega
  refine codeAny_builtin N5 ?_
  rw [Around.under_plainId Nn _]
  show wpAny _ A.in1 (pyNext (.ref it) >>= _) _ _ s
  refine wpAny_bind (Zek I (show FpOk X pins (upd H D o) it from ⟨by rw [Zm hit]; exact fit.1,fit.2⟩) hA src hl fun s' I'=>?_)
  show wpAny _ A.in1 (Builtin.Dict.addKeywords D [] >>= _) _ _ s'
  exact wpAny_bind (wpAny_pure (wpAny_pure (h s' I')))
 | z::zs,i,o,o'',s,t,I,src,pa,df,h=>by
  have hil:i < ys.length:=by
   have e:=Paired.length pa
   simp only [List.length_drop,List.length_cons] at e
   omega
  rw [List.drop_eq_getElem_cons hil] at pa
  cases pa with
  | cons p1 p2 =>
   obtain ⟨tp,ep,sq⟩:=p1
   cases df with
   | @cons _ o1 _ k v _ d1 d2 =>
    refine codeAny_builtin N5 ?_
    rw [Around.under_plainId Nn _]
    show wpAny _ A.in1 (pyNext (.ref it) >>= _) _ _ s
    have fit':∀ o,FpOk X pins (upd H D o) it:=fun o=>⟨by rw [Zm hit]; exact fit.1,fit.2⟩
    refine wpAny_bind (Zb3 I (fit' o) src (List.getElem?_eq_getElem hil) fun u s1 ru I1 src1=>?_)
    rw [ep] at ru
    obtain rfl:u=Value.ref tp:=ru
    obtain ⟨its,rv,⟨ob,eo,hc,n,hd⟩,_⟩:=I1.tuple (sq.upd' (o:=o) hn)
    cases rv with
    | cons r1 rv =>
     cases rv with
     | cons r2 rv =>
      cases rv with
      | nil =>
       rename_i uk uv
       show wpAny _ A.in1 (holding [Value.ref tp] _ >>= _) _ _ s1
       refine wpAny_bind (wpAny_holding ?_)
       refine wpAny_bind (wpAny_tryCatch ?_)
       unfold Builtin.Dict.pairItems
       refine wpAny_bind (Looks.here (show Looks (model X.prog X.w) s1.heap (typeOf (.ref tp)) ob.cls from (Looks.ld eo).andThen .now) ?_)
       rw [hc,if_pos (by decide)]
       unfold seqItems?
       refine wpAny_bind (wpAny_bind (wpAny_load eo ?_))
       rw [hd]
       refine wpAny_pure (wpAny_pure ?_)
       show wpAny _ A.in1 (holding [uk,uv] (dictSet D uk uv)) _ _ s1
       refine wpAny_holding (Zgk (by show A.units + 1 < cLine; omega) I1 d1 r1 r2 fun s2 I2 sb=>?_)
       refine wpAny_pure ⟨Code.quiet_builtin _ (by decide +kernel),?_⟩
       refine N8 hu hA hn hit fit zs (i + 1) o1 o'' s2 _ I2 (src1.at (fun ob' e=>(sb.2 it hit).trans e) (fun q=>?_) fun q=>?_) p2 d2 h
       ·rcases q with (q | ⟨oo,q⟩) | q
        ·by_cases hpD:p=D
         ·subst hpD
          exact absurd d1 (fun z=>by
           rw [Zg] at q
           cases q
           rcases z with ⟨_,_,e,_⟩ | ⟨_,_,_,e,_⟩ <;> rw [Zg] at e <;> cases e)
         ·rw [Zm hpD] at q
          exact .inl (.inl (by rw [Zm hpD]; exact q))
        ·by_cases hpD:p=D
         ·subst hpD
          exact absurd d1 (fun z=>by
           rw [Zg] at q
           cases q
           rcases z with ⟨_,_,e,_⟩ | ⟨_,_,_,e,_⟩ <;> rw [Zg] at e <;> cases e)
         ·rw [Zm hpD] at q
          exact .inl (.inr ⟨oo,by rw [Zm hpD]; exact q⟩)
        ·exact .inr q
       ·rcases q with (q | ⟨oo,q⟩) | q
        ·by_cases hpD:p=D
         ·subst hpD
          exact absurd d1 (fun z=>by
           rw [Zg] at q
           cases q
           rcases z with ⟨_,_,e,_⟩ | ⟨_,_,_,e,_⟩ <;> rw [Zg] at e <;> cases e)
         ·rw [Zm hpD] at q
          exact .inl (.inl (by rw [Zm hpD]; exact q))
        ·by_cases hpD:p=D
         ·subst hpD
          exact absurd d1 (fun z=>by
           rw [Zg] at q
           cases q
           rcases z with ⟨_,_,e,_⟩ | ⟨_,_,_,e,_⟩ <;> rw [Zg] at e <;> cases e)
         ·rw [Zm hpD] at q
          exact .inl (.inr ⟨oo,by rw [Zm hpD]; exact q⟩)
        ·exact .inr q
end
section
variable {X:Cx}
def Zkn (K:W.Frag):List V->Hp->VK->Prop:=fun xs H Q=>∃ (p:Addr) (ys:List V) (zs:List (V×V)) (o:HO),xs=[.ref p]/\(H p=some (.lst ys)\/H p=some (.tup ys))/\Zg4 K H ys zs/\(o=.dK []\/o=.dT []) /\
 ∀ D,H D=none->∃ o',DFill H D o zs o'/\Q (.ref D) (upd H D o')
theorem V5 (hr:Room 3 X.A) (hc:X.calm=true):Vc X (.type "dict") (Zkn X.K):=by
 intro pins s σ H xs us Q I r h
 obtain ⟨p,ys,zs,o,rfl,hp,pa,ho,q⟩:=h
 obtain ⟨u,rfl,rx⟩:=Tj r
 cases rx
 have hA:X.A.handled=none:=I.ok.hd hc
 have hD:H s.heap.objs.size=none:=I.hok.fresh (Nat.le_refl _)
 obtain ⟨o',df,q'⟩:=q _ hD
 have pD:p≠s.heap.objs.size:=fun z=>by
  rcases hp with e | e <;> rw [z,hD] at e <;> cases e
 refine callType_codes (Q₁:=fun obj s₁=>obj=.ref s.heap.objs.size/\s₁={ s with heap:=s.heap.push { cls:=.type "dict",data:=.dict #[] } }) PySem.F.kt_called_dict (PySem.F.kt_typeCall_dict_1 _) PySem.F.entry_dict_init (kt_code_dict_new _ ⟨rfl,rfl⟩) ?_
 rintro obj s₁ ⟨rfl,rfl⟩
 have I1:Inv X pins σ (upd H s.heap.objs.size o) { s with heap:=s.heap.push { cls:=.type "dict",data:=.dict #[] } }:=by
  rcases ho with e | e
  ·subst e; exact I.laid (a:=s.heap.objs.size) (o:=.dK []) (t':=s.toks) (fun _ _ q=>Heap.get?_push_of_some _ q) (Nat.le_refl _) (Zcr s.heap I.big)
  ·subst e; exact I.laid (a:=s.heap.objs.size) (o:=.dT []) (t':=s.toks) (fun _ _ q=>Heap.get?_push_of_some _ q) (Nat.le_refl _) (Zcq s.heap I.big)
 have hT:(⟨s.heap.push { cls:=.type "dict",data:=.dict #[] },s.gens,s.drawn,s.toks,s.os⟩:Shared).TypeIs (.ref s.heap.objs.size) "dict":=⟨_,Heap.get?_push_size _ rfl,rfl⟩
 refine ⟨hT,PySem.F.args_dict_init_2 _ _,?_⟩
 unfold Builtin.«dict.__init__»
 refine wpAny_bind ?_
 unfold Builtin.Dict.selfAndRest
 refine wpAny_bind (wpAny_notOrdered_dict hT ?_)
 show wpAny _ _ (pure (s.heap.objs.size,[Value.ref p])) _ _ _
 refine wpAny_pure ?_
 show wpAny _ _ (Builtin.Dict.updateFrom "dict.__init__" s.heap.objs.size (.ref p) [] .none) _ _ _
 unfold Builtin.Dict.updateFrom
 have hA2:X.A.in1.in1.handled=none:=hA
 have fin:∀ (s2:Shared) (it:Addr),it≠s.heap.objs.size->FpOk X pins H it->Inv X pins σ (upd H s.heap.objs.size o) s2->Qb X.K (upd H s.heap.objs.size o) s2.heap p it ys 0 ->
   codeAny (model X.prog X.w) X.A.in1 (.builtin "dict.update.loop" ⟨[.ref s.heap.objs.size,.ref it,rawInt 0,.none],[]⟩) (wants (fun r s₂=>r=.none/\EP X pins σ Q (.ref s.heap.objs.size) s₂) X.xe) s2:=fun s2 it nit fit I2 src =>
  N8 (A:=X.A.in1) (by have:=hr.units; show X.A.units + 1 + 8 < cLine; omega) (show X.A.in1.handled=none from hA) hD nit fit zs 0 o o' s2 _ I2 src (by simpa using pa) df fun s' I'=>⟨rfl,.ref s.heap.objs.size,_,I',rfl,q'⟩
 have nq:∀ it:Addr,Code.quiet (.builtin "dict.update.loop" ⟨[.ref s.heap.objs.size,.ref it,rawInt 0,.none],[]⟩)=true:=fun it=>Code.quiet_builtin _ (by decide +kernel)
 rcases hp with hp | hp
 ·obtain ⟨hz,its,n,rv,eo⟩:=I1.hok p _ (show upd H s.heap.objs.size o p=some (.lst ys) by rw [Zm pD]; exact hp)
  refine wpAny_bind (wpAny_typeOf (show Shared.TypeIs _ (.ref p) "list" from ⟨_,eo,rfl⟩) ?_)
  rw [if_pos (by decide)]
  refine wpAny_bind (Qa eo rfl rfl rfl hA2 fun h' tk e ne=>?_)
  have I2:Inv X pins σ (upd H s.heap.objs.size o) { s with heap:=h',toks:=tk }:=I1.kept ne.keeps
  simp only [Option.isNone_none,if_true]
  refine wpAny_bind (wpAny_rule (wpAny_bind (wpAny_pyIter_list (s:={ s with heap:=h',toks:=tk }) ⟨_,ne.keeps _ _ eo,rfl,n,rfl⟩ (wpAny_pure ⟨nq _,?_⟩))))
  have hsz:s.heap.objs.size < h'.objs.size:=Heap.lt_size (ne.keeps _ _ (Heap.get?_push_size (o:={ cls:=.type "dict",data:=.dict #[] }) s.heap rfl))
  have hle:({ s with heap:=h',toks:=tk }:Shared).heap.objs.size<=h'.objs.size:=Nat.le_refl _
  have fI:=I2.fpOk (H':=H) hle (I.hok.fresh (Nat.le_of_lt hsz))
  refine fin _ _ (Nat.ne_of_gt hsz) fI (I2.kept (t':=tk) fun b o e=>Heap.get?_push_of_some _ e) (.inl ⟨.inl (.inl (by rw [Zm pD]; exact hp)),⟨_,Heap.get?_push_size _ rfl,rfl,rfl⟩⟩)
 ·obtain ⟨hz,its,rv,ob,eo,hcl,n,hda,hdi⟩:=I1.hok p _ (show upd H s.heap.objs.size o p=some (.tup ys) by rw [Zm pD]; exact hp)
  refine wpAny_bind (wpAny_typeOf (show Shared.TypeIs _ (.ref p) "tuple" from ⟨_,eo,hcl⟩) ?_)
  rw [if_pos (by decide)]
  refine wpAny_bind (S1 eo hcl hda hdi hA2 fun h' tk e ne=>?_)
  have I2:Inv X pins σ (upd H s.heap.objs.size o) { s with heap:=h',toks:=tk }:=I1.kept ne.keeps
  simp only [Option.isNone_none,if_true]
  refine wpAny_bind (wpAny_rule (wpAny_bind (wpAny_pyIter_tuple (s:={ s with heap:=h',toks:=tk }) (show Heap.IsTuple h' p its.toArray from ⟨_,ne.keeps _ _ eo,hcl,n,hda⟩) (wpAny_pure ⟨nq _,?_⟩))))
  have hsz:s.heap.objs.size < h'.objs.size:=Heap.lt_size (ne.keeps _ _ (Heap.get?_push_size (o:={ cls:=.type "dict",data:=.dict #[] }) s.heap rfl))
  have hle:({ s with heap:=h',toks:=tk }:Shared).heap.objs.size<=h'.objs.size:=Nat.le_refl _
  have fI:=I2.fpOk (H':=H) hle (I.hok.fresh (Nat.le_of_lt hsz))
  refine fin _ _ (Nat.ne_of_gt hsz) fI (I2.kept (t':=tk) fun b o e=>Heap.get?_push_of_some _ e) (.inr ⟨.inl (.inl (by rw [Zm pD]; exact hp)),⟨_,Heap.get?_push_size _ rfl,rfl,rfl⟩⟩)
end
end L2
namespace L2
open PySem PySem.Spec PyProof.Rows
section
variable {X:Cx} {e:Expr} {st:Option Expr} {te:TE} {ts:TO} {p2 pos:Pos}
def tRev (K:W.Frag) (te:TE) (ts:TO):TE:=fun σ H Q=>te σ H fun x H1=>ts σ H1 fun k H2=>k=some (-1)/\∃ a xs,x=.ref a/\SqL K H2 a xs/\∀ p,H2 p=none->Q (.ref p) (upd H2 p (.lst xs.reverse))
theorem Zfd (he:PE X e te) (hs:PO X st ts) (hsub:∀ o i,∃ ops,subscripted (.Slice none none st p2) false o i=operate ops (getItem o i)):PE X (.Subscript e (.Slice none none st p2) pos) (tRev X.K te ts):=by
 intro pins s σ H Q I h
 refine Subscript_ (thn (he pins s σ H _ I h) fun v s1 ⟨x,H1,I1,r1,q1⟩=>?_)
 refine wpAny_Slice ?_
 rw [evalPart_none]
 refine wpAny_pure ?_
 refine wpAny_pure ?_
 refine thn (hs pins s1 σ H1 _ I1 q1) fun vk s3 ⟨k,H3,I3,pk,ek,a,xs,ex,hx,q⟩=>?_
 subst ek
 subst ex
 cases r1
 have I4:Inv X pins σ H3 { s3 with heap:=s3.heap.push { cls:=.type "slice",data:=.fields #[.none,.none,vk] } }:=I3.kept (t':=s3.toks) fun b ob q=>Heap.get?_push_of_some _ q
 obtain ⟨its,r,ht,hz⟩:=I4.list hx
 have hlen:=r.length
 show wpAny (model X.prog X.w) X.A (subscriptTail e (.Slice none none st p2) (.ref a) (.ref s3.heap.objs.size)) (EP X pins σ Q) X.xe { s3 with heap:=s3.heap.push { cls:=.type "slice",data:=.fields #[.none,.none,vk] } }
 obtain ⟨ops,hop⟩:=hsub (.ref a) (.ref s3.heap.objs.size)
 refine tail_any (ops:=ops) ht.isList.typeIs slot_list_getitem.lookup ?_ hop
 refine wpAny_getItem_list_slice ht.isList (Heap.IsSliceOf.new ..) .none .none pk (by decide) ?_ (by rw [List.size_toArray] <;> omega)
 rw [W.krv_pick]
 refine ⟨.ref _,_,I4.laid (t':=s3.toks) (o:=.lst xs.reverse) (fun b ob q=>Heap.get?_push_of_some _ q) (Nat.le_refl _) ?_,rfl,q _ (I4.hok.fresh (Nat.le_refl _))⟩
 refine ⟨by rw [List.length_reverse]; exact hz,its.reverse,0,?_,?_⟩
 ·have rev:∀ {a:List V} {b:List Value},Vals a b->Vals a.reverse b.reverse:=by
   intro a b h
   induction h with
   | nil=>exact .nil
   | cons h1 h2 ih=>rw [List.reverse_cons,List.reverse_cons]; exact ih.append (.cons h1 .nil)
  exact rev r
 ·exact Heap.get?_push_size _ rfl
end
def mxOf:Option Int->List Int->Option Int
 | c,[]=>c
 | none,n::r=>mxOf (some n) r
 | some c,n::r=>mxOf (some (if c < n then n else c)) r
def U1:Option Value->Array Value
 | none=>#[]
 | some v=>#[v,v]
section
variable {X:Cx} {pins:List (Addr×Obj)} {σ:St} {H:Hp} {A:Around}
theorem Zbq (c:Option Value):(U1 c).size<=sizeLine:=by rw [sizeLine_eq]; cases c <;> simp [U1]
abbrev lst0 (vs:Array Value) (c:Nat):Obj:={ cls:=.type "list",data:=.seq vs c }
theorem Sd {p it B:Addr} {ns:List Int} {d:Value} {R:Result->Shared->Prop} (hA:A.handled=none) (hBi:it≠B) (fit:FpOk X pins H it) (fB:FpOk X pins H B) :
  ∀ (k:Nat) (i:Nat) (cur:Option Int) (cv:Option Value) (s:Shared) (c:Nat),ns.length=i + k->Inv X pins σ H s->Qb X.K H s.heap p it (ns.map V.int) i->s.heap.get? B=some (lst0 (U1 cv) c) ->
   (match cur,cv with | none,none=>True | some n,some v=>∃ t,v=Value.int n t | _,_=>False) ->
   (∀ s' u,Inv X pins σ H s'->(match mxOf cur (ns.drop i) with | none=>u=d | some n=>∃ t,u=Value.int n t)->R (.ok (.ret u)) s') ->
   codeAny (model X.prog X.w) A (.builtin "max.loop" ⟨[.ref it,.none,.ref B],[(Str.ofString "default",d)]⟩) R s
 | 0,i,cur,cv,s,c,hk,I,src,hB,hc,h=>by
  have hname:(toString "max"++toString ".loop":String)="max.loop":=by decide
  refine codeAny_builtin PySem.F.entry_max_loop ?_
  rw [Around.under_plainId PySem.F.plain_max_loop _]
  show wpAny _ A.in1 (seqItems? (.ref B) >>= _) _ _ s
  refine wpAny_bind (wpAny_seqItems hB rfl ?_)
  show wpAny _ A.in1 (tryCatch (pyNext (.ref it)) _ >>= _) _ _ s
  refine wpAny_bind (wpAny_tryCatch (wpAny_mono (Zek (Q:=fun r s'=>r=none/\Inv X pins σ H s'/\s'.heap.get? B=some (lst0 (U1 cv) c)) (I.pin1 fB hB (by intro v; simp)) (fit.snoc hBi.symm) hA src (by simp; omega) fun s' I'=>⟨rfl,I'.unpinned,(I'.pin (B,lst0 (U1 cv) c) (by simp)).1⟩) (fun r s' ⟨er,I',hB'⟩=>?_) fun _ _ z=>z))
  subst er
  have hd:ns.drop i=[]:=List.drop_eq_nil_of_le (by omega)
  rw [hd] at h
  cases cur with
  | none =>
   cases cv with
   | some v=>exact hc.elim
   | none =>
    refine wpAny_bind (wpAny_rule (wpAny_pure ?_))
    exact h s' d I' rfl
  | some n =>
   cases cv with
   | none=>exact hc.elim
   | some v =>
    show wpAny _ A.in1 (updateSeq B (fun _=>#[]) >>= _) _ _ _
    refine wpAny_bind (wpAny_updateSeq hB' rfl (wpAny_bind (wpAny_letGo (wpAny_pure ?_))) (Zbq _))
    exact h _ v (I'.turn1 fB (Heap.SameBut.update _ _ _)) hc
 | k + 1,i,cur,cv,s,c,hk,I,src,hB,hc,h=>by
  have hname:(toString "max"++toString ".loop":String)="max.loop":=by decide
  have hil:i < ns.length:=by omega
  refine codeAny_builtin PySem.F.entry_max_loop ?_
  rw [Around.under_plainId PySem.F.plain_max_loop _]
  show wpAny _ A.in1 (seqItems? (.ref B) >>= _) _ _ s
  refine wpAny_bind (wpAny_seqItems hB rfl ?_)
  show wpAny _ A.in1 (tryCatch (pyNext (.ref it)) _ >>= _) _ _ s
  refine wpAny_bind (wpAny_tryCatch (wpAny_mono (Zb3 (x:=V.int ns[i]) (Q:=fun r s'=>∃ u,r=some u/\RelV (V.int ns[i]) u/\Inv X pins σ H s'/\s'.heap.get? B=some (lst0 (U1 cv) c)/\Qb X.K H s'.heap p it (ns.map V.int) (i + 1)) (I.pin1 fB hB (by intro v; simp)) (fit.snoc hBi.symm) src (by rw [List.getElem?_map,List.getElem?_eq_getElem hil]; rfl)
   fun u s' ru I' src'=>⟨u,rfl,ru,I'.unpinned,(I'.pin (B,lst0 (U1 cv) c) (by simp)).1,src'⟩) (fun r s' ⟨u,er,ru,I',hB',src'⟩=>?_) fun _ _ z=>z))
  subst er
  obtain ⟨t,eu⟩:=ru
  subst eu
  rw [List.drop_eq_getElem_cons hil] at h
  have st:=fun (f:Obj->Obj)=>Heap.SameBut.update s'.heap B f
  cases cur with
  | none =>
   cases cv with
   | some v=>exact hc.elim
   | none =>
    show wpAny _ A.in1 (updateSeq B (fun _=>#[Value.int ns[i] t,Value.int ns[i] t]) >>= _) _ _ _
    refine wpAny_bind (wpAny_updateSeq hB' rfl ?_ (Zbq _))
    rw [hname]
    refine wpAny_pure ⟨plainId_quiet PySem.F.plain_max_loop _,Sd hA hBi fit fB k (i + 1) (some ns[i]) (some (Value.int ns[i] t)) _ _ (by omega) (I'.turn1 fB (st _)) (src'.at (fun ob e=>((st _).2 it hBi).trans e) id id) (Heap.get?_update_self _ hB' rfl) ⟨t,rfl⟩ ?_⟩
    simpa only [mxOf] using h
  | some n =>
   cases cv with
   | none=>exact hc.elim
   | some v =>
    obtain ⟨t',hv⟩:=hc
    subst hv
    show wpAny _ A.in1 (tryCatch (holding [Value.int ns[i] t,Value.int ns[i] t] (richCompare .Gt (Value.int ns[i] t) (Value.int n t') >>= _)) _ >>= _) _ _ _
    refine wpAny_bind (wpAny_tryCatch (wpAny_holding (wpAny_bind (show wpAny (model X.prog X.w) A.in1 (compareOp .Gt (Value.int ns[i] t) (Value.int n t')) _ _ _ from PyProof.Rows.gt_int ?_))))
    refine wpAny_bind (wpAny_holding (wpAny_truthy_bool ?_))
    refine wpAny_bind (wpAny_letGo (wpAny_pure ?_))
    by_cases hlt:n < ns[i]
    ·simp only [hlt,decide_true,if_true]
     refine wpAny_bind (wpAny_updateSeq hB' rfl (wpAny_bind (wpAny_letGo ?_)) (Zbq _))
     rw [hname]
     refine wpAny_pure ⟨plainId_quiet PySem.F.plain_max_loop _,Sd hA hBi fit fB k (i + 1) (some ns[i]) (some (Value.int ns[i] t)) _ _ (by omega) (I'.turn1 fB (st _)) (src'.at (fun ob e=>((st _).2 it hBi).trans e) id id) (Heap.get?_update_self _ hB' rfl) ⟨t,rfl⟩ ?_⟩
     simpa only [mxOf,hlt,if_true] using h
    ·simp only [hlt,decide_false,Bool.false_eq_true,if_false]
     refine wpAny_bind (wpAny_letGo ?_)
     rw [hname]
     refine wpAny_pure ⟨plainId_quiet PySem.F.plain_max_loop _,Sd hA hBi fit fB k (i + 1) (some n) (some (Value.int n t')) _ _ (by omega) I' src' hB' ⟨t',rfl⟩ ?_⟩
     simpa only [mxOf,hlt,if_false] using h
end
theorem Zdu {prog:Program} {w:World} {A:Around} {E:Value->Shared->Prop} {s:Shared} {id:String} {b:Builtin} {args:List Value} {kw:List (Str×Value)} {Q:Value->Shared->Prop} (hk:builtinKind id=none) (hp:plainId id=true)
  (hb:entryFor table id=some b) (ha:argsOk id ⟨args,kw⟩)
  (hc:wpAny (model prog w) A.in1 (b ⟨args,kw⟩) (fun fin s'=>match fin with
   | .done f=>(match (Except.ok f:Result) with | .ok (.ret v)=>Q v s' | .ok _=>False | .error e=>E e s')
   | .again c'=>c'.quiet=true/\codeAny (model prog w) A c' (fun r s'=>match r with | .ok (.ret v)=>Q v s' | .ok _=>False | .error e=>E e s') s') E s) :
  wpAny (model prog w) A (call (.builtin id) args kw) Q E s:=by
 refine wpAny_call (codeAny_call_builtin hp hb ?_)
 simp only [checkBuiltinCall,hk]
 cases hsig:Manifest.signature? id with
 | none=>exact wpAny_pure hc
 | some sig =>
  have ha':Bind.checkArgs id sig ⟨args,kw⟩=pure ():=by simpa only [argsOk,hsig] using ha
  simp only [ha']
  exact wpAny_pure hc
section
variable {X:Cx} {e d:Expr} {ta tk:TA} {p pos kpos:Pos}
def Zj7 (K:W.Frag) (ta tk:TA):TE:=fun σ H Q=>ta σ H fun vs H1=>tk σ H1 fun ds H2=>∃ (a:Addr) (ns:List Int) (n0:Int),vs=[.ref a]/\ds=[.int n0]/\SqL K H2 a (ns.map V.int)/\Q (.int ((mxOf none ns).getD n0)) H2
theorem Zkv (hc:X.calm=true) (hg:Gl X "max") (hm:X.mg "max"=none) (ha:PA X [e] ta) (hk:PK X [⟨some "default",d,kpos⟩] tk) (he:starEach [e] X.env=[(false,eval e X.env)]:=by rfl) :
  PE X (.Call (.Name "max" p) [e] [⟨some "default",d,kpos⟩] pos) (Zj7 X.K ta tk):=by
 intro pins s σ H Q I h
 refine wpAny_Call_Name_kw (S0 I hg hm PyProof.Rows.boot_max ?_)
 refine callWith_kw (thn (ha pos pins s σ H _ I h) fun us s1 ⟨vs,H1,I1,r1,q1⟩=>?_) (by rw [he]; rfl) (by rw [he]; rfl)
 refine thn (hk pos pins s1 σ H1 _ I1 q1) fun ws s2 ⟨zs,H2,I2,rz,a,ns,n0,ev,ez,hl,q⟩=>?_
 subst ev
 subst ez
 obtain ⟨u,rfl,ru⟩:=Vals.one r1
 obtain rfl:u=Value.ref a:=ru
 obtain ⟨dv,rfl,t0,rfl⟩:=Vals.one rz
 have hname:(toString "max"++toString ".loop":String)="max.loop":=by decide
 show wpAny _ _ (call (.builtin "max") [.ref a] [(Str.ofString "default",.int n0 t0)]) _ _ s2
 refine Zdu PySem.F.kind_max PySem.F.plain_max PySem.F.entry_max (by unfold argsOk; kernel_rfl) ?_
 show wpAny _ X.A.in1 (Builtin.Builtins.bindParams "max" ["key", "default"] 0 ⟨[],[(Str.ofString "default",.int n0 t0)]⟩ >>= _) _ _ s2
 refine wpAny_bind (wpAny_of_eq (show Builtin.Builtins.bindParams "max" ["key", "default"] 0 ⟨[],[(Str.ofString "default",.int n0 t0)]⟩=pure [none,some (.int n0 t0)] from rfl) ?_)
 refine wpAny_bind (wpAny_pure ?_)
 obtain ⟨its,rv,pl,hz⟩:=I2.list hl
 refine wpAny_bind (wpAny_pyIter_list pl.isList ?_)
 refine wpAny_bind (wpAny_newList ?_ (Nat.zero_le _))
 rw [hname]
 have I3:Inv X pins σ H2 { s2 with heap:=(s2.heap.push { cls:=.type "list_iterator",data:=.fields #[.ref a,.int 0 0] }).push (lst0 #[] 0) }:=I2.kept (t':=s2.toks) fun b o e=>Heap.get?_push_of_some _ (Heap.get?_push_of_some _ e)
 have hit:FpOk X pins H2 s2.heap.objs.size:=I2.fpOk (Nat.le_refl _) (I2.hok.fresh (Nat.le_refl _))
 have hle:s2.heap.objs.size<=(s2.heap.push { cls:=.type "list_iterator",data:=.fields #[.ref a,.int 0 0] }).objs.size:=by rw [Heap.size_push]; exact Nat.le_succ _
 have hB:=I2.fpOk (H':=H2) hle (I2.hok.fresh hle)
 have nB:s2.heap.objs.size≠(s2.heap.push { cls:=.type "list_iterator",data:=.fields #[.ref a,.int 0 0] }).objs.size:=by rw [Heap.size_push]; exact Nat.ne_of_lt (Nat.lt_succ_self _)
 refine wpAny_pure ⟨plainId_quiet PySem.F.plain_max_loop _,Sd (A:=X.A) (I2.ok.hd hc) nB hit hB ns.length 0 none none _ 0 (by omega) I3 (.inl ⟨hl,⟨_,Heap.get?_push_of_some _ (Heap.get?_push_size _ rfl),rfl,rfl⟩⟩) (Heap.get?_push_size _ rfl) trivial fun s' u I' hu=>?_⟩
 rw [List.drop_zero] at hu
 refine ⟨_,H2,I',?_,q⟩
 cases hm:mxOf none ns with
 | none=>rw [hm] at hu; exact ⟨t0,hu⟩
 | some n=>rw [hm] at hu; exact hu
end
section
variable {prog:Program} {w:World} {A:Around} {E:Value->Shared->Prop} {s:Shared}
theorem Ux {t sl:Addr} {items:Array Value} {vl vu:Value} {lo hi:Option Int} {Q:Value->Shared->Prop} (ht:IsTup s.heap t items) (hs:s.heap.IsSliceOf sl vl vu .none) (pl:IsPart vl lo) (pu:IsPart vu hi)
  (hw:HT.sIx items.size 0 lo=0/\HT.sIx items.size items.size hi=items.size) (h:Q (.ref t) s):wpAny (model prog w) A (getItem (.ref t) (.ref sl)) Q E s:=by
 obtain ⟨os,hos,hcs,hds⟩:=id hs
 have hTs:s.TypeIs (.ref sl) "slice":=⟨os,hos,hcs⟩
 unfold getItem
 try with_reducible refine wpAny_holding ?_
 first | refine wpAny_bind (wpAny_pure ?_) | skip
 refine wpAny_bind (wpAny_sequenceKey ht.typeIs (by decide) ?_)
 refine wpAny_bind (wpAny_callSpecial?_slot (name:=Str.ofString "__getitem__") ht.typeIs PyProof.Rows.slot_tuple_getitem
  (wpAny_call_entry PyProof.Rows.slot_tuple_getitem ht.typeIs entry_tuple_getitem ?_ (args_tuple_getitem _ _)))
 show wpAny _ _ (Builtin.Tuple.tupleItemsOf (.ref t) >>= _) _ _ s
 refine wpAny_bind (tupleItemsOf_ ht ?_)
 refine wpAny_bind (wpAny_typeOf hTs ?_)
 rw [if_pos (by decide)]
 refine wpAny_bind (HT.sliceApplied_gen hs pl pu ?_)
 show wpAny _ _ (if (((HT.sIx items.size 0 lo:Nat):Int) == 0 && (1:Int) == 1 && (HT.sIx items.size items.size hi - HT.sIx items.size 0 lo) == items.size)=true then _ else _) _ _ s
 have hyes:((((HT.sIx items.size 0 lo:Nat):Int) == 0 && (1:Int) == 1 && (HT.sIx items.size items.size hi - HT.sIx items.size 0 lo) == items.size)=true):=by
  rw [hw.1,hw.2]; simp
 rw [if_pos hyes]
 unfold Builtin.Tuple.tupleIsExact
 refine wpAny_bind ?_
 first
  | exact wpAny_bind (wpAny_typeOf ht.typeIs (wpAny_pure (by rw [if_pos (by decide)]; exact wpAny_bind (wpAny_rule (wpAny_pure ⟨_,rfl,wpAny_pure h⟩)))))
  | exact wpAny_bind (wpAny_typeOf ht.typeIs (wpAny_pure (by simp; exact wpAny_bind (wpAny_rule (wpAny_pure ⟨_,rfl,wpAny_pure h⟩)))))
end
section
variable {X:Cx}
def rSlW (K:W.Frag):V->Option Int->Option Int->Hp->VK->Prop:=fun x lo hi H Q=>∃ a xs,x=.ref a/\SqT K H a xs /\
 ((cutV xs lo hi=xs->Q (.ref a) H)/\∀ p,H p=none->Q (.ref p) (upd H p (.tup (cutV xs lo hi))))
theorem Zaq:SlR X (rSlW X.K):=by
 intro pins s σ H x v vl vu lo hi sl Q I rx hs pl pu h
 obtain ⟨a,xs,rfl,hx,q0,q⟩:=h
 cases rx
 obtain ⟨its,r,ht,hz⟩:=I.tuple hx
 have hlen:its.toArray.size=xs.length:=by rw [List.size_toArray]; exact r.length.symm
 refine ⟨"tuple",_,PyProof.Rows.slot_tuple_getitem.lookup,ht.typeIs,?_⟩
 by_cases hw:HT.sIx xs.length 0 lo=0/\HT.sIx xs.length xs.length hi=xs.length
 ·refine Ux ht hs pl pu (by rw [hlen]; exact hw) ⟨.ref a,H,I,rfl,q0 ?_⟩
  unfold cutV
  rw [hw.1,hw.2]
  simp
 ·refine HT.getItem_tuple_cut ht hs pl pu (by rw [hlen]; exact hw) ?_ (by rw [hlen]; exact hz)
  rw [hlen]
  refine ⟨.ref s.heap.objs.size,_,I.laid (t':=s.toks) (o:=.tup (cutV xs lo hi)) (fun b ob q=>Heap.get?_push_of_some _ q) (Nat.le_refl _) ?_,rfl,q _ (I.hok.fresh (Nat.le_refl _))⟩
  exact ⟨Nat.le_trans (Uy xs lo hi) hz,_,(r.drop (HT.sIx xs.length 0 lo)).take (HT.sIx xs.length xs.length hi - HT.sIx xs.length 0 lo),V8.new _ _⟩
end
def Met (P:Program) (w:World) (K:W.Frag) (mg:Str->Option Value) (base:Heap) (C:Addr) (m:Str) (k:Nat) (ps:List Str) (sp:Sp):Prop :=
 ∃ f fd,Cls K C/\Meth K C m f/\FnOk P w K mg base CX0 k f fd ps sp/\Vn K fd ps []
def Mkr (P:Program) (w:World) (K:W.Frag) (mg:Str->Option Value) (base:Heap) (x:Str) (C:Addr) (k:Nat) (ps:List Str) (sp:Sp):Prop :=
 ∃ f fd,Mk K C f/\FnOk P w K mg base CX0 k f fd ps sp/\mg x=some (.ref C)/\Vn K fd ps []
section
variable {X:Cx} {C:Addr} {k:Nat} {ps:List Str} {sp:Sp} {x m:Str} {p pos apos:Pos} {e o:Expr} {es:List Expr} {ta:TE} {t:TA}
theorem Za1 {pl:Sem Bool} (he:PE X o ta) (M:Met X.prog X.w X.K X.mg X.base C m k ps sp) (hr:Room k X.A) (ha:PA X (e::es) t)
  (hst:starEach (e::es) X.env=(false,eval e X.env)::starEach es X.env:=by rfl) (hpl:(backTo pos (starEach es X.env)).any (·.1)=false:=by rfl)
  (ht:eval (.Call (.Attribute o m apos) (e::es) [] pos) X.env=(do
   let ov <- eval o X.env
   standAt apos.atName
   let (f,first) <- holding [ov] (getMethod ov m pl)
   callWith pos f first (backTo pos (starEach (e::es) X.env)) (backToKw pos (keywordEach [] X.env))):=by rfl) :
  PE X (.Call (.Attribute o m apos) (e::es) [] pos) (Zc8 C m sp [] E0 ta t):=by
 obtain ⟨f,fd,c,hm,F,hb⟩:=M
 exact Zfe he c hm F hr hb .nil Zh0 ha hst hpl ht
theorem Zqq (M:Mkr X.prog X.w X.K X.mg X.base x C k ps sp) (hr:Room (k + 1) X.A) (hg:Gl X x) (ha:PA X (e::es) t) (hdb:(x == ("__debug__":Str))=false:=by decide)
  (he:starEach (e::es) X.env=(false,eval e X.env)::starEach es X.env:=by rfl) (hpl:(backTo pos (starEach es X.env)).any (·.1)=false:=by rfl):PE X (.Call (.Name x p) (e::es) [] pos) (Zc9 C sp [] E0 t):=by
 obtain ⟨f,fd,hm,F,g,hb⟩:=M
 exact Zkw hm F hr hg g hb .nil Zh0 ha hdb he hpl
end
theorem Fun.okC {P:Program} {w:World} {K:W.Frag} {mg:Str->Option Value} {base:Heap} {x qual:Str} {st:Stmt} {f:Addr} {oc:Value} {od an:Option Addr} {osl:Array (Option Value)} {kV doc pm cdv ct:Value} {N ps:List Str} {k:Nat} {sp:Sp}
  (lk:K.lookup f=some ⟨oc,od,.func (W.fnOf x qual (Zx st) (Zu st) (Zi st) .none kV doc pm an cdv ct),osl⟩) (hcd:W.codeIn K cdv qual=true) (S:FnScope N ps (Zi st)) (len:∀ vs H Q E,sp vs H Q E->vs.length=ps.length)
  (hbody:∀ (A:Around) (outer:List Env) (s:Shared) (H:Hp) (vs:List V) (Q:VK) (E:XK),Room k (A.deeper (envOfC qual (Zi st) s.heap.objs.size f cdv))->sp vs H Q E ->
   ∃ t,PSs (cxOf CX0 P w K mg base N qual (Zi st) f cdv A outer s H E).nox (Zu st) t/\t { nx:=fun _ H'=>Q .non H',rt:=Q } (Ut N vs) H) :
  FnOk P w K mg base CX0 (k + 1) f (W.fnOf x qual (Zx st) (Zu st) (Zi st) .none kV doc pm an cdv ct) ps sp :=
 Zlo lk hcd S len fun A outer s H vs Q E hr hsp=>by
  obtain ⟨t,h,q⟩:=hbody A outer s H vs Q E hr hsp
  exact ⟨t,h.nox,q⟩
abbrev Pr:=Int×List Int
def TupK (H H':Hp):Prop:=∀ b xs,H b=some (.tup xs)->H' b=some (.tup xs)
theorem TupK.trans {H H1 H2:Hp} (a:TupK H H1) (b:TupK H1 H2):TupK H H2:=fun c xs h=>b c xs (a c xs h)
theorem Same.tk {H H':Hp} (s:Same H H'):TupK H H':=fun b xs h=>s b _ h
theorem Grow.tk {p:Addr} {H H':Hp} (g:Grow p H H') {xs:List V} (e:H p=some (.lst xs)):TupK H H':=fun b ys h=>g b _ h (Wg h e fun z=>by cases z)
theorem U3.tk {P:Addr} {H H':Hp} (s:U3 P H H') {ps:Array Value} (e:H P=some (.tbl ps)):TupK H H':=fun b xs h=>s b _ (Wg h e fun z=>by cases z) h
def Zbt (H:Hp) (v:V) (w:List Int):Prop:=∃ t,v=.ref t/\H t=some (.tup (w.map V.int))
def P0 (H:Hp) (v:V) (p:Pr):Prop:=∃ t tw,v=.ref t/\H t=some (.tup [.int p.1,.ref tw])/\H tw=some (.tup (p.2.map V.int))
theorem Zbt.tk {H H':Hp} {v:V} {w:List Int} (h:Zbt H v w) (s:TupK H H'):Zbt H' v w:=by
 obtain ⟨t,e,a⟩:=h
 exact ⟨t,e,s _ _ a⟩
theorem P0.tk {H H':Hp} {v:V} {p:Pr} (h:P0 H v p) (s:TupK H H'):P0 H' v p:=by
 obtain ⟨t,tw,e,a,b⟩:=h
 exact ⟨t,tw,e,s _ _ a,s _ _ b⟩
abbrev Wb (H:Hp):List V->List (List Int)->Prop:=Paired (Zbt H)
abbrev Prs (H:Hp):List V->List Pr->Prop:=Paired (P0 H)
theorem Wb.tk {H H':Hp} {vs:List V} {ws:List (List Int)} (h:Wb H vs ws) (s:TupK H H'):Wb H' vs ws:=Paired.mapP h fun _ _ z=>z.tk s
theorem Prs.tk {H H':Hp} {vs:List V} {L:List Pr} (h:Prs H vs L) (s:TupK H H'):Prs H' vs L:=Paired.mapP h fun _ _ z=>z.tk s
theorem Paired.at {α β:Type} {F:α->β->Prop}:∀ {l:List α} {m:List β},Paired F l m->∀ {i:Nat} (h1:i < l.length) (h2:i < m.length),F l[i] m[i]
 | _,_,.nil,_,h,_=>absurd h (Nat.not_lt_zero _)
 | _,_,.cons a r,0,_,_=>a
 | _,_,.cons a r,i + 1,h1,h2=>Paired.at r (i:=i) (by simpa using h1) (by simpa using h2)
theorem Paired.snoc {α β:Type} {F:α->β->Prop} {x:α} {y:β} (h:F x y):∀ {l:List α} {m:List β},Paired F l m->Paired F (l++[x]) (m++[y])
 | _,_,.nil=>.cons h .nil
 | _,_,.cons a r=>.cons a (Paired.snoc h r)
theorem Paired.app {α β:Type} {F:α->β->Prop} {l':List α} {m':List β} (h:Paired F l' m'):∀ {l:List α} {m:List β},Paired F l m->Paired F (l++l') (m++m')
 | _,_,.nil=>h
 | _,_,.cons a r=>.cons a (Paired.app h r)
theorem Paired.tak {α β:Type} {F:α->β->Prop}:∀ {l:List α} {m:List β} (n:Nat),Paired F l m->Paired F (l.take n) (m.take n)
 | _,_,0,_=>by rw [List.take_zero,List.take_zero]; exact .nil
 | _,_,n + 1,.nil=>.nil
 | _,_,n + 1,.cons a r=>.cons a (Paired.tak n r)
theorem Paired.drp {α β:Type} {F:α->β->Prop}:∀ {l:List α} {m:List β} (n:Nat),Paired F l m->Paired F (l.drop n) (m.drop n)
 | _,_,0,h=>h
 | _,_,n + 1,.nil=>.nil
 | _,_,n + 1,.cons a r=>Paired.drp n r
theorem Paired.rev {α β:Type} {F:α->β->Prop}:∀ {l:List α} {m:List β},Paired F l m->Paired F l.reverse m.reverse
 | _,_,.nil=>.nil
 | _,_,.cons a r=>by rw [List.reverse_cons,List.reverse_cons]; exact Paired.snoc a (Paired.rev r)
def Zml (a b:Pr):Prop:=a.1≠b.1/\¬ a.2<+:b.2/\¬ b.2<+:a.2
def Free (L:List Pr):Prop:=L.Pairwise Zml
theorem Free.get {L:List Pr} (h:Free L) {i j:Nat} (hi:i < L.length) (hj:j < L.length) (hij:i < j):Zml L[i] L[j]:=List.pairwise_iff_getElem.mp h i j hi hj hij
def Su (p q:Pr):V:=if p.1=q.1 then .str (Str.ofString "twice") else if p.2.take (min p.2.length q.2.length)=q.2.take (min p.2.length q.2.length) then .str (Str.ofString "begins") else .non
theorem Zdj {p q:Pr} (h:Zml p q):Su p q=.non:=by
 unfold Su
 rw [if_neg h.1,if_neg]
 intro e
 rcases Nat.le_total p.2.length q.2.length with l | l
 ·rw [Nat.min_eq_left l,List.take_length] at e
  exact h.2.1 (e ▸ List.take_prefix _ _)
 ·rw [Nat.min_eq_right l,List.take_length] at e
  exact h.2.2 (e ▸ List.take_prefix _ _)
theorem Pl:∀ (a b:List Int),PyData.eqvAll (a.map PyData.int) (b.map PyData.int)=decide (a=b)
 | [],[]=>by simp [PyData.eqvAll]
 | [],_::_=>by simp [PyData.eqvAll]
 | _::_,[]=>by simp [PyData.eqvAll]
 | x::a,y::b=>by
  simp only [List.map_cons,PyData.eqvAll,PyData.eqv,Pl a b]
  by_cases h:x=y
  ·subst h; simp
  ·simp [h]
theorem Zlr (a b:List Int):PyData.eqv (.tuple (a.map PyData.int)) (.tuple (b.map PyData.int))=decide (a=b):=by
 simp only [PyData.eqv,Pl]
theorem Zlt (a b:List Int):PyData.eqv (.list (a.map PyData.int)) (.list (b.map PyData.int))=decide (a=b):=by
 simp only [PyData.eqv,Pl]
theorem Nh (ns:List Int):Shp 1 (.tuple (ns.map PyData.int)):=Ng fun d hd=>by
 obtain ⟨i,_,rfl⟩:=List.mem_map.mp hd
 exact Zar i
theorem Zbn (w:List Int) {j:Int} (h0:0<=j) (h1:j<=w.length):cutV (w.map V.int) none (some j)=(w.take j.toNat).map V.int:=by
 rw [N9 h0 (by rw [List.length_map]; exact h1),List.map_take]
def Zi3:Sp:=fun vs H Q _=>∃ v1 v2 p q,vs=[v1,v2]/\P0 H v1 p/\P0 H v2 q/\p.2.length<=1000/\q.2.length<=1000/\∀ H',Same H H'->Q (Su p q) H'
def U2 (H:Hp) (a:Addr) (L:List Pr):Prop:=∃ vs,H a=some (.lst vs)/\Prs H vs L
theorem U2.same {H H':Hp} {a:Addr} {L:List Pr} (h:U2 H a L) (s:Same H H'):U2 H' a L:=by
 obtain ⟨vs,e,p⟩:=h
 exact ⟨vs,s _ _ e,p.tk s.tk⟩
def Fits (L:List Pr):Prop:=L.length < 64/\∀ p∈L,p.2≠[]/\p.2.length<=4
def U5:Sp:=fun vs H Q _=>∃ a L,vs=[.ref a]/\U2 H a L/\Free L/\Fits L/\∀ H',Same H H'->Q .non H'
abbrev wk (w:List Int):List Key:=w.map Sum.inl
theorem Zmn (w:List Int):(wk w).map kV=w.map V.int:=by rw [List.map_map]; rfl
def Zbx (kvs:List (List Key×V)) (ws:List (List Int)):Prop:=∀ u:List Int,(valV kvs (wk u)).isSome=decide (∃ w∈ws,u<+:w/\u.length < w.length)
def Zep:Sp:=fun vs H Q _=>∃ a vws ws,vs=[.ref a]/\H a=some (.lst vws)/\Wb H vws ws/\ws.length < 64/\(∀ w∈ws,w.length<=4) /\
 ∀ (d:Addr) (kvs:List (List Key×V)) (H':Hp),Same H H'->H d=none->H' d=some (.dT kvs)->Zbx kvs ws->Q (.ref d) H'
theorem Ze4 {K:W.Frag} {H:Hp} {a:Addr} {w:List Int} {j:Int} {Q:VK} (e:H a=some (.tup (w.map V.int))) (h0:0<=j) (h1:j<=w.length)
  (h:∀ t H',Same H H'->H' t=some (.tup ((w.take j.toNat).map V.int))->Q (.ref t) H'):rSlW K (.ref a) none (some j) H Q:=by
 refine ⟨a,_,rfl,SqT.of e,fun hw=>h a H (.refl _) ?_,fun p hp=>h p _ (Zb hp) ?_⟩
 ·rw [Zbn w h0 h1] at hw
  rw [hw]
  exact e
 ·rw [Zg,Zbn w h0 h1]
theorem Zk7 (a b:Nat):(if (b:Int) < (a:Int) then (b:Int) else (a:Int))=((min a b:Nat):Int):=by split <;> omega
theorem Zdp {κ:Type} [DecidableEq κ] (kvs:List (κ×V)) (k k':κ) (v:V):(valV (putK kvs k v) k').isSome=(decide (k'=k) || (valV kvs k').isSome):=by
 rw [Qv]
 by_cases h:k'=k
 ·rw [if_pos h,decide_eq_true h]; rfl
 ·rw [if_neg h,decide_eq_false h,Bool.false_or]
theorem Zbz:∀ {u v:List Int},wk u=wk v->u=v
 | [],[],_=>rfl
 | [],_::_,h=>nomatch h
 | _::_,[],h=>nomatch h
 | x::u,y::v,h=>by
  have h':(Sum.inl x:Key)::wk u=Sum.inl y::wk v:=h
  injection h' with a b
  rw [Sum.inl.inj a,Zbz b]
theorem Pu {α:Type} {xs:List α} {j:Nat} {v:α} (h:xs[j]?=some v):atI xs (0 + (j:Int))=some v:=by rw [Int.zero_add]; exact Ty h
def Tz (kvs:List (List Key×V)) (ws:List (List Int)) (w:List Int) (n:Nat):Prop :=
 ∀ u:List Int,(valV kvs (wk u)).isSome=decide ((∃ x∈ws,u<+:x/\u.length < x.length)\/(u<+:w/\u.length < n))
theorem Tz.put {kvs:List (List Key×V)} {ws:List (List Int)} {w:List Int} {n:Nat} (h:Tz kvs ws w n) (hn:n<=w.length) {v:V}:Tz (putK kvs (wk (w.take n)) v) ws w (n + 1):=by
 intro u
 rw [Zdp,h u]
 have e:(wk u=wk (w.take n))↔(u=w.take n):=⟨Zbz,fun z=>by rw [z]⟩
 rw [decide_eq_decide.mpr e,<- Bool.decide_or]
 refine decide_eq_decide.mpr ⟨fun z=>?_,fun z=>?_⟩
 ·rcases z with z | z | ⟨z1,z2⟩
  ·subst z
   exact .inr ⟨List.take_prefix _ _,by rw [List.length_take]; omega⟩
  ·exact .inl z
  ·exact .inr ⟨z1,by omega⟩
 ·rcases z with z | ⟨z1,z2⟩
  ·exact .inr (.inl z)
  ·by_cases l:u.length < n
   ·exact .inr (.inr ⟨z1,l⟩)
   ·refine .inl ?_
    have:u.length=n:=by omega
    rw [<- this]
    exact List.prefix_iff_eq_take.mp z1
theorem Tz.next {kvs:List (List Key×V)} {ws:List (List Int)} {w:List Int} (h:Tz kvs ws w w.length) (w':List Int):Tz kvs (ws++[w]) w' 0:=by
 intro u
 rw [h u]
 refine decide_eq_decide.mpr ⟨fun z=>?_,fun z=>?_⟩
 ·rcases z with ⟨x,hx,z⟩ | z
  ·exact .inl ⟨x,List.mem_append_left _ hx,z⟩
  ·exact .inl ⟨w,List.mem_append_right _ (List.mem_singleton.mpr rfl),z⟩
 ·rcases z with ⟨x,hx,z⟩ | ⟨_,z⟩
  ·rcases List.mem_append.mp hx with hx | hx
   ·exact .inl ⟨x,hx,z⟩
   ·rw [List.mem_singleton.mp hx] at z; exact .inr z
  ·exact absurd z (Nat.not_lt_zero _)
theorem Tz.nil (w:List Int):Tz [] [] w 0:=by
 intro u
 rw [Zhb]
 refine (decide_eq_false ?_).symm
 rintro (⟨x,hx,_⟩ | ⟨_,z⟩)
 ·exact nomatch hx
 ·exact absurd z (Nat.not_lt_zero _)
theorem Tz.done {kvs:List (List Key×V)} {ws:List (List Int)} {w:List Int} (h:Tz kvs ws w 0):Zbx kvs ws:=by
 intro u
 rw [h u]
 refine decide_eq_decide.mpr ⟨fun z=>?_,fun z=>.inl z⟩
 rcases z with z | ⟨_,z⟩
 ·exact z
 ·exact absurd z (Nat.not_lt_zero _)
theorem Zfb {α β:Type} {f:α->β} {m n:List β} (h:m.Perm n):∀ {l:List α},l.map f=n->∃ l':List α,l'.Perm l/\l'.map f=m:=by
 induction h with
 | nil=>intro l e; exact ⟨l,.refl _,e⟩
 | cons x _ ih =>
  intro l e
  cases l with
  | nil=>cases e
  | cons a l =>
   rw [List.map_cons] at e
   injection e with e1 e2
   obtain ⟨l',p,q⟩:=ih e2
   exact ⟨a::l',p.cons a,by rw [List.map_cons,e1,q]⟩
 | swap x y l0 =>
  intro l e
  match l,e with
  | a::b::r,e =>
   rw [List.map_cons,List.map_cons] at e
   injection e with e1 e2
   injection e2 with e2 e3
   exact ⟨b::a::r,.swap _ _ _,by rw [List.map_cons,List.map_cons,e1,e2,e3]⟩
 | trans _ _ ih1 ih2 =>
  intro l e
  obtain ⟨l2,p2,q2⟩:=ih2 e
  obtain ⟨l1,p1,q1⟩:=ih1 q2
  exact ⟨l1,p1.trans p2,q1⟩
structure PK3 where
 v:V
 tw:Addr
 p:Pr
def PK3.At (H:Hp) (e:PK3):Prop:=∃ t,e.v=.ref t/\H t=some (.tup [.int e.p.1,.ref e.tw])/\H e.tw=some (.tup (e.p.2.map V.int))
theorem PK3.At.tk {H H':Hp} {e:PK3} (h:e.At H) (s:TupK H H'):e.At H':=by
 obtain ⟨t,a,b,c⟩:=h
 exact ⟨t,a,s _ _ b,s _ _ c⟩
theorem Zjg {H:Hp}:∀ {vs:List V} {L:List Pr},Prs H vs L->∃ M:List PK3,M.map (·.v)=vs/\M.map (·.p)=L/\∀ e∈M,e.At H
 | _,_,.nil=>⟨[],rfl,rfl,fun _ h=>nomatch h⟩
 | _,_,.cons ⟨t,tw,a,b,c⟩ r=>by
  obtain ⟨M,e1,e2,e3⟩:=Zjg r
  refine ⟨⟨_,tw,_⟩::M,by rw [List.map_cons,e1],by rw [List.map_cons,e2],fun e he=>?_⟩
  rcases List.mem_cons.mp he with z | z
  ·rw [z]; exact ⟨t,a,b,c⟩
  ·exact e3 e z
theorem Zjh {H:Hp}:∀ {M:List PK3},(∀ e∈M,e.At H)->Prs H (M.map (·.v)) (M.map (·.p))
 | [],_=>.nil
 | e::M,h=>by
  obtain ⟨t,a,b,c⟩:=h e List.mem_cons_self
  exact .cons ⟨t,e.tw,a,b,c⟩ (Zjh fun x hx=>h x (List.mem_cons_of_mem _ hx))
def PK3.k (e:PK3):KIt:=(e.v,e.tw,e.p.2)
def Wa {κ:Type} [DecidableEq κ] (kvs:List (κ×V)) (zs:List (κ×V)):List (κ×V):=zs.foldl (fun a z=>putK a z.1 z.2) kvs
theorem Zco {κ:Type} [DecidableEq κ]:∀ (zs kvs:List (κ×V)),(Wa kvs zs).length<=kvs.length + zs.length
 | [],kvs=>by simp [Wa]
 | z::r,kvs=>by
  have:=Zco r (putK kvs z.1 z.2)
  have l:=Xa kvs z.1 z.2
  show (Wa (putK kvs z.1 z.2) r).length<=_
  rw [List.length_cons]
  omega
theorem Td {κ:Type} [DecidableEq κ] {k:κ}:∀ (zs kvs:List (κ×V)),(∀ z∈zs,z.1≠k)->valV (Wa kvs zs) k=valV kvs k
 | [],kvs,_=>rfl
 | z::r,kvs,h=>by
  show valV (Wa (putK kvs z.1 z.2) r) k=_
  rw [Td r _ fun y hy=>h y (List.mem_cons_of_mem _ hy),Qv,if_neg (fun e=>h z List.mem_cons_self e.symm)]
theorem Ro {κ:Type} [DecidableEq κ] {k:κ} {v:V}:∀ (zs kvs:List (κ×V)),(zs.map (·.1)).Nodup->(k,v)∈zs->valV (Wa kvs zs) k=some v
 | [],kvs,_,h=>nomatch h
 | z::r,kvs,nd,h=>by
  show valV (Wa (putK kvs z.1 z.2) r) k=_
  rw [List.map_cons,List.nodup_cons] at nd
  rcases List.mem_cons.mp h with e | h
  ·subst e
   rw [Td r _ fun y hy e=>nd.1 (by
    have hm:y.1∈r.map (·.1):=List.mem_map.mpr ⟨y,hy,rfl⟩
    rw [e] at hm
    exact hm),Qv,if_pos rfl]
  ·exact Ro r _ nd.2 h
theorem Zbk {H:Hp} {D:Addr}:∀ (zs kvs:List (Key×V)),kvs.length + zs.length < sizeLine->DFill H D (.dK kvs) (zs.map fun z=>(kV z.1,z.2)) (.dK (Wa kvs zs))
 | [],kvs,_=>.nil
 | z::r,kvs,h=>by
  rw [List.length_cons] at h
  have l:=Xa kvs z.1 z.2
  have d:=DPut.k (H:=upd H D (.dK kvs)) (a:=D) (k:=z.1) (v:=z.2) Zg (by omega)
  rw [Zd5] at d
  exact .cons d (Zbk r (putK kvs z.1 z.2) (by omega))
theorem Zge {H:Hp} {D:Addr} (hD:H D=none):∀ (zs:List (Addr×List Key×V)) (kvs:List (List Key×V)),kvs.length + zs.length < sizeLine->(∀ z∈zs,H z.1=some (.tup (z.2.1.map kV))) ->
  DFill H D (.dT kvs) (zs.map fun z=>(.ref z.1,z.2.2)) (.dT (Wa kvs (zs.map fun z=>(z.2.1,z.2.2))))
 | [],kvs,_,_=>.nil
 | z::r,kvs,h,ht=>by
  rw [List.length_cons] at h
  have l:=Xa kvs z.2.1 z.2.2
  have e:=ht z List.mem_cons_self
  have d:=DPut.t (H:=upd H D (.dT kvs)) (a:=D) (b:=z.1) (k:=z.2.1) (v:=z.2.2) Zg (by rw [Zm (Zq e hD)]; exact e) (by omega)
  rw [Zd5] at d
  exact .cons d (Zge hD r (putK kvs z.2.1 z.2.2) (by omega) fun y hy=>ht y (List.mem_cons_of_mem _ hy))
def Vp (H:Hp) (k1:List (Key×V)) (S:List Pr):Prop:=(∀ p∈S,∃ t,valV k1 (Sum.inl p.1)=some (.ref t)/\H t=some (.tup (p.2.map V.int)))/\∀ s:Int,(∀ p∈S,p.1≠s)->valV k1 (Sum.inl s)=none
def Zes (k2:List (List Key×V)) (S:List Pr):Prop:=(∀ p∈S,valV k2 (wk p.2)=some (.int p.1))/\∀ u:List Int,(∀ p∈S,p.2≠u)->valV k2 (wk u)=none
def Zc0 (ns:List Int) (S:List Pr):Prop:=ns.Pairwise (· < ·)/\∀ n:Int,n∈ns↔∃ p∈S,(p.2.length:Int)=n
structure CodeIn (H:Hp) (tp d1 d2 d3 d4:Addr) (S:List Pr):Prop where
 pr:∃ vs,H tp=some (.tup vs)/\Prs H vs S
 wb:∃ k1,H d1=some (.dK k1)/\Vp H k1 S
 sb:∃ k2,H d2=some (.dT k2)/\Zes k2 S
 bg:∃ k3,H d3=some (.dT k3)/\Zbx k3 (S.map (·.2))
 sz:∃ ns:List Int,H d4=some (.tup (ns.map V.int))/\Zc0 ns S
def Rw (C:Addr) (H:Hp) (x:Addr) (S:List Pr):Prop:=∃ dx tp d1 d2 d3 d4,H x=some (.ins C dx [("pairs",.ref tp),("words_by_sign",.ref d1),("signs_by_word",.ref d2),("begun",.ref d3),("word_sizes",.ref d4)])/\CodeIn H tp d1 d2 d3 d4 S
def Px (S:List Pr):Prop:=S.Pairwise fun a b=>HT.lexLt a.2 b.2=true
theorem Va.grow {Pt x:Addr} {pos:Pos} {q:Str} {H H':Hp} (t:Va Pt pos q H) {C dx:Addr} {fs:List (Str×V)} (e:H x=some (.ins C dx fs)) (g:Grow x H H'):Va Pt pos q H':=by
 obtain ⟨ps,a,b,c⟩:=t
 refine ⟨ps,g _ _ a (Wg a e fun z=>by cases z),b,?_⟩
 rcases c with c | ⟨c',d,f⟩
 ·exact .inl c
 ·exact .inr ⟨c',d,g _ _ f (Wg f e fun z=>by cases z)⟩
theorem Grow.tkI {x:Addr} {H H':Hp} (g:Grow x H H') {C dx:Addr} {fs:List (Str×V)} (e:H x=some (.ins C dx fs)):TupK H H':=fun b ys h=>g b _ h (Wg h e fun z=>by cases z)
section
variable {X:Cx} {K:W.Frag}
def rLen (K:W.Frag):List V->Hp->VK->Prop:=fun xs H Q=>∃ x n,xs=[x]/\LenV K x H n/\Q (.int n) H
theorem Yy (h:X.K=K):Vc X (.builtin "len") (rLen K):=by subst h; exact Xp
theorem Zcz (h:X.K=K):IxR X (rIxL K):=by subst h; exact Xb
theorem Zpi (h:X.K=K):IxR X (rIxT K):=by subst h; exact Tb
theorem Zl6 (h:X.K=K):OpR X (binaryOp .Add) (Zhq K):=by subst h; exact Za2
end
end L2
namespace L2
open PySem PySem.W PyProof.Rows HT
theorem Zcl:∀ {us:List Value} {ns:List Int},IntsAre us ns->Vals (ns.map V.int) us
 | _,_,.nil=>.nil
 | _,_,.cons n t h=>.cons ⟨t,rfl⟩ (Zcl h)
theorem Zf3:∀ {us:List Value} {ns:List Int},us.length=ns.length->(∀ (j:Nat) (v:Value),us[j]?=some v->∃ n t,ns[j]?=some n/\v=Value.int n t)->IntsAre us ns
 | [],[],_,_=>.nil
 | u::us,n::ns,hl,h=>by
  obtain ⟨m,t,e,rfl⟩:=h 0 u rfl
  cases e
  exact .cons _ t (Zf3 (by simpa using hl) fun j v e=>h (j + 1) v e)
section
variable {X:Cx}
def Znt:List V->Hp->VK->Prop:=fun xs H Q=>∃ (d:Addr) (kvs:List (Key×V)) (ns:List Int),xs=[.ref d]/\H d=some (.dK kvs)/\kvs.map (·.1)=ns.map Sum.inl/\kvs.length < 64 /\
 ∀ (D:Addr) (ns':List Int),H D=none->ns'.Perm ns->ns'.Pairwise (·<=·)->Q (.ref D) (upd H D (.lst (ns'.map V.int)))
theorem Zdt (hc:X.calm=true):Vc X (.builtin "sorted") Znt:=by
 intro pins s σ H xs us Q I r h
 obtain ⟨d,kvs,ns,rfl,ed,ek,hl,q⟩:=h
 obtain ⟨u,rfl,rx⟩:=Tj r
 cases rx
 obtain ⟨hz,lo,vs,rel,dof⟩:=Zlu I.hok ed
 obtain ⟨ep,da⟩:=dof.dictAt
 have hv:=Paired.length rel
 refine Calls.call_function_entry kind_sorted plain_sorted entry_sorted (args_sorted1 _) ?_
 unfold Builtin.«sorted»
 refine wpAny_bind (m:=checkCount "sorted" 1 1 _) (wpAny_pure ?_)
 refine wpAny_bind (kdu_collect (A:=X.A.in1) (kdl_dict (knd:=Yr X.prog X.w) (kvs:=vs) (ep:=ep) lo) (I.ok.hd hc) da (by rw [sizeLine_eq]; omega) fun h' tk acc hk hacc=>?_)
 have hal:acc.toList.length=vs.length:=by rw [Array.length_toList]; exact hacc.1
 have hkl:kvs.length=ns.length:=by have:=congrArg List.length ek; simpa using this
 refine wpAny_bind (wpAny_newList ?_ (by rw [hal,sizeLine_eq]; omega))
 have hI:IntsAre acc.toList ns:=Zf3 (by omega) fun j v e=>by
  obtain ⟨k,x,e1,e2⟩:=hacc.2 j v (by rw [<- Array.getElem?_toList]; exact e)
  have hj:j < vs.length:=(List.getElem?_eq_some_iff.mp e1).1
  have hr:=L2.Paired.at rel (by omega:j < kvs.length) hj
  have e3:=congrArg (·[j]?) ek
  simp only [List.getElem?_map,List.getElem?_eq_getElem (by omega:j < kvs.length),List.getElem?_eq_getElem (by omega:j < ns.length),Option.map_some,Option.some.injEq] at e3
  rw [List.getElem?_eq_getElem hj] at e1
  have e4:=Option.some.inj e1
  rw [hr.1,e4] at e3
  subst e3
  rcases Yg (show Q9 (Sum.inl ns[j]) v=true from e2) with ⟨i,t,e5,rfl⟩ | ⟨y,t,e5,rfl⟩
  ·cases e5
   exact ⟨_,t,List.getElem?_eq_getElem (by omega:j < ns.length),rfl⟩
  ·cases e5
 have hoL:(h'.push (seqObj "list" acc.toList.toArray 0)).get? h'.objs.size=some (seqObj "list" acc.toList.toArray 0):=Heap.get?_push_size _ rfl
 refine wpAny_bind (wpAny_holding (wpAny_call_entry (s:={ s with heap:=h'.push (seqObj "list" acc.toList.toArray 0),toks:=tk }) slot_list_sort ⟨_,hoL,rfl⟩ entry_list_sort (list_sort_tree hoL hI (by omega) fun out ns' a1 a2 a3=>⟨_,rfl,?_⟩) (args_list_sort _)))
 obtain ⟨e,he⟩:=sortedHeap_at (vs:=acc.toList) (out:=out) hoL
 have I1:Inv X pins σ H { s with heap:=h',toks:=tk }:=I.kept hk
 refine wpAny_pure ⟨_,rfl,.ref h'.objs.size,_,I1.laid (t':=tk) (fun b o eb=>?_) (Nat.le_refl _) (show Y3 X.prog X.w _ _ _ (.lst (ns'.map V.int)) from ⟨?_,out.toList,e,Zcl a1,he⟩),rfl,q _ ns' (I1.hok.fresh (Nat.le_refl _)) a2 a3⟩
 ·have hb:h'.get? b=some o:=eb
  have hlt:=Heap.lt_size hb
  rw [sortedHeap_old (Nat.ne_of_lt hlt) (by rw [size_push']; exact Nat.lt_succ_of_lt hlt)]
  exact Heap.get?_push_of_some _ hb
 ·rw [List.length_map,a2.length_eq,sizeLine_eq]; omega
end
end L2
namespace L2
open PySem PySem.Spec PyProof.Rows
theorem Zh8 {κ:Type} [DecidableEq κ] (kvs:List (κ×V)) (k:κ) (v:V):(putK kvs k v).map (·.1)=if k∈kvs.map (·.1) then kvs.map (·.1) else kvs.map (·.1)++[k]:=by
 unfold putK
 have hiff:(kvs.any fun kv=>decide (kv.1=k))=true↔k∈kvs.map (·.1):=by
  rw [List.any_eq_true,List.mem_map]
  constructor
  ·rintro ⟨x,h1,h2⟩
   exact ⟨x,h1,of_decide_eq_true h2⟩
  ·rintro ⟨x,h1,h2⟩
   exact ⟨x,h1,decide_eq_true h2⟩
 by_cases h:k∈kvs.map (·.1)
 ·rw [if_pos h,if_pos (hiff.mpr h),List.map_map]
  refine List.map_congr_left fun kv _=>?_
  show (if kv.1=k then (kv.1,v) else kv).1=kv.1
  split <;> rfl
 ·rw [if_neg h,if_neg (fun z=>h (hiff.mp z)),List.map_append]
  rfl
theorem Rp:∀ (zs:List Int) (kvs:List (Key×V)) (ns:List Int),kvs.map (·.1)=ns.map Sum.inl->ns.Nodup ->
  ∃ ns':List Int,(Wa kvs (zs.map fun z=>((Sum.inl z:Key),V.bl true))).map (·.1)=ns'.map Sum.inl/\ns'.Nodup/\∀ n,n∈ns'↔n∈ns\/n∈zs
 | [],kvs,ns,e,nd=>⟨ns,e,nd,fun n=>by simp⟩
 | z::r,kvs,ns,e,nd=>by
  have hm:(Sum.inl z:Key)∈kvs.map (·.1)↔z∈ns:=by
   rw [e,List.mem_map]
   constructor
   ·rintro ⟨x,h,h2⟩
    cases h2
    exact h
   ·exact fun h=>⟨z,h,rfl⟩
  have hp:=Zh8 kvs (Sum.inl z) (V.bl true)
  show ∃ ns':List Int,(Wa (putK kvs (Sum.inl z) (V.bl true)) (r.map _)).map (·.1)=_/\_
  by_cases h:z∈ns
  ·rw [if_pos (hm.mpr h),e] at hp
   obtain ⟨ns',a,b,c⟩:=Rp r _ ns hp nd
   refine ⟨ns',a,b,fun n=>?_⟩
   rw [c,List.mem_cons]
   constructor
   ·rintro (q | q)
    ·exact .inl q
    ·exact .inr (.inr q)
   ·rintro (q | rfl | q)
    ·exact .inl q
    ·exact .inl h
    ·exact .inr q
  ·rw [if_neg (fun q=>h (hm.mp q)),e] at hp
   obtain ⟨ns',a,b,c⟩:=Rp r _ (ns++[z]) (by rw [hp,List.map_append]; rfl) (List.nodup_append.mpr ⟨nd,by simp,fun x hx y hy=>by
    rw [List.mem_singleton.mp hy]
    exact fun q=>h (q ▸ hx)⟩)
   refine ⟨ns',a,b,fun n=>?_⟩
   rw [c,List.mem_cons,List.mem_append,List.mem_singleton]
   constructor
   ·rintro ((q | q) | q)
    ·exact .inl q
    ·exact .inr (.inl q)
    ·exact .inr (.inr q)
   ·rintro (q | q | q)
    ·exact .inl (.inl q)
    ·exact .inl (.inr q)
    ·exact .inr q
theorem Zer {ns ns':List Int} {S:List Pr} (nd:ns.Nodup) (h:∀ n,n∈ns↔n∈S.map fun p=>(p.2.length:Int)) (p:ns'.Perm ns) (ri:ns'.Pairwise (·<=·)):Zc0 ns' S:=by
 refine ⟨?_,fun n=>?_⟩
 ·have nd':ns'.Nodup:=p.nodup_iff.mpr nd
  exact (List.pairwise_and_iff.mpr ⟨ri,nd'⟩).imp fun {a b} z=>by
   have:=z.1
   have:=z.2
   omega
 ·rw [p.mem_iff,h,List.mem_map]
def Zeo:Sp:=fun vs H Q _=>∃ (p a:Addr) (m:Int),vs=[.ref p,.int m]/\HandAt H p a/\2<=m/\m<=4 /\
 ∀ (l:Addr) (bs:List Int) (H':Hp),H l=none->l≠p->H' l=some (.lst (bs.map V.int))->bs.Nodup->2<=bs.length->(bs.length:Int)<=m->(∀ b∈bs,0<=b/\b < 256)->HandAt H' p a->Grow p H H'->Q (.ref l) H'
theorem Zao {b s:Int} (hs:1<=s) {n:Nat} (hn:s * n<=255 + s):((List.range n).map fun k:Nat=>(b + s * (k:Int)) % 256).Nodup:=by
 refine List.pairwise_map.mpr ?_
 refine List.pairwise_iff_getElem.mpr fun i j hi hj hij=>?_
 simp only [List.length_range] at hi hj
 simp only [List.getElem_range]
 intro e
 have h2:s * ((j:Int) - (i:Int))=s * (j:Int) - s * (i:Int):=Int.mul_sub _ _ _
 have h3:0 < s * ((j:Int) - (i:Int)):=Int.mul_pos (by omega) (by omega)
 have h4:s * ((j:Int) - (i:Int))<=s * ((n:Int) - 1):=Int.mul_le_mul_of_nonneg_left (by omega) (by omega)
 have h5:s * ((n:Int) - 1)<=255:=by rw [Int.mul_sub,Int.mul_one]; omega
 rw [h2] at h3 h4
 generalize s * (j:Int)=X at *
 generalize s * (i:Int)=Y at *
 omega
def PF (ws:List (List Int)):Prop:=ws.Pairwise fun a b=>¬ a<+:b/\¬ b<+:a
def WOk (ws:List (List Int)):Prop:=PF ws/\∀ w∈ws,w≠[]/\w.length<=4
theorem PF.sub {a b:List (List Int)} (h:PF b) (s:a.Sublist b):PF a:=List.Pairwise.sublist s h
theorem WOk.sub {a b:List (List Int)} (h:WOk b) (s:a.Sublist b):WOk a:=⟨h.1.sub s,fun w hw=>h.2 w (s.subset hw)⟩
theorem Uh {w:List Int} {a b:Int} (h:a≠b):¬ (w++[a])<+:(w++[b]):=fun e=>by
 have:=List.IsPrefix.eq_of_length e (by simp)
 simp at this
 exact h this
theorem Zk1 {bs:List Int} (nd:bs.Nodup):WOk (bs.map fun b=>[b]):=by
 refine ⟨List.pairwise_map.mpr (nd.imp fun z=>⟨Uh (w:=[]) z,Uh (w:=[]) z.symm⟩),fun w hw=>?_⟩
 obtain ⟨b,_,rfl⟩:=List.mem_map.mp hw
 exact ⟨by simp,by simp⟩
theorem Zhv {a c:List (List Int)} {w:List Int} {bs:List Int} (nd:bs.Nodup) (h:WOk (a++w::c)) (hw:w.length < 4):WOk (a++(bs.map fun b=>w++[b])++c):=by
 obtain ⟨h1,h2⟩:=h
 have hk:∀ x,(¬ x<+:w/\¬ w<+:x)->∀ b,¬ x<+:w++[b]/\¬ (w++[b])<+:x:=fun x hx b=>by
  refine ⟨fun z=>?_,fun z=>hx.2 ((List.prefix_append _ _).trans z)⟩
  rcases List.prefix_concat_iff.mp z with e | e
  ·exact hx.2 (e ▸ List.prefix_append _ _)
  ·exact hx.1 e
 unfold PF at h1
 rw [List.pairwise_append] at h1
 obtain ⟨pa,pwc,pac⟩:=h1
 rw [List.pairwise_cons] at pwc
 obtain ⟨pw,pc⟩:=pwc
 refine ⟨?_,fun x hx=>?_⟩
 ·unfold PF
  rw [List.append_assoc,List.pairwise_append]
  refine ⟨pa,?_,fun x hx y hy=>?_⟩
  ·rw [List.pairwise_append]
   refine ⟨List.pairwise_map.mpr (nd.imp fun z=>⟨Uh z,Uh z.symm⟩),pc,fun x hx y hy=>?_⟩
   obtain ⟨b,_,rfl⟩:=List.mem_map.mp hx
   have:=hk y ⟨(pw y hy).2,(pw y hy).1⟩ b
   exact ⟨this.2,this.1⟩
  ·rcases List.mem_append.mp hy with hy | hy
   ·obtain ⟨b,_,rfl⟩:=List.mem_map.mp hy
    exact hk x (pac x hx w List.mem_cons_self) b
   ·exact pac x hx y (List.mem_cons_of_mem _ hy)
 ·rcases List.mem_append.mp hx with hx | hx
  ·rcases List.mem_append.mp hx with hx | hx
   ·exact h2 x (List.mem_append_left _ hx)
   ·obtain ⟨b,_,rfl⟩:=List.mem_map.mp hx
    exact ⟨by simp,by rw [List.length_append,List.length_singleton]; omega⟩
  ·exact h2 x (List.mem_append_right _ (List.mem_cons_of_mem _ hx))
theorem Zd0:∀ (ss:List Int) (ws:List (List Int)),((ss.zip ws).map (·.1)).Sublist ss
 | [],_=>by simp
 | _::_,[]=>by simp
 | a::r,b::t=>by rw [List.zip_cons_cons,List.map_cons]; exact (Zd0 r t).cons₂ a
theorem Zdz:∀ (ss:List Int) (ws:List (List Int)),((ss.zip ws).map (·.2)).Sublist ws
 | [],_=>by simp
 | _::_,[]=>by simp
 | a::r,b::t=>by rw [List.zip_cons_cons,List.map_cons]; exact (Zdz r t).cons₂ b
theorem WOk.free {ws:List (List Int)} (h:WOk ws) {ss:List Int} (nd:ss.Nodup):Free (ss.zip ws):=by
 have h1:((ss.zip ws).map (·.1)).Nodup:=nd.sublist (Zd0 ss ws)
 have h2:PF ((ss.zip ws).map (·.2)):=h.1.sub (Zdz ss ws)
 exact (List.pairwise_map.mp h1).and (List.pairwise_map.mp h2) |>.imp fun z=>⟨z.1,z.2.1,z.2.2⟩
def V7 (H:Hp) (a:Addr) (ws:List (List Int)):Prop:=∃ vs,H a=some (.lst vs)/\Wb H vs ws
theorem V7.same {H H':Hp} {a:Addr} {ws:List (List Int)} (h:V7 H a ws) (s:Same H H'):V7 H' a ws:=by
 obtain ⟨vs,e,p⟩:=h
 exact ⟨vs,s _ _ e,p.tk s.tk⟩
section
variable {K:W.Frag} {H H':Hp} {a:Addr} {xs:List V} {i:Nat} {y:V}
theorem Zf1 (e:H a=some (.lst xs)) (hi:i < xs.length):(Itl K a).go i H:=⟨_,_,SqL.of e,List.getElem?_eq_getElem hi⟩
theorem Pa (e:H a=some (.lst xs)) (hi:xs.length<=i):(Itl K a).stop i H:=⟨_,SqL.of e,hi⟩
theorem Zbb (e:H a=some (.lst xs)) (hi:i < xs.length) (z:(Itl K a).yld i H y H'):H'=H/\y=xs[i]:=by
 refine ⟨z.1,?_⟩
 have:=z.2 _ (SqL.of e)
 rw [List.getElem?_eq_getElem hi] at this
 exact (Option.some.inj this).symm
end
theorem Xc {H:Hp} {p a:Addr} (h:HandAt H p a):∃ xs,H p=some (.lst xs):=let ⟨_,_,_,e,_⟩:=h.ex; ⟨_,e⟩
theorem Wb.take1 {H:Hp} {vs:List V} {ws:List (List Int)} (h:Wb H vs ws) {i:Nat} (hi:i < vs.length):∃ (hj:i < ws.length) (t:Addr),vs[i]=.ref t/\H t=some (.tup (ws[i].map V.int)):=by
 have hj:i < ws.length:=by rw [<- Paired.length h]; exact hi
 obtain ⟨t,e,z⟩:=L2.Paired.at h hi hj
 exact ⟨hj,t,e,z⟩
def Zen:Sp:=fun vs H Q _=>∃ (p a:Addr) (m:Int),vs=[.ref p,.int m]/\HandAt H p a/\0<=m/\m<=100 /\
 ∀ (l:Addr) (ss:List Int) (H':Hp),H l=none->l≠p->H' l=some (.lst (ss.map V.int))->ss.Nodup->(ss.length:Int)=m->HandAt H' p a->Grow p H H'->Q (.ref l) H'
def Zem:Sp:=fun vs H Q _=>∃ (p a wa sa:Addr) (ws:List (List Int)) (ss:List Int),vs=[.ref p,.ref wa,.ref sa]/\HandAt H p a/\V7 H wa ws/\wa≠p/\WOk ws/\ws.length<=28/\H sa=some (.lst (ss.map V.int))/\sa≠p/\ss.Nodup/\ws.length<=ss.length/\ss.length<=100 /\
 ∀ (l:Addr) (L:List Pr) (H':Hp),H l=none->l≠p->U2 H' l L->Free L->Fits L->(L.map (·.2)).Perm ws->HandAt H' p a->Grow p H H'->Q (.ref l) H'
theorem Free.rev {L:List Pr} (h:Free L):Free L.reverse:=List.pairwise_reverse.mpr (h.imp fun z=>⟨z.1.symm,z.2.2,z.2.1⟩)
theorem Zei {b s:Int} (hs:1<=s) (n:Nat):((List.range n).map fun k:Nat=>b + s * (k:Int)).Nodup:=by
 refine List.pairwise_map.mpr (List.pairwise_iff_getElem.mpr fun i j hi hj hij=>?_)
 simp only [List.getElem_range]
 intro e
 have h3:0 < s * ((j:Int) - (i:Int)):=Int.mul_pos (by omega) (by omega)
 rw [Int.mul_sub] at h3
 omega
theorem Qe {ss:List Int} (h:ss.Nodup) (n:Nat):(ss.drop n++ss.take n).Nodup:=by
 have:(ss.take n++ss.drop n).Nodup:=by rw [List.take_append_drop]; exact h
 exact (List.perm_append_comm.nodup_iff).mp this
def Kept (p Pt:Addr) (H H':Hp):Prop:=∀ b o,b≠p->b≠Pt->H b=some o->H' b=some o
theorem Kept.trans {p Pt:Addr} {H H1 H2:Hp} (a:Kept p Pt H H1) (b:Kept p Pt H1 H2):Kept p Pt H H2:=fun c o n m h=>b c o n m (a c o n m h)
theorem Kept.tk {p Pt:Addr} {H H':Hp} (k:Kept p Pt H H') {xs:List V} {ps:Array Value} (e:H p=some (.lst xs)) (eP:H Pt=some (.tbl ps)):TupK H H' :=
 fun b ys h=>k b _ (Wg h e fun z=>by cases z) (Wg h eP fun z=>by cases z) h
theorem Rw.same {C x:Addr} {H H':Hp} {S:List Pr} (h:Rw C H x S) (s:Same H H'):Rw C H' x S:=by
 obtain ⟨dx,tp,d1,d2,d3,d4,ex,⟨⟨vs,a1,a2⟩,⟨k1,b1,b2⟩,⟨k2,c1,c2⟩,⟨k3,f1,f2⟩,⟨k4,g1,g2⟩⟩⟩:=h
 refine ⟨dx,tp,d1,d2,d3,d4,s _ _ ex,⟨vs,s _ _ a1,Prs.tk a2 s.tk⟩,⟨k1,s _ _ b1,fun p hp=>?_,b2.2⟩,⟨k2,s _ _ c1,c2⟩,⟨k3,s _ _ f1,f2⟩,⟨k4,s _ _ g1,g2⟩⟩
 obtain ⟨t,u,v⟩:=b2.1 p hp
 exact ⟨t,u,s _ _ v⟩
theorem Zln {S:List Pr} (h:Free S) {p q:Pr} (hp:p∈S) (hq:q∈S) {l:List Int} (p1:p.2<+:l) (q1:q.2<+:l):p=q:=by
 obtain ⟨i,hi,rfl⟩:=List.getElem_of_mem hp
 obtain ⟨j,hj,rfl⟩:=List.getElem_of_mem hq
 have z:=List.prefix_or_prefix_of_prefix p1 q1
 rcases Nat.lt_trichotomy i j with l | l | l
 ·have a:=h.get hi hj l
  rcases z with z | z
  ·exact absurd z a.2.1
  ·exact absurd z a.2.2
 ·subst l; rfl
 ·have a:=h.get hj hi l
  rcases z with z | z
  ·exact absurd z a.2.2
  ·exact absurd z a.2.1
theorem Zgc {S:List Pr} (h:Free S) {p q:Pr} (hp:p∈S) (hq:q∈S) (e:p.1=q.1):p=q:=by
 obtain ⟨i,hi,rfl⟩:=List.getElem_of_mem hp
 obtain ⟨j,hj,rfl⟩:=List.getElem_of_mem hq
 rcases Nat.lt_trichotomy i j with l | l | l
 ·exact absurd e (h.get hi hj l).1
 ·subst l; rfl
 ·exact absurd e.symm (h.get hj hi l).1
theorem Free.perm {S L:List Pr} (h:Free L) (p:S.Perm L):Free S:=(p.pairwise_iff (fun {a b} z=>⟨z.1.symm,z.2.2,z.2.1⟩)).mpr h
theorem Fits.perm {S L:List Pr} (h:Fits L) (p:S.Perm L):Fits S:=⟨by rw [p.length_eq]; exact h.1,fun x hx=>h.2 x (p.mem_iff.mp hx)⟩
def Wj (T:List Pr):List Int:=(T.map fun q:Pr=>q.2).flatten
def Yc (T:List Pr):List Int:=T.map fun q:Pr=>q.1
theorem Zb9 (p:Pr) (T:List Pr):Wj (p::T)=p.2++Wj T:=rfl
theorem Ze1 (A B:List Pr):Wj (A++B)=Wj A++Wj B:=by unfold Wj; rw [List.map_append,List.flatten_append]
theorem Sl {S:List Pr} (h:Fits S):∀ {T:List Pr},(∀ p∈T,p∈S)->(Wj T).length<=4 * T.length
 | [],_=>by simp [Wj]
 | p::T,m=>by
  have a:=Sl h (T:=T) fun q hq=>m q (List.mem_cons_of_mem _ hq)
  have b:=(h.2 p (m p List.mem_cons_self)).2
  rw [Zb9,List.length_append,List.length_cons]
  omega
def Zi1:Sp:=fun vs H Q _=>∃ (p a sa:Addr) (ss:List Int) (m:Int),vs=[.ref p,.ref sa,.int m]/\HandAt H p a/\H sa=some (.lst (ss.map V.int))/\sa≠p/\0<=m/\m<=200 /\
 ∀ (l:Addr) (ts:List Int) (H':Hp),H l=none->l≠p->H' l=some (.lst (ts.map V.int))->(∀ t∈ts,t∈ss)->(ts.length:Int)<=m->HandAt H' p a->Grow p H H'->Q (.ref l) H'
theorem Qd {L:List Pr}:∀ {ts:List Int},(∀ t∈ts,t∈Yc L)->∃ T:List Pr,Yc T=ts/\∀ p∈T,p∈L
 | [],_=>⟨[],rfl,fun _ h=>nomatch h⟩
 | t::r,h=>by
  obtain ⟨p,hp,e⟩:=List.mem_map.mp (h t List.mem_cons_self)
  obtain ⟨T,e2,h2⟩:=Qd (ts:=r) fun x hx=>h x (List.mem_cons_of_mem _ hx)
  refine ⟨p::T,?_,fun q hq=>?_⟩
  ·show p.1::Yc T=t::r
   rw [e,e2]
  ·rcases List.mem_cons.mp hq with z | z
   ·rw [z]; exact hp
   ·exact h2 q z
theorem Zq0 {c A B:Prop} [Decidable c] (hc:c) (h:A):if decide c=true then A else B:=by
 rw [decide_eq_true hc]
 exact iteT h
theorem Zq1 {c A B:Prop} [Decidable c] (hc:¬ c) (h:B):if decide c=true then A else B:=by
 rw [decide_eq_false hc]
 exact iteF h
theorem Va.keep {Pt:Addr} {pos:Pos} {q:Str} {H H':Hp} (t:Va Pt pos q H) (k:Same H H'):Va Pt pos q H':=t.same k
section
variable {X:Cx} {K:W.Frag}
def Zau (K:W.Frag):List V->Hp->VK->Prop:=fun xs H Q=>∃ p ys,xs=[.ref p]/\(SqL K H p ys\/SqT K H p ys)/\∀ l,H l=none->Q (.ref l) (upd H l (.lst ys))
theorem U0 (h:X.K=K):Vc X (.type "list") (Zau K):=by subst h; exact Zae
def Zjd (K:W.Frag):List V->Hp->VK->Prop:=fun xs H Q=>∃ p ys,xs=[.ref p]/\((SqL K H p ys/\∀ l,H l=none->Q (.ref l) (upd H l (.tup ys)))\/(SqT K H p ys/\Q (.ref p) H))
theorem Zag (h:X.K=K):Vc X (.type "tuple") (Zjd K):=by subst h; exact Vl
def rIsi (K:W.Frag):List V->Hp->VK->Prop:=fun xs H Q=>∃ x T t b,xs=[x,.ty T]/\TyOf K H x t/\W.kitOne K t (.type T)=some b/\Q (.bl b) H
theorem Zpj (h:X.K=K):Vc X (.builtin "isinstance") (rIsi K):=by subst h; exact Zil
end
abbrev En:=Nat×Option Int
inductive Went (S:List Pr) (ns:List Int):List En->Nat->Prop where
 | nil:Went S ns [] 0
 | lost {R:List En} {pl:Nat}:Went S ns R pl->pl < ns.length->(∀ p∈S,¬ p.2<+:ns.drop pl)->Went S ns (R++[(pl,none)]) (pl + 1)
 | word {R:List En} {pl:Nat} {p:Pr}:Went S ns R pl->p∈S->p.2<+:ns.drop pl->p.2≠[]->Went S ns (R++[(pl,some p.1)]) (pl + p.2.length)
theorem Went.perm {S L:List Pr} {ns:List Int} {R:List En} {pl:Nat} (h:Went S ns R pl) (p:S.Perm L):Went L ns R pl:=by
 induction h with
 | nil=>exact .nil
 | lost _ h1 h2 ih=>exact .lost ih h1 fun q hq=>h2 q (p.mem_iff.mpr hq)
 | word _ h1 h2 h3 ih=>exact .word ih (p.mem_iff.mp h1) h2 h3
def oV:Option Int->V
 | some z=>.int z
 | none=>.non
def EntV (H:Hp) (v:V) (e:En):Prop:=∃ t,v=.ref t/\H t=some (.tup [.int (e.1:Nat),oV e.2])
theorem EntV.tk {H H':Hp} {v:V} {e:En} (h:EntV H v e) (s:TupK H H'):EntV H' v e:=by
 obtain ⟨t,a,b⟩:=h
 exact ⟨t,a,s _ _ b⟩
abbrev Ents (H:Hp):List V->List En->Prop:=Paired (EntV H)
theorem Ents.tk {H H':Hp} {vs:List V} {R:List En} (h:Ents H vs R) (s:TupK H H'):Ents H' vs R:=Paired.mapP h fun _ _ z=>z.tk s
def Told (S:List Pr) (ns:List Int) (R:List En):Prop:=∃ pl,Went S ns R pl/\ns.length<=pl
theorem Told.perm {S L:List Pr} {ns:List Int} {R:List En} (h:Told S ns R) (p:S.Perm L):Told L ns R:=by
 obtain ⟨pl,a,b⟩:=h
 exact ⟨pl,a.perm p,b⟩
def Zoe (R:List En):List Int:=(R.filter fun e=>e.2.isNone).map fun e=>((e.1:Nat):Int)
theorem Zlc {k:Key} {v:Value} (h:Q9 k v=true):RelV (kV k) v:=by
 rcases Yg h with ⟨i,t,rfl,rfl⟩ | ⟨x,t,rfl,rfl⟩
 ·exact ⟨t,rfl⟩
 ·exact ⟨t,rfl⟩
theorem Zcm {P:Program} {w:World} {H:Hp} {h:Heap} {d:Addr} {o:Obj} {kvs:List (Key×V)} {es0:Array DictEntry} {ep:Nat} (ok:HOk P w H h) (e:H d=some (.frz o (.dK kvs))) (hep:o.data=.dict es0 ep) :
  kvs.length<=sizeLine/\(d == sysModules)=false/\∃ vs,KV kvs vs/\h.DictAt (Yr P w) d vs ep:=by
 obtain ⟨e1,z,hd,vs,r,ob,es,ep',e2,c,dd,rest⟩:=(show Y3 P w H h d (.frz o (.dK kvs)) from ok d _ e)
 have eo:ob=o:=Option.some.inj (e2.symm.trans e1)
 subst eo
 rw [hep] at dd
 injection dd with d1 d2
 subst d1 d2
 exact ⟨z,hd,vs,r,ob,es0,e1,c,hep,rest⟩
section
variable {M:Model} {A:Around} {Ex:Value->Shared->Prop} {s:Shared}
structure Noted (fs:List Addr) (ea T:Addr) (oe:Obj) (fl:Value) (h h':Heap):Prop where
 keep:∀ b o,b∉fs->b≠ea->h.get? b=some o->h'.get? b=some o
 slot:∀ b o,b≠ea->h.get? b=some o->∃ sl,h'.get? b=some { o with slots:=sl }
 new:h.objs.size<=T
 exc:h'.get? ea=some (oe.mapFields (·.setIfInBounds 1 (.ref T)))
 tb:∃ ob ts,h'.get? T=some ob/\ob.data=.fields ts/\ts[3]?=some fl
 ne:T≠ea
theorem Nu {base:Heap} {l:List Env} {h:Heap} {ea:Addr} {oe:Obj} {vs:Array Value} (ff:h.FunFrames base l) (eo:h.get? ea=some oe) (od:oe.data=.fields vs):ea∉frs l:=fun z=>by
 obtain ⟨_,o,ho,hnf⟩:=ff.mem z
 rw [eo] at ho
 cases ho
 exact hnf vs od
theorem Zb1 {base:Heap} {env:Env} {outer:List Env} {L ea:Addr} {oe:Obj} {vs:Array Value} {head:Value} {flag:Bool} {Q:Unit->Shared->Prop} (fr:A.frames=some (env::outer)) (ff:s.heap.FunFrames base (env::outer)) (ef:env.frame=some L)
  (eo:s.heap.get? ea=some oe) (od:oe.data=.fields vs) (sz:1 < vs.size) (k:∀ h' T,Noted (frs (env::outer)) ea T oe (rawInt L) s.heap h'->Q () { s with heap:=h' }) :
  wpAny M A (do let a <- frameOf env; let pl <- entryPlaceOf L flag; let b <- EntryCells.newEntry head a .none (rawInt L) .none pl; setField (.ref ea) 1 b) Q Ex s:=by
 have nf:ea∉frs (env::outer):=Nu ff eo od
 refine wpAny_bind (wpAny_frameOf_fun fr ff ef fun g1 sl1=>?_)
 refine wpAny_bind (wpAny_entryPlaceOf fun pl hpl=>?_)
 unfold EntryCells.newEntry newFields
 refine wpAny_bind (wpAny_newObj_type ?_ (hpl.sizeOk5 _ _ _ _ _))
 have e1:g1.get? ea=some oe:=(sl1.2.1 ea nf).trans eo
 generalize hO:({ cls:=.type "traceback",dict:=none,data:=.fields ([head,.ref L,.none,rawInt L,.none]++(if pl.isEmpty then List.replicate 6 Value.none else pl)).toArray }:Obj)=tbo
 have e2:(g1.push tbo).get? ea=some oe:=Heap.get?_push_of_some _ e1
 have lt:ea < g1.objs.size:=Heap.lt_size e1
 have nT:g1.objs.size≠ea:=Nat.ne_of_gt lt
 refine wpAny_setField e2 od sz (k _ g1.objs.size ?_)
 have td:tbo.data=.fields ([head,.ref L,.none,rawInt L,.none]++(if pl.isEmpty then List.replicate 6 Value.none else pl)).toArray:=by rw [<- hO]
 have gT:(g1.push tbo).get? g1.objs.size=some tbo:=Heap.get?_push_size g1 (Obj.isFreed_of_fields td)
 have ed:=Obj.data_mapFields od (·.setIfInBounds 1 (Value.ref g1.objs.size))
 refine ⟨fun b o hb hne q=>?_,fun b o hne q=>?_,Nat.le_of_eq sl1.1.symm,Heap.get?_update_self _ e2 (Obj.isFreed_of_fields ed),⟨tbo,_,?_,td,?_⟩,nT⟩
 ·rw [Heap.get?_update_other _ _ (Ne.symm hne)]
  exact Heap.get?_push_of_some _ ((sl1.2.1 b hb).trans q)
 ·obtain ⟨sl,e⟩:=sl1.2.2 b o q
  exact ⟨sl,by rw [Heap.get?_update_other _ _ (Ne.symm hne)]; exact Heap.get?_push_of_some _ e⟩
 ·rw [Heap.get?_update_other _ _ (Ne.symm nT)]
  exact gT
 ·simp
structure Gone (fs:List Addr) (ea:Addr) (T0:Option Addr) (oe:Obj) (vs:Array Value) (h h':Heap):Prop where
 keep:∀ b o,b∉fs->b≠ea->some b≠T0->h.get? b=some o->h'.get? b=some o
 slot:∀ b o,b≠ea->some b≠T0->h.get? b=some o->∃ sl,h'.get? b=some { o with slots:=sl }
 flow:∃ T vs' ob ts,h.objs.size<=T/\h'.get? ea=some { oe with data:=.fields vs' }/\vs'.size=vs.size/\vs'[1]?=some (.ref T)/\h'.get? T=some ob/\ob.data=.fields ts/\ts[3]?=some .none/\T≠ea
theorem mapF {oe:Obj} {vs:Array Value} (od:oe.data=.fields vs) (f:Array Value->Array Value):oe.mapFields f={ oe with data:=.fields (f vs) }:=by
 obtain ⟨c,d,dt,sl⟩:=oe
 cases od
 rfl
theorem Qp {fs:List Addr} {ea T:Addr} {oe:Obj} {vs:Array Value} {L:Addr} {h0:Heap} {Q:Unit->Shared->Prop} (od:oe.data=.fields vs) (sz:1 < vs.size) (nt:Noted fs ea T oe (rawInt L) h0 s.heap)
  (k:∀ h',Gone fs ea none oe vs h0 h'->Q () { s with heap:=h' }):wpAny M A (setFlight (.ref ea) none) Q Ex s:=by
 have ex:=nt.exc
 rw [mapF od] at ex
 obtain ⟨ob,ts,eT,dT,h3⟩:=nt.tb
 have s3:3 < ts.size:=(Array.getElem?_eq_some_iff.mp h3).1
 refine wpAny_setFlight_none ex rfl (by rw [Array.getElem?_setIfInBounds_self,if_pos sz]) eT dT s3 (k _ ?_)
 have dd:=Obj.data_mapFields dT (·.setIfInBounds 3 Value.none)
 have lt0:∀ b o,h0.get? b=some o->T≠b:=fun b o q z=>absurd (Heap.lt_size q) (Nat.not_lt.mpr (by rw [<- z]; exact nt.new))
 refine ⟨fun b o hb hne _ q=>?_,fun b o hne _ q=>?_,T,vs.setIfInBounds 1 (.ref T),_,_,nt.new,?_,?_,?_,Heap.get?_update_self _ eT (Obj.isFreed_of_fields dd),dd,?_,nt.ne⟩
 ·rw [Heap.get?_update_other _ _ (lt0 b o q)]
  exact nt.keep b o hb hne q
 ·obtain ⟨sl,e⟩:=nt.slot b o hne q
  exact ⟨sl,by rw [Heap.get?_update_other _ _ (lt0 b o q)]; exact e⟩
 ·rw [Heap.get?_update_other _ _ nt.ne]
  exact ex
 ·simp
 ·rw [Array.getElem?_setIfInBounds_self,if_pos sz]
 ·rw [Array.getElem?_setIfInBounds_self,if_pos s3]
theorem Za4 {base:Heap} {env:Env} {outer:List Env} {L ea:Addr} {oe:Obj} {vs:Array Value} {Q:Unit->Shared->Prop} (fr:A.frames=some (env::outer)) (ff:s.heap.FunFrames base (env::outer)) (ef:env.frame=some L)
  (eo:s.heap.get? ea=some oe) (od:oe.data=.fields vs) (v1:vs[1]?=some .none) (k:∀ h',Gone (frs (env::outer)) ea none oe vs s.heap h'->Q () { s with heap:=h' }) :
  wpAny M A (noteFrame (.ref ea) env) (fun _ s2=>wpAny M A (setFlight (.ref ea) none) Q Ex s2) Ex s:=by
 have sz:1 < vs.size:=(Array.getElem?_eq_some_iff.mp v1).1
 unfold noteFrame
 simp only [ef]
 refine wpAny_bind (wpAny_field eo od v1 ?_)
 rw [if_neg (by decide)]
 exact Zb1 fr ff ef eo od sz fun h' T nt=>Qp (s:={ s with heap:=h' }) od sz nt fun h2 g=>k h2 g
theorem Qj {base:Heap} {env:Env} {outer:List Env} {L ea T0:Addr} {oe oT:Obj} {vs ts:Array Value} {Q:Unit->Shared->Prop} (fr:A.frames=some (env::outer)) (ff:s.heap.FunFrames base (env::outer)) (ef:env.frame=some L)
  (eo:s.heap.get? ea=some oe) (od:oe.data=.fields vs) (v1:vs[1]?=some (.ref T0)) (eT:s.heap.get? T0=some oT) (dT:oT.data=.fields ts) (t3:ts[3]?=some .none) (ne:T0≠ea)
  (k:∀ h',Gone (frs (env::outer)) ea (some T0) oe vs s.heap h'->Q () { s with heap:=h' }) :
  wpAny M A (noteFrame (.ref ea) env) (fun _ s2=>wpAny M A (setFlight (.ref ea) none) Q Ex s2) Ex s:=by
 have sz:1 < vs.size:=(Array.getElem?_eq_some_iff.mp v1).1
 unfold noteFrame
 simp only [ef]
 refine wpAny_bind (wpAny_field eo od v1 ?_)
 rw [if_pos (show (Value.ref T0 != Value.none)=true by simp)]
 refine wpAny_bind (wpAny_field eT dT t3 ?_)
 rw [if_neg (show ¬ ((Value.none == rawInt L)=true) by simp [rawInt])]
 refine wpAny_bind (wpAny_setField eT dT (Array.getElem?_eq_some_iff.mp t3).1 ?_)
 have oth:∀ b,b≠T0->(s.heap.update T0 (Obj.mapFields (·.setIfInBounds 3 Value.none))).get? b=s.heap.get? b:=fun b hb=>Heap.get?_update_other _ _ (Ne.symm hb)
 have nfT:T0∉frs (env::outer):=Nu ff eT dT
 have ff2:(s.heap.update T0 (Obj.mapFields (·.setIfInBounds 3 Value.none))).FunFrames base (env::outer):=ff.of_keeps fun b o hb hnf=>⟨o,(oth b fun z=>by
  rw [z,eT] at hb
  cases hb
  exact hnf ts dT).trans hb,rfl⟩
 refine Zb1 (s:={ s with heap:=s.heap.update T0 (Obj.mapFields (·.setIfInBounds 3 Value.none)) }) fr ff2 ef ((oth ea (Ne.symm ne)).trans eo) od sz fun h' T nt=>Qp (s:={ s with heap:=h' }) od sz nt fun h2 g=>k h2 ?_
 have szU:(s.heap.update T0 (Obj.mapFields (·.setIfInBounds 3 Value.none))).objs.size=s.heap.objs.size:=Heap.size_after_update ..
 obtain ⟨T1,vs1,ob1,ts1,z1,zr⟩:=g.flow
 exact ⟨fun b o hb hne hT q=>g.keep b o hb hne (by simp) ((oth b fun z=>hT (by rw [z])).trans q),fun b o hne hT q=>g.slot b o hne (by simp) ((oth b fun z=>hT (by rw [z])).trans q),T1,vs1,ob1,ts1,by rw [<- szU]; exact z1,zr⟩
theorem Qn {env:Env} {e:Value} {Q:Unit->Shared->Prop} (h:wpAny M A (noteFrame e env) (fun _ s2=>wpAny M A (setFlight e none) Q Ex s2) Ex s):wpAny M A (leaving env e) Q Ex s:=by
 unfold leaving
 exact wpAny_bind h
end
def excP (ea C:Addr) (d:Option Addr) (h:Heap):Prop:=∃ oe vs,h.get? ea=some oe/\oe.cls=.ref C/\oe.dict=d/\oe.data=.fields vs/\vs.size=6
theorem excP.ok {P:Program} {w:World} {H:Hp} {h:Heap} {ea C:Addr} {d:Option Addr} (x:excP ea C d h):Y3 P w H h ea (.ext (excP ea C d)):=by
 obtain ⟨oe,vs,e,r⟩:=id x
 exact ⟨x,⟨oe,e⟩,fun h1 h2 ⟨o1,v1,e1,r1⟩ k=>⟨o1,v1,k _ e1,r1⟩⟩
def Zdy (ea T:Addr) (h:Heap):Prop:=∃ oe vs oT ts,h.get? ea=some oe/\oe.data=.fields vs/\vs[1]?=some (.ref T)/\h.get? T=some oT/\oT.data=.fields ts/\ts[3]?=some .none/\T≠ea
def CXE (P:Program) (w:World):CXT:=fun outer H s E e s'=>∃ (ea C T:Addr) (d:Option Addr) (H':Hp),e=.ref ea/\s'.os=s.os/\AllBare s'.gens/\Un (frs outer) [] H H' s.heap s'.heap/\HOk P w H' s'.heap /\
 H' ea=some (.ext (excP ea C d))/\s.heap.objs.size<=ea/\H' T=none/\s.heap.objs.size<=T/\Zdy ea T s'.heap/\E (.ref C) d H'
section
variable {X:Cx} {pins:List (Addr×Obj)} {σ:St} {H:Hp} {s:Shared}
theorem Inv.gone {ea C:Addr} {d:Option Addr} {T0:Option Addr} {oe:Obj} {vs:Array Value} {h':Heap} (I:Inv X pins σ H s) (hx:X.ex=[]) (hst:∀ b∈frs X.stack,b∈X.fs\/X.s₀.heap.objs.size<=b) (hea:H ea=some (.ext (excP ea C d))) (eo:s.heap.get? ea=some oe) (od:oe.data=.fields vs)
  (hT:∀ T,T0=some T->H T=none/\X.s₀.heap.objs.size<=T) (g:Gone (frs X.stack) ea T0 oe vs s.heap h'):Un X.fs [] X.H₀ H X.s₀.heap h'/\HOk X.prog X.w H h':=by
 have u:=I.base
 rw [hx] at u
 have ub:∀ b o,X.s₀.heap.get? b=some o->some b≠T0:=fun b o q z=>by
  have:=(hT b z.symm).2
  exact absurd (Heap.lt_size q) (Nat.not_lt.mpr this)
 refine ⟨⟨fun b o q n hb _=>?_,fun b o q n hb _=>?_,fun b o q n _=>u.free b o q n (by simp),fun b o q _=>?_,u.tups,u.frzs,u.tbls⟩,fun b o q=>?_⟩
 ·have n2:=u.free b o q n (by simp)
  have ne:b≠ea:=fun z=>by rw [z,hea] at n2; cases n2
  refine g.keep b o (fun z=>?_) ne (ub b o q) (u.keep b o q n hb (by simp))
  rcases hst b z with z | z
  ·exact hb z
  ·exact absurd (Heap.lt_size q) (Nat.not_lt.mpr z)
 ·have n2:=u.free b o q n (by simp)
  have ne:b≠ea:=fun z=>by rw [z,hea] at n2; cases n2
  obtain ⟨sl,e⟩:=u.slot b o q n hb (by simp)
  obtain ⟨sl2,e2⟩:=g.slot b _ ne (ub b o q) e
  exact ⟨sl2,e2⟩
 ·obtain ⟨o',e⟩:=u.there b o q (by simp)
  by_cases ne:b=ea
  ·subst ne
   obtain ⟨_,_,_,_,_,e3,_⟩:=g.flow
   exact ⟨_,e3⟩
  ·obtain ⟨sl,e2⟩:=g.slot b o' ne (ub b o q) e
   exact ⟨_,e2⟩
 ·have nfr:∀ c y,H c=some y->c∉frs X.stack:=fun c y r z=>by rw [I.stkFree c z] at r; cases r
  have nT:∀ c y,H c=some y->some c≠T0:=fun c y r z=>by rw [(hT c z.symm).1] at r; cases r
  by_cases ne:b=ea
  ·subst ne
   rw [hea] at q
   cases q
   obtain ⟨⟨o1,v1,a1,a2,a3,a4,a5⟩,_,_⟩:=I.hok b _ hea
   obtain ⟨T,vs',ob,ts,_,e3,e4,_⟩:=g.flow
   rw [eo] at a1
   cases a1
   rw [od] at a4
   cases a4
   exact excP.ok ⟨_,vs',e3,a2,a3,rfl,by rw [e4]; exact a5⟩
  ·refine (I.hok b o q).stay (fun c v hc r=>?_) (fun _ z=>z) fun _ _ z=>z
   rcases hc with hc | hc
   ·rw [hc] at r ⊢
    exact g.keep b v (nfr b o q) ne (nT b o q) r
   ·have ne2:c≠ea:=fun z=>by rw [z,hea] at hc; cases hc
    exact g.keep c v (nfr c _ hc) ne2 (nT c _ hc) r
end
section
variable {P:Program} {w:World} {K:W.Frag} {mg:Str->Option Value} {base:Heap} {N:List Str} {qual:Str} {scope:Scope} {f:Addr} {cd:Value} {A:Around} {outer:List Env} {s:Shared} {H:Hp} {E:XK}
abbrev cxE (P:Program) (w:World) (K:W.Frag) (mg:Str->Option Value) (base:Heap) (N:List Str) (qual:Str) (scope:Scope) (f:Addr) (cd:Value) (A:Around) (outer:List Env) (s:Shared) (H:Hp) (E:XK):Cx:=cxOf (CXE P w) P w K mg base N qual scope f cd A outer s H E
theorem Zgr:∀ b∈frs (cxE P w K mg base N qual scope f cd A outer s H E).stack,b∈(cxE P w K mg base N qual scope f cd A outer s H E).fs\/(cxE P w K mg base N qual scope f cd A outer s H E).s₀.heap.objs.size<=b:=fun b hb=>by
 rcases List.mem_cons.mp (show b∈s.heap.objs.size::frs outer from hb) with z | z
 ·exact .inr (Nat.le_of_eq z.symm)
 ·exact .inl z
def Lies (ea:Addr) (T0:Option Addr) (h:Heap):Prop:=match T0 with
 | none=>∃ oe vs,h.get? ea=some oe/\oe.data=.fields vs/\vs[1]?=some .none
 | some T=>Zdy ea T h
theorem Zmm {pins:List (Addr×Obj)} {σ:St} {H2:Hp} {s2:Shared} {ea C:Addr} {d T0:Option Addr} (I:Inv (cxE P w K mg base N qual scope f cd A outer s H E) pins σ H2 s2) (hea:H2 ea=some (.ext (excP ea C d))) (lea:s.heap.objs.size<=ea)
  (hT:∀ T,T0=some T->H2 T=none/\s.heap.objs.size<=T) (fl:Lies ea T0 s2.heap) (q:E (.ref C) d H2):(cxE P w K mg base N qual scope f cd A outer s H E).xe (.ref ea) s2:=by
 have fin:∀ (oe:Obj) (vs:Array Value) (h':Heap),s2.heap.get? ea=some oe->oe.data=.fields vs->Gone (frs (cxE P w K mg base N qual scope f cd A outer s H E).stack) ea T0 oe vs s2.heap h'->CXE P w outer H s E (.ref ea) { s2 with heap:=h' }:=fun oe vs h' eo od g=>by
  obtain ⟨un,hok⟩:=I.gone rfl Zgr hea eo od hT g
  obtain ⟨T,vs',ob,ts,z1,z2,z3,z4,z5,z6,z7,z8⟩:=g.flow
  exact ⟨ea,C,T,d,H2,rfl,I.os,I.bare,un,hok,hea,lea,I.hok.fresh z1,Nat.le_trans I.sz z1,⟨_,vs',ob,ts,z2,rfl,z4,z5,z6,z7,z8⟩,q⟩
 show wpAny (model P w) _ (leaving _ _) _ _ _
 cases T0 with
 | none =>
  obtain ⟨oe,vs,eo,od,v1⟩:=fl
  exact Qn (Za4 (base:=base) I.ok.frames I.stack rfl eo od v1 fun h' g=>fin oe vs h' eo od g)
 | some T =>
  obtain ⟨oe,vs,oT,ts,eo,od,v1,eT,dT,t3,ne⟩:=fl
  exact Qn (Qj (base:=base) I.ok.frames I.stack rfl eo od v1 eT dT t3 ne fun h' g=>fin oe vs h' eo od g)
theorem Zfi:Ur (CXE P w) (cxE P w K mg base N qual scope f cd A outer s H E) E:=by
 intro pins σ H1 s1 e s2 I hx
 obtain ⟨ea,C,T,d,H2,rfl,os,bare,un,hok,hea,lea,nT,lT,fl,q⟩:=hx
 have I2:Inv (cxE P w K mg base N qual scope f cd A outer s H E) pins σ H2 s2:=I.call' os un hok bare (ch:=[]) fun b z=>absurd z (by simp)
 exact Zmm (T0:=some T) I2 hea (Nat.le_trans I.sz lea) (fun T' z=>by cases z; exact ⟨nT,Nat.le_trans I.sz lT⟩) fl q
end
def CalE (P:Program) (w:World) (K:W.Frag) (mg:Str->Option Value) (base:Heap) (x:Str) (k:Nat) (ps:List Str) (sp:Sp):Prop :=
 ∃ f fd,FnOk P w K mg base (CXE P w) k f fd ps sp/\mg x=some (.ref f)/\W.keepIn K (.ref f)=true/\Vn K fd ps []
section
variable {X:Cx} {E:XK} {k:Nat} {ps:List Str} {sp:Sp} {x:Str} {p pos:Pos} {e:Expr} {es:List Expr} {t:TA}
theorem Zkx (C:CalE X.prog X.w X.K X.mg X.base x k ps sp) (hr:Room k X.A) (hg:Gl X x) (hx:Ur (CXE X.prog X.w) X E) (ha:PA X (e::es) t) (hdb:(x == ("__debug__":Str))=false:=by decide)
  (he:starEach (e::es) X.env=(false,eval e X.env)::starEach es X.env:=by rfl) (hpl:(backTo pos (starEach es X.env)).any (·.1)=false:=by rfl):PE X (.Call (.Name x p) (e::es) [] pos) (Zeh sp [] E t):=by
 obtain ⟨f,fd,F,hm,hk,hb⟩:=C
 exact Zfg F hr hg hm hk hb .nil hx ha hdb he hpl
end
section
variable {P:Program} {w:World} {K:W.Frag} {mg:Str->Option Value} {base:Heap}
theorem Fun.okE {x qual:Str} {st:Stmt} {f:Addr} {fd:FuncData} {N ps:List Str} {k:Nat} {sp:Sp} (F:Fun K x qual st f fd) (S:FnScope N ps (Zi st)) (len:∀ vs H Q E,sp vs H Q E->vs.length=ps.length)
  (hbody:∀ (cdv:Value) (A:Around) (outer:List Env) (s:Shared) (H:Hp) (vs:List V) (Q:VK) (E:XK),Room k (A.deeper (envOfC qual (Zi st) s.heap.objs.size f cdv))->sp vs H Q E ->
   ∃ t,PSs (cxE P w K mg base N qual (Zi st) f cdv A outer s H E) (Zu st) t/\t { nx:=fun _ H'=>Q .non H',rt:=Q } (Ut N vs) H):FnOk P w K mg base (CXE P w) (k + 1) f fd ps sp:=by
 obtain ⟨oc,od,kV,doc,pm,an,cdv,ct,osl,rfl,lk,hcd⟩:=F.ex
 exact Zlo lk hcd S len fun A outer s H vs Q E hr hsp=>hbody cdv A outer s H vs Q E hr hsp
theorem FnOk.calm {k:Nat} {f:Addr} {fd:FuncData} {ps:List Str} {sp sp':Sp} (F:FnOk P w K mg base (CXE P w) k f fd ps sp) (h:∀ vs H Q E,sp' vs H Q E->sp vs H Q E0):FnOk P w K mg base CX0 k f fd ps sp':=by
 refine ⟨fun vs H Q E q=>F.len vs H Q E0 (h _ _ _ _ q),fun A outer s H args us vs Q E hr he hb hv hs=>?_⟩
 refine codeAny_mono (F.run A outer s H args us vs Q E0 hr he hb hv (h _ _ _ _ hs)) fun r s' hq=>?_
 cases r with
 | ok fl=>cases fl <;> exact hq
 | error e =>
  obtain ⟨_,_,_,_,_,_,_,_,_,_,_,_,_,_,_,z⟩:=hq
  exact z.elim
end
end L2
namespace L2
open PySem PySem.Spec PyProof.Rows PySem.W
abbrev veB:List Value:=[.type "ValueError",.type "Exception",.type "BaseException",.type "object"]
def excI (K:Frag) (C fI:Addr):Bool:=match K.lookup C with
 | some ⟨.type "type",_,.cls cd,sl⟩=>(match cd.mro,sl.toList with
  | .ref C'::bm,[_,_,_,_,some (.builtin n),_]=>C' == C && (n == "ValueError.__new__" && (!cd.hasDel && (tailIn K veB bm && (nsOkIn K cd.ns && (nsIn K cd.ns "__init__" == some (some (.ref fI)) && cd.hasDict)))))
  | _,_=>false)
 | _=>false
def ExcI (h:Heap) (C fI:Addr):Prop:=∃ bm N nm q bs sn sub ab col dd k0 k1 k2 k3 k5 mN,h.get? C=some (excClassObj nm q C N bs bm true sn sub ab col dd k0 k1 k2 k3 k5 "ValueError.__new__")/\h.Ns N mN/\mN "__init__"=some (.ref fI)/\OwnTail h veB bm
theorem Zdk {K:Frag} {h:Heap} {N:Addr} {mg:Str->Option Value} {n:Str} {v:Value} (X:K.In h) (G:h.Ns N mg) (e:nsIn K N n=some (some v)):mg n=some v:=by
 obtain ⟨o,es,ep,ho,hd,_,hf⟩:=G
 unfold nsIn at e
 split at e
 ·rename_i c d es' n' sl q
  have z:=X _ _ q
  rw [ho] at z
  cases z
  cases hd
  split at e
  ·rename_i y he
   injection e with e
   rw [<- hf]
   unfold nsFind findBy
   rw [<- Array.find?_toList,he]
   exact e
  ·rename_i he
   split at e <;> cases e
 ·cases e
theorem Rr {K:Frag} {h:Heap} {C fI:Addr} (X:K.In h) (q:excI K C fI=true):ExcI h C fI:=by
 unfold excI at q
 split at q
 ·rename_i dd cd sl ho
  split at q
  ·rename_i C' bm k0 k1 k2 k3 n k5 hm hs
   simp only [Bool.and_eq_true,beq_iff_eq,Bool.not_eq_true'] at q
   obtain ⟨rfl,rfl,hdel,ht,hok,hni,hdi⟩:=q
   obtain ⟨nm,bs,mro,ns,qn,hd,sn,sub,ab,col,del⟩:=cd
   dsimp only at hm hdel hok hni hdi
   subst hm hdel hdi
   have hsl:sl=#[k0,k1,k2,k3,some (.builtin "ValueError.__new__"),k5]:=by
    obtain ⟨l⟩:=sl
    simp only at hs
    rw [hs]
   subst hsl
   exact ⟨bm,ns,nm,qn,bs,sn,sub,ab,col,dd,k0,k1,k2,k3,k5,_,X _ _ ho,.of_isNs (isNs_of_in X hok),Zdk X (.of_isNs (isNs_of_in X hok)) hni,tail_of_in X ht⟩
  ·cases q
 ·cases q
section
variable {prog:Program} {w:World} {A:Around} {E:Value->Shared->Prop} {h:Heap} {g:Array GenState} {d:Drawn} {t:Nat} {os:OsState}
theorem Zec {C fI:Addr} {oI:Obj} {rest:List Value} {Q:PySem.Fin->Shared->Prop} (x:ExcI h C fI) (fo:h.get? fI=some oI) (fc:oI.cls=.type "function") (sz:rest.length<=sizeLine)
  (k:∀ h',Heap.MadeExcOf h h' (h.objs.size + 1) (.ref C) rest->wpAny (model prog w) A (call (.ref fI) (.ref (h.objs.size + 1)::rest)) (fun r s'=>r=.none/\Q (.done (.ret (.ref (h.objs.size + 1)))) s') E ⟨h',g,d,t,os⟩) :
  wpAny (model prog w) A (Builtin.«type.__call__» ⟨.ref C::rest,[]⟩) Q E ⟨h,g,d,t,os⟩:=by
 obtain ⟨bm,N,nm,q,bs,sn,sub,ab,col,dd,k0,k1,k2,k3,k5,mN,cO,cN,cI,T⟩:=x
 have F:=PySem.F.excBase_ValueError
 repeat (first | wp_step | with_reducible refine wpAny_loadPart_at cO ?_ | with_reducible refine wpAny_madeBy_exc cO ?_)
 refine codeAny_call_builtin_code (Code.quiet_builtin _ F.quiet) (wpAny_check_new_subT F T cO ?_)
 refine codeAny_exc_new_subT F T cO ?_ sz
 show wpAny _ _ _ _ _ _
 generalize hO1:({ cls:=.type "tuple",data:=.seq rest.toArray }:Obj)=o1
 generalize hO2:({ cls:=.ref C,data:=.fields #[.ref h.objs.size,.none,.none,.none,.bool false,.none] }:Obj)=o2
 have kp:∀ b o,h.get? b=some o->((h.push o1).push o2).get? b=some o:=fun b o e=>Heap.get?_push_of_some _ (Heap.get?_push_of_some _ e)
 have f1:o1.isFreed=false:=by rw [<- hO1]; rfl
 have f2:o2.isFreed=false:=by rw [<- hO2]; rfl
 have at2:((h.push o1).push o2).get? (h.objs.size + 1)=some o2:=by
  have:=Heap.get?_push_size (h.push o1) f2
  rwa [Heap.size_push] at this
 have c2:o2.cls=.ref C:=by rw [<- hO2]
 have self:(Value.ref C::bm).contains (.ref C)=true:=by simp
 have cO1:=kp _ _ cO
 have cN1:=cN.keeps kp
 have T1:=T.keeps kp
 unfold isInstance
 repeat (first | (with_reducible refine wpAny_loadPart_at at2 ?_; rw [c2]) | (with_reducible refine wpAny_isSubtype_exc cO1 ?_; rw [self]) | wp_step)
 show wpAny _ _ (typeLookup (.ref C) _) _ _ _
 refine wpAny_typeLookup_tail cO1 cN1 T1 F.mroIs F.init.lookup ?_
 rw [cI]
 refine wpAny_holding (wpAny_bind ?_)
 unfold bindSpecial
 refine wpAny_bind (wpAny_typeOf (T:="function") ⟨_,kp _ _ fo,fc⟩ ?_)
 rw [if_pos (by decide)]
 have made:Heap.MadeExcOf h ((h.push o1).push o2) (h.objs.size + 1) (.ref C) rest:=⟨kp,Heap.get?_none_of_le (Nat.le_succ _),h.objs.size,by rw [at2,<- hO2],Heap.get?_none_of_le (Nat.le_refl _),by rw [hO1]; exact Heap.get?_push_of_some _ (Heap.get?_push_size h f1)⟩
 refine wpAny_pure (wpAny_bind (wpAny_mono (k _ made) (fun r s' hr=>?_) fun _ _ z=>z))
 obtain ⟨rfl,hQ⟩:=hr
 wp_walk
 exact hQ
theorem Zim {C fI:Addr} {oI:Obj} {rest:List Value} {Q:Value->Shared->Prop} (x:ExcI h C fI) (fo:h.get? fI=some oI) (fc:oI.cls=.type "function") (sz:rest.length<=sizeLine)
  (k:∀ h',Heap.MadeExcOf h h' (h.objs.size + 1) (.ref C) rest->wpAny (model prog w) (A.under (.builtin "type.__call__" ⟨.ref C::rest,[]⟩)) (call (.ref fI) (.ref (h.objs.size + 1)::rest)) (fun r s'=>r=.none/\Q (.ref (h.objs.size + 1)) s') E ⟨h',g,d,t,os⟩) :
  wpAny (model prog w) A (call (.ref C) rest) Q E ⟨h,g,d,t,os⟩:=by
 obtain ⟨bm,N,nm,q,bs,sn,sub,ab,col,dd,k0,k1,k2,k3,k5,mN,cO,cN,cI,T⟩:=id x
 have z1:=tc_lookup
 have z2:=tc_bind (.ref C)
 have ty:(⟨h,g,d,t,os⟩:Shared).TypeIs (.ref C) "type":=⟨_,cO,rfl⟩
 refine wpAny_call (codeAny_of_tree ?_)
 show wpAny _ _ (callAny (.ref C) _) _ _ _
 repeat (any_goals (first | assumption | wp_step | with_reducible refine wpAny_loadPart_at cO ?_))
 refine ⟨rfl,?_⟩
 exact codeAny_call_builtin_at (Code.quiet_builtin _ (by decide +kernel)) entry_typeCall (wpAny_check_type_call_sub cO (Zec x fo fc sz k))
end
end L2
namespace L2
open PySem PySem.Spec PyProof.Rows PySem.W PySem.Builtin PySem.Builtin.ObjectAttr
theorem Ze2 (self:Value):refuseLoop self "__setattr__" veB=pure ():=by kernel_rfl
theorem Zat {h:Heap} (self:Value) {bm:List Value} (T:OwnTail h veB bm):refuseLoop self "__setattr__" bm=pure ():=by
 induction T with
 | base=>exact Ze2 self
 | own _ _ _ _ ih=>rw [refuseLoop_ref]; exact ih
section
variable {prog:Program} {w:World} {A:Around} {E:Value->Shared->Prop} {s:Shared} {K:Frag} {C fI a:Addr}
theorem Zfj {ox:Obj} {od:Option Obj} {name:Str} {tk:Tok} {v:Value} {R:Result->Shared->Prop} (X:K.In s.heap) (q:excI K C fI=true) (I:InstAt s.heap a ox C od) (ho:mroIn K C (.type "object")=some true) (ht:findIn K (.ref C) name=some none)
  (k:wpAny (model prog w) A.in1 (storeInOwnDict (.ref a) (.ref C) (.str name tk) name v false) (fun fin s'=>match fin with | .done f=>R (.ok f) s' | .again c'=>c'.quiet=true/\codeAny (model prog w) A c' R s') (fun e s'=>R (.error e) s') s) :
  codeAny (model prog w) A (.call (.builtin "object.__setattr__") ⟨[.ref a,.str name tk,v],[]⟩) R s:=by
 have SF:=PySem.F.store_object
 have sub:Looks (model prog w) s.heap (isInstance (.ref a) (.type "object")) true:=I.type.andThen (looks_mroIn X ho)
 refine codeAny_call_builtin SF.slot.plain SF.entry (@check_slot (model prog w) _ _ s "object.__setattr__" "object" "__setattr__" (.ref a) [.str name tk,v] [] _ SF.kind SF.split sub (SF.args (.ref a) (.str name tk) v) ?_)
 obtain ⟨bm,N,nm,qn,bs,sn,sub',ab,col,dd,k0,k1,k2,k3,k5,mN,cO,cN,cI,T⟩:=Rr X q
 rw [osa_eq,refuse_eq]
 refine wpAny_bind (wpAny_bind (I.type.here (wpAny_bind ?_)))
 obtain ⟨hh,g,d,t,os⟩:=s
 refine wpAny_mroOf_exc cO ?_
 rw [refuseLoop_ref,Zat _ T]
 refine wpAny_pure (wpAny_bind (I.type.here (wpAny_bind ((looks_findIn X ht).here (wpAny_bind ?_)))))
 show wpAny _ _ (pure none) _ _ _
 refine wpAny_pure ?_
 exact k
theorem Zhj {ox:Obj} {vs:Array Value} {name:Str} {v:Value} {Q:Unit->Shared->Prop} (X:K.In s.heap) (q:excI K C fI=true) (ho:mroIn K C (.type "object")=some true) (ht:findIn K (.ref C) name=some none)
  (hs:findIn K (.ref C) "__setattr__"=some (some (.builtin "object.__setattr__"))) (ao:s.heap.get? a=some ox) (cl:ox.cls=.ref C) (dn:ox.dict=none) (od:ox.data=.fields vs)
  (k:∀ h',h'.Ns1 s.heap.objs.size (fun y=>if y=name then some v else none)->h'.get? a=some { ox with dict:=some s.heap.objs.size }->(∀ b o,b≠a->s.heap.get? b=some o->h'.get? b=some o)->Q () { s with heap:=h',toks:=s.toks + 2 }) :
  wpAny (model prog w) A (setAttr (.ref a) name v) Q E s:=by
 have I:InstAt s.heap a ox C none:=⟨ao,cl,by obtain ⟨c,dd,dt,sl⟩:=ox; cases od; rfl,by rw [dn]; trivial⟩
 refine W.set_plain X I hs (Zfj (s:={ s with toks:=s.toks + 1 }) X q I ho ht ?_)
 obtain ⟨bm,N,nm,qn,bs,sn,sub',ab,col,dd,k0,k1,k2,k3,k5,mN,cO,cN,cI,T⟩:=Rr X q
 obtain ⟨c,di,dt,sl⟩:=ox
 dsimp only at cl dn od
 subst cl dn od
 refine wpAny_bind (wpAny_pure (wpAny_bind (wpAny_bind (wpAny_loadPart ao (wpAny_bind ?_)))))
 unfold classData
 refine wpAny_bind (wpAny_load cO (wpAny_pure ?_))
 show wpAny _ _ (alloc { cls:=.type "dict",data:=.dict #[] } >>= fun d=>update a (fun o=>{ o with dict:=some d }) >>= fun _=>dictMade (.ref C) a d) _ _ _
 refine wpAny_bind (wpAny_alloc ?_)
 have ao2:(s.heap.push { cls:=.type "dict",data:=.dict #[] }).get? a=some _:=Heap.get?_push_of_some _ ao
 refine wpAny_bind (wpAny_update ao2 ?_)
 refine wpAny_pure ?_
 refine wpAny_bind (wpAny_pure (wpAny_bind ?_))
 have fz:(s.heap.push { cls:=.type "dict",data:=.dict #[] }).objs.size=s.heap.objs.size + 1:=Heap.size_push ..
 have ne:a≠s.heap.objs.size:=Nat.ne_of_lt (Heap.lt_size ao)
 generalize hU:(s.heap.push { cls:=.type "dict",data:=.dict #[] }).update a (fun o=>{ o with dict:=some s.heap.objs.size })=hp
 have aU:hp.get? a=some { cls:=.ref C,dict:=some s.heap.objs.size,data:=.fields vs,slots:=sl }:=by
  rw [<- hU]
  exact Heap.get?_update_self _ ao2 rfl
 have oU:∀ b o,b≠a->(s.heap.push { cls:=.type "dict",data:=.dict #[] }).get? b=some o->hp.get? b=some o:=fun b o hb e=>by
  rw [<- hU,Heap.get?_update_other _ _ (Ne.symm hb)]
  exact e
 have dU:hp.get? s.heap.objs.size=some { cls:=.type "dict",data:=.dict #[] }:=oU _ _ (Ne.symm ne) (Heap.get?_push_size s.heap rfl)
 have hn0:hp.Ns1 s.heap.objs.size (fun _=>none):=⟨_,#[],_,dU,rfl,(fun e he=>absurd he (by simp)),by first | trivial | exact List.Pairwise.nil | (intro x; simp),fun _=>rfl⟩
 have w0:PySem.Within (fun _:Str=>(none:Option Value)) []:=fun n hn=>absurd rfl hn
 refine wpAny_nsSet1 (s:={ s with heap:=hp,toks:=s.toks + 1 }) hn0 fun h' hn2 hs2=>?_
 obtain ⟨oD,esD,epD,hoD,hdD,hcD⟩:=hn2.count (PySem.Within.cons name v w0)
 refine wpAny_bind (wpAny_lookBehind hoD (by rw [hdD]; exact pastItsLine_dict (Nat.le_trans hcD (by show 1<=sizeLine + 1; omega))) ?_)
 exact wpAny_pure (k h' hn2 ((hs2.2 _ ne).trans aU) fun b o hb e=>(hs2.2 b (fun z=>by
  rw [z] at e
  exact absurd (Heap.lt_size e) (Nat.lt_irrefl _))).trans (oU b o hb (Heap.get?_push_of_some _ e)))
theorem Zhi {ox:Obj} {vs:Array Value} {name:Str} {v:Value} {dx:Addr} {mA:Str->Option Value} {ns:List Str} {Q:Unit->Shared->Prop} (X:K.In s.heap) (q:excI K C fI=true) (ho:mroIn K C (.type "object")=some true) (ht:findIn K (.ref C) name=some none)
  (hs:findIn K (.ref C) "__setattr__"=some (some (.builtin "object.__setattr__"))) (ao:s.heap.get? a=some ox) (cl:ox.cls=.ref C) (dn:ox.dict=some dx) (od:ox.data=.fields vs) (hn:s.heap.Ns1 dx mA) (ne:dx≠a) (hw:PySem.Within mA ns) (sz:ns.length<=1000)
  (k:∀ h',h'.Ns1 dx (fun y=>if y=name then some v else mA y)->Heap.SameBut dx s.heap h'->Q () { s with heap:=h',toks:=s.toks + 2 }) :
  wpAny (model prog w) A (setAttr (.ref a) name v) Q E s:=by
 obtain ⟨odx,_,_,edx,_⟩:=id hn
 have I:InstAt s.heap a ox C (some odx):=⟨ao,cl,by obtain ⟨c,dd,dt,sl⟩:=ox; cases od; rfl,by rw [dn]; exact edx⟩
 refine W.set_plain X I hs (Zfj (s:={ s with toks:=s.toks + 1 }) X q I ho ht ?_)
 obtain ⟨bm,N,nm,qn,bs,sn,sub',ab,col,dd,k0,k1,k2,k3,k5,mN,cO,cN,cI,T⟩:=Rr X q
 obtain ⟨c,di,dt,sl⟩:=ox
 dsimp only at cl dn od
 subst cl dn od
 refine wpAny_bind (wpAny_pure (wpAny_bind (wpAny_bind (wpAny_loadPart ao (wpAny_bind ?_)))))
 unfold classData
 refine wpAny_bind (wpAny_load cO (wpAny_pure ?_))
 refine wpAny_pure (a:=some dx) (wpAny_bind (wpAny_pure (wpAny_bind ?_)))
 refine wpAny_nsSet1 (s:={ s with toks:=s.toks + 1 }) hn fun h' hn2 hs2=>?_
 obtain ⟨oD,esD,epD,hoD,hdD,hcD⟩:=hn2.count (PySem.Within.cons name v hw)
 refine wpAny_bind (wpAny_lookBehind hoD (by rw [hdD]; exact pastItsLine_dict (Nat.le_trans hcD (by rw [List.length_cons,sizeLine_eq]; omega))) ?_)
 exact wpAny_pure (k h' hn2 hs2)
end
end L2
namespace L2
open PySem PySem.Spec PyProof.Rows PySem.W
structure XCl (K:Frag) (C fI:Addr):Prop where
 ei:excI K C fI=true
 ob:mroIn K C (.type "object")=some true
 bx:mroIn K C (.type "BaseException")=some true
 sa:findIn K (.ref C) "__setattr__"=some (some (.builtin "object.__setattr__"))
 ga:findIn K (.ref C) "__getattribute__"=some (some (.builtin "BaseException.__getattribute__"))
 gt:findIn K (.ref C) "__getattr__"=some none
 hd:hasDictIn K C=true
 kp:keepIn K (.ref C)=true
 fn:typeIn K (.ref fI)=some (.type "function")
 cc:findIn K (.ref C) "__class__"=some (some (.builtin "object.__class__"))
 cg:specialIn K (.builtin "object.__class__") "__get__"=some (some (.builtin "getset_descriptor.__get__"))
 ct:takesIn K (.builtin "object.__class__")=some true
def excN (ea C:Addr) (d:Option Addr) (h:Heap):Prop:=∃ oe vs,h.get? ea=some oe/\oe.cls=.ref C/\oe.dict=d/\oe.data=.fields vs/\vs.size=6/\vs[1]?=some .none
theorem excN.ok {P:Program} {w:World} {H:Hp} {h:Heap} {ea C:Addr} {d:Option Addr} (x:excN ea C d h):Y3 P w H h ea (.ext (excN ea C d)):=by
 obtain ⟨oe,vs,e,r⟩:=id x
 exact ⟨x,⟨oe,e⟩,fun h1 h2 ⟨o1,v1,e1,r1⟩ k=>⟨o1,v1,k _ e1,r1⟩⟩
def xdP (d:Addr) (fs:List (Str×V)) (h:Heap):Prop:=∃ mA,h.Ns1 d mA/\(∀ f,RelO (fs.lookup f) (mA f))/\PySem.Within mA (fs.map (·.1))
theorem xdP.ok {P:Program} {w:World} {H:Hp} {h:Heap} {d:Addr} {fs:List (Str×V)} (x:xdP d fs h):Y3 P w H h d (.ext (xdP d fs)):=by
 obtain ⟨mA,⟨o,es,ep,e,r⟩,q⟩:=id x
 exact ⟨x,⟨o,e⟩,fun h1 h2 ⟨m1,n1,q1⟩ k=>⟨m1,n1.at k,q1⟩⟩
section
variable {X:Cx} {pins:List (Addr×Obj)} {σ:St} {H:Hp} {s:Shared}
theorem Inv.two {ea d:Addr} {φ ψ o1:HO} {h':Heap} {t':Nat} (I:Inv X pins σ H s) (hea:H ea=some φ) (mu:Mut (some φ)) (hd:s.heap.objs.size<=d) (k:∀ b o,b≠ea->s.heap.get? b=some o->h'.get? b=some o) (te:∃ o,h'.get? ea=some o)
  (n1:∀ H2,Y3 X.prog X.w H2 h' ea o1) (n2:∀ H2,Y3 X.prog X.w H2 h' d ψ):Inv X pins σ (upd (upd H ea o1) d ψ) { s with heap:=h',toks:=t' }:=by
 have nd:H d=none:=I.hok.fresh hd
 have ed:d≠ea:=fun z=>by rw [z,hea] at nd; cases nd
 have ld:∀ b o,s.heap.get? b=some o->b≠d:=fun b o q z=>by rw [z] at q; exact absurd (Heap.lt_size q) (Nat.not_lt.mpr hd)
 have at':∀ b u,b≠ea->H b=some u->upd (upd H ea o1) d ψ b=some u:=fun b u h1 e=>by rw [Zm (fun z=>by rw [z,nd] at e; cases e),Zm h1]; exact e
 have own:∀ c y,H c=some (.own y)->c≠ea:=fun c y e z=>by rw [z,hea] at e; cases e; exact mu
 have tup:∀ c y,H c=some (.tup y)->c≠ea:=fun c y e z=>by rw [z,hea] at e; cases e; exact mu
 have frz:∀ c y u,H c=some (.frz y u)->c≠ea:=fun c y u e z=>by rw [z,hea] at e; cases e; exact mu
 have tbl:∀ c y,H c=some (.tbl y)->c≠ea:=fun c y e z=>by rw [z,hea] at e; cases e; exact mu
 refine I.un ⟨fun b o q n _ _=>?_,fun b o q n _ _=>?_,fun b o q n _=>?_,fun b o q _=>?_,fun b xs e=>at' _ _ (tup _ _ e) e,fun b o u e=>at' _ _ (frz _ _ _ e) e,fun b ps e=>⟨#[],by rw [at' _ _ (tbl _ _ e) e]; simp⟩⟩ (fun b o q=>?_)
 ·exact k b o (fun z=>by rw [z,hea] at n; cases n) q
 ·exact ⟨o.slots,k b o (fun z=>by rw [z,hea] at n; cases n) q⟩
 ·rw [Zm (ld b o q),Zm (fun z=>by rw [z,hea] at n; cases n)]
  exact n
 ·by_cases z:b=ea
  ·rw [z]; exact te
  ·exact ⟨o,k b o z q⟩
 ·by_cases z:b=d
  ·subst z
   rw [Zg] at q
   cases q
   exact n2 _
  ·rw [Zm z] at q
   by_cases z2:b=ea
   ·subst z2
    rw [Zg] at q
    cases q
    exact n1 _
   ·rw [Zm z2] at q
    refine (I.hok b o q).stay (fun c v hc r=>?_) (fun c e=>at' _ _ (own _ _ e) e) fun c xs e=>at' _ _ (tup _ _ e) e
    rcases hc with hc | hc
    ·rw [hc] at r ⊢
     exact k b v z2 r
    ·exact k c v (own _ _ hc) r
end
def Zqm (K:Frag) (ta tv:TE) (f:Str):TS:=fun D σ H=>tv σ H fun y H1=>ta σ H1 fun x H2=>∃ ea C fI,x=.ref ea/\XCl K C fI/\findIn K (.ref C) f=some none /\
  ((H2 ea=some (.ext (excN ea C none))/\∀ d,H2 d=none->d≠ea->D.nx σ (upd (upd H2 ea (.ext (excN ea C (some d)))) d (.ext (xdP d [(f,y)])))) \/
   ∃ d fs,H2 ea=some (.ext (excN ea C (some d)))/\H2 d=some (.ext (xdP d fs))/\fs.length < 1000/\D.nx σ (upd H2 d (.ext (xdP d (putF f y fs)))))
section
variable {X:Cx} {o value:Expr} {f:Str} {pos pos':Pos} {ta tv:TE}
theorem Zcb {fs:List (Str×V)} {mA:Str->Option Value} {f:Str} {y:V} {u:Value} (r:∀ g,RelO (fs.lookup g) (mA g)) (ry:RelV y u) (g:Str):RelO ((putF f y fs).lookup g) (if g=f then some u else mA g):=by
 rw [Uw]
 by_cases q:g=f
 ·rw [if_pos q,if_pos q]; exact ry
 ·rw [if_neg q,if_neg q]; exact r g
theorem Qc {fs:List (Str×V)} {mA:Str->Option Value} {f:Str} {y:V} {u:Value} (wi:PySem.Within mA (fs.map (·.1))):PySem.Within (fun g=>if g=f then some u else mA g) ((putF f y fs).map (·.1)):=fun g hg=>by
 by_cases q:g=f
 ·rw [q]; exact (V1 f y fs).1
 ·refine (V1 f y fs).2 g (wi g fun z=>hg ?_)
  show (if g=f then some u else mA g)=none
  rw [if_neg q]; exact z
theorem Zaw (ha:PE X o ta) (hv:PE X value tv) (hs:swapsWith value (some (.Attribute o f pos')) pos.line X.env=pure false):PS X (.Assign [.Attribute o f pos'] value pos) (Zqm X.K ta tv f):=by
 intro pins s σ H D I h
 refine plainObj_wpAny_Assign_Attribute (thn (hv pins s σ H _ I h) fun u s1 ⟨y,H1,I1,ry,q⟩=>thn (ha pins s1 σ H1 _ I1 q) fun ov s2 ⟨x,H2,I2,rx,ea,C,fI,ex,xc,hf,q2⟩=>?_) hs
 subst ex
 obtain rfl:ov=Value.ref ea:=rx
 rcases q2 with ⟨hea,q2⟩ | ⟨d,fs,hea,hd,hl,q2⟩
 ·obtain ⟨⟨oe,vs,e1,e2,e3,e4,e5,e6⟩,_,_⟩:=I2.hok ea _ hea
  refine Zhj I2.kIn xc.ei xc.ob hf xc.sa e1 e2 e3 e4 fun h' hn ha' hk=>?_
  have nd:=I2.hok.fresh (Nat.le_refl s2.heap.objs.size)
  refine ⟨σ,_,I2.two (d:=s2.heap.objs.size) (ψ:=.ext (xdP s2.heap.objs.size [(f,y)])) (o1:=.ext (excN ea C (some s2.heap.objs.size))) hea True.intro (Nat.le_refl _) hk ⟨_,ha'⟩ (fun _=>excN.ok ⟨_,vs,ha',e2,rfl,e4,e5,e6⟩) (fun _=>xdP.ok ⟨_,hn,Zcb (fs:=[]) (fun _=>True.intro) ry,Qc (fs:=[]) (y:=y) fun g hg=>absurd rfl hg⟩),q2 _ nd fun z=>by rw [z,hea] at nd; cases nd⟩
 ·obtain ⟨⟨oe,vs,e1,e2,e3,e4,e5,e6⟩,_,_⟩:=I2.hok ea _ hea
  obtain ⟨⟨mA,n1,r1,w1⟩,_,_⟩:=I2.hok d _ hd
  have ne:d≠ea:=fun z=>by
   rw [z] at n1
   obtain ⟨o',_,_,a1,a2,_⟩:=n1
   rw [e1] at a1
   cases a1
   rw [e4] at a2
   cases a2
  refine Zhi I2.kIn xc.ei xc.ob hf xc.sa e1 e2 e3 e4 n1 ne w1 (by rw [List.length_map]; omega) fun h' hn sb=>?_
  obtain ⟨od',_,_,ed',_⟩:=id hn
  exact ⟨σ,_,I2.write (x:=d) (e:=d) (by rw [hd]; exact True.intro) (.inl rfl) (fun b u hb e=>(sb.2 b hb).trans e) ⟨od',ed'⟩ (xdP.ok ⟨_,hn,Zcb r1 ry,Qc w1⟩),q2⟩
end
def Rx (P:Program) (w:World) (K:Frag) (mg:Str->Option Value) (base:Heap) (x:Str) (C:Addr) (k:Nat) (ps:List Str) (sp:Sp):Prop :=
 ∃ fI fd,XCl K C fI/\FnOk P w K mg base CX0 k fI fd ps sp/\mg x=some (.ref C)/\Vn K fd ps []
section
variable {X:Cx} {C fI:Addr} {k:Nat} {fd:FuncData} {ps:List Str} {sp:Sp}
theorem Zkk {pins:List (Addr×Obj)} {σ:St} {H:Hp} {s:Shared} {us:List Value} {vs:List V} {R:Addr->Hp->Prop} (xc:XCl X.K C fI) (F:FnOk X.prog X.w X.K X.mg X.base CX0 k fI fd ps sp) (hr:Room (k + 1) X.A) (hb:Vn X.K fd ps []) (I:Inv X pins σ H s) (r:Vals vs us) (sz:us.length<=sizeLine)
  (h:∀ ea,H ea=none->sp (.ref ea::vs) (upd H ea (.ext (excN ea C none))) (fun v H2=>v=.non/\R ea H2) E0) :
  wpAny (model X.prog X.w) X.A (call (.ref C) us) (fun u s'=>∃ ea H2,u=.ref ea/\Inv X pins σ H2 s'/\s.heap.objs.size<=ea/\R ea H2) X.xe s:=by
 have hq:=h (s.heap.objs.size + 1) (I.hok.fresh (Nat.le_succ _))
 obtain ⟨oI,lI,tI⟩:∃ o,X.K.lookup fI=some o/\o.cls=.type "function":=by
  have z:Option.map (fun x=>x.cls) (X.K.lookup fI)=some (.type "function"):=xc.fn
  obtain ⟨o,e,c⟩:=Option.map_eq_some_iff.mp z
  exact ⟨o,e,c⟩
 have fo:=I.kIn _ _ lI
 obtain ⟨hp,g,d,t,os⟩:=s
 refine Zim (Rr I.kIn xc.ei) fo tI sz fun h' hm=>?_
 obtain ⟨tt,h1,h2,h3⟩:=hm.there
 have I2:Inv X pins σ (upd H (hp.objs.size + 1) (.ext (excN (hp.objs.size + 1) C none))) ⟨h',g,d,t,os⟩:=I.laid (a:=hp.objs.size + 1) (h':=h') (t':=t) hm.keeps (Nat.le_succ _) (excN.ok ⟨_,_,h1,rfl,rfl,rfl,rfl,rfl⟩)
 have r2:Vals (V.ref (hp.objs.size + 1)::vs) (Value.ref (hp.objs.size + 1)::us):=.cons rfl r
 have hl:(Value.ref (hp.objs.size + 1)::us++[]).length=ps.length:=by
  have e:=r2.length
  rw [F.len _ _ _ _ hq] at e
  rw [List.append_nil]
  exact e.symm
 have bb:=hb ⟨h',g,d,t,os⟩ (Value.ref (hp.objs.size + 1)::us) I2.kIn hl
 rw [List.append_nil] at bb
 refine wpAny_call (codeAny_mono (F.run _ X.stack _ _ ⟨Value.ref (hp.objs.size + 1)::us,[]⟩ (Value.ref (hp.objs.size + 1)::us) _ _ E0 (hr.make C us []) (I2.env0.make C us []) bb r2 hq) fun r s' hq'=>?_)
 cases r with
 | error e=>exact False.elim hq'
 | ok fl =>
  cases fl with
  | ret u =>
   obtain ⟨v,H',I3,rv,hv,q⟩:=I2.after hq'
   subst hv
   obtain rfl:u=Value.none:=rv
   exact ⟨rfl,_,H',rfl,I3,Nat.le_succ _,q⟩
  | next=>exact False.elim hq'
  | brk=>exact False.elim hq'
  | cont=>exact False.elim hq'
end
section
variable {M:Model} {A:Around} {Ex:Value->Shared->Prop} {env:Env}
theorem Zde {s:Shared} {x:Sem Value} {Q:Flow->Shared->Prop} {C fI:Addr} (hh:A.handled=none)
  (h:wpAny M A x (fun v s1=>∃ e oe vs,v=.ref e/\ExcI s1.heap C fI/\s1.heap.get? e=some oe/\oe.cls=.ref C/\oe.data=.fields vs/\vs[1]?=some .none/\Ex (.ref e) s1) Ex s) :
  wpAny M A (raiseStmt env (some x) none) Q Ex s:=by
 unfold raiseStmt
 refine wpAny_bind (wpAny_mono h (fun v s1 h1=>?_) fun _ _ z=>z)
 obtain ⟨e,oe,vs,rfl,⟨bm,N,nm,q,bs,sn,sub,ab,col,dd,k0,k1,k2,k3,k5,mN,cO,cN,cI,T⟩,he,hc,hd,v1,hE⟩:=h1
 have hB:(Value.ref C::bm).contains (.type "BaseException")=true:=by rw [List.contains_cons,T.hasType PySem.F.excBase_ValueError.hasBase,Bool.or_true]
 obtain ⟨hp,g,d,tk,os⟩:=s1
 repeat (first | (with_reducible refine wpAny_loadPart_at he ?_; rw [hc]) | with_reducible refine wpAny_field he hd v1 ?_ | with_reducible refine wpAny_loadPart_at cO ?_ | (with_reducible refine wpAny_isSubtype_exc cO ?_; rw [hB]) | wp_step)
 exact wpAny_raiseNew_none hh hE
end
def Ziy (C:Addr) (sp:Sp) (E:XK) (t:TA):TS:=fun _ σ H=>t σ H fun vs H1=>vs.length<=10/\∀ ea,H1 ea=none->sp (.ref ea::vs) (upd H1 ea (.ext (excN ea C none))) (fun v H2=>v=.non/\∃ d,H2 ea=some (.ext (excN ea C (some d)))/\E (.ref C) (some d) (upd H2 ea (.ext (excP ea C (some d))))) E0
section
variable {P:Program} {w:World} {K:Frag} {mg:Str->Option Value} {base:Heap} {N:List Str} {qual:Str} {scope:Scope} {f:Addr} {cd:Value} {A:Around} {outer:List Env} {s:Shared} {H:Hp} {E:XK}
theorem Sb {C:Addr} {k:Nat} {ps:List Str} {sp:Sp} {x:Str} {np cpos pos:Pos} {e:Expr} {es:List Expr} {t:TA} (R:Rx P w K mg base x C k ps sp) (hr:Room (k + 1) (cxE P w K mg base N qual scope f cd A outer s H E).A) (hg:Gl (cxE P w K mg base N qual scope f cd A outer s H E) x)
  (ha:PA (cxE P w K mg base N qual scope f cd A outer s H E) (e::es) t) (hdb:(x == ("__debug__":Str))=false:=by decide)
  (he:starEach (e::es) (cxE P w K mg base N qual scope f cd A outer s H E).env=(false,eval e (cxE P w K mg base N qual scope f cd A outer s H E).env)::starEach es (cxE P w K mg base N qual scope f cd A outer s H E).env:=by rfl) (hpl:(backTo cpos (starEach es (cxE P w K mg base N qual scope f cd A outer s H E).env)).any (·.1)=false:=by rfl) :
  PS (cxE P w K mg base N qual scope f cd A outer s H E) (.Raise (some (.Call (.Name x np) (e::es) [] cpos)) none pos) (Ziy C sp E t):=by
 intro pins s1 σ H1 D I h
 obtain ⟨fI,fd,xc,F,hm,hb⟩:=R
 rw [arm_exec_Raise]
 refine wpAny_bind (wpAny_standAt (Zde (C:=C) (fI:=fI) (I.ok.hd rfl) ?_))
 refine wpAny_bind (wpAny_mono ?_ (fun v s3 h3=>wpAny_bind (wpAny_standAt (wpAny_pure h3))) fun _ _ z=>z)
 refine wpAny_Call_Name_kw (Sz I hg hm ?_ hdb)
 refine W.callWith_K (h₀:=base) I.ok.mod.kin xc.kp (thn (ha cpos pins s1 σ H1 _ I h) fun us s2 ⟨vs,H2,I2,r,l10,q⟩=>⟨I2.kIn,?_⟩) he hpl
 refine wpAny_mono (Zkk (R:=fun ea H2=>∃ d,H2 ea=some (.ext (excN ea C (some d)))/\E (.ref C) (some d) (upd H2 ea (.ext (excP ea C (some d))))) xc F hr hb I2 r (by show us.length<=sizeLine; rw [<- r.length]; exact Nat.le_trans l10 (by decide)) q) (fun u s3 hu=>?_) fun _ _ z=>z
 obtain ⟨ea,H3,rfl,I3,lea,d,hea,qE⟩:=hu
 obtain ⟨⟨oe,ws,e1,e2,e3,e4,e5,e6⟩,_,_⟩:=I3.hok ea _ hea
 refine ⟨ea,oe,ws,rfl,Rr I3.kIn xc.ei,e1,e2,e4,e6,?_⟩
 have I4:Inv (cxE P w K mg base N qual scope f cd A outer s H E) pins σ (upd H3 ea (.ext (excP ea C (some d)))) { s3 with heap:=s3.heap,toks:=s3.toks }:=I3.write (x:=ea) (e:=ea) (by rw [hea]; exact True.intro) (.inl rfl) (fun b u _ z=>z) ⟨_,e1⟩ (excP.ok ⟨oe,ws,e1,e2,e3,e4,e5⟩)
 exact Zmm (T0:=none) I4 Zg (Nat.le_trans I2.sz lea) (fun T z=>by cases z) ⟨oe,ws,e1,e4,e6⟩ qE
end
section
variable {X:Cx} {pins:List (Addr×Obj)} {σ:St} {H:Hp} {s:Shared}
def Zpq (X:Cx) (pins:List (Addr×Obj)) (σ:St) (Ex:XK) (e:Value) (s':Shared):Prop:=∃ (ea C T:Addr) (d:Option Addr) (H':Hp),e=.ref ea/\Inv X pins σ H' s'/\H' ea=some (.ext (excP ea C d))/\Zdy ea T s'.heap/\FpOk X pins H' T/\Ex (.ref C) d H'
def Pz (CX:CXT) (X:Cx) (pins:List (Addr×Obj)) (σ:St) (E:XK):Prop:=∀ (H:Hp) (s:Shared) (e:Value) (s':Shared),Inv X pins σ H s->CX X.stack H s E e s'->X.xe e s'
theorem Zqr {Ex:XK}:Pz (CXE X.prog X.w) (X.wish (Zpq X pins σ Ex)) pins σ Ex:=by
 intro H s e s' I hx
 obtain ⟨ea,C,T,d,H2,rfl,os,bare,un,hok,hea,lea,nT,lT,fl,q⟩:=hx
 have I':=I.unwish
 have I2:Inv X pins σ H2 s':=I'.call' os un hok bare (ch:=[]) fun b z=>absurd z (by simp)
 exact ⟨ea,C,T,d,H2,rfl,I2,hea,fl,I'.fpOk lT nT,q⟩
theorem Inv.noted {ea C:Addr} {d T0:Option Addr} {oe:Obj} {vs:Array Value} {h':Heap} (I:Inv X pins σ H s) (hea:H ea=some (.ext (excP ea C d))) (eo:s.heap.get? ea=some oe) (od:oe.data=.fields vs) (hT:∀ T,T0=some T->FpOk X pins H T)
  (g:Gone (frs X.stack) ea T0 oe vs s.heap h'):Inv X pins σ H { s with heap:=h' }:=by
 have nfr:∀ c y,H c=some y->c∉frs X.stack:=fun c y r z=>by rw [I.stkFree c z] at r; cases r
 have nT:∀ c y,H c=some y->some c≠T0:=fun c y r z=>by rw [(hT c z.symm).1] at r; cases r
 have hok:HOk X.prog X.w H h':=fun b o q=>by
  by_cases ne:b=ea
  ·subst ne
   rw [hea] at q
   cases q
   obtain ⟨⟨o1,v1,a1,a2,a3,a4,a5⟩,_,_⟩:=I.hok b _ hea
   obtain ⟨T,vs',ob,ts,_,e3,e4,_⟩:=g.flow
   rw [eo] at a1
   cases a1
   rw [od] at a4
   cases a4
   exact excP.ok ⟨_,vs',e3,a2,a3,rfl,by rw [e4]; exact a5⟩
  ·refine (I.hok b o q).stay (fun c v hc r=>?_) (fun _ z=>z) fun _ _ z=>z
   rcases hc with hc | hc
   ·rw [hc] at r ⊢
    exact g.keep b v (nfr b o q) ne (nT b o q) r
   ·have ne2:c≠ea:=fun z=>by rw [z,hea] at hc; cases hc
    exact g.keep c v (nfr c _ hc) ne2 (nT c _ hc) r
 have un:Un (frs X.stack) T0.toList H H s.heap h':=by
  have tl:∀ b,b∉T0.toList->some b≠T0:=fun b hb z=>hb (by rw [<- z]; simp)
  refine ⟨fun b o q n hb hx=>?_,fun b o q n hb hx=>?_,fun b o q n _=>n,fun b o q hx=>?_,fun _ _ e=>e,fun _ _ _ e=>e,fun b ps e=>⟨#[],by rw [e]; simp⟩⟩
  ·exact g.keep b o hb (fun z=>by rw [z,hea] at n; cases n) (tl b hx) q
  ·exact g.slot b o (fun z=>by rw [z,hea] at n; cases n) (tl b hx) q
  ·by_cases ne:b=ea
   ·obtain ⟨_,_,_,_,_,e3,_⟩:=g.flow
    exact ⟨_,by rw [ne]; exact e3⟩
   ·obtain ⟨sl,e2⟩:=g.slot b o ne (tl b hx) q
    exact ⟨_,e2⟩
 have:=I.call (g':=s.gens) (d':=s.drawn) (t':=s.toks) un hok I.bare fun b hb=>by
  have z:T0=some b:=by
   cases T0 with
   | none=>simp at hb
   | some T=>simp at hb; rw [hb]
  obtain ⟨_,f1,f2,f3,f4,f5⟩:=hT b z
  exact ⟨f3,f1,f4,f5⟩
 exact this
theorem Gone.flies {fs:List Addr} {ea:Addr} {T0:Option Addr} {oe:Obj} {vs:Array Value} {h h':Heap} (g:Gone fs ea T0 oe vs h h'):∃ T,h.objs.size<=T/\Zdy ea T h':=by
 obtain ⟨T,vs',ob,ts,z1,z2,z3,z4,z5,z6,z7,z8⟩:=g.flow
 exact ⟨T,z1,_,vs',ob,ts,z2,rfl,z4,z5,z6,z7,z8⟩
end
abbrev Cx.mrk (X:Cx) (e:Value):Cx:={ X with A:=X.A.mark (some e),calm:=false,xe:=fun _ _=>False }
section
variable {X:Cx} {pins:List (Addr×Obj)} {σ:St} {H:Hp} {s:Shared} {e:Value}
theorem Inv.mrk (I:Inv X pins σ H s) (e:Value):Inv (X.mrk e) pins σ H s :=
 ⟨⟨I.ok.mod,I.ok.kind,I.ok.glob,I.ok.blt,I.ok.above,I.ok.inj,I.ok.has,I.ok.cab,(fun z=>by cases z),I.ok.frames,I.ok.stk,I.ok.exf,I.ok.bs,I.ok.bsz,I.ok.noex,I.ok.exfs,I.ok.funs,I.ok.frf⟩,I.os,I.bare,I.base,I.loc,I.cell,I.free,I.freeC,I.pin,I.hok,I.len⟩
theorem Inv.unmrk (ok:X.Ok) (I:Inv (X.mrk e) pins σ H s):Inv X pins σ H s:=⟨ok,I.os,I.bare,I.base,I.loc,I.cell,I.free,I.freeC,I.pin,I.hok,I.len⟩
theorem SP.unmrk {D:Ends} {f:Flow} (ok:X.Ok) (h:SP (X.mrk e) pins D f s):SP X pins D f s:=by
 cases f with
 | next=>obtain ⟨σ',H',I,q⟩:=h; exact ⟨σ',H',I.unmrk ok,q⟩
 | brk=>obtain ⟨σ',H',I,q⟩:=h; exact ⟨σ',H',I.unmrk ok,q⟩
 | cont=>obtain ⟨σ',H',I,q⟩:=h; exact ⟨σ',H',I.unmrk ok,q⟩
 | ret u=>obtain ⟨v,σ',H',I,r,q⟩:=h; exact ⟨v,σ',H',I.unmrk ok,r,q⟩
end
section
variable {M:Model} {A:Around} {E:Value->Shared->Prop} {K:Frag} {C D ea:Addr}
theorem Zj5 {K:Frag} {s:Shared} {D:Addr} (X:K.In s.heap) (ht:typeIn K (.ref D)=some (.type "type")):s.TypeIs (.ref D) "type":=by
 have z:Option.map (fun x=>x.cls) (K.lookup D)=some (.type "type"):=ht
 obtain ⟨o,e,c⟩:=Option.map_eq_some_iff.mp z
 exact ⟨o,X _ _ e,c⟩
theorem Zbg {s:Shared} {oe:Obj} {b:Bool} {Q:Bool->Shared->Prop} (X:K.In s.heap) (ht:typeIn K (.ref D)=some (.type "type")) (hb:mroIn K D (.type "BaseException")=some true) (he:s.heap.get? ea=some oe) (hc:oe.cls=.ref C) (hm:mroIn K C (.ref D)=some b) (k:Q b s) :
  wpAny M A (excMatches (.ref ea) (.ref D)) Q E s:=by
 have hT:=Zj5 X ht
 have L1:=looks_mroIn (M:=M) X hb
 have L2:=looks_mroIn (M:=M) X hm
 have n1:=tc_notTuple
 have n2:=tc_sub
 obtain ⟨oD,cd,lD,dD⟩:∃ (oD:Obj) (cd:ClassData),K.lookup D=some oD/\oD.data=.cls cd:=by
  have z:=hb
  unfold mroIn at z
  obtain ⟨cd,z,_⟩:=Option.bind_eq_some_iff.mp z
  unfold clsIn at z
  split at z
  ·rename_i e
   exact ⟨_,_,e,rfl⟩
  ·cases z
 have dO:=X _ _ lD
 obtain ⟨c0,dd0,dt0,sl0⟩:=oD
 dsimp only at dD
 subst dD
 obtain ⟨hp,g,d,t,os⟩:=s
 unfold excMatches
 repeat (first | (with_reducible refine wpAny_loadPart_at he ?_; rw [hc]) | with_reducible refine wpAny_loadPart_at dO ?_ | with_reducible refine L1.at ?_ | with_reducible refine L2.at ?_ | wp_step)
 cases b <;> (wp_walk; exact k)
end
section
variable {prog:Program} {w:World} {A:Around} {s:Shared} {env:Env} {R:Result->Shared->Prop}
theorem Zhe {e:Value} {b0:Stmt} {body:List Stmt} {pos:Pos}
  (h:wpAny (model prog w) A (setFlight e none) (fun _ s2=>wpAny (model prog w) A (execs (b0::body) env) (fun f s3=>R (.ok f) s3) (fun _ _=>False) s2) (fun _ _=>False) s) :
  codeAny (model prog w) A (.handlers e [.ExceptHandler none none (b0::body) pos] env) R s :=
 codeAny_handlers_suite (wpAny_mono h (fun _ _ h1=>wpAny_mono h1 (fun _ _ q=>q) fun _ _ z=>z.elim) fun _ _ z=>z.elim)
end
abbrev TH:=Addr->Option Addr->Addr->TS
def HS (X:Cx) (hs:List ExceptHandler) (th:TH):Prop:=∀ (pins:List (Addr×Obj)) (s:Shared) (σ:St) (H:Hp) (ea C T:Addr) (d:Option Addr) (D:Ends),Inv X pins σ H s->H ea=some (.ext (excP ea C d))->Zdy ea T s.heap->FpOk X pins H T->th C d ea D σ H ->
 wpAny (model X.prog X.w) X.A (handleBy (.ref ea) X.env hs) (SP X pins D) X.xe s
def Zm3:TH:=fun _ _ _ _ _ _=>False
theorem Zov {X:Cx}:HS X [] Zm3:=fun _ _ _ _ _ _ _ _ _ _ _ _ _ h=>h.elim
def thNo (K:Frag) (Dc:Addr) (ts:TS) (thr:TH):TH:=fun C d ea D σ H=>∃ b,mroIn K C (.ref Dc)=some b/\if b=true then ts D σ H else thr C d ea D σ H
structure Cau (K:Frag) (mg:Str->Option Value) (x:Str) (Dc:Addr):Prop where
 mg:mg x=some (.ref Dc)
 ty:typeIn K (.ref Dc)=some (.type "type")
 bx:mroIn K Dc (.type "BaseException")=some true
section
variable {X:Cx} {c:Str} {Dc:Addr} {b0:Stmt} {body:List Stmt} {rest:List ExceptHandler} {np pos:Pos} {ts:TS} {thr:TH}
theorem N3 {pins:List (Addr×Obj)} {σ:St} {H:Hp} {s:Shared} {ea T:Addr} {M:Model} {A:Around} {E:Value->Shared->Prop} {Q:Unit->Shared->Prop} (I:Inv X pins σ H s) (fl:Zdy ea T s.heap) (fp:FpOk X pins H T) (k:∀ s',Inv X pins σ H s'->Q () s'):wpAny M A (setFlight (.ref ea) none) Q E s:=by
 obtain ⟨oe,vs,oT,ts,e1,d1,v1,e2,d2,t3,ne⟩:=fl
 obtain ⟨f0,f1,f2,f3,f4,f5⟩:=fp
 refine wpAny_setFlight_none e1 d1 v1 e2 d2 (Array.getElem?_eq_some_iff.mp t3).1 (k _ ?_)
 exact I.turned (t':=s.toks) (fun b o hb e=>by rw [Heap.get?_update_other _ _ (Ne.symm hb)]; exact e) f0 f1 f3 f4 f5
theorem Zq4 (ca:Cau X.K X.mg c Dc) (hg:Gl X c) (hs:∀ e,PSs (X.mrk e) (b0::body) ts) (hr:HS X rest thr) (hd:(c == ("__debug__":Str))=false:=by decide) :
  HS X (.ExceptHandler (some (.Name c np)) none (b0::body) pos::rest) (thNo X.K Dc ts thr):=by
 intro pins s σ H ea C T d D I hea fl fp h
 obtain ⟨b,hb,h⟩:=h
 refine wpAny_handleBy_cons (codeAny_handlers_test ?_) (by intro q; cases q)
 have J:=I.mrk (.ref ea)
 refine Sz (X:=X.mrk (.ref ea)) J hg ca.mg ?_ hd
 obtain ⟨⟨oe,vs,e1,e2,e3,e4,e5⟩,_,_⟩:=I.hok ea _ hea
 refine Zbg I.kIn ca.ty ca.bx e1 e2 hb ?_
 cases b with
 | false=>exact hr pins s σ H ea C T d D I hea fl fp h
 | true =>
  refine Zhe (N3 J fl fp fun s1 J1=>?_)
  exact wpAny_mono (hs (.ref ea) pins s1 _ H _ J1 h) (fun f s3 h3=>h3.unmrk I.ok) fun _ _ z=>z
def PSF (X:Cx) (pins:List (Addr×Obj)) (σ:St) (st:List Stmt) (t:TS):Prop:=∀ (s:Shared) (H:Hp) (D:Ends),Inv X pins σ H s->t D σ H->wpAny (model X.prog X.w) X.A (execs st X.env) (SP X pins D) X.xe s
def tTry (tb:XK->TS) (th:TH):TS:=fun D σ H=>tb (fun cls d H'=>∃ C,cls=.ref C/\∀ ea,H' ea=some (.ext (excP ea C d))->th C d ea D σ H') D σ H
theorem Zny {bd:List Stmt} {h0:ExceptHandler} {hs:List ExceptHandler} {tb:XK->TS} {th:TH} {L:Addr} (hst:X.stack=X.env::X.outer) (hf:X.env.frame=some L)
  (hb:∀ (pins:List (Addr×Obj)) (σ:St) (xe:Value->Shared->Prop) (Ex:XK),Pz (CXE X.prog X.w) (X.wish xe) pins σ Ex->PSF (X.wish xe) pins σ bd (tb Ex)) (hh:HS X (h0::hs) th) :
  PS X (.Try bd (h0::hs) [] [] pos) (tTry tb th):=by
 intro pins s σ H D I h
 refine wpAny_Try_except (wpAny_mono (hb pins σ _ _ Zqr s H D (I.wish _) h) (fun f s1 h1=>?_) fun e s1 h1=>?_)
 ·have h2:=h1.unwish
  cases f with
  | next=>exact wpAny_execs_nil h2
  | brk=>exact h2
  | cont=>exact h2
  | ret u=>exact h2
 ·obtain ⟨ea,C,T,d,H1,rfl,I1,hea,fl,fp,C',hC,k⟩:=h1
  cases hC
  obtain ⟨oe,vs,oT,ts,e1,d1,v1,e2,d2,t3,ne⟩:=fl
  refine Qj (base:=X.base) (by rw [I1.ok.frames,hst]) (by have:=I1.stack; rw [hst] at this; exact this) hf e1 d1 v1 e2 d2 t3 ne fun h' g=>?_
  rw [<- hst] at g
  have I2:=I1.noted hea e1 d1 (fun T' z=>by cases z; exact fp) g
  obtain ⟨T',lT,fl'⟩:=g.flies
  exact hh pins _ σ H1 ea C T' d D I2 hea fl' (I1.fpOk lT (I1.hok.fresh lT)) (k ea hea)
end
end L2
namespace L2
open PySem PySem.Spec PyProof.Rows PySem.W PySem.Builtin PySem.Builtin.ObjectAttr
section
variable {X:Cx} {pins:List (Addr×Obj)} {σ:St} {e:Expr} {te:TE} {t:TA} {ts us:TS} {st:Stmt} {pos:Pos}
def PEF (X:Cx) (pins:List (Addr×Obj)) (σ:St) (e:Expr) (t:TE):Prop:=∀ (s:Shared) (H:Hp) (Q:VK),Inv X pins σ H s->t σ H Q->wpAny (model X.prog X.w) X.A (eval e X.env) (EP X pins σ Q) X.xe s
theorem Zkj {CX:CXT} {k:Nat} {f:Addr} {fd:FuncData} {ps:List Str} {sp:Sp} {E:XK} {H:Hp} {s:Shared} {Q:VK} {us:List Value} {vs:List V} (F:FnOk X.prog X.w X.K X.mg X.base CX k f fd ps sp) (hr:Room k X.A) (hb:Vn X.K fd ps []) (hx:Pz CX X pins σ E)
  (I:Inv X pins σ H s) (r:Vals vs us) (h:sp vs H Q E):wpAny (model X.prog X.w) X.A (call (.ref f) us) (EP X pins σ Q) X.xe s:=by
 have hl:(us++[]).length=ps.length:=by rw [List.append_nil,<- r.length]; exact F.len _ _ _ _ h
 have bb:=hb s us I.kIn hl
 rw [List.append_nil] at bb
 refine wpAny_call (codeAny_mono (F.run X.A X.stack s H ⟨us,[]⟩ us vs Q E hr I.env0 bb r h) fun r s' hq=>?_)
 cases r with
 | error e=>exact hx H s e s' I hq
 | ok fl =>
  cases fl with
  | ret u=>exact I.after hq
  | next=>exact False.elim hq
  | brk=>exact False.elim hq
  | cont=>exact False.elim hq
def PSF1 (X:Cx) (pins:List (Addr×Obj)) (σ:St) (st:Stmt) (t:TS):Prop:=∀ (s:Shared) (H:Hp) (D:Ends),Inv X pins σ H s->t D σ H->wpAny (model X.prog X.w) X.A (exec st X.env) (SP X pins D) X.xe s
theorem So (h:PSF1 X pins σ st ts):PSF X pins σ [st] ts:=by
 intro s H D I q
 refine wpAny_execs_cons (wpAny_mono (h s H D I q) (fun f s1 h1=>?_) fun _ _ z=>z)
 cases f with
 | next=>exact wpAny_execs_nil h1
 | brk=>exact h1
 | cont=>exact h1
 | ret u=>exact h1
theorem Q3 (he:PEF X pins σ e te) (hs:swapsWith e none pos.line X.env=pure false:=by rfl):PSF1 X pins σ (.Expr e pos) (Zj8 te):=by
 intro s H D I h
 exact wpAny_Expr_any (thn (he s H _ I h) fun v s1 ⟨x,H1,I1,r1,q1⟩=>⟨σ,H1,I1,q1⟩) I.quiet hs
end
end L2
namespace L2
open PySem PySem.Spec PyProof.Rows PySem.W
def spX1 (C:Addr) (f:Str):Sp:=fun vs H Q _=>∃ (ea:Addr) (y:V),vs=[.ref ea,y]/\H ea=some (.ext (excN ea C none))/\∀ d,H d=none->d≠ea->Q .non (upd (upd H ea (.ext (excN ea C (some d)))) d (.ext (xdP d [(f,y)])))
def Zq9 (R:List En):Prop:=∀ e∈R,e.2≠none
def Zmk (S:List Pr) (ns:List Int) (R:List En) (pl:Nat):Prop:=Went S ns R pl/\Zq9 R/\(ns.length<=pl\/(pl < ns.length/\∀ p∈S,¬ p.2<+:ns.drop pl))
theorem Zmk.perm {S L:List Pr} {ns:List Int} {R:List En} {pl:Nat} (h:Zmk S ns R pl) (p:S.Perm L):Zmk L ns R pl :=
 ⟨h.1.perm p,h.2.1,h.2.2.imp (fun z=>z) fun ⟨a,b⟩=>⟨a,fun q hq=>b q (p.mem_iff.mpr hq)⟩⟩
theorem Zl1 {P:Program} {w:World} {K:Frag} {mg:Str->Option Value} {base:Heap} {x:Str} {st:Stmt} {f:Addr} {fd:FuncData} {k:Nat} {ps:List Str} {sp:Sp} (F:Fun K x x st f fd) (G:FnOk P w K mg base (CXE P w) k f fd ps sp) (m:mg x=some (.ref f)) (b:Vn K fd ps []) :
  CalE P w K mg base x k ps sp:=⟨f,fd,G,m,F.kp,b⟩
end L2
namespace L2
open PySem PySem.Spec PyProof.Rows
section
variable {X:Cx} {pins:List (Addr×Obj)} {σ:St} {H:Hp} {s:Shared} {h':Heap}
theorem Inv.turned2 {t':Nat} {e it:Addr} (I:Inv X pins σ H s) (k:∀ b o,b≠e->b≠it->s.heap.get? b=some o->h'.get? b=some o) (f:FpOk X pins H e) (g:FpOk X pins H it):Inv X pins σ H { s with heap:=h',toks:=t' }:=by
 obtain ⟨f0,f1,f2,f3,f4,f5⟩:=f
 obtain ⟨g0,g1,g2,g3,g4,g5⟩:=g
 have ne:∀ b u,H b=some u->b≠e:=fun b u q z=>by rw [z,f0] at q; cases q
 have nit:∀ b u,H b=some u->b≠it:=fun b u q z=>by rw [z,g0] at q; cases q
 refine I.step (g':=s.gens) (d':=s.drawn) (ch:=[e,it]) (fun b hb=>?_) (fun b o _ _ hc q _=>k b o (fun z=>hc (by simp [z])) (fun z=>hc (by simp [z])) q) (fun b o _ _ hc q _=>⟨o.slots,k b o (fun z=>hc (by simp [z])) (fun z=>hc (by simp [z])) q⟩) (fun _ _ _ _ n=>n)
  (fun b o hc q=>⟨o,k b o (fun z=>hc (by simp [z])) (fun z=>hc (by simp [z])) q⟩) (fun _ _ q=>q) (fun _ _ _ q=>q) (fun b ps q=>⟨#[],by rw [q]; simp⟩) (fun m hm=>?_) (fun b u q=>?_) I.bare
 ·rcases List.mem_cons.mp hb with z | hb
  ·subst z
   exact ⟨f3,f1,f4,f5⟩
  ·have z:b=it:=by simpa using hb
   subst z
   exact ⟨g3,g1,g4,g5⟩
 ·obtain ⟨o,es,ep,ho,r⟩:=hm
  exact ⟨o,es,ep,k _ o (Ne.symm f1) (Ne.symm g1) ho,r⟩
 ·refine (I.hok b u q).stay (fun c v hc q'=>k c v ?_ ?_ q') (fun _ q=>q) fun _ _ q=>q
  ·rcases hc with z | z
   ·rw [z]; exact ne b u q
   ·exact ne c _ z
  ·rcases hc with z | z
   ·rw [z]; exact nit b u q
   ·exact nit c _ z
end
def Ite (K:W.Frag) (a:Addr):It :=
 ⟨fun i H=>∃ xs x,SqL K H a xs/\xs[i]?=some x,fun i H x H'=>∃ (t:Addr) (y:V),x=.ref t/\H t=none/\H'=upd H t (.tup [.int i,y])/\∀ xs,SqL K H a xs->xs[i]?=some y,fun i H=>∃ xs,SqL K H a xs/\xs.length<=i⟩
theorem Zea {P:Program} {w:World} {K:W.Frag} {elts:List Expr} {x1:Nat} {pos:Pos} (a e it:Addr) (hne:e≠it):Turn P w K (.Tuple elts x1 pos) (Ite K a) [e,it] e (fun i h=>(∃ old,IsEnum h e it i old)/\h.IsListIter it a i) where
 mem:=by simp
 obj:=fun i h st b hb=>by
  obtain ⟨⟨old,st1⟩,o,e2,c2,d2⟩:=st
  rcases List.mem_cons.mp hb with z | hb
  ·subst z
   exact ⟨_,st1,fun v z=>by
    have z':Data.fields _=Data.cell v:=z
    cases z'⟩
  ·have z:b=it:=by simpa using hb
   subst z
   exact ⟨o,e2,fun v z=>by rw [d2] at z; cases z⟩
 keep:=fun i h h' st k=>by
  obtain ⟨⟨old,st1⟩,st2⟩:=st
  exact ⟨⟨old,k e (by simp) _ st1⟩,st2.at fun o q=>k it (by simp) o q⟩
 item:=by
  intro X hP hw hK hc i pins s σ H E I hf st hg
  subst hP hw hK
  obtain ⟨⟨old,st1⟩,st2⟩:=st
  obtain ⟨xs,x,hq,hx⟩:=hg
  obtain ⟨its,rv,p,hz⟩:=I.list hq
  obtain ⟨u,hu,ru⟩:=rv.get hx
  refine wpAny_pyNext_enum_item st1 st2 p.isList (x:=u) (by simpa using hu) hne fun h1 eo st2' et hsz hk=>?_
  have he:e < s.heap.objs.size:=Heap.lt_size st1
  have hi:it < s.heap.objs.size:=by obtain ⟨_,q,_⟩:=st2; exact Heap.lt_size q
  refine ⟨_,rfl,wpAny_letOwnedTupleGo_enum eo fun h2 en2 sb=>?_⟩
  replace sb:Heap.SameBut e h1 h2:=sb
  have fr:H s.heap.objs.size=none:=I.fresh
  have Il:Inv X pins σ (upd H s.heap.objs.size (.tup [.int i,x])) { s with heap:=s.heap.push { cls:=.type "tuple",data:=.seq #[.int i s.toks,u] },toks:=s.toks }:=I.laid (fun b o q=>Heap.get?_push_of_some _ q) (Nat.le_refl _)
   ⟨by show 2<=sizeLine; decide,[.int i s.toks,u],.cons ⟨_,rfl⟩ (.cons ru .nil),⟨_,Heap.get?_push_size _ rfl,rfl,_,rfl,rfl⟩⟩
  have up:∀ b,b∈[e,it]->FpOk X pins (upd H s.heap.objs.size (.tup [.int i,x])) b:=fun b hb=>by
   obtain ⟨f0,f⟩:=hf b hb
   refine ⟨?_,f⟩
   have hlt:b < s.heap.objs.size:=by
    rcases List.mem_cons.mp hb with z | hb
    ·rw [z]; exact he
    ·have z:b=it:=by simpa using hb
     rw [z]; exact hi
   rw [Zm (Nat.ne_of_lt hlt)]
   exact f0
  have I2:Inv X pins σ (upd H s.heap.objs.size (.tup [.int i,x])) { s with heap:=h2,toks:=s.toks + 1 }:=by
   refine Inv.turned2 (s:={ s with heap:=s.heap.push { cls:=.type "tuple",data:=.seq #[.int i s.toks,u] },toks:=s.toks }) (h':=h2) (t':=s.toks + 1) (e:=e) (it:=it) Il (fun b o be bi q=>?_) (up e (by simp)) (up it (by simp))
   rcases Heap.get?_push_cases q with ⟨z1,z2⟩ | q
   ·subst z1 z2
    exact (sb.2 _ (Nat.ne_of_gt he)).trans et
   ·exact (sb.2 _ be).trans (hk b o be bi q)
  refine ⟨.ref s.heap.objs.size,_,I2,rfl,⟨_,x,rfl,fr,rfl,fun ys hy=>by rw [I.list_inj hy hq]; exact hx⟩,⟨⟨u,?_⟩,st2'.at fun o q=>(sb.2 it hne.symm).trans q⟩,fun b hb=>(up b hb).1⟩
  ·have z:((i + 1:Nat):Int)=(i:Int) + 1:=by push_cast; rfl
   rw [z]
   exact en2
 done:=by
  intro X hP hw hK hc i pins s σ H E I hf st hg
  subst hP hw hK
  obtain ⟨⟨old,st1⟩,st2⟩:=st
  obtain ⟨xs,hq,hx⟩:=hg
  obtain ⟨its,rv,p,hz⟩:=I.list hq
  obtain ⟨f0,f1,f2,f3,f4,f5⟩:=hf it (by simp)
  have hl:=rv.length
  exact wpAny_pyNext_enum_end (I.ok.hd hc) st1 st2 p.isList (by simp; omega) fun h' eb=>⟨rfl,I.turned (t':=s.toks) (fun b o hb e=>eb b o hb e) f0 f1 f3 f4 f5⟩
 self:=fun _ _ _ _ _ st h=>let ⟨⟨_,q⟩,_⟩:=st; wpAny_pyIter_enum q h
section
variable {X:Cx}
def Zq3 (K:W.Frag) (tl:TA):TI:=fun σ H R=>tl σ H fun vs H1=>∃ a,vs=[.ref a]/\(∃ xs,SqL K H1 a xs)/\R (Ite K a) H1
theorem Zkt {elts:List Expr} {x1:Nat} {pt:Pos} {l:Expr} {tl:TA} {p pos:Pos} (hg:Gl X "enumerate") (hm:X.mg "enumerate"=none) (ha:PA X [l] tl) (hs:starEach [l] X.env=[(false,eval l X.env)]:=by rfl):PI X (.Tuple elts x1 pt) (.Call (.Name "enumerate" p) [l] [] pos) (Zq3 X.K tl):=by
 intro pins s σ H R I h
 refine Call_ (S0 I hg hm boot_enumerate (PyProof.Rows.callWith_type1 (thn (ha pos pins s σ H _ I h) fun us s1 ⟨vs,H1,I1,r1,q1⟩=>?_) hs rfl))
 obtain ⟨a,e,⟨xs,hq⟩,q⟩:=q1
 subst e
 cases r1 with
 | cons r rr =>
  cases rr
  cases r
  obtain ⟨its,rv,pl,hz⟩:=I1.list hq
  refine call_enumerate_list pl.isList fun h' he hit hsz hk=>?_
  have I2:Inv X pins σ H1 { s1 with heap:=h',toks:=s1.toks }:=I1.kept hk
  refine wpAny_pyIter_enum he ?_
  refine ⟨s1.heap.objs.size + 1,[s1.heap.objs.size + 1,s1.heap.objs.size],_,_,H1,rfl,I2,Zea a _ _ (Nat.succ_ne_self _),⟨⟨_,he⟩,hit⟩,fun b hb=>?_,q⟩
  rcases List.mem_cons.mp hb with z | hb
  ·subst z
   exact I1.fpOk (Nat.le_succ _) (I1.hok.fresh (Nat.le_succ _))
  ·have z:b=s1.heap.objs.size:=by simpa using hb
   subst z
   exact I1.fpOk (Nat.le_refl _) (I1.hok.fresh (Nat.le_refl _))
end
theorem Nw (l:Addr) (items:Array Value) (n:Nat) (b:Addr) (items2:Array Value) (n2:Nat) (sl:Array (Option Value)) (hs0:¬(!items.isEmpty && Builtin.List.listTooLong (items.size + items2.size))=true) (hs1:items.size<=sizeLine) (hs2:items.size + items2.size<=sizeLine + 1) :
  Meets (Builtin.«list.extend» ⟨[.ref l,.ref b],[]⟩) (fun _ R s=>s.heap.get? l=some { cls:=.type "list",dict:=none,data:=.seq items n,slots:=#[] }/\s.heap.get? b=some { cls:=.type "tuple",dict:=none,data:=.seq items2 n2,slots:=sl }/\R (.ok (.ret Value.none)) { s with heap:=s.heap.update l (Obj.mapSeq fun x=>x++items2),toks:=s.toks }) :=
 .of_wp fun prog w A R s h=>by
  obtain ⟨hp,g,d,tk,os⟩:=s; obtain ⟨hl,hb,h⟩:=h; have f1:=AutoSeq1.idx_int; have f2:=AutoSeq1.sub_tuple_tuple; have f3:=AutoSeq1.sub_list_list; have f4:=AutoSeq1.sub_tuple_list; have f5:=AutoSeq1.sub_list_tuple;
  have hz':(items++items2).size<=sizeLine + 1:=by rw [Array.size_append]; exact hs2
  wp_walk using (wpAny_updateSeq hl rfl (hz:=hs1) (_hz':=hz')),AutoSeq1.wpAny_loadPart' hl,AutoSeq1.wpAny_loadPart' hb; exact ⟨_,rfl,h⟩
def Zhp:V->List V->Hp->VK->Prop:=fun x vs H Q=>∃ l b xs zs,x=.ref l/\vs=[.ref b]/\H l=some (.lst xs)/\H b=some (.tup zs)/\xs.length + zs.length<=sizeLine/\Q .non (upd H l (.lst (xs++zs)))
theorem Zdl {X:Cx}:MtM X "list.extend" Zhp:=by
 intro pins s σ H x vs v us Q I rx rv h
 obtain ⟨l,b,xs,zs,rfl,rfl,hH,hB,hz,q⟩:=h
 cases rx
 obtain ⟨u,rfl,ru⟩:=rv.one
 cases ru
 obtain ⟨z,its,n,r,hl,e⟩:=I.lstM hH
 obtain ⟨z2,its2,r2,⟨⟨c,dct,dt,sl⟩,e2,c2,n2,d2,dd2⟩⟩:=I.hok b _ hB
 replace c2:c=.type "tuple":=c2
 replace d2:dt=.seq its2.toArray n2:=d2
 replace dd2:dct=none:=dd2
 subst c2 d2 dd2
 have hl2:=r2.length
 have hsz:its.toArray.size + its2.toArray.size<=sizeLine:=by rw [List.size_toArray,List.size_toArray]; omega
 have hlong:¬ (!its.toArray.isEmpty && Builtin.List.listTooLong (its.toArray.size + its2.toArray.size))=true:=by
  rw [Zch hsz,Bool.and_false]
  exact Bool.false_ne_true
 refine call_meets F.slot_list_extend ⟨_,e,rfl⟩ F.entry_list_extend (F.args_list_extend_2 _ _)
  (Nw l its.toArray n b its2.toArray n2 sl hlong (by rw [List.size_toArray]; omega) (by omega)) ⟨e,e2,?_⟩
 refine ⟨.non,_,I.lset (its':=its++its2) hH e (by simp) (r.append r2) ?_,rfl,q⟩
 rw [List.length_append]
 omega
end L2
namespace L2
open PySem PySem.Spec PyProof.Rows PySem.W
theorem Zih {K:W.Frag} {a:Addr} {xs:List V} {g:TG} {tb:TS} {D:Ends} {σ:St} {H:Hp} (Pv:Nat->St->Hp->Prop) (h0:Pv 0 σ H) (hl:∀ i σ H,i<=xs.length->Pv i σ H->SqL K H a xs)
  (hs:∀ i (hi:i < xs.length) t σ H,Pv i σ H->H t=none->g (.ref t) σ (upd H t (.tup [.int i,xs[i]])) fun σ2 H2=>tb { D with nx:=Pv (i + 1),ct:=Pv (i + 1),bk:=D.nx } σ2 H2) (hd:∀ σ H,Pv xs.length σ H->D.nx σ H) :
  ∃ W:Nat->Nat->St->Hp->Prop,(∃ m,W 0 m σ H)/\∀ i m σ H,W i m σ H ->
   ((Ite K a).stop i H/\D.nx σ H)\/((Ite K a).go i H/\∃ N:St->Hp->Prop,(∀ σ' H',N σ' H'->∃ m',m' < m/\W (i + 1) m' σ' H')/\∀ x H',(Ite K a).yld i H x H'->g x σ H' fun σ2 H2=>tb { D with nx:=N,ct:=N,bk:=D.nx } σ2 H2):=by
 refine ⟨fun i m σ H=>m=xs.length - i/\i<=xs.length/\Pv i σ H,⟨xs.length,by simp,Nat.zero_le _,h0⟩,?_⟩
 rintro i m σ H ⟨rfl,hi,p⟩
 have q:=hl i σ H hi p
 by_cases hlt:i < xs.length
 ·refine .inr ⟨⟨xs,xs[i],q,by simp [hlt]⟩,Pv (i + 1),fun σ' H' p'=>⟨xs.length - (i + 1),by omega,rfl,hlt,p'⟩,fun x H' y=>?_⟩
  obtain ⟨t,z,rfl,ht,rfl,y⟩:=y
  have y2:=y xs q
  rw [List.getElem?_eq_getElem hlt] at y2
  cases y2
  exact hs i hlt t σ H p ht
 ·have e:i=xs.length:=by omega
  subst e
  exact .inl ⟨⟨xs,q,Nat.le_refl _⟩,hd σ H p⟩
def Zel (C:Addr):Sp:=fun vs H Q _=>∃ (x:Addr) (S:List Pr) (s:Int),vs=[.ref x,.int s]/\Rw C H x S/\(∀ p∈S,p.1=s->∀ t,H t=some (.tup (p.2.map V.int))->Q (.ref t) H)/\((∀ p∈S,p.1≠s)->Q .non H)
def Wm (S:List Pr) (ts:List Int) (i:Nat):Bool:=match ts[i]? with | some s=>S.all fun p=>decide (p.1≠s) | none=>false
def lk (S:List Pr) (ts:List Int) (j:Nat):List Int:=((List.range j).filter (Wm S ts)).map fun i:Nat=>(i:Int)
theorem V0 {S:List Pr} {ts:List Int} {i:Nat} (hi:i < ts.length):Wm S ts i=true↔∀ p∈S,p.1≠ts[i]:=by
 unfold Wm
 rw [List.getElem?_eq_getElem hi]
 simp [List.all_eq_true]
theorem Zof {S:List Pr} {ts:List Int} {j:Nat} (h:∀ i,i < j->Wm S ts i≠true):lk S ts j=[]:=by
 unfold lk
 rw [List.map_eq_nil_iff,List.filter_eq_nil_iff]
 exact fun i hi=>h i (List.mem_range.mp hi)
theorem Zk8 {S:List Pr} {ts:List Int} {j:Nat} (h:lk S ts j=[]):∀ i,i < j->Wm S ts i≠true:=by
 unfold lk at h
 rw [List.map_eq_nil_iff,List.filter_eq_nil_iff] at h
 exact fun i hi=>h i (List.mem_range.mpr hi)
def Xs (S T:List Pr) (ts:List Int) (i:Nat):Prop:=(∀ p∈T,p∈S)/\Yc T=ts.take i
theorem Xs.has {S T:List Pr} {ts:List Int} {i:Nat} (h:Xs S T ts i):∀ j,j < i->Wm S ts j≠true:=fun j hj z=>by
 by_cases hl:j < ts.length
 ·have e:ts[j]∈Yc T:=by
   rw [h.2]
   exact List.mem_iff_getElem.mpr ⟨j,by rw [List.length_take]; omega,by rw [List.getElem_take]⟩
  obtain ⟨p,hp,ep⟩:=List.mem_map.mp e
  exact (V0 hl).mp z p (h.1 p hp) ep
 ·unfold Wm at z
  rw [List.getElem?_eq_none (by omega)] at z
  cases z
theorem Xs.snoc {S T:List Pr} {ts:List Int} {i:Nat} (h:Xs S T ts i) (hi:i < ts.length) {p:Pr} (hp:p∈S) (e:p.1=ts[i]):Xs S (T++[p]) ts (i + 1):=by
 refine ⟨fun q hq=>?_,?_⟩
 ·rcases List.mem_append.mp hq with hq | hq
  ·exact h.1 q hq
  ·rw [List.mem_singleton.mp hq]; exact hp
 ·have z:Yc (T++[p])=Yc T++[p.1]:=by unfold Yc; rw [List.map_append]; rfl
  rw [z,h.2,e,List.take_succ_eq_append_getElem hi]
theorem Zog {S:List Pr} {ts:List Int} (h:lk S ts ts.length=[]):∃ T,Xs S T ts ts.length:=by
 have z:=Zk8 h
 obtain ⟨T,e,m⟩:=Qd (L:=S) (ts:=ts) fun t ht=>by
  obtain ⟨i,hi,rfl⟩:=List.getElem_of_mem ht
  have:=z i hi
  rw [Ne,V0 hi] at this
  obtain ⟨p,hp⟩:=Classical.not_forall.mp this
  obtain ⟨hp,e⟩:=Classical.not_imp.mp hp
  exact List.mem_map.mpr ⟨p,hp,Classical.not_not.mp e⟩
 exact ⟨T,m,by rw [e,List.take_length]⟩
theorem Xs.len {S T:List Pr} {ts:List Int} {i:Nat} (h:Xs S T ts i) (hi:i<=ts.length):T.length=i:=by
 have:=congrArg List.length h.2
 unfold Yc at this
 rw [List.length_map,List.length_take] at this
 omega
theorem Nr {S:List Pr} (fr:Free S):∀ {T U:List Pr},(∀ p∈T,p∈S)->(∀ p∈U,p∈S)->Yc T=Yc U->T=U
 | [],[],_,_,_=>rfl
 | [],_::_,_,_,e=>by cases e
 | _::_,[],_,_,e=>by cases e
 | p::T,q::U,h1,h2,e=>by
  injection e with e1 e2
  rw [Zgc fr (h1 p List.mem_cons_self) (h2 q List.mem_cons_self) e1,Nr fr (fun x hx=>h1 x (List.mem_cons_of_mem _ hx)) (fun x hx=>h2 x (List.mem_cons_of_mem _ hx)) e2]
theorem Xs.one {S T U:List Pr} {ts:List Int} {i:Nat} (fr:Free S) (h:Xs S T ts i) (g:Xs S U ts i):T=U:=Nr fr h.1 g.1 (h.2.trans g.2.symm)
def Zb4 (C Cn:Addr):Sp:=fun vs H Q E=>∃ (x xa:Addr) (S:List Pr) (ts:List Int),vs=[.ref x,.ref xa]/\Rw C H x S/\Fits S/\H xa=some (.lst (ts.map V.int))/\ts.length<=1000 /\
 (∀ (T:List Pr) (l:Addr) (H':Hp),Xs S T ts ts.length->H l=none->Same H H'->H' l=some (.lst ((Wj T).map V.int))->Q (.ref l) H') /\
 (∀ (i:Nat) (T:List Pr) (d:Addr) (H':Hp),i < ts.length->Xs S T ts i->Wm S ts i=true->H d=none->Same H H'->H' d=some (.ext (xdP d [("at",.int i)]))->E (.ref Cn) (some d) H')
theorem Vp.perm {H:Hp} {k:List (Key×V)} {S L:List Pr} (h:Vp H k L) (p:S.Perm L):Vp H k S:=⟨fun q hq=>h.1 q (p.mem_iff.mp hq),fun s hs=>h.2 s fun q hq=>hs q (p.mem_iff.mpr hq)⟩
theorem Vp.same {H H':Hp} {k:List (Key×V)} {S:List Pr} (h:Vp H k S) (s:Same H H'):Vp H' k S:=⟨fun q hq=>let ⟨t,a,b⟩:=h.1 q hq; ⟨t,a,s _ _ b⟩,h.2⟩
end L2
namespace L2
open PySem PySem.Spec PyProof.Rows
section
variable {K:Type} [DecidableEq K] {A:Around} {s:Shared}
inductive HitsH (A:Around) (s:Shared) (kb:List (K×Addr×Value)):List (K×Addr×Value)->Bool->Prop
 | nil:HitsH A s kb [] true
 | miss {k:K} {a:Addr} {v:Value} {r:List (K×Addr×Value)}:(∀ (j:Nat) (p:Addr×Value),kb[j]?≠some (k,p))->HitsH A s kb ((k,a,v)::r) false
 | hit {k:K} {a:Addr} {v:Value} {r:List (K×Addr×Value)} {j:Nat} {p:Addr×Value} {e b:Bool}:kb[j]?=some (k,p)->SeqAt.EqAt A s v p.2 e->HitsH A s kb r b->HitsH A s kb ((k,a,v)::r) (e && b)
end
end L2
namespace L2
open PySem PySem.W PySem.Spec PyProof.Rows
def MetE (P:Program) (w:World) (K:W.Frag) (mg:Str->Option Value) (base:Heap) (C:Addr) (m:Str) (k:Nat) (ps:List Str) (sp:Sp):Prop :=
 ∃ f fd,Cls K C/\Meth K C m f/\FnOk P w K mg base (CXE P w) k f fd ps sp/\Vn K fd ps []
section
variable {X:Cx} {C:Addr} {k:Nat} {ps:List Str} {sp:Sp} {x m:Str} {p pos apos:Pos} {e o:Expr} {es:List Expr} {ta:TE} {t:TA} {E:XK} {pins:List (Addr×Obj)} {σ:St}
theorem Zce {pl:Sem Bool} (he:PE X o ta) (M:MetE X.prog X.w X.K X.mg X.base C m k ps sp) (hr:Room k X.A) (hx:Ur (CXE X.prog X.w) X E) (ha:PA X (e::es) t)
  (hst:starEach (e::es) X.env=(false,eval e X.env)::starEach es X.env:=by rfl) (hpl:(backTo pos (starEach es X.env)).any (·.1)=false:=by rfl)
  (ht:eval (.Call (.Attribute o m apos) (e::es) [] pos) X.env=(do
   let ov <- eval o X.env
   standAt apos.atName
   let (f,first) <- holding [ov] (getMethod ov m pl)
   callWith pos f first (backTo pos (starEach (e::es) X.env)) (backToKw pos (keywordEach [] X.env))):=by rfl) :
  PE X (.Call (.Attribute o m apos) (e::es) [] pos) (Zc8 C m sp [] E ta t):=by
 obtain ⟨f,fd,c,hm,F,hb⟩:=M
 exact Zfe he c hm F hr hb .nil hx ha hst hpl ht
theorem Zfc {pl:Sem Bool} (he:PE X o ta) (M:MetE X.prog X.w X.K X.mg X.base C m k ps sp) (hr:Room k X.A) (hx:Pz (CXE X.prog X.w) X pins σ E) (ha:PA X (e::es) t)
  (hst:starEach (e::es) X.env=(false,eval e X.env)::starEach es X.env:=by rfl) (hpl:(backTo pos (starEach es X.env)).any (·.1)=false:=by rfl)
  (ht:eval (.Call (.Attribute o m apos) (e::es) [] pos) X.env=(do
   let ov <- eval o X.env
   standAt apos.atName
   let (f,first) <- holding [ov] (getMethod ov m pl)
   callWith pos f first (backTo pos (starEach (e::es) X.env)) (backToKw pos (keywordEach [] X.env))):=by rfl) :
  PEF X pins σ (.Call (.Attribute o m apos) (e::es) [] pos) (Zc8 C m sp [] E ta t):=by
 intro s H Q I h
 obtain ⟨f,fd,c,hm,F,hb⟩:=M
 refine W.methodCall_KW (pl:=pl) (thn (he pins s σ H _ I h) fun u s1 ⟨x,H1,I1,rx,a,dx,fs,ex,ea,l,q⟩=>?_) ht
 subst ex
 obtain rfl:u=Value.ref a:=rx
 refine Qo I1 ea c hm l ?_
 refine W.callWith_K (first:=[.ref a]) (h₀:=X.base) I.ok.mod.kin hm.kp (thn (ha pos pins s1 σ H1 _ I1 q) fun us s2 ⟨vs,H2,I2,r,q2⟩=>⟨I2.kIn,?_⟩) hst hpl
 exact Zkj (us:=.ref a::us) (vs:=.ref a::vs) F hr hb hx I2 (.cons rfl r) (by have q':sp (V.ref a::vs++[]) H2 Q E:=q2; rw [List.append_nil] at q'; exact q')
theorem MetE.calm {P:Program} {w:World} {K:W.Frag} {mg:Str->Option Value} {base:Heap} {sp':Sp} (M:MetE P w K mg base C m k ps sp) (h:∀ vs H Q E,sp' vs H Q E->sp vs H Q E0):Met P w K mg base C m k ps sp':=by
 obtain ⟨f,fd,c,hm,F,hb⟩:=M
 exact ⟨f,fd,c,hm,F.calm h,hb⟩
theorem Zn1 (M:Mkr X.prog X.w X.K X.mg X.base x C k ps sp) (hr:Room (k + 1) X.A) (hg:Gl X x) (hdb:(x == ("__debug__":Str))=false:=by decide):PE X (.Call (.Name x p) [] [] pos) (Zc9 C sp [] E0 tNil):=by
 obtain ⟨f,fd,hm,F,g,hb⟩:=M
 exact Zhx hm F hr hg g hb .nil Zh0 hdb
end
section
variable {X:Cx}
def Ze5:List V->Hp->VK->Prop:=fun xs H Q=>∃ (d:Addr) (kvs:List (Key×V)),xs=[.ref d]/\Rd H d (.dK kvs)/\∀ (l:Addr),H l=none->Q (.ref l) (upd H l (.lst (kvs.map fun kv=>kV kv.1)))
theorem Zd3:∀ {us:List Value} {vs:List V},us.length=vs.length->(∀ (j:Nat) (u:Value) (v:V),us[j]?=some u->vs[j]?=some v->RelV v u)->Vals vs us
 | [],[],_,_=>.nil
 | u::us,v::vs,hl,h=>.cons (h 0 u v rfl rfl) (Zd3 (by simpa using hl) fun j u v e1 e2=>h (j + 1) u v e1 e2)
theorem Zbp (hc:X.calm=true):Vc X (.type "list") Ze5:=by
 intro pins s σ H xs us Q I r h
 obtain ⟨d,kvs,rfl,rd,q⟩:=h
 obtain ⟨u,rfl,rx⟩:=Tj r
 cases rx
 obtain ⟨hz,lo,vs,rel,dof⟩:=N7 I.hok rd
 obtain ⟨ep,da⟩:=dof.dictAt
 have hv:=Paired.length rel
 refine W.kdl_call (kdl_dict (knd:=Yr X.prog X.w) (kvs:=vs) (ep:=ep) lo) (I.ok.hd hc) da (by rw [<- hv]; exact hz) fun h' tk acc' c' kp e' hacc=>?_
 have hal:acc'.toList.length=vs.length:=by rw [Array.length_toList]; exact hacc.1
 refine ⟨.ref s.heap.objs.size,_,I.laid (t':=tk) (o:=.lst (kvs.map fun kv=>kV kv.1)) kp (Nat.le_refl _) ⟨by rw [List.length_map]; exact hz,acc'.toList,c',?_,by simpa using e'⟩,rfl,q _ (I.hok.fresh (Nat.le_refl _))⟩
 refine Zd3 (by rw [hal,List.length_map]; omega) fun j u v e1 e2=>?_
 obtain ⟨k,x,e3,e4⟩:=hacc.2 j u (by rw [<- Array.getElem?_toList]; exact e1)
 have hj:j < vs.length:=(List.getElem?_eq_some_iff.mp e3).1
 have hr:=L2.Paired.at rel (by omega:j < kvs.length) hj
 rw [List.getElem?_map,List.getElem?_eq_getElem (by omega:j < kvs.length)] at e2
 cases e2
 rw [List.getElem?_eq_getElem hj] at e3
 have e5:=Option.some.inj e3
 show RelV (kV kvs[j].1) u
 rw [hr.1,e5]
 rcases Yg (show Q9 k u=true from e4) with ⟨i,t,rfl,rfl⟩ | ⟨y,t,rfl,rfl⟩
 ·exact ⟨t,rfl⟩
 ·exact ⟨t,rfl⟩
end
section
variable {X:Cx}
def Znw (K:W.Frag):R2:=fun x y H Q=>∃ a b ys,x=.ref a/\y=.ref b/\SqT K H a []/\SqT K H b ys/\Q (.ref b) H
theorem Zk0:OpR X (binaryOp .Add) (Znw X.K):=by
 intro pins s σ H x y v u Q I rx ry h
 obtain ⟨a,b,ys,rfl,rfl,ha,hb,q⟩:=h
 cases rx
 cases ry
 obtain ⟨its,r1,p1,_⟩:=I.tuple ha
 obtain ⟨its2,r2,p2,_⟩:=I.tuple hb
 cases r1
 obtain ⟨⟨cls,dd,data,sl⟩,ho,hc,n,hd⟩:=id p1
 obtain ⟨⟨cls2,dd2,data2,sl2⟩,ho2,hc2,n2,hd2⟩:=id p2
 simp only at hc hd hc2 hd2
 subst hc hd hc2 hd2
 exact concat_meets ⟨_,ho,rfl⟩ ⟨_,ho2,rfl⟩ noFill_tuple_add seq_tuple_add PySem.F.slot_tuple_add PySem.F.entry_tuple_add (PySem.F.args_tuple_add_2 _ _)
  (tuple_addW0 a b _ its2.toArray n n2 dd dd2 sl sl2 rfl) ⟨ho,ho2,⟨.ref b,H,I,rfl,q⟩⟩
end
end L2
namespace L2
open PySem PySem.Spec PyProof.Rows
def ItdI (d:Addr) (o:Obj) (kvs:List (Key×V)):It:=⟨fun i H=>H d=some (.frz o (.dK kvs))/\i < kvs.length,fun i H x H'=>∃ (t:Addr) (kv:Key×V),x=.ref t/\H t=none/\H'=upd H t (.tup [kV kv.1,kv.2])/\kvs[i]?=some kv,fun i H=>H d=some (.frz o (.dK kvs))/\kvs.length<=i⟩
theorem Zc7 {P:Program} {w:World} {K:W.Frag} {elts:List Expr} {x1:Nat} {pos:Pos} (d:Addr) (o:Obj) (kvs:List (Key×V)) {es0:Array DictEntry} {ep:Nat} (hep:o.data=.dict es0 ep) (it:Addr):Turn P w K (.Tuple elts x1 pos) (ItdI d o kvs) [it] it (fun i h=>∃ ok ov,IsItemIter h it d i kvs.length ep ok ov) where
 mem:=by simp
 obj:=fun i h st b hb=>by
  obtain rfl:b=it:=by simpa using hb
  obtain ⟨ok,ov,e⟩:=st
  exact ⟨_,e,fun v z=>by
   have z':Data.fields _=Data.cell v:=z
   cases z'⟩
 keep:=fun i h h' st k=>let ⟨ok,ov,e⟩:=st; ⟨ok,ov,k it (by simp) _ e⟩
 item:=by
  intro X hP hw hK hc i pins s σ H E I hf st hg
  subst hP hw hK
  obtain ⟨ok,ov,st⟩:=st
  obtain ⟨hd,hi⟩:=hg
  obtain ⟨_,_,vs,r,da⟩:=Zcm I.hok hd hep
  have hl:=Paired.length r
  have hi2:i < vs.length:=by omega
  have hr:=L2.Paired.at r hi hi2
  rw [hl] at st
  refine wpAny_pyNext_items_item (k:=vs[i].1) (v:=vs[i].2) st da (by rw [List.getElem?_eq_getElem hi2]) fun key h1 hk st1 et hsz hkp=>?_
  have he:it < s.heap.objs.size:=Heap.lt_size st
  refine ⟨_,rfl,wpAny_letOwnedTupleGo_items st1 fun h2 st2 sb=>?_⟩
  replace sb:Heap.SameBut it h1 h2:=sb
  have fr:H s.heap.objs.size=none:=I.fresh
  have Il:Inv X pins σ (upd H s.heap.objs.size (.tup [kV kvs[i].1,kvs[i].2])) { s with heap:=s.heap.push { cls:=.type "tuple",data:=.seq #[key,vs[i].2] },toks:=s.toks }:=I.laid (fun b o q=>Heap.get?_push_of_some _ q) (Nat.le_refl _)
   ⟨by show 2<=sizeLine; decide,[key,vs[i].2],.cons (by rw [hr.1]; exact Zlc hk) (.cons hr.2 .nil),⟨_,Heap.get?_push_size _ rfl,rfl,_,rfl,rfl⟩⟩
  obtain ⟨f0,f⟩:=hf it (by simp)
  have up:FpOk X pins (upd H s.heap.objs.size (.tup [kV kvs[i].1,kvs[i].2])) it:=⟨by rw [Zm (Nat.ne_of_lt he)]; exact f0,f⟩
  have I2:Inv X pins σ (upd H s.heap.objs.size (.tup [kV kvs[i].1,kvs[i].2])) { s with heap:=h2,toks:=s.toks }:=by
   obtain ⟨g0,g1,g2,g3,g4,g5⟩:=up
   refine Inv.turned (s:={ s with heap:=s.heap.push { cls:=.type "tuple",data:=.seq #[key,vs[i].2] },toks:=s.toks }) (h':=h2) (t':=s.toks) Il (fun b o hb q=>?_) g0 g1 g3 g4 g5
   rcases Heap.get?_push_cases q with ⟨z1,z2⟩ | q
   ·subst z1 z2
    exact (sb.2 _ hb).trans et
   ·exact (sb.2 _ hb).trans (hkp b o hb q)
  rw [<- hl] at st2
  exact ⟨.ref s.heap.objs.size,_,I2,rfl,⟨_,kvs[i],rfl,fr,rfl,List.getElem?_eq_getElem hi⟩,⟨_,_,st2⟩,fun b hb=>by
   have e:b=it:=by simpa using hb
   rw [e]
   exact up.1⟩
 done:=by
  intro X hP hw hK hc i pins s σ H E I hf st hg
  subst hP hw hK
  obtain ⟨ok,ov,st⟩:=st
  obtain ⟨f0,f1,f2,f3,f4,f5⟩:=hf it (by simp)
  obtain ⟨hd,hi⟩:=hg
  obtain ⟨_,_,vs,r,da⟩:=Zcm I.hok hd hep
  have hl:=Paired.length r
  rw [hl] at st
  exact wpAny_pyNext_items_end (I.ok.hd hc) st da (by simp; omega) fun h' eb=>⟨rfl,I.turned (t':=s.toks) (fun b o hb e=>eb b o hb e) f0 f1 f3 f4 f5⟩
 self:=fun _ _ _ _ _ st h=>by
  obtain ⟨ok,ov,q⟩:=st
  exact W.kcp_self q h
section
variable {X:Cx} {elts:List Expr} {x1:Nat} {pt:Pos}
def Zjm (tl:TE):TI:=fun σ H R=>tl σ H fun x H1=>∃ d kvs,x=.ref d/\H1 d=some (.dK kvs)/\∀ o,R (ItdI d o kvs) (upd H1 d (.frz o (.dK kvs)))
theorem Zhu {l:Expr} {tl:TE} {apos cpos:Pos} (hl:PE X l tl) (hbase:attributeBase l "items" X.env (eval l X.env)=eval l X.env:=by rfl) (hline:(apos.endLine == cpos.line)=true:=by rfl) :
  PI X (.Tuple elts x1 pt) (.Call (.Attribute l "items" apos) [] [] cpos) (Zjm tl):=by
 intro pins s σ H R I h
 refine wpAny_Call_method0_late hbase hline (thn (hl pins s σ H _ I h) fun v s1 ⟨x,H1,I1,r1,q1⟩=>?_)
 obtain ⟨d,kvs,e,e1,q⟩:=q1
 subst e
 cases r1
 obtain ⟨z,hd,vs,r,ob,es,ep,e3,c,dd,rest⟩:=I1.hok d _ e1
 have dof:s1.heap.DictOf (Yr X.prog X.w) d vs:=⟨ob,es,ep,e3,c,dd,rest⟩
 have hl:=Paired.length r
 have tyd:tyV X.K "dict" (.ref d) H1:=.inr (.inr (.inl ⟨rfl,.inl ⟨kvs,e1⟩⟩))
 obtain ⟨h1,h2⟩:=Zix I1 (x:=.ref d) (v:=.ref d) rfl tyd
 refine ⟨"dict", "dict.items",PySem.F.plainAttrs_dict,PySem.F.slot_dict_items,PySem.F.type_dict_items,h1,h2,Calls.callWith_builtin rfl (PySem.evalArgs_none ?_)⟩
 refine call_meetsIn PySem.F.slot_dict_items dof.typeIs PySem.F.entry_dict_items (PySem.F.args_dict_items_1 _) (meets_dict_items (Yr X.prog X.w) d hd) ⟨⟨vs,dof⟩,?_⟩
 have I2:Inv X pins σ (upd H1 d (.frz ob (.dK kvs))) { s1 with heap:=s1.heap,toks:=s1.toks }:=I1.write (x:=d) (e:=d) (by rw [e1]; exact trivial) (.inl rfl) (fun b u _ h=>h) ⟨_,e3⟩ ⟨e3,z,hd,vs,r,ob,es,ep,e3,c,dd,rest⟩
 have I3:Inv X pins σ (upd H1 d (.frz ob (.dK kvs))) { s1 with heap:=s1.heap.push { cls:=.type "dict_items",data:=.fields #[.ref d] },toks:=s1.toks }:=I2.kept (t':=s1.toks) fun b o e=>Heap.get?_push_of_some _ e
 refine wpAny_pyIter_items (knd:=Yr X.prog X.w) (kvs:=vs) (ep:=ep) ⟨_,Heap.get?_push_size _ rfl,rfl,rfl⟩ ⟨ob,es,Heap.get?_push_of_some _ e3,c,dd,rest⟩ ?_
 refine ⟨_,[_],_,_,upd H1 d (.frz ob (.dK kvs)),rfl,I3.kept (t':=s1.toks) fun b o e=>Heap.get?_push_of_some _ e,Zc7 d ob kvs dd _,?_,fun b hb=>?_,q ob⟩
 ·rw [hl]
  exact ⟨_,_,Heap.get?_push_size _ rfl⟩
 ·rw [List.mem_singleton.mp hb]
  exact I3.fpOk (Nat.le_refl _) (I3.hok.fresh (Nat.le_refl _))
theorem Inv.thaw {pins:List (Addr×Obj)} {σ σ0:St} {H H1:Hp} {s s1:Shared} {d:Addr} {kvs kvs0:List (Key×V)} {o:Obj} (I0:Inv X pins σ0 H s) (e0:H d=some (.dK kvs0)) (I:Inv X pins σ H1 s1) (e1:H1 d=some (.frz o (.dK kvs))):Inv X pins σ (upd H1 d (.dK kvs)) s1:=by
 have nf:∀ o u,X.H₀ d≠some (.frz o u):=fun o u z=>by
  have:=I0.base.frzs d o u z
  rw [e0] at this
  cases this
 have ne:∀ b,H1 b=none->b≠d:=fun b n z=>by rw [z,e1] at n; cases n
 obtain ⟨e2,z,hd,vs,r,ob,es,ep,e3,rest⟩:=(show Y3 X.prog X.w H1 s1.heap d (.frz o (.dK kvs)) from I.hok d _ e1)
 refine ⟨I.ok,I.os,I.bare,⟨I.base.keep,I.base.slot,fun b o q n hx=>?_,I.base.there,fun b xs q=>?_,fun b o u q=>?_,fun b ps q=>?_⟩,I.loc,I.cell,?_,fun x c q=>?_,fun p hp=>?_,fun b u q=>?_,I.len⟩
 ·have:=I.base.free b o q n hx
  rw [Zm (ne b this)]
  exact this
 ·have:=I.base.tups b xs q
  rw [Zm (fun w=>by rw [w,e1] at this; cases this)]
  exact this
 ·have:=I.base.frzs b o u q
  rw [Zm (fun w=>nf o u (by rw [<- w]; exact q))]
  exact this
 ·obtain ⟨more,this⟩:=I.base.tbls b ps q
  refine ⟨more,?_⟩
  rw [Zm (fun w=>by rw [w,e1] at this; cases this)]
  exact this
 ·rw [Zm (ne _ I.free)]
  exact I.free
 ·have:=I.freeC x c q
  rw [Zm (ne _ this)]
  exact this
 ·obtain ⟨p1,p2,p3⟩:=I.pin p hp
  exact ⟨p1,by rw [Zm (ne _ p2)]; exact p2,p3⟩
 ·by_cases w:b=d
  ·subst w
   rw [Zg] at q
   cases q
   exact ⟨z,hd,vs,r,ob,es,ep,e3,rest⟩
  ·rw [Zm w] at q
   refine (I.hok b u q).stay (fun c v hc q'=>q') (fun y q'=>?_) fun c xs q'=>?_
   ·rw [Zm (fun w'=>by rw [w',e1] at q'; cases q')]
    exact q'
   ·rw [Zm (fun w'=>by rw [w',e1] at q'; cases q')]
    exact q'
def Znp (t:TS):TS:=fun D σ H=>∃ d kvs0,H d=some (.dK kvs0)/\t { D with nx:=fun σ' H1=>∃ o kvs,H1 d=some (.frz o (.dK kvs))/\D.nx σ' (upd H1 d (.dK kvs)) } σ H
theorem Zkp {st:Stmt} {t:TS} (h:PS X st t):PS X st (Znp t):=by
 intro pins s σ H D I hq
 obtain ⟨d,kvs0,e0,hq⟩:=hq
 refine wpAny_mono (h pins s σ H _ I hq) (fun f s1 h1=>?_) fun _ _ z=>z
 cases f with
 | next =>
  obtain ⟨σ',H1,I1,o,kvs,e1,q⟩:=h1
  exact ⟨σ',_,I.thaw e0 I1 e1,q⟩
 | brk=>exact h1
 | cont=>exact h1
 | ret u=>exact h1
end
section
variable {X:Cx} {pins:List (Addr×Obj)} {σ:St} {c:Expr} {a b:List Stmt} {tc:TT} {t u:TS} {pos:Pos}
theorem Zjf (hc:PT X c tc) (ha:PSF X pins σ a t) (hb:PSF X pins σ b u):PSF1 X pins σ (.If c a b pos) (tIfS tc t u):=by
 intro s H D I h
 refine wpAny_If (thn (hc pins s σ H _ I h) fun d s1 ⟨H1,I1,q1⟩=>?_)
 cases d with
 | true=>exact ha s1 H1 D I1 q1
 | false=>exact hb s1 H1 D I1 q1
end
section
variable {X:Cx}
def Zav (K:W.Frag):V->List V->Hp->VK->Prop:=fun x xs H Q=>∃ (p:Addr) (ys:List V) (y:V) (ds:List PyData) (d:PyData),x=.ref p/\xs=[y]/\SqL K H p ys/\DVs K H ys ds/\DV K H y d/\PyData.canLayAll0 ds=true/\d.canLay0=true/\d.depth<=60/\Q (.int ((ds.countP fun z=>PyData.eqv z d:Nat):Int)) H
theorem Zfr (hu:X.A.units + 64 < cLine):MtR X "list.count" (Zav X.K):=by
 intro pins s σ H x xs v us Q I rx r h
 obtain ⟨p,ys,y,ds,d,rfl,rfl,hq,hd,hy,c1,c2,dd,q⟩:=h
 cases rx
 obtain ⟨u,rfl,ru⟩:=Tj r
 obtain ⟨its,rv,⟨o,n,e,c,dt,hd'⟩,_⟩:=I.list hq
 obtain ⟨as,ra⟩:=dvs_reads I hd rv
 obtain ⟨bs,rb⟩:=Uk I hy ru
 obtain ⟨oc,od,oda,osl⟩:=o
 dsimp only at c dt hd'
 subst c
 subst hd'
 refine call_meets PySem.F.slot_list_count ⟨_,e,rfl⟩ PySem.F.entry_list_count (PySem.F.args_list_count_2 _ _) (SeqAt.list_countAt p its.toArray n od osl u (fun y=>PyData.eqv (SeqAt.readOf s.heap y) d)) ⟨e,SeqAt.items_eqAt (by simpa using ra) rb c1 c2 (by have:=Nat.min_le_right (PyData.depthAll ds) d.depth; omega),?_⟩
 refine ⟨.int _,H,I.tok _,⟨_,rfl⟩,?_⟩
 have em:=SeqAt.readsAll_map ds its as c1 ra
 have ec:its.countP (fun y=>PyData.eqv (SeqAt.readOf s.heap y) d)=ds.countP fun z=>PyData.eqv z d:=by
  rw [<- em,List.countP_map]
  rfl
 show Q (.int ((its.toArray.toList.countP _:Nat):Int)) H
 rw [show its.toArray.toList=its from rfl,ec]
 exact q
end
end L2
namespace L3
open PySem L2
structure Cf where
 c:Addr
 k:W.Frag
inductive D where
 | non | bl (b:Bool) | int (i:Int) | str (x:Str) | ty (n:String) | at (a:Addr)
 | tup (xs:List D) | lst (xs:List D) | frz (xs:List D) | dct (kvs:List (Key×D)) | dcT (kvs:List (List Key×D))
 | code (S:List Pr) | cell (k:Nat) | exc (C:Addr) (fs:List (Str×D))
inductive MO where
 | lst (xs:List D) | dct (kvs:List (Key×D)) | dcT (kvs:List (List Key×D)) | drK (kvs:List (Key×D)) | drT (kvs:List (List Key×D)) | dfT (o:Obj) (vs:List (List Key×V)) (kvs:List (List Key×D)) | dfK (o:Obj) (vs:List (Key×V)) (kvs:List (Key×D)) | ins (C:Addr) (fs:List (Str×D)) | hand | tab (P:Addr) (pos:Pos) (q:Str)
abbrev Mem:=List MO
mutual
inductive Rep (C:Cf) (I:Hp) (α:List Addr):V->D->Prop where
 | non:Rep C I α .non .non
 | bl (b:Bool):Rep C I α (.bl b) (.bl b)
 | int (i:Int):Rep C I α (.int i) (.int i)
 | str (x:Str):Rep C I α (.str x) (.str x)
 | ty (n:String):Rep C I α (.ty n) (.ty n)
 | at (a:Addr):Rep C I α (.ref a) (.at a)
 | tup {a:Addr} {vs:List V} {ds:List D}:I a=some (.tup vs)->Reps C I α vs ds->Rep C I α (.ref a) (.tup ds)
 | lst {a:Addr} {vs:List V} {ds:List D}:I a=some (.lst vs)->Reps C I α vs ds->Rep C I α (.ref a) (.lst ds)
 | frz {a:Addr} {vs:List V} {ds:List D}:SqL C.k I a vs->Reps C I α vs ds->Rep C I α (.ref a) (.frz ds)
 | dct {a:Addr} {vs:List (Key×V)} {ds:List (Key×D)}:I a=some (.dK vs)->RepK C I α vs ds->Rep C I α (.ref a) (.dct ds)
 | dcT {a:Addr} {vs:List (List Key×V)} {ds:List (List Key×D)}:I a=some (.dT vs)->RepT C I α vs ds->Rep C I α (.ref a) (.dcT ds)
 | code {x:Addr} {S:List Pr}:Rw C.c I x S->Rep C I α (.ref x) (.code S)
 | cell {a:Addr} {k:Nat}:α[k]?=some a->Rep C I α (.ref a) (.cell k)
 | exc {ea d Ce:Addr} {vs:List (Str×V)} {fs:List (Str×D)}:I ea=some (.ext (excP ea Ce (some d)))->I d=some (.ext (xdP d vs))->RepF C I α vs fs->Rep C I α (.ref ea) (.exc Ce fs)
inductive Reps (C:Cf) (I:Hp) (α:List Addr):List V->List D->Prop where
 | nil:Reps C I α [] []
 | cons {v:V} {d:D} {vs:List V} {ds:List D}:Rep C I α v d->Reps C I α vs ds->Reps C I α (v::vs) (d::ds)
inductive RepK (C:Cf) (I:Hp) (α:List Addr):List (Key×V)->List (Key×D)->Prop where
 | nil:RepK C I α [] []
 | cons {k:Key} {v:V} {d:D} {vs:List (Key×V)} {ds:List (Key×D)}:Rep C I α v d->RepK C I α vs ds->RepK C I α ((k,v)::vs) ((k,d)::ds)
inductive RepF (C:Cf) (I:Hp) (α:List Addr):List (Str×V)->List (Str×D)->Prop where
 | nil:RepF C I α [] []
 | cons {k:Str} {v:V} {d:D} {vs:List (Str×V)} {ds:List (Str×D)}:Rep C I α v d->RepF C I α vs ds->RepF C I α ((k,v)::vs) ((k,d)::ds)
inductive RepT (C:Cf) (I:Hp) (α:List Addr):List (List Key×V)->List (List Key×D)->Prop where
 | nil:RepT C I α [] []
 | cons {k:List Key} {v:V} {d:D} {vs:List (List Key×V)} {ds:List (List Key×D)}:Rep C I α v d->RepT C I α vs ds->RepT C I α ((k,v)::vs) ((k,d)::ds)
end
section
variable {C:Cf} {I I':Hp} {α α':List Addr}
theorem Zaz {k:Nat} {a:Addr} (p:α<+:α') (h:α[k]?=some a):α'[k]?=some a:=by
 obtain ⟨t,rfl⟩:=p
 obtain ⟨hk,_⟩:=List.getElem?_eq_some_iff.mp h
 rw [List.getElem?_append_left hk]
 exact h
mutual
theorem Rep.mono (s:Same I I') (p:α<+:α'):∀ {v:V} {d:D},Rep C I α v d->Rep C I' α' v d
 | _,_,.non=>.non
 | _,_,.bl b=>.bl b
 | _,_,.int i=>.int i
 | _,_,.str x=>.str x
 | _,_,.ty n=>.ty n
 | _,_,.at a=>.at a
 | _,_,.tup e r=>.tup (s _ _ e) (Reps.mono s p r)
 | _,_,.lst e r=>.lst (s _ _ e) (Reps.mono s p r)
 | _,_,.frz e r=>.frz (s.seq e) (Reps.mono s p r)
 | _,_,.dct e r=>.dct (s _ _ e) (RepK.mono s p r)
 | _,_,.dcT e r=>.dcT (s _ _ e) (RepT.mono s p r)
 | _,_,.code h=>.code (h.same s)
 | _,_,.cell e=>.cell (Zaz p e)
 | _,_,.exc e f r=>.exc (s _ _ e) (s _ _ f) (RepF.mono s p r)
theorem Reps.mono (s:Same I I') (p:α<+:α'):∀ {vs:List V} {ds:List D},Reps C I α vs ds->Reps C I' α' vs ds
 | _,_,.nil=>.nil
 | _,_,.cons h r=>.cons (Rep.mono s p h) (Reps.mono s p r)
theorem RepK.mono (s:Same I I') (p:α<+:α'):∀ {vs:List (Key×V)} {ds:List (Key×D)},RepK C I α vs ds->RepK C I' α' vs ds
 | _,_,.nil=>.nil
 | _,_,.cons h r=>.cons (Rep.mono s p h) (RepK.mono s p r)
theorem RepF.mono (s:Same I I') (p:α<+:α'):∀ {vs:List (Str×V)} {ds:List (Str×D)},RepF C I α vs ds->RepF C I' α' vs ds
 | _,_,.nil=>.nil
 | _,_,.cons h r=>.cons (Rep.mono s p h) (RepF.mono s p r)
theorem RepT.mono (s:Same I I') (p:α<+:α'):∀ {vs:List (List Key×V)} {ds:List (List Key×D)},RepT C I α vs ds->RepT C I' α' vs ds
 | _,_,.nil=>.nil
 | _,_,.cons h r=>.cons (Rep.mono s p h) (RepT.mono s p r)
end
theorem Reps.length:∀ {vs:List V} {ds:List D},Reps C I α vs ds->vs.length=ds.length
 | _,_,.nil=>rfl
 | _,_,.cons _ r=>by rw [List.length_cons,List.length_cons,Reps.length r]
theorem Reps.get:∀ {vs:List V} {ds:List D} {i:Nat} {d:D},Reps C I α vs ds->ds[i]?=some d->∃ v,vs[i]?=some v/\Rep C I α v d
 | _,_,_,_,.nil,e=>by simp at e
 | _,_,0,_,.cons r _,e=>by simp at e; subst e; exact ⟨_,rfl,r⟩
 | _,_,i + 1,d,.cons _ t,e=>by
  obtain ⟨u,h1,h2⟩:=Reps.get (i:=i) (d:=d) t (by simpa using e)
  exact ⟨u,by simpa using h1,h2⟩
theorem Reps.at:∀ {vs:List V} {ds:List D} {i:Nat},Reps C I α vs ds->(h1:i < vs.length)->(h2:i < ds.length)->Rep C I α vs[i] ds[i]:=fun {vs ds i} r h1 h2=>by
 obtain ⟨v,e,z⟩:=r.get (List.getElem?_eq_getElem h2)
 rw [List.getElem?_eq_getElem h1] at e
 cases e
 exact z
theorem Reps.app:∀ {vs ws:List V} {ds es:List D},Reps C I α vs ds->Reps C I α ws es->Reps C I α (vs++ws) (ds++es)
 | _,_,_,_,.nil,s=>s
 | _,_,_,_,.cons r t,s=>.cons r (Reps.app t s)
theorem Reps.one {v:V} {d:D} (h:Rep C I α v d):Reps C I α [v] [d]:=.cons h .nil
theorem Reps.take:∀ {vs:List V} {ds:List D} (n:Nat),Reps C I α vs ds->Reps C I α (vs.take n) (ds.take n)
 | _,_,0,_=>.nil
 | _,_,_ + 1,.nil=>.nil
 | _,_,n + 1,.cons r t=>.cons r (Reps.take n t)
theorem Reps.drop:∀ {vs:List V} {ds:List D} (n:Nat),Reps C I α vs ds->Reps C I α (vs.drop n) (ds.drop n)
 | _,_,0,r=>r
 | _,_,_ + 1,.nil=>.nil
 | _,_,n + 1,.cons _ t=>Reps.drop n t
theorem Reps.set {v:V} {d:D} (r:Rep C I α v d):∀ {vs:List V} {ds:List D} (i:Nat),Reps C I α vs ds->Reps C I α (vs.set i v) (ds.set i d)
 | _,_,_,.nil=>.nil
 | _,_,0,.cons _ t=>.cons r t
 | _,_,i + 1,.cons q t=>.cons q (Reps.set r i t)
theorem Reps.rev {vs:List V} {ds:List D} (h:Reps C I α vs ds):Reps C I α vs.reverse ds.reverse:=by
 have go:∀ {vs ws:List V} {ds es:List D},Reps C I α vs ds->Reps C I α ws es->Reps C I α (vs.reverse++ws) (ds.reverse++es):=by
  intro vs
  induction vs with
  | nil=>intro ws ds es h1 h2; cases h1; exact h2
  | cons v vs ih =>
   intro ws ds es h1 h2
   cases h1 with
   | cons a b =>
    rw [List.reverse_cons,List.append_assoc,List.reverse_cons,List.append_assoc]
    exact ih b (.cons a h2)
 have:=go h .nil
 rwa [List.append_nil,List.append_nil] at this
theorem Reps.ints:∀ (ns:List Int),Reps C I α (ns.map V.int) (ns.map D.int)
 | []=>.nil
 | n::r=>.cons (.int n) (Reps.ints r)
theorem Reps.of_ints:∀ {vs:List V} (ns:List Int),Reps C I α vs (ns.map D.int)->vs=ns.map V.int
 | _,[],h=>by cases h; rfl
 | _,n::r,h=>by
  cases h with
  | cons a b =>
   cases a
   rw [Reps.of_ints r b]
   rfl
end
def MoAt (C:Cf) (I:Hp) (α:List Addr) (H:Hp) (a:Addr):MO->Prop
 | .lst ds=>∃ vs,H a=some (.lst vs)/\Reps C I α vs ds
 | .dct ds=>∃ vs,H a=some (.dK vs)/\RepK C I α vs ds
 | .dcT ds=>∃ vs,H a=some (.dT vs)/\RepT C I α vs ds
 | .drK ds=>∃ vs,Rd H a (.dK vs)/\RepK C I α vs ds
 | .drT ds=>∃ vs,Rd H a (.dT vs)/\RepT C I α vs ds
 | .dfT o vs ds=>H a=some (.frz o (.dT vs))/\RepT C I α vs ds
 | .dfK o vs ds=>H a=some (.frz o (.dK vs))/\RepK C I α vs ds
 | .ins Cl fs=>∃ dx vs,H a=some (.ins Cl dx vs)/\Paired (fun (p:Str×V) (q:Str×D)=>p.1=q.1/\Rep C I α p.2 q.2) vs fs
 | .hand=>∃ (d k:Int) (c:Addr) (cs:List Int),H a=some (.lst [.int d,.int k,.ref c])/\I c=some (.lst (cs.map V.int))/\cs≠[]/\cs.length<=63/\0<=d/\0<=k/\∀ c∈cs,0<=c
 | .tab P pos q=>a=P/\∃ ps,H a=some (.tbl ps)/\TriplesOk ps.toList/\(codeAmong pos ps.toList=none\/∃ c,codeAmong pos ps.toList=some (.ref c)/\I c=some (codeφ c q))
theorem MoAt.some {C:Cf} {I:Hp} {α:List Addr} {H:Hp} {a:Addr} {m:MO} (h:MoAt C I α H a m):∃ o,H a=some o:=by
 cases m with
 | lst ds=>obtain ⟨vs,e,_⟩:=h; exact ⟨_,e⟩
 | dct ds=>obtain ⟨vs,e,_⟩:=h; exact ⟨_,e⟩
 | dcT ds=>obtain ⟨vs,e,_⟩:=h; exact ⟨_,e⟩
 | drK ds=>obtain ⟨vs,e,_⟩:=h; rcases e with e | ⟨o,e⟩ <;> exact ⟨_,e⟩
 | drT ds=>obtain ⟨vs,e,_⟩:=h; rcases e with e | ⟨o,e⟩ <;> exact ⟨_,e⟩
 | dfT o vs ds=>exact ⟨_,h.1⟩
 | dfK o vs ds=>exact ⟨_,h.1⟩
 | ins Cl fs=>obtain ⟨dx,vs,e,_⟩:=h; exact ⟨_,e⟩
 | hand=>obtain ⟨d,k,c,cs,e,_⟩:=h; exact ⟨_,e⟩
 | tab P pos q=>obtain ⟨_,ps,e,_⟩:=h; exact ⟨_,e⟩
theorem MoAt.mono {C:Cf} {I I':Hp} {α α':List Addr} {H H':Hp} {a:Addr} {m:MO} (h:MoAt C I α H a m) (s:Same I I') (p:α<+:α') (e:H' a=H a):MoAt C I' α' H' a m:=by
 cases m with
 | lst ds=>obtain ⟨vs,e1,r⟩:=h; exact ⟨vs,e.trans e1,r.mono s p⟩
 | dct ds=>obtain ⟨vs,e1,r⟩:=h; exact ⟨vs,e.trans e1,r.mono s p⟩
 | dcT ds=>obtain ⟨vs,e1,r⟩:=h; exact ⟨vs,e.trans e1,r.mono s p⟩
 | drK ds=>obtain ⟨vs,e1,r⟩:=h; exact ⟨vs,e1.imp (fun z=>e.trans z) (fun ⟨o,z⟩=>⟨o,e.trans z⟩),r.mono s p⟩
 | drT ds=>obtain ⟨vs,e1,r⟩:=h; exact ⟨vs,e1.imp (fun z=>e.trans z) (fun ⟨o,z⟩=>⟨o,e.trans z⟩),r.mono s p⟩
 | dfT o vs ds=>exact ⟨e.trans h.1,h.2.mono s p⟩
 | dfK o vs ds=>exact ⟨e.trans h.1,h.2.mono s p⟩
 | ins Cl fs=>obtain ⟨dx,vs,e1,r⟩:=h; exact ⟨dx,vs,e.trans e1,Paired.mapP r fun _ _ z=>⟨z.1,z.2.mono s p⟩⟩
 | hand=>obtain ⟨d,k,c,cs,e1,e2,r⟩:=h; exact ⟨d,k,c,cs,e.trans e1,s _ _ e2,r⟩
 | tab P pos q =>
  obtain ⟨eP,ps,e1,t,r⟩:=h
  refine ⟨eP,ps,e.trans e1,t,?_⟩
  rcases r with r | ⟨c,r1,r2⟩
  ·exact .inl r
  ·exact .inr ⟨c,r1,s _ _ r2⟩
abbrev X3:=Addr->List (Str×D)->Mem->Prop
structure Anc where
 i:Hp
 a:List Addr
 xe:XK
 kx:X3
structure Rel (C:Cf) (Z:Anc) (I:Hp) (α:List Addr) (H:Hp) (M:Mem):Prop where
 ai:Same Z.i I
 aa:Z.a<+:α
 sub:Same I H
 len:α.length=M.length
 nd:α.Nodup
 cel:∀ (k:Nat) (a:Addr) (m:MO),α[k]?=some a->M[k]?=some m->MoAt C I α H a m/\I a=none
section
variable {C:Cf} {Z:Anc} {I:Hp} {α:List Addr} {H H':Hp} {M:Mem}
theorem Rel.get (R:Rel C Z I α H M) {k:Nat} {m:MO} (h:M[k]?=some m):∃ a,α[k]?=some a/\MoAt C I α H a m/\I a=none:=by
 obtain ⟨hk,_⟩:=List.getElem?_eq_some_iff.mp h
 have hk':k < α.length:=by rw [R.len]; exact hk
 exact ⟨α[k],List.getElem?_eq_getElem hk',R.cel k _ m (List.getElem?_eq_getElem hk') h⟩
theorem Rel.cellNe (R:Rel C Z I α H M) {k:Nat} {a p:Addr} (h:α[k]?=some a) (hp:H p=none):a≠p:=by
 obtain ⟨hk,_⟩:=List.getElem?_eq_some_iff.mp h
 have hk':k < M.length:=by rw [<- R.len]; exact hk
 obtain ⟨o,e⟩:=(R.cel k a _ h (List.getElem?_eq_getElem hk')).1.some
 exact Zq e hp
theorem Rel.new (R:Rel C Z I α H M) {p:Addr} {o:HO} (hp:H p=none):Rel C Z (upd I p o) α (upd H p o) M/\Same I (upd I p o)/\(upd I p o) p=some o:=by
 have ip:I p=none:=R.sub.free hp
 have s:Same I (upd I p o):=Zb ip
 refine ⟨⟨R.ai.trans s,R.aa,fun b u h=>?_,R.len,R.nd,fun k a m h1 h2=>?_⟩,s,Zg⟩
 ·by_cases e:b=p
  ·subst e
   rw [Zg] at h ⊢
   exact h
  ·rw [Zm e] at h ⊢
   exact R.sub b u h
 ·obtain ⟨a1,a2⟩:=R.cel k a m h1 h2
  have ne:=R.cellNe h1 hp
  exact ⟨a1.mono s (List.prefix_refl _) (Zm ne),by rw [Zm ne]; exact a2⟩
theorem Rel.cell (R:Rel C Z I α H M) {p:Addr} {o:HO} {m:MO} (hp:H p=none) (hm:∀ H',H' p=some o->MoAt C I α H' p m):Rel C Z I (α++[p]) (upd H p o) (M++[m])/\α<+:(α++[p])/\(α++[p])[M.length]?=some p:=by
 have ip:I p=none:=R.sub.free hp
 refine ⟨⟨R.ai,R.aa.trans (List.prefix_append _ _),fun b u h=>?_,by rw [List.length_append,List.length_append,R.len]; rfl,?_,fun k a x h1 h2=>?_⟩,List.prefix_append _ _,by rw [<- R.len]; simp⟩
 ·have ne:b≠p:=fun e=>by rw [e,ip] at h; cases h
  rw [Zm ne]
  exact R.sub b u h
 ·rw [List.nodup_append]
  refine ⟨R.nd,by simp,fun a ha b hb=>?_⟩
  obtain ⟨k,hk,rfl⟩:=List.getElem_of_mem ha
  rw [List.mem_singleton.mp hb]
  exact R.cellNe (List.getElem?_eq_getElem hk) hp
 ·by_cases hk:k < α.length
  ·rw [List.getElem?_append_left hk] at h1
   rw [List.getElem?_append_left (by rw [<- R.len]; exact hk)] at h2
   obtain ⟨a1,a2⟩:=R.cel k a x h1 h2
   exact ⟨a1.mono (.refl _) (List.prefix_append _ _) (Zm (R.cellNe h1 hp)),a2⟩
  ·obtain ⟨hk2,_⟩:=List.getElem?_eq_some_iff.mp h1
   rw [List.length_append,List.length_singleton] at hk2
   have e:k=α.length:=by omega
   subst e
   have e1:(α++[p])[α.length]?=some p:=by simp
   have e2:(M++[m])[α.length]?=some m:=by rw [R.len]; simp
   rw [e1] at h1
   rw [e2] at h2
   cases h1
   cases h2
   exact ⟨(hm _ Zg).mono (.refl _) (List.prefix_append _ _) rfl,ip⟩
theorem Rel.put (R:Rel C Z I α H M) {k:Nat} {a:Addr} {o:HO} {m:MO} (ha:α[k]?=some a) (hm:∀ H',H' a=some o->MoAt C I α H' a m):Rel C Z I α (upd H a o) (M.set k m):=by
 obtain ⟨hk,ea⟩:=List.getElem?_eq_some_iff.mp ha
 have hkM:k < M.length:=by rw [<- R.len]; exact hk
 have ia:I a=none:=(R.cel k a _ ha (List.getElem?_eq_getElem hkM)).2
 refine ⟨R.ai,R.aa,fun b u h=>?_,by rw [List.length_set]; exact R.len,R.nd,fun j b x h1 h2=>?_⟩
 ·have ne:b≠a:=fun e=>by rw [e,ia] at h; cases h
  rw [Zm ne]
  exact R.sub b u h
 ·by_cases e:k=j
  ·subst e
   rw [ha] at h1
   cases h1
   rw [List.getElem?_set_self hkM] at h2
   cases h2
   exact ⟨hm _ Zg,ia⟩
  ·rw [List.getElem?_set_ne e] at h2
   obtain ⟨a1,a2⟩:=R.cel j b x h1 h2
   obtain ⟨hj,eb⟩:=List.getElem?_eq_some_iff.mp h1
   have ne:b≠a:=fun z=>e (by
    rw [<- ea,<- eb] at z
    exact ((List.getElem_inj R.nd).mp z).symm)
   exact ⟨a1.mono (.refl _) (List.prefix_refl _) (Zm ne),a2⟩
end
abbrev Ev:=List (Option D)
abbrev K3:=D->Mem->Prop
abbrev TE3:=Ev->Mem->K3->Prop
abbrev TT3:=Ev->Mem->(Bool->Mem->Prop)->Prop
abbrev TA3:=Ev->Mem->(List D->Mem->Prop)->Prop
abbrev TO3:=Ev->Mem->(Option Int->Mem->Prop)->Prop
abbrev R3:=D->D->Mem->K3->Prop
structure Ends3 where
 nx:Ev->Mem->Prop
 rt:K3
 bk:Ev->Mem->Prop:=fun _ _=>False
 ct:Ev->Mem->Prop:=fun _ _=>False
abbrev TS3:=Ends3->Ev->Mem->Prop
abbrev TG3:=D->Ev->Mem->(Ev->Mem->Prop)->Prop
abbrev TGs3:=List D->Ev->Mem->(Ev->Mem->Prop)->Prop
def RepE (C:Cf) (I:Hp) (α:List Addr) (σ:St) (ρ:Ev):Prop:=σ.length=ρ.length/\∀ (i:Nat) (d:D),ρ[i]?=some (some d)->∃ v,σ[i]?=some (some v)/\Rep C I α v d
theorem RepE.mono {C:Cf} {I I':Hp} {α α':List Addr} {σ:St} {ρ:Ev} (h:RepE C I α σ ρ) (s:Same I I') (p:α<+:α'):RepE C I' α' σ ρ :=
 ⟨h.1,fun i d e=>let ⟨v,a,b⟩:=h.2 i d e; ⟨v,a,b.mono s p⟩⟩
theorem RepE.set {C:Cf} {I:Hp} {α:List Addr} {σ:St} {ρ:Ev} (h:RepE C I α σ ρ) {v:V} {d:D} (r:Rep C I α v d) (i:Nat):RepE C I α (σ.set i (some v)) (ρ.set i (some d)):=by
 refine ⟨by rw [List.length_set,List.length_set]; exact h.1,fun j e q=>?_⟩
 by_cases z:i=j
 ·subst z
  by_cases hl:i < ρ.length
  ·rw [List.getElem?_set_self hl] at q
   cases q
   exact ⟨v,List.getElem?_set_self (by rw [h.1]; exact hl),r⟩
  ·rw [List.getElem?_eq_none (by rw [List.length_set]; omega)] at q
   cases q
 ·rw [List.getElem?_set_ne z] at q ⊢
  exact h.2 j e q
def Fin (C:Cf) (Z:Anc) (I:Hp) (α:List Addr) (K:K3) (Q:VK):Prop:=∀ v d I' α' H' M',Same I I'->α<+:α'->Rel C Z I' α' H' M'->Rep C I' α' v d->K d M'->Q v H'
theorem Fin.mono {C:Cf} {Z:Anc} {I I':Hp} {α α':List Addr} {K:K3} {Q:VK} (h:Fin C Z I α K Q) (s:Same I I') (p:α<+:α'):Fin C Z I' α' K Q:=fun v d I2 α2 H2 M2 s2 p2=>h v d I2 α2 H2 M2 (s.trans s2) (p.trans p2)
def SimE (C:Cf) (Z:Anc) (t:TE) (u:TE3):Prop:=∀ I α σ H ρ M (K:K3) (Q:VK),Rel C Z I α H M->RepE C I α σ ρ->u ρ M K->Fin C Z I α K Q->t σ H Q
def SimT (C:Cf) (Z:Anc) (t:TT) (u:TT3):Prop:=∀ I α σ H ρ M (K:Bool->Mem->Prop) (Q:Bool->Hp->Prop),Rel C Z I α H M->RepE C I α σ ρ->u ρ M K ->
 (∀ b I' α' H' M',Same I I'->α<+:α'->Rel C Z I' α' H' M'->K b M'->Q b H')->t σ H Q
def SimA (C:Cf) (Z:Anc) (t:TA) (u:TA3):Prop:=∀ I α σ H ρ M (K:List D->Mem->Prop) (Q:List V->Hp->Prop),Rel C Z I α H M->RepE C I α σ ρ->u ρ M K ->
 (∀ vs ds I' α' H' M',Same I I'->α<+:α'->Rel C Z I' α' H' M'->Reps C I' α' vs ds->K ds M'->Q vs H')->t σ H Q
def SimO (C:Cf) (Z:Anc) (t:TO) (u:TO3):Prop:=∀ I α σ H ρ M (K:Option Int->Mem->Prop) (Q:Option Int->Hp->Prop),Rel C Z I α H M->RepE C I α σ ρ->u ρ M K ->
 (∀ b I' α' H' M',Same I I'->α<+:α'->Rel C Z I' α' H' M'->K b M'->Q b H')->t σ H Q
def SimR (C:Cf) (Z:Anc) (r:R2) (u:R3):Prop:=∀ I α H M x y d e (K:K3) (Q:VK),Rel C Z I α H M->Rep C I α x d->Rep C I α y e->u d e M K->Fin C Z I α K Q->r x y H Q
def SimU (C:Cf) (Z:Anc) (r:V->Hp->VK->Prop) (u:D->Mem->K3->Prop):Prop:=∀ I α H M x d (K:K3) (Q:VK),Rel C Z I α H M->Rep C I α x d->u d M K->Fin C Z I α K Q->r x H Q
def SimC (C:Cf) (Z:Anc) (r:List V->Hp->VK->Prop) (u:List D->Mem->K3->Prop):Prop:=∀ I α H M xs ds (K:K3) (Q:VK),Rel C Z I α H M->Reps C I α xs ds->u ds M K->Fin C Z I α K Q->r xs H Q
def SimL (C:Cf) (Z:Anc) (r:V->Option Int->Option Int->Hp->VK->Prop) (u:D->Option Int->Option Int->Mem->K3->Prop):Prop:=∀ I α H M x d lo hi (K:K3) (Q:VK),Rel C Z I α H M->Rep C I α x d->u d lo hi M K->Fin C Z I α K Q->r x lo hi H Q
def FinS (C:Cf) (Z:Anc) (I:Hp) (α:List Addr) (K:Ev->Mem->Prop) (Q:St->Hp->Prop):Prop:=∀ I' α' σ' H' ρ' M',Same I I'->α<+:α'->Rel C Z I' α' H' M'->RepE C I' α' σ' ρ'->K ρ' M'->Q σ' H'
theorem FinS.mono {C:Cf} {Z:Anc} {I I':Hp} {α α':List Addr} {K:Ev->Mem->Prop} {Q:St->Hp->Prop} (h:FinS C Z I α K Q) (s:Same I I') (p:α<+:α'):FinS C Z I' α' K Q:=fun I2 α2 σ2 H2 ρ2 M2 s2 p2=>h I2 α2 σ2 H2 ρ2 M2 (s.trans s2) (p.trans p2)
structure FinD (C:Cf) (Z:Anc) (I:Hp) (α:List Addr) (E:Ends3) (D':Ends):Prop where
 nx:FinS C Z I α E.nx D'.nx
 rt:Fin C Z I α E.rt D'.rt
 bk:FinS C Z I α E.bk D'.bk
 ct:FinS C Z I α E.ct D'.ct
theorem FinD.mono {C:Cf} {Z:Anc} {I I':Hp} {α α':List Addr} {E:Ends3} {D':Ends} (h:FinD C Z I α E D') (s:Same I I') (p:α<+:α'):FinD C Z I' α' E D':=⟨h.nx.mono s p,h.rt.mono s p,h.bk.mono s p,h.ct.mono s p⟩
def SimS (C:Cf) (Z:Anc) (t:TS) (u:TS3):Prop:=∀ I α σ H ρ M (E:Ends3) (D':Ends),Rel C Z I α H M->RepE C I α σ ρ->u E ρ M->FinD C Z I α E D'->t D' σ H
def SimG (C:Cf) (Z:Anc) (t:TG) (u:TG3):Prop:=∀ I α σ H ρ M v d (K:Ev->Mem->Prop) (Q:St->Hp->Prop),Rel C Z I α H M->RepE C I α σ ρ->Rep C I α v d->u d ρ M K->FinS C Z I α K Q->t v σ H Q
def Ziu (C:Cf) (Z:Anc) (t:TGs) (u:TGs3):Prop:=∀ I α σ H ρ M vs ds (K:Ev->Mem->Prop) (Q:St->Hp->Prop),Rel C Z I α H M->RepE C I α σ ρ->Reps C I α vs ds->u ds ρ M K->FinS C Z I α K Q->t vs σ H Q
section
variable {C:Cf} {Z:Anc} {ta tb:TE} {ua ub:TE3} {tA tB':TT} {uA uB:TT3} {t:TA} {u:TA3}
def uVar (i:Nat):TE3:=fun ρ M K=>∃ d,ρ[i]?=some (some d)/\K d M
theorem Zh (i:Nat):SimE C Z (tVar i) (uVar i):=fun I α σ H ρ M K Q R E h k=>by
 obtain ⟨d,e,h⟩:=h
 obtain ⟨v,e2,r⟩:=E.2 i d e
 exact ⟨v,e2,k v d I α H M (.refl _) (List.prefix_refl _) R r h⟩
def uC (d:D):TE3:=fun _ M K=>K d M
theorem s_c {v:V} {d:D} (r:∀ I α,Rep C I α v d):SimE C Z (tC v) (uC d):=fun I α σ H ρ M K Q R E h k=>k v d I α H M (.refl _) (List.prefix_refl _) R (r I α) h
theorem Z1 {i:Int}:SimE C Z (tC (.int i)) (uC (.int i)):=s_c fun _ _=>.int i
theorem s_bl {i:Bool}:SimE C Z (tC (.bl i)) (uC (.bl i)):=s_c fun _ _=>.bl i
theorem Zni:SimE C Z (tC .non) (uC .non):=s_c fun _ _=>.non
theorem Zhk {i:Str}:SimE C Z (tC (.str i)) (uC (.str i)):=s_c fun _ _=>.str i
theorem s_ty {i:String}:SimE C Z (tC (.ty i)) (uC (.ty i)):=s_c fun _ _=>.ty i
def uOp (u:R3) (ua ub:TE3):TE3:=fun ρ M K=>ua ρ M fun d M1=>ub ρ M1 fun e M2=>u d e M2 K
theorem s_op {r:R2} {u:R3} (hr:SimR C Z r u) (ha:SimE C Z ta ua) (hb:SimE C Z tb ub):SimE C Z (tOp r ta tb) (uOp u ua ub):=fun I α σ H ρ M K Q R E h k =>
 ha I α σ H ρ M _ _ R E h fun v d I1 α1 H1 M1 s1 p1 R1 r1 h1 =>
  hb I1 α1 σ H1 ρ M1 _ _ R1 (E.mono s1 p1) h1 fun w e I2 α2 H2 M2 s2 p2 R2 r2 h2 =>
   hr I2 α2 H2 M2 v w d e K Q R2 (r1.mono s2 p2) r2 h2 (k.mono (s1.trans s2) (p1.trans p2))
def uUn (u:D->Mem->K3->Prop) (ua:TE3):TE3:=fun ρ M K=>ua ρ M fun d M1=>u d M1 K
theorem s_un {r:V->Hp->VK->Prop} {u:D->Mem->K3->Prop} (hr:SimU C Z r u) (ha:SimE C Z ta ua):SimE C Z (tUn r ta) (uUn u ua):=fun I α σ H ρ M K Q R E h k =>
 ha I α σ H ρ M _ _ R E h fun v d I1 α1 H1 M1 s1 p1 R1 r1 h1=>hr I1 α1 H1 M1 v d K Q R1 r1 h1 (k.mono s1 p1)
def D.isN:D->Bool | .non=>true | _=>false
theorem Zlf {I:Hp} {α:List Addr} {v:V} {d:D} (h:Rep C I α v d):decide (v=.non)=d.isN:=by cases h <;> simp [D.isN]
def uIsN (ua:TE3):TE3:=fun ρ M K=>ua ρ M fun d M1=>K (.bl d.isN) M1
theorem Zqj (ha:SimE C Z ta ua):SimE C Z (tIsN ta) (uIsN ua):=fun I α σ H ρ M K Q R E h k =>
 ha I α σ H ρ M _ _ R E h fun v d I1 α1 H1 M1 s1 p1 R1 r1 h1=>by
  rw [Zlf r1]
  exact k _ _ I1 α1 H1 M1 s1 p1 R1 (.bl _) h1
def uB3 (ua:TE3):TT3:=fun ρ M K=>ua ρ M fun d M1=>∃ c,d=.bl c/\K c M1
theorem s_b (ha:SimE C Z ta ua):SimT C Z (tB ta) (uB3 ua):=fun I α σ H ρ M K Q R E h k =>
 ha I α σ H ρ M _ _ R E h fun v d I1 α1 H1 M1 s1 p1 R1 r1 h1=>by
  obtain ⟨c,e,h1⟩:=h1
  subst e
  cases r1
  exact ⟨c,rfl,k c I1 α1 H1 M1 s1 p1 R1 h1⟩
theorem Y2 (ha:SimE C Z ta ua):SimT C Z (Zm5 ta) (uB3 ua):=s_b ha
def uAnd (uA uB:TT3):TT3:=fun ρ M K=>uA ρ M fun c M1=>if c=true then uB ρ M1 K else K false M1
def uOr (uA uB:TT3):TT3:=fun ρ M K=>uA ρ M fun c M1=>if c=true then K true M1 else uB ρ M1 K
def uNot (uA:TT3):TT3:=fun ρ M K=>uA ρ M fun c M1=>K (!c) M1
theorem Zdd (ha:SimT C Z tA uA) (hb:SimT C Z tB' uB):SimT C Z (tAnd tA tB') (uAnd uA uB):=fun I α σ H ρ M K Q R E h k =>
 ha I α σ H ρ M _ _ R E h fun c I1 α1 H1 M1 s1 p1 R1 h1=>by
  cases c with
  | true =>
   rw [if_pos rfl] at h1 ⊢
   exact hb I1 α1 σ H1 ρ M1 _ _ R1 (E.mono s1 p1) h1 fun b I2 α2 H2 M2 s2 p2 R2 h2=>k b I2 α2 H2 M2 (s1.trans s2) (p1.trans p2) R2 h2
  | false =>
   rw [if_neg Bool.false_ne_true] at h1 ⊢
   exact k false I1 α1 H1 M1 s1 p1 R1 h1
theorem s_or (ha:SimT C Z tA uA) (hb:SimT C Z tB' uB):SimT C Z (tOr tA tB') (uOr uA uB):=fun I α σ H ρ M K Q R E h k =>
 ha I α σ H ρ M _ _ R E h fun c I1 α1 H1 M1 s1 p1 R1 h1=>by
  cases c with
  | false =>
   rw [if_neg Bool.false_ne_true] at h1 ⊢
   exact hb I1 α1 σ H1 ρ M1 _ _ R1 (E.mono s1 p1) h1 fun b I2 α2 H2 M2 s2 p2 R2 h2=>k b I2 α2 H2 M2 (s1.trans s2) (p1.trans p2) R2 h2
  | true =>
   rw [if_pos rfl] at h1 ⊢
   exact k true I1 α1 H1 M1 s1 p1 R1 h1
theorem Zev (ha:SimT C Z tA uA):SimT C Z (tNot tA) (uNot uA):=fun I α σ H ρ M K Q R E h k =>
 ha I α σ H ρ M _ _ R E h fun c I1 α1 H1 M1 s1 p1 R1 h1=>k _ I1 α1 H1 M1 s1 p1 R1 h1
def Zqa (ua ub:TE3):TE3:=fun ρ M K=>ua ρ M fun d M1=>∃ c,d=.bl c/\if c=true then ub ρ M1 K else K (.bl false) M1
theorem Zjb (ha:SimE C Z ta ua) (hb:SimE C Z tb ub):SimE C Z (Znd ta tb) (Zqa ua ub):=fun I α σ H ρ M K Q R E h k =>
 ha I α σ H ρ M _ _ R E h fun v d I1 α1 H1 M1 s1 p1 R1 r1 h1=>by
  obtain ⟨c,e,h1⟩:=h1
  subst e
  cases r1
  refine ⟨c,rfl,?_⟩
  cases c with
  | true =>
   rw [if_pos rfl] at h1 ⊢
   exact hb I1 α1 σ H1 ρ M1 _ _ R1 (E.mono s1 p1) h1 (k.mono s1 p1)
  | false =>
   rw [if_neg Bool.false_ne_true] at h1 ⊢
   exact k _ _ I1 α1 H1 M1 s1 p1 R1 (.bl _) h1
def uNil:TA3:=fun _ M K=>K [] M
def Zp7 (ua:TE3) (u:TA3):TA3:=fun ρ M K=>ua ρ M fun d M1=>u ρ M1 fun ds M2=>K (d::ds) M2
theorem Zp:SimA C Z tNil uNil:=fun I α σ H ρ M K Q R E h k=>k [] [] I α H M (.refl _) (List.prefix_refl _) R .nil h
theorem Ze (ha:SimE C Z ta ua) (hr:SimA C Z t u):SimA C Z (Zef ta t) (Zp7 ua u):=fun I α σ H ρ M K Q R E h k =>
 ha I α σ H ρ M _ _ R E h fun v d I1 α1 H1 M1 s1 p1 R1 r1 h1 =>
  hr I1 α1 σ H1 ρ M1 _ _ R1 (E.mono s1 p1) h1 fun vs ds I2 α2 H2 M2 s2 p2 R2 r2 h2 =>
   k (v::vs) (d::ds) I2 α2 H2 M2 (s1.trans s2) (p1.trans p2) R2 (.cons (r1.mono s2 p2) r2) h2
def uTup (u:TA3):TE3:=fun ρ M K=>u ρ M fun ds M1=>ds.length<=sizeLine/\K (.tup ds) M1
theorem Zas (ha:SimA C Z t u):SimE C Z (tTup t) (uTup u):=fun I α σ H ρ M K Q R E h k =>
 ha I α σ H ρ M _ _ R E h fun vs ds I1 α1 H1 M1 s1 p1 R1 r1 h1=>by
  refine ⟨by rw [r1.length]; exact h1.1,fun p hp=>?_⟩
  obtain ⟨R2,s2,e2⟩:=R1.new (o:=.tup vs) hp
  exact k _ _ _ α1 _ M1 (s1.trans s2) p1 R2 (.tup e2 (r1.mono s2 (List.prefix_refl _))) h1.2
def uLst (u:TA3):TE3:=fun ρ M K=>u ρ M fun ds M1=>ds.length<=sizeLine/\K (.lst ds) M1
theorem Tm (ha:SimA C Z t u):SimE C Z (tLst t) (uLst u):=fun I α σ H ρ M K Q R E h k =>
 ha I α σ H ρ M _ _ R E h fun vs ds I1 α1 H1 M1 s1 p1 R1 r1 h1=>by
  refine ⟨by rw [r1.length]; exact h1.1,fun p hp=>?_⟩
  obtain ⟨R2,s2,e2⟩:=R1.new (o:=.lst vs) hp
  exact k _ _ _ α1 _ M1 (s1.trans s2) p1 R2 (.lst e2 (r1.mono s2 (List.prefix_refl _))) h1.2
def Zpx (u:TA3):TE3:=fun ρ M K=>u ρ M fun ds M1=>ds.length<=sizeLine/\K (.cell M1.length) (M1++[.lst ds])
theorem Zex (ha:SimA C Z t u):SimE C Z (tLst t) (Zpx u):=fun I α σ H ρ M K Q R E h k =>
 ha I α σ H ρ M _ _ R E h fun vs ds I1 α1 H1 M1 s1 p1 R1 r1 h1=>by
  refine ⟨by rw [r1.length]; exact h1.1,fun p hp=>?_⟩
  obtain ⟨R2,p2,e2⟩:=R1.cell (o:=.lst vs) (m:=.lst ds) hp fun H' e=>⟨vs,e,r1⟩
  exact k _ _ I1 _ _ _ s1 (p1.trans p2) R2 (.cell e2) h1.2
def uCB (r:List D->Mem->K3->Prop) (u:TA3):TE3:=fun ρ M K=>u ρ M fun ds M1=>r ds M1 K
theorem s_cb {r:List V->Hp->VK->Prop} {r3:List D->Mem->K3->Prop} (hr:SimC C Z r r3) (ha:SimA C Z t u):SimE C Z (tCB r t) (uCB r3 u):=fun I α σ H ρ M K Q R E h k =>
 ha I α σ H ρ M _ _ R E h fun vs ds I1 α1 H1 M1 s1 p1 R1 r1 h1=>hr I1 α1 H1 M1 vs ds K Q R1 r1 h1 (k.mono s1 p1)
def Zd7:TO3:=fun _ M K=>K none M
def Zpv (ua:TE3):TO3:=fun ρ M K=>ua ρ M fun d M1=>∃ i,d=.int i/\K (some i) M1
theorem Wd:SimO C Z Zed Zd7:=fun I α σ H ρ M K Q R E h k=>k none I α H M (.refl _) (List.prefix_refl _) R h
theorem Vr (ha:SimE C Z ta ua):SimO C Z (Zm7 ta) (Zpv ua):=fun I α σ H ρ M K Q R E h k =>
 ha I α σ H ρ M _ _ R E h fun v d I1 α1 H1 M1 s1 p1 R1 r1 h1=>by
  obtain ⟨i,e,h1⟩:=h1
  subst e
  cases r1
  exact ⟨i,rfl,k (some i) I1 α1 H1 M1 s1 p1 R1 h1⟩
def uSl (r:D->Option Int->Option Int->Mem->K3->Prop) (ua:TE3) (ul uh:TO3):TE3:=fun ρ M K=>ua ρ M fun d M1=>ul ρ M1 fun l M2=>uh ρ M2 fun g M3=>r d l g M3 K
theorem s_sl {r:V->Option Int->Option Int->Hp->VK->Prop} {r3:D->Option Int->Option Int->Mem->K3->Prop} {tl th:TO} {ul uh:TO3} (hr:SimL C Z r r3) (ha:SimE C Z ta ua) (hl:SimO C Z tl ul) (hh:SimO C Z th uh):SimE C Z (tSl r ta tl th) (uSl r3 ua ul uh):=fun I α σ H ρ M K Q R E h k =>
 ha I α σ H ρ M _ _ R E h fun v d I1 α1 H1 M1 s1 p1 R1 r1 h1 =>
  hl I1 α1 σ H1 ρ M1 _ _ R1 (E.mono s1 p1) h1 fun lo I2 α2 H2 M2 s2 p2 R2 h2 =>
   hh I2 α2 σ H2 ρ M2 _ _ R2 (E.mono (s1.trans s2) (p1.trans p2)) h2 fun hi I3 α3 H3 M3 s3 p3 R3 h3 =>
    hr I3 α3 H3 M3 v d lo hi K Q R3 (r1.mono (s2.trans s3) (p2.trans p3)) h3 (k.mono (s1.trans (s2.trans s3)) (p1.trans (p2.trans p3)))
end
def Wq (M:Mem):D->Option (List D)
 | .lst ds=>some ds
 | .frz ds=>some ds
 | .cell k=>match M[k]? with | some (.lst ds)=>some ds | _=>none
 | _=>none
def lsOf (M:Mem):D->Option (List D)
 | .lst ds=>some ds
 | .cell k=>match M[k]? with | some (.lst ds)=>some ds | _=>none
 | _=>none
def Zm1:D->Option (List D)
 | .tup ds=>some ds
 | _=>none
def R7 (M:Mem):D->Option (List D)
 | .tup ds=>some ds
 | d=>Wq M d
section
variable {C:Cf} {Z:Anc} {I:Hp} {α:List Addr} {H:Hp} {M:Mem} {v:V} {d:D} {ds:List D}
theorem Sf (R:Rel C Z I α H M) {k:Nat} {a:Addr} (e:α[k]?=some a) (h:M[k]?=some (.lst ds)):∃ vs,H a=some (.lst vs)/\Reps C I α vs ds:=(R.cel k a _ e h).1
theorem Vz (R:Rel C Z I α H M) (r:Rep C I α v d) (h:Wq M d=some ds):∃ a vs,v=.ref a/\SqL C.k H a vs/\Reps C I α vs ds:=by
 cases r with
 | lst e r=>cases h; exact ⟨_,_,rfl,SqL.of (R.sub _ _ e),r⟩
 | frz e r=>cases h; exact ⟨_,_,rfl,R.sub.seq e,r⟩
 | @cell a k e =>
  unfold Wq at h
  cases hm:M[k]? with
  | none=>simp only [hm] at h; cases h
  | some m =>
   cases m with
   | lst es =>
    simp only [hm] at h
    cases h
    obtain ⟨vs,e1,r⟩:=Sf R e hm
    exact ⟨_,_,rfl,SqL.of e1,r⟩
   | _=>simp only [hm] at h; cases h
 | _=>cases h
theorem Q6 (R:Rel C Z I α H M) (r:Rep C I α v d) (h:lsOf M d=some ds):∃ a vs,v=.ref a/\H a=some (.lst vs)/\Reps C I α vs ds:=by
 cases r with
 | lst e r=>cases h; exact ⟨_,_,rfl,R.sub _ _ e,r⟩
 | @cell a k e =>
  unfold lsOf at h
  cases hm:M[k]? with
  | none=>simp only [hm] at h; cases h
  | some m =>
   cases m with
   | lst es =>
    simp only [hm] at h
    cases h
    obtain ⟨vs,e1,r⟩:=Sf R e hm
    exact ⟨_,_,rfl,e1,r⟩
   | _=>simp only [hm] at h; cases h
 | _=>cases h
theorem Vq (R:Rel C Z I α H M) (r:Rep C I α v d) (h:Zm1 d=some ds):∃ a vs,v=.ref a/\H a=some (.tup vs)/\I a=some (.tup vs)/\Reps C I α vs ds:=by
 cases r with
 | tup e r=>cases h; exact ⟨_,_,rfl,R.sub _ _ e,e,r⟩
 | _=>cases h
end
def cut {τ:Type} (xs:List τ) (lo hi:Option Int):List τ:=(xs.drop (HT.sIx xs.length 0 lo)).take (HT.sIx xs.length xs.length hi - HT.sIx xs.length 0 lo)
theorem Reps.cut {C:Cf} {I:Hp} {α:List Addr} {vs:List V} {ds:List D} (r:Reps C I α vs ds) (lo hi:Option Int):Reps C I α (cutV vs lo hi) (cut ds lo hi):=by
 unfold cutV L3.cut
 rw [r.length]
 exact (r.drop _).take _
theorem V3 {τ υ:Type} (f:τ->υ) (xs:List τ) (lo hi:Option Int):cut (xs.map f) lo hi=(cut xs lo hi).map f:=by
 unfold cut
 rw [List.length_map,List.map_take,List.map_drop]
theorem Reps.atI {C:Cf} {I:Hp} {α:List Addr} {vs:List V} {ds:List D} {i:Int} {d:D} (r:Reps C I α vs ds) (h:atI ds i=some d):∃ v,L2.atI vs i=some v/\Rep C I α v d:=by
 unfold L2.atI at h ⊢
 rw [r.length]
 cases e:ixN ds.length i with
 | none=>rw [e] at h; cases h
 | some j =>
  rw [e] at h
  exact r.get (i:=j) h
section
variable {C:Cf} {Z:Anc} {K':W.Frag} {X:Cx}
theorem OpR.or {f:Value->Value->Sem Value} {r r':R2} (h:OpR X f r) (h':OpR X f r'):OpR X f (fun x y H Q=>r x y H Q\/r' x y H Q):=by
 intro pins s σ H x y v u Q I rx ry q
 rcases q with q | q
 ·exact h pins s σ H x y v u Q I rx ry q
 ·exact h' pins s σ H x y v u Q I rx ry q
theorem SlR.or {r r':V->Option Int->Option Int->Hp->VK->Prop} (h:SlR X r) (h':SlR X r'):SlR X (fun x l u H Q=>r x l u H Q\/r' x l u H Q):=by
 intro pins s σ H x v vl vu lo hi sl Q I rx hs pl pu q
 rcases q with q | q
 ·exact h pins s σ H x v vl vu lo hi sl Q I rx hs pl pu q
 ·exact h' pins s σ H x v vl vu lo hi sl Q I rx hs pl pu q
def Zkl:R2:=fun x y H Q=>∃ i j,x=.str i/\y=.str j/\i.length + j.length<=sizeLine/\Q (.str (i++j)) H
def Zhr (K:W.Frag):R2:=fun x y H Q=>rI0 (fun i j=>.int (i + j)) x y H Q\/Zkl x y H Q\/rCat x y H Q\/Zhq K x y H Q
theorem Wn (h:X.K=K'):OpR X (binaryOp .Add) (Zhr K'):=by
 subst h
 exact OpR.or Wp (OpR.or Zdh (OpR.or Qi Za2))
def add3:R3:=fun d e M K=>match d,e with
 | .int i,.int j=>K (.int (i + j)) M
 | .str a,.str b=>a.length + b.length<=sizeLine/\K (.str (a++b)) M
 | .tup xs,.tup ys=>(xs≠[]/\xs.length + ys.length<=sizeLine)/\K (.tup (xs++ys)) M
 | d,e=>∃ xs ys,lsOf M d=some xs/\lsOf M e=some ys/\xs.length + ys.length<=sizeLine/\K (.lst (xs++ys)) M
theorem Zma {I:Hp} {α:List Addr} {H:Hp} {M:Mem} {x y:V} {d e:D} {K:K3} {Q:VK} (R:Rel C Z I α H M) (r1:Rep C I α x d) (r2:Rep C I α y e)
  (h:∃ xs ys,lsOf M d=some xs/\lsOf M e=some ys/\xs.length + ys.length<=sizeLine/\K (.lst (xs++ys)) M) (k:Fin C Z I α K Q):Zhr C.k x y H Q:=by
 obtain ⟨xs,ys,e1,e2,hl,h⟩:=h
 obtain ⟨a,vs,rfl,ea,ra⟩:=Q6 R r1 e1
 obtain ⟨b,ws,rfl,eb,rb⟩:=Q6 R r2 e2
 refine .inr (.inr (.inl ⟨a,b,vs,ws,rfl,rfl,ea,eb,by rw [ra.length,rb.length]; exact hl,fun p hp=>?_⟩))
 obtain ⟨R2,s2,e2⟩:=R.new (o:=.lst (vs++ws)) hp
 exact k _ _ _ α _ M s2 (List.prefix_refl _) R2 (.lst e2 ((ra.app rb).mono s2 (List.prefix_refl _))) h
theorem Uv:SimR C Z (Zhr C.k) add3:=fun I α H M x y d e K Q R r1 r2 h k=>by
 have go:=fun h=>Zma R r1 r2 h k
 cases d with
 | int i =>
  cases e with
  | int j=>cases r1; cases r2; exact .inl ⟨i,j,rfl,rfl,k _ _ I α H M (.refl _) (List.prefix_refl _) R (.int _) h⟩
  | _=>exact go h
 | str a =>
  cases e with
  | str b=>cases r1; cases r2; exact .inr (.inl ⟨a,b,rfl,rfl,h.1,k _ _ I α H M (.refl _) (List.prefix_refl _) R (.str _) h.2⟩)
  | _=>exact go h
 | tup xs =>
  cases e with
  | tup ys =>
   obtain ⟨⟨h1,h2⟩,h⟩:=h
   obtain ⟨a,vs,rfl,ea,ia,ra⟩:=Vq R r1 rfl
   obtain ⟨b,ws,rfl,eb,ib,rb⟩:=Vq R r2 rfl
   refine .inr (.inr (.inr ⟨a,b,vs,ws,rfl,rfl,SqT.of ea,SqT.of eb,fun z=>?_,by rw [ra.length,rb.length]; exact h2,fun z=>?_,fun _ p hp=>?_⟩))
   ·subst z
    cases ra
    exact h1 rfl
   ·subst z
    cases rb
    rw [List.append_nil] at h
    exact k _ _ I α H M (.refl _) (List.prefix_refl _) R r1 h
   ·obtain ⟨R2,s2,e2⟩:=R.new (o:=.tup (vs++ws)) hp
    exact k _ _ _ α _ M s2 (List.prefix_refl _) R2 (.tup e2 ((ra.app rb).mono s2 (List.prefix_refl _))) h
  | _=>exact go h
 | _=>exact go h
def int3 (c:Int->Int->Prop) (g:Int->Int->D):R3:=fun d e M K=>∃ i j,d=.int i/\e=.int j/\c i j/\K (g i j) M
def Zia (g:Int->Int->D):R3:=fun d e M K=>∃ i j,d=.int i/\e=.int j/\K (g i j) M
theorem s_rI {c:Int->Int->Prop} {g:Int->Int->V} {g3:Int->Int->D} (hg:∀ I α i j,Rep C I α (g i j) (g3 i j)):SimR C Z (rI c g) (int3 c g3):=fun I α H M x y d e K Q R r1 r2 h k=>by
 obtain ⟨i,j,rfl,rfl,hc,h⟩:=h
 cases r1
 cases r2
 exact ⟨i,j,rfl,rfl,hc,k _ _ I α H M (.refl _) (List.prefix_refl _) R (hg _ _ _ _) h⟩
theorem Zkd {g:Int->Int->V} {g3:Int->Int->D} (hg:∀ I α i j,Rep C I α (g i j) (g3 i j)):SimR C Z (rI0 g) (Zia g3):=fun I α H M x y d e K Q R r1 r2 h k=>by
 obtain ⟨i,j,rfl,rfl,h⟩:=h
 cases r1
 cases r2
 exact ⟨i,j,rfl,rfl,k _ _ I α H M (.refl _) (List.prefix_refl _) R (hg _ _ _ _) h⟩
theorem Znh:SimR C Z (rI0 fun i j=>.int (i - j)) (Zia fun i j=>.int (i - j)):=Zkd fun _ _ _ _=>.int _
theorem Q0:SimR C Z (rI (fun _ j=>0 < j) fun i j=>.int (i % j)) (int3 (fun _ j=>0 < j) fun i j=>.int (i % j)):=s_rI fun _ _ _ _=>.int _
theorem s_lt:SimR C Z (rI0 fun i j=>.bl (decide (i < j))) (Zia fun i j=>.bl (decide (i < j))):=Zkd fun _ _ _ _=>.bl _
theorem s_gt:SimR C Z (rI0 fun i j=>.bl (decide (j < i))) (Zia fun i j=>.bl (decide (j < i))):=Zkd fun _ _ _ _=>.bl _
def neg3:D->Mem->K3->Prop:=fun d M K=>∃ i,d=.int i/\K (.int (-i)) M
theorem Zqg:SimU C Z (rU fun i=>.int (-i)) neg3:=fun I α H M x d K Q R r h k=>by
 obtain ⟨i,rfl,h⟩:=h
 cases r
 exact ⟨i,rfl,k _ _ I α H M (.refl _) (List.prefix_refl _) R (.int _) h⟩
def Zkm:R2:=fun x y H Q=>rI CMul (fun i j=>.int (i * j)) x y H Q\/rRep x y H Q
theorem Na:OpR X (binaryOp .Mult) Zkm:=OpR.or Vx Zn3
def mul3:R3:=fun d e M K=>match d,e with
 | .int i,.int j=>CMul i j/\K (.int (i * j)) M
 | d,e=>∃ xs k,lsOf M d=some xs/\e=.int k/\(-(2 ^ 63)<=k/\k < 2 ^ 63/\xs.length * k.toNat<=sizeLine)/\K (.lst (List.replicate k.toNat xs).flatten) M
theorem Reps.rep {I:Hp} {α:List Addr} {vs:List V} {ds:List D} (r:Reps C I α vs ds):∀ n,Reps C I α (List.replicate n vs).flatten (List.replicate n ds).flatten
 | 0=>.nil
 | n + 1=>by
  rw [List.replicate_succ,List.replicate_succ,List.flatten_cons,List.flatten_cons]
  exact r.app (Reps.rep r n)
theorem Zew:SimR C Z Zkm mul3:=fun I α H M x y d e K Q R r1 r2 h k=>by
 have go:(∃ xs k,lsOf M d=some xs/\e=.int k/\(-(2 ^ 63)<=k/\k < 2 ^ 63/\xs.length * k.toNat<=sizeLine)/\K (.lst (List.replicate k.toNat xs).flatten) M)->Zkm x y H Q:=fun h=>by
  obtain ⟨xs,j,e1,rfl,⟨h1,h2,h3⟩,h⟩:=h
  cases r2
  obtain ⟨a,vs,rfl,ea,ra⟩:=Q6 R r1 e1
  refine .inr ⟨a,j,vs,rfl,rfl,ea,h1,h2,by rw [ra.length]; exact h3,fun p hp=>?_⟩
  obtain ⟨R2,s2,e2⟩:=R.new (o:=.lst (List.replicate j.toNat vs).flatten) hp
  exact k _ _ _ α _ M s2 (List.prefix_refl _) R2 (.lst e2 ((ra.rep _).mono s2 (List.prefix_refl _))) h
 cases d with
 | int i =>
  cases e with
  | int j=>cases r1; cases r2; exact .inl ⟨i,j,rfl,rfl,h.1,k _ _ I α H M (.refl _) (List.prefix_refl _) R (.int _) h.2⟩
  | _=>exact go h
 | _=>exact go h
theorem Wi (h:X.K=K'):IxR X (rIx K'):=by subst h; exact Zoo
def ix3:R3:=fun d e M K=>match d with
 | .str z=>∃ i c,e=.int i/\z.length<=sizeLine/\L2.atI z.cps.toList i=some c/\K (.str ⟨#[c]⟩) M
 | d=>∃ xs i v,R7 M d=some xs/\e=.int i/\L2.atI xs i=some v/\K v M
theorem s_ix:SimR C Z (rIx C.k) ix3:=fun I α H M x y d e K Q R r1 r2 h k=>by
 have go:(∃ xs i v,R7 M d=some xs/\e=.int i/\L2.atI xs i=some v/\K v M)->rIx C.k x y H Q:=fun h=>by
  obtain ⟨xs,i,w,e1,rfl,e3,hk⟩:=h
  cases r2
  by_cases ht:∃ ys,d=.tup ys
  ·obtain ⟨ys,rfl⟩:=ht
   cases e1
   obtain ⟨a,vs,rfl,ea,_,ra⟩:=Vq R r1 rfl
   obtain ⟨v,e4,rv⟩:=ra.atI e3
   exact .inr (.inl ⟨a,vs,i,v,rfl,rfl,SqT.of ea,e4,k _ _ I α H M (.refl _) (List.prefix_refl _) R rv hk⟩)
  ·have e1':Wq M d=some xs:=by
    cases d with
    | tup ys=>exact absurd ⟨ys,rfl⟩ ht
    | _=>exact e1
   obtain ⟨a,vs,rfl,ea,ra⟩:=Vz R r1 e1'
   obtain ⟨v,e4,rv⟩:=ra.atI e3
   exact .inl ⟨a,vs,i,v,rfl,rfl,ea,e4,k _ _ I α H M (.refl _) (List.prefix_refl _) R rv hk⟩
 cases d with
 | str z =>
  obtain ⟨i,c,rfl,h1,h2,h⟩:=h
  cases r1
  cases r2
  exact .inr (.inr ⟨z,i,c,rfl,rfl,h1,h2,k _ _ I α H M (.refl _) (List.prefix_refl _) R (.str _) h⟩)
 | _=>exact go h
def rSlU (K:W.Frag):V->Option Int->Option Int->Hp->VK->Prop:=fun x l u H Q=>rSlL K x l u H Q\/rSlW K x l u H Q\/rSlS x l u H Q
theorem Rz (h:X.K=K'):SlR X (rSlU K'):=by subst h; exact SlR.or Wy (SlR.or Zaq Zng)
def sl3:D->Option Int->Option Int->Mem->K3->Prop:=fun d lo hi M K=>match d with
 | .str z=>z.length<=sizeLine/\K (.str (Txt.slice z lo hi)) M
 | .tup xs=>K (.tup (cut xs lo hi)) M
 | d=>∃ xs,Wq M d=some xs/\K (.lst (cut xs lo hi)) M
theorem Reps.inj_cut {I:Hp} {α:List Addr} {vs:List V} {ds:List D} (r:Reps C I α vs ds) {lo hi:Option Int} (h:cutV vs lo hi=vs):L3.cut ds lo hi=ds:=by
 have hl:(cutV vs lo hi).length=vs.length:=by rw [h]
 unfold cutV at hl
 rw [List.length_take,List.length_drop] at hl
 unfold L3.cut
 rw [r.length] at hl
 generalize HT.sIx ds.length 0 lo=a at *
 generalize HT.sIx ds.length ds.length hi=b at *
 by_cases hd:ds.length=0
 ·rw [List.length_eq_zero_iff.mp hd]; simp
 ·have:a=0:=by omega
  subst this
  rw [List.drop_zero,List.take_of_length_le]
  omega
theorem R8:SimL C Z (rSlU C.k) sl3:=fun I α H M x d lo hi K Q R r1 h k=>by
 have go:(∃ xs,Wq M d=some xs/\K (.lst (cut xs lo hi)) M)->rSlU C.k x lo hi H Q:=fun h=>by
  obtain ⟨xs,e1,h⟩:=h
  obtain ⟨a,vs,rfl,ea,ra⟩:=Vz R r1 e1
  refine .inl ⟨a,vs,rfl,ea,fun p hp=>?_⟩
  obtain ⟨R2,s2,e2⟩:=R.new (o:=.lst (cutV vs lo hi)) hp
  exact k _ _ _ α _ M s2 (List.prefix_refl _) R2 (.lst e2 ((ra.cut lo hi).mono s2 (List.prefix_refl _))) h
 cases d with
 | str z=>cases r1; exact .inr (.inr ⟨z,rfl,h.1,k _ _ I α H M (.refl _) (List.prefix_refl _) R (.str _) h.2⟩)
 | tup xs =>
  obtain ⟨a,vs,rfl,ea,ia,ra⟩:=Vq R r1 rfl
  refine .inr (.inl ⟨a,vs,rfl,SqT.of ea,fun z=>?_,fun p hp=>?_⟩)
  ·have h2:K (.tup (cut xs lo hi)) M:=h
   rw [ra.inj_cut z] at h2
   exact k _ _ I α H M (.refl _) (List.prefix_refl _) R r1 h2
  ·obtain ⟨R2,s2,e2⟩:=R.new (o:=.tup (cutV vs lo hi)) hp
   exact k _ _ _ α _ M s2 (List.prefix_refl _) R2 (.tup e2 ((ra.cut lo hi).mono s2 (List.prefix_refl _))) h
 | _=>exact go h
end
mutual
inductive PyR (M:Mem):D->PyData->Prop where
 | non:PyR M .non .none
 | bl (b:Bool):PyR M (.bl b) (.bool b)
 | int (i:Int):PyR M (.int i) (.int i)
 | str (x:Str):PyR M (.str x) (.str x)
 | seq {d:D} {ds:List D} {ps:List PyData}:Wq M d=some ds->PyRs M ds ps->PyR M d (.list ps)
 | tup {ds:List D} {ps:List PyData}:PyRs M ds ps->PyR M (.tup ds) (.tuple ps)
inductive PyRs (M:Mem):List D->List PyData->Prop where
 | nil:PyRs M [] []
 | cons {d:D} {p:PyData} {ds:List D} {ps:List PyData}:PyR M d p->PyRs M ds ps->PyRs M (d::ds) (p::ps)
end
section
variable {C:Cf} {Z:Anc} {I:Hp} {α:List Addr} {H:Hp} {M:Mem}
mutual
theorem Zdf (R:Rel C Z I α H M):∀ {v:V} {d:D} {p:PyData},PyR M d p->Rep C I α v d->DV C.k H v p
 | _,_,_,.non,r=>by cases r; exact .non
 | _,_,_,.bl b,r=>by cases r; exact .bl b
 | _,_,_,.int b,r=>by cases r; exact .int b
 | _,_,_,.str b,r=>by cases r; exact .str b
 | _,_,_,.seq e q,r=>by
  obtain ⟨a,vs,rfl,ea,ra⟩:=Vz R r e
  exact .lst ea (pys_dv R q ra)
 | _,_,_,.tup q,r=>by
  obtain ⟨a,vs,rfl,ea,_,ra⟩:=Vq R r rfl
  exact .tup (SqT.of ea) (pys_dv R q ra)
theorem pys_dv (R:Rel C Z I α H M):∀ {vs:List V} {ds:List D} {ps:List PyData},PyRs M ds ps->Reps C I α vs ds->DVs C.k H vs ps
 | _,_,_,.nil,r=>by cases r; exact .nil
 | _,_,_,.cons a b,r=>by
  cases r with
  | cons r1 r2=>exact .cons (Zdf R a r1) (pys_dv R b r2)
end
end
def eqS:D->D->Option Bool
 | .non,.non=>some true | .non,.int _=>some false | .int _,.non=>some false | .non,.bl _=>some false | .bl _,.non=>some false | .non,.str _=>some false | .str _,.non=>some false
 | .int i,.int j=>some (decide (i=j)) | .bl i,.bl j=>some (decide (i=j)) | .str i,.str j=>some (decide (i=j))
 | .int _,.str _=>some false | .str _,.int _=>some false | .bl _,.str _=>some false | .str _,.bl _=>some false
 | _,_=>none
def eqV (d e:D) (M:Mem) (K:Bool->Prop):Prop:=(∃ b,eqS d e=some b/\K b)\/∃ p q,PyR M d p/\PyR M e q/\SeqAt.shaped p=true/\SeqAt.shaped q=true/\K (PyData.eqv p q)
def eq3:R3:=fun d e M K=>eqV d e M fun b=>K (.bl b) M
def ne3:R3:=fun d e M K=>eqV d e M fun b=>K (.bl (!b)) M
section
variable {C:Cf} {Z:Anc} {K':W.Frag} {X:Cx}
def rEqU (K:W.Frag):R2:=fun x y H Q=>rEq x y H Q\/rEqD K x y H Q
def rNeU (K:W.Frag):R2:=fun x y H Q=>rNe x y H Q\/rNeD K x y H Q
theorem Ve (h:X.K=K') (hu:X.A.units + 64 < cLine):OpR X (compareOp .Eq) (rEqU K'):=by subst h; exact OpR.or Zfn (Zcg hu)
theorem Zc4 (h:X.K=K') (hu:X.A.units + 64 < cLine):OpR X (compareOp .NotEq) (rNeU K'):=by subst h; exact OpR.or Zqt (Zn4 hu)
theorem Zgd {I:Hp} {α:List Addr} {x y:V} {d e:D} {b:Bool} (r1:Rep C I α x d) (r2:Rep C I α y e) (h:eqS d e=some b):scal x y=true/\decide (x=y)=b:=by
 cases r1 <;> cases r2 <;> first | (cases h; done) | (injection h with h; subst h; refine ⟨rfl,?_⟩; simp)
theorem s_eq:SimR C Z (rEqU C.k) eq3:=fun I α H M x y d e K Q R r1 r2 h k=>by
 rcases h with ⟨b,eb,h⟩ | ⟨p,q,h1,h2,h3,h4,h⟩
 ·obtain ⟨z1,z2⟩:=Zgd r1 r2 eb
  exact .inl ⟨z1,by rw [z2]; exact k _ _ I α H M (.refl _) (List.prefix_refl _) R (.bl _) h⟩
 ·exact .inr ⟨p,q,Zdf R h1 r1,Zdf R h2 r2,h3,h4,k _ _ I α H M (.refl _) (List.prefix_refl _) R (.bl _) h⟩
theorem s_ne:SimR C Z (rNeU C.k) ne3:=fun I α H M x y d e K Q R r1 r2 h k=>by
 rcases h with ⟨b,eb,h⟩ | ⟨p,q,h1,h2,h3,h4,h⟩
 ·obtain ⟨z1,z2⟩:=Zgd r1 r2 eb
  exact .inl ⟨z1,by rw [z2]; exact k _ _ I α H M (.refl _) (List.prefix_refl _) R (.bl _) h⟩
 ·exact .inr ⟨p,q,Zdf R h1 r1,Zdf R h2 r2,h3,h4,k _ _ I α H M (.refl _) (List.prefix_refl _) R (.bl _) h⟩
end
structure Enc (τ:Type) [DecidableEq τ] where
 e:τ->D
 py:τ->PyData
 n:Nat
 ok:∀ M a,PyR M (e a) (py a)
 shp:∀ a,Shp n (py a)
 eq:∀ a b,PyData.eqv (py a) (py b)=decide (a=b)
 hn:n<=60
theorem Zbh {τ:Type} [DecidableEq τ] {f:τ->PyData} (h:∀ a b,PyData.eqv (f a) (f b)=decide (a=b)):∀ (a b:List τ),PyData.eqvAll (a.map f) (b.map f)=decide (a=b)
 | [],[]=>by simp [PyData.eqvAll]
 | [],_::_=>by simp [PyData.eqvAll]
 | _::_,[]=>by simp [PyData.eqvAll]
 | a::r,b::t=>by
  rw [List.map_cons,List.map_cons,PyData.eqvAll,h,Zbh h r t]
  simp
theorem Tp {τ:Type} {M:Mem} {e:τ->D} {py:τ->PyData} (h:∀ a,PyR M (e a) (py a)):∀ as:List τ,PyRs M (as.map e) (as.map py)
 | []=>.nil
 | a::r=>.cons (h a) (Tp h r)
def Xd:Enc Int:=⟨.int,.int,0,fun _=>.int,Zar,fun a b=>by rw [PyData.eqv,Bool.beq_eq_decide_eq],by decide⟩
def N6 {τ:Type} [DecidableEq τ] (E:Enc τ) (h:E.n<=50:=by decide):Enc (List τ) where
 e as:=.lst (as.map E.e)
 py as:=.list (as.map E.py)
 n:=E.n + 1
 ok:=fun M as=>.seq rfl (Tp (E.ok M) as)
 shp:=fun as=>Zb6 fun d hd=>by
  obtain ⟨a,_,rfl⟩:=List.mem_map.mp hd
  exact E.shp a
 eq:=fun a b=>by rw [PyData.eqv,Zbh E.eq]
 hn:=by omega
def Xn {τ:Type} [DecidableEq τ] (E:Enc τ) (h:E.n<=50:=by decide):Enc (List τ) where
 e as:=.tup (as.map E.e)
 py as:=.tuple (as.map E.py)
 n:=E.n + 1
 ok:=fun M as=>.tup (Tp (E.ok M) as)
 shp:=fun as=>Ng fun d hd=>by
  obtain ⟨a,_,rfl⟩:=List.mem_map.mp hd
  exact E.shp a
 eq:=fun a b=>by rw [PyData.eqv,Zbh E.eq]
 hn:=by omega
theorem Tx {τ:Type} [DecidableEq τ] (E:Enc τ) {a b:τ} {M:Mem} {K:Bool->Prop} (h:K (decide (a=b))):eqV (E.e a) (E.e b) M K :=
 .inr ⟨_,_,E.ok M a,E.ok M b,(E.shp a).shaped (by have:=E.hn; omega),(E.shp b).shaped (by have:=E.hn; omega),by rw [E.eq]; exact h⟩
theorem Rs {τ:Type} [DecidableEq τ] (E:Enc τ) {d d':D} {a b:List τ} {M:Mem} {K:Bool->Prop} (h1:Wq M d=some (a.map E.e)) (h2:Wq M d'=some (b.map E.e)) (h:K (decide (a=b))) (hn:E.n<=50:=by decide):eqV d d' M K :=
 .inr ⟨_,_,.seq h1 (Tp (E.ok M) a),.seq h2 (Tp (E.ok M) b),((N6 E hn).shp a).shaped (by have:=(N6 E hn).hn; omega),((N6 E hn).shp b).shaped (by have:=(N6 E hn).hn; omega),by
  have:=(N6 E hn).eq a b
  rw [show PyData.eqv (PyData.list (a.map E.py)) (PyData.list (b.map E.py))=decide (a=b) from this]
  exact h⟩
inductive Ty3 where
 | non | bool | int | str | list | tuple | dict
 deriving DecidableEq
def tyN:Ty3->String
 | .non=>"NoneType" | .bool=>"bool" | .int=>"int" | .str=>"str" | .list=>"list" | .tuple=>"tuple" | .dict=>"dict"
def tyOf (M:Mem):D->Option Ty3
 | .non=>some .non | .bl _=>some .bool | .int _=>some .int | .str _=>some .str | .lst _=>some .list | .tup _=>some .tuple | .dct _=>some .dict | .dcT _=>some .dict
 | .cell k=>match M[k]? with | some (.lst _)=>some .list | some (.dct _)=>some .dict | some (.dcT _)=>some .dict | _=>none
 | _=>none
def isS:Ty3->Ty3->Bool
 | .bool,.int=>true
 | a,b=>decide (a=b)
section
variable {C:Cf} {Z:Anc}
theorem Zle (s t:Ty3) (ht:t≠.non):W.kitOne C.k (.type (tyN s)) (.type (tyN t))=some (isS s t):=by
 cases t with
 | non=>exact absurd rfl ht
 | _=>cases s <;> rfl
theorem Zmy {I:Hp} {α:List Addr} {H:Hp} {M:Mem} {v:V} {d:D} {s:Ty3} (R:Rel C Z I α H M) (r:Rep C I α v d) (h:tyOf M d=some s):TyOf C.k H v (.type (tyN s)):=by
 cases r with
 | non=>cases h; exact .non
 | bl b=>cases h; exact .bl b
 | int b=>cases h; exact .int b
 | str b=>cases h; exact .str b
 | lst e r=>cases h; exact .lst (R.sub _ _ e)
 | frz e r=>cases h
 | tup e r=>cases h; exact .tup (R.sub _ _ e)
 | dct e r=>cases h; exact .dK (R.sub _ _ e)
 | dcT e r=>cases h; exact .dT (R.sub _ _ e)
 | @cell a k e =>
  unfold tyOf at h
  cases hm:M[k]? with
  | none=>simp only [hm] at h; cases h
  | some m =>
   cases m with
   | lst es=>simp only [hm] at h; cases h; obtain ⟨vs,e1,r⟩:=(R.cel k a _ e hm).1; exact .lst e1
   | dct es=>simp only [hm] at h; cases h; obtain ⟨vs,e1,r⟩:=(R.cel k a _ e hm).1; exact .dK e1
   | dcT es=>simp only [hm] at h; cases h; obtain ⟨vs,e1,r⟩:=(R.cel k a _ e hm).1; exact .dT e1
   | _=>simp only [hm] at h; cases h
 | _=>cases h
def isi3 (T:Ty3):List D->Mem->K3->Prop:=fun ds M K=>∃ d s,ds=[d,.ty (tyN T)]/\tyOf M d=some s/\K (.bl (isS s T)) M
theorem Zqi {T:Ty3} (hT:T≠.non:=by decide):SimC C Z (rIsi C.k) (isi3 T):=fun I α H M xs ds K Q R r h k=>by
 obtain ⟨d,s,rfl,e,h⟩:=h
 cases r with
 | cons r1 r2 =>
  cases r2 with
  | cons r2 r3 =>
   cases r3
   cases r2
   exact ⟨_,_,_,_,rfl,Zmy R r1 e,Zle s T hT,k _ _ I α H M (.refl _) (List.prefix_refl _) R (.bl _) h⟩
def len3:List D->Mem->K3->Prop:=fun ds M K=>match ds with
 | [.str z]=>z.length<=sizeLine/\K (.int z.length) M
 | [d]=>∃ xs,R7 M d=some xs/\K (.int xs.length) M
 | _=>False
theorem Wo:SimC C Z (rLen C.k) len3:=fun I α H M xs ds K Q R r h k=>by
 have go:∀ d v,Rep C I α v d->(∃ xs,R7 M d=some xs/\K (.int xs.length) M)->rLen C.k [v] H Q:=fun d v r h=>by
  obtain ⟨ys,e1,h⟩:=h
  by_cases ht:∃ zs,d=.tup zs
  ·obtain ⟨zs,rfl⟩:=ht
   cases e1
   obtain ⟨a,vs,rfl,ea,_,ra⟩:=Vq R r rfl
   exact ⟨_,_,rfl,.inr ⟨_,SqT.of ea,rfl⟩,by rw [ra.length]; exact k _ _ I α H M (.refl _) (List.prefix_refl _) R (.int _) h⟩
  ·have e1':Wq M d=some ys:=by
    cases d with
    | tup ys=>exact absurd ⟨ys,rfl⟩ ht
    | _=>exact e1
   obtain ⟨a,vs,rfl,ea,ra⟩:=Vz R r e1'
   exact ⟨_,_,rfl,.inl ⟨_,ea,rfl⟩,by rw [ra.length]; exact k _ _ I α H M (.refl _) (List.prefix_refl _) R (.int _) h⟩
 cases r with
 | nil=>exact h.elim
 | cons r1 r2 =>
  cases r2 with
  | nil =>
   rename_i v d
   cases d with
   | str z=>cases r1; exact ⟨_,_,rfl,⟨h.1,rfl⟩,k _ _ I α H M (.refl _) (List.prefix_refl _) R (.int _) h.2⟩
   | _=>exact go _ _ r1 h
  | cons _ _ =>
   rename_i v d _ _ _ _ _ _
   cases d <;> exact h.elim
def Zqx:List D->Mem->K3->Prop:=fun ds M K=>∃ d xs,ds=[d]/\R7 M d=some xs/\K (.lst xs) M
def Zoi:List D->Mem->K3->Prop:=fun ds M K=>∃ d xs,ds=[d]/\R7 M d=some xs/\K (.cell M.length) (M++[.lst xs])
theorem Zi5 {I:Hp} {α:List Addr} {H:Hp} {M:Mem} {v:V} {d:D} {xs:List D} (R:Rel C Z I α H M) (r:Rep C I α v d) (h:R7 M d=some xs):∃ a vs,v=.ref a/\(SqL C.k H a vs\/SqT C.k H a vs)/\Reps C I α vs xs:=by
 by_cases ht:∃ zs,d=.tup zs
 ·obtain ⟨zs,rfl⟩:=ht
  cases h
  obtain ⟨a,vs,rfl,ea,_,ra⟩:=Vq R r rfl
  exact ⟨a,vs,rfl,.inr (SqT.of ea),ra⟩
 ·have e1':Wq M d=some xs:=by
   cases d with
   | tup ys=>exact absurd ⟨ys,rfl⟩ ht
   | _=>exact h
  obtain ⟨a,vs,rfl,ea,ra⟩:=Vz R r e1'
  exact ⟨a,vs,rfl,.inl ea,ra⟩
theorem Ni:SimC C Z (Zau C.k) Zqx:=fun I α H M xs ds K Q R r h k=>by
 obtain ⟨d,ys,rfl,e,h⟩:=h
 cases r with
 | cons r1 r2 =>
  cases r2
  obtain ⟨a,vs,rfl,ea,ra⟩:=Zi5 R r1 e
  refine ⟨a,vs,rfl,ea,fun p hp=>?_⟩
  obtain ⟨R2,s2,e2⟩:=R.new (o:=.lst vs) hp
  exact k _ _ _ α _ M s2 (List.prefix_refl _) R2 (.lst e2 (ra.mono s2 (List.prefix_refl _))) h
theorem Zez:SimC C Z (Zau C.k) Zoi:=fun I α H M xs ds K Q R r h k=>by
 obtain ⟨d,ys,rfl,e,h⟩:=h
 cases r with
 | cons r1 r2 =>
  cases r2
  obtain ⟨a,vs,rfl,ea,ra⟩:=Zi5 R r1 e
  refine ⟨a,vs,rfl,ea,fun p hp=>?_⟩
  obtain ⟨R2,p2,e2⟩:=R.cell (o:=.lst vs) (m:=.lst ys) hp fun H' e=>⟨vs,e,ra⟩
  exact k _ _ I _ _ _ (.refl _) p2 R2 (.cell e2) h
def Zm0:List D->Mem->K3->Prop:=fun ds M K=>∃ d xs,ds=[d]/\R7 M d=some xs/\K (.tup xs) M
theorem Sh:SimC C Z (Zjd C.k) Zm0:=fun I α H M xs ds K Q R r h k=>by
 obtain ⟨d,ys,rfl,e,h⟩:=h
 cases r with
 | cons r1 r2 =>
  cases r2
  by_cases ht:∃ zs,d=.tup zs
  ·obtain ⟨zs,rfl⟩:=ht
   cases e
   obtain ⟨a,vs,rfl,ea,_,ra⟩:=Vq R r1 rfl
   exact ⟨a,vs,rfl,.inr ⟨SqT.of ea,k _ _ I α H M (.refl _) (List.prefix_refl _) R r1 h⟩⟩
  ·have e1':Wq M d=some ys:=by
    cases d with
    | tup ys=>exact absurd ⟨ys,rfl⟩ ht
    | _=>exact e
   obtain ⟨a,vs,rfl,ea,ra⟩:=Vz R r1 e1'
   refine ⟨a,vs,rfl,.inl ⟨ea,fun p hp=>?_⟩⟩
   obtain ⟨R2,s2,e2⟩:=R.new (o:=.tup vs) hp
   exact k _ _ _ α _ M s2 (List.prefix_refl _) R2 (.tup e2 (ra.mono s2 (List.prefix_refl _))) h
def two3 (f:Int->Int->D):List D->Mem->K3->Prop:=fun ds M K=>∃ i j,ds=[.int i,.int j]/\K (f i j) M
theorem Zi7:SimC C Z (fun xs H Q=>∃ i j,xs=[.int i,.int j]/\Q (.int (if j > i then j else i)) H) (two3 fun i j=>.int (if j > i then j else i)):=fun I α H M xs ds K Q R r h k=>by
 obtain ⟨i,j,rfl,h⟩:=h
 cases r with
 | cons r1 r2 =>
  cases r2 with
  | cons r2 r3 =>
   cases r3
   cases r1
   cases r2
   exact ⟨i,j,rfl,k _ _ I α H M (.refl _) (List.prefix_refl _) R (.int _) h⟩
def toI:D->Option Int
 | .int i=>some i
 | .bl b=>some (if b then 1 else 0)
 | _=>none
def Zor:List D->Mem->K3->Prop:=fun ds M K=>∃ d i,ds=[d]/\toI d=some i/\K (.int i) M
theorem Zkg:SimC C Z (fun xs H Q=>(∃ i,xs=[.int i]/\Q (.int i) H)\/∃ k,xs=[.bl k]/\Q (.int (if k then 1 else 0)) H) Zor:=fun I α H M xs ds K Q R r h k=>by
 obtain ⟨d,i,rfl,e,h⟩:=h
 cases r with
 | cons r1 r2 =>
  cases r2
  cases r1 with
  | int j=>cases e; exact .inl ⟨_,rfl,k _ _ I α H M (.refl _) (List.prefix_refl _) R (.int _) h⟩
  | bl b=>cases e; exact .inr ⟨_,rfl,k _ _ I α H M (.refl _) (List.prefix_refl _) R (.int _) h⟩
  | _=>cases e
theorem Rel.putL {I:Hp} {α:List Addr} {H:Hp} {M:Mem} (R:Rel C Z I α H M) {k:Nat} {a:Addr} {vs:List V} {ds:List D} (ha:α[k]?=some a) (r:Reps C I α vs ds):Rel C Z I α (upd H a (.lst vs)) (M.set k (.lst ds)) :=
 R.put (m:=.lst ds) ha fun H' e=>⟨vs,e,r⟩
theorem Zd8 {H:Hp} {a:Addr} {vs:List V} (e:H a=some (.lst vs)):tyV C.k "list" (.ref a) H:=.inl ⟨rfl,vs,SqL.of e⟩
def app3:D->List D->Mem->K3->Prop:=fun d ds M K=>∃ k xs y,d=.cell k/\ds=[y]/\M[k]?=some (.lst xs)/\xs.length < sizeLine/\K .non (M.set k (.lst (xs++[y])))
variable {to:TE} {uo:TE3} {t:TA} {u:TA3}
theorem U8 (ho:SimE C Z to uo) (ha:SimA C Z t u):SimE C Z (tBM C.k "list" Ze6 to t) (fun ρ M K=>uo ρ M fun d M1=>lsOf M1 d≠none/\u ρ M1 fun ds M2=>app3 d ds M2 K):=fun I α σ H ρ M K Q R E h k =>
 ho I α σ H ρ M _ _ R E h fun v d I1 α1 H1 M1 s1 p1 R1 r1 h1=>by
  obtain ⟨hn,h1⟩:=h1
  cases hl:lsOf M1 d with
  | none=>exact absurd hl hn
  | some zs =>
   obtain ⟨a,vs,rfl,ea,ra⟩:=Q6 R1 r1 hl
   refine ⟨Zd8 ea,ha I1 α1 σ H1 ρ M1 _ _ R1 (E.mono s1 p1) h1 fun ws ds I2 α2 H2 M2 s2 p2 R2 r2 h2=>?_⟩
   obtain ⟨j,xs,y,rfl,rfl,e1,hz,h2⟩:=h2
   cases r2 with
   | cons ry rn =>
    cases rn
    cases (r1.mono s2 p2) with
    | cell ec =>
     obtain ⟨us,eu,ru⟩:=Sf R2 ec e1
     refine ⟨a,us,_,rfl,rfl,eu,by rw [ru.length]; exact hz,?_⟩
     exact k _ _ I2 α2 _ _ (s1.trans s2) (p1.trans p2) (R2.putL ec (ru.app (.one ry))) .non h2
end
def Y1 (n:Nat) (d:D):Prop:=∀ C I α v,Rep C I α v d->Rep C I (α.take n) v d
def X8 (n:Nat) (m:MO):Prop:=∀ C I α H a,MoAt C I α H a m->MoAt C I (α.take n) H a m
inductive BelowE (n:Nat):Ev->Ev->Prop where
 | nil:BelowE n [] []
 | skip {o:Option D} {r r':Ev}:BelowE n r r'->BelowE n (o::r) (none::r')
 | keep {d:D} {r r':Ev}:Y1 n d->BelowE n r r'->BelowE n (some d::r) (some d::r')
inductive BelS (n:Nat):Ev->Ev->Ev->Prop where
 | nil:BelS n [] [] []
 | skip {o0 o:Option D} {r0 r r':Ev}:BelS n r0 r r'->BelS n (o0::r0) (o::r) (none::r')
 | same {d:D} {r0 r r':Ev}:BelS n r0 r r'->BelS n (some d::r0) (some d::r) (some d::r')
 | keep {o0:Option D} {d:D} {r0 r r':Ev}:Y1 n d->BelS n r0 r r'->BelS n (o0::r0) (some d::r) (some d::r')
def Dr (ρ0:Ev) (M0:Mem) (P:Ev->Mem->Prop) (ρ:Ev) (M:Mem):Prop:=P ρ M\/(∃ ρ',(∃ X,M=M0++X)/\BelS M0.length ρ0 ρ ρ'/\P ρ' M0)\/∃ n ρ',M0.length<=n/\BelowE n ρ ρ'/\(∀ m∈M.take n,X8 n m)/\P ρ' (M.take n)
def Dk (n0:Nat) (K:K3):K3:=fun d M=>K d M\/∃ n,n0<=n/\Y1 n d/\(∀ m∈M.take n,X8 n m)/\K d (M.take n)
section
variable {C:Cf} {Z:Anc} {I I':Hp} {α α':List Addr} {H H':Hp} {M:Mem}
theorem BelowE.rep {n:Nat} {ρ ρ':Ev} (b:BelowE n ρ ρ'):∀ {σ:St},RepE C I α σ ρ->RepE C I (α.take n) σ ρ':=by
 induction b with
 | nil=>exact fun h=>⟨h.1,fun i d e=>by simp at e⟩
 | @skip o r r' b ih =>
  intro σ h
  cases σ with
  | nil=>cases h.1
  | cons s σ =>
   have h':RepE C I α σ r:=⟨by simpa using h.1,fun i d e=>by
    obtain ⟨v,a,b⟩:=h.2 (i + 1) d (by simpa using e)
    exact ⟨v,by simpa using a,b⟩⟩
   obtain ⟨l,g⟩:=ih h'
   refine ⟨by rw [List.length_cons,List.length_cons,l],fun i d e=>?_⟩
   cases i with
   | zero=>simp at e
   | succ i =>
    obtain ⟨v,a,b⟩:=g i d (by simpa using e)
    exact ⟨v,by simpa using a,b⟩
 | @keep d0 r r' hb b ih =>
  intro σ h
  cases σ with
  | nil=>cases h.1
  | cons s σ =>
   have h':RepE C I α σ r:=⟨by simpa using h.1,fun i d e=>by
    obtain ⟨v,a,b⟩:=h.2 (i + 1) d (by simpa using e)
    exact ⟨v,by simpa using a,b⟩⟩
   obtain ⟨l,g⟩:=ih h'
   refine ⟨by rw [List.length_cons,List.length_cons,l],fun i d e=>?_⟩
   cases i with
   | zero =>
    obtain ⟨v,a,b⟩:=h.2 0 d e
    simp at e
    subst e
    exact ⟨v,a,hb _ _ _ _ b⟩
   | succ i =>
    obtain ⟨v,a,b⟩:=g i d (by simpa using e)
    exact ⟨v,by simpa using a,b⟩
theorem Sc {α0:List Addr} (p:α0<+:α) {n:Nat} (h:α0.length<=n):α0<+:α.take n:=by
 obtain ⟨t,rfl⟩:=p
 rw [List.take_append,List.take_of_length_le h]
 exact List.prefix_append _ _
theorem Rel.take (R:Rel C Z I α H M) (n:Nat) (hz:Z.a.length<=n) (hb:∀ m∈M.take n,X8 n m):Rel C Z I (α.take n) H (M.take n):=by
 refine ⟨R.ai,Sc R.aa hz,R.sub,by rw [List.length_take,List.length_take,R.len],R.nd.sublist (List.take_sublist _ _),fun k a m h1 h2=>?_⟩
 have h1':α[k]?=some a:=by
  rw [List.getElem?_take] at h1
  split at h1
  ·exact h1
  ·cases h1
 have h2':M[k]?=some m:=by
  rw [List.getElem?_take] at h2
  split at h2
  ·exact h2
  ·cases h2
 obtain ⟨a1,a2⟩:=R.cel k a m h1' h2'
 exact ⟨hb m (List.mem_of_getElem? h2) _ _ _ _ _ a1,a2⟩
theorem Fin.dk {K:K3} {Q:VK} (k:Fin C Z I α K Q) {n0:Nat} (hn:α.length=n0) (ha:Z.a<+:α):Fin C Z I α (Dk n0 K) Q:=fun v d I' α' H' M' s p R r h=>by
 rcases h with h | ⟨n,hl,hb,hm,h⟩
 ·exact k v d I' α' H' M' s p R r h
 ·exact k v d I' (α'.take n) H' (M'.take n) s (Sc p (by omega)) (R.take n (by have:=ha.length_le; omega) hm) (hb _ _ _ _ r) h
end
theorem Zg0 {n:Nat} {i:Int}:Y1 n (.int i):=fun _ _ _ _ r=>by cases r; exact .int _
theorem Ziq {n:Nat} {i:Bool}:Y1 n (.bl i):=fun _ _ _ _ r=>by cases r; exact .bl _
theorem Zal {n:Nat} {i:Str}:Y1 n (.str i):=fun _ _ _ _ r=>by cases r; exact .str _
theorem Zgx {n:Nat}:Y1 n .non:=fun _ _ _ _ r=>by cases r; exact .non
theorem Zdw {n:Nat} {S:List Pr}:Y1 n (.code S):=fun _ _ _ _ r=>by cases r with | code h=>exact .code h
theorem Qt {n k:Nat} (h:k < n):Y1 n (.cell k):=fun _ _ α _ r=>by
 cases r with
 | cell e=>exact .cell (by rw [List.getElem?_take,if_pos h]; exact e)
theorem Ti {n:Nat} {ds:List D} (h:∀ d∈ds,Y1 n d) {C:Cf} {I:Hp} {α:List Addr}:∀ {vs:List V},Reps C I α vs ds->Reps C I (α.take n) vs ds:=by
 induction ds with
 | nil=>intro vs r; cases r; exact .nil
 | cons d ds ih =>
  intro vs r
  cases r with
  | cons a b=>exact .cons (h d List.mem_cons_self _ _ _ _ a) (ih (fun x hx=>h x (List.mem_cons_of_mem _ hx)) b)
theorem Zgz {n:Nat} {ds:List D} (h:∀ d∈ds,Y1 n d):Y1 n (.lst ds):=fun _ _ _ _ r=>by cases r with | lst e r=>exact .lst e (Ti h r)
theorem Zg1 {n:Nat} {ds:List D} (h:∀ d∈ds,Y1 n d):Y1 n (.frz ds):=fun _ _ _ _ r=>by cases r with | frz e r=>exact .frz e (Ti h r)
theorem Zgw {n:Nat} {ds:List D} (h:∀ d∈ds,Y1 n d):Y1 n (.tup ds):=fun _ _ _ _ r=>by cases r with | tup e r=>exact .tup e (Ti h r)
theorem Zgy {n:Nat}:∀ d∈([]:List D),Y1 n d:=fun _ h=>nomatch h
theorem Zdv {n:Nat} {d:D} {ds:List D} (h:Y1 n d) (r:∀ d∈ds,Y1 n d):∀ x∈d::ds,Y1 n x:=fun x hx=>by
 rcases List.mem_cons.mp hx with z | z
 ·rw [z]; exact h
 ·exact r x z
theorem Zl3 {n:Nat}:X8 n .hand:=fun _ _ _ _ _ h=>h
theorem Zpa {n:Nat} {P:Addr} {p:Pos} {q:Str}:X8 n (.tab P p q):=fun _ _ _ _ _ h=>h
theorem Zjx {n:Nat} {ds:List D} (h:∀ d∈ds,Y1 n d):X8 n (.lst ds):=fun _ _ _ _ _ x=>by
 obtain ⟨vs,e,r⟩:=x
 exact ⟨vs,e,Ti h r⟩
def WfM (M:Mem):Prop:=∀ m∈M,X8 M.length m
theorem Tg {n:Nat} {kvs:List (Key×D)} (h:∀ kv∈kvs,Y1 n kv.2) {C:Cf} {I:Hp} {α:List Addr}:∀ {vs:List (Key×V)},RepK C I α vs kvs->RepK C I (α.take n) vs kvs:=by
 induction kvs with
 | nil=>intro vs r; cases r; exact .nil
 | cons d ds ih =>
  intro vs r
  cases r with
  | cons a b=>exact .cons (h _ List.mem_cons_self _ _ _ _ a) (ih (fun x hx=>h x (List.mem_cons_of_mem _ hx)) b)
theorem Th {n:Nat} {kvs:List (List Key×D)} (h:∀ kv∈kvs,Y1 n kv.2) {C:Cf} {I:Hp} {α:List Addr}:∀ {vs:List (List Key×V)},RepT C I α vs kvs->RepT C I (α.take n) vs kvs:=by
 induction kvs with
 | nil=>intro vs r; cases r; exact .nil
 | cons d ds ih =>
  intro vs r
  cases r with
  | cons a b=>exact .cons (h _ List.mem_cons_self _ _ _ _ a) (ih (fun x hx=>h x (List.mem_cons_of_mem _ hx)) b)
theorem Zg2 {n:Nat} {kvs:List (Str×D)} (h:∀ kv∈kvs,Y1 n kv.2) {C:Cf} {I:Hp} {α:List Addr}:∀ {vs:List (Str×V)},RepF C I α vs kvs->RepF C I (α.take n) vs kvs:=by
 induction kvs with
 | nil=>intro vs r; cases r; exact .nil
 | cons d ds ih =>
  intro vs r
  cases r with
  | cons a b=>exact .cons (h _ List.mem_cons_self _ _ _ _ a) (ih (fun x hx=>h x (List.mem_cons_of_mem _ hx)) b)
mutual
theorem Rep.bel {C:Cf} {I:Hp} {α:List Addr}:∀ {v:V} {d:D},Rep C I α v d->Y1 α.length d
 | _,_,.non=>Zgx
 | _,_,.bl b=>Ziq
 | _,_,.int i=>Zg0
 | _,_,.str x=>Zal
 | _,_,.ty n=>fun _ _ _ _ r=>by cases r; exact .ty _
 | _,_,.at a=>fun _ _ _ _ r=>by cases r; exact .at _
 | _,_,.tup e r=>Zgw (Reps.bel r)
 | _,_,.lst e r=>Zgz (Reps.bel r)
 | _,_,.frz e r=>Zg1 (Reps.bel r)
 | _,_,.dct e r=>fun _ _ _ _ q=>by cases q with | dct e q=>exact .dct e (Tg (RepK.bel r) q)
 | _,_,.dcT e r=>fun _ _ _ _ q=>by cases q with | dcT e q=>exact .dcT e (Th (RepT.bel r) q)
 | _,_,.code h=>Zdw
 | _,_,.cell e=>Qt (List.getElem?_eq_some_iff.mp e).1
 | _,_,.exc e f r=>fun _ _ _ _ q=>by cases q with | exc e f q=>exact .exc e f (Zg2 (RepF.bel r) q)
theorem Reps.bel {C:Cf} {I:Hp} {α:List Addr}:∀ {vs:List V} {ds:List D},Reps C I α vs ds->∀ d∈ds,Y1 α.length d
 | _,_,.nil=>Zgy
 | _,_,.cons h r=>Zdv (Rep.bel h) (Reps.bel r)
theorem RepK.bel {C:Cf} {I:Hp} {α:List Addr}:∀ {vs:List (Key×V)} {ds:List (Key×D)},RepK C I α vs ds->∀ kv∈ds,Y1 α.length kv.2
 | _,_,.nil=>fun _ h=>nomatch h
 | _,_,.cons h r=>fun kv hk=>by
  rcases List.mem_cons.mp hk with z | z
  ·rw [z]; exact Rep.bel h
  ·exact RepK.bel r kv z
theorem RepF.bel {C:Cf} {I:Hp} {α:List Addr}:∀ {vs:List (Str×V)} {ds:List (Str×D)},RepF C I α vs ds->∀ kv∈ds,Y1 α.length kv.2
 | _,_,.nil=>fun _ h=>nomatch h
 | _,_,.cons h r=>fun kv hk=>by
  rcases List.mem_cons.mp hk with z | z
  ·rw [z]; exact Rep.bel h
  ·exact RepF.bel r kv z
theorem RepT.bel {C:Cf} {I:Hp} {α:List Addr}:∀ {vs:List (List Key×V)} {ds:List (List Key×D)},RepT C I α vs ds->∀ kv∈ds,Y1 α.length kv.2
 | _,_,.nil=>fun _ h=>nomatch h
 | _,_,.cons h r=>fun kv hk=>by
  rcases List.mem_cons.mp hk with z | z
  ·rw [z]; exact Rep.bel h
  ·exact RepT.bel r kv z
end
theorem Zpg {n:Nat} {ds:List (Key×D)} (h:∀ d∈ds,Y1 n d.2):X8 n (.dct ds):=fun _ _ _ _ _ x=>by
 obtain ⟨vs,e,r⟩:=x
 exact ⟨vs,e,Tg h r⟩
theorem Zph {n:Nat} {ds:List (List Key×D)} (h:∀ d∈ds,Y1 n d.2):X8 n (.dcT ds):=fun _ _ _ _ _ x=>by
 obtain ⟨vs,e,r⟩:=x
 exact ⟨vs,e,Th h r⟩
theorem Zpd {n:Nat} {ds:List (Key×D)} (h:∀ d∈ds,Y1 n d.2):X8 n (.drK ds):=fun _ _ _ _ _ x=>by
 obtain ⟨vs,e,r⟩:=x
 exact ⟨vs,e,Tg h r⟩
theorem Zpc {n:Nat} {ds:List (List Key×D)} (h:∀ d∈ds,Y1 n d.2):X8 n (.drT ds):=fun _ _ _ _ _ x=>by
 obtain ⟨vs,e,r⟩:=x
 exact ⟨vs,e,Th h r⟩
theorem Zpe {n:Nat} {o:Obj} {vs:List (List Key×V)} {ds:List (List Key×D)} (h:∀ d∈ds,Y1 n d.2):X8 n (.dfT o vs ds):=fun _ _ _ _ _ x=>⟨x.1,Th h x.2⟩
theorem Zpf {n:Nat} {o:Obj} {vs:List (Key×V)} {ds:List (Key×D)} (h:∀ d∈ds,Y1 n d.2):X8 n (.dfK o vs ds):=fun _ _ _ _ _ x=>⟨x.1,Tg h x.2⟩
theorem Zpb {n:Nat} {Cl:Addr} {fs:List (Str×D)} (h:∀ d∈fs,Y1 n d.2):X8 n (.ins Cl fs):=fun C I α H a x=>by
 obtain ⟨dx,vs,e,r⟩:=x
 refine ⟨dx,vs,e,?_⟩
 clear e
 induction fs generalizing vs with
 | nil=>cases r; exact .nil
 | cons d ds ih =>
  cases r with
  | cons a b=>exact .cons ⟨a.1,h _ List.mem_cons_self _ _ _ _ a.2⟩ (ih (fun x hx=>h x (List.mem_cons_of_mem _ hx)) _ b)
theorem X8.up {n m:Nat} {x:MO} (h:X8 n x) (l:n<=m):X8 m x:=fun C I α H a r=>(h C I α H a r).mono (.refl _) (by rw [<- Nat.min_eq_left l,<- List.take_take]; exact List.take_prefix _ _) rfl
theorem MoAt.bel {C:Cf} {I:Hp} {α:List Addr} {H:Hp} {a:Addr} {m:MO} (h:MoAt C I α H a m):X8 α.length m:=by
 cases m with
 | lst ds=>obtain ⟨vs,e,r⟩:=h; exact Zjx r.bel
 | dct ds=>obtain ⟨vs,e,r⟩:=h; exact Zpg r.bel
 | dcT ds=>obtain ⟨vs,e,r⟩:=h; exact Zph r.bel
 | drK ds=>obtain ⟨vs,e,r⟩:=h; exact Zpd r.bel
 | drT ds=>obtain ⟨vs,e,r⟩:=h; exact Zpc r.bel
 | dfT o vs ds=>exact Zpe h.2.bel
 | dfK o vs ds=>exact Zpf h.2.bel
 | ins Cl fs =>
  obtain ⟨dx,vs,e,r⟩:=h
  refine Zpb fun kv hk=>?_
  clear e
  induction r with
  | nil=>cases hk
  | cons a b ih =>
   rcases List.mem_cons.mp hk with z | z
   ·rw [z]; exact a.2.bel
   ·exact ih z
 | hand=>exact Zl3
 | tab P pos q=>exact Zpa
theorem Rel.wf {C:Cf} {Z:Anc} {I:Hp} {α:List Addr} {H:Hp} {M:Mem} (R:Rel C Z I α H M):WfM M:=fun m hm=>by
 obtain ⟨k,hk,rfl⟩:=List.getElem_of_mem hm
 have hk':k < α.length:=by rw [R.len]; exact hk
 have:=(R.cel k _ _ (List.getElem?_eq_getElem hk') (List.getElem?_eq_getElem hk)).1.bel
 rwa [R.len] at this
theorem BelS.belowE {n:Nat} {ρ0 ρ ρ':Ev} (b:BelS n ρ0 ρ ρ'):(∀ (i:Nat) (d:D),ρ0[i]?=some (some d)->Y1 n d)->BelowE n ρ ρ':=by
 induction b with
 | nil=>exact fun _=>.nil
 | skip _ ih=>exact fun h=>.skip (ih fun i d e=>h (i + 1) d (by simpa using e))
 | same _ ih=>exact fun h=>.keep (h 0 _ rfl) (ih fun i d e=>h (i + 1) d (by simpa using e))
 | keep hb _ ih=>exact fun h=>.keep hb (ih fun i d e=>h (i + 1) d (by simpa using e))
theorem Dr.out {C:Cf} {Z:Anc} {I I0:Hp} {α0 α:List Addr} {H H0:Hp} {M M0:Mem} {P:Ev->Mem->Prop} {σ σ0:St} {ρ ρ0:Ev} (h:Dr ρ0 M0 P ρ M) (R0:Rel C Z I0 α0 H0 M0) (E0:RepE C I0 α0 σ0 ρ0) (p:α0<+:α) (R:Rel C Z I α H M) (E:RepE C I α σ ρ) :
  ∃ α' ρ' M',α0<+:α'/\Rel C Z I α' H M'/\RepE C I α' σ ρ'/\P ρ' M':=by
 rcases h with h | ⟨ρ',⟨X,rfl⟩,hb,h⟩ | ⟨n,ρ',hl,hb,hm,h⟩
 ·exact ⟨α,ρ,M,p,R,E,h⟩
 ·have hb':=hb.belowE fun i d e=>by
   obtain ⟨v,_,r⟩:=E0.2 i d e
   have:=r.bel
   rwa [R0.len] at this
  have et:(M0++X).take M0.length=M0:=List.take_left ..
  have R1:=R.take M0.length (by rw [<- R0.len]; exact R0.aa.length_le) (by rw [et]; exact R0.wf)
  rw [et] at R1
  exact ⟨α.take M0.length,ρ',M0,Sc p (by rw [R0.len]; exact Nat.le_refl _),R1,hb'.rep E,h⟩
 ·exact ⟨α.take n,ρ',M.take n,Sc p (by rw [R0.len]; omega),R.take n (by have:=R0.aa.length_le; have:=R0.len; omega) hm,hb.rep E,h⟩
section
variable {C:Cf} {Z:Anc} {t t':TS} {u u':TS3} {te:TE} {ue:TE3} {tc:TT} {uc:TT3} {g:TG} {ug:TG3} {gs:TGs} {ugs:TGs3}
def uSeq (u u':TS3):TS3:=fun E ρ M=>u { E with nx:=u' E } ρ M
theorem Z3 (h1:SimS C Z t u) (h2:SimS C Z t' u'):SimS C Z (tSeq t t') (uSeq u u'):=fun I α σ H ρ M E D' R RE h F =>
 h1 I α σ H ρ M { E with nx:=u' E } { D' with nx:=t' D' } R RE h ⟨fun I1 α1 σ1 H1 ρ1 M1 s p R1 RE1 h1=>h2 I1 α1 σ1 H1 ρ1 M1 E D' R1 RE1 h1 (F.mono s p),F.rt,F.bk,F.ct⟩
def Zmp:TS3:=fun E ρ M=>E.nx ρ M
theorem X1:SimS C Z Zm8 Zmp:=fun I α σ H ρ M E D' R RE h F=>F.nx I α σ H ρ M (.refl _) (List.prefix_refl _) R RE h
def Zp6:TS3:=fun E ρ M=>E.ct ρ M
theorem Znm:SimS C Z Znc Zp6:=fun I α σ H ρ M E D' R RE h F=>F.ct I α σ H ρ M (.refl _) (List.prefix_refl _) R RE h
def Zp3 (ue:TE3):TS3:=fun E ρ M=>ue ρ M fun _ M1=>E.nx ρ M1
theorem U7 (he:SimE C Z te ue):SimS C Z (Zj8 te) (Zp3 ue):=fun I α σ H ρ M E D' R RE h F =>
 he I α σ H ρ M _ _ R RE h fun v d I1 α1 H1 M1 s p R1 r h1=>F.nx I1 α1 σ H1 ρ M1 s p R1 (RE.mono s p) h1
def uRet (ue:TE3):TS3:=fun E ρ M=>ue ρ M E.rt
theorem X7 (he:SimE C Z te ue):SimS C Z (tRet te) (uRet ue):=fun I α σ H ρ M E D' R RE h F=>he I α σ H ρ M _ _ R RE h F.rt
def uIfS (c:TT3) (u u':TS3):TS3:=fun E ρ M=>c ρ M fun b M1=>if b=true then u E ρ M1 else u' E ρ M1
theorem Wz (hc:SimT C Z tc uc) (h1:SimS C Z t u) (h2:SimS C Z t' u'):SimS C Z (tIfS tc t t') (uIfS uc u u'):=fun I α σ H ρ M E D' R RE h F =>
 hc I α σ H ρ M _ _ R RE h fun b I1 α1 H1 M1 s p R1 h3=>by
  cases b with
  | true =>
   rw [if_pos rfl] at h3 ⊢
   exact h1 I1 α1 σ H1 ρ M1 E D' R1 (RE.mono s p) h3 (F.mono s p)
  | false =>
   rw [if_neg Bool.false_ne_true] at h3 ⊢
   exact h2 I1 α1 σ H1 ρ M1 E D' R1 (RE.mono s p) h3 (F.mono s p)
def Zmq:TS3:=fun _ _ _=>False
theorem Sj:SimS C Z Ziz Zmq:=fun I α σ H ρ M E D' R RE h F=>h
def uAsg (ue:TE3) (ug:TG3):TS3:=fun E ρ M=>ue ρ M fun d M1=>ug d ρ M1 E.nx
theorem Yn (he:SimE C Z te ue) (hg:SimG C Z g ug):SimS C Z (tAsg te g) (uAsg ue ug):=fun I α σ H ρ M E D' R RE h F =>
 he I α σ H ρ M _ _ R RE h fun v d I1 α1 H1 M1 s p R1 r h1=>hg I1 α1 σ H1 ρ M1 v d _ _ R1 (RE.mono s p) r h1 (F.nx.mono s p)
def uG (i:Nat):TG3:=fun d ρ M K=>K (ρ.set i (some d)) M
theorem s_g (i:Nat):SimG C Z (Zbf i) (uG i):=fun I α σ H ρ M v d K Q R RE r h k=>k I α _ H _ M (.refl _) (List.prefix_refl _) R (RE.set r i) h
def Zp1:TGs3:=fun ds ρ M K=>ds=[]/\K ρ M
def Zmt (ug:TG3) (ugs:TGs3):TGs3:=fun ds ρ M K=>∃ d r,ds=d::r/\ug d ρ M fun ρ' M'=>ugs r ρ' M' K
theorem Up:Ziu C Z gNil Zp1:=fun I α σ H ρ M vs ds K Q R RE r h k=>by
 obtain ⟨rfl,h⟩:=h
 cases r
 exact ⟨rfl,k I α σ H ρ M (.refl _) (List.prefix_refl _) R RE h⟩
theorem Yd (h1:SimG C Z g ug) (h2:Ziu C Z gs ugs):Ziu C Z (Zlm g gs) (Zmt ug ugs):=fun I α σ H ρ M vs ds K Q R RE r h k=>by
 obtain ⟨d,r',rfl,h⟩:=h
 cases r with
 | cons a b=>exact ⟨_,_,rfl,h1 I α σ H ρ M _ d _ _ R RE a h fun I1 α1 σ1 H1 ρ1 M1 s p R1 RE1 h3=>h2 I1 α1 σ1 H1 ρ1 M1 _ _ _ _ R1 RE1 (b.mono s p) h3 (k.mono s p)⟩
def Zpz (n:Nat) (ugs:TGs3):TG3:=fun d ρ M K=>∃ ds,Zm1 d=some ds/\ds.length=n/\ugs ds ρ M K
theorem Uo {n:Nat} (h:Ziu C Z gs ugs):SimG C Z (gTup C.k n gs) (Zpz n ugs):=fun I α σ H ρ M v d K Q R RE r hh k=>by
 obtain ⟨ds,e,hl,hh⟩:=hh
 obtain ⟨a,vs,rfl,ea,_,ra⟩:=Vq R r e
 exact ⟨a,vs,rfl,SqT.of ea,by rw [ra.length]; exact hl,h I α σ H ρ M vs ds K Q R RE ra hh k⟩
def Zp0 (uo ui:TE3):TG3:=fun d ρ M K=>uo ρ M fun o M1=>ui ρ M1 fun i M2=>∃ k xs z j,o=.cell k/\i=.int z/\M2[k]?=some (.lst xs)/\ixN xs.length z=some j/\K ρ (M2.set k (.lst (xs.set j d)))
theorem Zi8 {to ti:TE} {uo ui:TE3} (ho:SimE C Z to uo) (hi:SimE C Z ti ui):SimG C Z (gSub to ti Znu) (Zp0 uo ui):=fun I α σ H ρ M v d K Q R RE r hh k =>
 ho I α σ H ρ M _ _ R RE hh fun ov o I1 α1 H1 M1 s1 p1 R1 r1 h1=>hi I1 α1 σ H1 ρ M1 _ _ R1 (RE.mono s1 p1) h1 fun iv i I2 α2 H2 M2 s2 p2 R2 r2 h2=>by
  obtain ⟨kk,xs,z,j,rfl,rfl,e1,e2,h2⟩:=h2
  cases r2
  cases (r1.mono s2 p2) with
  | cell ec =>
   obtain ⟨us,eu,ru⟩:=Sf R2 ec e1
   refine ⟨_,us,z,j,rfl,rfl,eu,by rw [ru.length]; exact e2,?_⟩
   exact k I2 α2 σ _ ρ _ (s1.trans s2) (p1.trans p2) (R2.putL ec (ru.set (r.mono (s1.trans s2) (p1.trans p2)) j)) (RE.mono (s1.trans s2) (p1.trans p2)) h2
structure It3 where
 n:Nat
 item:Nat->D->Prop
 ok:Mem->Prop
abbrev TI3:=Ev->Mem->(It3->Mem->Prop)->Prop
def ItR (C:Cf) (Z:Anc) (I:Hp) (α:List Addr) (J:It) (j:It3):Prop:=∀ I' α' H' M',Same I I'->α<+:α'->Rel C Z I' α' H' M'->j.ok M' ->
 (∀ i,i < j.n->J.go i H'/\∀ x H2,J.yld i H' x H2->∃ I2 d,Same I' I2/\Rel C Z I2 α' H2 M'/\Rep C I2 α' x d/\j.item i d)/\J.stop j.n H'
def SimI (C:Cf) (Z:Anc) (w:TI) (u:TI3):Prop:=∀ I α σ H ρ M (K:It3->Mem->Prop) (R':It->Hp->Prop),Rel C Z I α H M->RepE C I α σ ρ->u ρ M K ->
 (∀ J j I' α' H' M',Same I I'->α<+:α'->Rel C Z I' α' H' M'->ItR C Z I' α' J j->K j M'->R' J H')->w σ H R'
def lit (M0:Mem) (d:D) (ds:List D):It3:=⟨ds.length,fun i x=>ds[i]?=some x,fun M=>Wq M d=some ds⟩
def uIL (ue:TE3):TI3:=fun ρ M K=>ue ρ M fun d M1=>∃ ds,Wq M1 d=some ds/\K ⟨ds.length,fun i x=>ds[i]?=some x,fun M=>Wq M d=some ds⟩ M1
theorem s_il (he:SimE C Z te ue):SimI C Z (Zou C.k te) (uIL ue):=fun I α σ H ρ M K R' R RE h k =>
 he I α σ H ρ M _ _ R RE h fun v d I1 α1 H1 M1 s1 p1 R1 r1 h1=>by
  obtain ⟨ds,e,h1⟩:=h1
  obtain ⟨a,vs,rfl,ea,ra⟩:=Vz R1 r1 e
  refine ⟨a,rfl,⟨vs,ea⟩,k _ _ I1 α1 H1 M1 s1 p1 R1 (fun I2 α2 H2 M2 s2 p2 R2 ok=>?_) h1⟩
  obtain ⟨b,ws,eb,eq,rw'⟩:=Vz R2 (r1.mono s2 p2) ok
  cases eb
  refine ⟨fun i hi=>?_,⟨ws,eq,by rw [rw'.length]; exact Nat.le_refl _⟩⟩
  have hi2:i < ws.length:=by rw [rw'.length]; exact hi
  refine ⟨⟨ws,ws[i],eq,List.getElem?_eq_getElem hi2⟩,fun x H3 y=>?_⟩
  obtain ⟨rfl,y⟩:=y
  have:=y ws eq
  rw [List.getElem?_eq_getElem hi2] at this
  cases this
  exact ⟨I2,ds[i],.refl _,R2,rw'.at hi2 hi,List.getElem?_eq_getElem hi⟩
def Zhn (lo:Int) (n:Nat):It3:=⟨n,fun i x=>x=.int (lo + i),fun _=>True⟩
theorem Zqy {I:Hp} {α:List Addr} {lo:Int} {n:Nat}:ItR C Z I α (Itr lo n) (Zhn lo n):=fun I' α' H' M' s p R _=>⟨fun i hi=>⟨hi,fun x H2 y=>by
 obtain ⟨rfl,rfl⟩:=y
 exact ⟨I',_,.refl _,R,.int _,rfl⟩⟩,Nat.le_refl _⟩
variable {ta:TA} {ua:TA3}
def uIR1 (ua:TA3):TI3:=fun ρ M K=>ua ρ M fun ds M1=>∃ j:Int,ds=[.int j]/\(-(2 ^ 62)<=j/\j < 2 ^ 62)/\K (Zhn 0 j.toNat) M1
theorem Nj (ha:SimA C Z ta ua):SimI C Z (Zot ta) (uIR1 ua):=fun I α σ H ρ M K R' R RE h k =>
 ha I α σ H ρ M _ _ R RE h fun vs ds I1 α1 H1 M1 s1 p1 R1 r1 h1=>by
  obtain ⟨j,rfl,⟨h2,h3⟩,h1⟩:=h1
  cases r1 with
  | cons a b =>
   cases b
   cases a
   exact ⟨j,rfl,h2,h3,k _ _ I1 α1 H1 M1 s1 p1 R1 Zqy h1⟩
def uFor (ui:TI3) (ug:TG3) (ub:TS3):TS3:=fun E ρ M=>ui ρ M fun j M1=>∃ P:Nat->Ev->Mem->Prop,(∀ i ρ M,i<=j.n->P i ρ M->j.ok M)/\P 0 ρ M1 /\
 (∀ i x ρ1 M',i < j.n->j.item i x->P i ρ1 M'->ug x ρ1 M' fun ρ2 M2=>ub { E with nx:=Dr ρ M1 (P (i + 1)),ct:=Dr ρ M1 (P (i + 1)),bk:=E.nx } ρ2 M2)/\∀ ρ M,P j.n ρ M->E.nx ρ M
theorem Sk {wi:TI} {ui:TI3} (hi:SimI C Z wi ui) (hg:SimG C Z g ug) (hb:SimS C Z t u):SimS C Z (tFor wi g t) (uFor ui ug u):=fun I α σ H ρ M E D' R RE h F =>
 hi I α σ H ρ M _ _ R RE h fun J j I1 α1 H1 M1 s1 p1 R1 IR h1=>by
  obtain ⟨P,hok,h0,hs,he⟩:=h1
  have hlen:=R1.len
  refine ⟨fun i m σ' H'=>m=j.n - i/\i<=j.n/\∃ I2 α2 ρ2 M2,Same I1 I2/\α1<+:α2/\Rel C Z I2 α2 H' M2/\RepE C I2 α2 σ' ρ2/\P i ρ2 M2,⟨j.n,rfl,Nat.zero_le _,I1,α1,ρ,M1,.refl _,List.prefix_refl _,R1,RE.mono s1 p1,h0⟩,?_⟩
  rintro i m σ' H' ⟨rfl,hi,I2,α2,ρ2,M2,s2,p2,R2,RE2,h2⟩
  obtain ⟨go,stop⟩:=IR I2 α2 H' M2 s2 p2 R2 (hok i ρ2 M2 hi h2)
  by_cases hlt:i < j.n
  ·obtain ⟨g1,g2⟩:=go i hlt
   refine .inr ⟨g1,fun σ3 H3=>∃ I3 α3 ρ3 M3,Same I1 I3/\α1<+:α3/\Rel C Z I3 α3 H3 M3/\RepE C I3 α3 σ3 ρ3/\P (i + 1) ρ3 M3,fun σ3 H3 h3=>⟨j.n - (i + 1),by omega,rfl,hlt,h3⟩,fun x H3 y=>?_⟩
   obtain ⟨I3,d,s3,R3,r3,it⟩:=g2 x H3 y
   refine hg I3 α2 σ' H3 ρ2 M2 x d _ _ R3 (RE2.mono s3 (List.prefix_refl _)) r3 (hs i d ρ2 M2 hlt it h2) fun I4 α4 σ4 H4 ρ4 M4 s4 p4 R4 RE4 h4=>?_
   have nx:FinS C Z I4 α4 (Dr ρ M1 (P (i + 1))) (fun σ3 H3=>∃ I3 α3 ρ3 M3,Same I1 I3/\α1<+:α3/\Rel C Z I3 α3 H3 M3/\RepE C I3 α3 σ3 ρ3/\P (i + 1) ρ3 M3):=fun I5 α5 σ5 H5 ρ5 M5 s5 p5 R5 RE5 h5=>by
    obtain ⟨α6,ρ6,M6,p6,R6,RE6,h6⟩:=h5.out R1 (RE.mono s1 p1) (p2.trans (p4.trans p5)) R5 RE5
    exact ⟨I5,α6,ρ6,M6,s2.trans (s3.trans (s4.trans s5)),p6,R6,RE6,h6⟩
   have F4:=F.mono (s1.trans (s2.trans (s3.trans s4))) (p1.trans (p2.trans p4))
   exact hb I4 α4 σ4 H4 ρ4 M4 _ _ R4 RE4 h4 ⟨nx,F4.rt,F4.nx,nx⟩
  ·have e:i=j.n:=by omega
   subst e
   exact .inl ⟨stop,F.nx I2 α2 σ' H' ρ2 M2 (s1.trans s2) (p1.trans p2) R2 RE2 (he ρ2 M2 h2)⟩
def sg3 (ρ:Ev) (T:List Str) (cs:List Nat):Ev:=T.map (fun _=>none)++cs.map fun i=>ρ.getD i none
theorem RepE.sg {I:Hp} {α:List Addr} {σ:St} {ρ:Ev} (h:RepE C I α σ ρ) (T:List Str) (cs:List Nat):RepE C I α (sgOf σ T cs) (sg3 ρ T cs):=by
 refine ⟨by unfold sgOf sg3; simp,fun i d e=>?_⟩
 unfold sg3 at e
 unfold sgOf
 by_cases hi:i < T.length
 ·rw [List.getElem?_append_left (by simpa using hi),List.getElem?_map,List.getElem?_eq_getElem hi] at e
  simp at e
 ·rw [List.getElem?_append_right (by simpa using hi),List.getElem?_map] at e
  rw [List.getElem?_append_right (by simpa using hi),List.getElem?_map]
  simp only [List.length_map] at e ⊢
  cases hc:cs[i - T.length]? with
  | none=>rw [hc] at e; cases e
  | some c =>
   rw [hc] at e
   simp only [Option.map_some,Option.some.injEq] at e ⊢
   rw [List.getD_eq_getElem?_getD] at e ⊢
   cases hr:ρ[c]? with
   | none=>rw [hr] at e; cases e
   | some o =>
    rw [hr] at e
    cases e
    obtain ⟨v,e2,r⟩:=h.2 c d hr
    exact ⟨v,by rw [e2]; rfl,r⟩
variable {tt:TT} {ut:TT3} {T:List Str} {cs:List Nat}
def cmp3 (ui:TI3) (ug:TG3) (ut:TT3) (ue:TE3) (T:List Str) (cs:List Nat) (ρ:Ev) (M:Mem) (F:List D->Mem->Prop):Prop:=ui ρ M fun j M1=>j.n<=sizeLine/\∃ P:Nat->List D->Mem->Prop,(∀ i ys M,i<=j.n->P i ys M->j.ok M)/\P 0 [] M1 /\
 (∀ i x ys M,i < j.n->j.item i x->P i ys M->ug x (sg3 ρ T cs) M fun ρ2 M2=>ut ρ2 M2 fun b M3=>if b=true then ue ρ2 M3 fun y M4=>P (i + 1) (ys++[y]) M4 else P (i + 1) ys M3)/\∀ ys M,P j.n ys M->F ys M
def Zp8 (ui:TI3) (ug:TG3) (ut:TT3) (ue:TE3) (T:List Str) (cs:List Nat):TE3:=fun ρ M K=>cmp3 ui ug ut ue T cs ρ M fun ys M1=>K (.lst ys) M1
def Zmv (ui:TI3) (ug:TG3) (ut:TT3) (ue:TE3) (T:List Str) (cs:List Nat):TE3:=fun ρ M K=>cmp3 ui ug ut ue T cs ρ M fun ys M1=>K (.cell M1.length) (M1++[.lst ys])
theorem Zcw {wi:TI} {ui:TI3} (hi:SimI C Z wi ui) (hg:SimG C Z g ug) (ht:SimT C Z tt ut) (he:SimE C Z te ue) {I:Hp} {α:List Addr} {σ:St} {H:Hp} {ρ:Ev} {M:Mem} {F:List D->Mem->Prop} {Q:VK} (R:Rel C Z I α H M) (RE:RepE C I α σ ρ) (h:cmp3 ui ug ut ue T cs ρ M F)
  (k:∀ ys vs I' α' H' M',Same I I'->α<+:α'->Rel C Z I' α' H' M'->Reps C I' α' vs ys->F ys M'->∀ p,H' p=none->Q (.ref p) (upd H' p (.lst vs))):Zeg wi g tt te T cs σ H Q :=
 hi I α σ H ρ M _ _ R RE h fun J j I1 α1 H1 M1 s1 p1 R1 IR h1=>by
  obtain ⟨hz,P,hok,h0,hs,hd⟩:=h1
  refine ⟨fun i m vs H'=>m=j.n - i/\i<=j.n/\∃ I2 α2 ys M2,Same I1 I2/\α1<+:α2/\Rel C Z I2 α2 H' M2/\Reps C I2 α2 vs ys/\ys.length<=i/\P i ys M2,⟨j.n,rfl,Nat.zero_le _,I1,α1,[],M1,.refl _,List.prefix_refl _,R1,.nil,Nat.le_refl _,h0⟩,?_⟩
  rintro i m vs H' ⟨rfl,hi,I2,α2,ys,M2,s2,p2,R2,r2,hl,h2⟩
  obtain ⟨go,stop⟩:=IR I2 α2 H' M2 s2 p2 R2 (hok i ys M2 hi h2)
  have hvl:=r2.length
  by_cases hlt:i < j.n
  ·obtain ⟨g1,g2⟩:=go i hlt
   refine .inr ⟨g1,by omega,fun vs3 H3=>∃ I3 α3 ys3 M3,Same I1 I3/\α1<+:α3/\Rel C Z I3 α3 H3 M3/\Reps C I3 α3 vs3 ys3/\ys3.length<=i + 1/\P (i + 1) ys3 M3,fun vs3 H3 h3=>⟨j.n - (i + 1),by omega,rfl,hlt,h3⟩,fun x H3 y=>?_⟩
   obtain ⟨I3,d,s3,R3,r3,it⟩:=g2 x H3 y
   have RE3:RepE C I3 α2 σ ρ:=RE.mono (s1.trans (s2.trans s3)) (p1.trans p2)
   refine hg I3 α2 _ H3 _ M2 x d _ _ R3 (RE3.sg T cs) r3 (hs i d ys M2 hlt it h2) fun I4 α4 σ4 H4 ρ4 M4 s4 p4 R4 RE4 h4=>?_
   refine ht I4 α4 σ4 H4 ρ4 M4 _ _ R4 RE4 h4 fun b I5 α5 H5 M5 s5 p5 R5 h5=>?_
   cases b with
   | true =>
    rw [if_pos rfl] at h5 ⊢
    refine he I5 α5 σ4 H5 ρ4 M5 _ _ R5 (RE4.mono s5 p5) h5 fun v e I6 α6 H6 M6 s6 p6 R6 r6 h6=>?_
    refine ⟨I6,α6,ys++[e],M6,s2.trans (s3.trans (s4.trans (s5.trans s6))),p2.trans (p4.trans (p5.trans p6)),R6,(r2.mono (s3.trans (s4.trans (s5.trans s6))) (p4.trans (p5.trans p6))).app (.one r6),?_,h6⟩
    rw [List.length_append,List.length_singleton]
    omega
   | false =>
    rw [if_neg Bool.false_ne_true] at h5 ⊢
    exact ⟨I5,α5,ys,M5,s2.trans (s3.trans (s4.trans s5)),p2.trans (p4.trans p5),R5,r2.mono (s3.trans (s4.trans s5)) (p4.trans p5),by omega,h5⟩
  ·have e:i=j.n:=by omega
   subst e
   exact .inl ⟨stop,by omega,k ys vs I2 α2 H' M2 (s1.trans s2) (p1.trans p2) R2 r2 (hd ys M2 h2)⟩
theorem Vs {wi:TI} {ui:TI3} (hi:SimI C Z wi ui) (hg:SimG C Z g ug) (ht:SimT C Z tt ut) (he:SimE C Z te ue):SimE C Z (Zeg wi g tt te T cs) (Zp8 ui ug ut ue T cs):=fun I α σ H ρ M K Q R RE h k =>
 Zcw hi hg ht he R RE h fun ys vs I' α' H' M' s p R' r hF q hq=>by
  obtain ⟨R2,s2,e2⟩:=R'.new (o:=.lst vs) hq
  exact k _ _ _ α' _ M' (s.trans s2) p R2 (.lst e2 (r.mono s2 (List.prefix_refl _))) hF
theorem Zkh {wi:TI} {ui:TI3} (hi:SimI C Z wi ui) (hg:SimG C Z g ug) (ht:SimT C Z tt ut) (he:SimE C Z te ue):SimE C Z (Zeg wi g tt te T cs) (Zmv ui ug ut ue T cs):=fun I α σ H ρ M K Q R RE h k =>
 Zcw hi hg ht he R RE h fun ys vs I' α' H' M' s p R' r hF q hq=>by
  obtain ⟨R2,p2,e2⟩:=R'.cell (o:=.lst vs) (m:=.lst ys) hq fun H' e=>⟨vs,e,r⟩
  exact k _ _ I' _ _ _ s (p.trans p2) R2 (.cell e2) hF
def Zpt:TT3:=fun _ M K=>K true M
theorem Si:SimT C Z Zm4 Zpt:=fun I α σ H ρ M K Q R E h k=>k true I α H M (.refl _) (List.prefix_refl _) R h
abbrev Sp3:=List D->Mem->K3->Prop
def spOf (C:Cf) (sp:Sp3):Sp:=fun vs H Q _=>∃ Z I α M ds K,Rel C Z I α H M/\Reps C I α vs ds/\sp ds M K/\Fin C Z I α K Q
def Zp9 (sp:Sp3) (ua:TA3):TE3:=fun ρ M K=>ua ρ M fun ds M1=>sp ds M1 K
theorem Z8 {sp:Sp3} {E0':XK} (ha:SimA C Z ta ua):SimE C Z (Zeh (spOf C sp) [] E0' ta) (Zp9 sp ua):=fun I α σ H ρ M K Q R RE h k =>
 ha I α σ H ρ M _ _ R RE h fun vs ds I1 α1 H1 M1 s1 p1 R1 r1 h1=>by
  rw [List.append_nil]
  exact ⟨Z,I1,α1,M1,ds,K,R1,r1,h1,k.mono s1 p1⟩
theorem Cal.imp {P:Program} {w:World} {K:W.Frag} {mg:Str->Option Value} {base:Heap} {x:Str} {k:Nat} {ps:List Str} {sp sp':Sp} (c:Cal P w K mg base x k ps sp) (h:∀ vs H Q E,sp' vs H Q E->sp vs H Q E):Cal P w K mg base x k ps sp' :=
 let ⟨f,fd,a,b⟩:=c
 ⟨f,fd,a.imp h,b⟩
def Nc (N:List Str) (ds:List D):Ev:=ds.map some++List.replicate (N.length - ds.length) none
theorem Nl {I:Hp} {α:List Addr} {vs:List V} {ds:List D} (r:Reps C I α vs ds) (N:List Str):RepE C I α (L2.Ut N vs) (Nc N ds):=by
 have hl:=r.length
 refine ⟨by unfold L2.Ut Nc; simp [hl],fun i d e=>?_⟩
 unfold Nc at e
 unfold L2.Ut
 by_cases hi:i < ds.length
 ·rw [List.getElem?_append_left (by simpa using hi),List.getElem?_map,List.getElem?_eq_getElem hi] at e
  have e':ds[i]=d:=by simpa using e
  rw [List.getElem?_append_left (by simpa [hl] using hi),List.getElem?_map,List.getElem?_eq_getElem (by rw [hl]; exact hi)]
  exact ⟨_,rfl,e' ▸ r.at (by rw [hl]; exact hi) hi⟩
 ·rw [List.getElem?_append_right (by simpa using hi),List.getElem?_replicate] at e
  split at e <;> cases e
theorem Fun.ok3 {P:Program} {w:World} {K:W.Frag} {mg:Str->Option Value} {base:Heap} {x qual:Str} {st:Stmt} {f:Addr} {fd:FuncData} {N ps:List Str} {k:Nat} {sp:Sp3} (F:Fun K x qual st f fd) (S:FnScope N ps (Zi st)) (len:∀ ds M K,sp ds M K->ds.length=ps.length)
  (hbody:∀ (cdv:Value) (A:Around) (outer:List Env) (s:Shared) (H:Hp) (E:XK),Room k (A.deeper (PyProof.Rows.envOfC qual (Zi st) s.heap.objs.size f cdv)) ->
   ∃ t u,PSs (cxOf CX0 P w K mg base N qual (Zi st) f cdv A outer s H E).nox (Zu st) t/\(∀ Z,SimS C Z t u)/\∀ ds M K,WfM M->(∀ d∈ds,Y1 M.length d)->sp ds M K->u { nx:=fun _ M'=>Dk M.length K .non M',rt:=Dk M.length K } (Nc N ds) M):FnOk P w K mg base CX0 (k + 1) f fd ps (spOf C sp):=by
 refine F.ok S (fun vs H Q E h=>?_) (fun cdv A outer s H vs Q E hr h=>?_)
 ·obtain ⟨Z,I,α,M,ds,K,R,r,h,_⟩:=h
  rw [r.length]
  exact len ds M K h
 ·obtain ⟨t,u,h1,h2,h3⟩:=hbody cdv A outer s H E hr
  obtain ⟨Z,I,α,M,ds,K,R,r,h,k⟩:=h
  have kd:=k.dk R.len R.aa
  exact ⟨t,h1,h2 Z I α _ H _ M _ _ R (Nl r N) (h3 ds M K R.wf (by rw [<- R.len]; exact r.bel) h) ⟨fun I1 α1 σ1 H1 ρ1 M1 s1 p1 R1 _ h1=>kd _ _ I1 α1 H1 M1 s1 p1 R1 .non h1,kd,fun _ _ _ _ _ _ _ _ _ _ h=>h.elim,fun _ _ _ _ _ _ _ _ _ _ h=>h.elim⟩⟩
end
section
variable {C:Cf} {Z:Anc} {I:Hp} {α:List Addr} {H H':Hp} {M:Mem}
theorem Rel.full (R:Rel C Z I α H M):∃ I',Same I I'/\Rel C Z I' α H M/\∀ b o,H b=some o->b∉α->I' b=some o:=by
 have s:Same I (fun b=>if b∈α then none else H b):=fun b o e=>by
  have hb:b∉α:=fun hb=>by
   obtain ⟨k,hk,rfl⟩:=List.getElem_of_mem hb
   have hk':k < M.length:=by rw [<- R.len]; exact hk
   rw [(R.cel k _ _ (List.getElem?_eq_getElem hk) (List.getElem?_eq_getElem hk')).2] at e
   cases e
  show (if b∈α then none else H b)=some o
  rw [if_neg hb]
  exact R.sub b o e
 refine ⟨_,s,⟨R.ai.trans s,R.aa,fun b o e=>?_,R.len,R.nd,fun k a m h1 h2=>?_⟩,fun b o e hb=>?_⟩
 ·have e':(if b∈α then none else H b)=some o:=e
  split at e'
  ·cases e'
  ·exact e'
 ·refine ⟨(R.cel k a m h1 h2).1.mono s (List.prefix_refl _) rfl,?_⟩
  show (if a∈α then none else H a)=none
  rw [if_pos (List.mem_of_getElem? h1)]
 ·show (if b∈α then none else H b)=some o
  rw [if_neg hb]
  exact e
theorem Rel.out (R:Rel C Z I α H M) {l:Addr} (h:H l=none):l∉α:=fun hl=>by
 obtain ⟨k,hk,e⟩:=List.getElem_of_mem hl
 exact R.cellNe (List.getElem?_eq_getElem hk) h e
theorem Rel.tupOut (R:Rel C Z I α H M) {l:Addr} {vs:List V} (h:H l=some (.tup vs)):l∉α:=fun hl=>by
 obtain ⟨k,hk,rfl⟩:=List.getElem_of_mem hl
 have hk':k < M.length:=by rw [<- R.len]; exact hk
 have:=(R.cel k _ _ (List.getElem?_eq_getElem hk) (List.getElem?_eq_getElem hk')).1
 cases hm:M[k] with
 | lst ds=>rw [hm] at this; obtain ⟨vs,e,_⟩:=this; rw [h] at e; cases e
 | dct ds=>rw [hm] at this; obtain ⟨vs,e,_⟩:=this; rw [h] at e; cases e
 | dcT ds=>rw [hm] at this; obtain ⟨vs,e,_⟩:=this; rw [h] at e; cases e
 | drK ds=>rw [hm] at this; obtain ⟨vs,e,_⟩:=this; rcases e with e | ⟨o,e⟩ <;> (rw [h] at e; cases e)
 | drT ds=>rw [hm] at this; obtain ⟨vs,e,_⟩:=this; rcases e with e | ⟨o,e⟩ <;> (rw [h] at e; cases e)
 | dfT o vs ds=>rw [hm] at this; have e:=this.1; rw [h] at e; cases e
 | dfK o vs ds=>rw [hm] at this; have e:=this.1; rw [h] at e; cases e
 | ins Cl fs=>rw [hm] at this; obtain ⟨dx,vs,e,_⟩:=this; rw [h] at e; cases e
 | hand=>rw [hm] at this; obtain ⟨d,k,c,cs,e,_⟩:=this; rw [h] at e; cases e
 | tab P pos q=>rw [hm] at this; obtain ⟨_,ps,e,_⟩:=this; rw [h] at e; cases e
theorem Rel.same (R:Rel C Z I α H M) (s:Same H H'):Rel C Z I α H' M:=by
 refine ⟨R.ai,R.aa,R.sub.trans s,R.len,R.nd,fun k a m h1 h2=>?_⟩
 obtain ⟨a1,a2⟩:=R.cel k a m h1 h2
 obtain ⟨o,e⟩:=a1.some
 exact ⟨a1.mono (.refl _) (List.prefix_refl _) ((s _ _ e).trans e.symm),a2⟩
theorem Rel.grow (R:Rel C Z I α H M) {k:Nat} {p c:Addr} {cs:List Int} (ha:α[k]?=some p) (hm:M[k]?=some .hand) (hh:HandAt H' p c) (ic:I c=some (.lst (cs.map V.int))) (hc:cs≠[]/\cs.length<=63/\∀ c∈cs,0<=c) (g:Grow p H H'):Rel C Z I α H' M:=by
 have ip:I p=none:=(R.cel k p _ ha hm).2
 refine ⟨R.ai,R.aa,fun b o e=>g b o (R.sub b o e) (fun z=>by rw [z,ip] at e; cases e),R.len,R.nd,fun j a m h1 h2=>?_⟩
 obtain ⟨a1,a2⟩:=R.cel j a m h1 h2
 by_cases e:k=j
 ·subst e
  rw [ha] at h1
  cases h1
  rw [hm] at h2
  cases h2
  obtain ⟨d0,i0,cs',x1,x2,x3,x4,x5,x6,x7⟩:=hh.ex
  exact ⟨⟨d0,i0,c,cs,x1,ic,hc.1,hc.2.1,x5,x6,hc.2.2⟩,ip⟩
 ·obtain ⟨o,eo⟩:=a1.some
  have ne:a≠p:=fun z=>by
   obtain ⟨hj,ej⟩:=List.getElem?_eq_some_iff.mp h1
   obtain ⟨hk,ek⟩:=List.getElem?_eq_some_iff.mp ha
   rw [<- ej,<- ek] at z
   exact e ((List.getElem_inj R.nd).mp z).symm
  exact ⟨a1.mono (.refl _) (List.prefix_refl _) ((g _ _ eo ne).trans eo.symm),a2⟩
theorem Rel.hand (R:Rel C Z I α H M) {k:Nat} {p:Addr} (ha:α[k]?=some p) (hm:M[k]?=some .hand):∃ c cs,HandAt H p c/\I c=some (.lst (cs.map V.int))/\cs≠[]/\cs.length<=63/\∀ c∈cs,0<=c:=by
 obtain ⟨d,i,c,cs,e,ic,h1,h2,h3,h4,h5⟩:=(R.cel k p _ ha hm).1
 exact ⟨c,cs,⟨d,i,cs,e,R.sub _ _ ic,h1,h2,h3,h4,h5⟩,ic,h1,h2,h5⟩
theorem Rel.cellAt (R:Rel C Z I α H M) {l:Addr} {m:MO} (il:I l=none) (hl:l∉α) (hm:MoAt C I α H l m):Rel C Z I (α++[l]) H (M++[m])/\α<+:(α++[l])/\(α++[l])[M.length]?=some l:=by
 refine ⟨⟨R.ai,R.aa.trans (List.prefix_append _ _),R.sub,by rw [List.length_append,List.length_append,R.len]; rfl,?_,fun k a x h1 h2=>?_⟩,List.prefix_append _ _,by rw [<- R.len]; simp⟩
 ·rw [List.nodup_append]
  exact ⟨R.nd,by simp,fun a ha b hb e=>hl (by rw [<- List.mem_singleton.mp hb,<- e]; exact ha)⟩
 ·by_cases hk:k < α.length
  ·rw [List.getElem?_append_left hk] at h1
   rw [List.getElem?_append_left (by rw [<- R.len]; exact hk)] at h2
   obtain ⟨a1,a2⟩:=R.cel k a x h1 h2
   exact ⟨a1.mono (.refl _) (List.prefix_append _ _) rfl,a2⟩
  ·obtain ⟨hk2,_⟩:=List.getElem?_eq_some_iff.mp h1
   rw [List.length_append,List.length_singleton] at hk2
   have e:k=α.length:=by omega
   subst e
   have e1:(α++[l])[α.length]?=some l:=by simp
   have e2:(M++[m])[α.length]?=some m:=by rw [R.len]; simp
   rw [e1] at h1
   rw [e2] at h2
   cases h1
   cases h2
   exact ⟨hm.mono (.refl _) (List.prefix_append _ _) rfl,il⟩
end
def wD (w:List Int):D:=.tup (w.map .int)
def pD (p:Pr):D:=.tup [.int p.1,wD p.2]
def oD:Option Int->D
 | some z=>.int z
 | none=>.non
section
variable {C:Cf} {I:Hp} {α:List Addr} {H:Hp}
theorem Zqn (s:∀ b xs,H b=some (.tup xs)->I b=some (.tup xs)) {v:V} {w:List Int} (h:Zbt H v w):Rep C I α v (wD w):=by
 obtain ⟨t,rfl,e⟩:=h
 exact .tup (s _ _ e) (.ints w)
theorem Zqo (s:∀ b xs,H b=some (.tup xs)->I b=some (.tup xs)) {v:V} {p:Pr} (h:P0 H v p):Rep C I α v (pD p):=by
 obtain ⟨t,tw,rfl,e,e2⟩:=h
 exact .tup (s _ _ e) (.cons (.int _) (.one (.tup (s _ _ e2) (.ints p.2))))
theorem Q2 {τ:Type} {F:V->τ->Prop} {f:τ->D} (h:∀ v a,F v a->Rep C I α v (f a)):∀ {vs:List V} {as:List τ},Paired F vs as->Reps C I α vs (as.map f)
 | _,_,.nil=>.nil
 | _,_,.cons a b=>.cons (h _ _ a) (Q2 h b)
theorem Za3 {τ:Type} {F:V->τ->Prop} {f:τ->D} (h:∀ v a,Rep C I α v (f a)->F v a):∀ {vs:List V} {as:List τ},Reps C I α vs (as.map f)->Paired F vs as
 | _,[],r=>by cases r; exact .nil
 | _,a::as,r=>by
  cases r with
  | cons x y=>exact .cons (h _ _ x) (Za3 h y)
theorem Zmo (s:Same I H) {v:V} {w:List Int} (h:Rep C I α v (wD w)):Zbt H v w:=by
 cases h with
 | tup e r =>
  rw [r.of_ints w] at e
  exact ⟨_,rfl,s _ _ e⟩
theorem Zqs (s:Same I H) {v:V} {p:Pr} (h:Rep C I α v (pD p)):P0 H v p:=by
 cases h with
 | tup e r =>
  cases r with
  | cons a b =>
   cases b with
   | cons b c =>
    cases c
    cases a
    obtain ⟨t,rfl,e2⟩:=Zmo s b
    exact ⟨_,t,rfl,s _ _ e,e2⟩
end
section
variable {C:Cf} {Z:Anc}
def Zbm:Sp3:=fun ds M K=>∃ k n,ds=[.cell k,.int n]/\M[k]?=some .hand/\(0 < n/\n < 1073741824)/\∀ r,0<=r->r < n->K (.int r) M
theorem Zpp {vs:List V} {H:Hp} {Q:VK} {E:XK} (h:spOf C Zbm vs H Q E):Sg vs H Q E:=by
 obtain ⟨Z,I,α,M,ds,K,R,r,⟨k,n,rfl,hm,⟨n0,n1⟩,h⟩,kk⟩:=h
 cases r with
 | cons r1 r2 =>
  cases r2 with
  | cons r2 r3 =>
   cases r3
   cases r2
   cases r1 with
   | @cell p _ ha =>
    obtain ⟨c,cs,hh,ic,hc⟩:=R.hand ha hm
    exact ⟨p,c,n,rfl,hh,n0,n1,fun z H' z0 z1 hh' g _=>kk _ _ I α H' M (.refl _) (List.prefix_refl _) (R.grow ha hm hh' ic hc g) (.int z) (h z z0 z1)⟩
def Zlx:Sp3:=fun ds M K=>∃ (ns:List Int) (i:Int),ds=[.frz (ns.map .int),.int i]/\(ns.length<=63/\0<=i/\i < 2 ^ 60)/\K (.cell M.length) (M++[.hand])
theorem Zox {I:Hp} {α:List Addr} {H:Hp} {M:Mem} {v:V} {ns:List Int} (R:Rel C Z I α H M) (r:Rep C I α v (.frz (ns.map .int))):∃ a,v=.ref a/\SqL C.k H a (ns.map V.int):=by
 cases r with
 | frz e r =>
  rw [r.of_ints ns] at e
  exact ⟨_,rfl,R.sub.seq e⟩
theorem Zpo {vs:List V} {H:Hp} {Q:VK} {E:XK} (h:spOf C Zlx vs H Q E):Zi2 C.k vs H Q E:=by
 obtain ⟨Z,I,α,M,ds,K,R,r,⟨ns,i,rfl,⟨hl,i0,i1⟩,h⟩,kk⟩:=h
 cases r with
 | cons r1 r2 =>
  cases r2 with
  | cons r2 r3 =>
   cases r3
   cases r2
   obtain ⟨a,rfl,hS⟩:=Zox R r1
   refine ⟨a,ns,i,rfl,hS,hl,i0,i1,fun p c H' np nc hh s=>?_⟩
   have R1:=R.same s
   have pc:p≠c:=hh.ne
   obtain ⟨d0,i0',cs,x1,x2,x3,x4,x5,x6,x7⟩:=hh.ex
   have ipn:I p=none:=R.sub.free np
   have icn:I c=none:=R.sub.free nc
   have R2:Rel C Z (upd I c (.lst (cs.map V.int))) α H' M:=by
    refine ⟨R1.ai.trans (Zb icn),R1.aa,fun b o e=>?_,R1.len,R1.nd,fun k a m h1 h2=>?_⟩
    ·by_cases z:b=c
     ·subst z; rw [Zg] at e; cases e; exact x2
     ·rw [Zm z] at e; exact R1.sub b o e
    ·obtain ⟨a1,a2⟩:=R1.cel k a m h1 h2
     have ne:a≠c:=R.cellNe h1 nc
     exact ⟨a1.mono (Zb icn) (List.prefix_refl _) rfl,by rw [Zm ne]; exact a2⟩
   obtain ⟨R3,p3,e3⟩:=R2.cellAt (l:=p) (m:=.hand) (by rw [Zm pc]; exact ipn) (R.out np) ⟨d0,i0',c,cs,x1,Zg,x3,x4,x5,x6,x7⟩
   exact kk _ _ _ _ H' _ (Zb icn) p3 R3 (.cell e3) h
theorem Rm {I:Hp} {α:List Addr} {H H':Hp} {M:Mem} {k:Nat} {p c l:Addr} {cs bs:List Int} {K:K3} {Q:VK} (R:Rel C Z I α H M) (ha:α[k]?=some p) (hm:M[k]?=some .hand) (hh:HandAt H' p c) (ic:I c=some (.lst (cs.map V.int))) (hc:cs≠[]/\cs.length<=63/\∀ c∈cs,0<=c) (g:Grow p H H')
  (nl:H l=none) (el:H' l=some (.lst (bs.map V.int))) (kk:Fin C Z I α K Q) (h:K (.lst (bs.map .int)) M):Q (.ref l) H':=by
 obtain ⟨I',s,R',f⟩:=(R.grow ha hm hh ic hc g).full
 exact kk _ _ I' α H' M s (List.prefix_refl _) R' (.lst (f _ _ el (R.out nl)) (.ints bs)) h
def Zjw:Sp3:=fun ds M K=>∃ k m,ds=[.cell k,.int m]/\M[k]?=some .hand/\(2<=m/\m<=4)/\∀ bs:List Int,bs.Nodup->2<=bs.length->(bs.length:Int)<=m->(∀ b∈bs,0<=b/\b < 256)->K (.lst (bs.map .int)) M
theorem Zmd {vs:List V} {H:Hp} {Q:VK} {E:XK} (h:spOf C Zjw vs H Q E):Zeo vs H Q E:=by
 obtain ⟨Z,I,α,M,ds,K,R,r,⟨k,m,rfl,hm,⟨m0,m1⟩,h⟩,kk⟩:=h
 cases r with
 | cons r1 r2 =>
  cases r2 with
  | cons r2 r3 =>
   cases r3
   cases r2
   cases r1 with
   | @cell p _ ha =>
    obtain ⟨c,cs,hh,ic,hc⟩:=R.hand ha hm
    exact ⟨p,c,m,rfl,hh,m0,m1,fun l bs H' nl _ el nd b2 bm bb hh' g=>Rm R ha hm hh' ic hc g nl el kk (h bs nd b2 bm bb)⟩
def Zjs:Sp3:=fun ds M K=>∃ k m,ds=[.cell k,.int m]/\M[k]?=some .hand/\(0<=m/\m<=100)/\∀ ss:List Int,ss.Nodup->(ss.length:Int)=m->K (.lst (ss.map .int)) M
theorem Zmc {vs:List V} {H:Hp} {Q:VK} {E:XK} (h:spOf C Zjs vs H Q E):Zen vs H Q E:=by
 obtain ⟨Z,I,α,M,ds,K,R,r,⟨k,m,rfl,hm,⟨m0,m1⟩,h⟩,kk⟩:=h
 cases r with
 | cons r1 r2 =>
  cases r2 with
  | cons r2 r3 =>
   cases r3
   cases r2
   cases r1 with
   | @cell p _ ha =>
    obtain ⟨c,cs,hh,ic,hc⟩:=R.hand ha hm
    exact ⟨p,c,m,rfl,hh,m0,m1,fun l bs H' nl _ el nd b2 hh' g=>Rm R ha hm hh' ic hc g nl el kk (h bs nd b2)⟩
theorem Zbc {I:Hp} {α:List Addr} {H:Hp} {M:Mem} {v:V} {ns:List Int} (R:Rel C Z I α H M) (r:Rep C I α v (.lst (ns.map .int))):∃ a,v=.ref a/\H a=some (.lst (ns.map V.int))/\I a=some (.lst (ns.map V.int)):=by
 cases r with
 | lst e r =>
  rw [r.of_ints ns] at e
  exact ⟨_,rfl,R.sub _ _ e,e⟩
theorem Q5 {I:Hp} {α:List Addr} {H:Hp} {M:Mem} {k:Nat} {p a:Addr} {o:HO} (R:Rel C Z I α H M) (ha:α[k]?=some p) (hm:M[k]?=some .hand) (e:I a=some o):a≠p:=fun z=>by
 rw [z,(R.cel k p _ ha hm).2] at e
 cases e
theorem Zoc {I:Hp} {α:List Addr} {H:Hp} {M:Mem} {v:V} {ds:List D} (R:Rel C Z I α H M) (r:Rep C I α v (.lst ds)):∃ a vs,v=.ref a/\H a=some (.lst vs)/\I a=some (.lst vs)/\Reps C I α vs ds:=by
 cases r with
 | lst e r=>exact ⟨_,_,rfl,R.sub _ _ e,e,r⟩
theorem Zdr {I:Hp} {α:List Addr} {H H':Hp} {M:Mem} {k:Nat} {p c l:Addr} {cs:List Int} {ws:List (List Int)} {K:K3} {Q:VK} (R:Rel C Z I α H M) (ha:α[k]?=some p) (hm:M[k]?=some .hand) (hh:HandAt H' p c) (ic:I c=some (.lst (cs.map V.int))) (hc:cs≠[]/\cs.length<=63/\∀ c∈cs,0<=c) (g:Grow p H H')
  (nl:H l=none) (wa:V7 H' l ws) (kk:Fin C Z I α K Q) (h:K (.lst (ws.map wD)) M):Q (.ref l) H':=by
 have R1:=R.grow ha hm hh ic hc g
 obtain ⟨I',s,R',f⟩:=R1.full
 obtain ⟨us,eu,pu⟩:=wa
 exact kk _ _ I' α H' M s (List.prefix_refl _) R' (.lst (f _ _ eu (R.out nl)) (Q2 (fun v a z=>Zqn (fun b xs e=>f _ _ e (R1.tupOut e)) z) pu)) h
theorem Zg8 {I:Hp} {α:List Addr} {H:Hp} {M:Mem} {v:V} {ws:List (List Int)} (R:Rel C Z I α H M) (r:Rep C I α v (.lst (ws.map wD))):∃ a vs,v=.ref a/\I a=some (.lst vs)/\V7 H a ws:=by
 obtain ⟨a,vs,rfl,e,i,rr⟩:=Zoc R r
 exact ⟨a,vs,rfl,i,vs,e,Za3 (F:=Zbt H) (f:=wD) (fun v a z=>Zmo R.sub z) rr⟩
def Zjr:Sp3:=fun ds M K=>∃ (k:Nat) (ws:List (List Int)) (ss:List Int),ds=[.cell k,.lst (ws.map wD),.lst (ss.map .int)]/\M[k]?=some .hand/\(WOk ws/\ws.length<=28/\ss.Nodup/\ws.length<=ss.length/\ss.length<=100)/\∀ L:List Pr,Free L->Fits L->(L.map (·.2)).Perm ws->K (.lst (L.map pD)) M
theorem Zmb {vs:List V} {H:Hp} {Q:VK} {E:XK} (h:spOf C Zjr vs H Q E):Zem vs H Q E:=by
 obtain ⟨Z,I,α,M,ds,K,R,r,⟨k,ws,ss,rfl,hm,⟨h1,h2,h3,h4,h5⟩,h⟩,kk⟩:=h
 cases r with
 | cons r1 r2 =>
  cases r2 with
  | cons r2 r3 =>
   cases r3 with
   | cons r3 r4 =>
    cases r4
    cases r1 with
    | @cell p _ ha =>
     obtain ⟨c,cs,hh,ic,hc⟩:=R.hand ha hm
     obtain ⟨wa,_,rfl,iw,hw⟩:=Zg8 R r2
     obtain ⟨sa,rfl,es,is⟩:=Zbc R r3
     refine ⟨p,c,wa,sa,ws,ss,rfl,hh,hw,Q5 R ha hm iw,h1,h2,es,Q5 R ha hm is,h3,h4,h5,fun l L H' nl _ ta fr fi pm hh' g=>?_⟩
     have R1:=R.grow ha hm hh' ic hc g
     obtain ⟨I',s,R',f⟩:=R1.full
     obtain ⟨us,eu,pu⟩:=ta
     exact kk _ _ I' α H' M s (List.prefix_refl _) R' (.lst (f _ _ eu (R.out nl)) (Q2 (fun v a z=>Zqo (fun b xs e=>f _ _ e (R1.tupOut e)) z) pu)) (h L fr fi pm)
def Zo2:Sp3:=fun ds M K=>∃ (k:Nat) (ss:List Int) (m:Int),ds=[.cell k,.lst (ss.map .int),.int m]/\M[k]?=some .hand/\(0<=m/\m<=200)/\∀ ts:List Int,(∀ t∈ts,t∈ss)->(ts.length:Int)<=m->K (.lst (ts.map .int)) M
theorem Zpn {vs:List V} {H:Hp} {Q:VK} {E:XK} (h:spOf C Zo2 vs H Q E):Zi1 vs H Q E:=by
 obtain ⟨Z,I,α,M,ds,K,R,r,⟨k,ss,m,rfl,hm,⟨h1,h2⟩,h⟩,kk⟩:=h
 cases r with
 | cons r1 r2 =>
  cases r2 with
  | cons r2 r3 =>
   cases r3 with
   | cons r3 r4 =>
    cases r4
    cases r3
    cases r1 with
    | @cell p _ ha =>
     obtain ⟨c,cs,hh,ic,hc⟩:=R.hand ha hm
     obtain ⟨sa,rfl,es,is⟩:=Zbc R r2
     exact ⟨p,c,sa,ss,m,rfl,hh,es,Q5 R ha hm is,h1,h2,fun l ts H' nl _ el hts hl hh' g=>Rm R ha hm hh' ic hc g nl el kk (h ts hts hl)⟩
end
section
variable {C:Cf} {Z:Anc} {ta tb tc:TE} {ua ub uc:TE3} {t:TA} {u:TA3}
def uRev (ua:TE3) (us:TO3):TE3:=fun ρ M K=>ua ρ M fun d M1=>us ρ M1 fun k M2=>k=some (-1)/\∃ xs,Wq M2 d=some xs/\K (.lst xs.reverse) M2
theorem Zqf {ts:TO} {us:TO3} (ha:SimE C Z ta ua) (hs:SimO C Z ts us):SimE C Z (tRev C.k ta ts) (uRev ua us):=fun I α σ H ρ M K Q R E h k =>
 ha I α σ H ρ M _ _ R E h fun v d I1 α1 H1 M1 s1 p1 R1 r1 h1 =>
  hs I1 α1 σ H1 ρ M1 _ _ R1 (E.mono s1 p1) h1 fun o I2 α2 H2 M2 s2 p2 R2 h2=>by
   obtain ⟨ho,xs,e,h2⟩:=h2
   obtain ⟨a,vs,rfl,ea,ra⟩:=Vz R2 (r1.mono s2 p2) e
   refine ⟨ho,a,vs,rfl,ea,fun p hp=>?_⟩
   obtain ⟨R3,s3,e3⟩:=R2.new (o:=.lst vs.reverse) hp
   exact k _ _ _ α2 _ M2 (s1.trans (s2.trans s3)) (p1.trans p2) R3 (.lst e3 (ra.rev.mono s3 (List.prefix_refl _))) h2
def valD {κ:Type} [DecidableEq κ] (kvs:List (κ×D)) (k:κ):Option D:=(kvs.find? fun kv=>decide (kv.1=k)).map (·.2)
def putD {κ:Type} [DecidableEq κ] (kvs:List (κ×D)) (k:κ) (v:D):List (κ×D) :=
 if (kvs.any fun kv=>decide (kv.1=k))=true then kvs.map (fun kv=>if kv.1=k then (kv.1,v) else kv) else kvs++[(k,v)]
def Zfw:D->Option Key
 | .int i=>some (.inl i)
 | .str s=>some (.inr s)
 | _=>none
def Ny:List D->Option (List Key)
 | []=>some []
 | d::r=>match Zfw d,Ny r with | some k,some ks=>some (k::ks) | _,_=>none
def tkOf:D->Option (List Key)
 | .tup ds=>Ny ds
 | _=>none
section
variable {I:Hp} {α:List Addr} {H:Hp} {M:Mem}
theorem Ra {v:V} {d:D} {k:Key} (r:Rep C I α v d) (h:Zfw d=some k):v=kV k:=by
 cases r with
 | int i=>cases h; rfl
 | str i=>cases h; rfl
 | _=>cases h
theorem Tv:∀ {vs:List V} {ds:List D} {ks:List Key},Reps C I α vs ds->Ny ds=some ks->vs=ks.map kV
 | _,_,_,.nil,h=>by cases h; rfl
 | _,_,ks,.cons (d:=d) (ds:=ds) a b,h=>by
  unfold Ny at h
  cases h1:Zfw d with
  | none=>simp only [h1] at h; cases h
  | some k =>
   cases h2:Ny ds with
   | none=>simp only [h1,h2] at h; cases h
   | some r =>
    simp only [h1,h2] at h
    cases h
    rw [Ra a h1,Tv b h2]
    rfl
theorem RepK.len:∀ {vs:List (Key×V)} {ds:List (Key×D)},RepK C I α vs ds->vs.length=ds.length
 | _,_,.nil=>rfl
 | _,_,.cons _ b=>by rw [List.length_cons,List.length_cons,RepK.len b]
theorem RepT.len:∀ {vs:List (List Key×V)} {ds:List (List Key×D)},RepT C I α vs ds->vs.length=ds.length
 | _,_,.nil=>rfl
 | _,_,.cons _ b=>by rw [List.length_cons,List.length_cons,RepT.len b]
theorem P9 {κ:Type} [DecidableEq κ] {k k':κ} {d:D} {r:List (κ×D)}:valD ((k',d)::r) k=if k'=k then some d else valD r k:=by
 unfold valD
 rw [List.find?_cons]
 by_cases h:k'=k
 ·simp [h]
 ·simp [h]
theorem P8 {κ:Type} [DecidableEq κ] {k k':κ} {d:V} {r:List (κ×V)}:valV ((k',d)::r) k=if k'=k then some d else valV r k:=by
 unfold valV
 rw [List.find?_cons]
 by_cases h:k'=k
 ·simp [h]
 ·simp [h]
theorem RepK.val {k:Key}:∀ {vs:List (Key×V)} {ds:List (Key×D)},RepK C I α vs ds->(valD ds k=none/\valV vs k=none)\/∃ d v,valD ds k=some d/\valV vs k=some v/\Rep C I α v d
 | _,_,.nil=>.inl ⟨rfl,rfl⟩
 | _,_,.cons (k:=k') (v:=v) (d:=d) a b=>by
  rw [P9,P8]
  by_cases h:k'=k
  ·rw [if_pos h,if_pos h]; exact .inr ⟨d,v,rfl,rfl,a⟩
  ·rw [if_neg h,if_neg h]; exact RepK.val b
theorem RepT.val {k:List Key}:∀ {vs:List (List Key×V)} {ds:List (List Key×D)},RepT C I α vs ds->(valD ds k=none/\valV vs k=none)\/∃ d v,valD ds k=some d/\valV vs k=some v/\Rep C I α v d
 | _,_,.nil=>.inl ⟨rfl,rfl⟩
 | _,_,.cons (k:=k') (v:=v) (d:=d) a b=>by
  rw [P9,P8]
  by_cases h:k'=k
  ·rw [if_pos h,if_pos h]; exact .inr ⟨d,v,rfl,rfl,a⟩
  ·rw [if_neg h,if_neg h]; exact RepT.val b
theorem RepK.any {k:Key}:∀ {vs:List (Key×V)} {ds:List (Key×D)},RepK C I α vs ds->(vs.any fun kv=>decide (kv.1=k))=(ds.any fun kv=>decide (kv.1=k))
 | _,_,.nil=>rfl
 | _,_,.cons a b=>by rw [List.any_cons,List.any_cons,RepK.any b]
theorem RepT.any {k:List Key}:∀ {vs:List (List Key×V)} {ds:List (List Key×D)},RepT C I α vs ds->(vs.any fun kv=>decide (kv.1=k))=(ds.any fun kv=>decide (kv.1=k))
 | _,_,.nil=>rfl
 | _,_,.cons a b=>by rw [List.any_cons,List.any_cons,RepT.any b]
theorem RepK.app:∀ {vs ws:List (Key×V)} {ds es:List (Key×D)},RepK C I α vs ds->RepK C I α ws es->RepK C I α (vs++ws) (ds++es)
 | _,_,_,_,.nil,s=>s
 | _,_,_,_,.cons r t,s=>.cons r (RepK.app t s)
theorem RepT.app:∀ {vs ws:List (List Key×V)} {ds es:List (List Key×D)},RepT C I α vs ds->RepT C I α ws es->RepT C I α (vs++ws) (ds++es)
 | _,_,_,_,.nil,s=>s
 | _,_,_,_,.cons r t,s=>.cons r (RepT.app t s)
theorem RepK.mapPut {k:Key} {v:V} {d:D} (r:Rep C I α v d):∀ {vs:List ((Key)×V)} {ds:List ((Key)×D)},RepK C I α vs ds->RepK C I α (vs.map fun kv=>if kv.1=k then (kv.1,v) else kv) (ds.map fun kv=>if kv.1=k then (kv.1,d) else kv)
 | _,_,.nil=>.nil
 | _,_,.cons (k:=k') a b=>by
  rw [List.map_cons,List.map_cons]
  by_cases e:k'=k
  ·simp only [e,if_true]; exact .cons r (RepK.mapPut r b)
  ·simp only [e,if_false]; exact .cons a (RepK.mapPut r b)
theorem RepK.put {k:Key} {v:V} {d:D} {vs:List ((Key)×V)} {ds:List ((Key)×D)} (h:RepK C I α vs ds) (r:Rep C I α v d):RepK C I α (putK vs k v) (putD ds k d):=by
 unfold putK putD
 rw [h.any]
 split
 ·exact RepK.mapPut r h
 ·exact h.app (.cons r .nil)
theorem RepT.mapPut {k:List Key} {v:V} {d:D} (r:Rep C I α v d):∀ {vs:List ((List Key)×V)} {ds:List ((List Key)×D)},RepT C I α vs ds->RepT C I α (vs.map fun kv=>if kv.1=k then (kv.1,v) else kv) (ds.map fun kv=>if kv.1=k then (kv.1,d) else kv)
 | _,_,.nil=>.nil
 | _,_,.cons (k:=k') a b=>by
  rw [List.map_cons,List.map_cons]
  by_cases e:k'=k
  ·simp only [e,if_true]; exact .cons r (RepT.mapPut r b)
  ·simp only [e,if_false]; exact .cons a (RepT.mapPut r b)
theorem RepT.put {k:List Key} {v:V} {d:D} {vs:List ((List Key)×V)} {ds:List ((List Key)×D)} (h:RepT C I α vs ds) (r:Rep C I α v d):RepT C I α (putK vs k v) (putD ds k d):=by
 unfold putK putD
 rw [h.any]
 split
 ·exact RepT.mapPut r h
 ·exact h.app (.cons r .nil)
def T6 (M:Mem):D->Option (List (Key×D))
 | .dct kvs=>some kvs
 | .cell k=>match M[k]? with | some (.dct kvs)=>some kvs | some (.drK kvs)=>some kvs | _=>none
 | _=>none
def Zlv (M:Mem):D->Option (List (List Key×D))
 | .dcT kvs=>some kvs
 | .cell k=>match M[k]? with | some (.dcT kvs)=>some kvs | some (.drT kvs)=>some kvs | _=>none
 | _=>none
theorem Zjq {v:V} {d:D} {kvs:List (Key×D)} (R:Rel C Z I α H M) (r:Rep C I α v d) (h:T6 M d=some kvs):∃ a vs,v=.ref a/\Rd H a (.dK vs)/\RepK C I α vs kvs:=by
 cases r with
 | dct e r=>cases h; exact ⟨_,_,rfl,.inl (R.sub _ _ e),r⟩
 | @cell a k e =>
  unfold T6 at h
  cases hm:M[k]? with
  | none=>simp only [hm] at h; cases h
  | some m =>
   cases m with
   | dct es=>simp only [hm] at h; cases h; obtain ⟨vs,e1,r⟩:=(R.cel k a _ e hm).1; exact ⟨_,_,rfl,.inl e1,r⟩
   | drK es=>simp only [hm] at h; cases h; obtain ⟨vs,e1,r⟩:=(R.cel k a _ e hm).1; exact ⟨_,_,rfl,e1,r⟩
   | _=>simp only [hm] at h; cases h
 | _=>cases h
theorem Zo0 {v:V} {d:D} {kvs:List (List Key×D)} (R:Rel C Z I α H M) (r:Rep C I α v d) (h:Zlv M d=some kvs):∃ a vs,v=.ref a/\Rd H a (.dT vs)/\RepT C I α vs kvs:=by
 cases r with
 | dcT e r=>cases h; exact ⟨_,_,rfl,.inl (R.sub _ _ e),r⟩
 | @cell a k e =>
  unfold Zlv at h
  cases hm:M[k]? with
  | none=>simp only [hm] at h; cases h
  | some m =>
   cases m with
   | dcT es=>simp only [hm] at h; cases h; obtain ⟨vs,e1,r⟩:=(R.cel k a _ e hm).1; exact ⟨_,_,rfl,.inl e1,r⟩
   | drT es=>simp only [hm] at h; cases h; obtain ⟨vs,e1,r⟩:=(R.cel k a _ e hm).1; exact ⟨_,_,rfl,e1,r⟩
   | _=>simp only [hm] at h; cases h
 | _=>cases h
def dGet (M:Mem) (d e:D) (o:Option D):Prop:=(∃ kvs k,T6 M d=some kvs/\Zfw e=some k/\o=valD kvs k)\/∃ kvs k,Zlv M d=some kvs/\tkOf e=some k/\o=valD kvs k
theorem Zbl {v w:V} {d e:D} {o:Option D} (R:Rel C Z I α H M) (r1:Rep C I α v d) (r2:Rep C I α w e) (h:dGet M d e o):∃ a o',v=.ref a/\IsD H a/\DGet H a w o'/\((o=none/\o'=none)\/∃ x y,o=some x/\o'=some y/\Rep C I α y x):=by
 rcases h with ⟨kvs,k,e1,e2,rfl⟩ | ⟨kvs,k,e1,e2,rfl⟩
 ·obtain ⟨a,vs,rfl,ea,ra⟩:=Zjq R r1 e1
  refine ⟨a,valV vs k,rfl,.inl ⟨vs,ea⟩,by rw [Ra r2 e2]; exact .inl ⟨vs,k,ea,rfl,rfl⟩,?_⟩
  rcases ra.val (k:=k) with ⟨h1,h2⟩ | ⟨x,y,h1,h2,h3⟩
  ·exact .inl ⟨h1,h2⟩
  ·exact .inr ⟨x,y,h1,h2,h3⟩
 ·obtain ⟨a,vs,rfl,ea,ra⟩:=Zo0 R r1 e1
  cases r2 with
  | @tup b bs ds eb rb =>
   have hb:H b=some (.tup (k.map kV)):=by rw [<- Tv rb e2]; exact R.sub _ _ eb
   refine ⟨a,valV vs k,rfl,.inr ⟨vs,ea⟩,.inr ⟨vs,k,b,ea,rfl,hb,rfl⟩,?_⟩
   rcases ra.val (k:=k) with ⟨h1,h2⟩ | ⟨x,y,h1,h2,h3⟩
   ·exact .inl ⟨h1,h2⟩
   ·exact .inr ⟨x,y,h1,h2,h3⟩
  | _=>cases e2
end
def Zp5 (ua ub:TE3):TE3:=fun ρ M K=>ua ρ M fun d M1=>ub ρ M1 fun e M2=>∃ v,dGet M2 d e (some v)/\K v M2
theorem Zja (ha:SimE C Z ta ua) (hb:SimE C Z tb ub):SimE C Z (Znb ta tb) (Zp5 ua ub):=fun I α σ H ρ M K Q R E h k =>
 ha I α σ H ρ M _ _ R E h fun v d I1 α1 H1 M1 s1 p1 R1 r1 h1 =>
  hb I1 α1 σ H1 ρ M1 _ _ R1 (E.mono s1 p1) h1 fun w e I2 α2 H2 M2 s2 p2 R2 r2 h2=>by
   obtain ⟨x,g,h2⟩:=h2
   obtain ⟨a,o',rfl,_,g2,z⟩:=Zbl R2 (r1.mono s2 p2) r2 g
   rcases z with ⟨z,_⟩ | ⟨x',y,z1,z2,z3⟩
   ·cases z
   ·cases z1
    subst z2
    exact ⟨a,y,rfl,g2,k _ _ I2 α2 H2 M2 (s1.trans s2) (p1.trans p2) R2 z3 h2⟩
def uDIn (ub ua:TE3):TE3:=fun ρ M K=>ub ρ M fun e M1=>ua ρ M1 fun d M2=>∃ o,dGet M2 d e o/\K (.bl o.isSome) M2
def Zj3 (ub ua:TE3):TE3:=fun ρ M K=>ub ρ M fun e M1=>ua ρ M1 fun d M2=>∃ o,dGet M2 d e o/\K (.bl (!o.isSome)) M2
theorem Zql (hb:SimE C Z tb ub) (ha:SimE C Z ta ua):SimE C Z (tDIn tb ta) (uDIn ub ua):=fun I α σ H ρ M K Q R E h k =>
 hb I α σ H ρ M _ _ R E h fun w e I1 α1 H1 M1 s1 p1 R1 r1 h1 =>
  ha I1 α1 σ H1 ρ M1 _ _ R1 (E.mono s1 p1) h1 fun v d I2 α2 H2 M2 s2 p2 R2 r2 h2=>by
   obtain ⟨o,g,h2⟩:=h2
   obtain ⟨a,o',rfl,_,g2,z⟩:=Zbl R2 r2 (r1.mono s2 p2) g
   have eo:o'.isSome=o.isSome:=by
    rcases z with ⟨rfl,rfl⟩ | ⟨x',y,rfl,rfl,_⟩ <;> rfl
   exact ⟨a,o',rfl,g2,by rw [eo]; exact k _ _ I2 α2 H2 M2 (s1.trans s2) (p1.trans p2) R2 (.bl _) h2⟩
theorem Zb7 (hb:SimE C Z tb ub) (ha:SimE C Z ta ua):SimE C Z (Zee tb ta) (Zj3 ub ua):=fun I α σ H ρ M K Q R E h k =>
 hb I α σ H ρ M _ _ R E h fun w e I1 α1 H1 M1 s1 p1 R1 r1 h1 =>
  ha I1 α1 σ H1 ρ M1 _ _ R1 (E.mono s1 p1) h1 fun v d I2 α2 H2 M2 s2 p2 R2 r2 h2=>by
   obtain ⟨o,g,h2⟩:=h2
   obtain ⟨a,o',rfl,_,g2,z⟩:=Zbl R2 r2 (r1.mono s2 p2) g
   have eo:o'.isSome=o.isSome:=by
    rcases z with ⟨rfl,rfl⟩ | ⟨x',y,rfl,rfl,_⟩ <;> rfl
   exact ⟨a,o',rfl,g2,by rw [eo]; exact k _ _ I2 α2 H2 M2 (s1.trans s2) (p1.trans p2) R2 (.bl _) h2⟩
def Zmu:TE3:=fun _ M K=>K (.cell M.length) (M++[.dct []])
theorem Ze0:SimE C Z Zi0 Zmu:=fun I α σ H ρ M K Q R E h k p hp=>by
 obtain ⟨R2,p2,e2⟩:=R.cell (o:=.dK []) (m:=.dct []) hp fun H' e=>⟨[],e,.nil⟩
 exact k _ _ I _ _ _ (.refl _) p2 R2 (.cell e2) h
def dPut (M:Mem) (d e v:D) (M':Mem):Prop:=(∃ j kvs k,d=.cell j/\M[j]?=some (.dct kvs)/\Zfw e=some k/\kvs.length < sizeLine/\M'=M.set j (.dct (putD kvs k v))) \/
 ∃ j kvs k,d=.cell j/\M[j]?=some (.dcT kvs)/\tkOf e=some k/\kvs.length < sizeLine/\M'=M.set j (.dcT (putD kvs k v))
def Zp4 (ua ub uc:TE3):TS3:=fun E ρ M=>uc ρ M fun v M1=>ua ρ M1 fun d M2=>ub ρ M2 fun e M3=>∃ M4,dPut M3 d e v M4/\E.nx ρ M4
theorem Zi9 (ha:SimE C Z ta ua) (hb:SimE C Z tb ub) (hc:SimE C Z tc uc):SimS C Z (Znr ta tb tc) (Zp4 ua ub uc):=fun I α σ H ρ M E D' R RE h F =>
 hc I α σ H ρ M _ _ R RE h fun v d0 I1 α1 H1 M1 s1 p1 R1 r1 h1=>ha I1 α1 σ H1 ρ M1 _ _ R1 (RE.mono s1 p1) h1 fun x d I2 α2 H2 M2 s2 p2 R2 r2 h2 =>
  hb I2 α2 σ H2 ρ M2 _ _ R2 (RE.mono (s1.trans s2) (p1.trans p2)) h2 fun y e I3 α3 H3 M3 s3 p3 R3 r3 h3=>by
   obtain ⟨M4,g,h3⟩:=h3
   have rv:=r1.mono (s2.trans s3) (p2.trans p3)
   have RE3:=RE.mono (s1.trans (s2.trans s3)) (p1.trans (p2.trans p3))
   rcases g with ⟨j,kvs,kk,rfl,e1,e2,hl,rfl⟩ | ⟨j,kvs,kk,rfl,e1,e2,hl,rfl⟩
   ·cases (r2.mono s3 p3) with
    | @cell a _ ec =>
     obtain ⟨vs,ea,ra⟩:=(R3.cel j a _ ec e1).1
     refine ⟨a,_,rfl,by rw [Ra r3 e2]; exact DPut.k ea (by rw [ra.len]; exact hl),?_⟩
     exact F.nx I3 α3 σ _ ρ _ (s1.trans (s2.trans s3)) (p1.trans (p2.trans p3)) (R3.put (m:=.dct (putD kvs kk d0)) ec fun H' e=>⟨_,e,ra.put rv⟩) RE3 h3
   ·cases (r2.mono s3 p3) with
    | @cell a _ ec =>
     obtain ⟨vs,ea,ra⟩:=(R3.cel j a _ ec e1).1
     cases r3 with
     | @tup b bs ds eb rb =>
      have hb:H3 b=some (.tup (kk.map kV)):=by rw [<- Tv rb e2]; exact R3.sub _ _ eb
      refine ⟨a,_,rfl,DPut.t ea hb (by rw [ra.len]; exact hl),?_⟩
      exact F.nx I3 α3 σ _ ρ _ (s1.trans (s2.trans s3)) (p1.trans (p2.trans p3)) (R3.put (m:=.dcT (putD kvs kk d0)) ec fun H' e=>⟨_,e,ra.put rv⟩) RE3 h3
     | _=>cases e2
theorem Met.imp {P:Program} {w:World} {K:W.Frag} {mg:Str->Option Value} {base:Heap} {C:Addr} {m:Str} {k:Nat} {ps:List Str} {sp sp':Sp} (c:Met P w K mg base C m k ps sp) (h:∀ vs H Q E,sp' vs H Q E->sp vs H Q E):Met P w K mg base C m k ps sp' :=
 let ⟨f,fd,a,b,e,d⟩:=c
 ⟨f,fd,a,b,e.imp h,d⟩
theorem Rel.made {I:Hp} {α:List Addr} {H H':Hp} {M:Mem} {k0:Nat} {Pt x:Addr} {pos:Pos} {q:Str} (R:Rel C Z I α H M) (hk:M[k0]?=some (.tab Pt pos q)) (nx:H x=none) (tb:Va Pt pos q H') (g:∀ b o,b≠x->b≠Pt->H b=some o->H' b=some o) :
  ∃ I',Same I I'/\Rel C Z I' α H' M/\∀ b o,H' b=some o->b∉α->I' b=some o:=by
 obtain ⟨P',eP,⟨rfl,ps0,e0,_⟩,iP⟩:=R.get hk
 have hα:∀ b,b∈α->b≠x:=fun b hb=>by
  obtain ⟨k,hk,rfl⟩:=List.getElem_of_mem hb
  exact R.cellNe (List.getElem?_eq_getElem hk) nx
 have hI:∀ b o,I b=some o->b∉α:=fun b o e hb=>by
  obtain ⟨k,hk,rfl⟩:=List.getElem_of_mem hb
  have hk':k < M.length:=by rw [<- R.len]; exact hk
  rw [(R.cel k _ _ (List.getElem?_eq_getElem hk) (List.getElem?_eq_getElem hk')).2] at e
  cases e
 have hS:∀ b o,I b=some o->H' b=some o:=fun b o e=>g b o (fun z=>by rw [z,R.sub.free nx] at e; cases e) (fun z=>by rw [z,iP] at e; cases e) (R.sub b o e)
 have s:Same I (fun b=>if b∈α then none else H' b):=fun b o e=>by
  show (if b∈α then none else H' b)=some o
  rw [if_neg (hI b o e)]
  exact hS b o e
 have hc:∀ (k:Nat) (a:Addr) (m:MO),k≠k0->α[k]?=some a->M[k]?=some m->H' a=H a:=fun k a m ne h1 h2=>by
  obtain ⟨o,eo⟩:=(R.cel k a m h1 h2).1.some
  have n2:a≠P':=fun z=>by
   obtain ⟨hj,ej⟩:=List.getElem?_eq_some_iff.mp h1
   obtain ⟨hk,ek⟩:=List.getElem?_eq_some_iff.mp eP
   rw [<- ej,<- ek] at z
   exact ne ((List.getElem_inj R.nd).mp z)
  exact (g a o (hα a (List.mem_of_getElem? h1)) n2 eo).trans eo.symm
 refine ⟨_,s,⟨R.ai.trans s,R.aa,fun b o e=>?_,R.len,R.nd,fun k a m h1 h2=>?_⟩,fun b o e hb=>?_⟩
 ·have e':(if b∈α then none else H' b)=some o:=e
  split at e'
  ·cases e'
  ·exact e'
 ·refine ⟨?_,by show (if a∈α then none else H' a)=none; rw [if_pos (List.mem_of_getElem? h1)]⟩
  by_cases ne:k=k0
  ·subst ne
   rw [eP] at h1
   cases h1
   rw [hk] at h2
   cases h2
   obtain ⟨ps,e1,t1,z⟩:=tb
   refine ⟨rfl,ps,e1,t1,?_⟩
   rcases z with z | ⟨c,z1,z2⟩
   ·exact .inl z
   ·refine .inr ⟨c,z1,?_⟩
    show (if c∈α then none else H' c)=_
    rw [if_neg,z2]
    intro hcα
    obtain ⟨j,hj,ec⟩:=List.getElem_of_mem hcα
    have hj':j < M.length:=by rw [<- R.len]; exact hj
    have h1:=List.getElem?_eq_getElem hj
    have h2:=List.getElem?_eq_getElem hj'
    rw [ec] at h1
    by_cases nj:j=k
    ·subst nj
     rw [eP] at h1
     cases h1
     rw [e1] at z2
     cases z2
    ·have hh:=hc j c _ nj h1 h2
     have mo:=(R.cel j c _ h1 h2).1
     rw [z2] at hh
     cases hm:M[j] with
     | lst ds=>rw [hm] at mo; obtain ⟨vs,e,_⟩:=mo; rw [e] at hh; cases hh
     | dct ds=>rw [hm] at mo; obtain ⟨vs,e,_⟩:=mo; rw [e] at hh; cases hh
     | dcT ds=>rw [hm] at mo; obtain ⟨vs,e,_⟩:=mo; rw [e] at hh; cases hh
     | drK ds=>rw [hm] at mo; obtain ⟨vs,e,_⟩:=mo; rcases e with e | ⟨o,e⟩ <;> (rw [e] at hh; cases hh)
     | drT ds=>rw [hm] at mo; obtain ⟨vs,e,_⟩:=mo; rcases e with e | ⟨o,e⟩ <;> (rw [e] at hh; cases hh)
     | dfT o vs ds=>rw [hm] at mo; rw [mo.1] at hh; cases hh
     | dfK o vs ds=>rw [hm] at mo; rw [mo.1] at hh; cases hh
     | ins Cl fs=>rw [hm] at mo; obtain ⟨dx,vs,e,_⟩:=mo; rw [e] at hh; cases hh
     | hand=>rw [hm] at mo; obtain ⟨d,k,c,cs,e,_⟩:=mo; rw [e] at hh; cases hh
     | tab P pos q=>rw [hm] at mo; obtain ⟨_,ps,e,_⟩:=mo; rw [e] at hh; cases hh
  ·exact (R.cel k a m h1 h2).1.mono s (List.prefix_refl _) (hc k a m ne h1 h2)
 ·show (if b∈α then none else H' b)=some o
  rw [if_neg hb]
  exact e
def Zap (C Pt:Addr) (pos:Pos) (q:Str):Sp:=fun vs H Q _=>∃ x a dx L,vs=[.ref x,.ref a]/\H x=some (.ins C dx [])/\U2 H a L/\Free L/\Fits L/\Va Pt pos q H /\
 ∀ (H':Hp) (S:List Pr),S.Perm L->Px S->(∃ dx tp d1 d2 d3 d4,H' x=some (.ins C dx [("pairs",.ref tp),("words_by_sign",.ref d1),("signs_by_word",.ref d2),("begun",.ref d3),("word_sizes",.ref d4)])/\CodeIn H' tp d1 d2 d3 d4 S/\H d1=none/\H d2=none/\H d3=none)->Va Pt pos q H' ->
  (∀ b o,b≠x->b≠Pt->H b=some o->H' b=some o)->Q .non H'
def Zj1 (Pt:Addr) (pos:Pos) (q:Str) (u:TA3):TE3:=fun ρ M K=>u ρ M fun ds M1=>∃ (k0:Nat) (d:D) (L:List Pr),M1[k0]?=some (.tab Pt pos q)/\ds=[d]/\lsOf M1 d=some (L.map pD)/\(Free L/\Fits L)/\∀ S:List Pr,S.Perm L->Px S->K (.code S) M1
theorem Zhl {Pt:Addr} {pos:Pos} {q:Str} (hr:SimA C Z t u):SimE C Z (Zc9 C.c (Zap C.c Pt pos q) [] E0 t) (Zj1 Pt pos q u):=fun I α σ H ρ M K Q R E h k =>
 hr I α σ H ρ M _ _ R E h fun vs ds I1 α1 H1 M1 s1 p1 R1 r1 h1=>by
  obtain ⟨k0,d,L,hk,rfl,e1,⟨fr,fi⟩,h1⟩:=h1
  intro x dx nx ndx ne
  cases r1 with
  | cons r1 r2 =>
   cases r2
   obtain ⟨a,vs,rfl,ea,ra⟩:=Q6 R1 r1 e1
   obtain ⟨P',eP,⟨eqP,ps,ep,tp,cp⟩,iP⟩:=R1.get hk
   subst eqP
   have sH:Same H1 (upd (upd H1 dx (.own x)) x (.ins C.c dx [])):=(Zb ndx).trans (Zb (by rw [Zm (Ne.symm ne)]; exact nx))
   have ta1:U2 H1 a L:=⟨vs,ea,Za3 (F:=P0 H1) (f:=pD) (fun v a z=>Zqs R1.sub z) ra⟩
   have tb1:Va P' pos q H1:=⟨ps,ep,tp,by
    rcases cp with z | ⟨c,z1,z2⟩
    ·exact .inl z
    ·exact .inr ⟨c,z1,R1.sub _ _ z2⟩⟩
   refine ⟨x,a,dx,L,rfl,Zg,ta1.same sH,fr,fi,tb1.same sH,fun H' S pm ri ca tb g=>⟨rfl,?_⟩⟩
   obtain ⟨I',s',R',f⟩:=R1.made hk nx tb fun b o n1 n2 e=>g b o n1 n2 (sH b o e)
   have xα:x∉α1:=R1.out nx
   obtain ⟨dx',tp',d1,d2,d3,d4,ex,⟨⟨vs',a1,a2⟩,⟨k1,b1,b2⟩,⟨k2,c1,c2⟩,⟨k3,f1,f2⟩,⟨k4,g1,g2⟩⟩,n1,n2,n3⟩:=ca
   have tupI:∀ b xs,H' b=some (.tup xs)->I' b=some (.tup xs):=fun b xs e=>f b _ e (R'.tupOut e)
   have no:∀ b o,H' b=some o->(upd (upd H1 dx (.own x)) x (.ins C.c dx [])) b=none->I' b=some o:=fun b o e n=>f b o e (R1.out (sH.free n))
   refine k _ _ I' α1 H' M1 (s1.trans s') p1 R' (.code ⟨dx',tp',d1,d2,d3,d4,f _ _ ex xα,⟨vs',tupI _ _ a1,Paired.mapP a2 fun v p z=>?_⟩,⟨k1,no _ _ b1 n1,fun p hp=>?_,b2.2⟩,⟨k2,no _ _ c1 n2,c2⟩,⟨k3,no _ _ f1 n3,f2⟩,⟨k4,tupI _ _ g1,g2⟩⟩) (h1 S pm ri)
   ·obtain ⟨t,tw,e1,e2,e3⟩:=z
    exact ⟨t,tw,e1,tupI _ _ e2,tupI _ _ e3⟩
   ·obtain ⟨t,u1,u2⟩:=b2.1 p hp
    exact ⟨t,u1,tupI _ _ u2⟩
end
theorem Xe {M:Mem} {m:MO}:(M++[m])[M.length]?=some m:=by simp
theorem Qy {M:Mem} {m m':MO}:(M++[m]).set M.length m'=M++[m']:=by simp
section
variable {C:Cf} {Z:Anc}
theorem Zh4 {I:Hp} {α:List Addr} {H H':Hp} {M:Mem} {l:Addr} {bs:List Int} {K:K3} {Q:VK} (R:Rel C Z I α H M) (nl:H l=none) (s:Same H H') (el:H' l=some (.lst (bs.map V.int))) (kk:Fin C Z I α K Q) (h:K (.cell M.length) (M++[.lst (bs.map .int)])):Q (.ref l) H':=by
 obtain ⟨R2,p2,e2⟩:=(R.same s).cellAt (l:=l) (m:=.lst (bs.map .int)) (R.sub.free nl) (R.out nl) ⟨_,el,.ints bs⟩
 exact kk _ _ I _ H' _ (.refl _) p2 R2 (.cell e2) h
theorem Zl0 {I:Hp} {α:List Addr} {H:Hp} {M:Mem} {v:V} {S:List Pr} (R:Rel C Z I α H M) (r:Rep C I α v (.code S)):∃ x,v=.ref x/\Rw C.c H x S:=by
 cases r with
 | code h=>exact ⟨_,rfl,h.same R.sub⟩
theorem Zjk {I:Hp} {α:List Addr} {H:Hp} {M:Mem} {v:V} {d:D} {ns:List Int} (R:Rel C Z I α H M) (r:Rep C I α v d) (h:lsOf M d=some (ns.map .int)):∃ a,v=.ref a/\H a=some (.lst (ns.map V.int)):=by
 obtain ⟨a,vs,rfl,ea,ra⟩:=Q6 R r h
 rw [ra.of_ints ns] at ea
 exact ⟨a,rfl,ea⟩
end
def Zi4 (K:W.Frag) (Pt:Addr) (pos:Pos) (q:Str):Sp:=fun vs H Q _=>∃ (a:Addr) (ns:List Int),vs=[.ref a]/\SqL K H a (ns.map V.int)/\ns.length<=63/\Va Pt pos q H/\∀ H',Q (.bl true) H'
def Zo4 (Pt:Addr) (pos:Pos) (q:Str):Sp3:=fun ds M K=>∃ ns:List Int,ds=[.frz (ns.map .int)]/\M=[.tab Pt pos q]/\ns.length<=63/\∀ M',K (.bl true) M'
theorem Zla {C:Cf} {Pt:Addr} {pos:Pos} {q:Str} {vs:List V} {H:Hp} {Q:VK} {E:XK} (h:Zi4 C.k Pt pos q vs H Q E):spOf C (Zo4 Pt pos q) vs H Q E:=by
 obtain ⟨a,ns,rfl,hS,hl,⟨ps,eP,tp,cp⟩,k⟩:=h
 have sI:Same (fun b=>if b=Pt then none else H b) H:=fun b o e=>by
  have e':(if b=Pt then none else H b)=some o:=e
  split at e'
  ·cases e'
  ·exact e'
 refine ⟨⟨fun _=>none,[],fun _ _ _=>False,fun _ _ _=>False⟩,fun b=>if b=Pt then none else H b,[Pt],[.tab Pt pos q],[.frz (ns.map .int)],fun d _=>d=.bl true,⟨(fun _ _ h=>nomatch h),List.nil_prefix,sI,rfl,by simp,fun k' a' m h1 h2=>?_⟩,?_,⟨ns,rfl,rfl,hl,fun _=>rfl⟩,fun v d I' α' H' M' s p R r h=>?_⟩
 ·cases k' with
  | succ n=>simp at h1
  | zero =>
   simp at h1 h2
   subst h1
   subst h2
   refine ⟨⟨rfl,ps,eP,tp,?_⟩,if_pos rfl⟩
   rcases cp with z | ⟨c,z1,z2⟩
   ·exact .inl z
   ·exact .inr ⟨c,z1,by
     show (if c=Pt then none else H c)=_
     rw [if_neg (Wg z2 eP fun z=>by cases z)]
     exact z2⟩
 ·refine .one (.frz ?_ (.ints ns))
  rcases hS with (hS | ⟨o,hS⟩) | hS
  ·exact .inl (.inl (by
    show (if a=Pt then none else H a)=_
    rw [if_neg (Wg hS eP fun z=>by cases z)]
    exact hS))
  ·exact .inl (.inr ⟨o,by
    show (if a=Pt then none else H a)=_
    rw [if_neg (Wg hS eP fun z=>by cases z)]
    exact hS⟩)
  ·exact .inr hS
 ·subst h
  cases r
  exact k H'
theorem X4 {τ:Type} {f:τ->D} {as:List τ} {i:Nat} {x:D} (h:(as.map f)[i]?=some x):∃ hi:i < as.length,x=f as[i]:=by
 obtain ⟨hi,e⟩:=List.getElem?_eq_some_iff.mp h
 rw [List.length_map] at hi
 exact ⟨hi,by rw [<- e,List.getElem_map]⟩
theorem Ps {τ:Type} {f:τ->D} {as:List τ} {i:Int} {j:Nat} (h:i=j) (hj:j < as.length):L2.atI (as.map f) i=some (f as[j]):=by
 subst h
 exact Ty (by rw [List.getElem?_map,List.getElem?_eq_getElem hj]; rfl)
theorem Za7 {M:Mem} {xs:List D}:lsOf (M++[.lst xs]) (.cell M.length)=some xs:=by simp [lsOf]
theorem Sx {M:Mem} {d:D} {xs:List D} (h:lsOf M d=some xs):lsOf M d≠none:=by rw [h]; exact fun z=>nomatch z
theorem eqN {ns:List Int} {M:Mem} {K:Bool->Prop} (h:K (decide (ns=[]))):eqV (.lst (ns.map .int)) (.lst []) M K:=Rs Xd (b:=[]) rfl rfl h
end L3
namespace L3
theorem g_nx {i:Nat} {d:D} {ρ:Ev} {M:Mem} {K:Ev->Mem->Prop} (h:K (ρ.set i (some d)) M):uG i d ρ M K:=h
end L3
namespace L3
open PySem L2
def FinX (C:Cf) (Z:Anc):Prop:=∀ Ce d vs fs I' α' H' M',Rel C Z I' α' H' M'->I' d=some (.ext (xdP d vs))->RepF C I' α' vs fs->Z.kx Ce fs M'->Z.xe (.ref Ce) (some d) H'
abbrev Sp3X:=List D->Mem->K3->X3->Prop
def Vf (C:Cf) (sp:Sp3X):Sp:=fun vs H Q E=>∃ Z I α M ds K KX,Rel C Z I α H M/\Reps C I α vs ds/\sp ds M K KX/\Fin C Z I α K Q /\
 ∀ Ce d vs fs I' α' H' M',Same I I'->α<+:α'->Rel C Z I' α' H' M'->I' d=some (.ext (xdP d vs))->RepF C I' α' vs fs->KX Ce fs M'->E (.ref Ce) (some d) H'
section
variable {C:Cf} {Z:Anc} {tb:TE} {ub:TE3} {t:TA} {u:TA3}
theorem Rel.re {Z':Anc} {I I':Hp} {α α':List Addr} {H H':Hp} {M M':Mem} (R':Rel C Z' I' α' H' M') (R:Rel C Z I α H M) (s:Same I I') (p:α<+:α'):Rel C Z I' α' H' M':=⟨R.ai.trans s,R.aa.trans p,R'.sub,R'.len,R'.nd,R'.cel⟩
theorem Rel.here {I:Hp} {α:List Addr} {H:Hp} {M:Mem} (R:Rel C Z I α H M) (E:XK) (k:X3):Rel C ⟨I,α,E,k⟩ I α H M:=⟨.refl _,List.prefix_refl _,R.sub,R.len,R.nd,R.cel⟩
theorem Fin.re {Z':Anc} {I:Hp} {α:List Addr} {H:Hp} {M:Mem} {K:K3} {Q:VK} (k:Fin C Z I α K Q) (R:Rel C Z I α H M):Fin C Z' I α K Q:=fun v d I' α' H' M' s p R' r h=>k v d I' α' H' M' s p (R'.re R s p) r h
theorem FinS.re {Z':Anc} {I:Hp} {α:List Addr} {H:Hp} {M:Mem} {K:Ev->Mem->Prop} {Q:St->Hp->Prop} (k:FinS C Z I α K Q) (R:Rel C Z I α H M):FinS C Z' I α K Q:=fun I' α' σ' H' ρ' M' s p R' E h=>k I' α' σ' H' ρ' M' s p (R'.re R s p) E h
theorem FinD.re {Z':Anc} {I:Hp} {α:List Addr} {H:Hp} {M:Mem} {E:Ends3} {D':Ends} (k:FinD C Z I α E D') (R:Rel C Z I α H M):FinD C Z' I α E D':=⟨k.nx.re R,k.rt.re R,k.bk.re R,k.ct.re R⟩
def Zmw (sp:Sp3X) (kx:X3) (u:TA3):TE3:=fun ρ M K=>u ρ M fun ds M1=>sp ds M1 K kx
theorem Zki {sp:Sp3X} {E:XK} {kx:X3} (he:Z.xe=E) (hk:Z.kx=kx) (hx:FinX C Z) (ha:SimA C Z t u):SimE C Z (Zeh (Vf C sp) [] E t) (Zmw sp kx u):=fun I α σ H ρ M K Q R RE h k =>
 ha I α σ H ρ M _ _ R RE h fun vs ds I1 α1 H1 M1 s1 p1 R1 r1 h1=>by
  subst he hk
  rw [List.append_nil]
  exact ⟨Z,I1,α1,M1,ds,K,Z.kx,R1,r1,h1,k.mono s1 p1,fun Ce d vs fs I' α' H' M' s p R' e f g=>hx Ce d vs fs I' α' H' M' R' e f g⟩
theorem CalE.imp {P:Program} {w:World} {K:W.Frag} {mg:Str->Option Value} {base:Heap} {x:Str} {k:Nat} {ps:List Str} {sp sp':Sp} (c:CalE P w K mg base x k ps sp) (h:∀ vs H Q E,sp' vs H Q E->sp vs H Q E):CalE P w K mg base x k ps sp' :=
 let ⟨f,fd,a,b⟩:=c
 ⟨f,fd,a.imp h,b⟩
def Zj0 (Cx:Addr) (f:Str) (kx:X3) (u:TA3):TS3:=fun _ ρ M=>u ρ M fun ds M1=>∃ d,ds=[d]/\kx Cx [(f,d)] M1
theorem Qz {Cx:Addr} {f:Str} {E:XK} {kx:X3} (he:Z.xe=E) (hk:Z.kx=kx) (hx:FinX C Z) (ha:SimA C Z t u):SimS C Z (Ziy Cx (spX1 Cx f) E t) (Zj0 Cx f kx u):=fun I α σ H ρ M E3 D' R RE h F =>
 ha I α σ H ρ M _ _ R RE h fun vs ds I1 α1 H1 M1 s1 p1 R1 r1 h1=>by
  subst he hk
  obtain ⟨d0,rfl,h1⟩:=h1
  cases r1 with
  | cons r1 r2 =>
   cases r2
   rename_i y
   refine ⟨by simp,fun ea hea=>⟨ea,y,rfl,Zg,fun d hd hne=>⟨rfl,d,?_,?_⟩⟩⟩
   ·rw [Zm (Ne.symm hne),Zg]
   ·have hd1:H1 d=none:=by rw [Zm hne] at hd; exact hd
    have sH:Same H1 (upd (upd (upd (upd H1 ea (.ext (excN ea Cx none))) ea (.ext (excN ea Cx (some d)))) d (.ext (xdP d [(f,y)]))) ea (.ext (excP ea Cx (some d)))):=fun b o e=>by
     have n1:b≠ea:=Zq e hea
     have n2:b≠d:=Zq e hd1
     rw [Zm n1,Zm n2,Zm n1,Zm n1]
     exact e
    obtain ⟨I',s',R',fl⟩:=(R1.same sH).full
    refine hx Cx d [(f,y)] [(f,d0)] I' α1 _ M1 R' (fl d _ ?_ (R1.out hd1)) (.cons (r1.mono s' (List.prefix_refl _)) .nil) h1
    rw [Zm hne,Zg]
abbrev TH3:=Addr->List (Str×D)->TS3
def SimH (C:Cf) (Z:Anc) (th:TH) (uh:TH3):Prop:=∀ I α σ H ρ M (E:Ends3) (D':Ends) Ce d ea fs vs,Rel C Z I α H M->RepE C I α σ ρ->I ea=some (.ext (excP ea Ce (some d)))->I d=some (.ext (xdP d vs))->RepF C I α vs fs->uh Ce fs E ρ M->FinD C Z I α E D'->th Ce (some d) ea D' σ H
def Zps:TH3:=fun _ _ _ _ _=>False
theorem Znl:SimH C Z Zm3 Zps:=fun _ _ _ _ _ _ _ _ _ _ _ _ _ _ _ _ _ _ h _=>h.elim
variable {ts:TS} {us:TS3} {thr:TH} {ur:TH3}
def uhNo (K:W.Frag) (Dc:Addr) (us:TS3) (ur:TH3):TH3:=fun Ce fs E ρ M=>∃ b,W.mroIn K Ce (.ref Dc)=some b/\if b=true then us E ρ M else ur Ce fs E ρ M
theorem Zqk {K:W.Frag} {Dc:Addr} (hs:SimS C Z ts us) (hr:SimH C Z thr ur):SimH C Z (thNo K Dc ts thr) (uhNo K Dc us ur):=fun I α σ H ρ M E D' Ce d ea fs vs R RE e1 e2 rf h F=>by
 obtain ⟨b,eb,h⟩:=h
 refine ⟨b,eb,?_⟩
 cases b with
 | true =>
  rw [if_pos rfl] at h ⊢
  exact hs I α _ H _ M _ _ R RE h F
 | false =>
  rw [if_neg Bool.false_ne_true] at h ⊢
  exact hr I α σ H ρ M E D' Ce d ea fs vs R RE e1 e2 rf h F
def uTry (ub:X3->TS3) (uh:TH3):TS3:=fun E ρ M=>ub (fun Ce fs M'=>uh Ce fs E ρ M') E ρ M
theorem Rel.extOut {I:Hp} {α:List Addr} {H:Hp} {M:Mem} (R:Rel C Z I α H M) {l:Addr} {φ:Heap->Prop} (h:H l=some (.ext φ)):l∉α:=fun hl=>by
 obtain ⟨k,hk,rfl⟩:=List.getElem_of_mem hl
 have hk':k < M.length:=by rw [<- R.len]; exact hk
 have:=(R.cel k _ _ (List.getElem?_eq_getElem hk) (List.getElem?_eq_getElem hk')).1
 cases hm:M[k] with
 | lst ds=>rw [hm] at this; obtain ⟨vs,e,_⟩:=this; rw [h] at e; cases e
 | dct ds=>rw [hm] at this; obtain ⟨vs,e,_⟩:=this; rw [h] at e; cases e
 | dcT ds=>rw [hm] at this; obtain ⟨vs,e,_⟩:=this; rw [h] at e; cases e
 | drK ds=>rw [hm] at this; obtain ⟨vs,e,_⟩:=this; rcases e with e | ⟨o,e⟩ <;> (rw [h] at e; cases e)
 | drT ds=>rw [hm] at this; obtain ⟨vs,e,_⟩:=this; rcases e with e | ⟨o,e⟩ <;> (rw [h] at e; cases e)
 | dfT o vs ds=>rw [hm] at this; have e:=this.1; rw [h] at e; cases e
 | dfK o vs ds=>rw [hm] at this; have e:=this.1; rw [h] at e; cases e
 | ins Cl fs=>rw [hm] at this; obtain ⟨dx,vs,e,_⟩:=this; rw [h] at e; cases e
 | hand=>rw [hm] at this; obtain ⟨d,k,c,cs,e,_⟩:=this; rw [h] at e; cases e
 | tab P pos q=>rw [hm] at this; obtain ⟨_,ps,e,_⟩:=this; rw [h] at e; cases e
theorem Zqe {tb:XK->TS} {th:TH} {ub:X3->TS3} {uh:TH3} (hb:∀ (E:XK) (kx:X3) (Z:Anc),Z.xe=E->Z.kx=kx->FinX C Z->SimS C Z (tb E) (ub kx)) (hh:SimH C Z th uh):SimS C Z (tTry tb th) (uTry ub uh):=fun I α σ H ρ M E D' R RE h F=>by
 refine hb _ _ ⟨I,α,_,_⟩ rfl rfl ?_ I α σ H ρ M E D' (R.here _ _) RE h (F.re R)
 intro Ce d vs fs I' α' H' M' R' e f g
 refine ⟨Ce,rfl,fun ea hea=>?_⟩
 have R2:=R'.re R R'.ai R'.aa
 obtain ⟨I2,s2,R3,fl⟩:=R2.full
 exact hh I2 α' σ H' ρ M' E D' Ce d ea fs vs R3 (RE.mono (Same.trans R'.ai s2) R'.aa) (fl _ _ hea (R2.extOut hea)) (s2 _ _ e) (f.mono s2 (List.prefix_refl _)) g (F.mono (Same.trans R'.ai s2) R'.aa)
theorem Fun.okX3 {P:Program} {w:World} {K:W.Frag} {mg:Str->Option Value} {base:Heap} {x qual:Str} {st:Stmt} {f:Addr} {fd:FuncData} {N ps:List Str} {k:Nat} {sp:Sp3X} (F:Fun K x qual st f fd) (S:FnScope N ps (Zi st)) (len:∀ ds M K KX,sp ds M K KX->ds.length=ps.length)
  (hbody:∀ (cdv:Value) (A:Around) (outer:List Env) (s:Shared) (H:Hp) (E:XK),Room k (A.deeper (PyProof.Rows.envOfC qual (Zi st) s.heap.objs.size f cdv)) ->
   ∃ (t:TS) (u:X3->TS3),PSs (cxE P w K mg base N qual (Zi st) f cdv A outer s H E) (Zu st) t/\(∀ (kx:X3) (Z:Anc),Z.xe=E->Z.kx=kx->FinX C Z->SimS C Z t (u kx))/\∀ ds M K KX,WfM M->(∀ d∈ds,Y1 M.length d)->sp ds M K KX->u KX { nx:=fun _ M'=>Dk M.length K .non M',rt:=Dk M.length K } (Nc N ds) M):FnOk P w K mg base (CXE P w) (k + 1) f fd ps (Vf C sp):=by
 refine F.okE S (fun vs H Q E h=>?_) (fun cdv A outer s H vs Q E hr h=>?_)
 ·obtain ⟨Z,I,α,M,ds,K,KX,R,r,h,_⟩:=h
  rw [r.length]
  exact len ds M K KX h
 ·obtain ⟨t,u,h1,h2,h3⟩:=hbody cdv A outer s H E hr
  obtain ⟨Z,I,α,M,ds,K,KX,R,r,h,k,kx⟩:=h
  have R1:=R.here E KX
  have kd:=(k.re (Z':=⟨I,α,E,KX⟩) R).dk R1.len R1.aa
  refine ⟨t,h1,h2 KX ⟨I,α,E,KX⟩ rfl rfl (fun Ce d vs fs I' α' H' M' R' e f g=>kx Ce d vs fs I' α' H' M' R'.ai R'.aa (R'.re R R'.ai R'.aa) e f g) I α _ H _ M _ _ R1 (Nl r N) (h3 ds M K KX R.wf (by rw [<- R.len]; exact r.bel) h) ⟨fun I1 α1 σ1 H1 ρ1 M1 s1 p1 R1 _ h1=>kd _ _ I1 α1 H1 M1 s1 p1 R1 .non h1,kd,fun _ _ _ _ _ _ _ _ _ _ h=>h.elim,fun _ _ _ _ _ _ _ _ _ _ h=>h.elim⟩⟩
end
def kD:Key->D
 | .inl i=>.int i
 | .inr s=>.str s
def Zd1 (kd:List (Key×D)) (S:List Pr):Prop:=(∀ p∈S,valD kd (.inl p.1)=some (wD p.2))/\∀ s:Int,(∀ p∈S,p.1≠s)->valD kd (.inl s)=none
theorem Zd1.perm {kd:List (Key×D)} {S L:List Pr} (h:Zd1 kd L) (p:S.Perm L):Zd1 kd S:=⟨fun q hq=>h.1 q (p.mem_iff.mp hq),fun s hs=>h.2 s fun q hq=>hs q (p.mem_iff.mpr hq)⟩
section
variable {C:Cf} {Z:Anc}
def osOf (R:List En):List (Option Int):=R.map fun e=>e.2
theorem Zlq {I:Hp} {α:List Addr} {H H':Hp} {M:Mem} {Ce d:Addr} {f:Str} {i:Int} {KX:X3} {E:XK} (R:Rel C Z I α H M) (nd:H d=none) (s:Same H H') (ed:H' d=some (.ext (xdP d [(f,.int i)])))
  (kx:∀ Ce d vs fs I' α' H' M',Same I I'->α<+:α'->Rel C Z I' α' H' M'->I' d=some (.ext (xdP d vs))->RepF C I' α' vs fs->KX Ce fs M'->E (.ref Ce) (some d) H') (h:KX Ce [(f,.int i)] M):E (.ref Ce) (some d) H':=by
 obtain ⟨I',s',R',fl⟩:=(R.same s).full
 exact kx Ce d _ _ I' α H' M s' (List.prefix_refl _) R' (fl _ _ ed (R.out nd)) (.cons (.int _) .nil) h
def Zgl (Cn:Addr):Sp3X:=fun ds M K KX=>∃ (S:List Pr) (d:D) (ts:List Int),ds=[.code S,d]/\lsOf M d=some (ts.map .int)/\(Fits S/\ts.length<=1000) /\
 (∀ U:List Pr,Xs S U ts ts.length->K (.cell M.length) (M++[.lst ((Wj U).map .int)]))/\∀ (i:Nat) (U:List Pr),i < ts.length->Xs S U ts i->Wm S ts i=true->KX Cn [("at",.int i)] M
theorem Zis {Cn:Addr} {vs:List V} {H:Hp} {Q:VK} {E:XK} (h:Vf C (Zgl Cn) vs H Q E):Zb4 C.c Cn vs H Q E:=by
 obtain ⟨Z,I,α,M,ds,K,KX,R,r,⟨S,d,ts,rfl,e1,⟨h1,h3⟩,ha,hb⟩,kk,kx⟩:=h
 cases r with
 | cons r1 r2 =>
  cases r2 with
  | cons r2 r3 =>
   cases r3
   obtain ⟨x,rfl,ca⟩:=Zl0 R r1
   obtain ⟨xa,rfl,ex⟩:=Zjk R r2 e1
   exact ⟨x,xa,S,ts,rfl,ca,h1,ex,h3,fun T l H' tx nl s el=>Zh4 R nl s el kk (ha T tx),fun i T d H' hi tx hl nd s ed=>Zlq R nd s ed kx (hb i T hi tx hl)⟩
end
theorem Zej {u u':TS3} {En:Ends3} {ρ:Ev} {M:Mem} (S:Ev->Mem->Prop) (h1:∀ Kn:Ev->Mem->Prop,(∀ ρ' M',S ρ' M'->Kn ρ' M')->u { En with nx:=Kn } ρ M) (h2:∀ ρ' M',S ρ' M'->u' En ρ' M'):uSeq u u' En ρ M:=h1 _ h2
section
variable {C:Cf} {Z:Anc}
def Zq7:R3:=fun d e M K=>∃ xs ys,lsOf M d=some xs/\lsOf M e=some ys/\xs.length + ys.length<=sizeLine/\K (.cell M.length) (M++[.lst (xs++ys)])
theorem Zno:SimR C Z (Zhr C.k) Zq7:=fun I α H M x y d e K Q R r1 r2 h k=>by
 obtain ⟨xs,ys,e1,e2,hl,h⟩:=h
 obtain ⟨a,vs,rfl,ea,ra⟩:=Q6 R r1 e1
 obtain ⟨b,ws,rfl,eb,rb⟩:=Q6 R r2 e2
 refine .inr (.inr (.inl ⟨a,b,vs,ws,rfl,rfl,ea,eb,by rw [ra.length,rb.length]; exact hl,fun p hp=>?_⟩))
 obtain ⟨R2,p2,e2⟩:=R.cell (o:=.lst (vs++ws)) (m:=.lst (xs++ys)) hp fun H' e=>⟨_,e,ra.app rb⟩
 exact k _ _ I _ _ _ (.refl _) p2 R2 (.cell e2) h
end
def hit (ns:List Int) (pl:Nat) (p:Pr):Bool:=decide ((ns.drop pl).take p.2.length=p.2)
end L3
namespace L2
open PySem PySem.Spec PyProof.Rows
def Zh2 (L:List Pr) (i j:Nat):V:=((L[i]?).bind fun p=>(L[j]?).map fun q=>Su p q).getD .non
theorem Zn5 {L:List Pr} {i j:Nat} (hi:i < L.length) (hj:j < L.length):Zh2 L i j=Su L[i] L[j]:=by
 unfold Zh2
 rw [List.getElem?_eq_getElem hi,List.getElem?_eq_getElem hj]
 rfl
def Zc3 (L:List Pr) (o:Str) (i j:Nat):Prop:=i < j/\j < L.length/\Zh2 L i j=.str o/\∀ i' j',i' < j'->j' < L.length->(j' < j\/j'=j/\i' < i)->Zh2 L i' j'=.non
theorem Zdi (p q:Pr):Su p q=.str (Str.ofString "twice")\/Su p q=.str (Str.ofString "begins")\/Su p q=.non:=by
 unfold Su
 by_cases h:p.1=q.1
 ·rw [if_pos h]; exact .inl rfl
 ·rw [if_neg h]
  split
  ·exact .inr (.inl rfl)
  ·exact .inr (.inr rfl)
theorem Zc3.word {L:List Pr} {o:Str} {i j:Nat} (h:Zc3 L o i j):o=Str.ofString "twice"\/o=Str.ofString "begins":=by
 obtain ⟨a,b,c,_⟩:=h
 rw [Zn5 (Nat.lt_trans a b) b] at c
 rcases Zdi L[i] L[j] with e | e | e
 ·rw [e] at c; cases c; exact .inl rfl
 ·rw [e] at c; cases c; exact .inr rfl
 ·rw [e] at c; cases c
end L2
namespace L3
open PySem L2
def R9 (f:Str) (v:D):List (Str×D)->List (Str×D)
 | []=>[(f,v)]
 | (g,x)::r=>if g=f then (g,v)::r else (g,x)::R9 f v r
section
variable {C:Cf} {I:Hp} {α:List Addr}
abbrev FldR (C:Cf) (I:Hp) (α:List Addr):Str×V->Str×D->Prop:=fun p q=>p.1=q.1/\Rep C I α p.2 q.2
theorem N4 {f:Str} {d:D}:∀ {vs:List (Str×V)} {fs:List (Str×D)},Paired (FldR C I α) vs fs->fs.lookup f=some d->∃ v,vs.lookup f=some v/\Rep C I α v d
 | _,_,.nil,h=>nomatch h
 | _,_,.cons (a:=(g,v)) (b:=(g',d')) a r,h=>by
  obtain ⟨e,rv⟩:=a
  have e:g=g':=e
  subst e
  rw [List.lookup_cons] at h ⊢
  cases z:f == g with
  | true=>rw [z] at h; cases h; exact ⟨v,rfl,rv⟩
  | false=>rw [z] at h; exact N4 r h
theorem Rn {f:Str}:∀ {vs:List (Str×V)} {fs:List (Str×D)},Paired (FldR C I α) vs fs->fs.lookup f=none->vs.lookup f=none
 | _,_,.nil,h=>rfl
 | _,_,.cons (a:=(g,v)) (b:=(g',d')) a r,h=>by
  obtain ⟨e,rv⟩:=a
  have e:g=g':=e
  subst e
  rw [List.lookup_cons] at h ⊢
  cases z:f == g with
  | true=>rw [z] at h; cases h
  | false=>rw [z] at h; exact Rn r h
theorem Zcn {f:Str} {v:V} {d:D} (rv:Rep C I α v d):∀ {vs:List (Str×V)} {fs:List (Str×D)},Paired (FldR C I α) vs fs->Paired (FldR C I α) (putF f v vs) (R9 f d fs)
 | _,_,.nil=>.cons ⟨rfl,rv⟩ .nil
 | _,_,.cons (a:=(g,v')) (b:=(g',d')) a r=>by
  obtain ⟨e,rv'⟩:=a
  have e:g=g':=e
  subst e
  unfold putF R9
  by_cases z:g=f
  ·rw [if_pos z,if_pos z]; exact .cons ⟨rfl,rv⟩ r
  ·rw [if_neg z,if_neg z]; exact .cons ⟨rfl,rv'⟩ (Zcn rv r)
end
section
variable {C:Cf} {Z:Anc} {ta tb:TE} {ua ub:TE3} {t:TA} {u:TA3} {K:W.Frag}
def Zp2 (K:W.Frag) (f:Str) (ua:TE3):TE3:=fun ρ M Kk=>ua ρ M fun d M1=>∃ (k:Nat) (Cl:Addr) (fs:List (Str×D)) (v:D),d=.cell k/\M1[k]?=some (.ins Cl fs)/\Cls K Cl/\Yo K Cl f/\fs.lookup f=some v/\Kk v M1
theorem U6 {f:Str} (ha:SimE C Z ta ua):SimE C Z (tFld K ta f) (Zp2 K f ua):=fun I α σ H ρ M Kk Q R E h k =>
 ha I α σ H ρ M _ _ R E h fun v d I1 α1 H1 M1 s1 p1 R1 r1 h1=>by
  obtain ⟨j,Cl,fs,w,rfl,e1,cl,na,el,h1⟩:=h1
  cases r1 with
  | @cell a _ ec =>
   obtain ⟨dx,vs,ea,ra⟩:=(R1.cel j a _ ec e1).1
   obtain ⟨v,ev,rv⟩:=N4 ra el
   exact ⟨a,Cl,dx,vs,v,rfl,ea,cl,na,ev,k _ _ I1 α1 H1 M1 s1 p1 R1 rv h1⟩
def Zpu (K:W.Frag) (f:Str) (ua ub:TE3):TS3:=fun E ρ M=>ub ρ M fun dv M1=>ua ρ M1 fun d M2=>∃ (k:Nat) (Cl:Addr) (fs:List (Str×D)),d=.cell k/\M2[k]?=some (.ins Cl fs)/\Cls K Cl/\Yo K Cl f/\fs.length < 1000/\E.nx ρ (M2.set k (.ins Cl (R9 f dv fs)))
theorem Zi6 {f:Str} (ha:SimE C Z ta ua) (hb:SimE C Z tb ub):SimS C Z (sFld K ta tb f) (Zpu K f ua ub):=fun I α σ H ρ M E3 D' R RE h F =>
 hb I α σ H ρ M _ _ R RE h fun y dv I1 α1 H1 M1 s1 p1 R1 r1 h1=>ha I1 α1 σ H1 ρ M1 _ _ R1 (RE.mono s1 p1) h1 fun v d I2 α2 H2 M2 s2 p2 R2 r2 h2=>by
  obtain ⟨j,Cl,fs,rfl,e1,cl,na,hl,h2⟩:=h2
  cases r2 with
  | @cell a _ ec =>
   obtain ⟨dx,vs,ea,ra⟩:=(R2.cel j a _ ec e1).1
   refine ⟨a,Cl,dx,vs,rfl,ea,cl,na,by rw [Paired.length ra]; exact hl,?_⟩
   exact F.nx I2 α2 σ _ ρ _ (s1.trans s2) (p1.trans p2) (R2.put (m:=.ins Cl (R9 f dv fs)) ec fun H' e=>⟨dx,_,e,Zcn (r1.mono s2 p2) ra⟩) (RE.mono (s1.trans s2) (p1.trans p2)) h2
def uMkI (Cl:Addr) (sp:Sp3) (u:TA3):TE3:=fun ρ M Kk=>u ρ M fun ds M1=>sp (.cell M1.length::ds) (M1++[.ins Cl []]) fun d M2=>d=.non/\Kk (.cell M1.length) M2
theorem Zqh {Cl:Addr} {sp:Sp3} (ha:SimA C Z t u):SimE C Z (Zc9 Cl (spOf C sp) [] E0 t) (uMkI Cl sp u):=fun I α σ H ρ M Kk Q R E h k =>
 ha I α σ H ρ M _ _ R E h fun vs ds I1 α1 H1 M1 s1 p1 R1 r1 h1=>by
  intro x dx nx ndx ne
  have R2:=R1.same (Zb (o:=.own x) ndx)
  obtain ⟨R3,p3,e3⟩:=R2.cell (p:=x) (o:=.ins Cl dx []) (m:=.ins Cl []) (by rw [Zm (Ne.symm ne)]; exact nx) fun H' e=>⟨dx,[],e,.nil⟩
  rw [List.append_nil]
  refine ⟨Z,I1,α1++[x],_,_,_,R3,.cons (.cell e3) (r1.mono (.refl _) p3),h1,fun v d I' α' H' M' s p R' r h'=>?_⟩
  obtain ⟨rfl,h'⟩:=h'
  cases r
  refine ⟨rfl,k _ _ I' α' H' M' (s1.trans s) ((p1.trans p3).trans p) R' (.cell ?_) h'⟩
  obtain ⟨tl,rfl⟩:=p
  rw [List.getElem?_append_left (by have:=(List.getElem?_eq_some_iff.mp e3).1; exact this)]
  exact e3
def Zms (Cl:Addr) (m:Str) (sp:Sp3) (ua:TE3) (u:TA3):TE3:=fun ρ M Kk=>ua ρ M fun d M1=>(∃ (k:Nat) (fs:List (Str×D)),d=.cell k/\M1[k]?=some (.ins Cl fs)/\fs.lookup m=none)/\u ρ M1 fun ds M2=>sp (d::ds) M2 Kk
theorem Tl {Cl:Addr} {m:Str} {sp:Sp3} (ha:SimE C Z ta ua) (hr:SimA C Z t u):SimE C Z (Zc8 Cl m (spOf C sp) [] E0 ta t) (Zms Cl m sp ua u):=fun I α σ H ρ M Kk Q R E h k =>
 ha I α σ H ρ M _ _ R E h fun v d I1 α1 H1 M1 s1 p1 R1 r1 h1=>by
  obtain ⟨⟨j,fs,rfl,e1,el⟩,h1⟩:=h1
  cases r1 with
  | @cell a _ ec =>
   obtain ⟨dx,vs,ea,ra⟩:=(R1.cel j a _ ec e1).1
   refine ⟨a,dx,vs,rfl,ea,Rn ra el,?_⟩
   refine hr I1 α1 σ H1 ρ M1 _ _ R1 (E.mono s1 p1) h1 fun vs ds I2 α2 H2 M2 s2 p2 R2 r2 h2=>?_
   rw [List.append_nil]
   exact ⟨Z,I2,α2,M2,_,Kk,R2,.cons ((Rep.cell ec).mono s2 p2) r2,h2,k.mono (s1.trans s2) (p1.trans p2)⟩
end
section
variable {C:Cf} {I:Hp} {α:List Addr} {H:Hp}
def Wk:MO->MO->Prop
 | .dcT a,.drT b=>a=b
 | .dfT _ _ a,.drT b=>a=b
 | .dct a,.drK b=>a=b
 | _,_=>False
theorem Wk.at {a:Addr} {m m':MO} (w:Wk m m') (h:MoAt C I α H a m):MoAt C I α H a m':=by
 cases m with
 | dcT x=>cases m' with | drT y=>cases w; obtain ⟨vs,e,r⟩:=h; exact ⟨vs,.inl e,r⟩ | _=>exact w.elim
 | dfT o vs x=>cases m' with | drT y=>cases w; exact ⟨vs,.inr ⟨o,h.1⟩,h.2⟩ | _=>exact w.elim
 | dct x=>cases m' with | drK y=>cases w; obtain ⟨vs,e,r⟩:=h; exact ⟨vs,.inl e,r⟩ | _=>exact w.elim
 | _=>cases m' <;> exact w.elim
end
section
variable {C:Cf}
theorem RepT.get {I:Hp} {α:List Addr}:∀ {vs:List (List Key×V)} {ds:List (List Key×D)},RepT C I α vs ds->vs.length=ds.length/\∀ i:Nat,(vs[i]?).map (·.1)=(ds[i]?).map (·.1)
 | _,_,.nil=>⟨rfl,fun _=>rfl⟩
 | _,_,.cons h r=>by
  obtain ⟨a,b⟩:=RepT.get r
  refine ⟨by rw [List.length_cons,List.length_cons,a],fun i=>?_⟩
  cases i with
  | zero=>rfl
  | succ i=>simpa using b i
end
end L3
namespace L2
open PySem PySem.Spec PyProof.Rows
section
variable {X:Cx}
theorem Zbo:Vc X (.type "range") (fun xs H Q=>∃ i j,xs=[.int i,.int j]/\∀ p,H p=none->Q (.ref p) (upd H p (.rng i j))):=by
 intro pins s σ H xs us Q I r h
 obtain ⟨i,j,rfl,q⟩:=h
 obtain ⟨u,w',rfl,ru,rw'⟩:=Zha r
 obtain ⟨t,rfl⟩:=ru
 obtain ⟨t',rfl⟩:=rw'
 refine call_range_2 ?_
 exact ⟨.ref s.heap.objs.size,_,I.laid (o:=.rng i j) (fun b o e=>Heap.get?_push_of_some _ e) (Nat.le_refl _) ⟨t,t',_,Heap.get?_push_size _ rfl⟩,rfl,q _ (I.hok.fresh (Nat.le_refl _))⟩
def rngV (i:Int) (n:Nat):List V:=(List.range n).map fun k:Nat=>V.int (i + k)
theorem Zd2:∀ {xs:List V} {us:List Value},xs.length=us.length->(∀ (i:Nat) x u,xs[i]?=some x->us[i]?=some u->RelV x u)->Vals xs us
 | [],[],_,_=>.nil
 | x::xs,u::us,e,h=>.cons (h 0 x u rfl rfl) (Zd2 (by simpa using e) fun i y v a b=>h (i + 1) y v (by simpa using a) (by simpa using b))
theorem T5 (hc:X.calm=true):Vc X (.type "list") (fun xs H Q=>∃ p i j,xs=[.ref p]/\H p=some (.rng i j)/\(-(2 ^ 62)<=i/\i < 2 ^ 62/\-(2 ^ 62)<=j/\j < 2 ^ 62/\(j - i).toNat<=1000)/\∀ l,H l=none->Q (.ref l) (upd H l (.lst (rngV i (j - i).toNat)))):=by
 intro pins s σ H xs us Q I r h
 obtain ⟨p,i,j,rfl,ep,⟨h1,h2,h3,h4,h5⟩,q⟩:=h
 obtain ⟨u,rfl,rx⟩:=Tj r
 cases rx
 obtain ⟨t,u,v,e⟩:=I.hok p _ ep
 refine call_list_range (n:=(j - i).toNat) (I.ok.hd hc) e (small_one h1 h2 h3 h4) (by rw [rangeSize_one]; split <;> omega) (Nat.le_trans h5 (by decide)) fun h' tk acc' c' kp e' hacc=>?_
 have hl:(rngV i (j - i).toNat).length=(j - i).toNat:=by unfold rngV; rw [List.length_map,List.length_range]
 refine ⟨.ref s.heap.objs.size,_,I.laid (t':=tk) (o:=.lst (rngV i (j - i).toNat)) kp (Nat.le_refl _) ⟨by rw [hl]; exact Nat.le_trans h5 (by decide),acc'.toList,c',Zd2 (by rw [hl,Array.length_toList,hacc.1]) fun k x u e1 e2=>?_,by simpa using e'⟩,rfl,q _ (I.hok.fresh (Nat.le_refl _))⟩
 have e2':acc'[k]?=some u:=by simpa using e2
 obtain ⟨t,rfl⟩:=hacc.2 k u e2'
 unfold rngV at e1
 rw [List.getElem?_map] at e1
 cases hr:(List.range (j - i).toNat)[k]? with
 | none=>rw [hr] at e1; cases e1
 | some z =>
  rw [hr] at e1
  cases e1
  obtain ⟨hk,ez⟩:=List.getElem?_eq_some_iff.mp hr
  rw [List.getElem_range] at ez
  subst ez
  exact ⟨t,by rw [Int.mul_one]⟩
end
end L2
namespace L3
open PySem L2
section
variable {C:Cf} {Z:Anc} {ta:TA} {ua:TA3}
def rngD (i:Int) (n:Nat):List D:=(List.range n).map fun k:Nat=>D.int (i + k)
theorem Zca {I:Hp} {α:List Addr} (i:Int) (n:Nat):Reps C I α (rngV i n) (rngD i n):=by
 have:=Reps.ints (C:=C) (I:=I) (α:=α) ((List.range n).map fun k:Nat=>i + (k:Int))
 rw [List.map_map,List.map_map] at this
 exact this
def uLR (ua:TA3):TE3:=fun ρ M K=>ua ρ M fun ds M1=>∃ i j:Int,ds=[.int i,.int j]/\(-(2 ^ 62)<=i/\i < 2 ^ 62/\-(2 ^ 62)<=j/\j < 2 ^ 62/\(j - i).toNat<=1000)/\K (.lst (rngD i (j - i).toNat)) M1
theorem Zey (ha:SimA C Z ta ua):SimE C Z (tCB (fun xs H Q=>∃ p i j,xs=[.ref p]/\H p=some (.rng i j)/\(-(2 ^ 62)<=i/\i < 2 ^ 62/\-(2 ^ 62)<=j/\j < 2 ^ 62/\(j - i).toNat<=1000)/\∀ l,H l=none->Q (.ref l) (upd H l (.lst (rngV i (j - i).toNat))))
  (Zef (tCB (fun xs H Q=>∃ i j,xs=[.int i,.int j]/\∀ p,H p=none->Q (.ref p) (upd H p (.rng i j))) ta) tNil)) (uLR ua):=fun I α σ H ρ M K Q R E h k =>
 ha I α σ H ρ M _ _ R E h fun vs ds I1 α1 H1 M1 s1 p1 R1 r1 h1=>by
  obtain ⟨i,j,rfl,hb,h1⟩:=h1
  cases r1 with
  | cons a b =>
   cases b with
   | cons b c =>
    cases c
    cases a
    cases b
    refine ⟨i,j,rfl,fun p hp=>?_⟩
    refine ⟨p,i,j,rfl,Zg,hb,fun l hl=>?_⟩
    have R2:=R1.same (Zb (o:=.rng i j) hp)
    obtain ⟨R3,s3,e3⟩:=R2.new (o:=.lst (rngV i (j - i).toNat)) hl
    exact k _ _ _ α1 _ M1 (s1.trans s3) p1 R3 (.lst e3 (Zca i _)) h1
end
def dNo:Sp3:=fun _ _ _=>False
theorem FnOk.no {P:Program} {w:World} {K:W.Frag} {mg:Str->Option Value} {base:Heap} {CX:CXT} {k:Nat} {f:Addr} {fd:FuncData} {ps:List Str} {C:Cf}:FnOk P w K mg base CX k f fd ps (spOf C dNo) :=
 ⟨fun vs H Q E h=>by obtain ⟨Z,I,α,M,ds,K,R,r,h,_⟩:=h; exact h.elim,fun A outer s H args us vs Q E hr e b v h=>by obtain ⟨Z,I,α,M,ds,K,R,r,h,_⟩:=h; exact h.elim⟩
section
variable {C:Cf} {Z:Anc}
abbrev Live (S:List Pr) (ns:List Int):Prop:=∃ w∈S.map (fun q:Pr=>q.2),ns<+:w/\ns.length < w.length
theorem Live.perm {S L:List Pr} {ns:List Int} (h:Live S ns) (p:S.Perm L):Live L ns:=by
 obtain ⟨w,hw,r⟩:=h
 exact ⟨w,(p.map _).mem_iff.mp hw,r⟩
def Zq5:Sp3:=fun ds M K=>∃ (S:List Pr) (s:Int),ds=[.code S,.int s]/\(∀ p∈S,p.1=s->K (wD p.2) M)/\((∀ p∈S,p.1≠s)->K .non M)
theorem Zpm {vs:List V} {H:Hp} {Q:VK} {E:XK} (h:spOf C Zq5 vs H Q E):Zel C.c vs H Q E:=by
 obtain ⟨Z,I,α,M,ds,K,R,r,⟨S,s,rfl,h1,h2⟩,kk⟩:=h
 cases r with
 | cons r1 r2 =>
  cases r2 with
  | cons r2 r3 =>
   cases r3
   cases r2
   cases r1 with
   | code hc =>
    refine ⟨_,S,s,rfl,hc.same R.sub,fun p hp e t et=>?_,fun hn=>kk _ _ I α H M (.refl _) (List.prefix_refl _) R .non (h2 hn)⟩
    obtain ⟨I2,s2,R2,f⟩:=R.full
    exact kk _ _ I2 α H M s2 (List.prefix_refl _) R2 (.tup (f _ _ et (R.tupOut et)) (.ints _)) (h1 p hp e)
end
def Cert (S:List Pr) (ns:List Int) (os:List (Option Int)) (pl:Nat):Prop:=∃ (R:List En) (j:Nat),Told S ns R/\os=osOf (R.take j)/\Went S ns (R.take j) pl/\(∀ i,i < j->∀ p,R[i]?=some (p,none)->¬ Live S (ns.drop p)) /\
 ((R.length<=j/\pl=ns.length)\/(R[j]?=some (pl,none)/\Live S (ns.drop pl)))
theorem Cert.rest {S:List Pr} {ns:List Int} {os:List (Option Int)} {pl:Nat} (h:Cert S ns os pl):ns.drop pl=[]\/Live S (ns.drop pl):=by
 obtain ⟨R,j,_,_,w,_,z⟩:=h
 rcases z with ⟨_,rfl⟩ | ⟨_,z⟩
 ·exact .inl (List.drop_length ..)
 ·exact .inr z
theorem Wl {M:Mem} {d:D} {xs:List D} (h:lsOf M d=some xs):tyOf M d=some .list/\Wq M d=some xs/\R7 M d=some xs:=by
 cases d with
 | lst ys=>cases h; exact ⟨rfl,rfl,rfl⟩
 | cell k =>
  simp only [lsOf] at h
  cases hm:M[k]? with
  | none=>rw [hm] at h; cases h
  | some m =>
   rw [hm] at h
   cases m with
   | lst es=>cases h; exact ⟨by simp only [tyOf,hm],by simp only [Wq,hm],by simp only [R7,Wq,hm]⟩
   | _=>cases h
 | _=>cases h
theorem Zhs {κ:Type} [DecidableEq κ] {k:κ} {v:D} {kvs:List (κ×D)} (h:∀ kv∈kvs,kv.1≠k):putD kvs k v=kvs++[(k,v)]:=by
 unfold putD
 rw [if_neg]
 intro z
 obtain ⟨kv,hk,e⟩:=List.any_eq_true.mp z
 exact h kv hk (of_decide_eq_true e)
theorem Zhg {M:Mem} {d:D} {xs:List D} {lo hi:Option Int} {K:K3} (h:lsOf M d=some xs) (hk:K (.lst (cut xs lo hi)) M):sl3 d lo hi M K:=by
 cases d with
 | lst ys=>cases h; exact ⟨_,rfl,hk⟩
 | cell k=>exact ⟨_,(Wl h).2.1,hk⟩
 | _=>cases h
theorem Zpl {M:Mem} {d e:D} {xs ys:List D} {K:K3} (h1:lsOf M d=some xs) (h2:lsOf M e=some ys) (hl:xs.length + ys.length<=sizeLine) (hk:K (.lst (xs++ys)) M):add3 d e M K:=by
 cases d with
 | lst zs=>exact ⟨_,_,h1,h2,hl,hk⟩
 | cell k=>exact ⟨_,_,h1,h2,hl,hk⟩
 | _=>cases h1
theorem Zjl {M:Mem} {d:D} {xs:List D} {K:K3} (h:lsOf M d=some xs) (hk:K (.int xs.length) M):len3 [d] M K:=by
 cases d with
 | lst zs=>exact ⟨_,(Wl h).2.2,hk⟩
 | cell k=>exact ⟨_,(Wl h).2.2,hk⟩
 | _=>cases h
theorem Zba {M:Mem} {d v:D} {xs:List D} {i:Int} {K:K3} (h:lsOf M d=some xs) (hv:L2.atI xs i=some v) (hk:K v M):ix3 d (.int i) M K:=by
 cases d with
 | lst zs=>exact ⟨_,_,_,(Wl h).2.2,rfl,hv,hk⟩
 | cell k=>exact ⟨_,_,_,(Wl h).2.2,rfl,hv,hk⟩
 | _=>cases h
theorem V6 {xs:List D} {v:D} {j:Nat} {i:Int} (e:i=j) (h:xs[j]?=some v):L2.atI xs i=some v:=by
 rw [e]
 exact Ty h
theorem We {M:Mem} {m m':MO} {r:Nat} (h:M[r]?=some m):(M++[m'])[r]?=some m:=by
 rw [List.getElem?_append_left (List.getElem?_eq_some_iff.mp h).1]
 exact h
theorem add_int {M:Mem} {i j:Int} {K:K3} (h:K (.int (i + j)) M):add3 (.int i) (.int j) M K:=h
end L3
namespace L2
open PySem
def Zb5:Sp:=fun vs H Q _=>∃ (p a sa:Addr) (m lg:Int) (bs:List Int),vs=[.ref p,.ref sa,.int m,.int lg]/\HandAt H p a/\H sa=some (.lst (bs.map V.int))/\sa≠p/\bs.Nodup/\bs≠[]/\bs.length<=24/\0<=m/\m<=6/\1<=lg/\lg<=4 /\
 ∀ (l:Addr) (ws:List (List Int)) (H':Hp),H l=none->l≠p->V7 H' l ws->WOk ws->(∀ w∈ws,∀ b∈w,b∈bs)->(ws.length:Int)<=bs.length + m * bs.length->HandAt H' p a->Grow p H H'->Q (.ref l) H'
end L2
namespace L3
open PySem L2
section
variable {C:Cf} {Z:Anc}
def Zgm:Sp3:=fun ds M K=>∃ (k:Nat) (bs:List Int) (m lg:Int),ds=[.cell k,.lst (bs.map .int),.int m,.int lg]/\M[k]?=some .hand/\(bs.Nodup/\bs≠[]/\bs.length<=24/\0<=m/\m<=6/\1<=lg/\lg<=4)/\∀ ws:List (List Int),WOk ws->(∀ w∈ws,∀ b∈w,b∈bs)->(ws.length:Int)<=bs.length + m * bs.length->K (.lst (ws.map wD)) M
theorem Zit {vs:List V} {H:Hp} {Q:VK} {E:XK} (h:spOf C Zgm vs H Q E):Zb5 vs H Q E:=by
 obtain ⟨Z,I,α,M,ds,K,R,r,⟨k,bs,m,lg,rfl,hm,⟨h1,h2,h3,h4,h5,h6,h7⟩,h⟩,kk⟩:=h
 cases r with
 | cons r1 r2 =>
  cases r2 with
  | cons r2 r3 =>
   cases r3 with
   | cons r3 r4 =>
    cases r4 with
    | cons r4 r5 =>
     cases r5
     cases r3
     cases r4
     cases r1 with
     | @cell p _ ha =>
      obtain ⟨c,cs,hh,ic,hc⟩:=R.hand ha hm
      obtain ⟨sa,rfl,es,is⟩:=Zbc R r2
      exact ⟨p,c,sa,m,lg,bs,rfl,hh,es,Q5 R ha hm is,h1,h2,h3,h4,h5,h6,h7,fun l ws H' nl _ wa wo wb wl hh' g=>Zdr R ha hm hh' ic hc g nl wa kk (h ws wo wb wl)⟩
end
theorem Cert.perm {S L:List Pr} {ns:List Int} {os:List (Option Int)} {pl:Nat} (h:Cert S ns os pl) (p:S.Perm L):Cert L ns os pl:=by
 obtain ⟨R,j,t,e,w,no,z⟩:=h
 refine ⟨R,j,t.perm p,e,w.perm p,fun i hi q hq l=>no i hi q hq (Live.perm l p.symm),?_⟩
 rcases z with z | ⟨z1,z2⟩
 ·exact .inl z
 ·exact .inr ⟨z1,Live.perm z2 p⟩
theorem Live.no {S:List Pr} {ws:List Int} (fr:Free S) (h:Live S ws):∀ q∈S,¬ q.2<+:ws:=fun q hq pre=>by
 obtain ⟨w,hw,p1,l⟩:=h
 obtain ⟨p,hp,rfl⟩:=List.mem_map.mp hw
 have:q=p:=Zln fr hq hp (l:=p.2) (pre.trans p1) (List.prefix_refl _)
 subst this
 have:=pre.length_le
 omega
theorem Rt {τ:Type} {ns:List τ} {pl:Nat}:cut ns none (some (pl:Int))=ns.take pl:=by
 unfold cut
 rw [HT.sIx_nat]
 show (ns.drop 0).take (min pl ns.length - 0)=_
 rw [Nat.sub_zero,List.drop_zero,List.take_eq_take_iff]
 omega
theorem Sr {M N:Mem} {m:MO} {t:Nat} (h:M<+:N) (ht:M.length<=t):M<+:N.set t m:=by
 obtain ⟨X,rfl⟩:=h
 rw [List.set_append_right _ _ ht]
 exact List.prefix_append _ _
theorem Vk {N:Mem} {m m':MO} {r t:Nat} (h:N[r]?=some m) (ne:r≠t):(N.set t m')[r]?=some m:=by
 rw [List.getElem?_set_ne (Ne.symm ne)]
 exact h
theorem Vo {N:Mem} {m:MO} {r:Nat} (h:N[r]?=some m):r < N.length:=(List.getElem?_eq_some_iff.mp h).1
theorem Xj {N:Mem} {xs:List D} {t:Nat} (h:N[t]?=some (.lst xs)):lsOf N (.cell t)=some xs:=by simp only [lsOf,h]
theorem Live.drop {S:List Pr} {a b:List Int} (h:Live S (a++b)):Live S a:=by
 obtain ⟨w,hw,p,l⟩:=h
 exact ⟨w,hw,(List.prefix_append _ _).trans p,by rw [List.length_append] at l; omega⟩
def R0:Mem->D->Option Int->Prop:=fun _ d o=>d=oD o
theorem Yz {M N:Mem} {m:MO} {r:Nat} (p:M<+:N) (h:M[r]?=some m):N[r]?=some m:=by
 obtain ⟨X,rfl⟩:=p
 rw [List.getElem?_append_left (List.getElem?_eq_some_iff.mp h).1]
 exact h
end L3
namespace L2
open PySem
def Zme (H:Hp) (r:Addr) (ns:List Int):Prop:=H r=some (.lst (ns.map V.int))\/H r=some (.tup (ns.map V.int))
theorem Zme.same {H H':Hp} {r:Addr} {ns:List Int} (h:Zme H r ns) (s:Same H H'):Zme H' r ns:=h.imp (s _ _) (s _ _)
end L2
namespace L2
open PySem PySem.Spec PyProof.Rows
section
variable {X:Cx} {K:W.Frag}
def Znv (K:W.Frag):V->List V->Hp->VK->Prop:=fun x xs H Q=>∃ (z:Str) (p:Addr) (ys:List Str),x=.str z/\xs=[.ref p]/\SqL K H p (ys.map V.str)/\(ys.map (·.length)).sum + ys.length * z.length<=16777216/\Q (.str (Txt.join z ys)) H
theorem Zl5 (h:X.K=K):MtR X "str.join" (Znv K):=by subst h; exact Zk6
theorem Zad:Vc X (.type "range") (fun xs H Q=>∃ j,xs=[.int j]/\∀ p,H p=none->Q (.ref p) (upd H p (.rng 0 j))):=by
 intro pins s σ H xs us Q I r h
 obtain ⟨j,rfl,q⟩:=h
 obtain ⟨u,rfl,ru⟩:=Tj r
 obtain ⟨t,rfl⟩:=ru
 refine call_range_1 ?_
 exact ⟨.ref s.heap.objs.size,_,I.laid (o:=.rng 0 j) (fun b o e=>Heap.get?_push_of_some _ e) (Nat.le_refl _) ⟨_,_,_,Heap.get?_push_size _ rfl⟩,rfl,q _ (I.hok.fresh (Nat.le_refl _))⟩
end
end L2
namespace L3
open PySem L2
section
variable {C:Cf} {Z:Anc} {to ta:TE} {uo ua:TE3} {t:TA} {u:TA3} {K':W.Frag} {X:Cx}
def Zmr (Cl:Addr) (m:Str) (sp:Sp3X) (kx:X3) (ua:TE3) (u:TA3):TE3:=fun ρ M Kk=>ua ρ M fun d M1=>(∃ (k:Nat) (fs:List (Str×D)),d=.cell k/\M1[k]?=some (.ins Cl fs)/\fs.lookup m=none)/\u ρ M1 fun ds M2=>sp (d::ds) M2 Kk kx
theorem Uu {Cl:Addr} {m:Str} {sp:Sp3X} {E:XK} {kx:X3} (he:Z.xe=E) (hk:Z.kx=kx) (hx:FinX C Z) (ha:SimE C Z ta ua) (hr:SimA C Z t u):SimE C Z (Zc8 Cl m (Vf C sp) [] E ta t) (Zmr Cl m sp kx ua u):=fun I α σ H ρ M Kk Q R RE h k =>
 ha I α σ H ρ M _ _ R RE h fun v d I1 α1 H1 M1 s1 p1 R1 r1 h1=>by
  obtain ⟨⟨j,fs,rfl,e1,el⟩,h1⟩:=h1
  subst he hk
  cases r1 with
  | @cell a _ ec =>
   obtain ⟨dx,vs,ea,ra⟩:=(R1.cel j a _ ec e1).1
   refine ⟨a,dx,vs,rfl,ea,Rn ra el,?_⟩
   refine hr I1 α1 σ H1 ρ M1 _ _ R1 (RE.mono s1 p1) h1 fun vs ds I2 α2 H2 M2 s2 p2 R2 r2 h2=>?_
   rw [List.append_nil]
   exact ⟨Z,I2,α2,M2,_,Kk,Z.kx,R2,.cons ((Rep.cell ec).mono s2 p2) r2,h2,k.mono (s1.trans s2) (p1.trans p2),fun Ce d vs fs I' α' H' M' s p R' e f g=>hx Ce d vs fs I' α' H' M' R' e f g⟩
theorem MetE.calm3 {P:Program} {w:World} {K:W.Frag} {mg:Str->Option Value} {base:Heap} {Cl:Addr} {m:Str} {k:Nat} {ps:List Str} {sp:Sp3X} (c:MetE P w K mg base Cl m k ps (Vf C sp)):Met P w K mg base Cl m k ps (spOf C fun ds M K=>sp ds M K fun _ _ _=>False) :=
 L2.MetE.calm c fun vs H Q E h=>by
  obtain ⟨Z,I,α,M,ds,K,R,r,h,k⟩:=h
  exact ⟨Z,I,α,M,ds,K,_,R,r,h,k,fun _ _ _ _ _ _ _ _ _ _ _ _ _ z=>z.elim⟩
theorem Reps.of_strs {I:Hp} {α:List Addr}:∀ {vs:List V} (zs:List Str),Reps C I α vs (zs.map D.str)->vs=zs.map V.str
 | _,[],h=>by cases h; rfl
 | _,z::r,h=>by
  cases h with
  | cons a b =>
   cases a
   rw [Reps.of_strs r b]
   rfl
def Zpy (uo:TE3) (u:TA3):TE3:=fun ρ M K=>uo ρ M fun d M1=>∃ z,d=.str z/\u ρ M1 fun ds M2=>∃ (e:D) (ys:List Str),ds=[e]/\Wq M2 e=some (ys.map D.str)/\(ys.map (·.length)).sum + ys.length * z.length<=16777216/\K (.str (Txt.join z ys)) M2
theorem Znk (ho:SimE C Z to uo) (ha:SimA C Z t u):SimE C Z (tBM C.k "str" (Znv C.k) to t) (Zpy uo u):=fun I α σ H ρ M K Q R E h k =>
 ho I α σ H ρ M _ _ R E h fun v d I1 α1 H1 M1 s1 p1 R1 r1 h1=>by
  obtain ⟨z,rfl,h1⟩:=h1
  cases r1
  refine ⟨rfl,ha I1 α1 σ H1 ρ M1 _ _ R1 (E.mono s1 p1) h1 fun ws ds I2 α2 H2 M2 s2 p2 R2 r2 h2=>?_⟩
  obtain ⟨e,ys,rfl,el,hz,h2⟩:=h2
  cases r2 with
  | cons ry rn =>
   cases rn
   obtain ⟨a,vs,rfl,ea,ra⟩:=Vz R2 ry el
   rw [ra.of_strs ys] at ea
   exact ⟨z,a,ys,rfl,rfl,ea,hz,k _ _ I2 α2 H2 M2 (s1.trans s2) (p1.trans p2) R2 (.str _) h2⟩
def Zoh:List D->Mem->K3->Prop:=fun ds M K=>∃ (d:D) (kvs:List (Key×D)),ds=[d]/\T6 M d=some kvs/\K (.cell M.length) (M++[.lst (kvs.map fun kv=>kD kv.1)])
theorem Nk {I:Hp} {α:List Addr}:∀ {vs:List (Key×V)} {kvs:List (Key×D)},RepK C I α vs kvs->Reps C I α (vs.map fun kv=>kV kv.1) (kvs.map fun kv=>kD kv.1)
 | _,_,.nil=>.nil
 | _,_,.cons (k:=k) r1 r2=>.cons (by cases k with | inl i=>exact .int i | inr z=>exact .str z) (Nk r2)
theorem Zke:SimC C Z Ze5 Zoh:=fun I α H M xs ds K Q R r h k=>by
 obtain ⟨d,kvs,rfl,e,h⟩:=h
 cases r with
 | cons r1 r2 =>
  cases r2
  obtain ⟨a,vs,rfl,ea,ra⟩:=Zjq R r1 e
  refine ⟨a,vs,rfl,ea,fun p hp=>?_⟩
  obtain ⟨R2,p2,e2⟩:=R.cell (o:=.lst (vs.map fun kv=>kV kv.1)) (m:=.lst (kvs.map fun kv=>kD kv.1)) hp fun H' e=>⟨_,e,Nk ra⟩
  exact k _ _ I _ _ _ (.refl _) p2 R2 (.cell e2) h
def uLR1 (ua:TA3):TE3:=fun ρ M K=>ua ρ M fun ds M1=>∃ j:Int,ds=[.int j]/\(-(2 ^ 62)<=j/\j < 2 ^ 62/\j.toNat<=1000)/\K (.lst (rngD 0 j.toNat)) M1
theorem Zdc {ta:TA} {ua:TA3} (ha:SimA C Z ta ua):SimE C Z (tCB (fun xs H Q=>∃ p i j,xs=[.ref p]/\H p=some (.rng i j)/\(-(2 ^ 62)<=i/\i < 2 ^ 62/\-(2 ^ 62)<=j/\j < 2 ^ 62/\(j - i).toNat<=1000)/\∀ l,H l=none->Q (.ref l) (upd H l (.lst (rngV i (j - i).toNat))))
  (Zef (tCB (fun xs H Q=>∃ j,xs=[.int j]/\∀ p,H p=none->Q (.ref p) (upd H p (.rng 0 j))) ta) tNil)) (uLR1 ua):=fun I α σ H ρ M K Q R E h k =>
 ha I α σ H ρ M _ _ R E h fun vs ds I1 α1 H1 M1 s1 p1 R1 r1 h1=>by
  obtain ⟨j,rfl,⟨hb1,hb2,hb3⟩,h1⟩:=h1
  cases r1 with
  | cons b c =>
   cases c
   cases b
   refine ⟨j,rfl,fun p hp=>?_⟩
   refine ⟨p,0,j,rfl,Zg,⟨by decide,by decide,hb1,hb2,by rw [Int.sub_zero]; exact hb3⟩,fun l hl=>?_⟩
   have R2:=R1.same (Zb (o:=.rng 0 j) hp)
   obtain ⟨R3,s3,e3⟩:=R2.new (o:=.lst (rngV 0 (j - 0).toNat)) hl
   rw [<- Int.sub_zero j] at h1
   exact k _ _ _ α1 _ M1 (s1.trans s3) p1 R3 (.lst e3 (Zca 0 _)) h1
def Znx (K:W.Frag):R2:=fun x y H Q=>Znw K x y H Q\/Zhq K x y H Q
theorem Zjz (h:X.K=K'):OpR X (binaryOp .Add) (Znx K'):=by
 subst h
 exact OpR.or Zk0 Za2
def Zq6:R3:=fun d e M K=>∃ xs ys,d=.tup xs/\e=.tup ys/\xs.length + ys.length<=sizeLine/\K (.tup (xs++ys)) M
theorem Znn:SimR C Z (Znx C.k) Zq6:=fun I α H M x y d e K Q R r1 r2 h k=>by
 obtain ⟨xs,ys,rfl,rfl,hl,h⟩:=h
 obtain ⟨a,vs,rfl,ea,ia,ra⟩:=Vq R r1 rfl
 obtain ⟨b,ws,rfl,eb,ib,rb⟩:=Vq R r2 rfl
 by_cases hx:xs=[]
 ·subst hx
  cases ra
  exact .inl ⟨a,b,ws,rfl,rfl,SqT.of ea,SqT.of eb,k _ _ I α H M (.refl _) (List.prefix_refl _) R r2 h⟩
 ·refine .inr ⟨a,b,vs,ws,rfl,rfl,SqT.of ea,SqT.of eb,fun z=>?_,by rw [ra.length,rb.length]; exact hl,fun z=>?_,fun _ p hp=>?_⟩
  ·subst z
   cases ra
   exact hx rfl
  ·subst z
   cases rb
   rw [List.append_nil] at h
   exact k _ _ I α H M (.refl _) (List.prefix_refl _) R r1 h
  ·obtain ⟨R2,s2,e2⟩:=R.new (o:=.tup (vs++ws)) hp
   exact k _ _ _ α _ M s2 (List.prefix_refl _) R2 (.tup e2 ((ra.app rb).mono s2 (List.prefix_refl _))) h
end
abbrev Fq:=Str×List Pr×List Int
def famD (f:Nat):List (Str×D):=[("codes_by_name",.cell (f + 1)),("marks_by_name",.cell (f + 2))]
def Wx (zs:List Fq):List (Key×D):=zs.map fun z=>(.inr z.1,.code z.2.1)
def Xm (zs:List Fq):List (Key×D):=zs.map fun z=>(.inr z.1,wD z.2.2)
structure FamAt (XF:Addr) (M:Mem) (f:Nat) (zs:List Fq):Prop where
 h0:M[f]?=some (.ins XF (famD f))
 h1:M[f + 1]?=some (.dct (Wx zs))
 h2:M[f + 2]?=some (.dct (Xm zs))
 nd:(zs.map (·.1)).Nodup
def Rq (M:Mem) (f:Nat) (zs:List Fq):Mem:=(M.set (f + 1) (.dct (Wx zs))).set (f + 2) (.dct (Xm zs))
theorem FamAt.pre {XF:Addr} {M N:Mem} {f:Nat} {zs:List Fq} (h:FamAt XF M f zs) (p:M<+:N):FamAt XF N f zs:=⟨Yz p h.h0,Yz p h.h1,Yz p h.h2,h.nd⟩
theorem FamAt.put {XF:Addr} {M:Mem} {f:Nat} {zs ys:List Fq} (h:FamAt XF M f zs) (nd:(ys.map (·.1)).Nodup):FamAt XF (Rq M f ys) f ys:=by
 have l1:=Vo h.h1
 have l2:=Vo h.h2
 unfold Rq
 refine ⟨Vk (Vk h.h0 (by omega)) (by omega),Vk (List.getElem?_set_self l1) (by omega),List.getElem?_set_self (by rw [List.length_set]; exact l2),nd⟩
theorem Zd4 {g:Fq->D} {zs:List Fq} {n:Str} (h:n∉zs.map (·.1)):valD (zs.map fun z=>((.inr z.1:Key),g z)) (.inr n)=none:=by
 unfold valD
 rw [Option.map_eq_none_iff,List.find?_eq_none]
 intro kv hkv e
 obtain ⟨z,hz,rfl⟩:=List.mem_map.mp hkv
 have:=of_decide_eq_true e
 exact h (List.mem_map.mpr ⟨z,hz,Sum.inr.inj this⟩)
theorem Qu {g:Fq->D}:∀ {zs:List Fq},(zs.map (·.1)).Nodup->∀ {z:Fq},z∈zs->valD (zs.map fun z=>((.inr z.1:Key),g z)) (.inr z.1)=some (g z)
 | [],_,_,h=>nomatch h
 | y::ys,nd,z,h=>by
  unfold valD
  rw [List.map_cons,List.find?_cons]
  rw [List.map_cons,List.nodup_cons] at nd
  by_cases e:y.1=z.1
  ·rcases List.mem_cons.mp h with w | w
   ·subst w
    simp
   ·exact absurd (List.mem_map.mpr ⟨z,w,e.symm⟩) nd.1
  ·have hz:z∈ys:=by
    rcases List.mem_cons.mp h with w | w
    ·exact absurd (by rw [w]) e
    ·exact w
   rw [show decide ((Sum.inr y.1:Key)=Sum.inr z.1)=false from decide_eq_false fun w=>e (Sum.inr.inj w)]
   exact Qu nd.2 hz
def Zju (XF:Addr):Sp3:=fun ds M K=>∃ f:Nat,ds=[.cell f]/\M[f]?=some (.ins XF [])/\M.length=f + 1/\K .non (M.set f (.ins XF (famD f))++[.dct [],.dct []])
def Zo6 (XF XT:Addr):Sp3X:=fun ds M K KX=>∃ (f:Nat) (n:Str) (S:List Pr) (mk:List Int) (zs:List Fq),ds=[.cell f,.str n,.code S,wD mk]/\FamAt XF M f zs/\zs.length<=100 /\
 (n∉zs.map (·.1)->K .non (Rq M f (zs++[(n,S,mk)])))/\(n∈zs.map (·.1)->KX XT [("name",.str n)] M)
def Zly (XF:Addr):Sp3:=fun ds M K=>∃ (f:Nat) (zs:List Fq),ds=[.cell f]/\FamAt XF M f zs/\K (.cell M.length) (M++[.lst ((zs.map (·.1)).map .str)])
def Zjv (XF XN:Addr):Sp3X:=fun ds M K KX=>∃ (f:Nat) (n:Str) (zs:List Fq),ds=[.cell f,.str n]/\FamAt XF M f zs/\(∀ z∈zs,z.1=n->K (.code z.2.1) M)/\(n∉zs.map (·.1)->KX XN [("name",.str n)] M)
def Zcu (XF XN:Addr):Sp3X:=fun ds M K KX=>∃ (f:Nat) (n:Str) (zs:List Fq),ds=[.cell f,.str n]/\FamAt XF M f zs/\(∀ z∈zs,z.1=n->K (wD z.2.2) M)/\(n∉zs.map (·.1)->KX XN [("name",.str n)] M)
def Zbu (zs:List Str):Prop:=(∀ z∈zs,z.length≠1)\/∀ z∈zs,z.length≠4
theorem Zk4 {zs:List Str} {n:Nat} (h:∀ z∈zs,n<=z.length + 1/\z.length<=n + 1):Zbu zs:=by
 by_cases hn:n<=2
 ·exact .inr fun z hz=>by have:=h z hz; omega
 ·exact .inl fun z hz=>by have:=h z hz; omega
def Zct:Sp3:=fun ds M K=>∃ (k n:Nat),ds=[.cell k,.int n]/\M[k]?=some .hand/\n<=8/\∀ zs:List Str,zs.Nodup->zs.length=n->(∀ z∈zs,z.length<=8/\PyData.strOk z=true)->Zbu zs->K (.cell M.length) (M++[.lst (zs.map .str)])
def Zgo:Sp3:=fun ds M K=>∃ (k:Nat) (bs:List Int) (ms:List (List Int)),ds=[.cell k,.lst (bs.map .int),.lst (ms.map wD)]/\M[k]?=some .hand/\(bs≠[]/\bs.length<=100/\ms.length<=100/\∀ m∈ms,m.length<=4/\∀ b∈m,b∈bs)/\∀ mk:List Int,mk.length<=4->(∀ b∈mk,b∈bs)->K (wD mk) M
def spD (q:Fq):D:=.tup [.str q.1,.lst (q.2.1.map pD),wD q.2.2]
structure SpOk (bs ss:List Int) (qs:List Fq):Prop where
 bnd:bs.Nodup
 b2:2<=bs.length
 b4:bs.length<=4
 br:∀ b∈bs,0<=b/\b < 256
 snd:ss.Nodup
 sl:ss.length=30
 nd:(qs.map (·.1)).Nodup
 ln:qs.length<=8
 nl:∀ q∈qs,q.1.length<=8/\PyData.strOk q.1=true
 fr:∀ q∈qs,Free q.2.1
 fi:∀ q∈qs,Fits q.2.1
 wb:∀ q∈qs,∀ p∈q.2.1,∀ b∈p.2,b∈bs
 ml:∀ q∈qs,q.2.2.length<=4
 mb:∀ q∈qs,∀ b∈q.2.2,b∈bs
 al:Zbu (qs.map (·.1))
 ll:∀ q∈qs,q.2.1.length<=28
def Zcs:Sp3:=fun ds M K=>∃ (ns:List Int) (m:Int),ds=[.frz (ns.map .int),.int m]/\(ns.length<=63/\0<=m/\m<=3)/\∀ (bs ss:List Int) (qs:List Fq) (c:Nat) (M':Mem),SpOk bs ss qs->M<+:M'->M.length<=c->M'[c]?=some (.lst (qs.map spD))->K (.tup [.lst (bs.map .int),.lst (ss.map .int),.cell c]) M'
abbrev OkS:={ z:Str // PyData.strOk z=true }
def encS:Enc OkS:=⟨fun z=>.str z.1,fun z=>.str z.1,0,fun _ _=>.str _,fun z=>⟨by simp only [PyData.canLay0]; exact z.2,by simp only [PyData.depth]; exact Nat.le_refl _⟩,fun a b=>by
 rw [PyData.eqv,Bool.beq_eq_decide_eq,decide_eq_decide]
 exact ⟨Subtype.ext,fun h=>by rw [h]⟩,by decide⟩
def nmS (cs:List Nat):Str:=⟨(cs.map fun c=>97 + c).toArray⟩
theorem Sv (cs:List Nat):(nmS cs).length=cs.length:=by
 show (cs.map fun c=>97 + c).toArray.size=_
 rw [List.size_toArray,List.length_map]
theorem Zn7 {a b:List Nat} (h:nmS a=nmS b):a=b:=by
 unfold nmS at h
 injection h with h
 have h:=congrArg Array.toList h
 simp only at h
 exact (List.map_inj_right (fun x y e=>Nat.add_left_cancel e)).mp h
theorem Zn6 {cs:List Nat} (h:∀ c∈cs,c < 26):PyData.strOk (nmS cs)=true:=by
 unfold PyData.strOk nmS
 rw [Array.all_eq_true']
 intro x hx
 have:x∈cs.map fun c=>97 + c:=by simpa using hx
 obtain ⟨c,hc,rfl⟩:=List.mem_map.mp this
 have:=h c hc
 exact decide_eq_true (by omega)
theorem Zqv {c:Nat} (h:c < 26):L2.atI (Str.ofString "abcdefghijklmnopqrstuvwxyz").cps.toList (c:Int)=some (97 + c):=by
 have:∀ c:_root_.Fin 26,L2.atI (Str.ofString "abcdefghijklmnopqrstuvwxyz").cps.toList ((c.val:Nat):Int)=some (97 + c.val):=by decide
 exact this ⟨c,h⟩
theorem Zk3 (cs:List Nat):Txt.join (Str.ofString "") (cs.map fun c=>(⟨#[97 + c]⟩:Str))=nmS cs:=by
 show Builtin.Str.glued (Str.ofString "") _=_
 rw [StrLaws.glued_eq_join]
 have:=PyProof.Rows.join_ones (cs.map fun c=>97 + c)
 rw [List.map_map] at this
 exact this
theorem Zos (n len:Nat):Builtin.Str.strSliceIndices none (some (n:Int)) 1 len=Builtin.Str.strSliceIndices (some ((0:Nat):Int)) (some (n:Int)) 1 len:=by
 unfold Builtin.Str.strSliceIndices
 have e1:max (0:Int) (min ((0:Nat):Int) (len:Int))=0:=by omega
 have h1:¬ (((0:Nat):Int) < 0):=by omega
 simp only [show ((1:Int) > 0)=True from by simp,if_true,h1,if_false,e1]
theorem Zn8 {cs:List Nat} {n:Nat} (h:n < cs.length):Txt.slice (nmS cs) none (some (n:Int))=nmS (cs.take n):=by
 unfold Txt.slice
 rw [Zos,StrLaws.sliced_plain (nmS cs) (Nat.zero_le n) (by rw [Sv]; omega),if_neg ?_]
 ·unfold nmS
  rw [List.drop_zero,Nat.sub_zero,List.map_take]
 ·rw [StrLaws.strSliceIndices_plain (Nat.zero_le n) (by rw [Sv]; omega),List.length_map,List.length_range,Sv]
  simp
  omega
theorem Zfp {τ:Type} {xs:List τ} (h:xs.Nodup) {x:τ} (hx:x∉xs) (i:Nat):(xs.set i x).Nodup:=by
 rw [List.nodup_iff_pairwise_ne,List.pairwise_iff_getElem] at h ⊢
 intro a b ha hb hab
 rw [List.length_set] at ha hb
 have:=h a b ha hb hab
 rw [List.getElem_set,List.getElem_set]
 split
 ·split
  ·omega
  ·exact fun e=>hx (e ▸ List.getElem_mem _)
 ·split
  ·exact fun e=>hx (e ▸ List.getElem_mem _)
  ·exact this
theorem Nv (z:Int) {n:Nat} (h:0 < n):∃ j:Nat,z % (n:Int)=(j:Int)/\j < n:=by
 obtain ⟨j,ej⟩:=Int.eq_ofNat_of_zero_le (Int.emod_nonneg z (by omega:(n:Int)≠0))
 have:=Int.emod_lt_of_pos z (by omega:(0:Int) < (n:Int))
 exact ⟨j,ej,by omega⟩
def Zo3 (XF:Addr):Sp3:=fun ds M K=>∃ (f:Nat) (n:Str) (zs:List Fq),ds=[.cell f,.str n]/\FamAt XF M f zs/\n∉zs.map (·.1)/\K (.bl true) M
def Pw (z q:Fq):Prop:=z.1=q.1/\z.2.2=q.2.2/\z.2.1.Perm q.2.1/\Px z.2.1
theorem Sw:∀ {zs:List Fq},(zs.map (·.1)).Nodup->∀ {z y:Fq},z∈zs->y∈zs->z.1=y.1->z=y
 | [],_,_,_,h,_,_=>nomatch h
 | x::xs,nd,z,y,hz,hy,e=>by
  rw [List.map_cons,List.nodup_cons] at nd
  rcases List.mem_cons.mp hz with a | a <;> rcases List.mem_cons.mp hy with b | b
  ·rw [a,b]
  ·exact absurd (List.mem_map.mpr ⟨y,b,by rw [<- e,a]⟩) nd.1
  ·exact absurd (List.mem_map.mpr ⟨z,a,by rw [e,b]⟩) nd.1
  ·exact Sw nd.2 a b e
theorem Ql {M N:Mem} {d:D} {xs:List D} (p:M<+:N) (h:lsOf M d=some xs):lsOf N d=some xs:=by
 cases d with
 | lst ys=>exact h
 | cell c =>
  simp only [lsOf] at h ⊢
  cases hm:M[c]? with
  | none=>rw [hm] at h; cases h
  | some m=>rw [Yz p hm]; rw [hm] at h; exact h
 | _=>cases h
theorem FamAt.set_ {XF:Addr} {M:Mem} {f c:Nat} {zs:List Fq} {m:MO} (h:FamAt XF M f zs) (d:c < f\/f + 2 < c):FamAt XF (M.set c m) f zs:=⟨Vk h.h0 (by omega),Vk h.h1 (by omega),Vk h.h2 (by omega),h.nd⟩
theorem Zlp {zs qs:List Fq} {i:Nat} (nd:(qs.map (·.1)).Nodup) (tz:∀ (i:Nat) (z q:Fq),zs[i]?=some z->qs[i]?=some q->Pw z q) (lz:zs.length=i) (hi:i < qs.length):qs[i].1∉zs.map (·.1):=fun h=>by
 obtain ⟨z,hz,e⟩:=List.mem_map.mp h
 obtain ⟨j,hj,rfl⟩:=List.getElem_of_mem hz
 have t:=(tz j _ _ (List.getElem?_eq_getElem hj) (List.getElem?_eq_getElem (by omega))).1
 have:=(List.getElem_inj (i:=j) (j:=i) (h₀:=by rw [List.length_map]; omega) (h₁:=by rw [List.length_map]; omega) nd).mp (by rw [List.getElem_map,List.getElem_map,<- t,e])
 omega
theorem Zmx {zs qs:List Fq} {i:Nat} {z:Fq} (tz:∀ (i:Nat) (z q:Fq),zs[i]?=some z->qs[i]?=some q->Pw z q) (lz:zs.length=i) (hi:i < qs.length) (h:Pw z qs[i]):∀ (j:Nat) (y q:Fq),(zs++[z])[j]?=some y->qs[j]?=some q->Pw y q:=fun j y q e1 e2=>by
 by_cases hj:j < zs.length
 ·rw [List.getElem?_append_left hj] at e1
  exact tz j y q e1 e2
 ·have:=(List.getElem?_eq_some_iff.mp e1).1
  rw [List.length_append,List.length_singleton] at this
  have:j=i:=by omega
  subst this
  rw [List.getElem?_append_right (by omega),lz,Nat.sub_self] at e1
  cases e1
  rw [List.getElem?_eq_getElem hi] at e2
  cases e2
  exact h
theorem Zn9 {zs:List Fq} {z:Fq} (nd:(zs.map (·.1)).Nodup) (h:z.1∉zs.map (·.1)):((zs++[z]).map (·.1)).Nodup:=by
 rw [List.map_append,List.nodup_append]
 refine ⟨nd,List.nodup_cons.mpr ⟨List.not_mem_nil,List.nodup_nil⟩,fun a ha b hb e=>?_⟩
 have e:a=z.1:=e.trans (List.mem_singleton.mp hb)
 exact h (e ▸ ha)
theorem Zh5 {zs qs:List Fq} {t:Nat} (tz:∀ (i:Nat) (z q:Fq),zs[i]?=some z->qs[i]?=some q->Pw z q) (lz:zs.length=t) (ht:t<=qs.length):zs.map (·.1)=(qs.map (·.1)).take t:=by
 apply List.ext_getElem?
 intro i
 by_cases hi:i < t
 ·rw [List.getElem?_take_of_lt hi,List.getElem?_map,List.getElem?_map,List.getElem?_eq_getElem (by omega:i < zs.length),List.getElem?_eq_getElem (by omega:i < qs.length)]
  show some zs[i].1=some qs[i].1
  rw [(tz i _ _ (List.getElem?_eq_getElem (by omega)) (List.getElem?_eq_getElem (by omega))).1]
 ·rw [List.getElem?_eq_none (by rw [List.length_map]; omega),List.getElem?_take_eq_none (by omega)]
theorem Zgb {M X:Mem} {k:Nat}:(M++X)[M.length + k]?=X[k]?:=by
 rw [List.getElem?_append_right (by omega)]
 congr 1
 omega
def Zmj (S:List Pr) (ns:List Int):Prop:=∀ R,Told S ns R->Zoe R=[]
noncomputable def fitB (S:List Pr) (ns:List Int):Bool:=@decide _ (Classical.propDecidable (Zmj S ns))
noncomputable def Zpr (zs:List Fq) (ns:List Int):List Str:=(zs.filter fun z=>fitB z.2.1 ns).map (·.1)
def Zg3 (M:Mem) (xs:List D):Prop:=∀ x∈xs,∃ ns:List Int,lsOf M x=some (ns.map .int)/\ns.length<=900
theorem Zg3.pre {M N:Mem} {xs:List D} (h:Zg3 M xs) (p:M<+:N):Zg3 N xs:=fun x hx=>by
 obtain ⟨ns,e,l⟩:=h x hx
 exact ⟨ns,Ql p e,l⟩
def X6 (zs qs:List Fq):Prop:=zs.length=qs.length/\∀ (i:Nat) (z q:Fq),zs[i]?=some z->qs[i]?=some q->Pw z q
theorem X6.free {zs qs:List Fq} (h:X6 zs qs) (ff:∀ q∈qs,Free q.2.1/\Fits q.2.1):∀ z∈zs,Free z.2.1/\Fits z.2.1:=fun z hz=>by
 obtain ⟨i,hi,rfl⟩:=List.getElem_of_mem hz
 have hq:i < qs.length:=by rw [<- h.1]; exact hi
 obtain ⟨_,_,pm,_⟩:=h.2 i _ _ (List.getElem?_eq_getElem hi) (List.getElem?_eq_getElem hq)
 have:=ff _ (List.getElem_mem hq)
 exact ⟨this.1.perm pm,this.2.perm pm⟩
theorem pick_at {bs:List Int} (h:bs≠[]) (y:Int):∃ b∈bs,L2.atI (bs.map D.int) (y % ((bs.map D.int).length:Int))=some (.int b):=by
 have h0:0 < bs.length:=List.length_pos_iff.mpr h
 obtain ⟨a,ea,ha⟩:=Nv y (n:=(bs.map D.int).length) (by rw [List.length_map]; exact h0)
 rw [List.length_map] at ha
 exact ⟨bs[a],List.getElem_mem ha,by rw [ea]; exact Ps (j:=a) rfl ha⟩
theorem Zod {M:Mem} {d:D} {xs:List D} {c:Nat} {m:MO} (h:lsOf M d=some xs) (ne:d≠.cell c):lsOf (M.set c m) d=some xs:=by
 cases d with
 | lst ys=>exact h
 | cell j =>
  have:j≠c:=fun e=>ne (by rw [e])
  simp only [lsOf] at h ⊢
  rw [List.getElem?_set_ne (Ne.symm this)]
  exact h
 | _=>cases h
section
variable {C:Cf} {Z:Anc} {te:TE} {ue:TE3}
theorem RepK.get {I:Hp} {α:List Addr}:∀ {vs:List (Key×V)} {ds:List (Key×D)},RepK C I α vs ds->vs.length=ds.length/\∀ (i:Nat) (kv:Key×V) (kd:Key×D),vs[i]?=some kv->ds[i]?=some kd->kv.1=kd.1/\Rep C I α kv.2 kd.2
 | _,_,.nil=>⟨rfl,fun i kv kd e=>nomatch e⟩
 | _,_,.cons h r=>by
  obtain ⟨a,b⟩:=RepK.get r
  refine ⟨by rw [List.length_cons,List.length_cons,a],fun i kv kd e1 e2=>?_⟩
  cases i with
  | zero=>cases e1; cases e2; exact ⟨rfl,h⟩
  | succ i=>exact b i kv kd (by simpa using e1) (by simpa using e2)
def iIt (k:Nat) (o:Obj) (vs:List (Key×V)) (kvs:List (Key×D)):It3:=⟨kvs.length,fun i x=>∃ kv,kvs[i]?=some kv/\x=.tup [kD kv.1,kv.2],fun M=>M[k]?=some (.dfK o vs kvs)⟩
def Zj2 (ue:TE3):TI3:=fun ρ M K=>ue ρ M fun d M1=>∃ k kvs,d=.cell k/\M1[k]?=some (.dct kvs)/\∀ o vs,K (iIt k o vs kvs) (M1.set k (.dfK o vs kvs))
theorem Zq2 {I:Hp} {α:List Addr} {k:Nat} {a:Addr} {o:Obj} {vs:List (Key×V)} {kvs:List (Key×D)} (ea:α[k]?=some a):ItR C Z I α (ItdI a o vs) (iIt k o vs kvs):=fun I' α' H' M' s p R ok=>by
 have m:=(R.cel k a _ (Zaz p ea) ok).1
 obtain ⟨ln,kg⟩:=RepK.get m.2
 refine ⟨fun i hi=>⟨⟨m.1,by rw [ln]; exact hi⟩,fun x H2 y=>?_⟩,⟨m.1,by rw [ln]; exact Nat.le_refl _⟩⟩
 obtain ⟨t,kv,rfl,ht,rfl,e1⟩:=y
 obtain ⟨R2,s2,e2⟩:=R.new (o:=.tup [kV kv.1,kv.2]) ht
 obtain ⟨g1,g2⟩:=kg i kv kvs[i] e1 (List.getElem?_eq_getElem hi)
 refine ⟨_,.tup [kD kvs[i].1,kvs[i].2],s2,R2,.tup e2 (.cons ?_ (.cons (g2.mono s2 (List.prefix_refl _)) .nil)),kvs[i],List.getElem?_eq_getElem hi,rfl⟩
 rw [g1]
 cases kvs[i].1 with
 | inl j=>exact .int j
 | inr z=>exact .str z
theorem Zkf (he:SimE C Z te ue):SimI C Z (Zjm te) (Zj2 ue):=fun I α σ H ρ M K R' R RE h kk =>
 he I α σ H ρ M _ _ R RE h fun v d I1 α1 H1 M1 s1 p1 R1 r1 h1=>by
  obtain ⟨k,kvs,rfl,e,h1⟩:=h1
  cases r1 with
  | @cell a _ ea =>
   obtain ⟨vs,e1,r⟩:=(R1.cel k a _ ea e).1
   exact ⟨a,vs,rfl,e1,fun o=>kk _ _ I1 α1 _ _ s1 p1 (R1.put (m:=.dfK o vs kvs) ea fun H' e'=>⟨e',r⟩) (Zq2 ea) (h1 o vs)⟩
theorem Zkc {t:TS} {u:TS3} (hs:SimS C Z t u):SimS C Z (Znp t) (fun E ρ M=>∃ k kvs0,M[k]?=some (.dct kvs0)/\u { E with nx:=fun ρ' M1=>∃ o vs kvs,M1[k]?=some (.dfK o vs kvs)/\E.nx ρ' (M1.set k (.dct kvs)) } ρ M):=fun I α σ H ρ M E D' R RE h F=>by
 obtain ⟨k,kvs0,e0,h⟩:=h
 obtain ⟨a,ea,ma,_⟩:=R.get e0
 obtain ⟨vs0,h0,_⟩:=ma
 refine ⟨a,vs0,h0,hs I α σ H ρ M _ _ R RE h ⟨fun I1 α1 σ1 H1 ρ1 M1 s1 p1 R1 RE1 h1=>?_,F.rt,F.bk,F.ct⟩⟩
 obtain ⟨o,vs,kvs,e1,h1⟩:=h1
 have ea1:=Zaz p1 ea
 obtain ⟨f1,f2⟩:=(R1.cel k a _ ea1 e1).1
 exact ⟨o,vs,f1,F.nx I1 α1 σ1 _ ρ1 _ s1 p1 (R1.put (m:=.dct kvs) ea1 fun H' e'=>⟨vs,e',f2⟩) RE1 h1⟩
end
section
variable {C:Cf} {Z:Anc} {ta tk:TA} {ua uk:TA3}
def Zpw (ua uk:TA3):TE3:=fun ρ M K=>ua ρ M fun ds M1=>uk ρ M1 fun es M2=>∃ (d:D) (ns:List Int) (n0:Int),ds=[d]/\es=[.int n0]/\lsOf M2 d=some (ns.map .int)/\K (.int ((mxOf none ns).getD n0)) M2
theorem Znj (ha:SimA C Z ta ua) (hk:SimA C Z tk uk):SimE C Z (Zj7 C.k ta tk) (Zpw ua uk):=fun I α σ H ρ M K Q R E h k =>
 ha I α σ H ρ M _ _ R E h fun vs ds I1 α1 H1 M1 s1 p1 R1 r1 h1 =>
  hk I1 α1 σ H1 ρ M1 _ _ R1 (E.mono s1 p1) h1 fun ws es I2 α2 H2 M2 s2 p2 R2 r2 h2=>by
   obtain ⟨d,ns,n0,rfl,rfl,el,h2⟩:=h2
   cases r1 with
   | cons a b =>
    cases b
    cases r2 with
    | cons c f =>
     cases f
     cases c
     obtain ⟨x,rfl,ex⟩:=Zjk R2 (a.mono s2 p2) el
     exact ⟨x,ns,n0,rfl,rfl,SqL.of ex,k _ _ I2 α2 H2 M2 (s1.trans s2) (p1.trans p2) R2 (.int _) h2⟩
end
theorem Zl4 {X:Cx} {K:W.Frag} {e d:Expr} {p pos kpos:Pos} {ta tk:TA} (hK:X.K=K) (hc:X.calm=true) (hg:Gl X "max") (hm:X.mg "max"=none) (ha:PA X [e] ta) (hk:PK X [⟨some "default",d,kpos⟩] tk) (he:starEach [e] X.env=[(false,eval e X.env)]:=by rfl) :
  PE X (.Call (.Name "max" p) [e] [⟨some "default",d,kpos⟩] pos) (Zj7 K ta tk):=by subst hK; exact Zkv hc hg hm ha hk he
def Tu (m ns:List Int):Bool:=decide (0 < m.length) && decide (ns.take m.length=m)
def Xi (zs:List Fq) (ns:List Int):List Fq:=zs.filter fun z=>Tu z.2.2 ns
def topF:List Fq->Nat
 | []=>0
 | z::r=>max z.2.2.length (topF r)
def Wh (zs:List Fq) (ns:List Int):List Str:=((Xi zs ns).filter fun z=>decide (z.2.2.length=topF (Xi zs ns))).map (·.1)
theorem Zfq:∀ (c:Nat) (zs:List Fq),mxOf (some (c:Int)) (zs.map fun z=>((z.2.2.length:Nat):Int))=some ((max c (topF zs):Nat):Int)
 | c,[]=>by show some _=some _; rw [show topF []=0 from rfl,Nat.max_zero]
 | c,z::r=>by
  rw [List.map_cons]
  unfold mxOf
  have:(if (c:Int) < ((z.2.2.length:Nat):Int) then ((z.2.2.length:Nat):Int) else (c:Int))=((max c z.2.2.length:Nat):Int):=by
   split <;> omega
  rw [this,Zfq,show topF (z::r)=max z.2.2.length (topF r) from rfl,Nat.max_assoc]
theorem Zoa (zs:List Fq):(mxOf none (zs.map fun z=>((z.2.2.length:Nat):Int))).getD 0=(topF zs:Int):=by
 cases zs with
 | nil=>rfl
 | cons z r =>
  rw [List.map_cons]
  show (mxOf (some _) _).getD 0=_
  rw [Zfq]
  rfl
theorem Zm2 {zs:List Fq} {z:Fq} (h:z∈zs):z.2.2.length<=topF zs:=by
 induction zs with
 | nil=>cases h
 | cons y r ih =>
  show _<=max y.2.2.length (topF r)
  rcases List.mem_cons.mp h with e | e
  ·rw [e]; omega
  ·have:=ih e
   omega
def Vd (zs qs:List Fq):Prop:=zs.map (fun z=>(z.1,z.2.2))=qs.map fun q=>(q.1,q.2.2)
theorem Vd.by {zs qs:List Fq} (h:Vd zs qs) (ns:List Int):Wh zs ns=Wh qs ns:=by
 have go:∀ {zs qs:List Fq},Vd zs qs->Vd (Xi zs ns) (Xi qs ns):=by
  intro zs
  induction zs with
  | nil=>intro qs h; cases qs with | nil=>rfl | cons _ _=>cases h
  | cons z zs ih =>
   intro qs h
   cases qs with
   | nil=>cases h
   | cons q qs =>
    unfold Vd at h ih ⊢
    rw [List.map_cons,List.map_cons] at h
    injection h with h1 h2
    injection h1 with e1 e2
    have:=ih h2
    unfold Xi at this ⊢
    rw [List.filter_cons,List.filter_cons,e2]
    split
    ·rw [List.map_cons,List.map_cons,this,e1,e2]
    ·exact this
 have tp:∀ {zs qs:List Fq},Vd zs qs->topF zs=topF qs:=by
  intro zs
  induction zs with
  | nil=>intro qs h; cases qs with | nil=>rfl | cons _ _=>cases h
  | cons z zs ih =>
   intro qs h
   cases qs with
   | nil=>cases h
   | cons q qs =>
    unfold Vd at h ih
    rw [List.map_cons,List.map_cons] at h
    injection h with h1 h2
    injection h1 with e1 e2
    show max _ _=max _ _
    rw [e2,ih h2]
 have nm:∀ (t:Nat) {zs qs:List Fq},Vd zs qs->(zs.filter fun z=>decide (z.2.2.length=t)).map (·.1)=(qs.filter fun z=>decide (z.2.2.length=t)).map (·.1):=by
  intro t zs
  induction zs with
  | nil=>intro qs h; cases qs with | nil=>rfl | cons _ _=>cases h
  | cons z zs ih =>
   intro qs h
   cases qs with
   | nil=>cases h
   | cons q qs =>
    unfold Vd at h ih
    rw [List.map_cons,List.map_cons] at h
    injection h with h1 h2
    injection h1 with e1 e2
    have:=ih h2
    rw [List.filter_cons,List.filter_cons,e2]
    split
    ·rw [List.map_cons,List.map_cons,this,e1]
    ·exact this
 unfold Wh
 rw [tp (go h)]
 exact nm _ (go h)
theorem X6.alike {zs qs:List Fq} (h:X6 zs qs):Vd zs qs:=by
 unfold Vd
 apply List.ext_getElem?
 intro i
 rw [List.getElem?_map,List.getElem?_map]
 by_cases hi:i < qs.length
 ·have hz:i < zs.length:=by rw [h.1]; exact hi
  obtain ⟨e1,e2,_⟩:=h.2 i _ _ (List.getElem?_eq_getElem hz) (List.getElem?_eq_getElem hi)
  rw [List.getElem?_eq_getElem hi,List.getElem?_eq_getElem hz]
  show some (_,_)=some (_,_)
  rw [e1,e2]
 ·rw [List.getElem?_eq_none (by omega:qs.length<=i),List.getElem?_eq_none (by have:=h.1; omega:zs.length<=i)]
def Zo5:Sp3:=fun ds M K=>∃ (m ns:List Int) (d:D),ds=[wD m,d]/\lsOf M d=some (ns.map .int)/\K (.bl (Tu m ns)) M
def Zgq (XF:Addr):Sp3:=fun ds M K=>∃ (f:Nat) (d:D) (zs:List Fq) (ns:List Int),ds=[.cell f,d]/\FamAt XF M f zs/\lsOf M d=some (ns.map .int)/\zs.length<=100/\∀ (M':Mem) (c:Nat),M<+:M'->M'[c]?=some (.lst ((Wh zs ns).map .str))->M.length<=c->K (.cell c) M'
def Zcv:Sp3:=fun ds M K=>∃ (d e:D) (qs:List Fq) (ns:List Int),ds=[d,e]/\lsOf M d=some (qs.map spD)/\lsOf M e=some (ns.map .int)/\qs.length<=8/\K (.lst ((Wh qs ns).map .str)) M
theorem Zhc {zs:List Fq} {z:Fq}:topF (zs++[z])=max (topF zs) z.2.2.length:=by
 induction zs with
 | nil=>show max _ 0=max 0 _; omega
 | cons y r ih =>
  show max _ (topF (r++[z]))=max (max _ _) _
  rw [ih,Nat.max_assoc]
theorem Zf8 {zs:List Fq} {z:Fq} {ns:List Int}:Xi (zs++[z]) ns=Xi zs ns++(if Tu z.2.2 ns then [z] else []):=by
 unfold Xi
 rw [List.filter_append,List.filter_cons,List.filter_nil]
theorem Zl2 {zs:List Fq} {ns:List Int} (h:topF (Xi zs ns)=0):Wh zs ns=[]:=by
 have:Xi zs ns=[]:=by
  cases hh:Xi zs ns with
  | nil=>rfl
  | cons z r =>
   have hz:z∈Xi zs ns:=by rw [hh]; exact List.mem_cons_self
   have l:=Zm2 hz
   have:=(List.mem_filter.mp hz).2
   unfold Tu at this
   rw [Bool.and_eq_true] at this
   have:=of_decide_eq_true this.1
   omega
 unfold Wh
 rw [this]
 rfl
theorem Zo9 {zs:List Fq} {ns:List Int} (h:0 < topF (Xi zs ns)):Wh zs ns=(zs.filter fun z=>decide (z.2.2.length=topF (Xi zs ns)) && decide (ns.take (topF (Xi zs ns))=z.2.2)).map (·.1):=by
 unfold Wh
 generalize topF (Xi zs ns)=t at h
 congr 1
 unfold Xi
 rw [List.filter_filter]
 refine List.filter_congr fun z _=>?_
 unfold Tu
 by_cases e:z.2.2.length=t
 ·rw [decide_eq_true e,Bool.true_and,Bool.true_and,decide_eq_true (by omega:0 < z.2.2.length),Bool.true_and,e]
 ·rw [decide_eq_false e,Bool.false_and,Bool.false_and]
theorem Xs.perm {S L U:List Pr} {ts:List Int} {i:Nat} (pm:S.Perm L) (h:Xs L U ts i):Xs S U ts i:=⟨fun p hp=>pm.mem_iff.mpr (h.1 p hp),h.2⟩
inductive Why where
 | name | sign (i:Nat)
def whyX (XN XS:Addr) (n:Str) (KX:X3) (M:Mem):Why->Prop
 | .name=>KX XN [("name",.str n)] M
 | .sign i=>KX XS [("at",.int i)] M
def Is47 (zs:List Fq) (n:Str) (ts:List Int):Why->Prop
 | .name=>n∉zs.map (·.1)
 | .sign i=>i < ts.length/\∃ (z:Fq) (U:List Pr),z∈zs/\z.1=n/\Free z.2.1/\Fits z.2.1/\z.2.2.length<=4/\Xs z.2.1 U ts i/\Wm z.2.1 ts i=true
def Po (XF XN XS:Addr):Sp3X:=fun ds M K KX=>∃ (f:Nat) (n:Str) (d:D) (zs:List Fq) (ts:List Int),ds=[.cell f,.str n,d]/\FamAt XF M f zs/\lsOf M d=some (ts.map .int)/\ts.length<=1000 /\
 ((∃ y,Is47 zs n ts y/\whyX XN XS n KX M y)\/∃ (z:Fq) (U:List Pr),z∈zs/\z.1=n/\z.2.2.length<=4/\Fits z.2.1/\Free z.2.1/\Xs z.2.1 U ts ts.length/\∀ (M':Mem) (c:Nat),M<+:M'->M'[c]?=some (.lst ((z.2.2++Wj U).map .int))->M.length<=c->K (.cell c) M')
def Zjt (XF XN:Addr):Sp3X:=fun ds M K KX=>∃ (f:Nat) (n:Str) (zs:List Fq),ds=[.cell f,.str n]/\FamAt XF M f zs/\n∉zs.map (·.1)/\KX XN [("name",.str n)] M
def Qq:Sp3:=fun ds M K=>∃ (L:List Pr) (d:D) (ts:List Int),ds=[.lst (L.map pD),d]/\lsOf M d=some (ts.map .int)/\(Fits L/\ts.length<=200)/\(∀ U:List Pr,Xs L U ts ts.length->K (.tup [.str (Str.ofString "row"),.lst ((Wj U).map .int)]) M) /\
 ∀ (i:Nat) (U:List Pr),i < ts.length->Xs L U ts i->Wm L ts i=true->K (.tup [.str (Str.ofString "lacks"),.int i]) M
section
variable {C:Cf} {Z:Anc} {to:TE} {uo:TE3} {t:TA} {u:TA3} {X:Cx} {K':W.Frag}
theorem Zip (h:X.K=K') (hu:X.A.units + 64 < cLine):MtR X "list.count" (Zav K'):=by subst h; exact Zfr hu
def Zj4 (uo:TE3) (u:TA3):TE3:=fun ρ M K=>uo ρ M fun d M1=>lsOf M1 d≠none/\u ρ M1 fun es M2=>∃ (xs:List D) (e:D) (ps:List PyData) (p:PyData),es=[e]/\Wq M2 d=some xs/\PyRs M2 xs ps/\PyR M2 e p/\PyData.canLayAll0 ps=true/\p.canLay0=true/\p.depth<=60/\K (.int ((ps.countP fun z=>PyData.eqv z p:Nat):Int)) M2
theorem Zhm (ho:SimE C Z to uo) (ha:SimA C Z t u):SimE C Z (tBM C.k "list" (Zav C.k) to t) (Zj4 uo u):=fun I α σ H ρ M K Q R E h k =>
 ho I α σ H ρ M _ _ R E h fun v d I1 α1 H1 M1 s1 p1 R1 r1 h1=>by
  obtain ⟨hn,h1⟩:=h1
  cases hl:lsOf M1 d with
  | none=>exact absurd hl hn
  | some zs =>
   obtain ⟨a,vs,rfl,ea,ra⟩:=Q6 R1 r1 hl
   refine ⟨Zd8 ea,ha I1 α1 σ H1 ρ M1 _ _ R1 (E.mono s1 p1) h1 fun ws ds I2 α2 H2 M2 s2 p2 R2 r2 h2=>?_⟩
   obtain ⟨xs,e,ps,p,rfl,el,hx,he,c1,c2,dd,h2⟩:=h2
   cases r2 with
   | cons ry rn =>
    cases rn
    obtain ⟨b,us,eb,eu,ru⟩:=Vz R2 (r1.mono s2 p2) el
    cases eb
    exact ⟨a,us,_,ps,p,rfl,rfl,eu,pys_dv R2 hx ru,Zdf R2 he ry,c1,c2,dd,k _ _ I2 α2 H2 M2 (s1.trans s2) (p1.trans p2) R2 (.int _) h2⟩
end
theorem Zhh {n:Nat} {ds:List PyData} (h:∀ d∈ds,Shp n d):PyData.canLayAll0 ds=true:=(Qx h).1
theorem Zo7 (ms:List (List Int)):PyData.canLayAll0 (ms.map (Xn Xd).py)=true:=Zhh (n:=(Xn Xd).n) fun d hd=>by
 obtain ⟨x,_,rfl⟩:=List.mem_map.mp hd
 exact (Xn Xd).shp x
theorem Zo8 (m:List Int):((Xn Xd).py m).depth<=60:=Nat.le_trans ((Xn Xd).shp m).2 (by decide)
theorem Zii (ms:List (List Int)) (m:List Int):(ms.map (Xn Xd).py).countP (fun z=>PyData.eqv z ((Xn Xd).py m))=ms.count m:=by
 rw [List.countP_map,List.count]
 refine List.countP_congr fun x _=>?_
 show PyData.eqv _ _=true↔_
 rw [(Xn Xd).eq,decide_eq_true_iff,beq_iff_eq]
theorem okV {zs:List Str} (h:∀ z∈zs,PyData.strOk z=true):∃ os:List OkS,os.map (·.1)=zs:=⟨zs.attach.map fun z=>⟨z.1,h z.1 z.2⟩,by rw [List.map_map]; exact List.attach_map_val (l:=zs) (f:=id) |>.trans (List.map_id zs)⟩
theorem Zcp {zs ws:List Str} {d d':D} {M:Mem} {K:Bool->Prop} (h1:Wq M d=some (zs.map .str)) (h2:Wq M d'=some (ws.map .str)) (k1:∀ z∈zs,PyData.strOk z=true) (k2:∀ z∈ws,PyData.strOk z=true) (h:K (decide (zs=ws))):eqV d d' M K:=by
 obtain ⟨os,rfl⟩:=okV k1
 obtain ⟨ps,rfl⟩:=okV k2
 rw [List.map_map] at h1 h2
 refine Rs encS (a:=os) (b:=ps) h1 h2 ?_
 have:decide (os=ps)=decide (os.map (·.1)=ps.map (·.1)):=by
  rw [decide_eq_decide]
  exact ⟨fun e=>by rw [e],fun e=>(List.map_inj_right fun x y=>Subtype.ext).mp e⟩
 rw [this]
 exact h
def misB (zs:List Fq) (n:Str) (row:List Int):Bool:=!decide (Wh zs row=[n])
theorem Zcy {zs:List Fq} {ns:List Int} {n:Str} (h:n∈Wh zs ns):∃ z∈zs,z.1=n/\Tu z.2.2 ns=true/\z.2.2.length=topF (Xi zs ns):=by
 unfold Wh at h
 obtain ⟨z,hz,e⟩:=List.mem_map.mp h
 obtain ⟨h1,h2⟩:=List.mem_filter.mp hz
 obtain ⟨h3,h4⟩:=List.mem_filter.mp h1
 exact ⟨z,h3,e,h4,of_decide_eq_true h2⟩
theorem Zcj {zs:List Fq} {z:Fq} {ns:List Int} (nd:(zs.map (·.1)).Nodup) (hz:z∈zs) (h:z.2.2=[]):misB zs z.1 ns=true:=by
 unfold misB
 rw [decide_eq_false]
 ·rfl
 intro e
 obtain ⟨y,hy,ey,hm,_⟩:=Zcy (zs:=zs) (ns:=ns) (n:=z.1) (by rw [e]; exact List.mem_singleton.mpr rfl)
 have:=Sw nd hy hz ey
 subst this
 unfold Tu at hm
 rw [h] at hm
 cases hm
theorem Zfs {zs:List Fq} {z y:Fq} {ns:List Int} (nd:(zs.map (·.1)).Nodup) (hz:z∈zs) (hy:y∈zs) (ne:y.1≠z.1) (h:y.2.2=z.2.2):misB zs z.1 ns=true:=by
 unfold misB
 rw [decide_eq_false]
 ·rfl
 intro e
 obtain ⟨x,hx,ex,hm,ht⟩:=Zcy (zs:=zs) (ns:=ns) (n:=z.1) (by rw [e]; exact List.mem_singleton.mpr rfl)
 have:=Sw nd hx hz ex
 subst this
 have:y.1∈Wh zs ns:=by
  unfold Wh
  refine List.mem_map.mpr ⟨y,List.mem_filter.mpr ⟨List.mem_filter.mpr ⟨hy,?_⟩,decide_eq_true ?_⟩,rfl⟩
  ·rw [h]; exact hm
  ·rw [h]; exact ht
 rw [e] at this
 exact ne (List.mem_singleton.mp this)
theorem Zmz {qs:List Fq} {m:List Int} (nd:(qs.map (·.1)).Nodup) (h:1 < (qs.map (·.2.2)).count m) (n:Str):∃ y∈qs,y.1≠n/\y.2.2=m:=by
 induction qs with
 | nil=>simp at h
 | cons q qs ih =>
  rw [List.map_cons,List.nodup_cons] at nd
  rw [List.map_cons,List.count_cons] at h
  by_cases e:q.2.2=m
  ·by_cases en:q.1=n
   ·have h0:0 < (qs.map (·.2.2)).count m:=by
     rw [if_pos (by rw [e]; exact beq_self_eq_true _)] at h
     omega
    have:=List.count_pos_iff.mp h0
    obtain ⟨y,hy,ey⟩:=List.mem_map.mp this
    exact ⟨y,List.mem_cons_of_mem _ hy,fun z=>nd.1 (List.mem_map.mpr ⟨y,hy,by rw [z,en]⟩),ey⟩
   ·exact ⟨q,List.mem_cons_self,en,e⟩
  ·rw [if_neg (by rw [beq_iff_eq]; exact e)] at h
   obtain ⟨y,hy,a,b⟩:=ih nd.2 (by omega)
   exact ⟨y,List.mem_cons_of_mem _ hy,a,b⟩
theorem Vd.mis {zs qs:List Fq} (h:Vd zs qs) (n:Str) (ns:List Int):misB zs n ns=misB qs n ns:=by unfold misB; rw [h.by]
def Zgn (XF XN:Addr):Sp3X:=fun ds M K KX=>∃ (f:Nat) (n:Str) (d:D) (zs:List Fq) (ts:List Int),ds=[.cell f,.str n,d]/\FamAt XF M f zs/\lsOf M d=some (ts.map .int)/\ts.length<=1000 /\
 ((n∉zs.map (·.1)/\KX XN [("name",.str n)] M)\/∃ (z:Fq) (U:List Pr),z∈zs/\z.1=n/\z.2.2.length<=4/\Fits z.2.1/\Free z.2.1/\Xs z.2.1 U ts ts.length/\zs.length<=100/\(∀ z∈zs,PyData.strOk z.1=true)/\∀ M':Mem,M<+:M'->K (.bl (misB zs n (z.2.2++Wj U))) M')
def TxOk (ss:List Int) (tss:List (List Int)):Prop:=∀ ts∈tss,ts.length<=200/\∀ t∈ts,t∈ss
def txD (ts:List Int):D:=.lst (ts.map .int)
def Pn:Sp3:=fun ds M K=>∃ (k a:Nat) (d:D) (qs:List Fq) (ha:a < qs.length),ds=[d,.int a,.cell k]/\M[k]?=some .hand/\lsOf M d=some (qs.map spD)/\(qs.length<=8/\∀ q∈qs,Fits q.2.1)/\∀ (M':Mem) (c:Nat) (tss:List (List Int)),M<+:M'->M.length<=c->M'[c]?=some (.lst (tss.map txD))->TxOk (Yc qs[a].2.1) tss->tss.length<=20->K (.cell c) M'
def Pp (XF:Addr):Sp3:=fun ds M K=>∃ (f a:Nat) (d:D) (ts:List Int) (qs zs:List Fq) (ha:a < qs.length),ds=[.cell f,d,.int a,txD ts]/\FamAt XF M f zs/\lsOf M d=some (qs.map spD)/\(X6 zs qs/\qs.length<=8/\(∀ q∈qs,Free q.2.1/\Fits q.2.1/\q.2.2.length<=4/\PyData.strOk q.1=true)/\ts.length<=200/\∀ t∈ts,t∈Yc qs[a].2.1)/\∀ M',M<+:M'->K (.bl true) M'
def Zgp (XF Pt:Addr) (pos:Pos) (qn:Str):Sp3:=fun ds M K=>∃ (k0 k:Nat) (d:D) (qs:List Fq),ds=[d,.cell k]/\M[k0]?=some (.tab Pt pos qn)/\M[k]?=some .hand/\lsOf M d=some (qs.map spD)/\((qs.map (·.1)).Nodup/\qs.length<=8/\∀ q∈qs,Free q.2.1/\Fits q.2.1/\q.2.2.length<=4/\PyData.strOk q.1=true) /\
 ∀ (M':Mem) (f:Nat) (zs:List Fq),M<+:M'->M.length<=f->FamAt XF M' f zs->X6 zs qs->K (.cell f) M'
theorem X6.mem {zs qs:List Fq} (h:X6 zs qs) {z:Fq} (hz:z∈zs):∃ q∈qs,Pw z q:=by
 obtain ⟨i,hi,rfl⟩:=List.getElem_of_mem hz
 have hq:i < qs.length:=by rw [<- h.1]; exact hi
 exact ⟨_,List.getElem_mem hq,h.2 i _ _ (List.getElem?_eq_getElem hi) (List.getElem?_eq_getElem hq)⟩
theorem X6.take {zs qs:List Fq} {i:Nat} (tz:∀ (i:Nat) (z q:Fq),zs[i]?=some z->qs[i]?=some q->Pw z q) (lz:zs.length=i) (hi:i<=qs.length):X6 zs (qs.take i):=by
 refine ⟨by rw [List.length_take]; omega,fun j z q e1 e2=>?_⟩
 have hj:=(List.getElem?_eq_some_iff.mp e1).1
 rw [List.getElem?_take_of_lt (by omega)] at e2
 exact tz j z q e1 e2
theorem Zj6 {L:List Pr} {ts:List Int} (h:∀ t∈ts,t∈Yc L):∃ U,Xs L U ts ts.length:=by
 refine Zog (Zof fun i hi z=>?_)
 obtain ⟨p,hp,e⟩:=List.mem_map.mp (h _ (List.getElem_mem hi))
 exact (V0 hi).mp z p hp e
end L3
namespace K45
open PySem L2
def top (i:Nat):Stmt:=PySem.Challenge.pw_skewread_k45_mistaken.main.body.getD i (.Pass ⟨0,0,0,0⟩)
abbrev s__law_draw:Stmt:=top 25
theorem sc__law_draw:FnScope ["_law_hand", "_law_many", "_law_got", "_law_cell", "_law_number"] ["_law_hand", "_law_many"] (Zi s__law_draw):=⟨rfl,rfl,rfl,by decide +kernel,rfl,by decide +kernel,by decide +kernel⟩
abbrev s__law_open:Stmt:=top 24
theorem sc__law_open:FnScope ["_law_script", "_law_place", "_law_cells", "_law_at", "_law_digits"] ["_law_script", "_law_place"] (Zi s__law_open):=⟨rfl,rfl,rfl,by decide +kernel,rfl,by decide +kernel,by decide +kernel⟩
abbrev s__law_bytes:Stmt:=top 26
theorem sc__law_bytes:FnScope ["_law_hand", "_law_most", "_law_begin", "_law_step"] ["_law_hand", "_law_most"] (Zi s__law_bytes):=⟨rfl,rfl,rfl,by decide +kernel,rfl,by decide +kernel,by decide +kernel⟩
abbrev s__law_words:Stmt:=top 27
theorem sc__law_words:FnScope ["_law_hand", "_law_some", "_law_most", "_law_longest", "_law_words_here", "_law_k", "_law_at"] ["_law_hand", "_law_some", "_law_most", "_law_longest"] (Zi s__law_words):=⟨rfl,rfl,rfl,by decide +kernel,rfl,by decide +kernel,by decide +kernel⟩
abbrev s__law_signs:Stmt:=top 28
theorem sc__law_signs:FnScope ["_law_hand", "_law_many", "_law_begin", "_law_step", "_law_signs_here", "_law_at"] ["_law_hand", "_law_many"] (Zi s__law_signs):=⟨rfl,rfl,rfl,by decide +kernel,rfl,by decide +kernel,by decide +kernel⟩
abbrev s__law_table:Stmt:=top 29
theorem sc__law_table:FnScope ["_law_hand", "_law_words_here", "_law_signs_here", "_law_at", "_law_spun", "_law_pairs"] ["_law_hand", "_law_words_here", "_law_signs_here"] (Zi s__law_table):=⟨rfl,rfl,rfl,by decide +kernel,rfl,by decide +kernel,by decide +kernel⟩
abbrev s__law_text:Stmt:=top 30
theorem sc__law_text:FnScope ["_law_hand", "_law_signs_here", "_law_most"] ["_law_hand", "_law_signs_here", "_law_most"] (Zi s__law_text):=⟨rfl,rfl,rfl,by decide +kernel,rfl,by decide +kernel,by decide +kernel⟩
abbrev Y5:Stmt:=top 19
theorem sc_odds_between:FnScope ["one", "other", "shared"] ["one", "other"] (Zi Y5):=⟨rfl,rfl,rfl,by decide +kernel,rfl,by decide +kernel,by decide +kernel⟩
abbrev To:Stmt:=top 18
theorem sc_fault:FnScope ["table", "second", "first", "odds"] ["table"] (Zi To):=⟨rfl,rfl,rfl,by decide +kernel,rfl,by decide +kernel,by decide +kernel⟩
abbrev Y4:Stmt:=top 20
theorem sc_refuse_fault:FnScope ["table", "found"] ["table"] (Zi Y4):=⟨rfl,rfl,rfl,by decide +kernel,rfl,by decide +kernel,by decide +kernel⟩
abbrev Xu:Stmt:=top 21
theorem sc_beginnings:FnScope ["words", "found", "word", "size"] ["words"] (Zi Xu):=⟨rfl,rfl,rfl,by decide +kernel,rfl,by decide +kernel,by decide +kernel⟩
abbrev Z0:Stmt:=X5 (top 22) 0
theorem sc_Code___init__:FnScope ["self", "table"] ["self", "table"] (Zi Z0):=⟨rfl,rfl,rfl,by decide +kernel,rfl,by decide +kernel,by decide +kernel⟩
abbrev X9:Stmt:=X5 (top 22) 3
theorem sc_Code_word:FnScope ["self", "sign"] ["self", "sign"] (Zi X9):=⟨rfl,rfl,rfl,by decide +kernel,rfl,by decide +kernel,by decide +kernel⟩
abbrev Yj:Stmt:=X5 (top 5) 0
theorem sc_NoSign___init__:FnScope ["self", "at"] ["self", "at"] (Zi Yj):=⟨rfl,rfl,rfl,by decide +kernel,rfl,by decide +kernel,by decide +kernel⟩
abbrev Yk:Stmt:=X5 (top 6) 0
theorem sc_NoName___init__:FnScope ["self", "name"] ["self", "name"] (Zi Yk):=⟨rfl,rfl,rfl,by decide +kernel,rfl,by decide +kernel,by decide +kernel⟩
abbrev Ys:Stmt:=X5 (top 7) 0
theorem sc_Taken___init__:FnScope ["self", "name"] ["self", "name"] (Zi Ys):=⟨rfl,rfl,rfl,by decide +kernel,rfl,by decide +kernel,by decide +kernel⟩
abbrev Tk:Stmt:=top 11
theorem sc_write:FnScope ["code", "text", "row", "place", "sign", "word"] ["code", "text"] (Zi Tk):=⟨rfl,rfl,rfl,by decide +kernel,rfl,by decide +kernel,by decide +kernel⟩
abbrev Xt:Stmt:=top 15
theorem sc_begins_row:FnScope ["mark", "row"] ["mark", "row"] (Zi Xt):=⟨rfl,rfl,rfl,by decide +kernel,rfl,by decide +kernel,by decide +kernel⟩
abbrev Ym:Stmt:=X5 (top 16) 0
theorem sc_Family___init__:FnScope ["self"] ["self"] (Zi Ym):=⟨rfl,rfl,rfl,by decide +kernel,rfl,by decide +kernel,by decide +kernel⟩
abbrev Xv:Stmt:=X5 (top 16) 1
theorem sc_Family_add:FnScope ["self", "name", "code", "mark"] ["self", "name", "code", "mark"] (Zi Xv):=⟨rfl,rfl,rfl,by decide +kernel,rfl,by decide +kernel,by decide +kernel⟩
abbrev Y6:Stmt:=X5 (top 16) 2
theorem sc_Family_names:FnScope ["self"] ["self"] (Zi Y6):=⟨rfl,rfl,rfl,by decide +kernel,rfl,by decide +kernel,by decide +kernel⟩
abbrev Xh:Stmt:=X5 (top 16) 3
theorem sc_Family_code:FnScope ["self", "name"] ["self", "name"] (Zi Xh):=⟨rfl,rfl,rfl,by decide +kernel,rfl,by decide +kernel,by decide +kernel⟩
abbrev Xg:Stmt:=X5 (top 16) 4
theorem sc_Family_mark:FnScope ["self", "name"] ["self", "name"] (Zi Xg):=⟨rfl,rfl,rfl,by decide +kernel,rfl,by decide +kernel,by decide +kernel⟩
abbrev Yw:Stmt:=X5 (top 16) 6
theorem sc_Family_marked:FnScope ["self", "name", "text"] ["self", "name", "text"] (Zi Yw):=⟨rfl,rfl,rfl,by decide +kernel,rfl,by decide +kernel,by decide +kernel⟩
abbrev Yt:Stmt:=X5 (top 16) 7
theorem sc_Family_by_mark:FnScope ["self", "row", "names", "longest"] ["self", "row"] (Zi Yt):=⟨rfl,rfl,rfl,by decide +kernel,rfl,by decide +kernel,by decide +kernel⟩
abbrev Yl:Stmt:=X5 (top 16) 9
theorem sc_Family_mistaken:FnScope ["self", "name", "text"] ["self", "name", "text"] (Zi Yl):=⟨rfl,rfl,rfl,by decide +kernel,rfl,by decide +kernel,by decide +kernel⟩
abbrev Yv:Stmt:=X5 (top 16) 10
theorem sc_Family_misled:FnScope ["self", "name", "own", "others", "rests", "texts"] ["self", "name"] (Zi Yv):=⟨rfl,rfl,rfl,by decide +kernel,rfl,by decide +kernel,by decide +kernel⟩
abbrev s__law_names:Stmt:=top 31
theorem sc__law_names:FnScope ["_law_hand", "_law_many", "_law_letters", "_law_base", "_law_at", "_law_longer", "_law_names_here", "_law_k", "_law_moved"] ["_law_hand", "_law_many"] (Zi s__law_names):=⟨rfl,rfl,rfl,by decide +kernel,rfl,by decide +kernel,by decide +kernel⟩
abbrev s__law_mark:Stmt:=top 32
theorem sc__law_mark:FnScope ["_law_hand", "_law_some", "_law_marks", "_law_way", "_law_mark_here", "_law_k"] ["_law_hand", "_law_some", "_law_marks"] (Zi s__law_mark):=⟨rfl,rfl,rfl,by decide +kernel,rfl,by decide +kernel,by decide +kernel⟩
abbrev s__law_specs:Stmt:=top 33
theorem sc__law_specs:FnScope ["_law_script", "_law_most", "_law_hand", "_law_some", "_law_signs_here", "_law_many", "_law_names_here", "_law_specs_here", "_law_k", "_law_wide", "_law_words_here", "_law_table_here"] ["_law_script", "_law_most"] (Zi s__law_specs):=⟨rfl,rfl,rfl,by decide +kernel,rfl,by decide +kernel,by decide +kernel⟩
abbrev s__law_written:Stmt:=top 35
theorem sc__law_written:FnScope ["_law_table_here", "_law_text_here", "_law_row", "_law_at", "_law_words_here"] ["_law_table_here", "_law_text_here"] (Zi s__law_written):=⟨rfl,rfl,rfl,by decide +kernel,rfl,by decide +kernel,by decide +kernel⟩
abbrev s__law_by_mark:Stmt:=top 34
theorem sc__law_by_mark:FnScope ["_law_specs_here", "_law_row", "_law_size", "_law_name", "_law_table_here", "_law_mark_here"] ["_law_specs_here", "_law_row"] (Zi s__law_by_mark):=⟨rfl,rfl,rfl,by decide +kernel,rfl,by decide +kernel,by decide +kernel⟩
abbrev s__law_texts:Stmt:=top 36
theorem sc__law_texts:FnScope ["_law_specs_here", "_law_at", "_law_hand", "_law_name", "_law_table_here", "_law_mark_here", "_law_signs_here", "_law_texts_here", "_law_other", "_law_other_table", "_law_longer", "_law_wanted", "_law_near"] ["_law_specs_here", "_law_at", "_law_hand"] (Zi s__law_texts):=⟨rfl,rfl,rfl,by decide +kernel,rfl,by decide +kernel,by decide +kernel⟩
abbrev s__law_asked:Stmt:=top 37
theorem sc__law_asked:FnScope ["_law_family", "_law_specs_here", "_law_at", "_law_text_here", "_law_name", "_law_table_here", "_law_mark_here", "_law_row", "_law_due", "_law_handed", "_law_found"] ["_law_family", "_law_specs_here", "_law_at", "_law_text_here"] (Zi s__law_asked):=⟨rfl,rfl,rfl,by decide +kernel,rfl,by decide +kernel,by decide +kernel⟩
abbrev s__law_not_yet:Stmt:=top 38
theorem sc__law_not_yet:FnScope ["_law_family", "_law_name", "_law_way"] ["_law_family", "_law_name"] (Zi s__law_not_yet):=⟨rfl,rfl,rfl,by decide +kernel,rfl,by decide +kernel,by decide +kernel⟩
abbrev s__law_growing:Stmt:=top 39
theorem sc__law_growing:FnScope ["_law_specs_here", "_law_hand", "_law_family", "_law_told", "_law_known", "_law_at", "_law_text_here"] ["_law_specs_here", "_law_hand"] (Zi s__law_growing):=⟨rfl,rfl,rfl,by decide +kernel,rfl,by decide +kernel,by decide +kernel⟩
abbrev Q1:Stmt:=top 40
theorem sc_law:FnScope ["_law_script", "_law_some", "_law_signs_here", "_law_specs_here", "_law_family", "_law_start", "_law_at", "_law_hand", "_law_texts_here", "_law_text_here"] ["_law_script"] (Zi Q1):=⟨rfl,rfl,rfl,by decide +kernel,rfl,by decide +kernel,by decide +kernel⟩
structure Txt (mg:Str->Option Value):Prop where
 b_len:mg "len"=none
 b_abs:mg "abs"=none
 b_max:mg "max"=none
 b_min:mg "min"=none
 b_isinstance:mg "isinstance"=none
 b_all:mg "all"=none
 b_any:mg "any"=none
 b_range:mg "range"=none
 b_int:mg "int"=none
 b_str:mg "str"=none
 b_bool:mg "bool"=none
 b_tuple:mg "tuple"=none
 b_list:mg "list"=none
 b_dict:mg "dict"=none
 b_sorted:mg "sorted"=none
 b_enumerate:mg "enumerate"=none
 b_ValueError:mg "ValueError"=none
section
variable {P:Program} {w:World} {K:W.Frag} {mg:Str->Option Value} {base:Heap}
theorem ok__law_draw (T:Txt mg) {f:Addr} {fd:FuncData} (F:Fun K "_law_draw" "_law_draw" s__law_draw f fd):FnOk P w K mg base CX0 1 f fd ["_law_hand", "_law_many"] Sg:=by
 refine F.ok sc__law_draw (fun vs H Q E h=>?_) (fun cdv A outer s H vs Q E hr h=>?_)
 ·obtain ⟨p,a,n,rfl,_⟩:=h
  rfl
 ·obtain ⟨p,a,n,rfl,hh,hn0,hn1,k⟩:=h
  obtain ⟨d,i,cs,e1,e2,hne,hlen,hd,hi,hc⟩:=hh.ex
  have npa:p≠a:=hh.ne
  have SC:=sc__law_draw
  have fin:∀ (r d' i':Int),0<=r->r < n->0<=d'->0<=i'->Q (.int r) (upd H p (.lst [.int d',.int i',.ref a])):=fun r d' i' h1 h2 h3 h4 =>
   k r _ h1 h2 ⟨d',i',cs,Zg,by rw [Zm npa.symm]; exact e2,hne,hlen,h3,h4,hc⟩ (fun b o e nb=>by rw [Zm nb]; exact e) fun b nb=>by rw [Zm nb]
  refine ⟨_,(Zf (Xk (Z2 Nt (Ye Xb (pv 0) Zj (fun _ _=>rfl)) Zj (Z6 _))
 (Zf (Zv (i:=2) SC.nd rfl (Or.inl rfl) (Zz Y9 (Ye Xb (pv 0) Zj (fun _ _=>rfl)) (pv 1)))
 (Zf (Qh (Zz Zfm (Ye Xb (pv 0) Zj (fun _ _=>rfl)) (pv 1)) (Zfa (pv 0) Zj T9))
 (Zn (Z5 (pv 2)))))
 Z7)
 (Zf (Zkr (pv 0) Zj Ze9 Zj Zoq T9)
 (Zf (Zv (i:=3) SC.nd rfl (Or.inl rfl) (Zz Y9 (Ye Xb (Ye Xb (pv 0) Zj (fun _ _=>rfl)) (Zz Y9 (Ye Xb (pv 0) Zj (fun _ _=>rfl)) (Zt Xp (by rfl) T.b_len PySem.boot_len (Za (Ye Xb (pv 0) Zj (fun _ _=>rfl)) Zd))) (fun _ _=>rfl)) Zj))
 (Zf (Zv (i:=4) SC.nd rfl (Or.inl rfl) (Zz Y9 (Zz Wp (Zz Wp (Zz Vx (pv 3) Zj) (Zz Vx (Ye Xb (pv 0) Zj (fun _ _=>rfl)) Zj)) Zj) Zj))
 (Zf (Zv (i:=4) SC.nd rfl (Or.inl rfl) (Zz Y9 (Zz Wp (Zz Vx (pv 4) (pv 4)) (Ye Xb (pv 0) Zj (fun _ _=>rfl))) Zj))
 (Zf (Zv (i:=4) SC.nd rfl (Or.inl rfl) (Zz Y9 (Zz Wp (Zz Vx (pv 4) Zj) Zj) Zj))
 (Zn (Z5 (Zz Y9 (Zz Zfm (Zz Y9 (Zz Vx (pv 4) (pv 4)) Zj) Zj) (pv 1)))))))))),?_⟩
  refine ⟨_,rfl,p,_,_,_,rfl,rfl,SqL.of e1,rfl,_,_,rfl,rfl,_,rfl,?_⟩
  refine ite2 (fun h0=>?_) (fun h0=>?_)
  ·refine ⟨_,rfl,p,_,_,_,rfl,rfl,SqL.of e1,rfl,_,rfl,_,_,rfl,rfl,hn0,?_⟩
   refine ⟨_,rfl,p,_,_,_,rfl,rfl,SqL.of e1,rfl,_,rfl,_,_,rfl,rfl,⟨hn0,hn1⟩,_,rfl,p,_,_,0,rfl,rfl,e1,rfl,?_⟩
   refine ⟨_,rfl,?_⟩
   exact fin _ _ _ (Int.emod_nonneg _ (by omega)) (Int.emod_lt_of_pos _ hn0) (Int.ediv_nonneg hd (by omega)) hi
  ·have e1':(upd H p (.lst [.int d,.int (i + 1),.ref a])) p=some (.lst [.int d,.int (i + 1),.ref a]):=Zg
   have e2':(upd H p (.lst [.int d,.int (i + 1),.ref a])) a=some (.lst (cs.map V.int)):=by rw [Zm npa.symm]; exact e2
   obtain ⟨c,hc1,hc2⟩:=Pq hne (i + 1)
   have hlp:(0:Int) < (((cs.map V.int).length:Nat):Int):=by
    rw [List.length_map]
    have:=List.length_pos_iff.mpr hne
    omega
   refine ⟨_,rfl,p,_,1,_,rfl,rfl,SqL.of e1,rfl,_,_,rfl,rfl,p,_,_,1,rfl,rfl,e1,rfl,?_⟩
   refine ⟨_,rfl,p,_,_,_,rfl,rfl,SqL.of e1',rfl,_,rfl,p,_,_,_,rfl,rfl,SqL.of e1',rfl,_,rfl,p,_,_,_,rfl,rfl,SqL.of e1',rfl,_,_,rfl,.inl ⟨_,SqL.of e2',rfl⟩,_,_,rfl,rfl,hlp,
    a,_,_,_,rfl,rfl,SqL.of e2',hc2,_,_,rfl,rfl,(by show (0:Int) < _; decide),?_⟩
   refine ⟨_,rfl,_,_,rfl,rfl,.inr ⟨by decide,by decide⟩,_,rfl,p,_,_,_,rfl,rfl,SqL.of e1',rfl,_,_,rfl,rfl,.inr ⟨by decide,by decide⟩,_,_,rfl,rfl,_,_,rfl,rfl,_,_,rfl,rfl,(by show (0:Int) < _; decide),?_⟩
   generalize hx:(c % 2147483647 * 48271 + (i + 1) * 7368787 + 11) % 998244353=x
   have x0:0<=x:=by rw [<- hx]; exact Int.emod_nonneg _ (by decide)
   have x1:x < 998244353:=by rw [<- hx]; exact Int.emod_lt_of_pos _ (by decide)
   refine ⟨_,rfl,_,rfl,_,_,rfl,rfl,.inl ⟨by omega,by omega⟩,_,rfl,p,_,_,_,rfl,rfl,SqL.of e1',rfl,_,_,rfl,rfl,_,_,rfl,rfl,(by show (0:Int) < _; decide),?_⟩
   generalize hy:(x * x + (i + 1)) % 998244353=y
   refine ⟨_,rfl,_,_,rfl,rfl,.inr ⟨by decide,by decide⟩,_,_,rfl,rfl,_,_,rfl,rfl,(by show (0:Int) < _; decide),?_⟩
   generalize hz:(y * 40503203 + 12345) % 2147483647=z
   have z0:0<=z:=by rw [<- hz]; exact Int.emod_nonneg _ (by decide)
   have z1:z < 2147483647:=by rw [<- hz]; exact Int.emod_lt_of_pos _ (by decide)
   refine ⟨_,rfl,_,rfl,_,_,rfl,rfl,.inl ⟨by omega,by omega⟩,_,_,rfl,rfl,(by show (0:Int) < _; decide),_,_,rfl,rfl,⟨by decide,by decide⟩,_,rfl,_,_,rfl,rfl,hn0,?_⟩
   exact fin _ _ _ (Int.emod_nonneg _ (by omega)) (Int.emod_lt_of_pos _ hn0) hd (by show 0<=i + 1; omega)
theorem ok__law_open (T:Txt mg) {f:Addr} {fd:FuncData} (F:Fun K "_law_open" "_law_open" s__law_open f fd):FnOk P w K mg base CX0 1 f fd ["_law_script", "_law_place"] (Zi2 K):=by
 refine F.ok sc__law_open (fun vs H Q E h=>?_) (fun cdv A outer s H vs Q E hr h=>?_)
 ·obtain ⟨s,ns,i,rfl,_⟩:=h
  rfl
 ·obtain ⟨s0,ns,i,rfl,hS,hlen,hi0,hi1,k⟩:=h
  have SC:=sc__law_open
  have hu:=hr.units
  refine ⟨_,(Zf (Vv (i:=2) SC.nd rfl rfl (T:=["_law_cell"]) (cs:=[]) rfl (CScope.ok (by kernel_rfl)) (Y0 (Z9 Wy (pv 0) Yq (Yf Zj))) (fun _ _ _ _=>(Zr (i:=0) (Xl (by kernel_rfl)) rfl (Or.inl rfl) (Or.inr rfl))) (fun _ _ _ _=>Y7) (fun _ _ _ _=>(Zt Zin (by rfl) T.b_abs PyProof.Rows.boot_abs (Za (pv 0) Zd))) (Xr (by decide)))
 (Zf (Xk (Z2 (Zcg hu) (pv 2) (Y8 Zd) (Z6 _))
 (Zn (Zv (i:=2) SC.nd rfl (Or.inl rfl) (Y8 (Za Zj Zd))))
 Z7)
 (Zf (Zv (i:=3) SC.nd rfl (Or.inl rfl) (Zz Y9 (pv 1) (Zt Xp (by rfl) T.b_len PySem.boot_len (Za (pv 2) Zd))))
 (Zf (Zv (i:=4) SC.nd rfl (Or.inl rfl) Zj)
 (Zf (Xk (PW.pt (Sm (Z2 Zqu (Ye Xb (pv 2) (pv 3) (fun _ _=>rfl)) (Zz Zfl Zj Zj) (Z6 _)) (Tq (Z2 Zh1 (pv 1) (Zt Xp (by rfl) T.b_len PySem.boot_len (Za (pv 2) Zd)) (Z6 _)))))
 (Zn (Zv (i:=4) SC.nd rfl (Or.inl rfl) (Ye Xb (pv 2) (pv 3) (fun _ _=>rfl))))
 Z7)
 (Zn (Z5 (Y8 (Za (pv 4) (Za (Zz Wp Zj (Zz Vx Zj (pv 1))) (Za (Zz Qi (Z9 Wy (pv 2) (Yf (pv 3)) Yq) (Z9 Wy (pv 2) Yq (Yf (pv 3)))) Zd))))))))))),?_⟩
  obtain ⟨ms,ems,lms,_⟩:=Zij ns none (some 63)
  refine ⟨_,rfl,_,rfl,s0,_,rfl,hS,fun q hq=>⟨q,rfl,⟨_,SqL.of Zg⟩,Wr (n:=ms.length) (fun j ys H'=>∃ as:List Int,ys=as.map V.int/\as.length=j/\(∀ c∈as,0<=c)/\H'=upd H q (.lst (cutV (ns.map V.int) none (some 63))))
   ⟨[],rfl,rfl,fun _ h=>(nomatch h),rfl⟩ ?_ (Zo (by omega)) ?_ ?_ ?_ ?_⟩⟩
  ·rintro j ys H' ⟨as,rfl,rfl,_⟩
   rw [List.length_map]
   exact Nat.le_refl _
  ·rintro j ys H' hj ⟨as,rfl,rfl,_,rfl⟩
   refine ⟨_,.int (ms[as.length]'hj),SqL.of Zg,?_⟩
   rw [ems,List.getElem?_map,List.getElem?_eq_getElem hj]
   rfl
  ·rintro ys H' ⟨as,rfl,hl,_,rfl⟩
   exact ⟨_,SqL.of Zg,by rw [ems,List.length_map]; exact Nat.le_refl _⟩
  ·rintro j ys H' hj ⟨as,rfl,rfl,hp,rfl⟩ x H2 ⟨rfl,y⟩
   have hx:=y _ (SqL.of Zg)
   rw [ems,List.getElem?_map,List.getElem?_eq_getElem hj] at hx
   cases hx
   refine ⟨_,rfl,_,rfl,as++[_],by rw [List.map_append]; rfl,by rw [List.length_append]; rfl,fun c hc=>?_,rfl⟩
   rcases List.mem_append.mp hc with z | z
   ·exact hp c z
   ·rw [List.mem_singleton.mp z]
    split <;> omega
  ·rintro ys H' ⟨as,rfl,hl,hp,rfl⟩ c0 hc0
   have s1:Same H (upd H q (.lst (cutV (ns.map V.int) none (some 63)))):=Zb hq
   generalize upd H q (.lst (cutV (ns.map V.int) none (some 63)))=H1 at hc0 s1
   have s2:Same H (upd H1 c0 (.lst (as.map V.int))):=s1.trans (Zb hc0)
   have n0:H c0=none:=s1.free hc0
   have e0:(upd H1 c0 (.lst (as.map V.int))) c0=some (.lst (as.map V.int)):=Zg
   generalize upd H1 c0 (.lst (as.map V.int))=H2 at s2 e0
   have hla:as.length<=63:=by omega
   refine ⟨_,rfl,Nat.zero_le _,fun l hl=>⟨_,_,DV.lst (SqL.of ((Zb hl) _ _ e0)) (Te as),DV.lst (SqL.of Zg) .nil,(T8 as).shaped (by decide),(T8 []).shaped (by decide),_,rfl,?_⟩⟩
   rw [Zls]
   have s3:Same H (upd H2 l (.lst [])):=s2.trans (Zb hl)
   have e1:(upd H2 l (.lst [])) c0=some (.lst (as.map V.int)):=(Zb hl) _ _ e0
   generalize upd H2 l (.lst [])=H3 at s3 e1
   refine ite2 (fun h0=>?_) (fun h0=>?_)
   ·refine ⟨by show 1<=sizeLine; decide,fun c1 hc1=>?_⟩
    have W:HC H (upd H3 c1 (.lst [.int 0])) c1:=⟨[0],s3.trans (Zb hc1),s3.free hc1,Zg,by simp,by decide,by simp⟩
    revert W
    generalize upd H3 c1 (.lst [.int 0])=H4
    intro W
    obtain ⟨as4,s4,n4,e4,hne,hl4,hp4⟩:=W
    obtain ⟨c,hc1,hc2⟩:=Pq hne i
    obtain ⟨cs,ecs,ncs,lcs,mcs⟩:=spun hne i
    have hlp:(0:Int) < (((as4.map V.int).length:Nat):Int):=by
     rw [List.length_map]
     have:=List.length_pos_iff.mpr hne
     omega
    refine ⟨_,rfl,_,rfl,_,_,rfl,.inl ⟨_,SqL.of e4,rfl⟩,_,_,rfl,rfl,hlp,?_⟩
    refine ⟨_,rfl,_,rfl,_,_,_,_,rfl,rfl,SqL.of e4,hc2,_,_,rfl,rfl,⟨by decide,by decide,by decide⟩,_,_,rfl,rfl,_,rfl,?_⟩
    refine ite2 (fun _=>?_) (fun _=>?_)
    ·refine ⟨_,rfl,_,rfl,_,_,rfl,.inl ⟨_,SqL.of e4,rfl⟩,_,_,rfl,rfl,_,rfl,?_⟩
     refine ite2 (fun _=>?_) (fun _=>?_)
     ·refine ⟨_,rfl,_,rfl,_,_,_,_,rfl,rfl,SqL.of e4,hc2,?_⟩
      exact ⟨_,rfl,_,rfl,_,_,rfl,rfl,.inl ⟨by decide,by decide⟩,_,_,rfl,rfl,_,rfl,_,rfl,_,rfl,_,_,rfl,SqL.of e4,fun l1 hl1=>⟨_,rfl,_,rfl,_,rfl,_,_,rfl,SqL.of ((Zb hl1) _ _ e4),fun l2 hl2 =>
       ⟨l1,l2,_,_,rfl,rfl,(Zb hl2) _ _ Zg,Zg,by rw [<- List.length_append,ecs,List.length_map]; exact Zo (by omega),fun l3 hl3=>⟨by show 3<=sizeLine; decide,fun p hp =>
        k p l3 _ (s4.free ((Zb hl1).free ((Zb hl2).free ((Zb hl3).free hp)))) (s4.free ((Zb hl1).free ((Zb hl2).free hl3)))
         ⟨_,_,cs,Zg,by rw [<- ecs]; exact (Zb hp) _ _ Zg,ncs,by omega,by first | exact hp4 _ hc1 | decide,by omega,fun x hx=>hp4 x (mcs x hx)⟩
         (((s4.trans (Zb hl1)).trans (Zb hl2)).trans ((Zb hl3).trans (Zb hp)))⟩⟩⟩⟩
     ·exact ⟨_,rfl,_,rfl,_,_,rfl,rfl,.inl ⟨by decide,by decide⟩,_,_,rfl,rfl,_,rfl,_,rfl,_,rfl,_,_,rfl,SqL.of e4,fun l1 hl1=>⟨_,rfl,_,rfl,_,rfl,_,_,rfl,SqL.of ((Zb hl1) _ _ e4),fun l2 hl2 =>
       ⟨l1,l2,_,_,rfl,rfl,(Zb hl2) _ _ Zg,Zg,by rw [<- List.length_append,ecs,List.length_map]; exact Zo (by omega),fun l3 hl3=>⟨by show 3<=sizeLine; decide,fun p hp =>
        k p l3 _ (s4.free ((Zb hl1).free ((Zb hl2).free ((Zb hl3).free hp)))) (s4.free ((Zb hl1).free ((Zb hl2).free hl3)))
         ⟨_,_,cs,Zg,by rw [<- ecs]; exact (Zb hp) _ _ Zg,ncs,by omega,by first | exact hp4 _ hc1 | decide,by omega,fun x hx=>hp4 x (mcs x hx)⟩
         (((s4.trans (Zb hl1)).trans (Zb hl2)).trans ((Zb hl3).trans (Zb hp)))⟩⟩⟩⟩
    ·refine iteF ?_
     exact ⟨_,rfl,_,rfl,_,_,rfl,rfl,.inl ⟨by decide,by decide⟩,_,_,rfl,rfl,_,rfl,_,rfl,_,rfl,_,_,rfl,SqL.of e4,fun l1 hl1=>⟨_,rfl,_,rfl,_,rfl,_,_,rfl,SqL.of ((Zb hl1) _ _ e4),fun l2 hl2 =>
       ⟨l1,l2,_,_,rfl,rfl,(Zb hl2) _ _ Zg,Zg,by rw [<- List.length_append,ecs,List.length_map]; exact Zo (by omega),fun l3 hl3=>⟨by show 3<=sizeLine; decide,fun p hp =>
        k p l3 _ (s4.free ((Zb hl1).free ((Zb hl2).free ((Zb hl3).free hp)))) (s4.free ((Zb hl1).free ((Zb hl2).free hl3)))
         ⟨_,_,cs,Zg,by rw [<- ecs]; exact (Zb hp) _ _ Zg,ncs,by omega,by first | exact hp4 _ hc1 | decide,by omega,fun x hx=>hp4 x (mcs x hx)⟩
         (((s4.trans (Zb hl1)).trans (Zb hl2)).trans ((Zb hl3).trans (Zb hp)))⟩⟩⟩⟩
   ·have W:HC H H3 c0:=⟨as,s3,n0,e1,by simpa using h0,hla,hp⟩
    obtain ⟨as4,s4,n4,e4,hne,hl4,hp4⟩:=W
    obtain ⟨c,hc1,hc2⟩:=Pq hne i
    obtain ⟨cs,ecs,ncs,lcs,mcs⟩:=spun hne i
    have hlp:(0:Int) < (((as4.map V.int).length:Nat):Int):=by
     rw [List.length_map]
     have:=List.length_pos_iff.mpr hne
     omega
    refine ⟨_,rfl,_,rfl,_,_,rfl,.inl ⟨_,SqL.of e4,rfl⟩,_,_,rfl,rfl,hlp,?_⟩
    refine ⟨_,rfl,_,rfl,_,_,_,_,rfl,rfl,SqL.of e4,hc2,_,_,rfl,rfl,⟨by decide,by decide,by decide⟩,_,_,rfl,rfl,_,rfl,?_⟩
    refine ite2 (fun _=>?_) (fun _=>?_)
    ·refine ⟨_,rfl,_,rfl,_,_,rfl,.inl ⟨_,SqL.of e4,rfl⟩,_,_,rfl,rfl,_,rfl,?_⟩
     refine ite2 (fun _=>?_) (fun _=>?_)
     ·refine ⟨_,rfl,_,rfl,_,_,_,_,rfl,rfl,SqL.of e4,hc2,?_⟩
      exact ⟨_,rfl,_,rfl,_,_,rfl,rfl,.inl ⟨by decide,by decide⟩,_,_,rfl,rfl,_,rfl,_,rfl,_,rfl,_,_,rfl,SqL.of e4,fun l1 hl1=>⟨_,rfl,_,rfl,_,rfl,_,_,rfl,SqL.of ((Zb hl1) _ _ e4),fun l2 hl2 =>
       ⟨l1,l2,_,_,rfl,rfl,(Zb hl2) _ _ Zg,Zg,by rw [<- List.length_append,ecs,List.length_map]; exact Zo (by omega),fun l3 hl3=>⟨by show 3<=sizeLine; decide,fun p hp =>
        k p l3 _ (s4.free ((Zb hl1).free ((Zb hl2).free ((Zb hl3).free hp)))) (s4.free ((Zb hl1).free ((Zb hl2).free hl3)))
         ⟨_,_,cs,Zg,by rw [<- ecs]; exact (Zb hp) _ _ Zg,ncs,by omega,by first | exact hp4 _ hc1 | decide,by omega,fun x hx=>hp4 x (mcs x hx)⟩
         (((s4.trans (Zb hl1)).trans (Zb hl2)).trans ((Zb hl3).trans (Zb hp)))⟩⟩⟩⟩
     ·exact ⟨_,rfl,_,rfl,_,_,rfl,rfl,.inl ⟨by decide,by decide⟩,_,_,rfl,rfl,_,rfl,_,rfl,_,rfl,_,_,rfl,SqL.of e4,fun l1 hl1=>⟨_,rfl,_,rfl,_,rfl,_,_,rfl,SqL.of ((Zb hl1) _ _ e4),fun l2 hl2 =>
       ⟨l1,l2,_,_,rfl,rfl,(Zb hl2) _ _ Zg,Zg,by rw [<- List.length_append,ecs,List.length_map]; exact Zo (by omega),fun l3 hl3=>⟨by show 3<=sizeLine; decide,fun p hp =>
        k p l3 _ (s4.free ((Zb hl1).free ((Zb hl2).free ((Zb hl3).free hp)))) (s4.free ((Zb hl1).free ((Zb hl2).free hl3)))
         ⟨_,_,cs,Zg,by rw [<- ecs]; exact (Zb hp) _ _ Zg,ncs,by omega,by first | exact hp4 _ hc1 | decide,by omega,fun x hx=>hp4 x (mcs x hx)⟩
         (((s4.trans (Zb hl1)).trans (Zb hl2)).trans ((Zb hl3).trans (Zb hp)))⟩⟩⟩⟩
    ·refine iteF ?_
     exact ⟨_,rfl,_,rfl,_,_,rfl,rfl,.inl ⟨by decide,by decide⟩,_,_,rfl,rfl,_,rfl,_,rfl,_,rfl,_,_,rfl,SqL.of e4,fun l1 hl1=>⟨_,rfl,_,rfl,_,rfl,_,_,rfl,SqL.of ((Zb hl1) _ _ e4),fun l2 hl2 =>
       ⟨l1,l2,_,_,rfl,rfl,(Zb hl2) _ _ Zg,Zg,by rw [<- List.length_append,ecs,List.length_map]; exact Zo (by omega),fun l3 hl3=>⟨by show 3<=sizeLine; decide,fun p hp =>
        k p l3 _ (s4.free ((Zb hl1).free ((Zb hl2).free ((Zb hl3).free hp)))) (s4.free ((Zb hl1).free ((Zb hl2).free hl3)))
         ⟨_,_,cs,Zg,by rw [<- ecs]; exact (Zb hp) _ _ Zg,ncs,by omega,by first | exact hp4 _ hc1 | decide,by omega,fun x hx=>hp4 x (mcs x hx)⟩
         (((s4.trans (Zb hl1)).trans (Zb hl2)).trans ((Zb hl3).trans (Zb hp)))⟩⟩⟩⟩
theorem ok__law_bytes (T:Txt mg) (Zk:Cal P w K mg base "_law_draw" 1 ["_law_hand", "_law_many"] Sg) {f:Addr} {fd:FuncData} (F:Fun K "_law_bytes" "_law_bytes" s__law_bytes f fd):FnOk P w K mg base CX0 2 f fd ["_law_hand", "_law_most"] Zeo:=by
 refine F.ok sc__law_bytes (fun vs H Q E h=>?_) (fun cdv A outer s H vs Q E hr h=>?_)
 ·obtain ⟨p,a,m,rfl,_⟩:=h
  rfl
 ·obtain ⟨p,a,m,rfl,hh,hm1,hm2,k⟩:=h
  have SC:=sc__law_bytes
  have Zl:Room 1 _:=hr.mono (by decide)
  refine ⟨_,(Zf (Zv (i:=2) SC.nd rfl (Or.inr rfl) (Zw Zk Zl rfl (Za (pv 0) (Za Zj Zd))))
 (Zf (Zv (i:=3) SC.nd rfl (Or.inr rfl) (Zz Wp Zj (Zw Zk Zl rfl (Za (pv 0) (Za Zj Zd)))))
 (Zn (Z5 (Xq (T:=["_law_k"]) (cs:=[2,3]) rfl (CScope.ok (by kernel_rfl)) (Yh rfl T.b_range (Za (Zz Wp Zj (Zw Zk Zl rfl (Za (pv 0) (Za (Zz Zfk (pv 1) Zj) Zd)))) Zd)) (fun _ _ _ _=>(Zr (i:=0) (Xl (by kernel_rfl)) rfl (Or.inl rfl) (Or.inr rfl))) (fun _ _ _ _=>Y7) (fun _ _ _ _=>(Zz Y9 (Zz Wp (pv 1) (Zz Vx (pv 2) (pv 0))) Zj)) (Xr (by decide))))))),?_⟩
  refine ⟨_,rfl,p,a,_,rfl,hh,by decide,by decide,fun b0 H1 b00 b01 h1 g1 u1=>?_⟩
  refine ⟨_,rfl,p,a,_,rfl,h1,by decide,by decide,fun s0 H2 s00 s01 h2 g2 u2=>⟨_,_,rfl,rfl,?_⟩⟩
  refine ⟨_,rfl,_,rfl,_,_,rfl,rfl,p,a,_,rfl,h2,by omega,by omega,fun n0 H3 n00 n01 h3 g3 u3=>⟨_,_,rfl,rfl,(2 + n0),rfl,by omega,by omega,Wr (n:=(2 + n0).toNat)
   (fun j ys H'=>H'=H3/\ys=((List.range j).map fun k:Nat=>(b0 + (1 + s0) * (k:Int)) % 256).map V.int) ⟨rfl,rfl⟩ ?_ (Zo (by omega)) ?_ ?_ ?_ ?_⟩⟩
  ·rintro j ys H' ⟨rfl,rfl⟩
   rw [List.length_map,List.length_map,List.length_range]
   exact Nat.le_refl _
  ·rintro j ys H' hj _
   exact hj
  ·rintro ys H' _
   exact Nat.le_refl _
  ·rintro j ys H' hj ⟨rfl,rfl⟩ x H4 ⟨rfl,rfl⟩
   refine ⟨_,rfl,_,rfl,_,rfl,_,_,rfl,rfl,.inl ⟨by omega,by omega⟩,_,_,rfl,rfl,_,_,rfl,rfl,(by show (0:Int) < _; decide),rfl,?_⟩
   rw [List.range_succ,List.map_append,List.map_append,Int.zero_add]
   rfl
  ·rintro ys H' ⟨rfl,rfl⟩ l hl
   obtain ⟨_,_,_,ep,_⟩:=h3.ex
   have nl:l≠p:=Ne.symm (Zq ep hl)
   have g:=(g1.trans g2).trans g3
   refine k l _ _ (g.free hl nl) nl Zg (Zao (by omega) ?_) ?_ ?_ (fun b hb=>?_) (h3.same (Zb hl)) (g.trans (Grow.same (Zb hl)))
   ·have:((2 + n0).toNat:Int)=2 + n0:=by omega
    rw [this]
    have h4:(1 + s0) * (2 + n0)<=(1 + s0) * 4:=Int.mul_le_mul_of_nonneg_left (by omega) (by omega)
    omega
   ·rw [List.length_map,List.length_range]; omega
   ·rw [List.length_map,List.length_range]; omega
   ·obtain ⟨i,_,rfl⟩:=List.mem_map.mp hb
    exact ⟨Int.emod_nonneg _ (by decide),Int.emod_lt_of_pos _ (by decide)⟩
theorem Zio {bs:List Int} {ws:List (List Int)} {n:Nat} (h:∀ w∈ws,∀ b∈w,b∈bs) (hn:n < ws.length):∀ w∈ws.take n++(bs.map fun b=>ws[n]++[b])++ws.drop (n + 1),∀ b∈w,b∈bs:=fun w hw b hb=>by
 rcases List.mem_append.mp hw with z | z
 ·rcases List.mem_append.mp z with z | z
  ·exact h w (List.mem_of_mem_take z) b hb
  ·obtain ⟨c,hc,rfl⟩:=List.mem_map.mp z
   rcases List.mem_append.mp hb with y | y
   ·exact h _ (List.getElem_mem hn) b y
   ·rw [List.mem_singleton.mp y]; exact hc
 ·exact h w (List.mem_of_mem_drop z) b hb
theorem ok__law_words (T:Txt mg) (Zk:Cal P w K mg base "_law_draw" 1 ["_law_hand", "_law_many"] Sg) {f:Addr} {fd:FuncData} (F:Fun K "_law_words" "_law_words" s__law_words f fd):FnOk P w K mg base CX0 2 f fd ["_law_hand", "_law_some", "_law_most", "_law_longest"] Zb5:=by
 refine F.ok sc__law_words (fun vs H Q E h=>?_) (fun cdv A outer s H vs Q E hr h=>?_)
 ·obtain ⟨p,a,sa,m,lg,bs,rfl,_⟩:=h
  rfl
 ·obtain ⟨p,a,sa,m,lg,bs,rfl,hh,es,nsp,nd,hne,hl,hm1,hm2,hg1,hg2,k⟩:=h
  have SC:=sc__law_words
  have Zl:Room 1 _:=hr.mono (by decide)
  have hlp:0 < bs.length:=List.length_pos_iff.mpr hne
  refine ⟨_,(Zf (Zv (i:=4) SC.nd rfl (Or.inr rfl) (Xq (T:=["_law_one"]) (cs:=[]) rfl (CScope.ok (by kernel_rfl)) (Y0 (pv 1)) (fun _ _ _ _=>(Zr (i:=0) (Xl (by kernel_rfl)) rfl (Or.inl rfl) (Or.inr rfl))) (fun _ _ _ _=>Y7) (fun _ _ _ _=>(W7 (Za (pv 0) Zd))) (Xr (by decide))))
 (Zf (Wf PassesOwn.never rfl (Yh rfl T.b_range (Za (Zw Zk Zl rfl (Za (pv 0) (Za (Zz Wp (pv 2) Zj) Zd))) Zd)) (Zr (i:=5) SC.nd rfl (Or.inl rfl))
 (Zf (Zv (i:=6) SC.nd rfl (Or.inr rfl) (Zz Y9 (Zw Zk Zl rfl (Za (pv 0) (Za Zj Zd))) (Zt Xp (by rfl) T.b_len PySem.boot_len (Za (pv 4) Zd))))
 (Zn (Xk (Z2 Zh1 (Zt Xp (by rfl) T.b_len PySem.boot_len (Za (Ye Xb (pv 4) (pv 6) (fun _ _=>rfl)) Zd)) (pv 3) (Z6 _))
 (Zn (Zv (i:=4) SC.nd rfl (Or.inr rfl) (Zz Qi (Zz Qi (Z9 Wy (pv 4) Yq (Yf (pv 6))) (Xq (T:=["_law_one"]) (cs:=[4,6]) rfl (CScope.ok (by kernel_rfl)) (Y0 (pv 1)) (fun _ _ _ _=>(Zr (i:=0) (Xl (by kernel_rfl)) rfl (Or.inl rfl) (Or.inr rfl))) (fun _ _ _ _=>Y7) (fun _ _ _ _=>(Zz (Zl6 (K:=K) rfl) (Ye (Zcz (K:=K) rfl) (pv 1) (pv 2) (fun _ _=>rfl)) (W7 (Za (pv 0) Zd)))) (Xr (by decide)))) (Z9 Wy (pv 4) (Yf (Zz Wp (pv 6) Zj)) Yq))))
 Z7))))
 (Zn (Z5 (Xq (T:=["_law_word"]) (cs:=[0]) rfl (CScope.ok (by kernel_rfl)) (Y0 (pv 4)) (fun _ _ _ _=>(Zr (i:=0) (Xl (by kernel_rfl)) rfl (Or.inl rfl) (Or.inr rfl))) (fun _ _ _ _=>(Tr (Z2 Nt (Zw Zk Zl rfl (Za (pv 1) (Za Zj Zd))) Zj (Z6 _)))) (fun _ _ _ _=>(pv 0)) (Xr (by decide))))))),?_⟩
  refine ⟨_,rfl,sa,rfl,⟨_,SqL.of es⟩,Wr (n:=bs.length) (fun j ys H'=>ys.length=j/\Same H H'/\Wb H' ys ((bs.map fun b=>[b]).take j)) ⟨rfl,.refl _,by rw [List.take_zero]; exact .nil⟩ ?_ (Zo (by omega)) ?_ ?_ ?_ ?_⟩
  ·rintro j ys H' ⟨e,_⟩
   exact Nat.le_of_eq e
  ·rintro j ys H' hj ⟨_,s1,_⟩
   exact Zf1 (s1 _ _ es) (by rw [List.length_map]; exact hj)
  ·rintro ys H' ⟨_,s1,_⟩
   exact Pa (s1 _ _ es) (by rw [List.length_map]; exact Nat.le_refl _)
  ·rintro j ys H' hj ⟨e,s1,w1⟩ y H'' hy
   obtain ⟨rfl,rfl⟩:=Zbb (s1 _ _ es) (by rw [List.length_map]; exact hj) hy
   refine ⟨_,rfl,by show 1<=sizeLine; decide,fun q hq=>⟨by rw [List.length_append,e]; rfl,s1.trans (Zb hq),?_⟩⟩
   rw [List.take_succ_eq_append_getElem (by rw [List.length_map]; exact hj)]
   refine L2.Paired.snoc ⟨q,rfl,?_⟩ (Wb.tk w1 (Zb hq).tk)
   rw [Zg,List.getElem_map,List.getElem_map]
   rfl
  ·rintro ys H1 ⟨e,s1,w1⟩ wl hwl
   rw [<- List.length_map (f:=fun b:Int=>[b]),List.take_length] at w1
   have s2:=s1.trans (Zb (o:=.lst ys) hwl)
   have w2:=Wb.tk w1 (Zb (o:=.lst ys) hwl).tk
   have e2:(upd H1 wl (.lst ys)) wl=some (.lst ys):=Zg
   obtain ⟨_,ep⟩:=Xc hh
   have nwp:wl≠p:=Ne.symm (Zq (s1 _ _ ep) hwl)
   have nw0:H wl=none:=s1.free hwl
   generalize upd H1 wl (.lst ys)=H2 at s2 w2 e2
   refine ⟨_,rfl,_,rfl,_,_,rfl,rfl,p,a,_,rfl,hh.same s2,by omega,by omega,fun n0 H3 n00 n01 h3 g3 u3=>?_⟩
   have inv0:WOk (bs.map fun b=>[b]):=Zk1 nd
   refine ⟨n0,rfl,by omega,by omega,Tc (n:=n0.toNat) (fun j σ H'=>∃ wl ws v1 v2,σ=[some (.ref p),some (.ref sa),some (.int m),some (.int lg),some (.ref wl),v1,v2]/\H wl=none/\wl≠p/\V7 H' wl ws/\WOk ws/\(∀ w∈ws,∀ b∈w,b∈bs)/\ws≠[]/\ws.length<=bs.length + j * bs.length/\HandAt H' p a/\Grow p H H')
    ⟨wl,_,_,_,rfl,nw0,nwp,⟨ys,by rw [u3 wl nwp]; exact e2,Wb.tk w2 (g3.tk (s2 _ _ ep))⟩,inv0,(fun w hw b hb=>by obtain ⟨c,hc,rfl⟩:=List.mem_map.mp hw; rw [List.mem_singleton.mp hb]; exact hc),by simpa using hne,by rw [List.length_map]; omega,h3,(Grow.same s2).trans g3⟩ ?_ ?_⟩
   ·rintro j σ H4 hj ⟨wl,ws,v1,v2,rfl,nw0,nwp,⟨vs,e4,w4⟩,ok4,bn4,ne4,l4,h4,g4⟩
    have lv:=Paired.length w4
    have lp:0 < vs.length:=by rw [lv]; exact List.length_pos_iff.mpr ne4
    have hjb:j * bs.length<=6 * 24:=Nat.mul_le_mul (by omega) hl
    refine ⟨_,rfl,p,a,_,rfl,h4,by decide,by decide,fun r H5 r0 r1 h5 g5 u5=>?_⟩
    have e5:H5 wl=some (.lst vs):=by rw [u5 wl nwp]; exact e4
    obtain ⟨_,ep4⟩:=Xc h4
    have w5:=Wb.tk w4 (g5.tk ep4)
    have es5:H5 sa=some (.lst (bs.map V.int)):=(g4.trans g5) _ _ es nsp
    refine ⟨_,rfl,_,_,rfl,.inl ⟨_,SqL.of e5,rfl⟩,_,_,rfl,rfl,(by show (0:Int) < _; omega),?_⟩
    have r2:0<=r % (vs.length:Int):=Int.emod_nonneg _ (by omega)
    have r3:r % (vs.length:Int) < vs.length:=Int.emod_lt_of_pos _ (by omega)
    obtain ⟨n,en0⟩:=Int.eq_ofNat_of_zero_le r2
    have hn:n < vs.length:=by omega
    obtain ⟨hn2,t,ev,et⟩:=Wb.take1 w5 hn
    have atn:atI vs (r % (vs.length:Int))=some (.ref t):=by rw [en0,<- ev]; exact Ty (List.getElem?_eq_getElem hn)
    have cut1:cutV vs none (some (r % (vs.length:Int)))=vs.take n:=by rw [en0,N9 (by omega) (by omega),Int.toNat_natCast]
    have cut2:cutV vs (some (r % (vs.length:Int) + 1)) none=vs.drop (n + 1):=by rw [en0,Se (by omega) (by omega)]; congr 1
    refine ⟨_,rfl,_,rfl,wl,_,_,_,rfl,rfl,SqL.of e5,atn,_,_,rfl,.inr ⟨_,SqT.of et,rfl⟩,_,rfl,_,_,rfl,rfl,_,rfl,?_⟩
    refine ite2 (fun hlt=>?_) (fun hlt=>?_)
    ·have hlt':((ws[n].map V.int).length:Int) < lg:=of_decide_eq_true hlt
     rw [List.length_map] at hlt'
     refine ⟨_,rfl,_,rfl,_,rfl,wl,_,rfl,SqL.of e5,fun q1 hq1=>?_⟩
     rw [cut1]
     have s6:=Zb (o:=.lst (vs.take n)) hq1
     have e61:(upd H5 q1 (.lst (vs.take n))) q1=_:=Zg
     have nq1:q1≠p:=by obtain ⟨_,ep5⟩:=Xc h5; exact Ne.symm (Zq ep5 hq1)
     generalize upd H5 q1 (.lst (vs.take n))=H6 at s6 e61
     refine ⟨_,rfl,sa,rfl,⟨_,SqL.of (s6 _ _ es5)⟩,Wr (n:=bs.length) (fun j ys H'=>ys.length=j/\Same H6 H'/\Wb H' ys ((bs.map fun b=>ws[n]++[b]).take j)) ⟨rfl,.refl _,by rw [List.take_zero]; exact .nil⟩ ?_ (Zo (by omega)) ?_ ?_ ?_ ?_⟩
     ·rintro j ys H' ⟨e,_⟩
      exact Nat.le_of_eq e
     ·rintro j ys H' hj ⟨_,s1,_⟩
      exact Zf1 (s1 _ _ (s6 _ _ es5)) (by rw [List.length_map]; exact hj)
     ·rintro ys H' ⟨_,s1,_⟩
      exact Pa (s1 _ _ (s6 _ _ es5)) (by rw [List.length_map]; exact Nat.le_refl _)
     ·rintro j ys H' hj ⟨e,s1,w1⟩ y H'' hy
      obtain ⟨rfl,rfl⟩:=Zbb (s1 _ _ (s6 _ _ es5)) (by rw [List.length_map]; exact hj) hy
      have et':=s1 _ _ (s6 _ _ et)
      refine ⟨_,rfl,_,rfl,wl,_,_,_,rfl,rfl,SqL.of (s1 _ _ (s6 _ _ e5)),atn,_,rfl,by show 1<=sizeLine; decide,fun q hq=>?_⟩
      have sq:=Zb (o:=.tup [(bs.map V.int)[j]'(by rw [List.length_map]; exact hj)]) hq
      refine ⟨t,q,_,_,rfl,rfl,SqT.of (sq _ _ et'),SqT.of Zg,?_,?_,fun z=>absurd z (by simp),fun _ q2 hq2=>?_⟩
      ·have:=(ok4.2 ws[n] (List.getElem_mem hn2)).1
       simpa using this
      ·rw [List.length_map]; show ws[n].length + 1<=sizeLine; exact Nat.le_trans (by omega:ws[n].length + 1<=10) (by decide)
      ·refine ⟨by rw [List.length_append,e]; rfl,(s1.trans sq).trans (Zb hq2),?_⟩
       rw [List.take_succ_eq_append_getElem (by rw [List.length_map]; exact hj)]
       refine L2.Paired.snoc ⟨q2,rfl,?_⟩ (Wb.tk w1 (sq.tk.trans (Zb hq2).tk))
       rw [Zg,List.getElem_map,List.getElem_map,List.map_append]
       rfl
     ·rintro ys H7 ⟨e,s7,w7⟩ q3 hq3
      rw [<- List.length_map (f:=fun b:Int=>ws[n]++[b]),List.take_length] at w7
      have s8:=s6.trans (s7.trans (Zb (o:=.lst ys) hq3))
      have e8:(upd H7 q3 (.lst ys)) q3=some (.lst ys):=Zg
      have e81:=(s7.trans (Zb (o:=.lst ys) hq3)) _ _ e61
      have w8:=Wb.tk w7 (Zb (o:=.lst ys) hq3).tk
      generalize upd H7 q3 (.lst ys)=H8 at s8 e8 e81 w8
      have ly:ys.length=bs.length:=by rw [Paired.length w8,List.length_map]
      refine ⟨q1,q3,_,_,rfl,rfl,e81,e8,?_,fun q4 hq4=>?_⟩
      ·rw [List.length_take,ly]; exact Zo (by omega)
      have s9:=s8.trans (Zb (o:=.lst (vs.take n++ys)) hq4)
      have e9:(upd H8 q4 (.lst (vs.take n++ys))) q4=_:=Zg
      have w9:=Wb.tk w8 (Zb (o:=.lst (vs.take n++ys)) hq4).tk
      generalize upd H8 q4 (.lst (vs.take n++ys))=H9 at s9 e9 w9
      refine ⟨_,rfl,_,rfl,_,_,rfl,rfl,_,rfl,wl,_,rfl,SqL.of (s9 _ _ e5),fun q5 hq5=>?_⟩
      rw [cut2]
      have s10:=s9.trans (Zb (o:=.lst (vs.drop (n + 1))) hq5)
      have e10:(upd H9 q5 (.lst (vs.drop (n + 1)))) q5=_:=Zg
      have e104:=Zb (o:=.lst (vs.drop (n + 1))) hq5 _ _ e9
      have w10:=Wb.tk w9 (Zb (o:=.lst (vs.drop (n + 1))) hq5).tk
      generalize upd H9 q5 (.lst (vs.drop (n + 1)))=H10 at s10 e10 e104 w10
      refine ⟨q4,q5,_,_,rfl,rfl,e104,e10,?_,fun q6 hq6=>?_⟩
      ·rw [List.length_append,List.length_take,List.length_drop,ly]; exact Zo (by omega)
      have s11:=s10.trans (Zb (o:=.lst (vs.take n++ys++vs.drop (n + 1))) hq6)
      have w11:=Wb.tk w10 (Zb (o:=.lst (vs.take n++ys++vs.drop (n + 1))) hq6).tk
      have hsp:ws=ws.take n++ws[n]::ws.drop (n + 1):=by
       rw [<- List.drop_eq_getElem_cons hn2,List.take_append_drop]
      have ok11:WOk (ws.take n++(bs.map fun b=>ws[n]++[b])++ws.drop (n + 1)):=Zhv nd (hsp ▸ ok4) (by omega)
      have ws5:=Wb.tk w5 s11.tk
      obtain ⟨_,ep5⟩:=Xc h5
      have nq6:q6≠p:=Ne.symm (Zq (s10 _ _ ep5) hq6)
      refine ⟨q6,_,_,_,rfl,?_,nq6,⟨_,Zg,L2.Paired.app (L2.Paired.drp (n + 1) ws5) (L2.Paired.app w11 (L2.Paired.tak n ws5))⟩,ok11,Zio bn4 hn2,?_,?_,h5.same s11,(g4.trans g5).trans (Grow.same s11)⟩
      ·exact (g4.trans g5).free (s10.free hq6) nq6
      ·intro z
       have:=congrArg List.length z
       simp only [List.length_append,List.length_map,List.length_nil] at this
       omega
      ·rw [List.length_append,List.length_append,List.length_take,List.length_drop,List.length_map,Nat.add_mul,Nat.one_mul]
       omega
    ·refine ⟨wl,ws,_,_,rfl,nw0,nwp,⟨vs,e5,w5⟩,ok4,bn4,ne4,?_,h5,g4.trans g5⟩
     rw [Nat.add_mul]
     omega
   ·rintro σ H4 ⟨wl,ws,v1,v2,rfl,nw0,nwp,⟨vs,e4,w4⟩,ok4,bn4,ne4,l4,h4,g4⟩
    have lv:=Paired.length w4
    have lb:ws.length<=200:=by
     have:n0.toNat * bs.length<=6 * 24:=Nat.mul_le_mul (by omega) hl
     omega
    refine ⟨_,rfl,wl,rfl,⟨_,SqL.of e4⟩,Wr (n:=vs.length) (fun j ys H'=>∃ us:List (List Int),Wb H' ys us/\us.Sublist (ws.take j)/\HandAt H' p a/\Grow p H4 H') ⟨[],.nil,List.nil_sublist _,h4,Grow.refl _ _⟩ ?_ (Zo (by omega)) ?_ ?_ ?_ ?_⟩
    ·rintro j ys H' ⟨us,w1,sb,_⟩
     have:=sb.length_le
     rw [List.length_take] at this
     rw [Paired.length w1]
     omega
    ·rintro j ys H' hj ⟨us,w1,sb,h1,g1⟩
     exact Zf1 (g1 _ _ e4 nwp) hj
    ·rintro ys H' ⟨us,w1,sb,h1,g1⟩
     exact Pa (g1 _ _ e4 nwp) (Nat.le_refl _)
    ·rintro j ys H' hj ⟨us,w1,sb,h1,g1⟩ y H'' hy
     obtain ⟨rfl,rfl⟩:=Zbb (g1 _ _ e4 nwp) hj hy
     refine ⟨_,rfl,p,a,_,rfl,h1,by decide,by decide,fun r H6 r0 r1 h6 g6 u6=>⟨_,_,rfl,rfl,_,rfl,?_⟩⟩
     obtain ⟨_,ep1⟩:=Xc h1
     have hj2:j < ws.length:=by omega
     have tk:(ws.take (j + 1))=ws.take j++[ws[j]]:=List.take_succ_eq_append_getElem hj2
     refine ite2 (fun _=>?_) (fun _=>?_)
     ·refine ⟨_,rfl,us++[ws[j]],L2.Paired.snoc ?_ (Wb.tk w1 (g6.tk ep1)),by rw [tk]; exact sb.append (List.Sublist.refl _),h6,g1.trans g6⟩
      obtain ⟨_,ep4⟩:=Xc h4
      exact (L2.Paired.at w4 hj hj2).tk ((g1.trans g6).tk ep4)
     ·exact ⟨us,Wb.tk w1 (g6.tk ep1),by rw [tk]; exact sb.trans (List.sublist_append_left _ _),h6,g1.trans g6⟩
    ·rintro ys H5 ⟨us,w1,sb,h5,g5⟩ q hq
     rw [lv,List.take_length] at sb
     obtain ⟨_,ep5⟩:=Xc h5
     have nq:q≠p:=Ne.symm (Zq ep5 hq)
     have g:=g4.trans g5
     refine k q us _ (g.free hq nq) nq ⟨ys,Zg,Wb.tk w1 (Zb hq).tk⟩ (ok4.sub sb) (fun w hw=>bn4 w (sb.subset hw)) ?_ (h5.same (Zb hq)) (g.trans (Grow.same (Zb hq)))
     have l1:=sb.length_le
     have l2:n0.toNat * bs.length<=m.toNat * bs.length:=Nat.mul_le_mul (by omega) (Nat.le_refl _)
     have l3:((m.toNat * bs.length:Nat):Int)=m * bs.length:=by rw [Int.natCast_mul]; congr 1; omega
     omega
theorem ok__law_signs (T:Txt mg) (Zk:Cal P w K mg base "_law_draw" 1 ["_law_hand", "_law_many"] Sg) {f:Addr} {fd:FuncData} (F:Fun K "_law_signs" "_law_signs" s__law_signs f fd):FnOk P w K mg base CX0 2 f fd ["_law_hand", "_law_many"] Zen:=by
 refine F.ok sc__law_signs (fun vs H Q E h=>?_) (fun cdv A outer s H vs Q E hr h=>?_)
 ·obtain ⟨p,a,m,rfl,_⟩:=h
  rfl
 ·obtain ⟨p,a,m,rfl,hh,hm0,hm1,k⟩:=h
  have SC:=sc__law_signs
  have Zl:Room 1 _:=hr.mono (by decide)
  refine ⟨_,(Zf (Zv (i:=2) SC.nd rfl (Or.inr rfl) (Zz Vx (Z4 Zaf (by rfl) T.b_int PyProof.Rows.boot_int (Za (Vw Nt (Zw Zk Zl rfl (Za (pv 0) (Za Zj Zd))) Zj (Z6 _)) Zd)) (Zz Wp (Zz Vx (Zw Zk Zl rfl (Za (pv 0) (Za Zj Zd))) (Zz Zfl Zj Zj)) (Zw Zk Zl rfl (Za (pv 0) (Za Zj Zd))))))
 (Zf (Zv (i:=3) SC.nd rfl (Or.inr rfl) (Zz Wp Zj (Ye Xb (Y8 (Za Zj (Za (Zw Zk Zl rfl (Za (pv 0) (Za Zj Zd))) (Za (Zw Zk Zl rfl (Za (pv 0) (Za (Zz Zfl Zj Zj) Zd))) Zd)))) (Zw Zk Zl rfl (Za (pv 0) (Za Zj Zd))) (fun _ _=>rfl))))
 (Zf (Vv (i:=4) SC.nd rfl rfl (T:=["_law_k"]) (cs:=[2,3]) rfl (CScope.ok (by kernel_rfl)) (Yh rfl T.b_range (Za (pv 1) Zd)) (fun _ _ _ _=>(Zr (i:=0) (Xl (by kernel_rfl)) rfl (Or.inl rfl) (Or.inr rfl))) (fun _ _ _ _=>Y7) (fun _ _ _ _=>(Zz Wp (pv 1) (Zz Vx (pv 2) (pv 0)))) (Xr (by decide)))
 (Zf (Zv (i:=5) SC.nd rfl (Or.inl rfl) (Zz Y9 (Zw Zk Zl rfl (Za (pv 0) (Za Zj Zd))) (Zt (Tf rfl) (by rfl) T.b_max PyProof.Rows.boot_max (Za Zj (Za (pv 1) Zd)))))
 (Zf (Zv (i:=4) SC.nd rfl (Or.inl rfl) (Zz Qi (Z9 Wy (pv 4) (Yf (pv 5)) Yq) (Z9 Wy (pv 4) Yq (Yf (pv 5)))))
 (Zf (Xk (Z2 Zfn (Zw Zk Zl rfl (Za (pv 0) (Za Zj Zd))) Zj (Z6 _))
 (Zn (Z5 (Zfd (pv 4) (Yf (Zku Zd6 Zj)) (fun _ _=>⟨_,rfl⟩))))
 Z7)
 (Zn (Z5 (pv 4))))))))),?_⟩
  refine ⟨_,rfl,p,a,_,rfl,hh,by decide,by decide,fun r1 H1 r10 r11 h1 g1 u1=>⟨_,_,rfl,rfl,.inr ⟨_,rfl,_,rfl,p,a,_,rfl,h1,by decide,by decide,fun r2 H2 r20 r21 h2 g2 u2=>⟨_,_,rfl,rfl,⟨by decide,by decide,by decide⟩,_,_,rfl,rfl,.inl ⟨by omega,by omega⟩,_,rfl,p,a,_,rfl,h2,by decide,by decide,fun r3 H3 r30 r31 h3 g3 u3=>⟨_,_,rfl,rfl,_,_,rfl,rfl,.inl ?_,?_⟩⟩⟩⟩⟩
  ·split <;> exact ⟨by decide,by decide⟩
  obtain ⟨bg,hbg⟩:∃ bg:Int,bg=(if decide (0 < r1)=true then (1:Int) else 0) * (r2 * 10 ^ Int.toNat 6 + r3):=⟨_,rfl⟩
  have g30:=(g1.trans g2).trans g3
  refine ⟨_,rfl,p,a,_,rfl,h3,by decide,by decide,fun r4 H4 r40 r41 h4 g4 u4=>⟨_,rfl,_,_,rfl,rfl,⟨by decide,by decide,by decide⟩,p,a,_,rfl,h4,by decide,by decide,fun r5 H5 r50 r51 h5 g5 u5=>⟨by show 3<=sizeLine; decide,fun lq hlq=>?_⟩⟩⟩
  have s6:=Zb (o:=.lst [.int 0,.int r4,.int r5]) hlq
  obtain ⟨_,ep5⟩:=Xc h5
  have nlq:lq≠p:=Ne.symm (Zq ep5 hlq)
  have elq:(upd H5 lq (.lst [.int 0,.int r4,.int r5])) lq=_:=Zg
  have h6:=h5.same s6
  have g60:=g30.trans (g4.trans (g5.trans (Grow.same s6)))
  generalize upd H5 lq (.lst [.int 0,.int r4,.int r5])=H6 at s6 elq h6 g60
  refine ⟨_,rfl,p,a,_,rfl,h6,by decide,by decide,fun r6 H7 r60 r61 h7 g7 u7=>?_⟩
  have elq7:H7 lq=some (.lst [.int 0,.int r4,.int r5]):=by rw [u7 lq nlq]; exact elq
  obtain ⟨v,hv,ev⟩:=Zir (xs:=[V.int 0,.int r4,.int r5]) r60 (by simpa using r61)
  obtain ⟨c,rfl,hc⟩:∃ c:Int,v=.int c/\0<=c:=by
   simp only [List.mem_cons,List.mem_nil_iff,or_false] at hv
   rcases hv with z | z | z <;> exact ⟨_,z,by omega⟩
  have r51':r5 < 10000000:=r51
  have hc2:c < 10000000:=by
   simp only [List.mem_cons,List.mem_nil_iff,or_false] at hv
   rcases hv with z | z | z <;> injection z with z <;> omega
  refine ⟨lq,_,_,_,rfl,rfl,SqL.of elq7,ev,_,_,rfl,rfl,?_⟩
  refine ⟨_,rfl,m,rfl,by omega,by omega,Wr (n:=m.toNat) (fun j ys H'=>H'=H7/\ys=((List.range j).map fun k:Nat=>bg + (1 + c) * (k:Int)).map V.int) ⟨rfl,rfl⟩ ?_ (Zo (by omega)) ?_ ?_ ?_ ?_⟩
  ·rintro j ys H' ⟨rfl,rfl⟩
   rw [List.length_map,List.length_map,List.length_range]
   exact Nat.le_refl _
  ·rintro j ys H' hj _
   exact hj
  ·rintro ys H' _
   exact Nat.le_refl _
  ·rintro j ys H' hj ⟨rfl,rfl⟩ x H8 ⟨rfl,rfl⟩
   refine ⟨_,rfl,_,rfl,_,rfl,_,_,rfl,rfl,.inl ⟨by omega,by omega⟩,_,_,rfl,rfl,rfl,?_⟩
   rw [List.range_succ,List.map_append,List.map_append,Int.zero_add,hbg]
   rfl
  ·rintro ys H' ⟨rfl,rfl⟩ l hl
   generalize hss:(List.range m.toNat).map (fun k:Nat=>bg + (1 + c) * (k:Int))=ss
   have nd:ss.Nodup:=by rw [<- hss]; exact Zei (by omega) _
   have ls:(ss.length:Int)=m:=by rw [<- hss,List.length_map,List.length_range]; omega
   have s8:=Zb (o:=.lst (ss.map V.int)) hl
   have e8:(upd H' l (.lst (ss.map V.int))) l=_:=Zg
   obtain ⟨_,ep7⟩:=Xc h7
   have nl:l≠p:=Ne.symm (Zq ep7 hl)
   have h8:=h7.same s8
   have g80:=(g60.trans g7).trans (Grow.same s8)
   generalize upd H' l (.lst (ss.map V.int))=H8 at s8 e8 h8 g80
   refine ⟨_,rfl,p,a,_,rfl,h8,by decide,by decide,fun r9 H9 r90 r91 h9 g9 u9=>⟨_,rfl,_,_,rfl,_,_,rfl,rfl,?_,?_⟩⟩
   ·show (0:Int) < if m > 1 then m else 1
    split <;> omega
   have e9:H9 l=some (.lst (ss.map V.int)):=by rw [u9 l nl]; exact e8
   have z0:0<=r9 % (if m > 1 then m else 1):=Int.emod_nonneg _ (by split <;> omega)
   have z1:r9 % (if m > 1 then m else 1)<=ss.length:=by
    rw [ls]
    have:=Int.emod_lt_of_pos r9 (show (0:Int) < if m > 1 then m else 1 by split <;> omega)
    by_cases hm:m > 1
    ·rw [if_pos hm] at this ⊢; omega
    ·rw [if_neg hm] at this ⊢; omega
   obtain ⟨n,en⟩:=Int.eq_ofNat_of_zero_le z0
   have cut1:cutV (ss.map V.int) (some (r9 % (if m > 1 then m else 1))) none=(ss.drop n).map V.int:=by rw [en,Se (by omega) (by rw [List.length_map]; omega),List.map_drop]; rfl
   have cut2:cutV (ss.map V.int) none (some (r9 % (if m > 1 then m else 1)))=(ss.take n).map V.int:=by rw [en,N9 (by omega) (by rw [List.length_map]; omega),List.map_take]; rfl
   refine ⟨_,rfl,_,rfl,_,rfl,l,_,rfl,SqL.of e9,fun q1 hq1=>?_⟩
   rw [cut1]
   have sA:=Zb (o:=.lst ((ss.drop n).map V.int)) hq1
   have eA:(upd H9 q1 (.lst ((ss.drop n).map V.int))) q1=_:=Zg
   generalize upd H9 q1 (.lst ((ss.drop n).map V.int))=HA at sA eA
   refine ⟨_,rfl,_,rfl,_,rfl,l,_,rfl,SqL.of (sA _ _ e9),fun q2 hq2=>?_⟩
   rw [cut2]
   have sB:=sA.trans (Zb (o:=.lst ((ss.take n).map V.int)) hq2)
   have eB:(upd HA q2 (.lst ((ss.take n).map V.int))) q2=_:=Zg
   have eB1:=Zb (o:=.lst ((ss.take n).map V.int)) hq2 _ _ eA
   generalize upd HA q2 (.lst ((ss.take n).map V.int))=HB at sB eB eB1
   refine ⟨q1,q2,_,_,rfl,rfl,eB1,eB,?_,fun q3 hq3=>?_⟩
   ·rw [List.length_map,List.length_map,List.length_drop,List.length_take]; exact Zo (by omega)
   rw [<- List.map_append]
   have nd2:=Qe nd n
   have ls2:((ss.drop n++ss.take n).length:Int)=m:=by rw [List.length_append,List.length_drop,List.length_take]; omega
   generalize ss.drop n++ss.take n=tt at nd2 ls2
   have sC:=sB.trans (Zb (o:=.lst (tt.map V.int)) hq3)
   have eC:(upd HB q3 (.lst (tt.map V.int))) q3=_:=Zg
   obtain ⟨_,ep9⟩:=Xc h9
   have nq3:q3≠p:=Ne.symm (Zq (sB _ _ ep9) hq3)
   have n30:H q3=none:=(g80.trans g9).free (sB.free hq3) nq3
   have hC:=h9.same sC
   have gC:=(g80.trans g9).trans (Grow.same sC)
   generalize upd HB q3 (.lst (tt.map V.int))=HC at sC eC hC gC
   refine ⟨_,rfl,p,a,_,rfl,hC,by decide,by decide,fun rd HD rd0 rd1 hD gD uD=>⟨rfl,_,rfl,?_⟩⟩
   have eD:HD q3=some (.lst (tt.map V.int)):=by rw [uD q3 nq3]; exact eC
   refine ite2 (fun _=>?_) (fun _=>?_)
   ·refine ⟨_,rfl,_,rfl,_,rfl,rfl,q3,_,rfl,SqL.of eD,fun q4 hq4=>?_⟩
    rw [<- List.map_reverse]
    have sE:=Zb (o:=.lst (tt.reverse.map V.int)) hq4
    obtain ⟨_,epD⟩:=Xc hD
    have nq4:q4≠p:=Ne.symm (Zq epD hq4)
    exact k q4 tt.reverse _ ((gC.trans gD).free hq4 nq4) nq4 Zg ((List.reverse_perm tt).nodup_iff.mpr nd2) (by rw [List.length_reverse]; exact ls2) (hD.same sE) ((gC.trans gD).trans (Grow.same sE))
   ·exact ⟨_,rfl,k q3 tt HD n30 nq3 eD nd2 ls2 hD (gC.trans gD)⟩
theorem ok__law_table (T:Txt mg) (Zk:Cal P w K mg base "_law_draw" 1 ["_law_hand", "_law_many"] Sg) {f:Addr} {fd:FuncData} (F:Fun K "_law_table" "_law_table" s__law_table f fd):FnOk P w K mg base CX0 2 f fd ["_law_hand", "_law_words_here", "_law_signs_here"] Zem:=by
 refine F.ok sc__law_table (fun vs H Q E h=>?_) (fun cdv A outer s H vs Q E hr h=>?_)
 ·obtain ⟨p,a,wa,sa,ws,ss,rfl,_⟩:=h
  rfl
 ·obtain ⟨p,a,wa,sa,ws,ss,rfl,hh,⟨vs,ew,pw⟩,nwp,ok,lw,es,nsp,nd,lws,l100,k⟩:=h
  have SC:=sc__law_table
  have Zl:Room 1 _:=hr.mono (by decide)
  have lv:=Paired.length pw
  refine ⟨_,(Zf (Zv (i:=3) SC.nd rfl (Or.inl rfl) (Zz Y9 (Zw Zk Zl rfl (Za (pv 0) (Za Zj Zd))) (Zt (Tf rfl) (by rfl) T.b_max PyProof.Rows.boot_max (Za Zj (Za (Zt Xp (by rfl) T.b_len PySem.boot_len (Za (pv 2) Zd)) Zd)))))
 (Zf (Zv (i:=4) SC.nd rfl (Or.inr rfl) (Zz Qi (Z9 Wy (pv 2) (Yf (pv 3)) Yq) (Z9 Wy (pv 2) Yq (Yf (pv 3)))))
 (Zf (Vv (i:=5) SC.nd rfl rfl (T:=["_law_k"]) (cs:=[4,1]) rfl (CScope.ok (by kernel_rfl)) (Yh rfl T.b_range (Za (Zt Xp (by rfl) T.b_len PySem.boot_len (Za (pv 1) Zd)) Zd)) (fun _ _ _ _=>(Zr (i:=0) (Xl (by kernel_rfl)) rfl (Or.inl rfl) (Or.inr rfl))) (fun _ _ _ _=>Y7) (fun _ _ _ _=>(W7 (Za (Ye (Zcz (K:=K) rfl) (pv 1) (pv 0) (fun _ _=>rfl)) (Za (Ye (Zcz (K:=K) rfl) (pv 2) (pv 0) (fun _ _=>rfl)) Zd)))) (Xr (by decide)))
 (Zf (Xk (Z2 Zfn (Zw Zk Zl rfl (Za (pv 0) (Za Zj Zd))) Zj (Z6 _))
 (Zn (Z5 (Zfd (pv 5) (Yf (Zku Zd6 Zj)) (fun _ _=>⟨_,rfl⟩))))
 Z7)
 (Zn (Z5 (pv 5))))))),?_⟩
  refine ⟨_,rfl,p,a,_,rfl,hh,by decide,by decide,fun r9 H9 r90 r91 h9 g9 u9=>⟨_,rfl,_,_,rfl,.inl ⟨_,SqL.of (show H9 sa=some (.lst (ss.map V.int)) by rw [u9 sa nsp]; exact es),rfl⟩,_,_,rfl,_,_,rfl,rfl,?_,?_⟩⟩
  ·show (0:Int) < if (((ss.map V.int).length:Nat):Int) > 1 then (((ss.map V.int).length:Nat):Int) else 1
   split <;> omega
  rw [List.length_map]
  have e9:H9 sa=some (.lst (ss.map V.int)):=by rw [u9 sa nsp]; exact es
  have w9:H9 wa=some (.lst vs):=by rw [u9 wa nwp]; exact ew
  obtain ⟨_,ep⟩:=Xc hh
  have pw9:=Wb.tk pw (g9.tk ep)
  have z0:0<=r9 % (if ((ss.length:Nat):Int) > 1 then ((ss.length:Nat):Int) else 1):=Int.emod_nonneg _ (by split <;> omega)
  have z1:r9 % (if ((ss.length:Nat):Int) > 1 then ((ss.length:Nat):Int) else 1)<=ss.length:=by
   have:=Int.emod_lt_of_pos r9 (show (0:Int) < if ((ss.length:Nat):Int) > 1 then ((ss.length:Nat):Int) else 1 by split <;> omega)
   by_cases hm:((ss.length:Nat):Int) > 1
   ·rw [if_pos hm] at this ⊢; omega
   ·rw [if_neg hm] at this ⊢; omega
  obtain ⟨n,en⟩:=Int.eq_ofNat_of_zero_le z0
  have cut1:cutV (ss.map V.int) (some (r9 % (if ((ss.length:Nat):Int) > 1 then ((ss.length:Nat):Int) else 1))) none=(ss.drop n).map V.int:=by rw [en,Se (by omega) (by rw [List.length_map]; omega),List.map_drop]; rfl
  have cut2:cutV (ss.map V.int) none (some (r9 % (if ((ss.length:Nat):Int) > 1 then ((ss.length:Nat):Int) else 1)))=(ss.take n).map V.int:=by rw [en,N9 (by omega) (by rw [List.length_map]; omega),List.map_take]; rfl
  refine ⟨_,rfl,_,rfl,_,rfl,sa,_,rfl,SqL.of e9,fun q1 hq1=>?_⟩
  rw [cut1]
  have sA:=Zb (o:=.lst ((ss.drop n).map V.int)) hq1
  have eA:(upd H9 q1 (.lst ((ss.drop n).map V.int))) q1=_:=Zg
  generalize upd H9 q1 (.lst ((ss.drop n).map V.int))=HA at sA eA
  refine ⟨_,rfl,_,rfl,_,rfl,sa,_,rfl,SqL.of (sA _ _ e9),fun q2 hq2=>?_⟩
  rw [cut2]
  have sB:=sA.trans (Zb (o:=.lst ((ss.take n).map V.int)) hq2)
  have eB:(upd HA q2 (.lst ((ss.take n).map V.int))) q2=_:=Zg
  have eB1:=Zb (o:=.lst ((ss.take n).map V.int)) hq2 _ _ eA
  generalize upd HA q2 (.lst ((ss.take n).map V.int))=HB at sB eB eB1
  refine ⟨q1,q2,_,_,rfl,rfl,eB1,eB,?_,fun q3 hq3=>?_⟩
  ·rw [List.length_map,List.length_map,List.length_drop,List.length_take]; exact Zo (by omega)
  rw [<- List.map_append]
  have nd2:=Qe nd n
  have ls2:(ss.drop n++ss.take n).length=ss.length:=by rw [List.length_append,List.length_drop,List.length_take]; omega
  generalize ss.drop n++ss.take n=tt at nd2 ls2
  have sC:=sB.trans (Zb (o:=.lst (tt.map V.int)) hq3)
  have eC:(upd HB q3 (.lst (tt.map V.int))) q3=_:=Zg
  have hC:=h9.same sC
  have gC:=g9.trans (Grow.same sC)
  have wC:=sC _ _ w9
  have pwC:=Wb.tk pw9 sC.tk
  generalize upd HB q3 (.lst (tt.map V.int))=HC at sC eC hC gC wC pwC
  refine ⟨_,rfl,_,_,rfl,.inl ⟨_,SqL.of wC,rfl⟩,(vs.length:Int),rfl,by omega,by omega,Wr (n:=((vs.length:Nat):Int).toNat) (fun j ys H'=>ys.length=j/\Same HC H'/\Prs H' ys ((tt.zip ws).take j)) ⟨rfl,.refl _,by rw [List.take_zero]; exact .nil⟩ ?_ (Zo (by omega)) ?_ ?_ ?_ ?_⟩
  ·rintro j ys H' ⟨e,_⟩
   exact Nat.le_of_eq e
  ·rintro j ys H' hj _
   exact hj
  ·rintro ys H' _
   exact Nat.le_refl _
  ·rintro j ys H' hj ⟨e,s1,w1⟩ y H'' ⟨rfl,rfl⟩
   have hj1:j < vs.length:=by omega
   obtain ⟨hj2,t,ev,et⟩:=Wb.take1 pwC hj1
   have hj3:j < tt.length:=by omega
   have hz:j < (tt.zip ws).length:=by rw [List.length_zip]; omega
   refine ⟨_,rfl,_,rfl,q3,_,_,_,rfl,rfl,SqL.of (s1 _ _ eC),Pu (v:=V.int tt[j]) (by rw [List.getElem?_map,List.getElem?_eq_getElem hj3]; rfl),_,rfl,_,rfl,wa,_,_,_,rfl,rfl,SqL.of (s1 _ _ wC),Pu (v:=.ref t) (by rw [List.getElem?_eq_getElem hj1,ev]),by show 2<=sizeLine; decide,fun q hq=>?_⟩
   refine ⟨by rw [List.length_append,e]; rfl,s1.trans (Zb hq),?_⟩
   rw [List.take_succ_eq_append_getElem hz]
   refine L2.Paired.snoc ⟨q,t,rfl,?_,?_⟩ (Prs.tk w1 (Zb hq).tk)
   ·rw [Zg,List.getElem_zip]
   ·rw [List.getElem_zip]
    exact Zb hq _ _ (s1 _ _ et)
  ·rintro ys H1 ⟨e,s1,w1⟩ q hq
   have ez:(tt.zip ws).take ((vs.length:Nat):Int).toNat=tt.zip ws:=List.take_of_length_le (by rw [List.length_zip]; omega)
   rw [ez] at w1
   have sD:=s1.trans (Zb (o:=.lst ys) hq)
   have eD:(upd H1 q (.lst ys)) q=_:=Zg
   have wD:=Prs.tk w1 (Zb (o:=.lst ys) hq).tk
   obtain ⟨_,epC⟩:=Xc hC
   have nq:q≠p:=Ne.symm (Zq (s1 _ _ epC) hq)
   have nq0:H q=none:=gC.free (s1.free hq) nq
   have hD:=hC.same sD
   have gD:=gC.trans (Grow.same sD)
   generalize upd H1 q (.lst ys)=HD at sD eD wD hD gD
   have fr:Free (tt.zip ws):=ok.free nd2
   have sn:(tt.zip ws).map (·.2)=ws:=by
    have:=List.map_snd_zip (l₁:=tt) (l₂:=ws) (by omega)
    exact this
   have fi:Fits (tt.zip ws):=⟨by rw [List.length_zip]; omega,fun p hp=>ok.2 _ (by rw [<- sn]; exact List.mem_map.mpr ⟨p,hp,rfl⟩)⟩
   refine ⟨_,rfl,p,a,_,rfl,hD,by decide,by decide,fun rd HE rd0 rd1 hE gE uE=>⟨rfl,_,rfl,?_⟩⟩
   have eE:HE q=some (.lst ys):=by rw [uE q nq]; exact eD
   obtain ⟨_,epD⟩:=Xc hD
   have wE:=Prs.tk wD (gE.tk epD)
   refine ite2 (fun _=>?_) (fun _=>?_)
   ·refine ⟨_,rfl,_,rfl,_,rfl,rfl,q,_,rfl,SqL.of eE,fun q4 hq4=>?_⟩
    have sF:=Zb (o:=.lst ys.reverse) hq4
    obtain ⟨_,epE⟩:=Xc hE
    have nq4:q4≠p:=Ne.symm (Zq epE hq4)
    refine k q4 (tt.zip ws).reverse _ ((gD.trans gE).free hq4 nq4) nq4 ⟨_,Zg,Prs.tk (L2.Paired.rev wE) sF.tk⟩ fr.rev ⟨by rw [List.length_reverse]; exact fi.1,fun p hp=>fi.2 p (List.mem_reverse.mp hp)⟩ ?_ (hE.same sF) ((gD.trans gE).trans (Grow.same sF))
    rw [List.map_reverse,sn]
    exact List.reverse_perm _
   ·exact ⟨_,rfl,k q (tt.zip ws) HE nq0 nq ⟨_,eE,wE⟩ fr fi (by rw [sn]) hE (gD.trans gE)⟩
theorem ok__law_text (T:Txt mg) (Zk:Cal P w K mg base "_law_draw" 1 ["_law_hand", "_law_many"] Sg) {f:Addr} {fd:FuncData} (F:Fun K "_law_text" "_law_text" s__law_text f fd):FnOk P w K mg base CX0 2 f fd ["_law_hand", "_law_signs_here", "_law_most"] Zi1:=by
 refine F.ok sc__law_text (fun vs H Q E h=>?_) (fun cdv A outer s H vs Q E hr h=>?_)
 ·obtain ⟨p,a,sa,ss,m,rfl,_⟩:=h
  rfl
 ·obtain ⟨p,a,sa,ss,m,rfl,hh,es,nsp,hm0,hm1,k⟩:=h
  have SC:=sc__law_text
  have hu:=hr.units
  have Zl:Room 1 _:=hr.mono (by decide)
  refine ⟨_,(Zf (Xk (Z2 (Zcg hu) (pv 1) (Y8 Zd) (Z6 _))
 (Zn (Z5 (Y8 Zd)))
 Z7)
 (Zn (Z5 (Xq (T:=["_law_k"]) (cs:=[1,0]) rfl (CScope.ok (by kernel_rfl)) (Yh rfl T.b_range (Za (Zw Zk Zl rfl (Za (pv 0) (Za (Zz Wp (pv 2) Zj) Zd))) Zd)) (fun _ _ _ _=>(Zr (i:=0) (Xl (by kernel_rfl)) rfl (Or.inl rfl) (Or.inr rfl))) (fun _ _ _ _=>Y7) (fun _ _ _ _=>(Ye (Zcz (K:=K) rfl) (pv 1) (Zz Y9 (Zw Zk Zl rfl (Za (pv 2) (Za Zj Zd))) (Zt (Yy (K:=K) rfl) (by rfl) T.b_len PySem.boot_len (Za (pv 1) Zd))) (fun _ _=>rfl))) (Xr (by decide)))))),?_⟩
  refine ⟨_,rfl,by show 0<=sizeLine; decide,fun q0 hq0=>?_⟩
  have s1:=Zb (o:=.lst []) hq0
  refine ⟨_,_,DV.lst (SqL.of (s1 _ _ es)) (Te ss),DV.lst (SqL.of Zg) .nil,(T8 ss).shaped (by decide),(T8 []).shaped (by decide),_,rfl,?_⟩
  have h1:=hh.same s1
  generalize upd H q0 (.lst [])=H1 at s1 h1
  have en:PyData.eqv (.list (ss.map PyData.int)) (.list [])=decide (ss=[]):=Zlt ss []
  rw [en]
  obtain ⟨_,ep⟩:=Xc hh
  refine ite2 (fun hz=>?_) (fun hz=>?_)
  ·refine ⟨by show 0<=sizeLine; decide,fun q hq=>?_⟩
   have s2:=s1.trans (Zb (o:=.lst []) hq)
   have nq:q≠p:=Ne.symm (Zq (s1 _ _ ep) hq)
   exact k q [] _ (s1.free hq) nq Zg (fun _ z=>nomatch z) (by simpa using hm0) (hh.same s2) (Grow.same s2)
  ·have hne:ss≠[]:=of_decide_eq_false (Bool.not_eq_true _ ▸ hz)
   refine ⟨_,rfl,_,rfl,_,_,rfl,rfl,p,a,_,rfl,h1,by omega,by omega,fun n0 H2 n00 n01 h2 g2 u2=>?_⟩
   have es2:=g2 _ _ (s1 _ _ es) nsp
   refine ⟨n0,rfl,by omega,by omega,Wr (n:=n0.toNat) (fun j ys H'=>∃ ts:List Int,ys=ts.map V.int/\ts.length=j/\(∀ t∈ts,t∈ss)/\HandAt H' p a/\Grow p H2 H') ⟨[],rfl,rfl,(fun _ z=>nomatch z),h2,Grow.refl _ _⟩ ?_ (Zo (by omega)) ?_ ?_ ?_ ?_⟩
   ·rintro j ys H' ⟨ts,rfl,rfl,_⟩
    rw [List.length_map]
    exact Nat.le_refl _
   ·rintro j ys H' hj _
    exact hj
   ·rintro ys H' _
    exact Nat.le_refl _
   ·rintro j ys H3 hj ⟨ts,rfl,rfl,hm,h3,g3⟩ y H'' ⟨rfl,rfl⟩
    refine ⟨_,rfl,_,rfl,p,a,_,rfl,h3,by decide,by decide,fun r H4 r0 r1 h4 g4 u4=>?_⟩
    have es4:=(g3.trans g4) _ _ es2 nsp
    obtain ⟨c,hc,hat⟩:=Pq hne r
    refine ⟨_,rfl,_,_,rfl,.inl ⟨_,SqL.of es4,rfl⟩,_,_,rfl,rfl,?_,sa,_,_,_,rfl,rfl,SqL.of es4,hat,?_⟩
    ·rw [List.length_map]
     have:=List.length_pos_iff.mpr hne
     omega
    refine ⟨ts++[c],by rw [List.map_append]; rfl,by rw [List.length_append]; rfl,fun t ht=>?_,h4,g3.trans g4⟩
    rcases List.mem_append.mp ht with ht | ht
    ·exact hm t ht
    ·rw [List.mem_singleton.mp ht]; exact hc
   ·rintro ys H3 ⟨ts,rfl,lt,hm,h3,g3⟩ q hq
    have g:=((Grow.same s1).trans g2).trans g3
    obtain ⟨_,ep3⟩:=Xc h3
    have nq:q≠p:=Ne.symm (Zq ep3 hq)
    exact k q ts _ (g.free hq nq) nq Zg hm (by omega) (h3.same (Zb hq)) (g.trans (Grow.same (Zb hq)))
theorem ok_odds_between (T:Txt mg) {f:Addr} {fd:FuncData} (F:Fun K "odds_between" "odds_between" Y5 f fd):FnOk P w K mg base CX0 1 f fd ["one", "other"] Zi3:=by
 refine F.ok sc_odds_between (fun vs H Q E h=>?_) (fun cdv A outer s H vs Q E hr h=>?_)
 ·obtain ⟨v1,v2,p,q,rfl,_⟩:=h
  rfl
 ·obtain ⟨v1,v2,p,q,rfl,⟨t1,w1,rfl,a1,b1⟩,⟨t2,w2,rfl,a2,b2⟩,l1,l2,k⟩:=h
  have SC:=sc_odds_between
  have hu:=hr.units
  refine ⟨_,(Zf (Xk (Z2 Zfn (Ye Tb (pv 0) Zj (fun _ _=>rfl)) (Ye Tb (pv 1) Zj (fun _ _=>rfl)) (Z6 _))
 (Zn (Z5 Ss))
 Z7)
 (Zf (Zv (i:=2) SC.nd rfl (Or.inl rfl) (Zt (Zgv rfl) (by rfl) T.b_min PyProof.Rows.boot_min (Za (Zt Xp (by rfl) T.b_len PySem.boot_len (Za (Ye Tb (pv 0) Zj (fun _ _=>rfl)) Zd)) (Za (Zt Xp (by rfl) T.b_len PySem.boot_len (Za (Ye Tb (pv 1) Zj (fun _ _=>rfl)) Zd)) Zd))))
 (Zf (Xk (Z2 (Zcg hu) (Z9 Zaq (Ye Tb (pv 0) Zj (fun _ _=>rfl)) Yq (Yf (pv 2))) (Z9 Zaq (Ye Tb (pv 1) Zj (fun _ _=>rfl)) Yq (Yf (pv 2))) (Z6 _))
 (Zn (Z5 Ss))
 Z7)
 (Zn (Z5 Zcd))))),?_⟩
  refine ⟨_,rfl,t1,_,_,_,rfl,rfl,SqT.of a1,rfl,_,rfl,t2,_,_,_,rfl,rfl,SqT.of a2,rfl,rfl,_,rfl,?_⟩
  refine ite2 (fun h=>?_) (fun h=>?_)
  ·have e:p.1=q.1:=by simpa using h
   have o:Su p q=.str (Str.ofString "twice"):=if_pos e
   have kk:=k H (.refl _)
   rw [o] at kk
   exact kk
  ·have e:¬ p.1=q.1:=by simpa using h
   refine ⟨_,rfl,t1,_,_,_,rfl,rfl,SqT.of a1,rfl,_,_,rfl,.inr ⟨_,SqT.of b1,rfl⟩,_,rfl,t2,_,_,_,rfl,rfl,SqT.of a2,rfl,_,_,rfl,.inr ⟨_,SqT.of b2,rfl⟩,_,_,rfl,?_⟩
   rw [List.length_map,List.length_map,Zk7]
   refine ⟨_,rfl,t1,_,_,_,rfl,rfl,SqT.of a1,rfl,_,rfl,_,rfl,Ze4 b1 (Int.natCast_nonneg _) (by omega) fun u1 H1 s1 e1=>⟨_,rfl,t2,_,_,_,rfl,rfl,SqT.of (s1 _ _ a2),rfl,_,rfl,_,rfl,Ze4 (s1 _ _ b2) (Int.natCast_nonneg _) (by omega) fun u2 H2 s2 e2 =>
    ⟨_,_,DV.tup (SqT.of (s2 _ _ e1)) (Te _),DV.tup (SqT.of e2) (Te _),(Nh _).shaped (by decide),(Nh _).shaped (by decide),_,rfl,?_⟩⟩⟩
   rw [Zlr,Int.toNat_natCast]
   have kk:=k H2 (s1.trans s2)
   unfold Su at kk
   rw [if_neg e] at kk
   refine ite2 (fun h=>?_) (fun h=>?_)
   ·rw [if_pos (of_decide_eq_true h)] at kk
    exact kk
   ·rw [if_neg (fun z=>h (decide_eq_true z))] at kk
    exact kk
theorem ok_fault (T:Txt mg) (W2:Cal P w K mg base "odds_between" 1 ["one", "other"] Zi3) {f:Addr} {fd:FuncData} (F:Fun K "fault" "fault" To f fd):FnOk P w K mg base CX0 2 f fd ["table"] U5:=by
 refine F.ok sc_fault (fun vs H Q E h=>?_) (fun cdv A outer s H vs Q E hr h=>?_)
 ·obtain ⟨a,L,rfl,_⟩:=h
  rfl
 ·obtain ⟨a,L,rfl,⟨vs,ea,pa⟩,fr,⟨hl,hw⟩,k⟩:=h
  have SC:=sc_fault
  have Re:Room 1 _:=hr.mono (by decide)
  have lv:=Paired.length pa
  refine ⟨_,(Zf (Wf PassesOwn.never rfl (Yh rfl T.b_range (Za (Zt Xp (by rfl) T.b_len PySem.boot_len (Za (pv 0) Zd)) Zd)) (Zr (i:=1) SC.nd rfl (Or.inl rfl))
 (Zn (Wf PassesOwn.never rfl (Yh rfl T.b_range (Za (pv 1) Zd)) (Zr (i:=2) SC.nd rfl (Or.inl rfl))
 (Zf (Zv (i:=3) SC.nd rfl (Or.inl rfl) (Zw W2 Re rfl (Za (Ye Xb (pv 0) (pv 2) (fun _ _=>rfl)) (Za (Ye Xb (pv 0) (pv 1) (fun _ _=>rfl)) Zd))))
 (Zn (Xk (Sn (Zkz (pv 3)))
 (Zn (Z5 (W7 (Za (pv 3) (Za (pv 2) (Za (pv 1) Zd))))))
 Z7))))))
 (Zn (Z5 Zcd))),?_⟩
  refine ⟨_,rfl,_,_,rfl,.inl ⟨_,SqL.of ea,rfl⟩,(vs.length:Int),rfl,by omega,by omega,Tc (n:=vs.length) (fun j σ H'=>∃ v1 v2 v3,σ=[some (.ref a),v1,v2,v3]/\Same H H') ⟨_,_,_,rfl,.refl _⟩ ?_ ?_⟩
  ·rintro j σ H1 hj ⟨v1,v2,v3,rfl,s1⟩
   refine ⟨_,rfl,(0 + (j:Int)),rfl,by omega,by omega,Tc (n:=(0 + (j:Int)).toNat) (fun i σ H'=>∃ v2 v3,σ=[some (.ref a),some (.int (0 + (j:Int))),v2,v3]/\Same H H') ⟨_,_,rfl,s1⟩ ?_ ?_⟩
   ·rintro i σ H2 hi ⟨v2,v3,rfl,s2⟩
    have hij:i < j:=by omega
    have h1:=Paired.at pa (i:=i) (by omega) (by omega)
    have h2:=Paired.at pa (i:=j) hj (by omega)
    refine ⟨_,rfl,_,rfl,a,_,_,_,rfl,rfl,SqL.of (s2 _ _ ea),(Pu (List.getElem?_eq_getElem (by omega:i < vs.length))),_,rfl,_,rfl,a,_,_,_,rfl,rfl,SqL.of (s2 _ _ ea),(Pu (List.getElem?_eq_getElem hj)),_,_,_,_,rfl,h1.tk s2.tk,h2.tk s2.tk,?_,?_,fun H3 s3=>?_⟩
    ·exact Nat.le_trans (hw _ (List.getElem_mem _)).2 (by decide)
    ·exact Nat.le_trans (hw _ (List.getElem_mem _)).2 (by decide)
    ·rw [Zdj (fr.get (by omega) (by omega) hij)]
     refine ⟨_,rfl,_,rfl,Zqz rfl ?_⟩
     exact ⟨_,_,rfl,s2.trans s3⟩
   ·rintro σ H2 ⟨v2,v3,rfl,s2⟩
    exact ⟨_,_,_,rfl,s2⟩
  ·rintro σ H1 ⟨v1,v2,v3,rfl,s1⟩
   exact k H1 s1
theorem ok_refuse_fault (T:Txt mg) (Zbw:Cal P w K mg base "fault" 2 ["table"] U5) {f:Addr} {fd:FuncData} (F:Fun K "refuse_fault" "refuse_fault" Y4 f fd):FnOk P w K mg base CX0 3 f fd ["table"] U5:=by
 refine F.ok sc_refuse_fault (fun vs H Q E h=>?_) (fun cdv A outer s H vs Q E hr h=>?_)
 ·obtain ⟨a,L,rfl,_⟩:=h
  rfl
 ·obtain ⟨a,L,rfl,ta,fr,fi,k⟩:=h
  have SC:=sc_refuse_fault
  have Zic:Room 2 _:=hr.mono (by decide)
  refine ⟨_,(Zf (Zv (i:=1) SC.nd rfl (Or.inl rfl) (Zw Zbw Zic rfl (Za (pv 0) Zd)))
 (Zf (Xk (Sn (Zfh (pv 1)))
 (Zn Zkq)
 Z7)
 (Zf (Xk (Z2 Zfn (Ye Tb (pv 1) Zj (fun _ _=>rfl)) Ss (Z6 _))
 (Zn Vg)
 Z7)
 (Zn Vg)))),?_⟩
  refine ⟨_,rfl,a,L,rfl,ta,fr,fi,fun H1 s1=>?_⟩
  exact ⟨_,rfl,_,rfl,iteT (k H1 s1)⟩
theorem ok_beginnings (T:Txt mg) {f:Addr} {fd:FuncData} (F:Fun K "beginnings" "beginnings" Xu f fd):FnOk P w K mg base CX0 1 f fd ["words"] Zep:=by
 refine F.ok sc_beginnings (fun vs H Q E h=>?_) (fun cdv A outer s H vs Q E hr h=>?_)
 ·obtain ⟨a,vws,ws,rfl,_⟩:=h
  rfl
 ·obtain ⟨a,vws,ws,rfl,ea,pa,hl,hw,k⟩:=h
  have SC:=sc_beginnings
  have hu1:=Wt hr
  have lv:=Paired.length pa
  refine ⟨_,(Zf (Zv (i:=1) SC.nd rfl (Or.inl rfl) Zhy)
 (Zf (Wf PassesOwn.never rfl (Y0 (pv 0)) (Zr (i:=2) SC.nd rfl (Or.inl rfl))
 (Zn (Wf PassesOwn.never rfl (Yh rfl T.b_range (Za (Zt Xp (by rfl) T.b_len PySem.boot_len (Za (pv 2) Zd)) Zd)) (Zr (i:=3) SC.nd rfl (Or.inl rfl))
 (Zn (Zax hu1 (pv 1) (Z9 Znf (pv 2) Yq (Yf (pv 3))) Q4 rfl)))))
 (Zn (Z5 (pv 1))))),?_⟩
  refine fun d hd=>?_
  have nad:a≠d:=Zq ea hd
  have ea1:(upd H d (.dT [])) a=some (.lst vws):=by rw [Zm nad]; exact ea
  refine ⟨_,rfl,a,rfl,⟨_,SqL.of ea1⟩,Zig (xs:=vws) (fun i σ H'=>∃ v2 v3 kvs,σ=[some (.ref a),some (.ref d),v2,v3]/\(∀ b o,H b=some o->H' b=some o)/\H' d=some (.dT kvs)/\kvs.length<=8 * i/\Tz kvs (ws.take i) [] 0)
   ⟨_,_,[],rfl,Zb hd,Zg,Nat.le_refl _,by rw [List.take_zero]; exact Tz.nil _⟩ ?_ ?_ ?_⟩
  ·rintro i σ H1 hi ⟨v2,v3,kvs,rfl,s1,ed,hk,hb⟩
   exact SqL.of (s1 _ _ ea)
  ·rintro i x σ H1 hx ⟨v2,v3,kvs,rfl,s1,ed,hk,hb⟩
   have hi:i < vws.length:=(List.getElem?_eq_some_iff.mp hx).1
   have hi2:i < ws.length:=by omega
   obtain ⟨tw,ex,ew⟩:=Paired.at pa hi hi2
   have ex2:x=V.ref tw:=by rw [<- ex]; exact (List.getElem?_eq_some_iff.mp hx).2.symm
   subst ex2
   have hwl:ws[i].length<=4:=hw _ (List.getElem_mem hi2)
   have en:(((ws[i].map V.int).length:Nat):Int).toNat=ws[i].length:=by rw [List.length_map]; exact Int.toNat_natCast _
   refine ⟨_,rfl,_,_,rfl,.inr ⟨_,SqT.of (s1 _ _ ew),rfl⟩,(((ws[i].map V.int).length:Nat):Int),rfl,by rw [List.length_map]; omega,by rw [List.length_map]; omega,
    Tc (n:=(((ws[i].map V.int).length:Nat):Int).toNat) (fun n σ H'=>∃ v3 kvs,σ=[some (.ref a),some (.ref d),some (.ref tw),v3]/\(∀ b o,H b=some o->H' b=some o)/\H' d=some (.dT kvs)/\kvs.length<=8 * i + n/\Tz kvs (ws.take i) ws[i] n) ⟨_,kvs,rfl,s1,ed,hk,?_⟩ ?_ ?_⟩
   ·intro u
    rw [hb u]
    refine decide_eq_decide.mpr ⟨fun z=>?_,fun z=>?_⟩
    ·rcases z with z | ⟨_,z⟩
     ·exact .inl z
     ·exact absurd z (Nat.not_lt_zero _)
    ·rcases z with z | ⟨_,z⟩
     ·exact .inl z
     ·exact absurd z (Nat.not_lt_zero _)
   ·rintro n σ H2 hn ⟨v3,kvs2,rfl,s2,ed2,hk2,hb2⟩
    rw [en] at hn
    have hcut:cutV (ws[i].map V.int) none (some (0 + (n:Int)))=(wk (ws[i].take n)).map kV:=by
     rw [Zbn _ (by omega) (by omega),Zmn]
     congr 2
     omega
    refine ⟨_,rfl,_,rfl,_,rfl,_,rfl,tw,_,rfl,SqT.of (s2 _ _ ew),?_,fun p hp=>?_⟩
    ·rintro ⟨_,z⟩
     rw [show (some (0 + (n:Int)))=some ((n:Nat):Int) by congr 1; omega,HT.sIx_nat,List.length_map] at z
     omega
    ·rw [hcut]
     have npd:d≠p:=Zq ed2 hp
     have hz:kvs2.length < sizeLine:=Nat.lt_of_le_of_lt (Nat.le_trans hk2 (by omega)) (show 1000 < sizeLine by decide)
     refine ⟨d,_,rfl,DPut.t (k:=wk (ws[i].take n)) (by rw [Zm npd]; exact ed2) Zg hz,?_⟩
     refine ⟨_,_,rfl,fun b o e=>?_,Zg,?_,hb2.put (Nat.le_of_lt hn)⟩
     ·have nb:b≠d:=Zq e hd
      rw [Zm nb]
      exact Zb hp b o (s2 b o e)
     ·have:=Xa kvs2 (wk (ws[i].take n)) (V.bl true)
      omega
   ·rintro σ H2 ⟨v3,kvs2,rfl,s2,ed2,hk2,hb2⟩
    rw [en] at hk2 hb2
    refine ⟨_,_,kvs2,rfl,s2,ed2,by omega,?_⟩
    rw [List.take_succ_eq_append_getElem hi2]
    exact hb2.next _
  ·rintro σ H1 ⟨v2,v3,kvs,rfl,s1,ed,hk,hb⟩
   refine ⟨_,rfl,k d kvs H1 s1 hd ed ?_⟩
   rw [lv,List.take_length] at hb
   exact hb.done
abbrev lamQ:Str:=Str.ofString "Code.__init__"++".<locals>."++"<lambda>"
abbrev lamP:Pos:=⟨143,45,143,65⟩
structure CodeT (K:W.Frag) (C:Addr):Prop where
 cl:Cls K C
 n_pairs:Yo K C "pairs"
 n_words_by_sign:Yo K C "words_by_sign"
 n_signs_by_word:Yo K C "signs_by_word"
 n_begun:Yo K C "begun"
 n_word_sizes:Yo K C "word_sizes"
structure St5 (C Pt:Addr) (H Hc:Hp) (x dx tp:Addr) (fs:List (Str×V)) (M:List PK3):Prop where
 g:∀ b o,b≠x->b≠Pt->H b=some o->Hc b=some o
 tb:Va Pt lamP lamQ Hc
 ex:Hc x=some (.ins C dx fs)
 etp:Hc tp=some (.tup (M.map (·.v)))
 at_:∀ e∈M,e.At Hc
theorem St5.same {C Pt:Addr} {H Hc Hn:Hp} {x dx tp:Addr} {fs:List (Str×V)} {M:List PK3} (h:St5 C Pt H Hc x dx tp fs M) (s:Same Hc Hn):St5 C Pt H Hn x dx tp fs M :=
 ⟨fun b o n1 n2 e=>s _ _ (h.g b o n1 n2 e),h.tb.same s,s _ _ h.ex,s _ _ h.etp,fun e he=>(h.at_ e he).tk s.tk⟩
theorem St5.fld {C Pt:Addr} {H Hc:Hp} {x dx tp:Addr} {fs fs':List (Str×V)} {M:List PK3} (h:St5 C Pt H Hc x dx tp fs M):St5 C Pt H (upd Hc x (.ins C dx fs')) x dx tp fs' M:=by
 have gr:Grow x Hc (upd Hc x (.ins C dx fs')):=fun b o e n=>by rw [Zm n]; exact e
 exact ⟨fun b o n1 n2 e=>gr _ _ (h.g b o n1 n2 e) n1,h.tb.grow h.ex gr,Zg,gr _ _ h.etp (Wg h.etp h.ex fun z=>by cases z),fun e he=>(h.at_ e he).tk (gr.tkI h.ex)⟩
theorem St5.new {C Pt:Addr} {H Hc:Hp} {x dx tp:Addr} {fs:List (Str×V)} {M:List PK3} (h:St5 C Pt H Hc x dx tp fs M) {d:Addr} (hd:Hc d=none):H d=none:=by
 cases e:H d with
 | none=>rfl
 | some o =>
  obtain ⟨ps,eP,_⟩:=h.tb
  rw [h.g d o (fun z=>by rw [z,h.ex] at hd; cases hd) (fun z=>by rw [z,eP] at hd; cases hd) e] at hd
  cases hd
theorem Tt {α β γ:Type} {F:α->β->Prop} {f:γ->α} {g:γ->β}:∀ {M:List γ},(∀ e∈M,F (f e) (g e))->Paired F (M.map f) (M.map g)
 | [],_=>.nil
 | e::r,h=>.cons (h e List.mem_cons_self) (Tt fun x hx=>h x (List.mem_cons_of_mem _ hx))
theorem Ts {α β γ δ:Type} {F:α->γ->Prop} {G:β->δ->Prop} {f:α->β} {g:γ->δ} (h:∀ a c,F a c->G (f a) (g c)):∀ {l:List α} {m:List γ},Paired F l m->Paired G (l.map f) (m.map g)
 | _,_,.nil=>.nil
 | _,_,.cons a r=>.cons (h _ _ a) (Ts h r)
theorem ok_Code___init__ (T:Txt mg) {C Pt c:Addr} (CT:CodeT K C) (hCd:W.CodeHd base c Pt) (hBm:Bm mg base) (W1:Cal P w K mg base "refuse_fault" 3 ["table"] U5) (Ua:Cal P w K mg base "beginnings" 1 ["words"] Zep)
  {f:Addr} {oc:Value} {od an:Option Addr} {osl:Array (Option Value)} {kW doc pm ct:Value}
  (lk:K.lookup f=some ⟨oc,od,.func (W.fnOf "__init__" "Code.__init__" (Zx Z0) (Zu Z0) (Zi Z0) .none kW doc pm an (.ref c) ct),osl⟩) (hcd:W.codeIn K (.ref c) "Code.__init__"=true) :
  FnOk P w K mg base CX0 4 f (W.fnOf "__init__" "Code.__init__" (Zx Z0) (Zu Z0) (Zi Z0) .none kW doc pm an (.ref c) ct) ["self", "table"] (L3.Zap C Pt lamP lamQ):=by
 refine Fun.okC lk hcd sc_Code___init__ (fun vs H Q E h=>?_) (fun A outer s H vs Q E hr h=>?_)
 ·obtain ⟨x,a,dx,L,rfl,_⟩:=h
  rfl
 ·obtain ⟨x,a,dx,L,rfl,ex,⟨vs,ea,pa⟩,fr,⟨hl,hw⟩,tb,k⟩:=h
  have SC:=sc_Code___init__
  have Rc:Room 3 _:=hr.mono (by decide)
  have Pd:Room 1 _:=hr.mono (by decide)
  have Zf4:Room 3 _:=hr.mono (by decide)
  have Zbd:Room 3 _:=hr.mono (by decide)
  have hcode:(cxOf CX0 P w K mg base ["self", "table"] "Code.__init__" (Zi Z0) f (.ref c) A outer s H E).nox.env.code=.ref c:=rfl
  refine ⟨_,(Zf (Vu (Zw W1 Rc rfl (Za (pv 1) Zd)))
 (Zf (Sq (pv 0) (Z4 Vl (by rfl) T.b_tuple PyProof.Rows.boot_tuple (Za (Zhw Zf4 rfl T.b_sorted (Za (pv 1) Zd) hcode hCd hBm rfl rfl ⟨rfl,rfl,rfl,by decide +kernel,rfl,by decide +kernel,by decide +kernel⟩ (fun _ _ _ _=>rfl) (fun _ _ _ _ _ _=>(Ye (Zpi (K:=K) rfl) (pv 0) Zj (fun _ _=>rfl)))) Zd)) rfl)
 (Zf (Sq (pv 0) (Z4 (V5 Zbd rfl) (by rfl) T.b_dict PyProof.Rows.boot_dict (Za (Ww (pv 0) rfl) Zd)) rfl)
 (Zf (Sq (pv 0) (Z4 (V5 Zbd rfl) (by rfl) T.b_dict PyProof.Rows.boot_dict (Za (Xq (T:=["sign", "word"]) (cs:=[]) rfl (CScope.ok (by kernel_rfl)) (Ze8 (Ww (pv 0) rfl)) (fun _ _ _ _=>(Wv (n:=2) rfl (Zy (Zr (i:=0) (Xl (by kernel_rfl)) rfl (Or.inl rfl) (Or.inr rfl)) (Zy (Zr (i:=1) (Xl (by kernel_rfl)) rfl (Or.inl rfl) (Or.inr rfl)) X2)) (by rfl))) (fun _ _ _ _=>Y7) (fun _ _ _ _=>(W7 (Za (pv 1) (Za (pv 0) Zd)))) (T4 (Yu (by decide) (Yu (by decide) V2)))) Zd)) rfl)
 (Zf (Sq (pv 0) (Zw Ua Pd rfl (Za (Xq (T:=["sign", "word"]) (cs:=[]) rfl (CScope.ok (by kernel_rfl)) (Ze8 (Ww (pv 0) rfl)) (fun _ _ _ _=>(Wv (n:=2) rfl (Zy (Zr (i:=0) (Xl (by kernel_rfl)) rfl (Or.inl rfl) (Or.inr rfl)) (Zy (Zr (i:=1) (Xl (by kernel_rfl)) rfl (Or.inl rfl) (Or.inr rfl)) X2)) (by rfl))) (fun _ _ _ _=>Y7) (fun _ _ _ _=>(pv 1)) (T4 (Yu (by decide) (Yu (by decide) V2)))) Zd)) rfl)
 (Zn (Sq (pv 0) (Z4 Vl (by rfl) T.b_tuple PyProof.Rows.boot_tuple (Za (Zt (Zdt rfl) (by rfl) T.b_sorted PyProof.Rows.boot_sorted (Za (Z4 (V5 Zbd rfl) (by rfl) T.b_dict PyProof.Rows.boot_dict (Za (Xq (T:=["sign", "word"]) (cs:=[]) rfl (CScope.ok (by kernel_rfl)) (Ze8 (Ww (pv 0) rfl)) (fun _ _ _ _=>(Wv (n:=2) rfl (Zy (Zr (i:=0) (Xl (by kernel_rfl)) rfl (Or.inl rfl) (Or.inr rfl)) (Zy (Zr (i:=1) (Xl (by kernel_rfl)) rfl (Or.inl rfl) (Or.inr rfl)) X2)) (by rfl))) (fun _ _ _ _=>Y7) (fun _ _ _ _=>(W7 (Za (Zt (Yy (K:=K) rfl) (by rfl) T.b_len PySem.boot_len (Za (pv 1) Zd)) (Za Q4 Zd)))) (T4 (Yu (by decide) (Yu (by decide) V2)))) Zd)) Zd)) Zd)) rfl))))))),?_⟩
  refine ⟨_,rfl,a,L,rfl,⟨vs,ea,pa⟩,fr,⟨hl,hw⟩,fun H1 s1=>?_⟩
  obtain ⟨M,m1,m2,m3⟩:=Zjg (pa.tk s1.tk)
  obtain ⟨ps,hP,_,_⟩:=id tb
  have hP1:=s1 _ _ hP
  have lM:M.length=L.length:=by rw [<- m2,List.length_map]
  refine ⟨_,rfl,a,M.map PK3.k,rfl,?_,?_,?_,?_,tb.same s1,?_,fun H2 D L' sT T2 hD pm pw=>?_⟩
  ·have e1:(M.map PK3.k).map (·.1)=vs:=by rw [List.map_map,<- m1]; rfl
   rw [e1]
   exact SqL.of (s1 _ _ ea)
  ·rw [List.length_map]; omega
  ·intro q hq
   obtain ⟨e,he,rfl⟩:=List.mem_map.mp hq
   obtain ⟨t,_,_,cw⟩:=m3 e he
   exact ⟨SqT.of cw,(hw e.p (by rw [<- m2]; exact List.mem_map.mpr ⟨e,he,rfl⟩)).1⟩
  ·have e1:(M.map PK3.k).map (·.2.2)=L.map (·.2):=by rw [List.map_map,<- m2,List.map_map]; rfl
   rw [e1]
   exact List.pairwise_map.mpr (fr.imp fun {a b} z e=>z.2.1 (by rw [e]; exact List.prefix_refl _))
  ·intro H2 q sT hq
   obtain ⟨e,he,rfl⟩:=List.mem_map.mp hq
   obtain ⟨t,ev,b,_⟩:=m3 e he
   exact ⟨e.v,rfl,t,_,1,_,ev,rfl,SqT.of (sT _ _ (Wg b hP1 fun z=>by cases z) b),rfl,rfl,rfl⟩
  ·obtain ⟨M',pM,rfl⟩:=Zfb pm rfl
   have xP:x≠Pt:=Wg ex hP fun z=>by cases z
   have ex2:H2 x=some (.ins C dx []):=sT _ _ xP (s1 _ _ ex)
   have at2:∀ e∈M',e.At H2:=fun e he=>(m3 e (pM.mem_iff.mp he)).tk (sT.tk hP1)
   have vv:(M'.map PK3.k).map (·.1)=M'.map (·.v):=by rw [List.map_map]; rfl
   have hS:(M'.map (·.p)).Perm L:=by have:=pM.map (·.p); rw [m2] at this; exact this
   have lM':M'.length < 64:=by have:=hS.length_eq; rw [List.length_map] at this; omega
   have hpL:∀ e∈M',e.p∈L:=fun e he=>hS.mem_iff.mp (List.mem_map.mpr ⟨e,he,rfl⟩)
   have hri:Px (M'.map (·.p)):=List.pairwise_map.mpr ((List.pairwise_map.mp pw).imp fun z=>z)
   refine ⟨_,_,rfl,.inl ⟨SqL.of Zg,fun tp htp=>?_⟩⟩
   rw [vv]
   rw [vv] at htp
   have sA:Same H2 (upd (upd H2 D (.lst (M'.map (·.v)))) tp (.tup (M'.map (·.v)))):=(Zb hD).trans (Zb htp)
   have S3:St5 C Pt H (upd (upd H2 D (.lst (M'.map (·.v)))) tp (.tup (M'.map (·.v)))) x dx tp [] M' :=
    ⟨fun b o n1 n2 e=>sA _ _ (sT _ _ n2 (s1 _ _ e)),T2.same sA,sA _ _ ex2,Zg,fun e he=>(at2 e he).tk sA.tk⟩
   generalize upd (upd H2 D (.lst (M'.map (·.v)))) tp (.tup (M'.map (·.v)))=H3 at S3
   refine ⟨_,rfl,x,C,dx,[],rfl,S3.ex,CT.cl,CT.n_pairs,by decide,?_⟩
   have S4:=S3.fld (fs':=[("pairs",.ref tp)])
   show tSeq _ _ _ _ (upd H3 x (.ins C dx [("pairs",.ref tp)]))
   generalize upd H3 x (.ins C dx [("pairs",.ref tp)])=H4 at S4
   refine ⟨_,rfl,x,C,dx,_,_,rfl,S4.ex,CT.cl,CT.n_pairs,rfl,tp,_,(M'.map fun e=>((Sum.inl e.p.1:Key),V.ref e.tw)).map (fun z=>(kV z.1,z.2)),.dK [],rfl,.inr S4.etp,?_,.inl rfl,fun d1 hd1=>⟨_,Zbk _ [] ?_,?_⟩⟩
   ·rw [List.map_map]
    exact Tt fun e he=>by
     obtain ⟨t,ev,b,_⟩:=S4.at_ e he
     exact ⟨t,ev,SqT.of b⟩
   ·rw [List.length_nil,List.length_map]; exact Nat.lt_of_lt_of_le (by omega:0 + M'.length < 64) (show 64<=sizeLine by decide)
   have nd1:=S4.new hd1
   have ndS:(M'.map fun e=>((Sum.inl e.p.1:Key))).Nodup:=by
    have h1:(L.map (·.1)).Nodup:=List.pairwise_map.mpr (fr.imp fun {a b} z=>z.1)
    have h2:((M'.map (·.p)).map (·.1)).Nodup:=(hS.map (·.1)).nodup_iff.mpr h1
    rw [List.map_map] at h2
    exact List.pairwise_map.mpr ((List.pairwise_map.mp h2).imp fun z e=>z (Sum.inl.inj e))
   have wb:∀ Hx:Hp,(∀ e∈M',e.At Hx)->Vp Hx (Wa [] (M'.map fun e=>((Sum.inl e.p.1:Key),V.ref e.tw))) (M'.map (·.p)):=fun Hx ax=>by
    refine ⟨fun p hp=>?_,fun sg hsg=>?_⟩
    ·obtain ⟨e,he,rfl⟩:=List.mem_map.mp hp
     obtain ⟨t,_,_,cw⟩:=ax e he
     exact ⟨e.tw,Ro _ _ (by rw [List.map_map]; exact ndS) (List.mem_map.mpr ⟨e,he,rfl⟩),cw⟩
    ·rw [Td _ _ fun z hz=>?_]
     ·rfl
     ·obtain ⟨e,he,rfl⟩:=List.mem_map.mp hz
      exact fun q=>hsg e.p (List.mem_map.mpr ⟨e,he,rfl⟩) (Sum.inl.inj q)
   have S5:=S4.same (Zb (o:=.dK (Wa [] (M'.map fun e=>((Sum.inl e.p.1:Key),V.ref e.tw)))) hd1)
   have ed1:(upd H4 d1 (.dK (Wa [] (M'.map fun e=>((Sum.inl e.p.1:Key),V.ref e.tw))))) d1=_:=Zg
   generalize upd H4 d1 (.dK (Wa [] (M'.map fun e=>((Sum.inl e.p.1:Key),V.ref e.tw))))=H5 at S5 ed1
   refine ⟨_,rfl,x,C,dx,_,rfl,S5.ex,CT.cl,CT.n_words_by_sign,(by show 1 < 1000; decide),?_⟩
   have S6:=S5.fld (fs':=[("pairs",.ref tp),("words_by_sign",.ref d1)])
   have ed1':(upd H5 x (.ins C dx [("pairs",.ref tp),("words_by_sign",.ref d1)])) d1=_:=(Zm (Wg ed1 S5.ex fun z=>by cases z)).trans ed1
   show tSeq _ _ _ _ (upd H5 x (.ins C dx [("pairs",.ref tp),("words_by_sign",.ref d1)]))
   generalize upd H5 x (.ins C dx [("pairs",.ref tp),("words_by_sign",.ref d1)])=H6 at S6 ed1'
   have go6:∀ (Hx:Hp) (i:Nat),Hx tp=some (.tup (M'.map (·.v)))->i < M'.length->(Itt K tp).go i Hx:=fun Hx i e hi=>⟨_,_,SqT.of e,List.getElem?_eq_getElem (by rw [List.length_map]; exact hi)⟩
   have stop6:∀ Hx:Hp,Hx tp=some (.tup (M'.map (·.v)))->(Itt K tp).stop M'.length Hx:=fun Hx e=>⟨_,SqT.of e,by rw [List.length_map]; exact Nat.le_refl _⟩
   have yld6:∀ (Hx:Hp) (i:Nat) (y:V) (H':Hp) (hi:i < M'.length),Hx tp=some (.tup (M'.map (·.v)))->(Itt K tp).yld i Hx y H'->H'=Hx/\y=M'[i].v:=fun Hx i y H' hi e z=>by
    refine ⟨z.1,?_⟩
    have:=z.2 _ (SqT.of e)
    rw [List.getElem?_map,List.getElem?_eq_getElem hi] at this
    exact (Option.some.inj this).symm
   refine ⟨_,rfl,x,C,dx,_,_,rfl,S6.ex,CT.cl,CT.n_pairs,rfl,tp,rfl,⟨_,SqT.of S6.etp⟩,Wr (n:=M'.length)
    (fun j ys Hn=>∃ ts:List Addr,ys=ts.map V.ref/\ts.length=j/\Same H6 Hn/\Paired (fun t (e:PK3)=>Hn t=some (.tup [.ref e.tw,.int e.p.1])) ts (M'.take j)) ⟨[],rfl,rfl,.refl _,by rw [List.take_zero]; exact .nil⟩ ?_ (Zo (by omega)) ?_ ?_ ?_ ?_⟩
   ·rintro j ys Hn ⟨ts,rfl,rfl,_⟩
    rw [List.length_map]
    exact Nat.le_refl _
   ·rintro j ys Hn hj ⟨ts,rfl,rfl,sn,_⟩
    exact go6 _ _ (sn _ _ S6.etp) hj
   ·rintro ys Hn ⟨ts,rfl,_,sn,_⟩
    exact stop6 _ (sn _ _ S6.etp)
   ·rintro j ys Hn hj ⟨ts,rfl,rfl,sn,pn⟩ y H' hy
    obtain ⟨rfl,rfl⟩:=yld6 _ _ _ _ hj (sn _ _ S6.etp) hy
    obtain ⟨t,ev,b,cw⟩:=(S6.at_ _ (List.getElem_mem hj)).tk sn.tk
    refine ⟨t,_,ev,SqT.of b,rfl,_,_,rfl,_,_,rfl,rfl,?_⟩
    refine ⟨_,rfl,_,rfl,by show 2<=sizeLine; decide,fun q hq=>?_⟩
    refine ⟨ts++[q],by rw [List.map_append]; rfl,by rw [List.length_append]; rfl,sn.trans (Zb hq),?_⟩
    rw [List.take_succ_eq_append_getElem hj]
    refine L2.Paired.snoc ?_ ?_
    ·exact Zg
    ·exact L2.Paired.mapP pn fun _ _ z=>Zb hq _ _ z
   ·rintro ys Hn ⟨ts,rfl,lt,sn,pn⟩ q hq
    rw [List.take_length] at pn
    have sq:=sn.trans (Zb (o:=.lst (ts.map V.ref)) hq)
    have pn':=Paired.mapP pn fun _ _ z=>Zb (o:=.lst (ts.map V.ref)) hq _ _ z
    have eq:(upd Hn q (.lst (ts.map V.ref))) q=_:=Zg
    have S7:=S6.same sq
    have ed7:=sq _ _ ed1'
    generalize upd Hn q (.lst (ts.map V.ref))=H7 at S7 ed7 pn' eq
    refine ⟨q,_,(M'.map fun e=>(e.tw,wk e.p.2,V.int e.p.1)).map (fun z=>(.ref z.1,z.2.2)),.dT [],rfl,.inl eq,?_,.inr rfl,fun d2 hd2=>⟨_,Zge hd2 _ [] ?_ ?_,?_⟩⟩
    ·rw [List.map_map]
     exact Ts (fun t e z=>⟨t,rfl,SqT.of z⟩) pn'
    ·rw [List.length_nil,List.length_map]; exact Nat.lt_of_lt_of_le (by omega:0 + M'.length < 64) (show 64<=sizeLine by decide)
    ·intro z hz
     obtain ⟨e,he,rfl⟩:=List.mem_map.mp hz
     obtain ⟨t,_,_,cw⟩:=S7.at_ e he
     show H7 e.tw=some (.tup ((wk e.p.2).map kV))
     rw [Zmn]
     exact cw
    rw [List.map_map]
    have ndW:(M'.map fun e=>wk e.p.2).Nodup:=by
     have h1:(L.map (·.2)).Nodup:=List.pairwise_map.mpr (fr.imp fun {a b} z e=>z.2.1 (by rw [e]; exact List.prefix_refl _))
     have h2:((M'.map (·.p)).map (·.2)).Nodup:=(hS.map (·.2)).nodup_iff.mpr h1
     rw [List.map_map] at h2
     exact List.pairwise_map.mpr ((List.pairwise_map.mp h2).imp fun z e=>z (Zbz e))
    have sb:Zes (Wa [] (M'.map fun e=>(wk e.p.2,V.int e.p.1))) (M'.map (·.p)):=by
     refine ⟨fun p hp=>?_,fun u hu=>?_⟩
     ·obtain ⟨e,he,rfl⟩:=List.mem_map.mp hp
      exact Ro _ _ (by rw [List.map_map]; exact ndW) (List.mem_map.mpr ⟨e,he,rfl⟩)
     ·rw [Td _ _ fun z hz=>?_]
      ·rfl
      ·obtain ⟨e,he,rfl⟩:=List.mem_map.mp hz
       exact fun q=>hu e.p (List.mem_map.mpr ⟨e,he,rfl⟩) (Zbz q)
    have nd2:=S7.new hd2
    have S8:=S7.same (Zb (o:=.dT (Wa [] (M'.map fun e=>(wk e.p.2,V.int e.p.1)))) hd2)
    have ed8:=Zb (o:=.dT (Wa [] (M'.map fun e=>(wk e.p.2,V.int e.p.1)))) hd2 _ _ ed7
    have es8:(upd H7 d2 (.dT (Wa [] (M'.map fun e=>(wk e.p.2,V.int e.p.1))))) d2=_:=Zg
    show tVar 0 _ (upd H7 d2 (.dT (Wa [] (M'.map fun e=>(wk e.p.2,V.int e.p.1))))) _
    generalize upd H7 d2 (.dT (Wa [] (M'.map fun e=>(wk e.p.2,V.int e.p.1))))=H8 at S8 ed8 es8
    refine ⟨_,rfl,x,C,dx,_,rfl,S8.ex,CT.cl,CT.n_signs_by_word,(by show 2 < 1000; decide),?_⟩
    have S9:=S8.fld (fs':=[("pairs",.ref tp),("words_by_sign",.ref d1),("signs_by_word",.ref d2)])
    have ed9:(upd H8 x (.ins C dx [("pairs",.ref tp),("words_by_sign",.ref d1),("signs_by_word",.ref d2)])) d1=_:=(Zm (Wg ed8 S8.ex fun z=>by cases z)).trans ed8
    have es9:(upd H8 x (.ins C dx [("pairs",.ref tp),("words_by_sign",.ref d1),("signs_by_word",.ref d2)])) d2=_:=(Zm (Wg es8 S8.ex fun z=>by cases z)).trans es8
    show tSeq _ _ _ _ (upd H8 x (.ins C dx [("pairs",.ref tp),("words_by_sign",.ref d1),("signs_by_word",.ref d2)]))
    generalize upd H8 x (.ins C dx [("pairs",.ref tp),("words_by_sign",.ref d1),("signs_by_word",.ref d2)])=H9 at S9 ed9 es9
    refine ⟨_,rfl,x,C,dx,_,_,rfl,S9.ex,CT.cl,CT.n_pairs,rfl,tp,rfl,⟨_,SqT.of S9.etp⟩,Wr (n:=M'.length)
     (fun j ys Hn=>ys=(M'.take j).map (fun e=>V.ref e.tw)/\Hn=H9) ⟨by rw [List.take_zero]; rfl,rfl⟩ ?_ (Zo (by omega)) ?_ ?_ ?_ ?_⟩
    ·rintro j ys Hn ⟨rfl,rfl⟩
     rw [List.length_map,List.length_take]
     exact Nat.min_le_left _ _
    ·rintro j ys Hn hj ⟨rfl,rfl⟩
     exact go6 _ _ S9.etp hj
    ·rintro ys Hn ⟨rfl,rfl⟩
     exact stop6 _ S9.etp
    ·rintro j ys Hn hj ⟨rfl,rfl⟩ y H' hy
     obtain ⟨rfl,rfl⟩:=yld6 _ _ _ _ hj S9.etp hy
     obtain ⟨t,ev,b,cw⟩:=S9.at_ _ (List.getElem_mem hj)
     refine ⟨t,_,ev,SqT.of b,rfl,_,_,rfl,_,_,rfl,rfl,?_⟩
     refine ⟨_,rfl,?_,rfl⟩
     rw [List.take_succ_eq_append_getElem hj,List.map_append]
     rfl
    ·rintro ys Hn ⟨rfl,rfl⟩ q2 hq2
     rw [List.take_length]
     have sq2:=Zb (o:=.lst (M'.map fun e=>V.ref e.tw)) hq2
     have eq2:(upd Hn q2 (.lst (M'.map fun e=>V.ref e.tw))) q2=_:=Zg
     have S10:=S9.same sq2
     have ed10:=sq2 _ _ ed9
     have es10:=sq2 _ _ es9
     generalize upd Hn q2 (.lst (M'.map fun e=>V.ref e.tw))=H10 at S10 ed10 es10 eq2
     refine ⟨q2,_,M'.map (·.p.2),rfl,eq2,Tt fun e he=>?_,by rw [List.length_map]; exact lM',?_,fun d3 k3 H11 s11 nd3 ed3 hb3=>?_⟩
     ·obtain ⟨t,_,_,cw⟩:=S10.at_ e he
      exact ⟨_,rfl,cw⟩
     ·intro u hu
      obtain ⟨e,he,rfl⟩:=List.mem_map.mp hu
      exact (hw _ (hpL e he)).2
     have nd3':=S10.new nd3
     have S11:=S10.same s11
     have ed11:=s11 _ _ ed10
     have es11:=s11 _ _ es10
     refine ⟨_,rfl,x,C,dx,_,rfl,S11.ex,CT.cl,CT.n_begun,(by show 3 < 1000; decide),?_⟩
     have S12:=S11.fld (fs':=[("pairs",.ref tp),("words_by_sign",.ref d1),("signs_by_word",.ref d2),("begun",.ref d3)])
     have ed12:(upd H11 x (.ins C dx [("pairs",.ref tp),("words_by_sign",.ref d1),("signs_by_word",.ref d2),("begun",.ref d3)])) d1=_:=(Zm (Wg ed11 S11.ex fun z=>by cases z)).trans ed11
     have es12:(upd H11 x (.ins C dx [("pairs",.ref tp),("words_by_sign",.ref d1),("signs_by_word",.ref d2),("begun",.ref d3)])) d2=_:=(Zm (Wg es11 S11.ex fun z=>by cases z)).trans es11
     have eb12:(upd H11 x (.ins C dx [("pairs",.ref tp),("words_by_sign",.ref d1),("signs_by_word",.ref d2),("begun",.ref d3)])) d3=_:=(Zm (Wg ed3 S11.ex fun z=>by cases z)).trans ed3
     have pf:putF (Str.ofString "begun") (V.ref d3) [("pairs",.ref tp),("words_by_sign",.ref d1),("signs_by_word",.ref d2)]=([("pairs",.ref tp),("words_by_sign",.ref d1),("signs_by_word",.ref d2),("begun",.ref d3)]:List (Str×V)):=by rfl
     rw [pf]
     generalize upd H11 x (.ins C dx [("pairs",.ref tp),("words_by_sign",.ref d1),("signs_by_word",.ref d2),("begun",.ref d3)])=H12 at S12 ed12 es12 eb12
     refine ⟨_,rfl,x,C,dx,_,_,rfl,S12.ex,CT.cl,CT.n_pairs,rfl,tp,rfl,⟨_,SqT.of S12.etp⟩,Wr (n:=M'.length)
      (fun j ys Hn=>∃ ts:List Addr,ys=ts.map V.ref/\ts.length=j/\Same H12 Hn/\Paired (fun t (e:PK3)=>Hn t=some (.tup [.int (e.p.2.length:Int),.bl true])) ts (M'.take j)) ⟨[],rfl,rfl,.refl _,by rw [List.take_zero]; exact .nil⟩ ?_ (Zo (by omega)) ?_ ?_ ?_ ?_⟩
     ·rintro j ys Hn ⟨ts,rfl,rfl,_⟩
      rw [List.length_map]
      exact Nat.le_refl _
     ·rintro j ys Hn hj ⟨ts,rfl,rfl,sn,_⟩
      exact go6 _ _ (sn _ _ S12.etp) hj
     ·rintro ys Hn ⟨ts,rfl,_,sn,_⟩
      exact stop6 _ (sn _ _ S12.etp)
     ·rintro j ys Hn hj ⟨ts,rfl,rfl,sn,pn⟩ y H' hy
      obtain ⟨rfl,rfl⟩:=yld6 _ _ _ _ hj (sn _ _ S12.etp) hy
      obtain ⟨t,ev,b,cw⟩:=(S12.at_ _ (List.getElem_mem hj)).tk sn.tk
      refine ⟨t,_,ev,SqT.of b,rfl,_,_,rfl,_,_,rfl,rfl,?_⟩
      refine ⟨_,rfl,_,_,rfl,.inr ⟨_,SqT.of cw,rfl⟩,by show 2<=sizeLine; decide,fun q hq=>?_⟩
      refine ⟨ts++[q],by rw [List.map_append]; rfl,by rw [List.length_append]; rfl,sn.trans (Zb hq),?_⟩
      rw [List.take_succ_eq_append_getElem hj]
      refine L2.Paired.snoc ?_ ?_
      ·rw [List.length_map]; exact Zg
      ·exact L2.Paired.mapP pn fun _ _ z=>Zb hq _ _ z
     ·rintro ys Hn ⟨ts,rfl,lt,sn,pn⟩ q3 hq3
      rw [List.take_length] at pn
      have sq3:=sn.trans (Zb (o:=.lst (ts.map V.ref)) hq3)
      have pn':=Paired.mapP pn fun _ _ z=>Zb (o:=.lst (ts.map V.ref)) hq3 _ _ z
      have eq3:(upd Hn q3 (.lst (ts.map V.ref))) q3=_:=Zg
      have S13:=S12.same sq3
      have ed13:=sq3 _ _ ed12
      have es13:=sq3 _ _ es12
      have eb13:=sq3 _ _ eb12
      generalize upd Hn q3 (.lst (ts.map V.ref))=H13 at S13 ed13 es13 eb13 pn' eq3
      refine ⟨q3,_,((M'.map fun e=>(e.p.2.length:Int)).map fun z=>((Sum.inl z:Key),V.bl true)).map (fun z=>(kV z.1,z.2)),.dK [],rfl,.inl eq3,?_,.inl rfl,fun d5 hd5=>⟨_,Zbk _ [] ?_,?_⟩⟩
      ·rw [List.map_map,List.map_map]
       exact Ts (fun t e z=>⟨t,rfl,SqT.of z⟩) pn'
      ·rw [List.length_nil,List.length_map,List.length_map]; exact Nat.lt_of_lt_of_le (by omega:0 + M'.length < 64) (show 64<=sizeLine by decide)
      obtain ⟨ns,ens,nd,mem⟩:=Rp (M'.map fun e=>(e.p.2.length:Int)) [] [] rfl .nil
      have lk5:=Zco ((M'.map fun e=>(e.p.2.length:Int)).map fun z=>((Sum.inl z:Key),V.bl true)) []
      have S14:=S13.same (Zb (o:=.dK (Wa [] ((M'.map fun e=>(e.p.2.length:Int)).map fun z=>((Sum.inl z:Key),V.bl true)))) hd5)
      have ed14:=Zb (o:=.dK (Wa [] ((M'.map fun e=>(e.p.2.length:Int)).map fun z=>((Sum.inl z:Key),V.bl true)))) hd5 _ _ ed13
      have es14:=Zb (o:=.dK (Wa [] ((M'.map fun e=>(e.p.2.length:Int)).map fun z=>((Sum.inl z:Key),V.bl true)))) hd5 _ _ es13
      have eb14:=Zb (o:=.dK (Wa [] ((M'.map fun e=>(e.p.2.length:Int)).map fun z=>((Sum.inl z:Key),V.bl true)))) hd5 _ _ eb13
      have e5:(upd H13 d5 (.dK (Wa [] ((M'.map fun e=>(e.p.2.length:Int)).map fun z=>((Sum.inl z:Key),V.bl true))))) d5=_:=Zg
      generalize upd H13 d5 (.dK (Wa [] ((M'.map fun e=>(e.p.2.length:Int)).map fun z=>((Sum.inl z:Key),V.bl true))))=H14 at S14 ed14 es14 eb14 e5
      refine ⟨d5,_,ns,rfl,e5,ens,by rw [List.length_map,List.length_map,List.length_nil] at lk5; omega,fun D5 ns' hD5 pN riN=>?_⟩
      refine ⟨D5,_,rfl,.inl ⟨SqL.of Zg,fun d4 hd4=>?_⟩⟩
      have sz:=(Zb (o:=.lst (ns'.map V.int)) hD5).trans (Zb (o:=.tup (ns'.map V.int)) hd4)
      have S15:=S14.same sz
      have ed15:=sz _ _ ed14
      have es15:=sz _ _ es14
      have eb15:=sz _ _ eb14
      have ez15:(upd (upd H14 D5 (.lst (ns'.map V.int))) d4 (.tup (ns'.map V.int))) d4=_:=Zg
      generalize upd (upd H14 D5 (.lst (ns'.map V.int))) d4 (.tup (ns'.map V.int))=H15 at S15 ed15 es15 eb15 ez15
      refine ⟨_,rfl,x,C,dx,_,rfl,S15.ex,CT.cl,CT.n_word_sizes,(by show 4 < 1000; decide),?_⟩
      have S16:=S15.fld (fs':=[("pairs",.ref tp),("words_by_sign",.ref d1),("signs_by_word",.ref d2),("begun",.ref d3),("word_sizes",.ref d4)])
      have pf2:putF (Str.ofString "word_sizes") (V.ref d4) [("pairs",.ref tp),("words_by_sign",.ref d1),("signs_by_word",.ref d2),("begun",.ref d3)]=([("pairs",.ref tp),("words_by_sign",.ref d1),("signs_by_word",.ref d2),("begun",.ref d3),("word_sizes",.ref d4)]:List (Str×V)):=by rfl
      rw [pf2]
      have ed16:=(Zm (a:=x) (o:=HO.ins C dx [("pairs",.ref tp),("words_by_sign",.ref d1),("signs_by_word",.ref d2),("begun",.ref d3),("word_sizes",.ref d4)]) (Wg ed15 S15.ex fun z=>by cases z)).trans ed15
      have es16:=(Zm (a:=x) (o:=HO.ins C dx [("pairs",.ref tp),("words_by_sign",.ref d1),("signs_by_word",.ref d2),("begun",.ref d3),("word_sizes",.ref d4)]) (Wg es15 S15.ex fun z=>by cases z)).trans es15
      have eb16:=(Zm (a:=x) (o:=HO.ins C dx [("pairs",.ref tp),("words_by_sign",.ref d1),("signs_by_word",.ref d2),("begun",.ref d3),("word_sizes",.ref d4)]) (Wg eb15 S15.ex fun z=>by cases z)).trans eb15
      have ez16:=(Zm (a:=x) (o:=HO.ins C dx [("pairs",.ref tp),("words_by_sign",.ref d1),("signs_by_word",.ref d2),("begun",.ref d3),("word_sizes",.ref d4)]) (Wg ez15 S15.ex fun z=>by cases z)).trans ez15
      refine k _ (M'.map (·.p)) hS hri ⟨dx,tp,d1,d2,d3,d4,S16.ex,⟨⟨_,S16.etp,Zjh S16.at_⟩,⟨_,ed16,wb _ S16.at_⟩,⟨_,es16,sb⟩,⟨k3,eb16,?_⟩,⟨ns',ez16,Zer nd (fun n=>by rw [mem,List.map_map]; simp only [List.not_mem_nil,false_or]; rfl) pN riN⟩⟩,nd1,nd2,nd3'⟩ S16.tb S16.g
      rw [List.map_map]
      exact hb3
theorem ok_Code_word (T:Txt mg) {C:Addr} (CT:CodeT K C) {f:Addr} {fd:FuncData} (F:Fun K "word" "Code.word" X9 f fd):FnOk P w K mg base CX0 1 f fd ["self", "sign"] (Zel C):=by
 refine F.ok sc_Code_word (fun vs H Q E h=>?_) (fun cdv A outer s H vs Q E hr h=>?_)
 ·obtain ⟨x,S,z,rfl,_⟩:=h
  rfl
 ·obtain ⟨x,S,z,rfl,⟨dx,tp,d1,d2,d3,d4,ex,ci⟩,k1,k2⟩:=h
  obtain ⟨k3,e3,hb1,hb2⟩:=ci.wb
  have SC:=sc_Code_word
  have hu1:=Wt hr
  refine ⟨_,(Zn (Z5 (Zhz hu1 (Ww (pv 0) rfl) (pv 1) ⟨rfl,rfl,rfl,rfl⟩))),?_⟩
  refine ⟨_,rfl,x,C,dx,_,_,rfl,ex,CT.cl,CT.n_words_by_sign,rfl,d1,rfl,.inl ⟨_,.inl e3⟩,_,rfl,_,DGet.k (k:=Sum.inl z) e3,?_⟩
  by_cases hp:∃ p∈S,p.1=z
  ·obtain ⟨p,hp,e⟩:=hp
   obtain ⟨t,h1,h2⟩:=hb1 p hp
   rw [e] at h1
   rw [h1]
   exact k1 p hp e t h2
  ·rw [hb2 z fun p hq e=>hp ⟨p,hq,e⟩]
   exact k2 fun p hq e=>hp ⟨p,hq,e⟩
theorem ok_NoSign___init__ (T:Txt mg) {C:Addr} {f:Addr} {fd:FuncData} (xc:XCl K C f) (na:W.findIn K (.ref C) "at"=some none) (F:Fun K "__init__" "NoSign.__init__" Yj f fd):FnOk P w K mg base CX0 1 f fd ["self", "at"] (spX1 C "at"):=by
 refine F.ok sc_NoSign___init__ (fun vs H Q E h=>?_) (fun cdv A outer s H vs Q E hr h=>?_)
 ·obtain ⟨ea,y,rfl,_⟩:=h
  rfl
 ·obtain ⟨ea,y,rfl,hea,k⟩:=h
  have SC:=sc_NoSign___init__
  refine ⟨_,(Zn (Zaw (pv 0) (pv 1) rfl)),?_⟩
  exact ⟨_,rfl,_,rfl,ea,C,f,rfl,xc,na,.inl ⟨hea,fun d hd ne=>k d hd ne⟩⟩
theorem ok_NoName___init__ (T:Txt mg) {C:Addr} {f:Addr} {fd:FuncData} (xc:XCl K C f) (na:W.findIn K (.ref C) "name"=some none) (F:Fun K "__init__" "NoName.__init__" Yk f fd):FnOk P w K mg base CX0 1 f fd ["self", "name"] (spX1 C "name"):=by
 refine F.ok sc_NoName___init__ (fun vs H Q E h=>?_) (fun cdv A outer s H vs Q E hr h=>?_)
 ·obtain ⟨ea,y,rfl,_⟩:=h
  rfl
 ·obtain ⟨ea,y,rfl,hea,k⟩:=h
  have SC:=sc_NoName___init__
  refine ⟨_,(Zn (Zaw (pv 0) (pv 1) rfl)),?_⟩
  exact ⟨_,rfl,_,rfl,ea,C,f,rfl,xc,na,.inl ⟨hea,fun d hd ne=>k d hd ne⟩⟩
theorem ok_Taken___init__ (T:Txt mg) {C:Addr} {f:Addr} {fd:FuncData} (xc:XCl K C f) (na:W.findIn K (.ref C) "name"=some none) (F:Fun K "__init__" "Taken.__init__" Ys f fd):FnOk P w K mg base CX0 1 f fd ["self", "name"] (spX1 C "name"):=by
 refine F.ok sc_Taken___init__ (fun vs H Q E h=>?_) (fun cdv A outer s H vs Q E hr h=>?_)
 ·obtain ⟨ea,y,rfl,_⟩:=h
  rfl
 ·obtain ⟨ea,y,rfl,hea,k⟩:=h
  have SC:=sc_Taken___init__
  refine ⟨_,(Zn (Zaw (pv 0) (pv 1) rfl)),?_⟩
  exact ⟨_,rfl,_,rfl,ea,C,f,rfl,xc,na,.inl ⟨hea,fun d hd ne=>k d hd ne⟩⟩
theorem ok_write (T:Txt mg) {C Cn:Addr} (Zc1:Met P w K mg base C "word" 1 ["self", "sign"] (Zel C)) (Ru:Rx P w K mg base "NoSign" Cn 1 ["self", "at"] (spX1 Cn "at")) {f:Addr} {fd:FuncData} (F:Fun K "write" "write" Tk f fd):FnOk P w K mg base (CXE P w) 3 f fd ["code", "text"] (Zb4 C Cn):=by
 refine F.okE sc_write (fun vs H Q E h=>?_) (fun cdv A outer s H vs Q E hr h=>?_)
 ·obtain ⟨x,xa,S,ts,rfl,_⟩:=h
  rfl
 ·obtain ⟨x,xa,S,ts,rfl,ca,fi,exa,lts,k,kE⟩:=h
  have SC:=sc_write
  have Zlh:Room 1 _:=hr.mono (by decide)
  have Zf6:Room 2 _:=hr.mono (by decide)
  have lm:(ts.map V.int).length=ts.length:=List.length_map _
  refine ⟨_,(Zf (Zv (i:=2) SC.nd rfl (Or.inl rfl) (Y8 Zd))
 (Zf (Wf PassesOwn.leaving rfl (Zkt rfl T.b_enumerate (Za (pv 1) Zd)) (Wv (n:=2) rfl (Zy (Zr (i:=3) SC.nd rfl (Or.inl rfl)) (Zy (Zr (i:=4) SC.nd rfl (Or.inl rfl)) X2)) (by rfl))
 (Zf (Zv (i:=5) SC.nd rfl (Or.inl rfl) (Za1 (pv 0) Zc1 Zlh (Za (pv 4) Zd)))
 (Zf (Xk (Sn (Zfh (pv 5)))
 (Zn (Sb Ru Zf6 rfl (Za (pv 3) Zd)))
 Z7)
 (Zn (Vu (Np PySem.F.plainAttrs_list PySem.F.slot_list_extend PySem.F.type_list_extend Zdl (pv 2) (Za (pv 5) Zd)))))))
 (Zn (Z5 (pv 2))))),?_⟩
  refine ⟨by show 0<=sizeLine; decide,fun tx htx=>?_⟩
  have s1:=Zb (o:=.lst []) htx
  have etx:(upd H tx (.lst [])) tx=_:=Zg
  generalize upd H tx (.lst [])=H1 at s1 etx
  have ntx:∀ b o,H b=some o->b≠tx:=fun b o e=>Zq e htx
  refine ⟨_,rfl,xa,rfl,⟨_,SqL.of (s1 _ _ exa)⟩,Zih (xs:=ts.map V.int) (fun i σ H'=>∃ (U:List Pr) (v3 v4 v5:Option V),σ=[some (.ref x),some (.ref xa),some (.ref tx),v3,v4,v5]/\Same H H'/\H' tx=some (.lst ((Wj U).map V.int))/\Xs S U ts i) ⟨[],_,_,_,rfl,s1,etx,⟨(fun _ z=>nomatch z),rfl⟩⟩ ?_ ?_ ?_⟩
  ·rintro i σ H2 hi ⟨U,v3,v4,v5,rfl,s2,_⟩
   exact SqL.of (s2 _ _ exa)
  ·rintro i hi t σ H2 ⟨U,v3,v4,v5,rfl,s2,e2,tx2⟩ nt
   have hi2:i < ts.length:=by rw [lm] at hi; exact hi
   have lU:=tx2.len (Nat.le_of_lt hi2)
   have s3:=Zb (o:=.tup [.int i,(ts.map V.int)[i]]) nt
   have e3:=s3 _ _ e2
   have et3:(upd H2 t (.tup [.int i,(ts.map V.int)[i]])) t=some (.tup [.int i,.int ts[i]]):=by rw [Zg,List.getElem_map]
   generalize upd H2 t (.tup [.int i,(ts.map V.int)[i]])=H3 at s3 e3 et3
   have s23:=s2.trans s3
   have ca3:=ca.same s23
   obtain ⟨dx,tp,d1,d2,d3,d4,ex,_⟩:=id ca3
   refine ⟨t,_,rfl,SqT.of et3,rfl,_,_,rfl,_,_,rfl,rfl,?_⟩
   refine ⟨_,rfl,x,dx,_,rfl,ex,rfl,_,rfl,x,S,ts[i],rfl,ca3,fun p hp e tw etw=>?_,fun hno=>?_⟩
   ·refine ⟨_,rfl,_,rfl,Zq1 (fun z=>by cases z) ?_⟩
    have lw:=(fi.2 _ hp).2
    have lr:=Sl fi tx2.1
    refine ⟨_,rfl,.inl ⟨rfl,_,SqL.of e3⟩,_,rfl,tx,tw,_,_,rfl,rfl,e3,etw,?_,U++[p],_,_,_,rfl,fun b o e'=>?_,?_,tx2.snoc hi2 hp e⟩
    ·rw [List.length_map,List.length_map]
     exact Zo (by omega)
    ·rw [Zm (ntx b o e')]
     exact s23 b o e'
    ·rw [Zg,Ze1,List.map_append,Zb9]
     simp [Wj]
   ·refine ⟨_,rfl,_,rfl,Zq0 rfl ?_⟩
    refine ⟨_,rfl,by show 1<=10; decide,fun ea nea=>?_⟩
    refine ⟨ea,.int i,rfl,Zg,fun d nd ne=>⟨rfl,d,?_,?_⟩⟩
    ·rw [Zm (Ne.symm ne),Zg]
    ·have nd3:H3 d=none:=by rw [Zm ne] at nd; exact nd
     refine kE i U d _ hi2 tx2 ((V0 hi2).mpr hno) (s23.free nd3) (fun b o e=>?_) ?_
     ·have b1:b≠ea:=Zq (s23 _ _ e) nea
      have b2:b≠d:=Zq (s23 _ _ e) nd3
      rw [Zm b1,Zm b2,Zm b1,Zm b1]
      exact s23 _ _ e
     ·rw [Zm ne,Zg]
  ·rintro σ H2 ⟨U,v3,v4,v5,rfl,s2,e2,tx2⟩
   rw [lm] at tx2
   exact ⟨_,rfl,k U tx H2 tx2 htx s2 e2⟩
open L3
theorem ok_begins_row (T:Txt mg) {C:Addr}  {f:Addr} {fd:FuncData} (F:Fun K "begins_row" "begins_row" Xt f fd):FnOk P w K mg base CX0 1 f fd ["mark", "row"] (L3.spOf ⟨C,K⟩ Zo5):=by
 refine L3.Fun.ok3 F sc_begins_row (fun ds M K3 h=>?_) (fun cdv A outer s H E hr=>?_)
 ·obtain ⟨m,ns,d,rfl,_⟩:=h
  rfl
 ·have SC:=sc_begins_row
  have hu:=hr.units
  have hu1:=Wt hr
  refine ⟨_,_,(Zn (Z5 (Zjj (Vw Nt (Zt (Yy (K:=K) rfl) (by rfl) T.b_len PySem.boot_len (Za (pv 0) Zd)) Zj (Z6 _)) (Zji (Vw (L3.Ve (K':=K) rfl hu) (Z4 (Zag (K:=K) rfl) (by rfl) T.b_tuple PyProof.Rows.boot_tuple (Za (Z9 (L3.Rz (K':=K) rfl) (pv 1) Yq (Yf (Zt (Yy (K:=K) rfl) (by rfl) T.b_len PySem.boot_len (Za (pv 0) Zd)))) Zd)) (pv 0) (Z6 _)))))),fun _=>(L3.X7 (L3.Zjb (L3.s_op L3.s_gt (L3.s_cb L3.Wo (L3.Ze (L3.Zh 0) L3.Zp)) L3.Z1) (L3.s_op L3.s_eq (L3.s_cb L3.Sh (L3.Ze (L3.s_sl L3.R8 (L3.Zh 1) L3.Wd (L3.Vr (L3.s_cb L3.Wo (L3.Ze (L3.Zh 0) L3.Zp)))) L3.Zp)) (L3.Zh 0)))),fun ds M Kk hM hD h=>?_⟩
  obtain ⟨m,ns,d,rfl,h⟩:=h
  obtain ⟨hd,k⟩:=h
  have lm:(m.map D.int).length=m.length:=List.length_map _
  refine ⟨_,rfl,_,rfl,_,_,rfl,rfl,_,rfl,?_⟩
  rw [lm]
  by_cases h0:0 < m.length
  ·rw [decide_eq_true (by omega:(0:Int) < ((m.length:Nat):Int))]
   refine iteT ?_
   refine ⟨_,rfl,_,rfl,_,rfl,_,rfl,?_⟩
   refine Zhg hd ?_
   rw [lm,V3,Rt]
   refine ⟨_,_,rfl,rfl,_,rfl,Tx (Xn Xd) (a:=ns.take m.length) (b:=m) (.inl ?_)⟩
   unfold Tu at k
   rw [decide_eq_true h0,Bool.true_and] at k
   exact k
  ·rw [decide_eq_false (by omega:¬ (0:Int) < ((m.length:Nat):Int))]
   refine iteF (.inl ?_)
   unfold Tu at k
   rw [decide_eq_false h0,Bool.false_and] at k
   exact k
open L3
theorem ok_Family___init__ (T:Txt mg) {C:Addr} {Zc:Addr} (cl:Cls K Zc) (n1:Yo K Zc "codes_by_name") (n2:Yo K Zc "marks_by_name")  {f:Addr} {fd:FuncData} (F:Fun K "__init__" "Family.__init__" Ym f fd):FnOk P w K mg base CX0 1 f fd ["self"] (L3.spOf ⟨C,K⟩ (Zju Zc)):=by
 refine L3.Fun.ok3 F sc_Family___init__ (fun ds M K3 h=>?_) (fun cdv A outer s H E hr=>?_)
 ·obtain ⟨f,rfl,_⟩:=h
  rfl
 ·have SC:=sc_Family___init__
  have hu:=hr.units
  have hu1:=Wt hr
  refine ⟨_,_,(Zf (Sq (pv 0) Zcf rfl)
 (Zn (Sq (pv 0) Zcf rfl))),fun _=>(L3.Z3 (L3.Zi6 (L3.Zh 0) L3.Ze0)
 (L3.Zi6 (L3.Zh 0) L3.Ze0)),fun ds M Kk hM hD h=>?_⟩
  obtain ⟨f,rfl,h⟩:=h
  obtain ⟨hf,hl,k⟩:=h
  have lf:f < M.length:=by omega
  refine ⟨_,rfl,f,Zc,[],rfl,We hf,cl,n1,by decide,?_⟩
  refine ⟨_,rfl,f,Zc,_,rfl,We (List.getElem?_set_self (by rw [List.length_append]; omega)),cl,n2,(show 1 < 1000 by decide),.inl ?_⟩
  have e:(((M++[MO.dct []]).set f (.ins Zc (R9 "codes_by_name" (.cell M.length) [])))++[MO.dct []]).set f (.ins Zc (R9 "marks_by_name" (.cell ((M++[MO.dct []]).set f (.ins Zc (R9 "codes_by_name" (.cell M.length) []))).length) (R9 "codes_by_name" (.cell M.length) [])))=M.set f (.ins Zc (famD f))++[.dct [],.dct []]:=by
   rw [List.set_append_left _ _ (by rw [List.length_set,List.length_append]; omega),List.set_set,List.set_append_left _ _ lf,List.append_assoc]
   have l2:((M++[MO.dct []]).set f (.ins Zc (R9 "codes_by_name" (.cell M.length) []))).length=f + 2:=by rw [List.length_set,List.length_append,hl]; rfl
   rw [l2,hl]
   rfl
  exact e ▸ k
theorem ok_Family_add (T:Txt mg) {C:Addr} {Zc Yx:Addr} (cl:Cls K Zc) (n1:Yo K Zc "codes_by_name") (n2:Yo K Zc "marks_by_name") (Py:Rx P w K mg base "Taken" Yx 1 ["self", "name"] (spX1 Yx "name"))  {f:Addr} {fd:FuncData} (F:Fun K "add" "Family.add" Xv f fd):FnOk P w K mg base (CXE P w) 3 f fd ["self", "name", "code", "mark"] (L3.Vf ⟨C,K⟩ (Zo6 Zc Yx)):=by
 refine L3.Fun.okX3 F sc_Family_add (fun ds M K3 KX h=>?_) (fun cdv A outer s H E hr=>?_)
 ·obtain ⟨f,n,S,mk,zs,rfl,_⟩:=h
  rfl
 ·have SC:=sc_Family_add
  have hu:=hr.units
  have hu1:=Wt hr
  have Zid:Room 2 _:=hr.mono (by first | decide | omega)
  refine ⟨_,_,(Zf (Xk (Sn (Zn2 hu1 (pv 1) (Ww (pv 0) rfl)))
 (Zn (Sb Py Zid rfl (Za (pv 1) Zd)))
 Z7)
 (Zf (Zax hu1 (Ww (pv 0) rfl) (pv 1) (pv 2) rfl)
 (Zn (Zax hu1 (Ww (pv 0) rfl) (pv 1) (Z4 (Zag (K:=K) rfl) (by rfl) T.b_tuple PyProof.Rows.boot_tuple (Za (pv 3) Zd)) rfl)))),fun _ _ he hk hx=>(L3.Z3 (L3.Wz (L3.s_b (L3.Zql (L3.Zh 1) (L3.U6 (L3.Zh 0))))
 (L3.Qz he hk hx (L3.Ze (L3.Zh 1) L3.Zp))
 L3.X1)
 (L3.Z3 (L3.Zi9 (L3.U6 (L3.Zh 0)) (L3.Zh 1) (L3.Zh 2))
 (L3.Zi9 (L3.U6 (L3.Zh 0)) (L3.Zh 1) (L3.s_cb L3.Sh (L3.Ze (L3.Zh 3) L3.Zp))))),fun ds M Kk KX hM hD h=>?_⟩
  obtain ⟨f,n,S,mk,zs,rfl,h⟩:=h
  obtain ⟨Fa,hl,k,kx⟩:=h
  have dc:T6 M (.cell (f + 1))=some (Wx zs):=by simp only [T6,Fa.h1]
  have ll:∀ g:Fq->D,(zs.map fun z=>((.inr z.1:Key),g z)).length < sizeLine:=fun g=>by rw [List.length_map]; exact Nat.lt_of_le_of_lt hl (by decide)
  by_cases hn:n∈zs.map (·.1)
  ·obtain ⟨z,hz,rfl⟩:=List.mem_map.mp hn
   refine ⟨_,rfl,_,rfl,f,Zc,_,_,rfl,Fa.h0,cl,n1,rfl,_,.inl ⟨_,_,dc,rfl,rfl⟩,_,rfl,?_⟩
   rw [show valD (Wx zs) (.inr z.1)=some (.code z.2.1) from Qu Fa.nd hz]
   exact iteT ⟨_,rfl,_,rfl,kx hn⟩
  ·refine ⟨_,rfl,_,rfl,f,Zc,_,_,rfl,Fa.h0,cl,n1,rfl,_,.inl ⟨_,_,dc,rfl,rfl⟩,_,rfl,?_⟩
   rw [show valD (Wx zs) (.inr n)=none from Zd4 hn]
   refine iteF ?_
   have l1:=Vo Fa.h1
   have new:∀ g:Fq->D,∀ v:D,putD (zs.map fun z=>((.inr z.1:Key),g z)) (.inr n) v=(zs.map fun z=>((.inr z.1:Key),g z))++[(.inr n,v)]:=fun g v=>Zhs fun kv hkv e=>by
    obtain ⟨z,hz,rfl⟩:=List.mem_map.mp hkv
    exact hn (List.mem_map.mpr ⟨z,hz,Sum.inr.inj e⟩)
   refine ⟨_,rfl,_,rfl,f,Zc,_,_,rfl,Fa.h0,cl,n1,rfl,_,rfl,_,.inl ⟨f + 1,_,_,rfl,Fa.h1,rfl,ll _,rfl⟩,?_⟩
   refine ⟨_,rfl,_,_,rfl,rfl,_,rfl,f,Zc,_,_,rfl,Vk Fa.h0 (by omega),cl,n2,rfl,_,rfl,_,.inl ⟨f + 2,_,_,rfl,Vk Fa.h2 (by omega),rfl,ll _,rfl⟩,.inl ?_⟩
   have e1:putD (Wx zs) (.inr n) (.code S)=Wx (zs++[(n,S,mk)]):=by
    unfold Wx
    rw [new,List.map_append]
    rfl
   have e2:putD (Xm zs) (.inr n) (.tup (mk.map .int))=Xm (zs++[(n,S,mk)]):=by
    unfold Xm
    rw [new,List.map_append]
    rfl
   rw [e1,e2]
   exact k hn
theorem ok_Family_names (T:Txt mg) {C:Addr} {Zc:Addr} (cl:Cls K Zc) (n1:Yo K Zc "codes_by_name") (n2:Yo K Zc "marks_by_name")  {f:Addr} {fd:FuncData} (F:Fun K "names" "Family.names" Y6 f fd):FnOk P w K mg base CX0 1 f fd ["self"] (L3.spOf ⟨C,K⟩ (Zly Zc)):=by
 refine L3.Fun.ok3 F sc_Family_names (fun ds M K3 h=>?_) (fun cdv A outer s H E hr=>?_)
 ·obtain ⟨f,zs,rfl,_⟩:=h
  rfl
 ·have SC:=sc_Family_names
  have hu:=hr.units
  have hu1:=Wt hr
  refine ⟨_,_,(Zn (Z5 (Z4 (Zbp rfl) (by rfl) T.b_list PyProof.Rows.boot_list (Za (Ww (pv 0) rfl) Zd)))),fun _=>(L3.X7 (L3.s_cb L3.Zke (L3.Ze (L3.U6 (L3.Zh 0)) L3.Zp))),fun ds M Kk hM hD h=>?_⟩
  obtain ⟨f,zs,rfl,h⟩:=h
  obtain ⟨Fa,k⟩:=h
  have dc:T6 M (.cell (f + 1))=some (Wx zs):=by simp only [T6,Fa.h1]
  refine ⟨_,rfl,f,Zc,_,_,rfl,Fa.h0,cl,n1,rfl,_,_,rfl,dc,.inl ?_⟩
  have e:(Wx zs).map (fun kv=>kD kv.1)=(zs.map (·.1)).map D.str:=by
   unfold Wx
   rw [List.map_map,List.map_map]
   rfl
  rw [e]
  exact k
theorem ok_Family_code (T:Txt mg) {C:Addr} {Zc Zs:Addr} (cl:Cls K Zc) (n1:Yo K Zc "codes_by_name") (n2:Yo K Zc "marks_by_name") (Vb:Rx P w K mg base "NoName" Zs 1 ["self", "name"] (spX1 Zs "name"))  {f:Addr} {fd:FuncData} (F:Fun K "code" "Family.code" Xh f fd):FnOk P w K mg base (CXE P w) 3 f fd ["self", "name"] (L3.Vf ⟨C,K⟩ (Zjv Zc Zs)):=by
 refine L3.Fun.okX3 F sc_Family_code (fun ds M K3 KX h=>?_) (fun cdv A outer s H E hr=>?_)
 ·obtain ⟨f,n,zs,rfl,_⟩:=h
  rfl
 ·have SC:=sc_Family_code
  have hu:=hr.units
  have hu1:=Wt hr
  have Rl:Room 2 _:=hr.mono (by first | decide | omega)
  refine ⟨_,_,(Zf (Xk (Sn (Nq hu1 (pv 1) (Ww (pv 0) rfl)))
 (Zn (Sb Vb Rl rfl (Za (pv 1) Zd)))
 Z7)
 (Zn (Z5 (Zff hu1 (Ww (pv 0) rfl) (pv 1) (fun _ _=>rfl))))),fun _ _ he hk hx=>(L3.Z3 (L3.Wz (L3.s_b (L3.Zb7 (L3.Zh 1) (L3.U6 (L3.Zh 0))))
 (L3.Qz he hk hx (L3.Ze (L3.Zh 1) L3.Zp))
 L3.X1)
 (L3.X7 (L3.Zja (L3.U6 (L3.Zh 0)) (L3.Zh 1)))),fun ds M Kk KX hM hD h=>?_⟩
  obtain ⟨f,n,zs,rfl,h⟩:=h
  obtain ⟨Fa,k,kx⟩:=h
  have dc:T6 M (.cell (f + 1))=some (Wx zs):=by simp only [T6,Fa.h1]
  by_cases hn:n∈zs.map (·.1)
  ·obtain ⟨z,hz,rfl⟩:=List.mem_map.mp hn
   have ev:valD (Wx zs) (.inr z.1)=some (.code z.2.1):=Qu Fa.nd hz
   refine ⟨_,rfl,_,rfl,f,Zc,_,_,rfl,Fa.h0,cl,n1,rfl,_,.inl ⟨_,_,dc,rfl,rfl⟩,_,rfl,?_⟩
   rw [ev]
   refine iteF ?_
   exact ⟨_,rfl,f,Zc,_,_,rfl,Fa.h0,cl,n1,rfl,_,rfl,_,.inl ⟨_,_,dc,rfl,ev.symm⟩,.inl (k z hz rfl)⟩
  ·refine ⟨_,rfl,_,rfl,f,Zc,_,_,rfl,Fa.h0,cl,n1,rfl,_,.inl ⟨_,_,dc,rfl,rfl⟩,_,rfl,?_⟩
   rw [show valD (Wx zs) (.inr n)=none from Zd4 hn]
   exact iteT ⟨_,rfl,_,rfl,kx hn⟩
theorem ok_Family_mark (T:Txt mg) {C:Addr} {Zc Zs:Addr} (cl:Cls K Zc) (n1:Yo K Zc "codes_by_name") (n2:Yo K Zc "marks_by_name") (Vb:Rx P w K mg base "NoName" Zs 1 ["self", "name"] (spX1 Zs "name"))  {f:Addr} {fd:FuncData} (F:Fun K "mark" "Family.mark" Xg f fd):FnOk P w K mg base (CXE P w) 3 f fd ["self", "name"] (L3.Vf ⟨C,K⟩ (Zcu Zc Zs)):=by
 refine L3.Fun.okX3 F sc_Family_mark (fun ds M K3 KX h=>?_) (fun cdv A outer s H E hr=>?_)
 ·obtain ⟨f,n,zs,rfl,_⟩:=h
  rfl
 ·have SC:=sc_Family_mark
  have hu:=hr.units
  have hu1:=Wt hr
  have Rl:Room 2 _:=hr.mono (by first | decide | omega)
  refine ⟨_,_,(Zf (Xk (Sn (Nq hu1 (pv 1) (Ww (pv 0) rfl)))
 (Zn (Sb Vb Rl rfl (Za (pv 1) Zd)))
 Z7)
 (Zn (Z5 (Zff hu1 (Ww (pv 0) rfl) (pv 1) (fun _ _=>rfl))))),fun _ _ he hk hx=>(L3.Z3 (L3.Wz (L3.s_b (L3.Zb7 (L3.Zh 1) (L3.U6 (L3.Zh 0))))
 (L3.Qz he hk hx (L3.Ze (L3.Zh 1) L3.Zp))
 L3.X1)
 (L3.X7 (L3.Zja (L3.U6 (L3.Zh 0)) (L3.Zh 1)))),fun ds M Kk KX hM hD h=>?_⟩
  obtain ⟨f,n,zs,rfl,h⟩:=h
  obtain ⟨Fa,k,kx⟩:=h
  have dc:T6 M (.cell (f + 2))=some (Xm zs):=by simp only [T6,Fa.h2]
  by_cases hn:n∈zs.map (·.1)
  ·obtain ⟨z,hz,rfl⟩:=List.mem_map.mp hn
   have ev:valD (Xm zs) (.inr z.1)=some (wD z.2.2):=Qu Fa.nd hz
   refine ⟨_,rfl,_,rfl,f,Zc,_,_,rfl,Fa.h0,cl,n2,rfl,_,.inl ⟨_,_,dc,rfl,rfl⟩,_,rfl,?_⟩
   rw [ev]
   refine iteF ?_
   exact ⟨_,rfl,f,Zc,_,_,rfl,Fa.h0,cl,n2,rfl,_,rfl,_,.inl ⟨_,_,dc,rfl,ev.symm⟩,.inl (k z hz rfl)⟩
  ·refine ⟨_,rfl,_,rfl,f,Zc,_,_,rfl,Fa.h0,cl,n2,rfl,_,.inl ⟨_,_,dc,rfl,rfl⟩,_,rfl,?_⟩
   rw [show valD (Xm zs) (.inr n)=none from Zd4 hn]
   exact iteT ⟨_,rfl,_,rfl,kx hn⟩
open L3
theorem ok_Family_marked (T:Txt mg) {C:Addr} {Zc Zs Ya:Addr} (cl:Cls K Zc) (n1:Yo K Zc "codes_by_name") (n2:Yo K Zc "marks_by_name") (Zg6:MetE P w K mg base Zc "code" 3 ["self", "name"] (L3.Vf ⟨C,K⟩ (Zjv Zc Zs))) (Us:MetE P w K mg base Zc "mark" 3 ["self", "name"] (L3.Vf ⟨C,K⟩ (Zcu Zc Zs))) (Zbv:CalE P w K mg base "write" 3 ["code", "text"] (L3.Vf ⟨C,K⟩ (Zgl Ya))) {f:Addr} {fd:FuncData} (F:Fun K "marked" "Family.marked" Yw f fd):FnOk P w K mg base (CXE P w) 4 f fd ["self", "name", "text"] (L3.Vf ⟨C,K⟩ (Po Zc Zs Ya)):=by
 refine L3.Fun.okX3 F sc_Family_marked (fun ds M K3 KX h=>?_) (fun cdv A outer s H E hr=>?_)
 ·obtain ⟨f,n,d,zs,ts,rfl,_⟩:=h
  rfl
 ·have SC:=sc_Family_marked
  have hu:=hr.units
  have hu1:=Wt hr
  have Zli:Room 3 _:=hr.mono (by first | decide | omega)
  have Tw:Room 3 _:=hr.mono (by first | decide | omega)
  have Zib:Room 3 _:=hr.mono (by first | decide | omega)
  refine ⟨_,_,(Zn (Z5 (Zz (L3.Wn (K':=K) rfl) (Z4 (U0 (K:=K) rfl) (by rfl) T.b_list PyProof.Rows.boot_list (Za (Zce (pv 0) Us Tw Zfi (Za (pv 1) Zd)) Zd)) (Zkx Zbv Zib rfl Zfi (Za (Zce (pv 0) Zg6 Zli Zfi (Za (pv 1) Zd)) (Za (pv 2) Zd)))))),fun _ _ he hk hx=>(L3.X7 (L3.s_op L3.Zno (L3.s_cb L3.Ni (L3.Ze (L3.Uu he hk hx (L3.Zh 0) (L3.Ze (L3.Zh 1) L3.Zp)) L3.Zp)) (L3.Zki he hk hx (L3.Ze (L3.Uu he hk hx (L3.Zh 0) (L3.Ze (L3.Zh 1) L3.Zp)) (L3.Ze (L3.Zh 2) L3.Zp))))),fun ds M Kk KX hM hD h=>?_⟩
  obtain ⟨f,n,d,zs,ts,rfl,h⟩:=h
  obtain ⟨Fa,hd,lt,hy⟩:=h
  rcases hy with ⟨y,iy,kx⟩ | ⟨z,U,hz,rfl,l4,fi,fr,tx,k⟩
  ·cases y with
   | name =>
    exact ⟨_,rfl,⟨f,_,rfl,Fa.h0,rfl⟩,_,rfl,f,n,zs,rfl,Fa,fun z hz e=>absurd (List.mem_map.mpr ⟨z,hz,e⟩) iy,fun _=>kx⟩
   | sign i =>
    obtain ⟨hi,z,U,hz,rfl,fr,fi,l4,tx,hl⟩:=iy
    have one:∀ y∈zs,y.1=z.1->y=z:=fun y hy e=>Sw Fa.nd hy hz e
    have mem:z.1∈zs.map (·.1):=List.mem_map.mpr ⟨z,hz,rfl⟩
    refine ⟨_,rfl,⟨f,_,rfl,Fa.h0,rfl⟩,_,rfl,f,z.1,zs,rfl,Fa,fun y hy e=>?_,fun hn=>absurd mem hn⟩
    obtain rfl:=one y hy e
    refine ⟨_,_,rfl,rfl,_,rfl,⟨f,_,rfl,Fa.h0,rfl⟩,_,rfl,f,y.1,zs,rfl,Fa,fun y' hy' e'=>?_,fun hn=>absurd mem hn⟩
    obtain rfl:=one y' hy' e'
    refine ⟨_,rfl,y'.2.1,d,ts,rfl,hd,⟨fi,lt⟩,fun U' tx'=>absurd hl (tx'.has i hi),fun j U' hj tx' hl'=>?_⟩
    have:j=i:=by
     rcases Nat.lt_trichotomy j i with h | h | h
     ·exact absurd hl' (tx.has j h)
     ·exact h
     ·exact absurd hl (tx'.has i h)
    subst this
    exact kx
  ·have one:∀ y∈zs,y.1=z.1->y=z:=fun y hy e=>Sw Fa.nd hy hz e
   have mem:z.1∈zs.map (·.1):=List.mem_map.mpr ⟨z,hz,rfl⟩
   refine ⟨_,rfl,⟨f,_,rfl,Fa.h0,rfl⟩,_,rfl,f,z.1,zs,rfl,Fa,fun y hy e=>?_,fun hn=>absurd mem hn⟩
   obtain rfl:=one y hy e
   refine ⟨_,_,rfl,rfl,_,rfl,⟨f,_,rfl,Fa.h0,rfl⟩,_,rfl,f,y.1,zs,rfl,Fa,fun y' hy' e'=>?_,fun hn=>absurd mem hn⟩
   obtain rfl:=one y' hy' e'
   refine ⟨_,rfl,y'.2.1,d,ts,rfl,hd,⟨fi,lt⟩,fun U' tx'=>?_,fun j U' hj tx' hl'=>absurd hl' (tx.has j hj)⟩
   have:=Xs.one fr tx' tx
   subst this
   have l1:=Sl fi tx.1
   have l2:=tx.len (Nat.le_refl _)
   refine ⟨_,_,rfl,Za7,?_,.inl ?_⟩
   ·rw [List.length_map,List.length_map]
    exact Zo (by omega)
   rw [<- List.map_append]
   exact k _ _ ⟨_,List.append_assoc .. |>.symm⟩ Xe (by rw [List.length_append]; omega)
open L3
theorem ok_Family_by_mark (T:Txt mg) {C:Addr} {Zc Zs:Addr} (cl:Cls K Zc) (n1:Yo K Zc "codes_by_name") (n2:Yo K Zc "marks_by_name") (Us:Met P w K mg base Zc "mark" 3 ["self", "name"] (L3.spOf ⟨C,K⟩ (fun ds M K=>Zcu Zc Zs ds M K fun _ _ _=>False))) (V9:Cal P w K mg base "begins_row" 1 ["mark", "row"] (L3.spOf ⟨C,K⟩ Zo5)) {f:Addr} {fd:FuncData} (F:Fun K "by_mark" "Family.by_mark" Yt f fd):FnOk P w K mg base CX0 4 f fd ["self", "row"] (L3.spOf ⟨C,K⟩ (Zgq Zc)):=by
 refine L3.Fun.ok3 F sc_Family_by_mark (fun ds M K3 h=>?_) (fun cdv A outer s H E hr=>?_)
 ·obtain ⟨f,d,zs,ns,rfl,_⟩:=h
  rfl
 ·have SC:=sc_Family_by_mark
  have hu:=hr.units
  have hu1:=Wt hr
  have Tw:Room 3 _:=hr.mono (by first | decide | omega)
  have Pc:Room 1 _:=hr.mono (by first | decide | omega)
  refine ⟨_,_,(Zf (Zkp (Vv (i:=2) SC.nd rfl rfl (T:=["name", "mark"]) (cs:=[1]) rfl (CScope.ok (by kernel_rfl)) (Zhu (Ww (pv 0) rfl)) (fun _ _ _ _=>(Wv (n:=2) rfl (Zy (Zr (i:=0) (Xl (by kernel_rfl)) rfl (Or.inl rfl) (Or.inr rfl)) (Zy (Zr (i:=1) (Xl (by kernel_rfl)) rfl (Or.inl rfl) (Or.inr rfl)) X2)) (by rfl))) (fun _ _ _ _=>(Tr (Qg (Zw V9 Pc rfl (Za (pv 1) (Za (pv 2) Zd)))))) (fun _ _ _ _=>(pv 0)) (T4 (Yu (by decide) (Yu (by decide) V2)))))
 (Zf (Zv (i:=3) SC.nd rfl (Or.inr rfl) (L3.Zl4 (K:=K) rfl rfl rfl T.b_max (Za (Xq (T:=["name"]) (cs:=[0]) rfl (CScope.ok (by kernel_rfl)) (Y0 (pv 2)) (fun _ _ _ _=>(Zr (i:=0) (Xl (by kernel_rfl)) rfl (Or.inl rfl) (Or.inr rfl))) (fun _ _ _ _=>Y7) (fun _ _ _ _=>(Zt (Yy (K:=K) rfl) (by rfl) T.b_len PySem.boot_len (Za (Za1 (pv 1) Us Tw (Za (pv 0) Zd)) Zd))) (Xr (by decide))) Zd) (Zks Zj Znz)))
 (Zn (Z5 (Xq (T:=["name"]) (cs:=[0,3]) rfl (CScope.ok (by kernel_rfl)) (Y0 (pv 2)) (fun _ _ _ _=>(Zr (i:=0) (Xl (by kernel_rfl)) rfl (Or.inl rfl) (Or.inr rfl))) (fun _ _ _ _=>(Tr (Z2 (L3.Ve (K':=K) rfl hu) (Zt (Yy (K:=K) rfl) (by rfl) T.b_len PySem.boot_len (Za (Za1 (pv 1) Us Tw (Za (pv 0) Zd)) Zd)) (pv 2) (Z6 _)))) (fun _ _ _ _=>(pv 0)) (Xr (by decide))))))),fun _=>(L3.Z3 (L3.Zkc (L3.Yn (L3.Vs (L3.Zkf (L3.U6 (L3.Zh 0))) (L3.Uo (L3.Yd (L3.s_g 0) (L3.Yd (L3.s_g 1) L3.Up))) (L3.s_b (L3.Z8 (L3.Ze (L3.Zh 1) (L3.Ze (L3.Zh 2) L3.Zp)))) (L3.Zh 0)) (L3.s_g 2)))
 (L3.Z3 (L3.Yn (L3.Znj (L3.Ze (L3.Vs (L3.s_il (L3.Zh 2)) (L3.s_g 0) L3.Si (L3.s_cb L3.Wo (L3.Ze (L3.Tl (L3.Zh 1) (L3.Ze (L3.Zh 0) L3.Zp)) L3.Zp))) L3.Zp) (L3.Ze L3.Z1 L3.Zp)) (L3.s_g 3))
 (L3.X7 (L3.Zkh (L3.s_il (L3.Zh 2)) (L3.s_g 0) (L3.Y2 (L3.s_op L3.s_eq (L3.s_cb L3.Wo (L3.Ze (L3.Tl (L3.Zh 1) (L3.Ze (L3.Zh 0) L3.Zp)) L3.Zp)) (L3.Zh 2))) (L3.Zh 0))))),fun ds M Kk hM hD h=>?_⟩
  obtain ⟨f,d,zs,ns,rfl,h⟩:=h
  obtain ⟨Fa,hd,lz,k⟩:=h
  refine ⟨f + 2,Xm zs,Fa.h2,_,rfl,f,Zc,_,_,rfl,Fa.h0,cl,n2,rfl,f + 2,Xm zs,rfl,Fa.h2,fun o vs=>?_⟩
  have lmk:(Xm zs).length=zs.length:=List.length_map _
  have hset:∀ {N:Mem},M.set (f + 2) (.dfK o vs (Xm zs))=N->N.set (f + 2) (.dct (Xm zs))=M:=fun {N} e=>by
   rw [<- e,List.set_set]
   exact List.ext_getElem? fun i=>by
    by_cases hi:f + 2=i
    ·subst hi
     rw [List.getElem?_set_self (Vo Fa.h2),Fa.h2]
    ·rw [List.getElem?_set_ne hi]
  have nd_:d≠.cell (f + 2):=fun e=>by
   rw [e] at hd
   simp only [lsOf,Fa.h2] at hd
   cases hd
  have hd0:lsOf (M.set (f + 2) (.dfK o vs (Xm zs))) d=some (ns.map .int):=Zod hd nd_
  refine ⟨?_,fun j ys M'=>M.set (f + 2) (.dfK o vs (Xm zs))=M'/\ys=((Xi (zs.take j) ns).map (·.1)).map .str,?_,⟨rfl,rfl⟩,?_,?_⟩
  ·show (Xm zs).length<=sizeLine
   rw [lmk]
   exact Zo (by omega)
  ·rintro i ys _ _ ⟨rfl,_⟩
   exact List.getElem?_set_self (Vo Fa.h2)
  ·rintro j x ys _ hj ⟨kv,ekv,rfl⟩ ⟨rfl,rfl⟩
   have hj:j < zs.length:=by
    have:j < (Xm zs).length:=hj
    omega
   have ekv':kv=(.inr zs[j].1,wD zs[j].2.2):=by
    unfold Xm at ekv
    rw [List.getElem?_map,List.getElem?_eq_getElem hj] at ekv
    exact (Option.some.inj ekv).symm
   subst ekv'
   refine ⟨_,rfl,rfl,_,_,rfl,_,_,rfl,rfl,?_⟩
   refine ⟨_,rfl,_,rfl,zs[j].2.2,ns,d,rfl,hd0,_,rfl,?_⟩
   have et:Xi (zs.take (j + 1)) ns=Xi (zs.take j) ns++(if Tu zs[j].2.2 ns then [zs[j]] else []):=by
    unfold Xi
    rw [List.take_succ_eq_append_getElem hj,List.filter_append,List.filter_cons,List.filter_nil]
   cases hb:Tu zs[j].2.2 ns with
   | true =>
    rw [hb] at et
    refine iteT ⟨_,rfl,rfl,?_⟩
    rw [et,if_pos rfl,List.map_append,List.map_append]
    rfl
   | false =>
    rw [hb] at et
    refine iteF ⟨rfl,?_⟩
    rw [et,if_neg (by decide),List.append_nil]
  rintro ys _ ⟨rfl,rfl⟩
  have er:zs.take (iIt (f + 2) o vs (Xm zs)).n=zs:=by
   show zs.take (Xm zs).length=zs
   rw [lmk,List.take_length]
  rw [er]
  refine ⟨o,vs,Xm zs,List.getElem?_set_self (Vo Fa.h2),?_⟩
  rw [hset rfl]
  have hin:∀ z∈Xi zs ns,z∈zs:=fun z hz=>(List.mem_filter.mp hz).1
  have lh:(Xi zs ns).length<=100:=Nat.le_trans (List.length_filter_le _ _) lz
  generalize hH:Xi zs ns=hs at hin lh
  have lhm:((hs.map (·.1)).map D.str).length=hs.length:=by rw [List.length_map,List.length_map]
  have eh:hs.take ((hs.map (·.1)).map D.str).length=hs:=by rw [lhm,List.take_length]
  have item:∀ {j:Nat} {x:D},((hs.map (·.1)).map D.str)[j]?=some x->∃ hj:j < hs.length,x=.str hs[j].1:=fun {j x} e=>by
   rw [List.getElem?_map,List.getElem?_map] at e
   by_cases hj:j < hs.length
   ·rw [List.getElem?_eq_getElem hj] at e
    exact ⟨hj,(Option.some.inj e).symm⟩
   ·rw [List.getElem?_eq_none (by omega)] at e
    cases e
  refine ⟨_,rfl,_,rfl,?_,fun j ys M'=>M=M'/\ys=((hs.take j).map fun z=>((z.2.2.length:Nat):Int)).map .int,fun _ _ _ _ _=>rfl,⟨rfl,rfl⟩,?_,?_⟩
  ·show ((hs.map (·.1)).map D.str).length<=sizeLine
   rw [lhm]
   exact Zo (by omega)
  ·rintro j x ys _ hj hx ⟨rfl,rfl⟩
   obtain ⟨hj',rfl⟩:=item hx
   have hz:=hin _ (List.getElem_mem hj')
   refine ⟨_,rfl,⟨f,_,rfl,Fa.h0,rfl⟩,_,rfl,f,hs[j].1,zs,rfl,Fa,fun y hy e=>?_,fun hn=>absurd (List.mem_map.mpr ⟨_,hz,rfl⟩) hn⟩
   obtain rfl:=Sw Fa.nd hy hz e
   refine ⟨_,rfl,rfl,?_⟩
   rw [List.take_succ_eq_append_getElem hj',List.map_append,List.map_append,List.length_map]
   rfl
  rintro ys _ ⟨rfl,rfl⟩
  rw [show List.take _ hs=hs from eh]
  refine ⟨_,_,_,rfl,rfl,rfl,?_⟩
  rw [Zoa]
  refine ⟨_,rfl,_,rfl,?_,fun j ys M'=>M=M'/\ys=(((hs.take j).filter fun z=>decide (z.2.2.length=topF hs)).map (·.1)).map .str,fun _ _ _ _ _=>rfl,⟨rfl,rfl⟩,?_,?_⟩
  ·show ((hs.map (·.1)).map D.str).length<=sizeLine
   rw [lhm]
   exact Zo (by omega)
  ·rintro j x ys _ hj hx ⟨rfl,rfl⟩
   obtain ⟨hj',rfl⟩:=item hx
   have hz:=hin _ (List.getElem_mem hj')
   refine ⟨_,rfl,⟨f,_,rfl,Fa.h0,rfl⟩,_,rfl,f,hs[j].1,zs,rfl,Fa,fun y hy e=>?_,fun hn=>absurd (List.mem_map.mpr ⟨_,hz,rfl⟩) hn⟩
   obtain rfl:=Sw Fa.nd hy hz e
   refine ⟨_,rfl,_,rfl,.inl ⟨_,rfl,_,rfl,ite2 (fun h=>?_) (fun h=>?_)⟩⟩
   ·have h:hs[j].2.2.length=topF hs:=by
     have:=of_decide_eq_true h
     rw [List.length_map] at this
     omega
    refine ⟨_,rfl,rfl,?_⟩
    rw [List.take_succ_eq_append_getElem hj',List.filter_append,List.filter_cons,if_pos (decide_eq_true h),List.map_append,List.map_append]
    rfl
   ·have h:¬ hs[j].2.2.length=topF hs:=fun w=>h (decide_eq_true (by rw [List.length_map,w]))
    refine ⟨rfl,?_⟩
    rw [List.take_succ_eq_append_getElem hj',List.filter_append,List.filter_cons,if_neg (fun w=>h (of_decide_eq_true w)),List.filter_nil,List.append_nil]
  ·rintro ys _ ⟨rfl,rfl⟩
   rw [show List.take _ hs=hs from eh]
   refine .inl (k _ _ ⟨_,rfl⟩ ?_ (Nat.le_refl _))
   rw [<- hH]
   exact Xe
open L3
theorem ok_Family_mistaken (T:Txt mg) {C:Addr} {Zc Zs Ya:Addr} (cl:Cls K Zc) (n1:Yo K Zc "codes_by_name") (n2:Yo K Zc "marks_by_name") (Rv:Met P w K mg base Zc "by_mark" 4 ["self", "row"] (L3.spOf ⟨C,K⟩ (Zgq Zc))) (Um:MetE P w K mg base Zc "marked" 4 ["self", "name", "text"] (L3.Vf ⟨C,K⟩ (Po Zc Zs Ya))) {f:Addr} {fd:FuncData} (F:Fun K "mistaken" "Family.mistaken" Yl f fd):FnOk P w K mg base (CXE P w) 5 f fd ["self", "name", "text"] (L3.Vf ⟨C,K⟩ (Zgn Zc Zs)):=by
 refine L3.Fun.okX3 F sc_Family_mistaken (fun ds M K3 KX h=>?_) (fun cdv A outer s H E hr=>?_)
 ·obtain ⟨f,n,d,zs,ts,rfl,_⟩:=h
  rfl
 ·have SC:=sc_Family_mistaken
  have hu:=hr.units
  have hu1:=Wt hr
  have Zdq:Room 4 _:=hr.mono (by first | decide | omega)
  have Rf:Room 4 _:=hr.mono (by first | decide | omega)
  refine ⟨_,_,(Zn (Z5 (Vw (L3.Zc4 (K':=K) rfl hu) (Za1 (pv 0) Rv Zdq (Za (Zce (pv 0) Um Rf Zfi (Za (pv 1) (Za (pv 2) Zd))) Zd)) (Y8 (Za (pv 1) Zd)) (Z6 _)))),fun _ _ he hk hx=>(L3.X7 (L3.s_op L3.s_ne (L3.Tl (L3.Zh 0) (L3.Ze (L3.Uu he hk hx (L3.Zh 0) (L3.Ze (L3.Zh 1) (L3.Ze (L3.Zh 2) L3.Zp))) L3.Zp)) (L3.Tm (L3.Ze (L3.Zh 1) L3.Zp)))),fun ds M Kk KX hM hD h=>?_⟩
  obtain ⟨f,n,d,zs,ts,rfl,h⟩:=h
  obtain ⟨Fa,hd,lt,hy⟩:=h
  rcases hy with ⟨hn,kx⟩ | ⟨z,U,hz,rfl,l4,fi,fr,tx,lz,sok,k⟩
  ·exact ⟨_,rfl,⟨f,_,rfl,Fa.h0,rfl⟩,_,rfl,⟨f,_,rfl,Fa.h0,rfl⟩,_,rfl,_,rfl,f,n,d,zs,ts,rfl,Fa,hd,lt,.inl ⟨.name,hn,kx⟩⟩
  refine ⟨_,rfl,⟨f,_,rfl,Fa.h0,rfl⟩,_,rfl,⟨f,_,rfl,Fa.h0,rfl⟩,_,rfl,_,rfl,f,z.1,d,zs,ts,rfl,Fa,hd,lt,.inr ⟨z,U,hz,rfl,l4,fi,fr,tx,fun M1 c p1 hc lc=>?_⟩⟩
  refine ⟨f,_,zs,z.2.2++Wj U,rfl,Fa.pre p1,Xj hc,lz,fun M2 c2 p2 hc2 lc2=>?_⟩
  refine ⟨_,rfl,(show 1<=sizeLine by decide),Zcp (zs:=Wh zs (z.2.2++Wj U)) (ws:=[z.1]) (Wl (Xj hc2)).2.1 rfl (fun n hn=>?_) (fun n hn=>?_) (.inl (k _ (p1.trans p2)))⟩
  ·obtain ⟨y,hy,rfl,_⟩:=Zcy hn
   exact sok y hy
  ·rw [List.mem_singleton.mp hn]
   exact sok z hz
open L3
theorem ok_Family_misled (T:Txt mg) {C:Addr} {Zc Zs:Addr} (cl:Cls K Zc) (n1:Yo K Zc "codes_by_name") (n2:Yo K Zc "marks_by_name") (Us:MetE P w K mg base Zc "mark" 3 ["self", "name"] (L3.Vf ⟨C,K⟩ (Zcu Zc Zs))) {f:Addr} {fd:FuncData} (F:Fun K "misled" "Family.misled" Yv f fd):FnOk P w K mg base (CXE P w) 4 f fd ["self", "name"] (L3.Vf ⟨C,K⟩ (Zjt Zc Zs)):=by
 refine L3.Fun.okX3 F sc_Family_misled (fun ds M K3 KX h=>?_) (fun cdv A outer s H E hr=>?_)
 ·obtain ⟨f,n,zs,rfl,_⟩:=h
  rfl
 ·have SC:=sc_Family_misled
  have hu:=hr.units
  have hu1:=Wt hr
  have Tw:Room 3 _:=hr.mono (by first | decide | omega)
  refine ⟨_,_,(Zf (Zv (i:=2) SC.nd rfl (Or.inr rfl) (Zce (pv 0) Us Tw Zfi (Za (pv 1) Zd)))
 (Zf Vg
 (Zf Vg
 (Zf Vg
 (Zf Vg
 (Zn Vg)))))),fun _ _ he hk hx=>(L3.Z3 (L3.Yn (L3.Uu he hk hx (L3.Zh 0) (L3.Ze (L3.Zh 1) L3.Zp)) (L3.s_g 2))
 (L3.Z3 L3.Sj
 (L3.Z3 L3.Sj
 (L3.Z3 L3.Sj
 (L3.Z3 L3.Sj
 L3.Sj))))),fun ds M Kk KX hM hD h=>?_⟩
  obtain ⟨f,n,zs,rfl,h⟩:=h
  obtain ⟨Fa,hn,kx⟩:=h
  exact ⟨_,rfl,⟨f,_,rfl,Fa.h0,rfl⟩,_,rfl,f,n,zs,rfl,Fa,fun z hz e=>absurd (List.mem_map.mpr ⟨z,hz,e⟩) hn,fun _=>kx⟩
open L3
abbrev Q8:Str:=Str.ofString "abcdefghijklmnopqrstuvwxyz"
def mvN (cs:List Nat) (a lg j:Nat):List Nat:=cs.set a ((cs[a]?.getD 0 + 3 * j) % 26)++List.replicate (lg * j % 2) a
theorem Zk5 {cs:List Nat} {a lg j:Nat} (h:∀ c∈cs,c < 26) (ha:a < 26):∀ c∈mvN cs a lg j,c < 26:=fun c hc=>by
 rcases List.mem_append.mp hc with z | z
 ·rcases List.mem_or_eq_of_mem_set z with y | y
  ·exact h c y
  ·rw [y]; omega
 ·rw [(List.mem_replicate.mp z).2]; exact ha
theorem Qk {cs:List Nat} {a lg j:Nat}:(mvN cs a lg j).length=cs.length + lg * j % 2:=by
 unfold mvN
 rw [List.length_append,List.length_set,List.length_replicate]
theorem Zqw {cs:List Nat} {a lg i j:Nat} (ha:a < cs.length) (hij:i < j) (hj:j < 9):mvN cs a lg i≠mvN cs a lg j:=fun e=>by
 have at_:∀ k,(mvN cs a lg k)[a]?=some ((cs[a]?.getD 0 + 3 * k) % 26):=fun k=>by
  unfold mvN
  rw [List.getElem?_append_left (by rw [List.length_set]; exact ha),List.getElem?_set_self ha]
 have:=at_ i
 rw [e,at_ j] at this
 have:=Option.some.inj this
 omega
theorem Zob {cs:List Nat} {a lg n:Nat} (ha:a < cs.length) (hn:n<=9):((List.range n).map fun j=>nmS (mvN cs a lg j)).Nodup:=by
 rw [List.nodup_iff_pairwise_ne,List.pairwise_map]
 have:(List.range n).Pairwise (· < ·):=List.pairwise_lt_range
 refine this.imp_of_mem fun {i j} hi hj hij e=>Zqw ha hij ?_ (Zn7 e)
 have:=List.mem_range.mp hj
 omega
theorem Zf0 {n j:Nat} (h:j < n):ixN n (j:Int)=some j:=by
 unfold ixN
 rw [if_pos (by omega),if_pos (by omega),Int.toNat_natCast]
theorem Zet {M X:Mem} {m m':MO}:(M++[m]++X).set M.length m'=M++[m']++X:=by
 rw [List.append_assoc,List.append_assoc,List.set_append_right _ _ (Nat.le_refl _),Nat.sub_self]
 rfl
theorem Zbe {M X:Mem} {m:MO}:(M++[m]++X)[M.length]?=some m:=by
 rw [List.append_assoc,List.getElem?_append_right (Nat.le_refl _),Nat.sub_self]
 rfl
theorem ok__law_names (T:Txt mg) {C:Addr} (Zk:Cal P w K mg base "_law_draw" 1 ["_law_hand", "_law_many"] (L3.spOf ⟨C,K⟩ Zbm)) {f:Addr} {fd:FuncData} (F:Fun K "_law_names" "_law_names" s__law_names f fd):FnOk P w K mg base CX0 2 f fd ["_law_hand", "_law_many"] (L3.spOf ⟨C,K⟩ Zct):=by
 refine L3.Fun.ok3 F sc__law_names (fun ds M K3 h=>?_) (fun cdv A outer s H E hr=>?_)
 ·obtain ⟨k0,n,rfl,_⟩:=h
  rfl
 ·have SC:=sc__law_names
  have hu:=hr.units
  have hu1:=Wt hr
  have Zl:Room 1 _:=hr.mono (by first | decide | omega)
  refine ⟨_,_,(Zf (Zv (i:=2) SC.nd rfl (Or.inr rfl) Ss)
 (Zf (Vv (i:=3) SC.nd rfl rfl (T:=["_law_k"]) (cs:=[0]) rfl (CScope.ok (by kernel_rfl)) (Yh rfl T.b_range (Za (Zz (L3.Wn (K':=K) rfl) Zj (Zw Zk Zl rfl (Za (pv 0) (Za Zj Zd)))) Zd)) (fun _ _ _ _=>(Zr (i:=0) (Xl (by kernel_rfl)) rfl (Or.inl rfl) (Or.inr rfl))) (fun _ _ _ _=>Y7) (fun _ _ _ _=>(Zw Zk Zl rfl (Za (pv 1) (Za Zj Zd)))) (Xr (by decide)))
 (Zf (Zv (i:=4) SC.nd rfl (Or.inl rfl) (Zz Y9 (Zw Zk Zl rfl (Za (pv 0) (Za Zj Zd))) (Zt (Yy (K:=K) rfl) (by rfl) T.b_len PySem.boot_len (Za (pv 3) Zd))))
 (Zf (Zv (i:=5) SC.nd rfl (Or.inl rfl) (Zw Zk Zl rfl (Za (pv 0) (Za Zj Zd))))
 (Zf (Zv (i:=6) SC.nd rfl (Or.inl rfl) (Y8 Zd))
 (Zf (Wf PassesOwn.never rfl (Yh rfl T.b_range (Za (pv 1) Zd)) (Zr (i:=7) SC.nd rfl (Or.inl rfl))
 (Zf (Zv (i:=8) SC.nd rfl (Or.inl rfl) (Z4 (U0 (K:=K) rfl) (by rfl) T.b_list PyProof.Rows.boot_list (Za (pv 3) Zd)))
 (Zf (Qh (Zz Y9 (Zz (L3.Wn (K':=K) rfl) (Ye (L3.Wi (K':=K) rfl) (pv 3) (pv 4) (fun _ _=>rfl)) (Zz L3.Na Zj (pv 7))) Zj) (Zfa (pv 8) (pv 4) T9))
 (Zn (Vu (Np PySem.F.plainAttrs_list PySem.F.slot_list_append PySem.F.type_list_append Vy (pv 6) (Za (Np PySem.F.plainAttrs_str PySem.F.slot_str_join PySem.F.type_str_join (Zl5 (K:=K) rfl) Ss (Za (Xq (T:=["_law_one"]) (cs:=[2]) rfl (CScope.ok (by kernel_rfl)) (Y0 (Zz (L3.Wn (K':=K) rfl) (pv 8) (Zz L3.Na (Y8 (Za (pv 4) Zd)) (Zz Y9 (Zz L3.Na (pv 5) (pv 7)) Zj)))) (fun _ _ _ _=>(Zr (i:=0) (Xl (by kernel_rfl)) rfl (Or.inl rfl) (Or.inr rfl))) (fun _ _ _ _=>Y7) (fun _ _ _ _=>(Ye (L3.Wi (K':=K) rfl) (pv 1) (pv 0) (fun _ _=>rfl))) (Xr (by decide))) Zd)) Zd)))))))
 (Zf (Xk (PW.pt (Sm (Z2 Nt (pv 1) Zj (Z6 _)) (Sm (Z2 Nt (Zt (Yy (K:=K) rfl) (by rfl) T.b_len PySem.boot_len (Za (pv 3) Zd)) Zj (Z6 _)) (Tq (Z2 (L3.Ve (K':=K) rfl hu) (Zw Zk Zl rfl (Za (pv 0) (Za Zj Zd))) Zj (Z6 _))))))
 (Zn (Qh (Z9 (L3.Rz (K':=K) rfl) (Ye (L3.Wi (K':=K) rfl) (pv 6) Zj (fun _ _=>rfl)) Yq (Yf (Zz Zfk (Zt (Yy (K:=K) rfl) (by rfl) T.b_len PySem.boot_len (Za (pv 3) Zd)) Zj))) (Zfa (pv 6) Zj T9)))
 Z7)
 (Zn (Z5 (pv 6)))))))))),fun _=>(L3.Z3 (L3.Yn L3.Zhk (L3.s_g 2))
 (L3.Z3 (L3.Yn (L3.Vs (L3.Nj (L3.Ze (L3.s_op L3.Uv L3.Z1 (L3.Z8 (L3.Ze (L3.Zh 0) (L3.Ze L3.Z1 L3.Zp)))) L3.Zp)) (L3.s_g 0) L3.Si (L3.Z8 (L3.Ze (L3.Zh 1) (L3.Ze L3.Z1 L3.Zp)))) (L3.s_g 3))
 (L3.Z3 (L3.Yn (L3.s_op L3.Q0 (L3.Z8 (L3.Ze (L3.Zh 0) (L3.Ze L3.Z1 L3.Zp))) (L3.s_cb L3.Wo (L3.Ze (L3.Zh 3) L3.Zp))) (L3.s_g 4))
 (L3.Z3 (L3.Yn (L3.Z8 (L3.Ze (L3.Zh 0) (L3.Ze L3.Z1 L3.Zp))) (L3.s_g 5))
 (L3.Z3 (L3.Yn (L3.Zex L3.Zp) (L3.s_g 6))
 (L3.Z3 (L3.Sk (L3.Nj (L3.Ze (L3.Zh 1) L3.Zp)) (L3.s_g 7)
 (L3.Z3 (L3.Yn (L3.s_cb L3.Zez (L3.Ze (L3.Zh 3) L3.Zp)) (L3.s_g 8))
 (L3.Z3 (L3.Yn (L3.s_op L3.Q0 (L3.s_op L3.Uv (L3.s_op L3.s_ix (L3.Zh 3) (L3.Zh 4)) (L3.s_op L3.Zew L3.Z1 (L3.Zh 7))) L3.Z1) (L3.Zi8 (L3.Zh 8) (L3.Zh 4)))
 (L3.U7 (L3.U8 (L3.Zh 6) (L3.Ze (L3.Znk L3.Zhk (L3.Ze (L3.Vs (L3.s_il (L3.s_op L3.Uv (L3.Zh 8) (L3.s_op L3.Zew (L3.Tm (L3.Ze (L3.Zh 4) L3.Zp)) (L3.s_op L3.Q0 (L3.s_op L3.Zew (L3.Zh 5) (L3.Zh 7)) L3.Z1)))) (L3.s_g 0) L3.Si (L3.s_op L3.s_ix (L3.Zh 1) (L3.Zh 0))) L3.Zp)) L3.Zp))))))
 (L3.Z3 (L3.Wz (L3.Zdd (L3.Y2 (L3.s_op L3.s_gt (L3.Zh 1) L3.Z1)) (L3.Zdd (L3.Y2 (L3.s_op L3.s_gt (L3.s_cb L3.Wo (L3.Ze (L3.Zh 3) L3.Zp)) L3.Z1)) (L3.Y2 (L3.s_op L3.s_eq (L3.Z8 (L3.Ze (L3.Zh 0) (L3.Ze L3.Z1 L3.Zp))) L3.Z1))))
 (L3.Yn (L3.s_sl L3.R8 (L3.s_op L3.s_ix (L3.Zh 6) L3.Z1) L3.Wd (L3.Vr (L3.s_op L3.Znh (L3.s_cb L3.Wo (L3.Ze (L3.Zh 3) L3.Zp)) L3.Z1))) (L3.Zi8 (L3.Zh 6) L3.Z1))
 L3.X1)
 (L3.X7 (L3.Zh 6))))))))),fun ds M Kk hM hD h=>?_⟩
  obtain ⟨k0,n,rfl,h⟩:=h
  obtain ⟨hk,hn,k⟩:=h
  have kl:=Vo hk
  refine ⟨_,rfl,k0,7,rfl,hk,⟨by decide,by decide⟩,fun r r0 r1=>?_⟩
  refine add_int ?_
  refine ⟨1 + r,rfl,⟨by omega,by omega⟩,?_,fun j ys M'=>M=M'/\∃ cs:List Nat,cs.length=j/\(∀ c∈cs,c < 26)/\ys=cs.map fun c:Nat=>D.int c,fun _ _ _ _ _=>trivial,⟨rfl,[],rfl,(fun _ h=>nomatch h),rfl⟩,?_,?_⟩
  ·show ((1 + r).toNat)<=sizeLine
   exact Zo (by omega)
  ·rintro j x ys _ hj rfl ⟨rfl,cs,rfl,hc,rfl⟩
   refine ⟨_,rfl,k0,26,rfl,hk,⟨by decide,by decide⟩,fun q q0 q1=>⟨rfl,cs++[q.toNat],by rw [List.length_append]; rfl,fun c hc'=>?_,?_⟩⟩
   ·rcases List.mem_append.mp hc' with z | z
    ·exact hc c z
    ·rw [List.mem_singleton.mp z]; omega
   ·rw [List.map_append,show q=((q.toNat:Nat):Int) by omega]
    rfl
  rintro ys _ ⟨rfl,cs,lc,hc,rfl⟩
  have lc:cs.length=(1 + r).toNat:=lc
  have lcm:(cs.map fun c:Nat=>D.int c).length=cs.length:=List.length_map _
  refine ⟨_,rfl,k0,7,rfl,hk,⟨by decide,by decide⟩,fun q q0 q1=>?_⟩
  have l0:(0:Int) < ((cs.map fun c:Nat=>D.int c).length:Int):=by rw [lcm]; omega
  obtain ⟨a,ea,ha⟩:=Nv q (n:=(cs.map fun c:Nat=>D.int c).length) (by omega)
  rw [lcm] at ha
  refine ⟨_,rfl,_,rfl,_,_,rfl,rfl,l0,?_⟩
  dsimp only
  rw [ea]
  have ha26:a < 26:=by omega
  refine ⟨_,rfl,k0,2,rfl,hk,⟨by decide,by decide⟩,fun g g0 g1=>?_⟩
  obtain ⟨lg,rfl⟩:∃ lg:Nat,g=lg:=⟨g.toNat,by omega⟩
  have hlg:lg < 2:=by omega
  refine ⟨Nat.zero_le _,?_⟩
  refine ⟨_,rfl,_,rfl,⟨by omega,by omega⟩,fun i ρ M'=>∃ (v7 v8:Option D) (X:Mem),ρ=[some (.cell k0),some (.int n),some (.str Q8),some (.lst (cs.map fun c:Nat=>D.int c)),some (.int a),some (.int lg),some (.cell M.length),v7,v8]/\M++[.lst (((List.range i).map fun j=>nmS (mvN cs a lg j)).map .str)]++X=M',fun _ _ _ _ _=>trivial,⟨_,_,[],rfl,by rw [List.append_nil]; rfl⟩,?_,?_⟩
  ·rintro i x ρ _ hi rfl ⟨v7,v8,X,rfl,rfl⟩
   have hi:i < n:=by
    have:i < ((n:Int)).toNat:=hi
    omega
   have e0:(0:Int) + (i:Int)=(i:Int):=Int.zero_add _
   rw [e0]
   generalize hN:M++[MO.lst (((List.range i).map fun j=>nmS (mvN cs a lg j)).map .str)]++X=N
   refine ⟨_,rfl,_,_,rfl,rfl,?_⟩
   refine ⟨_,rfl,_,rfl,_,_,_,rfl,rfl,Ps (j:=a) rfl ha,_,rfl,.inl ⟨by decide,by decide⟩,?_⟩
   refine add_int ?_
   refine ⟨_,_,rfl,rfl,(show (0:Int) < 26 by decide),?_⟩
   refine ⟨_,rfl,_,rfl,N.length,_,_,a,rfl,rfl,Xe,Zf0 (by rw [lcm]; exact ha),?_⟩
   rw [Qy]
   have ecs:(cs.map fun c:Nat=>D.int c).set a (.int (((cs[a]:Nat) + 3 * (i:Int)) % 26))=(cs.set a ((cs[a]?.getD 0 + 3 * i) % 26)).map fun c:Nat=>D.int c:=by
    rw [List.map_set,List.getElem?_eq_getElem ha]
    congr 1
   rw [ecs]
   have hmid:(N++[MO.lst ((cs.set a ((cs[a]?.getD 0 + 3 * i) % 26)).map fun c:Nat=>D.int c)])[M.length]?=some (.lst (((List.range i).map fun j=>nmS (mvN cs a lg j)).map .str)):=We (by rw [<- hN]; exact Zbe)
   refine ⟨_,rfl,Sx (Xj hmid),?_⟩
   refine ⟨_,rfl,?_⟩
   refine ⟨_,rfl,_,rfl,(show 1<=sizeLine by decide),_,rfl,_,rfl,.inl ⟨by omega,by omega⟩,_,_,rfl,rfl,(show (0:Int) < 2 by decide),_,_,rfl,rfl,⟨by omega,by omega,?_⟩,?_⟩
   ·show 1 * _<=sizeLine
    exact Zo (by omega)
   have elg:((lg:Int) * (i:Int) % 2).toNat=lg * i % 2:=by omega
   dsimp only
   rw [elg]
   have emv:((cs.set a ((cs[a]?.getD 0 + 3 * i) % 26)).map fun c:Nat=>D.int c)++(List.replicate (lg * i % 2) [D.int a]).flatten=(mvN cs a lg i).map fun c:Nat=>D.int c:=by
    unfold mvN
    rw [List.map_append,List.map_replicate]
    congr 1
    generalize lg * i % 2=t
    induction t with
    | zero=>rfl
    | succ t ih=>rw [List.replicate_succ,List.flatten_cons,ih,List.replicate_succ]; rfl
   have lmv:(mvN cs a lg i).length<=8:=by rw [Qk]; omega
   refine ⟨_,_,Za7,rfl,?_,?_⟩
   ·rw [<- List.length_append,emv,List.length_map]
    exact Zo (by omega)
   rw [emv]
   refine ⟨_,rfl,?_,fun j ys M'=>N++[MO.lst ((cs.set a ((cs[a]?.getD 0 + 3 * i) % 26)).map fun c:Nat=>D.int c)]=M'/\ys=(((mvN cs a lg i).take j).map fun c=>(⟨#[97 + c]⟩:Str)).map D.str,fun _ _ _ _ _=>rfl,⟨rfl,rfl⟩,?_,?_⟩
   ·show ((mvN cs a lg i).map fun c:Nat=>D.int c).length<=sizeLine
    rw [List.length_map]
    exact Zo (by omega)
   ·rintro j x ys _ hj hx ⟨rfl,rfl⟩
    obtain ⟨hj',rfl⟩:=X4 hx
    have hlt:=Zk5 (lg:=lg) (j:=i) hc ha26 _ (List.getElem_mem hj')
    refine ⟨_,rfl,_,rfl,_,_,rfl,(show Q8.length<=sizeLine by decide),Zqv hlt,rfl,?_⟩
    rw [List.take_succ_eq_append_getElem hj',List.map_append,List.map_append]
    rfl
   rintro ys _ ⟨rfl,rfl⟩
   have er:(mvN cs a lg i).take ((mvN cs a lg i).map fun c:Nat=>D.int c).length=mvN cs a lg i:=by rw [List.length_map,List.take_length]
   rw [show List.take _ (mvN cs a lg i)=mvN cs a lg i from er]
   refine ⟨_,_,rfl,rfl,?_,?_⟩
   ·rw [List.map_map,List.length_map]
    have:((mvN cs a lg i).map ((fun x:Str=>x.length) ∘ fun c=>(⟨#[97 + c]⟩:Str))).sum=(mvN cs a lg i).length:=by
     generalize mvN cs a lg i=l
     induction l with
     | nil=>rfl
     | cons c l ih=>rw [List.map_cons,List.sum_cons,ih,List.length_cons]; show 1 + _=_; omega
    rw [this]
    show _ + _ * 0<=_
    omega
   rw [Zk3]
   refine ⟨M.length,_,_,rfl,rfl,hmid,?_,.inl ⟨_,_,X++[MO.lst ((cs.set a ((cs[a]?.getD 0 + 3 * i) % 26)).map fun c:Nat=>D.int c)],rfl,?_⟩⟩
   ·rw [List.length_map,List.length_map,List.length_range]
    exact Nat.lt_of_lt_of_le hi (Zo (by omega))
   ·rw [<- hN,List.append_assoc _ X _,Zet,List.range_succ,List.map_append,List.map_append]
    rfl
  ·rintro ρ _ ⟨v7,v8,X,rfl,rfl⟩
   have eN:(Zhn 0 ((n:Int)).toNat).n=n:=Int.toNat_natCast n
   rw [eN]
   have zl:((List.range n).map fun j=>nmS (mvN cs a lg j)).length=n:=by rw [List.length_map,List.length_range]
   have znd:=Zob (lg:=lg) ha (by omega:n<=9)
   have zok:∀ z∈(List.range n).map fun j=>nmS (mvN cs a lg j),z.length<=8/\PyData.strOk z=true:=fun z hz=>by
    obtain ⟨j,_,rfl⟩:=List.mem_map.mp hz
    exact ⟨by rw [Sv,Qk]; omega,Zn6 (Zk5 hc ha26)⟩
   have zge:∀ z∈(List.range n).map fun j=>nmS (mvN cs a lg j),cs.length<=z.length:=fun z hz=>by
    obtain ⟨j,_,rfl⟩:=List.mem_map.mp hz
    rw [Sv,Qk]
    omega
   have zal:∀ z∈(List.range n).map fun j=>nmS (mvN cs a lg j),cs.length<=z.length + 1/\z.length<=cs.length + 1:=fun z hz=>by
    obtain ⟨j,_,rfl⟩:=List.mem_map.mp hz
    rw [Sv,Qk]
    omega
   have fin:∀ (zs:List Str) (Y:Mem),zs.Nodup->zs.length=n->(∀ z∈zs,z.length<=8/\PyData.strOk z=true)->(∀ z∈zs,cs.length<=z.length + 1/\z.length<=cs.length + 1)->Dk M.length Kk (.cell M.length) (M++[.lst (zs.map .str)]++Y):=fun zs Y h1 h2 h3 h4=>by
    have et:(M++[MO.lst (zs.map .str)]++Y).take (M.length + 1)=M++[MO.lst (zs.map .str)]:=by
     rw [List.take_append_of_le_length (by rw [List.length_append]; exact Nat.le_refl _),List.take_of_length_le (by rw [List.length_append]; exact Nat.le_refl _)]
    refine .inr ⟨M.length + 1,Nat.le_succ _,Qt (Nat.lt_succ_self _),fun m hm=>?_,by rw [et]; exact k zs h1 h2 h3 (Zk4 h4)⟩
    rw [et] at hm
    rcases List.mem_append.mp hm with z | z
    ·exact (hM m z).up (Nat.le_succ _)
    ·rw [List.mem_singleton.mp z]
     refine Zjx fun d hd=>?_
     obtain ⟨y,_,rfl⟩:=List.mem_map.mp hd
     exact Zal
   generalize hz:(List.range n).map (fun j=>nmS (mvN cs a lg j))=zs at zl znd zok zge zal
   dsimp only
   refine Zej (fun ρ' M'=>∃ (zs:List Str) (Y:Mem),zs.Nodup/\zs.length=n/\(∀ z∈zs,z.length<=8/\PyData.strOk z=true)/\(∀ z∈zs,cs.length<=z.length + 1/\z.length<=cs.length + 1)/\M++[.lst (zs.map .str)]++Y=M'/\ρ'=[some (.cell k0),some (.int n),some (.str Q8),some (.lst (cs.map fun c:Nat=>D.int c)),some (.int a),some (.int lg),some (.cell M.length),v7,v8]) (fun Kn hn'=>?_) ?_
   ·refine ⟨_,rfl,_,_,rfl,rfl,_,rfl,ite2 (fun h=>?_) (fun h=>iteF (hn' _ _ ⟨zs,X,znd,zl,zok,zal,rfl,rfl⟩))⟩
    have h1:1 < n:=by have:=of_decide_eq_true h; omega
    refine ⟨_,rfl,_,rfl,_,_,rfl,rfl,_,rfl,ite2 (fun h=>?_) (fun h=>iteF (hn' _ _ ⟨zs,X,znd,zl,zok,zal,rfl,rfl⟩))⟩
    have h2:1 < cs.length:=by have:=of_decide_eq_true h; rw [lcm] at this; omega
    have hk':∀ {Y:Mem},(M++Y)[k0]?=some .hand:=fun {Y}=>by rw [List.getElem?_append_left kl]; exact hk
    refine ⟨_,rfl,k0,2,rfl,by rw [List.append_assoc]; exact hk',⟨by decide,by decide⟩,fun y y0 y1=>.inl ⟨_,rfl,_,rfl,ite2 (fun h=>?_) (fun h=>hn' _ _ ⟨zs,X,znd,zl,zok,zal,rfl,rfl⟩)⟩⟩
    have z0:zs[0]?=some (nmS (mvN cs a lg 0)):=by
     rw [<- hz,List.getElem?_map,List.getElem?_range (by omega)]
     rfl
    have e0m:(zs.map D.str)[0]?=some (.str (nmS (mvN cs a lg 0))):=by rw [List.getElem?_map,z0]; rfl
    refine ⟨_,rfl,_,_,_,(Wl (Xj Zbe)).2.2,rfl,V6 (j:=0) rfl e0m,?_⟩
    have l0z:=zok _ (List.mem_of_getElem? z0)
    have hcut:Txt.slice (nmS (mvN cs a lg 0)) none (some (((cs.map fun c:Nat=>D.int c).length:Int) - 1))=nmS ((mvN cs a lg 0).take (cs.length - 1)):=by
     rw [lcm,show ((cs.length:Int) - 1)=((cs.length - 1:Nat):Int) by omega]
     exact Zn8 (by rw [Qk]; omega)
    have lcut:(nmS ((mvN cs a lg 0).take (cs.length - 1))).length=cs.length - 1:=by rw [Sv,List.length_take,Qk]; omega
    refine ⟨_,rfl,_,rfl,_,_,rfl,rfl,_,rfl,Nat.le_trans l0z.1 (by decide),?_⟩
    rw [hcut]
    refine ⟨_,rfl,M.length,_,_,1,rfl,rfl,Zbe,Zf0 (j:=1) (by rw [List.length_map,zl]; exact h1),?_⟩
    rw [Zet]
    refine hn' _ _ ⟨zs.set 1 (nmS ((mvN cs a lg 0).take (cs.length - 1))),X,Zfp znd (fun w=>?_) 1,by rw [List.length_set]; exact zl,fun z hz'=>?_,fun z hz'=>?_,by rw [List.map_set],rfl⟩
    ·have:=zge _ w
     omega
    ·rcases List.mem_or_eq_of_mem_set hz' with y | y
     ·exact zok z y
     ·rw [y]
      exact ⟨by omega,Zn6 fun c hc'=>Zk5 hc ha26 c (List.mem_of_mem_take hc')⟩
    ·rcases List.mem_or_eq_of_mem_set hz' with y | y
     ·exact zal z y
     ·rw [y]
      omega
   ·rintro _ _ ⟨zs,Y,h1,h2,h3,h4,rfl,rfl⟩
    exact ⟨_,rfl,fin zs Y h1 h2 h3 h4⟩
open L3
theorem pick_at {bs:List Int} (h:bs≠[]) (y:Int):∃ b∈bs,L2.atI (bs.map D.int) (y % ((bs.map D.int).length:Int))=some (.int b):=by
 have h0:0 < bs.length:=List.length_pos_iff.mpr h
 obtain ⟨a,ea,ha⟩:=Nv y (n:=(bs.map D.int).length) (by rw [List.length_map]; exact h0)
 rw [List.length_map] at ha
 exact ⟨bs[a],List.getElem_mem ha,by rw [ea]; exact Ps (j:=a) rfl ha⟩
theorem Zhd {y d:Int} (h1:1<=y) (h2:y < 4) (d0:0<=d) (d1:d < 3):∃ t:Int,L2.atI [D.int 0,D.int 1,D.int (1 + d)] (y - 1)=some (.int t)/\0<=t/\t<=3:=by
 have:y=1\/y=2\/y=3:=by omega
 rcases this with rfl | rfl | rfl
 ·exact ⟨0,rfl,by omega,by omega⟩
 ·exact ⟨1,rfl,by omega,by omega⟩
 ·exact ⟨1 + d,rfl,by omega,by omega⟩
theorem ok__law_mark (T:Txt mg) {C:Addr} (Zk:Cal P w K mg base "_law_draw" 1 ["_law_hand", "_law_many"] (L3.spOf ⟨C,K⟩ Zbm)) {f:Addr} {fd:FuncData} (F:Fun K "_law_mark" "_law_mark" s__law_mark f fd):FnOk P w K mg base CX0 2 f fd ["_law_hand", "_law_some", "_law_marks"] (L3.spOf ⟨C,K⟩ Zgo):=by
 refine L3.Fun.ok3 F sc__law_mark (fun ds M K3 h=>?_) (fun cdv A outer s H E hr=>?_)
 ·obtain ⟨k0,bs,ms,rfl,_⟩:=h
  rfl
 ·have SC:=sc__law_mark
  have hu:=hr.units
  have hu1:=Wt hr
  have Zl:Room 1 _:=hr.mono (by first | decide | omega)
  refine ⟨_,_,(Zf (Zv (i:=3) SC.nd rfl (Or.inl rfl) (Zw Zk Zl rfl (Za (pv 0) (Za Zj Zd))))
 (Zf (Xk (Z2 (L3.Ve (K':=K) rfl hu) (pv 3) Zj (Z6 _))
 (Zn (Z5 (W7 Zd)))
 Z7)
 (Zf (Xk (PW.pt (Sm (Z2 Zh1 (pv 3) Zj (Z6 _)) (Tq (Z2 (L3.Zc4 (K':=K) rfl hu) (pv 2) (Y8 Zd) (Z6 _)))))
 (Zf (Zv (i:=4) SC.nd rfl (Or.inl rfl) (Ye (L3.Wi (K':=K) rfl) (pv 2) (Zz Y9 (Zw Zk Zl rfl (Za (pv 0) (Za Zj Zd))) (Zt (Yy (K:=K) rfl) (by rfl) T.b_len PySem.boot_len (Za (pv 2) Zd))) (fun _ _=>rfl)))
 (Zf (Wf PassesOwn.never rfl (Yh rfl T.b_range (Za (Ye (L3.Wi (K':=K) rfl) (Y8 (Za Zj (Za Zj (Za (Zz (L3.Wn (K':=K) rfl) Zj (Zw Zk Zl rfl (Za (pv 0) (Za Zj Zd)))) Zd)))) (Zz Zfk (pv 3) Zj) (fun _ _=>rfl)) Zd)) (Zr (i:=5) SC.nd rfl (Or.inl rfl))
 (Zn (Xk (Z2 Zh1 (Zt (Yy (K:=K) rfl) (by rfl) T.b_len PySem.boot_len (Za (pv 4) Zd)) Zj (Z6 _))
 (Zn (Zv (i:=4) SC.nd rfl (Or.inl rfl) (Zz (L3.Zjz (K':=K) rfl) (pv 4) (W7 (Za (Ye (L3.Wi (K':=K) rfl) (pv 1) (Zz Y9 (Zw Zk Zl rfl (Za (pv 0) (Za Zj Zd))) (Zt (Yy (K:=K) rfl) (by rfl) T.b_len PySem.boot_len (Za (pv 1) Zd))) (fun _ _=>rfl)) Zd)))))
 Z7)))
 (Zn (Z5 (pv 4)))))
 Z7)
 (Zn (Z5 (Z4 (Zag (K:=K) rfl) (by rfl) T.b_tuple PyProof.Rows.boot_tuple (Za (Xq (T:=["_law_k"]) (cs:=[1,0]) rfl (CScope.ok (by kernel_rfl)) (Yh rfl T.b_range (Za (Zz (L3.Wn (K':=K) rfl) Zj (Zw Zk Zl rfl (Za (pv 0) (Za Zj Zd)))) Zd)) (fun _ _ _ _=>(Zr (i:=0) (Xl (by kernel_rfl)) rfl (Or.inl rfl) (Or.inr rfl))) (fun _ _ _ _=>Y7) (fun _ _ _ _=>(Ye (L3.Wi (K':=K) rfl) (pv 1) (Zz Y9 (Zw Zk Zl rfl (Za (pv 2) (Za Zj Zd))) (Zt (Yy (K:=K) rfl) (by rfl) T.b_len PySem.boot_len (Za (pv 1) Zd))) (fun _ _=>rfl))) (Xr (by decide))) Zd))))))),fun _=>(L3.Z3 (L3.Yn (L3.Z8 (L3.Ze (L3.Zh 0) (L3.Ze L3.Z1 L3.Zp))) (L3.s_g 3))
 (L3.Z3 (L3.Wz (L3.Y2 (L3.s_op L3.s_eq (L3.Zh 3) L3.Z1))
 (L3.X7 (L3.Zas L3.Zp))
 L3.X1)
 (L3.Z3 (L3.Wz (L3.Zdd (L3.Y2 (L3.s_op L3.s_lt (L3.Zh 3) L3.Z1)) (L3.Y2 (L3.s_op L3.s_ne (L3.Zh 2) (L3.Tm L3.Zp))))
 (L3.Z3 (L3.Yn (L3.s_op L3.s_ix (L3.Zh 2) (L3.s_op L3.Q0 (L3.Z8 (L3.Ze (L3.Zh 0) (L3.Ze L3.Z1 L3.Zp))) (L3.s_cb L3.Wo (L3.Ze (L3.Zh 2) L3.Zp)))) (L3.s_g 4))
 (L3.Z3 (L3.Sk (L3.Nj (L3.Ze (L3.s_op L3.s_ix (L3.Tm (L3.Ze L3.Z1 (L3.Ze L3.Z1 (L3.Ze (L3.s_op L3.Uv L3.Z1 (L3.Z8 (L3.Ze (L3.Zh 0) (L3.Ze L3.Z1 L3.Zp)))) L3.Zp)))) (L3.s_op L3.Znh (L3.Zh 3) L3.Z1)) L3.Zp)) (L3.s_g 5)
 (L3.Wz (L3.Y2 (L3.s_op L3.s_lt (L3.s_cb L3.Wo (L3.Ze (L3.Zh 4) L3.Zp)) L3.Z1))
 (L3.Yn (L3.s_op L3.Znn (L3.Zh 4) (L3.Zas (L3.Ze (L3.s_op L3.s_ix (L3.Zh 1) (L3.s_op L3.Q0 (L3.Z8 (L3.Ze (L3.Zh 0) (L3.Ze L3.Z1 L3.Zp))) (L3.s_cb L3.Wo (L3.Ze (L3.Zh 1) L3.Zp)))) L3.Zp))) (L3.s_g 4))
 L3.X1))
 (L3.X7 (L3.Zh 4))))
 L3.X1)
 (L3.X7 (L3.s_cb L3.Sh (L3.Ze (L3.Vs (L3.Nj (L3.Ze (L3.s_op L3.Uv L3.Z1 (L3.Z8 (L3.Ze (L3.Zh 0) (L3.Ze L3.Z1 L3.Zp)))) L3.Zp)) (L3.s_g 0) L3.Si (L3.s_op L3.s_ix (L3.Zh 1) (L3.s_op L3.Q0 (L3.Z8 (L3.Ze (L3.Zh 2) (L3.Ze L3.Z1 L3.Zp))) (L3.s_cb L3.Wo (L3.Ze (L3.Zh 1) L3.Zp))))) L3.Zp)))))),fun ds M Kk hM hD h=>?_⟩
  obtain ⟨k0,bs,ms,rfl,h⟩:=h
  obtain ⟨hk,⟨hb,lb,lm,hm⟩,k⟩:=h
  have b0:(0:Int) < ((bs.map D.int).length:Int):=by rw [List.length_map]; have:=List.length_pos_iff.mpr hb; omega
  refine ⟨_,rfl,k0,6,rfl,hk,⟨by decide,by decide⟩,fun y y0 y1=>?_⟩
  refine ⟨_,rfl,.inl ⟨_,rfl,_,rfl,ite2 (fun h=>?_) (fun h=>?_)⟩⟩
  ·exact ⟨Nat.zero_le _,.inl (k [] (Nat.zero_le _) fun _ h=>nomatch h)⟩
  have hy:y≠0:=fun e=>h (decide_eq_true e)
  dsimp only [Zmp]
  refine Zej (fun ρ' M'=>ρ'=[some (.cell k0),some (.lst (bs.map .int)),some (.lst (ms.map wD)),some (.int y),none,none]/\M=M') (fun Kn hn=>?_) ?_
  ·refine ⟨_,rfl,_,_,rfl,rfl,_,rfl,ite2 (fun h=>?_) (fun h=>iteF (hn _ _ ⟨rfl,rfl⟩))⟩
   have hy4:y < 4:=of_decide_eq_true h
   refine ⟨_,rfl,Nat.zero_le _,Rs (Xn Xd) (a:=ms) (b:=[]) rfl rfl ⟨_,rfl,?_⟩⟩
   by_cases e:ms=[]
   ·rw [decide_eq_true e]
    exact iteF (hn _ _ ⟨rfl,rfl⟩)
   rw [decide_eq_false e]
   refine iteT ?_
   have lmm:(ms.map wD).length=ms.length:=List.length_map _
   have m0:0 < ms.length:=List.length_pos_iff.mpr e
   have m0':(0:Int) < ((ms.map wD).length:Int):=by rw [lmm]; omega
   refine ⟨_,rfl,_,rfl,k0,60,rfl,hk,⟨by decide,by decide⟩,fun z z0 z1=>?_⟩
   obtain ⟨a,ea,ha⟩:=Nv z (n:=(ms.map wD).length) (by rw [lmm]; exact m0)
   rw [lmm] at ha
   refine ⟨_,rfl,_,rfl,_,_,rfl,rfl,m0',?_⟩
   dsimp only
   rw [ea]
   refine ⟨_,_,_,rfl,rfl,Ps (j:=a) rfl ha,?_⟩
   refine ⟨_,rfl,k0,3,rfl,hk,⟨by decide,by decide⟩,fun d d0 d1=>?_⟩
   obtain ⟨t,et,t0,t3⟩:=Zhd (y:=y) (by omega) hy4 d0 d1
   refine add_int ?_
   refine ⟨(show 3<=sizeLine by decide),_,rfl,_,_,rfl,rfl,_,_,_,rfl,rfl,et,t,rfl,⟨by omega,by omega⟩,?_⟩
   refine ⟨fun i ρ M'=>∃ (mk:List Int) (v5:Option D),ρ=[some (.cell k0),some (.lst (bs.map .int)),some (.lst (ms.map wD)),some (.int y),some (wD mk),v5]/\M=M'/\mk.length<=4/\∀ b∈mk,b∈bs,fun _ _ _ _ _=>trivial,⟨ms[a],_,rfl,rfl,(hm _ (List.getElem_mem ha)).1,(hm _ (List.getElem_mem ha)).2⟩,?_,?_⟩
   ·rintro i x ρ _ hi rfl ⟨mk,v5,rfl,rfl,l4,hmk⟩
    have lk:(mk.map D.int).length=mk.length:=List.length_map _
    refine ⟨_,rfl,_,rfl,_,_,rfl,rfl,_,rfl,ite2 (fun h=>?_) (fun h=>.inl ⟨mk,_,rfl,rfl,l4,hmk⟩)⟩
    have h4:mk.length < 4:=by have:=of_decide_eq_true h; rw [lk] at this; omega
    refine ⟨_,rfl,_,rfl,_,rfl,k0,60,rfl,hk,⟨by decide,by decide⟩,fun u u0 u1=>?_⟩
    obtain ⟨b,hb',eb⟩:=pick_at hb u
    refine ⟨_,rfl,_,rfl,_,_,rfl,rfl,b0,_,_,_,rfl,rfl,eb,(show 1<=sizeLine by decide),_,_,rfl,rfl,?_,?_⟩
    ·rw [lk]
     exact Zo (by show mk.length + 1<=100000; omega)
    have em:D.tup (mk.map .int++[.int b])=wD (mk++[b]):=by
     unfold wD
     rw [List.map_append]
     rfl
    rw [em]
    refine .inl ⟨mk++[b],_,rfl,rfl,by rw [List.length_append]; exact h4,fun c hc=>?_⟩
    rcases List.mem_append.mp hc with w | w
    ·exact hmk c w
    ·rw [List.mem_singleton.mp w]; exact hb'
   ·rintro ρ _ ⟨mk,v5,rfl,rfl,l4,hmk⟩
    exact ⟨_,rfl,.inl (k mk l4 hmk)⟩
  rintro _ _ ⟨rfl,rfl⟩
  refine ⟨_,rfl,k0,3,rfl,hk,⟨by decide,by decide⟩,fun d d0 d1=>?_⟩
  refine add_int ?_
  refine ⟨1 + d,rfl,⟨by omega,by omega⟩,?_,fun j ys M'=>M=M'/\∃ mk:List Int,mk.length=j/\(∀ b∈mk,b∈bs)/\ys=mk.map .int,fun _ _ _ _ _=>trivial,⟨rfl,[],rfl,(fun _ h=>nomatch h),rfl⟩,?_,?_⟩
  ·show (1 + d).toNat<=sizeLine
   exact Zo (by omega)
  ·rintro j x ys _ hj rfl ⟨rfl,mk,rfl,hmk,rfl⟩
   refine ⟨_,rfl,_,rfl,k0,60,rfl,hk,⟨by decide,by decide⟩,fun u u0 u1=>?_⟩
   obtain ⟨b,hb',eb⟩:=pick_at hb u
   refine ⟨_,rfl,_,rfl,_,_,rfl,rfl,b0,_,_,_,rfl,rfl,eb,rfl,mk++[b],by rw [List.length_append]; rfl,fun c hc=>?_,by rw [List.map_append]; rfl⟩
   rcases List.mem_append.mp hc with w | w
   ·exact hmk c w
   ·rw [List.mem_singleton.mp w]; exact hb'
  ·rintro ys _ ⟨rfl,mk,lk,hmk,rfl⟩
   have lk:mk.length=(1 + d).toNat:=lk
   exact ⟨_,_,rfl,rfl,.inl (k mk (by omega) hmk)⟩
open L3
theorem ok__law_specs (T:Txt mg) {C:Addr} (Xf:Cal P w K mg base "_law_open" 1 ["_law_script", "_law_place"] (L3.spOf ⟨C,K⟩ Zlx)) (Zk:Cal P w K mg base "_law_draw" 1 ["_law_hand", "_law_many"] (L3.spOf ⟨C,K⟩ Zbm)) (Ug:Cal P w K mg base "_law_bytes" 2 ["_law_hand", "_law_most"] (L3.spOf ⟨C,K⟩ Zjw)) (Ub:Cal P w K mg base "_law_words" 2 ["_law_hand", "_law_some", "_law_most", "_law_longest"] (L3.spOf ⟨C,K⟩ Zgm)) (Ue:Cal P w K mg base "_law_signs" 2 ["_law_hand", "_law_many"] (L3.spOf ⟨C,K⟩ Zjs)) (Uc:Cal P w K mg base "_law_table" 2 ["_law_hand", "_law_words_here", "_law_signs_here"] (L3.spOf ⟨C,K⟩ Zjr)) (Uf:Cal P w K mg base "_law_names" 2 ["_law_hand", "_law_many"] (L3.spOf ⟨C,K⟩ Zct)) (U4:Cal P w K mg base "_law_mark" 2 ["_law_hand", "_law_some", "_law_marks"] (L3.spOf ⟨C,K⟩ Zgo)) {f:Addr} {fd:FuncData} (F:Fun K "_law_specs" "_law_specs" s__law_specs f fd):FnOk P w K mg base CX0 3 f fd ["_law_script", "_law_most"] (L3.spOf ⟨C,K⟩ Zcs):=by
 refine L3.Fun.ok3 F sc__law_specs (fun ds M K3 h=>?_) (fun cdv A outer s H E hr=>?_)
 ·obtain ⟨ns,m0,rfl,_⟩:=h
  rfl
 ·have SC:=sc__law_specs
  have hu:=hr.units
  have hu1:=Wt hr
  have Xw:Room 1 _:=hr.mono (by first | decide | omega)
  have Zl:Room 1 _:=hr.mono (by first | decide | omega)
  have Pk:Room 2 _:=hr.mono (by first | decide | omega)
  have Pe:Room 2 _:=hr.mono (by first | decide | omega)
  have Pi:Room 2 _:=hr.mono (by first | decide | omega)
  have Pf:Room 2 _:=hr.mono (by first | decide | omega)
  have Pj:Room 2 _:=hr.mono (by first | decide | omega)
  have N1:Room 2 _:=hr.mono (by first | decide | omega)
  refine ⟨_,_,(Zf (Zv (i:=2) SC.nd rfl (Or.inl rfl) (Zw Xf Xw rfl (Za (pv 0) (Za Zj Zd))))
 (Zf (Zv (i:=3) SC.nd rfl (Or.inl rfl) (Zw Ug Pk rfl (Za (pv 2) (Za Zj Zd))))
 (Zf (Zv (i:=4) SC.nd rfl (Or.inl rfl) (Zw Ue Pi rfl (Za (pv 2) (Za Zj Zd))))
 (Zf (Zv (i:=5) SC.nd rfl (Or.inl rfl) (Zw Zk Zl rfl (Za (pv 2) (Za Zj Zd))))
 (Zf (Zv (i:=6) SC.nd rfl (Or.inl rfl) (Zw Uf Pj rfl (Za (pv 2) (Za (pv 5) Zd))))
 (Zf (Zv (i:=7) SC.nd rfl (Or.inl rfl) (Y8 Zd))
 (Zf (Wf PassesOwn.never rfl (Yh rfl T.b_range (Za (pv 5) Zd)) (Zr (i:=8) SC.nd rfl (Or.inl rfl))
 (Zf (Zv (i:=2) SC.nd rfl (Or.inl rfl) (Zw Xf Xw rfl (Za (pv 0) (Za (Zz (L3.Wn (K':=K) rfl) Zj (pv 8)) Zd))))
 (Zf (Zv (i:=9) SC.nd rfl (Or.inl rfl) (Zz (L3.Wn (K':=K) rfl) (pv 1) (Zz L3.Na Zj (Z4 Zaf (by rfl) T.b_int PyProof.Rows.boot_int (Za (Zjj (Vw (L3.Ve (K':=K) rfl hu) (pv 8) Zj (Z6 _)) (Zji (Vw (L3.Ve (K':=K) rfl hu) (Zw Zk Zl rfl (Za (pv 2) (Za Zj Zd))) Zj (Z6 _)))) Zd)))))
 (Zf (Zv (i:=10) SC.nd rfl (Or.inl rfl) (Zw Ub Pe rfl (Za (pv 2) (Za (pv 3) (Za (pv 9) (Za (Zz (L3.Wn (K':=K) rfl) Zj (Zw Zk Zl rfl (Za (pv 2) (Za Zj Zd)))) Zd))))))
 (Zf (Zv (i:=11) SC.nd rfl (Or.inl rfl) (Zw Uc Pf rfl (Za (pv 2) (Za (pv 10) (Za (pv 4) Zd)))))
 (Zn (Vu (Np PySem.F.plainAttrs_list PySem.F.slot_list_append PySem.F.type_list_append Vy (pv 7) (Za (W7 (Za (Ye (L3.Wi (K':=K) rfl) (pv 6) (pv 8) (fun _ _=>rfl)) (Za (pv 11) (Za (Zw U4 N1 rfl (Za (pv 2) (Za (pv 3) (Za (Xq (T:=["_law_spec"]) (cs:=[]) rfl (CScope.ok (by kernel_rfl)) (Y0 (pv 7)) (fun _ _ _ _=>(Zr (i:=0) (Xl (by kernel_rfl)) rfl (Or.inl rfl) (Or.inr rfl))) (fun _ _ _ _=>Y7) (fun _ _ _ _=>(Ye (L3.Wi (K':=K) rfl) (pv 0) Zj (fun _ _=>rfl))) (Xr (by decide))) Zd)))) Zd)))) Zd)))))))))
 (Zn (Z5 (W7 (Za (pv 3) (Za (pv 4) (Za (pv 7) Zd))))))))))))),fun _=>(L3.Z3 (L3.Yn (L3.Z8 (L3.Ze (L3.Zh 0) (L3.Ze L3.Z1 L3.Zp))) (L3.s_g 2))
 (L3.Z3 (L3.Yn (L3.Z8 (L3.Ze (L3.Zh 2) (L3.Ze L3.Z1 L3.Zp))) (L3.s_g 3))
 (L3.Z3 (L3.Yn (L3.Z8 (L3.Ze (L3.Zh 2) (L3.Ze L3.Z1 L3.Zp))) (L3.s_g 4))
 (L3.Z3 (L3.Yn (L3.Z8 (L3.Ze (L3.Zh 2) (L3.Ze L3.Z1 L3.Zp))) (L3.s_g 5))
 (L3.Z3 (L3.Yn (L3.Z8 (L3.Ze (L3.Zh 2) (L3.Ze (L3.Zh 5) L3.Zp))) (L3.s_g 6))
 (L3.Z3 (L3.Yn (L3.Zex L3.Zp) (L3.s_g 7))
 (L3.Z3 (L3.Sk (L3.Nj (L3.Ze (L3.Zh 5) L3.Zp)) (L3.s_g 8)
 (L3.Z3 (L3.Yn (L3.Z8 (L3.Ze (L3.Zh 0) (L3.Ze (L3.s_op L3.Uv L3.Z1 (L3.Zh 8)) L3.Zp))) (L3.s_g 2))
 (L3.Z3 (L3.Yn (L3.s_op L3.Uv (L3.Zh 1) (L3.s_op L3.Zew L3.Z1 (L3.s_cb L3.Zkg (L3.Ze (L3.Zjb (L3.s_op L3.s_eq (L3.Zh 8) L3.Z1) (L3.s_op L3.s_eq (L3.Z8 (L3.Ze (L3.Zh 2) (L3.Ze L3.Z1 L3.Zp))) L3.Z1)) L3.Zp)))) (L3.s_g 9))
 (L3.Z3 (L3.Yn (L3.Z8 (L3.Ze (L3.Zh 2) (L3.Ze (L3.Zh 3) (L3.Ze (L3.Zh 9) (L3.Ze (L3.s_op L3.Uv L3.Z1 (L3.Z8 (L3.Ze (L3.Zh 2) (L3.Ze L3.Z1 L3.Zp)))) L3.Zp))))) (L3.s_g 10))
 (L3.Z3 (L3.Yn (L3.Z8 (L3.Ze (L3.Zh 2) (L3.Ze (L3.Zh 10) (L3.Ze (L3.Zh 4) L3.Zp)))) (L3.s_g 11))
 (L3.U7 (L3.U8 (L3.Zh 7) (L3.Ze (L3.Zas (L3.Ze (L3.s_op L3.s_ix (L3.Zh 6) (L3.Zh 8)) (L3.Ze (L3.Zh 11) (L3.Ze (L3.Z8 (L3.Ze (L3.Zh 2) (L3.Ze (L3.Zh 3) (L3.Ze (L3.Vs (L3.s_il (L3.Zh 7)) (L3.s_g 0) L3.Si (L3.s_op L3.s_ix (L3.Zh 0) L3.Z1)) L3.Zp)))) L3.Zp)))) L3.Zp))))))))
 (L3.X7 (L3.Zas (L3.Ze (L3.Zh 3) (L3.Ze (L3.Zh 4) (L3.Ze (L3.Zh 7) L3.Zp)))))))))))),fun ds M Kk hM hD h=>?_⟩
  obtain ⟨ns,m0,rfl,h⟩:=h
  obtain ⟨⟨hl,m1,m3⟩,k⟩:=h
  refine ⟨_,rfl,ns,0,rfl,⟨hl,by decide,by decide⟩,?_⟩
  refine ⟨_,rfl,M.length,4,rfl,Xe,⟨by decide,by decide⟩,fun bs bnd b2 b4 br=>?_⟩
  refine ⟨_,rfl,M.length,30,rfl,Xe,⟨by decide,by decide⟩,fun ss snd sl=>?_⟩
  refine ⟨_,rfl,M.length,9,rfl,Xe,⟨by decide,by decide⟩,fun y y0 y1=>?_⟩
  obtain ⟨n,rfl⟩:∃ n:Nat,y=n:=⟨y.toNat,by omega⟩
  have hn:n<=8:=by omega
  refine ⟨_,rfl,_,rfl,M.length,n,rfl,Xe,hn,fun zs znd zl zok zal=>?_⟩
  refine ⟨Nat.zero_le _,?_⟩
  have hbs:bs≠[]:=fun e=>by rw [e] at b2; simp at b2
  have p0:M<+:M++[MO.hand]++[.lst (zs.map .str)]++[.lst []]:=⟨[MO.hand]++[.lst (zs.map .str)]++[.lst []],by simp⟩
  have c0:(M++[MO.hand]++[.lst (zs.map .str)]++[MO.lst []])[(M++[MO.hand]).length]?=some (.lst (zs.map .str)):=We Xe
  have d0:(M++[MO.hand]++[.lst (zs.map .str)]++[MO.lst []])[(M++[MO.hand]++[MO.lst (zs.map .str)]).length]?=some (.lst []):=Xe
  have hcn:M.length<=(M++[MO.hand]).length:=by rw [List.length_append]; omega
  have hcd:(M++[MO.hand]).length < (M++[MO.hand]++[MO.lst (zs.map .str)]).length:=by rw [List.length_append (as:=M++[MO.hand])]; exact Nat.lt_succ_self _
  generalize (M++[MO.hand]).length=cn at c0 hcn hcd ⊢
  generalize (M++[MO.hand]++[MO.lst (zs.map .str)]).length=cq at d0 hcd ⊢
  generalize M++[MO.hand]++[.lst (zs.map .str)]++[MO.lst []]=M0 at p0 c0 d0 ⊢
  refine ⟨_,rfl,_,rfl,⟨by omega,by omega⟩,fun i ρ M'=>∃ (qs:List Fq) (v2 v8 v9 v10 v11:Option D),ρ=[some (.frz (ns.map .int)),some (.int m0),v2,some (.lst (bs.map .int)),some (.lst (ss.map .int)),some (.int n),some (.cell cn),some (.cell cq),v8,v9,v10,v11]/\M<+:M'/\M'[cn]?=some (.lst (zs.map .str))/\M'[cq]?=some (.lst (qs.map spD))/\qs.map (·.1)=zs.take i/\(∀ q∈qs,Free q.2.1/\Fits q.2.1/\(∀ p∈q.2.1,∀ b∈p.2,b∈bs)/\q.2.2.length<=4/\(∀ b∈q.2.2,b∈bs)/\q.2.1.length<=28),fun _ _ _ _ _=>trivial,⟨[],_,_,_,_,_,rfl,p0,c0,d0,rfl,fun _ h=>nomatch h⟩,?_,?_⟩
  ·rintro i x ρ M1 hi rfl ⟨qs,v2,v8,v9,v10,v11,rfl,p1,c1,d1,eq,hq⟩
   have hi:i < n:=by
    have:i < ((n:Int)).toNat:=hi
    omega
   have lq:qs.length=i:=by
    have:=congrArg List.length eq
    rw [List.length_map,List.length_take] at this
    omega
   refine ⟨_,rfl,_,rfl,ns,_,rfl,⟨hl,by omega,by omega⟩,?_⟩
   have p2:M<+:M1++[MO.hand]:=p1.trans ⟨_,rfl⟩
   have c2:(M1++[MO.hand])[cn]?=some (.lst (zs.map .str)):=We c1
   have d2:(M1++[MO.hand])[cq]?=some (.lst (qs.map spD)):=We d1
   have h2:(M1++[MO.hand])[M1.length]?=some .hand:=Xe
   generalize M1.length=hh at h2 ⊢
   generalize M1++[MO.hand]=M2 at p2 c2 d2 h2 ⊢
   refine g_nx ?_
   dsimp only
   refine Zej (fun ρ' M'=>∃ w:Int,0<=w/\w<=6/\M2=M'/\ρ'=[some (.frz (ns.map .int)),some (.int m0),some (.cell hh),some (.lst (bs.map .int)),some (.lst (ss.map .int)),some (.int n),some (.cell cn),some (.cell cq),some (.int (0 + (i:Int))),some (.int w),v10,v11]) (fun Kn hn'=>?_) ?_
   ·refine ⟨_,rfl,_,rfl,.inl ⟨_,rfl,_,rfl,ite2 (fun h=>?_) (fun h=>?_)⟩⟩
    ·refine ⟨_,rfl,hh,8,rfl,h2,⟨by decide,by decide⟩,fun z z0 z1=>.inl ⟨_,rfl,_,_,rfl,rfl,.inl ⟨by decide,by decide⟩,?_⟩⟩
     refine add_int ?_
     refine hn' _ _ ⟨_,?_,?_,rfl,rfl⟩ <;> (split <;> omega)
    ·refine ⟨_,_,rfl,rfl,.inl ⟨by decide,by decide⟩,?_⟩
     refine add_int ?_
     exact hn' _ _ ⟨_,by omega,by omega,rfl,rfl⟩
   rintro _ _ ⟨w,w0,w6,rfl,rfl⟩
   refine ⟨_,rfl,_,rfl,_,rfl,_,rfl,hh,4,rfl,h2,⟨by decide,by decide⟩,fun g g0 g1=>?_⟩
   refine add_int ?_
   have wb:w * (bs.length:Int)<=24:=by
    have:(bs.length:Int)<=4:=b4
    calc w * (bs.length:Int)<=6 * (bs.length:Int):=Int.mul_le_mul_of_nonneg_right w6 (by omega)
     _<=24:=by omega
   refine ⟨hh,bs,w,1 + g,rfl,h2,⟨bnd,hbs,by omega,w0,w6,by omega,by omega⟩,fun ws ok wbs wl=>?_⟩
   refine ⟨_,rfl,_,rfl,_,rfl,hh,ws,ss,rfl,h2,⟨ok,by omega,snd,by omega,by omega⟩,fun L fr fi pm=>?_⟩
   refine ⟨_,rfl,Sx (Xj d2),?_⟩
   have ez:(zs.map D.str)[i]?=some (.str (zs[i]'(by omega))):=by rw [List.getElem?_map,List.getElem?_eq_getElem (by omega)]; rfl
   have lqm:(qs.map spD).length=qs.length:=List.length_map _
   refine ⟨_,rfl,_,rfl,_,_,_,(Wl (Xj c2)).2.2,rfl,V6 (j:=i) (by omega) ez,_,rfl,_,rfl,_,rfl,?_⟩
   refine ⟨_,rfl,_,(Wl (Xj d2)).2.1,?_,fun j ys M'=>M2=M'/\ys=((qs.take j).map (·.2.2)).map wD,fun _ _ _ _ h=>(by rw [<- h.1]; exact (Wl (Xj d2)).2.1),⟨rfl,rfl⟩,?_,?_⟩
   ·show (qs.map spD).length<=sizeLine
    rw [lqm]
    exact Zo (by omega)
   ·rintro j x ys _ hj hx ⟨rfl,rfl⟩
    obtain ⟨hj',rfl⟩:=X4 hx
    refine ⟨_,rfl,_,_,_,rfl,rfl,rfl,rfl,?_⟩
    rw [List.take_succ_eq_append_getElem hj',List.map_append,List.map_append]
    rfl
   rintro ys _ ⟨rfl,rfl⟩
   have er:qs.take (qs.map spD).length=qs:=by rw [lqm,List.take_length]
   rw [show List.take _ qs=qs from er]
   refine ⟨hh,bs,qs.map (·.2.2),rfl,h2,⟨hbs,by omega,by rw [List.length_map]; omega,fun m hm=>?_⟩,fun mk l4 hmb=>?_⟩
   ·obtain ⟨q,hq',rfl⟩:=List.mem_map.mp hm
    exact ⟨(hq q hq').2.2.2.1,(hq q hq').2.2.2.2.1⟩
   refine ⟨(show 3<=sizeLine by decide),cq,_,_,rfl,rfl,d2,?_,.inl ⟨qs++[(zs[i]'(by omega),L,mk)],_,_,_,_,_,rfl,Sr p2 (by omega),Vk c2 (by omega),?_,?_,fun q hq'=>?_⟩⟩
   ·rw [lqm]
    exact Nat.lt_of_le_of_lt (by omega:qs.length<=8) (by decide)
   ·rw [List.getElem?_set_self (Vo d2),List.map_append]
    rfl
   ·rw [List.map_append,eq,List.take_succ_eq_append_getElem (by omega)]
    rfl
   ·rcases List.mem_append.mp hq' with z | z
    ·exact hq q z
    ·rw [List.mem_singleton.mp z]
     exact ⟨fr,fi,fun p hp b hb=>wbs p.2 (pm.mem_iff.mp (List.mem_map.mpr ⟨p,hp,rfl⟩)) b hb,l4,hmb,by have:=pm.length_eq; rw [List.length_map] at this; show L.length<=28; omega⟩
  ·rintro ρ M1 ⟨qs,v2,v8,v9,v10,v11,rfl,p1,c1,d1,eq,hq⟩
   have eN:(Zhn 0 ((n:Int)).toNat).n=n:=Int.toNat_natCast n
   rw [eN,show zs.take n=zs by rw [<- zl,List.take_length]] at eq
   refine ⟨_,rfl,_,rfl,_,rfl,(show 3<=sizeLine by decide),.inl (k bs ss qs cq M1 ⟨bnd,b2,by omega,br,snd,by omega,by rw [eq]; exact znd,?_,fun q hq'=>zok _ ?_,fun q h=>(hq q h).1,fun q h=>(hq q h).2.1,fun q h=>(hq q h).2.2.1,fun q h=>(hq q h).2.2.2.1,fun q h=>(hq q h).2.2.2.2.1,by rw [eq]; exact zal,fun q h=>(hq q h).2.2.2.2.2⟩ p1 (by omega) d1)⟩
   ·have:=congrArg List.length eq
    rw [List.length_map] at this
    omega
   ·rw [<- eq]
    exact List.mem_map.mpr ⟨q,hq',rfl⟩
open L3
theorem ok__law_written (T:Txt mg) {C:Addr}  {f:Addr} {fd:FuncData} (F:Fun K "_law_written" "_law_written" s__law_written f fd):FnOk P w K mg base CX0 1 f fd ["_law_table_here", "_law_text_here"] (L3.spOf ⟨C,K⟩ Qq):=by
 refine L3.Fun.ok3 F sc__law_written (fun ds M K3 h=>?_) (fun cdv A outer s H E hr=>?_)
 ·obtain ⟨L,d,ts,rfl,_⟩:=h
  rfl
 ·have SC:=sc__law_written
  have hu:=hr.units
  have hu1:=Wt hr
  refine ⟨_,_,(Zf (Zv (i:=2) SC.nd rfl (Or.inl rfl) (Y8 Zd))
 (Zf (Wf PassesOwn.never rfl (Yh rfl T.b_range (Za (Zt (Yy (K:=K) rfl) (by rfl) T.b_len PySem.boot_len (Za (pv 1) Zd)) Zd)) (Zr (i:=3) SC.nd rfl (Or.inr rfl))
 (Zf (Vv (i:=4) SC.nd rfl rfl (T:=["_law_sign", "_law_word"]) (cs:=[1,3]) rfl (CScope.ok (by kernel_rfl)) (Y0 (pv 0)) (fun _ _ _ _=>(Wv (n:=2) rfl (Zy (Zr (i:=0) (Xl (by kernel_rfl)) rfl (Or.inl rfl) (Or.inr rfl)) (Zy (Zr (i:=1) (Xl (by kernel_rfl)) rfl (Or.inl rfl) (Or.inr rfl)) X2)) (by rfl))) (fun _ _ _ _=>(Tr (Z2 (L3.Ve (K':=K) rfl hu) (pv 0) (Ye (L3.Wi (K':=K) rfl) (pv 2) (pv 3) (fun _ _=>rfl)) (Z6 _)))) (fun _ _ _ _=>(pv 1)) (T4 (Yu (by decide) (Yu (by decide) V2))))
 (Zf (Xk (Z2 (L3.Ve (K':=K) rfl hu) (pv 4) (Y8 Zd) (Z6 _))
 (Zn (Z5 (W7 (Za Ss (Za (pv 3) Zd)))))
 Z7)
 (Zn (Zv (i:=2) SC.nd rfl (Or.inl rfl) (Zz (L3.Wn (K':=K) rfl) (pv 2) (Z4 (U0 (K:=K) rfl) (by rfl) T.b_list PyProof.Rows.boot_list (Za (Ye (L3.Wi (K':=K) rfl) (pv 4) Zj (fun _ _=>rfl)) Zd))))))))
 (Zn (Z5 (W7 (Za Ss (Za (pv 2) Zd))))))),fun _=>(L3.Z3 (L3.Yn (L3.Tm L3.Zp) (L3.s_g 2))
 (L3.Z3 (L3.Sk (L3.Nj (L3.Ze (L3.s_cb L3.Wo (L3.Ze (L3.Zh 1) L3.Zp)) L3.Zp)) (L3.s_g 3)
 (L3.Z3 (L3.Yn (L3.Vs (L3.s_il (L3.Zh 0)) (L3.Uo (L3.Yd (L3.s_g 0) (L3.Yd (L3.s_g 1) L3.Up))) (L3.Y2 (L3.s_op L3.s_eq (L3.Zh 0) (L3.s_op L3.s_ix (L3.Zh 2) (L3.Zh 3)))) (L3.Zh 1)) (L3.s_g 4))
 (L3.Z3 (L3.Wz (L3.Y2 (L3.s_op L3.s_eq (L3.Zh 4) (L3.Tm L3.Zp)))
 (L3.X7 (L3.Zas (L3.Ze L3.Zhk (L3.Ze (L3.Zh 3) L3.Zp))))
 L3.X1)
 (L3.Yn (L3.s_op L3.Uv (L3.Zh 2) (L3.s_cb L3.Ni (L3.Ze (L3.s_op L3.s_ix (L3.Zh 4) L3.Z1) L3.Zp))) (L3.s_g 2)))))
 (L3.X7 (L3.Zas (L3.Ze L3.Zhk (L3.Ze (L3.Zh 2) L3.Zp)))))),fun ds M Kk hM hD h=>?_⟩
  obtain ⟨L,d,ts,rfl,h⟩:=h
  obtain ⟨hd,⟨fi,lt⟩,k,kl⟩:=h
  have lm:(ts.map D.int).length=ts.length:=List.length_map _
  have lL:=fi.1
  refine ⟨Nat.zero_le _,?_⟩
  refine ⟨_,rfl,?_⟩
  dsimp only [uNil]
  refine Zjl hd ?_
  refine ⟨_,rfl,⟨by omega,by omega⟩,fun i ρ M'=>∃ (U:List Pr) (v3 v4:Option D),ρ=[some (.lst (L.map pD)),some d,some (.lst ((Wj U).map .int)),v3,v4]/\M=M'/\Xs L U ts i,fun _ _ _ _ _=>trivial,⟨[],_,_,rfl,rfl,(fun _ h=>nomatch h),rfl⟩,?_,?_⟩
  ·rintro i x ρ _ hi rfl ⟨U,v3,v4,rfl,rfl,tx⟩
   have hi:i < ts.length:=by
    have:i < (((ts.map D.int).length:Int)).toNat:=hi
    omega
   have e0:(0:Int) + (i:Int)=(i:Int):=Int.zero_add _
   rw [e0]
   have a2:(ts.map D.int)[i]?=some (.int ts[i]):=by rw [List.getElem?_map,List.getElem?_eq_getElem hi]; rfl
   refine ⟨_,rfl,_,rfl,?_,fun j ys M'=>M=M'/\ys=(((L.take j).filter fun p=>decide (p.1=ts[i])).map (·.2)).map wD,fun _ _ _ _ _=>rfl,⟨rfl,rfl⟩,?_,?_⟩
   ·show (L.map pD).length<=sizeLine
    rw [List.length_map]
    exact Zo (by omega)
   ·rintro j x ys _ hj hx ⟨rfl,rfl⟩
    obtain ⟨hj',rfl⟩:=X4 hx
    refine ⟨_,rfl,rfl,_,_,rfl,_,_,rfl,rfl,?_⟩
    refine ⟨_,rfl,_,rfl,_,rfl,?_⟩
    refine Zba hd (V6 rfl a2) ?_
    refine .inl ⟨_,rfl,_,rfl,ite2 (fun h=>?_) (fun h=>?_)⟩
    ·refine ⟨_,rfl,rfl,?_⟩
     rw [List.take_succ_eq_append_getElem hj',List.filter_append,List.filter_cons,if_pos h,List.map_append,List.map_append]
     rfl
    ·refine ⟨rfl,?_⟩
     rw [List.take_succ_eq_append_getElem hj',List.filter_append,List.filter_cons,if_neg h,List.filter_nil,List.append_nil]
   rintro ys _ ⟨rfl,rfl⟩
   have er:L.take (L.map pD).length=L:=by rw [List.length_map,List.take_length]
   rw [show List.take _ L=L from er]
   have hall:∀ p∈L.filter (fun p=>decide (p.1=ts[i])),p∈L/\p.1=ts[i]:=fun p h=>⟨(List.mem_filter.mp h).1,of_decide_eq_true (List.mem_filter.mp h).2⟩
   have hnil:L.filter (fun p=>decide (p.1=ts[i]))=[]->Wm L ts i=true:=fun e=>(V0 hi).mpr fun p hp ep=>by
    have:p∈L.filter fun p=>decide (p.1=ts[i]):=List.mem_filter.mpr ⟨hp,decide_eq_true ep⟩
    rw [e] at this
    cases this
   generalize L.filter (fun p=>decide (p.1=ts[i]))=F at hnil hall
   refine ⟨_,rfl,Nat.zero_le _,Rs (Xn Xd) (a:=F.map (·.2)) (b:=[]) rfl rfl ⟨_,rfl,?_⟩⟩
   cases F with
   | nil =>
    rw [decide_eq_true (show (([]:List Pr).map (·.2))=[] from rfl)]
    exact iteT ⟨_,rfl,(show 2<=sizeLine by decide),.inl (kl i U hi tx (hnil rfl))⟩
   | cons q F =>
    rw [decide_eq_false (fun e=>nomatch e)]
    refine iteF ?_
    obtain ⟨hq,eq⟩:=hall q List.mem_cons_self
    refine ⟨_,rfl,_,rfl,_,_,wD q.2,rfl,rfl,V6 (j:=0) rfl rfl,_,_,rfl,rfl,_,_,rfl,rfl,?_,?_⟩
    ·have l1:=Sl fi tx.1
     have l2:=tx.len (Nat.le_of_lt hi)
     have l3:=(fi.2 q hq).2
     rw [List.length_map,List.length_map]
     exact Zo (by omega)
    have e1:(Wj U).map D.int++q.2.map D.int=(Wj (U++[q])).map D.int:=by
     rw [Ze1,List.map_append]
     unfold Wj
     simp
    rw [e1]
    exact .inl ⟨U++[q],_,_,rfl,rfl,tx.snoc hi hq eq⟩
  ·rintro ρ _ ⟨U,v3,v4,rfl,rfl,tx⟩
   have tx:Xs L U ts (((ts.map D.int).length:Int)).toNat:=tx
   rw [lm,Int.toNat_natCast] at tx
   exact ⟨_,rfl,(show 2<=sizeLine by decide),.inl (k U tx)⟩
open L3
theorem ok__law_by_mark (T:Txt mg) {C:Addr}  {f:Addr} {fd:FuncData} (F:Fun K "_law_by_mark" "_law_by_mark" s__law_by_mark f fd):FnOk P w K mg base CX0 1 f fd ["_law_specs_here", "_law_row"] (L3.spOf ⟨C,K⟩ Zcv):=by
 refine L3.Fun.ok3 F sc__law_by_mark (fun ds M K3 h=>?_) (fun cdv A outer s H E hr=>?_)
 ·obtain ⟨d,e,qs,ns,rfl,_⟩:=h
  rfl
 ·have SC:=sc__law_by_mark
  have hu:=hr.units
  have hu1:=Wt hr
  refine ⟨_,_,(Zf (Zv (i:=2) SC.nd rfl (Or.inr rfl) Zj)
 (Zf (Wf PassesOwn.never rfl (Y0 (pv 0)) (Wv (n:=3) rfl (Zy (Zr (i:=3) SC.nd rfl (Or.inl rfl)) (Zy (Zr (i:=4) SC.nd rfl (Or.inl rfl)) (Zy (Zr (i:=5) SC.nd rfl (Or.inl rfl)) X2))) (by rfl))
 (Zn (Xk (Z2 (L3.Ve (K':=K) rfl hu) (Z4 (Zag (K:=K) rfl) (by rfl) T.b_tuple PyProof.Rows.boot_tuple (Za (Z9 (L3.Rz (K':=K) rfl) (pv 1) Yq (Yf (Zt (Yy (K:=K) rfl) (by rfl) T.b_len PySem.boot_len (Za (pv 5) Zd)))) Zd)) (pv 5) (Z6 _))
 (Zn (Zv (i:=2) SC.nd rfl (Or.inr rfl) (Zt (Tf rfl) (by rfl) T.b_max PyProof.Rows.boot_max (Za (pv 2) (Za (Zt (Yy (K:=K) rfl) (by rfl) T.b_len PySem.boot_len (Za (pv 5) Zd)) Zd)))))
 Z7)))
 (Zf (Xk (Z2 (L3.Ve (K':=K) rfl hu) (pv 2) Zj (Z6 _))
 (Zn (Z5 (Y8 Zd)))
 Z7)
 (Zn (Z5 (Xq (T:=["_law_name", "_law_table_here", "_law_mark_here"]) (cs:=[2,1]) rfl (CScope.ok (by kernel_rfl)) (Y0 (pv 0)) (fun _ _ _ _=>(Wv (n:=3) rfl (Zy (Zr (i:=0) (Xl (by kernel_rfl)) rfl (Or.inl rfl) (Or.inr rfl)) (Zy (Zr (i:=1) (Xl (by kernel_rfl)) rfl (Or.inl rfl) (Or.inr rfl)) (Zy (Zr (i:=2) (Xl (by kernel_rfl)) rfl (Or.inl rfl) (Or.inr rfl)) X2))) (by rfl))) (fun _ _ _ _=>(Tr (PW.pt (Sm (Z2 (L3.Ve (K':=K) rfl hu) (Zt (Yy (K:=K) rfl) (by rfl) T.b_len PySem.boot_len (Za (pv 2) Zd)) (pv 3) (Z6 _)) (Tq (Z2 (L3.Ve (K':=K) rfl hu) (Z4 (Zag (K:=K) rfl) (by rfl) T.b_tuple PyProof.Rows.boot_tuple (Za (Z9 (L3.Rz (K':=K) rfl) (pv 4) Yq (Yf (pv 3))) Zd)) (pv 2) (Z6 _))))))) (fun _ _ _ _=>(pv 0)) (T4 (Yu (by decide) (Yu (by decide) (Yu (by decide) V2)))))))))),fun _=>(L3.Z3 (L3.Yn L3.Z1 (L3.s_g 2))
 (L3.Z3 (L3.Sk (L3.s_il (L3.Zh 0)) (L3.Uo (L3.Yd (L3.s_g 3) (L3.Yd (L3.s_g 4) (L3.Yd (L3.s_g 5) L3.Up))))
 (L3.Wz (L3.Y2 (L3.s_op L3.s_eq (L3.s_cb L3.Sh (L3.Ze (L3.s_sl L3.R8 (L3.Zh 1) L3.Wd (L3.Vr (L3.s_cb L3.Wo (L3.Ze (L3.Zh 5) L3.Zp)))) L3.Zp)) (L3.Zh 5)))
 (L3.Yn (L3.s_cb L3.Zi7 (L3.Ze (L3.Zh 2) (L3.Ze (L3.s_cb L3.Wo (L3.Ze (L3.Zh 5) L3.Zp)) L3.Zp))) (L3.s_g 2))
 L3.X1))
 (L3.Z3 (L3.Wz (L3.Y2 (L3.s_op L3.s_eq (L3.Zh 2) L3.Z1))
 (L3.X7 (L3.Tm L3.Zp))
 L3.X1)
 (L3.X7 (L3.Vs (L3.s_il (L3.Zh 0)) (L3.Uo (L3.Yd (L3.s_g 0) (L3.Yd (L3.s_g 1) (L3.Yd (L3.s_g 2) L3.Up)))) (L3.Zdd (L3.Y2 (L3.s_op L3.s_eq (L3.s_cb L3.Wo (L3.Ze (L3.Zh 2) L3.Zp)) (L3.Zh 3))) (L3.Y2 (L3.s_op L3.s_eq (L3.s_cb L3.Sh (L3.Ze (L3.s_sl L3.R8 (L3.Zh 4) L3.Wd (L3.Vr (L3.Zh 3))) L3.Zp)) (L3.Zh 2)))) (L3.Zh 0)))))),fun ds M Kk hM hD h=>?_⟩
  obtain ⟨d,e,qs,ns,rfl,h⟩:=h
  obtain ⟨hd,he,l8,k⟩:=h
  have lqm:(qs.map spD).length=qs.length:=List.length_map _
  have sm:∀ m:List Int,(m.map D.int).length=m.length:=fun m=>List.length_map _
  refine ⟨_,rfl,_,(Wl hd).2.1,fun i ρ M'=>∃ v3 v4 v5:Option D,ρ=[some d,some e,some (.int (topF (Xi (qs.take i) ns))),v3,v4,v5]/\M=M',fun _ _ _ _ h=>(by obtain ⟨_,_,_,_,h⟩:=h; rw [<- h]; exact (Wl hd).2.1),⟨_,_,_,rfl,rfl⟩,?_,?_⟩
  ·rintro i x ρ _ hi hx ⟨v3,v4,v5,rfl,rfl⟩
   obtain ⟨hi',rfl⟩:=X4 hx
   refine ⟨_,rfl,rfl,_,_,rfl,_,_,rfl,_,_,rfl,rfl,?_⟩
   refine ⟨_,rfl,_,rfl,_,rfl,_,rfl,?_⟩
   refine Zhg he ?_
   rw [sm,V3,Rt]
   have et:=Zf8 (zs:=qs.take i) (z:=qs[i]) (ns:=ns)
   rw [<- List.take_succ_eq_append_getElem hi'] at et
   refine ⟨_,_,rfl,rfl,_,rfl,Tx (Xn Xd) (a:=ns.take qs[i].2.2.length) (b:=qs[i].2.2) ⟨_,rfl,ite2 (fun h=>?_) (fun h=>?_)⟩⟩
   ·have h:ns.take qs[i].2.2.length=qs[i].2.2:=of_decide_eq_true h
    refine ⟨_,rfl,_,rfl,_,rfl,_,_,rfl,?_⟩
    have ev:(if (((qs[i].2.2.map D.int).length:Nat):Int) > (topF (Xi (qs.take i) ns):Int) then (((qs[i].2.2.map D.int).length:Nat):Int) else (topF (Xi (qs.take i) ns):Int))=((topF (Xi (qs.take (i + 1)) ns):Nat):Int):=by
     rw [sm,et]
     unfold Tu
     rw [decide_eq_true h,Bool.and_true]
     by_cases h0:0 < qs[i].2.2.length
     ·rw [decide_eq_true h0,if_pos rfl,Zhc]
      split <;> omega
     ·rw [decide_eq_false h0,show (if (false:Bool)=true then [qs[i]] else [])=[] from rfl,List.append_nil,if_neg (by omega)]
    dsimp only
    rw [ev]
    exact .inl ⟨_,_,_,rfl,rfl⟩
   ·have h:¬ ns.take qs[i].2.2.length=qs[i].2.2:=fun w=>h (decide_eq_true w)
    have e2:Xi (qs.take (i + 1)) ns=Xi (qs.take i) ns:=by
     rw [et]
     unfold Tu
     rw [decide_eq_false h,Bool.and_false,if_neg (by decide),List.append_nil]
    refine .inl ⟨some (.str qs[i].1),some (.lst (qs[i].2.1.map pD)),some (wD qs[i].2.2),?_,rfl⟩
    rw [e2]
    rfl
  ·rintro ρ _ ⟨v3,v4,v5,rfl,rfl⟩
   have er:qs.take (qs.map spD).length=qs:=by rw [lqm,List.take_length]
   rw [show List.take _ qs=qs from er]
   refine ⟨_,rfl,.inl ⟨_,rfl,_,rfl,ite2 (fun h=>?_) (fun h=>?_)⟩⟩
   ·have h:topF (Xi qs ns)=0:=by have:=of_decide_eq_true h; omega
    rw [Zl2 h] at k
    exact ⟨Nat.zero_le _,.inl k⟩
   ·have h:0 < topF (Xi qs ns):=Nat.pos_of_ne_zero fun w=>h (decide_eq_true (by rw [w]; rfl))
    have eb:=Zo9 h
    generalize topF (Xi qs ns)=t at h eb
    refine ⟨_,rfl,_,(Wl hd).2.1,?_,fun j ys M'=>M=M'/\ys=(((qs.take j).filter fun z=>decide (z.2.2.length=t) && decide (ns.take t=z.2.2)).map (·.1)).map .str,fun _ _ _ _ h=>(by rw [<- h.1]; exact (Wl hd).2.1),⟨rfl,rfl⟩,?_,?_⟩
    ·show (qs.map spD).length<=sizeLine
     rw [lqm]
     exact Zo (by omega)
    ·rintro j x ys _ hj hx ⟨rfl,rfl⟩
     obtain ⟨hj',rfl⟩:=X4 hx
     refine ⟨_,rfl,rfl,_,_,rfl,_,_,rfl,_,_,rfl,rfl,?_⟩
     refine ⟨_,rfl,_,rfl,_,rfl,.inl ⟨_,rfl,_,rfl,ite2 (fun h1=>?_) (fun h1=>iteF ⟨rfl,?_⟩)⟩⟩
     ·have h1:qs[j].2.2.length=t:=by have:=of_decide_eq_true h1; rw [sm] at this; omega
      refine ⟨_,rfl,_,rfl,_,rfl,?_⟩
      refine Zhg he ?_
      rw [V3,Rt]
      refine ⟨_,_,rfl,rfl,_,rfl,Tx (Xn Xd) (a:=ns.take t) (b:=qs[j].2.2) ⟨_,rfl,ite2 (fun h2=>?_) (fun h2=>?_)⟩⟩
      ·refine ⟨_,rfl,rfl,?_⟩
       rw [List.take_succ_eq_append_getElem hj',List.filter_append,List.filter_cons,if_pos (by rw [decide_eq_true h1,h2]; rfl),List.map_append,List.map_append]
       rfl
      ·refine ⟨rfl,?_⟩
       rw [List.take_succ_eq_append_getElem hj',List.filter_append,List.filter_cons,if_neg (by rw [decide_eq_true h1,Bool.true_and]; exact h2),List.filter_nil,List.append_nil]
     ·have h1:¬ qs[j].2.2.length=t:=fun w=>h1 (decide_eq_true (by rw [sm,w]))
      rw [List.take_succ_eq_append_getElem hj',List.filter_append,List.filter_cons,if_neg (by rw [decide_eq_false h1,Bool.false_and]; exact Bool.false_ne_true),List.filter_nil,List.append_nil]
    ·rintro ys _ ⟨rfl,rfl⟩
     rw [show List.take _ qs=qs from er,<- eb]
     exact .inl k
open L3
theorem ok__law_texts (T:Txt mg) {C:Addr} (Zk:Cal P w K mg base "_law_draw" 1 ["_law_hand", "_law_many"] (L3.spOf ⟨C,K⟩ Zbm)) (Vm:Cal P w K mg base "_law_text" 2 ["_law_hand", "_law_signs_here", "_law_most"] (L3.spOf ⟨C,K⟩ Zo2)) {f:Addr} {fd:FuncData} (F:Fun K "_law_texts" "_law_texts" s__law_texts f fd):FnOk P w K mg base CX0 3 f fd ["_law_specs_here", "_law_at", "_law_hand"] (L3.spOf ⟨C,K⟩ Pn):=by
 refine L3.Fun.ok3 F sc__law_texts (fun ds M K3 h=>?_) (fun cdv A outer s H E hr=>?_)
 ·obtain ⟨k0,a,d,qs,ha,rfl,_⟩:=h
  rfl
 ·have SC:=sc__law_texts
  have hu:=hr.units
  have hu1:=Wt hr
  have Zl:Room 1 _:=hr.mono (by first | decide | omega)
  have T3:Room 2 _:=hr.mono (by first | decide | omega)
  refine ⟨_,_,(Zf (Qh (Ye (L3.Wi (K':=K) rfl) (pv 0) (pv 1) (fun _ _=>rfl)) (Wv (n:=3) rfl (Zy (Zr (i:=3) SC.nd rfl (Or.inl rfl)) (Zy (Zr (i:=4) SC.nd rfl (Or.inl rfl)) (Zy (Zr (i:=5) SC.nd rfl (Or.inl rfl)) X2))) (by rfl)))
 (Zf (Vv (i:=6) SC.nd rfl rfl (T:=["_law_sign", "_law_word"]) (cs:=[]) rfl (CScope.ok (by kernel_rfl)) (Y0 (pv 4)) (fun _ _ _ _=>(Wv (n:=2) rfl (Zy (Zr (i:=0) (Xl (by kernel_rfl)) rfl (Or.inl rfl) (Or.inr rfl)) (Zy (Zr (i:=1) (Xl (by kernel_rfl)) rfl (Or.inl rfl) (Or.inr rfl)) X2)) (by rfl))) (fun _ _ _ _=>Y7) (fun _ _ _ _=>(pv 0)) (T4 (Yu (by decide) (Yu (by decide) V2))))
 (Zf (Zv (i:=7) SC.nd rfl (Or.inl rfl) (Y8 (Za (Y8 Zd) (Za (Zw Vm T3 rfl (Za (pv 2) (Za (pv 6) (Za Zj Zd)))) Zd))))
 (Zf (Xk (Z2 (L3.Ve (K':=K) rfl hu) (Zw Zk Zl rfl (Za (pv 2) (Za Zj Zd))) Zj (Z6 _))
 (Zn (Vu (Np PySem.F.plainAttrs_list PySem.F.slot_list_append PySem.F.type_list_append Vy (pv 7) (Za (Z9 (L3.Rz (K':=K) rfl) (Zz L3.Na (Ye (L3.Wi (K':=K) rfl) (pv 7) Zj (fun _ _=>rfl)) Zj) Yq (Yf Zj)) Zd))))
 Z7)
 (Zf (Wf PassesOwn.never rfl (Y0 (pv 0)) (Wv (n:=3) rfl (Zy (Zr (i:=8) SC.nd rfl (Or.inl rfl)) (Zy (Zr (i:=9) SC.nd rfl (Or.inl rfl)) (Zy (Zr (i:=10) SC.nd rfl (Or.inl rfl)) X2))) (by rfl))
 (Zn (Xk (PW.pt (Sm (Z2 Nt (Zt (Yy (K:=K) rfl) (by rfl) T.b_len PySem.boot_len (Za (pv 10) Zd)) (Zt (Yy (K:=K) rfl) (by rfl) T.b_len PySem.boot_len (Za (pv 5) Zd)) (Z6 _)) (Tq (Z2 (L3.Ve (K':=K) rfl hu) (Z9 (L3.Rz (K':=K) rfl) (pv 10) Yq (Yf (Zt (Yy (K:=K) rfl) (by rfl) T.b_len PySem.boot_len (Za (pv 5) Zd)))) (pv 5) (Z6 _)))))
 (Zf (Zv (i:=11) SC.nd rfl (Or.inr rfl) (Z9 (L3.Rz (K':=K) rfl) (pv 10) (Yf (Zt (Yy (K:=K) rfl) (by rfl) T.b_len PySem.boot_len (Za (pv 5) Zd))) Yq))
 (Zf (Vv (i:=12) SC.nd rfl rfl (T:=["_law_sign", "_law_word"]) (cs:=[11]) rfl (CScope.ok (by kernel_rfl)) (Y0 (pv 4)) (fun _ _ _ _=>(Wv (n:=2) rfl (Zy (Zr (i:=0) (Xl (by kernel_rfl)) rfl (Or.inl rfl) (Or.inr rfl)) (Zy (Zr (i:=1) (Xl (by kernel_rfl)) rfl (Or.inl rfl) (Or.inr rfl)) X2)) (by rfl))) (fun _ _ _ _=>(Tr (Z2 (L3.Ve (K':=K) rfl hu) (Z9 (L3.Rz (K':=K) rfl) (pv 1) Yq (Yf Zj)) (Z9 (L3.Rz (K':=K) rfl) (pv 2) Yq (Yf Zj)) (Z6 _)))) (fun _ _ _ _=>(pv 0)) (T4 (Yu (by decide) (Yu (by decide) V2))))
 (Zn (Xk (Z2 (L3.Zc4 (K':=K) rfl hu) (pv 12) (Y8 Zd) (Z6 _))
 (Zn (Vu (Np PySem.F.plainAttrs_list PySem.F.slot_list_append PySem.F.type_list_append Vy (pv 7) (Za (Zz (L3.Wn (K':=K) rfl) (Y8 (Za (Ye (L3.Wi (K':=K) rfl) (pv 12) (Zz Y9 (Zw Zk Zl rfl (Za (pv 2) (Za Zj Zd))) (Zt (Yy (K:=K) rfl) (by rfl) T.b_len PySem.boot_len (Za (pv 12) Zd))) (fun _ _=>rfl)) Zd)) (Zw Vm T3 rfl (Za (pv 2) (Za (pv 6) (Za Zj Zd))))) Zd))))
 Z7))))
 Z7)))
 (Zn (Z5 (pv 7)))))))),fun _=>(L3.Z3 (L3.Yn (L3.s_op L3.s_ix (L3.Zh 0) (L3.Zh 1)) (L3.Uo (L3.Yd (L3.s_g 3) (L3.Yd (L3.s_g 4) (L3.Yd (L3.s_g 5) L3.Up)))))
 (L3.Z3 (L3.Yn (L3.Vs (L3.s_il (L3.Zh 4)) (L3.Uo (L3.Yd (L3.s_g 0) (L3.Yd (L3.s_g 1) L3.Up))) L3.Si (L3.Zh 0)) (L3.s_g 6))
 (L3.Z3 (L3.Yn (L3.Zex (L3.Ze (L3.Tm L3.Zp) (L3.Ze (L3.Z8 (L3.Ze (L3.Zh 2) (L3.Ze (L3.Zh 6) (L3.Ze L3.Z1 L3.Zp)))) L3.Zp))) (L3.s_g 7))
 (L3.Z3 (L3.Wz (L3.Y2 (L3.s_op L3.s_eq (L3.Z8 (L3.Ze (L3.Zh 2) (L3.Ze L3.Z1 L3.Zp))) L3.Z1))
 (L3.U7 (L3.U8 (L3.Zh 7) (L3.Ze (L3.s_sl L3.R8 (L3.s_op L3.Zew (L3.s_op L3.s_ix (L3.Zh 7) L3.Z1) L3.Z1) L3.Wd (L3.Vr L3.Z1)) L3.Zp)))
 L3.X1)
 (L3.Z3 (L3.Sk (L3.s_il (L3.Zh 0)) (L3.Uo (L3.Yd (L3.s_g 8) (L3.Yd (L3.s_g 9) (L3.Yd (L3.s_g 10) L3.Up))))
 (L3.Wz (L3.Zdd (L3.Y2 (L3.s_op L3.s_gt (L3.s_cb L3.Wo (L3.Ze (L3.Zh 10) L3.Zp)) (L3.s_cb L3.Wo (L3.Ze (L3.Zh 5) L3.Zp)))) (L3.Y2 (L3.s_op L3.s_eq (L3.s_sl L3.R8 (L3.Zh 10) L3.Wd (L3.Vr (L3.s_cb L3.Wo (L3.Ze (L3.Zh 5) L3.Zp)))) (L3.Zh 5))))
 (L3.Z3 (L3.Yn (L3.s_sl L3.R8 (L3.Zh 10) (L3.Vr (L3.s_cb L3.Wo (L3.Ze (L3.Zh 5) L3.Zp))) L3.Wd) (L3.s_g 11))
 (L3.Z3 (L3.Yn (L3.Vs (L3.s_il (L3.Zh 4)) (L3.Uo (L3.Yd (L3.s_g 0) (L3.Yd (L3.s_g 1) L3.Up))) (L3.Y2 (L3.s_op L3.s_eq (L3.s_sl L3.R8 (L3.Zh 1) L3.Wd (L3.Vr L3.Z1)) (L3.s_sl L3.R8 (L3.Zh 2) L3.Wd (L3.Vr L3.Z1)))) (L3.Zh 0)) (L3.s_g 12))
 (L3.Wz (L3.Y2 (L3.s_op L3.s_ne (L3.Zh 12) (L3.Tm L3.Zp)))
 (L3.U7 (L3.U8 (L3.Zh 7) (L3.Ze (L3.s_op L3.Uv (L3.Tm (L3.Ze (L3.s_op L3.s_ix (L3.Zh 12) (L3.s_op L3.Q0 (L3.Z8 (L3.Ze (L3.Zh 2) (L3.Ze L3.Z1 L3.Zp))) (L3.s_cb L3.Wo (L3.Ze (L3.Zh 12) L3.Zp)))) L3.Zp)) (L3.Z8 (L3.Ze (L3.Zh 2) (L3.Ze (L3.Zh 6) (L3.Ze L3.Z1 L3.Zp))))) L3.Zp)))
 L3.X1)))
 L3.X1))
 (L3.X7 (L3.Zh 7))))))),fun ds M Kk hM hD h=>?_⟩
  obtain ⟨k0,a,d,qs,ha,rfl,h⟩:=h
  obtain ⟨hk,hd,⟨l8,fi⟩,k⟩:=h
  have kl:=Vo hk
  have a2:(qs.map spD)[a]?=some (spD qs[a]):=by rw [List.getElem?_map,List.getElem?_eq_getElem ha]; rfl
  refine ⟨_,rfl,_,rfl,?_⟩
  refine Zba hd (V6 rfl a2) ?_
  have fq:=fi _ (List.getElem_mem ha)
  generalize qs[a]=q at k fq
  refine ⟨_,rfl,rfl,_,_,rfl,_,_,rfl,_,_,rfl,rfl,?_⟩
  have lL:(q.2.1.map pD).length=q.2.1.length:=List.length_map _
  have l64:=fq.1
  refine ⟨_,rfl,_,rfl,?_,fun j ys M'=>M=M'/\ys=(Yc (q.2.1.take j)).map .int,fun _ _ _ _ _=>rfl,⟨rfl,rfl⟩,?_,?_⟩
  ·show (q.2.1.map pD).length<=sizeLine
   rw [lL]
   exact Zo (by omega)
  ·rintro j x ys _ hj hx ⟨rfl,rfl⟩
   obtain ⟨hj',rfl⟩:=X4 hx
   refine ⟨_,rfl,rfl,_,_,rfl,_,_,rfl,rfl,?_⟩
   refine ⟨_,rfl,rfl,?_⟩
   unfold Yc
   rw [List.take_succ_eq_append_getElem hj',List.map_append,List.map_append]
   rfl
  rintro ys _ ⟨rfl,rfl⟩
  have er:q.2.1.take (q.2.1.map pD).length=q.2.1:=by rw [lL,List.take_length]
  rw [show List.take _ q.2.1=q.2.1 from er]
  have lo:(Yc q.2.1).length=q.2.1.length:=by unfold Yc; rw [List.length_map]
  refine ⟨Nat.zero_le _,_,rfl,_,rfl,k0,Yc q.2.1,10,rfl,hk,⟨by decide,by decide⟩,fun t0 h0 l0=>?_⟩
  refine ⟨(show 2<=sizeLine by decide),?_⟩
  refine g_nx ?_
  dsimp only
  refine Zej (fun ρ' M'=>∃ tss:List (List Int),ρ'=[some d,some (.int a),some (.cell k0),some (.str q.1),some (.lst (q.2.1.map pD)),some (wD q.2.2),some (.lst ((Yc q.2.1).map .int)),some (.cell M.length),none,none,none,none,none]/\M<+:M'/\M'[M.length]?=some (.lst (tss.map txD))/\TxOk (Yc q.2.1) tss/\tss.length<=3) (fun Kn hn=>?_) ?_
  ·have p0:M<+:M++[MO.lst ([[],t0].map txD)]:=⟨_,rfl⟩
   have c0:(M++[MO.lst ([[],t0].map txD)])[M.length]?=some (.lst ([[],t0].map txD)):=Xe
   have ok0:TxOk (Yc q.2.1) [[],t0]:=fun ts hts=>by
    simp only [List.mem_cons,List.not_mem_nil,or_false] at hts
    rcases hts with rfl | rfl
    ·exact ⟨Nat.zero_le _,fun _ h=>nomatch h⟩
    ·exact ⟨by omega,h0⟩
   refine ⟨_,rfl,k0,8,rfl,Yz p0 hk,⟨by decide,by decide⟩,fun y y0 y1=>.inl ⟨_,rfl,_,rfl,ite2 (fun h=>?_) (fun h=>hn _ _ ⟨[[],t0],rfl,p0,c0,ok0,by simp⟩)⟩⟩
   refine ⟨_,rfl,Sx (Xj c0),_,rfl,_,_,_,(Wl (Xj c0)).2.2,rfl,V6 (j:=1) rfl rfl,?_⟩
   refine ⟨_,_,rfl,rfl,⟨by decide,by decide,?_⟩,_,rfl,_,rfl,M.length,_,_,rfl,rfl,c0,(show 2 < sizeLine by decide),?_⟩
   ·show (t0.map D.int).length * 40<=sizeLine
    rw [List.length_map]
    exact Zo (by omega)
   rw [Qy]
   have ef:cut ((List.replicate (40:Int).toNat (t0.map D.int)).flatten) none (some 200)=(((List.replicate 40 t0).flatten).take 200).map D.int:=by
    rw [show (200:Int)=((200:Nat):Int) from rfl,Rt,List.map_take,List.map_flatten,List.map_replicate]
    rfl
   rw [ef]
   refine hn _ _ ⟨[[],t0,((List.replicate 40 t0).flatten).take 200],rfl,⟨_,rfl⟩,Xe,fun ts hts=>?_,by simp⟩
   simp only [List.mem_cons,List.not_mem_nil,or_false] at hts
   rcases hts with rfl | rfl | rfl
   ·exact ⟨Nat.zero_le _,fun _ h=>nomatch h⟩
   ·exact ⟨by omega,h0⟩
   ·refine ⟨by rw [List.length_take]; omega,fun t ht=>?_⟩
    obtain ⟨l,hl,htl⟩:=List.mem_flatten.mp (List.mem_of_mem_take ht)
    rw [(List.mem_replicate.mp hl).2] at htl
    exact h0 t htl
  rintro _ M1 ⟨tss,rfl,p1,c1,ok1,lt1⟩
  have hd1:=Ql p1 hd
  refine ⟨_,rfl,_,(Wl hd1).2.1,fun i ρ M'=>∃ (tss:List (List Int)) (v8 v9 v10 v11 v12:Option D),ρ=[some d,some (.int a),some (.cell k0),some (.str q.1),some (.lst (q.2.1.map pD)),some (wD q.2.2),some (.lst ((Yc q.2.1).map .int)),some (.cell M.length),v8,v9,v10,v11,v12]/\M<+:M'/\M'[M.length]?=some (.lst (tss.map txD))/\TxOk (Yc q.2.1) tss/\tss.length<=3 + i,fun _ _ _ _ h=>?_,⟨tss,_,_,_,_,_,rfl,p1,c1,ok1,lt1⟩,?_,?_⟩
  ·obtain ⟨tss,v8,v9,v10,v11,v12,_,p,_⟩:=h
   exact (Wl (Ql p hd)).2.1
  ·rintro i x ρ M2 hi hx ⟨tss,v8,v9,v10,v11,v12,rfl,p2,c2,ok2,lt2⟩
   obtain ⟨hi',rfl⟩:=X4 hx
   have hk2:=Yz p2 hk
   generalize qs[i]=o
   refine ⟨_,rfl,rfl,_,_,rfl,_,_,rfl,_,_,rfl,rfl,?_⟩
   refine ⟨_,rfl,_,rfl,_,rfl,_,rfl,_,_,rfl,rfl,_,rfl,ite2 (fun h=>?_) (fun h=>iteF (.inl ⟨tss,_,_,_,_,_,rfl,p2,c2,ok2,by omega⟩))⟩
   refine ⟨_,rfl,_,rfl,_,rfl,_,rfl,_,rfl,?_⟩
   rw [V3]
   refine Tx (Xn Xd) (a:=cut o.2.2 none _) (b:=q.2.2) ⟨_,rfl,ite2 (fun h2=>?_) (fun h2=>.inl ⟨tss,_,_,_,_,_,rfl,p2,c2,ok2,by omega⟩)⟩
   refine ⟨_,rfl,_,rfl,_,rfl,_,rfl,?_⟩
   dsimp only [Zd7,sl3,wD]
   rw [V3]
   generalize cut o.2.2 (some _) none=wt
   refine g_nx ?_
   refine ⟨_,rfl,_,rfl,?_,fun j ys M'=>M2=M'/\∃ nr:List Int,ys=nr.map .int/\nr.length<=j/\∀ t∈nr,t∈Yc q.2.1,fun _ _ _ _ _=>rfl,⟨rfl,[],rfl,Nat.le_refl _,fun _ h=>nomatch h⟩,?_,?_⟩
   ·show (q.2.1.map pD).length<=sizeLine
    rw [lL]
    exact Zo (by omega)
   ·rintro j x ys _ hj hx ⟨rfl,nr,rfl,lnr,hnr⟩
    obtain ⟨hj',rfl⟩:=X4 hx
    refine ⟨_,rfl,rfl,_,_,rfl,_,_,rfl,rfl,?_⟩
    refine ⟨_,rfl,_,rfl,_,rfl,_,rfl,?_⟩
    dsimp only [sl3]
    rw [V3,V3]
    refine Tx (Xn Xd) (a:=cut q.2.1[j].2 none (some 1)) (b:=cut wt none (some 1)) ⟨_,rfl,ite2 (fun h3=>⟨_,rfl,rfl,nr++[q.2.1[j].1],?_,?_,fun t ht=>?_⟩) (fun h3=>⟨rfl,nr,rfl,by omega,hnr⟩)⟩
    ·rw [List.map_append]
     rfl
    ·rw [List.length_append]
     show _ + 1<=_
     omega
    ·rcases List.mem_append.mp ht with z | z
     ·exact hnr t z
     ·rw [List.mem_singleton.mp z]
      exact List.mem_map.mpr ⟨_,List.getElem_mem hj',rfl⟩
   rintro ys _ ⟨rfl,nr,rfl,lnr,hnr⟩
   have lnr:nr.length<=(q.2.1.map pD).length:=lnr
   refine g_nx ?_
   dsimp only
   refine ⟨_,rfl,Nat.zero_le _,eqN ⟨_,rfl,?_⟩⟩
   by_cases en:nr=[]
   ·rw [decide_eq_true en]
    exact iteF (.inl ⟨tss,_,_,_,_,_,rfl,p2,c2,ok2,by omega⟩)
   rw [decide_eq_false en]
   refine iteT ?_
   have n0:(0:Int) < ((nr.map D.int).length:Int):=by rw [List.length_map]; have:=List.length_pos_iff.mpr en; omega
   refine ⟨_,rfl,Sx (Xj c2),_,rfl,_,rfl,k0,60,rfl,hk2,⟨by decide,by decide⟩,fun g g0 g1=>⟨_,rfl,_,rfl,_,_,rfl,rfl,n0,?_⟩⟩
   obtain ⟨b,hb,eb⟩:=pick_at en g
   refine ⟨_,_,_,rfl,rfl,eb,(show 1<=sizeLine by decide),?_⟩
   refine ⟨_,rfl,_,rfl,k0,Yc q.2.1,2,rfl,hk2,⟨by decide,by decide⟩,fun t2 h2' l2=>?_⟩
   refine ⟨_,_,rfl,rfl,?_,M.length,_,_,rfl,rfl,c2,?_,?_⟩
   ·show 1 + (t2.map D.int).length<=sizeLine
    rw [List.length_map]
    exact Zo (by omega)
   ·rw [List.length_map]
    exact Nat.lt_of_le_of_lt (by omega:tss.length<=20) (by decide)
   refine .inl ⟨tss++[b::t2],_,_,_,_,_,rfl,Sr p2 (Nat.le_refl _),?_,fun ts hts=>?_,?_⟩
   ·rw [List.getElem?_set_self (Vo c2),List.map_append]
    rfl
   ·rcases List.mem_append.mp hts with w | w
    ·exact ok2 ts w
    ·rw [List.mem_singleton.mp w]
     refine ⟨by show t2.length + 1<=200; omega,fun t ht=>?_⟩
     rcases List.mem_cons.mp ht with rfl | ht
     ·exact hnr _ hb
     ·exact h2' t ht
   ·rw [List.length_append]
    show _ + 1<=_
    omega
  rintro ρ M2 ⟨tss,v8,v9,v10,v11,v12,rfl,p2,c2,ok2,lt2⟩
  have lt2:tss.length<=3 + (qs.map spD).length:=lt2
  rw [List.length_map] at lt2
  exact ⟨_,rfl,.inl (k M2 _ tss p2 (Nat.le_refl _) c2 ok2 (by omega))⟩
open L3
theorem ok__law_asked (T:Txt mg) {C:Addr} {Zc Zs:Addr} (W3:Cal P w K mg base "_law_written" 1 ["_law_table_here", "_law_text_here"] (L3.spOf ⟨C,K⟩ Qq)) (W6:Cal P w K mg base "_law_by_mark" 1 ["_law_specs_here", "_law_row"] (L3.spOf ⟨C,K⟩ Zcv)) (Wc:Met P w K mg base Zc "mistaken" 5 ["self", "name", "text"] (L3.spOf ⟨C,K⟩ (fun ds M K=>Zgn Zc Zs ds M K fun _ _ _=>False))) {f:Addr} {fd:FuncData} (F:Fun K "_law_asked" "_law_asked" s__law_asked f fd):FnOk P w K mg base CX0 6 f fd ["_law_family", "_law_specs_here", "_law_at", "_law_text_here"] (L3.spOf ⟨C,K⟩ (Pp Zc)):=by
 refine L3.Fun.ok3 F sc__law_asked (fun ds M K3 h=>?_) (fun cdv A outer s H E hr=>?_)
 ·obtain ⟨f,a,d,ts,qs,zs,ha,rfl,_⟩:=h
  rfl
 ·have SC:=sc__law_asked
  have hu:=hr.units
  have hu1:=Wt hr
  have Rg:Room 1 _:=hr.mono (by first | decide | omega)
  have Rj:Room 1 _:=hr.mono (by first | decide | omega)
  have Vh:Room 5 _:=hr.mono (by first | decide | omega)
  refine ⟨_,_,(Zf (Qh (Ye (L3.Wi (K':=K) rfl) (pv 1) (pv 2) (fun _ _=>rfl)) (Wv (n:=3) rfl (Zy (Zr (i:=4) SC.nd rfl (Or.inl rfl)) (Zy (Zr (i:=5) SC.nd rfl (Or.inl rfl)) (Zy (Zr (i:=6) SC.nd rfl (Or.inl rfl)) X2))) (by rfl)))
 (Zf (Zv (i:=7) SC.nd rfl (Or.inl rfl) (Zz (L3.Wn (K':=K) rfl) (Z4 (U0 (K:=K) rfl) (by rfl) T.b_list PyProof.Rows.boot_list (Za (pv 6) Zd)) (Ye (L3.Wi (K':=K) rfl) (Zw W3 Rg rfl (Za (pv 5) (Za (pv 3) Zd))) Zj (fun _ _=>rfl))))
 (Zf (Zv (i:=8) SC.nd rfl (Or.inl rfl) (Vw (L3.Zc4 (K':=K) rfl hu) (Zw W6 Rj rfl (Za (pv 1) (Za (pv 7) Zd))) (Y8 (Za (pv 4) Zd)) (Z6 _)))
 (Zf (Xk (PW.pt (Sm (PW.pt (Zko (Z2 (L3.Ve (K':=K) rfl hu) (pv 6) (W7 Zd) (Z6 _)) (Zje (Z2 Nt (Np PySem.F.plainAttrs_list PySem.F.slot_list_count PySem.F.type_list_count (L3.Zip (K':=K) rfl hu) (Xq (T:=["_law_spec"]) (cs:=[]) rfl (CScope.ok (by kernel_rfl)) (Y0 (pv 1)) (fun _ _ _ _=>(Zr (i:=0) (Xl (by kernel_rfl)) rfl (Or.inl rfl) (Or.inr rfl))) (fun _ _ _ _=>Y7) (fun _ _ _ _=>(Ye (L3.Wi (K':=K) rfl) (pv 0) Zj (fun _ _=>rfl))) (Xr (by decide))) (Za (pv 6) Zd)) Zj (Z6 _))))) (Tq (Nm (Qg (pv 8))))))
 (Zn (Z5 Q4))
 Z7)
 (Zf (Zv (i:=9) SC.nd rfl (Or.inl rfl) (Z4 (U0 (K:=K) rfl) (by rfl) T.b_list PyProof.Rows.boot_list (Za (pv 3) Zd)))
 (Zf (Zv (i:=10) SC.nd rfl (Or.inl rfl) (Za1 (pv 0) Wc Vh (Za (pv 4) (Za (pv 9) Zd))))
 (Zf (Xk (PW.pt (Zko (Nm (Qg (Zt (Zpj (K:=K) rfl) (by rfl) T.b_isinstance PyProof.Rows.boot_isinstance (Za (pv 10) (Za (Zky (v:=.ty "bool") rfl T.b_bool PyProof.Rows.boot_bool rfl) Zd))))) (Zko (Z2 (L3.Zc4 (K':=K) rfl hu) (pv 10) (pv 8) (Z6 _)) (Zje (Z2 (L3.Zc4 (K':=K) rfl hu) (pv 9) (pv 3) (Z6 _))))))
 (Zn (Z5 Q4))
 Z7)
 (Zf (Vu (Np PySem.F.plainAttrs_list PySem.F.slot_list_append PySem.F.type_list_append Vy (pv 9) (Za Zj Zd)))
 (Zn (Z5 (Vw (L3.Ve (K':=K) rfl hu) (Za1 (pv 0) Wc Vh (Za (pv 4) (Za (Z4 (U0 (K:=K) rfl) (by rfl) T.b_list PyProof.Rows.boot_list (Za (pv 3) Zd)) Zd))) (pv 8) (Z6 _)))))))))))),fun _=>(L3.Z3 (L3.Yn (L3.s_op L3.s_ix (L3.Zh 1) (L3.Zh 2)) (L3.Uo (L3.Yd (L3.s_g 4) (L3.Yd (L3.s_g 5) (L3.Yd (L3.s_g 6) L3.Up)))))
 (L3.Z3 (L3.Yn (L3.s_op L3.Uv (L3.s_cb L3.Ni (L3.Ze (L3.Zh 6) L3.Zp)) (L3.s_op L3.s_ix (L3.Z8 (L3.Ze (L3.Zh 5) (L3.Ze (L3.Zh 3) L3.Zp))) L3.Z1)) (L3.s_g 7))
 (L3.Z3 (L3.Yn (L3.s_op L3.s_ne (L3.Z8 (L3.Ze (L3.Zh 1) (L3.Ze (L3.Zh 7) L3.Zp))) (L3.Tm (L3.Ze (L3.Zh 4) L3.Zp))) (L3.s_g 8))
 (L3.Z3 (L3.Wz (L3.Zdd (L3.s_or (L3.Y2 (L3.s_op L3.s_eq (L3.Zh 6) (L3.Zas L3.Zp))) (L3.Y2 (L3.s_op L3.s_gt (L3.Zhm (L3.Vs (L3.s_il (L3.Zh 1)) (L3.s_g 0) L3.Si (L3.s_op L3.s_ix (L3.Zh 0) L3.Z1)) (L3.Ze (L3.Zh 6) L3.Zp)) L3.Z1))) (L3.Zev (L3.s_b (L3.Zh 8))))
 (L3.X7 L3.s_bl)
 L3.X1)
 (L3.Z3 (L3.Yn (L3.s_cb L3.Zez (L3.Ze (L3.Zh 3) L3.Zp)) (L3.s_g 9))
 (L3.Z3 (L3.Yn (L3.Tl (L3.Zh 0) (L3.Ze (L3.Zh 4) (L3.Ze (L3.Zh 9) L3.Zp))) (L3.s_g 10))
 (L3.Z3 (L3.Wz (L3.s_or (L3.Zev (L3.s_b (L3.s_cb (L3.Zqi (T:=.bool)) (L3.Ze (L3.Zh 10) (L3.Ze L3.s_ty L3.Zp))))) (L3.s_or (L3.Y2 (L3.s_op L3.s_ne (L3.Zh 10) (L3.Zh 8))) (L3.Y2 (L3.s_op L3.s_ne (L3.Zh 9) (L3.Zh 3)))))
 (L3.X7 L3.s_bl)
 L3.X1)
 (L3.Z3 (L3.U7 (L3.U8 (L3.Zh 9) (L3.Ze L3.Z1 L3.Zp)))
 (L3.X7 (L3.s_op L3.s_eq (L3.Tl (L3.Zh 0) (L3.Ze (L3.Zh 4) (L3.Ze (L3.s_cb L3.Ni (L3.Ze (L3.Zh 3) L3.Zp)) L3.Zp))) (L3.Zh 8))))))))))),fun ds M Kk hM hD h=>?_⟩
  obtain ⟨f,a,d,ts,qs,zs,ha,rfl,h⟩:=h
  obtain ⟨Fa,hd,⟨tz,l8,ff,lt,hts⟩,k⟩:=h
  have a2:(qs.map spD)[a]?=some (spD qs[a]):=by rw [List.getElem?_map,List.getElem?_eq_getElem ha]; rfl
  have haz:a < zs.length:=by rw [tz.1]; exact ha
  have t1:=tz.2 a _ _ (List.getElem?_eq_getElem haz) (List.getElem?_eq_getElem ha)
  have hqm:=List.getElem_mem ha
  have hzm:=List.getElem_mem haz
  have enm:zs.map (·.1)=qs.map (·.1):=by
   rw [Zh5 tz.2 tz.1 (Nat.le_refl _),List.take_of_length_le (by rw [List.length_map]; exact Nat.le_refl _)]
  have nd:(qs.map (·.1)).Nodup:=by rw [<- enm]; exact Fa.nd
  have lqm:(qs.map spD).length=qs.length:=List.length_map _
  obtain ⟨fr,fi,l4,sok⟩:=ff _ hqm
  refine ⟨_,rfl,_,rfl,?_⟩
  refine Zba hd (V6 rfl a2) ?_
  generalize qs[a]=q at t1 hqm fr fi l4 sok hts
  generalize zs[a]=z at t1 hzm
  obtain ⟨e1,e2,pm,ri⟩:=t1
  refine ⟨_,rfl,rfl,_,_,rfl,_,_,rfl,_,_,rfl,rfl,?_⟩
  obtain ⟨U,tx⟩:=Zj6 hts
  refine ⟨_,rfl,_,_,rfl,rfl,_,rfl,_,rfl,q.2.1,_,ts,rfl,rfl,⟨fi,lt⟩,fun U' tx'=>?_,fun i U' hi tx' hl=>absurd hl (tx.has i hi)⟩
  have:=Xs.one fr tx' tx
  subst this
  have l1:=Sl fi tx.1
  have l2:=tx.len (Nat.le_refl _)
  refine ⟨_,_,_,rfl,rfl,rfl,_,_,rfl,rfl,?_,?_⟩
  ·rw [List.length_map,List.length_map]
   exact Zo (by omega)
  rw [<- List.map_append]
  have lrow:(q.2.2++Wj U').length<=1000:=by rw [List.length_append]; omega
  have tx2:Xs z.2.1 U' ts ts.length:=L3.Xs.perm pm tx
  have eB:misB zs z.1 (z.2.2++Wj U')=misB qs q.1 (q.2.2++Wj U'):=by rw [tz.alike.mis,e1,e2]
  generalize q.2.2++Wj U'=row at lrow eB
  refine ⟨_,rfl,_,rfl,_,_,qs,row,rfl,hd,rfl,l8,?_⟩
  refine ⟨_,rfl,(show 1<=sizeLine by decide),Zcp (zs:=Wh qs row) (ws:=[q.1]) rfl rfl (fun n hn=>?_) (fun n hn=>?_) ?_⟩
  ·obtain ⟨y,hy,rfl,_⟩:=Zcy hn
   exact (ff y hy).2.2.2
  ·rw [List.mem_singleton.mp hn]
   exact sok
  rw [show (!decide (Wh qs row=[q.1]))=misB qs q.1 row from rfl]
  refine g_nx ?_
  dsimp only
  refine Zej (fun ρ' M'=>ρ'=[some (.cell f),some d,some (.int a),some (txD ts),some (.str q.1),some (.lst (q.2.1.map pD)),some (wD q.2.2),some (.lst (row.map .int)),some (.bl (misB qs q.1 row)),none,none]/\M=M') (fun Kn hn=>?_) ?_
  ·refine ⟨_,rfl,Nat.zero_le _,Tx (Xn Xd) (a:=q.2.2) (b:=[]) ⟨_,rfl,?_⟩⟩
   by_cases e:q.2.2=[]
   ·rw [decide_eq_true e]
    refine iteT (iteT ⟨_,rfl,_,rfl,?_⟩)
    rw [show misB qs q.1 row=true from Zcj nd hqm e]
    refine iteF (hn _ _ ⟨?_,rfl⟩)
    rw [show misB qs q.1 row=true from Zcj nd hqm e]
    rfl
   rw [decide_eq_false e]
   refine iteF ?_
   refine ⟨_,rfl,_,(Wl hd).2.1,?_,fun j ys M'=>M=M'/\ys=((qs.take j).map (·.2.2)).map wD,fun _ _ _ _ h=>(by rw [<- h.1]; exact (Wl hd).2.1),⟨rfl,rfl⟩,?_,?_⟩
   ·show (qs.map spD).length<=sizeLine
    rw [lqm]
    exact Zo (by omega)
   ·rintro j x ys _ hj hx ⟨rfl,rfl⟩
    obtain ⟨hj',rfl⟩:=X4 hx
    refine ⟨_,rfl,_,_,_,rfl,rfl,rfl,rfl,?_⟩
    rw [List.take_succ_eq_append_getElem hj',List.map_append,List.map_append]
    rfl
   rintro ys _ ⟨rfl,rfl⟩
   have er:qs.take (qs.map spD).length=qs:=by rw [lqm,List.take_length]
   rw [show List.take _ qs=qs from er]
   refine ⟨fun z=>(by cases z),_,rfl,_,_,(qs.map (fun y:Fq=>y.2.2)).map (Xn Xd (by decide)).py,(Xn Xd (by decide)).py q.2.2,rfl,rfl,Tp ((Xn Xd (by decide)).ok M) _,(Xn Xd (by decide)).ok M _,Zo7 _,((Xn Xd (by decide)).shp q.2.2).1,Zo8 _,?_⟩
   rw [Zii]
   refine ⟨_,_,rfl,rfl,_,rfl,ite2 (fun h=>?_) (fun h=>iteF (hn _ _ ⟨rfl,rfl⟩))⟩
   have h1:1 < (qs.map (·.2.2)).count q.2.2:=by have:=of_decide_eq_true h; omega
   obtain ⟨y,hy,ny,ey⟩:=Zmz nd h1 q.1
   refine ⟨_,rfl,_,rfl,?_⟩
   rw [show misB qs q.1 row=true from Zfs nd hqm hy ny ey]
   refine iteF (hn _ _ ⟨?_,rfl⟩)
   rw [show misB qs q.1 row=true from Zfs nd hqm hy ny ey]
   rfl
  rintro _ _ ⟨rfl,rfl⟩
  generalize misB qs q.1 row=B at eB
  refine ⟨_,rfl,_,_,rfl,rfl,?_⟩
  have lf:=Vo Fa.h2
  have F1:=Fa.pre (N:=M++[.lst (ts.map .int)]) ⟨_,rfl⟩
  have sz:∀ y∈zs,PyData.strOk y.1=true:=fun y hy=>by
   obtain ⟨q',hq',t'⟩:=tz.mem hy
   rw [t'.1]
   exact (ff q' hq').2.2.2
  have lz:zs.length<=100:=by rw [tz.1]; omega
  have m4:z.2.2.length<=4:=by rw [e2]; exact l4
  refine ⟨_,rfl,⟨f,_,rfl,F1.h0,rfl⟩,_,rfl,_,rfl,f,q.1,_,zs,ts,rfl,F1,Za7,by omega,.inr ⟨z,U',hzm,e1,m4,fi.perm pm,fr.perm pm,tx2,lz,sz,fun M2 p2=>?_⟩⟩
  rw [<- e1,eB]
  refine g_nx ?_
  dsimp only
  have c2:M2[M.length]?=some (.lst (ts.map .int)):=Yz p2 Xe
  have pm2:M<+:M2:=List.IsPrefix.trans ⟨_,rfl⟩ p2
  refine ⟨_,rfl,_,_,rfl,rfl,_,rfl,iteF ?_⟩
  refine ⟨_,rfl,_,rfl,.inl ⟨_,rfl,_,rfl,?_⟩⟩
  rw [decide_eq_true rfl]
  refine iteF ?_
  refine ⟨_,rfl,_,rfl,Rs Xd (a:=ts) (b:=ts) (Wl (Xj c2)).2.1 rfl ⟨_,rfl,?_⟩⟩
  rw [decide_eq_true rfl]
  refine iteF ?_
  refine ⟨_,rfl,Sx (Xj c2),M.length,_,_,rfl,rfl,c2,?_,?_⟩
  ·rw [List.length_map]
   exact Nat.lt_of_le_of_lt lt (by decide)
  have F3:FamAt Zc (M2.set M.length (.lst (ts.map D.int++[.int 0]))) f zs:=(Fa.pre pm2).set_ (.inr lf)
  have p3:M<+:M2.set M.length (.lst (ts.map D.int++[.int 0])):=Sr pm2 (Nat.le_refl _)
  generalize M2.set M.length (.lst (ts.map D.int++[.int 0]))=M3 at F3 p3
  refine ⟨_,rfl,⟨f,_,rfl,F3.h0,rfl⟩,_,rfl,_,rfl,_,_,rfl,rfl,f,z.1,_,zs,ts,rfl,F3,rfl,by omega,.inr ⟨z,U',hzm,rfl,m4,fi.perm pm,fr.perm pm,tx2,lz,sz,fun M4 p4=>?_⟩⟩
  rw [eB]
  refine ⟨_,rfl,.inl ⟨_,rfl,.inl ?_⟩⟩
  rw [decide_eq_true rfl]
  exact k _ (p3.trans p4)
open L3
theorem ok__law_not_yet (T:Txt mg) {C:Addr} {Zc Zs Ya:Addr} (Ry:Cau K mg "NoName" Zs) (mnn:W.mroIn K Zs (.ref Zs)=some true) (Um:MetE P w K mg base Zc "marked" 4 ["self", "name", "text"] (L3.Vf ⟨C,K⟩ (Po Zc Zs Ya))) (Wc:MetE P w K mg base Zc "mistaken" 5 ["self", "name", "text"] (L3.Vf ⟨C,K⟩ (Zgn Zc Zs))) (P1:MetE P w K mg base Zc "misled" 4 ["self", "name"] (L3.Vf ⟨C,K⟩ (Zjt Zc Zs))) {f:Addr} {fd:FuncData} (F:Fun K "_law_not_yet" "_law_not_yet" s__law_not_yet f fd):FnOk P w K mg base CX0 6 f fd ["_law_family", "_law_name"] (L3.spOf ⟨C,K⟩ (Zo3 Zc)):=by
 refine L3.Fun.ok3 F sc__law_not_yet (fun ds M K3 h=>?_) (fun cdv A outer s H E hr=>?_)
 ·obtain ⟨f,n,zs,rfl,_⟩:=h
  rfl
 ·have SC:=sc__law_not_yet
  have hu:=hr.units
  have hu1:=Wt hr
  have Rf:Room 4 _:=hr.mono (by first | decide | omega)
  have Vh:Room 5 _:=hr.mono (by first | decide | omega)
  have Zf5:Room 4 _:=hr.mono (by first | decide | omega)
  refine ⟨_,_,(Zf (Wf PassesOwn.never rfl (Yh rfl T.b_range (Za Zj Zd)) (Zr (i:=2) SC.nd rfl (Or.inl rfl))
 (Zf (Zny rfl rfl (fun _ _ _ _ hx=>So (Zjf (Z2 (L3.Ve (K':=K) rfl hu) (pv 2) Zj (Z6 _)) (So (Q3 (Zfc (pv 0) P1 Zf5 hx (Za (pv 1) Zd)))) (So (Zjf (Z2 (L3.Ve (K':=K) rfl hu) (pv 2) Zj (Z6 _)) (So (Q3 (Zfc (pv 0) Wc Vh hx (Za (pv 1) (Za (Y8 Zd) Zd))))) (So (Q3 (Zfc (pv 0) Um Rf hx (Za (pv 1) (Za (Y8 Zd) Zd))))))))) (Zq4 Ry rfl (fun _=>(Zn Zay)) Zov))
 (Zn (Z5 Q4))))
 (Zn (Z5 Q4))),fun _=>(L3.Z3 (L3.Sk (L3.Nj (L3.Ze L3.Z1 L3.Zp)) (L3.s_g 2)
 (L3.Z3 (L3.Zqe (fun _ _ _ he hk hx=>(L3.Wz (L3.Y2 (L3.s_op L3.s_eq (L3.Zh 2) L3.Z1)) (L3.U7 (L3.Uu he hk hx (L3.Zh 0) (L3.Ze (L3.Zh 1) L3.Zp))) (L3.Wz (L3.Y2 (L3.s_op L3.s_eq (L3.Zh 2) L3.Z1)) (L3.U7 (L3.Uu he hk hx (L3.Zh 0) (L3.Ze (L3.Zh 1) (L3.Ze (L3.Tm L3.Zp) L3.Zp)))) (L3.U7 (L3.Uu he hk hx (L3.Zh 0) (L3.Ze (L3.Zh 1) (L3.Ze (L3.Tm L3.Zp) L3.Zp))))))) (L3.Zqk L3.Znm L3.Znl))
 (L3.X7 L3.s_bl)))
 (L3.X7 L3.s_bl)),fun ds M Kk hM hD h=>?_⟩
  obtain ⟨f,n,zs,rfl,h⟩:=h
  obtain ⟨Fa,hn,k⟩:=h
  refine ⟨3,rfl,⟨by decide,by decide⟩,fun i ρ M'=>∃ v2:Option D,ρ=[some (.cell f),some (.str n),v2]/\M=M',fun _ _ _ _ _=>trivial,⟨_,rfl,rfl⟩,?_,?_⟩
  ·rintro i x ρ _ hi rfl ⟨v2,rfl,rfl⟩
   refine ⟨_,rfl,.inl ⟨_,rfl,_,rfl,ite2 (fun h=>?_) (fun h=>?_)⟩⟩
   ·refine ⟨_,rfl,⟨f,_,rfl,Fa.h0,rfl⟩,_,rfl,f,n,zs,rfl,Fa,hn,true,mnn,?_⟩
    rw [if_pos rfl]
    exact .inl ⟨_,rfl,rfl⟩
   refine ⟨_,rfl,.inl ⟨_,rfl,_,rfl,ite2 (fun h=>?_) (fun h=>?_)⟩⟩
   ·refine ⟨_,rfl,⟨f,_,rfl,Fa.h0,rfl⟩,_,rfl,Nat.zero_le _,f,n,_,zs,[],rfl,Fa,rfl,Nat.zero_le _,.inl ⟨hn,true,mnn,?_⟩⟩
    rw [if_pos rfl]
    exact .inl ⟨_,rfl,rfl⟩
   ·refine ⟨_,rfl,⟨f,_,rfl,Fa.h0,rfl⟩,_,rfl,Nat.zero_le _,f,n,_,zs,[],rfl,Fa,rfl,Nat.zero_le _,.inl ⟨.name,hn,true,mnn,?_⟩⟩
    rw [if_pos rfl]
    exact .inl ⟨_,rfl,rfl⟩
  ·rintro ρ _ ⟨v2,rfl,rfl⟩
   exact .inl k
open L3
theorem ok__law_growing (T:Txt mg) {C:Addr} {Pt Zc Yx:Addr} (Zg7:Mkr P w K mg base "Code" C 4 ["self", "table"] (L3.Zap C Pt lamP lamQ)) (Zk:Cal P w K mg base "_law_draw" 1 ["_law_hand", "_law_many"] (L3.spOf ⟨C,K⟩ Zbm)) (P2:Mkr P w K mg base "Family" Zc 1 ["self"] (L3.spOf ⟨C,K⟩ (Zju Zc))) (Zmg:Met P w K mg base Zc "add" 3 ["self", "name", "code", "mark"] (L3.spOf ⟨C,K⟩ (fun ds M K=>Zo6 Zc Yx ds M K fun _ _ _=>False))) (W4:Cal P w K mg base "_law_not_yet" 6 ["_law_family", "_law_name"] (L3.spOf ⟨C,K⟩ (Zo3 Zc))) (Xx:Cal P w K mg base "_law_texts" 3 ["_law_specs_here", "_law_at", "_law_hand"] (L3.spOf ⟨C,K⟩ Pn)) (Xy:Cal P w K mg base "_law_asked" 6 ["_law_family", "_law_specs_here", "_law_at", "_law_text_here"] (L3.spOf ⟨C,K⟩ (Pp Zc))) {f:Addr} {fd:FuncData} (F:Fun K "_law_growing" "_law_growing" s__law_growing f fd):FnOk P w K mg base CX0 7 f fd ["_law_specs_here", "_law_hand"] (L3.spOf ⟨C,K⟩ (Zgp Zc Pt lamP lamQ)):=by
 refine L3.Fun.ok3 F sc__law_growing (fun ds M K3 h=>?_) (fun cdv A outer s H E hr=>?_)
 ·obtain ⟨k0,hh,d,qs,rfl,_⟩:=h
  rfl
 ·have SC:=sc__law_growing
  have hu:=hr.units
  have hu1:=Wt hr
  have Zlj:Room 5 _:=hr.mono (by first | decide | omega)
  have Zl:Room 1 _:=hr.mono (by first | decide | omega)
  have Zf7:Room 2 _:=hr.mono (by first | decide | omega)
  have Zow:Room 3 _:=hr.mono (by first | decide | omega)
  have Rh:Room 6 _:=hr.mono (by first | decide | omega)
  have Vi:Room 3 _:=hr.mono (by first | decide | omega)
  have Vj:Room 6 _:=hr.mono (by first | decide | omega)
  refine ⟨_,_,(Zf (Zv (i:=2) SC.nd rfl (Or.inl rfl) (Zn1 P2 Zf7 rfl))
 (Zf (Wf PassesOwn.never rfl (Yh rfl T.b_range (Za (Zt (Yy (K:=K) rfl) (by rfl) T.b_len PySem.boot_len (Za (pv 0) Zd)) Zd)) (Zr (i:=3) SC.nd rfl (Or.inl rfl))
 (Zf (Xk (Nm (Qg (Zw W4 Rh rfl (Za (pv 2) (Za (Ye (L3.Wi (K':=K) rfl) (Ye (L3.Wi (K':=K) rfl) (pv 0) (pv 3) (fun _ _=>rfl)) Zj (fun _ _=>rfl)) Zd)))))
 (Zn (Z5 Zcd))
 Z7)
 (Zf (Vu (Za1 (pv 2) Zmg Zow (Za (Ye (L3.Wi (K':=K) rfl) (Ye (L3.Wi (K':=K) rfl) (pv 0) (pv 3) (fun _ _=>rfl)) Zj (fun _ _=>rfl)) (Za (Zqq Zg7 Zlj rfl (Za (Z4 (U0 (K:=K) rfl) (by rfl) T.b_list PyProof.Rows.boot_list (Za (Ye (L3.Wi (K':=K) rfl) (Ye (L3.Wi (K':=K) rfl) (pv 0) (pv 3) (fun _ _=>rfl)) Zj (fun _ _=>rfl)) Zd)) Zd)) (Za (Ye (L3.Wi (K':=K) rfl) (Ye (L3.Wi (K':=K) rfl) (pv 0) (pv 3) (fun _ _=>rfl)) Zj (fun _ _=>rfl)) Zd)))))
 (Zf (Zv (i:=4) SC.nd rfl (Or.inl rfl) (Z9 (L3.Rz (K':=K) rfl) (pv 0) Yq (Yf (Zz (L3.Wn (K':=K) rfl) (pv 3) Zj))))
 (Zf (Zv (i:=5) SC.nd rfl (Or.inl rfl) (Zz Y9 (Zw Zk Zl rfl (Za (pv 1) (Za Zj Zd))) (Zt (Yy (K:=K) rfl) (by rfl) T.b_len PySem.boot_len (Za (pv 4) Zd))))
 (Zn (Wf PassesOwn.never rfl (Y0 (Zw Xx Vi rfl (Za (pv 4) (Za (pv 5) (Za (pv 1) Zd))))) (Zr (i:=6) SC.nd rfl (Or.inl rfl))
 (Zn (Xk (Nm (Qg (Zw Xy Vj rfl (Za (pv 2) (Za (pv 4) (Za (pv 5) (Za (pv 6) Zd)))))))
 (Zn (Z5 Zcd))
 Z7)))))))))
 (Zn (Z5 (pv 2))))),fun _=>(L3.Z3 (L3.Yn (L3.Zqh L3.Zp) (L3.s_g 2))
 (L3.Z3 (L3.Sk (L3.Nj (L3.Ze (L3.s_cb L3.Wo (L3.Ze (L3.Zh 0) L3.Zp)) L3.Zp)) (L3.s_g 3)
 (L3.Z3 (L3.Wz (L3.Zev (L3.s_b (L3.Z8 (L3.Ze (L3.Zh 2) (L3.Ze (L3.s_op L3.s_ix (L3.s_op L3.s_ix (L3.Zh 0) (L3.Zh 3)) L3.Z1) L3.Zp)))))
 (L3.X7 L3.Zni)
 L3.X1)
 (L3.Z3 (L3.U7 (L3.Tl (L3.Zh 2) (L3.Ze (L3.s_op L3.s_ix (L3.s_op L3.s_ix (L3.Zh 0) (L3.Zh 3)) L3.Z1) (L3.Ze (L3.Zhl (L3.Ze (L3.s_cb L3.Ni (L3.Ze (L3.s_op L3.s_ix (L3.s_op L3.s_ix (L3.Zh 0) (L3.Zh 3)) L3.Z1) L3.Zp)) L3.Zp)) (L3.Ze (L3.s_op L3.s_ix (L3.s_op L3.s_ix (L3.Zh 0) (L3.Zh 3)) L3.Z1) L3.Zp)))))
 (L3.Z3 (L3.Yn (L3.s_sl L3.R8 (L3.Zh 0) L3.Wd (L3.Vr (L3.s_op L3.Uv (L3.Zh 3) L3.Z1))) (L3.s_g 4))
 (L3.Z3 (L3.Yn (L3.s_op L3.Q0 (L3.Z8 (L3.Ze (L3.Zh 1) (L3.Ze L3.Z1 L3.Zp))) (L3.s_cb L3.Wo (L3.Ze (L3.Zh 4) L3.Zp))) (L3.s_g 5))
 (L3.Sk (L3.s_il (L3.Z8 (L3.Ze (L3.Zh 4) (L3.Ze (L3.Zh 5) (L3.Ze (L3.Zh 1) L3.Zp))))) (L3.s_g 6)
 (L3.Wz (L3.Zev (L3.s_b (L3.Z8 (L3.Ze (L3.Zh 2) (L3.Ze (L3.Zh 4) (L3.Ze (L3.Zh 5) (L3.Ze (L3.Zh 6) L3.Zp)))))))
 (L3.X7 L3.Zni)
 L3.X1)))))))
 (L3.X7 (L3.Zh 2)))),fun ds M Kk hM hD h=>?_⟩
  obtain ⟨k0,hh,d,qs,rfl,h⟩:=h
  obtain ⟨h0,hk,hd,⟨nd,l8,ff⟩,k⟩:=h
  refine ⟨M.length,rfl,Xe,by rw [List.length_append]; rfl,rfl,?_⟩
  rw [Qy]
  have F0:FamAt Zc (M++[MO.ins Zc (famD M.length)]++[MO.dct [],MO.dct []]) M.length []:=by
   rw [List.append_assoc]
   exact ⟨Zgb (k:=0),Zgb (k:=1),Zgb (k:=2),List.nodup_nil⟩
  have p0:M<+:M++[MO.ins Zc (famD M.length)]++[MO.dct [],MO.dct []]:=by rw [List.append_assoc]; exact ⟨_,rfl⟩
  generalize M++[MO.ins Zc (famD M.length)]++[MO.dct [],MO.dct []]=M0 at F0 p0
  have lqm:(qs.map spD).length=qs.length:=List.length_map _
  refine g_nx ?_
  dsimp only
  refine ⟨_,rfl,?_⟩
  dsimp only [uNil]
  refine Zjl (Ql p0 hd) ?_
  refine ⟨_,rfl,⟨by omega,by omega⟩,fun i ρ M'=>∃ (zs:List Fq) (v3 v4 v5 v6:Option D),ρ=[some d,some (.cell hh),some (.cell M.length),v3,v4,v5,v6]/\M<+:M'/\FamAt Zc M' M.length zs/\zs.length=i/\∀ (i:Nat) (z q:Fq),zs[i]?=some z->qs[i]?=some q->Pw z q,fun _ _ _ _ _=>trivial,⟨[],_,_,_,_,rfl,p0,F0,rfl,fun i z q e=>nomatch e⟩,?_,?_⟩
  ·rintro i x ρ M1 hi rfl ⟨zs,v3,v4,v5,v6,rfl,p1,F1,lz,tz⟩
   have hi':i < qs.length:=by
    have:i < (((qs.map spD).length:Int)).toNat:=hi
    omega
   have e0:(0:Int) + (i:Int)=(i:Int):=Int.zero_add _
   rw [e0]
   have a2:(qs.map spD)[i]?=some (spD qs[i]):=by rw [List.getElem?_map,List.getElem?_eq_getElem hi']; rfl
   have hm:=ff _ (List.getElem_mem hi')
   have nw:=Zlp nd tz lz hi'
   have hd1:=Ql p1 hd
   refine ⟨_,rfl,_,rfl,_,rfl,?_⟩
   refine Zba hd1 (V6 rfl a2) ?_
   refine ⟨_,_,_,rfl,rfl,rfl,M.length,qs[i].1,zs,rfl,F1,nw,_,rfl,iteF ?_⟩
   refine ⟨_,rfl,⟨M.length,_,rfl,F1.h0,rfl⟩,_,rfl,_,rfl,?_⟩
   refine Zba hd1 (V6 rfl a2) ?_
   refine ⟨_,_,_,rfl,rfl,rfl,_,rfl,_,rfl,?_⟩
   refine Zba hd1 (V6 rfl a2) ?_
   refine ⟨_,_,_,rfl,rfl,rfl,_,_,rfl,rfl,k0,_,qs[i].2.1,Yz p1 h0,rfl,rfl,⟨hm.1,hm.2.1⟩,fun S pm ri=>?_⟩
   refine ⟨_,rfl,_,rfl,?_⟩
   refine Zba hd1 (V6 rfl a2) ?_
   refine ⟨_,_,_,rfl,rfl,rfl,M.length,qs[i].1,S,qs[i].2.2,zs,rfl,F1,by omega,fun _=>?_,fun z=>absurd z nw⟩
   have lt1:=Vo F1.h2
   have F2:FamAt Zc (Rq M1 M.length (zs++[(qs[i].1,S,qs[i].2.2)])) M.length (zs++[(qs[i].1,S,qs[i].2.2)]):=F1.put (Zn9 F1.nd nw)
   have p2:M<+:Rq M1 M.length (zs++[(qs[i].1,S,qs[i].2.2)]):=by
    unfold Rq
    exact Sr (Sr p1 (by omega)) (by omega)
   have tz2:=Zmx tz lz hi' (z:=(qs[i].1,S,qs[i].2.2)) ⟨rfl,rfl,pm,ri⟩
   have lz2:(zs++[(qs[i].1,S,qs[i].2.2)]).length=i + 1:=by rw [List.length_append,lz]; rfl
   generalize Rq M1 M.length (zs++[(qs[i].1,S,qs[i].2.2)])=M2 at F2 p2
   generalize zs++[(qs[i].1,S,qs[i].2.2)]=zs2 at F2 tz2 lz2
   have T2:=X6.take tz2 lz2 hi'
   refine ⟨_,rfl,_,rfl,_,rfl,?_⟩
   refine Zhg (Ql p2 hd) ?_
   have ek:cut (qs.map spD) none (some ((i:Int) + 1))=(qs.take (i + 1)).map spD:=by
    rw [V3,show (i:Int) + 1=((i + 1:Nat):Int) by omega,Rt]
   rw [ek]
   have lk:((qs.take (i + 1)).map spD).length=i + 1:=by rw [List.length_map,List.length_take]; omega
   have lk':(qs.take (i + 1)).length=i + 1:=by rw [List.length_take]; omega
   have fk:∀ q∈qs.take (i + 1),Free q.2.1/\Fits q.2.1/\q.2.2.length<=4/\PyData.strOk q.1=true:=fun q hq=>ff q (List.mem_of_mem_take hq)
   generalize qs.take (i + 1)=ks at lk lk' fk T2
   refine g_nx ?_
   dsimp only
   refine ⟨_,rfl,hh,60,rfl,Yz p2 hk,⟨by decide,by decide⟩,fun y y0 y1=>⟨_,rfl,_,rfl,_,_,rfl,rfl,by omega,?_⟩⟩
   obtain ⟨a,ea,ha⟩:=Nv y (n:=(ks.map spD).length) (by omega)
   dsimp only
   rw [ea]
   refine ⟨_,rfl,_,rfl,_,rfl,hh,a,_,ks,by omega,rfl,Yz p2 hk,rfl,⟨by omega,fun q hq=>(fk q hq).2.1⟩,fun M3 c tss p3 lc hc tok ltss=>?_⟩
   refine ⟨_,(Wl (Xj hc)).2.1,fun j ρ M'=>∃ v6:Option D,ρ=[some d,some (.cell hh),some (.cell M.length),some (.int i),some (.lst (ks.map spD)),some (.int a),v6]/\M3<+:M',fun _ _ _ _ h=>?_,⟨_,rfl,List.prefix_refl _⟩,?_,?_⟩
   ·obtain ⟨v6,_,p⟩:=h
    exact (Wl (Xj (Yz p hc))).2.1
   ·rintro j x ρ M4 hj hx ⟨v6,rfl,p4⟩
    obtain ⟨hj',rfl⟩:=X4 hx
    obtain ⟨lts,hts⟩:=tok _ (List.getElem_mem hj')
    exact ⟨_,rfl,_,rfl,_,rfl,_,rfl,M.length,a,_,tss[j],ks,zs2,by omega,rfl,F2.pre (p3.trans p4),rfl,⟨T2,by omega,fk,lts,hts⟩,fun M5 p5=>⟨_,rfl,iteF (.inl ⟨_,rfl,p4.trans p5⟩)⟩⟩
   ·rintro ρ M4 ⟨v6,rfl,p4⟩
    exact .inl ⟨zs2,_,_,_,_,rfl,p2.trans (p3.trans p4),F2.pre (p3.trans p4),lz2,tz2⟩
  ·rintro ρ M1 ⟨zs,v3,v4,v5,v6,rfl,p1,F1,lz,tz⟩
   have lz:zs.length=(((qs.map spD).length:Int)).toNat:=lz
   exact ⟨_,rfl,.inl (k M1 _ zs p1 (Nat.le_refl _) F1 ⟨by omega,tz⟩)⟩
open L3
abbrev spLaw (K:W.Frag) (Pt:Addr):Sp:=L3.Zi4 K Pt lamP lamQ
theorem ok_law (T:Txt mg) {C:Addr} {Pt Zc:Addr} (Xf:Cal P w K mg base "_law_open" 1 ["_law_script", "_law_place"] (L3.spOf ⟨C,K⟩ Zlx)) (Zk:Cal P w K mg base "_law_draw" 1 ["_law_hand", "_law_many"] (L3.spOf ⟨C,K⟩ Zbm)) (Ud:Cal P w K mg base "_law_specs" 3 ["_law_script", "_law_most"] (L3.spOf ⟨C,K⟩ Zcs)) (W5:Cal P w K mg base "_law_growing" 7 ["_law_specs_here", "_law_hand"] (L3.spOf ⟨C,K⟩ (Zgp Zc Pt lamP lamQ))) (Xx:Cal P w K mg base "_law_texts" 3 ["_law_specs_here", "_law_at", "_law_hand"] (L3.spOf ⟨C,K⟩ Pn)) (Xy:Cal P w K mg base "_law_asked" 6 ["_law_family", "_law_specs_here", "_law_at", "_law_text_here"] (L3.spOf ⟨C,K⟩ (Pp Zc))) {f:Addr} {fd:FuncData} (F:Fun K "law" "law" Q1 f fd):FnOk P w K mg base CX0 9 f fd ["_law_script"] (L3.spOf ⟨C,K⟩ (Zo4 Pt lamP lamQ)):=by
 refine L3.Fun.ok3 F sc_law (fun ds M K3 h=>?_) (fun cdv A outer s H E hr=>?_)
 ·obtain ⟨ns,rfl,_⟩:=h
  rfl
 ·have SC:=sc_law
  have hu:=hr.units
  have hu1:=Wt hr
  have Xw:Room 1 _:=hr.mono (by first | decide | omega)
  have Zl:Room 1 _:=hr.mono (by first | decide | omega)
  have Ph:Room 3 _:=hr.mono (by first | decide | omega)
  have Ri:Room 7 _:=hr.mono (by first | decide | omega)
  have Vi:Room 3 _:=hr.mono (by first | decide | omega)
  have Vj:Room 6 _:=hr.mono (by first | decide | omega)
  refine ⟨_,_,(Zf (Qh (Zw Ud Ph rfl (Za (pv 0) (Za Zj Zd))) (Wv (n:=3) rfl (Zy (Zr (i:=1) SC.nd rfl (Or.inl rfl)) (Zy (Zr (i:=2) SC.nd rfl (Or.inl rfl)) (Zy (Zr (i:=3) SC.nd rfl (Or.inl rfl)) X2))) (by rfl)))
 (Zf (Zv (i:=4) SC.nd rfl (Or.inl rfl) (Zw W5 Ri rfl (Za (pv 3) (Za (Zw Xf Xw rfl (Za (pv 0) (Za Zj Zd))) Zd))))
 (Zf (Xk (Sn (Zfh (pv 4)))
 (Zn (Z5 Q4))
 Z7)
 (Zf (Zv (i:=5) SC.nd rfl (Or.inl rfl) (Zz Y9 (Zw Zk Zl rfl (Za (Zw Xf Xw rfl (Za (pv 0) (Za Zj Zd))) (Za Zj Zd))) (Zt (Tf rfl) (by rfl) T.b_max PyProof.Rows.boot_max (Za Zj (Za (Zt (Yy (K:=K) rfl) (by rfl) T.b_len PySem.boot_len (Za (pv 3) Zd)) Zd)))))
 (Zf (Wf PassesOwn.never rfl (Y0 (Zz (L3.Wn (K':=K) rfl) (Z4 (T5 rfl) (by rfl) T.b_list PyProof.Rows.boot_list (Za (Z4 Zbo (by rfl) T.b_range PyProof.Rows.boot_range (Za (pv 5) (Za (Zt (Yy (K:=K) rfl) (by rfl) T.b_len PySem.boot_len (Za (pv 3) Zd)) Zd))) Zd)) (Z4 (T5 rfl) (by rfl) T.b_list PyProof.Rows.boot_list (Za (Z4 Zad (by rfl) T.b_range PyProof.Rows.boot_range (Za (pv 5) Zd)) Zd)))) (Zr (i:=6) SC.nd rfl (Or.inl rfl))
 (Zf (Zv (i:=7) SC.nd rfl (Or.inl rfl) (Zw Xf Xw rfl (Za (pv 0) (Za (Zz (L3.Wn (K':=K) rfl) Zj (pv 6)) Zd))))
 (Zf (Zv (i:=8) SC.nd rfl (Or.inl rfl) (Zw Xx Vi rfl (Za (pv 3) (Za (pv 6) (Za (pv 7) Zd)))))
 (Zn (Wf PassesOwn.never rfl (Y0 (Zz (L3.Wn (K':=K) rfl) (pv 8) (Zfd (pv 8) (Yf (Zku Zd6 Zj)) (fun _ _=>⟨_,rfl⟩)))) (Zr (i:=9) SC.nd rfl (Or.inl rfl))
 (Zn (Xk (Nm (Qg (Zw Xy Vj rfl (Za (pv 4) (Za (pv 3) (Za (pv 6) (Za (pv 9) Zd)))))))
 (Zn (Z5 Q4))
 Z7)))))))
 (Zn (Z5 Q4))))))),fun _=>(L3.Z3 (L3.Yn (L3.Z8 (L3.Ze (L3.Zh 0) (L3.Ze L3.Z1 L3.Zp))) (L3.Uo (L3.Yd (L3.s_g 1) (L3.Yd (L3.s_g 2) (L3.Yd (L3.s_g 3) L3.Up)))))
 (L3.Z3 (L3.Yn (L3.Z8 (L3.Ze (L3.Zh 3) (L3.Ze (L3.Z8 (L3.Ze (L3.Zh 0) (L3.Ze L3.Z1 L3.Zp))) L3.Zp))) (L3.s_g 4))
 (L3.Z3 (L3.Wz (L3.s_b (L3.Zqj (L3.Zh 4)))
 (L3.X7 L3.s_bl)
 L3.X1)
 (L3.Z3 (L3.Yn (L3.s_op L3.Q0 (L3.Z8 (L3.Ze (L3.Z8 (L3.Ze (L3.Zh 0) (L3.Ze L3.Z1 L3.Zp))) (L3.Ze L3.Z1 L3.Zp))) (L3.s_cb L3.Zi7 (L3.Ze L3.Z1 (L3.Ze (L3.s_cb L3.Wo (L3.Ze (L3.Zh 3) L3.Zp)) L3.Zp)))) (L3.s_g 5))
 (L3.Z3 (L3.Sk (L3.s_il (L3.s_op L3.Uv (L3.Zey (L3.Ze (L3.Zh 5) (L3.Ze (L3.s_cb L3.Wo (L3.Ze (L3.Zh 3) L3.Zp)) L3.Zp))) (L3.Zdc (L3.Ze (L3.Zh 5) L3.Zp)))) (L3.s_g 6)
 (L3.Z3 (L3.Yn (L3.Z8 (L3.Ze (L3.Zh 0) (L3.Ze (L3.s_op L3.Uv L3.Z1 (L3.Zh 6)) L3.Zp))) (L3.s_g 7))
 (L3.Z3 (L3.Yn (L3.Z8 (L3.Ze (L3.Zh 3) (L3.Ze (L3.Zh 6) (L3.Ze (L3.Zh 7) L3.Zp)))) (L3.s_g 8))
 (L3.Sk (L3.s_il (L3.s_op L3.Uv (L3.Zh 8) (L3.Zqf (L3.Zh 8) (L3.Vr (L3.s_un L3.Zqg L3.Z1))))) (L3.s_g 9)
 (L3.Wz (L3.Zev (L3.s_b (L3.Z8 (L3.Ze (L3.Zh 4) (L3.Ze (L3.Zh 3) (L3.Ze (L3.Zh 6) (L3.Ze (L3.Zh 9) L3.Zp)))))))
 (L3.X7 L3.s_bl)
 L3.X1)))))
 (L3.X7 L3.s_bl)))))),fun ds M Kk hM hD h=>?_⟩
  obtain ⟨ns,rfl,h⟩:=h
  obtain ⟨rfl,hlen,k⟩:=h
  refine ⟨_,rfl,ns,3,rfl,⟨hlen,by decide,by decide⟩,fun bs ss qs c M1 ok p1 lc hc=>?_⟩
  refine ⟨_,rfl,rfl,_,_,rfl,_,_,rfl,_,_,rfl,rfl,?_⟩
  have l8:=ok.ln
  have lqm:(qs.map spD).length=qs.length:=List.length_map _
  have h01:M1[0]?=some (.tab Pt lamP lamQ):=Yz p1 rfl
  have fq:∀ q∈qs,Free q.2.1/\Fits q.2.1/\q.2.2.length<=4/\PyData.strOk q.1=true:=fun q h=>⟨ok.fr q h,ok.fi q h,ok.ml q h,(ok.nl q h).2⟩
  refine ⟨_,rfl,_,rfl,ns,19,rfl,⟨hlen,by decide,by decide⟩,?_⟩
  refine ⟨0,M1.length,_,qs,rfl,We h01,Xe,Xj (We hc),⟨ok.nd,l8,fq⟩,fun M2 f zs p2 lf F2 tz=>?_⟩
  have hc2:M2[c]?=some (.lst (qs.map spD)):=Yz p2 (We hc)
  refine ⟨_,rfl,_,rfl,iteF ?_⟩
  refine ⟨_,rfl,ns,9,rfl,⟨hlen,by decide,by decide⟩,?_⟩
  have hc3:(M2++[MO.hand])[c]?=some (.lst (qs.map spD)):=We hc2
  have F3:=F2.pre (N:=M2++[MO.hand]) ⟨_,rfl⟩
  have h3:(M2++[MO.hand])[M2.length]?=some .hand:=Xe
  generalize M2.length=hh at h3
  generalize M2++[MO.hand]=M3 at hc3 F3 h3
  refine ⟨hh,60,rfl,h3,⟨by decide,by decide⟩,fun y y0 y1=>?_⟩
  have hmx:(0:Int) < (if ((qs.map spD).length:Int) > 1 then ((qs.map spD).length:Int) else 1):=by split <;> omega
  obtain ⟨st,est,hst⟩:∃ st:Nat,y % (if ((qs.map spD).length:Int) > 1 then ((qs.map spD).length:Int) else 1)=(st:Int)/\st<=qs.length:=by
   have hm:(if ((qs.map spD).length:Int) > 1 then ((qs.map spD).length:Int) else 1)=qs.length\/(if ((qs.map spD).length:Int) > 1 then ((qs.map spD).length:Int) else 1)=1/\qs.length<=1:=by split <;> omega
   generalize (if ((qs.map spD).length:Int) > 1 then ((qs.map spD).length:Int) else 1)=mx at hmx hm
   have h1:=Int.emod_nonneg y (Int.ne_of_gt hmx)
   have h2:=Int.emod_lt_of_pos y hmx
   by_cases h0:qs.length=0
   ·refine ⟨0,?_,Nat.zero_le _⟩
    omega
   ·exact ⟨(y % mx).toNat,by omega,by omega⟩
  refine ⟨_,rfl,_,(Wl (Xj hc3)).2.2,_,_,rfl,_,_,rfl,rfl,hmx,?_⟩
  dsimp only
  rw [est]
  have lr:∀ (a:Int) (n:Nat),(rngD a n).length=n:=fun a n=>by unfold rngD; rw [List.length_map,List.length_range]
  refine ⟨_,rfl,_,rfl,_,(Wl (Xj hc3)).2.2,_,_,rfl,⟨by omega,by omega,by omega,by omega,by omega⟩,_,rfl,_,rfl,⟨by omega,by omega,by omega⟩,_,_,rfl,rfl,?_,?_⟩
  ·rw [lr,lr]
   exact Zo (by omega)
  have hin:∀ x∈rngD st (((qs.map spD).length:Int) - (st:Int)).toNat++rngD 0 ((st:Int)).toNat,∃ j:Nat,x=.int j/\j < qs.length:=fun x hx=>by
   rcases List.mem_append.mp hx with w | w
   ·unfold rngD at w
    obtain ⟨j,hj,rfl⟩:=List.mem_map.mp w
    have:=List.mem_range.mp hj
    exact ⟨st + j,by rw [Int.natCast_add],by omega⟩
   ·unfold rngD at w
    obtain ⟨j,hj,rfl⟩:=List.mem_map.mp w
    have:=List.mem_range.mp hj
    exact ⟨j,by rw [Int.zero_add],by omega⟩
  refine ⟨_,rfl,fun i ρ M'=>∃ v6 v7 v8 v9:Option D,ρ=[some (.frz (ns.map .int)),some (.lst (bs.map .int)),some (.lst (ss.map .int)),some (.cell c),some (.cell f),some (.int st),v6,v7,v8,v9]/\M3<+:M',fun _ _ _ _ _=>rfl,⟨_,_,_,_,rfl,List.prefix_refl _⟩,?_,?_⟩
  ·rintro i x ρ M4 hi hx ⟨v6,v7,v8,v9,rfl,p4⟩
   obtain ⟨j,rfl,hj⟩:=hin x (List.mem_of_getElem? hx)
   refine ⟨_,rfl,_,rfl,ns,_,rfl,⟨hlen,by omega,by omega⟩,?_⟩
   have p5:M3<+:M4++[MO.hand]:=p4.trans ⟨_,rfl⟩
   have hc5:=Yz p5 hc3
   have F5:=F3.pre p5
   have h5:(M4++[MO.hand])[M4.length]?=some .hand:=Xe
   generalize M4.length=h4 at h5
   generalize M4++[MO.hand]=M5 at p5 hc5 F5 h5
   refine ⟨_,rfl,_,rfl,_,rfl,h4,j,_,qs,hj,rfl,h5,Xj hc5,⟨l8,fun q h=>(fq q h).2.1⟩,fun M6 ct tss p6 lct hct tok lt=>?_⟩
   refine ⟨_,rfl,_,rfl,1,rfl,_,rfl,rfl,_,(Wl (Xj hct)).2.1,?_⟩
   refine Zpl (Xj hct) rfl ?_ ?_
   ·rw [List.length_reverse,List.length_map]
    exact Zo (by omega)
   rw [<- List.map_reverse,<- List.map_append]
   refine ⟨_,rfl,fun i ρ M'=>∃ v9:Option D,ρ=[some (.frz (ns.map .int)),some (.lst (bs.map .int)),some (.lst (ss.map .int)),some (.cell c),some (.cell f),some (.int st),some (.int j),some (.cell h4),some (.cell ct),v9]/\M6<+:M',fun _ _ _ _ _=>rfl,⟨_,rfl,List.prefix_refl _⟩,?_,?_⟩
   ·rintro a x ρ M7 ha hx ⟨v9,rfl,p7⟩
    obtain ⟨ha',rfl⟩:=X4 hx
    have hm:(tss++tss.reverse)[a]∈tss:=(List.mem_append.mp (List.getElem_mem ha')).elim id List.mem_reverse.mp
    obtain ⟨lts,hts⟩:=tok _ hm
    exact ⟨_,rfl,_,rfl,_,rfl,_,rfl,f,j,_,_,qs,zs,hj,rfl,F5.pre (p6.trans p7),Xj (Yz (p6.trans p7) hc5),⟨tz,l8,fq,lts,hts⟩,fun M8 p8=>⟨_,rfl,iteF (.inl ⟨_,rfl,p7.trans p8⟩)⟩⟩
   ·rintro ρ M7 ⟨v9,rfl,p7⟩
    exact .inl ⟨_,_,_,_,rfl,(p5.trans p6).trans p7⟩
  ·rintro ρ M4 ⟨v6,v7,v8,v9,rfl,p4⟩
   exact .inl (k _)
end
theorem len1 {τ:Type} {Q:List τ->Prop} (h:∀ a,Q [a]) (us:List τ) (hl:us.length=1):Q us:=match us,hl with | [a],_=>h a
theorem len2 {τ:Type} {Q:List τ->Prop} (h:∀ a b,Q [a,b]) (us:List τ) (hl:us.length=2):Q us:=match us,hl with | [a,b],_=>h a b
theorem len3 {τ:Type} {Q:List τ->Prop} (h:∀ a b c,Q [a,b,c]) (us:List τ) (hl:us.length=3):Q us:=match us,hl with | [a,b,c],_=>h a b c
theorem len4 {τ:Type} {Q:List τ->Prop} (h:∀ a b c d,Q [a,b,c,d]) (us:List τ) (hl:us.length=4):Q us:=match us,hl with | [a,b,c,d],_=>h a b c d
theorem all_mk {l:W.OpenLaw} {w:World} {K:W.Frag} {h:Heap} {mg:Str->Option Value} {fa:Addr} (X:K.In h) (G:h.Ns mainGlobals mg) (hfa:mg "law"=some (.ref fa))
    {C Pt c:Addr}
    {Ya:Addr}
    {Zs:Addr}
    {Yx:Addr}
    {Zbs:Addr}
    {Zc:Addr}
    {f0:Addr} {od0 an0:Option Addr} {sl0:Array (Option Value)} {oc0 kV0 dc0 pm0 cd0 ct0:Value}
    {f1:Addr} {od1 an1:Option Addr} {sl1:Array (Option Value)} {oc1 kV1 dc1 pm1 cd1 ct1:Value}
    {f2:Addr} {od2 an2:Option Addr} {sl2:Array (Option Value)} {oc2 kV2 dc2 pm2 cd2 ct2:Value}
    {f3:Addr} {od3 an3:Option Addr} {sl3:Array (Option Value)} {oc3 kV3 dc3 pm3 cd3 ct3:Value}
    {f4:Addr} {od4 an4:Option Addr} {sl4:Array (Option Value)} {oc4 kV4 dc4 pm4 cd4 ct4:Value}
    {f5:Addr} {od5 an5:Option Addr} {sl5:Array (Option Value)} {oc5 kV5 dc5 pm5 cd5 ct5:Value}
    {f6:Addr} {od6 an6:Option Addr} {sl6:Array (Option Value)} {oc6 kV6 dc6 pm6 cd6 ct6:Value}
    {f7:Addr} {od7 an7:Option Addr} {sl7:Array (Option Value)} {oc7 kV7 dc7 pm7 cd7 ct7:Value}
    {f8:Addr} {od8 an8:Option Addr} {sl8:Array (Option Value)} {oc8 kV8 dc8 pm8 cd8 ct8:Value}
    {f9:Addr} {od9 an9:Option Addr} {sl9:Array (Option Value)} {oc9 kV9 dc9 pm9 cd9 ct9:Value}
    {f10:Addr} {od10 an10:Option Addr} {sl10:Array (Option Value)} {oc10 kV10 dc10 pm10 cd10 ct10:Value}
    {f11:Addr} {od11 an11:Option Addr} {sl11:Array (Option Value)} {oc11 kV11 dc11 pm11  ct11:Value}
    {f12:Addr} {od12 an12:Option Addr} {sl12:Array (Option Value)} {oc12 kV12 dc12 pm12 cd12 ct12:Value}
    {f13:Addr} {od13 an13:Option Addr} {sl13:Array (Option Value)} {oc13 kV13 dc13 pm13 cd13 ct13:Value}
    {f14:Addr} {od14 an14:Option Addr} {sl14:Array (Option Value)} {oc14 kV14 dc14 pm14 cd14 ct14:Value}
    {f15:Addr} {od15 an15:Option Addr} {sl15:Array (Option Value)} {oc15 kV15 dc15 pm15 cd15 ct15:Value}
    {f16:Addr} {od16 an16:Option Addr} {sl16:Array (Option Value)} {oc16 kV16 dc16 pm16 cd16 ct16:Value}
    {f17:Addr} {od17 an17:Option Addr} {sl17:Array (Option Value)} {oc17 kV17 dc17 pm17 cd17 ct17:Value}
    {f18:Addr} {od18 an18:Option Addr} {sl18:Array (Option Value)} {oc18 kV18 dc18 pm18 cd18 ct18:Value}
    {f19:Addr} {od19 an19:Option Addr} {sl19:Array (Option Value)} {oc19 kV19 dc19 pm19 cd19 ct19:Value}
    {f20:Addr} {od20 an20:Option Addr} {sl20:Array (Option Value)} {oc20 kV20 dc20 pm20 cd20 ct20:Value}
    {f21:Addr} {od21 an21:Option Addr} {sl21:Array (Option Value)} {oc21 kV21 dc21 pm21 cd21 ct21:Value}
    {f22:Addr} {od22 an22:Option Addr} {sl22:Array (Option Value)} {oc22 kV22 dc22 pm22 cd22 ct22:Value}
    {f23:Addr} {od23 an23:Option Addr} {sl23:Array (Option Value)} {oc23 kV23 dc23 pm23 cd23 ct23:Value}
    {f24:Addr} {od24 an24:Option Addr} {sl24:Array (Option Value)} {oc24 kV24 dc24 pm24 cd24 ct24:Value}
    {f25:Addr} {od25 an25:Option Addr} {sl25:Array (Option Value)} {oc25 kV25 dc25 pm25 cd25 ct25:Value}
    {f26:Addr} {od26 an26:Option Addr} {sl26:Array (Option Value)} {oc26 kV26 dc26 pm26 cd26 ct26:Value}
    {f27:Addr} {od27 an27:Option Addr} {sl27:Array (Option Value)} {oc27 kV27 dc27 pm27 cd27 ct27:Value}
    {f28:Addr} {od28 an28:Option Addr} {sl28:Array (Option Value)} {oc28 kV28 dc28 pm28 cd28 ct28:Value}
    {f29:Addr} {od29 an29:Option Addr} {sl29:Array (Option Value)} {oc29 kV29 dc29 pm29 cd29 ct29:Value}
    {f30:Addr} {od30 an30:Option Addr} {sl30:Array (Option Value)} {oc30 kV30 dc30 pm30 cd30 ct30:Value}
    {f31:Addr} {od31 an31:Option Addr} {sl31:Array (Option Value)} {oc31 kV31 dc31 pm31 cd31 ct31:Value}
    {f32:Addr} {od32 an32:Option Addr} {sl32:Array (Option Value)} {oc32 kV32 dc32 pm32 cd32 ct32:Value}
    {f33:Addr} {od33 an33:Option Addr} {sl33:Array (Option Value)} {oc33 kV33 dc33 pm33 cd33 ct33:Value}
    {f34:Addr} {od34 an34:Option Addr} {sl34:Array (Option Value)} {oc34 kV34 dc34 pm34 cd34 ct34:Value}
    {f35:Addr} {od35 an35:Option Addr} {sl35:Array (Option Value)} {oc35 kV35 dc35 pm35 cd35 ct35:Value}
    {f36:Addr} {od36 an36:Option Addr} {sl36:Array (Option Value)} {oc36 kV36 dc36 pm36 cd36 ct36:Value}
    (aC:W.nsIn K mainGlobals "Code"=some (some (.ref C)))
    (gx_NoSign:W.nsIn K mainGlobals "NoSign"=some (some (.ref Ya)))
    (gx_NoName:W.nsIn K mainGlobals "NoName"=some (some (.ref Zs)))
    (gx_Taken:W.nsIn K mainGlobals "Taken"=some (some (.ref Yx)))
    (gx_SkewError:W.nsIn K mainGlobals "SkewError"=some (some (.ref Zbs)))
    (gx_Family:W.nsIn K mainGlobals "Family"=some (some (.ref Zc)))
    (a0:W.nsIn K mainGlobals "_law_draw"=some (some (.ref f0)))
    (l0:K.lookup f0=some ⟨oc0,od0,.func (W.fnOf "_law_draw" "_law_draw" (Zx s__law_draw) (Zu s__law_draw) (Zi s__law_draw) .none kV0 dc0 pm0 an0 cd0 ct0),sl0⟩)
    (c0:W.codeIn K cd0 "_law_draw"=true)
    (k0:W.keepIn K (.ref f0)=true)
    (a1:W.nsIn K mainGlobals "_law_open"=some (some (.ref f1)))
    (l1:K.lookup f1=some ⟨oc1,od1,.func (W.fnOf "_law_open" "_law_open" (Zx s__law_open) (Zu s__law_open) (Zi s__law_open) .none kV1 dc1 pm1 an1 cd1 ct1),sl1⟩)
    (c1:W.codeIn K cd1 "_law_open"=true)
    (k1:W.keepIn K (.ref f1)=true)
    (a2:W.nsIn K mainGlobals "_law_bytes"=some (some (.ref f2)))
    (l2:K.lookup f2=some ⟨oc2,od2,.func (W.fnOf "_law_bytes" "_law_bytes" (Zx s__law_bytes) (Zu s__law_bytes) (Zi s__law_bytes) .none kV2 dc2 pm2 an2 cd2 ct2),sl2⟩)
    (c2:W.codeIn K cd2 "_law_bytes"=true)
    (k2:W.keepIn K (.ref f2)=true)
    (a3:W.nsIn K mainGlobals "_law_words"=some (some (.ref f3)))
    (l3:K.lookup f3=some ⟨oc3,od3,.func (W.fnOf "_law_words" "_law_words" (Zx s__law_words) (Zu s__law_words) (Zi s__law_words) .none kV3 dc3 pm3 an3 cd3 ct3),sl3⟩)
    (c3:W.codeIn K cd3 "_law_words"=true)
    (k3:W.keepIn K (.ref f3)=true)
    (a4:W.nsIn K mainGlobals "_law_signs"=some (some (.ref f4)))
    (l4:K.lookup f4=some ⟨oc4,od4,.func (W.fnOf "_law_signs" "_law_signs" (Zx s__law_signs) (Zu s__law_signs) (Zi s__law_signs) .none kV4 dc4 pm4 an4 cd4 ct4),sl4⟩)
    (c4:W.codeIn K cd4 "_law_signs"=true)
    (k4:W.keepIn K (.ref f4)=true)
    (a5:W.nsIn K mainGlobals "_law_table"=some (some (.ref f5)))
    (l5:K.lookup f5=some ⟨oc5,od5,.func (W.fnOf "_law_table" "_law_table" (Zx s__law_table) (Zu s__law_table) (Zi s__law_table) .none kV5 dc5 pm5 an5 cd5 ct5),sl5⟩)
    (c5:W.codeIn K cd5 "_law_table"=true)
    (k5:W.keepIn K (.ref f5)=true)
    (a6:W.nsIn K mainGlobals "_law_text"=some (some (.ref f6)))
    (l6:K.lookup f6=some ⟨oc6,od6,.func (W.fnOf "_law_text" "_law_text" (Zx s__law_text) (Zu s__law_text) (Zi s__law_text) .none kV6 dc6 pm6 an6 cd6 ct6),sl6⟩)
    (c6:W.codeIn K cd6 "_law_text"=true)
    (k6:W.keepIn K (.ref f6)=true)
    (a7:W.nsIn K mainGlobals "odds_between"=some (some (.ref f7)))
    (l7:K.lookup f7=some ⟨oc7,od7,.func (W.fnOf "odds_between" "odds_between" (Zx Y5) (Zu Y5) (Zi Y5) .none kV7 dc7 pm7 an7 cd7 ct7),sl7⟩)
    (c7:W.codeIn K cd7 "odds_between"=true)
    (k7:W.keepIn K (.ref f7)=true)
    (a8:W.nsIn K mainGlobals "fault"=some (some (.ref f8)))
    (l8:K.lookup f8=some ⟨oc8,od8,.func (W.fnOf "fault" "fault" (Zx To) (Zu To) (Zi To) .none kV8 dc8 pm8 an8 cd8 ct8),sl8⟩)
    (c8:W.codeIn K cd8 "fault"=true)
    (k8:W.keepIn K (.ref f8)=true)
    (a9:W.nsIn K mainGlobals "refuse_fault"=some (some (.ref f9)))
    (l9:K.lookup f9=some ⟨oc9,od9,.func (W.fnOf "refuse_fault" "refuse_fault" (Zx Y4) (Zu Y4) (Zi Y4) .none kV9 dc9 pm9 an9 cd9 ct9),sl9⟩)
    (c9:W.codeIn K cd9 "refuse_fault"=true)
    (k9:W.keepIn K (.ref f9)=true)
    (a10:W.nsIn K mainGlobals "beginnings"=some (some (.ref f10)))
    (l10:K.lookup f10=some ⟨oc10,od10,.func (W.fnOf "beginnings" "beginnings" (Zx Xu) (Zu Xu) (Zi Xu) .none kV10 dc10 pm10 an10 cd10 ct10),sl10⟩)
    (c10:W.codeIn K cd10 "beginnings"=true)
    (k10:W.keepIn K (.ref f10)=true)
    (a11:W.findIn K (.ref C) "__init__"=some (some (.ref f11)))
    (l11:K.lookup f11=some ⟨oc11,od11,.func (W.fnOf "__init__" "Code.__init__" (Zx Z0) (Zu Z0) (Zi Z0) .none kV11 dc11 pm11 an11 (.ref c) ct11),sl11⟩)
    (c11:W.codeIn K (.ref c) "Code.__init__"=true)
    (k11:W.keepIn K (.ref f11)=true)
    (n11:W.isFn K (.ref f11)=true)
    (a12:W.findIn K (.ref C) "word"=some (some (.ref f12)))
    (l12:K.lookup f12=some ⟨oc12,od12,.func (W.fnOf "word" "Code.word" (Zx X9) (Zu X9) (Zi X9) .none kV12 dc12 pm12 an12 cd12 ct12),sl12⟩)
    (c12:W.codeIn K cd12 "Code.word"=true)
    (k12:W.keepIn K (.ref f12)=true)
    (n12:W.isFn K (.ref f12)=true)
    (a13:W.findIn K (.ref Ya) "__init__"=some (some (.ref f13)))
    (l13:K.lookup f13=some ⟨oc13,od13,.func (W.fnOf "__init__" "NoSign.__init__" (Zx Yj) (Zu Yj) (Zi Yj) .none kV13 dc13 pm13 an13 cd13 ct13),sl13⟩)
    (c13:W.codeIn K cd13 "NoSign.__init__"=true)
    (k13:W.keepIn K (.ref f13)=true)
    (n13:W.isFn K (.ref f13)=true)
    (a14:W.findIn K (.ref Zs) "__init__"=some (some (.ref f14)))
    (l14:K.lookup f14=some ⟨oc14,od14,.func (W.fnOf "__init__" "NoName.__init__" (Zx Yk) (Zu Yk) (Zi Yk) .none kV14 dc14 pm14 an14 cd14 ct14),sl14⟩)
    (c14:W.codeIn K cd14 "NoName.__init__"=true)
    (k14:W.keepIn K (.ref f14)=true)
    (n14:W.isFn K (.ref f14)=true)
    (a15:W.findIn K (.ref Yx) "__init__"=some (some (.ref f15)))
    (l15:K.lookup f15=some ⟨oc15,od15,.func (W.fnOf "__init__" "Taken.__init__" (Zx Ys) (Zu Ys) (Zi Ys) .none kV15 dc15 pm15 an15 cd15 ct15),sl15⟩)
    (c15:W.codeIn K cd15 "Taken.__init__"=true)
    (k15:W.keepIn K (.ref f15)=true)
    (n15:W.isFn K (.ref f15)=true)
    (a16:W.nsIn K mainGlobals "write"=some (some (.ref f16)))
    (l16:K.lookup f16=some ⟨oc16,od16,.func (W.fnOf "write" "write" (Zx Tk) (Zu Tk) (Zi Tk) .none kV16 dc16 pm16 an16 cd16 ct16),sl16⟩)
    (c16:W.codeIn K cd16 "write"=true)
    (k16:W.keepIn K (.ref f16)=true)
    (a17:W.nsIn K mainGlobals "begins_row"=some (some (.ref f17)))
    (l17:K.lookup f17=some ⟨oc17,od17,.func (W.fnOf "begins_row" "begins_row" (Zx Xt) (Zu Xt) (Zi Xt) .none kV17 dc17 pm17 an17 cd17 ct17),sl17⟩)
    (c17:W.codeIn K cd17 "begins_row"=true)
    (k17:W.keepIn K (.ref f17)=true)
    (a18:W.findIn K (.ref Zc) "__init__"=some (some (.ref f18)))
    (l18:K.lookup f18=some ⟨oc18,od18,.func (W.fnOf "__init__" "Family.__init__" (Zx Ym) (Zu Ym) (Zi Ym) .none kV18 dc18 pm18 an18 cd18 ct18),sl18⟩)
    (c18:W.codeIn K cd18 "Family.__init__"=true)
    (k18:W.keepIn K (.ref f18)=true)
    (n18:W.isFn K (.ref f18)=true)
    (a19:W.findIn K (.ref Zc) "add"=some (some (.ref f19)))
    (l19:K.lookup f19=some ⟨oc19,od19,.func (W.fnOf "add" "Family.add" (Zx Xv) (Zu Xv) (Zi Xv) .none kV19 dc19 pm19 an19 cd19 ct19),sl19⟩)
    (c19:W.codeIn K cd19 "Family.add"=true)
    (k19:W.keepIn K (.ref f19)=true)
    (n19:W.isFn K (.ref f19)=true)
    (a20:W.findIn K (.ref Zc) "names"=some (some (.ref f20)))
    (l20:K.lookup f20=some ⟨oc20,od20,.func (W.fnOf "names" "Family.names" (Zx Y6) (Zu Y6) (Zi Y6) .none kV20 dc20 pm20 an20 cd20 ct20),sl20⟩)
    (c20:W.codeIn K cd20 "Family.names"=true)
    (k20:W.keepIn K (.ref f20)=true)
    (n20:W.isFn K (.ref f20)=true)
    (a21:W.findIn K (.ref Zc) "code"=some (some (.ref f21)))
    (l21:K.lookup f21=some ⟨oc21,od21,.func (W.fnOf "code" "Family.code" (Zx Xh) (Zu Xh) (Zi Xh) .none kV21 dc21 pm21 an21 cd21 ct21),sl21⟩)
    (c21:W.codeIn K cd21 "Family.code"=true)
    (k21:W.keepIn K (.ref f21)=true)
    (n21:W.isFn K (.ref f21)=true)
    (a22:W.findIn K (.ref Zc) "mark"=some (some (.ref f22)))
    (l22:K.lookup f22=some ⟨oc22,od22,.func (W.fnOf "mark" "Family.mark" (Zx Xg) (Zu Xg) (Zi Xg) .none kV22 dc22 pm22 an22 cd22 ct22),sl22⟩)
    (c22:W.codeIn K cd22 "Family.mark"=true)
    (k22:W.keepIn K (.ref f22)=true)
    (n22:W.isFn K (.ref f22)=true)
    (a23:W.findIn K (.ref Zc) "marked"=some (some (.ref f23)))
    (l23:K.lookup f23=some ⟨oc23,od23,.func (W.fnOf "marked" "Family.marked" (Zx Yw) (Zu Yw) (Zi Yw) .none kV23 dc23 pm23 an23 cd23 ct23),sl23⟩)
    (c23:W.codeIn K cd23 "Family.marked"=true)
    (k23:W.keepIn K (.ref f23)=true)
    (n23:W.isFn K (.ref f23)=true)
    (a24:W.findIn K (.ref Zc) "by_mark"=some (some (.ref f24)))
    (l24:K.lookup f24=some ⟨oc24,od24,.func (W.fnOf "by_mark" "Family.by_mark" (Zx Yt) (Zu Yt) (Zi Yt) .none kV24 dc24 pm24 an24 cd24 ct24),sl24⟩)
    (c24:W.codeIn K cd24 "Family.by_mark"=true)
    (k24:W.keepIn K (.ref f24)=true)
    (n24:W.isFn K (.ref f24)=true)
    (a25:W.findIn K (.ref Zc) "mistaken"=some (some (.ref f25)))
    (l25:K.lookup f25=some ⟨oc25,od25,.func (W.fnOf "mistaken" "Family.mistaken" (Zx Yl) (Zu Yl) (Zi Yl) .none kV25 dc25 pm25 an25 cd25 ct25),sl25⟩)
    (c25:W.codeIn K cd25 "Family.mistaken"=true)
    (k25:W.keepIn K (.ref f25)=true)
    (n25:W.isFn K (.ref f25)=true)
    (a26:W.findIn K (.ref Zc) "misled"=some (some (.ref f26)))
    (l26:K.lookup f26=some ⟨oc26,od26,.func (W.fnOf "misled" "Family.misled" (Zx Yv) (Zu Yv) (Zi Yv) .none kV26 dc26 pm26 an26 cd26 ct26),sl26⟩)
    (c26:W.codeIn K cd26 "Family.misled"=true)
    (k26:W.keepIn K (.ref f26)=true)
    (n26:W.isFn K (.ref f26)=true)
    (a27:W.nsIn K mainGlobals "_law_names"=some (some (.ref f27)))
    (l27:K.lookup f27=some ⟨oc27,od27,.func (W.fnOf "_law_names" "_law_names" (Zx s__law_names) (Zu s__law_names) (Zi s__law_names) .none kV27 dc27 pm27 an27 cd27 ct27),sl27⟩)
    (c27:W.codeIn K cd27 "_law_names"=true)
    (k27:W.keepIn K (.ref f27)=true)
    (a28:W.nsIn K mainGlobals "_law_mark"=some (some (.ref f28)))
    (l28:K.lookup f28=some ⟨oc28,od28,.func (W.fnOf "_law_mark" "_law_mark" (Zx s__law_mark) (Zu s__law_mark) (Zi s__law_mark) .none kV28 dc28 pm28 an28 cd28 ct28),sl28⟩)
    (c28:W.codeIn K cd28 "_law_mark"=true)
    (k28:W.keepIn K (.ref f28)=true)
    (a29:W.nsIn K mainGlobals "_law_specs"=some (some (.ref f29)))
    (l29:K.lookup f29=some ⟨oc29,od29,.func (W.fnOf "_law_specs" "_law_specs" (Zx s__law_specs) (Zu s__law_specs) (Zi s__law_specs) .none kV29 dc29 pm29 an29 cd29 ct29),sl29⟩)
    (c29:W.codeIn K cd29 "_law_specs"=true)
    (k29:W.keepIn K (.ref f29)=true)
    (a30:W.nsIn K mainGlobals "_law_written"=some (some (.ref f30)))
    (l30:K.lookup f30=some ⟨oc30,od30,.func (W.fnOf "_law_written" "_law_written" (Zx s__law_written) (Zu s__law_written) (Zi s__law_written) .none kV30 dc30 pm30 an30 cd30 ct30),sl30⟩)
    (c30:W.codeIn K cd30 "_law_written"=true)
    (k30:W.keepIn K (.ref f30)=true)
    (a31:W.nsIn K mainGlobals "_law_by_mark"=some (some (.ref f31)))
    (l31:K.lookup f31=some ⟨oc31,od31,.func (W.fnOf "_law_by_mark" "_law_by_mark" (Zx s__law_by_mark) (Zu s__law_by_mark) (Zi s__law_by_mark) .none kV31 dc31 pm31 an31 cd31 ct31),sl31⟩)
    (c31:W.codeIn K cd31 "_law_by_mark"=true)
    (k31:W.keepIn K (.ref f31)=true)
    (a32:W.nsIn K mainGlobals "_law_texts"=some (some (.ref f32)))
    (l32:K.lookup f32=some ⟨oc32,od32,.func (W.fnOf "_law_texts" "_law_texts" (Zx s__law_texts) (Zu s__law_texts) (Zi s__law_texts) .none kV32 dc32 pm32 an32 cd32 ct32),sl32⟩)
    (c32:W.codeIn K cd32 "_law_texts"=true)
    (k32:W.keepIn K (.ref f32)=true)
    (a33:W.nsIn K mainGlobals "_law_asked"=some (some (.ref f33)))
    (l33:K.lookup f33=some ⟨oc33,od33,.func (W.fnOf "_law_asked" "_law_asked" (Zx s__law_asked) (Zu s__law_asked) (Zi s__law_asked) .none kV33 dc33 pm33 an33 cd33 ct33),sl33⟩)
    (c33:W.codeIn K cd33 "_law_asked"=true)
    (k33:W.keepIn K (.ref f33)=true)
    (a34:W.nsIn K mainGlobals "_law_not_yet"=some (some (.ref f34)))
    (l34:K.lookup f34=some ⟨oc34,od34,.func (W.fnOf "_law_not_yet" "_law_not_yet" (Zx s__law_not_yet) (Zu s__law_not_yet) (Zi s__law_not_yet) .none kV34 dc34 pm34 an34 cd34 ct34),sl34⟩)
    (c34:W.codeIn K cd34 "_law_not_yet"=true)
    (k34:W.keepIn K (.ref f34)=true)
    (a35:W.nsIn K mainGlobals "_law_growing"=some (some (.ref f35)))
    (l35:K.lookup f35=some ⟨oc35,od35,.func (W.fnOf "_law_growing" "_law_growing" (Zx s__law_growing) (Zu s__law_growing) (Zi s__law_growing) .none kV35 dc35 pm35 an35 cd35 ct35),sl35⟩)
    (c35:W.codeIn K cd35 "_law_growing"=true)
    (k35:W.keepIn K (.ref f35)=true)
    (a36:W.nsIn K mainGlobals "law"=some (some (.ref f36)))
    (l36:K.lookup f36=some ⟨oc36,od36,.func (W.fnOf "law" "law" (Zx Q1) (Zu Q1) (Zi Q1) .none kV36 dc36 pm36 an36 cd36 ct36),sl36⟩)
    (c36:W.codeIn K cd36 "law"=true)
    (k36:W.keepIn K (.ref f36)=true)
    (xei_NoSign:L2.excI K Ya f13=true)
    (xob_NoSign:W.mroIn K Ya (.type "object")=some true)
    (xbx_NoSign:W.mroIn K Ya (.type "BaseException")=some true)
    (xsa_NoSign:W.findIn K (.ref Ya) "__setattr__"=some (some (.builtin "object.__setattr__")))
    (xga_NoSign:W.findIn K (.ref Ya) "__getattribute__"=some (some (.builtin "BaseException.__getattribute__")))
    (xgt_NoSign:W.findIn K (.ref Ya) "__getattr__"=some none)
    (xdd_NoSign:W.hasDictIn K Ya=true)
    (xkp_NoSign:W.keepIn K (.ref Ya)=true)
    (xfn_NoSign:W.typeIn K (.ref f13)=some (.type "function"))
    (xcc_NoSign:W.findIn K (.ref Ya) "__class__"=some (some (.builtin "object.__class__")))
    (xcg_NoSign:W.specialIn K (.builtin "object.__class__") "__get__"=some (some (.builtin "getset_descriptor.__get__")))
    (xct_NoSign:W.takesIn K (.builtin "object.__class__")=some true)
    (xna_at_NoSign:W.findIn K (.ref Ya) "at"=some none)
    (xei_NoName:L2.excI K Zs f14=true)
    (xob_NoName:W.mroIn K Zs (.type "object")=some true)
    (xbx_NoName:W.mroIn K Zs (.type "BaseException")=some true)
    (xsa_NoName:W.findIn K (.ref Zs) "__setattr__"=some (some (.builtin "object.__setattr__")))
    (xga_NoName:W.findIn K (.ref Zs) "__getattribute__"=some (some (.builtin "BaseException.__getattribute__")))
    (xgt_NoName:W.findIn K (.ref Zs) "__getattr__"=some none)
    (xdd_NoName:W.hasDictIn K Zs=true)
    (xkp_NoName:W.keepIn K (.ref Zs)=true)
    (xfn_NoName:W.typeIn K (.ref f14)=some (.type "function"))
    (xcc_NoName:W.findIn K (.ref Zs) "__class__"=some (some (.builtin "object.__class__")))
    (xcg_NoName:W.specialIn K (.builtin "object.__class__") "__get__"=some (some (.builtin "getset_descriptor.__get__")))
    (xct_NoName:W.takesIn K (.builtin "object.__class__")=some true)
    (xna_name_NoName:W.findIn K (.ref Zs) "name"=some none)
    (xei_Taken:L2.excI K Yx f15=true)
    (xob_Taken:W.mroIn K Yx (.type "object")=some true)
    (xbx_Taken:W.mroIn K Yx (.type "BaseException")=some true)
    (xsa_Taken:W.findIn K (.ref Yx) "__setattr__"=some (some (.builtin "object.__setattr__")))
    (xga_Taken:W.findIn K (.ref Yx) "__getattribute__"=some (some (.builtin "BaseException.__getattribute__")))
    (xgt_Taken:W.findIn K (.ref Yx) "__getattr__"=some none)
    (xdd_Taken:W.hasDictIn K Yx=true)
    (xkp_Taken:W.keepIn K (.ref Yx)=true)
    (xfn_Taken:W.typeIn K (.ref f15)=some (.type "function"))
    (xcc_Taken:W.findIn K (.ref Yx) "__class__"=some (some (.builtin "object.__class__")))
    (xcg_Taken:W.specialIn K (.builtin "object.__class__") "__get__"=some (some (.builtin "getset_descriptor.__get__")))
    (xct_Taken:W.takesIn K (.builtin "object.__class__")=some true)
    (xna_name_Taken:W.findIn K (.ref Yx) "name"=some none)
    (xty_NoName:W.typeIn K (.ref Zs)=some (.type "type"))
    (xbb_NoName:W.mroIn K Zs (.type "BaseException")=some true)
    (mnn:W.mroIn K Zs (.ref Zs)=some true)
    (o1_Family:W.plainGet K Zc Str.empty=true)
    (o2_Family:W.hasDictIn K Zc=true)
    (o3_Family:W.plainOver K Zc=true)
    (o4_Family:W.findIn K (.ref Zc) "__setattr__"=some (some (.builtin "object.__setattr__")))
    (o5_Family:W.makesIn K Zc=true)
    (o6_Family:W.keepIn K (.ref Zc)=true)
    (na_codes_by_name_Family:W.findIn K (.ref Zc) "codes_by_name"=some none)
    (na_marks_by_name_Family:W.findIn K (.ref Zc) "marks_by_name"=some none)
    (hd:W.codeHdIn K c Pt=true)
    (q1:W.plainGet K C Str.empty=true)
    (q2:W.hasDictIn K C=true)
    (q3:W.plainOver K C=true)
    (q4:W.findIn K (.ref C) "__setattr__"=some (some (.builtin "object.__setattr__")))
    (q5:W.makesIn K C=true)
    (q6:W.keepIn K (.ref C)=true)
    (y_pairs:W.findIn K (.ref C) "pairs"=some none)
    (y_words_by_sign:W.findIn K (.ref C) "words_by_sign"=some none)
    (y_signs_by_word:W.findIn K (.ref C) "signs_by_word"=some none)
    (y_begun:W.findIn K (.ref C) "begun"=some none)
    (y_word_sizes:W.findIn K (.ref C) "word_sizes"=some none)
    (z_len:W.nsIn K mainGlobals "len"=some none)
    (z_abs:W.nsIn K mainGlobals "abs"=some none)
    (z_max:W.nsIn K mainGlobals "max"=some none)
    (z_min:W.nsIn K mainGlobals "min"=some none)
    (z_isinstance:W.nsIn K mainGlobals "isinstance"=some none)
    (z_all:W.nsIn K mainGlobals "all"=some none)
    (z_any:W.nsIn K mainGlobals "any"=some none)
    (z_range:W.nsIn K mainGlobals "range"=some none)
    (z_int:W.nsIn K mainGlobals "int"=some none)
    (z_str:W.nsIn K mainGlobals "str"=some none)
    (z_bool:W.nsIn K mainGlobals "bool"=some none)
    (z_tuple:W.nsIn K mainGlobals "tuple"=some none)
    (z_list:W.nsIn K mainGlobals "list"=some none)
    (z_dict:W.nsIn K mainGlobals "dict"=some none)
    (z_sorted:W.nsIn K mainGlobals "sorted"=some none)
    (z_enumerate:W.nsIn K mainGlobals "enumerate"=some none)
    (z_ValueError:W.nsIn K mainGlobals "ValueError"=some none)
   :∃ fd:FuncData,(∃ c,W.codeHdIn K c Pt=true)/\(∀ (s:Shared) (v:Value),BindsTo s fd ⟨[v],[]⟩ [("_law_script",v)])/\∀ base:Heap,K.In base->base.Ns mainGlobals mg->Bm mg base->FnOk l.prog w K mg base CX0 9 fa fd ["_law_script"] (spLaw K Pt):=by
  have e:=hfa.symm.trans (W.mg_of X G a36)
  cases e
  have T:Txt mg:=⟨W.mg_none_of X G z_len,W.mg_none_of X G z_abs,W.mg_none_of X G z_max,W.mg_none_of X G z_min,W.mg_none_of X G z_isinstance,W.mg_none_of X G z_all,W.mg_none_of X G z_any,W.mg_none_of X G z_range,W.mg_none_of X G z_int,W.mg_none_of X G z_str,W.mg_none_of X G z_bool,W.mg_none_of X G z_tuple,W.mg_none_of X G z_list,W.mg_none_of X G z_dict,W.mg_none_of X G z_sorted,W.mg_none_of X G z_enumerate,W.mg_none_of X G z_ValueError⟩
  have cl:Cls K C:=⟨q1,q2,q3,q4⟩
  have CT:CodeT K C:=⟨cl,y_pairs,y_words_by_sign,y_signs_by_word,y_begun,y_word_sizes⟩
  have F0:=Yb (st:=s__law_draw) l0 c0 k0
  have b0:=F0.binds (ps:=["_law_hand", "_law_many"]) fun _ _ _ _ _ _=>len2 fun _ _=>rfl
  have F1:=Yb (st:=s__law_open) l1 c1 k1
  have b1:=F1.binds (ps:=["_law_script", "_law_place"]) fun _ _ _ _ _ _=>len2 fun _ _=>rfl
  have F2:=Yb (st:=s__law_bytes) l2 c2 k2
  have b2:=F2.binds (ps:=["_law_hand", "_law_most"]) fun _ _ _ _ _ _=>len2 fun _ _=>rfl
  have F3:=Yb (st:=s__law_words) l3 c3 k3
  have b3:=F3.binds (ps:=["_law_hand", "_law_some", "_law_most", "_law_longest"]) fun _ _ _ _ _ _=>len4 fun _ _ _ _=>rfl
  have F4:=Yb (st:=s__law_signs) l4 c4 k4
  have b4:=F4.binds (ps:=["_law_hand", "_law_many"]) fun _ _ _ _ _ _=>len2 fun _ _=>rfl
  have F5:=Yb (st:=s__law_table) l5 c5 k5
  have b5:=F5.binds (ps:=["_law_hand", "_law_words_here", "_law_signs_here"]) fun _ _ _ _ _ _=>len3 fun _ _ _=>rfl
  have F6:=Yb (st:=s__law_text) l6 c6 k6
  have b6:=F6.binds (ps:=["_law_hand", "_law_signs_here", "_law_most"]) fun _ _ _ _ _ _=>len3 fun _ _ _=>rfl
  have F7:=Yb (st:=Y5) l7 c7 k7
  have b7:=F7.binds (ps:=["one", "other"]) fun _ _ _ _ _ _=>len2 fun _ _=>rfl
  have F8:=Yb (st:=To) l8 c8 k8
  have b8:=F8.binds (ps:=["table"]) fun _ _ _ _ _ _=>len1 fun _=>rfl
  have F9:=Yb (st:=Y4) l9 c9 k9
  have b9:=F9.binds (ps:=["table"]) fun _ _ _ _ _ _=>len1 fun _=>rfl
  have F10:=Yb (st:=Xu) l10 c10 k10
  have b10:=F10.binds (ps:=["words"]) fun _ _ _ _ _ _=>len1 fun _=>rfl
  have F11:=Yb (st:=Z0) l11 c11 k11
  have b11:=F11.binds (ps:=["self", "table"]) fun _ _ _ _ _ _=>len2 fun _ _=>rfl
  have F12:=Yb (st:=X9) l12 c12 k12
  have b12:=F12.binds (ps:=["self", "sign"]) fun _ _ _ _ _ _=>len2 fun _ _=>rfl
  have F13:=Yb (st:=Yj) l13 c13 k13
  have b13:=F13.binds (ps:=["self", "at"]) fun _ _ _ _ _ _=>len2 fun _ _=>rfl
  have F14:=Yb (st:=Yk) l14 c14 k14
  have b14:=F14.binds (ps:=["self", "name"]) fun _ _ _ _ _ _=>len2 fun _ _=>rfl
  have F15:=Yb (st:=Ys) l15 c15 k15
  have b15:=F15.binds (ps:=["self", "name"]) fun _ _ _ _ _ _=>len2 fun _ _=>rfl
  have F16:=Yb (st:=Tk) l16 c16 k16
  have b16:=F16.binds (ps:=["code", "text"]) fun _ _ _ _ _ _=>len2 fun _ _=>rfl
  have F17:=Yb (st:=Xt) l17 c17 k17
  have b17:=F17.binds (ps:=["mark", "row"]) fun _ _ _ _ _ _=>len2 fun _ _=>rfl
  have F18:=Yb (st:=Ym) l18 c18 k18
  have b18:=F18.binds (ps:=["self"]) fun _ _ _ _ _ _=>len1 fun _=>rfl
  have F19:=Yb (st:=Xv) l19 c19 k19
  have b19:=F19.binds (ps:=["self", "name", "code", "mark"]) fun _ _ _ _ _ _=>len4 fun _ _ _ _=>rfl
  have F20:=Yb (st:=Y6) l20 c20 k20
  have b20:=F20.binds (ps:=["self"]) fun _ _ _ _ _ _=>len1 fun _=>rfl
  have F21:=Yb (st:=Xh) l21 c21 k21
  have b21:=F21.binds (ps:=["self", "name"]) fun _ _ _ _ _ _=>len2 fun _ _=>rfl
  have F22:=Yb (st:=Xg) l22 c22 k22
  have b22:=F22.binds (ps:=["self", "name"]) fun _ _ _ _ _ _=>len2 fun _ _=>rfl
  have F23:=Yb (st:=Yw) l23 c23 k23
  have b23:=F23.binds (ps:=["self", "name", "text"]) fun _ _ _ _ _ _=>len3 fun _ _ _=>rfl
  have F24:=Yb (st:=Yt) l24 c24 k24
  have b24:=F24.binds (ps:=["self", "row"]) fun _ _ _ _ _ _=>len2 fun _ _=>rfl
  have F25:=Yb (st:=Yl) l25 c25 k25
  have b25:=F25.binds (ps:=["self", "name", "text"]) fun _ _ _ _ _ _=>len3 fun _ _ _=>rfl
  have F26:=Yb (st:=Yv) l26 c26 k26
  have b26:=F26.binds (ps:=["self", "name"]) fun _ _ _ _ _ _=>len2 fun _ _=>rfl
  have F27:=Yb (st:=s__law_names) l27 c27 k27
  have b27:=F27.binds (ps:=["_law_hand", "_law_many"]) fun _ _ _ _ _ _=>len2 fun _ _=>rfl
  have F28:=Yb (st:=s__law_mark) l28 c28 k28
  have b28:=F28.binds (ps:=["_law_hand", "_law_some", "_law_marks"]) fun _ _ _ _ _ _=>len3 fun _ _ _=>rfl
  have F29:=Yb (st:=s__law_specs) l29 c29 k29
  have b29:=F29.binds (ps:=["_law_script", "_law_most"]) fun _ _ _ _ _ _=>len2 fun _ _=>rfl
  have F30:=Yb (st:=s__law_written) l30 c30 k30
  have b30:=F30.binds (ps:=["_law_table_here", "_law_text_here"]) fun _ _ _ _ _ _=>len2 fun _ _=>rfl
  have F31:=Yb (st:=s__law_by_mark) l31 c31 k31
  have b31:=F31.binds (ps:=["_law_specs_here", "_law_row"]) fun _ _ _ _ _ _=>len2 fun _ _=>rfl
  have F32:=Yb (st:=s__law_texts) l32 c32 k32
  have b32:=F32.binds (ps:=["_law_specs_here", "_law_at", "_law_hand"]) fun _ _ _ _ _ _=>len3 fun _ _ _=>rfl
  have F33:=Yb (st:=s__law_asked) l33 c33 k33
  have b33:=F33.binds (ps:=["_law_family", "_law_specs_here", "_law_at", "_law_text_here"]) fun _ _ _ _ _ _=>len4 fun _ _ _ _=>rfl
  have F34:=Yb (st:=s__law_not_yet) l34 c34 k34
  have b34:=F34.binds (ps:=["_law_family", "_law_name"]) fun _ _ _ _ _ _=>len2 fun _ _=>rfl
  have F35:=Yb (st:=s__law_growing) l35 c35 k35
  have b35:=F35.binds (ps:=["_law_specs_here", "_law_hand"]) fun _ _ _ _ _ _=>len2 fun _ _=>rfl
  have F36:=Yb (st:=Q1) l36 c36 k36
  refine ⟨W.fnOf "law" "law" (Zx Q1) (Zu Q1) (Zi Q1) .none kV36 dc36 pm36 an36 cd36 ct36,⟨c,hd⟩,fun s v=>.of_eq rfl,fun base kb _ hBm=>?_⟩
  have hCd:=W.codeHd_of_K kb hd
  have Ziv:=W.mg_of X G gx_NoSign
  have Zc2:=W.mg_of X G gx_NoName
  have Zmh:=W.mg_of X G gx_Taken
  have Zmi:=W.mg_of X G gx_SkewError
  have Ziw:=W.mg_of X G gx_Family
  have P4:XCl K Ya _:=⟨xei_NoSign,xob_NoSign,xbx_NoSign,xsa_NoSign,xga_NoSign,xgt_NoSign,xdd_NoSign,xkp_NoSign,xfn_NoSign,xcc_NoSign,xcg_NoSign,xct_NoSign⟩
  have P5:XCl K Zs _:=⟨xei_NoName,xob_NoName,xbx_NoName,xsa_NoName,xga_NoName,xgt_NoName,xdd_NoName,xkp_NoName,xfn_NoName,xcc_NoName,xcg_NoName,xct_NoName⟩
  have Zby:XCl K Yx _:=⟨xei_Taken,xob_Taken,xbx_Taken,xsa_Taken,xga_Taken,xgt_Taken,xdd_Taken,xkp_Taken,xfn_Taken,xcc_Taken,xcg_Taken,xct_Taken⟩
  have Ry:Cau K mg "NoName" Zs:=⟨Zc2,xty_NoName,xbb_NoName⟩
  have cl_Family:Cls K Zc:=⟨o1_Family,o2_Family,o3_Family,o4_Family⟩
  have Zk:=Xo (P:=l.prog) (w:=w) (base:=base) F0 (ok__law_draw T  F0) (W.mg_of X G a0) b0
  have D__law_draw:=L3.Cal.imp Zk fun _ _ _ _ h=>L3.Zpp (C:=⟨C,K⟩) h
  have Xf:=Xo (P:=l.prog) (w:=w) (base:=base) F1 (ok__law_open T  F1) (W.mg_of X G a1) b1
  have D__law_open:=L3.Cal.imp Xf fun _ _ _ _ h=>L3.Zpo (C:=⟨C,K⟩) h
  have Ug:=Xo (P:=l.prog) (w:=w) (base:=base) F2 (ok__law_bytes T Zk F2) (W.mg_of X G a2) b2
  have D__law_bytes:=L3.Cal.imp Ug fun _ _ _ _ h=>L3.Zmd (C:=⟨C,K⟩) h
  have Ub:=Xo (P:=l.prog) (w:=w) (base:=base) F3 (ok__law_words T Zk F3) (W.mg_of X G a3) b3
  have D__law_words:=L3.Cal.imp Ub fun _ _ _ _ h=>L3.Zit (C:=⟨C,K⟩) h
  have Ue:=Xo (P:=l.prog) (w:=w) (base:=base) F4 (ok__law_signs T Zk F4) (W.mg_of X G a4) b4
  have D__law_signs:=L3.Cal.imp Ue fun _ _ _ _ h=>L3.Zmc (C:=⟨C,K⟩) h
  have Uc:=Xo (P:=l.prog) (w:=w) (base:=base) F5 (ok__law_table T Zk F5) (W.mg_of X G a5) b5
  have D__law_table:=L3.Cal.imp Uc fun _ _ _ _ h=>L3.Zmb (C:=⟨C,K⟩) h
  have Vm:=Xo (P:=l.prog) (w:=w) (base:=base) F6 (ok__law_text T Zk F6) (W.mg_of X G a6) b6
  have D__law_text:=L3.Cal.imp Vm fun _ _ _ _ h=>L3.Zpn (C:=⟨C,K⟩) h
  have W2:=Xo (P:=l.prog) (w:=w) (base:=base) F7 (ok_odds_between T  F7) (W.mg_of X G a7) b7
  have Zbw:=Xo (P:=l.prog) (w:=w) (base:=base) F8 (ok_fault T W2 F8) (W.mg_of X G a8) b8
  have W1:=Xo (P:=l.prog) (w:=w) (base:=base) F9 (ok_refuse_fault T Zbw F9) (W.mg_of X G a9) b9
  have Ua:=Xo (P:=l.prog) (w:=w) (base:=base) F10 (ok_beginnings T  F10) (W.mg_of X G a10) b10
  have Zg7:Mkr l.prog w K mg base "Code" C 4 _ _:=⟨f11,_,⟨q5,a11,n11,q6⟩,ok_Code___init__ T CT hCd hBm W1 Ua l11 c11,W.mg_of X G aC,b11⟩
  have Zc1:Met l.prog w K mg base C "word" 1 _ _:=⟨f12,_,cl,⟨a12,n12,k12⟩,ok_Code_word T CT  F12,b12⟩
  have D_word:=L3.Met.imp Zc1 fun _ _ _ _ h=>L3.Zpm (C:=⟨C,K⟩) h
  have Ru:Rx l.prog w K mg base "NoSign" Ya 1 _ _:=⟨f13,_,P4,ok_NoSign___init__ T P4 xna_at_NoSign F13,Ziv,b13⟩
  have Vb:Rx l.prog w K mg base "NoName" Zs 1 _ _:=⟨f14,_,P5,ok_NoName___init__ T P5 xna_name_NoName F14,Zc2,b14⟩
  have Py:Rx l.prog w K mg base "Taken" Yx 1 _ _:=⟨f15,_,Zby,ok_Taken___init__ T Zby xna_name_Taken F15,Zmh,b15⟩
  have Zbv:=Zl1 (P:=l.prog) (w:=w) (base:=base) F16 (ok_write T Zc1 Ru F16) (W.mg_of X G a16) b16
  have D_write:=L3.CalE.imp Zbv fun _ _ _ _ h=>L3.Zis (Cn:=Ya) (C:=⟨C,K⟩) h
  have V9:=Xo (P:=l.prog) (w:=w) (base:=base) F17 (ok_begins_row (C:=C) T  F17) (W.mg_of X G a17) b17
  have P2:Mkr l.prog w K mg base "Family" Zc 1 _ _:=⟨f18,_,⟨o5_Family,a18,n18,o6_Family⟩,ok_Family___init__ T (C:=C) cl_Family na_codes_by_name_Family na_marks_by_name_Family  F18,Ziw,b18⟩
  have Zmg:MetE l.prog w K mg base Zc "add" 3 _ _:=⟨f19,_,cl_Family,⟨a19,n19,k19⟩,ok_Family_add T (C:=C) cl_Family na_codes_by_name_Family na_marks_by_name_Family Py F19,b19⟩
  have Zq8:Met l.prog w K mg base Zc "names" 1 _ _:=⟨f20,_,cl_Family,⟨a20,n20,k20⟩,ok_Family_names T (C:=C) cl_Family na_codes_by_name_Family na_marks_by_name_Family  F20,b20⟩
  have Zg6:MetE l.prog w K mg base Zc "code" 3 _ _:=⟨f21,_,cl_Family,⟨a21,n21,k21⟩,ok_Family_code T (C:=C) cl_Family na_codes_by_name_Family na_marks_by_name_Family Vb F21,b21⟩
  have Us:MetE l.prog w K mg base Zc "mark" 3 _ _:=⟨f22,_,cl_Family,⟨a22,n22,k22⟩,ok_Family_mark T (C:=C) cl_Family na_codes_by_name_Family na_marks_by_name_Family Vb F22,b22⟩
  have Um:MetE l.prog w K mg base Zc "marked" 4 _ _:=⟨f23,_,cl_Family,⟨a23,n23,k23⟩,ok_Family_marked T (C:=C) cl_Family na_codes_by_name_Family na_marks_by_name_Family Zg6 Us D_write F23,b23⟩
  have Rv:Met l.prog w K mg base Zc "by_mark" 4 _ _:=⟨f24,_,cl_Family,⟨a24,n24,k24⟩,ok_Family_by_mark T (C:=C) cl_Family na_codes_by_name_Family na_marks_by_name_Family (L3.MetE.calm3 Us) V9 F24,b24⟩
  have Wc:MetE l.prog w K mg base Zc "mistaken" 5 _ _:=⟨f25,_,cl_Family,⟨a25,n25,k25⟩,ok_Family_mistaken T (C:=C) cl_Family na_codes_by_name_Family na_marks_by_name_Family Rv Um F25,b25⟩
  have P1:MetE l.prog w K mg base Zc "misled" 4 _ _:=⟨f26,_,cl_Family,⟨a26,n26,k26⟩,ok_Family_misled T (C:=C) cl_Family na_codes_by_name_Family na_marks_by_name_Family Us F26,b26⟩
  have Uf:=Xo (P:=l.prog) (w:=w) (base:=base) F27 (ok__law_names (C:=C) T D__law_draw F27) (W.mg_of X G a27) b27
  have U4:=Xo (P:=l.prog) (w:=w) (base:=base) F28 (ok__law_mark (C:=C) T D__law_draw F28) (W.mg_of X G a28) b28
  have Ud:=Xo (P:=l.prog) (w:=w) (base:=base) F29 (ok__law_specs (C:=C) T D__law_open D__law_draw D__law_bytes D__law_words D__law_signs D__law_table Uf U4 F29) (W.mg_of X G a29) b29
  have W3:=Xo (P:=l.prog) (w:=w) (base:=base) F30 (ok__law_written (C:=C) T  F30) (W.mg_of X G a30) b30
  have W6:=Xo (P:=l.prog) (w:=w) (base:=base) F31 (ok__law_by_mark (C:=C) T  F31) (W.mg_of X G a31) b31
  have Xx:=Xo (P:=l.prog) (w:=w) (base:=base) F32 (ok__law_texts (C:=C) T D__law_draw D__law_text F32) (W.mg_of X G a32) b32
  have Xy:=Xo (P:=l.prog) (w:=w) (base:=base) F33 (ok__law_asked (C:=C) T W3 W6 (L3.MetE.calm3 Wc) F33) (W.mg_of X G a33) b33
  have W4:=Xo (P:=l.prog) (w:=w) (base:=base) F34 (ok__law_not_yet (C:=C) T Ry mnn Um Wc P1 F34) (W.mg_of X G a34) b34
  have W5:=Xo (P:=l.prog) (w:=w) (base:=base) F35 (ok__law_growing (C:=C) T Zg7 D__law_draw P2 (L3.MetE.calm3 Zmg) W4 Xx Xy F35) (W.mg_of X G a35) b35
  exact (ok_law T D__law_open D__law_draw Ud W5 Xx Xy F36).imp fun _ _ _ _ h=>L3.Zla (C:=⟨C,K⟩) h
theorem walk {l:W.OpenLaw} {q:Program} {loose:List Str} {XP:(Str->Option Value)->Heap->Prop} {YP:World->Heap->Prop} {d:DefRec} {K:Params->W.Frag} {Pt:Addr} (hn:l.most=some 63) (hdf:d.params.defaults=[])
  (hY:∀ (w:World) (h:Heap),YP w h->(K w.params).In h) (hYt:∀ (w:World) (h:Heap),YP w h->h.get? Pt=some (W.tabObj #[])) (hPK:∀ w:World,(K w.params).lookup Pt=none)
  (F:∀ (w:World) (mg:Str->Option Value) (fa:Addr) (h:Heap),(K w.params).In h->h.Ns mainGlobals mg->mg d.name=some (.ref fa) ->
   ∃ fd:FuncData,(∃ c,W.codeHdIn (K w.params) c Pt=true)/\(∀ (s:Shared) (u:Value),BindsTo s fd ⟨[u],[]⟩ [("_law_script",u)])/\∀ base:Heap,(K w.params).In base->base.Ns mainGlobals mg->Bm mg base->FnOk l.prog w (K w.params) mg base CX0 9 fa fd ["_law_script"] (spLaw (K w.params) Pt)) :
  W.WalkO q loose XP YP l.row.toRowW d [] (fun f vs=>PySem.call f vs) :=
 L2.Zg9 (n:=63) (k:=9) (x:="_law_script") (CX:=fun _=>CX0) (sp:=fun w=>spLaw (K w.params) Pt) hn (by decide) hdf ⟨rfl,by decide,by decide⟩ hY hYt hPK F (fun _ _ a ns hl hO hS=>⟨a,ns,rfl,hS,hl,hO.tab _ _,fun _=>rfl⟩) fun _ _ _ _ _ z=>z
end K45
def PySem.W.Fast.tw14831900056837044928:Nat:=0
def PySem.W.Fast.tw341003528125989132:Nat:=0
def PySem.W.Fast.tw9219924019649063011:Nat:=0
def PySem.W.Fast.tw16448145556359071399:Nat:=0
def PySem.W.Fast.tw1615919182100774132:Nat:=0
def PySem.W.Fast.tw9696236010050549903:Nat:=0
def PySem.W.Fast.tw17556354038909802187:Nat:=0
def PySem.W.Fast.tw15207545922171395242:Nat:=0
def PySem.W.Fast.tw6256245145433330933:Nat:=0
def PySem.W.Fast.tw34444800007643304:Nat:=0
def PySem.W.Fast.tw16207161268070414300:Nat:=0
def PySem.W.Fast.tw681766221731820013:Nat:=0
def PySem.W.Fast.tw5098429336885298706:Nat:=0
def PySem.W.Fast.tw9261712550213375859:Nat:=0
def PySem.W.Fast.tw3405598540802204569:Nat:=0
def PySem.W.Fast.tw460584936696201134:Nat:=0
def PySem.W.Fast.tw7777235587653580701:Nat:=0
def PySem.W.Fast.tw5184845720133927047:Nat:=0
def PySem.W.Fast.tw9204905050609760625:Nat:=0
def PySem.W.Fast.tw12537190193730629266:Nat:=0
def PySem.W.Fast.tw10613821611546760921:Nat:=0
def PySem.W.Fast.tw7675816880359967783:Nat:=0
def PySem.W.Fast.tw12785459718187395137:Nat:=0
def PySem.W.Fast.tw13553422442429090675:Nat:=0
def PySem.W.Fast.tw11884239936279660191:Nat:=0
def PySem.W.Fast.tw8109300967486558084:Nat:=0
def PySem.W.Fast.tw4175076415562873528:Nat:=0
def PySem.W.Fast.tw6561264529925044009:Nat:=0
def PySem.W.Fast.tw8442294753422555962:Nat:=0
def PySem.W.Fast.tw10512218867536438046:Nat:=0
def PySem.W.Fast.tw16191785974158070465:Nat:=0
def PySem.W.Fast.tw16081726542922283459:Nat:=0
def PySem.W.Fast.tw10584971356811933793:Nat:=0
def PySem.W.Fast.tw17867839111089822142:Nat:=0
def PySem.W.Fast.tw8013201554553386961:Nat:=0
def PySem.W.Fast.tw12030448219342672170:Nat:=0
def PySem.W.Fast.tw482564342842876882:Nat:=0
def PySem.W.Fast.tw5405560060608627124:Nat:=0
def PySem.W.Fast.tw12899635736323475516:Nat:=0
def PySem.W.Fast.tw15134633238295235798:Nat:=0
def PySem.W.Fast.tw9416152443229989089:Nat:=0
def PySem.W.Fast.tw16592757986682715774:Nat:=0
def PySem.W.Fast.tw17064464139636271281:Nat:=0
def PySem.W.Fast.tw9250126202566929536:Nat:=0
def PySem.W.Fast.tw15796556690917609131:Nat:=0
def PySem.W.Fast.tw16337827500316915320:Nat:=0
def PySem.W.Fast.tw4411512074173395030:Nat:=0
def PySem.W.Fast.tw4463368366492068668:Nat:=0
def PySem.W.Fast.tw7949943208084353300:Nat:=0
def PySem.W.Fast.tw5988530140953691592:Nat:=0
def PySem.W.Fast.tw8443183904660631583:Nat:=0
def PySem.W.Fast.tw14457909462100760329:Nat:=0
def PySem.W.Fast.tw7943213197995569856:Nat:=0
def PySem.W.Fast.tw17376037696649197235:Nat:=0
def PySem.W.Fast.tw8771069473825650019:Nat:=0
def PySem.W.Fast.tw9491383496376422460:Nat:=0
def PySem.W.Fast.tw2717270314368221363:Nat:=0
def PySem.W.Fast.tw62307842490501434:Nat:=0
def PySem.W.Fast.tw5993408526064359090:Nat:=0
def PySem.W.Fast.tw1810967628946186734:Nat:=0
def PySem.W.Fast.tw5718173013678452582:Nat:=0
def PySem.W.Fast.tw16101171207219687152:Nat:=0
def PySem.W.Fast.tw15398775755882853808:Nat:=0
def PySem.W.Fast.tw4684841325709866830:Nat:=0
def PySem.W.Fast.tw15373322890104999987:Nat:=0
def PySem.W.Fast.tw7196952006835472218:Nat:=0
def PySem.W.Fast.tw16067204515338113161:Nat:=0
open PySem PySem.W PyProof.Rows
set_option maxRecDepth 100000 in
set_option maxHeartbeats 0 in
theorem PySem.Challenge.cw_skewread_k45_mistaken_holds : PySem.Challenge.rw_skewread_k45_mistaken.Holds := by
  w_on; o_law; k_head; (case hw=>w_witness2)
  k_fill
  refine K45.walk (l:=PySem.Challenge.rw_skewread_k45_mistaken) rfl rfl (fun w h Y=>PySem.W.km_in_of Y) (fun w h Y=>PySem.W.km_tabs_of Y _ (by k_mem)) ?hpk ?F
  case hpk=>exact fun w=>by kernel_rfl
  case F =>
    intro w mg fa h KX G hmg
    refine' K45.all_mk KX G hmg ?aC ?gx_NoSign ?gx_NoName ?gx_Taken ?gx_SkewError ?gx_Family ?a0 ?l0 ?c0 ?k0 ?a1 ?l1 ?c1 ?k1 ?a2 ?l2 ?c2 ?k2 ?a3 ?l3 ?c3 ?k3 ?a4 ?l4 ?c4 ?k4 ?a5 ?l5 ?c5 ?k5 ?a6 ?l6 ?c6 ?k6 ?a7 ?l7 ?c7 ?k7 ?a8 ?l8 ?c8 ?k8 ?a9 ?l9 ?c9 ?k9 ?a10 ?l10 ?c10 ?k10 ?a11 ?l11 ?c11 ?k11 ?n11 ?a12 ?l12 ?c12 ?k12 ?n12 ?a13 ?l13 ?c13 ?k13 ?n13 ?a14 ?l14 ?c14 ?k14 ?n14 ?a15 ?l15 ?c15 ?k15 ?n15 ?a16 ?l16 ?c16 ?k16 ?a17 ?l17 ?c17 ?k17 ?a18 ?l18 ?c18 ?k18 ?n18 ?a19 ?l19 ?c19 ?k19 ?n19 ?a20 ?l20 ?c20 ?k20 ?n20 ?a21 ?l21 ?c21 ?k21 ?n21 ?a22 ?l22 ?c22 ?k22 ?n22 ?a23 ?l23 ?c23 ?k23 ?n23 ?a24 ?l24 ?c24 ?k24 ?n24 ?a25 ?l25 ?c25 ?k25 ?n25 ?a26 ?l26 ?c26 ?k26 ?n26 ?a27 ?l27 ?c27 ?k27 ?a28 ?l28 ?c28 ?k28 ?a29 ?l29 ?c29 ?k29 ?a30 ?l30 ?c30 ?k30 ?a31 ?l31 ?c31 ?k31 ?a32 ?l32 ?c32 ?k32 ?a33 ?l33 ?c33 ?k33 ?a34 ?l34 ?c34 ?k34 ?a35 ?l35 ?c35 ?k35 ?a36 ?l36 ?c36 ?k36 ?xei_NoSign ?xob_NoSign ?xbx_NoSign ?xsa_NoSign ?xga_NoSign ?xgt_NoSign ?xdd_NoSign ?xkp_NoSign ?xfn_NoSign ?xcc_NoSign ?xcg_NoSign ?xct_NoSign ?xna_at_NoSign ?xei_NoName ?xob_NoName ?xbx_NoName ?xsa_NoName ?xga_NoName ?xgt_NoName ?xdd_NoName ?xkp_NoName ?xfn_NoName ?xcc_NoName ?xcg_NoName ?xct_NoName ?xna_name_NoName ?xei_Taken ?xob_Taken ?xbx_Taken ?xsa_Taken ?xga_Taken ?xgt_Taken ?xdd_Taken ?xkp_Taken ?xfn_Taken ?xcc_Taken ?xcg_Taken ?xct_Taken ?xna_name_Taken ?xty_NoName ?xbb_NoName ?mnn ?o1_Family ?o2_Family ?o3_Family ?o4_Family ?o5_Family ?o6_Family ?na_codes_by_name_Family ?na_marks_by_name_Family ?hd ?q1 ?q2 ?q3 ?q4 ?q5 ?q6 ?y_pairs ?y_words_by_sign ?y_signs_by_word ?y_begun ?y_word_sizes ?z_len ?z_abs ?z_max ?z_min ?z_isinstance ?z_all ?z_any ?z_range ?z_int ?z_str ?z_bool ?z_tuple ?z_list ?z_dict ?z_sorted ?z_enumerate ?z_ValueError
    (case aC=>k_is); (case gx_NoSign=>k_is); (case gx_NoName=>k_is); (case gx_Taken=>k_is); (case gx_SkewError=>k_is); (case gx_Family=>k_is)
    (case a0=>k_is); (case l0=>k_is); (case c0=>k_is); (case k0=>k_is); (case a1=>k_is); (case l1=>k_is)
    (case c1=>k_is); (case k1=>k_is); (case a2=>k_is); (case l2=>k_is); (case c2=>k_is); (case k2=>k_is)
    (case a3=>k_is); (case l3=>k_is); (case c3=>k_is); (case k3=>k_is); (case a4=>k_is); (case l4=>k_is)
    (case c4=>k_is); (case k4=>k_is); (case a5=>k_is); (case l5=>k_is); (case c5=>k_is); (case k5=>k_is)
    (case a6=>k_is); (case l6=>k_is); (case c6=>k_is); (case k6=>k_is); (case a7=>k_is); (case l7=>k_is)
    (case c7=>k_is); (case k7=>k_is); (case a8=>k_is); (case l8=>k_is); (case c8=>k_is); (case k8=>k_is)
    (case a9=>k_is); (case l9=>k_is); (case c9=>k_is); (case k9=>k_is); (case a10=>k_is); (case l10=>k_is)
    (case c10=>k_is); (case k10=>k_is); (case a11=>k_is); (case l11=>k_is); (case c11=>k_is); (case k11=>k_is)
    (case n11=>k_is); (case a12=>k_is); (case l12=>k_is); (case c12=>k_is); (case k12=>k_is); (case n12=>k_is)
    (case a13=>k_is); (case l13=>k_is); (case c13=>k_is); (case k13=>k_is); (case n13=>k_is); (case a14=>k_is)
    (case l14=>k_is); (case c14=>k_is); (case k14=>k_is); (case n14=>k_is); (case a15=>k_is); (case l15=>k_is)
    (case c15=>k_is); (case k15=>k_is); (case n15=>k_is); (case a16=>k_is); (case l16=>k_is); (case c16=>k_is)
    (case k16=>k_is); (case a17=>k_is); (case l17=>k_is); (case c17=>k_is); (case k17=>k_is); (case a18=>k_is)
    (case l18=>k_is); (case c18=>k_is); (case k18=>k_is); (case n18=>k_is); (case a19=>k_is); (case l19=>k_is)
    (case c19=>k_is); (case k19=>k_is); (case n19=>k_is); (case a20=>k_is); (case l20=>k_is); (case c20=>k_is)
    (case k20=>k_is); (case n20=>k_is); (case a21=>k_is); (case l21=>k_is); (case c21=>k_is); (case k21=>k_is)
    (case n21=>k_is); (case a22=>k_is); (case l22=>k_is); (case c22=>k_is); (case k22=>k_is); (case n22=>k_is)
    (case a23=>k_is); (case l23=>k_is); (case c23=>k_is); (case k23=>k_is); (case n23=>k_is); (case a24=>k_is)
    (case l24=>k_is); (case c24=>k_is); (case k24=>k_is); (case n24=>k_is); (case a25=>k_is); (case l25=>k_is)
    (case c25=>k_is); (case k25=>k_is); (case n25=>k_is); (case a26=>k_is); (case l26=>k_is); (case c26=>k_is)
    (case k26=>k_is); (case n26=>k_is); (case a27=>k_is); (case l27=>k_is); (case c27=>k_is); (case k27=>k_is)
    (case a28=>k_is); (case l28=>k_is); (case c28=>k_is); (case k28=>k_is); (case a29=>k_is); (case l29=>k_is)
    (case c29=>k_is); (case k29=>k_is); (case a30=>k_is); (case l30=>k_is); (case c30=>k_is); (case k30=>k_is)
    (case a31=>k_is); (case l31=>k_is); (case c31=>k_is); (case k31=>k_is); (case a32=>k_is); (case l32=>k_is)
    (case c32=>k_is); (case k32=>k_is); (case a33=>k_is); (case l33=>k_is); (case c33=>k_is); (case k33=>k_is)
    (case a34=>k_is); (case l34=>k_is); (case c34=>k_is); (case k34=>k_is); (case a35=>k_is); (case l35=>k_is)
    (case c35=>k_is); (case k35=>k_is); (case a36=>k_is); (case l36=>k_is); (case c36=>k_is); (case k36=>k_is)
    (case xei_NoSign=>first | k_is | kernel_rfl); (case xob_NoSign=>first | k_is | kernel_rfl); (case xbx_NoSign=>first | k_is | kernel_rfl); (case xsa_NoSign=>first | k_is | kernel_rfl); (case xga_NoSign=>first | k_is | kernel_rfl); (case xgt_NoSign=>first | k_is | kernel_rfl)
    (case xdd_NoSign=>first | k_is | kernel_rfl); (case xkp_NoSign=>first | k_is | kernel_rfl); (case xfn_NoSign=>first | k_is | kernel_rfl); (case xcc_NoSign=>first | k_is | kernel_rfl); (case xcg_NoSign=>first | k_is | kernel_rfl); (case xct_NoSign=>first | k_is | kernel_rfl)
    (case xna_at_NoSign=>first | k_is | kernel_rfl); (case xei_NoName=>first | k_is | kernel_rfl); (case xob_NoName=>first | k_is | kernel_rfl); (case xbx_NoName=>first | k_is | kernel_rfl); (case xsa_NoName=>first | k_is | kernel_rfl); (case xga_NoName=>first | k_is | kernel_rfl)
    (case xgt_NoName=>first | k_is | kernel_rfl); (case xdd_NoName=>first | k_is | kernel_rfl); (case xkp_NoName=>first | k_is | kernel_rfl); (case xfn_NoName=>first | k_is | kernel_rfl); (case xcc_NoName=>first | k_is | kernel_rfl); (case xcg_NoName=>first | k_is | kernel_rfl)
    (case xct_NoName=>first | k_is | kernel_rfl); (case xna_name_NoName=>first | k_is | kernel_rfl); (case xei_Taken=>first | k_is | kernel_rfl); (case xob_Taken=>first | k_is | kernel_rfl); (case xbx_Taken=>first | k_is | kernel_rfl); (case xsa_Taken=>first | k_is | kernel_rfl)
    (case xga_Taken=>first | k_is | kernel_rfl); (case xgt_Taken=>first | k_is | kernel_rfl); (case xdd_Taken=>first | k_is | kernel_rfl); (case xkp_Taken=>first | k_is | kernel_rfl); (case xfn_Taken=>first | k_is | kernel_rfl); (case xcc_Taken=>first | k_is | kernel_rfl)
    (case xcg_Taken=>first | k_is | kernel_rfl); (case xct_Taken=>first | k_is | kernel_rfl); (case xna_name_Taken=>first | k_is | kernel_rfl); (case xty_NoName=>first | k_is | kernel_rfl); (case xbb_NoName=>first | k_is | kernel_rfl); (case mnn=>first | k_is | kernel_rfl)
    (case o1_Family=>k_is); (case o2_Family=>k_is); (case o3_Family=>k_is); (case o4_Family=>k_is); (case o5_Family=>k_is); (case o6_Family=>k_is)
    (case na_codes_by_name_Family=>k_is); (case na_marks_by_name_Family=>k_is); (case hd=>kernel_rfl); (case q1=>k_is); (case q2=>k_is); (case q3=>k_is)
    (case q4=>k_is); (case q5=>k_is); (case q6=>k_is); (case y_pairs=>k_is); (case y_words_by_sign=>k_is); (case y_signs_by_word=>k_is)
    (case y_begun=>k_is); (case y_word_sizes=>k_is); (case z_len=>k_is); (case z_abs=>k_is); (case z_max=>k_is); (case z_min=>k_is)
    (case z_isinstance=>k_is); (case z_all=>k_is); (case z_any=>k_is); (case z_range=>k_is); (case z_int=>k_is); (case z_str=>k_is)
    (case z_bool=>k_is); (case z_tuple=>k_is); (case z_list=>k_is); (case z_dict=>k_is); (case z_sorted=>k_is); (case z_enumerate=>k_is)
    (case z_ValueError=>k_is)
#print axioms PySem.Challenge.cw_skewread_k45_mistaken_holds