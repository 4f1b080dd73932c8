import PyProof.Rows.All
import Wide.All
import OpenK.AllK
import Wide.FinOn
import Lean
import PyProof.EqAt
import PyProof.EqKinds
import PyProof.TupleCall
import KE.KDictSum
import KE.KRevIter
import KE.KStateDown
import PyProof.Rows.Range3
import PyProof.Draws
import PyProof.EnumMake
import PyProof.EnumStmt
import PyProof.StrWalks
import PyProof.Rows.LoopPairPat
import PyProof.Rows.EnumRows
import PyProof.SliceStr2
import PyProof.ListStr
import PySem.Challenge.RW_letterform_k08_whole_single_or_twofold
set_option Elab.async false
set_option linter.all false
set_option maxRecDepth 100000
set_option maxHeartbeats 4000000
local macro_rules | `(tactic| omega)=>`(tactic| lia)
namespace L2
open PySem PySem.Spec PyProof.Rows
abbrev Key:=Sum Int Str
def jdx:Key->Value->Bool
 | .inl k,v=>Value.isInt k v
 | .inr x,v=>Value.isStrOf x v
def keyH (w:World):Key->Int
 | .inl k=>hashInt k
 | .inr x=>hashStr w x
theorem jaP:∀ {k:Key} {v:Value},jdx k v=true->(∃ i t,k=Sum.inl i/\v=Value.int i t)\/(∃ x t,k=Sum.inr x/\v=Value.str x t)
 | .inl i,v,h=>by
  obtain ⟨t,e⟩:=Value.isInt_shape (k:=i) (v:=v) h
  exact .inl ⟨i,t,rfl,e⟩
 | .inr x,v,h=>by
  obtain ⟨t,e⟩:=Value.isStrOf_shape (x:=x) (v:=v) h
  exact .inr ⟨x,t,rfl,e⟩
theorem jiW (i:Int) (t:Tok):jdx (.inl i) (.int i t)=true:=by simp [jdx,Value.isInt]
theorem jiX (x:Str) (t:Tok):jdx (.inr x) (.str x t)=true:=by simp [jdx,Value.isStrOf]
theorem jop (a b:Int):decide ((Sum.inl a:Key)=Sum.inl b)=(a==b):=by
 by_cases e:a=b
 ·subst e; simp
 ·have h:¬ (Sum.inl a:Key)=Sum.inl b:=fun q=>e (Sum.inl.inj q)
  rw [decide_eq_false h]
  exact (beq_eq_false_iff_ne.mpr e).symm
theorem joq (a b:Str):decide ((Sum.inr a:Key)=Sum.inr b)=decide (a=b):=by
 by_cases e:a=b
 ·subst e; simp
 ·have h:¬ (Sum.inr a:Key)=Sum.inr b:=fun q=>e (Sum.inr.inj q)
  rw [decide_eq_false h,decide_eq_false e]
theorem jor (a:Int) (b:Str):decide ((Sum.inl a:Key)=Sum.inr b)=false:=decide_eq_false (fun q=>nomatch q)
theorem jos (a:Str) (b:Int):decide ((Sum.inr a:Key)=Sum.inl b)=false:=decide_eq_false (fun q=>nomatch q)
def jaD (prog:Program) (w:World):PySem.KeyKind prog w Key where
 is:=jdx
 hash:=keyH w
 inj:=fun v a b ha hb=>by
  rcases jaP ha with ⟨i,t,rfl,rfl⟩ | ⟨x,t,rfl,rfl⟩
  ·rcases jaP hb with ⟨j,u,rfl,e⟩ | ⟨y,u,rfl,e⟩
   ·injection e with e1 _; rw [e1]
   ·exact nomatch e
  ·rcases jaP hb with ⟨j,u,rfl,e⟩ | ⟨y,u,rfl,e⟩
   ·exact nomatch e
   ·injection e with e1 _; rw [e1]
 byValue:=fun k v h=>by
  rcases jaP h with ⟨i,t,rfl,rfl⟩ | ⟨x,t,rfl,rfl⟩ <;> rfl
 pyHash:=fun hv h=>by
  rcases jaP hv with ⟨i,t,rfl,rfl⟩ | ⟨x,t,rfl,rfl⟩
  ·exact wpAny_pyHash_int h
  ·exact wpAny_pyHash_str h
 eqBool:=fun hu hv h=>by
  rcases jaP hu with ⟨i,t,rfl,rfl⟩ | ⟨x,t,rfl,rfl⟩
  ·rcases jaP hv with ⟨j,u,rfl,rfl⟩ | ⟨y,u,rfl,rfl⟩
   ·rw [jop] at h; exact wpAny_eqBool_int h
   ·rw [jor] at h; exact SeqAt.EqAt.int_str i t y u _ _ _ _ h
  ·rcases jaP hv with ⟨j,u,rfl,rfl⟩ | ⟨y,u,rfl,rfl⟩
   ·rw [jos] at h; exact SeqAt.EqAt.str_int x t j u _ _ _ _ h
   ·rw [joq] at h; exact wpAny_eqBool_str h
 «strs»:=fun k x t v h=>by
  rcases jaP h with ⟨i,u,rfl,e⟩ | ⟨y,u,rfl,e⟩
  ·exact nomatch e
  ·injection e with e1 _
   subst e1
   cases v <;> rfl
theorem jgJ (prog:Program) (w:World) (i:Int) (t:Tok):(jaD prog w).is (.inl i) (.int i t)=true:=jiW i t
theorem jgK (prog:Program) (w:World) (x:Str) (t:Tok):(jaD prog w).is (.inr x) (.str x t)=true:=jiX x t
inductive V where
 | non | bl (b:Bool) | int (i:Int) | str (x:Str) | byt (b:Array UInt8) | flt (b:UInt64) | ref (a:Addr) | ty (n:String)
 deriving DecidableEq
def RelV:V->Value->Prop
 | .non,u=>u=Value.none
 | .bl b,u=>u=Value.bool b
 | .int i,u=>∃ t,u=Value.int i t
 | .str x,u=>∃ t,u=Value.str x t
 | .byt b,u=>∃ t,u=Value.bytes b t
 | .flt b,u=>∃ t,u=Value.float b t
 | .ref a,u=>u=Value.ref a
 | .ty n,u=>u=Value.type n
abbrev Vals:List V->List Value->Prop:=Paired RelV
theorem Vals.length {xs:List V} {us:List Value} (r:Vals xs us):xs.length=us.length:=Paired.length r
theorem Vals.get:∀ {xs:List V} {us:List Value} {i:Nat} {x:V},Vals xs us->xs[i]?=some x->∃ u,us[i]?=some u/\RelV x u
 | _,_,_,_,.nil,e=>by simp at e
 | _,_,0,_,.cons r _,e=>by simp at e; subst e; exact ⟨_,rfl,r⟩
 | _,_,i+1,x,.cons _ t,e=>by
  obtain ⟨u,h1,h2⟩:=Vals.get (i:=i) (x:=x) t (by simpa using e)
  exact ⟨u,by simpa using h1,h2⟩
theorem Vals.append:∀ {xs ys:List V} {us ws:List Value},Vals xs us->Vals ys ws->Vals (xs++ys) (us++ws)
 | _,_,_,_,.nil,s=>s
 | _,_,_,_,.cons r t,s=>.cons r (Vals.append t s)
theorem Vals.take:∀ {xs:List V} {us:List Value} (n:Nat),Vals xs us->Vals (xs.take n) (us.take n)
 | _,_,0,_=>.nil
 | _,_,_+1,.nil=>.nil
 | _,_,n+1,.cons r t=>.cons r (Vals.take n t)
theorem Vals.drop:∀ {xs:List V} {us:List Value} (n:Nat),Vals xs us->Vals (xs.drop n) (us.drop n)
 | _,_,0,r=>r
 | _,_,_+1,.nil=>.nil
 | _,_,n+1,.cons _ t=>Vals.drop n t
def RelO:Option V->Option Value->Prop
 | some v,some u=>RelV v u
 | none,none=>True
 | _,_=>False
def KV {κ:Type}:List (κ×V)->List (κ×Value)->Prop:=Paired fun (p:κ×V) (q:κ×Value)=>p.1=q.1/\RelV p.2 q.2
def kV:Key->V
 | .inl i=>.int i
 | .inr x=>.str x
inductive HO where
  | lst (xs:List V)
  | tup (xs:List V)
  | dK (kvs:List (Key×V)) | dT (kvs:List (List Key×V))
  | set (S:Int->Bool) (n:Nat)
  | ins (C dx:Addr) (fs:List (Str×V))
  | own (x:Addr)
  | xd (fs:List (Str×V))
  | met (f x:Addr)
  | rng (lo hi:Int)
  | frz (o:Obj) (u:HO)
  | tbl (ps:Array Value)
  | ext (φ:Heap->Prop)
abbrev Hp:=Addr->Option HO
def upd (H:Hp) (a:Addr) (o:HO):Hp:=fun b=>if b=a then some o else H b
theorem jac {H:Hp} {a:Addr} {o:HO}:upd H a o a=some o:=by unfold upd; rw [if_pos rfl]
theorem jao {H:Hp} {a b:Addr} {o:HO} (h:b≠a):upd H a o b=H b:=by unfold upd; rw [if_neg h]
theorem jbw {H:Hp} {a b:Addr} {o u:HO} (h:H a=some o) (h':H b=some u) (d:o≠u):a≠b:=by
 intro e; subst e; rw [h] at h'; exact d (Option.some.inj h')
theorem ne_of_none {H:Hp} {a b:Addr} {o:HO} (h:H a=some o) (h':H b=none):a≠b:=by
 intro e; subst e; rw [h] at h'; cases h'
section
variable (P:Program) (w:World)
def ObjOk (H:Hp) (h:Heap) (a:Addr):HO->Prop
 | .lst xs=>xs.length<=sizeLine/\∃ (its:List Value) (n:Nat),Vals xs its/\h.get? a=some {cls:=.type "list",data:=.seq its.toArray n}
 | .tup xs=>xs.length<=sizeLine/\∃ its:List Value,Vals xs its/\IsTup h a its.toArray
 | .dK kvs=>kvs.length<=sizeLine/\(a==sysModules)=false/\∃ vs,KV kvs vs/\h.DictOf (jaD P w) a vs
 | .dT kvs=>kvs.length<=sizeLine/\(a==sysModules)=false/\∃ xs:List (List Key×Addr×Value),
   Paired (fun (p:List Key×V) (q:List Key×Addr×Value)=>p.1=q.1/\H q.2.1=some (.tup (p.1.map kV))/\RelV p.2 q.2.2) kvs xs /\
   ∃ o es ep,h.get? a=some o/\o.ExactDict/\o.data=.dict es ep/\es.toList=xs.map (entryOfKey (tupleKind (jaD P w)))/\(xs.map (·.1)).Nodup
 | .set S n=>h.SetOf (intKind P w) a S n
 | .ins C dx fs=>H dx=some (.own a)/\fs.length<=1000/\dx≠a/\h.get? a=some (PySem.W.instObj C dx) /\
   ∃ mA,h.Ns1 dx mA/\(∀ f,RelO (fs.lookup f) (mA f))/\PySem.Within mA (fs.map (·.1))
 | .own _=>∃ o,h.get? a=some o
 | .xd fs=>∃ mA,h.Ns1 a mA/\∀ f,RelO (fs.lookup f) (mA f)
 | .rng lo hi=>∃ t u v,h.get? a=some {cls:=.type "range",data:=.fields #[.int lo t,.int hi u,.int 1 v]}
 | .frz o u=>h.get? a=some o/\ObjOk H h a u
 | .tbl ps=>h.get? a=some {cls:=.none,data:=.fields ps}
 | .met f x=>h.get? a=some (PySem.W.methodObj (.ref f) (.ref x))
 | .ext φ=>φ h/\(∃ o,h.get? a=some o)/\∀ h1 h2:Heap,φ h1->(∀ o,h1.get? a=some o->h2.get? a=some o)->φ h2
def HOk (H:Hp) (h:Heap):Prop:=∀ a o,H a=some o->ObjOk P w H h a o
end
section
variable {P:Program} {w:World} {H H':Hp} {h h':Heap} {a:Addr} {o:HO}
theorem ObjOk.lt (x:ObjOk P w H h a o):a < h.objs.size:=by
 cases o with
 | lst xs=>obtain ⟨_,_,_,_,e⟩:=x; exact Heap.lt_size e
 | tup xs=>obtain ⟨_,_,_,p⟩:=x; exact p.lt
 | dK kvs=>obtain ⟨_,_,_,_,o,_,_,e,_⟩:=x; exact Heap.lt_size e
 | dT kvs=>obtain ⟨_,_,_,_,o,_,_,e,_⟩:=x; exact Heap.lt_size e
 | set S n=>obtain ⟨o,_,_,_,e,_⟩:=x; exact Heap.lt_size e
 | ins C dx fs=>obtain ⟨_,_,_,e,_⟩:=x; exact Heap.lt_size e
 | own y=>obtain ⟨_,e⟩:=x; exact Heap.lt_size e
 | xd fs=>obtain ⟨_,⟨_,_,_,e,_⟩,_⟩:=x; exact Heap.lt_size e
 | rng lo hi=>obtain ⟨_,_,_,e⟩:=x; exact Heap.lt_size e
 | frz ob u=>obtain ⟨e,_⟩:=x; exact Heap.lt_size e
 | tbl ps=>exact Heap.lt_size (show h.get? a=some _ from x)
 | met f y=>exact Heap.lt_size (show h.get? a=some _ from x)
 | ext φ=>obtain ⟨_,⟨_,e⟩,_⟩:=x; exact Heap.lt_size e
theorem Paired.mapP {α β:Type} {F G:α->β->Prop}:∀ {l₁:List α} {l₂:List β},Paired F l₁ l₂->(∀ a b,F a b->G a b)->Paired G l₁ l₂
 | _,_,.nil,_=>.nil
 | _,_,.cons r t,f=>.cons (f _ _ r) (Paired.mapP t f)
theorem ObjOk.stay (x:ObjOk P w H h a o) (k:∀ b u,(b=a\/H b=some (.own a))->h.get? b=some u->h'.get? b=some u)
  (ho:∀ b,H b=some (.own a)->H' b=some (.own a)) (ht:∀ b xs,H b=some (.tup xs)->H' b=some (.tup xs)):ObjOk P w H' h' a o:=by
 induction o with
 | lst xs=>obtain ⟨z,its,n,r,e⟩:=x; exact ⟨z,its,n,r,k _ _ (.inl rfl) e⟩
 | tup xs=>obtain ⟨z,its,r,ob,e,c⟩:=x; exact ⟨z,its,r,ob,k _ _ (.inl rfl) e,c⟩
 | dK kvs=>obtain ⟨z,y,vs,r,ob,es,ep,e,c⟩:=x; exact ⟨z,y,vs,r,ob,es,ep,k _ _ (.inl rfl) e,c⟩
 | dT kvs =>
  obtain ⟨z,y,xs,r,ob,es,ep,e,c⟩:=x
  exact ⟨z,y,xs,Paired.mapP r fun p q z=>⟨z.1,ht _ _ z.2.1,z.2.2⟩,ob,es,ep,k _ _ (.inl rfl) e,c⟩
 | set S n=>obtain ⟨ob,es,ep,t,e,c⟩:=x; exact ⟨ob,es,ep,t,k _ _ (.inl rfl) e,c⟩
 | ins C dx fs =>
  obtain ⟨d,z,ne,e,mA,⟨od,es,ep,e2,c⟩,r⟩:=x
  exact ⟨ho _ d,z,ne,k _ _ (.inl rfl) e,mA,⟨od,es,ep,k _ _ (.inr d) e2,c⟩,r⟩
 | own y=>obtain ⟨ob,e⟩:=x; exact ⟨ob,k _ _ (.inl rfl) e⟩
 | xd fs=>obtain ⟨mA,⟨od,es,ep,e,c⟩,r⟩:=x; exact ⟨mA,⟨od,es,ep,k _ _ (.inl rfl) e,c⟩,r⟩
 | rng lo hi=>obtain ⟨t,u,v,e⟩:=x; exact ⟨t,u,v,k _ _ (.inl rfl) e⟩
 | frz ob u ih=>obtain ⟨e,q⟩:=x; exact ⟨k _ _ (.inl rfl) e,ih q⟩
 | tbl ps =>
  have e:h.get? a=some {cls:=.none,data:=.fields ps}:=x
  show h'.get? a=some {cls:=.none,data:=.fields ps}
  exact k a _ (.inl rfl) e
 | met f y =>
  have e:h.get? a=some (PySem.W.methodObj (.ref f) (.ref y)):=x
  show h'.get? a=some (PySem.W.methodObj (.ref f) (.ref y))
  exact k a _ (.inl rfl) e
 | ext φ=>obtain ⟨p,⟨o,e⟩,st⟩:=x; exact ⟨st _ _ p fun o q=>k _ _ (.inl rfl) q,⟨o,k _ _ (.inl rfl) e⟩,st⟩
theorem HOk.lt (x:HOk P w H h) (e:H a=some o):a < h.objs.size:=(x a o e).lt
theorem HOk.fresh (x:HOk P w H h) (e:h.objs.size<=a):H a=none:=by
 cases q:H a with
 | none=>rfl
 | some u=>exact absurd (Nat.lt_of_lt_of_le (x.lt q) e) (Nat.lt_irrefl _)
theorem HOk.kept (x:HOk P w H h) (k:∀ b u,h.get? b=some u->h'.get? b=some u):HOk P w H h':=fun a o e =>
 (x a o e).stay (fun b u _ q=>k b u q) (fun _ q=>q) fun _ _ q=>q
theorem HOk.laid (x:HOk P w H h) (k:∀ b u,h.get? b=some u->h'.get? b=some u) (hp:h.objs.size<=a) (new:ObjOk P w (upd H a o) h' a o):HOk P w (upd H a o) h':=fun b u e=>by
 have hn:=x.fresh hp
 by_cases hb:b=a
 ·subst hb; rw [jac] at e; cases e; exact new
 ·rw [jao hb] at e
  exact (x b u e).stay (fun c v _ q=>k c v q) (fun c q=>by rw [jao (ne_of_none q hn)]; exact q) fun c xs q=>by rw [jao (ne_of_none q hn)]; exact q
end
def Rd (H:Hp) (a:Addr) (u:HO):Prop:=H a=some u\/∃ o,H a=some (.frz o u)
theorem Rd.ok {P:Program} {w:World} {H:Hp} {h:Heap} {a:Addr} {u:HO} (r:Rd H a u) (x:HOk P w H h):ObjOk P w H h a u:=by
 rcases r with r | ⟨o,r⟩
 ·exact x a u r
 ·obtain ⟨_,q⟩:=x a _ r
  exact q
def Mut:Option HO->Prop
 | some (.lst _)=>True
 | some (.dK _)=>True
 | some (.dT _)=>True
 | some (.set _ _)=>True
 | some (.ins _ _ _)=>True
 | some (.ext _)=>True
 | _=>False
section
variable {P:Program} {w:World} {H:Hp} {h h':Heap} {x e:Addr} {o':HO}
theorem HOk.write (ok:HOk P w H h) (mu:Mut (H x)) (he:e=x\/H e=some (.own x)) (k:∀ b u,b≠e->h.get? b=some u->h'.get? b=some u) (heo:∃ u,h'.get? e=some u)
  (new:ObjOk P w (upd H x o') h' x o'):HOk P w (upd H x o') h':=fun b u q=>by
 have nown:∀ c y,H c=some (.own y)->c≠x:=fun c y r z=>by subst z; rw [r] at mu; exact mu
 have ntup:∀ c xs,H c=some (.tup xs)->c≠x:=fun c xs r z=>by subst z; rw [r] at mu; exact mu
 by_cases hb:b=x
 ·subst hb; rw [jac] at q; cases q; exact new
 ·rw [jao hb] at q
  by_cases hbe:b=e
  ·have q':H b=some (.own x):=by
    rcases he with z | z
    ·exact absurd (hbe.trans z) hb
    ·rw [hbe]; exact z
   rw [q] at q'; cases q'
   obtain ⟨v,hv⟩:=heo
   exact ⟨v,by rw [hbe]; exact hv⟩
  ·refine (ok b u q).stay (fun c v hc r=>k c v ?_ r) (fun c r=>by rw [jao (nown c b r)]; exact r) fun c xs r=>by rw [jao (ntup c xs r)]; exact r
   rcases hc with rfl | hc
   ·exact hbe
   ·rintro rfl
    rcases he with z | z
    ·exact nown c b hc z
    ·rw [hc] at z; cases z; exact hb rfl
end
structure Un (fs ex:List Addr) (H H':Hp) (h h':Heap):Prop where
 keep:∀ b o,h.get? b=some o->H b=none->b∉fs->b∉ex->h'.get? b=some o
 slot:∀ b o,h.get? b=some o->H b=none->b∈fs->b∉ex->∃ sl,h'.get? b=some {o with slots:=sl}
 free:∀ b o,h.get? b=some o->H b=none->b∉ex->H' b=none
 there:∀ b o,h.get? b=some o->b∉ex->∃ o',h'.get? b=some o'
 tups:∀ b xs,H b=some (.tup xs)->H' b=some (.tup xs)
 frzs:∀ b o u,H b=some (.frz o u)->H' b=some (.frz o u)
 tbls:∀ b ps,H b=some (.tbl ps)->∃ more,H' b=some (.tbl (ps++more))
section
variable {fs fs' ex ex':List Addr} {H H1 H2:Hp} {h h1 h2 h':Heap} {a x e:Addr} {o:HO}
theorem Un.any (u:Un fs ex H H1 h h1) {b:Addr} {ob:Obj} (q:h.get? b=some ob) (n:H b=none) (hx:b∉ex):∃ sl,h1.get? b=some {ob with slots:=sl}:=by
 by_cases hb:b∈fs
 ·exact u.slot b ob q n hb hx
 ·exact ⟨ob.slots,u.keep b ob q n hb hx⟩
theorem Un.kept (k:∀ b u,h.get? b=some u->h'.get? b=some u):Un fs ex H H h h' :=
 ⟨fun b ob q _ _ _=>k b ob q,fun b ob q _ _ _=>⟨ob.slots,k b ob q⟩,fun _ _ _ n _=>n,fun b ob q _=>⟨ob,k b ob q⟩,fun _ _ q=>q,fun _ _ _ q=>q,fun _ ps q=>⟨#[],by rw [q]; simp⟩⟩
theorem Un.refl:Un fs ex H H h h:=Un.kept fun _ _ q=>q
theorem Un.laid (k:∀ b u,h.get? b=some u->h'.get? b=some u) (hp:h.objs.size<=a) (hn:H a=none):Un fs ex H (upd H a o) h h' where
 keep:=fun b u q _ _ _=>k b u q
 slot:=fun b u q _ _ _=>⟨u.slots,k b u q⟩
 free:=fun b u q n _=>by rw [jao (Nat.ne_of_lt (Nat.lt_of_lt_of_le (Heap.lt_size q) hp))]; exact n
 there:=fun b u q _=>⟨u,k b u q⟩
 tups:=fun b xs q=>by rw [jao (ne_of_none q hn)]; exact q
 frzs:=fun b u xs q=>by rw [jao (ne_of_none q hn)]; exact q
 tbls:=fun b ps q=>⟨#[],by rw [jao (ne_of_none q hn),q]; simp⟩
theorem Un.write (mu:Mut (H x)) (he:e=x\/H e=some (.own x)) (k:∀ b u,b≠e->h.get? b=some u->h'.get? b=some u) (heo:∃ u,h'.get? e=some u):Un fs ex H (upd H x o) h h':=by
 have hx:∀ b,H b=none->b≠x:=fun b n z=>by subst z; rw [n] at mu; exact mu
 have hb:∀ b,H b=none->b≠e:=fun b n z=>by
  subst z
  rcases he with r | r
  ·exact hx b n r
  ·rw [n] at r; cases r
 have hm:∀ b u,H b=some u->¬ Mut (some u)->b≠x:=fun b u q nm z=>by subst z; rw [q] at mu; exact nm mu
 refine ⟨fun b u q n _ _=>k b u (hb b n) q,fun b u q n _ _=>⟨u.slots,k b u (hb b n) q⟩,fun b u q n _=>by rw [jao (hx b n)]; exact n,fun b u q _=>?_,
  fun b xs q=>by rw [jao (hm b _ q fun z=>z)]; exact q,fun b u xs q=>by rw [jao (hm b _ q fun z=>z)]; exact q,fun b ps q=>⟨#[],by rw [jao (hm b _ q fun z=>z),q]; simp⟩⟩
 by_cases hbe:b=e
 ·subst hbe; exact heo
 ·exact ⟨u,k b u hbe q⟩
end
def trk (h:Heap) (H:Hp):List Addr:=(List.range h.objs.size).filter fun a=>(H a).isSome
def jll (h:Heap) (H:Hp):Heap:=PySem.W.hideAll h (trk h H)
theorem jiY (h:Heap) (H:Hp):(jll h H).objs.size=h.objs.size:=PySem.W.hideAll_size _ _
theorem jlm {h:Heap} {H:Hp} {b:Addr} {o:Obj} (e:h.get? b=some o) (n:H b=none):(jll h H).get? b=some o :=
 PySem.W.hideAll_get _ e fun hm=>by
  have q:(H b).isSome=true:=(List.mem_filter.mp hm).2
  rw [n] at q; simp at q
theorem jnf {h:Heap} {H:Hp} {b:Addr} {o:Obj} (e:(jll h H).get? b=some o):h.get? b=some o/\H b=none:=by
 have e':h.get? b=some o:=PySem.W.of_hideAll (trk h H) e
 refine ⟨e',?_⟩
 cases q:H b with
 | none=>rfl
 | some x =>
  have hm:b∈trk h H:=List.mem_filter.mpr ⟨List.mem_range.mpr (Heap.lt_size e'),by simp [q]⟩
  have z:(jll h H).get? b=none:=PySem.W.hideAll_none (trk h H) hm
  rw [z] at e; cases e
structure Mod (K:PySem.W.Frag) (mg:Str->Option Value) (base:Heap):Prop where
 kin:K.In base
 glob:base.Ns mainGlobals mg
 blt:∃ mb,base.Ns builtinsNs mb/\∀ x:Str,x≠"__name__"->mb x=bootBuiltins x
 nolimit:base.NoLimit
structure Cx where
 prog:Program
 w:World
 K:PySem.W.Frag
 mg:Str->Option Value
 base:Heap
 A:Around
 N:List Str
 s₀:Shared
 H₀:Hp
 env:Env
 outer:List Env
 stack:List Env
 ex:List Addr
 fn:Str->Bool
 calm:Bool
 pn:List (Addr×Obj)
 xe:Value->Shared->Prop
def frs (l:List Env):List Addr:=l.filterMap (·.frame)
abbrev Cx.fs (X:Cx):List Addr:=frs X.outer
def Vis (sc:Scope) (x:Str):Prop:=sc.names.lookup x=some .local\/sc.names.lookup x=some .cell\/sc.names.lookup x=some .free
def Loc (sc:Scope) (x:Str):Prop:=sc.names.lookup x=some .local\/sc.names.lookup x=some .cell
def Look (env:Env) (h:Heap) (m:Str->Option Value) (x:Str) (u:Value):Prop :=
 (env.kindOf x=some .local/\m x=some u)\/((env.kindOf x=some .cell\/env.kindOf x=some .free)/\∃ c,env.cells.lookup x=some c/\h.IsCell c (some u))
structure Cx.Ok (X:Cx):Prop where
 mod:Mod X.K X.mg X.base
 kind:X.env.scope.kind=.function
 glob:X.env.globals=mainGlobals
 blt:X.env.builtins=builtinsNs
 above:X.s₀.heap.objs.size<=X.env.locals
 inj:∀ x y c,X.env.cells.lookup x=some c->X.env.cells.lookup y=some c->x=y
 has:∀ x,(X.env.kindOf x=some .cell\/X.env.kindOf x=some .free)->∃ c,X.env.cells.lookup x=some c
 cab:∀ x c,X.fn x=true->X.env.cells.lookup x=some c->X.s₀.heap.objs.size<=c
 hd:X.calm=true->X.A.handled=none
 frames:X.A.frames=some X.stack
 stk:X.stack=X.outer\/(X.stack=X.env::X.outer/\X.env.frame=some X.env.locals)
 exf:∀ b∈X.ex,b≠X.env.locals/\∀ x c,X.env.cells.lookup x=some c->c≠b
 bs:∀ b o,X.base.get? b=some o->X.s₀.heap.get? b=some o/\X.H₀ b=none
 bsz:X.base.objs.size<=X.s₀.heap.objs.size
 noex:∀ b o,X.base.get? b=some o->b∉X.ex
 exfs:∀ b∈X.ex,b∉X.fs
 funs:X.s₀.heap.FunFrames X.base X.outer
 frf:∀ b∈X.fs,X.H₀ b=none
structure Inv (X:Cx) (pins:List (Addr×Obj)) (σ:List (Option V)) (H:Hp) (s:Shared):Prop where
 ok:X.Ok
 os:s.os=X.s₀.os
 bare:AllBare s.gens
 base:Un X.fs X.ex X.H₀ H X.s₀.heap s.heap
 loc:∃ m,s.heap.Ns X.env.locals m/\∀ (i:Nat) (x:Str) (v:V),X.N[i]?=some x->σ[i]?=some (some v)->Vis X.env.scope x->∃ u,RelV v u/\Look X.env s.heap m x u
 cell:∀ x c,X.env.cells.lookup x=some c->∃ v,s.heap.IsCell c v
 free:H X.env.locals=none
 freeC:∀ x c,X.env.cells.lookup x=some c->H c=none
 pin:∀ p∈X.pn++pins,s.heap.get? p.1=some p.2/\H p.1=none/\p.1≠X.env.locals/\p.1∉X.fs/\∀ v,p.2.data≠.cell v
 hok:HOk X.prog X.w H s.heap
 len:σ.length=X.N.length
section
variable {X:Cx} {pins:List (Addr×Obj)} {σ:List (Option V)} {H H':Hp} {s:Shared} {h':Heap}
theorem Cx.Ok.nofr (ok:X.Ok) {b:Addr} {o:Obj} (e:X.base.get? b=some o):b∉X.fs:=fun hb=>by
 have:=(ok.funs.mem hb).1
 rw [e] at this; cases this
theorem Inv.bs (I:Inv X pins σ H s):∀ b o,X.base.get? b=some o->s.heap.get? b=some o/\H b=none:=fun b o e =>
 ⟨I.base.keep b o (I.ok.bs b o e).1 (I.ok.bs b o e).2 (I.ok.nofr e) (I.ok.noex b o e),I.base.free b o (I.ok.bs b o e).1 (I.ok.bs b o e).2 (I.ok.noex b o e)⟩
theorem Inv.bk (I:Inv X pins σ H s):∀ b o,X.base.get? b=some o->s.heap.get? b=some o:=fun b o e=>(I.bs b o e).1
theorem Inv.mod (I:Inv X pins σ H s):Mod X.K X.mg X.base:=I.ok.mod
theorem Inv.kIn (I:Inv X pins σ H s):X.K.In s.heap:=I.ok.mod.kin.keeps I.bk
theorem Inv.lt (I:Inv X pins σ H s):X.env.locals < s.heap.objs.size:=let ⟨_,hn,_⟩:=I.loc; hn.lt
theorem Inv.sz (I:Inv X pins σ H s):X.s₀.heap.objs.size<=s.heap.objs.size:=Nat.le_trans I.ok.above (Nat.le_of_lt I.lt)
theorem Inv.nofs (I:Inv X pins σ H s) {a:Addr} (h:s.heap.objs.size<=a):a∉X.fs:=fun hb=>by
 obtain ⟨_,o,ho,_⟩:=I.ok.funs.mem hb
 exact absurd (Nat.lt_of_lt_of_le (Heap.lt_size ho) (Nat.le_trans I.sz h)) (Nat.lt_irrefl _)
theorem Inv.cne (I:Inv X pins σ H s):∀ x c,X.env.cells.lookup x=some c->c≠X.env.locals:=fun x c e z=>by
 obtain ⟨v,o,ho,hd⟩:=I.cell x c e
 obtain ⟨m,⟨o',es,ep,ho',hd',_⟩,_⟩:=I.loc
 rw [z,ho'] at ho; cases ho; rw [hd'] at hd; cases hd
theorem Inv.funs (I:Inv X pins σ H s):s.heap.FunFrames X.base X.outer:=by
 have all:∀ (l:List Env),(∀ b∈frs l,b∈X.fs)->X.s₀.heap.FunFrames X.base l->s.heap.FunFrames X.base l:=by
  intro l
  induction l with
  | nil=>intro _ _; trivial
  | cons env r ih =>
   intro hs hl
   obtain ⟨hk,⟨L,o,hf,hn,ho,hd⟩,hr⟩:=hl
   have hL:L∈X.fs:=hs L (by unfold frs; rw [List.filterMap_cons,hf]; exact List.mem_cons_self)
   obtain ⟨sl,e⟩:=I.base.slot L o ho (I.ok.frf L hL) hL fun z=>I.ok.exfs L z hL
   exact ⟨hk,⟨L,_,hf,hn,e,hd⟩,ih (fun b hb=>hs b (by unfold frs; rw [List.filterMap_cons,hf]; exact List.mem_cons_of_mem _ hb)) hr⟩
 exact all X.outer (fun _ hb=>hb) I.ok.funs
theorem Inv.stack (I:Inv X pins σ H s):s.heap.FunFrames X.base X.stack:=by
 rcases I.ok.stk with e | ⟨e,hf⟩
 ·rw [e]; exact I.funs
 ·rw [e]
  obtain ⟨m,hn,_⟩:=I.loc
  refine .cons (by rw [I.ok.kind]; decide) hf hn ?_ I.funs
  exact Heap.get?_none_of_le (Nat.le_trans I.ok.bsz I.ok.above)
theorem Inv.stkSub (I:Inv X pins σ H s):∀ b∈frs X.stack,b∈X.env.locals::X.fs:=fun b hb=>by
 rcases I.ok.stk with e | ⟨e,hf⟩
 ·rw [e] at hb; exact List.mem_cons_of_mem _ hb
 ·rw [e] at hb
  unfold frs at hb
  rw [List.filterMap_cons,hf] at hb
  exact hb
theorem Inv.stkFree (I:Inv X pins σ H s):∀ b∈frs X.stack,H b=none:=fun b hb=>by
 rcases List.mem_cons.mp (I.stkSub b hb) with e | hb
 ·rw [e]; exact I.free
 ·obtain ⟨_,o,ho,_⟩:=I.ok.funs.mem hb
  exact I.base.free b o ho (I.ok.frf b hb) fun z=>I.ok.exfs b z hb
theorem Inv.step {g':Array GenState} {t':Nat} {d':Drawn} {ch:List Addr} (I:Inv X pins σ H s)
  (hch:∀ b∈ch,(b∈X.ex\/X.s₀.heap.objs.size<=b)/\b≠X.env.locals/\(∀ x c,X.env.cells.lookup x=some c->c≠b)/\∀ p∈X.pn++pins,p.1≠b)
  (keep:∀ b o,b≠X.env.locals->b∉X.fs->b∉ch->s.heap.get? b=some o->H b=none->h'.get? b=some o)
  (slot:∀ b o,b≠X.env.locals->b∈X.fs->b∉ch->s.heap.get? b=some o->H b=none->∃ sl,h'.get? b=some {o with slots:=sl}) (free:∀ b o,b∉ch->s.heap.get? b=some o->H b=none->H' b=none)
  (there:∀ b o,b∉ch->s.heap.get? b=some o->∃ o',h'.get? b=some o')
  (tups:∀ b xs,H b=some (.tup xs)->H' b=some (.tup xs)) (frzs:∀ b o u,H b=some (.frz o u)->H' b=some (.frz o u)) (tbls:∀ b ps,H b=some (.tbl ps)->∃ more,H' b=some (.tbl (ps++more)))
  (ns:∀ m,s.heap.Ns X.env.locals m->h'.Ns X.env.locals m) (hok:HOk X.prog X.w H' h') (hg:AllBare g') :
  Inv X pins σ H' {s with heap:=h',gens:=g',drawn:=d',toks:=t'}:=by
 have neL:∀ b o,X.s₀.heap.get? b=some o->b≠X.env.locals:=fun b o e=>Nat.ne_of_lt (Nat.lt_of_lt_of_le (Heap.lt_size e) I.ok.above)
 have neC:∀ b o,X.s₀.heap.get? b=some o->b∉X.ex->b∉ch:=fun b o e hx hb=>by
  rcases (hch b hb).1 with z | z
  ·exact hx z
  ·exact absurd (Nat.lt_of_lt_of_le (Heap.lt_size e) z) (Nat.lt_irrefl _)
 have cellK:∀ x c,X.env.cells.lookup x=some c->∀ v,s.heap.IsCell c v->h'.IsCell c v:=fun x c e v ⟨o,ho,hd⟩=>by
  have nch:c∉ch:=fun z=>(hch c z).2.2.1 x c e rfl
  by_cases hc:c∈X.fs
  ·obtain ⟨sl,q⟩:=slot c o (I.cne x c e) hc nch ho (I.freeC x c e)
   exact ⟨_,q,hd⟩
  ·exact ⟨o,keep c o (I.cne x c e) hc nch ho (I.freeC x c e),hd⟩
 refine ⟨I.ok,I.os,hg,⟨fun b o e n hb hx=>?_,fun b o e n hb hx=>?_,fun b o e n hx=>?_,fun b o e hx=>?_,fun b xs e=>tups b xs (I.base.tups b xs e),fun b o xs e=>frzs b o xs (I.base.frzs b o xs e),fun b ps e=>?_⟩,?_,fun x c e=>?_,?_,fun x c e=>?_,fun p hp=>?_,hok,I.len⟩
 ·exact keep b o (neL b o e) hb (neC b o e hx) (I.base.keep b o e n hb hx) (I.base.free b o e n hx)
 ·obtain ⟨sl,e1⟩:=I.base.slot b o e n hb hx
  obtain ⟨sl',e2⟩:=slot b _ (neL b o e) hb (neC b o e hx) e1 (I.base.free b o e n hx)
  exact ⟨sl',e2⟩
 ·obtain ⟨o',e1⟩:=I.base.there b o e hx
  exact free b o' (neC b o e hx) e1 (I.base.free b o e n hx)
 ·obtain ⟨o',e1⟩:=I.base.there b o e hx
  exact there b o' (neC b o e hx) e1
 ·obtain ⟨m1,e1⟩:=I.base.tbls b ps e
  obtain ⟨m2,e2⟩:=tbls b _ e1
  exact ⟨m1++m2,by rw [e2,Array.append_assoc]⟩
 ·obtain ⟨m,hn,hl⟩:=I.loc
  refine ⟨m,ns m hn,fun i x v e1 e2 e3=>?_⟩
  obtain ⟨u,r,l⟩:=hl i x v e1 e2 e3
  refine ⟨u,r,?_⟩
  rcases l with l | ⟨k,c,e,z⟩
  ·exact .inl l
  ·exact .inr ⟨k,c,e,cellK x c e _ z⟩
 ·obtain ⟨v,z⟩:=I.cell x c e
  exact ⟨v,cellK x c e v z⟩
 ·obtain ⟨m,⟨o,_,_,ho,_⟩,_⟩:=I.loc
  exact free _ o (fun z=>(hch _ z).2.1 rfl) ho I.free
 ·obtain ⟨v,o,ho,hd⟩:=I.cell x c e
  exact free c o (fun z=>(hch c z).2.2.1 x c e rfl) ho (I.freeC x c e)
 ·obtain ⟨e,n,ne,nf,d⟩:=I.pin p hp
  have nch:p.1∉ch:=fun z=>(hch p.1 z).2.2.2 p hp rfl
  exact ⟨keep p.1 p.2 ne nf nch e n,free p.1 p.2 nch e n,ne,nf,d⟩
theorem Inv.un {t':Nat} (I:Inv X pins σ H s) (u:Un X.fs [] H H' s.heap h') (hok:HOk X.prog X.w H' h'):Inv X pins σ H' {s with heap:=h',toks:=t'}:=by
 obtain ⟨m,⟨o,es,ep,ho,r⟩,_⟩:=id I.loc
 obtain ⟨sl,hL⟩:=u.any ho I.free (by simp)
 exact I.step (g':=s.gens) (d':=s.drawn) (ch:=[]) (fun _ z=>nomatch z) (fun b o _ hb _ e n=>u.keep b o e n hb (by simp)) (fun b o _ hb _ e n=>u.slot b o e n hb (by simp)) (fun b o _ e n=>u.free b o e n (by simp)) (fun b o _ e=>u.there b o e (by simp)) u.tups u.frzs u.tbls (fun m' hm=>by
  obtain ⟨o',es',ep',ho',r'⟩:=hm
  rw [ho] at ho'; cases ho'
  exact ⟨_,es',ep',hL,r'⟩) hok I.bare
theorem Inv.call {g':Array GenState} {t':Nat} {d':Drawn} {ch:List Addr} (I:Inv X pins σ H s) (u:Un (frs X.stack) ch H H' s.heap h') (hok:HOk X.prog X.w H' h') (hg:AllBare g')
  (hch:∀ b∈ch,(b∈X.ex\/X.s₀.heap.objs.size<=b)/\b≠X.env.locals/\(∀ x c,X.env.cells.lookup x=some c->c≠b)/\∀ p∈X.pn++pins,p.1≠b) :
  Inv X pins σ H' {s with heap:=h',gens:=g',drawn:=d',toks:=t'}:=by
 obtain ⟨m,⟨o,es,ep,ho,r⟩,_⟩:=id I.loc
 obtain ⟨sl,hL⟩:=u.any ho I.free fun z=>(hch _ z).2.1 rfl
 exact I.step (ch:=ch) hch (fun b o hL hb hc e n=>u.keep b o e n (fun z=>(List.mem_cons.mp (I.stkSub b z)).elim hL hb) hc) (fun b o _ _ hc e n=>u.any e n hc) (fun b o hc e n=>u.free b o e n hc) (fun b o hc e=>u.there b o e hc) u.tups u.frzs u.tbls (fun m' hm=>by
  obtain ⟨o',es',ep',ho',r'⟩:=hm
  rw [ho] at ho'; cases ho'
  exact ⟨_,es',ep',hL,r'⟩) hok hg
theorem Inv.turned {t':Nat} {it:Addr} (I:Inv X pins σ H s) (k:∀ b o,b≠it->s.heap.get? b=some o->h'.get? b=some o) (hn:H it=none) (hL:it≠X.env.locals)
  (h1:it∈X.ex\/X.s₀.heap.objs.size<=it) (h2:∀ x c,X.env.cells.lookup x=some c->c≠it) (h3:∀ p∈X.pn++pins,p.1≠it):Inv X pins σ H {s with heap:=h',toks:=t'}:=by
 have nit:∀ b u,H b=some u->b≠it:=fun b u e z=>by rw [z,hn] at e; cases e
 refine I.step (g':=s.gens) (d':=s.drawn) (ch:=[it]) (fun b hb=>?_) (fun b o _ _ hc e _=>k b o (fun z=>hc (by simp [z])) e) (fun b o _ _ hc e _=>⟨o.slots,k b o (fun z=>hc (by simp [z])) e⟩) (fun _ _ _ _ n=>n)
  (fun b o hc e=>⟨o,k b o (fun z=>hc (by simp [z])) e⟩) (fun _ _ e=>e) (fun _ _ _ e=>e) (fun b ps e=>⟨#[],by rw [e]; simp⟩) (fun m hm=>?_) (fun b u e=>?_) I.bare
 ·have e:b=it:=by simpa using hb
  subst e
  exact ⟨h1,hL,h2,h3⟩
 ·obtain ⟨o,es,ep,ho,r⟩:=hm
  exact ⟨o,es,ep,k _ o (Ne.symm hL) ho,r⟩
 ·refine (I.hok b u e).stay (fun c v hc q=>k c v ?_ q) (fun _ q=>q) fun _ _ q=>q
  rcases hc with z | z
  ·rw [z]; exact nit b u e
  ·exact nit c _ z
theorem Inv.tok (I:Inv X pins σ H s) (t:Nat):Inv X pins σ H {s with toks:=t}:=I.un (h':=s.heap) (t':=t) Un.refl I.hok
theorem Inv.kept {t':Nat} (I:Inv X pins σ H s) (k:∀ b u,s.heap.get? b=some u->h'.get? b=some u):Inv X pins σ H {s with heap:=h',toks:=t'}:=I.un (Un.kept k) (I.hok.kept k)
theorem Inv.laid {a:Addr} {o:HO} {t':Nat} (I:Inv X pins σ H s) (k:∀ b u,s.heap.get? b=some u->h'.get? b=some u) (hp:s.heap.objs.size<=a) (new:ObjOk X.prog X.w (upd H a o) h' a o) :
  Inv X pins σ (upd H a o) {s with heap:=h',toks:=t'}:=I.un (Un.laid k hp (I.hok.fresh hp)) (I.hok.laid k hp new)
theorem Inv.write {x e:Addr} {o:HO} {t':Nat} (I:Inv X pins σ H s) (mu:Mut (H x)) (he:e=x\/H e=some (.own x)) (k:∀ b u,b≠e->s.heap.get? b=some u->h'.get? b=some u) (heo:∃ u,h'.get? e=some u)
  (new:ObjOk X.prog X.w (upd H x o) h' x o):Inv X pins σ (upd H x o) {s with heap:=h',toks:=t'}:=I.un (Un.write mu he k heo) (I.hok.write mu he k heo new)
theorem Inv.pins_of {pins':List (Addr×Obj)} (I:Inv X pins σ H s) (h:∀ p∈pins',s.heap.get? p.1=some p.2/\H p.1=none/\p.1≠X.env.locals/\p.1∉X.fs/\∀ v,p.2.data≠.cell v):Inv X pins' σ H s :=
 ⟨I.ok,I.os,I.bare,I.base,I.loc,I.cell,I.free,I.freeC,fun p hp=>(List.mem_append.mp hp).elim (fun z=>I.pin p (List.mem_append_left _ z)) (h p),I.hok,I.len⟩
theorem nodup_ix {N:List Str} (hN:N.Nodup) {i j:Nat} {x:Str} (a:N[i]?=some x) (b:N[j]?=some x):i=j:=by
 obtain ⟨h1,e1⟩:=List.getElem?_eq_some_iff.mp a
 obtain ⟨h2,e2⟩:=List.getElem?_eq_some_iff.mp b
 exact (List.getElem_inj hN).mp (e1.trans e2.symm)
theorem jiZ {M:Model} {A:Around} {E:Value->Shared->Prop} {i:Nat} {x:Str} {v:V} {u:Value} {Q:Unit->Shared->Prop} (I:Inv X pins σ H s) (hN:X.N.Nodup) (hi:X.N[i]?=some x) (hx:Loc X.env.scope x) (r:RelV v u)
  (h:∀ s',Inv X pins (σ.set i (some v)) H s'->(∃ a,Heap.SameBut a s.heap s'.heap/\(a=X.env.locals\/X.env.cells.lookup x=some a))->Q () s') (hf:X.fn x=true\/X.env.scope.names.lookup x=some .local:=by first | exact .inl rfl | exact .inr rfl | assumption):wpAny M A (storeName X.env x u) Q E s:=by
 obtain ⟨m,hn,hl⟩:=id I.loc
 have hcls:(X.env.scope.kind==.class || (X.env.scope.kind==.module&&X.env.locals != X.env.globals))=false:=by rw [I.ok.kind]; rfl
 have hiσ:i < σ.length:=by rw [I.len]; exact (List.getElem?_eq_some_iff.mp hi).1
 have cne:=I.cne
 have tracked:∀ {a:Addr} {h':Heap},(∃ o,s.heap.get? a=some o/\H a=none)->Heap.SameBut a s.heap h'->HOk X.prog X.w H h':=fun {a h'} ha hs b ob e=>by
  obtain ⟨_,_,hfree⟩:=ha
  refine (I.hok b ob e).stay (fun c w' hc q=>(hs.2 c ?_).trans q) (fun _ q=>q) fun _ _ q=>q
  rintro rfl
  rcases hc with rfl | hc
  ·rw [hfree] at e; cases e
  ·rw [hfree] at hc; cases hc
 rcases hx with hk | hk
 ·refine wpAny_storeName_local hk hn (fun h' hn' hs=>?_) hcls
  obtain ⟨oL,_,_,hoL,_⟩:=id hn
  refine h _ ⟨I.ok,I.os,I.bare,⟨fun b o e n hb hx=>?_,fun b o e n hb hx=>?_,I.base.free,fun b o e hx=>?_,I.base.tups,I.base.frzs,I.base.tbls⟩,⟨_,hn',fun j y v' e1 e2 e3=>?_⟩,fun y c e=>?_,I.free,I.freeC,fun p hp=>?_,tracked ⟨oL,hoL,I.free⟩ hs,by simpa using I.len⟩ ⟨_,hs,.inl rfl⟩
  ·exact (hs.2 b (Nat.ne_of_lt (Nat.lt_of_lt_of_le (Heap.lt_size e) I.ok.above))).trans (I.base.keep b o e n hb hx)
  ·obtain ⟨sl,e1⟩:=I.base.slot b o e n hb hx
   exact ⟨sl,(hs.2 b (Nat.ne_of_lt (Nat.lt_of_lt_of_le (Heap.lt_size e) I.ok.above))).trans e1⟩
  ·obtain ⟨o',e1⟩:=I.base.there b o e hx
   exact ⟨o',(hs.2 b (Nat.ne_of_lt (Nat.lt_of_lt_of_le (Heap.lt_size e) I.ok.above))).trans e1⟩
  ·by_cases hj:j=i
   ·subst hj
    rw [hi] at e1; cases e1
    rw [List.getElem?_set_self hiσ] at e2
    cases e2
    exact ⟨u,r,.inl ⟨hk,by simp⟩⟩
   ·rw [List.getElem?_set_ne (Ne.symm hj)] at e2
    obtain ⟨u',r',q⟩:=hl j y v' e1 e2 e3
    refine ⟨u',r',?_⟩
    rcases q with ⟨k,e⟩ | ⟨k,c,e,z⟩
    ·refine .inl ⟨k,?_⟩
     have:y≠x:=fun e=>hj (nodup_ix hN e1 (e▸hi))
     simp [this,e]
    ·exact .inr ⟨k,c,e,z.sameBut hs (cne y c e)⟩
  ·obtain ⟨w',z⟩:=I.cell y c e
   exact ⟨w',z.sameBut hs (cne y c e)⟩
  ·obtain ⟨e,n,ne,nf,d⟩:=I.pin p hp
   exact ⟨(hs.2 p.1 ne).trans e,n,ne,nf,d⟩
 ·have hfn:X.fn x=true:=by
   rcases hf with z | z
   ·exact z
   ·rw [z] at hk; cases hk
  obtain ⟨c,hc⟩:=I.ok.has x (.inl hk)
  obtain ⟨w',z⟩:=I.cell x c hc
  refine wpAny_storeName_cell I.ok.kind hk hc z (fun h' hc' hs=>?_)
  obtain ⟨oc,hoc,hocd⟩:=id z
  refine h {s with heap:=h'} ⟨I.ok,I.os,I.bare,⟨fun b o e n hb hx=>?_,fun b o e n hb hx=>?_,I.base.free,fun b o e hx=>?_,I.base.tups,I.base.frzs,I.base.tbls⟩,⟨m,hn.sameBut hs (Ne.symm (cne x c hc)),fun j y v' e1 e2 e3=>?_⟩,fun y c' e=>?_,I.free,I.freeC,fun p hp=>?_,tracked ⟨oc,hoc,I.freeC x c hc⟩ hs,by simpa using I.len⟩ ⟨c,hs,.inr hc⟩
  ·exact (hs.2 b (Nat.ne_of_lt (Nat.lt_of_lt_of_le (Heap.lt_size e) (I.ok.cab x c hfn hc)))).trans (I.base.keep b o e n hb hx)
  ·obtain ⟨sl,e1⟩:=I.base.slot b o e n hb hx
   exact ⟨sl,(hs.2 b (Nat.ne_of_lt (Nat.lt_of_lt_of_le (Heap.lt_size e) (I.ok.cab x c hfn hc)))).trans e1⟩
  ·obtain ⟨o',e1⟩:=I.base.there b o e hx
   exact ⟨o',(hs.2 b (Nat.ne_of_lt (Nat.lt_of_lt_of_le (Heap.lt_size e) (I.ok.cab x c hfn hc)))).trans e1⟩
  ·by_cases hj:j=i
   ·subst hj
    rw [hi] at e1; cases e1
    rw [List.getElem?_set_self hiσ] at e2
    cases e2
    exact ⟨u,r,.inr ⟨.inl hk,c,hc,hc'⟩⟩
   ·rw [List.getElem?_set_ne (Ne.symm hj)] at e2
    obtain ⟨u',r',q⟩:=hl j y v' e1 e2 e3
    refine ⟨u',r',?_⟩
    rcases q with q | ⟨k,c',e,z'⟩
    ·exact .inl q
    ·refine .inr ⟨k,c',e,z'.sameBut hs ?_⟩
     rintro rfl
     exact hj (nodup_ix hN e1 (I.ok.inj _ _ _ e hc▸hi))
  ·by_cases hcc:c'=c
   ·subst hcc; exact ⟨_,hc'⟩
   ·obtain ⟨w2,z2⟩:=I.cell y c' e
    exact ⟨w2,z2.sameBut hs hcc⟩
  ·obtain ⟨e,n,ne,nf,d⟩:=I.pin p hp
   refine ⟨(hs.2 p.1 ?_).trans e,n,ne,nf,d⟩
   intro q
   rw [q,hoc] at e
   have q':oc=p.2:=Option.some.inj e
   exact d w' (by rw [<- q']; exact hocd)
theorem store_ok {M:Model} {A:Around} {E:Value->Shared->Prop} {i:Nat} {x:Str} {v:V} {u:Value} {Q:Unit->Shared->Prop} (I:Inv X pins σ H s) (hN:X.N.Nodup) (hi:X.N[i]?=some x) (hx:Loc X.env.scope x) (r:RelV v u)
  (h:∀ s',Inv X pins (σ.set i (some v)) H s'->Q () s') (hf:X.fn x=true\/X.env.scope.names.lookup x=some .local:=by first | exact .inl rfl | exact .inr rfl | assumption):wpAny M A (storeName X.env x u) Q E s :=
 jiZ I hN hi hx r (fun s' I' _=>h s' I') hf
theorem Inv.call' {s':Shared} {ch:List Addr} (I:Inv X pins σ H s) (ho:s'.os=s.os) (u:Un (frs X.stack) ch H H' s.heap s'.heap) (hok:HOk X.prog X.w H' s'.heap) (hg:AllBare s'.gens)
  (hch:∀ b∈ch,(b∈X.ex\/X.s₀.heap.objs.size<=b)/\b≠X.env.locals/\(∀ x c,X.env.cells.lookup x=some c->c≠b)/\∀ p∈X.pn++pins,p.1≠b):Inv X pins σ H' s':=by
 obtain ⟨h',g',d',t',o'⟩:=s'
 have e:o'=s.os:=ho
 subst e
 exact I.call (g':=g') (t':=t') (d':=d') u hok hg hch
end
abbrev XK:=Value->Option Addr->Hp->Prop
abbrev St:=List (Option V)
abbrev VK:=V->Hp->Prop
abbrev TE:=St->Hp->VK->Prop
abbrev TT:=St->Hp->(Bool->Hp->Prop)->Prop
abbrev TA:=St->Hp->(List V->Hp->Prop)->Prop
structure Ends where
 nx:St->Hp->Prop
 rt:VK
 bk:St->Hp->Prop:=fun _ _=>False
 ct:St->Hp->Prop:=fun _ _=>False
abbrev TS:=Ends->St->Hp->Prop
def EP (X:Cx) (pins:List (Addr×Obj)) (σ:St) (Q:VK) (u:Value) (s':Shared):Prop:=∃ v H',Inv X pins σ H' s'/\RelV v u/\Q v H'
def TP (X:Cx) (pins:List (Addr×Obj)) (σ:St) (Q:Bool->Hp->Prop) (b:Bool) (s':Shared):Prop:=∃ H',Inv X pins σ H' s'/\Q b H'
def AP (X:Cx) (pins:List (Addr×Obj)) (σ:St) (Q:List V->Hp->Prop) (us:List Value) (s':Shared):Prop:=∃ vs H',Inv X pins σ H' s'/\Vals vs us/\Q vs H'
def SP (X:Cx) (pins:List (Addr×Obj)) (D:Ends) (f:Flow) (s':Shared):Prop :=
 match f with
 | .next=>∃ σ' H',Inv X pins σ' H' s'/\D.nx σ' H'
 | .brk=>∃ σ' H',Inv X pins σ' H' s'/\D.bk σ' H'
 | .cont=>∃ σ' H',Inv X pins σ' H' s'/\D.ct σ' H'
 | .ret u=>∃ v σ' H',Inv X pins σ' H' s'/\RelV v u/\D.rt v H'
def PE (X:Cx) (e:Expr) (t:TE):Prop :=
 ∀ (pins:List (Addr×Obj)) (s:Shared) (σ:St) (H:Hp) (Q:VK),Inv X pins σ H s->t σ H Q->wpAny (model X.prog X.w) X.A (eval e X.env) (EP X pins σ Q) X.xe s
def PT (X:Cx) (e:Expr) (t:TT):Prop :=
 ∀ (pins:List (Addr×Obj)) (s:Shared) (σ:St) (H:Hp) (Q:Bool->Hp->Prop),Inv X pins σ H s->t σ H Q->wpAny (model X.prog X.w) X.A (isTrue e X.env (eval e X.env)) (TP X pins σ Q) X.xe s
def PW (X:Cx) (e:Expr) (t:TT):Prop :=
 ∀ (whole:Sem Value) (pins:List (Addr×Obj)) (s:Shared) (σ:St) (H:Hp) (Q:Bool->Hp->Prop),Inv X pins σ H s->t σ H Q->wpAny (model X.prog X.w) X.A (isTrue e X.env whole) (TP X pins σ Q) X.xe s
theorem PW.pt {X:Cx} {e:Expr} {t:TT} (h:PW X e t):PT X e t:=h _
def PA (X:Cx) (es:List Expr) (t:TA):Prop :=
 ∀ (pos:Pos) (pins:List (Addr×Obj)) (s:Shared) (σ:St) (H:Hp) (Q:List V->Hp->Prop),Inv X pins σ H s->t σ H Q->wpAny (model X.prog X.w) X.A (spliced (backTo pos (starEach es X.env))) (AP X pins σ Q) X.xe s
def PS (X:Cx) (st:Stmt) (t:TS):Prop :=
 ∀ (pins:List (Addr×Obj)) (s:Shared) (σ:St) (H:Hp) (D:Ends),Inv X pins σ H s->t D σ H->wpAny (model X.prog X.w) X.A (exec st X.env) (SP X pins D) X.xe s
def PSs (X:Cx) (st:List Stmt) (t:TS):Prop :=
 ∀ (pins:List (Addr×Obj)) (s:Shared) (σ:St) (H:Hp) (D:Ends),Inv X pins σ H s->t D σ H->wpAny (model X.prog X.w) X.A (execs st X.env) (SP X pins D) X.xe s
theorem thn {α:Type} {t:Sem α} {Q Q':α->Shared->Prop} {M:Model} {A:Around} {E:Value->Shared->Prop} {s:Shared} (h:wpAny M A t Q E s) (hQ:∀ a s,Q a s->Q' a s):wpAny M A t Q' E s:=wpAny_mono h hQ fun _ _ x=>x
section
variable {X:Cx}
def jbA (i:Nat):TE:=fun σ H Q=>∃ v,σ[i]?=some (some v)/\Q v H
def tC (v:V):TE:=fun _ H Q=>Q v H
theorem jot {i:Nat} {x:Str} {pos:Pos} (hN:X.N[i]?=some x) (hv:Vis X.env.scope x) (hd:(x==("__debug__":Str))=false:=by decide) (hcd:(x==("__classdict__":Str))=false:=by decide):PE X (.Name x pos) (jbA i):=by
 intro pins s σ H Q I h
 obtain ⟨v,e,h⟩:=h
 obtain ⟨m,hn,hl⟩:=I.loc
 obtain ⟨u,r,l⟩:=hl i x v hN e hv
 have fin:EP X pins σ Q u s:=⟨v,H,I,r,h⟩
 rcases l with ⟨hk,hm⟩ | ⟨hk,c,hc,hcell⟩
 ·exact wpAny_Name (wpAny_loadName_local I.ok.kind hk hn hm fin) hd
 ·rcases hk with hk | hk
  ·exact wpAny_Name (wpAny_loadName_cell I.ok.kind hk hc hcell fin) hd
  ·exact wpAny_Name (wpAny_loadName_free I.ok.kind hk hc hcell fin hcd) hd
theorem jaf {i j pos}:PE X (.Constant (.int i) j pos) (tC (.int i)):=fun _ _ _ H _ I h=>wpAny_Constant_int ⟨.int i,H,I.tok _,⟨_,rfl⟩,h⟩
theorem jbk {b j pos}:PE X (.Constant (.bool b) j pos) (tC (.bl b)):=fun _ _ _ H _ I h=>Constant_bool ⟨.bl b,H,I,rfl,h⟩
theorem jja {j pos}:PE X (.Constant .none j pos) (tC .non):=fun _ _ _ H _ I h=>Constant_none ⟨.non,H,I,rfl,h⟩
theorem jaz {x j pos}:PE X (.Constant (.str x) j pos) (tC (.str x)):=fun _ _ _ H _ I h=>Calls.Constant_str ⟨.str x,H,I.tok _,⟨_,rfl⟩,h⟩
def Gl (X:Cx) (x:Str):Prop:=X.env.kindOf x=some .globalImplicit
theorem ld_glob {E:Value->Shared->Prop} {pins:List (Addr×Obj)} {s:Shared} {σ:St} {H:Hp} {x:Str} {u:Value} {pos:Pos} {Q:Value->Shared->Prop} (I:Inv X pins σ H s) (hg:Gl X x) (hm:X.mg x=some u) (h:Q u s)
  (hd:(x==("__debug__":Str))=false:=by decide):wpAny (model X.prog X.w) X.A (eval (.Name x pos) X.env) Q E s :=
 Calls.Name_function_global I.ok.kind hg (Calls.loadGlobal_global (by rw [I.ok.glob]; exact I.mod.glob.keeps I.bk) hm h) hd
theorem ld_blt {E:Value->Shared->Prop} {pins:List (Addr×Obj)} {s:Shared} {σ:St} {H:Hp} {x:Str} {u:Value} {pos:Pos} {Q:Value->Shared->Prop} (I:Inv X pins σ H s) (hg:Gl X x) (hm:X.mg x=none) (hv:bootBuiltins x=some u) (h:Q u s)
  (hn:x≠"__name__":=by decide) (hd:(x==("__debug__":Str))=false:=by decide):wpAny (model X.prog X.w) X.A (eval (.Name x pos) X.env) Q E s:=by
 obtain ⟨mb,h1,h2⟩:=I.mod.blt
 exact Calls.Name_function_global I.ok.kind hg (Calls.loadGlobal_builtin (by rw [I.ok.glob]; exact I.mod.glob.keeps I.bk) hm (by rw [I.ok.blt]; exact h1.keeps I.bk) ((h2 x hn).trans hv) h) hd
theorem jaS {x:Str} {v:V} {u:Value} {pos:Pos} (hg:Gl X x) (hm:X.mg x=some u) (r:RelV v u) (hd:(x==("__debug__":Str))=false:=by decide):PE X (.Name x pos) (tC v) :=
 fun _ _ _ H _ I h=>ld_glob I hg hm ⟨v,H,I,r,h⟩ hd
theorem jcY {x:Str} {v:V} {u:Value} {pos:Pos} (hg:Gl X x) (hm:X.mg x=none) (hv:bootBuiltins x=some u) (r:RelV v u) (hn:x≠"__name__":=by decide) (hd:(x==("__debug__":Str))=false:=by decide):PE X (.Name x pos) (tC v) :=
 fun _ _ _ H _ I h=>ld_blt I hg hm hv ⟨v,H,I,r,h⟩ hn hd
variable {a b:Expr} {ta tb:TE} {pos:Pos}
def PC (X:Cx) (op:CmpOp) (a b:Expr) (t:TE):Prop :=
 ∀ (pins:List (Addr×Obj)) (s:Shared) (σ:St) (H:Hp) (Q:VK),Inv X pins σ H s->t σ H Q ->
  wpAny (model X.prog X.w) X.A (eval a X.env) (fun v s₁=>wpAny (model X.prog X.w) X.A (eval b X.env) (fun u s₂=>wpAny (model X.prog X.w) X.A (compareOp op v u) (EP X pins σ Q) X.xe s₂) X.xe s₁) X.xe s
theorem jht (b:Expr) {op:CmpOp} (h:op≠.In) (h2:op≠.NotIn):behindInMarks op b=false:=by
 have e1:(op==CmpOp.In)=false:=by cases op <;> first | rfl | exact absurd rfl h
 have e2:(op==CmpOp.NotIn)=false:=by cases op <;> first | rfl | exact absurd rfl h2
 cases b <;> simp [behindInMarks,e1,e2]
def tIsN (ta:TE):TE:=fun σ H Q=>ta σ H fun x H1=>Q (.bl (decide (x=.non))) H1
def tNotN (ta:TE):TE:=fun σ H Q=>ta σ H fun x H1=>Q (.bl (!decide (x=.non))) H1
theorem RelV.none_iff {x:V} {v:Value} (r:RelV x v):(v==Value.none)=decide (x=.non):=by
 cases x with
 | non=>cases r; rfl
 | bl _=>cases r; rfl
 | int _=>obtain ⟨t,rfl⟩:=r; rfl
 | str _=>obtain ⟨t,rfl⟩:=r; rfl
 | byt _=>obtain ⟨t,rfl⟩:=r; rfl
 | flt _=>obtain ⟨t,rfl⟩:=r; rfl
 | ref _=>cases r; rfl
 | ty _=>cases r; rfl
theorem jjb {j pos'} (ha:PE X a ta):PC X .Is a (.Constant .none j pos') (tIsN ta):=by
 intro pins s σ H Q I h
 refine thn (ha pins s σ H _ I h) fun v s1 ⟨x,H1,I1,r1,q1⟩=>?_
 exact Constant_none (is_none_gen ⟨.bl _,H1,I1,by rw [r1.none_iff]; rfl,q1⟩)
theorem jcZ {j pos'} (ha:PE X a ta):PC X .IsNot a (.Constant .none j pos') (tNotN ta):=by
 intro pins s σ H Q I h
 refine thn (ha pins s σ H _ I h) fun v s1 ⟨x,H1,I1,r1,q1⟩=>?_
 exact Constant_none (isnot_none_gen ⟨.bl _,H1,I1,by rw [r1.none_iff]; rfl,q1⟩)
def tB (t:TE):TT:=fun σ H Q=>t σ H fun x H1=>∃ c,x=.bl c/\Q c H1
theorem jhu {op:CmpOp} {t:TE} (h:PC X op a b t) (h1:behindInMarks op b=false:=by first | exact jht _ (by decide) (by decide) | rfl):PE X (.Compare a [op] [b] pos) t:=fun pins s σ H Q I hw=>wpAny_Compare1 (h pins s σ H Q I hw) h1
theorem jdK {op:CmpOp} {t:TE} (h:PC X op a b t) (h1:behindInMarks op b=false:=by first | exact jht _ (by decide) (by decide) | rfl):PT X (.Compare a [op] [b] pos) (tB t):=by
 intro pins s σ H Q I hw
 refine wpAny_isTrue_Compare1 (thn (h pins s σ H _ I hw) fun v s1 h1=>thn h1 fun u s2 h2=>thn h2 fun c s3 ⟨x,H1,I1,r1,q1⟩=>?_) h1
 obtain ⟨d,rfl,q⟩:=q1
 cases r1
 exact wpAny_truthy_bool ⟨H1,I1,q⟩
theorem jaJ {e:Expr} {t:TE} (h:PE X e t) (he:∀ whole,isTrue e X.env whole=(do let v <- whole; standAt e.pos; holding [v] (truthy v)):=by intro _; rfl):PT X e (tB t):=by
 intro pins s σ H Q I hw
 refine isTrue_plain (thn (h pins s σ H _ I hw) fun v s1 ⟨x,H1,I1,r1,q1⟩=>?_) (he _)
 obtain ⟨d,rfl,q⟩:=q1
 cases r1
 exact wpAny_truthy_bool ⟨H1,I1,q⟩
variable {tA tB':TT} {rest:List Expr}
def tAnd (t u:TT):TT:=fun σ H Q=>t σ H fun c H1=>if c=true then u σ H1 Q else Q false H1
def tOr (t u:TT):TT:=fun σ H Q=>t σ H fun c H1=>if c=true then Q true H1 else u σ H1 Q
def tNot (t:TT):TT:=fun σ H Q=>t σ H fun c H1=>Q (!c) H1
theorem jgL (ha:PT X a tA):PW X (.BoolOp .And [a] pos) tA:=by
 intro wh pins s σ H Q I h
 refine isTrue_and (thn (ha pins s σ H Q I h) fun c s1 e=>?_)
 cases c with
 | true=>exact isTrue_and_nil e
 | false=>exact e
theorem jeI (ha:PT X a tA):PW X (.BoolOp .Or [a] pos) tA:=by
 intro wh pins s σ H Q I h
 refine isTrue_or (thn (ha pins s σ H Q I h) fun c s1 e=>?_)
 cases c with
 | false=>exact isTrue_or_nil e
 | true=>exact e
theorem jjc (ha:PT X a tA) (hb:PW X (.BoolOp .And (b::rest) pos) tB'):PW X (.BoolOp .And (a::b::rest) pos) (tAnd tA tB'):=by
 intro wh pins s σ H Q I h
 refine isTrue_and (thn (ha pins s σ H _ I h) fun c s1 ⟨H1,I1,q1⟩=>?_)
 cases c with
 | true=>exact hb wh pins s1 σ H1 Q I1 q1
 | false=>exact ⟨H1,I1,q1⟩
theorem jfN (ha:PT X a tA) (hb:PW X (.BoolOp .Or (b::rest) pos) tB'):PW X (.BoolOp .Or (a::b::rest) pos) (tOr tA tB'):=by
 intro wh pins s σ H Q I h
 refine isTrue_or (thn (ha pins s σ H _ I h) fun c s1 ⟨H1,I1,q1⟩=>?_)
 cases c with
 | true=>exact ⟨H1,I1,q1⟩
 | false=>exact hb wh pins s1 σ H1 Q I1 q1
theorem jbB (ha:PT X a tA):PT X (.UnaryOp .Not a pos) (tNot tA):=by
 intro pins s σ H Q I h
 exact isTrue_not (ha pins s σ H (fun c H1=>Q (!c) H1) I h)
def tAndV (ta tb:TE):TE:=fun σ H Q=>ta σ H fun x H1=>∃ c,x=.bl c/\if c=true then tb σ H1 Q else Q (.bl false) H1
theorem jjd {op} {t:TE} (h:PE X a t):PE X (.BoolOp op [a] pos) t:=fun pins s σ H Q I hw=>BoolOp_one (h pins s σ H Q I hw)
theorem jhv (ha:PE X a ta) (hb:PE X (.BoolOp .And (b::rest) pos) tb):PE X (.BoolOp .And (a::b::rest) pos) (tAndV ta tb):=by
 intro pins s σ H Q I h
 refine BoolOp_and (thn (ha pins s σ H _ I h) fun v s1 ⟨x,H1,I1,r1,q1⟩=>?_)
 obtain ⟨c,rfl,q1⟩:=q1
 cases r1
 refine wpAny_truthy_bool ?_
 cases c with
 | true=>exact hb pins s1 σ H1 Q I1 q1
 | false=>exact ⟨.bl false,H1,I1,rfl,q1⟩
end
def SqL (K:PySem.W.Frag) (H:Hp) (a:Addr) (xs:List V):Prop :=
 Rd H a (.lst xs) \/
  ∃ (o:Obj) (its:Array Value) (n:Nat),K.lookup a=some o/\o.cls=.type "list"/\o.dict=none/\o.data=.seq its n/\its.size<=sizeLine/\Vals xs its.toList
def SqT (K:PySem.W.Frag) (H:Hp) (a:Addr) (xs:List V):Prop :=
 Rd H a (.tup xs) \/
  ∃ (o:Obj) (its:Array Value) (n:Nat),K.lookup a=some o/\o.cls=.type "tuple"/\o.data=.seq its n/\its.size<=sizeLine/\Vals xs its.toList
def absV:Value->Option V
 | .none=>some .non
 | .bool b=>some (.bl b)
 | .int i _=>some (.int i)
 | .str x _=>some (.str x)
 | .bytes b _=>some (.byt b)
 | .float b _=>some (.flt b)
 | .ref a=>some (.ref a)
 | .type n=>some (.ty n)
 | _=>none
theorem RelV.abs {x:V} {u:Value} (r:RelV x u):absV u=some x:=by
 cases x with
 | non=>cases r; rfl
 | bl _=>cases r; rfl
 | int _=>obtain ⟨t,rfl⟩:=r; rfl
 | str _=>obtain ⟨t,rfl⟩:=r; rfl
 | byt _=>obtain ⟨t,rfl⟩:=r; rfl
 | flt _=>obtain ⟨t,rfl⟩:=r; rfl
 | ref _=>cases r; rfl
 | ty _=>cases r; rfl
theorem RelV.inj {x y:V} {u:Value} (r:RelV x u) (q:RelV y u):x=y:=Option.some.inj (r.abs.symm.trans q.abs)
theorem Vals.inj:∀ {xs ys:List V} {us:List Value},Vals xs us->Vals ys us->xs=ys
 | _,_,_,.nil,.nil=>rfl
 | _,_,_,.cons r t,.cons r' t'=>by rw [r.inj r',Vals.inj t t']
section
variable {X:Cx} {pins:List (Addr×Obj)} {σ:St} {H:Hp} {s:Shared} {a:Addr} {xs ys:List V}
theorem SqL.of {K:PySem.W.Frag} (h:H a=some (.lst xs)):SqL K H a xs:=.inl (.inl h)
theorem SqT.of {K:PySem.W.Frag} (h:H a=some (.tup xs)):SqT K H a xs:=.inl (.inl h)
theorem Inv.list (I:Inv X pins σ H s) (h:SqL X.K H a xs):∃ its:List Value,Vals xs its/\PlainL s.heap a its.toArray/\xs.length<=sizeLine:=by
 rcases h with h | ⟨o,its,n,hk,hc,hd,hs,hz,r⟩
 ·obtain ⟨z,its,n,r,e⟩:=h.ok I.hok
  exact ⟨its,r,⟨_,n,e,rfl,rfl,rfl⟩,z⟩
 ·refine ⟨its.toList,r,⟨o,n,I.kIn a o hk,hc,hd,by simpa using hs⟩,?_⟩
  have e:=r.length
  simp only [Array.length_toList] at e
  omega
theorem Inv.tuple (I:Inv X pins σ H s) (h:SqT X.K H a xs):∃ its:List Value,Vals xs its/\IsTup s.heap a its.toArray/\xs.length<=sizeLine:=by
 rcases h with h | ⟨o,its,n,hk,hc,hs,hz,r⟩
 ·obtain ⟨z,its,r,p⟩:=h.ok I.hok
  exact ⟨its,r,p,z⟩
 ·refine ⟨its.toList,r,⟨o,I.kIn a o hk,hc,n,by simpa using hs⟩,?_⟩
  have e:=r.length
  simp only [Array.length_toList] at e
  omega
theorem Inv.list_inj (I:Inv X pins σ H s) (h:SqL X.K H a xs) (h':SqL X.K H a ys):xs=ys:=by
 obtain ⟨its,r,⟨o,n,e,_,_,d⟩,_⟩:=I.list h
 obtain ⟨its',r',⟨o',n',e',_,_,d'⟩,_⟩:=I.list h'
 rw [e] at e'; cases e'
 rw [d] at d'
 injection d' with d1 _
 have:its=its':=by simpa using congrArg Array.toList d1
 subst this
 exact r.inj r'
theorem Inv.tuple_inj (I:Inv X pins σ H s) (h:SqT X.K H a xs) (h':SqT X.K H a ys):xs=ys:=by
 obtain ⟨its,r,⟨o,e,_,n,d⟩,_⟩:=I.tuple h
 obtain ⟨its',r',⟨o',e',_,n',d'⟩,_⟩:=I.tuple h'
 rw [e] at e'; cases e'
 rw [d] at d'
 injection d' with d1 _
 have:its=its':=by simpa using congrArg Array.toList d1
 subst this
 exact r.inj r'
end
abbrev Cx.wish (X:Cx) (E:Value->Shared->Prop):Cx:={X with xe:=E}
abbrev Cx.nox (X:Cx):Cx:=X.wish fun _ _=>False
theorem Cx.Ok.wish {X:Cx} (ok:X.Ok) (E:Value->Shared->Prop):(X.wish E).Ok :=
 ⟨ok.mod,ok.kind,ok.glob,ok.blt,ok.above,ok.inj,ok.has,ok.cab,ok.hd,ok.frames,ok.stk,ok.exf,ok.bs,ok.bsz,ok.noex,ok.exfs,ok.funs,ok.frf⟩
theorem Cx.Ok.unwish {X:Cx} {E:Value->Shared->Prop} (ok:(X.wish E).Ok):X.Ok :=
 ⟨ok.mod,ok.kind,ok.glob,ok.blt,ok.above,ok.inj,ok.has,ok.cab,ok.hd,ok.frames,ok.stk,ok.exf,ok.bs,ok.bsz,ok.noex,ok.exfs,ok.funs,ok.frf⟩
section
variable {X:Cx} {pins:List (Addr×Obj)} {σ:St} {H:Hp} {s:Shared} {E:Value->Shared->Prop}
theorem Inv.wish (I:Inv X pins σ H s) (E:Value->Shared->Prop):Inv (X.wish E) pins σ H s:=⟨I.ok.wish E,I.os,I.bare,I.base,I.loc,I.cell,I.free,I.freeC,I.pin,I.hok,I.len⟩
theorem Inv.unwish (I:Inv (X.wish E) pins σ H s):Inv X pins σ H s:=⟨I.ok.unwish,I.os,I.bare,I.base,I.loc,I.cell,I.free,I.freeC,I.pin,I.hok,I.len⟩
theorem SP.unwish {D:Ends} {f:Flow} {s':Shared} (h:SP (X.wish E) pins D f s'):SP X pins D f s':=by
 cases f with
 | next=>obtain ⟨σ',H',I,q⟩:=h; exact ⟨σ',H',I.unwish,q⟩
 | brk=>obtain ⟨σ',H',I,q⟩:=h; exact ⟨σ',H',I.unwish,q⟩
 | cont=>obtain ⟨σ',H',I,q⟩:=h; exact ⟨σ',H',I.unwish,q⟩
 | ret u=>obtain ⟨v,σ',H',I,r,q⟩:=h; exact ⟨v,σ',H',I.unwish,r,q⟩
theorem PSs.nox {st:List Stmt} {t:TS} (h:PSs X.nox st t):PSs X st t:=fun pins s σ H D I hw =>
 wpAny_mono (h pins s σ H D (I.wish _) hw) (fun _ _ q=>q.unwish) fun _ _ z=>False.elim z
end
section
variable {X:Cx} {st:Stmt} {rest:List Stmt} {t u:TS} {e:Expr} {te:TE} {pos:Pos}
def jou:TS:=fun D σ H=>D.nx σ H
def tSeq (t u:TS):TS:=fun D σ H=>t {D with nx:=u D} σ H
theorem jaq:PSs X [] jou:=fun _ _ σ H _ I h=>wpAny_execs_nil ⟨σ,H,I,h⟩
theorem jab (h1:PS X st t) (h2:PSs X rest u):PSs X (st::rest) (tSeq t u):=by
 intro pins s σ H D I h
 refine wpAny_execs_cons (thn (h1 pins s σ H {D with nx:=u D} I h) fun f s1 q=>?_)
 cases f with
 | next =>
  obtain ⟨σ',H',I',q⟩:=q
  exact h2 pins s1 σ' H' D I' q
 | ret v=>exact q
 | brk=>exact q
 | cont=>exact q
theorem jae (h1:PS X st t):PSs X [st] t:=by
 intro pins s σ H D I h
 refine wpAny_execs_cons (thn (h1 pins s σ H D I h) fun f s1 q=>?_)
 cases f with
 | next=>exact wpAny_execs_nil q
 | ret v=>exact q
 | brk=>exact q
 | cont=>exact q
theorem Inv.quiet {pins:List (Addr×Obj)} {σ:St} {H:Hp} {s:Shared} (I:Inv X pins σ H s):interactive X.env=false:=by simp [interactive,I.ok.kind]
def jln (te:TE):TS:=fun D σ H=>te σ H fun _ H1=>D.nx σ H1
theorem jas (he:PE X e te) (hs:swapsWith e none pos.line X.env=pure false:=by rfl):PS X (.Expr e pos) (jln te):=by
 intro pins s σ H D I h
 exact wpAny_Expr_any (thn (he pins s σ H _ I h) fun v s1 ⟨x,H1,I1,r1,q1⟩=>⟨σ,H1,I1,q1⟩) I.quiet hs
def tRet (te:TE):TS:=fun D σ H=>te σ H D.rt
theorem jak (he:PE X e te):PS X (.Return (some e) pos) (tRet te):=by
 intro pins s σ H D I h
 exact wpAny_Return_some (thn (he pins s σ H _ I h) fun v s1 ⟨x,H1,I1,r1,q1⟩=>⟨x,σ,H1,I1,r1,q1⟩)
def tIfS (c:TT) (t u:TS):TS:=fun D σ H=>c σ H fun b H1=>if b=true then t D σ H1 else u D σ H1
theorem jay {c:Expr} {a b:List Stmt} {tc:TT} (hc:PT X c tc) (ha:PSs X a t) (hb:PSs X b u):PS X (.If c a b pos) (tIfS tc t u):=by
 intro pins s σ H D I h
 refine wpAny_If (thn (hc pins s σ H _ I h) fun d s1 ⟨H1,I1,q1⟩=>?_)
 cases d with
 | true=>exact ha pins s1 σ H1 D I1 q1
 | false=>exact hb pins s1 σ H1 D I1 q1
def jmg:TS:=fun _ _ _=>False
theorem jhw:PS X st jmg:=fun _ _ _ _ _ _ h=>h.elim
theorem jcf {sts:List Stmt}:PSs X sts jmg:=fun _ _ _ _ _ _ h=>h.elim
end
abbrev TG:=V->St->Hp->(St->Hp->Prop)->Prop
abbrev TGs:=List V->St->Hp->(St->Hp->Prop)->Prop
def PG (X:Cx) (target:Expr) (t:TG):Prop :=
 ∀ (pins:List (Addr×Obj)) (s:Shared) (σ:St) (H:Hp) (v:V) (u:Value) (Q:St->Hp->Prop),Inv X pins σ H s->RelV v u->t v σ H Q ->
  wpAny (model X.prog X.w) X.A (assign target X.env u) (fun _ s'=>∃ σ' H',Inv X pins σ' H' s'/\Q σ' H') X.xe s
def PGs (X:Cx) (ts:List Expr) (t:TGs):Prop :=
 ∀ (pins:List (Addr×Obj)) (s:Shared) (σ:St) (H:Hp) (vs:List V) (us:List Value) (Q:St->Hp->Prop),Inv X pins σ H s->Vals vs us->t vs σ H Q ->
  wpAny (model X.prog X.w) X.A (assignInOrder ((assignEach ts X.env).map (·.2)) us) (fun _ s'=>∃ σ' H',Inv X pins σ' H' s'/\Q σ' H') X.xe s
abbrev TIp:=V->V->Hp->VK->Prop
def PIp (X:Cx) (op:Operator) (t:TIp):Prop :=
 ∀ (pins:List (Addr×Obj)) (s:Shared) (σ:St) (H:Hp) (x y:V) (v u:Value) (Q:VK),Inv X pins σ H s->RelV x v->RelV y u->t x y H Q ->
  wpAny (model X.prog X.w) X.A (inplaceOp op v u) (EP X pins σ Q) X.xe s
section
variable {X:Cx} {pos:Pos}
def jiq (i:Nat):TG:=fun v σ H Q=>Q (σ.set i (some v)) H
theorem jaE {i:Nat} {x:Str} (hN:X.N.Nodup) (hi:X.N[i]?=some x) (hx:Loc X.env.scope x) (hf:X.fn x=true\/X.env.scope.names.lookup x=some .local:=by first | exact .inl rfl | exact .inr rfl | assumption):PG X (.Name x pos) (jiq i):=by
 intro pins s σ H v u Q I r h
 exact wpAny_assign_Name (store_ok I hN hi hx r (fun s' I'=>⟨_,H,I',h⟩) hf)
def gNil:TGs:=fun vs σ H Q=>vs=[]/\Q σ H
def gCons (t:TG) (u:TGs):TGs:=fun vs σ H Q=>∃ v r,vs=v::r/\t v σ H fun σ' H'=>u r σ' H' Q
theorem jng:PGs X [] gNil:=by
 intro pins s σ H vs us Q I r h
 obtain ⟨e,h⟩:=h
 subst e
 cases r
 exact assignInOrder_nil ⟨σ,H,I,h⟩
theorem jhx {e:Expr} {es:List Expr} {t:TG} {u:TGs} (h1:PG X e t) (h2:PGs X es u)
  (hs:(assignEach (e::es) X.env).map (·.2)=assign e X.env::(assignEach es X.env).map (·.2):=by rfl):PGs X (e::es) (gCons t u):=by
 intro pins s σ H vs us Q I r h
 obtain ⟨v,vr,e1,h⟩:=h
 subst e1
 cases r with
 | cons r rr =>
  rw [hs]
  refine assignInOrder_cons (thn (h1 pins s σ H _ _ _ I r h) fun _ s1 ⟨σ1,H1,I1,q1⟩=>?_)
  exact h2 pins s1 σ1 H1 _ _ Q I1 rr q1
def gTup (K:PySem.W.Frag) (n:Nat) (t:TGs):TG:=fun v σ H Q=>∃ a xs,v=.ref a/\SqT K H a xs/\xs.length=n/\t xs σ H Q
theorem jov {es:List Expr} {k:Nat} {t:TGs} {n:Nat} (hc:X.calm=true) (h:PGs X es t)
  (hn:(assignEach es X.env).length=n:=by rfl) (hst:(assignEach es X.env).findIdx? (·.1)=none:=by rfl):PG X (.Tuple es k pos) (gTup X.K n t):=by
 intro pins s σ H v u Q I r hw
 obtain ⟨a,xs,e1,hq,hl,hw⟩:=hw
 subst e1
 cases r
 obtain ⟨its,rv,ht,hz⟩:=I.tuple hq
 refine assign_Tuple_tuple (I.ok.hd hc) ht (by simp [hn,<- hl,rv.length]) hst fun h' hx=>?_
 have I1:Inv X pins σ H {s with heap:=h'}:=I.kept (t':=s.toks) fun b o e=>hx b o (Nat.ne_of_lt (Heap.lt_size e)) e
 exact h pins _ σ H xs _ Q I1 (by simpa using rv) hw
def tAsg (te:TE) (g:TG):TS:=fun D σ H=>te σ H fun x H1=>g x σ H1 D.nx
theorem jan {i:Nat} {x:Str} {e:Expr} {te:TE} {pos':Pos} (hN:X.N.Nodup) (hi:X.N[i]?=some x) (hx:Loc X.env.scope x) (he:PE X e te) (hs:swapsWith e (some (.Name x pos')) pos.line X.env=pure false:=by rfl) (hf:X.fn x=true\/X.env.scope.names.lookup x=some .local:=by first | exact .inl rfl | exact .inr rfl | assumption) :
  PS X (.Assign [.Name x pos'] e pos) (tAsg te (jiq i)):=by
 intro pins s σ H D I h
 refine wpAny_Assign_Name (thn (he pins s σ H _ I h) fun v s1 ⟨y,H1,I1,r1,q1⟩=>?_) hs
 exact store_ok I1 hN hi hx r1 (fun s2 I2=>⟨_,H1,I2,q1⟩) hf
def tAug (i:Nat) (te:TE) (ti:TIp):TS:=fun D σ H=>∃ x,σ[i]?=some (some x)/\te σ H fun y H1=>ti x y H1 fun z H2=>D.nx (σ.set i (some z)) H2
theorem jje {i:Nat} {x:Str} {e:Expr} {te:TE} {op:Operator} {ti:TIp} {pos':Pos} (hN:X.N.Nodup) (hi:X.N[i]?=some x) (hx:Loc X.env.scope x) (he:PE X e te) (ho:PIp X op ti) (hf:X.fn x=true\/X.env.scope.names.lookup x=some .local:=by first | exact .inl rfl | exact .inr rfl | assumption) :
  PS X (.AugAssign (.Name x pos') op e pos) (tAug i te ti):=by
 intro pins s σ H D I h
 obtain ⟨v,e1,h⟩:=h
 obtain ⟨m,hn,hl⟩:=I.loc
 have vis:Vis X.env.scope x:=by rcases hx with k | k; exact .inl k; exact .inr (.inl k)
 obtain ⟨u,r,l⟩:=hl i x v hi e1 vis
 refine wpAny_AugAssign_Name ?_
 have go:wpAny (model X.prog X.w) X.A (eval e X.env) (fun w s₂=>wpAny (model X.prog X.w) X.A (inplaceOp op u w) (fun r s₃=>wpAny (model X.prog X.w) X.A (storeName X.env x r) (fun _=>SP X pins D .next) X.xe s₃) X.xe s₂) X.xe s:=by
  refine thn (he pins s σ H _ I h) fun w s1 ⟨y,H1,I1,r1,q1⟩=>?_
  refine thn (ho pins s1 σ H1 v y u w _ I1 r r1 q1) fun z s2 ⟨zv,H2,I2,r2,q2⟩=>?_
  exact store_ok I2 hN hi hx r2 (fun s3 I3=>⟨_,H2,I3,q2⟩) hf
 rcases l with ⟨hk,hm⟩ | ⟨hk,c,hc,hcell⟩
 ·exact wpAny_loadName_local I.ok.kind hk hn hm go
 ·rcases hk with hk | hk
  ·exact wpAny_loadName_cell I.ok.kind hk hc hcell go
  ·rcases hx with k | k
   ·have:X.env.scope.names.lookup x=some .free:=hk
    rw [k] at this; cases this
   ·have:X.env.scope.names.lookup x=some .free:=hk
    rw [k] at this; cases this
def ipI (f:Int->Int->Int):TIp:=fun x y H Q=>∃ i j,x=.int i/\y=.int j/\Q (.int (f i j)) H
theorem jmh:PIp X .Add (ipI fun i j=>i+j):=by
 intro pins s σ H x y v u Q I r1 r2 h
 obtain ⟨i,j,e1,e2,q⟩:=h
 subst e1; subst e2
 obtain ⟨t,rfl⟩:=r1
 obtain ⟨t',rfl⟩:=r2
 exact iadd_int ⟨.int _,H,I.tok _,⟨_,rfl⟩,q⟩
theorem jow:PIp X .Sub (ipI fun i j=>i - j):=by
 intro pins s σ H x y v u Q I r1 r2 h
 obtain ⟨i,j,e1,e2,q⟩:=h
 subst e1; subst e2
 obtain ⟨t,rfl⟩:=r1
 obtain ⟨t',rfl⟩:=r2
 exact isub_int ⟨.int _,H,I.tok _,⟨_,rfl⟩,q⟩
def jhy (c:TT) (tb:TS):TS:=fun D σ H=>∃ W:Nat->St->Hp->Prop,(∃ m,W m σ H)/\∀ m σ H,W m σ H ->
 c σ H fun b H1=>if b=true then ∃ N:St->Hp->Prop,(∀ σ' H',N σ' H'->∃ m',m' < m/\W m' σ' H')/\tb {D with nx:=N,ct:=N,bk:=D.nx} σ H1 else D.nx σ H1
theorem jco {c:Expr} {body:List Stmt} {tc:TT} {tb:TS} (hp:PassesOwn (model X.prog X.w) X.A X.env X.xe) (hc:PT X c tc) (hb:PSs X body tb):PS X (.While c body [] pos) (jhy tc tb):=by
 intro pins s σ H D I h
 obtain ⟨W,⟨m0,w0⟩,turn⟩:=h
 refine wpAny_While (codeAny_whileLoop (fun n s'=>∃ σ' H',Inv X pins σ' H' s'/\W n σ' H') ?_ m0 ⟨σ,H,I,w0⟩)
 rintro n s1 ⟨σ1,H1,I1,w1⟩
 refine wpAny_passesOwn hp (thn (hc pins s1 σ1 H1 _ I1 (turn n σ1 H1 w1)) fun b s2 ⟨H2,I2,q2⟩=>?_)
 cases b with
 | true =>
  obtain ⟨N,hN,q2⟩:=q2
  rw [if_pos rfl]
  refine wpAny_passesOwn hp (thn (hb pins s2 σ1 H2 _ I2 q2) fun f s3 q3=>?_)
  cases f with
  | next =>
   obtain ⟨σ3,H3,I3,n3⟩:=q3
   obtain ⟨m',hm,w3⟩:=hN σ3 H3 n3
   exact ⟨m',hm,σ3,H3,I3,w3⟩
  | cont =>
   obtain ⟨σ3,H3,I3,n3⟩:=q3
   obtain ⟨m',hm,w3⟩:=hN σ3 H3 n3
   exact ⟨m',hm,σ3,H3,I3,w3⟩
  | brk=>exact q3
  | ret v=>exact q3
 | false =>
  rw [if_neg Bool.false_ne_true]
  exact wpAny_execs_nil ⟨σ1,H2,I2,q2⟩
end
structure It where
 go:Nat->Hp->Prop
 yld:Nat->Hp->V->Hp->Prop
 stop:Nat->Hp->Prop
def jgM (X:Cx) (pins:List (Addr×Obj)) (H:Hp) (b:Addr):Prop :=
 H b=none/\b≠X.env.locals/\b∉X.fs/\(b∈X.ex\/X.s₀.heap.objs.size<=b)/\(∀ x c,X.env.cells.lookup x=some c->c≠b)/\∀ p∈X.pn++pins,p.1≠b
theorem Inv.fpOk {X:Cx} {pins:List (Addr×Obj)} {σ:St} {H H':Hp} {s:Shared} {b:Addr} (I:Inv X pins σ H s) (hb:s.heap.objs.size<=b) (hn:H' b=none):jgM X pins H' b:=by
 refine ⟨hn,Nat.ne_of_gt (Nat.lt_of_lt_of_le I.lt hb),I.nofs hb,.inr (Nat.le_trans I.sz hb),fun x c e z=>?_,fun p hp z=>?_⟩
 ·obtain ⟨v,q⟩:=I.cell x c e
  exact absurd (Nat.lt_of_lt_of_le q.lt (by rw [z]; exact hb)) (Nat.lt_irrefl _)
 ·exact absurd (Nat.lt_of_lt_of_le (Heap.lt_size (I.pin p hp).1) (by rw [z]; exact hb)) (Nat.lt_irrefl _)
structure Turn (P:Program) (w:World) (K:PySem.W.Frag) (tg:Expr) (J:It) (fp:List Addr) (it:Addr) (tn:Nat->Heap->Prop):Prop where
 mem:it∈fp
 obj:∀ i h,tn i h->∀ b∈fp,∃ o,h.get? b=some o/\∀ v,o.data≠.cell v
 keep:∀ i h h',tn i h->(∀ b∈fp,∀ o,h.get? b=some o->h'.get? b=some o)->tn i h'
 item:∀ (X:Cx),X.prog=P->X.w=w->X.K=K->X.calm=true->∀ (i:Nat) (pins:List (Addr×Obj)) (s:Shared) (σ:St) (H:Hp) (E:Value->Shared->Prop),Inv X pins σ H s->(∀ b∈fp,jgM X pins H b)->tn i s.heap->J.go i H ->
  wpAny (model P w) X.A (pyNext (.ref it)) (fun r s1=>∃ u,r=some u /\
   wpAny (model P w) X.A (letOwnedTupleGo tg (.ref it) u) (fun _ s2=>∃ x H',Inv X pins σ H' s2/\RelV x u/\J.yld i H x H'/\tn (i+1) s2.heap/\∀ b∈fp,H' b=none) E s1) E s
 done:∀ (X:Cx),X.prog=P->X.w=w->X.K=K->X.calm=true->∀ (i:Nat) (pins:List (Addr×Obj)) (s:Shared) (σ:St) (H:Hp) (E:Value->Shared->Prop),Inv X pins σ H s->(∀ b∈fp,jgM X pins H b)->tn i s.heap->J.stop i H ->
  wpAny (model P w) X.A (pyNext (.ref it)) (fun r s1=>r=none/\Inv X pins σ H s1) E s
 self:∀ (A:Around) (i:Nat) (s:Shared) (Q:Value->Shared->Prop) (E:Value->Shared->Prop),tn i s.heap->Q (.ref it) s->wpAny (model P w) A (pyIter (.ref it)) Q E s
abbrev TI:=St->Hp->(It->Hp->Prop)->Prop
def PIE (X:Cx) (pins:List (Addr×Obj)) (σ:St) (tg:Expr) (R:It->Hp->Prop) (itv:Value) (s2:Shared):Prop :=
 ∃ (it:Addr) (fp:List Addr) (tn:Nat->Heap->Prop) (J:It) (H':Hp),itv=.ref it/\Inv X pins σ H' s2/\Turn X.prog X.w X.K tg J fp it tn/\tn 0 s2.heap/\(∀ b∈fp,jgM X pins H' b)/\R J H'
def PI (X:Cx) (tg iter:Expr) (wi:TI):Prop :=
 ∀ (pins:List (Addr×Obj)) (s:Shared) (σ:St) (H:Hp) (R:It->Hp->Prop),Inv X pins σ H s->wi σ H R ->
  wpAny (model X.prog X.w) X.A (eval iter X.env) (fun v s1=>wpAny (model X.prog X.w) X.A (pyIter v) (PIE X pins σ tg R) X.xe s1) X.xe s
theorem jjf {M:Model} {A:Around} {E:Value->Shared->Prop} {s:Shared} {tg:Expr} {it:Addr} {u:Value} {o:Obj} {n:String} {vs:Array Value} {Q:Unit->Shared->Prop} (ho:s.heap.get? it=some o) (hc:o.cls=.type n) (hd:o.data=.fields vs)
    (hn:["enumerate","zip","dict_itemiterator","dict_reverseitemiterator","odict_iterator","itertools.zip_longest","itertools.pairwise"].contains n=false) (hQ:Q () s):wpAny M A (letOwnedTupleGo tg (.ref it) u) Q E s:=by
  unfold letOwnedTupleGo
  cases tg <;> first
    | exact wpAny_pure hQ
    | (cases u <;> first
        | exact wpAny_pure hQ
        | (refine wpAny_bind (wpAny_load ho ?_)
           rw [hc,hd]
           show wpAny M A (if (["enumerate","zip","dict_itemiterator","dict_reverseitemiterator","odict_iterator","itertools.zip_longest","itertools.pairwise"].contains n&&vs[0]?==some (rawInt _))=true then _ else _) Q E s
           rw [if_neg (by intro h; rw [hn,Bool.false_and] at h; cases h)]
           exact wpAny_pure hQ))
def Itl (K:PySem.W.Frag) (a:Addr):It :=
 ⟨fun i H=>∃ xs x,SqL K H a xs/\xs[i]?=some x,fun i H x H'=>H'=H/\∀ xs,SqL K H a xs->xs[i]?=some x,fun i H=>∃ xs,SqL K H a xs/\xs.length<=i⟩
def Itt (K:PySem.W.Frag) (a:Addr):It :=
 ⟨fun i H=>∃ xs x,SqT K H a xs/\xs[i]?=some x,fun i H x H'=>H'=H/\∀ xs,SqT K H a xs->xs[i]?=some x,fun i H=>∃ xs,SqT K H a xs/\xs.length<=i⟩
def Itr (lo:Int) (n:Nat):It:=⟨fun i _=>i < n,fun i H x H'=>H'=H/\x=.int (lo+i),fun i _=>n<=i⟩
theorem jjg {P:Program} {w:World} {K:PySem.W.Frag} {tg:Expr} (a it:Addr):Turn P w K tg (Itl K a) [it] it (fun i h=>h.IsListIter it a i) where
 mem:=by simp
 obj:=fun i h st b hb=>by
  have e:b=it:=by simpa using hb
  subst e
  obtain ⟨o,e,c,d⟩:=st
  exact ⟨o,e,fun v z=>by rw [d] at z; cases z⟩
 keep:=fun i h h' st k=>st.at fun o e=>k it (by simp) o e
 item:=by
  intro X hP hw hK hc i pins s σ H E I hf st hg
  subst hP hw hK
  obtain ⟨xs,x,hq,hx⟩:=hg
  obtain ⟨its,rv,p,hz⟩:=I.list hq
  obtain ⟨u,hu,ru⟩:=rv.get hx
  obtain ⟨f0,f1,f2,f3,f4,f5⟩:=hf it (by simp)
  refine wpAny_pyNext_list_item st p.isList (x:=u) (by simpa using hu) fun h' st' sb=>?_
  have I1:Inv X pins σ H {s with heap:=h'}:=I.turned (t':=s.toks) (fun b o hb e=>(sb.2 b hb).trans e) f0 f1 f3 f4 f5
  obtain ⟨o,e,c,d⟩:=id st'
  exact ⟨u,rfl,jjf (s:={s with heap:=h'}) e c d (by decide) ⟨x,H,I1,ru,⟨rfl,fun ys hy=>by rw [I.list_inj hy hq]; exact hx⟩,st',fun b hb=>(hf b hb).1⟩⟩
 done:=by
  intro X hP hw hK hc i pins s σ H E I hf st hg
  subst hP hw hK
  obtain ⟨xs,hq,hx⟩:=hg
  obtain ⟨its,rv,p,hz⟩:=I.list hq
  obtain ⟨f0,f1,f2,f3,f4,f5⟩:=hf it (by simp)
  have hl:=rv.length
  exact wpAny_pyNext_list_end (I.ok.hd hc) st p.isList (by simp; omega) fun h' eb=>⟨rfl,I.turned (t':=s.toks) (fun b o hb e=>eb b o hb e) f0 f1 f3 f4 f5⟩
 self:=fun _ _ _ _ _ st h=>wpAny_pyIter_listiter st h
theorem jir {P:Program} {w:World} {K:PySem.W.Frag} {tg:Expr} (a it:Addr):Turn P w K tg (Itt K a) [it] it (fun i h=>h.IsTupleIter it a i) where
 mem:=by simp
 obj:=fun i h st b hb=>by
  have e:b=it:=by simpa using hb
  subst e
  obtain ⟨o,e,c,d⟩:=st
  exact ⟨o,e,fun v z=>by rw [d] at z; cases z⟩
 keep:=fun i h h' st k=>st.at fun o e=>k it (by simp) o e
 item:=by
  intro X hP hw hK hc i pins s σ H E I hf st hg
  subst hP hw hK
  obtain ⟨xs,x,hq,hx⟩:=hg
  obtain ⟨its,rv,p,hz⟩:=I.tuple hq
  obtain ⟨u,hu,ru⟩:=rv.get hx
  obtain ⟨f0,f1,f2,f3,f4,f5⟩:=hf it (by simp)
  refine wpAny_pyNext_tuple_item st (show s.heap.IsTuple a its.toArray from p) (x:=u) (by simpa using hu) fun h' st' sb=>?_
  have I1:Inv X pins σ H {s with heap:=h'}:=I.turned (t':=s.toks) (fun b o hb e=>(sb.2 b hb).trans e) f0 f1 f3 f4 f5
  obtain ⟨o,e,c,d⟩:=id st'
  exact ⟨u,rfl,jjf (s:={s with heap:=h'}) e c d (by decide) ⟨x,H,I1,ru,⟨rfl,fun ys hy=>by rw [I.tuple_inj hy hq]; exact hx⟩,st',fun b hb=>(hf b hb).1⟩⟩
 done:=by
  intro X hP hw hK hc i pins s σ H E I hf st hg
  subst hP hw hK
  obtain ⟨xs,hq,hx⟩:=hg
  obtain ⟨its,rv,p,hz⟩:=I.tuple hq
  obtain ⟨f0,f1,f2,f3,f4,f5⟩:=hf it (by simp)
  have hl:=rv.length
  exact wpAny_pyNext_tuple_end (I.ok.hd hc) st (show s.heap.IsTuple a its.toArray from p) (by simp; omega) fun h' eb=>⟨rfl,I.turned (t':=s.toks) (fun b o hb e=>eb b o hb e) f0 f1 f3 f4 f5⟩
 self:=fun _ _ _ _ _ st h=>wpAny_pyIter_tupleiter st h
theorem jis {P:Program} {w:World} {K:PySem.W.Frag} {tg:Expr} (it:Addr) (lo:Int) (n:Nat):Turn P w K tg (Itr lo n) [it] it (fun i h=>IsRangeIter h it (lo+(i:Nat) * 1) ((n:Int) - (i:Nat)) 1) where
 mem:=by simp
 obj:=fun i h st b hb=>by
  have e:b=it:=by simpa using hb
  subst e
  exact ⟨_,st,fun v z=>by
   have z':Data.fields _=Data.cell v:=z
   cases z'⟩
 keep:=fun i h h' st k=>k it (by simp) _ st
 item:=by
  intro X hP hw hK hc i pins s σ H E I hf st hg
  subst hP hw hK
  obtain ⟨f0,f1,f2,f3,f4,f5⟩:=hf it (by simp)
  have W:=Walks.range (prog:=X.prog) (w:=X.w) (I.ok.hd hc) it lo 1 n
  refine W.item i s _ _ hg st fun v h' tk hv st' kk=>?_
  obtain ⟨t,rfl⟩:=hv
  have I1:Inv X pins σ H {s with heap:=h',toks:=tk}:=I.turned (fun b o hb e=>kk b o (by simpa using hb) e) f0 f1 f3 f4 f5
  refine ⟨_,rfl,jjf (s:={s with heap:=h',toks:=tk}) (n:="range_iterator") st' rfl rfl (by decide) ⟨.int (lo+i),H,I1,⟨t,?_⟩,⟨rfl,rfl⟩,st',fun b hb=>(hf b hb).1⟩⟩
  rw [Int.mul_one]
 done:=by
  intro X hP hw hK hc i pins s σ H E I hf st hg
  subst hP hw hK
  obtain ⟨f0,f1,f2,f3,f4,f5⟩:=hf it (by simp)
  exact wpAny_pyNext_range_end (I.ok.hd hc) st (by have:n<=i:=hg; omega) fun h' eb=>⟨rfl,I.turned (t':=s.toks) (fun b o hb e=>eb b o hb e) f0 f1 f3 f4 f5⟩
 self:=fun _ _ _ _ _ st h=>wpAny_pyIter_rangeiter st h
section
variable {X:Cx} {tg:Expr}
def iList (K:PySem.W.Frag) (tl:TE):TI:=fun σ H R=>tl σ H fun x H1=>∃ a,x=.ref a/\(∃ xs,SqL K H1 a xs)/\R (Itl K a) H1
def iTup (K:PySem.W.Frag) (tl:TE):TI:=fun σ H R=>tl σ H fun x H1=>∃ a,x=.ref a/\(∃ xs,SqT K H1 a xs)/\R (Itt K a) H1
theorem jaT {l:Expr} {tl:TE} (hl:PE X l tl):PI X tg l (iList X.K tl):=by
 intro pins s σ H R I h
 refine thn (hl pins s σ H _ I h) fun v s1 ⟨x,H1,I1,r1,q1⟩=>?_
 obtain ⟨a,e,⟨xs,hq⟩,q⟩:=q1
 subst e
 cases r1
 obtain ⟨its,rv,p,hz⟩:=I1.list hq
 refine wpAny_pyIter_list p.isList ?_
 refine ⟨s1.heap.objs.size,[s1.heap.objs.size],_,_,H1,rfl,I1.kept (t':=s1.toks) fun b o e=>Heap.get?_push_of_some _ e,jjg a _,⟨_,Heap.get?_push_size _ rfl,rfl,rfl⟩,fun b hb=>?_,q⟩
 have e:b=s1.heap.objs.size:=by simpa using hb
 subst e
 exact I1.fpOk (Nat.le_refl _) (I1.hok.fresh (Nat.le_refl _))
theorem jox {l:Expr} {tl:TE} (hl:PE X l tl):PI X tg l (iTup X.K tl):=by
 intro pins s σ H R I h
 refine thn (hl pins s σ H _ I h) fun v s1 ⟨x,H1,I1,r1,q1⟩=>?_
 obtain ⟨a,e,⟨xs,hq⟩,q⟩:=q1
 subst e
 cases r1
 obtain ⟨its,rv,p,hz⟩:=I1.tuple hq
 refine wpAny_pyIter_tuple (show s1.heap.IsTuple a its.toArray from p) ?_
 refine ⟨s1.heap.objs.size,[s1.heap.objs.size],_,_,H1,rfl,I1.kept (t':=s1.toks) fun b o e=>Heap.get?_push_of_some _ e,jir a _,⟨_,Heap.get?_push_size _ rfl,rfl,rfl⟩,fun b hb=>?_,q⟩
 have e:b=s1.heap.objs.size:=by simpa using hb
 subst e
 exact I1.fpOk (Nat.le_refl _) (I1.hok.fresh (Nat.le_refl _))
theorem jlo {pins:List (Addr×Obj)} {σ:St} {H:Hp} {s:Shared} {R:It->Hp->Prop} {E:Value->Shared->Prop} {lo hi:Int} {t u v:Tok} {tk:Nat} (I:Inv X pins σ H s) (h1:-(2 ^ 62)<=lo) (h2:lo < 2 ^ 62) (h3:-(2 ^ 62)<=hi) (h4:hi < 2 ^ 62)
  (q:R (Itr lo (hi - lo).toNat) H):wpAny (model X.prog X.w) X.A (pyIter (.ref s.heap.objs.size)) (PIE X pins σ tg R) E {s with heap:=s.heap.push {cls:=.type "range",data:=.fields #[.int lo t,.int hi u,.int 1 v]},toks:=tk}:=by
 refine wpAny_pyIter_range (IsRange.new ..) (small_one h1 h2 h3 h4) ?_
 have I1:Inv X pins σ H {s with heap:=s.heap.push {cls:=.type "range",data:=.fields #[.int lo t,.int hi u,.int 1 v]},toks:=tk}:=I.kept fun b o e=>Heap.get?_push_of_some _ e
 refine ⟨(s.heap.push {cls:=.type "range",data:=.fields #[.int lo t,.int hi u,.int 1 v]}).objs.size,[(s.heap.push {cls:=.type "range",data:=.fields #[.int lo t,.int hi u,.int 1 v]}).objs.size],_,_,H,rfl,
  I1.kept (t':=tk) fun b o e=>Heap.get?_push_of_some _ e,jis _ lo (hi - lo).toNat,?_,fun b hb=>?_,q⟩
 ·have e1:lo+((0:Nat):Int) * 1=lo:=by simp
  have e2:(((hi - lo).toNat:Nat):Int) - ((0:Nat):Int)=Builtin.Range.rangeSize lo hi 1:=by rw [rangeSize_one]; split <;> omega
  show IsRangeIter _ _ (lo+((0:Nat):Int) * 1) ((((hi - lo).toNat:Nat):Int) - ((0:Nat):Int)) 1
  rw [e1,e2]
  exact Heap.get?_push_size _ rfl
 ·have e:b=(s.heap.push {cls:=.type "range",data:=.fields #[.int lo t,.int hi u,.int 1 v]}).objs.size:=by simpa using hb
  subst e
  exact I1.fpOk (Nat.le_refl _) (I1.hok.fresh (Nat.le_refl _))
def iRng1 (ta:TA):TI:=fun σ H R=>ta σ H fun vs H1=>∃ j:Int,vs=[.int j]/\-(2 ^ 62)<=j/\j < 2 ^ 62/\R (Itr 0 j.toNat) H1
theorem jbQ {a:Expr} {ta:TA} {p pos:Pos} (hg:Gl X "range") (hm:X.mg "range"=none) (ha:PA X [a] ta) (hs:starEach [a] X.env=[(false,eval a X.env)]:=by rfl):PI X tg (.Call (.Name "range" p) [a] [] pos) (iRng1 ta):=by
 intro pins s σ H R I h
 refine Call_ (ld_blt I hg hm boot_range (PyProof.Rows.callWith_type1 (thn (ha pos pins s σ H _ I h) fun us s1 ⟨vs,H1,I1,r1,q1⟩=>?_) hs rfl))
 obtain ⟨j,e,q1,q2,q⟩:=q1
 subst e
 cases r1 with
 | cons r rr =>
  cases rr
  obtain ⟨t,rfl⟩:=r
  exact call_range_1 (jlo I1 (by omega) (by omega) q1 q2 (by simpa using q))
def tFor (wi:TI) (g:TG) (tb:TS):TS:=fun D σ H=>wi σ H fun J H1=>∃ W:Nat->Nat->St->Hp->Prop,(∃ m,W 0 m σ H1)/\∀ i m σ H,W i m σ H ->
 (J.stop i H/\D.nx σ H)\/(J.go i H/\∃ N:St->Hp->Prop,(∀ σ' H',N σ' H'->∃ m',m' < m/\W (i+1) m' σ' H')/\∀ x H',J.yld i H x H'->g x σ H' fun σ2 H2=>tb {D with nx:=N,ct:=N,bk:=D.nx} σ2 H2)
def jfO (fp:List Addr) (h:Heap):List (Addr×Obj):=fp.filterMap fun b=>(h.get? b).map fun o=>(b,o)
theorem jcp {fp:List Addr} {h:Heap} {b:Addr} {o:Obj} (hb:b∈fp) (e:h.get? b=some o):(b,o)∈jfO fp h:=List.mem_filterMap.mpr ⟨b,hb,by rw [e]; rfl⟩
theorem jjh {fp:List Addr} {h:Heap} {p:Addr×Obj} (hp:p∈jfO fp h):p.1∈fp/\h.get? p.1=some p.2:=by
 obtain ⟨b,hb,e⟩:=List.mem_filterMap.mp hp
 cases q:h.get? b with
 | none=>rw [q] at e; cases e
 | some o =>
  rw [q] at e
  have e':(b,o)=p:=Option.some.inj e
  subst e'
  exact ⟨hb,q⟩
theorem Inv.pinned {pins:List (Addr×Obj)} {σ:St} {H:Hp} {s:Shared} {fp:List Addr} (I:Inv X pins σ H s) (hf:∀ b∈fp,jgM X pins H b) (ho:∀ b∈fp,∃ o,s.heap.get? b=some o/\∀ v,o.data≠.cell v):Inv X (pins++jfO fp s.heap) σ H s :=
 I.pins_of fun p hp=>(List.mem_append.mp hp).elim (fun z=>I.pin p (List.mem_append_right _ z)) fun z=>by
  obtain ⟨hb,e⟩:=jjh z
  obtain ⟨f0,f1,f2,_⟩:=hf p.1 hb
  obtain ⟨o,e',d⟩:=ho p.1 hb
  rw [e] at e'; cases e'
  exact ⟨e,f0,f1,f2,d⟩
theorem Inv.unpinned {pins pl:List (Addr×Obj)} {σ:St} {H:Hp} {s:Shared} (I:Inv X (pins++pl) σ H s):Inv X pins σ H s:=I.pins_of fun p hp=>I.pin p (List.mem_append_right _ (List.mem_append_left _ hp))
theorem jbb {iter:Expr} {body:List Stmt} {wi:TI} {g:TG} {tb:TS} {pos:Pos} (hp:PassesOwn (model X.prog X.w) X.A X.env X.xe) (hc:X.calm=true) (hi:PI X tg iter wi) (hg:PG X tg g) (hb:PSs X body tb)
  (hs:∀ x,foldedSetIterable iter X.env x=pure x:=by intro _; rfl):PS X (.For tg iter body [] pos) (tFor wi g tb):=by
 intro pins s σ H D I h
 refine wpAny_For (thn (hi pins s σ H _ I h) fun v s1 h1=>thn h1 fun itv s2 h2=>?_) hs
 obtain ⟨it,fp,tn,J,H2,e,I2,T,st2,f2,W,⟨m0,w0⟩,turn⟩:=h2
 subst e
 have stat:∀ {H':Hp},(∀ b∈fp,H' b=none)->∀ b∈fp,jgM X pins H' b:=fun hn b hb=>⟨hn b hb,(f2 b hb).2⟩
 refine codeAny_forLoop_any (fun n s'=>∃ i σ' H',Inv X pins σ' H' s'/\tn i s'.heap/\(∀ b∈fp,H' b=none)/\W i n σ' H') ?_ m0 ⟨0,σ,H2,I2,st2,fun b hb=>(f2 b hb).1,w0⟩
 rintro n s3 ⟨i,σ3,H3,I3,st3,fr3,w3⟩
 rcases turn i n σ3 H3 w3 with ⟨stop,qn⟩ | ⟨go,N,hN,step⟩
 ·refine wpAny_passesOwn hp (thn (T.done X rfl rfl rfl hc i pins s3 σ3 H3 X.xe I3 (stat fr3) st3 stop) fun r s4 ⟨hr,I4⟩=>?_)
  subst hr
  exact wpAny_execs_nil ⟨σ3,H3,I4,qn⟩
 ·refine wpAny_passesOwn hp (thn (T.item X rfl rfl rfl hc i pins s3 σ3 H3 X.xe I3 (stat fr3) st3 go) fun r s4 ⟨u,hr,h4⟩=>?_)
  subst hr
  refine wpAny_passesOwn hp (thn h4 fun _ s5 ⟨x,H5,I5,r5,y5,st5,fr5⟩=>?_)
  have I5':=I5.pinned (stat fr5) (T.obj _ _ st5)
  refine wpAny_passesOwn hp (thn (hg _ s5 σ3 H5 x u _ I5' r5 (step x H5 y5)) fun _ s6 ⟨σ6,H6,I6,q6⟩=>?_)
  refine wpAny_passesOwn hp (thn (hb _ s6 σ6 H6 _ I6 q6) fun f s7 q7=>?_)
  have again:∀ {σ7:St} {H7:Hp},Inv X (pins++jfO fp s5.heap) σ7 H7 s7->N σ7 H7->∃ m,m < n/\∃ i σ' H',Inv X pins σ' H' s7/\tn i s7.heap/\(∀ b∈fp,H' b=none)/\W i m σ' H':=fun {σ7 H7} I7 n7=>by
   obtain ⟨m',hm,w7⟩:=hN σ7 H7 n7
   refine ⟨m',hm,i+1,σ7,H7,I7.unpinned,T.keep _ _ _ st5 fun b hb o e=>(I7.pin (b,o) (List.mem_append_right _ (List.mem_append_right _ (jcp hb e)))).1,fun b hb=>?_,w7⟩
   obtain ⟨o,e,d⟩:=T.obj _ _ st5 b hb
   exact (I7.pin (b,o) (List.mem_append_right _ (List.mem_append_right _ (jcp hb e)))).2.1
  cases f with
  | next=>obtain ⟨σ7,H7,I7,n7⟩:=q7; exact again I7 n7
  | cont=>obtain ⟨σ7,H7,I7,n7⟩:=q7; exact again I7 n7
  | brk=>obtain ⟨σ7,H7,I7,q7⟩:=q7; exact ⟨σ7,H7,I7.unpinned,q7⟩
  | ret v=>obtain ⟨x7,σ7,H7,I7,r7,q7⟩:=q7; exact ⟨x7,σ7,H7,I7.unpinned,r7,q7⟩
end
theorem jdz {K:PySem.W.Frag} {a:Addr} {xs:List V} {g:TG} {tb:TS} {D:Ends} {σ:St} {H:Hp} (Pv:Nat->St->Hp->Prop) (h0:Pv 0 σ H) (hl:∀ i σ H,i<=xs.length->Pv i σ H->SqL K H a xs)
  (hs:∀ i x σ H,xs[i]?=some x->Pv i σ H->g x σ H fun σ2 H2=>tb {D with nx:=Pv (i+1),ct:=Pv (i+1),bk:=D.nx} σ2 H2) (hd:∀ σ H,Pv xs.length σ H->D.nx σ H) :
  ∃ W:Nat->Nat->St->Hp->Prop,(∃ m,W 0 m σ H)/\∀ i m σ H,W i m σ H ->
   ((Itl K a).stop i H/\D.nx σ H)\/((Itl K a).go i H/\∃ N:St->Hp->Prop,(∀ σ' H',N σ' H'->∃ m',m' < m/\W (i+1) m' σ' H')/\∀ x H',(Itl K a).yld i H x H'->g x σ H' fun σ2 H2=>tb {D with nx:=N,ct:=N,bk:=D.nx} σ2 H2):=by
 refine ⟨fun i m σ H=>m=xs.length - i/\i<=xs.length/\Pv i σ H,⟨xs.length,by simp,Nat.zero_le _,h0⟩,?_⟩
 rintro i m σ H ⟨rfl,hi,p⟩
 have q:=hl i σ H hi p
 by_cases hlt:i < xs.length
 ·refine .inr ⟨⟨xs,xs[i],q,by simp [hlt]⟩,Pv (i+1),fun σ' H' p'=>⟨xs.length - (i+1),by omega,rfl,hlt,p'⟩,fun x H' y=>?_⟩
  obtain ⟨e,y⟩:=y
  subst e
  exact hs i x σ _ (y xs q) p
 ·have e:i=xs.length:=by omega
  subst e
  exact .inl ⟨⟨xs,q,Nat.le_refl _⟩,hd σ H p⟩
theorem jnh {K:PySem.W.Frag} {a:Addr} {xs:List V} {g:TG} {tb:TS} {D:Ends} {σ:St} {H:Hp} (Pv:Nat->St->Hp->Prop) (h0:Pv 0 σ H) (hl:∀ i σ H,i<=xs.length->Pv i σ H->SqT K H a xs)
  (hs:∀ i x σ H,xs[i]?=some x->Pv i σ H->g x σ H fun σ2 H2=>tb {D with nx:=Pv (i+1),ct:=Pv (i+1),bk:=D.nx} σ2 H2) (hd:∀ σ H,Pv xs.length σ H->D.nx σ H) :
  ∃ W:Nat->Nat->St->Hp->Prop,(∃ m,W 0 m σ H)/\∀ i m σ H,W i m σ H ->
   ((Itt K a).stop i H/\D.nx σ H)\/((Itt K a).go i H/\∃ N:St->Hp->Prop,(∀ σ' H',N σ' H'->∃ m',m' < m/\W (i+1) m' σ' H')/\∀ x H',(Itt K a).yld i H x H'->g x σ H' fun σ2 H2=>tb {D with nx:=N,ct:=N,bk:=D.nx} σ2 H2):=by
 refine ⟨fun i m σ H=>m=xs.length - i/\i<=xs.length/\Pv i σ H,⟨xs.length,by simp,Nat.zero_le _,h0⟩,?_⟩
 rintro i m σ H ⟨rfl,hi,p⟩
 have q:=hl i σ H hi p
 by_cases hlt:i < xs.length
 ·refine .inr ⟨⟨xs,xs[i],q,by simp [hlt]⟩,Pv (i+1),fun σ' H' p'=>⟨xs.length - (i+1),by omega,rfl,hlt,p'⟩,fun x H' y=>?_⟩
  obtain ⟨e,y⟩:=y
  subst e
  exact hs i x σ _ (y xs q) p
 ·have e:i=xs.length:=by omega
  subst e
  exact .inl ⟨⟨xs,q,Nat.le_refl _⟩,hd σ H p⟩
theorem jfP {lo:Int} {n:Nat} {g:TG} {tb:TS} {D:Ends} {σ:St} {H:Hp} (Pv:Nat->St->Hp->Prop) (h0:Pv 0 σ H)
  (hs:∀ i σ H,i < n->Pv i σ H->g (.int (lo+i)) σ H fun σ2 H2=>tb {D with nx:=Pv (i+1),ct:=Pv (i+1),bk:=D.nx} σ2 H2) (hd:∀ σ H,Pv n σ H->D.nx σ H) :
  ∃ W:Nat->Nat->St->Hp->Prop,(∃ m,W 0 m σ H)/\∀ i m σ H,W i m σ H ->
   ((Itr lo n).stop i H/\D.nx σ H)\/((Itr lo n).go i H/\∃ N:St->Hp->Prop,(∀ σ' H',N σ' H'->∃ m',m' < m/\W (i+1) m' σ' H')/\∀ x H',(Itr lo n).yld i H x H'->g x σ H' fun σ2 H2=>tb {D with nx:=N,ct:=N,bk:=D.nx} σ2 H2):=by
 refine ⟨fun i m σ H=>m=n - i/\i<=n/\Pv i σ H,⟨n,by simp,Nat.zero_le _,h0⟩,?_⟩
 rintro i m σ H ⟨rfl,hi,p⟩
 by_cases hlt:i < n
 ·refine .inr ⟨hlt,Pv (i+1),fun σ' H' p'=>⟨n - (i+1),by omega,rfl,hlt,p'⟩,fun x H' y=>?_⟩
  obtain ⟨e,y⟩:=y
  subst e y
  exact hs i σ _ hlt p
 ·have e:i=n:=by omega
  subst e
  exact .inl ⟨Nat.le_refl _,hd σ H p⟩
abbrev R2:=V->V->Hp->VK->Prop
def OpR (X:Cx) (f:Value->Value->Sem Value) (r:R2):Prop :=
 ∀ (pins:List (Addr×Obj)) (s:Shared) (σ:St) (H:Hp) (x y:V) (v u:Value) (Q:VK),Inv X pins σ H s->RelV x v->RelV y u->r x y H Q ->
  wpAny (model X.prog X.w) X.A (f v u) (EP X pins σ Q) X.xe s
def UnR (X:Cx) (f:Value->Sem Value) (r:V->Hp->VK->Prop):Prop :=
 ∀ (pins:List (Addr×Obj)) (s:Shared) (σ:St) (H:Hp) (x:V) (v:Value) (Q:VK),Inv X pins σ H s->RelV x v->r x H Q ->
  wpAny (model X.prog X.w) X.A (f v) (EP X pins σ Q) X.xe s
def jcx (X:Cx) (f:Value) (r:List V->Hp->VK->Prop):Prop :=
 ∀ (pins:List (Addr×Obj)) (s:Shared) (σ:St) (H:Hp) (xs:List V) (us:List Value) (Q:VK),Inv X pins σ H s->Vals xs us->r xs H Q ->
  wpAny (model X.prog X.w) X.A (call f us) (EP X pins σ Q) X.xe s
def TruR (X:Cx) (r:V->Hp->(Bool->Hp->Prop)->Prop):Prop :=
 ∀ (pins:List (Addr×Obj)) (s:Shared) (σ:St) (H:Hp) (x:V) (v:Value) (Q:Bool->Hp->Prop),Inv X pins σ H s->RelV x v->r x H Q ->
  wpAny (model X.prog X.w) X.A (truthy v) (TP X pins σ Q) X.xe s
def tOp (r:R2) (ta tb:TE):TE:=fun σ H Q=>ta σ H fun x H1=>tb σ H1 fun y H2=>r x y H2 Q
def tUn (r:V->Hp->VK->Prop) (ta:TE):TE:=fun σ H Q=>ta σ H fun x H1=>r x H1 Q
def rI (C:Int->Int->Prop) (g:Int->Int->V):R2:=fun x y H Q=>∃ i j,x=.int i/\y=.int j/\C i j/\Q (g i j) H
def rI0 (g:Int->Int->V):R2:=fun x y H Q=>∃ i j,x=.int i/\y=.int j/\Q (g i j) H
def rU (g:Int->V):V->Hp->VK->Prop:=fun x H Q=>∃ i,x=.int i/\Q (g i) H
section
variable {X:Cx} {a b c:Expr} {ta tb tc:TE} {pos:Pos}
theorem binT (ha:PE X a ta) (hb:PE X b tb) {pins:List (Addr×Obj)} {s:Shared} {σ:St} {H:Hp} {R:V->V->Hp->Prop} (I:Inv X pins σ H s)
  (h:ta σ H fun x H1=>tb σ H1 fun y H2=>R x y H2) {Q:Value->Shared->Prop} {f:Value->Value->Sem Value}
  (hf:∀ v u s2 x y H2,Inv X pins σ H2 s2->RelV x v->RelV y u->R x y H2->wpAny (model X.prog X.w) X.A (f v u) Q X.xe s2) :
  wpAny (model X.prog X.w) X.A (eval a X.env) (fun v s₁=>wpAny (model X.prog X.w) X.A (eval b X.env) (fun u s₂=>wpAny (model X.prog X.w) X.A (f v u) Q X.xe s₂) X.xe s₁) X.xe s:=by
 refine thn (ha pins s σ H _ I h) fun v s1 ⟨x,H1,I1,r1,q1⟩=>?_
 refine thn (hb pins s1 σ H1 _ I1 q1) fun u s2 ⟨y,H2,I2,r2,q2⟩=>?_
 exact hf v u s2 x y H2 I2 r1 r2 q2
theorem jar {op:Operator} {r:R2} (ho:OpR X (binaryOp op) r) (ha:PE X a ta) (hb:PE X b tb):PE X (.BinOp a op b pos) (tOp r ta tb):=by
 intro pins s σ H Q I h
 exact wpAny_BinOp (binT ha hb I h fun v u s2 x y H2 I2 rx ry q=>ho pins s2 σ H2 x y v u Q I2 rx ry q)
theorem jfQ {op:UnaryOp} {r:V->Hp->VK->Prop} (ho:UnR X (unaryOp op) r) (ha:PE X a ta):PE X (.UnaryOp op a pos) (tUn r ta):=by
 intro pins s σ H Q I h
 exact UnaryOp_ (thn (ha pins s σ H _ I h) fun v s1 ⟨x,H1,I1,r1,q1⟩=>ho pins s1 σ H1 x v Q I1 r1 q1)
theorem opI {f:Value->Value->Sem Value} {C:Int->Int->Prop} {g:Int->Int->Int}
  (rule:∀ (i j:Int) (t u:Tok) (s:Shared) (Q:Value->Shared->Prop) (E:Value->Shared->Prop),C i j->Q (.int (g i j) s.toks) {s with toks:=s.toks+1}->wpAny (model X.prog X.w) X.A (f (.int i t) (.int j u)) Q E s) :
  OpR X f (rI C fun i j=>.int (g i j)):=by
 intro pins s σ H x y v u Q I rx ry h
 obtain ⟨i,j,rfl,rfl,hc,q⟩:=h
 obtain ⟨t,rfl⟩:=rx
 obtain ⟨t',rfl⟩:=ry
 exact rule i j t t' s _ _ hc ⟨.int (g i j),H,I.tok _,⟨_,rfl⟩,q⟩
theorem opI0 {f:Value->Value->Sem Value} {g:Int->Int->Int}
  (rule:∀ (i j:Int) (t u:Tok) (s:Shared) (Q:Value->Shared->Prop) (E:Value->Shared->Prop),Q (.int (g i j) s.toks) {s with toks:=s.toks+1}->wpAny (model X.prog X.w) X.A (f (.int i t) (.int j u)) Q E s) :
  OpR X f (rI0 fun i j=>.int (g i j)):=by
 intro pins s σ H x y v u Q I rx ry h
 obtain ⟨i,j,rfl,rfl,q⟩:=h
 obtain ⟨t,rfl⟩:=rx
 obtain ⟨t',rfl⟩:=ry
 exact rule i j t t' s _ _ ⟨.int (g i j),H,I.tok _,⟨_,rfl⟩,q⟩
theorem opB0 {f:Value->Value->Sem Value} {g:Int->Int->Bool}
  (rule:∀ (i j:Int) (t u:Tok) (s:Shared) (Q:Value->Shared->Prop) (E:Value->Shared->Prop),Q (.bool (g i j)) s->wpAny (model X.prog X.w) X.A (f (.int i t) (.int j u)) Q E s) :
  OpR X f (rI0 fun i j=>.bl (g i j)):=by
 intro pins s σ H x y v u Q I rx ry h
 obtain ⟨i,j,rfl,rfl,q⟩:=h
 obtain ⟨t,rfl⟩:=rx
 obtain ⟨t',rfl⟩:=ry
 exact rule i j t t' s _ _ ⟨.bl (g i j),H,I,rfl,q⟩
def CDiv (i j:Int):Prop:=0 < j/\j < 1073741824
def CPow (i j:Int):Prop:=0<=j/\j<=1000000/\i.natAbs < 2 ^ 64
def CMul (i j:Int):Prop:=(-(2 ^ 64) < i/\i < 2 ^ 64)\/(-(2 ^ 64) < j/\j < 2 ^ 64)
theorem CMul.ok {i j:Int} (h:CMul i j):IntMulOk i j:=by
 rcases h with ⟨h1,h2⟩ | ⟨h1,h2⟩
 ·exact .of_left (intBits_le_64 h1 h2)
 ·exact .of_right (intBits_le_64 h1 h2)
theorem jit (k:Nat):(0:Int)<=2 ^ k:=by
 rw [two_pow_cast]
 exact Int.natCast_nonneg _
theorem jaL:OpR X (binaryOp .Add) (rI0 fun i j=>.int (i+j)):=opI0 fun _ _ _ _ _ _ _ q=>add_int q
theorem jbr:OpR X (binaryOp .Sub) (rI0 fun i j=>.int (i - j)):=opI0 fun _ _ _ _ _ _ _ q=>sub_int q
theorem jdq:OpR X (binaryOp .Mult) (rI CMul fun i j=>.int (i * j)):=opI fun _ _ _ _ _ _ _ hc q=>mul_int q hc.ok
theorem jcy:OpR X (binaryOp .FloorDiv) (rI CDiv fun i j=>.int (i / j)):=opI fun i j _ _ _ _ _ hc q=>by
 have h1:(0:Int) < j:=hc.1
 have h2:j < 1073741824:=hc.2
 exact floordiv_int (by omega) (by rw [Int.fdiv_eq_ediv_of_nonneg i (by omega)]; exact q) (.inl (PyProof.noPylong_small (by omega)))
theorem jbd:OpR X (binaryOp .Mod) (rI (fun _ j=>0 < j) fun i j=>.int (i % j)):=opI fun i j _ _ _ _ _ hc q=>by
 have h1:(0:Int) < j:=hc
 exact mod_int' (by omega) (by rw [Int.fmod_eq_emod_of_nonneg i (by omega)]; exact q)
theorem jmi:OpR X (binaryOp .LShift) (rI CPow fun i j=>.int (i * 2 ^ j.toNat)):=opI fun _ _ _ _ _ _ _ hc q=>lshift_int_small hc.1 hc.2.1 hc.2.2 q
theorem jmj:OpR X (binaryOp .RShift) (rI (fun _ j=>0<=j) fun i j=>.int (i / 2 ^ j.toNat)):=opI fun i j _ _ _ _ _ hc q =>
 rshift_int hc (by rw [Int.fdiv_eq_ediv_of_nonneg i (jit _)]; exact q)
theorem jmk:OpR X (binaryOp .BitAnd) (rI0 fun i j=>.int (Builtin.bitAnd i j)):=opI0 fun _ _ _ _ _ _ _ q=>and_int q
theorem jni:OpR X (binaryOp .BitOr) (rI0 fun i j=>.int (Builtin.bitOr i j)):=opI0 fun _ _ _ _ _ _ _ q=>or_int q
theorem unI {f:Value->Sem Value} {g:Int->Int}
  (rule:∀ (i:Int) (t:Tok) (s:Shared) (Q:Value->Shared->Prop) (E:Value->Shared->Prop),Q (.int (g i) s.toks) {s with toks:=s.toks+1}->wpAny (model X.prog X.w) X.A (f (.int i t)) Q E s) :
  UnR X f (rU fun i=>.int (g i)):=by
 intro pins s σ H x v Q I rx h
 obtain ⟨i,rfl,q⟩:=h
 obtain ⟨t,rfl⟩:=rx
 exact rule i t s _ _ ⟨.int (g i),H,I.tok _,⟨_,rfl⟩,q⟩
theorem jdr:UnR X (unaryOp .USub) (rU fun i=>.int (-i)):=unI fun _ _ _ _ _ q=>neg_int q
end
def scal:V->V->Bool
 | .non,.non=>true | .non,.int _=>true | .int _,.non=>true | .non,.bl _=>true | .bl _,.non=>true | .non,.str _=>true | .str _,.non=>true
 | .int _,.int _=>true | .bl _,.bl _=>true | .str _,.str _=>true | .byt _,.byt _=>true
 | .int _,.str _=>true | .str _,.int _=>true | .bl _,.str _=>true | .str _,.bl _=>true
 | _,_=>false
def rEq:R2:=fun x y H Q=>scal x y=true/\Q (.bl (decide (x=y))) H
def rNe:R2:=fun x y H Q=>scal x y=true/\Q (.bl (!decide (x=y))) H
theorem jji {i j:Int}:decide (V.int i=V.int j)=(i==j):=by
 rw [Bool.eq_iff_iff]
 simp
theorem jml {i j:Bool}:decide (V.bl i=V.bl j)=(i==j):=by
 rw [Bool.eq_iff_iff]
 simp
theorem jjj {i j:Str}:decide (V.str i=V.str j)=(i==j):=by
 rw [Bool.eq_iff_iff]
 simp
theorem jjk {i j:Array UInt8}:decide (V.byt i=V.byt j)=(i.toList==j.toList):=by
 rw [Bool.eq_iff_iff]
 cases i
 cases j
 simp
section
variable {X:Cx} {a b c:Expr} {ta tb tc:TE} {pos:Pos}
theorem jaF {pins:List (Addr×Obj)} {σ:St} {H:Hp} {s:Shared} {Q:VK} {k k':Bool} (I:Inv X pins σ H s) (q:Q (.bl k) H) (e:k=k'):EP X pins σ Q (.bool k') s:=by
 subst e
 exact ⟨.bl k,H,I,rfl,q⟩
theorem jbR:OpR X (compareOp .Eq) rEq:=by
 intro pins s σ H x y v u Q I rx ry h
 obtain ⟨hs,q⟩:=h
 cases x with
 | non =>
  cases rx
  cases y with
  | non=>cases ry; exact PySem.EqNone.eq_none_none (jaF I q (by simp))
  | bl j=>cases ry; exact PySem.EqNone.eq_none_bool (jaF I q (by simp))
  | int j=>obtain ⟨t',rfl⟩:=ry; exact PySem.EqNone.eq_none_int (jaF I q (by simp))
  | str j=>obtain ⟨t',rfl⟩:=ry; exact PySem.EqNone.eq_none_str (jaF I q (by simp))
  | _=>exact absurd (show false=true from hs) Bool.false_ne_true
 | bl i =>
  cases rx
  cases y with
  | non=>cases ry; exact PySem.EqNone.eq_bool_none (jaF I q (by simp))
  | bl j=>cases ry; exact eq_bool (jaF I q jml)
  | str j=>obtain ⟨t',rfl⟩:=ry; exact PySem.EqMixed.eq_bool_str (jaF I q (by simp))
  | _=>exact absurd (show false=true from hs) Bool.false_ne_true
 | int i =>
  obtain ⟨t,rfl⟩:=rx
  cases y with
  | non=>cases ry; exact PySem.EqNone.eq_int_none (jaF I q (by simp))
  | int j=>obtain ⟨t',rfl⟩:=ry; exact eq_int (jaF I q jji)
  | str j=>obtain ⟨t',rfl⟩:=ry; exact PySem.EqMixed.eq_int_str (jaF I q (by simp))
  | _=>exact absurd (show false=true from hs) Bool.false_ne_true
 | str i =>
  obtain ⟨t,rfl⟩:=rx
  cases y with
  | non=>cases ry; exact PySem.EqNone.eq_str_none (jaF I q (by simp))
  | bl j=>cases ry; exact PySem.EqMixed.eq_str_bool (jaF I q (by simp))
  | int j=>obtain ⟨t',rfl⟩:=ry; exact PySem.EqMixed.eq_str_int (jaF I q (by simp))
  | str j=>obtain ⟨t',rfl⟩:=ry; exact eq_str (jaF I q jjj)
  | _=>exact absurd (show false=true from hs) Bool.false_ne_true
 | byt i =>
  obtain ⟨t,rfl⟩:=rx
  cases y with
  | byt j=>obtain ⟨t',rfl⟩:=ry; exact PySem.W.eq_bytes (jaF I q jjk)
  | _=>exact absurd (show false=true from hs) Bool.false_ne_true
 | _=>cases y <;> exact absurd (show false=true from hs) Bool.false_ne_true
theorem jfR:OpR X (compareOp .NotEq) rNe:=by
 intro pins s σ H x y v u Q I rx ry h
 obtain ⟨hs,q⟩:=h
 cases x with
 | non =>
  cases rx
  cases y with
  | non=>cases ry; exact PySem.EqNone.ne_none_none (jaF I q (by simp))
  | bl j=>cases ry; exact PySem.EqNone.ne_none_bool (jaF I q (by simp))
  | int j=>obtain ⟨t',rfl⟩:=ry; exact PySem.EqNone.ne_none_int (jaF I q (by simp))
  | str j=>obtain ⟨t',rfl⟩:=ry; exact PySem.EqNone.ne_none_str (jaF I q (by simp))
  | _=>exact absurd (show false=true from hs) Bool.false_ne_true
 | bl i =>
  cases rx
  cases y with
  | non=>cases ry; exact PySem.EqNone.ne_bool_none (jaF I q (by simp))
  | bl j=>cases ry; exact ne_bool (jaF I q (congrArg not jml))
  | str j=>obtain ⟨t',rfl⟩:=ry; exact PySem.EqMixed.ne_bool_str (jaF I q (by simp))
  | _=>exact absurd (show false=true from hs) Bool.false_ne_true
 | int i =>
  obtain ⟨t,rfl⟩:=rx
  cases y with
  | non=>cases ry; exact PySem.EqNone.ne_int_none (jaF I q (by simp))
  | int j=>obtain ⟨t',rfl⟩:=ry; exact ne_int (jaF I q (congrArg not jji))
  | str j=>obtain ⟨t',rfl⟩:=ry; exact PySem.EqMixed.ne_int_str (jaF I q (by simp))
  | _=>exact absurd (show false=true from hs) Bool.false_ne_true
 | str i =>
  obtain ⟨t,rfl⟩:=rx
  cases y with
  | non=>cases ry; exact PySem.EqNone.ne_str_none (jaF I q (by simp))
  | bl j=>cases ry; exact PySem.EqMixed.ne_str_bool (jaF I q (by simp))
  | int j=>obtain ⟨t',rfl⟩:=ry; exact PySem.EqMixed.ne_str_int (jaF I q (by simp))
  | str j=>obtain ⟨t',rfl⟩:=ry; exact ne_str (jaF I q (congrArg not jjj))
  | _=>exact absurd (show false=true from hs) Bool.false_ne_true
 | byt i =>
  obtain ⟨t,rfl⟩:=rx
  cases y with
  | byt j=>obtain ⟨t',rfl⟩:=ry; exact PySem.W.ne_bytes (jaF I q (congrArg not jjk))
  | _=>exact absurd (show false=true from hs) Bool.false_ne_true
 | _=>cases y <;> exact absurd (show false=true from hs) Bool.false_ne_true
theorem jiu:OpR X (compareOp .Lt) (rI0 fun i j=>.bl (decide (i < j))):=opB0 fun _ _ _ _ _ _ _ q=>lt_int q
theorem jdL:OpR X (compareOp .LtE) (rI0 fun i j=>.bl (decide (i<=j))):=opB0 fun _ _ _ _ _ _ _ q=>le_int q
theorem jjl:OpR X (compareOp .Gt) (rI0 fun i j=>.bl (decide (j < i))):=opB0 fun _ _ _ _ _ _ _ q=>gt_int q
theorem joy:OpR X (compareOp .GtE) (rI0 fun i j=>.bl (decide (j<=i))):=opB0 fun _ _ _ _ _ _ _ q=>ge_int q
theorem jjm:OpR X (compareOp .In) (fun x y H Q=>∃ i j,x=.str i/\y=.str j/\Q (.bl (!(Builtin.Str.occurrences j i 0 j.length 1).isEmpty)) H):=by
 intro pins s σ H x y v u Q I rx ry h
 obtain ⟨i,j,rfl,rfl,q⟩:=h
 obtain ⟨t,rfl⟩:=rx
 obtain ⟨t',rfl⟩:=ry
 exact in_str (jaF I q rfl)
theorem jax (b:Expr) {op:CmpOp} (h:op≠.In:=by decide) (h2:op≠.NotIn:=by decide):behindInMarks op b=false:=by
 have e1:(op==CmpOp.In)=false:=by cases op <;> first | rfl | exact absurd rfl h
 have e2:(op==CmpOp.NotIn)=false:=by cases op <;> first | rfl | exact absurd rfl h2
 cases b <;> simp [behindInMarks,e1,e2]
theorem jaY {op:CmpOp} {r:R2} (ho:OpR X (compareOp op) r) (ha:PE X a ta) (hb:PE X b tb) (hm:behindInMarks op b=false):PE X (.Compare a [op] [b] pos) (tOp r ta tb):=by
 intro pins s σ H Q I h
 exact wpAny_Compare1 (binT ha hb I h fun v u s2 x y H2 I2 rx ry q=>ho pins s2 σ H2 x y v u Q I2 rx ry q) hm
def jjn (t:TE):TT:=fun σ H Q=>t σ H fun x H'=>∃ k,x=.bl k/\Q k H'
theorem jat {op:CmpOp} {r:R2} (ho:OpR X (compareOp op) r) (ha:PE X a ta) (hb:PE X b tb) (hm:behindInMarks op b=false):PT X (.Compare a [op] [b] pos) (jjn (tOp r ta tb)):=by
 intro pins s σ H Q I h
 refine wpAny_isTrue_Compare1 (thn (ha pins s σ H _ I h) fun v s1 ⟨x,H1,I1,r1,q1⟩=>thn (hb pins s1 σ H1 _ I1 q1) fun u s2 ⟨y,H2,I2,r2,q2⟩ =>
  thn (ho pins s2 σ H2 x y v u _ I2 r1 r2 q2) fun c s3 ⟨z,H3,I3,r3,k,e,q3⟩=>?_) hm
 subst e
 cases r3
 exact wpAny_truthy_bool ⟨H3,I3,q3⟩
def jmm (r r':R2) (ta tb tc:TE):TE:=fun σ H Q=>ta σ H fun x H1=>tb σ H1 fun y H2=>r x y H2 fun z H3=>∃ k,z=.bl k /\
 (if k=true then tc σ H3 fun w' H4=>r' y w' H4 Q else Q (.bl false) H3)
theorem jhz {op op':CmpOp} {r r':R2} (ho:OpR X (compareOp op) r) (ho':OpR X (compareOp op') r') (ha:PE X a ta) (hb:PE X b tb) (hc:PE X c tc)
  (hm:lastMarks [op,op'] [b,c]=false:=by with_unfolding_all rfl):PE X (.Compare a [op,op'] [b,c] pos) (jmm r r' ta tb tc):=by
 intro pins s σ H Q I h
 refine Compare_chain (thn (ha pins s σ H _ I h) fun v s1 ⟨x,H1,I1,r1,q1⟩=>chain_link (thn (hb pins s1 σ H1 _ I1 q1) fun u s2 ⟨y,H2,I2,r2,q2⟩ =>
  thn (ho pins s2 σ H2 x y v u _ I2 r1 r2 q2) fun d s3 ⟨z,H3,I3,r3,k,e,q3⟩=>?_)) hm
 subst e
 cases r3
 refine wpAny_truthy_bool ?_
 cases k with
 | false=>exact ite_ff ⟨.bl false,H3,I3,rfl,q3⟩
 | true=>exact ite_tt (chain_last (thn (hc pins s3 σ H3 _ I3 q3) fun w' s4 ⟨z',H4,I4,r4,q4⟩=>ho' pins s4 σ H4 y z' u w' Q I4 r2 r4 q4))
theorem jhA {op op':CmpOp} {r r':R2} (ho:OpR X (compareOp op) r) (ho':OpR X (compareOp op') r') (ha:PE X a ta) (hb:PE X b tb) (hc:PE X c tc)
  (hm:lastMarks [op,op'] [b,c]=false:=by with_unfolding_all rfl):PT X (.Compare a [op,op'] [b,c] pos) (jjn (jmm r r' ta tb tc)):=by
 intro pins s σ H Q I h
 refine isTrue_chain (thn (ha pins s σ H _ I h) fun v s1 ⟨x,H1,I1,r1,q1⟩=>test_link (thn (hb pins s1 σ H1 _ I1 q1) fun u s2 ⟨y,H2,I2,r2,q2⟩ =>
  thn (ho pins s2 σ H2 x y v u _ I2 r1 r2 q2) fun d s3 ⟨z,H3,I3,r3,k,e,q3⟩=>?_)) hm
 subst e
 cases r3
 refine wpAny_truthy_bool ?_
 cases k with
 | false =>
  obtain ⟨k',e',q'⟩:=q3
  cases e'
  exact ite_ff ⟨H3,I3,q'⟩
 | true =>
  refine ite_tt (test_last (thn (hc pins s3 σ H3 _ I3 q3) fun w' s4 ⟨z',H4,I4,r4,q4⟩=>thn (ho' pins s4 σ H4 y z' u w' _ I4 r2 r4 q4) fun d' s5 ⟨z2,H5,I5,r5,k2,e2,q5⟩=>?_))
  subst e2
  cases r5
  exact wpAny_truthy_bool ⟨H5,I5,q5⟩
def TruV (K:PySem.W.Frag) (x:V) (H:Hp) (k:Bool):Prop :=
 match x with
 | .non=>k=false
 | .bl b=>k=b
 | .int i=>k=(i != 0)
 | .str y=>y.length<=sizeLine/\k=((y.length:Int) != 0)
 | .byt y=>y.size<=sizeLine/\k=((y.size:Int) != 0)
 | .ref p=>(∃ xs,SqL K H p xs/\k=!xs.isEmpty)\/(∃ xs,SqT K H p xs/\k=!xs.isEmpty)\/∃ kvs,H p=some (.dK kvs)/\k=!kvs.isEmpty
 | _=>False
theorem jiv {κ:Type} {kvs:List (κ×V)} {vs:List (κ×Value)} (r:KV kvs vs):(!vs.isEmpty)=!kvs.isEmpty:=by
 cases r <;> rfl
theorem jeJ {xs:List V} {its:List Value} (r:Vals xs its):(!its.toArray.isEmpty)=!xs.isEmpty:=by
 cases r <;> simp
theorem jcH:(sizeLine:Nat) < 2 ^ 63:=by rw [sizeLine_eq]; decide
theorem joz:TruR X (fun x H Q=>∃ k,TruV X.K x H k/\Q k H):=by
 intro pins s σ H x v Q I rx h
 obtain ⟨k,e,q⟩:=h
 have hl:=jcH
 have hs:sizeLine=16777216:=sizeLine_eq
 cases x with
 | non =>
  cases rx
  have e':k=false:=e
  subst e'
  exact truthy_none ⟨H,I,q⟩
 | bl b =>
  cases rx
  have e':k=b:=e
  subst e'
  exact wpAny_truthy_bool ⟨H,I,q⟩
 | int i =>
  obtain ⟨t,rfl⟩:=rx
  have e':k=(i != 0):=e
  subst e'
  exact PySem.P.truthy_int ⟨H,I,q⟩
 | str y =>
  obtain ⟨t,rfl⟩:=rx
  obtain ⟨hy,e'⟩:y.length<=sizeLine/\k=((y.length:Int) != 0):=e
  subst e'
  exact PySem.P.truthy_str (by omega) ⟨H,I.tok _,q⟩
 | byt y =>
  obtain ⟨t,rfl⟩:=rx
  obtain ⟨hy,e'⟩:y.size<=sizeLine/\k=((y.size:Int) != 0):=e
  subst e'
  exact PySem.W.truthy_bytes (by omega) ⟨H,I.tok _,q⟩
 | ref p =>
  cases rx
  have e':(∃ xs,SqL X.K H p xs/\k=!xs.isEmpty)\/(∃ xs,SqT X.K H p xs/\k=!xs.isEmpty)\/∃ kvs,H p=some (.dK kvs)/\k=!kvs.isEmpty:=e
  rcases e' with ⟨xs,hx,e'⟩ | ⟨xs,hx,e'⟩ | ⟨kvs,hx,e'⟩
  ·subst e'
   obtain ⟨its,r,pl,hz⟩:=I.list hx
   have hlen:=r.length
   exact wpAny_truthy_list pl.isList (by simp only [List.size_toArray]; omega) ⟨H,I.tok _,by rw [jeJ r]; exact q⟩
  ·subst e'
   obtain ⟨its,r,pl,hz⟩:=I.tuple hx
   have hlen:=r.length
   exact truthy_tuple pl (by simp only [List.size_toArray]; omega) ⟨H,I.tok _,by rw [jeJ r]; exact q⟩
  ·subst e'
   obtain ⟨hz,hS,vs,r,m⟩:kvs.length<=sizeLine/\(p==sysModules)=false/\∃ vs,KV kvs vs/\s.heap.DictOf (jaD X.prog X.w) p vs:=I.hok p _ hx
   have hlen:kvs.length=vs.length:=Paired.length r
   exact wpAny_truthy_dict hS m (by omega) ⟨H,I.tok _,by rw [jiv r]; exact q⟩
 | _=>exact (show False from e).elim
theorem jfd (ha:PE X a ta) (he:∀ whole,isTrue a X.env whole=(do let v <- whole; standAt a.pos; holding [v] (truthy v))) :
  PT X a (fun σ H Q=>ta σ H fun x H'=>∃ k,TruV X.K x H' k/\Q k H'):=by
 intro pins s σ H Q I h
 exact isTrue_plain (thn (ha pins s σ H _ I h) fun v s1 ⟨x,H1,I1,r1,q1⟩=>joz pins s1 σ H1 x v Q I1 r1 q1) (he _)
theorem jbl:OpR X (binaryOp .Add) (fun x y H Q=>∃ i j,x=.str i/\y=.str j/\i.length+j.length<=sizeLine/\Q (.str (i++j)) H):=by
 intro pins s σ H x y v u Q I rx ry h
 obtain ⟨i,j,rfl,rfl,hz,q⟩:=h
 obtain ⟨t,rfl⟩:=rx
 obtain ⟨t',rfl⟩:=ry
 exact add_str (fun t' tk=>⟨.str (i++j),H,I.tok _,⟨_,rfl⟩,q⟩) hz
theorem jdM {x:V} {us:List Value} (r:Vals [x] us):∃ u,us=[u]/\RelV x u:=by
 cases r with
 | cons r1 r2=>cases r2; exact ⟨_,rfl,r1⟩
theorem jlp {x y:V} {us:List Value} (r:Vals [x,y] us):∃ u w',us=[u,w']/\RelV x u/\RelV y w':=by
 cases r with
 | cons r1 r2 =>
  cases r2 with
  | cons r3 r4=>cases r4; exact ⟨_,_,rfl,r1,r3⟩
theorem jjo (hc:X.calm=true):jcx X (.builtin "max") (fun xs H Q=>∃ i j,xs=[.int i,.int j]/\Q (.int (if j > i then j else i)) H):=by
 intro pins s σ H xs us Q I r h
 obtain ⟨i,j,rfl,q⟩:=h
 obtain ⟨u,w',rfl,⟨t,rfl⟩,⟨t',rfl⟩⟩:=jlp r
 refine max_two_ints (I.ok.hd hc) fun h' tk k=>⟨_,H,I.kept k,?_,q⟩
 by_cases hj:j > i
 ·rw [if_pos hj,if_pos hj]; exact ⟨_,rfl⟩
 ·rw [if_neg hj,if_neg hj]; exact ⟨_,rfl⟩
theorem jjp (hc:X.calm=true):jcx X (.builtin "min") (fun xs H Q=>∃ i j,xs=[.int i,.int j]/\Q (.int (if j < i then j else i)) H):=by
 intro pins s σ H xs us Q I r h
 obtain ⟨i,j,rfl,q⟩:=h
 obtain ⟨u,w',rfl,⟨t,rfl⟩,⟨t',rfl⟩⟩:=jlp r
 refine min_two_ints (I.ok.hd hc) fun h' tk k=>⟨_,H,I.kept k,?_,q⟩
 by_cases hj:j < i
 ·rw [if_pos hj,if_pos hj]; exact ⟨_,rfl⟩
 ·rw [if_neg hj,if_neg hj]; exact ⟨_,rfl⟩
def LenV (K:PySem.W.Frag) (x:V) (H:Hp) (n:Nat):Prop :=
 match x with
 | .str y=>y.length<=sizeLine/\n=y.length
 | .byt y=>y.size<=sizeLine/\n=y.size
 | .ref p=>(∃ xs,SqL K H p xs/\n=xs.length)\/∃ xs,SqT K H p xs/\n=xs.length
 | _=>False
theorem jhB:jcx X (.builtin "len") (fun xs H Q=>∃ x n,xs=[x]/\LenV X.K x H n/\Q (.int n) H):=by
 intro pins s σ H xs us Q I r h
 obtain ⟨x,n,rfl,e,q⟩:=h
 obtain ⟨u,rfl,rx⟩:=jdM r
 have hl:=jcH
 have hs:sizeLine=16777216:=sizeLine_eq
 cases x with
 | str y =>
  obtain ⟨t,rfl⟩:=rx
  obtain ⟨hy,e'⟩:y.length<=sizeLine/\n=y.length:=e
  subst e'
  exact len_str (by omega) ⟨.int _,H,I.tok _,⟨_,rfl⟩,q⟩
 | byt y =>
  obtain ⟨t,rfl⟩:=rx
  obtain ⟨hy,e'⟩:y.size<=sizeLine/\n=y.size:=e
  subst e'
  exact PySem.W.len_bytes (by omega) ⟨.int _,H,I.tok _,⟨_,rfl⟩,q⟩
 | ref p =>
  cases rx
  have e':(∃ xs,SqL X.K H p xs/\n=xs.length)\/∃ xs,SqT X.K H p xs/\n=xs.length:=e
  rcases e' with ⟨xs,hx,e'⟩ | ⟨xs,hx,e'⟩
  ·subst e'
   obtain ⟨its,r',pl,hz⟩:=I.list hx
   have hlen:=r'.length
   exact Calls.call_len_list pl.isList (by simp only [List.size_toArray]; omega) ⟨.int xs.length,H,I.tok _,⟨_,by simp only [List.size_toArray]; rw [hlen]⟩,q⟩
  ·subst e'
   obtain ⟨its,r',pl,hz⟩:=I.tuple hx
   have hlen:=r'.length
   exact len_tuple pl (by simp only [List.size_toArray]; omega) ⟨.int xs.length,H,I.tok _,⟨_,by simp only [List.size_toArray]; rw [hlen]⟩,q⟩
 | _=>exact (show False from e).elim
end
structure ObjM (h:Heap) (x dx C:Addr) (mA:Str->Option Value):Prop where
 obj:h.get? x=some (PySem.W.instObj C dx)
 ns:h.Ns1 dx mA
 ne:dx≠x
theorem jjq {h:Heap} {dx:Addr} {mA:Str->Option Value} (n:h.Ns1 dx mA):∃ od,h.get? dx=some od/\∀ name,PySem.W.lookIn name od=some (mA name):=by
 obtain ⟨o,es,ep,ho,hd,hk,_,hm⟩:=n
 refine ⟨o,ho,fun name=>?_⟩
 have e:=hm name
 unfold nsFind findBy at e
 rw [<- Array.find?_toList] at e
 unfold PySem.W.lookIn
 rw [hd]
 dsimp only
 split
 ·rename_i y q
  rw [q] at e
  exact congrArg some e
 ·rename_i q
  rw [q] at e
  have a:es.toList.any (·.refKey)=false:=by
   rw [List.any_eq_false]
   intro y hy
   obtain ⟨z,t,hkey⟩:=hk y (Array.mem_toList_iff.mp hy)
   simp [DictEntry.refKey,hkey]
  have a':¬ es.toList.any (·.refKey)=true:=by rw [a]; exact Bool.false_ne_true
  rw [if_neg a']
  exact congrArg some e
theorem ObjM.look {h:Heap} {x dx C:Addr} {mA:Str->Option Value} (I:ObjM h x dx C mA):∃ od,PySem.W.InstAt h x (PySem.W.instObj C dx) C (some od)/\∀ name,PySem.W.lookIn name od=some (mA name) :=
 let ⟨od,ho,hl⟩:=jjq I.ns
 ⟨od,⟨I.obj,rfl,rfl,ho⟩,hl⟩
section
variable {prog:Program} {w:World} {A:Around} {E:Value->Shared->Prop} {s:Shared} {K:PySem.W.Frag} {x dx C f:Addr} {mA:Str->Option Value} {name:Str} {v:Value}
theorem jnj {expr:Bool} {Q:Value->Shared->Prop} (X:K.In s.heap) (I:ObjM s.heap x dx C mA) (hg:PySem.W.plainGet K C name=true) (hh:PySem.W.hasDictIn K C=true)
  (ha:PySem.W.findIn K (.ref C) name=some none) (hv:mA name=some v) (hv':PySem.W.handedIn v=true) (h:Q v {s with toks:=s.toks+1}) :
  wpAny (model prog w) A (getAttr (.ref x) name expr) Q E s:=by
 obtain ⟨od,J,hl⟩:=I.look
 exact PySem.W.get_value X J (PySem.W.plainGet_of hg).1 (PySem.W.findObj_own hh ha rfl (by rw [hl,hv])) hv' h
theorem jlq {pl:Sem Bool} {Q:Value×List Value->Shared->Prop} (X:K.In s.heap) (I:ObjM s.heap x dx C mA) (hg:PySem.W.plainGet K C name=true)
  (hf:PySem.W.findIn K (.ref C) name=some (some (.ref f))) (ht:PySem.W.isFn K (.ref f)=true) (hv:mA name=none) (h:Q (.ref f,[.ref x]) s) :
  wpAny (model prog w) A (getMethod (.ref x) name pl) Q E s:=by
 obtain ⟨od,J,hl⟩:=I.look
 exact PySem.W.method_fn X J (PySem.W.plainGet_of hg).1 (PySem.W.plainGet_of hg).2 hf (beq_iff_eq.mp ht) (by show (PySem.W.lookIn name od).map (·.isSome)=some false; rw [hl,hv]; rfl) h
theorem jnk {ns:List Str} {Q:Unit->Shared->Prop} (X:K.In s.heap) (I:ObjM s.heap x dx C mA)
  (hs:PySem.W.findIn K (.ref C) "__setattr__"=some (some (.builtin "object.__setattr__"))) (hp:PySem.W.plainOver K C=true) (ht:PySem.W.takerIn K C name=some none) (hh:PySem.W.hasDictIn K C=true)
  (hw:PySem.Within mA ns) (hsz:ns.length<=sizeLine)
  (h:∀ h',ObjM h' x dx C (fun y=>if y=name then some v else mA y)->Heap.SameBut dx s.heap h'->Q () {s with heap:=h',toks:=s.toks+2}) :
  wpAny (model prog w) A (setAttr (.ref x) name v) Q E s:=by
 obtain ⟨od,J,hl⟩:=I.look
 refine PySem.W.set_plain X J hs (PySem.W.osa_open (s:={s with toks:=s.toks+1}) (r:=none) X J hp ht fun b=>?_)
 obtain ⟨cd,hc,hd'⟩:=PySem.W.any_some hh
 have hx:s.heap.get? x=some ⟨.ref C,some dx,.plain,#[]⟩:=I.obj
 refine wpAny_bind (wpAny_pure (wpAny_bind (wpAny_bind (wpAny_loadPart hx (wpAny_bind (PySem.W.Looks.here (s:={s with toks:=s.toks+1}) (PySem.W.looks_clsIn X hc) ?_))))))
 rw [hd']
 refine wpAny_pure (a:=some dx) (wpAny_bind (wpAny_pure (wpAny_bind ?_)))
 refine wpAny_nsSet1 (s:={s with toks:=s.toks+1}) I.ns fun h' hn2 hs2=>?_
 obtain ⟨oD,esD,epD,hoD,hdD,hcD⟩:=hn2.count (PySem.Within.cons name v hw)
 refine wpAny_bind (wpAny_lookBehind hoD (by rw [hdD]; exact pastItsLine_dict (Nat.le_trans hcD (by rw [List.length_cons]; omega))) ?_)
 exact wpAny_pure (h _ ⟨(hs2.2 _ (Ne.symm I.ne)).trans I.obj,hn2,I.ne⟩ hs2)
theorem jlr {R:Result->Shared->Prop} {vs:List Value} {kw:List (Str×Value)} (X:K.In s.heap) (hm:PySem.W.makesIn K C=true)
  (hi:PySem.W.findIn K (.ref C) "__init__"=some (some (.ref f))) (hf:PySem.W.typeIn K (.ref f)=some (.type "function"))
  (h:codeAny (model prog w) (A.under (.builtin "type.__call__" ⟨.ref C::vs,kw⟩)) (.call (.ref f) ⟨.ref (s.heap.objs.size+1)::vs,kw⟩) (PySem.W.InitBack (s.heap.objs.size+1) R)
   {s with heap:=(s.heap.push PySem.W.emptyDict).push (PySem.W.instObj C s.heap.objs.size)}) :
  codeAny (model prog w) A (.call (.ref C) ⟨vs,kw⟩) R s:=by
 obtain ⟨hh,g,d,t,os⟩:=s
 exact PySem.W.make_core (PySem.W.makes_of X hm) (PySem.W.looks_findIn X hi) (fun self=>PySem.W.bind_fn X self hf) (.inl rfl) h
end
def jaM (f:Str) (v:V):List (Str×V)->List (Str×V)
 | []=>[(f,v)]
 | (g,x)::r=>if g=f then (g,v)::r else (g,x)::jaM f v r
theorem jbm (f g:Str) (v:V):∀ fs:List (Str×V),(jaM f v fs).lookup g=if g=f then some v else fs.lookup g
 | []=>by
  show List.lookup g [(f,v)]=_
  by_cases h:g=f
  ·have hb:(g==f)=true:=beq_iff_eq.mpr h
   simp only [List.lookup,hb,if_pos h]
  ·have hb:(g==f)=false:=beq_eq_false_iff_ne.mpr h
   simp only [List.lookup,hb,if_neg h]
 | (k,x)::r=>by
  have ih:=jbm f g v r
  rw [show jaM f v ((k,x)::r)=(if k=f then (k,v)::r else (k,x)::jaM f v r) from rfl]
  by_cases hk:k=f
  ·rw [if_pos hk]
   by_cases h:g=k
   ·have hb:(g==k)=true:=beq_iff_eq.mpr h
    simp only [List.lookup,hb,if_pos (h.trans hk)]
   ·have hb:(g==k)=false:=beq_eq_false_iff_ne.mpr h
    simp only [List.lookup,hb,if_neg (fun e:g=f=>h (e.trans hk.symm))]
  ·rw [if_neg hk]
   by_cases h:g=k
   ·have hb:(g==k)=true:=beq_iff_eq.mpr h
    simp only [List.lookup,hb,if_neg (fun e:g=f=>hk (h.symm.trans e))]
   ·have hb:(g==k)=false:=beq_eq_false_iff_ne.mpr h
    simp only [List.lookup,hb]
    exact ih
theorem jdN (f:Str) (v:V):∀ fs:List (Str×V),f∈(jaM f v fs).map (·.1)/\∀ g,g∈fs.map (·.1)->g∈(jaM f v fs).map (·.1)
 | []=>⟨by simp [jaM],fun g h=>by simp at h⟩
 | (k,x)::r=>by
  obtain ⟨i1,i2⟩:=jdN f v r
  rw [show jaM f v ((k,x)::r)=(if k=f then (k,v)::r else (k,x)::jaM f v r) from rfl]
  by_cases hk:k=f
  ·rw [if_pos hk]
   subst hk
   exact ⟨by simp,fun g h=>by simpa using h⟩
  ·rw [if_neg hk]
   refine ⟨?_,fun g h=>?_⟩
   ·rw [List.map_cons]
    exact List.mem_cons_of_mem _ i1
   ·rw [List.map_cons] at h ⊢
    rcases List.mem_cons.mp h with e | e
    ·exact List.mem_cons.mpr (.inl e)
    ·exact List.mem_cons_of_mem _ (i2 g e)
theorem jcz (f:Str) (v:V):∀ fs:List (Str×V),(jaM f v fs).length<=fs.length+1
 | []=>by simp [jaM]
 | (k,x)::r=>by
  have ih:=jcz f v r
  rw [show jaM f v ((k,x)::r)=(if k=f then (k,v)::r else (k,x)::jaM f v r) from rfl]
  by_cases hk:k=f
  ·rw [if_pos hk,List.length_cons,List.length_cons]; omega
  ·rw [if_neg hk,List.length_cons,List.length_cons]; omega
theorem RelO.some_of {v:V} {o:Option Value} (r:RelO (some v) o):∃ u,o=some u/\RelV v u:=by
 cases o with
 | none=>exact (show False from r).elim
 | some u=>exact ⟨u,rfl,r⟩
theorem RelO.none_of {o:Option Value} (r:RelO none o):o=none:=by
 cases o with
 | none=>rfl
 | some u=>exact (show False from r).elim
theorem jjr {v:V} {u:Value} (r:RelV v u):PySem.W.handedIn u=true:=by
 cases v with
 | non=>cases (show u=Value.none from r); rfl
 | bl b=>cases (show u=Value.bool b from r); rfl
 | int i=>obtain ⟨t,e⟩:=(show ∃ t,u=Value.int i t from r); cases e; rfl
 | str x=>obtain ⟨t,e⟩:=(show ∃ t,u=Value.str x t from r); cases e; rfl
 | byt b=>obtain ⟨t,e⟩:=(show ∃ t,u=Value.bytes b t from r); cases e; rfl
 | flt b=>obtain ⟨t,e⟩:=(show ∃ t,u=Value.float b t from r); cases e; rfl
 | ref a=>cases (show u=Value.ref a from r); rfl
 | ty n=>cases (show u=Value.type n from r); rfl
section
variable {P:Program} {w:World} {H H':Hp} {h h':Heap} {a C dx:Addr} {fs fs':List (Str×V)}
theorem jfe (hok:HOk P w H h) (e:H a=some (.ins C dx fs)):∃ mA,ObjM h a dx C mA/\(∀ f,RelO (fs.lookup f) (mA f))/\PySem.Within mA (fs.map (·.1))/\fs.length<=1000/\H dx=some (.own a):=by
 obtain ⟨d,z,ne,ob,mA,n,r,q⟩:=(show ObjOk P w H h a (.ins C dx fs) from hok a _ e)
 exact ⟨mA,⟨ob,n,ne⟩,r,q,z,d⟩
end
structure Cls (K:PySem.W.Frag) (C:Addr):Prop where
 pg:PySem.W.plainGet K C Str.empty=true
 hd:PySem.W.hasDictIn K C=true
 po:PySem.W.plainOver K C=true
 sa:PySem.W.findIn K (.ref C) "__setattr__"=some (some (.builtin "object.__setattr__"))
theorem Cls.get {K:PySem.W.Frag} {C:Addr} (c:Cls K C) (f:Str):PySem.W.plainGet K C f=true:=c.pg
def NoAttr (K:PySem.W.Frag) (C:Addr) (f:Str):Prop:=PySem.W.findIn K (.ref C) f=some none
theorem NoAttr.taker {K:PySem.W.Frag} {C:Addr} {f:Str} (n:NoAttr K C f):PySem.W.takerIn K C f=some none:=by
 unfold PySem.W.takerIn
 rw [show PySem.W.findIn K (.ref C) f=some none from n]
 rfl
structure Meth (K:PySem.W.Frag) (C:Addr) (m:Str) (f:Addr):Prop where
 at_:PySem.W.findIn K (.ref C) m=some (some (.ref f))
 fn:PySem.W.isFn K (.ref f)=true
 kp:PySem.W.keepIn K (.ref f)=true
section
variable {X:Cx} {pins:List (Addr×Obj)} {σ:St} {H:Hp} {s:Shared} {a C dx:Addr} {fs:List (Str×V)} {f:Str} {v:V} {A:Around} {E:Value->Shared->Prop}
theorem jeK {b:Bool} {Q:Value->Shared->Prop} (I:Inv X pins σ H s) (e:H a=some (.ins C dx fs)) (c:Cls X.K C) (n:NoAttr X.K C f) (l:fs.lookup f=some v)
  (h:∀ u s',Inv X pins σ H s'->RelV v u->Q u s'):wpAny (model X.prog X.w) A (getAttr (.ref a) f b) Q E s:=by
 obtain ⟨mA,O,r,_,_,_⟩:=jfe I.hok e
 obtain ⟨u,hu,ru⟩:=RelO.some_of (v:=v) (o:=mA f) (by rw [<- l]; exact r f)
 exact jnj I.kIn O (c.get f) c.hd n hu (jjr ru) (h u _ (I.tok _) ru)
theorem jiw {m:Str} {g:Addr} {pl:Sem Bool} {Q:Value×List Value->Shared->Prop} (I:Inv X pins σ H s) (e:H a=some (.ins C dx fs)) (c:Cls X.K C) (k:Meth X.K C m g) (l:fs.lookup m=none)
  (h:Q (.ref g,[.ref a]) s):wpAny (model X.prog X.w) A (getMethod (.ref a) m pl) Q E s:=by
 obtain ⟨mA,O,r,_,_,_⟩:=jfe I.hok e
 have hn:mA m=none:=RelO.none_of (by rw [<- l]; exact r m)
 exact jlq I.kIn O (c.get m) k.at_ k.fn hn h
theorem jeL {y:V} {u:Value} {Q:Unit->Shared->Prop} (I:Inv X pins σ H s) (e:H a=some (.ins C dx fs)) (c:Cls X.K C) (n:NoAttr X.K C f) (hl:fs.length < 1000) (ry:RelV y u)
  (h:∀ s',Inv X pins σ (upd H a (.ins C dx (jaM f y fs))) s'->Q () s'):wpAny (model X.prog X.w) A (setAttr (.ref a) f u) Q E s:=by
 obtain ⟨mA,O,r,wi,_,ho⟩:=jfe I.hok e
 have hz:(fs.map (·.1)).length<=sizeLine:=by rw [List.length_map,sizeLine_eq]; omega
 refine jnk I.kIn O c.sa c.po n.taker c.hd wi hz fun h' O' sb=>h _ ?_
 have hd:∃ o,h'.get? dx=some o:=let ⟨o,_,_,e',_⟩:=O'.ns; ⟨o,e'⟩
 refine I.write (x:=a) (e:=dx) (by rw [e]; exact True.intro) (.inr ho) (fun b q hb z=>(sb.2 b hb).trans z) hd ?_
 refine ⟨by rw [jao O.ne]; exact ho,?_,O.ne,O'.obj,_,O'.ns,fun g=>?_,fun g hg=>?_⟩
 ·have:=jcz f y fs; omega
 ·show RelO ((jaM f y fs).lookup g) (if g=f then some u else mA g)
  rw [jbm]
  by_cases q:g=f
  ·rw [if_pos q,if_pos q]; exact ry
  ·rw [if_neg q,if_neg q]; exact r g
 ·by_cases q:g=f
  ·rw [q]; exact (jdN f y fs).1
  ·refine (jdN f y fs).2 g (wi g fun z=>hg ?_)
   show (if g=f then some u else mA g)=none
   rw [if_neg q]; exact z
theorem Inv.made (I:Inv X pins σ H s):Inv X pins σ (upd (upd H s.heap.objs.size (.own (s.heap.objs.size+1))) (s.heap.objs.size+1) (.ins C s.heap.objs.size []))
  {s with heap:=(s.heap.push PySem.W.emptyDict).push (PySem.W.instObj C s.heap.objs.size)}:=by
 have e1:(s.heap.push PySem.W.emptyDict).get? s.heap.objs.size=some PySem.W.emptyDict:=Heap.get?_push_size s.heap rfl
 have e2:((s.heap.push PySem.W.emptyDict).push (PySem.W.instObj C s.heap.objs.size)).get? (s.heap.objs.size+1)=some (PySem.W.instObj C s.heap.objs.size):=by
  have:=Heap.get?_push_size (s.heap.push PySem.W.emptyDict) (o:=PySem.W.instObj C s.heap.objs.size) rfl
  rwa [Heap.size_push] at this
 have e3:(s.heap.push PySem.W.emptyDict).Ns s.heap.objs.size (fun _=>none):=⟨PySem.W.emptyDict,#[],_,e1,rfl,(fun e he=>absurd he (by simp)),fun _=>rfl⟩
 have I1:=I.laid (a:=s.heap.objs.size) (o:=.own (s.heap.objs.size+1)) (h':=s.heap.push PySem.W.emptyDict) (t':=s.toks) (fun b u q=>Heap.get?_push_of_some _ q) (Nat.le_refl _) ⟨_,e1⟩
 refine I1.laid (a:=s.heap.objs.size+1) (o:=.ins C s.heap.objs.size []) (t':=s.toks) (fun b u q=>Heap.get?_push_of_some _ q) (Nat.le_of_eq (Heap.size_push _ _)) ?_
 have ne:s.heap.objs.size≠s.heap.objs.size+1:=Nat.ne_of_lt (Nat.lt_succ_self _)
 refine ⟨by rw [jao ne,jac],Nat.zero_le _,ne,e2,fun _=>none,(Heap.Ns1.of_empty e3).at fun o q=>Heap.get?_push_of_some _ q,fun _=>True.intro,fun y hy=>absurd rfl hy⟩
theorem attr_of {prog:Program} {w:World} {env:Env} {e:Expr} {f:Str} {pos:Pos} {s:Shared} {Q:Value->Shared->Prop} (hb:attributeBase e f env (eval e env)=eval e env)
  (h:wpAny (model prog w) A (eval e env) (fun o s₁=>wpAny (model prog w) A (getAttr o f true) Q E s₁) E s):wpAny (model prog w) A (eval (.Attribute e f pos) env) Q E s :=
 Attribute_any_ h (by rw [arm_eval_Attribute,hb])
end
def jnl (K:PySem.W.Frag) (ta:TE) (f:Str):TE:=fun σ H Q=>ta σ H fun x H1=>∃ a C dx fs v,x=.ref a/\H1 a=some (.ins C dx fs)/\Cls K C/\NoAttr K C f/\fs.lookup f=some v/\Q v H1
def sFld (K:PySem.W.Frag) (ta tv:TE) (f:Str):TS:=fun D σ H=>tv σ H fun y H1=>ta σ H1 fun x H2=>∃ a C dx fs,x=.ref a/\H2 a=some (.ins C dx fs)/\Cls K C/\NoAttr K C f/\fs.length < 1000 /\
 D.nx σ (upd H2 a (.ins C dx (jaM f y fs)))
def InOp (X:Cx) (op:Operator) (rd:V->V->Hp->VK->Prop):Prop :=
 ∀ (pins:List (Addr×Obj)) (s:Shared) (σ:St) (H:Hp) (x y:V) (u v:Value) (Q:VK),Inv X pins σ H s->RelV x u->RelV y v->rd x y H Q->wpAny (model X.prog X.w) X.A (inplaceOp op u v) (EP X pins σ Q) X.xe s
def jjs (K:PySem.W.Frag) (ta tv:TE) (rd:V->V->Hp->VK->Prop) (f:Str):TS:=fun D σ H=>ta σ H fun x H1=>∃ a C dx fs v,x=.ref a/\H1 a=some (.ins C dx fs)/\Cls K C/\NoAttr K C f/\fs.lookup f=some v /\
 tv σ H1 fun y H2=>rd v y H2 fun z H3=>∃ dx' fs',H3 a=some (.ins C dx' fs')/\fs'.length < 1000/\D.nx σ (upd H3 a (.ins C dx' (jaM f z fs')))
section
variable {X:Cx} {o e value:Expr} {f:Str} {pos pos' tpos:Pos} {ta tv:TE}
theorem jaw (he:PE X e ta) (hb:attributeBase e f X.env (eval e X.env)=eval e X.env):PE X (.Attribute e f pos) (jnl X.K ta f):=by
 intro pins s σ H Q I h
 refine attr_of hb (thn (he pins s σ H _ I h) fun u s1 ⟨x,H1,I1,rx,a,C,dx,fs,v,ex,ea,c,n,l,q⟩=>?_)
 subst ex
 obtain rfl:u=Value.ref a:=rx
 exact jeK I1 ea c n l fun u' s2 I2 ru=>⟨v,H1,I2,ru,q⟩
theorem jbi (ha:PE X o ta) (hv:PE X value tv) (hs:swapsWith value (some (.Attribute o f pos')) pos.line X.env=pure false):PS X (.Assign [.Attribute o f pos'] value pos) (sFld X.K ta tv f):=by
 intro pins s σ H D I h
 refine plainObj_wpAny_Assign_Attribute (thn (hv pins s σ H _ I h) fun u s1 ⟨y,H1,I1,ry,q⟩=>thn (ha pins s1 σ H1 _ I1 q) fun ov s2 ⟨x,H2,I2,rx,a,C,dx,fs,ex,ea,c,n,l,q2⟩=>?_) hs
 subst ex
 obtain rfl:ov=Value.ref a:=rx
 exact jeL I2 ea c n l ry fun s3 I3=>⟨σ,_,I3,q2⟩
theorem jcI {op:Operator} {rd:V->V->Hp->VK->Prop} (ha:PE X o ta) (hv:PE X value tv) (hop:InOp X op rd):PS X (.AugAssign (.Attribute o f tpos) op value pos) (jjs X.K ta tv rd f):=by
 intro pins s σ H D I h
 refine wpAny_AugAssign_AttributeAny (thn (ha pins s σ H _ I h) fun ov s1 ⟨x,H1,I1,rx,a,C,dx,fs,v,ex,ea,c,n,l,q⟩=>?_)
 subst ex
 obtain rfl:ov=Value.ref a:=rx
 refine jeK I1 ea c n l fun u s2 I2 ru=>thn (hv pins s2 σ H1 _ I2 q) fun w3 s3 ⟨y,H2,I3,ry,q3⟩=>thn (hop pins s3 σ H2 v y u w3 _ I3 ru ry q3) fun w4 s4 ⟨z,H3,I4,rz,dx',fs',ea',l',q4⟩=>?_
 exact jeL I4 ea' c n l' rz fun s5 I5=>⟨σ,_,I5,q4⟩
def rAdd:V->V->Hp->VK->Prop:=fun x y H Q=>∃ i j,x=.int i/\y=.int j/\Q (.int (i+j)) H
theorem jhC:InOp X .Add rAdd:=by
 rintro pins s σ H x y u v Q I rx ry ⟨i,j,rfl,rfl,q⟩
 obtain ⟨t,rfl⟩:=(show ∃ t,u=Value.int i t from rx)
 obtain ⟨t',rfl⟩:=(show ∃ t',v=Value.int j t' from ry)
 exact PyProof.Rows.iadd_int ⟨.int (i+j),H,I.tok _,⟨_,rfl⟩,q⟩
end
section
variable {X:Cx} {pins:List (Addr×Obj)} {σ:St} {H:Hp} {s:Shared} {A:Around} {E:Value->Shared->Prop} {Q:Value->Shared->Prop} {c:Value} {b:Bool}
inductive TyOf (K:PySem.W.Frag) (H:Hp):V->Value->Prop where
 | non:TyOf K H .non (.type "NoneType")
 | bl (x:Bool):TyOf K H (.bl x) (.type "bool")
 | int (i:Int):TyOf K H (.int i) (.type "int")
 | str (x:Str):TyOf K H (.str x) (.type "str")
 | flt (x:UInt64):TyOf K H (.flt x) (.type "float")
 | lst {a:Addr} {xs:List V} (e:H a=some (.lst xs)):TyOf K H (.ref a) (.type "list")
 | frz {a:Addr} {o:Obj} {xs:List V} (e:H a=some (.frz o (.lst xs))):TyOf K H (.ref a) (.type "list")
 | tup {a:Addr} {xs:List V} (e:H a=some (.tup xs)):TyOf K H (.ref a) (.type "tuple")
 | dK {a:Addr} {kvs:List (Key×V)} (e:H a=some (.dK kvs)):TyOf K H (.ref a) (.type "dict")
 | dT {a:Addr} {kvs:List (List Key×V)} (e:H a=some (.dT kvs)):TyOf K H (.ref a) (.type "dict")
 | ins {a C dx:Addr} {fs:List (Str×V)} (e:H a=some (.ins C dx fs)) (cl:Cls K C) (ha:PySem.W.findIn K (.ref C) "__class__"=some (some (.builtin "object.__class__")))
   (hn:PySem.W.specialIn K (.builtin "object.__class__") "__get__"=some (some (.builtin "getset_descriptor.__get__"))) (htk:PySem.W.takesIn K (.builtin "object.__class__")=some true)
   (hm:PySem.W.mroIn K C (.type "object")=some true):TyOf K H (.ref a) (.ref C)
theorem jfS {x:V} {u t:Value} (I:Inv X pins σ H s) (rx:RelV x u) (ty:TyOf X.K H x t) (e:PySem.W.kitOne X.K t c=some b) (h:∀ tk,Q (.bool b) {s with toks:=tk}) :
  wpAny (model X.prog X.w) A (call (.builtin "isinstance") [u,c]) Q E s:=by
 cases ty with
 | non=>cases (show u=Value.none from rx); exact PySem.W.kia_one PySem.W.kitx_none I.kIn True.intro e (fun z=>nomatch z) h
 | bl y=>cases (show u=Value.bool y from rx); exact PySem.W.kia_one PySem.W.kitx_bool I.kIn True.intro e (fun z=>nomatch z) h
 | int i=>obtain ⟨t,q⟩:=(show ∃ t,u=Value.int i t from rx); cases q; exact PySem.W.kia_one PySem.W.kitx_int I.kIn True.intro e (fun z=>nomatch z) h
 | str y=>obtain ⟨t,q⟩:=(show ∃ t,u=Value.str y t from rx); cases q; exact PySem.W.kia_one PySem.W.kitx_str I.kIn True.intro e (fun z=>nomatch z) h
 | flt y=>obtain ⟨t,q⟩:=(show ∃ t,u=Value.float y t from rx); cases q; exact PySem.W.kia_one PySem.W.kitx_float I.kIn True.intro e (fun z=>nomatch z) h
 | @lst a xs ea =>
  cases (show u=Value.ref a from rx)
  obtain ⟨_,_,n,_,h1⟩:=(show ObjOk X.prog X.w H s.heap a (.lst xs) from I.hok a _ ea)
  exact PySem.W.kia_one PySem.W.kitx_list I.kIn ⟨_,h1,rfl⟩ e (fun z=>nomatch z) h
 | @frz a ob xs ea =>
  cases (show u=Value.ref a from rx)
  obtain ⟨_,_,_,n,_,h1⟩:=(show ObjOk X.prog X.w H s.heap a (.frz ob (.lst xs)) from I.hok a _ ea)
  exact PySem.W.kia_one PySem.W.kitx_list I.kIn ⟨_,h1,rfl⟩ e (fun z=>nomatch z) h
 | @tup a xs ea =>
  cases (show u=Value.ref a from rx)
  obtain ⟨_,_,_,p⟩:=(show ObjOk X.prog X.w H s.heap a (.tup xs) from I.hok a _ ea)
  obtain ⟨o,h1,h2,_⟩:=p
  exact PySem.W.kia_one PySem.W.kitx_tuple I.kIn ⟨o,h1,h2⟩ e (fun z=>nomatch z) h
 | @dK a kvs ea =>
  cases (show u=Value.ref a from rx)
  obtain ⟨_,_,vs,_,p⟩:=(show ObjOk X.prog X.w H s.heap a (.dK kvs) from I.hok a _ ea)
  obtain ⟨o,es,ep,h1,h2,_⟩:=p
  exact PySem.W.kia_one PySem.W.kitx_dict I.kIn ⟨o,h1,h2.1⟩ e (fun z=>nomatch z) h
 | @dT a kvs ea =>
  cases (show u=Value.ref a from rx)
  obtain ⟨_,_,xs,_,o,es,ep,h1,h2,_⟩:=(show ObjOk X.prog X.w H s.heap a (.dT kvs) from I.hok a _ ea)
  exact PySem.W.kia_one PySem.W.kitx_dict I.kIn ⟨o,h1,h2.1⟩ e (fun z=>nomatch z) h
 | @ins a C dx fs ea cl ha hn htk hm =>
  cases (show u=Value.ref a from rx)
  obtain ⟨mA,O,_⟩:=jfe I.hok ea
  obtain ⟨od,J,_⟩:=O.look
  exact PySem.W.kia_one (PySem.W.kitx_own (cl.get _) cl.hd ha hn htk hm) I.kIn J e (fun z=>nomatch z) h
end
structure Room (k:Nat) (A:Around):Prop where
 hd:A.handled=none
 dp:A.depth+3 * k+5 < recursionLimit
 un:A.units+16 * k+200 < cLine
theorem Room.mono {j k:Nat} {A:Around} (r:Room k A) (h:j<=k):Room j A:=⟨r.hd,by have:=r.dp; omega,by have:=r.un; omega⟩
theorem Room.deeper {k:Nat} {A:Around} (r:Room (k+1) A) (env:Env):Room k (A.deeper env) :=
 ⟨r.hd,by have:=r.dp; show A.depth+1+3 * k+5 < _; omega,by have:=r.un; show A.units+3+16 * k+200 < _; omega⟩
theorem jix {A:Around} {C:Addr} {us:List Value} {kw:List (Str×Value)}:(A.under (.builtin "type.__call__" ⟨.ref C::us,kw⟩)).depth=A.depth+1:=by
 first | rfl | simp [Around.under,Code.weight,Code.isCreation,Code.isGuard,Code.isCaller,Code.frames,Code.isFrame,guardIds]
theorem jiy {A:Around} {C:Addr} {us:List Value} {kw:List (Str×Value)}:(A.under (.builtin "type.__call__" ⟨.ref C::us,kw⟩)).units=A.units+1:=by
 first | rfl | simp [Around.under,Code.cUnits,Code.frames,Code.isFrame]
theorem Room.make {k:Nat} {A:Around} (r:Room (k+1) A) (C:Addr) (us:List Value) (kw:List (Str×Value)):Room k (A.under (.builtin "type.__call__" ⟨.ref C::us,kw⟩)) :=
 ⟨r.hd,by have:=r.dp; rw [jix]; omega,by have:=r.un; rw [jiy]; omega⟩
theorem Room.depth {k:Nat} {A:Around} (r:Room k A):A.depth < recursionLimit:=by have:=r.dp; omega
theorem Room.units {k:Nat} {A:Around} (r:Room k A):A.units+64 < cLine:=by have:=r.un; omega
def jeM:TA:=fun _ H Q=>Q [] H
def jaZ (ta:TE) (tr:TA):TA:=fun σ H Q=>ta σ H fun x H1=>tr σ H1 fun xs H2=>Q (x::xs) H2
section
variable {X:Cx} {e:Expr} {es:List Expr} {te:TE} {t:TA} {pos:Pos}
theorem jad:PA X [] jeM:=fun _ _ _ _ H Q I h=>Calls.spliced_nil ⟨[],H,I,.nil,h⟩
theorem jaa (ha:PE X e te) (hr:PA X es t) (hs:starEach (e::es) X.env=(false,eval e X.env)::starEach es X.env:=by rfl):PA X (e::es) (jaZ te t):=by
 intro pos pins s σ H Q I h
 rw [hs]
 show wpAny _ _ (spliced ((false,eval e X.env)::backTo pos (starEach es X.env))) _ _ s
 refine Calls.spliced_cons (thn (ha pins s σ H _ I h) fun u s1 ⟨x,H1,I1,r1,q1⟩=>?_)
 exact thn (hr pos pins s1 σ H1 _ I1 q1) fun us s2 ⟨xs,H2,I2,r2,q2⟩=>⟨x::xs,H2,I2,.cons r1 r2,q2⟩
def tTup (t:TA):TE:=fun σ H Q=>t σ H fun xs H1=>xs.length<=sizeLine/\∀ p,H1 p=none->Q (.ref p) (upd H1 p (.tup xs))
def tLst (t:TA):TE:=fun σ H Q=>t σ H fun xs H1=>xs.length<=sizeLine/\∀ p,H1 p=none->Q (.ref p) (upd H1 p (.lst xs))
theorem jbf {x1} (h:PA X es t):PE X (.Tuple es x1 pos) (tTup t):=by
 intro pins s σ H Q I hq
 refine wpAny_Tuple_spliced (thn (h pos pins s σ H _ I hq) fun us s1 ⟨xs,H1,I1,r,z,q⟩=>⟨by rw [<- r.length]; exact z,?_⟩)
 have hf:H1 s1.heap.objs.size=none:=I1.hok.fresh (Nat.le_refl _)
 refine ⟨.ref s1.heap.objs.size,upd H1 s1.heap.objs.size (.tup xs),I1.laid (t':=s1.toks) (fun b u e=>Heap.get?_push_of_some _ e) (Nat.le_refl _) ?_,rfl,q _ hf⟩
 exact ⟨z,us,r,⟨_,Heap.get?_push_size _ rfl,rfl,_,rfl⟩⟩
theorem jbj (h:PA X es t):PE X (.List es pos) (tLst t):=by
 intro pins s σ H Q I hq
 refine wpAny_List_spliced (thn (h pos pins s σ H _ I hq) fun us s1 ⟨xs,H1,I1,r,z,q⟩=>⟨by rw [<- r.length]; exact z,?_⟩)
 have hf:H1 s1.heap.objs.size=none:=I1.hok.fresh (Nat.le_refl _)
 refine ⟨.ref s1.heap.objs.size,upd H1 s1.heap.objs.size (.lst xs),I1.laid (t':=s1.toks) (fun b u e=>Heap.get?_push_of_some _ e) (Nat.le_refl _) ?_,rfl,q _ hf⟩
 exact ⟨z,us,0,r,Heap.get?_push_size _ rfl⟩
end
abbrev Sp:=List V->Hp->VK->XK->Prop
abbrev CXT:=List Env->Hp->Shared->XK->Value->Shared->Prop
structure Env0 (P:Program) (w:World) (K:PySem.W.Frag) (mg:Str->Option Value) (base:Heap) (A:Around) (outer:List Env) (s:Shared) (H:Hp):Prop where
 frames:A.frames=some outer
 mod:Mod K mg base
 bs:∀ b o,base.get? b=some o->s.heap.get? b=some o/\H b=none
 bsz:base.objs.size<=s.heap.objs.size
 funs:s.heap.FunFrames base outer
 frf:∀ b∈frs outer,H b=none
 hok:HOk P w H s.heap
 bare:AllBare s.gens
def CE (outer:List Env) (P:Program) (w:World) (H:Hp) (s:Shared) (Q:VK) (u:Value) (s':Shared):Prop :=
 ∃ v H',s'.os=s.os/\AllBare s'.gens/\Un (frs outer) [] H H' s.heap s'.heap/\HOk P w H' s'.heap/\RelV v u/\Q v H'
def CR (CX:CXT) (outer:List Env) (P:Program) (w:World) (H:Hp) (s:Shared) (Q:VK) (E:XK) (r:Result) (s':Shared):Prop :=
 match r with
 | .ok (.ret u)=>CE outer P w H s Q u s'
 | .ok _=>False
 | .error e=>CX outer H s E e s'
structure FnOk (P:Program) (w:World) (K:PySem.W.Frag) (mg:Str->Option Value) (base:Heap) (CX:CXT) (k:Nat) (f:Addr) (fd:FuncData) (ps:List Str) (sp:Sp):Prop where
 len:∀ vs H Q E,sp vs H Q E->vs.length=ps.length
 run:∀ (A:Around) (outer:List Env) (s:Shared) (H:Hp) (args:Args) (us:List Value) (vs:List V) (Q:VK) (E:XK),Room k A->Env0 P w K mg base A outer s H->BindsTo s fd args (ps.zip us)->Vals vs us->sp vs H Q E ->
  codeAny (model P w) A (.call (.ref f) args) (CR CX outer P w H s Q E) s
theorem Env0.make {P:Program} {w:World} {K:PySem.W.Frag} {mg:Str->Option Value} {base:Heap} {A:Around} {outer:List Env} {s:Shared} {H:Hp} (e:Env0 P w K mg base A outer s H) (C:Addr) (us:List Value) (kw:List (Str×Value)) :
  Env0 P w K mg base (A.under (.builtin "type.__call__" ⟨.ref C::us,kw⟩)) outer s H:=⟨by first | exact e.frames | (simpa [Around.under,Code.envs,Code.isFrame,pushEnvs] using e.frames),e.mod,e.bs,e.bsz,e.funs,e.frf,e.hok,e.bare⟩
section
variable {X:Cx} {pins:List (Addr×Obj)} {σ:St} {H:Hp} {s s':Shared}
theorem Inv.env0 (I:Inv X pins σ H s):Env0 X.prog X.w X.K X.mg X.base X.A X.stack s H :=
 ⟨I.ok.frames,I.ok.mod,I.bs,Nat.le_trans I.ok.bsz I.sz,I.stack,I.stkFree,I.hok,I.bare⟩
theorem Inv.after {Q:VK} {u:Value} (I:Inv X pins σ H s) (h:CE X.stack X.prog X.w H s Q u s'):EP X pins σ Q u s':=by
 obtain ⟨v,H',os,bare,un,hok,r,q⟩:=h
 obtain ⟨hh,g,d,t,os'⟩:=s'
 obtain rfl:os'=s.os:=os
 exact ⟨v,H',I.call (h':=hh) (g':=g) (d':=d) (t':=t) (ch:=[]) un hok bare (fun b z=>absurd z (by simp)),r,q⟩
end
def jeE (sp:Sp) (dvs:List V) (E:XK) (t:TA):TE:=fun σ H Q=>t σ H fun vs H1=>sp (vs++dvs) H1 Q E
def jls (C:Addr) (m:Str) (sp:Sp) (dvs:List V) (E:XK) (ta:TE) (t:TA):TE:=fun σ H Q=>ta σ H fun x H1=>∃ a dx fs,x=.ref a/\H1 a=some (.ins C dx fs)/\fs.lookup m=none /\
 t σ H1 fun vs H2=>sp (x::(vs++dvs)) H2 Q E
def joA (C:Addr) (sp:Sp) (dvs:List V) (E:XK) (t:TA):TE:=fun σ H Q=>t σ H fun vs H1=>∀ x dx,H1 x=none->H1 dx=none->dx≠x ->
 sp (.ref x::(vs++dvs)) (upd (upd H1 dx (.own x)) x (.ins C dx [])) (fun v H2=>v=.non/\Q (.ref x) H2) E
def Binds (K:PySem.W.Frag) (fd:FuncData) (ps:List Str) (ds:List Value):Prop :=
 ∀ (s:Shared) (us:List Value),K.In s.heap->(us++ds).length=ps.length->BindsTo s fd ⟨us,[]⟩ (ps.zip (us++ds))
theorem Binds.all {K:PySem.W.Frag} {fd:FuncData} {ps:List Str} (h:∀ us:List Value,us.length=ps.length->bindArgs fd ⟨us,[]⟩=pure (ps.zip us)):Binds K fd ps []:=fun s us _ hl=>by
 rw [List.append_nil] at hl ⊢
 exact .of_eq (h us hl)
def jeN (CX:CXT) (X:Cx) (E:XK):Prop:=∀ (pins:List (Addr×Obj)) (σ:St) (H:Hp) (s:Shared) (e:Value) (s':Shared),Inv X pins σ H s->CX X.stack H s E e s'->X.xe e s'
section
variable {X:Cx} {CX:CXT} {k:Nat} {f C:Addr} {fd:FuncData} {ps:List Str} {sp:Sp} {dvs:List V} {ds:List Value} {E:XK} {x m:Str} {p pos apos:Pos} {e o:Expr} {es:List Expr} {ta:TE} {t:TA}
theorem jmn {pins:List (Addr×Obj)} {σ:St} {H:Hp} {s:Shared} {Q:VK} {us:List Value} {vs:List V} (F:FnOk X.prog X.w X.K X.mg X.base CX k f fd ps sp) (hr:Room k X.A) (hb:Binds X.K fd ps ds) (hd:Vals dvs ds) (hx:jeN CX X E)
  (I:Inv X pins σ H s) (r:Vals vs us) (h:sp (vs++dvs) H Q E):wpAny (model X.prog X.w) X.A (call (.ref f) us) (EP X pins σ Q) X.xe s:=by
 have r2:Vals (vs++dvs) (us++ds):=r.append hd
 have hl:(us++ds).length=ps.length:=by rw [<- r2.length]; exact F.len _ _ _ _ h
 refine wpAny_call (codeAny_mono (F.run X.A X.stack s H ⟨us,[]⟩ (us++ds) (vs++dvs) Q E hr I.env0 (hb s us I.kIn hl) r2 h) fun r s' hq=>?_)
 cases r with
 | error e=>exact hx pins σ H s e s' I hq
 | ok fl =>
  cases fl with
  | ret u=>exact I.after hq
  | next=>exact False.elim hq
  | brk=>exact False.elim hq
  | cont=>exact False.elim hq
theorem jai (F:FnOk X.prog X.w X.K X.mg X.base CX k f fd ps sp) (hr:Room k X.A) (hg:Gl X x) (hm:X.mg x=some (.ref f)) (hk:PySem.W.keepIn X.K (.ref f)=true) (hb:Binds X.K fd ps ds) (hd:Vals dvs ds) (hx:jeN CX X E)
  (ha:PA X (e::es) t) (hdb:(x==("__debug__":Str))=false:=by decide) (he:starEach (e::es) X.env=(false,eval e X.env)::starEach es X.env:=by rfl) (hpl:(backTo pos (starEach es X.env)).any (·.1)=false:=by rfl) :
  PE X (.Call (.Name x p) (e::es) [] pos) (jeE sp dvs E t):=by
 intro pins s σ H Q I h
 refine wpAny_Call_Name_kw (ld_glob I hg hm ?_ hdb)
 refine PySem.W.callWith_K (h₀:=X.base) I.ok.mod.kin hk (thn (ha pos pins s σ H _ I h) fun us s1 ⟨vs,H1,I1,r,q⟩=>⟨I1.kIn,?_⟩) he hpl
 exact jmn F hr hb hd hx I1 r q
theorem jda {pl:Sem Bool} (he:PE X o ta) (c:Cls X.K C) (hm:Meth X.K C m f) (F:FnOk X.prog X.w X.K X.mg X.base CX k f fd ps sp) (hr:Room k X.A) (hb:Binds X.K fd ps ds) (hd:Vals dvs ds) (hx:jeN CX X E) (ha:PA X (e::es) t)
  (hst:starEach (e::es) X.env=(false,eval e X.env)::starEach es X.env:=by rfl) (hpl:(backTo pos (starEach es X.env)).any (·.1)=false:=by rfl)
  (ht:eval (.Call (.Attribute o m apos) (e::es) [] pos) X.env=(do
   let ov <- eval o X.env
   standAt apos.atName
   let (f,first) <- holding [ov] (getMethod ov m pl)
   callWith pos f first (backTo pos (starEach (e::es) X.env)) (backToKw pos (keywordEach [] X.env))):=by rfl) :
  PE X (.Call (.Attribute o m apos) (e::es) [] pos) (jls C m sp dvs E ta t):=by
 intro pins s σ H Q I h
 refine PySem.W.methodCall_KW (pl:=pl) (thn (he pins s σ H _ I h) fun u s1 ⟨x,H1,I1,rx,a,dx,fs,ex,ea,l,q⟩=>?_) ht
 subst ex
 obtain rfl:u=Value.ref a:=rx
 refine jiw I1 ea c hm l ?_
 refine PySem.W.callWith_K (first:=[.ref a]) (h₀:=X.base) I.ok.mod.kin hm.kp (thn (ha pos pins s1 σ H1 _ I1 q) fun us s2 ⟨vs,H2,I2,r,q2⟩=>⟨I2.kIn,?_⟩) hst hpl
 exact jmn (us:=.ref a::us) (vs:=.ref a::vs) F hr hb hd hx I2 (.cons rfl r) q2
structure Mk (K:PySem.W.Frag) (C f:Addr):Prop where
 makes:PySem.W.makesIn K C=true
 init:PySem.W.findIn K (.ref C) "__init__"=some (some (.ref f))
 fn:PySem.W.isFn K (.ref f)=true
 kp:PySem.W.keepIn K (.ref C)=true
theorem jlt {pins:List (Addr×Obj)} {σ:St} {H:Hp} {s:Shared} {Q:VK} {us:List Value} {vs:List V} (M:Mk X.K C f) (F:FnOk X.prog X.w X.K X.mg X.base CX k f fd ps sp) (hr:Room (k+1) X.A) (hb:Binds X.K fd ps ds) (hd:Vals dvs ds)
  (hx:jeN CX X E) (I:Inv X pins σ H s) (r:Vals vs us)
  (h:∀ x dx,H x=none->H dx=none->dx≠x->sp (.ref x::(vs++dvs)) (upd (upd H dx (.own x)) x (.ins C dx [])) (fun v H2=>v=.non/\Q (.ref x) H2) E) :
  wpAny (model X.prog X.w) X.A (call (.ref C) us) (EP X pins σ Q) X.xe s:=by
 have hq:=h (s.heap.objs.size+1) s.heap.objs.size (I.hok.fresh (Nat.le_succ _)) (I.hok.fresh (Nat.le_refl _)) (Nat.ne_of_lt (Nat.lt_succ_self _))
 have I2:=Inv.made (C:=C) I
 have r2:Vals (V.ref (s.heap.objs.size+1)::(vs++dvs)) (Value.ref (s.heap.objs.size+1)::(us++ds)):=.cons rfl (r.append hd)
 have hl:(Value.ref (s.heap.objs.size+1)::us++ds).length=ps.length:=by
  have e:=r2.length
  rw [F.len _ _ _ _ hq] at e
  exact e.symm
 refine wpAny_call (jlr (f:=f) I.kIn M.makes M.init (beq_iff_eq.mp M.fn) (codeAny_mono (F.run _ X.stack _ _ ⟨Value.ref (s.heap.objs.size+1)::us,[]⟩ (Value.ref (s.heap.objs.size+1)::(us++ds)) _ _ E (hr.make C us [])
  (I2.env0.make C us []) (hb _ (Value.ref (s.heap.objs.size+1)::us) I2.kIn hl) r2 hq) fun r s' hq'=>?_))
 cases r with
 | error e=>exact hx pins σ _ _ e s' I2 hq'
 | ok fl =>
  cases fl with
  | ret u =>
   obtain ⟨v,H',I3,rv,ev,q3⟩:=I2.after hq'
   subst ev
   exact ⟨rv,⟨V.ref (s.heap.objs.size+1),H',I3,rfl,q3⟩⟩
  | next=>exact False.elim hq'
  | brk=>exact False.elim hq'
  | cont=>exact False.elim hq'
theorem jbx (M:Mk X.K C f) (F:FnOk X.prog X.w X.K X.mg X.base CX k f fd ps sp) (hr:Room (k+1) X.A) (hg:Gl X x) (hm:X.mg x=some (.ref C)) (hb:Binds X.K fd ps ds) (hd:Vals dvs ds) (hx:jeN CX X E)
  (ha:PA X (e::es) t) (hdb:(x==("__debug__":Str))=false:=by decide) (he:starEach (e::es) X.env=(false,eval e X.env)::starEach es X.env:=by rfl) (hpl:(backTo pos (starEach es X.env)).any (·.1)=false:=by rfl) :
  PE X (.Call (.Name x p) (e::es) [] pos) (joA C sp dvs E t):=by
 intro pins s σ H Q I h
 refine wpAny_Call_Name_kw (ld_glob I hg hm ?_ hdb)
 refine PySem.W.callWith_K (h₀:=X.base) I.ok.mod.kin M.kp (thn (ha pos pins s σ H _ I h) fun us s1 ⟨vs,H1,I1,r,q⟩=>⟨I1.kIn,?_⟩) he hpl
 exact jlt M F hr hb hd hx I1 r q
end
section
variable {X:Cx} {CX:CXT} {k:Nat} {f C:Addr} {fd:FuncData} {ps ks:List Str} {sp:Sp} {E:XK} {x m:Str} {p pos apos kpos:Pos} {e o:Expr} {es:List Expr} {kws:List Keyword} {te ta:TE} {t tk:TA} {nm:Option Str}
variable {g:List Value->List Value->List Value} {gV:List V->List V->List V}
end
structure FnScope (N P:List Str) (sc:Scope):Prop where
 kind:sc.kind=.function
 co:sc.isCoroutine=false
 gen:sc.isGenerator=false
 nd:N.Nodup
 pre:N.take P.length=P
 par:∀ x∈P,sc.names.lookup x=some .local\/sc.names.lookup x=some .cell
 nofree:∀ y∈sc.names,y.2≠.free
theorem jfT {kindOf:Str->Option NameKind} {x:Str}:∀ {binds:List (Str×Value)} {m:Str->Option Value},(∀ v,(x,v)∉binds)->bindL kindOf binds m x=m x
 | [],_,_=>rfl
 | (n,v)::r,m,h=>by
  unfold bindL
  rw [jfT fun w hw=>h w (List.mem_cons_of_mem _ hw)]
  split
  ·have:x≠n:=by rintro rfl; exact h v List.mem_cons_self
   simp [this]
  ·rfl
theorem bindC_out {kindOf:Str->Option NameKind} {x:Str}:∀ {binds:List (Str×Value)} {m:Str->Option Value},(∀ v,(x,v)∉binds)->bindC kindOf binds m x=m x
 | [],_,_=>rfl
 | (n,v)::r,m,h=>by
  unfold bindC
  rw [bindC_out fun w hw=>h w (List.mem_cons_of_mem _ hw)]
  split
  ·rfl
  ·have:x≠n:=by rintro rfl; exact h v List.mem_cons_self
   simp [this]
theorem bindL_get {kindOf:Str->Option NameKind} {x:Str} {v:Value}:∀ {P:List Str} {vs:List Value} {i:Nat} {m:Str->Option Value},P.Nodup->P[i]?=some x->vs[i]?=some v->kindOf x=some .local ->
  bindL kindOf (P.zip vs) m x=some v
 | [],_,_,_,_,h,_,_=>by simp at h
 | _::_,[],_,_,_,_,h,_=>by simp at h
 | p::P,w::vs,0,m,nd,h1,h2,hk=>by
  simp at h1 h2; subst h1; subst h2
  show bindL kindOf ((p,w)::P.zip vs) m p=_
  unfold bindL
  rw [jfT fun v hv=>(List.nodup_cons.mp nd).1 (List.of_mem_zip hv).1,if_pos hk]
  simp
 | p::P,w::vs,i+1,m,nd,h1,h2,hk=>by
  show bindL kindOf ((p,w)::P.zip vs) m x=_
  unfold bindL
  exact bindL_get (i:=i) (List.nodup_cons.mp nd).2 (by simpa using h1) (by simpa using h2) hk
theorem jfU {kindOf:Str->Option NameKind} {x:Str} {v:Value}:∀ {P:List Str} {vs:List Value} {i:Nat} {m:Str->Option Value},P.Nodup->P[i]?=some x->vs[i]?=some v->kindOf x≠some .local ->
  bindC kindOf (P.zip vs) m x=some v
 | [],_,_,_,_,h,_,_=>by simp at h
 | _::_,[],_,_,_,_,h,_=>by simp at h
 | p::P,w::vs,0,m,nd,h1,h2,hk=>by
  simp at h1 h2; subst h1; subst h2
  show bindC kindOf ((p,w)::P.zip vs) m p=_
  unfold bindC
  rw [bindC_out fun v hv=>(List.nodup_cons.mp nd).1 (List.of_mem_zip hv).1,if_neg hk]
  simp
 | p::P,w::vs,i+1,m,nd,h1,h2,hk=>by
  show bindC kindOf ((p,w)::P.zip vs) m x=_
  unfold bindC
  exact jfU (i:=i) (List.nodup_cons.mp nd).2 (by simpa using h1) (by simpa using h2) hk
def jff (N:List Str) (vs:List V):St:=vs.map some++List.replicate (N.length - vs.length) none
def jmo (CX:CXT) (P:Program) (w:World) (K:PySem.W.Frag) (mg:Str->Option Value) (base:Heap) (N:List Str) (qual:Str) (scope:Scope) (f:Addr) (cd:Value) (A:Around) (outer:List Env) (s:Shared) (H:Hp) (E:XK):Cx where
 prog:=P
 w:=w
 K:=K
 mg:=mg
 base:=base
 A:=A.deeper (envOfC qual scope s.heap.objs.size f cd)
 N:=N
 s₀:=s
 H₀:=H
 env:=envOfC qual scope s.heap.objs.size f cd
 outer:=outer
 stack:=envOfC qual scope s.heap.objs.size f cd::outer
 ex:=[]
 calm:=true
 fn:=fun _=>true
 pn:=[]
 xe:=fun e s'=>wpAny (model P w) (A.deeper (envOfC qual scope s.heap.objs.size f cd)) (leaving (envOfC qual scope s.heap.objs.size f cd) e) (fun _ s''=>CX outer H s E e s'') (fun e' s''=>CX outer H s E e' s'') s'
theorem jhD {sc:Scope} {n:Nat} {x:Str} (h:sc.names.lookup x=some .cell):∃ c,(cellsFrom n sc.names []).lookup x=some c:=by
 have q:=PySem.W.cellsFrom_some sc.names n [] (.inl h)
 exact Option.isSome_iff_exists.mp q
theorem jjt {CX:CXT} {P:Program} {w:World} {K:PySem.W.Frag} {mg:Str->Option Value} {base:Heap} {N ps:List Str} {qual:Str} {scope:Scope} {f:Addr} {cd:Value} {A:Around} {outer:List Env} {s s1:Shared} {H:Hp} {E:XK} {us:List Value} {vs:List V}
  (S:FnScope N ps scope) (hd:A.handled=none) (e0:Env0 P w K mg base A outer s H) (hl:vs.length=ps.length) (r:Vals vs us)
  (x:InCallC s s.heap.objs.size (bindL (envOfC qual scope s.heap.objs.size f cd).kindOf (ps.zip us) fun _=>none) (cellsFrom (s.heap.objs.size+1) scope.names []) (bindC (envOfC qual scope s.heap.objs.size f cd).kindOf (ps.zip us) fun _=>none) s1) :
  Inv (jmo CX P w K mg base N qual scope f cd A outer s H E) [] (jff N vs) H s1:=by
 have hpl:ps.length<=N.length:=by have:=congrArg List.length S.pre; rw [List.length_take] at this; omega
 obtain ⟨h1,tk,rfl,hk⟩:=x.done
 have noA:∀ b:Addr,b∉(jmo CX P w K mg base N qual scope f cd A outer s H E).ex:=fun b z=>absurd (show b∈([]:List Addr) from z) (by simp)
 refine ⟨⟨e0.mod,S.kind,rfl,rfl,Nat.le_refl _,fun y z c h1 h2=>?_,fun y hy=>?_,fun y c _ h=>?_,fun _=>hd,Around.frames_deeper e0.frames,.inr ⟨rfl,rfl⟩,fun b z=>absurd z (noA b),e0.bs,e0.bsz,fun b _ _=>noA b,fun b z=>absurd z (noA b),e0.funs,e0.frf⟩,
  rfl,e0.bare,Un.kept hk,⟨_,x.toInCall.ns,fun i y v h1 h2 h3=>?_⟩,fun y c h=>⟨_,x.cell y c h⟩,e0.hok.fresh (Nat.le_refl _),fun y c h=>?_,fun p hp=>absurd (show p∈([]:List (Addr×Obj)) from hp) (by simp),e0.hok.kept hk,?_⟩
 ·exact name_of_addr x.apart (PySem.mem_of_lookup h1) (PySem.mem_of_lookup h2)
 ·have hy:scope.names.lookup y=some .cell\/scope.names.lookup y=some .free:=hy
  rcases hy with hy | hy
  ·exact jhD hy
  ·exact absurd rfl (S.nofree _ (PySem.mem_of_lookup hy))
 ·exact Nat.le_of_lt (x.above y c (PySem.mem_of_lookup h))
 ·have hi:i < vs.length:=by
   unfold jff at h2
   by_cases hi:i < vs.length
   ·exact hi
   ·rw [List.getElem?_append_right (by simpa using hi)] at h2
    rw [List.getElem?_replicate] at h2
    split at h2 <;> cases h2
  have ha:vs[i]?=some v:=by
   unfold jff at h2
   rw [List.getElem?_append_left (by simpa using hi),List.getElem?_map] at h2
   cases e:vs[i]? with
   | none=>rw [e] at h2; cases h2
   | some a=>rw [e] at h2; cases h2; rfl
  obtain ⟨u,hu,rv⟩:=r.get ha
  have hp:ps[i]?=some y:=by
   rw [<- S.pre,List.getElem?_take_of_lt (by omega)]; exact h1
  have ndP:ps.Nodup:=by rw [<- S.pre]; exact S.nd.sublist (List.take_sublist _ _)
  refine ⟨u,rv,?_⟩
  rcases S.par y (List.mem_of_getElem? hp) with k | k
  ·exact .inl ⟨k,bindL_get ndP hp hu k⟩
  ·obtain ⟨c,e⟩:=jhD (n:=s.heap.objs.size+1) k
   refine .inr ⟨.inl k,c,e,?_⟩
   have q:=x.cell y c e
   rw [jfU ndP hp hu (by show scope.names.lookup y≠_; rw [k]; decide)] at q
   exact q
 ·exact e0.hok.fresh (Nat.le_of_lt (x.above y c (PySem.mem_of_lookup h)))
 ·unfold jff
  show _=N.length
  rw [List.length_append,List.length_map,List.length_replicate]
  omega
theorem joB {CX:CXT} {P:Program} {w:World} {K:PySem.W.Frag} {mg:Str->Option Value} {base:Heap} {k:Nat} {f:Addr} {name qual:Str} {params:Arguments} {body:List Stmt} {scope:Scope} {dV kV doc pm cdv ct oc:Value} {an od:Option Addr}
  {osl:Array (Option Value)} {N ps:List Str} {sp:Sp} (lk:K.lookup f=some ⟨oc,od,.func (PySem.W.fnOf name qual params body scope dV kV doc pm an cdv ct),osl⟩) (hcd:PySem.W.codeIn K cdv qual=true) (S:FnScope N ps scope)
  (len:∀ vs H Q E,sp vs H Q E->vs.length=ps.length)
  (hbody:∀ (A:Around) (outer:List Env) (s:Shared) (H:Hp) (vs:List V) (Q:VK) (E:XK),Room k (A.deeper (envOfC qual scope s.heap.objs.size f cdv))->sp vs H Q E ->
   ∃ t,PSs (jmo CX P w K mg base N qual scope f cdv A outer s H E) body t/\t {nx:=fun _ H'=>Q .non H',rt:=Q} (jff N vs) H) :
  FnOk P w K mg base CX (k+1) f (PySem.W.fnOf name qual params body scope dV kV doc pm an cdv ct) ps sp:=by
 refine ⟨len,fun A outer s H args us vs Q E hr e0 hb r hsp=>?_⟩
 have hl:=len _ _ _ _ hsp
 have KX:K.In s.heap:=e0.mod.kin.keeps fun b o e=>(e0.bs b o e).1
 have lim:s.heap.NoLimit:=e0.mod.nolimit.keeps fun b o e=>(e0.bs b o e).1
 have hkind:∀ y∈ps.zip us,scope.names.lookup y.1=some .local\/(scope.names.lookup y.1=some .cell/\((cellsFrom (s.heap.objs.size+1) scope.names []).lookup y.1).isSome=true):=fun ⟨n,v⟩ hy=>by
  rcases S.par n (List.of_mem_zip hy).1 with q | q
  ·exact .inl q
  ·exact .inr ⟨q,PySem.W.cellsFrom_some _ _ _ (.inl q)⟩
 refine codeAny_call_function hr.depth (KX _ _ lk) rfl S.co S.gen rfl (PySem.W.codeRec_of KX hcd) (hb _ _ _ _ ?_)
 refine wpAny_newFunctionEnv_cells S.kind hkind fun env he s1 x=>?_
 subst he
 refine ⟨lim.keeps x.toInCall.keep,codeAny_func ?_⟩
 obtain ⟨t,ht,hq⟩:=hbody A outer s H vs Q E (hr.deeper _) hsp
 have I:Inv (jmo CX P w K mg base N qual scope f cdv A outer s H E) [] (jff N vs) H s1:=jjt S hr.hd e0 hl r x
 refine wpAny_mono (ht [] s1 (jff N vs) H _ I hq) (fun fl s' hs=>?_) fun e s' hs=>hs
 have fin:∀ {σ':St} {H':Hp} {v:V} {u:Value},Inv (jmo CX P w K mg base N qual scope f cdv A outer s H E) [] σ' H' s'->RelV v u->Q v H'->CE outer P w H s Q u s' :=
  fun {σ' H' v u} J rv q=>⟨v,H',J.os,J.bare,J.base,J.hok,rv,q⟩
 cases fl with
 | ret u =>
  obtain ⟨v,σ',H',J,rv,q⟩:=hs
  exact fin J rv q
 | next =>
  obtain ⟨σ',H',J,q⟩:=hs
  exact fin (v:=V.non) (u:=Value.none) J rfl q
 | brk =>
  obtain ⟨_,_,_,q⟩:=hs
  exact False.elim q
 | cont =>
  obtain ⟨_,_,_,q⟩:=hs
  exact False.elim q
section
variable {X:Cx} {x:Str} {p pos:Pos} {e:Expr} {es:List Expr} {t:TA} {id T:String} {r:List V->Hp->VK->Prop}
def tCB (r:List V->Hp->VK->Prop) (t:TA):TE:=fun σ H Q=>t σ H fun vs H1=>r vs H1 Q
theorem jaj (hc:jcx X (.builtin id) r) (hg:Gl X x) (hm:X.mg x=none) (hv:bootBuiltins x=some (.builtin id)) (ha:PA X (e::es) t) (hn:x≠"__name__":=by decide) (hdb:(x==("__debug__":Str))=false:=by decide)
  (he:starEach (e::es) X.env=(false,eval e X.env)::starEach es X.env:=by rfl) (hpl:(backTo pos (starEach es X.env)).any (·.1)=false:=by rfl):PE X (.Call (.Name x p) (e::es) [] pos) (tCB r t):=by
 intro pins s σ H Q I h
 refine wpAny_Call_Name_kw (ld_blt I hg hm hv ?_ hn hdb)
 exact PyProof.Rows.callWith_builtin1 (thn (ha pos pins s σ H _ I h) fun us s1 ⟨vs,H1,I1,r1,q1⟩=>hc pins s1 σ H1 vs us Q I1 r1 q1) he hpl
theorem jcJ (hc:jcx X (.type T) r) (hg:Gl X x) (hm:X.mg x=none) (hv:bootBuiltins x=some (.type T)) (ha:PA X (e::es) t) (hn:x≠"__name__":=by decide) (hdb:(x==("__debug__":Str))=false:=by decide)
  (he:starEach (e::es) X.env=(false,eval e X.env)::starEach es X.env:=by rfl) (hpl:(backTo pos (starEach es X.env)).any (·.1)=false:=by rfl):PE X (.Call (.Name x p) (e::es) [] pos) (tCB r t):=by
 intro pins s σ H Q I h
 refine wpAny_Call_Name_kw (ld_blt I hg hm hv ?_ hn hdb)
 exact PyProof.Rows.callWith_type1 (thn (ha pos pins s σ H _ I h) fun us s1 ⟨vs,H1,I1,r1,q1⟩=>hc pins s1 σ H1 vs us Q I1 r1 q1) he hpl
end
end L2
namespace HT
open PySem PyProof.Rows
section
open PySem.SeqAt
open PySem.AutoSeq1 (wpAny_loadPart')
open PySem.MeetsSeq PySem.MeetsSeq2 PySem.MeetsSeq3
end
section
variable {prog:Program} {w:World} {A:Around} {E:Value->Shared->Prop} {s:Shared}
theorem cat_tup {t b:Addr} {vs ws:List Value} {Q:Value->Shared->Prop} (ht:IsTup s.heap t vs.toArray) (hb:IsTup s.heap b ws.toArray) (hv:vs≠[])
  (h1:ws=[]->Q (.ref t) s) (h2:ws≠[]->Q (.ref s.heap.objs.size) {s with heap:=s.heap.push {cls:=.type "tuple",data:=.seq (vs++ws).toArray}})
  (hsz:vs.length+ws.length<=sizeLine):wpAny (model prog w) A (binaryOp .Add (.ref t) (.ref b)) Q E s:=by
 obtain ⟨⟨cls,dd,data,sl⟩,ho,hc,n,hd⟩:=id ht
 obtain ⟨⟨cls2,dd2,data2,sl2⟩,ho2,hc2,n2,hd2⟩:=id hb
 simp only at hc hd hc2 hd2
 subst hc hd hc2 hd2
 have e:vs.toArray++ws.toArray=(vs++ws).toArray:=by simp
 by_cases hw:ws=[]
 ·exact concat_meets ⟨_,ho,rfl⟩ ⟨_,ho2,rfl⟩ noFill_tuple_add seq_tuple_add PySem.F.slot_tuple_add PySem.F.entry_tuple_add (PySem.F.args_tuple_add_2 _ _)
   (tuple_addW1 t b vs.toArray ws.toArray n n2 dd dd2 sl sl2 (by simpa using hv) (by simp [hw])) ⟨ho,ho2,h1 hw⟩
 ·refine concat_meets ⟨_,ho,rfl⟩ ⟨_,ho2,rfl⟩ noFill_tuple_add seq_tuple_add PySem.F.slot_tuple_add PySem.F.entry_tuple_add (PySem.F.args_tuple_add_2 _ _)
   (tuple_addW2 t b vs.toArray ws.toArray n n2 dd dd2 sl sl2 (by simpa using hv) (by simpa using hw) (by rw [List.size_toArray,List.size_toArray]; exact hsz)) ⟨ho,ho2,?_⟩
  rw [e]
  exact h2 hw
def sIx (n d:Nat):Option Int->Nat
 | none=>d
 | some v=>if v < 0 then (v+(n:Int)).toNat else min v.toNat n
theorem joC (n d:Nat) (hd:d<=n) (o:Option Int):sIx n d o<=n:=by
 cases o with
 | none=>exact hd
 | some v =>
  show (if v < 0 then (v+(n:Int)).toNat else min v.toNat n)<=n
  by_cases hv:v < 0
  ·rw [if_pos hv]; omega
  ·rw [if_neg hv]; exact Nat.min_le_right _ _
theorem jju (v:Int) (n d:Nat):(if v < 0 then max (v+(n:Int)) 0 else min v (n:Int))=((sIx n d (some v):Nat):Int):=by
 show (if v < 0 then max (v+(n:Int)) 0 else min v (n:Int))=(((if v < 0 then (v+(n:Int)).toNat else min v.toNat n):Nat):Int)
 by_cases hv:v < 0
 ·simp only [if_pos hv]; omega
 ·simp only [if_neg hv]; omega
theorem jiz (lo hi:Option Int) (n:Nat):Builtin.Slice.sliceAdjust lo hi 1 (n:Int)=(((sIx n 0 lo:Nat):Int),((sIx n n hi:Nat):Int)):=by
 have h1:¬ ((1:Int) < 0):=by omega
 unfold Builtin.Slice.sliceAdjust
 simp only [h1,if_false]
 refine Prod.ext ?_ ?_
 ·cases lo with
  | none=>rfl
  | some v=>exact jju v n 0
 ·cases hi with
  | none=>rfl
  | some v=>exact jju v n n
theorem jiA (i j:Nat):Builtin.Slice.slicePlaces (i:Int) (j:Int) 1=j - i:=by
 unfold Builtin.Slice.slicePlaces
 have h1:(1:Int) > 0:=by omega
 simp only [h1,if_true,Int.ediv_one]
 split <;> omega
theorem jeO {v:Value} {o:Option Int} {Q:Option Int->Shared->Prop} (p:IsPart v o) (h:Q o s):wpAny (model prog w) A (Builtin.Slice.slicePartIndex v) Q E s:=by
 cases p with
 | none=>exact slicePart_none h
 | int i t=>exact slicePart_int h
theorem jdy {sl:Addr} {vl vu:Value} {lo hi:Option Int} {n:Nat} {Q:Int×Int×Nat->Shared->Prop} (hs:s.heap.IsSliceOf sl vl vu .none) (pl:IsPart vl lo) (pu:IsPart vu hi)
  (h:Q (((sIx n 0 lo:Nat):Int),1,sIx n n hi - sIx n 0 lo) s):wpAny (model prog w) A (Builtin.Slice.sliceApplied (.ref sl) (pure (n:Int))) Q E s:=by
 obtain ⟨os,hos,hcs,hds⟩:=id hs
 unfold Builtin.Slice.sliceApplied Builtin.Slice.sliceFields
 refine wpAny_bind (wpAny_bind (wpAny_field hos hds (x:=vl) rfl (wpAny_bind (wpAny_field hos hds (x:=vu) rfl (wpAny_bind (wpAny_field hos hds (x:=.none) rfl (wpAny_pure ?_)))))))
 refine wpAny_bind (slicePart_none ?_)
 show wpAny _ _ (if ((1:Int)==0)=true then _ else _) _ _ s
 rw [if_neg (by decide)]
 refine wpAny_bind (jeO pl (wpAny_bind (jeO pu (wpAny_bind (wpAny_pure ?_)))))
 show wpAny _ _ (match Builtin.Slice.sliceAdjust lo hi 1 (n:Int) with | (lo,hi)=>pure (lo,(1:Int),Builtin.Slice.slicePlaces lo hi 1)) _ _ s
 rw [jiz lo hi n]
 show wpAny _ _ (pure (((sIx n 0 lo:Nat):Int),(1:Int),Builtin.Slice.slicePlaces ((sIx n 0 lo:Nat):Int) ((sIx n n hi:Nat):Int) 1)) _ _ s
 rw [jiA]
 exact wpAny_pure h
theorem jlu (xs:Array Value) (i k:Nat):((List.range k).filterMap fun (m:Nat)=>xs[((i:Int)+(m:Int) * 1).toNat]?).toArray=((xs.toList.drop i).take k).toArray:=by
 have e:(fun (m:Nat)=>xs[((i:Int)+(m:Int) * 1).toNat]?)=fun m=>xs[i+m]?:=by
  funext m
  have:((i:Int)+(m:Int) * 1).toNat=i+m:=by omega
  rw [this]
 rw [e]
 have:=pick_run xs i k
 rw [List.filterMap_map] at this
 have e2:((fun x=>xs[x]?) ∘ fun x=>i+x)=fun m=>xs[i+m]?:=rfl
 rw [e2] at this
 rw [this]
theorem getItem_tuple_cut {t sl:Addr} {items:Array Value} {vl vu:Value} {lo hi:Option Int} {Q:Value->Shared->Prop} (ht:IsTup s.heap t items) (hs:s.heap.IsSliceOf sl vl vu .none) (pl:IsPart vl lo) (pu:IsPart vu hi)
  (hw:¬ (sIx items.size 0 lo=0/\sIx items.size items.size hi=items.size))
  (h:Q (.ref s.heap.objs.size) {s with heap:=s.heap.push {cls:=.type "tuple",data:=.seq ((items.toList.drop (sIx items.size 0 lo)).take (sIx items.size items.size hi - sIx items.size 0 lo)).toArray}})
  (hsz:items.size<=sizeLine):wpAny (model prog w) A (getItem (.ref t) (.ref sl)) Q E s:=by
 have htake:sizeOk (.seq ((items.toList.drop (sIx items.size 0 lo)).take (sIx items.size items.size hi - sIx items.size 0 lo)).toArray):=by
  show ((items.toList.drop (sIx items.size 0 lo)).take (sIx items.size items.size hi - sIx items.size 0 lo)).toArray.size<=sizeLine
  rw [List.size_toArray,List.length_take,List.length_drop,Array.length_toList]
  omega
 have hj:sIx items.size items.size hi<=items.size:=joC _ _ (Nat.le_refl _) hi
 obtain ⟨os,hos,hcs,hds⟩:=id hs
 have hTs:s.TypeIs (.ref sl) "slice":=⟨os,hos,hcs⟩
 unfold getItem
 try with_reducible refine wpAny_holding ?_
 first | refine wpAny_bind (wpAny_pure ?_) | skip
 refine wpAny_bind (wpAny_sequenceKey ht.typeIs (by decide) ?_)
 refine wpAny_bind (wpAny_callSpecial?_slot (name:=Str.ofString "__getitem__") ht.typeIs PyProof.Rows.slot_tuple_getitem
  (wpAny_call_entry PyProof.Rows.slot_tuple_getitem ht.typeIs entry_tuple_getitem ?_ (args_tuple_getitem _ _)))
 show wpAny _ _ (Builtin.Tuple.tupleItemsOf (.ref t)>>=_) _ _ s
 refine wpAny_bind (tupleItemsOf_ ht ?_)
 refine wpAny_bind (wpAny_typeOf hTs ?_)
 rw [if_pos (by decide)]
 refine wpAny_bind (jdy hs pl pu ?_)
 have hno:¬ ((((sIx items.size 0 lo:Nat):Int)==0&&(1:Int)==1&&(sIx items.size items.size hi - sIx items.size 0 lo)==items.size)=true):=by
  intro q
  rw [Bool.and_eq_true,Bool.and_eq_true] at q
  have q1:((sIx items.size 0 lo:Nat):Int)=0:=eq_of_beq q.1.1
  have q2:sIx items.size items.size hi - sIx items.size 0 lo=items.size:=eq_of_beq q.2
  exact hw ⟨by omega,by omega⟩
 show wpAny _ _ (if (((sIx items.size 0 lo:Nat):Int)==0&&(1:Int)==1&&(sIx items.size items.size hi - sIx items.size 0 lo)==items.size)=true then _ else _) _ _ s
 rw [if_neg hno,jlu]
 first
  | exact wpAny_bind (m:=Builtin.Tuple.tupleExact _) (wpAny_newObj_type (wpAny_pure ⟨_,rfl,wpAny_pure h⟩) htake)
  | exact wpAny_bind (m:=Builtin.Tuple.tupleExact _) (wpAny_newObj_type (wpAny_bind (wpAny_pure (wpAny_pure ⟨_,rfl,wpAny_pure h⟩))) htake)
  | exact wpAny_bind (wpAny_bind (m:=Builtin.Tuple.tupleExact _) (wpAny_newObj_type (wpAny_pure (wpAny_pure ⟨_,rfl,wpAny_pure h⟩)) htake))
  | exact wpAny_bind (wpAny_bind (m:=Builtin.Tuple.tupleExact _) (wpAny_newObj_type (wpAny_pure ⟨_,rfl,wpAny_pure h⟩) htake))
end
end HT
namespace L2
open PySem PySem.Spec PyProof.Rows
abbrev TO:=St->Hp->(Option Int->Hp->Prop)->Prop
def PO (X:Cx) (e:Option Expr) (t:TO):Prop :=
 ∀ (pins:List (Addr×Obj)) (s:Shared) (σ:St) (H:Hp) (Q:Option Int->Hp->Prop),Inv X pins σ H s->t σ H Q ->
  wpAny (model X.prog X.w) X.A (evalPart e X.env) (fun u s'=>∃ o H',Inv X pins σ H' s'/\IsPart u o/\Q o H') X.xe s
def jnm:TO:=fun _ H Q=>Q none H
def tPart (t:TE):TO:=fun σ H Q=>t σ H fun x H1=>∃ i,x=.int i/\Q (some i) H1
section
variable {X:Cx} {e:Expr} {te:TE} {lo hi:Option Expr} {tl th:TO} {pos p2:Pos}
theorem jfg:PO X none jnm:=by
 intro pins s σ H Q I h
 rw [evalPart_none]
 exact wpAny_pure ⟨none,H,I,.none,h⟩
theorem jdb (h:PE X e te):PO X (some e) (tPart te):=by
 intro pins s σ H Q I hw
 rw [evalPart_some]
 refine thn (h pins s σ H _ I hw) fun u s1 ⟨x,H1,I1,r1,q1⟩=>?_
 obtain ⟨i,rfl,q⟩:=q1
 obtain ⟨t,rfl⟩:=r1
 exact ⟨some i,H1,I1,.int i t,q⟩
def SlR (X:Cx) (r:V->Option Int->Option Int->Hp->VK->Prop):Prop :=
 ∀ (pins:List (Addr×Obj)) (s:Shared) (σ:St) (H:Hp) (x:V) (v vl vu:Value) (lo hi:Option Int) (sl:Addr) (Q:VK),Inv X pins σ H s->RelV x v->s.heap.IsSliceOf sl vl vu .none->IsPart vl lo->IsPart vu hi->r x lo hi H Q ->
  ∃ T id,typeLookup (.type T) "__getitem__"=pure (some (.builtin id))/\s.TypeIs v T/\wpAny (model X.prog X.w) X.A (getItem v (.ref sl)) (EP X pins σ Q) X.xe s
def tSl (r:V->Option Int->Option Int->Hp->VK->Prop) (te:TE) (tl th:TO):TE:=fun σ H Q=>te σ H fun x H1=>tl σ H1 fun l H2=>th σ H2 fun u H3=>r x l u H3 Q
theorem jcK {r:V->Option Int->Option Int->Hp->VK->Prop} (hr:SlR X r) (he:PE X e te) (hl:PO X lo tl) (hu:PO X hi th):PE X (.Subscript e (.Slice lo hi none p2) pos) (tSl r te tl th):=by
 intro pins s σ H Q I h
 refine Subscript_ (thn (he pins s σ H _ I h) fun v s1 ⟨x,H1,I1,r1,q1⟩=>?_)
 refine wpAny_Slice (thn (hl pins s1 σ H1 _ I1 q1) fun vl s2 ⟨l,H2,I2,pl,q2⟩=>thn (hu pins s2 σ H2 _ I2 q2) fun vu s3 ⟨u,H3,I3,pu,q3⟩=>?_)
 rw [evalPart_none]
 refine wpAny_pure ?_
 have I4:Inv X pins σ H3 {s3 with heap:=s3.heap.push {cls:=.type "slice",data:=.fields #[vl,vu,.none]}}:=I3.kept (t':=s3.toks) fun b ob q=>Heap.get?_push_of_some _ q
 obtain ⟨T,id,hT,ht,hg⟩:=hr pins {s3 with heap:=s3.heap.push {cls:=.type "slice",data:=.fields #[vl,vu,.none]}} σ H3 x v vl vu l u s3.heap.objs.size Q I4 r1 (Heap.IsSliceOf.new ..) pl pu q3
 show wpAny (model X.prog X.w) X.A (subscriptTail e (.Slice lo hi none p2) v (.ref s3.heap.objs.size)) (EP X pins σ Q) X.xe {s3 with heap:=s3.heap.push {cls:=.type "slice",data:=.fields #[vl,vu,.none]}}
 exact tail_any (ops:=[.ref s3.heap.objs.size,v]) ht hT hg (by with_unfolding_all rfl)
def jhE (xs:List V) (lo hi:Option Int):List V:=(xs.drop (HT.sIx xs.length 0 lo)).take (HT.sIx xs.length xs.length hi - HT.sIx xs.length 0 lo)
theorem jdO (xs:List V) (lo hi:Option Int):(jhE xs lo hi).length<=xs.length:=by
 unfold jhE
 rw [List.length_take,List.length_drop]
 omega
def rSlT (K:PySem.W.Frag):V->Option Int->Option Int->Hp->VK->Prop:=fun x lo hi H Q=>∃ a xs,x=.ref a/\SqT K H a xs /\
 ¬ (HT.sIx xs.length 0 lo=0/\HT.sIx xs.length xs.length hi=xs.length)/\∀ p,H p=none->Q (.ref p) (upd H p (.tup (jhE xs lo hi)))
theorem jjv:SlR X (rSlT X.K):=by
 intro pins s σ H x v vl vu lo hi sl Q I rx hs pl pu h
 obtain ⟨a,xs,rfl,hx,hw,q⟩:=h
 cases rx
 obtain ⟨its,r,ht,hz⟩:=I.tuple hx
 have hlen:its.toArray.size=xs.length:=by rw [List.size_toArray]; exact r.length.symm
 refine ⟨"tuple",_,PyProof.Rows.slot_tuple_getitem.lookup,ht.typeIs,?_⟩
 refine HT.getItem_tuple_cut ht hs pl pu (by rw [hlen]; exact hw) ?_ (by rw [hlen]; exact hz)
 rw [hlen]
 refine ⟨.ref s.heap.objs.size,_,I.laid (t':=s.toks) (o:=.tup (jhE xs lo hi)) (fun b ob q=>Heap.get?_push_of_some _ q) (Nat.le_refl _) ?_,rfl,q _ (I.hok.fresh (Nat.le_refl _))⟩
 exact ⟨Nat.le_trans (jdO xs lo hi) hz,_,(r.drop (HT.sIx xs.length 0 lo)).take (HT.sIx xs.length xs.length hi - HT.sIx xs.length 0 lo),IsTup.new _ _⟩
def rCatT (K:PySem.W.Frag):R2:=fun x y H Q=>∃ a b xs ys,x=.ref a/\y=.ref b/\SqT K H a xs/\SqT K H b ys/\xs≠[]/\xs.length+ys.length<=sizeLine /\
 (ys=[]->Q (.ref a) H)/\(ys≠[]->∀ p,H p=none->Q (.ref p) (upd H p (.tup (xs++ys))))
theorem Vals.nil_iff {xs:List V} {us:List Value} (r:Vals xs us):us=[]↔xs=[]:=by
 cases r with
 | nil=>simp
 | cons _ _=>simp
theorem jjw:OpR X (binaryOp .Add) (rCatT X.K):=by
 intro pins s σ H x y v u Q I rx ry h
 obtain ⟨a,b,xs,ys,rfl,rfl,ha,hb,hx,hz,q1,q2⟩:=h
 cases rx
 cases ry
 obtain ⟨its,r1,p1,_⟩:=I.tuple ha
 obtain ⟨its2,r2,p2,_⟩:=I.tuple hb
 refine HT.cat_tup p1 p2 (fun z=>hx (r1.nil_iff.mp z)) (fun z=>⟨.ref a,H,I,rfl,q1 (r2.nil_iff.mp z)⟩) (fun z=>?_) (by rw [<- r1.length,<- r2.length]; exact hz)
 refine ⟨.ref s.heap.objs.size,_,I.laid (t':=s.toks) (o:=.tup (xs++ys)) (fun b ob q=>Heap.get?_push_of_some _ q) (Nat.le_refl _) ?_,rfl,q2 (fun w=>z (r2.nil_iff.mpr w)) _ (I.hok.fresh (Nat.le_refl _))⟩
 exact ⟨by rw [List.length_append]; exact hz,_,r1.append r2,IsTup.new _ _⟩
end
def ixN (n:Nat) (i:Int):Option Nat:=if 0<=i then (if i < n then some i.toNat else none) else if -(n:Int)<=i then some (i+n).toNat else none
def atI {α:Type} (xs:List α) (i:Int):Option α:=(ixN xs.length i).bind fun j=>xs[j]?
theorem jnn {n:Nat} {i:Int} {j:Nat} (h:ixN n i=some j):seqIndex? i n=some j/\j < n/\-(n:Int)<=i/\i < n:=by
 unfold ixN at h
 by_cases h0:0<=i
 ·rw [if_pos h0] at h
  by_cases h1:i < n
  ·rw [if_pos h1] at h
   have e:i.toNat=j:=Option.some.inj h
   exact ⟨by rw [seqIndex_of h0 h1,e],by omega,by omega,h1⟩
  ·rw [if_neg h1] at h; cases h
 ·rw [if_neg h0] at h
  by_cases h1:-(n:Int)<=i
  ·rw [if_pos h1] at h
   have e:(i+n).toNat=j:=Option.some.inj h
   exact ⟨by rw [seqIndex_neg (by omega) h1,e],by omega,h1,by omega⟩
  ·rw [if_neg h1] at h; cases h
theorem jgN {α:Type} {xs:List α} {i:Int} {v:α} (h:atI xs i=some v):∃ j,seqIndex? i xs.length=some j/\xs[j]?=some v/\j < xs.length/\-(xs.length:Int)<=i/\i < xs.length:=by
 unfold atI at h
 cases e:ixN xs.length i with
 | none=>rw [e] at h; cases h
 | some j =>
  rw [e] at h
  obtain ⟨h1,h2,h3,h4⟩:=jnn e
  exact ⟨j,h1,h,h2,h3,h4⟩
theorem jba {α:Type} {xs:List α} {j:Nat} {v:α} (h:xs[j]?=some v):atI xs (j:Int)=some v:=by
 have hj:j < xs.length:=(List.getElem?_eq_some_iff.mp h).1
 have e:ixN xs.length (j:Int)=some j:=by
  unfold ixN
  rw [if_pos (by omega),if_pos (by omega)]; simp
 unfold atI; rw [e]; exact h
theorem jlv {α:Type} (xs:List α) (v:α):atI (xs++[v]) (-1)=some v:=by
 have hl:(xs++[v]).length=xs.length+1:=by simp
 have e:ixN (xs++[v]).length (-1)=some xs.length:=by
  unfold ixN
  rw [hl,if_neg (by decide),if_pos (by omega)]
  congr 1
  omega
 unfold atI
 rw [e]
 show (xs++[v])[xs.length]?=some v
 simp
def jno (b:Expr):Prop:=∀ o i,subscripted b false o i=operate [o,i] (getItem o i)
def IxR (X:Cx) (r:R2):Prop :=
 ∀ (value slice:Expr) (pins:List (Addr×Obj)) (s:Shared) (σ:St) (H:Hp) (x y:V) (v u:Value) (Q:VK),Inv X pins σ H s->RelV x v->RelV y u->r x y H Q ->
  subscripted slice false v u=operate [v,u] (getItem v u)->wpAny (model X.prog X.w) X.A (subscriptTail value slice v u) (EP X pins σ Q) X.xe s
def MtR (X:Cx) (id:String) (r:V->List V->Hp->VK->Prop):Prop :=
 ∀ (pins:List (Addr×Obj)) (s:Shared) (σ:St) (H:Hp) (x:V) (xs:List V) (v:Value) (us:List Value) (Q:VK),Inv X pins σ H s->RelV x v->Vals xs us->r x xs H Q ->
  wpAny (model X.prog X.w) X.A (call (.builtin id) (v::us)) (EP X pins σ Q) X.xe s
section
variable {X:Cx} {a b:Expr} {ta tb:TE} {pos:Pos}
theorem jap {r:R2} (hr:IxR X r) (ha:PE X a ta) (hb:PE X b tb) (hs:jno b):PE X (.Subscript a b pos) (tOp r ta tb):=by
 intro pins s σ H Q I h
 exact Subscript_ (binT ha hb I h fun v u s2 x y H2 I2 rx ry q=>hr a b pins s2 σ H2 x y v u Q I2 rx ry q (hs _ _))
def rIxL (K:PySem.W.Frag):R2:=fun x y H Q=>∃ p xs i v,x=.ref p/\y=.int i/\SqL K H p xs/\atI xs i=some v/\Q v H
def jlk (K:PySem.W.Frag):R2:=fun x y H Q=>∃ p xs i v,x=.ref p/\y=.int i/\SqT K H p xs/\atI xs i=some v/\Q v H
def rIxS:R2:=fun x y H Q=>∃ z i c,x=.str z/\y=.int i/\z.length<=sizeLine/\atI z.cps.toList i=some c/\Q (.str ⟨#[c]⟩) H
theorem jaG:IxR X (rIxL X.K):=by
 intro value slice pins s σ H x y v u Q I rx ry h hs
 obtain ⟨p,xs,i,z,rfl,rfl,hq,he,q⟩:=h
 cases rx
 obtain ⟨t,rfl⟩:=ry
 obtain ⟨its,r,pl,hz⟩:=I.list hq
 obtain ⟨j,h1,h2,h3,h4,h5⟩:=jgN he
 obtain ⟨w,ew,rw'⟩:=r.get h2
 have hl:=r.length
 have hn:=jcH
 have fin:EP X pins σ Q w s:=⟨z,H,I,rw',q⟩
 by_cases h0:0<=i
 ·have hj:i.toNat=j:=by
   rw [seqIndex_of h0 h5] at h1
   exact Option.some.inj h1
  exact item_listR pl.isList h0 (by omega) (by rw [hj]; simpa using ew) fin hs
 ·have hj:(i+(its.toArray.size:Int)).toNat=j:=by
   rw [seqIndex_neg (by omega) h4] at h1
   rw [List.size_toArray,<- hl]
   exact Option.some.inj h1
  exact subscriptTail_builtinR (x:=w) pl.isList.typeIs slot_list_getitem.lookup
   (wpAny_getItem_list_neg (Q:=fun r s'=>r=w/\EP X pins σ Q r s') pl.isList (by omega) (by rw [List.size_toArray] <;> omega) (by omega) (by rw [hj]; simpa using ew) ⟨rfl,fin⟩) hs
theorem jal:IxR X (jlk X.K):=by
 intro value slice pins s σ H x y v u Q I rx ry h hs
 obtain ⟨p,xs,i,z,rfl,rfl,hq,he,q⟩:=h
 cases rx
 obtain ⟨t,rfl⟩:=ry
 obtain ⟨its,r,pl,hz⟩:=I.tuple hq
 obtain ⟨j,h1,h2,h3,h4,h5⟩:=jgN he
 obtain ⟨w,ew,rw'⟩:=r.get h2
 have hl:=r.length
 have hn:=jcH
 have fin:EP X pins σ Q w s:=⟨z,H,I,rw',q⟩
 exact subscriptTail_builtinR (x:=w) pl.typeIs slot_tuple_getitem.lookup
  (getItem_tuple (j:=j) (Q:=fun r s'=>r=w/\EP X pins σ Q r s') pl (by omega) (by omega) (by rw [List.size_toArray,<- hl]; exact h1) (by simpa using ew) ⟨rfl,fin⟩) hs
theorem jmp:IxR X rIxS:=by
 intro value slice pins s σ H x y v u Q I rx ry h hs
 obtain ⟨z,i,c,rfl,rfl,hz,he,q⟩:=h
 obtain ⟨t,rfl⟩:=rx
 obtain ⟨t',rfl⟩:=ry
 obtain ⟨j,h1,h2,h3,h4,h5⟩:=jgN he
 have hl:z.cps.toList.length=z.length:=by simp [Str.length]
 rw [hl] at h1 h4 h5
 have hn:=jcH
 exact tail_any (typeIs_str s z t) slot_str_getitem.lookup (getItem_str (c:=c) (by
  have e1:decide (i < -(2 ^ 63:Int))=false:=decide_eq_false (by omega)
  have e2:decide (i ≥ 2 ^ 63)=false:=decide_eq_false (by omega)
  rw [e1,e2,Bool.or_false]) (by rw [h1]; simpa using h2) ⟨.str ⟨#[c]⟩,H,I.tok _,⟨_,rfl⟩,q⟩) hs
theorem jfV (lo hi:Option Int) (n:Nat):(sliceBounds lo hi none n).1=((HT.sIx n 0 lo:Nat):Int)/\(sliceBounds lo hi none n).2.1=((HT.sIx n n hi:Nat):Int)/\(sliceBounds lo hi none n).2.2=1:=by
 refine ⟨?_,?_,rfl⟩
 ·cases lo with
  | none=>simp [sliceBounds,HT.sIx]
  | some i =>
   simp only [sliceBounds,HT.sIx,Option.getD_none,show (1:Int) > 0 by decide,if_true]
   by_cases h:i < 0
   ·simp only [h,if_true] <;> omega
   ·simp only [h,if_false] <;> omega
 ·cases hi with
  | none=>simp [sliceBounds,HT.sIx]
  | some i =>
   simp only [sliceBounds,HT.sIx,Option.getD_none,show (1:Int) > 0 by decide,if_true]
   by_cases h:i < 0
   ·simp only [h,if_true] <;> omega
   ·simp only [h,if_false] <;> omega
theorem jfh (its:List Value) (lo hi:Option Int):slicePick its.toArray lo hi none=((its.drop (HT.sIx its.length 0 lo)).take (HT.sIx its.length its.length hi - HT.sIx its.length 0 lo)).toArray:=by
 obtain ⟨h1,h2,h3⟩:=jfV lo hi its.toArray.size
 unfold slicePick
 rw [h1,h2,h3]
 simp only [sliceRange_one,pick_run,List.size_toArray] <;> rfl
def rSlL (K:PySem.W.Frag):V->Option Int->Option Int->Hp->VK->Prop:=fun x lo hi H Q=>∃ a xs,x=.ref a/\SqL K H a xs/\∀ p,H p=none->Q (.ref p) (upd H p (.lst (jhE xs lo hi)))
theorem jnp:SlR X (rSlL X.K):=by
 intro pins s σ H x v vl vu lo hi sl Q I rx hs pl pu h
 obtain ⟨a,xs,rfl,hx,q⟩:=h
 cases rx
 obtain ⟨its,r,ht,hz⟩:=I.list hx
 have hlen:=r.length
 refine ⟨"list",_,slot_list_getitem.lookup,ht.isList.typeIs,?_⟩
 refine wpAny_getItem_list_slice ht.isList hs pl pu .none (by simp) ?_ (by rw [List.size_toArray] <;> omega)
 rw [jfh,<- hlen]
 refine ⟨.ref s.heap.objs.size,_,I.laid (t':=s.toks) (o:=.lst (jhE xs lo hi)) (fun b ob q=>Heap.get?_push_of_some _ q) (Nat.le_refl _) ?_,rfl,q _ (I.hok.fresh (Nat.le_refl _))⟩
 exact ⟨Nat.le_trans (jdO xs lo hi) hz,_,0,(r.drop (HT.sIx xs.length 0 lo)).take (HT.sIx xs.length xs.length hi - HT.sIx xs.length 0 lo),Heap.get?_push_size _ rfl⟩
def jfi:V->Bool
 | .non=>true
 | .bl _=>true
 | .int _=>true
 | .str _=>true
 | _=>false
def eqV:V->V->Bool
 | .non,.non=>true
 | .bl a,.bl b=>a==b
 | .bl a,.int b=>(if a then 1 else 0)==b
 | .int a,.bl b=>a==(if b then 1 else 0)
 | .int a,.int b=>a==b
 | .str a,.str b=>a==b
 | _,_=>false
theorem joD {A:Around} {s:Shared} {y x:V} {u v:Value} (ry:RelV y u) (rx:RelV x v) (fy:jfi y=true) (fx:jfi x=true):SeqAt.EqAt A s u v (eqV y x):=by
 cases y with
 | non =>
  cases ry
  cases x with
  | non=>cases rx; exact SeqAt.EqAt.same _
  | bl b=>cases rx; exact SeqAt.EqAt.none_bool b
  | int b=>obtain ⟨t,rfl⟩:=rx; exact SeqAt.EqAt.none_int b t
  | str b=>obtain ⟨t,rfl⟩:=rx; exact SeqAt.EqAt.none_str b t
  | _=>exact absurd (show false=true from fx) Bool.false_ne_true
 | bl a =>
  cases ry
  cases x with
  | non=>cases rx; exact SeqAt.EqAt.bool_none a
  | bl b=>cases rx; exact SeqAt.EqAt.bool_bool a b
  | int b=>obtain ⟨t,rfl⟩:=rx; exact SeqAt.EqAt.bool_int a b t
  | str b=>obtain ⟨t,rfl⟩:=rx; exact SeqAt.EqAt.bool_str a b t
  | _=>exact absurd (show false=true from fx) Bool.false_ne_true
 | int a =>
  obtain ⟨t',rfl⟩:=ry
  cases x with
  | non=>cases rx; exact SeqAt.EqAt.int_none a t'
  | bl b=>cases rx; exact SeqAt.EqAt.int_bool a t' b
  | int b=>obtain ⟨t,rfl⟩:=rx; exact SeqAt.EqAt.int_int a t' b t
  | str b=>obtain ⟨t,rfl⟩:=rx; exact SeqAt.EqAt.int_str a t' b t
  | _=>exact absurd (show false=true from fx) Bool.false_ne_true
 | str a =>
  obtain ⟨t',rfl⟩:=ry
  cases x with
  | non=>cases rx; exact SeqAt.EqAt.str_none a t'
  | bl b=>cases rx; exact SeqAt.EqAt.str_bool a t' b
  | int b=>obtain ⟨t,rfl⟩:=rx; exact SeqAt.EqAt.str_int a t' b t
  | str b=>obtain ⟨t,rfl⟩:=rx; exact SeqAt.EqAt.str_str a t' b t
  | _=>exact absurd (show false=true from fx) Bool.false_ne_true
 | _=>exact absurd (show false=true from fy) Bool.false_ne_true
def eqU (x:V) (u:Value):Bool:=match u with
 | .none=>eqV .non x
 | .bool b=>eqV (.bl b) x
 | .int i _=>eqV (.int i) x
 | .str z _=>eqV (.str z) x
 | _=>false
theorem jmq {x y:V} {u:Value} (r:RelV y u) (f:jfi y=true):eqU x u=eqV y x:=by
 cases y with
 | non=>cases r; rfl
 | bl b=>cases r; rfl
 | int i=>obtain ⟨t,rfl⟩:=r; rfl
 | str z=>obtain ⟨t,rfl⟩:=r; rfl
 | _=>exact absurd (show false=true from f) Bool.false_ne_true
theorem jdP {x:V}:∀ {xs:List V} {us:List Value},Vals xs us->xs.all jfi=true->us.any (eqU x)=xs.any fun y=>eqV y x
 | _,_,.nil,_=>rfl
 | y::xs,u::us,.cons r t,f=>by
  rw [List.all_cons,Bool.and_eq_true] at f
  rw [List.any_cons,List.any_cons,jmq r f.1,jdP t f.2]
theorem jcL {A:Around} {s:Shared} {x:V} {v:Value} (rx:RelV x v) (fx:jfi x=true):∀ {xs:List V} {us:List Value},Vals xs us->xs.all jfi=true->∀ u∈us,SeqAt.EqAt A s u v (eqU x u)
 | _,_,.nil,_=>fun u hu=>by cases hu
 | y::xs,u::us,.cons r t,f=>fun u' hu=>by
  rw [List.all_cons,Bool.and_eq_true] at f
  rcases List.mem_cons.mp hu with rfl | hu
  ·rw [jmq r f.1]; exact joD r rx f.1 fx
  ·exact jcL rx fx t f.2 u' hu
def inV (x:V) (xs:List V):Bool:=xs.any fun y=>eqV y x
def rIn (K:PySem.W.Frag) (neg:Bool):R2:=fun x y H Q=>∃ p xs,y=.ref p/\(SqL K H p xs\/SqT K H p xs)/\jfi x=true/\xs.all jfi=true/\Q (.bl (if neg then !inV x xs else inV x xs)) H
theorem jdQ:OpR X (compareOp .In) (rIn X.K false):=by
 intro pins s σ H x y v u Q I rx ry h
 obtain ⟨p,xs,rfl,hq,fx,fs,q⟩:=h
 cases ry
 rcases hq with hq | hq
 ·obtain ⟨its,r,pl,hz⟩:=I.list hq
  refine SeqAt.in_listAt (eqU x) pl.isList (fun w hw=>jcL rx fx r fs w (by simpa using hw)) ⟨.bl _,H,I,rfl,?_⟩
  rw [show its.toArray.any (eqU x)=its.any (eqU x) by simp,jdP r fs]
  exact q
 ·obtain ⟨its,r,pl,hz⟩:=I.tuple hq
  refine SeqAt.in_tupleAt (eqU x) pl (fun w hw=>jcL rx fx r fs w (by simpa using hw)) ⟨.bl _,H,I,rfl,?_⟩
  rw [show its.toArray.any (eqU x)=its.any (eqU x) by simp,jdP r fs]
  exact q
theorem jds:OpR X (compareOp .NotIn) (rIn X.K true):=by
 intro pins s σ H x y v u Q I rx ry h
 obtain ⟨p,xs,rfl,hq,fx,fs,q⟩:=h
 cases ry
 rcases hq with hq | hq
 ·obtain ⟨its,r,pl,hz⟩:=I.list hq
  refine SeqAt.notIn_listAt (eqU x) pl.isList (fun w hw=>jcL rx fx r fs w (by simpa using hw)) ⟨.bl _,H,I,rfl,?_⟩
  rw [show its.toArray.any (eqU x)=its.any (eqU x) by simp,jdP r fs]
  exact q
 ·obtain ⟨its,r,pl,hz⟩:=I.tuple hq
  refine SeqAt.notIn_tupleAt (eqU x) pl (fun w hw=>jcL rx fx r fs w (by simpa using hw)) ⟨.bl _,H,I,rfl,?_⟩
  rw [show its.toArray.any (eqU x)=its.any (eqU x) by simp,jdP r fs]
  exact q
theorem jfW:OpR X (compareOp .NotIn) (fun x y H Q=>∃ i j,x=.str i/\y=.str j/\Q (.bl (!(!(Builtin.Str.occurrences j i 0 j.length 1).isEmpty))) H):=by
 intro pins s σ H x y v u Q I rx ry h
 obtain ⟨i,j,rfl,rfl,q⟩:=h
 obtain ⟨t,rfl⟩:=rx
 obtain ⟨t',rfl⟩:=ry
 exact notIn_str ⟨.bl _,H,I,rfl,q⟩
theorem jav:jcx X (.builtin "len") (fun xs H Q=>∃ p ys,xs=[.ref p]/\(SqL X.K H p ys\/SqT X.K H p ys)/\Q (.int ys.length) H):=by
 intro pins s σ H xs us Q I r h
 obtain ⟨p,ys,rfl,hq,q⟩:=h
 obtain ⟨u,rfl,rx⟩:=jdM r
 cases rx
 have hn:=jcH
 rcases hq with hq | hq
 ·obtain ⟨its,r',pl,hz⟩:=I.list hq
  have hlen:=r'.length
  exact Calls.call_len_list pl.isList (by simp only [List.size_toArray] <;> omega) ⟨.int ys.length,H,I.tok _,⟨s.toks+1,by rw [List.size_toArray,hlen]⟩,q⟩
 ·obtain ⟨its,r',pl,hz⟩:=I.tuple hq
  have hlen:=r'.length
  exact len_tuple pl (by simp only [List.size_toArray] <;> omega) ⟨.int ys.length,H,I.tok _,⟨s.toks+1,by rw [List.size_toArray,hlen]⟩,q⟩
theorem jaW:jcx X (.builtin "len") (fun xs H Q=>∃ z,xs=[.str z]/\z.length<=sizeLine/\Q (.int z.length) H):=by
 intro pins s σ H xs us Q I r h
 obtain ⟨z,rfl,hz,q⟩:=h
 obtain ⟨u,rfl,t,rfl⟩:=jdM r
 have hn:=jcH
 exact len_str (by omega) ⟨.int z.length,H,I.tok _,⟨_,rfl⟩,q⟩
theorem jdt:jcx X (.type "list") (fun xs H Q=>∃ p ys,xs=[.ref p]/\(SqL X.K H p ys\/SqT X.K H p ys)/\∀ l,H l=none->Q (.ref l) (upd H l (.lst ys))):=by
 intro pins s σ H xs us Q I r h
 obtain ⟨p,ys,rfl,hq,q⟩:=h
 obtain ⟨u,rfl,rx⟩:=jdM r
 cases rx
 have fin:∀ (its:List Value),Vals ys its->ys.length<=sizeLine->∀ (h':Heap) (c':Nat),(∀ b o',s.heap.get? b=some o'->h'.get? b=some o') ->
   h'.get? s.heap.objs.size=some {cls:=.type "list",dict:=none,data:=.seq its.toArray c',slots:=#[]}->EP X pins σ Q (.ref s.heap.objs.size) {s with heap:=h'}:=fun its r' hz h' c' kp e =>
  ⟨.ref s.heap.objs.size,_,I.laid (t':=s.toks) kp (Nat.le_refl _) (show ObjOk X.prog X.w _ h' _ (.lst ys) from ⟨hz,its,c',r',e⟩),rfl,q _ (I.hok.fresh (Nat.le_refl _))⟩
 rcases hq with hq | hq
 ·obtain ⟨its,r',pl,hz⟩:=I.list hq
  have hlen:=r'.length
  obtain ⟨o,ho,hc,n,hd⟩:=pl.isList
  exact call_list_seq p (.inl rfl) ho hc hd (fun h' c' kp e=>fin its r' hz h' c' kp e) (by simp only [List.size_toArray] <;> omega)
 ·obtain ⟨its,r',pl,hz⟩:=I.tuple hq
  have hlen:=r'.length
  obtain ⟨o,ho,hc,n,hd⟩:=pl
  exact call_list_seq p (.inr rfl) ho hc hd (fun h' c' kp e=>fin its r' hz h' c' kp e) (by simp only [List.size_toArray] <;> omega)
def tyV (K:PySem.W.Frag) (T:String) (x:V) (H:Hp):Prop:=match x with
 | .str _=>T="str"
 | .int _=>T="int"
 | .ref p=>(T="list"/\∃ xs,SqL K H p xs)\/(T="tuple"/\∃ o,K.lookup p=some o/\o.cls=.type "tuple"/\o.dict=none) \/
   (T="dict"/\((∃ kvs,H p=some (.dK kvs))\/∃ kvs,H p=some (.dT kvs)))\/(T="set"/\∃ S n,H p=some (.set S n))
 | _=>False
theorem jmr {pins:List (Addr×Obj)} {σ:St} {H:Hp} {s:Shared} {T:String} {x:V} {v:Value} (I:Inv X pins σ H s) (r:RelV x v) (ty:tyV X.K T x H) :
  s.TypeIs v T/\∀ a,v=.ref a->∃ ob,s.heap.get? a=some ob/\ob.dict=none:=by
 cases x with
 | str z =>
  obtain ⟨t,rfl⟩:=r
  cases (show T="str" from ty)
  exact ⟨typeIs_str s z t,fun _ e=>nomatch e⟩
 | int i =>
  obtain ⟨t,rfl⟩:=r
  cases (show T="int" from ty)
  exact ⟨typeIs_int s i t,fun _ e=>nomatch e⟩
 | ref p =>
  cases r
  rcases ty with ⟨rfl,xs,hq⟩ | ⟨rfl,o,hk,hc,hd⟩ | ⟨rfl,hk⟩ | ⟨rfl,S,n,hk⟩
  ·obtain ⟨its,_,pl,_⟩:=I.list hq
   refine ⟨pl.isList.typeIs,fun a e=>?_⟩
   cases e
   obtain ⟨o,n,e,c,hd,_⟩:=pl
   exact ⟨o,e,hd⟩
  ·refine ⟨⟨o,I.kIn p o hk,hc⟩,fun a e=>?_⟩
   cases e
   exact ⟨o,I.kIn _ o hk,hd⟩
  ·have z:∃ o,s.heap.get? p=some o/\o.ExactDict:=by
    rcases hk with ⟨kvs,hk⟩ | ⟨kvs,hk⟩
    ·obtain ⟨_,_,_,_,o,_,_,e,ex,_⟩:=I.hok p _ hk
     exact ⟨o,e,ex⟩
    ·obtain ⟨_,_,_,_,o,_,_,e,ex,_⟩:=I.hok p _ hk
     exact ⟨o,e,ex⟩
   obtain ⟨o,e,ex⟩:=z
   refine ⟨⟨o,e,ex.1⟩,fun a e2=>?_⟩
   cases e2
   exact ⟨o,e,ex.2.1⟩
  ·obtain ⟨o,_,_,_,e,ex,_⟩:=I.hok p _ hk
   refine ⟨⟨o,e,ex.1⟩,fun a e2=>?_⟩
   cases e2
   exact ⟨o,e,ex.2.1⟩
 | _=>exact False.elim ty
def tBM0 (K:PySem.W.Frag) (T:String) (r:V->List V->Hp->VK->Prop) (to:TE):TE:=fun σ H Q=>to σ H fun x H1=>tyV K T x H1/\r x [] H1 Q
def tBM (K:PySem.W.Frag) (T:String) (r:V->List V->Hp->VK->Prop) (to:TE) (t:TA):TE:=fun σ H Q=>to σ H fun x H1=>tyV K T x H1/\t σ H1 fun xs H2=>r x xs H2 Q
variable {o e:Expr} {es:List Expr} {to:TE} {t:TA} {name:Str} {apos cpos:Pos} {T id:String} {r:V->List V->Hp->VK->Prop}
theorem jfX (pa:PlainAttrs T) (slot:Slot T name id) (hty:typeOf (.builtin id)=pure (.type "method_descriptor")) (hm:MtR X id r) (ho:PE X o to)
  (hbase:attributeBase o name X.env (eval o X.env)=eval o X.env:=by rfl) (hline:(apos.endLine==cpos.line)=true:=by rfl):PE X (.Call (.Attribute o name apos) [] [] cpos) (tBM0 X.K T r to):=by
 intro pins s σ H Q I h
 refine wpAny_Call_method0_late hbase hline (thn (ho pins s σ H _ I h) fun v s1 ⟨x,H1,I1,r1,ty,q1⟩=>?_)
 obtain ⟨h1,h2⟩:=jmr I1 r1 ty
 exact ⟨T,id,pa,slot,hty,h1,h2,Calls.callWith_builtin rfl (PySem.evalArgs_none (hm pins s1 σ H1 x [] v [] Q I1 r1 .nil q1))⟩
theorem jbS (pa:PlainAttrs T) (slot:Slot T name id) (hty:typeOf (.builtin id)=pure (.type "method_descriptor")) (hm:MtR X id r) (ho:PE X o to) (ha:PA X (e::es) t)
  (hbase:attributeBase o name X.env (eval o X.env)=eval o X.env:=by rfl)
  (hfew:((backTo cpos (starEach (e::es) X.env)).all (fun x=>!x.1)&&(backToKw cpos (keywordEach [] X.env)).all (fun x=>x.1.isSome)
   && decide ((e::es).length+([]:List Keyword).length+(if ([]:List Keyword).isEmpty then 0 else 1) < 30))=true:=by rfl)
  (hline:(apos.endLine==cpos.line)=true:=by rfl) (hs:starEach (e::es) X.env=(false,eval e X.env)::starEach es X.env:=by rfl) (hplain:(backTo cpos (starEach es X.env)).any (·.1)=false:=by rfl) :
  PE X (.Call (.Attribute o name apos) (e::es) [] cpos) (tBM X.K T r to t):=by
 intro pins s σ H Q I h
 refine wpAny_Call_method_late hbase hfew hline rfl (thn (ho pins s σ H _ I h) fun v s1 ⟨x,H1,I1,r1,ty,q1⟩=>?_)
 obtain ⟨h1,h2⟩:=jmr I1 r1 ty
 refine ⟨T,id,pa,slot,hty,h1,h2,?_⟩
 have hA:=ha cpos pins s1 σ H1 _ I1 q1
 rw [hs] at hA ⊢
 refine Calls.callWith_builtin (by show (false || (backTo cpos (starEach es X.env)).any (·.1))=false; rw [hplain] <;> rfl) (Calls.evalArgs_plain ?_)
 exact thn hA fun us s2 ⟨vs,H2,I2,r2,q2⟩=>hm pins s2 σ H2 x vs v us Q I2 r1 r2 q2
/- xs.append(e),list.index on a module's tuple .. are MtR facts of 06m -/
end
def MtM (X:Cx) (id:String) (r:V->List V->Hp->VK->Prop):Prop :=
 ∀ (pins:List (Addr×Obj)) (s:Shared) (σ:St) (H:Hp) (x:V) (xs:List V) (v:Value) (us:List Value) (Q:VK),Inv X pins σ H s->RelV x v->Vals xs us->r x xs H Q ->
  wpAny (model X.prog X.w) X.A (call (.builtin id) (v::us)) (EP X pins σ Q) X.xe s
theorem Vals.one:∀ {x:V} {us:List Value},Vals [x] us->∃ u,us=[u]/\RelV x u
 | _,_,.cons r .nil=>⟨_,rfl,r⟩
theorem Vals.zero:∀ {us:List Value},Vals [] us->us=[]
 | _,.nil=>rfl
theorem Vals.dropLast {xs:List V} {us:List Value} (h:Vals xs us):Vals xs.dropLast us.dropLast:=by
 induction h with
 | nil=>exact .nil
 | cons r t ih =>
  cases t with
  | nil=>exact .nil
  | cons q t'=>exact .cons r ih
theorem Vals.reverse {xs:List V} {us:List Value} (h:Vals xs us):Vals xs.reverse us.reverse:=by
 induction h with
 | nil=>exact .nil
 | cons r t ih=>rw [List.reverse_cons,List.reverse_cons]; exact Vals.append ih (.cons r .nil)
theorem jiB {α:Type} (l:List α):l.eraseIdx (l.length - 1)=l.dropLast:=by
 induction l with
 | nil=>rfl
 | cons a r ih =>
  cases r with
  | nil=>rfl
  | cons b r =>
   have e:(a::b::r).length - 1=((b::r).length - 1)+1:=by
    have h1:(a::b::r).length=r.length+2:=rfl
    have h2:(b::r).length=r.length+1:=rfl
    omega
   rw [e,List.eraseIdx_cons_succ,ih]
   all_goals rfl
section
variable {X:Cx} {pins:List (Addr×Obj)} {σ:St} {H:Hp} {s:Shared} {l b:Addr} {xs ys zs:List V}
theorem Inv.lset {its its':List Value} {n:Nat} {f:Array Value->Array Value} {t':Nat} (I:Inv X pins σ H s) (hH:H l=some (.lst xs))
  (e:s.heap.get? l=some {cls:=.type "list",data:=.seq its.toArray n}) (hf:f its.toArray=its'.toArray) (hv:Vals ys its') (hz:ys.length<=sizeLine) :
  Inv X pins σ (upd H l (.lst ys)) {s with heap:=s.heap.update l (Obj.mapSeq f),toks:=t'}:=by
 have q:=PySem.IsL.update e f
 rw [hf] at q
 refine I.write (x:=l) (e:=l) (by rw [hH]; exact trivial) (.inl rfl) (fun b' u hb hu=>(Heap.get?_update_other s.heap (Obj.mapSeq f) (Ne.symm hb)).trans hu) ⟨_,q⟩ ?_
 exact ⟨hz,its',_,hv,q⟩
theorem Inv.lstM (I:Inv X pins σ H s) (hH:H l=some (.lst xs)):xs.length<=sizeLine/\∃ (its:List Value) (n:Nat),Vals xs its/\xs.length=its.length/\s.heap.get? l=some {cls:=.type "list",data:=.seq its.toArray n}:=by
 obtain ⟨z,its,n,r,e⟩:=I.hok l _ hH
 exact ⟨z,its,n,r,r.length,e⟩
theorem jlw {n:Nat} (h:n<=sizeLine):Builtin.List.listTooLong n=false:=by
 unfold Builtin.List.listTooLong
 exact decide_eq_false (by omega)
end
section
variable {X:Cx}
def jfj:V->List V->Hp->VK->Prop:=fun x vs H Q=>∃ l xs y,x=.ref l/\vs=[y]/\H l=some (.lst xs)/\xs.length < sizeLine/\Q .non (upd H l (.lst (xs++[y])))
theorem jaH:MtM X "list.append" jfj:=by
 intro pins s σ H x vs v us Q I rx rv h
 obtain ⟨l,xs,y,rfl,rfl,hH,hz,q⟩:=h
 cases rx
 obtain ⟨u,rfl,ru⟩:=rv.one
 obtain ⟨z,its,n,r,hl,e⟩:=I.lstM hH
 refine call_meets F.slot_list_append ⟨_,e,rfl⟩ F.entry_list_append (F.args_list_append_2 _ _) (PySem.list_append l its.toArray n u (by rw [List.size_toArray]; omega)) ⟨e,?_⟩
 refine ⟨.non,_,I.lset (its':=its++[u]) hH e (by simp) (r.append (.cons ru .nil)) ?_,rfl,q⟩
 rw [List.length_append,List.length_singleton]
 omega
def jnq:V->List V->Hp->VK->Prop:=fun x vs H Q=>∃ l b xs zs,x=.ref l/\vs=[.ref b]/\H l=some (.lst xs)/\H b=some (.lst zs)/\xs.length+zs.length<=sizeLine/\Q .non (upd H l (.lst (xs++zs)))
theorem jjx:MtM X "list.extend" jnq:=by
 intro pins s σ H x vs v us Q I rx rv h
 obtain ⟨l,b,xs,zs,rfl,rfl,hH,hB,hz,q⟩:=h
 cases rx
 obtain ⟨u,rfl,ru⟩:=rv.one
 cases ru
 obtain ⟨z,its,n,r,hl,e⟩:=I.lstM hH
 obtain ⟨z2,its2,n2,r2,hl2,e2⟩:=I.lstM hB
 have hsz:its.toArray.size+its2.toArray.size<=sizeLine:=by rw [List.size_toArray,List.size_toArray]; omega
 have hlong:¬ (!its.toArray.isEmpty&&Builtin.List.listTooLong (its.toArray.size+its2.toArray.size))=true:=by
  rw [jlw hsz,Bool.and_false]
  exact Bool.false_ne_true
 refine call_meets F.slot_list_extend ⟨_,e,rfl⟩ F.entry_list_extend (F.args_list_extend_2 _ _)
  (AutoSeq1.list_extend_list_list_0 l its.toArray n b its2.toArray n2 hlong (by rw [List.size_toArray]; omega) (by omega)) ⟨e,e2,?_⟩
 refine ⟨.non,_,I.lset (its':=its++its2) hH e (by simp) (r.append r2) ?_,rfl,q⟩
 rw [List.length_append]
 omega
def rPop:V->List V->Hp->VK->Prop:=fun x vs H Q=>∃ l xs y,x=.ref l/\vs=[]/\H l=some (.lst xs)/\xs[xs.length - 1]?=some y/\Q y (upd H l (.lst xs.dropLast))
theorem jms:MtM X "list.pop" rPop:=by
 intro pins s σ H x vs v us Q I rx rv h
 obtain ⟨l,xs,y,rfl,rfl,hH,hy,q⟩:=h
 cases rx
 have hus:=rv.zero
 subst hus
 obtain ⟨z,its,n,r,hl,e⟩:=I.lstM hH
 obtain ⟨u,hu,ru⟩:=r.get hy
 have hy':its.toArray[its.toArray.size - 1]?=some u:=by
  show its.toArray[its.length - 1]?=some u
  rw [<- Array.getElem?_toList,<- hl]
  exact hu
 refine call_meets F.slot_list_pop ⟨_,e,rfl⟩ F.entry_list_pop (F.args_list_pop_1 _) (MeetsSeq.list_pop_last l its.toArray n u hy' (by rw [List.size_toArray]; omega)) ⟨e,?_⟩
 refine ⟨y,_,I.lset (its':=its.dropLast) hH e ?_ r.dropLast ?_,ru,q⟩
 ·show its.toArray.eraseIdxIfInBounds (its.toArray.size - 1)=its.dropLast.toArray
  rw [List.size_toArray,List.eraseIdxIfInBounds_toArray,jiB]
 ·rw [List.length_dropLast]
  omega
def jlx:V->List V->Hp->VK->Prop:=fun x vs H Q=>∃ l xs,x=.ref l/\vs=[]/\H l=some (.lst xs)/\Q .non (upd H l (.lst xs.reverse))
theorem jiC:MtM X "list.reverse" jlx:=by
 intro pins s σ H x vs v us Q I rx rv h
 obtain ⟨l,xs,rfl,rfl,hH,q⟩:=h
 cases rx
 have hus:=rv.zero
 subst hus
 obtain ⟨z,its,n,r,hl,e⟩:=I.lstM hH
 refine call_meets F.slot_list_reverse ⟨_,e,rfl⟩ F.entry_list_reverse (F.args_list_reverse_1 _) (AutoSeq1.list_reverse_list_0 l its.toArray n (by rw [List.size_toArray]; omega)) ⟨e,?_⟩
 refine ⟨.non,_,I.lset (its':=its.reverse) hH e (by simp) r.reverse ?_,rfl,q⟩
 rw [List.length_reverse]
 omega
end
section
variable {prog:Program} {w:World} {A:Around} {E:Value->Shared->Prop} {s:Shared}
set_option maxRecDepth 100000 in
end
section
variable {X:Cx}
end
end L2
namespace Att
open PySem PySem.W PySem.Calls PyProof.Rows
theorem jdR {P:Params} {h:Heap}:∀ (ns:List Int) (vs:List Value),WellAll P h vs (ns.map WData.int)->IntsAre vs ns:=by
 intro ns
 induction ns with
 | nil =>
  intro vs w
  rw [List.map_nil] at w
  cases w
  exact .nil
 | cons n ns ih =>
  intro vs w
  rw [List.map_cons] at w
  cases w with
  | cons a b =>
   cases a
   exact .cons _ _ (ih _ b)
theorem jjy {l:OpenLaw} {n:Nat} (hn:l.most=some n) {P:Params} {h:Heap} {args:List WData} {vals:List Value}
  (hpre:l.row.toRowW.claim.pre args=true) (hwl:WellAll P h vals args) :
  ∃ a vs ns,vals=[Value.ref a]/\args=[WData.list (ns.map WData.int)]/\h.get? a=some {cls:=.type "list",data:=.seq vs.toArray}/\IntsAre vs ns/\ns.length<=n:=by
 have hsh:WShape.hasAll [] args [.list .int]=true:=(pre_splitW hpre).1
 have hc:l.pre.holds [] {args:=args}=true:=(pre_splitW hpre).2
 obtain ⟨d,r,rfl,h1,h2⟩:=hasAllW_cons hsh
 obtain rfl:=hasAllW_nil h2
 obtain ⟨xs,rfl,h3⟩:=hasW_list h1
 obtain ⟨ns,rfl⟩:=items_int h3
 have hlen:ns.length<=n:=by
  unfold OpenLaw.pre at hc
  have h4:(WTm.not (.lt (.lit (.int (n:Int))) (.len (.arg 0)))).holds [] {args:=[.list (ns.map .int)]}=true:=by
   have h4:=(holds_andW hc).1
   rw [hn] at h4
   exact h4
  have h5:=condW_of h4 (w_not (w_lt w_lit (w_len_list (w_arg rfl))))
  rw [List.length_map] at h5
  refine Nat.le_of_not_lt fun q=>?_
  have q':(n:Int) < ((ns.length:Nat):Int):=by omega
  first
   | (rw [decide_eq_true q'] at h5; exact absurd h5 (by decide))
   | (simp at h5; omega)
 cases hwl with
 | cons w1 w2 =>
  cases w2
  cases w1 with
  | list ho hall=>exact ⟨_,_,ns,rfl,rfl,ho,jdR ns _ hall,hlen⟩
theorem jjz (l:OpenLaw) (args:List WData):l.row.toRowW.claim.post args (.bool true) args=true :=
 postW_of (r:=l.row.toRowW) (X:=(true==true))
  (show WShape.has [] (.bool true) .bool=true by first | rfl | decide | simp [WShape.has,WShape.arms,WShape.armsAll])
  (show (WTm.eq .res (.lit (.bool true))).value [] {args:=args,res:=some (.bool true),after:=args}=some (.bool (true==true)) from w_eq_bool (w_res rfl) w_lit) rfl
theorem attach_call {l:OpenLaw} {n:Nat} {q:Program} {loose:List Str} {XP:(Str->Option Value)->Heap->Prop} {YP:World->Heap->Prop} {d:DefRec}
  (hn:l.most=some n) (hdf:d.params.defaults=[])
  (call:∀ (w:World) (s₀ s₁:Shared) (mg mb:Str->Option Value) (fa:Addr) (o:Obj) (pm cd doc:Value) (a:Addr) (vs:List Value) (ns:List Int),
   Ground q loose [] XP w s₀ mg mb s₁.heap->YP w s₁.heap ->
   s₁.heap.get? fa=some o->o.data=.func (docDef d.name d.params d.body d.scope pm cd doc)->s₁.heap.CodeRec cd d.name->mg d.name=some (.ref fa) ->
   s₁.heap.get? a=some {cls:=.type "list",data:=.seq vs.toArray}->IntsAre vs ns->ns.length<=n->s₁.gens=#[] ->
   codeAny (model l.prog w) callerA (.call (.ref fa) ⟨[.ref a],[]⟩) (fun r s'=>r=.ok (.ret (.bool true))/\OldK s₁.heap s'.heap/\s'.os=s₁.os/\AllBare s'.gens) s₁) :
  WalkO q loose XP YP l.row.toRowW d [] (fun f vs=>PySem.call f vs):=by
 intro w s₀ s₁ mg mb G Y fa o pm cd doc dV kV ho hd hcd hD hmg hg args vals as hpre hlay hrd hwl hlo
 obtain rfl:dV=.none:=Dflts.none hD hdf
 obtain rfl:kV=.none:=Dflts.noKw hD
 obtain ⟨a,vs,ns,rfl,rfl,hobj,hints,hlen⟩:=jjy hn hpre hwl
 refine enter_call (codeAny_mono (call w s₀ s₁ mg mb fa o pm cd doc a vs ns G Y ho (fd_plain hd) hcd hmg hobj hints hlen hg) fun r s' hq=>?_)
 obtain ⟨rfl,h2,h3,h4⟩:=hq
 exact ⟨.inl ⟨.bool true,.bool true,[],rfl,fun _=>rfl,.bool true,jjz l _,fun _=>⟨List.Pairwise.nil,fun _ hm=>(nomatch hm)⟩⟩,h2,h3,h4⟩
section
variable {prog:Program} {w:World} {A:Around} {E:Value->Shared->Prop} {s:Shared} {K:Frag}
end
end Att
namespace L2
open PySem PySem.Spec PyProof.Rows
theorem jfY:∀ {vs:List Value} {ns:List Int},IntsAre vs ns->Vals (ns.map V.int) vs
 | _,_,.nil=>.nil
 | _,_,.cons n t h=>.cons ⟨t,rfl⟩ (jfY h)
def Only (H:Hp):Prop:=∀ b,H b=none\/∃ o xs,H b=some (.frz o (.lst xs))
theorem jly {P:Program} {w:World} {K:PySem.W.Frag} {mg mb:Str->Option Value} {CX:CXT} {k:Nat} {fa a:Addr} {fd:FuncData} {x:Str} {sp:Sp} {s₁:Shared} {vs:List Value} {ns:List Int}
  (KX:K.In s₁.heap) (hns:s₁.heap.Ns mainGlobals mg) (hb:s₁.heap.Ns builtinsNs mb) (hbb:∀ x:Str,x≠"__name__"->mb x=bootBuiltins x) (hlim:s₁.heap.NoLimit) (hg:s₁.gens=#[])
  (ha:s₁.heap.get? a=some {cls:=.type "list",data:=.seq vs.toArray}) (hi:IntsAre vs ns) (hl:ns.length<=sizeLine) (hr:Room k callerA)
  (F:∀ base:Heap,K.In base->base.Ns mainGlobals mg->FnOk P w K mg base CX k fa fd [x] sp) (hbind:∀ (s:Shared) (u:Value),BindsTo s fd ⟨[u],[]⟩ [(x,u)])
  (hsp:∀ H:Hp,Only H->SqL K H a (ns.map V.int)->sp [.ref a] H (fun v _=>v=.bl true) fun _ _ _=>False)
  (hCX:∀ H e s',CX [] H s₁ (fun _ _ _=>False) e s'->False) :
  codeAny (model P w) callerA (.call (.ref fa) ⟨[.ref a],[]⟩) (fun r s'=>r=.ok (.ret (.bool true))/\OldK s₁.heap s'.heap/\s'.os=s₁.os/\AllBare s'.gens) s₁:=by
 have rv:=jfY hi
 have lenV:=hi.length
 have core:∀ H:Hp,Only H->SqL K H a (ns.map V.int)->HOk P w H s₁.heap->(∀ b,H b≠none->b=a)->(H a≠none->K.lookup a=none) ->
   codeAny (model P w) callerA (.call (.ref fa) ⟨[.ref a],[]⟩) (fun r s'=>r=.ok (.ret (.bool true))/\OldK s₁.heap s'.heap/\s'.os=s₁.os/\AllBare s'.gens) s₁:=by
  intro H hO hS hok hA hK
  have base_of:∀ {b:Addr} {o:Obj},s₁.heap.get? b=some o->H b=none->(jll s₁.heap H).get? b=some o:=fun e n=>jlm e n
  have noA:∀ {b:Addr} {o:Obj} {es:Array DictEntry} {ep:Nat},s₁.heap.get? b=some o->o.data=.dict es ep->H b=none:=fun {b o es ep} e d=>by
   cases q:H b with
   | none=>rfl
   | some u =>
    have e':b=a:=hA b (by rw [q]; simp)
    subst e'
    rw [ha] at e; cases e
    have d':Data.seq vs.toArray _=Data.dict es ep:=d
    cases d'
  have nsK:∀ {b:Addr} {m:Str->Option Value},s₁.heap.Ns b m->(jll s₁.heap H).Ns b m:=fun {b m} ⟨o,es,ep,e,d,r⟩=>⟨o,es,ep,base_of e (noA e d),d,r⟩
  have hKb:K.In (jll s₁.heap H):=fun b o e=>base_of (KX b o e) (by
   cases q:H b with
   | none=>rfl
   | some u =>
    have e':b=a:=hA b (by rw [q]; simp)
    subst e'
    rw [hK (by rw [q]; simp)] at e; cases e)
  have hM:Mod K mg (jll s₁.heap H):=⟨hKb,nsK hns,⟨mb,nsK hb,hbb⟩,let ⟨mc,h1,h2⟩:=hlim; ⟨mc,nsK h1,h2⟩⟩
  have e0:Env0 P w K mg (jll s₁.heap H) callerA [] s₁ H:=⟨rfl,hM,fun b o e=>jnf e,Nat.le_of_eq (jiY _ _),trivial,fun b hb=>absurd (show b∈([]:List Addr) from hb) (by simp),hok,.of_eq hg⟩
  refine codeAny_mono ((F _ hKb (nsK hns)).run callerA [] s₁ H ⟨[.ref a],[]⟩ [.ref a] [.ref a] _ _ hr e0 (hbind s₁ (.ref a)) (.cons rfl .nil) (hsp H hO hS)) fun r s' h=>?_
  cases r with
  | error e=>exact (hCX H e s' h).elim
  | ok fl =>
   cases fl with
   | next=>exact False.elim h
   | brk=>exact False.elim h
   | cont=>exact False.elim h
   | ret u =>
    obtain ⟨v,H',os,bare,un,hok',r',q⟩:=h
    have q':v=.bl true:=q
    subst q'
    obtain rfl:u=Value.bool true:=r'
    refine ⟨rfl,OldK.of_keep fun b o e=>?_,os,bare⟩
    cases q:H b with
    | none=>exact un.keep b o e q (by intro z; exact absurd (show b∈([]:List Addr) from z) (by simp)) (by simp)
    | some u =>
     rcases hO b with z | ⟨ob,xs,z⟩
     ·rw [q] at z; cases z
     ·have z2:=un.frzs b ob _ z
      obtain ⟨e1,_⟩:=hok b _ z
      obtain ⟨e2,_⟩:=hok' b _ z2
      rw [e] at e1; cases e1
      exact e2
 cases hk:K.lookup a with
 | some o =>
  have e:=KX a o hk
  rw [ha] at e
  cases e
  refine core (fun _=>none) (fun _=>.inl rfl) (.inr ⟨_,vs.toArray,_,hk,rfl,rfl,rfl,by rw [List.size_toArray,lenV]; exact hl,by simpa using rv⟩) (fun b u z=>by have z':(none:Option HO)=some u:=z; cases z') (fun b z=>absurd rfl z) fun z=>absurd rfl z
 | none =>
  refine core (fun b=>if b=a then some (.frz {cls:=.type "list",data:=.seq vs.toArray} (.lst (ns.map V.int))) else none) (fun b=>?_) (.inl (.inr ⟨{cls:=.type "list",data:=.seq vs.toArray},if_pos rfl⟩)) (fun b u z=>?_) (fun b z=>?_) fun _=>hk
  ·by_cases hb:b=a
   ·exact .inr ⟨_,_,if_pos hb⟩
   ·exact .inl (if_neg hb)
  ·by_cases hb:b=a
   ·have z':=(if_pos hb).symm.trans z
    cases z'
    subst hb
    exact ⟨ha,by rw [List.length_map]; exact hl,vs,_,rv,ha⟩
   ·have z':=(if_neg hb).symm.trans z
    cases z'
  ·by_cases hb:b=a
   ·exact hb
   ·exact absurd (if_neg hb) z
theorem walk_of {l:PySem.W.OpenLaw} {n k:Nat} {q:Program} {loose:List Str} {XP:(Str->Option Value)->Heap->Prop} {YP:World->Heap->Prop} {d:DefRec} {K:Params->PySem.W.Frag} {CX:World->CXT} {sp:World->Sp} {x:Str}
  (hn:l.most=some n) (hn2:n<=sizeLine) (hdf:d.params.defaults=[]) (hr:Room k callerA)
  (hY:∀ (w:World) (h:Heap),YP w h->(K w.params).In h)
  (F:∀ (w:World) (mg:Str->Option Value) (fa:Addr) (h:Heap),(K w.params).In h->h.Ns mainGlobals mg->mg d.name=some (.ref fa) ->
   ∃ fd:FuncData,(∀ (s:Shared) (u:Value),BindsTo s fd ⟨[u],[]⟩ [(x,u)]) /\
    ∀ base:Heap,(K w.params).In base->base.Ns mainGlobals mg->FnOk l.prog w (K w.params) mg base (CX w) k fa fd [x] (sp w))
  (hsp:∀ (w:World) (H:Hp) (a:Addr) (ns:List Int),ns.length<=n->Only H->SqL (K w.params) H a (ns.map V.int)->sp w [.ref a] H (fun v _=>v=.bl true) fun _ _ _=>False)
  (hCX:∀ (w:World) (H:Hp) (s:Shared) (e:Value) (s':Shared),CX w [] H s (fun _ _ _=>False) e s'->False) :
  PySem.W.WalkO q loose XP YP l.row.toRowW d [] (fun f vs=>PySem.call f vs):=by
 refine Att.attach_call hn hdf fun w s₀ s₁ mg mb fa o pm cd doc a vs ns G Y ho hd hcd hmg hobj hints hlen hg=>?_
 have KX:=hY w _ Y
 obtain ⟨fd,hb,hF⟩:=F w mg fa _ KX G.T.g hmg
 exact jly KX G.T.g G.T.b G.T.builtins G.T.nolimit hg hobj hints (Nat.le_trans hlen hn2) hr hF hb (fun H hO hS=>hsp w H a ns hlen hO hS) fun H e s'=>hCX w H s₁ e s'
def jbC (s:Stmt) (j:Nat):Stmt:=match s with
 | .ClassDef _ _ _ body _ _ _ _ _ _ _=>body.getD j (.Pass ⟨0,0,0,0⟩)
 | _=>.Pass ⟨0,0,0,0⟩
def jby (s:Stmt):Arguments:=match s with
 | .FunctionDef _ a _ _ _ _ _ _ _ _=>a
 | _=>{posonlyargs:=[],args:=[],vararg:=none,kwonlyargs:=[],kw_defaults:=[],kwarg:=none,defaults:=[]}
def jaU (s:Stmt):List Stmt:=match s with
 | .FunctionDef _ _ b _ _ _ _ _ _ _=>b
 | _=>[]
def jag (s:Stmt):Scope:=match s with
 | .FunctionDef _ _ _ _ _ _ sc _ _ _=>sc
 | _=>{kind:=.function,names:=[],isGenerator:=false,isCoroutine:=false}
abbrev CX0:CXT:=fun _ _ _ _ _ _=>False
abbrev E0:XK:=fun _ _ _=>False
theorem jam {X:Cx}:jeN CX0 X E0:=fun _ _ _ _ _ _ _ h=>h.elim
structure Fun (K:PySem.W.Frag) (x qual:Str) (st:Stmt) (f:Addr) (fd:FuncData):Prop where
 ex:∃ (oc:Value) (od:Option Addr) (kV doc pm:Value) (an:Option Addr) (cdv ct:Value) (osl:Array (Option Value)),
  fd=PySem.W.fnOf x qual (jby st) (jaU st) (jag st) .none kV doc pm an cdv ct/\K.lookup f=some ⟨oc,od,.func fd,osl⟩/\PySem.W.codeIn K cdv qual=true
 kp:PySem.W.keepIn K (.ref f)=true
section
variable {P:Program} {w:World} {K:PySem.W.Frag} {mg:Str->Option Value} {base:Heap}
theorem Fun.ok {x qual:Str} {st:Stmt} {f:Addr} {fd:FuncData} {N ps:List Str} {k:Nat} {sp:Sp} (F:Fun K x qual st f fd) (S:FnScope N ps (jag st)) (len:∀ vs H Q E,sp vs H Q E->vs.length=ps.length)
  (hbody:∀ (cdv:Value) (A:Around) (outer:List Env) (s:Shared) (H:Hp) (vs:List V) (Q:VK) (E:XK),Room k (A.deeper (envOfC qual (jag st) s.heap.objs.size f cdv))->sp vs H Q E ->
   ∃ t,PSs (jmo CX0 P w K mg base N qual (jag st) f cdv A outer s H E).nox (jaU st) t/\t {nx:=fun _ H'=>Q .non H',rt:=Q} (jff N vs) H):FnOk P w K mg base CX0 (k+1) f fd ps sp:=by
 obtain ⟨oc,od,kV,doc,pm,an,cdv,ct,osl,rfl,lk,hcd⟩:=F.ex
 refine joB lk hcd S len fun A outer s H vs Q E hr hsp=>?_
 obtain ⟨t,h,q⟩:=hbody cdv A outer s H vs Q E hr hsp
 exact ⟨t,h.nox,q⟩
theorem Fun.binds {x qual:Str} {st:Stmt} {f:Addr} {fd:FuncData} {ps:List Str} (F:Fun K x qual st f fd)
  (h:∀ (kV doc pm:Value) (an:Option Addr) (cdv ct:Value) (us:List Value),us.length=ps.length->bindArgs (PySem.W.fnOf x qual (jby st) (jaU st) (jag st) .none kV doc pm an cdv ct) ⟨us,[]⟩=pure (ps.zip us)):Binds K fd ps []:=by
 obtain ⟨oc,od,kV,doc,pm,an,cdv,ct,osl,rfl,lk,hcd⟩:=F.ex
 exact .all (h kV doc pm an cdv ct)
theorem fun_mk {x qual:Str} {st:Stmt} {f:Addr} {oc:Value} {od an:Option Addr} {osl:Array (Option Value)} {kV doc pm cdv ct:Value} (l:K.lookup f=some ⟨oc,od,.func (PySem.W.fnOf x qual (jby st) (jaU st) (jag st) .none kV doc pm an cdv ct),osl⟩)
  (c:PySem.W.codeIn K cdv qual=true) (k:PySem.W.keepIn K (.ref f)=true):Fun K x qual st f (PySem.W.fnOf x qual (jby st) (jaU st) (jag st) .none kV doc pm an cdv ct):=⟨⟨oc,od,kV,doc,pm,an,cdv,ct,osl,rfl,l,c⟩,k⟩
end
theorem jdS {A:Around} {k:Nat} (hr:Room k A):A.units+1 < cLine:=Nat.lt_of_le_of_lt (Nat.add_le_add_left (by decide:1<=64) _) hr.units
theorem jbs {n:Nat} (h:n<=1000):n < sizeLine:=Nat.lt_of_le_of_lt h (by decide)
section
variable {X:Cx}
theorem pv (i:Nat) {x:Str} {pos:Pos} (hN:X.N[i]?=some x:=by rfl) (hv:Vis X.env.scope x:=by first | exact Or.inl rfl | exact Or.inr (Or.inl rfl) | exact Or.inr (Or.inr rfl)) (hd:(x==("__debug__":Str))=false:=by decide)
  (hcd:(x==("__classdict__":Str))=false:=by decide):PE X (.Name x pos) (jbA i):=jot hN hv hd hcd
end
theorem jbn {A B:Prop} (h:B):if false=true then A else B:=by
 rw [if_neg Bool.false_ne_true]
 exact h
theorem jcc {A B:Prop} (h:A):if true=true then A else B:=by
 rw [if_pos rfl]
 exact h
theorem ite2 {c A B:Prop} [Decidable c] (h1:c->A) (h2:¬ c->B):if c then A else B:=by
 by_cases h:c
 ·rw [if_pos h]
  exact h1 h
 ·rw [if_neg h]
  exact h2 h
theorem jdT {c A B:Prop} [Decidable c] (hc:c) (h:B):if (!decide c)=true then A else B:=by
 rw [decide_eq_true hc]
 exact jbn h
def Same (H H':Hp):Prop:=∀ b o,H b=some o->H' b=some o
theorem Same.refl (H:Hp):Same H H:=fun _ _ h=>h
theorem Same.trans {H H1 H2:Hp} (a:Same H H1) (b:Same H1 H2):Same H H2:=fun c o h=>b c o (a c o h)
theorem Same.free {H H':Hp} (e:Same H H') {l:Addr} (h:H' l=Option.none):H l=Option.none:=by
 cases q:H l with
 | none=>rfl
 | some o =>
  rw [e l o q] at h
  cases h
theorem Same.seq {K:PySem.W.Frag} {H H':Hp} {a:Addr} {xs:List V} (e:Same H H') (h:SqL K H a xs):SqL K H' a xs:=by
 rcases h with (h | ⟨o,h⟩) | h
 ·exact .inl (.inl (e _ _ h))
 ·exact .inl (.inr ⟨o,e _ _ h⟩)
 ·exact .inr h
section
variable {κ:Type} [DecidableEq κ]
def jbt (kvs:List (κ×V)) (k:κ):Option V:=(kvs.find? fun kv=>decide (kv.1=k)).map (·.2)
def putK (kvs:List (κ×V)) (k:κ) (v:V):List (κ×V) :=
 if (kvs.any fun kv=>decide (kv.1=k))=true then kvs.map (fun kv=>if kv.1=k then (kv.1,v) else kv) else kvs++[(k,v)]
theorem jaV {p:κ×V} {r:List (κ×V)} {k:κ} (e:p.1=k):jbt (p::r) k=some p.2:=by simp [jbt,List.find?_cons,e]
theorem jaQ {p:κ×V} {r:List (κ×V)} {k:κ} (e:¬ p.1=k):jbt (p::r) k=jbt r k:=by simp [jbt,List.find?_cons,e]
theorem jbT (k:κ):∀ kvs:List (κ×V),(kvs.any fun kv=>decide (kv.1=k))=(jbt kvs k).isSome
 | []=>rfl
 | p::r=>by
  rw [List.any_cons]
  by_cases e:p.1=k
  ·simp only [jaV e,decide_eq_true e,Bool.true_or,Option.isSome_some]
  ·rw [jaQ e,decide_eq_false e,Bool.false_or]; exact jbT k r
theorem jhF (k j:κ) (y:V):∀ kvs:List (κ×V),jbt (kvs.map fun kv=>if kv.1=k then (kv.1,y) else kv) j=(jbt kvs j).map fun x=>if j=k then y else x
 | []=>rfl
 | p::r=>by
  have ih:=jhF k j y r
  rw [List.map_cons]
  by_cases h:p.1=k
  ·rw [if_pos h]
   by_cases e:p.1=j
   ·rw [jaV (p:=(p.1,y)) e,jaV e,Option.map_some,if_pos (e.symm.trans h)]
   ·rw [jaQ (p:=(p.1,y)) e,jaQ e,ih]
  ·rw [if_neg h]
   by_cases e:p.1=j
   ·rw [jaV (p:=p) e,jaV e,Option.map_some,if_neg (fun z=>h (e.trans z))]
   ·rw [jaQ (p:=p) e,jaQ e,ih]
theorem jfZ (k j:κ) (y:V):∀ kvs:List (κ×V),jbt kvs k=none->jbt (kvs++[(k,y)]) j=if j=k then some y else jbt kvs j
 | [],_=>by
  by_cases e:k=j
  ·rw [if_pos e.symm]; exact jaV (p:=(k,y)) e
  ·rw [if_neg (fun z=>e z.symm)]; exact jaQ (p:=(k,y)) e
 | p::r,hn=>by
  rw [List.cons_append]
  have hk:¬ p.1=k:=fun z=>by rw [jaV z] at hn; cases hn
  rw [jaQ hk] at hn
  have ih:=jfZ k j y r hn
  by_cases e:p.1=j
  ·rw [jaV e,jaV e,if_neg (fun z=>hk (e.trans z))]
  ·rw [jaQ e,jaQ e,ih]
theorem jlz (kvs:List (κ×V)) (k j:κ) (y:V):jbt (putK kvs k y) j=if j=k then some y else jbt kvs j:=by
 unfold putK
 by_cases a:(kvs.any fun kv=>decide (kv.1=k))=true
 ·rw [if_pos a,jhF]
  rw [jbT] at a
  by_cases e:j=k
  ·obtain ⟨x,hx⟩:=Option.isSome_iff_exists.mp a
   rw [if_pos e,e,hx,Option.map_some,if_pos rfl]
  ·rw [if_neg e]
   cases jbt kvs j with
   | none=>rfl
   | some x=>rw [Option.map_some,if_neg e]
 ·rw [if_neg a]
  refine jfZ k j y kvs ?_
  rw [jbT] at a
  cases q:jbt kvs k with
  | none=>rfl
  | some x=>rw [q] at a; exact (a rfl).elim
theorem jcA (kvs:List (κ×V)) (k:κ) (v:V):(putK kvs k v).length<=kvs.length+1:=by
 unfold putK
 split
 ·rw [List.length_map]; omega
 ·rw [List.length_append,List.length_cons,List.length_nil]; omega
theorem jdA {kvs:List (κ×V)} {k:κ} (v:V) (h:jbt kvs k=none):putK kvs k v=kvs++[(k,v)]:=by
 unfold putK
 rw [jbT,h]
 exact if_neg (by decide)
theorem RelO.isSome_eq {o:Option V} {u:Option Value} (r:RelO o u):o.isSome=u.isSome:=by
 cases o with
 | none=>cases u with
  | none=>rfl
  | some _=>exact (show False from r).elim
 | some _=>cases u with
  | none=>exact (show False from r).elim
  | some _=>rfl
theorem RelO.getD {o:Option V} {u:Option Value} {d:V} {d':Value} (r:RelO o u) (rd:RelV d d'):RelV (o.getD d) (u.getD d'):=by
 cases o with
 | none=>cases u with
  | none=>exact rd
  | some _=>exact (show False from r).elim
 | some _=>cases u with
  | none=>exact (show False from r).elim
  | some _=>exact r
theorem KV.val {kvs:List (κ×V)} {vs:List (κ×Value)} (r:KV kvs vs) (k:κ):RelO (jbt kvs k) (valueAt vs k):=by
 unfold KV at r
 induction r with
 | nil=>exact True.intro
 | @cons p q ps qs h t ih =>
  obtain ⟨h1,h2⟩:=h
  by_cases e:p.1=k
  ·have e':q.1=k:=h1.symm.trans e
   have b:valueAt (q::qs) k=some q.2:=by simp [valueAt,List.find?_cons,e']
   rw [jaV e,b]; exact h2
  ·have e':¬ q.1=k:=fun z=>e (h1.trans z)
   have b:valueAt (q::qs) k=valueAt qs k:=by simp [valueAt,List.find?_cons,e']
   rw [jaQ e,b]; exact ih
theorem KV.any {kvs:List (κ×V)} {vs:List (κ×Value)} (r:KV kvs vs) (k:κ):(kvs.any fun kv=>decide (kv.1=k))=vs.any fun kv=>decide (kv.1=k):=by
 unfold KV at r
 induction r with
 | nil=>rfl
 | cons h t ih=>rw [List.any_cons,List.any_cons,ih,h.1]
theorem KV.repl {kvs:List (κ×V)} {vs:List (κ×Value)} (r:KV kvs vs) (k:κ) {y:V} {u:Value} (ry:RelV y u) :
  KV (kvs.map fun kv=>if kv.1=k then (kv.1,y) else kv) (vs.map fun kv=>if kv.1=k then (kv.1,u) else kv):=by
 unfold KV at r ⊢
 induction r with
 | nil=>exact .nil
 | @cons p q ps qs h t ih =>
  rw [List.map_cons,List.map_cons]
  refine .cons ?_ ih
  obtain ⟨h1,h2⟩:=h
  by_cases e:p.1=k
  ·rw [if_pos e,if_pos (h1.symm.trans e)]; exact ⟨h1,ry⟩
  ·rw [if_neg e,if_neg (fun z=>e (h1.trans z))]; exact ⟨h1,h2⟩
theorem KV.put {kvs:List (κ×V)} {vs:List (κ×Value)} (r:KV kvs vs) (k:κ) {y:V} {u:Value} (ry:RelV y u):KV (putK kvs k y) (stored vs k u):=by
 unfold putK stored
 rw [r.any k]
 by_cases e:(vs.any fun kv=>decide (kv.1=k))=true
 ·rw [if_pos e,if_pos e]; exact r.repl k ry
 ·rw [if_neg e,if_neg e]; exact Paired.snoc r ⟨rfl,ry⟩
theorem KV.length {kvs:List (κ×V)} {vs:List (κ×Value)} (r:KV kvs vs):kvs.length=vs.length:=Paired.length r
end
theorem jiD {P:Program} {w:World} {k:Key} {u:Value} (r:RelV (kV k) u):(jaD P w).is k u=true:=by
 cases k with
 | inl i=>obtain ⟨t,e⟩:=(show ∃ t,u=Value.int i t from r); subst e; exact jgJ P w i t
 | inr x=>obtain ⟨t,e⟩:=(show ∃ t,u=Value.str x t from r); subst e; exact jgK P w x t
theorem jga {P:Program} {w:World}:∀ {ks:List Key} {us:List Value},Vals (ks.map kV) us->ItemsAre (jaD P w) ks us
 | [],_,r=>by rw [List.map_nil] at r; cases r; exact .nil
 | k::ks,_,r=>by
  rw [List.map_cons] at r
  cases r with
  | cons h t=>exact .cons (jiD h) (jga t)
abbrev KT (H:Hp):List (List Key×V)->List (List Key×Addr×Value)->Prop:=Paired fun p q=>p.1=q.1/\H q.2.1=some (.tup (p.1.map kV))/\RelV p.2 q.2.2
theorem KT.val {H:Hp} {kvs:List (List Key×V)} {xs:List (List Key×Addr×Value)} (r:KT H kvs xs) (k:List Key):RelO (jbt kvs k) ((atKey xs k).map (·.2)):=by
 induction r with
 | nil=>exact True.intro
 | @cons p q ps qs h t ih =>
  obtain ⟨h1,_,h2⟩:=h
  by_cases e:p.1=k
  ·have e':q.1=k:=h1.symm.trans e
   have b:atKey (q::qs) k=some q.2:=by simp [atKey,List.find?_cons,e']
   rw [jaV e,b]; exact h2
  ·have e':¬ q.1=k:=fun z=>e (h1.trans z)
   have b:atKey (q::qs) k=atKey qs k:=by simp [atKey,List.find?_cons,e']
   rw [jaQ e,b]; exact ih
theorem KT.repl {H:Hp} {kvs:List (List Key×V)} {xs:List (List Key×Addr×Value)} (r:KT H kvs xs) (k:List Key) {y:V} {u:Value} (ry:RelV y u) :
  KT H (kvs.map fun kv=>if kv.1=k then (kv.1,y) else kv) (xs.map (putAt k u)):=by
 induction r with
 | nil=>exact .nil
 | @cons p q ps qs h t ih =>
  rw [List.map_cons,List.map_cons]
  refine .cons ?_ ih
  obtain ⟨h1,h2,h3⟩:=h
  unfold putAt
  by_cases e:p.1=k
  ·rw [if_pos e,if_pos (h1.symm.trans e)]; exact ⟨h1,h2,ry⟩
  ·rw [if_neg e,if_neg (fun z=>e (h1.trans z))]; exact ⟨h1,h2,h3⟩
theorem KT.put {H:Hp} {kvs:List (List Key×V)} {xs:List (List Key×Addr×Value)} (r:KT H kvs xs) (k:List Key) {b:Addr} {y:V} {u:Value} (hb:H b=some (.tup (k.map kV))) (ry:RelV y u) :
  KT H (putK kvs k y) (storedH xs k b u):=by
 have e:(kvs.any fun kv=>decide (kv.1=k))=(atKey xs k).isSome:=by
  rw [jbT,(r.val k).isSome_eq,Option.isSome_map]
 unfold putK storedH
 rw [e]
 by_cases q:(atKey xs k).isSome=true
 ·rw [if_pos q,if_pos q]; exact r.repl k ry
 ·rw [if_neg q,if_neg q]; exact Paired.snoc r ⟨rfl,hb,ry⟩
theorem KT.keeps {H H':Hp} {kvs:List (List Key×V)} {xs:List (List Key×Addr×Value)} (r:KT H kvs xs) (ht:∀ b ys,H b=some (.tup ys)->H' b=some (.tup ys)):KT H' kvs xs :=
 Paired.mapP r fun _ _ z=>⟨z.1,ht _ _ z.2.1,z.2.2⟩
section
variable {P:Program} {w:World} {H:Hp} {h:Heap} {a:Addr}
theorem joE {u:HO} (ok:HOk P w H h) (e:Rd H a u):ObjOk P w H h a u:=e.ok ok
theorem jdU {kvs:List (Key×V)} (ok:HOk P w H h) (e:Rd H a (.dK kvs)):kvs.length<=sizeLine/\(a==sysModules)=false/\∃ vs,KV kvs vs/\h.DictOf (jaD P w) a vs :=
 show ObjOk P w H h a (.dK kvs) from joE ok e
theorem joF {kvs:List (Key×V)} (ok:HOk P w H h) (e:H a=some (.dK kvs)):kvs.length<=sizeLine/\(a==sysModules)=false/\∃ vs,KV kvs vs/\h.DictOf (jaD P w) a vs:=jdU ok (.inl e)
theorem key_of {ks:List Key} (ok:HOk P w H h) (e:H a=some (.tup (ks.map kV))):(tupleKind (jaD P w)).is h ks a:=by
 obtain ⟨_,its,r,o,h1,h2,n,h3⟩:=(show ObjOk P w H h a (.tup (ks.map kV)) from ok a _ e)
 exact ⟨o,its.toArray,n,h1,h2,h3,by simpa using jga r⟩
theorem jiE {kvs:List (List Key×V)} (ok:HOk P w H h) (e:Rd H a (.dT kvs)):kvs.length<=sizeLine/\(a==sysModules)=false /\
  ∃ xs,KT H kvs xs/\h.DictOfH (tupleKind (jaD P w)) a xs:=by
 obtain ⟨z,y,xs,r,o,es,ep,h1,h2,h3,h4,h5⟩:=(show ObjOk P w H h a (.dT kvs) from joE ok e)
 refine ⟨z,y,xs,r,o,es,ep,h1,h2,h3,h4,fun x hx=>?_,h5⟩
 have all:∀ {l:List (List Key×V)} {m:List (List Key×Addr×Value)},KT H l m->∀ x∈m,(tupleKind (jaD P w)).is h x.1 x.2.1:=by
  intro l m q
  induction q with
  | nil=>intro x hx; exact nomatch hx
  | @cons p q ps qs hq t ih =>
   intro x hx
   rcases List.mem_cons.mp hx with e | hx
   ·subst e
    exact key_of ok (by rw [<- hq.1]; exact hq.2.1)
   ·exact ih x hx
 exact all r x hx
theorem dt_of {kvs:List (List Key×V)} (ok:HOk P w H h) (e:H a=some (.dT kvs)):kvs.length<=sizeLine/\(a==sysModules)=false /\
  ∃ xs,KT H kvs xs/\h.DictOfH (tupleKind (jaD P w)) a xs:=jiE ok (.inl e)
end
def DGet (H:Hp) (a:Addr) (y:V) (r:Option V):Prop :=
 (∃ kvs k,Rd H a (.dK kvs)/\y=kV k/\r=jbt kvs k)\/∃ kvs k b,Rd H a (.dT kvs)/\y=.ref b/\H b=some (.tup (k.map kV))/\r=jbt kvs k
def DPut (H:Hp) (a:Addr) (y v:V) (H':Hp):Prop :=
 (∃ kvs k,H a=some (.dK kvs)/\y=kV k/\kvs.length < sizeLine/\H'=upd H a (.dK (putK kvs k v))) \/
 ∃ kvs k b,H a=some (.dT kvs)/\y=.ref b/\H b=some (.tup (k.map kV))/\kvs.length < sizeLine/\H'=upd H a (.dT (putK kvs k v))
theorem DGet.k {H:Hp} {a:Addr} {kvs:List (Key×V)} {k:Key} (e:H a=some (.dK kvs)):DGet H a (kV k) (jbt kvs k):=.inl ⟨kvs,k,.inl e,rfl,rfl⟩
theorem DGet.t {H:Hp} {a b:Addr} {kvs:List (List Key×V)} {k:List Key} (e:H a=some (.dT kvs)) (eb:H b=some (.tup (k.map kV))):DGet H a (.ref b) (jbt kvs k):=.inr ⟨kvs,k,b,.inl e,rfl,eb,rfl⟩
theorem DPut.k {H:Hp} {a:Addr} {kvs:List (Key×V)} {k:Key} {v:V} (e:H a=some (.dK kvs)) (hl:kvs.length < sizeLine):DPut H a (kV k) v (upd H a (.dK (putK kvs k v))):=.inl ⟨kvs,k,e,rfl,hl,rfl⟩
theorem DPut.t {H:Hp} {a b:Addr} {kvs:List (List Key×V)} {k:List Key} {v:V} (e:H a=some (.dT kvs)) (eb:H b=some (.tup (k.map kV))) (hl:kvs.length < sizeLine) :
  DPut H a (.ref b) v (upd H a (.dT (putK kvs k v))):=.inr ⟨kvs,k,b,e,rfl,eb,hl,rfl⟩
section
variable {X:Cx} {pins:List (Addr×Obj)} {σ:St} {H:Hp} {s:Shared} {a:Addr} {y v:V} {u r:Value} {o:Option V} {A:Around} {E:Value->Shared->Prop}
theorem Inv.big (I:Inv X pins σ H s):sysModules < s.heap.objs.size:=by
 have h:mainGlobals < s.heap.objs.size:=(I.mod.glob.keeps I.bk).lt
 exact Nat.lt_trans (by decide) h
theorem jjA {Q:Value->Shared->Prop} (hu:A.units+1 < cLine) (I:Inv X pins σ H s) (g:DGet H a y (some v)) (ry:RelV y u) (h:∀ w' s',Inv X pins σ H s'->RelV v w'->Q w' s') :
  wpAny (model X.prog X.w) A (getItem (.ref a) u) Q E s:=by
 rcases g with ⟨kvs,k,e,ey,l⟩ | ⟨kvs,k,b,e,ey,eb,l⟩
 ·subst ey
  obtain ⟨z,hd,vs,rel,dd⟩:=jdU I.hok e
  obtain ⟨w',hw,rw'⟩:=RelO.some_of (v:=v) (o:=valueAt vs k) (by rw [l]; exact rel.val k)
  exact wpAny_getItem_of (jiD ry) dd.mapOf hw (h w' _ (I.tok _) rw')
 ·subst ey
  cases (show u=Value.ref b from ry)
  obtain ⟨z,hd,xs,rel,dd⟩:=jiE I.hok e
  obtain ⟨w',hw,rw'⟩:=RelO.some_of (v:=v) (o:=(atKey xs k).map (·.2)) (by rw [l]; exact rel.val k)
  obtain ⟨p,hp,hp2⟩:=Option.map_eq_some_iff.mp hw
  refine wpAny_getItem_heap (tupleKind_room_in1 hu) (key_of I.hok eb) dd hp ?_
  rw [hp2]
  exact h w' _ (I.tok _) rw'
theorem jnr {Q:Value->Shared->Prop} (hu:A.units+1 < cLine) (I:Inv X pins σ H s) (g:DGet H a y o) (ry:RelV y u) (h:∀ s',Inv X pins σ H s'->Q (.bool (!o.isSome)) s') :
  wpAny (model X.prog X.w) A (compareOp .NotIn u (.ref a)) Q E s:=by
 rcases g with ⟨kvs,k,e,ey,l⟩ | ⟨kvs,k,b,e,ey,eb,l⟩
 ·subst ey
  obtain ⟨z,hd,vs,rel,dd⟩:=jdU I.hok e
  refine wpAny_notIn_of (jiD ry) hd dd.mapOf ?_
  rw [<- (rel.val k).isSome_eq,<- l]
  exact h _ (I.tok _)
 ·subst ey
  cases (show u=Value.ref b from ry)
  obtain ⟨z,hd,xs,rel,dd⟩:=jiE I.hok e
  refine wpAny_notIn_heap (tupleKind_room_in1 hu) (key_of I.hok eb) hd dd ?_
  have q:=(rel.val k).isSome_eq
  rw [Option.isSome_map] at q
  rw [<- q,<- l]
  exact h _ (I.tok _)
theorem jgO {h':Heap} {t':Nat} {ob:HO} (I:Inv X pins σ H s) (mu:Mut (H a)) (hs:Heap.SameBut a s.heap h') (he:∃ q,h'.get? a=some q) (new:ObjOk X.prog X.w (upd H a ob) h' a ob) :
  Inv X pins σ (upd H a ob) {s with heap:=h',toks:=t'} :=
 I.write (x:=a) (e:=a) mu (.inl rfl) (fun b q hb z=>(hs.2 b hb).trans z) he new
theorem jmt {P:Program} {w:World} {H':Hp} {h':Heap} {kvs:List (Key×V)} {vs:List (Key×Value)} (z:kvs.length<=sizeLine) (hd:(a==sysModules)=false) (rel:KV kvs vs) (dd:h'.DictOf (jaD P w) a vs) :
  ObjOk P w H' h' a (.dK kvs):=⟨z,hd,vs,rel,dd⟩
theorem jjB {H':Hp} {Q:Unit->Shared->Prop} (hu:A.units+1 < cLine) (I:Inv X pins σ H s) (g:DPut H a y v H') (ry:RelV y u) (rv:RelV v r) (h:∀ s',Inv X pins σ H' s'->Q () s') :
  wpAny (model X.prog X.w) A (setItem (.ref a) u r) Q E s:=by
 rcases g with ⟨kvs,k,e,ey,l,eH⟩ | ⟨kvs,k,b,e,ey,eb,l,eH⟩
 ·subst ey eH
  obtain ⟨z,hd,vs,rel,dd⟩:=joF I.hok e
  have hz:vs.length<=sizeLine:=by rw [<- rel.length]; exact z
  have hl:(putK kvs k v).length<=sizeLine:=by have:=jcA kvs k v; omega
  refine wpAny_setItem_pairs (hsz:=hz) (jiD ry) dd fun h' dd' hs=>h _ ?_
  have he:∃ q,h'.get? a=some q:=let ⟨q,_,_,hq,_⟩:=dd'; ⟨q,hq⟩
  exact jgO I (by rw [e]; exact True.intro) hs he (jmt hl hd (rel.put k rv) dd')
 ·subst ey eH
  cases (show u=Value.ref b from ry)
  obtain ⟨z,hd,xs,rel,dd⟩:=dt_of I.hok e
  have hz:xs.length<=sizeLine:=by rw [<- Paired.length rel]; exact z
  have hl:(putK kvs k v).length<=sizeLine:=by have:=jcA kvs k v; omega
  refine wpAny_setItem_heap (hsz:=hz) (tupleKind_room_in1 hu) (key_of I.hok eb) dd fun h' dd' hs=>h _ ?_
  obtain ⟨q,es,ep,hq,h2,h3,h4,_,h5⟩:=dd'
  refine jgO I (by rw [e]; exact True.intro) hs ⟨q,hq⟩ ⟨hl,hd,_,(rel.put k eb rv).keeps fun c ys ec=>?_,q,es,ep,hq,h2,h3,h4,h5⟩
  rw [jao (jbw ec e (fun z=>nomatch z))]
  exact ec
end
section
variable {X:Cx} {pins:List (Addr×Obj)} {σ:St} {H:Hp} {s:Shared} {a:Addr} {kvs:List (Key×V)} {k:Key} {u:Value} {A:Around} {E:Value->Shared->Prop}
theorem jns {Q:Value->Shared->Prop} (I:Inv X pins σ H s) (e:H a=some (.dK kvs)) (h:∀ s',Inv X pins σ (upd H a (.dK [])) s'->Q .none s'):wpAny (model X.prog X.w) A (call (.builtin "dict.clear") [.ref a]) Q E s:=by
 obtain ⟨z,hd,vs,rel,dd⟩:=joF I.hok e
 refine call_meetsIn PySem.F.slot_dict_clear dd.typeIs PySem.F.entry_dict_clear (PySem.F.args_dict_clear_1 _) (meets_dict_clear (jaD X.prog X.w) a) ⟨vs,dd,by rw [<- rel.length]; exact z,fun h' dd' hs=>h _ ?_⟩
 have he:∃ q,h'.get? a=some q:=let ⟨q,_,_,hq,_⟩:=dd'; ⟨q,hq⟩
 exact jgO (t':=s.toks) I (by rw [e]; exact True.intro) hs he (jmt (Nat.zero_le _) hd .nil dd')
end
def NoSl (i:Expr):Prop:=∀ ov iv,subscripted i false ov iv=operate [ov,iv] (getItem ov iv)
theorem subD_of {prog:Program} {w:World} {A:Around} {E:Value->Shared->Prop} {s:Shared} {env:Env} {value slice:Expr} {pos:Pos} {T id:String} {Q:Value->Shared->Prop}
  (hl:typeLookup (.type T) "__getitem__"=pure (some (.builtin id))) (hs:NoSl slice)
  (h:wpAny (model prog w) A (eval value env) (fun o s₁=>wpAny (model prog w) A (eval slice env) (fun i s₂=>s₂.TypeIs o T/\wpAny (model prog w) A (getItem o i) Q E s₂) E s₁) E s) :
  wpAny (model prog w) A (eval (.Subscript value slice pos) env) Q E s:=by
 refine Subscript_ (wpAny_mono h (fun o s₁ h₁=>wpAny_mono h₁ (fun i s₂ h₂=>?_) fun _ _ x=>x) fun _ _ x=>x)
 obtain ⟨hT,h₂⟩:=h₂
 unfold subscriptTail
 refine wpAny_bind ?_
 rw [getitemInPython_of_ne hT.not_modules]
 refine wpAny_bind (wpAny_specialOf hT hl ?_)
 have fin:wpAny (model prog w) A (subscripted slice false o i) (fun r s₃=>wpAny (model prog w) A (letTemporaryGo value o r>>=fun _=>pure r) Q E s₃) E s₂:=by
  rw [hs o i]
  exact wpAny_operating (wpAny_mono h₂ (fun r s₃ h₃=>wpAny_bind (wpAny_letTemporaryGo (wpAny_pure h₃))) fun _ _ x=>x)
 first
  | exact wpAny_pure (wpAny_bind fin)
  | exact wpAny_bind (wpAny_pure (wpAny_bind fin))
  | exact wpAny_bind fin
theorem jgP {X:Cx} {pins:List (Addr×Obj)} {σ:St} {H:Hp} {s:Shared} {a:Addr} {y:V} {o:Option V} (I:Inv X pins σ H s) (g:DGet H a y o):s.TypeIs (.ref a) "dict":=by
 rcases g with ⟨kvs,k,e,_,_⟩ | ⟨kvs,k,b,e,_,_,_⟩
 ·obtain ⟨_,_,vs,_,dd⟩:=jdU I.hok e
  exact dd.typeIs
 ·obtain ⟨_,_,xs,_,dd⟩:=jiE I.hok e
  exact dd.typeIs
def joG (td ty:TE):TE:=fun σ H Q=>td σ H fun x H1=>ty σ H1 fun y H2=>∃ a v,x=.ref a/\DGet H2 a y (some v)/\Q v H2
def jnt (ty td:TE):TE:=fun σ H Q=>ty σ H fun y H1=>td σ H1 fun x H2=>∃ a o,x=.ref a/\DGet H2 a y o/\Q (.bl (!o.isSome)) H2
def sDPut (td ty tv:TE):TS:=fun D σ H=>tv σ H fun v H1=>td σ H1 fun x H2=>ty σ H2 fun y H3=>∃ a H4,x=.ref a/\DPut H3 a y v H4/\D.nx σ H4
section
variable {X:Cx} {o i e value:Expr} {pos pos' tpos:Pos} {td ty tv:TE}
theorem jdc (hu:X.A.units+1 < cLine) (ho:PE X o td) (hi:PE X i ty) (hs:NoSl i):PE X (.Subscript o i pos) (joG td ty):=by
 intro pins s σ H Q I h
 refine subD_of PySem.F.slot_dict_getitem.lookup hs (thn (ho pins s σ H _ I h) fun u s1 ⟨x,H1,I1,rx,q1⟩=>thn (hi pins s1 σ H1 _ I1 q1) fun iv s2 ⟨y,H2,I2,ry,a,v,ex,g,q2⟩=>?_)
 subst ex
 obtain rfl:u=Value.ref a:=rx
 exact ⟨jgP I2 g,jjA hu I2 g ry fun w' s3 I3 rw'=>⟨v,H2,I3,rw',q2⟩⟩
theorem jgb (hu:X.A.units+1 < cLine) (hi:PE X i ty) (ho:PE X o td):PC X .NotIn i o (jnt ty td):=by
 intro pins s σ H Q I h
 refine thn (hi pins s σ H _ I h) fun iv s1 ⟨y,H1,I1,ry,q1⟩=>thn (ho pins s1 σ H1 _ I1 q1) fun u s2 ⟨x,H2,I2,rx,a,ov,ex,g,q2⟩=>?_
 subst ex
 obtain rfl:u=Value.ref a:=rx
 exact jnr hu I2 g ry fun s3 I3=>⟨.bl (!ov.isSome),H2,I3,rfl,q2⟩
theorem jcB (hu:X.A.units+1 < cLine) (ho:PE X o td) (hi:PE X i ty) (hv:PE X value tv) (hs:swapsWith value (some (.Subscript o i pos')) pos.line X.env=pure false) :
  PS X (.Assign [.Subscript o i pos'] value pos) (sDPut td ty tv):=by
 intro pins s σ H D I h
 refine wpAny_Assign_Subscript (thn (hv pins s σ H _ I h) fun r s1 ⟨v,H1,I1,rv,q1⟩=>thn (ho pins s1 σ H1 _ I1 q1) fun u s2 ⟨x,H2,I2,rx,q2⟩=>thn (hi pins s2 σ H2 _ I2 q2) fun iv s3 ⟨y,H3,I3,ry,a,H4,ex,g,q3⟩=>?_) hs
 subst ex
 obtain rfl:u=Value.ref a:=rx
 exact jjB hu I3 g ry rv fun s4 I4=>⟨σ,H4,I4,q3⟩
end
theorem jlA {P:Program} {w:World} {H:Hp} (h:Heap) (hb:sysModules < h.objs.size):ObjOk P w H (h.push {cls:=.type "dict",data:=.dict #[]}) h.objs.size (.dK []) :=
 ⟨Nat.zero_le _,beq_eq_false_iff_ne.mpr (Ne.symm (Nat.ne_of_lt hb)),[],.nil,Heap.DictOf.new h⟩
theorem jlB {P:Program} {w:World} {H:Hp} (h:Heap) (hb:sysModules < h.objs.size):ObjOk P w H (h.push {cls:=.type "dict",data:=.dict #[]}) h.objs.size (.dT []) :=
 ⟨Nat.zero_le _,beq_eq_false_iff_ne.mpr (Ne.symm (Nat.ne_of_lt hb)),[],.nil,_,#[],0,Heap.get?_push_size _ rfl,⟨rfl,rfl,rfl⟩,rfl,rfl,List.nodup_nil⟩
def joH:TE:=fun _ H Q=>∀ p,H p=none->Q (.ref p) (upd H p (.dK []))
def joI:TE:=fun _ H Q=>∀ p,H p=none->Q (.ref p) (upd H p (.dT []))
section
variable {X:Cx} {pos:Pos}
theorem jdB:PE X (.Dict [] [] pos) joH:=fun pins s σ H Q I h =>
 wpAny_Dict_empty ⟨.ref s.heap.objs.size,_,I.laid (a:=s.heap.objs.size) (o:=.dK []) (t':=s.toks) (fun _ _ q=>Heap.get?_push_of_some _ q) (Nat.le_refl _) (jlA s.heap I.big),rfl,h _ (I.hok.fresh (Nat.le_refl _))⟩
theorem jlC:PE X (.Dict [] [] pos) joI:=fun pins s σ H Q I h =>
 wpAny_Dict_empty ⟨.ref s.heap.objs.size,_,I.laid (a:=s.heap.objs.size) (o:=.dT []) (t':=s.toks) (fun _ _ q=>Heap.get?_push_of_some _ q) (Nat.le_refl _) (jlB s.heap I.big),rfl,h _ (I.hok.fresh (Nat.le_refl _))⟩
end
structure M2 (X:Cx) (o:Expr) (m:Str) (apos:Pos) (e f:Expr) (cpos:Pos):Prop where
 base:attributeBase o m X.env (eval o X.env)=eval o X.env
 few:((backTo cpos (starEach [e,f] X.env)).all (fun x=>!x.1)&&(backToKw cpos (keywordEach [] X.env)).all (fun x=>x.1.isSome)
  && decide (([e,f]:List Expr).length+([]:List Keyword).length+(if ([]:List Keyword).isEmpty then 0 else 1) < 30))=true
 line:(apos.endLine==cpos.line)=true
 trees:backTo cpos (starEach [e,f] X.env)=[(false,eval e X.env),(false,eval f X.env)]
def IsD (H:Hp) (a:Addr):Prop:=(∃ kvs,Rd H a (.dK kvs))\/∃ kvs,Rd H a (.dT kvs)
theorem joJ {X:Cx} {pins:List (Addr×Obj)} {σ:St} {H:Hp} {s:Shared} {a:Addr} (I:Inv X pins σ H s) (d:IsD H a) :
  s.TypeIs (.ref a) "dict"/\(∀ b,Value.ref a=.ref b->∃ ob,s.heap.get? b=some ob/\ob.dict=none)/\(a==sysModules)=false:=by
 rcases d with ⟨kvs,e⟩ | ⟨kvs,e⟩
 ·obtain ⟨_,hd,vs,_,dd⟩:=jdU I.hok e
  refine ⟨dd.typeIs,fun b q=>?_,hd⟩
  cases q
  obtain ⟨ob,_,_,h1,h2,_⟩:=dd
  exact ⟨ob,h1,h2.2.1⟩
 ·obtain ⟨_,hd,xs,_,dd⟩:=jiE I.hok e
  refine ⟨dd.typeIs,fun b q=>?_,hd⟩
  cases q
  obtain ⟨ob,_,_,h1,h2,_⟩:=dd
  exact ⟨ob,h1,h2.2.1⟩
section
variable {X:Cx} {pins:List (Addr×Obj)} {σ:St} {H:Hp} {s:Shared} {a:Addr} {y d:V} {u r:Value} {o:Option V} {A:Around} {E:Value->Shared->Prop}
theorem joK {Q:Value->Shared->Prop} (hu:A.units+1 < cLine) (I:Inv X pins σ H s) (g:DGet H a y o) (ry:RelV y u) (rd:RelV d r) (h:∀ w' s',Inv X pins σ H s'->RelV (o.getD d) w'->Q w' s') :
  wpAny (model X.prog X.w) A (call (.builtin "dict.get") [.ref a,u,r]) Q E s:=by
 rcases g with ⟨kvs,k,e,ey,l⟩ | ⟨kvs,k,b,e,ey,eb,l⟩
 ·subst ey
  obtain ⟨z,hd,vs,rel,dd⟩:=jdU I.hok e
  refine call_meetsIn PySem.F.slot_dict_get dd.typeIs PySem.F.entry_dict_get (PySem.F.args_dict_get_3 _ _ _) (meets_dict_get_default (jaD X.prog X.w) a (jiD ry) hd r) ⟨_,dd.mapOf,h _ _ (I.tok _) ?_⟩
  rw [l]
  exact (rel.val k).getD rd
 ·subst ey
  cases (show u=Value.ref b from ry)
  obtain ⟨z,hd,xs,rel,dd⟩:=jiE I.hok e
  refine call_meetsIn PySem.F.slot_dict_get dd.typeIs PySem.F.entry_dict_get (PySem.F.args_dict_get_3 _ _ _) (meetsH_dict_get_default (tupleKind (jaD X.prog X.w)) a b hd r) ⟨tupleKind_room_in1 hu,k,xs,key_of I.hok eb,dd,h _ _ (I.tok _) ?_⟩
  rw [l]
  exact (rel.val k).getD rd
end
def joL (td ty tx:TE):TE:=fun σ H Q=>td σ H fun x H1=>∃ a,x=.ref a/\IsD H1 a/\ty σ H1 fun y H2=>tx σ H2 fun z H3=>∃ o,DGet H3 a y o/\Q (o.getD z) H3
section
variable {X:Cx} {o e f:Expr} {apos cpos:Pos} {td ty tx:TE}
theorem jhG (hu:X.A.units+1 < cLine) (ho:PE X o td) (he:PE X e ty) (hf:PE X f tx) (m:M2 X o "get" apos e f cpos):PE X (.Call (.Attribute o "get" apos) [e,f] [] cpos) (joL td ty tx):=by
 intro pins s σ H Q I h
 refine wpAny_Call_method m.base m.few m.line PySem.F.plainAttrs_dict PySem.F.slot_dict_get PySem.F.type_dict_get (thn (ho pins s σ H _ I h) fun u s1 ⟨x,H1,I1,rx,a,ex,d,q1⟩=>?_)
 subst ex
 obtain rfl:u=Value.ref a:=rx
 obtain ⟨t1,t2,_⟩:=joJ I1 d
 refine ⟨t1,t2,?_⟩
 rw [m.trees]
 refine Calls.callWith_builtin rfl (Calls.evalArgs_plain (Calls.spliced_cons (thn (he pins s1 σ H1 _ I1 q1) fun iv s2 ⟨y,H2,I2,ry,q2⟩ =>
  Calls.spliced_cons (thn (hf pins s2 σ H2 _ I2 q2) fun fv s3 ⟨z,H3,I3,rz,ov,g,q3⟩=>Calls.spliced_nil ?_))))
 exact joK hu I3 g ry rz fun w' s4 I4 rw'=>⟨_,H3,I4,rw',q3⟩
end
section
variable {X:Cx} {pins:List (Addr×Obj)} {σ:St} {H:Hp} {s:Shared} {a:Addr} {kvs:List (Key×V)} {A:Around} {E:Value->Shared->Prop}
end
section
variable {X:Cx} {pins:List (Addr×Obj)} {σ:St} {H:Hp} {s:Shared} {a:Addr} {y:V} {u:Value} {A:Around} {E:Value->Shared->Prop}
end
section
variable {X:Cx}
end
section
variable {κ:Type} [DecidableEq κ]
theorem jlD {kvs:List (κ×V)} {k:κ} (h:jbt kvs k=none):¬ k∈kvs.map (·.1):=by
 intro m
 obtain ⟨p,hp,e⟩:=List.mem_map.mp m
 have q:(kvs.any fun kv=>decide (kv.1=k))=true:=List.any_eq_true.mpr ⟨p,hp,decide_eq_true e⟩
 rw [jbT,h] at q
 exact absurd q (by simp)
theorem jnu {kvs:List (κ×V)} {k:κ} {v:V} (h:jbt kvs k=some v):k∈kvs.map (·.1):=by
 have q:(kvs.any fun kv=>decide (kv.1=k))=true:=by
  rw [jbT,h]
  all_goals rfl
 obtain ⟨p,hp,e⟩:=List.any_eq_true.mp q
 exact List.mem_map.mpr ⟨p,hp,of_decide_eq_true e⟩
end
theorem jdd {env:Env}:∀ (names:List (Str×NameKind)) (acc:List (Str×Addr)),(∀ y∈names,y.2=.free->∃ c,env.cells.lookup y.1=some c)->(∀ n c,acc.lookup n=some c->env.cells.lookup n=some c) ->
  ∃ cl,(forIn names acc (fun (p:Str×NameKind) (cs:List (Str×Addr))=>(match p with | (name,kind)=>if (kind==NameKind.free)=true then do let c <- cellOf env name; pure (ForInStep.yield ((name,c)::cs)) else pure (ForInStep.yield cs):Sem (ForInStep (List (Str×Addr))))))=pure cl /\
   (∀ n c,cl.lookup n=some c->env.cells.lookup n=some c)/\(∀ n,(acc.lookup n).isSome=true->(cl.lookup n).isSome=true)/\(∀ y∈names,y.2=.free->(cl.lookup y.1).isSome=true)
 | [],acc,_,ha=>⟨acc,rfl,ha,fun _ h=>h,fun _ h=>nomatch h⟩
 | (n,k)::r,acc,hf,ha=>by
  by_cases hk:k=.free
  ·subst hk
   obtain ⟨c,hc⟩:=hf (n,.free) List.mem_cons_self rfl
   obtain ⟨cl,e,h1,h2,h3⟩:=jdd (env:=env) r ((n,c)::acc) (fun y hy=>hf y (List.mem_cons_of_mem _ hy)) (fun m d hd=>by
    rw [List.lookup_cons] at hd
    split at hd
    ·rename_i he
     rw [<- hd,<- hc,eq_of_beq he]
    ·exact ha m d hd)
   refine ⟨cl,?_,h1,fun m hm=>h2 m ?_,fun y hy hyk=>?_⟩
   ·rw [List.forIn_cons]
    show ((if (NameKind.free==NameKind.free)=true then do let c <- cellOf env n; pure (ForInStep.yield ((n,c)::acc)) else pure (ForInStep.yield acc))>>=_)=_
    rw [if_pos (show (NameKind.free==NameKind.free)=true from rfl)]
    have ec:cellOf env n=pure c:=by unfold cellOf; rw [hc]
    rw [ec,pure_bind,pure_bind]
    exact e
   ·rw [List.lookup_cons]; split
    ·rfl
    ·exact hm
   ·rcases List.mem_cons.mp hy with rfl | hy
    ·exact h2 n (by rw [List.lookup_cons]; simp)
    ·exact h3 y hy hyk
  ·obtain ⟨cl,e,h1,h2,h3⟩:=jdd (env:=env) r acc (fun y hy=>hf y (List.mem_cons_of_mem _ hy)) ha
   refine ⟨cl,?_,h1,h2,fun y hy hyk=>?_⟩
   ·rw [List.forIn_cons]
    show ((if (k==NameKind.free)=true then do let c <- cellOf env n; pure (ForInStep.yield ((n,c)::acc)) else pure (ForInStep.yield acc))>>=_)=_
    rw [if_neg (by simpa using hk),pure_bind]
    exact e
   ·rcases List.mem_cons.mp hy with rfl | hy
    ·exact absurd hyk hk
    ·exact h3 y hy hyk
theorem jeP {env:Env} {scope:Scope} (h:∀ y∈scope.names,y.2=.free->∃ c,env.cells.lookup y.1=some c):∃ cl,closureFor scope env=pure cl /\
   (∀ n c,cl.lookup n=some c->env.cells.lookup n=some c)/\(∀ y∈scope.names,y.2=.free->∃ c,cl.lookup y.1=some c):=by
 obtain ⟨cl,e,h1,_,h3⟩:=jdd (env:=env) scope.names [] h (fun _ _ z=>by cases z)
 refine ⟨cl,?_,h1,fun y hy hk=>Option.isSome_iff_exists.mp (h3 y hy hk)⟩
 unfold closureFor
 show (forIn scope.names ([]:List (Str×Addr)) _>>=_)=_
 refine (congrArg (fun m=>m>>=fun (cs:List (Str×Addr))=>(pure cs:Sem _)) e).trans ?_
 exact pure_bind _ _
section
variable {prog:Program} {w:World} {A:Around} {R:Result->Shared->Prop} {s:Shared}
abbrev FF:Value->Shared->Prop:=fun _ _=>False
theorem toF {α:Type} {M:Model} {A:Around} {t:Sem α} {Q Q':α->Shared->Prop} {E:Value->Shared->Prop} {s:Shared} (h:wpAny M A t Q FF s) (hQ:∀ a s,Q a s->Q' a s):wpAny M A t Q' E s:=wpAny_mono h hQ fun _ _ x=>x.elim
theorem comp_loop {elt target iter:Expr} {ifs:List Expr} {scope:Scope} {pos:Pos} {it acc:Value} {env:Env} (I:Nat->Shared->Prop)
  (turn:∀ n s,I n s->wpAny (model prog w) A (pyNext it) (fun r s₁=>match r with
   | none=>R (.ok .next) s₁
   | some v=>wpAny (model prog w) A (letOwnedTupleGo target it v) (fun _ s₁'=>wpAny (model prog w) A (assign target env v) (fun _ s₂ =>
     wpAny (model prog w) A (forIn ifs true fun c r=>if r=true then do let ok <- isTrue c env (eval c env); pure (ForInStep.yield ok) else pure (ForInStep.yield r)) (fun ok s₃ =>
      if ok=true then wpAny (model prog w) A (eval elt env) (fun x s₄ =>
       wpAny (model prog w) A (call (.builtin "list.append") [acc,x]) (fun _ s₅=>∃ m,m < n/\I m s₅) FF s₄) FF s₃
      else ∃ m,m < n/\I m s₃) FF s₂) FF s₁') FF s₁) FF s)
  (n:Nat) (h:I n s):codeAny (model prog w) A (.compLoop (.ListComp elt [⟨target,iter,ifs,0⟩] scope pos) 0 it acc env) R s:=by
 refine codeAny_loop rfl I (fun n s hI=>?_) n h
 show wpAny _ A ((compTurn (.ListComp elt [⟨target,iter,ifs,0⟩] scope pos) 0 it acc env).onRaise (fun x=>do noteFrame x env; theTreesLotGoes x)) _ _ s
 refine wpAny_noted ?_
 rw [compTurn_list]
 refine wpAny_bind (wpAny_standAt (wpAny_bind (toF (turn n s hI) fun r s₁ h₁=>?_)))
 cases r with
 | none=>exact wpAny_pure h₁
 | some v =>
  refine wpAny_bind (toF h₁ fun _ s₁' h₁'=>?_)
  refine wpAny_bind (toF h₁' fun _ s₂ h₂=>wpAny_bind (toF h₂ fun ok s₃ h₃=>?_))
  cases ok with
  | false=>exact wpAny_pure ⟨rfl,h₃⟩
  | true =>
   exact wpAny_bind (wpAny_bind (toF h₃ fun x s₄ h₄=>wpAny_bind (toF h₄ fun _ s₅ h₅=>wpAny_pure (wpAny_pure ⟨rfl,h₅⟩))))
end
def CapOk (X:Cx) (scope:Scope):List (Nat×Str)->Prop
 | []=>True
 | p::r=>(X.N[p.1]?=some p.2/\X.env.scope.names.lookup p.2=some .cell/\scope.names.lookup p.2=some .free)/\CapOk X scope r
structure CompScope (X:Cx) (scope:Scope) (x:Str) (cp:List (Nat×Str)):Prop where
 kind:scope.kind=.function
 hx:scope.names.lookup x=some .local
 nd:(x::cp.map (·.2)).Nodup
 names:∀ y∈scope.names,y.2=.local->scope.names.lookup y.1=some .local
 nocell:∀ y∈scope.names,y.2≠.cell
 free:∀ y∈scope.names,y.2=.free->X.env.scope.names.lookup y.1=some .cell
 cap:CapOk X scope cp
def jdu (X:Cx) (scope:Scope) (cl:List (Str×Addr)) (C:Addr) (N:List Str) (s:Shared) (H:Hp) (fp:List Addr):Cx where
 prog:=X.prog
 w:=X.w
 K:=X.K
 mg:=X.mg
 base:=X.base
 A:=X.A
 N:=N
 s₀:=s
 H₀:=H
 env:=compEnvC scope cl C X.env
 outer:=X.stack
 stack:=X.stack
 ex:=fp
 fn:=fun _=>false
 calm:=X.calm
 pn:=[]
 xe:=FF
def jiU (σ:St) (cp:List (Nat×Str)):St:=cp.map fun p=>(σ[p.1]?).join
theorem jlE (σ:St) (cp:List (Nat×Str)):(jiU σ cp).length=cp.length:=List.length_map _
theorem CapOk.get {X:Cx} {scope:Scope}:∀ {cp:List (Nat×Str)} {i:Nat} {p:Nat×Str},CapOk X scope cp->cp[i]?=some p->X.N[p.1]?=some p.2/\X.env.scope.names.lookup p.2=some .cell/\scope.names.lookup p.2=some .free
 | [],_,_,_,h=>by simp at h
 | _::_,0,_,hc,h=>by simp at h; subst h; exact hc.1
 | _::r,i+1,p,hc,h=>CapOk.get (cp:=r) (i:=i) hc.2 (by simpa using h)
theorem jcg {scope:Scope} {env:Env} {y:Str} {k:NameKind}:(relabel scope env).names.lookup y=some k->∃ k0,scope.names.lookup y=some k0/\(k=k0\/(k0=.free/\k=.cell)):=by
 unfold relabel
 show (scope.names.map _).lookup y=some k->_
 generalize scope.names=l
 induction l with
 | nil=>intro h; cases h
 | cons p r ih =>
  obtain ⟨n,q⟩:=p
  intro h
  by_cases hc:(q==NameKind.free&&env.scope.kind==.function&&env.kindOf n==some .cell)=true
  ·have e:(List.map (fun (x:Str×NameKind)=>if (x.2==NameKind.free&&env.scope.kind==.function&&env.kindOf x.1==some .cell)=true then (x.1,NameKind.cell) else (x.1,x.2)) ((n,q)::r))=(n,.cell)::List.map (fun (x:Str×NameKind)=>if (x.2==NameKind.free&&env.scope.kind==.function&&env.kindOf x.1==some .cell)=true then (x.1,NameKind.cell) else (x.1,x.2)) r:=by
    rw [List.map_cons]; dsimp only; rw [if_pos hc]
   have h':=e▸h
   rw [List.lookup_cons] at h' ⊢
   split at h'
   ·rename_i he
    simp only [Bool.and_eq_true,beq_iff_eq] at hc
    exact ⟨q,rfl,.inr ⟨hc.1.1,(Option.some.inj h').symm⟩⟩
   ·rename_i he
    exact ih h'
  ·have e:(List.map (fun (x:Str×NameKind)=>if (x.2==NameKind.free&&env.scope.kind==.function&&env.kindOf x.1==some .cell)=true then (x.1,NameKind.cell) else (x.1,x.2)) ((n,q)::r))=(n,q)::List.map (fun (x:Str×NameKind)=>if (x.2==NameKind.free&&env.scope.kind==.function&&env.kindOf x.1==some .cell)=true then (x.1,NameKind.cell) else (x.1,x.2)) r:=by
    rw [List.map_cons]; dsimp only; rw [if_neg hc]
   have h':=e▸h
   rw [List.lookup_cons] at h' ⊢
   split at h'
   ·rename_i he
    exact ⟨q,rfl,.inl (Option.some.inj h').symm⟩
   ·rename_i he
    exact ih h'
section
variable {X:Cx} {pins:List (Addr×Obj)} {σ:St} {H:Hp} {s:Shared}
theorem Inv.adopt {D:Addr} {o:HO} (I:Inv X pins σ H s) (hn:H D=none) (hL:D≠X.env.locals) (h1:X.s₀.heap.objs.size<=D) (h2:∀ x c,X.env.cells.lookup x=some c->c≠D) (h3:∀ p∈X.pn++pins,p.1≠D)
  (new:ObjOk X.prog X.w (upd H D o) s.heap D o):Inv X pins σ (upd H D o) s:=by
 have nit:∀ b u,H b=some u->b≠D:=fun b u e z=>by rw [z,hn] at e; cases e
 have:=I.step (h':=s.heap) (H':=upd H D o) (g':=s.gens) (d':=s.drawn) (t':=s.toks) (ch:=[D]) (fun b hb=>?_) (fun b o _ _ hc e _=>e) (fun b o _ _ hc e _=>⟨o.slots,e⟩)
  (fun b o hc e n=>by rw [jao (fun z=>hc (by simp [z]))]; exact n) (fun b o hc e=>⟨o,e⟩) (fun b xs e=>by rw [jao (nit b _ e)]; exact e) (fun b o u e=>by rw [jao (nit b _ e)]; exact e)
  (fun b ps e=>⟨#[],by rw [jao (nit b _ e),e]; simp⟩) (fun m hm=>hm) (fun b u e=>?_) I.bare
 ·exact this
 ·have e:b=D:=by simpa using hb
  subst e
  exact ⟨.inr h1,hL,h2,h3⟩
 ·by_cases hb:b=D
  ·subst hb; rw [jac] at e; cases e; exact new
  ·rw [jao hb] at e
   exact (I.hok b u e).stay (fun _ _ _ q=>q) (fun c q=>by rw [jao (nit c _ q)]; exact q) fun c xs q=>by rw [jao (nit c _ q)]; exact q
theorem jiF {scope:Scope} {x:Str} {cp:List (Nat×Str)} {cl:List (Str×Addr)} {C:Addr} {h1:Heap} {fp:List Addr} {m:Str->Option Value} {tk:Nat}
  (S:CompScope X scope x cp) (I:Inv X pins σ H s) (hcl:∀ n c,cl.lookup n=some c->X.env.cells.lookup n=some c) (hfr:∀ y∈scope.names,y.2=.free->∃ c,cl.lookup y.1=some c)
  (hf:∀ b∈fp,jgM X pins H b) (hC:s.heap.objs.size<=C) (hfp:∀ b∈fp,b < s.heap.objs.size) (hns:h1.Ns C m) (hk:∀ b o,s.heap.get? b=some o->h1.get? b=some o) :
  Inv (jdu X scope cl C (x::cp.map (·.2)) s H fp) pins (none::jiU σ cp) H {s with heap:=h1,toks:=tk}:=by
 have lt:∀ n c,cl.lookup n=some c->c < s.heap.objs.size:=fun n c e=>by
  obtain ⟨v,q⟩:=I.cell n c (hcl n c e)
  exact q.lt
 refine ⟨⟨I.ok.mod,S.kind,I.ok.glob,I.ok.blt,hC,fun y z c e1 e2=>I.ok.inj y z c (hcl y c e1) (hcl z c e2),fun y hy=>?_,(fun y c z=>by cases z),I.ok.hd,I.ok.frames,.inl rfl,fun b hb=>⟨?_,fun y c e=>?_⟩,I.bs,
   Nat.le_trans I.ok.bsz I.sz,fun b o e hb=>?_,fun b hb=>?_,I.stack,I.stkFree⟩,rfl,I.bare,Un.kept hk,⟨m,hns,fun i y v e1 e2 e3=>?_⟩,fun y c e=>?_,?_,fun y c e=>?_,fun p hp=>?_,I.hok.kept hk,?_⟩
 ·have hy':(relabel scope X.env).names.lookup y=some .cell\/(relabel scope X.env).names.lookup y=some .free:=hy
  rcases hy' with q | q
  ·obtain ⟨k0,e,z | ⟨z,_⟩⟩:=jcg q
   ·exact absurd z.symm (S.nocell (y,k0) (PySem.mem_of_lookup e))
   ·exact hfr (y,k0) (PySem.mem_of_lookup e) z
  ·obtain ⟨k0,e,z | ⟨_,z⟩⟩:=jcg q
   ·exact hfr (y,k0) (PySem.mem_of_lookup e) z.symm
   ·cases z
 ·exact Nat.ne_of_lt (Nat.lt_of_lt_of_le (hfp b hb) hC)
 ·obtain ⟨_,_,_,_,q,_⟩:=hf b hb
  exact q y c (hcl y c e)
 ·obtain ⟨_,_,_,q,_⟩:=hf b hb
  rcases q with q | q
  ·exact I.ok.noex b o e q
  ·exact absurd (Nat.lt_of_lt_of_le (Heap.lt_size (I.ok.bs b o e).1) q) (Nat.lt_irrefl _)
 ·obtain ⟨_,q1,q2,_⟩:=hf b hb
  intro z
  rcases List.mem_cons.mp (I.stkSub b z) with e | e
  ·exact q1 e
  ·exact q2 e
 ·cases i with
  | zero=>cases e2
  | succ i =>
   have e1':(cp.map (·.2))[i]?=some y:=e1
   have e2':(jiU σ cp)[i]?=some (some v):=e2
   unfold jiU at e2'
   rw [List.getElem?_map] at e1' e2'
   cases ep:cp[i]? with
   | none=>rw [ep] at e1'; cases e1'
   | some p =>
    rw [ep] at e1' e2'
    have ey:p.2=y:=Option.some.inj e1'
    have ev:(σ[p.1]?).join=some v:=Option.some.inj e2'
    obtain ⟨c1,c2,c3⟩:=S.cap.get ep
    subst ey
    have eσ:σ[p.1]?=some (some v):=by
     cases q:σ[p.1]? with
     | none=>rw [q] at ev; cases ev
     | some z=>rw [q] at ev; have:z=some v:=ev; rw [this]
    obtain ⟨mm,_,hl⟩:=I.loc
    obtain ⟨u,r,l⟩:=hl p.1 p.2 v c1 eσ (.inr (.inl c2))
    refine ⟨u,r,?_⟩
    rcases l with ⟨z,_⟩ | ⟨_,c,ec,hc⟩
    ·have z':X.env.scope.names.lookup p.2=some .local:=z
     rw [c2] at z'; cases z'
    ·obtain ⟨c',ec'⟩:=hfr (p.2,.free) (PySem.mem_of_lookup c3) rfl
     have:=hcl _ _ ec'
     rw [ec] at this; cases this
     have k:(compEnvC scope cl C X.env).kindOf p.2=some .cell\/(compEnvC scope cl C X.env).kindOf p.2=some .free:=by
      rcases e3 with z | z | z
      ·have z':(relabel scope X.env).names.lookup p.2=some .local:=z
       obtain ⟨k0,e,zz | ⟨_,zz⟩⟩:=jcg z'
       ·rw [c3] at e; cases e; cases zz
       ·cases zz
      ·exact .inl z
      ·exact .inr z
     obtain ⟨oc,hoc,hod⟩:=hc
     exact .inr ⟨k,c,ec',oc,hk c oc hoc,hod⟩
 ·obtain ⟨v,oc,hoc,hod⟩:=I.cell y c (hcl y c e)
  exact ⟨v,oc,hk c oc hoc,hod⟩
 ·exact I.hok.fresh hC
 ·exact I.freeC y c (hcl y c e)
 ·have hp':p∈pins:=hp
  obtain ⟨e,n,n1,n2,d⟩:=I.pin p (List.mem_append_right _ hp')
  refine ⟨hk _ _ e,n,Nat.ne_of_lt (Nat.lt_of_lt_of_le (Heap.lt_size e) hC),fun z=>?_,d⟩
  rcases List.mem_cons.mp (I.stkSub _ z) with q | q
  ·exact n1 q
  ·exact n2 q
 ·show (none::jiU σ cp).length=(x::cp.map (·.2)).length
  rw [List.length_cons,List.length_cons,jlE,List.length_map]
end
def PTs (X:Cx) (ifs:List Expr) (t:TT):Prop :=
 ∀ (pins:List (Addr×Obj)) (s:Shared) (σ:St) (H:Hp) (Q:Bool->Hp->Prop),Inv X pins σ H s->t σ H Q ->
  wpAny (model X.prog X.w) X.A (forIn ifs true fun c r=>if r=true then do let ok <- isTrue c X.env (eval c X.env); pure (ForInStep.yield ok) else pure (ForInStep.yield r)) (TP X pins σ Q) X.xe s
def tAlways:TT:=fun _ H Q=>Q true H
theorem jbz {X:Cx}:PTs X [] tAlways:=fun _ _ _ H _ I h=>wpAny_tests_nil ⟨H,I,h⟩
theorem jgQ {X:Cx} {c:Expr} {t:TT} (h:PT X c t):PTs X [c] t:=fun pins s σ H Q I q=>wpAny_tests_one (h pins s σ H Q I q)
def jiG (J:It) (cv:St) (tt:TT) (te:TE) (END:List V->Hp->Prop) (H1:Hp):Prop :=
 ∃ W:Nat->Nat->List V->Hp->Prop,(∃ m,W 0 m [] H1)/\∀ i m ys H2,W i m ys H2 ->
  (J.stop i H2/\ys.length<=sizeLine/\END ys H2) \/
  (J.go i H2/\ys.length < sizeLine/\∀ v H3,J.yld i H2 v H3->∃ (N:V->Hp->Prop) (N':Hp->Prop),(∀ y H5,N y H5->∃ m',m' < m/\W (i+1) m' (ys++[y]) H5)/\(∀ H4,N' H4->∃ m',m' < m/\W (i+1) m' ys H4) /\
   tt (some v::cv) H3 fun b H4=>if b=true then te (some v::cv) H4 N else N' H4)
section
variable {X:Cx} {pins:List (Addr×Obj)} {σ:St} {H:Hp} {s:Shared} {scope:Scope} {x:Str} {cp:List (Nat×Str)} {px pos:Pos} {elt iter:Expr} {ifs:List Expr} {tt:TT} {te:TE}
theorem jeQ {cl:List (Str×Addr)} {it:Addr} {fp:List Addr} {tn:Nat->Heap->Prop} {J:It} {END:List V->Hp->Prop} {E:Value->Shared->Prop} {RR:Value->Addr->Result->Shared->Prop}
  (S:CompScope X scope x cp) (hc:X.calm=true) (I:Inv X pins σ H s) (hcl:∀ n c,cl.lookup n=some c->X.env.cells.lookup n=some c) (hfr:∀ y∈scope.names,y.2=.free->∃ c,cl.lookup y.1=some c)
  (T:Turn X.prog X.w X.K (.Name x px) J fp it tn) (st:tn 0 s.heap) (hf:∀ b∈fp,jgM X pins H b)
  (ht:∀ cl C s H fp,PTs (jdu X scope cl C (x::cp.map (·.2)) s H fp) ifs tt) (he:∀ cl C s H fp,PE (jdu X scope cl C (x::cp.map (·.2)) s H fp) elt te)
  (hw:jiG J (jiU σ cp) tt te END H)
  (hRR:∀ D C s' ys H2 o,Inv X (pins++[(C,o)]) σ (upd H2 D (.lst ys)) s'->(∃ m,∀ h:Heap,h.get? C=some o->h.Ns C m)->H2 D=none->END ys H2->(∀ H',H' C=none->jgM X pins H' C)->RR (.ref D) C (.ok .next) s') :
  wpAny (model X.prog X.w) X.A (newList []) (fun acc s₃=>wpAny (model X.prog X.w) X.A (newFunctionEnv scope X.env.globals cl [] X.env.qual none .none (some X.env)) (fun cenv s₄ =>
   codeAny (model X.prog X.w) X.A (.compStart (.ListComp elt [⟨.Name x px,iter,ifs,0⟩] scope pos) 0 (.ref it) acc {cenv with scope:=relabel scope X.env}) (RR acc cenv.locals) s₄) E s₃) E s:=by
 refine wpAny_newObj_type (wpAny_newFunctionEnv S.nocell (by intro y hy; simp at hy) (fun h₁ hns₁ hsb₁=>?_) S.kind)
 dsimp only at hns₁ hsb₁ ⊢
 generalize hH2:s.heap.push {cls:=.type "list",dict:=none,data:=.seq ([]:List Value).toArray}=G at hns₁ hsb₁ ⊢
 have hC:G.objs.size=s.heap.objs.size+1:=by rw [<- hH2,Heap.size_push]
 have hDC:s.heap.objs.size≠G.objs.size:=by rw [hC]; exact Nat.ne_of_lt (Nat.lt_succ_self _)
 have hCle:s.heap.objs.size<=G.objs.size:=by rw [hC]; exact Nat.le_succ _
 have below:∀ b,b < s.heap.objs.size->b≠G.objs.size:=fun b hb=>by rw [hC]; exact Nat.ne_of_lt (Nat.lt_succ_of_lt hb)
 have old:∀ b o,s.heap.get? b=some o->h₁.get? b=some o:=fun b o e=>hsb₁.extBut b o (below b (Heap.lt_size e)) (Heap.get?_push_of_some _ (hH2▸Heap.get?_push_of_some _ e))
 have hacc:h₁.PlainList s.heap.objs.size #[]:=⟨_,hsb₁.extBut _ _ hDC (Heap.get?_push_of_some _ (hH2▸Heap.get?_push_size _ rfl))⟩
 have hfp:∀ b∈fp,b < s.heap.objs.size:=fun b hb=>by
  obtain ⟨o,e,_⟩:=T.obj 0 s.heap st b hb
  exact Heap.lt_size e
 have st₁:tn 0 h₁:=T.keep _ _ _ st fun b _ o e=>old b o e
 generalize hDe:s.heap.objs.size=D at *
 generalize hCe:G.objs.size=C at *
 have I₁:=jiF (tk:=s.toks+([]:List (Str×Value)).length) (C:=C) S I hcl hfr hf (by rw [hDe]; exact hCle) (by rw [hDe]; exact hfp) hns₁ old
 generalize hX':jdu X scope cl C (x::cp.map (·.2)) s H fp=X' at I₁
 have eP:X'.prog=X.prog:=by rw [<- hX']; rfl
 have eW:X'.w=X.w:=by rw [<- hX']; rfl
 have eK:X'.K=X.K:=by rw [<- hX']; rfl
 have eA:X'.A=X.A:=by rw [<- hX']; rfl
 have eV:X'.env=compEnvC scope cl C X.env:=by rw [<- hX']; rfl
 have eX:X'.xe=FF:=by rw [<- hX']; rfl
 have eC:X'.calm=true:=by rw [<- hX']; exact hc
 have ht':=ht cl C s H fp
 have he':=he cl C s H fp
 rw [hX'] at ht' he'
 have hN:X'.N.Nodup:=by rw [<- hX']; exact S.nd
 have hg:PG X' (.Name x px) (jiq 0):=jaE hN (by rw [<- hX']; rfl) (by rw [<- hX']; exact .inl (lookup_relabel_local S.hx)) (.inr (by rw [<- hX']; exact lookup_relabel_local S.hx))
 have fL:X'.env.locals=C:=by rw [eV]; rfl
 have fpD:∀ H':Hp,H' D=none->jgM X' pins H' D:=fun H' hn=>by
  refine ⟨hn,by rw [fL]; exact hDC,fun z=>?_,.inr (by rw [<- hX',<- hDe]; exact Nat.le_refl _),fun y c e z=>?_,fun p hp z=>?_⟩
  ·rw [<- hX'] at z
   obtain ⟨_,o,ho,_⟩:=I.stack.mem z
   exact absurd (Heap.lt_size ho) (by rw [hDe]; exact Nat.lt_irrefl _)
  ·rw [eV] at e
   obtain ⟨v,q⟩:=I.cell y c (hcl y c e)
   exact absurd q.lt (by rw [z,hDe]; exact Nat.lt_irrefl _)
  ·have hp':p∈pins:=by rw [<- hX'] at hp; exact hp
   exact absurd (Heap.lt_size (I.pin p (List.mem_append_right _ hp')).1) (by rw [z,hDe]; exact Nat.lt_irrefl _)
 have fpF:∀ (pl:List (Addr×Obj)) (H':Hp),(∀ b∈fp,H' b=none)->(∀ p∈pl,p∈pins\/p.1=D)->∀ b∈fp,jgM X' pl H' b:=fun pl H' hn hpl b hb=>by
  obtain ⟨_,f1,f2,f3,f4,f5⟩:=hf b hb
  refine ⟨hn b hb,by rw [fL]; exact below b (hfp b hb),fun z=>?_,.inl (by rw [<- hX']; exact hb),fun y c e=>f4 y c (hcl y c (by rw [eV] at e; exact e)),fun p hp z=>?_⟩
  ·rw [<- hX'] at z
   rcases List.mem_cons.mp (I.stkSub b z) with q | q
   ·exact f1 q
   ·exact f2 q
  ·have hp':p∈pl:=by rw [<- hX'] at hp; exact hp
   rcases hpl p hp' with q | q
   ·exact f5 p (List.mem_append_right _ q) z
   ·have:=hfp b hb
    rw [<- z,q] at this
    exact absurd this (Nat.lt_irrefl _)
 obtain ⟨W,⟨m0,w0⟩,turn⟩:=hw
 have loop:∀ s₃:Shared,s₃={s with heap:=h₁,toks:=s.toks+([]:List (Str×Value)).length} ->
   codeAny (model X.prog X.w) X.A (.compLoop (.ListComp elt [⟨.Name x px,iter,ifs,0⟩] scope pos) 0 (.ref it) (.ref D) (compEnvC scope cl C X.env)) (RR (.ref D) C) s₃:=by
  rintro s₃ rfl
  refine comp_loop (fun n s'=>∃ i ys us ox H',Inv X' pins (ox::jiU σ cp) H' s'/\tn i s'.heap/\(∀ b∈fp,H' b=none)/\s'.heap.PlainList D us.toArray/\Vals ys us/\H' D=none/\W i n ys H') ?_ m0
   ⟨0,[],[],none,H,I₁,st₁,fun b hb=>(hf b hb).1,hacc,.nil,I.hok.fresh (by rw [hDe]; exact Nat.le_refl _),w0⟩
  rintro n s3 ⟨i,ys,us,ox,H3,I3,st3,fr3,pl3,v3,n3,w3⟩
  obtain ⟨nD,oD⟩:=pl3
  have I3p:Inv X' (pins++[((D,{cls:=.type "list",data:=.seq us.toArray nD}):Addr×Obj)]) (ox::jiU σ cp) H3 s3:=I3.pins_of fun p hp=>by
   rcases List.mem_append.mp hp with z | z
   ·exact I3.pin p (List.mem_append_right _ z)
   ·have e:p=((D,{cls:=.type "list",data:=.seq us.toArray nD}):Addr×Obj):=by simpa using z
    subst e
    obtain ⟨f0,f1,f2,_⟩:=fpD H3 n3
    exact ⟨oD,f0,f1,f2,fun v z=>by cases z⟩
  have plOk:∀ p∈pins++[((D,{cls:=.type "list",data:=.seq us.toArray nD}):Addr×Obj)],p∈pins\/p.1=D:=fun p hp=>by
   rcases List.mem_append.mp hp with z | z
   ·exact .inl z
   ·have e:p=((D,{cls:=.type "list",data:=.seq us.toArray nD}):Addr×Obj):=by simpa using z
    subst e
    exact .inr rfl
  have dPin:∀ {pl:List (Addr×Obj)} {σ':St} {H':Hp} {s':Shared},Inv X' ((pins++[((D,{cls:=.type "list",data:=.seq us.toArray nD}):Addr×Obj)])++pl) σ' H' s'->s'.heap.get? D=some {cls:=.type "list",data:=.seq us.toArray nD}/\H' D=none:=fun I'=>by
   obtain ⟨e,n,_⟩:=I'.pin (D,_) (List.mem_append_right _ (List.mem_append_left _ (List.mem_append_right _ (List.mem_singleton.mpr rfl))))
   exact ⟨e,n⟩
  rcases turn i n ys H3 w3 with ⟨stop,hl,hend⟩ | ⟨go,hl,step⟩
  ·refine thn (eA▸T.done X' eP eW eK eC i _ s3 _ H3 FF I3p (fpF _ H3 fr3 plOk) st3 stop) fun r s4 ⟨hr,I4⟩=>?_
   subst hr
   obtain ⟨e4,n4⟩:=dPin (pl:=[]) (by rw [List.append_nil]; exact I4)
   have I4':Inv X' pins (ox::jiU σ cp) H3 s4:=I4.unpinned
   have un:Un (frs X.stack) fp H H3 s.heap s4.heap:=by
    have:=I4'.base
    rw [<- hX'] at this
    exact this
   have os4:s4.os=s.os:=by
    have:=I4'.os
    rw [<- hX'] at this
    exact this
   have J4:Inv X pins σ H3 s4:=I.call' (ch:=fp) os4 un (by have:=I4'.hok; rw [eP,eW] at this; exact this) I4'.bare fun b hb=>by
    obtain ⟨_,f1,f2,f3,f4,f5⟩:=hf b hb
    exact ⟨f3,f1,f4,f5⟩
   obtain ⟨mC,hnsC,_⟩:=I4'.loc
   rw [fL] at hnsC
   obtain ⟨oC,esC,epC,hoC,hdC,rC⟩:=hnsC
   have fpC:∀ H',H' C=none->jgM X pins H' C:=fun H' hn=>I.fpOk (by rw [hDe]; exact hCle) hn
   have nC:H3 C=none:=by have:=I4'.free; rw [fL] at this; exact this
   have J5:Inv X (pins++[(C,oC)]) σ H3 s4:=J4.pins_of fun p hp=>by
    rcases List.mem_append.mp hp with z | z
    ·exact J4.pin p (List.mem_append_right _ z)
    ·have e:p=(C,oC):=by simpa using z
     subst e
     obtain ⟨f0,f1,f2,_⟩:=fpC H3 nC
     exact ⟨hoC,f0,f1,f2,fun v z=>by rw [hdC] at z; cases z⟩
   have fD:jgM X pins H3 D:=I.fpOk (by rw [hDe]; exact Nat.le_refl _) n4
   refine hRR D C s4 ys H3 oC (J5.adopt n4 fD.2.1 (Nat.le_trans I.sz (by rw [hDe]; exact Nat.le_refl _)) fD.2.2.2.2.1 (fun p hp=>?_) ⟨hl,us,nD,v3,e4⟩) ⟨mC,fun h q=>⟨oC,esC,epC,q,hdC,rC⟩⟩ n4 hend fpC
   rcases List.mem_append.mp hp with z | z
   ·exact fD.2.2.2.2.2 p (List.mem_append_left _ z)
   ·rcases List.mem_append.mp z with z | z
    ·exact fD.2.2.2.2.2 p (List.mem_append_right _ z)
    ·have e:p=(C,oC):=by simpa using z
     subst e
     exact Ne.symm hDC
  ·refine thn (eA▸T.item X' eP eW eK eC i _ s3 _ H3 FF I3p (fpF _ H3 fr3 plOk) st3 go) fun r s4 ⟨u,hr,h4⟩=>?_
   subst hr
   refine thn h4 fun _ s5 ⟨v,H5,I5,r5,y5,st5,fr5⟩=>?_
   have I5':=I5.pinned (fpF _ H5 fr5 plOk) (T.obj _ _ st5)
   obtain ⟨N,N',hNn,hNn',q5⟩:=step v H5 y5
   have hgo:=hg _ s5 _ H5 v u (fun σ' H'=>σ'=some v::jiU σ cp/\H'=H5) I5' r5 ⟨rfl,rfl⟩
   rw [eP,eW,eA,eX,eV] at hgo
   refine thn hgo fun _ s6 ⟨σ6,H6,I6,e6,e6'⟩=>?_
   subst e6 e6'
   have hto:=ht' _ s6 _ H6 _ I6 q5
   rw [eP,eW,eA,eX,eV] at hto
   refine thn hto fun b s7 ⟨H7,I7,q7⟩=>?_
   have keepTn:∀ {σ':St} {H':Hp} {s':Shared},Inv X' ((pins++[((D,{cls:=.type "list",data:=.seq us.toArray nD}):Addr×Obj)])++jfO fp s5.heap) σ' H' s'->tn (i+1) s'.heap/\∀ b∈fp,H' b=none:=fun I' =>
    ⟨T.keep _ _ _ st5 fun b hb o e=>(I'.pin (b,o) (List.mem_append_right _ (List.mem_append_right _ (jcp hb e)))).1,fun b hb=>by
     obtain ⟨o,e,d⟩:=T.obj _ _ st5 b hb
     exact (I'.pin (b,o) (List.mem_append_right _ (List.mem_append_right _ (jcp hb e)))).2.1⟩
   cases b with
   | false =>
    rw [if_neg (by decide)] at q7 ⊢
    obtain ⟨m',hm,w7⟩:=hNn' _ q7
    obtain ⟨e7,n7⟩:=dPin I7
    obtain ⟨t7,f7⟩:=keepTn I7
    exact ⟨m',hm,i+1,ys,us,some v,H7,I7.unpinned.unpinned,t7,f7,⟨nD,e7⟩,v3,n7,w7⟩
   | true =>
    rw [if_pos rfl] at q7 ⊢
    have heo:=he' _ s7 _ H7 _ I7 q7
    rw [eP,eW,eA,eX,eV] at heo
    refine thn heo fun y s8 ⟨y8,H8,I8,r8,q8⟩=>?_
    obtain ⟨e8,n8⟩:=dPin I8
    obtain ⟨t8,f8⟩:=keepTn I8
    obtain ⟨m',hm,w8⟩:=hNn _ _ q8
    refine wpAny_list_append_plain ⟨nD,e8⟩ (fun h9 p9 sb9=>?_) (by rw [List.size_toArray,<- v3.length]; exact Nat.le_of_lt hl)
    obtain ⟨g0,g1,g2,g3,g4,g5⟩:=fpD H8 n8
    have I9:Inv X' pins (some v::jiU σ cp) H8 {s8 with heap:=h9}:=I8.unpinned.unpinned.turned (t':=s8.toks) (fun b o hb e=>(sb9.2 b hb).trans e) g0 g1 g3 g4 g5
    refine ⟨m',hm,i+1,ys++[y8],us++[y],some v,H8,I9,T.keep _ _ _ t8 fun b hb o e=>?_,f8,?_,v3.snoc r8,n8,w8⟩
    ·refine (sb9.2 b ?_).trans e
     have:=hfp b hb
     intro z
     rw [z] at this
     exact absurd this (Nat.lt_irrefl _)
    ·have:(us++[y]).toArray=us.toArray.push y:=by simp
     rw [this]
     exact p9
 exact codeAny_compStart_list (loop _ rfl) (T.self _ 0 _ _ _ st₁ (loop _ rfl))
end
section
variable {X:Cx} {scope:Scope} {x:Str} {cp:List (Nat×Str)} {px pos:Pos} {elt iter:Expr} {ifs:List Expr} {tt:TT} {te:TE} {wi:TI}
def joM (wi:TI) (cp:List (Nat×Str)) (tt:TT) (te:TE):TE:=fun σ H Q=>wi σ H fun J H1=>jiG J (jiU σ cp) tt te (fun ys H2=>∀ p,H2 p=none->Q (.ref p) (upd H2 p (.lst ys))) H1
theorem jbD (S:CompScope X scope x cp) (hc:X.calm=true) (hi:PI X (.Name x px) iter wi)
  (ht:∀ cl C s H fp,PTs (jdu X scope cl C (x::cp.map (·.2)) s H fp) ifs tt) (he:∀ cl C s H fp,PE (jdu X scope cl C (x::cp.map (·.2)) s H fp) elt te)
  (hs:∀ v,foldedSetIterable iter X.env v=pure v:=by intro _; rfl):PE X (.ListComp elt [⟨.Name x px,iter,ifs,0⟩] scope pos) (joM wi cp tt te):=by
 intro pins s σ H Q I h
 rw [eval_ListComp]
 obtain ⟨cl,ec,hcl,hfr⟩:=jeP (env:=X.env) (scope:=scope) fun y hy hk=>I.ok.has y.1 (.inl (S.free y hy hk))
 refine wpAny_comprehension_free (use:=none) rfl hs ec S.kind S.names (thn (hi pins s σ H _ I h) fun v s1 h1=>thn h1 fun itv s2 h2=>?_)
 obtain ⟨it,fp,tn,J,H2,e,I2,T,st2,f2,hw⟩:=h2
 subst e
 refine jeQ (RR:=fun acc C=>compPost (model X.prog X.w) X.A X.xe none (EP X pins σ Q) acc C) S hc I2 hcl hfr T st2 f2 ht he hw ?_
 intro D C s' ys H3 o I3 hm nD hend fC
 obtain ⟨m,hm⟩:=hm
 obtain ⟨e3,n3,_⟩:=I3.pin (C,o) (List.mem_append_right _ (List.mem_append_right _ (List.mem_singleton.mpr rfl)))
 refine ⟨m,hm _ e3,fun h' sb=>?_⟩
 obtain ⟨f0,f1,f2',f3,f4,f5⟩:=fC _ n3
 exact ⟨.ref D,upd H3 D (.lst ys),I3.unpinned.turned (t':=s'.toks) (fun b o hb e=>(sb.2 b hb).trans e) f0 f1 f3 f4 f5,rfl,hend D nD⟩
theorem jcq {i:Nat} {y:Str} {py spos:Pos} (hN:X.N.Nodup) (hi':X.N[i]?=some y) (hy:X.env.scope.names.lookup y=some .local) (S:CompScope X scope x cp) (hc:X.calm=true) (hi:PI X (.Name x px) iter wi)
  (ht:∀ cl C s H fp,PTs (jdu X scope cl C (x::cp.map (·.2)) s H fp) ifs tt) (he:∀ cl C s H fp,PE (jdu X scope cl C (x::cp.map (·.2)) s H fp) elt te)
  (hsw:swapsWith (.ListComp elt [⟨.Name x px,iter,ifs,0⟩] scope pos) (some (.Name y py)) spos.line X.env=pure true:=by rfl)
  (hs:∀ v,foldedSetIterable iter X.env v=pure v:=by intro _; rfl):PS X (.Assign [.Name y py] (.ListComp elt [⟨.Name x px,iter,ifs,0⟩] scope pos) spos) (tAsg (joM wi cp tt te) (jiq i)):=by
 intro pins s σ H D I h
 rw [exec_Assign_Name_used _ _ _ _ hsw]
 refine wpAny_bind (wpAny_standAt (wpAny_bind ?_))
 show wpAny _ X.A (do let _ <- comprehension (.ListComp elt [⟨.Name x px,iter,ifs,0⟩] scope pos) scope X.env _ (newList []) false (eval iter X.env) (some (assign (.Name y py) X.env))) _ _ s
 obtain ⟨cl,ec,hcl,hfr⟩:=jeP (env:=X.env) (scope:=scope) fun y hy hk=>I.ok.has y.1 (.inl (S.free y hy hk))
 refine wpAny_bind (wpAny_mono (wpAny_comprehension_free (use:=some (assign (.Name y py) X.env)) (Q:=fun _ s'=>SP X pins D .next s') rfl hs ec S.kind S.names
  (thn (hi pins s σ H _ I h) fun v s1 h1=>thn h1 fun itv s2 h2=>?_)) (fun _ s' hq=>wpAny_pure (wpAny_pure hq)) fun _ _ e=>e)
 obtain ⟨it,fp,tn,J,H2,e,I2,T,st2,f2,hw⟩:=h2
 subst e
 refine jeQ (RR:=fun acc C=>compPost (model X.prog X.w) X.A X.xe (some (assign (.Name y py) X.env)) (fun _ s'=>SP X pins D .next s') acc C) S hc I2 hcl hfr T st2 f2 ht he hw ?_
 intro D' C s' ys H3 o I3 hm nD hend fC
 obtain ⟨m,hm⟩:=hm
 show wpAny _ X.A (assign (.Name y py) X.env (.ref D')) _ _ _
 refine wpAny_assign_Name (store_ok I3 hN hi' (.inl hy) (v:=.ref D') rfl (fun s4 I4=>?_) (.inr hy))
 obtain ⟨e3,n3,_⟩:=I4.pin (C,o) (List.mem_append_right _ (List.mem_append_right _ (List.mem_singleton.mpr rfl)))
 refine ⟨m,hm _ e3,fun h' sb=>?_⟩
 obtain ⟨f0,f1,f2',f3,f4,f5⟩:=fC _ n3
 exact ⟨_,upd H3 D' (.lst ys),I4.unpinned.turned (t':=s4.toks) (fun b o hb e=>(sb.2 b hb).trans e) f0 f1 f3 f4 f5,hend D' nD⟩
theorem jbg {K:PySem.W.Frag} {a:Addr} {xs:List V} {cv:St} {te:TE} {END:List V->Hp->Prop} {H:Hp} (Pv:Nat->List V->Hp->Prop) (h0:Pv 0 [] H) (hl:∀ i ys H,i<=xs.length->Pv i ys H->SqL K H a xs/\ys.length<=i) (hz:xs.length<=sizeLine)
  (hs:∀ i x ys H,xs[i]?=some x->Pv i ys H->te (some x::cv) H fun y H5=>Pv (i+1) (ys++[y]) H5) (hd:∀ ys H,Pv xs.length ys H->END ys H):jiG (Itl K a) cv tAlways te END H:=by
 refine ⟨fun i m ys H=>m=xs.length - i/\i<=xs.length/\Pv i ys H,⟨xs.length,by simp,Nat.zero_le _,h0⟩,?_⟩
 rintro i m ys H ⟨rfl,hi,p⟩
 obtain ⟨q,hy⟩:=hl i ys H hi p
 by_cases hlt:i < xs.length
 ·refine .inr ⟨⟨xs,xs[i],q,by simp [hlt]⟩,by omega,fun v H' y=>?_⟩
  obtain ⟨e,y⟩:=y
  subst e
  refine ⟨fun v' H1=>Pv (i+1) (ys++[v']) H1,fun _=>False,fun v' H1 p'=>⟨xs.length - (i+1),by omega,rfl,hlt,p'⟩,fun _ z=>z.elim,?_⟩
  exact jcc (B:=False) (hs i v ys _ (y xs q) p)
 ·have e:i=xs.length:=by omega
  subst e
  exact .inl ⟨⟨xs,q,Nat.le_refl _⟩,by omega,hd ys H p⟩
theorem jde {K:PySem.W.Frag} {a:Addr} {xs:List V} {cv:St} {tt:TT} {te:TE} {END:List V->Hp->Prop} {H:Hp} (Pv:Nat->List V->Hp->Prop) (h0:Pv 0 [] H) (hl:∀ i ys H,i<=xs.length->Pv i ys H->SqL K H a xs/\ys.length<=i) (hz:xs.length<=sizeLine)
  (hs:∀ i x ys H,xs[i]?=some x->Pv i ys H->tt (some x::cv) H fun b H4=>if b=true then te (some x::cv) H4 (fun y H5=>Pv (i+1) (ys++[y]) H5) else Pv (i+1) ys H4) (hd:∀ ys H,Pv xs.length ys H->END ys H):jiG (Itl K a) cv tt te END H:=by
 refine ⟨fun i m ys H=>m=xs.length - i/\i<=xs.length/\Pv i ys H,⟨xs.length,by simp,Nat.zero_le _,h0⟩,?_⟩
 rintro i m ys H ⟨rfl,hi,p⟩
 obtain ⟨q,hy⟩:=hl i ys H hi p
 by_cases hlt:i < xs.length
 ·refine .inr ⟨⟨xs,xs[i],q,by simp [hlt]⟩,by omega,fun v H' y=>?_⟩
  obtain ⟨e,y⟩:=y
  subst e
  exact ⟨fun v' H1=>Pv (i+1) (ys++[v']) H1,fun H1=>Pv (i+1) ys H1,fun v' H1 p'=>⟨xs.length - (i+1),by omega,rfl,hlt,p'⟩,fun H1 p'=>⟨xs.length - (i+1),by omega,rfl,hlt,p'⟩,hs i v ys _ (y xs q) p⟩
 ·have e:i=xs.length:=by omega
  subst e
  exact .inl ⟨⟨xs,q,Nat.le_refl _⟩,by omega,hd ys H p⟩
theorem jiH {lo:Int} {n:Nat} {cv:St} {te:TE} {END:List V->Hp->Prop} {H:Hp} (Pv:Nat->List V->Hp->Prop) (h0:Pv 0 [] H) (hl:∀ i ys H,i<=n->Pv i ys H->ys.length<=i) (hz:n<=sizeLine)
  (hs:∀ i ys H,i < n->Pv i ys H->te (some (.int (lo+i))::cv) H fun y H5=>Pv (i+1) (ys++[y]) H5) (hd:∀ ys H,Pv n ys H->END ys H):jiG (Itr lo n) cv tAlways te END H:=by
 refine ⟨fun i m ys H=>m=n - i/\i<=n/\Pv i ys H,⟨n,by simp,Nat.zero_le _,h0⟩,?_⟩
 rintro i m ys H ⟨rfl,hi,p⟩
 have hy:=hl i ys H hi p
 by_cases hlt:i < n
 ·refine .inr ⟨hlt,by omega,fun v H' y=>?_⟩
  obtain ⟨e,y⟩:=y
  subst e y
  refine ⟨fun v' H1=>Pv (i+1) (ys++[v']) H1,fun _=>False,fun v' H1 p'=>⟨n - (i+1),by omega,rfl,hlt,p'⟩,fun _ z=>z.elim,?_⟩
  exact jcc (B:=False) (hs i ys _ hlt p)
 ·have e:i=n:=by omega
  subst e
  exact .inl ⟨Nat.le_refl _,by omega,hd ys H p⟩
end
def Its (z:Str):It:=⟨fun i _=>i < z.cps.size,fun i H x H'=>H'=H/\∃ c,z.cps[i]?=some c/\x=.str ⟨#[c]⟩,fun i _=>z.cps.size<=i⟩
theorem jlF {P:Program} {w:World} {K:PySem.W.Frag} {x:Str} {px:Pos} {ty:String} (z:Str) (t:Tok) (it:Addr)
  (W:∀ A:Around,A.handled=none->Walks P w A it [it] [it] z.cps.size (SignAt z) (fun i h=>h.IsStrIter it ty z t i))
  (hs:∀ (A:Around) (i:Nat) (s:Shared) (Q:Value->Shared->Prop) (E:Value->Shared->Prop),s.heap.IsStrIter it ty z t i->Q (.ref it) s->wpAny (model P w) A (pyIter (.ref it)) Q E s):Turn P w K (.Name x px) (Its z) [it] it (fun i h=>i<=z.cps.size/\h.IsStrIter it ty z t i) where
 mem:=by simp
 obj:=fun i h st b hb=>by
  have e:b=it:=by simpa using hb
  subst e
  obtain ⟨_,o,e,c,d⟩:=st
  exact ⟨o,e,fun v z=>by rw [d] at z; cases z⟩
 keep:=fun i h h' st k=>⟨st.1,let ⟨o,ho,r⟩:=st.2; ⟨o,k it (by simp) o ho,r⟩⟩
 item:=by
  intro X hP hw hK hc i pins s σ H E I hf st hg
  subst hP hw hK
  obtain ⟨f0,f1,f2,f3,f4,f5⟩:=hf it (by simp)
  have hi:i < z.cps.size:=hg
  refine (W X.A (I.ok.hd hc)).item i s _ _ hi st.2 fun v h' tk hv st' kk=>?_
  obtain ⟨c,u,hcu,rfl⟩:=hv
  have I1:Inv X pins σ H {s with heap:=h',toks:=tk}:=I.turned (fun b o hb e=>kk b o (by simpa using hb) e) f0 f1 f3 f4 f5
  exact ⟨_,rfl,wpAny_pure ⟨.str ⟨#[c]⟩,H,I1,⟨u,rfl⟩,⟨rfl,c,hcu,rfl⟩,⟨hi,st'⟩,fun b hb=>(hf b hb).1⟩⟩
 done:=by
  intro X hP hw hK hc i pins s σ H E I hf st hg
  subst hP hw hK
  obtain ⟨f0,f1,f2,f3,f4,f5⟩:=hf it (by simp)
  have hi:i=z.cps.size:=Nat.le_antisymm st.1 hg
  refine (W X.A (I.ok.hd hc)).done s _ _ (hi▸st.2) fun h' tk kk=>?_
  exact ⟨rfl,I.turned (fun b o hb e=>kk b o (by simpa using hb) e) f0 f1 f3 f4 f5⟩
 self:=fun A i s Q E st h=>hs A i s Q E st.2 h
section
variable {X:Cx} {x:Str} {px:Pos}
def iStr (tl:TE):TI:=fun σ H R=>tl σ H fun x H1=>∃ z,x=.str z/\R (Its z) H1
theorem jgc {l:Expr} {tl:TE} (hl:PE X l tl):PI X (.Name x px) l (iStr tl):=by
 intro pins s σ H R I h
 refine thn (hl pins s σ H _ I h) fun v s1 ⟨xv,H1,I1,r1,q1⟩=>?_
 obtain ⟨z,e,q⟩:=q1
 subst e
 obtain ⟨t,rfl⟩:=r1
 have fin:∀ (o:Obj) (ty:String),o.cls=.type ty->o.data=.fields #[.str z t,.int 0 0]->o.isFreed=false->(∀ A:Around,A.handled=none->Walks X.prog X.w A s1.heap.objs.size [s1.heap.objs.size] [s1.heap.objs.size] z.cps.size (SignAt z) (fun i h=>h.IsStrIter s1.heap.objs.size ty z t i)) ->
   (∀ (A:Around) (i:Nat) (s:Shared) (Q:Value->Shared->Prop) (E:Value->Shared->Prop),s.heap.IsStrIter s1.heap.objs.size ty z t i->Q (.ref s1.heap.objs.size) s->wpAny (model X.prog X.w) A (pyIter (.ref s1.heap.objs.size)) Q E s) ->
   PIE X pins σ (.Name x px) R (.ref s1.heap.objs.size) {s1 with heap:=s1.heap.push o}:=fun o ty h1 h2 h3 W hs=>by
  refine ⟨s1.heap.objs.size,[s1.heap.objs.size],_,_,H1,rfl,I1.kept (t':=s1.toks) fun b o e=>Heap.get?_push_of_some _ e,jlF z t _ W hs,⟨Nat.zero_le _,o,Heap.get?_push_size _ h3,h1,h2⟩,fun b hb=>?_,q⟩
  have e:b=s1.heap.objs.size:=by simpa using hb
  subst e
  exact I1.fpOk (Nat.le_refl _) (I1.hok.fresh (Nat.le_refl _))
 cases ha:z.cps.all (· < 128)
 ·exact wpAny_pyIter_wide ha (fin {cls:=.type "str_iterator",data:=.fields #[.str z t,.int 0 0]} "str_iterator" rfl rfl rfl (fun A' hA=>Walks.strWide hA _ z t) fun A i s Q E st h=>wpAny_pyIter_striter_wide st h)
 ·exact wpAny_pyIter_ascii ha (fin {cls:=.type "str_ascii_iterator",data:=.fields #[.str z t,.int 0 0]} "str_ascii_iterator" rfl rfl rfl (fun A' hA=>Walks.strAscii hA _ z t) fun A i s Q E st h=>wpAny_pyIter_striter_ascii st h)
end
theorem jgR {z:Str} {g:TG} {tb:TS} {D:Ends} {σ:St} {H:Hp} (Pv:Nat->St->Hp->Prop) (h0:Pv 0 σ H)
  (hs:∀ i c σ H,z.cps[i]?=some c->Pv i σ H->g (.str ⟨#[c]⟩) σ H fun σ2 H2=>tb {D with nx:=Pv (i+1),ct:=Pv (i+1),bk:=D.nx} σ2 H2) (hd:∀ σ H,Pv z.cps.size σ H->D.nx σ H) :
  ∃ W:Nat->Nat->St->Hp->Prop,(∃ m,W 0 m σ H)/\∀ i m σ H,W i m σ H ->
   ((Its z).stop i H/\D.nx σ H)\/((Its z).go i H/\∃ N:St->Hp->Prop,(∀ σ' H',N σ' H'->∃ m',m' < m/\W (i+1) m' σ' H')/\∀ x H',(Its z).yld i H x H'->g x σ H' fun σ2 H2=>tb {D with nx:=N,ct:=N,bk:=D.nx} σ2 H2):=by
 refine ⟨fun i m σ H=>m=z.cps.size - i/\i<=z.cps.size/\Pv i σ H,⟨z.cps.size,by simp,Nat.zero_le _,h0⟩,?_⟩
 rintro i m σ H ⟨rfl,hi,p⟩
 by_cases hlt:i < z.cps.size
 ·refine .inr ⟨hlt,Pv (i+1),fun σ' H' p'=>⟨z.cps.size - (i+1),by omega,rfl,hlt,p'⟩,fun x H' y=>?_⟩
  obtain ⟨e,c,hc,y⟩:=y
  subst e y
  exact hs i c σ _ hc p
 ·have e:i=z.cps.size:=by omega
  subst e
  exact .inl ⟨Nat.le_refl _,hd σ H p⟩
theorem jhH {z:Str} {cv:St} {te:TE} {END:List V->Hp->Prop} {H:Hp} (Pv:Nat->List V->Hp->Prop) (h0:Pv 0 [] H) (hl:∀ i ys H,i<=z.cps.size->Pv i ys H->ys.length<=i) (hz:z.cps.size<=sizeLine)
  (hs:∀ i c ys H,z.cps[i]?=some c->Pv i ys H->te (some (.str ⟨#[c]⟩)::cv) H fun y H5=>Pv (i+1) (ys++[y]) H5) (hd:∀ ys H,Pv z.cps.size ys H->END ys H):jiG (Its z) cv tAlways te END H:=by
 refine ⟨fun i m ys H=>m=z.cps.size - i/\i<=z.cps.size/\Pv i ys H,⟨z.cps.size,by simp,Nat.zero_le _,h0⟩,?_⟩
 rintro i m ys H ⟨rfl,hi,p⟩
 have hy:=hl i ys H hi p
 by_cases hlt:i < z.cps.size
 ·refine .inr ⟨hlt,by omega,fun v H' y=>?_⟩
  obtain ⟨e,c,hc,y⟩:=y
  subst e y
  refine ⟨fun v' H1=>Pv (i+1) (ys++[v']) H1,fun _=>False,fun v' H1 p'=>⟨z.cps.size - (i+1),by omega,rfl,hlt,p'⟩,fun _ z=>z.elim,?_⟩
  exact jcc (B:=False) (hs i c ys _ hc p)
 ·have e:i=z.cps.size:=by omega
  subst e
  exact .inl ⟨Nat.le_refl _,by omega,hd ys H p⟩
section
variable {X:Cx} {pins:List (Addr×Obj)} {σ:St} {H:Hp} {s:Shared} {d:Addr} {o:Obj}
end
section
variable {X:Cx} {x:Str} {px pos:Pos}
end
def jbI (l:List Str) (x:Str):List Str:=if x∈l then l else l++[x]
def dd (ts:List Str):List Str:=ts.foldl jbI []
theorem jnv (ts:List Str) (x:Str):dd (ts++[x])=jbI (dd ts) x:=by unfold dd; rw [List.foldl_append]; rfl
theorem jiI (l:List Str) (x:Str):(jbI l x).length<=l.length+1:=by
 unfold jbI; split
 ·omega
 ·rw [List.length_append]; exact Nat.le_refl _
theorem jlG (ts:List Str):∀ l:List Str,(ts.foldl jbI l).length<=l.length+ts.length:=by
 induction ts with
 | nil=>intro l; exact Nat.le_refl _
 | cons x r ih =>
  intro l
  have h1:=ih (jbI l x)
  have h2:=jiI l x
  rw [List.foldl_cons,List.length_cons]; omega
theorem joN (ts:List Str):(dd ts).length<=ts.length:=by have:=jlG ts []; rw [List.length_nil] at this; unfold dd; omega
theorem jjC:∀ (ts l:List Str),(∀ x∈ts,x∉l)->ts.Nodup->ts.foldl jbI l=l++ts
 | [],l,_,_=>by simp
 | x::r,l,h,nd=>by
  have hx:x∉l:=h x List.mem_cons_self
  have e:jbI l x=l++[x]:=by unfold jbI; rw [if_neg hx]
  rw [List.foldl_cons,e,jjC r (l++[x]) (fun y hy hm=>?_) (List.nodup_cons.mp nd).2,List.append_assoc]
  ·rfl
  ·rcases List.mem_append.mp hm with z | z
   ·exact h y (List.mem_cons_of_mem _ hy) z
   ·have:y=x:=by simpa using z
    subst this
    exact (List.nodup_cons.mp nd).1 hy
theorem jhI {ts:List Str} (h:ts.Nodup):dd ts=ts:=by
 unfold dd; rw [jjC ts [] (fun _ _ z=>by cases z) h]; rfl
section
variable {prog:Program} {w:World} {A:Around} {R:Result->Shared->Prop} {I:Addr} {fp wr:List Addr} {P:Nat->Value->Prop} {St:Nat->Heap->Prop}
abbrev SetS (prog:Program) (w:World) (h:Heap) (S:Addr) (l:List Str):Prop:=h.SetOf (strKind prog w) S (fun x=>decide (x∈l)) l.length
theorem SetS.add {h:Heap} {S:Addr} {l:List Str} {x:Str} (q:h.SetOf (strKind prog w) S (fun k=>decide (k∈l) || decide (k=x)) (if decide (x∈l)=true then l.length else l.length+1)):SetS prog w h S (jbI l x):=by
 have e1:(fun k=>decide (k∈l) || decide (k=x))=fun k=>decide (k∈jbI l x):=by
  funext k
  unfold jbI
  split
  ·rename_i hx
   by_cases e:k=x
   ·subst e; simp [hx]
   ·simp [e]
  ·simp
 have e2:(if decide (x∈l)=true then l.length else l.length+1)=(jbI l x).length:=by
  unfold jbI
  by_cases hx:x∈l
  ·simp [hx]
  ·simp [hx]
 rw [e1,e2] at q
 exact q
theorem SetS.at {h h':Heap} {S:Addr} {l:List Str} (q:SetS prog w h S l) (k:∀ o,h.get? S=some o->h'.get? S=some o):SetS prog w h' S l:=by
 obtain ⟨o,es,ep,t,ho,r⟩:=q
 exact ⟨o,es,ep,t,k o ho,r⟩
theorem jlH {vals:List Str} (W:Walks prog w A.in1 I fp wr vals.length P St) (S:Addr) (hSf:S∉fp) (hval:∀ i v,P i v->∃ x t,vals[i]?=some x/\v=.str x t) (hb:vals.length+1 < scanBound) :
  ∀ (k i:Nat) (s:Shared),vals.length - i=k->i<=vals.length->St i s.heap->SetS prog w s.heap S (dd (vals.take i)) ->
   (∀ h' tk,(∀ b o,b≠S->b∉wr->s.heap.get? b=some o->h'.get? b=some o)->SetS prog w h' S (dd vals)->R (.ok (.ret .none)) {s with heap:=h',toks:=tk}) ->
   codeAny (model prog w) A (.builtin "set.update.loop" ⟨[.ref S,.ref I],[]⟩) R s:=by
 have hSw:S∉wr:=fun z=>hSf (W.sub _ z)
 intro k
 induction k with
 | zero =>
  intro i s hk hi st hS hR
  have e:i=vals.length:=by omega
  subst e
  rw [List.take_length] at hS
  refine codeAny_builtin PyProof.Rows.F.entry_set_update_loop ?_
  rw [Around.under_plainId PyProof.Rows.F.plain_set_update_loop _]
  show wpAny _ A.in1 (pyNext (.ref I)>>=_) _ _ s
  exact wpAny_bind (W.done s _ _ st fun h' tk kk=>wpAny_pure (hR h' tk (fun b o _ hb e=>kk b o hb e) (hS.at fun o e=>kk S o hSw e)))
 | succ k ih =>
  intro i s hk hi st hS hR
  have hlt:i < vals.length:=by omega
  refine codeAny_builtin PyProof.Rows.F.entry_set_update_loop ?_
  rw [Around.under_plainId PyProof.Rows.F.plain_set_update_loop _]
  show wpAny _ A.in1 (pyNext (.ref I)>>=_) _ _ s
  refine wpAny_bind (W.item i s _ _ hlt st fun v h1 tk hP st' kk=>?_)
  obtain ⟨x,t,hx,rfl⟩:=hval i v hP
  have hS1:SetS prog w h1 S (dd (vals.take i)):=hS.at fun o e=>kk S o hSw e
  show wpAny _ A.in1 (holding [Value.str x t] (setAdd S (.str x t))>>=_) _ _ _
  refine wpAny_bind (wpAny_holding ?_)
  unfold setAdd
  refine wpAny_holding (wpAny_bind ((strKind prog w).pyHash (k:=x) (strKind_is _ _ _ _) ?_))
  have hlen:=joN (vals.take i)
  rw [List.length_take] at hlen
  refine wpAny_setAddHashed_of (knd:=strKind prog w) (s:={s with heap:=h1,toks:=tk+1}) (strKind_is _ _ _ _) rfl hS1 (by omega) fun h2 sb hS2=>?_
  have hS3:=SetS.add hS2
  rw [<- jnv] at hS3
  have et:vals.take i++[x]=vals.take (i+1):=by
   rw [List.take_add_one,hx]
   rfl
  rw [et] at hS3
  refine wpAny_pure ⟨plainId_quiet PyProof.Rows.F.plain_set_update_loop _,ih (i+1) _ (by omega) hlt (W.frame _ _ _ st' fun b hb o e=>?_) hS3 fun h3 tk3 k3 q3=>?_⟩
  ·rw [sb.2 b (fun z:b=S=>hSf (by rw [<- z]; exact hb))]; exact e
  ·refine hR h3 tk3 (fun b o hb hw e=>k3 b o hb hw ?_) q3
   show h2.get? b=some o
   rw [sb.2 b hb]
   exact kk b o hw e
end
theorem jgS:isSubtype (.type "str") (.type "set")=pure false:=by rw [isSubtype_type]; kernel_rfl
theorem jdf:isSubtype (.type "str") (.type "frozenset")=pure false:=by rw [isSubtype_type]; kernel_rfl
section
variable {prog:Program} {w:World} {A:Around} {E:Value->Shared->Prop} {s:Shared}
abbrev jaX (led:Bool):Obj:={cls:=.type "set",dict:=none,data:=.set #[] 0 (.fresh 0 0 led)}
theorem jhJ {v:Value} {T:String} {vals:List Str} {Q:Value->Shared->Prop} (hh:A.handled=none) (hT:∀ led,Shared.TypeIs {s with heap:=s.heap.push (jaX led)} v T)
  (h1:isSubtype (.type T) (.type "set")=pure false) (h2:isSubtype (.type T) (.type "frozenset")=pure false) (h3:(Value.type T==Value.type "dict")=false) (hb:vals.length+1 < scanBound)
  (hit:∀ led (A':Around) (E':Value->Shared->Prop) (Q':Value->Shared->Prop),(∀ (I:Addr) (fp wr:List Addr) (P:Nat->Value->Prop) (St:Nat->Heap->Prop) (o:Obj),(∀ A'':Around,A''.handled=none->Walks prog w A'' I fp wr vals.length P St)->s.heap.objs.size∉fp ->
    (∀ b∈wr,s.heap.objs.size < b)->(∀ i v,P i v->∃ x t,vals[i]?=some x/\v=.str x t)->St 0 ((s.heap.push (jaX led)).push o)->Q' (.ref I) {s with heap:=(s.heap.push (jaX led)).push o}) ->
   wpAny (model prog w) A' (pyIter v) Q' E' {s with heap:=s.heap.push (jaX led)})
  (h:∀ (h':Heap) (tk:Nat),SetS prog w h' s.heap.objs.size (dd vals)->(∀ b o,s.heap.get? b=some o->h'.get? b=some o)->Q (.ref s.heap.objs.size) {s with heap:=h',toks:=tk}) :
  wpAny (model prog w) A (call (.type "set") [v]) Q E s:=by
 obtain ⟨c,tl,hmro⟩:=F.called_set.mro
 have hmade:=F.called_set.made
 have hsub:=F.called_set.sub
 refine wpAny_call (codeAny_of_tree ?_)
 show wpAny _ _ (callAny (.type "set") _) _ _ _
 refine wpAny_pure ⟨Code.quiet_builtin _ (by decide +kernel),codeAny_builtin F.entry_type_call ?_⟩
 rw [Around.under_plain (weight_type_call_type "set" [v] []) rfl]
 have g1:=F.called_set.notType
 have g2:=F.called_set.canCreate
 have g3:=F.typeCall_set_1 v
 repeat (any_goals (first | assumption | wp_step))
 refine codeAny_mono (code_set_new_1 v (E:=E) (Q₁:=fun obj s₁=>∃ led:Bool,obj=.ref s.heap.objs.size/\s₁={s with heap:=s.heap.push (jaX led)}) fun led=>⟨led,rfl,rfl⟩) fun r s₁ hr=>?_
 cases r with
 | error e=>exact hr
 | ok fl =>
  cases fl with
  | ret obj =>
   obtain ⟨led,rfl,rfl⟩:=hr
   have hS:(s.heap.push (jaX led)).get? s.heap.objs.size=some (jaX led):=Heap.get?_push_size _ rfl
   have hTs:Shared.TypeIs {s with heap:=s.heap.push (jaX led)} (.ref s.heap.objs.size) "set":=⟨_,hS,rfl⟩
   have hli:=F.called_set.init.lookup
   have hbi:=F.called_set.init.bind (.ref s.heap.objs.size)
   repeat (any_goals (first | assumption | wp_step))
   refine codeAny_mono (codeAny_call_builtin (R:=wants (fun r s₂=>r=.none/\∃ h' tk,s₂={s with heap:=h',toks:=tk}/\SetS prog w h' s.heap.objs.size (dd vals)/\(∀ b o,s.heap.get? b=some o->h'.get? b=some o)) E)
    F.called_set.init.plain F.entry_set_init (check_set_init_1 hTs ?_)) fun r₂ s₂ hr₂=>?_
   ·have hTv:=hT led
    unfold Builtin.«set.__init__» noKeywords Builtin.Frozenset.updateFrom
    generalize hPI:pyIter=PI
    wp_walk
    subst hPI
    refine hit led _ _ _ fun I fp wr P St o W hnf hwr hP st=>?_
    refine wpAny_bind (wpAny_runValue ?_)
    refine jlH (W _ (by simp [hh])) s.heap.objs.size hnf hP hb (vals.length - 0) 0 _ (by omega) (Nat.zero_le _) st ?_ fun h' tk kk q=>?_
    ·have hget:((s.heap.push (jaX led)).push o).get? s.heap.objs.size=some (jaX led):=Heap.get?_push_of_some _ hS
     have q:=(setObjOf_fresh (knd:=strKind prog w) led).setOf hget (by unfold scanBound; omega)
     exact SetOf_congr q (fun k=>by simp [dd]) rfl
    ·refine wpAny_pure (wpAny_pure ⟨rfl,h',tk,rfl,q,fun b o' e=>?_⟩)
     refine kk b o' (Nat.ne_of_lt (Heap.lt_size e)) (fun z=>?_) (Heap.get?_push_of_some _ (Heap.get?_push_of_some _ e))
     exact absurd (Nat.lt_trans (hwr b z) (Heap.lt_size e)) (Nat.lt_irrefl _)
   ·cases r₂ with
    | error e=>exact hr₂
    | ok fl₂ =>
     cases fl₂ with
     | ret r =>
      obtain ⟨rfl,h',tk,rfl,hS',hk'⟩:=hr₂
      repeat (any_goals (first | assumption | wp_step))
      exact h _ _ hS' hk'
     | _=>exact hr₂.elim
  | _=>exact hr.elim
theorem jiJ {l:Addr} {items:Array Value} {ts:List Str} {Q:Value->Shared->Prop} (hh:A.handled=none) (hl:s.heap.IsList l items) (hv:Vals (ts.map V.str) items.toList) (hb:ts.length+1 < scanBound)
  (h:∀ (h':Heap) (tk:Nat),SetS prog w h' s.heap.objs.size (dd ts)->(∀ b o,s.heap.get? b=some o->h'.get? b=some o)->Q (.ref s.heap.objs.size) {s with heap:=h',toks:=tk}) :
  wpAny (model prog w) A (call (.type "set") [.ref l]) Q E s:=by
 have hlt:l < s.heap.objs.size:=by obtain ⟨o,ho,_⟩:=hl; exact Heap.lt_size ho
 have hlen:items.size=ts.length:=by have:=hv.length; simpa using this.symm
 refine jhJ (T:="list") hh (fun led=>(hl.push _).typeIs) F.sub_list_set F.sub_list_frozenset (by decide) hb (fun led A' E' Q' hQ=>?_) h
 refine wpAny_pyIter_list (hl.push (jaX led)) ?_
 have hne:l≠(s.heap.push (jaX led)).objs.size:=by rw [Heap.size_push]; exact Nat.ne_of_lt (Nat.lt_succ_of_lt hlt)
 refine hQ _ _ _ (fun i v=>items[i]?=some v) (fun i h=>h.IsListIter (s.heap.push (jaX led)).objs.size l i/\h.IsList l items) _ (fun A'' hA=>hlen▸Walks.list hA _ l hne items) ?_ ?_ ?_ ⟨⟨_,Heap.get?_push_size _ rfl,rfl,rfl⟩,(hl.push _).push _⟩
 ·rw [Heap.size_push]
  intro z
  rcases List.mem_cons.mp z with z | z
  ·exact absurd z (Nat.ne_of_lt (Nat.lt_succ_self _))
  ·have e:s.heap.objs.size=l:=by simpa using z
   rw [<- e] at hlt
   exact absurd hlt (Nat.lt_irrefl _)
 ·intro b hb
  rw [Heap.size_push] at hb
  have e:b=s.heap.objs.size+1:=by simpa using hb
  rw [e]
  exact Nat.lt_succ_self _
 ·intro i v hv'
  have hi:items.toList[i]?=some v:=by rw [Array.getElem?_toList]; exact hv'
  have hlt':i < ts.length:=by
   rw [<- hlen]
   exact (Array.getElem?_eq_some_iff.mp hv').1
  have e:(ts.map V.str)[i]?=some (V.str ts[i]):=by rw [List.getElem?_map,List.getElem?_eq_getElem hlt']; rfl
  obtain ⟨u,hu,r⟩:=hv.get e
  rw [hi] at hu; cases hu
  obtain ⟨t,rfl⟩:=r
  exact ⟨_,t,List.getElem?_eq_getElem hlt',rfl⟩
def sgn (z:Str):List Str:=z.cps.toList.map fun c=>⟨#[c]⟩
theorem jiK {z:Str} {t:Tok} {Q:Value->Shared->Prop} (hh:A.handled=none) (hb:z.cps.size+1 < scanBound)
  (h:∀ (h':Heap) (tk:Nat),SetS prog w h' s.heap.objs.size (dd (sgn z))->(∀ b o,s.heap.get? b=some o->h'.get? b=some o)->Q (.ref s.heap.objs.size) {s with heap:=h',toks:=tk}) :
  wpAny (model prog w) A (call (.type "set") [.str z t]) Q E s:=by
 have hlen:(sgn z).length=z.cps.size:=by unfold sgn; simp
 refine jhJ (T:="str") hh (fun led=>typeIs_str _ z t) jgS jdf (by decide) (by rw [hlen]; exact hb) (fun led A' E' Q' hQ=>?_) h
 refine wpAny_pyIter_str fun o St W st=>?_
 refine hQ _ _ _ (SignAt z) St o (fun A'' hA=>hlen▸W A'' hA) ?_ ?_ ?_ st
 ·rw [Heap.size_push]; simp
 ·intro b hb
  rw [Heap.size_push] at hb
  have e:b=s.heap.objs.size+1:=by simpa using hb
  rw [e]
  exact Nat.lt_succ_self _
 ·rintro i v ⟨c,u,hc,rfl⟩
  refine ⟨⟨#[c]⟩,u,?_,rfl⟩
  unfold sgn
  rw [List.getElem?_map,Array.getElem?_toList,hc]
  rfl
end
def SetO (P:Program) (w:World) (a:Addr) (l:List Str):HO:=.ext fun h=>SetS P w h a l
section
variable {X:Cx}
theorem SetO.ok {H:Hp} {h:Heap} {a:Addr} {l:List Str} (q:SetS X.prog X.w h a l):ObjOk X.prog X.w H h a (SetO X.prog X.w a l):=by
 refine ⟨q,?_,fun h1 h2 p k=>p.at k⟩
 obtain ⟨o,_,_,_,ho,_⟩:=q
 exact ⟨o,ho⟩
theorem jeF (hc:X.calm=true):jcx X (.type "set") (fun xs H Q=>∃ p ts,xs=[.ref p]/\SqL X.K H p (ts.map V.str)/\ts.length+1 < scanBound/\∀ l,H l=none->Q (.ref l) (upd H l (SetO X.prog X.w l (dd ts)))):=by
 intro pins s σ H xs us Q I r h
 obtain ⟨p,ts,rfl,hq,hb,q⟩:=h
 obtain ⟨u,rfl,ru⟩:=jdM r
 cases ru
 obtain ⟨its,rv,pl,_⟩:=I.list hq
 refine jiJ (I.ok.hd hc) pl.isList (by simpa using rv) hb fun h' tk qs kk=>?_
 exact ⟨.ref s.heap.objs.size,_,I.laid (a:=s.heap.objs.size) kk (Nat.le_refl _) (SetO.ok qs),rfl,q _ (I.hok.fresh (Nat.le_refl _))⟩
theorem jeG (hc:X.calm=true):jcx X (.type "set") (fun xs H Q=>∃ z,xs=[.str z]/\z.cps.size+1 < scanBound/\∀ l,H l=none->Q (.ref l) (upd H l (SetO X.prog X.w l (dd (sgn z))))):=by
 intro pins s σ H xs us Q I r h
 obtain ⟨z,rfl,hb,q⟩:=h
 obtain ⟨u,rfl,ru⟩:=jdM r
 obtain ⟨t,rfl⟩:=ru
 refine jiK (I.ok.hd hc) hb fun h' tk qs kk=>?_
 exact ⟨.ref s.heap.objs.size,_,I.laid (a:=s.heap.objs.size) kk (Nat.le_refl _) (SetO.ok qs),rfl,q _ (I.hok.fresh (Nat.le_refl _))⟩
theorem jcM:jcx X (.builtin "len") (fun xs H Q=>∃ p l,xs=[.ref p]/\H p=some (SetO X.prog X.w p l)/\Q (.int l.length) H):=by
 intro pins s σ H xs us Q I r h
 obtain ⟨p,l,rfl,hp,q⟩:=h
 obtain ⟨u,rfl,ru⟩:=jdM r
 cases ru
 obtain ⟨⟨o,es,ep,t,ho,hex,hd,hel,hm,hbd,hf,hn⟩,_⟩:=(show ObjOk X.prog X.w H s.heap p (SetO X.prog X.w p l) from I.hok p _ hp)
 refine call_len_set ho hex hd hf (by unfold scanBound at hbd; omega) ?_
 rw [hn]
 exact ⟨.int l.length,H,I.tok _,⟨_,rfl⟩,q⟩
end
section
variable {X:Cx} {a b c d:Expr} {ta tb tc td:TE} {pos:Pos}
def jgT (neg:Bool):R2:=fun x y H Q=>∃ k j,x=.str ⟨#[k]⟩/\y=.str j/\Q (.bl (if neg then !decide (k∈j.cps.toList) else decide (k∈j.cps.toList))) H
theorem jdV:OpR X (compareOp .In) (jgT false):=by
 intro pins s σ H x y v u Q I rx ry h
 obtain ⟨k,j,rfl,rfl,q⟩:=h
 refine jjm pins s σ H _ _ v u Q I rx ry ⟨_,_,rfl,rfl,?_⟩
 rw [StrLaws.found_one]
 exact q
theorem jgd:OpR X (compareOp .NotIn) (jgT true):=by
 intro pins s σ H x y v u Q I rx ry h
 obtain ⟨k,j,rfl,rfl,q⟩:=h
 refine jfW pins s σ H _ _ v u Q I rx ry ⟨_,_,rfl,rfl,?_⟩
 rw [StrLaws.found_one]
 exact q
theorem jhK:∀ {ts:List Str} {us:List Value},Vals (ts.map V.str) us->∃ l:List (Str×Tok),us=strValues l/\l.map (·.1)=ts
 | [],_,.nil=>⟨[],rfl,rfl⟩
 | x::r,_,.cons q t=>by
  obtain ⟨tk,rfl⟩:=q
  obtain ⟨l,e1,e2⟩:=jhK (ts:=r) t
  exact ⟨(x,tk)::l,by rw [e1]; rfl,by rw [List.map_cons,e2]⟩
def rJoin (K:PySem.W.Frag):V->List V->Hp->VK->Prop:=fun x xs H Q=>∃ sep p ts,x=.str sep/\xs=[.ref p]/\SqL K H p (ts.map V.str)/\JoinOk sep ts=true/\Q (.str (Str.join sep ts)) H
theorem jgU:MtR X "str.join" (rJoin X.K):=by
 intro pins s σ H x xs v us Q I rx rs h
 obtain ⟨sep,p,ts,rfl,rfl,hq,hok,q⟩:=h
 obtain ⟨t,rfl⟩:=rx
 obtain ⟨u,rfl,ru⟩:=jdM rs
 cases ru
 obtain ⟨its,rv,pl,_⟩:=I.list hq
 obtain ⟨l,e1,e2⟩:=jhK rv
 subst e1
 refine SC.join pl.isList e2 hok fun t' k=>?_
 rw [show Txt.join sep ts=Str.join sep ts from StrLaws.glued_eq_join sep ts]
 exact ⟨.str (Str.join sep ts),H,I.tok _,⟨t',rfl⟩,q⟩
theorem jdW {sep:Str}:∀ {ts:List Str} {n:Nat},(∀ t∈ts,t.length+sep.length<=n)->ts.length * n<=sizeLine->JoinOk sep ts=true:=by
 intro ts n h hz
 have e:∀ (l:List Str) (k:Nat),(∀ t∈l,t.length+sep.length<=n)->l.foldl (fun x1 x2=>x1+x2.length+sep.length) k<=k+l.length * n:=by
  intro l
  induction l with
  | nil=>intro k _; simp
  | cons t r ih =>
   intro k hk
   have h1:=ih (k+t.length+sep.length) fun u hu=>hk u (List.mem_cons_of_mem _ hu)
   have h2:=hk t List.mem_cons_self
   rw [List.foldl_cons,List.length_cons,Nat.succ_mul]
   omega
 unfold JoinOk Builtin.Str.tooLong
 have:=e ts 0 h
 rw [List.foldl_toArray]
 simp only [Bool.not_eq_true',decide_eq_false_iff_not]
 omega
def jjD (K:PySem.W.Frag):List V->Hp->VK->Prop:=fun xs H Q=>∃ x t k,((∃ C,xs=[x,.ref C]/\PySem.W.kitOne K t (.ref C)=some k)\/∃ T,xs=[x,.ty T]/\PySem.W.kitOne K t (.type T)=some k)/\TyOf K H x t/\Q (.bl k) H
theorem jau:jcx X (.builtin "isinstance") (jjD X.K):=by
 intro pins s σ H xs us Q I r h
 obtain ⟨x,t,k,hx,ty,q⟩:=h
 rcases hx with ⟨C,rfl,e⟩ | ⟨T,rfl,e⟩
 ·obtain ⟨u,u',rfl,ru,ru'⟩:=jlp r
  cases ru'
  exact jfS I ru ty e fun tk=>⟨.bl k,H,I.tok _,rfl,q⟩
 ·obtain ⟨u,u',rfl,ru,ru'⟩:=jlp r
  cases ru'
  exact jfS I ru ty e fun tk=>⟨.bl k,H,I.tok _,rfl,q⟩
theorem joO {bs:List Bool} {its:List Value} (r:Vals (bs.map V.bl) its):∀ (i:Nat) (v:Value),its[i]?=some v->∃ k,bs[i]?=some k/\v=Value.bool k:=by
 intro i v e
 have hl:i < bs.length:=by
  have:=r.length
  rw [List.length_map] at this
  rw [this]
  exact (List.getElem?_eq_some_iff.mp e).1
 obtain ⟨u,hu,ru⟩:=r.get (i:=i) (x:=V.bl bs[i]) (by rw [List.getElem?_map,List.getElem?_eq_getElem hl]; rfl)
 rw [e] at hu; cases hu
 exact ⟨bs[i],List.getElem?_eq_getElem hl,ru⟩
theorem jjE (bs:List Bool):(List.range bs.length).all (fun i=>bs[i]?.getD false)=bs.all id:=by
 rw [Bool.eq_iff_iff,List.all_eq_true,List.all_eq_true]
 constructor
 ·intro h x hx
  obtain ⟨i,hi,e⟩:=List.mem_iff_getElem.mp hx
  have:=h i (List.mem_range.mpr hi)
  rw [List.getElem?_eq_getElem hi,e] at this
  exact this
 ·intro h i hi
  have hi':=List.mem_range.mp hi
  rw [List.getElem?_eq_getElem hi']
  exact h _ (List.getElem_mem hi')
theorem jlI (hc:X.calm=true):jcx X (.builtin "all") (fun xs H Q=>∃ (p:Addr) (bs:List Bool),xs=[.ref p]/\SqL X.K H p (bs.map V.bl)/\Q (.bl (bs.all id)) H):=by
 intro pins s σ H xs us Q I r h
 obtain ⟨p,bs,rfl,hq,q⟩:=h
 obtain ⟨u,rfl,ru⟩:=jdM r
 cases ru
 obtain ⟨its,rv,pl,_⟩:=I.list hq
 have hlen:its.toArray.size=bs.length:=by have:=rv.length; rw [List.length_map] at this; rw [List.size_toArray,this]
 have hlt:p < s.heap.objs.size:=by obtain ⟨o,_,ho,_⟩:=pl; exact Heap.lt_size ho
 refine call_function_tree F.kind_all F.plain_all F.entry_all (F.args_all1 _) ?_
 unfold Builtin.«all»
 refine wpAny_bind (wpAny_pure (wpAny_bind (wpAny_pyIter_list pl.isList ?_)))
 refine wpAny_pure ⟨plainId_quiet F.plain_all_loop _,?_⟩
 have W:=Walks.list (prog:=X.prog) (w:=X.w) (A:=X.A.in1) (by simp [I.ok.hd hc]) s.heap.objs.size p (Nat.ne_of_lt hlt) its.toArray
 refine codeAny_all_loop W (fun i=>bs[i]?.getD false) (fun i v s Q E hP hQ=>?_) (its.toArray.size - 0) 0 _ (by omega) (Nat.zero_le _) ⟨⟨_,Heap.get?_push_size _ rfl,rfl,rfl⟩,pl.isList.push _⟩ fun h' tk kk=>?_
 ·obtain ⟨k,e1,rfl⟩:=joO rv i v (by simpa using hP)
  have hQ':Q k s:=by simpa [e1] using hQ
  exact wpAny_truthy_bool hQ'
 ·rw [List.drop_zero,hlen,jjE]
  refine ⟨.bl (bs.all id),H,?_,rfl,q⟩
  exact I.kept (h':=h') (t':=tk) fun b o e=>kk b o (by have:=Heap.lt_size e; simp; exact Nat.ne_of_lt this) (Heap.get?_push_of_some _ e)
theorem jjF {v:Expr} {tv:TE} {y:Str} {j:Nat} {p1 p2:Pos} (hv:PE X v tv):PE X (.JoinedStr [.FormattedValue v (-1) none p1,.Constant (.str y) j p2] pos)
  (fun σ H Q=>tv σ H fun x H1=>∃ z,x=.str z/\z.length+y.length<=sizeLine/\Q (.str (z++y)) H1):=by
 intro pins s σ H Q I h
 refine JoinedStr_many (joinParts_cons (FormattedValue_plain (thn (hv pins s σ H _ I h) fun u s1 ⟨x,H1,I1,r1,z,e,hz,q⟩=>?_)))
 subst e
 obtain ⟨t,rfl⟩:=r1
 refine formatField_str (fun t' tk=>?_) (by omega)
 have e0:Str.empty++z=z:=Str.empty_append z
 show (Str.empty++z).length<=sizeLine/\_
 rw [e0]
 refine ⟨by omega,joinParts_cons (Calls.Constant_str ?_)⟩
 show (z++y).length<=sizeLine/\_
 rw [strLen_append]
 exact ⟨hz,joinParts_nil ⟨.str (z++y),H1,(I1.tok _).tok _,⟨_,rfl⟩,q⟩ (by rw [strLen_append]; exact hz)⟩
def jnw (r r' r'':R2) (ta tb tc td:TE):TE:=fun σ H Q=>ta σ H fun x H1=>tb σ H1 fun y H2=>r x y H2 fun z H3=>∃ k,z=.bl k /\
 (if k=true then tc σ H3 fun w' H4=>r' y w' H4 fun z2 H5=>∃ k2,z2=.bl k2/\(if k2=true then td σ H5 fun v' H6=>r'' w' v' H6 Q else Q (.bl false) H5) else Q (.bl false) H3)
theorem jjG {op op' op'':CmpOp} {r r' r'':R2} (ho:OpR X (compareOp op) r) (ho':OpR X (compareOp op') r') (ho'':OpR X (compareOp op'') r'') (ha:PE X a ta) (hb:PE X b tb) (hc:PE X c tc) (hd:PE X d td)
  (hm:lastMarks [op,op',op''] [b,c,d]=false:=by with_unfolding_all rfl):PE X (.Compare a [op,op',op''] [b,c,d] pos) (jnw r r' r'' ta tb tc td):=by
 intro pins s σ H Q I h
 refine Compare_chain (thn (ha pins s σ H _ I h) fun v s1 ⟨x,H1,I1,r1,q1⟩=>chain_link (thn (hb pins s1 σ H1 _ I1 q1) fun u s2 ⟨y,H2,I2,r2,q2⟩ =>
  thn (ho pins s2 σ H2 x y v u _ I2 r1 r2 q2) fun d s3 ⟨z,H3,I3,r3,k,e,q3⟩=>?_)) hm
 subst e
 cases r3
 refine wpAny_truthy_bool ?_
 cases k with
 | false=>exact ite_ff ⟨.bl false,H3,I3,rfl,q3⟩
 | true =>
  refine ite_tt (chain_link (thn (hc pins s3 σ H3 _ I3 q3) fun u4 s4 ⟨z',H4,I4,r4,q4⟩=>thn (ho' pins s4 σ H4 y z' u u4 _ I4 r2 r4 q4) fun d5 s5 ⟨z5,H5,I5,r5,k5,e5,q5⟩=>?_))
  subst e5
  cases r5
  refine wpAny_truthy_bool ?_
  cases k5 with
  | false=>exact ite_ff ⟨.bl false,H5,I5,rfl,q5⟩
  | true=>exact ite_tt (chain_last (thn (hd pins s5 σ H5 _ I5 q5) fun w6 s6 ⟨z6,H6,I6,r6,q6⟩=>ho'' pins s6 σ H6 z' z6 u4 w6 Q I6 r4 r6 q6))
end
open AutoSeq1 (wpAny_loadPart')
open MeetsSeq MeetsSeq2 MeetsSeq3 SeqRoads2
def EqI (prog:Program) (w:World) (A:Around) (s:Shared) (y x:Value):Prop:=∀ (E:Value->Shared->Prop) (Q:Bool->Shared->Prop),Q true s->wpAny (model prog w) A (eqBool y x) Q E s
def RcI (prog:Program) (w:World) (op:CmpOp) (A:Around) (s:Shared) (y x:Value) (k:Bool):Prop:=∀ (E:Value->Shared->Prop) (Q:Value->Shared->Prop),Q (.bool k) s->wpAny (model prog w) A (richCompare op y x) Q E s
section
variable {prog:Program} {w:World} {A:Around} {s:Shared}
theorem EqI.of {y x:Value} (h:SeqAt.EqAt A s y x true):EqI prog w A s y x:=fun E Q q=>h prog w E Q q
theorem EqI.refs {l b:Addr} (h:l≠b->RcI prog w .Eq A s (.ref l) (.ref b) true):EqI prog w A s (.ref l) (.ref b):=fun E Q q=>by
 by_cases e:l=b
 ·subst e; exact SeqAt.EqAt.same _ prog w E Q q
 ·unfold eqBool
  refine wpAny_holding (wpAny_ite_split (fun hab=>absurd (by have:=eq_of_beq hab; injection this) e) (fun _=>?_))
  exact wpAny_bind (h e E _ (wpAny_truthy_bool q))
theorem jhL (l b:Addr) (xs ys:Array Value) (n n2:Nat) (dd dd2:Option Addr) (sl sl2:Array (Option Value)) (hsz:xs.size=ys.size) (c:Int) (k0:Bool) (hc0:(c=2/\k0=true)\/(c=3/\k0=false)) (k:Nat) :
  ∀ i:Nat,xs.size - i=k->MeetsIn prog w (Builtin.«list.__eq__.loop» ⟨[.ref l,.ref b,rawInt i,rawInt c],[]⟩)
   (fun A R s=>s.heap.get? l=some ⟨.type "list",dd,.seq xs n,sl⟩/\s.heap.get? b=some ⟨.type "list",dd2,.seq ys n2,sl2⟩/\(∀ j (h1:j < xs.size) (h2:j < ys.size),EqI prog w A.in1 s xs[j] ys[j])/\R (.ok (.ret (.bool k0))) s):=by
 induction k with
 | zero =>
  intro i hk A R s h
  obtain ⟨hp,g,d,tk,os⟩:=s
  obtain ⟨hl,hb,he,h⟩:=h
  have i1:xs[((i:Nat):Int).toNat]?=none:=by simp; omega
  have i2:ys[((i:Nat):Int).toNat]?=none:=by simp; omega
  rcases hc0 with ⟨rfl,rfl⟩ | ⟨rfl,rfl⟩
  ·wp_walk using wpAny_loadPart' hl,wpAny_loadPart' hb
   rw [i1,i2]
   wp_walk using wpAny_loadPart' hl,wpAny_loadPart' hb
   show R (.ok (.ret (.bool (xs.size==ys.size)))) _
   rw [hsz]
   simpa using h
  ·wp_walk using wpAny_loadPart' hl,wpAny_loadPart' hb
   rw [i1,i2]
   wp_walk using wpAny_loadPart' hl,wpAny_loadPart' hb
   show R (.ok (.ret (.bool (xs.size != ys.size)))) _
   rw [hsz]
   simpa using h
 | succ k ih =>
  intro i hk A R s h
  obtain ⟨hp,g,d,tk,os⟩:=s
  obtain ⟨hl,hb,he,h⟩:=h
  have hlt:i < xs.size:=by omega
  have hlt2:i < ys.size:=by omega
  have i1:xs[((i:Nat):Int).toNat]?=some xs[i]:=by simp [hlt]
  have i2:ys[((i:Nat):Int).toNat]?=some ys[i]:=by simp [hlt2]
  have hc:((i:Int)+1)=((i+1:Nat):Int):=by push_cast; rfl
  rcases hc0 with ⟨rfl,rfl⟩ | ⟨rfl,rfl⟩
  all_goals
   wp_walk using wpAny_loadPart' hl,wpAny_loadPart' hb
   rw [i1,i2]
   refine wpAny_bind (he i hlt hlt2 _ _ ?_)
   wp_walk
   rw [hc]
   refine ⟨plainId_quiet plain_eq_loop _,codeAny_builtin entry_eq_loop ?_⟩
   rw [Around.under_plainId plain_eq_loop _]
   exact ih (i+1) (by omega) A R _ ⟨hl,hb,he,h⟩
theorem jge {l b:Addr} {xs ys:Array Value} (hl:s.heap.IsList l xs) (hb:s.heap.IsList b ys) (hsz:xs.size=ys.size) (hu:A.units < cLine) (he:∀ j (h1:j < xs.size) (h2:j < ys.size),EqI prog w A.in1 s xs[j] ys[j]) :
  RcI prog w .Eq A s (.ref l) (.ref b) true/\RcI prog w .NotEq A s (.ref l) (.ref b) false:=by
 obtain ⟨⟨cls,dd,data,sl⟩,ho,hc,n,hd⟩:=id hl
 obtain ⟨⟨cls2,dd2,data2,sl2⟩,ho2,hc2,n2,hd2⟩:=id hb
 simp only at hc hd hc2 hd2
 subst hc hd hc2 hd2
 have f3:=AutoSeq1.sub_list_list
 have hne:¬ (xs.size != ys.size)=true:=by simp [hsz]
 constructor
 ·intro E Q q
  refine wpAny_richCompare_same_room (op:=.Eq) ⟨_,ho,rfl⟩ ⟨_,ho2,rfl⟩ PySem.F.slot_list_eq (call_meetsIn PySem.F.slot_list_eq ⟨_,ho,rfl⟩ PySem.F.entry_list_eq (PySem.F.args_list_eq_2 _ _) (S:=fun A R s=>s.heap.get? l=some ⟨.type "list",dd,.seq xs n,sl⟩/\s.heap.get? b=some ⟨.type "list",dd2,.seq ys n2,sl2⟩/\(∀ j (h1:j < xs.size) (h2:j < ys.size),EqI prog w A.in1 s xs[j] ys[j])/\R (.ok (.ret (.bool true))) s) (fun A R s h=>?_) ⟨ho,ho2,he,(show Value.bool true≠Value.notImplemented/\Q (.bool true) s from ⟨(fun x=>nomatch x),q⟩)⟩) hu
  obtain ⟨hp,g,d,tk,os⟩:=s
  obtain ⟨hl,hb,he,h⟩:=h
  wp_walk using wpAny_loadPart' hl,wpAny_loadPart' hb
  refine ⟨plainId_quiet plain_eq_loop _,codeAny_builtin entry_eq_loop ?_⟩
  rw [Around.under_plainId plain_eq_loop _]
  exact jhL l b xs ys n n2 dd dd2 sl sl2 hsz 2 true (.inl ⟨rfl,rfl⟩) _ 0 rfl A R _ ⟨hl,hb,he,h⟩
 ·intro E Q q
  refine wpAny_richCompare_same_room (op:=.NotEq) ⟨_,ho,rfl⟩ ⟨_,ho2,rfl⟩ PySem.F.slot_list_ne (call_meetsIn PySem.F.slot_list_ne ⟨_,ho,rfl⟩ PySem.F.entry_list_ne (PySem.F.args_list_ne_2 _ _) (S:=fun A R s=>s.heap.get? l=some ⟨.type "list",dd,.seq xs n,sl⟩/\s.heap.get? b=some ⟨.type "list",dd2,.seq ys n2,sl2⟩/\(∀ j (h1:j < xs.size) (h2:j < ys.size),EqI prog w A.in1 s xs[j] ys[j])/\R (.ok (.ret (.bool false))) s) (fun A R s h=>?_) ⟨ho,ho2,he,(show Value.bool false≠Value.notImplemented/\Q (.bool false) s from ⟨(fun x=>nomatch x),q⟩)⟩) hu
  obtain ⟨hp,g,d,tk,os⟩:=s
  obtain ⟨hl,hb,he,h⟩:=h
  wp_walk using wpAny_loadPart' hl,wpAny_loadPart' hb
  refine ⟨plainId_quiet plain_eq_loop _,codeAny_builtin entry_eq_loop ?_⟩
  rw [Around.under_plainId plain_eq_loop _]
  exact jhL l b xs ys n n2 dd dd2 sl sl2 hsz 3 false (.inr ⟨rfl,rfl⟩) _ 0 rfl A R _ ⟨hl,hb,he,h⟩
theorem jgf {K:Type} [DecidableEq K] {knd:KeyKind prog w K} {E:Value->Shared->Prop} {nm:String} {a b:Addr} {ka kb:List (K×Value)} {Q:Bool->Shared->Prop} (ha:(a==sysModules)=false) (hb:(b==sysModules)=false) (da:s.heap.DictOf knd a ka) (db:s.heap.DictOf knd b kb)
  (hlen:ka.length=kb.length) (hits:∀ k v,(k,v)∈ka->∃ y,valueAt kb k=some y/\EqI prog w A s v y) (h:Q true s):wpAny (model prog w) A (Builtin.Dict.samePairs nm a b) Q E s:=by
 obtain ⟨oa,es,ep,hoa,_,hda,hka,hpa,_⟩:=da
 obtain ⟨ob,es',ep',hob,_,hdb,hkb,hpb,_⟩:=db
 have la:ka.length=es.size:=by rw [<- hpa.length]; exact Array.length_toList
 have lb:kb.length=es'.size:=by rw [<- hpb.length]; exact Array.length_toList
 have hsz:es.size=es'.size:=by rw [<- la,<- lb]; exact hlen
 have hfind:∀ k,findBy knd.is es' k=valueAt kb k:=fun k=>by
  rw [<- hpb.find k]
  clear lb hpb hkb hdb hob hsz
  obtain ⟨l⟩:=es'
  simp [findBy]
 unfold Builtin.Dict.samePairs Builtin.Dict.showsAll
 rw [if_neg (show ¬ (a==sysModules)=true by rw [ha]; exact Bool.false_ne_true),if_neg (show ¬ (b==sysModules)=true by rw [hb]; exact Bool.false_ne_true)]
 refine wpAny_bind (wpAny_pure (wpAny_bind (wpAny_pure (wpAny_bind (wpAny_dictEntries hoa hda ?_)))))
 dsimp only
 refine wpAny_bind (wpAny_dictEntries hob hdb ?_)
 rw [if_neg (by rw [hsz]; simp)]
 refine wpAny_bind (wpAny_dictEpoch hoa hda (wpAny_bind ?_))
 rw [Std.Legacy.Range.forIn_eq_forIn_range']
 simp only [Std.Legacy.Range.size,Nat.sub_zero,Nat.add_sub_cancel,Nat.div_one]
 refine wpAny_forIn_list _ (fun rest q s'=>s'=s/\q=(none,())/\∃ i,rest=List.range' i (es.size - i)/\i<=es.size) _ ?_ ?_ _ _ ⟨rfl,rfl,0,by simp,Nat.zero_le _⟩
 ·rintro x rest q s' ⟨rfl,rfl,i,hr,hi⟩
  have hlt:i < es.size:=by
   rcases Nat.lt_or_ge i es.size with z | z
   ·exact z
   ·rw [Nat.sub_eq_zero_of_le z] at hr; simp at hr
  obtain ⟨rfl,hrest⟩:x=i/\rest=List.range' (i+1) (es.size - (i+1)):=by
   rw [show es.size - i=(es.size - (i+1))+1 by omega,List.range'_succ] at hr
   injection hr with h1 h2
   exact ⟨h1,h2⟩
  refine wpAny_bind (wpAny_dictEntries hoa hda ?_)
  rw [Array.getElem?_eq_getElem hlt]
  have hlt':x < ka.length:=by rw [la]; exact hlt
  obtain ⟨k,v,hkv⟩:∃ k v,ka[x]=(k,v):=⟨_,_,rfl⟩
  obtain ⟨hkey,hval⟩:=hpa.get? (i:=x) (e:=es[x]) (k:=k) (v:=v) (by rw [Array.getElem?_toList]; exact Array.getElem?_eq_getElem hlt) (by rw [List.getElem?_eq_getElem hlt',hkv])
  obtain ⟨k',hk',hh⟩:=hka es[x] (Array.getElem_mem hlt)
  have ekk:k'=k:=knd.inj _ _ _ hk' hkey
  rw [ekk] at hh
  obtain ⟨y,hy,he⟩:=hits k v (by rw [<- hkv]; exact List.getElem_mem hlt')
  show wpAny _ _ (holding [es[x].key,es[x].val] _>>=_) _ _ _
  rw [hh]
  refine wpAny_bind (wpAny_holding (wpAny_bind (wpAny_dictFind_of hkey hob hdb hkb ?_)))
  cases hj:es'.findIdx? fun e=>knd.is k e.key with
  | none =>
   have hn:valueAt kb k=none:=by rw [<- hfind k,findBy_of_findIdx?,hj]
   rw [hn] at hy
   cases hy
  | some j =>
   obtain ⟨hjlt,_,_⟩:=Array.findIdx?_eq_some_iff_getElem.mp hj
   have hv':valueAt kb k=some es'[j].val:=by
    rw [<- hfind k,findBy_of_findIdx?,hj]
    simp [Array.getElem?_eq_getElem hjlt]
   refine wpAny_bind (wpAny_dictEntries hob hdb ?_)
   rw [Array.getElem?_eq_getElem hjlt]
   have ey:es'[j].val=y:=Option.some.inj (hv'.symm.trans hy)
   rw [<- ey,<- hval] at he
   refine wpAny_holding (he _ _ ?_)
   show wpAny _ _ (if (!true)=true then _ else _) _ _ _
   rw [if_neg (by decide)]
   refine wpAny_bind (wpAny_dictEpoch hoa hda ?_)
   rw [if_neg (by simp)]
   exact wpAny_pure ⟨rfl,rfl,x+1,hrest,hlt⟩
 ·rintro q s' ⟨rfl,rfl,i,hr,hi⟩
  exact wpAny_pure h
theorem jjH {K:Type} [DecidableEq K] {knd:KeyKind prog w K} {a b:Addr} {ka kb:List (K×Value)} (ha:(a==sysModules)=false) (hb:(b==sysModules)=false) (da:s.heap.DictOf knd a ka) (db:s.heap.DictOf knd b kb)
  (hlen:ka.length=kb.length) (hu:A.units < cLine) (hits:∀ k v,(k,v)∈ka->∃ y,valueAt kb k=some y/\EqI prog w A.in1 s v y):RcI prog w .Eq A s (.ref a) (.ref b) true/\RcI prog w .NotEq A s (.ref a) (.ref b) false:=by
 constructor
 ·intro E Q q
  refine wpAny_richCompare_same_room (op:=.Eq) da.typeIs db.typeIs PySem.F.slot_dict_eq (wpAny_call_entry PySem.F.slot_dict_eq da.typeIs PySem.F.entry_dict_eq ?_ (PySem.F.args_dict_eq_2 _ _)) hu
  show wpAny _ _ (Builtin.Dict.dictSlotArgs "__eq__" ⟨[.ref a,.ref b],[]⟩>>=_) _ _ s
  refine wpAny_bind ?_
  unfold Builtin.Dict.dictSlotArgs
  refine wpAny_bind (wpAny_notOrdered_dict da.typeIs ?_)
  show wpAny _ _ (pure (Value.ref a,Value.ref b)) _ _ s
  refine wpAny_pure (wpAny_bind (wpAny_isInstance (T:="dict") db.typeIs PySem.F.sub_dict_dict ?_))
  simp only [Bool.not_true,Bool.false_eq_true,if_false]
  refine wpAny_bind (wpAny_pure (wpAny_bind (wpAny_pure (wpAny_bind (jgf ha hb da db hlen hits ?_)))))
  exact wpAny_pure ⟨_,rfl,(fun x=>nomatch x),q⟩
 ·intro E Q q
  refine wpAny_richCompare_same_room (op:=.NotEq) da.typeIs db.typeIs PySem.F.slot_dict_ne (wpAny_call_entry PySem.F.slot_dict_ne da.typeIs PySem.F.entry_dict_ne ?_ (PySem.F.args_dict_ne_2 _ _)) hu
  show wpAny _ _ (Builtin.Dict.dictSlotArgs "__ne__" ⟨[.ref a,.ref b],[]⟩>>=_) _ _ s
  refine wpAny_bind ?_
  unfold Builtin.Dict.dictSlotArgs
  refine wpAny_bind (wpAny_notOrdered_dict da.typeIs ?_)
  show wpAny _ _ (pure (Value.ref a,Value.ref b)) _ _ s
  refine wpAny_pure (wpAny_bind (wpAny_isInstance (T:="dict") db.typeIs PySem.F.sub_dict_dict ?_))
  simp only [Bool.not_true,Bool.false_eq_true,if_false]
  refine wpAny_bind (wpAny_pure (wpAny_bind (wpAny_pure (wpAny_bind (jgf ha hb da db hlen hits ?_)))))
  exact wpAny_pure ⟨_,rfl,(fun x=>nomatch x),q⟩
end
def joP:V->Prop
 | .byt _=>False
 | .flt _=>False
 | .ty _=>False
 | _=>True
def EqT (K:PySem.W.Frag) (H:Hp):Nat->V->V->Prop
 | 0,x,y=>x=y/\joP x
 | n+1,x,y=>EqT K H n x y\/(∃ a b xs ys,x=.ref a/\y=.ref b/\SqL K H a xs/\SqL K H b ys/\Paired (EqT K H n) xs ys) \/
   (∃ a b xs ys,x=.ref a/\y=.ref b/\SqT K H a xs/\SqT K H b ys/\Paired (EqT K H n) xs ys)
def EqD (K:PySem.W.Frag) (H:Hp):Nat->V->V->Prop
 | 0,x,y=>EqT K H 0 x y
 | n+1,x,y=>EqT K H (n+1) x y\/(∃ a b xs ys,x=.ref a/\y=.ref b/\SqL K H a xs/\SqL K H b ys/\Paired (EqD K H n) xs ys) \/
   (∃ a b ka kb,x=.ref a/\y=.ref b/\Rd H a (.dK ka)/\Rd H b (.dK kb)/\ka.length=kb.length/\∀ k v,(k,v)∈ka->∃ v',jbt kb k=some v'/\EqD K H n v v')
theorem jbo {α β:Type} {F:α->β->Prop}:∀ {l₁:List α} {l₂:List β} {i:Nat} {x:α} {y:β},Paired F l₁ l₂->l₁[i]?=some x->l₂[i]?=some y->F x y
 | _,_,_,_,_,.nil,e,_=>by simp at e
 | _,_,0,_,_,.cons r _,e,e'=>by simp at e e'; subst e e'; exact r
 | _,_,i+1,_,_,.cons _ t,e,e'=>jbo (i:=i) t (by simpa using e) (by simpa using e')
section
variable {X:Cx} {pins:List (Addr×Obj)} {σ:St} {H:Hp} {s:Shared}
theorem jmu (n:Nat):(List.range n).all (fun _=>true)=true:=by simp
theorem jgg (I:Inv X pins σ H s):∀ (n:Nat) {x y:V} {u v:Value} {A:Around},EqT X.K H n x y->RelV x u->RelV y v->A.units+n < cLine->SeqAt.EqAt A s u v true
 | 0,x,y,u,v,A,h,rx,ry,hu=>by
  obtain ⟨e,p⟩:=h
  subst e
  cases x with
  | non=>cases rx; cases ry; exact SeqAt.EqAt.same _
  | bl b=>cases rx; cases ry; exact SeqAt.EqAt.same _
  | int i =>
   obtain ⟨t,rfl⟩:=rx
   obtain ⟨t',rfl⟩:=ry
   have:=SeqAt.EqAt.int_int (A:=A) (s:=s) i t i t'
   rw [beq_self_eq_true] at this
   exact this
  | str z =>
   obtain ⟨t,rfl⟩:=rx
   obtain ⟨t',rfl⟩:=ry
   have:=SeqAt.EqAt.str_str (A:=A) (s:=s) z t z t'
   rw [beq_self_eq_true] at this
   exact this
  | ref a=>cases rx; cases ry; exact SeqAt.EqAt.same _
  | _=>exact False.elim p
 | n+1,x,y,u,v,A,h,rx,ry,hu=>by
  rcases h with h | ⟨a,b,xs,ys,rfl,rfl,ha,hb,hp⟩ | ⟨a,b,xs,ys,rfl,rfl,ha,hb,hp⟩
  ·exact jgg I n h rx ry (by omega)
  ·cases rx; cases ry
   obtain ⟨ia,ra,pa,_⟩:=I.list ha
   obtain ⟨ib,rb,pb,_⟩:=I.list hb
   by_cases e:a=b
   ·subst e; exact SeqAt.EqAt.same _
   ·have hsz:ia.toArray.size=ib.toArray.size:=by rw [List.size_toArray,List.size_toArray,<- ra.length,<- rb.length]; exact hp.length
    have q:=SeqAt.RcAt.lists (A:=A) (e:=fun _=>true) pa.isList pb.isList hsz (by omega) fun j j1 j2=>by
     have j1':j < ia.length:=by simpa using j1
     have j2':j < ib.length:=by simpa using j2
     have k1:j < xs.length:=by rw [ra.length]; exact j1'
     have k2:j < ys.length:=by rw [rb.length]; exact j2'
     obtain ⟨u1,e1,r1⟩:=ra.get (List.getElem?_eq_getElem k1)
     obtain ⟨u2,e2,r2⟩:=rb.get (List.getElem?_eq_getElem k2)
     have g1:ia.toArray[j]=u1:=by
      have:ia[j]?=some ia[j]:=List.getElem?_eq_getElem j1'
      rw [e1] at this
      simpa using (Option.some.inj this).symm
     have g2:ib.toArray[j]=u2:=by
      have:ib[j]?=some ib[j]:=List.getElem?_eq_getElem j2'
      rw [e2] at this
      simpa using (Option.some.inj this).symm
     rw [g1,g2]
     exact jgg I n (jbo hp (List.getElem?_eq_getElem k1) (List.getElem?_eq_getElem k2)) r1 r2 (by show A.units+1+n < cLine; omega)
    rw [jmu] at q
    exact SeqAt.EqAt.of_refs e q
  ·cases rx; cases ry
   obtain ⟨ia,ra,pa,_⟩:=I.tuple ha
   obtain ⟨ib,rb,pb,_⟩:=I.tuple hb
   by_cases e:a=b
   ·subst e; exact SeqAt.EqAt.same _
   ·have hsz:ia.toArray.size=ib.toArray.size:=by rw [List.size_toArray,List.size_toArray,<- ra.length,<- rb.length]; exact hp.length
    have q:=SeqAt.RcAt.tuples (A:=A) (e:=fun _=>true) (show s.heap.IsTuple a ia.toArray from pa) (show s.heap.IsTuple b ib.toArray from pb) (by omega) fun j j1 j2=>by
     have j1':j < ia.length:=by simpa using j1
     have j2':j < ib.length:=by simpa using j2
     have k1:j < xs.length:=by rw [ra.length]; exact j1'
     have k2:j < ys.length:=by rw [rb.length]; exact j2'
     obtain ⟨u1,e1,r1⟩:=ra.get (List.getElem?_eq_getElem k1)
     obtain ⟨u2,e2,r2⟩:=rb.get (List.getElem?_eq_getElem k2)
     have g1:ia.toArray[j]=u1:=by
      have:ia[j]?=some ia[j]:=List.getElem?_eq_getElem j1'
      rw [e1] at this
      simpa using (Option.some.inj this).symm
     have g2:ib.toArray[j]=u2:=by
      have:ib[j]?=some ib[j]:=List.getElem?_eq_getElem j2'
      rw [e2] at this
      simpa using (Option.some.inj this).symm
     rw [g1,g2]
     exact jgg I n (jbo hp (List.getElem?_eq_getElem k1) (List.getElem?_eq_getElem k2)) r1 r2 (by show A.units+1+n < cLine; omega)
    rw [jmu,hsz] at q
    exact SeqAt.EqAt.of_refs e (by simpa using q)
theorem jgh {n:Nat} {A:Around} {xs ys:List V} {ia ib:List Value} (ra:Vals xs ia) (rb:Vals ys ib) (hp:Paired (EqD X.K H n) xs ys)
  (ih:∀ {x y:V} {u v:Value},EqD X.K H n x y->RelV x u->RelV y v->EqI X.prog X.w A s u v) (j:Nat) (j1:j < ia.toArray.size) (j2:j < ib.toArray.size):EqI X.prog X.w A s ia.toArray[j] ib.toArray[j]:=by
 have j1':j < ia.length:=by simpa using j1
 have j2':j < ib.length:=by simpa using j2
 have k1:j < xs.length:=by rw [ra.length]; exact j1'
 have k2:j < ys.length:=by rw [rb.length]; exact j2'
 obtain ⟨u1,e1,r1⟩:=ra.get (List.getElem?_eq_getElem k1)
 obtain ⟨u2,e2,r2⟩:=rb.get (List.getElem?_eq_getElem k2)
 have g1:ia.toArray[j]=u1:=by
  have:ia[j]?=some ia[j]:=List.getElem?_eq_getElem j1'
  rw [e1] at this
  simpa using (Option.some.inj this).symm
 have g2:ib.toArray[j]=u2:=by
  have:ib[j]?=some ib[j]:=List.getElem?_eq_getElem j2'
  rw [e2] at this
  simpa using (Option.some.inj this).symm
 rw [g1,g2]
 exact ih (jbo hp (List.getElem?_eq_getElem k1) (List.getElem?_eq_getElem k2)) r1 r2
theorem jjI:∀ {kvs:List (Key×V)} {vs:List (Key×Value)} {k:Key} {u:Value},KV kvs vs->(k,u)∈vs->∃ v,(k,v)∈kvs/\RelV v u
 | _,_,_,_,.nil,h=>by cases h
 | _,_,k,u,.cons (a:=p) (b:=q) r t,h=>by
  rcases List.mem_cons.mp h with e | h
  ·subst e
   exact ⟨p.2,by rw [show (k,p.2)=p from by rw [<- show p.1=k from r.1]]; exact List.mem_cons_self,r.2⟩
  ·obtain ⟨v,h1,h2⟩:=jjI t h
   exact ⟨v,List.mem_cons_of_mem _ h1,h2⟩
theorem jhM {n:Nat} {A:Around} {a b:Addr} {ka kb:List (Key×V)} (I:Inv X pins σ H s) (ha:Rd H a (.dK ka)) (hb:Rd H b (.dK kb)) (hl:ka.length=kb.length) (hits:∀ k v,(k,v)∈ka->∃ v',jbt kb k=some v'/\EqD X.K H n v v') (hu:A.units < cLine)
  (ih:∀ {x y:V} {u v:Value},EqD X.K H n x y->RelV x u->RelV y v->EqI X.prog X.w A.in1 s u v):RcI X.prog X.w .Eq A s (.ref a) (.ref b) true/\RcI X.prog X.w .NotEq A s (.ref a) (.ref b) false:=by
 obtain ⟨za,ma,va,qa,da⟩:=jdU I.hok ha
 obtain ⟨zb,mb,vb,qb,db⟩:=jdU I.hok hb
 refine jjH ma mb da db (by rw [<- qa.length,<- qb.length]; exact hl) hu fun k u hm=>?_
 obtain ⟨v,hv,rv⟩:=jjI qa hm
 obtain ⟨v',e',q⟩:=hits k v hv
 obtain ⟨y,ey,ry⟩:=RelO.some_of (v:=v') (o:=valueAt vb k) (by rw [<- e']; exact qb.val k)
 exact ⟨y,ey,ih q rv ry⟩
theorem jmv (I:Inv X pins σ H s):∀ (n:Nat) {x y:V} {u v:Value} {A:Around},EqD X.K H n x y->RelV x u->RelV y v->A.units+n < cLine->EqI X.prog X.w A s u v
 | 0,x,y,u,v,A,h,rx,ry,hu=>EqI.of (jgg I 0 h rx ry hu)
 | n+1,x,y,u,v,A,h,rx,ry,hu=>by
  have ih:∀ {x y:V} {u v:Value},EqD X.K H n x y->RelV x u->RelV y v->EqI X.prog X.w A.in1 s u v:=fun {x y u v} h rx ry=>jmv I n h rx ry (by show A.units+1+n < cLine; omega)
  rcases h with h | ⟨a,b,xs,ys,rfl,rfl,ha,hb,hp⟩ | ⟨a,b,ka,kb,rfl,rfl,ha,hb,hl,hits⟩
  ·exact EqI.of (jgg I (n+1) h rx ry hu)
  ·cases rx; cases ry
   obtain ⟨ia,ra,pa,_⟩:=I.list ha
   obtain ⟨ib,rb,pb,_⟩:=I.list hb
   have hsz:ia.toArray.size=ib.toArray.size:=by rw [List.size_toArray,List.size_toArray,<- ra.length,<- rb.length]; exact hp.length
   exact EqI.refs fun _=>(jge pa.isList pb.isList hsz (by omega) (jgh ra rb hp ih)).1
  ·cases rx; cases ry
   exact EqI.refs fun _=>(jhM I ha hb hl hits (by omega) ih).1
def jnx (X:Cx) (k:Bool):R2:=fun x y H Q=>∃ n,X.A.units+n+1 < cLine/\((∃ a b xs ys,x=.ref a/\y=.ref b/\SqL X.K H a xs/\SqL X.K H b ys/\Paired (EqD X.K H n) xs ys) \/
 (∃ a b ka kb,x=.ref a/\y=.ref b/\Rd H a (.dK ka)/\Rd H b (.dK kb)/\ka.length=kb.length/\∀ k v,(k,v)∈ka->∃ v',jbt kb k=some v'/\EqD X.K H n v v'))/\Q (.bl k) H
theorem jgi {x y:V} {u v:Value} {Q:VK} {k:Bool} (I:Inv X pins σ H s) (rx:RelV x u) (ry:RelV y v) (h:jnx X k x y H Q):(RcI X.prog X.w .Eq X.A s u v true/\RcI X.prog X.w .NotEq X.A s u v false)/\Q (.bl k) H:=by
 obtain ⟨n,hu,h,q⟩:=h
 refine ⟨?_,q⟩
 have ih:∀ {x y:V} {u v:Value},EqD X.K H n x y->RelV x u->RelV y v->EqI X.prog X.w X.A.in1 s u v:=fun {x y u v} h rx ry=>jmv I n h rx ry (by show X.A.units+1+n < cLine; omega)
 rcases h with ⟨a,b,xs,ys,rfl,rfl,ha,hb,hp⟩ | ⟨a,b,ka,kb,rfl,rfl,ha,hb,hl,hits⟩
 ·cases rx; cases ry
  obtain ⟨ia,ra,pa,_⟩:=I.list ha
  obtain ⟨ib,rb,pb,_⟩:=I.list hb
  have hsz:ia.toArray.size=ib.toArray.size:=by rw [List.size_toArray,List.size_toArray,<- ra.length,<- rb.length]; exact hp.length
  exact jge pa.isList pb.isList hsz (by omega) (jgh ra rb hp ih)
 ·cases rx; cases ry
  exact jhM I ha hb hl hits (by omega) ih
theorem jjJ:OpR X (compareOp .Eq) (jnx X true):=by
 intro pins s σ H x y v u Q I rx ry h
 obtain ⟨⟨h1,_⟩,q⟩:=jgi I rx ry h
 exact h1 _ _ ⟨.bl true,H,I,rfl,q⟩
theorem jdX:OpR X (compareOp .NotEq) (jnx X false):=by
 intro pins s σ H x y v u Q I rx ry h
 obtain ⟨⟨_,h1⟩,q⟩:=jgi I rx ry h
 exact h1 _ _ ⟨.bl false,H,I,rfl,q⟩
end
def joQ (sc:Scope) (N:List Str) (scope:Scope) (x:Str) (cp:List (Nat×Str)):Bool :=
 (scope.kind==.function)&&(scope.names.lookup x==some .local)&&decide ((x::cp.map (·.2)).Nodup)&&scope.names.all (fun y=>!(y.2==.local) || (scope.names.lookup y.1==some .local)) &&
 scope.names.all (fun y=>!(y.2==.cell))&&scope.names.all (fun y=>!(y.2==.free) || (sc.names.lookup y.1==some .cell)) &&
 cp.all (fun p=>(N[p.1]?==some p.2)&&(sc.names.lookup p.2==some .cell)&&(scope.names.lookup p.2==some .free))
theorem CompScope.of {X:Cx} {scope:Scope} {x:Str} {cp:List (Nat×Str)} (sc:Scope) (N:List Str) (e1:X.env.scope=sc) (e2:X.N=N) (h:joQ sc N scope x cp=true):CompScope X scope x cp:=by
 subst e1 e2
 unfold joQ at h
 simp only [Bool.and_eq_true,beq_iff_eq,decide_eq_true_eq,List.all_eq_true,Bool.or_eq_true,Bool.not_eq_true',beq_eq_false_iff_ne] at h
 obtain ⟨⟨⟨⟨⟨⟨h1,h2⟩,h3⟩,h4⟩,h5⟩,h6⟩,h7⟩:=h
 refine ⟨h1,h2,h3,fun y hy hk=>(h4 y hy).resolve_left fun z=>z hk,fun y hy=>h5 y hy,fun y hy hk=>(h6 y hy).resolve_left fun z=>z hk,?_⟩
 have go:∀ l:List (Nat×Str),(∀ p∈l,(X.N[p.1]?=some p.2/\X.env.scope.names.lookup p.2=some .cell)/\scope.names.lookup p.2=some .free)->CapOk X scope l:=by
  intro l
  induction l with
  | nil=>intro _; trivial
  | cons p r ih =>
   intro hp
   obtain ⟨⟨a,b⟩,c⟩:=hp p List.mem_cons_self
   exact ⟨⟨a,b,c⟩,ih fun q hq=>hp q (List.mem_cons_of_mem _ hq)⟩
 exact go cp h7
section
variable {X:Cx}
def tKGet (kvs:List (Key×V)) (ty:TE):TE:=fun σ H Q=>ty σ H fun y H1=>∃ k v,y=kV k/\jbt kvs k=some v/\Q v H1
theorem jjK {x:Str} {a:Addr} {i:Expr} {ty:TE} {p pos:Pos} {kvs:List (Key×V)} (hg:Gl X x) (hm:X.mg x=some (.ref a)) (hd:∀ h:Heap,X.K.In h->∃ vs,KV kvs vs/\h.DictOf (jaD X.prog X.w) a vs) (hi:PE X i ty) (hs:NoSl i)
  (hdb:(x==("__debug__":Str))=false:=by decide):PE X (.Subscript (.Name x p) i pos) (tKGet kvs ty):=by
 intro pins s σ H Q I h
 have ho:PE X (.Name x p) (tC (.ref a)):=jaS hg hm rfl hdb
 refine subD_of PySem.F.slot_dict_getitem.lookup hs (thn (ho pins s σ H (fun v H'=>v=.ref a/\H'=H) I ⟨rfl,rfl⟩) fun u s1 ⟨xv,H1,I1,rx,e1,e2⟩=>?_)
 subst e1 e2
 obtain rfl:u=Value.ref a:=rx
 refine thn (hi pins s1 σ H1 _ I1 h) fun iv s2 ⟨y,H2,I2,ry,k,v,ey,ev,q2⟩=>?_
 subst ey
 obtain ⟨vs,rel,dd⟩:=hd s2.heap I2.kIn
 obtain ⟨w',hw,rw'⟩:=RelO.some_of (v:=v) (o:=valueAt vs k) (by rw [<- ev]; exact rel.val k)
 exact ⟨dd.typeIs,wpAny_getItem_of (jiD ry) dd.mapOf hw ⟨v,H2,I2.tok _,rw',q2⟩⟩
end
theorem jgj {H:Hp} {a:Addr} {o o':HO}:upd (upd H a o) a o'=upd H a o':=by
 funext b; unfold upd; split <;> rfl
theorem jah {H:Hp} {p:Addr} (h:H p=none) (o:HO):Same H (upd H p o):=fun b u q=>by rw [jao (ne_of_none q h)]; exact q
theorem jbp {n:Nat} (h:n<=1000):n<=sizeLine:=Nat.le_of_lt (jbs h)
theorem jcr {c A B:Prop} [Decidable c] (hc:c) (h:A):if decide c=true then A else B:=by rw [decide_eq_true hc]; exact jcc h
theorem jbe {c A B:Prop} [Decidable c] (hc:¬ c) (h:B):if decide c=true then A else B:=by rw [decide_eq_false hc]; exact jbn h
theorem jon {c A B:Prop} [Decidable c] (hc:¬ c) (h:A):if (!decide c)=true then A else B:=by rw [decide_eq_false hc]; exact jcc h
theorem blT {c:Prop} [Decidable c] {Q:VK} {H:Hp} (hc:c) (h:Q (.bl true) H):Q (.bl (decide c)) H:=by rw [decide_eq_true hc]; exact h
theorem jgV {z:Array Nat} {i c:Nat} (h:z[i]?=some c):c∈z.toList:=by rw [<- Array.getElem?_toList] at h; exact List.mem_of_getElem? h
theorem jhN {a b:Nat} (ha:a<=500) (hb:b<=500):a+b<=sizeLine:=jbp (by omega)
def jgk:List Expr->Option (List Str)
 | []=>some []
 | .Constant (.str x) _ _::r=>(jgk r).map (x::·)
 | _=>none
def jny (zs:List Str):TA:=fun _ H Q=>Q (zs.map V.str) H
theorem jjL {X:Cx}:∀ {es:List Expr} {zs:List Str},jgk es=some zs->PA X es (jny zs)
 | [],zs,h=>by
  have e:zs=[]:=(Option.some.inj h).symm
  subst e
  exact fun pos pins s σ H Q I q=>jad pos pins s σ H Q I q
 | e::r,zs,h=>by
  cases e with
  | Constant c j pos =>
   cases c with
   | str x =>
    have h':(jgk r).map (x::·)=some zs:=h
    cases hr:jgk r with
    | none=>rw [hr] at h'; cases h'
    | some ys =>
     rw [hr] at h'
     have e:zs=x::ys:=(Option.some.inj h').symm
     subst e
     exact fun pos pins s σ H Q I q=>jaa (jaz (X:=X)) (jjL hr) rfl pos pins s σ H Q I q
   | _=>cases h
  | _=>cases h
theorem jfk {X:Cx} {es:List Expr} {pos:Pos} (zs:List Str) (h:jgk es=some zs):PE X (.List es pos) (tLst (jny zs)):=jbj (jjL h)
section
variable {M:Model} {A:Around} {E:Value->Shared->Prop} {s:Shared} {B:Heap} {env:Env} {outer:List Env} {L a:Addr}
end
section
variable {P:Program} {w:World} {K:PySem.W.Frag} {mg:Str->Option Value} {base:Heap} {N:List Str} {qual:Str} {scope:Scope} {f:Addr} {cd:Value} {A:Around} {outer:List Env} {s:Shared} {H:Hp} {E:XK}
end
section
variable {X:Cx} {E E':XK}
end
section
variable {X:Cx} {C:Addr} {x:Str} {np cpos pos:Pos} {e:Expr} {es:List Expr} {t:TA} {E:XK}
end
section
variable {prog:Program} {w:World} {A:Around} {R:Result->Shared->Prop} {s:Shared}
end
section
variable {X:Cx} {E:XK} {pins:List (Addr×Obj)} {σ:St} {H0:Hp} {s0:Shared} {fp:List Addr} {C:Addr}
end
section
variable {X:Cx} {pins:List (Addr×Obj)} {σ:St} {H:Hp} {s:Shared} {scope:Scope} {x:Str} {cp:List (Nat×Str)} {px pos:Pos} {elt iter:Expr} {ifs:List Expr} {tt:TT} {te:TE}
end
section
variable {X:Cx} {scope:Scope} {x:Str} {cp:List (Nat×Str)} {px pos:Pos} {elt iter:Expr} {ifs:List Expr} {tt:TT} {te:TE} {wi:TI} {EX:XK}
end
section
variable {X:Cx} {pins:List (Addr×Obj)} {σ:St} {H:Hp} {s:Shared}
end
section
variable {X:Cx} {x n:Str} {i:Nat} {CF:Addr} {body suite:List Stmt} {b₀:Stmt} {np hpos pos:Pos} {tb:XK->TS} {th:TS}
end
section
variable {prog:Program} {w:World} {A:Around} {E:Value->Shared->Prop} {h:Heap} {g:Array GenState} {d:Drawn} {t:Nat} {os:OsState} {a:Addr} {o:Obj}
 {nm q:Str} {C N:Addr} {bs bm:List Value} {hdct:Bool} {sn:List Str} {sub:List Value} {ab:Bool} {col:Option Bool} {dd:Option Addr} {k0 k1 k2 k3 k5:Option Value} {newId:String} {K:PySem.W.Frag}
end
section
variable {X:Cx}
end
section
variable {X:Cx}
variable {S:St->Prop} {e:Expr} {es:List Expr} {Pr Pr':HP} {Prs:List HP} {pos:Pos}
end
section
variable {prog:Program} {w:World} {A:Around} {E:Value->Shared->Prop} {h:Heap} {g:Array GenState} {d:Drawn} {t:Nat} {os:OsState} {K:PySem.W.Frag}
 {nm q:Str} {C N a:Addr} {bs bm:List Value} {hdct:Bool} {sn:List Str} {sub:List Value} {ab:Bool} {col:Option Bool} {dd:Option Addr} {k0 k1 k2 k3 k5:Option Value}
 {nm q:Str} {C N a:Addr} {bs bm:List Value} {sn:List Str} {sub:List Value} {ab:Bool} {col:Option Bool} {dd:Option Addr} {k0 k1 k2 k3 k5:Option Value}
end
section
variable {prog:Program} {w:World} {A:Around} {E:Value->Shared->Prop} {h:Heap} {g:Array GenState} {d:Drawn} {t:Nat} {os:OsState} {K:PySem.W.Frag} {C a dx:Addr} {o:Obj} {mA:Str->Option Value} {name:Str} {v:Value}
end
section
variable {X:Cx} {o e value:Expr} {f:Str} {pos pos' tpos:Pos} {ta tv:TE}
end
section
variable {X:Cx} {o e:Expr} {es:List Expr} {B:Addr} {pos apos:Pos} {ta:TE} {t:TA}
end
section
variable {X:Cx} {CX:CXT} {k:Nat} {f C:Addr} {fd:FuncData} {ps:List Str} {sp:Sp} {E Er:XK} {ds:List Value} {dvs:List V} {x:Str} {p pos np cpos:Pos} {e:Expr} {es:List Expr} {t:TA}
end
section
variable {M:Model} {A:Around} {E:Value->Shared->Prop} {env:Env} {s:Shared} {C:Addr} {K:PySem.W.Frag}
end
section
variable {X:Cx} {C:Addr} {x:Str} {np cpos pos:Pos} {args:List Expr} {te:TE} {E:XK}
end
structure FunD (K:PySem.W.Frag) (x qual:Str) (st:Stmt) (f:Addr) (fd:FuncData) (dfl:List Value):Prop where
 ex:∃ (oc:Value) (od:Option Addr) (T:Addr) (kV doc pm:Value) (an:Option Addr) (cdv ct:Value) (osl:Array (Option Value)) (tc:Value) (td:Option Addr) (tn:Nat) (tsl:Array (Option Value)),
  fd=PySem.W.fnOf x qual (jby st) (jaU st) (jag st) (.ref T) kV doc pm an cdv ct/\K.lookup f=some ⟨oc,od,.func fd,osl⟩/\PySem.W.codeIn K cdv qual=true/\K.lookup T=some ⟨tc,td,.seq dfl.toArray tn,tsl⟩
 kp:PySem.W.keepIn K (.ref f)=true
section
variable {P:Program} {w:World} {K:PySem.W.Frag} {mg:Str->Option Value} {base:Heap} {x qual:Str} {st:Stmt} {f:Addr} {fd:FuncData} {N ps:List Str} {k:Nat} {sp:Sp} {dfl ds:List Value}
theorem FunD.ok (F:FunD K x qual st f fd dfl) (S:FnScope N ps (jag st)) (len:∀ vs H Q E,sp vs H Q E->vs.length=ps.length)
  (hbody:∀ (cdv:Value) (A:Around) (outer:List Env) (s:Shared) (H:Hp) (vs:List V) (Q:VK) (E:XK),Room k (A.deeper (envOfC qual (jag st) s.heap.objs.size f cdv))->sp vs H Q E ->
   ∃ t,PSs (jmo CX0 P w K mg base N qual (jag st) f cdv A outer s H E).nox (jaU st) t/\t {nx:=fun _ H'=>Q .non H',rt:=Q} (jff N vs) H):FnOk P w K mg base CX0 (k+1) f fd ps sp:=by
 obtain ⟨oc,od,T,kV,doc,pm,an,cdv,ct,osl,_,_,_,_,rfl,lk,hcd,_⟩:=F.ex
 refine joB lk hcd S len fun A outer s H vs Q E hr hsp=>?_
 obtain ⟨t,h,q⟩:=hbody cdv A outer s H vs Q E hr hsp
 exact ⟨t,h.nox,q⟩
theorem FunD.binds (F:FunD K x qual st f fd dfl)
  (h:∀ (T:Addr) (kV doc pm:Value) (an:Option Addr) (cdv ct:Value) (us:List Value),(us++ds).length=ps.length ->
   ∃ k,bindArgs (PySem.W.fnOf x qual (jby st) (jaU st) (jag st) (.ref T) kV doc pm an cdv ct) ⟨us,[]⟩=seqItems? (.ref T)>>=k/\k (some dfl.toArray)=pure (ps.zip (us++ds))):Binds K fd ps ds:=by
 obtain ⟨oc,od,T,kV,doc,pm,an,cdv,ct,osl,_,_,_,_,rfl,lk,hcd,ht⟩:=F.ex
 intro s us X hl
 obtain ⟨k,h1,h2⟩:=h T kV doc pm an cdv ct us hl
 exact PySem.W.binds_K X rfl ht rfl h1 h2
theorem funD_mk {oc:Value} {od an:Option Addr} {osl:Array (Option Value)} {T:Addr} {kV doc pm cdv ct tc:Value} {td:Option Addr} {tn:Nat} {tsl:Array (Option Value)} (l:K.lookup f=some ⟨oc,od,.func (PySem.W.fnOf x qual (jby st) (jaU st) (jag st) (.ref T) kV doc pm an cdv ct),osl⟩)
  (c:PySem.W.codeIn K cdv qual=true) (k:PySem.W.keepIn K (.ref f)=true) (t:K.lookup T=some ⟨tc,td,.seq dfl.toArray tn,tsl⟩):FunD K x qual st f (PySem.W.fnOf x qual (jby st) (jaU st) (jag st) (.ref T) kV doc pm an cdv ct) dfl :=
 ⟨⟨oc,od,T,kV,doc,pm,an,cdv,ct,osl,tc,td,tn,tsl,rfl,l,c,t⟩,k⟩
end
end L2
namespace Lf
open PySem L2
def SIGNS:Str:="abcdefghijklmnopqrstuvwxyzABCDEFGHIJKLMNOPQRSTUVWXYZ0123456789 .,:;-/()\n"
inductive Pc where
 | say (t:Str)
 | ask (n sg:Str) (lo hi:Int)
inductive Pie where
 | one (p:Pc)
 | rows (n:Str) (inner:List Pc) (gap:Str) (lo hi:Int)
def Pc.tup:Pc->List V
 | .say t=>[.str "say",.str t]
 | .ask n sg lo hi=>[.str "ask",.str n,.str sg,.int lo,.int hi]
def Pc.At (H:Hp) (p:Pc) (v:V):Prop:=∃ a,v=.ref a/\H a=some (.tup p.tup)
def Pie.At (H:Hp):Pie->V->Prop
 | .one p,v=>p.At H v
 | .rows n inner gap lo hi,v=>∃ a l vs,v=.ref a/\H a=some (.tup [.str "rows",.str n,.ref l,.str gap,.int lo,.int hi])/\H l=some (.lst vs)/\Paired (Pc.At H) inner vs
theorem Pc.At.mono {H H':Hp} (e:Same H H') {p:Pc} {v:V} (h:p.At H v):p.At H' v:=by
 obtain ⟨a,rfl,q⟩:=h
 exact ⟨a,rfl,e _ _ q⟩
theorem Pie.At.mono {H H':Hp} (e:Same H H'):∀ {p:Pie} {v:V},p.At H v->p.At H' v
 | .one p,v,h=>Pc.At.mono (p:=p) e h
 | .rows ..,v,⟨a,l,vs,h1,h2,h3,h4⟩=>⟨a,l,vs,h1,e _ _ h2,e _ _ h3,Paired.mapP h4 fun _ _ q=>q.mono e⟩
structure SignsOk (z:Str) (lo hi:Nat):Prop where
 lo:lo<=z.length
 hi:z.length<=hi
 all:∀ c∈z.cps.toList,c∈SIGNS.cps.toList
def Pc.ok:Pc->Prop
 | .say t=>SignsOk t 1 12
 | .ask n sg lo hi=>n≠""/\SignsOk sg 1 20/\(sgn sg).Nodup/\0<=lo/\lo<=hi/\hi<=4
def Pc.nm:Pc->List Str
 | .say _=>[]
 | .ask n ..=>[n]
structure PartsOk (ps:List Pc):Prop where
 lo:1<=ps.length
 hi:ps.length<=3
 all:∀ p∈ps,p.ok
 nd:(ps.flatMap Pc.nm).Nodup
def Pie.ok:Pie->Prop
 | .one p=>p.ok
 | .rows n inner gap lo hi=>n≠""/\PartsOk inner/\SignsOk gap 0 5/\0<=lo/\lo<=hi/\hi<=3
def Pie.nm:Pie->List Str
 | .one p=>p.nm
 | .rows n ..=>[n]
structure FormOk (ps:List Pie):Prop where
 lo:1<=ps.length
 hi:ps.length<=6
 all:∀ p∈ps,p.ok
 nd:(ps.flatMap Pie.nm).Nodup
structure Cl where
 (say ask rows form:Addr)
def Fld (H:Hp) (a C:Addr) (fs:List (Str×V)):Prop:=∃ dx l,H a=some (.ins C dx l)/\∀ p∈fs,l.lookup p.1=some p.2
def Pc.Obj (c:Cl) (H:Hp):Pc->V->Prop
 | .say t,v=>∃ a,v=.ref a/\Fld H a c.say [("text",.str t)]
 | .ask n sg lo hi,v=>∃ a,v=.ref a/\Fld H a c.ask [("name",.str n),("signs",.str sg),("least",.int lo),("most",.int hi)]
def Pie.AtF (H0 H:Hp):Pie->V->Prop
 | .one p,v=>p.At H v
 | .rows n inner gap lo hi,v=>∃ a l vs,v=.ref a/\H a=some (.tup [.str "rows",.str n,.ref l,.str gap,.int lo,.int hi])/\H l=some (.lst vs)/\H0 l=none/\Paired (Pc.At H) inner vs
def Pie.Obj (c:Cl) (H0 H:Hp):Pie->V->Prop
 | .one p,v=>p.Obj c H v
 | .rows n inner gap lo hi,v=>∃ a l vs,v=.ref a/\Fld H a c.rows [("name",.str n),("parts",.ref l),("gap",.str gap),("least",.int lo),("most",.int hi)]/\H l=some (.lst vs)/\H0 l=none/\Paired (Pc.Obj c H) inner vs
def FormAt (c:Cl) (H0 H:Hp) (ps:List Pie) (v:V):Prop:=∃ a l vs m us,v=.ref a/\Fld H a c.form [("plan",.ref l),("pieces",.ref m)]/\H l=some (.lst vs)/\H0 l=none/\Paired (Pie.Obj c H0 H) ps vs/\H m=some (.lst us)/\H0 m=none/\Paired (Pie.AtF H0 H) ps us
def jnz (H0 H H':Hp):Prop:=∀ b o,H b=some o->((∃ xs,o=.lst xs)->H0 b=none)->H' b=some o
theorem jgl {H0 H H':Hp} (e:Same H H'):jnz H0 H H':=fun b o h _=>e b o h
theorem Pc.At.keep {H0 H H':Hp} (e:jnz H0 H H') {p:Pc} {v:V} (h:p.At H v):p.At H' v:=by
 obtain ⟨a,rfl,q⟩:=h
 exact ⟨a,rfl,e _ _ q fun ⟨_,z⟩=>by cases z⟩
theorem Fld.keep {H0 H H':Hp} (e:jnz H0 H H') {a C:Addr} {fs:List (Str×V)} (h:Fld H a C fs):Fld H' a C fs:=by
 obtain ⟨dx,l,h1,h2⟩:=h
 exact ⟨dx,l,e _ _ h1 (fun ⟨_,z⟩=>by cases z),h2⟩
theorem Fld.mono {H H':Hp} (e:Same H H') {a C:Addr} {fs:List (Str×V)} (h:Fld H a C fs):Fld H' a C fs:=h.keep (H0:=H) (jgl e)
theorem Pc.Obj.keep {c:Cl} {H0 H H':Hp} (e:jnz H0 H H'):∀ {p:Pc} {v:V},p.Obj c H v->p.Obj c H' v
 | .say _,_,⟨a,h1,h2⟩=>⟨a,h1,h2.keep e⟩
 | .ask ..,_,⟨a,h1,h2⟩=>⟨a,h1,h2.keep e⟩
theorem Pie.Obj.keep {c:Cl} {H0 H H':Hp} (e:jnz H0 H H'):∀ {p:Pie} {v:V},p.Obj c H0 H v->p.Obj c H0 H' v
 | .one p,_,h=>Pc.Obj.keep (p:=p) e h
 | .rows ..,_,⟨a,l,vs,h1,h2,h3,h5,h4⟩=>⟨a,l,vs,h1,h2.keep e,e _ _ h3 (fun _=>h5),h5,Paired.mapP h4 fun _ _ q=>q.keep e⟩
theorem Pie.AtF.keep {H0 H H':Hp} (e:jnz H0 H H'):∀ {p:Pie} {v:V},p.AtF H0 H v->p.AtF H0 H' v
 | .one p,_,h=>Pc.At.keep (p:=p) e h
 | .rows ..,_,⟨a,l,vs,h1,h2,h3,h5,h4⟩=>⟨a,l,vs,h1,e _ _ h2 (fun ⟨_,z⟩=>by cases z),e _ _ h3 (fun _=>h5),h5,Paired.mapP h4 fun _ _ q=>q.keep e⟩
theorem FormAt.keep {c:Cl} {H0 H H':Hp} (e:jnz H0 H H') {ps:List Pie} {v:V} (h:FormAt c H0 H ps v):FormAt c H0 H' ps v:=by
 obtain ⟨a,l,vs,m,us,h1,h2,h3,hl,h4,h5,hm,h6⟩:=h
 exact ⟨a,l,vs,m,us,h1,h2.keep e,e _ _ h3 (fun _=>hl),hl,Paired.mapP h4 fun _ _ q=>q.keep e,e _ _ h5 (fun _=>hm),hm,Paired.mapP h6 fun _ _ q=>q.keep e⟩
theorem Pc.Obj.mono {c:Cl} {H H':Hp} (e:Same H H') {p:Pc} {v:V} (h:p.Obj c H v):p.Obj c H' v:=h.keep (H0:=H) (jgl e)
theorem Pie.Obj.mono {c:Cl} {H0 H H':Hp} (e:Same H H') {p:Pie} {v:V} (h:p.Obj c H0 H v):p.Obj c H0 H' v:=h.keep (jgl e)
theorem Pie.AtF.mono {H0 H H':Hp} (e:Same H H') {p:Pie} {v:V} (h:p.AtF H0 H v):p.AtF H0 H' v:=h.keep (jgl e)
theorem FormAt.mono {c:Cl} {H0 H H':Hp} (e:Same H H') {ps:List Pie} {v:V} (h:FormAt c H0 H ps v):FormAt c H0 H' ps v:=h.keep (jgl e)
theorem jmw {H H':Hp} (e:Same H H') {a:Addr} (h:H' a=none):H a=none:=e.free h
theorem Pie.Obj.older {c:Cl} {H0 H1 H:Hp} (e:Same H0 H1):∀ {p:Pie} {v:V},p.Obj c H1 H v->p.Obj c H0 H v
 | .one p,_,h=>h
 | .rows ..,_,⟨a,l,vs,h1,h2,h3,h5,h4⟩=>⟨a,l,vs,h1,h2,h3,jmw e h5,h4⟩
theorem Pie.AtF.older {H0 H1 H:Hp} (e:Same H0 H1):∀ {p:Pie} {v:V},p.AtF H1 H v->p.AtF H0 H v
 | .one p,_,h=>h
 | .rows ..,_,⟨a,l,vs,h1,h2,h3,h5,h4⟩=>⟨a,l,vs,h1,h2,h3,jmw e h5,h4⟩
abbrev Row:=Str->Option Str
inductive Val where
 | text (t:Str)
 | rows (rs:List Row)
abbrev Vs:=Str->Option Val
def RowAt (H:Hp) (f:Row) (v:V):Prop:=∃ a kvs,v=.ref a/\Rd H a (.dK kvs)/\∀ n t,f n=some t->jbt kvs (Sum.inr n)=some (.str t)
def ValAt (H:Hp):Val->V->Prop
 | .text t,v=>v=.str t
 | .rows rs,v=>∃ l vs,v=.ref l/\H l=some (.lst vs)/\Paired (RowAt H) rs vs
def VsAt (H:Hp) (F:Vs) (v:V):Prop:=∃ a kvs,v=.ref a/\Rd H a (.dK kvs)/\∀ n x,F n=some x->∃ u,jbt kvs (Sum.inr n)=some u/\ValAt H x u
theorem Rd.mono {H H':Hp} (e:Same H H') {a:Addr} {u:HO} (h:Rd H a u):Rd H' a u:=by
 rcases h with h | ⟨o,h⟩
 ·exact .inl (e _ _ h)
 ·exact .inr ⟨o,e _ _ h⟩
theorem RowAt.mono {H H':Hp} (e:Same H H') {f:Row} {v:V} (h:RowAt H f v):RowAt H' f v:=by
 obtain ⟨a,kvs,h1,h2,h3⟩:=h
 exact ⟨a,kvs,h1,Rd.mono e h2,h3⟩
theorem ValAt.mono {H H':Hp} (e:Same H H'):∀ {x:Val} {v:V},ValAt H x v->ValAt H' x v
 | .text _,_,h=>h
 | .rows _,_,⟨l,vs,h1,h2,h3⟩=>⟨l,vs,h1,e _ _ h2,Paired.mapP h3 fun _ _ q=>q.mono e⟩
theorem VsAt.mono {H H':Hp} (e:Same H H') {F:Vs} {v:V} (h:VsAt H F v):VsAt H' F v:=by
 obtain ⟨a,kvs,h1,h2,h3⟩:=h
 refine ⟨a,kvs,h1,Rd.mono e h2,fun n x q=>?_⟩
 obtain ⟨u,h4,h5⟩:=h3 n x q
 exact ⟨u,h4,h5.mono e⟩
structure Fits (sg:Str) (lo hi:Int) (t:Str):Prop where
 lo:lo<=t.length
 hi:(t.length:Int)<=hi
 all:∀ c∈t.cps.toList,c∈sg.cps.toList
def jgW (f:Row):Pc->Prop
 | .say _=>True
 | .ask n sg lo hi=>∃ t,f n=some t/\Fits sg lo hi t
def jgm (ps:List Pc) (f:Row):Prop:=∀ p∈ps,jgW f p
def jdY (F:Vs):Pie->Prop
 | .one (.say _)=>True
 | .one (.ask n sg lo hi)=>∃ t,F n=some (.text t)/\Fits sg lo hi t
 | .rows n inner _ lo hi=>∃ rs,F n=some (.rows rs)/\lo<=(rs.length:Int)/\(rs.length:Int)<=hi/\∀ f∈rs,jgm inner f
def cat (l:List Str):Str:=Str.join Str.empty l
def wPc (f:Row):Pc->Str
 | .say t=>t
 | .ask n ..=>(f n).getD Str.empty
def jgI (ps:List Pc) (f:Row):Str:=cat (ps.map (wPc f))
def jgn (F:Vs):Pie->Str
 | .one (.say t)=>t
 | .one (.ask n ..)=>match F n with | some (.text t)=>t | _=>Str.empty
 | .rows n inner gap ..=>match F n with | some (.rows rs)=>Str.join gap (rs.map (jgI inner)) | _=>Str.empty
def jiL (ps:List Pie) (F:Vs):Str:=cat (ps.map (jgn F))
end Lf
namespace L2
open PySem PySem.Spec PyProof.Rows
open AutoSeq1 (wpAny_loadPart')
open MeetsSeq MeetsSeq2 MeetsSeq3 SeqRoads2
def CmI (prog:Program) (w:World) (A:Around) (s:Shared) (y x:Value) (k:Bool):Prop:=∀ (E:Value->Shared->Prop) (Q:Bool->Shared->Prop),Q k s->wpAny (model prog w) A (eqBool y x) Q E s
section
variable {prog:Program} {w:World} {A:Around} {s:Shared}
theorem CmI.of {y x:Value} {k:Bool} (h:SeqAt.EqAt A s y x k):CmI prog w A s y x k:=fun E Q q=>h prog w E Q q
theorem CmI.refs {l b:Addr} {k:Bool} (hk:l=b->k=true) (h:l≠b->RcI prog w .Eq A s (.ref l) (.ref b) k):CmI prog w A s (.ref l) (.ref b) k:=fun E Q q=>by
 by_cases e:l=b
 ·rw [hk e] at q
  subst e; exact SeqAt.EqAt.same _ prog w E Q q
 ·unfold eqBool
  refine wpAny_holding (wpAny_ite_split (fun hab=>absurd (by have:=eq_of_beq hab; injection this) e) (fun _=>?_))
  exact wpAny_bind (h e E _ (wpAny_truthy_bool q))
def jbh (e:Nat->Bool) (i:Nat):Nat->Bool
 | 0=>true
 | n+1=>e i&&jbh e (i+1) n
theorem jlJ (l b:Addr) (xs ys:Array Value) (n n2:Nat) (dd dd2:Option Addr) (sl sl2:Array (Option Value)) (e:Nat->Bool) (hsz:xs.size=ys.size) (k:Nat) :
  ∀ i:Nat,xs.size - i=k->MeetsIn prog w (Builtin.«list.__eq__.loop» ⟨[.ref l,.ref b,rawInt i,rawInt 2],[]⟩)
   (fun A R s=>s.heap.get? l=some ⟨.type "list",dd,.seq xs n,sl⟩/\s.heap.get? b=some ⟨.type "list",dd2,.seq ys n2,sl2⟩/\(∀ j (h1:j < xs.size) (h2:j < ys.size),CmI prog w A.in1 s xs[j] ys[j] (e j))/\R (.ok (.ret (.bool (jbh e i k)))) s):=by
 induction k with
 | zero =>
  intro i hk A R s h
  obtain ⟨hp,g,d,tk,os⟩:=s
  obtain ⟨hl,hb,he,h⟩:=h
  have i1:xs[((i:Nat):Int).toNat]?=none:=by simp; omega
  have i2:ys[((i:Nat):Int).toNat]?=none:=by simp; omega
  wp_walk using wpAny_loadPart' hl,wpAny_loadPart' hb
  rw [i1,i2]
  wp_walk using wpAny_loadPart' hl,wpAny_loadPart' hb
  show R (.ok (.ret (.bool (xs.size==ys.size)))) _
  rw [hsz]
  simpa [jbh] using h
 | succ k ih =>
  intro i hk A R s h
  obtain ⟨hp,g,d,tk,os⟩:=s
  obtain ⟨hl,hb,he,h⟩:=h
  have hlt:i < xs.size:=by omega
  have hlt2:i < ys.size:=by omega
  have i1:xs[((i:Nat):Int).toNat]?=some xs[i]:=by simp [hlt]
  have i2:ys[((i:Nat):Int).toNat]?=some ys[i]:=by simp [hlt2]
  have hc:((i:Int)+1)=((i+1:Nat):Int):=by push_cast; rfl
  wp_walk using wpAny_loadPart' hl,wpAny_loadPart' hb
  rw [i1,i2]
  refine wpAny_bind (he i hlt hlt2 _ _ ?_)
  cases hei:e i with
  | true =>
   wp_walk
   rw [hc]
   refine ⟨plainId_quiet plain_eq_loop _,codeAny_builtin entry_eq_loop ?_⟩
   rw [Around.under_plainId plain_eq_loop _]
   refine ih (i+1) (by omega) A R _ ⟨hl,hb,he,?_⟩
   rw [jbh,hei,Bool.true_and] at h
   exact h
  | false =>
   rw [jbh,hei,Bool.false_and] at h
   wp_walk using wpAny_loadPart' hl,wpAny_loadPart' hb
   rw [i1,i2]
   exact wpAny_pure h
theorem jjM {l b:Addr} {xs ys:Array Value} {e:Nat->Bool} (hl:s.heap.IsList l xs) (hb:s.heap.IsList b ys) (hsz:xs.size=ys.size) (hu:A.units < cLine) (he:∀ j (h1:j < xs.size) (h2:j < ys.size),CmI prog w A.in1 s xs[j] ys[j] (e j)) :
  RcI prog w .Eq A s (.ref l) (.ref b) (jbh e 0 xs.size):=by
 obtain ⟨⟨cls,dd,data,sl⟩,ho,hc,n,hd⟩:=id hl
 obtain ⟨⟨cls2,dd2,data2,sl2⟩,ho2,hc2,n2,hd2⟩:=id hb
 simp only at hc hd hc2 hd2
 subst hc hd hc2 hd2
 have f3:=AutoSeq1.sub_list_list
 have hne:¬ (xs.size != ys.size)=true:=by simp [hsz]
 intro E Q q
 refine wpAny_richCompare_same_room (op:=.Eq) ⟨_,ho,rfl⟩ ⟨_,ho2,rfl⟩ PySem.F.slot_list_eq (call_meetsIn PySem.F.slot_list_eq ⟨_,ho,rfl⟩ PySem.F.entry_list_eq (PySem.F.args_list_eq_2 _ _) (S:=fun A R s=>s.heap.get? l=some ⟨.type "list",dd,.seq xs n,sl⟩/\s.heap.get? b=some ⟨.type "list",dd2,.seq ys n2,sl2⟩/\(∀ j (h1:j < xs.size) (h2:j < ys.size),CmI prog w A.in1 s xs[j] ys[j] (e j))/\R (.ok (.ret (.bool (jbh e 0 xs.size)))) s) (fun A R s h=>?_) ⟨ho,ho2,he,(show Value.bool (jbh e 0 xs.size)≠Value.notImplemented/\Q (.bool (jbh e 0 xs.size)) s from ⟨(fun x=>nomatch x),q⟩)⟩) hu
 obtain ⟨hp,g,d,tk,os⟩:=s
 obtain ⟨hl,hb,he,h⟩:=h
 wp_walk using wpAny_loadPart' hl,wpAny_loadPart' hb
 refine ⟨plainId_quiet plain_eq_loop _,codeAny_builtin entry_eq_loop ?_⟩
 rw [Around.under_plainId plain_eq_loop _]
 exact jlJ l b xs ys n n2 dd dd2 sl sl2 e hsz _ 0 rfl A R _ ⟨hl,hb,he,h⟩
theorem jiM {l b:Addr} {xs ys:Array Value} (hl:s.heap.IsList l xs) (hb:s.heap.IsList b ys) (hsz:xs.size≠ys.size) (hu:A.units < cLine):RcI prog w .Eq A s (.ref l) (.ref b) false:=by
 obtain ⟨⟨cls,dd,data,sl⟩,ho,hc,n,hd⟩:=id hl
 obtain ⟨⟨cls2,dd2,data2,sl2⟩,ho2,hc2,n2,hd2⟩:=id hb
 simp only at hc hd hc2 hd2
 subst hc hd hc2 hd2
 have f3:=AutoSeq1.sub_list_list
 have hne:(xs.size != ys.size)=true:=by simpa using hsz
 intro E Q q
 refine wpAny_richCompare_same_room (op:=.Eq) ⟨_,ho,rfl⟩ ⟨_,ho2,rfl⟩ PySem.F.slot_list_eq (call_meetsIn PySem.F.slot_list_eq ⟨_,ho,rfl⟩ PySem.F.entry_list_eq (PySem.F.args_list_eq_2 _ _) (S:=fun A R s=>s.heap.get? l=some ⟨.type "list",dd,.seq xs n,sl⟩/\s.heap.get? b=some ⟨.type "list",dd2,.seq ys n2,sl2⟩/\R (.ok (.ret (.bool false))) s) (fun A R s h=>?_) ⟨ho,ho2,(show Value.bool false≠Value.notImplemented/\Q (.bool false) s from ⟨(fun x=>nomatch x),q⟩)⟩) hu
 obtain ⟨hp,g,d,tk,os⟩:=s
 obtain ⟨hl,hb,h⟩:=h
 wp_walk using wpAny_loadPart' hl,wpAny_loadPart' hb
 exact h
theorem jeR {α:Type} {l:List α} {f:α->Bool} {x:α} (h:x∈l) (hf:f x=false):l.all f=false:=by
 cases hq:l.all f with
 | false=>rfl
 | true =>
  rw [List.all_eq_true] at hq
  rw [hq x h] at hf; cases hf
theorem jjN {K:Type} [DecidableEq K] {knd:KeyKind prog w K} {E:Value->Shared->Prop} {nm:String} {a b:Addr} {ka kb:List (K×Value)} {e:K->Bool} {Q:Bool->Shared->Prop} (ha:(a==sysModules)=false) (hb:(b==sysModules)=false) (da:s.heap.DictOf knd a ka) (db:s.heap.DictOf knd b kb)
  (hlen:ka.length=kb.length) (hits:∀ k v,(k,v)∈ka->(valueAt kb k=none/\e k=false)\/∃ y,valueAt kb k=some y/\CmI prog w A s v y (e k)) (h:Q (ka.all fun kv=>e kv.1) s):wpAny (model prog w) A (Builtin.Dict.samePairs nm a b) Q E s:=by
 obtain ⟨oa,es,ep,hoa,_,hda,hka,hpa,_⟩:=da
 obtain ⟨ob,es',ep',hob,_,hdb,hkb,hpb,_⟩:=db
 have la:ka.length=es.size:=by rw [<- hpa.length]; exact Array.length_toList
 have lb:kb.length=es'.size:=by rw [<- hpb.length]; exact Array.length_toList
 have hsz:es.size=es'.size:=by rw [<- la,<- lb]; exact hlen
 have hfind:∀ k,findBy knd.is es' k=valueAt kb k:=fun k=>by
  rw [<- hpb.find k]
  clear lb hpb hkb hdb hob hsz
  obtain ⟨l⟩:=es'
  simp [findBy]
 unfold Builtin.Dict.samePairs Builtin.Dict.showsAll
 rw [if_neg (show ¬ (a==sysModules)=true by rw [ha]; exact Bool.false_ne_true),if_neg (show ¬ (b==sysModules)=true by rw [hb]; exact Bool.false_ne_true)]
 refine wpAny_bind (wpAny_pure (wpAny_bind (wpAny_pure (wpAny_bind (wpAny_dictEntries hoa hda ?_)))))
 dsimp only
 refine wpAny_bind (wpAny_dictEntries hob hdb ?_)
 rw [if_neg (by rw [hsz]; simp)]
 refine wpAny_bind (wpAny_dictEpoch hoa hda (wpAny_bind ?_))
 rw [Std.Legacy.Range.forIn_eq_forIn_range']
 simp only [Std.Legacy.Range.size,Nat.sub_zero,Nat.add_sub_cancel,Nat.div_one]
 refine wpAny_forIn_list _ (fun rest q s'=>s'=s/\q=(none,())/\∃ i,rest=List.range' i (es.size - i)/\i<=es.size/\∀ kv∈ka.take i,e kv.1=true) _ ?_ ?_ _ _ ⟨rfl,rfl,0,by simp,Nat.zero_le _,by simp⟩
 ·rintro x rest q s' ⟨rfl,rfl,i,hr,hi,hall⟩
  have hlt:i < es.size:=by
   rcases Nat.lt_or_ge i es.size with z | z
   ·exact z
   ·rw [Nat.sub_eq_zero_of_le z] at hr; simp at hr
  obtain ⟨rfl,hrest⟩:x=i/\rest=List.range' (i+1) (es.size - (i+1)):=by
   rw [show es.size - i=(es.size - (i+1))+1 by omega,List.range'_succ] at hr
   injection hr with h1 h2
   exact ⟨h1,h2⟩
  refine wpAny_bind (wpAny_dictEntries hoa hda ?_)
  rw [Array.getElem?_eq_getElem hlt]
  have hlt':x < ka.length:=by rw [la]; exact hlt
  obtain ⟨k,v,hkv⟩:∃ k v,ka[x]=(k,v):=⟨_,_,rfl⟩
  have hmem:(k,v)∈ka:=by rw [<- hkv]; exact List.getElem_mem hlt'
  obtain ⟨hkey,hval⟩:=hpa.get? (i:=x) (e:=es[x]) (k:=k) (v:=v) (by rw [Array.getElem?_toList]; exact Array.getElem?_eq_getElem hlt) (by rw [List.getElem?_eq_getElem hlt',hkv])
  obtain ⟨k',hk',hh⟩:=hka es[x] (Array.getElem_mem hlt)
  have ekk:k'=k:=knd.inj _ _ _ hk' hkey
  rw [ekk] at hh
  show wpAny _ _ (holding [es[x].key,es[x].val] _>>=_) _ _ _
  rw [hh]
  refine wpAny_bind (wpAny_holding (wpAny_bind (wpAny_dictFind_of hkey hob hdb hkb ?_)))
  rcases hits k v hmem with ⟨hn,hek⟩ | ⟨y,hy,he⟩
  ·cases hj:es'.findIdx? fun e=>knd.is k e.key with
   | none =>
    rw [jeR (f:=fun kv=>e kv.1) hmem hek] at h
    exact wpAny_pure (wpAny_pure (wpAny_pure h))
   | some j =>
    obtain ⟨hjlt,_,_⟩:=Array.findIdx?_eq_some_iff_getElem.mp hj
    have hv':valueAt kb k=some es'[j].val:=by
     rw [<- hfind k,findBy_of_findIdx?,hj]
     simp [Array.getElem?_eq_getElem hjlt]
    rw [hn] at hv'; cases hv'
  ·cases hj:es'.findIdx? fun e=>knd.is k e.key with
   | none =>
    have hn:valueAt kb k=none:=by rw [<- hfind k,findBy_of_findIdx?,hj]
    rw [hn] at hy
    cases hy
   | some j =>
    obtain ⟨hjlt,_,_⟩:=Array.findIdx?_eq_some_iff_getElem.mp hj
    have hv':valueAt kb k=some es'[j].val:=by
     rw [<- hfind k,findBy_of_findIdx?,hj]
     simp [Array.getElem?_eq_getElem hjlt]
    refine wpAny_bind (wpAny_dictEntries hob hdb ?_)
    rw [Array.getElem?_eq_getElem hjlt]
    have ey:es'[j].val=y:=Option.some.inj (hv'.symm.trans hy)
    rw [<- ey,<- hval] at he
    refine wpAny_holding (he _ _ ?_)
    cases hek:e k with
    | true =>
     show wpAny _ _ (if (!true)=true then _ else _) _ _ _
     rw [if_neg (by decide)]
     refine wpAny_bind (wpAny_dictEpoch hoa hda ?_)
     rw [if_neg (by simp)]
     refine wpAny_pure ⟨rfl,rfl,x+1,hrest,hlt,fun kv hm=>?_⟩
     rw [List.take_add_one,List.getElem?_eq_getElem hlt',hkv] at hm
     rcases List.mem_append.mp hm with z | z
     ·exact hall kv z
     ·have:kv=(k,v):=by simpa using z
      rw [this]; exact hek
    | false =>
     show wpAny _ _ (if (!false)=true then _ else _) _ _ _
     rw [if_pos (by decide)]
     rw [jeR (f:=fun kv=>e kv.1) hmem hek] at h
     exact wpAny_pure (wpAny_pure h)
 ·rintro q s' ⟨rfl,rfl,i,hr,hi,hall⟩
  have hi':i=es.size:=by
   have:=congrArg List.length hr
   simp at this
   omega
  have:(ka.all fun kv=>e kv.1)=true:=by
   rw [List.all_eq_true]
   intro kv hm
   refine hall kv ?_
   rw [hi',<- la,List.take_length]; exact hm
  rw [this] at h
  exact wpAny_pure h
theorem jjO {K:Type} [DecidableEq K] {knd:KeyKind prog w K} {a b:Addr} {ka kb:List (K×Value)} {e:K->Bool} (ha:(a==sysModules)=false) (hb:(b==sysModules)=false) (da:s.heap.DictOf knd a ka) (db:s.heap.DictOf knd b kb)
  (hlen:ka.length=kb.length) (hu:A.units < cLine) (hits:∀ k v,(k,v)∈ka->(valueAt kb k=none/\e k=false)\/∃ y,valueAt kb k=some y/\CmI prog w A.in1 s v y (e k)):RcI prog w .Eq A s (.ref a) (.ref b) (ka.all fun kv=>e kv.1):=by
 intro E Q q
 refine wpAny_richCompare_same_room (op:=.Eq) da.typeIs db.typeIs PySem.F.slot_dict_eq (wpAny_call_entry PySem.F.slot_dict_eq da.typeIs PySem.F.entry_dict_eq ?_ (PySem.F.args_dict_eq_2 _ _)) hu
 show wpAny _ _ (Builtin.Dict.dictSlotArgs "__eq__" ⟨[.ref a,.ref b],[]⟩>>=_) _ _ s
 refine wpAny_bind ?_
 unfold Builtin.Dict.dictSlotArgs
 refine wpAny_bind (wpAny_notOrdered_dict da.typeIs ?_)
 show wpAny _ _ (pure (Value.ref a,Value.ref b)) _ _ s
 refine wpAny_pure (wpAny_bind (wpAny_isInstance (T:="dict") db.typeIs PySem.F.sub_dict_dict ?_))
 simp only [Bool.not_true,Bool.false_eq_true,if_false]
 refine wpAny_bind (wpAny_pure (wpAny_bind (wpAny_pure (wpAny_bind (jjN ha hb da db hlen hits ?_)))))
 refine wpAny_pure ⟨_,rfl,(fun x=>nomatch x),?_⟩
 rw [show ((ka.all fun kv=>e kv.1)==true)=(ka.all fun kv=>e kv.1) by cases (ka.all fun kv=>e kv.1) <;> rfl]
 exact q
end
def CmL (K:PySem.W.Frag) (H:Hp) (R:V->V->Bool->Prop) (x y:V) (b:Bool):Prop:=∃ p q xs ys,x=.ref p/\y=.ref q/\SqL K H p xs/\SqL K H q ys/\(p=q->b=true) /\
 ((xs.length≠ys.length/\b=false)\/(xs.length=ys.length/\∃ e:Nat->Bool,(∀ j x' y',xs[j]?=some x'->ys[j]?=some y'->R x' y' (e j))/\b=jbh e 0 xs.length))
def CmK (H:Hp) (R:V->V->Bool->Prop) (x y:V) (b:Bool):Prop:=∃ p q ka kb,x=.ref p/\y=.ref q/\Rd H p (.dK ka)/\Rd H q (.dK kb)/\(p=q->b=true)/\ka.length=kb.length /\
 ∃ e:Key->Bool,(∀ k v,(k,v)∈ka->(jbt kb k=none/\e k=false)\/∃ v',jbt kb k=some v'/\R v v' (e k))/\b=ka.all fun kv=>e kv.1
def CmD (K:PySem.W.Frag) (H:Hp):Nat->V->V->Bool->Prop
 | 0,x,y,b=>∃ i j,x=.str i/\y=.str j/\b=(i==j)
 | n+1,x,y,b=>CmD K H n x y b\/CmL K H (CmD K H n) x y b\/CmK H (CmD K H n) x y b
section
variable {X:Cx} {pins:List (Addr×Obj)} {σ:St} {H:Hp} {s:Shared}
theorem joR {R:V->V->Bool->Prop} {A:Around} {x y:V} {u v:Value} {b:Bool} (I:Inv X pins σ H s) (hu:A.units < cLine) (ih:∀ {x y:V} {u v:Value} {b:Bool},R x y b->RelV x u->RelV y v->CmI X.prog X.w A.in1 s u v b) (h:CmL X.K H R x y b) (rx:RelV x u) (ry:RelV y v) :
  ∃ p q,u=.ref p/\v=.ref q/\(p=q->b=true)/\RcI X.prog X.w .Eq A s (.ref p) (.ref q) b:=by
 obtain ⟨p,q,xs,ys,rfl,rfl,ha,hb,hpq,h⟩:=h
 cases rx; cases ry
 obtain ⟨ia,ra,pa,_⟩:=I.list ha
 obtain ⟨ib,rb,pb,_⟩:=I.list hb
 refine ⟨p,q,rfl,rfl,hpq,?_⟩
 rcases h with ⟨hne,rfl⟩ | ⟨hl,e,he,rfl⟩
 ·exact jiM pa.isList pb.isList (by rw [List.size_toArray,List.size_toArray,<- ra.length,<- rb.length]; exact hne) hu
 ·have hsz:ia.toArray.size=ib.toArray.size:=by rw [List.size_toArray,List.size_toArray,<- ra.length,<- rb.length]; exact hl
  have hxs:xs.length=ia.toArray.size:=by rw [List.size_toArray]; exact ra.length
  rw [hxs]
  refine jjM pa.isList pb.isList hsz hu fun j j1 j2=>?_
  have j1':j < ia.length:=by simpa using j1
  have j2':j < ib.length:=by simpa using j2
  have k1:j < xs.length:=by rw [ra.length]; exact j1'
  have k2:j < ys.length:=by rw [rb.length]; exact j2'
  obtain ⟨u1,e1,r1⟩:=ra.get (List.getElem?_eq_getElem k1)
  obtain ⟨u2,e2,r2⟩:=rb.get (List.getElem?_eq_getElem k2)
  have g1:ia.toArray[j]=u1:=by
   have:ia[j]?=some ia[j]:=List.getElem?_eq_getElem j1'
   rw [e1] at this
   simpa using (Option.some.inj this).symm
  have g2:ib.toArray[j]=u2:=by
   have:ib[j]?=some ib[j]:=List.getElem?_eq_getElem j2'
   rw [e2] at this
   simpa using (Option.some.inj this).symm
  rw [g1,g2]
  exact ih (he j _ _ (List.getElem?_eq_getElem k1) (List.getElem?_eq_getElem k2)) r1 r2
theorem jmx {R:V->V->Bool->Prop} {A:Around} {x y:V} {u v:Value} {b:Bool} (I:Inv X pins σ H s) (hu:A.units < cLine) (ih:∀ {x y:V} {u v:Value} {b:Bool},R x y b->RelV x u->RelV y v->CmI X.prog X.w A.in1 s u v b) (h:CmK H R x y b) (rx:RelV x u) (ry:RelV y v) :
  ∃ p q,u=.ref p/\v=.ref q/\(p=q->b=true)/\RcI X.prog X.w .Eq A s (.ref p) (.ref q) b:=by
 obtain ⟨p,q,ka,kb,rfl,rfl,ha,hb,hpq,hl,e,he,rfl⟩:=h
 cases rx; cases ry
 obtain ⟨za,ma,va,qa,da⟩:=jdU I.hok ha
 obtain ⟨zb,mb,vb,qb,db⟩:=jdU I.hok hb
 refine ⟨p,q,rfl,rfl,hpq,?_⟩
 have eall:(ka.all fun kv=>e kv.1)=(va.all fun kv=>e kv.1):=by
  clear hpq hl he da db ha za
  induction qa with
  | nil=>rfl
  | cons r t ih2 =>
   rw [List.all_cons,List.all_cons,r.1]
   rw [ih2]
 rw [eall]
 refine jjO ma mb da db (by rw [<- qa.length,<- qb.length]; exact hl) hu fun k u hm=>?_
 obtain ⟨v,hv,rv⟩:=jjI qa hm
 rcases he k v hv with ⟨h1,h2⟩ | ⟨v',e',q'⟩
 ·left
  refine ⟨?_,h2⟩
  have:=qb.val k
  rw [h1] at this
  cases hv:valueAt vb k with
  | none=>rfl
  | some y=>rw [hv] at this; exact this.elim
 ·obtain ⟨y,ey,ry⟩:=RelO.some_of (v:=v') (o:=valueAt vb k) (by rw [<- e']; exact qb.val k)
  exact .inr ⟨y,ey,ih q' rv ry⟩
theorem jjP (I:Inv X pins σ H s):∀ (n:Nat) {x y:V} {u v:Value} {A:Around} {b:Bool},CmD X.K H n x y b->RelV x u->RelV y v->A.units+n < cLine->CmI X.prog X.w A s u v b
 | 0,x,y,u,v,A,b,h,rx,ry,hu=>by
  obtain ⟨i,j,rfl,rfl,rfl⟩:=h
  obtain ⟨t,rfl⟩:=rx
  obtain ⟨t',rfl⟩:=ry
  exact CmI.of (SeqAt.EqAt.str_str (A:=A) (s:=s) i t j t')
 | n+1,x,y,u,v,A,b,h,rx,ry,hu=>by
  have ih:∀ {x y:V} {u v:Value} {b:Bool},CmD X.K H n x y b->RelV x u->RelV y v->CmI X.prog X.w A.in1 s u v b:=fun {x y u v b} h rx ry=>jjP I n h rx ry (by show A.units+1+n < cLine; omega)
  rcases h with h | h | h
  ·exact jjP I n h rx ry (by omega)
  ·obtain ⟨p,q,rfl,rfl,hpq,hr⟩:=joR I (by omega) ih h rx ry
   exact CmI.refs hpq fun _=>hr
  ·obtain ⟨p,q,rfl,rfl,hpq,hr⟩:=jmx I (by omega) ih h rx ry
   exact CmI.refs hpq fun _=>hr
def rCmK (X:Cx):R2:=fun x y H Q=>∃ n b,X.A.units+n+1 < cLine/\CmK H (CmD X.K H n) x y b/\Q (.bl b) H
theorem joS:OpR X (compareOp .Eq) (rCmK X):=by
 intro pins s σ H x y v u Q I rx ry h
 obtain ⟨n,b,hu,h,q⟩:=h
 obtain ⟨p,c,rfl,rfl,_,hr⟩:=jmx (A:=X.A) I (by omega) (fun {x y u v b} h rx ry=>jjP I n h rx ry (by show X.A.units+1+n < cLine; omega)) h rx ry
 exact hr _ _ ⟨.bl b,H,I,rfl,q⟩
end
section
variable {prog:Program} {w:World} {A:Around} {E:Value->Shared->Prop} {s:Shared}
end
section
variable {X:Cx} {pins:List (Addr×Obj)} {σ:St} {H:Hp} {s:Shared}
end
theorem jjQ:∀ {ts:List Str} {us:List Value},Vals (ts.map V.str) us->StrsAre us ts
 | [],_,.nil=>.nil
 | t::ts,_,.cons r q=>by
  obtain ⟨k,rfl⟩:=r
  exact .cons t k (jjQ q)
theorem jgX:∀ {us:List Value} {ts:List Str},StrsAre us ts->Vals (ts.map V.str) us
 | _,_,.nil=>.nil
 | _,_,.cons x t h=>.cons ⟨t,rfl⟩ (jgX h)
def leS (a b:Str):Prop:=¬ b.cps.toList < a.cps.toList
theorem joT {a b:Str} (h:(!ltCps b.cps.toList a.cps.toList)=true):leS a b:=fun z=>by
 rw [ltCps_eq,decide_eq_true z] at h; cases h
theorem jgo:∀ {l:List Str} {p:Str},risingS p l=true->(p::l).Pairwise leS
 | [],p,_=>List.pairwise_singleton _ _
 | x::r,p,h=>by
  have h':(!ltCps x.cps.toList p.cps.toList&&risingS x r)=true:=h
  rw [Bool.and_eq_true] at h'
  have ih:=jgo h'.2
  have px:=joT h'.1
  refine List.pairwise_cons.mpr ⟨fun y hy=>?_,ih⟩
  rcases List.mem_cons.mp hy with rfl | z
  ·exact px
  ·exact List.le_trans (l₁:=p.cps.toList) (l₂:=x.cps.toList) px ((List.pairwise_cons.mp ih).1 y z)
theorem jgp:∀ {l:List Str},sortedS l=true->l.Pairwise leS
 | [],_=>.nil
 | _::_,h=>jgo h
theorem jeS {a b c:List Str} (h1:a.Perm c) (s1:sortedS a=true) (h2:b.Perm c) (s2:sortedS b=true):a=b :=
 List.Perm.eq_of_pairwise (fun x y _ _ h h'=>by
  have e:x.cps.toList=y.cps.toList:=List.le_antisymm (by exact h) (by exact h')
  cases x; cases y
  congr 1
  exact Array.toList_inj.mp e) (jgp s1) (jgp s2) (h1.trans h2.symm)
section
variable {X:Cx} {pins:List (Addr×Obj)} {σ:St} {H:Hp} {s:Shared}
def joU (H:Hp) (ts:List Str) (Q:VK):Prop:=ts.length < 64/\∀ l ts',H l=none->ts'.Perm ts->sortedS ts'=true->Q (.ref l) (upd H l (.lst (ts'.map V.str)))
theorem jeT:jcx X (.builtin "sorted") (fun xs H Q=>∃ p ts,xs=[.ref p]/\SqL X.K H p (ts.map V.str)/\joU H ts Q):=by
 intro pins s σ H xs us Q I r h
 obtain ⟨p,ts,rfl,hq,h64,q⟩:=h
 obtain ⟨u,rfl,rx⟩:=jdM r
 cases rx
 obtain ⟨its,r',pl,hz⟩:=I.list hq
 have hS:=jjQ r'
 have hl:its.length=ts.length:=by rw [<- r'.length,List.length_map]
 refine sorted_strs pl.isList hS (by omega) fun out ss h1 h2 h3=>?_
 obtain ⟨e,he⟩:=sortedAll_at s.heap its out
 refine ⟨.ref (s.heap.objs.size+1),_,I.laid (t':=s.toks) (fun _ _=>sortedAll_old) (Nat.le_succ _) (show ObjOk X.prog X.w _ _ _ (.lst (ss.map V.str)) from ⟨?_,out.toList,e,jgX h1,he⟩),rfl,q _ ss (I.hok.fresh (Nat.le_succ _)) h2 h3⟩
 rw [List.length_map,h2.length_eq]
 exact Nat.le_of_lt (jbs (by omega))
theorem jnA {n:Str} {v:Value} (h:(jaD X.prog X.w).is (Sum.inr n) v=true):∃ t,v=.str n t:=Value.isStrOf_shape h
theorem jeU (hc:X.calm=true):jcx X (.builtin "sorted") (fun xs H Q=>∃ p kvs ts,xs=[.ref p]/\Rd H p (.dK kvs)/\kvs.map (·.1)=ts.map Sum.inr/\joU H ts Q):=by
 intro pins s σ H xs us Q I r h
 obtain ⟨p,kvs,ts,rfl,hd,ek,h64,q⟩:=h
 obtain ⟨u,rfl,rx⟩:=jdM r
 cases rx
 obtain ⟨hz,lo,vs,qv,dd⟩:=jdU I.hok hd
 obtain ⟨ep,hat⟩:=dd.dictAt
 have hvl:vs.length=ts.length:=by rw [<- qv.length,<- List.length_map (f:=(·.1)),ek,List.length_map]
 have hkv:vs.map (·.1)=ts.map Sum.inr:=by
  rw [<- ek]
  clear hvl hat dd hd hz ek
  induction qv with
  | nil=>rfl
  | cons a _ ih=>rw [List.map_cons,List.map_cons,ih,a.1]
 refine Calls.call_function_entry kind_sorted plain_sorted entry_sorted (args_sorted1 _) ?_
 unfold Builtin.«sorted»
 refine wpAny_bind (m:=checkCount "sorted" 1 1 _) (wpAny_pure ?_)
 have hn:vs.length<=sizeLine:=by rw [hvl]; exact Nat.le_of_lt (jbs (by omega))
 refine wpAny_bind (PySem.W.kdu_collect (A:=X.A.in1) (PySem.W.kdl_dict (knd:=jaD X.prog X.w) (kvs:=vs) (ep:=ep) lo) (I.ok.hd hc) hat hn fun h' tk acc hk hacc=>?_)
 obtain ⟨ha,hi⟩:=hacc
 have hS:StrsAre acc.toList ts:=by
  have key:∀ (l:List Value) (ms:List Str),l.length=ms.length->(∀ (j:Nat) v,l[j]?=some v->∃ n,ms[j]?=some n/\∃ t,v=Value.str n t)->StrsAre l ms:=by
   intro l
   induction l with
   | nil=>intro ms e _; cases ms with | nil=>exact .nil | cons _ _=>cases e
   | cons v l ih =>
    intro ms e g
    cases ms with
    | nil=>cases e
    | cons m ms =>
     obtain ⟨n,en,t,rfl⟩:=g 0 v rfl
     cases en
     exact .cons m t (ih ms (by simpa using e) fun j v hj=>g (j+1) v hj)
  refine key _ _ (by rw [Array.length_toList,ha,hvl]) fun j v hj=>?_
  obtain ⟨k,x,h1,h2⟩:=hi j v (by rw [<- Array.getElem?_toList]; exact hj)
  have h3:(vs.map (·.1))[j]?=some k:=by rw [List.getElem?_map,h1]; rfl
  rw [hkv,List.getElem?_map] at h3
  cases hm:ts[j]? with
  | none=>rw [hm] at h3; cases h3
  | some n =>
   rw [hm] at h3
   cases h3
   exact ⟨n,rfl,jnA h2⟩
 have hl:acc.toList.length=ts.length:=by rw [Array.length_toList,ha,hvl]
 have hal:acc.toList.length<=sizeLine:=by rw [hl,<- hvl]; exact hn
 refine wpAny_bind (wpAny_newList ?_ hal)
 have hoL:(h'.push (seqObj "list" acc.toList.toArray 0)).get? h'.objs.size=some (seqObj "list" acc.toList.toArray 0):=Heap.get?_push_size _ rfl
 show wpAny _ _ _ _ _ {s with heap:=h'.push (seqObj "list" acc.toList.toArray 0),toks:=tk}
 refine wpAny_bind (wpAny_holding (wpAny_call_entry slot_list_sort ⟨_,hoL,rfl⟩ entry_list_sort (list_sort_treeK strKind_oneLt hoL hS.keysOf (fun v₁ v₂ rest e=>keyKind_strs (by rw [<- e]; exact hS)) (by omega) fun st' a1 a2=>⟨_,rfl,?_⟩) (args_list_sort _)))
 obtain ⟨ss,h1,h2,h3⟩:=sorted_out_str hS a1 a2
 obtain ⟨e,he⟩:=sortedHeap_at (out:=(arrOf st').map (·.2)) hoL
 have I1:=I.kept (t':=tk) hk
 refine wpAny_pure ⟨_,rfl,.ref h'.objs.size,_,I1.laid (fun b o hb=>?_) (Nat.le_refl _) (show ObjOk X.prog X.w _ _ _ (.lst (ss.map V.str)) from ⟨?_,_,e,jgX h1,he⟩),rfl,q _ ss (I1.hok.fresh (Nat.le_refl _)) h2 h3⟩
 ·have hb':h'.get? b=some o:=hb
  rw [sortedHeap_old (Nat.ne_of_lt (Heap.lt_size hb')) (by rw [size_push']; exact Nat.lt_succ_of_lt (Heap.lt_size hb')),Heap.get?_push_ne _ _ _ (Nat.ne_of_lt (Heap.lt_size hb'))]
  exact hb'
 ·rw [List.length_map,h2.length_eq]
  exact Nat.le_of_lt (jbs (by omega))
end
theorem jgq {X:Cx}:OpR X (compareOp .IsNot) (fun x y H Q=>∃ a b,x=.bl a/\y=.bl b/\Q (.bl (!(a==b))) H):=by
 intro pins s σ H x y v u Q I rx ry h
 obtain ⟨a,b,rfl,rfl,q⟩:=h
 cases rx; cases ry
 cases a <;> cases b <;> exact wpAny_pure ⟨.bl _,H,I,rfl,q⟩
theorem EqD.up1 {K:PySem.W.Frag} {H:Hp}:∀ {n:Nat} {x y:V},EqD K H n x y->EqD K H (n+1) x y
 | 0,_,_,h=>.inl (.inl h)
 | n+1,x,y,h=>by
  rcases h with h | ⟨a,b,xs,ys,h1,h2,h3,h4,h5⟩ | ⟨a,b,ka,kb,h1,h2,h3,h4,h5,h6⟩
  ·exact .inl (.inl h)
  ·exact .inr (.inl ⟨a,b,xs,ys,h1,h2,h3,h4,Paired.mapP h5 fun _ _ z=>EqD.up1 z⟩)
  ·exact .inr (.inr ⟨a,b,ka,kb,h1,h2,h3,h4,h5,fun k v hk=>by
    obtain ⟨v',e,z⟩:=h6 k v hk
    exact ⟨v',e,EqD.up1 z⟩⟩)
theorem jeV {e:Nat->Bool}:∀ {n i:Nat},jbh e i n=true->∀ j,i<=j->j < i+n->e j=true
 | 0,i,_,j,h1,h2=>by omega
 | n+1,i,h,j,h1,h2=>by
  rw [jbh,Bool.and_eq_true] at h
  by_cases z:j=i
  ·rw [z]; exact h.1
  ·exact jeV h.2 j (by omega) (by omega)
theorem jgr {α:Type} {R:α->α->Prop}:∀ {xs ys:List α},xs.length=ys.length->(∀ (j:Nat) x y,xs[j]?=some x->ys[j]?=some y->R x y)->Paired R xs ys
 | [],[],_,_=>.nil
 | [],_::_,h,_=>by cases h
 | _::_,[],h,_=>by cases h
 | x::xs,y::ys,h,f=>.cons (f 0 x y rfl rfl) (jgr (by simpa using h) fun j a b ha hb=>f (j+1) a b (by simpa using ha) (by simpa using hb))
theorem CmD.eq {K:PySem.W.Frag} {H:Hp}:∀ {n:Nat} {x y:V},CmD K H n x y true->EqD K H n x y
 | 0,x,y,h=>by
  obtain ⟨i,j,rfl,rfl,e⟩:=h
  have:i=j:=by simpa using e.symm
  subst this
  exact ⟨rfl,trivial⟩
 | n+1,x,y,h=>by
  rcases h with h | ⟨p,q,xs,ys,h1,h2,h3,h4,_,h⟩ | ⟨p,q,ka,kb,h1,h2,h3,h4,_,hl,e,he,hb⟩
  ·exact EqD.up1 (CmD.eq h)
  ·rcases h with ⟨_,z⟩ | ⟨hl,e,he,hb⟩
   ·cases z
   ·refine .inr (.inl ⟨p,q,xs,ys,h1,h2,h3,h4,jgr hl fun j x' y' hx hy=>CmD.eq ?_⟩)
    have:=he j x' y' hx hy
    rw [jeV hb.symm j (Nat.zero_le _) (by have:=(List.getElem?_eq_some_iff.mp hx).1; omega)] at this
    exact this
  ·refine .inr (.inr ⟨p,q,ka,kb,h1,h2,h3,h4,hl,fun k v hk=>?_⟩)
   have hek:e k=true:=List.all_eq_true.mp hb.symm (k,v) hk
   rcases he k v hk with ⟨_,z⟩ | ⟨v',e1,e2⟩
   ·rw [hek] at z; cases z
   ·rw [hek] at e2
    exact ⟨v',e1,CmD.eq e2⟩
end L2
namespace Lf
open PySem L2
theorem cxK {CX:CXT} {P:Program} {w:World} {K:PySem.W.Frag} {mg:Str->Option Value} {base:Heap} {N:List Str} {q:Str} {sc:Scope} {f:Addr} {cdv:Value} {A:Around} {outer:List Env} {s:Shared} {H:Hp} {E:XK}:(jmo CX P w K mg base N q sc f cdv A outer s H E).nox.K=K:=rfl
theorem jdZ {K:PySem.W.Frag} {a:Addr} {xs:List V} {g:TG} {tb:TS} {D:Ends} {σ:St} {H:Hp} (Pv:Nat->St->Hp->Prop) (h0:Pv 0 σ H) (hl:∀ i σ H,i<=xs.length->Pv i σ H->SqL K H a xs)
  (hs:∀ i x σ H,xs[i]?=some x->Pv i σ H->∀ Dd:Ends,(∀ σ' H',Pv (i+1) σ' H'->Dd.nx σ' H')->g x σ H fun σ2 H2=>tb Dd σ2 H2) (hd:∀ σ H,Pv xs.length σ H->D.nx σ H) :
  ∃ W:Nat->Nat->St->Hp->Prop,(∃ m,W 0 m σ H)/\∀ i m σ H,W i m σ H ->
   ((Itl K a).stop i H/\D.nx σ H)\/((Itl K a).go i H/\∃ N:St->Hp->Prop,(∀ σ' H',N σ' H'->∃ m',m' < m/\W (i+1) m' σ' H')/\∀ x H',(Itl K a).yld i H x H'->g x σ H' fun σ2 H2=>tb {D with nx:=N,ct:=N,bk:=D.nx} σ2 H2):=jdz Pv h0 hl (fun i x σ H hx hp=>hs i x σ H hx hp _ (fun _ _ h=>h)) hd
theorem jcs {lo:Int} {n:Nat} {g:TG} {tb:TS} {D:Ends} {σ:St} {H:Hp} (Pv:Nat->St->Hp->Prop) (h0:Pv 0 σ H)
  (hs:∀ i σ H,i < n->Pv i σ H->∀ Dd:Ends,(∀ σ' H',Pv (i+1) σ' H'->Dd.nx σ' H')->g (.int (lo+i)) σ H fun σ2 H2=>tb Dd σ2 H2) (hd:∀ σ H,Pv n σ H->D.nx σ H) :
  ∃ W:Nat->Nat->St->Hp->Prop,(∃ m,W 0 m σ H)/\∀ i m σ H,W i m σ H ->
   ((Itr lo n).stop i H/\D.nx σ H)\/((Itr lo n).go i H/\∃ N:St->Hp->Prop,(∀ σ' H',N σ' H'->∃ m',m' < m/\W (i+1) m' σ' H')/\∀ x H',(Itr lo n).yld i H x H'->g x σ H' fun σ2 H2=>tb {D with nx:=N,ct:=N,bk:=D.nx} σ2 H2):=jfP Pv h0 (fun i σ H hi hp=>hs i σ H hi hp _ (fun _ _ h=>h)) hd
end Lf
namespace Mth
inductive Stp where
 | sign (s:List Nat)
 | choice (b:Nat)
def paths (S:List Stp) (n:Nat) (t:List Nat):List (List Bool) :=
 match n with
 | 0=>if t=[] then [[]] else []
 | n+1=>match S[n+1]? with
  | some (.sign s)=>(match t with
   | []=>[]
   | c::t'=>if c∈s then paths S n t' else [])
  | some (.choice b)=>if h:b<=n then (paths S b t).map (false::·)++(paths S n t).map (true::·) else []
  | none=>[]
termination_by n
section
variable {S T:List Stp} {n:Nat} {t:List Nat}
theorem jaN:paths S 0 t=if t=[] then [[]] else []:=by rw [paths]
theorem jaO {s:List Nat} (h:S[n+1]?=some (.sign s)):paths S (n+1) t=match t with | []=>[] | c::t'=>if c∈s then paths S n t' else []:=by
 rw [paths,h]
theorem jaA {b:Nat} (h:S[n+1]?=some (.choice b)) (hb:b<=n):paths S (n+1) t=(paths S b t).map (false::·)++(paths S n t).map (true::·):=by
 rw [paths,h]
 simp only [hb,dite_true]
theorem jeW (h:S[n+1]?=none):paths S (n+1) t=[]:=by rw [paths,h]
theorem jgs (h:n < S.length):paths (S++T) n t=paths S n t:=by
 induction n using Nat.strongRecOn generalizing t with
 | _ n ih =>
  cases n with
  | zero=>rw [jaN,jaN]
  | succ n =>
   have e:(S++T)[n+1]?=S[n+1]?:=List.getElem?_append_left h
   cases hs:S[n+1]? with
   | none=>rw [List.getElem?_eq_none_iff] at hs; omega
   | some st =>
    cases st with
    | sign s =>
     rw [jaO (e.trans hs),jaO hs]
     cases t with
     | nil=>rfl
     | cons c t' =>
      dsimp only
      rw [ih n (Nat.lt_succ_self n) (by omega)]
    | choice b =>
     by_cases hb:b<=n
     ·rw [jaA (e.trans hs) hb,jaA hs hb,ih b (by omega) (by omega),ih n (by omega) (by omega)]
     ·rw [paths,paths,e,hs]
      simp only [hb,dite_false]
end
inductive MP where
 | say (z:List Nat)
 | ask (sg:List Nat) (lo hi:Nat)
inductive MQ where
 | one (p:MP)
 | rows (inner:List MP) (gap:List Nat) (lo hi:Nat)
abbrev Res (α:Type):=List (α×List Bool×List Nat)
def jcd (z t:List Nat):Option (List Nat):=if z.isPrefixOf t=true then some (t.drop z.length) else none
def jmy (sg:List Nat) (lo:Nat):Nat->Nat->List Nat->Res (List Nat)
 | 0,_,t=>[([],[],t)]
 | m+1,k,t=>(if lo<=k then [([],[false],t)] else [])++(match t with
  | []=>[]
  | c::t'=>if c∈sg then (jmy sg lo m (k+1) t').map fun x=>(c::x.1,(if lo<=k then true::x.2.1 else x.2.1),x.2.2) else [])
theorem jea (sg:List Nat) (lo m k:Nat) (t:List Nat):jmy sg lo (m+1) k t=(if lo<=k then [([],[false],t)] else [])++(match t with
  | []=>[]
  | c::t'=>if c∈sg then (jmy sg lo m (k+1) t').map fun x=>(c::x.1,(if lo<=k then true::x.2.1 else x.2.1),x.2.2) else []):=by
 cases t <;> rfl
inductive R1 where
 | no
 | tx (w:List Nat)
def p1:MP->List Nat->Res R1
 | .say z,t=>match jcd z t with | some r=>[(.no,[],r)] | none=>[]
 | .ask sg lo hi,t=>(jmy sg lo hi 0 t).map fun x=>(.tx x.1,x.2.1,x.2.2)
def pL:List MP->List Nat->Res (List R1)
 | [],t=>[([],[],t)]
 | p::ps,t=>(p1 p t).flatMap fun x=>(pL ps x.2.2).map fun y=>(x.1::y.1,x.2.1++y.2.1,y.2.2)
def jfl (inner:List MP) (gap:List Nat) (lo:Nat):Nat->Nat->List Nat->Res (List (List R1))
 | 0,_,t=>[([],[],t)]
 | m+1,k,t=>(if lo<=k then [([],[false],t)] else [])++(match (if k=0 then some t else jcd gap t) with
  | none=>[]
  | some t1=>(pL inner t1).flatMap fun x=>(jfl inner gap lo m (k+1) x.2.2).map fun y=>(x.1::y.1,(if lo<=k then true::(x.2.1++y.2.1) else x.2.1++y.2.1),y.2.2))
inductive RQ where
 | one (r:R1)
 | rows (rs:List (List R1))
def pQ:MQ->List Nat->Res RQ
 | .one p,t=>(p1 p t).map fun x=>(.one x.1,x.2.1,x.2.2)
 | .rows inner gap lo hi,t=>(jfl inner gap lo hi 0 t).map fun x=>(.rows x.1,x.2.1,x.2.2)
def pF:List MQ->List Nat->Res (List RQ)
 | [],t=>[([],[],t)]
 | p::ps,t=>(pQ p t).flatMap fun x=>(pF ps x.2.2).map fun y=>(x.1::y.1,x.2.1++y.2.1,y.2.2)
def rds (ps:List MQ) (t:List Nat):List (List RQ×List Bool):=(pF ps t).filterMap fun x=>if x.2.2=[] then some (x.1,x.2.1) else none
def xText (z:List Nat):List Stp:=z.map fun c=>.sign [c]
def xAsk (m:Nat) (sg:List Nat) (lo:Nat):Nat->Nat->List Stp
 | 0,_=>[]
 | f+1,k=>(if lo<=k then [.choice m] else [])++.sign sg::xAsk m sg lo f (k+1)
def x1 (m:Nat):MP->List Stp
 | .say z=>xText z
 | .ask sg lo hi=>xAsk m sg lo hi 0
def xL (m:Nat):List MP->List Stp
 | []=>[]
 | p::ps=>x1 (m+(xL m ps).length) p++xL m ps
def xRows (m:Nat) (inner:List MP) (gap:List Nat) (lo:Nat):Nat->Nat->List Stp
 | 0,_=>[]
 | f+1,k=>(if lo<=k then [.choice m] else [])++((if k=0 then [] else xText gap)++(xL (m+(xRows m inner gap lo f (k+1)).length) inner++xRows m inner gap lo f (k+1)))
def xQ (m:Nat):MQ->List Stp
 | .one p=>x1 m p
 | .rows inner gap lo hi=>xRows m inner gap lo hi 0
def xF (m:Nat):List MQ->List Stp
 | []=>[]
 | p::ps=>xQ (m+(xF m ps).length) p++xF m ps
def Runs {α:Type} (m:Nat) (X:List Stp) (f:List Nat->Res α):Prop:=∀ (B:List Stp) (t:List Nat),B.length=m+1->paths (B++X.reverse) (m+X.length) t=(f t).flatMap fun x=>(paths B m x.2.2).map (x.2.1++·)
section
variable {m:Nat} {X Y:List Stp} {α β γ:Type} {f:List Nat->Res α} {g:List Nat->Res β}
theorem jmz {B:List Stp} {x:Stp} (hB:B.length=m+1):(B++(x::X).reverse)[m+X.length+1]?=some x:=by
 rw [List.reverse_cons,<- List.append_assoc,List.getElem?_append_right (by simp; omega)]
 simp
 have:m+X.length+1 - (B.length+X.length)=0:=by omega
 simp [this]
theorem below {B:List Stp} {x:Stp} {n:Nat} {t:List Nat} (hB:B.length=m+1) (hn:n<=m+X.length):paths (B++(x::X).reverse) n t=paths (B++X.reverse) n t:=by
 rw [List.reverse_cons,<- List.append_assoc]
 exact jgs (by simp; omega)
theorem jnB {B:List Stp} {t:List Nat} (hB:B.length=m+1):paths (B++X) m t=paths B m t:=jgs (by omega)
theorem Runs.nil {v:α}:Runs m [] (fun t=>[(v,[],t)]):=fun B t hB=>by simp
theorem Runs.sign {s:List Nat} (h:Runs m X f):Runs m (.sign s::X) (fun t=>match t with | []=>[] | c::t'=>if c∈s then f t' else []):=fun B t hB=>by
 have e:m+(Stp.sign s::X).length=m+X.length+1:=by simp; omega
 rw [e,jaO (jmz hB)]
 cases t with
 | nil=>rfl
 | cons c t' =>
  dsimp only
  by_cases hc:c∈s
  ·rw [if_pos hc,if_pos hc,below hB (Nat.le_refl _),h B t' hB]
  ·rw [if_neg hc,if_neg hc]; rfl
theorem Runs.choice {v:α} (h:Runs m X f):Runs m (.choice m::X) (fun t=>(v,[false],t)::(f t).map fun x=>(x.1,true::x.2.1,x.2.2)):=fun B t hB=>by
 have e:m+(Stp.choice m::X).length=m+X.length+1:=by simp; omega
 rw [e,jaA (jmz hB) (by omega),below hB (Nat.le_refl _),below hB (by omega),jnB hB,h B t hB]
 rw [List.flatMap_cons,List.map_flatMap,List.flatMap_map]
 simp [List.map_map,Function.comp_def]
theorem Runs.comp (hX:Runs (m+Y.length) X f) (hY:Runs m Y g) (k:α->β->γ):Runs m (X++Y) (fun t=>(f t).flatMap fun x=>(g x.2.2).map fun y=>(k x.1 y.1,x.2.1++y.2.1,y.2.2)):=fun B t hB=>by
 rw [List.reverse_append,<- List.append_assoc,show m+(X++Y).length=m+Y.length+X.length by simp; omega]
 rw [hX (B++Y.reverse) t (by simp; omega),List.flatMap_assoc]
 congr 1
 funext x
 rw [hY B x.2.2 hB,List.map_flatMap,List.flatMap_map]
 simp [List.map_map,Function.comp_def,List.append_assoc]
theorem Runs.map (h:Runs m X f) (k:α->β):Runs m X (fun t=>(f t).map fun x=>(k x.1,x.2.1,x.2.2)):=fun B t hB=>by
 rw [h B t hB,List.flatMap_map]
theorem Runs.eq {f':List Nat->Res α} (h:Runs m X f) (e:∀ t,f t=f' t):Runs m X f':=fun B t hB=>by rw [h B t hB,e t]
end
theorem jiN {c d:Nat} {z t:List Nat}:(c::z).isPrefixOf (d::t)=(decide (c=d)&&z.isPrefixOf t):=by
 rw [List.isPrefixOf]
 by_cases h:c=d
 ·subst h; simp
 ·have:(c==d)=false:=beq_eq_false_iff_ne.mpr h
  rw [this,decide_eq_false h]
theorem jeb {t:List Nat}:jcd [] t=some t:=by unfold jcd; simp
theorem jdg {c:Nat} {z t:List Nat}:jcd (c::z) t=match t with | []=>none | d::t'=>if d∈[c] then jcd z t' else none:=by
 cases t with
 | nil=>rfl
 | cons d t' =>
  unfold jcd
  rw [jiN]
  dsimp only
  by_cases h:d∈[c]
  ·have h':c=d:=(List.mem_singleton.mp h).symm
   rw [if_pos h,decide_eq_true h',Bool.true_and]
   rfl
  ·have h':¬ c=d:=fun z=>h (List.mem_singleton.mpr z.symm)
   rw [if_neg h,decide_eq_false h',Bool.false_and]
   rfl
theorem jec {m:Nat} {α:Type} {v:α}:∀ z:List Nat,Runs m (xText z) (fun t=>match jcd z t with | some r=>[(v,[],r)] | none=>[])
 | []=>Runs.nil.eq fun t=>by rw [jeb]
 | c::z=>(Runs.sign (s:=[c]) (jec (v:=v) z)).eq fun t=>by
  rw [jdg]
  cases t with
  | nil=>rfl
  | cons d t' =>
   dsimp only
   by_cases h:d∈[c]
   ·rw [if_pos h,if_pos h]
   ·rw [if_neg h,if_neg h]
theorem jhO {m:Nat} {sg:List Nat} {lo:Nat}:∀ (f k:Nat),Runs m (xAsk m sg lo f k) (jmy sg lo f k)
 | 0,k=>Runs.nil
 | f+1,k=>by
  have ih:=(Runs.sign (s:=sg) (jhO (m:=m) (sg:=sg) (lo:=lo) f (k+1)))
  unfold xAsk
  by_cases h:lo<=k
  ·rw [if_pos h]
   intro B t hB
   have e:=Runs.choice (v:=([]:List Nat)) ih B t hB
   rw [show [Stp.choice m]++Stp.sign sg::xAsk m sg lo f (k+1)=Stp.choice m::Stp.sign sg::xAsk m sg lo f (k+1) from rfl,e]
   rw [jea,if_pos h,List.flatMap_cons]
   rw [show ∀ Z:Res (List Nat),([([],[false],t)]++Z)=([],[false],t)::Z from fun _=>rfl,List.flatMap_cons]
   congr 1
   cases t with
   | nil=>rfl
   | cons c t' =>
    dsimp only
    by_cases hc:c∈sg
    ·rw [if_pos hc,if_pos hc,List.flatMap_map,List.flatMap_map]
     simp [h]
    ·rw [if_neg hc,if_neg hc]; rfl
  ·rw [if_neg h,List.nil_append]
   intro B t hB
   rw [ih B t hB,jea,if_neg h,List.nil_append]
   cases t with
   | nil=>rfl
   | cons c t' =>
    dsimp only
    by_cases hc:c∈sg
    ·rw [if_pos hc,if_pos hc,List.flatMap_map]
     simp [h]
    ·rw [if_neg hc,if_neg hc]
theorem jmA {m:Nat}:∀ p:MP,Runs m (x1 m p) (p1 p)
 | .say z=>jec (v:=R1.no) z
 | .ask sg lo hi=>(jhO hi 0).map R1.tx
theorem jmB {m:Nat}:∀ ps:List MP,Runs m (xL m ps) (pL ps)
 | []=>Runs.nil
 | p::ps=>Runs.comp (jmA p) (jmB ps) (fun a b=>a::b)
theorem jgt {m:Nat} {inner:List MP} {gap:List Nat} {lo:Nat}:∀ (f k:Nat),Runs m (xRows m inner gap lo f k) (jfl inner gap lo f k)
 | 0,k=>Runs.nil
 | f+1,k=>by
  have ih:=jgt (m:=m) (inner:=inner) (gap:=gap) (lo:=lo) f (k+1)
  have h1:=Runs.comp (jmB (m:=m+(xRows m inner gap lo f (k+1)).length) inner) ih (fun a b=>a::b)
  have h2:Runs m ((if k=0 then [] else xText gap)++(xL (m+(xRows m inner gap lo f (k+1)).length) inner++xRows m inner gap lo f (k+1)))
    (fun t=>match (if k=0 then some t else jcd gap t) with | none=>[] | some t1=>(pL inner t1).flatMap fun x=>(jfl inner gap lo f (k+1) x.2.2).map fun y=>(x.1::y.1,x.2.1++y.2.1,y.2.2)):=by
   by_cases hk:k=0
   ·rw [if_pos hk,List.nil_append]
    exact h1.eq fun t=>by rw [if_pos hk]
   ·rw [if_neg hk]
    refine (Runs.comp (jec (v:=()) gap) h1 (fun _ b=>b)).eq fun t=>?_
    rw [if_neg hk]
    cases jcd gap t with
    | none=>rfl
    | some r=>simp [List.map_flatMap,List.map_map,Function.comp_def]
  unfold xRows
  by_cases h:lo<=k
  ·rw [if_pos h]
   intro B t hB
   have e:=Runs.choice (v:=([]:List (List R1))) h2 B t hB
   rw [show ∀ Z:List Stp,[Stp.choice m]++Z=Stp.choice m::Z from fun _=>rfl,e]
   rw [jfl,if_pos h,List.flatMap_cons]
   rw [show ∀ Z:Res (List (List R1)),([([],[false],t)]++Z)=([],[false],t)::Z from fun _=>rfl,List.flatMap_cons]
   congr 1
   cases (if k=0 then some t else jcd gap t) with
   | none=>rfl
   | some t1=>simp [h,List.map_flatMap,List.flatMap_assoc,List.flatMap_map]
  ·rw [if_neg h,List.nil_append]
   intro B t hB
   rw [h2 B t hB,jfl,if_neg h,List.nil_append]
   dsimp only
   cases (if k=0 then some t else jcd gap t) with
   | none=>rfl
   | some t1=>simp [h,List.map_flatMap,List.flatMap_assoc,List.flatMap_map]
theorem joV {m:Nat}:∀ p:MQ,Runs m (xQ m p) (pQ p)
 | .one p=>(jmA p).map RQ.one
 | .rows inner gap lo hi=>(jgt hi 0).map RQ.rows
theorem jmC {m:Nat}:∀ ps:List MQ,Runs m (xF m ps) (pF ps)
 | []=>Runs.nil
 | p::ps=>Runs.comp (joV p) (jmC ps) (fun a b=>a::b)
def stepsOf (ps:List MQ):List Stp:=.sign []::(xF 0 ps).reverse
theorem stepsOf_len (ps:List MQ):(stepsOf ps).length=(xF 0 ps).length+1:=by simp [stepsOf]
theorem paths_form (ps:List MQ) (t:List Nat):paths (stepsOf ps) ((stepsOf ps).length - 1) t=(rds ps t).map (·.2):=by
 have e:=jmC (m:=0) ps [.sign []] t rfl
 rw [stepsOf_len]
 rw [show (xF 0 ps).length+1 - 1=0+(xF 0 ps).length by omega]
 rw [show stepsOf ps=[Stp.sign []]++(xF 0 ps).reverse from rfl,e]
 unfold rds
 generalize pF ps t=L
 induction L with
 | nil=>rfl
 | cons x r ih =>
  rw [List.flatMap_cons,ih,List.filterMap_cons,jaN]
  by_cases h:x.2.2=[]
  ·rw [if_pos h,if_pos h]; simp
  ·rw [if_neg h,if_neg h]; simp
section
variable {S:List Stp} {t:List Nat} {k p b:Nat}
def okAt (S:List Stp) (t:List Nat) (k p:Nat):Prop:=p<=t.length/\paths S k (t.drop p)≠[]
theorem ok_zero:okAt S t 0 p↔p=t.length:=by
 unfold okAt
 rw [jaN]
 constructor
 ·rintro ⟨h1,h2⟩
  by_cases h:t.drop p=[]
  ·rw [List.drop_eq_nil_iff] at h; omega
  ·rw [if_neg h] at h2; exact absurd rfl h2
 ·rintro rfl
  refine ⟨Nat.le_refl _,?_⟩
  rw [if_pos (List.drop_length),]
  simp
theorem jjR {c:Nat} (h:t[p]?=some c):t.drop p=c::t.drop (p+1):=by
 obtain ⟨h1,h2⟩:=List.getElem?_eq_some_iff.mp h
 rw [List.drop_eq_getElem_cons h1,h2]
theorem ok_sign {s:List Nat} (h:S[k+1]?=some (.sign s)):okAt S t (k+1) p↔okAt S t k (p+1)/\∃ c,t[p]?=some c/\c∈s:=by
 unfold okAt
 rw [jaO h]
 constructor
 ·rintro ⟨h1,h2⟩
  by_cases hp:p < t.length
  ·rw [List.drop_eq_getElem_cons hp] at h2
   dsimp only at h2
   by_cases hc:t[p]∈s
   ·rw [if_pos hc] at h2
    exact ⟨⟨hp,h2⟩,t[p],List.getElem?_eq_getElem hp,hc⟩
   ·rw [if_neg hc] at h2; exact absurd rfl h2
  ·have:t.drop p=[]:=List.drop_eq_nil_iff.mpr (by omega)
   rw [this] at h2; exact absurd rfl h2
 ·rintro ⟨⟨h1,h2⟩,c,h3,h4⟩
  refine ⟨by omega,?_⟩
  rw [jjR h3]
  dsimp only
  rw [if_pos h4]
  exact h2
theorem ok_choice (h:S[k+1]?=some (.choice b)) (hb:b<=k):okAt S t (k+1) p↔okAt S t b p\/okAt S t k p:=by
 unfold okAt
 rw [jaA h hb]
 constructor
 ·rintro ⟨h1,h2⟩
  by_cases e:paths S b (t.drop p)=[]
  ·right
   refine ⟨h1,fun z=>h2 ?_⟩
   rw [e,z]; rfl
  ·exact .inl ⟨h1,e⟩
 ·rintro (⟨h1,h2⟩ | ⟨h1,h2⟩)
  ·exact ⟨h1,fun z=>h2 (by have:=(List.append_eq_nil_iff.mp z).1; exact List.map_eq_nil_iff.mp this)⟩
  ·exact ⟨h1,fun z=>h2 (by have:=(List.append_eq_nil_iff.mp z).2; exact List.map_eq_nil_iff.mp this)⟩
structure Way where
 (n p:Nat) (cs:List Bool)
def enumW (S:List Stp) (t:List Nat) (w:Way):List (List Bool):=(paths S w.n (t.drop w.p)).map (w.cs.reverse++·)
def enumA (S:List Stp) (t:List Nat) (ws:List Way):List (List Bool):=ws.reverse.flatMap (enumW S t)
theorem enumA_snoc {ws:List Way} {w:Way}:enumA S t (ws++[w])=enumW S t w++enumA S t ws:=by
 unfold enumA
 rw [List.reverse_append,List.reverse_singleton,List.singleton_append,List.flatMap_cons]
theorem enumA_nil:enumA S t []=[]:=rfl
variable {cs:List Bool}
theorem enum_end (h:okAt S t 0 p):enumW S t ⟨0,p,cs⟩=[cs.reverse]:=by
 have e:=ok_zero.mp h
 unfold enumW
 rw [jaN,if_pos (by rw [e]; exact List.drop_length)]
 simp
theorem enum_sign {s:List Nat} (h:S[k+1]?=some (.sign s)) (ho:okAt S t (k+1) p):enumW S t ⟨k+1,p,cs⟩=enumW S t ⟨k,p+1,cs⟩:=by
 obtain ⟨_,c,h3,h4⟩:=(ok_sign h).mp ho
 unfold enumW
 dsimp only
 rw [jaO h,jjR h3]
 dsimp only
 rw [if_pos h4]
theorem enum_choice (h:S[k+1]?=some (.choice b)) (hb:b<=k):enumW S t ⟨k+1,p,cs⟩=enumW S t ⟨b,p,false::cs⟩++enumW S t ⟨k,p,true::cs⟩:=by
 unfold enumW
 dsimp only
 rw [jaA h hb,List.map_append,List.map_map,List.map_map]
 simp [Function.comp_def]
theorem enum_no (hp:p<=t.length) (h:¬ okAt S t k p):enumW S t ⟨k,p,cs⟩=[]:=by
 unfold enumW
 have:paths S k (t.drop p)=[]:=Decidable.byContradiction fun z=>h ⟨hp,z⟩
 dsimp only
 rw [this]; rfl
end
section
variable {S:List Stp} {n k b:Nat}
def Meets (S:List Stp) (i j:Nat):Prop:=∃ w,paths S i w≠[]/\paths S j w≠[]
theorem Meets.symm {i j:Nat} (h:Meets S i j):Meets S j i:=by obtain ⟨w,a,b⟩:=h; exact ⟨w,b,a⟩
def Down (S:List Stp):Prop:=∀ (k b:Nat),S[k+1]?=some (.choice b)->b<=k
theorem jnC (hd:Down S) (h:∀ k b,k < n->S[k+1]?=some (.choice b)->¬ Meets S k b):∀ m t,m<=n->(paths S m t).length<=1:=by
 intro m
 induction m using Nat.strongRecOn with
 | _ m ih =>
  intro t hm
  cases m with
  | zero =>
   rw [jaN]
   by_cases e:t=[]
   ·rw [if_pos e]; exact Nat.le_refl _
   ·rw [if_neg e]; exact Nat.zero_le _
  | succ m =>
   cases hs:S[m+1]? with
   | none=>rw [jeW hs]; exact Nat.zero_le _
   | some st =>
    cases st with
    | sign s =>
     rw [jaO hs]
     cases t with
     | nil=>exact Nat.zero_le _
     | cons c t =>
      dsimp only
      by_cases hc:c∈s
      ·rw [if_pos hc]; exact ih m (by omega) t (by omega)
      ·rw [if_neg hc]; exact Nat.zero_le _
    | choice b =>
     have hb:=hd _ _ hs
     rw [jaA hs hb,List.length_append,List.length_map,List.length_map]
     have a1:=ih b (by omega) t (by omega)
     have a2:=ih m (by omega) t (by omega)
     have no:=h m b (by omega) hs
     by_cases e1:paths S b t=[]
     ·rw [e1]; simpa using a2
     ·by_cases e2:paths S m t=[]
      ·rw [e2]; simpa using a1
      ·exact absurd ⟨t,e2,e1⟩ no
def Leads (S:List Stp) (n i j:Nat) (txt:List Nat):Prop:=∀ w,paths S i w≠[]->paths S j w≠[]->2<=(paths S n (txt++w)).length
def Lead (S:List Stp) (n k:Nat) (txt:List Nat):Prop:=∀ w,(paths S k w).length<=(paths S n (txt++w)).length
theorem Lead.top:Lead S n n []:=fun w=>Nat.le_refl _
theorem Lead.sign {txt s:List Nat} {c:Nat} (h:Lead S n (k+1) txt) (hs:S[k+1]?=some (.sign s)) (hc:c∈s):Lead S n k (txt++[c]):=fun w=>by
 have:=h (c::w)
 rw [jaO hs] at this
 dsimp only at this
 rw [if_pos hc] at this
 rw [List.append_assoc]
 exact this
theorem Lead.choice {txt:List Nat} (h:Lead S n (k+1) txt) (hs:S[k+1]?=some (.choice b)) (hb:b<=k):Lead S n k txt:=fun w=>by
 have:=h w
 rw [jaA hs hb,List.length_append,List.length_map,List.length_map] at this
 omega
theorem jmD {α:Type} {l:List α} (h:l≠[]):1<=l.length:=by
 cases l with
 | nil=>exact absurd rfl h
 | cons=>simp
theorem Lead.part {txt:List Nat} (h:Lead S n (k+1) txt) (hs:S[k+1]?=some (.choice b)) (hb:b<=k):Leads S n k b txt:=fun w h1 h2=>by
 have:=h w
 rw [jaA hs hb,List.length_append,List.length_map,List.length_map] at this
 have:=jmD h1
 have:=jmD h2
 omega
theorem Leads.symm {i j:Nat} {txt:List Nat} (h:Leads S n i j txt):Leads S n j i txt:=fun w a b=>h w b a
theorem Leads.choice {i j:Nat} {txt:List Nat} (h:Leads S n (i+1) j txt) (hs:S[i+1]?=some (.choice b)) (hb:b<=i):Leads S n i j txt/\Leads S n b j txt:=by
 refine ⟨fun w a e=>h w (fun z=>a ?_) e,fun w a e=>h w (fun z=>a ?_) e⟩
 ·rw [jaA hs hb] at z
  exact List.map_eq_nil_iff.mp (List.append_eq_nil_iff.mp z).2
 ·rw [jaA hs hb] at z
  exact List.map_eq_nil_iff.mp (List.append_eq_nil_iff.mp z).1
theorem Leads.sign {i j:Nat} {txt s s':List Nat} {c:Nat} (h:Leads S n (i+1) (j+1) txt) (hs:S[i+1]?=some (.sign s)) (hs':S[j+1]?=some (.sign s')) (hc:c∈s) (hc':c∈s'):Leads S n i j (txt++[c]):=fun w a e=>by
 have:=h (c::w) (by rw [jaO hs]; dsimp only; rw [if_pos hc]; exact a) (by rw [jaO hs']; dsimp only; rw [if_pos hc']; exact e)
 rw [List.append_assoc]
 exact this
theorem Leads.done {txt:List Nat} (h:Leads S n 0 0 txt):2<=(paths S n txt).length:=by
 have:=h [] (by rw [jaN,if_pos rfl]; simp) (by rw [jaN,if_pos rfl]; simp)
 rw [List.append_nil] at this
 exact this
end
section
def GoodX (m:Nat) (X:List Stp):Prop:=∀ (i:Nat) (x:Stp),X[i]?=some x->match x with | .choice b=>b+i+1<=m+X.length | .sign s=>s≠[]
theorem GoodX.nil {m:Nat}:GoodX m []:=fun i x h=>by simp at h
theorem GoodX.cons {m:Nat} {x:Stp} {X:List Stp} (h:GoodX m X) (hx:match x with | .choice b=>b<=m+X.length | .sign s=>s≠[]):GoodX m (x::X):=fun i y e=>by
 cases i with
 | zero =>
  have:x=y:=by simpa using e
  subst this
  cases x with
  | choice b=>have:b<=m+X.length:=hx; show b+0+1<=m+(X.length+1); omega
  | sign s=>exact hx
 | succ i =>
  have:=h i y (by simpa using e)
  cases y with
  | choice b=>have:b+i+1<=m+X.length:=this; show b+(i+1)+1<=m+(X.length+1); omega
  | sign s=>exact this
theorem GoodX.app {m:Nat} {X Y:List Stp} (hX:GoodX (m+Y.length) X) (hY:GoodX m Y):GoodX m (X++Y):=fun i x e=>by
 by_cases h:i < X.length
 ·rw [List.getElem?_append_left h] at e
  have:=hX i x e
  cases x with
  | choice b=>have:b+i+1<=m+Y.length+X.length:=this; show b+i+1<=m+(X++Y).length; rw [List.length_append]; omega
  | sign s=>exact this
 ·rw [List.getElem?_append_right (by omega)] at e
  have:=hY _ x e
  cases x with
  | choice b=>have:b+(i - X.length)+1<=m+Y.length:=this; show b+i+1<=m+(X++Y).length; rw [List.length_append]; omega
  | sign s=>exact this
theorem jed {m:Nat}:∀ z:List Nat,GoodX m (xText z)
 | []=>GoodX.nil
 | c::z=>(jed z).cons (show [c]≠[] by simp)
theorem jhP {m:Nat} {sg:List Nat} {lo:Nat} (hs:sg≠[]):∀ f k,GoodX m (xAsk m sg lo f k)
 | 0,_=>GoodX.nil
 | f+1,k=>by
  have ih:=(jhP (m:=m) (lo:=lo) hs f (k+1)).cons (x:=.sign sg) hs
  unfold xAsk
  by_cases h:lo<=k
  ·rw [if_pos h]
   exact ih.cons (x:=.choice m) (show m<=m+_ by omega)
  ·rw [if_neg h]; exact ih
def MP.good:MP->Prop
 | .say _=>True
 | .ask sg _ _=>sg≠[]
def MQ.good:MQ->Prop
 | .one p=>p.good
 | .rows inner _ _ _=>∀ p∈inner,p.good
theorem jmE {m:Nat}:∀ {p:MP},p.good->GoodX m (x1 m p)
 | .say z,_=>jed z
 | .ask sg lo hi,h=>jhP h hi 0
theorem jmF {m:Nat}:∀ {ps:List MP},(∀ p∈ps,p.good)->GoodX m (xL m ps)
 | [],_=>GoodX.nil
 | p::ps,h=>GoodX.app (jmE (h p List.mem_cons_self)) (jmF fun q hq=>h q (List.mem_cons_of_mem _ hq))
theorem jgu {m:Nat} {inner:List MP} {gap:List Nat} {lo:Nat} (hi:∀ p∈inner,p.good):∀ f k,GoodX m (xRows m inner gap lo f k)
 | 0,_=>GoodX.nil
 | f+1,k=>by
  have ih:=jgu (m:=m) (gap:=gap) (lo:=lo) hi f (k+1)
  have h2:GoodX m ((if k=0 then [] else xText gap)++(xL (m+(xRows m inner gap lo f (k+1)).length) inner++xRows m inner gap lo f (k+1))):=by
   have h1:=GoodX.app (jmF (m:=m+(xRows m inner gap lo f (k+1)).length) hi) ih
   by_cases hk:k=0
   ·rw [if_pos hk]; exact h1
   ·rw [if_neg hk]; exact GoodX.app (jed gap) h1
  unfold xRows
  by_cases h:lo<=k
  ·rw [if_pos h]
   exact h2.cons (x:=.choice m) (show m<=m+_ by omega)
  ·rw [if_neg h]; exact h2
theorem joW {m:Nat}:∀ {p:MQ},p.good->GoodX m (xQ m p)
 | .one p,h=>jmE (p:=p) h
 | .rows inner gap lo hi,h=>jgu h hi 0
theorem jmG {m:Nat}:∀ {ps:List MQ},(∀ p∈ps,p.good)->GoodX m (xF m ps)
 | [],_=>GoodX.nil
 | p::ps,h=>GoodX.app (joW (h p List.mem_cons_self)) (jmG fun q hq=>h q (List.mem_cons_of_mem _ hq))
theorem steps_at {ps:List MQ} (h:∀ p∈ps,p.good) {k:Nat} {x:Stp} (e:(stepsOf ps)[k+1]?=some x):match x with | .choice b=>b<=k | .sign s=>s≠[]:=by
 unfold stepsOf at e
 rw [List.getElem?_cons_succ] at e
 obtain ⟨hl,he⟩:=List.getElem?_eq_some_iff.mp e
 rw [List.length_reverse] at hl
 have e2:(xF 0 ps)[(xF 0 ps).length - 1 - k]?=some x:=by
  rw [<- List.getElem?_reverse (by omega)]
  exact e
 have:=jmG (m:=0) h _ x e2
 cases x with
 | choice b=>have:b+((xF 0 ps).length - 1 - k)+1<=0+(xF 0 ps).length:=this; show b<=k; omega
 | sign s=>exact this
theorem steps_down {ps:List MQ} (h:∀ p∈ps,p.good):Down (stepsOf ps):=fun k b e=>steps_at h e
end
def w1:MP->R1->List Nat
 | .say z,_=>z
 | .ask ..,.tx w=>w
 | .ask ..,.no=>[]
def wL:List MP->List R1->List Nat
 | p::ps,v::vs=>w1 p v++wL ps vs
 | _,_=>[]
def wGap (inner:List MP) (gap:List Nat):Nat->List (List R1)->List Nat
 | _,[]=>[]
 | k,r::rs=>(if k=0 then [] else gap)++(wL inner r++wGap inner gap (k+1) rs)
def wQ:MQ->RQ->List Nat
 | .one p,.one v=>w1 p v
 | .rows inner gap _ _,.rows rs=>wGap inner gap 0 rs
 | _,_=>[]
def wF:List MQ->List RQ->List Nat
 | p::ps,v::vs=>wQ p v++wF ps vs
 | _,_=>[]
def cAsk (lo:Nat):Nat->Nat->Nat->List Bool
 | 0,_,_=>[]
 | m+1,k,0=>if lo<=k then [false] else []
 | m+1,k,l+1=>if lo<=k then true::cAsk lo m (k+1) l else cAsk lo m (k+1) l
def c1:MP->R1->List Bool
 | .ask _ lo hi,.tx w=>cAsk lo hi 0 w.length
 | _,_=>[]
def cL:List MP->List R1->List Bool
 | p::ps,v::vs=>c1 p v++cL ps vs
 | _,_=>[]
def cRows (inner:List MP) (lo:Nat):Nat->Nat->List (List R1)->List Bool
 | 0,_,_=>[]
 | m+1,k,[]=>if lo<=k then [false] else []
 | m+1,k,r::rs=>if lo<=k then true::(cL inner r++cRows inner lo m (k+1) rs) else cL inner r++cRows inner lo m (k+1) rs
def cQ:MQ->RQ->List Bool
 | .one p,.one v=>c1 p v
 | .rows inner _ lo hi,.rows rs=>cRows inner lo hi 0 rs
 | _,_=>[]
def cF:List MQ->List RQ->List Bool
 | p::ps,v::vs=>cQ p v++cF ps vs
 | _,_=>[]
inductive Fit1:MP->R1->Prop
 | say {z}:Fit1 (.say z) .no
 | ask {sg lo hi w}:lo<=w.length->w.length<=hi->(∀ c∈w,c∈sg)->Fit1 (.ask sg lo hi) (.tx w)
inductive FitL:List MP->List R1->Prop
 | nil:FitL [] []
 | cons {p ps v vs}:Fit1 p v->FitL ps vs->FitL (p::ps) (v::vs)
inductive FitQ:MQ->RQ->Prop
 | one {p v}:Fit1 p v->FitQ (.one p) (.one v)
 | rows {inner gap lo hi rs}:lo<=rs.length->rs.length<=hi->(∀ r∈rs,FitL inner r)->FitQ (.rows inner gap lo hi) (.rows rs)
inductive FitF:List MQ->List RQ->Prop
 | nil:FitF [] []
 | cons {p ps v vs}:FitQ p v->FitF ps vs->FitF (p::ps) (v::vs)
theorem jeX {z t r:List Nat} (h:jcd z t=some r):t=z++r:=by
 induction z generalizing t with
 | nil=>rw [jeb] at h; cases h; rfl
 | cons c z ih =>
  rw [jdg] at h
  cases t with
  | nil=>cases h
  | cons d t =>
   dsimp only at h
   by_cases hd:d∈[c]
   ·rw [if_pos hd] at h
    rw [ih h,List.mem_singleton.mp hd]; rfl
   ·rw [if_neg hd] at h; cases h
theorem jgv (z r:List Nat):jcd z (z++r)=some r:=by
 induction z with
 | nil=>exact jeb
 | cons c z ih =>
  rw [List.cons_append,jdg]
  dsimp only
  rw [if_pos (List.mem_singleton.mpr rfl),ih]
section
variable {sg:List Nat} {lo:Nat}
theorem ask_iff:∀ {m k:Nat} {t:List Nat} {x:List Nat×List Bool×List Nat},x∈jmy sg lo m k t↔(t=x.1++x.2.2/\x.2.1=cAsk lo m k x.1.length/\x.1.length<=m/\(∀ c∈x.1,c∈sg)/\(x.1.length < m->lo<=k+x.1.length))
 | 0,k,t,⟨w,cs,r⟩=>by
  unfold jmy
  rw [List.mem_singleton]
  constructor
  ·intro h; cases h; exact ⟨rfl,rfl,Nat.le_refl _,(fun _ h=>nomatch h),fun h=>absurd h (Nat.lt_irrefl _)⟩
  ·rintro ⟨h1,h2,h3,_⟩
   have:w=[]:=List.length_eq_zero_iff.mp (Nat.le_zero.mp h3)
   subst this
   dsimp only at h1 h2 ⊢
   rw [h1,h2]; rfl
 | m+1,k,t,⟨w,cs,r⟩=>by
  rw [jea,List.mem_append]
  constructor
  ·rintro (h | h)
   ·by_cases hl:lo<=k
    ·rw [if_pos hl,List.mem_singleton] at h
     cases h
     refine ⟨rfl,?_,Nat.zero_le _,(fun _ h=>nomatch h),fun _=>hl⟩
     show [false]=if lo<=k then [false] else []
     rw [if_pos hl]
    ·rw [if_neg hl] at h; cases h
   ·cases t with
    | nil=>cases h
    | cons c t' =>
     dsimp only at h
     by_cases hc:c∈sg
     ·rw [if_pos hc] at h
      obtain ⟨y,hy,e⟩:=List.mem_map.mp h
      obtain ⟨h1,h2,h3,h4,h5⟩:=ask_iff.mp hy
      cases e
      refine ⟨by rw [h1]; rfl,?_,by simpa using h3,fun d hd=>?_,fun hlt=>?_⟩
      ·show (if lo<=k then true::y.2.1 else y.2.1)=if lo<=k then true::cAsk lo m (k+1) y.1.length else cAsk lo m (k+1) y.1.length
       rw [h2]
      ·rcases List.mem_cons.mp hd with rfl | hd
       ·exact hc
       ·exact h4 d hd
      ·have:=h5 (by simpa using hlt)
       show lo<=k+(y.1.length+1)
       omega
     ·rw [if_neg hc] at h; cases h
  ·rintro ⟨h1,h2,h3,h4,h5⟩
   cases w with
   | nil =>
    have hl:lo<=k:=h5 (Nat.succ_pos _)
    left
    rw [if_pos hl,List.mem_singleton]
    have h2:cs=if lo<=k then [false] else []:=h2
    rw [if_pos hl] at h2
    rw [h2,show t=r from h1]
   | cons c w =>
    right
    have h1:t=c::(w++r):=h1
    subst h1
    dsimp only
    rw [if_pos (h4 c List.mem_cons_self)]
    refine List.mem_map.mpr ⟨(w,cAsk lo m (k+1) w.length,r),ask_iff.mpr ⟨rfl,rfl,by simpa using h3,fun d hd=>h4 d (List.mem_cons_of_mem _ hd),fun hlt=>?_⟩,?_⟩
    ·have:=h5 (show w.length+1 < m+1 by have:w.length < m:=hlt; omega)
     have:lo<=k+(w.length+1):=this
     show lo<=k+1+w.length
     omega
    ·have h2:cs=if lo<=k then true::cAsk lo m (k+1) w.length else cAsk lo m (k+1) w.length:=h2
     rw [h2]
end
def MP.lh:MP->Prop
 | .say _=>True
 | .ask _ lo hi=>lo<=hi
def MQ.lh:MQ->Prop
 | .one p=>p.lh
 | .rows inner _ lo hi=>lo<=hi/\∀ p∈inner,p.lh
theorem joX {z t:List Nat}:p1 (.say z) t=match jcd z t with | some r=>[(.no,[],r)] | none=>[]:=rfl
theorem joY {sg:List Nat} {lo hi:Nat} {t:List Nat}:p1 (.ask sg lo hi) t=(jmy sg lo hi 0 t).map fun x=>(.tx x.1,x.2.1,x.2.2):=rfl
theorem jhQ:∀ {p:MP} {t:List Nat} {x:R1×List Bool×List Nat},p.lh->(x∈p1 p t↔(Fit1 p x.1/\t=w1 p x.1++x.2.2/\x.2.1=c1 p x.1))
 | .say z,t,⟨v,cs,r⟩,_=>by
  rw [joX]
  constructor
  ·intro h
   cases e:jcd z t with
   | none=>rw [e] at h; cases h
   | some r' =>
    rw [e] at h
    cases List.mem_singleton.mp h
    exact ⟨.say,jeX e,rfl⟩
  ·rintro ⟨h1,h2,h3⟩
   have h1:Fit1 (.say z) v:=h1
   cases h1
   have h2:t=z++r:=h2
   rw [h2,jgv]
   have h3:cs=[]:=h3
   rw [h3]
   exact List.mem_singleton.mpr rfl
 | .ask sg lo hi,t,⟨v,cs,r⟩,lh=>by
  have lh:lo<=hi:=lh
  rw [joY,List.mem_map]
  constructor
  ·rintro ⟨y,hy,e⟩
   obtain ⟨h1,h2,h3,h4,h5⟩:=ask_iff.mp hy
   cases e
   refine ⟨.ask ?_ h3 h4,h1,h2⟩
   by_cases c:y.1.length < hi
   ·have:=h5 c; omega
   ·omega
  ·rintro ⟨h1,h2,h3⟩
   have h1:Fit1 (.ask sg lo hi) v:=h1
   cases h1 with
   | @ask _ _ _ w a1 a2 a3 =>
    have h2:t=w++r:=h2
    have h3:cs=cAsk lo hi 0 w.length:=h3
    exact ⟨(w,cs,r),ask_iff.mpr ⟨h2,h3,a2,a3,fun _=>by show lo<=0+w.length; omega⟩,rfl⟩
theorem jhR:∀ {ps:List MP} {t:List Nat} {x:List R1×List Bool×List Nat},(∀ p∈ps,p.lh)->(x∈pL ps t↔(FitL ps x.1/\t=wL ps x.1++x.2.2/\x.2.1=cL ps x.1))
 | [],t,⟨v,cs,r⟩,_=>by
  unfold pL
  rw [List.mem_singleton]
  constructor
  ·intro h; cases h; exact ⟨.nil,rfl,rfl⟩
  ·rintro ⟨h1,h2,h3⟩
   have h1:FitL [] v:=h1
   cases h1
   have h2:t=r:=h2
   have h3:cs=[]:=h3
   rw [h2,h3]
 | p::ps,t,⟨v,cs,r⟩,lh=>by
  have lp:=lh p List.mem_cons_self
  have ls:=fun q hq=>lh q (List.mem_cons_of_mem p hq)
  unfold pL
  rw [List.mem_flatMap]
  constructor
  ·rintro ⟨x,hx,h⟩
   obtain ⟨y,hy,e⟩:=List.mem_map.mp h
   obtain ⟨a1,a2,a3⟩:=(jhQ lp).mp hx
   obtain ⟨b1,b2,b3⟩:=(jhR ls).mp hy
   cases e
   refine ⟨.cons a1 b1,?_,?_⟩
   ·rw [a2,b2]
    show _=(w1 p x.1++wL ps y.1)++y.2.2
    rw [List.append_assoc]
   ·show x.2.1++y.2.1=c1 p x.1++cL ps y.1
    rw [a3,b3]
  ·rintro ⟨h1,h2,h3⟩
   have h1:FitL (p::ps) v:=h1
   cases h1 with
   | @cons _ _ v vs f1 f2 =>
    have h2:t=(w1 p v++wL ps vs)++r:=h2
    have h3:cs=c1 p v++cL ps vs:=h3
    refine ⟨(v,c1 p v,wL ps vs++r),(jhQ lp).mpr ⟨f1,by rw [h2,List.append_assoc],rfl⟩,List.mem_map.mpr ⟨(vs,cL ps vs,r),(jhR ls).mpr ⟨f2,rfl,rfl⟩,?_⟩⟩
    rw [h3]
theorem jdC {inner:List MP} {gap:List Nat} {lo:Nat} (li:∀ p∈inner,p.lh):∀ {m k:Nat} {t:List Nat} {x:List (List R1)×List Bool×List Nat},x∈jfl inner gap lo m k t ↔
  ((∀ r∈x.1,FitL inner r)/\t=wGap inner gap k x.1++x.2.2/\x.2.1=cRows inner lo m k x.1/\x.1.length<=m/\(x.1.length < m->lo<=k+x.1.length))
 | 0,k,t,⟨v,cs,r⟩=>by
  unfold jfl
  rw [List.mem_singleton]
  constructor
  ·intro h; cases h; exact ⟨(fun _ h=>nomatch h),rfl,rfl,Nat.le_refl _,fun h=>absurd h (Nat.lt_irrefl _)⟩
  ·rintro ⟨_,h1,h2,h3,_⟩
   have:v=[]:=List.length_eq_zero_iff.mp (Nat.le_zero.mp h3)
   subst this
   have h1:t=r:=h1
   have h2:cs=[]:=h2
   rw [h1,h2]
 | m+1,k,t,⟨v,cs,r⟩=>by
  rw [jfl,List.mem_append]
  constructor
  ·rintro (h | h)
   ·by_cases hl:lo<=k
    ·rw [if_pos hl,List.mem_singleton] at h
     cases h
     refine ⟨(fun _ h=>nomatch h),rfl,?_,Nat.zero_le _,fun _=>hl⟩
     show [false]=if lo<=k then [false] else []
     rw [if_pos hl]
    ·rw [if_neg hl] at h; cases h
   ·cases e:(if k=0 then some t else jcd gap t) with
    | none=>rw [e] at h; cases h
    | some t1 =>
     rw [e] at h
     have et:t=(if k=0 then [] else gap)++t1:=by
      by_cases hk:k=0
      ·rw [if_pos hk] at e ⊢; cases e; rfl
      ·rw [if_neg hk] at e ⊢; exact jeX e
     obtain ⟨x,hx,h⟩:=List.mem_flatMap.mp h
     obtain ⟨y,hy,e2⟩:=List.mem_map.mp h
     obtain ⟨a1,a2,a3⟩:=(jhR li).mp hx
     obtain ⟨b1,b2,b3,b4,b5⟩:=(jdC li).mp hy
     cases e2
     refine ⟨fun q hq=>?_,?_,?_,by simpa using b4,fun hlt=>?_⟩
     ·rcases List.mem_cons.mp hq with rfl | hq
      ·exact a1
      ·exact b1 q hq
     ·rw [et,a2,b2]
      show _=((if k=0 then [] else gap)++(wL inner x.1++wGap inner gap (k+1) y.1))++y.2.2
      simp [List.append_assoc]
     ·show (if lo<=k then true::(x.2.1++y.2.1) else x.2.1++y.2.1)=if lo<=k then true::(cL inner x.1++cRows inner lo m (k+1) y.1) else cL inner x.1++cRows inner lo m (k+1) y.1
      rw [a3,b3]
     ·have:=b5 (by simpa using hlt)
      show lo<=k+(y.1.length+1)
      omega
  ·rintro ⟨h0,h1,h2,h3,h5⟩
   cases v with
   | nil =>
    have hl:lo<=k:=h5 (Nat.succ_pos _)
    left
    rw [if_pos hl,List.mem_singleton]
    have h2:cs=if lo<=k then [false] else []:=h2
    rw [if_pos hl] at h2
    rw [h2,show t=r from h1]
   | cons v vs =>
    right
    have h1:t=((if k=0 then [] else gap)++(wL inner v++wGap inner gap (k+1) vs))++r:=h1
    have e:(if k=0 then some t else jcd gap t)=some (wL inner v++(wGap inner gap (k+1) vs++r)):=by
     rw [h1]
     by_cases hk:k=0
     ·rw [if_pos hk,if_pos hk]; simp [List.append_assoc]
     ·rw [if_neg hk,if_neg hk,List.append_assoc,jgv,List.append_assoc]
    rw [e]
    refine List.mem_flatMap.mpr ⟨(v,cL inner v,wGap inner gap (k+1) vs++r),(jhR li).mpr ⟨h0 v List.mem_cons_self,rfl,rfl⟩,List.mem_map.mpr ⟨(vs,cRows inner lo m (k+1) vs,r),(jdC li).mpr ⟨fun q hq=>h0 q (List.mem_cons_of_mem _ hq),rfl,rfl,by simpa using h3,fun hlt=>?_⟩,?_⟩⟩
    ·have:=h5 (show vs.length+1 < m+1 by have:vs.length < m:=hlt; omega)
     have:lo<=k+(vs.length+1):=this
     show lo<=k+1+vs.length
     omega
    ·have h2:cs=if lo<=k then true::(cL inner v++cRows inner lo m (k+1) vs) else cL inner v++cRows inner lo m (k+1) vs:=h2
     rw [h2]
theorem jmH:∀ {p:MQ} {t:List Nat} {x:RQ×List Bool×List Nat},p.lh->(x∈pQ p t↔(FitQ p x.1/\t=wQ p x.1++x.2.2/\x.2.1=cQ p x.1))
 | .one p,t,⟨v,cs,r⟩,lh=>by
  unfold pQ
  rw [List.mem_map]
  constructor
  ·rintro ⟨y,hy,e⟩
   obtain ⟨a1,a2,a3⟩:=(jhQ lh).mp hy
   cases e
   exact ⟨.one a1,a2,a3⟩
  ·rintro ⟨h1,h2,h3⟩
   have h1:FitQ (.one p) v:=h1
   cases h1 with
   | @one _ v f=>exact ⟨(v,cs,r),(jhQ lh).mpr ⟨f,h2,h3⟩,rfl⟩
 | .rows inner gap lo hi,t,⟨v,cs,r⟩,lh=>by
  unfold pQ
  rw [List.mem_map]
  constructor
  ·rintro ⟨y,hy,e⟩
   obtain ⟨b1,b2,b3,b4,b5⟩:=(jdC lh.2).mp hy
   cases e
   have:=lh.1
   refine ⟨.rows ?_ b4 b1,b2,b3⟩
   by_cases c:y.1.length < hi
   ·have:=b5 c; omega
   ·omega
  ·rintro ⟨h1,h2,h3⟩
   have h1:FitQ (.rows inner gap lo hi) v:=h1
   cases h1 with
   | @rows _ _ _ _ rs a1 a2 a3=>exact ⟨(rs,cs,r),(jdC lh.2).mpr ⟨a3,h2,h3,a2,fun _=>by show lo<=0+rs.length; omega⟩,rfl⟩
theorem jhS:∀ {ps:List MQ} {t:List Nat} {x:List RQ×List Bool×List Nat},(∀ p∈ps,p.lh)->(x∈pF ps t↔(FitF ps x.1/\t=wF ps x.1++x.2.2/\x.2.1=cF ps x.1))
 | [],t,⟨v,cs,r⟩,_=>by
  unfold pF
  rw [List.mem_singleton]
  constructor
  ·intro h; cases h; exact ⟨.nil,rfl,rfl⟩
  ·rintro ⟨h1,h2,h3⟩
   have h1:FitF [] v:=h1
   cases h1
   have h2:t=r:=h2
   have h3:cs=[]:=h3
   rw [h2,h3]
 | p::ps,t,⟨v,cs,r⟩,lh=>by
  have lp:=lh p List.mem_cons_self
  have ls:=fun q hq=>lh q (List.mem_cons_of_mem p hq)
  unfold pF
  rw [List.mem_flatMap]
  constructor
  ·rintro ⟨x,hx,h⟩
   obtain ⟨y,hy,e⟩:=List.mem_map.mp h
   obtain ⟨a1,a2,a3⟩:=(jmH lp).mp hx
   obtain ⟨b1,b2,b3⟩:=(jhS ls).mp hy
   cases e
   refine ⟨.cons a1 b1,?_,?_⟩
   ·rw [a2,b2]
    show _=(wQ p x.1++wF ps y.1)++y.2.2
    rw [List.append_assoc]
   ·show x.2.1++y.2.1=cQ p x.1++cF ps y.1
    rw [a3,b3]
  ·rintro ⟨h1,h2,h3⟩
   have h1:FitF (p::ps) v:=h1
   cases h1 with
   | @cons _ _ v vs f1 f2 =>
    have h2:t=(wQ p v++wF ps vs)++r:=h2
    have h3:cs=cQ p v++cF ps vs:=h3
    refine ⟨(v,cQ p v,wF ps vs++r),(jmH lp).mpr ⟨f1,by rw [h2,List.append_assoc],rfl⟩,List.mem_map.mpr ⟨(vs,cF ps vs,r),(jhS ls).mpr ⟨f2,rfl,rfl⟩,?_⟩⟩
    rw [h3]
theorem rds_iff {ps:List MQ} {t:List Nat} {x:List RQ×List Bool} (lh:∀ p∈ps,p.lh):x∈rds ps t↔(FitF ps x.1/\t=wF ps x.1/\x.2=cF ps x.1):=by
 unfold rds
 rw [List.mem_filterMap]
 constructor
 ·rintro ⟨y,hy,e⟩
  obtain ⟨a1,a2,a3⟩:=(jhS lh).mp hy
  by_cases h:y.2.2=[]
  ·rw [if_pos h] at e
   cases e
   rw [h,List.append_nil] at a2
   exact ⟨a1,a2,a3⟩
  ·rw [if_neg h] at e; cases e
 ·rintro ⟨h1,h2,h3⟩
  refine ⟨(x.1,x.2,[]),(jhS lh).mpr ⟨h1,by rw [List.append_nil]; exact h2,h3⟩,?_⟩
  rw [if_pos rfl]
theorem jee {b:Bool} {l:List (List Bool)} (h:l.Nodup):(l.map (b::·)).Nodup:=by
 induction l with
 | nil=>exact List.nodup_nil
 | cons x r ih =>
  obtain ⟨h1,h2⟩:=List.nodup_cons.mp h
  rw [List.map_cons]
  refine List.nodup_cons.mpr ⟨fun z=>h1 ?_,ih h2⟩
  obtain ⟨y,hy,e⟩:=List.mem_map.mp z
  cases e
  exact hy
theorem jlK {S:List Stp}:∀ (n:Nat) (t:List Nat),(paths S n t).Nodup:=by
 intro n
 induction n using Nat.strongRecOn with
 | _ n ih =>
  intro t
  cases n with
  | zero =>
   rw [jaN]
   by_cases e:t=[]
   ·rw [if_pos e]; simp
   ·rw [if_neg e]; exact List.nodup_nil
  | succ n =>
   cases hs:S[n+1]? with
   | none=>rw [jeW hs]; exact List.nodup_nil
   | some st =>
    cases st with
    | sign s =>
     rw [jaO hs]
     cases t with
     | nil=>exact List.nodup_nil
     | cons c t =>
      dsimp only
      by_cases hc:c∈s
      ·rw [if_pos hc]; exact ih n (by omega) t
      ·rw [if_neg hc]; exact List.nodup_nil
    | choice b =>
     by_cases hb:b<=n
     ·rw [jaA hs hb]
      refine List.nodup_append.mpr ⟨jee (ih b (by omega) t),jee (ih n (by omega) t),fun x hx y hy e=>?_⟩
      obtain ⟨x',_,ex⟩:=List.mem_map.mp hx
      obtain ⟨y',_,ey⟩:=List.mem_map.mp hy
      rw [<- ex,<- ey] at e
      cases e
     ·rw [paths,hs]
      simp only [hb,dite_false]
      exact List.nodup_nil
theorem jgw {α β:Type} {f:α->β}:∀ {l:List α},(l.map f).Nodup->l.Nodup
 | [],_=>List.nodup_nil
 | x::r,h=>by
  obtain ⟨h1,h2⟩:=List.nodup_cons.mp h
  exact List.nodup_cons.mpr ⟨fun z=>h1 (List.mem_map.mpr ⟨x,z,rfl⟩),jgw h2⟩
theorem jgx {α β:Type} {f:α->β}:∀ {l:List α},(∀ x∈l,∀ y∈l,f x=f y->x=y)->l.Nodup->(l.map f).Nodup
 | [],_,_=>List.nodup_nil
 | x::r,hi,h=>by
  obtain ⟨h1,h2⟩:=List.nodup_cons.mp h
  rw [List.map_cons]
  refine List.nodup_cons.mpr ⟨fun z=>?_,jgx (fun a ha b hb=>hi a (List.mem_cons_of_mem _ ha) b (List.mem_cons_of_mem _ hb)) h2⟩
  obtain ⟨y,hy,e⟩:=List.mem_map.mp z
  have:=hi x List.mem_cons_self y (List.mem_cons_of_mem _ hy) e.symm
  rw [this] at h1
  exact h1 hy
theorem rds_nd {ps:List MQ} (lh:∀ p∈ps,p.lh) (t:List Nat):((rds ps t).map (·.1)).Nodup:=by
 have h1:(rds ps t).Nodup:=jgw (f:=(·.2)) (by rw [<- paths_form]; exact jlK _ _)
 refine jgx (fun x hx y hy e=>?_) h1
 obtain ⟨_,_,a⟩:=(rds_iff lh).mp hx
 obtain ⟨_,_,b⟩:=(rds_iff lh).mp hy
 have e:x.1=y.1:=e
 exact Prod.ext e (by rw [a,b,e])
def Single (ps:List MQ):Prop:=∀ t,(rds ps t).length<=1
structure Exp (S:List Stp) (P:Nat->Nat->Prop) (i j:Nat):Prop where
 a:∀ i' b,i=i'+1->S[i]?=some (.choice b)->P i' j/\P b j
 b:∀ j' b s,S[i]?=some (.sign s)->j=j'+1->S[j]?=some (.choice b)->P i j'/\P i b
 c:∀ i' j' s s' c,i=i'+1->j=j'+1->S[i]?=some (.sign s)->S[j]?=some (.sign s')->c∈s->c∈s'->P i' j'
section
variable {S:List Stp} {P:Nat->Nat->Prop}
theorem jch {n b:Nat} {t:List Nat} (h:S[n+1]?=some (.choice b)) (hb:b<=n) (hp:paths S (n+1) t≠[]):paths S b t≠[]\/paths S n t≠[]:=by
 rw [jaA h hb] at hp
 by_cases e:paths S b t=[]
 ·refine .inr fun z=>hp ?_
  rw [e,z]; rfl
 ·exact .inl e
theorem jdh {n:Nat} {s t:List Nat} (h:S[n+1]?=some (.sign s)) (hp:paths S (n+1) t≠[]):∃ c t',t=c::t'/\c∈s/\paths S n t'≠[]:=by
 rw [jaO h] at hp
 cases t with
 | nil=>exact absurd rfl hp
 | cons c t' =>
  dsimp only at hp
  by_cases hc:c∈s
  ·rw [if_pos hc] at hp; exact ⟨c,t',rfl,hc,hp⟩
  ·rw [if_neg hc] at hp; exact absurd rfl hp
theorem exp_no (hd:Down S) (h0:S[0]?=some (.sign [])) (low:∀ i j,P i j->i < S.length/\j < S.length) (no0:¬ P 0 0) (sym:∀ i j,P i j->P j i)
  (ex:∀ i j,P i j->Exp S P i j\/Exp S P j i):∀ (m i j:Nat),i+j<=m->P i j->¬ Meets S i j:=by
 intro m
 induction m using Nat.strongRecOn with
 | _ m ih =>
  have go:∀ i j,i+j<=m->P i j->Exp S P i j->¬ Meets S i j:=by
   rintro i j hm p e ⟨t,h1,h2⟩
   cases i with
   | zero =>
    have ht:t=[]:=by
     rw [jaN] at h1
     by_cases z:t=[]
     ·exact z
     ·rw [if_neg z] at h1; exact absurd rfl h1
    subst ht
    cases j with
    | zero=>exact no0 p
    | succ j' =>
     obtain ⟨_,lj⟩:=low _ _ p
     obtain ⟨st,hst⟩:∃ st,S[j'+1]?=some st:=⟨_,List.getElem?_eq_getElem lj⟩
     cases st with
     | sign s =>
      obtain ⟨c,t',e,_⟩:=jdh hst h2
      cases e
     | choice b =>
      have hb:=hd _ _ hst
      obtain ⟨p1,p2⟩:=e.b j' b [] h0 rfl hst
      rcases jch hst hb h2 with z | z
      ·exact ih (0+b) (by omega) 0 b (Nat.le_refl _) p2 ⟨[],h1,z⟩
      ·exact ih (0+j') (by omega) 0 j' (Nat.le_refl _) p1 ⟨[],h1,z⟩
   | succ i' =>
    obtain ⟨li,lj⟩:=low _ _ p
    obtain ⟨st,hst⟩:∃ st,S[i'+1]?=some st:=⟨_,List.getElem?_eq_getElem li⟩
    cases st with
    | choice b =>
     have hb:=hd _ _ hst
     obtain ⟨p1,p2⟩:=e.a i' b rfl hst
     rcases jch hst hb h1 with z | z
     ·exact ih (b+j) (by omega) b j (Nat.le_refl _) p2 ⟨t,z,h2⟩
     ·exact ih (i'+j) (by omega) i' j (Nat.le_refl _) p1 ⟨t,z,h2⟩
    | sign s =>
     obtain ⟨c,t',et,hc,h1'⟩:=jdh hst h1
     cases j with
     | zero =>
      rw [jaN] at h2
      by_cases z:t=[]
      ·rw [et] at z; cases z
      ·rw [if_neg z] at h2; exact h2 rfl
     | succ j' =>
      obtain ⟨sj,hsj⟩:∃ st,S[j'+1]?=some st:=⟨_,List.getElem?_eq_getElem lj⟩
      cases sj with
      | choice b =>
       have hb:=hd _ _ hsj
       obtain ⟨p1,p2⟩:=e.b j' b s hst rfl hsj
       rcases jch hsj hb h2 with z | z
       ·exact ih (i'+1+b) (by omega) (i'+1) b (Nat.le_refl _) p2 ⟨t,h1,z⟩
       ·exact ih (i'+1+j') (by omega) (i'+1) j' (Nat.le_refl _) p1 ⟨t,h1,z⟩
      | sign s' =>
       obtain ⟨c',t2,et2,hc',h2'⟩:=jdh hsj h2
       rw [et] at et2
       cases et2
       exact ih (i'+j') (by omega) i' j' (Nat.le_refl _) (e.c i' j' s s' c rfl rfl hst hsj hc hc') ⟨t',h1',h2'⟩
  intro i j hm p
  rcases ex i j p with e | e
  ·exact go i j hm p e
  ·exact fun z=>go j i (by omega) (sym _ _ p) e z.symm
end
theorem single_of {ps:List MQ} (hg:∀ p∈ps,p.good) (h:∀ k b,(stepsOf ps)[k+1]?=some (.choice b)->¬ Meets (stepsOf ps) k b):Single ps:=fun t=>by
 have:=jnC (n:=(stepsOf ps).length - 1) (steps_down hg) (fun k b _ e=>h k b e) ((stepsOf ps).length - 1) t (Nat.le_refl _)
 rw [paths_form,List.length_map] at this
 exact this
theorem two_of {ps:List MQ} {t:List Nat} (h:Leads (stepsOf ps) ((stepsOf ps).length - 1) 0 0 t):2<=(rds ps t).length:=by
 have:=h.done
 rw [paths_form,List.length_map] at this
 exact this
end Mth
namespace L2
open PySem PySem.Spec PyProof.Rows
def ItD (lo:Int) (n:Nat):It:=⟨fun i _=>i < n,fun i H x H'=>H'=H/\x=.int (lo - i),fun i _=>n<=i⟩
theorem jgY {P:Program} {w:World} {K:PySem.W.Frag} {tg:Expr} (it:Addr) (lo:Int) (n:Nat):Turn P w K tg (ItD lo n) [it] it (fun i h=>IsRangeIter h it (lo+(i:Nat) * (-1)) ((n:Int) - (i:Nat)) (-1)) where
 mem:=by simp
 obj:=fun i h st b hb=>by
  obtain rfl:b=it:=by simpa using hb
  exact ⟨_,st,fun v z=>by
   have y:Data.fields _=Data.cell v:=z
   cases y⟩
 keep:=fun i h h' st k=>k it (by simp) _ st
 item:=by
  intro X hP hw hK hc i pins s σ H E I hf st hg
  subst hP hw hK
  obtain ⟨f0,f1,f2,f3,f4,f5⟩:=hf it (by simp)
  refine (Walks.range (prog:=X.prog) (w:=X.w) (I.ok.hd hc) it lo (-1) n).item i s _ _ hg st fun v h' tk hv st' kk=>?_
  obtain ⟨t,rfl⟩:=hv
  have J:Inv X pins σ H {s with heap:=h',toks:=tk}:=I.turned (fun b o hb e=>kk b o (by simpa using hb) e) f0 f1 f3 f4 f5
  refine ⟨_,rfl,jjf (s:={s with heap:=h',toks:=tk}) (n:="range_iterator") st' rfl rfl (by decide) ⟨.int (lo - i),H,J,⟨t,?_⟩,⟨rfl,rfl⟩,st',fun b hb=>(hf b hb).1⟩⟩
  rw [Int.mul_neg_one]; rfl
 done:=by
  intro X hP hw hK hc i pins s σ H E I hf st hg
  subst hP hw hK
  obtain ⟨f0,f1,f2,f3,f4,f5⟩:=hf it (by simp)
  exact wpAny_pyNext_range_end (I.ok.hd hc) st (by have:n<=i:=hg; omega) fun h' eb=>⟨rfl,I.turned (t':=s.toks) (fun b o hb e=>eb b o hb e) f0 f1 f3 f4 f5⟩
 self:=fun _ _ _ _ _ st h=>wpAny_pyIter_rangeiter st h
section
variable {X:Cx} {tg:Expr}
theorem jjS {pins:List (Addr×Obj)} {σ:St} {H:Hp} {s:Shared} {R:It->Hp->Prop} {E:Value->Shared->Prop} {lo hi:Int} {t u v:Tok} {tk:Nat} (I:Inv X pins σ H s) (h1:-(2 ^ 62)<=lo) (h2:lo < 2 ^ 62) (h3:-(2 ^ 62)<=hi) (h4:hi < 2 ^ 62)
  (q:R (ItD lo (lo - hi).toNat) H):wpAny (model X.prog X.w) X.A (pyIter (.ref s.heap.objs.size)) (PIE X pins σ tg R) E {s with heap:=s.heap.push {cls:=.type "range",data:=.fields #[.int lo t,.int hi u,.int (-1) v]},toks:=tk}:=by
 refine wpAny_pyIter_range (IsRange.new ..) (PySem.W.small_down h1 h2 h3 h4) ?_
 have J:Inv X pins σ H {s with heap:=s.heap.push {cls:=.type "range",data:=.fields #[.int lo t,.int hi u,.int (-1) v]},toks:=tk}:=I.kept fun b o e=>Heap.get?_push_of_some _ e
 generalize hG:s.heap.push {cls:=.type "range",data:=.fields #[.int lo t,.int hi u,.int (-1) v]}=G at J ⊢
 refine ⟨G.objs.size,[G.objs.size],_,_,H,rfl,J.kept (t':=tk) fun b o e=>Heap.get?_push_of_some _ e,jgY _ lo (lo - hi).toNat,?_,fun b hb=>?_,q⟩
 ·have e1:lo+((0:Nat):Int) * (-1)=lo:=by simp
  have e2:(((lo - hi).toNat:Nat):Int) - ((0:Nat):Int)=Builtin.Range.rangeSize lo hi (-1):=by rw [PySem.W.rangeSize_downNat]; simp
  show IsRangeIter _ _ (lo+((0:Nat):Int) * (-1)) ((((lo - hi).toNat:Nat):Int) - ((0:Nat):Int)) (-1)
  rw [e1,e2]
  exact Heap.get?_push_size _ rfl
 ·obtain rfl:b=G.objs.size:=by simpa using hb
  exact J.fpOk (Nat.le_refl _) (J.hok.fresh (Nat.le_refl _))
def iRngD (ta:TA):TI:=fun σ H R=>ta σ H fun vs H1=>∃ i j:Int,vs=[.int i,.int j,.int (-1)]/\(-(2 ^ 62)<=i/\i < 2 ^ 62/\-(2 ^ 62)<=j/\j < 2 ^ 62)/\R (ItD i (i - j).toNat) H1
theorem jef {a b c:Expr} {ta:TA} {p pos:Pos} (hg:Gl X "range") (hm:X.mg "range"=none) (ha:PA X [a,b,c] ta) (hs:starEach [a,b,c] X.env=(false,eval a X.env)::starEach [b,c] X.env:=by rfl) (hpl:(backTo pos (starEach [b,c] X.env)).any (·.1)=false:=by rfl) :
  PI X tg (.Call (.Name "range" p) [a,b,c] [] pos) (iRngD ta):=by
 intro pins s σ H R I h
 refine Call_ (ld_blt I hg hm boot_range (PyProof.Rows.callWith_type1 (thn (ha pos pins s σ H _ I h) fun us s1 ⟨vs,H1,I1,r1,q1⟩=>?_) hs hpl))
 obtain ⟨i,j,e,⟨q1,q2,q3,q4⟩,q⟩:=q1
 subst e
 cases r1 with
 | cons r rr =>
  cases rr with
  | cons r' rr =>
   cases rr with
   | cons r'' rr =>
    cases rr
    obtain ⟨t,rfl⟩:=r
    obtain ⟨t',rfl⟩:=r'
    obtain ⟨t'',rfl⟩:=r''
    exact call_range_3 (by decide) (jjS I1 q1 q2 q3 q4 q)
end
theorem jdi {lo:Int} {n:Nat} {g:TG} {tb:TS} {D:Ends} {σ:St} {H:Hp} (Pv:Nat->St->Hp->Prop) (h0:Pv 0 σ H)
  (hs:∀ i σ H,i < n->Pv i σ H->g (.int (lo - i)) σ H fun σ2 H2=>tb {D with nx:=Pv (i+1),ct:=Pv (i+1),bk:=D.nx} σ2 H2) (hd:∀ σ H,Pv n σ H->D.nx σ H) :
  ∃ W:Nat->Nat->St->Hp->Prop,(∃ m,W 0 m σ H)/\∀ i m σ H,W i m σ H ->
   ((ItD lo n).stop i H/\D.nx σ H)\/((ItD lo n).go i H/\∃ N:St->Hp->Prop,(∀ σ' H',N σ' H'->∃ m',m' < m/\W (i+1) m' σ' H')/\∀ x H',(ItD lo n).yld i H x H'->g x σ H' fun σ2 H2=>tb {D with nx:=N,ct:=N,bk:=D.nx} σ2 H2):=by
 refine ⟨fun i m σ H=>m=n - i/\i<=n/\Pv i σ H,⟨n,by simp,Nat.zero_le _,h0⟩,?_⟩
 rintro i m σ H ⟨rfl,hi,p⟩
 by_cases hlt:i < n
 ·refine .inr ⟨hlt,Pv (i+1),fun σ' H' p'=>⟨n - (i+1),by omega,rfl,hlt,p'⟩,fun x H' y=>?_⟩
  obtain ⟨e,y⟩:=y
  subst e y
  exact hs i σ _ hlt p
 ·obtain rfl:i=n:=by omega
  exact .inl ⟨Nat.le_refl _,hd σ H p⟩
def joZ (K:PySem.W.Frag) (a:Addr) (n:Nat):It :=
 ⟨fun i H=>i < n/\∃ xs,SqL K H a xs/\xs.length=n,fun i H x H'=>H'=H/\∀ xs,SqL K H a xs->xs[n - 1 - i]?=some x,fun i H=>n<=i⟩
theorem jgy {P:Program} {w:World} {K:PySem.W.Frag} {tg:Expr} (a it:Addr) (n:Nat):Turn P w K tg (joZ K a n) [it] it (fun i h=>i<=n/\h.IsRevIter it a ((n:Int) - 1 - (i:Int))) where
 mem:=by simp
 obj:=fun i h st b hb=>by
  obtain rfl:b=it:=by simpa using hb
  obtain ⟨_,o,e,c,d⟩:=st
  exact ⟨o,e,fun v z=>by rw [d] at z; cases z⟩
 keep:=fun i h h' st k=>⟨st.1,st.2.at fun o e=>k it (by simp) o e⟩
 item:=by
  intro X hP hw hK hc i pins s σ H E I hf st hg
  subst hP hw hK
  obtain ⟨hi,xs,hq,hx⟩:=hg
  obtain ⟨its,rv,p,hz⟩:=I.list hq
  obtain ⟨f0,f1,f2,f3,f4,f5⟩:=hf it (by simp)
  have hl:=rv.length
  have hk:n - 1 - i < xs.length:=by omega
  obtain ⟨u,hu,ru⟩:=rv.get (List.getElem?_eq_getElem hk)
  have e:(n:Int) - 1 - (i:Int)=((n - 1 - i:Nat):Int):=by omega
  have st':=st.2
  rw [e] at st'
  refine wpAny_pyNext_rev_item st' p.isList (x:=u) (by simpa using hu) fun h' hit' sb=>?_
  have e2:((n - 1 - i:Nat):Int) - 1=(n:Int) - 1 - ((i+1:Nat):Int):=by omega
  rw [e2] at hit'
  have J:Inv X pins σ H {s with heap:=h'}:=I.turned (t':=s.toks) (fun b o hb e=>(sb.2 b hb).trans e) f0 f1 f3 f4 f5
  obtain ⟨o,e,c,d⟩:=id hit'
  exact ⟨u,rfl,jjf (s:={s with heap:=h'}) e c d (by decide) ⟨_,H,J,ru,⟨rfl,fun ys hy=>by rw [I.list_inj hy hq]; exact List.getElem?_eq_getElem hk⟩,⟨hi,hit'⟩,fun b hb=>(hf b hb).1⟩⟩
 done:=by
  intro X hP hw hK hc i pins s σ H E I hf st hg
  subst hP hw hK
  obtain ⟨f0,f1,f2,f3,f4,f5⟩:=hf it (by simp)
  have e:(n:Int) - 1 - (i:Int)=-1:=by have:=st.1; have:n<=i:=hg; omega
  have st':=st.2
  rw [e] at st'
  exact wpAny_pyNext_rev_end (I.ok.hd hc) st' fun h' eb=>⟨rfl,I.turned (t':=s.toks) (fun b o hb e=>eb b o hb e) f0 f1 f3 f4 f5⟩
 self:=fun _ _ _ _ _ st h=>wpAny_pyIter_revIter st.2 h
section
variable {X:Cx} {tg:Expr}
def iRevL (K:PySem.W.Frag) (ta:TA):TI:=fun σ H R=>ta σ H fun vs H1=>∃ a xs,vs=[.ref a]/\SqL K H1 a xs/\R (joZ K a xs.length) H1
theorem jiO {e:Expr} {ta:TA} {p pos:Pos} (hg:Gl X "reversed") (hm:X.mg "reversed"=none) (ha:PA X [e] ta) (hs:starEach [e] X.env=[(false,eval e X.env)]:=by rfl):PI X tg (.Call (.Name "reversed" p) [e] [] pos) (iRevL X.K ta):=by
 intro pins s σ H R I h
 refine Call_ (ld_blt I hg hm boot_reversed (PyProof.Rows.callWith_type1 (thn (ha pos pins s σ H _ I h) fun us s1 ⟨vs,H1,I1,r1,q1⟩=>?_) hs rfl))
 obtain ⟨a,xs,ev,hq,q⟩:=q1
 subst ev
 cases r1 with
 | cons r rr =>
  cases rr
  cases r
  obtain ⟨its,rv,pl,hz⟩:=I1.list hq
  have hl:its.toArray.size=xs.length:=by rw [List.size_toArray]; exact rv.length.symm
  refine call_reversed_list pl.isList ?_
  have st:(s1.heap.push (revObj a ((its.toArray.size:Int) - 1))).IsRevIter s1.heap.objs.size a ((xs.length:Int) - 1 - ((0:Nat):Int)):=by
   rw [hl]
   refine ⟨_,Heap.get?_push_size _ rfl,rfl,?_⟩
   simp [revObj]
  refine wpAny_pyIter_revIter (s:={s1 with heap:=s1.heap.push (revObj a ((its.toArray.size:Int) - 1))}) st ?_
  refine ⟨s1.heap.objs.size,[s1.heap.objs.size],_,_,H1,rfl,I1.kept (t':=s1.toks) fun b o e=>Heap.get?_push_of_some _ e,jgy a _ xs.length,⟨Nat.zero_le _,st⟩,fun b hb=>?_,q⟩
  obtain rfl:b=s1.heap.objs.size:=by simpa using hb
  exact I1.fpOk (Nat.le_refl _) (I1.hok.fresh (Nat.le_refl _))
end
theorem jgZ {K:PySem.W.Frag} {a:Addr} {xs:List V} {g:TG} {tb:TS} {D:Ends} {σ:St} {H:Hp} (Pv:Nat->St->Hp->Prop) (h0:Pv 0 σ H) (hl:∀ i σ H,i<=xs.length->Pv i σ H->SqL K H a xs)
  (hs:∀ i x σ H,i < xs.length->xs[xs.length - 1 - i]?=some x->Pv i σ H->g x σ H fun σ2 H2=>tb {D with nx:=Pv (i+1),ct:=Pv (i+1),bk:=D.nx} σ2 H2) (hd:∀ σ H,Pv xs.length σ H->D.nx σ H) :
  ∃ W:Nat->Nat->St->Hp->Prop,(∃ m,W 0 m σ H)/\∀ i m σ H,W i m σ H ->
   ((joZ K a xs.length).stop i H/\D.nx σ H)\/((joZ K a xs.length).go i H/\∃ N:St->Hp->Prop,(∀ σ' H',N σ' H'->∃ m',m' < m/\W (i+1) m' σ' H')/\∀ x H',(joZ K a xs.length).yld i H x H'->g x σ H' fun σ2 H2=>tb {D with nx:=N,ct:=N,bk:=D.nx} σ2 H2):=by
 refine ⟨fun i m σ H=>m=xs.length - i/\i<=xs.length/\Pv i σ H,⟨xs.length,by simp,Nat.zero_le _,h0⟩,?_⟩
 rintro i m σ H ⟨rfl,hi,p⟩
 have q:=hl i σ H hi p
 by_cases hlt:i < xs.length
 ·refine .inr ⟨⟨hlt,xs,q,rfl⟩,Pv (i+1),fun σ' H' p'=>⟨xs.length - (i+1),by omega,rfl,hlt,p'⟩,fun x H' y=>?_⟩
  obtain ⟨e,y⟩:=y
  subst e
  exact hs i x σ _ hlt (y xs q) p
 ·obtain rfl:i=xs.length:=by omega
  exact .inl ⟨Nat.le_refl _,hd σ H p⟩
theorem jmI:Manifest.owners.lookup (String.ofList ['d','e','s','r','e','v','e','r'].reverse)=some Manifest.sig_reversed:=by kernel_rfl
theorem rv_next:Slot "reversed" "__next__" "reversed.__next__":=.of (owner:="reversed") (n:="__next__") (by rw [typeLookup_type,builtinLookup_eq_fast]; kernel_rfl)
 (by decide +kernel) (by decide +kernel) (by decide +kernel) (by first | exact .inl (by decide +kernel) | exact .inr (by decide +kernel)) (by rw [isSubtype_type]; kernel_rfl)
theorem jjT:Slot "reversed" "__iter__" "reversed.__iter__":=.of (owner:="reversed") (n:="__iter__") (by rw [typeLookup_type,builtinLookup_eq_fast]; kernel_rfl)
 (by decide +kernel) (by decide +kernel) (by decide +kernel) (by first | exact .inl (by decide +kernel) | exact .inr (by decide +kernel)) (by rw [isSubtype_type]; kernel_rfl)
theorem jnD:Slot "reversed" "__init__" "object.__init__":=.of (owner:="object") (n:="__init__") (by rw [typeLookup_type,builtinLookup_eq_fast]; kernel_rfl)
 (by decide +kernel) (by decide +kernel) (by decide +kernel) (by first | exact .inl (by decide +kernel) | exact .inr (by decide +kernel)) (by rw [isSubtype_type]; kernel_rfl)
theorem jhT:entryFor table "reversed.__next__"=some Builtin.«reversed.__next__»:=entryFor_of_tree (by kernel_rfl)
theorem jlL:entryFor table "reversed.__iter__"=some Builtin.«dict_keyiterator.__iter__» :=
 entryFor_alias (id':="dict_keyiterator.__iter__") (by kernel_rfl) (by first | rfl | decide +kernel | (unfold String.splitOn; simp +decide [String.splitOnAux])) (by decide +kernel) (by kernel_rfl)
theorem jhU (a:Value):argsOk "reversed.__next__" ⟨[a],[]⟩:=by
 unfold argsOk
 rw [signature?_of (id:="reversed.__next__") (n:=['_','_','t','x','e','n','_','_']) (o:=['d','e','s','r','e','v','e','r']) (by kernel_rfl) jmI]
 kernel_rfl
theorem jlM (a:Value):argsOk "reversed.__iter__" ⟨[a],[]⟩:=by
 unfold argsOk
 rw [signature?_of (id:="reversed.__iter__") (n:=['_','_','r','e','t','i','_','_']) (o:=['d','e','s','r','e','v','e','r']) (by kernel_rfl) jmI]
 kernel_rfl
theorem jjU:TypeCalled "reversed" "reversed.__new__" "object.__init__":=⟨by decide +kernel,F.create_reversed,⟨_,_,F.mro_reversed⟩,F.made_reversed,F.plain_reversed_new,F.sub_reversed_self,jnD⟩
theorem jpa:typeLookup (.type "str") "__reversed__"=pure none:=by rw [typeLookup_type,builtinLookup_eq_fast]; kernel_rfl
section
variable {prog:Program} {w:World} {A:Around} {E:Value->Shared->Prop} {s:Shared}
abbrev jjV (z:Str) (t:Tok) (i:Int):Obj:={cls:=.type "reversed",data:=.fields #[.str z t,rawInt i]}
theorem jpb (z:Str) (t:Tok) (hz:z.length<=sizeLine):MeetsIn prog w (Builtin.«reversed.__new__» ⟨[.type "reversed",.str z t],[]⟩)
  (fun A R s=>∀ tk,R (.ok (.ret (.ref s.heap.objs.size))) {s with heap:=s.heap.push (jjV z t ((z.length:Int) - 1)),toks:=tk}):=.of_wp fun A R s h=>by
 have hn:=jcH
 unfold Builtin.«reversed.__new__»
 refine wpAny_bind (wpAny_of_eq (newClass_reversed _) ?_)
 try dsimp only
 refine wpAny_bind (wpAny_of_eq (a:=()) (by first | rfl | kernel_rfl) ?_)
 refine wpAny_bind (wpAny_of_eq (a:=()) (by first | rfl | kernel_rfl) ?_)
 try dsimp only
 refine wpAny_bind (wpAny_specialOf (typeIs_str s z t) jpa ?_)
 try dsimp only
 refine wpAny_bind (wpAny_of_eq (a:=true) (by first | rfl | kernel_rfl) ?_)
 rw [if_neg (by decide)]
 refine wpAny_bind (len_str (by omega) ?_)
 refine wpAny_bind (wpAny_of_eq (a:=some (z.length:Int)) (by rfl) ?_)
 try dsimp only
 refine wpAny_bind ?_
 unfold Builtin.SmallTypes.newRecord
 refine wpAny_newObj_type ?_ (by size_fits)
 exact wpAny_pure ⟨_,rfl,h _⟩
def jnE (h:Heap) (a:Addr) (z:Str) (t:Tok) (i:Int):Prop:=h.get? a=some (jjV z t i)
theorem jcC {a:Addr} {z:Str} {t:Tok} {i:Int} (x:jnE s.heap a z t i):s.TypeIs (.ref a) "reversed":=⟨_,x,rfl⟩
theorem jnF {z:Str} {t:Tok} {Q:Value->Shared->Prop} (hz:z.length<=sizeLine) (h:∀ tk,Q (.ref s.heap.objs.size) {s with heap:=s.heap.push (jjV z t ((z.length:Int) - 1)),toks:=tk}):wpAny (model prog w) A (call (.type "reversed") [.str z t]) Q E s :=
 callType_newIn jjU (by decide) (F.typeCall_reversed_1 _) (F.newCall_reversed_1 _) (fun obj=>F.args_object_init_2 obj _) F.entry_reversed_new (jpb z t hz) fun tk=>⟨⟨_,Heap.get?_push_size _ rfl,rfl⟩,h tk⟩
theorem jjW {it:Addr} {z:Str} {t:Tok} {i:Int} {Q:Value->Shared->Prop} (x:jnE s.heap it z t i) (h:Q (.ref it) s):wpAny (model prog w) A (pyIter (.ref it)) Q E s:=by
 refine wpAny_pyIter_slot (jcC x) jjT (wpAny_call_entry jjT (jcC x) jlL ?_ (jlM _))
 show wpAny _ _ (ret (.ref it)) _ _ s
 exact wpAny_pure ⟨_,rfl,"reversed",_,jcC x,rv_next.lookup,h⟩
theorem jnG {it:Addr} {z:Str} {t:Tok} {i c:Nat} {Q:Option Value->Shared->Prop} (x:jnE s.heap it z t (i:Int)) (hc:z.cps[i]?=some c) (hz:z.length<=sizeLine)
  (hQ:∀ h' tk u,jnE h' it z t ((i:Int) - 1)->Heap.SameBut it s.heap h'->Q (some (.str ⟨#[c]⟩ u)) {s with heap:=h',toks:=tk}):wpAny (model prog w) A (pyNext (.ref it)) Q E s:=by
 have hn:=jcH
 have hi:i < z.cps.size:=(Array.getElem?_eq_some_iff.mp hc).1
 have hi2:i < z.length:=hi
 unfold pyNext
 refine wpAny_bind (wpAny_attempt (wpAny_callSpecial?_slot (name:=Str.ofString "__next__") (jcC x) rv_next (wpAny_call_entry rv_next (jcC x) jhT ?_ (jhU _))))
 unfold Builtin.«reversed.__next__»
 refine wpAny_bind (wpAny_of_eq (a:=(Value.ref it,[])) rfl ?_)
 try dsimp only
 refine wpAny_bind (wpAny_field x rfl (x:=.str z t) rfl ?_)
 refine wpAny_bind (wpAny_field x rfl (x:=rawInt (i:Int)) rfl ?_)
 show wpAny _ _ (if (i:Int) < 0 then _ else _) _ _ s
 rw [if_neg (by omega)]
 refine wpAny_bind (wpAny_specialOf (typeIs_str s z t) slot_str_getitem.lookup ?_)
 rw [if_neg (by decide)]
 refine wpAny_bind (wpAny_mkInt ?_)
 have e1:decide ((i:Int) < -(2 ^ 63:Int))=false:=decide_eq_false (by omega)
 have e2:decide ((i:Int) ≥ 2 ^ 63)=false:=decide_eq_false (by omega)
 refine wpAny_bind (wpAny_attempt (getItem_str (c:=c) (by rw [e1,e2]; rfl) (by rw [seqIndex_of (by omega) (by omega)]; simpa using hc) ?_))
 try dsimp only
 refine wpAny_bind (wpAny_field (s:={s with toks:=s.toks+1+1}) x rfl (x:=rawInt (i:Int)) rfl ?_)
 try dsimp only
 show wpAny _ _ (setField (.ref it) 1 (rawInt ((i:Int) - 1))>>=_) _ _ _
 refine wpAny_bind (wpAny_setField (s:={s with toks:=s.toks+1+1}) x rfl (by simp) ?_)
 refine wpAny_pure ⟨_,rfl,wpAny_pure (hQ _ _ _ ?_ (Heap.SameBut.update ..))⟩
 exact Heap.get?_update_self _ x rfl
theorem jpc {it:Addr} {z:Str} {t:Tok} {Q:Option Value->Shared->Prop} (hh:A.handled=none) (x:jnE s.heap it z t (-1)) (hQ:∀ h',Heap.ExtBut it s.heap h'->Q none {s with heap:=h'}):wpAny (model prog w) A (pyNext (.ref it)) Q E s:=by
 unfold pyNext
 refine wpAny_bind (wpAny_attempt (wpAny_callSpecial?_slot (name:=Str.ofString "__next__") (jcC x) rv_next (wpAny_call_entry rv_next (jcC x) jhT ?_ (jhU _))))
 unfold Builtin.«reversed.__next__»
 refine wpAny_bind (wpAny_of_eq (a:=(Value.ref it,[])) rfl ?_)
 try dsimp only
 refine wpAny_bind (wpAny_field x rfl (x:=.str z t) rfl ?_)
 refine wpAny_bind (wpAny_field x rfl (x:=rawInt (-1)) rfl ?_)
 show wpAny _ _ (if (-1:Int) < 0 then _ else _) _ _ s
 rw [if_pos (by decide)]
 refine wpAny_bind (wpAny_rule ?_)
 show wpAny _ _ ((do setField (.ref it) 1 (rawInt (-1)); setField (.ref it) 0 .none)>>=_) _ _ _
 have g1:=Heap.get?_update_self (Obj.mapFields (·.setIfInBounds 1 (rawInt (-1)))) x rfl
 refine wpAny_bind (wpAny_bind (wpAny_setField x rfl (by simp) (wpAny_setField (s:={s with heap:=s.heap.update it (Obj.mapFields (·.setIfInBounds 1 (rawInt (-1))))}) g1 rfl (by simp) ?_)))
 refine wpAny_bind ?_; show wpAny _ _ (newExc (.type "StopIteration") []>>=_) _ _ _; refine wpAny_bind ?_
 simp only [newExc,newTuple]; refine wpAny_bind (wpAny_newObj_type ?_ (by size_fits)); refine wpAny_bind (m:=firstArgMember _ _) (wpAny_of_eq (a:=Value.none) (by first | rfl | (simp only [firstArgMember]; rfl)) ?_)
 refine wpAny_newObj_type ?_ (by size_fits); simp only [raiseNew]; refine wpAny_bind (wpAny_handled ?_)
 rw [show A.in1.handled=none from hh]; refine wpAny_bind (wpAny_pure (wpAny_throw ?_))
 refine wpAny_bind (wpAny_isInstance (T:="StopIteration") (b:=true) ⟨_,Heap.get?_push_size _ rfl,rfl⟩ isSubtype_stop ?_)
 refine wpAny_pure (hQ _ ?_)
 intro b o hb e
 exact Heap.get?_push_of_some _ (Heap.get?_push_of_some _ ((Heap.get?_update_other _ _ (Ne.symm hb)).trans ((Heap.get?_update_other _ _ (Ne.symm hb)).trans e)))
end
def ItRS (z:Str):It:=⟨fun i _=>i < z.cps.size,fun i H x H'=>H'=H/\∃ c,z.cps[z.cps.size - 1 - i]?=some c/\x=.str ⟨#[c]⟩,fun i _=>z.cps.size<=i⟩
theorem jha {P:Program} {w:World} {K:PySem.W.Frag} {x:Str} {px:Pos} (z:Str) (t:Tok) (it:Addr) (hz:z.length<=sizeLine):Turn P w K (.Name x px) (ItRS z) [it] it (fun i h=>i<=z.cps.size/\jnE h it z t ((z.cps.size:Int) - 1 - (i:Int))) where
 mem:=by simp
 obj:=fun i h st b hb=>by
  obtain rfl:b=it:=by simpa using hb
  exact ⟨_,st.2,fun v z=>by
   have y:Data.fields _=Data.cell v:=z
   cases y⟩
 keep:=fun i h h' st k=>⟨st.1,k it (by simp) _ st.2⟩
 item:=by
  intro X hP hw hK hc i pins s σ H E I hf st hg
  subst hP hw hK
  obtain ⟨f0,f1,f2,f3,f4,f5⟩:=hf it (by simp)
  have hi:i < z.cps.size:=hg
  have hk:z.cps.size - 1 - i < z.cps.size:=by omega
  have e:(z.cps.size:Int) - 1 - (i:Int)=((z.cps.size - 1 - i:Nat):Int):=by omega
  have st':=st.2
  rw [e] at st'
  refine jnG st' (Array.getElem?_eq_getElem hk) hz fun h' tk u hit' sb=>?_
  have e2:((z.cps.size - 1 - i:Nat):Int) - 1=(z.cps.size:Int) - 1 - ((i+1:Nat):Int):=by omega
  rw [e2] at hit'
  have J:Inv X pins σ H {s with heap:=h',toks:=tk}:=I.turned (fun b o hb e=>(sb.2 b hb).trans e) f0 f1 f3 f4 f5
  exact ⟨_,rfl,wpAny_pure ⟨.str ⟨#[z.cps[z.cps.size - 1 - i]]⟩,H,J,⟨u,rfl⟩,⟨rfl,_,Array.getElem?_eq_getElem hk,rfl⟩,⟨hi,hit'⟩,fun b hb=>(hf b hb).1⟩⟩
 done:=by
  intro X hP hw hK hc i pins s σ H E I hf st hg
  subst hP hw hK
  obtain ⟨f0,f1,f2,f3,f4,f5⟩:=hf it (by simp)
  have e:(z.cps.size:Int) - 1 - (i:Int)=-1:=by have:=st.1; have:z.cps.size<=i:=hg; omega
  have st':=st.2
  rw [e] at st'
  exact jpc (I.ok.hd hc) st' fun h' eb=>⟨rfl,I.turned (t':=s.toks) (fun b o hb e=>eb b o hb e) f0 f1 f3 f4 f5⟩
 self:=fun _ _ _ _ _ st h=>jjW st.2 h
section
variable {X:Cx} {x:Str} {px:Pos}
def iRevS (ta:TA):TI:=fun σ H R=>ta σ H fun vs H1=>∃ z,vs=[.str z]/\z.length<=sizeLine/\R (ItRS z) H1
theorem jjX {e:Expr} {ta:TA} {p pos:Pos} (hg:Gl X "reversed") (hm:X.mg "reversed"=none) (ha:PA X [e] ta) (hs:starEach [e] X.env=[(false,eval e X.env)]:=by rfl):PI X (.Name x px) (.Call (.Name "reversed" p) [e] [] pos) (iRevS ta):=by
 intro pins s σ H R I h
 refine Call_ (ld_blt I hg hm boot_reversed (PyProof.Rows.callWith_type1 (thn (ha pos pins s σ H _ I h) fun us s1 ⟨vs,H1,I1,r1,q1⟩=>?_) hs rfl))
 obtain ⟨z,ev,hz,q⟩:=q1
 subst ev
 cases r1 with
 | cons r rr =>
  cases rr
  obtain ⟨t,rfl⟩:=r
  refine jnF hz fun tk=>?_
  have st:jnE (s1.heap.push (jjV z t ((z.length:Int) - 1))) s1.heap.objs.size z t ((z.cps.size:Int) - 1 - ((0:Nat):Int)):=by
   have e0:(z.cps.size:Int) - 1 - ((0:Nat):Int)=(z.length:Int) - 1:=by show _ - 1 - 0=_; rw [Int.sub_zero]; rfl
   rw [e0]
   exact Heap.get?_push_size _ rfl
  refine jjW (s:={s1 with heap:=s1.heap.push (jjV z t ((z.length:Int) - 1)),toks:=tk}) st ?_
  refine ⟨s1.heap.objs.size,[s1.heap.objs.size],_,_,H1,rfl,I1.kept (t':=tk) fun b o e=>Heap.get?_push_of_some _ e,jha z t _ hz,⟨Nat.zero_le _,st⟩,fun b hb=>?_,q⟩
  obtain rfl:b=s1.heap.objs.size:=by simpa using hb
  exact I1.fpOk (Nat.le_refl _) (I1.hok.fresh (Nat.le_refl _))
end
theorem jiP {z:Str} {g:TG} {tb:TS} {D:Ends} {σ:St} {H:Hp} (Pv:Nat->St->Hp->Prop) (h0:Pv 0 σ H)
  (hs:∀ i c σ H,i < z.cps.size->z.cps[z.cps.size - 1 - i]?=some c->Pv i σ H->g (.str ⟨#[c]⟩) σ H fun σ2 H2=>tb {D with nx:=Pv (i+1),ct:=Pv (i+1),bk:=D.nx} σ2 H2) (hd:∀ σ H,Pv z.cps.size σ H->D.nx σ H) :
  ∃ W:Nat->Nat->St->Hp->Prop,(∃ m,W 0 m σ H)/\∀ i m σ H,W i m σ H ->
   ((ItRS z).stop i H/\D.nx σ H)\/((ItRS z).go i H/\∃ N:St->Hp->Prop,(∀ σ' H',N σ' H'->∃ m',m' < m/\W (i+1) m' σ' H')/\∀ x H',(ItRS z).yld i H x H'->g x σ H' fun σ2 H2=>tb {D with nx:=N,ct:=N,bk:=D.nx} σ2 H2):=by
 refine ⟨fun i m σ H=>m=z.cps.size - i/\i<=z.cps.size/\Pv i σ H,⟨z.cps.size,by simp,Nat.zero_le _,h0⟩,?_⟩
 rintro i m σ H ⟨rfl,hi,p⟩
 by_cases hlt:i < z.cps.size
 ·refine .inr ⟨hlt,Pv (i+1),fun σ' H' p'=>⟨z.cps.size - (i+1),by omega,rfl,hlt,p'⟩,fun x H' y=>?_⟩
  obtain ⟨e,c,hc,y⟩:=y
  subst e y
  exact hs i c σ _ hlt hc p
 ·obtain rfl:i=z.cps.size:=by omega
  exact .inl ⟨Nat.le_refl _,hd σ H p⟩
section
variable {X:Cx} {pins:List (Addr×Obj)} {σ:St} {H:Hp} {s:Shared} {h':Heap}
theorem Inv.turnLay {t':Nat} {fp:List Addr} {T:Addr} {o:HO} (I:Inv X pins σ H s) (hf:∀ b∈fp,jgM X pins H b) (k:∀ b u,b∉fp->s.heap.get? b=some u->h'.get? b=some u)
  (th:∀ b∈fp,∃ u,h'.get? b=some u) (hT:s.heap.objs.size<=T) (new:ObjOk X.prog X.w (upd H T o) h' T o):Inv X pins σ (upd H T o) {s with heap:=h',toks:=t'}:=by
 have ne:∀ b u,s.heap.get? b=some u->b≠T:=fun b u e z=>by
  have:=Heap.lt_size e; rw [z] at this; exact absurd (Nat.lt_of_lt_of_le this hT) (Nat.lt_irrefl _)
 have neH:∀ b u,H b=some u->b≠T:=fun b u e z=>by
  have:=(I.hok b u e).lt; rw [z] at this; exact absurd (Nat.lt_of_lt_of_le this hT) (Nat.lt_irrefl _)
 have nfp:∀ b u,H b=some u->b∉fp:=fun b u e z=>by rw [(hf b z).1] at e; cases e
 refine I.step (g':=s.gens) (d':=s.drawn) (ch:=fp) (fun b hb=>?_) (fun b o _ _ hc e _=>k b o hc e) (fun b o _ _ hc e _=>⟨o.slots,k b o hc e⟩) (fun b u _ e n=>by rw [jao (ne b u e)]; exact n)
  (fun b o hc e=>⟨o,k b o hc e⟩) (fun b xs e=>by rw [jao (neH b _ e)]; exact e) (fun b x y e=>by rw [jao (neH b _ e)]; exact e) (fun b ps e=>⟨#[],by rw [jao (neH b _ e),e]; simp⟩) (fun m hm=>?_) (fun b u e=>?_) I.bare
 ·obtain ⟨f0,f1,f2,f3,f4,f5⟩:=hf b hb
  exact ⟨f3,f1,f4,f5⟩
 ·obtain ⟨o,es,ep,ho,r⟩:=hm
  exact ⟨o,es,ep,k _ o (fun z=>(hf _ z).2.1 rfl) ho,r⟩
 ·by_cases hb:b=T
  ·subst hb
   rw [jac] at e; cases e
   exact new
  ·rw [jao hb] at e
   refine (I.hok b u e).stay (fun c v hc q=>k c v ?_ q) (fun c q=>by rw [jao (neH c _ q)]; exact q) fun c _ q=>by rw [jao (neH c _ q)]; exact q
   rcases hc with z | z
   ·rw [z]; exact nfp b u e
   ·exact nfp c _ z
theorem Inv.turnedL {t':Nat} {fp:List Addr} (I:Inv X pins σ H s) (hf:∀ b∈fp,jgM X pins H b) (k:∀ b u,b∉fp->s.heap.get? b=some u->h'.get? b=some u):Inv X pins σ H {s with heap:=h',toks:=t'}:=by
 have nfp:∀ b u,H b=some u->b∉fp:=fun b u e z=>by rw [(hf b z).1] at e; cases e
 refine I.step (g':=s.gens) (d':=s.drawn) (ch:=fp) (fun b hb=>?_) (fun b o _ _ hc e _=>k b o hc e) (fun b o _ _ hc e _=>⟨o.slots,k b o hc e⟩) (fun _ _ _ _ n=>n)
  (fun b o hc e=>⟨o,k b o hc e⟩) (fun _ _ e=>e) (fun _ _ _ e=>e) (fun b ps e=>⟨#[],by rw [e]; simp⟩) (fun m hm=>?_) (fun b u e=>?_) I.bare
 ·obtain ⟨f0,f1,f2,f3,f4,f5⟩:=hf b hb
  exact ⟨f3,f1,f4,f5⟩
 ·obtain ⟨o,es,ep,ho,r⟩:=hm
  exact ⟨o,es,ep,k _ o (fun z=>(hf _ z).2.1 rfl) ho,r⟩
 ·refine (I.hok b u e).stay (fun c v hc q=>k c v ?_ q) (fun _ q=>q) fun _ _ q=>q
  rcases hc with z | z
  ·rw [z]; exact nfp b u e
  ·exact nfp c _ z
end
def jpd (z:Str):It:=⟨fun i _=>i < z.cps.size,fun i H x H'=>∃ T c,H T=none/\z.cps[i]?=some c/\x=.ref T/\H'=upd H T (.tup [.int i,.str ⟨#[c]⟩]),fun i _=>z.cps.size<=i⟩
theorem jjY {P:Program} {w:World} {K:PySem.W.Frag} {elts:List Expr} {k:Nat} {pt:Pos} {ty:String} (z:Str) (t:Tok) (e it:Addr) (hne:e≠it)
  (W:∀ A:Around,A.handled=none->Draws P w A it [it] z.cps.size (fun i v=>∃ c u,z.cps[i]?=some c/\v=.str ⟨#[c]⟩ u) (fun i h=>h.IsStrIter it ty z t i)) :
  Turn P w K (.Tuple elts k pt) (jpd z) [e,it] e (fun i h=>i<=z.cps.size/\(∃ old,IsEnum h e it (i:Int) old)/\h.IsStrIter it ty z t i) where
 mem:=by simp
 obj:=fun i h st b hb=>by
  obtain ⟨_,⟨old,se⟩,o,ho,hc,hd⟩:=st
  have hb':b=e\/b=it:=by simpa using hb
  rcases hb' with rfl | rfl
  ·exact ⟨_,se,fun v z=>by
    have y:Data.fields _=Data.cell v:=z
    cases y⟩
  ·exact ⟨o,ho,fun v z=>by rw [hd] at z; cases z⟩
 keep:=fun i h h' st k=>by
  obtain ⟨hi,⟨old,se⟩,o,ho,r⟩:=st
  exact ⟨hi,⟨old,k e (by simp) _ se⟩,o,k it (by simp) o ho,r⟩
 item:=by
  intro X hP hw hK hc i pins s σ H E I hf st hg
  subst hP hw hK
  have hi:i < z.cps.size:=hg
  have WT:=(WalksT.enumerateD (A:=X.A) (W X.A.in1 (I.ok.hd hc)) e hne (by simpa using hne) (by simp))
  refine WT.item i s _ _ hi st.2 fun T vals h1 tk hP hT hTup mid kk=>?_
  refine ⟨_,rfl,WT.go elts k pt i T _ _ _ mid fun h2 st2 kk2=>?_⟩
  obtain ⟨t1,x,⟨c,u,hcu,rfl⟩,rfl⟩:=hP
  have hTn:T∉[e,it]:=WT.apart i T h1 mid
  have hTup2:IsTup h2 T #[Value.int (i:Int) t1,.str ⟨#[c]⟩ u]:=by
   obtain ⟨o,ho,hcl,n,hd⟩:=hTup
   exact ⟨o,kk2 T o hTn ho,hcl,n,hd⟩
  have hfT:H T=none:=I.hok.fresh hT
  obtain ⟨⟨old,se⟩,so⟩:=id st2
  have J:Inv X pins σ (upd H T (.tup [.int i,.str ⟨#[c]⟩])) {s with heap:=h2,toks:=tk}:=by
   refine I.turnLay hf (fun b o hb eo=>kk2 b o hb (kk b o hb eo)) (fun b hb=>?_) hT ⟨show (2:Nat)<=_ by unfold sizeLine; decide,[Value.int (i:Int) t1,.str ⟨#[c]⟩ u],?_,hTup2⟩
   ·have hb':b=e\/b=it:=by simpa using hb
    rcases hb' with rfl | rfl
    ·exact ⟨_,se⟩
    ·obtain ⟨o,ho,_⟩:=so; exact ⟨o,ho⟩
   ·exact .cons ⟨_,rfl⟩ (.cons ⟨_,rfl⟩ .nil)
  refine ⟨.ref T,_,J,rfl,⟨T,c,hfT,hcu,rfl,rfl⟩,⟨hi,st2⟩,fun b hb=>?_⟩
  have nb:b≠T:=fun z=>hTn (by rw [<- z]; exact hb)
  rw [jao nb]
  exact (hf b hb).1
 done:=by
  intro X hP hw hK hc i pins s σ H E I hf st hg
  subst hP hw hK
  have hi:i=z.cps.size:=Nat.le_antisymm st.1 hg
  have WT:=(WalksT.enumerateD (A:=X.A) (W X.A.in1 (I.ok.hd hc)) e hne (by simpa using hne) (by simp))
  refine WT.done s _ _ (hi▸st.2) fun h' tk kk=>?_
  exact ⟨rfl,I.turnedL hf fun b o hb eo=>kk b o hb eo⟩
 self:=fun A i s Q E st h=>by
  obtain ⟨_,⟨old,se⟩,_⟩:=st
  exact wpAny_pyIter_enum se h
section
variable {X:Cx}
def iEnS (ta:TA):TI:=fun σ H R=>ta σ H fun vs H1=>∃ z,vs=[.str z]/\R (jpd z) H1
theorem jiQ {x:Expr} {ta:TA} {p pos:Pos} {elts:List Expr} {k:Nat} {pt:Pos} (hg:Gl X "enumerate") (hm:X.mg "enumerate"=none) (ha:PA X [x] ta) (hs:starEach [x] X.env=[(false,eval x X.env)]:=by rfl) :
  PI X (.Tuple elts k pt) (.Call (.Name "enumerate" p) [x] [] pos) (iEnS ta):=by
 intro pins s σ H R I h
 refine Call_ (ld_blt I hg hm boot_enumerate (PyProof.Rows.callWith_type1 (thn (ha pos pins s σ H _ I h) fun us s1 ⟨vs,H1,I1,r1,q1⟩=>?_) hs rfl))
 obtain ⟨z,ev,q⟩:=q1
 subst ev
 cases r1 with
 | cons r rr =>
  cases rr
  obtain ⟨t,rfl⟩:=r
  refine call_enumerate_str fun h' he hi hsz kk=>?_
  refine wpAny_pyIter_enum (s:={s1 with heap:=h'}) he ?_
  have J:Inv X pins σ H1 {s1 with heap:=h'}:=I1.kept (t':=s1.toks) kk
  have fin:(∀ A:Around,A.handled=none->Draws X.prog X.w A s1.heap.objs.size [s1.heap.objs.size] z.cps.size (fun i v=>∃ c u,z.cps[i]?=some c/\v=.str ⟨#[c]⟩ u) (fun i h=>h.IsStrIter s1.heap.objs.size (strIterType z) z t i)):=by
   intro A hA
   unfold strIterType
   cases z.cps.all (· < 128)
   ·exact Draws.strWide hA _ z t
   ·exact Draws.strAscii hA _ z t
  refine ⟨s1.heap.objs.size+1,[s1.heap.objs.size+1,s1.heap.objs.size],_,_,H1,rfl,J,jjY (ty:=strIterType z) z t (s1.heap.objs.size+1) s1.heap.objs.size (Nat.succ_ne_self _) fin,⟨Nat.zero_le _,⟨_,he⟩,hi⟩,fun b hb=>?_,q⟩
  have hb':b=s1.heap.objs.size+1\/b=s1.heap.objs.size:=by simpa using hb
  rcases hb' with rfl | rfl
  ·exact I1.fpOk (Nat.le_succ _) (I1.hok.fresh (Nat.le_succ _))
  ·exact I1.fpOk (Nat.le_refl _) (I1.hok.fresh (Nat.le_refl _))
end
theorem jhb {z:Str} {g:TG} {tb:TS} {D:Ends} {σ:St} {H:Hp} (Pv:Nat->St->Hp->Prop) (h0:Pv 0 σ H)
  (hs:∀ i c T σ H,z.cps[i]?=some c->H T=none->Pv i σ H->g (.ref T) σ (upd H T (.tup [.int i,.str ⟨#[c]⟩])) fun σ2 H2=>tb {D with nx:=Pv (i+1),ct:=Pv (i+1),bk:=D.nx} σ2 H2) (hd:∀ σ H,Pv z.cps.size σ H->D.nx σ H) :
  ∃ W:Nat->Nat->St->Hp->Prop,(∃ m,W 0 m σ H)/\∀ i m σ H,W i m σ H ->
   ((jpd z).stop i H/\D.nx σ H)\/((jpd z).go i H/\∃ N:St->Hp->Prop,(∀ σ' H',N σ' H'->∃ m',m' < m/\W (i+1) m' σ' H')/\∀ x H',(jpd z).yld i H x H'->g x σ H' fun σ2 H2=>tb {D with nx:=N,ct:=N,bk:=D.nx} σ2 H2):=by
 refine ⟨fun i m σ H=>m=z.cps.size - i/\i<=z.cps.size/\Pv i σ H,⟨z.cps.size,by simp,Nat.zero_le _,h0⟩,?_⟩
 rintro i m σ H ⟨rfl,hi,p⟩
 by_cases hlt:i < z.cps.size
 ·refine .inr ⟨hlt,Pv (i+1),fun σ' H' p'=>⟨z.cps.size - (i+1),by omega,rfl,hlt,p'⟩,fun x H' y=>?_⟩
  obtain ⟨T,c,hT,hc,rfl,rfl⟩:=y
  exact hs i c T σ H hc hT p
 ·obtain rfl:i=z.cps.size:=by omega
  exact .inl ⟨Nat.le_refl _,hd σ H p⟩
def rSlS:V->Option Int->Option Int->Hp->VK->Prop:=fun x lo hi H Q=>∃ (z:Str) (a b:Nat),x=.str z/\lo=some (a:Int)/\hi=some (b:Int)/\a<=b/\b<=z.length/\z.length<=sizeLine/\Q (.str ⟨((z.cps.toList.drop a).take (b - a)).toArray⟩) H
theorem ssi {a b n:Nat} (h1:a<=b) (h2:b<=n):Builtin.Str.strSliceIndices (some (a:Int)) (some (b:Int)) 1 n=(List.range (b - a)).map (a+·):=by
 unfold Builtin.Str.strSliceIndices
 have e1:¬ (a:Int) < 0:=by omega
 have e2:¬ (b:Int) < 0:=by omega
 simp only [show (1:Int) > 0 by decide,if_true,e1,e2,if_false]
 rw [show max 0 (min (a:Int) (n:Int))=(a:Int) by omega,show max 0 (min (b:Int) (n:Int))=(b:Int) by omega]
 exact sliceRange_one a b
theorem jpe {X:Cx}:SlR X rSlS:=by
 intro pins s σ H x v vl vu lo hi sl Q I rx hs pl pu h
 obtain ⟨z,a,b,rfl,rfl,rfl,h1,h2,hz,q⟩:=h
 obtain ⟨t,rfl⟩:=rx
 refine ⟨"str",_,slot_str_getitem.lookup,typeIs_str s z t,?_⟩
 cases pl with
 | int _ t1 =>
 cases pu with
 | int _ t2 =>
 refine wpAny_getItem_str_slice (l:=some ((a:Int),t1)) (u:=some ((b:Int),t2)) (st:=none) hs (by decide) ?_
 have e:slicePicked z (some ((a:Int),t1)) (some ((b:Int),t2)) none=(List.range (b - a)).map (a+·):=ssi h1 h2
 unfold sliceMade
 rw [e,pick_run]
 split
 ·rename_i hc
  have hl:b - a=z.length:=by simpa using hc
  have e0:a=0:=by omega
  have eb:b=z.cps.size:=by have:z.length=z.cps.size:=rfl; omega
  have ez:(⟨((z.cps.toList.drop a).take (b - a)).toArray⟩:Str)=z:=by
   subst e0 eb
   have:((z.cps.toList.drop 0).take (z.cps.size - 0)).toArray=z.cps:=by
    rw [List.drop_zero,Nat.sub_zero,<- Array.length_toList,List.take_length]
   rw [this]
  rw [ez] at q
  simp only [Made.post]
  exact ⟨.str z,H,I,⟨t,rfl⟩,q⟩
 ·simp only [Made.post]
  refine ⟨Nat.le_trans ?_ hz,.str _,H,I.tok _,⟨_,rfl⟩,q⟩
  show (((z.cps.toList.drop a).take (b - a)).toArray).size<=z.cps.size
  rw [List.size_toArray,List.length_take,List.length_drop,Array.length_toList]
  omega
theorem jeg (x y:Nat):Builtin.bitOr (x:Int) (y:Int)=((x ||| y:Nat):Int):=by
 unfold Builtin.bitOr Builtin.bitAnd Builtin.bitNot
 have e1:decide (0<=-(x:Int) - 1)=false:=decide_eq_false (by omega)
 have e2:decide (0<=-(y:Int) - 1)=false:=decide_eq_false (by omega)
 simp only [e1,e2]
 have e3:(-(-(x:Int) - 1) - 1).toNat=x:=by omega
 have e4:(-(-(y:Int) - 1) - 1).toNat=y:=by omega
 rw [e3,e4]
 omega
theorem jeY (x y:Nat):Builtin.bitAnd (x:Int) (y:Int)=((x &&& y:Nat):Int):=by
 unfold Builtin.bitAnd
 have e1:decide (0<=(x:Int))=true:=decide_eq_true (by omega)
 have e2:decide (0<=(y:Int))=true:=decide_eq_true (by omega)
 simp only [e1,e2]
 rfl
theorem jjZ (p:Nat):(1:Int) * 2 ^ ((p:Int)).toNat=((2 ^ p:Nat):Int):=by
 rw [Int.one_mul,Int.toNat_natCast,Int.natCast_pow]; rfl
theorem jka (x p:Nat):(x:Int) / 2 ^ ((p:Int)).toNat=((x >>> p:Nat):Int):=by
 rw [Int.toNat_natCast,Nat.shiftRight_eq_div_pow,Int.natCast_ediv,Int.natCast_pow]; rfl
def rEqP (X:Cx):R2:=fun x y H Q=>∃ (a b:Addr) (i j i' j':Int),x=.ref a/\y=.ref b/\SqT X.K H a [.int i,.int j]/\SqT X.K H b [.int i',.int j']/\X.A.units < cLine/\Q (.bl ((i==i')&&(j==j'))) H
theorem jpf {X:Cx}:OpR X (compareOp .Eq) (rEqP X):=by
 intro pins s σ H x y v u Q I rx ry h
 obtain ⟨a,b,i,j,i',j',rfl,rfl,ha,hb,hu,q⟩:=h
 cases rx
 cases ry
 obtain ⟨ia,ra,pa,_⟩:=I.tuple ha
 obtain ⟨ib,rb,pb,_⟩:=I.tuple hb
 cases ra with
 | cons r1 ra =>
 cases ra with
 | cons r2 ra =>
 cases ra
 cases rb with
 | cons r1' rb =>
 cases rb with
 | cons r2' rb =>
 cases rb
 obtain ⟨t1,rfl⟩:=r1
 obtain ⟨t2,rfl⟩:=r2
 obtain ⟨t1',rfl⟩:=r1'
 obtain ⟨t2',rfl⟩:=r2'
 have h:=SeqAt.RcAt.tuples (A:=X.A) (e:=fun k=>if k=0 then i==i' else j==j') (show s.heap.IsTuple a _ from pa) (show s.heap.IsTuple b _ from pb) hu (fun k k1 k2=>by
  have k1':k < 2:=k1
  match k,k1' with
  | 0,_=>exact SeqAt.EqAt.int_int i t1 i' t1'
  | 1,_=>exact SeqAt.EqAt.int_int j t2 j' t2')
 have e:(List.all (List.range (min (2:Nat) 2)) (fun k=>if k=0 then i==i' else j==j')&&((2:Nat)==2))=((i==i')&&(j==j')):=by
  show (List.all [0,1] _&&_)=_
  simp
 refine h X.prog X.w _ _ ?_
 refine ⟨.bl ((i==i')&&(j==j')),H,I,?_,q⟩
 exact congrArg Value.bool e
section
variable {X:Cx}
end
def jnH:V->List V->Hp->VK->Prop:=fun x vs H Q=>∃ l kvs,x=.ref l/\vs=[]/\H l=some (.dK kvs)/\Q .non (upd H l (.dK []))
theorem jgz {X:Cx}:MtR X "dict.clear" jnH:=by
 intro pins s σ H x vs v us Q I rx rv h
 obtain ⟨l,kvs,rfl,rfl,hH,q⟩:=h
 cases rx
 have hus:=rv.zero
 subst hus
 exact jns I hH fun s' I'=>⟨.non,_,I',rfl,q⟩
end L2
namespace Lf
open PySem L2
def top (i:Nat):Stmt:=PySem.Challenge.pw_letterform_k08_whole_single_or_twofold.main.body.getD i (.Pass ⟨0,0,0,0⟩)
abbrev jdD:Stmt:=top 13
abbrev jdE:Stmt:=top 14
abbrev jhc:Stmt:=top 15
abbrev jhd:Stmt:=top 16
abbrev jnI:Stmt:=top 17
abbrev jct:Stmt:=top 18
abbrev jcD:Stmt:=top 19
abbrev jfm:Stmt:=top 23
abbrev jeh:Stmt:=top 24
abbrev jfn:Stmt:=top 25
abbrev jei:Stmt:=top 26
abbrev jfo:Stmt:=top 27
abbrev jcN:Stmt:=top 30
abbrev jbM:Stmt:=top 31
abbrev jbN:Stmt:=top 32
abbrev jci:Stmt:=top 33
abbrev jej:Stmt:=top 34
abbrev jbU:Stmt:=top 35
abbrev jbV:Stmt:=top 36
abbrev jfp:Stmt:=top 37
abbrev jhe:Stmt:=top 39
abbrev jhf:Stmt:=top 40
abbrev jcj:Stmt:=top 41
abbrev jek:Stmt:=top 42
abbrev jdj:Stmt:=top 43
abbrev jnJ:Stmt:=top 45
abbrev jbJ:Stmt:=top 46
abbrev jcE:Stmt:=top 47
abbrev jdk:Stmt:=top 48
abbrev jbW:Stmt:=top 49
abbrev jfq:Stmt:=top 50
abbrev jdl:Stmt:=top 52
abbrev jfr:Stmt:=top 53
abbrev jck:Stmt:=top 54
abbrev jel:Stmt:=top 55
abbrev jhg:Stmt:=top 56
abbrev jem:Stmt:=top 57
abbrev jen:Stmt:=top 58
abbrev jdm:Stmt:=top 59
abbrev jfs:Stmt:=top 60
abbrev jhh:Stmt:=top 61
abbrev jcu:Stmt:=top 62
abbrev jft:Stmt:=top 63
abbrev jbX:Stmt:=top 64
abbrev jbK:Stmt:=top 65
abbrev jbq:Stmt:=top 66
abbrev jcO:Stmt:=top 67
abbrev jeo:Stmt:=top 68
abbrev sLaw:Stmt:=top 69
abbrev jhV:Stmt:=jbC (top 9) 0
abbrev jnK:Stmt:=jbC (top 10) 0
abbrev jnL:Stmt:=jbC (top 11) 0
abbrev jkb:Stmt:=jbC (top 12) 0
abbrev jkc:Stmt:=jbC (top 21) 0
abbrev jfu:Stmt:=jbC (top 22) 0
abbrev jfv:Stmt:=jbC (top 29) 0
abbrev jbE:Stmt:=jbC (top 29) 1
abbrev jbO:Stmt:=jbC (top 29) 2
abbrev jbY:Stmt:=jbC (top 29) 3
abbrev jbZ:Stmt:=jbC (top 29) 4
set_option genInjectivity false in
set_option genSizeOf false in
structure Adr where
 (aNamesIn aPartsOf aPartOf aCopyOf aNeed aNeedSigns aNeedBounds aStepsOf aAddParts aAddText aAddField aAddRows aReadings aFittingPlaces aPlacesOfSigns aPlacesOfAny aHasPlace aFirstChoices aChoicesAlong aInOrder aJudged aSingle aTwofoldText aPartings aNextPairs aFill aFilledParts aFilledPart aFilledAsk aFilledRows aValueOf aLawCellAt aLawDraw aLawSigns aLawSay aLawAsk aLawInner aLawPiece aLawPieces aLawWord aLawRow aLawValues aLawLine aLawWritten aLawWordFits aLawRowFits aLawFits aLawShown aLaw aFormI aSayI aAskI aRowsI aSignI aChoiceI aTellerI aTellerValuesOf aTellerFieldOf aTellerRowsOf aTellerGoesOn:Addr)
 (dNamesIn dPartsOf dPartOf dCopyOf dNeed dNeedSigns dNeedBounds dStepsOf dAddParts dAddText dAddField dAddRows dReadings dFittingPlaces dPlacesOfSigns dPlacesOfAny dHasPlace dFirstChoices dChoicesAlong dInOrder dJudged dSingle dTwofoldText dPartings dNextPairs dFill dFilledParts dFilledPart dFilledAsk dFilledRows dValueOf dLawCellAt dLawDraw dLawSigns dLawSay dLawAsk dLawInner dLawPiece dLawPieces dLawWord dLawRow dLawValues dLawLine dLawWritten dLawWordFits dLawRowFits dLawFits dLawShown dLaw dFormI dSayI dAskI dRowsI dSignI dChoiceI dTellerI dTellerValuesOf dTellerFieldOf dTellerRowsOf dTellerGoesOn:FuncData)
 (cForm cSay cAsk cRows cSign cChoice cTeller:Addr)
 (cWords cRow cLen:Addr)
structure ClsOk (K:PySem.W.Frag) (C:Addr):Prop where
 cl:Cls K C
 ha:PySem.W.findIn K (.ref C) "__class__"=some (some (.builtin "object.__class__"))
 hn:PySem.W.specialIn K (.builtin "object.__class__") "__get__"=some (some (.builtin "getset_descriptor.__get__"))
 ht:PySem.W.takesIn K (.builtin "object.__class__")=some true
 hm:PySem.W.mroIn K C (.type "object")=some true
structure Txt (w:World) (K:PySem.W.Frag) (mg:Str->Option Value) (D:Adr):Prop where
 fNamesIn:Fun K "names_in" "names_in" jdD D.aNamesIn D.dNamesIn
 bNamesIn:Binds K D.dNamesIn ["parts"] []
 mNamesIn:mg "names_in"=some (.ref D.aNamesIn)
 fPartsOf:Fun K "parts_of" "parts_of" jdE D.aPartsOf D.dPartsOf
 bPartsOf:Binds K D.dPartsOf ["pieces","words","most"] []
 mPartsOf:mg "parts_of"=some (.ref D.aPartsOf)
 fPartOf:Fun K "part_of" "part_of" jhc D.aPartOf D.dPartOf
 bPartOf:Binds K D.dPartOf ["piece","words"] []
 mPartOf:mg "part_of"=some (.ref D.aPartOf)
 fCopyOf:Fun K "copy_of" "copy_of" jhd D.aCopyOf D.dCopyOf
 bCopyOf:Binds K D.dCopyOf ["piece"] []
 mCopyOf:mg "copy_of"=some (.ref D.aCopyOf)
 fNeed:Fun K "need" "need" jnI D.aNeed D.dNeed
 bNeed:Binds K D.dNeed ["holds","words"] []
 mNeed:mg "need"=some (.ref D.aNeed)
 fNeedSigns:Fun K "need_signs" "need_signs" jct D.aNeedSigns D.dNeedSigns
 bNeedSigns:Binds K D.dNeedSigns ["text","least","most","what"] []
 mNeedSigns:mg "need_signs"=some (.ref D.aNeedSigns)
 fNeedBounds:Fun K "need_bounds" "need_bounds" jcD D.aNeedBounds D.dNeedBounds
 bNeedBounds:Binds K D.dNeedBounds ["part","highest"] []
 mNeedBounds:mg "need_bounds"=some (.ref D.aNeedBounds)
 fStepsOf:Fun K "steps_of" "steps_of" jfm D.aStepsOf D.dStepsOf
 bStepsOf:Binds K D.dStepsOf ["form"] []
 mStepsOf:mg "steps_of"=some (.ref D.aStepsOf)
 fAddParts:Fun K "add_parts" "add_parts" jeh D.aAddParts D.dAddParts
 bAddParts:Binds K D.dAddParts ["steps","parts"] []
 mAddParts:mg "add_parts"=some (.ref D.aAddParts)
 fAddText:Fun K "add_text" "add_text" jfn D.aAddText D.dAddText
 bAddText:Binds K D.dAddText ["steps","text"] []
 mAddText:mg "add_text"=some (.ref D.aAddText)
 fAddField:Fun K "add_field" "add_field" jei D.aAddField D.dAddField
 bAddField:Binds K D.dAddField ["steps","ask"] []
 mAddField:mg "add_field"=some (.ref D.aAddField)
 fAddRows:Fun K "add_rows" "add_rows" jfo D.aAddRows D.dAddRows
 bAddRows:Binds K D.dAddRows ["steps","rows"] []
 mAddRows:mg "add_rows"=some (.ref D.aAddRows)
 fReadings:∃ dfl,FunD K "readings" "readings" jcN D.aReadings D.dReadings dfl
 bReadings:Binds K D.dReadings ["form","text","most"] []
 eReadings:∃ t0,Binds K D.dReadings ["form","text","most"] [.int 2 t0]
 kpReadings:PySem.W.keepIn K (.ref D.aReadings)=true
 mReadings:mg "readings"=some (.ref D.aReadings)
 fFittingPlaces:Fun K "fitting_places" "fitting_places" jbM D.aFittingPlaces D.dFittingPlaces
 bFittingPlaces:Binds K D.dFittingPlaces ["steps","text"] []
 mFittingPlaces:mg "fitting_places"=some (.ref D.aFittingPlaces)
 fPlacesOfSigns:Fun K "places_of_signs" "places_of_signs" jbN D.aPlacesOfSigns D.dPlacesOfSigns
 bPlacesOfSigns:Binds K D.dPlacesOfSigns ["text"] []
 mPlacesOfSigns:mg "places_of_signs"=some (.ref D.aPlacesOfSigns)
 fPlacesOfAny:Fun K "places_of_any" "places_of_any" jci D.aPlacesOfAny D.dPlacesOfAny
 bPlacesOfAny:Binds K D.dPlacesOfAny ["signs","standing"] []
 mPlacesOfAny:mg "places_of_any"=some (.ref D.aPlacesOfAny)
 fHasPlace:Fun K "has_place" "has_place" jej D.aHasPlace D.dHasPlace
 bHasPlace:Binds K D.dHasPlace ["places","place"] []
 mHasPlace:mg "has_place"=some (.ref D.aHasPlace)
 fFirstChoices:Fun K "first_choices" "first_choices" jbU D.aFirstChoices D.dFirstChoices
 bFirstChoices:Binds K D.dFirstChoices ["steps","fits","most"] []
 mFirstChoices:mg "first_choices"=some (.ref D.aFirstChoices)
 fChoicesAlong:Fun K "choices_along" "choices_along" jbV D.aChoicesAlong D.dChoicesAlong
 bChoicesAlong:Binds K D.dChoicesAlong ["steps","fits","way","ways"] []
 mChoicesAlong:mg "choices_along"=some (.ref D.aChoicesAlong)
 fInOrder:Fun K "in_order" "in_order" jfp D.aInOrder D.dInOrder
 bInOrder:Binds K D.dInOrder ["choices"] []
 mInOrder:mg "in_order"=some (.ref D.aInOrder)
 fJudged:Fun K "judged" "judged" jhe D.aJudged D.dJudged
 bJudged:Binds K D.dJudged ["form"] []
 mJudged:mg "judged"=some (.ref D.aJudged)
 fSingle:Fun K "single" "single" jhf D.aSingle D.dSingle
 bSingle:Binds K D.dSingle ["form"] []
 mSingle:mg "single"=some (.ref D.aSingle)
 fTwofoldText:Fun K "twofold_text" "twofold_text" jcj D.aTwofoldText D.dTwofoldText
 bTwofoldText:Binds K D.dTwofoldText ["steps"] []
 mTwofoldText:mg "twofold_text"=some (.ref D.aTwofoldText)
 fPartings:Fun K "partings" "partings" jek D.aPartings D.dPartings
 bPartings:Binds K D.dPartings ["steps"] []
 mPartings:mg "partings"=some (.ref D.aPartings)
 fNextPairs:Fun K "next_pairs" "next_pairs" jdj D.aNextPairs D.dNextPairs
 bNextPairs:Binds K D.dNextPairs ["steps","one","other","text"] []
 mNextPairs:mg "next_pairs"=some (.ref D.aNextPairs)
 fFill:Fun K "fill" "fill" jnJ D.aFill D.dFill
 bFill:Binds K D.dFill ["form","values"] []
 mFill:mg "fill"=some (.ref D.aFill)
 fFilledParts:Fun K "filled_parts" "filled_parts" jbJ D.aFilledParts D.dFilledParts
 bFilledParts:Binds K D.dFilledParts ["parts","values"] []
 mFilledParts:mg "filled_parts"=some (.ref D.aFilledParts)
 fFilledPart:Fun K "filled_part" "filled_part" jcE D.aFilledPart D.dFilledPart
 bFilledPart:Binds K D.dFilledPart ["part","values"] []
 mFilledPart:mg "filled_part"=some (.ref D.aFilledPart)
 fFilledAsk:Fun K "filled_ask" "filled_ask" jdk D.aFilledAsk D.dFilledAsk
 bFilledAsk:Binds K D.dFilledAsk ["ask","values"] []
 mFilledAsk:mg "filled_ask"=some (.ref D.aFilledAsk)
 fFilledRows:Fun K "filled_rows" "filled_rows" jbW D.aFilledRows D.dFilledRows
 bFilledRows:Binds K D.dFilledRows ["rows","values"] []
 mFilledRows:mg "filled_rows"=some (.ref D.aFilledRows)
 fValueOf:Fun K "value_of" "value_of" jfq D.aValueOf D.dValueOf
 bValueOf:Binds K D.dValueOf ["part","values"] []
 mValueOf:mg "value_of"=some (.ref D.aValueOf)
 fLawCellAt:Fun K "_law_cell_at" "_law_cell_at" jdl D.aLawCellAt D.dLawCellAt
 bLawCellAt:Binds K D.dLawCellAt ["script","k"] []
 mLawCellAt:mg "_law_cell_at"=some (.ref D.aLawCellAt)
 fLawDraw:Fun K "_law_draw" "_law_draw" jfr D.aLawDraw D.dLawDraw
 bLawDraw:Binds K D.dLawDraw ["script","k"] []
 mLawDraw:mg "_law_draw"=some (.ref D.aLawDraw)
 fLawSigns:Fun K "_law_signs" "_law_signs" jck D.aLawSigns D.dLawSigns
 bLawSigns:Binds K D.dLawSigns ["cell"] []
 mLawSigns:mg "_law_signs"=some (.ref D.aLawSigns)
 fLawSay:Fun K "_law_say" "_law_say" jel D.aLawSay D.dLawSay
 bLawSay:Binds K D.dLawSay ["cell"] []
 mLawSay:mg "_law_say"=some (.ref D.aLawSay)
 fLawAsk:Fun K "_law_ask" "_law_ask" jhg D.aLawAsk D.dLawAsk
 bLawAsk:Binds K D.dLawAsk ["script","k","name","most"] []
 mLawAsk:mg "_law_ask"=some (.ref D.aLawAsk)
 fLawInner:Fun K "_law_inner" "_law_inner" jem D.aLawInner D.dLawInner
 bLawInner:Binds K D.dLawInner ["script","k","many","most"] []
 mLawInner:mg "_law_inner"=some (.ref D.aLawInner)
 fLawPiece:Fun K "_law_piece" "_law_piece" jen D.aLawPiece D.dLawPiece
 bLawPiece:Binds K D.dLawPiece ["script","k","name","most"] []
 mLawPiece:mg "_law_piece"=some (.ref D.aLawPiece)
 fLawPieces:Fun K "_law_pieces" "_law_pieces" jdm D.aLawPieces D.dLawPieces
 bLawPieces:Binds K D.dLawPieces ["script","many","most"] []
 mLawPieces:mg "_law_pieces"=some (.ref D.aLawPieces)
 fLawWord:Fun K "_law_word" "_law_word" jfs D.aLawWord D.dLawWord
 bLawWord:Binds K D.dLawWord ["script","k","piece"] []
 mLawWord:mg "_law_word"=some (.ref D.aLawWord)
 fLawRow:Fun K "_law_row" "_law_row" jhh D.aLawRow D.dLawRow
 bLawRow:Binds K D.dLawRow ["script","k","pieces"] []
 mLawRow:mg "_law_row"=some (.ref D.aLawRow)
 fLawValues:Fun K "_law_values" "_law_values" jcu D.aLawValues D.dLawValues
 bLawValues:Binds K D.dLawValues ["script","start","pieces"] []
 mLawValues:mg "_law_values"=some (.ref D.aLawValues)
 fLawLine:Fun K "_law_line" "_law_line" jft D.aLawLine D.dLawLine
 bLawLine:Binds K D.dLawLine ["pieces","values"] []
 mLawLine:mg "_law_line"=some (.ref D.aLawLine)
 fLawWritten:Fun K "_law_written" "_law_written" jbX D.aLawWritten D.dLawWritten
 bLawWritten:Binds K D.dLawWritten ["pieces","values"] []
 mLawWritten:mg "_law_written"=some (.ref D.aLawWritten)
 fLawWordFits:Fun K "_law_word_fits" "_law_word_fits" jbK D.aLawWordFits D.dLawWordFits
 bLawWordFits:Binds K D.dLawWordFits ["piece","word"] []
 mLawWordFits:mg "_law_word_fits"=some (.ref D.aLawWordFits)
 fLawRowFits:Fun K "_law_row_fits" "_law_row_fits" jbq D.aLawRowFits D.dLawRowFits
 bLawRowFits:Binds K D.dLawRowFits ["pieces","row"] []
 mLawRowFits:mg "_law_row_fits"=some (.ref D.aLawRowFits)
 fLawFits:Fun K "_law_fits" "_law_fits" jcO D.aLawFits D.dLawFits
 bLawFits:Binds K D.dLawFits ["pieces","values"] []
 mLawFits:mg "_law_fits"=some (.ref D.aLawFits)
 fLawShown:Fun K "_law_shown" "_law_shown" jeo D.aLawShown D.dLawShown
 bLawShown:Binds K D.dLawShown ["form","pieces","found"] []
 mLawShown:mg "_law_shown"=some (.ref D.aLawShown)
 fLaw:Fun K "law" "law" sLaw D.aLaw D.dLaw
 bLaw:Binds K D.dLaw ["script"] []
 mLaw:mg "law"=some (.ref D.aLaw)
 fFormI:Fun K "__init__" "Form.__init__" jhV D.aFormI D.dFormI
 bFormI:Binds K D.dFormI ["self","pieces"] []
 fSayI:Fun K "__init__" "Say.__init__" jnK D.aSayI D.dSayI
 bSayI:Binds K D.dSayI ["self","piece"] []
 fAskI:Fun K "__init__" "Ask.__init__" jnL D.aAskI D.dAskI
 bAskI:Binds K D.dAskI ["self","piece"] []
 fRowsI:Fun K "__init__" "Rows.__init__" jkb D.aRowsI D.dRowsI
 bRowsI:Binds K D.dRowsI ["self","piece"] []
 fSignI:Fun K "__init__" "Sign.__init__" jkc D.aSignI D.dSignI
 bSignI:Binds K D.dSignI ["self","signs"] []
 fChoiceI:Fun K "__init__" "Choice.__init__" jfu D.aChoiceI D.dChoiceI
 bChoiceI:Binds K D.dChoiceI ["self","behind"] []
 fTellerI:Fun K "__init__" "Teller.__init__" jfv D.aTellerI D.dTellerI
 bTellerI:Binds K D.dTellerI ["self","text","choices"] []
 fTellerValuesOf:Fun K "values_of" "Teller.values_of" jbE D.aTellerValuesOf D.dTellerValuesOf
 bTellerValuesOf:Binds K D.dTellerValuesOf ["self","parts"] []
 meTellerValuesOf:Meth K D.cTeller "values_of" D.aTellerValuesOf
 fTellerFieldOf:Fun K "field_of" "Teller.field_of" jbO D.aTellerFieldOf D.dTellerFieldOf
 bTellerFieldOf:Binds K D.dTellerFieldOf ["self","ask"] []
 meTellerFieldOf:Meth K D.cTeller "field_of" D.aTellerFieldOf
 fTellerRowsOf:Fun K "rows_of" "Teller.rows_of" jbY D.aTellerRowsOf D.dTellerRowsOf
 bTellerRowsOf:Binds K D.dTellerRowsOf ["self","rows"] []
 meTellerRowsOf:Meth K D.cTeller "rows_of" D.aTellerRowsOf
 fTellerGoesOn:Fun K "goes_on" "Teller.goes_on" jbZ D.aTellerGoesOn D.dTellerGoesOn
 bTellerGoesOn:Binds K D.dTellerGoesOn ["self","part","number"] []
 meTellerGoesOn:Meth K D.cTeller "goes_on" D.aTellerGoesOn
 kForm:ClsOk K D.cForm
 mkForm:Mk K D.cForm D.aFormI
 mgForm:mg "Form"=some (.ref D.cForm)
 nFormPieces:NoAttr K D.cForm "pieces"
 nFormPlan:NoAttr K D.cForm "plan"
 kSay:ClsOk K D.cSay
 mkSay:Mk K D.cSay D.aSayI
 mgSay:mg "Say"=some (.ref D.cSay)
 nSayText:NoAttr K D.cSay "text"
 kAsk:ClsOk K D.cAsk
 mkAsk:Mk K D.cAsk D.aAskI
 mgAsk:mg "Ask"=some (.ref D.cAsk)
 nAskLeast:NoAttr K D.cAsk "least"
 nAskMost:NoAttr K D.cAsk "most"
 nAskName:NoAttr K D.cAsk "name"
 nAskSigns:NoAttr K D.cAsk "signs"
 kRows:ClsOk K D.cRows
 mkRows:Mk K D.cRows D.aRowsI
 mgRows:mg "Rows"=some (.ref D.cRows)
 nRowsGap:NoAttr K D.cRows "gap"
 nRowsLeast:NoAttr K D.cRows "least"
 nRowsMost:NoAttr K D.cRows "most"
 nRowsName:NoAttr K D.cRows "name"
 nRowsParts:NoAttr K D.cRows "parts"
 kSign:ClsOk K D.cSign
 mkSign:Mk K D.cSign D.aSignI
 mgSign:mg "Sign"=some (.ref D.cSign)
 nSignSigns:NoAttr K D.cSign "signs"
 kChoice:ClsOk K D.cChoice
 mkChoice:Mk K D.cChoice D.aChoiceI
 mgChoice:mg "Choice"=some (.ref D.cChoice)
 nChoiceBehind:NoAttr K D.cChoice "behind"
 kTeller:ClsOk K D.cTeller
 mkTeller:Mk K D.cTeller D.aTellerI
 mgTeller:mg "Teller"=some (.ref D.cTeller)
 nTellerChoices:NoAttr K D.cTeller "choices"
 nTellerPlace:NoAttr K D.cTeller "place"
 nTellerText:NoAttr K D.cTeller "text"
 nTellerUsed:NoAttr K D.cTeller "used"
 isSaySay:PySem.W.kitOne K (.ref D.cSay) (.ref D.cSay)=some true
 isSayAsk:PySem.W.kitOne K (.ref D.cSay) (.ref D.cAsk)=some false
 isAskSay:PySem.W.kitOne K (.ref D.cAsk) (.ref D.cSay)=some false
 isAskAsk:PySem.W.kitOne K (.ref D.cAsk) (.ref D.cAsk)=some true
 isRowsSay:PySem.W.kitOne K (.ref D.cRows) (.ref D.cSay)=some false
 isRowsAsk:PySem.W.kitOne K (.ref D.cRows) (.ref D.cAsk)=some false
 isSignSign:PySem.W.kitOne K (.ref D.cSign) (.ref D.cSign)=some true
 isChoiceSign:PySem.W.kitOne K (.ref D.cChoice) (.ref D.cSign)=some false
 isStrStr:PySem.W.kitOne K (.type "str") (.type "str")=some true
 isStrList:PySem.W.kitOne K (.type "str") (.type "list")=some false
 isListList:PySem.W.kitOne K (.type "list") (.type "list")=some true
 isDictDict:PySem.W.kitOne K (.type "dict") (.type "dict")=some true
 isTupleTuple:PySem.W.kitOne K (.type "tuple") (.type "tuple")=some true
 gSigns:∃ t,mg "SIGNS"=some (.str SIGNS t)
 gWords:mg "FORM_WORDS"=some (.ref D.cWords)
 gRow:mg "ROW_WORDS"=some (.ref D.cRow)
 gLen:mg "LENGTHS"=some (.ref D.cLen)
 tWords:∃ t1 t2 t3 sl,K.lookup D.cWords=some ⟨.type "tuple",none,.seq #[.str "say" t1,.str "ask" t2,.str "rows" t3] 0,sl⟩
 tRow:∃ t1 t2 sl,K.lookup D.cRow=some ⟨.type "tuple",none,.seq #[.str "say" t1,.str "ask" t2] 0,sl⟩
 tLen:∃ t1 t2 t3 u1 u2 u3 ep,K.lookup D.cLen=some ⟨.type "dict",none,.dict #[⟨PyData.keyHash w.params "say",.str "say" t1,.int 2 u1⟩,⟨PyData.keyHash w.params "ask",.str "ask" t2,.int 5 u2⟩,⟨PyData.keyHash w.params "rows",.str "rows" t3,.int 6 u3⟩] ep,#[]⟩
 zLen:mg "len"=none
 zRange:mg "range"=none
 zIsinstance:mg "isinstance"=none
 zSet:mg "set"=none
 zAll:mg "all"=none
 zList:mg "list"=none
 zStr:mg "str"=none
 zDict:mg "dict"=none
 zReversed:mg "reversed"=none
 zEnumerate:mg "enumerate"=none
 zMax:mg "max"=none
 zMin:mg "min"=none
 zSorted:mg "sorted"=none
 zTuple:mg "tuple"=none
section
variable {P:Program} {w:World} {K:PySem.W.Frag} {mg:Str->Option Value} {base:Heap} {D:Adr}
theorem jpg:FnScope ["holds","words"] ["holds","words"] (jag jnI):=⟨rfl,rfl,rfl,by decide +kernel,rfl,by decide +kernel,by decide +kernel⟩
def jdv:Sp:=fun vs H Q _=>∃ wd,vs=[.bl true,wd]/\Q .non H
theorem jcF (T:Txt w K mg D):FnOk P w K mg base CX0 1 D.aNeed D.dNeed ["holds","words"] jdv:=by
 refine T.fNeed.ok jpg (fun vs H Q E h=>?_) (fun cdv A outer s H vs Q E hr h=>?_)
 ·obtain ⟨wd,rfl,_⟩:=h; rfl
 ·obtain ⟨wd,rfl,q⟩:=h
  refine ⟨_,jae (jay (jbB (jaJ (pv 0))) jcf jaq),?_⟩
  exact ⟨_,rfl,_,rfl,jbn q⟩
theorem scNS:FnScope ["text","least","most","what"] ["text","least","most","what"] (jag jct):=⟨rfl,rfl,rfl,by decide +kernel,rfl,by decide +kernel,by decide +kernel⟩
def spNS:Sp:=fun vs H Q _=>∃ (z:Str) (lo hi:Nat) (wt:Str),vs=[.str z,.int lo,.int hi,.str wt]/\SignsOk z lo hi/\hi<=100/\wt.length<=100/\∀ H',Same H H'->Q .non H'
theorem jnM (T:Txt w K mg D):FnOk P w K mg base CX0 2 D.aNeedSigns D.dNeedSigns ["text","least","most","what"] spNS:=by
 have G:FnOk P w K mg base CX0 1 D.aNeed D.dNeed ["holds","words"] jdv:=jcF T
 obtain ⟨tS,hS⟩:=T.gSigns
 refine T.fNeedSigns.ok scNS (fun vs H Q E h=>?_) (fun cdv A outer s H vs Q E hr h=>?_)
 ·obtain ⟨z,lo,hi,wt,rfl,_⟩:=h; rfl
 ·obtain ⟨z,lo,hi,wt,rfl,ok,h100,hw,q⟩:=h
  have hz:z.length<=sizeLine:=jbp (by have:=ok.hi; omega)
  refine ⟨_,jab (jas (jai G hr rfl T.mNeed T.fNeed.kp T.bNeed .nil jam (jaa (jhz jdL jdL (pv 1) (jaj jaW rfl T.zLen PySem.boot_len (jaa (pv 0) jad)) (pv 2)) (jaa (jjF (pv 3)) jad))))
   (jae (jas (jai G hr rfl T.mNeed T.fNeed.kp T.bNeed .nil jam (jaa (jaj (jlI rfl) rfl T.zAll PyProof.Rows.boot_all (jaa (jbD (cp:=[]) (CompScope.of (jag jct) ["text","least","most","what"] rfl rfl (by decide +kernel)) rfl (jgc (pv 0)) (fun _ _ _ _ _=>jbz)
    (fun _ _ _ _ _=>jaY jdV (pv 0) (jaS (v:=.str SIGNS) rfl hS ⟨tS,rfl⟩) rfl)) jad)) (jaa (jjF (pv 3)) jad))))),?_⟩
  have hlo:(lo:Int)<=(z.length:Int):=by have:=ok.lo; omega
  have hhi:(z.length:Int)<=(hi:Int):=by have:=ok.hi; omega
  refine ⟨_,rfl,_,rfl,z,rfl,hz,_,_,rfl,rfl,_,rfl,jcr hlo ⟨_,rfl,_,_,rfl,rfl,_,rfl,wt,rfl,jhN (by omega) (by decide +kernel),_,congrArg (fun b=>[V.bl b,_]) (decide_eq_true hhi),?_⟩⟩
  refine ⟨_,rfl,z,rfl,jhH (fun i ys H'=>H'=H/\ys=List.replicate i (V.bl true)) ⟨rfl,rfl⟩ (fun i ys H' _ e=>by rw [e.2,List.length_replicate]; exact Nat.le_refl _) hz (fun i c ys H' hc e=>?_) (fun ys H' e p hp=>?_)⟩
  ·obtain ⟨rfl,rfl⟩:=e
   refine ⟨_,rfl,c,SIGNS,rfl,rfl,?_⟩
   refine blT (Q:=fun y H5=>H5=H'/\List.replicate i (V.bl true)++[y]=List.replicate (i+1) (V.bl true)) (ok.all c (jgV hc)) ⟨rfl,?_⟩
   rw [List.replicate_succ']
  ·obtain ⟨rfl,rfl⟩:=e
   refine ⟨p,List.replicate z.cps.size true,rfl,SqL.of (by rw [jac,List.map_replicate]),_,rfl,wt,rfl,jhN (by omega) (by decide +kernel),_,congrArg (fun b=>[V.bl b,_]) ?_,q _ (jah hp _)⟩
   simp
theorem scNB:FnScope ["part","highest"] ["part","highest"] (jag jcD):=⟨rfl,rfl,rfl,by decide +kernel,rfl,by decide +kernel,by decide +kernel⟩
structure HasB (K:PySem.W.Frag) (C:Addr):Prop where
 cl:Cls K C
 l:NoAttr K C "least"
 m:NoAttr K C "most"
def spNB (K:PySem.W.Frag):Sp:=fun vs H Q _=>∃ (a C:Addr) (lo hi h:Int),vs=[.ref a,.int h]/\HasB K C/\Fld H a C [("least",.int lo),("most",.int hi)]/\0<=lo/\lo<=hi/\hi<=h/\Q .non H
theorem jph (T:Txt w K mg D):FnOk P w K mg base CX0 2 D.aNeedBounds D.dNeedBounds ["part","highest"] (spNB K):=by
 have G:FnOk P w K mg base CX0 1 D.aNeed D.dNeed ["holds","words"] jdv:=jcF T
 refine T.fNeedBounds.ok scNB (fun vs H Q E h=>?_) (fun cdv A outer s H vs Q E hr h=>?_)
 ·obtain ⟨a,C,lo,hi,h,rfl,_⟩:=h; rfl
 ·obtain ⟨a,C,lo,hi,h,rfl,B,⟨dx,fs,ha,hf⟩,h0,h1,h2,q⟩:=h
  have el:=hf ("least",.int lo) (by simp)
  have em:=hf ("most",.int hi) (by simp)
  refine ⟨_,jae (jas (jai G hr rfl T.mNeed T.fNeed.kp T.bNeed .nil jam (jaa (jjG jdL jdL jdL jaf (jaw (pv 0) rfl) (jaw (pv 0) rfl) (pv 1)) (jaa jaz jad)))),?_⟩
  refine ⟨_,rfl,a,C,dx,_,_,rfl,ha,B.cl,B.l,el,_,_,rfl,rfl,_,rfl,jcr h0 ⟨_,rfl,a,C,dx,_,_,rfl,ha,B.cl,B.m,em,_,_,rfl,rfl,_,rfl,jcr h1 ⟨_,rfl,_,_,rfl,rfl,_,congrArg (fun b=>[V.bl b,_]) (decide_eq_true h2),q⟩⟩⟩
theorem scNI:FnScope ["parts"] ["parts"] (jag jdD):=⟨rfl,rfl,rfl,by decide +kernel,rfl,by decide +kernel,by decide +kernel⟩
def Adr.cl (D:Adr):Cl:=⟨D.cSay,D.cAsk,D.cRows,D.cForm⟩
def ItemAt (D:Adr) (H:Hp) (ns:List Str) (v:V):Prop:=∃ a,v=.ref a/\((ns=[]/\∃ dx fs,H a=some (.ins D.cSay dx fs))\/∃ n,ns=[n]/\(Fld H a D.cAsk [("name",.str n)]\/Fld H a D.cRows [("name",.str n)]))
theorem ItemAt.mono {H H':Hp} (e:Same H H') {ns:List Str} {v:V} (h:ItemAt D H ns v):ItemAt D H' ns v:=by
 obtain ⟨a,rfl,h⟩:=h
 refine ⟨a,rfl,?_⟩
 rcases h with ⟨h1,dx,fs,h2⟩ | ⟨n,h1,h2 | h2⟩
 ·exact .inl ⟨h1,dx,fs,e _ _ h2⟩
 ·exact .inr ⟨n,h1,.inl (h2.mono e)⟩
 ·exact .inr ⟨n,h1,.inr (h2.mono e)⟩
theorem Fld.sub {H:Hp} {a C:Addr} {fs gs:List (Str×V)} (h:Fld H a C fs) (hs:∀ p∈gs,p∈fs):Fld H a C gs:=by
 obtain ⟨dx,l,h1,h2⟩:=h
 exact ⟨dx,l,h1,fun p hp=>h2 p (hs p hp)⟩
def spNI (K:PySem.W.Frag) (D:Adr):Sp:=fun vs H Q _=>∃ (l:Addr) (us:List V) (nss:List (List Str)),vs=[.ref l]/\H l=some (.lst us)/\us.length<=100/\Paired (ItemAt D H) nss us/\(∀ ns∈nss,ns.length<=1) /\
 ∀ r,H r=none->Q (.ref r) (upd H r (.lst (nss.flatten.map V.str)))
theorem jbc {H:Hp} {a C:Addr} {dx:Addr} {fs:List (Str×V)} (k:ClsOk K C) (h:H a=some (.ins C dx fs)):TyOf K H (.ref a) (.ref C):=.ins h k.cl k.ha k.hn k.ht k.hm
theorem ok_NI (T:Txt w K mg D):FnOk P w K mg base CX0 1 D.aNamesIn D.dNamesIn ["parts"] (spNI K D):=by
 refine T.fNamesIn.ok scNI (fun vs H Q E h=>?_) (fun cdv A outer s H vs Q E hr h=>?_)
 ·obtain ⟨l,us,nss,rfl,_⟩:=h; rfl
 ·obtain ⟨l,us,nss,rfl,hl,h100,hp,hn1,q⟩:=h
  refine ⟨_,jae (jak (jbD (cp:=[]) (tt:=tNot (tB (tCB (jjD K) (jaZ (jbA 0) (jaZ (tC (.ref D.cSay)) jeM))))) (te:=jnl K (jbA 0) "name") (CompScope.of (jag jdD) ["parts"] rfl rfl (by decide +kernel)) rfl (jaT (pv 0))
   (fun _ _ _ _ _=>jgQ (jbB (jaJ (jaj jau rfl T.zIsinstance PyProof.Rows.boot_isinstance (jaa (pv 0) (jaa (jaS (v:=.ref D.cSay) rfl T.mgSay rfl) jad)))))) (fun _ _ _ _ _=>jaw (pv 0) rfl))),?_⟩
  refine ⟨_,rfl,l,rfl,⟨_,SqL.of hl⟩,jde (xs:=us) (fun i ys H'=>H'=H/\ys=(nss.take i).flatten.map V.str) ⟨rfl,rfl⟩ (fun i ys H' hi e=>?_) (jbp (by omega)) (fun i x ys H' hx e=>?_) (fun ys H' e p hp'=>?_)⟩
  ·obtain ⟨rfl,rfl⟩:=e
   refine ⟨SqL.of hl,?_⟩
   rw [List.length_map]
   have go:∀ (L:List (List Str)),(∀ ns∈L,ns.length<=1)->L.flatten.length<=L.length:=by
    intro L
    induction L with
    | nil=>intro _; exact Nat.le_refl _
    | cons x r ih =>
     intro h
     have h1:=h x List.mem_cons_self
     have h2:=ih fun ns hns=>h ns (List.mem_cons_of_mem _ hns)
     rw [List.flatten_cons,List.length_append,List.length_cons]
     omega
   have:=go (nss.take i) fun ns hns=>hn1 ns (List.mem_of_mem_take hns)
   rw [List.length_take] at this
   omega
  ·obtain ⟨rfl,rfl⟩:=e
   have hi:i < us.length:=(List.getElem?_eq_some_iff.mp hx).1
   have hi2:i < nss.length:=by rw [hp.length]; exact hi
   have hit:=jbo hp (List.getElem?_eq_getElem hi2) hx
   have et:nss.take (i+1)=nss.take i++[nss[i]]:=by rw [List.take_add_one,List.getElem?_eq_getElem hi2]; rfl
   obtain ⟨a,rfl,hh⟩:=hit
   rcases hh with ⟨e0,dx,fs,ha⟩ | ⟨n,e1,ha | ha⟩
   ·refine ⟨_,rfl,_,_,true,.inl ⟨_,rfl,T.isSaySay⟩,jbc T.kSay ha,_,rfl,jbn ⟨rfl,?_⟩⟩
    rw [et,e0]; simp
   ·obtain ⟨dx,fs,ha,hf⟩:=ha
    refine ⟨_,rfl,_,_,false,.inl ⟨_,rfl,T.isAskSay⟩,jbc T.kAsk ha,_,rfl,jcc ⟨_,rfl,a,_,dx,_,_,rfl,ha,T.kAsk.cl,T.nAskName,hf _ (List.mem_singleton.mpr rfl),rfl,?_⟩⟩
    rw [et,e1]; simp
   ·obtain ⟨dx,fs,ha,hf⟩:=ha
    refine ⟨_,rfl,_,_,false,.inl ⟨_,rfl,T.isRowsSay⟩,jbc T.kRows ha,_,rfl,jcc ⟨_,rfl,a,_,dx,_,_,rfl,ha,T.kRows.cl,T.nRowsName,hf _ (List.mem_singleton.mpr rfl),rfl,?_⟩⟩
    rw [et,e1]; simp
  ·obtain ⟨rfl,rfl⟩:=e
   rw [show us.length=nss.length from hp.length.symm,List.take_length]
   exact q p hp'
end
theorem ne_sr:(V.str "say")≠V.str "rows":=by decide +kernel
theorem ne_ar:(V.str "ask")≠V.str "rows":=by decide +kernel
theorem ne_as:(V.str "ask")≠V.str "say":=by decide +kernel
theorem ne_rs:(V.str "rows")≠V.str "say":=by decide +kernel
theorem ne_ra:(V.str "rows")≠V.str "ask":=by decide +kernel
theorem jca {f:Str} {v:V} {fs:List (Str×V)}:(jaM f v fs).lookup f=some v:=by rw [jbm,if_pos rfl]
theorem jcl {f g:Str} {v u:V} {fs:List (Str×V)} (h:g≠f) (e:fs.lookup g=some u):(jaM f v fs).lookup g=some u:=by rw [jbm,if_neg h]; exact e
theorem jep {α:Type} {Pr:α->Prop}:∀ x∈([]:List α),Pr x:=fun _ h=>nomatch h
theorem jce {α:Type} {Pr:α->Prop} {a:α} {l:List α} (h:Pr a) (t:∀ x∈l,Pr x):∀ x∈a::l,Pr x:=List.forall_mem_cons.mpr ⟨h,t⟩
def Besides (x:Addr) (H H':Hp):Prop:=∀ b o,H b=some o->b≠x->H' b=some o
theorem Besides.upd {x:Addr} {H H':Hp} (e:Besides x H H') (o:HO):Besides x H (L2.upd H' x o):=fun b u h n=>by rw [jao n]; exact e b u h n
theorem Besides.refl {x:Addr} {H:Hp}:Besides x H H:=fun _ _ h _=>h
theorem Besides.same {x:Addr} {H H' H2:Hp} (e:Besides x H H') (g:Same H' H2):Besides x H H2:=fun b o h n=>g b o (e b o h n)
section
variable {P:Program} {w:World} {K:PySem.W.Frag} {mg:Str->Option Value} {base:Heap} {D:Adr}
theorem jpi:FnScope ["piece"] ["piece"] (jag jhd):=⟨rfl,rfl,rfl,by decide +kernel,rfl,by decide +kernel,by decide +kernel⟩
def jkd:Sp:=fun vs H Q _=>∃ (p:Pie) (v:V),vs=[v]/\p.At H v/\(∀ n inner gap lo hi,p=.rows n inner gap lo hi->inner.length<=100)/\∀ u H',Same H H'->p.AtF H H' u->Q u H'
theorem jnN (T:Txt w K mg D):FnOk P w K mg base CX0 1 D.aCopyOf D.dCopyOf ["piece"] jkd:=by
 refine T.fCopyOf.ok jpi (fun vs H Q E h=>?_) (fun cdv A outer s H vs Q E hr h=>?_)
 ·obtain ⟨p,v,rfl,_⟩:=h; rfl
 ·obtain ⟨p,v,rfl,hp,hin,q⟩:=h
  refine ⟨_,jab (jay (jat jfR (jap jal (pv 0) jaf (fun _ _=>rfl)) jaz (jax _)) (jae (jak (pv 0))) jaq)
   (jae (jak (jar jjw (jar jjw (jcK jjv (pv 0) jfg (jdb jaf)) (jbf (jaa (jcJ jdt rfl T.zList (by decide +kernel) (jaa (jap jal (pv 0) jaf (fun _ _=>rfl)) jad)) jad)))
    (jcK jjv (pv 0) (jdb jaf) jfg)))),?_⟩
  cases p with
  | one p =>
   cases p with
   | say t =>
    obtain ⟨a,rfl,ha⟩:=hp
    exact ⟨_,rfl,a,_,_,_,rfl,rfl,SqT.of ha,rfl,rfl,_,rfl,jon ne_sr ⟨_,rfl,q _ H (Same.refl H) ⟨a,rfl,ha⟩⟩⟩
   | ask n sg lo hi =>
    obtain ⟨a,rfl,ha⟩:=hp
    exact ⟨_,rfl,a,_,_,_,rfl,rfl,SqT.of ha,rfl,rfl,_,rfl,jon ne_ar ⟨_,rfl,q _ H (Same.refl H) ⟨a,rfl,ha⟩⟩⟩
  | rows n inner gap lo hi =>
   obtain ⟨a,l,us,rfl,ha,hl,hq⟩:=hp
   refine ⟨_,rfl,a,_,_,_,rfl,rfl,SqT.of ha,rfl,rfl,_,rfl,jdT rfl ?_⟩
   refine ⟨_,rfl,_,rfl,a,_,rfl,SqT.of ha,fun z=>absurd (show (2:Nat)=6 from z.2) (by decide),fun p1 h1=>?_⟩
   have g1:Same H _:=jah h1 (.tup (jhE [.str "rows",.str n,.ref l,.str gap,.int lo,.int hi] none (some 2)))
   refine ⟨_,rfl,a,_,_,_,rfl,rfl,SqT.of (g1 _ _ ha),rfl,l,us,rfl,.inl (SqL.of (g1 _ _ hl)),fun p2 h2=>⟨(by show 1<=sizeLine; decide),fun p3 h3=>?_⟩⟩
   have g2:=jah h2 (.lst us)
   have g3:=jah h3 (.tup [.ref p2])
   refine ⟨p1,p3,_,_,rfl,rfl,SqT.of (g3 _ _ (g2 _ _ jac)),SqT.of jac,(fun z=>nomatch z),(by show 2+1<=sizeLine; decide),(fun z=>nomatch z),fun _ p4 h4=>?_⟩
   have g4:=jah h4 (.tup (jhE [.str "rows",.str n,.ref l,.str gap,.int lo,.int hi] none (some 2)++[V.ref p2]))
   have ga:=g4 _ _ (g3 _ _ (g2 _ _ (g1 _ _ ha)))
   refine ⟨_,rfl,_,rfl,a,_,rfl,SqT.of ga,fun z=>absurd (show (3:Nat)=0 from z.1) (by decide),fun p5 h5=>?_⟩
   have g5:=jah h5 (.tup (jhE [.str "rows",.str n,.ref l,.str gap,.int lo,.int hi] (some 3) none))
   refine ⟨p4,p5,_,_,rfl,rfl,SqT.of (g5 _ _ jac),SqT.of jac,(fun z=>nomatch z),(by show 3+3<=sizeLine; decide),(fun z=>nomatch z),fun _ p6 h6=>?_⟩
   have gg:=g1.trans (g2.trans (g3.trans (g4.trans (g5.trans (jah h6 (.tup (jhE [.str "rows",.str n,.ref l,.str gap,.int lo,.int hi] none (some 2)++[V.ref p2]++jhE [.str "rows",.str n,.ref l,.str gap,.int lo,.int hi] (some 3) none)))))))
   refine q _ _ gg ⟨p6,p2,us,rfl,?_,jah h6 _ _ _ (g5 _ _ (g4 _ _ (g3 _ _ jac))),g1.free h2,Paired.mapP hq fun _ _ z=>z.mono gg⟩
   rw [jac]
   rfl
theorem scSay:FnScope ["self","piece"] ["self","piece"] (jag jnK):=⟨rfl,rfl,rfl,by decide +kernel,rfl,by decide +kernel,by decide +kernel⟩
def jke (D:Adr):Sp:=fun vs H Q _=>∃ (x dx:Addr) (t:Str) (v:V),vs=[.ref x,v]/\H x=some (.ins D.cSay dx [])/\(Pc.say t).At H v/\(Pc.say t).ok/\∀ H',Besides x H H'->(Pc.say t).Obj D.cl H' (.ref x)->Q .non H'
theorem jkf (T:Txt w K mg D):FnOk P w K mg base CX0 3 D.aSayI D.dSayI ["self","piece"] (jke D):=by
 have G:FnOk P w K mg base CX0 2 D.aNeedSigns D.dNeedSigns ["text","least","most","what"] spNS:=jnM T
 refine T.fSayI.ok scSay (fun vs H Q E h=>?_) (fun cdv A outer s H vs Q E hr h=>?_)
 ·obtain ⟨x,dx,t,v,rfl,_⟩:=h; rfl
 ·obtain ⟨x,dx,t,v,rfl,hx,⟨a,rfl,ha⟩,ok,q⟩:=h
  refine ⟨_,jab (jbi (pv 0) (jap jal (pv 1) jaf (fun _ _=>rfl)) rfl) (jae (jas (jai G hr rfl T.mNeedSigns T.fNeedSigns.kp T.bNeedSigns .nil jam (jaa (jaw (pv 0) rfl) (jaa jaf (jaa jaf (jaa jaz jad))))))),?_⟩
  refine ⟨_,rfl,a,_,_,_,rfl,rfl,SqT.of ha,rfl,_,rfl,x,_,dx,_,rfl,hx,T.kSay.cl,T.nSayText,(by show 0 < 1000; decide),?_⟩
  refine ⟨_,rfl,x,_,dx,_,_,rfl,jac,T.kSay.cl,T.nSayText,jca,t,1,12,_,rfl,ok,by decide,by decide +kernel,fun H' e=>?_⟩
  exact q H' (Besides.same (Besides.refl.upd _) e) ⟨x,rfl,dx,_,e _ _ jac,jce jca jep⟩
theorem scAsk:FnScope ["self","piece"] ["self","piece"] (jag jnL):=⟨rfl,rfl,rfl,by decide +kernel,rfl,by decide +kernel,by decide +kernel⟩
def askF (n sg:Str) (lo hi:Int):List (Str×V):=jaM "most" (.int hi) (jaM "least" (.int lo) (jaM "signs" (.str sg) (jaM "name" (.str n) [])))
theorem jmJ (n sg:Str) (lo hi:Int):(askF n sg lo hi).lookup ("name":Str)=some (V.str n):=jcl (by decide +kernel) (jcl (by decide +kernel) (jcl (by decide +kernel) jca))
theorem jhW (n sg:Str) (lo hi:Int):(askF n sg lo hi).lookup ("signs":Str)=some (V.str sg):=jcl (by decide +kernel) (jcl (by decide +kernel) jca)
theorem jmK (n sg:Str) (lo hi:Int):(askF n sg lo hi).lookup ("least":Str)=some (V.int lo):=jcl (by decide +kernel) jca
theorem jmL (n sg:Str) (lo hi:Int):(askF n sg lo hi).lookup ("most":Str)=some (V.int hi):=jca
def jkg (D:Adr):Sp:=fun vs H Q _=>∃ (x dx:Addr) (n sg:Str) (lo hi:Int) (v:V),vs=[.ref x,v]/\H x=some (.ins D.cAsk dx [])/\(Pc.ask n sg lo hi).At H v/\(Pc.ask n sg lo hi).ok/\∀ H',Besides x H H'->(Pc.ask n sg lo hi).Obj D.cl H' (.ref x)->Q .non H'
theorem jaI (f:Str) (v:V) (fs:List (Str×V)) {k:Nat} (h:fs.length<=k):(jaM f v fs).length<=k+1:=Nat.le_trans (jcz f v fs) (Nat.succ_le_succ h)
theorem jnO (z:Str):(sgn z).length=z.length:=by unfold sgn; simp [Str.length]
theorem jkh (T:Txt w K mg D):FnOk P w K mg base CX0 3 D.aAskI D.dAskI ["self","piece"] (jkg D):=by
 have G:FnOk P w K mg base CX0 2 D.aNeedSigns D.dNeedSigns ["text","least","most","what"] spNS:=jnM T
 have GN:FnOk P w K mg base CX0 1 D.aNeed D.dNeed ["holds","words"] jdv:=jcF T
 have GB:FnOk P w K mg base CX0 2 D.aNeedBounds D.dNeedBounds ["part","highest"] (spNB K):=jph T
 refine T.fAskI.ok scAsk (fun vs H Q E h=>?_) (fun cdv A outer s H vs Q E hr h=>?_)
 ·obtain ⟨x,dx,n,sg,lo,hi,v,rfl,_⟩:=h; rfl
 ·obtain ⟨x,dx,n,sg,lo,hi,v,rfl,hx,⟨a,rfl,ha⟩,⟨hn,hsg,hnd,hb0,hb1,hb2⟩,q⟩:=h
  have hr1:Room 1 _:=hr.mono (by decide)
  have hz:sg.length<=20:=hsg.hi
  refine ⟨_,jab (jbi (pv 0) (jap jal (pv 1) jaf (fun _ _=>rfl)) rfl)
   (jab (jbi (pv 0) (jap jal (pv 1) jaf (fun _ _=>rfl)) rfl)
   (jab (jbi (pv 0) (jap jal (pv 1) jaf (fun _ _=>rfl)) rfl)
   (jab (jbi (pv 0) (jap jal (pv 1) jaf (fun _ _=>rfl)) rfl)
   (jab (jas (jai GN hr1 rfl T.mNeed T.fNeed.kp T.bNeed .nil jam (jaa (jaY jfR (jaw (pv 0) rfl) jaz (jax _)) (jaa jaz jad))))
   (jab (jas (jai G hr rfl T.mNeedSigns T.fNeedSigns.kp T.bNeedSigns .nil jam (jaa (jaw (pv 0) rfl) (jaa jaf (jaa jaf (jaa jaz jad))))))
   (jab (jas (jai GN hr1 rfl T.mNeed T.fNeed.kp T.bNeed .nil jam (jaa (jaY jbR (jaj jcM rfl T.zLen PySem.boot_len (jaa (jcJ (jeG rfl) rfl T.zSet (by decide +kernel) (jaa (jaw (pv 0) rfl) jad)) jad)) (jaj jaW rfl T.zLen PySem.boot_len (jaa (jaw (pv 0) rfl) jad)) (jax _)) (jaa jaz jad))))
   (jae (jas (jai GB hr rfl T.mNeedBounds T.fNeedBounds.kp T.bNeedBounds .nil jam (jaa (pv 0) (jaa jaf jad))))))))))),?_⟩
  have nax:a≠x:=jbw ha hx (by intro z; cases z)
  have h2:∀ o,(L2.upd H x o) a=some (.tup [.str "ask",.str n,.str sg,.int lo,.int hi]):=fun o=>by rw [jao nax]; exact ha
  have h3:∀ o o',(L2.upd (L2.upd H x o) x o') a=some (.tup [.str "ask",.str n,.str sg,.int lo,.int hi]):=fun o o'=>by rw [jao nax]; exact h2 o
  have h4:∀ o o' o'',(L2.upd (L2.upd (L2.upd H x o) x o') x o'') a=some (.tup [.str "ask",.str n,.str sg,.int lo,.int hi]):=fun o o' o''=>by rw [jao nax]; exact h3 o o'
  refine ⟨_,rfl,a,_,_,_,rfl,rfl,SqT.of ha,rfl,_,rfl,x,_,dx,_,rfl,hx,T.kAsk.cl,T.nAskName,(by show 0 < 1000; decide),?_⟩
  refine ⟨_,rfl,a,_,_,_,rfl,rfl,SqT.of (h2 _),rfl,_,rfl,x,_,dx,_,rfl,jac,T.kAsk.cl,T.nAskSigns,Nat.lt_of_le_of_lt (jaI _ _ _ (k:=0) (Nat.le_refl _)) (by decide),?_⟩
  refine ⟨_,rfl,a,_,_,_,rfl,rfl,SqT.of (h3 _ _),rfl,_,rfl,x,_,dx,_,rfl,jac,T.kAsk.cl,T.nAskLeast,Nat.lt_of_le_of_lt (jaI _ _ _ (jaI _ _ _ (k:=0) (Nat.le_refl _))) (by decide),?_⟩
  refine ⟨_,rfl,a,_,_,_,rfl,rfl,SqT.of (h4 _ _ _),rfl,_,rfl,x,_,dx,_,rfl,jac,T.kAsk.cl,T.nAskMost,Nat.lt_of_le_of_lt (jaI _ _ _ (jaI _ _ _ (jaI _ _ _ (k:=0) (Nat.le_refl _)))) (by decide),?_⟩
  refine ⟨_,rfl,x,_,dx,_,_,rfl,jac,T.kAsk.cl,T.nAskName,jmJ n sg lo hi,rfl,_,congrArg (fun b=>[V.bl (!b),_]) (decide_eq_false (fun z=>hn (V.str.inj z))),?_⟩
  refine ⟨_,rfl,x,_,dx,_,_,rfl,jac,T.kAsk.cl,T.nAskSigns,jhW n sg lo hi,sg,1,20,_,rfl,hsg,by decide,by decide +kernel,fun H5 e5=>?_⟩
  have hx5:=e5 _ _ jac
  refine ⟨_,rfl,x,_,dx,_,_,rfl,hx5,T.kAsk.cl,T.nAskSigns,jhW n sg lo hi,sg,rfl,(by show sg.length+1 < 4096; omega),fun l hl=>?_⟩
  refine ⟨l,_,rfl,jac,?_⟩
  have e6:=jah hl (SetO P w l (dd (sgn sg)))
  have hx6:=e6 _ _ hx5
  refine ⟨_,rfl,x,_,dx,_,_,rfl,hx6,T.kAsk.cl,T.nAskSigns,jhW n sg lo hi,sg,rfl,jbp (by omega),rfl,_,congrArg (fun b=>[V.bl b,_]) (decide_eq_true ?_),?_⟩
  ·rw [jhI hnd,jnO]
  refine ⟨_,rfl,x,_,lo,hi,4,rfl,⟨T.kAsk.cl,T.nAskLeast,T.nAskMost⟩,⟨dx,_,hx6,jce (jmK n sg lo hi) (jce (jmL n sg lo hi) jep)⟩,hb0,hb1,hb2,?_⟩
  refine q _ (Besides.same (Besides.same ((((Besides.refl.upd _).upd _).upd _).upd _) e5) e6) ⟨x,rfl,dx,_,hx6,jce (jmJ n sg lo hi) (jce (jhW n sg lo hi) (jce (jmK n sg lo hi) (jce (jmL n sg lo hi) jep)))⟩
end
abbrev SqL' (H:Hp) (l:Addr) (us:List V):Prop:=H l=some (.lst us)
theorem sqOf {K:PySem.W.Frag} {H:Hp} {l:Addr} {us:List V} (h:SqL' H l us):SqL K H l us:=SqL.of h
theorem jbP {H H':Hp} {x dx C:Addr} (hx:H x=none) (hd:H dx=none) (e:Besides x (L2.upd (L2.upd H dx (.own x)) x (.ins C dx [])) H'):Same H H':=fun b o h =>
 e b o (by rw [jao (ne_of_none h hx),jao (ne_of_none h hd)]; exact h) (ne_of_none h hx)
theorem jdn {H:Hp} {x dx C:Addr} (hx:H x=none) (hd:H dx=none):Same H (L2.upd (L2.upd H dx (.own x)) x (.ins C dx [])):=jbP (C:=C) hx hd Besides.refl
def joo:List (Key×V):=[(Sum.inr "say",.int 2),(Sum.inr "ask",.int 5),(Sum.inr "rows",.int 6)]
theorem jhX:jbt joo (Sum.inr "say")=some (.int 2):=by decide +kernel
theorem jhY:jbt joo (Sum.inr "ask")=some (.int 5):=by decide +kernel
theorem jki:jbt joo (Sum.inr "rows")=some (.int 6):=by decide +kernel
section
variable {P:Program} {w:World} {K:PySem.W.Frag} {mg:Str->Option Value} {base:Heap} {D:Adr}
theorem jkj (T:Txt w K mg D) (h:Heap) (X:K.In h):∃ vs,KV joo vs/\h.DictOf (jaD P w) D.cLen vs:=by
 obtain ⟨t1,t2,t3,u1,u2,u3,ep,hk⟩:=T.tLen
 refine ⟨[(Sum.inr "say",.int 2 u1),(Sum.inr "ask",.int 5 u2),(Sum.inr "rows",.int 6 u3)],.cons ⟨rfl,u1,rfl⟩ (.cons ⟨rfl,u2,rfl⟩ (.cons ⟨rfl,u3,rfl⟩ .nil)),_,_,ep,X _ _ hk,⟨rfl,rfl,rfl⟩,rfl,?_,?_,?_⟩
 ·intro e he
  have he':e∈[(⟨PyData.keyHash w.params "say",.str "say" t1,.int 2 u1⟩:DictEntry),⟨PyData.keyHash w.params "ask",.str "ask" t2,.int 5 u2⟩,⟨PyData.keyHash w.params "rows",.str "rows" t3,.int 6 u3⟩]:=by simpa using he
  rcases List.mem_cons.mp he' with rfl | he'
  ·exact ⟨Sum.inr "say",by simp [jaD,jdx,Value.isStrOf],rfl⟩
  ·rcases List.mem_cons.mp he' with rfl | he'
   ·exact ⟨Sum.inr "ask",by simp [jaD,jdx,Value.isStrOf],rfl⟩
   ·rcases List.mem_cons.mp he' with rfl | he'
    ·exact ⟨Sum.inr "rows",by simp [jaD,jdx,Value.isStrOf],rfl⟩
    ·cases he'
 ·exact .cons (by simp [jaD,jdx,Value.isStrOf]) rfl (.cons (by simp [jaD,jdx,Value.isStrOf]) rfl (.cons (by simp [jaD,jdx,Value.isStrOf]) rfl .nil))
 ·show ([Sum.inr "say",Sum.inr "ask",Sum.inr "rows"]:List Key).Nodup
  decide +kernel
theorem jfw (T:Txt w K mg D) {H:Hp}:SqT K H D.cWords [.str "say",.str "ask",.str "rows"]:=by
 obtain ⟨t1,t2,t3,sl,hk⟩:=T.tWords
 exact .inr ⟨_,_,0,hk,rfl,rfl,(by show 3<=sizeLine; decide),.cons ⟨t1,rfl⟩ (.cons ⟨t2,rfl⟩ (.cons ⟨t3,rfl⟩ .nil))⟩
theorem jmM (T:Txt w K mg D) {H:Hp}:SqT K H D.cRow [.str "say",.str "ask"]:=by
 obtain ⟨t1,t2,sl,hk⟩:=T.tRow
 exact .inr ⟨_,_,0,hk,rfl,rfl,(by show 2<=sizeLine; decide),.cons ⟨t1,rfl⟩ (.cons ⟨t2,rfl⟩ .nil)⟩
theorem jmN:FnScope ["piece","words"] ["piece","words"] (jag jhc):=⟨rfl,rfl,rfl,by decide +kernel,rfl,by decide +kernel,by decide +kernel⟩
def jhZ {α:Type} (At:Hp->α->V->Prop) (Ob:Hp->Hp->α->V->Prop) (ok:α->Prop) (wd:Addr):Sp:=fun vs H Q _=>∃ (a:α) (v:V),vs=[v,.ref wd]/\At H a v/\ok a/\∀ u H',Same H H'->Ob H H' a u->Q u H'
def AtR (H:Hp) (p:Pc) (v:V):Prop:=p.At H v
def ObR (c:Cl) (_:Hp) (H:Hp) (p:Pc) (v:V):Prop:=p.Obj c H v
theorem jlN (T:Txt w K mg D):FnOk P w K mg base CX0 5 D.aPartOf D.dPartOf ["piece","words"] (jhZ AtR (ObR D.cl) Pc.ok D.cRow):=by
 have GN:FnOk P w K mg base CX0 1 D.aNeed D.dNeed ["holds","words"] jdv:=jcF T
 have GS:FnOk P w K mg base CX0 3 D.aSayI D.dSayI ["self","piece"] (jke D):=jkf T
 have GA:FnOk P w K mg base CX0 3 D.aAskI D.dAskI ["self","piece"] (jkg D):=jkh T
 refine T.fPartOf.ok jmN (fun vs H Q E h=>?_) (fun cdv A outer s H vs Q E hr h=>?_)
 ·obtain ⟨p,v,rfl,_⟩:=h; rfl
 ·obtain ⟨p,v,rfl,hp,ok,q⟩:=h
  have hr1:Room 1 _:=hr.mono (by decide)
  refine ⟨_,jab (jas (jai GN hr1 rfl T.mNeed T.fNeed.kp T.bNeed .nil jam (jaa (jhv (jaY jjl (jaj jav rfl T.zLen PySem.boot_len (jaa (pv 0) jad)) jaf (jax _)) (jjd (jaY jdQ (jap jal (pv 0) jaf (fun _ _=>rfl)) (pv 1) rfl))) (jaa jaz jad))))
   (jab (jas (jai GN hr1 rfl T.mNeed T.fNeed.kp T.bNeed .nil jam (jaa (jaY jbR (jaj jav rfl T.zLen PySem.boot_len (jaa (pv 0) jad)) (jjK (kvs:=joo) rfl T.gLen (jkj T) (jap jal (pv 0) jaf (fun _ _=>rfl)) (fun _ _=>rfl)) (jax _)) (jaa jaz jad))))
   (jab (jay (jat jbR (jap jal (pv 0) jaf (fun _ _=>rfl)) jaz (jax _)) (jae (jak (jbx T.mkSay GS hr rfl T.mgSay T.bSayI .nil jam (jaa (pv 0) jad)))) jaq)
   (jab (jay (jat jbR (jap jal (pv 0) jaf (fun _ _=>rfl)) jaz (jax _)) (jae (jak (jbx T.mkAsk GA hr rfl T.mgAsk T.bAskI .nil jam (jaa (pv 0) jad)))) jaq)
   (jae jhw)))),?_⟩
  cases p with
  | say t =>
   obtain ⟨a,rfl,ha⟩:=hp
   refine ⟨_,rfl,a,_,rfl,.inr (SqT.of ha),_,_,rfl,rfl,_,rfl,jcr (by show (0:Int) < 2; decide) ⟨_,rfl,a,_,_,_,rfl,rfl,SqT.of ha,rfl,_,rfl,D.cRow,_,rfl,.inr (jmM T),rfl,rfl,_,rfl,?_⟩⟩
   refine ⟨_,rfl,a,_,rfl,.inr (SqT.of ha),_,rfl,a,_,_,_,rfl,rfl,SqT.of ha,rfl,Sum.inr "say",_,rfl,jhX,rfl,_,congrArg (fun b=>[V.bl b,_]) (decide_eq_true rfl),?_⟩
   refine ⟨_,rfl,a,_,_,_,rfl,rfl,SqT.of ha,rfl,rfl,_,rfl,jcr rfl ⟨_,rfl,fun x dx hx hd ne=>?_⟩⟩
   have k0:=jdn (C:=D.cSay) hx hd
   exact ⟨x,dx,t,_,rfl,jac,⟨a,rfl,k0 _ _ ha⟩,ok,fun H' e o=>⟨rfl,q _ H' (jbP hx hd e) o⟩⟩
  | ask n sg lo hi =>
   obtain ⟨a,rfl,ha⟩:=hp
   refine ⟨_,rfl,a,_,rfl,.inr (SqT.of ha),_,_,rfl,rfl,_,rfl,jcr (by show (0:Int) < 5; decide) ⟨_,rfl,a,_,_,_,rfl,rfl,SqT.of ha,rfl,_,rfl,D.cRow,_,rfl,.inr (jmM T),rfl,rfl,_,rfl,?_⟩⟩
   refine ⟨_,rfl,a,_,rfl,.inr (SqT.of ha),_,rfl,a,_,_,_,rfl,rfl,SqT.of ha,rfl,Sum.inr "ask",_,rfl,jhY,rfl,_,congrArg (fun b=>[V.bl b,_]) (decide_eq_true rfl),?_⟩
   refine ⟨_,rfl,a,_,_,_,rfl,rfl,SqT.of ha,rfl,rfl,_,rfl,jbe ne_as ?_⟩
   refine ⟨_,rfl,a,_,_,_,rfl,rfl,SqT.of ha,rfl,rfl,_,rfl,jcr rfl ⟨_,rfl,fun x dx hx hd ne=>?_⟩⟩
   have k0:=jdn (C:=D.cAsk) hx hd
   exact ⟨x,dx,n,sg,lo,hi,_,rfl,jac,⟨a,rfl,k0 _ _ ha⟩,ok,fun H' e o=>⟨rfl,q _ H' (jbP hx hd e) o⟩⟩
theorem scParts:FnScope ["pieces","words","most","parts","names"] ["pieces","words","most"] (jag jdE):=⟨rfl,rfl,rfl,by decide +kernel,rfl,by decide +kernel,by decide +kernel⟩
def jeq {α:Type} (At:Hp->α->V->Prop) (Ob:Hp->Hp->α->V->Prop) (ok:α->Prop) (nm:α->List Str) (wd:Addr) (mx:Nat):Sp:=fun vs H Q _=>∃ (l:Addr) (us:List V) (ps:List α),vs=[.ref l,.ref wd,.int mx]/\SqL' H l us/\Paired (At H) ps us /\
 1<=ps.length/\ps.length<=mx/\(∀ p∈ps,ok p)/\(ps.flatMap nm).Nodup/\∀ r ws H',Same H H'->H r=none->H' r=some (.lst ws)->Paired (Ob H H') ps ws->Q (.ref r) H'
theorem jkk {α:Type} {nm:α->List Str} (h1:∀ a,(nm a).length<=1):∀ ps:List α,(ps.flatMap nm).length<=ps.length
 | []=>Nat.le_refl _
 | p::r=>by
  have a:=h1 p
  have b:=jkk h1 r
  rw [List.flatMap_cons,List.length_append,List.length_cons]
  omega
theorem jaC {α:Type} {l:List α} {i:Nat} {x:α} (h:l[i]?=some x):l.take (i+1)=l.take i++[x]:=by rw [List.take_add_one,h]; rfl
theorem Paired.two {α β:Type} {F:α->β->Prop} {as:List α} {bs:List β} (h:Paired F as bs) {i:Nat} {b:β} (e:bs[i]?=some b):∃ a,as[i]?=some a/\F a b:=by
 have hi:i < as.length:=by rw [h.length]; exact (List.getElem?_eq_some_iff.mp e).1
 exact ⟨as[i],List.getElem?_eq_getElem hi,jbo h (List.getElem?_eq_getElem hi) e⟩
theorem jia (T:Txt w K mg D) {α:Type} {At:Hp->α->V->Prop} {Ob:Hp->Hp->α->V->Prop} {ok:α->Prop} {nm:α->List Str} {wd:Addr} {mx k:Nat} (hk:1<=k) (hmx:mx<=100)
  (G:FnOk P w K mg base CX0 k D.aPartOf D.dPartOf ["piece","words"] (jhZ At Ob ok wd)) (atM:∀ {H H':Hp},Same H H'->∀ {a:α} {v:V},At H a v->At H' a v) (obM:∀ {H0 H H':Hp},Same H H'->∀ {a:α} {v:V},Ob H0 H a v->Ob H0 H' a v)
  (obO:∀ {H0 H1 H:Hp},Same H0 H1->∀ {a:α} {v:V},Ob H1 H a v->Ob H0 H a v) (obI:∀ {H0 H:Hp} {a:α} {v:V},Ob H0 H a v->ItemAt D H (nm a) v) (nm1:∀ a,(nm a).length<=1) :
  FnOk P w K mg base CX0 (k+1) D.aPartsOf D.dPartsOf ["pieces","words","most"] (jeq At Ob ok nm wd mx):=by
 have GN:FnOk P w K mg base CX0 1 D.aNeed D.dNeed ["holds","words"] jdv:=jcF T
 have GI:FnOk P w K mg base CX0 1 D.aNamesIn D.dNamesIn ["parts"] (spNI K D):=ok_NI T
 refine T.fPartsOf.ok scParts (fun vs H Q E h=>?_) (fun cdv A outer s H vs Q E hr h=>?_)
 ·obtain ⟨l,us,ps,rfl,_⟩:=h; rfl
 ·obtain ⟨l,us,ps,rfl,hl,hp,h1,h2,hok,hnd,q⟩:=h
  have hr1:Room 1 _:=hr.mono hk
  have hus:us.length=ps.length:=hp.length.symm
  refine ⟨_,jab (jas (jai GN hr1 rfl T.mNeed T.fNeed.kp T.bNeed .nil jam (jaa (jhz jdL jdL jaf (jaj jav rfl T.zLen PySem.boot_len (jaa (pv 0) jad)) (pv 2)) (jaa jaz jad))))
   (jab (jcq (i:=3) (cp:=[(1,"words")]) (te:=jeE (jhZ At Ob ok wd) [] E0 (jaZ (jbA 0) (jaZ (jbA 1) jeM))) scParts.nd rfl rfl (CompScope.of (jag jdE) ["pieces","words","most","parts","names"] rfl rfl (by decide +kernel)) rfl (jaT (pv 0)) (fun _ _ _ _ _=>jbz)
    (fun _ _ _ _ _=>jai G hr rfl T.mPartOf T.fPartOf.kp T.bPartOf .nil jam (jaa (pv 0) (jaa (pv 1) jad))))
   (jab (jan (i:=4) scParts.nd rfl (Or.inl rfl) (jai GI hr1 rfl T.mNamesIn T.fNamesIn.kp T.bNamesIn .nil jam (jaa (pv 3) jad)))
   (jab (jas (jai GN hr1 rfl T.mNeed T.fNeed.kp T.bNeed .nil jam (jaa (jaY jbR (jaj jcM rfl T.zLen PySem.boot_len (jaa (jcJ (jeF rfl) rfl T.zSet (by decide +kernel) (jaa (pv 4) jad)) jad)) (jaj jav rfl T.zLen PySem.boot_len (jaa (pv 4) jad)) (jax _)) (jaa jaz jad))))
   (jae (jak (pv 3)))))),?_⟩
  refine ⟨_,rfl,l,us,rfl,.inl (sqOf hl),_,_,rfl,rfl,_,rfl,jcr (by show (1:Int)<=(us.length:Int); omega) ⟨_,rfl,_,_,rfl,rfl,_,congrArg (fun b=>[V.bl b,_]) (decide_eq_true (by show (us.length:Int)<=(mx:Int); omega)),?_⟩⟩
  refine ⟨_,rfl,l,rfl,⟨_,sqOf hl⟩,jbg (xs:=us) (fun i ys H'=>Same H H'/\Paired (Ob H H') (ps.take i) ys) ⟨Same.refl H,.nil⟩ (fun i ys H' hi e=>⟨e.1.seq (sqOf hl),?_⟩) (jbp (by omega)) (fun i x ys H' hx e=>?_) (fun ys H' e r hr'=>?_)⟩
  ·have:=e.2.length
   rw [List.length_take] at this
   omega
  ·obtain ⟨e1,e2⟩:=e
   obtain ⟨a,ea,pa⟩:=Paired.two hp hx
   refine ⟨_,rfl,_,rfl,a,x,rfl,atM e1 pa,hok a (List.mem_of_getElem? ea),fun u H5 e5 o5=>⟨e1.trans e5,?_⟩⟩
   rw [jaC ea]
   exact (Paired.mapP e2 fun _ _ z=>obM e5 z).snoc (obO e1 o5)
  ·obtain ⟨e1,e2⟩:=e
   rw [hus,List.take_length] at e2
   have e3:=jah hr' (.lst ys)
   have pl:ys.length=ps.length:=e2.length.symm
   refine ⟨_,rfl,r,ys,ps.map nm,rfl,jac,by omega,?_,?_,fun r2 hr2=>?_⟩
   ·have go:∀ {ps:List α} {ys:List V},Paired (Ob H H') ps ys->Paired (ItemAt D (L2.upd H' r (.lst _))) (ps.map nm) ys:=fun h=>by
     induction h with
     | nil=>exact .nil
     | cons a t ih=>exact .cons ((obI a).mono e3) ih
    exact go e2
   ·intro ns hns
    obtain ⟨a,_,rfl⟩:=List.mem_map.mp hns
    exact nm1 a
   ·have e4:=jah hr2 (.lst (((ps.map nm).flatten).map V.str))
    have ef:(ps.map nm).flatten=ps.flatMap nm:=by rw [List.flatMap_def]
    have hlen:=jkk nm1 ps
    refine ⟨_,rfl,r2,_,rfl,SqL.of jac,(by rw [ef]; show _ < 4096; omega),fun r3 hr3=>⟨r3,_,rfl,jac,?_⟩⟩
    have e5:=jah hr3 (SetO P w r3 (dd (ps.map nm).flatten))
    refine ⟨_,rfl,r2,_,rfl,.inl (SqL.of (e5 _ _ jac)),rfl,_,congrArg (fun b=>[V.bl b,_]) (decide_eq_true ?_),?_⟩
    ·rw [List.length_map,ef,jhI hnd]
    ·refine ⟨_,rfl,q r ys _ (e1.trans (e3.trans (e4.trans e5))) (e1.free hr') (e5 _ _ (e4 _ _ jac)) ?_⟩
     exact Paired.mapP e2 fun _ _ z=>obM (e3.trans (e4.trans e5)) z
theorem Pc.Obj.item {H:Hp}:∀ {p:Pc} {v:V},p.Obj D.cl H v->ItemAt D H p.nm v
 | .say _,_,⟨a,h1,dx,fs,h2,_⟩=>⟨a,h1,.inl ⟨rfl,dx,fs,h2⟩⟩
 | .ask n ..,_,⟨a,h1,h2⟩=>⟨a,h1,.inr ⟨n,rfl,.inl (h2.sub (jce (List.mem_cons_self) jep))⟩⟩
theorem Pie.Obj.item {H0 H:Hp}:∀ {p:Pie} {v:V},p.Obj D.cl H0 H v->ItemAt D H p.nm v
 | .one p,_,h=>Pc.Obj.item (p:=p) h
 | .rows n ..,_,⟨a,l,us,h1,h2,_⟩=>⟨a,h1,.inr ⟨n,rfl,.inr (h2.sub (jce (List.mem_cons_self) jep))⟩⟩
theorem jmO:∀ p:Pc,p.nm.length<=1
 | .say _=>Nat.zero_le _
 | .ask ..=>Nat.le_refl _
theorem jnP:∀ p:Pie,p.nm.length<=1
 | .one p=>jmO p
 | .rows ..=>Nat.le_refl _
theorem jkl (T:Txt w K mg D):FnOk P w K mg base CX0 6 D.aPartsOf D.dPartsOf ["pieces","words","most"] (jeq AtR (ObR D.cl) Pc.ok Pc.nm D.cRow 3) :=
 jia T (by decide) (by decide) (jlN T) (fun e _ _ h=>Pc.At.mono e h) (fun e _ _ h=>Pc.Obj.mono e h) (fun _ _ _ h=>h) (fun h=>Pc.Obj.item h) jmO
theorem Pc.Obj.besides {c:Cl} {H H':Hp} {x C dx:Addr} {fs:List (Str×V)} (hx:H x=some (.ins C dx fs)) (h1:fs.lookup ("text":Str)=none) (h2:fs.lookup ("signs":Str)=none) (e:Besides x H H'):∀ {p:Pc} {v:V},p.Obj c H v->p.Obj c H' v
 | .say t,v,⟨a,ha,da,l,hl,hf⟩=>by
  have z:=hf ("text",.str t) List.mem_cons_self
  refine ⟨a,ha,da,l,e _ _ hl (fun q=>?_),hf⟩
  rw [q,hx] at hl; cases hl
  rw [h1] at z; cases z
 | .ask n sg lo hi,v,⟨a,ha,da,l,hl,hf⟩=>by
  have z:=hf ("signs",.str sg) (List.mem_cons_of_mem _ List.mem_cons_self)
  refine ⟨a,ha,da,l,e _ _ hl (fun q=>?_),hf⟩
  rw [q,hx] at hl; cases hl
  rw [h2] at z; cases z
theorem jpj:FnScope ["self","piece"] ["self","piece"] (jag jkb):=⟨rfl,rfl,rfl,by decide +kernel,rfl,by decide +kernel,by decide +kernel⟩
def jiR (n:Str) (r:Addr) (gap:Str) (lo hi:Int):List (Str×V):=jaM "most" (.int hi) (jaM "least" (.int lo) (jaM "gap" (.str gap) (jaM "parts" (.ref r) (jaM "name" (.str n) []))))
theorem jkm (n:Str) (r:Addr) (gap:Str) (lo hi:Int):(jiR n r gap lo hi).lookup ("name":Str)=some (V.str n):=jcl (by decide +kernel) (jcl (by decide +kernel) (jcl (by decide +kernel) (jcl (by decide +kernel) jca)))
theorem jnQ (n:Str) (r:Addr) (gap:Str) (lo hi:Int):(jiR n r gap lo hi).lookup ("parts":Str)=some (V.ref r):=jcl (by decide +kernel) (jcl (by decide +kernel) (jcl (by decide +kernel) jca))
theorem jkn (n:Str) (r:Addr) (gap:Str) (lo hi:Int):(jiR n r gap lo hi).lookup ("gap":Str)=some (V.str gap):=jcl (by decide +kernel) (jcl (by decide +kernel) jca)
theorem jko (n:Str) (r:Addr) (gap:Str) (lo hi:Int):(jiR n r gap lo hi).lookup ("least":Str)=some (V.int lo):=jcl (by decide +kernel) jca
theorem jkp (n:Str) (r:Addr) (gap:Str) (lo hi:Int):(jiR n r gap lo hi).lookup ("most":Str)=some (V.int hi):=jca
def jkq (D:Adr):Sp:=fun vs H Q _=>∃ (x dx:Addr) (n:Str) (inner:List Pc) (gap:Str) (lo hi:Int) (v:V),vs=[.ref x,v]/\H x=some (.ins D.cRows dx [])/\(Pie.rows n inner gap lo hi).At H v/\(Pie.rows n inner gap lo hi).ok /\
 ∀ H',Besides x H H'->(Pie.rows n inner gap lo hi).Obj D.cl H H' (.ref x)->Q .non H'
theorem jlO (T:Txt w K mg D):FnOk P w K mg base CX0 7 D.aRowsI D.dRowsI ["self","piece"] (jkq D):=by
 have G:FnOk P w K mg base CX0 2 D.aNeedSigns D.dNeedSigns ["text","least","most","what"] spNS:=jnM T
 have GN:FnOk P w K mg base CX0 1 D.aNeed D.dNeed ["holds","words"] jdv:=jcF T
 have GB:FnOk P w K mg base CX0 2 D.aNeedBounds D.dNeedBounds ["part","highest"] (spNB K):=jph T
 have GP:FnOk P w K mg base CX0 6 D.aPartsOf D.dPartsOf ["pieces","words","most"] (jeq AtR (ObR D.cl) Pc.ok Pc.nm D.cRow 3):=jkl T
 refine T.fRowsI.ok jpj (fun vs H Q E h=>?_) (fun cdv A outer s H vs Q E hr h=>?_)
 ·obtain ⟨x,dx,n,inner,gap,lo,hi,v,rfl,_⟩:=h; rfl
 ·obtain ⟨x,dx,n,inner,gap,lo,hi,v,rfl,hx,⟨a,l,us,rfl,ha,hl,hp⟩,⟨hn,⟨i1,i2,i3,i4⟩,hg,hb0,hb1,hb2⟩,q⟩:=h
  have hr1:Room 1 _:=hr.mono (by decide)
  have hr2:Room 2 _:=hr.mono (by decide)
  refine ⟨_,jab (jbi (pv 0) (jap jal (pv 1) jaf (fun _ _=>rfl)) rfl)
   (jab (jbi (pv 0) (jai GP hr rfl T.mPartsOf T.fPartsOf.kp T.bPartsOf .nil jam (jaa (jap jal (pv 1) jaf (fun _ _=>rfl)) (jaa (jaS (v:=.ref D.cRow) rfl T.gRow rfl) (jaa jaf jad)))) rfl)
   (jab (jbi (pv 0) (jap jal (pv 1) jaf (fun _ _=>rfl)) rfl)
   (jab (jbi (pv 0) (jap jal (pv 1) jaf (fun _ _=>rfl)) rfl)
   (jab (jbi (pv 0) (jap jal (pv 1) jaf (fun _ _=>rfl)) rfl)
   (jab (jas (jai GN hr1 rfl T.mNeed T.fNeed.kp T.bNeed .nil jam (jaa (jaY jfR (jaw (pv 0) rfl) jaz (jax _)) (jaa jaz jad))))
   (jab (jas (jai G hr2 rfl T.mNeedSigns T.fNeedSigns.kp T.bNeedSigns .nil jam (jaa (jaw (pv 0) rfl) (jaa jaf (jaa jaf (jaa jaz jad))))))
   (jae (jas (jai GB hr2 rfl T.mNeedBounds T.fNeedBounds.kp T.bNeedBounds .nil jam (jaa (pv 0) (jaa jaf jad))))))))))),?_⟩
  have nax:a≠x:=jbw ha hx (by intro z; cases z)
  have nlx:l≠x:=jbw hl hx (by intro z; cases z)
  refine ⟨_,rfl,a,_,_,_,rfl,rfl,SqT.of ha,rfl,_,rfl,x,_,dx,_,rfl,hx,T.kRows.cl,T.nRowsName,(by show 0 < 1000; decide),?_⟩
  have b1:Besides x H (L2.upd H x (.ins D.cRows dx (jaM "name" (.str n) []))):=Besides.refl.upd _
  have ha1:=b1 _ _ ha nax
  have hl1:=b1 _ _ hl nlx
  refine ⟨_,rfl,a,_,_,_,rfl,rfl,SqT.of ha1,rfl,l,us,inner,rfl,hl1,?_,i1,i2,i3,i4,fun r ws H2 e2 nr hr2' ow=>?_⟩
  ·exact Paired.mapP hp fun p v z=>by
    obtain ⟨b,rfl,hb⟩:=z
    exact ⟨b,rfl,b1 _ _ hb (jbw hb hx (by intro z; cases z))⟩
  have hx2:=e2 _ _ jac
  have nrx:r≠x:=jbw hr2' hx2 (by intro z; cases z)
  have nr0:H r=none:=by rw [jao nrx] at nr; exact nr
  have b2:Besides x H H2:=Besides.same b1 e2
  have ha2:=b2 _ _ ha nax
  refine ⟨_,rfl,x,_,dx,_,rfl,hx2,T.kRows.cl,T.nRowsParts,Nat.lt_of_le_of_lt (jaI _ _ _ (k:=0) (Nat.le_refl _)) (by decide),?_⟩
  have c3:Besides x H2 _:=Besides.refl.upd (.ins D.cRows dx (jaM "parts" (.ref r) (jaM "name" (.str n) [])))
  refine ⟨_,rfl,a,_,_,_,rfl,rfl,SqT.of (c3 _ _ ha2 nax),rfl,_,rfl,x,_,dx,_,rfl,jac,T.kRows.cl,T.nRowsGap,Nat.lt_of_le_of_lt (jaI _ _ _ (jaI _ _ _ (k:=0) (Nat.le_refl _))) (by decide),?_⟩
  have c4:=c3.upd (.ins D.cRows dx (jaM "gap" (.str gap) (jaM "parts" (.ref r) (jaM "name" (.str n) []))))
  refine ⟨_,rfl,a,_,_,_,rfl,rfl,SqT.of (c4 _ _ ha2 nax),rfl,_,rfl,x,_,dx,_,rfl,jac,T.kRows.cl,T.nRowsLeast,Nat.lt_of_le_of_lt (jaI _ _ _ (jaI _ _ _ (jaI _ _ _ (k:=0) (Nat.le_refl _)))) (by decide),?_⟩
  have c5:=c4.upd (.ins D.cRows dx (jaM "least" (.int lo) (jaM "gap" (.str gap) (jaM "parts" (.ref r) (jaM "name" (.str n) [])))))
  refine ⟨_,rfl,a,_,_,_,rfl,rfl,SqT.of (c5 _ _ ha2 nax),rfl,_,rfl,x,_,dx,_,rfl,jac,T.kRows.cl,T.nRowsMost,Nat.lt_of_le_of_lt (jaI _ _ _ (jaI _ _ _ (jaI _ _ _ (jaI _ _ _ (k:=0) (Nat.le_refl _))))) (by decide),?_⟩
  have c6:=c5.upd (.ins D.cRows dx (jiR n r gap lo hi))
  refine ⟨_,rfl,x,_,dx,_,_,rfl,jac,T.kRows.cl,T.nRowsName,jkm n r gap lo hi,rfl,_,congrArg (fun b=>[V.bl (!b),_]) (decide_eq_false (fun z=>hn (V.str.inj z))),?_⟩
  refine ⟨_,rfl,x,_,dx,_,_,rfl,jac,T.kRows.cl,T.nRowsGap,jkn n r gap lo hi,gap,0,5,_,rfl,hg,by decide,by decide +kernel,fun H7 e7=>?_⟩
  have hx7:=e7 _ _ jac
  have c7:=Besides.same c6 e7
  refine ⟨_,rfl,x,_,lo,hi,3,rfl,⟨T.kRows.cl,T.nRowsLeast,T.nRowsMost⟩,⟨dx,_,hx7,jce (jko n r gap lo hi) (jce (jkp n r gap lo hi) jep)⟩,hb0,hb1,hb2,?_⟩
  refine q _ (fun b o h1 h2=>c7 b o (b2 b o h1 h2) h2) ⟨x,r,ws,rfl,⟨dx,_,hx7,jce (jkm n r gap lo hi) (jce (jnQ n r gap lo hi) (jce (jkn n r gap lo hi) (jce (jko n r gap lo hi) (jce (jkp n r gap lo hi) jep))))⟩,c7 _ _ hr2' nrx,nr0,?_⟩
  have n1:(jaM "name" (V.str n) []).lookup ("text":Str)=none:=by rw [jbm,if_neg (by decide +kernel)]; rfl
  have n2:(jaM "name" (V.str n) []).lookup ("signs":Str)=none:=by rw [jbm,if_neg (by decide +kernel)]; rfl
  exact Paired.mapP ow fun p v z=>Pc.Obj.besides hx2 n1 n2 c7 z
def AtP (H:Hp) (p:Pie) (v:V):Prop:=p.At H v
def ObP (c:Cl) (H0 H:Hp) (p:Pie) (v:V):Prop:=p.Obj c H0 H v
theorem jlP (T:Txt w K mg D):FnOk P w K mg base CX0 9 D.aPartOf D.dPartOf ["piece","words"] (jhZ AtP (ObP D.cl) Pie.ok D.cWords):=by
 have GN:FnOk P w K mg base CX0 1 D.aNeed D.dNeed ["holds","words"] jdv:=jcF T
 have GS:FnOk P w K mg base CX0 3 D.aSayI D.dSayI ["self","piece"] (jke D):=jkf T
 have GA:FnOk P w K mg base CX0 3 D.aAskI D.dAskI ["self","piece"] (jkg D):=jkh T
 have GR:FnOk P w K mg base CX0 7 D.aRowsI D.dRowsI ["self","piece"] (jkq D):=jlO T
 refine T.fPartOf.ok jmN (fun vs H Q E h=>?_) (fun cdv A outer s H vs Q E hr h=>?_)
 ·obtain ⟨p,v,rfl,_⟩:=h; rfl
 ·obtain ⟨p,v,rfl,hp,ok,q⟩:=h
  have hr1:Room 1 _:=hr.mono (by decide)
  have hr4:Room 4 _:=hr.mono (by decide)
  refine ⟨_,jab (jas (jai GN hr1 rfl T.mNeed T.fNeed.kp T.bNeed .nil jam (jaa (jhv (jaY jjl (jaj jav rfl T.zLen PySem.boot_len (jaa (pv 0) jad)) jaf (jax _)) (jjd (jaY jdQ (jap jal (pv 0) jaf (fun _ _=>rfl)) (pv 1) rfl))) (jaa jaz jad))))
   (jab (jas (jai GN hr1 rfl T.mNeed T.fNeed.kp T.bNeed .nil jam (jaa (jaY jbR (jaj jav rfl T.zLen PySem.boot_len (jaa (pv 0) jad)) (jjK (kvs:=joo) rfl T.gLen (jkj T) (jap jal (pv 0) jaf (fun _ _=>rfl)) (fun _ _=>rfl)) (jax _)) (jaa jaz jad))))
   (jab (jay (jat jbR (jap jal (pv 0) jaf (fun _ _=>rfl)) jaz (jax _)) (jae (jak (jbx T.mkSay GS hr4 rfl T.mgSay T.bSayI .nil jam (jaa (pv 0) jad)))) jaq)
   (jab (jay (jat jbR (jap jal (pv 0) jaf (fun _ _=>rfl)) jaz (jax _)) (jae (jak (jbx T.mkAsk GA hr4 rfl T.mgAsk T.bAskI .nil jam (jaa (pv 0) jad)))) jaq)
   (jae (jak (jbx T.mkRows GR hr rfl T.mgRows T.bRowsI .nil jam (jaa (pv 0) jad))))))),?_⟩
  cases p with
  | one p =>
   cases p with
   | say t =>
    obtain ⟨a,rfl,ha⟩:=hp
    refine ⟨_,rfl,a,_,rfl,.inr (SqT.of ha),_,_,rfl,rfl,_,rfl,jcr (by show (0:Int) < 2; decide) ⟨_,rfl,a,_,_,_,rfl,rfl,SqT.of ha,rfl,_,rfl,D.cWords,_,rfl,.inr (jfw T),rfl,rfl,_,rfl,?_⟩⟩
    refine ⟨_,rfl,a,_,rfl,.inr (SqT.of ha),_,rfl,a,_,_,_,rfl,rfl,SqT.of ha,rfl,Sum.inr "say",_,rfl,jhX,rfl,_,congrArg (fun b=>[V.bl b,_]) (decide_eq_true rfl),?_⟩
    refine ⟨_,rfl,a,_,_,_,rfl,rfl,SqT.of ha,rfl,rfl,_,rfl,jcr rfl ⟨_,rfl,fun x dx hx hd ne=>?_⟩⟩
    have k0:=jdn (C:=D.cSay) hx hd
    exact ⟨x,dx,t,_,rfl,jac,⟨a,rfl,k0 _ _ ha⟩,ok,fun H' e o=>⟨rfl,q _ H' (jbP hx hd e) o⟩⟩
   | ask n sg lo hi =>
    obtain ⟨a,rfl,ha⟩:=hp
    refine ⟨_,rfl,a,_,rfl,.inr (SqT.of ha),_,_,rfl,rfl,_,rfl,jcr (by show (0:Int) < 5; decide) ⟨_,rfl,a,_,_,_,rfl,rfl,SqT.of ha,rfl,_,rfl,D.cWords,_,rfl,.inr (jfw T),rfl,rfl,_,rfl,?_⟩⟩
    refine ⟨_,rfl,a,_,rfl,.inr (SqT.of ha),_,rfl,a,_,_,_,rfl,rfl,SqT.of ha,rfl,Sum.inr "ask",_,rfl,jhY,rfl,_,congrArg (fun b=>[V.bl b,_]) (decide_eq_true rfl),?_⟩
    refine ⟨_,rfl,a,_,_,_,rfl,rfl,SqT.of ha,rfl,rfl,_,rfl,jbe ne_as ?_⟩
    refine ⟨_,rfl,a,_,_,_,rfl,rfl,SqT.of ha,rfl,rfl,_,rfl,jcr rfl ⟨_,rfl,fun x dx hx hd ne=>?_⟩⟩
    have k0:=jdn (C:=D.cAsk) hx hd
    exact ⟨x,dx,n,sg,lo,hi,_,rfl,jac,⟨a,rfl,k0 _ _ ha⟩,ok,fun H' e o=>⟨rfl,q _ H' (jbP hx hd e) o⟩⟩
  | rows n inner gap lo hi =>
   obtain ⟨a,l,us,rfl,ha,hl,hi'⟩:=hp
   refine ⟨_,rfl,a,_,rfl,.inr (SqT.of ha),_,_,rfl,rfl,_,rfl,jcr (by show (0:Int) < 6; decide) ⟨_,rfl,a,_,_,_,rfl,rfl,SqT.of ha,rfl,_,rfl,D.cWords,_,rfl,.inr (jfw T),rfl,rfl,_,rfl,?_⟩⟩
   refine ⟨_,rfl,a,_,rfl,.inr (SqT.of ha),_,rfl,a,_,_,_,rfl,rfl,SqT.of ha,rfl,Sum.inr "rows",_,rfl,jki,rfl,_,congrArg (fun b=>[V.bl b,_]) (decide_eq_true rfl),?_⟩
   refine ⟨_,rfl,a,_,_,_,rfl,rfl,SqT.of ha,rfl,rfl,_,rfl,jbe ne_rs ?_⟩
   refine ⟨_,rfl,a,_,_,_,rfl,rfl,SqT.of ha,rfl,rfl,_,rfl,jbe ne_ra ⟨_,rfl,fun x dx hx hd ne=>?_⟩⟩
   have k0:=jdn (C:=D.cRows) hx hd
   exact ⟨x,dx,n,inner,gap,lo,hi,_,rfl,jac,⟨a,l,us,rfl,k0 _ _ ha,k0 _ _ hl,Paired.mapP hi' fun _ _ z=>Pc.At.mono k0 z⟩,ok,fun H' e o=>⟨rfl,q _ H' (jbP hx hd e) (Pie.Obj.older k0 o)⟩⟩
theorem jkr (T:Txt w K mg D):FnOk P w K mg base CX0 10 D.aPartsOf D.dPartsOf ["pieces","words","most"] (jeq AtP (ObP D.cl) Pie.ok Pie.nm D.cWords 6) :=
 jia T (by decide) (by decide) (jlP T) (fun e _ _ h=>Pie.At.mono e h) (fun e _ _ h=>Pie.Obj.mono e h) (fun e _ _ h=>Pie.Obj.older e h) (fun h=>Pie.Obj.item h) jnP
theorem Fld.away {H:Hp} {a C x C' dx:Addr} {p:Str×V} {fs:List (Str×V)} (h:Fld H a C (p::fs)) (hx:H x=some (.ins C' dx [])):a≠x:=by
 obtain ⟨da,l,hl,hf⟩:=h
 intro e
 rw [e,hx] at hl; cases hl
 have:=hf p List.mem_cons_self
 cases this
theorem Fld.besides {H H':Hp} {a C x C' dx:Addr} {p:Str×V} {fs:List (Str×V)} (hx:H x=some (.ins C' dx [])) (e:Besides x H H') (h:Fld H a C (p::fs)):Fld H' a C (p::fs):=by
 have n:=h.away hx
 obtain ⟨da,l,hl,hf⟩:=h
 exact ⟨da,l,e _ _ hl n,hf⟩
theorem Pc.Obj.aside {c:Cl} {H H':Hp} {x C dx:Addr} (hx:H x=some (.ins C dx [])) (e:Besides x H H'):∀ {p:Pc} {v:V},p.Obj c H v->p.Obj c H' v
 | .say _,_,⟨a,ha,h⟩=>⟨a,ha,h.besides hx e⟩
 | .ask ..,_,⟨a,ha,h⟩=>⟨a,ha,h.besides hx e⟩
theorem Pie.Obj.aside {c:Cl} {H0 H H':Hp} {x C dx:Addr} (hx:H x=some (.ins C dx [])) (e:Besides x H H'):∀ {p:Pie} {v:V},p.Obj c H0 H v->p.Obj c H0 H' v
 | .one p,_,h=>Pc.Obj.aside (p:=p) hx e h
 | .rows ..,_,⟨a,l,us,ha,h,hl,h0,hp⟩=>⟨a,l,us,ha,h.besides hx e,e _ _ hl (jbw hl hx (by intro z; cases z)),h0,Paired.mapP hp fun _ _ z=>z.aside hx e⟩
theorem Pie.AtF.older' {H0 H1 H:Hp} (e:∀ b,H1 b=none->H0 b=none):∀ {p:Pie} {v:V},p.AtF H1 H v->p.AtF H0 H v
 | .one p,_,h=>h
 | .rows ..,_,⟨a,l,vs,h1,h2,h3,h5,h4⟩=>⟨a,l,vs,h1,h2,h3,e _ h5,h4⟩
theorem Pc.At.besides {H H':Hp} {x C dx:Addr} {fs:List (Str×V)} (hx:H x=some (.ins C dx fs)) (e:Besides x H H') {p:Pc} {v:V} (h:p.At H v):p.At H' v:=by
 obtain ⟨a,ha,hl⟩:=h
 exact ⟨a,ha,e _ _ hl (jbw hl hx (by intro z; cases z))⟩
theorem Pie.At.besides {H H':Hp} {x C dx:Addr} {fs:List (Str×V)} (hx:H x=some (.ins C dx fs)) (e:Besides x H H'):∀ {p:Pie} {v:V},p.At H v->p.At H' v
 | .one p,_,h=>Pc.At.besides (p:=p) hx e h
 | .rows ..,_,⟨a,l,us,ha,h,hl,hp⟩=>⟨a,l,us,ha,e _ _ h (jbw h hx (by intro z; cases z)),e _ _ hl (jbw hl hx (by intro z; cases z)),Paired.mapP hp fun _ _ z=>z.besides hx e⟩
theorem Pie.AtF.besides {H0 H H':Hp} {x C dx:Addr} {fs:List (Str×V)} (hx:H x=some (.ins C dx fs)) (e:Besides x H H'):∀ {p:Pie} {v:V},p.AtF H0 H v->p.AtF H0 H' v
 | .one p,_,h=>Pc.At.besides (p:=p) hx e h
 | .rows ..,_,⟨a,l,us,ha,h,hl,h0,hp⟩=>⟨a,l,us,ha,e _ _ h (jbw h hx (by intro z; cases z)),e _ _ hl (jbw hl hx (by intro z; cases z)),h0,Paired.mapP hp fun _ _ z=>z.besides hx e⟩
theorem jpk:FnScope ["self","pieces"] ["self","pieces"] (jag jhV):=⟨rfl,rfl,rfl,by decide +kernel,rfl,by decide +kernel,by decide +kernel⟩
def jks (D:Adr):Sp:=fun vs H Q _=>∃ (x dx l:Addr) (us:List V) (ps:List Pie),vs=[.ref x,.ref l]/\H x=some (.ins D.cForm dx [])/\H l=some (.lst us)/\Paired (Pie.At H) ps us/\FormOk ps/\∀ H',Besides x H H'->FormAt D.cl H H' ps (.ref x)->Q .non H'
theorem jlQ (T:Txt w K mg D):FnOk P w K mg base CX0 11 D.aFormI D.dFormI ["self","pieces"] (jks D):=by
 have GP:FnOk P w K mg base CX0 10 D.aPartsOf D.dPartsOf ["pieces","words","most"] (jeq AtP (ObP D.cl) Pie.ok Pie.nm D.cWords 6):=jkr T
 have GC:FnOk P w K mg base CX0 1 D.aCopyOf D.dCopyOf ["piece"] jkd:=jnN T
 refine T.fFormI.ok jpk (fun vs H Q E h=>?_) (fun cdv A outer s H vs Q E hr h=>?_)
 ·obtain ⟨x,dx,l,us,ps,rfl,_⟩:=h; rfl
 ·obtain ⟨x,dx,l,us,ps,rfl,hx,hl,hp,⟨f1,f2,f3,f4⟩,q⟩:=h
  have hr1:Room 1 _:=hr.mono (by decide)
  have hus:us.length=ps.length:=hp.length.symm
  refine ⟨_,jab (jbi (pv 0) (jai GP hr rfl T.mPartsOf T.fPartsOf.kp T.bPartsOf .nil jam (jaa (pv 1) (jaa (jaS (v:=.ref D.cWords) rfl T.gWords rfl) (jaa jaf jad)))) rfl)
   (jae (jbi (pv 0) (jbD (cp:=[]) (te:=jeE jkd [] E0 (jaZ (jbA 0) jeM)) (CompScope.of (jag jhV) ["self","pieces"] rfl rfl (by decide +kernel)) rfl (jaT (pv 1)) (fun _ _ _ _ _=>jbz)
    (fun _ _ _ _ _=>jai GC hr1 rfl T.mCopyOf T.fCopyOf.kp T.bCopyOf .nil jam (jaa (pv 0) jad))) rfl)),?_⟩
  refine ⟨_,rfl,l,us,ps,rfl,hl,hp,f1,f2,f3,f4,fun r ws H1 e1 nr hr1' ow=>?_⟩
  have hx1:=e1 _ _ hx
  refine ⟨_,rfl,x,_,dx,_,rfl,hx1,T.kForm.cl,T.nFormPlan,(by show 0 < 1000; decide),?_⟩
  have c2:Besides x H1 (L2.upd H1 x (.ins D.cForm dx (jaM "plan" (.ref r) []))):=Besides.refl.upd _
  have nlx:l≠x:=jbw hl hx (by intro z; cases z)
  have nrx:r≠x:=jbw hr1' hx1 (by intro z; cases z)
  have hl2:=c2 _ _ (e1 _ _ hl) nlx
  have hp2:Paired (Pie.At (L2.upd H1 x (.ins D.cForm dx (jaM "plan" (.ref r) [])))) ps us:=Paired.mapP hp fun _ _ z=>(z.mono e1).besides hx1 c2
  generalize hH2:L2.upd H1 x (.ins D.cForm dx (jaM "plan" (.ref r) []))=H2 at c2 hl2 hp2 ⊢
  have hx2:H2 x=some (.ins D.cForm dx (jaM "plan" (.ref r) [])):=by rw [<- hH2]; exact jac
  have old:∀ b,H2 b=none->H b=none:=fun b hb=>by
   cases q0:H b with
   | none=>rfl
   | some o =>
    have nb:b≠x:=fun z=>by rw [z,hx2] at hb; cases hb
    have:=c2 _ _ (e1 _ _ q0) nb
    rw [hb] at this; cases this
  refine ⟨_,rfl,l,rfl,⟨_,SqL.of hl2⟩,jbg (xs:=us) (fun i ys H'=>Same H2 H'/\Paired (Pie.AtF H2 H') (ps.take i) ys) ⟨Same.refl H2,.nil⟩ (fun i ys H' hi e=>⟨SqL.of (e.1 _ _ hl2),?_⟩) (jbp (by omega)) (fun i y ys H' hy e=>?_) (fun ys H3 e m hm=>?_)⟩
  ·have:=e.2.length
   rw [List.length_take] at this
   omega
  ·obtain ⟨g1,g2⟩:=e
   obtain ⟨a,ea,pa⟩:=Paired.two hp2 hy
   refine ⟨_,rfl,a,y,rfl,pa.mono g1,fun n inner gap lo hi ez=>?_,fun u H5 g5 o5=>⟨g1.trans g5,?_⟩⟩
   ·have okp:=f3 a (List.mem_of_getElem? ea)
    rw [ez] at okp
    exact Nat.le_trans okp.2.1.hi (by decide)
   ·rw [jaC ea]
    exact (Paired.mapP g2 fun _ _ z=>z.mono g5).snoc (Pie.AtF.older g1 o5)
  ·obtain ⟨g1,g2⟩:=e
   rw [hus,List.take_length] at g2
   have g3:=jah hm (.lst ys)
   have hx3:=g3 _ _ (g1 _ _ hx2)
   refine ⟨_,rfl,x,_,dx,_,rfl,hx3,T.kForm.cl,T.nFormPieces,Nat.lt_of_le_of_lt (jaI _ _ _ (k:=0) (Nat.le_refl _)) (by decide),?_⟩
   have c4:Besides x (L2.upd H3 m (.lst ys)) _:=Besides.refl.upd (.ins D.cForm dx (jaM "pieces" (.ref m) (jaM "plan" (.ref r) [])))
   have c14:Besides x H1 _:=fun b o h n=>c4 b o (g3 _ _ (g1 _ _ (c2 b o h n))) n
   have nmx:m≠x:=fun z=>by rw [z] at hm; rw [g1 _ _ hx2] at hm; cases hm
   refine q _ (fun b o h n=>c14 b o (e1 _ _ h) n) ⟨x,r,ws,m,ys,rfl,⟨dx,_,jac,jce (jcl (show ("plan":Str)≠"pieces" by decide +kernel) jca) (jce jca jep)⟩,c14 _ _ hr1' nrx,nr,Paired.mapP ow fun _ _ z=>z.aside hx1 c14,c4 _ _ jac nmx,old _ (g1.free hm),?_⟩
   exact Paired.mapP g2 fun _ _ z=>((z.mono g3).besides hx3 c4).older' old
end
theorem jfx {sep:Str} {n:Nat}:∀ {ts:List Str},(∀ t∈ts,t.length+sep.length<=n)->(Str.join sep ts).length<=ts.length * n
 | [],_=>Nat.zero_le _
 | [t],h=>by
  have:=h t List.mem_cons_self
  show t.length<=_
  rw [List.length_singleton,Nat.one_mul]
  omega
 | t::u::r,h=>by
  have h1:=h t List.mem_cons_self
  have h2:=jfx (ts:=u::r) fun x hx=>h x (List.mem_cons_of_mem _ hx)
  show ((t++sep)++Str.join sep (u::r)).length<=_
  rw [strLen_append,strLen_append,List.length_cons,Nat.succ_mul]
  omega
theorem jfy {n:Nat} {ts:List Str} (h:∀ t∈ts,t.length<=n):(cat ts).length<=ts.length * n:=jfx fun t ht=>by show t.length+0<=n; exact h t ht
theorem jfz {f:Row}:∀ {p:Pc},p.ok->jgW f p->(wPc f p).length<=12
 | .say t,h,_=>h.hi
 | .ask n sg lo hi,⟨_,_,_,_,_,h4⟩,⟨t,e,ft⟩=>by
  have:=ft.hi
  show ((f n).getD Str.empty).length<=12
  rw [e]
  show t.length<=12
  omega
theorem jfA {ps:List Pc} {f:Row} (h:PartsOk ps) (hf:jgm ps f):(jgI ps f).length<=36:=by
 have:=jfy (n:=12) (ts:=ps.map (wPc f)) fun t ht=>by
  obtain ⟨p,hp,rfl⟩:=List.mem_map.mp ht
  exact jfz (h.all p hp) (hf p hp)
 have h3:=h.hi
 rw [List.length_map] at this
 unfold jgI
 omega
theorem jfB {F:Vs} {n sg t:Str} {lo hi:Int} (e:F n=some (.text t)):jgn F (.one (.ask n sg lo hi))=t:=by
 show (match F n with | some (.text t)=>t | _=>Str.empty)=t
 rw [e]
theorem jcP {F:Vs} {n gap:Str} {inner:List Pc} {rs:List Row} {lo hi:Int} (e:F n=some (.rows rs)):jgn F (.rows n inner gap lo hi)=Str.join gap (rs.map (jgI inner)):=by
 show (match F n with | some (.rows rs)=>Str.join gap (rs.map (jgI inner)) | _=>Str.empty)=_
 rw [e]
theorem jhi {f:Row} {n sg t:Str} {lo hi:Int} (e:f n=some t):wPc f (.ask n sg lo hi)=t:=by
 show (f n).getD Str.empty=t
 rw [e]; rfl
theorem jdF {F:Vs}:∀ {p:Pie},p.ok->jdY F p->(jgn F p).length<=150
 | .one (.say t),h,_=>Nat.le_trans h.hi (by decide)
 | .one (.ask n sg lo hi),⟨_,_,_,_,_,h4⟩,⟨t,e,ft⟩=>by
  have:=ft.hi
  rw [jfB e]
  omega
 | .rows n inner gap lo hi,⟨_,hp,hg,_,_,h3⟩,⟨rs,e,_,h2,hf⟩=>by
  rw [jcP e]
  have:=jfx (sep:=gap) (n:=41) (ts:=rs.map (jgI inner)) fun t ht=>by
   obtain ⟨f,hf',rfl⟩:=List.mem_map.mp ht
   have h1:=jfA hp (hf f hf')
   have h2:=hg.hi
   omega
  rw [List.length_map] at this
  omega
section
variable {P:Program} {w:World} {K:PySem.W.Frag} {mg:Str->Option Value} {base:Heap} {D:Adr}
theorem scVO:FnScope ["part","values","value"] ["part","values"] (jag jfq):=⟨rfl,rfl,rfl,by decide +kernel,rfl,by decide +kernel,by decide +kernel⟩
structure HasV (K:PySem.W.Frag) (C:Addr):Prop where
 cl:Cls K C
 n:NoAttr K C "name"
 l:NoAttr K C "least"
 m:NoAttr K C "most"
def spVO (K:PySem.W.Frag):Sp:=fun vs H Q _=>∃ (a C d:Addr) (kvs:List (Key×V)) (n:Str) (lo hi:Int) (u:V) (k:Nat),vs=[.ref a,.ref d]/\HasV K C/\Fld H a C [("name",.str n),("least",.int lo),("most",.int hi)]/\Rd H d (.dK kvs)/\jbt kvs (Sum.inr n)=some u/\LenV K u H k/\lo<=(k:Int)/\(k:Int)<=hi/\Q u H
theorem jpl (T:Txt w K mg D):FnOk P w K mg base CX0 1 D.aValueOf D.dValueOf ["part","values"] (spVO K):=by
 refine T.fValueOf.ok scVO (fun vs H Q E h=>?_) (fun cdv A outer s H vs Q E hr h=>?_)
 ·obtain ⟨a,C,d,kvs,n,lo,hi,u,k,rfl,_⟩:=h; rfl
 ·obtain ⟨a,C,d,kvs,n,lo,hi,u,k,rfl,B,⟨dx,fs,ha,hf⟩,hd,hv,hlen,h1,h2,q⟩:=h
  have hu:=jdS hr
  have en:=hf ("name",.str n) List.mem_cons_self
  have el:=hf ("least",.int lo) (List.mem_cons_of_mem _ List.mem_cons_self)
  have em:=hf ("most",.int hi) (List.mem_cons_of_mem _ (List.mem_cons_of_mem _ List.mem_cons_self))
  refine ⟨_,jab (jay (jdK (jgb hu (jaw (pv 0) rfl) (pv 1))) jcf jaq)
   (jab (jan (i:=2) scVO.nd rfl (Or.inl rfl) (jdc hu (pv 1) (jaw (pv 0) rfl) (fun _ _=>rfl)))
   (jab (jay (jat jiu (jaj jhB rfl T.zLen PySem.boot_len (jaa (pv 2) jad)) (jaw (pv 0) rfl) (jax _)) jcf jaq)
   (jab (jay (jat jjl (jaj jhB rfl T.zLen PySem.boot_len (jaa (pv 2) jad)) (jaw (pv 0) rfl) (jax _)) jcf jaq)
   (jae (jak (pv 2)))))),?_⟩
  have dg:DGet H d (.str n) (some u):=.inl ⟨kvs,Sum.inr n,hd,rfl,hv.symm⟩
  refine ⟨_,rfl,a,C,dx,_,_,rfl,ha,B.cl,B.n,en,_,rfl,d,some u,rfl,dg,_,rfl,jbn ?_⟩
  refine ⟨_,rfl,_,rfl,a,C,dx,_,_,rfl,ha,B.cl,B.n,en,d,u,rfl,dg,?_⟩
  refine ⟨_,rfl,u,k,rfl,hlen,_,rfl,a,C,dx,_,_,rfl,ha,B.cl,B.l,el,_,_,rfl,rfl,_,rfl,jbe (by omega) ?_⟩
  refine ⟨_,rfl,u,k,rfl,hlen,_,rfl,a,C,dx,_,_,rfl,ha,B.cl,B.m,em,_,_,rfl,rfl,_,rfl,jbe (by omega) ?_⟩
  exact ⟨_,rfl,q⟩
theorem scFA:FnScope ["ask","values","text","sign"] ["ask","values"] (jag jdk):=⟨rfl,rfl,rfl,by decide +kernel,rfl,by decide +kernel,by decide +kernel⟩
def spFA (D:Adr):Sp:=fun vs H Q _=>∃ (d:Addr) (kvs:List (Key×V)) (n sg:Str) (lo hi:Int) (v:V) (t:Str),vs=[v,.ref d]/\(Pc.ask n sg lo hi).Obj D.cl H v/\Rd H d (.dK kvs)/\jbt kvs (Sum.inr n)=some (.str t)/\Fits sg lo hi t/\t.length<=1000/\Q (.str t) H
theorem jpm (T:Txt w K mg D):FnOk P w K mg base CX0 2 D.aFilledAsk D.dFilledAsk ["ask","values"] (spFA D):=by
 have G:FnOk P w K mg base CX0 1 D.aValueOf D.dValueOf ["part","values"] (spVO K):=jpl T
 refine T.fFilledAsk.ok scFA (fun vs H Q E h=>?_) (fun cdv A outer s H vs Q E hr h=>?_)
 ·obtain ⟨d,kvs,n,sg,lo,hi,v,t,rfl,_⟩:=h; rfl
 ·obtain ⟨d,kvs,n,sg,lo,hi,v,t,rfl,⟨a,rfl,hfl⟩,hd,hv,ft,hz,q⟩:=h
  refine ⟨_,jab (jan (i:=2) scFA.nd rfl (Or.inl rfl) (jai G hr rfl T.mValueOf T.fValueOf.kp T.bValueOf .nil jam (jaa (pv 0) (jaa (pv 1) jad))))
   (jab (jbb PassesOwn.never rfl (jgc (pv 2)) (jaE (i:=3) scFA.nd rfl (Or.inl rfl)) (jae (jay (jat jgd (pv 3) (jaw (pv 0) rfl) rfl) jcf jaq)))
   (jae (jak (pv 2)))),?_⟩
  have hflv:Fld H a D.cAsk [("name",.str n),("least",.int lo),("most",.int hi)]:=hfl.sub (jce List.mem_cons_self (jce (List.mem_cons_of_mem _ (List.mem_cons_of_mem _ List.mem_cons_self)) (jce (List.mem_cons_of_mem _ (List.mem_cons_of_mem _ (List.mem_cons_of_mem _ List.mem_cons_self))) jep)))
  refine ⟨_,rfl,_,rfl,a,D.cAsk,d,kvs,n,lo,hi,.str t,t.length,rfl,⟨T.kAsk.cl,T.nAskName,T.nAskLeast,T.nAskMost⟩,hflv,hd,hv,⟨jbp hz,rfl⟩,ft.lo,ft.hi,?_⟩
  obtain ⟨dx,fs,ha,hf⟩:=hfl
  have es:=hf ("signs",.str sg) (List.mem_cons_of_mem _ List.mem_cons_self)
  refine ⟨_,rfl,t,rfl,jgR (fun i σ H'=>H'=H/\∃ o,σ=[some (.ref a),some (.ref d),some (.str t),o]) ⟨rfl,none,rfl⟩ (fun i c σ H' hc e=>?_) (fun σ H' e=>?_)⟩
  ·obtain ⟨rfl,o,rfl⟩:=e
   refine ⟨_,rfl,_,rfl,a,_,dx,_,_,rfl,ha,T.kAsk.cl,T.nAskSigns,es,c,sg,rfl,rfl,_,rfl,?_⟩
   refine jdT (ft.all c (jgV hc)) ?_
   exact ⟨rfl,_,rfl⟩
  ·obtain ⟨rfl,o,rfl⟩:=e
   exact ⟨_,rfl,q⟩
theorem scFP:FnScope ["part","values"] ["part","values"] (jag jcE):=⟨rfl,rfl,rfl,by decide +kernel,rfl,by decide +kernel,by decide +kernel⟩
def jfC {α β:Type} (Ob:Hp->α->V->Prop) (VA:Hp->β->V->Prop) (fit:β->α->Prop) (wr:β->α->Str):Sp:=fun vs H Q _=>∃ (a:α) (b:β) (v d:V),vs=[v,d]/\Ob H a v/\VA H b d/\fit b a/\∀ H',Same H H'->Q (.str (wr b a)) H'
def FitR (f:Row) (p:Pc):Prop:=p.ok/\jgW f p
theorem jpn (T:Txt w K mg D):FnOk P w K mg base CX0 3 D.aFilledPart D.dFilledPart ["part","values"] (jfC (fun H p v=>Pc.Obj D.cl H p v) RowAt FitR wPc):=by
 have G:FnOk P w K mg base CX0 2 D.aFilledAsk D.dFilledAsk ["ask","values"] (spFA D):=jpm T
 refine T.fFilledPart.ok scFP (fun vs H Q E h=>?_) (fun cdv A outer s H vs Q E hr h=>?_)
 ·obtain ⟨a,b,v,d,rfl,_⟩:=h; rfl
 ·obtain ⟨p,f,v,d,rfl,hp,⟨da,kvs,rfl,hd,hv⟩,⟨ok,ft⟩,q⟩:=h
  refine ⟨_,jab (jay (jaJ (jaj jau rfl T.zIsinstance PyProof.Rows.boot_isinstance (jaa (pv 0) (jaa (jaS (v:=.ref D.cSay) rfl T.mgSay rfl) jad)))) (jae (jak (jaw (pv 0) rfl))) jaq)
   (jab (jay (jaJ (jaj jau rfl T.zIsinstance PyProof.Rows.boot_isinstance (jaa (pv 0) (jaa (jaS (v:=.ref D.cAsk) rfl T.mgAsk rfl) jad)))) (jae (jak (jai G hr rfl T.mFilledAsk T.fFilledAsk.kp T.bFilledAsk .nil jam (jaa (pv 0) (jaa (pv 1) jad))))) jaq)
   (jae jhw)),?_⟩
  cases p with
  | say t =>
   obtain ⟨a,rfl,dx,fs,ha,hf⟩:=hp
   refine ⟨_,rfl,_,_,true,.inl ⟨_,rfl,T.isSaySay⟩,jbc T.kSay ha,_,rfl,jcc ?_⟩
   exact ⟨_,rfl,a,_,dx,_,_,rfl,ha,T.kSay.cl,T.nSayText,hf _ List.mem_cons_self,q H (Same.refl H)⟩
  | ask n sg lo hi =>
   obtain ⟨t,et,fits⟩:=ft
   obtain ⟨a,rfl,dx,fs,ha,hf⟩:=id hp
   refine ⟨_,rfl,_,_,false,.inl ⟨_,rfl,T.isAskSay⟩,jbc T.kAsk ha,_,rfl,jbn ?_⟩
   refine ⟨_,rfl,_,_,true,.inl ⟨_,rfl,T.isAskAsk⟩,jbc T.kAsk ha,_,rfl,jcc ?_⟩
   have hz:t.length<=1000:=by have:=fits.hi; have:=ok.2.2.2.2.2; omega
   refine ⟨_,rfl,_,rfl,da,kvs,n,sg,lo,hi,_,t,rfl,hp,hd,hv n t et,fits,hz,?_⟩
   have:=q H (Same.refl H)
   rw [jhi et] at this
   exact this
theorem scFPs:FnScope ["parts","values"] ["parts","values"] (jag jbJ):=⟨rfl,rfl,rfl,by decide +kernel,rfl,by decide +kernel,by decide +kernel⟩
def jcv {α β:Type} (Ob:Hp->α->V->Prop) (VA:Hp->β->V->Prop) (fit:β->α->Prop) (wr:β->α->Str):Sp:=fun vs H Q _=>∃ (l:Addr) (us:List V) (as:List α) (b:β) (d:V),vs=[.ref l,d]/\H l=some (.lst us)/\Paired (Ob H) as us/\VA H b d/\as.length<=100/\(∀ a∈as,fit b a/\(wr b a).length<=500) /\
 ∀ H',Same H H'->Q (.str (cat (as.map (wr b)))) H'
theorem jgA (T:Txt w K mg D) {α β:Type} {Ob:Hp->α->V->Prop} {VA:Hp->β->V->Prop} {fit:β->α->Prop} {wr:β->α->Str} {k:Nat} (G:FnOk P w K mg base CX0 k D.aFilledPart D.dFilledPart ["part","values"] (jfC Ob VA fit wr))
  (obM:∀ {H H':Hp},Same H H'->∀ {a:α} {v:V},Ob H a v->Ob H' a v) (vaM:∀ {H H':Hp},Same H H'->∀ {b:β} {v:V},VA H b v->VA H' b v) :
  FnOk P w K mg base CX0 (k+1) D.aFilledParts D.dFilledParts ["parts","values"] (jcv Ob VA fit wr):=by
 refine T.fFilledParts.ok scFPs (fun vs H Q E h=>?_) (fun cdv A outer s H vs Q E hr h=>?_)
 ·obtain ⟨l,us,as,b,d,rfl,_⟩:=h; rfl
 ·obtain ⟨l,us,as,b,d,rfl,hl,hp,hd,h100,hw,q⟩:=h
  have hus:us.length=as.length:=hp.length.symm
  refine ⟨_,jae (jak (jbS PySem.F.plainAttrs_str PySem.F.slot_str_join PySem.F.type_str_join jgU jaz (jaa (jbD (cp:=[(1,"values")]) (te:=jeE (jfC Ob VA fit wr) [] E0 (jaZ (jbA 0) (jaZ (jbA 1) jeM)))
   (CompScope.of (jag jbJ) ["parts","values"] rfl rfl (by decide +kernel)) rfl (jaT (pv 0)) (fun _ _ _ _ _=>jbz) (fun _ _ _ _ _=>jai G hr rfl T.mFilledPart T.fFilledPart.kp T.bFilledPart .nil jam (jaa (pv 0) (jaa (pv 1) jad)))) jad))),?_⟩
  refine ⟨rfl,_,rfl,l,rfl,⟨_,SqL.of hl⟩,jbg (xs:=us) (fun i ys H'=>Same H H'/\ys=(as.take i).map fun a=>V.str (wr b a)) ⟨Same.refl H,rfl⟩ (fun i ys H' hi e=>⟨SqL.of (e.1 _ _ hl),?_⟩) (jbp (by omega)) (fun i x ys H' hx e=>?_) (fun ys H' e r hr'=>?_)⟩
  ·rw [e.2,List.length_map,List.length_take]; omega
  ·obtain ⟨e1,rfl⟩:=e
   obtain ⟨a,ea,pa⟩:=Paired.two hp hx
   refine ⟨_,rfl,_,rfl,a,b,x,d,rfl,obM e1 pa,vaM e1 hd,(hw a (List.mem_of_getElem? ea)).1,fun H5 e5=>⟨e1.trans e5,?_⟩⟩
   rw [jaC ea,List.map_append]
   rfl
  ·obtain ⟨e1,rfl⟩:=e
   rw [hus,List.take_length]
   refine ⟨_,r,as.map (wr b),rfl,rfl,SqL.of (by rw [jac,List.map_map]; rfl),?_,q _ (e1.trans (jah hr' _))⟩
   refine jdW (n:=500) (fun t ht=>?_) (by rw [List.length_map]; exact Nat.le_trans (Nat.mul_le_mul_right 500 h100) (by decide))
   obtain ⟨a,ha,rfl⟩:=List.mem_map.mp ht
   exact (hw a ha).2
theorem jnR (T:Txt w K mg D):FnOk P w K mg base CX0 4 D.aFilledParts D.dFilledParts ["parts","values"] (jcv (fun H p v=>Pc.Obj D.cl H p v) RowAt FitR wPc) :=
 jgA T (jpn T) (fun e _ _ h=>Pc.Obj.mono e h) (fun e _ _ h=>RowAt.mono e h)
theorem scFR:FnScope ["rows","values","texts"] ["rows","values"] (jag jbW):=⟨rfl,rfl,rfl,by decide +kernel,rfl,by decide +kernel,by decide +kernel⟩
def spFR (D:Adr):Sp:=fun vs H Q _=>∃ (H0:Hp) (d:Addr) (kvs:List (Key×V)) (n:Str) (inner:List Pc) (gap:Str) (lo hi:Int) (v u:V) (rs:List Row),vs=[v,.ref d]/\(Pie.rows n inner gap lo hi).Obj D.cl H0 H v/\(Pie.rows n inner gap lo hi).ok/\Rd H d (.dK kvs)/\jbt kvs (Sum.inr n)=some u/\ValAt H (.rows rs) u /\
 lo<=(rs.length:Int)/\(rs.length:Int)<=hi/\(∀ f∈rs,jgm inner f)/\∀ H',Same H H'->Q (.str (Str.join gap (rs.map (jgI inner)))) H'
theorem ok_FR (T:Txt w K mg D):FnOk P w K mg base CX0 5 D.aFilledRows D.dFilledRows ["rows","values"] (spFR D):=by
 have GV:FnOk P w K mg base CX0 1 D.aValueOf D.dValueOf ["part","values"] (spVO K):=jpl T
 have G:FnOk P w K mg base CX0 4 D.aFilledParts D.dFilledParts ["parts","values"] (jcv (fun H p v=>Pc.Obj D.cl H p v) RowAt FitR wPc):=jnR T
 refine T.fFilledRows.ok scFR (fun vs H Q E h=>?_) (fun cdv A outer s H vs Q E hr h=>?_)
 ·obtain ⟨H0,d,kvs,n,inner,gap,lo,hi,v,u,rs,rfl,_⟩:=h; rfl
 ·obtain ⟨H0,d,kvs,n,inner,gap,lo,hi,v,u,rs,rfl,⟨a,l,ws,rfl,hfl,hl,_,hin⟩,⟨_,hpo,hg,_,_,h3⟩,hd,hv,⟨m,us,rfl,hm,hrs⟩,h1,h2,hfit,q⟩:=h
  have hr1:Room 1 _:=hr.mono (by decide)
  refine ⟨_,jab (jcq (i:=2) (cp:=[(0,"rows")]) (te:=jeE (jcv (fun H p v=>Pc.Obj D.cl H p v) RowAt FitR wPc) [] E0 (jaZ (jnl K (jbA 1) "parts") (jaZ (jbA 0) jeM))) scFR.nd rfl rfl (CompScope.of (jag jbW) ["rows","values","texts"] rfl rfl (by decide +kernel)) rfl
    (jaT (jai GV hr1 rfl T.mValueOf T.fValueOf.kp T.bValueOf .nil jam (jaa (pv 0) (jaa (pv 1) jad)))) (fun _ _ _ _ _=>jbz)
    (fun _ _ _ _ _=>jai G hr rfl T.mFilledParts T.fFilledParts.kp T.bFilledParts .nil jam (jaa (jaw (pv 1) rfl) (jaa (pv 0) jad))))
   (jae (jak (jbS PySem.F.plainAttrs_str PySem.F.slot_str_join PySem.F.type_str_join jgU (jaw (pv 0) rfl) (jaa (pv 2) jad)))),?_⟩
  have hus:us.length=rs.length:=hrs.length.symm
  have hflv:Fld H a D.cRows [("name",.str n),("least",.int lo),("most",.int hi)]:=hfl.sub (jce List.mem_cons_self (jce (List.mem_cons_of_mem _ (List.mem_cons_of_mem _ (List.mem_cons_of_mem _ List.mem_cons_self))) (jce (List.mem_cons_of_mem _ (List.mem_cons_of_mem _ (List.mem_cons_of_mem _ (List.mem_cons_of_mem _ List.mem_cons_self)))) jep)))
  obtain ⟨dx,fs,ha,hf⟩:=hfl
  have ep:=hf ("parts",.ref l) (List.mem_cons_of_mem _ List.mem_cons_self)
  have eg:=hf ("gap",.str gap) (List.mem_cons_of_mem _ (List.mem_cons_of_mem _ List.mem_cons_self))
  refine ⟨_,rfl,_,rfl,a,D.cRows,d,kvs,n,lo,hi,.ref m,us.length,rfl,⟨T.kRows.cl,T.nRowsName,T.nRowsLeast,T.nRowsMost⟩,hflv,hd,hv,.inl ⟨us,SqL.of hm,rfl⟩,by omega,by omega,?_⟩
  refine ⟨m,rfl,⟨_,SqL.of hm⟩,jbg (xs:=us) (fun i ys H'=>Same H H'/\ys=(rs.take i).map fun f=>V.str (jgI inner f)) ⟨Same.refl H,rfl⟩ (fun i ys H' hi e=>⟨SqL.of (e.1 _ _ hm),?_⟩) (jbp (by omega)) (fun i x ys H' hx e=>?_) (fun ys H' e r hr'=>?_)⟩
  ·rw [e.2,List.length_map,List.length_take]; omega
  ·obtain ⟨e1,rfl⟩:=e
   obtain ⟨f,ef,pf⟩:=Paired.two hrs hx
   have mf:=List.mem_of_getElem? ef
   refine ⟨_,rfl,a,_,dx,_,_,rfl,e1 _ _ ha,T.kRows.cl,T.nRowsParts,ep,_,rfl,l,ws,inner,f,x,rfl,e1 _ _ hl,Paired.mapP hin fun _ _ z=>z.mono e1,pf.mono e1,Nat.le_trans hpo.hi (by decide),fun p hp=>⟨⟨hpo.all p hp,hfit f mf p hp⟩,Nat.le_trans (jfz (hpo.all p hp) (hfit f mf p hp)) (by decide)⟩,fun H5 e5=>⟨e1.trans e5,?_⟩⟩
   rw [jaC ef,List.map_append]
   rfl
  ·obtain ⟨e1,rfl⟩:=e
   rw [hus,List.take_length]
   have e2:=jah hr' (.lst (rs.map fun f=>V.str (jgI inner f)))
   refine ⟨_,rfl,a,_,dx,_,_,rfl,e2 _ _ (e1 _ _ ha),T.kRows.cl,T.nRowsGap,eg,rfl,_,rfl,gap,r,rs.map (jgI inner),rfl,rfl,SqL.of (by rw [jac,List.map_map]; rfl),?_,q _ (e1.trans e2)⟩
   refine jdW (n:=500) (fun t ht=>?_) (by rw [List.length_map]; exact Nat.le_trans (Nat.mul_le_mul_right 500 (show rs.length<=100 by omega)) (by decide))
   obtain ⟨f,hf',rfl⟩:=List.mem_map.mp ht
   have z1:=jfA hpo (hfit f hf')
   have z2:=hg.hi
   omega
def FitF (F:Vs) (p:Pie):Prop:=p.ok/\jdY F p
def ObE (c:Cl) (H:Hp) (p:Pie) (v:V):Prop:=∃ H0,p.Obj c H0 H v
theorem jpo (T:Txt w K mg D):FnOk P w K mg base CX0 6 D.aFilledPart D.dFilledPart ["part","values"] (jfC (ObE D.cl) VsAt FitF jgn):=by
 have G:FnOk P w K mg base CX0 2 D.aFilledAsk D.dFilledAsk ["ask","values"] (spFA D):=jpm T
 have GR:FnOk P w K mg base CX0 5 D.aFilledRows D.dFilledRows ["rows","values"] (spFR D):=ok_FR T
 refine T.fFilledPart.ok scFP (fun vs H Q E h=>?_) (fun cdv A outer s H vs Q E hr h=>?_)
 ·obtain ⟨a,b,v,d,rfl,_⟩:=h; rfl
 ·obtain ⟨p,F,v,d,rfl,⟨H0,hp⟩,⟨da,kvs,rfl,hd,hv⟩,⟨ok,ft⟩,q⟩:=h
  have hr2:Room 2 _:=hr.mono (by decide)
  refine ⟨_,jab (jay (jaJ (jaj jau rfl T.zIsinstance PyProof.Rows.boot_isinstance (jaa (pv 0) (jaa (jaS (v:=.ref D.cSay) rfl T.mgSay rfl) jad)))) (jae (jak (jaw (pv 0) rfl))) jaq)
   (jab (jay (jaJ (jaj jau rfl T.zIsinstance PyProof.Rows.boot_isinstance (jaa (pv 0) (jaa (jaS (v:=.ref D.cAsk) rfl T.mgAsk rfl) jad)))) (jae (jak (jai G hr2 rfl T.mFilledAsk T.fFilledAsk.kp T.bFilledAsk .nil jam (jaa (pv 0) (jaa (pv 1) jad))))) jaq)
   (jae (jak (jai GR hr rfl T.mFilledRows T.fFilledRows.kp T.bFilledRows .nil jam (jaa (pv 0) (jaa (pv 1) jad)))))),?_⟩
  cases p with
  | one p =>
   cases p with
   | say t =>
    obtain ⟨a,rfl,dx,fs,ha,hf⟩:=hp
    refine ⟨_,rfl,_,_,true,.inl ⟨_,rfl,T.isSaySay⟩,jbc T.kSay ha,_,rfl,jcc ?_⟩
    exact ⟨_,rfl,a,_,dx,_,_,rfl,ha,T.kSay.cl,T.nSayText,hf _ List.mem_cons_self,q H (Same.refl H)⟩
   | ask n sg lo hi =>
    obtain ⟨t,et,fits⟩:=ft
    obtain ⟨u,eu,hu⟩:=hv n _ et
    cases (show u=.str t from hu)
    obtain ⟨a,rfl,dx,fs,ha,hf⟩:=id hp
    refine ⟨_,rfl,_,_,false,.inl ⟨_,rfl,T.isAskSay⟩,jbc T.kAsk ha,_,rfl,jbn ?_⟩
    refine ⟨_,rfl,_,_,true,.inl ⟨_,rfl,T.isAskAsk⟩,jbc T.kAsk ha,_,rfl,jcc ?_⟩
    have hz:t.length<=1000:=by have:=fits.hi; have:=ok.2.2.2.2.2; omega
    refine ⟨_,rfl,_,rfl,da,kvs,n,sg,lo,hi,_,t,rfl,hp,hd,eu,fits,hz,?_⟩
    have:=q H (Same.refl H)
    rw [jfB et] at this
    exact this
  | rows n inner gap lo hi =>
   obtain ⟨rs,er,f1,f2,f3⟩:=ft
   obtain ⟨u,eu,hu⟩:=hv n _ er
   obtain ⟨a,l,ws,rfl,hfl,_⟩:=id hp
   obtain ⟨dx,fs,ha,hf⟩:=hfl
   refine ⟨_,rfl,_,_,false,.inl ⟨_,rfl,T.isRowsSay⟩,jbc T.kRows ha,_,rfl,jbn ?_⟩
   refine ⟨_,rfl,_,_,false,.inl ⟨_,rfl,T.isRowsAsk⟩,jbc T.kRows ha,_,rfl,jbn ?_⟩
   refine ⟨_,rfl,_,rfl,H0,da,kvs,n,inner,gap,lo,hi,_,u,rs,rfl,hp,ok,hd,eu,hu,f1,f2,f3,fun H' e=>?_⟩
   have:=q H' e
   rw [jcP er] at this
   exact this
theorem jnS (T:Txt w K mg D):FnOk P w K mg base CX0 7 D.aFilledParts D.dFilledParts ["parts","values"] (jcv (ObE D.cl) VsAt FitF jgn) :=
 jgA T (jpo T) (fun e _ _ ⟨H0,h⟩=>⟨H0,h.mono e⟩) (fun e _ _ h=>VsAt.mono e h)
theorem jpp:FnScope ["form","values"] ["form","values"] (jag jnJ):=⟨rfl,rfl,rfl,by decide +kernel,rfl,by decide +kernel,by decide +kernel⟩
def jkt (D:Adr):Sp:=fun vs H Q _=>∃ (H0:Hp) (ps:List Pie) (F:Vs) (v d:V),vs=[v,d]/\FormAt D.cl H0 H ps v/\FormOk ps/\VsAt H F d/\(∀ p∈ps,jdY F p)/\∀ H',Same H H'->Q (.str (jiL ps F)) H'
theorem jku (T:Txt w K mg D):FnOk P w K mg base CX0 8 D.aFill D.dFill ["form","values"] (jkt D):=by
 have G:FnOk P w K mg base CX0 7 D.aFilledParts D.dFilledParts ["parts","values"] (jcv (ObE D.cl) VsAt FitF jgn):=jnS T
 refine T.fFill.ok jpp (fun vs H Q E h=>?_) (fun cdv A outer s H vs Q E hr h=>?_)
 ·obtain ⟨H0,ps,F,v,d,rfl,_⟩:=h; rfl
 ·obtain ⟨H0,ps,F,v,d,rfl,⟨a,l,ws,m,us,rfl,hfl,hl,_,hpl,_⟩,ok,hd,hfit,q⟩:=h
  obtain ⟨dx,fs,ha,hf⟩:=hfl
  refine ⟨_,jae (jak (jai G hr rfl T.mFilledParts T.fFilledParts.kp T.bFilledParts .nil jam (jaa (jaw (pv 0) rfl) (jaa (pv 1) jad)))),?_⟩
  refine ⟨_,rfl,a,_,dx,_,_,rfl,ha,T.kForm.cl,T.nFormPlan,hf _ List.mem_cons_self,_,rfl,l,ws,ps,F,d,rfl,hl,Paired.mapP hpl fun _ _ z=>⟨H0,z⟩,hd,Nat.le_trans ok.hi (by decide),fun p hp=>⟨⟨ok.all p hp,hfit p hp⟩,Nat.le_trans (jdF (ok.all p hp) (hfit p hp)) (by decide)⟩,q⟩
end
open Mth (Stp xText xAsk xL x1 xRows xQ xF MP MQ)
abbrev tl (z:Str):List Nat:=z.cps.toList
def mPc:Pc->MP
 | .say t=>.say (tl t)
 | .ask _ sg lo hi=>.ask (tl sg) lo.toNat hi.toNat
def mPie:Pie->MQ
 | .one p=>.one (mPc p)
 | .rows _ inner gap lo hi=>.rows (inner.map mPc) (tl gap) lo.toNat hi.toNat
def StpAt (D:Adr) (H:Hp):Stp->V->Prop
 | .sign s,v=>∃ a z,v=.ref a/\tl z=s/\Fld H a D.cSign [("signs",.str z)]
 | .choice b,v=>∃ a,v=.ref a/\Fld H a D.cChoice [("behind",.int (b:Nat))]
def StA (D:Adr) (H:Hp) (l:Addr) (S:List Stp):Prop:=∃ us,H l=some (.lst us)/\Paired (StpAt D H) S us
theorem Fld.besL {H H':Hp} {l a C:Addr} {us:List V} {fs:List (Str×V)} (hl:H l=some (.lst us)) (e:Besides l H H') (h:Fld H a C fs):Fld H' a C fs:=by
 obtain ⟨dx,g,h1,h2⟩:=h
 exact ⟨dx,g,e _ _ h1 (jbw h1 hl (by intro z; cases z)),h2⟩
theorem StpAt.besL {D:Adr} {H H':Hp} {l:Addr} {us:List V} (hl:H l=some (.lst us)) (e:Besides l H H'):∀ {s:Stp} {v:V},StpAt D H s v->StpAt D H' s v
 | .sign _,_,⟨a,z,h1,h2,h3⟩=>⟨a,z,h1,h2,h3.besL hl e⟩
 | .choice _,_,⟨a,h1,h3⟩=>⟨a,h1,h3.besL hl e⟩
theorem StpAt.mono {D:Adr} {H H':Hp} (e:Same H H'):∀ {s:Stp} {v:V},StpAt D H s v->StpAt D H' s v
 | .sign _,_,⟨a,z,h1,h2,h3⟩=>⟨a,z,h1,h2,h3.mono e⟩
 | .choice _,_,⟨a,h1,h3⟩=>⟨a,h1,h3.mono e⟩
theorem StA.mono {D:Adr} {H H':Hp} (e:Same H H') {l:Addr} {S:List Stp} (h:StA D H l S):StA D H' l S:=by
 obtain ⟨us,h1,h2⟩:=h
 exact ⟨us,e _ _ h1,Paired.mapP h2 fun _ _ z=>z.mono e⟩
theorem Besides.trans {x:Addr} {H H' H2:Hp} (e:Besides x H H') (g:Besides x H' H2):Besides x H H2:=fun b o h n=>g b o (e b o h n) n
theorem Besides.of {x:Addr} {H H':Hp} (g:Same H H'):Besides x H H':=fun b o h _=>g b o h
theorem jaK {Hb H H':Hp} {l:Addr} (h:Same Hb H) (hl:Hb l=none) (e:Besides l H H'):Same Hb H':=fun b o q=>e b o (h b o q) (ne_of_none q hl)
theorem jaB {n:Nat} (h:n<=100000):n < sizeLine:=Nat.lt_of_le_of_lt h (by unfold sizeLine; decide)
theorem Paired.snoc {α β:Type} {F:α->β->Prop} {as:List α} {bs:List β} {a:α} {b:β} (h:Paired F as bs) (e:F a b):Paired F (as++[a]) (bs++[b]):=by
 induction h with
 | nil=>exact .cons e .nil
 | cons r _ ih=>exact .cons r ih
theorem jcQ {D:Adr} {H:Hp} {l x dx C:Addr} {us:List V} {S:List Stp} {st:Stp} {fs:List (Str×V)} (hl:H l=some (.lst us)) (hp:Paired (StpAt D H) S us) (hx:H x=none) (hd:H dx=none)
  (hs:∀ H',Fld H' x C fs->StpAt D H' st (.ref x)) {fs':List (Str×V)} (hf:∀ p∈fs,fs'.lookup p.1=some p.2) :
  let H1:=L2.upd (L2.upd (L2.upd H dx (.own x)) x (.ins C dx [])) x (.ins C dx fs')
  H1 l=some (.lst us)/\Besides l H (L2.upd H1 l (.lst (us++[.ref x])))/\StA D (L2.upd H1 l (.lst (us++[.ref x]))) l (S++[st]):=by
 intro H1
 have s1:Same H H1:=jbP (C:=C) hx hd (Besides.refl.upd _)
 have b1:Besides l H (L2.upd H1 l (.lst (us++[.ref x]))):=(Besides.of s1).upd _
 have nx:x≠l:=fun z=>by rw [z] at hx; rw [hl] at hx; cases hx
 refine ⟨s1 _ _ hl,b1,us++[.ref x],jac,Paired.snoc (Paired.mapP hp fun _ _ z=>z.besL hl b1) (hs _ ⟨dx,fs',?_,hf⟩)⟩
 rw [jao nx]; exact jac
section
variable {P:Program} {w:World} {K:PySem.W.Frag} {mg:Str->Option Value} {base:Heap} {D:Adr}
theorem jpq:FnScope ["self","signs"] ["self","signs"] (jag jkc):=⟨rfl,rfl,rfl,by decide +kernel,rfl,by decide +kernel,by decide +kernel⟩
def jfD (D:Adr):Sp:=fun vs H Q _=>∃ (x dx:Addr) (z:Str),vs=[.ref x,.str z]/\H x=some (.ins D.cSign dx [])/\Q .non (L2.upd H x (.ins D.cSign dx (jaM "signs" (.str z) [])))
theorem jfE (T:Txt w K mg D):FnOk P w K mg base CX0 1 D.aSignI D.dSignI ["self","signs"] (jfD D):=by
 refine T.fSignI.ok jpq (fun vs H Q E h=>?_) (fun cdv A outer s H vs Q E hr h=>?_)
 ·obtain ⟨x,dx,z,rfl,_⟩:=h; rfl
 ·obtain ⟨x,dx,z,rfl,hx,q⟩:=h
  refine ⟨_,jae (jbi (pv 0) (pv 1) rfl),?_⟩
  exact ⟨_,rfl,_,rfl,x,_,dx,_,rfl,hx,T.kSign.cl,T.nSignSigns,(by show 0 < 1000; decide),q⟩
theorem jlR:FnScope ["self","behind"] ["self","behind"] (jag jfu):=⟨rfl,rfl,rfl,by decide +kernel,rfl,by decide +kernel,by decide +kernel⟩
def jer (D:Adr):Sp:=fun vs H Q _=>∃ (x dx:Addr) (z:Int),vs=[.ref x,.int z]/\H x=some (.ins D.cChoice dx [])/\Q .non (L2.upd H x (.ins D.cChoice dx (jaM "behind" (.int z) [])))
theorem jeZ (T:Txt w K mg D):FnOk P w K mg base CX0 1 D.aChoiceI D.dChoiceI ["self","behind"] (jer D):=by
 refine T.fChoiceI.ok jlR (fun vs H Q E h=>?_) (fun cdv A outer s H vs Q E hr h=>?_)
 ·obtain ⟨x,dx,z,rfl,_⟩:=h; rfl
 ·obtain ⟨x,dx,z,rfl,hx,q⟩:=h
  refine ⟨_,jae (jbi (pv 0) (pv 1) rfl),?_⟩
  exact ⟨_,rfl,_,rfl,x,_,dx,_,rfl,hx,T.kChoice.cl,T.nChoiceBehind,(by show 0 < 1000; decide),q⟩
theorem jmP {z:Str} {x:Addr} (H':Hp) (h:Fld H' x D.cSign [("signs",.str z)]):StpAt D H' (.sign (tl z)) (.ref x):=⟨x,z,rfl,rfl,h⟩
theorem jfF {b:Nat} {x:Addr} (H':Hp) (h:Fld H' x D.cChoice [("behind",.int (b:Nat))]):StpAt D H' (.choice b) (.ref x):=⟨x,rfl,h⟩
theorem scAT:FnScope ["steps","text","sign"] ["steps","text"] (jag jfn):=⟨rfl,rfl,rfl,by decide +kernel,rfl,by decide +kernel,by decide +kernel⟩
def spAT (D:Adr):Sp:=fun vs H Q _=>∃ (l:Addr) (z:Str) (S:List Stp),vs=[.ref l,.str z]/\StA D H l S/\S.length+z.length<=100000/\∀ H',Besides l H H'->StA D H' l (S++(xText (tl z)).reverse)->Q .non H'
theorem jcR (z:List Nat):(xText z).length=z.length:=by unfold xText; simp
theorem jnT {z:List Nat} {i c:Nat} (h:z[z.length - 1 - i]?=some c) (hi:i < z.length):z.reverse[i]?=some c:=by rw [List.getElem?_reverse hi]; exact h
theorem jpr (T:Txt w K mg D):FnOk P w K mg base CX0 3 D.aAddText D.dAddText ["steps","text"] (spAT D):=by
 have G:FnOk P w K mg base CX0 1 D.aSignI D.dSignI ["self","signs"] (jfD D):=jfE T
 refine T.fAddText.ok scAT (fun vs H Q E h=>?_) (fun cdv A outer s H vs Q E hr h=>?_)
 ·obtain ⟨l,z,S,rfl,_⟩:=h; rfl
 ·obtain ⟨l,z,S,rfl,hS,hz,q⟩:=h
  refine ⟨_,jae (jbb PassesOwn.never rfl (jjX rfl T.zReversed (jaa (pv 1) jad)) (jaE (i:=2) scAT.nd rfl (Or.inl rfl))
   (jae (jas (jbS PySem.F.plainAttrs_list PySem.F.slot_list_append PySem.F.type_list_append jaH (pv 0) (jaa (jbx T.mkSign G hr rfl T.mgSign T.bSignI .nil jam (jaa (pv 2) jad)) jad))))),?_⟩
  refine ⟨_,rfl,z,rfl,Nat.le_of_lt (jaB (by omega)),jiP (z:=z) (fun i σ H'=>(∃ o,σ=[some (.ref l),some (.str z),o])/\Besides l H H'/\StA D H' l (S++(xText (tl z)).reverse.take i)) ⟨⟨none,rfl⟩,Besides.refl,by rw [List.take_zero,List.append_nil]; exact hS⟩ (fun i c σ H' hi hc e=>?_) (fun σ H' e=>?_)⟩
  ·obtain ⟨⟨o,rfl⟩,e1,us,hl,hp⟩:=e
   have hlen:us.length<=S.length+i:=by rw [<- hp.length,List.length_append,List.length_take]; omega
   have hi':i < z.length:=hi
   refine ⟨_,rfl,.inl ⟨rfl,_,SqL.of hl⟩,_,rfl,fun x dx hx hd ne=>⟨x,dx,_,rfl,jac,⟨rfl,?_⟩⟩⟩
   obtain ⟨k1,k2,k3⟩:=jcQ (D:=D) hl hp hx hd (C:=D.cSign) (st:=.sign (tl ⟨#[c]⟩)) (fun H' h=>jmP H' h) (fs':=jaM "signs" (.str ⟨#[c]⟩) []) (jce jca jep)
   refine ⟨l,_,_,rfl,rfl,k1,jaB (by omega),⟨_,rfl⟩,e1.trans k2,?_⟩
   have ec:(xText (tl z)).reverse[i]?=some (.sign (tl ⟨#[c]⟩)):=by
    have h1:(tl z).reverse[i]?=some c:=jnT (by rw [Array.length_toList,Array.getElem?_toList]; exact hc) (by rw [Array.length_toList]; exact hi)
    unfold xText
    rw [<- List.map_reverse,List.getElem?_map,h1]
    rfl
   rw [jaC ec,<- List.append_assoc]
   exact k3
  ·obtain ⟨⟨o,rfl⟩,e1,e2⟩:=e
   rw [List.take_of_length_le (by rw [List.length_reverse,jcR,Array.length_toList]; exact Nat.le_refl _)] at e2
   exact q _ e1 e2
end
theorem jfG (m:Nat) (sg:List Nat) (lo:Nat):∀ f k,(xAsk m sg lo f k).length<=2 * f
 | 0,_=>Nat.le_refl _
 | f+1,k=>by
  have:=jfG m sg lo f (k+1)
  unfold xAsk
  rw [List.length_append,List.length_cons]
  split <;> simp <;> omega
theorem jkv (m:Nat) (sg:List Nat) (lo f k:Nat):(xAsk m sg lo (f+1) k).reverse=(xAsk m sg lo f (k+1)).reverse++[.sign sg]++(if lo<=k then [.choice m] else []):=by
 rw [xAsk]
 split <;> simp
section
variable {P:Program} {w:World} {K:PySem.W.Frag} {mg:Str->Option Value} {base:Heap} {D:Adr}
theorem scAF:FnScope ["steps","ask","behind","length"] ["steps","ask"] (jag jei):=⟨rfl,rfl,rfl,by decide +kernel,rfl,by decide +kernel,by decide +kernel⟩
def spAF (D:Adr):Sp:=fun vs H Q _=>∃ (l:Addr) (v:V) (Hb:Hp) (n sg:Str) (lo hi:Int) (S:List Stp),vs=[.ref l,v]/\Same Hb H/\Hb l=none/\(Pc.ask n sg lo hi).Obj D.cl Hb v/\(0<=lo/\lo<=hi/\hi<=4)/\StA D H l S/\1<=S.length/\S.length+8<=100000 /\
 ∀ H',Besides l H H'->StA D H' l (S++(x1 (S.length - 1) (mPc (.ask n sg lo hi))).reverse)->Q .non H'
theorem ok_AF (T:Txt w K mg D):FnOk P w K mg base CX0 3 D.aAddField D.dAddField ["steps","ask"] (spAF D):=by
 have G:FnOk P w K mg base CX0 1 D.aSignI D.dSignI ["self","signs"] (jfD D):=jfE T
 have GC:FnOk P w K mg base CX0 1 D.aChoiceI D.dChoiceI ["self","behind"] (jer D):=jeZ T
 refine T.fAddField.ok scAF (fun vs H Q E h=>?_) (fun cdv A outer s H vs Q E hr h=>?_)
 ·obtain ⟨l,v,Hb,n,sg,lo,hi,S,rfl,_⟩:=h; rfl
 ·obtain ⟨l,v,Hb,n,sg,lo,hi,S,rfl,sb,nb,⟨a,rfl,dx,fs,ha,hf⟩,⟨b0,b1,b2⟩,hS,h1,hz,q⟩:=h
  have es:=hf ("signs",.str sg) (List.mem_cons_of_mem _ List.mem_cons_self)
  have el:=hf ("least",.int lo) (List.mem_cons_of_mem _ (List.mem_cons_of_mem _ List.mem_cons_self))
  have em:=hf ("most",.int hi) (List.mem_cons_of_mem _ (List.mem_cons_of_mem _ (List.mem_cons_of_mem _ List.mem_cons_self)))
  have cl:Cls K D.cl.ask:=T.kAsk.cl
  have ns:NoAttr K D.cl.ask "signs":=T.nAskSigns
  have nl:NoAttr K D.cl.ask "least":=T.nAskLeast
  have nm:NoAttr K D.cl.ask "most":=T.nAskMost
  refine ⟨_,jab (jan (i:=2) scAF.nd rfl (Or.inl rfl) (jar jbr (jaj jav rfl T.zLen PySem.boot_len (jaa (pv 0) jad)) jaf))
   (jae (jbb PassesOwn.never rfl (jef rfl T.zRange (jaa (jar jbr (jaw (pv 1) rfl) jaf) (jaa (jfQ jdr jaf) (jaa (jfQ jdr jaf) jad)))) (jaE (i:=3) scAF.nd rfl (Or.inl rfl))
    (jab (jas (jbS PySem.F.plainAttrs_list PySem.F.slot_list_append PySem.F.type_list_append jaH (pv 0) (jaa (jbx T.mkSign G hr rfl T.mgSign T.bSignI .nil jam (jaa (jaw (pv 1) rfl) jad)) jad)))
    (jae (jay (jat joy (pv 3) (jaw (pv 1) rfl) (jax _)) (jae (jas (jbS PySem.F.plainAttrs_list PySem.F.slot_list_append PySem.F.type_list_append jaH (pv 0) (jaa (jbx T.mkChoice GC hr rfl T.mgChoice T.bChoiceI .nil jam (jaa (pv 2) jad)) jad)))) jaq))))),?_⟩
  obtain ⟨us0,hl0,hp0⟩:=id hS
  have ha0:=sb _ _ ha
  have hm:(us0.length:Int) - 1=((S.length - 1:Nat):Int):=by rw [<- hp0.length]; omega
  refine ⟨_,rfl,l,us0,rfl,.inl (SqL.of hl0),_,_,rfl,rfl,?_⟩
  refine ⟨_,rfl,a,_,dx,_,_,rfl,ha0,cl,nm,em,_,_,rfl,rfl,_,rfl,_,rfl,_,_,rfl,⟨by omega,by omega,by omega,by omega⟩,?_⟩
  have hn:(hi - 1 - -1).toNat=hi.toNat:=by congr 1; omega
  refine jdi (fun i σ H'=>(∃ o,σ=[some (.ref l),some (.ref a),some (.int ((us0.length:Int) - 1)),o])/\Besides l H H'/\StA D H' l (S++(xAsk (S.length - 1) (tl sg) lo.toNat i (hi.toNat - i)).reverse)) ⟨⟨none,rfl⟩,Besides.refl,by rw [xAsk,List.reverse_nil,List.append_nil]; exact hS⟩ (fun i σ H' hi' e=>?_) (fun σ H' e=>?_)
  ·obtain ⟨⟨o,rfl⟩,e1,us,hl,hp⟩:=e
   rw [hn] at hi'
   have xl:=jfG (S.length - 1) (tl sg) lo.toNat i (hi.toNat - i)
   have hlen:us.length<=S.length+2 * i:=by rw [<- hp.length,List.length_append,List.length_reverse]; omega
   have hk:hi.toNat - (i+1)+1=hi.toNat - i:=by omega
   have ha1:=jaK sb nb e1 _ _ ha
   refine ⟨_,rfl,.inl ⟨rfl,_,SqL.of hl⟩,_,rfl,a,_,dx,_,_,rfl,ha1,cl,ns,es,fun x dx' hx hd ne=>⟨x,dx',_,rfl,jac,⟨rfl,?_⟩⟩⟩
   obtain ⟨k1,k2,k3⟩:=jcQ (D:=D) hl hp hx hd (C:=D.cSign) (st:=.sign (tl sg)) (fun H' h=>jmP H' h) (fs':=jaM "signs" (.str sg) []) (jce jca jep)
   refine ⟨l,_,_,rfl,rfl,k1,jaB (by omega),?_⟩
   generalize hG:L2.upd (L2.upd (L2.upd (L2.upd H' dx' (.own x)) x (.ins D.cSign dx' [])) x (.ins D.cSign dx' (jaM "signs" (.str sg) []))) l (.lst (us++[.ref x]))=G2 at k2 k3
   have e2:=e1.trans k2
   have ha2:=jaK sb nb e2 _ _ ha
   obtain ⟨us2,hl2,hp2⟩:=id k3
   have hlen2:us2.length<=S.length+2 * i+1:=by rw [<- hp2.length,List.length_append,List.length_append,List.length_reverse,List.length_singleton]; omega
   refine ⟨_,rfl,_,rfl,a,_,dx,_,_,rfl,ha2,cl,nl,el,_,_,rfl,rfl,_,rfl,?_⟩
   by_cases hc:hi - 1 - (i:Int) ≥ lo
   ·refine jcr hc ⟨_,rfl,.inl ⟨rfl,_,SqL.of hl2⟩,_,rfl,fun y dy hy hdy ne'=>⟨y,dy,_,rfl,jac,⟨rfl,?_⟩⟩⟩
    obtain ⟨j1,j2,j3⟩:=jcQ (D:=D) hl2 hp2 hy hdy (C:=D.cChoice) (st:=.choice (S.length - 1)) (fun H' h=>jfF H' h) (fs':=jaM "behind" (.int ((us0.length:Int) - 1)) []) (jce (by rw [hm]; exact jca) jep)
    refine ⟨l,_,_,rfl,rfl,j1,jaB (by omega),⟨_,rfl⟩,e2.trans j2,?_⟩
    rw [jkv,if_pos (by omega),hk,<- List.append_assoc,<- List.append_assoc]
    exact j3
   ·refine jbe hc ⟨⟨_,rfl⟩,e2,?_⟩
    rw [jkv,if_neg (by omega),List.append_nil,hk,<- List.append_assoc]
    exact k3
  ·obtain ⟨⟨o,rfl⟩,e1,e2⟩:=e
   rw [hn,Nat.sub_self] at e2
   exact q _ e1 e2
end
theorem jmQ {m:Nat}:∀ {p:Pc},p.ok->(x1 m (mPc p)).length<=12
 | .say t,h=>by
  show (xText (tl t)).length<=12
  rw [jcR,Array.length_toList]
  exact h.hi
 | .ask n sg lo hi,⟨_,_,_,h1,h2,h4⟩=>by
  have:=jfG m (tl sg) lo.toNat hi.toNat 0
  show (xAsk m (tl sg) lo.toNat hi.toNat 0).length<=12
  omega
theorem jkw {m:Nat}:∀ {ps:List Pc},(∀ p∈ps,p.ok)->(xL m (ps.map mPc)).length<=12 * ps.length
 | [],_=>Nat.le_refl _
 | p::ps,h=>by
  have h1:=jkw (m:=m) (ps:=ps) fun q hq=>h q (List.mem_cons_of_mem _ hq)
  have h2:=jmQ (m:=m+(xL m (ps.map mPc)).length) (h p List.mem_cons_self)
  rw [List.map_cons,xL,List.length_append,List.length_cons]
  omega
theorem jes {m:Nat} {inner:List MP} {gap:List Nat} {lo n:Nat} (hi:∀ m,(xL m inner).length<=n):∀ f k,(xRows m inner gap lo f k).length<=f * (n+gap.length+1)
 | 0,_=>Nat.zero_le _
 | f+1,k=>by
  have h1:=jes (m:=m) (gap:=gap) (lo:=lo) hi f (k+1)
  have h2:=hi (m+(xRows m inner gap lo f (k+1)).length)
  rw [xRows,List.length_append,List.length_append,List.length_append,Nat.succ_mul]
  have a:(if lo<=k then [Stp.choice m] else []).length<=1:=by split <;> simp
  have b:(if k=0 then [] else xText gap).length<=gap.length:=by split <;> simp [jcR]
  omega
theorem jps {m:Nat}:∀ {p:Pie},p.ok->(xQ m (mPie p)).length<=130
 | .one p,h=>Nat.le_trans (jmQ (m:=m) (p:=p) h) (by decide)
 | .rows n inner gap lo hi,⟨_,hp,hg,h1,h2,h3⟩=>by
  have e:∀ m,(xL m (inner.map mPc)).length<=36:=fun m=>Nat.le_trans (jkw hp.all) (by have:=hp.hi; omega)
  have:=jes (m:=m) (gap:=tl gap) (lo:=lo.toNat) e hi.toNat 0
  have g5:(tl gap).length<=5:=by rw [Array.length_toList]; exact hg.hi
  show (xRows m (inner.map mPc) (tl gap) lo.toNat hi.toNat 0).length<=130
  have h3':hi.toNat<=3:=by omega
  refine Nat.le_trans this (Nat.le_trans (Nat.mul_le_mul h3' (Nat.succ_le_succ (Nat.add_le_add_left g5 36))) (by decide))
theorem jkx {m:Nat}:∀ {ps:List Pie},(∀ p∈ps,p.ok)->(xF m (ps.map mPie)).length<=130 * ps.length
 | [],_=>Nat.le_refl _
 | p::ps,h=>by
  have h1:=jkx (m:=m) (ps:=ps) fun q hq=>h q (List.mem_cons_of_mem _ hq)
  have h2:=jps (m:=m+(xF m (ps.map mPie)).length) (h p List.mem_cons_self)
  rw [List.map_cons,xF,List.length_append,List.length_cons]
  omega
theorem jmR {m:Nat}:∀ ps:List Pc,xF m ((ps.map Pie.one).map mPie)=xL m (ps.map mPc)
 | []=>rfl
 | p::ps=>by
  rw [List.map_cons,List.map_cons,xF,jmR ps,List.map_cons,xL]
  rfl
theorem jlS (m:Nat) (inner:List MP) (gap:List Nat) (lo f k:Nat):(xRows m inner gap lo (f+1) k).reverse=(((xRows m inner gap lo f (k+1)).reverse++(xL (m+(xRows m inner gap lo f (k+1)).length) inner).reverse)++(if k=0 then [] else (xText gap).reverse))++(if lo<=k then [.choice m] else []):=by
 rw [xRows]
 split <;> split <;> simp
def jib:Pie->Prop
 | .one _=>False
 | .rows ..=>True
section
variable {P:Program} {w:World} {K:PySem.W.Frag} {mg:Str->Option Value} {base:Heap} {D:Adr}
theorem scAR:FnScope ["steps","rows","behind","number"] ["steps","rows"] (jag jfo):=⟨rfl,rfl,rfl,by decide +kernel,rfl,by decide +kernel,by decide +kernel⟩
def spAR (D:Adr) (okr:Prop) (c:Nat):Sp:=fun vs H Q _=>∃ (l:Addr) (v:V) (H0 Hb:Hp) (p:Pie) (S:List Stp),vs=[.ref l,v]/\okr/\Same Hb H/\Hb l=none/\p.Obj D.cl H0 Hb v/\p.ok/\jib p/\StA D H l S/\1<=S.length/\S.length+c<=100000 /\
 ∀ H',Besides l H H'->StA D H' l (S++(xQ (S.length - 1) (mPie p)).reverse)->Q .non H'
theorem jpt (T:Txt w K mg D) {c:Nat}:FnOk P w K mg base CX0 3 D.aAddRows D.dAddRows ["steps","rows"] (spAR D False c):=by
 refine T.fAddRows.ok scAR (fun vs H Q E h=>?_) (fun cdv A outer s H vs Q E hr h=>?_)
 ·obtain ⟨l,v,H0,Hb,p,S,rfl,z,_⟩:=h; exact z.elim
 ·obtain ⟨l,v,H0,Hb,p,S,rfl,z,_⟩:=h; exact z.elim
theorem scAP:FnScope ["steps","parts","part"] ["steps","parts"] (jag jeh):=⟨rfl,rfl,rfl,by decide +kernel,rfl,by decide +kernel,by decide +kernel⟩
def spAP (D:Adr) (okr:Prop) (c:Nat):Sp:=fun vs H Q _=>∃ (l m:Addr) (H0 Hb:Hp) (ps:List Pie) (us:List V) (S:List Stp),vs=[.ref l,.ref m]/\Same Hb H/\Hb l=none/\Hb m=some (.lst us)/\Paired (Pie.Obj D.cl H0 Hb) ps us/\(∀ p∈ps,p.ok/\(jib p->okr))/\StA D H l S/\1<=S.length/\S.length+130 * ps.length+c<=100000 /\
 ∀ H',Besides l H H'->StA D H' l (S++(xF (S.length - 1) (ps.map mPie)).reverse)->Q .non H'
theorem jpu (T:Txt w K mg D) {okr:Prop} {k c:Nat} (hc:12<=c) (hk:3<=k) (GR:FnOk P w K mg base CX0 k D.aAddRows D.dAddRows ["steps","rows"] (spAR D okr c)):FnOk P w K mg base CX0 (k+1) D.aAddParts D.dAddParts ["steps","parts"] (spAP D okr c):=by
 have GT:FnOk P w K mg base CX0 3 D.aAddText D.dAddText ["steps","text"] (spAT D):=jpr T
 have GF:FnOk P w K mg base CX0 3 D.aAddField D.dAddField ["steps","ask"] (spAF D):=ok_AF T
 refine T.fAddParts.ok scAP (fun vs H Q E h=>?_) (fun cdv A outer s H vs Q E hr h=>?_)
 ·obtain ⟨l,m,H0,Hb,ps,us,S,rfl,_⟩:=h; rfl
 ·obtain ⟨l,m,H0,Hb,ps,us,S,rfl,sb,nb,hm,hp,hok,hS,h1,hz,q⟩:=h
  have hr3:Room 3 _:=hr.mono hk
  have hus:us.length=ps.length:=hp.length.symm
  refine ⟨_,jae (jbb PassesOwn.never rfl (jiO rfl T.zReversed (jaa (pv 1) jad)) (jaE (i:=2) scAP.nd rfl (Or.inl rfl))
   (jae (jay (jaJ (jaj jau rfl T.zIsinstance PyProof.Rows.boot_isinstance (jaa (pv 2) (jaa (jaS (v:=.ref D.cSay) rfl T.mgSay rfl) jad))))
    (jae (jas (jai GT hr3 rfl T.mAddText T.fAddText.kp T.bAddText .nil jam (jaa (pv 0) (jaa (jaw (pv 2) rfl) jad)))))
    (jae (jay (jaJ (jaj jau rfl T.zIsinstance PyProof.Rows.boot_isinstance (jaa (pv 2) (jaa (jaS (v:=.ref D.cAsk) rfl T.mgAsk rfl) jad))))
     (jae (jas (jai GF hr3 rfl T.mAddField T.fAddField.kp T.bAddField .nil jam (jaa (pv 0) (jaa (pv 2) jad)))))
     (jae (jas (jai GR hr rfl T.mAddRows T.fAddRows.kp T.bAddRows .nil jam (jaa (pv 0) (jaa (pv 2) jad)))))))))),?_⟩
  have hm0:=sb _ _ hm
  refine ⟨_,rfl,m,us,rfl,SqL.of hm0,jgZ (xs:=us) (fun i σ H'=>(∃ o,σ=[some (.ref l),some (.ref m),o])/\Besides l H H'/\StA D H' l (S++(xF (S.length - 1) ((ps.drop (ps.length - i)).map mPie)).reverse)) ⟨⟨none,rfl⟩,Besides.refl,?_⟩ (fun i σ H' hi e=>SqL.of (jaK sb nb e.2.1 _ _ hm)) (fun i x σ H' hi hx e=>?_) (fun σ H' e=>?_)⟩
  ·rw [Nat.sub_zero,List.drop_length,List.map_nil,xF,List.reverse_nil,List.append_nil]; exact hS
  ·obtain ⟨⟨o,rfl⟩,e1,e2⟩:=e
   have sb1:=jaK sb nb e1
   rw [hus] at hx hi
   obtain ⟨p,ep,po⟩:=Paired.two hp hx
   have pm:=List.mem_of_getElem? ep
   obtain ⟨okp,pr⟩:=hok p pm
   have ed:ps.drop (ps.length - (i+1))=p::ps.drop (ps.length - i):=by
    rw [show ps.length - (i+1)=ps.length - 1 - i by omega,List.drop_eq_getElem?_toList_append,ep]
    rw [show ps.length - 1 - i+1=ps.length - i by omega]; rfl
   have fin:∀ H2,Besides l H' H2->StA D H2 l ((S++(xF (S.length - 1) ((ps.drop (ps.length - i)).map mPie)).reverse)++(xQ ((S++(xF (S.length - 1) ((ps.drop (ps.length - i)).map mPie)).reverse).length - 1) (mPie p)).reverse) ->
     (Besides l H H2/\StA D H2 l (S++(xF (S.length - 1) ((ps.drop (ps.length - (i+1))).map mPie)).reverse)):=fun H2 b s2=>by
    refine ⟨e1.trans b,?_⟩
    rw [ed,List.map_cons,xF,List.reverse_append,<- List.append_assoc]
    rw [show (S++(xF (S.length - 1) ((ps.drop (ps.length - i)).map mPie)).reverse).length - 1=S.length - 1+(xF (S.length - 1) ((ps.drop (ps.length - i)).map mPie)).length by rw [List.length_append,List.length_reverse]; omega] at s2
    exact s2
   have xl:=jkx (m:=S.length - 1) (ps:=ps.drop (ps.length - i)) fun q hq=>(hok q (List.mem_of_mem_drop hq)).1
   have hd:(ps.drop (ps.length - i)).length<=ps.length:=by rw [List.length_drop]; omega
   have hT:(S++(xF (S.length - 1) ((ps.drop (ps.length - i)).map mPie)).reverse).length+c<=100000:=by
    rw [List.length_append,List.length_reverse]
    have:=Nat.mul_le_mul_left 130 hd
    omega
   have hT1:1<=(S++(xF (S.length - 1) ((ps.drop (ps.length - i)).map mPie)).reverse).length:=by rw [List.length_append]; omega
   generalize S++(xF (S.length - 1) ((ps.drop (ps.length - i)).map mPie)).reverse=S1 at *
   cases p with
   | one p =>
    cases p with
    | say t =>
     obtain ⟨a,rfl,dx,fs,ha,hf⟩:=po
     have t12:t.length<=12:=okp.hi
     refine ⟨_,rfl,_,_,true,.inl ⟨_,rfl,T.isSaySay⟩,jbc T.kSay (sb1 _ _ ha),_,rfl,jcc ?_⟩
     refine ⟨_,rfl,_,rfl,a,_,dx,_,_,rfl,sb1 _ _ ha,T.kSay.cl,T.nSayText,hf _ List.mem_cons_self,l,t,S1,rfl,e2,by omega,fun H2 b s2=>⟨⟨_,rfl⟩,fin H2 b s2⟩⟩
    | ask n sg lo hi' =>
     obtain ⟨a,rfl,dx,fs,ha,hf⟩:=id po
     refine ⟨_,rfl,_,_,false,.inl ⟨_,rfl,T.isAskSay⟩,jbc T.kAsk (sb1 _ _ ha),_,rfl,jbn ?_⟩
     refine ⟨_,rfl,_,_,true,.inl ⟨_,rfl,T.isAskAsk⟩,jbc T.kAsk (sb1 _ _ ha),_,rfl,jcc ?_⟩
     obtain ⟨_,_,_,b1,b2,b3⟩:=okp
     refine ⟨_,rfl,_,rfl,l,_,Hb,n,sg,lo,hi',S1,rfl,sb1,nb,po,⟨b1,b2,b3⟩,e2,hT1,by omega,fun H2 b s2=>⟨⟨_,rfl⟩,fin H2 b s2⟩⟩
   | rows n inner gap lo hi' =>
    obtain ⟨a,l',ws,rfl,hfl,_⟩:=id po
    obtain ⟨dx,fs,ha,hf⟩:=hfl
    refine ⟨_,rfl,_,_,false,.inl ⟨_,rfl,T.isRowsSay⟩,jbc T.kRows (sb1 _ _ ha),_,rfl,jbn ?_⟩
    refine ⟨_,rfl,_,_,false,.inl ⟨_,rfl,T.isRowsAsk⟩,jbc T.kRows (sb1 _ _ ha),_,rfl,jbn ?_⟩
    refine ⟨_,rfl,_,rfl,l,_,H0,Hb,_,S1,rfl,pr trivial,sb1,nb,po,okp,trivial,e2,hT1,hT,fun H2 b s2=>⟨⟨_,rfl⟩,fin H2 b s2⟩⟩
  ·obtain ⟨⟨o,rfl⟩,e1,e2⟩:=e
   rw [hus,Nat.sub_self,List.drop_zero] at e2
   exact q _ e1 e2
open Mth (Stp xText xAsk xL x1 xRows xQ xF MP MQ stepsOf)
theorem jet {H0 H:Hp}:∀ {ps:List Pc} {us:List V},Paired (Pc.Obj D.cl H) ps us->Paired (Pie.Obj D.cl H0 H) (ps.map Pie.one) us
 | _,_,.nil=>.nil
 | _,_,.cons h t=>.cons h (jet t)
theorem ok_AR (T:Txt w K mg D):FnOk P w K mg base CX0 5 D.aAddRows D.dAddRows ["steps","rows"] (spAR D True 3000):=by
 have GP:FnOk P w K mg base CX0 4 D.aAddParts D.dAddParts ["steps","parts"] (spAP D False 1000):=jpu T (by decide) (by decide) (jpt T)
 have GT:FnOk P w K mg base CX0 3 D.aAddText D.dAddText ["steps","text"] (spAT D):=jpr T
 have GC:FnOk P w K mg base CX0 1 D.aChoiceI D.dChoiceI ["self","behind"] (jer D):=jeZ T
 refine T.fAddRows.ok scAR (fun vs H Q E h=>?_) (fun cdv A outer s H vs Q E hr h=>?_)
 ·obtain ⟨l,v,H0,Hb,p,S,rfl,_⟩:=h; rfl
 ·obtain ⟨l,v,H0,Hb,p,S,rfl,_,sb,nb,po,okp,ir,hS,h1,hz,q⟩:=h
  cases p with
  | one p=>exact ir.elim
  | rows n inner gap lo hi =>
  obtain ⟨a,m,ws,rfl,⟨dx,fs,ha,hf⟩,hm,_,hin⟩:=po
  obtain ⟨_,hpo,hg,b0,b1,b2⟩:=okp
  have ep:=hf ("parts",.ref m) (List.mem_cons_of_mem _ List.mem_cons_self)
  have eg:=hf ("gap",.str gap) (List.mem_cons_of_mem _ (List.mem_cons_of_mem _ List.mem_cons_self))
  have el:=hf ("least",.int lo) (List.mem_cons_of_mem _ (List.mem_cons_of_mem _ (List.mem_cons_of_mem _ List.mem_cons_self)))
  have em:=hf ("most",.int hi) (List.mem_cons_of_mem _ (List.mem_cons_of_mem _ (List.mem_cons_of_mem _ (List.mem_cons_of_mem _ List.mem_cons_self))))
  have cl:Cls K D.cl.rows:=T.kRows.cl
  have np:NoAttr K D.cl.rows "parts":=T.nRowsParts
  have ng:NoAttr K D.cl.rows "gap":=T.nRowsGap
  have nl:NoAttr K D.cl.rows "least":=T.nRowsLeast
  have nm:NoAttr K D.cl.rows "most":=T.nRowsMost
  have hr2:Room 2 _:=hr.mono (by decide)
  have hr3:Room 3 _:=hr.mono (by decide)
  refine ⟨_,jab (jan (i:=2) scAR.nd rfl (Or.inl rfl) (jar jbr (jaj jav rfl T.zLen PySem.boot_len (jaa (pv 0) jad)) jaf))
   (jae (jbb PassesOwn.never rfl (jef rfl T.zRange (jaa (jar jbr (jaw (pv 1) rfl) jaf) (jaa (jfQ jdr jaf) (jaa (jfQ jdr jaf) jad)))) (jaE (i:=3) scAR.nd rfl (Or.inl rfl))
    (jab (jas (jai GP hr rfl T.mAddParts T.fAddParts.kp T.bAddParts .nil jam (jaa (pv 0) (jaa (jaw (pv 1) rfl) jad))))
    (jab (jay (jat jjl (pv 3) jaf (jax _)) (jae (jas (jai GT hr3 rfl T.mAddText T.fAddText.kp T.bAddText .nil jam (jaa (pv 0) (jaa (jaw (pv 1) rfl) jad))))) jaq)
    (jae (jay (jat joy (pv 3) (jaw (pv 1) rfl) (jax _)) (jae (jas (jbS PySem.F.plainAttrs_list PySem.F.slot_list_append PySem.F.type_list_append jaH (pv 0) (jaa (jbx T.mkChoice GC hr2 rfl T.mgChoice T.bChoiceI .nil jam (jaa (pv 2) jad)) jad)))) jaq)))))),?_⟩
  obtain ⟨us0,hl0,hp0⟩:=id hS
  have ha0:=sb _ _ ha
  have hm1:(us0.length:Int) - 1=((S.length - 1:Nat):Int):=by rw [<- hp0.length]; omega
  refine ⟨_,rfl,l,us0,rfl,.inl (SqL.of hl0),_,_,rfl,rfl,?_⟩
  refine ⟨_,rfl,a,_,dx,_,_,rfl,ha0,cl,nm,em,_,_,rfl,rfl,_,rfl,_,rfl,_,_,rfl,⟨by omega,by omega,by omega,by omega⟩,?_⟩
  have hn:(hi - 1 - -1).toNat=hi.toNat:=by congr 1; omega
  have e36:∀ m,(xL m (inner.map mPc)).length<=36:=fun m=>Nat.le_trans (jkw hpo.all) (by have:=hpo.hi; omega)
  have g5:(tl gap).length<=5:=by rw [Array.length_toList]; exact hg.hi
  refine jdi (fun i σ H'=>(∃ o,σ=[some (.ref l),some (.ref a),some (.int ((us0.length:Int) - 1)),o])/\Besides l H H'/\StA D H' l (S++(xRows (S.length - 1) (inner.map mPc) (tl gap) lo.toNat i (hi.toNat - i)).reverse)) ⟨⟨none,rfl⟩,Besides.refl,by rw [xRows,List.reverse_nil,List.append_nil]; exact hS⟩ (fun i σ H' hi' e=>?_) (fun σ H' e=>?_)
  ·obtain ⟨⟨o,rfl⟩,e1,e2⟩:=e
   rw [hn] at hi'
   have xl:=jes (m:=S.length - 1) (gap:=tl gap) (lo:=lo.toNat) e36 i (hi.toNat - i)
   have xl':(xRows (S.length - 1) (inner.map mPc) (tl gap) lo.toNat i (hi.toNat - i)).length<=126:=by
    have i3:i<=3:=by omega
    exact Nat.le_trans xl (Nat.le_trans (Nat.mul_le_mul i3 (Nat.succ_le_succ (Nat.add_le_add_left g5 36))) (by decide))
   have hk:hi.toNat - (i+1)+1=hi.toNat - i:=by omega
   have er:=jlS (S.length - 1) (inner.map mPc) (tl gap) lo.toNat i (hi.toNat - (i+1))
   rw [hk] at er
   rw [er]
   have eL:(S++(xRows (S.length - 1) (inner.map mPc) (tl gap) lo.toNat i (hi.toNat - i)).reverse).length=S.length+(xRows (S.length - 1) (inner.map mPc) (tl gap) lo.toNat i (hi.toNat - i)).length:=by rw [List.length_append,List.length_reverse]
   have e36':=e36 (S.length - 1+(xRows (S.length - 1) (inner.map mPc) (tl gap) lo.toNat i (hi.toNat - i)).length)
   generalize hX:xRows (S.length - 1) (inner.map mPc) (tl gap) lo.toNat i (hi.toNat - i)=Xr at *
   have sb1:=jaK sb nb e1
   have ha1:=sb1 _ _ ha
   have in3:=hpo.hi
   refine ⟨_,rfl,_,rfl,a,_,dx,_,_,rfl,ha1,cl,np,ep,l,m,H0,Hb,inner.map Pie.one,ws,S++Xr.reverse,rfl,sb1,nb,hm,jet hin,fun p hp=>?_,e2,by rw [eL]; omega,by rw [eL,List.length_map]; omega,fun H2 c1 s2=>?_⟩
   ·obtain ⟨p',hp',rfl⟩:=List.mem_map.mp hp
    exact ⟨hpo.all p' hp',fun z=>z⟩
   rw [jmR,eL,show S.length+Xr.length - 1=S.length - 1+Xr.length by omega] at s2
   have e3:=e1.trans c1
   have sb2:=jaK sb nb e3
   have low:∀ (us3:List V) (gp:List Stp) (H3:Hp),gp.length<=5->Paired (StpAt D H3) ((S++Xr.reverse++(xL (S.length - 1+Xr.length) (inner.map mPc)).reverse)++gp) us3->us3.length<=S.length+167:=fun us3 gp H3 hgp hp3=>by
    rw [<- hp3.length,List.length_append,List.length_append,List.length_append,List.length_reverse,List.length_reverse]
    omega
   have nz:(0:Int) < hi - 1 - (i:Int)↔¬ hi.toNat - (i+1)=0:=by omega
   have nl':(hi - 1 - (i:Int) ≥ lo)↔lo.toNat<=hi.toNat - (i+1):=by omega
   refine ⟨_,rfl,_,_,rfl,rfl,_,rfl,?_⟩
   by_cases hg0:(0:Int) < hi - 1 - (i:Int)
   ·refine jcr hg0 ⟨_,rfl,_,rfl,a,_,dx,_,_,rfl,sb2 _ _ ha,cl,ng,eg,l,gap,_,rfl,s2,?_,fun H3 c2 s3=>?_⟩
    ·have:gap.length<=5:=hg.hi
     rw [List.length_append,eL,List.length_reverse]; omega
    have e4:=e3.trans c2
    have sb3:=jaK sb nb e4
    obtain ⟨us3,hl3,hp3⟩:=id s3
    have l3:=low us3 _ H3 (by rw [List.length_reverse,jcR]; exact g5) hp3
    refine ⟨_,rfl,_,rfl,a,_,dx,_,_,rfl,sb3 _ _ ha,cl,nl,el,_,_,rfl,rfl,_,rfl,?_⟩
    by_cases hc:hi - 1 - (i:Int) ≥ lo
    ·refine jcr hc ⟨_,rfl,.inl ⟨rfl,_,SqL.of hl3⟩,_,rfl,fun y dy hy hdy ne'=>⟨y,dy,_,rfl,jac,⟨rfl,?_⟩⟩⟩
     obtain ⟨j1,j2,j3⟩:=jcQ (D:=D) hl3 hp3 hy hdy (C:=D.cChoice) (st:=.choice (S.length - 1)) (fun H' h=>jfF H' h) (fs':=jaM "behind" (.int ((us0.length:Int) - 1)) []) (jce (by rw [hm1]; exact jca) jep)
     refine ⟨l,_,_,rfl,rfl,j1,jaB (by omega),⟨_,rfl⟩,e4.trans j2,?_⟩
     rw [if_neg (nz.mp hg0),if_pos (nl'.mp hc),<- List.append_assoc,<- List.append_assoc,<- List.append_assoc]
     exact j3
    ·refine jbe hc ⟨⟨_,rfl⟩,e4,?_⟩
     rw [if_neg (nz.mp hg0),if_neg (fun z=>hc (nl'.mpr z)),List.append_nil,<- List.append_assoc,<- List.append_assoc]
     exact s3
   ·obtain ⟨us3,hl3,hp3⟩:=id s2
    have l3:=low us3 [] H2 (Nat.zero_le _) (by rw [List.append_nil]; exact hp3)
    refine jbe hg0 ⟨_,rfl,_,rfl,a,_,dx,_,_,rfl,sb2 _ _ ha,cl,nl,el,_,_,rfl,rfl,_,rfl,?_⟩
    have z0:hi.toNat - (i+1)=0:=by omega
    by_cases hc:hi - 1 - (i:Int) ≥ lo
    ·refine jcr hc ⟨_,rfl,.inl ⟨rfl,_,SqL.of hl3⟩,_,rfl,fun y dy hy hdy ne'=>⟨y,dy,_,rfl,jac,⟨rfl,?_⟩⟩⟩
     obtain ⟨j1,j2,j3⟩:=jcQ (D:=D) hl3 hp3 hy hdy (C:=D.cChoice) (st:=.choice (S.length - 1)) (fun H' h=>jfF H' h) (fs':=jaM "behind" (.int ((us0.length:Int) - 1)) []) (jce (by rw [hm1]; exact jca) jep)
     refine ⟨l,_,_,rfl,rfl,j1,jaB (by omega),⟨_,rfl⟩,e3.trans j2,?_⟩
     rw [if_pos z0,if_pos (nl'.mp hc),List.append_nil,<- List.append_assoc,<- List.append_assoc]
     exact j3
    ·refine jbe hc ⟨⟨_,rfl⟩,e3,?_⟩
     rw [if_pos z0,if_neg (fun z=>hc (nl'.mpr z)),List.append_nil,List.append_nil,<- List.append_assoc]
     exact s2
  ·obtain ⟨⟨o,rfl⟩,e1,e2⟩:=e
   rw [hn,Nat.sub_self] at e2
   exact q _ e1 e2
theorem jpv (T:Txt w K mg D):FnOk P w K mg base CX0 6 D.aAddParts D.dAddParts ["steps","parts"] (spAP D True 3000):=jpu T (by decide) (by decide) (ok_AR T)
theorem scSO:FnScope ["form","steps"] ["form"] (jag jfm):=⟨rfl,rfl,rfl,by decide +kernel,rfl,by decide +kernel,by decide +kernel⟩
def spSO (D:Adr):Sp:=fun vs H Q _=>∃ (H0:Hp) (ps:List Pie) (v:V),vs=[v]/\FormAt D.cl H0 H ps v/\FormOk ps/\∀ l H',H l=none->Same H H'->StA D H' l (stepsOf (ps.map mPie))->Q (.ref l) H'
theorem jnU (T:Txt w K mg D):FnOk P w K mg base CX0 7 D.aStepsOf D.dStepsOf ["form"] (spSO D):=by
 have GP:FnOk P w K mg base CX0 6 D.aAddParts D.dAddParts ["steps","parts"] (spAP D True 3000):=jpv T
 have G:FnOk P w K mg base CX0 1 D.aSignI D.dSignI ["self","signs"] (jfD D):=jfE T
 refine T.fStepsOf.ok scSO (fun vs H Q E h=>?_) (fun cdv A outer s H vs Q E hr h=>?_)
 ·obtain ⟨H0,ps,v,rfl,_⟩:=h; rfl
 ·obtain ⟨H0,ps,v,rfl,⟨a,m,ws,_,_,rfl,⟨dx,fs,ha,hf⟩,hm,_,hp,_⟩,ok,q⟩:=h
  have ep:=hf ("plan",.ref m) List.mem_cons_self
  have hr2:Room 2 _:=hr.mono (by decide)
  refine ⟨_,jab (jan (i:=1) scSO.nd rfl (Or.inl rfl) (jbj (jaa (jbx T.mkSign G hr2 rfl T.mgSign T.bSignI .nil jam (jaa jaz jad)) jad)))
   (jab (jas (jai GP hr rfl T.mAddParts T.fAddParts.kp T.bAddParts .nil jam (jaa (pv 1) (jaa (jaw (pv 0) rfl) jad))))
   (jae (jak (pv 1)))),?_⟩
  refine fun x d hx hd ne=>⟨x,d,_,rfl,jac,⟨rfl,Nat.le_of_lt (jaB (by show 1<=100000; decide)),fun l hl=>?_⟩⟩
  have s1:Same H _:=jbP (C:=D.cSign) hx hd (Besides.refl.upd (.ins D.cSign d (jaM "signs" (.str "") [])))
  have s2:=s1.trans (jah hl (.lst [.ref x]))
  have nl:H l=none:=s1.free hl
  have nx:x≠l:=fun z=>by rw [z,jac] at hl; cases hl
  refine ⟨_,rfl,_,rfl,a,_,dx,_,_,rfl,s2 _ _ ha,T.kForm.cl,T.nFormPlan,ep,l,m,H0,H,ps,ws,[.sign []],rfl,s2,nl,hm,hp,fun p hp'=>⟨ok.all p hp',fun _=>trivial⟩,⟨_,jac,.cons ⟨x,"",rfl,rfl,d,jaM "signs" (.str "") [],?_,jce jca jep⟩ .nil⟩,Nat.le_refl _,?_,fun H' b s'=>?_⟩
  ·rw [jao nx]; exact jac
  ·have:=ok.hi
   show 1+130 * ps.length+3000<=100000
   omega
  ·exact ⟨_,rfl,q l H' nl (jaK s2 nl b) s'⟩
end
def bts (t:List Nat) (c:Nat):Nat->Nat
 | 0=>0
 | n+1=>if t[n]?=some c then bts t c n ||| 2 ^ n else bts t c n
theorem jky {n p:Nat}:(2 ^ n).testBit p=true↔p=n:=by
 rw [Nat.testBit_two_pow]
 simp
 exact eq_comm
theorem jkz {t:List Nat} {c p:Nat}:∀ n,(bts t c n).testBit p=true↔p < n/\t[p]?=some c
 | 0=>by simp [bts]
 | n+1=>by
  have ih:=jkz (t:=t) (c:=c) (p:=p) n
  unfold bts
  split
  ·rename_i h
   rw [Nat.testBit_or,Bool.or_eq_true,ih,jky]
   constructor
   ·rintro (⟨a,b⟩ | rfl)
    ·exact ⟨by omega,b⟩
    ·exact ⟨by omega,h⟩
   ·rintro ⟨a,b⟩
    by_cases e:p=n
    ·exact .inr e
    ·exact .inl ⟨by omega,b⟩
  ·rename_i h
   rw [ih]
   constructor
   ·rintro ⟨a,b⟩; exact ⟨by omega,b⟩
   ·rintro ⟨a,b⟩
    refine ⟨?_,b⟩
    by_cases e:p=n
    ·subst e; exact absurd b h
    ·omega
def jhj (kvs:List (Key×V)) (t:List Nat) (n:Nat):Prop:=∀ c,(jbt kvs (Sum.inr ⟨#[c]⟩)).getD (.int 0)=.int ((bts t c n:Nat):Int)
theorem jnV {c d:Nat} (h:(⟨#[c]⟩:Str)=⟨#[d]⟩):c=d:=by cases h; rfl
theorem jnW (x p:Nat):decide (V.int (Builtin.bitAnd ((x:Int) / 2 ^ ((p:Int)).toNat) 1)=V.int 1)=x.testBit p:=by
 rw [jka,show (1:Int)=((1:Nat):Int) from rfl,jeY]
 have e:x.testBit p=decide ((x >>> p &&& 1)=1):=by
  rw [Nat.and_one_is_mod,Nat.testBit_eq_decide_div_mod_eq,Nat.shiftRight_eq_div_pow]
 rw [e]
 have h2:((x >>> p &&& 1:Nat):Int)=1↔(x >>> p &&& 1)=1:=by omega
 by_cases h:(x >>> p &&& 1)=1
 ·rw [decide_eq_true h]
  exact decide_eq_true (congrArg V.int (h2.mpr h))
 ·rw [decide_eq_false h]
  exact decide_eq_false (fun z=>h (h2.mp (V.int.inj z)))
section
variable {P:Program} {w:World} {K:PySem.W.Frag} {mg:Str->Option Value} {base:Heap} {D:Adr}
theorem scHP:FnScope ["places","place"] ["places","place"] (jag jej):=⟨rfl,rfl,rfl,by decide +kernel,rfl,by decide +kernel,by decide +kernel⟩
def spHP:Sp:=fun vs H Q _=>∃ (x p:Nat),vs=[.int (x:Int),.int (p:Int)]/\Q (.bl (x.testBit p)) H
theorem jpw (T:Txt w K mg D):FnOk P w K mg base CX0 1 D.aHasPlace D.dHasPlace ["places","place"] spHP:=by
 refine T.fHasPlace.ok scHP (fun vs H Q E h=>?_) (fun cdv A outer s H vs Q E hr h=>?_)
 ·obtain ⟨x,p,rfl,_⟩:=h; rfl
 ·obtain ⟨x,p,rfl,q⟩:=h
  refine ⟨_,jae (jak (jaY jbR (jar jmk (jar jmj (pv 0) (pv 1)) jaf) jaf (jax _))),?_⟩
  refine ⟨_,rfl,_,rfl,_,_,rfl,rfl,by show (0:Int)<=(p:Int); omega,_,_,rfl,rfl,rfl,?_⟩
  have e:=jnW x p
  exact (congrArg (fun b=>Q (V.bl b) H) e).mpr q
theorem scPA:FnScope ["signs","standing","places","sign"] ["signs","standing"] (jag jci):=⟨rfl,rfl,rfl,by decide +kernel,rfl,by decide +kernel,by decide +kernel⟩
def spPA:Sp:=fun vs H Q _=>∃ (z:Str) (d:Addr) (kvs:List (Key×V)) (t:List Nat),vs=[.str z,.ref d]/\H d=some (.dK kvs)/\jhj kvs t t.length /\
 ∀ x:Nat,(∀ p,x.testBit p=true↔∃ c,t[p]?=some c/\c∈tl z)->Q (.int (x:Int)) H
theorem ok_PA (T:Txt w K mg D):FnOk P w K mg base CX0 1 D.aPlacesOfAny D.dPlacesOfAny ["signs","standing"] spPA:=by
 refine T.fPlacesOfAny.ok scPA (fun vs H Q E h=>?_) (fun cdv A outer s H vs Q E hr h=>?_)
 ·obtain ⟨z,d,kvs,t,rfl,_⟩:=h; rfl
 ·obtain ⟨z,d,kvs,t,rfl,hd,hs,q⟩:=h
  have hu:=jdS hr
  refine ⟨_,jab (jan (i:=2) scPA.nd rfl (Or.inl rfl) jaf)
   (jab (jbb PassesOwn.never rfl (jgc (pv 0)) (jaE (i:=3) scPA.nd rfl (Or.inl rfl))
    (jae (jan (i:=2) scPA.nd rfl (Or.inl rfl) (jar jni (pv 2) (jhG hu (pv 1) (pv 3) jaf ⟨rfl,rfl,rfl,rfl⟩)))))
   (jae (jak (pv 2)))),?_⟩
  refine ⟨_,rfl,z,rfl,jgR (z:=z) (fun i σ H'=>H'=H/\∃ o,∃ x:Nat,σ=[some (.str z),some (.ref d),some (.int (x:Int)),o]/\∀ p,x.testBit p=true↔∃ c,t[p]?=some c/\c∈(tl z).take i) ⟨rfl,none,0,rfl,fun p=>by simp⟩ (fun i c σ H' hc e=>?_) (fun σ H' e=>?_)⟩
  ·obtain ⟨rfl,o,x,rfl,hx⟩:=e
   refine ⟨_,rfl,_,rfl,d,rfl,.inl ⟨kvs,.inl hd⟩,_,rfl,_,DGet.k (k:=Sum.inr ⟨#[c]⟩) hd,x,(bts t c t.length:Nat),rfl,hs c,?_⟩
   refine ⟨rfl,some (.str ⟨#[c]⟩),x ||| bts t c t.length,?_,fun p=>?_⟩
   ·show _=[_,_,_,_]
    exact congrArg (fun y=>[some (V.str z),some (V.ref d),some (V.int y),some (V.str ⟨#[c]⟩)]) (jeg _ _)
   ·have ec:(tl z)[i]?=some c:=by rw [Array.getElem?_toList]; exact hc
    rw [Nat.testBit_or,Bool.or_eq_true,hx,jkz,jaC ec]
    constructor
    ·rintro (⟨c',h1,h2⟩ | ⟨h1,h2⟩)
     ·exact ⟨c',h1,List.mem_append_left _ h2⟩
     ·exact ⟨c,h2,List.mem_append_right _ List.mem_cons_self⟩
    ·rintro ⟨c',h1,h2⟩
     rcases List.mem_append.mp h2 with h2 | h2
     ·exact .inl ⟨c',h1,h2⟩
     ·obtain rfl:c'=c:=by simpa using h2
      exact .inr ⟨(List.getElem?_eq_some_iff.mp h1).1,h1⟩
  ·obtain ⟨rfl,o,x,rfl,hx⟩:=e
   refine ⟨_,rfl,q x fun p=>?_⟩
   rw [hx p,List.take_of_length_le (by rw [Array.length_toList]; exact Nat.le_refl _)]
theorem scPS:FnScope ["text","standing","place","sign"] ["text"] (jag jbN):=⟨rfl,rfl,rfl,by decide +kernel,rfl,by decide +kernel,by decide +kernel⟩
def spPS:Sp:=fun vs H Q _=>∃ z:Str,vs=[.str z]/\z.length<=100000/\∀ d kvs H',H d=none->Same H H'->H' d=some (.dK kvs)->jhj kvs (tl z) (tl z).length->Q (.ref d) H'
theorem ok_PS (T:Txt w K mg D):FnOk P w K mg base CX0 1 D.aPlacesOfSigns D.dPlacesOfSigns ["text"] spPS:=by
 refine T.fPlacesOfSigns.ok scPS (fun vs H Q E h=>?_) (fun cdv A outer s H vs Q E hr h=>?_)
 ·obtain ⟨z,rfl,_⟩:=h; rfl
 ·obtain ⟨z,rfl,hz,q⟩:=h
  have hu:=jdS hr
  refine ⟨_,jab (jan (i:=1) scPS.nd rfl (Or.inl rfl) jdB)
   (jab (jbb PassesOwn.never rfl (jiQ rfl T.zEnumerate (jaa (pv 0) jad)) (jov rfl (jhx (jaE (i:=2) scPS.nd rfl (Or.inl rfl)) (jhx (jaE (i:=3) scPS.nd rfl (Or.inl rfl)) jng)))
    (jae (jcB hu (pv 1) (pv 3) (jar jni (jhG hu (pv 1) (pv 3) jaf ⟨rfl,rfl,rfl,rfl⟩) (jar jmi jaf (pv 2))) rfl)))
   (jae (jak (pv 1)))),?_⟩
  intro d hd
  refine ⟨_,rfl,z,rfl,jhb (z:=z) (fun i σ H'=>Besides d H H'/\∃ o1 o2 kvs,σ=[some (.str z),some (.ref d),o1,o2]/\H' d=some (.dK kvs)/\kvs.length<=i/\jhj kvs (tl z) i) ⟨(Besides.refl.upd _),none,none,[],rfl,jac,Nat.le_refl _,fun c=>rfl⟩ (fun i c U σ H' hc hU e=>?_) (fun σ H' e=>?_)⟩
  ·obtain ⟨e1,o1,o2,kvs,rfl,hd',hl,hs⟩:=e
   have hi:i < z.cps.size:=(Array.getElem?_eq_some_iff.mp hc).1
   have hi':i < z.length:=hi
   have e2:=jah hU (.tup [.int (i:Int),.str ⟨#[c]⟩])
   have hd2:=e2 _ _ hd'
   refine ⟨U,_,rfl,SqT.of jac,rfl,_,_,rfl,_,_,rfl,rfl,?_⟩
   refine ⟨_,rfl,d,rfl,.inl ⟨kvs,.inl hd2⟩,_,rfl,_,DGet.k (k:=Sum.inr ⟨#[c]⟩) hd2,_,rfl,_,_,rfl,rfl,⟨by omega,by omega,by decide⟩,(bts (tl z) c i:Nat),_,hs c,rfl,_,rfl,_,rfl,d,_,rfl,DPut.k (k:=Sum.inr ⟨#[c]⟩) hd2 (jaB (by omega)),?_⟩
   have eb:Builtin.bitOr ((bts (tl z) c i:Nat):Int) (1 * 2 ^ ((i:Int)).toNat)=((bts (tl z) c i ||| 2 ^ i:Nat):Int):=by rw [jjZ,jeg]
   refine ⟨(e1.same e2).upd _,_,_,_,rfl,jac,Nat.le_trans (jcA _ _ _) (Nat.succ_le_succ hl),fun c'=>?_⟩
   rw [jlz]
   have ec:(tl z)[i]?=some c:=by rw [Array.getElem?_toList]; exact hc
   by_cases h:c'=c
   ·subst h
    rw [if_pos rfl]
    show V.int _=V.int _
    rw [bts,if_pos ec]
    exact congrArg V.int eb
   ·rw [if_neg (fun z=>h (jnV (Sum.inr.inj z))),hs c',bts,if_neg (by rw [ec]; intro z; exact h (Option.some.inj z).symm)]
  ·obtain ⟨e1,o1,o2,kvs,rfl,hd',hl,hs⟩:=e
   refine ⟨_,rfl,q d kvs H' hd (fun b o h=>e1 b o h (ne_of_none h hd)) hd' ?_⟩
   rw [Array.length_toList]
   exact hs
end
open Mth (Stp okAt Down ok_zero ok_sign ok_choice)
abbrev jbu (x:Nat):V:=.int (x:Int)
def FitsL (S:List Stp) (t:List Nat) (xs:List Nat):Prop:=∀ (k x:Nat),xs[k]?=some x->∀ p,x.testBit p=true↔okAt S t k p
theorem FitsL.snoc {S:List Stp} {t xs:List Nat} (h:FitsL S t xs) {x:Nat} (hx:∀ p,x.testBit p=true↔okAt S t xs.length p):FitsL S t (xs++[x]):=fun k y e p=>by
 by_cases hk:k < xs.length
 ·rw [List.getElem?_append_left hk] at e; exact h k y e p
 ·rw [List.getElem?_append_right (by omega)] at e
  have:k - xs.length=0:=by
   have:=(List.getElem?_eq_some_iff.mp e).1
   rw [List.length_singleton] at this; omega
  rw [this] at e
  obtain rfl:x=y:=Option.some.inj e
  have:k=xs.length:=by omega
  rw [this]; exact hx p
theorem jkA {l:List V} {v:V} {n:Nat} (hn:l.length=n+1) (h:l[n]?=some v):atI l (-1)=some v:=by
 have e:l=l.take n++[v]:=by
  have:=jaC h
  rw [<- hn,List.take_length] at this
  exact this
 rw [e]; exact jlv _ _
theorem cut1 {xs:List V} (h:1<=xs.length):jhE xs (some 1) none=xs.drop 1:=by
 unfold jhE HT.sIx
 have e:min (1:Int).toNat xs.length=1:=by rw [show (1:Int).toNat=1 from rfl]; omega
 simp only [show ¬ (1:Int) < 0 by decide,if_false,e]
 rw [List.take_of_length_le (by rw [List.length_drop]; exact Nat.le_refl _)]
section
variable {P:Program} {w:World} {K:PySem.W.Frag} {mg:Str->Option Value} {base:Heap} {D:Adr}
theorem scFPl:FnScope ["steps","text","standing","fits","step"] ["steps","text"] (jag jbM):=⟨rfl,rfl,rfl,by decide +kernel,rfl,by decide +kernel,by decide +kernel⟩
def jpx (D:Adr):Sp:=fun vs H Q _=>∃ (l:Addr) (z:Str) (S:List Stp),vs=[.ref l,.str z]/\StA D H l S/\Down S/\1<=S.length/\S.length<=90000/\z.length<=90000 /\
 ∀ f xs H',H f=none->Same H H'->H' f=some (.lst (xs.map jbu))->xs.length=S.length->FitsL S (tl z) xs->Q (.ref f) H'
theorem jpy (T:Txt w K mg D):FnOk P w K mg base CX0 2 D.aFittingPlaces D.dFittingPlaces ["steps","text"] (jpx D):=by
 have GS:FnOk P w K mg base CX0 1 D.aPlacesOfSigns D.dPlacesOfSigns ["text"] spPS:=ok_PS T
 have GA:FnOk P w K mg base CX0 1 D.aPlacesOfAny D.dPlacesOfAny ["signs","standing"] spPA:=ok_PA T
 refine T.fFittingPlaces.ok scFPl (fun vs H Q E h=>?_) (fun cdv A outer s H vs Q E hr h=>?_)
 ·obtain ⟨l,z,S,rfl,_⟩:=h; rfl
 ·obtain ⟨l,z,S,rfl,⟨us,hl,hp⟩,hdn,h1,h2,hz,q⟩:=h
  refine ⟨_,jab (jan (i:=2) scFPl.nd rfl (Or.inl rfl) (jai GS hr rfl T.mPlacesOfSigns T.fPlacesOfSigns.kp T.bPlacesOfSigns .nil jam (jaa (pv 1) jad)))
   (jab (jan (i:=3) scFPl.nd rfl (Or.inl rfl) (jbj (jaa (jar jmi jaf (jaj jaW rfl T.zLen PySem.boot_len (jaa (pv 1) jad))) jad)))
   (jab (jbb PassesOwn.never rfl (jaT (jcK jnp (pv 0) (jdb jaf) jfg)) (jaE (i:=4) scFPl.nd rfl (Or.inl rfl))
    (jae (jay (jaJ (jaj jau rfl T.zIsinstance PyProof.Rows.boot_isinstance (jaa (pv 4) (jaa (jaS (v:=.ref D.cSign) rfl T.mgSign rfl) jad))))
     (jae (jas (jbS PySem.F.plainAttrs_list PySem.F.slot_list_append PySem.F.type_list_append jaH (pv 3) (jaa (jar jmk (jar jmj (jap jaG (pv 3) (jfQ jdr jaf) (fun _ _=>rfl)) jaf)
      (jai GA hr rfl T.mPlacesOfAny T.fPlacesOfAny.kp T.bPlacesOfAny .nil jam (jaa (jaw (pv 4) rfl) (jaa (pv 2) jad)))) jad))))
     (jae (jas (jbS PySem.F.plainAttrs_list PySem.F.slot_list_append PySem.F.type_list_append jaH (pv 3) (jaa (jar jni (jap jaG (pv 3) (jfQ jdr jaf) (fun _ _=>rfl)) (jap jaG (pv 3) (jaw (pv 4) rfl) (fun _ _=>rfl))) jad)))))))
   (jae (jak (pv 3))))),?_⟩
  refine ⟨_,rfl,z,rfl,by omega,fun d kvs H1 nd s1 hd st=>?_⟩
  refine ⟨_,rfl,z,rfl,Nat.le_of_lt (jaB (by omega)),_,_,rfl,rfl,⟨by omega,by omega,by decide⟩,Nat.le_of_lt (jaB (by show 1<=100000; decide)),fun f hf=>?_⟩
  have s2:=s1.trans (jah hf (.lst [.int (1 * 2 ^ ((z.length:Nat):Int).toNat)]))
  refine ⟨_,rfl,1,rfl,l,us,rfl,SqL.of (s2 _ _ hl),fun p hp'=>?_⟩
  have hus:us.length=S.length:=hp.length.symm
  rw [cut1 (by omega)]
  have npf:p≠f:=fun z=>by rw [z,jac] at hp'; cases hp'
  have hf3:(L2.upd (L2.upd H1 f (.lst [.int (1 * 2 ^ ((z.length:Nat):Int).toNat)])) p (.lst (us.drop 1))) f=some (.lst ([2 ^ z.length].map jbu)):=by
   rw [jao (Ne.symm npf),jac]
   show some (HO.lst [_])=some (HO.lst [_])
   exact congrArg (fun x=>some (HO.lst [V.int x])) (jjZ z.length)
  have s3:=s2.trans (jah hp' (.lst (us.drop 1)))
  have hd3:=jah hp' (.lst (us.drop 1)) _ _ (jah hf (.lst [.int (1 * 2 ^ ((z.length:Nat):Int).toNat)]) _ _ hd)
  have hp3:(L2.upd (L2.upd H1 f (.lst [.int (1 * 2 ^ ((z.length:Nat):Int).toNat)])) p (.lst (us.drop 1))) p=some (.lst (us.drop 1)):=jac
  generalize L2.upd (L2.upd H1 f (.lst [.int (1 * 2 ^ ((z.length:Nat):Int).toNat)])) p (.lst (us.drop 1))=H3 at *
  have nf:H f=none:=s1.free hf
  have ndf:d≠f:=jbw hd3 hf3 (by intro z; cases z)
  refine ⟨p,rfl,⟨_,SqL.of hp3⟩,jdz (xs:=us.drop 1) (fun i σ H'=>Besides f H3 H'/\∃ o,∃ xs:List Nat,σ=[some (.ref l),some (.str z),some (.ref d),some (.ref f),o]/\H' f=some (.lst (xs.map jbu))/\xs.length=i+1/\FitsL S (tl z) xs)
   ⟨Besides.refl,none,[2 ^ z.length],rfl,hf3,rfl,?_⟩ (fun i σ H' hi e=>SqL.of (e.1 _ _ hp3 npf)) (fun i x σ H' hx e=>?_) (fun σ H' e=>?_)⟩
  ·intro k x e p
   have hk:k=0:=by have:=(List.getElem?_eq_some_iff.mp e).1; simpa using this
   subst hk
   obtain rfl:2 ^ z.length=x:=Option.some.inj e
   rw [jky,ok_zero,Array.length_toList]
   exact Iff.rfl
  ·obtain ⟨e1,o,xs,rfl,hf',hxl,hfit⟩:=e
   rw [List.getElem?_drop] at hx
   have hlen:1+i < us.length:=(List.getElem?_eq_some_iff.mp hx).1
   obtain ⟨st1,es,ps⟩:=Paired.two hp hx
   rw [show 1+i=i+1 by omega] at es
   have sb:Same H H':=jaK s3 nf e1
   obtain ⟨y,ey⟩:∃ y,xs[i]?=some y:=⟨_,List.getElem?_eq_getElem (by omega)⟩
   have hy:atI (xs.map jbu) (-1)=some (jbu y):=jkA (n:=i) (by rw [List.length_map]; exact hxl) (by rw [List.getElem?_map,ey]; rfl)
   have fin:∀ nw:Nat,(∀ p,nw.testBit p=true↔okAt S (tl z) (i+1) p)->∀ v,v=jbu nw->Besides f H3 (L2.upd H' f (.lst (xs.map jbu++[v])))/\∃ o':Option V,∃ xs':List Nat,[some (V.ref l),some (.str z),some (.ref d),some (.ref f),some x]=[some (.ref l),some (.str z),some (.ref d),some (.ref f),o']/\(L2.upd H' f (.lst (xs.map jbu++[v]))) f=some (.lst (xs'.map jbu))/\xs'.length=i+1+1/\FitsL S (tl z) xs':=fun nw hnw v hv=>by
    subst hv
    refine ⟨e1.upd _,_,xs++[nw],rfl,?_,?_,?_⟩
    ·rw [jac,List.map_append]; rfl
    ·rw [List.length_append,hxl]; rfl
    ·exact hfit.snoc (by rw [hxl]; exact hnw)
   cases st1 with
   | sign sg =>
    obtain ⟨a,zz,rfl,rfl,dx,fs,ha,hfl⟩:=StpAt.mono sb ps
    refine ⟨_,rfl,_,_,true,.inl ⟨_,rfl,T.isSignSign⟩,jbc T.kSign ha,_,rfl,jcc ?_⟩
    refine ⟨_,rfl,.inl ⟨rfl,_,SqL.of hf'⟩,_,rfl,_,rfl,f,_,_,_,rfl,rfl,SqL.of hf',hy,_,_,rfl,rfl,by show (0:Int)<=1; decide,_,rfl,a,_,dx,_,_,rfl,ha,T.kSign.cl,T.nSignSigns,hfl _ List.mem_cons_self,_,rfl,zz,d,kvs,tl z,rfl,e1 _ _ hd3 ndf,st,fun x' hx'=>?_⟩
    refine ⟨_,_,rfl,rfl,f,_,_,rfl,rfl,hf',jaB (by rw [List.length_map]; omega),?_⟩
    refine fin (y >>> 1 &&& x') (fun p=>?_) _ ?_
    ·rw [Nat.testBit_and,Bool.and_eq_true,hx',Nat.testBit_shiftRight,hfit i y ey,ok_sign es,Nat.add_comm 1 p]
    ·show V.int (Builtin.bitAnd ((y:Int) / 2 ^ ((1:Nat):Int).toNat) (x':Int))=_
     rw [jka,jeY]
   | choice b =>
    obtain ⟨a,rfl,dx,fs,ha,hfl⟩:=StpAt.mono sb ps
    have hb:=hdn i b es
    obtain ⟨y',ey'⟩:∃ y,xs[b]?=some y:=⟨_,List.getElem?_eq_getElem (by omega)⟩
    refine ⟨_,rfl,_,_,false,.inl ⟨_,rfl,T.isChoiceSign⟩,jbc T.kChoice ha,_,rfl,jbn ?_⟩
    refine ⟨_,rfl,.inl ⟨rfl,_,SqL.of hf'⟩,_,rfl,_,rfl,f,_,_,_,rfl,rfl,SqL.of hf',hy,_,rfl,_,rfl,a,_,dx,_,_,rfl,ha,T.kChoice.cl,T.nChoiceBehind,hfl _ List.mem_cons_self,f,_,_,_,rfl,rfl,SqL.of hf',jba (v:=jbu y') (by rw [List.getElem?_map,ey']; rfl),?_⟩
    refine ⟨_,_,rfl,rfl,f,_,_,rfl,rfl,hf',jaB (by rw [List.length_map]; omega),?_⟩
    refine fin (y ||| y') (fun p=>?_) _ ?_
    ·rw [Nat.testBit_or,Bool.or_eq_true,hfit i y ey,hfit b y' ey',ok_choice es hb]
     exact Or.comm
    ·exact congrArg V.int (jeg _ _)
  ·obtain ⟨e1,o,xs,rfl,hf',hxl,hfit⟩:=e
   refine ⟨_,rfl,q f xs H' nf (jaK s3 nf e1) hf' ?_ hfit⟩
   rw [hxl,List.length_drop]; omega
end
end Lf
namespace L2
theorem while_st {α:Type} {c:TT} {tb:TS} {D:Ends} {σ:St} {H:Hp} (Pv:α->St->Hp->Prop) (μ:α->Nat) (a0:α) (h0:Pv a0 σ H)
  (hs:∀ a σ H,Pv a σ H->c σ H fun b H1=>if b=true then ∃ N:St->Hp->Prop,(∀ σ' H',N σ' H'->∃ m',m' < μ a/\∃ a',μ a'=m'/\Pv a' σ' H')/\tb {D with nx:=N,ct:=N,bk:=D.nx} σ H1 else D.nx σ H1):jhy c tb D σ H :=
 ⟨fun m σ H=>∃ a,μ a=m/\Pv a σ H,⟨_,a0,rfl,h0⟩,fun m σ H ⟨a,e,p⟩=>by subst e; exact hs a σ H p⟩
end L2
namespace Lf
open PySem L2
open Mth (Stp okAt Down ok_zero ok_sign ok_choice Way enumW enumA)
theorem jkB {n:Nat} (h:n<=1000000):n < sizeLine:=Nat.lt_of_le_of_lt h (by unfold sizeLine; decide)
def ChAt (H:Hp):List Bool->V->Prop
 | [],v=>v=.non
 | b::cs,v=>∃ a u,v=.ref a/\H a=some (.tup [.bl b,u])/\ChAt H cs u
theorem ChAt.besL {H H':Hp} {l:Addr} {us:List V} (hl:H l=some (.lst us)) (e:Besides l H H'):∀ {cs:List Bool} {v:V},ChAt H cs v->ChAt H' cs v
 | [],_,h=>h
 | _::_,_,⟨a,u,h1,h2,h3⟩=>⟨a,u,h1,e _ _ h2 (jbw h2 hl (by intro z; cases z)),ChAt.besL hl e h3⟩
theorem ChAt.mono {H H':Hp} (e:Same H H'):∀ {cs:List Bool} {v:V},ChAt H cs v->ChAt H' cs v
 | [],_,h=>h
 | _::_,_,⟨a,u,h1,h2,h3⟩=>⟨a,u,h1,e _ _ h2,ChAt.mono e h3⟩
section
variable {P:Program} {w:World} {K:PySem.W.Frag} {mg:Str->Option Value} {base:Heap} {D:Adr}
theorem scIO:FnScope ["choices","told"] ["choices"] (jag jfp):=⟨rfl,rfl,rfl,by decide +kernel,rfl,by decide +kernel,by decide +kernel⟩
def spIO:Sp:=fun vs H Q _=>∃ (cs:List Bool) (v:V),vs=[v]/\ChAt H cs v/\cs.length<=1000/\∀ r H',H r=none->Same H H'->H' r=some (.lst (cs.reverse.map V.bl))->Q (.ref r) H'
theorem ok_IO (T:Txt w K mg D):FnOk P w K mg base CX0 1 D.aInOrder D.dInOrder ["choices"] spIO:=by
 refine T.fInOrder.ok scIO (fun vs H Q E h=>?_) (fun cdv A outer s H vs Q E hr h=>?_)
 ·obtain ⟨cs,v,rfl,_⟩:=h; rfl
 ·obtain ⟨cs,v,rfl,hv,hz,q⟩:=h
  refine ⟨_,jab (jan (i:=1) scIO.nd rfl (Or.inl rfl) (jbj jad))
   (jab (jco PassesOwn.never (jdK (jcZ (pv 0)))
    (jab (jas (jbS PySem.F.plainAttrs_list PySem.F.slot_list_append PySem.F.type_list_append jaH (pv 1) (jaa (jap jal (pv 0) jaf (fun _ _=>rfl)) jad)))
    (jae (jan (i:=0) scIO.nd rfl (Or.inl rfl) (jap jal (pv 0) jaf (fun _ _=>rfl))))))
   (jab (jas (jfX PySem.F.plainAttrs_list PySem.F.slot_list_reverse PySem.F.type_list_reverse jiC (pv 1)))
   (jae (jak (pv 1))))),?_⟩
  refine ⟨Nat.zero_le _,fun r hr'=>?_⟩
  refine while_st (fun (st:List Bool×List Bool) σ H'=>cs=st.1++st.2/\Besides r H H'/\H' r=some (.lst (st.1.map V.bl))/\∃ u,σ=[some u,some (.ref r)]/\ChAt H st.2 u) (fun st=>st.2.length) ([],cs)
   ⟨rfl,Besides.refl.upd _,jac,v,rfl,hv⟩ (fun st σ H' e=>?_)
  obtain ⟨dn,rest⟩:=st
  obtain ⟨ec,e1,hl,u,rfl,hu⟩:=e
  dsimp only at ec hl hu
  have hlen:dn.length+rest.length<=1000:=by rw [<- List.length_append,<- ec]; exact hz
  cases rest with
  | nil =>
   obtain rfl:u=.non:=hu
   refine ⟨_,rfl,_,rfl,jbn ?_⟩
   refine ⟨_,rfl,.inl ⟨rfl,_,SqL.of hl⟩,r,_,rfl,rfl,hl,?_⟩
   refine ⟨_,rfl,q r _ hr' (fun b o h=>(e1.upd _) b o h (ne_of_none h hr')) ?_⟩
   rw [jac,ec,List.append_nil,List.map_reverse]
  | cons b rest =>
   obtain ⟨a,u',rfl,ha,hu'⟩:=hu
   have nar:a≠r:=ne_of_none ha hr'
   refine ⟨_,rfl,_,rfl,jcc ⟨_,fun _ _ h=>h,?_⟩⟩
   ·refine ⟨_,rfl,.inl ⟨rfl,_,SqL.of hl⟩,_,rfl,a,_,_,_,rfl,rfl,SqT.of (e1 _ _ ha nar),rfl,r,_,_,rfl,rfl,hl,jaB (by rw [List.length_map]; omega),?_⟩
    refine ⟨_,rfl,a,_,_,_,rfl,rfl,SqT.of ((e1.upd _) _ _ ha nar),rfl,?_⟩
    exact ⟨rest.length,Nat.lt_succ_self _,(dn++[b],rest),rfl,by rw [ec,List.append_assoc]; rfl,e1.upd _,by rw [jac,List.map_append]; rfl,u',rfl,hu'⟩
end
open Mth (Stp okAt Down ok_zero ok_sign ok_choice Way enumW enumA enum_end enum_sign enum_choice enum_no enumA_snoc)
def WayAt (H:Hp) (wy:Way) (v:V):Prop:=∃ a u,v=.ref a/\H a=some (.tup [jbu wy.n,jbu wy.p,u])/\ChAt H wy.cs u
theorem WayAt.besL {H H':Hp} {l:Addr} {us:List V} (hl:H l=some (.lst us)) (e:Besides l H H') {wy:Way} {v:V} (h:WayAt H wy v):WayAt H' wy v:=by
 obtain ⟨a,u,h1,h2,h3⟩:=h
 exact ⟨a,u,h1,e _ _ h2 (jbw h2 hl (by intro z; cases z)),h3.besL hl e⟩
def WaysAt (H:Hp) (y:Addr) (ws:List Way):Prop:=∃ us,H y=some (.lst us)/\Paired (WayAt H) ws us
theorem WaysAt.mono {H H':Hp} (e:Same H H') {y:Addr} {ws:List Way} (h:WaysAt H y ws):WaysAt H' y ws:=by
 obtain ⟨us,h1,h2⟩:=h
 exact ⟨us,e _ _ h1,Paired.mapP h2 fun _ _ ⟨a,u,q1,q2,q3⟩=>⟨a,u,q1,e _ _ q2,q3.mono e⟩⟩
theorem Paired.one {α β:Type} {F:α->β->Prop} {as:List α} {bs:List β} (h:Paired F as bs) {i:Nat} {a:α} (e:as[i]?=some a):∃ b,bs[i]?=some b/\F a b:=by
 have hi:i < bs.length:=by rw [<- h.length]; exact (List.getElem?_eq_some_iff.mp e).1
 exact ⟨bs[i],List.getElem?_eq_getElem hi,jbo h e (List.getElem?_eq_getElem hi)⟩
structure WayOk (S:List Stp) (t:List Nat) (wy:Way):Prop where
 ok:okAt S t wy.n wy.p
 lt:wy.n < S.length
 cs:wy.cs.length+wy.n<=S.length
section
variable {P:Program} {w:World} {K:PySem.W.Frag} {mg:Str->Option Value} {base:Heap} {D:Adr}
theorem scCA:FnScope ["steps","fits","way","ways","number","place","choices","step"] ["steps","fits","way","ways"] (jag jbV):=⟨rfl,rfl,rfl,by decide +kernel,rfl,by decide +kernel,by decide +kernel⟩
def spCA (D:Adr):Sp:=fun vs H Q _=>∃ (l f y:Addr) (wv:V) (S:List Stp) (t:List Nat) (xs:List Nat) (w0:Way) (ws:List Way),vs=[.ref l,.ref f,wv,.ref y]/\StA D H l S/\Down S/\S.length<=900/\H f=some (.lst (xs.map jbu))/\xs.length=S.length/\FitsL S t xs /\
 y≠l/\y≠f/\WayAt H w0 wv/\WayOk S t w0/\WaysAt H y ws/\(∀ x∈ws,WayOk S t x)/\ws.length<=990000 /\
 ∀ r cs ws' H',H r=none->Besides y H H'->H' r=some (.lst (cs.map V.bl))->WaysAt H' y ws'->(∀ x∈ws',WayOk S t x)->ws'.length<=ws.length+S.length->enumW S t w0++enumA S t ws=cs::enumA S t ws'->Q (.ref r) H'
theorem ok_CA (T:Txt w K mg D):FnOk P w K mg base CX0 2 D.aChoicesAlong D.dChoicesAlong ["steps","fits","way","ways"] (spCA D):=by
 have GH:FnOk P w K mg base CX0 1 D.aHasPlace D.dHasPlace ["places","place"] spHP:=jpw T
 have GI:FnOk P w K mg base CX0 1 D.aInOrder D.dInOrder ["choices"] spIO:=ok_IO T
 refine T.fChoicesAlong.ok scCA (fun vs H Q E h=>?_) (fun cdv A outer s H vs Q E hr h=>?_)
 ·obtain ⟨l,f,y,wv,S,t,xs,w0,ws,rfl,_⟩:=h; rfl
 ·obtain ⟨l,f,y,wv,S,t,xs,w0,ws,rfl,⟨sv,hl,hp⟩,hdn,hS,hf,hxl,hfit,nyl,nyf,⟨wa,cv0,rfl,hwa,hc0⟩,hw0,hws,hwsok,hwl,q⟩:=h
  refine ⟨_,jab (jan (i:=4) scCA.nd rfl (Or.inl rfl) (jap jal (pv 2) jaf (fun _ _=>rfl)))
   (jab (jan (i:=5) scCA.nd rfl (Or.inl rfl) (jap jal (pv 2) jaf (fun _ _=>rfl)))
   (jab (jan (i:=6) scCA.nd rfl (Or.inl rfl) (jap jal (pv 2) jaf (fun _ _=>rfl)))
   (jab (jco PassesOwn.never (jat jjl (pv 4) jaf (jax _))
    (jab (jan (i:=7) scCA.nd rfl (Or.inl rfl) (jap jaG (pv 0) (pv 4) (fun _ _=>rfl)))
    (jab (jje (i:=4) scCA.nd rfl (Or.inl rfl) jaf jow)
    (jae (jay (jaJ (jaj jau rfl T.zIsinstance PyProof.Rows.boot_isinstance (jaa (pv 7) (jaa (jaS (v:=.ref D.cSign) rfl T.mgSign rfl) jad))))
     (jae (jje (i:=5) scCA.nd rfl (Or.inl rfl) jaf jmh))
     (jae (jay (jaJ (jai GH hr rfl T.mHasPlace T.fHasPlace.kp T.bHasPlace .nil jam (jaa (jap jaG (pv 1) (jaw (pv 7) rfl) (fun _ _=>rfl)) (jaa (pv 5) jad))))
      (jab (jay (jaJ (jai GH hr rfl T.mHasPlace T.fHasPlace.kp T.bHasPlace .nil jam (jaa (jap jaG (pv 1) (pv 4) (fun _ _=>rfl)) (jaa (pv 5) jad))))
       (jae (jas (jbS PySem.F.plainAttrs_list PySem.F.slot_list_append PySem.F.type_list_append jaH (pv 3) (jaa (jbf (jaa (pv 4) (jaa (pv 5) (jaa (jbf (jaa jbk (jaa (pv 6) jad))) jad)))) jad)))) jaq)
      (jab (jan (i:=6) scCA.nd rfl (Or.inl rfl) (jbf (jaa jbk (jaa (pv 6) jad))))
      (jae (jan (i:=4) scCA.nd rfl (Or.inl rfl) (jaw (pv 7) rfl)))))
      (jae (jan (i:=6) scCA.nd rfl (Or.inl rfl) (jbf (jaa jbk (jaa (pv 6) jad)))))))))))
   )
   (jae (jak (jai GI hr rfl T.mInOrder T.fInOrder.kp T.bInOrder .nil jam (jaa (pv 6) jad))))))),?_⟩
  refine ⟨_,rfl,wa,_,_,_,rfl,rfl,SqT.of hwa,rfl,?_⟩
  refine ⟨_,rfl,wa,_,_,_,rfl,rfl,SqT.of hwa,rfl,?_⟩
  refine ⟨_,rfl,wa,_,_,_,rfl,rfl,SqT.of hwa,rfl,?_⟩
  obtain ⟨us0,hy0,hus0⟩:=id hws
  have hlH:∀ {H':Hp},Besides y H H'->H' l=some (.lst sv):=fun e=>e _ _ hl (Ne.symm nyl)
  have hfH:∀ {H':Hp},Besides y H H'->H' f=some (.lst (xs.map jbu)):=fun e=>e _ _ hf (Ne.symm nyf)
  have z2:(2:Nat)<=sizeLine:=Nat.le_of_lt (jaB (by decide))
  have z3:(3:Nat)<=sizeLine:=Nat.le_of_lt (jaB (by decide))
  refine while_st (fun (st:Way×List Way) σ H'=>Besides y H H'/\WayOk S t st.1/\(∃ cv o,σ=[some (.ref l),some (.ref f),some (.ref wa),some (.ref y),some (jbu st.1.n),some (jbu st.1.p),some cv,o]/\ChAt H' st.1.cs cv)/\WaysAt H' y st.2/\(∀ x∈st.2,WayOk S t x) /\
   enumW S t w0++enumA S t ws=enumW S t st.1++enumA S t st.2/\st.2.length+st.1.n<=ws.length+w0.n) (fun st=>st.1.n) (w0,ws) ⟨Besides.refl,hw0,⟨cv0,none,rfl,hc0⟩,hws,hwsok,rfl,Nat.le_refl _⟩ (fun st σ H' e=>?_)
  obtain ⟨⟨n,p,cs⟩,ws1⟩:=st
  obtain ⟨e1,⟨hok,hlt,hcs⟩,⟨cv,o,rfl,hch⟩,hws1,hwsok1,een,hwl1⟩:=e
  dsimp only at hok hlt hcs hch een hwl1
  cases n with
  | zero =>
   refine ⟨_,rfl,_,_,rfl,rfl,_,rfl,jbe (by show ¬ (0:Int) < ((0:Nat):Int); decide) ?_⟩
   refine ⟨_,rfl,cs,cv,rfl,hch,by omega,fun r H2 nr s2 hr2=>?_⟩
   rw [enum_end hok] at een
   have nr0:H r=none:=by
    cases h:H r with
    | none=>rfl
    | some o =>
     by_cases ey:r=y
     ·obtain ⟨u1,q1,_⟩:=hws1; rw [ey,q1] at nr; cases nr
     ·rw [e1 r o h ey] at nr; cases nr
   exact q r cs.reverse ws1 H2 nr0 (e1.same s2) hr2 (hws1.mono s2) hwsok1 (by have:=hw0.lt; omega) een
  | succ k =>
   have hpos:(0:Int) < ((k+1:Nat):Int):=by omega
   refine ⟨_,rfl,_,_,rfl,rfl,_,rfl,jcr hpos ⟨_,fun _ _ h=>h,?_⟩⟩
   obtain ⟨st1,es⟩:∃ st1,S[k+1]?=some st1:=⟨_,List.getElem?_eq_getElem hlt⟩
   obtain ⟨sv1,esv,hst⟩:=Paired.one hp es
   have hst':=hst.besL hy0 e1
   refine ⟨_,rfl,_,rfl,l,_,_,_,rfl,rfl,SqL.of (hlH e1),jba esv,?_⟩
   have ek:((k+1:Nat):Int) - 1=(k:Int):=by omega
   refine ⟨_,rfl,_,_,rfl,rfl,?_⟩
   have eσ:V.int (((k+1:Nat):Int) - 1)=jbu k:=congrArg V.int ek
   obtain ⟨us1,hy1,hus1⟩:=id hws1
   have hul:us1.length=ws1.length:=hus1.length.symm
   cases st1 with
   | sign sg =>
    obtain ⟨a,zz,rfl,rfl,dx,fs,ha,hfl⟩:=hst'
    obtain ⟨ok2,_⟩:=(ok_sign es).mp hok
    refine ⟨_,rfl,_,_,true,.inl ⟨_,rfl,T.isSignSign⟩,jbc T.kSign ha,_,rfl,jcc ?_⟩
    refine ⟨_,rfl,_,_,rfl,rfl,?_⟩
    rw [enum_sign es hok] at een
    refine ⟨k,Nat.lt_succ_self k,(⟨k,p+1,cs⟩,ws1),rfl,e1,⟨ok2,by dsimp only; omega,by dsimp only; omega⟩,⟨cv,some (.ref a),?_,hch⟩,hws1,hwsok1,een,by dsimp only; omega⟩
    show [_,_,_,_,some (V.int (((k+1:Nat):Int) - 1)),some (V.int ((p:Int)+1)),_,_]=_
    rw [ek]; rfl
   | choice b =>
    obtain ⟨a,rfl,dx,fs,ha,hfl⟩:=hst'
    have hb:=hdn k b es
    have hbe:=hfl ("behind",.int (b:Nat)) List.mem_cons_self
    obtain ⟨xb,exb⟩:∃ x,xs[b]?=some x:=⟨_,List.getElem?_eq_getElem (by omega)⟩
    obtain ⟨xk,exk⟩:∃ x,xs[k]?=some x:=⟨_,List.getElem?_eq_getElem (by omega)⟩
    have fb:=hfit b xb exb p
    have fk:=hfit k xk exk p
    have hpl:p<=t.length:=hok.1
    refine ⟨_,rfl,_,_,false,.inl ⟨_,rfl,T.isChoiceSign⟩,jbc T.kChoice ha,_,rfl,jbn ?_⟩
    refine ⟨_,rfl,_,rfl,a,_,dx,_,_,rfl,ha,T.kChoice.cl,T.nChoiceBehind,hbe,f,_,_,_,rfl,rfl,SqL.of (hfH e1),jba (v:=jbu xb) (by rw [List.getElem?_map,exb]; rfl),_,rfl,xb,p,rfl,_,rfl,?_⟩
    rw [enum_choice es hb] at een
    cases tb:xb.testBit p with
    | true =>
     have okb:=fb.mp tb
     refine jcc ?_
     refine ⟨_,rfl,_,rfl,f,_,_,_,rfl,rfl,SqL.of (hfH e1),?_,_,rfl,xk,p,rfl,_,rfl,?_⟩
     ·show atI _ (((k+1:Nat):Int) - 1)=some (jbu xk)
      rw [ek]
      exact jba (v:=jbu xk) (by rw [List.getElem?_map,exk]; rfl)
     cases tk:xk.testBit p with
     | true =>
      have okk:=fk.mp tk
      refine jcc ⟨_,rfl,.inl ⟨rfl,_,SqL.of hy1⟩,_,rfl,_,rfl,_,rfl,z2,fun T1 nT1=>⟨z3,fun T2 nT2=>?_⟩⟩
      have g1:=jah nT1 (.tup [.bl true,cv])
      have g2:=g1.trans (jah nT2 (.tup [.int (((k+1:Nat):Int) - 1),jbu p,.ref T1]))
      have hy2:=g2 _ _ hy1
      refine ⟨y,_,_,rfl,rfl,hy2,jkB (by have:=hw0.lt; omega),?_⟩
      have b2:Besides y H' _:=(Besides.of g2).upd (.lst (us1++[.ref T2]))
      have nT2y:T2≠y:=fun z=>by rw [z] at nT2; rw [g1 _ _ hy1] at nT2; cases nT2
      have nT1y:T1≠y:=fun z=>by rw [z] at nT1; rw [hy1] at nT1; cases nT1
      have hT1:=(Besides.of (x:=y) (jah nT2 (.tup [.int (((k+1:Nat):Int) - 1),jbu p,.ref T1]))).upd (.lst (us1++[.ref T2])) T1 _ jac nT1y
      have hT2:(L2.upd (L2.upd (L2.upd H' T1 (.tup [.bl true,cv])) T2 (.tup [.int (((k+1:Nat):Int) - 1),jbu p,.ref T1])) y (.lst (us1++[.ref T2]))) T2=some (.tup [jbu k,jbu p,.ref T1]):=by
       rw [jao nT2y,jac,eσ]
      have hyn:(L2.upd (L2.upd (L2.upd H' T1 (.tup [.bl true,cv])) T2 (.tup [.int (((k+1:Nat):Int) - 1),jbu p,.ref T1])) y (.lst (us1++[.ref T2]))) y=some (.lst (us1++[.ref T2])):=jac
      generalize L2.upd (L2.upd (L2.upd H' T1 (.tup [.bl true,cv])) T2 (.tup [.int (((k+1:Nat):Int) - 1),jbu p,.ref T1])) y (.lst (us1++[.ref T2]))=H4 at b2 hT1 hT2 hyn ⊢
      have ha4:=b2 _ _ ha (jbw ha hy1 (by intro z; cases z))
      have ch4:=hch.besL hy1 b2
      refine ⟨_,rfl,z2,fun T3 nT3=>?_⟩
      have g3:=jah nT3 (.tup [.bl false,cv])
      refine ⟨_,rfl,a,_,dx,_,_,rfl,g3 _ _ ha4,T.kChoice.cl,T.nChoiceBehind,hbe,?_⟩
      refine ⟨b,by show b < k+1; omega,(⟨b,p,false::cs⟩,ws1++[⟨k,p,true::cs⟩]),rfl,(e1.trans b2).same g3,⟨okb,by dsimp only; omega,by simp; omega⟩,⟨.ref T3,_,rfl,T3,cv,rfl,jac,ch4.mono g3⟩,?_,?_,?_,?_⟩
      ·refine WaysAt.mono g3 ⟨_,hyn,Paired.snoc (Paired.mapP hus1 fun _ _ z=>z.besL hy1 b2) ⟨T2,.ref T1,rfl,hT2,T1,cv,rfl,hT1,ch4⟩⟩
      ·intro x hx
       rcases List.mem_append.mp hx with hx | hx
       ·exact hwsok1 x hx
       ·obtain rfl:x=⟨k,p,true::cs⟩:=by simpa using hx
        exact ⟨okk,by dsimp only; omega,by simp; omega⟩
      ·dsimp only; rw [enumA_snoc,een,List.append_assoc]
      ·simp; omega
     | false =>
      have okk:¬ okAt S t k p:=fun z=>by rw [fk.mpr z] at tk; cases tk
      refine jbn ⟨_,rfl,z2,fun T3 nT3=>?_⟩
      have g3:=jah nT3 (.tup [.bl false,cv])
      refine ⟨_,rfl,a,_,dx,_,_,rfl,g3 _ _ ha,T.kChoice.cl,T.nChoiceBehind,hbe,?_⟩
      refine ⟨b,by show b < k+1; omega,(⟨b,p,false::cs⟩,ws1),rfl,e1.same g3,⟨okb,by dsimp only; omega,by simp; omega⟩,⟨.ref T3,_,rfl,T3,cv,rfl,jac,hch.mono g3⟩,hws1.mono g3,hwsok1,?_,?_⟩
      ·dsimp only; rw [een,enum_no (k:=k) (cs:=true::cs) hpl okk,List.append_nil]
      ·dsimp only; omega
    | false =>
     have okb:¬ okAt S t b p:=fun z=>by rw [fb.mpr z] at tb; cases tb
     have okk:okAt S t k p:=((ok_choice es hb).mp hok).resolve_left okb
     refine jbn ⟨_,rfl,z2,fun T3 nT3=>?_⟩
     have g3:=jah nT3 (.tup [.bl true,cv])
     refine ⟨k,Nat.lt_succ_self k,(⟨k,p,true::cs⟩,ws1),rfl,e1.same g3,⟨okk,by dsimp only; omega,by simp; omega⟩,⟨.ref T3,some (.ref a),?_,T3,cv,rfl,jac,hch.mono g3⟩,hws1.mono g3,hwsok1,?_,?_⟩
     ·show [_,_,_,_,some (V.int (((k+1:Nat):Int) - 1)),_,_,_]=_
      rw [ek]
     ·dsimp only; rw [een,enum_no (k:=b) (cs:=false::cs) hpl okb,List.nil_append]
     ·dsimp only; omega
end
open Mth (Stp okAt Down paths Way enumW enumA enum_no enumA_snoc enumA_nil)
def CsAt (H:Hp) (cs:List Bool) (v:V):Prop:=∃ a,v=.ref a/\H a=some (.lst (cs.map V.bl))
theorem jic {S:List Stp} {t:List Nat} {n:Nat}:enumW S t ⟨n,0,[]⟩=paths S n t:=by
 unfold enumW
 rw [List.drop_zero]
 show (paths S n t).map (fun x=>x)=_
 rw [List.map_id']
theorem jkC {α:Type} {l:List α} (h:l≠[]):∃ a i,l=i++[a]:=⟨l.getLast h,l.dropLast,(List.dropLast_concat_getLast h).symm⟩
theorem Paired.last {α β:Type} {F:α->β->Prop}:∀ {as:List α} {bs:List β} {a:α},Paired F (as++[a]) bs->∃ bs' b,bs=bs'++[b]/\Paired F as bs'/\F a b
 | [],_,_,.cons h .nil=>⟨[],_,rfl,.nil,h⟩
 | _::_,_,_,.cons h t=>by
  obtain ⟨bs',b,e,h1,h2⟩:=Paired.last t
  exact ⟨_::bs',b,by rw [e]; rfl,.cons h h1,h2⟩
section
variable {P:Program} {w:World} {K:PySem.W.Frag} {mg:Str->Option Value} {base:Heap} {D:Adr}
theorem scFC:FnScope ["steps","fits","most","found","ways"] ["steps","fits","most"] (jag jbU):=⟨rfl,rfl,rfl,by decide +kernel,rfl,by decide +kernel,by decide +kernel⟩
def spFC (D:Adr):Sp:=fun vs H Q _=>∃ (l f:Addr) (most:Nat) (S:List Stp) (t:List Nat) (xs:List Nat),vs=[.ref l,.ref f,.int (most:Int)]/\StA D H l S/\Down S/\1<=S.length/\S.length<=900/\H f=some (.lst (xs.map jbu))/\xs.length=S.length/\FitsL S t xs/\most<=1000 /\
 ∀ r fv H',H r=none->Same H H'->H' r=some (.lst fv)->Paired (CsAt H') ((paths S (S.length - 1) t).take most) fv->Q (.ref r) H'
theorem ok_FC (T:Txt w K mg D):FnOk P w K mg base CX0 3 D.aFirstChoices D.dFirstChoices ["steps","fits","most"] (spFC D):=by
 have GH:FnOk P w K mg base CX0 1 D.aHasPlace D.dHasPlace ["places","place"] spHP:=jpw T
 have GC:FnOk P w K mg base CX0 2 D.aChoicesAlong D.dChoicesAlong ["steps","fits","way","ways"] (spCA D):=ok_CA T
 refine T.fFirstChoices.ok scFC (fun vs H Q E h=>?_) (fun cdv A outer s H vs Q E hr h=>?_)
 ·obtain ⟨l,f,most,S,t,xs,rfl,_⟩:=h; rfl
 ·obtain ⟨l,f,most,S,t,xs,rfl,hst,hdn,h1,hS,hf,hxl,hfit,hm,q⟩:=h
  have hr1:Room 1 _:=hr.mono (by decide)
  refine ⟨_,jab (jan (i:=3) scFC.nd rfl (Or.inl rfl) (jbj jad))
   (jab (jan (i:=4) scFC.nd rfl (Or.inl rfl) (jbj jad))
   (jab (jay (jaJ (jai GH hr1 rfl T.mHasPlace T.fHasPlace.kp T.bHasPlace .nil jam (jaa (jap jaG (pv 1) (jfQ jdr jaf) (fun _ _=>rfl)) (jaa jaf jad))))
    (jae (jas (jbS PySem.F.plainAttrs_list PySem.F.slot_list_append PySem.F.type_list_append jaH (pv 4) (jaa (jbf (jaa (jar jbr (jaj jav rfl T.zLen PySem.boot_len (jaa (pv 0) jad)) jaf) (jaa jaf (jaa jja jad)))) jad)))) jaq)
   (jab (jco PassesOwn.never (PW.pt (jjc (jfd (pv 4) (fun _=>rfl)) (jgL (jat jiu (jaj jav rfl T.zLen PySem.boot_len (jaa (pv 3) jad)) (pv 2) (jax _)))))
    (jae (jas (jbS PySem.F.plainAttrs_list PySem.F.slot_list_append PySem.F.type_list_append jaH (pv 3) (jaa (jai GC hr rfl T.mChoicesAlong T.fChoicesAlong.kp T.bChoicesAlong .nil jam (jaa (pv 0) (jaa (pv 1) (jaa (jfX PySem.F.plainAttrs_list PySem.F.slot_list_pop PySem.F.type_list_pop jms (pv 4)) (jaa (pv 4) jad))))) jad)))))
   (jae (jak (pv 3)))))),?_⟩
  refine ⟨Nat.zero_le _,fun r nr=>⟨Nat.zero_le _,fun y ny=>?_⟩⟩
  have g1:=jah nr (.lst [])
  have g2:=g1.trans (jah ny (.lst []))
  have ny0:H y=none:=g1.free ny
  have nry:r≠y:=fun z=>by rw [<- z,jac] at ny; cases ny
  have hr2:(L2.upd (L2.upd H r (.lst [])) y (.lst [])) r=some (.lst []):=by rw [jao nry]; exact jac
  have hy2:(L2.upd (L2.upd H r (.lst [])) y (.lst [])) y=some (.lst []):=jac
  generalize L2.upd (L2.upd H r (.lst [])) y (.lst [])=H2 at *
  obtain ⟨xl,exl⟩:∃ x,xs[S.length - 1]?=some x:=⟨_,List.getElem?_eq_getElem (by omega)⟩
  have fl:=hfit _ xl exl 0
  obtain ⟨sv,hl,hp⟩:=id hst
  have hyl:y≠l:=fun z=>by rw [z,hl] at ny0; cases ny0
  have hyf:y≠f:=fun z=>by rw [z,hf] at ny0; cases ny0
  have loop:∀ H3 ws0,Same H H3->H3 r=some (.lst [])->WaysAt H3 y ws0->(∀ x∈ws0,WayOk S t x)->ws0.length<=1->enumA S t ws0=paths S (S.length - 1) t ->
    jhy (tAnd (fun σ H Q=>jbA 4 σ H fun x H'=>∃ k,TruV K x H' k/\Q k H') (jjn (tOp (rI0 fun i j=>.bl (decide (i < j))) (tCB (fun xs H Q=>∃ p ys,xs=[V.ref p]/\(SqL K H p ys\/SqT K H p ys)/\Q (.int (ys.length:Int)) H) (jaZ (jbA 3) jeM)) (jbA 2))))
     (jln (tBM K "list" jfj (jbA 3) (jaZ (jeE (spCA D) [] E0 (jaZ (jbA 0) (jaZ (jbA 1) (jaZ (tBM0 K "list" rPop (jbA 4)) (jaZ (jbA 4) jeM))))) jeM)))
     {nx:=tRet (jbA 3) {nx:=fun _ H'=>Q .non H',rt:=Q},rt:=Q} [some (.ref l),some (.ref f),some (.int (most:Int)),some (.ref r),some (.ref y)] H3:=by
   intro H3 ws0 s3 hr3 hw3 hok3 hl3 en3
   refine while_st (fun (st:List (List Bool)×List Way) σ H'=>σ=[some (.ref l),some (.ref f),some (.int (most:Int)),some (.ref r),some (.ref y)]/\Same H H'/\(∃ fv,H' r=some (.lst fv)/\Paired (fun cs v=>∃ a,v=.ref a/\a≠y/\a≠r/\H' a=some (.lst (cs.map V.bl))) st.1 fv)/\WaysAt H' y st.2/\(∀ x∈st.2,WayOk S t x) /\
    st.1++enumA S t st.2=paths S (S.length - 1) t/\st.1.length<=most/\st.2.length<=1+st.1.length * 900) (fun st=>most - st.1.length) ([],ws0) ⟨rfl,s3,⟨[],hr3,.nil⟩,hw3,hok3,en3,Nat.zero_le _,by dsimp only; omega⟩ (fun st σ H' e=>?_)
   obtain ⟨dn,ws⟩:=st
   obtain ⟨rfl,s',⟨fv,hfv,hpf⟩,⟨us,hy,hus⟩,hok,en,hdl,hwl⟩:=e
   dsimp only at hpf hus hok en hdl hwl
   have fin:(paths S (S.length - 1) t).take most=dn->Q (.ref r) H':=fun e=>q r fv H' nr s' hfv (by rw [e]; exact Paired.mapP hpf fun _ _ ⟨a,h1,_,_,h4⟩=>⟨a,h1,h4⟩)
   refine ⟨_,rfl,!us.isEmpty,.inl ⟨us,SqL.of hy,rfl⟩,?_⟩
   by_cases hw:ws=[]
   ·subst hw
    cases hus
    refine jbn (jbn ⟨_,rfl,fin ?_⟩)
    rw [<- en,enumA_nil,List.append_nil,List.take_of_length_le hdl]
   ·obtain ⟨w1,ws1,rfl⟩:=jkC hw
    obtain ⟨us1,u1,rfl,hus1,hu1⟩:=Paired.last hus
    have hne:(!(us1++[u1]).isEmpty)=true:=by simp
    rw [hne]
    refine jcc ⟨_,rfl,r,_,rfl,.inl (SqL.of hfv),_,rfl,_,_,rfl,rfl,_,rfl,?_⟩
    have hfl:fv.length=dn.length:=hpf.length.symm
    by_cases hlt:dn.length < most
    ·have hlt':(fv.length:Int) < (most:Int):=by omega
     refine (jcr (c:=(fv.length:Int) < (most:Int)) hlt' ⟨_,fun _ _ h=>h,?_⟩)
     have hbd:dn.length * 900<=900000:=Nat.le_trans (Nat.mul_le_mul_right 900 (Nat.le_trans hdl hm)) (by decide)
     have wl1:ws1.length<=dn.length * 900:=by rw [List.length_append,List.length_singleton] at hwl; omega
     refine ⟨_,rfl,.inl ⟨rfl,_,SqL.of hfv⟩,_,rfl,_,rfl,_,rfl,.inl ⟨rfl,_,SqL.of hy⟩,y,_,u1,rfl,rfl,hy,by simp,_,rfl,?_⟩
     rw [List.dropLast_concat]
     have b1:Besides y H' (L2.upd H' y (.lst us1)):=Besides.refl.upd _
     have sH1:Same H (L2.upd H' y (.lst us1)):=jaK s' ny0 b1
     have hr':=b1 _ _ hfv nry
     refine ⟨l,f,y,u1,S,t,xs,w1,ws1,rfl,hst.mono sH1,hdn,hS,sH1 _ _ hf,hxl,hfit,hyl,hyf,hu1.besL hy b1,hok w1 (List.mem_append_right _ List.mem_cons_self),⟨us1,jac,Paired.mapP hus1 fun _ _ z=>z.besL hy b1⟩,fun x hx=>hok x (List.mem_append_left _ hx),by omega,fun r2 cs ws2 H4 nr2 b4 hr4 hw4 hok4 hl4 en4=>?_⟩
     have b5:=b1.trans b4
     have hr5:=b5 _ _ hfv nry
     have nr2r:r2≠r:=fun z=>by rw [z,hr'] at nr2; cases nr2
     have nr2y:r2≠y:=fun z=>by rw [z,jac] at nr2; cases nr2
     have f1000:fv.length<=1000:=by omega
     refine ⟨r,_,_,rfl,rfl,hr5,jaB (by omega),?_⟩
     have br:Besides r H4 (L2.upd H4 r (.lst (fv++[.ref r2]))):=Besides.refl.upd _
     have sN:Same H (L2.upd H4 r (.lst (fv++[.ref r2]))):=jaK (jaK s' ny0 b5) nr br
     refine ⟨_,(show most - (dn++[cs]).length < most - dn.length by rw [List.length_append,List.length_singleton]; omega),(dn++[cs],ws2),rfl,rfl,sN,⟨_,jac,Paired.snoc (Paired.mapP hpf fun _ _ ⟨a,h1,h2,h3,h4⟩=>⟨a,h1,h2,h3,br _ _ (b5 _ _ h4 h2) h3⟩) ⟨r2,rfl,nr2y,nr2r,br _ _ hr4 nr2r⟩⟩,?_,hok4,?_,?_,?_⟩
     ·obtain ⟨us4,hy4,hus4⟩:=hw4
      exact ⟨us4,br _ _ hy4 (Ne.symm nry),Paired.mapP hus4 fun _ _ z=>z.besL hr5 br⟩
     ·dsimp only
      rw [<- en,enumA_snoc,en4,List.append_assoc]; rfl
     ·dsimp only; rw [List.length_append,List.length_singleton]; omega
     ·dsimp only; rw [List.length_append,List.length_singleton]; omega
    ·have hlt':¬ (fv.length:Int) < (most:Int):=by omega
     have em:most=dn.length:=by omega
     refine (jbe (c:=(fv.length:Int) < (most:Int)) hlt' ⟨_,rfl,fin ?_⟩)
     rw [<- en,em,List.take_left']; rfl
  refine ⟨_,rfl,_,rfl,f,_,_,_,rfl,rfl,SqL.of (g2 _ _ hf),jkA (n:=S.length - 1) (v:=jbu xl) (by rw [List.length_map]; omega) (by rw [List.getElem?_map,exl]; rfl),xl,0,rfl,_,rfl,?_⟩
  cases tb:xl.testBit 0 with
  | true =>
   have ok0:=fl.mp tb
   refine jcc ⟨_,rfl,.inl ⟨rfl,_,SqL.of hy2⟩,_,rfl,l,sv,rfl,.inl (SqL.of (g2 _ _ hl)),_,_,rfl,rfl,Nat.le_of_lt (jaB (by show 3<=100000; decide)),fun U nU=>?_⟩
   have g3:=jah nU (.tup [.int ((sv.length:Int) - 1),.int 0,.non])
   refine ⟨y,_,_,rfl,rfl,g3 _ _ hy2,jaB (by show 0<=100000; decide),?_⟩
   have eU:V.int ((sv.length:Int) - 1)=jbu (S.length - 1):=congrArg V.int (by rw [<- hp.length]; omega)
   have nUy:U≠y:=fun z=>by rw [z,hy2] at nU; cases nU
   refine loop _ [⟨S.length - 1,0,[]⟩] (jaK (g2.trans g3) ny0 (Besides.refl.upd _)) (by rw [jao nry]; exact g3 _ _ hr2) ⟨_,jac,.cons ⟨U,.non,rfl,?_,rfl⟩ .nil⟩ (fun x hx=>?_) (Nat.le_refl _) ?_
   ·rw [jao nUy,jac]
    exact congrArg (fun x=>some (HO.tup [x,V.int 0,V.non])) eU
   ·obtain rfl:x=⟨S.length - 1,0,[]⟩:=by simpa using hx
    exact ⟨ok0,by dsimp only; omega,by simp⟩
   ·show enumA S t ([]++[_])=_
    rw [enumA_snoc,enumA_nil,List.append_nil,jic]
  | false =>
   have ok0:¬ okAt S t (S.length - 1) 0:=fun z=>by rw [fl.mpr z] at tb; cases tb
   refine jbn (loop _ [] g2 hr2 ⟨[],hy2,.nil⟩ (fun x hx=>nomatch hx) (Nat.zero_le _) ?_)
   rw [enumA_nil,<- jic,enum_no (Nat.zero_le _) ok0]
end
open Mth (cAsk)
def jbH (z:Str) (c:Addr) (u p:Nat):List (Str×V):=[("text",.str z),("choices",.ref c),("used",.int (u:Int)),("place",.int (p:Int))]
theorem jkD {z:Str} {c:Addr} {u p u':Nat}:jaM "used" (.int (u':Int)) (jbH z c u p)=jbH z c u' p:=by
 unfold jbH
 rw [jaM,if_neg (by decide +kernel),jaM,if_neg (by decide +kernel),jaM,if_pos rfl]
theorem jcw {z:Str} {c:Addr} {u p p':Nat}:jaM "place" (.int (p':Int)) (jbH z c u p)=jbH z c u p':=by
 unfold jbH
 rw [jaM,if_neg (by decide +kernel),jaM,if_neg (by decide +kernel),jaM,if_neg (by decide +kernel),jaM,if_pos rfl]
theorem lkH {f:Str} {v:V} {r:List (Str×V)}:List.lookup f ((f,v)::r)=some v:=by simp [List.lookup]
theorem lkT {f g:Str} {v:V} {r:List (Str×V)} {o:Option V} (h:f≠g) (e:List.lookup f r=o):List.lookup f ((g,v)::r)=o:=by
 rw [List.lookup_cons,beq_eq_false_iff_ne.mpr h]; exact e
theorem jmS {z:Str} {c:Addr} {u p:Nat}:(jbH z c u p).lookup ("text":Str)=some (.str z):=lkH
theorem jpz {z:Str} {c:Addr} {u p:Nat}:(jbH z c u p).lookup ("choices":Str)=some (.ref c):=lkT (by decide +kernel) lkH
theorem jmT {z:Str} {c:Addr} {u p:Nat}:(jbH z c u p).lookup ("used":Str)=some (.int (u:Int)):=lkT (by decide +kernel) (lkT (by decide +kernel) lkH)
theorem jdw {z:Str} {c:Addr} {u p:Nat}:(jbH z c u p).lookup ("place":Str)=some (.int (p:Int)):=lkT (by decide +kernel) (lkT (by decide +kernel) (lkT (by decide +kernel) lkH))
theorem jdo {z:Str} {c:Addr} {u p:Nat} {m:Str} (h1:m≠"text") (h2:m≠"choices") (h3:m≠"used") (h4:m≠"place"):(jbH z c u p).lookup m=none:=lkT h1 (lkT h2 (lkT h3 (lkT h4 rfl)))
theorem jcS {z:Str} {c:Addr} {u p:Nat}:(jbH z c u p).length < 1000:=by show 4 < 1000; decide
section
variable {P:Program} {w:World} {K:PySem.W.Frag} {mg:Str->Option Value} {base:Heap} {D:Adr}
theorem scTI:FnScope ["self","text","choices"] ["self","text","choices"] (jag jfv):=⟨rfl,rfl,rfl,by decide +kernel,rfl,by decide +kernel,by decide +kernel⟩
def spTI (D:Adr):Sp:=fun vs H Q _=>∃ (x dx c:Addr) (z:Str),vs=[.ref x,.str z,.ref c]/\H x=some (.ins D.cTeller dx [])/\∀ H',Besides x H H'->H' x=some (.ins D.cTeller dx (jbH z c 0 0))->Q .non H'
theorem jnX {z:Str} {c:Addr}:jaM "place" (.int 0) (jaM "used" (.int 0) (jaM "choices" (.ref c) (jaM "text" (.str z) [])))=jbH z c 0 0:=by
 rw [jaM,jaM,if_neg (by decide +kernel),jaM,jaM,if_neg (by decide +kernel),jaM,if_neg (by decide +kernel),jaM]
 rw [jaM,if_neg (by decide +kernel),jaM,if_neg (by decide +kernel),jaM,if_neg (by decide +kernel),jaM]
 rfl
theorem ok_TI (T:Txt w K mg D):FnOk P w K mg base CX0 1 D.aTellerI D.dTellerI ["self","text","choices"] (spTI D):=by
 refine T.fTellerI.ok scTI (fun vs H Q E h=>?_) (fun cdv A outer s H vs Q E hr h=>?_)
 ·obtain ⟨x,dx,c,z,rfl,_⟩:=h; rfl
 ·obtain ⟨x,dx,c,z,rfl,hx,q⟩:=h
  refine ⟨_,jab (jbi (pv 0) (pv 1) rfl) (jab (jbi (pv 0) (pv 2) rfl) (jab (jbi (pv 0) jaf rfl) (jae (jbi (pv 0) jaf rfl)))),?_⟩
  refine ⟨_,rfl,_,rfl,x,_,dx,_,rfl,hx,T.kTeller.cl,T.nTellerText,(by show 0 < 1000; decide),?_⟩
  refine ⟨_,rfl,_,rfl,x,_,dx,_,rfl,jac,T.kTeller.cl,T.nTellerChoices,Nat.lt_of_le_of_lt (jaI _ _ _ (k:=0) (Nat.le_refl _)) (by decide),?_⟩
  refine ⟨_,rfl,x,_,dx,_,rfl,jac,T.kTeller.cl,T.nTellerUsed,Nat.lt_of_le_of_lt (jaI _ _ _ (jaI _ _ _ (k:=0) (Nat.le_refl _))) (by decide),?_⟩
  refine ⟨_,rfl,x,_,dx,_,rfl,jac,T.kTeller.cl,T.nTellerPlace,Nat.lt_of_le_of_lt (jaI _ _ _ (jaI _ _ _ (jaI _ _ _ (k:=0) (Nat.le_refl _)))) (by decide),?_⟩
  refine q _ ((((Besides.refl.upd _).upd _).upd _).upd _) ?_
  rw [jac,jnX]
theorem scGO:FnScope ["self","part","number"] ["self","part","number"] (jag jbZ):=⟨rfl,rfl,rfl,by decide +kernel,rfl,by decide +kernel,by decide +kernel⟩
structure TelOk (Hb H:Hp) (x c:Addr) (bs:List Bool):Prop where
 same:Same Hb H
 new:Hb x=none
 cs:Hb c=some (.lst (bs.map V.bl))
theorem TelOk.bes {Hb H H':Hp} {x c:Addr} {bs:List Bool} (h:TelOk Hb H x c bs) (e:Besides x H H'):TelOk Hb H' x c bs:=⟨jaK h.same h.new e,h.new,h.cs⟩
def spGO (K:PySem.W.Frag) (D:Adr):Sp:=fun vs H Q _=>∃ (Hb:Hp) (x dx c a C:Addr) (z:Str) (u p k:Nat) (lo hi:Int) (bs:List Bool),vs=[.ref x,.ref a,.int (k:Int)]/\TelOk Hb H x c bs/\H x=some (.ins D.cTeller dx (jbH z c u p))/\HasB K C/\Fld Hb a C [("least",.int lo),("most",.int hi)] /\
 ((k:Int) < lo->Q (.bl true) H)/\(lo<=(k:Int)->(k:Int)=hi->Q (.bl false) H)/\(lo<=(k:Int)->(k:Int)≠hi->∃ b,bs[u]?=some b/\Q (.bl b) (L2.upd H x (.ins D.cTeller dx (jbH z c (u+1) p))))
theorem jpA (T:Txt w K mg D):FnOk P w K mg base CX0 1 D.aTellerGoesOn D.dTellerGoesOn ["self","part","number"] (spGO K D):=by
 refine T.fTellerGoesOn.ok scGO (fun vs H Q E h=>?_) (fun cdv A outer s H vs Q E hr h=>?_)
 ·obtain ⟨Hb,x,dx,c,a,C,z,u,p,k,lo,hi,bs,rfl,_⟩:=h; rfl
 ·obtain ⟨Hb,x,dx,c,a,C,z,u,p,k,lo,hi,bs,rfl,⟨sb,nb,hc⟩,hx,B,⟨da,fs,ha,hf⟩,q1,q2,q3⟩:=h
  have el:=hf ("least",.int lo) List.mem_cons_self
  have em:=hf ("most",.int hi) (List.mem_cons_of_mem _ List.mem_cons_self)
  refine ⟨_,jab (jay (jat jiu (pv 2) (jaw (pv 1) rfl) (jax _)) (jae (jak jbk)) jaq)
   (jab (jay (jat jbR (pv 2) (jaw (pv 1) rfl) (jax _)) (jae (jak jbk)) jaq)
   (jab (jcI (pv 0) jaf jhC)
   (jae (jak (jap jaG (jaw (pv 0) rfl) (jar jbr (jaw (pv 0) rfl) jaf) (fun _ _=>rfl)))))),?_⟩
  refine ⟨_,rfl,_,rfl,a,_,da,_,_,rfl,sb _ _ ha,B.cl,B.l,el,_,_,rfl,rfl,_,rfl,?_⟩
  by_cases h1:(k:Int) < lo
  ·exact jcr h1 (q1 h1)
  ·refine jbe h1 ⟨_,rfl,_,rfl,a,_,da,_,_,rfl,sb _ _ ha,B.cl,B.m,em,rfl,_,rfl,?_⟩
   by_cases h2:(k:Int)=hi
   ·exact jcr (congrArg V.int h2) (q2 (by omega) h2)
   ·obtain ⟨b,eb,q⟩:=q3 (by omega) h2
    refine jbe (fun z=>h2 (V.int.inj z)) ?_
    refine ⟨_,rfl,x,_,dx,_,_,rfl,hx,T.kTeller.cl,T.nTellerUsed,jmT,_,_,rfl,rfl,dx,_,hx,jcS,?_⟩
    have e1:jaM "used" (.int ((u:Int)+1)) (jbH z c u p)=jbH z c (u+1) p:=jkD
    rw [e1]
    have hcx:c≠x:=ne_of_none hc nb
    have hc1:(L2.upd H x (.ins D.cTeller dx (jbH z c (u+1) p))) c=some (.lst (bs.map V.bl)):=by rw [jao hcx]; exact sb _ _ hc
    refine ⟨_,rfl,x,_,dx,_,_,rfl,jac,T.kTeller.cl,T.nTellerChoices,jpz,_,rfl,x,_,dx,_,_,rfl,jac,T.kTeller.cl,T.nTellerUsed,jmT,_,_,rfl,rfl,c,_,_,_,rfl,rfl,SqL.of hc1,?_,q⟩
    rw [show (((u+1:Nat):Int) - 1)=(u:Int) by omega]
    exact jba (by rw [List.getElem?_map,eb]; rfl)
theorem scFO:FnScope ["self","ask","length"] ["self","ask"] (jag jbO):=⟨rfl,rfl,rfl,by decide +kernel,rfl,by decide +kernel,by decide +kernel⟩
def spFO (K:PySem.W.Frag) (D:Adr):Sp:=fun vs H Q _=>∃ (Hb:Hp) (x dx c a:Addr) (z:Str) (u p n:Nat) (nm sg:Str) (lo hi:Int) (bs rest:List Bool),vs=[.ref x,.ref a]/\TelOk Hb H x c bs/\H x=some (.ins D.cTeller dx (jbH z c u p))/\(Pc.ask nm sg lo hi).Obj D.cl Hb (.ref a)/\0<=lo/\lo<=(n:Int)/\(n:Int)<=hi /\
 bs.drop u=cAsk lo.toNat hi.toNat 0 n++rest/\p+n<=z.length/\z.length<=90000 /\
 ∀ H',Besides x H H'->H' x=some (.ins D.cTeller dx (jbH z c (u+(cAsk lo.toNat hi.toNat 0 n).length) (p+n)))->Q (.str ⟨(((tl z).drop p).take n).toArray⟩) H'
theorem jid {lo m k:Nat} (h:lo<=k):cAsk lo m k 0=if m=0 then [] else [false]:=by
 cases m with
 | zero=>rfl
 | succ m=>rw [cAsk,if_pos h,if_neg (by omega)]
theorem jkE {lo m k n:Nat}:cAsk lo (m+1) k (n+1)=(if lo<=k then [true] else [])++cAsk lo m (k+1) n:=by
 rw [cAsk]; split <;> rfl
theorem jcT {bs r:List Bool} {u:Nat} {b:Bool} (h:bs.drop u=b::r):bs[u]?=some b/\bs.drop (u+1)=r:=by
 have e:bs[u]?=some b:=by
  have:=List.getElem?_drop (xs:=bs) (i:=u) (j:=0)
  rw [h] at this; simpa using this.symm
 refine ⟨e,?_⟩
 have:bs.drop (u+1)=(bs.drop u).drop 1:=by rw [List.drop_drop]
 rw [this,h]; rfl
theorem ok_FO (T:Txt w K mg D):FnOk P w K mg base CX0 2 D.aTellerFieldOf D.dTellerFieldOf ["self","ask"] (spFO K D):=by
 have G:FnOk P w K mg base CX0 1 D.aTellerGoesOn D.dTellerGoesOn ["self","part","number"] (spGO K D):=jpA T
 refine T.fTellerFieldOf.ok scFO (fun vs H Q E h=>?_) (fun cdv A outer s H vs Q E hr h=>?_)
 ·obtain ⟨Hb,x,dx,c,a,z,u,p,n,nm,sg,lo,hi,bs,rest,rfl,_⟩:=h; rfl
 ·obtain ⟨Hb,x,dx,c,a,z,u,p,n,nm,sg,lo,hi,bs,rest,rfl,tk,hx,⟨a',ea,hfl⟩,b0,b1,b2,hbs,hpn,hz,q⟩:=h
  obtain rfl:a=a':=by cases ea; rfl
  have hB:HasB K D.cAsk:=⟨T.kAsk.cl,T.nAskLeast,T.nAskMost⟩
  have hfl':Fld Hb a D.cAsk [("least",.int lo),("most",.int hi)]:=Fld.sub hfl (jce (List.mem_cons_of_mem _ (List.mem_cons_of_mem _ List.mem_cons_self)) (jce (List.mem_cons_of_mem _ (List.mem_cons_of_mem _ (List.mem_cons_of_mem _ List.mem_cons_self))) jep))
  refine ⟨_,jab (jan (i:=2) scFO.nd rfl (Or.inl rfl) jaf)
   (jab (jco PassesOwn.never (jaJ (jda (pv 0) T.kTeller.cl T.meTellerGoesOn G hr T.bTellerGoesOn .nil jam (jaa (pv 1) (jaa (pv 2) jad)))) (jae (jje (i:=2) scFO.nd rfl (Or.inl rfl) jaf jmh)))
   (jab (jcI (pv 0) (pv 2) jhC)
   (jae (jak (jcK jpe (jaw (pv 0) rfl) (jdb (jar jbr (jaw (pv 0) rfl) (pv 2))) (jdb (jaw (pv 0) rfl))))))),?_⟩
  refine while_st (fun (st:Nat×Nat) σ H'=>σ=[some (.ref x),some (.ref a),some (.int (st.1:Int))]/\Besides x H H'/\H' x=some (.ins D.cTeller dx (jbH z c st.2 p))/\st.1<=n/\bs.drop st.2=cAsk lo.toNat (hi.toNat - st.1) st.1 (n - st.1)++rest/\st.2+(cAsk lo.toNat (hi.toNat - st.1) st.1 (n - st.1)).length=u+(cAsk lo.toNat hi.toNat 0 n).length)
   (fun st=>n - st.1) (0,u) ⟨rfl,Besides.refl,hx,Nat.zero_le _,hbs,rfl⟩ (fun st σ H' e=>?_)
  obtain ⟨j,v⟩:=st
  obtain ⟨rfl,e1,hx1,hj,hbs1,hlen⟩:=e
  dsimp only at hx1 hj hbs1 hlen
  have noG:(jbH z c v p).lookup ("goes_on":Str)=none:=jdo (by decide +kernel) (by decide +kernel) (by decide +kernel) (by decide +kernel)
  refine ⟨_,rfl,x,dx,_,rfl,hx1,noG,_,rfl,_,rfl,Hb,x,dx,c,a,D.cAsk,z,v,p,j,lo,hi,bs,rfl,tk.bes e1,hx1,hB,hfl',fun h=>?_,fun h1 h2=>?_,fun h1 h2=>?_⟩
  ·have jn:j < n:=by omega
   refine ⟨_,rfl,jcc ⟨_,fun _ _ h=>h,?_⟩⟩
   refine ⟨_,rfl,_,_,rfl,rfl,?_⟩
   have em:hi.toNat - j=(hi.toNat - (j+1))+1:=by omega
   have en:n - j=(n - (j+1))+1:=by omega
   rw [em,en,jkE,if_neg (by omega),List.nil_append] at hbs1 hlen
   exact ⟨n - (j+1),by show n - (j+1) < n - j; omega,(j+1,v),rfl,rfl,e1,hx1,jn,hbs1,hlen⟩
  ·have jn:j=n:=by omega
   subst jn
   rw [show j - j=0 by omega,jid (by omega),if_pos (by omega),List.length_nil] at hlen
   refine ⟨_,rfl,jbn ?_⟩
   refine ⟨_,rfl,x,_,dx,_,_,rfl,hx1,T.kTeller.cl,T.nTellerPlace,jdw,_,rfl,_,_,rfl,rfl,dx,_,hx1,jcS,?_⟩
   have e2:jaM "place" (.int ((p:Int)+(j:Int))) (jbH z c v p)=jbH z c v (p+j):=jcw
   rw [e2]
   refine ⟨_,rfl,x,_,dx,_,_,rfl,jac,T.kTeller.cl,T.nTellerText,jmS,_,rfl,x,_,dx,_,_,rfl,jac,T.kTeller.cl,T.nTellerPlace,jdw,_,rfl,_,_,rfl,rfl,_,rfl,_,rfl,x,_,dx,_,_,rfl,jac,T.kTeller.cl,T.nTellerPlace,jdw,_,rfl,z,p,p+j,rfl,?_,rfl,by omega,hpn,Nat.le_of_lt (jaB (by omega)),?_⟩
   ·exact congrArg some (show (((p+j:Nat):Int) - (j:Int))=(p:Int) by omega)
   ·rw [show p+j - p=j by omega]
    refine q _ (e1.upd _) ?_
    rw [jac,<- hlen]; rfl
  ·by_cases jn:j < n
   ·have em:hi.toNat - j=(hi.toNat - (j+1))+1:=by omega
    have en:n - j=(n - (j+1))+1:=by omega
    rw [em,en,jkE,if_pos (by omega)] at hbs1 hlen
    obtain ⟨k1,k2⟩:=jcT (by rw [hbs1]; rfl)
    refine ⟨true,k1,_,rfl,jcc ⟨_,fun _ _ h=>h,?_⟩⟩
    refine ⟨_,rfl,_,_,rfl,rfl,?_⟩
    refine ⟨n - (j+1),by show n - (j+1) < n - j; omega,(j+1,v+1),rfl,rfl,e1.upd _,jac,jn,k2,?_⟩
    rw [List.length_append,List.length_singleton] at hlen
    dsimp only; omega
   ·have jn:j=n:=by omega
    subst jn
    rw [show j - j=0 by omega,jid (by omega),if_neg (by omega)] at hbs1 hlen
    obtain ⟨k1,k2⟩:=jcT (by rw [hbs1]; rfl)
    refine ⟨false,k1,_,rfl,jbn ?_⟩
    refine ⟨_,rfl,x,_,dx,_,_,rfl,jac,T.kTeller.cl,T.nTellerPlace,jdw,_,rfl,_,_,rfl,rfl,dx,_,jac,jcS,?_⟩
    have e2:jaM "place" (.int ((p:Int)+(j:Int))) (jbH z c (v+1) p)=jbH z c (v+1) (p+j):=jcw
    rw [e2]
    refine ⟨_,rfl,x,_,dx,_,_,rfl,jac,T.kTeller.cl,T.nTellerText,jmS,_,rfl,x,_,dx,_,_,rfl,jac,T.kTeller.cl,T.nTellerPlace,jdw,_,rfl,_,_,rfl,rfl,_,rfl,_,rfl,x,_,dx,_,_,rfl,jac,T.kTeller.cl,T.nTellerPlace,jdw,_,rfl,z,p,p+j,rfl,?_,rfl,by omega,hpn,Nat.le_of_lt (jaB (by omega)),?_⟩
    ·exact congrArg some (show (((p+j:Nat):Int) - (j:Int))=(p:Int) by omega)
    ·rw [show p+j - p=j by omega]
     refine q _ ((e1.upd _).upd _) ?_
     rw [jac,<- hlen]; rfl
end
open Mth (R1 RQ MP MQ Fit1 FitL FitQ w1 wL wQ wF wGap c1 cL cRows cQ cF cAsk)
inductive RV where
 | tx (w:List Nat)
 | rows (inner:List Pc) (rr:List (List R1))
def jbL:List Pc->List R1->List (Str×List Nat)
 | .ask n ..::ps,.tx w::rs=>(n,w)::jbL ps rs
 | _::ps,_::rs=>jbL ps rs
 | _,_=>[]
def jcX (es:List (Str×List Nat)):List (Key×V):=es.map fun e=>(Sum.inr e.1,.str ⟨e.2.toArray⟩)
def RowD (H0 H:Hp) (inner:List Pc) (r:List R1) (v:V):Prop:=∃ a,v=.ref a/\H a=some (.dK (jcX (jbL inner r)))/\H0 a=none
def RvAt (H0 H:Hp):RV->V->Prop
 | .tx w,v=>v=.str ⟨w.toArray⟩
 | .rows inner rr,v=>∃ l us,v=.ref l/\H l=some (.lst us)/\H0 l=none/\Paired (RowD H0 H inner) rr us
def EntAt (H0 H:Hp) (e:Str×RV) (kv:Key×V):Prop:=kv.1=Sum.inr e.1/\RvAt H0 H e.2 kv.2
def ent:Pie->RQ->List (Str×RV)
 | .one (.ask n ..),.one (.tx w)=>[(n,.tx w)]
 | .rows n inner ..,.rows rr=>[(n,.rows inner rr)]
 | _,_=>[]
def jbv:List Pie->List RQ->List (Str×RV)
 | p::ps,r::rs=>ent p r++jbv ps rs
 | _,_=>[]
theorem RowD.bes {H0 H H':Hp} {x:Addr} (e:Besides x H H') (hx:(∃ o,H0 x=some o)\/∃ C dx fs,H x=some (.ins C dx fs)) {inner:List Pc} {r:List R1} {v:V} (h:RowD H0 H inner r v):RowD H0 H' inner r v:=by
 obtain ⟨a,h1,h2,h3⟩:=h
 refine ⟨a,h1,e _ _ h2 (fun z=>?_),h3⟩
 subst z
 rcases hx with ⟨o,hx⟩ | ⟨C,dx,fs,hx⟩
 ·rw [hx] at h3; cases h3
 ·rw [hx] at h2; cases h2
theorem RvAt.bes {H0 H H':Hp} {x:Addr} (e:Besides x H H') (hx:(∃ o,H0 x=some o)\/∃ C dx fs,H x=some (.ins C dx fs)):∀ {rv:RV} {v:V},RvAt H0 H rv v->RvAt H0 H' rv v
 | .tx _,_,h=>h
 | .rows inner rr,_,⟨l,us,h1,h2,h3,h4⟩=>by
  refine ⟨l,us,h1,e _ _ h2 (fun z=>?_),h3,Paired.mapP h4 fun _ _ q=>q.bes e hx⟩
  subst z
  rcases hx with ⟨o,hx⟩ | ⟨C,dx,fs,hx⟩
  ·rw [hx] at h3; cases h3
  ·rw [hx] at h2; cases h2
theorem EntAt.bes {H0 H H':Hp} {x:Addr} (e:Besides x H H') (hx:(∃ o,H0 x=some o)\/∃ C dx fs,H x=some (.ins C dx fs)) {en:Str×RV} {kv:Key×V} (h:EntAt H0 H en kv):EntAt H0 H' en kv:=⟨h.1,h.2.bes e hx⟩
theorem RowD.older {H0 H1 H:Hp} (o:∀ b,H1 b=none->H0 b=none) {inner:List Pc} {r:List R1} {v:V} (h:RowD H1 H inner r v):RowD H0 H inner r v:=by
 obtain ⟨a,h1,h2,h3⟩:=h
 exact ⟨a,h1,h2,o _ h3⟩
theorem RvAt.older {H0 H1 H:Hp} (o:∀ b,H1 b=none->H0 b=none):∀ {rv:RV} {v:V},RvAt H1 H rv v->RvAt H0 H rv v
 | .tx _,_,h=>h
 | .rows inner rr,_,⟨l,us,h1,h2,h3,h4⟩=>⟨l,us,h1,h2,o _ h3,Paired.mapP h4 fun _ _ q=>q.older o⟩
theorem EntAt.older {H0 H1 H:Hp} (o:∀ b,H1 b=none->H0 b=none) {en:Str×RV} {kv:Key×V} (h:EntAt H1 H en kv):EntAt H0 H en kv:=⟨h.1,h.2.older o⟩
theorem jhk {H0 H:Hp} {n:Str}:∀ {es:List (Str×RV)} {kvs:List (Key×V)},Paired (EntAt H0 H) es kvs->n∉es.map (·.1)->jbt kvs (Sum.inr n:Key)=none
 | _,_,.nil,_=>rfl
 | e::es,kv::kvs,.cons h t,hn=>by
  have h1:¬ kv.1=(Sum.inr n:Key):=fun z=>hn (by rw [h.1] at z; rw [List.map_cons,Sum.inr.inj z]; exact List.mem_cons_self)
  rw [jaQ h1]
  exact jhk t fun z=>hn (by rw [List.map_cons]; exact List.mem_cons_of_mem _ z)
theorem jfH {H0 H:Hp}:∀ {inner:List Pc} {r:List R1} {kvs:List (Key×V)},Paired (EntAt H0 H) (jbv (inner.map .one) (r.map .one)) kvs->kvs=jcX (jbL inner r)
 | [],_,_,h=>by cases h; rfl
 | _::_,[],_,h=>by cases h; rename_i p ps; cases p <;> rfl
 | .say t::ps,v::rs,kvs,h=>jfH (inner:=ps) (r:=rs) h
 | .ask n sg lo hi::ps,.no::rs,kvs,h=>jfH (inner:=ps) (r:=rs) h
 | .ask n sg lo hi::ps,.tx w::rs,kvs,h=>by
  have h':Paired (EntAt H0 H) ((n,RV.tx w)::jbv (ps.map .one) (rs.map .one)) kvs:=h
  cases h' with
  | cons h1 t =>
   obtain ⟨a,b⟩:=h1
   rename_i kv kvs'
   have e:kv=(Sum.inr n,V.str ⟨w.toArray⟩):=Prod.ext a b
   rw [jfH t,e]
   rfl
theorem jbF:∀ {ps:List Pie} {rs:List RQ},Mth.FitF (ps.map mPie) rs->(jbv ps rs).map (·.1)=ps.flatMap Pie.nm
 | [],_,h=>by cases h; rfl
 | .one (.say t)::ps,_,.cons h t'=>by
  have ih:=jbF t'
  cases h with
  | one h1 =>
   show (jbv ps _).map (·.1)=_
   rw [ih]; rfl
 | .one (.ask n sg lo hi)::ps,_,.cons h t'=>by
  have ih:=jbF t'
  cases h with
  | one h1 =>
   cases h1 with
   | ask _ _ _ =>
    show n::(jbv ps _).map (·.1)=_
    rw [ih]; rfl
 | .rows n inner gap lo hi::ps,_,.cons h t'=>by
  have ih:=jbF t'
  cases h with
  | rows _ _ _ =>
   show n::(jbv ps _).map (·.1)=_
   rw [ih]; rfl
theorem jkF:∀ {ps:List Pc} {r:List R1},cF ((ps.map Pie.one).map mPie) (r.map .one)=cL (ps.map mPc) r
 | [],_=>by cases ‹List R1› <;> rfl
 | _::_,[]=>rfl
 | p::ps,v::r=>by
  show c1 (mPc p) v++cF ((ps.map Pie.one).map mPie) (r.map .one)=c1 (mPc p) v++cL (ps.map mPc) r
  rw [jkF]
theorem jkG:∀ {ps:List Pc} {r:List R1},wF ((ps.map Pie.one).map mPie) (r.map .one)=wL (ps.map mPc) r
 | [],_=>by cases ‹List R1› <;> rfl
 | _::_,[]=>rfl
 | p::ps,v::r=>by
  show w1 (mPc p) v++wF ((ps.map Pie.one).map mPie) (r.map .one)=w1 (mPc p) v++wL (ps.map mPc) r
  rw [jkG]
theorem jkH:∀ {ps:List Pc} {r:List R1},FitL (ps.map mPc) r->Mth.FitF ((ps.map Pie.one).map mPie) (r.map .one)
 | [],_,.nil=>.nil
 | p::ps,_,.cons h t=>.cons (.one h) (jkH t)
theorem jgB:∀ ps:List Pc,(ps.map Pie.one).flatMap Pie.nm=ps.flatMap Pc.nm
 | []=>rfl
 | p::ps=>by rw [List.map_cons,List.flatMap_cons,List.flatMap_cons,jgB ps]; rfl
theorem jhl {α:Type} {l a b:List α} {p:Nat} (h:l.drop p=a++b) (hp:p<=l.length):p+a.length<=l.length/\l.drop (p+a.length)=b/\(l.drop p).take a.length=a:=by
 refine ⟨?_,?_,?_⟩
 ·have:=congrArg List.length h
  rw [List.length_drop,List.length_append] at this
  omega
 ·rw [<- List.drop_drop,h,List.drop_left']; rfl
 ·rw [h,List.take_left']; rfl
section
variable {P:Program} {w:World} {K:PySem.W.Frag} {mg:Str->Option Value} {base:Heap} {D:Adr}
theorem scRO:FnScope ["self","rows","told"] ["self","rows"] (jag jbY):=⟨rfl,rfl,rfl,by decide +kernel,rfl,by decide +kernel,by decide +kernel⟩
def spRO (K:PySem.W.Frag) (D:Adr) (okr:Prop):Sp:=fun vs H Q _=>∃ (Hb H0:Hp) (x dx c a:Addr) (z:Str) (u p:Nat) (pc:Pie) (r:RQ) (bs rest:List Bool) (tr:List Nat),vs=[.ref x,.ref a]/\okr/\TelOk Hb H x c bs/\H x=some (.ins D.cTeller dx (jbH z c u p))/\pc.Obj D.cl H0 Hb (.ref a)/\pc.ok/\jib pc/\FitQ (mPie pc) r /\
 bs.drop u=cQ (mPie pc) r++rest/\p<=z.length/\(tl z).drop p=wQ (mPie pc) r++tr/\z.length<=90000 /\
 ∀ n rv v H',ent pc r=[(n,rv)]->Besides x H H'->RvAt H H' rv v->H' x=some (.ins D.cTeller dx (jbH z c (u+(cQ (mPie pc) r).length) (p+(wQ (mPie pc) r).length)))->Q v H'
theorem jpB (T:Txt w K mg D):FnOk P w K mg base CX0 2 D.aTellerRowsOf D.dTellerRowsOf ["self","rows"] (spRO K D False):=by
 refine T.fTellerRowsOf.ok scRO (fun vs H Q E h=>?_) (fun cdv A outer s H vs Q E hr h=>?_)
 ·obtain ⟨Hb,H0,x,dx,c,a,z,u,p,pc,r,bs,rest,tr,rfl,f,_⟩:=h; exact f.elim
 ·obtain ⟨Hb,H0,x,dx,c,a,z,u,p,pc,r,bs,rest,tr,rfl,f,_⟩:=h; exact f.elim
theorem scVa:FnScope ["self","parts","values","part"] ["self","parts"] (jag jbE):=⟨rfl,rfl,rfl,by decide +kernel,rfl,by decide +kernel,by decide +kernel⟩
def jnY (K:PySem.W.Frag) (D:Adr) (okr:Prop):Sp:=fun vs H Q _=>∃ (Hb H0:Hp) (x dx c m:Addr) (z:Str) (u p:Nat) (ps:List Pie) (us:List V) (rs:List RQ) (bs rest:List Bool) (tr:List Nat),vs=[.ref x,.ref m]/\TelOk Hb H x c bs/\H x=some (.ins D.cTeller dx (jbH z c u p))/\Hb m=some (.lst us)/\Paired (Pie.Obj D.cl H0 Hb) ps us /\
 (∀ q∈ps,q.ok/\(jib q->okr))/\(ps.flatMap Pie.nm).Nodup/\ps.length<=100/\Mth.FitF (ps.map mPie) rs /\
 bs.drop u=cF (ps.map mPie) rs++rest/\p<=z.length/\(tl z).drop p=wF (ps.map mPie) rs++tr/\z.length<=90000 /\
 ∀ a kvs H',Besides x H H'->H a=none->H' a=some (.dK kvs)->Paired (EntAt H H') (jbv ps rs) kvs->H' x=some (.ins D.cTeller dx (jbH z c (u+(cF (ps.map mPie) rs).length) (p+(wF (ps.map mPie) rs).length)))->Q (.ref a) H'
abbrev VaI (D:Adr) (Hb H Hd:Hp) (x dx c m d:Addr) (z:Str) (ps:List Pie) (E:List (Str×RV)) (bs rest:List Bool) (tr:List Nat) (U W i:Nat) (σ:St) (H':Hp):Prop:=∃ (o:Option V) (rs2:List RQ) (es1:List (Str×RV)) (kvs:List (Key×V)) (u' p':Nat),σ=[some (.ref x),some (.ref m),some (.ref d),o]/\Besides x H H'/\TelOk Hb H' x c bs/\H' d=some (.dK kvs)/\(∀ b,H' b=none->Hd b=none)/\Paired (EntAt Hd H') es1 kvs/\es1++jbv (ps.drop i) rs2=E/\H' x=some (.ins D.cTeller dx (jbH z c u' p'))/\Mth.FitF ((ps.drop i).map mPie) rs2/\bs.drop u'=cF ((ps.drop i).map mPie) rs2++rest/\p'<=z.length/\(tl z).drop p'=wF ((ps.drop i).map mPie) rs2++tr/\u'+(cF ((ps.drop i).map mPie) rs2).length=U/\p'+(wF ((ps.drop i).map mPie) rs2).length=W
theorem jie {α:Type} {l a b:List α} {p:Nat} (h:l.drop p=a++b):l.drop (p+a.length)=b:=by
 rw [<- List.drop_drop,h,List.drop_left']; rfl
theorem jhm:∀ (ps:List Pie) (rs:List RQ),(jbv ps rs).length<=ps.length
 | [],_=>Nat.zero_le _
 | _::_,[]=>Nat.zero_le _
 | p::ps,r::rs=>by
  have h1:=jhm ps rs
  have h2:(ent p r).length<=1:=by unfold ent; split <;> simp
  rw [jbv,List.length_append,List.length_cons]
  omega
theorem jpC (T:Txt w K mg D) {okr:Prop} {k:Nat} (hk:2<=k) (GR:FnOk P w K mg base CX0 k D.aTellerRowsOf D.dTellerRowsOf ["self","rows"] (spRO K D okr)):FnOk P w K mg base CX0 (k+1) D.aTellerValuesOf D.dTellerValuesOf ["self","parts"] (jnY K D okr):=by
 have GF:FnOk P w K mg base CX0 2 D.aTellerFieldOf D.dTellerFieldOf ["self","ask"] (spFO K D):=ok_FO T
 refine T.fTellerValuesOf.ok scVa (fun vs H Q E h=>?_) (fun cdv A outer s H vs Q E hr h=>?_)
 ·obtain ⟨Hb,H0,x,dx,c,m,z,u,p,ps,us,rs,bs,rest,tr,rfl,_⟩:=h; rfl
 ·obtain ⟨Hb,H0,x,dx,c,m,z,u,p,ps,us,rs,bs,rest,tr,rfl,tk,hx,hm,hp,hok,hnd,h100,hfit,hbs,hpz,htx,hz,q⟩:=h
  have hr2:Room 2 _:=hr.mono hk
  have hu:=jdS hr
  have hus:us.length=ps.length:=hp.length.symm
  refine ⟨_,jab (jan (i:=2) scVa.nd rfl (Or.inl rfl) jdB)
   (jab (jbb PassesOwn.never rfl (jaT (pv 1)) (jaE (i:=3) scVa.nd rfl (Or.inl rfl))
    (jae (jay (jaJ (jaj jau rfl T.zIsinstance PyProof.Rows.boot_isinstance (jaa (pv 3) (jaa (jaS (v:=.ref D.cSay) rfl T.mgSay rfl) jad))))
     (jae (jcI (pv 0) (jaj jaW rfl T.zLen PySem.boot_len (jaa (jaw (pv 3) rfl) jad)) jhC))
     (jae (jay (jaJ (jaj jau rfl T.zIsinstance PyProof.Rows.boot_isinstance (jaa (pv 3) (jaa (jaS (v:=.ref D.cAsk) rfl T.mgAsk rfl) jad))))
      (jae (jcB hu (pv 2) (jaw (pv 3) rfl) (jda (pv 0) T.kTeller.cl T.meTellerFieldOf GF hr2 T.bTellerFieldOf .nil jam (jaa (pv 3) jad)) rfl))
      (jae (jcB hu (pv 2) (jaw (pv 3) rfl) (jda (pv 0) T.kTeller.cl T.meTellerRowsOf GR hr T.bTellerRowsOf .nil jam (jaa (pv 3) jad)) rfl)))))))
   (jae (jak (pv 2)))),?_⟩
  dsimp only [cxK]
  intro d nd
  have g0:=jah nd (.dK [])
  have hdx:d≠x:=fun e=>by rw [e,hx] at nd; cases nd
  have hd0:(L2.upd H d (.dK [])) d=some (.dK []):=jac
  have hx0:=g0 _ _ hx
  have tk0:TelOk Hb (L2.upd H d (.dK [])) x c bs:=⟨tk.same.trans g0,tk.new,tk.cs⟩
  have old0:∀ b,(L2.upd H d (.dK [])) b=none->H b=none:=fun b=>g0.free
  generalize L2.upd H d (.dK [])=Hd at *
  have hnm:((jbv ps rs).map (·.1)).Nodup:=by rw [jbF hfit]; exact hnd
  refine ⟨_,rfl,m,rfl,⟨_,SqL.of (tk0.same _ _ hm)⟩,jdZ (xs:=us) (VaI D Hb H Hd x dx c m d z ps (jbv ps rs) bs rest tr (u+(cF (ps.map mPie) rs).length) (p+(wF (ps.map mPie) rs).length))
   ⟨none,rs,[],[],u,p,rfl,Besides.of g0,tk0,hd0,fun _ h=>h,.nil,rfl,hx0,hfit,hbs,hpz,htx,rfl,rfl⟩ (fun i σ H' hi e=>?_) (fun i pv' σ H' hxi e D1 hD1=>?_) (fun σ H' e=>?_)⟩
  ·obtain ⟨_,_,_,_,_,_,_,_,tk',_⟩:=e
   exact SqL.of (tk'.same _ _ hm)
  ·obtain ⟨o,rs2,es1,kvs,u',p',rfl,e1,tk',hd',old',hes,een,hx',hft,hb',hpz',ht',hlu,hlp⟩:=e
   have hi:i < ps.length:=by rw [<- hus]; exact (List.getElem?_eq_some_iff.mp hxi).1
   obtain ⟨pc,ep,po⟩:=Paired.two hp hxi
   obtain ⟨okp,pr⟩:=hok pc (List.mem_of_getElem? ep)
   have ed:ps.drop i=pc::ps.drop (i+1):=by
    rw [List.drop_eq_getElem?_toList_append,ep]; rfl
   rw [ed,List.map_cons] at hft hb' ht' hlu hlp
   rw [ed] at een
   have hkl:kvs.length<=100:=by
    have h1:=congrArg List.length een
    have h2:=jhm ps rs
    have h3:=hes.length
    rw [List.length_append] at h1
    omega
   cases hft with
   | cons hq hrest =>
   rename_i rq rs3
   rw [cF] at hb' hlu
   rw [wF] at ht' hlp
   rw [jbv,<- List.append_assoc] at een
   rw [List.length_append] at hlu hlp
   rw [List.append_assoc] at hb' ht'
   obtain ⟨t1,t2,t3⟩:=jhl ht' (by rw [Array.length_toList]; exact hpz')
   have t1':p'+(wQ (mPie pc) rq).length<=z.length:=by have:(tl z).length=z.length:=Array.length_toList; omega
   have hdx':d≠x:=hdx
   have put:∀ (n:Str) (rv:RV) (v:V) (H2:Hp),ent pc rq=[(n,rv)]->Besides x H' H2->RvAt H' H2 rv v->H2 x=some (.ins D.cTeller dx (jbH z c (u'+(cQ (mPie pc) rq).length) (p'+(wQ (mPie pc) rq).length))) ->
     H2 d=some (.dK kvs)/\VaI D Hb H Hd x dx c m d z ps (jbv ps rs) bs rest tr (u+(cF (ps.map mPie) rs).length) (p+(wF (ps.map mPie) rs).length) (i+1) [some (.ref x),some (.ref m),some (.ref d),some pv'] (L2.upd H2 d (.dK (putK kvs (Sum.inr n) v))):=by
    intro n rv v H2 een2 b2 hrv hx2
    have hd2:=b2 _ _ hd' hdx
    have bd:Besides d H2 (L2.upd H2 d (.dK (putK kvs (Sum.inr n) v))):=Besides.refl.upd _
    have nin:n∉es1.map (·.1):=by
     have:((es1++ent pc rq++jbv (ps.drop (i+1)) rs3).map (·.1)).Nodup:=by rw [een]; exact hnm
     rw [een2,List.map_append,List.map_append] at this
     have h1:=(List.nodup_append.mp this).1
     have h2:=(List.nodup_append.mp h1).2.2
     intro hn
     exact h2 n hn n (by simp) rfl
    have hk2:putK kvs (Sum.inr n) v=kvs++[(Sum.inr n,v)]:=jdA v (jhk hes nin)
    obtain ⟨oo,hHd⟩:∃ o,Hd d=some o:=⟨_,hd0⟩
    have old2:∀ b,H2 b=none->Hd b=none:=fun b h=>old' b (by
     cases hb:H' b with
     | none=>rfl
     | some o =>
      by_cases hbx:b=x
      ·rw [hbx,hx2] at h; cases h
      ·rw [b2 _ _ hb hbx] at h; cases h)
    have oldH:∀ b,H' b=none->Hd b=none:=old'
    refine ⟨hd2,_,rs3,es1++[(n,rv)],kvs++[(Sum.inr n,v)],u'+(cQ (mPie pc) rq).length,p'+(wQ (mPie pc) rq).length,rfl,?_,⟨?_,tk'.new,tk'.cs⟩,?_,?_,?_,?_,?_,hrest,?_,t1',t2,by omega,by omega⟩
    ·intro b o hb hbx
     have:b≠d:=fun e=>by rw [e,nd] at hb; cases hb
     rw [jao this]
     exact b2 _ _ (e1 _ _ hb hbx) hbx
    ·intro b o hb
     have hbd:b≠d:=fun e=>by
      have hh:=tk.same b o hb
      rw [e,nd] at hh; cases hh
     have hbx:b≠x:=ne_of_none hb tk.new
     rw [jao hbd]
     exact b2 _ _ (tk'.same _ _ hb) hbx
    ·rw [jac,hk2]
    ·intro b h
     by_cases hbd:b=d
     ·rw [hbd,jac] at h; cases h
     ·rw [jao hbd] at h; exact old2 b h
    ·refine Paired.snoc (Paired.mapP hes fun _ _ q=>(q.bes b2 (.inr ⟨_,_,_,hx'⟩)).bes bd (.inl ⟨oo,hHd⟩)) ⟨rfl,?_⟩
     exact (hrv.older oldH).bes bd (.inl ⟨oo,hHd⟩)
    ·rw [een2] at een; exact een
    ·rw [jao (Ne.symm hdx)]; exact hx2
    ·exact jie hb'
   cases pc with
   | one pp =>
    cases pp with
    | say t =>
     obtain ⟨a,rfl,da,fs,ha,hf⟩:=po
     cases hq with
     | one h1 =>
     cases h1 with
     | say =>
     have t12:t.length<=12:=okp.hi
     refine ⟨_,rfl,_,_,true,.inl ⟨_,rfl,T.isSaySay⟩,jbc T.kSay (tk'.same _ _ ha),_,rfl,jcc ?_⟩
     refine ⟨_,rfl,x,_,dx,_,_,rfl,hx',T.kTeller.cl,T.nTellerPlace,jdw,_,rfl,a,_,da,_,_,rfl,tk'.same _ _ ha,T.kSay.cl,T.nSayText,hf _ List.mem_cons_self,t,rfl,Nat.le_of_lt (jaB (by omega)),_,_,rfl,rfl,dx,_,hx',jcS,?_⟩
     have e2:jaM "place" (.int ((p':Int)+(t.length:Int))) (jbH z c u' p')=jbH z c u' (p'+t.length):=jcw
     rw [e2]
     have bx:Besides x H' (L2.upd H' x (.ins D.cTeller dx (jbH z c u' (p'+t.length)))):=Besides.refl.upd _
     have ew:(wQ (mPie (.one (.say t))) (.one .no)).length=t.length:=Array.length_toList
     refine hD1 _ _ ⟨_,rs3,es1,kvs,u',p'+t.length,rfl,e1.upd _,tk'.bes bx,bx _ _ hd' hdx,fun b h=>old' b ?_,Paired.mapP hes fun _ _ q=>q.bes bx (.inr ⟨_,_,_,hx'⟩),?_,jac,hrest,hb',by omega,?_,?_,by omega⟩
     ·by_cases hbx:b=x
      ·rw [hbx,jac] at h; cases h
      ·rw [jao hbx] at h; exact h
     ·have:ent (.one (.say t)) (.one .no)=[]:=rfl
      rw [this,List.append_nil] at een; exact een
     ·rw [<- ew]; exact t2
     ·have:(cQ (mPie (.one (.say t))) (.one .no)).length=0:=rfl
      omega
    | ask n sg lo hi' =>
     obtain ⟨a,rfl,da,fs,ha,hf⟩:=id po
     cases hq with
     | one h1 =>
     cases h1 with
     | ask l1 l2 l3 =>
     rename_i wd
     obtain ⟨_,_,_,b1,b2,b3⟩:=okp
     have hen:ent (.one (.ask n sg lo hi')) (.one (.tx wd))=[(n,.tx wd)]:=rfl
     refine ⟨_,rfl,_,_,false,.inl ⟨_,rfl,T.isAskSay⟩,jbc T.kAsk (tk'.same _ _ ha),_,rfl,jbn ?_⟩
     refine ⟨_,rfl,_,_,true,.inl ⟨_,rfl,T.isAskAsk⟩,jbc T.kAsk (tk'.same _ _ ha),_,rfl,jcc ?_⟩
     refine ⟨_,rfl,x,dx,_,rfl,hx',jdo (by decide +kernel) (by decide +kernel) (by decide +kernel) (by decide +kernel),_,rfl,Hb,x,dx,c,a,z,u',p',wd.length,n,sg,lo,hi',bs,cF ((ps.drop (i+1)).map mPie) rs3++rest,rfl,tk',hx',po,b1,by omega,by omega,hb',t1',hz,fun H2 bb2 hx2=>?_⟩
     have htk:(⟨(((tl z).drop p').take wd.length).toArray⟩:Str)=⟨wd.toArray⟩:=congrArg (fun l=>(⟨List.toArray l⟩:Str)) t3
     obtain ⟨hd2,fin⟩:=put n (.tx wd) (.str ⟨(((tl z).drop p').take wd.length).toArray⟩) H2 hen bb2 (congrArg V.str htk) hx2
     have ha2:=bb2 _ _ (tk'.same _ _ ha) (fun e=>by rw [e] at ha; rw [tk.new] at ha; cases ha)
     exact ⟨_,rfl,_,rfl,a,_,da,_,_,rfl,ha2,T.kAsk.cl,T.nAskName,hf _ List.mem_cons_self,d,_,rfl,DPut.k (k:=Sum.inr n) hd2 (jaB (by omega)),hD1 _ _ fin⟩
   | rows n inner gap lo hi' =>
    obtain ⟨a,l',ws,rfl,hfl,_⟩:=id po
    obtain ⟨da,fs,ha,hf⟩:=hfl
    cases hq with
    | rows l1 l2 l3 =>
    rename_i rr
    refine ⟨_,rfl,_,_,false,.inl ⟨_,rfl,T.isRowsSay⟩,jbc T.kRows (tk'.same _ _ ha),_,rfl,jbn ?_⟩
    refine ⟨_,rfl,_,_,false,.inl ⟨_,rfl,T.isRowsAsk⟩,jbc T.kRows (tk'.same _ _ ha),_,rfl,jbn ?_⟩
    refine ⟨_,rfl,x,dx,_,rfl,hx',jdo (by decide +kernel) (by decide +kernel) (by decide +kernel) (by decide +kernel),_,rfl,Hb,H0,x,dx,c,a,z,u',p',_,.rows rr,bs,_,_,rfl,pr trivial,tk',hx',po,okp,trivial,.rows l1 l2 l3,hb',hpz',ht',hz,fun n' rv v H2 hen bb2 hrv hx2=>?_⟩
    obtain ⟨hd2,fin⟩:=put n' rv v H2 hen bb2 hrv hx2
    have en':n'=n:=by cases hen; rfl
    subst en'
    have ha2:=bb2 _ _ (tk'.same _ _ ha) (fun e=>by rw [e] at ha; rw [tk.new] at ha; cases ha)
    exact ⟨_,rfl,_,rfl,a,_,da,_,_,rfl,ha2,T.kRows.cl,T.nRowsName,hf _ List.mem_cons_self,d,_,rfl,DPut.k (k:=Sum.inr n') hd2 (jaB (by omega)),hD1 _ _ fin⟩
  ·obtain ⟨o,rs2,es1,kvs,u',p',rfl,e1,tk',hd',old',hes,een,hx',hft,hb',hpz',ht',hlu,hlp⟩:=e
   rw [hus,List.drop_length] at hft hlu hlp een
   cases hft
   have e0:jbv ([]:List Pie) []=[]:=rfl
   rw [e0,List.append_nil] at een
   subst een
   have hu1:u'=u+(cF (ps.map mPie) rs).length:=hlu
   have hp1:p'=p+(wF (ps.map mPie) rs).length:=hlp
   rw [hu1,hp1] at hx'
   exact ⟨_,rfl,q d kvs H' e1 nd hd' (Paired.mapP hes fun _ _ q=>q.older old0) hx'⟩
end
structure RoS where
 (r1 r2:List (List R1)) (u p:Nat)
structure RoI (D:Adr) (Hb H Hr:Hp) (x dx c a r:Addr) (z:Str) (inner:List Pc) (gap:List Nat) (lo hi:Nat) (rr:List (List R1)) (bs rest:List Bool) (tr:List Nat) (U W:Nat) (st:RoS) (σ:St) (H':Hp):Prop where
 σe:σ=[some (.ref x),some (.ref a),some (.ref r)]
 bes:Besides x H H'
 tk:TelOk Hb H' x c bs
 lst:∃ us,H' r=some (.lst us)/\Paired (RowD Hr H' inner) st.r1 us
 old:∀ b,H' b=none->Hr b=none
 all:rr=st.r1++st.r2
 tel:H' x=some (.ins D.cTeller dx (jbH z c st.u st.p))
 cs:bs.drop st.u=cRows (inner.map mPc) lo (hi - st.r1.length) st.r1.length st.r2++rest
 cl:st.u+(cRows (inner.map mPc) lo (hi - st.r1.length) st.r1.length st.r2).length=U
 pz:st.p<=z.length
 ts:(tl z).drop st.p=wGap (inner.map mPc) gap st.r1.length st.r2++tr
 wl:st.p+(wGap (inner.map mPc) gap st.r1.length st.r2).length=W
theorem jgC {inner:List MP} {lo m k:Nat} (h:lo<=k):cRows inner lo m k []=if m=0 then [] else [false]:=by
 cases m with
 | zero=>rfl
 | succ m=>rw [cRows,if_pos h,if_neg (by omega)]
theorem jif {inner:List MP} {lo m k:Nat} {r:List R1} {rs:List (List R1)}:cRows inner lo (m+1) k (r::rs)=(if lo<=k then [true] else [])++(cL inner r++cRows inner lo m (k+1) rs):=by
 rw [cRows]; split <;> rfl
section
variable {P:Program} {w:World} {K:PySem.W.Frag} {mg:Str->Option Value} {base:Heap} {D:Adr}
theorem ok_RO (T:Txt w K mg D):FnOk P w K mg base CX0 4 D.aTellerRowsOf D.dTellerRowsOf ["self","rows"] (spRO K D True):=by
 have GV:FnOk P w K mg base CX0 3 D.aTellerValuesOf D.dTellerValuesOf ["self","parts"] (jnY K D False):=jpC T (by decide) (jpB T)
 have G:FnOk P w K mg base CX0 1 D.aTellerGoesOn D.dTellerGoesOn ["self","part","number"] (spGO K D):=jpA T
 refine T.fTellerRowsOf.ok scRO (fun vs H Q E h=>?_) (fun cdv A outer s H vs Q E hr h=>?_)
 ·obtain ⟨Hb,H0,x,dx,c,a,z,u,p,pc,rq,bs,rest,tr,rfl,_⟩:=h; rfl
 ·obtain ⟨Hb,H0,x,dx,c,a,z,u,p,pc,rq,bs,rest,tr,rfl,_,tk,hx,po,okp,ir,hfit,hbs,hpz,htx,hz,q⟩:=h
  cases pc with
  | one p=>exact ir.elim
  | rows n inner gap lo hi =>
  cases hfit with
  | rows f1 f2 f3 =>
  rename_i rr
  obtain ⟨a',m,ws,ea,hfl,hm,_,hin⟩:=po
  obtain rfl:a=a':=by cases ea; rfl
  obtain ⟨_,hpo,hg,b0,b1,b2⟩:=okp
  have hr1:Room 1 _:=hr.mono (by decide)
  have hB:HasB K D.cRows:=⟨T.kRows.cl,T.nRowsLeast,T.nRowsMost⟩
  have hfl':Fld Hb a D.cRows [("least",.int lo),("most",.int hi)]:=Fld.sub hfl (jce (List.mem_cons_of_mem _ (List.mem_cons_of_mem _ (List.mem_cons_of_mem _ List.mem_cons_self))) (jce (List.mem_cons_of_mem _ (List.mem_cons_of_mem _ (List.mem_cons_of_mem _ (List.mem_cons_of_mem _ List.mem_cons_self)))) jep))
  obtain ⟨da,fs,ha,hf⟩:=hfl
  have ep:=hf ("parts",.ref m) (List.mem_cons_of_mem _ List.mem_cons_self)
  have eg:=hf ("gap",.str gap) (List.mem_cons_of_mem _ (List.mem_cons_of_mem _ List.mem_cons_self))
  have clR:Cls K D.cl.rows:=T.kRows.cl
  have ng:NoAttr K D.cl.rows "gap":=T.nRowsGap
  have np:NoAttr K D.cl.rows "parts":=T.nRowsParts
  refine ⟨_,jab (jan (i:=2) scRO.nd rfl (Or.inl rfl) (jbj jad))
   (jab (jco PassesOwn.never (jaJ (jda (pv 0) T.kTeller.cl T.meTellerGoesOn G hr1 T.bTellerGoesOn .nil jam (jaa (pv 1) (jaa (jaj jav rfl T.zLen PySem.boot_len (jaa (pv 2) jad)) jad))))
    (jab (jay (jfd (pv 2) (fun _=>rfl)) (jae (jcI (pv 0) (jaj jaW rfl T.zLen PySem.boot_len (jaa (jaw (pv 1) rfl) jad)) jhC)) jaq)
    (jae (jas (jbS PySem.F.plainAttrs_list PySem.F.slot_list_append PySem.F.type_list_append jaH (pv 2) (jaa (jda (pv 0) T.kTeller.cl T.meTellerValuesOf GV hr T.bTellerValuesOf .nil jam (jaa (jaw (pv 1) rfl) jad)) jad))))))
   (jae (jak (pv 2)))),?_⟩
  dsimp only [cxK]
  refine ⟨Nat.zero_le _,fun r nr=>?_⟩
  have g0:=jah nr (.lst [])
  have hrx:r≠x:=fun e=>by rw [e,hx] at nr; cases nr
  have hr0:(L2.upd H r (.lst [])) r=some (.lst []):=jac
  have hx0:=g0 _ _ hx
  have tk0:TelOk Hb (L2.upd H r (.lst [])) x c bs:=⟨tk.same.trans g0,tk.new,tk.cs⟩
  have old0:∀ b,(L2.upd H r (.lst [])) b=none->H b=none:=fun b=>g0.free
  generalize hHr:L2.upd H r (.lst [])=Hr at *
  have app:∀ (Dd:Ends) (H3:Hp) (v p3:Nat) (us:List V) (r1:List R1) (rst:List Bool) (trs:List Nat),TelOk Hb H3 x c bs->H3 x=some (.ins D.cTeller dx (jbH z c v p3))->H3 r=some (.lst us)->us.length<=10->FitL (inner.map mPc) r1->bs.drop v=cL (inner.map mPc) r1++rst->p3<=z.length->(tl z).drop p3=wL (inner.map mPc) r1++trs ->
    (∀ d H4,Besides x H3 H4->H3 d=none->H4 d=some (.dK (jcX (jbL inner r1)))->H4 x=some (.ins D.cTeller dx (jbH z c (v+(cL (inner.map mPc) r1).length) (p3+(wL (inner.map mPc) r1).length)))->H4 r=some (.lst us)->Dd.nx [some (.ref x),some (.ref a),some (.ref r)] (L2.upd H4 r (.lst (us++[.ref d])))) ->
    jln (tBM K "list" jfj (jbA 2) (jaZ (jls D.cTeller "values_of" (jnY K D False) [] E0 (jbA 0) (jaZ (jnl K (jbA 1) "parts") jeM)) jeM)) Dd [some (.ref x),some (.ref a),some (.ref r)] H3:=by
   intro Dd H3 v p3 us r1 rst trs tk3 hx3 hr3 hu10 hft hb3 hp3 ht3 k
   refine ⟨_,rfl,.inl ⟨rfl,_,SqL.of hr3⟩,_,rfl,x,dx,_,rfl,hx3,jdo (by decide +kernel) (by decide +kernel) (by decide +kernel) (by decide +kernel),_,rfl,a,_,da,_,_,rfl,tk3.same _ _ ha,clR,np,ep,Hb,H0,x,dx,c,m,z,v,p3,inner.map Pie.one,ws,r1.map .one,bs,rst,trs,rfl,tk3,hx3,hm,jet hin,fun q hq=>?_,?_,?_,jkH hft,?_,hp3,?_,hz,fun d kvs H4 b4 nd4 hd4 hp4 hx4=>?_⟩
   ·obtain ⟨q',hq',rfl⟩:=List.mem_map.mp hq
    exact ⟨hpo.all q' hq',fun z=>z⟩
   ·rw [jgB]; exact hpo.nd
   ·rw [List.length_map]; have:=hpo.hi; omega
   ·rw [jkF]; exact hb3
   ·rw [jkG]; exact ht3
   ·rw [jkF,jkG] at hx4
    rw [jfH hp4] at hd4
    have hr4:=b4 _ _ hr3 hrx
    exact ⟨r,_,_,rfl,rfl,hr4,jaB (by omega),k d H4 b4 nd4 hd4 hx4 hr4⟩
  have hgl:(tl gap).length=gap.length:=Array.length_toList
  have hzl:(tl z).length=z.length:=Array.length_toList
  refine while_st (RoI D Hb H Hr x dx c a r z inner (tl gap) lo.toNat hi.toNat rr bs rest tr (u+(cRows (inner.map mPc) lo.toNat hi.toNat 0 rr).length) (p+(wGap (inner.map mPc) (tl gap) 0 rr).length)) (fun st=>st.r2.length) ⟨[],rr,u,p⟩
   ⟨rfl,Besides.of g0,tk0,⟨[],hr0,.nil⟩,fun _ h=>h,rfl,hx0,hbs,rfl,hpz,htx,rfl⟩ (fun st σ H' e=>?_)
  obtain ⟨rr1,rr2,u',p'⟩:=st
  obtain ⟨rfl,e1,tk',⟨us,hr',hus⟩,old',hall,hx',hb',hlu,hpz',ht',hlp⟩:=e
  dsimp only at hus hall hx' hb' hlu hpz' ht' hlp
  have hul:us.length=rr1.length:=hus.length.symm
  have hrl:rr.length=rr1.length+rr2.length:=by rw [hall,List.length_append]
  have noG:(jbH z c u' p').lookup ("goes_on":Str)=none:=jdo (by decide +kernel) (by decide +kernel) (by decide +kernel) (by decide +kernel)
  obtain ⟨oo,hHr⟩:∃ o,Hr r=some o:=⟨_,hr0⟩
  have fin:∀ (r1:List R1) (rr3:List (List R1)) (v p3:Nat) (H3:Hp) (d:Addr) (H4:Hp),rr2=r1::rr3->Besides x H' H3->(∀ b,H3 b=none->H' b=none)->Besides x H3 H4->H3 d=none->H4 d=some (.dK (jcX (jbL inner r1)))->H4 x=some (.ins D.cTeller dx (jbH z c (v+(cL (inner.map mPc) r1).length) (p3+(wL (inner.map mPc) r1).length)))->H4 r=some (.lst us) ->
    bs.drop v=cL (inner.map mPc) r1++(cRows (inner.map mPc) lo.toNat (hi.toNat - (rr1.length+1)) (rr1.length+1) rr3++rest)->p3<=z.length->(tl z).drop p3=wL (inner.map mPc) r1++(wGap (inner.map mPc) (tl gap) (rr1.length+1) rr3++tr) ->
    v+((cL (inner.map mPc) r1).length+(cRows (inner.map mPc) lo.toNat (hi.toNat - (rr1.length+1)) (rr1.length+1) rr3).length)=u+(cRows (inner.map mPc) lo.toNat hi.toNat 0 rr).length->p3+((wL (inner.map mPc) r1).length+(wGap (inner.map mPc) (tl gap) (rr1.length+1) rr3).length)=p+(wGap (inner.map mPc) (tl gap) 0 rr).length ->
    ∃ m',m' < rr2.length/\∃ st':RoS,st'.r2.length=m'/\RoI D Hb H Hr x dx c a r z inner (tl gap) lo.toNat hi.toNat rr bs rest tr (u+(cRows (inner.map mPc) lo.toNat hi.toNat 0 rr).length) (p+(wGap (inner.map mPc) (tl gap) 0 rr).length) st' [some (.ref x),some (.ref a),some (.ref r)] (L2.upd H4 r (.lst (us++[.ref d]))):=by
   intro r1 rr3 v p3 H3 d H4 err bb3 o3 bb4 nd4 hd4 hx4 hr4 hb3 hp3 ht3 hlu3 hlp3
   have ndr:d≠r:=fun e=>by
    rw [e,bb3 _ _ hr' hrx] at nd4; cases nd4
   have b34:=bb3.trans bb4
   have br:Besides r H4 (L2.upd H4 r (.lst (us++[.ref d]))):=Besides.refl.upd _
   have hd5:(L2.upd H4 r (.lst (us++[.ref d]))) d=some (.dK (jcX (jbL inner r1))):=by rw [jao ndr]; exact hd4
   obtain ⟨t1,t2,_⟩:=jhl ht3 (by rw [hzl]; exact hp3)
   have l1:(rr1++[r1]).length=rr1.length+1:=by simp
   refine ⟨rr3.length,by rw [err]; exact Nat.lt_succ_self _,⟨rr1++[r1],rr3,v+(cL (inner.map mPc) r1).length,p3+(wL (inner.map mPc) r1).length⟩,rfl,rfl,?_,⟨?_,tk'.new,tk'.cs⟩,⟨us++[.ref d],jac,Paired.snoc (Paired.mapP hus fun _ _ q=>(q.bes b34 (.inr ⟨_,_,_,hx'⟩)).bes br (.inl ⟨oo,hHr⟩)) ⟨d,rfl,hd5,old' d (o3 d nd4)⟩⟩,?_,?_,?_,?_,?_,?_,?_,?_⟩
   ·intro b o hb hbx
    have hbr:b≠r:=fun e=>by rw [e,nr] at hb; cases hb
    rw [jao hbr]
    exact b34 _ _ (e1 _ _ hb hbx) hbx
   ·intro b o hb
    have hbr:b≠r:=fun e=>by
     have hh:=tk.same b o hb
     rw [e,nr] at hh; cases hh
    rw [jao hbr]
    exact b34 _ _ (tk'.same _ _ hb) (ne_of_none hb tk.new)
   ·intro b h
    refine old' b (o3 b ?_)
    by_cases hbr:b=r
    ·rw [hbr,jac] at h; cases h
    ·rw [jao hbr] at h
     cases hb:H3 b with
     | none=>rfl
     | some o =>
      by_cases hbx:b=x
      ·rw [hbx,hx4] at h; cases h
      ·rw [bb4 _ _ hb hbx] at h; cases h
   ·dsimp only; rw [hall,err,List.append_assoc]; rfl
   ·dsimp only; rw [jao (Ne.symm hrx)]; exact hx4
   ·dsimp only; rw [l1]; exact jie hb3
   ·dsimp only; rw [l1]; omega
   ·dsimp only; omega
   ·dsimp only; rw [l1]; exact t2
   ·dsimp only; rw [l1]; omega
  have body:∀ (r1:List R1) (rr3:List (List R1)) (v:Nat) (H3:Hp),rr2=r1::rr3->Besides x H' H3->(∀ b,H3 b=none->H' b=none)->H3 x=some (.ins D.cTeller dx (jbH z c v p'))->bs.drop v=cL (inner.map mPc) r1++(cRows (inner.map mPc) lo.toNat (hi.toNat - (rr1.length+1)) (rr1.length+1) rr3++rest) ->
    v+((cL (inner.map mPc) r1).length+(cRows (inner.map mPc) lo.toNat (hi.toNat - (rr1.length+1)) (rr1.length+1) rr3).length)=u+(cRows (inner.map mPc) lo.toNat hi.toNat 0 rr).length ->
    ∀ Dd:Ends,(∀ σ' H'',(∃ m',m' < rr2.length/\∃ st':RoS,st'.r2.length=m'/\RoI D Hb H Hr x dx c a r z inner (tl gap) lo.toNat hi.toNat rr bs rest tr (u+(cRows (inner.map mPc) lo.toNat hi.toNat 0 rr).length) (p+(wGap (inner.map mPc) (tl gap) 0 rr).length) st' σ' H'')->Dd.nx σ' H'') ->
    tSeq (tIfS (fun σ H Q=>jbA 2 σ H fun x H'=>∃ k,TruV K x H' k/\Q k H') (jjs K (jbA 0) (tCB (fun vs H Q=>∃ x,vs=[V.str x]/\x.length<=sizeLine/\Q (.int (x.length:Int)) H) (jaZ (jnl K (jbA 1) "gap") jeM)) rAdd "place") jou)
     (jln (tBM K "list" jfj (jbA 2) (jaZ (jls D.cTeller "values_of" (jnY K D False) [] E0 (jbA 0) (jaZ (jnl K (jbA 1) "parts") jeM)) jeM))) Dd [some (.ref x),some (.ref a),some (.ref r)] H3:=by
   intro r1 rr3 v H3 err bb3 o3 hx3 hb3 hlu3 Dd hD
   have hr3:=bb3 _ _ hr' hrx
   have tk3:=tk'.bes bb3
   have r1m:FitL (inner.map mPc) r1:=f3 r1 (by rw [hall,err]; exact List.mem_append_right _ List.mem_cons_self)
   rw [err,wGap,List.append_assoc,List.append_assoc] at ht'
   rw [err,wGap,List.length_append,List.length_append] at hlp
   have hg5:gap.length<=5:=hg.hi
   have h3':rr.length<=3:=by omega
   have u10:us.length<=10:=by omega
   refine ⟨_,rfl,!us.isEmpty,.inl ⟨us,SqL.of hr3,rfl⟩,?_⟩
   by_cases h0:rr1=[]
   ·subst h0
    cases hus
    rw [if_pos List.length_nil,List.nil_append] at ht'
    rw [if_pos List.length_nil] at hlp
    refine jbn (app _ H3 v p' [] r1 _ _ tk3 hx3 hr3 u10 r1m hb3 hpz' ht' fun d H4 b4 nd4 hd4 hx4 hr4=>hD _ _ (fin r1 rr3 v p' H3 d H4 err bb3 o3 b4 nd4 hd4 hx4 hr4 hb3 hpz' ht' hlu3 ?_))
    have:([]:List Nat).length=0:=rfl
    omega
   ·have hne:(!us.isEmpty)=true:=by
     cases us with
     | nil=>exact absurd (List.length_eq_zero_iff.mp hul.symm) h0
     | cons _ _=>rfl
    rw [hne]
    have hl0:rr1.length≠0:=fun e=>h0 (List.length_eq_zero_iff.mp e)
    rw [if_neg hl0] at ht' hlp
    obtain ⟨t1,t2,_⟩:=jhl ht' (by rw [hzl]; exact hpz')
    refine jcc ⟨_,rfl,x,_,dx,_,_,rfl,hx3,T.kTeller.cl,T.nTellerPlace,jdw,_,rfl,a,_,da,_,_,rfl,tk3.same _ _ ha,clR,ng,eg,gap,rfl,Nat.le_of_lt (jaB (by omega)),_,_,rfl,rfl,dx,_,hx3,jcS,?_⟩
    have e2:jaM "place" (.int ((p':Int)+(gap.length:Int))) (jbH z c v p')=jbH z c v (p'+gap.length):=jcw
    rw [e2]
    have bx:Besides x H3 (L2.upd H3 x (.ins D.cTeller dx (jbH z c v (p'+gap.length)))):=Besides.refl.upd _
    rw [hgl] at t1 t2 hlp
    refine app _ _ v (p'+gap.length) us r1 _ _ (tk3.bes bx) jac (bx _ _ hr3 hrx) u10 r1m hb3 (by omega) t2 fun d H4 b4 nd4 hd4 hx4 hr4=>hD _ _ (fin r1 rr3 v (p'+gap.length) _ d H4 err (bb3.trans bx) (fun b h=>o3 b ?_) b4 nd4 hd4 hx4 hr4 hb3 (by omega) t2 hlu3 (by omega))
    by_cases hbx:b=x
    ·rw [hbx,jac] at h; cases h
    ·rw [jao hbx] at h; exact h
  refine ⟨_,rfl,x,dx,_,rfl,hx',noG,_,rfl,_,rfl,r,us,rfl,.inl (SqL.of hr'),Hb,x,dx,c,a,D.cRows,z,u',p',us.length,lo,hi,bs,rfl,tk',hx',hB,hfl',fun h=>?_,fun h1 h2=>?_,fun h1 h2=>?_⟩
  ·cases rr2 with
   | nil=>rw [List.length_nil] at hrl; omega
   | cons r1 rr3 =>
    rw [List.length_cons] at hrl
    refine ⟨_,rfl,jcc ⟨_,fun _ _ h=>h,?_⟩⟩
    have em:hi.toNat - rr1.length=(hi.toNat - (rr1.length+1))+1:=by omega
    rw [em,jif,if_neg (by omega),List.nil_append] at hb' hlu
    rw [List.length_append] at hlu
    rw [List.append_assoc] at hb'
    exact body r1 rr3 u' H' rfl Besides.refl (fun _ h=>h) hx' hb' hlu _ (fun _ _ h=>h)
  ·cases rr2 with
   | cons r1 rr3=>rw [List.length_cons] at hrl; omega
   | nil =>
    rw [jgC (by omega),if_pos (by omega)] at hlu
    rw [wGap] at hlp
    refine ⟨_,rfl,jbn ⟨_,rfl,?_⟩⟩
    rw [List.append_nil] at hall
    subst hall
    refine q n (.rows inner rr) (.ref r) H' rfl e1 ⟨r,us,rfl,hr',nr,Paired.mapP hus fun _ _ z=>z.older old0⟩ ?_
    have hu1:u'=u+(cRows (inner.map mPc) lo.toNat hi.toNat 0 rr).length:=hlu
    have hp1:p'=p+(wGap (inner.map mPc) (tl gap) 0 rr).length:=hlp
    rw [hu1,hp1] at hx'
    exact hx'
  ·cases rr2 with
   | nil =>
    rw [List.length_nil] at hrl
    rw [jgC (by omega),if_neg (by omega)] at hb' hlu
    rw [wGap] at hlp
    obtain ⟨k1,k2⟩:=jcT (by rw [hb']; rfl)
    refine ⟨false,k1,_,rfl,jbn ⟨_,rfl,?_⟩⟩
    rw [List.append_nil] at hall
    subst hall
    have bx:Besides x H' (L2.upd H' x (.ins D.cTeller dx (jbH z c (u'+1) p'))):=Besides.refl.upd _
    refine q n (.rows inner rr) (.ref r) _ rfl (e1.trans bx) ⟨r,us,rfl,bx _ _ hr' hrx,nr,Paired.mapP hus fun _ _ z=>(z.older old0).bes bx (.inr ⟨_,_,_,hx'⟩)⟩ ?_
    have hu1:u'+1=u+(cRows (inner.map mPc) lo.toNat hi.toNat 0 rr).length:=hlu
    have hp1:p'=p+(wGap (inner.map mPc) (tl gap) 0 rr).length:=hlp
    rw [jac,hu1,hp1]; rfl
   | cons r1 rr3 =>
    rw [List.length_cons] at hrl
    have em:hi.toNat - rr1.length=(hi.toNat - (rr1.length+1))+1:=by omega
    rw [em,jif,if_pos (by omega)] at hb' hlu
    rw [List.length_append,List.length_append,List.length_singleton] at hlu
    obtain ⟨k1,k2⟩:=jcT (show bs.drop u'=true::(cL (inner.map mPc) r1++(cRows (inner.map mPc) lo.toNat (hi.toNat - (rr1.length+1)) (rr1.length+1) rr3++rest)) by rw [hb',List.append_assoc,List.append_assoc]; rfl)
    refine ⟨true,k1,_,rfl,jcc ⟨_,fun _ _ h=>h,?_⟩⟩
    refine body r1 rr3 (u'+1) _ rfl (Besides.refl.upd _) (fun b h=>?_) jac k2 (by omega) _ (fun _ _ h=>h)
    by_cases hbx:b=x
    ·rw [hbx,jac] at h; cases h
    ·rw [jao hbx] at h; exact h
end
open Mth (R1 RQ MP MQ Fit1 FitL FitQ wF cF stepsOf rds paths_form rds_iff steps_down stepsOf_len)
def FrmD (H0 H:Hp) (ps:List Pie) (rs:List RQ) (v:V):Prop:=∃ a kvs,v=.ref a/\H a=some (.dK kvs)/\H0 a=none/\Paired (EntAt H0 H) (jbv ps rs) kvs
theorem RowD.same {H0 H H':Hp} (e:Same H H') {inner:List Pc} {r:List R1} {v:V} (h:RowD H0 H inner r v):RowD H0 H' inner r v:=by
 obtain ⟨a,h1,h2,h3⟩:=h
 exact ⟨a,h1,e _ _ h2,h3⟩
theorem RvAt.same {H0 H H':Hp} (e:Same H H'):∀ {rv:RV} {v:V},RvAt H0 H rv v->RvAt H0 H' rv v
 | .tx _,_,h=>h
 | .rows _ _,_,⟨l,us,h1,h2,h3,h4⟩=>⟨l,us,h1,e _ _ h2,h3,Paired.mapP h4 fun _ _ q=>q.same e⟩
theorem EntAt.same {H0 H H':Hp} (e:Same H H') {en:Str×RV} {kv:Key×V} (h:EntAt H0 H en kv):EntAt H0 H' en kv:=⟨h.1,h.2.same e⟩
theorem FrmD.same {H0 H H':Hp} (e:Same H H') {ps:List Pie} {rs:List RQ} {v:V} (h:FrmD H0 H ps rs v):FrmD H0 H' ps rs v:=by
 obtain ⟨a,kvs,h1,h2,h3,h4⟩:=h
 exact ⟨a,kvs,h1,e _ _ h2,h3,Paired.mapP h4 fun _ _ q=>q.same e⟩
theorem FrmD.older {H0 H1 H:Hp} (o:∀ b,H1 b=none->H0 b=none) {ps:List Pie} {rs:List RQ} {v:V} (h:FrmD H1 H ps rs v):FrmD H0 H ps rs v:=by
 obtain ⟨a,kvs,h1,h2,h3,h4⟩:=h
 exact ⟨a,kvs,h1,h2,o _ h3,Paired.mapP h4 fun _ _ q=>q.older o⟩
theorem jmU:∀ {p:Pc},p.ok->(mPc p).lh
 | .say _,_=>trivial
 | .ask n sg lo hi,⟨_,_,_,h1,h2,h3⟩=>by show lo.toNat<=hi.toNat; omega
theorem jnZ:∀ {p:Pie},p.ok->(mPie p).lh
 | .one p,h=>jmU (p:=p) h
 | .rows n inner gap lo hi,⟨_,hp,hg,h1,h2,h3⟩=>⟨by omega,fun q hq=>by
   obtain ⟨q',hq',rfl⟩:=List.mem_map.mp hq
   exact jmU (hp.all q' hq')⟩
theorem tl_ne {z:Str} (h:1<=z.length):tl z≠[]:=fun e=>by
 have:(tl z).length=z.length:=Array.length_toList
 rw [e,List.length_nil] at this; omega
theorem jig:∀ {p:Pc},p.ok->(mPc p).good
 | .say _,_=>trivial
 | .ask n sg lo hi,⟨_,hs,_⟩=>tl_ne hs.lo
theorem jkI:∀ {p:Pie},p.ok->(mPie p).good
 | .one p,h=>jig (p:=p) h
 | .rows n inner gap lo hi,⟨_,hp,_⟩=>fun q hq=>by
   obtain ⟨q',hq',rfl⟩:=List.mem_map.mp hq
   exact jig (hp.all q' hq')
theorem jbG {ps:List Pie} (ok:FormOk ps):∀ q∈ps.map mPie,q.good:=fun q hq=>by
 obtain ⟨q',hq',rfl⟩:=List.mem_map.mp hq
 exact jkI (ok.all q' hq')
theorem jhn {ps:List Pie} (ok:FormOk ps):∀ q∈ps.map mPie,q.lh:=fun q hq=>by
 obtain ⟨q',hq',rfl⟩:=List.mem_map.mp hq
 exact jnZ (ok.all q' hq')
theorem jeu {ps:List Pie} (ok:FormOk ps):1<=(stepsOf (ps.map mPie)).length/\(stepsOf (ps.map mPie)).length<=900:=by
 have h1:=jkx (m:=0) ok.all
 have h2:=ok.hi
 rw [stepsOf_len]
 omega
section
variable {P:Program} {w:World} {K:PySem.W.Frag} {mg:Str->Option Value} {base:Heap} {D:Adr}
theorem jpD (T:Txt w K mg D):FnOk P w K mg base CX0 5 D.aTellerValuesOf D.dTellerValuesOf ["self","parts"] (jnY K D True):=jpC T (by decide) (ok_RO T)
theorem scRd:FnScope ["form","text","most","steps","found"] ["form","text","most"] (jag jcN):=⟨rfl,rfl,rfl,by decide +kernel,rfl,by decide +kernel,by decide +kernel⟩
def spRd (D:Adr):Sp:=fun vs H Q _=>∃ (H0:Hp) (ps:List Pie) (v:V) (z:Str) (most:Nat),vs=[v,.str z,.int (most:Int)]/\FormAt D.cl H0 H ps v/\FormOk ps/\z.length<=90000/\most<=1000 /\
 ∀ r fv H',H r=none->Same H H'->H' r=some (.lst fv)->Paired (FrmD H H' ps) (((rds (ps.map mPie) (tl z)).take most).map (·.1)) fv->Q (.ref r) H'
theorem joa (T:Txt w K mg D):FnOk P w K mg base CX0 8 D.aReadings D.dReadings ["form","text","most"] (spRd D):=by
 have GS:FnOk P w K mg base CX0 7 D.aStepsOf D.dStepsOf ["form"] (spSO D):=jnU T
 have GP:FnOk P w K mg base CX0 2 D.aFittingPlaces D.dFittingPlaces ["steps","text"] (jpx D):=jpy T
 have GC:FnOk P w K mg base CX0 3 D.aFirstChoices D.dFirstChoices ["steps","fits","most"] (spFC D):=ok_FC T
 have GT:FnOk P w K mg base CX0 1 D.aTellerI D.dTellerI ["self","text","choices"] (spTI D):=ok_TI T
 have GV:FnOk P w K mg base CX0 5 D.aTellerValuesOf D.dTellerValuesOf ["self","parts"] (jnY K D True):=jpD T
 obtain ⟨dfl,F⟩:=T.fReadings
 refine F.ok scRd (fun vs H Q E h=>?_) (fun cdv A outer s H vs Q E hr h=>?_)
 ·obtain ⟨H0,ps,v,z,most,rfl,_⟩:=h; rfl
 ·obtain ⟨H0,ps,v,z,most,rfl,hform,ok,hz,hm,q⟩:=h
  have hr2:Room 2 _:=hr.mono (by decide)
  have hr3:Room 3 _:=hr.mono (by decide)
  have hr5:Room 5 _:=hr.mono (by decide)
  refine ⟨_,jab (jan (i:=3) scRd.nd rfl (Or.inl rfl) (jai GS hr rfl T.mStepsOf T.fStepsOf.kp T.bStepsOf .nil jam (jaa (pv 0) jad)))
   (jab (jan (i:=4) scRd.nd rfl (Or.inl rfl) (jai GC hr3 rfl T.mFirstChoices T.fFirstChoices.kp T.bFirstChoices .nil jam (jaa (pv 3) (jaa (jai GP hr2 rfl T.mFittingPlaces T.fFittingPlaces.kp T.bFittingPlaces .nil jam (jaa (pv 3) (jaa (pv 1) jad))) (jaa (pv 2) jad)))))
   (jae (jak (jbD (cp:=[(0,"form"),(1,"text")]) (te:=jls D.cTeller "values_of" (jnY K D True) [] E0 (joA D.cTeller (spTI D) [] E0 (jaZ (jbA 2) (jaZ (jbA 0) jeM))) (jaZ (jnl K (jbA 1) "plan") jeM)) (CompScope.of (jag jcN) ["form","text","most","steps","found"] rfl rfl (by decide +kernel)) rfl (jaT (pv 4)) (fun _ _ _ _ _=>jbz)
    (fun _ _ _ _ _=>jda (jbx T.mkTeller GT hr2 rfl T.mgTeller T.bTellerI .nil jam (jaa (pv 2) (jaa (pv 0) jad))) T.kTeller.cl T.meTellerValuesOf GV hr5 T.bTellerValuesOf .nil jam (jaa (jaw (pv 1) rfl) jad)))))),?_⟩
  obtain ⟨sl1,sl2⟩:=jeu ok
  refine ⟨_,rfl,H0,ps,v,rfl,hform,ok,fun l H1 nl s1 hst=>?_⟩
  refine ⟨_,rfl,_,rfl,_,rfl,l,z,stepsOf (ps.map mPie),rfl,hst,steps_down (jbG ok),sl1,by omega,hz,fun f xs H2 nf s2 hf hxl hfit=>?_⟩
  refine ⟨_,rfl,l,f,most,stepsOf (ps.map mPie),tl z,xs,rfl,hst.mono s2,steps_down (jbG ok),sl1,sl2,hf,hxl,hfit,hm,fun r1 cv H3 nr1 s3 hr1 hcv=>?_⟩
  have s13:=(s1.trans s2).trans s3
  have hform3:=hform.mono s13
  rw [paths_form,<- List.map_take] at hcv
  have hcl:cv.length=((rds (ps.map mPie) (tl z)).take most).length:=by rw [<- hcv.length,List.length_map]
  have hc1000:cv.length<=1000:=by rw [hcl,List.length_take]; omega
  refine ⟨_,rfl,r1,rfl,⟨_,SqL.of hr1⟩,jbg (xs:=cv) (fun i ys H'=>Same H3 H'/\Paired (FrmD H H' ps) ((((rds (ps.map mPie) (tl z)).take most).map (·.1)).take i) ys) ⟨Same.refl H3,.nil⟩ (fun i ys H' hi e=>⟨SqL.of (e.1 _ _ hr1),?_⟩) (jbp hc1000) (fun i x ys H' hx e=>?_) (fun ys H' e rr hrr=>?_)⟩
  ·rw [<- e.2.length,List.length_take]; omega
  ·obtain ⟨e1,hys⟩:=e
   obtain ⟨cs,ecs,c,rfl,hc⟩:=Paired.two hcv hx
   rw [List.getElem?_map] at ecs
   obtain ⟨rd,erd,rfl⟩:∃ rd,((rds (ps.map mPie) (tl z)).take most)[i]?=some rd/\rd.2=cs:=by
    cases h:((rds (ps.map mPie) (tl z)).take most)[i]? with
    | none=>rw [h] at ecs; cases ecs
    | some rd=>rw [h] at ecs; exact ⟨rd,rfl,Option.some.inj ecs⟩
   obtain ⟨hfit',htx,hcs⟩:=(rds_iff (jhn ok)).mp (List.mem_of_mem_take (List.mem_of_getElem? erd))
   have hc':=e1 _ _ hc
   obtain ⟨a,m,ws,m2,us2,ev,⟨da,fs,ha,hf'⟩,hm',hm0,hpl,_⟩:=id hform3
   subst ev
   have ep:=hf' ("plan",.ref m) List.mem_cons_self
   refine ⟨_,rfl,_,rfl,fun x dx nx ndx ne=>⟨x,dx,c,z,rfl,jac,fun H5 b5 hx5=>⟨rfl,?_⟩⟩⟩
   have s5:Same H' H5:=jbP (C:=D.cTeller) nx ndx b5
   have s35:=e1.trans s5
   refine ⟨x,dx,_,rfl,hx5,jdo (by decide +kernel) (by decide +kernel) (by decide +kernel) (by decide +kernel),_,rfl,a,_,da,_,_,rfl,s35 _ _ ha,T.kForm.cl,T.nFormPlan,ep,H',H0,x,dx,c,m,z,0,0,ps,ws,rd.1,rd.2,[],[],rfl,⟨s5,nx,hc'⟩,hx5,e1 _ _ hm',Paired.mapP hpl fun _ _ q=>q.mono e1,fun q hq=>⟨ok.all q hq,fun _=>trivial⟩,ok.nd,Nat.le_trans ok.hi (by decide),hfit',?_,Nat.zero_le _,?_,hz,fun a2 kvs H6 b6 na2 ha2 hp2 hx6=>?_⟩
   ·rw [List.drop_zero,List.append_nil]; exact hcs
   ·rw [List.drop_zero,List.append_nil]; exact htx
   ·have s6:Same H' H6:=jaK s5 nx b6
    have old:∀ b,H5 b=none->H b=none:=fun b h=>s13.free (s35.free h)
    refine ⟨e1.trans s6,?_⟩
    have et:((((rds (ps.map mPie) (tl z)).take most).map (·.1)))[i]?=some rd.1:=by rw [List.getElem?_map,erd]; rfl
    rw [jaC et]
    exact Paired.snoc (Paired.mapP hys fun _ _ q=>q.same s6) ⟨a2,kvs,rfl,ha2,old _ na2,Paired.mapP hp2 fun _ _ q=>q.older old⟩
  ·obtain ⟨e1,hys⟩:=e
   rw [hcl,List.take_of_length_le (by rw [List.length_map]; exact Nat.le_refl _)] at hys
   have g:=jah hrr (.lst ys)
   refine q rr ys _ (s13.free (e1.free hrr)) ((s13.trans e1).trans g) jac (Paired.mapP hys fun _ _ q=>q.same g)
end
def cellOf (ns:List Int) (k:Int):Int:=if k < (ns.length:Int) then ns.getD k.toNat 0 else 0
def jaR (ns:List Int) (k:Int):Int :=
 (((cellOf ns (k % 61)+7919 * k+104729) * 48271 % 2147483647) * ((cellOf ns (k % 61)+7919 * k+104729) * 48271 % 2147483647) % 2147483647) * 16807 % 2147483647 / 8
def sigs:List Str:=["a","ab","abc","b","0123456789","xyz-","ba ","Zz.","c,","\n/"]
def says:List Str:=["x","ab","-",": ","a",", ","Dear ","\n","b","ba","(0)","c;c"]
def gaps:List Str:=["",", ","\n","a","--"]
theorem jkJ:∀ z∈sigs,SignsOk z 1 20/\(sgn z).Nodup:=by
 have h:sigs.all (fun z=>decide (1<=z.length)&&decide (z.length<=20)&&z.cps.toList.all (fun c=>decide (c∈SIGNS.cps.toList))&&decide ((sgn z).Nodup))=true:=by decide +kernel
 intro z hz
 have:=List.all_eq_true.mp h z hz
 simp only [Bool.and_eq_true,decide_eq_true_eq,List.all_eq_true] at this
 exact ⟨⟨this.1.1.1,this.1.1.2,this.1.2⟩,this.2⟩
theorem jkK:∀ z∈says,SignsOk z 1 12:=by
 have h:says.all (fun z=>decide (1<=z.length)&&decide (z.length<=12)&&z.cps.toList.all (fun c=>decide (c∈SIGNS.cps.toList)))=true:=by decide +kernel
 intro z hz
 have:=List.all_eq_true.mp h z hz
 simp only [Bool.and_eq_true,decide_eq_true_eq,List.all_eq_true] at this
 exact ⟨this.1.1,this.1.2,this.2⟩
theorem job:∀ z∈gaps,SignsOk z 0 5:=by
 have h:gaps.all (fun z=>decide (0<=z.length)&&decide (z.length<=5)&&z.cps.toList.all (fun c=>decide (c∈SIGNS.cps.toList)))=true:=by decide +kernel
 intro z hz
 have:=List.all_eq_true.mp h z hz
 simp only [Bool.and_eq_true,decide_eq_true_eq,List.all_eq_true] at this
 exact ⟨this.1.1,this.1.2,this.2⟩
theorem jmV {α:Type} {xs:List α} {i:Int} (h0:0<=i) (h1:i < (xs.length:Int)):∃ v,v∈xs/\atI xs i=some v/\xs[i.toNat]?=some v:=by
 have hk:i.toNat < xs.length:=by omega
 have e:i=((i.toNat:Nat):Int):=by omega
 have q:atI xs ((i.toNat:Nat):Int)=some xs[i.toNat]:=jba (List.getElem?_eq_getElem hk)
 rw [<- e] at q
 exact ⟨xs[i.toNat],List.getElem_mem hk,q,List.getElem?_eq_getElem hk⟩
theorem jcU {zs:List Str} {i:Int} (h0:0<=i) (h1:i < (zs.length:Int)):∃ z,z∈zs/\atI (zs.map V.str) i=some (.str z)/\zs[i.toNat]?=some z:=by
 obtain ⟨v,_,e,_⟩:=jmV (xs:=zs.map V.str) (i:=i) h0 (by rw [List.length_map]; exact h1)
 have hk:i.toNat < zs.length:=by omega
 refine ⟨zs[i.toNat],List.getElem_mem hk,?_,List.getElem?_eq_getElem hk⟩
 have e2:i=((i.toNat:Nat):Int):=by omega
 have q:atI (zs.map V.str) ((i.toNat:Nat):Int)=some (.str zs[i.toNat]):=jba (by rw [List.getElem?_map,List.getElem?_eq_getElem hk]; rfl)
 rw [<- e2] at q
 exact q
section
variable {P:Program} {w:World} {K:PySem.W.Frag} {mg:Str->Option Value} {base:Heap} {D:Adr}
structure Scr (K:PySem.W.Frag) (H:Hp) (a:Addr) (ns:List Int):Prop where
 at':SqL K H a (ns.map V.int)
 few:ns.length<=63
theorem Scr.mono {H H':Hp} {a:Addr} {ns:List Int} (e:Same H H') (h:Scr K H a ns):Scr K H' a ns:=⟨e.seq h.at',h.few⟩
theorem jpE:FnScope ["script","k"] ["script","k"] (jag jdl):=⟨rfl,rfl,rfl,by decide +kernel,rfl,by decide +kernel,by decide +kernel⟩
def jmW (K:PySem.W.Frag):Sp:=fun vs H Q _=>∃ (a:Addr) (ns:List Int) (k:Int),vs=[.ref a,.int k]/\Scr K H a ns/\0<=k/\Q (.int (cellOf ns k)) H
theorem joc (T:Txt w K mg D):FnOk P w K mg base CX0 1 D.aLawCellAt D.dLawCellAt ["script","k"] (jmW K):=by
 refine T.fLawCellAt.ok jpE (fun vs H Q E h=>?_) (fun cdv A outer s H vs Q E hr h=>?_)
 ·obtain ⟨a,ns,k,rfl,_⟩:=h; rfl
 ·obtain ⟨a,ns,k,rfl,⟨hS,h63⟩,h0,q⟩:=h
  have hl:(ns.map V.int).length=ns.length:=List.length_map _
  refine ⟨_,jab (jay (jat jiu (pv 1) (jaj jav rfl T.zLen PySem.boot_len (jaa (pv 0) jad)) (jax _)) (jae (jak (jap jaG (pv 0) (pv 1) (fun _ _=>rfl)))) jaq) (jae (jak jaf)),?_⟩
  refine ⟨_,rfl,_,rfl,a,_,rfl,.inl hS,_,_,rfl,rfl,_,rfl,?_⟩
  by_cases c:k < (((ns.map V.int).length:Nat):Int)
  ·have c':=c
   rw [hl] at c'
   obtain ⟨i,hi⟩:∃ i:Nat,k=(i:Int):=⟨k.toNat,by omega⟩
   subst hi
   have hi':i < ns.length:=by omega
   refine jcr c ⟨_,rfl,_,rfl,a,_,_,_,rfl,rfl,hS,jba (v:=.int ns[i]) (by rw [List.getElem?_map,List.getElem?_eq_getElem hi']; rfl),?_⟩
   have e:cellOf ns (i:Int)=ns[i]:=by
    unfold cellOf
    rw [if_pos c',Int.toNat_natCast,List.getD_eq_getElem?_getD,List.getElem?_eq_getElem hi']
    rfl
   rw [e] at q
   exact q
  ·refine jbe c ?_
   rw [hl] at c
   have e:cellOf ns k=0:=by unfold cellOf; rw [if_neg c]
   rw [e] at q
   exact q
theorem scDraw:FnScope ["script","k","stir"] ["script","k"] (jag jfr):=⟨rfl,rfl,rfl,by decide +kernel,rfl,by decide +kernel,by decide +kernel⟩
def jev (K:PySem.W.Frag):Sp:=fun vs H Q _=>∃ (a:Addr) (ns:List Int) (k:Int),vs=[.ref a,.int k]/\Scr K H a ns/\0<=k/\k<=1000000/\Q (.int (jaR ns k)) H
theorem jdp (T:Txt w K mg D):FnOk P w K mg base CX0 2 D.aLawDraw D.dLawDraw ["script","k"] (jev K):=by
 have G:FnOk P w K mg base CX0 1 D.aLawCellAt D.dLawCellAt ["script","k"] (jmW K):=joc T
 refine T.fLawDraw.ok scDraw (fun vs H Q E h=>?_) (fun cdv A outer s H vs Q E hr h=>?_)
 ·obtain ⟨a,ns,k,rfl,_⟩:=h; rfl
 ·obtain ⟨a,ns,k,rfl,hS,h0,h1,q⟩:=h
  refine ⟨_,jab (jan (i:=2) scDraw.nd rfl (Or.inl rfl) (jar jbd (jar jdq (jar jaL (jar jaL (jai G hr rfl T.mLawCellAt T.fLawCellAt.kp T.bLawCellAt .nil jam (jaa (pv 0) (jaa (jar jbd (pv 1) jaf) jad))) (jar jdq jaf (pv 1))) jaf) jaf) jaf))
   (jab (jan (i:=2) scDraw.nd rfl (Or.inl rfl) (jar jbd (jar jdq (pv 2) (pv 2)) jaf))
   (jae (jak (jar jcy (jar jbd (jar jdq (pv 2) jaf) jaf) jaf)))),?_⟩
  refine ⟨_,rfl,_,rfl,_,_,rfl,rfl,(by show (0:Int) < 61; decide),a,ns,k % 61,rfl,hS,Int.emod_nonneg _ (by decide),_,rfl,_,_,rfl,rfl,.inl ⟨by decide,by decide⟩,_,_,rfl,rfl,_,_,rfl,rfl,_,_,rfl,rfl,.inr ⟨by decide,by decide⟩,_,_,rfl,rfl,(by show (0:Int) < 2147483647; decide),?_⟩
  have b0:0<=(cellOf ns (k % 61)+7919 * k+104729) * 48271 % 2147483647:=Int.emod_nonneg _ (by decide)
  have b1:(cellOf ns (k % 61)+7919 * k+104729) * 48271 % 2147483647 < 2147483647:=Int.emod_lt_of_pos _ (by decide)
  refine ⟨_,rfl,_,rfl,_,_,rfl,rfl,.inl ⟨by omega,by omega⟩,_,_,rfl,rfl,(by show (0:Int) < 2147483647; decide),?_⟩
  exact ⟨_,rfl,_,_,rfl,rfl,.inr ⟨by decide,by decide⟩,_,_,rfl,rfl,(by show (0:Int) < 2147483647; decide),_,_,rfl,rfl,⟨by decide,by decide⟩,q⟩
theorem scSigns:FnScope ["cell","some"] ["cell"] (jag jck):=⟨rfl,rfl,rfl,by decide +kernel,rfl,by decide +kernel,by decide +kernel⟩
def jgD (zs:List Str):Sp:=fun vs H Q _=>∃ c:Int,vs=[.int c]/\∀ z∈zs,∀ H',Same H H'->Q (.str z) H'
theorem jfa {X:Cx} {i:Nat} {x:Str} {es:List Expr} {p pos pos':Pos} (zs:List Str) (hN:X.N.Nodup) (hi:X.N[i]?=some x) (hx:Loc X.env.scope x) (hf:X.env.scope.names.lookup x=some .local) (h:jgk es=some zs):PS X (.Assign [.Name x pos'] (.List es p) pos) (tAsg (tLst (jny zs)) (jiq i)) :=
 jan hN hi hx (jfk zs h) rfl (.inr hf)
theorem jiS:∃ (es:List Expr) (p1 p2 p3:Pos),jgk es=some sigs/\jaU jck=.Assign [.Name "some" p1] (.List es p2) p3::(jaU jck).tail:=⟨_,_,_,_,by decide +kernel,rfl⟩
theorem jlT (T:Txt w K mg D):FnOk P w K mg base CX0 1 D.aLawSigns D.dLawSigns ["cell"] (jgD sigs):=by
 refine T.fLawSigns.ok scSigns (fun vs H Q E h=>?_) (fun cdv A outer s H vs Q E hr h=>?_)
 ·obtain ⟨c,rfl,_⟩:=h; rfl
 ·obtain ⟨c,rfl,q⟩:=h
  obtain ⟨es,p1,p2,p3,he,hb⟩:=jiS
  rw [hb]
  refine ⟨_,jab (jfa (i:=1) sigs scSigns.nd rfl (Or.inl rfl) rfl he)
   (jae (jak (jap jaG (pv 1) (jar jbd (pv 0) jaf) (fun _ _=>rfl)))),?_⟩
  refine ⟨(by show 10<=sizeLine; decide),fun l hl=>?_⟩
  obtain ⟨z,hz,ez,_⟩:=jcU (zs:=sigs) (i:=c % 10) (Int.emod_nonneg _ (by decide)) (Int.emod_lt_of_pos _ (by decide))
  exact ⟨_,rfl,_,rfl,_,_,rfl,rfl,(by show (0:Int) < 10; decide),l,sigs.map V.str,_,_,rfl,rfl,SqL.of jac,ez,q z hz _ (jah hl _)⟩
theorem scSayL:FnScope ["cell","some"] ["cell"] (jag jel):=⟨rfl,rfl,rfl,by decide +kernel,rfl,by decide +kernel,by decide +kernel⟩
theorem jlU:∃ (es:List Expr) (p1 p2 p3:Pos),jgk es=some says/\jaU jel=.Assign [.Name "some" p1] (.List es p2) p3::(jaU jel).tail:=⟨_,_,_,_,by decide +kernel,rfl⟩
theorem jmX (T:Txt w K mg D):FnOk P w K mg base CX0 1 D.aLawSay D.dLawSay ["cell"] (jgD says):=by
 refine T.fLawSay.ok scSayL (fun vs H Q E h=>?_) (fun cdv A outer s H vs Q E hr h=>?_)
 ·obtain ⟨c,rfl,_⟩:=h; rfl
 ·obtain ⟨c,rfl,q⟩:=h
  obtain ⟨es,p1,p2,p3,he,hb⟩:=jlU
  rw [hb]
  refine ⟨_,jab (jfa (i:=1) says scSayL.nd rfl (Or.inl rfl) rfl he)
   (jae (jak (jap jaG (pv 1) (jar jbd (pv 0) jaf) (fun _ _=>rfl)))),?_⟩
  refine ⟨(by show 12<=sizeLine; decide),fun l hl=>?_⟩
  obtain ⟨z,hz,ez,_⟩:=jcU (zs:=says) (i:=c % 12) (Int.emod_nonneg _ (by decide)) (Int.emod_lt_of_pos _ (by decide))
  exact ⟨_,rfl,_,rfl,_,_,rfl,rfl,(by show (0:Int) < 12; decide),l,says.map V.str,_,_,rfl,rfl,SqL.of jac,ez,q z hz _ (jah hl _)⟩
theorem scAskL:FnScope ["script","k","name","most","cell","least"] ["script","k","name","most"] (jag jhg):=⟨rfl,rfl,rfl,by decide +kernel,rfl,by decide +kernel,by decide +kernel⟩
def jkL (K:PySem.W.Frag):Sp:=fun vs H Q _=>∃ (a:Addr) (ns:List Int) (k:Int) (nm:Str) (most:Int),vs=[.ref a,.int k,.str nm,.int most]/\Scr K H a ns/\0<=k/\k<=1000000/\nm≠""/\0<=most/\most<=4 /\
 ∀ (sg:Str) (lo hi:Int) (u:V) (H':Hp),Same H H'->(Pc.ask nm sg lo hi).At H' u->(Pc.ask nm sg lo hi).ok->hi<=most->Q u H'
theorem jkM (T:Txt w K mg D):FnOk P w K mg base CX0 3 D.aLawAsk D.dLawAsk ["script","k","name","most"] (jkL K):=by
 have G:FnOk P w K mg base CX0 2 D.aLawDraw D.dLawDraw ["script","k"] (jev K):=jdp T
 have GS:FnOk P w K mg base CX0 1 D.aLawSigns D.dLawSigns ["cell"] (jgD sigs):=jlT T
 refine T.fLawAsk.ok scAskL (fun vs H Q E h=>?_) (fun cdv A outer s H vs Q E hr h=>?_)
 ·obtain ⟨a,ns,k,nm,most,rfl,_⟩:=h; rfl
 ·obtain ⟨a,ns,k,nm,most,rfl,hS,h0,h1,hn,m0,m1,q⟩:=h
  have hr1:Room 1 _:=hr.mono (by decide)
  refine ⟨_,jab (jan (i:=4) scAskL.nd rfl (Or.inl rfl) (jai G hr rfl T.mLawDraw T.fLawDraw.kp T.bLawDraw .nil jam (jaa (pv 0) (jaa (pv 1) jad))))
   (jab (jan (i:=5) scAskL.nd rfl (Or.inl rfl) (jar jbd (jar jcy (pv 4) jaf) (jar jaL (pv 3) jaf)))
   (jae (jak (jbf (jaa jaz (jaa (pv 2) (jaa (jai GS hr1 rfl T.mLawSigns T.fLawSigns.kp T.bLawSigns .nil jam (jaa (pv 4) jad)) (jaa (pv 5) (jaa (jar jaL (pv 5) (jar jbd (jar jcy (pv 4) jaf) (jar jbr (jar jaL (pv 3) jaf) (pv 5)))) jad))))))))),?_⟩
  refine ⟨_,rfl,_,rfl,a,ns,k,rfl,hS,h0,h1,?_⟩
  generalize jaR ns k=c
  refine ⟨_,rfl,_,_,rfl,rfl,⟨by decide,by decide⟩,_,rfl,_,_,rfl,rfl,_,_,rfl,rfl,(by show 0 < most+1; omega),?_⟩
  have l0:0<=c / 10 % (most+1):=Int.emod_nonneg _ (by omega)
  have l1:c / 10 % (most+1) < most+1:=Int.emod_lt_of_pos _ (by omega)
  refine ⟨_,rfl,_,rfl,c,rfl,fun sg hsg H1 e1=>?_⟩
  refine ⟨_,rfl,_,rfl,_,rfl,_,_,rfl,rfl,⟨by decide,by decide⟩,_,rfl,_,_,rfl,rfl,_,rfl,_,_,rfl,rfl,_,_,rfl,rfl,(by show 0 < most+1 - c / 10 % (most+1); omega),_,_,rfl,rfl,(by show 5<=sizeLine; decide),fun p hp=>?_⟩
  have d0:0<=c / 60 % (most+1 - c / 10 % (most+1)):=Int.emod_nonneg _ (by omega)
  have d1:c / 60 % (most+1 - c / 10 % (most+1)) < most+1 - c / 10 % (most+1):=Int.emod_lt_of_pos _ (by omega)
  refine q sg (c / 10 % (most+1)) (c / 10 % (most+1)+c / 60 % (most+1 - c / 10 % (most+1))) _ _ (e1.trans (jah hp _)) ⟨p,rfl,jac⟩ ⟨hn,(jkJ sg hsg).1,(jkJ sg hsg).2,l0,by omega,by omega⟩ (by omega)
end
theorem Same.updN {H H':Hp} {r:Addr} (e:Same H H') (h:H r=none) (o:HO):Same H (L2.upd H' r o):=fun b u q=>by rw [jao (ne_of_none q h)]; exact e b u q
theorem Pc.At.updL {H:Hp} {r:Addr} {us:List V} (hr:H r=some (.lst us)) (o:HO) {p:Pc} {v:V} (h:p.At H v):p.At (L2.upd H r o) v:=by
 obtain ⟨a,rfl,ha⟩:=h
 exact ⟨a,rfl,by rw [jao (jbw ha hr (by intro z; cases z))]; exact ha⟩
def Pc.lim (m:Int):Pc->Prop
 | .say _=>True
 | .ask _ _ _ hi=>hi<=m
def Pie.lim (m:Int):Pie->Prop
 | .one p=>p.lim m
 | .rows _ inner ..=>∀ p∈inner,p.lim m
def names3:List Str:=["who","day","w"]
def names6:List Str:=["who","w","day","first_name = 1?","whom","e-mail@"]
theorem n3_nd:names3.Nodup:=by decide +kernel
theorem n3_ne:∀ z∈names3,z≠"":=by decide +kernel
theorem n6_nd:names6.Nodup:=by decide +kernel
theorem n6_ne:∀ z∈names6,z≠"":=by decide +kernel
structure NamesIn (ns:List Str) (L:List Str):Prop where
 nd:ns.Nodup
 sub:∀ n∈ns,n∈L
theorem NamesIn.nil {L:List Str}:NamesIn [] L:=⟨List.nodup_nil,fun _ h=>nomatch h⟩
theorem NamesIn.wide {ns L L':List Str} (h:NamesIn ns L) (s:∀ n∈L,n∈L'):NamesIn ns L':=⟨h.nd,fun n hn=>s n (h.sub n hn)⟩
theorem NamesIn.add {ns L L':List Str} {x:Str} (h:NamesIn ns L) (hx:x∉L) (s:∀ n∈L,n∈L') (hx':x∈L'):NamesIn (ns++[x]) L':=by
 refine ⟨?_,fun n hn=>?_⟩
 ·rw [List.nodup_append]
  refine ⟨h.nd,by simp,fun a ha b hb e=>?_⟩
  have:b=x:=by simpa using hb
  subst this
  subst e
  exact hx (h.sub _ ha)
 ·rcases List.mem_append.mp hn with z | z
  ·exact s n (h.sub n z)
  ·have:n=x:=by simpa using z
   rw [this]; exact hx'
theorem jih {α:Type} {l:List α} {i:Nat}:∀ n∈l.take i,n∈l.take (i+1):=fun n hn=>(List.take_subset_take_left l (Nat.le_succ i)) hn
theorem jod {l:List Str} (nd:l.Nodup) {i:Nat} {z:Str} (h:l[i]?=some z):z∉l.take i/\z∈l.take (i+1):=by
 have e:=jaC h
 have hn:(l.take (i+1)).Nodup:=nd.sublist (List.take_sublist _ _)
 rw [e,List.nodup_append] at hn
 refine ⟨fun hz=>hn.2.2 z hz z (by simp) rfl,?_⟩
 rw [e]; simp
section
variable {P:Program} {w:World} {K:PySem.W.Frag} {mg:Str->Option Value} {base:Heap} {D:Adr}
theorem scInner:FnScope ["script","k","many","most","names","row","j"] ["script","k","many","most"] (jag jem):=⟨rfl,rfl,rfl,by decide +kernel,rfl,by decide +kernel,by decide +kernel⟩
def jkN (K:PySem.W.Frag):Sp:=fun vs H Q _=>∃ (a:Addr) (ns:List Int) (k many most:Int),vs=[.ref a,.int k,.int many,.int most]/\Scr K H a ns/\0<=k/\k<=900000/\1<=many/\many<=3/\0<=most/\most<=4 /\
 ∀ (r:Addr) (us:List V) (ps:List Pc) (H':Hp),Same H H'->H r=none->H' r=some (.lst us)->Paired (Pc.At H') ps us->PartsOk ps->(∀ n∈ps.flatMap Pc.nm,n∈names3)->(∀ p∈ps,p.lim most)->Q (.ref r) H'
theorem jlV (T:Txt w K mg D):FnOk P w K mg base CX0 4 D.aLawInner D.dLawInner ["script","k","many","most"] (jkN K):=by
 have G:FnOk P w K mg base CX0 2 D.aLawDraw D.dLawDraw ["script","k"] (jev K):=jdp T
 have GS:FnOk P w K mg base CX0 1 D.aLawSay D.dLawSay ["cell"] (jgD says):=jmX T
 have GA:FnOk P w K mg base CX0 3 D.aLawAsk D.dLawAsk ["script","k","name","most"] (jkL K):=jkM T
 refine T.fLawInner.ok scInner (fun vs H Q E h=>?_) (fun cdv A outer s H vs Q E hr h=>?_)
 ·obtain ⟨a,ns,k,many,most,rfl,_⟩:=h; rfl
 ·obtain ⟨a,ns,k,many,most,rfl,hS,h0,h1,n1,n2,m0,m1,q⟩:=h
  have hr1:Room 1 _:=hr.mono (by decide)
  have hr2:Room 2 _:=hr.mono (by decide)
  refine ⟨_,jab (jan (i:=4) scInner.nd rfl (Or.inl rfl) (jfk names3 (by decide +kernel)))
   (jab (jan (i:=5) scInner.nd rfl (Or.inl rfl) (jbj jad))
   (jab (jbb PassesOwn.never rfl (jbQ rfl T.zRange (jaa (jar jaL jaf (jar jbd (jai G hr2 rfl T.mLawDraw T.fLawDraw.kp T.bLawDraw .nil jam (jaa (pv 0) (jaa (pv 1) jad))) (pv 2))) jad)) (jaE (i:=6) scInner.nd rfl (Or.inl rfl))
    (jae (jay (jat jbR (jar jbd (jai G hr2 rfl T.mLawDraw T.fLawDraw.kp T.bLawDraw .nil jam (jaa (pv 0) (jaa (jar jaL (jar jaL (pv 1) jaf) (pv 6)) jad))) jaf) jaf (jax _))
     (jae (jas (jbS PySem.F.plainAttrs_list PySem.F.slot_list_append PySem.F.type_list_append jaH (pv 5) (jaa (jbf (jaa jaz (jaa (jai GS hr1 rfl T.mLawSay T.fLawSay.kp T.bLawSay .nil jam (jaa (jai G hr2 rfl T.mLawDraw T.fLawDraw.kp T.bLawDraw .nil jam (jaa (pv 0) (jaa (jar jaL (jar jaL (pv 1) jaf) (pv 6)) jad))) jad)) jad))) jad))))
     (jae (jas (jbS PySem.F.plainAttrs_list PySem.F.slot_list_append PySem.F.type_list_append jaH (pv 5) (jaa (jai GA hr rfl T.mLawAsk T.fLawAsk.kp T.bLawAsk .nil jam (jaa (pv 0) (jaa (jar jaL (jar jaL (pv 1) jaf) (pv 6)) (jaa (jap jaG (pv 4) (pv 6) (fun _ _=>rfl)) (jaa (pv 3) jad))))) jad)))))))
   (jae (jak (pv 5))))),?_⟩
  refine ⟨(by show 3<=sizeLine; decide),fun nl hnl=>⟨(by show 0<=sizeLine; decide),fun r hr'=>?_⟩⟩
  have s1:=jah hnl (.lst (names3.map V.str))
  have s2:=jah hr' (.lst [])
  have s12:Same H _:=s1.trans s2
  have d0:0<=jaR ns k % many:=Int.emod_nonneg _ (by omega)
  have d1:jaR ns k % many < many:=Int.emod_lt_of_pos _ (by omega)
  refine ⟨_,rfl,_,rfl,a,ns,k,rfl,hS.mono s12,h0,by omega,_,rfl,_,_,rfl,rfl,(by show 0 < many; omega),_,_,rfl,rfl,1+jaR ns k % many,rfl,by omega,by omega,?_⟩
  generalize hn:(1+jaR ns k % many).toNat=n
  have hn3:n<=3:=by omega
  have hn1:1<=n:=by omega
  refine jcs (lo:=0) (n:=n) (fun i σ H'=>∃ (us:List V) (ps:List Pc) (o:Option V),σ=[some (.ref a),some (.int k),some (.int many),some (.int most),some (.ref nl),some (.ref r),o]/\Same H H'/\H' nl=some (.lst (names3.map V.str))/\H' r=some (.lst us) /\
   Paired (Pc.At H') ps us/\ps.length=i/\(∀ p∈ps,p.ok/\p.lim most)/\NamesIn (ps.flatMap Pc.nm) (names3.take i))
   ⟨[],[],none,rfl,s12,s2 _ _ jac,jac,.nil,rfl,(fun _ z=>nomatch z),NamesIn.nil⟩ (fun i σ H' hi e D1 hD1=>?_) (fun σ H' e=>?_)
  ·obtain ⟨us,ps,o,rfl,e1,enl,er,ep,el,eo,en⟩:=e
   have hus:us.length=i:=by rw [<- el]; exact ep.length.symm
   have nr0:H r=none:=s1.free hr'
   have hlen:us.length < sizeLine:=jbs (by omega)
   refine ⟨_,rfl,_,rfl,_,_,rfl,rfl,_,rfl,_,_,rfl,rfl,a,ns,k+1+(0+(i:Int)),rfl,hS.mono e1,by omega,by omega,_,_,rfl,rfl,(by show (0:Int) < 3; decide),rfl,_,rfl,?_⟩
   refine ite2 (fun _=>?_) (fun _=>?_)
   ·refine ⟨_,rfl,.inl ⟨rfl,_,SqL.of er⟩,_,rfl,_,rfl,_,_,rfl,rfl,_,rfl,_,_,rfl,rfl,a,ns,k+5+(0+(i:Int)),rfl,hS.mono e1,by omega,by omega,_,rfl,fun z hz H2 e2=>⟨(by show 2<=sizeLine; decide),fun p hp=>?_⟩⟩
    have e3:=jah hp (.tup [.str "say",.str z])
    have er3:=e3 _ _ (e2 _ _ er)
    refine ⟨r,us,.ref p,rfl,rfl,er3,hlen,?_⟩
    refine hD1 _ _ ⟨us++[.ref p],ps++[.say z],_,rfl,Same.updN (e1.trans (e2.trans e3)) nr0 _,?_,jac,?_,by rw [List.length_append,el]; rfl,?_,?_⟩
    ·rw [jao (fun z=>by rw [z] at enl; rw [er] at enl; cases enl; simp [names3] at hus; omega)]
     exact e3 _ _ (e2 _ _ enl)
    ·exact (Paired.mapP ep fun _ _ z=>(Pc.At.mono (e2.trans e3) z).updL er3 _).snoc (Pc.At.updL er3 _ ⟨p,rfl,jac⟩)
    ·intro x hx
     rcases List.mem_append.mp hx with y | y
     ·exact eo x y
     ·have:x=.say z:=by simpa using y
      subst this
      exact ⟨jkK z hz,trivial⟩
    ·have ef:(ps++[Pc.say z]).flatMap Pc.nm=ps.flatMap Pc.nm:=by simp [Pc.nm]
     rw [ef]
     exact en.wide jih
   ·obtain ⟨z,hz,ez,ez'⟩:=jcU (zs:=names3) (i:=0+(i:Int)) (by omega) (by show 0+(i:Int) < 3; omega)
    have ez2:names3[i]?=some z:=by rw [show (0+(i:Int)).toNat=i by omega] at ez'; exact ez'
    obtain ⟨w1,w2⟩:=jod n3_nd ez2
    refine ⟨_,rfl,.inl ⟨rfl,_,SqL.of er⟩,_,rfl,_,rfl,_,_,rfl,rfl,_,rfl,_,_,rfl,rfl,_,rfl,_,rfl,nl,_,_,_,rfl,rfl,SqL.of enl,ez,_,rfl,a,ns,k+9+(0+(i:Int)),z,most,rfl,hS.mono e1,by omega,by omega,n3_ne z hz,m0,m1,fun sg lo hi u H2 e2 at2 ok2 lim2=>?_⟩
    have er2:=e2 _ _ er
    refine ⟨r,us,u,rfl,rfl,er2,hlen,?_⟩
    refine hD1 _ _ ⟨us++[u],ps++[.ask z sg lo hi],_,rfl,Same.updN (e1.trans e2) nr0 _,?_,jac,?_,by rw [List.length_append,el]; rfl,?_,?_⟩
    ·rw [jao (fun z=>by rw [z] at enl; rw [er] at enl; cases enl; simp [names3] at hus; omega)]
     exact e2 _ _ enl
    ·exact (Paired.mapP ep fun _ _ z=>(Pc.At.mono e2 z).updL er2 _).snoc (at2.updL er2 _)
    ·intro x hx
     rcases List.mem_append.mp hx with y | y
     ·exact eo x y
     ·have:x=.ask z sg lo hi:=by simpa using y
      subst this
      exact ⟨ok2,lim2⟩
    ·have ef:(ps++[Pc.ask z sg lo hi]).flatMap Pc.nm=ps.flatMap Pc.nm++[z]:=by simp [Pc.nm]
     rw [ef]
     exact en.add w1 jih w2
  ·obtain ⟨us,ps,o,rfl,e1,enl,er,ep,el,eo,en⟩:=e
   exact ⟨_,rfl,q r us ps H' e1 (s1.free hr') er ep ⟨by omega,by omega,fun p hp=>(eo p hp).1,en.nd⟩ (fun n hn=>List.mem_of_mem_take (en.sub n hn)) (fun p hp=>(eo p hp).2)⟩
end
def Pie.nn:Pie->Prop
 | .one _=>True
 | .rows _ inner ..=>∀ n∈inner.flatMap Pc.nm,n∈names3
def Pie.AtN (r:Addr) (H:Hp):Pie->V->Prop
 | .one p,v=>p.At H v
 | .rows n inner gap lo hi,v=>∃ a l vs,v=.ref a/\H a=some (.tup [.str "rows",.str n,.ref l,.str gap,.int lo,.int hi])/\H l=some (.lst vs)/\l≠r/\Paired (Pc.At H) inner vs
theorem Pie.AtN.at' {r:Addr} {H:Hp}:∀ {p:Pie} {v:V},p.AtN r H v->p.At H v
 | .one p,v,h=>h
 | .rows ..,v,⟨a,l,vs,h1,h2,h3,_,h4⟩=>⟨a,l,vs,h1,h2,h3,h4⟩
theorem Pie.AtN.mono {r:Addr} {H H':Hp} (e:Same H H'):∀ {p:Pie} {v:V},p.AtN r H v->p.AtN r H' v
 | .one p,v,h=>Pc.At.mono (p:=p) e h
 | .rows ..,v,⟨a,l,vs,h1,h2,h3,h5,h4⟩=>⟨a,l,vs,h1,e _ _ h2,e _ _ h3,h5,Paired.mapP h4 fun _ _ q=>q.mono e⟩
theorem Pie.AtN.updL {H:Hp} {r:Addr} {us:List V} (hr:H r=some (.lst us)) (o:HO):∀ {p:Pie} {v:V},p.AtN r H v->p.AtN r (L2.upd H r o) v
 | .one p,v,h=>Pc.At.updL hr o (p:=p) h
 | .rows ..,v,⟨a,l,vs,e,ha,hl,nl,hp⟩=>⟨a,l,vs,e,by rw [jao (jbw ha hr (by intro z; cases z))]; exact ha,by rw [jao nl]; exact hl,nl,Paired.mapP hp fun _ _ z=>z.updL hr o⟩
theorem Pie.AtF.n {r:Addr} {H0 H:Hp} (hr:H0 r≠none):∀ {p:Pie} {v:V},p.AtF H0 H v->p.AtN r H v
 | .one p,v,h=>h
 | .rows ..,v,⟨a,l,vs,h1,h2,h3,h5,h4⟩=>⟨a,l,vs,h1,h2,h3,(fun z=>hr (by rw [<- z]; exact h5)),h4⟩
section
variable {P:Program} {w:World} {K:PySem.W.Frag} {mg:Str->Option Value} {base:Heap} {D:Adr}
theorem scPiece:FnScope ["script","k","name","most","cell","gap","least","inner"] ["script","k","name","most"] (jag jen):=⟨rfl,rfl,rfl,by decide +kernel,rfl,by decide +kernel,by decide +kernel⟩
def jkO (K:PySem.W.Frag):Sp:=fun vs H Q _=>∃ (a:Addr) (ns:List Int) (k:Int) (nm:Str) (most:Int),vs=[.ref a,.int k,.str nm,.int most]/\Scr K H a ns/\0<=k/\k<=800000/\nm≠""/\0<=most/\most<=4 /\
 ∀ (p:Pie) (u:V) (H':Hp),Same H H'->p.AtF H H' u->p.ok->p.nn/\p.lim most->(p.nm=[]\/p.nm=[nm])->Q u H'
theorem jlW (T:Txt w K mg D):FnOk P w K mg base CX0 5 D.aLawPiece D.dLawPiece ["script","k","name","most"] (jkO K):=by
 have G:FnOk P w K mg base CX0 2 D.aLawDraw D.dLawDraw ["script","k"] (jev K):=jdp T
 have GS:FnOk P w K mg base CX0 1 D.aLawSay D.dLawSay ["cell"] (jgD says):=jmX T
 have GA:FnOk P w K mg base CX0 3 D.aLawAsk D.dLawAsk ["script","k","name","most"] (jkL K):=jkM T
 have GI:FnOk P w K mg base CX0 4 D.aLawInner D.dLawInner ["script","k","many","most"] (jkN K):=jlV T
 refine T.fLawPiece.ok scPiece (fun vs H Q E h=>?_) (fun cdv A outer s H vs Q E hr h=>?_)
 ·obtain ⟨a,ns,k,nm,most,rfl,_⟩:=h; rfl
 ·obtain ⟨a,ns,k,nm,most,rfl,hS,h0,h1,hn,m0,m1,q⟩:=h
  have hr1:Room 1 _:=hr.mono (by decide)
  have hr2:Room 2 _:=hr.mono (by decide)
  have hr3:Room 3 _:=hr.mono (by decide)
  refine ⟨_,jab (jan (i:=4) scPiece.nd rfl (Or.inl rfl) (jai G hr2 rfl T.mLawDraw T.fLawDraw.kp T.bLawDraw .nil jam (jaa (pv 0) (jaa (pv 1) jad))))
   (jab (jay (jat jiu (jar jbd (pv 4) jaf) jaf (jax _)) (jae (jak (jbf (jaa jaz (jaa (jai GS hr1 rfl T.mLawSay T.fLawSay.kp T.bLawSay .nil jam (jaa (jar jcy (pv 4) jaf) jad)) jad))))) jaq)
   (jab (jay (jat jiu (jar jbd (pv 4) jaf) jaf (jax _)) (jae (jak (jai GA hr3 rfl T.mLawAsk T.fLawAsk.kp T.bLawAsk .nil jam (jaa (pv 0) (jaa (jar jaL (pv 1) jaf) (jaa (pv 2) (jaa (pv 3) jad))))))) jaq)
   (jab (jan (i:=5) scPiece.nd rfl (Or.inl rfl) (jap jaG (jfk gaps (by decide +kernel)) (jar jbd (jar jcy (pv 4) jaf) jaf) (fun _ _=>rfl)))
   (jab (jan (i:=6) scPiece.nd rfl (Or.inl rfl) (jar jbd (jar jcy (pv 4) jaf) jaf))
   (jab (jan (i:=7) scPiece.nd rfl (Or.inl rfl) (jai GI hr rfl T.mLawInner T.fLawInner.kp T.bLawInner .nil jam (jaa (pv 0) (jaa (jar jaL (pv 1) jaf) (jaa jaf (jaa (pv 3) jad))))))
   (jae (jak (jbf (jaa jaz (jaa (pv 2) (jaa (pv 7) (jaa (pv 5) (jaa (pv 6) (jaa (jar jaL (pv 6) (jar jbd (jar jcy (pv 4) jaf) (jar jbr jaf (pv 6)))) jad)))))))))))))),?_⟩
  refine ⟨_,rfl,_,rfl,a,ns,k,rfl,hS,h0,by omega,?_⟩
  generalize jaR ns k=c
  refine ⟨_,rfl,_,_,rfl,rfl,(by show (0:Int) < 5; decide),_,_,rfl,rfl,_,rfl,ite2 (fun _=>?_) (fun _=>?_)⟩
  ·refine ⟨_,rfl,_,_,rfl,rfl,⟨by decide,by decide⟩,c / 5,rfl,fun z hz H1 e1=>⟨(by show 2<=sizeLine; decide),fun p hp=>?_⟩⟩
   exact q (.one (.say z)) _ _ (e1.trans (jah hp _)) ⟨p,rfl,jac⟩ (jkK z hz) ⟨trivial,trivial⟩ (.inl rfl)
  refine ⟨_,rfl,_,_,rfl,rfl,(by show (0:Int) < 5; decide),_,_,rfl,rfl,_,rfl,ite2 (fun _=>?_) (fun _=>?_)⟩
  ·refine ⟨_,rfl,_,rfl,_,_,rfl,rfl,_,rfl,_,rfl,a,ns,k+1,nm,most,rfl,hS,by omega,by omega,hn,m0,m1,fun sg lo hi u H1 e1 at1 ok1 lim1=>?_⟩
   exact q (.one (.ask nm sg lo hi)) u H1 e1 at1 ok1 ⟨trivial,lim1⟩ (.inr rfl)
  refine ⟨(by show 5<=sizeLine; decide),fun gl hgl=>?_⟩
  obtain ⟨z,hz,ez,_⟩:=jcU (zs:=gaps) (i:=c / 5 % 5) (Int.emod_nonneg _ (by decide)) (Int.emod_lt_of_pos _ (by decide))
  have s1:=jah hgl (.lst (gaps.map V.str))
  refine ⟨_,rfl,_,_,rfl,rfl,⟨by decide,by decide⟩,_,_,rfl,rfl,(by show (0:Int) < 5; decide),gl,_,_,_,rfl,rfl,SqL.of jac,ez,?_⟩
  have l0:0<=c / 25 % 4:=Int.emod_nonneg _ (by decide)
  have l1:c / 25 % 4 < 4:=Int.emod_lt_of_pos _ (by decide)
  have d0:0<=c / 100 % (4 - c / 25 % 4):=Int.emod_nonneg _ (by omega)
  have d1:c / 100 % (4 - c / 25 % 4) < 4 - c / 25 % 4:=Int.emod_lt_of_pos _ (by omega)
  refine ⟨_,rfl,_,_,rfl,rfl,⟨by decide,by decide⟩,_,_,rfl,rfl,(by show (0:Int) < 4; decide),?_⟩
  refine ⟨_,rfl,_,rfl,_,_,rfl,rfl,_,rfl,a,ns,k+2,3,most,rfl,hS.mono s1,by omega,by omega,by decide,by decide,m0,m1,fun r us ps H1 e1 nr hr' hp okp nn lim=>?_⟩
  refine ⟨_,rfl,_,rfl,_,rfl,_,rfl,_,rfl,_,rfl,_,_,rfl,rfl,⟨by decide,by decide⟩,_,rfl,_,_,rfl,rfl,_,_,rfl,rfl,(by show 0 < 4 - c / 25 % 4; omega),_,_,rfl,rfl,(by show 6<=sizeLine; decide),fun p hp'=>?_⟩
  have s2:=jah hp' (.tup [.str "rows",.str nm,.ref r,.str z,.int (c / 25 % 4),.int (c / 25 % 4+c / 100 % (4 - c / 25 % 4))])
  exact q (.rows nm ps z (c / 25 % 4) (c / 25 % 4+c / 100 % (4 - c / 25 % 4))) _ _ (s1.trans (e1.trans s2)) ⟨p,r,us,rfl,jac,s2 _ _ hr',s1.free nr,Paired.mapP hp fun _ _ z=>z.mono s2⟩ ⟨hn,okp,job z hz,l0,by omega,by omega⟩ ⟨nn,lim⟩ (.inr rfl)
theorem scPieces:FnScope ["script","many","most","names","pieces","k","name"] ["script","many","most"] (jag jdm):=⟨rfl,rfl,rfl,by decide +kernel,rfl,by decide +kernel,by decide +kernel⟩
def jii (K:PySem.W.Frag):Sp:=fun vs H Q _=>∃ (a:Addr) (ns:List Int) (many most:Int),vs=[.ref a,.int many,.int most]/\Scr K H a ns/\1<=many/\many<=6/\0<=most/\most<=4 /\
 ∀ (r:Addr) (us:List V) (ps:List Pie) (H':Hp),Same H H'->H r=none->H' r=some (.lst us)->Paired (Pie.AtN r H') ps us->FormOk ps->(∀ p∈ps,p.nn/\p.lim most)->(∀ n∈ps.flatMap Pie.nm,n∈names6)->(ps.length:Int)<=many->Q (.ref r) H'
def jlX (d:Int) (j:Nat):Str:=names6.getD (((j:Int)+d) % 6).toNat ""
theorem jdG (d:Int) (j:Nat):names6[(((j:Int)+d) % 6).toNat]?=some (jlX d j)/\jlX d j∈names6:=by
 have h0:0<=((j:Int)+d) % 6:=Int.emod_nonneg _ (by decide)
 have h1:((j:Int)+d) % 6 < 6:=Int.emod_lt_of_pos _ (by decide)
 have hk:(((j:Int)+d) % 6).toNat < names6.length:=by show _ < 6; omega
 unfold jlX
 rw [List.getD_eq_getElem?_getD,List.getElem?_eq_getElem hk]
 exact ⟨rfl,List.getElem_mem hk⟩
theorem jlY (d:Int) {i j:Nat} (hi:i < 6) (hj:j < 6) (e:jlX d i=jlX d j):i=j:=by
 have a:=(jdG d i).1
 have b:=(jdG d j).1
 rw [<- e] at b
 have:=nodup_ix n6_nd a b
 have i0:0<=((i:Int)+d) % 6:=Int.emod_nonneg _ (by decide)
 have j0:0<=((j:Int)+d) % 6:=Int.emod_nonneg _ (by decide)
 omega
theorem jpF (d:Int) {i:Nat} (hi:i < 6):jlX d i∉(List.range i).map (jlX d):=fun h=>by
 obtain ⟨j,hj,e⟩:=List.mem_map.mp h
 have hj':=List.mem_range.mp hj
 have:=jlY d (by omega) hi e
 omega
theorem jgE {α:Type} {f:Nat->α} {i:Nat}:∀ n∈(List.range i).map f,n∈(List.range (i+1)).map f:=fun n hn=>by
 obtain ⟨j,hj,e⟩:=List.mem_map.mp hn
 exact List.mem_map.mpr ⟨j,List.mem_range.mpr (Nat.lt_succ_of_lt (List.mem_range.mp hj)),e⟩
theorem jkP (T:Txt w K mg D):FnOk P w K mg base CX0 6 D.aLawPieces D.dLawPieces ["script","many","most"] (jii K):=by
 have G:FnOk P w K mg base CX0 2 D.aLawDraw D.dLawDraw ["script","k"] (jev K):=jdp T
 have GP:FnOk P w K mg base CX0 5 D.aLawPiece D.dLawPiece ["script","k","name","most"] (jkO K):=jlW T
 refine T.fLawPieces.ok scPieces (fun vs H Q E h=>?_) (fun cdv A outer s H vs Q E hr h=>?_)
 ·obtain ⟨a,ns,many,most,rfl,_⟩:=h; rfl
 ·obtain ⟨a,ns,many,most,rfl,hS,n1,n2,m0,m1,q⟩:=h
  have hr2:Room 2 _:=hr.mono (by decide)
  refine ⟨_,jab (jan (i:=3) scPieces.nd rfl (Or.inl rfl) (jfk names6 (by decide +kernel)))
   (jab (jan (i:=4) scPieces.nd rfl (Or.inl rfl) (jbj jad))
   (jab (jbb PassesOwn.never rfl (jbQ rfl T.zRange (jaa (jar jaL jaf (jar jbd (jai G hr2 rfl T.mLawDraw T.fLawDraw.kp T.bLawDraw .nil jam (jaa (pv 0) (jaa jaf jad))) (pv 1))) jad)) (jaE (i:=5) scPieces.nd rfl (Or.inl rfl))
    (jab (jan (i:=6) scPieces.nd rfl (Or.inl rfl) (jap jaG (pv 3) (jar jbd (jar jaL (pv 5) (jai G hr2 rfl T.mLawDraw T.fLawDraw.kp T.bLawDraw .nil jam (jaa (pv 0) (jaa jaf jad)))) jaf) (fun _ _=>rfl)))
    (jae (jas (jbS PySem.F.plainAttrs_list PySem.F.slot_list_append PySem.F.type_list_append jaH (pv 4) (jaa (jai GP hr rfl T.mLawPiece T.fLawPiece.kp T.bLawPiece .nil jam (jaa (pv 0) (jaa (jar jaL jaf (jar jdq jaf (pv 5))) (jaa (pv 6) (jaa (pv 2) jad))))) jad))))))
   (jae (jak (pv 4))))),?_⟩
  refine ⟨(by show 6<=sizeLine; decide),fun nl hnl=>⟨(by show 0<=sizeLine; decide),fun r hr'=>?_⟩⟩
  have s1:=jah hnl (.lst (names6.map V.str))
  have s2:=jah hr' (.lst [])
  have s12:Same H _:=s1.trans s2
  have d0:0<=jaR ns 1 % many:=Int.emod_nonneg _ (by omega)
  have d1:jaR ns 1 % many < many:=Int.emod_lt_of_pos _ (by omega)
  refine ⟨_,rfl,a,ns,1,rfl,hS.mono s12,by decide,by decide,_,rfl,_,_,rfl,rfl,(by show 0 < many; omega),_,_,rfl,rfl,1+jaR ns 1 % many,rfl,by omega,by omega,?_⟩
  generalize hn:(1+jaR ns 1 % many).toNat=n
  have hn6:n<=6:=by omega
  have hn1:1<=n:=by omega
  refine jcs (lo:=0) (n:=n) (fun i σ H'=>∃ (us:List V) (ps:List Pie) (o o':Option V),σ=[some (.ref a),some (.int many),some (.int most),some (.ref nl),some (.ref r),o,o']/\Same H H'/\H' nl=some (.lst (names6.map V.str))/\H' r=some (.lst us) /\
   Paired (Pie.AtN r H') ps us/\ps.length=i/\(∀ p∈ps,p.ok/\p.nn/\p.lim most)/\NamesIn (ps.flatMap Pie.nm) ((List.range i).map (jlX (jaR ns 2))))
   ⟨[],[],none,none,rfl,s12,s2 _ _ jac,jac,.nil,rfl,(fun _ z=>nomatch z),NamesIn.nil⟩ (fun i σ H' hi e D1 hD1=>?_) (fun σ H' e=>?_)
  ·obtain ⟨us,ps,o,o',rfl,e1,enl,er,ep,el,eo,en⟩:=e
   have hus:us.length=i:=by rw [<- el]; exact ep.length.symm
   have nr0:H r=none:=s1.free hr'
   have hlen:us.length < sizeLine:=jbs (by omega)
   obtain ⟨z,hz,ez,ez'⟩:=jcU (zs:=names6) (i:=(0+(i:Int)+jaR ns 2) % 6) (Int.emod_nonneg _ (by decide)) (Int.emod_lt_of_pos _ (by decide))
   have ezz:z=jlX (jaR ns 2) i:=by
    have:=(jdG (jaR ns 2) i).1
    rw [show (0+(i:Int)+jaR ns 2)=((i:Int)+jaR ns 2) by omega] at ez'
    rw [ez'] at this
    exact Option.some.inj this
   refine ⟨_,rfl,_,rfl,_,rfl,a,ns,2,rfl,hS.mono e1,by decide,by decide,_,_,rfl,rfl,_,_,rfl,rfl,(by show (0:Int) < 6; decide),nl,_,_,_,rfl,rfl,SqL.of enl,ez,?_⟩
   refine ⟨_,rfl,.inl ⟨rfl,_,SqL.of er⟩,_,rfl,_,rfl,_,_,rfl,rfl,.inl ⟨by decide,by decide⟩,_,_,rfl,rfl,_,rfl,_,rfl,a,ns,10+20 * (0+(i:Int)),z,most,rfl,hS.mono e1,by omega,by omega,n6_ne z hz,m0,m1,fun p u H2 e2 at2 ok2 nn2 nm2=>?_⟩
   have er2:=e2 _ _ er
   refine ⟨r,us,u,rfl,rfl,er2,hlen,?_⟩
   have rn:H' r≠none:=by rw [er]; exact fun z=>nomatch z
   refine hD1 _ _ ⟨us++[u],ps++[p],_,_,rfl,Same.updN (e1.trans e2) nr0 _,?_,jac,?_,by rw [List.length_append,el]; rfl,?_,?_⟩
   ·rw [jao (fun z=>by rw [z] at enl; rw [er] at enl; cases enl; simp [names6] at hus; omega)]
    exact e2 _ _ enl
   ·exact (Paired.mapP ep fun _ _ z=>(Pie.AtN.mono e2 z).updL er2 _).snoc ((Pie.AtF.n rn at2).updL er2 _)
   ·intro x hx
    rcases List.mem_append.mp hx with y | y
    ·exact eo x y
    ·have:x=p:=by simpa using y
     subst this
     exact ⟨ok2,nn2⟩
   ·have ef:(ps++[p]).flatMap Pie.nm=ps.flatMap Pie.nm++p.nm:=by simp
    rw [ef]
    rcases nm2 with e0 | e0
    ·rw [e0,List.append_nil]
     exact en.wide jgE
    ·rw [e0,ezz]
     exact en.add (jpF _ (by omega)) jgE (List.mem_map.mpr ⟨i,List.mem_range.mpr (Nat.lt_succ_self _),rfl⟩)
  ·obtain ⟨us,ps,o,o',rfl,e1,enl,er,ep,el,eo,en⟩:=e
   refine ⟨_,rfl,q r us ps H' e1 (s1.free hr') er ep ⟨by omega,by omega,fun p hp=>(eo p hp).1,en.nd⟩ (fun p hp=>(eo p hp).2) (fun n hn=>?_) (by omega)⟩
   obtain ⟨j,_,ej⟩:=List.mem_map.mp (en.sub _ hn)
   exact ej▸(jdG _ j).2
theorem scWord:FnScope ["script","k","piece","size","word","j"] ["script","k","piece"] (jag jfs):=⟨rfl,rfl,rfl,by decide +kernel,rfl,by decide +kernel,by decide +kernel⟩
def jkQ (K:PySem.W.Frag):Sp:=fun vs H Q _=>∃ (a:Addr) (ns:List Int) (k:Int) (v:V) (n sg:Str) (lo hi:Int),vs=[.ref a,.int k,v]/\Scr K H a ns/\0<=k/\k<=900000/\(Pc.ask n sg lo hi).At H v/\(Pc.ask n sg lo hi).ok/\∀ t,Fits sg lo hi t->Q (.str t) H
theorem jlZ (t:Str) (c:Nat):(t++(⟨#[c]⟩:Str)).cps.toList=t.cps.toList++[c]:=by
 show (t.cps++#[c]).toList=_
 simp
theorem jkR (T:Txt w K mg D):FnOk P w K mg base CX0 3 D.aLawWord D.dLawWord ["script","k","piece"] (jkQ K):=by
 have G:FnOk P w K mg base CX0 2 D.aLawDraw D.dLawDraw ["script","k"] (jev K):=jdp T
 refine T.fLawWord.ok scWord (fun vs H Q E h=>?_) (fun cdv A outer s H vs Q E hr h=>?_)
 ·obtain ⟨a,ns,k,v,n,sg,lo,hi,rfl,_⟩:=h; rfl
 ·obtain ⟨a,ns,k,v,n,sg,lo,hi,rfl,hS,h0,h1,⟨p,rfl,hp⟩,⟨hn,hsg,hnd,b0,b1,b2⟩,q⟩:=h
  refine ⟨_,jab (jan (i:=3) scWord.nd rfl (Or.inl rfl) (jar jaL (jap jal (pv 2) jaf (fun _ _=>rfl)) (jar jbd (jai G hr rfl T.mLawDraw T.fLawDraw.kp T.bLawDraw .nil jam (jaa (pv 0) (jaa (pv 1) jad))) (jar jaL (jar jbr (jap jal (pv 2) jaf (fun _ _=>rfl)) (jap jal (pv 2) jaf (fun _ _=>rfl))) jaf))))
   (jab (jan (i:=4) scWord.nd rfl (Or.inl rfl) jaz)
   (jab (jbb PassesOwn.never rfl (jbQ rfl T.zRange (jaa (pv 3) jad)) (jaE (i:=5) scWord.nd rfl (Or.inl rfl))
    (jae (jan (i:=4) scWord.nd rfl (Or.inl rfl) (jar jbl (pv 4) (jap jmp (jap jal (pv 2) jaf (fun _ _=>rfl)) (jar jbd (jai G hr rfl T.mLawDraw T.fLawDraw.kp T.bLawDraw .nil jam (jaa (pv 0) (jaa (jar jaL (jar jaL (pv 1) jaf) (pv 5)) jad))) (jaj jaW rfl T.zLen PySem.boot_len (jaa (jap jal (pv 2) jaf (fun _ _=>rfl)) jad))) (fun _ _=>rfl))))))
   (jae (jak (pv 4))))),?_⟩
  have d0:0<=jaR ns k % (hi - lo+1):=Int.emod_nonneg _ (by omega)
  have d1:jaR ns k % (hi - lo+1) < hi - lo+1:=Int.emod_lt_of_pos _ (by omega)
  refine ⟨_,rfl,p,_,_,_,rfl,rfl,SqT.of hp,rfl,_,rfl,_,rfl,a,ns,k,rfl,hS,h0,by omega,_,rfl,p,_,_,_,rfl,rfl,SqT.of hp,rfl,_,rfl,p,_,_,_,rfl,rfl,SqT.of hp,rfl,_,_,rfl,rfl,_,_,rfl,rfl,_,_,rfl,rfl,(by show 0 < hi - lo+1; omega),_,_,rfl,rfl,?_⟩
  have hz1:1<=sg.length:=hsg.lo
  have hz2:sg.length<=20:=hsg.hi
  refine ⟨_,rfl,lo+jaR ns k % (hi - lo+1),rfl,by omega,by omega,?_⟩
  generalize hm:(lo+jaR ns k % (hi - lo+1)).toNat=m
  refine jfP (lo:=0) (n:=m) (fun i σ H'=>H'=H/\∃ (t:Str) (o:Option V),σ=[some (.ref a),some (.int k),some (.ref p),some (.int (lo+jaR ns k % (hi - lo+1))),some (.str t),o]/\t.length=i/\∀ c∈t.cps.toList,c∈sg.cps.toList)
   ⟨rfl,"",none,rfl,rfl,(fun c h=>nomatch h)⟩ (fun i σ H' hi' e=>?_) (fun σ H' e=>?_)
  ·obtain ⟨rfl,t,o,rfl,el,ec⟩:=e
   have hd0:0<=jaR ns (k+1+(0+(i:Int))) % (sg.length:Int):=Int.emod_nonneg _ (by omega)
   have hd1:jaR ns (k+1+(0+(i:Int))) % (sg.length:Int) < (sg.length:Int):=Int.emod_lt_of_pos _ (by omega)
   obtain ⟨c,hc,eat,_⟩:=jmV (xs:=sg.cps.toList) hd0 (by rw [show sg.cps.toList.length=sg.length by simp [Str.length]]; exact hd1)
   refine ⟨_,rfl,_,rfl,p,_,_,_,rfl,rfl,SqT.of hp,rfl,_,rfl,_,rfl,_,_,rfl,rfl,_,rfl,_,_,rfl,rfl,a,ns,k+1+(0+(i:Int)),rfl,hS,by omega,by omega,_,rfl,p,_,_,_,rfl,rfl,SqT.of hp,rfl,sg,rfl,jbp (by omega),_,_,rfl,rfl,(by show 0 < (sg.length:Int); omega),sg,_,c,rfl,rfl,jbp (by omega),eat,t,⟨#[c]⟩,rfl,rfl,jbp (by show t.length+1<=1000; omega),?_⟩
   refine ⟨rfl,t++⟨#[c]⟩,_,rfl,by rw [strLen_append,el]; rfl,fun x hx=>?_⟩
   rw [jlZ] at hx
   rcases List.mem_append.mp hx with z | z
   ·exact ec x z
   ·have:x=c:=by simpa using z
    rw [this]; exact hc
  ·obtain ⟨rfl,t,o,rfl,el,ec⟩:=e
   exact ⟨_,rfl,q t ⟨by omega,by omega,ec⟩⟩
end
open Mth (R1 RQ MP MQ Fit1 FitL FitQ w1 wL wQ wF wGap)
def sOf (w:List Nat):Str:=⟨w.toArray⟩
theorem jcG (a b:List Nat):sOf a++sOf b=sOf (a++b):=by
 show (⟨a.toArray++b.toArray⟩:Str)=⟨(a++b).toArray⟩
 rw [List.append_toArray]
theorem jkS (z:Str):sOf (tl z)=z:=rfl
theorem jho {a b:List Nat} (h:sOf a=sOf b):a=b:=by
 have:=congrArg (fun z:Str=>z.cps.toList) h
 exact this
theorem jcm (a:List Nat):(sOf a).length=a.length:=by show a.toArray.size=_; simp
def jiV (es:List (Str×List Nat)):Row:=fun n=>(es.lookup n).map sOf
def jma:RV->Val
 | .tx w=>.text (sOf w)
 | .rows inner rr=>.rows (rr.map fun r=>jiV (jbL inner r))
def FR (es:List (Str×RV)):Vs:=fun n=>(es.lookup n).map jma
theorem jcn {α:Type} {n m:Str} {a:α} {es:List (Str×α)} (h:n≠m):((m,a)::es).lookup n=es.lookup n:=by
 rw [List.lookup_cons,beq_false_of_ne h]
theorem jij {α:Type} {n:Str} {es2:List (Str×α)}:∀ {es1:List (Str×α)},n∉es1.map (·.1)->(es1++es2).lookup n=es2.lookup n
 | [],_=>rfl
 | (m,a)::es,h=>by
  rw [List.map_cons,List.mem_cons,not_or] at h
  rw [List.cons_append,jcn h.1]
  exact jij h.2
theorem jew {α:Type} {n:Str} {a:α} {es1 es2:List (Str×α)} (h:n∉es1.map (·.1)):(es1++(n,a)::es2).lookup n=some a:=by rw [jij h,List.lookup_cons_self]
theorem jdH {n:Str}:∀ {es:List (Str×List Nat)},jbt (jcX es) (Sum.inr n)=(es.lookup n).map fun w=>V.str (sOf w)
 | []=>rfl
 | (m,w)::es=>by
  show jbt ((Sum.inr m,V.str (sOf w))::jcX es) (Sum.inr n)=_
  by_cases h:n=m
  ·subst h
   rw [jaV rfl,List.lookup_cons_self]; rfl
  ·rw [jaQ (fun z=>h (Sum.inr.inj z).symm),jcn h]
   exact jdH
theorem RowD.at' {H0 H:Hp} {inner:List Pc} {r:List R1} {v:V} (h:RowD H0 H inner r v):RowAt H (jiV (jbL inner r)) v:=by
 obtain ⟨a,rfl,ha,_⟩:=h
 refine ⟨a,_,rfl,.inl ha,fun n t e=>?_⟩
 rw [jdH]
 unfold jiV at e
 cases z:(jbL inner r).lookup n with
 | none=>rw [z] at e; cases e
 | some w=>rw [z] at e; cases e; rfl
theorem RvAt.val {H0 H:Hp}:∀ {rv:RV} {v:V},RvAt H0 H rv v->ValAt H (jma rv) v
 | .tx _,_,h=>h
 | .rows inner rr,_,⟨l,us,h1,h2,_,h4⟩=>by
  refine ⟨l,us,h1,h2,?_⟩
  clear h2 h1
  induction h4 with
  | nil=>exact .nil
  | cons h _ ih=>exact .cons h.at' ih
theorem jhp {H0 H:Hp} {n:Str} {rv:RV}:∀ {es:List (Str×RV)} {kvs:List (Key×V)},Paired (EntAt H0 H) es kvs->es.lookup n=some rv->∃ u,jbt kvs (Sum.inr n)=some u/\RvAt H0 H rv u
 | _,_,.nil,e=>by cases e
 | (m,x)::es,(k,u)::kvs,.cons h t,e=>by
  obtain ⟨h1,h2⟩:=h
  have h1:k=Sum.inr m:=h1
  subst h1
  by_cases hn:n=m
  ·subst hn
   rw [List.lookup_cons_self] at e
   cases e
   exact ⟨u,jaV rfl,h2⟩
  ·rw [jcn hn] at e
   obtain ⟨u',e1,e2⟩:=jhp t e
   exact ⟨u',by rw [jaQ (fun z=>hn (Sum.inr.inj z).symm)]; exact e1,e2⟩
theorem FrmD.vs {H0 H:Hp} {ps:List Pie} {rs:List RQ} {v:V} (h:FrmD H0 H ps rs v):VsAt H (FR (jbv ps rs)) v:=by
 obtain ⟨a,kvs,rfl,ha,_,hp⟩:=h
 refine ⟨a,kvs,rfl,.inl ha,fun n x e=>?_⟩
 unfold FR at e
 cases z:(jbv ps rs).lookup n with
 | none=>rw [z] at e; cases e
 | some rv =>
  rw [z] at e
  cases e
  obtain ⟨u,e1,e2⟩:=jhp hp z
  exact ⟨u,e1,e2.val⟩
theorem jkT (t:Str):∀ l:List Str,cat (t::l)=t++cat l
 | []=>by
  show t=(⟨t.cps++#[]⟩:Str)
  rw [Array.append_empty]
 | u::r=>by
  show (⟨(t.cps++#[])++(cat (u::r)).cps⟩:Str)=⟨t.cps++(cat (u::r)).cps⟩
  rw [Array.append_empty]
theorem jkU:∀ {inner:List Pc} {r:List R1} (es1:List (Str×List Nat)),FitL (inner.map mPc) r->(es1.map (·.1)++inner.flatMap Pc.nm).Nodup->(∀ p∈inner,p.ok) ->
  jgm inner (jiV (es1++jbL inner r))/\cat (inner.map (wPc (jiV (es1++jbL inner r))))=sOf (wL (inner.map mPc) r)
 | [],_,_,.nil,_,_=>⟨(fun _ z=>nomatch z),rfl⟩
 | .say t::ps,_,es1,.cons h t',nd,ok=>by
  cases h
  obtain ⟨i1,i2⟩:=jkU (inner:=ps) es1 t' nd fun p hp=>ok p (List.mem_cons_of_mem _ hp)
  refine ⟨fun p hp=>?_,?_⟩
  ·rcases List.mem_cons.mp hp with rfl | hp
   ·trivial
   ·exact i1 p hp
  ·rw [List.map_cons,jkT]
   show t++cat (ps.map (wPc (jiV (es1++jbL ps _))))=sOf (tl t++wL (ps.map mPc) _)
   rw [i2,<- jcG,jkS]
 | .ask n sg lo hi::ps,_,es1,.cons h t',nd,ok=>by
  cases h with
  | ask l1 l2 l3 =>
  rename_i vs wd
  have ok1:=ok _ List.mem_cons_self
  have nd':(es1.map (·.1)++n::ps.flatMap Pc.nm).Nodup:=nd
  have hn:n∉es1.map (·.1):=fun z=>(List.nodup_append.mp nd').2.2 n z n List.mem_cons_self rfl
  have e0:es1++jbL (.ask n sg lo hi::ps) (.tx wd::vs)=(es1++[(n,wd)])++jbL ps vs:=by rw [List.append_assoc]; rfl
  obtain ⟨i1,i2⟩:=jkU (inner:=ps) (es1++[(n,wd)]) t' (by rw [List.map_append,List.append_assoc]; exact nd') fun p hp=>ok p (List.mem_cons_of_mem _ hp)
  have e1:jiV (es1++jbL (.ask n sg lo hi::ps) (.tx wd::vs)) n=some (sOf wd):=by
   show (((es1++(n,wd)::jbL ps vs)).lookup n).map sOf=_
   rw [jew hn]; rfl
  refine ⟨fun p hp=>?_,?_⟩
  ·rcases List.mem_cons.mp hp with rfl | hp
   ·obtain ⟨_,_,_,b1,b2,b3⟩:=ok1
    refine ⟨_,e1,⟨?_,?_,l3⟩⟩
    ·rw [jcm]; omega
    ·rw [jcm]; omega
   ·rw [e0]; exact i1 p hp
  ·rw [List.map_cons,jkT]
   show ((jiV (es1++jbL (.ask n sg lo hi::ps) (.tx wd::vs)) n).getD Str.empty)++_=sOf (wd++wL (ps.map mPc) vs)
   rw [e1,e0,i2,<- jcG]; rfl
theorem jkV {inner:List MP} {gap:List Nat}:∀ {rs:List (List R1)} {k j:Nat},wGap inner gap (k+1) rs=wGap inner gap (j+1) rs
 | [],_,_=>rfl
 | r::rs,k,j=>by
  show (if k+1=0 then [] else gap)++(wL inner r++wGap inner gap (k+1+1) rs)=(if j+1=0 then [] else gap)++(wL inner r++wGap inner gap (j+1+1) rs)
  rw [if_neg (Nat.succ_ne_zero k),if_neg (Nat.succ_ne_zero j),jkV (k:=k+1) (j:=j+1)]
theorem jkW {gap:Str} {inner:List Pc}:∀ {rr:List (List R1)} {r:List R1},Str.join gap ((r::rr).map fun r=>sOf (wL (inner.map mPc) r))=sOf (wL (inner.map mPc) r++wGap (inner.map mPc) (tl gap) 1 rr)
 | [],r=>by
  show sOf (wL (inner.map mPc) r)=sOf (wL (inner.map mPc) r++[])
  rw [List.append_nil]
 | r2::rr,r=>by
  show (sOf (wL (inner.map mPc) r)++gap)++Str.join gap ((r2::rr).map fun r=>sOf (wL (inner.map mPc) r))=sOf (wL (inner.map mPc) r++((if (1:Nat)=0 then [] else tl gap)++(wL (inner.map mPc) r2++wGap (inner.map mPc) (tl gap) (1+1) rr)))
  rw [jkW,if_neg (by decide),jkV (k:=1) (j:=0),<- jkS gap,jcG,jcG,List.append_assoc]
  rfl
theorem joe {gap:Str} {inner:List Pc}:∀ {rr:List (List R1)},Str.join gap (rr.map fun r=>sOf (wL (inner.map mPc) r))=sOf (wGap (inner.map mPc) (tl gap) 0 rr)
 | []=>rfl
 | r::rr=>by
  rw [jkW]; rfl
theorem jex:∀ {ps:List Pie} {rs:List RQ} (es1:List (Str×RV)),Mth.FitF (ps.map mPie) rs->(es1.map (·.1)++ps.flatMap Pie.nm).Nodup->(∀ p∈ps,p.ok) ->
  (∀ p∈ps,jdY (FR (es1++jbv ps rs)) p)/\cat (ps.map (jgn (FR (es1++jbv ps rs))))=sOf (wF (ps.map mPie) rs)
 | [],_,_,.nil,_,_=>⟨(fun _ z=>nomatch z),rfl⟩
 | .one (.say t)::ps,_,es1,.cons h t',nd,ok=>by
  cases h with
  | one h1 =>
  cases h1
  obtain ⟨i1,i2⟩:=jex (ps:=ps) es1 t' nd fun p hp=>ok p (List.mem_cons_of_mem _ hp)
  refine ⟨fun p hp=>?_,?_⟩
  ·rcases List.mem_cons.mp hp with rfl | hp
   ·trivial
   ·exact i1 p hp
  ·rw [List.map_cons,jkT]
   show t++cat (ps.map (jgn (FR (es1++jbv ps _))))=sOf (tl t++wF (ps.map mPie) _)
   rw [i2,<- jcG,jkS]
 | .one (.ask n sg lo hi)::ps,_,es1,.cons h t',nd,ok=>by
  cases h with
  | one h1 =>
  cases h1 with
  | ask l1 l2 l3 =>
  rename_i vs wd
  have ok1:=ok _ List.mem_cons_self
  have nd':(es1.map (·.1)++n::ps.flatMap Pie.nm).Nodup:=nd
  have hn:n∉es1.map (·.1):=fun z=>(List.nodup_append.mp nd').2.2 n z n List.mem_cons_self rfl
  have e0:es1++jbv (.one (.ask n sg lo hi)::ps) (.one (.tx wd)::vs)=(es1++[(n,.tx wd)])++jbv ps vs:=by rw [List.append_assoc]; rfl
  obtain ⟨i1,i2⟩:=jex (ps:=ps) (es1++[(n,.tx wd)]) t' (by rw [List.map_append,List.append_assoc]; exact nd') fun p hp=>ok p (List.mem_cons_of_mem _ hp)
  have e1:FR (es1++jbv (.one (.ask n sg lo hi)::ps) (.one (.tx wd)::vs)) n=some (.text (sOf wd)):=by
   show (((es1++(n,RV.tx wd)::jbv ps vs)).lookup n).map jma=_
   rw [jew hn]; rfl
  refine ⟨fun p hp=>?_,?_⟩
  ·rcases List.mem_cons.mp hp with rfl | hp
   ·obtain ⟨_,_,_,b1,b2,b3⟩:=ok1
    refine ⟨_,e1,⟨?_,?_,l3⟩⟩
    ·rw [jcm]; omega
    ·rw [jcm]; omega
   ·rw [e0]; exact i1 p hp
  ·rw [List.map_cons,jkT]
   have e2:jgn (FR (es1++jbv (.one (.ask n sg lo hi)::ps) (.one (.tx wd)::vs))) (.one (.ask n sg lo hi))=sOf wd:=by
    show (match FR (es1++jbv (.one (.ask n sg lo hi)::ps) (.one (.tx wd)::vs)) n with | some (.text t)=>t | _=>Str.empty)=_
    rw [e1]
   rw [e2,e0,i2]
   exact jcG _ _
 | .rows n inner gap lo hi::ps,_,es1,.cons h t',nd,ok=>by
  cases h with
  | rows l1 l2 l3 =>
  rename_i vs rr
  obtain ⟨_,hpo,_,b1,b2,b3⟩:=ok _ List.mem_cons_self
  have nd':(es1.map (·.1)++n::ps.flatMap Pie.nm).Nodup:=nd
  have hn:n∉es1.map (·.1):=fun z=>(List.nodup_append.mp nd').2.2 n z n List.mem_cons_self rfl
  have e0:es1++jbv (.rows n inner gap lo hi::ps) (.rows rr::vs)=(es1++[(n,.rows inner rr)])++jbv ps vs:=by rw [List.append_assoc]; rfl
  obtain ⟨i1,i2⟩:=jex (ps:=ps) (es1++[(n,.rows inner rr)]) t' (by rw [List.map_append,List.append_assoc]; exact nd') fun p hp=>ok p (List.mem_cons_of_mem _ hp)
  have e1:FR (es1++jbv (.rows n inner gap lo hi::ps) (.rows rr::vs)) n=some (.rows (rr.map fun r=>jiV (jbL inner r))):=by
   show (((es1++(n,RV.rows inner rr)::jbv ps vs)).lookup n).map jma=_
   rw [jew hn]; rfl
  have rw1:∀ r∈rr,jgm inner (jiV (jbL inner r))/\jgI inner (jiV (jbL inner r))=sOf (wL (inner.map mPc) r):=fun r hr=>jkU (inner:=inner) [] (l3 r hr) hpo.nd hpo.all
  refine ⟨fun p hp=>?_,?_⟩
  ·rcases List.mem_cons.mp hp with rfl | hp
   ·refine ⟨_,e1,?_,?_,fun f hf=>?_⟩
    ·rw [List.length_map]; omega
    ·rw [List.length_map]; omega
    ·obtain ⟨r,hr,rfl⟩:=List.mem_map.mp hf
     exact (rw1 r hr).1
   ·rw [e0]; exact i1 p hp
  ·rw [List.map_cons,jkT,jcP e1,List.map_map,e0,i2]
   have e3:rr.map (jgI inner ∘ fun r=>jiV (jbL inner r))=rr.map fun r=>sOf (wL (inner.map mPc) r):=List.map_congr_left fun r hr=>(rw1 r hr).2
   rw [e3,joe]
   exact jcG _ _
theorem jik {ps:List Pie} {rs:List RQ} (ok:FormOk ps) (h:Mth.FitF (ps.map mPie) rs):∀ p∈ps,jdY (FR (jbv ps rs)) p:=(jex [] h ok.nd ok.all).1
theorem jkX {ps:List Pie} {rs:List RQ} (ok:FormOk ps) (h:Mth.FitF (ps.map mPie) rs):jiL ps (FR (jbv ps rs))=sOf (wF (ps.map mPie) rs):=(jex [] h ok.nd ok.all).2
open Mth (R1 RQ MP MQ Fit1 FitL FitQ)
theorem jkY {α:Type} {n:Str}:∀ {es:List (Str×α)},n∉es.map (·.1)->es.lookup n=none
 | [],_=>rfl
 | (m,a)::es,h=>by
  rw [List.map_cons,List.mem_cons,not_or] at h
  rw [jcn h.1]
  exact jkY h.2
theorem jcb:∀ {inner:List Pc} {r:List R1},FitL (inner.map mPc) r->(jbL inner r).map (·.1)=inner.flatMap Pc.nm
 | [],_,.nil=>rfl
 | .say t::ps,_,.cons h t'=>by
  cases h
  exact jcb (inner:=ps) t'
 | .ask n sg lo hi::ps,_,.cons h t'=>by
  cases h with
  | ask _ _ _ =>
  show n::(jbL ps _).map (·.1)=n::ps.flatMap Pc.nm
  rw [jcb (inner:=ps) t']
theorem jcV {p:Pc} {v:R1}:∀ {ps:List Pc} {r:List R1},FitL (ps.map mPc) r->jbL (ps++[p]) (r++[v])=jbL ps r++jbL [p] [v]
 | [],_,.nil=>rfl
 | .say t::ps,_,.cons h t'=>by
  cases h
  exact jcV (ps:=ps) t'
 | .ask n sg lo hi::ps,_,.cons h t'=>by
  cases h with
  | @ask _ _ _ wd _ _ _ =>
  exact congrArg ((n,wd)::·) (jcV (ps:=ps) t')
theorem jey {p:MP} {v:R1}:∀ {ps:List MP} {r:List R1},FitL ps r->Fit1 p v->FitL (ps++[p]) (r++[v])
 | _,_,.nil,h=>.cons h .nil
 | _,_,.cons a b,h=>.cons a (jey b h)
theorem jez {p:Pie} {v:RQ}:∀ {ps:List Pie} {rs:List RQ},Mth.FitF (ps.map mPie) rs->jbv (ps++[p]) (rs++[v])=jbv ps rs++ent p v
 | [],_,.nil=>by
  show ent p v++[]=ent p v
  rw [List.append_nil]
 | q::ps,_,.cons h t'=>by
  exact (congrArg (ent q _++·) (jez (ps:=ps) t')).trans (List.append_assoc _ _ _).symm
theorem jeA {p:MQ} {v:RQ}:∀ {ps:List MQ} {rs:List RQ},Mth.FitF ps rs->FitQ p v->Mth.FitF (ps++[p]) (rs++[v])
 | _,_,.nil,h=>.cons h .nil
 | _,_,.cons a b,h=>.cons a (jeA b h)
theorem Fits.one {n sg:Str} {lo hi:Int} {t:Str} (ok:(Pc.ask n sg lo hi).ok) (h:Fits sg lo hi t):Fit1 (mPc (.ask n sg lo hi)) (.tx (tl t)):=by
 obtain ⟨_,_,_,b1,b2,b3⟩:=ok
 have e:(tl t).length=t.length:=Array.length_toList
 have h1:=h.lo
 have h2:=h.hi
 exact .ask (by omega) (by omega) h.all
theorem jgF {α:Type} {f:α->List Str} {l:List α} {i:Nat} {x:α} (h:l[i]?=some x) (nd:(l.flatMap f).Nodup):∀ n∈f x,n∉(l.take i).flatMap f:=by
 intro n hn hm
 have e:l=l.take i++(x::l.drop (i+1)):=by
  have hi:=(List.getElem?_eq_some_iff.mp h).1
  have hx:l[i]=x:=(List.getElem?_eq_some_iff.mp h).2
  rw [<- hx,<- List.drop_eq_getElem_cons hi,List.take_append_drop]
 rw [e,List.flatMap_append,List.flatMap_cons,List.nodup_append] at nd
 exact nd.2.2 n hm n (List.mem_append_left _ hn) rfl
theorem jmb {es:List (Str×List Nat)} {m t:Str} (h:m∉es.map (·.1)):putK (jcX es) (Sum.inr m) (.str t)=jcX (es++[(m,tl t)]):=by
 rw [jdA]
 ·show jcX es++[(Sum.inr m,V.str (sOf (tl t)))]=jcX (es++[(m,tl t)])
  unfold jcX
  rw [List.map_append]; rfl
 ·rw [jdH,jkY h]; rfl
section
variable {P:Program} {w:World} {K:PySem.W.Frag} {mg:Str->Option Value} {base:Heap} {D:Adr}
theorem scRowL:FnScope ["script","k","pieces","values","j"] ["script","k","pieces"] (jag jhh):=⟨rfl,rfl,rfl,by decide +kernel,rfl,by decide +kernel,by decide +kernel⟩
def jkZ (K:PySem.W.Frag):Sp:=fun vs H Q _=>∃ (a l:Addr) (ns:List Int) (k:Int) (us:List V) (ps:List Pc),vs=[.ref a,.int k,.ref l]/\Scr K H a ns/\0<=k/\k<=800000/\H l=some (.lst us)/\Paired (Pc.At H) ps us/\PartsOk ps /\
 ∀ (d:Addr) (r:List R1),H d=none->FitL (ps.map mPc) r->Q (.ref d) (L2.upd H d (.dK (jcX (jbL ps r))))
theorem jdI:∀ (ps:List Pc) (r:List R1),(jbL ps r).length<=ps.length
 | [],_=>Nat.zero_le _
 | .say _::ps,[]=>Nat.zero_le _
 | .ask ..::ps,[]=>Nat.zero_le _
 | .say _::ps,v::r=>Nat.le_succ_of_le (jdI ps r)
 | .ask n ..::ps,.no::r=>Nat.le_succ_of_le (jdI ps r)
 | .ask n ..::ps,.tx w::r=>Nat.succ_le_succ (jdI ps r)
theorem jof (T:Txt w K mg D):FnOk P w K mg base CX0 4 D.aLawRow D.dLawRow ["script","k","pieces"] (jkZ K):=by
 have G:FnOk P w K mg base CX0 3 D.aLawWord D.dLawWord ["script","k","piece"] (jkQ K):=jkR T
 refine T.fLawRow.ok scRowL (fun vs H Q E h=>?_) (fun cdv A outer s H vs Q E hr h=>?_)
 ·obtain ⟨a,l,ns,k,us,ps,rfl,_⟩:=h; rfl
 ·obtain ⟨a,l,ns,k,us,ps,rfl,hS,h0,h1,hl,hp,ok,q⟩:=h
  have hu:=jdS hr
  have hus:us.length=ps.length:=hp.length.symm
  have h3:=ok.hi
  refine ⟨_,jab (jan (i:=3) scRowL.nd rfl (Or.inl rfl) jdB)
   (jab (jbb PassesOwn.never rfl (jbQ rfl T.zRange (jaa (jaj jav rfl T.zLen PySem.boot_len (jaa (pv 2) jad)) jad)) (jaE (i:=4) scRowL.nd rfl (Or.inl rfl))
    (jae (jay (jat jbR (jap jal (jap jaG (pv 2) (pv 4) (fun _ _=>rfl)) jaf (fun _ _=>rfl)) jaz (jax _))
     (jae (jcB hu (pv 3) (jap jal (jap jaG (pv 2) (pv 4) (fun _ _=>rfl)) jaf (fun _ _=>rfl)) (jai G hr rfl T.mLawWord T.fLawWord.kp T.bLawWord .nil jam (jaa (pv 0) (jaa (jar jaL (pv 1) (jar jdq jaf (pv 4))) (jaa (jap jaG (pv 2) (pv 4) (fun _ _=>rfl)) jad)))) rfl)) jaq)))
   (jae (jak (pv 3)))),?_⟩
  dsimp only [cxK]
  intro d hd
  have s1:=jah hd (.dK [])
  refine ⟨_,rfl,l,us,rfl,.inl (SqL.of (s1 _ _ hl)),_,rfl,by omega,by omega,?_⟩
  rw [Int.toNat_natCast]
  refine jcs (lo:=0) (n:=us.length) (fun i σ H'=>∃ (r:List R1) (o:Option V),σ=[some (.ref a),some (.int k),some (.ref l),some (.ref d),o]/\H'=L2.upd H d (.dK (jcX (jbL (ps.take i) r)))/\FitL ((ps.take i).map mPc) r)
   ⟨[],none,rfl,rfl,.nil⟩ (fun i σ H' hi e D1 hD1=>?_) (fun σ H' e=>?_)
  ·obtain ⟨r,o,rfl,rfl,ft⟩:=e
   have s2:=jah hd (.dK (jcX (jbL (ps.take i) r)))
   have hx:us[i]?=some us[i]:=List.getElem?_eq_getElem hi
   obtain ⟨p,ep,pat⟩:=Paired.two hp hx
   have hat:atI us (0+(i:Int))=some us[i]:=by rw [Int.zero_add]; exact jba hx
   have okp:=ok.all p (List.mem_of_getElem? ep)
   have fresh:=jgF (f:=Pc.nm) ep ok.nd
   have tk:=jaC ep
   have hle:(jcX (jbL (ps.take i) r)).length<=3:=by
    unfold jcX
    rw [List.length_map]
    exact Nat.le_trans (jdI _ _) (by rw [List.length_take]; omega)
   obtain ⟨b,eb,hb⟩:=pat
   rw [eb] at hat
   cases p with
   | say z =>
    refine ⟨_,rfl,_,rfl,l,us,_,_,rfl,rfl,SqL.of (s2 _ _ hl),hat,b,_,_,_,rfl,rfl,SqT.of (s2 _ _ hb),rfl,rfl,_,rfl,jbe ne_as.symm ?_⟩
    refine hD1 _ _ ⟨r++[.no],_,rfl,?_,?_⟩
    ·rw [tk,jcV ft]
     show _=L2.upd H d (.dK (jcX (jbL (ps.take i) r++[])))
     rw [List.append_nil]
    ·rw [tk,List.map_append]
     exact jey ft .say
   | ask m sg lo hi' =>
    have hm:m∉(jbL (ps.take i) r).map (·.1):=by rw [jcb ft]; exact fresh m (List.mem_singleton.mpr rfl)
    refine ⟨_,rfl,_,rfl,l,us,_,_,rfl,rfl,SqL.of (s2 _ _ hl),hat,b,_,_,_,rfl,rfl,SqT.of (s2 _ _ hb),rfl,rfl,_,rfl,jcr rfl ?_⟩
    refine ⟨_,rfl,_,rfl,_,rfl,_,_,rfl,rfl,.inl ⟨by decide,by decide⟩,_,_,rfl,rfl,_,rfl,_,rfl,l,us,_,_,rfl,rfl,SqL.of (s2 _ _ hl),hat,a,ns,k+6 * (0+(i:Int)),_,m,sg,lo,hi',rfl,hS.mono s2,by omega,by omega,⟨b,rfl,s2 _ _ hb⟩,okp,fun t ff=>?_⟩
    refine ⟨_,rfl,_,rfl,_,rfl,l,us,_,_,rfl,rfl,SqL.of (s2 _ _ hl),hat,b,_,_,_,rfl,rfl,SqT.of (s2 _ _ hb),rfl,d,_,rfl,DPut.k (k:=Sum.inr m) jac (jbs (by omega)),?_⟩
    refine hD1 _ _ ⟨r++[.tx (tl t)],_,rfl,?_,?_⟩
    ·rw [tk,jcV ft,jgj,jmb hm]; rfl
    ·rw [tk,List.map_append]
     exact jey ft (ff.one okp)
  ·obtain ⟨r,o,rfl,rfl,ft⟩:=e
   rw [hus,List.take_length] at ft ⊢
   exact ⟨_,rfl,q d r hd ft⟩
end
structure Half (Hd H':Hp) (d:Addr) (kvs:List (Key×V)) (ps:List Pie) (rs:List RQ):Prop where
 same:∀ b o,Hd b=some o->b≠d->H' b=some o
 here:H' d=some (.dK kvs)
 at':Paired (EntAt Hd H') (jbv ps rs) kvs
 fit:Mth.FitF (ps.map mPie) rs
theorem Half.mono {Hd H' H2:Hp} {d:Addr} {kvs:List (Key×V)} {ps:List Pie} {rs:List RQ} (e:Same H' H2) (h:Half Hd H' d kvs ps rs):Half Hd H2 d kvs ps rs :=
 ⟨fun b o z n=>e _ _ (h.same b o z n),e _ _ h.here,Paired.mapP h.at' fun _ _ q=>q.same e,h.fit⟩
theorem Half.say {Hd H':Hp} {d:Addr} {kvs:List (Key×V)} {ps:List Pie} {rs:List RQ} (h:Half Hd H' d kvs ps rs) (z:Str):Half Hd H' d kvs (ps++[.one (.say z)]) (rs++[.one .no]):=by
 refine ⟨h.same,h.here,?_,?_⟩
 ·rw [jez h.fit]
  show Paired _ (jbv ps rs++[]) kvs
  rw [List.append_nil]
  exact h.at'
 ·rw [List.map_append]
  exact jeA h.fit (.one .say)
theorem Half.put {Hd H':Hp} {d:Addr} {kvs:List (Key×V)} {ps:List Pie} {rs:List RQ} {p:Pie} {r:RQ} {n:Str} {rv:RV} {v:V} (h:Half Hd H' d kvs ps rs) (hd:∃ o,Hd d=some o) (hn:n∉ps.flatMap Pie.nm) (ee:ent p r=[(n,rv)]) (hq:FitQ (mPie p) r) (hv:RvAt Hd H' rv v) :
  Half Hd (L2.upd H' d (.dK (putK kvs (Sum.inr n) v))) d (putK kvs (Sum.inr n) v) (ps++[p]) (rs++[r]):=by
 have bd:Besides d H' (L2.upd H' d (.dK (putK kvs (Sum.inr n) v))):=Besides.refl.upd _
 have hk:putK kvs (Sum.inr n) v=kvs++[(Sum.inr n,v)]:=jdA v (jhk h.at' (by rw [jbF h.fit]; exact hn))
 refine ⟨fun b o z e=>by rw [jao e]; exact h.same b o z e,jac,?_,?_⟩
 ·rw [jez h.fit,ee]
  rw [hk] at bd ⊢
  exact Paired.snoc (Paired.mapP h.at' fun _ _ q=>q.bes bd (.inl hd)) ⟨rfl,hv.bes bd (.inl hd)⟩
 ·rw [List.map_append]
  exact jeA h.fit hq
section
variable {P:Program} {w:World} {K:PySem.W.Frag} {mg:Str->Option Value} {base:Heap} {D:Adr}
theorem scValues:FnScope ["script","start","pieces","values","k","piece","here","many","row"] ["script","start","pieces"] (jag jcu):=⟨rfl,rfl,rfl,by decide +kernel,rfl,by decide +kernel,by decide +kernel⟩
def jil (K:PySem.W.Frag):Sp:=fun vs H Q _=>∃ (a l:Addr) (ns:List Int) (st:Int) (us:List V) (ps:List Pie),vs=[.ref a,.int st,.ref l]/\Scr K H a ns/\0<=st/\st<=9000/\H l=some (.lst us)/\Paired (Pie.At H) ps us/\FormOk ps /\
 ∀ (v:V) (rs:List RQ) (H':Hp),Same H H'->FrmD H H' ps rs v->Mth.FitF (ps.map mPie) rs->Q v H'
theorem jla (T:Txt w K mg D):FnOk P w K mg base CX0 5 D.aLawValues D.dLawValues ["script","start","pieces"] (jil K):=by
 have G:FnOk P w K mg base CX0 2 D.aLawDraw D.dLawDraw ["script","k"] (jev K):=jdp T
 have GW:FnOk P w K mg base CX0 3 D.aLawWord D.dLawWord ["script","k","piece"] (jkQ K):=jkR T
 have GR:FnOk P w K mg base CX0 4 D.aLawRow D.dLawRow ["script","k","pieces"] (jkZ K):=jof T
 refine T.fLawValues.ok scValues (fun vs H Q E h=>?_) (fun cdv A outer s H vs Q E hr h=>?_)
 ·obtain ⟨a,l,ns,st,us,ps,rfl,_⟩:=h; rfl
 ·obtain ⟨a,l,ns,st,us,ps,rfl,hS,h0,h1,hl,hp,ok,q⟩:=h
  have hu:=jdS hr
  have hr2:Room 2 _:=hr.mono (by decide)
  have hr3:Room 3 _:=hr.mono (by decide)
  have hus:us.length=ps.length:=hp.length.symm
  have h6:=ok.hi
  refine ⟨_,jab (jan (i:=3) scValues.nd rfl (Or.inl rfl) jdB)
   (jab (jbb PassesOwn.never rfl (jbQ rfl T.zRange (jaa (jaj jav rfl T.zLen PySem.boot_len (jaa (pv 2) jad)) jad)) (jaE (i:=4) scValues.nd rfl (Or.inl rfl))
    (jab (jan (i:=5) scValues.nd rfl (Or.inr rfl) (jap jaG (pv 2) (pv 4) (fun _ _=>rfl)))
    (jab (jan (i:=6) scValues.nd rfl (Or.inr rfl) (jar jaL (pv 1) (jar jdq jaf (pv 4))))
    (jab (jay (jat jbR (jap jal (pv 5) jaf (fun _ _=>rfl)) jaz (jax _))
     (jae (jcB hu (pv 3) (jap jal (pv 5) jaf (fun _ _=>rfl)) (jai GW hr3 rfl T.mLawWord T.fLawWord.kp T.bLawWord .nil jam (jaa (pv 0) (jaa (pv 6) (jaa (pv 5) jad)))) rfl)) jaq)
    (jae (jay (jat jbR (jap jal (pv 5) jaf (fun _ _=>rfl)) jaz (jax _))
     (jab (jan (i:=7) scValues.nd rfl (Or.inl rfl) (jar jaL (jap jal (pv 5) jaf (fun _ _=>rfl)) (jar jbd (jai G hr2 rfl T.mLawDraw T.fLawDraw.kp T.bLawDraw .nil jam (jaa (pv 0) (jaa (pv 6) jad))) (jar jaL (jar jbr (jap jal (pv 5) jaf (fun _ _=>rfl)) (jap jal (pv 5) jaf (fun _ _=>rfl))) jaf))))
     (jab (jcq (i:=8) (cp:=[(0,"script"),(6,"here"),(5,"piece")]) (te:=jeE (jkZ K) [] E0 (jaZ (jbA 1) (jaZ (tOp (rI0 fun i j=>.int (i+j)) (tOp (rI0 fun i j=>.int (i+j)) (jbA 2) (tC (.int 1))) (tOp (rI CMul fun i j=>.int (i * j)) (tC (.int 25)) (jbA 0))) (jaZ (tOp (jlk K) (jbA 3) (tC (.int 2))) jeM)))) scValues.nd rfl rfl
      (CompScope.of (jag jcu) ["script","start","pieces","values","k","piece","here","many","row"] rfl rfl (by decide +kernel)) rfl (jbQ rfl T.zRange (jaa (pv 7) jad)) (fun _ _ _ _ _=>jbz)
      (fun _ _ _ _ _=>jai GR hr rfl T.mLawRow T.fLawRow.kp T.bLawRow .nil jam (jaa (pv 1) (jaa (jar jaL (jar jaL (pv 2) jaf) (jar jdq jaf (pv 0))) (jaa (jap jal (pv 3) jaf (fun _ _=>rfl)) jad)))))
     (jae (jcB hu (pv 3) (jap jal (pv 5) jaf (fun _ _=>rfl)) (pv 8) rfl)))) jaq))))))
   (jae (jak (pv 3)))),?_⟩
  dsimp only [cxK]
  intro d hd
  have s1:=jah hd (.dK [])
  have hd1:(L2.upd H d (.dK [])) d=some (.dK []):=jac
  refine ⟨_,rfl,l,us,rfl,.inl (SqL.of (s1 _ _ hl)),_,rfl,by omega,by omega,?_⟩
  rw [Int.toNat_natCast]
  generalize L2.upd H d (.dK [])=Hd at *
  refine jcs (lo:=0) (n:=us.length) (fun i σ H'=>∃ (kvs:List (Key×V)) (rs:List RQ) (o4 o5 o6 o7 o8:Option V),σ=[some (.ref a),some (.int st),some (.ref l),some (.ref d),o4,o5,o6,o7,o8]/\Half Hd H' d kvs (ps.take i) rs)
   ⟨[],[],none,none,none,none,none,rfl,fun _ _ z _=>z,hd1,.nil,.nil⟩ (fun i σ H' hi e D1 hD1=>?_) (fun σ H' e=>?_)
  ·obtain ⟨kvs,rs,o4,o5,o6,o7,o8,rfl,hf⟩:=e
   have s2:Same H H':=fun b o z=>hf.same b o (s1 _ _ z) (ne_of_none z hd)
   have hx:us[i]?=some us[i]:=List.getElem?_eq_getElem hi
   obtain ⟨p,ep,pat⟩:=Paired.two hp hx
   have hat:atI us (0+(i:Int))=some us[i]:=by rw [Int.zero_add]; exact jba hx
   have okp:=ok.all p (List.mem_of_getElem? ep)
   have fresh:=jgF (f:=Pie.nm) ep ok.nd
   have hlen:kvs.length < sizeLine:=jbs (by rw [<- hf.at'.length]; exact Nat.le_trans (jhm _ _) (by rw [List.length_take]; omega))
   have tk:=jaC ep
   refine ⟨_,rfl,_,rfl,l,us,_,_,rfl,rfl,SqL.of (s2 _ _ hl),hat,?_⟩
   refine ⟨_,rfl,_,rfl,_,_,rfl,rfl,.inl ⟨by decide,by decide⟩,_,_,rfl,rfl,?_⟩
   cases p with
   | one p =>
    obtain ⟨b,eb,hb⟩:=pat
    rw [eb]
    cases p with
    | say z =>
     refine ⟨_,rfl,b,_,_,_,rfl,rfl,SqT.of (s2 _ _ hb),rfl,rfl,_,rfl,jbe ne_as.symm ?_⟩
     refine ⟨_,rfl,b,_,_,_,rfl,rfl,SqT.of (s2 _ _ hb),rfl,rfl,_,rfl,jbe ne_sr ?_⟩
     exact hD1 _ _ ⟨kvs,_,_,_,_,_,_,rfl,by rw [tk]; exact hf.say z⟩
    | ask m sg lo hi' =>
     refine ⟨_,rfl,b,_,_,_,rfl,rfl,SqT.of (s2 _ _ hb),rfl,rfl,_,rfl,jcr rfl ?_⟩
     refine ⟨_,rfl,_,rfl,_,rfl,a,ns,_,_,m,sg,lo,hi',rfl,hS.mono s2,by omega,by omega,⟨b,rfl,s2 _ _ hb⟩,okp,fun t ft=>?_⟩
     refine ⟨_,rfl,_,rfl,b,_,_,_,rfl,rfl,SqT.of (s2 _ _ hb),rfl,d,_,rfl,DPut.k (k:=Sum.inr m) hf.here hlen,?_⟩
     have h2:=hf.put (p:=.one (.ask m sg lo hi')) (r:=.one (.tx (tl t))) (rv:=.tx (tl t)) (v:=.str t) ⟨_,hd1⟩ (fresh m (List.mem_singleton.mpr rfl)) rfl (.one (ft.one okp)) rfl
     have hb2:=h2.same b _ (s1 _ _ hb) (ne_of_none hb hd)
     refine ⟨_,rfl,b,_,_,_,rfl,rfl,SqT.of hb2,rfl,rfl,_,rfl,jbe ne_ra.symm ?_⟩
     exact hD1 _ _ ⟨_,_,_,_,_,_,_,rfl,by rw [tk]; exact h2⟩
   | rows n inner gap lo hi' =>
    obtain ⟨b,r2,ws,eb,hb,hr2',hin⟩:=pat
    obtain ⟨hn,hpo,hg,b0,b1,b2⟩:=okp
    rw [eb]
    refine ⟨_,rfl,b,_,_,_,rfl,rfl,SqT.of (s2 _ _ hb),rfl,rfl,_,rfl,jbe ne_ra ?_⟩
    refine ⟨_,rfl,b,_,_,_,rfl,rfl,SqT.of (s2 _ _ hb),rfl,rfl,_,rfl,jcr rfl ?_⟩
    refine ⟨_,rfl,b,_,_,_,rfl,rfl,SqT.of (s2 _ _ hb),rfl,_,rfl,_,rfl,a,ns,_,rfl,hS.mono s2,by omega,by omega,_,rfl,b,_,_,_,rfl,rfl,SqT.of (s2 _ _ hb),rfl,_,rfl,b,_,_,_,rfl,rfl,SqT.of (s2 _ _ hb),rfl,_,_,rfl,rfl,_,_,rfl,rfl,_,_,rfl,rfl,(by show 0 < hi' - lo+1; omega),_,_,rfl,rfl,?_⟩
    generalize jaR ns (st+90 * (0+(i:Int)))=c
    have d0:0<=c % (hi' - lo+1):=Int.emod_nonneg _ (by omega)
    have d1:c % (hi' - lo+1) < hi' - lo+1:=Int.emod_lt_of_pos _ (by omega)
    refine ⟨_,rfl,lo+c % (hi' - lo+1),rfl,by omega,by omega,?_⟩
    generalize hm:(lo+c % (hi' - lo+1)).toNat=m
    refine jiH (lo:=0) (n:=m) (fun j ys H5=>Same H' H5/\∃ rr,rr.length=j/\(∀ r∈rr,FitL (inner.map mPc) r)/\Paired (RowD Hd H5 inner) rr ys) ⟨Same.refl _,[],rfl,(fun _ z=>nomatch z),.nil⟩ (fun j ys H5 _ e=>?_) (jbp (by omega)) (fun j ys H5 hj e=>?_) (fun ys H5 e r hr'=>?_)
    ·obtain ⟨_,rr,e2,_,e4⟩:=e
     rw [<- e4.length,e2]; exact Nat.le_refl _
    ·obtain ⟨e1,rr,e2,e3,e4⟩:=e
     have s3:=s2.trans e1
     refine ⟨_,rfl,_,rfl,_,_,rfl,rfl,_,rfl,_,_,rfl,rfl,.inl ⟨by decide,by decide⟩,_,_,rfl,rfl,_,rfl,b,_,_,_,rfl,rfl,SqT.of (s3 _ _ hb),rfl,a,r2,ns,_,ws,inner,rfl,hS.mono s3,by omega,by omega,s3 _ _ hr2',Paired.mapP hin fun _ _ z=>z.mono s3,hpo,fun x r1 hx' fr=>?_⟩
     have s4:=jah hx' (.dK (jcX (jbL inner r1)))
     have hxd:Hd x=none:=by
      cases z:Hd x with
      | none=>rfl
      | some o =>
       by_cases y:x=d
       ·rw [y,e1 _ _ hf.here] at hx'; cases hx'
       ·rw [e1 _ _ (hf.same x o z y)] at hx'; cases hx'
     refine ⟨e1.trans s4,rr++[r1],by rw [List.length_append,e2]; rfl,fun r hr=>?_,Paired.snoc (Paired.mapP e4 fun _ _ z=>z.same s4) ⟨x,rfl,jac,hxd⟩⟩
     rcases List.mem_append.mp hr with y | y
     ·exact e3 r y
     ·rw [List.mem_singleton.mp y]; exact fr
    ·obtain ⟨e1,rr,e2,e3,e4⟩:=e
     have s4:=jah hr' (.lst ys)
     have h1':=hf.mono (e1.trans s4)
     have hb2:=(e1.trans s4) _ _ (s2 _ _ hb)
     refine ⟨_,rfl,_,rfl,_,rfl,b,_,_,_,rfl,rfl,SqT.of hb2,rfl,d,_,rfl,DPut.k (k:=Sum.inr n) h1'.here hlen,?_⟩
     have hxd:Hd r=none:=by
      cases z:Hd r with
      | none=>rfl
      | some o =>
       by_cases y:r=d
       ·rw [y,e1 _ _ hf.here] at hr'; cases hr'
       ·rw [e1 _ _ (hf.same r o z y)] at hr'; cases hr'
     have h2:=h1'.put (p:=.rows n inner gap lo hi') (r:=.rows rr) (rv:=.rows inner rr) ⟨_,hd1⟩ (fresh n (List.mem_singleton.mpr rfl)) rfl (.rows (by omega) (by omega) e3) ⟨r,ys,rfl,jac,hxd,Paired.mapP e4 fun _ _ z=>z.same s4⟩
     exact hD1 _ _ ⟨_,_,_,_,_,_,_,rfl,by rw [tk]; exact h2⟩
  ·obtain ⟨kvs,rs,o4,o5,o6,o7,o8,rfl,hf⟩:=e
   rw [hus,List.take_length] at hf
   exact ⟨_,rfl,q _ rs H' (fun b o z=>hf.same b o (s1 _ _ z) (ne_of_none z hd)) ⟨d,kvs,rfl,hf.here,hd,Paired.mapP hf.at' fun _ _ z=>z.older fun b=>s1.free⟩ hf.fit⟩
end
noncomputable def tr (p:Prop):Bool:=@decide p (Classical.propDecidable p)
theorem tr_t {p:Prop} (h:p):tr p=true:=@decide_eq_true p (Classical.propDecidable p) h
theorem jpG {p:Prop} (h:¬ p):tr p=false:=@decide_eq_false p (Classical.propDecidable p) h
theorem jpH {p:Prop} (h:tr p=true):p:=@of_decide_eq_true p (Classical.propDecidable p) h
theorem jfb {p q:Prop} (h:p↔q):tr p=tr q:=by rw [propext h]
theorem jmY {a b:List Nat}:tr (a=b)=(sOf a==sOf b):=by
 by_cases z:a=b
 ·rw [tr_t z,z]; simp
 ·rw [jpG z]
  symm
  exact beq_false_of_ne fun y=>z (jho y)
section
variable {α:Type} {S:Str×α->Str×α->Prop} {P P':α->V->Prop}
abbrev AtK (P:α->V->Prop) (e:Str×α) (kv:Key×V):Prop:=kv.1=Sum.inr e.1/\P e.2 kv.2
theorem jog {ka:List (Key×V)}:∀ {es:List (Str×α)},Paired (AtK P) es ka->∀ {k:Key} {v:V},(k,v)∈ka->∃ n,k=Sum.inr n/\n∈es.map (·.1):=by
 intro es h
 induction h with
 | nil=>intro k v z; cases z
 | @cons e kv es' ka' a b ih =>
  intro k v z
  rcases List.mem_cons.mp z with z | z
  ·exact ⟨e.1,by rw [<- a.1,<- z],by simp⟩
  ·obtain ⟨n,h1,h2⟩:=ih z
   exact ⟨n,h1,by rw [List.map_cons]; exact List.mem_cons_of_mem _ h2⟩
theorem jlb (hS:∀ e e',S e e'->e.1=e'.1):∀ {es es':List (Str×α)} {ka kb:List (Key×V)},Paired S es es'->Paired (AtK P) es ka->Paired (AtK P') es' kb->(es.map (·.1)).Nodup ->
  ∀ k v,(k,v)∈ka->∃ n a a' v',k=Sum.inr n/\es.lookup n=some a/\es'.lookup n=some a'/\jbt kb k=some v'/\S (n,a) (n,a')/\P a v/\P' a' v'
 | _,_,_,_,.nil,.nil,.nil,_,_,_,z=>by cases z
 | (n,a)::es,(n',a')::es',(k0,v0)::ka,(k1,v1)::kb,.cons s t,.cons h1 t1,.cons h2 t2,nd,k,v,z=>by
  have en:n=n':=hS _ _ s
  subst en
  have nd':=List.nodup_cons.mp nd
  obtain ⟨e1,p1⟩:=h1
  obtain ⟨e2,p2⟩:=h2
  have e1:k0=Sum.inr n:=e1
  have e2:k1=Sum.inr n:=e2
  subst e1 e2
  rcases List.mem_cons.mp z with z | z
  ·cases z
   exact ⟨n,a,a',v1,rfl,List.lookup_cons_self,List.lookup_cons_self,jaV rfl,s,p1,p2⟩
  ·obtain ⟨m,b,b',v',rfl,i1,i2,i3,i4⟩:=jlb hS t t1 t2 nd'.2 k v z
   have hm:m∈es.map (·.1):=by
    obtain ⟨m',e,h⟩:=jog t1 z
    cases e; exact h
   have ne:m≠n:=fun e=>nd'.1 (by rw [<- e]; exact hm)
   exact ⟨m,b,b',v',rfl,by rw [jcn ne]; exact i1,by rw [jcn ne]; exact i2,by rw [jaQ (fun y=>ne (Sum.inr.inj y).symm)]; exact i3,i4⟩
theorem jpI (hS:∀ e e',S e e'->e.1=e'.1):∀ {es es':List (Str×α)},Paired S es es'->(es.map (·.1)).Nodup->(∀ n∈es.map (·.1),es.lookup n=es'.lookup n)->es=es'
 | _,_,.nil,_,_=>rfl
 | (n,a)::es,(n',a')::es',.cons s t,nd,h=>by
  have en:n=n':=hS _ _ s
  subst en
  have nd':=List.nodup_cons.mp nd
  have h0:=h n (by simp)
  rw [List.lookup_cons_self,List.lookup_cons_self] at h0
  cases h0
  rw [jpI hS t nd'.2 fun m hm=>?_]
  have ne:m≠n:=fun e=>nd'.1 (by rw [<- e]; exact hm)
  have:=h m (by rw [List.map_cons]; exact List.mem_cons_of_mem _ hm)
  rw [jcn ne,jcn ne] at this
  exact this
theorem jlc {H:Hp} {R:V->V->Bool->Prop} {p q:Addr} {es es':List (Str×α)} {ka kb:List (Key×V)} (hS:∀ e e',S e e'->e.1=e'.1) (hs:Paired S es es') (nd:(es.map (·.1)).Nodup) (ha:Paired (AtK P) es ka) (hb:Paired (AtK P') es' kb)
  (hR:∀ n a a' v v',S (n,a) (n,a')->P a v->P' a' v'->R v v' (tr (a=a'))) (h1:Rd H p (.dK ka)) (h2:Rd H q (.dK kb)) (hpq:p=q->es=es'):CmK H R (.ref p) (.ref q) (tr (es=es')):=by
 refine ⟨p,q,ka,kb,rfl,rfl,h1,h2,fun e=>tr_t (hpq e),by rw [<- ha.length,<- hb.length,hs.length],fun k=>tr (∀ n,k=Sum.inr n->es.lookup n=es'.lookup n),fun k v hk=>?_,?_⟩
 ·obtain ⟨n,a,a',v',rfl,i1,i2,i3,i4,i5,i6⟩:=jlb hS hs ha hb nd k v hk
  refine .inr ⟨v',i3,?_⟩
  show R v v' (tr (∀ m,(Sum.inr n:Key)=Sum.inr m->es.lookup m=es'.lookup m))
  rw [jfb (q:=a=a') ⟨fun h=>by have:=h n rfl; rw [i1,i2] at this; exact Option.some.inj this,fun z m hm=>by cases hm; rw [i1,i2,z]⟩]
  exact hR n a a' v v' i4 i5 i6
 ·by_cases z:es=es'
  ·rw [tr_t z]
   symm
   rw [List.all_eq_true]
   intro kv _
   exact tr_t fun n _=>by rw [z]
  ·rw [jpG z]
   symm
   refine Bool.eq_false_iff.mpr fun h=>z ?_
   rw [List.all_eq_true] at h
   refine jpI hS hs nd fun n hn=>?_
   obtain ⟨v,hv⟩:∃ v,((Sum.inr n:Key),v)∈ka:=by
    clear z h hb h1 h2 hpq hs hR
    induction ha with
    | nil=>cases hn
    | @cons e kv es2 ka2 a b ih =>
     rw [List.map_cons] at hn nd
     rcases List.mem_cons.mp hn with y | y
     ·exact ⟨kv.2,by rw [y,<- a.1]; exact List.mem_cons_self⟩
     ·obtain ⟨v,hv⟩:=ih (List.nodup_cons.mp nd).2 y
      exact ⟨v,List.mem_cons_of_mem _ hv⟩
   exact jpH (h _ hv) n rfl
end
theorem jfI:∀ {inner:List Pc} {r r':List R1},FitL (inner.map mPc) r->FitL (inner.map mPc) r'->jbL inner r=jbL inner r'->r=r'
 | [],_,_,.nil,.nil,_=>rfl
 | .say t::ps,_,_,.cons h t',.cons h2 t2,e=>by
  cases h; cases h2
  rw [jfI (inner:=ps) t' t2 e]
 | .ask n sg lo hi::ps,_,_,.cons h t',.cons h2 t2,e=>by
  cases h with
  | @ask _ _ _ wd _ _ _ =>
  cases h2 with
  | @ask _ _ _ wd' _ _ _ =>
  have e':(n,wd)::jbL ps _=(n,wd')::jbL ps _:=e
  injection e' with e1 e2
  cases e1
  rw [jfI (inner:=ps) t' t2 e2]
theorem jhq:∀ {es:List (Str×List Nat)},Paired (AtK fun w v=>v=V.str (sOf w)) es (jcX es)
 | []=>.nil
 | (n,w)::es=>.cons ⟨rfl,rfl⟩ jhq
theorem jim:∀ {es es':List (Str×List Nat)},jcX es=jcX es'->es=es'
 | [],[],_=>rfl
 | [],_::_,h=>by cases h
 | _::_,[],h=>by cases h
 | (n,w)::es,(n',w')::es',h=>by
  have h':((Sum.inr n:Key),V.str (sOf w))::jcX es=(Sum.inr n',V.str (sOf w'))::jcX es':=h
  injection h' with h1 h2
  have h3:=congrArg Prod.fst h1
  have h4:=congrArg Prod.snd h1
  cases Sum.inr.inj h3
  have h5:sOf w=sOf w':=V.str.inj h4
  rw [jho h5,jim h2]
theorem jld {α:Type}:∀ {es es':List (Str×α)},es.map (·.1)=es'.map (·.1)->Paired (fun e e':Str×α=>e.1=e'.1) es es'
 | [],[],_=>.nil
 | [],_::_,h=>by cases h
 | _::_,[],h=>by cases h
 | _::_,_::_,h=>by
  rw [List.map_cons,List.map_cons] at h
  injection h with h1 h2
  exact .cons h1 (jld h2)
section
variable {K:PySem.W.Frag} {H0 H1 H:Hp}
theorem RowD.det {inner:List Pc} {r r':List R1} {v:V} (h:RowD H0 H inner r v) (h':RowD H1 H inner r' v) (f:FitL (inner.map mPc) r) (f':FitL (inner.map mPc) r'):r=r':=by
 obtain ⟨a,rfl,ha,_⟩:=h
 obtain ⟨b,e,hb,_⟩:=h'
 cases e
 rw [ha] at hb
 injection hb with hb
 injection hb with hb
 exact jfI f f' (jim hb)
theorem RowD.cm {inner:List Pc} {r r':List R1} {v v':V} (h:RowD H0 H inner r v) (h':RowD H1 H inner r' v') (f:FitL (inner.map mPc) r) (f':FitL (inner.map mPc) r') (nd:(inner.flatMap Pc.nm).Nodup):CmD K H 1 v v' (tr (r=r')):=by
 have hd:v=v'->r=r':=fun e=>h.det (by rw [e]; exact h') f f'
 obtain ⟨a,rfl,ha,_⟩:=h
 obtain ⟨b,rfl,hb,_⟩:=h'
 rw [jfb (q:=jbL inner r=jbL inner r') ⟨fun z=>by rw [z],jfI f f'⟩]
 refine .inr (.inr (jlc (S:=fun e e'=>e.1=e'.1) (fun _ _ z=>z) (jld (by rw [jcb f,jcb f'])) (by rw [jcb f]; exact nd) jhq jhq (fun n w w' v v' _ e1 e2=>?_) (.inl ha) (.inl hb) fun z=>by rw [hd (by rw [z])]))
 exact ⟨_,_,e1,e2,jmY⟩
theorem jfJ {inner:List Pc}:∀ {rr rr':List (List R1)} {us:List V},Paired (RowD H0 H inner) rr us->Paired (RowD H1 H inner) rr' us->(∀ r∈rr,FitL (inner.map mPc) r)->(∀ r∈rr',FitL (inner.map mPc) r)->rr=rr'
 | _,_,_,.nil,.nil,_,_=>rfl
 | _,_,_,.cons h t,.cons h' t',f,f'=>by
  rw [h.det h' (f _ List.mem_cons_self) (f' _ List.mem_cons_self),jfJ t t' (fun r hr=>f r (List.mem_cons_of_mem _ hr)) (fun r hr=>f' r (List.mem_cons_of_mem _ hr))]
theorem allFrom_iff {e:Nat->Bool}:∀ {n i:Nat},jbh e i n=true↔∀ j,i<=j->j < i+n->e j=true
 | 0,i=>⟨fun _ j h1 h2=>by omega,fun _=>rfl⟩
 | n+1,i=>by
  rw [jbh,Bool.and_eq_true,allFrom_iff]
  constructor
  ·rintro ⟨h1,h2⟩ j a b
   by_cases z:j=i
   ·rw [z]; exact h1
   ·exact h2 j (by omega) (by omega)
  ·intro h
   exact ⟨h i (Nat.le_refl _) (by omega),fun j a b=>h j (by omega) (by omega)⟩
theorem joh {inner:List Pc} {rr rr':List (List R1)} {us us':List V} {l l':Addr} (nd:(inner.flatMap Pc.nm).Nodup) (hl:H l=some (.lst us)) (hl':H l'=some (.lst us')) (h:Paired (RowD H0 H inner) rr us) (h':Paired (RowD H1 H inner) rr' us') (f:∀ r∈rr,FitL (inner.map mPc) r) (f':∀ r∈rr',FitL (inner.map mPc) r) :
  CmD K H 2 (.ref l) (.ref l') (tr (rr=rr')):=by
 refine .inr (.inl ⟨l,l',us,us',rfl,rfl,SqL.of hl,SqL.of hl',fun e=>?_,?_⟩)
 ·subst e
  rw [hl] at hl'
  injection hl' with e
  injection e with e
  subst e
  exact tr_t (jfJ h h' f f')
 ·by_cases hlen:us.length=us'.length
  ·right
   refine ⟨hlen,fun j=>tr (rr[j]?=rr'[j]?),fun j x' y' hx hy=>?_,?_⟩
   ·obtain ⟨r,er,hr⟩:=Paired.two h hx
    obtain ⟨r',er',hr'⟩:=Paired.two h' hy
    show CmD K H 1 x' y' (tr (rr[j]?=rr'[j]?))
    rw [er,er',jfb (q:=r=r') ⟨Option.some.inj,fun z=>by rw [z]⟩]
    exact hr.cm hr' (f r (List.mem_of_getElem? er)) (f' r' (List.mem_of_getElem? er')) nd
   ·by_cases z:rr=rr'
    ·rw [tr_t z]
     symm
     exact allFrom_iff.mpr fun j _ _=>tr_t (by rw [z])
    ·rw [jpG z]
     symm
     refine Bool.eq_false_iff.mpr fun y=>z (List.ext_getElem? fun j=>?_)
     by_cases hj:j < us.length
     ·exact jpH (allFrom_iff.mp y j (Nat.zero_le _) (by omega))
     ·have h1:=h.length
      have h2:=h'.length
      rw [List.getElem?_eq_none (by omega),List.getElem?_eq_none (by omega)]
  ·left
   refine ⟨hlen,jpG fun e=>hlen ?_⟩
   rw [<- h.length,<- h'.length,e]
def SK (e e':Str×RV):Prop:=e.1=e'.1/\match e.2,e'.2 with
 | .tx _,.tx _=>True
 | .rows i rr,.rows i' rr'=>i=i'/\(i.flatMap Pc.nm).Nodup/\(∀ r∈rr,FitL (i.map mPc) r)/\∀ r∈rr',FitL (i.map mPc) r
 | _,_=>False
theorem jin:∀ {ps:List Pie} {rs rs':List RQ},(∀ p∈ps,p.ok)->Mth.FitF (ps.map mPie) rs->Mth.FitF (ps.map mPie) rs'->Paired SK (jbv ps rs) (jbv ps rs')
 | [],_,_,_,.nil,.nil=>.nil
 | .one (.say t)::ps,_,_,ok,.cons h t',.cons h2 t2=>by
  cases h; cases h2
  exact jin (ps:=ps) (fun p hp=>ok p (List.mem_cons_of_mem _ hp)) t' t2
 | .one (.ask n sg lo hi)::ps,_,_,ok,.cons h t',.cons h2 t2=>by
  cases h with
  | one h =>
  cases h2 with
  | one h2 =>
  cases h with
  | ask _ _ _ =>
  cases h2 with
  | ask _ _ _ =>
  exact .cons ⟨rfl,trivial⟩ (jin (ps:=ps) (fun p hp=>ok p (List.mem_cons_of_mem _ hp)) t' t2)
 | .rows n inner gap lo hi::ps,_,_,ok,.cons h t',.cons h2 t2=>by
  cases h with
  | rows _ _ f =>
  cases h2 with
  | rows _ _ f2 =>
  obtain ⟨_,hpo,_⟩:=ok _ List.mem_cons_self
  exact .cons ⟨rfl,rfl,hpo.nd,f,f2⟩ (jin (ps:=ps) (fun p hp=>ok p (List.mem_cons_of_mem _ hp)) t' t2)
theorem jfK:∀ {ps:List Pie} {rs rs':List RQ},Mth.FitF (ps.map mPie) rs->Mth.FitF (ps.map mPie) rs'->jbv ps rs=jbv ps rs'->rs=rs'
 | [],_,_,.nil,.nil,_=>rfl
 | .one (.say t)::ps,_,_,.cons h t',.cons h2 t2,e=>by
  cases h with
  | one h =>
  cases h2 with
  | one h2 =>
  cases h; cases h2
  rw [jfK (ps:=ps) t' t2 e]
 | .one (.ask n sg lo hi)::ps,_,_,.cons h t',.cons h2 t2,e=>by
  cases h with
  | one h =>
  cases h2 with
  | one h2 =>
  cases h with
  | @ask _ _ _ wd _ _ _ =>
  cases h2 with
  | @ask _ _ _ wd' _ _ _ =>
  have e':(n,RV.tx wd)::jbv ps _=(n,RV.tx wd')::jbv ps _:=e
  injection e' with e1 e2
  cases e1
  rw [jfK (ps:=ps) t' t2 e2]
 | .rows n inner gap lo hi::ps,_,_,.cons h t',.cons h2 t2,e=>by
  cases h with
  | @rows _ _ _ _ rr _ _ f =>
  cases h2 with
  | @rows _ _ _ _ rr' _ _ f2 =>
  have e':(n,RV.rows inner rr)::jbv ps _=(n,RV.rows inner rr')::jbv ps _:=e
  injection e' with e1 e2
  cases e1
  rw [jfK (ps:=ps) t' t2 e2]
theorem jpJ {n n':Str} {rv rv':RV} {v:V} (s:SK (n,rv) (n',rv')) (h:RvAt H0 H rv v) (h':RvAt H1 H rv' v):rv=rv':=by
 obtain ⟨_,s⟩:=s
 cases rv with
 | tx w =>
  cases rv' with
  | tx w' =>
   have e:V.str (sOf w)=V.str (sOf w'):=(show v=_ from h).symm.trans h'
   rw [jho (V.str.inj e)]
  | rows _ _=>exact s.elim
 | rows i rr =>
  cases rv' with
  | tx _=>exact s.elim
  | rows i' rr' =>
   obtain ⟨e,nd,f,f'⟩:=s
   subst e
   obtain ⟨l,us,e1,hl,_,hp⟩:=h
   obtain ⟨l',us',e2,hl',_,hp'⟩:=h'
   rw [e1] at e2
   cases e2
   rw [hl] at hl'
   injection hl' with y
   injection y with y
   subst y
   rw [jfJ hp hp' f f']
theorem jio:∀ {es es':List (Str×RV)} {kvs:List (Key×V)},Paired SK es es'->Paired (EntAt H0 H) es kvs->Paired (EntAt H1 H) es' kvs->es=es'
 | _,_,_,.nil,.nil,.nil=>rfl
 | (n,rv)::_,(n',rv')::_,_,.cons s t,.cons h t1,.cons h' t2=>by
  have en:n=n':=s.1
  have er:rv=rv':=jpJ s h.2 h'.2
  rw [en,er,jio t t1 t2]
theorem rv_cm {n:Str} {rv rv':RV} {v v':V} (s:SK (n,rv) (n,rv')) (h:RvAt H0 H rv v) (h':RvAt H1 H rv' v'):CmD K H 2 v v' (tr (rv=rv')):=by
 obtain ⟨_,s⟩:=s
 cases rv with
 | tx w =>
  cases rv' with
  | tx w' =>
   refine .inl (.inl ⟨_,_,h,h',?_⟩)
   rw [jfb (q:=w=w') ⟨RV.tx.inj,fun z=>by rw [z]⟩]
   exact jmY
  | rows _ _=>exact s.elim
 | rows i rr =>
  cases rv' with
  | tx _=>exact s.elim
  | rows i' rr' =>
   obtain ⟨e,nd,f,f'⟩:=s
   subst e
   obtain ⟨l,us,e1,hl,_,hp⟩:=h
   obtain ⟨l',us',e2,hl',_,hp'⟩:=h'
   subst e1 e2
   rw [jfb (q:=rr=rr') ⟨fun y=>by injection y,fun z=>by rw [z]⟩]
   exact joh nd hl hl' hp hp' f f'
theorem FrmD.cm {ps:List Pie} {rs rs':List RQ} {v v':V} (ok:FormOk ps) (f:Mth.FitF (ps.map mPie) rs) (f':Mth.FitF (ps.map mPie) rs') (h:FrmD H0 H ps rs v) (h':FrmD H1 H ps rs' v'):CmK H (CmD K H 2) v v' (tr (rs=rs')):=by
 obtain ⟨a,ka,rfl,ha,_,hp⟩:=h
 obtain ⟨b,kb,rfl,hb,_,hp'⟩:=h'
 have sk:=jin ok.all f f'
 rw [jfb (q:=jbv ps rs=jbv ps rs') ⟨fun z=>by rw [z],jfK f f'⟩]
 refine jlc (S:=SK) (P:=RvAt H0 H) (P':=RvAt H1 H) (fun _ _ z=>z.1) sk (by rw [jbF f]; exact ok.nd) hp hp' (fun n rv rv' v v' s h h'=>rv_cm s h h') (.inl ha) (.inl hb) fun z=>?_
 subst z
 rw [ha] at hb
 injection hb with y
 injection y with y
 subst y
 exact jio sk hp hp'
theorem FrmD.cmD {ps:List Pie} {rs rs':List RQ} {v v':V} (ok:FormOk ps) (f:Mth.FitF (ps.map mPie) rs) (f':Mth.FitF (ps.map mPie) rs') (h:FrmD H0 H ps rs v) (h':FrmD H1 H ps rs' v'):CmD K H 3 v v' (tr (rs=rs')):=.inr (.inr (FrmD.cm ok f f' h h'))
end
theorem jcW:∀ n,(List.replicate n (V.bl true)).all jfi=true
 | 0=>rfl
 | n+1=>by rw [List.replicate_succ,List.all_cons,jcW n]; rfl
theorem jdJ:∀ n,inV (.bl false) (List.replicate n (V.bl true))=false
 | 0=>rfl
 | n+1=>by
  have:=jdJ n
  unfold inV at this ⊢
  rw [List.replicate_succ,List.any_cons,this]; rfl
theorem EqD.txts {K:PySem.W.Frag} {H:Hp}:∀ (ts:List Str),Paired (EqD K H 0) (ts.map V.str) (ts.map V.str)
 | []=>.nil
 | _::r=>.cons ⟨rfl,trivial⟩ (EqD.txts r)
section
variable {P:Program} {w:World} {K:PySem.W.Frag} {mg:Str->Option Value} {base:Heap} {D:Adr}
theorem scWF:FnScope ["piece","word"] ["piece","word"] (jag jbK):=⟨rfl,rfl,rfl,by decide +kernel,rfl,by decide +kernel,by decide +kernel⟩
def spWF:Sp:=fun vs H Q _=>∃ (v:V) (n sg z:Str) (lo hi:Int),vs=[v,.str z]/\(Pc.ask n sg lo hi).At H v/\hi<=4/\Fits sg lo hi z/\∀ H',Same H H'->Q (.bl true) H'
theorem jpK (T:Txt w K mg D):FnOk P w K mg base CX0 1 D.aLawWordFits D.dLawWordFits ["piece","word"] spWF:=by
 refine T.fLawWordFits.ok scWF (fun vs H Q E h=>?_) (fun cdv A outer s H vs Q E hr h=>?_)
 ·obtain ⟨v,n,sg,z,lo,hi,rfl,_⟩:=h; rfl
 ·obtain ⟨v,n,sg,z,lo,hi,rfl,⟨b,rfl,hb⟩,h4,ft,q⟩:=h
  have hz:z.length<=sizeLine:=jbp (by have:=ft.hi; omega)
  refine ⟨_,jab (jay (PW.pt (jfN (jbB (jaJ (jaj jau rfl T.zIsinstance PyProof.Rows.boot_isinstance (jaa (pv 1) (jaa (jcY (v:=.ty "str") rfl T.zStr PyProof.Rows.boot_str rfl) jad)))))
    (jeI (jbB (jhA jdL jdL (jap jal (pv 0) jaf (fun _ _=>rfl)) (jaj jaW rfl T.zLen PySem.boot_len (jaa (pv 1) jad)) (jap jal (pv 0) jaf (fun _ _=>rfl))))))) (jae (jak jbk)) jaq)
   (jae (jak (jaY jds jbk (jbD (cp:=[(0,"piece")]) (te:=tOp (jgT false) (jbA 0) (tOp (jlk K) (jbA 1) (tC (.int 2)))) (CompScope.of (jag jbK) ["piece","word"] rfl rfl (by decide +kernel)) rfl (jgc (pv 1)) (fun _ _ _ _ _=>jbz)
    (fun _ _ _ _ _=>jaY jdV (pv 0) (jap jal (pv 1) jaf (fun _ _=>rfl)) rfl)) rfl))),?_⟩
  dsimp only [cxK]
  refine ⟨_,rfl,_,_,true,.inr ⟨_,rfl,T.isStrStr⟩,TyOf.str _,_,rfl,jbn ?_⟩
  refine ⟨_,rfl,b,_,_,_,rfl,rfl,SqT.of hb,rfl,_,rfl,z,rfl,hz,_,_,rfl,rfl,_,rfl,jcr ft.lo ⟨_,rfl,b,_,_,_,rfl,rfl,SqT.of hb,rfl,_,_,rfl,rfl,_,rfl,?_⟩⟩
  rw [decide_eq_true ft.hi]
  refine jbn ⟨_,rfl,z,rfl,jhH (fun i ys H'=>H'=H/\ys=List.replicate i (V.bl true)) ⟨rfl,rfl⟩ (fun i ys H' _ e=>by rw [e.2,List.length_replicate]; exact Nat.le_refl _) hz (fun i c ys H' hc e=>?_) (fun ys H' e p hp=>?_)⟩
  ·obtain ⟨rfl,rfl⟩:=e
   refine ⟨_,rfl,_,rfl,b,_,_,_,rfl,rfl,SqT.of hb,rfl,c,sg,rfl,rfl,?_⟩
   refine blT (Q:=fun y H5=>H5=H'/\List.replicate i (V.bl true)++[y]=List.replicate (i+1) (V.bl true)) (ft.all c (jgV hc)) ⟨rfl,?_⟩
   rw [List.replicate_succ']
  ·obtain ⟨rfl,rfl⟩:=e
   refine ⟨p,_,rfl,.inl (SqL.of jac),rfl,jcW _,?_⟩
   rw [jdJ]
   exact q _ (jah hp _)
end
def Pc.isAsk:Pc->Bool
 | .say _=>false
 | .ask ..=>true
def askN:Pc->Str
 | .say _=>""
 | .ask n ..=>n
theorem jfL:∀ ps:List Pc,(ps.filter Pc.isAsk).map askN=ps.flatMap Pc.nm
 | []=>rfl
 | .say _::ps=>jfL ps
 | .ask n ..::ps=>congrArg (n::·) (jfL ps)
theorem jle (es:List (Str×List Nat)):(jcX es).map (·.1)=(es.map (·.1)).map Sum.inr:=by
 unfold jcX
 rw [List.map_map,List.map_map]; rfl
theorem jhr:∀ {inner:List Pc} {r:List R1} (es1:List (Str×List Nat)),FitL (inner.map mPc) r->(es1.map (·.1)++inner.flatMap Pc.nm).Nodup->∀ n sg lo hi,Pc.ask n sg lo hi∈inner->(Pc.ask n sg lo hi).ok->∃ wd,(es1++jbL inner r).lookup n=some wd/\Fits sg lo hi (sOf wd)
 | [],_,_,_,_,n,sg,lo,hi,h,_=>by cases h
 | .say t::ps,_,es1,.cons h t',nd,n,sg,lo,hi,hm,ok=>by
  cases h
  rcases List.mem_cons.mp hm with z | z
  ·cases z
  ·exact jhr (inner:=ps) es1 t' nd n sg lo hi z ok
 | .ask m sg' lo' hi'::ps,_,es1,.cons h t',nd,n,sg,lo,hi,hm,ok=>by
  cases h with
  | @ask _ _ _ wd l1 l2 l3 =>
  have nd':(es1.map (·.1)++m::ps.flatMap Pc.nm).Nodup:=nd
  have hn:m∉es1.map (·.1):=fun z=>(List.nodup_append.mp nd').2.2 m z m List.mem_cons_self rfl
  rcases List.mem_cons.mp hm with z | z
  ·cases z
   obtain ⟨_,_,_,b1,b2,b3⟩:=ok
   exact ⟨wd,jew hn,⟨by rw [jcm]; omega,by rw [jcm]; omega,l3⟩⟩
  ·obtain ⟨x,e,f⟩:=jhr (inner:=ps) (es1++[(m,wd)]) t' (by rw [List.map_append,List.append_assoc]; exact nd') n sg lo hi z ok
   rw [List.append_assoc] at e
   exact ⟨x,e,f⟩
section
variable {P:Program} {w:World} {K:PySem.W.Frag} {mg:Str->Option Value} {base:Heap} {D:Adr}
theorem scRF:FnScope ["pieces","row","asks"] ["pieces","row"] (jag jbq):=⟨rfl,rfl,rfl,by decide +kernel,rfl,by decide +kernel,by decide +kernel⟩
def spRF:Sp:=fun vs H Q _=>∃ (H0:Hp) (l:Addr) (us:List V) (v:V) (inner:List Pc) (r:List R1),vs=[.ref l,v]/\H l=some (.lst us)/\Paired (Pc.At H) inner us/\PartsOk inner/\RowD H0 H inner r v/\FitL (inner.map mPc) r/\∀ H',Same H H'->Q (.bl true) H'
theorem ok_RF (T:Txt w K mg D):FnOk P w K mg base CX0 2 D.aLawRowFits D.dLawRowFits ["pieces","row"] spRF:=by
 have G:FnOk P w K mg base CX0 1 D.aLawWordFits D.dLawWordFits ["piece","word"] spWF:=jpK T
 refine T.fLawRowFits.ok scRF (fun vs H Q E h=>?_) (fun cdv A outer s H vs Q E hr h=>?_)
 ·obtain ⟨H0,l,us,v,inner,r,rfl,_⟩:=h; rfl
 ·obtain ⟨H0,l,us,v,inner,r,rfl,hl,hp,ok,⟨d,rfl,hd,_⟩,ft,q⟩:=h
  have hu:=jdS hr
  have un:∀ n,n<=60->_+n+1 < cLine:=fun n hn=>Nat.lt_of_le_of_lt (Nat.add_le_add_left (show n+1<=64 by omega) _) hr.units
  have hus:us.length=inner.length:=hp.length.symm
  have h3:=ok.hi
  refine ⟨_,jab (jcq (i:=2) (cp:=[]) (tt:=jjn (tOp (rEq) (tOp (jlk K) (jbA 0) (tC (.int 0))) (tC (.str "ask")))) (te:=jbA 0) scRF.nd rfl rfl (CompScope.of (jag jbq) ["pieces","row","asks"] rfl rfl (by decide +kernel)) rfl (jaT (pv 0))
    (fun _ _ _ _ _=>jgQ (jat jbR (jap jal (pv 0) jaf (fun _ _=>rfl)) jaz (jax _))) (fun _ _ _ _ _=>pv 0))
   (jab (jay (PW.pt (jfN (jbB (jaJ (jaj jau rfl T.zIsinstance PyProof.Rows.boot_isinstance (jaa (pv 1) (jaa (jcY (v:=.ty "dict") rfl T.zDict PyProof.Rows.boot_dict rfl) jad)))))
     (jeI (jat jdX (jaj (jeU rfl) rfl T.zSorted PyProof.Rows.boot_sorted (jaa (pv 1) jad))
      (jaj jeT rfl T.zSorted PyProof.Rows.boot_sorted (jaa (jbD (cp:=[]) (te:=tOp (jlk K) (jbA 0) (tC (.int 1))) (CompScope.of (jag jbq) ["pieces","row","asks"] rfl rfl (by decide +kernel)) rfl (jaT (pv 2)) (fun _ _ _ _ _=>jbz) (fun _ _ _ _ _=>jap jal (pv 0) jaf (fun _ _=>rfl))) jad)) (jax _))))) (jae (jak jbk)) jaq)
   (jae (jak (jaY jds jbk (jbD (cp:=[(1,"row")]) (te:=jeE spWF [] E0 (jaZ (jbA 0) (jaZ (joG (jbA 1) (tOp (jlk K) (jbA 0) (tC (.int 1)))) jeM))) (CompScope.of (jag jbq) ["pieces","row","asks"] rfl rfl (by decide +kernel)) rfl (jaT (pv 2)) (fun _ _ _ _ _=>jbz)
    (fun _ _ _ _ _=>jai G hr rfl T.mLawWordFits T.fLawWordFits.kp T.bLawWordFits .nil jam (jaa (pv 0) (jaa (jdc hu (pv 1) (jap jal (pv 0) jaf (fun _ _=>rfl)) (fun _ _=>rfl)) jad)))) rfl)))),?_⟩
  dsimp only [cxK]
  refine ⟨_,rfl,l,rfl,⟨_,SqL.of hl⟩,jde (xs:=us) (fun i ys H'=>H'=H/\Paired (Pc.At H) ((inner.take i).filter Pc.isAsk) ys) ⟨rfl,.nil⟩ (fun i ys H' hi e=>?_) (jbp (by omega)) (fun i x ys H' hx e=>?_) (fun ys H' e la nla=>?_)⟩
  ·obtain ⟨rfl,hy⟩:=e
   refine ⟨SqL.of hl,?_⟩
   rw [<- hy.length]
   exact Nat.le_trans (List.length_filter_le _ _) (by rw [List.length_take]; omega)
  ·obtain ⟨rfl,hy⟩:=e
   obtain ⟨p,ep,b,rfl,hb⟩:=Paired.two hp hx
   rw [jaC ep,List.filter_append]
   cases p with
   | say z =>
    refine ⟨_,rfl,b,_,_,_,rfl,rfl,SqT.of hb,rfl,rfl,_,rfl,jbe ne_as.symm ⟨rfl,?_⟩⟩
    show Paired _ (_++[]) ys
    rw [List.append_nil]
    exact hy
   | ask n sg lo hi =>
    exact ⟨_,rfl,b,_,_,_,rfl,rfl,SqT.of hb,rfl,rfl,_,rfl,jcr rfl ⟨_,rfl,rfl,Paired.snoc hy ⟨b,rfl,hb⟩⟩⟩
  ·obtain ⟨rfl,hy⟩:=e
   rw [hus,List.take_length] at hy
   have g1:=jah nla (.lst ys)
   have hla:(L2.upd H' la (.lst ys)) la=some (.lst ys):=jac
   have hd1:=g1 _ _ hd
   have hy1:=Paired.mapP hy fun _ _ z=>Pc.At.mono g1 z
   have hyl:ys.length<=3:=by rw [<- hy.length]; exact Nat.le_trans (List.length_filter_le _ _) (by omega)
   generalize L2.upd H' la (.lst ys)=H1 at *
   refine ⟨_,rfl,_,_,true,.inr ⟨_,rfl,T.isDictDict⟩,TyOf.dK hd1,_,rfl,jbn ?_⟩
   have ek:(jcX (jbL inner r)).map (·.1)=(inner.flatMap Pc.nm).map Sum.inr:=by rw [jle,jcb ft]
   have nl:(inner.flatMap Pc.nm).length<=3:=by rw [<- jfL,List.length_map]; exact Nat.le_trans (List.length_filter_le _ _) h3
   refine ⟨_,rfl,d,_,_,rfl,.inl hd1,ek,by omega,fun l1 t1 nl1 pm1 so1=>?_⟩
   have g2:=jah nl1 (.lst (t1.map V.str))
   have hl1:(L2.upd H1 l1 (.lst (t1.map V.str))) l1=some (.lst (t1.map V.str)):=jac
   generalize L2.upd H1 l1 (.lst (t1.map V.str))=H2 at *
   have hla2:=g2 _ _ hla
   refine ⟨_,rfl,la,rfl,⟨_,SqL.of hla2⟩,jbg (xs:=ys) (fun i zs H'=>H'=H2/\zs=(((inner.filter Pc.isAsk).take i).map askN).map V.str) ⟨rfl,rfl⟩ (fun i zs H' hi e=>?_) (jbp (by omega)) (fun i x zs H' hx e=>?_) (fun zs H' e lb nlb=>?_)⟩
   ·obtain ⟨rfl,rfl⟩:=e
    exact ⟨SqL.of hla2,by rw [List.length_map,List.length_map,List.length_take]; omega⟩
   ·obtain ⟨rfl,rfl⟩:=e
    obtain ⟨p,ep,b,rfl,hb⟩:=Paired.two hy1 hx
    have hask:=(List.mem_filter.mp (List.mem_of_getElem? ep)).2
    have hb2:=g2 _ _ hb
    rw [jaC ep,List.map_append,List.map_append]
    cases p with
    | say z=>cases hask
    | ask n sg lo hi=>exact ⟨_,rfl,b,_,_,_,rfl,rfl,SqT.of hb2,rfl,rfl,rfl⟩
   ·obtain ⟨rfl,rfl⟩:=e
    rw [<- hy.length,List.take_length,jfL]
    have g3:=jah nlb (.lst ((inner.flatMap Pc.nm).map V.str))
    have hlb:(L2.upd H' lb (.lst ((inner.flatMap Pc.nm).map V.str))) lb=some (.lst ((inner.flatMap Pc.nm).map V.str)):=jac
    generalize L2.upd H' lb (.lst ((inner.flatMap Pc.nm).map V.str))=H3 at *
    refine ⟨lb,_,rfl,SqL.of hlb,by omega,fun l2 t2 nl2 pm2 so2=>?_⟩
    obtain rfl:=jeS pm1 so1 pm2 so2
    have g4:=jah nl2 (.lst (t1.map V.str))
    have hl2:(L2.upd H3 l2 (.lst (t1.map V.str))) l2=some (.lst (t1.map V.str)):=jac
    generalize L2.upd H3 l2 (.lst (t1.map V.str))=H4 at *
    have g14:=(g2.trans g3).trans g4
    refine ⟨0,un 0 (by decide),.inl ⟨l1,l2,_,_,rfl,rfl,SqL.of ((g3.trans g4) _ _ hl1),SqL.of hl2,EqD.txts _⟩,_,rfl,jbn ?_⟩
    have hla4:=g14 _ _ hla
    refine ⟨_,rfl,la,rfl,⟨_,SqL.of hla4⟩,jbg (xs:=ys) (fun i zs H'=>Same H4 H'/\zs=List.replicate i (V.bl true)) ⟨Same.refl _,rfl⟩ (fun i zs H' hi e=>?_) (jbp (by omega)) (fun i x zs H' hx e=>?_) (fun zs H' e lc nlc=>?_)⟩
    ·obtain ⟨e1,rfl⟩:=e
     exact ⟨SqL.of (e1 _ _ hla4),by rw [List.length_replicate]; exact Nat.le_refl _⟩
    ·obtain ⟨e1,rfl⟩:=e
     obtain ⟨p,ep,b,rfl,hb⟩:=Paired.two hy1 hx
     obtain ⟨hmem,hask⟩:=List.mem_filter.mp (List.mem_of_getElem? ep)
     have s5:=g14.trans e1
     cases p with
     | say z=>cases hask
     | ask n sg lo hi =>
      have okp:=ok.all _ hmem
      obtain ⟨wd,ew,fw⟩:=jhr [] ft ok.nd n sg lo hi hmem okp
      have ev:jbt (jcX (jbL inner r)) (Sum.inr n)=some (.str (sOf wd)):=by rw [jdH]; exact congrArg (Option.map fun w=>V.str (sOf w)) ew
      have dg:DGet H' d (.str n) (some (.str (sOf wd))):=by
       have:=DGet.k (k:=Sum.inr n) (s5 _ _ hd1)
       rw [ev] at this
       exact this
      refine ⟨_,rfl,_,rfl,_,rfl,b,_,_,_,rfl,rfl,SqT.of (s5 _ _ hb),rfl,d,_,rfl,dg,_,n,sg,sOf wd,lo,hi,rfl,⟨b,rfl,s5 _ _ hb⟩,okp.2.2.2.2.2,fw,fun H6 s6=>⟨e1.trans s6,?_⟩⟩
      rw [List.replicate_succ']
    ·obtain ⟨e1,rfl⟩:=e
     refine ⟨lc,_,rfl,.inl (SqL.of jac),rfl,jcW _,?_⟩
     rw [jdJ]
     exact q _ (((g1.trans g14).trans e1).trans (jah nlc _))
end
def Pie.isVal:Pie->Bool
 | .one (.say _)=>false
 | _=>true
def valN:Pie->Str
 | .one p=>askN p
 | .rows n ..=>n
theorem jeB:∀ ps:List Pie,(ps.filter Pie.isVal).map valN=ps.flatMap Pie.nm
 | []=>rfl
 | .one (.say _)::ps=>jeB ps
 | .one (.ask n ..)::ps=>congrArg (n::·) (jeB ps)
 | .rows n ..::ps=>congrArg (n::·) (jeB ps)
theorem jip {H0 H:Hp}:∀ {es:List (Str×RV)} {kvs:List (Key×V)},Paired (EntAt H0 H) es kvs->kvs.map (·.1)=(es.map (·.1)).map Sum.inr
 | _,_,.nil=>rfl
 | _,_,.cons h t=>by rw [List.map_cons,List.map_cons,List.map_cons,jip t,h.1]
theorem jmZ:∀ {p:Pie} {r:RQ},FitQ (mPie p) r->(ent p r).map (·.1)=p.nm
 | .one (.say _),_,.one h=>by cases h; rfl
 | .one (.ask ..),_,.one h=>by cases h; rfl
 | .rows ..,_,.rows _ _ _=>rfl
theorem jna:∀ {ps:List Pie} {rs:List RQ} (es1:List (Str×RV)),Mth.FitF (ps.map mPie) rs->(es1.map (·.1)++ps.flatMap Pie.nm).Nodup->∀ p∈ps,∃ r,FitQ (mPie p) r/\∀ n rv,ent p r=[(n,rv)]->(es1++jbv ps rs).lookup n=some rv
 | [],_,_,_,_,p,h=>by cases h
 | q::ps,_,es1,.cons (v:=v) (vs:=vs) hq t',nd,p,hm=>by
  have nd':(es1.map (·.1)++(q.nm++ps.flatMap Pie.nm)).Nodup:=nd
  rcases List.mem_cons.mp hm with z | z
  ·subst z
   refine ⟨v,hq,fun n rv e=>?_⟩
   have hn:n∉es1.map (·.1):=fun z=>(List.nodup_append.mp nd').2.2 n z n (List.mem_append_left _ (by rw [<- jmZ hq,e]; exact List.mem_cons_self)) rfl
   show (es1++(ent p v++jbv ps vs)).lookup n=some rv
   rw [e]
   exact jew hn
  ·obtain ⟨r,h1,h2⟩:=jna (ps:=ps) (es1++ent q v) t' (by rw [List.map_append,jmZ hq,List.append_assoc]; exact nd') p z
   refine ⟨r,h1,fun n rv e=>?_⟩
   have:=h2 n rv e
   rw [List.append_assoc] at this
   exact this
section
variable {P:Program} {w:World} {K:PySem.W.Frag} {mg:Str->Option Value} {base:Heap} {D:Adr}
theorem scFits:FnScope ["pieces","values","piece","rows"] ["pieces","values"] (jag jcO):=⟨rfl,rfl,rfl,by decide +kernel,rfl,by decide +kernel,by decide +kernel⟩
def jnb:Sp:=fun vs H Q _=>∃ (H0:Hp) (l:Addr) (us:List V) (v:V) (ps:List Pie) (rs:List RQ),vs=[.ref l,v]/\H l=some (.lst us)/\Paired (Pie.At H) ps us/\FormOk ps/\FrmD H0 H ps rs v/\Mth.FitF (ps.map mPie) rs/\∀ H',Same H H'->Q (.bl true) H'
theorem joi (T:Txt w K mg D):FnOk P w K mg base CX0 3 D.aLawFits D.dLawFits ["pieces","values"] jnb:=by
 have GW:FnOk P w K mg base CX0 1 D.aLawWordFits D.dLawWordFits ["piece","word"] spWF:=jpK T
 have GR:FnOk P w K mg base CX0 2 D.aLawRowFits D.dLawRowFits ["pieces","row"] spRF:=ok_RF T
 refine T.fLawFits.ok scFits (fun vs H Q E h=>?_) (fun cdv A outer s H vs Q E hr h=>?_)
 ·obtain ⟨H0,l,us,v,ps,rs,rfl,_⟩:=h; rfl
 ·obtain ⟨H0,l,us,v,ps,rs,rfl,hl,hp,ok,⟨d,kvs,rfl,hd,_,hk⟩,ft,q⟩:=h
  have hu:=jdS hr
  have hr1:Room 1 _:=hr.mono (by decide)
  have un:∀ n,n<=60->_+n+1 < cLine:=fun n hn=>Nat.lt_of_le_of_lt (Nat.add_le_add_left (show n+1<=64 by omega) _) hr.units
  have hus:us.length=ps.length:=hp.length.symm
  have h6:=ok.hi
  refine ⟨_,jab (jay (jbB (jaJ (jaj jau rfl T.zIsinstance PyProof.Rows.boot_isinstance (jaa (pv 1) (jaa (jcY (v:=.ty "dict") rfl T.zDict PyProof.Rows.boot_dict rfl) jad))))) (jae (jak jbk)) jaq)
   (jab (jay (jat jdX (jaj (jeU rfl) rfl T.zSorted PyProof.Rows.boot_sorted (jaa (pv 1) jad))
      (jaj jeT rfl T.zSorted PyProof.Rows.boot_sorted (jaa (jbD (cp:=[]) (tt:=jjn (tOp rNe (tOp (jlk K) (jbA 0) (tC (.int 0))) (tC (.str "say")))) (te:=tOp (jlk K) (jbA 0) (tC (.int 1))) (CompScope.of (jag jcO) ["pieces","values","piece","rows"] rfl rfl (by decide +kernel)) rfl (jaT (pv 0)) (fun _ _ _ _ _=>jgQ (jat jfR (jap jal (pv 0) jaf (fun _ _=>rfl)) jaz (jax _))) (fun _ _ _ _ _=>jap jal (pv 0) jaf (fun _ _=>rfl))) jad)) (jax _)) (jae (jak jbk)) jaq)
   (jab (jbb PassesOwn.never rfl (jaT (pv 0)) (jaE (i:=2) scFits.nd rfl (Or.inr rfl))
    (jab (jay (PW.pt (jjc (jat jbR (jap jal (pv 2) jaf (fun _ _=>rfl)) jaz (jax _)) (jgL (jbB (jaJ (jai GW hr1 rfl T.mLawWordFits T.fLawWordFits.kp T.bLawWordFits .nil jam (jaa (pv 2) (jaa (jdc hu (pv 1) (jap jal (pv 2) jaf (fun _ _=>rfl)) (fun _ _=>rfl)) jad)))))))) (jae (jak jbk)) jaq)
    (jae (jay (jat jbR (jap jal (pv 2) jaf (fun _ _=>rfl)) jaz (jax _))
     (jab (jan (i:=3) scFits.nd rfl (Or.inl rfl) (jdc hu (pv 1) (jap jal (pv 2) jaf (fun _ _=>rfl)) (fun _ _=>rfl)))
     (jab (jay (PW.pt (jfN (jbB (jaJ (jaj jau rfl T.zIsinstance PyProof.Rows.boot_isinstance (jaa (pv 3) (jaa (jcY (v:=.ty "list") rfl T.zList PyProof.Rows.boot_list rfl) jad)))))
       (jeI (jbB (jhA jdL jdL (jap jal (pv 2) jaf (fun _ _=>rfl)) (jaj jav rfl T.zLen PySem.boot_len (jaa (pv 3) jad)) (jap jal (pv 2) jaf (fun _ _=>rfl))))))) (jae (jak jbk)) jaq)
     (jae (jay (jat jdQ jbk (jbD (cp:=[(2,"piece")]) (te:=jeE spRF [] E0 (jaZ (tOp (jlk K) (jbA 1) (tC (.int 2))) (jaZ (jbA 0) jeM))) (CompScope.of (jag jcO) ["pieces","values","piece","rows"] rfl rfl (by decide +kernel)) rfl (jaT (pv 3)) (fun _ _ _ _ _=>jbz)
       (fun _ _ _ _ _=>jai GR hr rfl T.mLawRowFits T.fLawRowFits.kp T.bLawRowFits .nil jam (jaa (jap jal (pv 1) jaf (fun _ _=>rfl)) (jaa (pv 0) jad)))) rfl) (jae (jak jbk)) jaq)))) jaq))))
   (jae (jak jbk)))),?_⟩
  dsimp only [cxK]
  refine ⟨_,rfl,_,_,true,.inr ⟨_,rfl,T.isDictDict⟩,TyOf.dK hd,_,rfl,jbn ?_⟩
  have ek:kvs.map (·.1)=(ps.flatMap Pie.nm).map Sum.inr:=by rw [jip hk,jbF ft]
  have nl:(ps.flatMap Pie.nm).length<=6:=by rw [<- jeB,List.length_map]; exact Nat.le_trans (List.length_filter_le _ _) h6
  refine ⟨_,rfl,d,_,_,rfl,.inl hd,ek,by omega,fun l1 t1 nl1 pm1 so1=>?_⟩
  have g2:=jah nl1 (.lst (t1.map V.str))
  have hl1:(L2.upd H l1 (.lst (t1.map V.str))) l1=some (.lst (t1.map V.str)):=jac
  generalize L2.upd H l1 (.lst (t1.map V.str))=H2 at *
  refine ⟨_,rfl,l,rfl,⟨_,SqL.of (g2 _ _ hl)⟩,jde (xs:=us) (fun i zs H'=>H'=H2/\zs=(((ps.take i).filter Pie.isVal).map valN).map V.str) ⟨rfl,rfl⟩ (fun i zs H' hi e=>?_) (jbp (by omega)) (fun i x zs H' hx e=>?_) (fun zs H' e lb nlb=>?_)⟩
  ·obtain ⟨rfl,rfl⟩:=e
   refine ⟨SqL.of (g2 _ _ hl),?_⟩
   rw [List.length_map,List.length_map]
   exact Nat.le_trans (List.length_filter_le _ _) (by rw [List.length_take]; omega)
  ·obtain ⟨rfl,rfl⟩:=e
   obtain ⟨p,ep,hpat⟩:=Paired.two hp hx
   rw [jaC ep,List.filter_append]
   cases p with
   | one p =>
    obtain ⟨b,rfl,hb⟩:=hpat
    have hb2:=g2 _ _ hb
    cases p with
    | say z =>
     refine ⟨_,rfl,b,_,_,_,rfl,rfl,SqT.of hb2,rfl,rfl,_,rfl,jdT rfl ⟨rfl,?_⟩⟩
     show _=((_++[]).map valN).map V.str
     rw [List.append_nil]
    | ask n sg lo hi =>
     refine ⟨_,rfl,b,_,_,_,rfl,rfl,SqT.of hb2,rfl,rfl,_,rfl,jon ne_as ⟨_,rfl,b,_,_,_,rfl,rfl,SqT.of hb2,rfl,rfl,?_⟩⟩
     rw [List.map_append,List.map_append]; rfl
   | rows n inner gap lo hi =>
    obtain ⟨b,_,_,rfl,hb,_⟩:=hpat
    have hb2:=g2 _ _ hb
    refine ⟨_,rfl,b,_,_,_,rfl,rfl,SqT.of hb2,rfl,rfl,_,rfl,jon ne_sr.symm ⟨_,rfl,b,_,_,_,rfl,rfl,SqT.of hb2,rfl,rfl,?_⟩⟩
    rw [List.map_append,List.map_append]; rfl
  ·obtain ⟨rfl,rfl⟩:=e
   rw [hus,List.take_length,jeB]
   have g3:=jah nlb (.lst ((ps.flatMap Pie.nm).map V.str))
   have hlb:(L2.upd H' lb (.lst ((ps.flatMap Pie.nm).map V.str))) lb=some (.lst ((ps.flatMap Pie.nm).map V.str)):=jac
   generalize L2.upd H' lb (.lst ((ps.flatMap Pie.nm).map V.str))=H3 at *
   refine ⟨lb,_,rfl,SqL.of hlb,by omega,fun l2 t2 nl2 pm2 so2=>?_⟩
   obtain rfl:=jeS pm1 so1 pm2 so2
   have g4:=jah nl2 (.lst (t1.map V.str))
   have hl2:(L2.upd H3 l2 (.lst (t1.map V.str))) l2=some (.lst (t1.map V.str)):=jac
   generalize L2.upd H3 l2 (.lst (t1.map V.str))=H4 at *
   have g14:=(g2.trans g3).trans g4
   refine ⟨0,un 0 (by decide),.inl ⟨l1,l2,_,_,rfl,rfl,SqL.of ((g3.trans g4) _ _ hl1),SqL.of hl2,EqD.txts _⟩,_,rfl,jbn ?_⟩
   refine ⟨_,rfl,l,rfl,⟨_,SqL.of (g14 _ _ hl)⟩,jdZ (xs:=us) (fun i σ H'=>∃ o2 o3,σ=[some (.ref l),some (.ref d),o2,o3]/\Same H H') ⟨none,none,rfl,g14⟩ (fun i σ H' hi e=>?_) (fun i x σ H' hx e D1 hD1=>?_) (fun σ H' e=>?_)⟩
   ·obtain ⟨_,_,_,e1⟩:=e
    exact SqL.of (e1 _ _ hl)
   ·obtain ⟨o2,o3,rfl,e1⟩:=e
    obtain ⟨p,ep,hpat⟩:=Paired.two hp hx
    have hmem:=List.mem_of_getElem? ep
    have okp:=ok.all p hmem
    obtain ⟨rq,fq,hlk⟩:=jna [] ft ok.nd p hmem
    have dg:∀ {n:Str} {rv:RV},ent p rq=[(n,rv)]->∃ u,DGet H' d (.str n) (some u)/\RvAt H0 H rv u:=fun {n rv} e=>by
     obtain ⟨u,u1,u2⟩:=jhp hk (hlk n rv e)
     have:=DGet.k (k:=Sum.inr n) (e1 _ _ hd)
     rw [u1] at this
     exact ⟨u,this,u2⟩
    cases p with
    | one p =>
     obtain ⟨b,rfl,hb⟩:=hpat
     have hb1:=e1 _ _ hb
     cases p with
     | say z =>
      refine ⟨_,rfl,b,_,_,_,rfl,rfl,SqT.of hb1,rfl,rfl,_,rfl,jbe ne_as.symm (jbn ?_)⟩
      refine ⟨_,rfl,b,_,_,_,rfl,rfl,SqT.of hb1,rfl,rfl,_,rfl,jbe ne_sr ?_⟩
      exact hD1 _ _ ⟨_,_,rfl,e1⟩
     | ask n sg lo hi =>
      cases fq with
      | one f1 =>
      cases f1 with
      | @ask _ _ _ wd a1 a2 a3 =>
      obtain ⟨u,hu1,hu2⟩:=dg (n:=n) (rv:=.tx wd) rfl
      have hu2:u=.str (sOf wd):=hu2
      subst hu2
      obtain ⟨_,_,_,b1,b2,b3⟩:=okp
      refine ⟨_,rfl,b,_,_,_,rfl,rfl,SqT.of hb1,rfl,rfl,_,rfl,jcr rfl ⟨_,rfl,_,rfl,_,rfl,b,_,_,_,rfl,rfl,SqT.of hb1,rfl,d,_,rfl,hu1,_,n,sg,sOf wd,lo,hi,rfl,⟨b,rfl,hb1⟩,b3,⟨by rw [jcm]; omega,by rw [jcm]; omega,a3⟩,fun H6 s6=>⟨_,rfl,jbn ?_⟩⟩⟩
      refine ⟨_,rfl,b,_,_,_,rfl,rfl,SqT.of (s6 _ _ hb1),rfl,rfl,_,rfl,jbe ne_ra.symm ?_⟩
      exact hD1 _ _ ⟨_,_,rfl,e1.trans s6⟩
    | rows n inner gap lo hi =>
     obtain ⟨b,r2,ws,rfl,hb,hr2,hin⟩:=hpat
     have hb1:=e1 _ _ hb
     cases fq with
     | @rows _ _ _ _ rr a1 a2 a3 =>
     obtain ⟨u,hu1,l5,us5,rfl,hl5,_,h5⟩:=dg (n:=n) (rv:=.rows inner rr) rfl
     obtain ⟨_,hpo,_,b1,b2,b3⟩:=okp
     have hl5':=e1 _ _ hl5
     have len5:us5.length=rr.length:=h5.length.symm
     refine ⟨_,rfl,b,_,_,_,rfl,rfl,SqT.of hb1,rfl,rfl,_,rfl,jbe ne_ra (jbn ?_)⟩
     refine ⟨_,rfl,b,_,_,_,rfl,rfl,SqT.of hb1,rfl,rfl,_,rfl,jcr rfl ?_⟩
     refine ⟨_,rfl,_,rfl,b,_,_,_,rfl,rfl,SqT.of hb1,rfl,d,_,rfl,hu1,?_⟩
     refine ⟨_,rfl,_,_,true,.inr ⟨_,rfl,T.isListList⟩,TyOf.lst hl5',_,rfl,jbn ?_⟩
     refine ⟨_,rfl,b,_,_,_,rfl,rfl,SqT.of hb1,rfl,_,rfl,l5,us5,rfl,.inl (SqL.of hl5'),_,_,rfl,rfl,_,rfl,jcr (by omega) ⟨_,rfl,b,_,_,_,rfl,rfl,SqT.of hb1,rfl,_,_,rfl,rfl,_,rfl,?_⟩⟩
     rw [decide_eq_true (show ((us5.length:Nat):Int)<=hi by omega)]
     refine jbn ⟨_,rfl,l5,rfl,⟨_,SqL.of hl5'⟩,jbg (xs:=us5) (fun j zs H5=>Same H' H5/\zs=List.replicate j (V.bl true)) ⟨Same.refl _,rfl⟩ (fun j zs H5 hj e=>?_) (jbp (by omega)) (fun j x5 zs H5 hx5 e=>?_) (fun zs H5 e lc nlc=>?_)⟩
     ·obtain ⟨e5,rfl⟩:=e
      exact ⟨SqL.of (e5 _ _ hl5'),by rw [List.length_replicate]; exact Nat.le_refl _⟩
     ·obtain ⟨e5,rfl⟩:=e
      have s5:=e1.trans e5
      obtain ⟨r1,er1,hr1⟩:=Paired.two h5 hx5
      refine ⟨_,rfl,b,_,_,_,rfl,rfl,SqT.of (s5 _ _ hb),rfl,_,rfl,H0,r2,ws,_,inner,r1,rfl,s5 _ _ hr2,Paired.mapP hin fun _ _ z=>Pc.At.mono s5 z,hpo,hr1.same s5,a3 r1 (List.mem_of_getElem? er1),fun H6 s6=>⟨e5.trans s6,?_⟩⟩
      rw [List.replicate_succ']
     ·obtain ⟨e5,rfl⟩:=e
      refine ⟨lc,_,rfl,.inl (SqL.of jac),rfl,jcW _,?_⟩
      rw [jdJ]
      exact ⟨_,rfl,jbn (hD1 _ _ ⟨_,_,rfl,(e1.trans e5).trans (jah nlc _)⟩)⟩
   ·obtain ⟨o2,o3,rfl,e1⟩:=e
    exact q _ e1
end
open Mth (Stp Down Leads Lead)
structure Pr where
 (i j:Nat) (t:Str)
def PrAt (H:Hp) (p:Pr) (v:V):Prop:=∃ a,v=.ref a/\H a=some (.tup [jbu p.i,jbu p.j,.str p.t])
theorem PrAt.mono {H H':Hp} (e:Same H H') {p:Pr} {v:V} (h:PrAt H p v):PrAt H' p v:=by
 obtain ⟨a,h1,h2⟩:=h
 exact ⟨a,h1,e _ _ h2⟩
theorem PrAt.besL {H H':Hp} {l:Addr} {us:List V} (hl:H l=some (.lst us)) (e:Besides l H H') {p:Pr} {v:V} (h:PrAt H p v):PrAt H' p v:=by
 obtain ⟨a,h1,h2⟩:=h
 exact ⟨a,h1,e _ _ h2 (jbw h2 hl (by intro z; cases z))⟩
structure PrOk (S:List Stp) (p:Pr):Prop where
 i:p.i < S.length
 j:p.j < S.length
 lead:Leads S (S.length - 1) p.i p.j (tl p.t)
 jbp:p.t.length+p.i+p.j<=2 * S.length
theorem jnc (a b:Str):tl (a++b)=tl a++tl b:=by
 show (a.cps++b.cps).toList=_
 rw [Array.toList_append]
theorem jeC (a b:Str):(a++b).length=a.length+b.length:=strLen_append a b
section
variable {P:Program} {w:World} {K:PySem.W.Frag} {mg:Str->Option Value} {base:Heap} {D:Adr}
theorem StA.at {H:Hp} {l:Addr} {S:List Stp} (h:StA D H l S) {k:Nat} {s:Stp} (e:S[k]?=some s):∃ us v,H l=some (.lst us)/\us[k]?=some v/\StpAt D H s v:=by
 obtain ⟨us,h1,h2⟩:=h
 obtain ⟨v,ev,hv⟩:=Paired.one h2 e
 exact ⟨us,v,h1,ev,hv⟩
theorem scPt:FnScope ["steps","pairs","text","number","step"] ["steps"] (jag jek):=⟨rfl,rfl,rfl,by decide +kernel,rfl,by decide +kernel,by decide +kernel⟩
def spPt (D:Adr):Sp:=fun vs H Q _=>∃ (l:Addr) (S:List Stp),vs=[.ref l]/\StA D H l S/\Down S/\1<=S.length/\S.length<=900/\(∀ (k:Nat) (s:List Nat),S[k+1]?=some (.sign s)->s≠[]/\s.length<=1000) /\
 ∀ r pv prs H',H r=none->Same H H'->H' r=some (.lst pv)->Paired (PrAt H') prs pv->(∀ p∈prs,PrOk S p)->prs.length<=S.length->(∀ (k b:Nat),S[k+1]?=some (.choice b)->∃ p∈prs,p.i=k/\p.j=b)->Q (.ref r) H'
theorem ok_Pt (T:Txt w K mg D):FnOk P w K mg base CX0 1 D.aPartings D.dPartings ["steps"] (spPt D):=by
 refine T.fPartings.ok scPt (fun vs H Q E h=>?_) (fun cdv A outer s H vs Q E hr h=>?_)
 ·obtain ⟨l,S,rfl,_⟩:=h; rfl
 ·obtain ⟨l,S,rfl,hst,hdn,h1,hS,hsg,q⟩:=h
  refine ⟨_,jab (jan (i:=1) scPt.nd rfl (Or.inl rfl) (jbj jad))
   (jab (jan (i:=2) scPt.nd rfl (Or.inl rfl) jaz)
   (jab (jbb PassesOwn.never rfl (jef rfl T.zRange (jaa (jar jbr (jaj jav rfl T.zLen PySem.boot_len (jaa (pv 0) jad)) jaf) (jaa jaf (jaa (jfQ jdr jaf) jad)))) (jaE (i:=3) scPt.nd rfl (Or.inl rfl))
    (jab (jan (i:=4) scPt.nd rfl (Or.inl rfl) (jap jaG (pv 0) (pv 3) (fun _ _=>rfl)))
    (jae (jay (jaJ (jaj jau rfl T.zIsinstance PyProof.Rows.boot_isinstance (jaa (pv 4) (jaa (jaS (v:=.ref D.cSign) rfl T.mgSign rfl) jad))))
     (jae (jan (i:=2) scPt.nd rfl (Or.inl rfl) (jar jbl (pv 2) (jap jmp (jaw (pv 4) rfl) jaf (fun _ _=>rfl)))))
     (jae (jas (jbS PySem.F.plainAttrs_list PySem.F.slot_list_append PySem.F.type_list_append jaH (pv 1) (jaa (jbf (jaa (jar jbr (pv 3) jaf) (jaa (jaw (pv 4) rfl) (jaa (pv 2) jad)))) jad))))))))
   (jae (jak (pv 1))))),?_⟩
  refine ⟨Nat.zero_le _,fun r nr=>?_⟩
  have g0:=jah nr (.lst [])
  have hr0:(L2.upd H r (.lst [])) r=some (.lst []):=jac
  generalize L2.upd H r (.lst [])=Hr at *
  obtain ⟨sv,hl,hp⟩:=id hst
  have hlr:l≠r:=ne_of_none hl nr
  have hsl:(sv.length:Int)=(S.length:Int):=by rw [<- hp.length]
  refine ⟨_,rfl,l,sv,rfl,.inl (SqL.of (g0 _ _ hl)),_,_,rfl,rfl,_,rfl,_,_,rfl,⟨by omega,by omega,by omega,by omega⟩,?_⟩
  have hn:((sv.length:Int) - 1 - 0).toNat=S.length - 1:=by omega
  refine jdi (fun i σ H'=>∃ (tx:Str) (o1 o2:Option V) (pv:List V) (prs:List Pr),σ=[some (.ref l),some (.ref r),some (.str tx),o1,o2]/\Besides r Hr H'/\H' r=some (.lst pv)/\Paired (PrAt H') prs pv/\(∀ p∈prs,PrOk S p)/\prs.length<=i/\tx.length<=i/\Lead S (S.length - 1) (S.length - 1 - i) (tl tx) /\
   (∀ (k b:Nat),S.length - 1 - i<=k->S[k+1]?=some (.choice b)->∃ p∈prs,p.i=k/\p.j=b)) ⟨"",none,none,[],[],rfl,Besides.refl,hr0,.nil,(fun _ h=>nomatch h),Nat.le_refl _,Nat.le_refl _,?_,fun k b hk e=>?_⟩ (fun i σ H' hi e=>?_) (fun σ H' e=>?_)
  ·rw [Nat.sub_zero]; exact Lead.top
  ·have:=(List.getElem?_eq_some_iff.mp e).1; omega
  ·obtain ⟨tx,o1,o2,pv,prs,rfl,e1,hr',hprs,hok,hpl,htl,hld,hcm⟩:=e
   rw [hn] at hi
   have hs':Same H H':=jaK g0 nr e1
   obtain ⟨k,hk⟩:∃ k,S.length - 1 - i=k+1:=⟨S.length - 1 - i - 1,by omega⟩
   have hk2:S.length - 1 - (i+1)=k:=by omega
   rw [hk] at hld
   have eN:(sv.length:Int) - 1 - (i:Int)=((k+1:Nat):Int):=by omega
   obtain ⟨st,est⟩:∃ st,S[k+1]?=some st:=⟨_,List.getElem?_eq_getElem (by omega)⟩
   obtain ⟨v,ev,hv⟩:=Paired.one hp est
   have hv':=hv.mono hs'
   refine ⟨_,rfl,_,rfl,l,_,_,v,rfl,rfl,SqL.of (hs' _ _ hl),by rw [eN]; exact jba ev,?_⟩
   rw [hk2]
   cases st with
   | sign sg =>
    obtain ⟨a,zz,rfl,rfl,dx,fs,ha,hfl⟩:=hv'
    obtain ⟨sne,s1000⟩:=hsg k _ est
    have hzl:(tl zz).length=zz.length:=Array.length_toList
    obtain ⟨c,rst,ec⟩:∃ c rst,tl zz=c::rst:=by
     cases h:tl zz with
     | nil=>exact absurd h sne
     | cons c rst=>exact ⟨c,rst,rfl⟩
    refine ⟨_,rfl,_,_,true,.inl ⟨_,rfl,T.isSignSign⟩,jbc T.kSign ha,_,rfl,jcc ?_⟩
    refine ⟨_,rfl,_,rfl,a,_,dx,_,_,rfl,ha,T.kSign.cl,T.nSignSigns,hfl _ List.mem_cons_self,zz,0,c,rfl,rfl,Nat.le_of_lt (jaB (by omega)),jba (j:=0) (show (tl zz)[0]?=some c by rw [ec]; rfl),tx,⟨#[c]⟩,rfl,rfl,Nat.le_of_lt (jaB (by show tx.length+1<=100000; omega)),?_⟩
    refine ⟨tx++⟨#[c]⟩,_,_,pv,prs,rfl,e1,hr',hprs,hok,by omega,by rw [jeC]; show tx.length+1<=i+1; omega,?_,fun k' b hk' e=>?_⟩
    ·rw [jnc]; exact hld.sign est (by rw [ec]; exact List.mem_cons_self)
    ·by_cases hkk:k'=k
     ·subst hkk; rw [est] at e; cases e
     ·exact hcm k' b (by omega) e
   | choice b =>
    obtain ⟨a,rfl,dx,fs,ha,hfl⟩:=hv'
    have hb:=hdn k b est
    refine ⟨_,rfl,_,_,false,.inl ⟨_,rfl,T.isChoiceSign⟩,jbc T.kChoice ha,_,rfl,jbn ?_⟩
    refine ⟨_,rfl,.inl ⟨rfl,_,SqL.of hr'⟩,_,rfl,_,_,rfl,rfl,_,rfl,a,_,dx,_,_,rfl,ha,T.kChoice.cl,T.nChoiceBehind,hfl _ List.mem_cons_self,_,rfl,Nat.le_of_lt (jaB (by show 3<=100000; decide)),fun U nU=>?_⟩
    have gU:=jah nU (.tup [.int ((sv.length:Int) - 1 - (i:Int) - 1),.int (b:Nat),.str tx])
    refine ⟨r,_,_,rfl,rfl,gU _ _ hr',jaB (by have:=hprs.length; omega),?_⟩
    have nUr:U≠r:=fun z=>by rw [z,hr'] at nU; cases nU
    have bb:Besides r H' _:=(Besides.of gU).upd (.lst (pv++[.ref U]))
    have eU:V.int ((sv.length:Int) - 1 - (i:Int) - 1)=jbu k:=congrArg V.int (by omega)
    refine ⟨tx,_,_,_,prs++[⟨k,b,tx⟩],rfl,e1.trans bb,jac,Paired.snoc (Paired.mapP hprs fun _ _ z=>z.besL hr' bb) ⟨U,rfl,?_⟩,fun p hp'=>?_,by rw [List.length_append,List.length_singleton]; omega,by omega,hld.choice est hb,fun k' b' hk' e=>?_⟩
    ·rw [jao nUr,jac]
     exact congrArg (fun x=>some (HO.tup [x,V.int (b:Nat),V.str tx])) eU
    ·rcases List.mem_append.mp hp' with hp' | hp'
     ·exact hok p hp'
     ·obtain rfl:p=⟨k,b,tx⟩:=by simpa using hp'
      exact ⟨by dsimp only; omega,by dsimp only; omega,hld.part est hb,by dsimp only; omega⟩
    ·by_cases hkk:k'=k
     ·subst hkk
      rw [est] at e
      have:b'=b:=by cases e; rfl
      subst this
      exact ⟨_,List.mem_append_right _ List.mem_cons_self,rfl,rfl⟩
     ·obtain ⟨p,h2,h3⟩:=hcm k' b' (by omega) e
      exact ⟨p,List.mem_append_left _ h2,h3⟩
  ·obtain ⟨tx,o1,o2,pv,prs,rfl,e1,hr',hprs,hok,hpl,htl,hld,hcm⟩:=e
   rw [hn] at hcm hpl
   exact ⟨_,rfl,q r pv prs H' nr (jaK g0 nr e1) hr' hprs hok (by omega) fun k b e=>hcm k b (by omega) e⟩
end
open Mth (Stp Down Leads Lead Exp)
def Has (prs:List Pr) (a b:Nat):Prop:=∃ p∈prs,p.i=a/\p.j=b
section
variable {P:Program} {w:World} {K:PySem.W.Frag} {mg:Str->Option Value} {base:Heap} {D:Adr}
theorem scNP:FnScope ["steps","one","other","text","here","there","sign"] ["steps","one","other","text"] (jag jdj):=⟨rfl,rfl,rfl,by decide +kernel,rfl,by decide +kernel,by decide +kernel⟩
def spNP (D:Adr):Sp:=fun vs H Q _=>∃ (l:Addr) (S:List Stp) (p:Pr),vs=[.ref l,jbu p.i,jbu p.j,.str p.t]/\StA D H l S/\Down S/\S[0]?=some (.sign [])/\S.length<=900/\PrOk S p /\
 ∀ r pv prs H',H r=none->Same H H'->H' r=some (.lst pv)->Paired (PrAt H') prs pv->(∀ p∈prs,PrOk S p)->prs.length<=2->Exp S (Has prs) p.i p.j->Q (.ref r) H'
theorem ok_NP (T:Txt w K mg D):FnOk P w K mg base CX0 1 D.aNextPairs D.dNextPairs ["steps","one","other","text"] (spNP D):=by
 refine T.fNextPairs.ok scNP (fun vs H Q E h=>?_) (fun cdv A outer s H vs Q E hr h=>?_)
 ·obtain ⟨l,S,p,rfl,_⟩:=h; rfl
 ·obtain ⟨l,S,⟨i,j,t⟩,rfl,hst,hdn,hS0,hS,hok,q⟩:=h
  obtain ⟨oi,oj,hld,hsm⟩:=hok
  dsimp only at oi oj hld hsm q
  refine ⟨_,jab (jan (i:=4) scNP.nd rfl (Or.inl rfl) (jap jaG (pv 0) (pv 1) (fun _ _=>rfl)))
   (jab (jan (i:=5) scNP.nd rfl (Or.inl rfl) (jap jaG (pv 0) (pv 2) (fun _ _=>rfl)))
   (jab (jay (jbB (jaJ (jaj jau rfl T.zIsinstance PyProof.Rows.boot_isinstance (jaa (pv 4) (jaa (jaS (v:=.ref D.cSign) rfl T.mgSign rfl) jad)))))
    (jae (jak (jbj (jaa (jbf (jaa (jar jbr (pv 1) jaf) (jaa (pv 2) (jaa (pv 3) jad)))) (jaa (jbf (jaa (jaw (pv 4) rfl) (jaa (pv 2) (jaa (pv 3) jad)))) jad))))) jaq)
   (jab (jay (jbB (jaJ (jaj jau rfl T.zIsinstance PyProof.Rows.boot_isinstance (jaa (pv 5) (jaa (jaS (v:=.ref D.cSign) rfl T.mgSign rfl) jad)))))
    (jae (jak (jbj (jaa (jbf (jaa (pv 1) (jaa (jar jbr (pv 2) jaf) (jaa (pv 3) jad)))) (jaa (jbf (jaa (pv 1) (jaa (jaw (pv 5) rfl) (jaa (pv 3) jad)))) jad))))) jaq)
   (jab (jbb PassesOwn.never rfl (jgc (jaw (pv 4) rfl)) (jaE (i:=6) scNP.nd rfl (Or.inl rfl))
    (jae (jay (jat jdV (pv 6) (jaw (pv 5) rfl) rfl) (jae (jak (jbj (jaa (jbf (jaa (jar jbr (pv 1) jaf) (jaa (jar jbr (pv 2) jaf) (jaa (jar jbl (pv 3) (pv 6)) jad)))) jad)))) jaq)))
   (jae (jak (jbj jad))))))),?_⟩
  obtain ⟨si,esi⟩:∃ st,S[i]?=some st:=⟨_,List.getElem?_eq_getElem oi⟩
  obtain ⟨sj,esj⟩:∃ st,S[j]?=some st:=⟨_,List.getElem?_eq_getElem oj⟩
  obtain ⟨us,vi,hl,evi,hvi⟩:=hst.at esi
  obtain ⟨us',vj,hl',evj,hvj⟩:=hst.at esj
  have eus:us'=us:=by rw [hl] at hl'; cases hl'; rfl
  subst eus
  have z3:(3:Nat)<=sizeLine:=Nat.le_of_lt (jaB (by decide))
  have z2:(2:Nat)<=sizeLine:=Nat.le_of_lt (jaB (by decide))
  have z1:(1:Nat)<=sizeLine:=Nat.le_of_lt (jaB (by decide))
  refine ⟨_,rfl,_,rfl,l,_,_,vi,rfl,rfl,SqL.of hl,jba evi,?_⟩
  refine ⟨_,rfl,_,rfl,l,_,_,vj,rfl,rfl,SqL.of hl,jba evj,?_⟩
  have two:∀ (p1 p2:Pr) (v1 v2 v1' v2':V),v1=jbu p1.i->v1'=jbu p1.j->p1.t=t->v2=jbu p2.i->v2'=jbu p2.j->p2.t=t->PrOk S p1->PrOk S p2->Exp S (Has [p1,p2]) i j->∀ T1,H T1=none->∀ T2,(L2.upd H T1 (.tup [v1,v1',.str t])) T2=none->∀ L,(L2.upd (L2.upd H T1 (.tup [v1,v1',.str t])) T2 (.tup [v2,v2',.str t])) L=none ->
    Q (.ref L) (L2.upd (L2.upd (L2.upd H T1 (.tup [v1,v1',.str t])) T2 (.tup [v2,v2',.str t])) L (.lst [.ref T1,.ref T2])):=by
   intro p1 p2 v1 v2 v1' v2' e1 e1' et1 e2 e2' et2 o1 o2 hex T1 n1 T2 n2 L nL
   have g1:=jah n1 (.tup [v1,v1',.str t])
   have g2:=jah n2 (.tup [v2,v2',.str t])
   have g3:=jah nL (.lst [.ref T1,.ref T2])
   refine q L _ [p1,p2] _ (g1.free (g2.free nL)) ((g1.trans g2).trans g3) jac (.cons ⟨T1,rfl,?_⟩ (.cons ⟨T2,rfl,?_⟩ .nil)) (jce o1 (jce o2 jep)) (Nat.le_refl _) hex
   ·rw [<- e1,<- e1',et1]; exact g3 _ _ (g2 _ _ jac)
   ·rw [<- e2,<- e2',et2]; exact g3 _ _ jac
  cases si with
  | choice b =>
   obtain ⟨a,rfl,dx,fs,ha,hfl⟩:=hvi
   cases i with
   | zero=>rw [hS0] at esi; cases esi
   | succ k =>
   have hb:=hdn k b esi
   obtain ⟨ld1,ld2⟩:=hld.choice esi hb
   refine ⟨_,rfl,_,_,false,.inl ⟨_,rfl,T.isChoiceSign⟩,jbc T.kChoice ha,_,rfl,jcc ?_⟩
   refine ⟨_,rfl,_,_,rfl,rfl,_,rfl,_,rfl,z3,fun T1 n1=>?_⟩
   have g1:=jah n1 (.tup [.int (((k+1:Nat):Int) - 1),jbu j,.str t])
   refine ⟨_,rfl,a,_,dx,_,_,rfl,g1 _ _ ha,T.kChoice.cl,T.nChoiceBehind,hfl _ List.mem_cons_self,_,rfl,_,rfl,z3,fun T2 n2=>⟨z2,fun L nL=>?_⟩⟩
   refine two ⟨k,j,t⟩ ⟨b,j,t⟩ _ _ _ _ (congrArg V.int (show (((k+1:Nat):Int) - 1)=(k:Int) by omega)) rfl rfl rfl rfl rfl ⟨by dsimp only; omega,oj,ld1,by dsimp only; omega⟩ ⟨by dsimp only; omega,oj,ld2,by dsimp only; omega⟩ ⟨fun i' b' e1 e2=>?_,fun j' b' s e1 _ _=>?_,fun i' j' s s' c _ _ e1 _ _ _=>?_⟩ T1 n1 T2 n2 L nL
   ·have:i'=k:=by omega
    subst this
    rw [esi] at e2
    have:b'=b:=by cases e2; rfl
    subst this
    exact ⟨⟨_,List.mem_cons_self,rfl,rfl⟩,⟨_,List.mem_cons_of_mem _ List.mem_cons_self,rfl,rfl⟩⟩
   ·rw [esi] at e1; cases e1
   ·rw [esi] at e1; cases e1
  | sign sg =>
   obtain ⟨a,zz,rfl,rfl,dx,fs,ha,hfl⟩:=hvi
   refine ⟨_,rfl,_,_,true,.inl ⟨_,rfl,T.isSignSign⟩,jbc T.kSign ha,_,rfl,jbn ?_⟩
   cases sj with
   | choice b =>
    obtain ⟨a',rfl,dx',fs',ha',hfl'⟩:=hvj
    cases j with
    | zero=>rw [hS0] at esj; cases esj
    | succ k =>
    have hb:=hdn k b esj
    obtain ⟨ld1,ld2⟩:=hld.symm.choice esj hb
    refine ⟨_,rfl,_,_,false,.inl ⟨_,rfl,T.isChoiceSign⟩,jbc T.kChoice ha',_,rfl,jcc ?_⟩
    refine ⟨_,rfl,_,rfl,_,_,rfl,rfl,_,rfl,z3,fun T1 n1=>?_⟩
    have g1:=jah n1 (.tup [jbu i,.int (((k+1:Nat):Int) - 1),.str t])
    refine ⟨_,rfl,_,rfl,a',_,dx',_,_,rfl,g1 _ _ ha',T.kChoice.cl,T.nChoiceBehind,hfl' _ List.mem_cons_self,_,rfl,z3,fun T2 n2=>⟨z2,fun L nL=>?_⟩⟩
    refine two ⟨i,k,t⟩ ⟨i,b,t⟩ _ _ _ _ rfl (congrArg V.int (show (((k+1:Nat):Int) - 1)=(k:Int) by omega)) rfl rfl rfl rfl ⟨oi,by dsimp only; omega,ld1.symm,by dsimp only; omega⟩ ⟨oi,by dsimp only; omega,ld2.symm,by dsimp only; omega⟩ ⟨fun i' b' e1 e2=>?_,fun j' b' s e1 e2 e3=>?_,fun i' j' s s' c _ _ _ e1 _ _=>?_⟩ T1 n1 T2 n2 L nL
    ·rw [esi] at e2; cases e2
    ·have:j'=k:=by omega
     subst this
     rw [esj] at e3
     have:b'=b:=by cases e3; rfl
     subst this
     exact ⟨⟨_,List.mem_cons_self,rfl,rfl⟩,⟨_,List.mem_cons_of_mem _ List.mem_cons_self,rfl,rfl⟩⟩
    ·rw [esj] at e1; cases e1
   | sign sg' =>
    obtain ⟨a',zz',rfl,rfl,dx',fs',ha',hfl'⟩:=hvj
    refine ⟨_,rfl,_,_,true,.inl ⟨_,rfl,T.isSignSign⟩,jbc T.kSign ha',_,rfl,jbn ?_⟩
    refine ⟨_,rfl,a,_,dx,_,_,rfl,ha,T.kSign.cl,T.nSignSigns,hfl _ List.mem_cons_self,zz,rfl,jgR (z:=zz) (fun n σ H'=>H'=H/\(∃ o,σ=[some (.ref l),some (jbu i),some (jbu j),some (.str t),some (.ref a),some (.ref a'),o])/\∀ c∈(tl zz).take n,c∉tl zz') ⟨rfl,⟨none,rfl⟩,fun c hc=>by rw [List.take_zero] at hc; cases hc⟩ (fun n c σ H' hc e=>?_) (fun σ H' e=>?_)⟩
    ·obtain ⟨rfl,⟨o,rfl⟩,hno⟩:=e
     have ec:(tl zz)[n]?=some c:=by rw [Array.getElem?_toList]; exact hc
     refine ⟨_,rfl,_,rfl,a',_,dx',_,_,rfl,ha',T.kSign.cl,T.nSignSigns,hfl' _ List.mem_cons_self,c,zz',rfl,rfl,_,rfl,?_⟩
     by_cases hin:c∈tl zz'
     ·have cin:=List.mem_of_getElem? ec
      cases i with
      | zero =>
       rw [hS0] at esi
       have:tl zz=[]:=(Stp.sign.inj (Option.some.inj esi)).symm
       rw [this] at cin; cases cin
      | succ i' =>
      cases j with
      | zero =>
       rw [hS0] at esj
       have:tl zz'=[]:=(Stp.sign.inj (Option.some.inj esj)).symm
       rw [this] at hin; cases hin
      | succ j' =>
      refine jcr hin ⟨_,rfl,_,_,rfl,rfl,_,rfl,_,_,rfl,rfl,_,rfl,_,rfl,t,⟨#[c]⟩,rfl,rfl,Nat.le_of_lt (jaB (by show t.length+1<=100000; omega)),z3,fun T1 n1=>⟨z1,fun L nL=>?_⟩⟩
      have g1:=jah n1 (.tup [.int (((i'+1:Nat):Int) - 1),.int (((j'+1:Nat):Int) - 1),.str (t++⟨#[c]⟩)])
      have g3:=jah nL (.lst [.ref T1])
      refine q L _ [⟨i',j',t++⟨#[c]⟩⟩] _ (g1.free nL) (g1.trans g3) jac (.cons ⟨T1,rfl,?_⟩ .nil) (jce ⟨by dsimp only; omega,by dsimp only; omega,?_,?_⟩ jep) (by show 1<=2; decide) ⟨fun i2 b e1 e2=>?_,fun j2 b s e1 e2 e3=>?_,fun i2 j2 s s' c2 e1 e2 _ _ _ _=>?_⟩
      ·have hT:=g3 _ _ (show (L2.upd H' T1 (.tup [.int (((i'+1:Nat):Int) - 1),.int (((j'+1:Nat):Int) - 1),.str (t++⟨#[c]⟩)])) T1=_ from jac)
       have ei:(((i'+1:Nat):Int) - 1)=(i':Int):=by omega
       have ej:(((j'+1:Nat):Int) - 1)=(j':Int):=by omega
       rw [ei,ej] at hT
       exact hT
      ·dsimp only; rw [jnc]; exact hld.sign esi esj cin hin
      ·dsimp only; rw [jeC]; show t.length+1+i'+j'<=_; omega
      ·rw [esi] at e2; cases e2
      ·rw [esj] at e3; cases e3
      ·exact ⟨_,List.mem_cons_self,by dsimp only; omega,by dsimp only; omega⟩
     ·refine jbe hin ⟨rfl,⟨_,rfl⟩,fun c' hc'=>?_⟩
      rw [jaC ec] at hc'
      rcases List.mem_append.mp hc' with h | h
      ·exact hno c' h
      ·obtain rfl:c'=c:=by simpa using h
       exact hin
    ·obtain ⟨rfl,⟨o,rfl⟩,hno⟩:=e
     rw [List.take_of_length_le (by rw [Array.length_toList]; exact Nat.le_refl _)] at hno
     refine ⟨Nat.zero_le _,fun L nL=>?_⟩
     refine q L [] [] _ nL (jah nL _) jac .nil jep (Nat.zero_le _) ⟨fun i2 b e1 e2=>?_,fun j2 b s e1 e2 e3=>?_,fun i2 j2 s s' c2 e1 e2 e3 e4 h1 h2=>?_⟩
     ·rw [esi] at e2; cases e2
     ·rw [esj] at e3; cases e3
     ·rw [esi] at e3; rw [esj] at e4
      cases e3; cases e4
      exact absurd h2 (hno c2 h1)
end
open Mth (Stp Down Leads Lead Exp Meets exp_no)
theorem jlf:∀ (M:Nat) (l:List Nat),l.Nodup->(∀ x∈l,x < M)->l.length<=M
 | 0,l,_,h=>by
  cases l with
  | nil=>exact Nat.le_refl _
  | cons x r=>exact absurd (h x List.mem_cons_self) (Nat.not_lt_zero _)
 | M+1,l,nd,h=>by
  by_cases hm:M∈l
  ·have h1:=jlf M (l.erase M) (nd.erase M) fun x hx=>by
    have h2:=(nd.mem_erase_iff).mp hx
    have:=h x h2.2
    have:=h2.1
    omega
   rw [List.length_erase_of_mem hm] at h1
   omega
  ·exact Nat.le_succ_of_le (jlf M l nd fun x hx=>by
    have:=h x hx
    have:x≠M:=fun e=>hm (e▸hx)
    omega)
theorem jnd {α β:Type} {f:α->β}:∀ {l:List α},(∀ x∈l,∀ y∈l,f x=f y->x=y)->l.Nodup->(l.map f).Nodup
 | [],_,_=>List.nodup_nil
 | x::r,h,nd=>by
  obtain ⟨h1,h2⟩:=List.nodup_cons.mp nd
  refine List.nodup_cons.mpr ⟨fun hx=>?_,jnd (fun a ha b hb=>h a (List.mem_cons_of_mem _ ha) b (List.mem_cons_of_mem _ hb)) h2⟩
  obtain ⟨y,hy,e⟩:=List.mem_map.mp hx
  exact h1 (h y (List.mem_cons_of_mem _ hy) x List.mem_cons_self e▸hy)
theorem jgG {N:Nat} {ks:List (Nat×Nat)} (nd:ks.Nodup) (h:∀ k∈ks,k.1 < N/\k.2 < N):ks.length<=N * N:=by
 have h1:(ks.map fun k=>k.1 * N+k.2).Nodup:=jnd (fun x hx y hy e=>by
  have a:=(h x hx).2
  have b:=(h y hy).2
  have hN:0 < N:=by omega
  have e1:(x.1 * N+x.2) / N=(y.1 * N+y.2) / N:=congrArg (· / N) e
  rw [Nat.mul_comm x.1 N,Nat.mul_comm y.1 N,Nat.mul_add_div hN,Nat.mul_add_div hN,Nat.div_eq_of_lt a,Nat.div_eq_of_lt b,Nat.add_zero,Nat.add_zero] at e1
  have e:x.1 * N+x.2=y.1 * N+y.2:=e
  rw [e1] at e
  exact Prod.ext e1 (by omega)) nd
 have:=jlf (N * N) _ h1 fun v hv=>by
  obtain ⟨k,hk,rfl⟩:=List.mem_map.mp hv
  obtain ⟨a,b⟩:=h k hk
  calc k.1 * N+k.2 < k.1 * N+N:=Nat.add_lt_add_left b _
   _=(k.1+1) * N:=by rw [Nat.succ_mul]
   _<=N * N:=Nat.mul_le_mul_right N a
 rwa [List.length_map] at this
theorem Paired.append {α β:Type} {F:α->β->Prop}:∀ {as as':List α} {bs bs':List β},Paired F as bs->Paired F as' bs'->Paired F (as++as') (bs++bs')
 | _,_,_,_,.nil,h=>h
 | _,_,_,_,.cons r t,h=>.cons r (Paired.append t h)
def kk (i j:Nat):Nat×Nat:=(max i j,min i j)
theorem joj (i j:Nat):kk i j=kk j i:=by unfold kk; rw [Nat.max_comm,Nat.min_comm]
theorem kk_eq {i j x y:Nat} (h:kk i j=kk x y):(i=x/\j=y)\/(i=y/\j=x):=by
 have h1:max i j=max x y:=congrArg Prod.fst h
 have h2:min i j=min x y:=congrArg Prod.snd h
 omega
def keyL (k:Nat×Nat):List Key:=[Sum.inl (k.1:Int),Sum.inl (k.2:Int)]
theorem jmc {k k':Nat×Nat} (h:keyL k=keyL k'):k=k':=by
 have h1:(Sum.inl (k.1:Int):Key)=Sum.inl (k'.1:Int):=(List.cons.inj h).1
 have h2:(Sum.inl (k.2:Int):Key)=Sum.inl (k'.2:Int):=(List.cons.inj (List.cons.inj h).2).1
 have a:=Sum.inl.inj h1
 have b:=Sum.inl.inj h2
 exact Prod.ext (by omega) (by omega)
def Rch (prs:List Pr) (ks:List (Nat×Nat)) (x y:Nat):Prop:=kk x y∈ks\/∃ p∈prs,kk p.i p.j=kk x y
theorem Exp.mono {S:List Stp} {A B:Nat->Nat->Prop} (h:∀ x y,A x y->B x y) {i j:Nat} (e:Exp S A i j):Exp S B i j :=
 ⟨fun i' b e1 e2=>let ⟨x,y⟩:=e.a i' b e1 e2; ⟨h _ _ x,h _ _ y⟩,fun j' b s e1 e2 e3=>let ⟨x,y⟩:=e.b j' b s e1 e2 e3; ⟨h _ _ x,h _ _ y⟩,fun i' j' s s' c e1 e2 e3 e4 h1 h2=>h _ _ (e.c i' j' s s' c e1 e2 e3 e4 h1 h2)⟩
structure TtI (S:List Stp) (H:Hp) (l r d:Addr) (st:List Pr×List (Nat×Nat)) (σ:St) (H':Hp):Prop where
 σe:∃ o1 o2,σ=[some (.ref l),some (.ref r),some (.ref d),o1,o2]
 same:Same H H'
 prs:∃ pv,H' r=some (.lst pv)/\Paired (PrAt H') st.1 pv
 seen:∃ kvs,H' d=some (.dT kvs)/\kvs.map (·.1)=st.2.map keyL
 nd:st.2.Nodup
 low:∀ k∈st.2,k.1 < S.length/\k.2 < S.length
 no0:(0,0)∉st.2
 ex:∀ k∈st.2,∃ i j,kk i j=k/\Exp S (Rch st.1 st.2) i j
 ok:∀ p∈st.1,PrOk S p
 all:∀ (k b:Nat),S[k+1]?=some (.choice b)->Rch st.1 st.2 k b
 len:st.1.length<=S.length+st.2.length
theorem mx {i j:Nat}:(if (j:Int) > (i:Int) then (j:Int) else (i:Int))=((max i j:Nat):Int):=by split <;> omega
theorem mn {i j:Nat}:(if (j:Int) < (i:Int) then (j:Int) else (i:Int))=((min i j:Nat):Int):=by split <;> omega
section
variable {P:Program} {w:World} {K:PySem.W.Frag} {mg:Str->Option Value} {base:Heap} {D:Adr}
theorem scTT:FnScope ["steps","pairs","seen","pair","both"] ["steps"] (jag jcj):=⟨rfl,rfl,rfl,by decide +kernel,rfl,by decide +kernel,by decide +kernel⟩
def spTT (D:Adr):Sp:=fun vs H Q _=>∃ (l:Addr) (S:List Stp),vs=[.ref l]/\StA D H l S/\Down S/\S[0]?=some (.sign [])/\1<=S.length/\S.length<=900/\(∀ (k:Nat) (s:List Nat),S[k+1]?=some (.sign s)->s≠[]/\s.length<=1000) /\
 (∀ t H',Same H H'->Leads S (S.length - 1) 0 0 (tl t)->t.length<=1800->Q (.str t) H')/\(∀ H',Same H H'->(∀ (k b:Nat),S[k+1]?=some (.choice b)->¬ Meets S k b)->Q .non H')
theorem jpL (T:Txt w K mg D):FnOk P w K mg base CX0 2 D.aTwofoldText D.dTwofoldText ["steps"] (spTT D):=by
 have GP:FnOk P w K mg base CX0 1 D.aPartings D.dPartings ["steps"] (spPt D):=ok_Pt T
 have GN:FnOk P w K mg base CX0 1 D.aNextPairs D.dNextPairs ["steps","one","other","text"] (spNP D):=ok_NP T
 refine T.fTwofoldText.ok scTT (fun vs H Q E h=>?_) (fun cdv A outer s H vs Q E hr h=>?_)
 ·obtain ⟨l,S,rfl,_⟩:=h; rfl
 ·obtain ⟨l,S,rfl,hst,hdn,hS0,h1,hS,hsg,q1,q2⟩:=h
  have hu:=jdS hr
  refine ⟨_,jab (jan (i:=1) scTT.nd rfl (Or.inl rfl) (jai GP hr rfl T.mPartings T.fPartings.kp T.bPartings .nil jam (jaa (pv 0) jad)))
   (jab (jan (i:=2) scTT.nd rfl (Or.inl rfl) jlC)
   (jab (jco PassesOwn.never (jfd (pv 1) (fun _=>rfl))
    (jab (jan (i:=3) scTT.nd rfl (Or.inl rfl) (jfX PySem.F.plainAttrs_list PySem.F.slot_list_pop PySem.F.type_list_pop jms (pv 1)))
    (jab (jan (i:=4) scTT.nd rfl (Or.inl rfl) (jbf (jaa (jaj (jjo rfl) rfl T.zMax PyProof.Rows.boot_max (jaa (jap jal (pv 3) jaf (fun _ _=>rfl)) (jaa (jap jal (pv 3) jaf (fun _ _=>rfl)) jad)))
     (jaa (jaj (jjp rfl) rfl T.zMin PyProof.Rows.boot_min (jaa (jap jal (pv 3) jaf (fun _ _=>rfl)) (jaa (jap jal (pv 3) jaf (fun _ _=>rfl)) jad))) jad))))
    (jab (jay (jat jpf (pv 4) (jbf (jaa jaf (jaa jaf jad))) (jax _)) (jae (jak (jap jal (pv 3) jaf (fun _ _=>rfl)))) jaq)
    (jae (jay (jdK (jgb hu (pv 4) (pv 2)))
     (jab (jcB hu (pv 2) (pv 4) jbk rfl)
     (jae (jas (jbS PySem.F.plainAttrs_list PySem.F.slot_list_extend PySem.F.type_list_extend jjx (pv 1) (jaa (jai GN hr rfl T.mNextPairs T.fNextPairs.kp T.bNextPairs .nil jam (jaa (pv 0) (jaa (jap jal (pv 3) jaf (fun _ _=>rfl)) (jaa (jap jal (pv 3) jaf (fun _ _=>rfl)) (jaa (jap jal (pv 3) jaf (fun _ _=>rfl)) jad))))) jad))))) jaq))))))
   (jae (jak jja)))),?_⟩
  refine ⟨_,rfl,l,S,rfl,hst,hdn,h1,hS,hsg,fun r pv prs H1 nr s1 hr1 hprs hok hpl hcm=>?_⟩
  intro d nd
  have g1:=jah nd (.dT [])
  have nd0:H d=none:=s1.free nd
  have hrd:r≠d:=fun e=>by rw [<- e,hr1] at nd; cases nd
  unfold jiq tSeq
  dsimp only
  show jhy _ _ _ _ _
  refine while_st (TtI S H l r d) (fun st=>3 * (S.length * S.length - st.2.length)+st.1.length) (prs,[])
   ⟨⟨none,none,rfl⟩,s1.trans g1,⟨pv,g1 _ _ hr1,Paired.mapP hprs fun _ _ z=>z.mono g1⟩,⟨[],jac,rfl⟩,List.nodup_nil,jep,(fun h=>nomatch h),jep,hok,fun k b e=>.inr (by obtain ⟨p,hp,e1,e2⟩:=hcm k b e; exact ⟨p,hp,by rw [e1,e2]⟩),by dsimp only; omega⟩ (fun st σ H' e=>?_)
  obtain ⟨prs,ks⟩:=st
  obtain ⟨⟨o1,o2,rfl⟩,hs',⟨pv',hr',hprs'⟩,⟨kvs,hd',hkv⟩,hnd,hlow,hno,hex,hok',hall,hlen⟩:=e
  dsimp only at hprs' hkv hnd hlow hno hex hok' hall hlen
  refine ⟨_,rfl,!pv'.isEmpty,.inl ⟨pv',SqL.of hr',rfl⟩,?_⟩
  by_cases hp0:prs=[]
  ·subst hp0
   cases hprs'
   refine jbn (q2 _ hs' fun k b e=>?_)
   have hR:∀ x y,Rch [] ks x y->kk x y∈ks:=fun x y h=>by
    rcases h with h | ⟨p,hp,_⟩
    ·exact h
    ·cases hp
   refine exp_no (P:=fun x y=>kk x y∈ks) hdn hS0 (fun x y h=>?_) hno (fun x y h=>by rw [joj]; exact h) (fun x y h=>?_) (k+b) k b (Nat.le_refl _) (hR _ _ (hall k b e))
   ·have:=hlow _ h
    have h1:max x y < S.length:=this.1
    omega
   ·obtain ⟨i,j,ek,he⟩:=hex _ h
    rcases kk_eq ek with ⟨rfl,rfl⟩ | ⟨rfl,rfl⟩
    ·exact .inl (Exp.mono hR he)
    ·exact .inr (Exp.mono hR he)
  ·obtain ⟨p,prs1,rfl⟩:=jkC hp0
   obtain ⟨pv1,u1,rfl,hprs1,a,rfl,ha⟩:=Paired.last hprs'
   have hne:(!(pv1++[V.ref a]).isEmpty)=true:=by simp
   rw [hne]
   have hbd:=jgG hnd hlow
   have hNN:S.length * S.length<=810000:=Nat.le_trans (Nat.mul_le_mul hS hS) (by decide)
   have z2:(2:Nat)<=sizeLine:=Nat.le_of_lt (jaB (by decide))
   obtain ⟨oi,oj,hld,hsm⟩:=hok' p (List.mem_append_right _ List.mem_cons_self)
   rw [List.length_append,List.length_singleton] at hlen
   refine jcc ⟨_,fun _ _ h=>h,?_⟩
   refine ⟨_,rfl,.inl ⟨rfl,_,SqL.of hr'⟩,r,_,.ref a,rfl,rfl,hr',by simp,?_⟩
   rw [List.dropLast_concat]
   have b1:Besides r H' (L2.upd H' r (.lst pv1)):=Besides.refl.upd _
   have har:a≠r:=jbw ha hr' (by intro z; cases z)
   have ha1:=b1 _ _ ha har
   have hd1:=b1 _ _ hd' (Ne.symm hrd)
   have hs1:Same H (L2.upd H' r (.lst pv1)):=jaK hs' nr b1
   have hp1:Paired (PrAt (L2.upd H' r (.lst pv1))) prs1 pv1:=Paired.mapP hprs1 fun _ _ z=>z.besL hr' b1
   have hr1':(L2.upd H' r (.lst pv1)) r=some (.lst pv1):=jac
   generalize L2.upd H' r (.lst pv1)=H2 at *
   refine ⟨_,rfl,a,_,_,_,rfl,rfl,SqT.of ha1,rfl,_,rfl,a,_,_,_,rfl,rfl,SqT.of ha1,rfl,_,_,rfl,_,rfl,a,_,_,_,rfl,rfl,SqT.of ha1,rfl,_,rfl,a,_,_,_,rfl,rfl,SqT.of ha1,rfl,_,_,rfl,z2,fun U nU=>?_⟩
   rw [mx,mn]
   have gU:=jah nU (.tup [jbu (max p.i p.j),jbu (min p.i p.j)])
   have hU:(L2.upd H2 U (.tup [jbu (max p.i p.j),jbu (min p.i p.j)])) U=some (.tup [jbu (max p.i p.j),jbu (min p.i p.j)]):=jac
   have s3:=hs1.trans gU
   have ha3:=gU _ _ ha1
   have hd3:=gU _ _ hd1
   have hr3:=gU _ _ hr1'
   have hp3:Paired (PrAt (L2.upd H2 U (.tup [jbu (max p.i p.j),jbu (min p.i p.j)]))) prs1 pv1:=Paired.mapP hp1 fun _ _ z=>z.mono gU
   generalize L2.upd H2 U (.tup [jbu (max p.i p.j),jbu (min p.i p.j)])=H3 at *
   refine ⟨_,rfl,z2,fun U2 nU2=>⟨U,U2,_,_,_,_,rfl,rfl,SqT.of (jah nU2 _ _ _ hU),SqT.of jac,Nat.lt_of_succ_lt hu,_,rfl,?_⟩⟩
   have g4:=jah nU2 (.tup [.int 0,.int 0])
   have hU4:=g4 _ _ hU
   have s4:=s3.trans g4
   have ha4:=g4 _ _ ha3
   have hd4:=g4 _ _ hd3
   have hr4:=g4 _ _ hr3
   have hp4:Paired (PrAt (L2.upd H3 U2 (.tup [.int 0,.int 0]))) prs1 pv1:=Paired.mapP hp3 fun _ _ z=>z.mono g4
   generalize L2.upd H3 U2 (.tup [.int 0,.int 0])=H4 at *
   have hz:((((max p.i p.j:Nat):Int)==0)&&(((min p.i p.j:Nat):Int)==0))=decide (p.i=0/\p.j=0):=by
    rw [Bool.eq_iff_iff]; simp; omega
   rw [hz]
   by_cases h00:p.i=0/\p.j=0
   ·refine jcr h00 ⟨_,rfl,a,_,_,_,rfl,rfl,SqT.of ha4,rfl,q1 p.t _ s4 ?_ (by omega)⟩
    rw [h00.1,h00.2] at hld; exact hld
   ·refine jbe h00 ⟨_,rfl,_,rfl,d,_,rfl,DGet.t (k:=keyL (kk p.i p.j)) hd4 hU4,_,rfl,?_⟩
    have hmem:(jbt kvs (keyL (kk p.i p.j))).isSome=true↔kk p.i p.j∈ks:=by
     constructor
     ·intro h
      obtain ⟨v,hv⟩:=Option.isSome_iff_exists.mp h
      have:=jnu hv
      rw [hkv] at this
      obtain ⟨k,hk,e⟩:=List.mem_map.mp this
      exact jmc e▸hk
     ·intro h
      cases hv:jbt kvs (keyL (kk p.i p.j)) with
      | some v=>rfl
      | none =>
       have:=jlD hv
       rw [hkv] at this
       exact absurd (List.mem_map_of_mem h) this
    have rchM:∀ x y,Rch (prs1++[p]) ks x y->kk p.i p.j∈ks->Rch prs1 ks x y:=fun x y h hk=>by
     rcases h with h | ⟨p',hp',e⟩
     ·exact .inl h
     ·rcases List.mem_append.mp hp' with h | h
      ·exact .inr ⟨p',h,e⟩
      ·obtain rfl:p'=p:=by simpa using h
       exact .inl (e▸hk)
    cases hv:jbt kvs (keyL (kk p.i p.j)) with
    | some v =>
     have hk:kk p.i p.j∈ks:=hmem.mp (by rw [hv]; rfl)
     refine jbn ⟨_,?_,(prs1,ks),rfl,⟨_,_,rfl⟩,s4,⟨pv1,hr4,hp4⟩,⟨kvs,hd4,hkv⟩,hnd,hlow,hno,fun k hk'=>?_,fun p' hp'=>hok' p' (List.mem_append_left _ hp'),fun k b e=>rchM _ _ (hall k b e) hk,by dsimp only; omega⟩
     ·simp only [List.length_append,List.length_singleton]; omega
     ·obtain ⟨i,j,e1,e2⟩:=hex k hk'
      exact ⟨i,j,e1,Exp.mono (fun x y h=>rchM x y h hk) e2⟩
    | none =>
     have hk:kk p.i p.j∉ks:=fun h=>by
      have:=hmem.mpr h
      rw [hv] at this; cases this
     have hkl:kvs.length=ks.length:=by have:=congrArg List.length hkv; rwa [List.length_map,List.length_map] at this
     refine jcc ⟨_,rfl,_,rfl,d,_,rfl,DPut.t (k:=keyL (kk p.i p.j)) hd4 hU4 (jkB (by omega)),?_⟩
     have had:a≠d:=jbw ha4 hd4 (by intro z; cases z)
     have hb5:Besides d H4 (L2.upd H4 d (.dT (putK kvs (keyL (kk p.i p.j)) (.bl true)))):=Besides.refl.upd _
     have s5:Same H (L2.upd H4 d (.dT (putK kvs (keyL (kk p.i p.j)) (.bl true)))):=jaK s4 nd0 hb5
     have ha5:=hb5 _ _ ha4 had
     have hr5:=hb5 _ _ hr4 hrd
     have hd5:(L2.upd H4 d (.dT (putK kvs (keyL (kk p.i p.j)) (.bl true)))) d=some (.dT (kvs++[(keyL (kk p.i p.j),.bl true)])):=by rw [jac,jdA _ hv]
     have hp5:Paired (PrAt (L2.upd H4 d (.dT (putK kvs (keyL (kk p.i p.j)) (.bl true))))) prs1 pv1:=Paired.mapP hp4 fun _ _ ⟨b,e1,e2⟩=>⟨b,e1,hb5 _ _ e2 (jbw e2 hd4 (by intro z; cases z))⟩
     generalize L2.upd H4 d (.dT (putK kvs (keyL (kk p.i p.j)) (.bl true)))=H5 at *
     refine ⟨_,rfl,.inl ⟨rfl,_,SqL.of hr5⟩,_,rfl,_,rfl,a,_,_,_,rfl,rfl,SqT.of ha5,rfl,_,rfl,a,_,_,_,rfl,rfl,SqT.of ha5,rfl,_,rfl,a,_,_,_,rfl,rfl,SqT.of ha5,rfl,l,S,p,rfl,hst.mono s5,hdn,hS0,hS,⟨oi,oj,hld,hsm⟩,fun L nv nprs H6 nL s6 hL hnprs nok nlen nexp=>?_⟩
     have hr6:=s6 _ _ hr5
     refine ⟨r,L,_,_,rfl,rfl,hr6,hL,Nat.le_of_lt (jkB (by have:=hp5.length; have:=hnprs.length; omega)),?_⟩
     have b7:Besides r H6 (L2.upd H6 r (.lst (pv1++nv))):=Besides.refl.upd _
     have hbd2:ks.length+1<=S.length * S.length:=by
      have h:=jgG (N:=S.length) (ks:=ks++[kk p.i p.j]) (List.nodup_append.mpr ⟨hnd,by simp,fun x hx y hy e=>by
       obtain rfl:y=kk p.i p.j:=by simpa using hy
       exact hk (e▸hx)⟩) (fun k hk'=>by
       rcases List.mem_append.mp hk' with h | h
       ·exact hlow k h
       ·obtain rfl:k=kk p.i p.j:=by simpa using h
        unfold kk; dsimp only; omega)
      rw [List.length_append,List.length_singleton] at h
      exact h
     have rch2:∀ x y,Rch (prs1++[p]) ks x y->Rch (prs1++nprs) (ks++[kk p.i p.j]) x y:=fun x y h=>by
      rcases h with h | ⟨p',hp',e⟩
      ·exact .inl (List.mem_append_left _ h)
      ·rcases List.mem_append.mp hp' with h | h
       ·exact .inr ⟨p',List.mem_append_left _ h,e⟩
       ·obtain rfl:p'=p:=by simpa using h
        exact .inl (List.mem_append_right _ (by rw [<- e]; exact List.mem_cons_self))
     refine ⟨_,?_,(prs1++nprs,ks++[kk p.i p.j]),rfl,⟨_,_,rfl⟩,jaK (s5.trans s6) nr b7,⟨pv1++nv,jac,?_⟩,⟨_,b7 _ _ (s6 _ _ hd5) (Ne.symm hrd),?_⟩,?_,?_,?_,?_,?_,fun k b e=>rch2 _ _ (hall k b e),?_⟩
     ·simp only [List.length_append,List.length_singleton]; omega
     ·exact Paired.append (Paired.mapP hp5 fun _ _ z=>(z.mono s6).besL hr6 b7) (Paired.mapP hnprs fun _ _ z=>z.besL hr6 b7)
     ·rw [List.map_append,List.map_append,hkv]; rfl
     ·exact List.nodup_append.mpr ⟨hnd,by simp,fun x hx y hy e=>by
       obtain rfl:y=kk p.i p.j:=by simpa using hy
       exact hk (e▸hx)⟩
     ·intro k hk'
      rcases List.mem_append.mp hk' with h | h
      ·exact hlow k h
      ·obtain rfl:k=kk p.i p.j:=by simpa using h
       unfold kk; dsimp only; omega
     ·intro h
      rcases List.mem_append.mp h with h | h
      ·exact hno h
      ·have e:(0,0)=kk p.i p.j:=by simpa using h
       have e1:0=max p.i p.j:=congrArg Prod.fst e
       exact h00 (by omega)
     ·intro k hk'
      rcases List.mem_append.mp hk' with h | h
      ·obtain ⟨i,j,e1,e2⟩:=hex k h
       exact ⟨i,j,e1,Exp.mono rch2 e2⟩
      ·obtain rfl:k=kk p.i p.j:=by simpa using h
       refine ⟨p.i,p.j,rfl,Exp.mono (fun x y h=>?_) nexp⟩
       obtain ⟨p',hp',e1,e2⟩:=h
       exact .inr ⟨p',List.mem_append_right _ hp',by rw [e1,e2]⟩
     ·intro p' hp'
      rcases List.mem_append.mp hp' with h | h
      ·exact hok' p' (List.mem_append_left _ h)
      ·exact nok p' h
     ·simp only [List.length_append,List.length_singleton]; omega
end
open Mth (Stp Down Leads Meets xText xAsk xL x1 xRows xQ xF stepsOf steps_at steps_down Single single_of two_of rds MP)
def SgLe (X:List Stp):Prop:=∀ s,Stp.sign s∈X->s.length<=1000
theorem SgLe.app {X Y:List Stp} (hX:SgLe X) (hY:SgLe Y):SgLe (X++Y):=fun s h=>(List.mem_append.mp h).elim (hX s) (hY s)
theorem SgLe.nil:SgLe []:=fun s h=>nomatch h
theorem SgLe.cons {s:List Nat} {X:List Stp} (hs:s.length<=1000) (hX:SgLe X):SgLe (.sign s::X):=fun t h=>by
 rcases List.mem_cons.mp h with e | h
 ·rw [Stp.sign.inj e]; exact hs
 ·exact hX t h
theorem SgLe.ch {b:Nat} {c:Prop} [Decidable c]:SgLe (if c then [.choice b] else []):=by
 split
 ·intro s h; cases h with | tail _ h=>cases h
 ·exact SgLe.nil
theorem jhs:∀ z:List Nat,SgLe (xText z)
 | []=>SgLe.nil
 | c::z=>SgLe.cons (s:=[c]) (by show 1<=1000; decide) (jhs z)
theorem jne {m:Nat} {sg:List Nat} {lo:Nat} (h:sg.length<=1000):∀ f k,SgLe (xAsk m sg lo f k)
 | 0,_=>SgLe.nil
 | f+1,k=>by rw [xAsk]; exact SgLe.ch.app (SgLe.cons h (jne h f (k+1)))
def MP.sl:MP->Prop
 | .say _=>True
 | .ask sg _ _=>sg.length<=1000
theorem sg_1 {m:Nat}:∀ {p:MP},MP.sl p->SgLe (x1 m p)
 | .say z,_=>jhs z
 | .ask sg lo hi,h=>jne h hi 0
theorem sg_L {m:Nat}:∀ {ps:List MP},(∀ p∈ps,MP.sl p)->SgLe (xL m ps)
 | [],_=>SgLe.nil
 | p::ps,h=>by rw [xL]; exact (sg_1 (h p List.mem_cons_self)).app (sg_L fun q hq=>h q (List.mem_cons_of_mem _ hq))
theorem jlg {m:Nat} {inner:List MP} {gap:List Nat} {lo:Nat} (hi:∀ p∈inner,MP.sl p):∀ f k,SgLe (xRows m inner gap lo f k)
 | 0,_=>SgLe.nil
 | f+1,k=>by
  rw [xRows]
  refine SgLe.ch.app (SgLe.app ?_ ((sg_L hi).app (jlg hi f (k+1))))
  split
  ·exact SgLe.nil
  ·exact jhs gap
theorem jpM:∀ {p:Pc},p.ok->MP.sl (mPc p)
 | .say _,_=>trivial
 | .ask n sg lo hi,⟨_,h,_⟩=>by
  have e:(tl sg).length=sg.length:=Array.length_toList
  have:=h.hi
  show (tl sg).length<=1000
  omega
theorem sg_Q {m:Nat}:∀ {p:Pie},p.ok->SgLe (xQ m (mPie p))
 | .one p,h=>sg_1 (jpM (p:=p) h)
 | .rows n inner gap lo hi,⟨_,hp,_⟩=>jlg (fun q hq=>by
   obtain ⟨q',hq',rfl⟩:=List.mem_map.mp hq
   exact jpM (hp.all q' hq')) hi.toNat 0
theorem sg_F {m:Nat}:∀ {ps:List Pie},(∀ p∈ps,p.ok)->SgLe (xF m (ps.map mPie))
 | [],_=>SgLe.nil
 | p::ps,h=>by rw [List.map_cons,xF]; exact (sg_Q (h p List.mem_cons_self)).app (sg_F fun q hq=>h q (List.mem_cons_of_mem _ hq))
theorem jeD {ps:List Pie} (ok:FormOk ps) (k:Nat) (s:List Nat) (e:(stepsOf (ps.map mPie))[k+1]?=some (.sign s)):s≠[]/\s.length<=1000:=by
 refine ⟨steps_at (jbG ok) e,?_⟩
 have h:=sg_F (m:=0) ok.all
 refine h s ?_
 have e':(xF 0 (ps.map mPie)).reverse[k]?=some (.sign s):=e
 exact List.mem_reverse.mp (List.mem_of_getElem? e')
section
variable {P:Program} {w:World} {K:PySem.W.Frag} {mg:Str->Option Value} {base:Heap} {D:Adr}
theorem scSg:FnScope ["form"] ["form"] (jag jhf):=⟨rfl,rfl,rfl,by decide +kernel,rfl,by decide +kernel,by decide +kernel⟩
def spSg (D:Adr):Sp:=fun vs H Q _=>∃ (H0:Hp) (ps:List Pie) (v:V),vs=[v]/\FormAt D.cl H0 H ps v/\FormOk ps/\∀ b H',Same H H'->(b=true↔Single (ps.map mPie))->Q (.bl b) H'
theorem ok_Sg (T:Txt w K mg D):FnOk P w K mg base CX0 8 D.aSingle D.dSingle ["form"] (spSg D):=by
 have GS:FnOk P w K mg base CX0 7 D.aStepsOf D.dStepsOf ["form"] (spSO D):=jnU T
 have GT:FnOk P w K mg base CX0 2 D.aTwofoldText D.dTwofoldText ["steps"] (spTT D):=jpL T
 refine T.fSingle.ok scSg (fun vs H Q E h=>?_) (fun cdv A outer s H vs Q E hr h=>?_)
 ·obtain ⟨H0,ps,v,rfl,_⟩:=h; rfl
 ·obtain ⟨H0,ps,v,rfl,hform,ok,q⟩:=h
  have hr2:Room 2 _:=hr.mono (by decide)
  refine ⟨_,jae (jak (jhu (jjb (jai GT hr2 rfl T.mTwofoldText T.fTwofoldText.kp T.bTwofoldText .nil jam (jaa (jai GS hr rfl T.mStepsOf T.fStepsOf.kp T.bStepsOf .nil jam (jaa (pv 0) jad)) jad))))),?_⟩
  obtain ⟨sl1,sl2⟩:=jeu ok
  refine ⟨_,rfl,H0,ps,v,rfl,hform,ok,fun l H1 nl s1 hst=>⟨l,stepsOf (ps.map mPie),rfl,hst,steps_down (jbG ok),rfl,sl1,sl2,jeD ok,fun t H' s' hld _=>?_,fun H' s' hno=>?_⟩⟩
  ·refine q false H' (s1.trans s') ⟨(fun h=>nomatch h),fun h=>?_⟩
   have h1:=two_of hld
   have h2:=h (tl t)
   omega
  ·exact q true H' (s1.trans s') ⟨fun _=>single_of (jbG ok) hno,fun _=>rfl⟩
open Mth (Stp Down Leads Meets stepsOf steps_down Single single_of two_of rds RQ)
theorem scJd:FnScope ["form","text","found"] ["form"] (jag jhe):=⟨rfl,rfl,rfl,by decide +kernel,rfl,by decide +kernel,by decide +kernel⟩
def spJd (D:Adr):Sp:=fun vs H Q _=>∃ (H0:Hp) (ps:List Pie) (v:V),vs=[v]/\FormAt D.cl H0 H ps v/\FormOk ps/\(∀ H',Same H H'->Single (ps.map mPie)->Q .non H') /\
 ∀ (t:Str) (a:Addr) (r0 r1:List RQ×List Bool) (v0 v1:V) (H':Hp),Same H H'->t.length<=1800->H a=none->H' a=some (.tup [.str t,v0,v1])->(rds (ps.map mPie) (tl t))[0]?=some r0->(rds (ps.map mPie) (tl t))[1]?=some r1->FrmD H H' ps r0.1 v0->FrmD H H' ps r1.1 v1->Q (.ref a) H'
theorem ok_Jd (T:Txt w K mg D):FnOk P w K mg base CX0 9 D.aJudged D.dJudged ["form"] (spJd D):=by
 have GS:FnOk P w K mg base CX0 7 D.aStepsOf D.dStepsOf ["form"] (spSO D):=jnU T
 have GT:FnOk P w K mg base CX0 2 D.aTwofoldText D.dTwofoldText ["steps"] (spTT D):=jpL T
 have GR:FnOk P w K mg base CX0 8 D.aReadings D.dReadings ["form","text","most"] (spRd D):=joa T
 refine T.fJudged.ok scJd (fun vs H Q E h=>?_) (fun cdv A outer s H vs Q E hr h=>?_)
 ·obtain ⟨H0,ps,v,rfl,_⟩:=h; rfl
 ·obtain ⟨H0,ps,v,rfl,hform,ok,q1,q2⟩:=h
  have hr2:Room 2 _:=hr.mono (by decide)
  have hr7:Room 7 _:=hr.mono (by decide)
  refine ⟨_,jab (jan (i:=1) scJd.nd rfl (Or.inl rfl) (jai GT hr2 rfl T.mTwofoldText T.fTwofoldText.kp T.bTwofoldText .nil jam (jaa (jai GS hr7 rfl T.mStepsOf T.fStepsOf.kp T.bStepsOf .nil jam (jaa (pv 0) jad)) jad)))
   (jab (jay (jdK (jjb (pv 1))) (jae (jak jja)) jaq)
   (jab (jan (i:=2) scJd.nd rfl (Or.inl rfl) (jai GR hr rfl T.mReadings T.kpReadings T.bReadings .nil jam (jaa (pv 0) (jaa (pv 1) (jaa jaf jad)))))
   (jae (jak (jbf (jaa (pv 1) (jaa (jap jaG (pv 2) jaf (fun _ _=>rfl)) (jaa (jap jaG (pv 2) jaf (fun _ _=>rfl)) jad)))))))),?_⟩
  obtain ⟨sl1,sl2⟩:=jeu ok
  refine ⟨_,rfl,H0,ps,v,rfl,hform,ok,fun l H1 nl s1 hst=>⟨l,stepsOf (ps.map mPie),rfl,hst,steps_down (jbG ok),rfl,sl1,sl2,jeD ok,fun t H' s' hld ht=>?_,fun H' s' hno=>?_⟩⟩
  ·have h2:=two_of hld
   have s2:=s1.trans s'
   refine ⟨_,rfl,_,rfl,jbn ?_⟩
   refine ⟨_,rfl,_,rfl,H0,ps,v,t,2,rfl,hform.mono s2,ok,by omega,by decide,fun r fv H3 nr s3 hr3 hfv=>?_⟩
   obtain ⟨r0,e0⟩:∃ r,(rds (ps.map mPie) (tl t))[0]?=some r:=⟨_,List.getElem?_eq_getElem (by omega)⟩
   obtain ⟨r1,e1⟩:∃ r,(rds (ps.map mPie) (tl t))[1]?=some r:=⟨_,List.getElem?_eq_getElem (by omega)⟩
   have t0:(((rds (ps.map mPie) (tl t)).take 2).map (·.1))[0]?=some r0.1:=by rw [List.getElem?_map,List.getElem?_take,if_pos (by decide),e0]; rfl
   have t1:(((rds (ps.map mPie) (tl t)).take 2).map (·.1))[1]?=some r1.1:=by rw [List.getElem?_map,List.getElem?_take,if_pos (by decide),e1]; rfl
   obtain ⟨v0,ev0,hv0⟩:=Paired.one hfv t0
   obtain ⟨v1,ev1,hv1⟩:=Paired.one hfv t1
   refine ⟨_,rfl,_,rfl,r,_,_,v0,rfl,rfl,SqL.of hr3,jba (j:=0) ev0,_,rfl,r,_,_,v1,rfl,rfl,SqL.of hr3,jba (j:=1) ev1,Nat.le_of_lt (jaB (by show 3<=100000; decide)),fun U nU=>?_⟩
   have g:=jah nU (.tup [.str t,v0,v1])
   have old:∀ b,H' b=none->H b=none:=fun b h=>s2.free h
   exact q2 t U r0 r1 v0 v1 _ ((s2.trans s3).trans g) ht (s2.free (s3.free nU)) jac e0 e1 ((hv0.older old).same g) ((hv1.older old).same g)
  ·exact ⟨_,rfl,_,rfl,jcc (q1 H' (s1.trans s') (single_of (jbG ok) hno))⟩
end
def jeH (kvs:List (Key×V)):Row:=fun n=>match jbt kvs (Sum.inr n) with | some (.str t)=>some t | _=>none
theorem jfc {kvs:List (Key×V)} {n t:Str} (h:jeH kvs n=some t):jbt kvs (Sum.inr n)=some (.str t):=by
 unfold jeH at h
 cases e:jbt kvs (Sum.inr n:Key) with
 | none=>rw [e] at h; cases h
 | some v =>
  rw [e] at h
  cases v <;> first | (cases h; rfl) | cases h
theorem jmd {kvs:List (Key×V)} {n t:Str} (h:jbt kvs (Sum.inr n)=some (.str t)):jeH kvs n=some t:=by unfold jeH; rw [h]
theorem sE (x:Str):Str.empty++x=x:=by
 show (⟨#[]++x.cps⟩:Str)=x
 rw [Array.empty_append]
theorem sE' (x:Str):x++Str.empty=x:=by
 show (⟨x.cps++#[]⟩:Str)=x
 rw [Array.append_empty]
theorem sA (x y z:Str):(x++y)++z=x++(y++z):=by
 show (⟨(x.cps++y.cps)++z.cps⟩:Str)=⟨x.cps++(y.cps++z.cps)⟩
 rw [Array.append_assoc]
theorem jfM:∀ (l:List Str) (x:Str),cat (l++[x])=cat l++x
 | [],x=>(sE x).symm
 | [t],x=>by
  show (t++Str.empty)++x=t++x
  rw [sE']
 | t::u::r,x=>by
  have ih:=jfM (u::r) x
  show (t++Str.empty)++cat ((u::r)++[x])=((t++Str.empty)++cat (u::r))++x
  rw [ih]; exact (sA _ _ _).symm
section
variable {P:Program} {w:World} {K:PySem.W.Frag} {mg:Str->Option Value} {base:Heap} {D:Adr}
theorem scLine:FnScope ["pieces","values","text","piece"] ["pieces","values"] (jag jft):=⟨rfl,rfl,rfl,by decide +kernel,rfl,by decide +kernel,by decide +kernel⟩
def jlh:Sp:=fun vs H Q _=>∃ (l:Addr) (us:List V) (ps:List Pc) (f:Row) (d:V),vs=[.ref l,d]/\H l=some (.lst us)/\Paired (Pc.At H) ps us/\RowAt H f d/\ps.length<=3/\(∀ p∈ps,p.ok/\jgW f p)/\Q (.str (jgI ps f)) H
theorem jok (T:Txt w K mg D):FnOk P w K mg base CX0 1 D.aLawLine D.dLawLine ["pieces","values"] jlh:=by
 refine T.fLawLine.ok scLine (fun vs H Q E h=>?_) (fun cdv A outer s H vs Q E hr h=>?_)
 ·obtain ⟨l,us,ps,f,d,rfl,_⟩:=h; rfl
 ·obtain ⟨l,us,ps,f,d,rfl,hl,hp,⟨da,kvs,rfl,hd,hv⟩,h3,hok,q⟩:=h
  have hu:=jdS hr
  have hus:us.length=ps.length:=hp.length.symm
  refine ⟨_,jab (jan (i:=2) scLine.nd rfl (Or.inl rfl) jaz)
   (jab (jbb PassesOwn.never rfl (jaT (pv 0)) (jaE (i:=3) scLine.nd rfl (Or.inl rfl))
    (jae (jay (jat jbR (jap jal (pv 3) jaf (fun _ _=>rfl)) jaz (jax _))
     (jae (jan (i:=2) scLine.nd rfl (Or.inl rfl) (jar jbl (pv 2) (jap jal (pv 3) jaf (fun _ _=>rfl)))))
     (jae (jan (i:=2) scLine.nd rfl (Or.inl rfl) (jar jbl (pv 2) (jdc hu (pv 1) (jap jal (pv 3) jaf (fun _ _=>rfl)) (fun _ _=>rfl))))))))
   (jae (jak (pv 2)))),?_⟩
  refine ⟨_,rfl,l,rfl,⟨_,SqL.of hl⟩,jdz (xs:=us) (fun i σ H'=>H'=H/\∃ o,σ=[some (.ref l),some (.ref da),some (.str (cat ((ps.take i).map (wPc f)))),o]) ⟨rfl,none,rfl⟩ (fun i σ H' hi e=>by rw [e.1]; exact SqL.of hl) (fun i x σ H' hx e=>?_) (fun σ H' e=>?_)⟩
  ·obtain ⟨rfl,o,rfl⟩:=e
   obtain ⟨p,ep,b,rfl,hb⟩:=Paired.two hp hx
   obtain ⟨okp,fp⟩:=hok p (List.mem_of_getElem? ep)
   have hz:=jfz okp fp
   have hi:i < us.length:=(List.getElem?_eq_some_iff.mp hx).1
   have hc:(cat ((ps.take i).map (wPc f))).length<=36:=by
    refine Nat.le_trans (jfy (n:=12) fun t ht=>?_) ?_
    ·obtain ⟨p',hp',rfl⟩:=List.mem_map.mp ht
     obtain ⟨o1,o2⟩:=hok p' (List.mem_of_mem_take hp')
     exact jfz o1 o2
    ·rw [List.length_map,List.length_take]; omega
   have et:cat ((ps.take (i+1)).map (wPc f))=cat ((ps.take i).map (wPc f))++wPc f p:=by rw [jaC ep,List.map_append]; exact jfM _ _
   rw [et]
   cases p with
   | say z =>
    refine ⟨_,rfl,b,_,_,_,rfl,rfl,SqT.of hb,rfl,rfl,_,rfl,jcr rfl ?_⟩
    exact ⟨_,rfl,_,rfl,b,_,_,_,rfl,rfl,SqT.of hb,rfl,_,z,rfl,rfl,jbp (by have:z.length<=12:=hz; omega),rfl,_,rfl⟩
   | ask n sg lo hi' =>
    obtain ⟨t,e1,e2⟩:=fp
    rw [jhi e1] at hz ⊢
    refine ⟨_,rfl,b,_,_,_,rfl,rfl,SqT.of hb,rfl,rfl,_,rfl,jbe ne_as ?_⟩
    exact ⟨_,rfl,_,rfl,_,rfl,b,_,_,_,rfl,rfl,SqT.of hb,rfl,da,_,rfl,.inl ⟨kvs,Sum.inr n,hd,rfl,(hv n t e1).symm⟩,_,t,rfl,rfl,jbp (by omega),rfl,_,rfl⟩
  ·obtain ⟨rfl,o,rfl⟩:=e
   rw [hus,List.take_length]
   exact ⟨_,rfl,q⟩
theorem scWritten:FnScope ["pieces","values","text","piece"] ["pieces","values"] (jag jbX):=⟨rfl,rfl,rfl,by decide +kernel,rfl,by decide +kernel,by decide +kernel⟩
def jgH:Sp:=fun vs H Q _=>∃ (l:Addr) (us:List V) (ps:List Pie) (F:Vs) (d:Addr) (kvs:List (Key×V)),vs=[.ref l,.ref d]/\H l=some (.lst us)/\Paired (Pie.At H) ps us/\FormOk ps/\Rd H d (.dK kvs)/\(∀ n x,F n=some x->∃ u,jbt kvs (Sum.inr n)=some u/\ValAt H x u)/\(∀ p∈ps,jdY F p)/\∀ H',Same H H'->Q (.str (jiL ps F)) H'
theorem jiT (T:Txt w K mg D):FnOk P w K mg base CX0 2 D.aLawWritten D.dLawWritten ["pieces","values"] jgH:=by
 have G:FnOk P w K mg base CX0 1 D.aLawLine D.dLawLine ["pieces","values"] jlh:=jok T
 refine T.fLawWritten.ok scWritten (fun vs H Q E h=>?_) (fun cdv A outer s H vs Q E hr h=>?_)
 ·obtain ⟨l,us,ps,F,d,kvs,rfl,_⟩:=h; rfl
 ·obtain ⟨l,us,ps,F,d,kvs,rfl,hl,hp,ok,hd,hv,hfit,q⟩:=h
  have hu:=jdS hr
  have hus:us.length=ps.length:=hp.length.symm
  have h6:=ok.hi
  refine ⟨_,jab (jan (i:=2) scWritten.nd rfl (Or.inl rfl) jaz)
   (jab (jbb PassesOwn.never rfl (jaT (pv 0)) (jaE (i:=3) scWritten.nd rfl (Or.inr rfl))
    (jae (jay (jat jbR (jap jal (pv 3) jaf (fun _ _=>rfl)) jaz (jax _))
     (jae (jan (i:=2) scWritten.nd rfl (Or.inl rfl) (jar jbl (pv 2) (jbS PySem.F.plainAttrs_str PySem.F.slot_str_join PySem.F.type_str_join jgU (jap jal (pv 3) jaf (fun _ _=>rfl))
      (jaa (jbD (cp:=[(3,"piece")]) (te:=jeE jlh [] E0 (jaZ (tOp (jlk K) (jbA 1) (tC (.int 2))) (jaZ (jbA 0) jeM))) (CompScope.of (jag jbX) ["pieces","values","text","piece"] rfl rfl (by decide +kernel)) rfl
       (jaT (jdc hu (pv 1) (jap jal (pv 3) jaf (fun _ _=>rfl)) (fun _ _=>rfl))) (fun _ _ _ _ _=>jbz)
       (fun _ _ _ _ _=>jai G hr rfl T.mLawLine T.fLawLine.kp T.bLawLine .nil jam (jaa (jap jal (pv 1) jaf (fun _ _=>rfl)) (jaa (pv 0) jad)))) jad)))))
     (jae (jan (i:=2) scWritten.nd rfl (Or.inl rfl) (jar jbl (pv 2) (jai G hr rfl T.mLawLine T.fLawLine.kp T.bLawLine .nil jam (jaa (jbj (jaa (pv 3) jad)) (jaa (pv 1) jad)))))))))
   (jae (jak (pv 2)))),?_⟩
  refine ⟨_,rfl,l,rfl,⟨_,SqL.of hl⟩,jdz (xs:=us) (fun i σ H'=>Same H H'/\∃ o,σ=[some (.ref l),some (.ref d),some (.str (cat ((ps.take i).map (jgn F)))),o]) ⟨Same.refl _,none,rfl⟩ (fun i σ H' hi e=>SqL.of (e.1 _ _ hl)) (fun i x σ H' hx e=>?_) (fun σ H' e=>?_)⟩
  ·obtain ⟨s1,o,rfl⟩:=e
   obtain ⟨p,ep,pat⟩:=Paired.two hp hx
   have mp:=List.mem_of_getElem? ep
   have okp:=ok.all p mp
   have fp:=hfit p mp
   have hz:=jdF okp fp
   have hi:i < us.length:=(List.getElem?_eq_some_iff.mp hx).1
   have hc:(cat ((ps.take i).map (jgn F))).length<=750:=by
    refine Nat.le_trans (jfy (n:=150) fun t ht=>?_) ?_
    ·obtain ⟨p',hp',rfl⟩:=List.mem_map.mp ht
     exact jdF (ok.all p' (List.mem_of_mem_take hp')) (hfit p' (List.mem_of_mem_take hp'))
    ·rw [List.length_map,List.length_take]; omega
   have et:cat ((ps.take (i+1)).map (jgn F))=cat ((ps.take i).map (jgn F))++jgn F p:=by rw [jaC ep,List.map_append]; exact jfM _ _
   rw [et]
   have hd1:Rd H' d (.dK kvs):=Rd.mono s1 hd
   have pat1:=pat.mono s1
   have one:∀ (q:Pc),p=.one q->x=x->jgW (jeH kvs) q/\wPc (jeH kvs) q=jgn F p:=by
    rintro q rfl _
    cases q with
    | say z=>exact ⟨trivial,rfl⟩
    | ask n sg lo hi' =>
     obtain ⟨t,e1,e2⟩:=fp
     obtain ⟨u,e3,e4⟩:=hv n _ e1
     cases (show u=.str t from e4)
     have e5:=jmd e3
     exact ⟨⟨t,e5,e2⟩,by rw [jhi e5,jfB e1]⟩
   have mono1:∀ (q:Pc),q.ok->jgW (jeH kvs) q->∀ y∈[q],y.ok/\jgW (jeH kvs) y:=fun q h1 h2 y hy=>by
    have:y=q:=by simpa using hy
    subst this; exact ⟨h1,h2⟩
   cases p with
   | one p =>
    obtain ⟨b,rfl,hb⟩:=pat1
    cases p with
    | say z =>
     refine ⟨_,rfl,b,_,_,_,rfl,rfl,SqT.of hb,rfl,rfl,_,rfl,jbe ne_sr ?_⟩
     refine ⟨_,rfl,_,rfl,(by show 1<=sizeLine; decide),fun r hr'=>⟨_,rfl,?_⟩⟩
     obtain ⟨f1,f2⟩:=one _ rfl rfl
     have s2:=jah hr' (.lst [.ref b])
     rw [<- f2] at hz ⊢
     exact ⟨r,[.ref b],[Pc.say z],jeH kvs,.ref d,rfl,jac,.cons ⟨b,rfl,s2 _ _ hb⟩ .nil,⟨d,kvs,rfl,Rd.mono s2 hd1,fun _ _ e=>jfc e⟩,(by show 1<=3; decide),mono1 _ okp f1,_,_,rfl,rfl,jbp (Nat.le_trans (Nat.add_le_add hc hz) (by decide)),s1.trans s2,_,rfl⟩
    | ask n sg lo hi' =>
     refine ⟨_,rfl,b,_,_,_,rfl,rfl,SqT.of hb,rfl,rfl,_,rfl,jbe ne_ra.symm ?_⟩
     refine ⟨_,rfl,_,rfl,(by show 1<=sizeLine; decide),fun r hr'=>⟨_,rfl,?_⟩⟩
     obtain ⟨f1,f2⟩:=one _ rfl rfl
     have s2:=jah hr' (.lst [.ref b])
     rw [<- f2] at hz ⊢
     exact ⟨r,[.ref b],[Pc.ask n sg lo hi'],jeH kvs,.ref d,rfl,jac,.cons ⟨b,rfl,s2 _ _ hb⟩ .nil,⟨d,kvs,rfl,Rd.mono s2 hd1,fun _ _ e=>jfc e⟩,(by show 1<=3; decide),mono1 _ okp f1,_,_,rfl,rfl,jbp (Nat.le_trans (Nat.add_le_add hc hz) (by decide)),s1.trans s2,_,rfl⟩
   | rows n inner gap lo hi' =>
    obtain ⟨b,r2,ws,rfl,hb,hr2',hin⟩:=pat1
    obtain ⟨rs,e1,f1,f2,f3⟩:=fp
    obtain ⟨u,e3,lv,vs,rfl,hlv,hrs⟩:=hv n _ e1
    obtain ⟨hn,hpo,hg,b0,b1,b2⟩:=okp
    rw [jcP e1] at hz ⊢
    have hvs:vs.length=rs.length:=hrs.length.symm
    have hlv1:=s1 _ _ hlv
    refine ⟨_,rfl,b,_,_,_,rfl,rfl,SqT.of hb,rfl,rfl,_,rfl,jcr rfl ?_⟩
    refine ⟨_,rfl,_,rfl,b,_,_,_,rfl,rfl,SqT.of hb,rfl,rfl,_,rfl,_,rfl,b,_,_,_,rfl,rfl,SqT.of hb,rfl,d,_,rfl,.inl ⟨kvs,Sum.inr n,hd1,rfl,e3.symm⟩,lv,rfl,⟨_,SqL.of hlv1⟩,?_⟩
    refine jbg (xs:=vs) (fun j ys H5=>H5=H'/\ys=(rs.take j).map fun f=>V.str (jgI inner f)) ⟨rfl,rfl⟩ (fun j ys H5 hj e=>⟨by rw [e.1]; exact SqL.of hlv1,?_⟩) (jbp (by omega)) (fun j x ys H5 hx e=>?_) (fun ys H5 e r hr'=>?_)
    ·rw [e.2,List.length_map,List.length_take]; omega
    ·obtain ⟨rfl,rfl⟩:=e
     obtain ⟨f,ef,pf⟩:=Paired.two hrs hx
     have mf:=List.mem_of_getElem? ef
     refine ⟨_,rfl,b,_,_,_,rfl,rfl,SqT.of hb,rfl,_,rfl,r2,ws,inner,f,x,rfl,hr2',hin,pf.mono s1,hpo.hi,fun y hy=>⟨hpo.all y hy,f3 f mf y hy⟩,rfl,?_⟩
     rw [jaC ef,List.map_append]
     rfl
    ·obtain ⟨rfl,rfl⟩:=e
     rw [hvs,List.take_length]
     have s2:=jah hr' (.lst (rs.map fun f=>V.str (jgI inner f)))
     refine ⟨gap,r,rs.map (jgI inner),rfl,rfl,SqL.of (by rw [jac,List.map_map]; rfl),?_,_,_,rfl,rfl,jbp (by omega),s1.trans s2,_,rfl⟩
     refine jdW (n:=500) (fun t ht=>?_) (by rw [List.length_map]; exact Nat.le_trans (Nat.mul_le_mul_right 500 (show rs.length<=100 by omega)) (by decide))
     obtain ⟨f,hf',rfl⟩:=List.mem_map.mp ht
     have z1:=jfA hpo (f3 f hf')
     have z2:=hg.hi
     omega
  ·obtain ⟨s1,o,rfl⟩:=e
   rw [hus,List.take_length]
   exact ⟨_,rfl,q H' s1⟩
end
open Mth (R1 RQ rds rds_iff rds_nd wF Single)
theorem jol {ps:List Pie} (ok:FormOk ps) {t:List Nat} {r0 r1:List RQ×List Bool} (h0:(rds (ps.map mPie) t)[0]?=some r0) (h1:(rds (ps.map mPie) t)[1]?=some r1) :
  r0.1≠r1.1/\(∀ r∈[r0.1,r1.1],Mth.FitF (ps.map mPie) r/\t=wF (ps.map mPie) r)/\((rds (ps.map mPie) t).take 2).map (·.1)=[r0.1,r1.1]:=by
 have lh:=jhn ok
 have nd:=rds_nd lh t
 have a0:=(rds_iff lh).mp (List.mem_of_getElem? h0)
 have a1:=(rds_iff lh).mp (List.mem_of_getElem? h1)
 generalize rds (ps.map mPie) t=L at *
 match L,h0,h1 with
 | [],h0,_=>cases h0
 | [_],_,h1=>cases h1
 | x::y::L,h0,h1 =>
  cases h0; cases h1
  refine ⟨fun e=>?_,fun r hr=>?_,rfl⟩
  ·have:=(List.nodup_cons.mp nd).1
   exact this (by show r0.1∈r1.1::L.map (·.1); rw [e]; exact List.mem_cons_self)
  ·rcases List.mem_cons.mp hr with rfl | hr
   ·exact ⟨a0.1,a0.2.1⟩
   ·rw [List.mem_singleton.mp hr]; exact ⟨a1.1,a1.2.1⟩
section
variable {P:Program} {w:World} {K:PySem.W.Frag} {mg:Str->Option Value} {base:Heap} {D:Adr}
theorem scSh:FnScope ["form","pieces","found","one"] ["form","pieces","found"] (jag jeo):=⟨rfl,rfl,rfl,by decide +kernel,rfl,by decide +kernel,by decide +kernel⟩
structure ShA (D:Adr) (Hf H1 H:Hp) (f:V) (l a:Addr) (us:List V) (ps:List Pie) (t:Str) (v0 v1:V) (r0 r1:List RQ×List Bool):Prop where
 fm:FormAt D.cl Hf H ps f
 pl:H l=some (.lst us)
 pp:Paired (Pie.At H) ps us
 ok:FormOk ps
 tu:H a=some (.tup [.str t,v0,v1])
 le:t.length<=1800
 e0:(rds (ps.map mPie) (tl t))[0]?=some r0
 e1:(rds (ps.map mPie) (tl t))[1]?=some r1
 d0:FrmD H1 H ps r0.1 v0
 d1:FrmD H1 H ps r1.1 v1
def spSh (D:Adr):Sp:=fun vs H Q _=>∃ (Hf H1:Hp) (f:V) (l a:Addr) (us:List V) (ps:List Pie) (t:Str) (v0 v1:V) (r0 r1:List RQ×List Bool),vs=[f,.ref l,.ref a]/\ShA D Hf H1 H f l a us ps t v0 v1 r0 r1/\∀ H',Same H H'->Q (.bl true) H'
theorem jme (T:Txt w K mg D):FnOk P w K mg base CX0 9 D.aLawShown D.dLawShown ["form","pieces","found"] (spSh D):=by
 have GS:FnOk P w K mg base CX0 3 D.aLawFits D.dLawFits ["pieces","values"] jnb:=joi T
 have GW:FnOk P w K mg base CX0 2 D.aLawWritten D.dLawWritten ["pieces","values"] jgH:=jiT T
 have GX:FnOk P w K mg base CX0 8 D.aFill D.dFill ["form","values"] (jkt D):=jku T
 have GR:FnOk P w K mg base CX0 8 D.aReadings D.dReadings ["form","text","most"] (spRd D):=joa T
 obtain ⟨t0,hb2⟩:=T.eReadings
 have hv2:Vals [V.int 2] [Value.int 2 t0]:=.cons ⟨t0,rfl⟩ .nil
 refine T.fLawShown.ok scSh (fun vs H Q E h=>?_) (fun cdv A outer s H vs Q E hr h=>?_)
 ·obtain ⟨Hf,H1,f,l,a,us,ps,t,v0,v1,r0,r1,rfl,_⟩:=h; rfl
 ·obtain ⟨Hf,H1,f,l,a,us,ps,t,v0,v1,r0,r1,rfl,S,q⟩:=h
  have hr2:Room 2 _:=hr.mono (by decide)
  have hr3:Room 3 _:=hr.mono (by decide)
  have un:∀ n,n<=60->_+n+1 < cLine:=fun n hn=>Nat.lt_of_le_of_lt (Nat.add_le_add_left (show n+1<=64 by omega) _) hr.units
  refine ⟨_,jab (jay (PW.pt (jfN (jbB (jaJ (jaj jau rfl T.zIsinstance PyProof.Rows.boot_isinstance (jaa (pv 2) (jaa (jcY (v:=.ty "tuple") rfl T.zTuple PyProof.Rows.boot_tuple rfl) jad)))))
    (jfN (jat jfR (jaj jav rfl T.zLen PySem.boot_len (jaa (pv 2) jad)) jaf (jax _))
    (jeI (jbB (jaJ (jaj jau rfl T.zIsinstance PyProof.Rows.boot_isinstance (jaa (jap jal (pv 2) jaf (fun _ _=>rfl)) (jaa (jcY (v:=.ty "str") rfl T.zStr PyProof.Rows.boot_str rfl) jad))))))))) (jae (jak jbk)) jaq)
   (jab (jay (jat joS (jap jal (pv 2) jaf (fun _ _=>rfl)) (jap jal (pv 2) jaf (fun _ _=>rfl)) (jax _)) (jae (jak jbk)) jaq)
   (jab (jbb PassesOwn.never rfl (jox (jcK jjv (pv 2) (jdb jaf) jfg)) (jaE (i:=3) scSh.nd rfl (Or.inl rfl))
    (jae (jay (PW.pt (jfN (jbB (jaJ (jai GS hr3 rfl T.mLawFits T.fLawFits.kp T.bLawFits .nil jam (jaa (pv 1) (jaa (pv 3) jad)))))
     (jfN (jat jfR (jai GW hr2 rfl T.mLawWritten T.fLawWritten.kp T.bLawWritten .nil jam (jaa (pv 1) (jaa (pv 3) jad))) (jap jal (pv 2) jaf (fun _ _=>rfl)) (jax _))
     (jeI (jat jfR (jai GX hr rfl T.mFill T.fFill.kp T.bFill .nil jam (jaa (pv 0) (jaa (pv 3) jad))) (jap jal (pv 2) jaf (fun _ _=>rfl)) (jax _)))))) (jae (jak jbk)) jaq)))
   (jae (jak (jaY jjJ (jai GR hr rfl T.mReadings T.kpReadings hb2 hv2 jam (jaa (pv 0) (jaa (jap jal (pv 2) jaf (fun _ _=>rfl)) jad))) (jbj (jaa (jap jal (pv 2) jaf (fun _ _=>rfl)) (jaa (jap jal (pv 2) jaf (fun _ _=>rfl)) jad))) (jax _)))))),?_⟩
  dsimp only [cxK]
  obtain ⟨ne01,hfit,htake⟩:=jol S.ok S.e0 S.e1
  have f0:=hfit r0.1 List.mem_cons_self
  have f1:=hfit r1.1 (List.mem_cons_of_mem _ List.mem_cons_self)
  have tu:=S.tu
  refine ⟨_,rfl,_,_,true,.inr ⟨_,rfl,T.isTupleTuple⟩,TyOf.tup tu,_,rfl,jbn ?_⟩
  refine ⟨_,rfl,a,_,rfl,.inr (SqT.of tu),rfl,_,rfl,jdT rfl ?_⟩
  refine ⟨_,rfl,a,_,_,_,rfl,rfl,SqT.of tu,rfl,_,_,true,.inr ⟨_,rfl,T.isStrStr⟩,TyOf.str _,_,rfl,jbn ?_⟩
  refine ⟨_,rfl,a,_,_,_,rfl,rfl,SqT.of tu,rfl,_,rfl,a,_,_,_,rfl,rfl,SqT.of tu,rfl,2,_,un 2 (by decide),FrmD.cm S.ok f0.1 f1.1 S.d0 S.d1,_,rfl,?_⟩
  rw [jpG ne01]
  refine jbn ⟨_,rfl,1,rfl,a,_,rfl,SqT.of tu,fun z=>absurd (show (1:Nat)=0 from z.1) (by decide),fun p2 np2=>?_⟩
  have ec:jhE [V.str t,v0,v1] (some 1) none=[v0,v1]:=rfl
  rw [ec]
  have g2:=jah np2 (.tup [v0,v1])
  have hp2:(L2.upd H p2 (.tup [v0,v1])) p2=some (.tup [v0,v1]):=jac
  generalize L2.upd H p2 (.tup [v0,v1])=H2 at *
  refine ⟨p2,rfl,⟨_,SqT.of hp2⟩,jnh (xs:=[v0,v1]) (fun i σ H'=>∃ o3,σ=[some f,some (.ref l),some (.ref a),o3]/\Same H2 H') ⟨none,rfl,Same.refl _⟩ (fun i σ H' hi e=>?_) (fun i x σ H' hx e=>?_) (fun σ H' e=>?_)⟩
  ·obtain ⟨_,_,e1⟩:=e
   exact SqT.of (e1 _ _ hp2)
  ·obtain ⟨o3,rfl,e1⟩:=e
   have s1:=g2.trans e1
   obtain ⟨r,hfr,ft,ew⟩:∃ r,FrmD H1 H ps r x/\Mth.FitF (ps.map mPie) r/\tl t=wF (ps.map mPie) r:=by
    cases i with
    | zero=>cases hx; exact ⟨r0.1,S.d0,f0.1,f0.2⟩
    | succ i =>
     cases i with
     | zero=>cases hx; exact ⟨r1.1,S.d1,f1.1,f1.2⟩
     | succ i=>cases hx
   have et:jiL ps (FR (jbv ps r))=t:=by rw [jkX S.ok ft,<- ew]; rfl
   refine ⟨_,rfl,_,rfl,H1,l,us,x,ps,r,rfl,s1 _ _ S.pl,Paired.mapP S.pp fun _ _ z=>z.mono s1,S.ok,hfr.same s1,ft,fun H3 s3=>⟨_,rfl,jbn ?_⟩⟩
   have s13:=s1.trans s3
   obtain ⟨d,kvs,ed,hd,hk⟩:=(hfr.same s13).vs
   subst ed
   refine ⟨_,rfl,_,rfl,l,us,ps,_,d,kvs,rfl,s13 _ _ S.pl,Paired.mapP S.pp fun _ _ z=>z.mono s13,S.ok,hd,hk,jik S.ok ft,fun H4 s4=>⟨_,rfl,a,_,_,_,rfl,rfl,SqT.of ((s13.trans s4) _ _ tu),rfl,rfl,_,rfl,jdT (by rw [et]) ?_⟩⟩
   have s14:=s13.trans s4
   refine ⟨_,rfl,_,rfl,_,ps,_,_,_,rfl,S.fm.mono s14,S.ok,(hfr.same s14).vs,jik S.ok ft,fun H5 s5=>⟨_,rfl,a,_,_,_,rfl,rfl,SqT.of ((s14.trans s5) _ _ tu),rfl,rfl,_,rfl,jdT (by rw [et]) ?_⟩⟩
   exact ⟨_,rfl,((e1.trans s3).trans s4).trans s5⟩
  ·obtain ⟨o3,rfl,e1⟩:=e
   have s1:=g2.trans e1
   refine ⟨_,rfl,_,rfl,a,_,_,_,rfl,rfl,SqT.of (s1 _ _ tu),rfl,_,ps,_,t,2,rfl,S.fm.mono s1,S.ok,Nat.le_trans S.le (by decide),by decide,fun qf fv H3 nq s3 hq hv=>?_⟩
   rw [htake] at hv
   have s13:=s1.trans s3
   refine ⟨_,rfl,a,_,_,_,rfl,rfl,SqT.of (s13 _ _ tu),rfl,_,rfl,a,_,_,_,rfl,rfl,SqT.of (s13 _ _ tu),rfl,Nat.le_of_lt (jaB (by show 2<=100000; decide)),fun ln nln=>?_⟩
   have g4:=jah nln (.lst [v0,v1])
   have hln:(L2.upd H3 ln (.lst [v0,v1])) ln=some (.lst [v0,v1]):=jac
   generalize L2.upd H3 ln (.lst [v0,v1])=H4 at *
   have s14:=s13.trans g4
   cases hv with
   | cons h0 ht =>
   cases ht with
   | cons h1 ht =>
   cases ht
   have c0:=FrmD.cmD (K:=K) S.ok f0.1 f0.1 (h0.same g4) (S.d0.same s14)
   have c1:=FrmD.cmD (K:=K) S.ok f1.1 f1.1 (h1.same g4) (S.d1.same s14)
   rw [tr_t rfl] at c0 c1
   exact ⟨3,un 3 (by decide),.inl ⟨qf,ln,_,_,rfl,rfl,SqL.of (g4 _ _ hq),SqL.of hln,.cons (CmD.eq c0) (.cons (CmD.eq c1) .nil)⟩,q _ s14⟩
end
theorem Pie.AtN.to {r:Addr} {H:Hp} {ps:List Pie} {us:List V} (h:Paired (Pie.AtN r H) ps us):Paired (Pie.At H) ps us:=Paired.mapP h fun _ _ z=>z.at'
theorem jli {ps:List Pie} {F:Vs} (ok:FormOk ps) (hf:∀ p∈ps,jdY F p):(jiL ps F).length<=900:=by
 have:=jfy (n:=150) (ts:=ps.map (jgn F)) fun t ht=>by
  obtain ⟨p,hp,rfl⟩:=List.mem_map.mp ht
  exact jdF (ok.all p hp) (hf p hp)
 rw [List.length_map] at this
 have:=ok.hi
 unfold jiL
 omega
theorem isDk {K:PySem.W.Frag} {H:Hp} {a:Addr} {kvs:List (Key×V)} (h:H a=some (.dK kvs)):tyV K "dict" (.ref a) H:=.inr (.inr (.inl ⟨rfl,.inl ⟨_,h⟩⟩))
theorem jom {ps:List Pie} (ok:FormOk ps) (S:Single (ps.map mPie)) {rs:List RQ} (f:Mth.FitF (ps.map mPie) rs):((rds (ps.map mPie) (wF (ps.map mPie) rs)).take 2).map (·.1)=[rs]:=by
 have h1:=S (wF (ps.map mPie) rs)
 have h2:(rs,Mth.cF (ps.map mPie) rs)∈rds (ps.map mPie) (wF (ps.map mPie) rs):=(rds_iff (jhn ok)).mpr ⟨f,rfl,rfl⟩
 generalize rds (ps.map mPie) (wF (ps.map mPie) rs)=L at *
 match L,h1,h2 with
 | [],_,h2=>cases h2
 | [x],_,h2=>rw [<- List.mem_singleton.mp h2]; rfl
 | x::y::L,h1,_=>rw [List.length_cons,List.length_cons] at h1; omega
theorem jlj {ps:List Pie} {t:List Nat} {r1:List RQ×List Bool} (e:(rds (ps.map mPie) t)[1]?=some r1):¬ Single (ps.map mPie):=fun S=>by
 have h1:=S t
 have h2:=(List.getElem?_eq_some_iff.mp e).1
 omega
section
variable {P:Program} {w:World} {K:PySem.W.Frag} {mg:Str->Option Value} {base:Heap} {D:Adr}
theorem scLaw:FnScope ["script","pieces","form","found","again","start","values"] ["script"] (jag sLaw):=⟨rfl,rfl,rfl,by decide +kernel,rfl,by decide +kernel,by decide +kernel⟩
def jmf (K:PySem.W.Frag):Sp:=fun vs H Q _=>∃ (a:Addr) (ns:List Int),vs=[.ref a]/\Scr K H a ns/\∀ H',Q (.bl true) H'
theorem jpN (T:Txt w K mg D):FnOk P w K mg base CX0 13 D.aLaw D.dLaw ["script"] (jmf K):=by
 have GP:FnOk P w K mg base CX0 6 D.aLawPieces D.dLawPieces ["script","many","most"] (jii K):=jkP T
 have GF:FnOk P w K mg base CX0 11 D.aFormI D.dFormI ["self","pieces"] (jks D):=jlQ T
 have GV:FnOk P w K mg base CX0 5 D.aLawValues D.dLawValues ["script","start","pieces"] (jil K):=jla T
 have GX:FnOk P w K mg base CX0 8 D.aFill D.dFill ["form","values"] (jkt D):=jku T
 have GR:FnOk P w K mg base CX0 8 D.aReadings D.dReadings ["form","text","most"] (spRd D):=joa T
 have GJ:FnOk P w K mg base CX0 9 D.aJudged D.dJudged ["form"] (spJd D):=ok_Jd T
 have GG:FnOk P w K mg base CX0 8 D.aSingle D.dSingle ["form"] (spSg D):=ok_Sg T
 have GH:FnOk P w K mg base CX0 9 D.aLawShown D.dLawShown ["form","pieces","found"] (spSh D):=jme T
 refine T.fLaw.ok scLaw (fun vs H Q E h=>?_) (fun cdv A outer s H vs Q E hr h=>?_)
 ·obtain ⟨a,ns,rfl,_⟩:=h; rfl
 ·obtain ⟨a,ns,rfl,hS,q⟩:=h
  have hr5:Room 5 _:=hr.mono (by decide)
  have hr6:Room 6 _:=hr.mono (by decide)
  have hr8:Room 8 _:=hr.mono (by decide)
  have hr9:Room 9 _:=hr.mono (by decide)
  have un:∀ n,n<=60->_+n+1 < cLine:=fun n hn=>Nat.lt_of_le_of_lt (Nat.add_le_add_left (show n+1<=64 by omega) _) hr.units
  refine ⟨_,jab (jan (i:=1) scLaw.nd rfl (Or.inl rfl) (jai GP hr6 rfl T.mLawPieces T.fLawPieces.kp T.bLawPieces .nil jam (jaa (pv 0) (jaa jaf (jaa jaf jad)))))
   (jab (jan (i:=2) scLaw.nd rfl (Or.inl rfl) (jbx T.mkForm GF (hr.mono (by decide)) rfl T.mgForm T.bFormI .nil jam (jaa (jcJ jdt rfl T.zList (by decide +kernel) (jaa (pv 1) jad)) jad)))
   (jab (jan (i:=3) scLaw.nd rfl (Or.inl rfl) (jai GJ hr9 rfl T.mJudged T.fJudged.kp T.bJudged .nil jam (jaa (pv 2) jad)))
   (jab (jay (PW.pt (jjc (jat jgq (jai GG hr8 rfl T.mSingle T.fSingle.kp T.bSingle .nil jam (jaa (pv 2) jad)) jbk (jax _)) (jgL (jat jgq (jai GG hr8 rfl T.mSingle T.fSingle.kp T.bSingle .nil jam (jaa (pv 2) jad)) jbk (jax _))))) (jae (jak jbk)) jaq)
   (jab (jay (jat jfR (jai GG hr8 rfl T.mSingle T.fSingle.kp T.bSingle .nil jam (jaa (pv 2) jad)) (jhu (jjb (pv 3))) (jax _)) (jae (jak jbk)) jaq)
   (jab (jay (jdK (jcZ (pv 3)))
    (jab (jay (jbB (jaJ (jai GH hr9 rfl T.mLawShown T.fLawShown.kp T.bLawShown .nil jam (jaa (pv 2) (jaa (pv 1) (jaa (pv 3) jad)))))) (jae (jak jbk)) jaq)
    (jab (jas (jfX PySem.F.plainAttrs_dict PySem.F.slot_dict_clear PySem.F.type_dict_clear jgz (jap jal (pv 3) jaf (fun _ _=>rfl))))
    (jae (jas (jfX PySem.F.plainAttrs_dict PySem.F.slot_dict_clear PySem.F.type_dict_clear jgz (jap jal (pv 3) jaf (fun _ _=>rfl))))))) jaq)
   (jab (jan (i:=4) scLaw.nd rfl (Or.inl rfl) (jai GJ hr9 rfl T.mJudged T.fJudged.kp T.bJudged .nil jam (jaa (pv 2) jad)))
   (jab (jay (PW.pt (jfN (jdK (jcZ (pv 3))) (jeI (jdK (jcZ (pv 4)))))) (jae (jak (jhv (jhu (jcZ (pv 4))) (jhv (jhu (jcZ (pv 3))) (jjd (jai GH hr9 rfl T.mLawShown T.fLawShown.kp T.bLawShown .nil jam (jaa (pv 2) (jaa (pv 1) (jaa (pv 4) jad))))))))) jaq)
   (jab (jbb PassesOwn.never rfl (jaT (jbj (jaa jaf (jaa jaf (jaa jaf jad))))) (jaE (i:=5) scLaw.nd rfl (Or.inl rfl))
    (jab (jan (i:=6) scLaw.nd rfl (Or.inl rfl) (jai GV hr5 rfl T.mLawValues T.fLawValues.kp T.bLawValues .nil jam (jaa (pv 0) (jaa (pv 5) (jaa (pv 1) jad)))))
    (jae (jay (jat jdX (jai GR hr8 rfl T.mReadings T.kpReadings T.bReadings .nil jam (jaa (pv 2) (jaa (jai GX hr8 rfl T.mFill T.fFill.kp T.bFill .nil jam (jaa (pv 2) (jaa (pv 6) jad))) (jaa jaf jad)))) (jbj (jaa (pv 6) jad)) (jax _)) (jae (jak jbk)) jaq))))
   (jae (jak jbk)))))))))),?_⟩
  dsimp only [cxK]
  refine ⟨_,rfl,a,ns,4,4,rfl,hS,by decide,by decide,by decide,by decide,fun r us ps H1 s1 nr hr1 hp1' ok _ _ _=>?_⟩
  have hp1:=Pie.AtN.to hp1'
  refine ⟨_,rfl,r,us,rfl,.inl (SqL.of hr1),fun l1 nl1=>?_⟩
  have g2:=jah nl1 (.lst us)
  have hl2:(L2.upd H1 l1 (.lst us)) l1=some (.lst us):=jac
  generalize L2.upd H1 l1 (.lst us)=H2 at *
  intro f1 d1 nf1 nd1 _
  have k2:=jdn (C:=D.cForm) nf1 nd1
  refine ⟨f1,d1,l1,us,ps,rfl,jac,k2 _ _ hl2,Paired.mapP hp1 fun _ _ z=>z.mono (g2.trans k2),ok,fun H3 b3 hf3=>⟨rfl,?_⟩⟩
  have s13:Same H1 H3:=g2.trans (jbP nf1 nd1 b3)
  have fm:∀ {H':Hp},Same H3 H'->FormAt D.cl _ H' ps (.ref f1):=fun e=>hf3.mono e
  refine ⟨_,rfl,_,ps,_,rfl,fm (Same.refl _),ok,fun H4 s4 hSg=>?_,fun t b r0 r1 v0 v1 H4 s4 ht nb hb e0 e1 hd0 hd1=>?_⟩
  ·-- single
   refine ⟨_,rfl,_,ps,_,rfl,fm s4,ok,fun c H5 s5 hc=>⟨c,true,rfl,rfl,_,rfl,?_⟩⟩
   obtain rfl:=hc.mpr hSg
   have s45:=s4.trans s5
   refine jbn (jbn ⟨_,rfl,_,ps,_,rfl,fm s45,ok,fun c H6 s6 hc=>⟨_,rfl,rfl,_,rfl,jdT ?_ ?_⟩⟩)
   ·rw [hc.mpr hSg]; rfl
   have s46:=s45.trans s6
   refine ⟨_,rfl,_,rfl,jdT rfl ?_⟩
   refine ⟨_,rfl,_,ps,_,rfl,fm s46,ok,fun H7 s7 _=>?_,fun t b r0 r1 v0 v1 H4 s4 ht nb hb e0 e1 hd0 hd1=>absurd hSg (jlj e1)⟩
   have s47:=s46.trans s7
   refine ⟨_,rfl,_,rfl,jdT rfl ⟨_,rfl,_,rfl,jdT rfl ?_⟩⟩
   refine ⟨Nat.le_of_lt (jaB (by show 3<=100000; decide)),fun l8 nl8=>?_⟩
   have g8:=jah nl8 (.lst [.int 300,.int 800,.int 1300])
   have hl8:(L2.upd H7 l8 (.lst [.int 300,.int 800,.int 1300])) l8=some (.lst [.int 300,.int 800,.int 1300]):=jac
   generalize L2.upd H7 l8 (.lst [.int 300,.int 800,.int 1300])=H8 at *
   have s48:=s47.trans g8
   refine ⟨l8,rfl,⟨_,SqL.of hl8⟩,jdZ (xs:=[.int 300,.int 800,.int 1300]) (fun i σ H'=>∃ o5 o6,σ=[some (.ref a),some (.ref r),some (.ref f1),some .non,some .non,o5,o6]/\Same H8 H') ⟨none,none,rfl,Same.refl _⟩ (fun i σ H' hi e=>?_) (fun i x σ H' hx e D1 hD1=>?_) (fun σ H' e=>?_)⟩
   ·obtain ⟨_,_,_,e1⟩:=e
    exact SqL.of (e1 _ _ hl8)
   ·obtain ⟨o5,o6,rfl,e1⟩:=e
    have s3':=s48.trans e1
    have s1':=s13.trans s3'
    obtain ⟨st,rfl,st0,st1⟩:∃ st:Int,x=.int st/\0<=st/\st<=9000:=by
     have:=List.mem_of_getElem? hx
     simp only [List.mem_cons,List.not_mem_nil,or_false] at this
     rcases this with rfl | rfl | rfl
     ·exact ⟨300,rfl,by decide,by decide⟩
     ·exact ⟨800,rfl,by decide,by decide⟩
     ·exact ⟨1300,rfl,by decide,by decide⟩
    refine ⟨_,rfl,_,rfl,_,rfl,a,r,ns,st,us,ps,rfl,(hS.mono s1).mono s1',st0,st1,s1' _ _ hr1,Paired.mapP hp1 fun _ _ z=>z.mono s1',ok,fun v rs H9 s9 hv f=>?_⟩
    have e9:=s3'.trans s9
    refine ⟨_,rfl,_,rfl,_,rfl,_,ps,_,_,_,rfl,fm e9,ok,hv.vs,jik ok f,fun H10 s10=>?_⟩
    have hz:=Nat.le_trans (jli ok (jik ok f)) (show 900<=90000 by decide)
    rw [jkX ok f] at hz ⊢
    refine ⟨_,ps,_,_,2,rfl,fm (e9.trans s10),ok,hz,by decide,fun qf fv H11 nq s11 hq hfv=>?_⟩
    have hfv:Paired (FrmD H10 H11 ps) (((rds (ps.map mPie) (wF (ps.map mPie) rs)).take 2).map (·.1)) fv:=hfv
    rw [jom ok hSg f] at hfv
    refine ⟨_,rfl,Nat.le_of_lt (jaB (by show 1<=100000; decide)),fun ln nln=>?_⟩
    have g12:=jah nln (.lst [v])
    have hln:(L2.upd H11 ln (.lst [v])) ln=some (.lst [v]):=jac
    generalize L2.upd H11 ln (.lst [v])=H12 at *
    have s912:=(s10.trans s11).trans g12
    cases hfv with
    | cons h0 h1 =>
    cases h1
    have c0:=FrmD.cmD (K:=K) ok f f (h0.same g12) (hv.same s912)
    rw [tr_t rfl] at c0
    refine ⟨3,un 3 (by decide),.inl ⟨qf,ln,_,_,rfl,rfl,SqL.of (g12 _ _ hq),SqL.of hln,.cons (CmD.eq c0) .nil⟩,_,rfl,jbn ?_⟩
    exact hD1 _ _ ⟨_,_,rfl,(e1.trans s9).trans s912⟩
   ·obtain ⟨o5,o6,rfl,e1⟩:=e
    exact q _
  ·-- twofold
   have hno:=jlj e1
   have nob:∀ c:Bool,(c=true↔Single (ps.map mPie))->c=false:=fun c hc=>by
    cases c with
    | false=>rfl
    | true=>exact absurd (hc.mp rfl) hno
   refine ⟨_,rfl,_,ps,_,rfl,fm s4,ok,fun c H5 s5 hc=>⟨c,true,rfl,rfl,_,rfl,?_⟩⟩
   obtain rfl:=nob c hc
   have s45:=s4.trans s5
   refine jcc ⟨_,rfl,_,ps,_,rfl,fm s45,ok,fun c H6 s6 hc=>⟨c,false,rfl,rfl,_,rfl,?_⟩⟩
   obtain rfl:=nob c hc
   have s46:=s45.trans s6
   refine jbn ⟨_,rfl,_,ps,_,rfl,fm s46,ok,fun c H7 s7 hc=>⟨_,rfl,rfl,_,rfl,jdT ?_ ?_⟩⟩
   ·rw [nob c hc]; rfl
   have s47:=s46.trans s7
   have u47:=(s5.trans s6).trans s7
   refine ⟨_,rfl,_,rfl,jon (fun z=>nomatch z) ?_⟩
   have s17:=s13.trans s47
   refine ⟨_,rfl,_,rfl,_,rfl,_,_,_,r,b,us,ps,t,v0,v1,r0,r1,rfl,⟨fm s47,s17 _ _ hr1,Paired.mapP hp1 fun _ _ z=>z.mono s17,ok,u47 _ _ hb,ht,e0,e1,hd0.same u47,hd1.same u47⟩,fun H8 s8=>⟨_,rfl,jbn ?_⟩⟩
   have u48:=u47.trans s8
   have s48:=s47.trans s8
   have hb8:=u48 _ _ hb
   obtain ⟨a0,k0,rfl,ha0,na0,_⟩:=hd0.same u48
   obtain ⟨a1,k1,rfl,ha1,na1,_⟩:=hd1.same u48
   refine ⟨_,rfl,b,_,_,_,rfl,rfl,SqT.of hb8,rfl,isDk ha0,a0,k0,rfl,rfl,ha0,?_⟩
   have n1:b≠a0:=fun e=>by rw [e,ha0] at hb8; cases hb8
   have hb9:(L2.upd H8 a0 (.dK [])) b=some (.tup [.str t,.ref a0,.ref a1]):=by rw [jao n1]; exact hb8
   have s39:Same H3 (L2.upd H8 a0 (.dK [])):=Same.updN s48 na0 _
   obtain ⟨k1',ha1'⟩:∃ k,(L2.upd H8 a0 (.dK [])) a1=some (.dK k):=by
    by_cases e:a1=a0
    ·exact ⟨[],by rw [e,jac]⟩
    ·exact ⟨k1,by rw [jao e]; exact ha1⟩
   generalize L2.upd H8 a0 (.dK [])=H9 at *
   refine ⟨_,rfl,b,_,_,_,rfl,rfl,SqT.of hb9,rfl,isDk ha1',a1,k1',rfl,rfl,ha1',?_⟩
   have s310:Same H3 (L2.upd H9 a1 (.dK [])):=Same.updN s39 na1 _
   generalize L2.upd H9 a1 (.dK [])=H10 at *
   refine ⟨_,rfl,_,ps,_,rfl,fm s310,ok,fun H7 s7 z=>absurd z hno,fun t' b' r0' r1' v0' v1' H11 s11 ht' nb' hb' e0' e1' hd0' hd1'=>?_⟩
   have s311:=s310.trans s11
   have s111:=s13.trans s311
   refine ⟨_,rfl,_,rfl,jon (fun z=>nomatch z) (jcc ?_)⟩
   refine ⟨_,rfl,_,rfl,?_⟩
   rw [decide_eq_false (fun z:V.ref b'=.non=>nomatch z)]
   refine jcc ⟨_,rfl,_,rfl,?_⟩
   rw [decide_eq_false (fun z:V.ref b=.non=>nomatch z)]
   refine jcc ⟨_,rfl,_,rfl,_,rfl,_,_,_,r,b',us,ps,t',v0',v1',r0',r1',rfl,⟨fm s311,s111 _ _ hr1,Paired.mapP hp1 fun _ _ z=>z.mono s111,ok,hb',ht',e0',e1',hd0',hd1'⟩,fun H12 s12=>q _⟩
end
open PySem L2 PyProof.Rows
section
variable {K:PySem.W.Frag} {x q:Str} {st:Stmt} {f:Addr} {fd:FuncData} {dfl ds:List Value}
theorem len1 {us:List Value} (h:us.length=1):∃ a,us=[a]:=match us,h with | [_],_=>⟨_,rfl⟩
theorem _root_.L2.Fun.b1 {p0:Str} (F:Fun K x q st f fd) (h:∀ (kV doc pm:Value) (an:Option Addr) (cdv ct a:Value),bindArgs (PySem.W.fnOf x q (jby st) (jaU st) (jag st) .none kV doc pm an cdv ct) ⟨[a],[]⟩=pure [(p0,a)]:=by intros; rfl):Binds K fd [p0] []:=F.binds fun _ _ _ _ _ _ us hl=>by obtain ⟨_,rfl⟩:=len1 hl; exact h ..
theorem len2 {us:List Value} (h:us.length=2):∃ a b,us=[a,b]:=match us,h with | [_,_],_=>⟨_,_,rfl⟩
theorem _root_.L2.Fun.b2 {p0 p1:Str} (F:Fun K x q st f fd) (h:∀ (kV doc pm:Value) (an:Option Addr) (cdv ct a b:Value),bindArgs (PySem.W.fnOf x q (jby st) (jaU st) (jag st) .none kV doc pm an cdv ct) ⟨[a,b],[]⟩=pure [(p0,a),(p1,b)]:=by intros; rfl):Binds K fd [p0,p1] []:=F.binds fun _ _ _ _ _ _ us hl=>by obtain ⟨_,_,rfl⟩:=len2 hl; exact h ..
theorem len3 {us:List Value} (h:us.length=3):∃ a b c,us=[a,b,c]:=match us,h with | [_,_,_],_=>⟨_,_,_,rfl⟩
theorem _root_.L2.Fun.b3 {p0 p1 p2:Str} (F:Fun K x q st f fd) (h:∀ (kV doc pm:Value) (an:Option Addr) (cdv ct a b c:Value),bindArgs (PySem.W.fnOf x q (jby st) (jaU st) (jag st) .none kV doc pm an cdv ct) ⟨[a,b,c],[]⟩=pure [(p0,a),(p1,b),(p2,c)]:=by intros; rfl):Binds K fd [p0,p1,p2] []:=F.binds fun _ _ _ _ _ _ us hl=>by obtain ⟨_,_,_,rfl⟩:=len3 hl; exact h ..
theorem len4 {us:List Value} (h:us.length=4):∃ a b c d,us=[a,b,c,d]:=match us,h with | [_,_,_,_],_=>⟨_,_,_,_,rfl⟩
theorem _root_.L2.Fun.b4 {p0 p1 p2 p3:Str} (F:Fun K x q st f fd) (h:∀ (kV doc pm:Value) (an:Option Addr) (cdv ct a b c d:Value),bindArgs (PySem.W.fnOf x q (jby st) (jaU st) (jag st) .none kV doc pm an cdv ct) ⟨[a,b,c,d],[]⟩=pure [(p0,a),(p1,b),(p2,c),(p3,d)]:=by intros; rfl):Binds K fd [p0,p1,p2,p3] []:=F.binds fun _ _ _ _ _ _ us hl=>by obtain ⟨_,_,_,_,rfl⟩:=len4 hl; exact h ..
theorem ex_i {α:Sort _} {p:α->Prop} {a:α} (h:p a):∃ a,p a:=⟨a,h⟩
def CF (K:PySem.W.Frag) (x:Str) (c:Addr):Prop:=PySem.W.nsIn K mainGlobals x=some (some (.ref c))/\ClsOk K c/\PySem.W.makesIn K c=true/\PySem.W.keepIn K (.ref c)=true
def MF (K:PySem.W.Frag) (c:Addr) (x:Str) (a:Addr):Prop:=PySem.W.findIn K (.ref c) x=some (some (.ref a))/\PySem.W.isFn K (.ref a)=true
end
theorem all_mk {l:PySem.W.OpenLaw} {w:World} {K:PySem.W.Frag} {h:Heap} {mg:Str->Option Value} {fa:Addr} (X:K.In h) (G:h.Ns mainGlobals mg) (hfa:mg "law"=some (.ref fa))
  {aNamesIn aPartsOf aPartOf aCopyOf aNeed aNeedSigns aNeedBounds aStepsOf aAddParts aAddText aAddField aAddRows aReadings aFittingPlaces aPlacesOfSigns aPlacesOfAny aHasPlace aFirstChoices aChoicesAlong aInOrder aJudged aSingle aTwofoldText aPartings aNextPairs aFill aFilledParts aFilledPart aFilledAsk aFilledRows aValueOf aLawCellAt aLawDraw aLawSigns aLawSay aLawAsk aLawInner aLawPiece aLawPieces aLawWord aLawRow aLawValues aLawLine aLawWritten aLawWordFits aLawRowFits aLawFits aLawShown aLaw aFormI aSayI aAskI aRowsI aSignI aChoiceI aTellerI aTellerValuesOf aTellerFieldOf aTellerRowsOf aTellerGoesOn cForm cSay cAsk cRows cSign cChoice cTeller cWords cRow cLen:Addr}
  {dNamesIn dPartsOf dPartOf dCopyOf dNeed dNeedSigns dNeedBounds dStepsOf dAddParts dAddText dAddField dAddRows dReadings dFittingPlaces dPlacesOfSigns dPlacesOfAny dHasPlace dFirstChoices dChoicesAlong dInOrder dJudged dSingle dTwofoldText dPartings dNextPairs dFill dFilledParts dFilledPart dFilledAsk dFilledRows dValueOf dLawCellAt dLawDraw dLawSigns dLawSay dLawAsk dLawInner dLawPiece dLawPieces dLawWord dLawRow dLawValues dLawLine dLawWritten dLawWordFits dLawRowFits dLawFits dLawShown dLaw dFormI dSayI dAskI dRowsI dSignI dChoiceI dTellerI dTellerValuesOf dTellerFieldOf dTellerRowsOf dTellerGoesOn:FuncData} {slW slR:Array (Option Value)}
  {tS t1 t2 t3 t4 t5 t6 t7 t8 u1 u2 u3:Tok} {epL:Nat}
  (p2r:CF K "Form" cForm)
  (p2x:CF K "Say" cSay)
  (p32:CF K "Ask" cAsk)
  (p2n:CF K "Rows" cRows)
  (p2s:CF K "Sign" cSign)
  (p2c:CF K "Choice" cChoice)
  (p2e:CF K "Teller" cTeller)
  (p1u:PySem.W.nsIn K mainGlobals "names_in"=some (some (.ref aNamesIn))/\Fun K "names_in" "names_in" jdD aNamesIn dNamesIn)
  (p21:PySem.W.nsIn K mainGlobals "parts_of"=some (some (.ref aPartsOf))/\Fun K "parts_of" "parts_of" jdE aPartsOf dPartsOf)
  (p2f:PySem.W.nsIn K mainGlobals "part_of"=some (some (.ref aPartOf))/\Fun K "part_of" "part_of" jhc aPartOf dPartOf)
  (p2a:PySem.W.nsIn K mainGlobals "copy_of"=some (some (.ref aCopyOf))/\Fun K "copy_of" "copy_of" jhd aCopyOf dCopyOf)
  (p2o:PySem.W.nsIn K mainGlobals "need"=some (some (.ref aNeed))/\Fun K "need" "need" jnI aNeed dNeed)
  (p11:PySem.W.nsIn K mainGlobals "need_signs"=some (some (.ref aNeedSigns))/\Fun K "need_signs" "need_signs" jct aNeedSigns dNeedSigns)
  (p0p:PySem.W.nsIn K mainGlobals "need_bounds"=some (some (.ref aNeedBounds))/\Fun K "need_bounds" "need_bounds" jcD aNeedBounds dNeedBounds)
  (p26:PySem.W.nsIn K mainGlobals "steps_of"=some (some (.ref aStepsOf))/\Fun K "steps_of" "steps_of" jfm aStepsOf dStepsOf)
  (p18:PySem.W.nsIn K mainGlobals "add_parts"=some (some (.ref aAddParts))/\Fun K "add_parts" "add_parts" jeh aAddParts dAddParts)
  (p25:PySem.W.nsIn K mainGlobals "add_text"=some (some (.ref aAddText))/\Fun K "add_text" "add_text" jfn aAddText dAddText)
  (p16:PySem.W.nsIn K mainGlobals "add_field"=some (some (.ref aAddField))/\Fun K "add_field" "add_field" jei aAddField dAddField)
  (p1q:PySem.W.nsIn K mainGlobals "add_rows"=some (some (.ref aAddRows))/\Fun K "add_rows" "add_rows" jfo aAddRows dAddRows)
  (p1c:PySem.W.nsIn K mainGlobals "readings"=some (some (.ref aReadings))/\∃ t0,FunD K "readings" "readings" jcN aReadings dReadings [.int 2 t0])
  (p01:PySem.W.nsIn K mainGlobals "fitting_places"=some (some (.ref aFittingPlaces))/\Fun K "fitting_places" "fitting_places" jbM aFittingPlaces dFittingPlaces)
  (p04:PySem.W.nsIn K mainGlobals "places_of_signs"=some (some (.ref aPlacesOfSigns))/\Fun K "places_of_signs" "places_of_signs" jbN aPlacesOfSigns dPlacesOfSigns)
  (p0e:PySem.W.nsIn K mainGlobals "places_of_any"=some (some (.ref aPlacesOfAny))/\Fun K "places_of_any" "places_of_any" jci aPlacesOfAny dPlacesOfAny)
  (p1k:PySem.W.nsIn K mainGlobals "has_place"=some (some (.ref aHasPlace))/\Fun K "has_place" "has_place" jej aHasPlace dHasPlace)
  (p05:PySem.W.nsIn K mainGlobals "first_choices"=some (some (.ref aFirstChoices))/\Fun K "first_choices" "first_choices" jbU aFirstChoices dFirstChoices)
  (p08:PySem.W.nsIn K mainGlobals "choices_along"=some (some (.ref aChoicesAlong))/\Fun K "choices_along" "choices_along" jbV aChoicesAlong dChoicesAlong)
  (p1y:PySem.W.nsIn K mainGlobals "in_order"=some (some (.ref aInOrder))/\Fun K "in_order" "in_order" jfp aInOrder dInOrder)
  (p27:PySem.W.nsIn K mainGlobals "judged"=some (some (.ref aJudged))/\Fun K "judged" "judged" jhe aJudged dJudged)
  (p29:PySem.W.nsIn K mainGlobals "single"=some (some (.ref aSingle))/\Fun K "single" "single" jhf aSingle dSingle)
  (p0b:PySem.W.nsIn K mainGlobals "twofold_text"=some (some (.ref aTwofoldText))/\Fun K "twofold_text" "twofold_text" jcj aTwofoldText dTwofoldText)
  (p1h:PySem.W.nsIn K mainGlobals "partings"=some (some (.ref aPartings))/\Fun K "partings" "partings" jek aPartings dPartings)
  (p0q:PySem.W.nsIn K mainGlobals "next_pairs"=some (some (.ref aNextPairs))/\Fun K "next_pairs" "next_pairs" jdj aNextPairs dNextPairs)
  (p2t:PySem.W.nsIn K mainGlobals "fill"=some (some (.ref aFill))/\Fun K "fill" "fill" jnJ aFill dFill)
  (p0a:PySem.W.nsIn K mainGlobals "filled_parts"=some (some (.ref aFilledParts))/\Fun K "filled_parts" "filled_parts" jbJ aFilledParts dFilledParts)
  (p0j:PySem.W.nsIn K mainGlobals "filled_part"=some (some (.ref aFilledPart))/\Fun K "filled_part" "filled_part" jcE aFilledPart dFilledPart)
  (p0r:PySem.W.nsIn K mainGlobals "filled_ask"=some (some (.ref aFilledAsk))/\Fun K "filled_ask" "filled_ask" jdk aFilledAsk dFilledAsk)
  (p0i:PySem.W.nsIn K mainGlobals "filled_rows"=some (some (.ref aFilledRows))/\Fun K "filled_rows" "filled_rows" jbW aFilledRows dFilledRows)
  (p1t:PySem.W.nsIn K mainGlobals "value_of"=some (some (.ref aValueOf))/\Fun K "value_of" "value_of" jfq aValueOf dValueOf)
  (p0x:PySem.W.nsIn K mainGlobals "_law_cell_at"=some (some (.ref aLawCellAt))/\Fun K "_law_cell_at" "_law_cell_at" jdl aLawCellAt dLawCellAt)
  (p1o:PySem.W.nsIn K mainGlobals "_law_draw"=some (some (.ref aLawDraw))/\Fun K "_law_draw" "_law_draw" jfr aLawDraw dLawDraw)
  (p1b:PySem.W.nsIn K mainGlobals "_law_signs"=some (some (.ref aLawSigns))/\Fun K "_law_signs" "_law_signs" jck aLawSigns dLawSigns)
  (p2g:PySem.W.nsIn K mainGlobals "_law_say"=some (some (.ref aLawSay))/\Fun K "_law_say" "_law_say" jel aLawSay dLawSay)
  (p2b:PySem.W.nsIn K mainGlobals "_law_ask"=some (some (.ref aLawAsk))/\Fun K "_law_ask" "_law_ask" jhg aLawAsk dLawAsk)
  (p17:PySem.W.nsIn K mainGlobals "_law_inner"=some (some (.ref aLawInner))/\Fun K "_law_inner" "_law_inner" jem aLawInner dLawInner)
  (p1f:PySem.W.nsIn K mainGlobals "_law_piece"=some (some (.ref aLawPiece))/\Fun K "_law_piece" "_law_piece" jen aLawPiece dLawPiece)
  (p0v:PySem.W.nsIn K mainGlobals "_law_pieces"=some (some (.ref aLawPieces))/\Fun K "_law_pieces" "_law_pieces" jdm aLawPieces dLawPieces)
  (p1z:PySem.W.nsIn K mainGlobals "_law_word"=some (some (.ref aLawWord))/\Fun K "_law_word" "_law_word" jfs aLawWord dLawWord)
  (p28:PySem.W.nsIn K mainGlobals "_law_row"=some (some (.ref aLawRow))/\Fun K "_law_row" "_law_row" jhh aLawRow dLawRow)
  (p0w:PySem.W.nsIn K mainGlobals "_law_values"=some (some (.ref aLawValues))/\Fun K "_law_values" "_law_values" jcu aLawValues dLawValues)
  (p1m:PySem.W.nsIn K mainGlobals "_law_line"=some (some (.ref aLawLine))/\Fun K "_law_line" "_law_line" jft aLawLine dLawLine)
  (p0l:PySem.W.nsIn K mainGlobals "_law_written"=some (some (.ref aLawWritten))/\Fun K "_law_written" "_law_written" jbX aLawWritten dLawWritten)
  (p0g:PySem.W.nsIn K mainGlobals "_law_word_fits"=some (some (.ref aLawWordFits))/\Fun K "_law_word_fits" "_law_word_fits" jbK aLawWordFits dLawWordFits)
  (p0h:PySem.W.nsIn K mainGlobals "_law_row_fits"=some (some (.ref aLawRowFits))/\Fun K "_law_row_fits" "_law_row_fits" jbq aLawRowFits dLawRowFits)
  (p1s:PySem.W.nsIn K mainGlobals "_law_fits"=some (some (.ref aLawFits))/\Fun K "_law_fits" "_law_fits" jcO aLawFits dLawFits)
  (p13:PySem.W.nsIn K mainGlobals "_law_shown"=some (some (.ref aLawShown))/\Fun K "_law_shown" "_law_shown" jeo aLawShown dLawShown)
  (p30:PySem.W.nsIn K mainGlobals "law"=some (some (.ref aLaw))/\Fun K "law" "law" sLaw aLaw dLaw)
  (p2h:MF K cForm "__init__" aFormI/\Fun K "__init__" "Form.__init__" jhV aFormI dFormI)
  (p2q:MF K cSay "__init__" aSayI/\Fun K "__init__" "Say.__init__" jnK aSayI dSayI)
  (p2p:MF K cAsk "__init__" aAskI/\Fun K "__init__" "Ask.__init__" jnL aAskI dAskI)
  (p2l:MF K cRows "__init__" aRowsI/\Fun K "__init__" "Rows.__init__" jkb aRowsI dRowsI)
  (p2k:MF K cSign "__init__" aSignI/\Fun K "__init__" "Sign.__init__" jkc aSignI dSignI)
  (p1v:MF K cChoice "__init__" aChoiceI/\Fun K "__init__" "Choice.__init__" jfu aChoiceI dChoiceI)
  (p1n:MF K cTeller "__init__" aTellerI/\Fun K "__init__" "Teller.__init__" jfv aTellerI dTellerI)
  (p00:MF K cTeller "values_of" aTellerValuesOf/\Fun K "values_of" "Teller.values_of" jbE aTellerValuesOf dTellerValuesOf)
  (p02:MF K cTeller "field_of" aTellerFieldOf/\Fun K "field_of" "Teller.field_of" jbO aTellerFieldOf dTellerFieldOf)
  (p06:MF K cTeller "rows_of" aTellerRowsOf/\Fun K "rows_of" "Teller.rows_of" jbY aTellerRowsOf dTellerRowsOf)
  (p09:MF K cTeller "goes_on" aTellerGoesOn/\Fun K "goes_on" "Teller.goes_on" jbZ aTellerGoesOn dTellerGoesOn)
  (p0m:PySem.W.findIn K (.ref cForm) "pieces"=some none)
  (p1i:PySem.W.findIn K (.ref cForm) "plan"=some none)
  (p1l:PySem.W.findIn K (.ref cSay) "text"=some none)
  (p19:PySem.W.findIn K (.ref cAsk) "least"=some none)
  (p1w:PySem.W.findIn K (.ref cAsk) "most"=some none)
  (p1x:PySem.W.findIn K (.ref cAsk) "name"=some none)
  (p1a:PySem.W.findIn K (.ref cAsk) "signs"=some none)
  (p22:PySem.W.findIn K (.ref cRows) "gap"=some none)
  (p10:PySem.W.findIn K (.ref cRows) "least"=some none)
  (p1j:PySem.W.findIn K (.ref cRows) "most"=some none)
  (p15:PySem.W.findIn K (.ref cRows) "name"=some none)
  (p0t:PySem.W.findIn K (.ref cRows) "parts"=some none)
  (p0z:PySem.W.findIn K (.ref cSign) "signs"=some none)
  (p07:PySem.W.findIn K (.ref cChoice) "behind"=some none)
  (p03:PySem.W.findIn K (.ref cTeller) "choices"=some none)
  (p0c:PySem.W.findIn K (.ref cTeller) "place"=some none)
  (p0o:PySem.W.findIn K (.ref cTeller) "text"=some none)
  (p0n:PySem.W.findIn K (.ref cTeller) "used"=some none)
  (p24:PySem.W.kitOne K (.ref cSay) (.ref cSay)=some true)
  (p1r:PySem.W.kitOne K (.ref cSay) (.ref cAsk)=some false)
  (p20:PySem.W.kitOne K (.ref cAsk) (.ref cSay)=some false)
  (p1p:PySem.W.kitOne K (.ref cAsk) (.ref cAsk)=some true)
  (p1g:PySem.W.kitOne K (.ref cRows) (.ref cSay)=some false)
  (p1d:PySem.W.kitOne K (.ref cRows) (.ref cAsk)=some false)
  (p0u:PySem.W.kitOne K (.ref cSign) (.ref cSign)=some true)
  (p0f:PySem.W.kitOne K (.ref cChoice) (.ref cSign)=some false)
  (p23:PySem.W.kitOne K (.type "str") (.type "str")=some true)
  (p1e:PySem.W.kitOne K (.type "str") (.type "list")=some false)
  (p0s:PySem.W.kitOne K (.type "list") (.type "list")=some true)
  (p0y:PySem.W.kitOne K (.type "dict") (.type "dict")=some true)
  (p0d:PySem.W.kitOne K (.type "tuple") (.type "tuple")=some true)
  (gS:PySem.W.nsIn K mainGlobals "SIGNS"=some (some (.str SIGNS tS)))
  (gW:PySem.W.nsIn K mainGlobals "FORM_WORDS"=some (some (.ref cWords)))
  (gR:PySem.W.nsIn K mainGlobals "ROW_WORDS"=some (some (.ref cRow)))
  (gL:PySem.W.nsIn K mainGlobals "LENGTHS"=some (some (.ref cLen)))
  (tW:K.lookup cWords=some ⟨.type "tuple",none,.seq #[.str "say" t1,.str "ask" t2,.str "rows" t3] 0,slW⟩)
  (tR:K.lookup cRow=some ⟨.type "tuple",none,.seq #[.str "say" t4,.str "ask" t5] 0,slR⟩)
  (tL:K.lookup cLen=some ⟨.type "dict",none,.dict #[⟨PyData.keyHash w.params "say",.str "say" t6,.int 2 u1⟩,⟨PyData.keyHash w.params "ask",.str "ask" t7,.int 5 u2⟩,⟨PyData.keyHash w.params "rows",.str "rows" t8,.int 6 u3⟩] epL,#[]⟩)
  (p33:PySem.W.nsIn K mainGlobals "len"=some none)
  (p2j:PySem.W.nsIn K mainGlobals "range"=some none)
  (p0k:PySem.W.nsIn K mainGlobals "isinstance"=some none)
  (p2v:PySem.W.nsIn K mainGlobals "set"=some none)
  (p2w:PySem.W.nsIn K mainGlobals "all"=some none)
  (p2u:PySem.W.nsIn K mainGlobals "list"=some none)
  (p31:PySem.W.nsIn K mainGlobals "str"=some none)
  (p2m:PySem.W.nsIn K mainGlobals "dict"=some none)
  (p14:PySem.W.nsIn K mainGlobals "reversed"=some none)
  (p12:PySem.W.nsIn K mainGlobals "enumerate"=some none)
  (p2y:PySem.W.nsIn K mainGlobals "max"=some none)
  (p2z:PySem.W.nsIn K mainGlobals "min"=some none)
  (p2d:PySem.W.nsIn K mainGlobals "sorted"=some none)
  (p2i:PySem.W.nsIn K mainGlobals "tuple"=some none) :
  ∃ fd:FuncData,(∀ (s:Shared) (v:Value),BindsTo s fd ⟨[v],[]⟩ [("script",v)])/\∀ base:Heap,K.In base->base.Ns mainGlobals mg->FnOk l.prog w K mg base CX0 13 fa fd ["script"] (jmf K):=by
 have e:=hfa.symm.trans (PySem.W.mg_of X G p30.1)
 cases e
 obtain ⟨rReadings,tReadings0,FReadings⟩:=p1c
 have BReadings:=FReadings.binds (ps:=["form","text","most"]) (ds:=[]) fun _ _ _ _ _ _ _ us hl=>by obtain ⟨_,_,_,rfl⟩:=len3 (show us.length=3 by simpa using hl); exact ⟨_,rfl,rfl⟩
 have EReadings:=FReadings.binds (ps:=["form","text","most"]) (ds:=[.int 2 tReadings0]) fun _ _ _ _ _ _ _ us hl=>by obtain ⟨_,_,rfl⟩:=len2 (show us.length=2 by simpa using hl); exact ⟨_,rfl,rfl⟩
 have T:Txt w K mg ⟨aNamesIn,aPartsOf,aPartOf,aCopyOf,aNeed,aNeedSigns,aNeedBounds,aStepsOf,aAddParts,aAddText,aAddField,aAddRows,aReadings,aFittingPlaces,aPlacesOfSigns,aPlacesOfAny,aHasPlace,aFirstChoices,aChoicesAlong,aInOrder,aJudged,aSingle,aTwofoldText,aPartings,aNextPairs,aFill,aFilledParts,aFilledPart,aFilledAsk,aFilledRows,aValueOf,aLawCellAt,aLawDraw,aLawSigns,aLawSay,aLawAsk,aLawInner,aLawPiece,aLawPieces,aLawWord,aLawRow,aLawValues,aLawLine,aLawWritten,aLawWordFits,aLawRowFits,aLawFits,aLawShown,fa,aFormI,aSayI,aAskI,aRowsI,aSignI,aChoiceI,aTellerI,aTellerValuesOf,aTellerFieldOf,aTellerRowsOf,aTellerGoesOn,dNamesIn,dPartsOf,dPartOf,dCopyOf,dNeed,dNeedSigns,dNeedBounds,dStepsOf,dAddParts,dAddText,dAddField,dAddRows,dReadings,dFittingPlaces,dPlacesOfSigns,dPlacesOfAny,dHasPlace,dFirstChoices,dChoicesAlong,dInOrder,dJudged,dSingle,dTwofoldText,dPartings,dNextPairs,dFill,dFilledParts,dFilledPart,dFilledAsk,dFilledRows,dValueOf,dLawCellAt,dLawDraw,dLawSigns,dLawSay,dLawAsk,dLawInner,dLawPiece,dLawPieces,dLawWord,dLawRow,dLawValues,dLawLine,dLawWritten,dLawWordFits,dLawRowFits,dLawFits,dLawShown,dLaw,dFormI,dSayI,dAskI,dRowsI,dSignI,dChoiceI,dTellerI,dTellerValuesOf,dTellerFieldOf,dTellerRowsOf,dTellerGoesOn,cForm,cSay,cAsk,cRows,cSign,cChoice,cTeller,cWords,cRow,cLen⟩:=⟨p1u.2,p1u.2.b1,PySem.W.mg_of X G p1u.1,p21.2,p21.2.b3,PySem.W.mg_of X G p21.1,p2f.2,p2f.2.b2,PySem.W.mg_of X G p2f.1,p2a.2,p2a.2.b1,PySem.W.mg_of X G p2a.1,p2o.2,p2o.2.b2,PySem.W.mg_of X G p2o.1,p11.2,p11.2.b4,PySem.W.mg_of X G p11.1,p0p.2,p0p.2.b2,PySem.W.mg_of X G p0p.1,p26.2,p26.2.b1,PySem.W.mg_of X G p26.1,p18.2,p18.2.b2,PySem.W.mg_of X G p18.1,p25.2,p25.2.b2,PySem.W.mg_of X G p25.1,p16.2,p16.2.b2,PySem.W.mg_of X G p16.1,p1q.2,p1q.2.b2,PySem.W.mg_of X G p1q.1,⟨_,FReadings⟩,BReadings,⟨_,EReadings⟩,FReadings.kp,PySem.W.mg_of X G rReadings,p01.2,p01.2.b2,PySem.W.mg_of X G p01.1,p04.2,p04.2.b1,PySem.W.mg_of X G p04.1,p0e.2,p0e.2.b2,PySem.W.mg_of X G p0e.1,p1k.2,p1k.2.b2,PySem.W.mg_of X G p1k.1,p05.2,p05.2.b3,PySem.W.mg_of X G p05.1,p08.2,p08.2.b4,PySem.W.mg_of X G p08.1,p1y.2,p1y.2.b1,PySem.W.mg_of X G p1y.1,p27.2,p27.2.b1,PySem.W.mg_of X G p27.1,p29.2,p29.2.b1,PySem.W.mg_of X G p29.1,p0b.2,p0b.2.b1,PySem.W.mg_of X G p0b.1,p1h.2,p1h.2.b1,PySem.W.mg_of X G p1h.1,p0q.2,p0q.2.b4,PySem.W.mg_of X G p0q.1,p2t.2,p2t.2.b2,PySem.W.mg_of X G p2t.1,p0a.2,p0a.2.b2,PySem.W.mg_of X G p0a.1,p0j.2,p0j.2.b2,PySem.W.mg_of X G p0j.1,p0r.2,p0r.2.b2,PySem.W.mg_of X G p0r.1,p0i.2,p0i.2.b2,PySem.W.mg_of X G p0i.1,p1t.2,p1t.2.b2,PySem.W.mg_of X G p1t.1,p0x.2,p0x.2.b2,PySem.W.mg_of X G p0x.1,p1o.2,p1o.2.b2,PySem.W.mg_of X G p1o.1,p1b.2,p1b.2.b1,PySem.W.mg_of X G p1b.1,p2g.2,p2g.2.b1,PySem.W.mg_of X G p2g.1,p2b.2,p2b.2.b4,PySem.W.mg_of X G p2b.1,p17.2,p17.2.b4,PySem.W.mg_of X G p17.1,p1f.2,p1f.2.b4,PySem.W.mg_of X G p1f.1,p0v.2,p0v.2.b3,PySem.W.mg_of X G p0v.1,p1z.2,p1z.2.b3,PySem.W.mg_of X G p1z.1,p28.2,p28.2.b3,PySem.W.mg_of X G p28.1,p0w.2,p0w.2.b3,PySem.W.mg_of X G p0w.1,p1m.2,p1m.2.b2,PySem.W.mg_of X G p1m.1,p0l.2,p0l.2.b2,PySem.W.mg_of X G p0l.1,p0g.2,p0g.2.b2,PySem.W.mg_of X G p0g.1,p0h.2,p0h.2.b2,PySem.W.mg_of X G p0h.1,p1s.2,p1s.2.b2,PySem.W.mg_of X G p1s.1,p13.2,p13.2.b3,PySem.W.mg_of X G p13.1,p30.2,p30.2.b1,PySem.W.mg_of X G p30.1,p2h.2,p2h.2.b2,p2q.2,p2q.2.b2,p2p.2,p2p.2.b2,p2l.2,p2l.2.b2,p2k.2,p2k.2.b2,p1v.2,p1v.2.b2,p1n.2,p1n.2.b3,p00.2,p00.2.b2,⟨p00.1.1,p00.1.2,p00.2.kp⟩,p02.2,p02.2.b2,⟨p02.1.1,p02.1.2,p02.2.kp⟩,p06.2,p06.2.b2,⟨p06.1.1,p06.1.2,p06.2.kp⟩,p09.2,p09.2.b3,⟨p09.1.1,p09.1.2,p09.2.kp⟩,p2r.2.1,⟨p2r.2.2.1,p2h.1.1,p2h.1.2,p2r.2.2.2⟩,PySem.W.mg_of X G p2r.1,p0m,p1i,p2x.2.1,⟨p2x.2.2.1,p2q.1.1,p2q.1.2,p2x.2.2.2⟩,PySem.W.mg_of X G p2x.1,p1l,p32.2.1,⟨p32.2.2.1,p2p.1.1,p2p.1.2,p32.2.2.2⟩,PySem.W.mg_of X G p32.1,p19,p1w,p1x,p1a,p2n.2.1,⟨p2n.2.2.1,p2l.1.1,p2l.1.2,p2n.2.2.2⟩,PySem.W.mg_of X G p2n.1,p22,p10,p1j,p15,p0t,p2s.2.1,⟨p2s.2.2.1,p2k.1.1,p2k.1.2,p2s.2.2.2⟩,PySem.W.mg_of X G p2s.1,p0z,p2c.2.1,⟨p2c.2.2.1,p1v.1.1,p1v.1.2,p2c.2.2.2⟩,PySem.W.mg_of X G p2c.1,p07,p2e.2.1,⟨p2e.2.2.1,p1n.1.1,p1n.1.2,p2e.2.2.2⟩,PySem.W.mg_of X G p2e.1,p03,p0c,p0o,p0n,p24,p1r,p20,p1p,p1g,p1d,p0u,p0f,p23,p1e,p0s,p0y,p0d,⟨tS,PySem.W.mg_of X G gS⟩,PySem.W.mg_of X G gW,PySem.W.mg_of X G gR,PySem.W.mg_of X G gL,⟨t1,t2,t3,slW,tW⟩,⟨t4,t5,slR,tR⟩,⟨t6,t7,t8,u1,u2,u3,epL,tL⟩,PySem.W.mg_none_of X G p33,PySem.W.mg_none_of X G p2j,PySem.W.mg_none_of X G p0k,PySem.W.mg_none_of X G p2v,PySem.W.mg_none_of X G p2w,PySem.W.mg_none_of X G p2u,PySem.W.mg_none_of X G p31,PySem.W.mg_none_of X G p2m,PySem.W.mg_none_of X G p14,PySem.W.mg_none_of X G p12,PySem.W.mg_none_of X G p2y,PySem.W.mg_none_of X G p2z,PySem.W.mg_none_of X G p2d,PySem.W.mg_none_of X G p2i⟩
 obtain ⟨_,_,_,_,_,_,_,_,_,rfl,_,_⟩:=p30.2.ex
 exact ⟨_,fun s v=>.of_eq rfl,fun base _ _=>jpN T⟩
theorem walk {l:PySem.W.OpenLaw} {q:Program} {loose:List Str} {XP:(Str->Option Value)->Heap->Prop} {YP:World->Heap->Prop} {d:DefRec} {K:Params->PySem.W.Frag} (hn:l.most=some 63) (hdf:d.params.defaults=[])
  (hY:∀ (w:World) (h:Heap),YP w h->(K w.params).In h)
  (F:∀ (w:World) (mg:Str->Option Value) (fa:Addr) (h:Heap),(K w.params).In h->h.Ns mainGlobals mg->mg d.name=some (.ref fa) ->
   ∃ fd:FuncData,(∀ (s:Shared) (u:Value),BindsTo s fd ⟨[u],[]⟩ [("script",u)])/\∀ base:Heap,(K w.params).In base->base.Ns mainGlobals mg->FnOk l.prog w (K w.params) mg base CX0 13 fa fd ["script"] (jmf (K w.params))) :
  PySem.W.WalkO q loose XP YP l.row.toRowW d [] (fun f vs=>PySem.call f vs) :=
 L2.walk_of (n:=63) (k:=13) (x:="script") (CX:=fun _=>CX0) (sp:=fun w=>jmf (K w.params)) hn (by decide) hdf ⟨rfl,by decide,by decide⟩ hY F (fun _ _ a ns hl _ hS=>⟨a,ns,rfl,⟨hS,hl⟩,fun _=>rfl⟩) fun _ _ _ _ _ z=>z
end Lf
namespace PySem.W.Fast
def tw13641844067913267677:=0
def tw13946824598934799820:=0
def tw15924199016885540662:=0
def tw13037139841024797856:=0
def tw11033971609448234417:=0
def tw6854492118056566101:=0
def tw12135216992182916578:=0
def tw10843144326983342221:=0
def tw6170617399534080792:=0
def tw15029680968851950323:=0
def tw7294915133532924160:=0
def tw7781527280977602638:=0
def tw530561985688703258:=0
def tw9027465416114103801:=0
def tw1452890250314274227:=0
def tw11835537286996042829:=0
def tw17938880529396120522:=0
def tw10336300133127232514:=0
def tw6753338877473780172:=0
def tw1753096674135836405:=0
def tw7751470666679176390:=0
def tw11556965545666530990:=0
def tw9960246758545297035:=0
def tw12460594975349828856:=0
def tw8267896130785809430:=0
def tw7588766912559865079:=0
def tw14194453989619265283:=0
def tw2218340838783338460:=0
def tw16039889397263891210:=0
def tw15169979068418171477:=0
def tw14086732523432467195:=0
def tw12148249823013250508:=0
def tw816026725342756306:=0
def tw13088929304098943230:=0
def tw13459330278627925478:=0
def tw12674890353645841147:=0
def tw3293256317386035204:=0
def tw4725251587084948193:=0
def tw16743297028003855117:=0
def tw9745522063860159472:=0
def tw2914149934584107046:=0
def tw16472767805163917416:=0
def tw13477948664651389809:=0
def tw13894222556989375697:=0
def tw148794001941559858:=0
def tw3896729774036513405:=0
def tw3670484369001723322:=0
def tw7659528227974285880:=0
def tw313390866869063767:=0
def tw1818210453105346853:=0
def tw14247858994850114047:=0
def tw5166803678353883421:=0
def tw12823457729495707107:=0
def tw475737632813524882:=0
def tw9636034771338296472:=0
def tw10691344313945725361:=0
def tw3368917442435553527:=0
def tw2776578881345754957:=0
def tw11279953333892555101:=0
def tw7720273200350768371:=0
def tw10820435559490737772:=0
def tw10730848455188534659:=0
def tw4117865887196280248:=0
def tw12433944062424974504:=0
def tw11465395870124655406:=0
def tw10954747710922392500:=0
def tw4046461972492534048:=0
def tw12550222753203968591:=0
def tw15446124534205675074:=0
def tw3259513909864737702:=0
def tw14671978764015921771:=0
def tw12323449470122027681:=0
def tw10331852172211351145:=0
def tw12601423249367295904:=0
def tw18187479423426593832:=0
def tw9337617437380518121:=0
def tw4942917326321275906:=0
def tw17650771286456286316:=0
def tw15362867147511794844:=0
def tw1238732435295226303:=0
def tw16998277240923979076:=0
def tw12024221021738231335:=0
def tw12545435439559063468:=0
def tw6649802066813921755:=0
def tw14628639814571713608:=0
def tw11564800398023218415:=0
def tw13905554857986529925:=0
def tw6954906556048411237:=0
def tw5444613019582577531:=0
def tw2135676432369757968:=0
def tw278058204225016824:=0
def tw9384529976109342302:=0
def tw16622283646980150602:=0
def tw10188627424775468843:=0
def tw18290307087828293023:=0
def tw6979902518529929742:=0
def tw11845777128197133753:=0
def tw9742789400083643550:=0
def tw9144366930285130284:=0
def tw7811237832400810236:=0
def tw8211892719842321865:=0
def tw14121308636549882256:=0
def tw16934421442906061398:=0
def tw59551795430502534:=0
def tw4469126957689706262:=0
def tw1146634915880082369:=0
def tw15623666866955694157:=0
def tw4359441713538679856:=0
def tw2481935954234282041:=0
def tw1088669092533508484:=0
def tw5725726502733393764:=0
def tw3352464286961137064:=0
def tw8326861238228659681:=0
def tw2193359052163730961:=0
def tw14194338826312189350:=0
def tw14504975458446538471:=0
def tw18094232908578186502:=0
def tw17974452386156008319:=0
def tw15305881742923901677:=0
def tw15040658667936932007:=0
def tw7915298218894499795:=0
def tw14266654688646465824:=0
def tw17279186729869145449:=0
def tw16342590375848796302:=0
def tw12046153829863647912:=0
def tw3088429326125480692:=0
def tw17404199161162492165:=0
def tw17003994925106564581:=0
def tw11407640119180419127:=0
def tw15580881803208862112:=0
def tw4861200933507535171:=0
def tw16483304119109795483:=0
def tw5813792862787973388:=0
def tw7129917658743235924:=0
def tw12933619255885262340:=0
def tw6465971703312268223:=0
def tw1963420916992982596:=0
def tw2846769317103962027:=0
def tw15634377582399253199:=0
def tw12236138987277780848:=0
def tw9388464191014403897:=0
def tw13587452926655610689:=0
def tw12193786623447238306:=0
def tw17372063247499641043:=0
def tw15272582396857544251:=0
def tw7713518926420227429:=0
def tw10931577538442927730:=0
def tw13788644886935939610:=0
def tw12710998592743119082:=0
def tw12114899203713898506:=0
def tw9135080923092023444:=0
def tw10205070639292336172:=0
def tw7046877314366823025:=0
def tw14102629217022205259:=0
def tw8333777578487725307:=0
def tw18141924575859347170:=0
def tw5729301814866021833:=0
def tw5041608598687817040:=0
def tw5070248855112682669:=0
def tw6876030872710147861:=0
def tw10258685834957273244:=0
def tw4832384077657448876:=0
def tw17982922235533909628:=0
def tw12408081624534574443:=0
def tw9067861855700797156:=0
def tw11848515800807625843:=0
def tw12045090256868020120:=0
def tw9681116774043242591:=0
def tw13035191525054367100:=0
def tw664245732686338049:=0
def tw13012513901207210786:=0
def tw17141696938520958472:=0
def tw2308133857611638978:=0
def tw12450216605826513221:=0
def tw5487360846971869817:=0
def tw11350957342554134505:=0
def tw2869304969871385080:=0
def tw17786464014077312088:=0
def tw4245640927302893802:=0
def tw2185746660991794454:=0
def tw4491472379507770802:=0
def tw6139248889508581506:=0
def tw12650770938404116263:=0
def tw407178182953214537:=0
def tw4600330746299010487:=0
def tw3540887049607040195:=0
def tw2037816634986816112:=0
def tw2496096339533039458:=0
def tw3621815802844084060:=0
def tw17298552117281756349:=0
def tw18357385685247297877:=0
def tw11512700679966947447:=0
def tw18253773989703697937:=0
def tw11029047480616605303:=0
def tw9747237402415745396:=0
def tw17051642979454323922:=0
def tw2835555187120924915:=0
def tw17983158169638580237:=0
def tw2619982635153006513:=0
def tw15491898674291497192:=0
def tw4400639090065263361:=0
def tw2590750061779474392:=0
def tw14344312638147605223:=0
def tw6708735104698480496:=0
def tw6175981041180863526:=0
def tw7110434821538341810:=0
def tw10199079641815592831:=0
def tw13513436320275016013:=0
def tw6789912744606028228:=0
def tw13459874410992956486:=0
def tw9935493990620170308:=0
def tw5735728869594506046:=0
def tw3554636461384153636:=0
def tw5516762136579029643:=0
def tw1208557758344846425:=0
def tw15741641335107966597:=0
def tw16001092738931198436:=0
def tw9819389679624855342:=0
def tw965087590011251377:=0
def tw9838567452257757342:=0
def tw7401287342040273288:=0
def tw10710942250254159700:=0
def tw5579986311722783587:=0
def tw18339811564148432463:=0
def tw8955344248401693980:=0
def tw1780002681895754526:=0
def tw12512404305902001710:=0
def tw3112813323744183134:=0
def tw17731432115942540577:=0
def tw6427253045335114528:=0
def tw17398022212190785770:=0
def tw5357296029395202495:=0
def tw17184110613463860903:=0
def tw10606601570089101707:=0
def tw692528982790259157:=0
def tw10902190318290764208:=0
def tw9639225246974889176:=0
def tw4467616222203151597:=0
def tw18336104320290889399:=0
def tw6828107671919581763:=0
def tw7618894959382208566:=0
def tw13157232656769016191:=0
def tw4296830923622548972:=0
def tw16408654632082989226:=0
def tw17653992200957580674:=0
def tw2310219170512849229:=0
def tw9604109310934690131:=0
def tw18018387220680918802:=0
def tw4145634019809889320:=0
def tw1126068391177896491:=0
def tw11845643793727116437:=0
def tw2105124672827622451:=0
def tw7984940215306774414:=0
def tw17266148386274581175:=0
def tw11334357296088116847:=0
def tw54563660719450295:=0
def tw2171262856150991501:=0
def tw10630673846524634483:=0
def tw4458138349673479666:=0
def tw2789521638212923146:=0
def tw6322187502918763617:=0
def tw15121976846896507053:=0
def tw11428669817488832877:=0
def tw11937189596616166221:=0
def tw9671741821969903394:=0
def tw17798704486286510255:=0
def tw7330799524797951874:=0
def tw14606576469912301531:=0
def tw16504039052365259542:=0
def tw15358480714845554588:=0
def tw7451164461799096466:=0
def tw5757792312669303628:=0
def tw8233360583930023756:=0
def tw10491175885793640627:=0
def tw18270738165001418191:=0
def tw6621691542508485955:=0
def tw3311457851547862195:=0
def tw5723303814681475721:=0
def tw12794731781793244568:=0
def tw13823123163775669769:=0
def tw15287162162571038266:=0
def tw13229541713102329950:=0
def tw9277025821707565768:=0
def tw8068360713463446174:=0
def tw14825918020523331538:=0
def tw14355917749145703932:=0
def tw6007722319396362780:=0
def tw8949971124040873681:=0
def tw7129650311811951969:=0
def tw11660178802019389282:=0
def tw3260662884059635991:=0
def tw3985999020866935827:=0
def tw15308515262528915396:=0
def tw16002546257902242600:=0
def tw8814218685572227330:=0
def tw12522954009915820259:=0
def tw2782659722735683432:=0
def tw1173910015981027260:=0
def tw7884265445244014228:=0
def tw10231768618474477915:=0
def tw14833708537921579228:=0
def tw13320053704733053772:=0
def tw18122178367312796427:=0
def tw3232351063413848816:=0
def tw3400764075753756436:=0
def tw7423333204923138268:=0
def tw10704290392384970957:=0
def tw15948042067697303247:=0
def tw11116374320532796162:=0
def tw8990038448431787508:=0
def tw3133838891378305198:=0
def tw8542837243517810281:=0
def tw5974845245574027166:=0
def tw15295255525854229802:=0
def tw12483838859357323838:=0
def tw10494152211104489537:=0
def tw11325739028632570012:=0
def tw15355918602176195403:=0
def tw9950515834222398921:=0
def tw18302290510205916369:=0
def tw14366382240805405779:=0
def tw11977039322438693573:=0
def tw2138095167994046909:=0
def tw15960633399125852584:=0
def tw10143537456379831905:=0
def tw4403436879148004844:=0
def tw10567507559442249729:=0
def tw15465394001538350121:=0
def tw17863746784526091681:=0
def tw9518528773345600376:=0
def tw5890749035906163854:=0
def tw16662962449783088174:=0
def tw14149287198697642803:=0
def tw7349484711969574304:=0
def tw12228817171093260832:=0
def tw2604977538604485591:=0
def tw3491274482661384556:=0
def tw303048830297854951:=0
def tw753109143282058185:=0
def tw6236264459862818274:=0
def tw6367996161367379852:=0
def tw11283714436661718912:=0
def tw7870543331870421748:=0
def tw158545341821352358:=0
def tw6578405725030534583:=0
def tw8456655874045666252:=0
def tw9657713962393859193:=0
def tw848381899747371765:=0
def tw8446214817234795583:=0
def tw1452121515318503779:=0
def tw5836000268722436044:=0
def tw15363342936994351702:=0
def tw5831539205263293543:=0
end PySem.W.Fast
open PySem PySem.W PyProof.Rows
set_option maxRecDepth 100000 in
set_option maxHeartbeats 0 in
theorem PySem.Challenge.cw_letterform_k08_whole_single_or_twofold_holds : PySem.Challenge.rw_letterform_k08_whole_single_or_twofold.Holds := by
 w_on; o_law; k_head; (case hw=>w_witness2)
 k_fill
 refine Lf.walk (l:=PySem.Challenge.rw_letterform_k08_whole_single_or_twofold) rfl rfl (fun w h Y=>PySem.W.kIn_of Y) ?F
 case F =>
  intro w mg fa h KX G hmg
  refine' Lf.all_mk KX G hmg ?p2r ?p2x ?p32 ?p2n ?p2s ?p2c ?p2e ?p1u ?p21 ?p2f ?p2a ?p2o ?p11 ?p0p ?p26 ?p18 ?p25 ?p16 ?p1q ?p1c ?p01 ?p04 ?p0e ?p1k ?p05 ?p08 ?p1y ?p27 ?p29 ?p0b ?p1h ?p0q ?p2t ?p0a ?p0j ?p0r ?p0i ?p1t ?p0x ?p1o ?p1b ?p2g ?p2b ?p17 ?p1f ?p0v ?p1z ?p28 ?p0w ?p1m ?p0l ?p0g ?p0h ?p1s ?p13 ?p30 ?p2h ?p2q ?p2p ?p2l ?p2k ?p1v ?p1n ?p00 ?p02 ?p06 ?p09 ?p0m ?p1i ?p1l ?p19 ?p1w ?p1x ?p1a ?p22 ?p10 ?p1j ?p15 ?p0t ?p0z ?p07 ?p03 ?p0c ?p0o ?p0n ?p24 ?p1r ?p20 ?p1p ?p1g ?p1d ?p0u ?p0f ?p23 ?p1e ?p0s ?p0y ?p0d ?gS ?gW ?gR ?gL ?tW ?tR ?tL ?p33 ?p2j ?p0k ?p2v ?p2w ?p2u ?p31 ?p2m ?p14 ?p12 ?p2y ?p2z ?p2d ?p2i
  (case p2r | p2x | p32 | p2n | p2s | p2c | p2e=>(refine' ⟨?x,⟨⟨?a,?b,?c,?d⟩,?e,?f,?g,?i⟩,?j,?k⟩; (case x | a | b | c | d | e | f | g | i | j | k=>k_is)))
  (case p1u | p21 | p2f | p2a | p2o | p11 | p0p | p26 | p18 | p25 | p16 | p1q=>(refine' ⟨?x,L2.fun_mk ?y ?z ?u⟩; (case x | y | z | u=>k_is)))
  (case p1c=>(refine' ⟨?x,Lf.ex_i (L2.funD_mk ?y ?z ?u ?v)⟩; (case x | y | z | u | v=>k_is)))
  (case p01 | p04 | p0e | p1k | p05 | p08 | p1y | p27 | p29 | p0b | p1h | p0q | p2t | p0a | p0j | p0r | p0i | p1t | p0x | p1o | p1b | p2g | p2b | p17 | p1f | p0v | p1z | p28 | p0w | p1m | p0l | p0g | p0h | p1s | p13 | p30=>(refine' ⟨?x,L2.fun_mk ?y ?z ?u⟩; (case x | y | z | u=>k_is)))
  (case p2h | p2q | p2p | p2l | p2k | p1v | p1n | p00 | p02 | p06 | p09=>(refine' ⟨⟨?x,?v⟩,L2.fun_mk ?y ?z ?u⟩; (case x | v | y | z | u=>k_is)))
  (case p0m | p1i | p1l | p19 | p1w | p1x | p1a | p22 | p10 | p1j | p15 | p0t | p0z | p07 | p03 | p0c | p0o | p0n=>k_is)
  (case p24 | p1r | p20 | p1p | p1g | p1d | p0u | p0f | p23 | p1e | p0s | p0y | p0d=>kit_is)
  (case gS | gW | gR | gL | tW | tR | tL | p33 | p2j | p0k | p2v | p2w | p2u | p31 | p2m | p14 | p12 | p2y | p2z | p2d | p2i=>k_is)
